import PyProof.Rows.All
import Wide.All
import OpenK.AllK
import Wide.FinOn
import Lean
import PyProof.EqAt
import PyProof.EqKinds
import PyProof.TupleCall
import PyProof.CompFree
import PyProof.ZipIter
import PyProof.Cells
import PyProof.Rows.CellsFrame
import PyProof.EnumMake
import PyProof.TupleIter
import PyProof.IsiPairs
import PyProof.IsiSeqPairs
import PyProof.IsiNone
import PyProof.ConsumeWalk
import PyProof.DictCompW
import PyProof.NeKinds
import PyProof.MinMaxWalk
import PyProof.Rows.SortRev
import KE.KIsAll
import KE.KDictOf
import PyProof.AttrMissHeap
import PyProof.CallFns
import KE.KLam
import KE.KSortKey
import PyProof.MaxThree
import PySem.Challenge.RW_boxlayers_k47_covers_spoilt
set_option Elab.async false
set_option linter.all false
namespace K47H
section
open PySem PySem.W PyProof.Rows
noncomputable def top (i : Nat) : Stmt := PySem.Challenge.pw_boxlayers_k47_covers_spoilt.main.body.getD i (.Pass ⟨0, 0, 0, 0⟩)
noncomputable def view:Program:={ PySem.Challenge.pw_boxlayers_k47_covers_spoilt with main:={ PySem.Challenge.pw_boxlayers_k47_covers_spoilt.main with body:=[top 1,top 2,top 3,top 5,top 6,top 7,top 8,top 9,top 10,top 11,top 12,top 13,top 14,top 15,top 16,top 17,top 18,top 20,top 21,top 24,top 25,top 26,top 27,top 28,top 29,top 30,top 31,top 33,top 34,top 35,top 36,top 37,top 38,top 39,top 40,top 41,top 42,top 43,top 44,top 45,top 46,top 47,top 48,top 49,top 50,top 51,top 52,top 53,top 54,top 55,top 56,top 57] } }
local macro_rules | `(tactic| o_head (kmHook $k $a $e $t)) => `(tactic| (assumption; exact ($a, $t)))
set_option maxRecDepth 100000 in
set_option maxHeartbeats 0 in
noncomputable def hk : List Addr × List Addr := by
  refine (fun (_ : (OpenLaw.row PySem.Challenge.rw_boxlayers_k47_covers_spoilt).Holds → (OpenLaw.row PySem.Challenge.rw_boxlayers_k47_covers_spoilt).Holds) => ?a) (fun h => ?b)
  rotate_left
  k_head
noncomputable abbrev hook : Hook := kmHook hk.heap_1 hk.1 (fun _ => by kernel_rfl) hk.2
theorem four {u v a1 a2 a3 a4 a5 : Type} {o : Option u} {g : u → Option v} {A : v → a1} {B1 : v → a2} {B2 : v → a3} {C : v → a4} {E : v → a5} {a : a1} {b1 : a2} {b2 : a3} {c : a4} {e : a5} (h1 : o.map (fun x => (g x).map A) = some (some a)) (h2 : o.map (fun x => (g x).map fun s => (B1 s, B2 s)) = some (some (b1, b2))) (h3 : o.map (fun x => (g x).map C) = some (some c)) (h4 : o.map (fun x => (g x).map E) = some (some e)) : o.map (fun x => (g x).map fun s => ((A s, B1 s, B2 s, C s), E s)) = some (some ((a, b1, b2, c), e)) := by
  cases o with
  | none => cases h1
  | some x =>
    have k1 : (g x).map A = some a := Option.some.inj h1
    have k2 : ((g x).map fun s => (B1 s, B2 s)) = some (b1, b2) := Option.some.inj h2
    have k3 : (g x).map C = some c := Option.some.inj h3
    have k4 : (g x).map E = some e := Option.some.inj h4
    show some ((g x).map _) = _
    cases hg : g x with
    | none => rw [hg] at k1; cases k1
    | some s =>
      rw [hg] at k1 k2 k3 k4
      have m1 : A s = a := Option.some.inj k1
      have m2 : (B1 s, B2 s) = (b1, b2) := Option.some.inj k2
      have m3 : C s = c := Option.some.inj k3
      have m4 : E s = e := Option.some.inj k4
      have m5 : B1 s = b1 := (Prod.mk.inj m2).1
      have m6 : B2 s = b2 := (Prod.mk.inj m2).2
      subst m1 m3 m4 m5 m6
      rfl
set_option maxRecDepth 100000 in
set_option maxHeartbeats 0 in
theorem headFa (w : World) : (fencedOpening treeTable (OpenLaw.row PySem.Challenge.rw_boxlayers_k47_covers_spoilt).prog w 10000).map (fun a => (topFrom treeTable (OpenLaw.row PySem.Challenge.rw_boxlayers_k47_covers_spoilt).prog (w.withFollow "special-get-raises" false) 10000 a).map (fun s => (openSeen view ["LENGTHS"] (importedModules (OpenLaw.row PySem.Challenge.rw_boxlayers_k47_covers_spoilt).prog.main.body) (fun s => xlAt view [] s && recOk (RowW.records (OpenRow.toRowW (OpenLaw.row PySem.Challenge.rw_boxlayers_k47_covers_spoilt))) s) true s).1)) = some (some ((openGood view ["LENGTHS"]).1)) := by kernel_rfl
set_option maxRecDepth 100000 in
set_option maxHeartbeats 0 in
theorem headFb (w : World) : (fencedOpening treeTable (OpenLaw.row PySem.Challenge.rw_boxlayers_k47_covers_spoilt).prog w 10000).map (fun a => (topFrom treeTable (OpenLaw.row PySem.Challenge.rw_boxlayers_k47_covers_spoilt).prog (w.withFollow "special-get-raises" false) 10000 a).map (fun s => ((openSeen view ["LENGTHS"] (importedModules (OpenLaw.row PySem.Challenge.rw_boxlayers_k47_covers_spoilt).prog.main.body) (fun s => xlAt view [] s && recOk (RowW.records (OpenRow.toRowW (OpenLaw.row PySem.Challenge.rw_boxlayers_k47_covers_spoilt))) s) true s).2.1, (openSeen view ["LENGTHS"] (importedModules (OpenLaw.row PySem.Challenge.rw_boxlayers_k47_covers_spoilt).prog.main.body) (fun s => xlAt view [] s && recOk (RowW.records (OpenRow.toRowW (OpenLaw.row PySem.Challenge.rw_boxlayers_k47_covers_spoilt))) s) true s).2.2.1))) = some (some (((openGood view ["LENGTHS"]).2.1, (openGood view ["LENGTHS"]).2.2.1))) := by kernel_rfl
set_option maxRecDepth 100000 in
set_option maxHeartbeats 0 in
theorem headFc (w : World) : (fencedOpening treeTable (OpenLaw.row PySem.Challenge.rw_boxlayers_k47_covers_spoilt).prog w 10000).map (fun a => (topFrom treeTable (OpenLaw.row PySem.Challenge.rw_boxlayers_k47_covers_spoilt).prog (w.withFollow "special-get-raises" false) 10000 a).map (fun s => (openSeen view ["LENGTHS"] (importedModules (OpenLaw.row PySem.Challenge.rw_boxlayers_k47_covers_spoilt).prog.main.body) (fun s => xlAt view [] s && recOk (RowW.records (OpenRow.toRowW (OpenLaw.row PySem.Challenge.rw_boxlayers_k47_covers_spoilt))) s) true s).2.2.2)) = some (some ((openGood view ["LENGTHS"]).2.2.2)) := by kernel_rfl
set_option maxRecDepth 100000 in
set_option maxHeartbeats 0 in
theorem headFd (w : World) : (fencedOpening treeTable (OpenLaw.row PySem.Challenge.rw_boxlayers_k47_covers_spoilt).prog w 10000).map (fun a => (topFrom treeTable (OpenLaw.row PySem.Challenge.rw_boxlayers_k47_covers_spoilt).prog (w.withFollow "special-get-raises" false) 10000 a).map (fun s => Hook.obs hook s)) = some (some (Hook.val hook (w.withFollow "special-get-raises" false))) := by kernel_rfl
theorem headF (w : World) : (fencedOpening treeTable (OpenLaw.row PySem.Challenge.rw_boxlayers_k47_covers_spoilt).prog w 10000).map (fun a => (topFrom treeTable (OpenLaw.row PySem.Challenge.rw_boxlayers_k47_covers_spoilt).prog (w.withFollow "special-get-raises" false) 10000 a).map (fun s => ((openSeen view ["LENGTHS"] (importedModules (OpenLaw.row PySem.Challenge.rw_boxlayers_k47_covers_spoilt).prog.main.body) (fun s => xlAt view [] s && recOk (RowW.records (OpenRow.toRowW (OpenLaw.row PySem.Challenge.rw_boxlayers_k47_covers_spoilt))) s) true s), Hook.obs hook s))) = some (some ((openGood view ["LENGTHS"]), Hook.val hook (w.withFollow "special-get-raises" false))) := four (headFa w) (headFb w) (headFc w) (headFd w)
set_option maxRecDepth 100000 in
set_option maxHeartbeats 0 in
theorem headTa (w : World) : (fencedOpening treeTable (OpenLaw.row PySem.Challenge.rw_boxlayers_k47_covers_spoilt).prog w 10000).map (fun a => (topFrom treeTable (OpenLaw.row PySem.Challenge.rw_boxlayers_k47_covers_spoilt).prog (w.withFollow "special-get-raises" true) 10000 a).map (fun s => (openSeen view ["LENGTHS"] (importedModules (OpenLaw.row PySem.Challenge.rw_boxlayers_k47_covers_spoilt).prog.main.body) (fun s => xlAt view [] s && recOk (RowW.records (OpenRow.toRowW (OpenLaw.row PySem.Challenge.rw_boxlayers_k47_covers_spoilt))) s) true s).1)) = some (some ((openGood view ["LENGTHS"]).1)) := by kernel_rfl
set_option maxRecDepth 100000 in
set_option maxHeartbeats 0 in
theorem headTb (w : World) : (fencedOpening treeTable (OpenLaw.row PySem.Challenge.rw_boxlayers_k47_covers_spoilt).prog w 10000).map (fun a => (topFrom treeTable (OpenLaw.row PySem.Challenge.rw_boxlayers_k47_covers_spoilt).prog (w.withFollow "special-get-raises" true) 10000 a).map (fun s => ((openSeen view ["LENGTHS"] (importedModules (OpenLaw.row PySem.Challenge.rw_boxlayers_k47_covers_spoilt).prog.main.body) (fun s => xlAt view [] s && recOk (RowW.records (OpenRow.toRowW (OpenLaw.row PySem.Challenge.rw_boxlayers_k47_covers_spoilt))) s) true s).2.1, (openSeen view ["LENGTHS"] (importedModules (OpenLaw.row PySem.Challenge.rw_boxlayers_k47_covers_spoilt).prog.main.body) (fun s => xlAt view [] s && recOk (RowW.records (OpenRow.toRowW (OpenLaw.row PySem.Challenge.rw_boxlayers_k47_covers_spoilt))) s) true s).2.2.1))) = some (some (((openGood view ["LENGTHS"]).2.1, (openGood view ["LENGTHS"]).2.2.1))) := by kernel_rfl
set_option maxRecDepth 100000 in
set_option maxHeartbeats 0 in
theorem headTc (w : World) : (fencedOpening treeTable (OpenLaw.row PySem.Challenge.rw_boxlayers_k47_covers_spoilt).prog w 10000).map (fun a => (topFrom treeTable (OpenLaw.row PySem.Challenge.rw_boxlayers_k47_covers_spoilt).prog (w.withFollow "special-get-raises" true) 10000 a).map (fun s => (openSeen view ["LENGTHS"] (importedModules (OpenLaw.row PySem.Challenge.rw_boxlayers_k47_covers_spoilt).prog.main.body) (fun s => xlAt view [] s && recOk (RowW.records (OpenRow.toRowW (OpenLaw.row PySem.Challenge.rw_boxlayers_k47_covers_spoilt))) s) true s).2.2.2)) = some (some ((openGood view ["LENGTHS"]).2.2.2)) := by kernel_rfl
set_option maxRecDepth 100000 in
set_option maxHeartbeats 0 in
theorem headTd (w : World) : (fencedOpening treeTable (OpenLaw.row PySem.Challenge.rw_boxlayers_k47_covers_spoilt).prog w 10000).map (fun a => (topFrom treeTable (OpenLaw.row PySem.Challenge.rw_boxlayers_k47_covers_spoilt).prog (w.withFollow "special-get-raises" true) 10000 a).map (fun s => Hook.obs hook s)) = some (some (Hook.val hook (w.withFollow "special-get-raises" true))) := by kernel_rfl
theorem headT (w : World) : (fencedOpening treeTable (OpenLaw.row PySem.Challenge.rw_boxlayers_k47_covers_spoilt).prog w 10000).map (fun a => (topFrom treeTable (OpenLaw.row PySem.Challenge.rw_boxlayers_k47_covers_spoilt).prog (w.withFollow "special-get-raises" true) 10000 a).map (fun s => ((openSeen view ["LENGTHS"] (importedModules (OpenLaw.row PySem.Challenge.rw_boxlayers_k47_covers_spoilt).prog.main.body) (fun s => xlAt view [] s && recOk (RowW.records (OpenRow.toRowW (OpenLaw.row PySem.Challenge.rw_boxlayers_k47_covers_spoilt))) s) true s), Hook.obs hook s))) = some (some ((openGood view ["LENGTHS"]), Hook.val hook (w.withFollow "special-get-raises" true))) := four (headTa w) (headTb w) (headTc w) (headTd w)
theorem two_map {u v : Type} {o : Option u} {A B : u → v} {a b : v} (h1 : o.map A = some a) (h2 : o.map B = some b) : o.map (fun s => (A s, B s)) = some (a, b) := by
  cases o with
  | none => cases h1
  | some s => exact congrArg some (congr (congrArg Prod.mk (Option.some.inj h1)) (Option.some.inj h2))
theorem left : LeftO (OpenLaw.row PySem.Challenge.rw_boxlayers_k47_covers_spoilt).prog view ["LENGTHS"] (fun s => xlAt view [] s && recOk (RowW.records (OpenRow.toRowW (OpenLaw.row PySem.Challenge.rw_boxlayers_k47_covers_spoilt))) s) (Hook.obs hook) (Hook.val hook) 10000 := LeftO.of_split "special-get-raises" fun w => @two_map _ _ _ _ _ _ _ (headF w) (headT w)
end
end K47H
noncomputable abbrev QqV:=PySem.Value->PySem.Shared->Prop
noncomputable abbrev QqL:=List (PySem.Addr × PySem.Obj)
noncomputable abbrev QqM:=PySem.Str->Option PySem.Value
noncomputable abbrev QqA:=PySem.Addr->Prop
noncomputable abbrev QqI:=List (List Int)
noncomputable abbrev QqW:=List PySem.Value
noncomputable abbrev QqE:=Option PySem.Addr
open PySem PySem.Spec PyProof.Rows
open List (of_mem_zip replicate length_nil any_cons forIn_nil forIn_cons take_left' length_zipWith drop_drop reverse_reverse reverse_perm map_id length_zip)
noncomputable section
set_option Elab.async false
set_option linter.all false
set_option maxRecDepth 100000
section
noncomputable def wZ:=@Array.getD_eq_getD_getElem?
noncomputable def wC:=@Array.getElem?_eq_getElem
noncomputable def wA:=@Array.getElem?_eq_none
noncomputable def yS:=@Array.getElem?_map
noncomputable def zP:=@Array.getElem?_toList
noncomputable def zk:=@Array.length_toList
noncomputable def xX:=@Array.map_append
noncomputable def xB:=@Array.map_extract
noncomputable def wt:=@Array.perm_iff_toList_perm
noncomputable def wT:=@Array.size_extract
noncomputable def zN:=@Array.size_map
noncomputable def yJ:=@Array.size_range
noncomputable def xj:=@Array.toList_append
noncomputable def ww:=@Array.toList_extract
noncomputable def va:=@Array.toList_push
noncomputable def zE:=@Bool.and_eq_true
noncomputable def wR:=@Bool.eq_iff_iff
noncomputable def yp:=@Bool.false_and
noncomputable def xM:=@Bool.false_eq_true
noncomputable def zF:=@Bool.false_ne_true
noncomputable def yW:=@Bool.or_eq_true
noncomputable def yE:=@Bool.true_and
noncomputable def zg:=@Heap.get?_push_of_some
noncomputable def zD:=@Heap.get?_push_size
noncomputable def zw:=@Heap.lt_size
noncomputable def wL:=@Heap.size_push
noncomputable def yo:=@Int.emod_lt_of_pos
noncomputable def yx:=@Int.emod_nonneg
noncomputable def zZ:=@Int.eq_ofNat_of_zero_le
noncomputable def yD:=@List.all_cons
noncomputable def xz:=@List.all_eq_true
noncomputable def yw:=@List.all_map
noncomputable def yh:=@List.any_eq_true
noncomputable def wq:=@List.append_assoc
noncomputable def yV:=@List.append_nil
noncomputable def yr:=@List.drop_eq_getElem_cons
noncomputable def yU:=@List.drop_left'
noncomputable def vf:=@List.drop_zero
noncomputable def xS:=@List.extract_eq_take_drop
noncomputable def yH:=@List.filterMap_cons
noncomputable def yn:=@List.filterMap_map
noncomputable def wc:=@List.flatten_cons
noncomputable def xa:=@List.getD_eq_getElem?_getD
noncomputable def xE:=@List.getElem?_append_left
noncomputable def xt:=@List.getElem?_append_right
noncomputable def wf:=@List.getElem?_drop
noncomputable def ze:=@List.getElem?_eq_getElem
noncomputable def zu:=@List.getElem?_eq_some_iff
noncomputable def zv:=@List.getElem?_map
noncomputable def yb:=@List.getElem?_range
noncomputable def xv:=@List.getElem?_replicate
noncomputable def xq:=@List.getElem?_set_ne
noncomputable def xl:=@List.getElem?_set_self
noncomputable def yR:=@List.getElem?_take
noncomputable def wz:=@List.getElem_mem
noncomputable def zr:=@List.length_append
noncomputable def zL:=@List.length_cons
noncomputable def wj:=@List.length_drop
noncomputable def xO:=@List.length_eq_zero_iff
noncomputable def zh:=@List.length_map
noncomputable def wY:=@List.length_range
noncomputable def wm:=@List.length_replicate
noncomputable def xh:=@List.length_take
noncomputable def xG:=@List.lookup_cons
noncomputable def al_List_lookup_cons_self:=@List.lookup_cons_self
noncomputable def xx:=@List.map_append
noncomputable def yG:=@List.map_congr_left
noncomputable def al_List_map_cons:=@List.map_cons
noncomputable def xg:=@List.map_map
noncomputable def zU:=@List.mem_append
noncomputable def xu:=@List.mem_append_left
noncomputable def zI:=@List.mem_append_right
noncomputable def zt:=@List.mem_cons
noncomputable def zG:=@List.mem_cons_of_mem
noncomputable def xo:=@List.mem_cons_self
noncomputable def xf:=@List.mem_filter
noncomputable def ym:=@List.mem_iff_getElem?
noncomputable def zQ:=@List.mem_map
noncomputable def xk:=@List.mem_of_getElem?
noncomputable def xD:=@List.mem_range
noncomputable def wI:=@List.mem_reverse
noncomputable def xi:=@List.mem_singleton
noncomputable def yv:=@List.nil_append
noncomputable def zW:=@List.not_mem_nil
noncomputable def wG:=@List.pairwise_cons
noncomputable def wB:=@List.pairwise_iff_getElem
noncomputable def yC:=@List.pairwise_map
noncomputable def wO:=@List.replicate_succ
noncomputable def ya:=@List.reverse_append
noncomputable def zn:=@List.size_toArray
noncomputable def xI:=@List.take_add_one
noncomputable def wl:=@List.take_append_drop
noncomputable def wy:=@List.take_length
noncomputable def wK:=@List.take_of_length_le
noncomputable def yI:=@List.zipIdx_cons
noncomputable def yl:=@List.zip_cons_cons
noncomputable def wb:=@Nat.le_of_lt
noncomputable def zi:=@Nat.le_refl
noncomputable def wo:=@Nat.le_succ
noncomputable def zy:=@Nat.le_trans
noncomputable def xW:=@Nat.lt_irrefl
noncomputable def wF:=@Nat.lt_of_le_of_ne
noncomputable def zT:=@Nat.lt_of_lt_of_le
noncomputable def yZ:=@Nat.lt_of_succ_lt
noncomputable def wM:=@Nat.lt_succ_of_lt
noncomputable def wa:=@Nat.ne_of_gt
noncomputable def zJ:=@Nat.ne_of_lt
noncomputable def wn:=@Nat.zero_le
noncomputable def zB:=@Option.some.inj
noncomputable def zS:=@decide_eq_false
noncomputable def xC:=@decide_eq_true
noncomputable def yB:=@decide_eq_true_eq
noncomputable def yQ:=@decide_eq_true_iff
noncomputable def zc:=@wpAny_bind
noncomputable def wH:=@wpAny_callSpecial?_slot
noncomputable def yg:=@wpAny_call_entry
noncomputable def wx:=@wpAny_field
noncomputable def wU:=@wpAny_holding
noncomputable def wv:=@wpAny_mono
noncomputable def wD:=@wpAny_newObj_type
noncomputable def yu:=@wpAny_passesOwn
noncomputable def zj:=@wpAny_pure
noncomputable def yA:=@wpAny_pyIter_list
noncomputable def wQ:=@wpAny_rule
noncomputable def yk:=@wpAny_seqItems
noncomputable def yj:=@wpAny_setField_rec
noncomputable def ye:=@wpAny_standAt
noncomputable def xZ:=@wpAny_truthy_bool
noncomputable def zo:=@wpS_bind
noncomputable def wJ:=@wpS_forRange
noncomputable def yN:=@wpS_modify
noncomputable def yY:=@wpS_mono
noncomputable def zR:=@wpS_pure
end
theorem x3 {p:Prop}(h:p:=by lia):p:=h
theorem x4 {p:Prop}(h:p:=by decide):p:=h
theorem x5 {p:Prop}(h:p:=by decide +kernel):p:=h
local macro_rules|`(tactic|exists $t)=>`(tactic|with_unfolding_all exact $t)
namespace L2
noncomputable abbrev Key:=Sum Int Str
noncomputable def Xm:Key->Value->Bool
 |.inl k,v=>Value.isInt k v
 |.inr x,v=>Value.isStrOf x v
noncomputable def xw8(w:World):Key->Int
 |.inl k=>hashInt k
 |.inr x=>hashStr w x
theorem vo:∀{k:Key}{v:Value},Xm k v=true->(∃i t,k=Sum.inl i/\v=Value.int i t)\/(∃x t,k=Sum.inr x/\v=Value.str x t)
 |.inl i,v,h=>by
  obtain⟨t,e⟩:=Value.isInt_shape (k:=i) (v:=v) h;exact .inl ⟨i,t,rfl,e⟩
 |.inr x,v,h=>by
  obtain⟨t,e⟩:=Value.isStrOf_shape (x:=x) (v:=v) h;exact .inr ⟨x,t,rfl,e⟩
theorem zq4(i:Int)(t:Tok):Xm (.inl i) (.int i t)=true:=by simp[Xm,Value.isInt]
theorem Wt(x:Str)(t:Tok):Xm (.inr x) (.str x t)=true:=by simp[Xm,Value.isStrOf]
theorem xd3(a b:Int):decide ((Sum.inl a:Key)=Sum.inl b)=(a == b):=by
 by_cases e:a=b
 ·subst e;simp
 ·have h:¬ (Sum.inl a:Key)=Sum.inl b:=λq=>e (Sum.inl.inj q);rw[zS h];exact(beq_eq_false_iff_ne.mpr e).symm
theorem xd0(a b:Str):decide ((Sum.inr a:Key)=Sum.inr b)=decide (a=b):=by
 by_cases e:a=b
 ·subst e;simp
 ·have h:¬ (Sum.inr a:Key)=Sum.inr b:=λq=>e (Sum.inr.inj q);rw[zS h,zS e]
theorem xd2(a:Int)(b:Str):decide ((Sum.inl a:Key)=Sum.inr b)=false:=zS (λq=>nomatch q)
theorem xd1(a:Str)(b:Int):decide ((Sum.inr a:Key)=Sum.inl b)=false:=zS (λq=>nomatch q)
noncomputable def qi(prog:Program)(w:World):PySem.KeyKind prog w Key where
 is:=Xm
 hash:=xw8 w
 inj:=λv a b ha J=>by
  rcases vo ha with ⟨i,t,rfl,rfl⟩ |⟨x,t,rfl,rfl⟩
  ·rcases vo J with ⟨j, u, rfl, e⟩ | ⟨y, u, rfl, e⟩
   ·injection e with I _;rw[I]
   ·exact nomatch e
  ·rcases vo J with ⟨j, u, rfl, e⟩ | ⟨y, u, rfl, e⟩
   ·exact nomatch e
   ·injection e with I _;rw[I]
 byValue:=λk v h=>by
  rcases vo h with ⟨i,t,rfl,rfl⟩ |⟨x,t,rfl,rfl⟩<;>rfl
 pyHash:=λhv h=>by
  rcases vo hv with ⟨i,t,rfl,rfl⟩ |⟨x,t,rfl,rfl⟩
  ·exact wpAny_pyHash_int h
  ·exact wpAny_pyHash_str h
 eqBool:=λW hv h=>by
  rcases vo W with ⟨i,t,rfl,rfl⟩ |⟨x,t,rfl,rfl⟩
  ·rcases vo hv with ⟨j, u, rfl, rfl⟩ | ⟨y, u, rfl, rfl⟩
   ·rw[xd3] at h;exact wpAny_eqBool_int h
   ·rw[xd2] at h;exact SeqAt.EqAt.int_str i t y u _ _ _ _ h
  ·rcases vo hv with ⟨j, u, rfl, rfl⟩ | ⟨y, u, rfl, rfl⟩
   ·rw[xd1] at h;exact SeqAt.EqAt.str_int x t j u _ _ _ _ h
   ·rw[xd0] at h;exact wpAny_eqBool_str h
 «strs»:=λk x t v h=>by
  rcases vo h with ⟨i,u,rfl,e⟩ |⟨y,u,rfl,e⟩
  ·exact nomatch e
  ·injection e with I _;subst I
   cases v<;>rfl
theorem Qk(prog:Program)(w:World)(i:Int)(t:Tok):(qi prog w).is (.inl i) (.int i t)=true:=zq4 i t
theorem Wp(prog:Program)(w:World)(x:Str)(t:Tok):(qi prog w).is (.inr x) (.str x t)=true:=Wt x t
inductive V where
 |non |bl (b:Bool) |int (i:Int) |str (x:Str) |byt (b:Array UInt8) |flt (b:UInt64) |ref (a:Addr) |ty (n:String)
 deriving DecidableEq
noncomputable def RelV:V->Value->Prop
 |.non,u=>u=Value.none
 |.bl b,u=>u=Value.bool b
 |.int i,u=>∃t,u=Value.int i t
 |.str x,u=>∃t,u=Value.str x t
 |.byt b,u=>∃t,u=Value.bytes b t
 |.flt b,u=>∃t,u=Value.float b t
 |.ref a,u=>u=Value.ref a
 |.ty n,u=>u=Value.type n
noncomputable abbrev Vals:List V->List Value->Prop:=Paired RelV
theorem Vals.length{xs:List V}{us:QqW}(r:Vals xs us):xs.length=us.length:=Paired.length r
theorem Vals.get:∀{xs:List V}{us:QqW}{i:Nat}{x:V},Vals xs us->xs[i]?=some x->∃u,us[i]?=some u/\RelV x u
 |_,_,_,_,.nil,e=>by simp at e
 |_,_,0,_,.cons r _,e=>by simp at e;subst e;exact⟨_,rfl,r⟩
 |_,_,i+1,x,.cons _ t,e=>by
  obtain⟨u,h1,h2⟩:=Vals.get (i:=i) (x:=x) t (by simpa using e)
  exact⟨u,by simpa using h1,h2⟩
theorem Vals.set{x:V}{u:Value}(r:RelV x u):∀{xs:List V}{us:QqW} (i:Nat),Vals xs us->Vals (xs.set i x) (us.set i u)
 |_,_,_,.nil=>.nil
 |_,_,0,.cons _ t=>.cons r t
 |_,_,i+1,.cons q t=>.cons q (Vals.set r i t)
theorem Vals.append:∀{xs ys:List V}{us ws:QqW},Vals xs us->Vals ys ws->Vals (xs++ys) (us++ws)
 |_,_,_,_,.nil,s=>s
 |_,_,_,_,.cons r t,s=>.cons r (Vals.append t s)
theorem Vals.take:∀{xs:List V}{us:QqW} (n:Nat),Vals xs us->Vals (xs.take n) (us.take n)
 |_,_,0,_=>.nil
 |_,_,_+1,.nil=>.nil
 |_,_,n+1,.cons r t=>.cons r (Vals.take n t)
theorem Vals.drop:∀{xs:List V}{us:QqW} (n:Nat),Vals xs us->Vals (xs.drop n) (us.drop n)
 |_,_,0,r=>r
 |_,_,_+1,.nil=>.nil
 |_,_,n+1,.cons _ t=>Vals.drop n t
noncomputable def xG8:Option V->Option Value->Prop
 |some v,some u=>RelV v u
 |none,none=>True
 |_,_=>False
noncomputable def KV{κ:Type}:List (κ × V)->List (κ × Value)->Prop:=Paired fun(p:κ × V) (q:κ × Value)=>p.1=q.1/\RelV p.2 q.2
noncomputable def kV:Key->V
 |.inl i=>.int i
 |.inr x=>.str x
inductive HO where
 /-- a list -/
 |lst (xs:List V)
 /-- a tuple (never changes) -/
 |tup (xs:List V)
 /-- a dict whose keys are ints and texts; one whose keys are tuples of ints and texts (the empty one is both) -/
 |dK (kvs:List (Key × V)) |dT (kvs:List (List Key × V))
 /-- a set of ints: its members, its size -/
 |set (S:Int->Bool) (n:Nat)
 /-- an instance of the class at C, its dict at dx, its attributes -/
 |ins (C dx:Addr) (fs:List (Str × V))
 /-- the dict of the instance at x -/
 |own (x:Addr)
 /-- the dict of an exception -/
 |xd (fs:List (Str × V))
 /-- a bound method, f of x -/
 |met (f x:Addr)
 /-- a range object lo, lo + 1, .. below hi -/
 |rng (lo hi:Int)
 /-- a thing that is known to the object (the script; a dict while a loop walks it): read, never written while it is so -/
 |frz (o:Obj) (u:HO)
 /-- a code object's table -/
 |tbl (ps:Array Value)
 /-- a code object's table: the code objects in it are known and stay -/
 |cot (q:Str)
 /-- any other thing, by what is true of its one object (a def of one's own: SetO a S n := HO.ext λh => ..) -/
 |ext (φ:Heap->Prop)
noncomputable abbrev Hp:=Addr->Option HO
noncomputable def upd(H:Hp)(a:Addr)(o:HO):Hp:=λb=>if b=a then some o else H b
theorem yK{H:Hp}{a:Addr}{o:HO}:upd H a o a=some o:=by unfold upd;rw[if_pos rfl]
theorem wE{H:Hp}{a b:Addr}{o:HO}(h:b≠a):upd H a o b=H b:=by unfold upd;rw[if_neg h]
theorem yz{H:Hp}{a b:Addr}{o:HO}(h:H a=some o)(h':H b=none):a≠b:=by
 intro e;subst e;rw[h] at h';cases h'
noncomputable def xh2(I:Obj)(q:Str):Prop:=∃vs t,I.data=.fields vs/\vs[1]?=some (.str q t)
inductive TabG(φ:QqA):List Value->Prop where
 |nil:TabG φ []
 |cons {i j:Int}{t u:Tok}{c:Addr}{r:QqW} (h:φ c) (g:TabG φ r):TabG φ (.int i t::.int j u::.ref c::r)
theorem TabG.imp{φ ψ:QqA}(f:∀c,φ c->ψ c){l:QqW}(g:TabG φ l):TabG ψ l:=by
 induction g with
 |nil=>exact .nil
 |cons h _ I=>exact .cons (f _ h) I
section
variable (P:Program) (w:World)
noncomputable def ObjOk(H:Hp)(h:Heap)(a:Addr):HO->Prop
 |.lst xs=>xs.length<=sizeLine/\∃(its:QqW) (n:Nat),Vals xs its/\h.get? a=some { cls:=.type "list",data:=.seq its.toArray n }
 |.tup xs=>xs.length<=sizeLine/\∃its:List Value,Vals xs its/\IsTup h a its.toArray
 |.dK I=>I.length<=sizeLine/\(a == sysModules)=false/\∃vs,KV I vs/\h.DictOf (qi P w) a vs
 | .dT I => I.length <= sizeLine /\ (a == sysModules) = false /\ ∃ xs : List (List Key × Addr × Value),
   Paired (fun(p:List Key × V) (q:List Key × Addr × Value)=>p.1=q.1/\H q.2.1=some (.tup (p.1.map kV))/\RelV p.2 q.2.2) I xs /\
   ∃o es ep,h.get? a=some o/\o.ExactDict/\o.data=.dict es ep/\es.toList=xs.map (entryOfKey (tupleKind (qi P w)))/\(xs.map (·.1)).Nodup
 |.set S n=>h.SetOf (intKind P w) a S n
 | .ins C Y fs => H Y = some (.own a) /\ fs.length <= 1000 /\ Y ≠ a /\ h.get? a = some (W.instObj C Y) /\
   ∃J,h.Ns1 Y J/\(∀f,xG8 (fs.lookup f) (J f))/\PySem.Within J (fs.map (·.1))
 |.own _=>∃o,h.get? a=some o
 |.xd fs=>∃J,h.Ns1 a J/\∀f,xG8 (fs.lookup f) (J f)
 |.rng lo hi=>∃t u v,h.get? a=some { cls:=.type "range",data:=.fields #[.int lo t,.int hi u,.int 1 v] }
 |.frz o u=>h.get? a=some o/\ObjOk H h a u
 |.tbl ps=>h.get? a=some { cls:=.none,data:=.fields ps }
 |.cot q=>∃ps:Array Value,h.get? a=some { cls:=.none,data:=.fields ps }/\TabG (λc=>∃oc,H c=some (.frz oc (.own 0))/\xh2 oc q) ps.toList
 |.met f x=>h.get? a=some (W.methodObj (.ref f) (.ref x))
 |.ext φ=>φ h/\(∃o,h.get? a=some o)/\∀h1 h2:Heap,φ h1->(∀o,h1.get? a=some o->h2.get? a=some o)->φ h2
noncomputable def HOk(H:Hp)(h:Heap):Prop:=∀a o,H a=some o->ObjOk P w H h a o
end
section
variable {P:Program}{w:World}{H H':Hp}{h h':Heap}{a:Addr}{o:HO}
theorem ObjOk.lt(x:ObjOk P w H h a o):a<h.objs.size:=by
 cases o with
 |lst xs=>obtain⟨_,_,_,_,e⟩:=x;exact zw e
 |tup xs=>obtain⟨_,_,_,p⟩:=x;exact p.lt
 |dK I=>obtain⟨_,_,_,_,o,_,_,e,_⟩:=x;exact zw e
 |dT I=>obtain⟨_,_,_,_,o,_,_,e,_⟩:=x;exact zw e
 |set S n=>obtain⟨o,_,_,_,e,_⟩:=x;exact zw e
 |ins C W fs=>obtain⟨_,_,_,e,_⟩:=x;exact zw e
 |own y=>obtain⟨_,e⟩:=x;exact zw e
 |xd fs=>obtain⟨_,⟨_,_,_,e,_⟩,_⟩:=x;exact zw e
 |rng lo hi=>obtain⟨_,_,_,e⟩:=x;exact zw e
 |frz J u=>obtain⟨e,_⟩:=x;exact zw e
 |tbl ps=>exact zw (show h.get? a=some _ from x)
 |cot q=>obtain⟨ps,e,_⟩:=x;exact zw e
 |met f y=>exact zw (show h.get? a=some _ from x)
 |ext φ=>obtain⟨_,⟨_,e⟩,_⟩:=x;exact zw e
theorem Paired.mapP{α β:Type}{F G:α->β->Prop}:∀{l₁:List α}{l₂:List β},Paired F l₁ l₂->(∀a b,F a b->G a b)->Paired G l₁ l₂
 |_,_,.nil,_=>.nil
 |_,_,.cons r t,f=>.cons (f _ _ r) (Paired.mapP t f)
theorem ObjOk.stay(x:ObjOk P w H h a o)(k:∀b u,(b=a\/H b=some (.own a))->h.get? b=some u->h'.get? b=some u)
  (ho:∀b,H b=some (.own a)->H' b=some (.own a)) (ht:∀b xs,H b=some (.tup xs)->H' b=some (.tup xs)) (hz:∀b o u,H b=some (.frz o u)->H' b=some (.frz o u)):ObjOk P w H' h' a o:=by
 induction o with
 |lst xs=>obtain⟨z,its,n,r,e⟩:=x;exact⟨z,its,n,r,k _ _ (.inl rfl) e⟩
 |tup xs=>obtain⟨z,its,r,I,e,c⟩:=x;exact⟨z,its,r,I,k _ _ (.inl rfl) e,c⟩
 |dK aa=>obtain⟨z,y,vs,r,I,es,J,e,c⟩:=x;exact⟨z,y,vs,r,I,es,J,k _ _ (.inl rfl) e,c⟩
 |dT aa=>
  obtain⟨z,y,xs,r,I,es,J,e,c⟩:=x;exact⟨z,y,xs,Paired.mapP r λp q z=>⟨z.1,ht _ _ z.2.1,z.2.2⟩,I,es,J,k _ _ (.inl rfl) e,c⟩
 |set S n=>obtain⟨I,es,J,t,e,c⟩:=x;exact⟨I,es,J,t,k _ _ (.inl rfl) e,c⟩
 |ins C dx fs=>
  obtain⟨d,z,ne,e,mA,⟨Y,es,J,e2,c⟩,r⟩:=x;exact⟨ho _ d,z,ne,k _ _ (.inl rfl) e,mA,⟨Y,es,J,k _ _ (.inr d) e2,c⟩,r⟩
 |own y=>obtain⟨I,e⟩:=x;exact⟨I,k _ _ (.inl rfl) e⟩
 |xd fs=>obtain⟨mA,⟨Y,es,J,e,c⟩,r⟩:=x;exact⟨mA,⟨Y,es,J,k _ _ (.inl rfl) e,c⟩,r⟩
 |rng lo hi=>obtain⟨t,u,v,e⟩:=x;exact⟨t,u,v,k _ _ (.inl rfl) e⟩
 |frz I u ih=>obtain⟨e,q⟩:=x;exact⟨k _ _ (.inl rfl) e,ih q⟩
 |cot q=>obtain⟨ps,e,g⟩:=x;exact⟨ps,k _ _ (.inl rfl) e,g.imp λc ⟨oc,z,i⟩=>⟨oc,hz _ _ _ z,i⟩⟩
 |tbl ps=>
  have e:h.get? a=some { cls:=.none,data:=.fields ps }:=x;show h'.get? a=some { cls:=.none,data:=.fields ps };exact k a _ (.inl rfl) e
 |met f y=>
  have e:h.get? a=some (W.methodObj (.ref f) (.ref y)):=x;show h'.get? a=some (W.methodObj (.ref f) (.ref y));exact k a _ (.inl rfl) e
 |ext φ=>obtain⟨p,⟨o,e⟩,st⟩:=x;exact⟨st _ _ p λo q=>k _ _ (.inl rfl) q,⟨o,k _ _ (.inl rfl) e⟩,st⟩
theorem HOk.lt(x:HOk P w H h)(e:H a=some o):a<h.objs.size:=(x a o e).lt
theorem HOk.fresh(x:HOk P w H h)(e:h.objs.size<=a):H a=none:=by
 cases q:H a with
 |none=>rfl
 |some u=>exact absurd (zT (x.lt q) e) (xW _)
theorem HOk.kept(x:HOk P w H h)(k:∀b u,h.get? b=some u->h'.get? b=some u):HOk P w H h':=λa o e=>
 (x a o e).stay (λb u _ q=>k b u q) (λ_ q=>q) (λ_ _ q=>q) λ_ _ _ q=>q
theorem HOk.laid(x:HOk P w H h)(k:∀b u,h.get? b=some u->h'.get? b=some u)(Y:h.objs.size<=a)(I:ObjOk P w (upd H a o) h' a o):HOk P w (upd H a o) h':=λb u e=>by
 have J:=x.fresh Y
 by_cases W:b=a
 ·subst W;rw[yK] at e;cases e;exact I
 ·rw [wE W] at e
  exact(x b u e).stay (λc v _ q=>k c v q) (λc q=>by rw[wE (yz q J)];exact q) (λc xs q=>by rw[wE (yz q J)];exact q) λc o u q=>by rw[wE (yz q J)];exact q
end
noncomputable def Rd(H:Hp)(a:Addr)(u:HO):Prop:=H a=some u\/∃o,H a=some (.frz o u)
theorem Rd.ok{P:Program}{w:World}{H:Hp}{h:Heap}{a:Addr}{u:HO}(r:Rd H a u)(x:HOk P w H h):ObjOk P w H h a u:=by
 rcases r with r |⟨o,r⟩
 ·exact x a u r
 ·obtain⟨_,q⟩:=x a _ r;exact q
noncomputable def Mut:Option HO->Prop
 |some (.lst _)=>True
 |some (.dK _)=>True
 |some (.dT _)=>True
 |some (.set _ _)=>True
 |some (.ins _ _ _)=>True
 |some (.ext _)=>True
 |_=>False
section
variable {P:Program}{w:World}{H:Hp}{h h':Heap}{x e:Addr}{o':HO}
theorem HOk.write(ok:HOk P w H h)(W:Mut (H x))(he:e=x\/H e=some (.own x))(k:∀b u,b≠e->h.get? b=some u->h'.get? b=some u)(ae:∃u,h'.get? e=some u)
  (aa:ObjOk P w (upd H x o') h' x o'):HOk P w (upd H x o') h':=λb u q=>by
 have J:∀c y,H c=some (.own y)->c≠x:=λc y r z=>by subst z;rw[r] at W;exact W
 have Y:∀c xs,H c=some (.tup xs)->c≠x:=λc xs r z=>by subst z;rw[r] at W;exact W
 by_cases hb:b=x
 ·subst hb;rw[yK] at q;cases q;exact aa
 ·rw [wE hb] at q
  by_cases I:b=e
  ·have q' : H b = some (.own x) := by
    rcases he with z |z
    ·exact absurd (I.trans z) hb
    ·rw[I];exact z
   rw[q] at q';cases q';obtain⟨v,hv⟩:=ae
   exact⟨v,by rw[I];exact hv⟩
  ·refine (ok b u q).stay (λc v hc r => k c v ?_ r) (λc r => by rw [wE (J c b r)]; exact r) (λc xs r => by rw [wE (Y c xs r)]; exact r) λc o u r => by rw [wE (λz => by rw [<- z, r] at W; exact W)]; exact r
   rcases hc with rfl |hc
   ·exact I
   ·rintro rfl
    rcases he with z |z
    ·exact J c b hc z
    ·rw[hc] at z;cases z;exact hb rfl
end
structure Un(fs ex:List Addr)(H H':Hp)(h h':Heap):Prop where
 keep:∀b o,h.get? b=some o->H b=none->b ∉ fs->b ∉ ex->h'.get? b=some o
 slot:∀b o,h.get? b=some o->H b=none->b∈fs->b ∉ ex->∃sl,h'.get? b=some { o with slots:=sl }
 free:∀b o,h.get? b=some o->H b=none->b ∉ ex->H' b=none
 there:∀b o,h.get? b=some o->b ∉ ex->∃o',h'.get? b=some o'
 tups:∀b xs,H b=some (.tup xs)->H' b=some (.tup xs)
 frzs:∀b o u,H b=some (.frz o u)->H' b=some (.frz o u)
 tbls:∀b ps,H b=some (.tbl ps)->∃more,H' b=some (.tbl (ps++more))
section
variable {fs fs' ex ex':List Addr}{H H1 H2:Hp}{h h1 h2 h':Heap}{a x e:Addr}{o:HO}
theorem Un.any(u:Un fs ex H H1 h h1){b:Addr}{I:Obj}(q:h.get? b=some I)(n:H b=none)(hx:b ∉ ex):∃W,h1.get? b=some { I with slots:=W }:=by
 by_cases J:b∈fs
 ·exact u.slot b I q n J hx
 ·exact⟨I.slots,u.keep b I q n J hx⟩
theorem Un.kept(k:∀b u,h.get? b=some u->h'.get? b=some u):Un fs ex H H h h':=
 ⟨λb I q _ _ _=>k b I q,λb I q _ _ _=>⟨I.slots,k b I q⟩,λ_ _ _ n _=>n,λb I q _=>⟨I,k b I q⟩,λ_ _ q=>q,λ_ _ _ q=>q,λ_ ps q=>⟨#[],by rw[q];simp⟩⟩
theorem Un.refl:Un fs ex H H h h:=Un.kept λ_ _ q=>q
theorem Un.laid(k:∀b u,h.get? b=some u->h'.get? b=some u)(J:h.objs.size<=a)(I:H a=none):Un fs ex H (upd H a o) h h' where
 keep:=λb u q _ _ _=>k b u q
 slot:=λb u q _ _ _=>⟨u.slots,k b u q⟩
 free:=λb u q n _=>by rw[wE (zJ (zT (zw q) J))];exact n
 there:=λb u q _=>⟨u,k b u q⟩
 tups:=λb xs q=>by rw[wE (yz q I)];exact q
 frzs:=λb u xs q=>by rw[wE (yz q I)];exact q
 tbls:=λb ps q=>⟨#[],by rw[wE (yz q I),q];simp⟩
theorem Un.write(J:Mut (H x))(he:e=x\/H e=some (.own x))(k:∀b u,b≠e->h.get? b=some u->h'.get? b=some u)(W:∃u,h'.get? e=some u):Un fs ex H (upd H x o) h h':=by
 have hx:∀b,H b=none->b≠x:=λb n z=>by subst z;rw[n] at J;exact J
 have Y:∀b,H b=none->b≠e:=λb n z=>by
  subst z
  rcases he with r |r
  ·exact hx b n r
  ·rw[n] at r;cases r
 have hm:∀b u,H b=some u->¬ Mut (some u)->b≠x:=λb u q nm z=>by subst z;rw[q] at J;exact nm J
 refine⟨λb u q n _ _=>k b u (Y b n) q,λb u q n _ _=>⟨u.slots,k b u (Y b n) q⟩,λb u q n _=>by rw[wE (hx b n)];exact n,λb u q _=>?_,
  λb xs q=>by rw[wE (hm b _ q λz=>z)];exact q,λb u xs q=>by rw[wE (hm b _ q λz=>z)];exact q,λb ps q=>⟨#[],by rw[wE (hm b _ q λz=>z),q];simp⟩⟩
 by_cases I:b=e
 ·subst I;exact W
 ·exact⟨u,k b u I q⟩
end
noncomputable def trk(h:Heap)(H:Hp):List Addr:=(List.range h.objs.size).filter λa=>(H a).isSome
noncomputable def zw7(h:Heap)(H:Hp):Heap:=W.hideAll h (trk h H)
theorem zr0(h:Heap)(H:Hp):(zw7 h H).objs.size=h.objs.size:=W.hideAll_size _ _
theorem zD6{h:Heap}{H:Hp}{b:Addr}{o:Obj}(e:h.get? b=some o)(n:H b=none):(zw7 h H).get? b=some o:=
 PySem.W.hideAll_get _ e λhm=>by
  have q:(H b).isSome=true:=(xf.mp hm).2;rw[n] at q;simp at q
theorem zP3{h:Heap}{H:Hp}{b:Addr}{o:Obj}(e:(zw7 h H).get? b=some o):h.get? b=some o/\H b=none:=by
 have e':h.get? b=some o:=W.of_hideAll (trk h H) e;refine⟨e',?_⟩
 cases q:H b with
 |none=>rfl
 |some x=>
  have hm:b∈trk h H:=xf.mpr ⟨xD.mpr (zw e'),by simp[q]⟩
  have z:(zw7 h H).get? b=none:=W.hideAll_none (trk h H) hm;rw[z] at e;cases e
noncomputable def zT0(g h:Heap)(L:Addr):List (Addr × Obj):=(List.range h.objs.size).filterMap λa=>if a=L\/(g.get? a).isSome=true then none else(h.get? a).map λo=>(a,o)
noncomputable def rest(g h:Heap)(L d:Addr):List (Addr × Obj):=(zT0 g h L).filter λp=>decide (p.1≠d)
structure Mod(K:W.Frag)(mg:QqM)(base:Heap):Prop where
 kin:K.In base
 glob:base.Ns mainGlobals mg
 blt:∃mb,base.Ns builtinsNs mb/\∀x:Str,x ≠ "__name__" -> mb x=bootBuiltins x
 nolimit:base.NoLimit
structure Cx where
 prog:Program
 w:World
 K:W.Frag
 mg:Str->Option Value
 base:Heap
 A:Around
 N:List Str
 s₀:Shared
 H₀:Hp
 env:Env
 outer:List Env
 stack:List Env
 ex:List Addr
 fn:Str->Bool
 calm:Bool
 pn:List (Addr × Obj)
 xe:Value->Shared->Prop
noncomputable def frs(l:List Env):List Addr:=l.filterMap (·.frame)
noncomputable abbrev Cx.fs(X:Cx):List Addr:=frs X.outer
noncomputable def Vis(I:Scope)(x:Str):Prop:=I.names.lookup x=some .local\/I.names.lookup x=some .cell\/I.names.lookup x=some .free
noncomputable def Loc(I:Scope)(x:Str):Prop:=I.names.lookup x=some .local\/I.names.lookup x=some .cell
noncomputable def xO6(env:Env)(h:Heap)(m:QqM)(x:Str)(u:Value):Prop:=
 (env.kindOf x=some .local/\m x=some u)\/((env.kindOf x=some .cell\/env.kindOf x=some .free)/\∃c,env.cells.lookup x=some c/\h.IsCell c (some u))
structure Cx.Ok(X:Cx):Prop where
 mod:Mod X.K X.mg X.base
 kind:X.env.scope.kind=.function
 glob:X.env.globals=mainGlobals
 blt:X.env.builtins=builtinsNs
 above:X.s₀.heap.objs.size<=X.env.locals
 inj:∀x y c,X.env.cells.lookup x=some c->X.env.cells.lookup y=some c->x=y
 has:∀x,(X.env.kindOf x=some .cell\/X.env.kindOf x=some .free)->∃c,X.env.cells.lookup x=some c
 cab:∀x c,X.fn x=true->X.env.cells.lookup x=some c->X.s₀.heap.objs.size<=c
 hd:X.calm=true->X.A.handled=none
 frames:X.A.frames=some X.stack
 stk:X.stack=X.outer\/(X.stack=X.env::X.outer/\X.env.frame=some X.env.locals)
 exf:∀b∈X.ex,b≠X.env.locals/\∀x c,X.env.cells.lookup x=some c->c≠b
 bs:∀b o,X.base.get? b=some o->X.s₀.heap.get? b=some o/\X.H₀ b=none
 bsz:X.base.objs.size<=X.s₀.heap.objs.size
 noex:∀b o,X.base.get? b=some o->b ∉ X.ex
 exfs:∀b∈X.ex,b ∉ X.fs
 funs:X.s₀.heap.FunFrames X.base X.outer
 frf:∀b∈X.fs,X.H₀ b=none
structure Inv(X:Cx)(pins:QqL)(σ:List (Option V))(H:Hp)(s:Shared):Prop where
 ok:X.Ok
 os:s.os=X.s₀.os
 bare:AllBare s.gens
 base:Un X.fs X.ex X.H₀ H X.s₀.heap s.heap
 loc:∃m,s.heap.Ns X.env.locals m/\∀(i:Nat) (x:Str) (v:V),X.N[i]?=some x->σ[i]?=some (some v)->Vis X.env.scope x->∃u,RelV v u/\xO6 X.env s.heap m x u
 cell:∀x c,X.env.cells.lookup x=some c->∃v,s.heap.IsCell c v
 free:H X.env.locals=none
 freeC:∀x c,X.env.cells.lookup x=some c->H c=none
 pin:∀p∈X.pn++pins,s.heap.get? p.1=some p.2/\H p.1=none/\p.1≠X.env.locals/\p.1 ∉ X.fs/\∀v,p.2.data≠.cell v
 hok:HOk X.prog X.w H s.heap
 len:σ.length=X.N.length
section
variable {X:Cx}{pins:QqL}{σ:List (Option V)}{H H':Hp}{s:Shared}{h':Heap}
theorem Cx.Ok.nofr(ok:X.Ok){b:Addr}{o:Obj}(e:X.base.get? b=some o):b ∉ X.fs:=λI=>by
 have:=(ok.funs.mem I).1;rw[e] at this;cases this
theorem Inv.bs(I:Inv X pins σ H s):∀b o,X.base.get? b=some o->s.heap.get? b=some o/\H b=none:=λb o e=>
 ⟨I.base.keep b o (I.ok.bs b o e).1 (I.ok.bs b o e).2 (I.ok.nofr e) (I.ok.noex b o e),I.base.free b o (I.ok.bs b o e).1 (I.ok.bs b o e).2 (I.ok.noex b o e)⟩
theorem Inv.bk(I:Inv X pins σ H s):∀b o,X.base.get? b=some o->s.heap.get? b=some o:=λb o e=>(I.bs b o e).1
theorem Inv.mod(I:Inv X pins σ H s):Mod X.K X.mg X.base:=I.ok.mod
theorem Inv.kIn(I:Inv X pins σ H s):X.K.In s.heap:=I.ok.mod.kin.keeps I.bk
theorem Inv.nolimit(I:Inv X pins σ H s):s.heap.NoLimit:=I.ok.mod.nolimit.keeps I.bk
theorem Inv.lt(I:Inv X pins σ H s):X.env.locals<s.heap.objs.size:=let ⟨_,J,_⟩:=I.loc;J.lt
theorem Inv.sz(I:Inv X pins σ H s):X.s₀.heap.objs.size<=s.heap.objs.size:=zy I.ok.above (wb I.lt)
theorem Inv.nofs(I:Inv X pins σ H s){a:Addr}(h:s.heap.objs.size<=a):a ∉ X.fs:=λW=>by
 obtain⟨_,o,J,_⟩:=I.ok.funs.mem W;exact absurd (zT (zw J) (zy I.sz h)) (xW _)
theorem Inv.cne(I:Inv X pins σ H s):∀x c,X.env.cells.lookup x=some c->c≠X.env.locals:=λx c e z=>by
 obtain⟨v,o,J,hd⟩:=I.cell x c e;obtain⟨m,⟨o',es,W,ho',hd',_⟩,_⟩:=I.loc;rw[z,ho'] at J;cases J;rw[hd'] at hd;cases hd
theorem Inv.funs(I:Inv X pins σ H s):s.heap.FunFrames X.base X.outer:=by
 have all:∀(l:List Env),(∀b∈frs l,b∈X.fs)->X.s₀.heap.FunFrames X.base l->s.heap.FunFrames X.base l:=by
  intro l
  induction l with
  |nil=>intro _ _;trivial
  |cons env r ih=>
   intro hs hl;obtain⟨hk,⟨L,o,J,hn,ho,hd⟩,hr⟩:=hl
   have Y:L∈X.fs:=hs L (by unfold frs;rw[yH,J];exact xo)
   obtain⟨sl,e⟩:=I.base.slot L o ho (I.ok.frf L Y) Y λz=>I.ok.exfs L z Y
   exact⟨hk,⟨L,_,J,hn,e,hd⟩,ih (λb W=>hs b (by unfold frs;rw[yH,J];exact zG _ W)) hr⟩
 exact all X.outer (λ_ W=>W) I.ok.funs
theorem Inv.stack(I:Inv X pins σ H s):s.heap.FunFrames X.base X.stack:=by
 rcases I.ok.stk with e |⟨e,W⟩
 ·rw[e];exact I.funs
 ·rw [e];obtain⟨m,J,_⟩:=I.loc
  refine .cons (by rw[I.ok.kind];decide) W J ?_ I.funs
  exact Heap.get?_none_of_le (zy I.ok.bsz I.ok.above)
theorem Inv.stkSub(I:Inv X pins σ H s):∀b∈frs X.stack,b∈X.env.locals::X.fs:=λb J=>by
 rcases I.ok.stk with e |⟨e,W⟩
 ·rw[e] at J;exact zG _ J
 ·rw[e] at J;unfold frs at J;rw[yH,W] at J;exact J
theorem Inv.stkFree(I:Inv X pins σ H s):∀b∈frs X.stack,H b=none:=λb J=>by
 rcases zt.mp (I.stkSub b J) with e |J
 ·rw[e];exact I.free
 ·obtain⟨_,o,W,_⟩:=I.ok.funs.mem J;exact I.base.free b o W (I.ok.frf b J) λz=>I.ok.exfs b z J
theorem Inv.step{g':Array GenState}{t':Nat}{d':Drawn}{ch:List Addr}(I:Inv X pins σ H s)
  (W:∀b∈ch,(b∈X.ex\/X.s₀.heap.objs.size<=b)/\b≠X.env.locals/\(∀x c,X.env.cells.lookup x=some c->c≠b)/\∀p∈X.pn++pins,p.1≠b)
  (keep:∀b o,b≠X.env.locals->b ∉ X.fs->b ∉ ch->s.heap.get? b=some o->H b=none->h'.get? b=some o)
  (slot:∀b o,b≠X.env.locals->b∈X.fs->b ∉ ch->s.heap.get? b=some o->H b=none->∃sl,h'.get? b=some { o with slots:=sl }) (free:∀b o,b ∉ ch->s.heap.get? b=some o->H b=none->H' b=none)
  (there:∀b o,b ∉ ch->s.heap.get? b=some o->∃o',h'.get? b=some o')
  (tups:∀b xs,H b=some (.tup xs)->H' b=some (.tup xs)) (frzs:∀b o u,H b=some (.frz o u)->H' b=some (.frz o u)) (tbls:∀b ps,H b=some (.tbl ps)->∃more,H' b=some (.tbl (ps++more)))
  (ns:∀m,s.heap.Ns X.env.locals m->h'.Ns X.env.locals m) (hok:HOk X.prog X.w H' h') (hg:AllBare g') :
  Inv X pins σ H' { s with heap:=h',gens:=g',drawn:=d',toks:=t' }:=by
 have ae:∀b o,X.s₀.heap.get? b=some o->b≠X.env.locals:=λb o e=>zJ (zT (zw e) I.ok.above)
 have aa:∀b o,X.s₀.heap.get? b=some o->b ∉ X.ex->b ∉ ch:=λb o e hx hb=>by
  rcases(W b hb).1 with z |z
  ·exact hx z
  ·exact absurd (zT (zw e) z) (xW _)
 have Y:∀x c,X.env.cells.lookup x=some c->∀v,s.heap.IsCell c v->h'.IsCell c v:=λx c e v ⟨o,ho,hd⟩=>by
  have J:c ∉ ch:=λz=>(W c z).2.2.1 x c e rfl
  by_cases hc:c∈X.fs
  ·obtain⟨sl,q⟩:=slot c o (I.cne x c e) hc J ho (I.freeC x c e);exact⟨_,q,hd⟩
  ·exact⟨o,keep c o (I.cne x c e) hc J ho (I.freeC x c e),hd⟩
 refine⟨I.ok,I.os,hg,⟨λb o e n hb hx=>?_,λb o e n hb hx=>?_,λb o e n hx=>?_,λb o e hx=>?_,λb xs e=>tups b xs (I.base.tups b xs e),λb o xs e=>frzs b o xs (I.base.frzs b o xs e),λb ps e=>?_⟩,?_,λx c e=>?_,?_,λx c e=>?_,λp hp=>?_,hok,I.len⟩
 ·exact keep b o (ae b o e) hb (aa b o e hx) (I.base.keep b o e n hb hx) (I.base.free b o e n hx)
 ·obtain⟨sl,e1⟩:=I.base.slot b o e n hb hx;obtain⟨sl',e2⟩:=slot b _ (ae b o e) hb (aa b o e hx) e1 (I.base.free b o e n hx);exact⟨sl',e2⟩
 ·obtain⟨o',e1⟩:=I.base.there b o e hx;exact free b o' (aa b o e hx) e1 (I.base.free b o e n hx)
 ·obtain⟨o',e1⟩:=I.base.there b o e hx;exact there b o' (aa b o e hx) e1
 ·obtain ⟨m1, e1⟩ := I.base.tbls b ps e;obtain⟨m2,e2⟩:=tbls b _ e1
  exact⟨m1++m2,by rw[e2,Array.append_assoc]⟩
 ·obtain ⟨m, hn, hl⟩ := I.loc;refine⟨m,ns m hn,λi x v e1 e2 e3=>?_⟩;obtain⟨u,r,l⟩:=hl i x v e1 e2 e3;refine⟨u,r,?_⟩
  rcases l with l |⟨k,c,e,z⟩
  ·exact .inl l
  ·exact .inr ⟨k,c,e,Y x c e _ z⟩
 ·obtain⟨v,z⟩:=I.cell x c e;exact⟨v,Y x c e v z⟩
 ·obtain⟨m,⟨o,_,_,ho,_⟩,_⟩:=I.loc;exact free _ o (λz=>(W _ z).2.1 rfl) ho I.free
 ·obtain⟨v,o,ho,hd⟩:=I.cell x c e;exact free c o (λz=>(W c z).2.2.1 x c e rfl) ho (I.freeC x c e)
 ·obtain⟨e,n,ne,nf,d⟩:=I.pin p hp;have J:p.1 ∉ ch:=λz=>(W p.1 z).2.2.2 p hp rfl;exact⟨keep p.1 p.2 ne nf J e n,free p.1 p.2 J e n,ne,nf,d⟩
theorem Inv.un{t':Nat}(I:Inv X pins σ H s)(u:Un X.fs [] H H' s.heap h')(hok:HOk X.prog X.w H' h'):Inv X pins σ H' { s with heap:=h',toks:=t' }:=by
 obtain⟨m,⟨o,es,ep,W,r⟩,_⟩:=id I.loc
 obtain⟨sl,Y⟩:=u.any W I.free (by simp)
 exact I.step (g':=s.gens) (d':=s.drawn) (ch:=[]) (λ_ z=>nomatch z) (λb o _ J _ e n=>u.keep b o e n J (by simp)) (λb o _ J _ e n=>u.slot b o e n J (by simp)) (λb o _ e n=>u.free b o e n (by simp)) (λb o _ e=>u.there b o e (by simp)) u.tups u.frzs u.tbls (λm' hm=>by
  obtain⟨o',es',ep',ho',r'⟩:=hm;rw[W] at ho';cases ho'
  exact⟨_,es',ep',Y,r'⟩) hok I.bare
theorem Inv.call{g':Array GenState}{t':Nat}{d':Drawn}{ch:List Addr}(I:Inv X pins σ H s)(u:Un (frs X.stack) ch H H' s.heap h')(hok:HOk X.prog X.w H' h')(hg:AllBare g')
  (W:∀b∈ch,(b∈X.ex\/X.s₀.heap.objs.size<=b)/\b≠X.env.locals/\(∀x c,X.env.cells.lookup x=some c->c≠b)/\∀p∈X.pn++pins,p.1≠b) :
  Inv X pins σ H' { s with heap:=h',gens:=g',drawn:=d',toks:=t' }:=by
 obtain⟨m,⟨o,es,ep,ho,r⟩,_⟩:=id I.loc;obtain⟨sl,Y⟩:=u.any ho I.free λz=>(W _ z).2.1 rfl
 exact I.step (ch:=ch) W (λb o Y hb J e n=>u.keep b o e n (λz=>(zt.mp (I.stkSub b z)).elim Y hb) J) (λb o _ _ J e n=>u.any e n J) (λb o J e n=>u.free b o e n J) (λb o J e=>u.there b o e J) u.tups u.frzs u.tbls (λm' hm=>by
  obtain⟨o',es',ep',ho',r'⟩:=hm;rw[ho] at ho';cases ho'
  exact⟨_,es',ep',Y,r'⟩) hok hg
theorem Inv.turned{t':Nat}{it:Addr}(I:Inv X pins σ H s)(k:∀b o,b≠it->s.heap.get? b=some o->h'.get? b=some o)(hn:H it=none)(Y:it≠X.env.locals)
  (h1:it∈X.ex\/X.s₀.heap.objs.size<=it) (h2:∀x c,X.env.cells.lookup x=some c->c≠it) (h3:∀p∈X.pn++pins,p.1≠it):Inv X pins σ H { s with heap:=h',toks:=t' }:=by
 have W:∀b u,H b=some u->b≠it:=λb u e z=>by rw[z,hn] at e;cases e
 refine I.step (g':=s.gens) (d':=s.drawn) (ch:=[it]) (λb hb=>?_) (λb o _ _ J e _=>k b o (λz=>J (by simp[z])) e) (λb o _ _ J e _=>⟨o.slots,k b o (λz=>J (by simp[z])) e⟩) (λ_ _ _ _ n=>n)
  (λb o J e=>⟨o,k b o (λz=>J (by simp[z])) e⟩) (λ_ _ e=>e) (λ_ _ _ e=>e) (λb ps e=>⟨#[],by rw[e];simp⟩) (λm hm=>?_) (λb u e=>?_) I.bare
 ·have e : b = it := by simpa using hb
  subst e;exact⟨h1,Y,h2,h3⟩
 ·obtain⟨o,es,ep,ho,r⟩:=hm;exact⟨o,es,ep,k _ o (Ne.symm Y) ho,r⟩
 ·refine (I.hok b u e).stay (λc v J q => k c v ?_ q) (λ_ q => q) (λ_ _ q => q) λ_ _ _ q => q
  rcases J with z |z
  ·rw[z];exact W b u e
  ·exact W c _ z
theorem Inv.tok(I:Inv X pins σ H s)(t:Nat):Inv X pins σ H { s with toks:=t }:=I.un (h':=s.heap) (t':=t) Un.refl I.hok
theorem Inv.kept{t':Nat}(I:Inv X pins σ H s)(k:∀b u,s.heap.get? b=some u->h'.get? b=some u):Inv X pins σ H { s with heap:=h',toks:=t' }:=I.un (Un.kept k) (I.hok.kept k)
theorem Inv.laid{a:Addr}{o:HO}{t':Nat}(I:Inv X pins σ H s)(k:∀b u,s.heap.get? b=some u->h'.get? b=some u)(W:s.heap.objs.size<=a)(J:ObjOk X.prog X.w (upd H a o) h' a o) :
  Inv X pins σ (upd H a o) { s with heap:=h',toks:=t' }:=I.un (Un.laid k W (I.hok.fresh W)) (I.hok.laid k W J)
theorem Inv.write{x e:Addr}{o:HO}{t':Nat}(I:Inv X pins σ H s)(Y:Mut (H x))(he:e=x\/H e=some (.own x))(k:∀b u,b≠e->s.heap.get? b=some u->h'.get? b=some u)(J:∃u,h'.get? e=some u)
  (W:ObjOk X.prog X.w (upd H x o) h' x o):Inv X pins σ (upd H x o) { s with heap:=h',toks:=t' }:=I.un (Un.write Y he k J) (I.hok.write Y he k J W)
theorem Inv.weak{σ':List (Option V)}(I:Inv X pins σ H s)(W:σ'.length=σ.length)(w:∀(i:Nat) v,σ'[i]?=some (some v)->σ[i]?=some (some v)):Inv X pins σ' H s:=
 ⟨I.ok,I.os,I.bare,I.base,let ⟨m,J,hl'⟩:=I.loc;⟨m,J,λi x v e1 e2 Y=>hl' i x v e1 (w i v e2) Y⟩,I.cell,I.free,I.freeC,I.pin,I.hok,W.trans I.len⟩
theorem Inv.pins_of{pins':QqL}(I:Inv X pins σ H s)(h:∀p∈pins',s.heap.get? p.1=some p.2/\H p.1=none/\p.1≠X.env.locals/\p.1 ∉ X.fs/\∀v,p.2.data≠.cell v):Inv X pins' σ H s:=
 ⟨I.ok,I.os,I.bare,I.base,I.loc,I.cell,I.free,I.freeC,λp J=>(zU.mp J).elim (λz=>I.pin p (xu _ z)) (h p),I.hok,I.len⟩
theorem za5{N:List Str}(hN:N.Nodup){i j:Nat}{x:Str}(a:N[i]?=some x)(b:N[j]?=some x):i=j:=by
 obtain⟨h1,J⟩:=zu.mp a;obtain⟨h2,I⟩:=zu.mp b;exact(List.getElem_inj hN).mp (J.trans I.symm)
theorem Ki{M:Model}{A:Around}{E:QqV}{i:Nat}{x:Str}{v:V}{u:Value}{Q:Unit->Shared->Prop}(I:Inv X pins σ H s)(hN:X.N.Nodup)(hi:X.N[i]?=some x)(hx:Loc X.env.scope x)(r:RelV v u)
  (h:∀s',Inv X pins (σ.set i (some v)) H s'->(∃a,Heap.SameBut a s.heap s'.heap/\(a=X.env.locals\/X.env.cells.lookup x=some a))->Q () s') (hf:X.fn x=true\/X.env.scope.names.lookup x=some .local:=by first |exact .inl rfl |exact .inr rfl |assumption):wpAny M A (storeName X.env x u) Q E s:=by
 obtain⟨m,hn,hl⟩:=id I.loc
 have ai:(X.env.scope.kind == .class||(X.env.scope.kind == .module&&X.env.locals != X.env.globals))=false:=by rw[I.ok.kind];rfl
 have ah:i<σ.length:=by rw[I.len];exact(zu.mp hi).1
 have cne:=I.cne
 have tracked:∀{a:Addr}{h':Heap},(∃o,s.heap.get? a=some o/\H a=none)->Heap.SameBut a s.heap h'->HOk X.prog X.w H h':=λ{a h'} ha J b ob e=>by
  obtain⟨_,_,aa⟩:=ha;refine(I.hok b ob e).stay (λc w' Y q=>(J.2 c ?_).trans q) (λ_ q=>q) (λ_ _ q=>q) λ_ _ _ q=>q;rintro rfl
  rcases Y with rfl |Y
  ·rw[aa] at e;cases e
  ·rw[aa] at Y;cases Y
 rcases hx with hk |hk
 ·refine wpAny_storeName_local hk hn (λh' hn' J => ?_) ai;obtain⟨oL,_,_,ak,_⟩:=id hn
  refine h _ ⟨I.ok,I.os,I.bare,⟨λb o e n hb hx=>?_,λb o e n hb hx=>?_,I.base.free,λb o e hx=>?_,I.base.tups,I.base.frzs,I.base.tbls⟩,⟨_,hn',λj y v' W e2 e3=>?_⟩,λy c e=>?_,I.free,I.freeC,λp hp=>?_,tracked ⟨oL,ak,I.free⟩ J,by simpa using I.len⟩ ⟨_,J,.inl rfl⟩
  ·exact(J.2 b (zJ (zT (zw e) I.ok.above))).trans (I.base.keep b o e n hb hx)
  ·obtain⟨sl,W⟩:=I.base.slot b o e n hb hx;exact⟨sl,(J.2 b (zJ (zT (zw e) I.ok.above))).trans W⟩
  ·obtain⟨o',W⟩:=I.base.there b o e hx;exact⟨o',(J.2 b (zJ (zT (zw e) I.ok.above))).trans W⟩
  ·by_cases hj : j = i
   ·subst hj;rw[hi] at W;cases W;rw[xl ah] at e2;cases e2
    exact⟨u,r,.inl ⟨hk,by simp⟩⟩
   ·rw [xq (Ne.symm hj)] at e2;obtain⟨u',r',q⟩:=hl j y v' W e2 e3;refine⟨u',r',?_⟩
    rcases q with ⟨k,e⟩ |⟨k,c,e,z⟩
    ·refine .inl ⟨k,?_⟩;have:y≠x:=λe=>hj (za5 hN W (e ▸ hi));simp[this,e]
    ·exact .inr ⟨k,c,e,z.sameBut J (cne y c e)⟩
  ·obtain⟨w',z⟩:=I.cell y c e;exact⟨w',z.sameBut J (cne y c e)⟩
  ·obtain⟨e,n,ne,nf,d⟩:=I.pin p hp;exact⟨(J.2 p.1 ne).trans e,n,ne,nf,d⟩
 ·have ae : X.fn x = true := by
   rcases hf with z |z
   ·exact z
   ·rw[z] at hk;cases hk
  obtain⟨c,Y⟩:=I.ok.has x (.inl hk);obtain⟨w',z⟩:=I.cell x c Y;refine wpAny_storeName_cell I.ok.kind hk Y z (λh' hc' J=>?_);obtain⟨oc,ag,af⟩:=id z
  refine h { s with heap:=h' } ⟨I.ok,I.os,I.bare,⟨λb o e n hb hx=>?_,λb o e n hb hx=>?_,I.base.free,λb o e hx=>?_,I.base.tups,I.base.frzs,I.base.tbls⟩,⟨m,hn.sameBut J (Ne.symm (cne x c Y)),λj y v' W e2 e3=>?_⟩,λy c' e=>?_,I.free,I.freeC,λp hp=>?_,tracked ⟨oc,ag,I.freeC x c Y⟩ J,by simpa using I.len⟩ ⟨c,J,.inr Y⟩
  ·exact(J.2 b (zJ (zT (zw e) (I.ok.cab x c ae Y)))).trans (I.base.keep b o e n hb hx)
  ·obtain⟨sl,W⟩:=I.base.slot b o e n hb hx;exact⟨sl,(J.2 b (zJ (zT (zw e) (I.ok.cab x c ae Y)))).trans W⟩
  ·obtain⟨o',W⟩:=I.base.there b o e hx;exact⟨o',(J.2 b (zJ (zT (zw e) (I.ok.cab x c ae Y)))).trans W⟩
  ·by_cases hj : j = i
   ·subst hj;rw[hi] at W;cases W;rw[xl ah] at e2;cases e2;exact⟨u,r,.inr ⟨.inl hk,c,Y,hc'⟩⟩
   ·rw [xq (Ne.symm hj)] at e2;obtain⟨u',r',q⟩:=hl j y v' W e2 e3;refine⟨u',r',?_⟩
    rcases q with q |⟨k,c',e,z'⟩
    ·exact .inl q
    ·refine .inr ⟨k,c',e,z'.sameBut J ?_⟩;rintro rfl;exact hj (za5 hN W (I.ok.inj _ _ _ e Y ▸ hi))
  ·by_cases aj : c' = c
   ·subst aj;exact⟨_,hc'⟩
   ·obtain⟨w2,z2⟩:=I.cell y c' e;exact⟨w2,z2.sameBut J aj⟩
  ·obtain ⟨e, n, ne, nf, d⟩ := I.pin p hp;refine⟨(J.2 p.1 ?_).trans e,n,ne,nf,d⟩;intro q;rw[q,ag] at e;have q':oc=p.2:=zB e
   exact d w' (by rw[<- q'];exact af)
theorem Xw{M:Model}{A:Around}{E:QqV}{i:Nat}{x:Str}{v:V}{u:Value}{Q:Unit->Shared->Prop}(I:Inv X pins σ H s)(hN:X.N.Nodup)(hi:X.N[i]?=some x)(hx:Loc X.env.scope x)(r:RelV v u)
  (h:∀s',Inv X pins (σ.set i (some v)) H s'->Q () s') (J:X.fn x=true\/X.env.scope.names.lookup x=some .local:=by first |exact .inl rfl |exact .inr rfl |assumption):wpAny M A (storeName X.env x u) Q E s:=
 Ki I hN hi hx r (λs' I' _=>h s' I') J
theorem Inv.call'{s':Shared}{ch:List Addr}(I:Inv X pins σ H s)(W:s'.os=s.os)(u:Un (frs X.stack) ch H H' s.heap s'.heap)(hok:HOk X.prog X.w H' s'.heap)(Y:AllBare s'.gens)
  (J:∀b∈ch,(b∈X.ex\/X.s₀.heap.objs.size<=b)/\b≠X.env.locals/\(∀x c,X.env.cells.lookup x=some c->c≠b)/\∀p∈X.pn++pins,p.1≠b):Inv X pins σ H' s':=by
 obtain⟨h',g',d',t',o'⟩:=s';have e:o'=s.os:=W;subst e;exact I.call (g':=g') (t':=t') (d':=d') u hok Y J
end
noncomputable abbrev XK:=Value->Option Addr->Hp->Prop
noncomputable abbrev St:=List (Option V)
noncomputable abbrev VK:=V->Hp->Prop
noncomputable abbrev TE:=St->Hp->VK->Prop
noncomputable abbrev TT:=St->Hp->(Bool->Hp->Prop)->Prop
noncomputable abbrev TA:=St->Hp->(List V->Hp->Prop)->Prop
structure Ys where
 nx:St->Hp->Prop
 rt:VK
 bk:St->Hp->Prop:=λ_ _=>False
 ct:St->Hp->Prop:=λ_ _=>False
noncomputable abbrev TS:=Ys->St->Hp->Prop
noncomputable def EP(X:Cx)(I:QqL)(σ:St)(Q:VK)(u:Value)(s':Shared):Prop:=∃v H',Inv X I σ H' s'/\RelV v u/\Q v H'
noncomputable def TP(X:Cx)(I:QqL)(σ:St)(Q:Bool->Hp->Prop)(b:Bool)(s':Shared):Prop:=∃H',Inv X I σ H' s'/\Q b H'
noncomputable def AP(X:Cx)(I:QqL)(σ:St)(Q:List V->Hp->Prop)(us:QqW)(s':Shared):Prop:=∃vs H',Inv X I σ H' s'/\Vals vs us/\Q vs H'
noncomputable def SP(X:Cx)(I:QqL)(D:Ys)(f:Flow)(s':Shared):Prop:=
 match f with
 |.next=>∃σ' H',Inv X I σ' H' s'/\D.nx σ' H'
 |.brk=>∃σ' H',Inv X I σ' H' s'/\D.bk σ' H'
 |.cont=>∃σ' H',Inv X I σ' H' s'/\D.ct σ' H'
 |.ret u=>∃v σ' H',Inv X I σ' H' s'/\RelV v u/\D.rt v H'
noncomputable def PE(X:Cx)(e:Expr)(t:TE):Prop:=
 ∀(I:QqL) (s:Shared) (σ:St) (H:Hp) (Q:VK),Inv X I σ H s->t σ H Q->wpAny (model X.prog X.w) X.A (eval e X.env) (EP X I σ Q) X.xe s
noncomputable def PT(X:Cx)(e:Expr)(t:TT):Prop:=
 ∀(I:QqL) (s:Shared) (σ:St) (H:Hp) (Q:Bool->Hp->Prop),Inv X I σ H s->t σ H Q->wpAny (model X.prog X.w) X.A (isTrue e X.env (eval e X.env)) (TP X I σ Q) X.xe s
noncomputable def PW(X:Cx)(e:Expr)(t:TT):Prop:=
 ∀(J:Sem Value) (I:QqL) (s:Shared) (σ:St) (H:Hp) (Q:Bool->Hp->Prop),Inv X I σ H s->t σ H Q->wpAny (model X.prog X.w) X.A (isTrue e X.env J) (TP X I σ Q) X.xe s
theorem PW.pt{X:Cx}{e:Expr}{t:TT}(h:PW X e t):PT X e t:=h _
noncomputable def PA(X:Cx)(es:List Expr)(t:TA):Prop:=
 ∀(pos:Pos) (I:QqL) (s:Shared) (σ:St) (H:Hp) (Q:List V->Hp->Prop),Inv X I σ H s->t σ H Q->wpAny (model X.prog X.w) X.A (spliced (backTo pos (starEach es X.env))) (AP X I σ Q) X.xe s
noncomputable def PS(X:Cx)(st:Stmt)(t:TS):Prop:=
 ∀(I:QqL) (s:Shared) (σ:St) (H:Hp) (D:Ys),Inv X I σ H s->t D σ H->wpAny (model X.prog X.w) X.A (exec st X.env) (SP X I D) X.xe s
noncomputable def PSs(X:Cx)(st:List Stmt)(t:TS):Prop:=
 ∀(I:QqL) (s:Shared) (σ:St) (H:Hp) (D:Ys),Inv X I σ H s->t D σ H->wpAny (model X.prog X.w) X.A (execs st X.env) (SP X I D) X.xe s
theorem thn{α:Type}{t:Sem α}{Q Q':α->Shared->Prop}{M:Model}{A:Around}{E:QqV}{s:Shared}(h:wpAny M A t Q E s)(I:∀a s,Q a s->Q' a s):wpAny M A t Q' E s:=wv h I λ_ _ x=>x
section
variable {X:Cx}
noncomputable def xz9(i:Nat):TE:=λσ H Q=>∃v,σ[i]?=some (some v)/\Q v H
noncomputable def tC(v:V):TE:=λ_ H Q=>Q v H
theorem Zs{i:Nat}{x:Str}{pos:Pos}(hN:X.N[i]?=some x)(hv:Vis X.env.scope x)(hd:(x == ("__debug__" : Str))=false:=by decide)(Y:(x == ("__classdict__" : Str))=false:=by decide):PE X (.Name x pos) (xz9 i):=by
 intro W s σ H Q I h;obtain⟨v,e,h⟩:=h;obtain⟨m,hn,hl⟩:=I.loc;obtain⟨u,r,l⟩:=hl i x v hN e hv;have fin:EP X W σ Q u s:=⟨v,H,I,r,h⟩
 rcases l with ⟨hk,hm⟩ |⟨hk,c,hc,J⟩
 ·exact wpAny_Name (wpAny_loadName_local I.ok.kind hk hn hm fin) hd
 ·rcases hk with hk | hk
  ·exact wpAny_Name (wpAny_loadName_cell I.ok.kind hk hc J fin) hd
  ·exact wpAny_Name (wpAny_loadName_free I.ok.kind hk hc J fin Y) hd
theorem KB{i j pos}:PE X (.Constant (.int i) j pos) (tC (.int i)):=λ_ _ _ H _ I h=>wpAny_Constant_int ⟨.int i,H,I.tok _,⟨_,rfl⟩,h⟩
theorem xa2{b j pos}:PE X (.Constant (.bool b) j pos) (tC (.bl b)):=λ_ _ _ H _ I h=>Constant_bool ⟨.bl b,H,I,rfl,h⟩
theorem xa1{j pos}:PE X (.Constant .none j pos) (tC .non):=λ_ _ _ H _ I h=>Constant_none ⟨.non,H,I,rfl,h⟩
theorem zG9{x j pos}:PE X (.Constant (.str x) j pos) (tC (.str x)):=λ_ _ _ H _ I h=>Calls.Constant_str ⟨.str x,H,I.tok _,⟨_,rfl⟩,h⟩
noncomputable def Gl(X:Cx)(x:Str):Prop:=X.env.kindOf x=some .globalImplicit
theorem zp9{E:QqV}{J:QqL}{s:Shared}{σ:St}{H:Hp}{x:Str}{u:Value}{pos:Pos}{Q:QqV}(I:Inv X J σ H s)(W:Gl X x)(hm:X.mg x=some u)(h:Q u s)
  (hd:(x == ("__debug__" : Str))=false:=by decide):wpAny (model X.prog X.w) X.A (eval (.Name x pos) X.env) Q E s:=
 Calls.Name_function_global I.ok.kind W (Calls.loadGlobal_global (by rw[I.ok.glob];exact I.mod.glob.keeps I.bk) hm h) hd
theorem Vw{E:QqV}{J:QqL}{s:Shared}{σ:St}{H:Hp}{x:Str}{u:Value}{pos:Pos}{Q:QqV}(I:Inv X J σ H s)(Y:Gl X x)(hm:X.mg x=none)(hv:bootBuiltins x=some u)(h:Q u s)
  (W:x ≠ "__name__" := by decide) (hd:(x == ("__debug__" : Str))=false:=by decide):wpAny (model X.prog X.w) X.A (eval (.Name x pos) X.env) Q E s:=by
 obtain⟨mb,h1,h2⟩:=I.mod.blt
 exact Calls.Name_function_global I.ok.kind Y (Calls.loadGlobal_builtin (by rw[I.ok.glob];exact I.mod.glob.keeps I.bk) hm (by rw[I.ok.blt];exact h1.keeps I.bk) ((h2 x W).trans hv) h) hd
theorem zl8{x:Str}{v:V}{u:Value}{pos:Pos}(J:Gl X x)(hm:X.mg x=some u)(r:RelV v u)(hd:(x == ("__debug__" : Str))=false:=by decide):PE X (.Name x pos) (tC v):=
 λ_ _ _ H _ I h=>zp9 I J hm ⟨v,H,I,r,h⟩ hd
theorem zO1{x:Str}{v:V}{u:Value}{pos:Pos}(W:Gl X x)(hm:X.mg x=none)(hv:bootBuiltins x=some u)(r:RelV v u)(J:x ≠ "__name__" := by decide)(hd:(x == ("__debug__" : Str))=false:=by decide):PE X (.Name x pos) (tC v):=
 λ_ _ _ H _ I h=>Vw I W hm hv ⟨v,H,I,r,h⟩ J hd
variable {a b:Expr}{ta tb:TE}{pos:Pos}
noncomputable def tB(t:TE):TT:=λσ H Q=>t σ H λx I=>∃c,x=.bl c/\Q c I
theorem zZ1{e:Expr}{t:TE}(h:PE X e t)(he:∀J,isTrue e X.env J=(do let v <- J;standAt e.pos;holding [v] (truthy v)):=by intro _;rfl):PT X e (tB t):=by
 intro W s σ H Q I hw;refine isTrue_plain (thn (h W s σ H _ I hw) λv s1 ⟨x,H1,I1,Y,q1⟩=>?_) (he _);obtain⟨d,rfl,q⟩:=q1;cases Y;exact xZ ⟨H1,I1,q⟩
variable {tA tB':TT}{rest:List Expr}
noncomputable def xI4(t u:TT):TT:=λσ H Q=>t σ H λc I=>if c=true then u σ I Q else Q false I
noncomputable def tOr(t u:TT):TT:=λσ H Q=>t σ H λc I=>if c=true then Q true I else u σ I Q
noncomputable def xH9(t:TT):TT:=λσ H Q=>t σ H λc I=>Q (!c) I
theorem zM4(ha:PT X a tA):PW X (.BoolOp .And [a] pos) tA:=by
 intro W J s σ H Q I h;refine isTrue_and (thn (ha J s σ H Q I h) λc Y e=>?_)
 cases c with
 |true=>exact isTrue_and_nil e
 |false=>exact e
theorem zY9(ha:PT X a tA):PW X (.BoolOp .Or [a] pos) tA:=by
 intro W J s σ H Q I h;refine isTrue_or (thn (ha J s σ H Q I h) λc Y e=>?_)
 cases c with
 |false=>exact isTrue_or_nil e
 |true=>exact e
theorem zZ0(ha:PT X a tA)(hb:PW X (.BoolOp .And (b::rest) pos) tB'):PW X (.BoolOp .And (a::b::rest) pos) (xI4 tA tB'):=by
 intro wh J s σ H Q I h;refine isTrue_and (thn (ha J s σ H _ I h) λc s1 ⟨H1,Y,W⟩=>?_)
 cases c with
 |true=>exact hb wh J s1 σ H1 Q Y W
 |false=>exact⟨H1,Y,W⟩
theorem xv3(ha:PT X a tA)(hb:PW X (.BoolOp .Or (b::rest) pos) tB'):PW X (.BoolOp .Or (a::b::rest) pos) (tOr tA tB'):=by
 intro wh J s σ H Q I h;refine isTrue_or (thn (ha J s σ H _ I h) λc s1 ⟨H1,Y,W⟩=>?_)
 cases c with
 |true=>exact⟨H1,Y,W⟩
 |false=>exact hb wh J s1 σ H1 Q Y W
theorem zZ2(ha:PT X a tA):PT X (.UnaryOp .Not a pos) (xH9 tA):=by
 intro J s σ H Q I h;exact isTrue_not (ha J s σ H (λc W=>Q (!c) W) I h)
noncomputable def xn2(ta tb:TE):TE:=λσ H Q=>ta σ H λx I=>∃c,x=.bl c/\if c=true then tb σ I Q else Q (.bl false) I
noncomputable def xH8(ta tb:TE):TE:=λσ H Q=>ta σ H λx I=>∃c,x=.bl c/\if c=true then Q (.bl true) I else tb σ I Q
noncomputable def xm5(ta:TE):TE:=λσ H Q=>ta σ H λx I=>∃c,x=.bl c/\Q (.bl (!c)) I
theorem zZ9{op}{t:TE}(h:PE X a t):PE X (.BoolOp op [a] pos) t:=λJ s σ H Q I W=>BoolOp_one (h J s σ H Q I W)
theorem xa3(ha:PE X a ta)(hb:PE X (.BoolOp .And (b::rest) pos) tb):PE X (.BoolOp .And (a::b::rest) pos) (xn2 ta tb):=by
 intro J s σ H Q I h;refine BoolOp_and (thn (ha J s σ H _ I h) λv s1 ⟨x,H1,Y,r1,W⟩=>?_);obtain⟨c,rfl,W⟩:=W;cases r1;refine xZ ?_
 cases c with
 |true=>exact hb J s1 σ H1 Q Y W
 |false=>exact⟨.bl false,H1,Y,rfl,W⟩
theorem xv8(ha:PE X a ta)(hb:PE X (.BoolOp .Or (b::rest) pos) tb):PE X (.BoolOp .Or (a::b::rest) pos) (xH8 ta tb):=by
 intro J s σ H Q I h;refine BoolOp_or (thn (ha J s σ H _ I h) λv s1 ⟨x,H1,Y,r1,W⟩=>?_);obtain⟨c,rfl,W⟩:=W;cases r1;refine xZ ?_
 cases c with
 |false=>exact hb J s1 σ H1 Q Y W
 |true=>exact⟨.bl true,H1,Y,rfl,W⟩
theorem xa0(ha:PE X a ta):PE X (.UnaryOp .Not a pos) (xm5 ta):=by
 intro J s σ H Q I h;refine UnaryOp_ (thn (ha J s σ H _ I h) λv s1 ⟨x,H1,I1,Y,W⟩=>?_);obtain⟨c,rfl,W⟩:=W;cases Y;exact not_of (xZ ⟨.bl (!c),H1,I1,rfl,W⟩)
noncomputable def tIf(t:TT)(ta tb:TE):TE:=λσ H Q=>t σ H λc I=>if c=true then ta σ I Q else tb σ I Q
theorem zz9{c:Expr}(hc:PT X c tA)(ha:PE X a ta)(hb:PE X b tb):PE X (.IfExp c a b pos) (tIf tA ta tb):=by
 intro J s σ H Q I h;refine wpAny_IfExp (thn (hc J s σ H _ I h) λd W ⟨H1,I1,Y⟩=>?_)
 cases d with
 |true=>exact ha J W σ H1 Q I1 Y
 |false=>exact hb J W σ H1 Q I1 Y
end
noncomputable def SqL(K:W.Frag)(H:Hp)(a:Addr)(xs:List V):Prop:=
 Rd H a (.lst xs) \/
  ∃(o:Obj) (its:Array Value) (n:Nat),K.lookup a=some o/\o.cls=.type "list" /\ o.dict=none/\o.data=.seq its n/\its.size<=sizeLine/\Vals xs its.toList
noncomputable def SqT(K:W.Frag)(H:Hp)(a:Addr)(xs:List V):Prop:=
 Rd H a (.tup xs) \/
  ∃(o:Obj) (its:Array Value) (n:Nat),K.lookup a=some o/\o.cls=.type "tuple" /\ o.data=.seq its n/\its.size<=sizeLine/\Vals xs its.toList
noncomputable def xO3:Value->Option V
 |.none=>some .non
 |.bool b=>some (.bl b)
 |.int i _=>some (.int i)
 |.str x _=>some (.str x)
 |.bytes b _=>some (.byt b)
 |.float b _=>some (.flt b)
 |.ref a=>some (.ref a)
 |.type n=>some (.ty n)
 |_=>none
theorem RelV.abs{x:V}{u:Value}(r:RelV x u):xO3 u=some x:=by
 cases x with
 |non=>cases r;rfl
 |bl _=>cases r;rfl
 |int _=>obtain⟨t,rfl⟩:=r;rfl
 |str _=>obtain⟨t,rfl⟩:=r;rfl
 |byt _=>obtain⟨t,rfl⟩:=r;rfl
 |flt _=>obtain⟨t,rfl⟩:=r;rfl
 |ref _=>cases r;rfl
 |ty _=>cases r;rfl
theorem RelV.inj{x y:V}{u:Value}(r:RelV x u)(q:RelV y u):x=y:=zB (r.abs.symm.trans q.abs)
theorem Vals.inj:∀{xs ys:List V}{us:QqW},Vals xs us->Vals ys us->xs=ys
 |_,_,_,.nil,.nil=>rfl
 |_,_,_,.cons r t,.cons r' t'=>by rw[r.inj r',Vals.inj t t']
section
variable {X:Cx}{pins:QqL}{σ:St}{H:Hp}{s:Shared}{a:Addr}{xs ys:List V}
theorem SqL.of{K:W.Frag}(h:H a=some (.lst xs)):SqL K H a xs:=.inl (.inl h)
theorem Inv.list(I:Inv X pins σ H s)(h:SqL X.K H a xs):∃its:List Value,Vals xs its/\PlainL s.heap a its.toArray/\xs.length<=sizeLine:=by
 rcases h with h |⟨o,its,n,hk,W,hd,J,Y,r⟩
 ·obtain⟨z,its,n,r,e⟩:=h.ok I.hok;exact⟨its,r,⟨_,n,e,rfl,rfl,rfl⟩,z⟩
 ·refine ⟨its.toList, r, ⟨o, n, I.kIn a o hk, W, hd, by simpa using J⟩, ?_⟩
  have e:=r.length;simp only[zk] at e;lia
theorem Inv.tuple(I:Inv X pins σ H s)(h:SqT X.K H a xs):∃its:List Value,Vals xs its/\IsTup s.heap a its.toArray/\xs.length<=sizeLine:=by
 rcases h with h |⟨o,its,n,hk,W,J,Y,r⟩
 ·obtain⟨z,its,r,p⟩:=h.ok I.hok;exact⟨its,r,p,z⟩
 ·refine ⟨its.toList, r, ⟨o, I.kIn a o hk, W, n, by simpa using J⟩, ?_⟩
  have e:=r.length;simp only[zk] at e;lia
theorem Inv.list_inj(I:Inv X pins σ H s)(h:SqL X.K H a xs)(h':SqL X.K H a ys):xs=ys:=by
 obtain⟨its,r,⟨o,n,e,_,_,d⟩,_⟩:=I.list h;obtain⟨its',r',⟨o',n',e',_,_,d'⟩,_⟩:=I.list h';rw[e] at e';cases e';rw[d] at d';injection d' with d1 _
 have:its=its':=by simpa using congrArg Array.toList d1
 subst this;exact r.inj r'
theorem Inv.tuple_inj(I:Inv X pins σ H s)(h:SqT X.K H a xs)(h':SqT X.K H a ys):xs=ys:=by
 obtain⟨its,r,⟨o,e,_,n,d⟩,_⟩:=I.tuple h;obtain⟨its',r',⟨o',e',_,n',d'⟩,_⟩:=I.tuple h';rw[e] at e';cases e';rw[d] at d';injection d' with d1 _
 have:its=its':=by simpa using congrArg Array.toList d1
 subst this;exact r.inj r'
end
noncomputable abbrev Cx.wish(X:Cx)(E:QqV):Cx:={ X with xe:=E }
noncomputable abbrev Cx.nox(X:Cx):Cx:=X.wish λ_ _=>False
theorem Cx.Ok.wish{X:Cx}(ok:X.Ok)(E:QqV):(X.wish E).Ok:=
 ⟨ok.mod,ok.kind,ok.glob,ok.blt,ok.above,ok.inj,ok.has,ok.cab,ok.hd,ok.frames,ok.stk,ok.exf,ok.bs,ok.bsz,ok.noex,ok.exfs,ok.funs,ok.frf⟩
theorem Cx.Ok.unwish{X:Cx}{E:QqV}(ok:(X.wish E).Ok):X.Ok:=
 ⟨ok.mod,ok.kind,ok.glob,ok.blt,ok.above,ok.inj,ok.has,ok.cab,ok.hd,ok.frames,ok.stk,ok.exf,ok.bs,ok.bsz,ok.noex,ok.exfs,ok.funs,ok.frf⟩
section
variable {X:Cx}{pins:QqL}{σ:St}{H:Hp}{s:Shared}{E:QqV}
theorem Inv.wish(I:Inv X pins σ H s)(E:QqV):Inv (X.wish E) pins σ H s:=⟨I.ok.wish E,I.os,I.bare,I.base,I.loc,I.cell,I.free,I.freeC,I.pin,I.hok,I.len⟩
theorem Inv.unwish(I:Inv (X.wish E) pins σ H s):Inv X pins σ H s:=⟨I.ok.unwish,I.os,I.bare,I.base,I.loc,I.cell,I.free,I.freeC,I.pin,I.hok,I.len⟩
theorem SP.unwish{D:Ys}{f:Flow}{s':Shared}(h:SP (X.wish E) pins D f s'):SP X pins D f s':=by
 cases f with
 |next=>obtain⟨σ',H',I,q⟩:=h;exact⟨σ',H',I.unwish,q⟩
 |brk=>obtain⟨σ',H',I,q⟩:=h;exact⟨σ',H',I.unwish,q⟩
 |cont=>obtain⟨σ',H',I,q⟩:=h;exact⟨σ',H',I.unwish,q⟩
 |ret u=>obtain⟨v,σ',H',I,r,q⟩:=h;exact⟨v,σ',H',I.unwish,r,q⟩
theorem PSs.nox{st:List Stmt}{t:TS}(h:PSs X.nox st t):PSs X st t:=λpins s σ H D I J=>
 wv (h pins s σ H D (I.wish _) J) (λ_ _ q=>q.unwish) λ_ _ z=>False.elim z
end
section
variable {X:Cx}{st:Stmt}{rest:List Stmt}{t u:TS}{e:Expr}{te:TE}{pos:Pos}
noncomputable def xm6:TS:=λD σ H=>D.nx σ H
noncomputable def xH5(t u:TS):TS:=λD σ H=>t { D with nx:=u D } σ H
theorem zM8:PSs X [] xm6:=λ_ _ σ H _ I h=>wpAny_execs_nil ⟨σ,H,I,h⟩
theorem QV(h1:PS X st t)(h2:PSs X rest u):PSs X (st::rest) (xH5 t u):=by
 intro J s σ H D I h;refine wpAny_execs_cons (thn (h1 J s σ H { D with nx:=u D } I h) λf W q=>?_)
 cases f with
 |next=>
  obtain⟨σ',H',I',q⟩:=q;exact h2 J W σ' H' D I' q
 |ret v=>exact q
 |brk=>exact q
 |cont=>exact q
theorem zM7(h1:PS X st t):PSs X [st] t:=by
 intro J s σ H D I h;refine wpAny_execs_cons (thn (h1 J s σ H D I h) λf W q=>?_)
 cases f with
 |next=>exact wpAny_execs_nil q
 |ret v=>exact q
 |brk=>exact q
 |cont=>exact q
theorem Inv.quiet{J:QqL}{σ:St}{H:Hp}{s:Shared}(I:Inv X J σ H s):interactive X.env=false:=by simp[interactive,I.ok.kind]
noncomputable def xm7(te:TE):TS:=λD σ H=>te σ H λ_ I=>D.nx σ I
theorem Qc(he:PE X e te)(Y:swapsWith e none pos.line X.env=pure false:=by rfl):PS X (.Expr e pos) (xm7 te):=by
 intro J s σ H D I h;exact wpAny_Expr_any (thn (he J s σ H _ I h) λv s1 ⟨x,H1,I1,r1,W⟩=>⟨σ,H1,I1,W⟩) I.quiet Y
noncomputable def xH6(te:TE):TS:=λD σ H=>te σ H D.rt
theorem zZ3(he:PE X e te):PS X (.Return (some e) pos) (xH6 te):=by
 intro J s σ H D I h;exact wpAny_Return_some (thn (he J s σ H _ I h) λv s1 ⟨x,H1,I1,W,Y⟩=>⟨x,σ,H1,I1,W,Y⟩)
noncomputable def xI2(c:TT)(t u:TS):TS:=λD σ H=>c σ H λb I=>if b=true then t D σ I else u D σ I
theorem xv6{c:Expr}{a b:List Stmt}{W:TT}(hc:PT X c W)(ha:PSs X a t)(hb:PSs X b u):PS X (.If c a b pos) (xI2 W t u):=by
 intro J s σ H D I h;refine wpAny_If (thn (hc J s σ H _ I h) λd Y ⟨H1,I1,q1⟩=>?_)
 cases d with
 |true=>exact ha J Y σ H1 D I1 q1
 |false=>exact hb J Y σ H1 D I1 q1
end
noncomputable abbrev TG:=V->St->Hp->(St->Hp->Prop)->Prop
noncomputable abbrev TGs:=List V->St->Hp->(St->Hp->Prop)->Prop
noncomputable def PG(X:Cx)(I:Expr)(t:TG):Prop:=
 ∀(J:QqL) (s:Shared) (σ:St) (H:Hp) (v:V) (u:Value) (Q:St->Hp->Prop),Inv X J σ H s->RelV v u->t v σ H Q ->
  wpAny (model X.prog X.w) X.A (assign I X.env u) (λ_ s'=>∃σ' H',Inv X J σ' H' s'/\Q σ' H') X.xe s
noncomputable def PGs(X:Cx)(ts:List Expr)(t:TGs):Prop:=
 ∀(I:QqL) (s:Shared) (σ:St) (H:Hp) (vs:List V) (us:QqW) (Q:St->Hp->Prop),Inv X I σ H s->Vals vs us->t vs σ H Q ->
  wpAny (model X.prog X.w) X.A (assignInOrder ((assignEach ts X.env).map (·.2)) us) (λ_ s'=>∃σ' H',Inv X I σ' H' s'/\Q σ' H') X.xe s
noncomputable abbrev xz4:=V->V->V->Hp->(Hp->Prop)->Prop
noncomputable def xG9(X:Cx)(t:xz4):Prop:=
 ∀(I:QqL) (s:Shared) (σ:St) (H:Hp) (o i v:V) (J W u:Value) (Q:Hp->Prop),Inv X I σ H s->RelV o J->RelV i W->RelV v u->t o i v H Q ->
  wpAny (model X.prog X.w) X.A (setItem J W u) (λ_ s'=>∃H',Inv X I σ H' s'/\Q H') X.xe s
section
variable {X:Cx}{pos:Pos}
noncomputable def zD8(i:Nat):TG:=λv σ H Q=>Q (σ.set i (some v)) H
theorem zN5{i:Nat}{x:Str}(hN:X.N.Nodup)(hi:X.N[i]?=some x)(hx:Loc X.env.scope x)(W:X.fn x=true\/X.env.scope.names.lookup x=some .local:=by first |exact .inl rfl |exact .inr rfl |assumption):PG X (.Name x pos) (zD8 i):=by
 intro J s σ H v u Q I r h;exact wpAny_assign_Name (Xw I hN hi hx r (λs' I'=>⟨_,H,I',h⟩) W)
noncomputable def xN2:TGs:=λvs σ H Q=>vs=[]/\Q σ H
noncomputable def xy5(t:TG)(u:TGs):TGs:=λvs σ H Q=>∃v r,vs=v::r/\t v σ H λσ' H'=>u r σ' H' Q
theorem zN4:PGs X [] xN2:=by
 intro J s σ H vs us Q I r h;obtain⟨e,h⟩:=h;subst e;cases r;exact assignInOrder_nil ⟨σ,H,I,h⟩
theorem zz8{e:Expr}{es:List Expr}{t:TG}{u:TGs}(h1:PG X e t)(h2:PGs X es u)
  (hs:(assignEach (e::es) X.env).map (·.2)=assign e X.env::(assignEach es X.env).map (·.2):=by rfl):PGs X (e::es) (xy5 t u):=by
 intro J s σ H vs us Q I r h;obtain⟨v,vr,e1,h⟩:=h;subst e1
 cases r with
 |cons r rr=>
  rw[hs];refine assignInOrder_cons (thn (h1 J s σ H _ _ _ I r h) λ_ Y ⟨W,H1,I1,q1⟩=>?_);exact h2 J Y W H1 _ _ Q I1 rr q1
noncomputable def xN0(K:W.Frag)(n:Nat)(t:TGs):TG:=λv σ H Q=>∃a xs,v=.ref a/\SqT K H a xs/\xs.length=n/\t xs σ H Q
theorem zZ6{es:List Expr}{k:Nat}{t:TGs}{n:Nat}(hc:X.calm=true)(h:PGs X es t)
  (hn:(assignEach es X.env).length=n:=by rfl) (Y:(assignEach es X.env).findIdx? (·.1)=none:=by rfl):PG X (.Tuple es k pos) (xN0 X.K n t):=by
 intro J s σ H v u Q I r W;obtain⟨a,xs,e1,hq,hl,W⟩:=W;subst e1;cases r;obtain⟨its,rv,ht,hz⟩:=I.tuple hq
 refine assign_Tuple_tuple (I.ok.hd hc) ht (by simp[hn,<- hl,rv.length]) Y λh' hx=>?_
 have I1:Inv X J σ H { s with heap:=h' }:=I.kept (t':=s.toks) λb o e=>hx b o (zJ (zw e)) e
 exact h J _ σ H xs _ Q I1 (by simpa using rv) W
noncomputable def xN1(to ti:TE)(t:xz4):TG:=λv σ H Q=>to σ H λo W=>ti σ W λi J=>t o i v J λI=>Q σ I
theorem zZ7{o i:Expr}{to ti:TE}{t:xz4}(ho:PE X o to)(hi:PE X i ti)(hs:xG9 X t)
  (ha : ∀ v, assign (.Subscript o i pos) X.env v = (do
   let W <- holding [v] (eval o X.env)
   let Y <- holding [v,W] (eval i X.env)
   standAt pos
   holding [v,W,Y] (setItem W Y v)
   release [v,W,Y] []):=by intro _;rfl):PG X (.Subscript o i pos) (xN1 to ti t):=by
 intro J s σ H v u Q I r h;rw[ha];refine zc (wU (thn (ho J s σ H _ I h) λW s1 ⟨x,H1,I1,r1,q1⟩=>?_));refine zc (wU (thn (hi J s1 σ H1 _ I1 q1) λY s2 ⟨y,H2,I2,r2,q2⟩=>?_));refine zc (ye (zc (wU (thn (hs J s2 σ H2 x y v W Y u _ I2 r1 r2 r q2) λ_ s3 ⟨H3,I3,q3⟩=>?_))));exact wpAny_release ⟨σ,H3,I3,q3⟩
noncomputable def xn1(I:TE)(g:TG):TS:=λD σ H=>I σ H λx J=>g x σ J D.nx
theorem zG8{W e:Expr}{Y:TE}{g:TG}(he:PE X e Y)(hg:PG X W g)(hs:swapsWithSole [W] e pos.line X.env=pure false:=by rfl)(hw:swappedStores [W] e X.env=pure none:=by rfl)
  (h1:(assignEach [W] X.env).map (·.2)=[assign W X.env]:=by rfl):PS X (.Assign [W] e pos) (xn1 Y g):=by
 intro J s σ H D I h;refine wpAny_Assign_stores (thn (he J s σ H _ I h) λv s1 ⟨x,H1,I1,r1,q1⟩=>?_) hs hw;rw[h1];exact thn (hg J s1 σ H1 x v _ I1 r1 q1) λ_ s2 q=>q
theorem zl2{i:Nat}{x:Str}{e:Expr}{W:TE}{pos':Pos}(hN:X.N.Nodup)(hi:X.N[i]?=some x)(hx:Loc X.env.scope x)(he:PE X e W)(hs:swapsWith e (some (.Name x pos')) pos.line X.env=pure false:=by rfl)(hf:X.fn x=true\/X.env.scope.names.lookup x=some .local:=by first |exact .inl rfl |exact .inr rfl |assumption) :
  PS X (.Assign [.Name x pos'] e pos) (xn1 W (zD8 i)):=by
 intro J s σ H D I h;refine wpAny_Assign_Name (thn (he J s σ H _ I h) λv s1 ⟨y,H1,I1,Y,q1⟩=>?_) hs;exact Xw I1 hN hi hx Y (λs2 I2=>⟨_,H1,I2,q1⟩) hf
noncomputable def xH7(i j:Nat)(I:TA):TS:=λD σ H=>I σ H λvs J=>∃v w,vs=[v,w]/\D.nx ((σ.set i (some v)).set j (some w)) J
theorem zl3{i j:Nat}{x y:Str}{a b:Expr}{ta:TA}{px py pt:Pos}{kt k2 W}(hc:X.calm=true)(hN:X.N.Nodup)(hi:X.N[i]?=some x)(hj:X.N[j]?=some y)(aa:i≠j)
  (hx:X.env.scope.names.lookup x=some .local) (hy:X.env.scope.names.lookup y=some .local) (ha:PA X [a,b] ta)
  (hw:swappedStores [.Tuple [.Name x px,.Name y py] kt pt] (.Tuple [a,b] k2 W) X.env=pure (some [x,y]))
  (hs:swapsWithSole [.Tuple [.Name x px,.Name y py] kt pt] (.Tuple [a,b] k2 W) pos.line X.env=pure false:=by rfl) :
  PS X (.Assign [.Tuple [.Name x px,.Name y py] kt pt] (.Tuple [a,b] k2 W) pos) (xH7 i j ta):=by
 intro J s σ H D I h;rw[exec_Assign_arm];refine zc (ye ?_);rw[hs];refine zc (zj ?_)
 rw[if_neg x4]
 refine zc (Tuple_ (thn (ha _ J s σ H _ I h) λus s1 ⟨vs,H1,I1,r1,q1⟩=>?_));obtain⟨v,w,e1,q1⟩:=q1;subst e1
 obtain⟨u1,Y,rfl,rv,rw'⟩:∃u1 Y,us=[u1,Y]/\RelV v u1/\RelV w Y:=by
  cases r1 with
  | cons p q =>
   cases q with
   |cons p' q'=>
    cases q';exact⟨_,_,rfl,p,p'⟩
 refine wD ?_ (by show 2<=sizeLine;decide)
 have I2:Inv X J σ H1 { s1 with heap:=s1.heap.push { cls:=.type "tuple",data:=.seq [u1,Y].toArray } }:=I1.kept (t':=s1.toks) λb o e=>zg _ e;rw[hw];refine zc (zj ?_)
 show wpAny (model X.prog X.w) X.A (do rule "assign.swapped-stores";let items <- unpackItems (.ref s1.heap.objs.size) 2 none;assignInOrder [λv=>bindName X.env y v,λv=>bindName X.env x v] items.reverse;pure Flow.next) _ _ _
 refine zc (wQ (zc (unpackItems_tuple (items:=#[u1,Y]) (I.ok.hd hc) (IsTup.new s1.heap _) λh' hx'=>?_)));have I3:=I2.kept (h':=h') (t':=s1.toks) λb o e=>hx' b o (zJ (zw e)) e;show wpAny _ _ (assignInOrder [λv=>bindName X.env y v,λv=>bindName X.env x v] [Y,u1] >>= λ_=>pure Flow.next) _ _ _;refine zc (assignInOrder_cons (wpAny_bindName (Xw I3 hN hj (.inl hy) rw' (λs2 I4=>?_) (.inr hy))));refine assignInOrder_cons (wpAny_bindName (Xw I4 hN hi (.inl hx) rv (λs3 I5=>assignInOrder_nil (zj ?_)) (.inr hx)));rw[List.set_comm _ _ (Ne.symm aa)] at I5;exact⟨_,H1,I5,q1⟩
noncomputable def zV2(c:TT)(tb:TS):TS:=λD σ H=>∃W:Nat->St->Hp->Prop,(∃m,W m σ H)/\∀m σ H,W m σ H ->
 c σ H λb I=>if b=true then ∃N:St->Hp->Prop,(∀σ' H',N σ' H'->∃m',m'<m/\W m' σ' H')/\tb { D with nx:=N,ct:=N,bk:=D.nx } σ I else D.nx σ I
theorem zz6{c:Expr}{body:List Stmt}{tc:TT}{tb:TS}(hp:PassesOwn (model X.prog X.w) X.A X.env X.xe)(hc:PT X c tc)(hb:PSs X body tb):PS X (.While c body [] pos) (zV2 tc tb):=by
 intro J s σ H D I h;obtain⟨W,⟨m0,w0⟩,turn⟩:=h;refine wpAny_While (codeAny_whileLoop (λn s'=>∃σ' H',Inv X J σ' H' s'/\W n σ' H') ?_ m0 ⟨σ,H,I,w0⟩);rintro n s1 ⟨σ1,H1,I1,w1⟩;refine yu hp (thn (hc J s1 σ1 H1 _ I1 (turn n σ1 H1 w1)) λb s2 ⟨H2,I2,q2⟩=>?_)
 cases b with
 | true =>
  obtain⟨N,hN,q2⟩:=q2;rw[if_pos rfl];refine yu hp (thn (hb J s2 σ1 H2 _ I2 q2) λf s3 q3=>?_)
  cases f with
  |next=>
   obtain⟨Y,H3,I3,n3⟩:=q3;obtain⟨m',hm,w3⟩:=hN Y H3 n3;exact⟨m',hm,Y,H3,I3,w3⟩
  |cont=>
   obtain⟨Y,H3,I3,n3⟩:=q3;obtain⟨m',hm,w3⟩:=hN Y H3 n3;exact⟨m',hm,Y,H3,I3,w3⟩
  |brk=>exact q3
  |ret v=>exact q3
 |false=>
  rw[if_neg zF];exact wpAny_execs_nil ⟨σ1,H2,I2,q2⟩
end
structure It where
 go:Nat->Hp->Prop
 yld:Nat->Hp->V->Hp->Prop
 stop:Nat->Hp->Prop
noncomputable def FpOk(X:Cx)(I:QqL)(H:Hp)(b:Addr):Prop:=
 H b=none/\b≠X.env.locals/\b ∉ X.fs/\(b∈X.ex\/X.s₀.heap.objs.size<=b)/\(∀x c,X.env.cells.lookup x=some c->c≠b)/\∀p∈X.pn++I,p.1≠b
theorem Inv.fpOk{X:Cx}{J:QqL}{σ:St}{H H':Hp}{s:Shared}{b:Addr}(I:Inv X J σ H s)(W:s.heap.objs.size<=b)(hn:H' b=none):FpOk X J H' b:=by
 refine⟨hn,wa (zT I.lt W),I.nofs W,.inr (zy I.sz W),λx c e z=>?_,λp Y z=>?_⟩
 ·obtain ⟨v, q⟩ := I.cell x c e
  exact absurd (zT q.lt (by rw[z];exact W)) (xW _)
 ·exact absurd (zT (zw (I.pin p Y).1) (by rw[z];exact W)) (xW _)
structure Turn(P:Program)(w:World)(K:W.Frag)(tg:Expr)(J:It)(fp:List Addr)(it:Addr)(tn:Nat->Heap->Prop):Prop where
 mem:it∈fp
 obj:∀i h,tn i h->∀b∈fp,∃o,h.get? b=some o/\∀v,o.data≠.cell v
 keep:∀i h h',tn i h->(∀b∈fp,∀o,h.get? b=some o->h'.get? b=some o)->tn i h'
 item:∀(X:Cx),X.prog=P->X.w=w->X.K=K->X.calm=true->∀(i:Nat) (pins:QqL) (s:Shared) (σ:St) (H:Hp) (E:QqV),Inv X pins σ H s->(∀b∈fp,FpOk X pins H b)->tn i s.heap->J.go i H ->
  wpAny (model P w) X.A (pyNext (.ref it)) (λr s1=>∃u,r=some u /\
   wpAny (model P w) X.A (letOwnedTupleGo tg (.ref it) u) (λ_ s2=>∃x H',Inv X pins σ H' s2/\RelV x u/\J.yld i H x H'/\tn (i+1) s2.heap/\∀b∈fp,H' b=none) E s1) E s
 done:∀(X:Cx),X.prog=P->X.w=w->X.K=K->X.calm=true->∀(i:Nat) (pins:QqL) (s:Shared) (σ:St) (H:Hp) (E:QqV),Inv X pins σ H s->(∀b∈fp,FpOk X pins H b)->tn i s.heap->J.stop i H ->
  wpAny (model P w) X.A (pyNext (.ref it)) (λr s1=>r=none/\Inv X pins σ H s1) E s
 self:∀(A:Around) (i:Nat) (s:Shared) (Q:QqV) (E:QqV),tn i s.heap->Q (.ref it) s->wpAny (model P w) A (pyIter (.ref it)) Q E s
noncomputable abbrev TI:=St->Hp->(It->Hp->Prop)->Prop
noncomputable def PIE(X:Cx)(I:QqL)(σ:St)(tg:Expr)(R:It->Hp->Prop)(W:Value)(s2:Shared):Prop:=
 ∃(it:Addr) (fp:List Addr) (Y:Nat->Heap->Prop) (J:It) (H':Hp),W=.ref it/\Inv X I σ H' s2/\Turn X.prog X.w X.K tg J fp it Y/\Y 0 s2.heap/\(∀b∈fp,FpOk X I H' b)/\R J H'
noncomputable def PI(X:Cx)(Y J:Expr)(W:TI):Prop:=
 ∀(I:QqL) (s:Shared) (σ:St) (H:Hp) (R:It->Hp->Prop),Inv X I σ H s->W σ H R ->
  wpAny (model X.prog X.w) X.A (eval J X.env) (λv s1=>wpAny (model X.prog X.w) X.A (pyIter v) (PIE X I σ Y R) X.xe s1) X.xe s
theorem zS1{M:Model}{A:Around}{E:QqV}{s:Shared}{J:Expr}{it:Addr}{u:Value}{o:Obj}{n:String}{vs:Array Value}{Q:Unit->Shared->Prop}(W:s.heap.get? it=some o)(hc:o.cls=.type n)(hd:o.data=.fields vs)
    (Y:["enumerate","zip","dict_itemiterator","dict_reverseitemiterator","odict_iterator","itertools.zip_longest","itertools.pairwise"].contains n=false) (I:Q () s):wpAny M A (letOwnedTupleGo J (.ref it) u) Q E s:=by
  unfold letOwnedTupleGo
  cases J <;> first
    |exact zj I
    |(cases u<;>first
        |exact zj I
        | (refine zc (wpAny_load W ?_)
           rw[hc,hd]
           show wpAny M A (if (["enumerate","zip","dict_itemiterator","dict_reverseitemiterator","odict_iterator","itertools.zip_longest","itertools.pairwise"].contains n&&vs[0]? == some (rawInt _))=true then _ else _) Q E s
           rw[if_neg (by intro h;rw[Y,yp] at h;cases h)]
           exact zj I))
noncomputable def Itl(K:W.Frag)(a:Addr):It:=
 ⟨λi H=>∃xs x,SqL K H a xs/\xs[i]?=some x,λi H x H'=>H'=H/\∀xs,SqL K H a xs->xs[i]?=some x,λi H=>∃xs,SqL K H a xs/\xs.length<=i⟩
noncomputable def Itt(K:W.Frag)(a:Addr):It:=
 ⟨λi H=>∃xs x,SqT K H a xs/\xs[i]?=some x,λi H x H'=>H'=H/\∀xs,SqT K H a xs->xs[i]?=some x,λi H=>∃xs,SqT K H a xs/\xs.length<=i⟩
noncomputable def Itr(lo:Int)(n:Nat):It:=⟨λi _=>i<n,λi H x H'=>H'=H/\x=.int (lo+i),λi _=>n<=i⟩
theorem zi5{P:Program}{w:World}{K:W.Frag}{tg:Expr}(a it:Addr):Turn P w K tg (Itl K a) [it] it (λi h=>h.IsListIter it a i) where
 mem:=by simp
 obj:=λi h st b Y=>by
  have e:b=it:=by simpa using Y
  subst e;obtain⟨o,e,c,d⟩:=st
  exact⟨o,e,λv z=>by rw[d] at z;cases z⟩
 keep:=λi h h' st k=>st.at λo e=>k it (by simp) o e
 item:=by
  intro X hP hw hK hc i J s σ H E I hf st hg;subst hP hw hK;obtain⟨xs,x,hq,hx⟩:=hg;obtain⟨its,rv,p,hz⟩:=I.list hq;obtain⟨u,hu,ru⟩:=rv.get hx
  obtain⟨f0,f1,f2,f3,f4,f5⟩:=hf it (by simp)
  refine wpAny_pyNext_list_item st p.isList (x:=u) (by simpa using hu) λh' st' sb=>?_
  have I1:Inv X J σ H { s with heap:=h' }:=I.turned (t':=s.toks) (λb o Y e=>(sb.2 b Y).trans e) f0 f1 f3 f4 f5;obtain⟨o,e,c,d⟩:=id st'
  exact⟨u,rfl,zS1 (s:={ s with heap:=h' }) e c d x4 ⟨x,H,I1,ru,⟨rfl,λys hy=>by rw[I.list_inj hy hq];exact hx⟩,st',λb Y=>(hf b Y).1⟩⟩
 done:=by
  intro X hP hw hK hc i J s σ H E I hf st hg;subst hP hw hK;obtain⟨xs,hq,hx⟩:=hg;obtain⟨its,rv,p,hz⟩:=I.list hq
  obtain⟨f0,f1,f2,f3,f4,f5⟩:=hf it (by simp)
  have hl:=rv.length
  exact wpAny_pyNext_list_end (I.ok.hd hc) st p.isList (by simp;lia) λh' eb=>⟨rfl,I.turned (t':=s.toks) (λb o Y e=>eb b o Y e) f0 f1 f3 f4 f5⟩
 self:=λ_ _ _ _ _ st h=>wpAny_pyIter_listiter st h
theorem zc6{P:Program}{w:World}{K:W.Frag}{tg:Expr}(a it:Addr):Turn P w K tg (Itt K a) [it] it (λi h=>h.IsTupleIter it a i) where
 mem:=by simp
 obj:=λi h st b Y=>by
  have e:b=it:=by simpa using Y
  subst e;obtain⟨o,e,c,d⟩:=st
  exact⟨o,e,λv z=>by rw[d] at z;cases z⟩
 keep:=λi h h' st k=>st.at λo e=>k it (by simp) o e
 item:=by
  intro X hP hw hK hc i J s σ H E I hf st hg;subst hP hw hK;obtain⟨xs,x,hq,hx⟩:=hg;obtain⟨its,rv,p,hz⟩:=I.tuple hq;obtain⟨u,hu,ru⟩:=rv.get hx
  obtain⟨f0,f1,f2,f3,f4,f5⟩:=hf it (by simp)
  refine wpAny_pyNext_tuple_item st (show s.heap.IsTuple a its.toArray from p) (x:=u) (by simpa using hu) λh' st' sb=>?_
  have I1:Inv X J σ H { s with heap:=h' }:=I.turned (t':=s.toks) (λb o Y e=>(sb.2 b Y).trans e) f0 f1 f3 f4 f5;obtain⟨o,e,c,d⟩:=id st'
  exact⟨u,rfl,zS1 (s:={ s with heap:=h' }) e c d x4 ⟨x,H,I1,ru,⟨rfl,λys hy=>by rw[I.tuple_inj hy hq];exact hx⟩,st',λb Y=>(hf b Y).1⟩⟩
 done:=by
  intro X hP hw hK hc i J s σ H E I hf st hg;subst hP hw hK;obtain⟨xs,hq,hx⟩:=hg;obtain⟨its,rv,p,hz⟩:=I.tuple hq
  obtain⟨f0,f1,f2,f3,f4,f5⟩:=hf it (by simp)
  have hl:=rv.length
  exact wpAny_pyNext_tuple_end (I.ok.hd hc) st (show s.heap.IsTuple a its.toArray from p) (by simp;lia) λh' eb=>⟨rfl,I.turned (t':=s.toks) (λb o Y e=>eb b o Y e) f0 f1 f3 f4 f5⟩
 self:=λ_ _ _ _ _ st h=>wpAny_pyIter_tupleiter st h
theorem zc7{P:Program}{w:World}{K:PySem.W.Frag}{tg:Expr}(it:Addr)(lo:Int)(n:Nat):Turn P w K tg (Itr lo n) [it] it (λi h=>IsRangeIter h it (lo+(i:Nat)*1) ((n:Int)-(i:Nat)) 1) where
 mem:=by simp
 obj:=λi h st b Y=>by
  have e:b=it:=by simpa using Y
  subst e
  exact⟨_,st,λv z=>by
   have z':Data.fields _=Data.cell v:=z
   cases z'⟩
 keep:=λi h h' st k=>k it (by simp) _ st
 item:=by
  intro X hP hw hK hc i J s σ H E I hf st hg;subst hP hw hK
  obtain⟨f0,f1,f2,f3,f4,f5⟩:=hf it (by simp)
  have W:=Walks.range (prog:=X.prog) (w:=X.w) (I.ok.hd hc) it lo 1 n;refine W.item i s _ _ hg st λv h' tk hv st' kk=>?_;obtain⟨t,rfl⟩:=hv
  have I1:Inv X J σ H { s with heap:=h',toks:=tk }:=I.turned (λb o Y e=>kk b o (by simpa using Y) e) f0 f1 f3 f4 f5
  refine⟨_,rfl,zS1 (s:={ s with heap:=h',toks:=tk }) (n := "range_iterator") st' rfl rfl x4 ⟨.int (lo+i),H,I1,⟨t,?_⟩,⟨rfl,rfl⟩,st',λb Y=>(hf b Y).1⟩⟩
  rw[Int.mul_one]
 done:=by
  intro X hP hw hK hc i J s σ H E I hf st hg;subst hP hw hK
  obtain⟨f0,f1,f2,f3,f4,f5⟩:=hf it (by simp)
  exact wpAny_pyNext_range_end (I.ok.hd hc) st (by have:n<=i:=hg;lia) λh' eb=>⟨rfl,I.turned (t':=s.toks) (λb o Y e=>eb b o Y e) f0 f1 f3 f4 f5⟩
 self:=λ_ _ _ _ _ st h=>wpAny_pyIter_rangeiter st h
section
variable {X:Cx}{tg:Expr}
theorem zz0{J:QqL}{σ:St}{H:Hp}{s:Shared}{R:It->Hp->Prop}{E:QqV}{lo hi:Int}{t u v:Tok}{W:Nat}(I:Inv X J σ H s)(h1:-(2^62)<=lo)(h2:lo<2^62)(h3:-(2^62)<=hi)(h4:hi<2^62)
  (q:R (Itr lo (hi-lo).toNat) H):wpAny (model X.prog X.w) X.A (pyIter (.ref s.heap.objs.size)) (PIE X J σ tg R) E { s with heap:=s.heap.push { cls:=.type "range",data:=.fields #[.int lo t,.int hi u,.int 1 v] },toks:=W }:=by
 refine wpAny_pyIter_range (IsRange.new ..) (small_one h1 h2 h3 h4) ?_;have Y:Inv X J σ H { s with heap:=s.heap.push { cls:=.type "range",data:=.fields #[.int lo t,.int hi u,.int 1 v] },toks:=W }:=I.kept λb o e=>zg _ e
 refine⟨(s.heap.push { cls:=.type "range",data:=.fields #[.int lo t,.int hi u,.int 1 v] }).objs.size,[(s.heap.push { cls:=.type "range",data:=.fields #[.int lo t,.int hi u,.int 1 v] }).objs.size],_,_,H,rfl,
  Y.kept (t':=W) λb o e=>zg _ e,zc7 _ lo (hi-lo).toNat,?_,λb hb=>?_,q⟩
 ·have e1 : lo + ((0 : Nat) : Int) * 1 = lo := by simp
  have e2:(((hi-lo).toNat:Nat):Int)-((0:Nat):Int)=Builtin.Range.rangeSize lo hi 1:=by rw[rangeSize_one];split<;>lia
  show IsRangeIter _ _ (lo+((0:Nat):Int)*1) ((((hi-lo).toNat:Nat):Int)-((0:Nat):Int)) 1;rw[e1,e2];exact zD _ rfl
 ·have e : b = (s.heap.push { cls := .type "range", data := .fields #[.int lo t, .int hi u, .int 1 v] }).objs.size := by simpa using hb
  subst e;exact Y.fpOk (zi _) (Y.hok.fresh (zi _))
noncomputable def xy2(I:TA):TI:=λσ H R=>I σ H λvs J=>∃j:Int,vs=[.int j]/\-(2^62)<=j/\j<2^62/\R (Itr 0 j.toNat) J
theorem zl6{a:Expr}{Y:TA}{p pos:Pos}(hg:Gl X "range")(hm:X.mg "range" = none)(ha:PA X [a] Y)(hs:starEach [a] X.env=[(false,eval a X.env)]:=by rfl):PI X tg (.Call (.Name "range" p) [a] [] pos) (xy2 Y):=by
 intro J s σ H R I h;refine Call_ (Vw I hg hm boot_range (PyProof.Rows.callWith_type1 (thn (ha pos J s σ H _ I h) λus s1 ⟨vs,H1,I1,r1,W⟩=>?_) hs rfl));obtain⟨j,e,W,q2,q⟩:=W;subst e
 cases r1 with
 |cons r rr=>
  cases rr;obtain⟨t,rfl⟩:=r
  exact call_range_1 (zz0 I1 x3 x3 W q2 (by simpa using q))
noncomputable def xI3(Y:TI)(g:TG)(tb:TS):TS:=λD σ H=>Y σ H λJ H1=>∃W:Nat->Nat->St->Hp->Prop,(∃m,W 0 m σ H1)/\∀i m σ H,W i m σ H ->
 (J.stop i H/\D.nx σ H)\/(J.go i H/\∃N:St->Hp->Prop,(∀σ' H',N σ' H'->∃m',m'<m/\W (i+1) m' σ' H')/\∀x H',J.yld i H x H'->g x σ H' λI H2=>tb { D with nx:=N,ct:=N,bk:=D.nx } I H2)
noncomputable def jR(I:List Addr)(h:Heap):List (Addr × Obj):=I.filterMap λb=>(h.get? b).map λo=>(b,o)
theorem kc{I:List Addr}{h:Heap}{b:Addr}{o:Obj}(J:b∈I)(e:h.get? b=some o):(b,o)∈jR I h:=List.mem_filterMap.mpr ⟨b,J,by rw[e];rfl⟩
theorem KP{I:List Addr}{h:Heap}{p:Addr × Obj}(J:p∈jR I h):p.1∈I/\h.get? p.1=some p.2:=by
 obtain⟨b,W,e⟩:=List.mem_filterMap.mp J
 cases q:h.get? b with
 |none=>rw[q] at e;cases e
 |some o=>
  rw[q] at e;have e':(b,o)=p:=zB e;subst e';exact⟨W,q⟩
theorem Inv.pinned{J:QqL}{σ:St}{H:Hp}{s:Shared}{W:List Addr}(I:Inv X J σ H s)(hf:∀b∈W,FpOk X J H b)(ho:∀b∈W,∃o,s.heap.get? b=some o/\∀v,o.data≠.cell v):Inv X (J++jR W s.heap) σ H s:=
 I.pins_of λp hp=>(zU.mp hp).elim (λz=>I.pin p (zI _ z)) λz=>by
  obtain⟨Y,e⟩:=KP z;obtain⟨f0,f1,f2,_⟩:=hf p.1 Y;obtain⟨o,e',d⟩:=ho p.1 Y;rw[e] at e';cases e';exact⟨e,f0,f1,f2,d⟩
theorem Inv.unpinned{J W:QqL}{σ:St}{H:Hp}{s:Shared}(I:Inv X (J++W) σ H s):Inv X J σ H s:=I.pins_of λp Y=>I.pin p (zI _ (xu _ Y))
theorem zZ4{ae:Expr}{body:List Stmt}{wi:TI}{g:TG}{tb:TS}{pos:Pos}(hp:PassesOwn (model X.prog X.w) X.A X.env X.xe)(hc:X.calm=true)(hi:PI X tg ae wi)(hg:PG X tg g)(hb:PSs X body tb)
  (hs:∀x,foldedSetIterable ae X.env x=pure x:=by intro _;rfl):PS X (.For tg ae body [] pos) (xI3 wi g tb):=by
 intro Y s σ H D I h;refine wpAny_For (thn (hi Y s σ H _ I h) λv s1 h1=>thn h1 λak s2 h2=>?_) hs;obtain⟨it,fp,tn,J,H2,e,I2,T,ai,f2,W,⟨m0,w0⟩,turn⟩:=h2;subst e;have aa:∀{H':Hp},(∀b∈fp,H' b=none)->∀b∈fp,FpOk X Y H' b:=λhn b hb=>⟨hn b hb,(f2 b hb).2⟩;refine codeAny_forLoop_any (λn s'=>∃i σ' H',Inv X Y σ' H' s'/\tn i s'.heap/\(∀b∈fp,H' b=none)/\W i n σ' H') ?_ m0 ⟨0,σ,H2,I2,ai,λb hb=>(f2 b hb).1,w0⟩;rintro n s3 ⟨i,σ3,H3,I3,ag,ah,w3⟩
 rcases turn i n σ3 H3 w3 with ⟨stop,qn⟩ |⟨go,N,hN,step⟩
 ·refine yu hp (thn (T.done X rfl rfl rfl hc i Y s3 σ3 H3 X.xe I3 (aa ah) ag stop) λr s4 ⟨hr,I4⟩=>?_);subst hr;exact wpAny_execs_nil ⟨σ3,H3,I4,qn⟩
 ·refine yu hp (thn (T.item X rfl rfl rfl hc i Y s3 σ3 H3 X.xe I3 (aa ah) ag go) λr s4 ⟨u, hr, h4⟩ => ?_);subst hr;refine yu hp (thn h4 λ_ s5 ⟨x,H5,I5,r5,y5,af,aj⟩=>?_);have I5':=I5.pinned (aa aj) (T.obj _ _ af);refine yu hp (thn (hg _ s5 σ3 H5 x u _ I5' r5 (step x H5 y5)) λ_ s6 ⟨σ6,H6,I6,q6⟩=>?_);refine yu hp (thn (hb _ s6 σ6 H6 _ I6 q6) λf s7 q7=>?_)
  have again:∀{σ7:St}{H7:Hp},Inv X (Y++jR fp s5.heap) σ7 H7 s7->N σ7 H7->∃m,m<n/\∃i σ' H',Inv X Y σ' H' s7/\tn i s7.heap/\(∀b∈fp,H' b=none)/\W i m σ' H':=λ{σ7 H7} I7 n7=>by
   obtain⟨m',hm,w7⟩:=hN σ7 H7 n7;refine⟨m',hm,i+1,σ7,H7,I7.unpinned,T.keep _ _ _ af λb hb o e=>(I7.pin (b,o) (zI _ (zI _ (kc hb e)))).1,λb hb=>?_,w7⟩;obtain⟨o,e,d⟩:=T.obj _ _ af b hb;exact(I7.pin (b,o) (zI _ (zI _ (kc hb e)))).2.1
  cases f with
  |next=>obtain⟨σ7,H7,I7,n7⟩:=q7;exact again I7 n7
  |cont=>obtain⟨σ7,H7,I7,n7⟩:=q7;exact again I7 n7
  |brk=>obtain⟨σ7,H7,I7,q7⟩:=q7;exact⟨σ7,H7,I7.unpinned,q7⟩
  |ret v=>obtain⟨x7,σ7,H7,I7,r7,q7⟩:=q7;exact⟨x7,σ7,H7,I7.unpinned,r7,q7⟩
end
noncomputable abbrev R2:=V->V->Hp->VK->Prop
noncomputable def OpR(X:Cx)(f:Value->Value->Sem Value)(r:R2):Prop:=
 ∀(I:QqL) (s:Shared) (σ:St) (H:Hp) (x y:V) (v u:Value) (Q:VK),Inv X I σ H s->RelV x v->RelV y u->r x y H Q ->
  wpAny (model X.prog X.w) X.A (f v u) (EP X I σ Q) X.xe s
noncomputable def UnR(X:Cx)(f:Value->Sem Value)(r:V->Hp->VK->Prop):Prop:=
 ∀(I:QqL) (s:Shared) (σ:St) (H:Hp) (x:V) (v:Value) (Q:VK),Inv X I σ H s->RelV x v->r x H Q ->
  wpAny (model X.prog X.w) X.A (f v) (EP X I σ Q) X.xe s
noncomputable def jr(X:Cx)(f:Value)(r:List V->Hp->VK->Prop):Prop:=
 ∀(I:QqL) (s:Shared) (σ:St) (H:Hp) (xs:List V) (us:QqW) (Q:VK),Inv X I σ H s->Vals xs us->r xs H Q ->
  wpAny (model X.prog X.w) X.A (call f us) (EP X I σ Q) X.xe s
noncomputable def tOp(r:R2)(I tb:TE):TE:=λσ H Q=>I σ H λx W=>tb σ W λy J=>r x y J Q
noncomputable def tUn(r:V->Hp->VK->Prop)(I:TE):TE:=λσ H Q=>I σ H λx J=>r x J Q
noncomputable def rI(C:Int->Int->Prop)(g:Int->Int->V):R2:=λx y H Q=>∃i j,x=.int i/\y=.int j/\C i j/\Q (g i j) H
noncomputable def rI0(g:Int->Int->V):R2:=λx y H Q=>∃i j,x=.int i/\y=.int j/\Q (g i j) H
noncomputable def rU(g:Int->V):V->Hp->VK->Prop:=λx H Q=>∃i,x=.int i/\Q (g i) H
section
variable {X:Cx}{a b c:Expr}{ta tb tc:TE}{pos:Pos}
theorem xz1(ha:PE X a ta)(hb:PE X b tb){J:QqL}{s:Shared}{σ:St}{H:Hp}{R:V->V->Hp->Prop}(I:Inv X J σ H s)
  (h:ta σ H λx H1=>tb σ H1 λy W=>R x y W) {Q:QqV}{f:Value->Value->Sem Value}
  (hf:∀v u Y x y W,Inv X J σ W Y->RelV x v->RelV y u->R x y W->wpAny (model X.prog X.w) X.A (f v u) Q X.xe Y) :
  wpAny (model X.prog X.w) X.A (eval a X.env) (λv s₁=>wpAny (model X.prog X.w) X.A (eval b X.env) (λu s₂=>wpAny (model X.prog X.w) X.A (f v u) Q X.xe s₂) X.xe s₁) X.xe s:=by
 refine thn (ha J s σ H _ I h) λv s1 ⟨x,H1,I1,r1,q1⟩=>?_;refine thn (hb J s1 σ H1 _ I1 q1) λu Y ⟨y,W,I2,r2,q2⟩=>?_;exact hf v u Y x y W I2 r1 r2 q2
theorem xv9{op:Operator}{r:R2}(ho:OpR X (binaryOp op) r)(ha:PE X a ta)(hb:PE X b tb):PE X (.BinOp a op b pos) (tOp r ta tb):=by
 intro J s σ H Q I h;exact wpAny_BinOp (xz1 ha hb I h λv u W x y H2 I2 rx Y q=>ho J W σ H2 x y v u Q I2 rx Y q)
theorem xv7{op:UnaryOp}{r:V->Hp->VK->Prop}(ho:UnR X (unaryOp op) r)(ha:PE X a ta):PE X (.UnaryOp op a pos) (tUn r ta):=by
 intro J s σ H Q I h;exact UnaryOp_ (thn (ha J s σ H _ I h) λv W ⟨x,H1,I1,Y,q1⟩=>ho J W σ H1 x v Q I1 Y q1)
theorem opI{f:Value->Value->Sem Value}{C:Int->Int->Prop}{g:Int->Int->Int}
  (rule:∀(i j:Int) (t u:Tok) (s:Shared) (Q:QqV) (E:QqV),C i j->Q (.int (g i j) s.toks) { s with toks:=s.toks+1 }->wpAny (model X.prog X.w) X.A (f (.int i t) (.int j u)) Q E s) :
  OpR X f (rI C λi j=>.int (g i j)):=by
 intro J s σ H x y v u Q I Y W h;obtain⟨i,j,rfl,rfl,hc,q⟩:=h;obtain⟨t,rfl⟩:=Y;obtain⟨t',rfl⟩:=W;exact rule i j t t' s _ _ hc ⟨.int (g i j),H,I.tok _,⟨_,rfl⟩,q⟩
theorem xF1{f:Value->Value->Sem Value}{g:Int->Int->Int}
  (rule:∀(i j:Int) (t u:Tok) (s:Shared) (Q:QqV) (E:QqV),Q (.int (g i j) s.toks) { s with toks:=s.toks+1 }->wpAny (model X.prog X.w) X.A (f (.int i t) (.int j u)) Q E s) :
  OpR X f (rI0 λi j=>.int (g i j)):=by
 intro J s σ H x y v u Q I Y W h;obtain⟨i,j,rfl,rfl,q⟩:=h;obtain⟨t,rfl⟩:=Y;obtain⟨t',rfl⟩:=W;exact rule i j t t' s _ _ ⟨.int (g i j),H,I.tok _,⟨_,rfl⟩,q⟩
theorem xl5{f:Value->Value->Sem Value}{g:Int->Int->Bool}
  (rule:∀(i j:Int) (t u:Tok) (s:Shared) (Q:QqV) (E:QqV),Q (.bool (g i j)) s->wpAny (model X.prog X.w) X.A (f (.int i t) (.int j u)) Q E s) :
  OpR X f (rI0 λi j=>.bl (g i j)):=by
 intro J s σ H x y v u Q I Y W h;obtain⟨i,j,rfl,rfl,q⟩:=h;obtain⟨t,rfl⟩:=Y;obtain⟨t',rfl⟩:=W;exact rule i j t t' s _ _ ⟨.bl (g i j),H,I,rfl,q⟩
noncomputable def xH2(i j:Int):Prop:=0<j/\j<1073741824
noncomputable def xH1(i j:Int):Prop:=0<=j/\j<=1000000/\i.natAbs<2^64
noncomputable def CMul(i j:Int):Prop:=(-(2^64)<i/\i<2^64)\/(-(2^64)<j/\j<2^64)
theorem CMul.ok{i j:Int}(h:CMul i j):IntMulOk i j:=by
 rcases h with ⟨h1,h2⟩ |⟨h1,h2⟩
 ·exact .of_left (intBits_le_64 h1 h2)
 ·exact .of_right (intBits_le_64 h1 h2)
theorem xb2:OpR X (binaryOp .Add) (rI0 λi j=>.int (i+j)):=xF1 λ_ _ _ _ _ _ _ q=>add_int q
theorem xa6:OpR X (binaryOp .Sub) (rI0 λi j=>.int (i-j)):=xF1 λ_ _ _ _ _ _ _ q=>sub_int q
theorem xa8:OpR X (binaryOp .Mult) (rI CMul λi j=>.int (i*j)):=opI λ_ _ _ _ _ _ _ I q=>mul_int q I.ok
theorem zO4:OpR X (binaryOp .FloorDiv) (rI xH2 λi j=>.int (i/j)):=opI λi j _ _ _ _ _ I q=>by
 have h1:(0:Int)<j:=I.1;have h2:j<1073741824:=I.2
 exact floordiv_int x3 (by rw[Int.fdiv_eq_ediv_of_nonneg i x3];exact q) (.inl (PyProof.noPylong_small x3))
theorem xa9:OpR X (binaryOp .Mod) (rI (λ_ j=>0<j) λi j=>.int (i%j)):=opI λi j _ _ _ _ _ I q=>by
 have h1:(0:Int)<j:=I
 exact mod_int' x3 (by rw[Int.fmod_eq_emod_of_nonneg i x3];exact q)
theorem xa7:OpR X (binaryOp .Pow) (rI xH1 λi j=>.int (i^j.toNat)):=opI λ_ _ _ _ _ _ _ I q=>pow_int_small I.1 I.2.1 I.2.2 q
theorem unI{f:Value->Sem Value}{g:Int->Int}
  (rule:∀(i:Int) (t:Tok) (s:Shared) (Q:QqV) (E:QqV),Q (.int (g i) s.toks) { s with toks:=s.toks+1 }->wpAny (model X.prog X.w) X.A (f (.int i t)) Q E s) :
  UnR X f (rU λi=>.int (g i)):=by
 intro J s σ H x v Q I W h;obtain⟨i,rfl,q⟩:=h;obtain⟨t,rfl⟩:=W;exact rule i t s _ _ ⟨.int (g i),H,I.tok _,⟨_,rfl⟩,q⟩
theorem zU5:UnR X (unaryOp .USub) (rU λi=>.int (-i)):=unI λ_ _ _ _ _ q=>neg_int q
end
noncomputable def xh4:V->V->Bool
 |.non,.non=>true |.non,.int _=>true |.int _,.non=>true |.non,.bl _=>true |.bl _,.non=>true |.non,.str _=>true |.str _,.non=>true
 |.int _,.int _=>true |.bl _,.bl _=>true |.str _,.str _=>true |.byt _,.byt _=>true
 |.int _,.str _=>true |.str _,.int _=>true |.bl _,.str _=>true |.str _,.bl _=>true
 |_,_=>false
noncomputable def rEq:R2:=λx y H Q=>xh4 x y=true/\Q (.bl (decide (x=y))) H
noncomputable def rNe:R2:=λx y H Q=>xh4 x y=true/\Q (.bl (!decide (x=y))) H
theorem zs4{i j:Int}:decide (V.int i=V.int j)=(i == j):=by
 rw[wR];simp
theorem zI7{i j:Bool}:decide (V.bl i=V.bl j)=(i == j):=by
 rw[wR];simp
theorem zs3{i j:Str}:decide (V.str i=V.str j)=(i == j):=by
 rw[wR];simp
theorem zs5{i j:Array UInt8}:decide (V.byt i=V.byt j)=(i.toList == j.toList):=by
 rw[wR];cases i;cases j;simp
section
variable {X:Cx}{a b c:Expr}{ta tb tc:TE}{pos:Pos}
theorem ve{J:QqL}{σ:St}{H:Hp}{s:Shared}{Q:VK}{k k':Bool}(I:Inv X J σ H s)(q:Q (.bl k) H)(e:k=k'):EP X J σ Q (.bool k') s:=by
 subst e;exact⟨.bl k,H,I,rfl,q⟩
theorem jy:OpR X (compareOp .Eq) rEq:=by
 intro aa s σ H x y v u Q I rx J h;obtain⟨Y,q⟩:=h
 cases x with
 |non=>
  cases rx
  cases y with
  |non=>cases J;exact PySem.EqNone.eq_none_none (ve I q (by simp))
  |bl j=>cases J;exact PySem.EqNone.eq_none_bool (ve I q (by simp))
  |int j=>obtain⟨t',rfl⟩:=J;exact PySem.EqNone.eq_none_int (ve I q (by simp))
  |str j=>obtain⟨t',rfl⟩:=J;exact PySem.EqNone.eq_none_str (ve I q (by simp))
  |_=>exact absurd (show false=true from Y) zF
 |bl i=>
  cases rx
  cases y with
  |non=>cases J;exact PySem.EqNone.eq_bool_none (ve I q (by simp))
  |bl j=>cases J;exact eq_bool (ve I q zI7)
  |str j=>obtain⟨t',rfl⟩:=J;exact PySem.EqMixed.eq_bool_str (ve I q (by simp))
  |_=>exact absurd (show false=true from Y) zF
 |int i=>
  obtain⟨t,rfl⟩:=rx
  cases y with
  |non=>cases J;exact PySem.EqNone.eq_int_none (ve I q (by simp))
  |int j=>obtain⟨t',rfl⟩:=J;exact eq_int (ve I q zs4)
  |str j=>obtain⟨t',rfl⟩:=J;exact PySem.EqMixed.eq_int_str (ve I q (by simp))
  |_=>exact absurd (show false=true from Y) zF
 |str i=>
  obtain⟨t,rfl⟩:=rx
  cases y with
  |non=>cases J;exact PySem.EqNone.eq_str_none (ve I q (by simp))
  |bl j=>cases J;exact PySem.EqMixed.eq_str_bool (ve I q (by simp))
  |int j=>obtain⟨t',rfl⟩:=J;exact PySem.EqMixed.eq_str_int (ve I q (by simp))
  |str j=>obtain⟨t',rfl⟩:=J;exact eq_str (ve I q zs3)
  |_=>exact absurd (show false=true from Y) zF
 |byt i=>
  obtain⟨t,rfl⟩:=rx
  cases y with
  |byt j=>obtain⟨t',rfl⟩:=J;exact W.eq_bytes (ve I q zs5)
  |_=>exact absurd (show false=true from Y) zF
 |_=>cases y<;>exact absurd (show false=true from Y) zF
theorem ze2:OpR X (compareOp .NotEq) rNe:=by
 intro aa s σ H x y v u Q I rx J h;obtain⟨Y,q⟩:=h
 cases x with
 |non=>
  cases rx
  cases y with
  |non=>cases J;exact PySem.EqNone.ne_none_none (ve I q (by simp))
  |bl j=>cases J;exact PySem.EqNone.ne_none_bool (ve I q (by simp))
  |int j=>obtain⟨t',rfl⟩:=J;exact PySem.EqNone.ne_none_int (ve I q (by simp))
  |str j=>obtain⟨t',rfl⟩:=J;exact PySem.EqNone.ne_none_str (ve I q (by simp))
  |_=>exact absurd (show false=true from Y) zF
 |bl i=>
  cases rx
  cases y with
  |non=>cases J;exact PySem.EqNone.ne_bool_none (ve I q (by simp))
  |bl j=>cases J;exact ne_bool (ve I q (congrArg not zI7))
  |str j=>obtain⟨t',rfl⟩:=J;exact PySem.EqMixed.ne_bool_str (ve I q (by simp))
  |_=>exact absurd (show false=true from Y) zF
 |int i=>
  obtain⟨t,rfl⟩:=rx
  cases y with
  |non=>cases J;exact PySem.EqNone.ne_int_none (ve I q (by simp))
  |int j=>obtain⟨t',rfl⟩:=J;exact ne_int (ve I q (congrArg not zs4))
  |str j=>obtain⟨t',rfl⟩:=J;exact PySem.EqMixed.ne_int_str (ve I q (by simp))
  |_=>exact absurd (show false=true from Y) zF
 |str i=>
  obtain⟨t,rfl⟩:=rx
  cases y with
  |non=>cases J;exact PySem.EqNone.ne_str_none (ve I q (by simp))
  |bl j=>cases J;exact PySem.EqMixed.ne_str_bool (ve I q (by simp))
  |int j=>obtain⟨t',rfl⟩:=J;exact PySem.EqMixed.ne_str_int (ve I q (by simp))
  |str j=>obtain⟨t',rfl⟩:=J;exact ne_str (ve I q (congrArg not zs3))
  |_=>exact absurd (show false=true from Y) zF
 |byt i=>
  obtain⟨t,rfl⟩:=rx
  cases y with
  |byt j=>obtain⟨t',rfl⟩:=J;exact W.ne_bytes (ve I q (congrArg not zs5))
  |_=>exact absurd (show false=true from Y) zF
 |_=>cases y<;>exact absurd (show false=true from Y) zF
theorem zm6:OpR X (compareOp .Lt) (rI0 λi j=>.bl (decide (i<j))):=xl5 λ_ _ _ _ _ _ _ q=>lt_int q
theorem xw3:OpR X (compareOp .LtE) (rI0 λi j=>.bl (decide (i<=j))):=xl5 λ_ _ _ _ _ _ _ q=>le_int q
theorem WP:OpR X (compareOp .Gt) (rI0 λi j=>.bl (decide (j<i))):=xl5 λ_ _ _ _ _ _ _ q=>gt_int q
theorem xb0:OpR X (compareOp .GtE) (rI0 λi j=>.bl (decide (j<=i))):=xl5 λ_ _ _ _ _ _ _ q=>ge_int q
theorem kz:OpR X (compareOp .Is) (λx y H Q=>y=.non/\Q (.bl (decide (x=.non))) H):=by
 intro W s σ H x y v u Q I J Y h;obtain⟨rfl,q⟩:=h;cases Y;refine is_none_gen (ve I q ?_)
 cases x<;>first
  |(cases J;rfl)
  |(obtain⟨t,rfl⟩:=J;rfl)
theorem qC:OpR X (compareOp .IsNot) (λx y H Q=>y=.non/\Q (.bl (!decide (x=.non))) H):=by
 intro W s σ H x y v u Q I J Y h;obtain⟨rfl,q⟩:=h;cases Y;refine isnot_none_gen (ve I q ?_)
 cases x<;>first
  |(cases J;rfl)
  |(obtain⟨t,rfl⟩:=J;rfl)
theorem xJ(b:Expr){op:CmpOp}(h:op≠.In:=by decide)(h2:op≠.NotIn:=by decide):behindInMarks op b=false:=by
 have J:(op == CmpOp.In)=false:=by cases op<;>first |rfl |exact absurd rfl h
 have I:(op == CmpOp.NotIn)=false:=by cases op<;>first |rfl |exact absurd rfl h2
 cases b<;>simp[behindInMarks,J,I]
theorem zO0{op:CmpOp}{r:R2}(ho:OpR X (compareOp op) r)(ha:PE X a ta)(hb:PE X b tb)(hm:behindInMarks op b=false):PE X (.Compare a [op] [b] pos) (tOp r ta tb):=by
 intro J s σ H Q I h;exact wpAny_Compare1 (xz1 ha hb I h λv u W x y H2 I2 rx Y q=>ho J W σ H2 x y v u Q I2 rx Y q) hm
noncomputable def zV3(t:TE):TT:=λσ H Q=>t σ H λx H'=>∃k,x=.bl k/\Q k H'
theorem zk9{op:CmpOp}{r:R2}(ho:OpR X (compareOp op) r)(ha:PE X a ta)(hb:PE X b tb)(hm:behindInMarks op b=false):PT X (.Compare a [op] [b] pos) (zV3 (tOp r ta tb)):=by
 intro J s σ H Q I h
 refine wpAny_isTrue_Compare1 (thn (ha J s σ H _ I h) λv Y ⟨x,H1,I1,r1,q1⟩=>thn (hb J Y σ H1 _ I1 q1) λu W ⟨y,H2,I2,r2,q2⟩=>
  thn (ho J W σ H2 x y v u _ I2 r1 r2 q2) λc s3 ⟨z,H3,I3,r3,k,e,q3⟩=>?_) hm
 subst e;cases r3;exact xZ ⟨H3,I3,q3⟩
noncomputable def zV6(r r':R2)(ta tb tc:TE):TE:=λσ H Q=>ta σ H λx Y=>tb σ Y λy W=>r x y W λz I=>∃k,z=.bl k /\
 (if k=true then tc σ I λw' J=>r' y w' J Q else Q (.bl false) I)
theorem zA1{op op':CmpOp}{r r':R2}(ho:OpR X (compareOp op) r)(ho':OpR X (compareOp op') r')(ha:PE X a ta)(hb:PE X b tb)(hc:PE X c tc)
  (hm:lastMarks [op,op'] [b,c]=false:=by with_unfolding_all rfl):PE X (.Compare a [op,op'] [b,c] pos) (zV6 r r' ta tb tc):=by
 intro J s σ H Q I h
 refine Compare_chain (thn (ha J s σ H _ I h) λv s1 ⟨x,H1,I1,r1,q1⟩=>chain_link (thn (hb J s1 σ H1 _ I1 q1) λu s2 ⟨y,H2,I2,W,q2⟩=>
  thn (ho J s2 σ H2 x y v u _ I2 r1 W q2) λd s3 ⟨z,H3,I3,r3,k,e,Y⟩=>?_)) hm
 subst e;cases r3;refine xZ ?_
 cases k with
 |false=>exact ite_ff ⟨.bl false,H3,I3,rfl,Y⟩
 |true=>exact ite_tt (chain_last (thn (hc J s3 σ H3 _ I3 Y) λw' s4 ⟨z',H4,I4,r4,q4⟩=>ho' J s4 σ H4 y z' u w' Q I4 W r4 q4))
noncomputable def xm1(K:W.Frag)(x:V)(H:Hp)(k:Bool):Prop:=
 match x with
 |.non=>k=false
 |.bl b=>k=b
 |.int i=>k=(i != 0)
 |.str y=>y.length<=sizeLine/\k=((y.length:Int) != 0)
 |.byt y=>y.size<=sizeLine/\k=((y.size:Int) != 0)
 |.ref p=>(∃xs,SqL K H p xs/\k=!xs.isEmpty)\/(∃xs,SqT K H p xs/\k=!xs.isEmpty)\/∃I,H p=some (.dK I)/\k=!I.isEmpty
 |_=>False
theorem zf4{κ:Type}{I:List (κ × V)}{vs:List (κ × Value)}(r:KV I vs):(!vs.isEmpty)=!I.isEmpty:=by
 cases r<;>rfl
theorem VA{xs:List V}{its:QqW}(r:Vals xs its):(!its.toArray.isEmpty)=!xs.isEmpty:=by
 cases r<;>simp
theorem Vv:(sizeLine:Nat)<2^63:=by rw[sizeLine_eq];decide
theorem Ke{x:V}{us:QqW}(r:Vals [x] us):∃u,us=[u]/\RelV x u:=by
 cases r with
 |cons J I=>cases I;exact⟨_,rfl,J⟩
theorem zU3{x y:V}{us:QqW}(r:Vals [x,y] us):∃u w',us=[u,w']/\RelV x u/\RelV y w':=by
 cases r with
 |cons Y W=>
  cases W with
  |cons J I=>cases I;exact⟨_,_,rfl,Y,J⟩
theorem zb9:jr X (.builtin "abs") (λxs H Q=>∃i,xs=[.int i]/\Q (.int (if i<0 then -i else i)) H):=by
 intro J s σ H xs us Q I r h;obtain⟨i,rfl,q⟩:=h;obtain⟨u,rfl,t,rfl⟩:=Ke r
 exact call_abs_int λu W=>⟨.int (if i<0 then -i else i),H,I.tok _,⟨_,rfl⟩,q⟩
theorem Jr(W:X.calm=true):jr X (.builtin "max") (λxs H Q=>∃i j,xs=[.int i,.int j]/\Q (.int (if j > i then j else i)) H):=by
 intro J s σ H xs us Q I r h;obtain⟨i,j,rfl,q⟩:=h;obtain⟨u,w',rfl,⟨t,rfl⟩,⟨t',rfl⟩⟩:=zU3 r;refine max_two_ints (I.ok.hd W) λh' Y k=>⟨_,H,I.kept k,?_,q⟩
 by_cases hj:j > i
 ·rw[if_pos hj,if_pos hj];exact⟨_,rfl⟩
 ·rw[if_neg hj,if_neg hj];exact⟨_,rfl⟩
theorem Jq(W:X.calm=true):jr X (.builtin "min") (λxs H Q=>∃i j,xs=[.int i,.int j]/\Q (.int (if j<i then j else i)) H):=by
 intro J s σ H xs us Q I r h;obtain⟨i,j,rfl,q⟩:=h;obtain⟨u,w',rfl,⟨t,rfl⟩,⟨t',rfl⟩⟩:=zU3 r;refine min_two_ints (I.ok.hd W) λh' Y k=>⟨_,H,I.kept k,?_,q⟩
 by_cases hj:j<i
 ·rw[if_pos hj,if_pos hj];exact⟨_,rfl⟩
 ·rw[if_neg hj,if_neg hj];exact⟨_,rfl⟩
theorem WC:jr X (.type "int") (λxs H Q=>(∃i,xs=[.int i]/\Q (.int i) H)\/∃k,xs=[.bl k]/\Q (.int (if k then 1 else 0)) H):=by
 intro J s σ H xs us Q I r h
 rcases h with ⟨i,rfl,q⟩ |⟨k,rfl,q⟩
 ·obtain⟨u,rfl,t,rfl⟩:=Ke r;exact call_int_int ⟨.int i,H,I,⟨_,rfl⟩,q⟩
 ·obtain ⟨u, rfl, W⟩ := Ke r;cases W
  exact call_int_bool ⟨.int (if k then 1 else 0),H,I.tok _,⟨_,rfl⟩,q⟩
end
section
variable {prog:Program}{w:World}{A:Around}{E:QqV}{s:Shared}{K:W.Frag}{x dx C f:Addr}{mA:QqM}{name:Str}{v:Value}
end
section
variable {P:Program}{w:World}{H H':Hp}{h h':Heap}{a C dx:Addr}{fs fs':List (Str × V)}
end
section
variable {X:Cx}{pins:QqL}{σ:St}{H:Hp}{s:Shared}{a C dx:Addr}{fs:List (Str × V)}{f:Str}{v:V}{A:Around}{E:QqV}
end
section
variable {X:Cx}{o e value:Expr}{f:Str}{pos pos' tpos:Pos}{ta tv:TE}
end
section
variable {X:Cx}{pins:QqL}{σ:St}{H:Hp}{s:Shared}{A:Around}{E:QqV}{Q:QqV}{c:Value}{b:Bool}
end
structure Room(k:Nat)(A:Around):Prop where
 hd:A.handled=none
 dp:A.depth+3*k+5<recursionLimit
 un:A.units+16*k+200<cLine
 gd:A.guards=some []
theorem Room.mono{j k:Nat}{A:Around}(r:Room k A)(h:j<=k):Room j A:=⟨r.hd,by have:=r.dp;lia,by have:=r.un;lia,r.gd⟩
theorem Room.deeper{k:Nat}{A:Around}(r:Room (k+1) A)(env:Env):Room k (A.deeper env):=
 ⟨r.hd,by have:=r.dp;show A.depth+1+3*k+5<_;lia,by have:=r.un;show A.units+3+16*k+200<_;lia,r.gd⟩
theorem Room.in1{k:Nat}{A:Around}(r:Room (k+1) A):Room k A.in1:=
 ⟨r.hd,by have:=r.dp;show A.depth+3*k+5<_;lia,by have:=r.un;show A.units+1+16*k+200<_;lia,r.gd⟩
theorem Room.depth{k:Nat}{A:Around}(r:Room k A):A.depth<recursionLimit:=by have:=r.dp;lia
theorem Room.units{k:Nat}{A:Around}(r:Room k A):A.units+64<cLine:=by have:=r.un;lia
noncomputable def xI0:TA:=λ_ H Q=>Q [] H
noncomputable def xm9(I:TE)(tr:TA):TA:=λσ H Q=>I σ H λx W=>tr σ W λxs J=>Q (x::xs) J
section
variable {X:Cx}{e:Expr}{es:List Expr}{te:TE}{t:TA}{pos:Pos}
theorem Xc:PA X [] xI0:=λ_ _ _ _ H Q I h=>Calls.spliced_nil ⟨[],H,I,.nil,h⟩
theorem jV(ha:PE X e te)(hr:PA X es t)(hs:starEach (e::es) X.env=(false,eval e X.env)::starEach es X.env:=by rfl):PA X (e::es) (xm9 te t):=by
 intro pos J s σ H Q I h;rw[hs];show wpAny _ _ (spliced ((false,eval e X.env)::backTo pos (starEach es X.env))) _ _ s;refine Calls.spliced_cons (thn (ha J s σ H _ I h) λu W ⟨x,H1,I1,r1,q1⟩=>?_);exact thn (hr pos J W σ H1 _ I1 q1) λus s2 ⟨xs,H2,I2,Y,q2⟩=>⟨x::xs,H2,I2,.cons r1 Y,q2⟩
noncomputable def xH4(t:TA):TE:=λσ H Q=>t σ H λxs I=>xs.length<=sizeLine/\∀p,I p=none->Q (.ref p) (upd I p (.tup xs))
noncomputable def xI1(t:TA):TE:=λσ H Q=>t σ H λxs I=>xs.length<=sizeLine/\∀p,I p=none->Q (.ref p) (upd I p (.lst xs))
theorem zZ8{x1}(h:PA X es t):PE X (.Tuple es x1 pos) (xH4 t):=by
 intro J s σ H Q I hq
 refine wpAny_Tuple_spliced (thn (h pos J s σ H _ I hq) λus W ⟨xs,H1,Y,r,z,q⟩=>⟨by rw[<- r.length];exact z,?_⟩)
 have hf:H1 W.heap.objs.size=none:=Y.hok.fresh (zi _);refine⟨.ref W.heap.objs.size,upd H1 W.heap.objs.size (.tup xs),Y.laid (t':=W.toks) (λb u e=>zg _ e) (zi _) ?_,rfl,q _ hf⟩;exact⟨z,us,r,⟨_,zD _ rfl,rfl,_,rfl⟩⟩
theorem QZ(h:PA X es t):PE X (.List es pos) (xI1 t):=by
 intro J s σ H Q I hq
 refine wpAny_List_spliced (thn (h pos J s σ H _ I hq) λus W ⟨xs,H1,Y,r,z,q⟩=>⟨by rw[<- r.length];exact z,?_⟩)
 have hf:H1 W.heap.objs.size=none:=Y.hok.fresh (zi _);refine⟨.ref W.heap.objs.size,upd H1 W.heap.objs.size (.lst xs),Y.laid (t':=W.toks) (λb u e=>zg _ e) (zi _) ?_,rfl,q _ hf⟩;exact⟨z,us,0,r,zD _ rfl⟩
end
noncomputable abbrev Sp:=List V->Hp->VK->XK->Prop
noncomputable abbrev CXT:=List Env->Hp->Shared->XK->Value->Shared->Prop
structure Env0(P:Program)(w:World)(K:W.Frag)(mg:QqM)(base:Heap)(A:Around)(outer:List Env)(s:Shared)(H:Hp):Prop where
 frames:A.frames=some outer
 mod:Mod K mg base
 bs:∀b o,base.get? b=some o->s.heap.get? b=some o/\H b=none
 bsz:base.objs.size<=s.heap.objs.size
 funs:s.heap.FunFrames base outer
 frf:∀b∈frs outer,H b=none
 hok:HOk P w H s.heap
 bare:AllBare s.gens
noncomputable def CE(outer:List Env)(P:Program)(w:World)(H:Hp)(s:Shared)(Q:VK)(u:Value)(s':Shared):Prop:=
 ∃v H',s'.os=s.os/\AllBare s'.gens/\Un (frs outer) [] H H' s.heap s'.heap/\HOk P w H' s'.heap/\RelV v u/\Q v H'
noncomputable def CR(CX:CXT)(outer:List Env)(P:Program)(w:World)(H:Hp)(s:Shared)(Q:VK)(E:XK)(r:Result)(s':Shared):Prop:=
 match r with
 |.ok (.ret u)=>CE outer P w H s Q u s'
 |.ok _=>False
 |.error e=>CX outer H s E e s'
structure FnOk(P:Program)(w:World)(K:W.Frag)(mg:QqM)(base:Heap)(CX:CXT)(k:Nat)(f:Addr)(fd:FuncData)(ps:List Str)(sp:Sp):Prop where
 len:∀vs H Q E,sp vs H Q E->vs.length=ps.length
 run:∀(A:Around) (outer:List Env) (s:Shared) (H:Hp) (args:Args) (us:QqW) (vs:List V) (Q:VK) (E:XK),Room k A->Env0 P w K mg base A outer s H->BindsTo s fd args (ps.zip us)->Vals vs us->sp vs H Q E ->
  codeAny (model P w) A (.call (.ref f) args) (CR CX outer P w H s Q E) s
section
variable {X:Cx}{pins:QqL}{σ:St}{H:Hp}{s s':Shared}
theorem Inv.env0(I:Inv X pins σ H s):Env0 X.prog X.w X.K X.mg X.base X.A X.stack s H:=
 ⟨I.ok.frames,I.ok.mod,I.bs,zy I.ok.bsz I.sz,I.stack,I.stkFree,I.hok,I.bare⟩
theorem Inv.after{Q:VK}{u:Value}(I:Inv X pins σ H s)(h:CE X.stack X.prog X.w H s Q u s'):EP X pins σ Q u s':=by
 obtain⟨v,H',os,bare,un,hok,r,q⟩:=h;obtain⟨hh,g,d,t,os'⟩:=s';obtain rfl:os'=s.os:=os
 exact⟨v,H',I.call (h':=hh) (g':=g) (d':=d) (t':=t) (ch:=[]) un hok bare (λb z=>absurd z (by simp)),r,q⟩
end
noncomputable def xn0(sp:Sp)(I:List V)(E:XK)(t:TA):TE:=λσ H Q=>t σ H λvs J=>sp (vs++I) J Q E
noncomputable def Binds(K:W.Frag)(fd:FuncData)(ps:List Str)(ds:QqW):Prop:=
 ∀(s:Shared) (us:QqW),K.In s.heap->(us++ds).length=ps.length->BindsTo s fd ⟨us,[]⟩ (ps.zip (us++ds))
theorem Binds.all{K:W.Frag}{fd:FuncData}{ps:List Str}(h:∀us:List Value,us.length=ps.length->bindArgs fd ⟨us,[]⟩=pure (ps.zip us)):Binds K fd ps []:=λs us _ I=>by
 rw[yV] at I ⊢;exact .of_eq (h us I)
noncomputable def zw0(CX:CXT)(X:Cx)(E:XK):Prop:=∀(I:QqL) (σ:St) (H:Hp) (s:Shared) (e:Value) (s':Shared),Inv X I σ H s->CX X.stack H s E e s'->X.xe e s'
section
variable {X:Cx}{CX:CXT}{k:Nat}{f C:Addr}{fd:FuncData}{ps:List Str}{sp:Sp}{dvs:List V}{ds:QqW}{E:XK}{x m:Str}{p pos apos:Pos}{e o:Expr}{es:List Expr}{ta:TE}{t:TA}
theorem zW7{J:QqL}{σ:St}{H:Hp}{s:Shared}{Q:VK}{us:QqW}{vs:List V}(F:FnOk X.prog X.w X.K X.mg X.base CX k f fd ps sp)(hr:Room k X.A)(hb:Binds X.K fd ps ds)(hd:Vals dvs ds)(hx:zw0 CX X E)
  (I:Inv X J σ H s) (r:Vals vs us) (h:sp (vs++dvs) H Q E):wpAny (model X.prog X.w) X.A (call (.ref f) us) (EP X J σ Q) X.xe s:=by
 have Y:Vals (vs++dvs) (us++ds):=r.append hd
 have hl:(us++ds).length=ps.length:=by rw[<- Y.length];exact F.len _ _ _ _ h
 refine wpAny_call (codeAny_mono (F.run X.A X.stack s H ⟨us,[]⟩ (us++ds) (vs++dvs) Q E hr I.env0 (hb s us I.kIn hl) Y h) λr s' W=>?_)
 cases r with
 |error e=>exact hx J σ H s e s' I W
 |ok fl=>
  cases fl with
  |ret u=>exact I.after W
  |next=>exact False.elim W
  |brk=>exact False.elim W
  |cont=>exact False.elim W
theorem zl9(F:FnOk X.prog X.w X.K X.mg X.base CX k f fd ps sp)(hr:Room k X.A)(hg:Gl X x)(hm:X.mg x=some (.ref f))(hk:W.keepIn X.K (.ref f)=true)(hb:Binds X.K fd ps ds)(hd:Vals dvs ds)(hx:zw0 CX X E)
  (ha:PA X (e::es) t) (aa:(x == ("__debug__" : Str))=false:=by decide) (he:starEach (e::es) X.env=(false,eval e X.env)::starEach es X.env:=by rfl) (Y:(backTo pos (starEach es X.env)).any (·.1)=false:=by rfl) :
  PE X (.Call (.Name x p) (e::es) [] pos) (xn0 sp dvs E t):=by
 intro J s σ H Q I h;refine wpAny_Call_Name_kw (zp9 I hg hm ?_ aa);refine W.callWith_K (h₀:=X.base) I.ok.mod.kin hk (thn (ha pos J s σ H _ I h) λus s1 ⟨vs,H1,I1,r,q⟩=>⟨I1.kIn,?_⟩) he Y;exact zW7 F hr hb hd hx I1 r q
end
section
variable {X:Cx}{CX:CXT}{k:Nat}{f C:Addr}{fd:FuncData}{ps ks:List Str}{sp:Sp}{E:XK}{x m:Str}{p pos apos kpos:Pos}{e o:Expr}{es:List Expr}{kws:List Keyword}{te ta:TE}{t tk:TA}{nm:Option Str}
variable {g:List Value->List Value->List Value}{gV:List V->List V->List V}
end
structure FnScope(N P:List Str)(sc:Scope):Prop where
 kind:sc.kind=.function
 co:sc.isCoroutine=false
 gen:sc.isGenerator=false
 nd:N.Nodup
 pre:N.take P.length=P
 par:∀x∈P,sc.names.lookup x=some .local\/sc.names.lookup x=some .cell
 nofree:∀y∈sc.names,y.2≠.free
theorem Ju{kindOf:Str->Option NameKind}{x:Str}:∀{binds:List (Str × Value)}{m:QqM},(∀v,(x,v) ∉ binds)->bindL kindOf binds m x=m x
 |[],_,_=>rfl
 | (n, v) :: r, m, h => by
  unfold bindL;rw[Ju λw I=>h w (zG _ I)]
  split
  ·have : x ≠ n := by rintro rfl; exact h v xo
   simp[this]
  ·rfl
theorem Jw{kindOf:Str->Option NameKind}{x:Str}:∀{binds:List (Str × Value)}{m:QqM},(∀v,(x,v) ∉ binds)->bindC kindOf binds m x=m x
 |[],_,_=>rfl
 | (n, v) :: r, m, h => by
  unfold bindC;rw[Jw λw I=>h w (zG _ I)]
  split
  ·rfl
  ·have : x ≠ n := by rintro rfl; exact h v xo
   simp[this]
theorem Jv{kindOf:Str->Option NameKind}{x:Str}{v:Value}:∀{P:List Str}{vs:QqW}{i:Nat}{m:QqM},P.Nodup->P[i]?=some x->vs[i]?=some v->kindOf x=some .local ->
  bindL kindOf (P.zip vs) m x=some v
 |[],_,_,_,_,h,_,_=>by simp at h
 |_::_,[],_,_,_,_,h,_=>by simp at h
 |p::P,w::vs,0,m,nd,h1,h2,hk=>by
  simp at h1 h2;subst h1;subst h2;show bindL kindOf ((p,w)::P.zip vs) m p=_;unfold bindL;rw[Ju λv hv=>(List.nodup_cons.mp nd).1 (of_mem_zip hv).1,if_pos hk];simp
 |p::P,w::vs,i+1,m,nd,h1,h2,hk=>by
  show bindL kindOf ((p,w)::P.zip vs) m x=_;unfold bindL
  exact Jv (i:=i) (List.nodup_cons.mp nd).2 (by simpa using h1) (by simpa using h2) hk
theorem Jx{kindOf:Str->Option NameKind}{x:Str}{v:Value}:∀{P:List Str}{vs:QqW}{i:Nat}{m:QqM},P.Nodup->P[i]?=some x->vs[i]?=some v->kindOf x≠some .local ->
  bindC kindOf (P.zip vs) m x=some v
 |[],_,_,_,_,h,_,_=>by simp at h
 |_::_,[],_,_,_,_,h,_=>by simp at h
 |p::P,w::vs,0,m,nd,h1,h2,hk=>by
  simp at h1 h2;subst h1;subst h2;show bindC kindOf ((p,w)::P.zip vs) m p=_;unfold bindC;rw[Jw λv hv=>(List.nodup_cons.mp nd).1 (of_mem_zip hv).1,if_neg hk];simp
 |p::P,w::vs,i+1,m,nd,h1,h2,hk=>by
  show bindC kindOf ((p,w)::P.zip vs) m x=_;unfold bindC
  exact Jx (i:=i) (List.nodup_cons.mp nd).2 (by simpa using h1) (by simpa using h2) hk
noncomputable def Yu(N:List Str)(vs:List V):St:=vs.map some++replicate (N.length-vs.length) none
noncomputable def zE5(CX:CXT)(P:Program)(w:World)(K:W.Frag)(mg:QqM)(base:Heap)(N:List Str)(I:Str)(scope:Scope)(f:Addr)(J:Value)(A:Around)(outer:List Env)(s:Shared)(H:Hp)(E:XK):Cx where
 prog:=P
 w:=w
 K:=K
 mg:=mg
 base:=base
 A:=A.deeper (envOfC I scope s.heap.objs.size f J)
 N:=N
 s₀:=s
 H₀:=H
 env:=envOfC I scope s.heap.objs.size f J
 outer:=outer
 stack:=envOfC I scope s.heap.objs.size f J::outer
 ex:=[]
 calm:=true
 fn:=λ_=>true
 pn:=[]
 xe:=λe s'=>wpAny (model P w) (A.deeper (envOfC I scope s.heap.objs.size f J)) (leaving (envOfC I scope s.heap.objs.size f J) e) (λ_ s''=>CX outer H s E e s'') (λe' s''=>CX outer H s E e' s'') s'
theorem zb8{I:Scope}{n:Nat}{x:Str}(h:I.names.lookup x=some .cell):∃c,(cellsFrom n I.names []).lookup x=some c:=by
 have q:=W.cellsFrom_some I.names n [] (.inl h);exact Option.isSome_iff_exists.mp q
theorem zq7{CX:CXT}{P:Program}{w:World}{K:W.Frag}{mg:QqM}{base:Heap}{N ps:List Str}{I:Str}{scope:Scope}{f:Addr}{cd:Value}{A:Around}{outer:List Env}{s s1:Shared}{H:Hp}{E:XK}{us:QqW}{vs:List V}
  (S:FnScope N ps scope) (hd:A.handled=none) (e0:Env0 P w K mg base A outer s H) (hl:vs.length=ps.length) (r:Vals vs us)
  (x:InCallC s s.heap.objs.size (bindL (envOfC I scope s.heap.objs.size f cd).kindOf (ps.zip us) λ_=>none) (cellsFrom (s.heap.objs.size+1) scope.names []) (bindC (envOfC I scope s.heap.objs.size f cd).kindOf (ps.zip us) λ_=>none) s1) :
  Inv (zE5 CX P w K mg base N I scope f cd A outer s H E) [] (Yu N vs) H s1:=by
 have aa:ps.length<=N.length:=by have:=congrArg List.length S.pre;rw[xh] at this;lia
 obtain⟨h1,tk,rfl,hk⟩:=x.done
 have J:∀b:Addr,b ∉ (zE5 CX P w K mg base N I scope f cd A outer s H E).ex:=λb z=>absurd (show b∈([]:List Addr) from z) (by simp)
 refine⟨⟨e0.mod,S.kind,rfl,rfl,zi _,λy z c h1 h2=>?_,λy hy=>?_,λy c _ h=>?_,λ_=>hd,Around.frames_deeper e0.frames,.inr ⟨rfl,rfl⟩,λb z=>absurd z (J b),e0.bs,e0.bsz,λb _ _=>J b,λb z=>absurd z (J b),e0.funs,e0.frf⟩,
  rfl,e0.bare,Un.kept hk,⟨_,x.toInCall.ns,λi y v h1 h2 h3=>?_⟩,λy c h=>⟨_,x.cell y c h⟩,e0.hok.fresh (zi _),λy c h=>?_,λp hp=>absurd (show p∈([]:QqL) from hp) (by simp),e0.hok.kept hk,?_⟩
 ·exact name_of_addr x.apart (PySem.mem_of_lookup h1) (PySem.mem_of_lookup h2)
 ·have hy : scope.names.lookup y = some .cell \/ scope.names.lookup y = some .free := hy
  rcases hy with hy |hy
  ·exact zb8 hy
  ·exact absurd rfl (S.nofree _ (PySem.mem_of_lookup hy))
 ·exact wb (x.above y c (PySem.mem_of_lookup h))
 ·have hi : i < vs.length := by
   unfold Yu at h2
   by_cases hi:i<vs.length
   ·exact hi
   ·rw [xt (by simpa using hi)] at h2
    rw[xv] at h2
    split at h2<;>cases h2
  have ha:vs[i]?=some v:=by
   unfold Yu at h2
   rw[xE (by simpa using hi),zv] at h2
   cases e:vs[i]? with
   |none=>rw[e] at h2;cases h2
   |some a=>rw[e] at h2;cases h2;rfl
  obtain⟨u,hu,rv⟩:=r.get ha
  have hp:ps[i]?=some y:=by
   rw[<- S.pre,List.getElem?_take_of_lt x3];exact h1
  have Y:ps.Nodup:=by rw[<- S.pre];exact S.nd.sublist (List.take_sublist _ _)
  refine⟨u,rv,?_⟩
  rcases S.par y (xk hp) with k |k
  ·exact .inl ⟨k,Jv Y hp hu k⟩
  ·obtain ⟨c, e⟩ := zb8 (n := s.heap.objs.size + 1) k;refine .inr ⟨.inl k,c,e,?_⟩;have q:=x.cell y c e
   rw[Jx Y hp hu (by show scope.names.lookup y≠_;rw[k];decide)] at q
   exact q
 ·exact e0.hok.fresh (wb (x.above y c (PySem.mem_of_lookup h)))
 ·unfold Yu;show _=N.length;rw[zr,zh,wm];lia
theorem xf7{CX:CXT}{P:Program}{w:World}{K:W.Frag}{mg:QqM}{base:Heap}{k:Nat}{f:Addr}{name Y:Str}{ae:Arguments}{body:List Stmt}{scope:Scope}{dV kV ai pm aa ct oc:Value}{an od:QqE}
  {aj:Array (Option Value)}{N ps:List Str}{sp:Sp} (lk:K.lookup f=some ⟨oc,od,.func (W.fnOf name Y ae body scope dV kV ai pm an aa ct),aj⟩) (am:W.codeIn K aa Y=true) (S:FnScope N ps scope)
  (len:∀vs H Q E,sp vs H Q E->vs.length=ps.length)
  (ag : ∀ (A : Around) (outer : List Env) (s : Shared) (H : Hp) (vs : List V) (Q : VK) (E : XK), Room k (A.deeper (envOfC Y scope s.heap.objs.size f aa)) -> sp vs H Q E ->
   ∃t,PSs (zE5 CX P w K mg base N Y scope f aa A outer s H E) body t/\t { nx:=λ_ H'=>Q .non H',rt:=Q } (Yu N vs) H) :
  FnOk P w K mg base CX (k+1) f (W.fnOf name Y ae body scope dV kV ai pm an aa ct) ps sp:=by
 refine⟨len,λA outer s H args us vs Q E hr e0 hb r ah=>?_⟩;have hl:=len _ _ _ _ ah;have KX:K.In s.heap:=e0.mod.kin.keeps λb o e=>(e0.bs b o e).1;have ak:s.heap.NoLimit:=e0.mod.nolimit.keeps λb o e=>(e0.bs b o e).1
 have af:∀y∈ps.zip us,scope.names.lookup y.1=some .local\/(scope.names.lookup y.1=some .cell/\((cellsFrom (s.heap.objs.size+1) scope.names []).lookup y.1).isSome=true):=fun⟨n,v⟩ hy=>by
  rcases S.par n (of_mem_zip hy).1 with q |q
  ·exact .inl q
  ·exact .inr ⟨q,W.cellsFrom_some _ _ _ (.inl q)⟩
 refine codeAny_call_function hr.depth (KX _ _ lk) rfl S.co S.gen rfl (W.codeRec_of KX am) (hb _ _ _ _ ?_);refine wpAny_newFunctionEnv_cells S.kind af λenv he s1 x=>?_;subst he;refine⟨ak.keeps x.toInCall.keep,codeAny_func ?_⟩;obtain⟨t,ht,hq⟩:=ag A outer s H vs Q E (hr.deeper _) ah;have I:Inv (zE5 CX P w K mg base N Y scope f aa A outer s H E) [] (Yu N vs) H s1:=zq7 S hr.hd e0 hl r x;refine wv (ht [] s1 (Yu N vs) H _ I hq) (λfl s' hs=>?_) λe s' hs=>hs
 have fin:∀{σ':St}{H':Hp}{v:V}{u:Value},Inv (zE5 CX P w K mg base N Y scope f aa A outer s H E) [] σ' H' s'->RelV v u->Q v H'->CE outer P w H s Q u s':=
  λ{σ' H' v u} J rv q=>⟨v,H',J.os,J.bare,J.base,J.hok,rv,q⟩
 cases fl with
 |ret u=>
  obtain⟨v,σ',H',J,rv,q⟩:=hs;exact fin J rv q
 |next=>
  obtain⟨σ',H',J,q⟩:=hs;exact fin (v:=V.non) (u:=Value.none) J rfl q
 |brk=>
  obtain⟨_,_,_,q⟩:=hs;exact False.elim q
 |cont=>
  obtain⟨_,_,_,q⟩:=hs;exact False.elim q
section
variable {X:Cx}{x:Str}{p pos:Pos}{e:Expr}{es:List Expr}{t:TA}{id T:String}{r:List V->Hp->VK->Prop}
noncomputable def tCB(r:List V->Hp->VK->Prop)(t:TA):TE:=λσ H Q=>t σ H λvs I=>r vs I Q
theorem za0(hc:jr X (.builtin id) r)(hg:Gl X x)(hm:X.mg x=none)(hv:bootBuiltins x=some (.builtin id))(ha:PA X (e::es) t)(hn:x ≠ "__name__" := by decide)(Y:(x == ("__debug__" : Str))=false:=by decide)
  (he:starEach (e::es) X.env=(false,eval e X.env)::starEach es X.env:=by rfl) (W:(backTo pos (starEach es X.env)).any (·.1)=false:=by rfl):PE X (.Call (.Name x p) (e::es) [] pos) (tCB r t):=by
 intro J s σ H Q I h;refine wpAny_Call_Name_kw (Vw I hg hm hv ?_ hn Y);exact PyProof.Rows.callWith_builtin1 (thn (ha pos J s σ H _ I h) λus s1 ⟨vs,H1,I1,r1,q1⟩=>hc J s1 σ H1 vs us Q I1 r1 q1) he W
theorem KC(hc:jr X (.type T) r)(hg:Gl X x)(hm:X.mg x=none)(hv:bootBuiltins x=some (.type T))(ha:PA X (e::es) t)(hn:x ≠ "__name__" := by decide)(Y:(x == ("__debug__" : Str))=false:=by decide)
  (he:starEach (e::es) X.env=(false,eval e X.env)::starEach es X.env:=by rfl) (W:(backTo pos (starEach es X.env)).any (·.1)=false:=by rfl):PE X (.Call (.Name x p) (e::es) [] pos) (tCB r t):=by
 intro J s σ H Q I h;refine wpAny_Call_Name_kw (Vw I hg hm hv ?_ hn Y);exact PyProof.Rows.callWith_type1 (thn (ha pos J s σ H _ I h) λus s1 ⟨vs,H1,I1,r1,q1⟩=>hc J s1 σ H1 vs us Q I1 r1 q1) he W
end
end L2
namespace HT
open PySem PyProof.Rows
noncomputable def qO:List Int->List Int->Bool
 |[],[]=>false
 |[],_::_=>true
 |_::_,[]=>false
 |x::xs,y::ys=>if x=y then qO xs ys else decide (x<y)
theorem qN(x y:Int)(xs ys:List Int):qO (x::xs) (y::ys)=if x=y then qO xs ys else decide (x<y):=rfl
theorem UA:qO [] []=false:=rfl
theorem WY(y:Int)(ys:List Int):qO [] (y::ys)=true:=rfl
theorem WZ(x:Int)(xs:List Int):qO (x::xs) []=false:=rfl
theorem zE0(A:Around)(s:Shared)(a:Int)(t:Tok)(c:Int)(u:Tok):∃e,SeqAt.EqAt A s (.int a t) (.int c u) e/\(e=true↔a=c):=
 ⟨(a == c),SeqAt.EqAt.int_int a t c u,by simp⟩
theorem zy9(A:Around)(s:Shared)(a:Int)(t:Tok)(c:Int)(u:Tok)(prog:Program)(w:World)(E:QqV)(Q:QqV)(h:Q (.bool (decide (a<c))) s) :
  wpAny (model prog w) A (richCompare .Lt (.int a t) (.int c u)) Q E s:=
 (PyProof.Rows.lt_int h:wpAny (model prog w) A (compareOp .Lt (.int a t) (.int c u)) Q E s)
section
open PySem.SeqAt
open PySem.AutoSeq1 (wpAny_loadPart')
open PySem.MeetsSeq PySem.MeetsSeq2 PySem.MeetsSeq3
theorem VJ(l b:Addr)(items I:Array Value)(n n2:Nat)(dd aj:QqE)(sl ag:Array (Option Value))(ns ms:List Int)(hi:IntsAre items.toList ns)(hj:IntsAre I.toList ms) :
  Meets (Builtin.«tuple.__lt__» ⟨[.ref l,.ref b],[]⟩)
   (λ_ R s => s.heap.get? l = some { cls := .type "tuple", dict := dd, data := .seq items n, slots := sl } /\ s.heap.get? b = some { cls := .type "tuple", dict := aj, data := .seq I n2, slots := ag } /\
    R (.ok (.ret (.bool (qO ns ms)))) s):=
 .of_wp λprog w A R s h=>by
  obtain⟨hp,g,d,tk,os⟩:=s;obtain⟨hl,hb,h⟩:=h;have f2:=AutoSeq1.sub_tuple_tuple
  have z1:items.size=ns.length:=by rw[<- hi.length];simp
  have z2:I.size=ms.length:=by rw[<- hj.length];simp
  wp_walk using wpAny_loadPart' hl,wpAny_loadPart' hb,wpAny_forIn_list _ (λrest b s'=>b.1=none/\s'=⟨hp,g,d,tk,os⟩/\∃(vs ws:QqW) (ns' ms':List Int),rest=vs.zip ws /\
   IntsAre vs ns'/\IntsAre ws ms'/\ns'.length+I.size=ms'.length+items.size/\R (.ok (.ret (.bool (qO ns' ms')))) ⟨hp,g,d,tk,os⟩) _
  case turn=>
   rintro⟨y,x⟩ rest b s' ⟨hb',rfl,vs,ws,ns',ms',W,ae,Y,J,hR⟩
   cases ae with
   |nil=>rw[List.zip_nil_left] at W;cases W
   | cons a t hvi' =>
    cases Y with
    |nil=>rw[List.zip_nil_right] at W;cases W
    | cons c u hwi' =>
     rw[yl] at W;injection W with ah af;injection ah with hy hx;subst hy hx;rw[qN] at hR;simp only[zL] at J;obtain⟨e,he,aa⟩:=zE0 A.in1 ⟨hp,g,d,tk,os⟩ a t c u;refine zc (he prog w _ _ ?_)
     cases e with
     |true=>
      rw[if_pos (aa.mp rfl)] at hR
      wp_walk
      exact⟨rfl,rfl,_,_,_,_,af,hvi',hwi',x3,hR⟩
     |false=>
      rw[if_neg (λq=>absurd (aa.mpr q) zF)] at hR;have ai:=zy9 A.in1 ⟨hp,g,d,tk,os⟩ a t c u prog w
      wp_walk using ai
      exact⟨_,rfl,by simpa using hR⟩
  case fin=>
   rintro⟨b1,b2⟩ s' ⟨hb',rfl,vs,ws,ns',ms',W,ae,Y,J,hR⟩;simp only at hb';subst hb'
   have hv:qO ns' ms'=decide (items.size<I.size):=by
    cases ae with
    | nil =>
     cases Y with
     |nil=>
      simp only[length_nil] at J;rw[UA]
      exact(zS x3).symm
     |cons c u hw=>
      simp only[length_nil,zL] at J;rw[WY]
      exact(xC x3).symm
    | cons a t hv =>
     cases Y with
     |nil=>
      simp only[length_nil,zL] at J;rw[WZ]
      exact(zS x3).symm
     |cons c u hw=>
      rw[yl] at W;cases W
   rw[hv] at hR
   wp_walk
   exact⟨_,rfl,by simpa [Builtin.Tuple.tupleCompareSizes] using hR⟩
  case h=>
   exact⟨rfl,rfl,items.toList,I.toList,ns,ms,rfl,hi,hj,x3,h⟩
end
section
variable {prog:Program}{w:World}{A:Around}{E:QqV}{s:Shared}
theorem zf0{l b:Addr}{items I:Array Value}{ns J:List Int}{Q:QqV}(hl:IsTup s.heap l items)(hb:IsTup s.heap b I)(hi:IntsAre items.toList ns)(hj:IntsAre I.toList J)
  (hu:A.units<cLine) (h:Q (.bool (qO ns J)) s):wpAny (model prog w) A (compareOp .Lt (.ref l) (.ref b)) Q E s:=by
 obtain⟨⟨cls,dd,data,sl⟩,ho,hc,n,hd⟩:=id hl;obtain⟨⟨ag,ae,af,aa⟩,W,hc2,n2,Y⟩:=id hb;simp only at hc hd hc2 Y;subst hc hd hc2 Y
 exact richCompare_meets_room (op:=.Lt) ⟨_,ho,rfl⟩ ⟨_,W,rfl⟩ PySem.F.slot_tuple_lt PySem.F.entry_tuple_lt (PySem.F.args_tuple_lt_2 _ _) (VJ l b items I n n2 dd ae sl aa ns J hi hj)
  ⟨ho,W,show Value.bool (qO ns J)≠Value.notImplemented/\Q (.bool (qO ns J)) s from⟨(λx=>nomatch x),h⟩⟩ hu
theorem zS6{t b:Addr}{vs ws:QqW}{Q:QqV}(ht:IsTup s.heap t vs.toArray)(hb:IsTup s.heap b ws.toArray)(hv:vs≠[])
  (h1:ws=[]->Q (.ref t) s) (h2:ws≠[]->Q (.ref s.heap.objs.size) { s with heap:=s.heap.push { cls:=.type "tuple",data:=.seq (vs++ws).toArray } })
  (aa:vs.length+ws.length<=sizeLine):wpAny (model prog w) A (binaryOp .Add (.ref t) (.ref b)) Q E s:=by
 obtain⟨⟨cls,dd,data,sl⟩,ho,hc,n,hd⟩:=id ht;obtain⟨⟨af,Y,ae,J⟩,I,hc2,n2,W⟩:=id hb;simp only at hc hd hc2 W;subst hc hd hc2 W
 have e:vs.toArray++ws.toArray=(vs++ws).toArray:=by simp
 by_cases hw:ws=[]
 ·exact concat_meets ⟨_,ho,rfl⟩ ⟨_,I,rfl⟩ noFill_tuple_add seq_tuple_add PySem.F.slot_tuple_add PySem.F.entry_tuple_add (PySem.F.args_tuple_add_2 _ _)
   (tuple_addW1 t b vs.toArray ws.toArray n n2 dd Y sl J (by simpa using hv) (by simp[hw])) ⟨ho,I,h1 hw⟩
 ·refine concat_meets ⟨_, ho, rfl⟩ ⟨_, I, rfl⟩ noFill_tuple_add seq_tuple_add PySem.F.slot_tuple_add PySem.F.entry_tuple_add (PySem.F.args_tuple_add_2 _ _)
   (tuple_addW2 t b vs.toArray ws.toArray n n2 dd Y sl J (by simpa using hv) (by simpa using hw) (by rw[zn,zn];exact aa)) ⟨ho,I,?_⟩
  rw[e];exact h2 hw
noncomputable def sIx(n d:Nat):Option Int->Nat
 |none=>d
 |some v=>if v<0 then(v+(n:Int)).toNat else min v.toNat n
theorem Ul(n d:Nat):sIx n d none=d:=rfl
theorem Qa(n d k:Nat):sIx n d (some (k:Int))=min k n:=by
 show(if (k:Int)<0 then((k:Int)+(n:Int)).toNat else min (k:Int).toNat n)=min k n
 rw[if_neg x3,Int.toNat_natCast]
theorem zW6(n d:Nat)(hd:d<=n)(o:Option Int):sIx n d o<=n:=by
 cases o with
 |none=>exact hd
 |some v=>
  show(if v<0 then(v+(n:Int)).toNat else min v.toNat n)<=n
  by_cases hv:v<0
  ·rw[if_pos hv];lia
  ·rw[if_neg hv];exact Nat.min_le_right _ _
theorem zu5(v:Int)(n d:Nat):(if v<0 then max (v+(n:Int)) 0 else min v (n:Int))=((sIx n d (some v):Nat):Int):=by
 show(if v<0 then max (v+(n:Int)) 0 else min v (n:Int))=(((if v<0 then(v+(n:Int)).toNat else min v.toNat n):Nat):Int)
 by_cases hv:v<0
 ·simp only[if_pos hv];lia
 ·simp only[if_neg hv];lia
theorem zg4(lo hi:Option Int)(n:Nat):Builtin.Slice.sliceAdjust lo hi 1 (n:Int)=(((sIx n 0 lo:Nat):Int),((sIx n n hi:Nat):Int)):=by
 have h1:¬ ((1:Int)<0):=x3
 unfold Builtin.Slice.sliceAdjust;simp only[h1,if_false];refine Prod.ext ?_ ?_
 ·cases lo with
  |none=>rfl
  |some v=>exact zu5 v n 0
 ·cases hi with
  |none=>rfl
  |some v=>exact zu5 v n n
theorem zd7(i j:Nat):Builtin.Slice.slicePlaces (i:Int) (j:Int) 1=j-i:=by
 unfold Builtin.Slice.slicePlaces
 have h1:(1:Int) > 0:=x3
 simp only[h1,if_true,Int.ediv_one]
 split<;>lia
theorem Vi{v:Value}{o:Option Int}{Q:Option Int->Shared->Prop}(p:IsPart v o)(h:Q o s):wpAny (model prog w) A (Builtin.Slice.slicePartIndex v) Q E s:=by
 cases p with
 |none=>exact slicePart_none h
 |int i t=>exact slicePart_int h
theorem ju{sl:Addr}{Y W:Value}{lo hi:Option Int}{n:Nat}{Q:Int × Int × Nat->Shared->Prop}(hs:s.heap.IsSliceOf sl Y W .none)(pl:IsPart Y lo)(pu:IsPart W hi)
  (h:Q (((sIx n 0 lo:Nat):Int),1,sIx n n hi-sIx n 0 lo) s):wpAny (model prog w) A (Builtin.Slice.sliceApplied (.ref sl) (pure (n:Int))) Q E s:=by
 obtain⟨os,I,aa,J⟩:=id hs;unfold Builtin.Slice.sliceApplied Builtin.Slice.sliceFields;refine zc (zc (wx I J (x:=Y) rfl (zc (wx I J (x:=W) rfl (zc (wx I J (x:=.none) rfl (zj ?_)))))));refine zc (slicePart_none ?_)
 show wpAny _ _ (if ((1:Int) == 0)=true then _ else _) _ _ s
 rw[if_neg x4]
 refine zc (Vi pl (zc (Vi pu (zc (zj ?_)))))
 show wpAny _ _ (match Builtin.Slice.sliceAdjust lo hi 1 (n:Int) with |(lo,hi)=>pure (lo,(1:Int),Builtin.Slice.slicePlaces lo hi 1)) _ _ s
 rw[zg4 lo hi n];show wpAny _ _ (pure (((sIx n 0 lo:Nat):Int),(1:Int),Builtin.Slice.slicePlaces ((sIx n 0 lo:Nat):Int) ((sIx n n hi:Nat):Int) 1)) _ _ s;rw[zd7];exact zj h
theorem zz7(xs:Array Value)(i k:Nat):((List.range k).filterMap fun(m:Nat)=>xs[((i:Int)+(m:Int)*1).toNat]?).toArray=((xs.toList.drop i).take k).toArray:=by
 have e:(fun(m:Nat)=>xs[((i:Int)+(m:Int)*1).toNat]?)=λm=>xs[i+m]?:=by
  funext m
  have:((i:Int)+(m:Int)*1).toNat=i+m:=x3
  rw[this]
 rw[e];have:=pick_run xs i k;rw[yn] at this;have I:((λx=>xs[x]?)∘λx=>i+x)=λm=>xs[i+m]?:=rfl;rw[I] at this;rw[this]
theorem YQ{t W:Addr}{items:Array Value}{vl vu:Value}{lo hi:Option Int}{Q:QqV}(J:IsTup s.heap t items)(hs:s.heap.IsSliceOf W vl vu .none)(pl:IsPart vl lo)(pu:IsPart vu hi)
  (hw:¬ (sIx items.size 0 lo=0/\sIx items.size items.size hi=items.size))
  (h:Q (.ref s.heap.objs.size) { s with heap:=s.heap.push { cls:=.type "tuple",data:=.seq ((items.toList.drop (sIx items.size 0 lo)).take (sIx items.size items.size hi-sIx items.size 0 lo)).toArray } })
  (ag:items.size<=sizeLine):wpAny (model prog w) A (getItem (.ref t) (.ref W)) Q E s:=by
 have I:sizeOk (.seq ((items.toList.drop (sIx items.size 0 lo)).take (sIx items.size items.size hi-sIx items.size 0 lo)).toArray):=by
  show((items.toList.drop (sIx items.size 0 lo)).take (sIx items.size items.size hi-sIx items.size 0 lo)).toArray.size<=sizeLine;rw[zn,xh,wj,zk];lia
 have hj:sIx items.size items.size hi<=items.size:=zW6 _ _ (zi _) hi;obtain⟨os,Y,ae,ah⟩:=id hs;have af:s.TypeIs (.ref W) "slice" := ⟨os,Y,ae⟩;unfold getItem
 try with_reducible refine wU ?_
 first |refine zc (zj ?_) |skip
 refine zc (wpAny_sequenceKey J.typeIs x4 ?_)
 refine zc (wH (name:=Str.ofString "__getitem__") J.typeIs PyProof.Rows.slot_tuple_getitem
  (yg PyProof.Rows.slot_tuple_getitem J.typeIs entry_tuple_getitem ?_ (args_tuple_getitem _ _)))
 show wpAny _ _ (Builtin.Tuple.tupleItemsOf (.ref t) >>= _) _ _ s;refine zc (tupleItemsOf_ J ?_);refine zc (wpAny_typeOf af ?_)
 rw[if_pos x4]
 refine zc (ju hs pl pu ?_)
 have aa:¬ ((((sIx items.size 0 lo:Nat):Int) == 0&&(1:Int) == 1&&(sIx items.size items.size hi-sIx items.size 0 lo) == items.size)=true):=by
  intro q;rw[zE,zE] at q;have q1:((sIx items.size 0 lo:Nat):Int)=0:=eq_of_beq q.1.1;have q2:sIx items.size items.size hi-sIx items.size 0 lo=items.size:=eq_of_beq q.2
  exact hw ⟨x3,x3⟩
 show wpAny _ _ (if (((sIx items.size 0 lo:Nat):Int) == 0&&(1:Int) == 1&&(sIx items.size items.size hi-sIx items.size 0 lo) == items.size)=true then _ else _) _ _ s
 rw[if_neg aa,zz7]
 first
  |exact zc (m:=Builtin.Tuple.tupleExact _) (wD (zj ⟨_,rfl,zj h⟩) I)
  |exact zc (m:=Builtin.Tuple.tupleExact _) (wD (zc (zj (zj ⟨_,rfl,zj h⟩))) I)
  |exact zc (zc (m:=Builtin.Tuple.tupleExact _) (wD (zj (zj ⟨_,rfl,zj h⟩)) I))
  |exact zc (zc (m:=Builtin.Tuple.tupleExact _) (wD (zj ⟨_,rfl,zj h⟩) I))
end
end HT
namespace L2
noncomputable abbrev TO:=St->Hp->(Option Int->Hp->Prop)->Prop
noncomputable def PO(X:Cx)(e:Option Expr)(t:TO):Prop:=
 ∀(I:QqL) (s:Shared) (σ:St) (H:Hp) (Q:Option Int->Hp->Prop),Inv X I σ H s->t σ H Q ->
  wpAny (model X.prog X.w) X.A (evalPart e X.env) (λu s'=>∃o H',Inv X I σ H' s'/\IsPart u o/\Q o H') X.xe s
noncomputable def zK6:TO:=λ_ H Q=>Q none H
noncomputable def xm4(t:TE):TO:=λσ H Q=>t σ H λx I=>∃i,x=.int i/\Q (some i) I
theorem Zo{ns:List Int}:∀{us:QqW},Vals (ns.map V.int) us->IntsAre us ns:=by
 induction ns with
 |nil=>intro us r;rw[List.map_nil] at r;cases r;exact .nil
 | cons n ns W =>
  intro us r;rw[al_List_map_cons] at r
  cases r with
  |cons J I=>
   obtain⟨t,e⟩:=J;subst e;exact .cons n t (W I)
section
variable {X:Cx}{e:Expr}{te:TE}{lo hi:Option Expr}{tl th:TO}{pos p2:Pos}
theorem zN1:PO X none zK6:=by
 intro J s σ H Q I h;rw[evalPart_none];exact zj ⟨none,H,I,.none,h⟩
theorem zl5(h:PE X e te):PO X (some e) (xm4 te):=by
 intro J s σ H Q I hw;rw[evalPart_some];refine thn (h J s σ H _ I hw) λu s1 ⟨x,H1,I1,W,Y⟩=>?_;obtain⟨i,rfl,q⟩:=Y;obtain⟨t,rfl⟩:=W;exact⟨some i,H1,I1,.int i t,q⟩
noncomputable def SlR(X:Cx)(r:V->Option Int->Option Int->Hp->VK->Prop):Prop:=
 ∀(I:QqL) (s:Shared) (σ:St) (H:Hp) (x:V) (v W J:Value) (lo hi:Option Int) (Y:Addr) (Q:VK),Inv X I σ H s->RelV x v->s.heap.IsSliceOf Y W J .none->IsPart W lo->IsPart J hi->r x lo hi H Q ->
  ∃T id,typeLookup (.type T) "__getitem__" = pure (some (.builtin id))/\s.TypeIs v T/\wpAny (model X.prog X.w) X.A (getItem v (.ref Y)) (EP X I σ Q) X.xe s
noncomputable def tSl(r:V->Option Int->Option Int->Hp->VK->Prop)(te:TE)(tl th:TO):TE:=λσ H Q=>te σ H λx W=>tl σ W λl J=>th σ J λu I=>r x l u I Q
theorem QY{r:V->Option Int->Option Int->Hp->VK->Prop}(hr:SlR X r)(he:PE X e te)(hl:PO X lo tl)(hu:PO X hi th):PE X (.Subscript e (.Slice lo hi none p2) pos) (tSl r te tl th):=by
 intro J s σ H Q I h;refine Subscript_ (thn (he J s σ H _ I h) λv s1 ⟨x,H1,I1,r1,q1⟩=>?_);refine wpAny_Slice (thn (hl J s1 σ H1 _ I1 q1) λvl s2 ⟨l,H2,I2,pl,q2⟩=>thn (hu J s2 σ H2 _ I2 q2) λY W ⟨u,H3,I3,pu,q3⟩=>?_);rw[evalPart_none];refine zj ?_;have I4:Inv X J σ H3 { W with heap:=W.heap.push { cls:=.type "slice",data:=.fields #[vl,Y,.none] } }:=I3.kept (t':=W.toks) λb ob q=>zg _ q;obtain⟨T,id,hT,ht,hg⟩:=hr J { W with heap:=W.heap.push { cls:=.type "slice",data:=.fields #[vl,Y,.none] } } σ H3 x v vl Y l u W.heap.objs.size Q I4 r1 (Heap.IsSliceOf.new ..) pl pu q3;show wpAny (model X.prog X.w) X.A (subscriptTail e (.Slice lo hi none p2) v (.ref W.heap.objs.size)) (EP X J σ Q) X.xe { W with heap:=W.heap.push { cls:=.type "slice",data:=.fields #[vl,Y,.none] } }
 exact tail_any (ops:=[.ref W.heap.objs.size,v]) ht hT hg (by with_unfolding_all rfl)
noncomputable def zE6(xs:List V)(lo hi:Option Int):List V:=(xs.drop (HT.sIx xs.length 0 lo)).take (HT.sIx xs.length xs.length hi-HT.sIx xs.length 0 lo)
theorem Wy(xs:List V)(lo hi:Option Int):(zE6 xs lo hi).length<=xs.length:=by
 unfold zE6;rw[xh,wj];lia
noncomputable def xJ0(K:W.Frag):V->Option Int->Option Int->Hp->VK->Prop:=λx lo hi H Q=>∃a xs,x=.ref a/\SqT K H a xs /\
 ¬ (HT.sIx xs.length 0 lo=0/\HT.sIx xs.length xs.length hi=xs.length)/\∀p,H p=none->Q (.ref p) (upd H p (.tup (zE6 xs lo hi)))
theorem zV7:SlR X (xJ0 X.K):=by
 intro W s σ H x v vl vu lo hi sl Q I rx hs pl pu h;obtain⟨a,xs,rfl,hx,hw,q⟩:=h;cases rx;obtain⟨its,r,ht,Y⟩:=I.tuple hx
 have J:its.toArray.size=xs.length:=by rw[zn];exact r.length.symm
 refine⟨"tuple",_,PyProof.Rows.slot_tuple_getitem.lookup,ht.typeIs,?_⟩
 refine HT.YQ ht hs pl pu (by rw[J];exact hw) ?_ (by rw[J];exact Y)
 rw[J];refine⟨.ref s.heap.objs.size,_,I.laid (t':=s.toks) (o:=.tup (zE6 xs lo hi)) (λb ob q=>zg _ q) (zi _) ?_,rfl,q _ (I.hok.fresh (zi _))⟩;exact⟨zy (Wy xs lo hi) Y,_,(r.drop (HT.sIx xs.length 0 lo)).take (HT.sIx xs.length xs.length hi-HT.sIx xs.length 0 lo),IsTup.new _ _⟩
noncomputable def xo9(K:W.Frag):R2:=λx y H Q=>∃a b xs ys,x=.ref a/\y=.ref b/\SqT K H a xs/\SqT K H b ys/\xs≠[]/\xs.length+ys.length<=sizeLine /\
 (ys=[]->Q (.ref a) H)/\(ys≠[]->∀p,H p=none->Q (.ref p) (upd H p (.tup (xs++ys))))
theorem Vals.nil_iff{xs:List V}{us:QqW}(r:Vals xs us):us=[]↔xs=[]:=by
 cases r with
 |nil=>simp
 |cons _ _=>simp
theorem zO5:OpR X (binaryOp .Add) (xo9 X.K):=by
 intro Y s σ H x y v u Q I rx ry h;obtain⟨a,b,xs,ys,rfl,rfl,ha,hb,hx,hz,q1,q2⟩:=h;cases rx;cases ry;obtain⟨its,W,p1,_⟩:=I.tuple ha;obtain⟨aa,J,p2,_⟩:=I.tuple hb
 refine HT.zS6 p1 p2 (λz=>hx (W.nil_iff.mp z)) (λz=>⟨.ref a,H,I,rfl,q1 (J.nil_iff.mp z)⟩) (λz=>?_) (by rw[<- W.length,<- J.length];exact hz)
 refine⟨.ref s.heap.objs.size,_,I.laid (t':=s.toks) (o:=.tup (xs++ys)) (λb ob q=>zg _ q) (zi _) ?_,rfl,q2 (λw=>z (J.nil_iff.mpr w)) _ (I.hok.fresh (zi _))⟩
 exact⟨by rw[zr];exact hz,_,W.append J,IsTup.new _ _⟩
end
noncomputable def ixN(n:Nat)(i:Int):Option Nat:=if 0<=i then(if i<n then some i.toNat else none) else if -(n:Int)<=i then some (i+n).toNat else none
noncomputable def atI{α:Type}(xs:List α)(i:Int):Option α:=(ixN xs.length i).bind λj=>xs[j]?
theorem zq6{n:Nat}{i:Int}{j:Nat}(h:ixN n i=some j):seqIndex? i n=some j/\j<n/\-(n:Int)<=i/\i<n:=by
 unfold ixN at h
 by_cases I:0<=i
 ·rw [if_pos I] at h
  by_cases h1:i<n
  ·rw [if_pos h1] at h;have e:i.toNat=j:=zB h
   exact⟨by rw[seqIndex_of I h1,e],x3,x3,h1⟩
  ·rw[if_neg h1] at h;cases h
 ·rw [if_neg I] at h
  by_cases h1:-(n:Int)<=i
  ·rw [if_pos h1] at h;have e:(i+n).toNat=j:=zB h
   exact⟨by rw[seqIndex_neg x3 h1,e],x3,h1,x3⟩
  ·rw[if_neg h1] at h;cases h
theorem Qz{α:Type}{xs:List α}{i:Int}{v:α}(h:atI xs i=some v):∃j,seqIndex? i xs.length=some j/\xs[j]?=some v/\j<xs.length/\-(xs.length:Int)<=i/\i<xs.length:=by
 unfold atI at h
 cases e:ixN xs.length i with
 |none=>rw[e] at h;cases h
 |some j=>
  rw[e] at h;obtain⟨h1,h2,h3,h4⟩:=zq6 e;exact⟨j,h1,h,h2,h3,h4⟩
theorem qH{α:Type}{xs:List α}{j:Nat}{v:α}(h:xs[j]?=some v):atI xs (j:Int)=some v:=by
 have hj:j<xs.length:=(zu.mp h).1
 have e:ixN xs.length (j:Int)=some j:=by
  unfold ixN
  rw[if_pos x3,if_pos x3];simp
 unfold atI;rw[e];exact h
noncomputable def UR(b:Expr):Prop:=∀o i,subscripted b false o i=operate [o,i] (getItem o i)
noncomputable def IxR(X:Cx)(r:R2):Prop:=
 ∀(W I:Expr) (J:QqL) (s:Shared) (σ:St) (H:Hp) (x y:V) (v u:Value) (Q:VK),Inv X J σ H s->RelV x v->RelV y u->r x y H Q ->
  subscripted I false v u=operate [v,u] (getItem v u)->wpAny (model X.prog X.w) X.A (subscriptTail W I v u) (EP X J σ Q) X.xe s
noncomputable def MtR(X:Cx)(id:String)(r:V->List V->Hp->VK->Prop):Prop:=
 ∀(I:QqL) (s:Shared) (σ:St) (H:Hp) (x:V) (xs:List V) (v:Value) (us:QqW) (Q:VK),Inv X I σ H s->RelV x v->Vals xs us->r x xs H Q ->
  wpAny (model X.prog X.w) X.A (call (.builtin id) (v::us)) (EP X I σ Q) X.xe s
section
variable {X:Cx}{a b:Expr}{ta tb:TE}{pos:Pos}
theorem IxR.or{r r':R2}(h:IxR X r)(h':IxR X r'):IxR X (λx y H Q=>r x y H Q\/r' x y H Q):=by
 intro J W Y s σ H x y v u Q I rx ry q hs
 rcases q with q |q
 ·exact h J W Y s σ H x y v u Q I rx ry q hs
 ·exact h' J W Y s σ H x y v u Q I rx ry q hs
theorem zN6{r:R2}(hr:IxR X r)(ha:PE X a ta)(hb:PE X b tb)(hs:UR b):PE X (.Subscript a b pos) (tOp r ta tb):=by
 intro J s σ H Q I h;exact Subscript_ (xz1 ha hb I h λv u W x y H2 I2 rx Y q=>hr a b J W σ H2 x y v u Q I2 rx Y q (hs _ _))
noncomputable def xA6(K:W.Frag):R2:=λx y H Q=>∃p xs i v,x=.ref p/\y=.int i/\SqL K H p xs/\atI xs i=some v/\Q v H
noncomputable def xA4(K:W.Frag):R2:=λx y H Q=>∃p xs i v,x=.ref p/\y=.int i/\SqT K H p xs/\atI xs i=some v/\Q v H
noncomputable def xA5:R2:=λx y H Q=>∃z i c,x=.str z/\y=.int i/\z.length<=sizeLine/\atI z.cps.toList i=some c/\Q (.str ⟨#[c]⟩) H
theorem Qp:IxR X (xA6 X.K):=by
 intro W Y J s σ H x y v u Q I rx ry h hs;obtain⟨p,xs,i,z,rfl,rfl,hq,he,q⟩:=h;cases rx;obtain⟨t,rfl⟩:=ry;obtain⟨its,r,pl,hz⟩:=I.list hq;obtain⟨j,h1,h2,h3,h4,h5⟩:=Qz he;obtain⟨w,ew,rw'⟩:=r.get h2;have hl:=r.length;have hn:=Vv;have fin:EP X J σ Q w s:=⟨z,H,I,rw',q⟩
 by_cases h0:0<=i
 ·have hj : i.toNat = j := by
   rw[seqIndex_of h0 h5] at h1;exact zB h1
  exact item_listR pl.isList h0 x3 (by rw[hj];simpa using ew) fin hs
 ·have hj : (i + (its.toArray.size : Int)).toNat = j := by
   rw[seqIndex_neg x3 h4] at h1
   rw[zn,<- hl];exact zB h1
  exact subscriptTail_builtinR (x:=w) pl.isList.typeIs slot_list_getitem.lookup
   (wpAny_getItem_list_neg (Q:=λr s'=>r=w/\EP X J σ Q r s') pl.isList x3 (by rw[zn]<;>lia) x3 (by rw[hj];simpa using ew) ⟨rfl,fin⟩) hs
theorem xe5:IxR X (xA4 X.K):=by
 intro W Y J s σ H x y v u Q I rx ry h hs;obtain⟨p,xs,i,z,rfl,rfl,hq,he,q⟩:=h;cases rx;obtain⟨t,rfl⟩:=ry;obtain⟨its,r,pl,hz⟩:=I.tuple hq;obtain⟨j,h1,h2,h3,h4,h5⟩:=Qz he;obtain⟨w,ew,rw'⟩:=r.get h2;have hl:=r.length;have hn:=Vv;have fin:EP X J σ Q w s:=⟨z,H,I,rw',q⟩
 exact subscriptTail_builtinR (x:=w) pl.typeIs slot_tuple_getitem.lookup
  (getItem_tuple (j:=j) (Q:=λr s'=>r=w/\EP X J σ Q r s') pl x3 x3 (by rw[zn,<- hl];exact h1) (by simpa using ew) ⟨rfl,fin⟩) hs
theorem xe6:IxR X xA5:=by
 intro J W Y s σ H x y v u Q I rx ry h hs;obtain⟨z,i,c,rfl,rfl,hz,he,q⟩:=h;obtain⟨t,rfl⟩:=rx;obtain⟨t',rfl⟩:=ry;obtain⟨j,h1,h2,h3,h4,h5⟩:=Qz he
 have hl:z.cps.toList.length=z.length:=by simp[Str.length]
 rw[hl] at h1 h4 h5;have hn:=Vv
 exact tail_any (typeIs_str s z t) slot_str_getitem.lookup (getItem_str (c:=c) (by
  have e1:decide (i < -(2^63:Int))=false:=zS x3
  have e2:decide (i>=2^63)=false:=zS x3
  rw[e1,e2,Bool.or_false]) (by rw[h1];simpa using h2) ⟨.str ⟨#[c]⟩,H,I.tok _,⟨_,rfl⟩,q⟩) hs
noncomputable def rIx(K:W.Frag):R2:=λx y H Q=>xA6 K x y H Q\/xA4 K x y H Q\/xA5 x y H Q
theorem xn:IxR X (rIx X.K):=Qp.or (xe5.or xe6)
theorem ze9(its:QqW)(n j:Nat)(u:Value):Obj.mapSeq (·.setIfInBounds j u) { cls:=.type "list",data:=.seq its.toArray n }={ cls:=.type "list",data:=.seq (its.set j u).toArray n }:=by
 simp[Obj.mapSeq]
theorem Inv.lst{J:QqL}{σ:St}{H:Hp}{s:Shared}{p:Addr}{xs:List V}(I:Inv X J σ H s)(h:H p=some (.lst xs)) :
  ∃(its:QqW) (n:Nat),Vals xs its/\s.heap.get? p=some { cls:=.type "list",data:=.seq its.toArray n }/\xs.length<=sizeLine:=by
 obtain⟨z,its,n,r,e⟩:=I.hok p _ h;exact⟨its,n,r,e,z⟩
theorem Inv.lstUpd{J:QqL}{σ:St}{H:Hp}{s:Shared}{p:Addr}{xs ys:List V}{its its':QqW}{n n':Nat}{f:Obj->Obj}(I:Inv X J σ H s)(h:H p=some (.lst xs))
  (ho:s.heap.get? p=some { cls:=.type "list",data:=.seq its.toArray n }) (W:f { cls:=.type "list",data:=.seq its.toArray n }={ cls:=.type "list",data:=.seq its'.toArray n' }) (r:Vals ys its') (Y:ys.length<=sizeLine) (t:Nat) :
  Inv X J σ (upd H p (.lst ys)) { s with heap:=s.heap.update p f,toks:=t }:=by
 have e:(s.heap.update p f).get? p=some { cls:=.type "list",data:=.seq its'.toArray n' }:=by
  rw[Heap.get?_update_self f ho (by rw[W]<;>rfl),W]
 refine I.write (x:=p) (e:=p) (by rw[h];trivial) (.inl rfl) (λb u hb q=>(Heap.get?_update_other _ _ (Ne.symm hb)).trans q) ⟨_,e⟩ ?_
 exact⟨Y,its',n',r,e⟩
noncomputable def xo8:V->V->V->Hp->(Hp->Prop)->Prop:=λo i v H Q=>∃p xs k j,o=.ref p/\i=.int k/\H p=some (.lst xs)/\ixN xs.length k=some j/\Q (upd H p (.lst (xs.set j v)))
theorem zx6:xG9 X xo8:=by
 intro J s σ H o i v ov iv u Q I ro ri rv h;obtain⟨p,xs,k,j,rfl,rfl,hp,hj,q⟩:=h;cases ro;obtain⟨t,rfl⟩:=ri;obtain⟨its,n,r,Y,hz⟩:=I.lst hp;obtain⟨h1,h2,h3,h4⟩:=zq6 hj;have hl:=r.length;have hn:=Vv
 have I':Inv X J σ (upd H p (.lst (xs.set j v))) { s with heap:=s.heap.update p (Obj.mapSeq (·.setIfInBounds j u)) }:=
  I.lstUpd hp Y (ze9 its n j u) (r.set rv j) (by rw[List.length_set];exact hz) s.toks
 by_cases h0:0<=k
 ·have hk : k.toNat = j := by
   rw[seqIndex_of h0 h4] at h1;exact zB h1
  exact W.ki_setAt Y h0 x3 (by rw[zn,<- hl];exact h4) (by rw[hk];exact⟨_,I',q⟩)
 ·have hk : (k + (its.toArray.size : Int)).toNat = j := by
   rw[seqIndex_neg x3 h3] at h1
   rw[zn,<- hl];exact zB h1
  exact W.ki_setBack Y x3 (by rw[zn,<- hl];exact h3) x3 (by rw[hk];exact⟨_,I',q⟩)
theorem Km(lo hi:Option Int)(n:Nat):(sliceBounds lo hi none n).1=((HT.sIx n 0 lo:Nat):Int)/\(sliceBounds lo hi none n).2.1=((HT.sIx n n hi:Nat):Int)/\(sliceBounds lo hi none n).2.2=1:=by
 refine⟨?_,?_,rfl⟩
 ·cases lo with
  |none=>simp[sliceBounds,HT.sIx]
  |some i=>
   simp only[sliceBounds,HT.sIx,Option.getD_none,show(1:Int) > 0 by decide,if_true]
   by_cases h:i<0
   ·simp only[h,if_true]<;>lia
   ·simp only[h,if_false]<;>lia
 ·cases hi with
  |none=>simp[sliceBounds,HT.sIx]
  |some i=>
   simp only[sliceBounds,HT.sIx,Option.getD_none,show(1:Int) > 0 by decide,if_true]
   by_cases h:i<0
   ·simp only[h,if_true]<;>lia
   ·simp only[h,if_false]<;>lia
theorem VY(its:QqW)(lo hi:Option Int):slicePick its.toArray lo hi none=((its.drop (HT.sIx its.length 0 lo)).take (HT.sIx its.length its.length hi-HT.sIx its.length 0 lo)).toArray:=by
 obtain⟨h1,h2,h3⟩:=Km lo hi its.toArray.size;unfold slicePick;rw[h1,h2,h3]
 simp only[sliceRange_one,pick_run,zn]<;>rfl
noncomputable def xJ1(K:W.Frag):V->Option Int->Option Int->Hp->VK->Prop:=λx lo hi H Q=>∃a xs,x=.ref a/\SqL K H a xs/\∀p,H p=none->Q (.ref p) (upd H p (.lst (zE6 xs lo hi)))
theorem zK9:SlR X (xJ1 X.K):=by
 intro W s σ H x v vl vu lo hi sl Q I rx hs pl pu h;obtain⟨a,xs,rfl,hx,q⟩:=h;cases rx;obtain⟨its,r,Y,hz⟩:=I.list hx;have J:=r.length;refine⟨"list",_,slot_list_getitem.lookup,Y.isList.typeIs,?_⟩
 refine wpAny_getItem_list_slice Y.isList hs pl pu .none (by simp) ?_ (by rw[zn]<;>lia)
 rw[VY,<- J];refine⟨.ref s.heap.objs.size,_,I.laid (t':=s.toks) (o:=.lst (zE6 xs lo hi)) (λb ob q=>zg _ q) (zi _) ?_,rfl,q _ (I.hok.fresh (zi _))⟩;exact⟨zy (Wy xs lo hi) hz,_,0,(r.drop (HT.sIx xs.length 0 lo)).take (HT.sIx xs.length xs.length hi-HT.sIx xs.length 0 lo),zD _ rfl⟩
noncomputable def Va:V->Bool
 |.non=>true
 |.bl _=>true
 |.int _=>true
 |.str _=>true
 |_=>false
noncomputable def eqV:V->V->Bool
 |.non,.non=>true
 |.bl a,.bl b=>a == b
 |.bl a,.int b=>(if a then 1 else 0) == b
 |.int a,.bl b=>a == (if b then 1 else 0)
 |.int a,.int b=>a == b
 |.str a,.str b=>a == b
 |_,_=>false
theorem xf8{A:Around}{s:Shared}{y x:V}{u v:Value}(J:RelV y u)(I:RelV x v)(Y:Va y=true)(W:Va x=true):SeqAt.EqAt A s u v (eqV y x):=by
 cases y with
 |non=>
  cases J
  cases x with
  |non=>cases I;exact SeqAt.EqAt.same _
  |bl b=>cases I;exact SeqAt.EqAt.none_bool b
  |int b=>obtain⟨t,rfl⟩:=I;exact SeqAt.EqAt.none_int b t
  |str b=>obtain⟨t,rfl⟩:=I;exact SeqAt.EqAt.none_str b t
  |_=>exact absurd (show false=true from W) zF
 |bl a=>
  cases J
  cases x with
  |non=>cases I;exact SeqAt.EqAt.bool_none a
  |bl b=>cases I;exact SeqAt.EqAt.bool_bool a b
  |int b=>obtain⟨t,rfl⟩:=I;exact SeqAt.EqAt.bool_int a b t
  |str b=>obtain⟨t,rfl⟩:=I;exact SeqAt.EqAt.bool_str a b t
  |_=>exact absurd (show false=true from W) zF
 |int a=>
  obtain⟨t',rfl⟩:=J
  cases x with
  |non=>cases I;exact SeqAt.EqAt.int_none a t'
  |bl b=>cases I;exact SeqAt.EqAt.int_bool a t' b
  |int b=>obtain⟨t,rfl⟩:=I;exact SeqAt.EqAt.int_int a t' b t
  |str b=>obtain⟨t,rfl⟩:=I;exact SeqAt.EqAt.int_str a t' b t
  |_=>exact absurd (show false=true from W) zF
 |str a=>
  obtain⟨t',rfl⟩:=J
  cases x with
  |non=>cases I;exact SeqAt.EqAt.str_none a t'
  |bl b=>cases I;exact SeqAt.EqAt.str_bool a t' b
  |int b=>obtain⟨t,rfl⟩:=I;exact SeqAt.EqAt.str_int a t' b t
  |str b=>obtain⟨t,rfl⟩:=I;exact SeqAt.EqAt.str_str a t' b t
  |_=>exact absurd (show false=true from W) zF
 |_=>exact absurd (show false=true from Y) zF
noncomputable def eqU(x:V)(u:Value):Bool:=match u with
 |.none=>eqV .non x
 |.bool b=>eqV (.bl b) x
 |.int i _=>eqV (.int i) x
 |.str z _=>eqV (.str z) x
 |_=>false
theorem zI4{x y:V}{u:Value}(r:RelV y u)(f:Va y=true):eqU x u=eqV y x:=by
 cases y with
 |non=>cases r;rfl
 |bl b=>cases r;rfl
 |int i=>obtain⟨t,rfl⟩:=r;rfl
 |str z=>obtain⟨t,rfl⟩:=r;rfl
 |_=>exact absurd (show false=true from f) zF
theorem WH{x:V}:∀{xs:List V}{us:QqW},Vals xs us->xs.all Va=true->us.any (eqU x)=xs.any λy=>eqV y x
 |_,_,.nil,_=>rfl
 |y::xs,u::us,.cons r t,f=>by
  rw[yD,zE] at f;rw[any_cons,any_cons,zI4 r f.1,WH t f.2]
theorem Ym{A:Around}{s:Shared}{x:V}{v:Value}(J:RelV x v)(W:Va x=true):∀{xs:List V}{us:QqW},Vals xs us->xs.all Va=true->∀u∈us,SeqAt.EqAt A s u v (eqU x u)
 |_,_,.nil,_=>λu I=>by cases I
 |y::xs,u::us,.cons r t,f=>λu' I=>by
  rw[yD,zE] at f
  rcases zt.mp I with rfl |I
  ·rw[zI4 r f.1];exact xf8 r J f.1 W
  ·exact Ym J W t f.2 u' I
noncomputable def inV(x:V)(xs:List V):Bool:=xs.any λy=>eqV y x
noncomputable def rIn(K:W.Frag)(neg:Bool):R2:=λx y H Q=>∃p xs,y=.ref p/\(SqL K H p xs\/SqT K H p xs)/\Va x=true/\xs.all Va=true/\Q (.bl (if neg then !inV x xs else inV x xs)) H
theorem zm7:OpR X (compareOp .In) (rIn X.K false):=by
 intro aa s σ H x y v u Q I rx ry h;obtain⟨p,xs,rfl,J,fx,fs,q⟩:=h;cases ry
 rcases J with J |J
 ·obtain ⟨its, r, W, hz⟩ := I.list J
  refine SeqAt.in_listAt (eqU x) W.isList (λw Y=>Ym rx fx r fs w (by simpa using Y)) ⟨.bl _,H,I,rfl,?_⟩
  rw[show its.toArray.any (eqU x)=its.any (eqU x) by simp,WH r fs]
  exact q
 ·obtain ⟨its, r, W, hz⟩ := I.tuple J
  refine SeqAt.in_tupleAt (eqU x) W (λw Y=>Ym rx fx r fs w (by simpa using Y)) ⟨.bl _,H,I,rfl,?_⟩
  rw[show its.toArray.any (eqU x)=its.any (eqU x) by simp,WH r fs]
  exact q
theorem KH:OpR X (compareOp .NotIn) (rIn X.K true):=by
 intro aa s σ H x y v u Q I rx ry h;obtain⟨p,xs,rfl,J,fx,fs,q⟩:=h;cases ry
 rcases J with J |J
 ·obtain ⟨its, r, W, hz⟩ := I.list J
  refine SeqAt.notIn_listAt (eqU x) W.isList (λw Y=>Ym rx fx r fs w (by simpa using Y)) ⟨.bl _,H,I,rfl,?_⟩
  rw[show its.toArray.any (eqU x)=its.any (eqU x) by simp,WH r fs]
  exact q
 ·obtain ⟨its, r, W, hz⟩ := I.tuple J
  refine SeqAt.notIn_tupleAt (eqU x) W (λw Y=>Ym rx fx r fs w (by simpa using Y)) ⟨.bl _,H,I,rfl,?_⟩
  rw[show its.toArray.any (eqU x)=its.any (eqU x) by simp,WH r fs]
  exact q
theorem xR:jr X (.builtin "len") (λxs H Q=>∃p ys,xs=[.ref p]/\(SqL X.K H p ys\/SqT X.K H p ys)/\Q (.int ys.length) H):=by
 intro aa s σ H xs us Q I r h;obtain⟨p,ys,rfl,W,q⟩:=h;obtain⟨u,rfl,rx⟩:=Ke r;cases rx;have hn:=Vv
 rcases W with W |W
 ·obtain ⟨its, r', Y, hz⟩ := I.list W;have J:=r'.length
  exact Calls.call_len_list Y.isList (by simp only[zn]<;>lia) ⟨.int ys.length,H,I.tok _,⟨s.toks+1,by rw[zn,J]⟩,q⟩
 ·obtain ⟨its, r', Y, hz⟩ := I.tuple W;have J:=r'.length
  exact len_tuple Y (by simp only[zn]<;>lia) ⟨.int ys.length,H,I.tok _,⟨s.toks+1,by rw[zn,J]⟩,q⟩
theorem vq:jr X (.type "list") (λxs H Q=>∃p ys,xs=[.ref p]/\(SqL X.K H p ys\/SqT X.K H p ys)/\∀l,H l=none->Q (.ref l) (upd H l (.lst ys))):=by
 intro J s σ H xs us Q I r h;obtain⟨p,ys,rfl,Y,q⟩:=h;obtain⟨u,rfl,rx⟩:=Ke r;cases rx
 have fin:∀(its:QqW),Vals ys its->ys.length<=sizeLine->∀(h':Heap) (c':Nat),(∀b o',s.heap.get? b=some o'->h'.get? b=some o') ->
   h'.get? s.heap.objs.size=some { cls:=.type "list",dict:=none,data:=.seq its.toArray c',slots:=#[] }->EP X J σ Q (.ref s.heap.objs.size) { s with heap:=h' }:=λits r' W h' c' kp e=>
  ⟨.ref s.heap.objs.size,_,I.laid (t':=s.toks) kp (zi _) (show ObjOk X.prog X.w _ h' _ (.lst ys) from⟨W,its,c',r',e⟩),rfl,q _ (I.hok.fresh (zi _))⟩
 rcases Y with Y |Y
 ·obtain ⟨its, r', pl, W⟩ := I.list Y;have aa:=r'.length;obtain⟨o,ho,hc,n,hd⟩:=pl.isList
  exact call_list_seq p (.inl rfl) ho hc hd (λh' c' kp e=>fin its r' W h' c' kp e) (by simp only[zn]<;>lia)
 ·obtain ⟨its, r', pl, W⟩ := I.tuple Y;have aa:=r'.length;obtain⟨o,ho,hc,n,hd⟩:=pl
  exact call_list_seq p (.inr rfl) ho hc hd (λh' c' kp e=>fin its r' W h' c' kp e) (by simp only[zn]<;>lia)
theorem yd:jr X (.type "tuple") (λxs H Q=>∃p ys,xs=[.ref p]/\((SqL X.K H p ys/\∀l,H l=none->Q (.ref l) (upd H l (.tup ys)))\/(SqT X.K H p ys/\Q (.ref p) H))):=by
 intro J s σ H xs us Q I r h;obtain⟨p,ys,rfl,h⟩:=h;obtain⟨u,rfl,rx⟩:=Ke r;cases rx
 rcases h with ⟨Y,q⟩ |⟨Y,q⟩
 ·obtain ⟨its, r', W, hz⟩ := I.list Y;have aa:=r'.length
  refine call_tuple_list W.isList (λh' kp=>?_) (by simp only[zn]<;>lia)
  have I1:Inv X J σ H { s with heap:=h' }:=I.kept (t':=s.toks) kp
  have I2:Inv X J σ (upd H h'.objs.size (.tup ys)) { s with heap:=h'.push { cls:=.type "tuple",data:=.seq its.toArray } }:=
   I1.laid (t':=s.toks) (λb o e=>zg _ e) (zi _) (show ObjOk X.prog X.w _ _ _ (.tup ys) from⟨hz,its,r',IsTup.new _ _⟩)
  exact⟨.ref h'.objs.size,_,I2,rfl,q _ (I1.hok.fresh (zi _))⟩
 ·obtain⟨its,r',W,hz⟩:=I.tuple Y;exact call_tuple_same W ⟨.ref p,H,I,rfl,q⟩
noncomputable def tyV(K:W.Frag)(T:String)(x:V)(H:Hp):Prop:=match x with
 |.str _=>T = "str"
 |.int _=>T = "int"
 | .ref p => (T = "list" /\ ∃ xs, SqL K H p xs) \/ (T = "tuple" /\ ∃ o, K.lookup p = some o /\ o.cls = .type "tuple" /\ o.dict = none) \/
   (T = "dict" /\ ((∃I,H p=some (.dK I))\/∃I,H p=some (.dT I)))\/(T = "set" /\ ∃S n,H p=some (.set S n))
 |_=>False
theorem zU6{J:QqL}{σ:St}{H:Hp}{s:Shared}{T:String}{x:V}{v:Value}(I:Inv X J σ H s)(r:RelV x v)(ty:tyV X.K T x H) :
  s.TypeIs v T/\∀a,v=.ref a->∃ob,s.heap.get? a=some ob/\ob.dict=none:=by
 cases x with
 |str z=>
  obtain⟨t,rfl⟩:=r;cases(show T = "str" from ty)
  exact⟨typeIs_str s z t,λ_ e=>nomatch e⟩
 |int i=>
  obtain⟨t,rfl⟩:=r;cases(show T = "int" from ty)
  exact⟨typeIs_int s i t,λ_ e=>nomatch e⟩
 | ref p =>
  cases r
  rcases ty with ⟨rfl,xs,hq⟩ |⟨rfl,o,hk,hc,hd⟩ |⟨rfl,hk⟩ |⟨rfl,S,n,hk⟩
  ·obtain⟨its,_,pl,_⟩:=I.list hq;refine⟨pl.isList.typeIs,λa e=>?_⟩;cases e;obtain⟨o,n,e,c,hd,_⟩:=pl;exact⟨o,e,hd⟩
  ·refine⟨⟨o,I.kIn p o hk,hc⟩,λa e=>?_⟩;cases e;exact⟨o,I.kIn _ o hk,hd⟩
  ·have z : ∃ o, s.heap.get? p = some o /\ o.ExactDict := by
    rcases hk with ⟨W,hk⟩ |⟨W,hk⟩
    ·obtain⟨_,_,_,_,o,_,_,e,ex,_⟩:=I.hok p _ hk;exact⟨o,e,ex⟩
    ·obtain⟨_,_,_,_,o,_,_,e,ex,_⟩:=I.hok p _ hk;exact⟨o,e,ex⟩
   obtain⟨o,e,ex⟩:=z;refine⟨⟨o,e,ex.1⟩,λa Y=>?_⟩;cases Y;exact⟨o,e,ex.2.1⟩
  ·obtain⟨o,_,_,_,e,ex,_⟩:=I.hok p _ hk;refine⟨⟨o,e,ex.1⟩,λa Y=>?_⟩;cases Y;exact⟨o,e,ex.2.1⟩
 |_=>exact False.elim ty
noncomputable def tBM(K:W.Frag)(T:String)(r:V->List V->Hp->VK->Prop)(to:TE)(t:TA):TE:=λσ H Q=>to σ H λx I=>tyV K T x I/\t σ I λxs J=>r x xs J Q
variable {o e:Expr}{es:List Expr}{to:TE}{t:TA}{name:Str}{apos cpos:Pos}{T id:String}{r:V->List V->Hp->VK->Prop}
theorem zm0(pa:PlainAttrs T)(slot:Slot T name id)(af:typeOf (.builtin id)=pure (.type "method_descriptor"))(hm:MtR X id r)(ho:PE X o to)(ha:PA X (e::es) t)
  (aa:attributeBase o name X.env (eval o X.env)=eval o X.env:=by rfl)
  (ae : ((backTo cpos (starEach (e :: es) X.env)).all (λx => !x.1) && (backToKw cpos (keywordEach [] X.env)).all (λx => x.1.isSome)
   && decide ((e::es).length+([]:List Keyword).length+(if ([]:List Keyword).isEmpty then 0 else 1)<30))=true:=by rfl)
  (Y:(apos.endLine == cpos.line)=true:=by rfl) (hs:starEach (e::es) X.env=(false,eval e X.env)::starEach es X.env:=by rfl) (W:(backTo cpos (starEach es X.env)).any (·.1)=false:=by rfl) :
  PE X (.Call (.Attribute o name apos) (e::es) [] cpos) (tBM X.K T r to t):=by
 intro J s σ H Q I h;refine wpAny_Call_method_late aa ae Y rfl (thn (ho J s σ H _ I h) λv s1 ⟨x,H1,I1,r1,ty,q1⟩=>?_);obtain⟨h1,h2⟩:=zU6 I1 r1 ty;refine⟨T,id,pa,slot,af,h1,h2,?_⟩;have hA:=ha cpos J s1 σ H1 _ I1 q1;rw[hs] at hA ⊢
 refine Calls.callWith_builtin (by show(false||(backTo cpos (starEach es X.env)).any (·.1))=false;rw[W]<;>rfl) (Calls.evalArgs_plain ?_)
 exact thn hA λus s2 ⟨vs,H2,I2,r2,q2⟩=>hm J s2 σ H2 x vs v us Q I2 r1 r2 q2
end
noncomputable def MtM(X:Cx)(id:String)(r:V->List V->Hp->VK->Prop):Prop:=
 ∀(I:QqL) (s:Shared) (σ:St) (H:Hp) (x:V) (xs:List V) (v:Value) (us:QqW) (Q:VK),Inv X I σ H s->RelV x v->Vals xs us->r x xs H Q ->
  wpAny (model X.prog X.w) X.A (call (.builtin id) (v::us)) (EP X I σ Q) X.xe s
theorem Vals.one:∀{x:V}{us:QqW},Vals [x] us->∃u,us=[u]/\RelV x u
 |_,_,.cons r .nil=>⟨_,rfl,r⟩
theorem Vals.eraseIdx:∀{xs:List V}{us:QqW} (i:Nat),Vals xs us->Vals (xs.eraseIdx i) (us.eraseIdx i)
 |_,_,_,.nil=>.nil
 |_,_,0,.cons _ t=>t
 |_,_,i+1,.cons r t=>.cons r (Vals.eraseIdx i t)
theorem Vals.rep{xs:List V}{us:QqW}(h:Vals xs us):∀k:Nat,Vals (replicate k xs).flatten (replicate k us).flatten
 |0=>.nil
 |k+1=>by
  rw[wO,wO,wc,wc];exact Vals.append h (Vals.rep h k)
theorem Jd{α:Type}:∀(l:List α) (i:Nat),(l.eraseIdx i).length<=l.length
 |[],_=>zi _
 |_::_,0=>wo _
 |_::r,i+1=>Nat.succ_le_succ (Jd r i)
theorem Ji(its:QqW):∀(k:Nat) (acc:QqW),
  List.foldl (λJ I=>J++I) acc.toArray (replicate k its.toArray)=(acc++(replicate k its).flatten).toArray
 |0,acc=>by simp
 | k + 1, acc => by
  have e:acc.toArray++its.toArray=(acc++its).toArray:=by simp
  have W:(acc++its)++(replicate k its).flatten=acc++(replicate (k+1) its).flatten:=by
   rw[wO,wc,wq]
  rw[<- W,<- Ji its k (acc++its),<- e,wO,List.foldl_cons]
section
variable {X:Cx}{pins:QqL}{σ:St}{H:Hp}{s:Shared}{l b:Addr}{xs ys zs:List V}
theorem Inv.lset{its its':QqW}{n:Nat}{f:Array Value->Array Value}{t':Nat}(I:Inv X pins σ H s)(hH:H l=some (.lst xs))
  (e:s.heap.get? l=some { cls:=.type "list",data:=.seq its.toArray n }) (Y:f its.toArray=its'.toArray) (hv:Vals ys its') (J:ys.length<=sizeLine) :
  Inv X pins σ (upd H l (.lst ys)) { s with heap:=s.heap.update l (Obj.mapSeq f),toks:=t' }:=by
 have q:=PySem.IsL.update e f;rw[Y] at q
 refine I.write (x:=l) (e:=l) (by rw[hH];exact trivial) (.inl rfl) (λb' u hb W=>(Heap.get?_update_other s.heap (Obj.mapSeq f) (Ne.symm hb)).trans W) ⟨_,q⟩ ?_
 exact⟨J,its',_,hv,q⟩
theorem Inv.lnew{its:QqW}{t':Nat}(I:Inv X pins σ H s)(hv:Vals ys its)(J:ys.length<=sizeLine) :
  Inv X pins σ (upd H s.heap.objs.size (.lst ys)) { s with heap:=s.heap.push { cls:=.type "list",data:=.seq its.toArray },toks:=t' }:=
 I.laid (λ_ _ q=>zg _ q) (zi _) ⟨J,its,0,hv,zD _ rfl⟩
theorem Inv.fresh(I:Inv X pins σ H s):H s.heap.objs.size=none:=I.hok.fresh (zi _)
theorem Inv.lstM(I:Inv X pins σ H s)(J:H l=some (.lst xs)):xs.length<=sizeLine/\∃(its:QqW) (n:Nat),Vals xs its/\xs.length=its.length/\s.heap.get? l=some { cls:=.type "list",data:=.seq its.toArray n }:=by
 obtain⟨z,its,n,r,e⟩:=I.hok l _ J;exact⟨z,its,n,r,r.length,e⟩
theorem zC0{n:Nat}(h:n<=sizeLine):Builtin.List.listTooLong n=false:=by
 unfold Builtin.List.listTooLong
 exact zS x3
end
section
variable {X:Cx}
noncomputable def zM1:V->List V->Hp->VK->Prop:=λx vs H Q=>∃l xs y,x=.ref l/\vs=[y]/\H l=some (.lst xs)/\xs.length<sizeLine/\Q .non (upd H l (.lst (xs++[y])))
theorem KW:MtM X "list.append" zM1:=by
 intro J s σ H x vs v us Q I Y rv h;obtain⟨l,xs,y,rfl,rfl,W,hz,q⟩:=h;cases Y;obtain⟨u,rfl,ru⟩:=rv.one;obtain⟨z,its,n,r,hl,e⟩:=I.lstM W
 refine call_meets F.slot_list_append ⟨_,e,rfl⟩ F.entry_list_append (F.args_list_append_2 _ _) (PySem.list_append l its.toArray n u (by rw[zn];lia)) ⟨e,?_⟩
 refine⟨.non,_,I.lset (its':=its++[u]) W e (by simp) (r.append (.cons ru .nil)) ?_,rfl,q⟩
 rw[zr,List.length_singleton];lia
noncomputable def zM0:V->List V->Hp->VK->Prop:=λx vs H Q=>∃l b xs I,x=.ref l/\vs=[.ref b]/\H l=some (.lst xs)/\H b=some (.lst I)/\xs.length+I.length<=sizeLine/\Q .non (upd H l (.lst (xs++I)))
theorem zo7:MtM X "list.extend" zM0:=by
 intro aa s σ H x vs v us Q I rx rv h;obtain⟨l,b,xs,zs,rfl,rfl,hH,hB,hz,q⟩:=h;cases rx;obtain⟨u,rfl,ru⟩:=rv.one;cases ru;obtain⟨z,its,n,r,hl,e⟩:=I.lstM hH;obtain⟨z2,J,n2,r2,ae,e2⟩:=I.lstM hB
 have Y:its.toArray.size+J.toArray.size<=sizeLine:=by rw[zn,zn];lia
 have W:¬ (!its.toArray.isEmpty&&Builtin.List.listTooLong (its.toArray.size+J.toArray.size))=true:=by
  rw[zC0 Y,Bool.and_false];exact zF
 refine call_meets F.slot_list_extend ⟨_,e,rfl⟩ F.entry_list_extend (F.args_list_extend_2 _ _)
  (AutoSeq1.list_extend_list_list_0 l its.toArray n b J.toArray n2 W (by rw[zn];lia) x3) ⟨e,e2,?_⟩
 refine⟨.non,_,I.lset (its':=its++J) hH e (by simp) (r.append r2) ?_,rfl,q⟩
 rw[zr];lia
noncomputable def zX8:V->List V->Hp->VK->Prop:=λx vs H Q=>∃l xs i k y,x=.ref l/\vs=[.int i]/\H l=some (.lst xs)/\-(2^63)<=i/\i<2^63/\seqIndex? i xs.length=some k/\xs[k]?=some y/\Q y (upd H l (.lst (xs.eraseIdx k)))
theorem zC3:MtM X "list.pop" zX8:=by
 intro J s σ H x vs v us Q I Y rv h;obtain⟨l,xs,i,k,y,rfl,rfl,W,h1,h2,hk,hy,q⟩:=h;cases Y;obtain⟨u,rfl,ru⟩:=rv.one;obtain⟨t,rfl⟩:=ru;obtain⟨z,its,n,r,hl,e⟩:=I.lstM W;obtain⟨w,hw,rw'⟩:=r.get hy
 refine call_meets F.slot_list_pop ⟨_,e,rfl⟩ F.entry_list_pop (F.args_list_pop_2 _ _)
  (MeetsSeq.list_pop_at l its.toArray n i t k w (fitsIndex_both h1 h2) (by rw[zn,<- hl];exact hk) (by rw[<- zP];exact hw) (by rw[zn];lia)) ⟨e,?_⟩
 refine⟨y,_,I.lset (its':=its.eraseIdx k) W e ?_ (r.eraseIdx k) ?_,rw',q⟩
 ·show its.toArray.eraseIdxIfInBounds k=(its.eraseIdx k).toArray;rw[List.eraseIdxIfInBounds_toArray]
 ·have:=Jd xs k;lia
noncomputable def xB0:R2:=λx y H Q=>∃l b xs I,x=.ref l/\y=.ref b/\H l=some (.lst xs)/\H b=some (.lst I)/\xs.length+I.length<=sizeLine/\∀p,H p=none->Q (.ref p) (upd H p (.lst (xs++I)))
theorem KI:OpR X (binaryOp .Add) xB0:=by
 intro W s σ H x y v u Q I rx Y h;obtain⟨l,b,xs,zs,rfl,rfl,hH,hB,hz,q⟩:=h;cases rx;cases Y;obtain⟨z,its,n,r,hl,e⟩:=I.lstM hH;obtain⟨z2,J,n2,r2,aa,e2⟩:=I.lstM hB
 refine PySem.P.add_list e e2 ?_ (by rw[zn,zn];lia)
 have ea:its.toArray++J.toArray=(its++J).toArray:=by simp
 rw[ea]
 exact⟨.ref _,_,I.lnew (t':=s.toks) (r.append r2) (by rw[zr];lia),rfl,q _ I.fresh⟩
theorem zp7{α:Type}(xs:List α)(k:Nat):(replicate k xs).flatten.length=k*xs.length:=by
 induction k with
 |zero=>simp
 |succ k I=>rw[wO,wc,zr,I,Nat.succ_mul,Nat.add_comm]
end
section
variable {prog:Program}{w:World}{A:Around}{E:QqV}{s:Shared}
end
section
variable {X:Cx}
end
end L2
namespace Att
open PySem PySem.W PySem.Calls PyProof.Rows
theorem Wv{P:Params}{h:Heap}:∀(ns:List Int) (vs:QqW),WellAll P h vs (ns.map WData.int)->IntsAre vs ns:=by
 intro ns
 induction ns with
 |nil=>
  intro vs w;rw[List.map_nil] at w;cases w;exact .nil
 | cons n ns I =>
  intro vs w;rw[al_List_map_cons] at w
  cases w with
  |cons a b=>
   cases a;exact .cons _ _ (I _ b)
theorem zj9{l:OpenLaw}{n:Nat}(hn:l.most=some n){P:Params}{h:Heap}{args:List WData}{I:QqW}
  (J:l.row.toRowW.claim.pre args=true) (aa:WellAll P h I args) :
  ∃a vs ns,I=[Value.ref a]/\args=[WData.list (ns.map WData.int)]/\h.get? a=some { cls:=.type "list",data:=.seq vs.toArray }/\IntsAre vs ns/\ns.length<=n:=by
 have ae:WShape.hasAll [] args [.list .int]=true:=(pre_splitW J).1;have hc:l.pre.holds [] { args:=args }=true:=(pre_splitW J).2;obtain⟨d,r,rfl,h1,h2⟩:=hasAllW_cons ae;obtain rfl:=hasAllW_nil h2;obtain⟨xs,rfl,h3⟩:=hasW_list h1;obtain⟨ns,rfl⟩:=items_int h3
 have W:ns.length<=n:=by
  unfold OpenLaw.pre at hc
  have h4:(WTm.not (.lt (.lit (.int (n:Int))) (.len (.arg 0)))).holds [] { args:=[.list (ns.map .int)] }=true:=by
   have h4:=(holds_andW hc).1;rw[hn] at h4;exact h4
  have h5:=condW_of h4 (w_not (w_lt w_lit (w_len_list (w_arg rfl))));rw[zh] at h5;refine Nat.le_of_not_lt λq=>?_
  have q':(n:Int)<((ns.length:Nat):Int):=x3
  first
   |(rw[xC q'] at h5;exact absurd h5 x4)
   |(simp at h5;lia)
 cases aa with
 |cons w1 w2=>
  cases w2
  cases w1 with
  |list ho Y=>exact⟨_,_,ns,rfl,rfl,ho,Wv ns _ Y,W⟩
theorem zl4(l:OpenLaw)(args:List WData):l.row.toRowW.claim.post args (.bool true) args=true:=
 postW_of (r:=l.row.toRowW) (X:=(true == true))
  (show WShape.has [] (.bool true) .bool=true by first |rfl |decide |simp[WShape.has,WShape.arms,WShape.armsAll])
  (show(WTm.eq .res (.lit (.bool true))).value [] { args:=args,res:=some (.bool true),after:=args }=some (.bool (true == true)) from w_eq_bool (w_res rfl) w_lit) rfl
theorem attach_call{l:OpenLaw}{n:Nat}{q:Program}{loose:List Str}{XP:(Str->Option Value)->Heap->Prop}{YP:World->Heap->Prop}{d:DefRec}
  (hn:l.most=some n) (ai:d.params.defaults=[])
  (call : ∀ (w : World) (s₀ I : Shared) (mg mb : Str -> Option Value) (fa : Addr) (o : Obj) (pm cd W : Value) (a : Addr) (vs : List Value) (ns : List Int),
   Ground q loose [] XP w s₀ mg mb I.heap->YP w I.heap ->
   I.heap.get? fa=some o->o.data=.func (docDef d.name d.params d.body d.scope pm cd W)->I.heap.CodeRec cd d.name->mg d.name=some (.ref fa) ->
   I.heap.get? a=some { cls:=.type "list",data:=.seq vs.toArray }->IntsAre vs ns->ns.length<=n->I.gens=#[] ->
   codeAny (model l.prog w) callerA (.call (.ref fa) ⟨[.ref a],[]⟩) (λr s'=>r=.ok (.ret (.bool true))/\OldK I.heap s'.heap/\s'.os=I.os/\AllBare s'.gens) I) :
  WalkO q loose XP YP l.row.toRowW d [] (λf vs=>PySem.call f vs):=by
 intro w s₀ I mg mb G Y fa o pm cd W dV kV ho hd aj hD ah hg args ak as aa am ao ag ap;obtain rfl:dV=.none:=Dflts.none hD ai;obtain rfl:kV=.none:=Dflts.noKw hD;obtain⟨a,vs,ns,rfl,rfl,ae,J,af⟩:=zj9 hn aa ag;refine enter_call (codeAny_mono (call w s₀ I mg mb fa o pm cd W a vs ns G Y ho (fd_plain hd) aj ah ae J af hg) λr s' hq=>?_);obtain⟨rfl,h2,h3,h4⟩:=hq
 exact⟨.inl ⟨.bool true,.bool true,[],rfl,λ_=>rfl,.bool true,zl4 l _,λ_=>⟨List.Pairwise.nil,λ_ hm=>(nomatch hm)⟩⟩,h2,h3,h4⟩
section
variable {prog:Program}{w:World}{A:Around}{E:QqV}{s:Shared}{K:Frag}
end
end Att
namespace L2
theorem Kd:∀{vs:QqW}{ns:List Int},IntsAre vs ns->Vals (ns.map V.int) vs
 |_,_,.nil=>.nil
 |_,_,.cons n t h=>.cons ⟨t,rfl⟩ (Kd h)
noncomputable def qG(s:Stmt):Arguments:=match s with
 |.FunctionDef _ a _ _ _ _ _ _ _ _=>a
 |_=>{ posonlyargs:=[],args:=[],vararg:=none,kwonlyargs:=[],kw_defaults:=[],kwarg:=none,defaults:=[] }
noncomputable def kn(s:Stmt):List Stmt:=match s with
 |.FunctionDef _ _ b _ _ _ _ _ _ _=>b
 |_=>[]
noncomputable def zV(s:Stmt):Scope:=match s with
 |.FunctionDef _ _ _ _ _ _ I _ _ _=>I
 |_=>{ kind:=.function,names:=[],isGenerator:=false,isCoroutine:=false }
noncomputable abbrev CX0:CXT:=λ_ _ _ _ _ _=>False
noncomputable abbrev E0:XK:=λ_ _ _=>False
theorem xa5{X:Cx}:zw0 CX0 X E0:=λ_ _ _ _ _ _ _ h=>h.elim
structure Fun(K:W.Frag)(x qual:Str)(st:Stmt)(f:Addr)(fd:FuncData):Prop where
 ex:∃(oc:Value) (od:QqE) (kV doc pm:Value) (an:QqE) (cdv ct:Value) (osl:Array (Option Value)),
  fd=W.fnOf x qual (qG st) (kn st) (zV st) .none kV doc pm an cdv ct/\K.lookup f=some ⟨oc,od,.func fd,osl⟩/\W.codeIn K cdv qual=true
 kp:W.keepIn K (.ref f)=true
section
variable {P:Program}{w:World}{K:W.Frag}{mg:QqM}{base:Heap}
theorem Fun.ok{x I:Str}{st:Stmt}{f:Addr}{fd:FuncData}{N ps:List Str}{k:Nat}{sp:Sp}(F:Fun K x I st f fd)(S:FnScope N ps (zV st))(len:∀vs H Q E,sp vs H Q E->vs.length=ps.length)
  (W : ∀ (J : Value) (A : Around) (outer : List Env) (s : Shared) (H : Hp) (vs : List V) (Q : VK) (E : XK), Room k (A.deeper (envOfC I (zV st) s.heap.objs.size f J)) -> sp vs H Q E ->
   ∃t,PSs (zE5 CX0 P w K mg base N I (zV st) f J A outer s H E).nox (kn st) t/\t { nx:=λ_ H'=>Q .non H',rt:=Q } (Yu N vs) H):FnOk P w K mg base CX0 (k+1) f fd ps sp:=by
 obtain⟨oc,od,kV,af,pm,an,J,ct,ae,rfl,lk,aa⟩:=F.ex;refine xf7 lk aa S len λA outer s H vs Q E hr Y=>?_;obtain⟨t,h,q⟩:=W J A outer s H vs Q E hr Y;exact⟨t,h.nox,q⟩
theorem Fun.binds{x I:Str}{st:Stmt}{f:Addr}{fd:FuncData}{ps:List Str}(F:Fun K x I st f fd)
  (h:∀(kV J pm:Value) (an:QqE) (Y ct:Value) (us:QqW),us.length=ps.length->bindArgs (W.fnOf x I (qG st) (kn st) (zV st) .none kV J pm an Y ct) ⟨us,[]⟩=pure (ps.zip us)):Binds K fd ps []:=by
 obtain⟨oc,od,kV,J,pm,an,Y,ct,aa,rfl,lk,ae⟩:=F.ex;exact .all (h kV J pm an Y ct)
theorem zr5{x I:Str}{st:Stmt}{f:Addr}{oc:Value}{od an:QqE}{aa:Array (Option Value)}{kV Y pm J ct:Value}(l:K.lookup f=some ⟨oc,od,.func (W.fnOf x I (qG st) (kn st) (zV st) .none kV Y pm an J ct),aa⟩)
  (c:W.codeIn K J I=true) (k:W.keepIn K (.ref f)=true):Fun K x I st f (W.fnOf x I (qG st) (kn st) (zV st) .none kV Y pm an J ct):=⟨⟨oc,od,kV,Y,pm,an,J,ct,aa,rfl,l,c⟩,k⟩
end
section
variable {X:Cx}
end
noncomputable def Same(H H':Hp):Prop:=∀b o,H b=some o->H' b=some o
end L2
namespace L2
open PySem
noncomputable def jA(env:Env):List (Str × NameKind)->List (Str × Addr)->List (Str × Addr)
 |[],acc=>acc
 |y::r,acc=>if y.2 == .free then jA env r ((y.1,(env.cells.lookup y.1).getD 0)::acc) else jA env r acc
theorem qm{env:Env}:∀(l:List (Str × NameKind)) (acc:List (Str × Addr)),(∀y∈l,y.2=.free->∃c,env.cells.lookup y.1=some c)->(∀x c,acc.lookup x=some c->env.cells.lookup x=some c) ->
  ∀x c,(jA env l acc).lookup x=some c->env.cells.lookup x=some c
 |[],acc,_,ha,x,c,h=>ha x c h
 | y :: r, acc, J, ha, x, c, h => by
  unfold jA at h
  split at h
  ·rename_i hk
   have hk':y.2=.free:=by simpa using hk
   obtain⟨d,hd⟩:=J y xo hk';refine qm r _ (λz I=>J z (zG _ I)) (λz e I=>?_) x c h;rw[xG] at I
   cases W:z == y.1 with
   |true=>
    rw[W,hd] at I
    have e2:z=y.1:=by simpa using W
    have Y:d=e:=by simpa using I
    rw[e2,hd,Y]
   |false=>rw[W] at I;exact ha z e I
  ·exact qm r acc (λz I=>J z (zG _ I)) ha x c h
theorem YT{env:Env}{x:Str}:∀(l:List (Str × NameKind)) (acc:List (Str × Addr)),(∃c,acc.lookup x=some c)->∃c,(jA env l acc).lookup x=some c
 |[],acc,h=>h
 | y :: r, acc, h => by
  unfold jA
  split
  ·refine YT r _ ?_;rw[xG]
   cases I:x == y.1 with
   |true=>exact⟨_,rfl⟩
   |false=>exact h
  ·exact YT r acc h
theorem Zb{env:Env}{y:Str × NameKind}(hk:y.2=.free):∀(l:List (Str × NameKind)) (acc:List (Str × Addr)),y∈l->∃c,(jA env l acc).lookup y.1=some c
 |[],acc,h=>by simp at h
 | z :: r, acc, h => by
  unfold jA
  rcases zt.mp h with rfl |h
  ·rw [if_pos (by rw [hk]; rfl)]
   exact YT r _ ⟨_,al_List_lookup_cons_self⟩
  ·split
   ·exact Zb hk r _ h
   ·exact Zb hk r _ h
theorem VG{env:Env}(f:Str × NameKind->List (Str × Addr)->Sem (ForInStep (List (Str × Addr))))
  (J:∀y acc,f y acc=if y.2 == .free then(cellOf env y.1 >>= λc=>pure (.yield ((y.1,c)::acc))) else pure (.yield acc)) :
  ∀(l:List (Str × NameKind)) (acc:List (Str × Addr)),(∀y∈l,y.2=.free->∃c,env.cells.lookup y.1=some c)->forIn l acc f=(pure (jA env l acc):Sem _)
 |[],acc,_=>by rw[forIn_nil];rfl
 | y :: r, acc, h => by
  have I:=λacc=>VG f J r acc λz Y=>h z (zG _ Y);rw[forIn_cons,J];unfold jA
  split
  ·rename_i hk
   obtain⟨c,W⟩:=h y xo (by simpa using hk)
   have e:cellOf env y.1=pure c:=by unfold cellOf;rw[W]
   rw[e,W];exact I _
  ·exact I _
theorem UL{scope:Scope}{env:Env}(h:∀y∈scope.names,y.2=.free->∃c,env.cells.lookup y.1=some c):closureFor scope env=pure (jA env scope.names []):=by
 have e:=VG (env:=env) (λx I=>match x with |(name,kind)=>if (kind == NameKind.free)=true then(do let c <- cellOf env name;pure (.yield ((name,c)::I))) else pure (.yield I)) (λy acc=>rfl) scope.names [] h
 have J:closureFor scope env=((forIn scope.names [] (λx I=>match x with |(name,kind)=>if (kind == NameKind.free)=true then(do let c <- cellOf env name;pure (ForInStep.yield ((name,c)::I))) else pure (ForInStep.yield I)):Sem (List (Str × Addr))) >>= λI=>pure I):=rfl
 rw[J,e];rfl
theorem YX{env:Env}{x:Str}:∀(l:List (Str × NameKind)),
  (l.map λ(n, k) => if (k == NameKind.free && env.scope.kind == .function && env.kindOf n == some .cell) then (n, NameKind.cell) else (n, k)).lookup x =
   (l.lookup x).map λk=>if (k == NameKind.free&&env.scope.kind == .function&&env.kindOf x == some .cell) then NameKind.cell else k
 |[]=>rfl
 | (n, k) :: r => by
  have I:=@YX env x r;rw[al_List_map_cons]
  by_cases e:x=n
  ·subst e;dsimp only
   split
   ·rename_i h;rw[al_List_lookup_cons_self,al_List_lookup_cons_self,Option.map_some,if_pos h]
   ·rename_i h;rw[al_List_lookup_cons_self,al_List_lookup_cons_self,Option.map_some,if_neg h]
  ·have e' : (x == n) = false := by simpa using e
   dsimp only
   split
   ·rw[xG,e',xG,e'];exact I
   ·rw[xG,e',xG,e'];exact I
theorem zu8:∀(l:List (Str × NameKind)) (h:Heap) (acc:List (Str × Addr)) (x:Str) (c:Addr),(cellsFrom h.objs.size l acc).lookup x=some c ->
  ((pushCells h l).IsCell c none/\h.objs.size<=c/\(x,NameKind.cell)∈l)\/acc.lookup x=some c
 |[],_,_,_,_,e=>.inr e
 | (n, k) :: r, h, acc, x, c, e => by
  unfold cellsFrom at e;unfold pushCells
  split at e
  ·rename_i hk
   have hk':k=.cell:=by simpa using hk
   rw[if_pos hk];have J:(h.push { cls:=.type "cell",data:=.cell none }).objs.size=h.objs.size+1:=wL ..;rw[<- J] at e
   rcases zu8 r (h.push { cls:=.type "cell",data:=.cell none }) _ x c e with ⟨a,b,d⟩ |q
   ·exact .inl ⟨a,by rw[J] at b;lia,zG _ d⟩
   ·rw [xG] at q
    cases I:x == n with
    |false=>rw[I] at q;exact .inr q
    |true=>
     rw[I] at q
     have Y:h.objs.size=c:=by simpa using q
     have W:x=n:=by simpa using I
     subst Y W
     refine .inl ⟨?_,zi _,by rw[hk'];exact xo⟩
     exact⟨_,pushCells_keeps _ _ _ _ (zD _ rfl),rfl⟩
  ·rename_i hk;rw[if_neg hk]
   rcases zu8 r h acc x c e with ⟨a,b,d⟩ |q
   ·exact .inl ⟨a,b,zG _ d⟩
   ·exact .inr q
theorem zu6:∀(l:List (Str × NameKind)) (n:Nat) (acc:List (Str × Addr)),(∀x y c,acc.lookup x=some c->acc.lookup y=some c->x=y)->(∀x c,acc.lookup x=some c->c<n) ->
  ∀x y c,(cellsFrom n l acc).lookup x=some c->(cellsFrom n l acc).lookup y=some c->x=y
 |[],_,_,hi,_,x,y,c,e,e'=>hi x y c e e'
 | (m, k) :: r, n, acc, hi, I, x, y, c, e, e' => by
  unfold cellsFrom at e e'
  have one:∀z d,((m,n)::acc).lookup z=some d->(z=m/\d=n)\/acc.lookup z=some d:=λz d q=>by
   rw[xG] at q
   cases W:z == m with
   |true=>rw[W] at q;exact .inl ⟨by simpa using W,by simpa using q.symm⟩
   |false=>rw[W] at q;exact .inr q
  split at e
  ·rename_i hk;rw[if_pos hk] at e';refine zu6 r (n+1) ((m,n)::acc) (λa b d q q'=>?_) (λa d q=>?_) x y c e e'
   ·rcases one a d q with ⟨a1, a2⟩ | a1 <;> rcases one b d q' with ⟨J, Y⟩ | J
    ·rw[a1,J]
    ·exact absurd (I b d J) (by rw[a2];exact xW _)
    ·exact absurd (I a d a1) (by rw[Y];exact xW _)
    ·exact hi a b d a1 J
   ·rcases one a d q with ⟨_, a2⟩ | a1
    ·rw[a2];exact Nat.lt_succ_self _
    ·exact wM (I a d a1)
  ·rename_i hk;rw[if_neg hk] at e';exact zu6 r n acc hi I x y c e e'
theorem YU{x:Str}:∀(l:List (Str × NameKind)) (n:Nat) (acc:List (Str × Addr)),(∃c,acc.lookup x=some c)->∃c,(cellsFrom n l acc).lookup x=some c
 |[],_,_,h=>h
 | (m, k) :: r, n, acc, h => by
  unfold cellsFrom
  split
  ·refine YU r _ _ ?_;rw[xG]
   cases I:x == m with
   |true=>exact⟨_,rfl⟩
   |false=>exact h
  ·exact YU r _ _ h
theorem zu7{x:Str}:∀(l:List (Str × NameKind)) (n:Nat) (acc:List (Str × Addr)),(x,NameKind.cell)∈l->∃c,(cellsFrom n l acc).lookup x=some c
 |[],_,_,h=>by simp at h
 | (m, k) :: r, n, acc, h => by
  unfold cellsFrom
  rcases zt.mp h with e |h
  ·cases e;exact YU r _ _ ⟨_,al_List_lookup_cons_self⟩
  ·split
   ·exact zu7 r _ _ h
   ·exact zu7 r _ _ h
theorem zS5{x:Str}:∀(l:List (Str × NameKind)) (n:Nat) (acc:List (Str × Addr)) (lo:Nat),lo<=n->((x,NameKind.cell)∈l\/∀c,acc.lookup x=some c->lo<=c)->∀c,(cellsFrom n l acc).lookup x=some c->lo<=c
  | [], n, acc, lo, I, h, c, e => by
    rcases h with h |h
    · simp at h
    · exact h c e
  | (m, k) :: r, n, acc, lo, I, h, c, e => by
    unfold cellsFrom at e
    split at e
    · rename_i hk
      refine zS5 r (n+1) ((m,n)::acc) lo x3 ?_ c e
      rcases h with h |h
      · rcases zt.mp h with z | z
        · cases z
          refine .inr λd q=>?_;rw[al_List_lookup_cons_self] at q
          have:n=d:=by simpa using q
          lia
        · exact .inl z
      · refine .inr λd q => ?_
        rw[xG] at q
        cases J:x == m with
        | true => rw [J] at q; have : n = d := by simpa using q;
                  lia
        |false=>rw[J] at q;exact h d q
    · rename_i hk
      refine zS5 r n acc lo I ?_ c e
      rcases h with h |h
      · rcases zt.mp h with z | z
        · cases z;exact absurd rfl hk
        · exact .inl z
      · exact .inr h
section
variable {M:Model}{A:Around}{E:QqV}{s:Shared}
theorem Wf{scope:Scope}{env:Env}{J:List (Str × Addr)}{Q:Env->Shared->Prop}
  (h : Q (newEnv scope s.heap.objs.size env.globals (cellsFrom (s.heap.objs.size + 1) scope.names J) env.qual none .none (some env) builtinsNs)
   { s with heap:=pushCells (s.heap.push { cls:=.type "dict",data:=.dict #[] }) scope.names }) :
  wpAny M A (newFunctionEnv scope env.globals J [] env.qual none .none (some env)) Q E s:=by
 simp only[newFunctionEnv,Option.isSome_some,if_true];refine zc (wpAny_alloc ?_);refine zc (wpAny_layCells _ (λname kind cells=>?_) _ _ _ _ ?_)
 ·cases I:kind == NameKind.cell<;>simp[I]
 ·rw[List.forIn_nil];refine zc (zj (zj ?_));have W:({ s with heap:=s.heap.push { cls:=.type "dict",data:=.dict #[] } }:Shared).heap.objs.size=s.heap.objs.size+1:=wL ..;rw[W];exact h
end
noncomputable abbrev VH(ifs:List Expr)(env:Env):Sem Bool:=forIn ifs true λc r=>if r=true then do let ok <- isTrue c env (eval c env);pure (ForInStep.yield ok) else pure (ForInStep.yield r)
section
variable {prog:Program}{w:World}{A:Around}{R:Result->Shared->Prop}{s:Shared}
theorem zu2{elt I W:Expr}{ifs:List Expr}{scope:Scope}{pos:Pos}{it acc:Value}{env:Env}(J:Nat->Shared->Prop)
  (turn : ∀ n s, J n s -> wpAny (model prog w) A (pyNext it) (λr s1 => match r with
   |none=>R (.ok .next) s1
   | some v => wpAny (model prog w) A (letOwnedTupleGo I it v) (λ_ s2 => wpAny (model prog w) A (assign I env v) (λ_ s3 => wpAny (model prog w) A (VH ifs env) (λok Y =>
     if ok=true then wpAny (model prog w) A (eval elt env) (λx s5=>wpAny (model prog w) A (call (.builtin "list.append") [acc,x]) (λ_ s6=>∃m,m<n/\J m s6) (λ_ _=>False) s5) (λ_ _=>False) Y
     else ∃m,m<n/\J m Y) (λ_ _=>False) s3) (λ_ _=>False) s2) (λ_ _=>False) s1) (λ_ _=>False) s)
  (n:Nat) (h:J n s):codeAny (model prog w) A (.compLoop (.ListComp elt [⟨I,W,ifs,0⟩] scope pos) 0 it acc env) R s:=by
 refine codeAny_loop rfl J (λn s hJ=>?_) n h
 show wpAny _ A ((compTurn (.ListComp elt [⟨I,W,ifs,0⟩] scope pos) 0 it acc env).onRaise (λx=>do noteFrame x env;theTreesLotGoes x)) _ _ s
 refine wpAny_noted ?_;rw[compTurn_list]
 have up:∀{α:Type}{t:Sem α}{Q Q':α->Shared->Prop}{E:QqV}{s:Shared},wpAny (model prog w) A t Q (λ_ _=>False) s->(∀a s,Q a s->Q' a s)->wpAny (model prog w) A t Q' E s:=
  λh f=>wv h f λ_ _ z=>False.elim z
 refine zc (ye (zc (up (turn n s hJ) λr s1 h1=>?_)))
 cases r with
 |none=>exact zj h1
 |some v=>
  refine zc (up h1 λ_ s2 h2=>?_);refine zc (up h2 λ_ s3 h3=>?_);refine zc (up h3 λok Y h4=>?_)
  cases ok with
  |false=>exact zj ⟨rfl,h4⟩
  |true=>exact zc (zc (up h4 λx s5 h5=>zc (up h5 λ_ s6 h6=>zj (zj ⟨rfl,h6⟩))))
end
noncomputable def Vz(b:Bool):String:=if b then "list_iterator" else "tuple_iterator"
noncomputable def SeqIs(b:Bool)(h:Heap)(l:Addr)(xs:Array Value):Prop:=match b with |true=>h.IsList l xs |false=>h.IsTuple l xs
noncomputable def IterIs(b:Bool)(h:Heap)(i l:Addr)(k:Nat):Prop:=match b with |true=>h.IsListIter i l k |false=>h.IsTupleIter i l k
theorem SeqIs.at{b:Bool}{h h':Heap}{l:Addr}{xs:Array Value}(x:SeqIs b h l xs)(hk:∀o,h.get? l=some o->h'.get? l=some o):SeqIs b h' l xs:=by
 cases b<;>(obtain⟨o,e,r⟩:=x;exact⟨o,hk o e,r⟩)
theorem IterIs.at{b:Bool}{h h':Heap}{i l:Addr}{k:Nat}(x:IterIs b h i l k)(hk:∀o,h.get? i=some o->h'.get? i=some o):IterIs b h' i l k:=by
 cases b<;>(obtain⟨o,e,r⟩:=x;exact⟨o,hk o e,r⟩)
theorem IterIs.obj{b:Bool}{h:Heap}{i l:Addr}{k:Nat}(x:IterIs b h i l k):∃o,h.get? i=some o/\o.cls=.type (Vz b)/\o.data=.fields #[.ref l,.int k 0]:=by
 cases b<;>exact x
theorem SeqIs.ne{b c:Bool}{h:Heap}{l i m:Addr}{k:Nat}{xs:Array Value}(x:SeqIs b h l xs)(y:IterIs c h i m k):l≠i:=by
 rintro rfl;obtain⟨o,e,I,_⟩:=y.obj
 cases b<;>(obtain⟨o',e',hc',_⟩:=x;rw[e] at e';cases e';rw[I] at hc';cases c<;>exact absurd (Value.type.inj hc') x4)
section
variable {prog:Program}{w:World}{A:Around}{E:QqV}{s:Shared}
theorem Vo{b:Bool}{l:Addr}{xs:Array Value}{Q:QqV}(I:SeqIs b s.heap l xs)
  (J:Q (.ref s.heap.objs.size) { s with heap:=s.heap.push { cls:=.type (Vz b),data:=.fields #[.ref l,.int 0 0] } }):wpAny (model prog w) A (pyIter (.ref l)) Q E s:=by
 cases b with
 |true=>exact yA I J
 |false=>exact wpAny_pyIter_tuple I J
theorem ze8{it l:Addr}{i:Nat}{items:Array Value}{x:Value}{Q:QqV}(I:s.heap.IsTupleIter it l i)(hl:s.heap.IsTuple l items)(hx:items[i]?=some x)
  (hQ:∀h',h'.IsTupleIter it l (i+1)->Heap.SameBut it s.heap h'->Q x { s with heap:=h' }):wpAny (model prog w) A (Builtin.SmallTypes.nextOf (.ref it)) Q E s:=by
 obtain⟨o,J,hc,hd⟩:=id I;obtain⟨ol,W,_,nl,Y⟩:=hl;unfold Builtin.SmallTypes.nextOf;refine zc (wH (name:=Str.ofString "__next__") I.typeIs F.slot_tuple_iterator_next (yg F.slot_tuple_iterator_next I.typeIs F.entry_tuple_iterator_next ?_ (F.args_tuple_iterator_next_1 _)));show wpAny _ A.in1 (field (.ref it) 0 >>= _) _ _ s;refine zc (wx (x:=.ref l) J hd rfl ?_)
 show wpAny _ A.in1 (if (Value.ref l == Value.none)=true then _ else _) _ _ s
 have nn:¬ ((Value.ref l == Value.none)=true):=zF;rw[if_neg nn];show wpAny _ A.in1 (field (.ref it) 1 >>= _) _ _ s;refine zc (wx (x:=.int i 0) J hd rfl ?_);show wpAny _ A.in1 (seqItems? (.ref l) >>= _) _ _ s;refine zc (yk W Y ?_);simp only[hx,Int.toNat_natCast]
 refine zc (wpAny_setField J hd (by simp) (zj ⟨x,rfl,zj (hQ _ ⟨_,Heap.get?_update_self _ J (Obj.isFreed_of_fields (Obj.data_mapFields hd _)),(Obj.cls_mapFields ..).trans hc,?_⟩ (Heap.SameBut.update ..))⟩))
 rw[Obj.data_mapFields hd];simp[rawInt]
theorem WU{it l:Addr}{i:Nat}{items:Array Value}{Q:QqV}(hh:A.handled=none)(I:s.heap.IsTupleIter it l i)(hl:s.heap.IsTuple l items)(hx:items[i]?=none)
  (hE:∀h' e,Heap.ExtBut it s.heap h'->(∃o,h'.get? e=some o/\o.cls=.type "StopIteration")->E (.ref e) { s with heap:=h' }):wpAny (model prog w) A (Builtin.SmallTypes.nextOf (.ref it)) Q E s:=by
 obtain⟨o,W,hc,hd⟩:=id I;obtain⟨ol,J,_,nl,Y⟩:=hl;unfold Builtin.SmallTypes.nextOf;refine zc (wH (name:=Str.ofString "__next__") I.typeIs F.slot_tuple_iterator_next (yg F.slot_tuple_iterator_next I.typeIs F.entry_tuple_iterator_next ?_ (F.args_tuple_iterator_next_1 _)));show wpAny _ A.in1 (field (.ref it) 0 >>= _) _ _ s;refine zc (wx (x:=.ref l) W hd rfl ?_)
 show wpAny _ A.in1 (if (Value.ref l == Value.none)=true then _ else _) _ _ s
 have nn:¬ ((Value.ref l == Value.none)=true):=zF;rw[if_neg nn];show wpAny _ A.in1 (field (.ref it) 1 >>= _) _ _ s;refine zc (wx (x:=.int i 0) W hd rfl ?_);show wpAny _ A.in1 (seqItems? (.ref l) >>= _) _ _ s;refine zc (yk J Y ?_);simp only[hx,Int.toNat_natCast]
 refine zc (wQ (zc (wpAny_setField W hd (by simp) ?_)))
 show wpAny _ A.in1 (newExc (.type "StopIteration") [] >>= _) _ _ _;refine zc ?_;simp only[newExc,newTuple]
 refine zc (wD ?_ (by size_fits))
 refine zc (m:=firstArgMember _ _) (wpAny_of_eq (a:=Value.none) (by simp only[firstArgMember];rfl) ?_)
 refine wD ?_ (by size_fits)
 simp only[raiseNew];refine zc (wpAny_handled ?_);rw[show A.in1.handled=none from hh];refine zc (zj (wpAny_throw ?_));exact hE _ _ (((Heap.SameBut.update ..).extBut.push _).push _) ⟨_,zD _ rfl,rfl⟩
theorem YM{b:Bool}{it l:Addr}{i:Nat}{items:Array Value}{x:Value}{Q:QqV}(I:IterIs b s.heap it l i)(J:SeqIs b s.heap l items)(hx:items[i]?=some x)
  (W:∀h',IterIs b h' it l (i+1)->Heap.SameBut it s.heap h'->Q x { s with heap:=h' }):wpAny (model prog w) A (Builtin.SmallTypes.nextOf (.ref it)) Q E s:=by
 cases b with
 |true=>exact wpAny_nextOf_list_item I J hx W
 |false=>exact ze8 I J hx W
theorem Zu{b:Bool}{it l:Addr}{i:Nat}{items:Array Value}{Q:QqV}(hh:A.handled=none)(I:IterIs b s.heap it l i)(J:SeqIs b s.heap l items)(hx:items[i]?=none)
  (W:∀h' e,Heap.ExtBut it s.heap h'->(∃o,h'.get? e=some o/\o.cls=.type "StopIteration")->E (.ref e) { s with heap:=h' }):wpAny (model prog w) A (Builtin.SmallTypes.nextOf (.ref it)) Q E s:=by
 cases b with
 |true=>exact wpAny_nextOf_list_end hh I J hx W
 |false=>exact WU hh I J hx W
structure ZApart(z ti to i1 i2:Addr):Prop where
 a1:ti≠z
 a2:to≠z
 a3:i1≠z
 a4:i2≠z
 a5:ti≠to
 a6:ti≠i1
 a7:ti≠i2
 a8:to≠i1
 a9:to≠i2
 a10:i1≠i2
structure ZSt(b c:Bool)(z ti to i1 i2 l1 l2:Addr)(k:Nat)(h:Heap):Prop where
 z:IsZip h z ti to .none
 ti:IsPair h ti (.ref i1) (.ref i2)
 to:∃u v,IsPair h to u v
 i1:IterIs b h i1 l1 k
 i2:IterIs c h i2 l2 k
structure ZMid(b c:Bool)(z ti to i1 i2 l1 l2:Addr)(k:Nat)(T:Addr)(h:Heap):Prop where
 z:IsZip h z ti to (rawInt T)
 ti:IsPair h ti (.ref i1) (.ref i2)
 to:∃u v,IsPair h to u v
 i1:IterIs b h i1 l1 (k+1)
 i2:IterIs c h i2 l2 (k+1)
theorem ZSt.apartL{b c d:Bool}{z ti to i1 i2 l1 l2 l:Addr}{k:Nat}{h:Heap}{xs:Array Value}(x:ZSt b c z ti to i1 i2 l1 l2 k h)(I:SeqIs d h l xs)(J:l≠to):l≠z/\l≠i1/\l≠i2:=by
 refine⟨?_,I.ne x.i1,I.ne x.i2⟩;rintro rfl;have e:=x.z
 cases d<;>(obtain⟨o',e',hc',_⟩:=I;rw[e] at e';cases e';exact absurd (Value.type.inj hc') x4)
theorem zw9{b c:Bool}{z ti to i1 i2 l1 l2:Addr}{k:Nat}{xs ys:Array Value}{x y:Value}{Q:QqV}(D:ZApart z ti to i1 i2)(S:ZSt b c z ti to i1 i2 l1 l2 k s.heap)
  (ag:SeqIs b s.heap l1 xs) (af:SeqIs c s.heap l2 ys) (n1:l1≠to) (n2:l2≠to) (hx:xs[k]?=some x) (hy:ys[k]?=some y)
  (hQ:∀h',ZMid b c z ti to i1 i2 l1 l2 k s.heap.objs.size h'->IsPair h' s.heap.objs.size x y->(∀d o,d≠z->d≠to->d≠i1->d≠i2->s.heap.get? d=some o->h'.get? d=some o)->Q (.ref s.heap.objs.size) { s with heap:=h' }) :
  wpAny (model prog w) A (Builtin.«zip.__next__» ⟨[.ref z],[]⟩) (λfin s'=>∃v,fin=.done (.ret v)/\Q v s') E s:=by
 obtain⟨m1,m2,m3⟩:=S.apartL ag n1;obtain⟨m4,m5,m6⟩:=S.apartL af n2;obtain⟨hz,ah,⟨u,v,ai⟩,h1,h2⟩:=S;show wpAny _ A (field (.ref z) 2 >>= _) _ _ _;refine zc (wx (x:=.bool false) hz rfl rfl ?_);show wpAny _ A (field (.ref z) 3 >>= _) _ _ _;refine zc (wx (x:=.ref ti) hz rfl rfl ?_);refine zc (yk ah rfl ?_);show wpAny _ A (Builtin.SmallTypes.ownedTupleIsFree (.ref z) >>= _) _ _ _;refine zc ?_;unfold Builtin.SmallTypes.ownedTupleIsFree;refine zc (wx (x:=.none) hz rfl rfl (zj ?_));simp only[if_true];refine zc (wQ ?_);refine zc (wx (x:=.ref to) hz rfl rfl ?_)
 refine zc (yj hz (by simp) λg1 ae s1=>?_)
 replace ae:IsZip g1 z ti to .ellipsis:=ae
 refine zc ?_;simp only[forIn_cons,forIn_nil,yI,List.zipIdx_nil];refine zc (zc (wpAny_onRaise ?_));show wpAny _ A (Builtin.SmallTypes.nextOf (.ref i1) >>= _) _ _ _;refine zc (YM (h1.at λo e=>s1.extBut _ _ D.a3 e) (ag.at λo e=>s1.extBut _ _ m1 e) hx λg2 k1 s2=>zj ?_);have aa:IsPair g2 to u v:=s2.extBut _ _ D.a8 (s1.extBut _ _ D.a2 ai);refine zc (yk aa rfl ?_);refine zc (wpAny_updateSeq_pair aa λg3 W s3=>?_)
 replace W:IsPair g3 to x v:=W
 refine zc (wpAny_letGo (zj ?_));refine zc (zc (wpAny_onRaise ?_));show wpAny _ A (Builtin.SmallTypes.nextOf (.ref i2) >>= _) _ _ _;refine zc (YM (h2.at λo e=>s3.extBut _ _ D.a9.symm (s2.extBut _ _ D.a10.symm (s1.extBut _ _ D.a4 e))) (af.at λo e=>s3.extBut _ _ n2 (s2.extBut _ _ m5 (s1.extBut _ _ m4 e))) hy λg4 k2 s4=>zj ?_);have Y:IsPair g4 to x v:=s4.extBut _ _ D.a9 W;refine zc (yk Y rfl ?_);refine zc (wpAny_updateSeq_pair Y λJ I s5=>?_)
 replace I:IsPair J to x y:=I
 refine zc (wpAny_letGo (zj (zj ?_)));refine zc (yk I rfl ?_);refine zc (wpAny_newTuple ?_)
 have sz:J.objs.size=s.heap.objs.size:=by rw[s5.1,s4.1,s3.1,s2.1,s1.1]
 have z5:IsZip J z ti to .ellipsis:=s5.extBut _ _ D.a2.symm (s4.extBut _ _ D.a4.symm (s3.extBut _ _ D.a2.symm (s2.extBut _ _ D.a3.symm ae)));have kp:∀d o,d≠z->d≠to->d≠i1->d≠i2->s.heap.get? d=some o->J.get? d=some o:=λd o d1 d2 d3 d4 e=>s5.extBut _ _ d2 (s4.extBut _ _ d4 (s3.extBut _ _ d2 (s2.extBut _ _ d3 (s1.extBut _ _ d1 e))));have j1:IterIs b J i1 l1 (k+1):=k1.at λo e=>s5.extBut _ _ D.a8.symm (s4.extBut _ _ D.a10 (s3.extBut _ _ D.a8.symm e));have j2:IterIs c J i2 l2 (k+1):=k2.at λo e=>s5.extBut _ _ D.a9.symm e;have zl:z<J.objs.size:=zw z5;show wpAny _ A (Builtin.SmallTypes.ownedTupleHandOut (.ref z) (.ref J.objs.size) >>= _) _ _ _;refine zc ?_;unfold Builtin.SmallTypes.ownedTupleHandOut;have z6:IsZip (J.push { cls:=.type "tuple",data:=.seq #[x,y] }) z ti to .ellipsis:=zg _ z5
 refine zc (yj z6 (by simp) λg7 z7 s7=>?_)
 replace z7:IsZip g7 z ti to (rawInt J.objs.size):=z7
 refine yj z7 (by simp) λg8 z8 s8=>?_
 replace z8:IsZip g8 z ti to (rawInt J.objs.size):=z8
 have up:∀d o,d≠z->J.get? d=some o->g8.get? d=some o:=λd o d1 e=>s8.extBut _ _ d1 (s7.extBut _ _ d1 (zg _ e));have T8:IsPair g8 J.objs.size x y:=s8.extBut _ _ (wa zl) (s7.extBut _ _ (wa zl) (zD _ rfl));rw[sz] at z8 T8;refine zj ⟨_,rfl,?_⟩;show Q (.ref J.objs.size) _;rw[sz];exact hQ g8 ⟨z8,up _ _ D.a1 (kp _ _ D.a1 D.a5 D.a6 D.a7 ah),⟨_,_,up _ _ D.a2 I⟩,j1.at λo e=>up _ o D.a3 e,j2.at λo e=>up _ o D.a4 e⟩ T8 λd o d1 d2 d3 d4 e=>up d o d1 (kp d o d1 d2 d3 d4 e)
theorem zw8{b c:Bool}{z ti to i1 i2 l1 l2:Addr}{k:Nat}{xs ys:Array Value}{Q:Fin->Shared->Prop}(hh:A.handled=none)(D:ZApart z ti to i1 i2)(S:ZSt b c z ti to i1 i2 l1 l2 k s.heap)
  (ag:SeqIs b s.heap l1 xs) (af:SeqIs c s.heap l2 ys) (n1:l1≠to) (n2:l2≠to) (ah:xs[k]?=none\/ys[k]?=none)
  (hE:∀h' e,(∀d o,d≠z->d≠to->d≠i1->d≠i2->s.heap.get? d=some o->h'.get? d=some o)->(∃o,h'.get? e=some o/\o.cls=.type "StopIteration")->E (.ref e) { s with heap:=h' }) :
  wpAny (model prog w) A (Builtin.«zip.__next__» ⟨[.ref z],[]⟩) Q E s:=by
 obtain⟨m1,m2,m3⟩:=S.apartL ag n1;obtain⟨m4,m5,m6⟩:=S.apartL af n2;obtain⟨hz,aj,⟨u,v,ai⟩,h1,h2⟩:=S;show wpAny _ A (field (.ref z) 2 >>= _) _ _ _;refine zc (wx (x:=.bool false) hz rfl rfl ?_);show wpAny _ A (field (.ref z) 3 >>= _) _ _ _;refine zc (wx (x:=.ref ti) hz rfl rfl ?_);refine zc (yk aj rfl ?_);show wpAny _ A (Builtin.SmallTypes.ownedTupleIsFree (.ref z) >>= _) _ _ _;refine zc ?_;unfold Builtin.SmallTypes.ownedTupleIsFree;refine zc (wx (x:=.none) hz rfl rfl (zj ?_));simp only[if_true];refine zc (wQ ?_);refine zc (wx (x:=.ref to) hz rfl rfl ?_)
 refine zc (yj hz (by simp) λg1 W s1=>?_)
 replace W:IsZip g1 z ti to .ellipsis:=W
 refine zc ?_;simp only[forIn_cons,forIn_nil,yI,List.zipIdx_nil];refine zc (zc (wpAny_onRaise ?_));show wpAny _ A (Builtin.SmallTypes.nextOf (.ref i1) >>= _) _ _ _;have q1:IterIs b g1 i1 l1 k:=h1.at λo e=>s1.extBut _ _ D.a3 e;have q2:SeqIs b g1 l1 xs:=ag.at λo e=>s1.extBut _ _ m1 e
 cases hx:xs[k]? with
 |none=>
  refine zc (Zu hh q1 q2 hx λg2 e Y he=>?_);obtain⟨oe,I,J⟩:=he;have z2:IsZip g2 z ti to .ellipsis:=Y _ _ D.a3.symm W
  have ae:e≠z:=λq=>by subst q;rw[z2] at I;cases I;exact absurd (Value.type.inj J) x4
  exact yj z2 (by simp) λg3 _ s3=>hE g3 e (λd o d1 _ d3 _ q=>s3.extBut _ _ d1 (Y _ _ d3 (s1.extBut _ _ d1 q))) ⟨oe,s3.extBut _ _ ae I,J⟩
 | some x =>
  have hy:ys[k]?=none:=by
   rcases ah with h |h
   ·rw[hx] at h;cases h
   ·exact h
  refine zc (YM q1 q2 hx λg2 k1 Y=>zj ?_);have aa:IsPair g2 to u v:=Y.extBut _ _ D.a8 (s1.extBut _ _ D.a2 ai);refine zc (yk aa rfl ?_);refine zc (wpAny_updateSeq_pair aa λg3 ak s3=>?_);refine zc (wpAny_letGo (zj ?_));refine zc (zc (wpAny_onRaise ?_));show wpAny _ A (Builtin.SmallTypes.nextOf (.ref i2) >>= _) _ _ _;refine zc (Zu hh (h2.at λo e=>s3.extBut _ _ D.a9.symm (Y.extBut _ _ D.a10.symm (s1.extBut _ _ D.a4 e))) (af.at λo e=>s3.extBut _ _ n2 (Y.extBut _ _ m5 (s1.extBut _ _ m4 e))) hy λg4 e s4 he=>?_);obtain⟨oe,I,J⟩:=he;have z4:IsZip g4 z ti to .ellipsis:=s4 _ _ D.a4.symm (s3.extBut _ _ D.a2.symm (Y.extBut _ _ D.a3.symm W))
  have ae:e≠z:=λq=>by subst q;rw[z4] at I;cases I;exact absurd (Value.type.inj J) x4
  exact yj z4 (by simp) λg5 _ s5=>hE g5 e (λd o d1 d2 d3 d4 q=>s5.extBut _ _ d1 (s4 _ _ d4 (s3.extBut _ _ d2 (Y.extBut _ _ d3 (s1.extBut _ _ d1 q))))) ⟨oe,s5.extBut _ _ ae I,J⟩
theorem zC1{b c:Bool}{z ti to i1 i2 l1 l2:Addr}{k:Nat}{xs ys:Array Value}{x y:Value}{Q:Option Value->Shared->Prop}(D:ZApart z ti to i1 i2)(S:ZSt b c z ti to i1 i2 l1 l2 k s.heap)
  (J:SeqIs b s.heap l1 xs) (I:SeqIs c s.heap l2 ys) (n1:l1≠to) (Y:l2≠to) (hx:xs[k]?=some x) (hy:ys[k]?=some y)
  (hQ:∀h',ZMid b c z ti to i1 i2 l1 l2 k s.heap.objs.size h'->IsPair h' s.heap.objs.size x y->(∀d o,d≠z->d≠to->d≠i1->d≠i2->s.heap.get? d=some o->h'.get? d=some o)->Q (some (.ref s.heap.objs.size)) { s with heap:=h' }) :
  wpAny (model prog w) A (pyNext (.ref z)) Q E s:=by
 have W:s.TypeIs (.ref z) "zip" := ⟨_,S.z,rfl⟩;unfold pyNext
 exact zc (wpAny_attempt (wH (name:=Str.ofString "__next__") W F.slot_zip_next (yg F.slot_zip_next W F.entry_zip_next
  (zw9 D S J I n1 Y hx hy λh' a1 a2 a3=>zj (hQ h' a1 a2 a3)) (F.args_zip_next_1 _))))
theorem KR{b c:Bool}{z ti to i1 i2 l1 l2:Addr}{k:Nat}{xs ys:Array Value}{Q:Option Value->Shared->Prop}(hh:A.handled=none)(D:ZApart z ti to i1 i2)(S:ZSt b c z ti to i1 i2 l1 l2 k s.heap)
  (W:SeqIs b s.heap l1 xs) (J:SeqIs c s.heap l2 ys) (n1:l1≠to) (n2:l2≠to) (I:xs[k]?=none\/ys[k]?=none)
  (hQ:∀h',(∀d o,d≠z->d≠to->d≠i1->d≠i2->s.heap.get? d=some o->h'.get? d=some o)->Q none { s with heap:=h' }):wpAny (model prog w) A (pyNext (.ref z)) Q E s:=by
 have Y:s.TypeIs (.ref z) "zip" := ⟨_,S.z,rfl⟩;unfold pyNext
 refine zc (wpAny_attempt (wH (name:=Str.ofString "__next__") Y F.slot_zip_next (yg F.slot_zip_next Y F.entry_zip_next
  (zw8 hh D S W J n1 n2 I λh' e hk he=>?_) (F.args_zip_next_1 _))))
 obtain⟨o,ho,hc⟩:=he;refine zc (wpAny_isInstance (T := "StopIteration") (b:=true) ⟨o,ho,hc⟩ isSubtype_stop (zj (hQ _ hk)))
noncomputable def zh1(h:Heap)(b:Bool)(l:Addr):Heap:=h.push { cls:=.type (Vz b),data:=.fields #[.ref l,.int 0 0] }
noncomputable def zh3(h:Heap)(b c:Bool)(l1 l2:Addr):Heap:=(zh1 (zh1 h b l1) c l2).push { cls:=.type "tuple",data:=.seq #[.ref h.objs.size,.ref (zh1 h b l1).objs.size] }
noncomputable def zh4(h:Heap)(b c:Bool)(l1 l2:Addr):Heap:=(zh3 h b c l1 l2).push { cls:=.type "tuple",data:=.seq #[.none,.none] }
noncomputable def zh5(h:Heap)(b c:Bool)(l1 l2:Addr):Heap:=(zh4 h b c l1 l2).push { cls:=.type "zip",data:=.fields #[.none,.bool false,.bool false,.ref (zh1 (zh1 h b l1) c l2).objs.size,.ref (zh3 h b c l1 l2).objs.size] }
end
theorem zp1(b c:Bool)(l1 l2:Addr)(xs ys:Array Value) :
  Meets (Builtin.«zip.__new__» ⟨[.type "zip",.ref l1,.ref l2],[]⟩) (λ_ R s=>SeqIs b s.heap l1 xs/\SeqIs c s.heap l2 ys /\
   R (.ok (.ret (.ref (zh4 s.heap b c l1 l2).objs.size))) { s with heap:=zh5 s.heap b c l1 l2 }):=
 .of_wp λprog w A R s h=>by
  obtain⟨hp,g,d,W,os⟩:=s;obtain⟨J,I,h⟩:=h;have Y:=sub_zip;have q1:SeqIs b (Shared.heap ⟨hp,g,d,W,os⟩) l1 xs:=J;have q2:SeqIs c (Shared.heap ⟨hp.push { cls:=.type (Vz b),data:=.fields #[.ref l1,.int 0 0] },g,d,W,os⟩) l2 ys:=I.at λo e=>zg _ e
  wp_walk using Vo q1,Vo q2
  exact⟨_,rfl,h⟩
section
variable {prog:Program}{w:World}{A:Around}{E:QqV}{s:Shared}
theorem zF0{b c:Bool}{l1 l2:Addr}{xs ys:Array Value}{Q:QqV}(ae:SeqIs b s.heap l1 xs)(aa:SeqIs c s.heap l2 ys)
  (h:∀h' z ti to i1 i2,ZApart z ti to i1 i2->ZSt b c z ti to i1 i2 l1 l2 0 h'->(∀d∈[z,ti,to,i1,i2],s.heap.objs.size<=d)->(∀d o,s.heap.get? d=some o->h'.get? d=some o)->Q (.ref z) { s with heap:=h' }) :
  wpAny (model prog w) A (call (.type "zip") [.ref l1,.ref l2]) Q E s:=by
 refine callType_new F.called_zip x4 (F.typeCall_zip_2 _ _) (F.newCall_zip_2 _ _) (λobj=>F.args_object_init_3 obj _ _) F.entry_zip_new (zp1 b c l1 l2 xs ys) ⟨ae,aa,?_⟩
 unfold zh5 zh4 zh3;generalize h1:zh1 s.heap b l1=I;generalize h2:zh1 I c l2=W
 have z1:I.objs.size=s.heap.objs.size+1:=by rw[<- h1];exact wL ..
 have z2:W.objs.size=s.heap.objs.size+2:=by rw[<- h2];exact(wL ..).trans (by rw[z1])
 generalize h3:W.push { cls:=.type "tuple",data:=.seq #[.ref s.heap.objs.size,.ref I.objs.size] }=J
 have z3:J.objs.size=s.heap.objs.size+3:=by rw[<- h3,wL,z2]
 generalize h4:J.push { cls:=.type "tuple",data:=.seq #[.none,.none] }=g4
 have z4:g4.objs.size=s.heap.objs.size+4:=by rw[<- h4,wL,z3]
 have e1:I.get? s.heap.objs.size=some { cls:=.type (Vz b),data:=.fields #[.ref l1,.int 0 0] }:=by rw[<- h1];exact zD _ rfl
 have e2:W.get? I.objs.size=some { cls:=.type (Vz c),data:=.fields #[.ref l2,.int 0 0] }:=by rw[<- h2];exact zD _ rfl
 have e3:J.get? W.objs.size=some { cls:=.type "tuple",data:=.seq #[.ref s.heap.objs.size,.ref I.objs.size] }:=by rw[<- h3];exact zD _ rfl
 have e4:g4.get? J.objs.size=some { cls:=.type "tuple",data:=.seq #[.none,.none] }:=by rw[<- h4];exact zD _ rfl
 have k1:∀d o,s.heap.get? d=some o->I.get? d=some o:=λd o e=>by rw[<- h1];exact zg _ e
 have k2:∀d o,I.get? d=some o->W.get? d=some o:=λd o e=>by rw[<- h2];exact zg _ e
 have k3:∀d o,W.get? d=some o->J.get? d=some o:=λd o e=>by rw[<- h3];exact zg _ e
 have Y:∀d o,J.get? d=some o->g4.get? d=some o:=λd o e=>by rw[<- h4];exact zg _ e
 show _/\_;refine⟨⟨_,zD _ rfl,rfl⟩,?_⟩;refine h _ g4.objs.size W.objs.size J.objs.size s.heap.objs.size I.objs.size ⟨?_,?_,?_,?_,?_,?_,?_,?_,?_,?_⟩ ⟨zD _ rfl,zg _ (Y _ _ e3),⟨_,_,zg _ e4⟩,?_,?_⟩ (λd hd=>?_) λd o e=>zg _ (Y _ _ (k3 _ _ (k2 _ _ (k1 _ _ e))))
 ·rw[z2,z4];first |exact zJ x3 |exact wa x3
 ·rw[z3,z4];first |exact zJ x3 |exact wa x3
 ·rw[z4];first |exact zJ x3 |exact wa x3
 ·rw[z1,z4];first |exact zJ x3 |exact wa x3
 ·rw[z2,z3];first |exact zJ x3 |exact wa x3
 ·rw[z2];first |exact zJ x3 |exact wa x3
 ·rw[z2,z1];first |exact zJ x3 |exact wa x3
 ·rw[z3];first |exact zJ x3 |exact wa x3
 ·rw[z3,z1];first |exact zJ x3 |exact wa x3
 ·rw[z1];first |exact zJ x3 |exact wa x3
 ·cases b<;>exact⟨_,zg _ (Y _ _ (k3 _ _ (k2 _ _ e1))),rfl,rfl⟩
 ·cases c<;>exact⟨_,zg _ (Y _ _ (k3 _ _ e2)),rfl,rfl⟩
 ·simp only [zt, zW, or_false] at hd
  rcases hd with rfl |rfl |rfl |rfl |rfl
  ·rw[z4];lia
  ·rw[z2];lia
  ·rw[z3];lia
  ·exact zi _
  ·rw[z1];lia
end
end L2
namespace L2
theorem Inv.track{X:Cx}{J:QqL}{σ:St}{H:Hp}{s:Shared}{a:Addr}{o:HO}(I:Inv X J σ H s)(hn:H a=none)(hz:X.s₀.heap.objs.size<=a)(hL:a≠X.env.locals)
  (hc:∀x c,X.env.cells.lookup x=some c->c≠a) (hp:∀p∈X.pn++J,p.1≠a) (Y:ObjOk X.prog X.w (upd H a o) s.heap a o):Inv X J σ (upd H a o) s:=by
 have W:∀b u,H b=some u->b≠a:=λb u e=>yz e hn;refine⟨I.ok,I.os,I.bare,⟨I.base.keep,I.base.slot,λb u e n hx=>?_,I.base.there,λb xs e=>?_,λb u xs e=>?_,λb ps e=>?_⟩,I.loc,I.cell,?_,λx c e=>?_,λp hq=>?_,λb u e=>?_,I.len⟩
 ·rw[wE (zJ (zT (zw e) hz))];exact I.base.free b u e n hx
 ·have q:=I.base.tups b xs e;rw[wE (W b _ q)];exact q
 ·have q:=I.base.frzs b u xs e;rw[wE (W b _ q)];exact q
 ·obtain⟨m,q⟩:=I.base.tbls b ps e;exact⟨m,by rw[wE (W b _ q)];exact q⟩
 ·rw[wE (Ne.symm hL)];exact I.free
 ·rw[wE (hc x c e)];exact I.freeC x c e
 ·obtain ⟨q1, q2, q3⟩ := I.pin p hq
  exact⟨q1,by rw[wE (hp p hq)];exact q2,q3⟩
 ·by_cases hb : b = a
  ·subst hb;rw[yK] at e;cases e;exact Y
  ·rw [wE hb] at e
   exact(I.hok b u e).stay (λ_ _ _ q=>q) (λc q=>by rw[wE (W c _ q)];exact q) (λc xs q=>by rw[wE (W c _ q)];exact q) λc o u q=>by rw[wE (W c _ q)];exact q
structure CompOk(X:Cx)(scope:Scope)(M:List Str):Prop where
 kind:scope.kind=.function
 uniq:∀y∈scope.names,scope.names.lookup y.1=some y.2
 frees:∀y∈scope.names,y.2=.free->(X.env.kindOf y.1=some .cell\/X.env.kindOf y.1=some .free)
 shadow:∀x∈M,scope.names.lookup x≠some .local/\scope.names.lookup x≠some .cell
 same:∀(i:Nat) (x:Str),M[i]?=some x->scope.names.lookup x=some .free->X.N[i]?=some x
 mlen:M.length=X.N.length
noncomputable def zu4(N M:List Str)(J I:Scope):Bool:=
 (I.kind == .function && I.names.all (λy => I.names.lookup y.1 == some y.2 && (y.2 != .free || (J.names.lookup y.1 == some .cell || J.names.lookup y.1 == some .free))) &&
  M.all (λx=>I.names.lookup x != some .local&&I.names.lookup x != some .cell))&&(M.length == N.length&&(M.zip N).all (λp=>I.names.lookup p.1 != some .free||p.1 == p.2))
theorem vS{X:Cx}{W:Scope}{M:List Str}(h:zu4 X.N M X.env.scope W=true):CompOk X W M:=by
 unfold zu4 at h;rw[zE,zE,zE,zE,xz,xz,xz] at h;obtain⟨⟨⟨h1,h2⟩,h3⟩,h4,h5⟩:=h
 have hl:M.length=X.N.length:=by simpa using h4
 refine⟨by simpa using h1,λy hy=>?_,λy hy J=>?_,λx hx=>?_,λi x hi J=>?_,hl⟩
 ·have := h2 y hy;rw[zE] at this
  simpa using this.1
 ·have := h2 y hy;rw[zE] at this;have q:=this.2;rw[J] at q
  have q':(X.env.scope.names.lookup y.1 == some .cell||X.env.scope.names.lookup y.1 == some .free)=true:=by simpa using q
  rw[yW] at q'
  exact q'.imp (λz=>(show X.env.scope.names.lookup y.1=some .cell by simpa using z)) λz=>(show X.env.scope.names.lookup y.1=some .free by simpa using z)
 ·have := h3 x hx;rw[zE] at this
  exact⟨by simpa using this.1,by simpa using this.2⟩
 ·have I : i < X.N.length := by rw [<- hl]; exact (zu.mp hi).1
  have Y:X.N[i]?=some X.N[i]:=ze I
  have hz:(M.zip X.N)[i]?=some (x,X.N[i]):=by rw[List.getElem?_zip_eq_some];exact⟨hi,Y⟩
  have:=h5 _ (xk hz);rw[yW] at this
  rcases this with z |z
  ·rw[J] at z;simp at z
  ·have e : x = X.N[i] := by simpa using z
   rw[Y,<- e]
noncomputable def Zc(X:Cx)(scope:Scope)(C:Addr):List (Str × Addr):=cellsFrom (C+1) scope.names (jA X.env scope.names [])
noncomputable def yf(X:Cx)(scope:Scope)(own M:List Str)(C:Addr)(I:Shared)(W:Hp)(J:List Addr):Cx where
 prog:=X.prog
 w:=X.w
 K:=X.K
 mg:=X.mg
 base:=X.base
 A:=X.A
 N:=own++M
 s₀:=I
 H₀:=W
 env:=compEnvC scope (Zc X scope C) C X.env
 outer:=X.stack
 stack:=X.stack
 ex:=J
 fn:=λx=>scope.names.lookup x == some .cell
 calm:=X.calm
 pn:=[]
 xe:=λ_ _=>False
noncomputable def PTs(X:Cx)(ifs:List Expr)(t:TT):Prop:=
 ∀(I:QqL) (s:Shared) (σ:St) (H:Hp) (Q:Bool->Hp->Prop),Inv X I σ H s->t σ H Q->wpAny (model X.prog X.w) X.A (VH ifs X.env) (TP X I σ Q) X.xe s
noncomputable def xH3:TT:=λ_ H Q=>Q true H
theorem zM6{X:Cx}:PTs X [] xH3:=λ_ _ _ H _ I h=>zj ⟨H,I,h⟩
theorem zM5{X:Cx}{c:Expr}{t:TT}(W:PT X c t):PTs X [c] t:=by
 intro J s σ H Q I h;show wpAny _ _ (forIn [c] true _) _ _ s;simp only[forIn_cons,forIn_nil,if_true];exact zc (zc (thn (W J s σ H Q I h) λb s' Y=>zj (zj Y)))
noncomputable def zx4(wi:TI)(own:Nat)(g:TG)(tt:TT)(te:TE):TE:=λσ H Q=>wi σ H λJ H1=>∃W:Nat->Nat->List V->Hp->Prop,(∃m,W 0 m [] H1)/\∀i m acc H,W i m acc H ->
 (J.stop i H/\acc.length<=sizeLine/\∀D,H D=none->Q (.ref D) (upd H D (.lst acc))) \/
 (J.go i H /\ acc.length < sizeLine /\ ∀ x H', J.yld i H x H' -> g x (List.replicate own none ++ σ) H' λI H2 => I.drop own = σ /\ tt I H2 λc Y =>
  if c=true then te I Y λv H4=>∃m',m'<m/\W (i+1) m' (acc++[v]) H4 else ∃m',m'<m/\W (i+1) m' acc Y)
section
variable {X:Cx}{scope:Scope}{own M:List Str}{pins:QqL}{σ:St}{H2:Hp}{s2:Shared}{fp:List Addr}
theorem CompOk.cells(ok:CompOk X scope M)(I:Inv X pins σ H2 s2):∀y∈scope.names,y.2=.free->∃c,X.env.cells.lookup y.1=some c:=λy hy J=>I.ok.has y.1 (ok.frees y hy J)
theorem CompOk.kindIn(ok:CompOk X scope M){x:Str}{C:Addr}{k:NameKind}(h:(compEnvC scope (Zc X scope C) C X.env).kindOf x=some k) :
  scope.names.lookup x=some k\/(k=.cell/\scope.names.lookup x=some .free):=by
 have h':(relabel scope X.env).names.lookup x=some k:=h;unfold relabel at h';rw[YX] at h'
 cases e:scope.names.lookup x with
 |none=>rw[e] at h';simp at h'
 | some j =>
  rw[e,Option.map_some] at h';have h2:=zB h'
  split at h2
  ·rename_i I
   have:j=.free:=by
    rw[zE,zE] at I
    simpa using I.1.1
   exact .inr ⟨h2.symm,by rw[this]⟩
  ·exact .inl (by rw[h2])
theorem CompOk.cellsFrom_old(ok:CompOk X scope M)(I:Inv X pins σ H2 s2){C:Addr}{x:Str}{c:Addr}(h:(Zc X scope C).lookup x=some c)(hx:scope.names.lookup x≠some .cell):X.env.cells.lookup x=some c:=by
 have e0:∀(l:List (Str × NameKind)) (n:Nat) (acc:List (Str × Addr)),(x,NameKind.cell) ∉ l->(cellsFrom n l acc).lookup x=acc.lookup x:=by
  intro l
  induction l with
  |nil=>intro n acc _;rfl
  | cons y r J =>
   intro n acc hy;obtain⟨m,k⟩:=y;unfold cellsFrom
   split
   ·rename_i hk
    have hk':k=.cell:=by simpa using hk
    rw[J _ _ λz=>hy (zG _ z),xG]
    have:(x == m)=false:=by
     cases W:x == m with
     |false=>rfl
     |true=>
      have e:x=m:=by simpa using W
      exact absurd (by rw[hk',e];exact xo) hy
    rw[this]
   ·exact J _ _ λz=>hy (zG _ z)
 unfold Zc at h;rw[e0 _ _ _ λhm=>hx (ok.uniq _ hm)] at h
 exact qm scope.names [] (ok.cells I) (λ_ _ z=>by simp at z) x c h
theorem za9(ok:CompOk X scope M)(hc:X.calm=true)(I:Inv X pins σ H2 s2)(hf:∀b∈fp,FpOk X pins H2 b/\b<s2.heap.objs.size){C:Addr}(Y:C=s2.heap.objs.size+1){h4:Heap}
  (hh:h4=pushCells ((s2.heap.push { cls:=.type "list",dict:=none,data:=.seq ([]:QqW).toArray }).push { cls:=.type "dict",data:=.dict #[] }) scope.names) :
  Inv (yf X scope own M C s2 H2 fp) [] (replicate own.length none++σ) H2 { s2 with heap:=h4 }:=by
 have zC:(s2.heap.push { cls:=.type "list",dict:=none,data:=.seq ([]:QqW).toArray }).objs.size=C:=by rw[wL,Y]
 have ae:((s2.heap.push { cls:=.type "list",dict:=none,data:=.seq ([]:QqW).toArray }).push { cls:=.type "dict",data:=.dict #[] }).objs.size=C+1:=by rw[wL,zC]
 have keep:∀b o,s2.heap.get? b=some o->h4.get? b=some o:=λb o e=>by
  rw[hh];exact pushCells_keeps _ _ _ _ (zg _ (zg _ e))
 have cellOld:∀x c,X.env.cells.lookup x=some c->c<s2.heap.objs.size:=λx c e=>by obtain⟨v,q⟩:=I.cell x c e;exact q.lt
 have J:∀x c,(Zc X scope C).lookup x=some c->(h4.IsCell c none/\C+1<=c/\scope.names.lookup x=some .cell)\/X.env.cells.lookup x=some c:=λx c e=>by
  by_cases hx:scope.names.lookup x=some .cell
  ·have e' := e;unfold Zc at e';rw[<- ae] at e'
   rcases zu8 _ _ _ x c e' with ⟨a,b,d⟩ |q
   ·exact .inl ⟨by rw[hh];exact a,by rw[ae] at b;exact b,hx⟩
   ·exact .inr (qm scope.names [] (ok.cells I) (λ_ _ z=>by simp at z) x c q)
  ·exact .inr (ok.cellsFrom_old I e hx)
 have aj:∃m,h4.Ns C m:=by
  have q:((s2.heap.push { cls:=.type "list",dict:=none,data:=.seq ([]:QqW).toArray }).push { cls:=.type "dict",data:=.dict #[] }).Ns C (λ_=>none):=by
   have:=Heap.Ns.new (s2.heap.push { cls:=.type "list",dict:=none,data:=.seq ([]:QqW).toArray }) (.type "dict");rw[zC] at this;exact this
  exact⟨_,q.keeps λb o e=>by rw[hh];exact pushCells_keeps _ _ _ _ e⟩
 have ah:∀b∈fp,b ∉ frs X.stack:=λb hb hx=>by
  obtain⟨⟨_,f1,f2,_⟩,_⟩:=hf b hb
  rcases zt.mp (I.stkSub b hx) with e |e
  ·exact f1 e
  ·exact f2 e
 obtain⟨mC,ai⟩:=aj
 refine⟨⟨I.ok.mod,ok.kind,I.ok.glob,I.ok.blt,?_,?_,?_,?_,I.ok.hd,I.ok.frames,.inl rfl,?_,I.bs,?_,?_,ah,I.stack,I.stkFree⟩,rfl,I.bare,Un.kept keep,⟨mC,ai,?_⟩,?_,I.hok.fresh (by show s2.heap.objs.size<=C;rw[Y];exact wo _),?_,λp hp=>absurd (show p∈([]:QqL) from hp) (by simp),I.hok.kept keep,?_⟩
 ·show s2.heap.objs.size<=C;rw[Y];exact wo _
 ·intro x y c h1 h2;refine zu6 scope.names (C+1) (jA X.env scope.names []) (λa b d p q=>?_) (λa d p=>?_) x y c h1 h2
  ·exact I.ok.inj a b d (qm scope.names [] (ok.cells I) (λ_ _ z=>by simp at z) a d p) (qm scope.names [] (ok.cells I) (λ_ _ z=>by simp at z) b d q)
  ·have := cellOld a d (qm scope.names [] (ok.cells I) (λ_ _ z => by simp at z) a d p)
   rw[Y];exact wM (wM this)
 ·intro x hx
  have go:∀k,(k=NameKind.cell\/k=NameKind.free)->(compEnvC scope (Zc X scope C) C X.env).kindOf x=some k->∃c,(Zc X scope C).lookup x=some c:=λk hk e=>by
   rcases ok.kindIn e with e |⟨_,e⟩
   ·rcases hk with rfl | rfl
    ·exact zu7 _ _ _ (PySem.mem_of_lookup e)
    ·exact YU _ _ _ (Zb (y:=(x,.free)) rfl _ _ (PySem.mem_of_lookup e))
   ·exact YU _ _ _ (Zb (y:=(x,.free)) rfl _ _ (PySem.mem_of_lookup e))
  rcases hx with e |e
  ·exact go _ (.inl rfl) e
  ·exact go _ (.inr rfl) e
 ·intro x c hx h
  have hx':scope.names.lookup x=some .cell:=by simpa [yf] using hx
  have:=zS5 (x:=x) scope.names (C+1) (jA X.env scope.names []) (C+1) (zi _) (.inl (PySem.mem_of_lookup hx')) c h;show s2.heap.objs.size<=c
  exact zy (by rw[Y];exact zy (wo _) (wo _)) this
 ·intro b hb;obtain⟨⟨_,_,_,_,f4,_⟩,f6⟩:=hf b hb;refine⟨?_,λx c h=>?_⟩
  ·show b≠C;rw[Y];exact zJ (wM f6)
  ·rcases J x c h with ⟨_, q, _⟩ | q
   ·rw[Y] at q;exact wa (zT f6 (zy (zy (wo _) (wo _)) q))
   ·exact f4 x c q
 ·exact zy I.ok.bsz I.sz
 ·intro b o e hb;obtain⟨⟨_,_,_,f3,_⟩,_⟩:=hf b hb
  rcases f3 with z |z
  ·exact I.ok.noex b o e z
  ·exact absurd (zT (zw (I.ok.bs b o e).1) z) (xW _)
 ·intro i x v h1 h2 h3;have h2':(replicate own.length (none:Option V)++σ)[i]?=some (some v):=h2
  have hi:own.length<=i:=by
   apply Nat.le_of_not_lt;intro af
   rw[xE (by simpa using af),xv] at h2'
   rw[if_pos af] at h2';cases h2'
  rw[xt (by simpa using hi),wm] at h2'
  have h1':(own++M)[i]?=some x:=h1;rw[xt hi] at h1';obtain⟨n1,n2⟩:=ok.shadow x (xk h1')
  have aa:scope.names.lookup x=some .free/\((compEnvC scope (Zc X scope C) C X.env).kindOf x=some .cell\/(compEnvC scope (Zc X scope C) C X.env).kindOf x=some .free):=by
   rcases h3 with e |e |e
   ·rcases ok.kindIn (x := x) (C := C) e with q | ⟨q, _⟩
    ·exact absurd q n1
    ·cases q
   ·rcases ok.kindIn (x := x) (C := C) e with q | ⟨_, q⟩
    ·exact absurd q n2
    ·exact⟨q,.inl e⟩
   ·rcases ok.kindIn (x := x) (C := C) e with q | ⟨q, _⟩
    ·exact⟨q,.inr e⟩
    ·cases q
  obtain⟨W,hk⟩:=aa;obtain⟨m,hn,hl⟩:=I.loc;have ag:=ok.frees (x,.free) (PySem.mem_of_lookup W) rfl;have h1':=ok.same _ _ h1' W;obtain⟨u,ru,lk⟩:=hl (i-own.length) x v h1' h2' (ag.elim (λz=>.inr (.inl z)) λz=>.inr (.inr z));refine⟨u,ru,.inr ⟨hk,?_⟩⟩
  rcases lk with ⟨k,_⟩ |⟨_,c,ec,ic⟩
  ·rcases ag with z |z<;>(rw[k] at z;cases z)
  ·obtain ⟨c', e'⟩ : ∃ c', (Zc X scope C).lookup x = some c' := YU _ _ _ (Zb (y := (x, .free)) rfl _ _ (PySem.mem_of_lookup W));refine⟨c',e',?_⟩
   have:=ok.cellsFrom_old I e' (by rw[W];simp)
   have e2:some c=some c':=ec.symm.trans this;cases e2;exact ic.keeps keep
 ·intro x c h
  rcases J x c h with ⟨q,_⟩ |q
  ·exact⟨_,q⟩
  ·obtain⟨v,z⟩:=I.cell x c q;exact⟨v,z.keeps keep⟩
 ·intro x c h
  rcases J x c h with ⟨q,q2,_⟩ |q
  ·exact I.hok.fresh (by rw[Y] at q2;exact zy (zy (wo _) (wo _)) q2)
  ·exact I.freeC x c q
 ·show(List.replicate own.length (none:Option V)++σ).length=(own++M).length;rw[zr,zr,wm,I.len,ok.mlen]
end
section
variable {X:Cx}{scope:Scope}{own M:List Str}{pins:QqL}{σ:St}{H2:Hp}{s2:Shared}{tg iter elt:Expr}{ifs:List Expr}{pos:Pos}{g:TG}{tt:TT}{te:TE}
theorem Jo(ok:CompOk X scope M)(hc:X.calm=true)(hg:∀C s2 H2 fp,PG (yf X scope own M C s2 H2 fp) tg g)(ht:∀C s2 H2 fp,PTs (yf X scope own M C s2 H2 fp) ifs tt)(he:∀C s2 H2 fp,PE (yf X scope own M C s2 H2 fp) elt te)
  (I2:Inv X pins σ H2 s2) {it:Addr}{fp:List Addr}{tn:Nat->Heap->Prop}{J:It} (T:Turn X.prog X.w X.K tg J fp it tn) (ax:tn 0 s2.heap) (f2:∀b∈fp,FpOk X pins H2 b)
  {W:Nat->Nat->List V->Hp->Prop} (w0:∃m,W 0 m [] H2) {Qf:V->Hp->Prop}
  (turn : ∀ i m acc H, W i m acc H -> (J.stop i H /\ acc.length <= sizeLine /\ ∀ D, H D = none -> Qf (.ref D) (upd H D (.lst acc))) \/
   (J.go i H /\ acc.length < sizeLine /\ ∀ x H', J.yld i H x H' -> g x (List.replicate own.length none ++ σ) H' λσ2 H2 => σ2.drop own.length = σ /\ tt σ2 H2 λc H3 =>
    if c=true then te σ2 H3 λv H4=>∃m',m'<m/\W (i+1) m' (acc++[v]) H4 else ∃m',m'<m/\W (i+1) m' acc H3))
  {RR:Value->Addr->Result->Shared->Prop}{E:QqV}
  (fin:∀D C H' s' m,Inv X pins σ H' s'->Qf (.ref D) H'->s'.heap.Ns C m->H' C=none->C≠X.env.locals->X.s₀.heap.objs.size<=C->(∀x c,X.env.cells.lookup x=some c->c≠C)->(∀p∈X.pn++pins,p.1≠C)->RR (.ref D) C (.ok .next) s') :
  wpAny (model X.prog X.w) X.A (newList []) (λacc s3=>wpAny (model X.prog X.w) X.A (newFunctionEnv scope X.env.globals (jA X.env scope.names []) [] X.env.qual none .none (some X.env)) (λai s4=>
   codeAny (model X.prog X.w) X.A (.compStart (.ListComp elt [⟨tg,iter,ifs,0⟩] scope pos) 0 (.ref it) acc { ai with scope:=relabel scope X.env }) (RR acc ai.locals) s4) E s3) E s2:=by
 refine wD (Wf ?_);have zC:(s2.heap.push { cls:=.type "list",dict:=none,data:=.seq ([]:QqW).toArray }).objs.size=s2.heap.objs.size+1:=wL ..;dsimp only;rw[zC];generalize hC:s2.heap.objs.size+1=C;generalize hh:pushCells ((s2.heap.push { cls:=.type "list",dict:=none,data:=.seq ([]:QqW).toArray }).push { cls:=.type "dict",data:=.dict #[] }) scope.names=h4
 have aF:∀b∈fp,FpOk X pins H2 b/\b<s2.heap.objs.size:=λb Y=>by
  obtain⟨o,e,_⟩:=T.obj 0 _ ax b Y;exact⟨f2 b Y,zw e⟩
 have I4:Inv (yf X scope own M C s2 H2 fp) [] (replicate own.length none++σ) H2 { s2 with heap:=h4 }:=za9 ok hc I2 aF hC.symm hh.symm;generalize hX:yf X scope own M C s2 H2 fp=X' at I4
 have am:∀b o,s2.heap.get? b=some o->h4.get? b=some o:=λb o e=>by
  rw[<- hh];exact pushCells_keeps _ _ _ _ (zg _ (zg _ e))
 have aD:h4.get? s2.heap.objs.size=some { cls:=.type "list",dict:=none,data:=.seq ([]:QqW).toArray }:=by
  rw[<- hh];exact pushCells_keeps _ _ _ _ (zg _ (zD _ rfl))
 have av:tn 0 h4:=T.keep _ _ _ ax λb Y o e=>am b o e
 have gg:PG X' tg g:=by rw[<- hX];exact hg C s2 H2 fp
 have gt:PTs X' ifs tt:=by rw[<- hX];exact ht C s2 H2 fp
 have ge:PE X' elt te:=by rw[<- hX];exact he C s2 H2 fp
 have xP:X'.prog=X.prog:=by rw[<- hX];rfl
 have xw:X'.w=X.w:=by rw[<- hX];rfl
 have xK:X'.K=X.K:=by rw[<- hX];rfl
 have xA:X'.A=X.A:=by rw[<- hX];rfl
 have xc:X'.calm=true:=by rw[<- hX];exact hc
 have aa:X'.pn=[]:=by rw[<- hX];rfl
 have xs:X'.s₀=s2:=by rw[<- hX];rfl
 have xH:X'.H₀=H2:=by rw[<- hX];rfl
 have xL:X'.env.locals=C:=by rw[<- hX];rfl
 have aI:X'.fs=frs X.stack:=by rw[<- hX];rfl
 have ae:X'.ex=fp:=by rw[<- hX];rfl
 have xe:X'.xe=λ_ _=>False:=by rw[<- hX];rfl
 have ar:({ newEnv scope C X.env.globals (cellsFrom (C+1) scope.names (jA X.env scope.names [])) X.env.qual none .none (some X.env) builtinsNs with scope:=relabel scope X.env }:Env)=X'.env:=by rw[<- hX];rfl
 have aG:s2.heap.objs.size<C:=by rw[<- hC];exact Nat.lt_succ_self _
 have ap:∀{pl:QqL}{H:Hp},(∀b∈fp,H b=none)->(∀p∈pl,p.1 ∉ fp)->∀b∈fp,FpOk X' pl H b:=λ{pl H} hn af b Y=>by
  refine⟨hn b Y,?_,?_,.inl (by rw[ae];exact Y),λx c e=>(I4.ok.exf b (by rw[ae];exact Y)).2 x c e,λp hp z=>?_⟩
  ·exact(I4.ok.exf b (by rw[ae];exact Y)).1
  ·exact I4.ok.exfs b (by rw[ae];exact Y)
  ·rw [aa, yv] at hp
   exact af p hp (by rw[z];exact Y)
 have aH:s2.heap.objs.size ∉ fp:=λz=>xW _ (aF _ z).2;have DC:s2.heap.objs.size≠C:=zJ aG
 have aq:∀x c,X'.env.cells.lookup x=some c->c≠s2.heap.objs.size:=λx c e z=>by
  obtain⟨v,o,q,hd⟩:=I4.cell x c e;rw[z] at q;have q':h4.get? s2.heap.objs.size=some o:=q;rw[aD] at q';cases q';cases hd
 have aQ:s2.heap.objs.size ∉ X'.fs:=λz=>by
  obtain⟨_,o,ho,_⟩:=I4.ok.funs.mem (by exact z)
  rw[xs] at ho;exact xW _ (zw ho)
 rw[ar]
 have ah:∀s5:Shared,s5={ s2 with heap:=h4 }->codeAny (model X.prog X.w) X.A (.compLoop (.ListComp elt [⟨tg,iter,ifs,0⟩] scope pos) 0 (.ref it) (.ref s2.heap.objs.size) X'.env) (RR (.ref s2.heap.objs.size) C) s5:=by
  rintro s5 rfl;obtain⟨m0,w0⟩:=w0
  refine zu2 (λn s'=>∃i acc σ' H' its k,Inv X' [] σ' H' s'/\σ'.drop own.length=σ/\tn i s'.heap/\(∀b∈fp,H' b=none)/\H' s2.heap.objs.size=none /\
   s'.heap.get? s2.heap.objs.size=some { cls:=.type "list",data:=.seq (List.toArray its) k }/\Vals acc its/\W i n acc H') ?_ m0
   ⟨0,[],_,H2,[],0,I4,by simp,av,λb Y=>(f2 b Y).1,I2.hok.fresh (zi _),aD,.nil,w0⟩
  rintro n s3 ⟨i,acc,σ3,H3,its,k,I3,hσ,aw,aE,hD,aL,rv,w3⟩
  have ay:∀{H:Hp}{s:Shared}{σ:St},Inv X' [] σ H s->H s2.heap.objs.size=none->s.heap.get? s2.heap.objs.size=some { cls:=.type "list",data:=.seq (List.toArray its) k } ->
    Inv X' [(s2.heap.objs.size,{ cls:=.type "list",data:=.seq (List.toArray its) k })] σ H s:=λ{H s σ} I hn ho=>I.pins_of λp hp=>by
   have e:p=(s2.heap.objs.size,{ cls:=.type "list",data:=.seq (List.toArray its) k }):=by simpa using hp
   subst e
   exact⟨ho,hn,by rw[xL];exact DC,aQ,λv z=>by cases z⟩
  have ak:∀p∈[((s2.heap.objs.size,{ cls:=.type "list",data:=.seq (List.toArray its) k }):Addr × Obj)],p.1 ∉ fp:=λp hp=>by
   have e:p=(s2.heap.objs.size,{ cls:=.type "list",data:=.seq (List.toArray its) k }):=by simpa using hp
   subst e;exact aH
  have I3':=ay I3 hD aL
  rcases turn i n acc H3 w3 with ⟨stop,aA,q⟩ |⟨go,aA,step⟩
  ·have := T.done X' xP xw xK xc i _ s3 σ3 H3 (λ_ _ => False) I3' (ap aE ak) aw stop;rw[xA] at this;refine thn this λr s4 ⟨hr,I5⟩=>?_;subst hr
   have aC:=(I5.pin (s2.heap.objs.size,{ cls:=.type "list",data:=.seq (List.toArray its) k }) (by rw[aa];simp)).1
   have un:Un (frs X.stack) fp H2 H3 s2.heap s4.heap:=by
    have:=I5.base;rw[aI,ae,xH,xs] at this;exact this
   have os:s4.os=s2.os:=by rw[I5.os,xs]
   have hok:HOk X.prog X.w H3 s4.heap:=by have:=I5.hok;rw[xP,xw] at this;exact this
   have IX:Inv X pins σ H3 s4:=I2.call' os un hok I5.bare λb Y=>by
    obtain⟨_,f1,_,f3,f4,f5⟩:=f2 b Y;exact⟨f3,f1,f4,f5⟩
   have az:∀{b:Addr},s2.heap.objs.size<=b->(X.s₀.heap.objs.size<=b/\b≠X.env.locals/\(∀x c,X.env.cells.lookup x=some c->c≠b)/\∀p∈X.pn++pins,p.1≠b):=λ{b} Y=>by
    obtain⟨_,f1,_,f3,f4,f5⟩:=I2.fpOk (H':=λ_=>none) Y rfl;exact⟨zy I2.sz Y,f1,f4,f5⟩
   obtain⟨d1,d2,d3,d4⟩:=az (zi s2.heap.objs.size);obtain⟨c1,c2,c3,c4⟩:=az (b:=C) (wb aG);have IY:Inv X pins σ (upd H3 s2.heap.objs.size (.lst acc)) s4:=IX.track hD d1 d2 d3 d4 ⟨aA,its,k,rv,aC⟩;obtain⟨m,hm,_⟩:=I5.loc;rw[xL] at hm
   have aM:H3 C=none:=by have:=I5.free;rw[xL] at this;exact this
   exact fin _ C _ s4 m IY (q _ hD) hm (by rw[wE (Ne.symm DC)];exact aM) c2 c1 c3 c4
  ·have := T.item X' xP xw xK xc i _ s3 σ3 H3 (λ_ _ => False) I3' (ap aE ak) aw go;rw[xA] at this;refine thn this λr s4 ⟨u,hr,h4⟩=>?_;subst hr;refine thn h4 λ_ s5 ⟨x,H5,I5,r5,y5,aj,aN⟩=>?_
   have aJ:∀(j:Nat) v,(replicate own.length none++σ)[j]?=some (some v)->σ3[j]?=some (some v):=λj v e=>by
    by_cases ao:j<own.length
    ·rw [xE (by simpa using ao), xv, if_pos ao] at e
     cases e
    ·have aK := Nat.le_of_not_lt ao
     rw[xt (by simpa using aK),wm,<- hσ,wf] at e
     rw[show own.length+(j-own.length)=j by lia] at e
     exact e
   have aB:(replicate own.length none++σ).length=σ3.length:=by
    have e1:σ3.length=X'.N.length:=I5.len;have e2:=I4.len;exact e2.trans e1.symm
   have aO:Inv X' _ (replicate own.length none++σ) H5 s5:=I5.weak aB aJ;have aP:=aO.pinned (ap aN ak) (T.obj _ _ aj);have a1:=gg _ s5 _ H5 x u _ aP r5 (step x H5 y5);rw[xP,xw,xA,xe] at a1;refine thn a1 λ_ s6 ⟨σ6,H6,I6,d6,q6⟩=>?_;have a2:=gt _ s6 σ6 H6 _ I6 q6;rw[xP,xw,xA,xe] at a2;refine thn a2 λb s7 ⟨H7,I7,q7⟩=>?_
   have ag:∀{H:Hp}{s:Shared},Inv X' ([((s2.heap.objs.size,{ cls:=.type "list",data:=.seq (List.toArray its) k }):Addr × Obj)]++jR fp s5.heap) σ6 H s ->
     (tn (i+1) s.heap/\(∀b∈fp,H b=none)/\H s2.heap.objs.size=none/\s.heap.get? s2.heap.objs.size=some { cls:=.type "list",data:=.seq (List.toArray its) k }/\Inv X' [] σ6 H s):=λ{H s} I=>by
    refine⟨T.keep _ _ _ aj λb Y o e=>(I.pin (b,o) (zI _ (zI _ (kc Y e)))).1,λb Y=>?_,?_,?_,I.pins_of λp hp=>by simp at hp⟩
    ·obtain⟨o,e,d⟩:=T.obj _ _ aj b Y;exact(I.pin (b,o) (zI _ (zI _ (kc Y e)))).2.1
    ·exact(I.pin (s2.heap.objs.size,{ cls:=.type "list",data:=.seq (List.toArray its) k }) (by rw[aa];simp)).2.1
    ·exact(I.pin (s2.heap.objs.size,{ cls:=.type "list",data:=.seq (List.toArray its) k }) (by rw[aa];simp)).1
   cases b with
   |false=>
    obtain⟨p1,p2,p3,p4,p5⟩:=ag I7;obtain⟨m',hm,w7⟩:=q7;exact⟨m',hm,i+1,acc,σ6,H7,its,k,p5,d6,p1,p2,p3,p4,rv,w7⟩
   |true=>
    rw[if_pos rfl] at q7 ⊢;have a3:=ge _ s7 σ6 H7 _ I7 q7;rw[xP,xw,xA,xe] at a3;refine thn a3 λy s8 ⟨v,H8,I8,r8,q8⟩=>?_;obtain⟨p1,p2,p3,p4,p5⟩:=ag I8;obtain⟨m',hm,w8⟩:=q8;have hl:=rv.length
    refine wpAny_list_append_plain (items:=List.toArray its) ⟨k,p4⟩ (λh' af hs=>?_) (by simp;lia)
    obtain⟨k',af⟩:=af
    have I9:Inv X' [] σ6 H8 { s8 with heap:=h' }:=p5.turned (t':=s8.toks) (λb o Y e=>hs.extBut b o Y e) p3 (by rw[xL];exact DC) (.inr (by rw[xs];exact zi _)) aq (λp hp=>by rw[aa] at hp;simp at hp)
    refine⟨m',hm,i+1,acc++[v],σ6,H8,its++[y],k',I9,d6,T.keep _ _ _ p1 λb Y o e=>hs.extBut b o (λz=>aH (by rw[<- z];exact Y)) e,p2,p3,?_,rv.append (.cons r8 .nil),w8⟩
    rw[af];simp
 exact codeAny_compStart_list (ah _ rfl) (T.self _ 0 _ _ _ av (ah _ rfl))
theorem zN9{wi:TI}(ok:CompOk X scope M)(hc:X.calm=true)(hi:PI X tg iter wi)(hg:∀C s2 H2 Y,PG (yf X scope own M C s2 H2 Y) tg g)(ht:∀C s2 H2 Y,PTs (yf X scope own M C s2 H2 Y) ifs tt)
  (he:∀C s2 H2 Y,PE (yf X scope own M C s2 H2 Y) elt te) (hs:∀x,foldedSetIterable iter X.env x=pure x:=by intro _;rfl) :
  PE X (.ListComp elt [⟨tg,iter,ifs,0⟩] scope pos) (zx4 wi own.length g tt te):=by
 intro pins s σ H Q I h;rw[eval_ListComp]
 refine wpAny_comprehension_free (use:=none) rfl hs (UL (ok.cells I)) ok.kind (λx hx hl=>by rw[ok.uniq x hx,hl]) ?_
 refine thn (hi pins s σ H _ I h) λv s1 h1=>thn h1 λaf s2 h2=>?_;obtain⟨it,Y,tn,J,H2,e,I2,T,aa,f2,W,w0,turn⟩:=h2;subst e;refine Jo (Qf:=Q) ok hc hg ht he I2 T aa f2 w0 turn λD C H' s' m IY q hm ae c2 c1 c3 c4=>⟨m,hm,λh' hs'=>?_⟩;exact⟨.ref D,H',IY.turned (t':=s'.toks) (λb o hb e=>hs'.extBut b o hb e) ae c2 (.inr c1) c3 c4,rfl,q⟩
theorem zd6{wi:TI}{i:Nat}{x:Str}{pos' Y:Pos}(hN:X.N.Nodup)(ag:X.N[i]?=some x)(hx:Loc X.env.scope x)(ok:CompOk X scope M)(hc:X.calm=true)(hi:PI X tg iter wi)(hg:∀C s2 H2 fp,PG (yf X scope own M C s2 H2 fp) tg g)
  (ht:∀C s2 H2 fp,PTs (yf X scope own M C s2 H2 fp) ifs tt) (he:∀C s2 H2 fp,PE (yf X scope own M C s2 H2 fp) elt te)
  (ae:swapsWith (.ListComp elt [⟨tg,iter,ifs,0⟩] scope pos) (some (.Name x pos')) Y.line X.env=pure true:=by rfl) (hf:X.fn x=true\/X.env.scope.names.lookup x=some .local:=by first |exact .inl rfl |exact .inr rfl |assumption)
  (hs:∀x,foldedSetIterable iter X.env x=pure x:=by intro _;rfl):PS X (.Assign [.Name x pos'] (.ListComp elt [⟨tg,iter,ifs,0⟩] scope pos) Y) (xn1 (zx4 wi own.length g tt te) (zD8 i)):=by
 intro pins s σ H D I h;rw[exec_Assign_Name_used _ _ _ _ ae];refine zc (ye (zc ?_))
 show wpAny _ _ (do let _ <- comprehension (.ListComp elt [⟨tg,iter,ifs,0⟩] scope pos) scope X.env _ (newList []) false (eval iter X.env) (some (assign (.Name x pos') X.env))) _ _ s
 refine zc (thn (wpAny_comprehension_free (use:=some (assign (.Name x pos') X.env)) (Q:=λ_ s'=>SP X pins D .next s') rfl hs (UL (ok.cells I)) ok.kind (λx hx hl=>by rw[ok.uniq x hx,hl]) ?_)
  λ_ s' hq=>zj (zj hq))
 refine thn (hi pins s σ H _ I h) λv s1 h1=>thn h1 λaj s2 h2=>?_;obtain⟨it,fp,tn,J,H2,e,I2,T,aa,f2,W,w0,turn⟩:=h2;subst e;refine Jo (Qf:=λx H1=>zD8 i x σ H1 D.nx) ok hc hg ht he I2 T aa f2 w0 turn λD' C H' s' m IY q hm ah c2 c1 c3 c4=>?_;show wpAny _ _ (assign (.Name x pos') X.env (.ref D')) _ _ s';refine wpAny_assign_Name (Ki IY hN ag hx (v:=.ref D') rfl (λs'' I'' ⟨a,af,ha⟩=>?_) hf)
 have ai:C≠a:=by
  rcases ha with z |z
  ·rw[z];exact c2
  ·exact λe=>c3 x a z e.symm
 exact⟨m,hm.sameBut af ai,λh' hs'=>⟨_,H',I''.turned (t':=s''.toks) (λb o hb e=>hs'.extBut b o hb e) ah c2 (.inr c1) c3 c4,q⟩⟩
end
section
variable {X:Cx}{pins:QqL}{σ:St}{H:Hp}{s:Shared}
theorem Inv.turnedL{t':Nat}{h':Heap}{ch:List Addr}(I:Inv X pins σ H s)(k:∀b o,b ∉ ch->s.heap.get? b=some o->h'.get? b=some o)(Y:∀b∈ch,FpOk X pins H b):Inv X pins σ H { s with heap:=h',toks:=t' }:=by
 have W:∀b u,H b=some u->b ∉ ch:=λb u e z=>by rw[(Y b z).1] at e;cases e
 refine I.step (g':=s.gens) (d':=s.drawn) (ch:=ch) (λb hb=>?_) (λb o _ _ J e _=>k b o J e) (λb o _ _ J e _=>⟨o.slots,k b o J e⟩) (λ_ _ _ _ n=>n)
  (λb o J e=>⟨o,k b o J e⟩) (λ_ _ e=>e) (λ_ _ _ e=>e) (λb ps e=>⟨#[],by rw[e];simp⟩) (λm hm=>?_) (λb u e=>?_) I.bare
 ·obtain⟨_,f1,_,f3,f4,f5⟩:=Y b hb;exact⟨f3,f1,f4,f5⟩
 ·obtain⟨o,es,ep,ho,r⟩:=hm;exact⟨o,es,ep,k _ o (λz=>(Y _ z).2.1 rfl) ho,r⟩
 ·refine (I.hok b u e).stay (λc v J q => k c v ?_ q) (λ_ q => q) (λ_ _ q => q) λ_ _ _ q => q
  rcases J with z |z
  ·rw[z];exact W b u e
  ·exact W c _ z
noncomputable def SqB(K:W.Frag)(b:Bool)(H:Hp)(a:Addr)(xs:List V):Prop:=match b with |true=>SqL K H a xs |false=>SqT K H a xs
theorem Inv.seqB{b:Bool}{a:Addr}{xs:List V}(I:Inv X pins σ H s)(h:SqB X.K b H a xs):∃its:List Value,Vals xs its/\SeqIs b s.heap a its.toArray:=by
 cases b with
 |true=>obtain⟨its,r,p,_⟩:=I.list h;exact⟨its,r,p.isList⟩
 |false=>obtain⟨its,r,p,_⟩:=I.tuple h;exact⟨its,r,p⟩
theorem Inv.seqB_inj{b:Bool}{a:Addr}{xs ys:List V}(I:Inv X pins σ H s)(h:SqB X.K b H a xs)(h':SqB X.K b H a ys):xs=ys:=by
 cases b with
 |true=>exact I.list_inj h h'
 |false=>exact I.tuple_inj h h'
theorem Inv.ne_fp{b:Bool}{a c:Addr}{xs:List V}(I:Inv X pins σ H s)(h:SqB X.K b H a xs)(Y:FpOk X pins H c):a≠c:=by
 have J:∀o,X.K.lookup a=some o->a≠c:=λo e z=>by
  have W:=I.ok.mod.kin a o e;rw[z] at W;obtain⟨_,_,_,f3,_⟩:=Y
  rcases f3 with q |q
  ·exact I.ok.noex c o W q
  ·exact absurd (zT (zw (I.ok.bs c o W).1) q) (xW _)
 have trk:∀u,H a=some u->a≠c:=λu e=>yz e Y.1
 cases b with
 |true=>
  rcases h with (h |⟨o,h⟩) |⟨o,_,_,hk,_⟩
  ·exact trk _ h
  ·exact trk _ h
  ·exact J o hk
 |false=>
  rcases h with (h |⟨o,h⟩) |⟨o,_,_,hk,_⟩
  ·exact trk _ h
  ·exact trk _ h
  ·exact J o hk
noncomputable def Itz(K:W.Frag)(b c:Bool)(l1 l2:Addr):It:=
  ⟨λi H=>∃xs ys x y,SqB K b H l1 xs/\SqB K c H l2 ys/\xs[i]?=some x/\ys[i]?=some y,
   λi H v H'=>∃T,H T=none/\v=.ref T/\∀xs ys,SqB K b H l1 xs->SqB K c H l2 ys->∃x y,xs[i]?=some x/\ys[i]?=some y/\H'=upd H T (.tup [x,y]),
   λi H=>∃xs ys,SqB K b H l1 xs/\SqB K c H l2 ys/\(xs.length<=i\/ys.length<=i)⟩
theorem newTup{T:Addr}{x y:V}{u v:Value}{J:Shared}(I:Inv X pins σ H s)(I1:Inv X pins σ H J)(Y:s.heap.objs.size<=T)(W:H T=none)(ho:J.heap.get? T=some { cls:=.type "tuple",data:=.seq #[u,v] })(rx:RelV x u)(ry:RelV y v) :
  Inv X pins σ (upd H T (.tup [x,y])) J:=by
 obtain⟨_,f1,_,f3,f4,f5⟩:=I.fpOk (H':=H) Y W
 exact I1.track W (zy I.sz Y) f1 f4 f5 ⟨(by show 2<=sizeLine;decide),[u,v],.cons rx (.cons ry .nil),⟨_,ho,rfl,_,rfl⟩⟩
theorem zx3{P:Program}{w:World}{K:W.Frag}{es:List Expr}{kk:Nat}{ps:Pos}{b c:Bool}{z ti to i1 i2 l1 l2:Addr}(D:ZApart z ti to i1 i2) :
  Turn P w K (.Tuple es kk ps) (Itz K b c l1 l2) [z,ti,to,i1,i2] z (λi h=>ZSt b c z ti to i1 i2 l1 l2 i h) where
 mem:=by simp
 obj:=λi h st d hd=>by
  have nc:∀{o:Obj}{vs:Array Value},o.data=.fields vs->∀v,o.data≠.cell v:=λe v q=>by rw[e] at q;cases q
  simp only[zt,zW,or_false] at hd
  rcases hd with rfl |rfl |rfl |rfl |rfl
  ·exact⟨_,st.z,λv q=>by cases q⟩
  ·exact⟨_,st.ti,λv q=>by cases q⟩
  ·obtain ⟨u, v, e⟩ := st.to
   exact⟨_,e,λv q=>by cases q⟩
  ·obtain⟨o,e,_,hd⟩:=st.i1.obj;exact⟨o,e,nc hd⟩
  ·obtain⟨o,e,_,hd⟩:=st.i2.obj;exact⟨o,e,nc hd⟩
 keep:=λi h h' st k=>by
  obtain⟨u,v,e⟩:=st.to
  exact⟨k z (by simp) _ st.z,k ti (by simp) _ st.ti,⟨u,v,k to (by simp) _ e⟩,st.i1.at λo q=>k i1 (by simp) o q,st.i2.at λo q=>k i2 (by simp) o q⟩
 item:=by
  intro X hP hw hK hc i pins s σ H E I hf st hg;subst hP hw hK;obtain⟨xs,ys,x,y,q1,Y,hx,hy⟩:=hg;obtain⟨af,r1,p1⟩:=I.seqB q1;obtain⟨ae,r2,p2⟩:=I.seqB Y;obtain⟨u,hu,ru⟩:=r1.get hx;obtain⟨v,hv,rv⟩:=r2.get hy
  have J:=hf to (by simp)
  refine zC1 D st p1 p2 (I.ne_fp q1 J) (I.ne_fp Y J) (x:=u) (y:=v) (by simpa using hu) (by simpa using hv) λh' M hT kp=>?_
  have lt:∀{d:Addr},d∈[z,ti,to,i1,i2]->s.heap.objs.size≠d:=λ{d} hd e=>by
   obtain⟨o,q⟩:∃o,s.heap.get? d=some o:=by
    simp only[zt,zW,or_false] at hd
    rcases hd with rfl |rfl |rfl |rfl |rfl
    ·exact⟨_,st.z⟩
    ·exact⟨_,st.ti⟩
    ·obtain⟨u,v,e⟩:=st.to;exact⟨_,e⟩
    ·obtain⟨o,e,_⟩:=st.i1.obj;exact⟨o,e⟩
    ·obtain⟨o,e,_⟩:=st.i2.obj;exact⟨o,e⟩
   have:=zw q;rw[<- e] at this;exact xW _ this
  refine⟨_,rfl,wpAny_letOwnedTupleGo_zip (s:={ s with heap:=h' }) M.z λh'' z' sb=>?_⟩
  have aa:∀d o,d ∉ [z,ti,to,i1,i2]->s.heap.get? d=some o->h''.get? d=some o:=λd o hd e=>by
   simp only[zt,zW,or_false,not_or] at hd;exact sb.extBut _ _ hd.1 (kp d o hd.1 hd.2.2.1 hd.2.2.2.1 hd.2.2.2.2 e)
  have I1:Inv X pins σ H { s with heap:=h'' }:=I.turnedL (t':=s.toks) aa hf;have hn:H s.heap.objs.size=none:=I.hok.fresh (zi _)
  have I2:Inv X pins σ (upd H s.heap.objs.size (.tup [x,y])) { s with heap:=h'' }:=newTup I I1 (zi _) hn (sb.extBut _ _ (lt (by simp)) hT) ru rv
  obtain⟨u',v',ag⟩:=M.to
  refine⟨.ref s.heap.objs.size,_,I2,rfl,⟨_,hn,rfl,λxs' ys' e1 e2=>⟨x,y,by rw[I.seqB_inj e1 q1];exact hx,by rw[I.seqB_inj e2 Y];exact hy,rfl⟩⟩,?_,λd hd=>?_⟩
  ·exact⟨z',sb.extBut _ _ D.a1 M.ti,⟨u',v',sb.extBut _ _ D.a2 ag⟩,M.i1.at λo e=>sb.extBut _ _ D.a3 e,M.i2.at λo e=>sb.extBut _ _ D.a4 e⟩
  ·rw[wE (Ne.symm (lt hd))];exact(hf d hd).1
 done:=by
  intro X hP hw hK hc i pins s σ H E I hf st hg;subst hP hw hK;obtain⟨xs,ys,q1,Y,hx⟩:=hg;obtain⟨af,r1,p1⟩:=I.seqB q1;obtain⟨ae,r2,p2⟩:=I.seqB Y
  have J:=hf to (by simp)
  have e1:=r1.length;have e2:=r2.length
  refine KR (I.ok.hd hc) D st p1 p2 (I.ne_fp q1 J) (I.ne_fp Y J) (hx.imp (λz=>by simp;lia) λz=>by simp;lia) λh' kp=>⟨rfl,I.turnedL (t':=s.toks) (λd o hd e=>?_) hf⟩
  simp only[zt,zW,or_false,not_or] at hd;exact kp d o hd.1 hd.2.2.1 hd.2.2.2.1 hd.2.2.2.2 e
 self:=λ_ _ _ _ _ st h=>wpAny_pyIter_zip st.z h
noncomputable def xM8(K:W.Frag)(J:TA):TI:=λσ H R=>J σ H λvs I=>∃b c l1 l2 xs ys,vs=[.ref l1,.ref l2]/\SqB K b I l1 xs/\SqB K c I l2 ys/\R (Itz K b c l1 l2) I
theorem zZ5{es:List Expr}{kk:Nat}{ps:Pos}{a b:Expr}{ta:TA}{p pos:Pos}(hg:Gl X "zip")(hm:X.mg "zip" = none)(ha:PA X [a,b] ta)(hs:starEach [a,b] X.env=[(false,eval a X.env),(false,eval b X.env)]:=by rfl)(W:starEach [b] X.env=[(false,eval b X.env)]:=by rfl) :
  PI X (.Tuple es kk ps) (.Call (.Name "zip" p) [a,b] [] pos) (xM8 X.K ta):=by
 intro pins s σ H R I h
 refine Call_ (Vw I hg hm boot_zip (PyProof.Rows.callWith_type1 (thn (ha pos pins s σ H _ I h) λus s1 ⟨vs,H1,Y,r1,q1⟩=>?_) (by rw[hs,W]) (by rw[W];rfl)))
 obtain⟨bb,cc,l1,l2,xs,ys,e,q1,q2,q⟩:=q1;subst e
 cases r1 with
 | cons r rr =>
  cases rr with
  |cons r' rr=>
   cases rr;cases r;cases r';obtain⟨ae,r1,p1⟩:=Y.seqB q1;obtain⟨aa,r2,p2⟩:=Y.seqB q2;refine zF0 p1 p2 λh' z ti to i1 i2 D S J kp=>wpAny_pyIter_zip S.z ?_;exact⟨z,[z,ti,to,i1,i2],_,_,H1,rfl,Y.kept (t':=s1.toks) kp,zx3 D,S,λd hd=>Y.fpOk (J d hd) (Y.hok.fresh (J d hd)),q⟩
theorem Vals.bools{us:QqW}:∀{bs:List Bool},Vals (bs.map V.bl) us->us=bs.map Value.bool:=by
 induction us with
 |nil=>intro bs h;cases bs with |nil=>rfl |cons=>cases h
 | cons u us I =>
  intro bs h
  cases bs with
  |nil=>cases h
  | cons b bs =>
   cases h with
   |cons r t=>
    have e:u=Value.bool b:=r;rw[e,I t];rfl
theorem zL4(bs:List Bool):((List.range bs.length).all λi=>(bs[i]?).getD true)=bs.all id:=by
 rw[wR,xz,xz]
 constructor
 ·intro h b I;obtain⟨i,hi,e⟩:=List.mem_iff_getElem.mp I;have:=h i (xD.mpr hi);rw[ze hi,e] at this;exact this
 ·intro h i hi;have hi':=xD.mp hi;rw[ze hi'];exact h _ (wz hi')
theorem zL3(bs:List Bool):((List.range bs.length).any λi=>(bs[i]?).getD false)=bs.any id:=by
 rw[wR,yh,yh]
 constructor
 ·rintro⟨i,hi,h⟩;have hi':=xD.mp hi;rw[ze hi'] at h;exact⟨_,wz hi',h⟩
 ·rintro ⟨b, I, h⟩;obtain⟨i,hi,e⟩:=List.mem_iff_getElem.mp I
  exact⟨i,xD.mpr hi,by rw[ze hi,e];exact h⟩
theorem za4{h h':Heap}{o:Obj}(hk:∀b x,b ∉ [h.objs.size]->(h.push o).get? b=some x->h'.get? b=some x):∀b x,h.get? b=some x->h'.get? b=some x:=
 λb x e=>hk b x (λz=>absurd (zw e) (by rw[xi.mp z];exact xW _)) (zg _ e)
theorem XD(hc:X.calm=true):jr X (.builtin "all") (λxs H Q=>∃(p:Addr) (bs:List Bool),xs=[.ref p]/\SqL X.K H p (bs.map V.bl)/\Q (.bl (bs.all id)) H):=by
 intro pins s σ H xs us Q I r h;obtain⟨p,bs,rfl,hq,q⟩:=h
 cases r with
 | cons r Y =>
  cases Y;cases r;obtain⟨its,rv,pl,_⟩:=I.list hq;have ei:=Vals.bools rv;subst ei;have W:=pl.isList
  have J:p<s.heap.objs.size:=by obtain⟨_,e,_⟩:=W;exact zw e
  refine call_all_walk (yA W ⟨s.heap.objs.size,[s.heap.objs.size,p],[s.heap.objs.size],(bs.map Value.bool).toArray.size,_,_,λi=>(bs[i]?).getD true,rfl,
   Walks.list (A:=X.A.in1) (I.ok.hd hc) _ p (zJ J) _,⟨⟨_,zD _ rfl,rfl,rfl⟩,W.push _⟩,λi v s' Q' E' hP hQ=>?_,λh' tk hk=>?_⟩)
  ·have hP' : (bs.map Value.bool)[i]? = some v := by simpa using hP
   rw[zv] at hP'
   cases e:bs[i]? with
   |none=>rw[e] at hP';cases hP'
   |some b=>
    rw[e] at hP';have hQ':Q' ((bs[i]?).getD true) s':=hQ;rw[e] at hQ';cases hP';exact xZ hQ'
  ·refine⟨.bl (bs.all id),H,I.kept (za4 hk),?_,q⟩;show Value.bool _=Value.bool _;rw[zn,zh,zL4]
theorem UM(hc:X.calm=true):jr X (.builtin "any") (λxs H Q=>∃(p:Addr) (bs:List Bool),xs=[.ref p]/\SqL X.K H p (bs.map V.bl)/\Q (.bl (bs.any id)) H):=by
 intro pins s σ H xs us Q I r h;obtain⟨p,bs,rfl,hq,q⟩:=h
 cases r with
 | cons r Y =>
  cases Y;cases r;obtain⟨its,rv,pl,_⟩:=I.list hq;have ei:=Vals.bools rv;subst ei;have W:=pl.isList
  have J:p<s.heap.objs.size:=by obtain⟨_,e,_⟩:=W;exact zw e
  refine call_any_walk (yA W ⟨s.heap.objs.size,[s.heap.objs.size,p],[s.heap.objs.size],(bs.map Value.bool).toArray.size,_,_,λi=>(bs[i]?).getD false,rfl,
   Walks.list (A:=X.A.in1) (I.ok.hd hc) _ p (zJ J) _,⟨⟨_,zD _ rfl,rfl,rfl⟩,W.push _⟩,λi v s' Q' E' hP hQ=>?_,λh' tk hk=>?_⟩)
  ·have hP' : (bs.map Value.bool)[i]? = some v := by simpa using hP
   rw[zv] at hP'
   cases e:bs[i]? with
   |none=>rw[e] at hP';cases hP'
   |some b=>
    rw[e] at hP';have hQ':Q' ((bs[i]?).getD false) s':=hQ;rw[e] at hQ';cases hP';exact xZ hQ'
  ·refine⟨.bl (bs.any id),H,I.kept (za4 hk),?_,q⟩;show Value.bool _=Value.bool _;rw[zn,zh,zL3]
theorem WT:fillsNumberSlot (.type "tuple") "mul" = pure false:=
 PySem.fillsNumberSlot_seq (id := "tuple.__mul__") (r:=some (.builtin "tuple.__rmul__")) F.slot_tuple_mul.lookup x5 F.slot_tuple_rmul.lookup x5
theorem zL5:seqRepeat? (.type "tuple")=pure (some (.builtin "tuple.__mul__")):=by
 unfold seqRepeat?
 rw[PySem.seqSlot_of (T := "tuple") (name := "__mul__") (id := "tuple.__mul__") F.slot_tuple_mul.lookup x5,PySem.seqSlot_of (T := "tuple") (name := "__rmul__") (id := "tuple.__rmul__") F.slot_tuple_rmul.lookup x5]
 rfl
theorem zy1(a:Int)(t:Tok)(l:Addr)(o:Obj)(items:Array Value)(n:Nat) :
  Meets (Builtin.«int.__rmul__» ⟨[.int a t,.ref l],[]⟩) (λ_ R s=>s.heap.get? l=some o/\o.cls=.type "tuple" /\ o.data=.seq items n/\R (.ok (.ret Value.notImplemented)) s):=
 .of_wp λprog w A R s h=>by
  obtain⟨hp,g,d,W,os⟩:=s;obtain⟨hl,I,hd,h⟩:=h;obtain⟨c,dd,J,Y⟩:=o
  replace I:c=.type "tuple" := I
  replace hd:J=.seq items n:=hd
  subst I hd
  wp_walk
  exact⟨_,rfl,h⟩
theorem zQ0(l:Addr)(o:Obj)(items:Array Value)(n:Nat)(k:Int)(t:Tok)(h1:¬ (decide (k < -(2^63))||decide (k>=2^63))=true)(he:items.isEmpty=false)(aa:(k == 1)=false)(W:(decide (k<=0)||items.isEmpty)=false)
    (J:¬ (items.size:Int)*k > (2^63-1)/8) (I:¬ Builtin.Tuple.tupleTooMany ((items.size:Int)*k)=true) (hz:((replicate k.toNat items).foldl (·++·) #[]).size<=sizeLine) :
    Meets (Builtin.«tuple.__mul__» ⟨[.ref l,.int k t],[]⟩) (λ_ R s=>s.heap.get? l=some o/\o.cls=.type "tuple" /\ o.data=.seq items n /\
      R (.ok (.ret (.ref s.heap.objs.size))) { s with heap:=s.heap.push { cls:=.type "tuple",data:=.seq ((replicate k.toNat items).foldl (·++·) #[]) } }):=
  .of_wp λprog w A R s h=>by
    obtain⟨hp,g,d,tk,os⟩:=s;obtain⟨hl,Y,hd,h⟩:=h;obtain⟨c,dd,dt,sl⟩:=o
    replace Y:c=.type "tuple" := Y
    replace hd:dt=.seq items n:=hd
    subst Y hd
    wp_walk
    rw[if_neg h1]
    wp_walk
    rw[W,if_neg zF];dsimp only;rw[if_neg J,if_neg I];unfold Builtin.Tuple.tupleExact;refine zc (wpAny_newTuple ?_);exact zj ⟨_,rfl,h⟩
theorem zC2(l:Addr)(o:Obj)(items:Array Value)(n:Nat)(t:Tok) :
  Meets (Builtin.«tuple.__mul__» ⟨[.ref l,.int 1 t],[]⟩) (λ_ R s=>s.heap.get? l=some o/\o.cls=.type "tuple" /\ o.data=.seq items n/\R (.ok (.ret (.ref l))) s):=
 .of_wp λprog w A R s h=>by
  obtain⟨hp,g,d,W,os⟩:=s;obtain⟨hl,I,hd,h⟩:=h;obtain⟨c,dd,J,Y⟩:=o
  replace I:c=.type "tuple" := I
  replace hd:J=.seq items n:=hd
  subst I hd
  wp_walk
  exact⟨_,rfl,h⟩
noncomputable def zX7(K:W.Frag):R2:=λx y H Q=>∃l k xs,x=.ref l/\y=.int k/\SqT K H l xs/\xs≠[]/\1<=k/\xs.length*k.toNat<=sizeLine /\
 (k=1->Q (.ref l) H)/\(k≠1->∀p,H p=none->Q (.ref p) (upd H p (.tup (replicate k.toNat xs).flatten)))
theorem zO3:OpR X (binaryOp .Mult) (zX7 X.K):=by
 intro pins s σ H x y v u Q I rx ry h;obtain⟨l,k,xs,rfl,rfl,hq,ah,h1,hz,q1,q2⟩:=h;cases rx;obtain⟨t,rfl⟩:=ry;obtain⟨its,rv,⟨o,e,hc,n,hd⟩,_⟩:=I.tuple hq;have af:=rv.length
 have W:0<its.length:=by rw[<- af];exact List.length_pos_iff.mpr ah
 have Y:s.TypeIs (.ref l) "tuple" := ⟨o,e,hc⟩
 refine wpAny_binaryOp_repeat_ref (T := "tuple") (U := "int") x4 Y (λs'=>typeIs_int s' k t) WT F.fills_int_mul F.slot_int_rmul zL5 F.slot_int_index.lookup
  (call_meets F.slot_int_rmul (typeIs_int s k t) F.entry_int_rmul (F.args_int_rmul_2 _ _) (zy1 k t l o its.toArray n) ⟨e,hc,hd,rfl,Y,?_⟩)
 by_cases hk:k=1
 ·subst hk;exact call_meets F.slot_tuple_mul Y F.entry_tuple_mul (F.args_tuple_mul_2 _ _) (zC2 l o its.toArray n t) ⟨e,hc,hd,⟨.ref l,H,I,rfl,q1 rfl⟩⟩
 ·have aj : (2 : Int) <= k := by lia
  have ae:its.length*k.toNat<=sizeLine:=by rw[<- af];exact hz
  have J:((its.toArray.size:Nat):Int)*k=((its.length*k.toNat:Nat):Int):=by
   rw[zn,Int.natCast_mul,Int.toNat_of_nonneg x3]
  have ag:(sizeLine:Int)=16777216:=x4
  have hb:((its.length*k.toNat:Nat):Int)<=16777216:=by rw[<- ag];exact Int.ofNat_le.mpr ae
  have ai:k<=16777216:=by
   have:k.toNat<=its.length*k.toNat:=Nat.le_mul_of_pos_left _ W;lia
  have aa:List.foldl (λx1 x2=>x1++x2) #[] (replicate k.toNat its.toArray)=(replicate k.toNat its).flatten.toArray:=by
   have:=Ji its k.toNat [];rw[yv] at this;exact this
  refine call_meets F.slot_tuple_mul Y F.entry_tuple_mul (F.args_tuple_mul_2 _ _) (zQ0 l o its.toArray n k t ?_ ?_ ?_ ?_ ?_ ?_ ?_) ⟨e,hc,hd,?_⟩
  ·rw[yW,yB,yB];lia
  ·cases its with
   |nil=>simp at W
   |cons=>rfl
  ·simpa using hk
  ·rw [Bool.or_eq_false_iff]
   refine⟨zS x3,?_⟩
   cases its with
   |nil=>simp at W
   |cons=>rfl
  ·rw[J];lia
  ·unfold Builtin.Tuple.tupleTooMany;rw[J,yB,ag];lia
  ·rw[aa,zn,zp7,Nat.mul_comm];exact ae
  ·rw [aa]
   refine⟨.ref _,_,I.laid (o:=.tup (replicate k.toNat xs).flatten) (t':=s.toks) (λ_ _ z=>zg _ z) (zi _) ⟨by rw[zp7,Nat.mul_comm];exact hz,_,rv.rep k.toNat,⟨_,zD _ rfl,rfl,_,rfl⟩⟩,rfl,q2 hk _ I.fresh⟩
noncomputable def xx9(T:String):V->Bool
 |.bl _=>T == "bool" || T == "int"
 |.int _=>T == "int"
 |.str _=>T == "str"
 |_=>false
noncomputable def xA7(K:W.Frag)(T:String)(x:V)(H:Hp)(Q:VK):Prop:=match x with
 |.ref a=>(∃xs,SqT K H a xs/\Q (.bl (T == "tuple")) H)\/(∃xs,SqL K H a xs/\Q (.bl (T == "list")) H)\/(∃I,H a=some (.dK I)/\Q (.bl false) H)
 |.non=>Q (.bl false) H
 |.bl b=>Q (.bl (xx9 T (.bl b))) H
 |.int i=>Q (.bl (xx9 T (.int i))) H
 |.str i=>Q (.bl (xx9 T (.str i))) H
 |_=>False
theorem vn:jr X (.builtin "isinstance") (λxs H Q=>∃x T,xs=[x,.ty T]/\(T = "bool" \/ T = "int" \/ T = "str" \/ T = "tuple" \/ T = "list")/\xA7 X.K T x H Q):=by
 intro pins s σ H xs us Q I r h;obtain⟨x,T,rfl,W,q⟩:=h
 cases r with
 | cons r rr =>
  cases rr with
  | cons r' rr =>
   cases rr;cases r'
   cases x with
   |non=>
    cases r
    rcases W with rfl |rfl |rfl |rfl |rfl
    ·exact IsiPair.NoneType_bool ⟨.bl false,H,I.tok _,rfl,q⟩
    ·exact IsiPair.NoneType_int ⟨.bl false,H,I.tok _,rfl,q⟩
    ·exact IsiPair.NoneType_str ⟨.bl false,H,I.tok _,rfl,q⟩
    ·exact IsiPair.NoneType_tuple ⟨.bl false,H,I.tok _,rfl,q⟩
    ·exact IsiPair.NoneType_list ⟨.bl false,H,I.tok _,rfl,q⟩
   |bl b=>
    cases r
    rcases W with rfl |rfl |rfl |rfl |rfl
    ·exact IsiPair.bool_bool ⟨.bl true,H,I,rfl,q⟩
    ·exact IsiPair.bool_int ⟨.bl true,H,I,rfl,q⟩
    ·exact IsiPair.bool_str ⟨.bl false,H,I.tok _,rfl,q⟩
    ·exact IsiPair.bool_tuple ⟨.bl false,H,I.tok _,rfl,q⟩
    ·exact IsiPair.bool_list ⟨.bl false,H,I.tok _,rfl,q⟩
   |int i=>
    obtain⟨t,rfl⟩:=r
    rcases W with rfl |rfl |rfl |rfl |rfl
    ·exact IsiPair.int_bool ⟨.bl false,H,I.tok _,rfl,q⟩
    ·exact IsiPair.int_int ⟨.bl true,H,I,rfl,q⟩
    ·exact IsiPair.int_str ⟨.bl false,H,I.tok _,rfl,q⟩
    ·exact IsiPair.int_tuple ⟨.bl false,H,I.tok _,rfl,q⟩
    ·exact IsiPair.int_list ⟨.bl false,H,I.tok _,rfl,q⟩
   |str i=>
    obtain⟨t,rfl⟩:=r
    rcases W with rfl |rfl |rfl |rfl |rfl
    ·exact IsiPair.str_bool ⟨.bl false,H,I.tok _,rfl,q⟩
    ·exact IsiPair.str_int ⟨.bl false,H,I.tok _,rfl,q⟩
    ·exact IsiPair.str_str ⟨.bl true,H,I,rfl,q⟩
    ·exact IsiPair.str_tuple ⟨.bl false,H,I.tok _,rfl,q⟩
    ·exact IsiPair.str_list ⟨.bl false,H,I.tok _,rfl,q⟩
   |byt _=>exact q.elim
   |flt _=>exact q.elim
   |ty _=>exact q.elim
   | ref a =>
    cases r
    rcases q with ⟨ys,Y,q⟩ |⟨ys,Y,q⟩ |⟨aa,Y,q⟩
    ·obtain ⟨its, rv, ⟨o, e, J, n, hd⟩, _⟩ := I.tuple Y
     rcases W with rfl |rfl |rfl |rfl |rfl
     ·exact IsiPair.tuple_bool e J ⟨.bl false,H,I.tok _,rfl,q⟩
     ·exact IsiPair.tuple_int e J ⟨.bl false,H,I.tok _,rfl,q⟩
     ·exact IsiPair.tuple_str e J ⟨.bl false,H,I.tok _,rfl,q⟩
     ·exact IsiPair.tuple_tuple e J ⟨.bl true,H,I,rfl,q⟩
     ·exact IsiPair.tuple_list e J ⟨.bl false,H,I.tok _,rfl,q⟩
    ·obtain ⟨its, rv, ⟨o, n, e, J, hd, hs⟩, _⟩ := I.list Y
     rcases W with rfl |rfl |rfl |rfl |rfl
     ·exact IsiPair.list_bool e J ⟨.bl false,H,I.tok _,rfl,q⟩
     ·exact IsiPair.list_int e J ⟨.bl false,H,I.tok _,rfl,q⟩
     ·exact IsiPair.list_str e J ⟨.bl false,H,I.tok _,rfl,q⟩
     ·exact IsiPair.list_tuple e J ⟨.bl false,H,I.tok _,rfl,q⟩
     ·exact IsiPair.list_list e J ⟨.bl true,H,I,rfl,q⟩
    ·obtain ⟨_, _, vs, _, p⟩ := (show ObjOk X.prog X.w H s.heap a (.dK aa) from I.hok a _ Y);obtain⟨o,es,ep,e,h2,_⟩:=p;have J:=h2.1
     rcases W with rfl |rfl |rfl |rfl |rfl
     ·exact IsiPair.dict_bool e J ⟨.bl false,H,I.tok _,rfl,q⟩
     ·exact IsiPair.dict_int e J ⟨.bl false,H,I.tok _,rfl,q⟩
     ·exact IsiPair.dict_str e J ⟨.bl false,H,I.tok _,rfl,q⟩
     ·exact IsiPair.dict_tuple e J ⟨.bl false,H,I.tok _,rfl,q⟩
     ·exact IsiPair.dict_list e J ⟨.bl false,H,I.tok _,rfl,q⟩
end
section
variable (P:Program) (w:World)
end
section
variable {P:Program}{w:World}{H H':Hp}{h h':Heap}{a:Addr}{o:HO}
end
section
variable {P:Program}{w:World}{H:Hp}{h h':Heap}{x e:Addr}{o':HO}
end
section
variable {fs fs' ex ex':List Addr}{H H1 H2:Hp}{h h1 h2 h':Heap}{a x e:Addr}{o:HO}
end
section
variable {X:Cx}{pins:QqL}{σ:List (Option V)}{H H':Hp}{s:Shared}{h':Heap}
end
section
variable {X:Cx}
variable {a b:Expr}{ta tb:TE}{pos:Pos}
variable {tA tB':TT}{rest:List Expr}
end
section
variable {X:Cx}{pins:QqL}{σ:St}{H:Hp}{s:Shared}{a:Addr}{xs ys:List V}
end
section
variable {X:Cx}{pins:QqL}{σ:St}{H:Hp}{s:Shared}{E:QqV}
end
section
variable {X:Cx}{st:Stmt}{rest:List Stmt}{t u:TS}{e:Expr}{te:TE}{pos:Pos}
end
section
variable {X:Cx}{pos:Pos}
end
section
variable {X:Cx}{tg:Expr}
end
section
variable {X:Cx}{a b c:Expr}{ta tb tc:TE}{pos:Pos}
end
section
variable {prog:Program}{w:World}{A:Around}{E:QqV}{s:Shared}{K:W.Frag}{x dx C f:Addr}{mA:QqM}{name:Str}{v:Value}
end
section
variable {P:Program}{w:World}{H H':Hp}{h h':Heap}{a C dx:Addr}{fs fs':List (Str × V)}
end
section
variable {X:Cx}{pins:QqL}{σ:St}{H:Hp}{s:Shared}{a C dx:Addr}{fs:List (Str × V)}{f:Str}{v:V}{A:Around}{E:QqV}
end
section
variable {X:Cx}{o e value:Expr}{f:Str}{pos pos' tpos:Pos}{ta tv:TE}
end
section
variable {X:Cx}{pins:QqL}{σ:St}{H:Hp}{s:Shared}{A:Around}{E:QqV}{Q:QqV}{c:Value}{b:Bool}
end
section
variable {X:Cx}{e:Expr}{es:List Expr}{te:TE}{t:TA}{pos:Pos}
end
section
variable {X:Cx}{pins:QqL}{σ:St}{H:Hp}{s s':Shared}
end
section
variable {X:Cx}{CX:CXT}{k:Nat}{f C:Addr}{fd:FuncData}{ps:List Str}{sp:Sp}{dvs:List V}{ds:QqW}{E:XK}{x m:Str}{p pos apos:Pos}{e o:Expr}{es:List Expr}{ta:TE}{t:TA}
end
section
variable {X:Cx}{CX:CXT}{k:Nat}{f C:Addr}{fd:FuncData}{ps ks:List Str}{sp:Sp}{E:XK}{x m:Str}{p pos apos kpos:Pos}{e o:Expr}{es:List Expr}{kws:List Keyword}{te ta:TE}{t tk:TA}{nm:Option Str}
variable {g:List Value->List Value->List Value}{gV:List V->List V->List V}
end
section
variable {X:Cx}{x:Str}{p pos:Pos}{e:Expr}{es:List Expr}{t:TA}{id T:String}{r:List V->Hp->VK->Prop}
end
section
variable {κ:Type} [DecidableEq κ]
end
theorem xw9{P:Program}{w:World}{k:Key}{u:Value}(r:RelV (kV k) u):(qi P w).is k u=true:=by
 cases k with
 |inl i=>obtain⟨t,e⟩:=(show ∃t,u=Value.int i t from r);subst e;exact Qk P w i t
 |inr x=>obtain⟨t,e⟩:=(show ∃t,u=Value.str x t from r);subst e;exact Wp P w x t
section
variable {P:Program}{w:World}{H:Hp}{h:Heap}{a:Addr}
end
section
variable {X:Cx}{pins:QqL}{σ:St}{H:Hp}{s:Shared}{a:Addr}{y v:V}{u r:Value}{o:Option V}{A:Around}{E:QqV}
end
section
variable {X:Cx}{pins:QqL}{σ:St}{H:Hp}{s:Shared}{a:Addr}{kvs:List (Key × V)}{k:Key}{u:Value}{A:Around}{E:QqV}
end
noncomputable def xH0(i:Expr):Prop:=∀I J,subscripted i false I J=operate [I,J] (getItem I J)
theorem zK7{prog:Program}{w:World}{A:Around}{E:QqV}{s:Shared}{env:Env}{J I:Expr}{pos:Pos}{T id:String}{Q:QqV}
  (hl:typeLookup (.type T) "__getitem__" = pure (some (.builtin id))) (hs:xH0 I)
  (h:wpAny (model prog w) A (eval J env) (λo s₁=>wpAny (model prog w) A (eval I env) (λi W=>W.TypeIs o T/\wpAny (model prog w) A (getItem o i) Q E W) E s₁) E s) :
  wpAny (model prog w) A (eval (.Subscript J I pos) env) Q E s:=by
 refine Subscript_ (wv h (λo s₁ h₁=>wv h₁ (λi W Y=>?_) λ_ _ x=>x) λ_ _ x=>x);obtain⟨hT,Y⟩:=Y;unfold subscriptTail;refine zc ?_;rw[getitemInPython_of_ne hT.not_modules];refine zc (wpAny_specialOf hT hl ?_)
 have fin:wpAny (model prog w) A (subscripted I false o i) (λr s₃=>wpAny (model prog w) A (letTemporaryGo J o r >>= λ_=>pure r) Q E s₃) E W:=by
  rw[hs o i];exact wpAny_operating (wv Y (λr s₃ h₃=>zc (wpAny_letTemporaryGo (zj h₃))) λ_ _ x=>x)
 first
  |exact zj (zc fin)
  |exact zc (zj (zc fin))
  |exact zc fin
section
variable {X:Cx}{o i e value:Expr}{pos pos' tpos:Pos}{td ty tv:TE}
end
section
variable {X:Cx}{pos:Pos}
end
section
variable {X:Cx}{pins:QqL}{σ:St}{H:Hp}{s:Shared}{a:Addr}{y d:V}{u r:Value}{o:Option V}{A:Around}{E:QqV}
end
section
variable {X:Cx}{o e f:Expr}{apos cpos:Pos}{td ty tx:TE}
end
section
variable {X:Cx}{pins:QqL}{σ:St}{H:Hp}{s:Shared}{a:Addr}{kvs:List (Key × V)}{A:Around}{E:QqV}
end
section
variable {X:Cx}{pins:QqL}{σ:St}{H:Hp}{s:Shared}{a:Addr}{y:V}{u:Value}{A:Around}{E:QqV}
end
end L2
namespace Att
open PySem PySem.W PySem.Calls PyProof.Rows
section
variable {prog:Program}{w:World}{A:Around}{E:QqV}{s:Shared}{K:Frag}
end
end Att
namespace L2
section
variable {P:Program}{w:World}{K:W.Frag}{mg:QqM}{base:Heap}
end
section
variable {X:Cx}
end
section
variable {κ:Type} [DecidableEq κ]
end
section
variable {prog:Program}{w:World}{A:Around}{R:Result->Shared->Prop}{s:Shared}
end
section
variable {X:Cx}{scope:Scope}{own M:List Str}{pins:QqL}{σ:St}{H2:Hp}{s2:Shared}{fp:List Addr}
end
section
variable {X:Cx}{scope:Scope}{own M:List Str}{pins:QqL}{σ:St}{H2:Hp}{s2:Shared}{tg iter kx vx:Expr}{ifs:List Expr}{pos:Pos}{g:TG}{tt:TT}{tk tv:TE}
end
inductive D where
 |non |bl (b:Bool) |int (i:Int) |str (x:Str) |ty (n:String) |tup (ds:List D) |lst (ds:List D)
 /-- a list that is known and stays -/
 |fz (ds:List D)
 /-- the list that the drawing keeps -/
 |st
 /-- a list of the frame's own (in a slot alone) -/
 |own (ds:List D)
 /-- a dict, whatever it holds -/
 |dic
 /-- a dict, known, that stays -/
 |dct (ks:List Key) (ds:List D)
noncomputable def xM3(I:List Key)(xs:List V):List (Key × V):=List.zipWith (λk x=>(k,x)) I xs
noncomputable abbrev zS0:Hp:=λ_=>none
noncomputable def SqZ(K:W.Frag)(Z:QqA)(H:Hp)(b:Bool)(a:Addr)(xs:List V):Prop:=
 match b with
 |true=>¬ Z a/\H a=some (.lst xs)
 |false=>(¬ Z a/\Rd H a (.tup xs))\/SqT K zS0 a xs
noncomputable def SqF(K:W.Frag)(Z:QqA)(H:Hp)(a:Addr)(xs:List V):Prop:=(¬ Z a/\∃o,H a=some (.frz o (.lst xs)))\/SqL K zS0 a xs
mutual
noncomputable def Rep(K:W.Frag)(G:QqE)(Z:QqA)(H:Hp):D->V->Prop
 |.non,v=>v=.non
 |.bl b,v=>v=.bl b
 |.int i,v=>v=.int i
 |.str x,v=>v=.str x
 |.ty n,v=>v=.ty n
 |.tup ds,v=>∃a xs,v=.ref a/\SqZ K Z H false a xs/\Reps K G Z H ds xs
 |.lst ds,v=>∃a xs,v=.ref a/\SqZ K Z H true a xs/\Reps K G Z H ds xs
 |.fz ds,v=>∃a xs,v=.ref a/\SqF K Z H a xs/\Reps K G Z H ds xs
 |.st,v=>∃a,G=some a/\v=.ref a
 |.own _,_=>False
 |.dic,v=>∃a I,v=.ref a/\¬ Z a/\H a=some (.dK I)
 |.dct J ds,v=>∃a xs,v=.ref a/\(¬ Z a/\H a=some (.dK (xM3 J xs)))/\Reps K G Z H ds xs
noncomputable def Reps(K:W.Frag)(G:QqE)(Z:QqA)(H:Hp):List D->List V->Prop
 |[],vs=>vs=[]
 |d::ds,vs=>∃v r,vs=v::r/\Rep K G Z H d v/\Reps K G Z H ds r
end
section
variable {K:W.Frag}{G:QqE}{Z Z':QqA}{H H':Hp}
theorem SqT.anyH{a:Addr}{xs:List V}(h:SqT K zS0 a xs):SqT K H a xs:=by
 rcases h with (h |⟨o,h⟩) |h
 ·cases h
 ·cases h
 ·exact .inr h
theorem SqZ.sq{b:Bool}{a:Addr}{xs:List V}(h:SqZ K Z H b a xs):SqB K b H a xs:=by
 cases b with
 |true=>exact SqL.of h.2
 |false=>
  rcases h with ⟨_,h⟩ |h
  ·exact .inl h
  ·exact SqT.anyH h
theorem SqZ.mono{b:Bool}{a:Addr}{xs:List V}(h:SqZ K Z H b a xs)(J:∀a,H a≠none->Z' a->Z a)(I:∀a o,¬ Z a->H a=some o->H' a=some o):SqZ K Z' H' b a xs:=by
 cases b with
 |true=>exact⟨λz=>h.1 (J a (by rw[h.2];simp) z),I a _ h.1 h.2⟩
 | false =>
  rcases h with ⟨n,h⟩ |h
  ·refine .inl ⟨λz => n (J a ?_ z), ?_⟩
   ·rcases h with h |⟨o,h⟩<;>(rw[h];simp)
   ·rcases h with h | ⟨o, h⟩
    ·exact .inl (I a _ n h)
    ·exact .inr ⟨o,I a _ n h⟩
  ·exact .inr h
mutual
theorem Rep.mono(I:∀a,H a≠none->Z' a->Z a)(J:∀a o,¬ Z a->H a=some o->H' a=some o):∀(d:D) (v:V),Rep K G Z H d v->Rep K G Z' H' d v
 |.non,v,h=>by unfold Rep at h ⊢;exact h
 |.bl b,v,h=>by unfold Rep at h ⊢;exact h
 |.int b,v,h=>by unfold Rep at h ⊢;exact h
 |.str b,v,h=>by unfold Rep at h ⊢;exact h
 |.ty b,v,h=>by unfold Rep at h ⊢;exact h
 |.st,v,h=>by unfold Rep at h ⊢;exact h
 |.own _,v,h=>by unfold Rep at h;exact h.elim
 |.dic,v,h=>by
  unfold Rep at h ⊢;obtain⟨a,W,e,n,q⟩:=h
  exact⟨a,W,e,λz=>n (I a (by rw[q];simp) z),J a _ n q⟩
 |.dct Y ds,v,h=>by
  unfold Rep at h ⊢;obtain⟨a,xs,e,⟨n,q⟩,r⟩:=h
  exact⟨a,xs,e,⟨λz=>n (I a (by rw[q];simp) z),J a _ n q⟩,Reps.mono I J ds xs r⟩
 |.tup ds,v,h=>by
  unfold Rep at h ⊢;obtain⟨a,xs,e,q,r⟩:=h;exact⟨a,xs,e,q.mono I J,Reps.mono I J ds xs r⟩
 |.lst ds,v,h=>by
  unfold Rep at h ⊢;obtain⟨a,xs,e,q,r⟩:=h;exact⟨a,xs,e,q.mono I J,Reps.mono I J ds xs r⟩
 |.fz ds,v,h=>by
  unfold Rep at h ⊢;obtain⟨a,xs,e,q,r⟩:=h;refine⟨a,xs,e,?_,Reps.mono I J ds xs r⟩
  rcases q with ⟨n,o,q⟩ |q
  ·exact .inl ⟨λz=>n (I a (by rw[q];simp) z),o,J a _ n q⟩
  ·exact .inr q
theorem Reps.mono(I:∀a,H a≠none->Z' a->Z a)(J:∀a o,¬ Z a->H a=some o->H' a=some o):∀(ds:List D) (vs:List V),Reps K G Z H ds vs->Reps K G Z' H' ds vs
 |[],vs,h=>by unfold Reps at h ⊢;exact h
 |d::ds,vs,h=>by
  unfold Reps at h ⊢;obtain⟨v,r,e,q,t⟩:=h;exact⟨v,r,e,Rep.mono I J d v q,Reps.mono I J ds r t⟩
end
theorem Reps.nil:Reps K G Z H [] []:=by unfold Reps;rfl
theorem Reps.cons{d:D}{ds:List D}{v:V}{vs:List V}(h:Rep K G Z H d v)(t:Reps K G Z H ds vs):Reps K G Z H (d::ds) (v::vs):=by unfold Reps;exact⟨v,vs,rfl,h,t⟩
theorem Reps.inv{d:D}{ds:List D}{v:V}{vs:List V}(h:Reps K G Z H (d::ds) (v::vs)):Rep K G Z H d v/\Reps K G Z H ds vs:=by
 unfold Reps at h;obtain⟨v',r,e,q,t⟩:=h;cases e;exact⟨q,t⟩
theorem Reps.split{d:D}{ds:List D}{vs:List V}(h:Reps K G Z H (d::ds) vs):∃v r,vs=v::r/\Rep K G Z H d v/\Reps K G Z H ds r:=by unfold Reps at h;exact h
theorem Reps.nil_inv{vs:List V}(h:Reps K G Z H [] vs):vs=[]:=by unfold Reps at h;exact h
theorem Reps.length:∀{ds:List D}{vs:List V},Reps K G Z H ds vs->vs.length=ds.length
 |[],vs,h=>by rw[h.nil_inv];rfl
 |d::ds,vs,h=>by
  obtain⟨v,r,rfl,_,t⟩:=h.split;rw[zL,zL,Reps.length t]
theorem Reps.get:∀{ds:List D}{vs:List V}{i:Nat}{d:D},Reps K G Z H ds vs->ds[i]?=some d->∃v,vs[i]?=some v/\Rep K G Z H d v
 |[],vs,i,d,_,e=>by simp at e
 |c::ds,vs,0,d,h,e=>by
  obtain⟨v,r,rfl,q,t⟩:=h.split;simp at e;subst e;exact⟨v,rfl,q⟩
 |c::ds,vs,i+1,d,h,e=>by
  obtain⟨v,r,rfl,q,t⟩:=h.split
  obtain⟨u,J,I⟩:=Reps.get (i:=i) t (by simpa using e)
  exact⟨u,by simpa using J,I⟩
theorem Reps.append:∀{ds es:List D}{vs ws:List V},Reps K G Z H ds vs->Reps K G Z H es ws->Reps K G Z H (ds++es) (vs++ws)
 |[],es,vs,ws,h,h'=>by rw[h.nil_inv];exact h'
 |d::ds,es,vs,ws,h,h'=>by
  obtain⟨v,r,rfl,q,t⟩:=h.split;exact .cons q (Reps.append t h')
theorem Reps.drop:∀{ds:List D}{vs:List V} (n:Nat),Reps K G Z H ds vs->Reps K G Z H (ds.drop n) (vs.drop n)
 |ds,vs,0,h=>h
 |[],vs,n+1,h=>by rw[h.nil_inv];exact .nil
 |d::ds,vs,n+1,h=>by
  obtain⟨v,r,rfl,q,t⟩:=h.split;exact Reps.drop n t
theorem Reps.take:∀{ds:List D}{vs:List V} (n:Nat),Reps K G Z H ds vs->Reps K G Z H (ds.take n) (vs.take n)
 |ds,vs,0,h=>.nil
 |[],vs,n+1,h=>by rw[h.nil_inv];exact .nil
 |d::ds,vs,n+1,h=>by
  obtain⟨v,r,rfl,q,t⟩:=h.split;exact .cons q (Reps.take n t)
theorem Reps.flatRep{ds:List D}{vs:List V}(h:Reps K G Z H ds vs):∀k:Nat,Reps K G Z H (replicate k ds).flatten (replicate k vs).flatten
 |0=>.nil
 |k+1=>by
  rw[wO,wO,wc,wc];exact h.append (Reps.flatRep h k)
end
noncomputable def qp:D->Bool
 |.non=>true |.bl _=>true |.int _=>true |.str _=>true |.ty _=>true |_=>false
noncomputable def ofS:D->V
 |.bl b=>.bl b |.int i=>.int i |.str x=>.str x |.ty n=>.ty n |_=>.non
theorem Rep.ofS{K:W.Frag}{G:QqE}{Z:QqA}{H:Hp}:∀{d:D},qp d=true->Rep K G Z H d (ofS d)
 |.non,_=>by unfold Rep;rfl
 |.bl b,_=>by unfold Rep;rfl
 |.int b,_=>by unfold Rep;rfl
 |.str b,_=>by unfold Rep;rfl
 |.ty b,_=>by unfold Rep;rfl
 |.tup ds,h=>by simp[qp] at h
 |.lst ds,h=>by simp[qp] at h
 |.st,h=>by simp[qp] at h
 |.fz ds,h=>by simp[qp] at h
 |.own ds,h=>by simp[qp] at h
theorem Rep.toS{K:W.Frag}{G:QqE}{Z:QqA}{H:Hp}{v:V}:∀{d:D},qp d=true->Rep K G Z H d v->v=L2.ofS d
 |.non,_,h=>by unfold Rep at h;exact h
 |.bl b,_,h=>by unfold Rep at h;exact h
 |.int b,_,h=>by unfold Rep at h;exact h
 |.str b,_,h=>by unfold Rep at h;exact h
 |.ty b,_,h=>by unfold Rep at h;exact h
 |.tup ds,h,_=>by simp[qp] at h
 |.lst ds,h,_=>by simp[qp] at h
 |.st,h,_=>by simp[qp] at h
 |.fz ds,h,_=>by simp[qp] at h
 |.own ds,h,_=>by simp[qp] at h
theorem Rep.int_inv{K:W.Frag}{G:QqE}{Z:QqA}{H:Hp}{v:V}{i:Int}(h:Rep K G Z H (.int i) v):v=.int i:=by unfold Rep at h;exact h
theorem Rep.bl_inv{K:W.Frag}{G:QqE}{Z:QqA}{H:Hp}{v:V}{i:Bool}(h:Rep K G Z H (.bl i) v):v=.bl i:=by unfold Rep at h;exact h
theorem Rep.tup_inv{K:W.Frag}{G:QqE}{Z:QqA}{H:Hp}{v:V}{ds:List D}(h:Rep K G Z H (.tup ds) v):∃a xs,v=.ref a/\SqZ K Z H false a xs/\Reps K G Z H ds xs:=by unfold Rep at h;exact h
theorem Rep.lst_inv{K:W.Frag}{G:QqE}{Z:QqA}{H:Hp}{v:V}{ds:List D}(h:Rep K G Z H (.lst ds) v):∃a xs,v=.ref a/\SqZ K Z H true a xs/\Reps K G Z H ds xs:=by unfold Rep at h;exact h
theorem Rep.fz_inv{K:W.Frag}{G:QqE}{Z:QqA}{H:Hp}{v:V}{ds:List D}(h:Rep K G Z H (.fz ds) v):∃a xs,v=.ref a/\SqL K H a xs/\Reps K G Z H ds xs:=by
 unfold Rep at h;obtain⟨a,xs,e,q,r⟩:=h;refine⟨a,xs,e,?_,r⟩
 rcases q with ⟨_,o,q⟩ |q
 ·exact .inl (.inr ⟨o,q⟩)
 ·rcases q with (q | ⟨o, q⟩) | q
  ·cases q
  ·cases q
  ·exact .inr q
theorem Rep.tup_mk{K:W.Frag}{G:QqE}{Z:QqA}{H:Hp}{a:Addr}{xs:List V}{ds:List D}(q:SqZ K Z H false a xs)(r:Reps K G Z H ds xs):Rep K G Z H (.tup ds) (.ref a):=by unfold Rep;exact⟨a,xs,rfl,q,r⟩
theorem Rep.lst_mk{K:W.Frag}{G:QqE}{Z:QqA}{H:Hp}{a:Addr}{xs:List V}{ds:List D}(q:SqZ K Z H true a xs)(r:Reps K G Z H ds xs):Rep K G Z H (.lst ds) (.ref a):=by unfold Rep;exact⟨a,xs,rfl,q,r⟩
noncomputable def zJ6(G:QqE)(n:Nat)(H:Hp):Prop:=∀a,G=some a->∃(I:List Int) (_ _:Nat),H a=some (.lst (I.map V.int))/\I.length=n/\(∀x∈I,0<=x)/\∀x,I[1]?=some x->x<2147483647
structure AC where
 K:W.Frag
 G:Option Addr
 Z0:Addr->Prop
 H0:Hp
noncomputable abbrev Rho:=List (Option D)
noncomputable def Zof(A:AC)(os:List (Nat × Addr)):Addr->Prop:=λa=>A.Z0 a\/∃p∈os,p.2=a
noncomputable def SlotR(A:AC)(os:List (Nat × Addr))(H:Hp)(i:Nat):D->V->Prop
 |.own ds,v=>∃a xs,v=.ref a/\(i,a)∈os/\H a=some (.lst xs)/\Reps A.K A.G (Zof A os) H ds xs
 |d,v=>Rep A.K A.G (Zof A os) H d v
noncomputable def qE:List Str:=["_law_grown"]
noncomputable def qr(K:W.Frag)(P:Addr)(q:Str):Prop:=∃x∈qE,∃c,W.tabIn K x=some (c,P)/\q=(x ++ ".<locals>.") ++ "<lambda>"
noncomputable def ZOk(K:W.Frag)(G:QqE)(Z:QqA)(H:Hp):Prop:=(∀a,Z a->H a≠none)/\∀P q,qr K P q->H P=some (.cot q)/\G≠some P
structure AmO(A:AC)(os:List (Nat × Addr))(n:Nat)(rho:Rho)(sg:St)(H:Hp)(ds:List D)(vs:List V):Prop where
 len:rho.length=sg.length
 slot:∀i d,rho[i]?=some (some d)->∃v,sg[i]?=some (some v)/\SlotR A os H i d v
 pend:Reps A.K A.G (Zof A os) H ds vs
 nd:os.Pairwise λp q=>p.1≠q.1/\p.2≠q.2
 fresh:∀p∈os,A.H0 p.2=none/\¬ A.Z0 p.2/\H p.2≠none
 st:zJ6 A.G n H
 gz:∀a,A.G=some a->A.Z0 a
 fr:∀a o,A.G≠some a->A.H0 a=some o->H a=some o
 z0:ZOk A.K A.G A.Z0 A.H0
noncomputable def Am(A:AC)(n:Nat)(rho:Rho)(sg:St)(H:Hp)(ds:List D)(vs:List V):Prop:=∃os,AmO A os n rho sg H ds vs
section
variable {A:AC}{os:List (Nat × Addr)}{n:Nat}{rho:Rho}{sg:St}{H:Hp}{ds:List D}{vs:List V}{d:D}{v:V}
theorem AmO.zH(I:AmO A os n rho sg H ds vs):∀a,Zof A os a->H a≠none:=λa h=>by
 rcases h with h |⟨p,J,rfl⟩
 ·by_cases e : A.G = some a
  ·obtain⟨x,y,z,q,_⟩:=I.st a e;rw[q];simp
  ·cases q : A.H0 a with
   |none=>exact absurd q (I.z0.1 a h)
   |some o=>rw[I.fr a o e q];simp
 ·exact(I.fresh p J).2.2
theorem AmO.zO(I:AmO A os n rho sg H ds vs):ZOk A.K A.G (Zof A os) H:=⟨I.zH,λP q t=>⟨I.fr P _ (I.z0.2 P q t).2 (I.z0.2 P q t).1,(I.z0.2 P q t).2⟩⟩
theorem SlotR.mono{os':List (Nat × Addr)}{H':Hp}{i:Nat}(I:∀a,H a≠none->Zof A os' a->Zof A os a)(J:∀a o,¬ Zof A os a->H a=some o->H' a=some o)
  (W:∀a xs,(i,a)∈os->H a=some (.lst xs)->(i,a)∈os'/\H' a=some (.lst xs)):∀(d:D) (v:V),SlotR A os H i d v->SlotR A os' H' i d v
 |.own ds,v,h=>by
  obtain⟨a,xs,e,m,q,r⟩:=h;obtain⟨m',q'⟩:=W a xs m q;exact⟨a,xs,e,m',q',Reps.mono I J ds xs r⟩
 |.non,v,h=>Rep.mono I J _ _ h
 |.bl _,v,h=>Rep.mono I J _ _ h
 |.int _,v,h=>Rep.mono I J _ _ h
 |.str _,v,h=>Rep.mono I J _ _ h
 |.ty _,v,h=>Rep.mono I J _ _ h
 |.tup _,v,h=>Rep.mono I J _ _ h
 |.lst _,v,h=>Rep.mono I J _ _ h
 |.st,v,h=>Rep.mono I J _ _ h
 |.fz _,v,h=>Rep.mono I J _ _ h
 |.dic,v,h=>Rep.mono I J _ _ h
 |.dct _ _,v,h=>Rep.mono I J _ _ h
noncomputable def we:D->Bool
 |.own _=>false
 |_=>true
theorem SlotR.rep{i:Nat}:∀{d:D}{v:V},we d=true->SlotR A os H i d v->Rep A.K A.G (Zof A os) H d v
 |.own _,_,h,_=>by simp[we] at h
 |.non,_,_,h=>h
 |.bl _,_,_,h=>h
 |.int _,_,_,h=>h
 |.str _,_,_,h=>h
 |.ty _,_,_,h=>h
 |.tup _,_,_,h=>h
 |.lst _,_,_,h=>h
 |.st,_,_,h=>h
 |.fz _,_,_,h=>h
 |.dic,_,_,h=>h
 |.dct _ _,_,_,h=>h
theorem SlotR.of{i:Nat}:∀{d:D}{v:V},Rep A.K A.G (Zof A os) H d v->SlotR A os H i d v
 |.own _,_,h=>by unfold Rep at h;exact h.elim
 |.non,_,h=>h
 |.bl _,_,h=>h
 |.int _,_,h=>h
 |.str _,_,h=>h
 |.ty _,_,h=>h
 |.tup _,_,h=>h
 |.lst _,_,h=>h
 |.st,_,h=>h
 |.fz _,_,h=>h
 |.dic,_,h=>h
 |.dct _ _,_,h=>h
theorem AmO.push(I:AmO A os n rho sg H ds vs)(h:Rep A.K A.G (Zof A os) H d v):AmO A os n rho sg H (d::ds) (v::vs):=
 ⟨I.len,I.slot,.cons h I.pend,I.nd,I.fresh,I.st,I.gz,I.fr,I.z0⟩
theorem AmO.pends{es:List D}{ws:List V}(I:AmO A os n rho sg H ds vs)(h:Reps A.K A.G (Zof A os) H es ws):AmO A os n rho sg H es ws:=
 ⟨I.len,I.slot,h,I.nd,I.fresh,I.st,I.gz,I.fr,I.z0⟩
theorem AmO.pop(I:AmO A os n rho sg H (d::ds) (v::vs)):AmO A os n rho sg H ds vs/\Rep A.K A.G (Zof A os) H d v:=⟨I.pends I.pend.inv.2,I.pend.inv.1⟩
theorem AmO.grow{p:Addr}{o:HO}(I:AmO A os n rho sg H ds vs)(Y:H p=none):AmO A os n rho sg (upd H p o) ds vs:=by
 have J:∀a u,H a=some u->upd H p o a=some u:=λa u e=>by rw[wE (yz e Y)];exact e
 refine⟨I.len,λi d e=>?_,Reps.mono (λ_ _ z=>z) (λa u _ e=>J a u e) _ _ I.pend,I.nd,λq W=>?_,λa e=>?_,I.gz,λa u h e=>J a u (I.fr a u h e),I.z0⟩
 ·obtain⟨v,e1,e2⟩:=I.slot i d e;exact⟨v,e1,SlotR.mono (λ_ _ z=>z) (λa u _ e=>J a u e) (λa xs m q=>⟨m,J a _ q⟩) _ _ e2⟩
 ·obtain ⟨f1, f2, f3⟩ := I.fresh q W;refine⟨f1,f2,?_⟩
  cases e:H q.2 with
  |none=>exact absurd e f3
  |some u=>rw[J _ _ e];simp
 ·obtain⟨x,y,z,q,r⟩:=I.st a e;exact⟨x,y,z,J _ _ q,r⟩
theorem AmO.newTup{p:Addr}{es:List D}{xs:List V}(I:AmO A os n rho sg H ds vs)(r:Reps A.K A.G (Zof A os) H es xs)(J:H p=none):AmO A os n rho sg (upd H p (.tup xs)) (.tup es::ds) (.ref p::vs):=by
 have g:=I.grow (o:=.tup xs) J;refine g.push (.tup_mk (.inl ⟨λz=>I.zH p z J,.inl yK⟩) ?_)
 exact Reps.mono (λ_ _ z=>z) (λa u _ e=>by rw[wE (yz e J)];exact e) _ _ r
theorem AmO.newLst{p:Addr}{es:List D}{xs:List V}(I:AmO A os n rho sg H ds vs)(r:Reps A.K A.G (Zof A os) H es xs)(J:H p=none):AmO A os n rho sg (upd H p (.lst xs)) (.lst es::ds) (.ref p::vs):=by
 have g:=I.grow (o:=.lst xs) J;refine g.push (.lst_mk ⟨λz=>I.zH p z J,yK⟩ ?_)
 exact Reps.mono (λ_ _ z=>z) (λa u _ e=>by rw[wE (yz e J)];exact e) _ _ r
theorem AmO.set{i:Nat}(I:AmO A os n rho sg H (d::ds) (v::vs))(hi:i<rho.length):AmO A (os.filter λp=>decide (p.1≠i)) n (rho.set i (some d)) (sg.set i (some v)) H ds vs:=by
 obtain⟨J,Y⟩:=I.pop
 have sub:∀a,H a≠none->Zof A (os.filter λp=>decide (p.1≠i)) a->Zof A os a:=λa _ z=>by
  rcases z with z |⟨p,W,e⟩
  ·exact .inl z
  ·exact .inr ⟨p,(xf.mp W).1,e⟩
 refine⟨by simp[I.len],λj c e=>?_,Reps.mono sub (λ_ _ _ e=>e) _ _ J.pend,I.nd.filter _,λp W=>I.fresh p (xf.mp W).1,I.st,I.gz,I.fr,I.z0⟩
 by_cases hj:j=i
 ·subst hj;rw[xl hi] at e;cases e
  exact⟨v,xl (by rw[<- I.len];exact hi),SlotR.of (Rep.mono sub (λ_ _ _ e=>e) _ _ Y)⟩
 ·rw [xq (Ne.symm hj)] at e;obtain⟨u,e1,e2⟩:=I.slot j c e
  exact⟨u,by rw[xq (Ne.symm hj)];exact e1,SlotR.mono sub (λ_ _ _ e=>e) (λa xs m q=>⟨xf.mpr ⟨m,by simpa using hj⟩,q⟩) _ _ e2⟩
end
noncomputable abbrev TD:=Rho->Nat->(D->Nat->Prop)->Prop
noncomputable abbrev TBD:=Rho->Nat->(Bool->Nat->Prop)->Prop
noncomputable abbrev TAD:=Rho->Nat->(List D->Nat->Prop)->Prop
noncomputable def tOf(A:AC)(t:TD):TE:=λsg H Q=>∃rho n P ds vs,Am A n rho sg H ds vs/\t rho n P/\∀v H' n' d,Am A n' rho sg H' (d::ds) (v::vs)->P d n'->Q v H'
noncomputable def zc8(A:AC)(t:TBD):TT:=λsg H Q=>∃rho n P ds vs,Am A n rho sg H ds vs/\t rho n P/\∀b H' n',Am A n' rho sg H' ds vs->P b n'->Q b H'
noncomputable def xz8(A:AC)(t:TAD):TA:=λsg H Q=>∃rho n P ds vs,Am A n rho sg H ds vs/\t rho n P/\∀ws H' n' es,Am A n' rho sg H' (es++ds) (ws++vs)->ws.length=es.length->P es n'->Q ws H'
@[irreducible] noncomputable def PD(A:AC)(X:Cx)(e:Expr)(t:TD):Prop:=PE X e (tOf A t)
@[irreducible] noncomputable def PTD(A:AC)(X:Cx)(e:Expr)(t:TBD):Prop:=PT X e (zc8 A t)
@[irreducible] noncomputable def PWD(A:AC)(X:Cx)(e:Expr)(t:TBD):Prop:=PW X e (zc8 A t)
@[irreducible] noncomputable def PAD(A:AC)(X:Cx)(es:List Expr)(t:TAD):Prop:=PA X es (xz8 A t)
theorem PE.imp{X:Cx}{e:Expr}{t t':TE}(h:PE X e t)(hi:∀sg H Q,t' sg H Q->t sg H Q):PE X e t':=λJ s sg H Q I q=>h J s sg H Q I (hi _ _ _ q)
theorem PT.imp{X:Cx}{e:Expr}{t t':TT}(h:PT X e t)(hi:∀sg H Q,t' sg H Q->t sg H Q):PT X e t':=λJ s sg H Q I q=>h J s sg H Q I (hi _ _ _ q)
theorem PW.imp{X:Cx}{e:Expr}{t t':TT}(h:PW X e t)(hi:∀sg H Q,t' sg H Q->t sg H Q):PW X e t':=λW J s sg H Q I q=>h W J s sg H Q I (hi _ _ _ q)
theorem PA.imp{X:Cx}{e:List Expr}{t t':TA}(h:PA X e t)(hi:∀sg H Q,t' sg H Q->t sg H Q):PA X e t':=λps J s sg H Q I q=>h ps J s sg H Q I (hi _ _ _ q)
theorem PS.imp{X:Cx}{e:Stmt}{t t':TS}(h:PS X e t)(hi:∀E sg H,t' E sg H->t E sg H):PS X e t':=λJ s sg H Q I q=>h J s sg H Q I (hi _ _ _ q)
theorem PSs.imp{X:Cx}{e:List Stmt}{t t':TS}(h:PSs X e t)(hi:∀E sg H,t' E sg H->t E sg H):PSs X e t':=λJ s sg H Q I q=>h J s sg H Q I (hi _ _ _ q)
section
variable {A:AC}{X:Cx}{a b c e:Expr}{es:List Expr}{ta tb tc:TD}{pos:Pos}
noncomputable def atD(d:D)(k:D->Prop):Prop:=match d with
 |.own _=>False
 |.non=>k .non
 |.bl b=>k (.bl b)
 |.int b=>k (.int b)
 |.str b=>k (.str b)
 |.ty b=>k (.ty b)
 |.tup b=>k (.tup b)
 |.lst b=>k (.lst b)
 |.fz b=>k (.fz b)
 |.st=>k .st
 |.dic=>k .dic
 |.dct a b=>k (.dct a b)
theorem zv7{d:D}{k:D->Prop}(h:atD d k):we d=true/\k d:=by
 cases d<;>first |exact⟨rfl,h⟩ |exact h.elim
theorem zJ5{d:D}{k:D->Prop}(h:we d=true)(q:k d):atD d k:=by
 cases d<;>first |exact q |(simp[we] at h;done)
noncomputable def atV(o:Option (Option D))(k:D->Prop):Prop:=match o with |some (some d)=>atD d k |_=>False
theorem zS9{o:Option (Option D)}{k:D->Prop}(h:atV o k):∃d,o=some (some d)/\we d=true/\k d:=by
 match o,h with
 |some (some d),h=>exact⟨d,rfl,zv7 h⟩
noncomputable def xG0(i:Nat):TD:=λrho n P=>atV rho[i]? λd=>P d n
noncomputable def dC(d:D):TD:=λ_ n P=>P d n
theorem zd(i:Nat){x:Str}(hN:X.N[i]?=some x:=by rfl)(hv:Vis X.env.scope x:=by first |exact Or.inl rfl |exact Or.inr (Or.inl rfl) |exact Or.inr (Or.inr rfl))(hd:(x == ("__debug__" : Str))=false:=by decide)
  (J:(x == ("__classdict__" : Str))=false:=by decide):PD A X (.Name x pos) (xG0 i):=by
 exists (Zs hN hv hd J).imp λsg H Q h=>by
   obtain⟨rho,n,P,ds,vs,⟨os,I⟩,hh,W⟩:=h;obtain⟨d,e,hd,q⟩:=zS9 hh;obtain⟨v,e1,Y⟩:=I.slot i d e;exact⟨v,e1,W v H n d ⟨os,I.push (Y.rep hd)⟩ q⟩
theorem zt2{d:D}(W:qp d=true){t:TE}(J:∀sg H Q,Q (ofS d) H->t sg H Q)(h:PE X e t):PD A X e (dC d):=by
 exists h.imp λsg H Q q=>by
   obtain⟨rho,n,P,ds,vs,⟨os,I⟩,q,Y⟩:=q;exact J _ _ _ (Y _ H n d ⟨os,I.push (Rep.ofS W)⟩ q)
theorem zm{i:Int}{j:Nat}:PD A X (.Constant (.int i) j pos) (dC (.int i)):=by exists zt2 rfl (λ_ _ _ q=>q) KB
theorem kU{i:Bool}{j:Nat}:PD A X (.Constant (.bool i) j pos) (dC (.bl i)):=by exists zt2 rfl (λ_ _ _ q=>q) xa2
theorem yc{j:Nat}:PD A X (.Constant .none j pos) (dC .non):=by exists zt2 rfl (λ_ _ _ q=>q) xa1
theorem vC{x:Str}{j:Nat}:PD A X (.Constant (.str x) j pos) (dC (.str x)):=by exists zt2 rfl (λ_ _ _ q=>q) zG9
theorem jS{x:Str}{T:String}(J:Gl X x:=by rfl)(hm:X.mg x=none)(hv:bootBuiltins x=some (.type T))(I:x ≠ "__name__" := by decide)(hd:(x == ("__debug__" : Str))=false:=by decide):PD A X (.Name x pos) (dC (.ty T)):=by
 exists 
   zt2 rfl (λ_ _ _ q=>q) (zO1 J hm hv (v:=.ty T) rfl I hd)
noncomputable abbrev RD2:=D->D->(D->Prop)->Prop
noncomputable def qI(A:AC)(r:R2)(J:RD2):Prop:=
 ∀os n rho sg H ds vs d1 d2 v1 I (k:D->Prop) (Q:VK),AmO A os n rho sg H (d2::d1::ds) (I::v1::vs)->J d1 d2 k->(∀v H' d,Am A n rho sg H' (d::ds) (v::vs)->k d->Q v H')->r v1 I H Q
noncomputable def dOp(I:RD2)(ta tb:TD):TD:=λrho n P=>ta rho n λd1 W=>tb rho W λd2 J=>I d1 d2 λd=>P d J
noncomputable def zs7(t:TD):TBD:=λrho n P=>t rho n λd n'=>∃b,d=.bl b/\P b n'
theorem QO{r:R2}{W:RD2}(hr:qI A r W){sg:St}{H:Hp}{Q:VK}(h:tOf A (dOp W ta tb) sg H Q):tOp r (tOf A ta) (tOf A tb) sg H Q:=by
 obtain⟨rho,n,P,ds,vs,I,ht,hQ⟩:=h;exact⟨rho,n,_,ds,vs,I,ht,λv1 H1 n1 d1 I1 h1=>⟨rho,n1,_,d1::ds,v1::vs,I1,h1,λv2 H2 n2 d2 ⟨Y,I2⟩ h2=>hr _ _ _ _ _ _ _ _ _ _ _ _ Q I2 h2 λv H' d J k=>hQ v H' n2 d J k⟩⟩
theorem VV{t:TE}{W:TD}(h:∀sg H Q,tOf A W sg H Q->t sg H Q){sg:St}{H:Hp}{Q:Bool->Hp->Prop}(q:zc8 A (zs7 W) sg H Q):zV3 t sg H Q:=by
 obtain⟨rho,n,P,ds,vs,I,Y,hQ⟩:=q;refine h _ _ _ ⟨rho,n,_,ds,vs,I,Y,λv H' n' d ⟨os,J⟩ k=>?_⟩;obtain⟨b,rfl,k⟩:=k;obtain⟨J1,r⟩:=J.pop;exact⟨b,r.bl_inv,hQ b H' n' ⟨os,J1⟩ k⟩
theorem kT{op:Operator}{r:R2}{I:RD2}(W:OpR X (binaryOp op) r)(J:qI A r I)(ha:PD A X a ta)(Y:PD A X b tb):PD A X (.BinOp a op b pos) (dOp I ta tb):=by exists (xv9 W ha Y).imp λ_ _ _=>QO J
theorem kw{op:CmpOp}{r:R2}{I:RD2}(W:OpR X (compareOp op) r)(J:qI A r I)(ha:PD A X a ta)(Y:PD A X b tb)(hm:behindInMarks op b=false):PD A X (.Compare a [op] [b] pos) (dOp I ta tb):=by exists (zO0 W ha Y hm).imp λ_ _ _=>QO J
theorem xF{op:CmpOp}{r:R2}{I:RD2}(W:OpR X (compareOp op) r)(J:qI A r I)(ha:PD A X a ta)(Y:PD A X b tb)(hm:behindInMarks op b=false):PTD A X (.Compare a [op] [b] pos) (zs7 (dOp I ta tb)):=by
 exists 
   (zk9 W ha Y hm).imp λ_ _ _=>VV λ_ _ _=>QO J
theorem xV{r:R2}{I:RD2}(hi:IxR X r)(W:qI A r I)(ha:PD A X a ta)(Y:PD A X b tb)(J:UR b):PD A X (.Subscript a b pos) (dOp I ta tb):=by exists (zN6 hi ha Y J).imp λ_ _ _=>QO W
theorem vb(ha:PD A X a ta)(J:∀I,isTrue a X.env I=(do let v <- I;standAt a.pos;holding [v] (truthy v)):=by intro _;rfl):PTD A X a (zs7 ta):=by exists (zZ1 ha J).imp λ_ _ _=>VV λ_ _ _ q=>q
noncomputable def rdI(C:Int->Int->Prop)(g:Int->Int->D):RD2:=λd1 d2 k=>match d1,d2 with |.int i,.int j=>C i j/\k (g i j) |_,_=>False
theorem zL7{C:Int->Int->Prop}{g:Int->Int->D}{d1 d2:D}{k:D->Prop}(h:rdI C g d1 d2 k):∃i j,d1=.int i/\d2=.int j/\C i j/\k (g i j):=by
 unfold rdI at h
 split at h
 ·exact⟨_,_,rfl,rfl,h⟩
 ·exact h.elim
noncomputable def zy8(g:Int->Int->D):RD2:=λd1 d2 k=>match d1,d2 with |.int i,.int j=>k (g i j) |_,_=>False
theorem zy7{g:Int->Int->D}{d1 d2:D}{k:D->Prop}(h:zy8 g d1 d2 k):∃i j,d1=.int i/\d2=.int j/\k (g i j):=by
 unfold zy8 at h
 split at h
 ·exact⟨_,_,rfl,rfl,h⟩
 ·exact h.elim
theorem zy4{C:Int->Int->Prop}{g:Int->Int->V}{gd:Int->Int->D}(Y:∀i j,qp (gd i j)=true)(hg:∀i j,ofS (gd i j)=g i j):qI A (rI C g) (rdI C gd):=by
 rintro os n rho sg H ds vs d1 d2 v1 v2 k Q I hh hQ;obtain⟨i,j,rfl,rfl,hc,q⟩:=zL7 hh;obtain⟨I1,J⟩:=I.pop;obtain⟨I2,W⟩:=I1.pop
 exact⟨i,j,W.int_inv,J.int_inv,hc,hQ _ H _ ⟨os,I2.push (by rw[<- hg];exact Rep.ofS (Y i j))⟩ q⟩
theorem Kw{g:Int->Int->V}{gd:Int->Int->D}(Y:∀i j,qp (gd i j)=true)(hg:∀i j,ofS (gd i j)=g i j):qI A (rI0 g) (zy8 gd):=by
 rintro os n rho sg H ds vs d1 d2 v1 v2 k Q I hh hQ;obtain⟨i,j,rfl,rfl,q⟩:=zy7 hh;obtain⟨I1,J⟩:=I.pop;obtain⟨I2,W⟩:=I1.pop
 exact⟨i,j,W.int_inv,J.int_inv,hQ _ H _ ⟨os,I2.push (by rw[<- hg];exact Rep.ofS (Y i j))⟩ q⟩
noncomputable abbrev xO2:TD->TD->TD:=dOp (zy8 λi j=>.int (i+j))
noncomputable abbrev xN3:TD->TD->TD:=dOp (zy8 λi j=>.int (i-j))
noncomputable abbrev xN7:TD->TD->TD:=dOp (rdI CMul λi j=>.int (i*j))
noncomputable abbrev xN8:TD->TD->TD:=dOp (rdI (λ_ j=>0<j) λi j=>.int (i%j))
noncomputable abbrev xO1:TD->TD->TD:=dOp (rdI xH2 λi j=>.int (i/j))
noncomputable abbrev xN6:TD->TD->TD:=dOp (rdI xH1 λi j=>.int (i^j.toNat))
theorem ky(ha:PD A X a ta)(I:PD A X b tb):PD A X (.BinOp a .Add b pos) (xO2 ta tb):=by exists kT xb2 (Kw (λ_ _=>rfl) λ_ _=>rfl) ha I
theorem Vq(ha:PD A X a ta)(I:PD A X b tb):PD A X (.BinOp a .Sub b pos) (xN3 ta tb):=by exists kT xa6 (Kw (λ_ _=>rfl) λ_ _=>rfl) ha I
theorem jU(ha:PD A X a ta)(I:PD A X b tb):PD A X (.BinOp a .Mult b pos) (xN7 ta tb):=by exists kT xa8 (zy4 (λ_ _=>rfl) λ_ _=>rfl) ha I
theorem qw(ha:PD A X a ta)(I:PD A X b tb):PD A X (.BinOp a .Mod b pos) (xN8 ta tb):=by exists kT xa9 (zy4 (λ_ _=>rfl) λ_ _=>rfl) ha I
theorem Xa(ha:PD A X a ta)(I:PD A X b tb):PD A X (.BinOp a .FloorDiv b pos) (xO1 ta tb):=by exists kT zO4 (zy4 (λ_ _=>rfl) λ_ _=>rfl) ha I
theorem Vr(ha:PD A X a ta)(I:PD A X b tb):PD A X (.BinOp a .Pow b pos) (xN6 ta tb):=by exists kT xa7 (zy4 (λ_ _=>rfl) λ_ _=>rfl) ha I
noncomputable abbrev xI6:RD2:=zy8 λi j=>.bl (decide (i<j))
noncomputable abbrev xI7:RD2:=zy8 λi j=>.bl (decide (j<i))
noncomputable abbrev xI8:RD2:=zy8 λi j=>.bl (decide (j<=i))
theorem zy5:qI A (rI0 λi j=>.bl (decide (i<j))) xI6:=Kw (g:=λi j=>.bl (decide (i<j))) (λ_ _=>rfl) λ_ _=>rfl
theorem WN:qI A (rI0 λi j=>.bl (decide (j<i))) xI7:=Kw (g:=λi j=>.bl (decide (j<i))) (λ_ _=>rfl) λ_ _=>rfl
theorem zW9:qI A (rI0 λi j=>.bl (decide (j<=i))) xI8:=Kw (g:=λi j=>.bl (decide (j<=i))) (λ_ _=>rfl) λ_ _=>rfl
noncomputable def zG5:RD2:=λd1 d2 k=>qp d1=true/\qp d2=true/\xh4 (ofS d1) (ofS d2)=true/\k (.bl (decide (ofS d1=ofS d2)))
noncomputable def zT3:RD2:=λd1 d2 k=>qp d1=true/\qp d2=true/\xh4 (ofS d1) (ofS d2)=true/\k (.bl (!decide (ofS d1=ofS d2)))
theorem jx:qI A rEq zG5:=by
 rintro os n rho sg H ds vs d1 d2 v1 v2 k Q I ⟨h1,h2,h3,q⟩ Y;obtain⟨I1,J⟩:=I.pop;obtain⟨I2,W⟩:=I1.pop;rw[W.toS h1,J.toS h2];exact⟨h3,Y _ H _ ⟨os,I2.push (Rep.ofS rfl)⟩ q⟩
theorem zd4:qI A rNe zT3:=by
 rintro os n rho sg H ds vs d1 d2 v1 v2 k Q I ⟨h1,h2,h3,q⟩ Y;obtain⟨I1,J⟩:=I.pop;obtain⟨I2,W⟩:=I1.pop;rw[W.toS h1,J.toS h2];exact⟨h3,Y _ H _ ⟨os,I2.push (Rep.ofS rfl)⟩ q⟩
noncomputable def qj:D->Bool
 |.non=>true
 |_=>false
theorem Rep.non_iff{K:W.Frag}{G:QqE}{Z:QqA}{H:Hp}{v:V}:∀{d:D},Rep K G Z H d v->decide (v=.non)=qj d
 |.non,h=>by unfold Rep at h;rw[h];rfl
 |.bl b,h=>by unfold Rep at h;rw[h];rfl
 |.int b,h=>by unfold Rep at h;rw[h];rfl
 |.str b,h=>by unfold Rep at h;rw[h];rfl
 |.ty b,h=>by unfold Rep at h;rw[h];rfl
 |.st,h=>by unfold Rep at h;obtain⟨a,_,h⟩:=h;rw[h];rfl
 |.tup ds,h=>by obtain⟨a,xs,h,_⟩:=h.tup_inv;rw[h];rfl
 |.lst ds,h=>by obtain⟨a,xs,h,_⟩:=h.lst_inv;rw[h];rfl
 |.own ds,h=>by unfold Rep at h;exact h.elim
 |.fz ds,h=>by obtain⟨a,xs,h,_⟩:=h.fz_inv;rw[h];rfl
 |.dic,h=>by unfold Rep at h;obtain⟨a,I,h,_⟩:=h;rw[h];rfl
 |.dct _ _,h=>by unfold Rep at h;obtain⟨a,xs,h,_⟩:=h;rw[h];rfl
noncomputable def zX4:RD2:=λd1 d2 k=>d2=.non/\k (.bl (qj d1))
noncomputable def zG4:RD2:=λd1 d2 k=>d2=.non/\k (.bl (!qj d1))
theorem ku:qI A (λx y H Q=>y=.non/\Q (.bl (decide (x=.non))) H) zX4:=by
 rintro os n rho sg H ds vs d1 d2 v1 J k Q I ⟨rfl,q⟩ hQ;obtain⟨I1,W⟩:=I.pop;obtain⟨I2,Y⟩:=I1.pop;have e:J=.non:=W.toS rfl
 exact⟨e,by rw[Y.non_iff];exact hQ _ H _ ⟨os,I2.push (Rep.ofS (d:=.bl (qj d1)) rfl)⟩ q⟩
theorem qB:qI A (λx y H Q=>y=.non/\Q (.bl (!decide (x=.non))) H) zG4:=by
 rintro os n rho sg H ds vs d1 d2 v1 J k Q I ⟨rfl,q⟩ hQ;obtain⟨I1,W⟩:=I.pop;obtain⟨I2,Y⟩:=I1.pop;have e:J=.non:=W.toS rfl
 exact⟨e,by rw[Y.non_iff];exact hQ _ H _ ⟨os,I2.push (Rep.ofS (d:=.bl (!qj d1)) rfl)⟩ q⟩
noncomputable def rdB(f:Bool->Bool->Bool):RD2:=λd1 d2 k=>match d1,d2 with |.bl c,.bl d=>k (.bl (f c d)) |_,_=>False
noncomputable def Yi:RD2:=λd1 d2 k=>∃es i d,(d1=.lst es\/d1=.tup es\/d1=.fz es)/\d2=.int i/\atI es i=some d/\k d
theorem UP{K:W.Frag}{G:QqE}{Z:QqA}{H:Hp}{es:List D}{xs:List V}{i:Int}{d:D}(h:Reps K G Z H es xs)(e:atI es i=some d):∃v,atI xs i=some v/\Rep K G Z H d v:=by
 unfold atI at e ⊢;rw[h.length]
 cases q:ixN es.length i with
 |none=>rw[q] at e;cases e
 |some j=>
  rw[q] at e;exact h.get (i:=j) e
theorem xU:qI A (rIx A.K) Yi:=by
 rintro os n rho sg H ds vs d1 d2 v1 v2 k Q I ⟨es,i,d,h1,rfl,h2,q⟩ hQ;obtain⟨I1,Y⟩:=I.pop;obtain⟨I2,r1⟩:=I1.pop
 rcases h1 with rfl |rfl |rfl
 ·obtain⟨a,xs,e,sq,J⟩:=r1.lst_inv;obtain⟨v,W,rv⟩:=UP J h2;exact .inl ⟨a,xs,i,v,e,Y.int_inv,sq.sq,W,hQ v H d ⟨os,I2.push rv⟩ q⟩
 ·obtain⟨a,xs,e,sq,J⟩:=r1.tup_inv;obtain⟨v,W,rv⟩:=UP J h2;exact .inr (.inl ⟨a,xs,i,v,e,Y.int_inv,sq.sq,W,hQ v H d ⟨os,I2.push rv⟩ q⟩)
 ·obtain⟨a,xs,e,sq,J⟩:=r1.fz_inv;obtain⟨v,W,rv⟩:=UP J h2;exact .inl ⟨a,xs,i,v,e,Y.int_inv,sq,W,hQ v H d ⟨os,I2.push rv⟩ q⟩
noncomputable def zL8:RD2:=λd1 d2 k=>∃es fs,d1=.lst es/\d2=.lst fs/\es.length+fs.length<=sizeLine/\k (.lst (es++fs))
theorem Kx:qI A xB0 zL8:=by
 rintro os n rho sg H ds vs d1 d2 v1 v2 k Q I ⟨es,fs,rfl,rfl,hz,q⟩ hQ;obtain⟨I1,W⟩:=I.pop;obtain⟨I2,Y⟩:=I1.pop;obtain⟨a,xs,e,sq,J⟩:=Y.lst_inv;obtain⟨b,ys,e',sq',rs'⟩:=W.lst_inv
 exact⟨a,b,xs,ys,e,e',sq.2,sq'.2,by rw[J.length,rs'.length];exact hz,λp hp=>hQ _ _ _ ⟨os,I2.newLst (J.append rs') hp⟩ q⟩
noncomputable def zk6:RD2:=λd1 d2 k=>∃es i,d1=.tup es/\d2=.int i/\es≠[]/\1<=i/\es.length*i.toNat<=sizeLine/\k (.tup (replicate i.toNat es).flatten)
theorem zL6:qI A (zX7 A.K) zk6:=by
 rintro os n rho sg H ds vs d1 d2 v1 v2 k Q I ⟨es,i,rfl,rfl,J,h1,hz,q⟩ hQ;obtain⟨I1,r2⟩:=I.pop;obtain⟨I2,r1⟩:=I1.pop;have r1':=r1;obtain⟨a,xs,e,sq,Y⟩:=r1.tup_inv;have W:=Y.length
 refine⟨a,i,xs,e,r2.int_inv,sq.sq,λz=>J ?_,h1,by rw[W];exact hz,λhi=>?_,λhi p hp=>?_⟩
 ·rw[z] at W;exact xO.mp W.symm
 ·subst hi
  have e1:(replicate (1:Int).toNat es).flatten=es:=by simp
  rw[e1] at q;rw[e] at r1';exact hQ _ H _ ⟨os,I2.push r1'⟩ q
 ·exact hQ _ _ _ ⟨os,I2.newTup (Y.flatRep i.toNat) hp⟩ q
theorem KF(ha:PD A X a ta):PD A X (.UnaryOp .USub a pos) (λrho n P=>ta rho n λd n'=>∃i,d=.int i/\P (.int (-i)) n'):=by
 exists (xv7 zU5 ha).imp λsg H Q h=>by
   obtain⟨rho,n,P,ds,vs,I,W,Y⟩:=h;refine⟨rho,n,_,ds,vs,I,W,λv H' n' d ⟨os,J⟩ k=>?_⟩;obtain⟨i,rfl,k⟩:=k;obtain⟨J1,r⟩:=J.pop;exact⟨i,r.int_inv,Y _ H' n' _ ⟨os,J1.push (Rep.ofS (d:=.int (-i)) rfl)⟩ k⟩
variable {t u:TBD}{rest:List Expr}
noncomputable def xz2(t u:TBD):TBD:=λrho n P=>t rho n λc I=>if c=true then u rho I P else P false I
noncomputable def bOr(t u:TBD):TBD:=λrho n P=>t rho n λc I=>if c=true then P true I else u rho I P
noncomputable def xG7(t:TBD):TBD:=λrho n P=>t rho n λc I=>P (!c) I
theorem qv(ha:PTD A X a t):PWD A X (.BoolOp .And [a] pos) t:=by exists zM4 ha
theorem qa(ha:PTD A X a t):PWD A X (.BoolOp .Or [a] pos) t:=by exists zY9 ha
theorem qb(ha:PTD A X a t)(hb:PWD A X (.BoolOp .And (b::rest) pos) u):PWD A X (.BoolOp .And (a::b::rest) pos) (xz2 t u):=by
 exists (zZ0 ha hb).imp λsg H Q h=>by
   obtain⟨rho,n,P,ds,vs,I,Y,W⟩:=h;refine⟨rho,n,_,ds,vs,I,Y,λc H' n' J k=>?_⟩
   cases c with
   |true=>exact⟨rho,n',P,ds,vs,J,k,W⟩
   |false=>exact W _ _ _ J k
theorem kW(ha:PTD A X a t)(hb:PWD A X (.BoolOp .Or (b::rest) pos) u):PWD A X (.BoolOp .Or (a::b::rest) pos) (bOr t u):=by
 exists (xv3 ha hb).imp λsg H Q h=>by
   obtain⟨rho,n,P,ds,vs,I,Y,W⟩:=h;refine⟨rho,n,_,ds,vs,I,Y,λc H' n' J k=>?_⟩
   cases c with
   |false=>exact⟨rho,n',P,ds,vs,J,k,W⟩
   |true=>exact W _ _ _ J k
theorem PWD.pt(h:PWD A X e t):PTD A X e t:=by exists PW.pt h
theorem vX(ha:PTD A X a t):PTD A X (.UnaryOp .Not a pos) (xG7 t):=by
 exists (zZ2 ha).imp λsg H Q h=>by
   obtain⟨rho,n,P,ds,vs,I,W,Y⟩:=h;exact⟨rho,n,_,ds,vs,I,W,λc H' n' J k=>Y _ _ _ J k⟩
noncomputable def xG6(ta tb:TD):TD:=λrho n P=>ta rho n λd I=>∃c,d=.bl c/\if c=true then tb rho I P else P (.bl false) I
noncomputable def dOr(ta tb:TD):TD:=λrho n P=>ta rho n λd I=>∃c,d=.bl c/\if c=true then P (.bl true) I else tb rho I P
noncomputable def xG4(ta:TD):TD:=λrho n P=>ta rho n λd I=>∃c,d=.bl c/\P (.bl (!c)) I
theorem qL{op:BoolOp}(h:PD A X a ta):PD A X (.BoolOp op [a] pos) ta:=by exists zZ9 h
theorem qx(ha:PD A X a ta)(hb:PD A X (.BoolOp .And (b::rest) pos) tb):PD A X (.BoolOp .And (a::b::rest) pos) (xG6 ta tb):=by
 exists (xa3 ha hb).imp λsg H Q h=>by
   obtain⟨rho,n,P,ds,vs,I,ht,W⟩:=h;refine⟨rho,n,_,ds,vs,I,ht,λv H' n' d ⟨os,J⟩ k=>?_⟩;obtain⟨c,rfl,k⟩:=k;obtain⟨Y,r⟩:=J.pop;refine⟨c,r.bl_inv,?_⟩
   cases c with
   |true=>exact⟨rho,n',P,ds,vs,⟨os,Y⟩,k,W⟩
   |false=>exact W _ _ _ _ ⟨os,Y.push (Rep.ofS (d:=.bl false) rfl)⟩ k
theorem xw0(ha:PD A X a ta)(hb:PD A X (.BoolOp .Or (b::rest) pos) tb):PD A X (.BoolOp .Or (a::b::rest) pos) (dOr ta tb):=by
 exists (xv8 ha hb).imp λsg H Q h=>by
   obtain⟨rho,n,P,ds,vs,I,ht,W⟩:=h;refine⟨rho,n,_,ds,vs,I,ht,λv H' n' d ⟨os,J⟩ k=>?_⟩;obtain⟨c,rfl,k⟩:=k;obtain⟨Y,r⟩:=J.pop;refine⟨c,r.bl_inv,?_⟩
   cases c with
   |false=>exact⟨rho,n',P,ds,vs,⟨os,Y⟩,k,W⟩
   |true=>exact W _ _ _ _ ⟨os,Y.push (Rep.ofS (d:=.bl true) rfl)⟩ k
theorem za1(ha:PD A X a ta):PD A X (.UnaryOp .Not a pos) (xG4 ta):=by
 exists (xa0 ha).imp λsg H Q h=>by
   obtain⟨rho,n,P,ds,vs,I,W,Y⟩:=h;refine⟨rho,n,_,ds,vs,I,W,λv H' n' d ⟨os,J⟩ k=>?_⟩;obtain⟨c,rfl,k⟩:=k;obtain⟨J1,r⟩:=J.pop;exact⟨c,r.bl_inv,Y _ _ _ _ ⟨os,J1.push (Rep.ofS (d:=.bl (!c)) rfl)⟩ k⟩
noncomputable def dIf(t:TBD)(ta tb:TD):TD:=λrho n P=>t rho n λc I=>if c=true then ta rho I P else tb rho I P
theorem Xi(hc:PTD A X c t)(ha:PD A X a ta)(hb:PD A X b tb):PD A X (.IfExp c a b pos) (dIf t ta tb):=by
 exists (zz9 hc ha hb).imp λsg H Q h=>by
   obtain⟨rho,n,P,ds,vs,I,Y,W⟩:=h;refine⟨rho,n,_,ds,vs,I,Y,λc H' n' J k=>?_⟩
   cases c with
   |true=>exact⟨rho,n',P,ds,vs,J,k,W⟩
   |false=>exact⟨rho,n',P,ds,vs,J,k,W⟩
variable {t1:TAD}
noncomputable def xz3:TAD:=λ_ n P=>P [] n
noncomputable def xh1(t:TD)(r:TAD):TAD:=λrho n P=>t rho n λd J=>r rho J λds I=>P (d::ds) I
theorem zf:PAD A X [] xz3:=by
 exists Xc.imp λsg H Q h=>by
   obtain⟨rho,n,P,ds,vs,I,J,W⟩:=h;exact W [] H n [] I rfl J
theorem zy3{K:W.Frag}{G:QqE}{Z:QqA}{H:Hp}{es ds:List D}{ws vs:List V}{d:D}{v:V}(h:Reps K G Z H (es++d::ds) (ws++v::vs))(I:ws.length=es.length):Reps K G Z H (d::es++ds) (v::ws++vs):=by
 have h1:=h.take es.length;have h2:=h.drop es.length;rw[take_left' rfl,take_left' I] at h1;rw[yU rfl,yU I] at h2;obtain⟨r,t⟩:=h2.inv;exact .cons r (h1.append t)
noncomputable def kB:Expr->Bool
 |.Starred ..=>true
 |_=>false
theorem sE{e:Expr}{es:List Expr}{env:Env}(h:kB e=false):starEach (e::es) env=(false,eval e env)::starEach es env:=by
 cases e<;>first |(simp[starEach];done) |(simp[kB] at h;done)
theorem zb(ha:PD A X a ta)(hr:PAD A X es t1)(hs:kB a=false:=by rfl):PAD A X (a::es) (xh1 ta t1):=by
 exists (jV ha hr (sE hs)).imp λsg H Q h=>by
   obtain⟨rho,n,P,ds,vs,I,ht,hQ⟩:=h;refine⟨rho,n,_,ds,vs,I,ht,λv H' n' d J k=>⟨rho,n',_,d::ds,v::vs,J,k,λws H2 n2 es' ⟨os,Y⟩ W k2=>?_⟩⟩
   exact hQ (v::ws) H2 n2 (d::es') ⟨os,Y.pends (zy3 Y.pend W)⟩ (by rw[zL,zL,W]) k2
theorem Xx{K:W.Frag}{G:QqE}{Z:QqA}{H:Hp}{es ds:List D}{ws vs:List V}(h:Reps K G Z H (es++ds) (ws++vs))(I:ws.length=es.length):Reps K G Z H es ws/\Reps K G Z H ds vs:=by
 have h1:=h.take es.length;have h2:=h.drop es.length;rw[take_left' rfl,take_left' I] at h1;rw[yU rfl,yU I] at h2;exact⟨h1,h2⟩
noncomputable def xG1(t:TAD):TD:=λrho n P=>t rho n λds I=>ds.length<=sizeLine/\P (.tup ds) I
noncomputable def xy9(t:TAD):TD:=λrho n P=>t rho n λds I=>ds.length<=sizeLine/\P (.lst ds) I
theorem wk{Y}(h:PAD A X es t1):PD A X (.Tuple es Y pos) (xG1 t1):=by
 exists (zZ8 h).imp λsg H Q h=>by
   obtain⟨rho,n,P,ds,vs,I,ht,hQ⟩:=h
   refine⟨rho,n,_,ds,vs,I,ht,λws H' n' es' ⟨os,J⟩ W k=>⟨by rw[W];exact k.1,λp hp=>?_⟩⟩
   obtain⟨q1,q2⟩:=Xx J.pend W;exact hQ _ _ n' _ ⟨os,(J.pends q2).newTup q1 hp⟩ k.2
theorem vp(h:PAD A X es t1):PD A X (.List es pos) (xy9 t1):=by
 exists (QZ h).imp λsg H Q h=>by
   obtain⟨rho,n,P,ds,vs,I,ht,hQ⟩:=h
   refine⟨rho,n,_,ds,vs,I,ht,λws H' n' es' ⟨os,J⟩ W k=>⟨by rw[W];exact k.1,λp hp=>?_⟩⟩
   obtain⟨q1,Y⟩:=Xx J.pend W;exact hQ _ _ n' _ ⟨os,(J.pends Y).newLst q1 hp⟩ k.2
noncomputable def vA(A:AC)(r:List V->Hp->VK->Prop)(I:List D->(D->Prop)->Prop):Prop:=
 ∀os n rho sg H ds vs es ws (k:D->Prop) (Q:VK),AmO A os n rho sg H ds vs->Reps A.K A.G (Zof A os) H es ws->I es k->(∀v H' d,Am A n rho sg H' (d::ds) (v::vs)->k d->Q v H')->r ws H Q
noncomputable def zE4(I:List D->(D->Prop)->Prop)(t:TAD):TD:=λrho n P=>t rho n λes J=>I es λd=>P d J
theorem zF7{r:List V->Hp->VK->Prop}{W:List D->(D->Prop)->Prop}(hr:vA A r W){sg:St}{H:Hp}{Q:VK}(h:tOf A (zE4 W t1) sg H Q):tCB r (xz8 A t1) sg H Q:=by
 obtain⟨rho,n,P,ds,vs,I,ht,hQ⟩:=h;refine⟨rho,n,_,ds,vs,I,ht,λws H' n' es' ⟨os,J⟩ hl k=>?_⟩;obtain⟨q1,Y⟩:=Xx J.pend hl;exact hr _ _ _ _ _ _ _ _ _ _ Q (J.pends Y) q1 k λv H2 d J2 k2=>hQ v H2 n' d J2 k2
theorem xr{x:Str}{p:Pos}{id:String}{r:List V->Hp->VK->Prop}{W:List D->(D->Prop)->Prop}(hc:jr X (.builtin id) r)(Y:vA A r W)(hm:X.mg x=none)(hv:bootBuiltins x=some (.builtin id))(ha:PAD A X (e::es) t1)(hg:Gl X x:=by rfl)(hn:x ≠ "__name__" := by decide)(J:(x == ("__debug__" : Str))=false:=by decide)
  (he:starEach (e::es) X.env=(false,eval e X.env)::starEach es X.env:=by rfl) (I:(backTo pos (starEach es X.env)).any (·.1)=false:=by rfl):PD A X (.Call (.Name x p) (e::es) [] pos) (zE4 W t1):=by
 exists 
   (za0 hc hg hm hv ha hn J he I).imp λ_ _ _=>zF7 Y
theorem wS{x:Str}{p:Pos}{T:String}{r:List V->Hp->VK->Prop}{W:List D->(D->Prop)->Prop}(hc:jr X (.type T) r)(Y:vA A r W)(hm:X.mg x=none)(hv:bootBuiltins x=some (.type T))(ha:PAD A X (e::es) t1)(hg:Gl X x:=by rfl)(hn:x ≠ "__name__" := by decide)(J:(x == ("__debug__" : Str))=false:=by decide)
  (he:starEach (e::es) X.env=(false,eval e X.env)::starEach es X.env:=by rfl) (I:(backTo pos (starEach es X.env)).any (·.1)=false:=by rfl):PD A X (.Call (.Name x p) (e::es) [] pos) (zE4 W t1):=by
 exists 
   (KC hc hg hm hv ha hn J he I).imp λ_ _ _=>zF7 Y
theorem kX{K:W.Frag}{G:QqE}{Z:QqA}{H:Hp}{d:D}{ws:List V}(h:Reps K G Z H [d] ws):∃v,ws=[v]/\Rep K G Z H d v:=by
 obtain⟨v,r,rfl,q,t⟩:=h.split;rw[t.nil_inv];exact⟨v,rfl,q⟩
theorem zd3{K:W.Frag}{G:QqE}{Z:QqA}{H:Hp}{d d':D}{ws:List V}(h:Reps K G Z H [d,d'] ws):∃v v',ws=[v,v']/\Rep K G Z H d v/\Rep K G Z H d' v':=by
 obtain⟨v,r,rfl,q,t⟩:=h.split;obtain⟨v',rfl,q'⟩:=kX t;exact⟨v,v',rfl,q,q'⟩
noncomputable def zD4:List D->(D->Prop)->Prop:=λes k=>∃fs,(es=[.lst fs]\/es=[.tup fs]\/es=[.fz fs])/\k (.int fs.length)
noncomputable def xF8:List D->(D->Prop)->Prop:=λes k=>∃i,es=[.int i]/\k (.int (if i<0 then -i else i))
noncomputable def xe3:List D->(D->Prop)->Prop:=λes k=>∃c,es=[.bl c]/\k (.int (if c then 1 else 0))
noncomputable def xM6:List D->(D->Prop)->Prop:=λes k=>∃bs:List Bool,es=[.lst (bs.map D.bl)]/\k (.bl (bs.all id))
noncomputable def xM5:List D->(D->Prop)->Prop:=λes k=>∃bs:List Bool,es=[.lst (bs.map D.bl)]/\k (.bl (bs.any id))
noncomputable def zq5:List D->(D->Prop)->Prop:=λes k=>∃fs,(es=[.lst fs]\/es=[.tup fs])/\k (.tup fs)
noncomputable def zR2:List D->(D->Prop)->Prop:=λes k=>∃fs,(es=[.lst fs]\/es=[.tup fs])/\k (.lst fs)
theorem vG:vA A (λxs H Q=>∃p ys,xs=[.ref p]/\(SqL A.K H p ys\/SqT A.K H p ys)/\Q (.int ys.length) H) zD4:=by
 rintro os n rho sg H ds vs es ws k Q I W ⟨fs,h,q⟩ Y
 rcases h with rfl |rfl |rfl
 ·obtain ⟨v, rfl, r⟩ := kX W;obtain⟨a,xs,rfl,sq,J⟩:=r.lst_inv
  exact⟨a,xs,rfl,.inl sq.sq,by rw[J.length];exact Y _ H _ ⟨os,I.push (Rep.ofS rfl)⟩ q⟩
 ·obtain ⟨v, rfl, r⟩ := kX W;obtain⟨a,xs,rfl,sq,J⟩:=r.tup_inv
  exact⟨a,xs,rfl,.inr sq.sq,by rw[J.length];exact Y _ H _ ⟨os,I.push (Rep.ofS rfl)⟩ q⟩
 ·obtain ⟨v, rfl, r⟩ := kX W;obtain⟨a,xs,rfl,sq,J⟩:=r.fz_inv
  exact⟨a,xs,rfl,.inl sq,by rw[J.length];exact Y _ H _ ⟨os,I.push (Rep.ofS rfl)⟩ q⟩
theorem zJ1:vA A (λxs H Q=>∃i,xs=[.int i]/\Q (.int (if i<0 then -i else i)) H) xF8:=by
 rintro os n rho sg H ds vs es ws k Q I J ⟨i,rfl,q⟩ W;obtain⟨v,rfl,r⟩:=kX J
 exact⟨i,by rw[r.int_inv],W _ H _ ⟨os,I.push (Rep.ofS rfl)⟩ q⟩
theorem Qr:vA A (λxs H Q=>(∃i,xs=[.int i]/\Q (.int i) H)\/∃k,xs=[.bl k]/\Q (.int (if k then 1 else 0)) H) xe3:=by
 rintro os n rho sg H ds vs es ws k Q I J ⟨i,rfl,q⟩ W;obtain⟨v,rfl,r⟩:=kX J
 exact .inr ⟨i,by rw[r.bl_inv],W _ H _ ⟨os,I.push (Rep.ofS rfl)⟩ q⟩
theorem YI{K:W.Frag}{G:QqE}{Z:QqA}{H:Hp}:∀{bs:List Bool}{ws:List V},Reps K G Z H (bs.map D.bl) ws->ws=bs.map V.bl
 |[],ws,h=>h.nil_inv
 |b::bs,ws,h=>by
  obtain⟨v,r,rfl,q,t⟩:=h.split;rw[q.bl_inv,YI t];rfl
theorem zb4:vA A (λxs H Q=>∃(p:Addr) (bs:List Bool),xs=[.ref p]/\SqL A.K H p (bs.map V.bl)/\Q (.bl (bs.all id)) H) xM6:=by
 rintro os n rho sg H ds vs es ws k Q I J ⟨bs,rfl,q⟩ Y;obtain⟨v,rfl,r⟩:=kX J;obtain⟨a,xs,rfl,sq,W⟩:=r.lst_inv;have e:=YI W;subst e;exact⟨a,bs,rfl,sq.sq,Y _ H _ ⟨os,I.push (Rep.ofS rfl)⟩ q⟩
theorem zu1:vA A (λxs H Q=>∃(p:Addr) (bs:List Bool),xs=[.ref p]/\SqL A.K H p (bs.map V.bl)/\Q (.bl (bs.any id)) H) xM5:=by
 rintro os n rho sg H ds vs es ws k Q I J ⟨bs,rfl,q⟩ Y;obtain⟨v,rfl,r⟩:=kX J;obtain⟨a,xs,rfl,sq,W⟩:=r.lst_inv;have e:=YI W;subst e;exact⟨a,bs,rfl,sq.sq,Y _ H _ ⟨os,I.push (Rep.ofS rfl)⟩ q⟩
theorem vV:vA A (λxs H Q=>∃p ys,xs=[.ref p]/\((SqL A.K H p ys/\∀l,H l=none->Q (.ref l) (upd H l (.tup ys)))\/(SqT A.K H p ys/\Q (.ref p) H))) zq5:=by
 rintro os n rho sg H ds vs es ws k Q I J ⟨fs,h,q⟩ Y
 rcases h with rfl |rfl
 ·obtain⟨v,rfl,r⟩:=kX J;obtain⟨a,xs,rfl,sq,W⟩:=r.lst_inv;exact⟨a,xs,rfl,.inl ⟨sq.sq,λl hl=>Y _ _ _ ⟨os,I.newTup W hl⟩ q⟩⟩
 ·obtain⟨v,rfl,r⟩:=kX J;have r':=r;obtain⟨a,xs,rfl,sq,W⟩:=r.tup_inv;exact⟨a,xs,rfl,.inr ⟨sq.sq,Y _ _ _ ⟨os,I.push r'⟩ q⟩⟩
theorem ZV:vA A (λxs H Q=>∃p ys,xs=[.ref p]/\(SqL A.K H p ys\/SqT A.K H p ys)/\∀l,H l=none->Q (.ref l) (upd H l (.lst ys))) zR2:=by
 rintro os n rho sg H ds vs es ws k Q I Y ⟨fs,h,q⟩ hQ
 rcases h with rfl |rfl
 ·obtain⟨v,rfl,r⟩:=kX Y;obtain⟨a,xs,rfl,sq,J⟩:=r.lst_inv;exact⟨a,xs,rfl,.inl sq.sq,λl W=>hQ _ _ _ ⟨os,I.newLst J W⟩ q⟩
 ·obtain⟨v,rfl,r⟩:=kX Y;obtain⟨a,xs,rfl,sq,J⟩:=r.tup_inv;exact⟨a,xs,rfl,.inr sq.sq,λl W=>hQ _ _ _ ⟨os,I.newLst J W⟩ q⟩
noncomputable def Ka(T:String):D->Bool
 |.bl _=>T == "bool" || T == "int"
 |.int _=>T == "int"
 |.str _=>T == "str"
 |.tup _=>T == "tuple"
 |.lst _=>T == "list"
 |_=>false
noncomputable def kf:D->Bool
 |.non=>true |.bl _=>true |.int _=>true |.str _=>true |.tup _=>true |.lst _=>true |.dic=>true |_=>false
noncomputable def zR3:List D->(D->Prop)->Prop:=λes k=>∃d T,es=[d,.ty T]/\(T = "bool" \/ T = "int" \/ T = "str" \/ T = "tuple" \/ T = "list")/\kf d=true/\k (.bl (Ka T d))
theorem kO:vA A (λxs H Q=>∃x T,xs=[x,.ty T]/\(T = "bool" \/ T = "int" \/ T = "str" \/ T = "tuple" \/ T = "list")/\xA7 A.K T x H Q) zR3:=by
 rintro os n rho sg H ds vs es ws k Q I Y ⟨d,T,rfl,hT,J,q⟩ hQ;obtain⟨v,v',rfl,r,r'⟩:=zd3 Y;have e':v'=.ty T:=r'.toS rfl;subst e';refine⟨v,T,rfl,hT,?_⟩;have fin:Q (.bl (Ka T d)) H:=hQ _ H _ ⟨os,I.push (Rep.ofS rfl)⟩ q
 cases d with
 |non=>have e:=r.toS rfl;subst e;exact fin
 |bl b=>have e:=r.toS rfl;subst e;exact fin
 |int b=>have e:=r.toS rfl;subst e;exact fin
 |str b=>have e:=r.toS rfl;subst e;exact fin
 |tup fs=>obtain⟨a,xs,rfl,sq,rr⟩:=r.tup_inv;exact .inl ⟨xs,sq.sq,fin⟩
 |lst fs=>obtain⟨a,xs,rfl,sq,rr⟩:=r.lst_inv;exact .inr (.inl ⟨xs,sq.sq,fin⟩)
 |dic=>unfold Rep at r;obtain⟨a,W,rfl,_,e⟩:=r;exact .inr (.inr ⟨W,e,fin⟩)
 |ty _=>simp[kf] at J
 |dct _ _=>simp[kf] at J
 |st=>simp[kf] at J
 |own _=>simp[kf] at J
 |fz _=>simp[kf] at J
end
section
variable {A:AC}{os:List (Nat × Addr)}{n:Nat}{rho:Rho}{sg:St}{H:Hp}{ds es:List D}{vs ws:List V}{d:D}{v:V}
theorem AmO.split(I:AmO A os n rho sg H (es++ds) (ws++vs))(Y:ws.length=es.length):AmO A os n rho sg H ds vs/\Reps A.K A.G (Zof A os) H es ws:=
 let ⟨W,J⟩:=Xx I.pend Y
 ⟨I.pends J,W⟩
theorem AmO.join(I:AmO A os n rho sg H ds vs)(h:Reps A.K A.G (Zof A os) H es ws):AmO A os n rho sg H (es++ds) (ws++vs):=I.pends (h.append I.pend)
theorem AmO.under(I:AmO A os n rho sg H (d::(es++ds)) (v::(ws++vs)))(W:ws.length=es.length):AmO A os n rho sg H (d::ds) (v::vs):=by
 obtain⟨J,r⟩:=I.pop;exact(J.split W).1.push r
theorem AmO.front(m:Nat)(I:AmO A os n rho sg H ds vs):AmO A (os.map λp=>(p.1+m,p.2)) n (replicate m none++rho) (replicate m none++sg) H ds vs:=by
 have J:∀a,Zof A (os.map λp=>(p.1+m,p.2)) a->Zof A os a:=λa z=>by
  rcases z with z |⟨p,hp,e⟩
  ·exact .inl z
  ·obtain⟨q,Y,rfl⟩:=zQ.mp hp;exact .inr ⟨q,Y,e⟩
 refine⟨by simp[I.len],λi c e=>?_,Reps.mono (λa _ z=>J a z) (λ_ _ _ e=>e) _ _ I.pend,?_,λp hp=>?_,I.st,I.gz,I.fr,I.z0⟩
 ·have hi : m <= i := by
   apply Nat.le_of_not_lt;intro W
   rw[xE (by simpa using W),xv,if_pos W] at e
   cases e
  rw[xt (by simpa using hi),wm] at e
  obtain⟨u,e1,e2⟩:=I.slot _ c e
  refine⟨u,by rw[xt (by simpa using hi),wm];exact e1,?_⟩
  have key:∀j,j+m=i->SlotR A os H j c u->SlotR A (os.map λp=>(p.1+m,p.2)) H i c u:=λj hj h=>by
   subst hj
   cases c with
   |own fs=>
    obtain⟨a,xs,q1,q2,q3,q4⟩:=h;exact⟨a,xs,q1,zQ.mpr ⟨_,q2,rfl⟩,q3,Reps.mono (λa _ z=>J a z) (λ_ _ _ e=>e) _ _ q4⟩
   |non=>exact Rep.mono (λa _ z=>J a z) (λ_ _ _ e=>e) _ _ h
   |bl _=>exact Rep.mono (λa _ z=>J a z) (λ_ _ _ e=>e) _ _ h
   |int _=>exact Rep.mono (λa _ z=>J a z) (λ_ _ _ e=>e) _ _ h
   |str _=>exact Rep.mono (λa _ z=>J a z) (λ_ _ _ e=>e) _ _ h
   |ty _=>exact Rep.mono (λa _ z=>J a z) (λ_ _ _ e=>e) _ _ h
   |tup _=>exact Rep.mono (λa _ z=>J a z) (λ_ _ _ e=>e) _ _ h
   |lst _=>exact Rep.mono (λa _ z=>J a z) (λ_ _ _ e=>e) _ _ h
   |st=>exact Rep.mono (λa _ z=>J a z) (λ_ _ _ e=>e) _ _ h
   |fz _=>exact Rep.mono (λa _ z=>J a z) (λ_ _ _ e=>e) _ _ h
   |dic=>exact Rep.mono (λa _ z=>J a z) (λ_ _ _ e=>e) _ _ h
   |dct _ _=>exact Rep.mono (λa _ z=>J a z) (λ_ _ _ e=>e) _ _ h
  exact key (i-m) x3 e2
 ·rw [yC]
  exact I.nd.imp λ{p q} h=>⟨λz=>h.1 (by simpa using z),h.2⟩
 ·obtain⟨q,Y,rfl⟩:=zQ.mp hp;exact I.fresh q Y
theorem AmO.back{m:Nat}{rho':Rho}{sg':St}(I:AmO A os n rho' sg' H ds vs)(h1:rho'.drop m=rho)(h2:sg'.drop m=sg):∃os',AmO A os' n rho sg H ds vs:=by
 refine⟨(os.filter λp=>decide (m<=p.1)).map λp=>(p.1-m,p.2),?_⟩
 have J:∀a,Zof A ((os.filter λp=>decide (m<=p.1)).map λp=>(p.1-m,p.2)) a->Zof A os a:=λa z=>by
  rcases z with z |⟨p,hp,e⟩
  ·exact .inl z
  ·obtain⟨q,Y,rfl⟩:=zQ.mp hp;exact .inr ⟨q,(xf.mp Y).1,e⟩
 subst h1 h2
 refine⟨by simp[I.len],λi c e=>?_,Reps.mono (λa _ z=>J a z) (λ_ _ _ e=>e) _ _ I.pend,?_,λp hp=>?_,I.st,I.gz,I.fr,I.z0⟩
 ·rw [wf] at e;obtain⟨u,e1,W⟩:=I.slot _ c e
  refine⟨u,by rw[wf];exact e1,?_⟩
  cases c with
  |own fs=>
   obtain⟨a,xs,q1,q2,q3,q4⟩:=W
   exact⟨a,xs,q1,zQ.mpr ⟨_,xf.mpr ⟨q2,by simp⟩,by simp⟩,q3,Reps.mono (λa _ z=>J a z) (λ_ _ _ e=>e) _ _ q4⟩
  |non=>exact Rep.mono (λa _ z=>J a z) (λ_ _ _ e=>e) _ _ W
  |bl _=>exact Rep.mono (λa _ z=>J a z) (λ_ _ _ e=>e) _ _ W
  |int _=>exact Rep.mono (λa _ z=>J a z) (λ_ _ _ e=>e) _ _ W
  |str _=>exact Rep.mono (λa _ z=>J a z) (λ_ _ _ e=>e) _ _ W
  |ty _=>exact Rep.mono (λa _ z=>J a z) (λ_ _ _ e=>e) _ _ W
  |tup _=>exact Rep.mono (λa _ z=>J a z) (λ_ _ _ e=>e) _ _ W
  |lst _=>exact Rep.mono (λa _ z=>J a z) (λ_ _ _ e=>e) _ _ W
  |st=>exact Rep.mono (λa _ z=>J a z) (λ_ _ _ e=>e) _ _ W
  |fz _=>exact Rep.mono (λa _ z=>J a z) (λ_ _ _ e=>e) _ _ W
  |dic=>exact Rep.mono (λa _ z=>J a z) (λ_ _ _ e=>e) _ _ W
  |dct _ _=>exact Rep.mono (λa _ z=>J a z) (λ_ _ _ e=>e) _ _ W
 ·rw [yC, List.pairwise_filter];refine I.nd.imp λ{p q} h hp Y=>⟨λz=>h.1 ?_,h.2⟩
  have a1:m<=p.1:=by simpa using hp
  have a2:m<=q.1:=by simpa using Y
  have z':p.1-m=q.1-m:=z;lia
 ·obtain⟨q,Y,rfl⟩:=zQ.mp hp;exact I.fresh q (xf.mp Y).1
end
noncomputable abbrev TGD:=D->Rho->(Rho->Prop)->Prop
noncomputable abbrev zF2:=List D->Rho->(Rho->Prop)->Prop
noncomputable def gOf(A:AC)(m:Nat)(g:TGD):TG:=λv sg H Q=>∃rho n P d ds vs,Am A n rho sg H (d::ds) (v::vs)/\g d rho P/\∀rho' sg',Am A n rho' sg' H ds vs->sg'.drop m=sg.drop m->P rho'->Q sg' H
noncomputable def xM9(A:AC)(m:Nat)(g:zF2):TGs:=λus sg H Q=>∃rho n P es ds vs,Am A n rho sg H (es++ds) (us++vs)/\us.length=es.length/\g es rho P/\∀rho' sg',Am A n rho' sg' H ds vs->sg'.drop m=sg.drop m->P rho'->Q sg' H
@[irreducible] noncomputable def PGD(A:AC)(X:Cx)(m:Nat)(I:Expr)(g:TGD):Prop:=PG X I (gOf A m g)
@[irreducible] noncomputable def xm2(A:AC)(X:Cx)(m:Nat)(I:List Expr)(g:zF2):Prop:=PGs X I (xM9 A m g)
theorem PG.imp{X:Cx}{W:Expr}{g g':TG}(h:PG X W g)(hi:∀v sg H Q,g' v sg H Q->g v sg H Q):PG X W g':=λJ s sg H v u Q I r q=>h J s sg H v u Q I r (hi _ _ _ _ q)
theorem PGs.imp{X:Cx}{W:List Expr}{g g':TGs}(h:PGs X W g)(hi:∀v sg H Q,g' v sg H Q->g v sg H Q):PGs X W g':=λJ s sg H v u Q I r q=>h J s sg H v u Q I r (hi _ _ _ _ q)
section
variable {A:AC}{X:Cx}{m:Nat}{pos:Pos}
noncomputable def zI1(i:Nat):TGD:=λd rho P=>i<rho.length/\P (rho.set i (some d))
theorem xp{i:Nat}{x:Str}(hN:X.N.Nodup)(hi:X.N[i]?=some x)(hx:Loc X.env.scope x)(hm:i<m)(W:X.fn x=true\/X.env.scope.names.lookup x=some .local:=by first |exact .inl rfl |exact .inr rfl |assumption):PGD A X m (.Name x pos) (zI1 i):=by
 exists 
   (zN5 hN hi hx W).imp λv sg H Q h => by
    obtain⟨rho,n,P,d,ds,vs,⟨os,I⟩,⟨J,k⟩,Y⟩:=h;refine Y (rho.set i (some d)) (sg.set i (some v)) ⟨_,I.set J⟩ ?_ k;rw[List.drop_set_of_lt hm]
noncomputable def xf6:zF2:=λes rho P=>es=[]/\P rho
noncomputable def zI2(g:TGD)(I:zF2):zF2:=λes rho P=>∃d r,es=d::r/\g d rho λrho'=>I r rho' P
theorem vI:xm2 A X m [] xf6:=by
 exists zN4.imp λus sg H Q h=>by
   obtain⟨rho,n,P,es,ds,vs,I,J,⟨rfl,k⟩,W⟩:=h;have e:us=[]:=xO.mp J;subst e;exact⟨rfl,W rho sg I rfl k⟩
theorem wr{e:Expr}{es:List Expr}{g:TGD}{gs:zF2}(h1:PGD A X m e g)(h2:xm2 A X m es gs)(hs:(assignEach (e::es) X.env).map (·.2)=assign e X.env::(assignEach es X.env).map (·.2):=by rfl):xm2 A X m (e::es) (zI2 g gs):=by
 exists 
   (zz8 h1 h2 hs).imp λus sg H Q h => by
    obtain⟨rho,n,P,es',ds,vs,I,Y,⟨d,r,rfl,k⟩,hQ⟩:=h
    cases us with
    |nil=>simp at Y
    |cons u us=>
     refine⟨u,us,rfl,⟨rho,n,_,d,r++ds,us++vs,I,k,λrho' sg' I' e1 k'=>⟨rho',n,P,r,ds,vs,I',by simpa using Y,k',λJ W I2 e2 k2=>hQ J W I2 (e2.trans e1) k2⟩⟩⟩
noncomputable def xf5(k:Nat)(I:zF2):TGD:=λd rho P=>∃es,d=.tup es/\es.length=k/\I es rho P
theorem kH{es:List Expr}{k:Nat}{gs:zF2}{kt:Nat}(hK:X.K=A.K)(hc:X.calm=true)(h:xm2 A X m es gs)(hn:(assignEach es X.env).length=k:=by rfl)(W:(assignEach es X.env).findIdx? (·.1)=none:=by rfl):PGD A X m (.Tuple es kt pos) (xf5 k gs):=by
 exists 
   (zZ6 (n := k) hc h hn W).imp λv sg H Q h => by
    obtain⟨rho,n,P,d,ds,vs,⟨os,I⟩,⟨fs,rfl,hl,q⟩,hQ⟩:=h;obtain⟨J,r⟩:=I.pop;obtain⟨a,xs,rfl,sq,Y⟩:=r.tup_inv;have hx:=Y.length;rw[hK]
    exact⟨a,xs,rfl,sq.sq,by rw[hx];exact hl,rho,n,P,fs,ds,vs,⟨os,J.join Y⟩,hx,q,hQ⟩
end
noncomputable abbrev TID:=Rho->Nat->(List D->Nat->Prop)->Prop
noncomputable def JIs(A:AC)(J:It)(es:List D)(ws:List V)(items:List D):Prop:=∀n rho sg H ds vs i,Am A n rho sg H (es++ds) (ws++vs) ->
 (∀d,items[i]?=some d->J.go i H/\∀x H',J.yld i H x H'->Am A n rho sg H' (d::(es++ds)) (x::(ws++vs)))/\(items.length<=i->J.stop i H)
noncomputable def iOf(A:AC)(it:TID):TI:=λsg H R=>∃rho n P ds vs,Am A n rho sg H ds vs/\it rho n P/\∀J H' n' items es ws,Am A n' rho sg H' (es++ds) (ws++vs)->ws.length=es.length->JIs A J es ws items->P items n'->R J H'
@[irreducible] noncomputable def PID(A:AC)(X:Cx)(J I:Expr)(it:TID):Prop:=PI X J I (iOf A it)
theorem PI.imp{X:Cx}{W e:Expr}{t t':TI}(h:PI X W e t)(hi:∀sg H Q,t' sg H Q->t sg H Q):PI X W e t':=λJ s sg H Q I q=>h J s sg H Q I (hi _ _ _ q)
section
variable {A:AC}{X:Cx}{tg a b:Expr}{ta tb:TD}{pos p:Pos}{t1:TAD}
noncomputable def JI(lo:Int)(k:Nat):List D:=(List.range k).map fun(i:Nat)=>D.int (lo+(i:Int))
noncomputable def xf2(t:TAD):TID:=λrho n P=>t rho n λes I=>∃j:Int,es=[.int j]/\-(2^62)<=j/\j<2^62/\P (JI 0 j.toNat) I
theorem zR5{lo:Int}{k:Nat}:JIs A (Itr lo k) [] [] (JI lo k):=λn2 W ae H2 af aa i ⟨I,I2⟩=>by
 refine⟨λd e=>?_,λhi=>?_⟩
 ·unfold JI at e;rw[zv] at e
  cases q:(List.range k)[i]? with
  |none=>rw[q] at e;cases e
  |some j=>
   rw[q] at e;cases e;have hj:=zu.mp q;obtain⟨J,Y⟩:=hj;rw[List.getElem_range] at Y;subst Y
   refine⟨(show i<k by simpa using J),λx H3 y=>?_⟩
   obtain⟨e3,e4⟩:=y;subst e3 e4;exact⟨I,I2.push (Rep.ofS (d:=.int (lo+i)) rfl)⟩
 ·unfold JI at hi
  exact(show k<=i by simpa using hi)
theorem qc(hm:X.mg "range" = none)(ha:PAD A X [a] t1)(hg:Gl X "range" := by rfl)(hs:starEach [a] X.env=[(false,eval a X.env)]:=by rfl):PID A X tg (.Call (.Name "range" p) [a] [] pos) (xf2 t1):=by
 exists 
   (zl6 hg hm ha hs).imp λsg H R h => by
    obtain⟨rho,n,P,ds,vs,I,Y,hQ⟩:=h;refine⟨rho,n,_,ds,vs,I,Y,λws H' n' es' ⟨os,J⟩ hl k=>?_⟩;obtain⟨j,rfl,h1,h2,k⟩:=k;obtain⟨J1,W⟩:=J.split hl;obtain⟨v,rfl,r⟩:=kX W
    exact⟨j,by rw[r.int_inv],h1,h2,hQ _ H' n' _ [] [] ⟨os,J1⟩ rfl zR5 k⟩
noncomputable def XN:D->Option (Bool × List D)
 |.lst es=>some (true,es)
 |.tup es=>some (false,es)
 |_=>none
theorem Rep.seq{K:W.Frag}{G:QqE}{Z:QqA}{H:Hp}{v:V}{b:Bool}{es:List D}:∀{d:D},XN d=some (b,es)->Rep K G Z H d v->∃a xs,v=.ref a/\SqZ K Z H b a xs/\Reps K G Z H es xs
 |.lst fs,h,r=>by cases h;exact r.lst_inv
 |.tup fs,h,r=>by cases h;exact r.tup_inv
 |.non,h,_=>by cases h
 |.bl _,h,_=>by cases h
 |.int _,h,_=>by cases h
 |.str _,h,_=>by cases h
 |.ty _,h,_=>by cases h
 |.st,h,_=>by cases h
 |.own _,h,_=>by cases h
 |.fz _,h,_=>by cases h
noncomputable def JJ(xs ys:List D):List D:=List.zipWith (λx y=>D.tup [x,y]) xs ys
noncomputable def xf0(t:TAD):TID:=λrho n P=>t rho n λes I=>∃d1 d2 W xs J ys,es=[d1,d2]/\XN d1=some (W,xs)/\XN d2=some (J,ys)/\P (JJ xs ys) I
theorem zR4{d1 d2:D}{l1 l2:Addr}{b1 b2:Bool}{xs ys:List D}(h1:XN d1=some (b1,xs))(h2:XN d2=some (b2,ys)):JIs A (Itz A.K b1 b2 l1 l2) [d1,d2] [.ref l1,.ref l2] (JJ xs ys):=λn rho sg H ds vs i ⟨os,I⟩=>by
 obtain⟨I1,r1⟩:=AmO.pop (d:=d1) (v:=.ref l1) (ds:=d2::ds) (vs:=.ref l2::vs) I;obtain⟨I2,r2⟩:=I1.pop;obtain⟨a1,us,e1,W,aa⟩:=r1.seq h1;obtain⟨a2,ws,e2,J,Y⟩:=r2.seq h2;cases e1;cases e2;refine⟨λd e=>?_,λhi=>⟨us,ws,W.sq,J.sq,?_⟩⟩
 ·unfold JJ at e;rw[List.getElem?_zipWith] at e
  cases q1:xs[i]? with
  |none=>rw[q1] at e;cases e
  | some x =>
   cases q2:ys[i]? with
   |none=>rw[q1,q2] at e;cases e
   |some y=>
    rw[q1,q2] at e;cases e;obtain⟨u,eu,ru⟩:=aa.get q1;obtain⟨w,ew,rw'⟩:=Y.get q2;refine⟨⟨us,ws,u,w,W.sq,J.sq,eu,ew⟩,λv H3 yy=>?_⟩;obtain⟨T,hT,rfl,k⟩:=yy;obtain⟨u',w',eu',ew',rfl⟩:=k us ws W.sq J.sq;rw[eu] at eu';cases eu';rw[ew] at ew';cases ew';exact⟨os,I.newTup (.cons ru (.cons rw' .nil)) hT⟩
 ·rw[aa.length,Y.length];unfold JJ at hi;rw[length_zipWith] at hi;lia
theorem Qd{es:List Expr}{kk:Nat}{ps:Pos}(hK:X.K=A.K)(hm:X.mg "zip" = none)(ha:PAD A X [a,b] t1)(hg:Gl X "zip" := by rfl)(hs:starEach [a,b] X.env=[(false,eval a X.env),(false,eval b X.env)]:=by rfl)(aa:starEach [b] X.env=[(false,eval b X.env)]:=by rfl) :
  PID A X (.Tuple es kk ps) (.Call (.Name "zip" p) [a,b] [] pos) (xf0 t1):=by
 exists (zZ5 hg hm ha hs aa).imp λsg H R h=>by
   obtain⟨rho,n,P,ds,vs,I,ht,hQ⟩:=h;refine⟨rho,n,_,ds,vs,I,ht,λws H' n' es' ⟨os,J⟩ hl k=>?_⟩;obtain⟨d1,d2,b1,xs,b2,ys,rfl,h1,h2,k⟩:=k;obtain⟨J1,rs⟩:=J.split hl;obtain⟨v1,v2,rfl,r1,r2⟩:=zd3 rs;obtain⟨a1,us,rfl,Y,af⟩:=r1.seq h1;obtain⟨a2,ws',rfl,W,ae⟩:=r2.seq h2;rw[hK];exact⟨b1,b2,a1,a2,us,ws',rfl,Y.sq,W.sq,hQ _ H' n' _ [d1,d2] [.ref a1,.ref a2] ⟨os,J⟩ rfl (zR4 h1 h2) k⟩
end
section
variable {A:AC}{X:Cx}{tg iter elt:Expr}{ifs:List Expr}{scope:Scope}{own M:List Str}{pos:Pos}{it:TID}{g:TGD}{tt:TBD}{te:TD}
noncomputable def zf9(it:TID)(own:Nat)(g:TGD)(tt:TBD)(te:TD):TD:=λrho n P=>it rho n λitems Y=>items.length<=sizeLine/\∃J:Nat->List D->Nat->Prop,J 0 [] Y /\
 (∀i d acc n,items[i]?=some d->J i acc n->g d (replicate own none++rho) λrho'=>rho'.drop own=rho/\tt rho' n λc I=>if c=true then te rho' I λe W=>J (i+1) (acc++[e]) W else J (i+1) acc I) /\
 ∀acc n,J items.length acc n->P (.lst acc) n
noncomputable def xg6:TBD:=λ_ n P=>P true n
theorem PTs.imp{X:Cx}{e:List Expr}{t t':TT}(h:PTs X e t)(hi:∀sg H Q,t' sg H Q->t sg H Q):PTs X e t':=by exists λJ s sg H Q I q=>h J s sg H Q I (hi _ _ _ q)
theorem yM{X:Cx}:PTs X [] (zc8 A xg6):=by
 exists zM6.imp λsg H Q h=>by
   obtain⟨rho,n,P,ds,vs,I,J,W⟩:=h;exact W true H n I J
theorem zj4{sg:St}{H:Hp}{Q:VK}{m:Nat}{rho:Rho}{n:Nat}{P:D->Nat->Prop}{ds:List D}{vs:List V}(I:Am A n rho sg H ds vs)(ht:zf9 it m g tt te rho n P)
  (hQ:∀os n' H' fs xs p,AmO A os n' rho sg H' ds vs->Reps A.K A.G (Zof A os) H' fs xs->H' p=none->P (.lst fs) n'->Q (.ref p) (upd H' p (.lst xs))):zx4 (iOf A it) m (gOf A m g) (zc8 A tt) (tOf A te) sg H Q:=by
 refine⟨rho,n,_,ds,vs,I,ht,λJ H' n' items es ws I1 hl hJ k=>?_⟩;obtain⟨aj,W,w0,turn,fin⟩:=k
 refine⟨λi mm acc H=>mm=items.length-i/\i<=items.length/\acc.length<=i/\∃Y n,acc.length=Y.length/\Am A n rho sg H (es++(Y++ds)) (ws++(acc++vs))/\W i Y n,
  ⟨items.length,rfl,wn _,zi _,[],n',rfl,I1,w0⟩,?_⟩
 rintro i mm acc H3 ⟨rfl,hi,ak,Y,n3,ae,⟨os,I3⟩,w3⟩;obtain⟨j1,j2⟩:=hJ n3 rho sg H3 (Y++ds) (acc++vs) i ⟨os,I3⟩
 by_cases aa:i<items.length
 ·refine .inr ⟨(j1 items[i] (by simp [aa])).1, by lia, λx H4 y => ?_⟩
  obtain⟨ar,I4⟩:=(j1 items[i] (by simp[aa])).2 x H4 y
  refine⟨replicate m none++rho,n3,_,items[i],es++(Y++ds),ws++(acc++vs),⟨_,I4.front m⟩,turn i items[i] Y n3 (by simp[aa]) w3,λrho' sg' ⟨ai,I5⟩ e5 k5=>?_⟩
  obtain⟨k5,k6⟩:=k5
  have e6:sg'.drop m=sg:=by rw[e5,yU (by simp)]
  refine⟨e6,rho',n3,_,es++(Y++ds),ws++(acc++vs),⟨ai,I5⟩,k6,λc H6 n6 ⟨ah,I6⟩ k7=>?_⟩
  cases c with
  |false=>
   obtain⟨ag,I7⟩:=I6.back k5 e6
   exact⟨items.length-(i+1),x3,rfl,aa,x3,Y,n6,ae,⟨ag,I7⟩,k7⟩
  |true=>
   rw[if_pos rfl] at k7 ⊢;refine⟨rho',n6,_,es++(Y++ds),ws++(acc++vs),⟨ah,I6⟩,k7,λv H8 n8 d ⟨aq,I8⟩ k8=>?_⟩;obtain⟨af,I9⟩:=I8.back k5 e6;obtain⟨ap,rv⟩:=I9.pop;obtain⟨ao,r1⟩:=ap.split hl;obtain⟨am,r2⟩:=ao.split ae
   refine⟨items.length-(i+1),x3,rfl,aa,by rw[zr,List.length_singleton];lia,Y++[d],n8,by simp[ae],⟨af,(am.join (r2.append (.cons rv .nil))).join r1⟩,k8⟩
 ·have e : i = items.length := by lia
  subst e;refine .inl ⟨j2 (zi _),zy ak aj,λD hD=>?_⟩;obtain⟨I4,r1⟩:=I3.split hl;obtain⟨I5,r2⟩:=I4.split ae;exact hQ os n3 _ Y acc D I5 r2 hD (fin Y n3 w3)
theorem QP{sg:St}{H:Hp}{Q:VK}{m:Nat}(h:tOf A (zf9 it m g tt te) sg H Q):zx4 (iOf A it) m (gOf A m g) (zc8 A tt) (tOf A te) sg H Q:=by
 obtain⟨rho,n,P,ds,vs,I,W,hQ⟩:=h;exact zj4 I W λos n' H' fs xs p J r Y k=>hQ _ _ n' _ ⟨os,J.newLst r Y⟩ k
theorem vD(ok:CompOk X scope M)(hc:X.calm=true)(hi:PID A X tg iter it)(hg:∀C I W J,PGD A (yf X scope own M C I W J) own.length tg g)(Y:∀C I W J,PTs (yf X scope own M C I W J) ifs (zc8 A tt))
  (he:∀C I W J,PD A (yf X scope own M C I W J) elt te) (hs:∀x,foldedSetIterable iter X.env x=pure x:=by intro _;rfl):PD A X (.ListComp elt [⟨tg,iter,ifs,0⟩] scope pos) (zf9 it own.length g tt te):=by
 exists 
   (zN9 ok hc hi hg Y he hs).imp λ_ _ _=>QP
end
structure EndsD where
 nx:Rho->Nat->Prop
 rt:D->Nat->Prop
 bk:Rho->Nat->Prop:=λ_ _=>False
 ct:Rho->Nat->Prop:=λ_ _=>False
noncomputable abbrev TSD:=EndsD->Rho->Nat->Prop
structure EOk(A:AC)(E:Ys)(F:EndsD)(ds:List D)(vs:List V):Prop where
 nx:∀rho n sg H,Am A n rho sg H ds vs->F.nx rho n->E.nx sg H
 rt:∀d n v rho sg H,Am A n rho sg H (d::ds) (v::vs)->F.rt d n->E.rt v H
 bk:∀rho n sg H,Am A n rho sg H ds vs->F.bk rho n->E.bk sg H
 ct:∀rho n sg H,Am A n rho sg H ds vs->F.ct rho n->E.ct sg H
noncomputable def sOf(A:AC)(t:TSD):TS:=λE sg H=>∃rho n F ds vs,Am A n rho sg H ds vs/\t F rho n/\EOk A E F ds vs
@[irreducible] noncomputable def PSD(A:AC)(X:Cx)(s:Stmt)(t:TSD):Prop:=PS X s (sOf A t)
@[irreducible] noncomputable def zg5(A:AC)(X:Cx)(s:List Stmt)(t:TSD):Prop:=PSs X s (sOf A t)
section
variable {A:AC}{X:Cx}{st:Stmt}{rest:List Stmt}{t u:TSD}{e a b:Expr}{te:TD}{tc:TBD}{pos:Pos}
noncomputable def zW3:TSD:=λF rho n=>F.nx rho n
noncomputable def YG(t u:TSD):TSD:=λF rho n=>t { F with nx:=u F } rho n
theorem xN:zg5 A X [] zW3:=by
 exists zM8.imp λE sg H h=>by
   obtain⟨rho,n,F,ds,vs,I,J,ok⟩:=h;exact ok.nx _ _ _ _ I J
theorem zq(h1:PSD A X st t)(h2:zg5 A X rest u):zg5 A X (st::rest) (YG t u):=by
 exists (QV h1 h2).imp λE sg H h=>by
   obtain⟨rho,n,F,ds,vs,I,J,ok⟩:=h;exact⟨rho,n,{ F with nx:=u F },ds,vs,I,J,⟨λrho' n' sg' H' I' k=>⟨rho',n',F,ds,vs,I',k,ok⟩,ok.rt,ok.bk,ok.ct⟩⟩
theorem zA(h1:PSD A X st t):zg5 A X [st] t:=by exists zM7 h1
noncomputable def zG2(te:TD):TSD:=λF rho n=>te rho n F.rt
theorem xb(W:PD A X e te):PSD A X (.Return (some e) pos) (zG2 te):=by
 exists (zZ3 W).imp λE sg H h=>by
   obtain⟨rho,n,F,ds,vs,I,J,ok⟩:=h;exact⟨rho,n,_,ds,vs,I,J,λv H' n' d I' k=>ok.rt _ _ _ _ _ _ I' k⟩
noncomputable def sIf(c:TBD)(t u:TSD):TSD:=λF rho n=>c rho n λb I=>if b=true then t F rho I else u F rho I
theorem wV{c:Expr}{sa sb:List Stmt}(Y:PTD A X c tc)(ha:zg5 A X sa t)(hb:zg5 A X sb u):PSD A X (.If c sa sb pos) (sIf tc t u):=by
 exists (xv6 Y ha hb).imp λE sg H h=>by
   obtain⟨rho,n,F,ds,vs,I,W,ok⟩:=h;refine⟨rho,n,_,ds,vs,I,W,λc H' n' J k=>?_⟩
   cases c with
   |true=>exact⟨rho,n',F,ds,vs,J,k,ok⟩
   |false=>exact⟨rho,n',F,ds,vs,J,k,ok⟩
noncomputable def Vk(i:Nat)(te:TD):TSD:=λF rho n=>i<rho.length/\te rho n λd I=>F.nx (rho.set i (some d)) I
theorem wg{i:Nat}{x:Str}{pos':Pos}(hN:X.N.Nodup)(hi:X.N[i]?=some x)(hx:Loc X.env.scope x)(he:PD A X e te)(Y:swapsWith e (some (.Name x pos')) pos.line X.env=pure false:=by rfl)(hf:X.fn x=true\/X.env.scope.names.lookup x=some .local:=by first |exact .inl rfl |exact .inr rfl |assumption) :
  PSD A X (.Assign [.Name x pos'] e pos) (Vk i te):=by
 exists (zl2 hN hi hx he Y hf).imp λE sg H h=>by
   obtain⟨rho,n,F,ds,vs,I,⟨hl,W⟩,ok⟩:=h;exact⟨rho,n,_,ds,vs,I,W,λv H' n' d ⟨os,J⟩ k=>ok.nx _ _ _ _ ⟨_,J.set hl⟩ k⟩
theorem ZO{i:Nat}{x:Str}{pos' Y:Pos}{tg W elt:Expr}{ifs:List Expr}{scope:Scope}{own M:List Str}{it:TID}{g:TGD}{tt:TBD}(hN:X.N.Nodup)(ae:X.N[i]?=some x)(hx:Loc X.env.scope x)(ok:CompOk X scope M)(hc:X.calm=true)(hi:PID A X tg W it)
  (hg:∀C s2 H2 fp,PGD A (yf X scope own M C s2 H2 fp) own.length tg g) (ht:∀C s2 H2 fp,PTs (yf X scope own M C s2 H2 fp) ifs (zc8 A tt)) (he:∀C s2 H2 fp,PD A (yf X scope own M C s2 H2 fp) elt te)
  (aa:swapsWith (.ListComp elt [⟨tg,W,ifs,0⟩] scope pos) (some (.Name x pos')) Y.line X.env=pure true:=by rfl) (hf:X.fn x=true\/X.env.scope.names.lookup x=some .local:=by first |exact .inl rfl |exact .inr rfl |assumption)
  (hs:∀x,foldedSetIterable W X.env x=pure x:=by intro _;rfl):PSD A X (.Assign [.Name x pos'] (.ListComp elt [⟨tg,W,ifs,0⟩] scope pos) Y) (Vk i (zf9 it own.length g tt te)):=by
 exists 
   (zd6 hN ae hx ok hc hi hg ht he aa hf hs).imp λE sg H h => by
    obtain⟨rho,n,F,ds,vs,I,⟨hl,ht⟩,ok⟩:=h;exact QP (A:=A) ⟨rho,n,_,ds,vs,I,ht,λv H' n' d ⟨os,J⟩ k=>ok.nx _ _ _ _ ⟨_,J.set hl⟩ k⟩
noncomputable def xA1(te:TD)(g:TGD):TSD:=λF rho n=>te rho n λd I=>g d rho λrho'=>F.nx rho' I
theorem ZN{W:Expr}{g:TGD}{m:Nat}(he:PD A X e te)(hg:PGD A X m W g)(hs:swapsWithSole [W] e pos.line X.env=pure false:=by rfl)(Y:swappedStores [W] e X.env=pure none:=by rfl)
  (h1:(assignEach [W] X.env).map (·.2)=[assign W X.env]:=by rfl):PSD A X (.Assign [W] e pos) (xA1 te g):=by
 exists (zG8 he hg hs Y h1).imp λE sg H h=>by
   obtain⟨rho,n,F,ds,vs,I,ht,ok⟩:=h;exact⟨rho,n,_,ds,vs,I,ht,λv H' n' d J k=>⟨rho,n',_,d,ds,vs,J,k,λrho' sg' J' _ k'=>ok.nx _ _ _ _ J' k'⟩⟩
noncomputable def xn7(i j:Nat)(t:TAD):TSD:=λF rho n=>i<rho.length/\j<rho.length/\t rho n λes I=>∃d d',es=[d,d']/\F.nx ((rho.set i (some d)).set j (some d')) I
theorem zM9{i j:Nat}{x y:Str}{ta:TAD}{px py pt:Pos}{kt k2 W}(hc:X.calm=true)(hN:X.N.Nodup)(hi:X.N[i]?=some x)(hj:X.N[j]?=some y)(ae:i≠j)
  (hx:X.env.scope.names.lookup x=some .local) (hy:X.env.scope.names.lookup y=some .local) (ha:PAD A X [a,b] ta)
  (hw:swappedStores [.Tuple [.Name x px,.Name y py] kt pt] (.Tuple [a,b] k2 W) X.env=pure (some [x,y]):=by rfl)
  (hs:swapsWithSole [.Tuple [.Name x px,.Name y py] kt pt] (.Tuple [a,b] k2 W) pos.line X.env=pure false:=by rfl) :
  PSD A X (.Assign [.Tuple [.Name x px,.Name y py] kt pt] (.Tuple [a,b] k2 W) pos) (xn7 i j ta):=by
 exists (zl3 hc hN hi hj ae hx hy ha hw hs).imp λE sg H h=>by
   obtain⟨rho,n,F,ds,vs,I,⟨hl,aa,ht⟩,ok⟩:=h;refine⟨rho,n,_,ds,vs,I,ht,λws H' n' es ⟨os,J⟩ Y k=>?_⟩;obtain⟨d,d',rfl,k⟩:=k;obtain⟨J1,rs⟩:=J.split Y;obtain⟨v,v',rfl,r,r'⟩:=zd3 rs;refine⟨v,v',rfl,ok.nx _ _ _ _ ?_ k⟩;have J2:AmO A os n' rho sg H' (d::d'::ds) (v::v'::vs):=(J1.push r').push r
   exact⟨_,(J2.set hl).set (by simpa using aa)⟩
noncomputable def xh5(it:TID)(g:TGD)(tb:TSD):TSD:=λF rho n=>it rho n λitems I=>∃J:Nat->Rho->Nat->Prop,J 0 rho I /\
 (∀i d rho n,items[i]?=some d->J i rho n->g d rho λrho'=>tb { F with nx:=J (i+1),ct:=J (i+1),bk:=F.nx } rho' n)/\∀rho n,J items.length rho n->F.nx rho n
theorem ki{tg ae:Expr}{body:List Stmt}{it:TID}{g:TGD}{tb:TSD}{m:Nat}(hp:PassesOwn (model X.prog X.w) X.A X.env X.xe)(hc:X.calm=true)(hi:PID A X tg ae it)(hg:PGD A X m tg g)(hb:zg5 A X body tb)
  (hs:∀x,foldedSetIterable ae X.env x=pure x:=by intro _;rfl):PSD A X (.For tg ae body [] pos) (xh5 it g tb):=by
 exists (zZ4 hp hc hi hg hb hs).imp λE sg H h=>by
   obtain⟨rho,n,F,ds,vs,I,ht,ok⟩:=h;refine⟨rho,n,_,ds,vs,I,ht,λJ H' n' items es ws I1 hl hJ k=>?_⟩;obtain⟨W,w0,turn,fin⟩:=k;refine⟨λi mm sg H=>mm=items.length-i/\i<=items.length/\∃rho n,Am A n rho sg H (es++ds) (ws++vs)/\W i rho n,⟨items.length,rfl,wn _,rho,n',I1,w0⟩,?_⟩;rintro i mm ai H3 ⟨rfl,hi,aa,n3,I3,w3⟩;obtain⟨j1,j2⟩:=hJ n3 aa ai H3 ds vs i I3
   by_cases af:i<items.length
   ·refine .inr ⟨(j1 items[i] (by simp [af])).1, λsg' H' => ∃ rho n, Am A n rho sg' H' (es ++ ds) (ws ++ vs) /\ W (i + 1) rho n, λsg' H' ⟨rho', n', I', w'⟩ => ⟨items.length - (i + 1), by lia, rfl, af, rho', n', I', w'⟩, λx H4 y => ?_⟩
    have I4:=(j1 items[i] (by simp[af])).2 x H4 y
    refine⟨aa,n3,_,items[i],es++ds,ws++vs,I4,turn i items[i] aa n3 (by simp[af]) w3,λrho' sg' I5 _ k5=>⟨rho',n3,{ F with nx:=W (i+1),ct:=W (i+1),bk:=F.nx },es++ds,ws++vs,I5,k5,?_⟩⟩
    refine⟨λY n6 ag H6 I6 k6=>⟨Y,n6,I6,k6⟩,λd n6 v Y ag H6 ⟨ah,I6⟩ k6=>ok.rt _ _ _ _ _ _ ⟨ah,I6.under hl⟩ k6,λY n6 ag H6 ⟨ah,I6⟩ k6=>ok.nx _ _ _ _ ⟨ah,(I6.split hl).1⟩ k6,λY n6 ag H6 I6 k6=>⟨Y,n6,I6,k6⟩⟩
   ·have e : i = items.length := by lia
    subst e;obtain⟨os,I3⟩:=I3;exact .inl ⟨j2 (zi _),ok.nx _ _ _ _ ⟨os,(I3.split hl).1⟩ (fin aa n3 w3)⟩
noncomputable def xn9(te:TD):TSD:=λF rho n=>te rho n λ_ I=>F.nx rho I
theorem AmO.setOwn{os:List (Nat × Addr)}{n:Nat}{rho:Rho}{sg:St}{H:Hp}{ds es:List D}{vs xs:List V}{i:Nat}{p:Addr}(I:AmO A os n rho sg H ds vs)(hi:i<rho.length)(W:H p=none)(r:Reps A.K A.G (Zof A os) H es xs) :
  ∃os',AmO A os' n (rho.set i (some (.own es))) (sg.set i (some (.ref p))) (upd H p (.lst xs)) ds vs:=by
 have Y:∀a u,H a=some u->upd H p (.lst xs) a=some u:=λa u e=>by rw[wE (yz e W)];exact e
 refine⟨(i,p)::os.filter λq=>decide (q.1≠i),?_⟩
 have zz:∀a,H a≠none->Zof A ((i,p)::os.filter λq=>decide (q.1≠i)) a->Zof A os a:=λa ha z=>by
  rcases z with z |⟨q,J,e⟩
  ·exact .inl z
  ·rcases zt.mp J with rfl | J
   ·exact absurd (by rw[<- e];exact W) ha
   ·exact .inr ⟨q,(xf.mp J).1,e⟩
 have h0:A.H0 p=none:=by
  cases q:A.H0 p with
  |none=>rfl
  |some o=>
   by_cases e:A.G=some p
   ·obtain⟨x,y,z,w,_⟩:=I.st p e;rw[w] at W;cases W
   ·have:=I.fr p o e q;rw[this] at W;cases W
 refine⟨by simp[I.len],λj c e=>?_,Reps.mono zz (λa u _ e=>Y a u e) _ _ I.pend,?_,λq J=>?_,λa e=>?_,I.gz,λa u h e=>Y a u (I.fr a u h e),I.z0⟩
 ·by_cases hj : j = i
  ·subst hj;rw[xl hi] at e;cases e
   exact⟨.ref p,xl (by rw[<- I.len];exact hi),p,xs,rfl,xo,yK,Reps.mono zz (λa u _ e=>Y a u e) _ _ r⟩
  ·rw [xq (Ne.symm hj)] at e;obtain⟨u,e1,e2⟩:=I.slot j c e
   exact⟨u,by rw[xq (Ne.symm hj)];exact e1,SlotR.mono zz (λa u _ e=>Y a u e) (λa ys m q=>⟨zG _ (xf.mpr ⟨m,by simpa using hj⟩),Y a _ q⟩) _ _ e2⟩
 ·refine wG.mpr ⟨λq J => ?_, I.nd.filter _⟩;obtain⟨m1,m2⟩:=xf.mp J
  refine⟨λz=>by simp[<- z] at m2,λz=>(I.fresh q m1).2.2 ?_⟩
  have z':p=q.2:=z;rw[<- z'];exact W
 ·rcases zt.mp J with rfl | J
  ·exact⟨h0,λz=>I.z0.1 p z h0,by show upd H p _ p≠none;rw[yK];simp⟩
  ·obtain ⟨f1, f2, f3⟩ := I.fresh q (xf.mp J).1;refine⟨f1,f2,?_⟩
   cases w:H q.2 with
   |none=>exact absurd w f3
   |some u=>rw[Y _ _ w];simp
 ·obtain⟨x,y,z,q,rr⟩:=I.st a e;exact⟨x,y,z,Y _ _ q,rr⟩
noncomputable def zW2(i:Nat)(t:TAD):TSD:=λF rho n=>i<rho.length/\t rho n λes I=>es.length<=sizeLine/\F.nx (rho.set i (some (.own es))) I
theorem ZP{i:Nat}{x:Str}{pos' W:Pos}{aa:List Expr}{ta:TAD}(hN:X.N.Nodup)(hi:X.N[i]?=some x)(hx:Loc X.env.scope x)(ha:PAD A X aa ta)(hf:X.fn x=true\/X.env.scope.names.lookup x=some .local:=by first |exact .inl rfl |exact .inr rfl |assumption)
  (hs:swapsWith (.List aa W) (some (.Name x pos')) pos.line X.env=pure false:=by rfl):PSD A X (.Assign [.Name x pos'] (.List aa W) pos) (zW2 i ta):=by
 exists (zl2 hN hi hx (QZ ha) hs hf).imp λE sg H h=>by
   obtain⟨rho,n,F,ds,vs,I,⟨hl,ht⟩,ok⟩:=h
   refine⟨rho,n,_,ds,vs,I,ht,λws H' n' es ⟨os,J⟩ Y k=>⟨by rw[Y];exact k.1,λp hp=>?_⟩⟩
   obtain⟨J1,rs⟩:=J.split Y;exact ok.nx _ _ _ _ (J1.setOwn hl hp rs) k.2
theorem AmO.own{os:List (Nat × Addr)}{n:Nat}{rho:Rho}{sg:St}{H:Hp}{ds es es':List D}{vs xs':List V}{i:Nat}(I:AmO A os n rho sg H ds vs)(hi:rho[i]?=some (some (.own es))) :
  ∃a xs,sg[i]?=some (some (.ref a))/\H a=some (.lst xs)/\Reps A.K A.G (Zof A os) H es xs/\∀es' xs',Reps A.K A.G (Zof A os) H es' xs'->AmO A os n (rho.set i (some (.own es'))) sg (upd H a (.lst xs')) ds vs:=by
 obtain⟨v,J,a,xs,rfl,hm,hH,rs⟩:=I.slot i _ hi;have aa:i<rho.length:=(zu.mp hi).1;have za:Zof A os a:=.inr ⟨_,hm,rfl⟩
 have hf:∀(xs':List V) b u,¬ Zof A os b->H b=some u->upd H a (.lst xs') b=some u:=λxs' b u nz e=>by
  rw[wE λz=>nz (by rw[z];exact za)];exact e
 have uniq:∀j,(j,a)∈os->j=i:=λj hj=>by
  by_cases W:j=i
  ·exact W
  ·have key : ∀ (l : List (Nat × Addr)), l.Pairwise (λp q => p.1 ≠ q.1 /\ p.2 ≠ q.2) -> (j, a) ∈ l -> (i, a) ∈ l -> False := by
    intro l
    induction l with
    |nil=>intro _ h;simp at h
    |cons c l ih=>
     intro hp h1 h2;obtain⟨p1,p2⟩:=wG.mp hp
     rcases zt.mp h1 with J |h1<;>rcases zt.mp h2 with Y |h2
     ·rw[<- Y] at J;exact W (Prod.mk.inj J).1
     ·exact(p1 _ h2).2 (by rw[<- J])
     ·exact(p1 _ h1).2 (by rw[<- Y])
     ·exact ih p2 h1 h2
   exact(key os I.nd hj hm).elim
 obtain⟨af,ae,ag⟩:=I.fresh _ hm
 refine⟨a,xs,J,hH,rs,λes' xs' r=>⟨by simp[I.len],λj c e=>?_,Reps.mono (λ_ _ z=>z) (hf xs') _ _ I.pend,I.nd,λq hq=>?_,λb e=>?_,I.gz,λb u h e=>?_,I.z0⟩⟩
 ·by_cases hj : j = i
  ·subst hj;rw[xl aa] at e;cases e;exact⟨.ref a,J,a,xs',rfl,hm,yK,Reps.mono (λ_ _ z=>z) (hf xs') _ _ r⟩
  ·rw [xq (Ne.symm hj)] at e;obtain⟨u,Y,e3⟩:=I.slot j c e
   exact⟨u,Y,SlotR.mono (λ_ _ z=>z) (hf xs') (λb ys m q=>⟨m,by rw[wE λz=>hj (uniq j (by rw[<- z];exact m))];exact q⟩) _ _ e3⟩
 ·obtain ⟨f1, f2, f3⟩ := I.fresh q hq;refine⟨f1,f2,?_⟩
  by_cases e:q.2=a
  ·rw[e,yK];simp
  ·rw[wE e];exact f3
 ·obtain ⟨x, y, z, q, rr⟩ := I.st b e
  exact⟨x,y,z,by rw[wE λw=>ae (by rw[<- w];exact I.gz b e)];exact q,rr⟩
 ·rw [wE λw => by rw [w, af] at e; cases e]
  exact I.fr b u h e
theorem AmO.freeze{os:List (Nat × Addr)}{n:Nat}{rho:Rho}{sg:St}{H:Hp}{ds es:List D}{vs:List V}{i:Nat}(I:AmO A os n rho sg H ds vs)(hi:rho[i]?=some (some (.own es))):∃os',AmO A os' n (rho.set i (some (.lst es))) sg H ds vs:=by
 obtain⟨v,e1,a,xs,rfl,hm,hH,rs⟩:=I.slot i _ hi;have aa:i<rho.length:=(zu.mp hi).1;refine⟨os.filter λq=>decide (q.1≠i),?_⟩
 have sub:∀b,H b≠none->Zof A (os.filter λp=>decide (p.1≠i)) b->Zof A os b:=λb _ z=>by
  rcases z with z |⟨p,W,e⟩
  ·exact .inl z
  ·exact .inr ⟨p,(xf.mp W).1,e⟩
 have key:∀(l:List (Nat × Addr)),l.Pairwise (λp q=>p.1≠q.1/\p.2≠q.2)->(i,a)∈l->∀q∈l,q.2=a->q.1=i:=by
  intro l
  induction l with
  |nil=>intro _ h;simp at h
  |cons c l ih=>
   intro W h1 q hq J;obtain⟨p1,p2⟩:=wG.mp W
   rcases zt.mp h1 with e1 |h1<;>rcases zt.mp hq with Y |h2
   ·rw[Y,<- e1]
   ·exact absurd (by rw[<- e1,J]) (p1 _ h2).2
   ·exact absurd (by rw[<- Y,J]) (p1 _ h1).2
   ·exact ih p2 h1 q h2 J
 refine⟨by simp[I.len],λj c e=>?_,Reps.mono sub (λ_ _ _ e=>e) _ _ I.pend,I.nd.filter _,λp W=>I.fresh p (xf.mp W).1,I.st,I.gz,I.fr,I.z0⟩
 by_cases hj:j=i
 ·subst hj;rw[xl aa] at e;cases e;refine⟨.ref a,e1,Rep.lst_mk ⟨λz=>?_,hH⟩ (Reps.mono sub (λ_ _ _ e=>e) _ _ rs)⟩
  rcases z with z |⟨p,W,e⟩
  ·exact(I.fresh _ hm).2.1 z
  ·obtain⟨m1,m2⟩:=xf.mp W;have:=key os I.nd hm p m1 e;simp[this] at m2
 ·rw [xq (Ne.symm hj)] at e;obtain⟨u,Y,e3⟩:=I.slot j c e
  exact⟨u,Y,SlotR.mono sub (λ_ _ _ e=>e) (λb ys m q=>⟨xf.mpr ⟨m,by simpa using hj⟩,q⟩) _ _ e3⟩
noncomputable def xn8(i:Nat)(t:TSD):TSD:=λF rho n=>∃es,rho[i]?=some (some (.own es))/\t F (rho.set i (some (.lst es))) n
theorem je(i:Nat)(h:PSD A X st t):PSD A X st (xn8 i t):=by
 exists PS.imp h λE sg H q=>by
   obtain⟨rho,n,F,ds,vs,⟨os,I⟩,⟨es,hi,J⟩,ok⟩:=q;exact⟨_,n,F,ds,vs,I.freeze hi,J,ok⟩
end
section
variable {A:AC}{X:Cx}{e a b:Expr}{es:List Expr}{te ta tb:TD}{t1:TAD}{pos:Pos}
noncomputable def Um(i:Nat)(t:TAD):TSD:=λF rho n=>∃es,rho[i]?=some (some (.own es))/\es.length<sizeLine/\t rho n λds I=>∃d,ds=[d]/\F.nx (rho.set i (some (.own (es++[d])))) I
theorem kb{i:Nat}{x:Str}{px Y W:Pos}(ha:PAD A X [e] t1)(hK:X.K=A.K)(hN:X.N[i]?=some x:=by rfl)(hv:Vis X.env.scope x:=by first |exact Or.inl rfl |exact Or.inr (Or.inl rfl) |exact Or.inr (Or.inr rfl))(hd:(x == ("__debug__" : Str))=false:=by decide)
  (aj:(x == ("__classdict__" : Str))=false:=by decide) (af:attributeBase (.Name x px) "append" X.env (eval (.Name x px) X.env)=eval (.Name x px) X.env:=by rfl)
  (ag : ((backTo W (starEach [e] X.env)).all (λx => !x.1) && (backToKw W (keywordEach [] X.env)).all (λx => x.1.isSome)
   && decide ([e].length+([]:List Keyword).length+(if ([]:List Keyword).isEmpty then 0 else 1)<30))=true:=by rfl)
  (ae:(Y.endLine == W.line)=true:=by rfl) (hs:starEach [e] X.env=(false,eval e X.env)::starEach [] X.env:=by rfl) (aa:(backTo W (starEach [] X.env)).any (·.1)=false:=by rfl)
  (ai:swapsWith (.Call (.Attribute (.Name x px) "append" Y) [e] [] W) none pos.line X.env=pure false:=by rfl) :
  PSD A X (.Expr (.Call (.Attribute (.Name x px) "append" Y) [e] [] W) pos) (Um i t1):=by
 exists 
   (Qc (zm0 PySem.F.plainAttrs_list PySem.F.slot_list_append PySem.F.type_list_append KW (Zs hN hv hd aj) ha af ag ae hs aa) ai).imp λE sg H h => by
    obtain⟨rho,n,F,ds,vs,⟨os,I⟩,⟨es,hi,hz,ht⟩,ok⟩:=h;obtain⟨a,xs,e1,hH,rs,_⟩:=I.own (es':=es) (xs':=[]) hi;refine⟨.ref a,e1,.inl ⟨rfl,xs,SqL.of hH⟩,rho,n,_,ds,vs,⟨os,I⟩,ht,λws H' n' fs ⟨os',J⟩ hl k=>?_⟩;obtain⟨d,rfl,k⟩:=k;obtain⟨J1,ah⟩:=J.split hl;obtain⟨v,rfl,r⟩:=kX ah;obtain⟨a',xs',e2,hH',rs',up⟩:=J1.own (es':=es) (xs':=[]) hi;rw[e1] at e2;cases e2
    exact⟨a,xs',v,rfl,rfl,hH',by rw[rs'.length];exact hz,ok.nx _ _ _ _ ⟨os',up _ _ (rs'.append (.cons r .nil))⟩ k⟩
noncomputable def ZR(o:Option (Option D))(p:List D->Prop):Prop:=∃es,o=some (some (.own es))/\p es
noncomputable def zI9(i:Nat)(tb:TD):TD:=λrho n P=>ZR rho[i]? λes=>tb rho n λd I=>∃j c,d=.int j/\atI es j=some c/\P c I
theorem zA2{i:Nat}{x:Str}{px:Pos}(hb:PD A X b tb)(W:UR b)(hN:X.N[i]?=some x:=by rfl)(hv:Vis X.env.scope x:=by first |exact Or.inl rfl |exact Or.inr (Or.inl rfl) |exact Or.inr (Or.inr rfl))(hd:(x == ("__debug__" : Str))=false:=by decide)
  (Y:(x == ("__classdict__" : Str))=false:=by decide):PD A X (.Subscript (.Name x px) b pos) (zI9 i tb):=by
 exists 
   (zN6 Qp (Zs hN hv hd Y) hb W).imp λsg H Q h => by
    obtain⟨rho,n,P,ds,vs,⟨os,I⟩,⟨es,hi,ht⟩,hQ⟩:=h;obtain⟨a,xs,e1,hH,rs,_⟩:=I.own (es':=es) (xs':=[]) hi;refine⟨.ref a,e1,rho,n,_,ds,vs,⟨os,I⟩,ht,λv H' n' d ⟨os',J⟩ k=>?_⟩;obtain⟨j,c,rfl,hc,k⟩:=k;obtain⟨J1,r⟩:=J.pop;obtain⟨a',xs',e2,hH',rs',_⟩:=J1.own (es':=es) (xs':=[]) hi;rw[e1] at e2;cases e2;obtain⟨w,e3,rw'⟩:=UP rs' hc;exact⟨a,xs',j,w,rfl,r.int_inv,SqL.of hH',e3,hQ w H' n' c ⟨os',J1.push rw'⟩ k⟩
noncomputable def zL1(i:Nat)(te tb:TD):TSD:=λF rho n=>ZR rho[i]? λes=>te rho n λd J=>tb rho J λd2 I=>∃j m,d2=.int j/\ixN es.length j=some m/\F.nx (rho.set i (some (.own (es.set m d)))) I
noncomputable def xg3(i:Nat)(tb:TD):TD:=λrho n P=>rho[i]?=some (some .st)/\tb rho n λd I=>∃j:Int,d=.int j/\0<=j/\j<I/\∀z:Int,0<=z->(j=1->z<2147483647)->P (.int z) I
theorem zI0{n:Nat}{i:Int}(I:0<=i)(h1:i<n):ixN n i=some i.toNat:=by unfold ixN;rw[if_pos I,if_pos h1]
theorem jT{i:Nat}{x:Str}{px:Pos}(hb:PD A X b tb)(aa:UR b)(hN:X.N[i]?=some x:=by rfl)(hv:Vis X.env.scope x:=by first |exact Or.inl rfl |exact Or.inr (Or.inl rfl) |exact Or.inr (Or.inr rfl))(hd:(x == ("__debug__" : Str))=false:=by decide)
  (ae:(x == ("__classdict__" : Str))=false:=by decide):PD A X (.Subscript (.Name x px) b pos) (xg3 i tb):=by
 exists 
   (zN6 Qp (Zs hN hv hd ae) hb aa).imp λsg H Q h => by
    obtain⟨rho,n,P,ds,vs,⟨os,I⟩,⟨hi,ht⟩,hQ⟩:=h;obtain⟨v,e1,e2⟩:=I.slot i _ hi
    obtain⟨a,ha,rfl⟩:∃a,A.G=some a/\v=.ref a:=by
     have e3:=SlotR.rep (d:=.st) rfl e2;unfold Rep at e3;exact e3
    refine⟨.ref a,e1,rho,n,_,ds,vs,⟨os,I⟩,ht,λw H' n' d ⟨os',J⟩ k=>?_⟩;obtain⟨j,rfl,h0,h3,k⟩:=k;obtain⟨J1,r⟩:=J.pop;obtain⟨zs,_,_,hH,p1,p2,p3⟩:=J1.st a ha;obtain⟨W,rfl⟩:=zZ h0
    have Y:W<zs.length:=x3
    have ej:zs[W]?=some zs[W]:=ze Y
    refine⟨a,_,(W:Int),.int zs[W],rfl,r.int_inv,SqL.of hH,?_,hQ _ H' n' _ ⟨os',J1.push (Rep.ofS (d:=.int zs[W]) rfl)⟩ (k zs[W] (p2 _ (wz Y)) λe=>p3 _ (by rw[<- ej];congr 1;lia))⟩
    unfold atI
    rw[zI0 x3 (by rw[zh];lia)]
    simp[Y]
theorem zD5(I:List Int)(j:Nat)(z:Int):(I.map V.int).set j (.int z)=(I.set j z).map V.int:=by rw[List.map_set]
theorem AmO.setSt{os:List (Nat × Addr)}{n:Nat}{rho:Rho}{sg:St}{H:Hp}{ds:List D}{vs:List V}{a:Addr}{J:List Int}(I:AmO A os n rho sg H ds vs)(ha:A.G=some a)(h:J.length=n/\(∀x∈J,0<=x)/\∀x,J[1]?=some x->x<2147483647) :
  AmO A os n rho sg (upd H a (.lst (J.map V.int))) ds vs:=by
 have za:Zof A os a:=.inl (I.gz a ha)
 have Y:∀b u,¬ Zof A os b->H b=some u->upd H a (.lst (J.map V.int)) b=some u:=λb u nz e=>by
  rw[wE λw=>nz (by rw[w];exact za)];exact e
 have no:∀p∈os,p.2≠a:=λp hp e=>(I.fresh p hp).2.1 (by rw[e];exact I.gz a ha)
 refine⟨I.len,λj c e=>?_,Reps.mono (λ_ _ w=>w) Y _ _ I.pend,I.nd,λq W=>?_,λb e=>?_,I.gz,λb u h e=>?_,I.z0⟩
 ·obtain ⟨u, e1, e2⟩ := I.slot j c e
  exact⟨u,e1,SlotR.mono (λ_ _ w=>w) Y (λb ys m q=>⟨m,by rw[wE (no _ m)];exact q⟩) _ _ e2⟩
 ·obtain ⟨f1, f2, f3⟩ := I.fresh q W
  exact⟨f1,f2,by rw[wE (no q W)];exact f3⟩
 ·rw[ha] at e;cases e;exact⟨J,0,0,yK,h⟩
 ·rw [wE λw => h (by rw [w]; exact ha)]
  exact I.fr b u h e
noncomputable def zG1(i:Nat)(te tb:TD):TSD:=λF rho n=>rho[i]?=some (some .st)/\te rho n λd J=>tb rho J λd2 I=>∃j z:Int,d=.int z/\d2=.int j/\0<=j/\j<I/\0<=z/\(j=1->z<2147483647)/\F.nx rho I
theorem XY{i:Nat}{x:Str}{W ps:Pos}(he:PD A X e te)(hb:PD A X b tb)(hN:X.N[i]?=some x:=by rfl)(hv:Vis X.env.scope x:=by first |exact Or.inl rfl |exact Or.inr (Or.inl rfl) |exact Or.inr (Or.inr rfl))(hd:(x == ("__debug__" : Str))=false:=by decide)
  (af : (x == ("__classdict__" : Str)) = false := by decide) (ha : ∀ v, assign (.Subscript (.Name x W) b ps) X.env v = (do
   let Y <- holding [v] (eval (.Name x W) X.env)
   let iv <- holding [v,Y] (eval b X.env)
   standAt ps
   holding [v,Y,iv] (setItem Y iv v)
   release [v,Y,iv] []):=by intro _;rfl) (hs:swapsWithSole [.Subscript (.Name x W) b ps] e pos.line X.env=pure false:=by rfl) (hw:swappedStores [.Subscript (.Name x W) b ps] e X.env=pure none:=by rfl)
  (h1:(assignEach [.Subscript (.Name x W) b ps] X.env).map (·.2)=[assign (.Subscript (.Name x W) b ps) X.env]:=by rfl) :
  PSD A X (.Assign [.Subscript (.Name x W) b ps] e pos) (zG1 i te tb):=by
 exists 
   (zG8 he (zZ7 (Zs hN hv hd af) hb zx6 ha) hs hw h1).imp λE sg H h => by
    obtain⟨rho,n,F,ds,vs,⟨os,I⟩,⟨hi,ht⟩,ok⟩:=h;obtain⟨v,e1,e2⟩:=I.slot i _ hi
    obtain⟨a,hG,rfl⟩:∃a,A.G=some a/\v=.ref a:=by
     have e3:=SlotR.rep (d:=.st) rfl e2;unfold Rep at e3;exact e3
    refine⟨rho,n,_,ds,vs,⟨os,I⟩,ht,λv H' n' d J k=>⟨.ref a,e1,rho,n',_,d::ds,v::vs,J,k,λw H2 n2 d2 ⟨aa,J2⟩ k2=>?_⟩⟩;obtain⟨j,z,rfl,rfl,h0,h3,hz,h2,k2⟩:=k2;obtain⟨J3,r2⟩:=J2.pop;obtain⟨J4,r1⟩:=J3.pop;obtain⟨zs,_,_,hH,p1,p2,p3⟩:=J4.st a hG;rw[r1.int_inv,r2.int_inv];obtain⟨jn,rfl⟩:=zZ h0
    have ae:jn<zs.length:=x3
    refine⟨a,_,(jn:Int),jn,rfl,rfl,hH,by rw[zI0 x3 (by rw[zh];lia)];simp,?_⟩
    rw[zD5]
    refine ok.nx _ _ _ _ ⟨aa,J4.setSt hG ⟨by rw[List.length_set];exact p1,λx hx=>?_,λx hx=>?_⟩⟩ k2
    ·rcases List.mem_or_eq_of_mem_set hx with hx | rfl
     ·exact p2 x hx
     ·exact hz
    ·by_cases e : jn = 1
     ·subst e;rw[xl ae] at hx;cases hx;exact h2 rfl
     ·rw[xq e] at hx;exact p3 x hx
noncomputable def Xq(es:List D)(lo hi:Option Int):List D:=(es.drop (HT.sIx es.length 0 lo)).take (HT.sIx es.length es.length hi-HT.sIx es.length 0 lo)
theorem Uq{K:W.Frag}{G:QqE}{Z:QqA}{H:Hp}{fs:List D}{xs:List V}(h:Reps K G Z H fs xs)(lo hi:Option Int):Reps K G Z H (Xq fs lo hi) (zE6 xs lo hi):=by
 unfold Xq zE6;rw[h.length];exact(h.drop _).take _
noncomputable def xN4(lo hi:Option Int)(ta:TD):TD:=λrho n P=>ta rho n λd I=>∃fs,(d=.lst fs\/d=.fz fs)/\P (.lst (Xq fs lo hi)) I
noncomputable def xf9(es:List D):List D:=es.zipIdx.map λp=>.tup [.int (p.2:Nat),p.1]
noncomputable def xf4(t:TAD):TID:=λrho n P=>t rho n λes I=>∃fs,es=[.lst fs]/\P (xf9 fs) I
end
noncomputable abbrev TF:=List D->Nat->(D->Nat->Prop)->Prop
noncomputable def spD(K:W.Frag)(k:Nat)(t:TF):Sp:=λvs H Q _=>∃(G:QqE) (Z:QqA) (n:Nat) (P:D->Nat->Prop) (ds:List D),ds.length=k/\Reps K G Z H ds vs/\zJ6 G n H/\(∀a,G=some a->Z a)/\ZOk K G Z H/\t ds n P /\
 ∀v H' n' d,(∀a o,G≠some a->H a=some o->H' a=some o)->zJ6 G n' H'->Rep K G Z H' d v->P d n'->Q v H'
noncomputable def startD(N:List Str)(ds:List D):Rho:=ds.map some++replicate (N.length-ds.length) none
theorem Yr{K:W.Frag}{G:QqE}{Z:QqA}{H:Hp}{N:List Str}{ds:List D}{vs:List V}{n:Nat}(J:Reps K G Z H ds vs)(st:zJ6 G n H)(gz:∀a,G=some a->Z a)(z0:ZOk K G Z H) :
  AmO ⟨K,G,Z,H⟩ [] n (startD N ds) (Yu N vs) H [] []:=by
 have Y:=J.length
 have zz:∀a,Zof ⟨K,G,Z,H⟩ [] a->Z a:=λa z=>by
  rcases z with z |⟨p,I,_⟩
  ·exact z
  ·simp at I
 have rs':Reps K G (Zof ⟨K,G,Z,H⟩ []) H ds vs:=Reps.mono (λa _ z=>zz a z) (λ_ _ _ e=>e) _ _ J
 refine⟨by simp[startD,Yu,Y],λi d e=>?_,.nil,.nil,λp I=>by simp at I,st,gz,λa o _ e=>e,z0⟩
 unfold startD at e
 by_cases hi:i<ds.length
 ·rw [xE (by simpa using hi), zv] at e
  cases q:ds[i]? with
  |none=>rw[q] at e;cases e
  |some c=>
   rw[q] at e;cases e;obtain⟨v,e1,r⟩:=rs'.get q;refine⟨v,?_,SlotR.of r⟩;unfold Yu
   rw[xE (by rw[zh,Y];exact hi),zv,e1]
   rfl
 ·rw [xt (by simpa using hi), xv] at e
  split at e<;>cases e
section
variable {P:Program}{w:World}{K:W.Frag}{mg:QqM}{base:Heap}
theorem Fun.okD{x J:Str}{st:Stmt}{f:Addr}{fd:FuncData}{N ps:List Str}{k:Nat}{t:TF}{tb:TSD}(F:Fun K x J st f fd)(S:FnScope N ps (zV st))
  (body : ∀ (W : Value) (A0 : Around) (outer : List Env) (s : Shared) (H : Hp) (E : XK) (G : Option Addr) (Z : Addr -> Prop), Room k (A0.deeper (envOfC J (zV st) s.heap.objs.size f W)) ->
   zg5 ⟨K,G,Z,H⟩ (zE5 CX0 P w K mg base N J (zV st) f W A0 outer s H E).nox (kn st) tb)
  (Y:∀ds n Q,ds.length=ps.length->t ds n Q->tb { nx:=λ_ n=>Q .non n,rt:=Q } (startD N ds) n):FnOk P w K mg base CX0 (k+1) f fd ps (spD K ps.length t):=by
 exists (by
   refine F.ok S (λvs H Q E h=>?_) (λW A0 outer s H vs Q E hr h=>?_)
   ·obtain⟨G,Z,n,R,ds,hl,rs,_⟩:=h;rw[rs.length];exact hl
   ·obtain ⟨G, Z, n, R, ds, hl, rs, aa, gz, z0, ht, hQ⟩ := h;refine⟨_,body W A0 outer s H E G Z hr,startD N ds,n,_,[],[],⟨[],Yr rs aa gz z0⟩,Y ds n R hl ht,?_⟩;have zz:∀ (os:List (Nat × Addr)) a,Z a->Zof ⟨K,G,Z,H⟩ os a:=λos a z=>.inl z;refine⟨λrho' n' sg' H' ⟨os,I⟩ q=>?_,λd n' v rho' sg' H' ⟨os,I⟩ q=>?_,λ_ _ _ _ _ q=>q.elim,λ_ _ _ _ _ q=>q.elim⟩
    ·exact hQ .non H' n' .non I.fr I.st (Rep.ofS rfl) q
    ·exact hQ v H' n' d I.fr I.st (Rep.mono (λa _ z=>zz os a z) (λ_ _ _ e=>e) _ _ I.pop.2) q)
end
section
variable {A:AC}{X:Cx}{e:Expr}{es:List Expr}{t1:TAD}{pos p:Pos}
noncomputable def dFn(k:Nat)(t:TF)(t1:TAD):TD:=λrho n P=>t1 rho n λes I=>es.length=k/\t es I P
theorem AmO.called{os:List (Nat × Addr)}{n n':Nat}{rho:Rho}{sg:St}{H H':Hp}{ds:List D}{vs:List V}(I:AmO A os n rho sg H ds vs)(fr:∀a o,A.G≠some a->H a=some o->H' a=some o)(st:zJ6 A.G n' H'):AmO A os n' rho sg H' ds vs:=by
 have W:∀b u,¬ Zof A os b->H b=some u->H' b=some u:=λb u Y e=>fr b u (λz=>Y (.inl (I.gz b z))) e;have no:∀p∈os,A.G≠some p.2:=λp hp e=>(I.fresh p hp).2.1 (I.gz _ e);refine⟨I.len,λj c e=>?_,Reps.mono (λ_ _ w=>w) W _ _ I.pend,I.nd,λq J=>?_,st,I.gz,λb u h e=>fr b u h (I.fr b u h e),I.z0⟩
 ·obtain⟨u,e1,e2⟩:=I.slot j c e;exact⟨u,e1,SlotR.mono (λ_ _ w=>w) W (λb ys m q=>⟨m,fr _ _ (no _ m) q⟩) _ _ e2⟩
 ·obtain ⟨f1, f2, f3⟩ := I.fresh q J;refine⟨f1,f2,?_⟩
  cases z:H q.2 with
  |none=>exact absurd z f3
  |some u=>rw[fr _ _ (no q J) z];simp
theorem zO2{x:Str}{f:Addr}{fd:FuncData}{ps:List Str}{t:TF}{kk k:Nat}(F:FnOk X.prog X.w X.K X.mg X.base CX0 kk f fd ps (spD X.K k t))(hr:Room kk X.A)(hm:X.mg x=some (.ref f))(hk:W.keepIn X.K (.ref f)=true)(hb:Binds X.K fd ps [])(hK:X.K=A.K)
  (ha:PAD A X (e::es) t1) (hg:Gl X x:=by rfl) (ae:(x == ("__debug__" : Str))=false:=by decide) (he:starEach (e::es) X.env=(false,eval e X.env)::starEach es X.env:=by rfl) (aa:(backTo pos (starEach es X.env)).any (·.1)=false:=by rfl) :
  PD A X (.Call (.Name x p) (e::es) [] pos) (dFn k t t1):=by
 exists (zl9 F hr hg hm hk hb .nil xa5 ha ae he aa).imp λsg H Q h=>by
   obtain⟨rho,n,R,ds,vs,I,ht,hQ⟩:=h;refine⟨rho,n,_,ds,vs,I,ht,λws H' n' es' ⟨os,J⟩ hl k=>?_⟩;obtain⟨Y,rs⟩:=J.split hl;rw[yV,hK];refine⟨A.G,Zof A os,n',R,es',k.1,rs,Y.st,λa z=>.inl (Y.gz a z),Y.zO,k.2,λv H2 n2 d fr st r q=>hQ v H2 n2 d ⟨os,(Y.called fr st).push r⟩ q⟩
end
section
variable {A:AC}{X:Cx}{tg a:Expr}{ta:TD}{pos p:Pos}
noncomputable def xy1(K:W.Frag)(J:TE):TI:=λsg H R=>J sg H λx I=>∃l,x=.ref l/\(((∃xs,SqL K I l xs)/\R (Itl K l) I)\/((∃xs,SqT K I l xs)/\R (Itt K l) I))
theorem zN3{l:Expr}{tl:TE}(hl:PE X l tl):PI X tg l (xy1 X.K tl):=by
 intro W s sg H R I h;refine thn (hl W s sg H _ I h) λv J ⟨x,H1,Y,r1,q1⟩=>?_;obtain⟨c,e,q1⟩:=q1;subst e;cases r1
 have aa:∀b∈[J.heap.objs.size],FpOk X W H1 b:=λb hb=>by
  obtain rfl:b=J.heap.objs.size:=by simpa using hb
  exact Y.fpOk (zi _) (Y.hok.fresh (zi _))
 rcases q1 with ⟨⟨xs,hq⟩,q⟩ |⟨⟨xs,hq⟩,q⟩
 ·obtain⟨its,rv,pl,hz⟩:=Y.list hq;exact yA pl.isList ⟨J.heap.objs.size,[J.heap.objs.size],_,_,H1,rfl,Y.kept (t':=J.toks) λb o e=>zg _ e,zi5 c _,⟨_,zD _ rfl,rfl,rfl⟩,aa,q⟩
 ·obtain⟨its,rv,pl,hz⟩:=Y.tuple hq;exact wpAny_pyIter_tuple (show J.heap.IsTuple c its.toArray from pl) ⟨J.heap.objs.size,[J.heap.objs.size],_,_,H1,rfl,Y.kept (t':=J.toks) λb o e=>zg _ e,zc6 c _,⟨_,zD _ rfl,rfl,rfl⟩,aa,q⟩
noncomputable def xf1(ta:TD):TID:=λrho n P=>ta rho n λd I=>∃es,(d=.lst es\/d=.tup es)/\P es I
theorem vk(hK:X.K=A.K)(ha:PD A X a ta):PID A X tg a (xf1 ta):=by
 exists (zN3 ha).imp λsg H R h=>by
   obtain⟨rho,n,P,ds,vs,I,ht,hQ⟩:=h;refine⟨rho,n,_,ds,vs,I,ht,λv H' n' d ⟨os,J⟩ k=>?_⟩;obtain⟨es,hd,k⟩:=k;have r:=J.pop.2;rw[hK]
   rcases hd with rfl |rfl
   ·obtain ⟨l, xs, rfl, sq, rs⟩ := r.lst_inv;refine⟨l,rfl,.inl ⟨⟨xs,sq.sq⟩,hQ _ H' n' es [.lst es] [.ref l] ⟨os,J⟩ rfl (λn2 ah ai H2 ag ae i ⟨af,I2⟩=>?_) k⟩⟩;obtain⟨I3,r2⟩:=AmO.pop (d:=.lst es) (v:=.ref l) (ds:=ag) (vs:=ae) I2;obtain⟨l',W,e,Y,aa⟩:=r2.lst_inv;cases e
    refine⟨λd e=>?_,λhi=>⟨W,Y.sq,by rw[aa.length];exact hi⟩⟩
    obtain⟨v,e1,rv⟩:=aa.get e;refine⟨⟨W,v,Y.sq,e1⟩,λx H3 y=>?_⟩;obtain⟨e3,y⟩:=y;subst e3;have e4:=y W Y.sq;rw[e1] at e4;cases e4;exact⟨af,I2.push rv⟩
   ·obtain ⟨l, xs, rfl, sq, rs⟩ := r.tup_inv;refine⟨l,rfl,.inr ⟨⟨xs,sq.sq⟩,hQ _ H' n' es [.tup es] [.ref l] ⟨os,J⟩ rfl (λn2 ah ai H2 ag ae i ⟨af,I2⟩=>?_) k⟩⟩;obtain⟨I3,r2⟩:=AmO.pop (d:=.tup es) (v:=.ref l) (ds:=ag) (vs:=ae) I2;obtain⟨l',W,e,Y,aa⟩:=r2.tup_inv;cases e
    refine⟨λd e=>?_,λhi=>⟨W,Y.sq,by rw[aa.length];exact hi⟩⟩
    obtain⟨v,e1,rv⟩:=aa.get e;refine⟨⟨W,v,Y.sq,e1⟩,λx H3 y=>?_⟩;obtain⟨e3,y⟩:=y;subst e3;have e4:=y W Y.sq;rw[e1] at e4;cases e4;exact⟨af,I2.push rv⟩
end
structure Fn(P:Program)(w:World)(K:W.Frag)(mg:QqM)(base:Heap)(x:Str)(kk k:Nat)(t:TF):Prop where
 ex:∃(f:Addr) (fd:FuncData) (ps:List Str),FnOk P w K mg base CX0 kk f fd ps (spD K k t)/\mg x=some (.ref f)/\W.keepIn K (.ref f)=true/\Binds K fd ps []
theorem xQ{A:AC}{X:Cx}{e:Expr}{es:List Expr}{W:TAD}{pos p:Pos}{x:Str}{t:TF}{Y k:Nat}(F:Fn X.prog X.w X.K X.mg X.base x Y k t)(hr:Room Y X.A)(hK:X.K=A.K)
  (ha:PAD A X (e::es) W) (hg:Gl X x:=by rfl) (J:(x == ("__debug__" : Str))=false:=by decide) (he:starEach (e::es) X.env=(false,eval e X.env)::starEach es X.env:=by rfl) (I:(backTo pos (starEach es X.env)).any (·.1)=false:=by rfl) :
  PD A X (.Call (.Name x p) (e::es) [] pos) (dFn k t W):=by
 exists (by
   obtain⟨f,fd,ps,h1,h2,h3,h4⟩:=F.ex
   exact zO2 h1 hr h2 h3 h4 hK ha hg J he I)
structure Blt(mg:QqM):Prop where
 len:mg "len" = none
 abs:mg "abs" = none
 all:mg "all" = none
 any:mg "any" = none
 isi:mg "isinstance" = none
 int:mg "int" = none
 bool:mg "bool" = none
 str:mg "str" = none
 tuple:mg "tuple" = none
 list:mg "list" = none
 range:mg "range" = none
 zip:mg "zip" = none
 enum:mg "enumerate" = none
 max:mg "max" = none
 min:mg "min" = none
 sorted:mg "sorted" = none
theorem vB:bootBuiltins "len" = some (.builtin "len"):=x5
theorem zJ3:bootBuiltins "abs" = some (.builtin "abs"):=x5
theorem zc0:bootBuiltins "all" = some (.builtin "all"):=x5
theorem zv3:bootBuiltins "any" = some (.builtin "any"):=x5
theorem kP:bootBuiltins "isinstance" = some (.builtin "isinstance"):=x5
theorem Jt:bootBuiltins "int" = some (.type "int"):=x5
theorem UN:bootBuiltins "bool" = some (.type "bool"):=x5
theorem zJ2:bootBuiltins "str" = some (.type "str"):=x5
theorem yF:bootBuiltins "tuple" = some (.type "tuple"):=x5
theorem Zd:bootBuiltins "list" = some (.type "list"):=x5
noncomputable def isB(d:D)(p:Bool->Prop):Prop:=∃c,d=.bl c/\p c
@[simp] theorem xK5{b:Bool}{p:Bool->Prop}:isB (.bl b) p↔p b:=⟨fun⟨_,e,h⟩=>by cases e;exact h,λh=>⟨_,rfl,h⟩⟩
@[simp] theorem xq4{F rho n}:zW3 F rho n=F.nx rho n:=rfl
@[simp] theorem xB3{t u F rho n}:YG t u F rho n=t { F with nx:=u F } rho n:=rfl
@[simp] theorem xB4{I F rho n}:zG2 I F rho n=I rho n F.rt:=rfl
@[simp] theorem xJ4{c t u F rho n}:sIf c t u F rho n=c rho n λb I=>if b=true then t F rho I else u F rho I:=rfl
@[simp] theorem xB2{i I F rho n}:Vk i I F rho n=(i<rho.length/\I rho n λd J=>F.nx (rho.set i (some d)) J):=rfl
@[simp] theorem xB1{I g F rho n}:xA1 I g F rho n=I rho n λd J=>g d rho λrho'=>F.nx rho' J:=rfl
@[simp] theorem xB7{i t F rho n}:zW2 i t F rho n=(i<rho.length/\t rho n λes I=>es.length<=sizeLine/\F.nx (rho.set i (some (.own es))) I):=rfl
@[simp] theorem xq5{I F rho n}:xn9 I F rho n=I rho n λ_ J=>F.nx rho J:=rfl
@[simp] theorem xB8{i t F rho n}:xn8 i t F rho n=∃es,rho[i]?=some (some (.own es))/\t F (rho.set i (some (.lst es))) n:=rfl
@[simp] theorem zY1{i t F rho n}:Um i t F rho n=∃es,rho[i]?=some (some (.own es))/\es.length<sizeLine/\t rho n λds I=>∃d,ds=[d]/\F.nx (rho.set i (some (.own (es++[d])))) I:=rfl
@[simp] theorem xk7{i d rho P}:zI1 i d rho P=(i<rho.length/\P (rho.set i (some d))):=rfl
@[simp] theorem xC6{i rho n P}:xG0 i rho n P=atV rho[i]? λd=>P d n:=rfl
@[simp] theorem xL7{d k}:atV (some (some d)) k=atD d k:=rfl
@[simp] theorem xE9{k}:atD .non k=k .non:=rfl
@[simp] theorem xE8{k b}:atD (.bl b) k=k (.bl b):=rfl
@[simp] theorem xE7{k b}:atD (.int b) k=k (.int b):=rfl
@[simp] theorem xE6{k b}:atD (.str b) k=k (.str b):=rfl
@[simp] theorem xE5{k b}:atD (.tup b) k=k (.tup b):=rfl
@[simp] theorem xE4{k b}:atD (.lst b) k=k (.lst b):=rfl
@[simp] theorem xE3{k b}:atD (.fz b) k=k (.fz b):=rfl
@[simp] theorem xE2{k}:atD .st k=k .st:=rfl
@[simp] theorem xE1{k a b}:atD (.dct a b) k=k (.dct a b):=rfl
@[simp] theorem xL8{d k}(h:we d=true):atD d k=k d:=propext ⟨λz=>(zv7 z).2,zJ5 h⟩
@[simp] theorem xO8{d rho n P}:dC d rho n P=P d n:=rfl
@[simp] theorem xL3{J I tb rho n P}:dOp J I tb rho n P=I rho n λd1 Y=>tb rho Y λd2 W=>J d1 d2 λd=>P d W:=rfl
@[simp] theorem xu6{t rho n P}:zs7 t rho n P=t rho n λd n'=>isB d λb=>P b n':=rfl
@[simp] theorem xr3{d1 d2 k}:zX4 d1 d2 k=(d2=.non/\k (.bl (qj d1))):=rfl
@[simp] theorem xi3{d1 d2 k}:zG4 d1 d2 k=(d2=.non/\k (.bl (!qj d1))):=rfl
@[simp] theorem xE0{t u rho n P}:xz2 t u rho n P=t rho n λc I=>if c=true then u rho I P else P false I:=rfl
@[simp] theorem xL6{t u rho n P}:bOr t u rho n P=t rho n λc I=>if c=true then P true I else u rho I P:=rfl
@[simp] theorem xD9{t rho n P}:xG7 t rho n P=t rho n λc I=>P (!c) I:=rfl
@[simp] theorem xD8{rho n P}:xg6 rho n P=P true n:=rfl
@[simp] theorem xD7{I tb rho n P}:xG6 I tb rho n P=I rho n λd J=>isB d λc=>if c=true then tb rho J P else P (.bl false) J:=rfl
@[simp] theorem xL2{I tb rho n P}:dOr I tb rho n P=I rho n λd J=>isB d λc=>if c=true then P (.bl true) J else tb rho J P:=rfl
@[simp] theorem xD2{I rho n P}:xG4 I rho n P=I rho n λd J=>isB d λc=>P (.bl (!c)) J:=rfl
@[simp] theorem xL4{t I tb rho n P}:dIf t I tb rho n P=t rho n λc J=>if c=true then I rho J P else tb rho J P:=rfl
@[simp] theorem xF0{rho n P}:xz3 rho n P=P [] n:=rfl
@[simp] theorem xv2{t r rho n P}:xh1 t r rho n P=t rho n λd J=>r rho J λds I=>P (d::ds) I:=rfl
@[simp] theorem xC7{t rho n P}:xG1 t rho n P=t rho n λds I=>ds.length<=sizeLine/\P (.tup ds) I:=rfl
@[simp] theorem xD3{t rho n P}:xy9 t rho n P=t rho n λds I=>ds.length<=sizeLine/\P (.lst ds) I:=rfl
@[simp] theorem xv0{I t rho n P}:zE4 I t rho n P=t rho n λes J=>I es λd=>P d J:=rfl
@[simp] theorem xL5{k t I rho n P}:dFn k t I rho n P=I rho n λes J=>es.length=k/\t es J P:=rfl
@[simp] theorem xu1{I rho n P}:xf1 I rho n P=I rho n λd J=>∃es,(d=.lst es\/d=.tup es)/\P es J:=rfl
@[simp] theorem xu2{t rho n P}:xf2 t rho n P=t rho n λes I=>∃j:Int,es=[.int j]/\-(2^62)<=j/\j<2^62/\P (JI 0 j.toNat) I:=rfl
@[simp] theorem xk6{t rho n P}:xf4 t rho n P=t rho n λes I=>∃fs,es=[.lst fs]/\P (xf9 fs) I:=rfl
@[simp] theorem xD0{lo hi I rho n P}:xN4 lo hi I rho n P=I rho n λd J=>∃fs,(d=.lst fs\/d=.fz fs)/\P (.lst (Xq fs lo hi)) J:=rfl
@[simp] theorem xu4{rho P}:xf6 [] rho P↔P rho:=⟨λh=>h.2,λh=>⟨rfl,h⟩⟩
@[simp] theorem xk8{g I d r rho P}:zI2 g I (d::r) rho P↔g d rho λrho'=>I r rho' P:=⟨fun⟨_,_,e,h⟩=>by cases e;exact h,λh=>⟨_,_,rfl,h⟩⟩
@[simp] theorem xu3{k I es rho P}:xf5 k I (.tup es) rho P↔(es.length=k/\I es rho P):=⟨fun⟨_,e,h⟩=>by cases e;exact h,λh=>⟨_,rfl,h⟩⟩
@[simp] theorem xJ5{C g i j k}:rdI C g (.int i) (.int j) k=(C i j/\k (g i j)):=rfl
@[simp] theorem xC0{g i j k}:zy8 g (.int i) (.int j) k=k (g i j):=rfl
@[simp] theorem xJ6{f c d k}:rdB f (.bl c) (.bl d) k=k (.bl (f c d)):=rfl
@[simp] theorem zM2{es i k}:Yi (.lst es) (.int i) k↔∃d,atI es i=some d/\k d:=⟨fun⟨_,_,d,e,e',h⟩=>by cases e' ;rcases e with e |e |e<;>cases e;exact⟨d,h⟩,fun⟨d,h⟩=>⟨_,_,d,.inl rfl,rfl,h⟩⟩
@[simp] theorem zk7{es i k}:Yi (.tup es) (.int i) k↔∃d,atI es i=some d/\k d:=⟨fun⟨_,_,d,e,e',h⟩=>by cases e' ;rcases e with e |e |e<;>cases e;exact⟨d,h⟩,fun⟨d,h⟩=>⟨_,_,d,.inr (.inl rfl),rfl,h⟩⟩
@[simp] theorem xr2{es i k}:Yi (.fz es) (.int i) k↔∃d,atI es i=some d/\k d:=⟨fun⟨_,_,d,e,e',h⟩=>by cases e' ;rcases e with e |e |e<;>cases e;exact⟨d,h⟩,fun⟨d,h⟩=>⟨_,_,d,.inr (.inr rfl),rfl,h⟩⟩
@[simp] theorem xr9{es fs k}:zL8 (.lst es) (.lst fs) k↔(es.length+fs.length<=sizeLine/\k (.lst (es++fs))):=⟨fun⟨_,_,e,e',h⟩=>by cases e;cases e';exact h,λh=>⟨_,_,rfl,rfl,h⟩⟩
@[simp] theorem zz1{es i k}:zk6 (.tup es) (.int i) k↔(es≠[]/\1<=i/\es.length*i.toNat<=sizeLine/\k (.tup (replicate i.toNat es).flatten)):=⟨fun⟨_,_,e,e',h⟩=>by cases e;cases e';exact h,λh=>⟨_,_,rfl,rfl,h⟩⟩
noncomputable def ze1(es:List D)(p:D->D->Prop):Prop:=∃d d',es=[d,d']/\p d d'
@[simp] theorem xs0{a b p}:ze1 [a,b] p↔p a b:=⟨fun⟨_,_,e,h⟩=>by cases e;exact h,λh=>⟨_,_,rfl,h⟩⟩
@[simp] theorem xB6{i j t F rho n}:xn7 i j t F rho n=(i<rho.length/\j<rho.length/\t rho n λes I=>ze1 es λd d'=>F.nx ((rho.set i (some d)).set j (some d')) I):=rfl
@[simp] theorem xr4{i j:Int}{k}:zG5 (.int i) (.int j) k↔k (.bl (decide (i=j))):=by
 have e:decide (ofS (.int i)=ofS (.int j))=decide (i=j):=by simp[ofS]
 unfold zG5;rw[e];exact⟨λh=>h.2.2.2,λh=>⟨rfl,rfl,rfl,h⟩⟩
@[simp] theorem xr5{i j:Bool}{k}:zG5 (.bl i) (.bl j) k↔k (.bl (decide (i=j))):=by
 have e:decide (ofS (.bl i)=ofS (.bl j))=decide (i=j):=by simp[ofS]
 unfold zG5;rw[e];exact⟨λh=>h.2.2.2,λh=>⟨rfl,rfl,rfl,h⟩⟩
@[simp] theorem xr0{i j:Int}{k}:zT3 (.int i) (.int j) k↔k (.bl (!decide (i=j))):=by
 have e:decide (ofS (.int i)=ofS (.int j))=decide (i=j):=by simp[ofS]
 unfold zT3;rw[e];exact⟨λh=>h.2.2.2,λh=>⟨rfl,rfl,rfl,h⟩⟩
@[simp] theorem xr1{i j:Bool}{k}:zT3 (.bl i) (.bl j) k↔k (.bl (!decide (i=j))):=by
 have e:decide (ofS (.bl i)=ofS (.bl j))=decide (i=j):=by simp[ofS]
 unfold zT3;rw[e];exact⟨λh=>h.2.2.2,λh=>⟨rfl,rfl,rfl,h⟩⟩
@[simp] theorem xt3{fs k}:zD4 [.lst fs] k↔k (.int fs.length):=⟨fun⟨_,e,h⟩=>by rcases e with e |e |e<;>cases e;exact h,λh=>⟨_,.inl rfl,h⟩⟩
@[simp] theorem Ur{fs k}:zD4 [.tup fs] k↔k (.int fs.length):=⟨fun⟨_,e,h⟩=>by rcases e with e |e |e<;>cases e;exact h,λh=>⟨_,.inr (.inl rfl),h⟩⟩
@[simp] theorem xt4{fs k}:zD4 [.fz fs] k↔k (.int fs.length):=⟨fun⟨_,e,h⟩=>by rcases e with e |e |e<;>cases e;exact h,λh=>⟨_,.inr (.inr rfl),h⟩⟩
@[simp] theorem xC2{i k}:xF8 [.int i] k↔k (.int (if i<0 then -i else i)):=⟨fun⟨_,e,h⟩=>by cases e;exact h,λh=>⟨_,rfl,h⟩⟩
@[simp] theorem xt7{i k}:xe3 [.bl i] k↔k (.int (if i then 1 else 0)):=⟨fun⟨_,e,h⟩=>by cases e;exact h,λh=>⟨_,rfl,h⟩⟩
@[simp] theorem zY4{fs k}:zq5 [.lst fs] k↔k (.tup fs):=⟨fun⟨_,e,h⟩=>by rcases e with e |e<;>cases e;exact h,λh=>⟨_,.inl rfl,h⟩⟩
@[simp] theorem zY3{fs k}:zq5 [.tup fs] k↔k (.tup fs):=⟨fun⟨_,e,h⟩=>by rcases e with e |e<;>cases e;exact h,λh=>⟨_,.inr rfl,h⟩⟩
@[simp] theorem xk2{fs k}:zR2 [.lst fs] k↔k (.lst fs):=⟨fun⟨_,e,h⟩=>by rcases e with e |e<;>cases e;exact h,λh=>⟨_,.inl rfl,h⟩⟩
@[simp] theorem zz2{fs k}:zR2 [.tup fs] k↔k (.lst fs):=⟨fun⟨_,e,h⟩=>by rcases e with e |e<;>cases e;exact h,λh=>⟨_,.inr rfl,h⟩⟩
@[simp] theorem xu7{i tb rho n P}:xg3 i tb rho n P=(rho[i]?=some (some .st)/\tb rho n λd I=>∃j:Int,d=.int j/\0<=j/\j<I/\∀z:Int,0<=z->(j=1->z<2147483647)->P (.int z) I):=rfl
@[simp] theorem xh7{i I tb F rho n}:zG1 i I tb F rho n=(rho[i]?=some (some .st)/\I rho n λd W=>tb rho W λd2 J=>∃j z:Int,d=.int z/\d2=.int j/\0<=j/\j<J/\0<=z/\(j=1->z<2147483647)/\F.nx rho J):=rfl
@[simp] theorem xK4:we .non=true:=rfl
@[simp] theorem xK3{b}:we (.bl b)=true:=rfl
@[simp] theorem xK2{b}:we (.int b)=true:=rfl
@[simp] theorem xK1{b}:we (.str b)=true:=rfl
@[simp] theorem xK0{b}:we (.tup b)=true:=rfl
@[simp] theorem xJ9{b}:we (.lst b)=true:=rfl
@[simp] theorem xJ8:we .st=true:=rfl
@[simp] theorem xJ7{b}:we (.fz b)=true:=rfl
@[simp] theorem xL1:qj .non=true:=rfl
@[simp] theorem xL0{b}:qj (.bl b)=false:=rfl
@[simp] theorem xK9{b}:qj (.int b)=false:=rfl
@[simp] theorem xK8{b}:qj (.str b)=false:=rfl
@[simp] theorem xK7{b}:qj (.tup b)=false:=rfl
@[simp] theorem xK6{b}:qj (.lst b)=false:=rfl
@[simp] theorem xJ3{b}:XN (.lst b)=some (true,b):=rfl
@[simp] theorem xJ2{b}:XN (.tup b)=some (false,b):=rfl
@[simp] theorem xp8:(0<=sizeLine)=True:=by simp
@[simp] theorem xp7:(1<=sizeLine)=True:=by simp[sizeLine]
@[simp] theorem xp6:(2<=sizeLine)=True:=by simp[sizeLine]
@[simp] theorem xp5:(3<=sizeLine)=True:=by simp[sizeLine]
@[simp] theorem xp4:(4<=sizeLine)=True:=by simp[sizeLine]
@[simp] theorem xp3:(5<=sizeLine)=True:=by simp[sizeLine]
@[simp] theorem xp2:(6<=sizeLine)=True:=by simp[sizeLine]
@[simp] theorem xp1:(7<=sizeLine)=True:=by simp[sizeLine]
theorem xY{k:Nat}(h:k<=1000:=by decide):k<=sizeLine:=zy h x4
theorem lt_size{k:Nat}(h:k<=1000:=by decide):k<sizeLine:=Nat.lt_of_le_of_lt h x4
noncomputable def zb6(own:Nat)(g:TGD)(W:TBD)(Y:TD)(rho:Rho)(P:D->Nat->Prop)(items:List D)(n1:Nat):Prop:=items.length<=sizeLine/\∃J:Nat->List D->Nat->Prop,J 0 [] n1 /\
 (∀i d acc n,items[i]?=some d->J i acc n->g d (replicate own none++rho) λrho'=>rho'.drop own=rho/\W rho' n λc I=>if c=true then Y rho' I λe n3=>J (i+1) (acc++[e]) n3 else J (i+1) acc I) /\
 ∀acc n,J items.length acc n->P (.lst acc) n
@[simp] theorem xu9{it own g I J rho n P}:zf9 it own g I J rho n P=it rho n (zb6 own g I J rho P):=rfl
noncomputable def xc9(g:TGD)(tb:TSD)(F:EndsD)(rho:Rho)(items:List D)(I:Nat):Prop:=∃J:Nat->Rho->Nat->Prop,J 0 rho I /\
 (∀i d rho n,items[i]?=some d->J i rho n->g d rho λrho'=>tb { F with nx:=J (i+1),ct:=J (i+1),bk:=F.nx } rho' n)/\∀rho n,J items.length rho n->F.nx rho n
@[simp] theorem xB9{it g tb F rho n}:xh5 it g tb F rho n=it rho n (xc9 g tb F rho):=rfl
theorem zE8{it:TID}{own:Nat}{g:TGD}{I:TD}{rho:Rho}{n:Nat}{P:D->Nat->Prop}{α:Type}(enc:α->D)(f:α->D)(xs:List α)
  (hi:∀R,R (xs.map enc) n->it rho n R) (W:xs.length<=sizeLine) (Y:∀x∈xs,∀Q,Q (f x) n->g (enc x) (replicate own none++rho) λrho'=>rho'.drop own=rho/\I rho' n Q) (hP:P (.lst (xs.map f)) n):zf9 it own g xg6 I rho n P:=by
 refine hi _ ⟨by simpa using W,λi acc n'=>n'=n/\acc=(xs.take i).map f,⟨rfl,rfl⟩,?_,?_⟩
 ·rintro i d acc n' e ⟨rfl, rfl⟩;rw[zv] at e
  cases q:xs[i]? with
  |none=>rw[q] at e;cases e
  |some x=>
   rw[q] at e;cases e;have hm:x∈xs:=xk q;refine Y x hm (λe J=>J=n'/\(xs.take i).map f++[e]=(xs.take (i+1)).map f) ⟨rfl,?_⟩;rw[xI,q];simp
 ·rintro acc n' ⟨rfl,rfl⟩;rw[zh,wy];exact hP
theorem WE{α:Type}{xs:List α}{i:Int}(I:0<=i)(h1:i<xs.length):∃d,atI xs i=some d/\d∈xs:=by
 obtain⟨k,rfl⟩:=zZ I
 have hk:k<xs.length:=x3
 exact⟨xs[k],qH (by simp[hk]),wz hk⟩
@[simp] theorem xM1{α:Type}{a:α}{l:List α}:atI (a::l) 0=some a:=qH (j:=0) rfl
@[simp] theorem xM0{α:Type}{a b:α}{l:List α}:atI (a::b::l) 1=some b:=qH (j:=1) rfl
@[simp] theorem xL9{α:Type}{a b c:α}{l:List α}:atI (a::b::c::l) 2=some c:=qH (j:=2) rfl
@[simp] theorem xs1{es p}:ZR (some (some (.own es))) p↔p es:=⟨fun⟨_,e,h⟩=>by cases e;exact h,λh=>⟨_,rfl,h⟩⟩
@[simp] theorem xl1{i tb rho n P}:zI9 i tb rho n P=ZR rho[i]? λes=>tb rho n λd I=>∃j c,d=.int j/\atI es j=some c/\P c I:=rfl
@[simp] theorem zX9{i I tb F rho n}:zL1 i I tb F rho n=ZR rho[i]? λes=>I rho n λd W=>tb rho W λd2 J=>∃j m,d2=.int j/\ixN es.length j=some m/\F.nx (rho.set i (some (.own (es.set m d)))) J:=rfl
@[simp] theorem xC5:ixN 3 0=some 0:=rfl
@[simp] theorem xC4:ixN 3 1=some 1:=rfl
@[simp] theorem xC3:ixN 3 2=some 2:=rfl
noncomputable def zF3(H:Hp):Prop:=∀b,H b=none\/(∃o xs,H b=some (.frz o (.lst xs)))\/∃q,H b=some (.cot q)
noncomputable def Kk(K:W.Frag):Sp:=λvs H Q _=>∃(a:Addr) (ns:List Int),vs=[.ref a]/\zF3 H/\SqL K H a (ns.map V.int)/\ns.length<=63/\(∀P q,qr K P q->H P=some (.cot q))/\∀H',(∀P q,H P=some (.cot q)->H' P=some (.cot q))->Q (.bl true) H'
noncomputable def wu(ns:List Int):D:=.fz (ns.map D.int)
noncomputable def km(ns:List Int)(N:Nat):Rho:=some (wu ns)::replicate (N-1) none
noncomputable def Vu(ns:List Int)(i N:Nat):Rho:=(km ns N).set i (some .st)
theorem jQ{K:W.Frag}{G:QqE}{Z:QqA}{H:Hp}:∀{ns:List Int},Reps K G Z H (ns.map D.int) (ns.map V.int)
 |[]=>.nil
 |n::ns=>.cons (Rep.ofS (d:=.int n) rfl) jQ
theorem jd{K:W.Frag}{G:QqE}{Z:QqA}{H:Hp}:∀{ns:List Int}{xs:List V},Reps K G Z H (ns.map D.int) xs->xs=ns.map V.int
 |[],xs,h=>by unfold Reps at h;exact h
 |n::ns,xs,h=>by
  obtain⟨v,r,rfl,h1,h2⟩:=Reps.split h;rw[h1.int_inv,jd h2];rfl
section
variable {P:Program}{w:World}{K:W.Frag}{mg:QqM}{base:Heap}
theorem Fun.okLaw{x I:Str}{st:Stmt}{f:Addr}{fd:FuncData}{N:List Str}{p:Str}{k:Nat}{t:TSD}(F:Fun K x I st f fd)(S:FnScope N [p] (zV st))(n0:Nat)
  (body : ∀ (J : Value) (W : Around) (outer : List Env) (s : Shared) (H : Hp) (E : XK), Room k (W.deeper (envOfC I (zV st) s.heap.objs.size f J)) ->
   zg5 ⟨K,none,λ_=>False,H⟩ (zE5 CX0 P w K mg base N I (zV st) f J W outer s H E).nox (kn st) t)
  (h1:∀(ns:List Int),ns.length<=63->t { nx:=λ_ _=>False,rt:=λd _=>d=.bl true } (startD N [wu ns]) n0):FnOk P w K mg base CX0 (k+1) f fd [p] (Kk K):=by
 exists (by
   refine F.ok S (λvs H Q E h=>?_) (λJ W outer s H vs Q E hr h=>?_)
   ·obtain⟨a,ns,rfl,_⟩:=h;rfl
   ·obtain ⟨a, ns, rfl, hO, hS, hl, hT, k⟩ := h;refine⟨_,body J W outer s H E hr,?_⟩
    have rs:Reps K none (λ_=>False) H [wu ns] [.ref a]:=by
     refine .cons ?_ .nil;unfold wu Rep;refine⟨a,ns.map V.int,rfl,?_,jQ⟩
     rcases hS with (q |⟨o,q⟩) |q
     ·rcases hO a with z | ⟨o, xs, z⟩ | ⟨o, z⟩
      ·rw[z] at q;cases q
      ·rw[z] at q;cases q
      ·rw[z] at q;cases q
     ·exact .inl ⟨λz=>z,o,q⟩
     ·exact .inr (.inr q)
    refine⟨startD N [wu ns],n0,_,[],[],⟨[],Yr rs (λb e=>by cases e) (λb e=>by cases e) ⟨λb e=>e.elim,λP q t=>⟨hT P q t,by simp⟩⟩⟩,h1 ns hl,?_⟩
    refine⟨λ_ _ _ _ _ q=>q.elim,λd n v Y aa H2 ⟨ae,I2⟩ q=>?_,λ_ _ _ _ _ q=>q.elim,λ_ _ _ _ _ q=>q.elim⟩;subst q;rw[I2.pop.2.bl_inv]
    exact k H2 λP q e=>I2.fr P _ (by simp) e)
end
noncomputable def xA2(i:Nat)(t:TF)(W:TAD)(J:TSD):TSD:=λF rho n=>∃ns:List Int,i<rho.length/\i≠0/\rho[0]?=some (some (wu ns))/\W rho n λes Y=>∃j:Int,es=[wu ns,.int j]/\Y=n/\t es n λd n2=>∃I:List Int,d=.lst (I.map D.int)/\I.length=n/\(∀x∈I,0<=x)/\(∀x,I[1]?=some x->x<2147483647) /\
 J { nx:=λrho' n'=>n'=n/\rho'.length=rho.length/\rho'[0]?=some (some (wu ns))/\F.nx (km ns rho.length) n,rt:=λd n'=>n'=n/\qp d=true/\F.rt d n,bk:=λrho' n'=>n'=n/\rho'.length=rho.length/\rho'[0]?=some (some (wu ns))/\F.bk (km ns rho.length) n,ct:=λrho' n'=>n'=n/\rho'.length=rho.length/\rho'[0]?=some (some (wu ns))/\F.ct (km ns rho.length) n } (Vu ns i rho.length) n
@[simp] theorem zT6{ns:List Int}:we (wu ns)=true:=rfl
@[simp] theorem zM3{ns:List Int}{k:D->Prop}:zD4 [wu ns] k↔k (.int ns.length):=by unfold wu;simp
theorem zo4{i:Nat}{t:TF}{W:TAD}{t2:TSD}{F:EndsD}{rho:Rho}{n:Nat}(ns:List Int)(hi:i<rho.length)(h0:i≠0)(hr:rho[0]?=some (some (wu ns)))(j:Int)(ht:W rho n λes I=>es=[wu ns,.int j]/\I=n)
  (Y:∀(P P':List D->Nat->Prop),(∀es I,P es I->P' es I)->W rho n P->W rho n P')
  (h : t [wu ns, .int j] n λd n2 => ∃ J : List Int, d = .lst (J.map D.int) /\ J.length = n /\ (∀ x ∈ J, 0 <= x) /\ (∀ x, J[1]? = some x -> x < 2147483647) /\
   t2 { nx:=λrho' n'=>n'=n/\rho'.length=rho.length/\rho'[0]?=some (some (wu ns))/\F.nx (km ns rho.length) n,rt:=λd n'=>n'=n/\qp d=true/\F.rt d n,bk:=λrho' n'=>n'=n/\rho'.length=rho.length/\rho'[0]?=some (some (wu ns))/\F.bk (km ns rho.length) n,ct:=λrho' n'=>n'=n/\rho'.length=rho.length/\rho'[0]?=some (some (wu ns))/\F.ct (km ns rho.length) n } (Vu ns i rho.length) n):xA2 i t W t2 F rho n:=
 ⟨ns,hi,h0,hr,Y _ _ (λes I ⟨e1,e2⟩=>⟨j,e1,e2,by rw[e1];exact h⟩) ht⟩
section
variable {A:AC}{X:Cx}{e:Expr}{es:List Expr}{t1:TAD}{t2:TSD}{pos p:Pos}
theorem YJ{K:W.Frag}{G G':QqE}{Z Z':QqA}{H H':Hp}{ns:List Int}{v:V}(h:Rep K G Z H (wu ns) v)(Y:∀a o u,¬ Z a->H a=some (.frz o u)->¬ Z' a/\H' a=some (.frz o u)):Rep K G' Z' H' (wu ns) v:=by
 unfold wu Rep at h ⊢;obtain⟨a,xs,rfl,sq,I⟩:=h
 refine⟨a,xs,rfl,?_,by rw[jd I];exact jQ⟩
 rcases sq with ⟨J,o,e⟩ |sq
 ·obtain⟨z1,z2⟩:=Y a o _ J e;exact .inl ⟨z1,o,z2⟩
 ·exact .inr sq
theorem zz4{x g:Str}{i:Nat}{t:TF}{kk:Nat}{pos' ae:Pos}{rest:List Stmt}(hG:A.G=none)(hN:X.N.Nodup)(hi:X.N[i]?=some x)(hx:Loc X.env.scope x)(F:Fn X.prog X.w X.K X.mg X.base g kk 2 t)(hr:Room kk X.A)(hK:X.K=A.K)
  (ha:PAD A X (e::es) t1) (h2:∀(c:Addr) (Z:QqA) (H0:Hp),zg5 ⟨A.K,some c,Z,H0⟩ X rest t2) (hg:Gl X g:=by rfl) (aw:(g == ("__debug__" : Str))=false:=by decide) (he:starEach (e::es) X.env=(false,eval e X.env)::starEach es X.env:=by rfl) (ap:(backTo pos (starEach es X.env)).any (·.1)=false:=by rfl)
  (hs:swapsWith (.Call (.Name g p) (e::es) [] pos) (some (.Name x pos')) ae.line X.env=pure false:=by rfl) (hf:X.fn x=true\/X.env.scope.names.lookup x=some .local:=by first |exact .inl rfl |exact .inr rfl |assumption) :
  zg5 A X (.Assign [.Name x pos'] (.Call (.Name g p) (e::es) [] pos) ae::rest) (xA2 i t t1 t2):=by
 exists (by
   obtain⟨f,fd,ps,f1,f2,f3,f4⟩:=F.ex;have c1:=zl2 (pos:=ae) hN hi hx (zl9 (p:=p) f1 hr hg f2 f3 f4 .nil xa5 ha aw he ap) hs hf
   have c2:PSs X rest (λE' sg' H'=>∃c Z H0,sOf ⟨A.K,some c,Z,H0⟩ t2 E' sg' H'):=λak s' sg' H' D I q=>by
    obtain⟨c,Z,H0,q⟩:=q;exact h2 c Z H0 ak s' sg' H' D I q
   refine(QV c1 c2).imp λE sg H h=>?_;obtain⟨rho,n,F,ds,vs,I,⟨ns,hi',h0,ao,ht⟩,ok⟩:=h;refine⟨rho,n,_,ds,vs,I,ht,λws H' n' es' ⟨os',J⟩ hl k=>?_⟩;obtain⟨j,rfl,rfl,k⟩:=k;obtain⟨J1,rs⟩:=J.split hl;obtain⟨v1,v2,rfl,r1,r2⟩:=zd3 rs;have r1':Rep A.K none (λa=>H' a≠none/\¬ ∃o u,H' a=some (.frz o u)) H' (wu ns) v1:=YJ r1 λa o u _ e=>⟨λz=>z.2 ⟨o,u,e⟩,e⟩
   have r2':Rep A.K none (λa=>H' a≠none/\¬ ∃o u,H' a=some (.frz o u)) H' (.int j) v2:=by rw[r2.int_inv];exact Rep.ofS (d:=.int j) rfl
   rw[yV,hK]
   refine⟨none,λa=>H' a≠none/\¬ ∃o u,H' a=some (.frz o u),n',_,_,rfl,.cons r1' (.cons r2' .nil),λb e=>(by cases e),λb e=>(by cases e),⟨λb z=>z.1,λP q t=>⟨(J1.zO.2 P q t).1,by simp⟩⟩,k,λv H2 n2 d fr st r q=>?_⟩
   obtain⟨zs,rfl,q1,q2,q3,q⟩:=q;obtain⟨c,xs,rfl,sq,rr⟩:=r.lst_inv;rw[jd rr] at sq
   have hc:H' c=none:=by
    cases z:H' c with
    |none=>rfl
    |some o=>
     have z2:=fr c o (by simp) z
     rw[sq.2] at z2;cases z2
     exact absurd ⟨by rw[z];simp,fun⟨o,u,z3⟩=>by rw[z] at z3;cases z3⟩ sq.1
   have ne:∀{a:Addr}{o:HO},H' a=some o->a≠c:=λ{a o} e h=>by rw[h,hc] at e;cases e
   have back:∀{os:List (Nat × Addr)}{rho' Y:Rho}{sg':St}{H3:Hp}{ah:List D}{aa:List V},AmO ⟨A.K,some c,λb=>Zof A os' b\/b=c,H2⟩ os n' rho' sg' H3 ah aa->Y.length=sg'.length->(∀j d,Y[j]?=some (some d)->∃v,sg'[j]?=some (some v)/\Rep A.K A.G (Zof A []) H3 d v)->AmO A [] n' Y sg' H3 ds vs:=λ{os rho' Y sg' H3 ah aa} W ar am=>by
    have keep:∀a o,H' a=some o->H3 a=some o:=λa o e=>W.fr a o (λz=>ne e (zB z).symm) (fr a o (by simp) e)
    refine⟨ar,λj d e=>?_,?_,.nil,λp hp=>(by simp at hp),λb e=>(by rw[hG] at e;cases e),J1.gz,λa o z e=>keep a o (J1.fr a o z e),J1.z0⟩
    ·obtain⟨v,e1,e2⟩:=am j d e;exact⟨v,e1,SlotR.of e2⟩
    ·refine Reps.mono (λa _ z => ?_) (λa o _ e => keep a o e) _ _ J1.pend
     rcases z with z |⟨p,hp,_⟩
     ·exact .inl z
     ·simp at hp
   have ai:∀{os:List (Nat × Addr)}{rho':Rho}{sg':St}{H3:Hp}{ah:List D}{aa:List V},AmO ⟨A.K,some c,λb=>Zof A os' b\/b=c,H2⟩ os n' rho' sg' H3 ah aa->rho'[0]?=some (some (wu ns))->rho.length=sg'.length->AmO A [] n' (km ns rho.length) sg' H3 ds vs:=λ{os rho' sg' H3 ah aa} W e0 aq=>by
    refine back W (by rw[<- aq];simp[km];lia) λj d e=>?_
    unfold km at e
    cases j with
    |zero=>
     cases e;obtain⟨v,e1,e2⟩:=W.slot 0 _ e0;have e3:=SlotR.rep (d:=wu ns) rfl e2;refine⟨v,e1,YJ e3 λa o u nz e=>⟨λz=>nz ?_,e⟩⟩
     rcases z with z |⟨p,hp,_⟩
     ·exact .inl (.inl (.inl z))
     ·simp at hp
    |succ j=>
     rw[List.getElem?_cons_succ,xv] at e
     split at e<;>cases e
   have av:rho.length=sg.length:=J1.len;refine⟨c,λb=>Zof A os' b\/b=c,H2,Vu ns i rho.length,n',_,[],[],⟨[],?_⟩,q,?_⟩
   ·refine ⟨by simp [Vu, km, av]; lia, λj d e => ?_, .nil, .nil, λp hp => by simp at hp, λb e => ?_, λb e => ?_, λb o _ e => e, ?_⟩
    ·unfold Vu at e
     by_cases hj:j=i
     ·subst hj
      rw[xl (by simp[km];lia)] at e
      cases e
      exact⟨.ref c,xl x3,SlotR.of (by unfold Rep;exact⟨c,rfl,rfl⟩)⟩
     ·rw [xq (Ne.symm hj)] at e;unfold km at e
      cases j with
      |zero=>
       cases e;obtain⟨v,e1,e2⟩:=J1.slot 0 _ ao;have e3:=SlotR.rep (d:=wu ns) rfl e2
       refine⟨v,by rw[xq h0];exact e1,SlotR.of (YJ e3 λa o u nz e=>⟨λz=>?_,fr a _ (by simp) e⟩)⟩
       rcases z with (z |z) |⟨p,hp,_⟩
       ·exact nz z
       ·exact ne e z
       ·simp at hp
      |succ j=>
       rw[List.getElem?_cons_succ,xv] at e
       split at e<;>cases e
    ·cases e;exact⟨zs,0,0,sq.2,q1,q2,q3⟩
    ·exact .inr (zB e).symm
    ·refine ⟨λb e => ?_, λP q t => ⟨fr P _ (by simp) (J1.zO.2 P q t).1, λz => ne (J1.zO.2 P q t).1 (zB z).symm⟩⟩
     rcases e with e |e
     ·have := J1.zH b e
      cases z:H' b with
      |none=>exact absurd z this
      |some o=>
       show H2 b≠none
       rw[fr b o (by simp) z];simp
     ·show H2 b≠none;rw[e,sq.2];simp
   ·refine ⟨λag n3 af H3 ⟨aj, W⟩ q => ?_, λd n3 v ag af H3 ⟨aj, W⟩ q => ?_, λag n3 af H3 ⟨aj, W⟩ q => ?_, λag n3 af H3 ⟨aj, W⟩ q => ?_⟩
    ·obtain ⟨rfl, l3, e3, q⟩ := q
     exact ok.nx _ _ _ _ ⟨[],ai W e3 (by rw[<- l3];exact W.len)⟩ q
    ·obtain ⟨rfl, hd, q⟩ := q
     have I4:AmO A [] n3 (replicate af.length none) af H3 ds vs:=back W (by simp) λj d e=>by
      rw[xv] at e
      split at e<;>cases e
     refine ok.rt _ _ _ _ _ _ ⟨[],I4.push ?_⟩ q;rw[W.pop.2.toS hd];exact Rep.ofS hd
    ·obtain ⟨rfl, l3, e3, q⟩ := q
     exact ok.bk _ _ _ _ ⟨[],ai W e3 (by rw[<- l3];exact W.len)⟩ q
    ·obtain ⟨rfl, l3, e3, q⟩ := q
     exact ok.ct _ _ _ _ ⟨[],ai W e3 (by rw[<- l3];exact W.len)⟩ q)
end
end L2
namespace L2
open PySem PySem.Spec PyProof.Rows PySem.SeqAt
mutual
noncomputable def eqD:D->D->Bool
 |.non,.non=>true
 |.bl a,.bl b=>a == b
 |.bl a,.int i=>(if a then 1 else 0) == i
 |.int i,.bl a=>i == (if a then 1 else 0)
 |.int i,.int j=>i == j
 |.str x,.str y=>x == y
 |.tup xs,.tup ys=>jz xs ys
 |.lst xs,.lst ys=>jz xs ys
 |_,_=>false
noncomputable def jz:List D->List D->Bool
 |[],[]=>true
 |x::xs,y::ys=>eqD x y&&jz xs ys
 |_,_=>false
end
mutual
noncomputable def okE:D->Nat->Bool
 |.non,_=>true
 |.bl _,_=>true
 |.int _,_=>true
 |.str _,_=>true
 |.tup ds,k=>match k with
  |0=>false
  |k+1=>Qh ds k
 |.lst ds,k=>match k with
  |0=>false
  |k+1=>Qh ds k
 |_,_=>false
noncomputable def Qh:List D->Nat->Bool
 |[],_=>true
 |d::ds,k=>okE d k&&Qh ds k
end
theorem Yk:∀{ds:List D}{k i:Nat}{d:D},Qh ds k=true->ds[i]?=some d->okE d k=true
 |[],k,i,d,_,e=>by simp at e
 |c::ds,k,0,d,h,e=>by
  simp at e;subst e;unfold Qh at h;rw[zE] at h;exact h.1
 |c::ds,k,i+1,d,h,e=>by
  unfold Qh at h;rw[zE] at h
  exact Yk (i:=i) h.2 (by simpa using e)
noncomputable def eAt(xs ys:List D)(j:Nat):Bool:=match xs[j]?,ys[j]? with
 |some x,some y=>eqD x y
 |_,_=>true
theorem WO(n:Nat)(e:Nat->Bool):(List.range (n+1)).all e=(e 0&&(List.range n).all λj=>e (j+1)):=by
 rw[List.range_succ_eq_map,yD,yw];rfl
theorem XA:∀(xs ys:List D),((List.range (min xs.length ys.length)).all (eAt xs ys)&&xs.length == ys.length)=jz xs ys
 |[],[]=>by unfold jz;rfl
 |[],y::ys=>by unfold jz;simp
 |x::xs,[]=>by unfold jz;simp
 |x::xs,y::ys=>by
  have I:=XA xs ys;unfold jz;rw[<- I]
  have W:min (x::xs).length (y::ys).length=min xs.length ys.length+1:=by simp only[zL];lia
  rw[W,WO]
  have J:((x::xs).length == (y::ys).length)=(xs.length == ys.length):=by simp
  rw[J,Bool.and_assoc];rfl
theorem Jj{xs ys:List D}(h:xs.length=ys.length):(List.range xs.length).all (eAt xs ys)=jz xs ys:=by
 rw[<- XA,h];simp
theorem zD9{xs ys:List D}(h:xs.length≠ys.length):jz xs ys=false:=by
 rw[<- XA];simp[h]
theorem zs0:∀{xs ys:List D},xs.length=ys.length->(∀(j:Nat) (x y:D),xs[j]?=some x->ys[j]?=some y->eqD x y=true)->jz xs ys=true
 |[],[],_,_=>by unfold jz;rfl
 |[],y::ys,h,_=>by simp at h
 |x::xs,[],h,_=>by simp at h
 |x::xs,y::ys,h,q=>by
  unfold jz
  rw[q 0 x y rfl rfl,zs0 (by simpa using h) λj a b ha I=>q (j+1) a b (by simpa using ha) (by simpa using I)]
  rfl
theorem Reps.get2{K:W.Frag}{G:QqE}{Z:QqA}{H:Hp}{ds:List D}{vs:List V}{i:Nat}{d:D}{v:V}(h:Reps K G Z H ds vs)(e:ds[i]?=some d)(e':vs[i]?=some v):Rep K G Z H d v:=by
 obtain⟨u,h1,h2⟩:=h.get e;rw[h1] at e';cases e';exact h2
section
variable {X:Cx}{pins:QqL}{σ:St}{H:Hp}{s:Shared}{G:QqE}{Z:QqA}
theorem QT(I:Inv X pins σ H s):∀(k:Nat) (d1 d2:D) (v:V),okE d1 k=true->okE d2 k=true->Rep X.K G Z H d1 v->Rep X.K G Z H d2 v->eqD d1 d2=true:=by
 intro k
 induction k with
 | zero =>
  intro d1 d2 v h1 h2 Y W
  cases d1<;>cases d2<;>first
   |(simp[okE] at h1;done) |(simp[okE] at h2;done)
   |(have e1:=Y.toS rfl;have J:=W.toS rfl;rw[e1] at J;simp[ofS] at J;done)
   |(have e1:=Y.toS rfl;have J:=W.toS rfl;rw[e1] at J;simp[ofS] at J;simp[eqD,J])
 | succ k ih =>
  have seq:∀{ds es:List D}{xs:List V},Qh ds k=true->Qh es k=true->Reps X.K G Z H ds xs->Reps X.K G Z H es xs->jz ds es=true:=λ{ds es xs} h1 h2 Y W=>by
   refine zs0 (Y.length.symm.trans W.length) λj x y hx hy=>?_;obtain⟨u,hu,ru⟩:=Y.get hx;exact ih x y u (Yk h1 hx) (Yk h2 hy) ru (W.get2 hy hu)
  intro d1 d2 v h1 h2 Y W
  cases d1<;>cases d2<;>try (first
   |(simp[okE] at h1;done) |(simp[okE] at h2;done)
   |(have e1:=Y.toS rfl;have J:=W.toS rfl;rw[e1] at J;simp[ofS] at J;done)
   |(have e1:=Y.toS rfl;have J:=W.toS rfl;rw[e1] at J;simp[ofS] at J;simp[eqD,J];done)
   |(obtain⟨a,xs,e,_⟩:=Y.tup_inv;have J:=W.toS rfl;rw[e] at J;simp[ofS] at J;done)
   |(obtain⟨a,xs,e,_⟩:=Y.lst_inv;have J:=W.toS rfl;rw[e] at J;simp[ofS] at J;done)
   |(obtain⟨a,xs,e,_⟩:=W.tup_inv;have J:=Y.toS rfl;rw[e] at J;simp[ofS] at J;done)
   |(obtain⟨a,xs,e,_⟩:=W.lst_inv;have J:=Y.toS rfl;rw[e] at J;simp[ofS] at J;done))
  ·rename_i ds es;obtain⟨a,xs,e,sq,rs⟩:=Y.tup_inv;obtain⟨b,ys,e',sq',rs'⟩:=W.tup_inv;rw[e] at e';cases e';have:=I.tuple_inj sq.sq sq'.sq;subst this;unfold eqD
   exact seq (by simpa [okE] using h1) (by simpa [okE] using h2) rs rs'
  ·rename_i ds es;obtain⟨a,xs,e,sq,rs⟩:=Y.tup_inv;obtain⟨b,ys,e',sq',rs'⟩:=W.lst_inv;rw[e] at e';cases e';obtain⟨its,rv,pl,hz⟩:=I.tuple sq.sq;obtain⟨its',rv',pl',hz'⟩:=I.list sq'.sq;exact absurd rfl (ne_of_list_tuple pl'.isList (show s.heap.IsTuple a its.toArray from pl))
  ·rename_i ds es;obtain⟨a,xs,e,sq,rs⟩:=Y.lst_inv;obtain⟨b,ys,e',sq',rs'⟩:=W.tup_inv;rw[e] at e';cases e';obtain⟨its,rv,pl,hz⟩:=I.list sq.sq;obtain⟨its',rv',pl',hz'⟩:=I.tuple sq'.sq;exact absurd rfl (ne_of_list_tuple pl.isList (show s.heap.IsTuple a its'.toArray from pl'))
  ·rename_i ds es;obtain⟨a,xs,e,sq,rs⟩:=Y.lst_inv;obtain⟨b,ys,e',sq',rs'⟩:=W.lst_inv;rw[e] at e';cases e';have:=I.list_inj sq.sq sq'.sq;subst this;unfold eqD
   exact seq (by simpa [okE] using h1) (by simpa [okE] using h2) rs rs'
theorem rcC{A:Around}{s:Shared}{y x:Value}{b c:Bool}(h:RcAt A s y x b)(e:b=c):RcAt A s y x c:=e ▸ h
theorem rnC{A:Around}{s:Shared}{y x:Value}{b c:Bool}(h:RcNeAt A s y x b)(e:b=c):RcNeAt A s y x c:=e ▸ h
theorem eqC{A:Around}{s:Shared}{y x:Value}{b c:Bool}(h:EqAt A s y x b)(e:b=c):EqAt A s y x c:=e ▸ h
noncomputable def E3(A:Around)(s:Shared)(J I:Value)(b:Bool):Prop:=EqAt A s J I b/\RcAt A s J I b/\RcNeAt A s J I (!b)
theorem E3.cast{A:Around}{s:Shared}{y x:Value}{b c:Bool}(h:E3 A s y x b)(e:b=c):E3 A s y x c:=e ▸ h
noncomputable def zv5:D->D->Bool
 |.tup _,.tup _=>true
 |.lst _,.lst _=>true
 |_,_=>false
noncomputable def ShE(s:Shared):D->Value->Prop
 |.non,u=>u=.none
 |.bl x,u=>u=.bool x
 |.int x,u=>∃t,u=.int x t
 |.str x,u=>∃t,u=.str x t
 |.tup _,u=>∃a its,u=.ref a/\s.heap.IsTuple a its
 |.lst _,u=>∃a its,u=.ref a/\s.heap.IsList a its
 |_,_=>False
theorem shE(I:Inv X pins σ H s){k:Nat}{d:D}{v:V}{u:Value}(h:okE d k=true)(r:Rep X.K G Z H d v)(q:RelV v u):ShE s d u:=by
 cases d with
 |non=>have:=r.toS rfl;subst this;exact q
 |bl x=>have:=r.toS rfl;subst this;exact q
 |int x=>have:=r.toS rfl;subst this;exact q
 |str x=>have:=r.toS rfl;subst this;exact q
 |tup x=>
  obtain⟨a,xs,w,sq,_⟩:=r.tup_inv;subst w;obtain⟨its,_,J,_⟩:=I.tuple sq.sq;exact⟨a,its.toArray,q,J⟩
 |lst x=>
  obtain⟨a,xs,w,sq,_⟩:=r.lst_inv;subst w;obtain⟨its,_,J,_⟩:=I.list sq.sq;exact⟨a,its.toArray,q,J.isList⟩
 |_=>simp[okE] at h
section
local macro_rules
 | `(tactic|nomatch $n:ident,$t,*)=>do
  let f:=fun(p:Lean.Name)=>Lean.mkIdent (p++n.getId)
  let t:=t.getElems
  `(tactic|exact E3.cast ⟨$(f `EqAt) $t*,$(f `RcAt) $t*,$(f `RcNeAt) $t*⟩ (by unfold eqD;rfl))
theorem zI3(I:Inv X pins σ H s){k:Nat}{d1 d2:D}{v1 v2:V}{u1 u2:Value}{A:Around}(h1:okE d1 k=true)(h2:okE d2 k=true)(r1:Rep X.K G Z H d1 v1)(r2:Rep X.K G Z H d2 v2)(q1:RelV v1 u1)(q2:RelV v2 u2)
  (W:A.units<cLine) (hb:zv5 d1 d2=false):E3 A s u1 u2 (eqD d1 d2):=by
 have g1:=shE I h1 r1 q1;have J:=shE I h2 r2 q2;clear h1 h2 r1 r2 q1 q2
 cases d1 with
 |non=>
  cases g1
  cases d2 with
  |non=>cases J;exact E3.cast ⟨EqAt.same _,RcAt.none_none,RcNeAt.none_none⟩ (by unfold eqD;rfl)
  |bl=>cases J;nomatch none_bool,_
  |int=>obtain⟨_,rfl⟩:=J;nomatch none_int,_,_
  |str=>obtain⟨_,rfl⟩:=J;nomatch none_str,_,_
  |tup=>obtain⟨_,_,rfl,L⟩:=J;nomatch none_tuple,L,W
  |lst=>obtain⟨_,_,rfl,L⟩:=J;nomatch none_list,L,W
  |_=>exact J.elim
 |bl x1=>
  cases g1
  cases d2 with
  |non=>cases J;nomatch bool_none,_
  |bl=>cases J;nomatch bool_bool,_,_
  |int=>obtain⟨_,rfl⟩:=J;nomatch bool_int,_,_,_
  |str=>obtain⟨_,rfl⟩:=J;nomatch bool_str,_,_,_
  |tup=>obtain⟨_,_,rfl,L⟩:=J;nomatch bool_tuple,_,L,W
  |lst=>obtain⟨_,_,rfl,L⟩:=J;nomatch bool_list,_,L,W
  |_=>exact J.elim
 |int x1=>
  obtain⟨t1,rfl⟩:=g1
  cases d2 with
  |non=>cases J;nomatch int_none,_,_
  |bl=>cases J;nomatch int_bool,_,_,_
  |int=>obtain⟨_,rfl⟩:=J;nomatch int_int,_,_,_,_
  |str=>obtain⟨_,rfl⟩:=J;nomatch int_str,_,_,_,_
  |tup=>obtain⟨_,_,rfl,L⟩:=J;nomatch int_tuple,_,_,L,W
  |lst=>obtain⟨_,_,rfl,L⟩:=J;nomatch int_list,_,_,L,W
  |_=>exact J.elim
 |str x1=>
  obtain⟨t1,rfl⟩:=g1
  cases d2 with
  |non=>cases J;nomatch str_none,_,_
  |bl=>cases J;nomatch str_bool,_,_,_
  |int=>obtain⟨_,rfl⟩:=J;nomatch str_int,_,_,_,_
  |str=>obtain⟨_,rfl⟩:=J;nomatch str_str,_,_,_,_
  |tup=>obtain⟨_,_,rfl,L⟩:=J;nomatch str_tuple,_,_,L,W
  |lst=>obtain⟨_,_,rfl,L⟩:=J;nomatch str_list,_,_,L,W
  |_=>exact J.elim
 |tup x1=>
  obtain⟨a1,i1,rfl,Y⟩:=g1
  cases d2 with
  |non=>cases J;nomatch tuple_none,Y,W
  |bl=>cases J;nomatch tuple_bool,_,Y,W
  |int=>obtain⟨_,rfl⟩:=J;nomatch tuple_int,_,_,Y,W
  |str=>obtain⟨_,rfl⟩:=J;nomatch tuple_str,_,_,Y,W
  |tup=>cases hb
  |lst=>obtain⟨_,_,rfl,L⟩:=J;nomatch tuple_list,Y,L,W
  |_=>exact J.elim
 |lst x1=>
  obtain⟨a1,i1,rfl,Y⟩:=g1
  cases d2 with
  |non=>cases J;nomatch list_none,Y,W
  |bl=>cases J;nomatch list_bool,_,Y,W
  |int=>obtain⟨_,rfl⟩:=J;nomatch list_int,_,_,Y,W
  |str=>obtain⟨_,rfl⟩:=J;nomatch list_str,_,_,Y,W
  |tup=>obtain⟨_,_,rfl,L⟩:=J;nomatch list_tuple,Y,L,W
  |lst=>cases hb
  |_=>exact J.elim
 |_=>exact g1.elim
end
theorem zr9(I:Inv X pins σ H s):∀(k:Nat) (d1 d2:D) (v1 v2:V) (u1 u2:Value) (A:Around),okE d1 k=true->okE d2 k=true->Rep X.K G Z H d1 v1->Rep X.K G Z H d2 v2->RelV v1 u1->RelV v2 u2 ->
  A.units+k<cLine->E3 A s u1 u2 (eqD d1 d2):=by
 intro k
 induction k with
 |zero=>
  intro d1 d2 v1 v2 u1 u2 A h1 h2 Y W q1 q2 hu
  refine zI3 I h1 h2 Y W q1 q2 x3 ?_
  cases d1<;>first |rfl |(simp[okE] at h1;done)
 | succ k ih =>
  intro d1 d2 v1 v2 u1 u2 A h1 h2 Y W q1 q2 hu
  by_cases hb:zv5 d1 d2=false
  ·exact zI3 I h1 h2 Y W q1 q2 x3 hb
  have items:∀{ds es:List D}{xs ys:List V}{its its':QqW},Qh ds k=true->Qh es k=true->Reps X.K G Z H ds xs->Reps X.K G Z H es ys->Vals xs its->Vals ys its' ->
    ∀(j:Nat) (l1:j<its.toArray.size) (l2:j<its'.toArray.size),EqAt A.in1 s its.toArray[j] its'.toArray[j] (eAt ds es j):=λ{ds es xs ys its its'} h1 h2 Y W rv rv' j l1 l2=>by
   have l1':j<its.length:=by simpa using l1
   have l2':j<its'.length:=by simpa using l2
   have a1:j<ds.length:=by rw[<- Y.length,rv.length];exact l1'
   have a2:j<es.length:=by rw[<- W.length,rv'.length];exact l2'
   have g1:ds[j]?=some ds[j]:=ze a1;have g2:es[j]?=some es[j]:=ze a2;obtain⟨w1,e1,p1⟩:=Y.get g1;obtain⟨w2,e2,p2⟩:=W.get g2;obtain⟨z1,f1,t1⟩:=rv.get e1;obtain⟨z2,f2,t2⟩:=rv'.get e2
   have m1:its.toArray[j]=z1:=by
    have:its[j]?=some its[j]:=ze l1';rw[f1] at this
    simpa using (zB this).symm
   have m2:its'.toArray[j]=z2:=by
    have:its'[j]?=some its'[j]:=ze l2';rw[f2] at this
    simpa using (zB this).symm
   have e3:eAt ds es j=eqD ds[j] es[j]:=by unfold eAt;rw[g1,g2]
   rw[m1,m2,e3]
   exact(ih _ _ _ _ _ _ A.in1 (Yk h1 g1) (Yk h2 g2) p1 p2 t1 t2 (by show A.units+1+k<cLine;lia)).1
  cases d1 with
  | tup ds =>
   cases d2 with
   | tup es =>
    have s1:=Y;have s2:=W;obtain⟨a,xs,e,sq,rs⟩:=Y.tup_inv;obtain⟨b,ys,e',sq',rs'⟩:=W.tup_inv;subst e e';have c1:u1=.ref a:=q1;have c2:u2=.ref b:=q2;subst c1 c2;obtain⟨its,rv,pl,hz⟩:=I.tuple sq.sq;obtain⟨its',rv',pl',hz'⟩:=I.tuple sq'.sq
    have it:=items (by simpa [okE] using h1) (by simpa [okE] using h2) rs rs' rv rv'
    have n1:its.toArray.size=ds.length:=by rw[<- rs.length,rv.length];simp
    have n2:its'.toArray.size=es.length:=by rw[<- rs'.length,rv'.length];simp
    have ev:((List.range (min its.toArray.size its'.toArray.size)).all (eAt ds es)&&its.toArray.size == its'.toArray.size)=eqD (.tup ds) (.tup es):=by
     rw[n1,n2,XA];unfold eqD;rfl
    have R:=rcC (RcAt.tuples (A:=A) (show s.heap.IsTuple a its.toArray from pl) (show s.heap.IsTuple b its'.toArray from pl') x3 it) ev
    have N:=rnC (RcNeAt.tuples (A:=A) (show s.heap.IsTuple a its.toArray from pl) (show s.heap.IsTuple b its'.toArray from pl') x3 it) (congrArg (!·) ev)
    refine⟨?_,R,N⟩
    by_cases J:a=b
    ·subst J;exact eqC (EqAt.same _) (QT I (k+1) _ _ _ h1 h2 s1 s2).symm
    ·exact .of_refs J R
   |_=>exact absurd rfl hb
  | lst ds =>
   cases d2 with
   | lst es =>
    have s1:=Y;have s2:=W;obtain⟨a,xs,e,sq,rs⟩:=Y.lst_inv;obtain⟨b,ys,e',sq',rs'⟩:=W.lst_inv;subst e e';have c1:u1=.ref a:=q1;have c2:u2=.ref b:=q2;subst c1 c2;obtain⟨its,rv,pl,hz⟩:=I.list sq.sq;obtain⟨its',rv',pl',hz'⟩:=I.list sq'.sq
    have it:=items (by simpa [okE] using h1) (by simpa [okE] using h2) rs rs' rv rv'
    have n1:its.toArray.size=ds.length:=by rw[<- rs.length,rv.length];simp
    have n2:its'.toArray.size=es.length:=by rw[<- rs'.length,rv'.length];simp
    have R:RcAt A s (.ref a) (.ref b) (eqD (.lst ds) (.lst es))/\RcNeAt A s (.ref a) (.ref b) (!eqD (.lst ds) (.lst es)):=by
     by_cases hl:ds.length=es.length
     ·have ev : (List.range its.toArray.size).all (eAt ds es) = eqD (.lst ds) (.lst es) := by rw [n1, Jj hl]; unfold eqD; rfl
      exact⟨rcC (RcAt.lists (A:=A) pl.isList pl'.isList (by rw[n1,n2,hl]) x3 it) ev,rnC (RcNeAt.lists (A:=A) pl.isList pl'.isList (by rw[n1,n2,hl]) x3 it) (congrArg (!·) ev)⟩
     ·have ev : false = eqD (.lst ds) (.lst es) := by unfold eqD; exact (zD9 hl).symm
      have hs:(its.toArray.size != its'.toArray.size)=true:=by rw[n1,n2];simpa using hl
      exact⟨rcC (RcAt.lists_lengths (A:=A) pl.isList pl'.isList hs x3) ev,rnC (RcNeAt.lists_lengths (A:=A) pl.isList pl'.isList hs x3) (congrArg (!·) ev)⟩
    refine⟨?_,R⟩
    by_cases J:a=b
    ·subst J;exact eqC (EqAt.same _) (QT I (k+1) _ _ _ h1 h2 s1 s2).symm
    ·exact .of_refs J R.1
   |_=>exact absurd rfl hb
  |_=>exact absurd rfl hb
noncomputable def EqV(X:Cx)(H:Hp)(x y:V)(b:Bool):Prop:=∀pins s σ v u,Inv X pins σ H s->RelV x v->RelV y u->∀A:Around,A.units+60<cLine->E3 A s v u b
noncomputable def xA9(X:Cx):R2:=λx y H Q=>∃b,EqV X H x y b/\Q (.bl b) H
noncomputable def xA8(X:Cx):R2:=λx y H Q=>∃b,EqV X H x y b/\Q (.bl (!b)) H
theorem Vs{n:Nat}(Y:Room n X.A):OpR X (compareOp .Eq) (xA9 X):=by
 intro pins s σ H x y v u Q I W J h;obtain⟨b,e,q⟩:=h
 exact(e pins s σ v u I W J X.A (by have:=Y.units;lia)).2.1 X.prog X.w X.xe _ ⟨.bl b,H,I,rfl,q⟩
theorem xb1{n:Nat}(Y:Room n X.A):OpR X (compareOp .NotEq) (xA8 X):=by
 intro pins s σ H x y v u Q I W J h;obtain⟨b,e,q⟩:=h
 exact(e pins s σ v u I W J X.A (by have:=Y.units;lia)).2.2 X.prog X.w X.xe _ ⟨.bl (!b),H,I,rfl,q⟩
noncomputable def zX5:RD2:=λd1 d2 k=>okE d1 20=true/\okE d2 20=true/\k (.bl (eqD d1 d2))
noncomputable def xo5:RD2:=λd1 d2 k=>okE d1 20=true/\okE d2 20=true/\k (.bl (!eqD d1 d2))
theorem Vm{A:AC}(hK:X.K=A.K):qI A (xA9 X) zX5:=by
 rintro os n rho sg H ds vs d1 d2 v1 v2 k Q I ⟨h1,h2,q⟩ hQ;obtain⟨I1,W⟩:=I.pop;obtain⟨I2,Y⟩:=I1.pop;rw[<- hK] at Y W
 exact⟨eqD d1 d2,λpins s σ v u J rx ry B hu=>zr9 J 20 d1 d2 v1 v2 v u B h1 h2 Y W rx ry x3,hQ _ H _ ⟨os,I2.push (Rep.ofS rfl)⟩ q⟩
@[simp] theorem xr8{d1 d2 k}:zX5 d1 d2 k=(okE d1 20=true/\okE d2 20=true/\k (.bl (eqD d1 d2))):=rfl
@[simp] theorem xr7{d1 d2 k}:xo5 d1 d2 k=(okE d1 20=true/\okE d2 20=true/\k (.bl (!eqD d1 d2))):=rfl
end
end L2
namespace L2
section
variable {A:AC}{X:Cx}{e a b:Expr}{es:List Expr}{te ta tb:TD}{t1:TAD}{pos p:Pos}
noncomputable def Qm(d:D)(p:List D->Prop):Prop:=∃fs,d=.lst fs/\p fs
@[simp] theorem xs5{fs p}:Qm (.lst fs) p↔p fs:=⟨fun⟨_,e,h⟩=>by cases e;exact h,λh=>⟨_,rfl,h⟩⟩
noncomputable def xn5(i:Nat)(te:TD):TSD:=λF rho n=>i<rho.length/\te rho n λd I=>Qm d λfs=>F.nx (rho.set i (some (.own fs))) I
@[simp] theorem xq1{i te F rho n}:xn5 i te F rho n=(i<rho.length/\te rho n λd I=>Qm d λfs=>F.nx (rho.set i (some (.own fs))) I):=rfl
noncomputable def zs9(i:Nat):TD:=λrho n P=>ZR rho[i]? λes=>P (.int es.length) n
@[simp] theorem zY7{i rho n P}:zs9 i rho n P=ZR rho[i]? λes=>P (.int es.length) n:=rfl
theorem KD{i:Nat}{x:Str}{J:Pos}(hm:X.mg "len" = none)(hK:X.K=A.K)(hN:X.N[i]?=some x:=by rfl)(hv:Vis X.env.scope x:=by first |exact Or.inl rfl |exact Or.inr (Or.inl rfl) |exact Or.inr (Or.inr rfl))(hd:(x == ("__debug__" : Str))=false:=by decide)
  (Y:(x == ("__classdict__" : Str))=false:=by decide) (hg:Gl X "len" := by rfl)
  (he:starEach [.Name x J] X.env=(false,eval (.Name x J) X.env)::starEach [] X.env:=by rfl) (W:(backTo pos (starEach [] X.env)).any (·.1)=false:=by rfl):PD A X (.Call (.Name "len" p) [.Name x J] [] pos) (zs9 i):=by
 exists 
   (za0 xR hg hm vB (jV (Zs hN hv hd Y) Xc he) x4 x4 he W).imp λsg H Q h => by
    obtain⟨rho,n,P,ds,vs,⟨os,I⟩,⟨es,hi,k⟩,hQ⟩:=h;obtain⟨a,xs,e1,hH,rs,_⟩:=I.own (es':=es) (xs':=[]) hi
    exact⟨.ref a,e1,a,xs,rfl,.inl (SqL.of hH),by rw[rs.length];exact hQ _ H n _ ⟨os,I.push (Rep.ofS (d:=.int es.length) rfl)⟩ k⟩
noncomputable def zU1(K:W.Frag)(mg:QqM)(x:Str)(d:D):Prop:=∃v u,mg x=some u/\RelV v u/\∀G Z H,Rep K G Z H d v
theorem zm2{x:Str}{d:D}(h:zU1 X.K X.mg x d)(hK:X.K=A.K)(W:Gl X x:=by rfl)(hd:(x == ("__debug__" : Str))=false:=by decide):PD A X (.Name x pos) (dC d):=by
 exists (by
   obtain⟨v,u,hm,r,J⟩:=h;refine(zl8 W hm r hd).imp λsg H Q q=>?_;obtain⟨rho,n,P,ds,vs,⟨os,I⟩,q,Y⟩:=q
   exact Y v H n d ⟨os,I.push (by rw[<- hK];exact J _ _ _)⟩ q)
theorem zD7{K:W.Frag}{mg:QqM}{x:Str}{a:Addr}{o:Obj}{its:Array Value}{n:Nat}{ds:List D}{xs:List V}(hm:mg x=some (.ref a))(hk:K.lookup a=some o)(Y:o.cls=.type "tuple")(hd:o.data=.seq its n)(I:its.size<=sizeLine)(hv:Vals xs its.toList)
  (J:∀G Z H,Reps K G Z H ds xs):zU1 K mg x (.tup ds):=⟨.ref a,.ref a,hm,rfl,λG Z H=>.tup_mk (.inr (.inr ⟨o,its,n,hk,Y,hd,I,hv⟩)) (J G Z H)⟩
theorem FnOk.botK{P:Program}{w:World}{K:W.Frag}{mg:QqM}{base:Heap}{f:Addr}{fd:FuncData}{ps:List Str}{k L:Nat}{t:TF}(J:∀ds n Q,¬ t ds n Q):FnOk P w K mg base CX0 L f fd ps (spD K k t):=by
 refine⟨λvs H Q E h=>?_,λA outer s H args us vs Q E _ _ _ _ h=>?_⟩
 ·obtain⟨G,Z,n,R,ds,hl,Y,I,gz,z0,h,_⟩:=h;exact(J _ _ _ h).elim
 ·obtain⟨G,Z,n,R,ds,hl,Y,I,gz,z0,h,_⟩:=h;exact(J _ _ _ h).elim
end
theorem yi{own:Nat}{g:TGD}{I:TD}{rho:Rho}{n:Nat}{P:D->Nat->Prop}{α:Type}(enc:α->D)(f:α->D)(xs:List α)
  (J:xs.length<=sizeLine) (W:∀x∈xs,∀Q,Q (f x) n->g (enc x) (replicate own none++rho) λrho'=>rho'.drop own=rho/\I rho' n Q) (Y:P (.lst (xs.map f)) n):zb6 own g xg6 I rho P (xs.map enc) n:=
 zE8 (it:=λ_ n R=>R (xs.map enc) n) (rho:=rho) enc f xs (λR h=>h) J W Y
theorem zk8{d:D}{T:String}{k:D->Prop}(I:T = "bool" \/ T = "int" \/ T = "str" \/ T = "tuple" \/ T = "list"):zR3 [d,.ty T] k↔(kf d=true/\k (.bl (Ka T d))):=
 ⟨fun⟨d',T',e,_,h1,h2⟩=>by cases e;exact⟨h1,h2⟩,λh=>⟨d,T,rfl,I,h.1,h.2⟩⟩
@[simp] theorem zY6{d:D}{k:D->Prop}:zR3 [d,.ty "bool"] k↔(kf d=true/\k (.bl (Ka "bool" d))):=zk8 x4
@[simp] theorem xk4{d:D}{k:D->Prop}:zR3 [d,.ty "int"] k↔(kf d=true/\k (.bl (Ka "int" d))):=zk8 x4
@[simp] theorem xk3{d:D}{k:D->Prop}:zR3 [d,.ty "str"] k↔(kf d=true/\k (.bl (Ka "str" d))):=zk8 x4
@[simp] theorem zT7{d:D}{k:D->Prop}:zR3 [d,.ty "tuple"] k↔(kf d=true/\k (.bl (Ka "tuple" d))):=zk8 x4
@[simp] theorem zY5{d:D}{k:D->Prop}:zR3 [d,.ty "list"] k↔(kf d=true/\k (.bl (Ka "list" d))):=zk8 x4
@[simp] theorem q_rdEqS{i j:Str}{k}:zG5 (.str i) (.str j) k↔k (.bl (decide (i=j))):=by
 have e:decide (ofS (.str i)=ofS (.str j))=decide (i=j):=by simp[ofS]
 unfold zG5;rw[e];exact⟨λh=>h.2.2.2,λh=>⟨rfl,rfl,rfl,h⟩⟩
theorem Uv:∀{ds:List D}{k:Nat},Qh ds k=true↔∀d∈ds,okE d k=true
 |[],k=>by unfold Qh;simp
 |c::ds,k=>by
  unfold Qh;rw[zE,Uv];simp
theorem jW{ds:List D}{k:Nat}:okE (.tup ds) (k+1)=true↔∀d∈ds,okE d k=true:=by
 have e:okE (.tup ds) (k+1)=Qh ds k:=by rw[okE]
 rw[e,Uv]
noncomputable def zR0(es:List D)(k:List D->Prop):Prop:=∃d1 d2 J xs I ys,es=[d1,d2]/\XN d1=some (J,xs)/\XN d2=some (I,ys)/\k (JJ xs ys)
@[simp] theorem xu0{t:TAD}{rho n P}:xf0 t rho n P↔t rho n λes I=>zR0 es λl=>P l I:=Iff.rfl
theorem XX{d1 d2:D}{Y W xs ys}{k:List D->Prop}(h1:XN d1=some (Y,xs))(h2:XN d2=some (W,ys)):zR0 [d1,d2] k↔k (JJ xs ys):=by
 constructor
 ·rintro⟨_,_,_,_,_,_,e,J,I,h⟩;cases e;rw[h1] at J;rw[h2] at I;cases J;cases I;exact h
 ·intro h;exact⟨_,_,_,_,_,_,rfl,h1,h2,h⟩
@[simp] theorem xj5{xs ys}{k:List D->Prop}:zR0 [.tup xs,.tup ys] k↔k (JJ xs ys):=XX rfl rfl
@[simp] theorem xj6{xs ys}{k:List D->Prop}:zR0 [.tup xs,.lst ys] k↔k (JJ xs ys):=XX rfl rfl
@[simp] theorem xj7{xs ys}{k:List D->Prop}:zR0 [.lst xs,.tup ys] k↔k (JJ xs ys):=XX rfl rfl
@[simp] theorem xj8{xs ys}{k:List D->Prop}:zR0 [.lst xs,.lst ys] k↔k (JJ xs ys):=XX rfl rfl
theorem zr4{K:W.Frag}{mg:QqM}{x:Str}{a:Addr}{J:QqE}{n:Nat}{i j:Int}{t u:Tok}{I}(hm:mg x=some (.ref a))(hk:K.lookup a=some ⟨.type "tuple",J,.seq #[.int i t,.int j u] n,I⟩):zU1 K mg x (.tup [.int i,.int j]):=
 zD7 (xs:=[.int i,.int j]) hm hk rfl rfl (by simp[sizeLine]) (.cons ⟨_,rfl⟩ (.cons ⟨_,rfl⟩ .nil)) λG Z H=>by
  exact .cons (.ofS (d:=.int i) rfl) (.cons (.ofS (d:=.int j) rfl) .nil)
theorem WD(f:Nat->Int)(I:Nat->Nat->Bool)(h:∀i j,I i j=true↔f j<f i):∀k,argBest I k<=k/\∀i,i<=k->f i<=f (argBest I k)
 |0=>⟨zi _,λi hi=>by cases Nat.le_zero.mp hi;exact Int.le_refl _⟩
 | k + 1 => by
  obtain⟨h1,h2⟩:=WD f I h k;rw[argBest.eq_2]
  by_cases J:I (k+1) (argBest I k)=true
  ·rw [if_pos J];have hb':=(h _ _).mp J;refine⟨zi _,λi hi=>?_⟩
   by_cases e:i=k+1
   ·subst e;exact Int.le_refl _
   ·have:=h2 i x3;lia
  ·rw [if_neg J];have hb':¬ f (argBest I k)<f (k+1):=λz=>J ((h _ _).mpr z)
   refine⟨x3,λi hi=>?_⟩
   by_cases e:i=k+1
   ·subst e;lia
   ·exact h2 i x3
theorem Vals.ints_at{ns:List Int}{us:QqW}(h:Vals (ns.map V.int) us){i:Nat}{v:Value}(e:us[i]?=some v):i<ns.length/\∃t,v=.int (ns[i]?.getD 0) t:=by
 have J:us.length=ns.length:=by have:=h.length;simpa using this.symm
 have hi:i<ns.length:=by rw[<- J];exact(zu.mp e).1
 refine⟨hi,?_⟩
 have W:(ns.map V.int)[i]?=some (.int ns[i]):=by rw[zv,ze hi];rfl
 obtain⟨u,I,r⟩:=h.get W;rw[e] at I;cases I;obtain⟨t,rfl⟩:=r
 exact⟨t,by rw[ze hi];rfl⟩
section
variable {X:Cx}
theorem zv0(hc:X.calm=true):jr X (.builtin "max") (λxs H Q=>∃(p:Addr) (ns:List Int),xs=[.ref p]/\SqL X.K H p (ns.map V.int)/\0<ns.length/\∀M,M∈ns->(∀a∈ns,a<=M)->Q (.int M) H):=by
 intro ae s σ H xs us Q I r h;obtain⟨p,ns,rfl,hq,hn,q⟩:=h
 cases r with
 | cons r rr =>
  cases rr;cases r;obtain⟨its,rv,pl,_⟩:=I.list hq;have hl:=pl.isList
  have Y:p<s.heap.objs.size:=by obtain⟨_,e,_⟩:=hl;exact zw e
  have W:its.length=ns.length:=by have:=rv.length;simpa using this.symm
  refine call_max_walk (yA hl ⟨s.heap.objs.size,[s.heap.objs.size,p],[s.heap.objs.size],its.toArray.size,_,_,λi j=>decide (ns[j]?.getD 0<ns[i]?.getD 0),rfl,
   Walks.list (A:=X.A.in1) (I.ok.hd hc) _ p (zJ Y) _,⟨⟨_,zD _ rfl,rfl,rfl⟩,hl.push _⟩,λb hb=>?_,?_,λi j vi vj s' Q' E' hi hj hQ=>?_,λv h' tk hP hk=>?_⟩)
  ·simp only [zt, zW, or_false] at hb
   rcases hb with rfl |rfl
   ·simp[Heap.push]
   ·exact Nat.lt_trans Y (by simp[Heap.push])
  ·rw[zn,W];exact hn
  ·have hi' : its[i]? = some vi := by simpa using hi
   have hj':its[j]?=some vj:=by simpa using hj
   obtain⟨_,ti,rfl⟩:=rv.ints_at hi';obtain⟨_,tj,rfl⟩:=rv.ints_at hj';exact(PyProof.Rows.gt_int hQ:wpAny (model X.prog X.w) X.A.in1 (compareOp .Gt _ _) Q' E' s')
  ·have hP' : its[argBest (λi j => decide (ns[j]?.getD 0 < ns[i]?.getD 0)) (its.toArray.size - 1)]? = some v := by simpa using hP
   obtain⟨J,t,rfl⟩:=rv.ints_at hP'
   obtain⟨af,aa⟩:=WD (λi=>ns[i]?.getD 0) (λi j=>decide (ns[j]?.getD 0<ns[i]?.getD 0)) (λi j=>by simp) (its.toArray.size-1)
   generalize argBest (λi j=>decide (ns[j]?.getD 0<ns[i]?.getD 0)) (its.toArray.size-1)=m at *;refine⟨.int (ns[m]?.getD 0),H,I.kept (za4 hk),⟨_,rfl⟩,q _ ?_ λa ha=>?_⟩
   ·rw[ze J];exact wz J
   ·obtain ⟨i, hi, rfl⟩ := List.mem_iff_getElem.mp ha
    have:=aa i (by rw[zn,W];lia)
    rw[ze hi] at this;exact this
theorem zu9(hc:X.calm=true):jr X (.builtin "min") (λxs H Q=>∃(p:Addr) (ns:List Int),xs=[.ref p]/\SqL X.K H p (ns.map V.int)/\0<ns.length/\∀M,M∈ns->(∀a∈ns,M<=a)->Q (.int M) H):=by
 intro ae s σ H xs us Q I r h;obtain⟨p,ns,rfl,hq,hn,q⟩:=h
 cases r with
 | cons r rr =>
  cases rr;cases r;obtain⟨its,rv,pl,_⟩:=I.list hq;have hl:=pl.isList
  have Y:p<s.heap.objs.size:=by obtain⟨_,e,_⟩:=hl;exact zw e
  have W:its.length=ns.length:=by have:=rv.length;simpa using this.symm
  refine call_min_walk (yA hl ⟨s.heap.objs.size,[s.heap.objs.size,p],[s.heap.objs.size],its.toArray.size,_,_,λi j=>decide (ns[i]?.getD 0<ns[j]?.getD 0),rfl,
   Walks.list (A:=X.A.in1) (I.ok.hd hc) _ p (zJ Y) _,⟨⟨_,zD _ rfl,rfl,rfl⟩,hl.push _⟩,λb hb=>?_,?_,λi j vi vj s' Q' E' hi hj hQ=>?_,λv h' tk hP hk=>?_⟩)
  ·simp only [zt, zW, or_false] at hb
   rcases hb with rfl |rfl
   ·simp[Heap.push]
   ·exact Nat.lt_trans Y (by simp[Heap.push])
  ·rw[zn,W];exact hn
  ·have hi' : its[i]? = some vi := by simpa using hi
   have hj':its[j]?=some vj:=by simpa using hj
   obtain⟨_,ti,rfl⟩:=rv.ints_at hi';obtain⟨_,tj,rfl⟩:=rv.ints_at hj';exact(PyProof.Rows.lt_int hQ:wpAny (model X.prog X.w) X.A.in1 (compareOp .Lt _ _) Q' E' s')
  ·have hP' : its[argBest (λi j => decide (ns[i]?.getD 0 < ns[j]?.getD 0)) (its.toArray.size - 1)]? = some v := by simpa using hP
   obtain⟨J,t,rfl⟩:=rv.ints_at hP'
   obtain⟨af,aa⟩:=WD (λi=>- ns[i]?.getD 0) (λi j=>decide (ns[i]?.getD 0<ns[j]?.getD 0)) (λi j=>by simp) (its.toArray.size-1)
   generalize argBest (λi j=>decide (ns[i]?.getD 0<ns[j]?.getD 0)) (its.toArray.size-1)=m at *;refine⟨.int (ns[m]?.getD 0),H,I.kept (za4 hk),⟨_,rfl⟩,q _ ?_ λa ha=>?_⟩
   ·rw[ze J];exact wz J
   ·obtain ⟨i, hi, rfl⟩ := List.mem_iff_getElem.mp ha
    have:=aa i (by rw[zn,W];lia)
    rw[ze hi] at this;have e:(some ns[i]).getD 0=ns[i]:=rfl;rw[e] at this;lia
end
section
variable {A:AC}
theorem kF{K:W.Frag}{G:QqE}{Z:QqA}{H:Hp}:∀{bs:List Int}{ws:List V},Reps K G Z H (bs.map D.int) ws->ws=bs.map V.int
 |[],ws,h=>h.nil_inv
 |b::bs,ws,h=>by
  obtain⟨v,r,rfl,q,t⟩:=h.split;rw[q.int_inv,kF t];rfl
noncomputable def xe0:List D->(D->Prop)->Prop:=λes k=>∃i j,es=[.int i,.int j]/\k (.int (if j > i then j else i))
noncomputable def xd8:List D->(D->Prop)->Prop:=λes k=>∃i j,es=[.int i,.int j]/\k (.int (if j<i then j else i))
noncomputable def xe1:List D->(D->Prop)->Prop:=λes k=>∃ns:List Int,es=[.lst (ns.map D.int)]/\0<ns.length/\∀M,M∈ns->(∀a∈ns,a<=M)->k (.int M)
noncomputable def xd9:List D->(D->Prop)->Prop:=λes k=>∃ns:List Int,es=[.lst (ns.map D.int)]/\0<ns.length/\∀M,M∈ns->(∀a∈ns,M<=a)->k (.int M)
@[simp] theorem xt2{i j k}:xe0 [.int i,.int j] k↔k (.int (if j > i then j else i)):=⟨fun⟨_,_,e,h⟩=>by cases e;exact h,λh=>⟨_,_,rfl,h⟩⟩
@[simp] theorem xt0{i j k}:xd8 [.int i,.int j] k↔k (.int (if j<i then j else i)):=⟨fun⟨_,_,e,h⟩=>by cases e;exact h,λh=>⟨_,_,rfl,h⟩⟩
theorem zu0:vA A (λxs H Q=>∃i j,xs=[.int i,.int j]/\Q (.int (if j > i then j else i)) H) xe0:=by
 rintro os n rho sg H ds vs es ws k Q I J ⟨i,j,rfl,q⟩ W;obtain⟨v,v',rfl,r,r'⟩:=zd3 J
 exact⟨i,j,by rw[r.int_inv,r'.int_inv],W _ H _ ⟨os,I.push (Rep.ofS rfl)⟩ q⟩
theorem zt9:vA A (λxs H Q=>∃i j,xs=[.int i,.int j]/\Q (.int (if j<i then j else i)) H) xd8:=by
 rintro os n rho sg H ds vs es ws k Q I J ⟨i,j,rfl,q⟩ W;obtain⟨v,v',rfl,r,r'⟩:=zd3 J
 exact⟨i,j,by rw[r.int_inv,r'.int_inv],W _ H _ ⟨os,I.push (Rep.ofS rfl)⟩ q⟩
theorem zS4:vA A (λxs H Q=>∃(p:Addr) (ns:List Int),xs=[.ref p]/\SqL A.K H p (ns.map V.int)/\0<ns.length/\∀M,M∈ns->(∀a∈ns,a<=M)->Q (.int M) H) xe1:=by
 rintro os n rho sg H ds vs es ws k Q I J ⟨ns,rfl,Y,q⟩ hQ;obtain⟨v,rfl,r⟩:=kX J;obtain⟨a,xs,rfl,sq,W⟩:=r.lst_inv;have e:=kF W;subst e;exact⟨a,ns,rfl,sq.sq,Y,λM h1 h2=>hQ _ H _ ⟨os,I.push (Rep.ofS rfl)⟩ (q M h1 h2)⟩
theorem zS3:vA A (λxs H Q=>∃(p:Addr) (ns:List Int),xs=[.ref p]/\SqL A.K H p (ns.map V.int)/\0<ns.length/\∀M,M∈ns->(∀a∈ns,M<=a)->Q (.int M) H) xd9:=by
 rintro os n rho sg H ds vs es ws k Q I J ⟨ns,rfl,Y,q⟩ hQ;obtain⟨v,rfl,r⟩:=kX J;obtain⟨a,xs,rfl,sq,W⟩:=r.lst_inv;have e:=kF W;subst e;exact⟨a,ns,rfl,sq.sq,Y,λM h1 h2=>hQ _ H _ ⟨os,I.push (Rep.ofS rfl)⟩ (q M h1 h2)⟩
theorem zv2:bootBuiltins "max" = some (.builtin "max"):=x5
theorem zv1:bootBuiltins "min" = some (.builtin "min"):=x5
end
theorem Qt{own:Nat}{g:TGD}{J:TBD}{W:TD}{rho:Rho}{n:Nat}{P:D->Nat->Prop}{α:Type}(enc:α->D)(keep:α->Bool)(f:α->D)(xs:List α)(hz:xs.length<=sizeLine)
  (he:∀x∈xs,∀(R:D->Nat->Prop) (S:Nat->Prop),(keep x=true->R (f x) n)->(keep x=false->S n)->g (enc x) (replicate own none++rho) λrho'=>rho'.drop own=rho/\J rho' n λc Y=>if c=true then W rho' Y R else S Y)
  (hP:P (.lst ((xs.filter keep).map f)) n):zb6 own g J W rho P (xs.map enc) n:=by
 refine⟨by simpa using hz,λi acc n'=>n'=n/\acc=((xs.take i).filter keep).map f,⟨rfl,rfl⟩,?_,?_⟩
 ·rintro i d acc n' e ⟨rfl, rfl⟩;rw[zv] at e
  cases q:xs[i]? with
  |none=>rw[q] at e;cases e
  |some x=>
   rw[q] at e;cases e;have hm:x∈xs:=xk q
   have et:xs.take (i+1)=xs.take i++[x]:=by rw[xI,q];rfl
   refine he x hm (λe I=>I=n'/\((xs.take i).filter keep).map f++[e]=((xs.take (i+1)).filter keep).map f) (λI=>I=n'/\((xs.take i).filter keep).map f=((xs.take (i+1)).filter keep).map f) (λhk=>⟨rfl,?_⟩) (λhk=>⟨rfl,?_⟩)
   ·rw[et,List.filter_append];simp[hk]
   ·rw[et,List.filter_append];simp[hk]
 ·rintro acc n' ⟨rfl,rfl⟩;rw[zh,wy];exact hP
theorem Qj{ds:List D}{k:Nat}:okE (.lst ds) (k+1)=true↔∀d∈ds,okE d k=true:=by
 have e:okE (.lst ds) (k+1)=Qh ds k:=by rw[okE]
 rw[e,Uv]
theorem jj{i:Int}{k:Nat}:okE (.int i) k=true:=by simp[okE]
noncomputable def zG7(K:W.Frag):R2:=λx y H Q=>∃a b xs ys,x=.ref a/\y=.ref b/\SqT K H a xs/\SqT K H b ys/\xs.length+ys.length<=sizeLine /\
 (xs=[]->Q (.ref b) H)/\(xs≠[]->ys=[]->Q (.ref a) H)/\(xs≠[]->ys≠[]->∀p,H p=none->Q (.ref p) (upd H p (.tup (xs++ys))))
section
variable {X:Cx}
theorem vJ:OpR X (binaryOp .Add) (zG7 X.K):=by
 intro J s σ H x y v u Q I rx ry h;obtain⟨a,b,xs,ys,rfl,rfl,ha,hb,hz,q0,q1,q2⟩:=h
 by_cases hx:xs=[]
 ·cases rx;cases ry;obtain⟨its,r1,p1,_⟩:=I.tuple ha;obtain⟨W,r2,p2,_⟩:=I.tuple hb;have hi:its=[]:=r1.nil_iff.mpr hx;obtain⟨⟨cls,dd,data,sl⟩,ho,hc,n,hd⟩:=id p1;obtain⟨⟨ah,af,ag,ae⟩,Y,hc2,n2,aa⟩:=id p2;simp only at hc hd hc2 aa;subst hc hd hc2 aa
  exact PySem.concat_meets ⟨_,ho,rfl⟩ ⟨_,Y,rfl⟩ PySem.noFill_tuple_add PySem.seq_tuple_add PySem.F.slot_tuple_add PySem.F.entry_tuple_add (PySem.F.args_tuple_add_2 _ _)
   (tuple_addW0 a b its.toArray W.toArray n n2 dd af sl ae (by simp[hi])) ⟨ho,Y,⟨.ref b,H,I,rfl,q0 hx⟩⟩
 ·exact zO5 J s σ H _ _ v u Q I rx ry ⟨a,b,xs,ys,rfl,rfl,ha,hb,hx,hz,q1 hx,q2 hx⟩
end
section
variable {A:AC}
noncomputable def zG6:RD2:=λd1 d2 k=>∃es fs,d1=.tup es/\d2=.tup fs/\es.length+fs.length<=sizeLine/\k (.tup (es++fs))
@[simp] theorem xi9{es fs k}:zG6 (.tup es) (.tup fs) k↔(es.length+fs.length<=sizeLine/\k (.tup (es++fs))):=⟨fun⟨_,_,e,e',h⟩=>by cases e;cases e';exact h,λh=>⟨_,_,rfl,rfl,h⟩⟩
theorem kG:qI A (zG7 A.K) zG6:=by
 rintro os n rho sg H ds vs d1 d2 v1 v2 k Q I ⟨es,fs,rfl,rfl,hz,q⟩ Y;obtain⟨I1,r2⟩:=I.pop;obtain⟨I2,r1⟩:=I1.pop;have r1':=r1;have r2':=r2;obtain⟨a,xs,e,sq,J⟩:=r1.tup_inv;obtain⟨b,ys,e',sq',rs'⟩:=r2.tup_inv;subst e e'
 refine⟨a,b,xs,ys,rfl,rfl,sq.sq,sq'.sq,by rw[J.length,rs'.length];exact hz,λhx=>?_,λhx hy=>?_,λhx hy p hp=>?_⟩
 ·have W : es = [] := by have := J.length; rw [hx] at this; exact List.eq_nil_of_length_eq_zero this.symm
  subst W;exact Y _ H _ ⟨os,I2.push r2'⟩ q
 ·have W : fs = [] := by have := rs'.length; rw [hy] at this; exact List.eq_nil_of_length_eq_zero this.symm
  subst W;rw[yV] at q;exact Y _ H _ ⟨os,I2.push r1'⟩ q
 ·exact Y _ _ _ ⟨os,I2.newTup (J.append rs') hp⟩ q
end
section
variable {A:AC}{X:Cx}{a b c e:Expr}{es:List Expr}{te ta tb tc:TD}{t1:TAD}{pos p:Pos}
noncomputable def YO(d:D)(k:Int->Prop):Prop:=∃i,d=.int i/\k i
@[simp] theorem xt9{i:Int}{k}:YO (.int i) k↔k i:=⟨fun⟨_,e,h⟩=>by cases e;exact h,λh=>⟨_,rfl,h⟩⟩
noncomputable def zJ0(f g:Int->Int->Bool)(ta tb tc:TD):TD:=λrho n P=>ta rho n λd1 W=>tb rho W λd2 I=>YO d1 λi=>YO d2 λj=>if f i j=true then tc rho I λd3 J=>YO d3 λk=>P (.bl (g j k)) J else P (.bl false) I
@[simp] theorem xl4{f g ta tb tc rho n P}:zJ0 f g ta tb tc rho n P=ta rho n λd1 W=>tb rho W λd2 I=>YO d1 λi=>YO d2 λj=>if f i j=true then tc rho I λd3 J=>YO d3 λk=>P (.bl (g j k)) J else P (.bl false) I:=rfl
theorem zA4{op op':CmpOp}{f g:Int->Int->Bool}(ho:OpR X (compareOp op) (rI0 λi j=>.bl (f i j)))(ho':OpR X (compareOp op') (rI0 λi j=>.bl (g i j)))(ha:PD A X a ta)(hb:PD A X b tb)(hc:PD A X c tc)
  (hm:lastMarks [op,op'] [b,c]=false:=by with_unfolding_all rfl):PD A X (.Compare a [op,op'] [b,c] pos) (zJ0 f g ta tb tc):=by
 exists (zA1 ho ho' ha hb hc hm).imp λsg H Q h=>by
   obtain⟨rho,n,P,ds,vs,I,h,hQ⟩:=h;refine⟨rho,n,_,ds,vs,I,h,λv H1 n1 d1 I1 h1=>⟨rho,n1,_,_,_,I1,h1,λv2 H2 n2 d2 ⟨J,I2⟩ h2=>?_⟩⟩;obtain⟨i,rfl,j,rfl,h2⟩:=h2;obtain⟨I3,Y⟩:=I2.pop;obtain⟨I4,r1⟩:=I3.pop;refine⟨i,j,r1.int_inv,Y.int_inv,f i j,rfl,?_⟩
   by_cases hf:f i j=true
   ·rw[if_pos hf] at h2 ⊢;refine⟨rho,n2,_,_,_,⟨J,I4⟩,h2,λv3 H3 n3 d3 ⟨W,I5⟩ h3=>?_⟩;obtain⟨k,rfl,h3⟩:=h3;obtain⟨I6,r3⟩:=I5.pop;exact⟨j,k,Y.int_inv,r3.int_inv,hQ _ H3 n3 _ ⟨W,I6.push (Rep.ofS (d:=.bl (g j k)) rfl)⟩ h3⟩
   ·rw[if_neg hf] at h2 ⊢;exact hQ _ H2 n2 _ ⟨J,I4.push (Rep.ofS (d:=.bl false) rfl)⟩ h2
noncomputable def xf3(t:TAD):TID:=λrho n P=>t rho n λes I=>ze1 es λd1 d2=>YO d1 λi=>YO d2 λj=>(-(2^62)<=i/\i<2^62/\-(2^62)<=j/\j<2^62)/\P (JI i (j-i).toNat) I
@[simp] theorem xk5{t rho n P}:xf3 t rho n P=t rho n λes I=>ze1 es λd1 d2=>YO d1 λi=>YO d2 λj=>(-(2^62)<=i/\i<2^62/\-(2^62)<=j/\j<2^62)/\P (JI i (j-i).toNat) I:=rfl
noncomputable def Qb(i:Nat)(t:TAD):TSD:=λF rho n=>ZR rho[i]? λes=>t rho n λds I=>∃fs,ds=[.lst fs]/\es.length+fs.length<=sizeLine/\F.nx (rho.set i (some (.own (es++fs)))) I
@[simp] theorem zY0{i t F rho n}:Qb i t F rho n=ZR rho[i]? λes=>t rho n λds I=>∃fs,ds=[.lst fs]/\es.length+fs.length<=sizeLine/\F.nx (rho.set i (some (.own (es++fs)))) I:=rfl
theorem Vp{i:Nat}{x:Str}{px Y W:Pos}(ha:PAD A X [e] t1)(hK:X.K=A.K)(hN:X.N[i]?=some x:=by rfl)(hv:Vis X.env.scope x:=by first |exact Or.inl rfl |exact Or.inr (Or.inl rfl) |exact Or.inr (Or.inr rfl))(hd:(x == ("__debug__" : Str))=false:=by decide)
  (aj:(x == ("__classdict__" : Str))=false:=by decide) (af:attributeBase (.Name x px) "extend" X.env (eval (.Name x px) X.env)=eval (.Name x px) X.env:=by rfl)
  (ag : ((backTo W (starEach [e] X.env)).all (λx => !x.1) && (backToKw W (keywordEach [] X.env)).all (λx => x.1.isSome)
   && decide ([e].length+([]:List Keyword).length+(if ([]:List Keyword).isEmpty then 0 else 1)<30))=true:=by rfl)
  (ae:(Y.endLine == W.line)=true:=by rfl) (hs:starEach [e] X.env=(false,eval e X.env)::starEach [] X.env:=by rfl) (aa:(backTo W (starEach [] X.env)).any (·.1)=false:=by rfl)
  (ai:swapsWith (.Call (.Attribute (.Name x px) "extend" Y) [e] [] W) none pos.line X.env=pure false:=by rfl) :
  PSD A X (.Expr (.Call (.Attribute (.Name x px) "extend" Y) [e] [] W) pos) (Qb i t1):=by
 exists 
   (Qc (zm0 PySem.F.plainAttrs_list PySem.F.slot_list_extend PySem.F.type_list_extend zo7 (Zs hN hv hd aj) ha af ag ae hs aa) ai).imp λE sg H h => by
    obtain⟨rho,n,F,ds,vs,⟨os,I⟩,⟨es,hi,ht⟩,ok⟩:=h;obtain⟨a,xs,e1,hH,rs,_⟩:=I.own (es':=es) (xs':=[]) hi;refine⟨.ref a,e1,.inl ⟨rfl,xs,SqL.of hH⟩,rho,n,_,ds,vs,⟨os,I⟩,ht,λws H' n' fs ⟨os',J⟩ hl k=>?_⟩;obtain⟨gs,rfl,hz,k⟩:=k;obtain⟨J1,ah⟩:=J.split hl;obtain⟨v,rfl,r⟩:=kX ah;obtain⟨b,ys,rfl,sq,rr⟩:=r.lst_inv;obtain⟨a',xs',e2,hH',rs',up⟩:=J1.own (es':=es) (xs':=[]) hi;rw[e1] at e2;cases e2
    exact⟨a,b,xs',ys,rfl,rfl,hH',sq.2,by rw[rs'.length,rr.length];exact hz,ok.nx _ _ _ _ ⟨os',up _ _ (rs'.append rr)⟩ k⟩
end
theorem jC:∀{us:QqW}{ns:List Int},IntsAre us ns->Vals (ns.map V.int) us
 |_,_,.nil=>.nil
 |_,_,.cons n t h=>.cons ⟨t,rfl⟩ (jC h)
section
variable {X:Cx}{A:AC}
theorem Qx:jr X (.builtin "sorted") (λxs H Q=>∃(p:Addr) (ns:List Int),xs=[.ref p]/\SqL X.K H p (ns.map V.int)/\ns.length<64/\∀J:List Int,J.Perm ns->J.Pairwise (·<=·)->∀l,H l=none->Q (.ref l) (upd H l (.lst (J.map V.int)))):=by
  intro Y s σ H xs us Q I r h;obtain⟨p,ns,rfl,hq,hn,q⟩:=h
  cases r with
  | cons r rr =>
    cases rr;cases r;obtain⟨its,rv,pl,_⟩:=I.list hq;have hl:=pl.isList
    have aa:its.length=ns.length:=by have:=rv.length;simpa using this.symm
    refine sorted_ints hl (Zo rv) x3 λW J hi hp hs=>?_
    obtain⟨e,he⟩:=sortedAll_at s.heap its W;have ae:J.length=ns.length:=hp.length_eq;have hf:H (s.heap.objs.size+1)=none:=I.hok.fresh (wo _);refine⟨.ref (s.heap.objs.size+1),_,I.laid (t':=s.toks) (o:=.lst (J.map V.int)) (λb u e=>sortedAll_old e) (wo _) ?_,rfl,q J hp hs _ hf⟩
    exact⟨by rw[zh];exact zy x3 (xY (k:=64) x3),W.toList,e,jC hi,he⟩
noncomputable def zR1:List D->(D->Prop)->Prop:=λes k=>∃ns:List Int,es=[.lst (ns.map D.int)]/\ns.length<64/\∀I:List Int,I.Perm ns->I.Pairwise (·<=·)->k (.lst (I.map D.int))
theorem zt8:vA A (λxs H Q=>∃(p:Addr) (ns:List Int),xs=[.ref p]/\SqL A.K H p (ns.map V.int)/\ns.length<64/\∀J:List Int,J.Perm ns->J.Pairwise (·<=·)->∀l,H l=none->Q (.ref l) (upd H l (.lst (J.map V.int)))) zR1:=by
  rintro os n rho sg H ds vs es ws k Q I W ⟨ns,rfl,hn,q⟩ hQ;obtain⟨v,rfl,r⟩:=kX W;obtain⟨a,xs,rfl,sq,Y⟩:=r.lst_inv;have e:=kF Y;subst e;exact⟨a,ns,rfl,sq.sq,hn,λJ h1 h2 l hl=>hQ _ _ _ ⟨os,I.newLst jQ hl⟩ (q J h1 h2)⟩
theorem Yp:bootBuiltins "sorted" = some (.builtin "sorted"):=x5
end
theorem VW{x y:Str}{I py pt:Pos}{kt k2 J}{a b:Expr}{env:Env}(hk:env.blockKind=.function)(hx:env.kindOf x=some .local)(hy:env.kindOf y=some .local)(hl:py.line=I.line)(W:x≠y)
  (aa:kB a=false) (Y:kB b=false) (hf:[a,b].all (foldedForSure 8)=false) (hc:[a,b].all (constantsAlone 8)=false) :
  swappedStores [.Tuple [.Name x I,.Name y py] kt pt] (.Tuple [a,b] k2 J) env=pure (some [x,y]):=by
 have e2:(y == x)=false:=beq_false_of_ne (Ne.symm W);have e:(Expr.Name x I).pos.line=I.line:=rfl;unfold swappedStores;simp[hk,hx,hy,hl,hf,hc,e,List.eraseDups,List.eraseDupsBy,List.eraseDupsBy.loop,e2];intro h
 exfalso
 rcases h with h |h
 ·cases a<;>first |(simp at h;done) |(simp[kB] at aa;done)
 ·cases b<;>first |(simp at h;done) |(simp[kB] at Y;done)
section
variable {A:AC}{X:Cx}{a b:Expr}{pos:Pos}
theorem QW{i j:Nat}{x y:Str}{ta:TAD}{px py pt:Pos}{kt k2 I}(hc:X.calm=true)(hN:X.N.Nodup)(hi:X.N[i]?=some x)(hj:X.N[j]?=some y)(aa:i≠j)
  (hx:X.env.scope.names.lookup x=some .local) (hy:X.env.scope.names.lookup y=some .local) (ha:PAD A X [a,b] ta)
  (hk:X.env.blockKind=.function:=by rfl) (hl:py.line=px.line:=by rfl) (J:x≠y:=by decide) (Y:kB a=false:=by rfl) (W:kB b=false:=by rfl) (hf:[a,b].all (foldedForSure 8)=false:=by decide +kernel) (ae:[a,b].all (constantsAlone 8)=false:=by decide +kernel) :
  PSD A X (.Assign [.Tuple [.Name x px,.Name y py] kt pt] (.Tuple [a,b] k2 I) pos) (xn7 i j ta):=by
 exists 
   zM9 hc hN hi hj aa hx hy ha (VW hk hx hy hl J Y W hf ae) rfl
end
theorem zz3{A:AC}{X:Cx}{e:Expr}{t:TBD}(h:PTD A X e t):PTs X [e] (zc8 A t):=by exists zM5 h
end L2
namespace L2
open PySem PySem.Spec PyProof.Rows HT
section
variable {prog:Program}{w:World}{A:Around}{E:QqV}{s:Shared}
theorem ZU{t W:Addr}{items:Array Value}{vl vu:Value}{lo hi:Option Int}{Q:QqV}(J:IsTup s.heap t items)(hs:s.heap.IsSliceOf W vl vu .none)(pl:IsPart vl lo)(pu:IsPart vu hi)
  (h1:sIx items.size 0 lo=0) (h2:sIx items.size items.size hi=items.size) (h:Q (.ref t) s):wpAny (model prog w) A (getItem (.ref t) (.ref W)) Q E s:=by
 obtain⟨os,Y,aa,af⟩:=id hs;have ae:s.TypeIs (.ref W) "slice" := ⟨os,Y,aa⟩;unfold getItem
 try with_reducible refine wU ?_
 first |refine zc (zj ?_) |skip
 refine zc (wpAny_sequenceKey J.typeIs x4 ?_)
 refine zc (wH (name:=Str.ofString "__getitem__") J.typeIs PyProof.Rows.slot_tuple_getitem
  (yg PyProof.Rows.slot_tuple_getitem J.typeIs entry_tuple_getitem ?_ (args_tuple_getitem _ _)))
 show wpAny _ _ (Builtin.Tuple.tupleItemsOf (.ref t) >>= _) _ _ s;refine zc (tupleItemsOf_ J ?_);refine zc (wpAny_typeOf ae ?_)
 rw[if_pos x4]
 refine zc (ju hs pl pu ?_)
 have I:((((sIx items.size 0 lo:Nat):Int) == 0&&(1:Int) == 1&&(sIx items.size items.size hi-sIx items.size 0 lo) == items.size)=true):=by
  rw[h1,h2];simp
 show wpAny _ _ (if (((sIx items.size 0 lo:Nat):Int) == 0&&(1:Int) == 1&&(sIx items.size items.size hi-sIx items.size 0 lo) == items.size)=true then _ else _) _ _ s
 rw[if_pos I];obtain⟨⟨cls,dd,data,sl'⟩,ho,hc,n,hd⟩:=id J;simp only at hc hd;subst hc hd;unfold Builtin.Tuple.tupleIsExact;obtain⟨hp,g,d,tk,os'⟩:=s
 wp_walk
 exact⟨_,rfl,zj h⟩
end
section
variable {X:Cx}
noncomputable def xo7(K:W.Frag):V->Option Int->Option Int->Hp->VK->Prop:=λx lo hi H Q=>∃a xs,x=.ref a/\SqT K H a xs /\
 ((HT.sIx xs.length 0 lo=0/\HT.sIx xs.length xs.length hi=xs.length)->Q (.ref a) H)/\(¬ (HT.sIx xs.length 0 lo=0/\HT.sIx xs.length xs.length hi=xs.length)->∀p,H p=none->Q (.ref p) (upd H p (.tup (zE6 xs lo hi))))
theorem zK8:SlR X (xo7 X.K):=by
 intro W s σ H x v vl vu lo hi sl Q I rx hs pl pu h;obtain⟨a,xs,rfl,hx,q1,q2⟩:=h
 by_cases Y:HT.sIx xs.length 0 lo=0/\HT.sIx xs.length xs.length hi=xs.length
 ·cases rx;obtain⟨its,r,ht,hz⟩:=I.tuple hx
  have J:its.toArray.size=xs.length:=by rw[zn];exact r.length.symm
  refine⟨"tuple",_,PyProof.Rows.slot_tuple_getitem.lookup,ht.typeIs,?_⟩
  exact ZU ht hs pl pu (by rw[J];exact Y.1) (by rw[J];exact Y.2) ⟨.ref a,H,I,rfl,q1 Y⟩
 ·exact zV7 W s σ H (.ref a) v vl vu lo hi sl Q I rx hs pl pu ⟨a,xs,rfl,hx,Y,q2 Y⟩
end
noncomputable abbrev TOD:=Rho->Nat->(Option Int->Nat->Prop)->Prop
noncomputable def oOf(A:AC)(t:TOD):TO:=λsg H Q=>∃rho n P ds vs,Am A n rho sg H ds vs/\t rho n P/\∀o H' n',Am A n' rho sg H' ds vs->P o n'->Q o H'
@[irreducible] noncomputable def POD(A:AC)(X:Cx)(e:Option Expr)(t:TOD):Prop:=PO X e (oOf A t)
theorem PO.imp{X:Cx}{e:Option Expr}{t t':TO}(h:PO X e t)(hi:∀sg H Q,t' sg H Q->t sg H Q):PO X e t':=λJ s sg H Q I q=>h J s sg H Q I (hi _ _ _ q)
section
variable {A:AC}{X:Cx}{a b c e:Expr}{es:List Expr}{te ta tb tc:TD}{t1:TAD}{pos p:Pos}
noncomputable def xc2:TOD:=λ_ n P=>P none n
noncomputable def xc1(t:TD):TOD:=λrho n P=>t rho n λd I=>YO d λi=>P (some i) I
@[simp] theorem xs3{rho n P}:xc2 rho n P=P none n:=rfl
@[simp] theorem xs2{t rho n P}:xc1 t rho n P=t rho n λd I=>YO d λi=>P (some i) I:=rfl
theorem kJ:POD A X none xc2:=by
 exists zN1.imp λsg H Q h=>by
   obtain⟨rho,n,P,ds,vs,I,h,J⟩:=h;exact J none H n I h
theorem kI(h:PD A X e te):POD A X (some e) (xc1 te):=by
 exists (zl5 h).imp λsg H Q h=>by
   obtain⟨rho,n,P,ds,vs,I,h,W⟩:=h;refine⟨rho,n,_,ds,vs,I,h,λv H' n' d ⟨os,J⟩ k=>?_⟩;obtain⟨i,rfl,k⟩:=k;obtain⟨Y,r⟩:=J.pop;exact⟨i,r.int_inv,W _ H' n' ⟨os,Y⟩ k⟩
noncomputable def JK(d:D)(k:List D->Prop):Prop:=∃fs,d=.tup fs/\k fs
@[simp] theorem xp0{fs:List D}{k}:JK (.tup fs) k↔k fs:=⟨fun⟨_,e,h⟩=>by cases e;exact h,λh=>⟨_,rfl,h⟩⟩
noncomputable def xG3(ta:TD)(I J:TOD):TD:=λrho n P=>ta rho n λd n1=>I rho n1 λlo Y=>J rho Y λhi W=>JK d λfs=>P (.tup (Xq fs lo hi)) W
@[simp] theorem xC9{ta I J rho n P}:xG3 ta I J rho n P=ta rho n λd n1=>I rho n1 λlo Y=>J rho Y λhi W=>JK d λfs=>P (.tup (Xq fs lo hi)) W:=rfl
theorem zt3{fs:List D}{lo hi:Option Int}(h:HT.sIx fs.length 0 lo=0/\HT.sIx fs.length fs.length hi=fs.length):Xq fs lo hi=fs:=by
 unfold Xq;rw[h.1,h.2,vf,Nat.sub_zero,wy]
theorem YZ{le he:Option Expr}{Y th:TOD}{p2:Pos}(hK:X.K=A.K)(ha:PD A X a ta)(hl:POD A X le Y)(hh:POD A X he th):PD A X (.Subscript a (.Slice le he none p2) pos) (xG3 ta Y th):=by
 exists (QY zK8 ha hl hh).imp λsg H Q h=>by
   obtain⟨rho,n,P,ds,vs,I,ht,hQ⟩:=h;refine⟨rho,n,_,ds,vs,I,ht,λv H1 n1 d J1 h1=>⟨rho,n1,_,_,_,J1,h1,λlo H2 n2 J2 h2=>⟨rho,n2,_,_,_,J2,h2,λhi H3 n3 ⟨os,J3⟩ h3=>?_⟩⟩⟩;obtain⟨fs,rfl,k⟩:=h3;obtain⟨J4,r⟩:=J3.pop;have r':=r;obtain⟨l,xs,rfl,sq,rs⟩:=r.tup_inv;rw[hK];have J:xs.length=fs.length:=rs.length;refine⟨l,xs,rfl,sq.sq,λW=>?_,λW p hp=>hQ _ _ n3 _ ⟨os,J4.newTup (Uq rs lo hi) hp⟩ k⟩;rw[J] at W;rw[zt3 W] at k;exact hQ _ H3 n3 _ ⟨os,J4.push r'⟩ k
noncomputable def Vb:D->Bool
 |.non=>true |.bl _=>true |.int _=>true |.str _=>true |_=>false
noncomputable def inD(x:D)(es:List D):Bool:=es.any λy=>eqD y x
theorem zr6{K:W.Frag}{G:QqE}{Z:QqA}{H:Hp}{d:D}{v:V}(h:Vb d=true)(r:Rep K G Z H d v):v=ofS d/\Va v=true:=by
 cases d<;>first |(have e:=r.toS rfl;subst e;exact⟨rfl,rfl⟩) |(simp[Vb] at h;done)
theorem xy6{x y:D}(hx:Vb x=true)(hy:Vb y=true):eqV (ofS y) (ofS x)=eqD y x:=by
 cases x<;>cases y<;>first |(simp[Vb] at hx;done) |(simp[Vb] at hy;done) |(simp[eqV,eqD,ofS];done) |(simp[eqV,eqD,ofS];rfl)
theorem zR7{K:W.Frag}{G:QqE}{Z:QqA}{H:Hp}{x:D}(hx:Vb x=true):∀{es:List D}{vs:List V},es.all Vb=true->Reps K G Z H es vs->inV (ofS x) vs=inD x es/\vs.all Va=true
 |[],vs,_,r=>by rw[r.nil_inv];exact⟨rfl,rfl⟩
 |d::es,vs,h,r=>by
  rw[yD,zE] at h;obtain⟨v,w,rfl,q,t⟩:=r.split;obtain⟨e,f⟩:=zr6 h.1 q;obtain⟨I,J⟩:=zR7 hx h.2 t;subst e
  constructor
  ·unfold inV inD at I ⊢;rw[any_cons,any_cons,I,xy6 hx h.1]
  ·rw[yD,f,J];rfl
noncomputable def xo4(neg:Bool):RD2:=λd1 d2 k=>Vb d1=true/\∃es,(d2=.tup es\/d2=.lst es)/\es.all Vb=true/\k (.bl (if neg then !inD d1 es else inD d1 es))
theorem zW8{neg:Bool}:qI A (rIn A.K neg) (xo4 neg):=by
 rintro os n rho sg H ds vs d1 d2 v1 v2 k Q I ⟨h1,es,hd,Y,q⟩ hQ;obtain⟨I1,W⟩:=I.pop;obtain⟨I2,r1⟩:=I1.pop;obtain⟨e1,f1⟩:=zr6 h1 r1;subst e1
 rcases hd with rfl |rfl
 ·obtain ⟨a, xs, e, sq, J⟩ := W.tup_inv;obtain⟨z1,z2⟩:=zR7 h1 Y J
  exact⟨a,xs,e,.inr sq.sq,f1,z2,by rw[z1];exact hQ _ H _ ⟨os,I2.push (Rep.ofS rfl)⟩ q⟩
 ·obtain ⟨a, xs, e, sq, J⟩ := W.lst_inv;obtain⟨z1,z2⟩:=zR7 h1 Y J
  exact⟨a,xs,e,.inl sq.sq,f1,z2,by rw[z1];exact hQ _ H _ ⟨os,I2.push (Rep.ofS rfl)⟩ q⟩
end
end L2
namespace L2
section
variable {A:AC}{X:Cx}{a b c e:Expr}{es:List Expr}{te ta tb tc:TD}{t1:TAD}{pos p:Pos}
theorem zJ4{J:QqL}{σ:St}{H:Hp}{s:Shared}(I:Inv X J σ H s):sysModules<s.heap.objs.size:=Nat.lt_trans x4 (I.mod.glob.keeps I.bk).lt
noncomputable def xm8:TE:=λ_ H Q=>∀p I,H p=none->Q (.ref p) (upd H p (.dK I))
theorem zI6{P:Program}{w:World}{H:Hp}(h:Heap)(I:sysModules<h.objs.size):ObjOk P w H (h.push { cls:=.type "dict",data:=.dict #[] }) h.objs.size (.dK []):=
 ⟨wn _,beq_eq_false_iff_ne.mpr (Ne.symm (zJ I)),[],.nil,Heap.DictOf.new h⟩
theorem zN8:PE X (.Dict [] [] pos) xm8:=λJ s σ H Q I h=>
 wpAny_Dict_empty ⟨.ref s.heap.objs.size,_,I.laid (a:=s.heap.objs.size) (o:=.dK []) (t':=s.toks) (λ_ _ q=>zg _ q) (zi _) (zI6 s.heap (zJ4 I)),rfl,h _ _ (I.hok.fresh (zi _))⟩
theorem zN7{x:Str}{i:Int}{j1 j2:Nat}{p1 p2:Pos}:PE X (.Dict [some (.Constant (.str x) j1 p1)] [.Constant (.int i) j2 p2] pos) xm8:=by
 intro J s σ H Q I q;have hn:=I.hok.fresh (zi s.heap.objs.size);have I1:=I.laid (a:=s.heap.objs.size) (o:=.dK []) (h':=s.heap.push { cls:=.type "dict",data:=.dict #[] }) (t':=s.toks) (λ_ _ q=>zg _ q) (zi _) (zI6 s.heap (zJ4 I));have e1:upd H s.heap.objs.size (.dK []) s.heap.objs.size=some (.dK []):=yK
 refine wpAny_Dict_walk (knd:=qi X.prog X.w) rfl rfl (by simp) (by simp) (pairTrees_cons_walk
  (thn (zG9 J _ σ _ (λv H' => v = .str x /\ H' = upd H s.heap.objs.size (.dK [])) I1 ⟨rfl, rfl⟩) λu s1 ⟨v1, H1, J1, r1, Y, ae⟩ =>
   thn (KB J s1 σ H1 (λv H'=>v=.int i/\H'=H1) J1 ⟨rfl,rfl⟩) λu2 s2 ⟨v2,H2,J2,r2,W,aa⟩=>pairTrees_nil_walk ?_))
 subst Y ae W aa;obtain⟨t,rfl⟩:=r1;obtain⟨t2,rfl⟩:=r2;obtain⟨z,hd,af,r0,dd⟩:=(show ObjOk X.prog X.w _ s2.heap s.heap.objs.size (.dK []) from J2.hok _ _ e1);cases r0
 refine⟨[(.inr x,.int i t2)],⟨Wp X.prog X.w x t,rfl,True.intro⟩,dd,λh' dd' hs=>⟨.ref s.heap.objs.size,_,J2.write (x:=s.heap.objs.size) (e:=s.heap.objs.size) (o:=.dK [(.inr x,.int i)]) (by rw[e1];exact True.intro) (.inl rfl) (λb q hb z=>(hs.2 b hb).trans z) ?_ ?_,rfl,?_⟩⟩
 ·obtain⟨q,_,_,hq,_⟩:=dd';exact⟨q,hq⟩
 ·exact⟨by simp[sizeLine],hd,_,.cons ⟨rfl,⟨t2,rfl⟩⟩ .nil,dd'⟩
 ·have e : upd (upd H s.heap.objs.size (.dK [])) s.heap.objs.size (.dK [(.inr x, .int i)]) = upd H s.heap.objs.size (.dK [(.inr x, .int i)]) := by
   funext b
   unfold upd
   split<;>rfl
  rw[e];exact q _ _ hn
theorem AmO.newDic{os n rho sg H ds vs}{p:Addr}{J}(I:AmO A os n rho sg H ds vs)(W:H p=none):AmO A os n rho sg (upd H p (.dK J)) (.dic::ds) (.ref p::vs):=by
 have g:=I.grow (o:=.dK J) W;refine g.push ?_;unfold Rep;exact⟨p,J,rfl,λz=>I.zH p z W,yK⟩
theorem zs2{e:Expr}(h:PE X e xm8):PD A X e (dC .dic):=by
 exists h.imp λsg H Q h=>by
   obtain⟨rho,n,P,ds,vs,⟨os,I⟩,q,Y⟩:=h;exact λp J W=>Y _ _ n _ ⟨os,I.newDic W⟩ q
end
noncomputable def kK(f:Expr->Option D):List Expr->Option (List D)
 |[]=>some []
 |e::es=>match f e,kK f es with
  |some d,some ds=>some (d::ds)
  |_,_=>none
noncomputable def zC5:Nat->Expr->Option D
 |0,_=>none
 | k + 1, e => match e with
  |.Constant .none _ _=>some .non
  |.Constant (.bool b) _ _=>some (.bl b)
  |.Constant (.int i) _ _=>some (.int i)
  |.Constant (.str x) _ _=>some (.str x)
  |.UnaryOp .USub (.Constant (.int i) _ _) _=>some (.int (-i))
  |.Tuple es _ _=>match kK (zC5 k) es with
   |some ds=>if ds.length<=30 then some (.tup ds) else none
   |none=>none
  |.List es _=>match kK (zC5 k) es with
   |some ds=>if ds.length<=30 then some (.lst ds) else none
   |none=>none
  |.Dict [] [] _=>some .dic
  |.Dict [some (.Constant (.str _) _ _)] [.Constant (.int _) _ _] _=>some .dic
  |_=>none
theorem zC4{k:Nat}{e:Expr}{d:D}(h:zC5 k e=some d):kB e=false:=by
 cases k with
 |zero=>cases(show(none:Option D)=some d from h)
 |succ k=>cases e<;>first |rfl |cases(show(none:Option D)=some d from h)
section
variable {A:AC}{X:Cx}
theorem PD.imp{e:Expr}{t t':TD}(h:PD A X e t)(hi:∀rho n P,t' rho n P->t rho n P):PD A X e t':=by
 exists PE.imp h λsg H Q q=>by
   obtain⟨rho,n,P,ds,vs,I,q,J⟩:=q;exact⟨rho,n,P,ds,vs,I,hi _ _ _ q,J⟩
noncomputable def xO4(ds:List D):TAD:=λ_ n P=>P ds n
theorem Qn{f:Expr->Option D}(I:∀e d,f e=some d->PD A X e (dC d)/\kB e=false):∀{es:List Expr}{ds:List D},kK f es=some ds->PAD A X es (xO4 ds)
 |[],ds,h=>by cases h;exact zf
 | e :: es, ds, h => by
  unfold kK at h
  cases h1:f e with
  |none=>rw[h1] at h;simp at h
  | some d =>
   cases h2:kK f es with
   |none=>rw[h1,h2] at h;simp at h
   |some ds'=>
    rw[h1,h2] at h;cases h;obtain⟨p,q⟩:=I e d h1;exact zb p (Qn I h2) q
theorem zH1:∀(k:Nat) {e:Expr}{d:D},zC5 k e=some d->PD A X e (dC d)
 |0,e,d,h=>by cases(show(none:Option D)=some d from h)
 | k + 1, e, d, h => by
  have W:∀e d,zC5 k e=some d->PD A X e (dC d)/\kB e=false:=λe d h=>⟨zH1 k h,zC4 h⟩
  have no:∀{R:Prop},(none:Option D)=some d->R:=λh=>nomatch h
  cases e with
  |Constant c _ _=>cases c<;>first |(cases h;first |exact yc |exact kU |exact zm |exact vC;done) |exact no h
  |UnaryOp op a _=>
   cases op<;>first |exact no h |skip
   cases a<;>first |exact no h |skip
   rename_i c _ _
   cases c<;>first |exact no h |(cases h;exact(KF zm).imp λrho n P q=>⟨_,rfl,q⟩)
  | Tuple es _ _ =>
   have h:(match kK (zC5 k) es with |some ds=>if ds.length<=30 then some (D.tup ds) else none |none=>none)=some d:=h
   cases h2:kK (zC5 k) es with
   |none=>rw[h2] at h;exact no h
   | some ds =>
    rw[h2] at h
    have h:(if ds.length<=30 then some (D.tup ds) else none)=some d:=h
    by_cases I:ds.length<=30
    ·rw [if_pos I] at h;cases h
     exact(wk (Qn W h2)).imp λrho n P q=>⟨zy I (xY x4),q⟩
    ·rw[if_neg I] at h;exact no h
  | List es _ =>
   have h:(match kK (zC5 k) es with |some ds=>if ds.length<=30 then some (D.lst ds) else none |none=>none)=some d:=h
   cases h2:kK (zC5 k) es with
   |none=>rw[h2] at h;exact no h
   | some ds =>
    rw[h2] at h
    have h:(if ds.length<=30 then some (D.lst ds) else none)=some d:=h
    by_cases I:ds.length<=30
    ·rw [if_pos I] at h;cases h
     exact(vp (Qn W h2)).imp λrho n P q=>⟨zy I (xY x4),q⟩
    ·rw[if_neg I] at h;exact no h
  | Dict J vs _ =>
   cases J with
   |nil=>
    cases vs with
    |nil=>cases h;exact zs2 zN8
    |cons _ _=>exact no h
   | cons q J =>
    cases q with
    |none=>exact no h
    | some e =>
     cases e<;>try exact no h
     rename_i c _ _
     cases c<;>try exact no h
     cases J<;>try exact no h
     cases vs with
     |nil=>exact no h
     |cons v vs=>
      cases v<;>try exact no h
      rename_i c _ _
      cases c<;>try exact no h
      cases vs<;>try exact no h
      cases h;exact zs2 zN7
  |_=>exact no h
end
section
variable {A:AC}{X:Cx}{pos p:Pos}
noncomputable def xO0(t:TF):TD:=λ_ n P=>t [] n P
@[simp] theorem xD6{t rho n P}:xO0 t rho n P=t [] n P:=rfl
end
mutual
noncomputable def okA:D->Bool
 |.non=>true
 |.bl _=>true
 |.int _=>true
 |.str _=>true
 |.dic=>true
 |.tup ds=>decide (ds.length<=1000)&&zH3 ds
 |.lst ds=>decide (ds.length<=1000)&&zH3 ds
 |_=>false
noncomputable def zH3:List D->Bool
 |[]=>true
 |d::ds=>okA d&&zH3 ds
end
theorem Uw:∀{ds:List D},zH3 ds=true↔∀d∈ds,okA d=true
 |[]=>by unfold zH3;simp
 |c::ds=>by
  unfold zH3;rw[zE,Uw];simp
theorem jk{ds:List D}:okA (.tup ds)=true↔(ds.length<=1000/\∀d∈ds,okA d=true):=by
 have e:okA (.tup ds)=(decide (ds.length<=1000)&&zH3 ds):=by rw[okA]
 rw[e,zE,yQ,Uw]
theorem zP2{ds:List D}:okA (.lst ds)=true↔(ds.length<=1000/\∀d∈ds,okA d=true):=by
 have e:okA (.lst ds)=(decide (ds.length<=1000)&&zH3 ds):=by rw[okA]
 rw[e,zE,yQ,Uw]
theorem vE{d:D}(h:okA d=true):kf d=true:=by cases d<;>first |rfl |(simp[okA] at h;done)
theorem yX{d:D}(h:okA d=true):we d=true:=by cases d<;>first |rfl |(simp[okA] at h;done)
theorem zt6{es:List D}{lo hi:Option Int}{d:D}(h:d∈Xq es lo hi):d∈es:=by
 unfold Xq at h;exact List.mem_of_mem_drop (List.mem_of_mem_take h)
theorem zt7(es:List D)(lo hi:Option Int):(Xq es lo hi).length<=es.length:=by
 unfold Xq;rw[xh,wj];lia
section
variable {A:AC}{X:Cx}{a b e:Expr}{ta tb:TD}{pos p:Pos}
noncomputable def zx8(i:Nat)(ta tb:TD):TSD:=λF rho n=>i<rho.length/\ta rho n λd1 J=>tb rho J λd2 I=>Qm d1 λes=>Qm d2 λfs=>es.length+fs.length<=sizeLine/\F.nx (rho.set i (some (.own (es++fs)))) I
@[simp] theorem zT4{i ta tb F rho n}:zx8 i ta tb F rho n=(i<rho.length/\ta rho n λd1 J=>tb rho J λd2 I=>Qm d1 λes=>Qm d2 λfs=>es.length+fs.length<=sizeLine/\F.nx (rho.set i (some (.own (es++fs)))) I):=rfl
noncomputable def xM4:List D->(D->Prop)->Prop:=λes k=>∃i:Int,es=[.int i]/\i.natAbs.log2<1920/\k (.str (toString i))
@[simp] theorem xC1{i:Int}{k}:xM4 [.int i] k↔(i.natAbs.log2<1920/\k (.str (toString i))):=⟨fun⟨_,e,h⟩=>by cases e;exact h,λh=>⟨_,rfl,h⟩⟩
end
end L2
namespace L2
open PySem PySem.Spec PyProof.Rows HT
section
variable {prog:Program}{w:World}{A:Around}{E:QqV}{s:Shared}
end
section
variable {X:Cx}{e:Expr}{te:TE}{pos p2:Pos}
end
section
variable {A:AC}{X:Cx}{a:Expr}{ta:TD}{pos p2 p3 p4:Pos}
noncomputable def xN5(ta:TD):TD:=λrho n P=>ta rho n λd I=>JK d λfs=>P (.tup fs.reverse) I
@[simp] theorem xD1{ta rho n P}:xN5 ta rho n P=ta rho n λd I=>JK d λfs=>P (.tup fs.reverse) I:=rfl
end
end L2
namespace L2
open PySem PySem.Spec PyProof.Rows PySem.W PySem.Calls PySem.NumText
section
variable {A:AC}{X:Cx}{e:Expr}{te:TD}{pos:Pos}
noncomputable def zG0(W:TBD)(tb:TSD):TSD:=λF rho n=>∃J:Nat->Rho->Nat->Prop,(∃m,J m rho n)/\∀m rho n,J m rho n->W rho n λb I=>if b=true then tb { F with nx:=λrho' n'=>∃m',m'<m/\J m' rho' n',ct:=λrho' n'=>∃m',m'<m/\J m' rho' n',bk:=F.nx } rho I else F.nx rho I
theorem zl0{c:Expr}{body:List Stmt}{tc:TBD}{tb:TSD}(hp:PassesOwn (model X.prog X.w) X.A X.env X.xe)(hc:PTD A X c tc)(hb:zg5 A X body tb):PSD A X (.While c body [] pos) (zG0 tc tb):=by
 exists (zz6 hp hc hb).imp λE sg H h=>by
   obtain⟨rho,n,F,ds,vs,I,⟨J,⟨m0,j0⟩,turn⟩,ok⟩:=h;refine⟨λm sg H=>∃rho n,Am A n rho sg H ds vs/\J m rho n,⟨m0,rho,n,I,j0⟩,?_⟩;rintro m ae H1 ⟨Y,n1,I1,j1⟩;refine⟨Y,n1,_,ds,vs,I1,turn m Y n1 j1,λb H2 n2 I2 k=>?_⟩
   cases b with
   |true=>
    rw[if_pos rfl] at k ⊢;refine⟨λsg' H'=>∃m',m'<m/\∃rho n,Am A n rho sg' H' ds vs/\J m' rho n,λsg' H' ⟨m',hm,q⟩=>⟨m',hm,q⟩,Y,n2,_,ds,vs,I2,k,?_⟩;exact⟨λW n6 aa H6 I6 ⟨m',hm,k6⟩=>⟨m',hm,W,n6,I6,k6⟩,λd n6 v W aa H6 I6 k6=>ok.rt _ _ _ _ _ _ I6 k6,λW n6 aa H6 I6 k6=>ok.nx _ _ _ _ I6 k6,λW n6 aa H6 I6 ⟨m',hm,k6⟩=>⟨m',hm,W,n6,I6,k6⟩⟩
   |false=>
    rw[if_neg zF] at k ⊢;exact ok.nx _ _ _ _ I2 k
@[simp] theorem xh6{I tb F rho n}:zG0 I tb F rho n=∃J:Nat->Rho->Nat->Prop,(∃m,J m rho n)/\∀m rho n,J m rho n->I rho n λb W=>if b=true then tb { F with nx:=λrho' n'=>∃m',m'<m/\J m' rho' n',ct:=λrho' n'=>∃m',m'<m/\J m' rho' n',bk:=F.nx } rho W else F.nx rho W:=rfl
noncomputable def xo1(f:Int->Int->Int)(i:Nat)(te:TD):TSD:=λF rho n=>i<rho.length/\∃a:Int,rho[i]?=some (some (.int a))/\te rho n λd I=>∃b:Int,d=.int b/\F.nx (rho.set i (some (.int (f a b)))) I
@[simp] theorem xq7{f i te F rho n}:xo1 f i te F rho n=(i<rho.length/\∃a:Int,rho[i]?=some (some (.int a))/\te rho n λd I=>∃b:Int,d=.int b/\F.nx (rho.set i (some (.int (f a b)))) I):=rfl
noncomputable def zX6:RD2:=λd1 d2 k=>∃x y,d1=.str x/\d2=.str y/\x.length+y.length<=sizeLine/\k (.str (x++y))
@[simp] theorem xj0{x y k}:zX6 (.str x) (.str y) k↔(x.length+y.length<=sizeLine/\k (.str (x++y))):=⟨fun⟨_,_,e,e',h⟩=>by cases e;cases e';exact h,λh=>⟨_,_,rfl,rfl,h⟩⟩
noncomputable def zX3:RD2:=λd1 d2 k=>∃x i,d1=.str x/\d2=.int i/\MulOk x i/\k (.str (Txt.mul x i))
@[simp] theorem xi4{x i k}:zX3 (.str x) (.int i) k↔(MulOk x i/\k (.str (Txt.mul x i))):=⟨fun⟨_,_,e,e',h⟩=>by cases e;cases e';exact h,λh=>⟨_,_,rfl,rfl,h⟩⟩
end
section
variable {A:AC}{X:Cx}
end
end L2
namespace L2
end L2
namespace L2
open PySem PySem.Spec PyProof.Rows PySem.W PySem.Calls
section
variable {X:Cx}{pos:Pos}
end
section
variable {A:AC}{X:Cx}{a b c:Expr}{pos:Pos}
noncomputable def xn6(i j k:Nat)(t:TAD):TSD:=λF rho n=>i<rho.length/\j<rho.length/\k<rho.length/\t rho n λes I=>∃d d' d2,es=[d,d',d2]/\F.nx (((rho.set k (some d2)).set j (some d')).set i (some d)) I
@[simp] theorem xq3{i j k t F rho n}:xn6 i j k t F rho n=(i<rho.length/\j<rho.length/\k<rho.length/\t rho n λes I=>∃d d' d2,es=[d,d',d2]/\F.nx (((rho.set k (some d2)).set j (some d')).set i (some d)) I):=rfl
end
end L2
namespace L2.Srt
open PySem PyProof.Rows
noncomputable def lab(ls:Array Nat)(i:Nat):Nat:=ls.getD i 0
structure Rule(prog:Program)(w:World)(A:Around)(s:Shared)(n:Nat)(item:Nat->Keyed)(kd:SortKind)(r:Nat->Nat->Bool):Prop where
 tot:∀a b,a<n->b<n->a≠b->r a b=!r b a
 tr:∀a b c,a<n->b<n->c<n->r a b=true->r b c=true->r a c=true
 cmp:∀a b,a<n->b<n->a≠b->∀(E:QqV) (Q:Bool->Shared->Prop),Q (r a b) s->wpAny (model prog w) A (keyLt' kd (item a).1 (item b).1) Q E s
structure Now(n:Nat)(item:Nat->Keyed)(kd:SortKind)(ls:Array Nat)(t:SortSt):Prop where
 arr:arrOf t=ls.map item
 kd:kindOf t=kd
 ok:failedOf t=none
 pend:pendingOf t=#[]
 perm:ls.Perm (Array.range n)
noncomputable def Up(r:Nat->Nat->Bool)(ls:Array Nat)(k:Nat):Prop:=∀i j,i<j->j<k->r (lab ls i) (lab ls j)=true
section
variable {n:Nat}{item:Nat->Keyed}{kd:SortKind}{r:Nat->Nat->Bool}{ls:Array Nat}{t:SortSt}
theorem vd{i:Nat}(h:i<ls.size):ls[i]?=some (lab ls i):=by
 unfold lab;rw[wZ,wC h];rfl
theorem kY{I:Array Nat}{k v:Nat}(h:I[k]?=some v):lab I k=v:=by
 unfold lab;rw[wZ,h];rfl
theorem Qy{src d:Nat}(I:src<ls.size)(hd:d<=src){k:Nat}(hk:k<ls.size):lab (bubble ls src d) k=if k=src-d then lab ls src else if src-d<k/\k<=src then lab ls (k-1) else lab ls k:=by
 refine kY ?_;rw[getElem?_bubble I d hd k]
 split
 ·exact vd I
 ·split
  ·exact vd x3
  ·exact vd hk
theorem zS7{src d:Nat}(I:src<ls.size)(hd:d<=src):bubble (ls.map item) src d=(bubble ls src d).map item:=by
 refine Array.ext_getElem? λk=>?_
 rw[getElem?_bubble (by simpa using I) d hd k]
 simp only[yS];rw[getElem?_bubble I d hd k]
 split
 ·rfl
 ·split<;>rfl
theorem jX{i j:Nat}(hj:j<=ls.size){k:Nat}(hk:k<ls.size):lab (mirror ls i j ((j-i)/2)) k=if i<=k/\k<j then lab ls (i+j-1-k) else lab ls k:=by
 refine kY ?_;rw[getElem?_mirror_all hj k]
 split
 ·exact vd x3
 ·exact vd hk
theorem zQ1{i j:Nat}(hj:j<=ls.size):mirror (ls.map item) i j ((j-i)/2)=(mirror ls i j ((j-i)/2)).map item:=by
 refine Array.ext_getElem? λk=>?_
 rw[getElem?_mirror_all (by simpa using hj) k]
 simp only[yS];rw[getElem?_mirror_all hj k]
 split<;>rfl
end
noncomputable def jY:Bool->Keyed->Array Keyed->Nat->Nat->Nat->StateT SortSt Sem (Option Nat):=sortPriv% PySem.Builtin.gallop
noncomputable def kg:Nat->StateT SortSt Sem Unit:=sortPriv% PySem.Builtin.setMinGallop
noncomputable def Uy:Array Keyed->Array Keyed->StateT SortSt Sem (Array Keyed):=sortPriv% PySem.Builtin.mergeLo
noncomputable def Uz:Array Keyed->Array Keyed->StateT SortSt Sem (Array Keyed):=sortPriv% PySem.Builtin.mergeHi
noncomputable abbrev QQ(st:SortSt)(g:Nat):SortSt:=SortSt.mk' (kindOf st) (arrOf st) (pendingOf st) g (failedOf st)
theorem vT(g:Nat):kg g=modify λs=>QQ s g:=rfl
noncomputable def jo(left:Bool)(key:Keyed)(arr:Array Keyed)(base i:Nat):StateT SortSt Sem (Option Bool):=do
 let x <- elem' arr (base+i)
 if left then lt' x key else return (<- lt' key x).map (!·)
theorem zf7(left:Bool)(key:Keyed)(arr:Array Keyed)(base n I:Nat):jY left key arr base n I=(do
 let mut lastofs:=0
 let mut ofs:=1
 let mut lo:=0
 let mut hi:=0
 let some right <- jo left key arr base I |return none
 if right then
  let J:=n-I
  for _ in [0:n] do
   if ofs>=J then break
   let some more <- jo left key arr base (I+ofs) |return none
   if !more then break
   lastofs:=ofs
   ofs:=2*ofs+1
  lo:=I+lastofs+1
  hi:=I+min ofs J
 else
  let J:=I+1
  for _ in [0:n] do
   if ofs>=J then break
   let some W <- jo left key arr base (I-ofs) |return none
   if W then break
   lastofs:=ofs
   ofs:=2*ofs+1
  lo:=I+1-min ofs J
  hi:=I-lastofs
 for _ in [0:n] do
  if lo>=hi then break
  let m:=lo+(hi-lo)/2
  let some more <- jo left key arr base m |return none
  if more then lo:=m+1 else hi:=m
 return some hi):=rfl
theorem Ql(i:Nat):mergeAt' i=(do
 let s <- get
 let (some (sa,Y,J),some (sb,W,_)):=((pendingOf s)[i]?,(pendingOf s)[i+1]?) |unsupported "internal:list.sort.pending"
 set (setPending s (((pendingOf s).setIfInBounds i (sa,Y+W,J)).eraseIdxIfInBounds (i+1)))
 let some k <- jY false (<- elem' (arrOf s) sb) (arrOf s) sa Y 0 |return false
 let (sa,Y):=(sa+k,Y-k)
 if Y == 0 then return true
 let some W <- jY true (<- elem' (arrOf s) (sa+Y-1)) (arrOf s) sb W (W-1) |return false
 if W == 0 then return true
 let x:=(arrOf s).extract sa sb
 let y:=(arrOf s).extract sb (sb+W)
 let I <- if Y<=W then Uy x y else Uz x y
 modify λs=>setArr s (I.toList.zipIdx.foldl (λa (p,j)=>a.setIfInBounds (sa+j) p) (arrOf s))
 return (failedOf (<- get)).isNone):=rfl
noncomputable def xh3(left:Bool)(key:Keyed)(arr:Array Keyed)(base n I J:Nat):StateT SortSt Sem (Option Nat):=do
 let mut lo:=I
 let mut hi:=J
 for _ in [0:n] do
  if lo>=hi then break
  let m:=lo+(hi-lo)/2
  let some more <- jo left key arr base m |return none
  if more then lo:=m+1 else hi:=m
 return some hi
noncomputable def JL(lo J I:Nat):StateT SortSt Sem (Option Nat):=do
 let mut n:=J
 reverseSlice' lo (lo+n)
 for _ in [n:I] do
  let some smaller <- ltAt' (lo+n) (lo+n-1) |return none
  if smaller then break
  n:=n+1
 return some n
noncomputable def UJ(lo W J:Nat):StateT SortSt Sem (Option Nat):=do
 let mut n:=W
 rule "list.sort.descending-run"
 n:=n+1
 let mut neq:=0
 for _ in [n:J] do
  let some smaller <- ltAt' (lo+n) (lo+n-1) |return none
  if smaller then
   if neq > 0 then reverseSlice' (lo+n-(neq+1)) (lo+n)
   neq:=0
  else
   let some I <- ltAt' (lo+n-1) (lo+n) |return none
   if I then break
   neq:=neq+1
  n:=n+1
 if neq > 0 then reverseSlice' (lo+n-(neq+1)) (lo+n)
 reverseSlice' lo (lo+n)
 for _ in [n:J] do
  let some smaller <- ltAt' (lo+n) (lo+n-1) |return none
  if smaller then break
  n:=n+1
 return some n
section
variable {prog:Program}{w:World}{A:Around}{E:QqV}{s:Shared}{t:SortSt}
section
variable {left:Bool}{key:Keyed}{arr:Array Keyed}{base m hint:Nat}{by':Nat->Bool}
theorem zj7{lo hi:Nat}(hm:hi<=m)(aa:lo<=hi)
  (ae:∀i,i<m->∀Q:Option Bool->SortSt->Prop,Q (some (by' i)) t->wpS (model prog w) A E s (jo left key arr base i) Q t)
  (J:∀i j,i<=j->j<m->by' j=true->by' i=true) (no:∀i j,i<=j->j<m->by' i=false->by' j=false)
  (h1:∀i,i<lo->by' i=true) (h2:∀i,hi<=i->i<m->by' i=false) {Q:Option Nat->SortSt->Prop}
  (q:∀k,k<=m->(∀i,i<k->by' i=true)->(∀i,k<=i->i<m->by' i=false)->Q (some k) t) :
  wpS (model prog w) A E s (xh3 left key arr base m lo hi) Q t:=by
 unfold xh3
 refine zo (yY (wJ (λx c t'=>t'=t/\∃l h,c=(none,l,h)/\l<=h/\h<=m/\h-l<=m-x/\(∀i,i<l->by' i=true)/\∀i,h<=i->i<m->by' i=false)
  (Q:=λc t'=>t'=t/\∃l,c=(none,l,l)/\l<=m/\(∀i,i<l->by' i=true)/\∀i,l<=i->i<m->by' i=false) ?_ ?_ ⟨rfl,lo,hi,rfl,aa,hm,x3,h1,h2⟩) ?_)
 ·rintro x c t' _ hx ⟨rfl, l, h, rfl, g1, I, g3, Y, W⟩;dsimp only
  split
  ·rename_i hd
   obtain rfl:l=h:=x3
   exact zR ⟨rfl,l,rfl,I,Y,W⟩
  ·rename_i hd
   refine zo (ae _ x3 _ ?_)
   cases z:by' (l+(h-l)/2)
   ·exact zR ⟨rfl,l,_,rfl,x3,x3,x3,Y,λi i1 i2=>no _ i i1 i2 z⟩
   ·exact zR ⟨rfl,_,h,rfl,x3,x3,x3,λi i1=>J i _ x3 x3 z,W⟩
 ·rintro c t' ⟨rfl, l, h, rfl, g1, I, g3, Y, W⟩
  obtain rfl:l=h:=x3
  exact⟨rfl,l,rfl,I,Y,W⟩
 ·rintro c t' ⟨rfl,l,rfl,g1,I,g3⟩;exact zR (q l g1 I g3)
theorem gal(h:hint<m)
  (Y:∀i,i<m->∀Q:Option Bool->SortSt->Prop,Q (some (by' i)) t->wpS (model prog w) A E s (jo left key arr base i) Q t)
  (J:∀i j,i<=j->j<m->by' j=true->by' i=true) {Q:Option Nat->SortSt->Prop}
  (q:∀k,k<=m->(∀i,i<k->by' i=true)->(∀i,k<=i->i<m->by' i=false)->Q (some k) t) :
  wpS (model prog w) A E s (jY left key arr base m hint) Q t:=by
 rw[zf7];refine zo (Y hint h _ ?_)
 have no:∀i j,i<=j->j<m->by' i=false->by' j=false:=λi j h1 h2 h3=>by
  cases z:by' j with
  |false=>rfl
  |true=>rw[J i j h1 h2 z] at h3;cases h3
 cases z:by' hint
 ·simp only [xM, if_false]
  refine zo (yY (wJ (λx c t'=>t'=t/\∃I ofs,c=(none,I,ofs)/\I<ofs/\x+1<=ofs/\I<=hint/\by' (hint-I)=false)
   (Q:=λc t'=>t'=t/\∃I ofs,c=(none,I,ofs)/\I<ofs/\I<=hint/\by' (hint-I)=false/\(ofs<=hint->by' (hint-ofs)=true)) ?_ ?_ ⟨rfl,0,1,rfl,x3,x3,x3,z⟩) ?_)
  ·rintro x c t' _ hx ⟨rfl, I, ofs, rfl, g1, g2, g3, W⟩;dsimp only
   split
   ·exact zR ⟨rfl,I,ofs,rfl,g1,g3,W,λh=>by lia⟩
   ·rename_i hd
    refine zo (Y _ x3 _ ?_)
    cases z2:by' (hint-ofs)
    ·exact zR ⟨rfl,ofs,_,rfl,x3,x3,x3,z2⟩
    ·exact zR ⟨rfl,I,ofs,rfl,g1,g3,W,λ_=>z2⟩
  ·rintro c t' ⟨rfl, I, ofs, rfl, g1, g2, g3, W⟩
   exact⟨rfl,I,ofs,rfl,g1,g3,W,λh=>by lia⟩
  ·rintro c t' ⟨rfl, I, ofs, rfl, g1, g3, W, g5⟩;show wpS (model prog w) A E s (xh3 left key arr base m (hint+1-min ofs (hint+1)) (hint-I)) Q t'
   refine zj7 x3 x3 Y J no (λi hi=>?_) (λi i1 i2=>no _ i i1 i2 W) q
   exact J i (hint-ofs) x3 x3 (g5 x3)
 ·simp only [if_true]
  refine zo (yY (wJ (λx c t'=>t'=t/\∃I ofs,c=(none,I,ofs)/\I<ofs/\x+1<=ofs/\hint+I<m/\by' (hint+I)=true)
   (Q:=λc t'=>t'=t/\∃I ofs,c=(none,I,ofs)/\I<ofs/\hint+I<m/\by' (hint+I)=true/\(hint+ofs<m->by' (hint+ofs)=false)) ?_ ?_ ⟨rfl,0,1,rfl,x3,x3,x3,z⟩) ?_)
  ·rintro x c t' _ hx ⟨rfl, I, ofs, rfl, g1, g2, g3, W⟩;dsimp only
   split
   ·exact zR ⟨rfl,I,ofs,rfl,g1,g3,W,λh=>by lia⟩
   ·rename_i hd
    refine zo (Y _ x3 _ ?_)
    cases z2:by' (hint+ofs)
    ·exact zR ⟨rfl,I,ofs,rfl,g1,g3,W,λ_=>z2⟩
    ·exact zR ⟨rfl,ofs,_,rfl,x3,x3,x3,z2⟩
  ·rintro c t' ⟨rfl, I, ofs, rfl, g1, g2, g3, W⟩
   exact⟨rfl,I,ofs,rfl,g1,g3,W,λh=>by lia⟩
  ·rintro c t' ⟨rfl, I, ofs, rfl, g1, g3, W, g5⟩;show wpS (model prog w) A E s (xh3 left key arr base m (hint+I+1) (hint+min ofs (m-hint))) Q t'
   refine zj7 x3 x3 Y J no (λi hi=>J i _ x3 x3 W) (λi i1 i2=>?_) q
   exact no (hint+ofs) i x3 i2 (g5 x3)
end
end
structure WRule(prog:Program)(w:World)(A:Around)(s:Shared)(n:Nat)(item:Nat->Keyed)(kd:SortKind)(r:Nat->Nat->Bool):Prop where
 asy:∀a b,a<n->b<n->r a b=true->r b a=false
 tr:∀a b c,a<n->b<n->c<n->r b a=false->r c b=false->r c a=false
 cmp:∀a b,a<n->b<n->a≠b->∀(E:QqV) (Q:Bool->Shared->Prop),Q (r a b) s->wpAny (model prog w) A (keyLt' kd (item a).1 (item b).1) Q E s
structure MI(le:Nat->Nat->Prop)(all O la lb:List Nat):Prop where
 perm:(O++(la++lb)).Perm all
 up:O.Pairwise le
 a:∀o∈O,∀x∈la,le o x
 b:∀o∈O,∀y∈lb,le o y
 sa:la.Pairwise le
 sb:lb.Pairwise le
variable {le:Nat->Nat->Prop}{all O la lb u:List Nat}
theorem MI.takeA(h:MI le all O (u++la) lb)(W:∀x∈u,∀y∈lb,le x y):MI le all (O++u) la lb:=by
 have J:=List.pairwise_append.mp h.sa
 refine⟨by simpa [wq] using h.perm,List.pairwise_append.mpr ⟨h.up,J.1,λo I x hx=>h.a o I x (by simp[hx])⟩,λo I x hx=>?_,λo I y hy=>?_,J.2.1,h.sb⟩
 ·rcases zU.mp I with I | I
  ·exact h.a o I x (by simp[hx])
  ·exact J.2.2 o I x hx
 ·rcases zU.mp I with I | I
  ·exact h.b o I y hy
  ·exact W o I y hy
theorem MI.swap(h:MI le all O la lb):MI le all O lb la:=⟨((List.perm_append_comm).append_left O).trans h.perm,h.up,h.b,h.a,h.sb,h.sa⟩
theorem MI.takeB(h:MI le all O la (u++lb))(I:∀x∈u,∀y∈la,le x y):MI le all (O++u) la lb:=(h.swap.takeA I).swap
theorem MI.endA(h:MI le all O la lb)(I:∀x∈la,∀y∈lb,le x y):(O++la++lb).Perm all/\(O++la++lb).Pairwise le:=by
 have h1:MI le all (O++la) [] lb:=MI.takeA (by rw[yV];exact h) I
 exact⟨by simpa using h1.perm,List.pairwise_append.mpr ⟨h1.up,h1.sb,h1.b⟩⟩
theorem MI.endB(h:MI le all O la lb)(I:∀x∈lb,∀y∈la,le x y):(O++lb++la).Perm all/\(O++lb++la).Pairwise le:=h.swap.endA I
section
variable {prog:Program}{w:World}{A:Around}{E:QqV}{s:Shared}{t:SortSt}{n:Nat}{item:Nat->Keyed}{kd:SortKind}{r:Nat->Nat->Bool}
theorem Jb(R:WRule prog w A s n item kd r)(hk:kindOf t=kd){a b:Nat}(ha:a<n)(I:b<n)(h:a≠b){Q:Option Bool->SortSt->Prop}(q:Q (some (r a b)) t):wpS (model prog w) A E s (lt' (item a) (item b)) Q t:=by
 rw[lt'_eq];refine zo (wpS_get (zo (wpS_lift (wpAny_attempt ?_))));rw[hk];exact R.cmp a b ha I h _ _ ⟨rfl,zR q⟩
theorem yt{I:Array Nat}{i:Nat}(h:i<I.size){Q:Keyed->SortSt->Prop}(q:Q (item (lab I i)) t):wpS (model prog w) A E s (elem' (I.map item) i) Q t:=by
 rw[elem'_eq,yS,vd h];exact zR q
theorem byd(R:WRule prog w A s n item kd r)(hk:kindOf t=kd){I:Array Nat}{left:Bool}{c base i:Nat}(Y:c<n)(hi:base+i<I.size)(W:lab I (base+i)<n)(J:c≠lab I (base+i)){Q:Option Bool->SortSt->Prop}
  (q:Q (some (if left then r (lab I (base+i)) c else !r c (lab I (base+i)))) t):wpS (model prog w) A E s (jo left (item c) (I.map item) base i) Q t:=by
 unfold jo;refine zo (yt hi ?_);cases left
 ·simp only[xM,if_false] at q ⊢;exact zo (Jb R hk Y W J (zR q))
 ·simp only[if_true] at q ⊢;exact Jb R hk W Y (λe=>J e.symm) q
structure Same(t t':SortSt):Prop where
 arr:arrOf t'=arrOf t
 kd:kindOf t'=kindOf t
 pend:pendingOf t'=pendingOf t
 ok:failedOf t'=failedOf t
theorem Same.rfl':Same t t:=⟨rfl,rfl,rfl,rfl⟩
theorem Same.gal{t':SortSt}(h:Same t t')(g:Nat):Same t (QQ t' g):=⟨h.arr,h.kd,h.pend,h.ok⟩
structure Two(n:Nat)(r:Nat->Nat->Bool)(la lb:Array Nat):Prop where
 an:∀x∈la.toList,x<n
 bn:∀x∈lb.toList,x<n
 un:∀x∈la.toList,∀y∈lb.toList,x≠y
 au:la.toList.Pairwise λx y=>r y x=false
 bu:lb.toList.Pairwise λx y=>r y x=false
structure ML(item:Nat->Keyed)(r:Nat->Nat->Bool)(la lb:Array Nat)(out:Array Keyed)(ia ib:Nat):Prop where
 o:∃O:Array Nat,out=O.map item/\MI (λx y=>r y x=false) (la.toList++lb.toList) O.toList (la.toList.drop ia) (lb.toList.drop ib)
noncomputable def Good(item:Nat->Keyed)(r:Nat->Nat->Bool)(la lb:Array Nat)(I:Array Keyed):Prop:=∃M:Array Nat,I=M.map item/\M.toList.Perm (la.toList++lb.toList)/\M.toList.Pairwise λx y=>r y x=false
theorem jm{I:Array Nat}{k x:Nat}:x∈I.toList.drop k↔∃i,k<=i/\i<I.size/\x=lab I i:=by
 rw[ym]
 constructor
 ·rintro ⟨i, h⟩;rw[wf,zP] at h
  have hi:k+i<I.size:=by
   rcases Nat.lt_or_ge (k+i) I.size with g |g
   ·exact g
   ·rw[wA g] at h;cases h
  rw[vd hi] at h
  exact⟨k+i,x3,hi,(zB h).symm⟩
 ·rintro ⟨i, h1, h2, rfl⟩
  exact⟨i-k,by rw[wf,zP,show k+(i-k)=i by lia,vd h2]⟩
theorem qD{I:Array Nat}{i:Nat}(h:i<I.size):lab I i∈I.toList:=by
 have:=jm.mpr ⟨i,wn _,h,rfl⟩
 rwa [vf] at this
theorem YY{I:Array Nat}(h:I.toList.Pairwise λx y=>r y x=false){i j:Nat}(J:i<j)(hj:j<I.size):r (lab I j) (lab I i)=false:=by
 have hi':i<I.toList.length:=by rw[zk];lia
 have hj':j<I.toList.length:=by rw[zk];exact hj
 have:=wB.mp h i j hi' hj' J
 have Y:=vd (ls:=I) (i:=i) x3
 have W:=vd (ls:=I) hj;rw[<- zP,ze hi'] at Y;rw[<- zP,ze hj'] at W;rw[<- zB Y,<- zB W];exact this
theorem VE{I:Array Nat}{i k:Nat}(h:i+k<=I.size):I.toList.drop i=(I.extract i (i+k)).toList++I.toList.drop (i+k):=by
 rw[ww,xS,show i+k-i=k by lia,<- drop_drop,wl]
theorem zb3{I:Array Nat}{i:Nat}(h:i<I.size):I.toList.drop i=[lab I i]++I.toList.drop (i+1):=by
 have hi':i<I.toList.length:=by rw[zk];exact h
 have J:=vd (ls:=I) h;rw[<- zP,ze hi'] at J;rw[yr hi',zB J];rfl
theorem zo9{I:Array Nat}{i k x:Nat}(h:i+k<=I.size)(hx:x∈(I.extract i (i+k)).toList):∃j,j<k/\x=lab I (i+j):=by
 rw[ww,xS,show i+k-i=k by lia,ym] at hx
 obtain⟨j,hj⟩:=hx;rw[yR] at hj
 split at hj
 ·rename_i g
  rw[wf,zP,vd x3] at hj
  exact⟨j,g,(zB hj).symm⟩
 ·cases hj
section
variable {la lb:Array Nat}{out:Array Keyed}{ia ib:Nat}
theorem Two.al(T:Two n r la lb){i:Nat}(h:i<la.size):lab la i<n:=T.an _ (qD h)
theorem Two.bl(T:Two n r la lb){i:Nat}(h:i<lb.size):lab lb i<n:=T.bn _ (qD h)
theorem Two.ne(T:Two n r la lb){i j:Nat}(h:i<la.size)(g:j<lb.size):lab la i≠lab lb j:=T.un _ (qD h) _ (qD g)
theorem Two.symm(T:Two n r la lb):Two n r lb la:=⟨T.bn,T.an,λx hx y hy e=>T.un y hy x hx e.symm,T.bu,T.au⟩
theorem Two.hd(R:WRule prog w A s n item kd r)(T:Two n r la lb){c:Nat}(I:c<n)(h:ia<la.size)(g:r (lab la ia) c=false):∀x∈la.toList.drop ia,r x c=false:=λx hx=>by
 obtain⟨i,h1,h2,rfl⟩:=jm.mp hx
 by_cases e:i=ia
 ·rw[e];exact g
 ·exact R.tr _ _ _ I (T.al h) (T.al h2) g (YY T.au x3 h2)
theorem ML.pushA(M:ML item r la lb out ia ib)(h:ia<la.size)(g:∀y∈lb.toList.drop ib,r y (lab la ia)=false):ML item r la lb (out.push (item (lab la ia))) (ia+1) ib:=by
 obtain⟨O,rfl,m⟩:=M.o;rw[zb3 h] at m
 refine⟨O.push (lab la ia),by rw[Array.map_push],?_⟩
 rw[va]
 exact m.takeA λx hx y hy=>by rw[xi.mp hx];exact g y hy
theorem ML.pushB(M:ML item r la lb out ia ib)(h:ib<lb.size)(g:∀y∈la.toList.drop ia,r y (lab lb ib)=false):ML item r la lb (out.push (item (lab lb ib))) ia (ib+1):=by
 obtain⟨O,rfl,m⟩:=M.o;rw[zb3 h] at m
 refine⟨O.push (lab lb ib),by rw[Array.map_push],?_⟩
 rw[va]
 exact m.takeB λx hx y hy=>by rw[xi.mp hx];exact g y hy
theorem ML.addA(M:ML item r la lb out ia ib){k:Nat}(h:ia+k<=la.size)(g:∀j,j<k->∀y∈lb.toList.drop ib,r y (lab la (ia+j))=false):ML item r la lb (out++(la.map item).extract ia (ia+k)) (ia+k) ib:=by
 obtain⟨O,rfl,m⟩:=M.o;rw[VE h] at m
 refine⟨O++la.extract ia (ia+k),by rw[xX,xB],?_⟩
 rw[xj]
 exact m.takeA λx hx y hy=>by obtain⟨j,hj,rfl⟩:=zo9 h hx;exact g j hj y hy
theorem ML.addB(M:ML item r la lb out ia ib){k:Nat}(h:ib+k<=lb.size)(g:∀j,j<k->∀y∈la.toList.drop ia,r y (lab lb (ib+j))=false):ML item r la lb (out++(lb.map item).extract ib (ib+k)) ia (ib+k):=by
 obtain⟨O,rfl,m⟩:=M.o;rw[VE h] at m
 refine⟨O++lb.extract ib (ib+k),by rw[xX,xB],?_⟩
 rw[xj]
 exact m.takeB λx hx y hy=>by obtain⟨j,hj,rfl⟩:=zo9 h hx;exact g j hj y hy
theorem jZ{I:Array Nat}{i:Nat}:(I.extract i I.size).toList=I.toList.drop i:=by
 rw[ww,xS]
 exact wK (by rw[wj,zk];exact zi _)
theorem ML.done(M:ML item r la lb out ia ib)(g:∀x∈la.toList.drop ia,∀y∈lb.toList.drop ib,r y x=false):Good item r la lb (out++(la.map item).extract ia la.size++(lb.map item).extract ib lb.size):=by
 obtain⟨O,rfl,m⟩:=M.o;obtain⟨J,I⟩:=m.endA g
 refine⟨O++la.extract ia la.size++lb.extract ib lb.size,by rw[xX,xX,xB,xB],?_,?_⟩
 ·rw[xj,xj,jZ,jZ];exact J
 ·rw[xj,xj,jZ,jZ];exact I
theorem ML.last(M:ML item r la lb out ia ib)(g:∀x∈lb.toList.drop ib,∀y∈la.toList.drop ia,r y x=false):Good item r la lb (out++(lb.map item).extract ib lb.size++(la.map item).extract ia la.size):=by
 obtain⟨O,rfl,m⟩:=M.o;obtain⟨J,I⟩:=m.endB g
 refine⟨O++lb.extract ib lb.size++la.extract ia la.size,by rw[xX,xX,xB,xB],?_,?_⟩
 ·rw[xj,xj,jZ,jZ];exact J
 ·rw[xj,xj,jZ,jZ];exact I
theorem ML.doneB(M:ML item r la lb out ia ib)(h:lb.size<=ib):Good item r la lb (out++(la.map item).extract ia la.size++(lb.map item).extract ib lb.size):=
 M.done λx _ y hy=>by obtain⟨i,h1,h2,_⟩:=jm.mp hy;lia
theorem ML.doneA(M:ML item r la lb out ia ib)(h:la.size<=ia):Good item r la lb (out++(la.map item).extract ia la.size++(lb.map item).extract ib lb.size):=
 M.done λx hx y _=>by obtain⟨i,h1,h2,_⟩:=jm.mp hx;lia
theorem ML.lastA(R:WRule prog w A s n item kd r)(T:Two n r la lb)(h2:∀y∈lb.toList,r y (lab la (la.size-1))=true)(M:ML item r la lb out ia ib)(h:ia+1=la.size):Good item r la lb (out++(lb.map item).extract ib lb.size++(la.map item).extract ia la.size):=
 M.last λx hx y hy=>by
  obtain⟨i,i1,i2,rfl⟩:=jm.mp hx;obtain⟨j,j1,j2,rfl⟩:=jm.mp hy
  obtain rfl:j=la.size-1:=x3
  exact R.asy _ _ (T.bl i2) (T.al j2) (h2 _ (qD i2))
end
end
end L2.Srt
set_option maxHeartbeats 1000000
namespace L2.Srt
open PySem PyProof.Rows
noncomputable abbrev Sn(γ:Type):=Option (Array Keyed) × γ
noncomputable abbrev SM:=StateT SortSt Sem
noncomputable abbrev Fn(γ:Type):=ForInStep (Sn γ)
noncomputable abbrev Tn:=Array Keyed × Nat × Nat × Nat × Nat
noncomputable abbrev Un:=Array Keyed × Nat × Nat × Nat × Nat × Nat
noncomputable abbrev Vn:=Array Keyed × Nat × Nat × Nat
noncomputable def Xp{γ:Type}(o:Array Keyed)(x:γ):SM (Fn γ):=(pure (ForInStep.done (some o,x)):SM _)
noncomputable def zS8{γ:Type}(x:γ):SM (Fn γ):=(pure (ForInStep.done (none,x)):SM _)
noncomputable def zB9{γ:Type}(x:γ):SM (Fn γ):=(pure (ForInStep.yield (none,x)):SM _)
section
variable (a b:Array Keyed)
noncomputable def eA(o:Array Keyed)(i j:Nat):Array Keyed:=o++a.extract i++b.extract j
noncomputable def eB(o:Array Keyed)(i j:Nat):Array Keyed:=o++b.extract j++a.extract i
noncomputable def l1a(g c d:Nat)(o:Array Keyed)(i j:Nat):SM (Fn Tn):=if (i+1 == a.size)=true then Xp (eB a b o i j) (o,i,j,c,d) else if c>=g then zS8 (o,i,j,c,d) else zB9 (o,i,j,c,d)
noncomputable def l1b(g c d:Nat)(o:Array Keyed)(i j:Nat):SM (Fn Tn):=if (j == b.size)=true then Xp (eA a b o i j) (o,i,j,c,d) else if d>=g then zS8 (o,i,j,c,d) else zB9 (o,i,j,c,d)
noncomputable def l1(g c d:Nat)(o:Array Keyed)(i j:Nat):SM (Fn Tn):=elem' b j >>= λy=>elem' a i >>= λx=>lt' y x >>= λw=>match w with
 |some w=>if w=true then elem' b j >>= λz=>l1b a b g 0 (d+1) (o.push z) i (j+1) else elem' a i >>= λz=>l1a a b g (c+1) 0 (o.push z) (i+1) j
 |_=>Xp (eA a b o i j) (o,i,j,c,d)
noncomputable def l4(g c d:Nat)(o:Array Keyed)(i j:Nat):SM (Fn Un):=elem' a i >>= λx=>if (i+1+1 == a.size)=true then Xp (eB a b (o.push x) (i+1) j) (o.push x,i+1,j,g,c,d)
 else if (decide (c<7)&&decide (d<7))=true then zS8 (o.push x,i+1,j,g,c,d) else zB9 (o.push x,i+1,j,g,c,d)
noncomputable def l3b(g c d k:Nat)(o:Array Keyed)(i j:Nat):SM (Fn Un):=if k > 0 then
  if (j+k == b.size)=true then Xp (eA a b (o++b.extract j (j+k)) i (j+k)) (o++b.extract j (j+k),i,j+k,g,c,k) else l4 a b g c k (o++b.extract j (j+k)) i (j+k)
 else l4 a b g c k o i j
noncomputable def l3(g c d:Nat)(o:Array Keyed)(i j:Nat):SM (Fn Un):=elem' b j >>= λy=>if (j+1 == b.size)=true then Xp (eA a b (o.push y) i (j+1)) (o.push y,i,j+1,g,c,d)
 else elem' a i >>= λx=>jY true x b (j+1) (b.size-(j+1)) 0 >>= λk=>match k with
  |some k=>l3b a b g c d k (o.push y) i (j+1)
  |_=>Xp (eA a b (o.push y) i (j+1)) (o.push y,i,j+1,g,c,d)
noncomputable def l2b(g d k:Nat)(o:Array Keyed)(i j:Nat):SM (Fn Un):=if k > 0 then
  if (i+k+1 == a.size)=true then Xp (eB a b (o++a.extract i (i+k)) (i+k) j) (o++a.extract i (i+k),i+k,j,g,k,d)
  else if (i+k == a.size)=true then Xp (eA a b (o++a.extract i (i+k)) (i+k) j) (o++a.extract i (i+k),i+k,j,g,k,d)
  else l3 a b g k d (o++a.extract i (i+k)) (i+k) j
 else l3 a b g k d o i j
noncomputable def l2(c d:Nat)(o:Array Keyed)(i j g:Nat):SM (Fn Un):=kg g >>= λ_=>elem' b j >>= λy=>jY false y a i (a.size-i) 0 >>= λk=>match k with
 |some k=>l2b a b g d k o i j
 |_=>Xp (eA a b o i j) (o,i,j,g,c,d)
noncomputable def l2u(u:Un):SM (Fn Un):=if u.2.2.2.1 > 1 then l2 a b u.2.2.2.2.1 u.2.2.2.2.2 u.1 u.2.1 u.2.2.1 (u.2.2.2.1-1) else l2 a b u.2.2.2.2.1 u.2.2.2.2.2 u.1 u.2.1 u.2.2.1 u.2.2.2.1
noncomputable def l5(s:Sn Un):SM (Fn Vn):=match s.1 with
 |some r=>Xp r (s.2.1,s.2.2.1,s.2.2.2.1,s.2.2.2.2.1)
 |none=>kg (s.2.2.2.2.1+1) >>= λ_=>zB9 (s.2.1,s.2.2.1,s.2.2.2.1,s.2.2.2.2.1+1)
noncomputable def l6(g:Nat)(s:Sn Tn):SM (Fn Vn):=match s.1 with
 |some r=>Xp r (s.2.1,s.2.2.1,s.2.2.2.1,g)
 |none=>(rule "list.sort.gallop" : SM Unit) >>= λ_=>forIn [0:a.size+b.size] ((none,s.2.1,s.2.2.1,s.2.2.2.1,g+1,s.2.2.2.2.1,s.2.2.2.2.2):Sn Un) (λ_ u=>l2u a b u.2) >>= λu=>l5 u
noncomputable def l1t(g:Nat)(s:Tn):SM (Fn Tn):=l1 a b g s.2.2.2.1 s.2.2.2.2 s.1 s.2.1 s.2.2.1
noncomputable def l7(v:Vn):SM (Fn Vn):=forIn [0:a.size+b.size] ((none,v.1,v.2.1,v.2.2.1,0,0):Sn Tn) (λ_ s=>l1t a b v.2.2.2 s.2) >>= λs=>l6 a b v.2.2.2 s
noncomputable def zU0{γ:Type}(v:Sn γ):SM (Array Keyed):=match v.1 with
 |some r=>pure r
 |none=>unsupported "internal:list.sort.merge-bound"
noncomputable def l8:SM (Array Keyed):=(rule "list.sort.merge-lo" : SM Unit) >>= λ_=>elem' b 0 >>= λy=>if (1 == b.size)=true then pure (eA a b #[y] 0 1)
 else if (0+1 == a.size)=true then pure (eB a b #[y] 0 1)
 else get >>= λst=>forIn [0:a.size+b.size] ((none,#[y],0,1,gallopOf st):Sn Vn) (λ_ v=>l7 a b v.2) >>= λv=>zU0 v
theorem KY:Uy a b=l8 a b:=by
 show bind _ _=bind _ _
 congr 1;funext x;dsimp only
 congr 1;funext y
 by_cases e:(1 == b.size)=true
 ·rw[if_pos e,if_pos e];rfl
 rw[if_neg e,if_neg e]
 by_cases I:(0+1 == a.size)=true
 ·rw[if_pos I,if_pos I];rfl
 rw[if_neg I,if_neg I]
 congr 1;funext st
 congr 1
 ·congr 1
  funext x v
  unfold l7
  congr 1
  funext s
  unfold l6;cases s.1
  ·dsimp only
   congr 1;funext x
   congr 1
   funext u
   unfold l5
   cases u.1<;>rfl
  ·rfl
 ·funext v
  unfold zU0
  cases v.1<;>rfl
end
section
variable {prog:Program}{w:World}{A:Around}{E:QqV}{s:Shared}{t u:SortSt}{n:Nat}{item:Nat->Keyed}{kd:SortKind}{r:Nat->Nat->Bool}{la lb:Array Nat}{N c d g i j k:Nat}{o:Array Keyed}
theorem wN{α:Type}{c:Prop}[Decidable c]{J I:StateT SortSt Sem α}{Q:α->SortSt->Prop}(h1:c->wpS (model prog w) A E s J Q t)(h2:¬c->wpS (model prog w) A E s I Q t):wpS (model prog w) A E s (if c then J else I) Q t:=by
 by_cases h:c
 ·rw[if_pos h];exact h1 h
 ·rw[if_neg h];exact h2 h
theorem vy{a b:Nat}(h:(a == b)=true):a=b:=by simpa using h
theorem vY{a b:Nat}(h:¬(a == b)=true):a≠b:=by simpa using h
theorem Same.tr{v:SortSt}(h:Same t u)(g:Same u v):Same t v:=⟨g.arr.trans h.arr,g.kd.trans h.kd,g.pend.trans h.pend,g.ok.trans h.ok⟩
section
variable {γ:Type}{P:Nat->γ->Prop}{G:Array Keyed->Prop}{b:Prop}
structure Lq(P:Nat->γ->Prop)(G:Array Keyed->Prop)(b:Prop)(Q:ForInStep (Sn γ)->SortSt->Prop)(N:Nat)(t:SortSt):Prop where
 ok:∀o x u,Same t u->G o->Q (.done (some o,x)) u
 dn:b->∀x u N',Same t u->P N' x->N'<N->Q (.done (none,x)) u
 nx:∀x u N',Same t u->P N' x->N'<N->Q (.yield (none,x)) u
noncomputable def Le(P:Nat->γ->Prop)(G:Array Keyed->Prop)(b:Prop)(N:Nat)(v:Sn γ):Prop:=(∃o,v.1=some o/\G o)\/b/\v.1=none/\∃N'<N,P N' v.2
theorem kr{Q:ForInStep (Sn γ)->SortSt->Prop}{x:γ}(q:Lq P G b Q N t)(S:Same t u)(h:G o):wpS (model prog w) A E s (Xp o x) Q u:=zR (q.ok _ _ _ S h)
theorem zc3{Q:ForInStep (Sn γ)->SortSt->Prop}{x:γ}{N':Nat}{c:Prop}[Decidable c](q:Lq P G True Q N t)(S:Same t u)(h:P N' x)(hN:N'<N):wpS (model prog w) A E s (if c then zS8 x else zB9 x) Q u:=
 wN (λ_=>zR (q.dn trivial _ _ _ S h hN)) λ_=>zR (q.nx _ _ _ S h hN)
theorem YN(b:Prop){m:Nat}{f:γ->SM (Fn γ)}{v:γ}{Q:Sn γ->SortSt->Prop}(hP:∀N x,P N x->1<=N)(hm:N<m)(hv:P N v)
  (W:∀v u Q N',Same t u->P N' v->N'<=N->Lq P G b Q N' u->wpS (model prog w) A E s (f v) Q u) (ne:∀v u,Same t u->Le P G b N v->Q v u) :
  wpS (model prog w) A E s (forIn [0:m] ((none,v):Sn γ) λ_ v=>f v.2) Q t:=by
 refine yY (wJ (λx v u=>Same t u/\v.1=none/\∃N',N'+x<=N/\P N' v.2) (Q:=λv u=>Same t u/\Le P G b N v) ?_ ?_ ⟨.rfl',rfl,N,zi _,hv⟩) λv u h=>ne v u h.1 h.2
 ·rintro x v u _ hx ⟨S, _, N', hN', h⟩
  have J:N'<=N:=x3
  have e3:∀y,y<N'->y+(x+1)<=N:=λy h=>by lia
  exact W v.2 u _ N' S h J ⟨λo x u' h G=>⟨S.tr h,.inl ⟨o,rfl,G⟩⟩,λY x u' N2 h p I=>⟨S.tr h,.inr ⟨Y,rfl,N2,zT I J,p⟩⟩,λx u' N2 h p I=>⟨S.tr h,rfl,N2,e3 _ I,p⟩⟩
 ·rintro v u ⟨S, _, N', hN', h⟩;have:=hP _ _ h
  exfalso;lia
end
structure Lo(prog:Program)(w:World)(A:Around)(s:Shared)(n:Nat)(item:Nat->Keyed)(kd:SortKind)(r:Nat->Nat->Bool)(la lb:Array Nat):Prop where
 R:WRule prog w A s n item kd r
 T:Two n r la lb
 h1:r (lab lb 0) (lab la 0)=true
 h2:∀y∈lb.toList,r y (lab la (la.size-1))=true
structure PL(item:Nat->Keyed)(r:Nat->Nat->Bool)(la lb:Array Nat)(N:Nat)(o:Array Keyed)(i j:Nat):Prop where
 M:ML item r la lb o i j
 hi:i+1<la.size
 hj:j<lb.size
 hN:la.size-i+(lb.size-j)<=N
noncomputable abbrev PLx{β:Type}(item:Nat->Keyed)(r:Nat->Nat->Bool)(la lb:Array Nat)(N:Nat)(x:Array Keyed × Nat × Nat × β):Prop:=PL item r la lb N x.1 x.2.1 x.2.2.1
noncomputable abbrev QL{β:Type}(item:Nat->Keyed)(r:Nat->Nat->Bool)(la lb:Array Nat)(b:Prop)(Q:ForInStep (Sn (Array Keyed × Nat × Nat × β))->SortSt->Prop)(N:Nat)(t:SortSt):Prop:=Lq (PLx item r la lb) (Good item r la lb) b Q N t
theorem PL.pos{β:Type}(N:Nat)(x:Array Keyed × Nat × Nat × β)(h:PLx item r la lb N x):1<=N:=by have:=h.hN;have:=h.hi;lia
theorem PL.i0(p:PL item r la lb N o i j):i<la.size:=yZ p.hi
theorem ML.eA(M:ML item r la lb o i j)(h:lb.size<=j\/la.size<=i):Good item r la lb (eA (la.map item) (lb.map item) o i j):=by
 unfold Srt.eA;rw[zN,zN];exact h.elim M.doneB M.doneA
variable (L:Lo prog w A s n item kd r la lb)
include L
theorem Lo.fa(hi:i<la.size)(hj:j<lb.size)(g:r (lab lb j) (lab la i)=false):∀y∈lb.toList.drop j,r y (lab la i)=false:=L.T.symm.hd L.R (L.T.al hi) hj g
theorem Lo.fb(hi:i<la.size)(hj:j<lb.size)(g:r (lab lb j) (lab la i)=true):∀y∈la.toList.drop i,r y (lab lb j)=false:=L.T.hd L.R (L.T.bl hj) hi (L.R.asy _ _ (L.T.bl hj) (L.T.al hi) g)
theorem Lo.eB(M:ML item r la lb o i j)(h:i+1=la.size):Good item r la lb (eB (la.map item) (lb.map item) o i j):=by
 unfold Srt.eB;rw[zN,zN];exact M.lastA L.R L.T L.h2 h
section
variable {Q:ForInStep (Sn Tn)->SortSt->Prop}
theorem Lo.l1(hk:kindOf t=kd)(q:QL item r la lb True Q N t)(p:PL item r la lb N o i j):wpS (model prog w) A E s (l1 (la.map item) (lb.map item) g c d o i j) Q t:=by
 obtain⟨M,hi,hj,hN⟩:=p;have I:=yZ hi;refine zo (yt hj (zo (yt I (zo (Jb L.R hk (L.T.bl hj) (L.T.al I) (λe=>L.T.ne I hj e.symm) ?_)))));cases z:r (lab lb j) (lab la i)
 ·refine zo (yt I (wN (λe => kr q .rfl' (L.eB (M.pushA I (L.fa I hj z)) ?_)) λe => zc3 q .rfl' (N' := la.size - (i + 1) + (lb.size - j)) ⟨M.pushA I (L.fa I hj z), ?_, hj, zi _⟩ ?_))
  ·rw[zN] at e;exact vy e
  ·rw[zN] at e;have:=vY e;exact wF hi this
  ·lia
 ·refine zo (yt hj (wN (λe => kr q .rfl' ((M.pushB hj (L.fb I hj z)).eA (.inl ?_))) λe => zc3 q .rfl' (N' := la.size - i + (lb.size - (j + 1))) ⟨M.pushB hj (L.fb I hj z), hi, ?_, zi _⟩ ?_))
  ·rw[zN] at e;exact Nat.le_of_eq (vy e).symm
  ·rw[zN] at e;exact wF hj (vY e)
  ·lia
end
section
variable {Q:ForInStep (Sn Un)->SortSt->Prop} (q:QL item r la lb True Q N t) (S:Same t u)
include q S
theorem Lo.l4(p:PL item r la lb N o i j)(z:r (lab lb j) (lab la i)=false):wpS (model prog w) A E s (l4 (la.map item) (lb.map item) g c d o i j) Q u:=by
 obtain⟨M,hi,hj,hN⟩:=p;have I:=yZ hi;refine zo (yt I ?_);have J:=M.pushA I (L.fa I hj z);rw[zN]
 exact wN (λe=>kr q S (L.eB J (vy e))) λe=>zc3 q S (N':=la.size-(i+1)+(lb.size-j)) ⟨J,wF hi (vY e),hj,zi _⟩ x3
theorem Lo.l3b(p:PL item r la lb N o i j)(hk:k<=lb.size-j)(W:∀i',i'<k->r (lab lb (j+i')) (lab la i)=true)(I:∀i',k<=i'->i'<lb.size-j->r (lab lb (j+i')) (lab la i)=false) :
  wpS (model prog w) A E s (l3b (la.map item) (lb.map item) g c d k o i j) Q u:=by
 obtain⟨M,hi,hj,hN⟩:=p
 refine wN (λ_=>?_) λ_=>L.l4 q S ⟨M,hi,hj,hN⟩ (I 0 x3 x3)
 have hk':j+k<=lb.size:=x3
 have J:=M.addB hk' λi' h=>L.fb (yZ hi) (j:=j+i') x3 (W i' h)
 rw[zN];refine wN (λe=>kr q S (J.eA (.inl (Nat.le_of_eq (vy e).symm)))) λe=>?_;have hj':j+k<lb.size:=wF hk' (vY e)
 exact L.l4 q S ⟨J,hi,hj',x3⟩ (I k (zi _) x3)
theorem Lo.l3(hk:kindOf t=kd)(p:PL item r la lb N o i j)(z:r (lab lb j) (lab la i)=true):wpS (model prog w) A E s (l3 (la.map item) (lb.map item) g c d o i j) Q u:=by
 obtain⟨M,hi,hj,hN⟩:=p;have I:=yZ hi;refine zo (yt hj ?_);have W:=M.pushB hj (L.fb I hj z);rw[zN];refine wN (λe=>kr q S (W.eA (.inl (Nat.le_of_eq (vy e).symm)))) λe=>?_;have hj':j+1<lb.size:=wF hj (vY e)
 refine zo (yt I (zo (gal (m:=lb.size-(j+1)) (by':=λi'=>r (lab lb (j+1+i')) (lab la i)) (Nat.sub_pos_of_lt hj') (λi' h Q Y=>?_) (λi' j' h1 h2 J=>?_) λk h g5 g6=>L.l3b q S ⟨W,hi,hj',x3⟩ h g5 g6)))
 ·exact byd L.R (S.kd.trans hk) (L.T.al I) x3 (L.T.bl x3) (L.T.ne I x3) (by simpa using Y)
 ·by_cases e : i' = j'
  ·rw[e];exact J
  ·cases z : r (lab lb (j + 1 + i')) (lab la i) with
   |true=>rfl
   |false=>exact absurd J (by rw[L.R.tr _ _ _ (L.T.al I) (L.T.bl (i:=j+1+i') x3) (L.T.bl (i:=j+1+j') x3) z (YY L.T.bu x3 x3)];exact zF)
theorem Lo.l2b(hk:kindOf t=kd)(p:PL item r la lb N o i j)(hk':k<=la.size-i)(Y:∀i',i'<k->r (lab lb j) (lab la (i+i'))=false)(W:∀i',k<=i'->i'<la.size-i->r (lab lb j) (lab la (i+i'))=true) :
  wpS (model prog w) A E s (l2b (la.map item) (lb.map item) g d k o i j) Q u:=by
 obtain⟨M,hi,hj,hN⟩:=p
 refine wN (λ_=>?_) λ_=>L.l3 q S hk ⟨M,hi,hj,hN⟩ (W 0 x3 x3)
 have I:i+k<=la.size:=x3
 have J:=M.addA I λi' h=>L.fa (i:=i+i') x3 hj (Y i' h)
 rw[zN];refine wN (λe=>kr q S (L.eB J (vy e))) λe=>wN (λe=>kr q S (J.eA (.inr (Nat.le_of_eq (vy e).symm)))) λe2=>?_
 have h3:i+k+1<la.size:=by have:=vY e;have:=vY e2;lia
 exact L.l3 q S hk ⟨J,h3,hj,x3⟩ (W k (zi _) x3)
theorem Lo.l2(hk:kindOf t=kd)(p:PL item r la lb N o i j):wpS (model prog w) A E s (l2 (la.map item) (lb.map item) c d o i j g) Q u:=by
 have hi:=p.i0;have hj:=p.hj;unfold Srt.l2;rw[vT,zN];refine zo (yN ?_);have I:=S.gal g;generalize QQ u g=u at I ⊢
 refine zo (yt hj (zo (gal (m:=la.size-i) (by':=λi'=>!r (lab lb j) (lab la (i+i'))) (Nat.sub_pos_of_lt hi) (λi' h Q W=>?_) (λi' j' h1 h2 J=>?_) λk h g5 Y=>L.l2b q I hk p h (λi' h=>by simpa using g5 i' h) λi' h h'=>by simpa using Y i' h h')))
 ·exact byd L.R (I.kd.trans hk) (L.T.bl hj) x3 (L.T.al x3) (λe=>L.T.ne x3 hj e.symm) (by simpa using W)
 ·by_cases e : i' = j'
  ·rw[e];exact J
  ·show (!r (lab lb j) (lab la (i + i'))) = true
   rw[L.R.tr _ _ _ (L.T.al (i:=i+i') x3) (L.T.al (i:=i+j') x3) (L.T.bl hj) (YY L.T.au x3 x3) (by simpa using J)];rfl
end
theorem Lo.l7{b:Prop}{Q:ForInStep (Sn Vn)->SortSt->Prop}{v:Vn}(hk:kindOf t=kd)(q:QL item r la lb b Q N t)(p:PLx item r la lb N v)(hN:N<la.size+lb.size):wpS (model prog w) A E s (l7 (la.map item) (lb.map item) v) Q t:=by
 unfold Srt.l7;rw[zN,zN];refine zo (YN (P:=PLx item r la lb) (G:=Good item r la lb) True PL.pos hN p (λv u Q N' S h _ q'=>L.l1 (S.kd.trans hk) q' h) λv u S h=>?_);unfold l6
 rcases h with ⟨o,e,G⟩ |⟨_,e,N',h,h'⟩
 ·rw[e];exact kr q S G
 rw[e,zN,zN];refine zo (wpS_lift (wQ ⟨rfl,zo (YN (P:=PLx item r la lb) (G:=Good item r la lb) True PL.pos (Nat.lt_trans h hN) h' (λv u' Q N' S' h' _ q'=>?_) λv u' S' h2=>?_)⟩))
 ·have hk':=(S.tr S').kd.trans hk;exact wN (λ_=>L.l2 q' .rfl' hk' h') λ_=>L.l2 q' .rfl' hk' h'
 ·unfold l5
  rcases h2 with ⟨o,e,G⟩ |⟨_,e,N2,h2,h3⟩
  ·rw[e];exact kr q (S.tr S') G
  ·rw[e,vT];exact zo (yN (zR (q.nx _ _ _ ((S.tr S').gal _) h3 (Nat.lt_trans h2 h))))
theorem mlo(hk:kindOf t=kd)(ha:1<=la.size)(W:1<=lb.size){Q:Array Keyed->SortSt->Prop}(q:∀I t',Same t t'->Good item r la lb I->Q I t'):wpS (model prog w) A E s (Uy (la.map item) (lb.map item)) Q t:=by
 rw[KY];unfold l8;refine zo (wpS_lift (wQ ⟨rfl,zo (yt W ?_)⟩));rw[zN,zN]
 have M0:ML item r la lb #[] 0 0:=⟨#[],by simp,by
  simp only[vf]
  exact⟨List.Perm.refl _,.nil,by simp,by simp,L.T.au,L.T.bu⟩⟩
 have J:=M0.pushB W (L.fb ha W L.h1);change ML item r la lb #[item (lab lb 0)] 0 1 at J;generalize #[item (lab lb 0)]=o at J ⊢;refine wN (λe=>zR (q _ _ .rfl' (J.eA (.inl (Nat.le_of_eq (vy e).symm))))) λe=>?_;refine wN (λe=>zR (q _ _ .rfl' (L.eB J (vy e)))) λY=>?_;have i2:1<lb.size:=wF W (vY e)
 have hN:la.size-0+(lb.size-1)<la.size+lb.size:=x3
 refine zo (wpS_get (zo (YN (P:=PLx item r la lb) (G:=Good item r la lb) False PL.pos hN ⟨J,wF ha (vY Y),i2,zi _⟩ (λv u Q N' S h h' q'=>L.l7 (S.kd.trans hk) q' h (Nat.lt_of_le_of_lt h' hN)) λv u S h=>?_)))
 rcases h with ⟨o,e,G⟩ |⟨f,_⟩
 ·unfold zU0;rw[e];exact zR (q _ _ S G)
 ·exact f.elim
end
section
variable (a b:Array Keyed)
noncomputable abbrev Th:=Nat × Nat × Array Keyed × Nat × Nat
noncomputable abbrev Uh:=Nat × Nat × Array Keyed × Nat × Nat × Nat
noncomputable abbrev Vh:=Nat × Nat × Array Keyed × Nat
noncomputable def hA(o:Array Keyed)(i j:Nat):Array Keyed:=a.extract 0 i++b.extract 0 j++o.reverse
noncomputable def hB(o:Array Keyed)(i j:Nat):Array Keyed:=b.extract 0 j++a.extract 0 i++o.reverse
noncomputable def h1(g c d:Nat)(o:Array Keyed)(i j:Nat):SM (Fn Th):=elem' b (j-1) >>= λy=>elem' a (i-1) >>= λx=>lt' y x >>= λw=>match w with
 |some w=>if w=true then elem' a (i-1) >>= λz=>if (i-1 == 0)=true then Xp (hA a b (o.push z) (i-1) j) (i-1,j,o.push z,c+1,0) else if c+1>=g then zS8 (i-1,j,o.push z,c+1,0) else zB9 (i-1,j,o.push z,c+1,0)
  else elem' b (j-1) >>= λz=>if (j-1 == 1)=true then Xp (hB a b (o.push z) i (j-1)) (i,j-1,o.push z,0,d+1) else if d+1>=g then zS8 (i,j-1,o.push z,0,d+1) else zB9 (i,j-1,o.push z,0,d+1)
 |_=>Xp (hA a b o i j) (i,j,o,c,d)
noncomputable def h4(g c d:Nat)(o:Array Keyed)(i j:Nat):SM (Fn Uh):=elem' a (i-1) >>= λx=>if (i-1 == 0)=true then Xp (hA a b (o.push x) (i-1) j) (i-1,j,o.push x,g,c,d)
 else if (decide (c<7)&&decide (d<7))=true then zS8 (i-1,j,o.push x,g,c,d) else zB9 (i-1,j,o.push x,g,c,d)
noncomputable def h3b(g c k:Nat)(o:Array Keyed)(i j:Nat):SM (Fn Uh):=if j-k > 0 then
  if (k == 1)=true then Xp (hB a b (o++(b.extract k j).reverse) i k) (i,k,o++(b.extract k j).reverse,g,c,j-k)
  else if (k == 0)=true then Xp (hA a b (o++(b.extract k j).reverse) i k) (i,k,o++(b.extract k j).reverse,g,c,j-k) else h4 a b g c (j-k) (o++(b.extract k j).reverse) i k
 else h4 a b g c (j-k) o i j
noncomputable def h3(g c d:Nat)(o:Array Keyed)(i j:Nat):SM (Fn Uh):=elem' b (j-1) >>= λy=>if (j-1 == 1)=true then Xp (hB a b (o.push y) i (j-1)) (i,j-1,o.push y,g,c,d)
 else elem' a (i-1) >>= λx=>jY true x b 0 (j-1) (j-1-1) >>= λk=>match k with
  |some k=>h3b a b g c k (o.push y) i (j-1)
  |_=>Xp (hA a b (o.push y) i (j-1)) (i,j-1,o.push y,g,c,d)
noncomputable def h2b(g d k:Nat)(o:Array Keyed)(i j:Nat):SM (Fn Uh):=if i-k > 0 then
  if (k == 0)=true then Xp (hA a b (o++(a.extract k i).reverse) k j) (k,j,o++(a.extract k i).reverse,g,i-k,d) else h3 a b g (i-k) d (o++(a.extract k i).reverse) k j
 else h3 a b g (i-k) d o i j
noncomputable def h2(c d:Nat)(o:Array Keyed)(i j g:Nat):SM (Fn Uh):=kg g >>= λ_=>elem' b (j-1) >>= λy=>jY false y a 0 i (i-1) >>= λk=>match k with
 |some k=>h2b a b g d k o i j
 |_=>Xp (hA a b o i j) (i,j,o,g,c,d)
noncomputable def h2u(u:Uh):SM (Fn Uh):=if u.2.2.2.1 > 1 then h2 a b u.2.2.2.2.1 u.2.2.2.2.2 u.2.2.1 u.1 u.2.1 (u.2.2.2.1-1) else h2 a b u.2.2.2.2.1 u.2.2.2.2.2 u.2.2.1 u.1 u.2.1 u.2.2.2.1
noncomputable def h5(s:Sn Uh):SM (Fn Vh):=match s.1 with
 |some r=>Xp r (s.2.1,s.2.2.1,s.2.2.2.1,s.2.2.2.2.1)
 |none=>kg (s.2.2.2.2.1+1) >>= λ_=>zB9 (s.2.1,s.2.2.1,s.2.2.2.1,s.2.2.2.2.1+1)
noncomputable def h6(g:Nat)(s:Sn Th):SM (Fn Vh):=match s.1 with
 |some r=>Xp r (s.2.1,s.2.2.1,s.2.2.2.1,g)
 |none=>(rule "list.sort.gallop" : SM Unit) >>= λ_=>forIn [0:a.size+b.size] ((none,s.2.1,s.2.2.1,s.2.2.2.1,g+1,s.2.2.2.2.1,s.2.2.2.2.2):Sn Uh) (λ_ u=>h2u a b u.2) >>= λu=>h5 u
noncomputable def h1t(g:Nat)(s:Th):SM (Fn Th):=h1 a b g s.2.2.2.1 s.2.2.2.2 s.2.2.1 s.1 s.2.1
noncomputable def h7(v:Vh):SM (Fn Vh):=forIn [0:a.size+b.size] ((none,v.1,v.2.1,v.2.2.1,0,0):Sn Th) (λ_ s=>h1t a b v.2.2.2 s.2) >>= λs=>h6 a b v.2.2.2 s
noncomputable def h8:SM (Array Keyed):=(rule "list.sort.merge-hi" : SM Unit) >>= λ_=>elem' a (a.size-1) >>= λy=>if (a.size-1 == 0)=true then pure (hA a b #[y] (a.size-1) b.size)
 else if (b.size == 1)=true then pure (hB a b #[y] (a.size-1) b.size)
 else get >>= λst=>forIn [0:a.size+b.size] ((none,a.size-1,b.size,#[y],gallopOf st):Sn Vh) (λ_ v=>h7 a b v.2) >>= λv=>zU0 v
theorem KZ:Uz a b=h8 a b:=by
 show bind _ _=bind _ _
 congr 1;funext x;dsimp only
 congr 1;funext y
 by_cases e:(a.size-1 == 0)=true
 ·rw[if_pos e,if_pos e];rfl
 rw[if_neg e,if_neg e]
 by_cases I:(b.size == 1)=true
 ·rw[if_pos I,if_pos I];rfl
 rw[if_neg I,if_neg I]
 congr 1;funext st
 congr 1
 ·congr 1
  funext x v
  unfold h7
  congr 1
  funext s
  unfold h6;cases s.1
  ·dsimp only
   congr 1;funext x
   congr 1
   funext u
   unfold h5
   cases u.1<;>rfl
  ·rfl
 ·funext v
  unfold zU0
  cases v.1<;>rfl
end
section
variable {prog:Program}{w:World}{A:Around}{E:QqV}{s:Shared}{t:SortSt}{n:Nat}{u:SortSt}{item:Nat->Keyed}{kd:SortKind}{r:Nat->Nat->Bool}
structure MH(item:Nat->Keyed)(r:Nat->Nat->Bool)(la lb:Array Nat)(out:Array Keyed)(na nb:Nat):Prop where
 o:∃O:Array Nat,out=O.map item/\MI (λx y=>r x y=false) (la.toList++lb.toList) O.toList (la.toList.take na).reverse (lb.toList.take nb).reverse
theorem qy{I:Array Nat}{k x:Nat}(hk:k<=I.size):x∈I.toList.take k↔∃i,i<k/\x=lab I i:=by
 rw[ym]
 constructor
 ·rintro ⟨i, h⟩;rw[yR] at h
  split at h
  ·rename_i g
   rw[zP,vd x3] at h
   exact⟨i,g,(zB h).symm⟩
  ·cases h
 ·rintro ⟨i, h1, rfl⟩
  exact⟨i,by rw[yR,if_pos h1,zP,vd x3]⟩
theorem QM{I:Array Nat}{k:Nat}(h1:1<=k)(hk:k<=I.size):(I.toList.take k).reverse=[lab I (k-1)]++(I.toList.take (k-1)).reverse:=by
 obtain⟨m,rfl⟩:∃m,k=m+1:=⟨k-1,x3⟩
 rw[Nat.add_sub_cancel,xI,zP,vd x3,ya]
 rfl
theorem QN{I:Array Nat}{j k:Nat}(h:j<=k):(I.toList.take k).reverse=(I.extract j k).reverse.toList++(I.toList.take j).reverse:=by
 rw[Array.toList_reverse,ww,xS,<- ya]
 have e:(I.toList.take k).take j=I.toList.take j:=by rw[List.take_take,Nat.min_eq_left h]
 rw[<- List.drop_take,<- e,wl]
theorem zp0{I:Array Nat}{j k x:Nat}(hk:k<=I.size)(hx:x∈(I.extract j k).reverse.toList):∃i,j<=i/\i<k/\x=lab I i:=by
 rw[Array.toList_reverse,wI,ww,xS,<- List.drop_take,ym] at hx;obtain⟨i,hi⟩:=hx;rw[wf,yR] at hi
 split at hi
 ·rename_i g
  rw[zP,vd x3] at hi
  exact⟨j+i,x3,g,(zB hi).symm⟩
 ·cases hi
section
variable {la lb:Array Nat}{out:Array Keyed}{na nb:Nat}
theorem Two.hh(R:WRule prog w A s n item kd r)(T:Two n r la lb){c m:Nat}(I:c<n)(h:m<la.size)(g:r c (lab la m)=false):∀i,i<=m->r c (lab la i)=false:=λi hi=>by
 by_cases e:i=m
 ·rw[e];exact g
 ·exact R.tr _ _ _ (T.al x3) (T.al h) I (YY T.au x3 h) g
theorem MH.pushA(M:MH item r la lb out na nb)(h:1<=na)(ha:na<=la.size)(I:nb<=lb.size)(g:∀j,j<nb->r (lab la (na-1)) (lab lb j)=false):MH item r la lb (out.push (item (lab la (na-1)))) (na-1) nb:=by
 obtain⟨O,rfl,m⟩:=M.o;rw[QM h ha] at m
 refine⟨O.push (lab la (na-1)),by rw[Array.map_push],?_⟩
 rw[va]
 exact m.takeA λx hx y hy=>by
  obtain⟨j,hj,rfl⟩:=(qy I).mp (wI.mp hy);rw[xi.mp hx];exact g j hj
theorem MH.pushB(M:MH item r la lb out na nb)(h:1<=nb)(ha:na<=la.size)(I:nb<=lb.size)(g:∀j,j<na->r (lab lb (nb-1)) (lab la j)=false):MH item r la lb (out.push (item (lab lb (nb-1)))) na (nb-1):=by
 obtain⟨O,rfl,m⟩:=M.o;rw[QM h I] at m
 refine⟨O.push (lab lb (nb-1)),by rw[Array.map_push],?_⟩
 rw[va]
 exact m.takeB λx hx y hy=>by
  obtain⟨j,hj,rfl⟩:=(qy ha).mp (wI.mp hy);rw[xi.mp hx];exact g j hj
theorem MH.addA(M:MH item r la lb out na nb){k:Nat}(h:k<=na)(ha:na<=la.size)(I:nb<=lb.size)(g:∀i,k<=i->i<na->∀j,j<nb->r (lab la i) (lab lb j)=false):MH item r la lb (out++((la.map item).extract k na).reverse) k nb:=by
 obtain⟨O,rfl,m⟩:=M.o;rw[QN h] at m
 refine⟨O++(la.extract k na).reverse,by rw[xX,Array.map_reverse,xB],?_⟩
 rw[xj]
 exact m.takeA λx hx y hy=>by
  obtain⟨j,hj,rfl⟩:=(qy I).mp (wI.mp hy);obtain⟨i,i1,i2,rfl⟩:=zp0 ha hx;exact g i i1 i2 j hj
theorem MH.addB(M:MH item r la lb out na nb){k:Nat}(h:k<=nb)(ha:na<=la.size)(I:nb<=lb.size)(g:∀i,k<=i->i<nb->∀j,j<na->r (lab lb i) (lab la j)=false):MH item r la lb (out++((lb.map item).extract k nb).reverse) na k:=by
 obtain⟨O,rfl,m⟩:=M.o;rw[QN h] at m
 refine⟨O++(lb.extract k nb).reverse,by rw[xX,Array.map_reverse,xB],?_⟩
 rw[xj]
 exact m.takeB λx hx y hy=>by
  obtain⟨j,hj,rfl⟩:=(qy ha).mp (wI.mp hy);obtain⟨i,i1,i2,rfl⟩:=zp0 I hx;exact g i i1 i2 j hj
theorem UI{I:Array Nat}{i:Nat}:(I.extract 0 i).toList=I.toList.take i:=by
 rw[ww,xS,vf,Nat.sub_zero]
theorem MH.done(M:MH item r la lb out na nb)(ha:na<=la.size)(W:nb<=lb.size)(g:∀i,i<nb->∀j,j<na->r (lab lb i) (lab la j)=false):Good item r la lb ((la.map item).extract 0 na++(lb.map item).extract 0 nb++out.reverse):=by
 obtain⟨O,rfl,m⟩:=M.o
 obtain⟨J,I⟩:=m.endB λx hx y hy=>by
  obtain⟨i,hi,rfl⟩:=(qy W).mp (wI.mp hx);obtain⟨j,hj,rfl⟩:=(qy ha).mp (wI.mp hy);exact g i hi j hj
 have e:(la.extract 0 na++lb.extract 0 nb++O.reverse).toList=(O.toList++(lb.toList.take nb).reverse++(la.toList.take na).reverse).reverse:=by
  rw[xj,xj,UI,UI,Array.toList_reverse,ya,ya,reverse_reverse,reverse_reverse,wq]
 refine⟨la.extract 0 na++lb.extract 0 nb++O.reverse,by rw[xX,xX,xB,xB,Array.map_reverse],?_,?_⟩
 ·rw[e];exact(reverse_perm _).trans J
 ·rw[e,List.pairwise_reverse];exact I
theorem MH.first(M:MH item r la lb out na nb)(ha:na<=la.size)(W:nb<=lb.size)(g:∀j,j<na->∀i,i<nb->r (lab la j) (lab lb i)=false):Good item r la lb ((lb.map item).extract 0 nb++(la.map item).extract 0 na++out.reverse):=by
 obtain⟨O,rfl,m⟩:=M.o
 obtain⟨J,I⟩:=m.endA λx hx y hy=>by
  obtain⟨i,hi,rfl⟩:=(qy ha).mp (wI.mp hx);obtain⟨j,hj,rfl⟩:=(qy W).mp (wI.mp hy);exact g i hi j hj
 have e:(lb.extract 0 nb++la.extract 0 na++O.reverse).toList=(O.toList++(la.toList.take na).reverse++(lb.toList.take nb).reverse).reverse:=by
  rw[xj,xj,UI,UI,Array.toList_reverse,ya,ya,reverse_reverse,reverse_reverse,wq]
 refine⟨lb.extract 0 nb++la.extract 0 na++O.reverse,by rw[xX,xX,xB,xB,Array.map_reverse],?_,?_⟩
 ·rw[e];exact(reverse_perm _).trans J
 ·rw[e,List.pairwise_reverse];exact I
end
section
variable {N c d g i j k:Nat}{o:Array Keyed}{la lb:Array Nat}
structure PH(item:Nat->Keyed)(r:Nat->Nat->Bool)(la lb:Array Nat)(N:Nat)(o:Array Keyed)(i j:Nat):Prop where
 M:MH item r la lb o i j
 i1:1<=i
 i2:i<=la.size
 j1:2<=j
 j2:j<=lb.size
 hN:i+j<=N
noncomputable abbrev PHx{β:Type}(item:Nat->Keyed)(r:Nat->Nat->Bool)(la lb:Array Nat)(N:Nat)(x:Nat × Nat × Array Keyed × β):Prop:=PH item r la lb N x.2.2.1 x.1 x.2.1
noncomputable abbrev QH{β:Type}(item:Nat->Keyed)(r:Nat->Nat->Bool)(la lb:Array Nat)(b:Prop)(Q:Fn (Nat × Nat × Array Keyed × β)->SortSt->Prop)(N:Nat)(t:SortSt):Prop:=Lq (PHx item r la lb) (Good item r la lb) b Q N t
theorem PH.pos{β:Type}(N:Nat)(x:Nat × Nat × Array Keyed × β)(h:PHx item r la lb N x):1<=N:=zy h.i1 (zy (Nat.le_add_right _ _) h.hN)
theorem zj6{i m:Nat}(h:1<=i)(h':i<=m):i-1<m:=x3
theorem zx5{j:Nat}(h:2<=j):1<=j:=x3
theorem xn3{i:Nat}(h:1<=i)(e:¬(i-1 == 0)=true):1<=i-1:=by have:=vY e;lia
theorem xA0{j:Nat}(h:2<=j)(e:¬(j-1 == 1)=true):2<=j-1:=by have:=vY e;lia
theorem lt3{m i:Nat}(h:1<=i)(hm:m<i):m<i-1+1:=x3
variable (L:Lo prog w A s n item kd r la lb)
include L
theorem Lo.hA(hi:i<la.size)(hj:j<lb.size)(g:r (lab lb j) (lab la i)=true):∀m,m<j+1->r (lab la i) (lab lb m)=false:=λm hm=>L.T.symm.hh L.R (L.T.al hi) hj (L.R.asy _ _ (L.T.bl hj) (L.T.al hi) g) m (Nat.le_of_lt_succ hm)
theorem Lo.hB(hi:i<la.size)(hj:j<lb.size)(g:r (lab lb j) (lab la i)=false):∀m,m<i+1->r (lab lb j) (lab la m)=false:=λm hm=>L.T.hh L.R (L.T.bl hj) hi g m (Nat.le_of_lt_succ hm)
theorem Lo.fst(M:MH item r la lb o i j)(hi:i<=la.size)(I:1<=lb.size)(hj:j=1):Good item r la lb (Srt.hB (la.map item) (lb.map item) o i j):=M.first hi x3 λj' hj' i' hi'=>by
 obtain rfl:i'=0:=x3
 have z:r (lab la 0) (lab lb 0)=false:=L.R.asy _ _ (L.T.bl I) (L.T.al x3) L.h1
 by_cases e:j'=0
 ·rw[e];exact z
 ·exact L.R.tr _ _ _ (L.T.bl I) (L.T.al (i:=0) x3) (L.T.al x3) z (YY L.T.au x3 x3)
omit L in
theorem MH.don(M:MH item r la lb o i j)(hi:i<=la.size)(hj:j<=lb.size)(h:i=0\/j=0):Good item r la lb (Srt.hA (la.map item) (lb.map item) o i j):=M.done hi hj λi' hi' j' hj'=>by lia
theorem Lo.pA(p:PH item r la lb N o i j)(z:r (lab lb (j-1)) (lab la (i-1))=true):MH item r la lb (o.push (item (lab la (i-1)))) (i-1) j:=p.M.pushA p.i1 p.i2 p.j2 λm hm=>L.hA (zj6 p.i1 p.i2) (zj6 (zx5 p.j1) p.j2) z m (lt3 (zx5 p.j1) hm)
theorem Lo.pB(p:PH item r la lb N o i j)(z:∀m,m<i->r (lab lb (j-1)) (lab la m)=false):MH item r la lb (o.push (item (lab lb (j-1)))) i (j-1):=p.M.pushB (zx5 p.j1) p.i2 p.j2 z
theorem Lo.h1'{Q:Fn Th->SortSt->Prop}(hk:kindOf t=kd)(q:QH item r la lb True Q N t)(p:PH item r la lb N o i j):wpS (model prog w) A E s (Srt.h1 (la.map item) (lb.map item) g c d o i j) Q t:=by
 have hi:=zj6 p.i1 p.i2;have hj:=zj6 (zx5 p.j1) p.j2;have hN:=p.hN;have i1:=p.i1;have j1:=p.j1;refine zo (yt hj (zo (yt hi (zo (Jb L.R hk (L.T.bl hj) (L.T.al hi) (λe=>L.T.ne hi hj e.symm) ?_)))));cases z:r (lab lb (j-1)) (lab la (i-1))
 ·have M := L.pB p λm hm => L.hB hi hj z m (lt3 i1 hm)
  exact zo (yt hj (wN (λe=>kr q .rfl' (L.fst M p.i2 (zy (zx5 j1) p.j2) (vy e))) λe=>zc3 q .rfl' (N':=i+(j-1)) ⟨M,i1,p.i2,xA0 j1 e,wb hj,zi _⟩ x3))
 ·have M := L.pA p z
  exact zo (yt hi (wN (λe=>kr q .rfl' (M.don (wb hi) p.j2 (.inl (vy e)))) λe=>zc3 q .rfl' (N':=i-1+j) ⟨M,xn3 i1 e,wb hi,j1,p.j2,zi _⟩ x3))
section
variable {Q:Fn Uh->SortSt->Prop} (q:QH item r la lb True Q N t) (S:Same t u)
include q S
theorem Lo.h4(M:MH item r la lb o i j)(i1:1<=i)(i2:i<=la.size)(j1:2<=j)(j2:j<=lb.size)(hN:i+j<=N)(z:∀m,m<j->r (lab la (i-1)) (lab lb m)=false):wpS (model prog w) A E s (h4 (la.map item) (lb.map item) g c d o i j) Q u:=by
 have hi:=zj6 i1 i2;have I:=M.pushA i1 i2 j2 z
 exact zo (yt hi (wN (λe=>kr q S (I.don (wb hi) j2 (.inl (vy e)))) λe=>zc3 q S (N':=i-1+j) ⟨I,xn3 i1 e,wb hi,j1,j2,zi _⟩ x3))
theorem Lo.h3b(p:PH item r la lb N o i j)(hk:k<=j)(g5:∀m,m<k->r (lab lb m) (lab la (i-1))=true)(g6:∀m,k<=m->m<j->r (lab lb m) (lab la (i-1))=false) :
  wpS (model prog w) A E s (h3b (la.map item) (lb.map item) g c k o i j) Q u:=by
 obtain⟨M,i1,i2,j1,j2,hN⟩:=p;have hi:=zj6 i1 i2
 have z:∀m,m<k->r (lab la (i-1)) (lab lb m)=false:=λm hm=>L.R.asy _ _ (L.T.bl x3) (L.T.al hi) (g5 m hm)
 refine wN (λ_=>?_) λe=>?_
 ·have I := M.addB hk i2 j2 λm Y W x hx => L.hB hi x3 (g6 m Y W) x (lt3 i1 hx)
  have J:k<=lb.size:=zy hk j2
  exact wN (λe=>kr q S (L.fst I i2 x3 (vy e))) λe=>wN (λe=>kr q S (I.don i2 J (.inr (vy e)))) λe'=>L.h4 q S I i1 i2 (by have:=vY e;have:=vY e';lia) J x3 z
 ·obtain rfl : k = j := by lia
  exact L.h4 q S M i1 i2 j1 j2 hN z
theorem Lo.h3(hk:kindOf t=kd)(p:PH item r la lb N o i j)(z:∀m,m<i->r (lab lb (j-1)) (lab la m)=false):wpS (model prog w) A E s (h3 (la.map item) (lb.map item) g c d o i j) Q u:=by
 have hi:=zj6 p.i1 p.i2;have hj:=zj6 (zx5 p.j1) p.j2;have J:=L.pB p z;obtain⟨M,i1,i2,j1,j2,hN⟩:=p
 refine zo (yt hj (wN (λe=>kr q S (L.fst J i2 x3 (vy e))) λe=>?_))
 have j1':=xA0 j1 e
 refine zo (yt hi (zo (gal (m:=j-1) (by':=λm=>r (lab lb (0+m)) (lab la (i-1))) x3 (λm h Q W=>?_) (λm x h1 h2 I=>?_) λk h g5 Y=>L.h3b q S ⟨J,i1,i2,j1',wb hj,x3⟩ h (λm h=>by have:=g5 m h;rwa [Nat.zero_add] at this) λm h h'=>by have:=Y m h h';rwa [Nat.zero_add] at this)))
 ·exact byd L.R (S.kd.trans hk) (L.T.al hi) x3 (L.T.bl x3) (L.T.ne hi x3) (by simpa using W)
 ·by_cases e : m = x
  ·rw[e];exact I
  ·cases z : r (lab lb (0 + m)) (lab la (i - 1)) with
   |true=>rfl
   |false=>exact absurd I (by rw[L.R.tr _ _ _ (L.T.al hi) (L.T.bl (i:=0+m) x3) (L.T.bl (i:=0+x) x3) z (YY L.T.bu x3 x3)];exact zF)
theorem Lo.h2b(hk:kindOf t=kd)(p:PH item r la lb N o i j)(hk':k<=i)(J:∀m,m<k->r (lab lb (j-1)) (lab la m)=false)(g2:∀m,k<=m->m<i->r (lab lb (j-1)) (lab la m)=true):wpS (model prog w) A E s (h2b (la.map item) (lb.map item) g d k o i j) Q u:=by
 refine wN (λ_=>?_) λe=>?_
 ·obtain ⟨M, i1, i2, j1, j2, hN⟩ := p;have hj:=zj6 (zx5 j1) j2
  have W:=M.addA hk' i2 j2 λm m1 Y x hx=>L.hA x3 hj (g2 m m1 Y) x (lt3 (zx5 j1) hx)
  have I:=zy hk' i2
  exact wN (λe=>kr q S (W.don I j2 (.inl (vy e)))) λe=>L.h3 q S hk ⟨W,Nat.pos_of_ne_zero (vY e),I,j1,j2,x3⟩ J
 ·obtain rfl : k = i := by lia
  exact L.h3 q S hk p J
theorem Lo.h2'(hk:kindOf t=kd)(p:PH item r la lb N o i j):wpS (model prog w) A E s (Srt.h2 (la.map item) (lb.map item) c d o i j g) Q u:=by
 have hj:=zj6 (zx5 p.j1) p.j2;have i1:=p.i1;have i2:=p.i2;unfold Srt.h2;rw[vT];refine zo (yN ?_);have I:=S.gal g;generalize QQ u g=u at I ⊢
 refine zo (yt hj (zo (gal (m:=i) (by':=λm=>!r (lab lb (j-1)) (lab la (0+m))) x3 (λm h Q W=>?_) (λm x h1 h2 J=>?_) λk h g5 Y=>L.h2b q I hk p h (λm h=>by have:=g5 m h;rw[Nat.zero_add] at this;simpa using this) λm h h'=>by have:=Y m h h';rw[Nat.zero_add] at this;simpa using this)))
 ·exact byd L.R (I.kd.trans hk) (L.T.bl hj) x3 (L.T.al x3) (λe=>L.T.ne x3 hj e.symm) (by simpa using W)
 ·by_cases e : m = x
  ·rw[e];exact J
  ·show (!r (lab lb (j - 1)) (lab la (0 + m))) = true
   rw[L.R.tr _ _ _ (L.T.al (i:=0+m) x3) (L.T.al (i:=0+x) x3) (L.T.bl hj) (YY L.T.au x3 x3) (by simpa using J)];rfl
end
theorem Lo.h7{b:Prop}{Q:Fn Vh->SortSt->Prop}{v:Vh}(hk:kindOf t=kd)(q:QH item r la lb b Q N t)(p:PHx item r la lb N v)(hN:N<la.size+lb.size):wpS (model prog w) A E s (h7 (la.map item) (lb.map item) v) Q t:=by
 unfold Srt.h7;rw[zN,zN];refine zo (YN (P:=PHx item r la lb) (G:=Good item r la lb) True PH.pos hN p (λv u Q N' S h _ q'=>L.h1' (S.kd.trans hk) q' h) λv u S h=>?_);unfold h6
 rcases h with ⟨o,e,G⟩ |⟨_,e,N',h,h'⟩
 ·rw[e];exact kr q S G
 rw[e,zN,zN];refine zo (wpS_lift (wQ ⟨rfl,zo (YN (P:=PHx item r la lb) (G:=Good item r la lb) True PH.pos (Nat.lt_trans h hN) h' (λv u' Q N' S' h' _ q'=>?_) λv u' S' h2=>?_)⟩))
 ·have hk':=(S.tr S').kd.trans hk;exact wN (λ_=>L.h2' q' .rfl' hk' h') λ_=>L.h2' q' .rfl' hk' h'
 ·unfold h5
  rcases h2 with ⟨o,e,G⟩ |⟨_,e,N2,h2,h3⟩
  ·rw[e];exact kr q (S.tr S') G
  ·rw[e,vT];exact zo (yN (zR (q.nx _ _ _ ((S.tr S').gal _) h3 (Nat.lt_trans h2 h))))
theorem mhi(hk:kindOf t=kd)(ha:1<=la.size)(hb:1<=lb.size){Q:Array Keyed->SortSt->Prop}(q:∀J t',Same t t'->Good item r la lb J->Q J t'):wpS (model prog w) A E s (Uz (la.map item) (lb.map item)) Q t:=by
 rw[KZ];unfold h8;rw[zN,zN];have I:la.size-1<la.size:=zj6 ha (zi _);refine zo (wpS_lift (wQ ⟨rfl,zo (yt I ?_)⟩))
 have M0:MH item r la lb #[] la.size lb.size:=⟨#[],by simp,by
  have Y:la.toList.take la.size=la.toList:=wK (by rw[zk];exact zi _)
  have e2:lb.toList.take lb.size=lb.toList:=wK (by rw[zk];exact zi _)
  rw[Y,e2]
  exact⟨by simpa using (reverse_perm _).append (reverse_perm _),.nil,by simp,by simp,List.pairwise_reverse.mpr L.T.au,List.pairwise_reverse.mpr L.T.bu⟩⟩
 have W:=M0.pushA ha (zi _) (zi _) λj hj=>L.R.asy _ _ (L.T.bl hj) (L.T.al I) (L.h2 _ (qD hj));change MH item r la lb #[item (lab la (la.size-1))] (la.size-1) lb.size at W;generalize #[item (lab la (la.size-1))]=o at W ⊢;refine wN (λe=>zR (q _ _ .rfl' (W.don (wb I) (zi _) (.inl (vy e))))) λe=>wN (λe=>zR (q _ _ .rfl' (L.fst W (wb I) hb (vy e)))) λY=>?_;have hN:la.size-1+lb.size<la.size+lb.size:=Nat.add_lt_add_right I _;refine zo (wpS_get (zo (YN (P:=PHx item r la lb) (G:=Good item r la lb) False PH.pos hN ⟨W,xn3 ha e,wb I,wF hb (λz=>vY Y z.symm),zi _,zi _⟩ (λv u Q N' S h h' q'=>L.h7 (S.kd.trans hk) q' h (Nat.lt_of_le_of_lt h' hN)) λv u S h=>?_)))
 rcases h with ⟨o,e,G⟩ |⟨f,_⟩
 ·unfold zU0;rw[e];exact zR (q _ _ S G)
 ·exact f.elim
end
end
theorem QU{α:Type}:∀(l:List α) (arr:Array α) (sa k:Nat),sa+k+l.length<=arr.size->((l.zipIdx k).foldl (λa (p:α × Nat)=>a.setIfInBounds (sa+p.2) p.1) arr).toList=arr.toList.take (sa+k)++l++arr.toList.drop (sa+k+l.length)
 |[],arr,sa,k,h=>by simp
 | x :: l, arr, sa, k, h => by
  rw[zL] at h
  have hi:sa+k<arr.toList.length:=by rw[zk];lia
  rw[yI,List.foldl_cons,QU l _ sa (k+1) (by rw[Array.size_setIfInBounds];lia),Array.toList_setIfInBounds]
  have J:(arr.toList.set (sa+k) x).take (sa+(k+1))=arr.toList.take (sa+k)++[x]:=by
   rw[<- Nat.add_assoc,xI,List.take_set_of_le (zi _),xl hi];rfl
  have I:(arr.toList.set (sa+k) x).drop (sa+(k+1)+l.length)=arr.toList.drop (sa+k+(l.length+1)):=by
   rw[List.drop_set_of_lt x3]
   congr 1;lia
  rw[J,I,zL];simp
theorem zJ8{M:Model}{A:Around}{E:QqV}{s:Shared}{σ:Type}{st':σ}{Q:PUnit->σ->Prop}{st:σ}(h:Q ⟨⟩ st'):wpS M A E s (set st':StateT σ Sem PUnit) Q st:=by
 unfold wpS;rw[StateT.run_set];exact zj ⟨rfl,h⟩
structure Nw(n:Nat)(item:Nat->Keyed)(kd:SortKind)(ls:Array Nat)(t:SortSt):Prop where
 arr:arrOf t=ls.map item
 kd:kindOf t=kd
 ok:failedOf t=none
 perm:ls.Perm (Array.range n)
noncomputable def Seg(r:Nat->Nat->Bool)(ls:Array Nat)(s m:Nat):Prop:=∀i j,s<=i->i<j->j<s+m->r (lab ls j) (lab ls i)=false
section
variable {n:Nat}{item:Nat->Keyed}{kd:SortKind}{r:Nat->Nat->Bool}{ls:Array Nat}{t:SortSt}
theorem YK(h:ls.Perm (Array.range n)):ls.toList.Nodup:=(wt.mp h).nodup_iff.mpr (by rw[Array.toList_range];exact List.nodup_range)
theorem Nw.size(N:Nw n item kd ls t):ls.size=n:=by rw[N.perm.size_eq,yJ]
theorem Us(h:ls.Perm (Array.range n)){x:Nat}(hx:x∈ls.toList):x<n:=by
 have:=((wt.mp h).mem_iff).mp hx
 rwa [Array.toList_range,xD] at this
theorem Nw.lt(N:Nw n item kd ls t){i:Nat}(h:i<n):lab ls i<n:=Us N.perm (qD (by rw[N.size];exact h))
theorem zP8(h:ls.toList.Nodup){i j:Nat}(I:i<j)(hj:j<ls.size):lab ls i≠lab ls j:=by
 have hi':i<ls.toList.length:=by rw[zk];lia
 have hj':j<ls.toList.length:=by rw[zk];exact hj
 have:=wB.mp h i j hi' hj' I
 have W:=vd (ls:=ls) (i:=i) x3
 have J:=vd (ls:=ls) hj;rw[<- zP,ze hi'] at W;rw[<- zP,ze hj'] at J;rw[<- zB W,<- zB J];exact this
theorem Nw.ne(N:Nw n item kd ls t){i j:Nat}(hi:i<n)(hj:j<n)(h:i≠j):lab ls i≠lab ls j:=by
 have:=N.size
 rcases Nat.lt_or_gt_of_ne h with g |g
 ·exact zP8 (YK N.perm) g x3
 ·exact(zP8 (YK N.perm) g x3).symm
theorem Ws{a b i:Nat}(h:b<=ls.size)(hi:a+i<b):lab (ls.extract a b) i=lab ls (a+i):=by
 refine kY ?_
 rw[Array.getElem?_extract,if_pos x3,vd x3]
theorem jl{a b x:Nat}(h:b<=ls.size)(hx:x∈(ls.extract a b).toList):∃i,a<=i/\i<b/\x=lab ls i:=by
 have hx':x∈(ls.extract a b).toList.drop 0:=by rwa [vf]
 obtain⟨i,_,h2,rfl⟩:=jm.mp hx';rw[wT] at h2
 exact⟨a+i,x3,x3,Ws h x3⟩
theorem zF9{a b:Nat}(h:b<=ls.size)(S:Seg r ls a (b-a)):(ls.extract a b).toList.Pairwise λx y=>r y x=false:=by
 refine wB.mpr λi j hi hj J=>?_;rw[zk,wT] at hi hj
 have e:∀k (hk:k<(ls.extract a b).toList.length),(ls.extract a b).toList[k]=lab ls (a+k):=λk hk=>by
  rw[zk] at hk;have I:=vd (ls:=ls.extract a b) hk
  rw[<- zP,ze (by rw[zk];exact hk)] at I
  rw[zB I,Ws h (by rw[wT] at hk;lia)]
 rw[e,e]
 exact S _ _ x3 x3 x3
end
section
variable {prog:Program}{w:World}{A:Around}{E:QqV}{s:Shared}{t:SortSt}{n:Nat}{item:Nat->Keyed}{kd:SortKind}{r:Nat->Nat->Bool}{ls:Array Nat}
theorem back{a b c:Nat}{M:Array Nat}(N:Nw n item kd ls t)(Y:a<=b)(W:b<=c)(hc:c<=n)(p:M.toList.Perm ((ls.extract a b).toList++(ls.extract b c).toList)) :
  ∃ls':Array Nat,(((M.map item).toList.zipIdx.foldl (λx (y:Keyed × Nat)=>x.setIfInBounds (a+y.2) y.1) (ls.map item))=ls'.map item)/\ls'.Perm (Array.range n)/\(∀k,k<a\/c<=k->lab ls' k=lab ls k)/\∀i,a<=i->i<c->lab ls' i=lab M (i-a):=by
 have hs:=N.size
 have hM:M.size=c-a:=by
  have:=p.length_eq;rw[zk,zr,zk,zk,wT,wT] at this;lia
 have el:((ls.toList.take a++M.toList++ls.toList.drop c).toArray).size=ls.size:=by
  rw[zn,zr,zr,xh,wj,zk,zk];lia
 refine⟨(ls.toList.take a++M.toList++ls.toList.drop c).toArray,?_,?_,?_,?_⟩
 ·apply Array.ext'
  rw[QU _ _ a 0 (by rw[zk,zN,zN];lia)]
  simp only[Nat.add_zero,zk,zN,Array.toList_map,hM,xx,List.map_take,List.map_drop,List.map_toArray]
  congr 2
  rw[zh,zk];lia
 ·refine wt.mpr ?_;refine List.Perm.trans ?_ (wt.mp N.perm)
  have e:ls.toList=ls.toList.take a++((ls.extract a b).toList++(ls.extract b c).toList)++ls.toList.drop c:=by
   rw[ww,ww,xS,xS]
   have J:(ls.toList.drop a).take (b-a)++(ls.toList.drop b).take (c-b)=(ls.toList.drop a).take (c-a):=by
    rw[show c-a=(b-a)+(c-b) by lia,List.take_add,drop_drop,show a+(b-a)=b by lia]
   rw[J,wq]
   conv=>lhs;rw[<- wl a ls.toList]
   congr 1
   conv=>lhs;rw[<- wl (c-a) (ls.toList.drop a)]
   rw[drop_drop,show a+(c-a)=c by lia]
  conv=>rhs;rw[e]
  exact(p.append_left _).append_right _
 ·intro k hk
  rcases Nat.lt_or_ge k ls.size with I |I
  ·refine kY ?_;rw[<- vd I,List.getElem?_toArray]
   rcases hk with hk |hk
   ·rw[wq,xE (by rw[xh,zk];lia),yR,if_pos hk,zP]
   ·rw [xt (by rw [zr, xh, zk, zk]; lia), wf, zP]
    congr 1
    rw[zr,xh,zk,zk];lia
  ·have J : lab ls k = 0 := by unfold lab; rw [wZ, wA I]; rfl
   rw[J];unfold lab;rw[wZ,wA (by rw[el];exact I)];rfl
 ·intro i h1 h2;refine kY ?_
  rw[<- vd x3,List.getElem?_toArray,xE (by rw[zr,xh,zk,zk];lia),xt (by rw[xh,zk];lia),zP]
  congr 1
  rw[xh,zk];lia
theorem mat(R:WRule prog w A s n item kd r)(N:Nw n item kd ls t){i sa J p sb I p2:Nat}(hp:(pendingOf t)[i]?=some (sa,J,p))(hq:(pendingOf t)[i+1]?=some (sb,I,p2))(ai:sb=sa+J)(h1:1<=J)(h2:1<=I)(hn:sb+I<=n)(SA:Seg r ls sa J)(SB:Seg r ls sb I)
  {Q:Bool->SortSt->Prop} (q:∀ls' t',Nw n item kd ls' t'->pendingOf t'=((pendingOf t).setIfInBounds i (sa,J+I,p)).eraseIdxIfInBounds (i+1)->(∀k,k<sa\/sb+I<=k->lab ls' k=lab ls k)->Seg r ls' sa (J+I)->Q true t'):wpS (model prog w) A E s (mergeAt' i) Q t:=by
 have hs:=N.size;rw[Ql];refine zo (wpS_get ?_);rw[hp,hq];dsimp only;refine zo (zJ8 ?_);have W:Nw n item kd ls (setPending t (((pendingOf t).setIfInBounds i (sa,J+I,p)).eraseIdxIfInBounds (i+1))):=⟨N.arr,N.kd,N.ok,N.perm⟩;have P1:pendingOf (setPending t (((pendingOf t).setIfInBounds i (sa,J+I,p)).eraseIdxIfInBounds (i+1)))=((pendingOf t).setIfInBounds i (sa,J+I,p)).eraseIdxIfInBounds (i+1):=rfl;rw[N.arr];generalize ((pendingOf t).setIfInBounds i (sa,J+I,p)).eraseIdxIfInBounds (i+1)=pend at P1 W q ⊢;generalize setPending t pend=t1 at P1 W ⊢;have aa:∀{x y z:Nat},x<n->y<n->z<n->r (lab ls y) (lab ls x)=false->r (lab ls z) (lab ls y)=false->r (lab ls z) (lab ls x)=false:=λhx hy hz=>R.tr _ _ _ (N.lt hx) (N.lt hy) (N.lt hz)
 refine zo (yt x3 ?_)
 refine zo (gal (m:=J) (by':=λi=>!r (lab ls sb) (lab ls (sa+i))) x3 (λi hi Q qq=>byd R W.kd (N.lt x3) x3 (N.lt x3) (N.ne x3 x3 x3) (by simpa using qq)) ?_ λk hk g1 g2=>?_)
 ·intro i j ah hj hb
  by_cases e:i=j
  ·rw[e];exact hb
  ·have hb' : r (lab ls sb) (lab ls (sa + j)) = false := by simpa using hb
   have:=aa x3 x3 x3 (SA (sa+i) (sa+j) x3 x3 x3) hb'
   show(!r (lab ls sb) (lab ls (sa+i)))=true;rw[this];rfl
 have F1:∀i j,sa<=i->i<sa+k->sb<=j->j<sb+I->r (lab ls j) (lab ls i)=false:=λi j a1 a2 b1 b2=>by
  have z:r (lab ls sb) (lab ls i)=false:=by
   have:=g1 (i-sa) x3
   rw[show sa+(i-sa)=i by lia] at this
   simpa using this
  by_cases e:j=sb
  ·rw[e];exact z
  ·exact aa x3 x3 x3 z (SB sb j x3 x3 b2)
 dsimp only;refine wN (λe=>zR (q ls t1 W P1 (λ_ _=>rfl) λi j a1 a2 a3=>?_)) (λe=>?_)
 ·have ek : k = J := by simp at e; lia
  by_cases c1:j<sb
  ·exact SA i j a1 a2 x3
  ·by_cases c2 : i < sb
   ·exact F1 i j a1 x3 x3 x3
   ·exact SB i j x3 a2 x3
 have hk':k<J:=by simp at e;lia
 have g2':r (lab ls sb) (lab ls (sa+k))=true:=by simpa using g2 k (zi _) hk'
 have el:sa+k+(J-k)-1=sb-1:=x3
 rw[el]
 refine zo (yt x3 ?_)
 refine zo (gal (m:=I) (by':=λi=>r (lab ls (sb+i)) (lab ls (sb-1))) x3 (λi hi Q qq=>byd R W.kd (N.lt x3) x3 (N.lt x3) (N.ne x3 x3 x3) (by simpa using qq)) ?_ λm hm g3 g4=>?_)
 ·intro i j ah hj hb
  by_cases e:i=j
  ·rw[e];exact hb
  ·cases z : r (lab ls (sb + i)) (lab ls (sb - 1)) with
   |true=>rfl
   |false=>
    have:=aa x3 x3 x3 z (SB (sb+i) (sb+j) x3 x3 x3)
    rw[this] at hb;cases hb
 have F3:∀i j,sa<=i->i<sb->sb+m<=j->j<sb+I->r (lab ls j) (lab ls i)=false:=λi j a1 a2 b1 b2=>by
  have z:r (lab ls j) (lab ls (sb-1))=false:=by
   have:=g4 (j-sb) x3 x3
   rwa [show sb+(j-sb)=j by lia] at this
  by_cases e:i=sb-1
  ·rw[e];exact z
  ·exact aa x3 x3 x3 (SA i (sb-1) a1 x3 x3) z
 dsimp only;refine wN (λe=>zR (q ls t1 W P1 (λ_ _=>rfl) λi j a1 a2 a3=>?_)) (λe=>?_)
 ·have ek : m = 0 := by simpa using e
  by_cases c1:j<sb
  ·exact SA i j a1 a2 x3
  ·by_cases c2 : i < sb
   ·exact F3 i j a1 x3 x3 x3
   ·exact SB i j x3 a2 x3
 have hm':1<=m:=by simp at e;lia
 have eX:(ls.map item).extract (sa+k) sb=(ls.extract (sa+k) sb).map item:=by rw[xB]
 have eY:(ls.map item).extract sb (sb+m)=(ls.extract sb (sb+m)).map item:=by rw[xB]
 rw[eX,eY]
 have zX:(ls.extract (sa+k) sb).size=sb-(sa+k):=by rw[wT];lia
 have zY:(ls.extract sb (sb+m)).size=m:=by rw[wT];lia
 have T:Two n r (ls.extract (sa+k) sb) (ls.extract sb (sb+m)):=by
  refine⟨λx hx=>?_,λx hx=>?_,λx hx y hy=>?_,zF9 x3 λi j a b c=>SA i j x3 b x3,zF9 x3 λi j a b c=>SB i j x3 b x3⟩
  ·obtain⟨i,_,h2,rfl⟩:=jl x3 hx;exact N.lt x3
  ·obtain⟨i,_,h2,rfl⟩:=jl x3 hx;exact N.lt x3
  ·obtain ⟨i, _, h2, rfl⟩ := jl x3 hx
   obtain⟨j,h3,h4,rfl⟩:=jl x3 hy
   exact N.ne x3 x3 x3
 have c1:r (lab (ls.extract sb (sb+m)) 0) (lab (ls.extract (sa+k) sb) 0)=true:=by
  rw[Ws x3 x3,Ws x3 x3]
  exact g2'
 have c2:∀y∈(ls.extract sb (sb+m)).toList,r y (lab (ls.extract (sa+k) sb) ((ls.extract (sa+k) sb).size-1))=true:=λy hy=>by
  obtain⟨j,h3,h4,rfl⟩:=jl x3 hy
  rw[zX,Ws x3 x3,show sa+k+(sb-(sa+k)-1)=sb-1 by lia]
  have:=g3 (j-sb) x3
  rwa [show sb+(j-sb)=j by lia] at this
 have fin:∀Y t2,Same t1 t2->Good item r (ls.extract (sa+k) sb) (ls.extract sb (sb+m)) Y->wpS (model prog w) A E s (do
   modify λs=>setArr s (Y.toList.zipIdx.foldl (λa (p,j)=>a.setIfInBounds (sa+k+j) p) (arrOf s))
   return (failedOf (<- get)).isNone) Q t2:=λY t2 S ⟨M,eM,pM,uM⟩=>by
  refine zo (yN (zo (wpS_get ?_)))
  have ef:(failedOf (setArr t2 (Y.toList.zipIdx.foldl (λa (p,j)=>a.setIfInBounds (sa+k+j) p) (arrOf t2)))).isNone=true:=by
   show(failedOf t2).isNone=true;rw[S.ok,W.ok];rfl
  rw[ef]
  obtain⟨ls',b1,b2,b3,b4⟩:=back (a:=sa+k) (b:=sb) (c:=sb+m) N x3 x3 x3 pM
  refine zR (q ls' _ ⟨?_,S.kd.trans W.kd,S.ok.trans W.ok,b2⟩ (S.pend.trans P1) (λk' hk'=>b3 k' x3) λi j a1 a2 a3=>?_)
  ·show Y.toList.zipIdx.foldl (λa (p,j)=>a.setIfInBounds (sa+k+j) p) (arrOf t2)=_;rw[S.arr,W.arr,eM];exact b1
  ·have zM : M.size = sb + m - (sa + k) := by
    have:=pM.length_eq;rw[zk,zr,zk,zk,zX,zY] at this;lia
   have af:∀i,sa+k<=i->i<sb+m->∃i',sa+k<=i'/\i'<sb+m/\lab ls' i=lab ls i':=λi x1 x2=>by
    rw[b4 i x1 x2]
    have:lab M (i-(sa+k))∈(ls.extract (sa+k) sb).toList++(ls.extract sb (sb+m)).toList:=pM.mem_iff.mp (qD x3)
    rcases zU.mp this with h |h
    ·obtain⟨i',y1,y2,e⟩:=jl x3 h;exact⟨i',y1,x3,e⟩
    ·obtain⟨i',y1,y2,e⟩:=jl x3 h;exact⟨i',x3,y2,e⟩
   by_cases ci:i<sa+k
   ·rw [b3 i (.inl ci)]
    by_cases cj:j<sa+k
    ·rw [b3 j (.inl cj)]
     exact SA i j a1 a2 x3
    ·by_cases ae : j < sb + m
     ·obtain ⟨j', y1, y2, e⟩ := af j x3 ae
      rw[e]
      by_cases c3:j'<sb
      ·exact SA i j' a1 x3 x3
      ·exact F1 i j' a1 ci x3 x3
     ·rw [b3 j (.inr x3)]
      exact F1 i j a1 ci x3 x3
   ·by_cases ag : i < sb + m
    ·by_cases ae : j < sb + m
     ·rw [b4 i x3 ag, b4 j x3 ae]
      exact YY uM x3 x3
     ·rw [b3 j (.inr x3)]
      obtain⟨i',y1,y2,e⟩:=af i x3 ag
      rw[e]
      by_cases c3:i'<sb
      ·exact F3 i' j x3 c3 x3 x3
      ·exact SB i' j x3 x3 x3
    ·rw [b3 i (.inr x3), b3 j (.inr x3)]
     exact SB i j x3 a2 x3
 refine wN (λe=>?_) (λe=>?_)
 ·exact zo (mlo ⟨R,T,c1,c2⟩ W.kd x3 x3 fin)
 ·exact zo (mhi ⟨R,T,c1,c2⟩ W.kd x3 x3 fin)
end
section
variable {n:Nat}{item:Nat->Keyed}{kd:SortKind}{r:Nat->Nat->Bool}{ls:Array Nat}{t:SortSt}
theorem Nw.mir(N:Nw n item kd ls t){i j:Nat}(hj:j<=n):Nw n item kd (mirror ls i j ((j-i)/2)) (setArr t (mirror (arrOf t) i j ((j-i)/2))):=
 ⟨by show mirror (arrOf t) i j _=_;rw[N.arr];exact zQ1 (by rw[N.size];exact hj),N.kd,N.ok,(mirror_perm _ _ _ _).trans N.perm⟩
theorem Nw.bub(N:Nw n item kd ls t){src d:Nat}(I:src<n)(hd:d<=src):Nw n item kd (bubble ls src d) (setArr t (bubble (arrOf t) src d)):=
 ⟨by show bubble (arrOf t) src d=_;rw[N.arr];exact zS7 (by rw[N.size];exact I) hd,N.kd,N.ok,(bubble_perm _ _ _).trans N.perm⟩
structure Kp(lo:Nat)(ls:Array Nat)(t:SortSt)(ls':Array Nat)(t':SortSt):Prop where
 p:pendingOf t'=pendingOf t
 l:∀k,k<lo->lab ls' k=lab ls k
noncomputable def Dn(r:Nat->Nat->Bool)(ls:Array Nat)(s m:Nat):Prop:=∀i j,s<=i->i<j->j<s+m->r (lab ls i) (lab ls j)=false
noncomputable def Eqb(r:Nat->Nat->Bool)(ls:Array Nat)(a b:Nat):Prop:=∀i j,a<=i->i<b->a<=j->j<b->r (lab ls i) (lab ls j)=false
theorem Vt{a b k:Nat}(I:b<=ls.size)(hk:k<ls.size):∃k',lab (mirror ls a b ((b-a)/2)) k=lab ls k'/\(a<=k/\k<b->a<=k'/\k'<b)/\(¬(a<=k/\k<b)->k'=k):=by
 by_cases h:a<=k/\k<b
 ·exact⟨a+b-1-k,by rw[jX I hk,if_pos h],λ_=>by lia,λg=>absurd h g⟩
 ·exact⟨k,by rw[jX I hk,if_neg h],λg=>absurd g h,λ_=>rfl⟩
theorem zI5{lo x e:Nat}(hx:lo+x<=ls.size)(D:Dn r ls lo x)(he:e+1<=x)(Q:Eqb r ls (lo+x-(e+1)) (lo+x)):Dn r (mirror ls (lo+x-(e+1)) (lo+x) ((lo+x-(lo+x-(e+1)))/2)) lo x:=λi j h1 h2 h3=>by
 obtain⟨i',e1,f1,f2⟩:=Vt (ls:=ls) (a:=lo+x-(e+1)) (b:=lo+x) (k:=i) hx x3
 obtain⟨j',e2,I,Y⟩:=Vt (ls:=ls) (a:=lo+x-(e+1)) (b:=lo+x) (k:=j) hx x3
 rw[e1,e2]
 by_cases W:lo+x-(e+1)<=i/\i<lo+x
 ·have := f1 W
  have:=I x3
  exact Q _ _ x3 x3 x3 x3
 ·have c3 := f2 W
  by_cases J:lo+x-(e+1)<=j/\j<lo+x
  ·have := I J
   exact D _ _ x3 x3 x3
  ·have := Y J
   exact D _ _ x3 x3 x3
end
section
variable {prog:Program}{w:World}{A:Around}{E:QqV}{s:Shared}{n:Nat}{item:Nat->Keyed}{kd:SortKind}{r:Nat->Nat->Bool}{ls:Array Nat}{t:SortSt}
theorem xg7(R:WRule prog w A s n item kd r)(N:Nw n item kd ls t){i j:Nat}(hi:i<n)(hj:j<n)(I:i≠j){Q:Option Bool->SortSt->Prop}(q:Q (some (r (lab ls i) (lab ls j))) t):wpS (model prog w) A E s (ltAt' i j) Q t:=by
 have J:=N.size;rw[ltAt'_eq];refine zo (wpS_get ?_);dsimp only;rw[N.arr]
 exact zo (yt x3 (zo (yt x3 (Jb R N.kd (N.lt hi) (N.lt hj) (N.ne hi hj I) q))))
theorem WRule.irr(R:WRule prog w A s n item kd r){a:Nat}(h:a<n):r a a=false:=by
 cases z:r a a with
 |false=>rfl
 |true=>have:=R.asy a a h h z;rw[z] at this;exact this
theorem zy2{i j:Nat}{Q:Unit->SortSt->Prop}(q:Q () (setArr t (mirror (arrOf t) i j ((j-i)/2)))):wpS (model prog w) A E s (reverseSlice' i j) Q t:=by
 rw[reverseSlice'_eq];exact yN q
theorem xg8(R:WRule prog w A s n item kd r)(N:Nw n item kd ls t){lo a I:Nat}(h1:1<=a)(ha:a<=I)(hn:lo+I<=n)(U:Seg r ls lo a){x:Nat}(hx:x<I)(Y:a<=x)(V:Seg r ls lo x){Q:Option Bool->SortSt->Prop}
  (W:r (lab ls (lo+x)) (lab ls (lo+x-1))=true->Q (some true) t) (J:Seg r ls lo (x+1)->Q (some false) t):wpS (model prog w) A E s (ltAt' (lo+x) (lo+x-1)) Q t:=by
 refine xg7 R N x3 x3 x3 ?_
 cases z:r (lab ls (lo+x)) (lab ls (lo+x-1)) with
 |true=>exact W z
 | false =>
  refine J λi j i1 i2 i3=>?_
  by_cases hj:j<lo+x
  ·exact V i j i1 i2 hj
  ·obtain rfl : j = lo + x := by lia
   by_cases hi:i=lo+x-1
   ·rw[hi];exact z
   ·exact R.tr _ _ _ (N.lt x3) (N.lt (i:=lo+x-1) x3) (N.lt x3) (V i (lo+x-1) i1 x3 x3) z
theorem zV0(R:WRule prog w A s n item kd r)(N:Nw n item kd ls t){lo a I:Nat}(h1:1<=a)(ha:a<=I)(hn:lo+I<=n)(D:Dn r ls lo a){Q:Option Nat->SortSt->Prop}
  (q:∀m ls' t',1<=m->m<=I->Nw n item kd ls' t'->Kp lo ls t ls' t'->Seg r ls' lo m->Q (some m) t'):wpS (model prog w) A E s (JL lo a I) Q t:=by
 have hs:=N.size;unfold JL;refine zo (zy2 ?_)
 have N':=N.mir (i:=lo) (j:=lo+a) x3
 have K':Kp lo ls t (mirror ls lo (lo+a) ((lo+a-lo)/2)) (setArr t (mirror (arrOf t) lo (lo+a) ((lo+a-lo)/2))):=⟨rfl,λk hk=>by rw[jX x3 x3,if_neg x3]⟩
 have U:Seg r (mirror ls lo (lo+a) ((lo+a-lo)/2)) lo a:=λi j i1 i2 i3=>by
  rw[jX x3 x3,jX x3 x3,if_pos x3,if_pos x3]
  exact D _ _ x3 x3 x3
 generalize mirror ls lo (lo+a) ((lo+a-lo)/2)=ls' at N' K' U;generalize setArr t (mirror (arrOf t) lo (lo+a) ((lo+a-lo)/2))=t' at N' K' ⊢;refine zo (yY (wJ (λx c J=>J=t'/\c=(none,x)/\Seg r ls' lo x) (Q:=λc J=>J=t'/\∃m,c=(none,m)/\a<=m/\m<=I/\Seg r ls' lo m) ?_ ?_ ⟨rfl,rfl,U⟩) ?_)
 ·rintro x c J hx W ⟨rfl, rfl, V⟩;dsimp only
  exact zo (xg8 R N' h1 ha hn U W hx V (λ_=>zR ⟨rfl,x,rfl,hx,x3,V⟩) (λV'=>zR ⟨rfl,rfl,V'⟩))
 ·rintro c J ⟨rfl, rfl, V⟩
  rw[show max a I=I by lia] at V ⊢
  exact⟨rfl,I,rfl,ha,zi _,V⟩
 ·rintro c J ⟨rfl, m, rfl, m1, Y, V⟩
  exact zR (q m ls' J x3 Y N' K' V)
theorem xg2(R:WRule prog w A s n item kd r)(N:Nw n item kd ls t){lo a J:Nat}(h1:1<=a)(ha:a<J)(hn:lo+J<=n)(D:Dn r ls lo (a+1)){Q:Option Nat->SortSt->Prop}
  (q:∀m ls' t',1<=m->m<=J->Nw n item kd ls' t'->Kp lo ls t ls' t'->Seg r ls' lo m->Q (some m) t'):wpS (model prog w) A E s (UJ lo a J) Q t:=by
 have hs:=N.size;unfold UJ;refine zo (wpS_lift (wQ ⟨rfl,?_⟩))
 refine zo (yY (wJ (λx c t2=>∃(I:Array Nat) (e:Nat),c=(none,x,e)/\Nw n item kd I t2/\Kp lo ls t I t2/\Dn r I lo x/\e+1<=x/\Eqb r I (lo+x-(e+1)) (lo+x))
  (Q:=λc t2=>∃(I:Array Nat) (x e:Nat),c=(none,x,e)/\1<=x/\x<=J/\Nw n item kd I t2/\Kp lo ls t I t2/\Dn r I lo x/\e+1<=x/\Eqb r I (lo+x-(e+1)) (lo+x)) ?_ ?_ ⟨ls,0,rfl,N,⟨rfl,λ_ _=>rfl⟩,D,x3,?_⟩) ?_)
 ·rintro x c t2 hx af ⟨I, e, rfl, N2, Y, W, he, Q2⟩;have ae:=N2.size;dsimp only
  have one:∀(l3:Array Nat) (t3:SortSt),Nw n item kd l3 t3->Eqb r l3 (lo+(x+1)-(0+1)) (lo+(x+1)):=λl3 t3 N3 i j i1 i2 j1 j2=>by
   obtain⟨rfl,rfl⟩:i=lo+x/\j=lo+x:=x3
   exact R.irr (N3.lt x3)
  refine zo (xg7 R N2 x3 x3 x3 ?_)
  cases z:r (lab I (lo+x)) (lab I (lo+x-1)) with
  | true =>
   simp only[if_true]
   have below:∀p,lo<=p->p<lo+x->r (lab I p) (lab I (lo+x))=false:=λp p1 p2=>by
    have z':=R.asy _ _ (N2.lt x3) (N2.lt x3) z
    by_cases ep:p=lo+x-1
    ·rw[ep];exact z'
    ·exact R.tr _ _ _ (N2.lt x3) (N2.lt (i:=lo+x-1) x3) (N2.lt x3) z' (W p (lo+x-1) p1 x3 x3)
   refine wN (λh0=>?_) (λh0=>?_)
   ·refine zo (zy2 (zR ?_))
    have N3:=N2.mir (i:=lo+x-(e+1)) (j:=lo+x) x3
    refine⟨_,0,rfl,N3,⟨Y.p,λk hk=>?_⟩,λi j i1 i2 i3=>?_,x3,one _ _ N3⟩
    ·rw[jX x3 x3,if_neg x3];exact Y.l k hk
    ·by_cases hj : j < lo + x
     ·exact zI5 x3 W he Q2 i j i1 i2 hj
     ·obtain rfl : j = lo + x := by lia
      obtain⟨i',e1,f1,f2⟩:=Vt (ls:=I) (a:=lo+x-(e+1)) (b:=lo+x) (k:=i) x3 x3
      obtain⟨j',e2,g1,g2⟩:=Vt (ls:=I) (a:=lo+x-(e+1)) (b:=lo+x) (k:=lo+x) x3 x3
      rw[e1,e2,g2 x3]
      by_cases c1:lo+x-(e+1)<=i/\i<lo+x
      ·have := f1 c1
       exact below i' x3 x3
      ·rw[f2 c1];exact below i i1 x3
   ·refine zR ⟨I, 0, rfl, N2, Y, λi j i1 i2 i3 => ?_, by lia, one _ _ N2⟩
    by_cases hj:j<lo+x
    ·exact W i j i1 i2 hj
    ·obtain rfl : j = lo + x := by lia
     exact below i i1 x3
  | false =>
   simp only[xM,if_false]
   refine zo (xg7 R N2 x3 x3 x3 ?_)
   cases z2:r (lab I (lo+x-1)) (lab I (lo+x)) with
   |true=>exact zR ⟨I,x,e,rfl,x3,x3,N2,Y,W,he,Q2⟩
   | false =>
    have up:∀p,lo+x-(e+1)<=p->p<lo+x->r (lab I p) (lab I (lo+x))=false/\r (lab I (lo+x)) (lab I p)=false:=λp p1 p2=>by
     have y1:=Q2 p (lo+x-1) p1 p2 x3 x3
     have y2:=Q2 (lo+x-1) p x3 x3 p1 p2
     exact⟨R.tr _ _ _ (N2.lt x3) (N2.lt (i:=lo+x-1) x3) (N2.lt x3) z2 y1,R.tr _ _ _ (N2.lt x3) (N2.lt (i:=lo+x-1) x3) (N2.lt x3) y2 z⟩
    refine zR ⟨I,e+1,rfl,N2,Y,λi j i1 i2 i3=>?_,x3,λi j i1 i2 j1 j2=>?_⟩
    ·by_cases hj : j < lo + x
     ·exact W i j i1 i2 hj
     ·obtain rfl : j = lo + x := by lia
      by_cases hi:i=lo+x-1
      ·rw[hi];exact z2
      ·exact R.tr _ _ _ (N2.lt x3) (N2.lt (i:=lo+x-1) x3) (N2.lt x3) z2 (W i (lo+x-1) i1 x3 x3)
    ·by_cases c1 : i = lo + x
     ·by_cases c2 : j = lo + x
      ·rw[c1,c2];exact R.irr (N2.lt x3)
      ·rw[c1];exact(up j x3 x3).2
     ·by_cases c2 : j = lo + x
      ·rw[c2];exact(up i x3 x3).1
      ·exact Q2 i j x3 x3 x3 x3
 ·rintro c t2 ⟨I, e, rfl, N2, Y, W, he, Q2⟩
  rw[show max (a+1) J=J by lia] at W he Q2 ⊢
  exact⟨I,J,e,rfl,x3,zi _,N2,Y,W,he,Q2⟩
 ·intro i j i1 i2 j1 j2
  obtain⟨rfl,rfl⟩:i=lo+a/\j=lo+a:=x3
  exact R.irr (N.lt x3)
 ·rintro c t2 ⟨I, x, e, rfl, x1, x2, N2, Y, W, he, Q2⟩;have ae:=N2.size;dsimp only
  have aa:∀(l3:Array Nat) (t3:SortSt),Nw n item kd l3 t3->Kp lo ls t l3 t3->Dn r l3 lo x->wpS (model prog w) A E s (JL lo x J) Q t3:=λl3 t3 N3 K3 D3=>
   zV0 R N3 x1 x2 hn D3 λm ls' t' m1 m2 N' K' S'=>q m ls' t' m1 m2 N' ⟨K'.p.trans K3.p,λk hk=>(K'.l k hk).trans (K3.l k hk)⟩ S'
  refine wN (λh0=>?_) (λh0=>aa I t2 N2 Y W);refine zo (zy2 ?_)
  refine aa _ _ (N2.mir x3) ⟨Y.p,λk hk=>?_⟩ (zI5 x3 W he Q2)
  rw[jX x3 x3,if_neg x3];exact Y.l k hk
theorem xo2(R:WRule prog w A s n item kd r)(N:Nw n item kd ls t){lo I:Nat}(h1:1<=I)(hn:lo+I<=n){Q:Option Nat->SortSt->Prop}
  (q:∀m ls' t',1<=m->m<=I->Nw n item kd ls' t'->Kp lo ls t ls' t'->Seg r ls' lo m->Q (some m) t'):wpS (model prog w) A E s (countRun' lo I) Q t:=by
 have hs:=N.size;rw[countRun'_eq]
 have U:Seg r ls lo 1:=λi j a b c=>by lia
 refine zo (yY (wJ (λx c J=>J=t/\c=(none,x)/\Seg r ls lo x) (Q:=λc J=>J=t/\∃m,c=(none,m)/\1<=m/\m<=I/\Seg r ls lo m/\(m<I->r (lab ls (lo+m)) (lab ls (lo+m-1))=true)) ?_ ?_ ⟨rfl,rfl,U⟩) ?_)
 ·rintro x c J hx aa ⟨rfl, rfl, V⟩;dsimp only
  exact zo (xg8 R N (zi _) h1 hn U aa hx V (λz=>zR ⟨rfl,x,rfl,hx,x3,V,λ_=>z⟩) (λV'=>zR ⟨rfl,rfl,V'⟩))
 ·rintro c J ⟨rfl, rfl, V⟩
  rw[show max 1 I=I by lia] at V ⊢
  exact⟨rfl,I,rfl,h1,zi _,V,λh=>by lia⟩
 ·rintro c J ⟨rfl, m, rfl, W, m2, V, z⟩;dsimp only;have K0:Kp lo ls J ls J:=⟨rfl,λ_ _=>rfl⟩;refine wN (λe=>zR (q m ls J W m2 N K0 V)) (λe=>?_)
  have hm:m<I:=by simp at e;lia
  have z:=z hm
  have z':=R.asy _ _ (N.lt x3) (N.lt x3) z
  have Y:∀(l3:Array Nat) (t3:SortSt),Nw n item kd l3 t3->Kp lo ls J l3 t3->Dn r l3 lo (m+1)->wpS (model prog w) A E s (UJ lo m I) Q t3:=λl3 t3 N3 K3 D3=>
   xg2 R N3 W hm hn D3 λm ls' t' W m2 N' K' S'=>q m ls' t' W m2 N' ⟨K'.p.trans K3.p,λk hk=>(K'.l k hk).trans (K3.l k hk)⟩ S'
  refine wN (λg=>?_) (λg=>?_)
  ·refine zo (xg7 R N x3 x3 x3 ?_)
   cases z2:r (lab ls lo) (lab ls (lo+m-1)) with
   |true=>exact zR (q m ls J W m2 N K0 V)
   | false =>
    simp only[xM,if_false];refine zo (zy2 ?_)
    have ge:∀p,lo<=p->p<lo+m->r (lab ls lo) (lab ls p)=false:=λp p1 p2=>by
     by_cases ep:p=lo+m-1
     ·rw[ep];exact z2
     ·exact R.tr _ _ _ (N.lt x3) (N.lt (i:=lo+m-1) x3) (N.lt x3) (V p (lo+m-1) p1 x3 x3) z2
    have Q2:Eqb r ls lo (lo+m):=λi j i1 i2 j1 j2=>by
     rcases Nat.lt_trichotomy i j with c |c |c
     ·by_cases ei : i = lo
      ·rw[ei];exact ge j j1 j2
      ·exact R.tr _ _ _ (N.lt x3) (N.lt (i:=lo) x3) (N.lt x3) (ge j j1 j2) (V lo i x3 x3 i2)
     ·rw[c];exact R.irr (N.lt x3)
     ·exact V j i j1 c i2
    have below:∀p,lo<=p->p<lo+m->r (lab ls p) (lab ls (lo+m))=false:=λp p1 p2=>
     R.tr _ _ _ (N.lt x3) (N.lt (i:=lo+m-1) x3) (N.lt x3) z' (Q2 p (lo+m-1) p1 p2 x3 x3)
    refine Y _ _ (N.mir x3) ⟨rfl,λk hk=>?_⟩ λi j i1 i2 i3=>?_
    ·rw[jX x3 x3,if_neg x3]
    ·obtain ⟨i', e1, f1, f2⟩ := Vt (ls := ls) (a := lo) (b := lo + m) (k := i) x3 x3
     obtain⟨j',e2,g1,g2⟩:=Vt (ls:=ls) (a:=lo) (b:=lo+m) (k:=j) x3 x3
     rw[e1,e2]
     have fi:=f1 x3
     by_cases c2:j<lo+m
     ·have gj := g1 x3
      exact Q2 _ _ x3 x3 x3 x3
     ·rw [g2 x3, show j = lo + m by lia]
      exact below i' x3 x3
  ·obtain rfl : m = 1 := by lia
   refine Y ls J N K0 λi j i1 i2 i3=>?_
   obtain⟨rfl,rfl⟩:i=lo/\j=lo+1:=x3
   exact z'
theorem xv4(R:WRule prog w A s n item kd r)(N:Nw n item kd ls t){lo m f:Nat}(hm:m<=f)(hf:lo+f<=n)(U:Seg r ls lo m){Q:Bool->SortSt->Prop}(q:∀ls' t',Nw n item kd ls' t'->Kp lo ls t ls' t'->Seg r ls' lo f->Q true t'):wpS (model prog w) A E s (binarySort' lo f m) Q t:=by
 rw[binarySort'_eq];refine zo (yY (wJ (λk c t'=>c=(none,())/\∃ls',Nw n item kd ls' t'/\Kp lo ls t ls' t'/\Seg r ls' lo (min k f)) (Q:=λc t'=>c=(none,())/\∃ls',Nw n item kd ls' t'/\Kp lo ls t ls' t'/\Seg r ls' lo f) ?_ ?_ ⟨rfl,ls,N,⟨rfl,λ_ _=>rfl⟩,λi j i1 i2 i3=>?_⟩) ?_)
 ·rintro k c t' hk ae ⟨rfl, ls', N', K', U'⟩
  rw[show min k f=k by lia] at U'
  have aa:=N'.size
  refine zo (yY (wJ (λx c I=>I=t'/\∃l h,c=(none,l,h)/\l<=h/\h<=k/\h-l<=k-x/\(∀i,i<l->r (lab ls' (lo+k)) (lab ls' (lo+i))=false)/\∀i,h<=i->i<k->r (lab ls' (lo+i)) (lab ls' (lo+k))=false)
   (Q:=λc I=>I=t'/\∃l h,c=(none,l,h)/\l<=k/\(∀i,i<l->r (lab ls' (lo+k)) (lab ls' (lo+i))=false)/\∀i,l<=i->i<k->r (lab ls' (lo+i)) (lab ls' (lo+k))=false) ?_ ?_ ⟨rfl,0,k,rfl,x3,x3,x3,λi hi=>by lia,λi h1 h2=>by lia⟩) ?_)
  ·rintro x c I _ hx ⟨rfl, l, h, rfl, g1, g2, Y, W, J⟩;dsimp only
   refine wN (λhd=>zR ⟨rfl,l,h,rfl,x3,W,λi i1 i2=>J i x3 i2⟩) (λhd=>?_)
   refine zo (xg7 R N' x3 x3 x3 ?_)
   cases z:r (lab ls' (lo+k)) (lab ls' (lo+(l+h)/2))
   ·refine zR ⟨rfl, (l + h) / 2 + 1, h, rfl, by lia, by lia, by lia, λi hi => ?_, J⟩
    by_cases e:i=(l+h)/2
    ·rw[e];exact z
    ·exact R.tr _ _ _ (N'.lt x3) (N'.lt (i:=lo+(l+h)/2) x3) (N'.lt x3) (U' (lo+i) (lo+(l+h)/2) x3 x3 x3) z
   ·have z' := R.asy _ _ (N'.lt x3) (N'.lt x3) z
    refine zR ⟨rfl,l,(l+h)/2,rfl,x3,x3,x3,W,λi i1 i2=>?_⟩
    by_cases e:i=(l+h)/2
    ·rw[e];exact z'
    ·exact R.tr _ _ _ (N'.lt x3) (N'.lt (i:=lo+(l+h)/2) x3) (N'.lt x3) z' (U' (lo+(l+h)/2) (lo+i) x3 x3 x3)
  ·rintro c I ⟨rfl, l, h, rfl, g1, g2, Y, W, J⟩
   exact⟨rfl,l,h,rfl,x3,W,λi i1 i2=>J i x3 i2⟩
  ·rintro c I ⟨rfl, l, h, rfl, g1, g2, Y⟩;show wpS (model prog w) A E s (moveDown' (lo+k) (lo+l) >>= λ_=>pure (ForInStep.yield (none,()))) _ I;rw[moveDown'_eq]
   refine zo (yN (zR ⟨rfl,_,N'.bub (src:=lo+k) (d:=lo+k-(lo+l)) x3 x3,⟨K'.p,λp hp=>?_⟩,?_⟩))
   ·rw [Qy x3 x3 x3, if_neg x3, if_neg x3]
    exact K'.l p hp
   ·rw [show min (k + 1) f = k + 1 by lia]
    intro i j i1 af hj
    have el:lo+k-(lo+k-(lo+l))=lo+l:=x3
    have F2:∀i,lo<=i->i<lo+l->r (lab ls' (lo+k)) (lab ls' i)=false:=λi i1 i2=>by
     have:=g2 (i-lo) x3
     rwa [show lo+(i-lo)=i by lia] at this
    have F3:∀i,lo+l<=i->i<lo+k->r (lab ls' i) (lab ls' (lo+k))=false:=λi i1 i2=>by
     have:=Y (i-lo) x3 x3
     rwa [show lo+(i-lo)=i by lia] at this
    rw[Qy x3 x3 x3,Qy x3 x3 x3,el]
    by_cases c1:i=lo+l
    ·rw [if_neg (show ¬ j = lo + l by lia), if_pos (show lo + l < j /\ j <= lo + k by lia), if_pos c1]
     exact F3 _ x3 x3
    ·rw [if_neg c1]
     by_cases c2:j=lo+l
     ·rw [if_pos c2, if_neg (show ¬ (lo + l < i /\ i <= lo + k) by lia)]
      exact F2 _ i1 x3
     ·rw [if_neg c2]
      by_cases c3:lo+l<i/\i<=lo+k
      ·rw [if_pos c3, if_pos (show lo + l < j /\ j <= lo + k by lia)]
       exact U' _ _ x3 x3 x3
      ·rw [if_neg c3]
       by_cases c4:lo+l<j/\j<=lo+k
       ·rw[if_pos c4];exact U' _ _ x3 x3 x3
       ·rw[if_neg c4];exact U' _ _ x3 x3 x3
 ·rintro c t' ⟨rfl, ls', N', K', U'⟩
  rw[show min (max (max m 1) f) f=f by lia] at U'
  exact⟨rfl,ls',N',K',U'⟩
 ·exact U i j i1 i2 x3
 ·rintro c t' ⟨rfl,ls',N',K',U'⟩;exact zR (q ls' t' N' K' U')
end
noncomputable def Ch(r:Nat->Nat->Bool)(ls:Array Nat):Nat->List (Nat × Nat)->Nat->Prop
 |a,[],b=>a=b
 |a,(s,m)::rest,b=>s=a/\1<=m/\Seg r ls s m/\Ch r ls (a+m) rest b
noncomputable def prs(p:Array (Nat × Nat × Nat)):List (Nat × Nat):=p.toList.map λx=>(x.1,x.2.1)
section
variable {r:Nat->Nat->Bool}{ls ls':Array Nat}
theorem Ch.len:∀{l:List (Nat × Nat)}{a b:Nat},Ch r ls a l b->a+l.length<=b
 |[],a,b,h=>by rw[show a=b from h];exact zi _
 |(s,m)::l,a,b,h=>by have:=h.2.2.2.len;have:=h.2.1;rw[zL];lia
theorem Ch.split:∀{l1 l2:List (Nat × Nat)}{a b:Nat},Ch r ls a (l1++l2) b->∃c,Ch r ls a l1 c/\Ch r ls c l2 b
 |[],l2,a,b,h=>⟨a,rfl,h⟩
 |(s,m)::l1,l2,a,b,h=>by
  obtain⟨c,h1,h2⟩:=h.2.2.2.split;exact⟨c,⟨h.1,h.2.1,h.2.2.1,h1⟩,h2⟩
theorem Ch.join:∀{l1 l2:List (Nat × Nat)}{a b c:Nat},Ch r ls a l1 c->Ch r ls c l2 b->Ch r ls a (l1++l2) b
 |[],l2,a,b,c,h,g=>by rw[show a=c from h];exact g
 |(s,m)::l1,l2,a,b,c,h,g=>⟨h.1,h.2.1,h.2.2.1,h.2.2.2.join g⟩
theorem Seg.same{s m:Nat}(h:Seg r ls s m)(e:∀k,s<=k->k<s+m->lab ls' k=lab ls k):Seg r ls' s m:=λi j i1 i2 I=>by
 rw[e i i1 x3,e j x3 I];exact h i j i1 i2 I
theorem Ch.same:∀{l:List (Nat × Nat)}{a b:Nat},Ch r ls a l b->(∀k,a<=k->k<b->lab ls' k=lab ls k)->Ch r ls' a l b
 |[],a,b,h,_=>h
 |(s,m)::l,a,b,h,e=>by
  have z:=h.2.2.2.len;have W:=h.1
  exact⟨h.1,h.2.1,h.2.2.1.same λk J I=>e k x3 x3,h.2.2.2.same λk J I=>e k x3 I⟩
end
section
variable {prog:Program}{w:World}{A:Around}{E:QqV}{s:Shared}{n:Nat}{item:Nat->Keyed}{kd:SortKind}{r:Nat->Nat->Bool}{ls:Array Nat}{t:SortSt}
theorem zH5(R:WRule prog w A s n item kd r)(N:Nw n item kd ls t){lo i:Nat}(af:lo<=n)(C:Ch r ls 0 (prs (pendingOf t)) lo)(hi:i+1<(pendingOf t).size){Q:Bool->SortSt->Prop}
  (q:∀ls' t',Nw n item kd ls' t'->Ch r ls' 0 (prs (pendingOf t')) lo->(pendingOf t').size+1=(pendingOf t).size->(∀k,lo<=k->lab ls' k=lab ls k)->Q true t'):wpS (model prog w) A E s (mergeAt' i) Q t:=by
 have hl:(pendingOf t).toList.length=(pendingOf t).size:=zk
 have e1:(pendingOf t).toList=(pendingOf t).toList.take i++(pendingOf t)[i]::(pendingOf t)[i+1]::(pendingOf t).toList.drop (i+2):=by
  conv=>lhs;rw[<- wl i (pendingOf t).toList]
  congr 1
  rw[yr x3,yr x3]
  simp
 rcases ha:(pendingOf t)[i] with ⟨sa,na,p⟩;rcases hb:(pendingOf t)[i+1] with ⟨sb,nb,p2⟩;rw[ha,hb] at e1;have C':=C;unfold prs at C';rw[e1,xx] at C';obtain⟨c,c1,c2⟩:=C'.split;obtain⟨rfl,I,Y,c3⟩:=c2;obtain⟨rfl,aa,W,c4⟩:=c3;dsimp only at I aa Y W c4;have z4:=c4.len
 refine mat R N (by rw[wC x3,ha]) (by rw[wC x3,hb]) rfl I aa x3 Y W λls' t' N' P' S' G'=>?_
 have e2:(pendingOf t').toList=(pendingOf t).toList.take i++(sa,na+nb,p)::(pendingOf t).toList.drop (i+2):=by
  rw[P',Array.toList_eraseIdxIfInBounds,Array.toList_setIfInBounds]
  have J:((pendingOf t).toList.take i).length=i:=by rw[xh];lia
  generalize (pendingOf t).toList.take i=l1 at e1 J ⊢;generalize (pendingOf t).toList.drop (i+2)=l2 at e1 ⊢
  rw[e1,List.set_append_right _ _ x3,J,Nat.sub_self,List.set_cons_zero,List.eraseIdx_append_of_length_le x3,J,Nat.add_sub_cancel_left]
  rfl
 have ae:(pendingOf t').size+1=(pendingOf t).size:=by
  rw[<- zk,e2,zr,zL,xh,wj];lia
 refine q ls' t' N' ?_ ae λk hk=>S' k (.inr (zy x3 hk))
 unfold prs;rw[e2,xx];refine Ch.join (c1.same λk k1 k2=>S' k (.inl k2)) ⟨rfl,zy I (Nat.le_add_right ..),G',?_⟩;rw[<- Nat.add_assoc];exact c4.same λk k1 k2=>S' k (.inr k1)
theorem zR6{c:Prop}[Decidable c]{x:Nat}:(if c then x-1 else x)<=x:=by split<;>lia
theorem zN0{p:Array (Nat × Nat × Nat)}{i g:Nat}:prs (p.modify i λx=>(x.1,x.2.1,g))=prs p:=by
 unfold prs;rw[Array.toList_modify];refine List.ext_getElem? λk=>?_;rw[zv,zv,List.getElem?_modify]
 cases p.toList[k]? with
 |none=>rfl
 |some x=>by_cases h:i=k<;>simp[h]
theorem xg9(R:WRule prog w A s n item kd r)(N:Nw n item kd ls t)(hp:pendingOf t=#[])(h2:2<=n){Q:Unit->SortSt->Prop}(q:∀ls' t',arrOf t'=ls'.map item->failedOf t'=none->ls'.Perm (Array.range n)->Seg r ls' 0 n->Q () t'):wpS (model prog w) A E s sortRuns' Q t:=by
 rw[sortRuns'_eq];refine zo (wpS_get ?_)
 have ai:(arrOf t).size=n:=by rw[N.arr,zN,N.size]
 dsimp only;simp only[ai];generalize minRun' n n 0=mr
 refine zo (yY (wJ (λx c t'=>∃(ls':Array Nat) (lo:Nat),c=(none,lo)/\Nw n item kd ls' t'/\Ch r ls' 0 (prs (pendingOf t')) lo/\lo<=n/\x<=lo) (Q:=λc t'=>∃ls':Array Nat,c=(none,n)/\Nw n item kd ls' t'/\Ch r ls' 0 (prs (pendingOf t')) n) ?_ ?_ ⟨ls,0,rfl,N,?_,x3,x3⟩) ?_)
 ·rintro x c t' _ hx ⟨aa, lo, rfl, N1, C1, l1, l2⟩;dsimp only;refine wN (λe=>?_) (λe=>?_)
  ·obtain rfl : lo = n := by lia
   exact zR ⟨aa,rfl,N1,C1⟩
  ·refine zo (xo2 R N1 x3 x3 λm af W m1 m2 N2 K2 S2 => ?_)
   dsimp only
   have Y:Ch r af 0 (prs (pendingOf W)) lo:=by rw[K2.p];exact C1.same λk _ hk=>K2.l k hk
   have ae:∀(m:Nat) (l3:Array Nat) (I:SortSt),1<=m->m<=n-lo->Nw n item kd l3 I->Ch r l3 0 (prs (pendingOf I)) lo->Seg r l3 lo m ->
     ∃(l':Array Nat) (lo':Nat),((none,lo+m):Option Unit × Nat)=(none,lo')/\Nw n item kd l' (setPending I ((pendingOf I).push (lo,m,0)))/\Ch r l' 0 (prs (pendingOf (setPending I ((pendingOf I).push (lo,m,0))))) lo'/\lo'<=n/\x+1<=lo':=λm l3 I m1 m2 N3 C3 S3=>by
    refine⟨l3,lo+m,rfl,⟨N3.arr,N3.kd,N3.ok,N3.perm⟩,?_,x3,x3⟩
    show Ch r l3 0 (prs ((pendingOf I).push (lo,m,0))) (lo+m);unfold prs at C3 ⊢;rw[va,xx];exact C3.join ⟨rfl,m1,S3,rfl⟩
   have step:∀(pw:Nat) (m:Nat) (l3:Array Nat) (I:SortSt),Nw n item kd l3 I->Ch r l3 0 (prs (pendingOf I)) lo->Seg r l3 lo m->lo+m<=n->∀(i:Nat) (Q:Bool->SortSt->Prop),i+1<(pendingOf I).size->(∀l4 J,Nw n item kd l4 J->Ch r l4 0 (prs (pendingOf J)) lo->Seg r l4 lo m->Q true J)->wpS (model prog w) A E s (mergeAt' i) Q I:=λpw m l3 I N3 C3 S3 hm i Q hi hQ=>
    zH5 R N3 l1 C3 hi λl4 J N4 C4 _ K4=>hQ l4 J N4 C4 (S3.same λk k1 _=>K4 k k1)
   refine wN (λg=>zo (wpS_lift (wQ ⟨rfl,zo (xv4 R N2 x3 x3 S2 λl3 I N3 K3 S3=>?_)⟩))) (λg=>?_)
   case' refine_1=>
    simp only[Bool.not_true,xM,if_false]
    have C3:Ch r l3 0 (prs (pendingOf I)) lo:=by rw[K3.p];exact Y.same λk _ hk=>K3.l k hk
    have m3:1<=min (n-lo) mr:=x3
    have m4:min (n-lo) mr<=n-lo:=Nat.min_le_left ..;generalize min (n-lo) mr=f at m3 m4 S3 ⊢;clear N2 K2 S2 Y K3
   case' refine_2=>
    have N3:=N2;have C3:=Y;have S3:=S2;have m3:=m1;have m4:=m2;clear N2 K2 S2 Y;generalize af=l3 at *;generalize W=I at *;generalize m=f at *
   all_goals
    refine zo (wpS_get ?_)
    cases aj:(pendingOf I).back? with
    |none=>exact zo (yN (zR (ae f l3 I m3 m4 N3 C3 S3)))
    | some y =>
     obtain⟨s1,n1,p1⟩:=y;dsimp only;generalize power' n (2*s1+n1) (2*s1+n1+n1+f) n=pw;refine zo (yY (wJ (λx c J=>c=(none,())/\∃l4,Nw n item kd l4 J/\Ch r l4 0 (prs (pendingOf J)) lo/\Seg r l4 lo f) (Q:=λc J=>c=(none,())/\∃l4,Nw n item kd l4 J/\Ch r l4 0 (prs (pendingOf J)) lo/\Seg r l4 lo f) ?_ (λ_ _ h=>h) ⟨rfl,l3,N3,C3,S3⟩) ?_)
     ·rintro x c J _ _ ⟨rfl, l4, N4, C4, S4⟩;refine zo (wpS_get ?_)
      by_cases ag:(pendingOf J).size > 1
      ·rw [if_pos ag, wC x3]
       rcases(pendingOf J)[(pendingOf J).size-2] with ⟨a,b,ah⟩;dsimp only;refine wN (λ_=>zR ⟨rfl,l4,N4,C4,S4⟩) (λ_=>?_)
       refine zo (step pw f l4 J N4 C4 S4 x3 _ _ x3 λl5 t5 N5 C5 S5=>?_)
       exact zR ⟨rfl,l5,N5,C5,S5⟩
      ·rw[if_neg ag];exact zR ⟨rfl,l4,N4,C4,S4⟩
     ·rintro c J ⟨rfl,l4,N4,C4,S4⟩;dsimp only;refine zo (yN (zo (yN (zR (ae f l4 _ m3 m4 ⟨N4.arr,N4.kd,N4.ok,N4.perm⟩ ?_ S4)))));show Ch r l4 0 (prs ((pendingOf J).modify ((pendingOf J).size-1) λx=>(x.1,x.2.1,pw))) lo;rw[zN0];exact C4
 ·rintro c t' ⟨aa, lo, rfl, N1, C1, l1, l2⟩
  obtain rfl:lo=n:=x3
  exact⟨aa,rfl,N1,C1⟩
 ·rw[hp];rfl
 ·rintro c t' ⟨aa, rfl, N1, C1⟩;dsimp only;have z0:=C1.len
  have zp:∀W:SortSt,(prs (pendingOf W)).length=(pendingOf W).size:=λW=>by unfold prs;rw[zh,zk]
  rw[zp] at z0
  refine zo (yY (wJ (λx c W=>c=(none,())/\∃l2,Nw n item kd l2 W/\Ch r l2 0 (prs (pendingOf W)) n/\(pendingOf W).size+x<=n) (Q:=λc W=>c=(none,())/\∃l2,Nw n item kd l2 W/\Ch r l2 0 (prs (pendingOf W)) n/\(pendingOf W).size<=1) ?_ ?_ ⟨rfl,aa,N1,C1,x3⟩) ?_)
  ·rintro x c W _ hx ⟨rfl, l2, N2, Y, zx⟩;refine zo (wpS_get ?_);refine wN (λh=>zR ⟨rfl,l2,N2,Y,h⟩) (λh=>?_)
   refine zo (zH5 R N2 (zi _) Y ?_ λl3 I N3 C3 z3 _=>zR ⟨rfl,l3,N3,C3,x3⟩)
   exact Nat.lt_of_le_of_lt (Nat.add_le_add_right zR6 1) x3
  ·rintro c W ⟨rfl, l2, N2, Y, zx⟩
   exact⟨rfl,l2,N2,Y,x3⟩
  ·rintro c W ⟨rfl, l2, N2, Y, zx⟩;rw[<- zp] at zx;refine zR (q l2 W N2.arr N2.ok N2.perm ?_)
   revert Y zx
   generalize prs (pendingOf W)=l;intro Y zx
   match l,zx with
   |[],_=>exact absurd (show 0=n from Y) x3
   |[(s1,m1)],_=>
    obtain⟨rfl,_,S,e⟩:=Y;have e:0+m1=n:=e;rw[Nat.zero_add] at e;rw[<- e];exact S
theorem Rule.weak(R:Rule prog w A s n item kd r):WRule prog w A s n item kd λa b=>!decide (a=b)&&r a b where
 asy:=λa b ha I h=>by
  by_cases e:a=b
  ·simp[e] at h
  ·have e':¬ b=a:=λz=>e z.symm;simp[e] at h;have:=R.tot b a I ha e';rw[h] at this;simp[this]
 tr:=λa b c ha I J h1 h2=>by
  by_cases e1:b=a
  ·rw[e1] at h2;exact h2
  ·by_cases Y : c = b
   ·rw[Y];exact h1
   ·by_cases W : c = a
    ·simp[W]
    ·simp [e1] at h1;simp[Y] at h2;simp[W];have g1:=R.tot b a I ha e1;have g2:=R.tot c b J I Y;have g3:=R.tot c a J ha W;rw[h1] at g1;rw[h2] at g2
     have g4:=R.tr a b c ha I J (by simpa using g1.symm) (by simpa using g2.symm)
     rw[g3,g4];rfl
 cmp:=λa b ha I h E Q q=>R.cmp a b ha I h E Q (by simpa [h] using q)
theorem xh0(R:Rule prog w A s n item kd r)(N:Now n item kd ls t)(h2:2<=n){Q:Unit->SortSt->Prop}(q:∀ls' t',arrOf t'=ls'.map item->failedOf t'=none->ls'.Perm (Array.range n)->Up r ls' n->Q () t'):wpS (model prog w) A E s sortRuns' Q t:=by
 refine xg9 R.weak ⟨N.arr,N.kd,N.ok,N.perm⟩ N.pend h2 λls' t' h1 h3 h4 h5=>q ls' t' h1 h3 h4 λi j J hj=>?_
 have W:ls'.size=n:=by rw[h4.size_eq,yJ]
 have I:lab ls' i≠lab ls' j:=zP8 (YK h4) J x3
 have z:=h5 i j x3 J x3
 have hne':¬ lab ls' j=lab ls' i:=λe=>I e.symm;simp[hne'] at z
 rw[R.tot _ _ (Us h4 (qD x3)) (Us h4 (qD x3)) I,z];rfl
end
noncomputable abbrev Wb(vs:QqW):Nat->Keyed:=λi=>(vs.getD i .none,vs.getD i .none)
theorem XW(vs:QqW):vs.toArray.zip vs.toArray=(Array.range vs.length).map (Wb vs):=by
 refine Array.ext_getElem? λk=>?_;rw[yS]
 by_cases h:k<vs.length
 ·have J : (Array.range vs.length)[k]? = some k := by rw [Array.getElem?_range, if_pos h]
  rw[J]
  have I:(vs.toArray.zip vs.toArray)[k]?=some (vs[k],vs[k]):=by
   rw[wC (by simpa using h)]
   simp
  rw[I];simp[Wb,xa,h]
 ·rw [wA (by simp; lia), wA (by simp; lia)]
  rfl
section
variable {prog:Program}{w:World}{A:Around}{E:QqV}{s:Shared}{r:Nat->Nat->Bool}{kd:SortKind}
noncomputable abbrev Wx(h:Heap)(a:Addr)(vs:QqW):Heap:=((h.update a (Obj.mapSeq λ_=>#[])).push (seqObj "tuple" vs.toArray 0)).push (seqObj "list" #[] 0)
theorem zR8{a:Addr}{vs:QqW}{k:Nat}(I:s.heap.get? a=some (seqObj "list" vs.toArray k))(ae:vs.length<2000)
  (hk:2<=vs.length->∀(E:QqV) (Q:SortKind->Shared->Prop),Q kd { s with heap:=Wx s.heap a vs }->wpAny (model prog w) A (keyKind' vs.toArray) Q E { s with heap:=Wx s.heap a vs })
  (hR:2<=vs.length->WRule prog w A { s with heap:=Wx s.heap a vs } vs.length (Wb vs) kd r) {Q:Fin->Shared->Prop}
  (q:∀ls:Array Nat,ls.Perm (Array.range vs.length)->Seg r ls 0 vs.length->Q (.done (.ret .none)) { s with heap:=sortedHeap s.heap a vs (ls.map λi=>vs.getD i .none) }) :
  wpAny (model prog w) A (Builtin.«list.sort» ⟨[.ref a],[]⟩) Q E s:=by
 have Y:=zw I;obtain⟨W,at1⟩:∃W,(s.heap.update a (Obj.mapSeq λ_=>#[])).get? a=some (seqObj "list" #[] W):=⟨_,get?_update_seq I _⟩
 have J:(Wx s.heap a vs).get? a=some (seqObj "list" #[] W):=by
  have n1:a≠((s.heap.update a (Obj.mapSeq λ_=>#[])).push (seqObj "tuple" vs.toArray 0)).objs.size:=by rw[size_push',Heap.size_update];exact zJ (wM Y)
  have n2:a≠(s.heap.update a (Obj.mapSeq λ_=>#[])).objs.size:=by rw[Heap.size_update];exact zJ Y
  exact(Heap.get?_push_ne _ _ _ n1).trans ((Heap.get?_push_ne _ _ _ n2).trans at1)
 rw[list_sort_plain];refine zc (listItems_at I rfl ?_);refine zc (listUpdate_at I rfl (zc (seqEpoch_at at1 rfl ?_)));refine zc (wpAny_newTuple (zc (wpAny_newList (wU ?_))));show wpAny (model prog w) A _ Q E { s with heap:=Wx s.heap a vs };dsimp only
 have fin:∀(t:SortSt) (ls:Array Nat),arrOf t=ls.map (Wb vs)->failedOf t=none->ls.Perm (Array.range vs.length)->Seg r ls 0 vs.length ->
   wpAny (model prog w) A (do
    let touched:=(<- seqEpoch a) != W
    Builtin.List.listUpdate (.ref a) λ_=>(arrOf t).map (·.2)
    if let some e:=failedOf t then rule "list.sort.comparison-raised";throw e
    if touched then rule "list.sort.modified";raiseError "ValueError" "list modified during sort"
    ret .none) Q E { s with heap:=Wx s.heap a vs }:=λt ls h1 h2 h3 h4=>by
  have ea:(arrOf t).map (·.2)=ls.map λi=>vs.getD i .none:=by rw[h1,Array.map_map];rfl
  have es:((arrOf t).map (·.2)).size<=2000:=by rw[ea,zN,h3.size_eq,yJ];lia
  refine zc (seqEpoch_at J rfl ?_)
  refine zc (listUpdate_at J rfl ?_ (hsz2:=by rw[sizeLine_eq];exact zy es x4))
  rw[h2,ea];simp only[bne_self_eq_false,xM,if_false];exact zj (q ls h3 h4)
 by_cases c:vs.toArray.size<2
 ·rw [if_pos c, if_pos c];refine zc (zj ?_);rw[StateT.run_pure];refine zc (zj (fin _ (Array.range vs.length) (XW vs) rfl (Array.Perm.refl _) λi j i1 aa hj=>?_))
  have:vs.length<2:=by simpa using c
  lia
 ·rw [if_neg c, if_neg c]
  have h2:2<=vs.length:=by simpa using c
  refine zc (hk h2 _ _ ?_);have N0:Nw vs.length (Wb vs) kd (Array.range vs.length) (SortSt.mk' kd (vs.toArray.zip vs.toArray) #[] 7 none):=⟨XW vs,rfl,rfl,Array.Perm.refl _⟩;refine zc (wv (xg9 (hR h2) N0 rfl h2 (Q:=λ_ t=>∃ls:Array Nat,arrOf t=ls.map (Wb vs)/\failedOf t=none/\ls.Perm (Array.range vs.length)/\Seg r ls 0 vs.length) λls t a1 a2 a3 a4=>⟨ls,a1,a2,a3,a4⟩) ?_ λ_ _ e=>e);rintro⟨_,t⟩ s' ⟨rfl,ls,a1,a2,a3,a4⟩;exact fin t ls a1 a2 a3 a4
theorem zc9{l:Addr}{vs:QqW}(hl:s.heap.IsList l vs.toArray)(aa:vs.length<2000)
    (hk:2<=vs.length->∀(h':Heap),(∀b o,s.heap.get? b=some o->h'.get? b=some o)->∀(B:Around),B.units<=A.units+3->∀(E:QqV) (Q:SortKind->Shared->Prop),Q kd { s with heap:=h' }->wpAny (model prog w) B (keyKind' vs.toArray) Q E { s with heap:=h' })
    (hR:2<=vs.length->∀(h':Heap),(∀b o,s.heap.get? b=some o->h'.get? b=some o)->∀(B:Around),B.units<=A.units+3->WRule prog w B { s with heap:=h' } vs.length (Wb vs) kd r) {Q:QqV}
    (q:∀ls:Array Nat,ls.Perm (Array.range vs.length)->Seg r ls 0 vs.length->Q (.ref (s.heap.objs.size+1)) { s with heap:=sortedAll s.heap vs (ls.map λi=>vs.getD i .none) }) :
    wpAny (model prog w) A (call (.builtin "sorted") [.ref l]) Q E s:=by
  refine Calls.call_function_entry kind_sorted plain_sorted entry_sorted (args_sorted1 _) ?_;unfold Builtin.«sorted»;refine zc (m:=checkCount "sorted" 1 1 _) (zj (zc (collect_list hl (zc (wpAny_newList ?_)))))
  have z1:((s.heap.push (seqObj "list" #[] 0)).update s.heap.objs.size (Obj.mapSeq (·++vs.toArray))).objs.size=s.heap.objs.size+1:=by rw[Heap.size_update,size_push']
  let h1:Heap:=((s.heap.push (seqObj "list" #[] 0)).update s.heap.objs.size (Obj.mapSeq (·++vs.toArray))).push (seqObj "list" vs.toArray 0)
  have at1:h1.get? (s.heap.objs.size+1)=some (seqObj "list" vs.toArray 0):=by rw[<- z1];exact zD _ rfl
  have W:∀b o,s.heap.get? b=some o->h1.get? b=some o:=λb o e=>by
    have Y:=zw e;refine zg _ ?_;rw[Heap.get?_update_ne _ _ _ _ (zJ Y)];exact zg _ e
  have I:∀b o,s.heap.get? b=some o->(Wx h1 (s.heap.objs.size+1) vs).get? b=some o:=λb o e=>by
    have Y:=zw e;refine zg _ (zg _ ?_);rw[Heap.get?_update_ne _ _ _ _ (zJ (wM Y))];exact W b o e
  have eH:∀J:Array Value,sortedHeap h1 (s.heap.objs.size+1) vs J=sortedAll s.heap vs J:=λ_=>rfl
  have body:∀B:Around,B.units<=A.units+3->∀(E:QqV) (P:Fin->Shared->Prop),(∀ls:Array Nat,ls.Perm (Array.range vs.length)->Seg r ls 0 vs.length->P (.done (.ret .none)) { s with heap:=sortedAll s.heap vs (ls.map λi=>vs.getD i .none) }) ->
      wpAny (model prog w) B (Builtin.«list.sort» ⟨[.ref (s.heap.objs.size+1)],[]⟩) P E { s with heap:=h1 }:=λB hB E P p=>
    zR8 (s:={ s with heap:=h1 }) at1 aa (λh2 E Q q=>hk h2 _ I B hB E Q q) (λh2=>hR h2 _ I B hB) λls a1 a2=>by
      show P _ { s with heap:=sortedHeap h1 (s.heap.objs.size+1) vs _ };rw[eH];exact p ls a1 a2
  show wpAny _ _ _ _ _ { s with heap:=h1 };rw[z1]
  clear_value h1
  refine zc (wU (yg slot_list_sort ⟨_,at1,rfl⟩ entry_list_sort (body _ ?_ _ _ λls a1 a2=>⟨_,rfl,zj ⟨_,rfl,q ls a1 a2⟩⟩) (args_list_sort _)));show A.units+1+1<=A.units+3;lia
end
end L2.Srt
namespace L2
open PySem PySem.Spec PyProof.Rows PySem.SeqAt
theorem ints_at:∀{vs:QqW}{ns:List Int},IntsAre vs ns->∀{i:Nat},i<vs.length->∃t,vs.getD i .none=.int (ns.getD i 0) t
 |_,_,.cons n t h,0,_=>⟨t,rfl⟩
 |_,_,.cons n t h,i+1,hi=>by
  obtain⟨u,e⟩:=ints_at h (i:=i) (by simpa using hi)
  exact⟨u,by simpa using e⟩
theorem zb0:∀{vs:QqW}{ns:List Int},IntsAre vs ns->vs.length=ns.length
 |_,_,.nil=>rfl
 |_,_,.cons n t h=>by simp[zb0 h]
theorem Jf{vs:QqW}{ns:List Int}(h:IntsAre vs ns):∀{ls:List Nat},(∀i∈ls,i<vs.length)->IntsAre (ls.map λi=>vs.getD i .none) (ls.map λi=>ns.getD i 0)
 |[],_=>.nil
 |i::ls,I=>by
  obtain⟨t,e⟩:=ints_at h (I i (xo ..));rw[al_List_map_cons,al_List_map_cons,e];exact .cons _ t (Jf h λj hj=>I j (zG _ hj))
theorem zq1:∀{vs:QqW}{ns:List Int},IntsAre vs ns->2<=vs.length->keyKind' vs.toArray=pure oneType'
 |_::_::_,_,h,_=>keyKind_ints h
 |[],_,_,h=>by simp at h
 |[_],_,_,h=>by simp at h
section
variable {prog:Program}{w:World}{A:Around}{E:QqV}{s:Shared}
theorem Kl{l:Addr}{vs:QqW}{ns:List Int}{Q:QqV}(hl:s.heap.IsList l vs.toArray)(J:IntsAre vs ns)(h9:vs.length<2000)
    (h:∀(I:Array Value) (ns':List Int),IntsAre I.toList ns'->ns'.Perm ns->ns'.Pairwise (·<=·)->Q (.ref (s.heap.objs.size+1)) { s with heap:=sortedAll s.heap vs I }) :
    wpAny (model prog w) A (call (.builtin "sorted") [.ref l]) Q E s:=by
  have len:=zb0 J;refine Srt.zc9 (kd:=oneType') (r:=λa b=>decide (ns.getD a 0<ns.getD b 0)) hl h9 (λh2 h' o B hB E Q q=>?_) (λh2 h' o B hB=>⟨λa b _ _ z=>?_,λa b c _ _ _ z1 z2=>?_,λa b ha hb _ E Q q=>?_⟩) λls W hs=>?_
  · rw [zq1 J h2]
    exact zj q
  · simp at z ⊢;lia
  · simp at z1 z2 ⊢;lia
  · obtain ⟨t, e1⟩ := ints_at J ha
    obtain⟨u,e2⟩:=ints_at J hb;show wpAny (model prog w) B (keyLt' oneType' (vs.getD a .none) (vs.getD b .none)) Q E _;rw[e1,e2,keyLt'_oneType];exact oneLt_int q
  · have hm : ∀ i ∈ ls.toList, i < vs.length := λi hi => Srt.Us W hi
    have aa:ls.size=vs.length:=by rw[W.size_eq,yJ]
    refine h _ (ls.toList.map λi=>ns.getD i 0) (by rw[Array.toList_map];exact Jf J hm) ?_ ?_
    · have e : (List.range vs.length).map (λi => ns.getD i 0) = ns := by
        refine List.ext_getElem (by simp[len]) λi h1 h2=>?_
        rw[List.getElem_map,List.getElem_range,xa,ze h2];rfl
      have:=(wt.mp W).map λi=>ns.getD i 0;rw[Array.toList_range,e] at this;exact this
    · rw [yC]
      refine wB.mpr λi j hi hj Y=>?_;rw[zk] at hi hj
      have z:=hs i j x3 Y x3
      have ei:=Srt.vd (ls:=ls) hi;have ej:=Srt.vd (ls:=ls) hj
      rw[<- zP,ze (by rw[zk];exact hi)] at ei
      rw[<- zP,ze (by rw[zk];exact hj)] at ej
      rw[zB ei,zB ej];simp at z;exact z
end
section
variable {X:Cx}{A:AC}
theorem Xg:jr X (.builtin "sorted") (λxs H Q=>∃(p:Addr) (ns:List Int),xs=[.ref p]/\SqL X.K H p (ns.map V.int)/\ns.length<2000/\∀J:List Int,J.Perm ns->J.Pairwise (·<=·)->∀l,H l=none->Q (.ref l) (upd H l (.lst (J.map V.int)))):=by
  intro Y s σ H xs us Q I r h;obtain⟨p,ns,rfl,hq,hn,q⟩:=h
  cases r with
  | cons r rr =>
    cases rr;cases r;obtain⟨its,rv,pl,_⟩:=I.list hq;have hl:=pl.isList
    have aa:its.length=ns.length:=by have:=rv.length;simpa using this.symm
    refine Kl hl (Zo rv) x3 λW J hi hp hs=>?_
    obtain⟨e,he⟩:=sortedAll_at s.heap its W;have ae:J.length=ns.length:=hp.length_eq;have hf:H (s.heap.objs.size+1)=none:=I.hok.fresh (wo _);refine⟨.ref (s.heap.objs.size+1),_,I.laid (t':=s.toks) (o:=.lst (J.map V.int)) (λb u e=>sortedAll_old e) (wo _) ?_,rfl,q J hp hs _ hf⟩
    exact⟨by rw[zh];exact zy (show J.length<=2000 by lia) x4,W.toList,e,jC hi,he⟩
noncomputable def zD3:List D->(D->Prop)->Prop:=λes k=>∃ns:List Int,es=[.lst (ns.map D.int)]/\ns.length<2000/\∀I:List Int,I.Perm ns->I.Pairwise (·<=·)->k (.lst (I.map D.int))
theorem VF:vA A (λxs H Q=>∃(p:Addr) (ns:List Int),xs=[.ref p]/\SqL A.K H p (ns.map V.int)/\ns.length<2000/\∀J:List Int,J.Perm ns->J.Pairwise (·<=·)->∀l,H l=none->Q (.ref l) (upd H l (.lst (J.map V.int)))) zD3:=by
  rintro os n rho sg H ds vs es ws k Q I W ⟨ns,rfl,hn,q⟩ hQ;obtain⟨v,rfl,r⟩:=kX W;obtain⟨a,xs,rfl,sq,Y⟩:=r.lst_inv;have e:=kF Y;subst e;exact⟨a,ns,rfl,sq.sq,hn,λJ h1 h2 l hl=>hQ _ _ _ ⟨os,I.newLst jQ hl⟩ (q J h1 h2)⟩
end
end L2
namespace L2.Srt
open PySem PyProof.Rows PySem.SeqAt
section
variable {prog:Program}{w:World}{M:Model}{A:Around}{E:QqV}{s:Shared}
theorem zh8{α β:Type}{f:α->Sem β}{g:α->β}:∀{l:List α}{Q:List β->Shared->Prop},(∀a∈l,∀Q:β->Shared->Prop,Q (g a) s->wpAny M A (f a) Q E s)->Q (l.map g) s->wpAny M A (l.mapM f) Q E s
 |[],Q,_,q=>by rw[List.mapM_nil];exact zj q
 |a::l,Q,h,q=>by
  rw[List.mapM_cons];refine zc (h a (xo ..) _ (zc (zh8 (λb I=>h b (zG _ I)) (zj q))))
theorem zh9{α β:Type}{f:α->Sem β}{g:α->β}{l:List α}{Q:Array β->Shared->Prop}(h:∀a∈l,∀Q:β->Shared->Prop,Q (g a) s->wpAny M A (f a) Q E s)(q:Q (l.map g).toArray s):wpAny M A (l.toArray.mapM f) Q E s:=by
 rw[List.mapM_toArray];show wpAny M A (List.toArray <$> l.mapM f) Q E s;rw[map_eq_pure_bind];exact zc (zh8 h (zj q))
theorem Xo(v:Value):firstOfTuple' v=(do
  if (<- typeOf v) != .type "tuple" then return none
  return (<- Builtin.List.listItems v)[0]?):=rfl
noncomputable def Tup(h:Heap)(v:Value)(p:Value)(rest:QqW):Prop:=∃a,v=.ref a/\IsTup h a (p::rest).toArray
theorem Tup.type{v p:Value}{rest:QqW}(t:Tup s.heap v p rest):s.TypeIs v "tuple" := by
 obtain⟨a,rfl,o,I,J,_⟩:=t;exact⟨o,I,J⟩
theorem Tup.items{v p:Value}{rest:QqW}(t:Tup s.heap v p rest){Q:Array Value->Shared->Prop}(q:Q (p::rest).toArray s):wpAny M A (Builtin.List.listItems v) Q E s:=by
 obtain⟨a,rfl,o,I,J,n,hd⟩:=t;exact listItems_at I hd q
theorem Qo{vs:QqW}{fst:Value->Value}{T:String}(h2:2<=vs.length)(J:∀v∈vs,∃rest,Tup s.heap v (fst v) rest)(W:∀v∈vs,s.TypeIs (fst v) T){Q:SortKind->Shared->Prop}(q:Q (tuples' (Value.type T != Value.type "tuple")) s):wpAny M A (keyKind' vs.toArray) Q E s:=by
  rw[keyKind'_eq];refine zc (zh9 (g:=λv=>some (fst v)) (λv hv Q q=>?_) ?_)
  · obtain ⟨rest, t⟩ := J v hv
    rw[Xo];refine zc (wpAny_typeOf t.type ?_)
    have e:(Value.type "tuple" != Value.type "tuple")=false:=by rfl
    rw[e];exact zc (t.items (zj q))
  · have e : (vs.map λv => some (fst v)).toArray.all (·.isSome) = true := by simp
    rw[if_pos e];refine zc (wQ ?_)
    have e2:((vs.map λv=>some (fst v)).toArray.filterMap id)=(vs.map fst).toArray:=by
      simp[yn]
    rw[e2,oneTypeOnly'_eq];refine zc (zc (zh9 (g:=λ_=>Value.type T) (λv hv Q q=>?_) ?_))
    · obtain ⟨u, I, rfl⟩ := zQ.mp hv
      exact wpAny_typeOf (W u I) q
    · have e3 : ((vs.map fst).map λ_ => Value.type T).toArray[0]? = some (Value.type T) := by
        cases vs with
        |nil=>simp at h2
        |cons v vs=>simp
      have Y:(((vs.map fst).map λ_=>Value.type T).toArray.all (· == Value.type T))=true:=by
        simp only[List.all_toArray,yw,xz];intro _ _;show(Value.type T == Value.type T)=true;simp
      rw[e3];dsimp only;rw[Y];exact zj (zj q)
theorem UB(f:Bool)(x y:Value):keyLt' (tuples' f) x y=(do
  let xs <- Builtin.List.listItems x
  let ys <- Builtin.List.listItems y
  for ((p,q),i) in (xs.toList.zip ys.toList).zipIdx do
   if !(<- eqBool p q) then return <- oneLt' (f&&i == 0) p q
  return xs.size<ys.size):=rfl
inductive Lex(A:Around)(s:Shared)(f:Bool)(b:Bool):Nat->List Value->List Value->Prop
 |alike {i:Nat}{p q:Value}{ps qs:QqW}:EqAt A s p q true->Lex A s f b (i+1) ps qs->Lex A s f b i (p::ps) (q::qs)
 |here {i:Nat}{p q:Value}{ps qs:QqW}:EqAt A s p q false->(∀(prog:Program) (w:World) (E:QqV) (Q:Bool->Shared->Prop),Q b s->wpAny (model prog w) A (oneLt' (f&&i == 0) p q) Q E s)->Lex A s f b i (p::ps) (q::qs)
theorem zq3{f b:Bool}{x y p q:Value}{ps J:QqW}(tx:Tup s.heap x p ps)(ty:Tup s.heap y q J)(L:Lex A s f b 0 (p::ps) (q::J)){Q:Bool->Shared->Prop}(h:Q b s):wpAny (model prog w) A (keyLt' (tuples' f) x y) Q E s:=by
 rw[UB];refine zc (tx.items (zc (ty.items ?_)))
 refine zc (wpAny_forIn_list _ (λrest c s'=>s'=s/\c.1=none/\∃i xs ys,rest=(xs.zip ys).zipIdx i/\Lex A s f b i xs ys) (λc s'=>s'=s/\c.1=some b) ?turn ?fin _ _ ⟨rfl,rfl,0,p::ps,q::J,by simp,L⟩ |> λz=>wv z ?post λ_ _ e=>e)
 case turn=>
  rintro⟨⟨u,v⟩,k⟩ rest c s' ⟨rfl,Y,i,xs,ys,e,L⟩
  cases L with
  |alike W L=>
   rw[yl,yI] at e;injection e with I e2;injection I with I e3;injection I with e4 e5;subst e3 e4 e5;refine zc (W prog w _ _ ?_);simp only[Bool.not_true,xM,if_false];exact zj ⟨rfl,rfl,_,_,_,e2,L⟩
  |here W ho=>
   rw[yl,yI] at e;injection e with I e2;injection I with I e3;injection I with e4 e5;subst e3 e4 e5;refine zc (W prog w _ _ ?_);simp only[Bool.not_false,if_true];exact zc (ho prog w _ _ (zj ⟨rfl,rfl⟩))
 case fin=>
  rintro c s' ⟨_,_,i,xs,ys,e,L⟩
  cases L<;>(rw[yl,yI] at e;cases e)
 case post=>
  rintro c s' ⟨rfl,Y⟩;obtain⟨c1,c2⟩:=c;simp only at Y;subst Y;exact zj h
theorem Wd{i j:Int}{t u:Tok}{Q:Bool->Shared->Prop}(h:Q (decide (i<j)) s):wpAny (model prog w) A (oneLt' false (.int i t) (.int j u)) Q E s:=by
 rw[oneLt'_eq];simp only[xM,if_false];exact zc (show wpAny (model prog w) A (compareOp .Lt (.int i t) (.int j u)) _ _ _ from PyProof.Rows.lt_int (xZ h))
theorem Wc{a b:Addr}{xs ys:Array Value}{ns I:List Int}(ha:IsTup s.heap a xs)(W:IsTup s.heap b ys)(hi:IntsAre xs.toList ns)(hj:IntsAre ys.toList I)(J:A.units<cLine){Q:Bool->Shared->Prop}(h:Q (HT.qO ns I) s):wpAny (model prog w) A (oneLt' false (.ref a) (.ref b)) Q E s:=by
 rw[oneLt'_eq];simp only[xM,if_false];exact zc (show wpAny (model prog w) A (compareOp .Lt (.ref a) (.ref b)) _ _ _ from HT.zf0 ha W hi hj J (xZ h))
theorem Yj(f:Bool){i j:Int}{t u:Tok}{Q:Bool->Shared->Prop}(h:Q (decide (i<j)) s):wpAny (model prog w) A (oneLt' f (.int i t) (.int j u)) Q E s:=by
 cases f with
 |true=>exact oneLt_int h
 |false=>exact Wd h
end
end L2.Srt
namespace L2
open PySem PySem.Spec PyProof.Rows PySem.SeqAt
noncomputable def xO5(X:Cx)(H:Hp)(f:Bool)(y:V):Prop:=∀I s σ v,Inv X I σ H s->RelV y v->∃p rest,Srt.Tup s.heap v p rest/\s.TypeIs p (if f then "int" else "tuple")
noncomputable def xO7(X:Cx)(H:Hp)(f:Bool)(y z:V)(b:Bool):Prop:=∀I s σ u v,Inv X I σ H s->RelV y u->RelV z v->∀A:Around,A.units+60<cLine->∃p ps q J,Srt.Tup s.heap u p ps/\Srt.Tup s.heap v q J/\Srt.Lex A s f b 0 (p::ps) (q::J)
theorem Vals.getD{xs:List V}{us:QqW}(h:Vals xs us){i:Nat}(hi:i<xs.length):RelV (xs.getD i .non) (us.getD i .none):=by
 obtain⟨u,e,r⟩:=h.get (ze hi);rw[xa,xa,e,ze hi];exact r
theorem Kc{xs:List V}{us:QqW}(h:Vals xs us):∀{ls:List Nat},(∀i∈ls,i<xs.length)->Vals (ls.map λi=>xs.getD i .non) (ls.map λi=>us.getD i .none)
 |[],_=>.nil
 |i::ls,I=>.cons (h.getD (I i (xo ..))) (Kc h λj hj=>I j (zG _ hj))
section
variable {X:Cx}
end
inductive SKey where
 |n (i:Int) |t (ns:List Int)
 deriving DecidableEq
noncomputable def SKey.d:SKey->D
 |.n i=>.int i
 |.t ns=>.tup (ns.map D.int)
noncomputable def SKey.num:SKey->Bool
 |.n _=>true
 |.t _=>false
noncomputable def SKey.lt:SKey->SKey->Bool
 |.n i,.n j=>decide (i<j)
 |.t ns,.t I=>HT.qO ns I
 |_,_=>false
structure SRow where
 key:SKey
 name:Int
 rest:List D
noncomputable def SRow.d(x:SRow):D:=.tup (x.key.d::.int x.name::x.rest)
noncomputable def SRow.lt(x y:SRow):Bool:=if x.key=y.key then decide (x.name<y.name) else x.key.lt y.key
theorem za7:∀(xs ys:List Int),xs≠ys->HT.qO xs ys=!HT.qO ys xs
 |[],[],h=>absurd rfl h
 |[],y::ys,_=>rfl
 |x::xs,[],_=>rfl
 | x :: xs, y :: ys, h => by
  rw[HT.qN,HT.qN]
  by_cases e:x=y
  ·subst e;rw[if_pos rfl,if_pos rfl]
   exact za7 xs ys λz=>h (by rw[z])
  ·rw [if_neg e, if_neg (Ne.symm e)]
   by_cases l:x<y
   ·rw[xC l,zS x3];rfl
   ·rw[zS l,xC x3];rfl
theorem zp6:∀(xs:List Int),HT.qO xs xs=false
 |[]=>rfl
 |x::xs=>by rw[HT.qN,if_pos rfl];exact zp6 xs
theorem Jc:∀(xs ys J:List Int),HT.qO xs ys=true->HT.qO ys J=true->HT.qO xs J=true
 |[],[],_,h,_=>by cases h
 |[],_::_,[],_,h=>by cases h
 |[],_::_,_::_,_,_=>rfl
 |_::_,[],_,h,_=>by cases h
 |_::_,_::_,[],_,h=>by cases h
 | x :: xs, y :: ys, z :: J, h1, h2 => by
  rw[HT.qN] at h1 h2 ⊢
  by_cases W:x=y
  ·subst W;rw[if_pos rfl] at h1
   by_cases I:x=z
   ·subst I;rw[if_pos rfl] at h2 ⊢;exact Jc xs ys J h1 h2
   ·rw[if_neg I] at h2 ⊢;exact h2
  ·rw [if_neg W] at h1;have l1:=of_decide_eq_true h1
   by_cases I:y=z
   ·subst I;rw[if_neg W];exact h1
   ·rw [if_neg I] at h2;have l2:=of_decide_eq_true h2
    rw[if_neg x3]
    exact xC x3
theorem SKey.lt_anti{x y:SKey}(J:x.num=y.num)(h:x≠y):x.lt y=!y.lt x:=by
 cases x with
 | n i =>
  cases y with
  |n j=>
   have:i≠j:=λz=>h (by rw[z])
   simp only[SKey.lt]
   by_cases l:i<j
   ·rw[xC l,zS x3];rfl
   ·rw[zS l,xC x3];rfl
  |t I=>cases J
 |t ns=>
  cases y with
  |n j=>cases J
  |t I=>exact za7 ns I λz=>h (by rw[z])
theorem SKey.lt_irr(x:SKey):x.lt x=false:=by
 cases x with
 |n i=>simp[SKey.lt]
 |t ns=>exact zp6 ns
theorem SKey.lt_trans{x y z:SKey}(h1:x.lt y=true)(h2:y.lt z=true):x.lt z=true:=by
 cases x<;>cases y<;>cases z<;>first
  |(cases h1;done) |(cases h2;done)
  |(simp only[SKey.lt,yB] at h1 h2 ⊢;lia)
  |exact Jc _ _ _ h1 h2
theorem SRow.lt_anti{x y:SRow}(I:x.key.num=y.key.num)(h:x.name≠y.name):x.lt y=!y.lt x:=by
 unfold SRow.lt
 by_cases e:x.key=y.key
 ·rw [if_pos e, if_pos e.symm]
  by_cases l:x.name<y.name
  ·rw[xC l,zS x3];rfl
  ·rw[zS l,xC x3];rfl
 ·rw[if_neg e,if_neg (Ne.symm e)];exact SKey.lt_anti I e
theorem SRow.lt_trans{x y z:SRow}(h1:x.lt y=true)(h2:y.lt z=true):x.lt z=true:=by
 unfold SRow.lt at *
 by_cases J:x.key=y.key
 ·rw [if_pos J] at h1
  by_cases I:y.key=z.key
  ·rw[if_pos I] at h2;rw[if_pos (J.trans I)];simp only[yB] at *;lia
  ·rw [if_neg I] at h2
   rw[if_neg (by rw[J];exact I),J]
   exact h2
 ·rw [if_neg J] at h1
  by_cases I:y.key=z.key
  ·rw [if_neg (by rw [<- I]; exact J), <- I]
   exact h1
  ·rw [if_neg I] at h2;have h3:=SKey.lt_trans h1 h2
   by_cases W:x.key=z.key
   ·rw[W,SKey.lt_irr] at h3;cases h3
   ·rw[if_neg W];exact h3
noncomputable def QR:SRow:=⟨.n 0,0,[]⟩
theorem eqDs_ints:∀(xs ys:List Int),jz (xs.map D.int) (ys.map D.int)=decide (xs=ys)
 |[],[]=>by unfold jz;rfl
 |[],y::ys=>by unfold jz;simp
 |x::xs,[]=>by unfold jz;simp
 |x::xs,y::ys=>by
  rw[al_List_map_cons,al_List_map_cons];unfold jz;rw[eqDs_ints xs ys];unfold eqD
  by_cases e:x=y
  ·subst e;simp
  ·simp[e]
theorem zS2{x y:SKey}(h:x.num=y.num):eqD x.d y.d=decide (x=y):=by
 cases x with
 | n i =>
  cases y with
  |n j=>
   show eqD (.int i) (.int j)=_;unfold eqD
   by_cases e:i=j
   ·subst e;simp
   ·simp[e]
  |t I=>cases h
 | t ns =>
  cases y with
  |n j=>cases h
  |t I=>
   show eqD (.tup _) (.tup _)=_;unfold eqD;rw[eqDs_ints]
   by_cases e:ns=I
   ·subst e;simp
   ·simp[e]
theorem zo0(x:SKey):okE x.d 20=true:=by
 cases x with
 |n i=>exact jj
 |t ns=>
  refine(jW (k:=19)).mpr λd hd=>?_;obtain⟨x,_,rfl⟩:=zQ.mp hd;exact jj
section
variable {X:Cx}{pins:QqL}{σ:St}{H:Hp}{s:Shared}{G:QqE}{Z:QqA}
theorem zx1{a b:V}{xs:List V}{its:QqW}(h:Vals (a::b::xs) its):∃p q r,its=p::q::r/\RelV a p/\RelV b q:=by
 cases h with
 |cons I t=>
  cases t with
  |cons h1 J=>exact⟨_,_,_,rfl,I,h1⟩
structure RowAt(X:Cx)(G:QqE)(Z:QqA)(H:Hp)(s:Shared)(x:SRow)(u p:Value)(rest:QqW):Prop where
 tup:∃q,Srt.Tup s.heap u p (q::rest)/\∃t,q=.int x.name t
 key:∃z,Rep X.K G Z H x.key.d z/\RelV z p
theorem zk4(I:Inv X pins σ H s){x:SRow}{v:V}{u:Value}(r:Rep X.K G Z H x.d v)(q:RelV v u):∃p rest,RowAt X G Z H s x u p rest:=by
 unfold SRow.d at r;obtain⟨a,xs,rfl,sq,rs⟩:=r.tup_inv;have e:u=.ref a:=q;subst e;obtain⟨its,rv,pl,_⟩:=I.tuple sq.sq;obtain⟨z0,aa,rfl,r0,W⟩:=rs.split;obtain⟨z1,Y,rfl,r1,ae⟩:=W.split;have e1:=r1.int_inv;subst e1;obtain⟨p0,p1,J,rfl,h0,t,rfl⟩:=zx1 rv;exact⟨p0,J,⟨_,⟨a,rfl,pl⟩,t,rfl⟩,z0,r0,h0⟩
theorem zy0(I:Inv X pins σ H s){x:SRow}{u p:Value}{rest:QqW}(R:RowAt X G Z H s x u p rest):s.TypeIs p (if x.key.num then "int" else "tuple"):=by
 obtain⟨z,r,q⟩:=R.key
 cases h:x.key with
 |n i=>
  rw[h] at r;have e:z=.int i:=r.int_inv;subst e;obtain⟨t,rfl⟩:=q;exact typeIs_int s i t
 |t ns=>
  rw[h] at r;obtain⟨a,xs,rfl,sq,Y⟩:=Rep.tup_inv (show Rep X.K G Z H (.tup (ns.map D.int)) z from r);have e:p=.ref a:=q;subst e;obtain⟨its,rv,⟨o,J,W,_⟩,_⟩:=I.tuple sq.sq;exact⟨o,J,W⟩
theorem zL2(I:Inv X pins σ H s){x y:SRow}{u v p q:Value}{ps qs:QqW}(Y:x.key.num=y.key.num)(hd:x.name≠y.name)(R:RowAt X G Z H s x u p ps)(R':RowAt X G Z H s y v q qs){A:Around}(hu:A.units+60<cLine) :
  ∃p ps q qs,Srt.Tup s.heap u p ps/\Srt.Tup s.heap v q qs/\Srt.Lex A s x.key.num (x.lt y) 0 (p::ps) (q::qs):=by
 obtain⟨n1,t1,ae,rfl⟩:=R.tup;obtain⟨n2,t2,aa,rfl⟩:=R'.tup;obtain⟨z1,W,q1⟩:=R.key;obtain⟨z2,J,q2⟩:=R'.key
 have E:=(zr9 I 20 x.key.d y.key.d z1 z2 p q A (zo0 _) (zo0 _) W J q1 q2 x3).1
 rw[zS2 Y] at E;refine⟨p,_,q,_,t1,t2,?_⟩
 by_cases e:x.key=y.key
 ·rw [xC e] at E;refine .alike E (.here ?_ ?_)
  ·have := EqAt.int_int (A := A) (s := s) x.name ae y.name aa
   have e2:(x.name == y.name)=false:=by simpa using hd
   rw[e2] at this;exact this
  ·intro prog w E Q h;unfold SRow.lt at h;rw[if_pos e] at h;exact Srt.Yj _ h
 ·rw [zS e] at E;refine .here E ?_;intro prog w E Q h;unfold SRow.lt at h;rw[if_neg e] at h
  cases hx:x.key with
  | n i =>
   cases hy:y.key with
   |n j=>
    rw[hx] at W h;rw[hy] at J h;have e1:z1=.int i:=W.int_inv;have e2:z2=.int j:=J.int_inv;subst e1 e2;obtain⟨a1,rfl⟩:=q1;obtain⟨a2,rfl⟩:=q2;exact Srt.Yj _ h
   |t ms=>rw[hx,hy] at Y;cases Y
  | t ns =>
   cases hy:y.key with
   |n j=>rw[hx,hy] at Y;cases Y
   |t ms=>
    rw[hx] at W h;rw[hy] at J h;obtain⟨a,xs,rfl,sq,rs⟩:=Rep.tup_inv (show Rep X.K G Z H (.tup (ns.map D.int)) z1 from W);obtain⟨b,ys,rfl,sq',rs'⟩:=Rep.tup_inv (show Rep X.K G Z H (.tup (ms.map D.int)) z2 from J);have e1:p=.ref a:=q1;have e2:q=.ref b:=q2;subst e1 e2;obtain⟨its,rv,pl,_⟩:=I.tuple sq.sq;obtain⟨its',rv',pl',_⟩:=I.tuple sq'.sq;rw[kF rs] at rv;rw[kF rs'] at rv';show wpAny _ _ (oneLt' (false&&_) _ _) _ _ _
    exact Srt.Wc pl pl' (Zo rv) (Zo rv') x3 h
end
theorem Reps.getD{K:W.Frag}{G:QqE}{Z:QqA}{H:Hp}{α:Type}{enc:α->D}{I:List α}{a0:α}{xs:List V}(J:Reps K G Z H (I.map enc) xs){i:Nat}(hi:i<I.length):Rep K G Z H (enc (I.getD i a0)) (xs.getD i .non):=by
 obtain⟨v,e,r⟩:=J.get (i:=i) (d:=enc I[i]) (by rw[zv,ze hi];rfl)
 rw[xa,xa,e,ze hi];exact r
theorem Kv{K:W.Frag}{G:QqE}{Z:QqA}{H:Hp}{α:Type}{enc:α->D}{I:List α}{a0:α}{xs:List V}(J:Reps K G Z H (I.map enc) xs):∀{ls:List Nat},(∀i∈ls,i<I.length)->Reps K G Z H ((ls.map λi=>I.getD i a0).map enc) (ls.map λi=>xs.getD i .non)
 |[],_=>.nil
 |i::ls,Y=>.cons (J.getD (Y i (xo ..))) (Kv J λj hj=>Y j (zG _ hj))
theorem zp3{α:Type}(a0:α)(I:List α):(List.range I.length).map (λi=>I.getD i a0)=I:=by
 apply List.ext_getElem
 ·simp
 ·intro i h1 h2;simp[xa,h2]
section
variable {A:AC}{X:Cx}{a:Expr}{ta:TD}{pos:Pos}
noncomputable def zp4(d:D)(k:List D->Prop):Prop:=∃fs,(d=.lst fs\/d=.fz fs)/\k fs
@[simp] theorem xs6{fs:List D}{k}:zp4 (.lst fs) k↔k fs:=⟨fun⟨_,e,h⟩=>by rcases e with e |e<;>cases e;exact h,λh=>⟨_,.inl rfl,h⟩⟩
noncomputable def xG2(ta:TD)(I J:TOD):TD:=λrho n P=>ta rho n λd n1=>I rho n1 λlo Y=>J rho Y λhi W=>zp4 d λfs=>P (.lst (Xq fs lo hi)) W
@[simp] theorem xC8{ta I J rho n P}:xG2 ta I J rho n P=ta rho n λd n1=>I rho n1 λlo Y=>J rho Y λhi W=>zp4 d λfs=>P (.lst (Xq fs lo hi)) W:=rfl
theorem zH0{le he:Option Expr}{Y th:TOD}{p2:Pos}(hK:X.K=A.K)(ha:PD A X a ta)(hl:POD A X le Y)(hh:POD A X he th):PD A X (.Subscript a (.Slice le he none p2) pos) (xG2 ta Y th):=by
 exists (QY zK9 ha hl hh).imp λsg H Q h=>by
   obtain⟨rho,n,P,ds,vs,I,ht,hQ⟩:=h;refine⟨rho,n,_,ds,vs,I,ht,λv H1 n1 d J1 h1=>⟨rho,n1,_,_,_,J1,h1,λlo H2 n2 J2 h2=>⟨rho,n2,_,_,_,J2,h2,λhi H3 n3 ⟨os,J3⟩ h3=>?_⟩⟩⟩;obtain⟨fs,hd,k⟩:=h3;obtain⟨J4,r⟩:=J3.pop;rw[hK]
   rcases hd with rfl |rfl
   ·obtain⟨l,xs,rfl,sq,J⟩:=r.lst_inv;exact⟨l,xs,rfl,sq.sq,λp W=>hQ _ _ n3 _ ⟨os,J4.newLst (Uq J lo hi) W⟩ k⟩
   ·obtain⟨l,xs,rfl,sq,J⟩:=r.fz_inv;exact⟨l,xs,rfl,sq,λp W=>hQ _ _ n3 _ ⟨os,J4.newLst (Uq J lo hi) W⟩ k⟩
noncomputable def zs8(i:Nat):TD:=λrho n P=>∃es,rho[i]?=some (some (.own es))/\okE (.lst es) 20=true/\P (.bl (!jz es [])) n
@[simp] theorem xl0{i rho n P}:zs8 i rho n P=∃es,rho[i]?=some (some (.own es))/\okE (.lst es) 20=true/\P (.bl (!jz es [])) n:=rfl
theorem zj3{i:Nat}(hK:X.K=A.K){sg:St}{H:Hp}{Q:VK}(h:tOf A (zs8 i) sg H Q):tOp (xA8 X) (xz9 i) (tOf A (xy9 xz3)) sg H Q:=by
 obtain⟨rho,n,P,ds,vs,⟨os,I⟩,⟨es,hi,ok,q⟩,hQ⟩:=h;obtain⟨a,xs,e1,hH,rs,_⟩:=I.own (es':=es) (xs':=[]) hi;refine⟨.ref a,e1,rho,n,λd n1=>d=.lst []/\n1=n,ds,vs,⟨os,I⟩,⟨wn _,rfl,rfl⟩,λv2 Y n2 d2 ⟨W,J⟩ k=>?_⟩;obtain⟨rfl,rfl⟩:=k;obtain⟨J1,r2⟩:=J.pop;obtain⟨a',xs',e2,hH',rs',_⟩:=J1.own (es':=es) (xs':=[]) hi;rw[e1] at e2;cases e2;have no:∀b,Y b≠none->False->Zof A W b:=λ_ _ z=>z.elim
 have rA:Rep X.K A.G (λ_=>False) Y (.lst es) (.ref a):=by
  rw[hK];exact .lst_mk ⟨λz=>z,hH'⟩ (Reps.mono no (λ_ _ _ e=>e) _ _ rs')
 have rB:Rep X.K A.G (λ_=>False) Y (.lst []) v2:=by
  rw[hK];exact Rep.mono no (λ_ _ _ e=>e) _ _ r2
 have aa:okE (.lst []) 20=true:=by unfold okE;rfl
 refine⟨eqD (.lst es) (.lst []),λaf s σ v u J rx ry B hu=>zr9 J 20 _ _ _ _ v u B ok aa rA rB rx ry x3,?_⟩
 have ae:eqD (.lst es) (.lst [])=jz es []:=by unfold eqD;rfl
 rw[ae];exact hQ _ Y _ _ ⟨W,J1.push (Rep.ofS (d:=.bl (!jz es [])) rfl)⟩ q
theorem Kz{i:Nat}{x:Str}{J W:Pos}{n:Nat}(Y:Room n X.A)(hK:X.K=A.K)(hN:X.N[i]?=some x:=by rfl)(hv:Vis X.env.scope x:=by first |exact Or.inl rfl |exact Or.inr (Or.inl rfl) |exact Or.inr (Or.inr rfl))(hd:(x == ("__debug__" : Str))=false:=by decide)
  (I:(x == ("__classdict__" : Str))=false:=by decide):PTD A X (.Compare (.Name x J) [.NotEq] [.List [] W] pos) (zs7 (zs8 i)):=by exists (zk9 (xb1 Y) (Zs hN hv hd I) (vp (A:=A) zf) (xJ _)).imp λ_ _ _=>VV λ_ _ _=>zj3 hK
end
mutual
noncomputable def xz7:D->PyData
 |.int i=>.int i
 |.tup ds=>.tuple (zU8 ds)
 |_=>.none
noncomputable def zU8:List D->List PyData
 |[]=>[]
 |d::ds=>xz7 d::zU8 ds
end
mutual
noncomputable def okS:D->Nat->Bool
 |.int i,_=>decide (i.natAbs.log2<1920)
 |.tup ds,k=>match k with
  |0=>false
  |k+1=>xF2 ds k
 |_,_=>false
noncomputable def xF2:List D->Nat->Bool
 |[],_=>true
 |d::ds,k=>okS d k&&xF2 ds k
end
mutual
noncomputable def zP4:D->Nat
 |.tup ds=>zH4 ds+1
 |_=>1
noncomputable def zH4:List D->Nat
 |[]=>0
 |d::ds=>zP4 d+zH4 ds
end
noncomputable def zV9(d:D):Str:=(xz7 d).shown
section
variable {X:Cx}{pins:QqL}{σ:St}{H:Hp}{s:Shared}{G:QqE}{Z:QqA}
end
noncomputable def xx0:List D->(D->Prop)->Prop:=λes k=>∃ds,es=[.tup ds]/\okS (.tup ds) 15=true/\zP4 (.tup ds)<=8000/\k (.str (zV9 (.tup ds)))
@[simp] theorem xs7{ds k}:xx0 [.tup ds] k↔(okS (.tup ds) 15=true/\zP4 (.tup ds)<=8000/\k (.str (zV9 (.tup ds)))):=⟨fun⟨_,e,h⟩=>by cases e;exact h,λh=>⟨_,rfl,h⟩⟩
end L2
namespace L2
section
variable {X:Cx}{A:AC}
noncomputable def zX1:RD2:=λd1 d2 k=>∃es i,d1=.tup es/\d2=.int i/\es≠[]/\0<=i/\es.length*i.toNat<=sizeLine/\k (.tup (replicate i.toNat es).flatten)
@[simp] theorem xi1{es i k}:zX1 (.tup es) (.int i) k↔(es≠[]/\0<=i/\es.length*i.toNat<=sizeLine/\k (.tup (replicate i.toNat es).flatten)):=⟨fun⟨_,_,e,e',h⟩=>by cases e;cases e';exact h,λh=>⟨_,_,rfl,rfl,h⟩⟩
end
end L2
namespace L2.Srt
open PySem PyProof.Rows
section
variable {prog:Program}{w:World}{A:Around}{E:QqV}{s:Shared}
end
end L2.Srt
namespace L2
section
variable {X:Cx}{A:AC}{pos:Pos}{e:Expr}{t1:TAD}
noncomputable def zW4:TSD:=λ_ _ _=>False
@[simp] theorem xs4{F:EndsD}{rho:Rho}{n:Nat}:zW4 F rho n↔False:=Iff.rfl
end
section
variable {K:W.Frag}{G G':QqE}{Z:QqA}{H:Hp}
end
section
variable {A:AC}{X:Cx}{e:Expr}{es:List Expr}{t1:TAD}{t2:TSD}{pos p:Pos}
end
noncomputable def xF9(I:List Key)(k:Key):Bool:=I.any λj=>decide (j=k)
noncomputable def xv5(I:List Key)(k:Key):List Key:=if xF9 I k=true then I else I++[k]
noncomputable def xM2{α:Type}(I:List Key)(xs:List α)(k:Key)(x:α):List α:=if xF9 I k=true then List.zipWith (λj y=>if j=k then x else y) I xs else xs++[x]
section
variable {K:W.Frag}{G:QqE}{Z:QqA}{H:Hp}
end
noncomputable def zq2:D->Option Key
 |.int i=>some (Sum.inl i)
 |.str x=>some (Sum.inr x)
 |_=>none
@[simp] theorem xd5{i:Int}:zq2 (.int i)=some (Sum.inl i):=rfl
@[simp] theorem xd4{i:Str}:zq2 (.str i)=some (Sum.inr i):=rfl
section
variable {A:AC}{X:Cx}{tg iter kx vx:Expr}{ifs:List Expr}{scope:Scope}{own M:List Str}{pos:Pos}{it:TID}{g:TGD}{tt:TBD}{tk tv:TD}
noncomputable def zs6(own:Nat)(g:TGD)(tt:TBD)(tk tv:TD)(rho:Rho)(P:D->Nat->Prop)(items:List D)(n1:Nat):Prop:=items.length<=sizeLine/\∃J:Nat->List Key->List D->Nat->Prop,J 0 [] [] n1 /\
 (∀i d I es n,items[i]?=some d->J i I es n->g d (replicate own none++rho) λrho'=>rho'.drop own=rho/\tt rho' n λc W=>if c=true then tk rho' W λdk n3=>tv rho' n3 λdv Y=>∃k,zq2 dk=some k/\J (i+1) (xv5 I k) (xM2 I es k dv) Y else J (i+1) I es W) /\
 ∀I es n,J items.length I es n->P (.dct I es) n
noncomputable def xg4(it:TID)(own:Nat)(g:TGD)(tt:TBD)(tk tv:TD):TD:=λrho n P=>it rho n (zs6 own g tt tk tv rho P)
@[simp] theorem xl2{it own g tt tk tv rho n P}:xg4 it own g tt tk tv rho n P=it rho n (zs6 own g tt tk tv rho P):=rfl
end
noncomputable def atK:List Key->List D->Key->Option D
 |k::I,d::ds,x=>if k=x then some d else atK I ds x
 |_,_,_=>none
section
variable {A:AC}{X:Cx}{a b:Expr}{ta tb:TD}{pos:Pos}
noncomputable def xI9:RD2:=λd1 d2 k=>∃I ds x d,d1=.dct I ds/\zq2 d2=some x/\atK I ds x=some d/\k d
@[simp] theorem xr6{I ds x k}:xI9 (.dct I ds) (.int x) k↔∃d,atK I ds (Sum.inl x)=some d/\k d:=⟨fun⟨_,_,_,d,e,e',h⟩=>by cases e;cases e';exact⟨d,h⟩,fun⟨d,h⟩=>⟨_,_,_,d,rfl,rfl,h⟩⟩
noncomputable def xo6(neg:Bool):RD2:=λd1 d2 k=>∃I ds x,d2=.dct I ds/\zq2 d1=some x/\k (.bl ((atK I ds x).isSome != neg))
@[simp] theorem xi8{neg I ds x k}:xo6 neg (.int x) (.dct I ds) k↔k (.bl ((atK I ds (Sum.inl x)).isSome != neg)):=⟨fun⟨_,_,_,e,e',h⟩=>by cases e;cases e';exact h,λh=>⟨_,_,_,rfl,rfl,h⟩⟩
noncomputable def xI5(i:Nat)(g:TGD):TSD:=λF rho n=>∃es d,rho[i]?=some (some (.own (es++[d])))/\g d (rho.set i (some (.own es))) λrho'=>F.nx rho' n
@[simp] theorem xB5{i g F rho n}:xI5 i g F rho n=∃es d,rho[i]?=some (some (.own (es++[d])))/\g d (rho.set i (some (.own es))) λrho'=>F.nx rho' n:=rfl
noncomputable def xo0:TSD:=λF rho n=>F.ct rho n
@[simp] theorem xq6{F rho n}:xo0 F rho n=F.ct rho n:=rfl
noncomputable def zW1(i:Nat)(W:TBD)(t u:TAD):TSD:=λF rho n=>i<rho.length/\W rho n λc J=>if c=true then t rho J (λes I=>es.length<=sizeLine/\F.nx (rho.set i (some (.own es))) I) else u rho J λes I=>es.length<=sizeLine/\F.nx (rho.set i (some (.own es))) I
@[simp] theorem xh9{i J t u F rho n}:zW1 i J t u F rho n=(i<rho.length/\J rho n λc W=>if c=true then t rho W (λes I=>es.length<=sizeLine/\F.nx (rho.set i (some (.own es))) I) else u rho W λes I=>es.length<=sizeLine/\F.nx (rho.set i (some (.own es))) I):=rfl
end
section
variable {X:Cx}{A:AC}
noncomputable def xe9:D->Bool
 |.tup _=>true
 |.lst _=>true
 |_=>false
noncomputable def xx5:List D->(D->Prop)->Prop:=λes k=>∃d,es=[d,.tup [.ty "tuple",.ty "list"]]/\kf d=true/\k (.bl (xe9 d))
@[simp] theorem xt6{d k}:xx5 [d,.tup [.ty "tuple",.ty "list"]] k↔(kf d=true/\k (.bl (xe9 d))):=⟨fun⟨_,e,h⟩=>by cases e;exact h,λh=>⟨_,rfl,h⟩⟩
end
section
variable {A:AC}{X:Cx}{a b c:Expr}{ta tb tc:TD}{pos:Pos}
end
noncomputable def za6(rho:Rho):Bool:=rho.all λo=>match o with
 |some d=>we d
 |none=>true
theorem zo3{rho:Rho}{i:Nat}{d:D}(h:za6 rho=true)(e:rho[i]?=some (some d)):we d=true:=by
 have:=xz.mp h _ (xk e);exact this
noncomputable def zW0(i j:Nat)(tb:TD):TSD:=λF rho n=>i<rho.length/\j<rho.length/\za6 rho=true/\tb rho n λd I=>F.nx ((rho.set i (some (.own []))).set j (some d)) I
@[simp] theorem xq2{i j tb F rho n}:zW0 i j tb F rho n=(i<rho.length/\j<rho.length/\za6 rho=true/\tb rho n λd I=>F.nx ((rho.set i (some (.own []))).set j (some d)) I):=rfl
section
variable {A:AC}{X:Cx}{b:Expr}{tb:TD}{pos:Pos}
theorem AmO.still{os n rho sg H ds vs}{J:Hp}{Z:QqA}(I:AmO A os n rho sg H ds vs)(ho:za6 rho=true)(hH:∀a o,H a=some o->J a=some o)(hz:∀a,H a≠none->Z a->Zof A os a)(W:∀a,Z a->J a≠none)(hg:∀a,A.G=some a->Z a) :
  AmO ⟨A.K,A.G,Z,J⟩ [] n rho sg J [] []:=by
 have hz':∀a,H a≠none->Zof ⟨A.K,A.G,Z,J⟩ [] a->Zof A os a:=λa h z=>by
  rcases z with z |⟨p,Y,_⟩
  ·exact hz a h z
  ·simp at Y
 refine⟨I.len,λi d e=>?_,.nil,.nil,λp Y=>by simp at Y,λa e=>?_,hg,λa o _ e=>e,⟨W,λP q t=>⟨hH P _ (I.zO.2 P q t).1,(I.zO.2 P q t).2⟩⟩⟩
 ·obtain ⟨v, e1, e2⟩ := I.slot i d e;have hd:=zo3 ho e;have r:=Rep.mono (K:=A.K) (G:=A.G) hz' (λa o _ e=>hH a o e) _ _ (e2.rep hd);refine⟨v,e1,?_⟩
  cases d<;>first |exact r |(simp[we] at hd;done)
 ·obtain⟨zs,u1,u2,q,r⟩:=I.st a e;exact⟨zs,u1,u2,hH a _ q,r⟩
theorem AmO.setOwnX{os:List (Nat × Addr)}{n:Nat}{rho:Rho}{sg:St}{H:Hp}{ds es:List D}{vs xs:List V}{i:Nat}{p:Addr}(I:AmO A os n rho sg H ds vs)(hi:i<rho.length)(W:H p=none)(r:Reps A.K A.G (Zof A os) H es xs) :
  AmO A ((i,p)::os.filter λq=>decide (q.1≠i)) n (rho.set i (some (.own es))) (sg.set i (some (.ref p))) (upd H p (.lst xs)) ds vs:=by
 have Y:∀a u,H a=some u->upd H p (.lst xs) a=some u:=λa u e=>by rw[wE (yz e W)];exact e
 have zz:∀a,H a≠none->Zof A ((i,p)::os.filter λq=>decide (q.1≠i)) a->Zof A os a:=λa ha z=>by
  rcases z with z |⟨q,J,e⟩
  ·exact .inl z
  ·rcases zt.mp J with rfl | J
   ·exact absurd (by rw[<- e];exact W) ha
   ·exact .inr ⟨q,(xf.mp J).1,e⟩
 have h0:A.H0 p=none:=by
  cases q:A.H0 p with
  |none=>rfl
  |some o=>
   by_cases e:A.G=some p
   ·obtain⟨x,y,z,w,_⟩:=I.st p e;rw[w] at W;cases W
   ·have:=I.fr p o e q;rw[this] at W;cases W
 refine⟨by simp[I.len],λj c e=>?_,Reps.mono zz (λa u _ e=>Y a u e) _ _ I.pend,?_,λq J=>?_,λa e=>?_,I.gz,λa u h e=>Y a u (I.fr a u h e),I.z0⟩
 ·by_cases hj : j = i
  ·subst hj;rw[xl hi] at e;cases e
   exact⟨.ref p,xl (by rw[<- I.len];exact hi),p,xs,rfl,xo,yK,Reps.mono zz (λa u _ e=>Y a u e) _ _ r⟩
  ·rw [xq (Ne.symm hj)] at e;obtain⟨u,e1,e2⟩:=I.slot j c e
   exact⟨u,by rw[xq (Ne.symm hj)];exact e1,SlotR.mono zz (λa u _ e=>Y a u e) (λa ys m q=>⟨zG _ (xf.mpr ⟨m,by simpa using hj⟩),Y a _ q⟩) _ _ e2⟩
 ·refine wG.mpr ⟨λq J => ?_, I.nd.filter _⟩;obtain⟨m1,m2⟩:=xf.mp J
  refine⟨λz=>by simp[<- z] at m2,λz=>(I.fresh q m1).2.2 ?_⟩
  have z':p=q.2:=z;rw[<- z'];exact W
 ·rcases zt.mp J with rfl | J
  ·exact⟨h0,λz=>I.z0.1 p z h0,by show upd H p _ p≠none;rw[yK];simp⟩
  ·obtain ⟨f1, f2, f3⟩ := I.fresh q (xf.mp J).1;refine⟨f1,f2,?_⟩
   cases w:H q.2 with
   |none=>exact absurd w f3
   |some u=>rw[Y _ _ w];simp
 ·obtain⟨x,y,z,q,rr⟩:=I.st a e;exact⟨x,y,z,Y _ _ q,rr⟩
theorem zz5{i j:Nat}{x y:Str}{px py pt pl:Pos}{kt k2 aa}(hc:X.calm=true)(hN:X.N.Nodup)(hi:X.N[i]?=some x)(hj:X.N[j]?=some y)(ah:i≠j)
  (hx:X.env.scope.names.lookup x=some .local) (hy:X.env.scope.names.lookup y=some .local) (hb:∀(Z:QqA) (H0:Hp),PD ⟨A.K,A.G,Z,H0⟩ X b tb)
  (hk:X.env.blockKind=.function:=by rfl) (hl:py.line=px.line:=by rfl) (ae:x≠y:=by decide) (Y:kB b=false:=by rfl) (hf:[Expr.List [] pl,b].all (foldedForSure 8)=false:=by decide +kernel) (ai:[Expr.List [] pl,b].all (constantsAlone 8)=false:=by decide +kernel) :
  PSD A X (.Assign [.Tuple [.Name x px,.Name y py] kt pt] (.Tuple [.List [] pl,b] k2 aa) pos) (zW0 i j tb):=by
 exists (by
   have hb':PE X b (λsg H Q=>∃Z H0,tOf ⟨A.K,A.G,Z,H0⟩ tb sg H Q):=λW s sg H Q I q=>by
    obtain⟨Z,H0,q⟩:=q;exact hb Z H0 W s sg H Q I q
   refine(zl3 hc hN hi hj ah hx hy (jV (QZ Xc) (jV hb' Xc (sE Y)) (sE rfl)) (VW hk hx hy hl ae rfl Y hf ai) rfl).imp λE sg H h=>?_;obtain⟨rho,n,F,ds,vs,⟨os,I⟩,⟨ag,af,ho,ht⟩,ok⟩:=h;refine⟨wn _,λp hp=>?_⟩;have I1:=I.setOwnX (es:=[]) (xs:=[]) ag hp .nil
   have hH:∀a o,H a=some o->upd H p (.lst []) a=some o:=λa o e=>by rw[wE (yz e hp)];exact e
   refine⟨λa=>Zof A os a\/a=p,upd H p (.lst []),rho,n,_,[],[],⟨[],I.still ho hH (λa h z=>?_) (λa z=>?_) (λa e=>.inl (.inl (I.gz a e)))⟩,ht,λv H2 n2 d ⟨aj,J⟩ k=>?_⟩
   ·rcases z with z | rfl
    ·exact z
    ·exact absurd hp h
   ·rcases z with z | rfl
    ·cases e : H a with
     |none=>exact absurd e (I.zH a z)
     |some o=>rw[hH a o e];simp
    ·rw[yK];simp
   ·obtain ⟨J1, r⟩ := J.pop;have C:=I1.called (n':=n2) (H':=H2) (λa o g e=>J1.fr a o g e) J1.st
    refine⟨_,_,rfl,ok.nx _ _ _ _ ⟨_,(C.push (d:=d) (v:=v) ?_).set (by simpa using af)⟩ k⟩
    refine Rep.mono (K:=A.K) (G:=A.G) (λa h z=>?_) (λa o _ e=>e) _ _ r
    rcases z with z |⟨q,hq,e⟩
    ·exact .inl (.inl (.inl z))
    ·rcases zt.mp hq with rfl | hq
     ·exact .inl (.inr e.symm)
     ·exact .inl (.inl (.inr ⟨q,(xf.mp hq).1,e⟩)))
end
end L2
namespace L2
open PySem PySem.Spec PyProof.Rows PySem.SeqAt
section
variable {A:AC}{X:Cx}{a b c e:Expr}{ta tb tc te:TD}{pos:Pos}
noncomputable def xA3(K:W.Frag):R2:=λx y H Q=>∃p q xs,x=.ref p/\y=.ref q/\SqT K H p xs/\SqT K H q []/\Q (.bl xs.isEmpty) H
theorem zm5{n:Nat}(hr:Room n X.A):OpR X (compareOp .Eq) (xA3 X.K):=by
 intro J s σ H x y v u Q I rx Y h;obtain⟨p,q,xs,rfl,rfl,sq,sq',k⟩:=h;cases rx;cases Y;obtain⟨its,rv,pl,hz⟩:=I.tuple sq;obtain⟨its',rv',pl',hz'⟩:=I.tuple sq';cases rv';have hu:=hr.units
 have R:=RcAt.tuples (A:=X.A) (e:=λ_=>true) (show s.heap.IsTuple p its.toArray from pl) (show s.heap.IsTuple q #[] from pl') x3 (λj l1 l2=>absurd l2 (by simp))
 have ev:((List.range (min its.toArray.size (#[]:Array Value).size)).all (λ_=>true)&&its.toArray.size == (#[]:Array Value).size)=xs.isEmpty:=by
  have W:=rv.length
  cases xs with
  |nil=>cases its with
   |nil=>rfl
   |cons _ _=>simp at W
  |cons _ _=>cases its with
   |nil=>simp at W
   |cons _ _=>simp
 exact(rcC R ev) X.prog X.w X.xe _ ⟨.bl xs.isEmpty,H,I,rfl,k⟩
noncomputable def zX0:RD2:=λd1 d2 k=>JK d1 λes=>d2=.tup []/\k (.bl es.isEmpty)
@[simp] theorem xq8{d1 d2 k}:zX0 d1 d2 k=JK d1 λes=>d2=.tup []/\k (.bl es.isEmpty):=rfl
theorem zk5:qI A (xA3 A.K) zX0:=by
 rintro os n rho sg H ds vs d1 d2 v1 v2 k Q I ⟨es,rfl,rfl,q⟩ hQ;obtain⟨I1,W⟩:=I.pop;obtain⟨I2,Y⟩:=I1.pop;obtain⟨a,xs,rfl,sq,J⟩:=Y.tup_inv;obtain⟨b,ys,rfl,sq',rs'⟩:=W.tup_inv;have e:=rs'.nil_inv;subst e;have hl:=J.length
 have ee:xs.isEmpty=es.isEmpty:=by cases xs<;>cases es<;>first |rfl |(simp at hl;done)
 exact⟨a,b,xs,rfl,rfl,sq.sq,sq'.sq,by rw[ee];exact hQ _ H _ ⟨os,I2.push (Rep.ofS rfl)⟩ q⟩
noncomputable def zX2:RD2:=λd1 d2 k=>∃es i,d1=.lst es/\d2=.int i/\0<=i/\i<1000/\es.length*i.toNat<=sizeLine/\k (.lst (replicate i.toNat es).flatten)
@[simp] theorem xi2{es i k}:zX2 (.lst es) (.int i) k↔(0<=i/\i<1000/\es.length*i.toNat<=sizeLine/\k (.lst (replicate i.toNat es).flatten)):=⟨fun⟨_,_,e,e',h⟩=>by cases e;cases e';exact h,λh=>⟨_,_,rfl,rfl,h⟩⟩
noncomputable def zT2(es:List D)(k:List D->Prop):Prop:=∃fs,(es=[.lst fs]\/es=[.tup fs])/\k fs
@[simp] theorem xq0{fs:List D}{k}:zT2 [.lst fs] k↔k fs:=⟨fun⟨_,e,h⟩=>by rcases e with e |e<;>cases e;exact h,λh=>⟨_,.inl rfl,h⟩⟩
@[simp] theorem xp9{fs:List D}{k}:zT2 [.tup fs] k↔k fs:=⟨fun⟨_,e,h⟩=>by rcases e with e |e<;>cases e;exact h,λh=>⟨_,.inr rfl,h⟩⟩
noncomputable def zW5(i:Nat)(t:TAD):TSD:=λF rho n=>i<rho.length/\t rho n λes I=>zT2 es λfs=>F.nx (rho.set i (some (.own fs))) I
@[simp] theorem xi0{i t F rho n}:zW5 i t F rho n=(i<rho.length/\t rho n λes I=>zT2 es λfs=>F.nx (rho.set i (some (.own fs))) I):=rfl
end
mutual
noncomputable def zU9:D->PyData
 |.bl b=>.bool b
 |.int i=>.int i
 |.str x=>.str x
 |.tup ds=>.tuple (zi6 ds)
 |.lst ds=>.list (zi6 ds)
 |_=>.none
noncomputable def zi6:List D->List PyData
 |[]=>[]
 |d::ds=>zU9 d::zi6 ds
end
mutual
noncomputable def okR:D->Nat->Bool
 |.non,_=>true
 |.bl _,_=>true
 |.int i,_=>decide (i.natAbs.log2<1920)
 |.str x,_=>decide ((reprText x).length<=2000)
 |.tup ds,k=>match k with
  |0=>false
  |k+1=>xw4 ds k
 |.lst ds,k=>match k with
  |0=>false
  |k+1=>xw4 ds k
 |_,_=>false
noncomputable def xw4:List D->Nat->Bool
 |[],_=>true
 |d::ds,k=>okR d k&&xw4 ds k
end
mutual
noncomputable def zT8:D->Nat
 |.tup ds=>zP5 ds+1
 |.lst ds=>zP5 ds+1
 |_=>1
noncomputable def zP5:List D->Nat
 |[]=>0
 |d::ds=>zT8 d+zP5 ds
end
noncomputable def zj8(d:D):Str:=(zU9 d).shown
section
variable {X:Cx}{pins:QqL}{σ:St}{H:Hp}{s:Shared}{G:QqE}{Z:QqA}
end
noncomputable def xx2:List D->(D->Prop)->Prop:=λes k=>∃d,es=[d]/\xe9 d=true/\okR d 15=true/\zT8 d<=8000/\k (.str (zj8 d))
@[simp] theorem xs9{d k}:xx2 [d] k↔(xe9 d=true/\okR d 15=true/\zT8 d<=8000/\k (.str (zj8 d))):=⟨fun⟨_,e,h⟩=>by cases e;exact h,λh=>⟨_,rfl,h⟩⟩
end L2
namespace L2
noncomputable def zx7(es:List D)(e d:D)(k:List D->Prop):Prop:=∃j m,e=.int j/\ixN es.length j=some m/\k (es.set m d)
noncomputable def zx9(i:Nat)(ta:TAD)(W J:TD):TSD:=λF rho n=>ZR rho[i]? λes=>ta rho n λcs n1=>ze1 cs λd1 d2=>W rho n1 λe1 n2=>zx7 es e1 d1 λI=>
 J (rho.set i (some (.own I))) n2 λe2 n3=>zx7 I e2 d2 λY=>F.nx (rho.set i (some (.own Y))) n3
@[simp] theorem zT5{i ta J I F rho n}:zx9 i ta J I F rho n=ZR rho[i]? λes=>ta rho n λcs n1=>ze1 cs λd1 d2=>J rho n1 λe1 n2=>zx7 es e1 d1 λW=>
 I (rho.set i (some (.own W))) n2 λe2 n3=>zx7 W e2 d2 λY=>F.nx (rho.set i (some (.own Y))) n3:=rfl
section
variable {A:AC}{X:Cx}{a1 a2 b1 b2:Expr}{ta:TAD}{tb1 tb2:TD}{pos:Pos}
end
end L2
namespace PySem
open PySem.Sem (wp)
namespace F
end F
section
variable {prog:Program}{w:World}{K:Type} [DecidableEq K] {knd:KeyKind prog w K}{A:Around}{R:Result->Shared->Prop}
end
section
variable {prog:Program}{w:World}{K:Type} [DecidableEq K] {knd:KeyKind prog w K}{A:Around}{E:QqV}{s:Shared}
end
end PySem
namespace L2
section
variable {X:Cx}{A:AC}
end
end L2
namespace L2
open PySem PySem.Spec PyProof.Rows PySem.SeqAt
section
variable {A:AC}{X:Cx}
noncomputable def zU7(d:D)(k:List (List D)->Prop):Prop:=∃I:List (List D),d=.tup (I.map D.tup)/\k I
noncomputable def xo3:RD2:=λd1 d2 k=>d1=.tup []/\zU7 d2 λI=>k (.bl (I.any List.isEmpty))
@[simp] theorem xi5{a b k}:xo3 (.tup []) (.tup [.tup a,.tup b]) k ↔ k (.bl (a.isEmpty || b.isEmpty)):=by
 constructor
 ·rintro ⟨_, I, e, h⟩
  have:I=[a,b]:=by
   have e':=D.tup.inj e
   match I,e' with
   |[x,y],e'=>simp at e';rw[e'.1,e'.2]
   |[],e'=>simp at e'
   |[x],e'=>simp at e'
   |x::y::z::r,e'=>simp at e'
  subst this
  simpa using h
 ·intro h
  exact⟨rfl,[a,b],rfl,by simpa using h⟩
end
mutual
noncomputable def okN:D->Nat->Bool
 |.non,_=>true
 |.int i,_=>decide (i.natAbs.log2<20)
 |.tup ds,k=>match k with
  |0=>false
  |k+1=>xF4 ds k
 |_,_=>false
noncomputable def xF4:List D->Nat->Bool
 |[],_=>true
 |d::ds,k=>okN d k&&xF4 ds k
end
noncomputable def xx1:List D->(D->Prop)->Prop:=λes k=>∃ds,es=[.tup ds]/\okN (.tup ds) 20=true/\zT8 (.tup ds)<=400000/\k (.str (zj8 (.tup ds)))
@[simp] theorem xs8{ds k}:xx1 [.tup ds] k↔(okN (.tup ds) 20=true/\zT8 (.tup ds)<=400000/\k (.str (zj8 (.tup ds)))):=⟨fun⟨_,e,h⟩=>by cases e;exact h,λh=>⟨_,rfl,h⟩⟩
end L2
namespace L2
section
variable {A:AC}
noncomputable def xx6:List D->(D->Prop)->Prop:=λes k=>∃i:Int,es=[.int i]/\k (.bl (i != 0))
@[simp] theorem xt8{i:Int}{k}:xx6 [.int i] k↔k (.bl (i != 0)):=⟨fun⟨_,e,h⟩=>by cases e;exact h,λh=>⟨_,rfl,h⟩⟩
end
section
variable {A:AC}{X:Cx}{pos:Pos}{m:Nat}
noncomputable def xy4(k:Nat)(I:zF2):TGD:=λd rho P=>∃es,d=.lst es/\es.length=k/\I es rho P
@[simp] theorem xu5{k I es rho P}:xy4 k I (.lst es) rho P↔(es.length=k/\I es rho P):=⟨fun⟨_,e,h⟩=>by cases e;exact h,λh=>⟨_,rfl,h⟩⟩
end
section
variable {A:AC}{X:Cx}
noncomputable def zL0:D->Str
 |.non => "None"
 |d=>zj8 d
noncomputable def xw5(d:D):Prop:=d=.non\/(xe9 d=true/\okR d 20=true/\zT8 d<=8000)
noncomputable def xd6:List D->(D->Prop)->Prop:=λes k=>∃d,es=[d]/\xw5 d/\k (.str (zL0 d))
@[simp] theorem xj9{d k}:xd6 [d] k↔(xw5 d/\k (.str (zL0 d))):=⟨fun⟨_,e,h⟩=>by cases e;exact h,λh=>⟨_,rfl,h⟩⟩
end
theorem lo{I:Scope}{x:Str}(h:(match I.names.lookup x with |some .local=>true |some .cell=>true |_=>false)=true):Loc I x:=by
 unfold Loc
 split at h
 ·exact .inl (by assumption)
 ·exact .inr (by assumption)
 ·cases h
end L2
namespace L2
open PySem PySem.Spec PyProof.Rows PySem.SeqAt
section
variable {A:AC}{X:Cx}
noncomputable def zy6:RD2:=λd1 d2 k=>d1=.non/\∃I:List (List D),d2=.lst (I.map D.lst)/\k (.bl false)
@[simp] theorem xj1{a b k}:zy6 .non (.lst [.lst a,.lst b]) k↔k (.bl false):=⟨fun⟨_,_,_,h⟩=>h,λh=>⟨rfl,[a,b],rfl,h⟩⟩
noncomputable def xx4:List D->(D->Prop)->Prop:=λes k=>∃I ds,es=[.dct I ds]/\I.length=ds.length/\k (.int (I.length:Int))
@[simp] theorem xt5{I ds k}:xx4 [.dct I ds] k↔(I.length=ds.length/\k (.int (I.length:Int))):=⟨fun⟨_,_,e,h⟩=>by cases e;exact h,λh=>⟨_,_,rfl,h⟩⟩
noncomputable def xz0(I:TD):TD:=λrho n P=>I rho n λd J=>∃x:Int,d=.int x/\P (.int ((Builtin.Int.intBits x:Nat):Int)) J
@[simp] theorem xv1{I:TD}{rho:Rho}{n:Nat}{P:D->Nat->Prop}:xz0 I rho n P=I rho n λd J=>∃x:Int,d=.int x/\P (.int ((Builtin.Int.intBits x:Nat):Int)) J:=rfl
noncomputable def xe2:List D->(D->Prop)->Prop:=λes k=>∃j:Int,es=[.int j]/\0<=j/\j<=1000/\k (.lst ((List.range j.toNat).map λi:Nat=>D.int (i:Int)))
@[simp] theorem xk1{j:Int}{k:D->Prop}:xe2 [.int j] k↔(0<=j/\j<=1000/\k (.lst ((List.range j.toNat).map λi:Nat=>D.int (i:Int)))):=⟨fun⟨_,e,h⟩=>by cases e;exact h,λh=>⟨_,rfl,h⟩⟩
end
end L2
namespace L2
structure LamScope(N:List Str)(p:Str)(scope:Scope)(cl:List (Str × Addr)):Prop where
 kind:scope.kind=.function
 co:scope.isCoroutine=false
 gen:scope.isGenerator=false
 nocell:∀x∈scope.names,x.2≠.cell
 head:N[0]?=some p
 par:scope.names.lookup p=some .local
 free:∀x,scope.names.lookup x=some .free->∃c,cl.lookup x=some c
 rest:∀i x,N[i+1]?=some x->scope.names.lookup x=some .free
noncomputable def zf1(X:Cx)(A:Around)(N:List Str)(I:Str)(scope:Scope)(f c':Addr)(J:List (Str × Addr))(s:Shared)(H:Hp):Cx where
 prog:=X.prog
 w:=X.w
 K:=X.K
 mg:=X.mg
 base:=X.base
 A:=A.deeper (W.envX I scope s.heap.objs.size f (.ref c') J)
 N:=N
 s₀:=s
 H₀:=H
 env:=W.envX I scope s.heap.objs.size f (.ref c') J
 outer:=X.stack
 stack:=W.envX I scope s.heap.objs.size f (.ref c') J::X.stack
 ex:=[]
 fn:=λ_=>false
 calm:=true
 pn:=[]
 xe:=λ_ _=>False
section
variable {X:Cx}{pins:QqL}{σ:St}{H:Hp}{s:Shared}{A:Around}{f c':Addr}{qual p:Str}{params:Arguments}{body:Expr}{scope:Scope}{cl:List (Str × Addr)}{pm ctv:Value}{N:List Str}{v:V}{u:Value}{cv:List V}
theorem zQ8{h1:Heap}{tk:Nat}(I:Inv X pins σ H s)(hA:A.frames=some X.stack)(hh:A.handled=none)(S:LamScope N p scope cl)(hN:N.length=cv.length+1)(r:RelV v u)
  (sub:∀x c,cl.lookup x=some c->X.env.cells.lookup x=some c)
  (aa:∀i x y,N[i+1]?=some x->cv[i]?=some y->∃c,cl.lookup x=some c/\∃u,RelV y u/\s.heap.IsCell c (some u))
  (Y:h1.Ns s.heap.objs.size (λy=>[(p,u)].reverse.lookup y)) (hk:∀b o,s.heap.get? b=some o->h1.get? b=some o) :
  Inv (zf1 X A N qual scope f c' cl s H) [] (some v::cv.map some) H { s with heap:=h1,toks:=tk }:=by
 have J:∀b:Addr,b ∉ (zf1 X A N qual scope f c' cl s H).ex:=λb z=>absurd (show b∈([]:List Addr) from z) (by simp)
 refine⟨⟨I.mod,S.kind,rfl,rfl,zi _,λy z c h1 h2=>?_,λy hy=>?_,λy c z _=>?_,λ_=>hh,Around.frames_deeper hA,.inr ⟨rfl,rfl⟩,λb z=>absurd z (J b),I.bs,zy I.ok.bsz I.sz,λb _ _=>J b,λb z=>absurd z (J b),I.stack,I.stkFree⟩,
  rfl,I.bare,Un.kept hk,⟨_,Y,λi y z e1 e2 e3=>?_⟩,λy c h=>?_,I.hok.fresh (zi _),λy c h=>I.freeC y c (sub y c h),λp hp=>absurd (show p∈([]:QqL) from hp) (by simp),I.hok.kept hk,?_⟩
 ·exact I.ok.inj y z c (sub y c h1) (sub z c h2)
 ·have hy : scope.names.lookup y = some .cell \/ scope.names.lookup y = some .free := hy
  rcases hy with hy |hy
  ·exact absurd rfl (S.nocell _ (PySem.mem_of_lookup hy))
  ·exact S.free y hy
 ·cases(show false=true from z)
 ·cases i with
  |zero=>
   have e4:y=p:=by have:=e1.symm.trans S.head;exact zB this
   subst e4
   have e5:v=z:=by simpa using e2
   subst e5;refine⟨u,r,.inl ⟨S.par,?_⟩⟩;simp
  | succ i =>
   have e4:cv[i]?=some z:=by
    have:(cv.map some)[i]?=some (some z):=by simpa using e2
    rw[zv] at this
    cases q:cv[i]? with
    |none=>rw[q] at this;cases this
    |some a=>rw[q] at this;cases this;rfl
   obtain⟨c,e5,u',r',o,W,hd⟩:=aa i y z e1 e4;exact⟨u',r',.inr ⟨.inr (S.rest i y e1),c,e5,o,hk _ _ W,hd⟩⟩
 ·obtain⟨w',o,W,hd⟩:=I.cell y c (sub y c h);exact⟨w',o,hk _ _ W,hd⟩
 ·show(some v::cv.map some).length=N.length;rw[zL,zh,hN]
theorem zQ7{t:TE}{Q:VK}{E:QqV}(I:Inv X pins σ H s)(hf:s.heap.get? f=some (W.kla_obj "<lambda>" qual params body scope cl pm c' ctv))(ag:s.heap.CodeRec (.ref c') qual)
  (hA:A.frames=some X.stack) (Y:A.depth<recursionLimit) (hh:A.handled=none) (S:LamScope N p scope cl) (hN:N.length=cv.length+1)
  (hb:bindArgs (W.kla_fn "<lambda>" qual params body scope cl pm (.ref c') ctv) ⟨[u],[]⟩=pure [(p,u)]) (r:RelV v u)
  (sub:∀x c,cl.lookup x=some c->X.env.cells.lookup x=some c)
  (ah:∀i x y,N[i+1]?=some x->cv[i]?=some y->∃c,cl.lookup x=some c/\∃u,RelV y u/\s.heap.IsCell c (some u))
  (aa:PE (zf1 X A N qual scope f c' cl s H) body t) (ht:t (some v::cv.map some) H Q) :
  wpAny (model X.prog X.w) A (call (.ref f) [u]) (EP X pins σ λv H'=>Q v H'/\∀b o w,H b=some (.frz o w)->H' b=some (.frz o w)) E s:=by
 refine wpAny_call (codeAny_mono (R:=λr s'=>match r with |.ok (.ret u)=>CE X.stack X.prog X.w H s (λv H'=>Q v H'/\∀b o w,H b=some (.frz o w)->H' b=some (.frz o w)) u s' |_=>False) ?_ λr s' hq=>?_)
 ·refine W.kla_callFunE Y hf rfl S.co S.gen rfl ag ?_;rw[hb];refine zj (wpAny_newFunctionEnv S.nocell (λy hy=>?_) (λh1 af ae=>?_) S.kind)
  ·have : y = (p, u) := by simpa using hy
   rw[this];exact S.par
  ·have hk:∀b o,s.heap.get? b=some o->h1.get? b=some o:=λb o e=>ae.extBut b o (zJ (zw e)) (zg _ e);refine⟨I.nolimit.keeps hk,?_⟩;show codeAny _ _ (.expr body (W.envX qual scope s.heap.objs.size f (.ref c') cl)) _ _;have I2:Inv (zf1 X A N qual scope f c' cl s H) [] (some v::cv.map some) H { s with heap:=h1,toks:=s.toks+[(p,u)].length }:=zQ8 I hA hh S hN r sub ah af hk;refine W.kla_codeExpr (wv (aa [] _ _ H Q I2 ht) (λu' s' h=>?_) λ_ _ z=>z.elim);obtain⟨v',H',J,rv,q⟩:=h;exact⟨v',H',J.os,J.bare,J.base,J.hok,rv,q,J.base.frzs⟩
 ·cases r with
  |error e=>exact False.elim hq
  |ok fl=>
   cases fl with
   |ret u=>exact I.after hq
   |next=>exact False.elim hq
   |brk=>exact False.elim hq
   |cont=>exact False.elim hq
end
noncomputable def Kh(sp:V->Hp->VK->Prop):List V->Hp->(List V->Hp->Prop)->Prop
 |[],H,Q=>Q [] H
 |v::vs,H,Q=>sp v H λk H'=>Kh sp vs H' λI H''=>Q (k::I) H''
section
variable {X:Cx}{pins:QqL}{σ:St}{H:Hp}{s:Shared}
theorem Inv.pin1{a:Addr}{o:Obj}(I:Inv X pins σ H s)(W:FpOk X pins H a)(Y:s.heap.get? a=some o)(hc:∀v,o.data≠.cell v):Inv X ((a,o)::pins) σ H s:=by
 refine⟨I.ok,I.os,I.bare,I.base,I.loc,I.cell,I.free,I.freeC,λp J=>?_,I.hok,I.len⟩
 rcases zU.mp J with J |J
 ·exact I.pin p (xu _ J)
 ·rcases zt.mp J with rfl | J
  ·exact⟨Y,W.1,W.2.1,W.2.2.1,hc⟩
  ·exact I.pin p (zI _ J)
theorem Inv.unpin{q:Addr × Obj}(I:Inv X (q::pins) σ H s):Inv X pins σ H s:=
 ⟨I.ok,I.os,I.bare,I.base,I.loc,I.cell,I.free,I.freeC,λp J=>I.pin p (by
  rcases zU.mp J with J |J
  ·exact xu _ J
  ·exact zI _ (zG _ J)),I.hok,I.len⟩
theorem FpOk.reH{b:Addr}{H':Hp}(h:FpOk X pins H b)(I:H' b=none):FpOk X pins H' b:=⟨I,h.2⟩
theorem FpOk.more{b:Addr}{q:Addr × Obj}(h:FpOk X pins H b)(J:q.1≠b):FpOk X (q::pins) H b:=
 ⟨h.1,h.2.1,h.2.2.1,h.2.2.2.1,h.2.2.2.2.1,λp I=>by
  rcases zU.mp I with I |I
  ·exact h.2.2.2.2.2 p (xu _ I)
  ·rcases zt.mp I with rfl | I
   ·exact J
   ·exact h.2.2.2.2.2 p (zI _ I)⟩
theorem Inv.pinAt{q:Addr × Obj}(I:Inv X pins σ H s)(h:q∈pins):s.heap.get? q.1=some q.2/\H q.1=none:=
 let z:=I.pin q (zI _ h);⟨z.1,z.2.1⟩
theorem Ky(I vs:QqW)(h:I.length=vs.length):I.toArray.zip vs.toArray=(Array.range vs.length).map λi=>(I.getD i .none,vs.getD i .none):=by
 refine Array.ext_getElem? λk=>?_;rw[yS]
 by_cases hk:k<vs.length
 ·have W : (Array.range vs.length)[k]? = some k := by rw [Array.getElem?_range, if_pos hk]
  have hk':k<I.length:=x3
  rw[W]
  have J:(I.toArray.zip vs.toArray)[k]?=some (I[k],vs[k]):=by
   rw[wC (by simp;lia)]
   simp
  rw[J];simp[xa,hk,hk']
 ·rw [wA (by simp; lia), wA (by simp; lia)]
  rfl
noncomputable def vZ(X:Cx)(ys:List V)(Q:VK)(I:List V)(H:Hp):Prop:=∃(J:Bool) (r:Nat->Nat->Bool),I.length=ys.length /\
 (∀a b,a<ys.length->b<ys.length->a≠b->r a b=!r b a)/\(∀a b c,a<ys.length->b<ys.length->c<ys.length->r a b=true->r b c=true->r a c=true) /\
 (∀a,a<ys.length->xO5 X H J (I.getD a .non))/\(∀a b,a<ys.length->b<ys.length->a≠b->xO7 X H J (I.getD a .non) (I.getD b .non) (r a b)) /\
 ∀ls:Array Nat,ls.Perm (Array.range ys.length)->Srt.Up r ls ys.length->∀l,H l=none->Q (.ref l) (upd H l (.lst (ls.toList.map λi=>ys.getD i .non)))
variable {A:Around}{E:QqV}{a kS:Addr}{vs:QqW}{ys ks:List V}{kA:Array Value}{e e1:Nat}{Q:VK}
theorem zD1{st:SortSt}{ls:Array Nat}(I:Inv X pins σ H s)(hk:s.heap.get? kS=some (seqObj "list" kA e))(ha:s.heap.get? a=some (seqObj "list" #[] e1))(fk:FpOk X pins H kS)(fa:FpOk X pins H a)(ag:kS≠a)(ae:X.s₀.heap.objs.size<=a)(hz:kA.size<=64)
  (rv:Vals ys vs) (ah:ys.length<64) (h1:arrOf st=ls.map λi=>(kA.toList.getD i .none,vs.getD i .none)) (h2:failedOf st=none) (h3:ls.Perm (Array.range ys.length)) (q:Q (.ref a) (upd H a (.lst (ls.toList.map λi=>ys.getD i .non)))) :
  wpAny (model X.prog X.w) A (ksk_tail a false e1 (.ref kS) st) (λr s'=>r=.done (.ret .none)/\∃H4,Inv X pins σ H4 s'/\Q (.ref a) H4) E s:=by
 have len:=rv.length
 have aa:ls.size=ys.length:=by rw[h3.size_eq,yJ]
 have af:∀i∈ls.toList,i<ys.length:=λi hi=>by
  have:=(h3.mem_iff).mp (Array.mem_toList_iff.mp hi)
  rwa [Array.mem_range] at this
 have s1:=Heap.SameBut.update s.heap kS (Obj.mapSeq λ_=>(#[]:Array Value));have W:(s.heap.update kS (Obj.mapSeq λ_=>(#[]:Array Value))).get? a=some (seqObj "list" #[] e1):=(s1.2 a ag.symm).trans ha
 have ea:(arrOf st).map (·.2)=ls.map λi=>vs.getD i .none:=by rw[h1,Array.map_map];rfl
 have es:((arrOf st).map (·.2)).size<=64:=by rw[ea,zN,aa];lia
 unfold ksk_tail;dsimp only
 refine zc (listUpdate_at hk rfl ?_ (by rw[sizeLine_eq];lia) (wn _))
 refine zc (wpAny_letGo ?_);refine zc (seqEpoch_at W rfl ?_);simp only[xM,if_false]
 refine zc (listUpdate_at W rfl ?_ (wn _) (zy es (by rw[sizeLine_eq];lia)))
 rw[h2];simp only[bne_self_eq_false,xM,if_false];rw[ea];have s2:=Heap.SameBut.update (s.heap.update kS (Obj.mapSeq λ_=>(#[]:Array Value))) a (Obj.mapSeq λ_=>ls.map λi=>vs.getD i .none)
 obtain⟨c2,hc2⟩:∃c2,((s.heap.update kS (Obj.mapSeq λ_=>(#[]:Array Value))).update a (Obj.mapSeq λ_=>ls.map λi=>vs.getD i .none)).get? a=some (seqObj "list" (ls.map λi=>vs.getD i .none) c2):=
  ⟨_,get?_update_seq W λ_=>ls.map λi=>vs.getD i .none⟩
 refine zj ⟨rfl,_,?_,q⟩
 have J:=I.turnedL (t':=s.toks) (h':=(s.heap.update kS (Obj.mapSeq λ_=>(#[]:Array Value))).update a (Obj.mapSeq λ_=>ls.map λi=>vs.getD i .none)) (ch:=[kS,a]) (λb o Y z=>by
  have n1:b≠kS:=λz=>Y (by simp[z])
  have n2:b≠a:=λz=>Y (by simp[z])
  exact(s2.2 b n2).trans ((s1.2 b n1).trans z)) (λb Y=>by
  rcases zt.mp Y with rfl |Y
  ·exact fk
  ·rw[xi.mp Y];exact fa)
 refine J.track fa.1 ae fa.2.1 fa.2.2.2.2.1 fa.2.2.2.2.2 ⟨?_,(ls.toList.map λi=>vs.getD i .none),c2,Kc rv af,?_⟩
 ·rw [zh, zk, aa]
  exact zy (wb ah) x4
 ·have ee : (ls.toList.map λi => vs.getD i .none).toArray = ls.map λi => vs.getD i .none := by rw [<- Array.toList_map, Array.toArray_toList]
  rw[ee];exact hc2
theorem zQ9(I:Inv X pins σ H s)(hk:s.heap.get? kS=some (seqObj "list" kA e))(ha:s.heap.get? a=some (seqObj "list" #[] e1))(fk:FpOk X pins H kS)(fa:FpOk X pins H a)(ag:kS≠a)(af:X.s₀.heap.objs.size<=a)
  (rv:Vals ys vs) (ai:ys.length<64) (rk:Vals ks kA.toList) (un:A.units+60<cLine) (fin:vZ X ys Q ks H) :
  wpAny (model X.prog X.w) A (ksk_end a false vs.toArray e1 (.ref kS) kA) (λr s'=>r=.done (.ret .none)/\∃Y,Inv X pins σ Y s'/\Q (.ref a) Y) E s:=by
 classical
 obtain⟨f,rr,ak,tot,tr,aa,cmp,q⟩:=fin;have len:=rv.length;have aj:=rk.length
 have hz:kA.size<=64:=by rw[<- zk];lia
 have W:kA.zip vs.toArray=(Array.range vs.length).map λi=>(kA.toList.getD i .none,vs.getD i .none):=by
  have:=Ky kA.toList vs x3
  rwa [Array.toArray_toList] at this
 have J:∀(t:SortSt) (ls:Array Nat),arrOf t=ls.map (λi=>(kA.toList.getD i .none,vs.getD i .none))->failedOf t=none->ls.Perm (Array.range vs.length)->Srt.Up rr ls vs.length ->
   wpAny (model X.prog X.w) A (ksk_tail a false e1 (.ref kS) t) (λr s'=>r=.done (.ret .none)/\∃Y,Inv X pins σ Y s'/\Q (.ref a) Y) E s:=λt ls a1 a2 a3 a4=>by
  rw[<- len] at a3 a4;exact zD1 I hk ha fk fa ag af hz rv ai a1 a2 a3 (q ls a3 a4 a fa.1)
 unfold ksk_end;dsimp only;simp only[xM,if_false]
 by_cases c:vs.toArray.size<2
 ·rw [if_pos c, if_pos c];refine zc (zj ?_);rw[StateT.run_pure];refine zc (zj (J _ (Array.range vs.length) W rfl (Array.Perm.refl _) λi j am hj=>?_))
  have:vs.length<2:=by simpa using c
  lia
 ·rw [if_neg c, if_neg c]
  have c2:2<=vs.length:=by simpa using c
  have ae:∀v∈kA.toList,∃i,i<ys.length/\v=kA.toList.getD i .none:=λv hv=>by
   obtain⟨i,hi,e⟩:=List.getElem_of_mem hv
   exact⟨i,x3,by rw[xa,ze hi,e];rfl⟩
  have each:∀v∈kA.toList,∃p rest,Srt.Tup s.heap v p rest/\s.TypeIs p (if f then "int" else "tuple"):=λv hv=>by
   obtain⟨i,hi,rfl⟩:=ae v hv
   exact aa i hi pins _ σ _ I (rk.getD x3)
  have ek:kA=kA.toList.toArray:=by rw[Array.toArray_toList]
  have kind:∀(E:QqV) (Q:SortKind->Shared->Prop),Q (tuples' f) s->wpAny (model X.prog X.w) A (keyKind' kA) Q E s:=λE Q q=>by
   rw[ek]
   refine Srt.Qo (s:=s) (T:=if f then "int" else "tuple") (fst:=λv=>if h:∃p rest,Srt.Tup s.heap v p rest/\s.TypeIs p (if f then "int" else "tuple") then h.choose else v) x3 (λv hv=>?_) (λv hv=>?_) ?_
   ·have e := each v hv;obtain⟨rest,t,_⟩:=e.choose_spec
    exact⟨rest,by rw[dif_pos e];exact t⟩
   ·have e := each v hv;obtain⟨rest,_,t⟩:=e.choose_spec
    show Shared.TypeIs _ (if h:_ then _ else _) _
    rw[dif_pos e];exact t
   ·cases f
    ·exact q
    ·exact q
  refine zc (kind _ _ ?_)
  have hR:Srt.Rule X.prog X.w A s vs.length (λi=>(kA.toList.getD i .none,vs.getD i .none)) (tuples' f) rr:=by
   refine⟨λa b ha hb=>tot a b x3 x3,λa b c ha hb hc=>tr a b c x3 x3 x3,λa b ha hb ah E Q q=>?_⟩
   obtain⟨p1,ps,p2,qs,t1,t2,L⟩:=cmp a b x3 x3 ah pins _ σ _ _ I (rk.getD x3) (rk.getD x3) A un
   exact Srt.zq3 t1 t2 L q
  have N0:Srt.Now vs.length (λi=>(kA.toList.getD i .none,vs.getD i .none)) (tuples' f) (Array.range vs.length) (SortSt.mk' (tuples' f) (kA.zip vs.toArray) #[] 7 none):=⟨W,rfl,rfl,rfl,Array.Perm.refl _⟩;refine zc (wv (Srt.xh0 hR N0 c2 (Q:=λ_ t=>∃ls:Array Nat,arrOf t=ls.map (λi=>(kA.toList.getD i .none,vs.getD i .none))/\failedOf t=none/\ls.Perm (Array.range vs.length)/\Srt.Up rr ls vs.length) λls t a1 a2 a3 a4=>⟨ls,a1,a2,a3,a4⟩) ?_ λ_ _ e=>e);rintro⟨_,t⟩ s' ⟨rfl,ls,a1,a2,a3,a4⟩;exact J t ls a1 a2 a3 a4
theorem zD2{f:Value}{sp:V->Hp->VK->Prop}{Ok:Hp->Prop}(I:Inv X pins σ H s)(hk:s.heap.get? kS=some (seqObj "list" #[] 0))(ha:s.heap.get? a=some (seqObj "list" #[] e1))(fk:FpOk X pins H kS)(fa:FpOk X pins H a)(aa:kS≠a)(ah:X.s₀.heap.objs.size<=a)
  (rv:Vals ys vs) (ai:ys.length<64) (un:A.units+60<cLine) (ok:Ok H)
  (turn:∀(pins':QqL) (s':Shared) (H':Hp) (y:V) (v:Value) (Q:VK),(∀p∈pins,p∈pins')->Inv X pins' σ H' s'->Ok H'->RelV y v->sp y H' Q->wpAny (model X.prog X.w) A (call f [v]) (EP X pins' σ λk H2=>Q k H2/\Ok H2) (λ_ _=>False) s')
  (fin:Kh sp ys H (vZ X ys Q)) :
  wpAny (model X.prog X.w) A (ksk_rest a f false vs.toArray e1 (.ref kS)) (λr s'=>r=.done (.ret .none)/\∃H4,Inv X pins σ H4 s'/\Q (.ref a) H4) E s:=by
 have len:=rv.length;have fk':FpOk X ((a,seqObj "list" #[] e1)::pins) H kS:=fk.more (Ne.symm aa)
 have nc:∀(xs:Array Value) (n:Nat) (v:Option Value),(seqObj "list" xs n).data≠.cell v:=λ_ _ _ z=>by cases z
 unfold ksk_rest;refine zc (wQ ?_)
 first
  |rw[List.forIn_toArray]
  |(rw[<- Array.forIn_toList];simp only[List.toList_toArray])
  |rw[<- Array.forIn_toList]
 refine zc (ksk_fold (λi s'=>∃H' kA e ks,Inv X ((kS,seqObj "list" kA e)::(a,seqObj "list" #[] e1)::pins) σ H' s'/\Ok H'/\Vals ks kA.toList/\ks.length=i/\Kh sp (ys.drop i) H' λrest Y=>vZ X ys Q (ks++rest) Y) vs 0 s
  ⟨H,#[],0,[],(I.pin1 fa ha (nc _ _)).pin1 fk' hk (nc _ _),ok,.nil,rfl,by simpa using fin⟩ ?step ?done)
 case step=>
  rintro j x s' hx ⟨H',kA,e,ks,I',ok',rk,lk,J⟩;simp only[Nat.zero_add] at lk J ⊢;have hj:j<vs.length:=(zu.mp hx).1
  have hj':j<ys.length:=x3
  have ey:ys[j]?=some ys[j]:=ze hj';obtain⟨u,eu,ry⟩:=rv.get ey;have aj:u=x:=zB (eu.symm.trans hx);subst aj;rw[yr hj'] at J
  have ak:kA.size<=64:=by rw[<- zk,<- rk.length];lia
  refine zc (wpAny_attempt (wv (turn _ s' H' ys[j] u _ (λp hp=>zG _ (zG _ hp)) I' ok' ry J) (λv s'' he=>?_) λ_ _ hF=>hF.elim));obtain⟨k,H2,I2,af,ae,ag⟩:=he
  try dsimp only
  have W:=I2.pinAt (q:=(kS,seqObj "list" kA e)) (.head _);have na:=I2.pinAt (q:=(a,seqObj "list" #[] e1)) (.tail _ (.head _));have s1:=Heap.SameBut.update s''.heap kS (Obj.mapSeq (·.push v));obtain⟨c2,hc2⟩:∃c2,(s''.heap.update kS (Obj.mapSeq (·.push v))).get? kS=some (seqObj "list" (kA.push v) c2):=⟨_,get?_update_seq W.1 (·.push v)⟩
  have ea:(kA.push v).toList=kA.toList++[v]:=by simp
  refine zc (listUpdate_at W.1 rfl ?_ (by rw[sizeLine_eq];lia) (zy (Nat.le_of_eq (Array.size_push ..)) (by rw[sizeLine_eq];lia)))
  have f2:FpOk X ((a,seqObj "list" #[] e1)::pins) H2 kS:=fk'.reH W.2;have I3:=I2.unpin.turned (t':=s''.toks) (h':=s''.heap.update kS (Obj.mapSeq (·.push v))) (it:=kS) (λb o hb z=>(s1.2 b hb).trans z) W.2 f2.2.1 f2.2.2.2.1 f2.2.2.2.2.1 f2.2.2.2.2.2
  refine zj ⟨rfl,H2,kA.push v,c2,ks++[k],I3.pin1 f2 hc2 (nc _ _),ag,by rw[ea];exact rk.append (.cons af .nil),by rw[zr,lk];rfl,?_⟩
  have e9:(λrest Y=>vZ X ys Q (ks++[k]++rest) Y)=λrest Y=>vZ X ys Q (ks++k::rest) Y:=by funext rest Y;rw[wq];rfl
  rw[e9];exact ae
 case done=>
  rintro s' ⟨H',kA,e,ks,I',ok',rk,lk,J⟩;rw[Nat.zero_add,<- len,List.drop_length] at J;have J:vZ X ys Q (ks++[]) H':=J;rw[yV] at J;have W:=I'.pinAt (q:=(kS,seqObj "list" kA e)) (.head _);have na:=I'.pinAt (q:=(a,seqObj "list" #[] e1)) (.tail _ (.head _))
  try dsimp only
  refine zc (listItems_at W.1 rfl ?_);exact zQ9 I'.unpin.unpin W.1 na.1 (fk.reH W.2) (fa.reH na.2) aa ah rv ai rk un J
theorem zD0{f:Value}{sp:V->Hp->VK->Prop}{Ok:Hp->Prop}{n0:Nat}(I:Inv X pins σ H s)(ha:s.heap.get? a=some (seqObj "list" vs.toArray n0))(fa:FpOk X pins H a)(W:X.s₀.heap.objs.size<=a)
  (rv:Vals ys vs) (aa:ys.length<64) (un:A.units+60<cLine) (ok:Ok H)
  (turn:∀(pins':QqL) (s':Shared) (H':Hp) (y:V) (v:Value) (Q:VK),(∀p∈pins,p∈pins')->Inv X pins' σ H' s'->Ok H'->RelV y v->sp y H' Q->wpAny (model X.prog X.w) A (call f [v]) (EP X pins' σ λk H2=>Q k H2/\Ok H2) (λ_ _=>False) s')
  (fin:Kh sp ys H (vZ X ys Q)) :
  wpAny (model X.prog X.w) A (ksk_tree a f false) (λr s'=>r=.done (.ret .none)/\∃H4,Inv X pins σ H4 s'/\Q (.ref a) H4) E s:=by
 have len:=rv.length;have la:=zw ha;have s1:=Heap.SameBut.update s.heap a (Obj.mapSeq λ_=>(#[]:Array Value));obtain⟨e1,at1⟩:∃e1,(s.heap.update a (Obj.mapSeq λ_=>(#[]:Array Value))).get? a=some (seqObj "list" #[] e1):=⟨_,get?_update_seq ha λ_=>#[]⟩;have I1:=I.turned (t':=s.toks) (h':=s.heap.update a (Obj.mapSeq λ_=>(#[]:Array Value))) (it:=a) (λb o hb z=>(s1.2 b hb).trans z) fa.1 fa.2.1 fa.2.2.2.1 fa.2.2.2.2.1 fa.2.2.2.2.2;have keep:∀b o,(s.heap.update a (Obj.mapSeq λ_=>(#[]:Array Value))).get? b=some o->(((s.heap.update a (Obj.mapSeq λ_=>(#[]:Array Value))).push (seqObj "tuple" vs.toArray 0)).push (seqObj "list" #[] 0)).get? b=some o:=λb o z=>zg _ (zg _ z);have I2:=I1.kept (t':=s.toks) keep
 have Y:((s.heap.update a (Obj.mapSeq λ_=>(#[]:Array Value))).push (seqObj "tuple" vs.toArray 0)).objs.size=s.heap.objs.size+1:=by rw[size_push',Heap.size_update]
 have J:(s.heap.update a (Obj.mapSeq λ_=>(#[]:Array Value))).objs.size<=((s.heap.update a (Obj.mapSeq λ_=>(#[]:Array Value))).push (seqObj "tuple" vs.toArray 0)).objs.size:=by rw[size_push'];lia
 unfold ksk_tree;refine zc (listItems_at ha rfl ?_)
 refine zc (listUpdate_at ha rfl ?_ (by rw[zn,sizeLine_eq];lia) (wn _))
 refine zc (seqEpoch_at at1 rfl ?_)
 refine zc (wpAny_newTuple ?_ (by show vs.length<=_;rw[sizeLine_eq];lia))
 refine zc (wpAny_newList ?_ (wn _));refine wU ?_
 exact zD2 (s:={ s with heap:=((s.heap.update a (Obj.mapSeq λ_=>(#[]:Array Value))).push (seqObj "tuple" vs.toArray 0)).push (seqObj "list" #[] 0) }) (kS:=((s.heap.update a (Obj.mapSeq λ_=>(#[]:Array Value))).push (seqObj "tuple" vs.toArray 0)).objs.size)
  I2 (zD _ rfl) (keep _ _ at1) (I1.fpOk J (I1.hok.fresh J)) fa (by rw[Y];exact wa (wM la)) W rv aa un ok turn fin
end
theorem TabG.trip{φ:QqA}{l:QqW}(g:TabG φ l):TriplesOk l:=by
 induction g with
 |nil=>exact True.intro
 |cons _ _ I=>exact I
theorem TabG.among{φ:QqA}{pos:Pos}{l:QqW}(g:TabG φ l){v:Value}(e:codeAmong pos l=some v):∃c,v=.ref c/\φ c:=by
 induction g with
 |nil=>cases e
 |cons h _ I=>
  unfold codeAmong at e
  split at e
  ·cases e;exact⟨_,rfl,h⟩
  ·exact I e
theorem TabG.snoc{φ:QqA}{l:QqW}(g:TabG φ l){i j:Int}{t u:Tok}{c:Addr}(h:φ c):TabG φ (l++[.int i t,.int j u,.ref c]):=by
 induction g with
 |nil=>exact .cons h .nil
 |cons h' _ I=>exact .cons h' I
structure LamBase(base:Heap)(mg:QqM)(c P:Addr):Prop where
 hd:W.CodeHd base c P
 bm:∃bm ob,mg "__builtins__" = some (.ref bm)/\bm≠builtinsNs/\base.get? bm=some ob/\ob.cls=.type "module" /\ ob.dict=some builtinsNs/\ob.data=.plain
noncomputable def OneMore(H I:Hp):Prop:=I=H\/∃c o,H c=none/\I=upd H c o
theorem OneMore.keep{H I:Hp}(h:OneMore H I):∀b o,H b=some o->I b=some o:=λb o e=>by
 rcases h with rfl |⟨c,u,J,rfl⟩
 ·exact e
 ·rw[wE (yz e J)];exact e
section
variable {X:Cx}{pins:QqL}{σ:St}{H:Hp}{s:Shared}{c P:Addr}{q p:Str}{params:Arguments}{body:Expr}{scope:Scope}{clos:List (Str × Addr)}{pos lpos:Pos}
theorem zC8{Q:QqV}{E:QqV}(I:Inv X pins σ H s)(hc:X.env.code=.ref c)(L:LamBase X.base X.mg c P)(hP:H P=some (.cot q))(hq:X.env.qual ++ "<lambda>" = q)
  (ak:closureFor scope X.env=pure clos) (aj:defaultsOf params X.env=([],[]))
  (h:∀(f c':Addr) (Y:Obj) (J:Value) (H2:Hp) (s2:Shared),OneMore H H2->Inv X ((f,W.kla_obj "<lambda>" q params body scope clos ((X.mg "__name__").getD .none) c' J)::pins) σ H2 s2->H2 c'=some (.frz Y (.own 0))->xh2 Y q->Q (.ref f) s2) :
  wpAny (model X.prog X.w) X.A (eval (.Lambda params body scope lpos) X.env) Q E s:=by
 refine W.kla_eval aj ?_;rw[hq];obtain⟨ps,ho,g⟩:=I.hok P _ hP;obtain⟨bm,ob,b1,b2,b3,b4,b5,b6⟩:=L.bm
 have nb:∀b o,X.base.get? b=some o->b≠P:=λb o e z=>by
  have:=(I.bs b o e).2;rw[z,hP] at this;cases this
 have ao:mainGlobals≠P:=by
  obtain⟨o,es,ep,e,_⟩:=I.mod.glob;exact nb _ _ e
 have aq:bm≠mainGlobals:=λz=>by
  obtain⟨o,es,ep,e,hd,_⟩:=I.mod.glob;rw[z,e] at b3;cases b3;rw[hd] at b6;cases b6
 have hB:s.heap.BuiltinsAt X.mg P:=⟨bm,ob,b1,b2,aq,nb _ _ b3,I.bk _ _ b3,b4,b5,b6⟩
 have nc:∀(c':Addr) (J:Value) (v:Option Value),(W.kla_obj "<lambda>" q params body scope clos ((X.mg "__name__").getD .none) c' J).data≠.cell v:=λ_ _ _ z=>by cases z
 cases hf:codeAmong lpos ps.toList with
 |some cv=>
  obtain⟨c',rfl,Y,e1,e2⟩:=g.among hf;refine W.kla_makeFunctionHit (mg:=X.mg) ak I.ok.glob (I.mod.glob.keeps I.bk) hc (L.hd.keeps I.bk) ho g.trip hf hB λJ h' tk hk aa=>?_;have I2:=I.kept (t':=tk) (h':=h'.push (W.kla_obj "<lambda>" q params body scope clos ((X.mg "__name__").getD .none) c' J)) λb o e=>zg _ (hk b o e);exact h _ c' Y J H _ (.inl rfl) (I2.pin1 (I.fpOk aa (I.hok.fresh aa)) (zD _ rfl) (nc _ _)) e1 e2
 | none =>
  refine W.kla_makeFunction (mg:=X.mg) ak I.ok.glob (I.mod.glob.keeps I.bk) hc (L.hd.keeps I.bk) ho g.trip hf ao hB λc' J h' tk hx ae ai ag af=>?_;obtain⟨c2,Y,vs,t,ec,ah,hd,hv⟩:=ag;cases ec;have hn:H c'=none:=I.hok.fresh ae;have aa:s.heap.objs.size<=h'.objs.size:=zy ae (wb ai)
  have nP:∀b,H b=none->b≠P:=λb e z=>by rw[z,hP] at e;cases e
  have kp:∀b o,b≠P->s.heap.get? b=some o->(h'.push (W.kla_obj "<lambda>" q params body scope clos ((X.mg "__name__").getD .none) c' J)).get? b=some o:=λb o hb e=>zg _ (hx b o hb e);have cP:c'≠P:=nP c' hn
  have up:∀b u,H b=some u->upd H c' (.frz Y (.own 0)) b=some u:=λb u e=>by rw[wE (yz e hn)];exact e
  have U:Un X.fs [] H (upd H c' (.frz Y (.own 0))) s.heap (h'.push (W.kla_obj "<lambda>" q params body scope clos ((X.mg "__name__").getD .none) c' J)):=by
   refine⟨λb o e n _ _=>kp b o (nP b n) e,λb o e n _ _=>⟨o.slots,kp b o (nP b n) e⟩,λb o e n _=>?_,λb o e _=>?_,λb xs e=>up b _ e,λb o u e=>up b _ e,λb ps e=>⟨#[],by rw[up b _ e];simp⟩⟩
   ·rw[wE (zJ (zT (zw e) ae))];exact n
   ·by_cases hb : b = P
    ·exact⟨_,zg _ (hb ▸ af)⟩
    ·exact⟨o,kp b o hb e⟩
  have hok:HOk X.prog X.w (upd H c' (.frz Y (.own 0))) (h'.push (W.kla_obj "<lambda>" q params body scope clos ((X.mg "__name__").getD .none) c' J)):=λb u e=>by
   by_cases hb:b=c'
   ·subst hb;rw[yK] at e;cases e;exact⟨zg _ ah,Y,zg _ ah⟩
   ·rw [wE hb] at e
    by_cases am:b=P
    ·subst am;rw[hP] at e;cases e;refine⟨_,zg _ af,?_⟩;rw[xj];exact(g.imp λd ⟨Y,z,i⟩=>⟨Y,up _ _ z,i⟩).snoc ⟨Y,yK,vs,t,hd,hv⟩
    ·refine (I.hok b u e).stay (λd v hd z => kp d v ?_ z) (λd z => up d _ z) (λd xs z => up d _ z) λd o u z => up d _ z
     rcases hd with rfl |hd
     ·exact am
     ·intro z;rw[z,hP] at hd;cases hd
  have I2:=I.un (t':=tk) U hok
  have ap:upd H c' (.frz Y (.own 0)) h'.objs.size=none:=by rw[wE (wa ai)];exact I.hok.fresh aa
  exact h _ c' Y J _ _ (.inr ⟨c',_,hn,rfl⟩) (I2.pin1 (I.fpOk aa ap) (zD _ rfl) (nc _ _)) yK ⟨vs,t,hd,hv⟩
theorem SqL.keep{K:W.Frag}{H I:Hp}{a:Addr}{xs:List V}(h:SqL K H a xs)(k:∀b o,H b=some o->I b=some o):SqL K I a xs:=by
 rcases h with (h |⟨o,h⟩) |h
 ·exact .inl (.inl (k _ _ h))
 ·exact .inl (.inr ⟨o,k _ _ h⟩)
 ·exact .inr h
structure Caps(X:Cx)(N:List Str)(clos:List (Str × Addr))(caps:List Nat):Prop where
 len:N.length=caps.length+1
 at_:∀i x,N[i+1]?=some x->X.env.kindOf x=some .cell/\∃j,caps[i]?=some j/\X.N[j]?=some x
 sub:∀x c,clos.lookup x=some c->X.env.cells.lookup x=some c
 has:∀i x,N[i+1]?=some x->∃c,clos.lookup x=some c
noncomputable def zV4(X:Cx)(P:Addr)(q:Str)(caps:List Nat)(tb:Hp->TE)(Y:TA):TE:=λσ H Q=>Y σ H λvs I=>∃(J:Addr) (ys cv:List V),vs=[.ref J]/\SqL X.K I J ys/\ys.length<64/\I P=some (.cot q) /\
 cv.length=caps.length/\(∀(i j:Nat),caps[i]?=some j->∃y,cv[i]?=some y/\σ[j]?=some (some y))/\∀W,OneMore I W->Kh (λy H' Q'=>tb H' (some y::cv.map some) H' Q') ys W (vZ X ys Q)
theorem zd8{e:Expr}{t1:TA}{tb:Hp->TE}{N:List Str}{caps:List Nat}{k:Nat}{np kp:Pos}(hg:Gl X "sorted")(hm:X.mg "sorted" = none)(ha:PA X [e] t1)(hr:Room (k+3) X.A)
    (hc:X.env.code=.ref c) (L:LamBase X.base X.mg c P) (hq:X.env.qual ++ "<lambda>" = q) (ay:closureFor scope X.env=pure clos) (aj:defaultsOf params X.env=([],[]))
    (S:LamScope N p scope clos) (C:Caps X N clos caps) (hb:∀(u pm ap:Value) (c':Addr),bindArgs (W.kla_fn "<lambda>" q params body scope clos pm (.ref c') ap) ⟨[u],[]⟩=pure [(p,u)])
    (ag:∀(A:Around) (f c':Addr) (s:Shared) (H:Hp),Room k (A.deeper (W.envX q scope s.heap.objs.size f (.ref c') clos))->PE (zf1 X A N q scope f c' clos s H) body (tb H))
    (he:starEach [e] X.env=(false,eval e X.env)::starEach [] X.env:=by rfl) (ar:(backTo pos (starEach [e] X.env)).any (·.1)=false:=by rfl) :
    PE X (.Call (.Name "sorted" np) [e] [⟨some "key",.Lambda params body scope lpos,kp⟩] pos) (zV4 X P q caps tb t1):=by
  intro pins s σ H Q I h
  refine wpAny_Call_Name_kw (Vw I hg hm Yp ?_ x4 x4)
  refine callWith_kw (env:=X.env) (e:=e) (rest:=[]) (thn (ha pos pins s σ H _ I h) λus s1 ⟨vs,H1,I1,r1,q1⟩=>?_) (by rw[he];rfl) ar rfl rfl
  obtain⟨p0,ys,cv,rfl,hS,az,hP,aw,am,hk⟩:=q1;refine kws_cons (zC8 I1 hc L hP hq ay aj λf c' oc ap H2 J hH I2 av ak=>kws_nil ?_)
  cases r1 with
  | cons r rr =>
    cases rr;cases r;obtain⟨its,rv,pl,_⟩:=I2.list (hS.keep hH.keep);have hl:=pl.isList;have len:=rv.length;have fin:=hk H2 hH;have Y:Room (k+1) X.A.in1.in1:=hr.in1.in1;show wpAny _ _ (call (.builtin "sorted") [.ref p0] [(Str.ofString "key",.ref f)]) _ _ _;refine call_function_entry_kw kind_sorted plain_sorted entry_sorted (ksk_s1 _ _) ?_;unfold Builtin.«sorted»;refine zc (m:=checkCount "sorted" 1 1 _) (zj ?_)
    refine zc (collect_list hl ?_ (by rw[sizeLine_eq];lia))
    refine zc (wpAny_newList ?_ (by rw[sizeLine_eq];lia))
    have ae:((J.heap.push (seqObj "list" #[] 0)).update J.heap.objs.size (Obj.mapSeq (·++its.toArray))).objs.size=J.heap.objs.size+1:=by rw[Heap.size_update,size_push']
    have ai:(((J.heap.push (seqObj "list" #[] 0)).update J.heap.objs.size (Obj.mapSeq (·++its.toArray))).push (seqObj "list" its.toArray 0)).get? (J.heap.objs.size+1)=some (seqObj "list" its.toArray 0):=by
      rw[<- ae];exact zD _ rfl
    have keep:∀b o,J.heap.get? b=some o->(((J.heap.push (seqObj "list" #[] 0)).update J.heap.objs.size (Obj.mapSeq (·++its.toArray))).push (seqObj "list" its.toArray 0)).get? b=some o:=λb o q=>by
      have af:b<J.heap.objs.size:=zw q
      rw[Heap.get?_push_ne _ _ _ (by rw[ae];exact zJ (wM af)),Heap.get?_update_ne _ _ _ _ (zJ af),Heap.get?_push_ne _ _ _ (zJ af)]
      exact q
    have I3:=I2.kept (t':=J.toks) keep;have fa:=I2.fpOk (H':=H2) (b:=J.heap.objs.size+1) (wo _) (I2.hok.fresh (wo _));show wpAny _ _ _ _ _ { J with heap:=((J.heap.push (seqObj "list" #[] 0)).update J.heap.objs.size (Obj.mapSeq (·++its.toArray))).push (seqObj "list" its.toArray 0) };rw[ae];refine zc (wU (wpAny_call_entry_kw slot_list_sort ⟨_,ai,rfl⟩ entry_list_sort ?body (ksk_l1 _ _)))
    case body=>
      show wpAny (model X.prog X.w) X.A.in1.in1 (Builtin.«list.sort» ⟨[.ref (J.heap.objs.size+1)],[(Str.ofString "key",.ref f)]⟩) _ _ _;rw[ksk_t1]
      refine wv (zD0 (Ok:=λH'=>H' c'=some (.frz oc (.own 0))) I3 ai fa (zy I2.sz (wo _)) rv az (by have:=Y.un;lia) av (λpins' s' H' y v Q' ah I' ok' ry ht=>?_) fin) (λr s' hq=>?_) λ_ _ z=>z
      · have ax : s'.heap.CodeRec (.ref c') q := by
          obtain⟨z1,_⟩:=I'.hok c' _ ok';obtain⟨vs,t,d1,d2⟩:=ak;exact⟨c',oc,vs,t,rfl,z1,d1,d2⟩
        refine thn (zQ7 (cv:=cv) I' (I'.pinAt (ah _ (.head _))).1 ax I'.ok.frames Y.depth Y.hd S (by rw[C.len,aw]) (hb _ _ _ _) ry C.sub (λi x y e1 e2=>?_) (ag _ _ _ _ _ (Y.deeper _)) ht) λu s3 hz=>?_
        · obtain ⟨aa, j, e3, e4⟩ := C.at_ i x e1
          obtain⟨y',e5,e6⟩:=am i j e3;have e7:y'=y:=zB (e5.symm.trans e2);subst e7;obtain⟨cc,e8⟩:=C.has i x e1;obtain⟨m,_,lk⟩:=I'.loc;obtain⟨u',r',l⟩:=lk j x y' e4 e6 (.inr (.inl aa))
          rcases l with ⟨l,_⟩ |⟨_,c3,e9,z⟩
          · rw[aa] at l;cases l
          · have ao := C.sub x cc e8
            rw[e9] at ao;cases ao;exact⟨_,e8,u',r',z⟩
        · obtain ⟨v2, H3, I4, aq, q2, fz⟩ := hz
          exact⟨v2,H3,I4,aq,q2,fz _ _ _ ok'⟩
      · obtain ⟨rfl, H4, I4, q4⟩ := hq
        exact⟨_,rfl,zj ⟨_,rfl,.ref (J.heap.objs.size+1),H4,I4.unpin,rfl,q4⟩⟩
end
noncomputable def zI8(caps:List Nat)(tb:TD)(Y:TAD):TD:=λrho n R=>Y rho n λes J=>∃(I:List D) (keys:List SRow) (fl:Bool) (W:List D),es=[.lst I]/\I.length<64/\keys.length=I.length/\(∀x∈keys,x.key.num=fl)/\(keys.map SRow.name).Nodup /\
 W.length=caps.length/\(∀(i j:Nat),caps[i]?=some j->∃d,W[i]?=some d/\rho[j]?=some (some d)/\we d=true)/\(∀(i:Nat) (d:D) (x:SRow),I[i]?=some d->keys[i]?=some x->tb (some d::W.map some) J λe n2=>e=x.d/\n2=J) /\
 ∀ls:List Nat,ls.Perm (List.range I.length)->(ls.map λi=>keys.getD i QR).Pairwise (λx y=>x.lt y=true)->R (.lst (ls.map λi=>I.getD i .non)) J
section
variable {A:AC}{X:Cx}{os:List (Nat × Addr)}{n:Nat}{rho:Rho}{sg:St}{H:Hp}{ds:List D}{vs:List V}
theorem Jp(I:AmO A os n rho sg H ds vs):∀(caps:List Nat) (J:List D),J.length=caps.length->(∀(i j:Nat),caps[i]?=some j->∃d,J[i]?=some d/\rho[j]?=some (some d)/\we d=true) ->
  ∃cv:List V,Reps A.K A.G (Zof A os) H J cv/\∀(i j:Nat),caps[i]?=some j->∃y,cv[i]?=some y/\sg[j]?=some (some y)
 |[],[],_,_=>⟨[],.nil,λi j e=>by simp at e⟩
 |[],_::_,h,_=>by simp at h
 |_::_,[],h,_=>by simp at h
 | j :: caps, c :: J, h, W => by
  obtain⟨d,e1,e2,e3⟩:=W 0 j rfl
  have e4:c=d:=by simpa using e1
  subst e4;obtain⟨v,e5,e6⟩:=I.slot j c e2
  obtain⟨cv,r,hv⟩:=Jp I caps J (by simpa using h) λi j e=>by
   obtain⟨d,z1,z2⟩:=W (i+1) j (by simpa using e)
   exact⟨d,by simpa using z1,z2⟩
  refine⟨v::cv,.cons (e6.rep e3) r,λi k e=>?_⟩
  cases i with
  |zero=>
   have Y:j=k:=by simpa using e
   subst Y;exact⟨v,rfl,e5⟩
  |succ i=>
   obtain⟨y,z1,z2⟩:=hv i k (by simpa using e)
   exact⟨y,by simpa using z1,z2⟩
theorem zK5{K:W.Frag}{G:QqE}{Z:QqA}{tb:TD}{d:D}{I:List D}{v:V}{cv:List V}{Q:VK}{P:D->Nat->Prop}(Y:Reps K G Z H (d::I) (v::cv))(st:zJ6 G n H)(gz:∀a,G=some a->Z a)(z0:ZOk K G Z H)
  (ht:tb (some d::I.map some) n P) (hQ:∀v' H' n' d',(∀a o,G≠some a->H a=some o->H' a=some o)->zJ6 G n' H'->Rep K G Z H' d' v'->P d' n'->Q v' H'):tOf ⟨K,G,Z,H⟩ tb (some v::cv.map some) H Q:=by
 have S:=Yr (N:=replicate (d::I).length "") Y st gz z0
 have e1:startD (replicate (d::I).length "") (d::I)=some d::I.map some:=by unfold startD;simp
 have hl:=Y.length
 have e2:Yu (replicate (d::I).length "") (v::cv)=some v::cv.map some:=by unfold Yu;simp at hl;simp[hl]
 rw[e1,e2] at S;refine⟨_,n,P,[],[],⟨[],S⟩,ht,λv' H' n' d' ⟨aa,J⟩ hp=>hQ v' H' n' d' J.fr J.st (Rep.mono (λa _ z=>.inl z) (λ_ _ _ e=>e) _ _ J.pop.2) hp⟩
theorem zH8{N2:Nat}{tb:TD}{cs:List D}{cv:List V}{ys:List V}{Q:VK}(hK:X.K=A.K) :
  ∀(J:List D) (xs:List V) (keys:List SRow) (done:List SRow) (W:List V) (H:Hp),keys.length=J.length->AmO A os n rho sg H ds vs->Reps A.K A.G (Zof A os) H J xs->Reps A.K A.G (Zof A os) H cs cv->Reps A.K A.G (Zof A os) H (done.map SRow.d) W ->
   (∀(i:Nat) (d:D) (x:SRow),J[i]?=some d->keys[i]?=some x->tb (some d::cs.map some) n λe n2=>e=x.d/\n2=n) ->
   (∀(kv:List V) (Y:Hp),(∀a o,A.G≠some a->H a=some o->Y a=some o)->AmO A os n rho sg Y ds vs->Reps A.K A.G (Zof A os) Y ((done++keys).map SRow.d) (W++kv)->vZ X ys Q (W++kv) Y) ->
   Kh (λy H' Q'=>(∃G Z,tOf ⟨X.K,G,Z,H'⟩ tb (some y::cv.map some) H' Q')) xs H λrest Y=>vZ X ys Q (W++rest) Y
 |[],xs,[],done,W,H,_,I,rr,rc,rd,_,fin=>by
  rw[rr.nil_inv];show vZ X ys Q (W++[]) H
  exact fin [] H (λ_ _ _ e=>e) I (by simpa using rd)
 |[],xs,_::_,done,W,H,hl,_,_,_,_,_,_=>by simp at hl
 |_::_,xs,[],done,W,H,hl,_,_,_,_,_,_=>by simp at hl
 | d :: J, xs, k :: keys, done, W, H, hl, I, rr, rc, rd, aa, fin => by
  obtain⟨v,xs',rfl,r0,rr'⟩:=rr.split;show ∃G Z,tOf ⟨X.K,G,Z,H⟩ tb (some v::cv.map some) H λkk H'=>Kh _ xs' H' λks H''=>vZ X ys Q (W++kk::ks) H'';refine⟨A.G,Zof A os,?_⟩
  suffices z:tOf ⟨A.K,A.G,Zof A os,H⟩ tb (some v::cv.map some) H (λkk H'=>Kh (λy H' Q'=>(∃G Z,tOf ⟨X.K,G,Z,H'⟩ tb (some y::cv.map some) H' Q')) xs' H' λks H''=>vZ X ys Q (W++kk::ks) H'') by
   rw[<- hK] at z;exact z
  refine zK5 (.cons r0 rc) I.st (λa z=>.inl (I.gz a z)) I.zO (aa 0 d k rfl rfl) λv' H' n' d' fr st r ⟨e1,e2⟩=>?_;subst e1;have st':zJ6 A.G n H':=e2 ▸ st;have I':=I.called fr st';have mono:∀{es:List D}{ws:List V},Reps A.K A.G (Zof A os) H es ws->Reps A.K A.G (Zof A os) H' es ws:=λh=>Reps.mono (λ_ _ z=>z) (λb u nz e=>fr b u (λz=>nz (.inl (I.gz b z))) e) _ _ h
  have rd':Reps A.K A.G (Zof A os) H' ((done++[k]).map SRow.d) (W++[v']):=by
   rw[xx];exact(mono rd).append (.cons r .nil)
  have key:=zH8 (N2:=N2) (ys:=ys) (Q:=Q) hK J xs' keys (done++[k]) (W++[v']) H' (by simpa using hl) I' (mono rr') (mono rc) rd' (λi d x e1 e2=>aa (i+1) d x (by simpa using e1) (by simpa using e2)) λkv Y ae I3 r3=>by
   have:=fin (v'::kv) Y (λa o g e=>ae a o g (fr a o g e)) I3 (by simpa using r3)
   simpa using this
  have e9:(λrest Y=>vZ X ys Q (W++[v']++rest) Y)=λks H''=>vZ X ys Q (W++v'::ks) H'':=by funext rest Y;rw[wq];rfl
  rw[e9] at key;exact key
variable {e body:Expr}{t1:TAD}{tb:TD}{N:List Str}{caps:List Nat}{k:Nat}{np kp pos lpos:Pos}{c P:Addr}{q p:Str}{params:Arguments}{scope:Scope}{clos:List (Str × Addr)}
theorem zd9(ti:qr A.K P q)(hK:X.K=A.K)(hm:X.mg "sorted" = none)(hr:Room (k+3) X.A)(ha:PAD A X [e] t1)(L:LamBase X.base X.mg c P)(S:LamScope N p scope clos)(C:Caps X N clos caps)
  (ag:∀(A1:Around) (f c':Addr) (s:Shared) (H:Hp) (G:QqE) (Z:QqA),Room k (A1.deeper (W.envX q scope s.heap.objs.size f (.ref c') clos))->PD ⟨X.K,G,Z,H⟩ (zf1 X A1 N q scope f c' clos s H) body tb)
  (hq:X.env.qual ++ "<lambda>" = q:=by rfl) (hc:X.env.code=.ref c:=by rfl) (aB:closureFor scope X.env=pure clos:=by rfl) (aj:defaultsOf params X.env=([],[]):=by rfl)
  (hb:∀(u pm aC:Value) (c':Addr),bindArgs (W.kla_fn "<lambda>" q params body scope clos pm (.ref c') aC) ⟨[u],[]⟩=pure [(p,u)]:=by intros;rfl) (hg:Gl X "sorted" := by rfl)
  (he:starEach [e] X.env=(false,eval e X.env)::starEach [] X.env:=by rfl) (av:(backTo pos (starEach [e] X.env)).any (·.1)=false:=by rfl) :
  PD A X (.Call (.Name "sorted" np) [e] [⟨some "key",.Lambda params body scope lpos,kp⟩] pos) (zI8 caps tb t1):=by
 exists (zd8 (tb:=λH' σ' H'' Q'=>∃G Z,tOf ⟨X.K,G,Z,H'⟩ tb σ' H'' Q') hg hm ha hr hc L hq aB aj S C hb (λA1 f c' s H hr ae s1 σ1 H1 Q I h=>by
    obtain⟨G,Z,h⟩:=h
    exact ag A1 f c' s H G Z hr ae s1 σ1 H1 Q I h) he av).imp λsg H Q h=>by
   obtain⟨rho,n,R,ds,vs,I,ht,hQ⟩:=h;refine⟨rho,n,_,ds,vs,I,ht,λws H' n' es' ⟨os,J⟩ hl k=>?_⟩;obtain⟨Y,keys,fl,cs,rfl,aF,az,ah,aw,ak,am,ar,ai⟩:=k;obtain⟨J1,rs⟩:=J.split hl;obtain⟨v,rfl,r⟩:=kX rs;obtain⟨a,xs,rfl,sq,rr⟩:=r.lst_inv;have len:xs.length=Y.length:=rr.length;obtain⟨cv,rc,aA⟩:=Jp J1 caps cs ak am
   refine⟨a,xs,cv,rfl,by rw[hK];exact sq.sq,x3,(J1.zO.2 P q ti).1,by rw[rc.length];exact ak,aA,λH2 ao=>?_⟩
   have aq:=ao.keep
   have J2:AmO A os n' rho sg H2 ds vs:=by
    rcases ao with rfl |⟨c2,o2,ax,rfl⟩
    ·exact J1
    ·exact J1.grow ax
   have mono:∀{es:List D}{ws:List V},Reps A.K A.G (Zof A os) H' es ws->Reps A.K A.G (Zof A os) H2 es ws:=λh=>Reps.mono (λ_ _ z=>z) (λb u _ e=>aq b u e) _ _ h;refine zH8 (N2:=0) hK Y xs keys [] [] H2 az J2 (mono rr) (mono rc) .nil ar λkv H3 fr I3 rk=>?_;rw[yv] at rk ⊢;have ap:Reps A.K A.G (Zof A os) H3 Y xs:=Reps.mono (λ_ _ z=>z) (λb u nz e=>fr b u (λz=>nz (.inl (J2.gz b z))) e) _ _ (mono rr);rw[yv,<- hK] at rk
   have aD:kv.length=keys.length:=by rw[rk.length,zh]
   have mem:∀i,i<keys.length->keys.getD i QR∈keys:=λi hi=>by
    rw[xa,ze hi];exact wz hi
   have af:∀i j,i<keys.length->j<keys.length->i≠j->(keys.getD i QR).name≠(keys.getD j QR).name:=λi j hi hj aa e=>by
    have g:∀i (hi:i<keys.length),(keys.map SRow.name)[i]'(by simpa using hi)=(keys.getD i QR).name:=λi hi=>by
     rw[List.getElem_map,xa,ze hi];rfl
    have f:=wB.mp aw
    rcases Nat.lt_or_gt_of_ne aa with l |l
    ·exact f i j (by simpa using hi) (by simpa using hj) l (by rw[g i hi,g j hj,e])
    ·exact f j i (by simpa using hj) (by simpa using hi) l (by rw[g i hi,g j hj,e])
   have num:∀i,i<keys.length->(keys.getD i QR).key.num=fl:=λi hi=>ah _ (mem i hi)
   refine⟨fl,λi j=>(keys.getD i QR).lt (keys.getD j QR),x3,λi j hi hj aa=>SRow.lt_anti (by rw[num i x3,num j x3]) (af i j x3 x3 aa),λi j l _ _ _ h1 h2=>SRow.lt_trans h1 h2,λi hi=>?_,λi j hi hj aa=>?_,λls hp hU l hl'=>?_⟩
   ·intro ae s σ u J ru
    obtain⟨p,rest,R⟩:=zk4 J (rk.getD (enc:=SRow.d) (a0:=QR) x3) ru
    obtain⟨z,t,_⟩:=R.tup;have ty:=zy0 J R
    rw[num i x3] at ty
    exact⟨p,_,t,ty⟩
   ·intro ae s σ u v J ru rv B hB
    obtain⟨p,ps,R⟩:=zk4 J (rk.getD (enc:=SRow.d) (a0:=QR) x3) ru
    obtain⟨p',ps',R'⟩:=zk4 J (rk.getD (enc:=SRow.d) (a0:=QR) x3) rv
    have c:=zL2 J (by rw[num i x3,num j x3]) (af i j x3 x3 aa) R R' hB
    rw[num i x3] at c
    exact c
   ·rw [len] at hp hU
    have ay:∀i∈ls.toList,i<Y.length:=λi hi=>by
     have:=(hp.mem_iff).mp (Array.mem_toList_iff.mp hi)
     rwa [Array.mem_range] at this
    have aE:ls.size=Y.length:=by rw[hp.size_eq,yJ]
    have rp:Reps A.K A.G (Zof A os) H3 ((ls.toList.map λi=>Y.getD i .non).map id) (ls.toList.map λi=>xs.getD i .non):=Kv (enc:=id) (a0:=.non) (by rw[map_id];exact ap) ay
    rw[map_id] at rp;refine hQ _ _ _ _ ⟨os,I3.newLst rp hl'⟩ (ai ls.toList ?_ ?_)
    ·have := wt.mp hp
     rwa [Array.toList_range] at this
    ·rw [yC, wB];intro i j hi hj aa
     have hi':i<ls.size:=by simpa using hi
     have hj':j<ls.size:=by simpa using hj
     have u:=hU i j aa x3
     have g:∀i (hi:i<ls.size),Srt.lab ls i=ls.toList[i]'(by simpa using hi):=λi hi=>by
      refine Srt.kY ?_
      rw[<- zP,ze (by simpa using hi)]
     rw[g i hi',g j hj'] at u;exact u
end
section
variable {P:Program}{w:World}{K:W.Frag}{mg:QqM}{base:Heap}
theorem Qw{x J:Str}{st:Stmt}{f c Pt:Addr}{oc:Value}{od an:QqE}{aa:Array (Option Value)}{kV ae pm Y ct:Value}(lk:K.lookup f=some ⟨oc,od,.func (W.fnOf x J (qG st) (kn st) (zV st) .none kV ae pm an Y ct),aa⟩)
  (hn:W.nsIn K mainGlobals x=some (some (.ref f))) (I:W.tabIn K x=some (c,Pt)):Y=.ref c:=by
 unfold W.tabIn at I;rw[hn] at I;simp only[lk] at I
 split at I
 ·split at I
  ·split at I
   ·cases I;first |rfl |assumption
   ·cases I
  ·cases I
 ·cases I
theorem Fun.okL{x J:Str}{st:Stmt}{f c Pt:Addr}{fd:FuncData}{N ps:List Str}{k:Nat}{t:TF}{tb:TSD}(F:Fun K x J st f fd)(hn:W.nsIn K mainGlobals x=some (some (.ref f)))(ht:W.tabIn K x=some (c,Pt))(S:FnScope N ps (zV st))
  (body : ∀ (A0 : Around) (outer : List Env) (s : Shared) (H : Hp) (E : XK) (G : Option Addr) (Z : Addr -> Prop), Room k (A0.deeper (envOfC J (zV st) s.heap.objs.size f (.ref c))) ->
   zg5 ⟨K,G,Z,H⟩ (zE5 CX0 P w K mg base N J (zV st) f (.ref c) A0 outer s H E).nox (kn st) tb)
  (Y:∀ds n Q,ds.length=ps.length->t ds n Q->tb { nx:=λ_ n=>Q .non n,rt:=Q } (startD N ds) n):FnOk P w K mg base CX0 (k+1) f fd ps (spD K ps.length t):=by
 exists (by
   obtain⟨oc,od,kV,ag,pm,an,ah,ct,af,rfl,lk,ae⟩:=F.ex;have e:=Qw lk hn ht;subst e;refine xf7 lk ae S (λvs H Q E h=>?_) λA0 outer s H vs Q E hr h=>?_
   ·obtain⟨G,Z,n,R,ds,hl,rs,_⟩:=h;rw[rs.length];exact hl
   ·obtain ⟨G, Z, n, R, ds, hl, rs, aa, gz, z0, ht, hQ⟩ := h;refine⟨_,PSs.nox (body A0 outer s H E G Z hr),startD N ds,n,_,[],[],⟨[],Yr rs aa gz z0⟩,Y ds n R hl ht,?_⟩;have zz:∀ (os:List (Nat × Addr)) a,Z a->Zof ⟨K,G,Z,H⟩ os a:=λos a z=>.inl z;refine⟨λrho' n' sg' H' ⟨os,I⟩ q=>?_,λd n' v rho' sg' H' ⟨os,I⟩ q=>?_,λ_ _ _ _ _ q=>q.elim,λ_ _ _ _ _ q=>q.elim⟩
    ·exact hQ .non H' n' .non I.fr I.st (Rep.ofS rfl) q
    ·exact hQ v H' n' d I.fr I.st (Rep.mono (λa _ z=>zz os a z) (λ_ _ _ e=>e) _ _ I.pop.2) q)
end
noncomputable abbrev JF(K:W.Frag)(mg:QqM)(base:Heap):Prop:=∀x∈qE,∀c P,W.tabIn K x=some (c,P)->LamBase base mg c P
theorem zq0{P:Program}{w:World}{K:W.Frag}{mg mb:QqM}{CX:CXT}{k:Nat}{fa a:Addr}{fd:FuncData}{x:Str}{sp:Sp}{I:Shared}{vs:QqW}{ns:List Int}
  (KX:K.In I.heap) (ao:I.heap.Ns mainGlobals mg) (hb:I.heap.Ns builtinsNs mb) (aD:∀x:Str,x ≠ "__name__" -> mb x=bootBuiltins x) (ap:I.heap.NoLimit) (aq:I.heap.NoDigits) (hg:I.gens=#[])
  (hT:∀x∈qE,∀c P,W.tabIn K x=some (c,P)->W.CodeHd I.heap c P/\I.heap.get? P=some (W.tabObj #[])) (hu:∀P q q',qr K P q->qr K P q'->q=q') (aA:W.noTabs K=true)
  (aC:∃bm ob,mg "__builtins__" = some (.ref bm)/\bm≠builtinsNs/\I.heap.get? bm=some ob/\ob.cls=.type "module" /\ ob.dict=some builtinsNs/\ob.data=.plain)
  (ha:I.heap.get? a=some { cls:=.type "list",data:=.seq vs.toArray }) (hi:IntsAre vs ns) (hl:ns.length<=sizeLine) (hr:Room k callerA)
  (F:∀base:Heap,K.In base->base.Ns mainGlobals mg->base.NoDigits->JF K mg base->FnOk P w K mg base CX k fa fd [x] sp) (ah:∀(s:Shared) (u:Value),BindsTo s fd ⟨[u],[]⟩ [(x,u)])
  (az:∀H:Hp,zF3 H->SqL K H a (ns.map V.int)->(∀P q,qr K P q->H P=some (.cot q))->sp [.ref a] H (λv H'=>v=.bl true/\∀P q,H P=some (.cot q)->H' P=some (.cot q)) λ_ _ _=>False)
  (aH:∀H e s',CX [] H I (λ_ _ _=>False) e s'->False) :
  codeAny (model P w) callerA (.call (.ref fa) ⟨[.ref a],[]⟩) (λr s'=>r=.ok (.ret (.bool true))/\OldK I.heap s'.heap/\s'.os=I.os/\AllBare s'.gens) I:=by
 classical
 have rv:=Kd hi;have am:=hi.length;have J:∀{b:Addr},(∃q,qr K b q)->∃c,W.CodeHd I.heap c b/\I.heap.get? b=some (W.tabObj #[]):=λ{b} ⟨q,x,hx,c,e,_⟩=>⟨c,hT x hx c b e⟩
 have af:∀H:Hp,(∀b,(H b=none)\/(b=a/\∃o xs,H b=some (.frz o (.lst xs)))\/∃q,qr K b q/\H b=some (.cot q))->(∀P q,qr K P q->H P=some (.cot q))->SqL K H a (ns.map V.int)->HOk P w H I.heap->(H a≠none->K.lookup a=none) ->
   codeAny (model P w) callerA (.call (.ref fa) ⟨[.ref a],[]⟩) (λr s'=>r=.ok (.ret (.bool true))/\OldK I.heap s'.heap/\s'.os=I.os/\AllBare s'.gens) I:=by
  intro H hO aE hS hok hK;have base_of:∀{b:Addr}{o:Obj},I.heap.get? b=some o->H b=none->(zw7 I.heap H).get? b=some o:=λe n=>zD6 e n
  have ak:∀{b:Addr}{o:Obj},I.heap.get? b=some o->o.cls≠.type "list" -> o≠W.tabObj #[]->H b=none:=λ{b o} e d1 d2=>by
   rcases hO b with z |⟨rfl,_⟩ |⟨q,t,_⟩
   ·exact z
   ·rw[ha] at e;cases e;exact absurd rfl d1
   ·obtain⟨c,_,e2⟩:=J ⟨q,t⟩;rw[e2] at e;cases e;exact absurd rfl d2
  have ax:∀{b:Addr}{o:Obj}{es:Array DictEntry}{ep:Nat},I.heap.get? b=some o->o.data=.dict es ep->H b=none:=λ{b o es ep} e d=>by
   rcases hO b with z |⟨rfl,_⟩ |⟨q,t,_⟩
   ·exact z
   ·rw[ha] at e;cases e;have d':Data.seq vs.toArray _=Data.dict es ep:=d;cases d'
   ·obtain⟨c,_,e2⟩:=J ⟨q,t⟩;rw[e2] at e;cases e;have d':Data.fields #[]=Data.dict es ep:=d;cases d'
  have ae:∀{b:Addr}{m:QqM},I.heap.Ns b m->(zw7 I.heap H).Ns b m:=λ{b m} ⟨o,es,ep,e,d,r⟩=>⟨o,es,ep,base_of e (ax e d),d,r⟩
  have ar:K.In (zw7 I.heap H):=λb o e=>base_of (KX b o e) (by
   rcases hO b with z |⟨rfl,o',xs,z⟩ |⟨q,t,z⟩
   ·exact z
   ·rw[hK (by rw[z];simp)] at e;cases e
   ·obtain ⟨c, _, e2⟩ := J ⟨q, t⟩;rw[KX b o e] at e2;cases e2;have h2:=xz.mp aA (b,_) (W.mem_of_lookupK e)
    exact absurd (show false=true from h2) zF)
  have hM:Mod K mg (zw7 I.heap H):=⟨ar,ae ao,⟨mb,ae hb,aD⟩,let ⟨mc,h1,h2⟩:=ap;⟨mc,ae h1,h2⟩⟩
  have e0:Env0 P w K mg (zw7 I.heap H) callerA [] I H:=⟨rfl,hM,λb o e=>zP3 e,Nat.le_of_eq (zr0 _ _),trivial,λb hb=>absurd (show b∈([]:List Addr) from hb) (by simp),hok,.of_eq hg⟩
  have aG:JF K mg (zw7 I.heap H):=λy hy c Pt e=>by
   obtain⟨⟨o,vs,av,tf,ai,tg,ay,aj,tt,e1,r1,r2,r3,r4,r5,r6,r7,r8,aB⟩,_⟩:=hT y hy c Pt e;obtain⟨bm,ob,b1,b2,b3,b4,b5,b6⟩:=aC
   refine⟨⟨o,vs,av,tf,ai,tg,ay,aj,tt,base_of e1 (ak e1 (by rw[r1];decide) (λz=>by rw[z] at r1;cases r1)),r1,r2,r3,r4,r5,r6,r7,r8,aB⟩,bm,ob,b1,b2,base_of b3 (ak b3 (by rw[b4];decide) (λz=>by rw[z] at b4;cases b4)),b4,b5,b6⟩
  have aF:zF3 H:=λb=>by
   rcases hO b with z |⟨_,z⟩ |⟨q,_,z⟩
   ·exact .inl z
   ·exact .inr (.inl z)
   ·exact .inr (.inr ⟨q,z⟩)
  refine codeAny_mono ((F _ ar (ae ao) (let ⟨mc,h1,h2⟩:=aq;⟨mc,ae h1,h2⟩) aG).run callerA [] I H ⟨[.ref a],[]⟩ [.ref a] [.ref a] _ _ hr e0 (ah I (.ref a)) (.cons rfl .nil) (az H aF hS aE)) λr s' h=>?_
  cases r with
  |error e=>exact(aH H e s' h).elim
  | ok fl =>
   cases fl with
   |next=>exact False.elim h
   |brk=>exact False.elim h
   |cont=>exact False.elim h
   | ret u =>
    obtain⟨v,H',os,bare,un,hok',r',q,qT⟩:=h;have q':v=.bl true:=q;subst q';obtain rfl:u=Value.bool true:=r'
    have aw:∀b o,I.heap.get? b=some o->asItWas I.heap s'.heap b o:=λb o e=>by
     rcases hO b with z |⟨_,ob,xs,z⟩ |⟨q,t,z⟩
     ·exact .inl (un.keep b o e z (by intro z;exact absurd (show b∈([]:List Addr) from z) (by simp)) (by simp))
     ·have z2:=un.frzs b ob _ z;obtain⟨e1,_⟩:=hok b _ z;obtain⟨e2,_⟩:=hok' b _ z2;rw[e] at e1;cases e1;exact .inl e2
     ·obtain ⟨c, hc, e2⟩ := J ⟨q, t⟩;obtain⟨ps,e3,_⟩:=hok' b _ (qT b q z);have e4:=e2;rw[e] at e4;cases e4
      exact .inr (.inl ⟨(hc.tab e2).isCodeTable,rfl,#[],ps,rfl,by rw[Array.empty_append];exact e3⟩)
    refine⟨rfl,⟨aw,λb o e=>?_⟩,os,bare⟩
    exact un.there b o e (by simp)
 have ta:∀q,¬ qr K a q:=λq t=>by
  obtain⟨c,_,e2⟩:=J ⟨q,t⟩;rw[ha] at e2;cases e2
 let HT:Hp:=λb=>if h:∃q,qr K b q then some (.cot h.choose) else none
 have aa:∀b q,qr K b q->HT b=some (.cot q):=λb q t=>by
  have h:∃q,qr K b q:=⟨q,t⟩
  show(if h:∃q,qr K b q then some (HO.cot h.choose) else none)=_
  rw[dif_pos h,hu b _ q h.choose_spec t]
 have Y:∀b,HT b=none\/∃q,qr K b q/\HT b=some (.cot q):=λb=>by
  by_cases h:∃q,qr K b q
  ·obtain⟨q,t⟩:=h;exact .inr ⟨q,t,aa b q t⟩
  ·exact .inl (dif_neg h)
 have aI:HT a=none:=by
  rcases Y a with z |⟨q,t,_⟩
  ·exact z
  ·exact absurd t (ta q)
 have ag:∀b u,HT b=some u->∃q,u=.cot q/\I.heap.get? b=some (W.tabObj #[]):=λb u e=>by
  rcases Y b with z |⟨q,t,z⟩
  ·rw[e] at z;cases z
  ·rw[e] at z;cases z;obtain⟨c,_,e2⟩:=J ⟨q,t⟩;exact⟨q,rfl,e2⟩
 cases hk:K.lookup a with
 | some o =>
  have e:=KX a o hk;rw[ha] at e;cases e
  refine af HT (λb=>?_) aa (.inr ⟨_,vs.toArray,_,hk,rfl,rfl,rfl,by rw[zn,am];exact hl,by simpa using rv⟩) (λb u z=>?_) λz=>absurd aI z
  ·rcases Y b with z | z
   ·exact .inl z
   ·exact .inr (.inr z)
  ·obtain⟨q,rfl,e⟩:=ag b u z;exact⟨#[],e,.nil⟩
 | none =>
  refine af (upd HT a (.frz { cls:=.type "list",data:=.seq vs.toArray } (.lst (ns.map V.int)))) (λb=>?_) (λb q t=>?_) (.inl (.inr ⟨{ cls:=.type "list",data:=.seq vs.toArray },yK⟩)) (λb u z=>?_) λ_=>hk
  ·by_cases hb : b = a
   ·subst hb;exact .inr (.inl ⟨rfl,_,_,yK⟩)
   ·rw [wE hb]
    rcases Y b with z |z
    ·exact .inl z
    ·exact .inr (.inr z)
  ·rw[wE (fun(z:b=a)=>ta q (by rw[<- z];exact t))];exact aa b q t
  ·by_cases hb : b = a
   ·subst hb;rw[yK] at z;cases z
    exact⟨ha,by rw[zh];exact hl,vs,_,rv,ha⟩
   ·rw[wE hb] at z;obtain⟨q,rfl,e⟩:=ag b u z;exact⟨#[],e,.nil⟩
theorem zx0{l:W.OpenLaw}{n k:Nat}{q:Program}{loose:List Str}{XP:(Str->Option Value)->Heap->Prop}{YP:World->Heap->Prop}{d:DefRec}{K:Params->W.Frag}{CX:World->CXT}{sp:World->Sp}{x:Str}
  (hn:l.most=some n) (ah:n<=sizeLine) (aj:d.params.defaults=[]) (hr:Room k callerA)
  (hY:∀(w:World) (h:Heap),YP w h->(K w.params).In h)
  (aa:∀(w:World),∀y∈qE,∀c P,W.tabIn (K w.params) y=some (c,P)->∃d,(recsOf q).find? (λe=>e.name == y)=some d) (hu:∀(w:World) P q q',qr (K w.params) P q->qr (K w.params) P q'->q=q') (ag:∀w:World,W.noTabs (K w.params)=true)
  (F : ∀ (w : World) (mg : Str -> Option Value) (fa : Addr) (h : Heap), (K w.params).In h -> h.Ns mainGlobals mg -> mg d.name = some (.ref fa) ->
   ∃fd:FuncData,(∀(s:Shared) (u:Value),BindsTo s fd ⟨[u],[]⟩ [(x,u)]) /\
    ∀base:Heap,(K w.params).In base->base.Ns mainGlobals mg->base.NoDigits->JF (K w.params) mg base->FnOk l.prog w (K w.params) mg base (CX w) k fa fd [x] (sp w))
  (af:∀(w:World) (H:Hp) (a:Addr) (ns:List Int),ns.length<=n->zF3 H->SqL (K w.params) H a (ns.map V.int)->(∀P q,qr (K w.params) P q->H P=some (.cot q))->sp w [.ref a] H (λv H'=>v=.bl true/\∀P q,H P=some (.cot q)->H' P=some (.cot q)) λ_ _ _=>False)
  (ak:∀(w:World) (H:Hp) (s:Shared) (e:Value) (s':Shared),CX w [] H s (λ_ _ _=>False) e s'->False) :
  W.WalkO q loose XP YP l.row.toRowW d [] (λf vs=>PySem.call f vs):=by
 refine Att.attach_call hn aj λw s₀ s₁ mg mb fa o pm cd ao a vs ns G Y ho hd am ai ae J I hg=>?_;have KX:=hY w _ Y;obtain⟨fd,hb,hF⟩:=F w mg fa _ KX G.T.g ai
 exact zq0 KX G.T.g G.T.b G.T.builtins G.T.nolimit G.T.nodigits hg (λy hy c P e=>let ⟨d,hr⟩:=aa w y hy c P e;W.tab_of G.T KX hr e) (hu w) (ag w) G.T.bmain ae J (zy I ah) hr hF hb (λH hO hS hT=>af w H a ns I hO hS hT) λH e s'=>ak w H s₁ e s'
noncomputable def evL{α:Type}:List α->List α
 |[]=>[]
 |[x]=>[x]
 |x::_::r=>x::evL r
noncomputable def odL{α:Type}:List α->List α
 |[]=>[]
 |[_]=>[]
 |_::y::r=>y::odL r
noncomputable def ZT{α:Type}(o:Bool)(l:List α):List α:=if o then odL l else evL l
theorem zr8:∀l:List Value,((List.range ((l.length+1)/2)).map λk=>2*k).filterMap (λi=>l[i]?)=evL l
 |[]=>rfl
 |[x]=>by simp[evL,List.range_succ]
 |x::y::r=>by
  have e:((x::y::r).length+1)/2=(r.length+1)/2+1:=by simp only[zL];lia
  rw[e,List.range_succ_eq_map,al_List_map_cons,yH];show x::_=x::evL r;rw[<- zr8 r,xg,yn,yn];rfl
theorem zo1:∀l:List Value,((List.range (l.length/2)).map λk=>2*k+1).filterMap (λi=>l[i]?)=odL l
 |[]=>rfl
 |[x]=>by simp[odL]
 |x::y::r=>by
  have e:(x::y::r).length/2=r.length/2+1:=by simp only[zL];lia
  rw[e,List.range_succ_eq_map,al_List_map_cons,yH];show y::_=y::odL r;rw[<- zo1 r,xg,yn,yn];rfl
theorem zr2(o:Bool)(l:QqW):slicePick l.toArray (if o then some 1 else none) none (some 2)=(ZT o l).toArray:=by
 unfold slicePick
 cases o with
 | false =>
  show((sliceRange 0 (l.toArray.size:Int) 2).filterMap λi=>l.toArray[i]?).toArray=(evL l).toArray;rw[<- zr8 l]
  congr 1
  have e:sliceRange 0 (l.toArray.size:Int) 2=(List.range ((l.length+1)/2)).map λk=>2*k:=by
   unfold sliceRange;simp only[zn]
   have c:(if (2:Int) > 0 then(if (0:Int)<(l.length:Int) then((l.length:Int)-0+2-1)/2 else 0) else(if (0:Int) > (l.length:Int) then(0-(l.length:Int)-2-1)/(-2) else 0)).toNat=(l.length+1)/2:=by
    rw[if_pos x4]
    split<;>lia
   rw[c]
   exact yG λk _=>by lia
  rw[e];simp
 | true =>
  show((sliceRange (max 0 (min (1:Int) (l.toArray.size:Int))) (l.toArray.size:Int) 2).filterMap λi=>l.toArray[i]?).toArray=(odL l).toArray;rw[<- zo1 l]
  congr 1
  have e:sliceRange (max 0 (min (1:Int) (l.toArray.size:Int))) (l.toArray.size:Int) 2=(List.range (l.length/2)).map λk=>2*k+1:=by
   by_cases I:l.length=0
   ·have:l=[]:=xO.mp I;subst this;rfl
   ·have J : max 0 (min (1 : Int) (l.toArray.size : Int)) = 1 := by simp only [zn]; lia
    rw[J];unfold sliceRange;simp only[zn]
    have c:(if (2:Int) > 0 then(if (1:Int)<(l.length:Int) then((l.length:Int)-1+2-1)/2 else 0) else(if (1:Int) > (l.length:Int) then(1-(l.length:Int)-2-1)/(-2) else 0)).toNat=l.length/2:=by
     rw[if_pos x4]
     split<;>lia
    rw[c]
    exact yG λk _=>by lia
  rw[e];simp
theorem Xz{α:Type}(o:Bool):∀l:List α,(ZT o l).length<=l.length
 |[]=>by cases o<;>simp[ZT,evL,odL]
 |[x]=>by cases o<;>simp[ZT,evL,odL]
 |x::y::r=>by
  have:=Xz o r
  cases o with
  |false=>show(x::evL r).length<=_;have h:(evL r).length<=r.length:=this;simp only[zL];lia
  |true=>show(y::odL r).length<=_;have h:(odL r).length<=r.length:=this;simp only[zL];lia
theorem Jh{α:Type}:∀l:List α,(odL l++evL l).Perm l
 |[]=>.nil
 |[x]=>.refl _
 |x::y::r=>by
  show((y::odL r)++(x::evL r)).Perm (x::y::r);refine List.perm_middle.trans (.cons x ?_);exact .cons y (Jh r)
theorem UF{α β:Type}(f:α->β)(o:Bool):∀l:List α,ZT o (l.map f)=(ZT o l).map f
 |[]=>by cases o<;>rfl
 |[x]=>by cases o<;>rfl
 |x::y::r=>by
  have:=UF f o r
  cases o with
  |false=>show f x::evL (r.map f)=_;have h:evL (r.map f)=(evL r).map f:=this;rw[h];rfl
  |true=>show f y::odL (r.map f)=_;have h:odL (r.map f)=(odL r).map f:=this;rw[h];rfl
theorem Vals.half(o:Bool):∀{xs:List V}{us:QqW},Vals xs us->Vals (ZT o xs) (ZT o us)
 |_,_,.nil=>by cases o<;>exact .nil
 |_,_,.cons r .nil=>by
  cases o
  ·exact .cons r .nil
  ·exact .nil
 |_,_,.cons r (.cons I t)=>by
  have:=Vals.half o t;cases o
  ·exact .cons r this
  ·exact .cons I this
theorem Reps.half{K:W.Frag}{G:QqE}{Z:QqA}{H:Hp}(o:Bool):∀{ds:List D}{vs:List V},Reps K G Z H ds vs->Reps K G Z H (ZT o ds) (ZT o vs)
 |[],vs,h=>by rw[h.nil_inv];cases o<;>exact .nil
 |[d],vs,h=>by
  obtain⟨v,r,rfl,q,t⟩:=h.split;rw[t.nil_inv];cases o
  ·exact .cons q .nil
  ·exact .nil
 |d::d2::ds,vs,h=>by
  obtain⟨v,r,rfl,q,t⟩:=h.split;obtain⟨Y,r2,rfl,J,I⟩:=t.split;have:=Reps.half o I;cases o
  ·exact .cons q this
  ·exact .cons J this
section
variable {X:Cx}{e st:Expr}{te:TE}{lo:Option Expr}{pos p2:Pos}
noncomputable def zV5(K:W.Frag)(o:Bool)(te:TE):TE:=λσ H Q=>te σ H λx I=>∃a xs,x=.ref a/\SqL K I a xs/\∀p,I p=none->Q (.ref p) (upd I p (.lst (ZT o xs)))
theorem zl7{o:Bool}(he:PE X e te)(ae:PO X lo λ_ H Q=>Q (if o then some 1 else none) H)(aa:PE X st λ_ H Q=>Q (.int 2) H):PE X (.Subscript e (.Slice lo none (some st) p2) pos) (zV5 X.K o te):=by
 intro J s σ H Q I h;refine Subscript_ (thn (he J s σ H _ I h) λv s1 ⟨x,H1,I1,r1,q1⟩=>?_);obtain⟨a,xs,rfl,hx,q1⟩:=q1
 refine wpAny_Slice (thn (ae J s1 σ H1 (λo' Y=>o'=(if o then some 1 else none)/\Y=H1) I1 ⟨rfl,rfl⟩) λvl s2 ⟨l,Y,I2,pl,el,eH⟩=>?_)
 subst el eH;rw[evalPart_none];refine zj ?_;rw[evalPart_some];refine thn (aa J s2 σ Y (λy H3=>y=.int 2/\H3=Y) I2 ⟨rfl,rfl⟩) λu W ⟨y,H3,I3,ry,ey,eH⟩=>?_;subst ey eH;obtain⟨tk,rfl⟩:=ry;cases r1;have I4:Inv X J σ H3 { W with heap:=W.heap.push { cls:=.type "slice",data:=.fields #[vl,.none,.int 2 tk] } }:=I3.kept (t':=W.toks) λb ob q=>zg _ q;obtain⟨its,r,ht,hz⟩:=I4.list hx;have af:=r.length
 refine tail_any (ops:=[.ref a,.ref W.heap.objs.size]) ht.isList.typeIs slot_list_getitem.lookup (wpAny_getItem_list_slice ht.isList (Heap.IsSliceOf.new ..) pl .none (.int 2 tk) (by simp) ?_ (by rw[zn]<;>lia)) (by with_unfolding_all rfl)
 rw[zr2];refine⟨.ref _,_,I4.laid (t':=W.toks) (o:=.lst (ZT o xs)) (λb ob q=>zg _ q) (zi _) ?_,rfl,q1 _ (I4.hok.fresh (zi _))⟩;exact⟨zy (Xz o xs) hz,ZT o its,0,r.half o,zD _ rfl⟩
end
section
variable {A:AC}{X:Cx}{a:Expr}{ta:TD}{pos p2 p3 p4:Pos}
noncomputable def zE3(o:Bool)(ta:TD):TD:=λrho n P=>ta rho n λd I=>zp4 d λfs=>P (.lst (ZT o fs)) I
@[simp] theorem xu8{o ta rho n P}:zE3 o ta rho n P=ta rho n λd I=>zp4 d λfs=>P (.lst (ZT o fs)) I:=rfl
theorem zr3{o:Bool}(hK:X.K=A.K){sg:St}{H:Hp}{Q:VK}(h:tOf A (zE3 o ta) sg H Q):zV5 X.K o (tOf A ta) sg H Q:=by
 obtain⟨rho,n,P,ds,vs,I,ht,hQ⟩:=h;refine⟨rho,n,_,ds,vs,I,ht,λv H1 n1 d ⟨os,J⟩ k=>?_⟩;obtain⟨fs,hd,k⟩:=k;obtain⟨J1,r⟩:=J.pop;rw[hK]
 rcases hd with rfl |rfl
 ·obtain⟨l,xs,rfl,sq,W⟩:=r.lst_inv;exact⟨l,xs,rfl,sq.sq,λp Y=>hQ _ _ n1 _ ⟨os,J1.newLst (W.half o) Y⟩ k⟩
 ·obtain⟨l,xs,rfl,sq,W⟩:=r.fz_inv;exact⟨l,xs,rfl,sq,λp Y=>hQ _ _ n1 _ ⟨os,J1.newLst (W.half o) Y⟩ k⟩
theorem xw2{j:Nat}(W:X.K=A.K)(ha:PD A X a ta):PD A X (.Subscript a (.Slice none none (some (.Constant (.int 2) j p3)) p2) pos) (zE3 false ta):=by exists (zl7 (o:=false) ha (λJ s σ H Q I q=>by rw[evalPart_none];exact zj ⟨none,H,I,.none,q⟩) KB).imp λsg H Q h=>zr3 W h
theorem xw1{i j:Nat}(W:X.K=A.K)(ha:PD A X a ta):PD A X (.Subscript a (.Slice (some (.Constant (.int 1) i p4)) none (some (.Constant (.int 2) j p3)) p2) pos) (zE3 true ta):=by exists (zl7 (o:=true) ha (λJ s σ H Q I q=>zl5 KB J s σ H Q I ⟨1,rfl,q⟩) KB).imp λsg H Q h=>zr3 W h
noncomputable def xx3:List D->(D->Prop)->Prop:=λes k=>∃i j l,es=[.int i,.int j,.int l]/\k (.int (max (max i j) l))
@[simp] theorem xt1{i j l k}:xx3 [.int i,.int j,.int l] k↔k (.int (max (max i j) l)):=⟨fun⟨_,_,_,e,h⟩=>by cases e;exact h,λh=>⟨_,_,_,rfl,h⟩⟩
noncomputable def zH9(caps:List Nat)(tb:TD)(rho:Rho)(J:Nat)(R:D->Nat->Prop)(es:List D):Prop:=∃(I:List D) (keys:List SRow) (fl:Bool) (W:List D),es=[.lst I]/\I.length<64/\keys.length=I.length/\(∀x∈keys,x.key.num=fl)/\(keys.map SRow.name).Nodup /\
 W.length=caps.length/\(∀(i j:Nat),caps[i]?=some j->∃d,W[i]?=some d/\rho[j]?=some (some d)/\we d=true)/\(∀(i:Nat) (d:D) (x:SRow),I[i]?=some d->keys[i]?=some x->tb (some d::W.map some) J λe Y=>e=x.d/\Y=J) /\
 ∀ls:List Nat,ls.Perm (List.range I.length)->(ls.map λi=>keys.getD i QR).Pairwise (λx y=>x.lt y=true)->R (.lst (ls.map λi=>I.getD i .non)) J
@[simp] theorem xk9{caps tb I rho n R}:zI8 caps tb I rho n R=I rho n λes J=>zH9 caps tb rho J R es:=rfl
theorem JT{α:Type}{caps:List Nat}{tb:TD}{rho:Rho}{n:Nat}{R:D->Nat->Prop}(enc:α->D)(key:α->SRow)(fl:Bool)(cs:List D)(ts:List α)(a0:α)(ag:ts.length<64)(hn:∀t∈ts,(key t).key.num=fl)(ae:(ts.map λt=>(key t).name).Nodup)(af:cs.length=caps.length)
  (W:∀(i j:Nat),caps[i]?=some j->∃d,cs[i]?=some d/\rho[j]?=some (some d)/\we d=true) (aa:∀t∈ts,tb (some (enc t)::cs.map some) n λe n2=>e=(key t).d/\n2=n)
  (fin:∀us:List α,us.Perm ts->us.Pairwise (λa b=>(key a).lt (key b)=true)->R (.lst (us.map enc)) n):zH9 caps tb rho n R [.lst (ts.map enc)]:=by
 refine⟨ts.map enc,ts.map key,fl,cs,rfl,by rw[zh];exact ag,by rw[zh,zh],λx hx=>?_,by rw[xg];exact ae,af,W,λi d x I Y=>?_,λls hp hs=>?_⟩
 ·obtain⟨t,ht,rfl⟩:=zQ.mp hx;exact hn t ht
 ·rw [zv] at I Y
  cases et:ts[i]? with
  |none=>rw[et] at I;cases I
  |some t=>
   rw[et] at I Y;cases I;cases Y;exact aa t (xk et)
 ·rw [zh] at hp;have J:∀ i∈ls,i<ts.length:=λi hi=>xD.mp (hp.mem_iff.mp hi)
  have g:∀{β:Type} (f:α->β) (b0:β) (i:Nat),i<ts.length->(ts.map f).getD i b0=f (ts.getD i a0):=λf b0 i hi=>by
   rw[xa,xa,zv,ze hi];rfl
  have I:(ls.map λi=>(ts.map enc).getD i .non)=(ls.map λi=>ts.getD i a0).map enc:=by
   rw[xg];exact yG λi hi=>g enc .non i (J i hi)
  have Y:(ls.map λi=>(ts.map key).getD i QR)=(ls.map λi=>ts.getD i a0).map key:=by
   rw[xg];exact yG λi hi=>g key QR i (J i hi)
  rw[Y,yC] at hs;rw[I];refine fin _ ?_ hs;have p2:=hp.map λi=>ts.getD i a0
  rwa [zp3] at p2
end
noncomputable def zH7(N:List Str)(p:Str)(I:Scope):Bool:=
 ((I.kind == .function&&(!I.isCoroutine&&!I.isGenerator))&&I.names.all (λz=>z.2 != .cell&&(z.2 != .free||(N.drop 1).contains z.1)))&&((N[0]? == some p&&I.names.lookup p == some .local)&&(N.drop 1).all (λx=>I.names.lookup x == some .free))
theorem zC9{N:List Str}{p:Str}{I:Scope}{clos:List (Str × Addr)}(h:zH7 N p I=true)(J:∀x∈N.drop 1,∃c,clos.lookup x=some c):LamScope N p I clos:=by
 unfold zH7 at h;simp only[zE,yW,xz,beq_iff_eq,bne_iff_ne,Bool.not_eq_true',List.contains_iff_mem] at h;obtain⟨⟨⟨h1,h2,h3⟩,h4⟩,⟨h5,h6⟩,h7⟩:=h;refine⟨h1,h2,h3,λx hx=>(h4 x hx).1,h5,h6,λx hx=>?_,λi x e=>?_⟩
 ·rcases (h4 _ (PySem.mem_of_lookup hx)).2 with z | z
  ·exact absurd rfl z
  ·exact J x z
 ·refine h7 x ?_
  exact xk (l:=N.drop 1) (i:=i) (by rw[wf];rw[Nat.add_comm];exact e)
theorem Caps.one{X:Cx}{p y:Str}{a:Addr}{j:Nat}(hk:X.env.kindOf y=some .cell)(hj:X.N[j]?=some y)(I:X.env.cells.lookup y=some a):Caps X [p,y] [(y,a)] [j]:=by
 refine⟨rfl,λi x e=>?_,λx c e=>?_,λi x e=>?_⟩
 ·cases i with
  |zero=>cases e;exact⟨hk,j,rfl,hj⟩
  |succ i=>simp at e
 ·rw [xG] at e
  split at e
  ·rename_i h;cases e;rw[eq_of_beq h];exact I
  ·cases e
 ·cases i with
  |zero=>cases e;exact⟨a,by rw[xG,beq_self_eq_true]⟩
  |succ i=>simp at e
theorem zE9{p y:Str}{a:Addr}:∀x∈[p,y].drop 1,∃c,[(y,a)].lookup x=some c:=λx hx=>by
 have e:x=y:=by simpa using hx
 subst e
 exact⟨a,by rw[xG,beq_self_eq_true]⟩
theorem zV1{K:W.Frag}{x:Str}{f c P:Addr}{o1 p1:Value}{o2 Y:QqE}{o4 J:Array (Option Value)}{fd:FuncData}{I:Array Value}(a:W.nsIn K mainGlobals x=some (some (.ref f)))(l:K.lookup f=some ⟨o1,o2,.func fd,o4⟩)(le:fd.code=.ref c)(lc:K.lookup c=some ⟨p1,Y,.fields I,J⟩)(lp:I[11]?=some (.ref P)) :
  W.tabIn K x=some (c,P):=by
 unfold W.tabIn;rw[a];simp only[l,le,lc,lp]
theorem zK0(K:W.Frag)(P:Addr)(q q':Str)(h:qr K P q)(h':qr K P q'):q=q':=by
 obtain⟨x,hx,c,_,rfl⟩:=h;obtain⟨y,hy,c',_,rfl⟩:=h'
 have J:x = "_law_grown" := by simpa [qE] using hx
 have I:y = "_law_grown" := by simpa [qE] using hy
 rw[J,I]
noncomputable abbrev Vg(elt tg1 it1:Expr)(ifs1:List Expr)(tg2 it2:Expr)(ifs2:List Expr)(scope:Scope)(pos:Pos):Expr:=.ListComp elt [⟨tg1,it1,ifs1,0⟩,⟨tg2,it2,ifs2,0⟩] scope pos
theorem zi4(elt tg1 it1:Expr)(ifs1:List Expr)(tg2 it2:Expr)(ifs2:List Expr)(scope:Scope)(pos:Pos)(it acc:Value)(env:Env) :
  compTurn (Vg elt tg1 it1 ifs1 tg2 it2 ifs2 scope pos) 0 it acc env=(do
   standAt it1.pos
   match <- pyNext it with
   |none=>pure (.done .next)
   | some v =>
    letOwnedTupleGo tg1 it v
    assign tg1 env v
    let ok <- VH ifs1 env
    if ok then
     let x <- eval it2 env
     standAt it2.pos
     let x <- foldedSetIterable it2 env x
     let _ <- runOwn (.compStart (Vg elt tg1 it1 ifs1 tg2 it2 ifs2 scope pos) 1 (<- holding [x] (pyIter x)) acc env) env
    again (.compLoop (Vg elt tg1 it1 ifs1 tg2 it2 ifs2 scope pos) 0 it acc env)):=by rfl
theorem zi3(elt tg1 it1:Expr)(ifs1:List Expr)(tg2 it2:Expr)(ifs2:List Expr)(scope:Scope)(pos:Pos)(it acc:Value)(env:Env) :
  compTurn (Vg elt tg1 it1 ifs1 tg2 it2 ifs2 scope pos) 1 it acc env=(do
   standAt it2.pos
   match <- pyNext it with
   |none=>pure (.done .next)
   | some v =>
    letOwnedTupleGo tg2 it v
    assign tg2 env v
    let ok <- VH ifs2 env
    if ok then
     (do let _ <- call (.builtin "list.append") [acc,<- eval elt env])
    again (.compLoop (Vg elt tg1 it1 ifs1 tg2 it2 ifs2 scope pos) 1 it acc env)):=by rfl
section
variable {prog:Program}{w:World}{A:Around}{R:Result->Shared->Prop}{s:Shared}{elt tg1 it1 tg2 it2:Expr}{ifs1 ifs2:List Expr}{scope:Scope}{pos:Pos}{it acc:Value}{env:Env}
theorem upF{α:Type}{t:Sem α}{Q Q':α->Shared->Prop}{E:QqV}{s:Shared}(h:wpAny (model prog w) A t Q (λ_ _=>False) s)(f:∀a s,Q a s->Q' a s):wpAny (model prog w) A t Q' E s:=wv h f λ_ _ z=>False.elim z
theorem zg1(J:Nat->Shared->Prop)(hs:∀x,foldedSetIterable it2 env x=pure x)
  (turn : ∀ n s, J n s -> wpAny (model prog w) A (pyNext it) (λr Y => match r with
   |none=>R (.ok .next) Y
   | some v => wpAny (model prog w) A (letOwnedTupleGo tg1 it v) (λ_ s2 => wpAny (model prog w) A (assign tg1 env v) (λ_ s3 => wpAny (model prog w) A (VH ifs1 env) (λok W =>
     if ok=true then wpAny (model prog w) A (eval it2 env) (λx s5=>wpAny (model prog w) A (pyIter x) (λI s6=>codeAny (model prog w) A (.compStart (Vg elt tg1 it1 ifs1 tg2 it2 ifs2 scope pos) 1 I acc env) (λr s7=>(∃f,r=.ok f)/\∃m,m<n/\J m s7) s6) (λ_ _=>False) s5) (λ_ _=>False) W
     else ∃m,m<n/\J m W) (λ_ _=>False) s3) (λ_ _=>False) s2) (λ_ _=>False) Y) (λ_ _=>False) s)
  (n:Nat) (h:J n s):codeAny (model prog w) A (.compLoop (Vg elt tg1 it1 ifs1 tg2 it2 ifs2 scope pos) 0 it acc env) R s:=by
 refine codeAny_loop rfl J (λn s hJ=>?_) n h
 show wpAny _ A ((compTurn (Vg elt tg1 it1 ifs1 tg2 it2 ifs2 scope pos) 0 it acc env).onRaise (λx=>do noteFrame x env;theTreesLotGoes x)) _ _ s
 refine wpAny_noted ?_;rw[zi4];refine zc (ye (zc (upF (turn n s hJ) λr Y h1=>?_)))
 cases r with
 |none=>exact zj h1
 | some v =>
  refine zc (upF h1 λ_ s2 h2=>?_);refine zc (upF h2 λ_ s3 h3=>?_);refine zc (upF h3 λok W h4=>?_)
  cases ok with
  |false=>exact zj ⟨rfl,h4⟩
  |true=>
   refine zc (upF h4 λx s5 h5=>?_);refine zc (ye (zc (wpAny_of_eq (hs x) ?_)));refine zc (wU (upF h5 λI s6 h6=>?_));refine zc (wpAny_runOwn (codeAny_mono (show codeAny (model prog w) (A.mark none) _ _ _ from h6) λr s7 h7=>?_));obtain⟨⟨f,rfl⟩,h7⟩:=h7;exact zj ⟨rfl,h7⟩
theorem zg0(J:Nat->Shared->Prop)
  (turn : ∀ n s, J n s -> wpAny (model prog w) A (pyNext it) (λr W => match r with
   |none=>R (.ok .next) W
   | some v => wpAny (model prog w) A (letOwnedTupleGo tg2 it v) (λ_ s2 => wpAny (model prog w) A (assign tg2 env v) (λ_ s3 => wpAny (model prog w) A (VH ifs2 env) (λok I =>
     if ok=true then wpAny (model prog w) A (eval elt env) (λx s5=>wpAny (model prog w) A (call (.builtin "list.append") [acc,x]) (λ_ Y=>∃m,m<n/\J m Y) (λ_ _=>False) s5) (λ_ _=>False) I
     else ∃m,m<n/\J m I) (λ_ _=>False) s3) (λ_ _=>False) s2) (λ_ _=>False) W) (λ_ _=>False) s)
  (n:Nat) (h:J n s):codeAny (model prog w) A (.compLoop (Vg elt tg1 it1 ifs1 tg2 it2 ifs2 scope pos) 1 it acc env) R s:=by
 refine codeAny_loop rfl J (λn s hJ=>?_) n h
 show wpAny _ A ((compTurn (Vg elt tg1 it1 ifs1 tg2 it2 ifs2 scope pos) 1 it acc env).onRaise (λx=>do noteFrame x env;theTreesLotGoes x)) _ _ s
 refine wpAny_noted ?_;rw[zi3];refine zc (ye (zc (upF (turn n s hJ) λr W h1=>?_)))
 cases r with
 |none=>exact zj h1
 |some v=>
  refine zc (upF h1 λ_ s2 h2=>?_);refine zc (upF h2 λ_ s3 h3=>?_);refine zc (upF h3 λok I h4=>?_)
  cases ok with
  |false=>exact zj ⟨rfl,h4⟩
  |true=>exact zc (zc (upF h4 λx s5 h5=>zc (upF h5 λ_ Y h6=>zj (zj ⟨rfl,h6⟩))))
theorem Kj{d:Nat}(hd:d=0\/d=1)
  (I:codeAny (model prog w) A (.compLoop (Vg elt tg1 it1 ifs1 tg2 it2 ifs2 scope pos) d it acc env) R s)
  (h:wpAny (model prog w) A (pyIter it) (λit' s'=>codeAny (model prog w) A (.compLoop (Vg elt tg1 it1 ifs1 tg2 it2 ifs2 scope pos) d it' acc env) R s') (λ_ _=>False) s) :
  codeAny (model prog w) A (.compStart (Vg elt tg1 it1 ifs1 tg2 it2 ifs2 scope pos) d it acc env) R s:=by
 refine codeAny_of_tree ?_
 show wpAny _ _ ((compStart (Vg elt tg1 it1 ifs1 tg2 it2 ifs2 scope pos) d it acc env).onRaise (λx=>do noteFrame x env;standAt theWindowsPlace)) _ _ s
 refine wpAny_notedAt ?_;unfold compStart
 rcases hd with rfl |rfl
 ·show wpAny _ _ (ask >>= _) _ _ s;refine zc (wpAny_askSetting (wpAny_ite ?_))
  split
  ·first
    |exact zc (zj (zj ⟨rfl,I⟩))
    |exact zj ⟨rfl,I⟩
  ·refine zc (wQ ?_);show wpAny _ _ (standAt it1.pos >>= _) _ _ s;exact zc (ye (zc (upF h λit' s' h'=>zj ⟨rfl,h'⟩)))
 ·show wpAny _ _ (ask >>= _) _ _ s;refine zc (wpAny_askSetting (wpAny_ite ?_))
  split
  ·first
    |exact zc (zj (zj ⟨rfl,I⟩))
    |exact zj ⟨rfl,I⟩
  ·refine zc (wQ ?_);show wpAny _ _ (standAt it2.pos >>= _) _ _ s;exact zc (ye (zc (upF h λit' s' h'=>zj ⟨rfl,h'⟩)))
end
noncomputable def JG(σ σ':St):Prop:=∀(j:Nat) (v:V),σ[j]?=some (some v)->σ'[j]?=some (some v)
section
variable {X':Cx}{P5:QqL}{σ6:St}{H8:Hp}{s8:Shared}{elt tg1 it1 tg2 it2:Expr}{ifs1 ifs2:List Expr}{scope:Scope}{pos:Pos}{g2:TG}{tt2:TT}{te:TE}
noncomputable def QJ(W:It)(g2:TG)(tt2:TT)(te:TE)(Qs:List V->St->Hp->Prop)(J:Nat->Nat->List V->St->Hp->Prop):Prop:=∀i n acc σ H,J i n acc σ H ->
 (W.stop i H /\ Qs acc σ H) \/ (W.go i H /\ acc.length < sizeLine /\ ∀ y Y, W.yld i H y Y -> g2 y σ Y λI H7 => tt2 I H7 λc H8 =>
  if c=true then te I H8 λv H9=>∃n',n'<n/\J (i+1) n' (acc++[v]) I H9 else ∃n',n'<n/\J (i+1) n' acc I H8)
theorem zf6(xc:X'.calm=true)(xe:X'.xe=λ_ _=>False)(gg:PG X' tg2 g2)(gt:PTs X' ifs2 tt2)(ge:PE X' elt te){D:Addr}{its:QqW}{k:Nat}{acc:List V}(I:Inv X' P5 σ6 H8 s8)(hD:H8 D=none)(ag:s8.heap.get? D=some { cls:=.type "list",data:=.seq its.toArray k })(rv:Vals acc its)
  (dL:D≠X'.env.locals) (dF:D ∉ X'.fs) (dS:D∈X'.ex\/X'.s₀.heap.objs.size<=D) (dC:∀x c,X'.env.cells.lookup x=some c->c≠D) (dP:∀p∈X'.pn++P5,p.1≠D)
  {it:Addr}{W:List Addr}{tn:Nat->Heap->Prop}{J2:It} (T:Turn X'.prog X'.w X'.K tg2 J2 W it tn) (st:tn 0 s8.heap) (f:∀b∈W,FpOk X' P5 H8 b) (aj:D ∉ W) {W2:Nat->Nat->List V->St->Hp->Prop} (w0:∃n,W2 0 n acc σ6 H8) {Qs:List V->St->Hp->Prop} (aa:QJ J2 g2 tt2 te Qs W2) :
  codeAny (model X'.prog X'.w) X'.A (.compLoop (Vg elt tg1 it1 ifs1 tg2 it2 ifs2 scope pos) 1 (.ref it) (.ref D) X'.env)
   (λr s'=>(∃f,r=.ok f)/\∃σ' Y its' k' H',Inv X' P5 σ' H' s'/\H' D=none/\s'.heap.get? D=some { cls:=.type "list",data:=.seq (List.toArray its') k' }/\Vals Y its'/\Qs Y σ' H') s8:=by
 obtain⟨n0,w0⟩:=w0
 refine zg0 (λn s'=>∃i acc σ' H' its k,Inv X' P5 σ' H' s'/\tn i s'.heap/\(∀b∈W,H' b=none)/\H' D=none /\
   s'.heap.get? D=some { cls:=.type "list",data:=.seq (List.toArray its) k }/\Vals acc its/\W2 i n acc σ' H') ?_ n0 ⟨0,acc,σ6,H8,its,k,I,st,λb J=>(f b J).1,hD,ag,rv,w0⟩
 rintro n s3 ⟨i,acc,σ3,H3,its,k,I3,ah,ai,hD,ag,rv,w3⟩
 have nc:∀(xs:Array Value) (m:Nat) (v:Option Value),({ cls:=.type "list",data:=.seq xs m }:Obj).data≠.cell v:=λ_ _ _ z=>by cases z
 have fD:FpOk X' P5 H3 D:=⟨hD,dL,dF,dS,dC,dP⟩;have I3':=I3.pin1 fD ag (nc _ _)
 have ff:∀{H:Hp},(∀b∈W,H b=none)->∀b∈W,FpOk X' ((D,{ cls:=.type "list",data:=.seq (List.toArray its) k })::P5) H b:=λ{H} hn b J=>((f b J).reH (hn b J)).more fun(z:D=b)=>aj (by rw[z];exact J)
 rcases aa i n acc σ3 H3 w3 with ⟨stop,q⟩ |⟨go,ao,step⟩
 ·refine thn (T.done X' rfl rfl rfl xc i _ s3 σ3 H3 (λ_ _=>False) I3' (ff ai) ah stop) λr s4 ⟨hr,I5⟩=>?_;subst hr;exact⟨⟨_,rfl⟩,σ3,acc,its,k,H3,I5.unpin,hD,(I5.pinAt (.head _)).1,rv,q⟩
 ·refine thn (T.item X' rfl rfl rfl xc i _ s3 σ3 H3 (λ_ _ => False) I3' (ff ai) ah go) λr s4 ⟨u, hr, h4⟩ => ?_;subst hr;refine thn h4 λ_ s5 ⟨y,H5,I5,r5,y5,ae,ak⟩=>?_;have am:=I5.pinned (ff ak) (T.obj _ _ ae);have a1:=gg _ s5 _ H5 y u _ am r5 (step y H5 y5);rw[xe] at a1;refine thn a1 λ_ s6 ⟨σ7,H6,I6,q6⟩=>?_;have a2:=gt _ s6 σ7 H6 _ I6 q6;rw[xe] at a2;refine thn a2 λb s7 ⟨H7,I7,q7⟩=>?_
  have back:∀{H:Hp}{s:Shared},Inv X' (((D,{ cls:=.type "list",data:=.seq (List.toArray its) k })::P5)++jR W s5.heap) σ7 H s ->
    (tn (i+1) s.heap/\(∀b∈W,H b=none)/\H D=none/\s.heap.get? D=some { cls:=.type "list",data:=.seq (List.toArray its) k }/\Inv X' P5 σ7 H s):=λ{H s} I=>by
   refine⟨T.keep _ _ _ ae λb J o e=>(I.pinAt (zI _ (kc J e))).1,λb J=>?_,(I.pinAt (q:=(D,_)) (xu _ (.head _))).2,(I.pinAt (q:=(D,_)) (xu _ (.head _))).1,I.pins_of λp hp=>?_⟩
   ·obtain⟨o,e,d⟩:=T.obj _ _ ae b J;exact(I.pinAt (q:=(b,o)) (zI _ (kc J e))).2
   ·exact I.pin p (zI _ (xu _ (.tail _ hp)))
  cases b with
  |false=>
   obtain⟨p1,p2,p3,p4,p5⟩:=back I7;obtain⟨m',hm,w7⟩:=q7;exact⟨m',hm,i+1,acc,σ7,H7,its,k,p5,p1,p2,p3,p4,rv,w7⟩
  |true=>
   rw[if_pos rfl] at q7 ⊢;have a3:=ge _ s7 σ7 H7 _ I7 q7;rw[xe] at a3;refine thn a3 λz s8 ⟨v,H8,I8,r8,q8⟩=>?_;obtain⟨p1,p2,p3,p4,p5⟩:=back I8;obtain⟨m',hm,w8⟩:=q8;have hl:=rv.length
   refine wpAny_list_append_plain (items:=List.toArray its) ⟨k,p4⟩ (λh' af hs=>?_) (by simp;lia)
   obtain⟨k',af⟩:=af;have I9:Inv X' P5 σ7 H8 { s8 with heap:=h' }:=p5.turned (t':=s8.toks) (λb o J e=>hs.extBut b o J e) p3 dL dS dC dP
   refine⟨m',hm,i+1,acc++[v],σ7,H8,its++[z],k',I9,T.keep _ _ _ p1 λb J o e=>hs.extBut b o (λz=>aj (by rw[<- z];exact J)) e,p2,p3,?_,rv.append (.cons r8 .nil),w8⟩
   rw[af];simp
end
noncomputable def zF6(wi:TI)(own:Nat)(g1:TG)(af:TT)(aa:TI)(g2:TG)(ae:TT)(te:TE):TE:=λσ H Q=>wi σ H λJ H1=>∃W:Nat->Nat->List V->Hp->Prop,(∃m,W 0 m [] H1)/\∀i m acc H,W i m acc H ->
 (J.stop i H/\acc.length<=sizeLine/\∀D,H D=none->Q (.ref D) (upd H D (.lst acc))) \/
 (J.go i H /\ ∀ x H', J.yld i H x H' -> g1 x (List.replicate own none ++ σ) H' λY H2 => JG (List.replicate own none ++ σ) Y /\ af Y H2 λc H3 =>
  if c=true then aa Y H3 λJ2 H4=>∃W2:Nat->Nat->List V->St->Hp->Prop,(∃n,W2 0 n acc Y H4)/\QJ J2 g2 ae te (λI σ5 H5=>JG (replicate own none++σ) σ5/\∃m',m'<m/\W (i+1) m' I H5) W2
  else ∃m',m'<m/\W (i+1) m' acc H3)
section
variable {X:Cx}{scope:Scope}{own M:List Str}{pins:QqL}{σ:St}{H2:Hp}{s2:Shared}{elt tg1 it1 tg2 it2:Expr}{ifs1 ifs2:List Expr}{pos:Pos}{g1 g2:TG}{tt1 tt2:TT}{te:TE}{wi2:TI}
theorem zg2(ok:CompOk X scope M)(hc:X.calm=true)(hg:∀C s2 H2 Y,PG (yf X scope own M C s2 H2 Y) tg1 g1)(ht:∀C s2 H2 Y,PTs (yf X scope own M C s2 H2 Y) ifs1 tt1)(aP:∀C s2 H2 Y,PI (yf X scope own M C s2 H2 Y) tg2 it2 wi2)
  (aQ:∀C s2 H2 Y,PG (yf X scope own M C s2 H2 Y) tg2 g2) (aL:∀C s2 H2 Y,PTs (yf X scope own M C s2 H2 Y) ifs2 tt2) (he:∀C s2 H2 Y,PE (yf X scope own M C s2 H2 Y) elt te) (aN:∀C s2 H2 Y x,foldedSetIterable it2 (yf X scope own M C s2 H2 Y).env x=pure x)
  (I2:Inv X pins σ H2 s2) {it:Addr}{Y:List Addr}{tn:Nat->Heap->Prop}{J:It} (T:Turn X.prog X.w X.K tg1 J Y it tn) (az:tn 0 s2.heap) (f2:∀b∈Y,FpOk X pins H2 b)
  {W:Nat->Nat->List V->Hp->Prop} (w0:∃m,W 0 m [] H2) {Qf:V->Hp->Prop}
  (turn : ∀ i m acc H, W i m acc H -> (J.stop i H /\ acc.length <= sizeLine /\ ∀ D, H D = none -> Qf (.ref D) (upd H D (.lst acc))) \/
   (J.go i H /\ ∀ x H', J.yld i H x H' -> g1 x (List.replicate own.length none ++ σ) H' λσ2 H2 => JG (List.replicate own.length none ++ σ) σ2 /\ tt1 σ2 H2 λc H3 =>
    if c=true then wi2 σ2 H3 λJ2 H4=>∃W2:Nat->Nat->List V->St->Hp->Prop,(∃n,W2 0 n acc σ2 H4)/\QJ J2 g2 tt2 te (λaf σ5 H5=>JG (replicate own.length none++σ) σ5/\∃m',m'<m/\W (i+1) m' af H5) W2
    else ∃m',m'<m/\W (i+1) m' acc H3))
  {RR:Value->Addr->Result->Shared->Prop}{E:QqV}
  (fin:∀D C H' s' m,Inv X pins σ H' s'->Qf (.ref D) H'->s'.heap.Ns C m->H' C=none->C≠X.env.locals->X.s₀.heap.objs.size<=C->(∀x c,X.env.cells.lookup x=some c->c≠C)->(∀p∈X.pn++pins,p.1≠C)->RR (.ref D) C (.ok .next) s') :
  wpAny (model X.prog X.w) X.A (newList []) (λacc s3=>wpAny (model X.prog X.w) X.A (newFunctionEnv scope X.env.globals (jA X.env scope.names []) [] X.env.qual none .none (some X.env)) (λak s4=>
   codeAny (model X.prog X.w) X.A (.compStart (Vg elt tg1 it1 ifs1 tg2 it2 ifs2 scope pos) 0 (.ref it) acc { ak with scope:=relabel scope X.env }) (RR acc ak.locals) s4) E s3) E s2:=by
 refine wD (Wf ?_);have zC:(s2.heap.push { cls:=.type "list",dict:=none,data:=.seq ([]:QqW).toArray }).objs.size=s2.heap.objs.size+1:=wL ..;dsimp only;rw[zC];generalize hC:s2.heap.objs.size+1=C;generalize hh:pushCells ((s2.heap.push { cls:=.type "list",dict:=none,data:=.seq ([]:QqW).toArray }).push { cls:=.type "dict",data:=.dict #[] }) scope.names=h4
 have aF:∀b∈Y,FpOk X pins H2 b/\b<s2.heap.objs.size:=λb hb=>by
  obtain⟨o,e,_⟩:=T.obj 0 _ az b hb;exact⟨f2 b hb,zw e⟩
 have I4:Inv (yf X scope own M C s2 H2 Y) [] (replicate own.length none++σ) H2 { s2 with heap:=h4 }:=za9 ok hc I2 aF hC.symm hh.symm;generalize hX:yf X scope own M C s2 H2 Y=X' at I4
 have aq:∀b o,s2.heap.get? b=some o->h4.get? b=some o:=λb o e=>by
  rw[<- hh];exact pushCells_keeps _ _ _ _ (zg _ (zg _ e))
 have aD:h4.get? s2.heap.objs.size=some { cls:=.type "list",dict:=none,data:=.seq ([]:QqW).toArray }:=by
  rw[<- hh];exact pushCells_keeps _ _ _ _ (zg _ (zD _ rfl))
 have ax:tn 0 h4:=T.keep _ _ _ az λb hb o e=>aq b o e
 have gg:PG X' tg1 g1:=by rw[<- hX];exact hg C s2 H2 Y
 have gt:PTs X' ifs1 tt1:=by rw[<- hX];exact ht C s2 H2 Y
 have gi:PI X' tg2 it2 wi2:=by rw[<- hX];exact aP C s2 H2 Y
 have aU:PG X' tg2 g2:=by rw[<- hX];exact aQ C s2 H2 Y
 have aT:PTs X' ifs2 tt2:=by rw[<- hX];exact aL C s2 H2 Y
 have ge:PE X' elt te:=by rw[<- hX];exact he C s2 H2 Y
 have gs:∀x,foldedSetIterable it2 X'.env x=pure x:=by rw[<- hX];exact aN C s2 H2 Y
 have xP:X'.prog=X.prog:=by rw[<- hX];rfl
 have xw:X'.w=X.w:=by rw[<- hX];rfl
 have xK:X'.K=X.K:=by rw[<- hX];rfl
 have xA:X'.A=X.A:=by rw[<- hX];rfl
 have xc:X'.calm=true:=by rw[<- hX];exact hc
 have am:X'.pn=[]:=by rw[<- hX];rfl
 have xs:X'.s₀=s2:=by rw[<- hX];rfl
 have xH:X'.H₀=H2:=by rw[<- hX];rfl
 have xL:X'.env.locals=C:=by rw[<- hX];rfl
 have aK:X'.fs=frs X.stack:=by rw[<- hX];rfl
 have aa:X'.ex=Y:=by rw[<- hX];rfl
 have xe:X'.xe=λ_ _=>False:=by rw[<- hX];rfl
 have av:({ newEnv scope C X.env.globals (cellsFrom (C+1) scope.names (jA X.env scope.names [])) X.env.qual none .none (some X.env) builtinsNs with scope:=relabel scope X.env }:Env)=X'.env:=by rw[<- hX];rfl
 have aH:s2.heap.objs.size<C:=by rw[<- hC];exact Nat.lt_succ_self _
 have ar:∀{pl:QqL}{H:Hp},(∀b∈Y,H b=none)->(∀p∈pl,p.1 ∉ Y)->∀b∈Y,FpOk X' pl H b:=λ{pl H} hn aO b hb=>by
  refine⟨hn b hb,(I4.ok.exf b (by rw[aa];exact hb)).1,I4.ok.exfs b (by rw[aa];exact hb),.inl (by rw[aa];exact hb),λx c e=>(I4.ok.exf b (by rw[aa];exact hb)).2 x c e,λp hp z=>?_⟩
  rw[am,yv] at hp
  exact aO p hp (by rw[z];exact hb)
 have aJ:s2.heap.objs.size ∉ Y:=λz=>xW _ (aF _ z).2;have DC:s2.heap.objs.size≠C:=zJ aH
 have ag:∀x c,X'.env.cells.lookup x=some c->c≠s2.heap.objs.size:=λx c e z=>by
  obtain⟨v,o,q,hd⟩:=I4.cell x c e;rw[z] at q;have q':h4.get? s2.heap.objs.size=some o:=q;rw[aD] at q';cases q';cases hd
 have aI:s2.heap.objs.size ∉ X'.fs:=λz=>by
  obtain⟨_,o,ho,_⟩:=I4.ok.funs.mem (by exact z)
  rw[xs] at ho;exact xW _ (zw ho)
 have nc:∀(xs:Array Value) (m:Nat) (v:Option Value),({ cls:=.type "list",data:=.seq xs m }:Obj).data≠.cell v:=λ_ _ _ z=>by cases z
 have dL:s2.heap.objs.size≠X'.env.locals:=by rw[xL];exact DC
 have dS:s2.heap.objs.size∈X'.ex\/X'.s₀.heap.objs.size<=s2.heap.objs.size:=.inr (by rw[xs];exact zi _)
 rw[av]
 have aj:∀s5:Shared,s5={ s2 with heap:=h4 }->codeAny (model X.prog X.w) X.A (.compLoop (Vg elt tg1 it1 ifs1 tg2 it2 ifs2 scope pos) 0 (.ref it) (.ref s2.heap.objs.size) X'.env) (RR (.ref s2.heap.objs.size) C) s5:=by
  rintro s5 rfl;obtain⟨m0,w0⟩:=w0
  refine zg1 (λn s'=>∃i acc σ' H' its k,Inv X' [] σ' H' s'/\JG (replicate own.length none++σ) σ'/\tn i s'.heap/\(∀b∈Y,H' b=none)/\H' s2.heap.objs.size=none /\
   s'.heap.get? s2.heap.objs.size=some { cls:=.type "list",data:=.seq (List.toArray its) k }/\Vals acc its/\W i n acc H') gs ?_ m0
   ⟨0,[],_,H2,[],0,I4,(λ_ _ e=>e),ax,λb hb=>(f2 b hb).1,I2.hok.fresh (zi _),aD,.nil,w0⟩
  rintro n s3 ⟨i,acc,σ3,H3,its,k,I3,hσ,ay,aE,hD,aR,rv,w3⟩
  have fD:∀{H:Hp},H s2.heap.objs.size=none->FpOk X' [] H s2.heap.objs.size:=λhn=>⟨hn,dL,aI,dS,ag,λp hp=>by rw[am] at hp;simp at hp⟩
  have ap:∀p∈[((s2.heap.objs.size,{ cls:=.type "list",data:=.seq (List.toArray its) k }):Addr × Obj)],p.1 ∉ Y:=λp hp=>by
   have e:p=(s2.heap.objs.size,{ cls:=.type "list",data:=.seq (List.toArray its) k }):=by simpa using hp
   subst e;exact aJ
  have I3':=I3.pin1 (fD hD) aR (nc _ _)
  rcases turn i n acc H3 w3 with ⟨stop,aM,q⟩ |⟨go,step⟩
  ·have := T.done X' xP xw xK xc i _ s3 σ3 H3 (λ_ _ => False) I3' (ar aE ap) ay stop;rw[xA] at this;refine thn this λr s4 ⟨hr,I5⟩=>?_;subst hr;have aC:=(I5.pinAt (.head _)).1
   have un:Un (frs X.stack) Y H2 H3 s2.heap s4.heap:=by
    have:=I5.base;rw[aK,aa,xH,xs] at this;exact this
   have os:s4.os=s2.os:=by rw[I5.os,xs]
   have hok:HOk X.prog X.w H3 s4.heap:=by have:=I5.hok;rw[xP,xw] at this;exact this
   have IX:Inv X pins σ H3 s4:=I2.call' os un hok I5.bare λb hb=>by
    obtain⟨_,f1,_,f3,f4,f5⟩:=f2 b hb;exact⟨f3,f1,f4,f5⟩
   have aA:∀{b:Addr},s2.heap.objs.size<=b->(X.s₀.heap.objs.size<=b/\b≠X.env.locals/\(∀x c,X.env.cells.lookup x=some c->c≠b)/\∀p∈X.pn++pins,p.1≠b):=λ{b} hb=>by
    obtain⟨_,f1,_,f3,f4,f5⟩:=I2.fpOk (H':=λ_=>none) hb rfl;exact⟨zy I2.sz hb,f1,f4,f5⟩
   obtain⟨d1,d2,d3,d4⟩:=aA (zi s2.heap.objs.size);obtain⟨c1,c2,c3,c4⟩:=aA (b:=C) (wb aH);have IY:Inv X pins σ (upd H3 s2.heap.objs.size (.lst acc)) s4:=IX.track hD d1 d2 d3 d4 ⟨aM,its,k,rv,aC⟩;obtain⟨m,hm,_⟩:=I5.loc;rw[xL] at hm
   have aS:H3 C=none:=by have:=I5.free;rw[xL] at this;exact this
   exact fin _ C _ s4 m IY (q _ hD) hm (by rw[wE (Ne.symm DC)];exact aS) c2 c1 c3 c4
  ·have := T.item X' xP xw xK xc i _ s3 σ3 H3 (λ_ _ => False) I3' (ar aE ap) ay go;rw[xA] at this;refine thn this λr s4 ⟨u,hr,h4⟩=>?_;subst hr;refine thn h4 λ_ s5 ⟨x,H5,I5,r5,y5,ao,aV⟩=>?_;have aW:=I5.weak (σ':=replicate own.length none++σ) (I4.len.trans I5.len.symm) hσ;have aX:=aW.pinned (ar aV ap) (T.obj _ _ ao);have a1:=gg _ s5 _ H5 x u _ aX r5 (step x H5 y5);rw[xP,xw,xA,xe] at a1;refine thn a1 λ_ s6 ⟨σ6,H6,I6,d6,q6⟩=>?_;have a2:=gt _ s6 σ6 H6 _ I6 q6;rw[xP,xw,xA,xe] at a2;refine thn a2 λb s7 ⟨H7,I7,q7⟩=>?_
   have outer:∀{H:Hp}{s:Shared}{σ7:St},Inv X' (jR Y s5.heap) σ7 H s->(tn (i+1) s.heap/\(∀b∈Y,H b=none)/\Inv X' [] σ7 H s):=λ{H s σ7} I=>by
    refine⟨T.keep _ _ _ ao λb hb o e=>(I.pinAt (kc hb e)).1,λb hb=>?_,I.pins_of λp hp=>by simp at hp⟩
    obtain⟨o,e,d⟩:=T.obj _ _ ao b hb;exact(I.pinAt (q:=(b,o)) (kc hb e)).2
   have ae:∀{H:Hp}{s:Shared}{σ7:St},Inv X' ([((s2.heap.objs.size,{ cls:=.type "list",data:=.seq (List.toArray its) k }):Addr × Obj)]++jR Y s5.heap) σ7 H s->Inv X' (jR Y s5.heap) σ7 H s/\H s2.heap.objs.size=none/\s.heap.get? s2.heap.objs.size=some { cls:=.type "list",data:=.seq (List.toArray its) k }:=λ{H s σ7} I=>
    ⟨I.pins_of λp hp=>I.pin p (zI _ (zI _ hp)),(I.pinAt (q:=(s2.heap.objs.size,_)) (xu _ (.head _))).2,(I.pinAt (q:=(s2.heap.objs.size,_)) (xu _ (.head _))).1⟩
   cases b with
   |false=>
    obtain⟨e1,e2,e3⟩:=ae I7;obtain⟨p1,p2,p5⟩:=outer e1;obtain⟨m',hm,w7⟩:=q7;exact⟨m',hm,i+1,acc,σ6,H7,its,k,p5,d6,p1,p2,e2,e3,rv,w7⟩
   | true =>
    rw[if_pos rfl] at q7 ⊢;have a3:=gi _ s7 σ6 H7 _ I7 q7;rw[xP,xw,xA,xe] at a3;refine thn a3 λv s8 h8=>thn h8 λaZ s9 h9=>?_;obtain⟨aB,aG,aY,J2,H9,e9,I9,T2,aw,f9,W2,w9,ah⟩:=h9;subst e9;obtain⟨e1,e2,e3⟩:=ae I9;have D2:s2.heap.objs.size ∉ aG:=λz=>(f9 _ z).2.2.2.2.2 (s2.heap.objs.size,_) (zI _ (xu _ (.head _))) rfl
    have f9':∀b∈aG,FpOk X' (jR Y s5.heap) H9 b:=λb hb=>by
     obtain⟨z1,z2,z3,z4,z5,z6⟩:=f9 b hb;refine⟨z1,z2,z3,z4,z5,λp hp=>z6 p ?_⟩
     rcases zU.mp hp with hp |hp
     ·exact xu _ hp
     ·exact zI _ (zI _ hp)
    have dP:∀p∈X'.pn++jR Y s5.heap,p.1≠s2.heap.objs.size:=λp hp z=>by
     rw[am,yv] at hp
     exact aJ (by rw[<- z];exact(KP hp).1)
    have run:=zf6 (tg1:=tg1) (it1:=it1) (it2:=it2) (ifs1:=ifs1) (scope:=scope) (pos:=pos) xc xe aU aT ge e1 e2 e3 rv dL aI dS ag dP T2 aw f9' D2 w9 ah;rw[xP,xw,xA] at run
    have ai:codeAny (model X.prog X.w) X.A (.compLoop (Vg elt tg1 it1 ifs1 tg2 it2 ifs2 scope pos) 1 (.ref aB) (.ref s2.heap.objs.size) X'.env) (λr s7=>(∃f,r=.ok f)/\∃m,m<n/\∃i acc σ' H' its k,Inv X' [] σ' H' s7/\JG (replicate own.length none++σ) σ'/\tn i s7.heap/\(∀b∈Y,H' b=none)/\H' s2.heap.objs.size=none /\
      s7.heap.get? s2.heap.objs.size=some { cls:=.type "list",data:=.seq (List.toArray its) k }/\Vals acc its/\W i m acc H') s9:=codeAny_mono run λr s' hq=>by
     obtain⟨hr,σ',af,its',k',H',I',k2,k3,k4,k1,m',hm,w'⟩:=hq;obtain⟨p1,p2,p5⟩:=outer I';exact⟨hr,m',hm,i+1,af,σ',H',its',k',p5,k1,p1,p2,k2,k3,k4,w'⟩
    refine Kj (.inr rfl) ai ?_
    have self:=T2.self X.A 0 s9 (λit' s'=>codeAny (model X.prog X.w) X.A (.compLoop (Vg elt tg1 it1 ifs1 tg2 it2 ifs2 scope pos) 1 it' (.ref s2.heap.objs.size) X'.env) (λr s7=>(∃f,r=.ok f)/\∃m,m<n/\∃i acc σ' H' its k,Inv X' [] σ' H' s7/\JG (replicate own.length none++σ) σ'/\tn i s7.heap/\(∀b∈Y,H' b=none)/\H' s2.heap.objs.size=none /\
      s7.heap.get? s2.heap.objs.size=some { cls:=.type "list",data:=.seq (List.toArray its) k }/\Vals acc its/\W i m acc H') s') (λ_ _=>False) aw ai
    rw[xP,xw] at self;exact self
 exact Kj (.inl rfl) (aj _ rfl) (T.self _ 0 _ _ _ ax (aj _ rfl))
theorem zA0{wi:TI}(ok:CompOk X scope M)(hc:X.calm=true)(hi:PI X tg1 it1 wi)(hg:∀C s2 H2 Y,PG (yf X scope own M C s2 H2 Y) tg1 g1)(ht:∀C s2 H2 Y,PTs (yf X scope own M C s2 H2 Y) ifs1 tt1)(ag:∀C s2 H2 Y,PI (yf X scope own M C s2 H2 Y) tg2 it2 wi2)
  (ah:∀C s2 H2 Y,PG (yf X scope own M C s2 H2 Y) tg2 g2) (ae:∀C s2 H2 Y,PTs (yf X scope own M C s2 H2 Y) ifs2 tt2) (he:∀C s2 H2 Y,PE (yf X scope own M C s2 H2 Y) elt te)
  (hs:∀x,foldedSetIterable it1 X.env x=pure x:=by intro _;rfl) (af:∀C s2 H2 Y x,foldedSetIterable it2 (yf X scope own M C s2 H2 Y).env x=pure x:=by intros;rfl) :
  PE X (Vg elt tg1 it1 ifs1 tg2 it2 ifs2 scope pos) (zF6 wi own.length g1 tt1 wi2 g2 tt2 te):=by
 intro pins s σ H Q I h;rw[eval_ListComp]
 refine wpAny_comprehension_free (use:=none) rfl hs (UL (ok.cells I)) ok.kind (λx hx hl=>by rw[ok.uniq x hx,hl]) ?_
 refine thn (hi pins s σ H _ I h) λv s1 h1=>thn h1 λaj s2 h2=>?_;obtain⟨it,Y,tn,J,H2,e,I2,T,aa,f2,W,w0,turn⟩:=h2;subst e;refine zg2 (Qf:=Q) ok hc hg ht ag ah ae he af I2 T aa f2 w0 turn λD C H' s' m IY q hm ai c2 c1 c3 c4=>⟨m,hm,λh' hs'=>?_⟩;exact⟨.ref D,H',IY.turned (t':=s'.toks) (λb o hb e=>hs'.extBut b o hb e) ai c2 (.inr c1) c3 c4,rfl,q⟩
end
noncomputable def keepsD:Rho->Rho->Prop
 |[],[]=>True
 |none::r,_::r'=>keepsD r r'
 |some d::r,o::r'=>o=some d/\keepsD r r'
 |_,_=>False
@[simp] theorem xj4:keepsD [] []=True:=rfl
@[simp] theorem xj3{o:Option D}{r r':Rho}:keepsD (none::r) (o::r')=keepsD r r':=rfl
@[simp] theorem xj2{d:D}{o:Option D}{r r':Rho}:keepsD (some d::r) (o::r')=(o=some d/\keepsD r r'):=rfl
theorem keepsD.at:∀{r r':Rho},keepsD r r'->r.length=r'.length/\∀(i:Nat) (d:D),r[i]?=some (some d)->r'[i]?=some (some d)
  |[],[],_=>⟨rfl,λi d e=>by simp at e⟩
  | none :: r, o :: r', h => by
    have h':keepsD r r':=h;obtain⟨h1,h2⟩:=h'.at
    refine⟨by simp[h1],λi d e=>?_⟩
    cases i with
    |zero=>simp at e
    |succ i=>simpa using h2 i d (by simpa using e)
  | some c :: r, o :: r', h => by
    have h':o=some c/\keepsD r r':=h;obtain⟨h1,h2⟩:=h'.2.at
    refine⟨by simp[h1],λi d e=>?_⟩
    cases i with
    | zero => have e' : c = d := by simpa using e
              subst e';rw[h'.1];rfl
    |succ i=>simpa using h2 i d (by simpa using e)
  |[],_::_,h=>h.elim
  |none::_,[],h=>h.elim
  |some _::_,[],h=>h.elim
@[simp] theorem Wu:∀r:Rho,keepsD r r
 |[]=>True.intro
 |none::r=>Wu r
 |some d::r=>⟨rfl,Wu r⟩
theorem AmO.weakR{A:AC}{os:List (Nat × Addr)}{n:Nat}{rho rho':Rho}{sg:St}{H:Hp}{ds:List D}{vs:List V}(I:AmO A os n rho' sg H ds vs)(k:keepsD rho rho'):AmO A os n rho sg H ds vs:=
 ⟨k.at.1.trans I.len,λi d e=>I.slot i d (k.at.2 i d e),I.pend,I.nd,I.fresh,I.st,I.gz,I.fr,I.z0⟩
theorem Vy{m:Nat}{sg I:St}(h:I.drop m=sg):JG (replicate m none++sg) I:=by
 intro j v e
 by_cases hj:j<m
 ·rw [xE (by simpa using hj), xv, if_pos hj] at e
  cases e
 ·rw [xt (by simpa using Nat.le_of_not_lt hj), wm, <- h, wf] at e
  rw[show m+(j-m)=j by lia] at e
  exact e
noncomputable def xy0(g2:TGD)(aa:TBD)(te:TD)(W:Rho)(acc:List D)(R:List D->Nat->Prop)(I:List D)(n:Nat):Prop:=∃Y:Nat->List D->Nat->Prop,Y 0 acc n /\
 (∀i d acc n,I[i]?=some d->Y i acc n->acc.length<sizeLine/\g2 d W λJ=>keepsD W J/\aa J n λc n2=>if c=true then te J n2 λe n3=>Y (i+1) (acc++[e]) n3 else Y (i+1) acc n2) /\
 ∀acc n,Y I.length acc n->R acc n
noncomputable def Qu(own:Nat)(g1:TGD)(Y:TBD)(it2:TID)(g2:TGD)(W:TBD)(te:TD)(rho:Rho)(P:D->Nat->Prop)(items:List D)(n1:Nat):Prop:=∃J:Nat->List D->Nat->Prop,J 0 [] n1 /\
 (∀i d acc n,items[i]?=some d->J i acc n->g1 d (replicate own none++rho) λI=>I.drop own=rho/\Y I n λc n2=>if c=true then it2 I n2 (xy0 g2 W te I acc (J (i+1))) else J (i+1) acc n2) /\
 ∀acc n,J items.length acc n->acc.length<=sizeLine/\P (.lst acc) n
noncomputable def zt1(it:TID)(own:Nat)(g1:TGD)(J:TBD)(it2:TID)(Y:TGD)(I:TBD)(W:TD):TD:=λrho n P=>it rho n (Qu own g1 J it2 Y I W rho P)
@[simp] theorem xl3{it own g1 J it2 Y I W rho n P}:zt1 it own g1 J it2 Y I W rho n P=it rho n (Qu own g1 J it2 Y I W rho P):=rfl
section
variable {A:AC}{X:Cx}{elt tg1 it1 tg2 it2:Expr}{ifs1 ifs2:List Expr}{scope:Scope}{own M:List Str}{pos:Pos}{i1 i2:TID}{g1 g2:TGD}{tt1 tt2:TBD}{te:TD}
theorem zj5{sg:St}{H:Hp}{Q:VK}{m:Nat}(h:tOf A (zt1 i1 m g1 tt1 i2 g2 tt2 te) sg H Q):zF6 (iOf A i1) m (gOf A m g1) (zc8 A tt1) (iOf A i2) (gOf A m g2) (zc8 A tt2) (tOf A te) sg H Q:=by
 obtain⟨rho,n,P,ds,vs,I,ht,hQ⟩:=h;refine⟨rho,n,_,ds,vs,I,ht,λJ H' n' items es ws I1 hl hJ k=>?_⟩;obtain⟨W,w0,turn,fin⟩:=k;refine⟨λi mm acc H=>mm=items.length-i/\i<=items.length/\∃ae n,acc.length=ae.length/\Am A n rho sg H (es++(ae++ds)) (ws++(acc++vs))/\W i ae n,⟨items.length,rfl,wn _,[],n',rfl,I1,w0⟩,?_⟩;rintro i mm acc H3 ⟨rfl,hi,ae,n3,aq,⟨os,I3⟩,w3⟩;obtain⟨j1,j2⟩:=hJ n3 rho sg H3 (ae++ds) (acc++vs) i ⟨os,I3⟩
 by_cases ak:i<items.length
 ·refine .inr ⟨(j1 items[i] (by simp [ak])).1, λx H4 y => ?_⟩
  obtain⟨aW,I4⟩:=(j1 items[i] (by simp[ak])).2 x H4 y
  refine⟨replicate m none++rho,n3,_,items[i],es++(ae++ds),ws++(acc++vs),⟨_,I4.front m⟩,turn i items[i] ae n3 (by simp[ak]) w3,λag aG ⟨aL,I5⟩ e5 k5=>?_⟩
  obtain⟨k5,k6⟩:=k5
  have e6:aG.drop m=sg:=by rw[e5,yU (by simp)]
  refine⟨Vy e6,ag,n3,_,es++(ae++ds),ws++(acc++vs),⟨aL,I5⟩,k6,λc H6 n6 ⟨aK,I6⟩ k7=>?_⟩
  cases c with
  |false=>
   obtain⟨aJ,I7⟩:=I6.back k5 e6
   exact⟨items.length-(i+1),x3,rfl,ak,ae,n6,aq,⟨aJ,I7⟩,k7⟩
  | true =>
   rw[if_pos rfl] at k7 ⊢;refine⟨ag,n6,_,es++(ae++ds),ws++(acc++vs),⟨aK,I6⟩,k7,λJ2 H7 n7 Y ar am I7 aD aP k8=>?_⟩;obtain⟨V,v0,ax,aA⟩:=k8;refine⟨λi2 nn af σ5 H=>nn=Y.length-i2/\i2<=Y.length/\σ5.drop m=sg/\∃aa n,af.length=aa.length/\Am A n ag σ5 H (ar++(es++(aa++ds))) (am++(ws++(af++vs)))/\V i2 aa n,⟨Y.length,rfl,wn _,e6,ae,n7,aq,I7,v0⟩,?_⟩;rintro i2 nn af σ5 H8 ⟨rfl,aX,ao,aa,n8,ai,⟨aI,I8⟩,w8⟩;obtain⟨q1,q2⟩:=aP n8 ag σ5 H8 (es++(aa++ds)) (ws++(af++vs)) i2 ⟨aI,I8⟩
   by_cases ah:i2<Y.length
   ·obtain ⟨t1, t2⟩ := ax i2 Y[i2] aa n8 (by simp [ah]) w8
    refine .inr ⟨(q1 Y[i2] (by simp[ah])).1,by rw[ai];exact t1,λy H9 yy=>?_⟩
    obtain⟨aH,I9⟩:=(q1 Y[i2] (by simp[ah])).2 y H9 yy
    refine⟨ag,n8,_,Y[i2],ar++(es++(aa++ds)),am++(ws++(af++vs)),⟨aH,I9⟩,t2,λav aV ⟨aj,az⟩ aE ap=>?_⟩;obtain⟨ap,aO⟩:=ap;refine⟨av,n8,_,ar++(es++(aa++ds)),am++(ws++(af++vs)),⟨aj,az⟩,aO,λc aZ aC ⟨aw,aF⟩ ay=>?_⟩
    cases c with
    |false=>exact⟨Y.length-(i2+1),x3,rfl,ah,aE.trans ao,aa,aC,ai,⟨aw,aF.weakR ap⟩,ay⟩
    |true=>
     rw[if_pos rfl] at ay ⊢;refine⟨av,aC,_,ar++(es++(aa++ds)),am++(ws++(af++vs)),⟨aw,aF⟩,ay,λv aY aM d ⟨aB,aU⟩ aN=>?_⟩;obtain⟨aT,rv⟩:=aU.pop;obtain⟨aS,r1⟩:=aT.split aD;obtain⟨aR,r2⟩:=aS.split hl;obtain⟨aQ,r3⟩:=aR.split ai
     exact⟨Y.length-(i2+1),x3,rfl,ah,aE.trans ao,aa++[d],aM,by simp[ai],⟨aB,(((aQ.join (r3.append (.cons rv .nil))).join r2).join r1).weakR ap⟩,aN⟩
   ·have e : i2 = Y.length := by lia
    subst e;obtain⟨I9,_⟩:=I8.split aD;obtain⟨aj,az⟩:=I9.back k5 ao
    exact .inl ⟨q2 (zi _),Vy ao,items.length-(i+1),x3,rfl,ak,aa,n8,ai,⟨aj,az⟩,aA aa n8 w8⟩
 ·have e : i = items.length := by lia
  subst e;obtain⟨f1,f2⟩:=fin ae n3 w3
  refine .inl ⟨j2 (zi _),by rw[aq];exact f1,λD hD=>?_⟩
  obtain⟨I4,r1⟩:=I3.split hl;obtain⟨I5,r2⟩:=I4.split aq;exact hQ _ _ n3 _ ⟨os,I5.newLst r2 hD⟩ f2
theorem zA3(ok:CompOk X scope M)(hc:X.calm=true)(hi:PID A X tg1 it1 i1)(hg:∀C I W J,PGD A (yf X scope own M C I W J) own.length tg1 g1)(ht:∀C I W J,PTs (yf X scope own M C I W J) ifs1 (zc8 A tt1))
  (ae:∀C I W J,PID A (yf X scope own M C I W J) tg2 it2 i2) (af:∀C I W J,PGD A (yf X scope own M C I W J) own.length tg2 g2) (Y:∀C I W J,PTs (yf X scope own M C I W J) ifs2 (zc8 A tt2))
  (he:∀C I W J,PD A (yf X scope own M C I W J) elt te) (hs:∀x,foldedSetIterable it1 X.env x=pure x:=by intro _;rfl) (aa:∀C I W J x,foldedSetIterable it2 (yf X scope own M C I W J).env x=pure x:=by intros;rfl) :
  PD A X (.ListComp elt [⟨tg1,it1,ifs1,0⟩,⟨tg2,it2,ifs2,0⟩] scope pos) (zt1 i1 own.length g1 tt1 i2 g2 tt2 te):=by exists (zA0 ok hc hi hg ht ae af Y he hs aa).imp λ_ _ _=>zj5
end
theorem zq8{g2:TGD}{Y:TBD}{te:TD}{J:Rho}{acc:List D}{R:List D->Nat->Prop}{n:Nat}{β:Type}(W:β->D)(keep:β->Bool)(f:β->D)(ys:List β)(hz:acc.length+ys.length<=1000)
  (he:∀y∈ys,∀(R:D->Nat->Prop) (S:Nat->Prop),(keep y=true->R (f y) n)->(keep y=false->S n)->g2 (W y) J λI=>keepsD J I/\Y I n λc n2=>if c=true then te I n2 R else S n2)
  (fin:R (acc++(ys.filter keep).map f) n):xy0 g2 Y te J acc R (ys.map W) n:=by
 refine⟨λi ac n'=>n'=n/\i<=ys.length/\ac=acc++((ys.take i).filter keep).map f,⟨rfl,wn _,by simp⟩,?_,?_⟩
 ·rintro i d ac n' e ⟨rfl, hi, rfl⟩;rw[zv] at e
  cases q:ys[i]? with
  |none=>rw[q] at e;cases e
  |some y=>
   rw[q] at e;cases e;have hm:y∈ys:=xk q;have aa:i<ys.length:=(zu.mp q).1
   have ae:((ys.take i).filter keep).length<=i:=zy (List.length_filter_le ..) (by rw[xh];lia)
   refine⟨lt_size (by rw[zr,zh];lia),?_⟩
   refine he y hm _ _ (λhk=>?_) λhk=>?_
   ·refine⟨rfl,aa,?_⟩;rw[xI,q];simp[hk]
   ·refine⟨rfl,aa,?_⟩;rw[xI,q];simp[hk]
 ·rintro ac n' ⟨rfl,_,rfl⟩;rw[zh,wy];exact fin
noncomputable def UD:Value->Bool
 |.bool b=>b
 |_=>false
noncomputable def zL9(K:W.Frag):V->List V->Hp->VK->Prop:=λx vs H Q=>∃(l:Addr) (bs:List Bool) (j:Nat),x=.ref l/\vs=[.bl true]/\SqL K H l (bs.map V.bl)/\bs[j]?=some true/\(∀m,m<j->bs[m]?=some false)/\bs.length<=1000/\Q (.int j) H
theorem zx2{bs:List Bool}:∀{us:QqW},Vals (bs.map V.bl) us->us=bs.map Value.bool:=by
 induction bs with
 |nil=>intro us r;cases r;rfl
 | cons b bs W =>
  intro us r
  cases r with
  |cons J I=>
   have e:_=Value.bool b:=J;rw[e,W I];rfl
section
variable {X:Cx}
theorem zo6:MtR X "list.index" (zL9 X.K):=by
 intro aa s σ H x vs v us Q I rx rv h;obtain⟨l,bs,j,rfl,rfl,hS,h1,h2,h3,q⟩:=h;cases rx;obtain⟨u,rfl,ru⟩:=Ke rv;have eu:u=Value.bool true:=ru;subst eu;obtain⟨its,r,pl,_⟩:=I.list hS;have e:=zx2 r;subst e;have ty:=pl.isList.typeIs;obtain⟨o,n,ho,hc,Y,hd⟩:=pl;obtain⟨oc,od,af,ae⟩:=o;cases hc;cases Y;cases hd;have hj:j<bs.length:=(zu.mp h1).1
 have J:j<((bs.map Value.bool).toArray).size:=by simpa using hj
 have at_:∀m (hm:m<((bs.map Value.bool).toArray).size),UD ((bs.map Value.bool).toArray)[m]=bs[m]'(by simpa using hm):=λm hm=>by simp[UD]
 refine call_meets F.slot_list_index ty F.entry_list_index (F.args_list_index_2 _ _) (SeqAt.list_indexAt l (bs.map Value.bool).toArray n _ _ (.bool true) UD j J x3 ?_ ?_) ⟨ho,?_,?_⟩
 ·rw[at_ j J];exact(zu.mp h1).2
 ·intro m hm W;rw[at_ m hm];exact(zu.mp (h2 m W)).2
 ·intro y hy;obtain⟨b,_,rfl⟩:=zQ.mp (List.mem_toArray.mp hy);have:=SeqAt.EqAt.bool_bool (A:=X.A.in1) (s:=s) b true
  have e:(b == true)=UD (.bool b):=by cases b<;>rfl
  rw[e] at this;exact this
 ·exact⟨.int j,H,I.tok _,⟨_,rfl⟩,q⟩
end
noncomputable def zt0(I:TD):TD:=λrho n P=>I rho n λd J=>∃(bs:List Bool) (j:Nat),d=.lst (bs.map D.bl)/\bs[j]?=some true/\(∀m,m<j->bs[m]?=some false)/\bs.length<=1000/\P (.int j) J
@[simp] theorem zY8{I rho n P}:zt0 I rho n P=I rho n λd J=>∃(bs:List Bool) (j:Nat),d=.lst (bs.map D.bl)/\bs[j]?=some true/\(∀m,m<j->bs[m]?=some false)/\bs.length<=1000/\P (.int j) J:=rfl
theorem QS{K:W.Frag}{G:QqE}{Z:QqA}{H:Hp}:∀{bs:List Bool}{vs:List V},Reps K G Z H (bs.map D.bl) vs->vs=bs.map V.bl
 |[],vs,h=>h.nil_inv
 |b::bs,vs,h=>by
  obtain⟨v,r,rfl,q,t⟩:=h.split;rw[q.bl_inv,QS t];rfl
section
variable {A:AC}{X:Cx}
theorem zm1{o:Expr}{te:TD}{Y W p:Pos}{j:Nat}(hK:X.K=A.K)(ho:PD A X o te)(ae:attributeBase o "index" X.env (eval o X.env)=eval o X.env:=by rfl)(aa:(Y.endLine == W.line)=true:=by rfl) :
  PD A X (.Call (.Attribute o "index" Y) [.Constant (.bool true) j p] [] W) (zt0 te):=by
 exists (zm0 F.plainAttrs_list F.slot_list_index F.type_list_index zo6 ho (jV xa2 Xc) ae rfl aa).imp λsg H Q h=>by
   obtain⟨rho,n,P,ds,vs,I,ht,hQ⟩:=h;refine⟨rho,n,_,ds,vs,I,ht,λv H1 n1 d ⟨os,J⟩ k=>?_⟩;obtain⟨bs,j,rfl,k1,k2,k3,k⟩:=k;obtain⟨J1,r⟩:=J.pop;obtain⟨l,xs,rfl,sq,rs⟩:=r.lst_inv;rw[QS rs] at sq;rw[hK];exact⟨.inl ⟨rfl,_,sq.sq⟩,l,bs,j,rfl,rfl,sq.sq,k1,k2,k3,hQ _ _ n1 _ ⟨os,J1.push (Rep.ofS (d:=.int j) rfl)⟩ k⟩
end
section
variable {A:AC}{X:Cx}{e:Expr}{t1:TAD}{pos:Pos}
noncomputable def zk3(i j:Nat)(t:TAD):TSD:=λF rho n=>ZR rho[i]? λes=>ZR rho[j]? λfs=>i≠j/\es.length<sizeLine/\t rho n λds I=>∃(k:Nat) (d:D),ds=[.int k]/\k<1000000/\fs[k]?=some d/\F.nx ((rho.set j (some (.own (fs.eraseIdx k)))).set i (some (.own (es++[d])))) I
@[simp] theorem zY2{i j t F rho n}:zk3 i j t F rho n=ZR rho[i]? λes=>ZR rho[j]? λfs=>i≠j/\es.length<sizeLine/\t rho n λds I=>∃(k:Nat) (d:D),ds=[.int k]/\k<1000000/\fs[k]?=some d/\F.nx ((rho.set j (some (.own (fs.eraseIdx k)))).set i (some (.own (es++[d])))) I:=rfl
theorem Reps.erase{K:W.Frag}{G:QqE}{Z:QqA}{H:Hp}:∀{ds:List D}{vs:List V} (k:Nat),Reps K G Z H ds vs->Reps K G Z H (ds.eraseIdx k) (vs.eraseIdx k):=by
 intro ds
 induction ds with
 |nil=>intro vs k r;rw[r.nil_inv];exact .nil
 |cons d ds I=>
  intro vs k r;obtain⟨v,w,rfl,q,t⟩:=r.split
  cases k with
  |zero=>exact t
  |succ k=>exact .cons q (I k t)
theorem zd5{i j:Nat}{x y:Str}{px py ae aa Y W:Pos}(ha:PAD A X [e] t1)(hK:X.K=A.K)(hN:X.N[i]?=some y:=by rfl)(hM:X.N[j]?=some x:=by rfl)
  (hv:Vis X.env.scope y:=by first |exact Or.inl rfl |exact Or.inr (Or.inl rfl) |exact Or.inr (Or.inr rfl)) (hd:(y == ("__debug__" : Str))=false:=by decide) (aG:(y == ("__classdict__" : Str))=false:=by decide)
  (aA:Vis X.env.scope x:=by first |exact Or.inl rfl |exact Or.inr (Or.inl rfl) |exact Or.inr (Or.inr rfl)) (aF:(x == ("__debug__" : Str))=false:=by decide) (ap:(x == ("__classdict__" : Str))=false:=by decide)
  (ak:attributeBase (.Name y py) "append" X.env (eval (.Name y py) X.env)=eval (.Name y py) X.env:=by rfl)
  (ah:attributeBase (.Name x px) "pop" X.env (eval (.Name x px) X.env)=eval (.Name x px) X.env:=by rfl)
  (ao : ((backTo aa (starEach [.Call (.Attribute (.Name x px) "pop" Y) [e] [] W] X.env)).all (λx => !x.1) && (backToKw aa (keywordEach [] X.env)).all (λx => x.1.isSome)
   && decide ([(.Call (.Attribute (.Name x px) "pop" Y) [e] [] W:Expr)].length+([]:List Keyword).length+(if ([]:List Keyword).isEmpty then 0 else 1)<30))=true:=by rfl)
  (aj : ((backTo W (starEach [e] X.env)).all (λx => !x.1) && (backToKw W (keywordEach [] X.env)).all (λx => x.1.isSome)
   && decide ([e].length+([]:List Keyword).length+(if ([]:List Keyword).isEmpty then 0 else 1)<30))=true:=by rfl)
  (ai:(ae.endLine == aa.line)=true:=by rfl) (ag:(Y.endLine == W.line)=true:=by rfl)
  (hs:starEach [.Call (.Attribute (.Name x px) "pop" Y) [e] [] W] X.env=(false,eval (.Call (.Attribute (.Name x px) "pop" Y) [e] [] W) X.env)::starEach [] X.env:=by rfl) (aC:starEach [e] X.env=(false,eval e X.env)::starEach [] X.env:=by rfl)
  (af:(backTo aa (starEach [] X.env)).any (·.1)=false:=by rfl) (hplain2:(backTo W (starEach [] X.env)).any (·.1)=false:=by rfl)
  (aB:swapsWith (.Call (.Attribute (.Name y py) "append" ae) [.Call (.Attribute (.Name x px) "pop" Y) [e] [] W] [] aa) none pos.line X.env=pure false:=by rfl) :
  PSD A X (.Expr (.Call (.Attribute (.Name y py) "append" ae) [.Call (.Attribute (.Name x px) "pop" Y) [e] [] W] [] aa) pos) (zk3 i j t1):=by
 exists 
   (Qc (zm0 PySem.F.plainAttrs_list PySem.F.slot_list_append PySem.F.type_list_append KW (Zs hN hv hd aG)
    (jV (zm0 PySem.F.plainAttrs_list PySem.F.slot_list_pop PySem.F.type_list_pop zC3 (Zs hM aA aF ap) ha ah aj ag aC hplain2) Xc hs) ak ao ai hs af) aB).imp λE sg H h=>by
    obtain⟨rho,n,F,ds,vs,⟨os,I⟩,⟨es,hi,fs,hj,aD,hz,ht⟩,ok⟩:=h;obtain⟨a,xs,e1,hH,rs,_⟩:=I.own (es':=es) (xs':=[]) hi;obtain⟨b,ys,e2,aI,aJ,_⟩:=I.own (es':=fs) (xs':=[]) hj;refine⟨.ref a,e1,.inl ⟨rfl,xs,SqL.of hH⟩,.ref b,e2,.inl ⟨rfl,ys,SqL.of aI⟩,rho,n,_,ds,vs,⟨os,I⟩,ht,λws H' n' gs ⟨os',J⟩ hl k=>?_⟩;obtain⟨k,d,rfl,hk,hd,q⟩:=k;obtain⟨J1,az⟩:=J.split hl;obtain⟨v,rfl,r⟩:=kX az;obtain⟨b',ys',e3,ar,ay,_⟩:=J1.own (es':=fs) (xs':=[]) hj;rw[e2] at e3;cases e3;obtain⟨w,hw,rw'⟩:=ay.get hd;have J2:=J1.push rw';obtain⟨b',ys',e3,aq,ax,up⟩:=J2.own (es':=fs.eraseIdx k) (xs':=ys'.eraseIdx k) hj;rw[e2] at e3;cases e3;rw[ar] at aq;cases aq;have aK:k<ys'.length:=(zu.mp hw).1
    refine⟨_,_,k,k,w,rfl,?_,ar,x3,x3,?_,hw,?_⟩
    ·rw[r.int_inv]
    ·unfold seqIndex?;simp;lia
    ·have J3 := up _ _ (ax.erase k);obtain⟨J4,r5⟩:=J3.pop
     have aE:(rho.set j (some (.own (fs.eraseIdx k))))[i]?=some (some (.own es)):=by rw[xq aD.symm];exact hi
     obtain⟨a',av,e4,aH,am,aw⟩:=J4.own (es':=es) (xs':=[]) aE;rw[e1] at e4;cases e4
     exact⟨a,av,w,rfl,rfl,aH,by rw[am.length];exact hz,ok.nx _ _ _ _ ⟨os',aw _ _ (am.append (.cons r5 .nil))⟩ q⟩
noncomputable def zG3(i j:Nat)(t:TAD):TSD:=λF rho n=>i<rho.length/\j<rho.length/\t rho n λds I=>zT2 ds λfs=>F.nx ((rho.set i (some (.own fs))).set j (some (.own []))) I
@[simp] theorem xh8{i j t F rho n}:zG3 i j t F rho n=(i<rho.length/\j<rho.length/\t rho n λds I=>zT2 ds λfs=>F.nx ((rho.set i (some (.own fs))).set j (some (.own []))) I):=rfl
theorem zl1{i j:Nat}{x y:Str}{px py pt pl p pc:Pos}{kt k2 ae}(hc:X.calm=true)(hK:X.K=A.K)(hm:X.mg "list" = none)(hN:X.N.Nodup)(hi:X.N[i]?=some x)(hj:X.N[j]?=some y)(ai:i≠j)
  (hx:X.env.scope.names.lookup x=some .local) (hy:X.env.scope.names.lookup y=some .local) (ha:PAD A X [e] t1) (hg:Gl X "list" := by rfl) (he:starEach [e] X.env=[(false,eval e X.env)]:=by rfl)
  (hk:X.env.blockKind=.function:=by rfl) (hl:py.line=px.line:=by rfl) (af:x≠y:=by decide) (hf:[.Call (.Name "list" p) [e] [] pc,Expr.List [] pl].all (foldedForSure 8)=false:=by decide +kernel) (ak:[.Call (.Name "list" p) [e] [] pc,Expr.List [] pl].all (constantsAlone 8)=false:=by decide +kernel) :
  PSD A X (.Assign [.Tuple [.Name x px,.Name y py] kt pt] (.Tuple [.Call (.Name "list" p) [e] [] pc,.List [] pl] k2 ae) pos) (zG3 i j t1):=by
 exists (by
   refine(zl3 hc hN hi hj ai hx hy (jV (KC (vq (X:=X)) hg hm Zd ha x4 x4 he rfl) (jV (QZ Xc) Xc (sE rfl)) (sE rfl)) (VW hk hx hy hl af rfl rfl hf ak) rfl).imp λE sg H h=>?_
   obtain⟨rho,n,F,ds,vs,I,⟨ah,ag,ht⟩,ok⟩:=h;refine⟨rho,n,_,ds,vs,I,ht,λws H' n' es ⟨os,J⟩ aa k=>?_⟩;obtain⟨J1,rs⟩:=J.split aa;obtain⟨fs,aj,k⟩:=k
   have fin:∀(l:Addr) (xs:List V),H' l=none->Reps A.K A.G (Zof A os) H' fs xs->∀p,upd H' l (.lst xs) p=none->E.nx ((sg.set i (some (.ref l))).set j (some (.ref p))) (upd (upd H' l (.lst xs)) p (.lst [])):=λl xs hl' W p Y=>by
    obtain⟨am,J2⟩:=J1.setOwn ah hl' W
    exact ok.nx _ _ _ _ (J2.setOwn (by simpa using ag) Y .nil) k
   rcases aj with rfl |rfl
   ·obtain⟨v,rfl,r⟩:=kX rs;obtain⟨a,xs,rfl,sq,W⟩:=r.lst_inv;exact⟨a,xs,rfl,.inl (hK ▸ sq.sq),λl hl'=>⟨wn _,λp Y=>⟨_,_,rfl,fin l xs hl' W p Y⟩⟩⟩
   ·obtain ⟨v, rfl, r⟩ := kX rs;obtain⟨a,xs,rfl,sq,W⟩:=r.tup_inv
    exact⟨a,xs,rfl,.inr (hK ▸ sq.sq),λl hl'=>⟨wn _,λp Y=>⟨_,_,rfl,fin l xs hl' W p Y⟩⟩⟩)
end
section
variable {A:AC}{X:Cx}
noncomputable def zV8:D->Str
 |.int i=>toString i
 |d=>zL0 d
noncomputable def xF3(d:D):Prop:=(∃i:Int,d=.int i/\i.natAbs.log2<1920)\/xw5 d
noncomputable def xd7:List D->(D->Prop)->Prop:=λes k=>∃d,es=[d]/\xF3 d/\k (.str (zV8 d))
@[simp] theorem xk0{d k}:xd7 [d] k↔(xF3 d/\k (.str (zV8 d))):=⟨fun⟨_,e,h⟩=>by cases e;exact h,λh=>⟨_,rfl,h⟩⟩
end
noncomputable def atS:List Str->List D->Str->Option D
 |k::I,d::ds,x=>if k=x then some d else atS I ds x
 |_,_,_=>none
structure EntOk(w:World)(K:W.Frag)(e:DictEntry)(k:Str)(d:D):Prop where
 key:∃t,e.key=.str k t
 hash:e.hash=xw8 w (.inr k)
 val:∃v,RelV v e.val/\∀G Z H,Rep K G Z H d v
noncomputable def JH(w:World)(K:W.Frag):List DictEntry->List Str->List D->Prop
 |[],[],[]=>True
 |e::es,k::I,d::ds=>EntOk w K e k d/\JH w K es I ds
 |_,_,_=>False
noncomputable def xz6(w:World)(K:W.Frag)(mg:QqM)(x:Str)(I:List Str)(ds:List D):Prop:=
 ∃(a:Addr) (o:Obj) (es:Array DictEntry) (J:Nat),mg x=some (.ref a)/\(a == sysModules)=false/\K.lookup a=some o/\o.ExactDict/\o.data=.dict es J/\JH w K es.toList I ds
theorem Vx(x k:Str)(t:Tok):Xm (.inr x) (.str k t)=decide (k=x):=by
 by_cases h:k=x
 ·subst h;rw[Wt];simp
 ·cases e : Xm (.inr x) (.str k t) with
  |false=>simp[h]
  |true=>
   rcases vo e with ⟨i,u,J,I⟩ |⟨y,u,J,I⟩
   ·cases J
   ·cases J;injection I with I _;exact absurd I h
theorem Jl{w:World}{K:W.Frag}:∀{es:List DictEntry}{I:List Str}{ds:List D},JH w K es I ds->∀x:Str,
  match atS I ds x with
  |some d=>∃u v,(es.find? λe=>Xm (.inr x) e.key).map (·.val)=some u/\RelV v u/\∀G Z H,Rep K G Z H d v
  |none=>(es.find? λe=>Xm (.inr x) e.key).map (·.val)=none
 |[],[],[],_,x=>rfl
 | e :: es, k :: I, d :: ds, h, x => by
  obtain⟨⟨⟨t,hk⟩,_,v,Y,J⟩,h2⟩:=h;unfold atS
  by_cases c:k=x
  ·rw [if_pos c];refine⟨e.val,v,?_,Y,J⟩
   rw[List.find?_cons_of_pos (by rw[hk,Vx];simp[c])];rfl
  ·rw [if_neg c, List.find?_cons_of_neg (by rw [hk, Vx]; simp [c])]
   exact Jl h2 x
 |[],[],_::_,h,_=>h.elim
 |[],_::_,_,h,_=>h.elim
 |_::_,[],_,h,_=>h.elim
 |_::_,_::_,[],h,_=>h.elim
theorem Jk{w:World}{K:W.Frag}:∀{es:List DictEntry}{J:List Str}{ds:List D},JH w K es J ds->∀e∈es,∃k:Key,Xm k e.key=true/\e.hash=xw8 w k
 |[],[],[],_,e,I=>by simp at I
 |e::es,k::J,d::ds,h,e',I=>by
  obtain⟨⟨⟨t,hk⟩,hh,_⟩,h2⟩:=h
  rcases zt.mp I with rfl |I
  ·exact⟨.inr k,by rw[hk];exact Wt k t,hh⟩
  ·exact Jk h2 e' I
 |[],[],_::_,h,_,_=>h.elim
 |[],_::_,_,h,_,_=>h.elim
 |_::_,[],_,h,_,_=>h.elim
 |_::_,_::_,[],h,_,_=>h.elim
theorem zE1{P:Program}{w:World}{K:W.Frag}{h:Heap}{a:Addr}{o:Obj}{es:Array DictEntry}{I:Nat}{J:List Str}{ds:List D}(X:K.In h)(hk:K.lookup a=some o)(hx:o.ExactDict)(hd:o.data=.dict es I)(Y:JH w K es.toList J ds) :
  h.MapOf (qi P w) a (findBy (qi P w).is es):=
 ⟨o,es,I,X a o hk,hx,hd,λe hm=>Jk Y e (Array.mem_toList_iff.mpr hm),λ_=>rfl⟩
theorem zr7{P:Program}{w:World}(es:Array DictEntry)(x:Str):findBy (qi P w).is es (.inr x)=(es.toList.find? λe=>Xm (.inr x) e.key).map (·.val):=by
 unfold findBy;rw[<- Array.find?_toList];rfl
section
variable {X:Cx}{A:AC}{a b:Expr}{ta tb:TD}{pos p:Pos}{g:Str}{ks:List Str}{ds:List D}
noncomputable def xN9(ks:List Str)(ds:List D)(ta:TD):TD:=λrho n P=>ta rho n λd I=>∃x,d=.str x/\P (.bl (atS ks ds x).isSome) I
@[simp] theorem xD5{ta:TD}{rho:Rho}{n:Nat}{P:D->Nat->Prop}:xN9 ks ds ta rho n P=ta rho n λd I=>∃x,d=.str x/\P (.bl (atS ks ds x).isSome) I:=rfl
noncomputable def xG5(ks:List Str)(ds:List D)(tb:TD):TD:=λrho n P=>tb rho n λd I=>∃x d',d=.str x/\atS ks ds x=some d'/\P d' I
@[simp] theorem xD4{tb:TD}{rho:Rho}{n:Nat}{P:D->Nat->Prop}:xG5 ks ds tb rho n P=tb rho n λd I=>∃x d',d=.str x/\atS ks ds x=some d'/\P d' I:=rfl
theorem xa4(hG:xz6 X.w X.K X.mg g ks ds)(hK:X.K=A.K)(hb:PD A X b tb)(hs:xH0 b)(hg:Gl X g:=by rfl)(hd:(g == ("__debug__" : Str))=false:=by decide):PD A X (.Subscript (.Name g p) b pos) (xG5 ks ds tb):=by
 exists (by
   obtain⟨ad,o,es,ep,ae,ag,hk,af,aa,he⟩:=hG;intro W s σ H Q I h;obtain⟨rho,n,P,ds',vs,J0,ht,hQ⟩:=h;refine zK7 PySem.F.slot_dict_getitem.lookup hs (thn (zl8 (v:=.ref ad) hg ae rfl hd W s σ H (λx H1=>x=.ref ad/\H1=H) I ⟨rfl,rfl⟩) λu s1 ⟨x,H1,I1,rx,e1,e2⟩=>?_);subst e1 e2;cases rx;refine thn (hb W s1 σ _ (λy H2=>∃n' d' k,y=.str k/\Am A n' rho σ H2 (.str k::ds') (y::vs)/\atS ks ds k=some d'/\P d' n') I1 ⟨rho,n,_,ds',vs,J0,ht,λv H' n' d J k=>?_⟩) λiv s2 ⟨y,H2,I2,ry,n',d',k,ey,J,Y,hP⟩=>?_
   ·obtain⟨x,d',rfl,Y,k⟩:=k;obtain⟨os,J⟩:=J;have e:=(J.pop.2).toS rfl;exact⟨n',d',x,e,⟨os,J⟩,Y,k⟩
   ·subst ey;have hm:=zE1 (P:=X.prog) I2.kIn hk af aa he;refine⟨hm.typeIs,?_⟩;have hf:=Jl he k;rw[Y] at hf;obtain⟨u,v,h1,h2,h3⟩:=hf
    refine wpAny_getItem_of (knd:=qi X.prog X.w) (k:=.inr k) (xw9 (k:=.inr k) ry) hm (by rw[zr7];exact h1) ?_
    obtain⟨os,J⟩:=J
    exact⟨v,H2,I2.tok _,h2,hQ v H2 n' d' ⟨os,J.pop.1.push (by rw[<- hK];exact h3 _ _ _)⟩ hP⟩)
end
section
variable {prog:Program}{w:World}{A:Around}{E:QqV}{s:Shared}
theorem Js{v:Value}{Q:QqV}(h:∀A':Around,wpAny (model prog w) A' (truthy v) (λb s'=>Q (.bool b) s') E s):wpAny (model prog w) A (call (.type "bool") [v]) Q E s:=by
 have g:MeetsIn prog w (Builtin.«bool.__new__» ⟨[.type "bool",v],[]⟩) (λ_ R J=>∀A':Around,wpAny (model prog w) A' (truthy v) (λb s'=>R (.ok (.ret (.bool b))) s') (λe s'=>R (.error e) s') J):=by
  intro A R s W;obtain⟨hp,g,d,tk,os⟩:=s;have f1:=F.conv_sub_bool;have Y:=W A.in1;unfold Builtin.«bool.__new__»
  repeat (any_goals (first |assumption |(with_reducible refine zc (wv Y (λb s' I=>?_) λ_ _ e=>e)) |wp_step))
 exact callType_newIn F.called_bool F.newNe_bool (F.typeCall_bool_1 v) (F.newCall_bool_1 v) (λobj=>F.args_object_init_2 obj v) F.entry_bool_new g (λA'=>wv (h A') (λb s' I=>⟨rfl,I⟩) λ_ _ e=>e)
end
section
variable {X:Cx}
theorem zJ9{Y:QqL}{s:Shared}{σ:St}{H:Hp}{x:V}{v:Value}{k:Bool}{Q:Bool->Hp->Prop}(I:Inv X Y σ H s)(rx:RelV x v)(e:xm1 X.K x H k)(q:Q k H)(A':Around) :
  wpAny (model X.prog X.w) A' (truthy v) (TP X Y σ Q) X.xe s:=by
 have hl:=Vv;have hs:sizeLine=16777216:=sizeLine_eq
 cases x with
 |non=>
  cases rx;have e':k=false:=e;subst e';exact truthy_none ⟨H,I,q⟩
 |bl b=>
  cases rx;have e':k=b:=e;subst e';exact xZ ⟨H,I,q⟩
 |int i=>
  obtain⟨t,rfl⟩:=rx;have e':k=(i != 0):=e;subst e';exact PySem.P.truthy_int ⟨H,I,q⟩
 |str y=>
  obtain⟨t,rfl⟩:=rx;obtain⟨hy,e'⟩:y.length<=sizeLine/\k=((y.length:Int) != 0):=e;subst e'
  exact PySem.P.truthy_str x3 ⟨H,I.tok _,q⟩
 |byt y=>
  obtain⟨t,rfl⟩:=rx;obtain⟨hy,e'⟩:y.size<=sizeLine/\k=((y.size:Int) != 0):=e;subst e'
  exact W.truthy_bytes x3 ⟨H,I.tok _,q⟩
 | ref p =>
  cases rx;have e':(∃xs,SqL X.K H p xs/\k=!xs.isEmpty)\/(∃xs,SqT X.K H p xs/\k=!xs.isEmpty)\/∃J,H p=some (.dK J)/\k=!J.isEmpty:=e
  rcases e' with ⟨xs,hx,e'⟩ |⟨xs,hx,e'⟩ |⟨J,hx,e'⟩
  ·subst e';obtain⟨its,r,pl,hz⟩:=I.list hx;have aa:=r.length
   exact wpAny_truthy_list pl.isList (by simp only[zn];lia) ⟨H,I.tok _,by rw[VA r];exact q⟩
  ·subst e';obtain⟨its,r,pl,hz⟩:=I.tuple hx;have aa:=r.length
   exact truthy_tuple pl (by simp only[zn];lia) ⟨H,I.tok _,by rw[VA r];exact q⟩
  ·subst e';obtain⟨hz,hS,vs,r,m⟩:J.length<=sizeLine/\(p == sysModules)=false/\∃ vs,KV J vs/\s.heap.DictOf (qi X.prog X.w) p vs:=I.hok p _ hx;have aa:J.length=vs.length:=Paired.length r
   exact wpAny_truthy_dict hS m x3 ⟨H,I.tok _,by rw[zf4 r];exact q⟩
 |_=>exact(show False from e).elim
theorem zg3:jr X (.type "bool") (λxs H Q=>∃x k,xs=[x]/\xm1 X.K x H k/\Q (.bl k) H):=by
 intro J s σ H xs us Q I r h;obtain⟨x,k,rfl,e,q⟩:=h;obtain⟨u,rfl,W⟩:=Ke r
 exact Js λA'=>wv (zJ9 (Q:=λb H'=>b=k/\Q (.bl k) H') I W e ⟨rfl,q⟩ A') (λb s' ⟨H',I',e1,Y⟩=>⟨.bl k,H',I',by subst e1;rfl,Y⟩) λ_ _ e=>e
end
section
variable {A:AC}
noncomputable def okB:D->Bool
 |.non=>true
 |.bl _=>true
 |.int _=>true
 |.str x=>decide (x.length<=1000)
 |.dic=>true
 |.tup _=>true
 |.lst _=>true
 |_=>false
noncomputable def xe4:List D->(D->Prop)->Prop:=λes k=>∃d,es=[d]/\okB d=true/\∀b,k (.bl b)
theorem zE7:vA A (λxs H Q=>∃x k,xs=[x]/\xm1 A.K x H k/\Q (.bl k) H) xe4:=by
 rintro os n rho sg H ds vs es ws k Q I W ⟨d,rfl,ok,q⟩ hQ;obtain⟨v,rfl,r⟩:=kX W
 have key:∃b,xm1 A.K v H b:=by
  cases d with
  |non=>exact⟨false,by have e:=r.toS rfl;subst e;exact(rfl:(false:Bool)=false)⟩
  |bl c=>exact⟨c,by have e:=r.toS rfl;subst e;exact(rfl:c=c)⟩
  |int i=>exact⟨_,by have e:=r.toS rfl;subst e;exact(rfl:(i != 0)=(i != 0))⟩
  |str y=>
   have hy:y.length<=1000:=by simpa [okB] using ok
   exact⟨_,by have e:=r.toS rfl;subst e;exact⟨xY hy,rfl⟩⟩
  |tup fs=>
   obtain⟨a,xs,rfl,sq,Y⟩:=r.tup_inv;exact⟨_,.inr (.inl ⟨xs,sq.sq,rfl⟩)⟩
  |lst fs=>
   obtain⟨a,xs,rfl,sq,Y⟩:=r.lst_inv;exact⟨_,.inl ⟨xs,sq.sq,rfl⟩⟩
  |dic=>
   unfold Rep at r;obtain⟨a,J,rfl,_,h⟩:=r;exact⟨_,.inr (.inr ⟨J,h,rfl⟩)⟩
  |_=>simp[okB] at ok
 obtain⟨b,hb⟩:=key;exact⟨v,b,rfl,hb,hQ _ H _ ⟨os,I.push (Rep.ofS rfl)⟩ (q b)⟩
end
end L2
open L2
namespace K47
noncomputable abbrev q0:List Str:=["one","other"]
noncomputable abbrev q1:List Str:=["thing"]
noncomputable abbrev q2:List Str:=["ends","pair"]
noncomputable abbrev q3:List Str:=["_law_left_here","_law_house_here"]
noncomputable abbrev q4:List Str:=["_law_edges","_law_plain_here"]
noncomputable abbrev q5:List Str:=["thing","words","d"]
noncomputable abbrev q6:List Str:=["_law_left_here"]
noncomputable abbrev q7:List Str:=["_law_left_here","_law_d","_law_things","_law_turn"]
noncomputable abbrev q8:List Str:=["ends","pair","side"]
noncomputable abbrev q9:List Str:=["_law_tree_here","_law_plain_here","_law_path"]
noncomputable abbrev q10:List Str:=["parts","trees","plain"]
noncomputable abbrev q11:List Str:=["_law_thing","_law_most"]
noncomputable abbrev q12:List Str:=["_law_tree_here","_law_part"]
noncomputable abbrev q13:List Str:=["_law_one","_law_plain_here","_law_part"]
noncomputable abbrev q14:List Str:=["_law_row","_law_at_here","_law_thing"]
noncomputable abbrev q15:List Str:=["_law_tree_here","_law_plain_here"]
noncomputable abbrev q16:List Str:=["_law_left_here","_law_house_here","_law_i"]
noncomputable abbrev q17:List Str:=["_law_edges","_law_plain_here","_law_i","_law_side"]
noncomputable abbrev q18:List Str:=["_law_left_here","_law_parts_here"]
noncomputable abbrev q19:List Str:=["_law_left_here","_law_tree_here","_law_plain_here","_law_parts_here"]
noncomputable abbrev q20:List Str:=["_law_tree_here","_law_plain_here","_law_thing"]
noncomputable abbrev q21:List Str:=["_law_left_here","_law_parts_here","_law_d"]
noncomputable def top(i:Nat):Stmt:=PySem.Challenge.pw_boxlayers_k47_covers_spoilt.main.body.getD i (.Pass ⟨0,0,0,0⟩)
noncomputable abbrev End:=Option (Int × Bool)
noncomputable abbrev QA:=End × End
noncomputable def qk:End->D
 |none=>.non
 |some (n,s)=>.tup [.int n,.bl s]
noncomputable def Vc:Option Int->D
 |none=>.non
 |some i=>.int i
noncomputable def qF(s:QA):D:=.tup [qk s.1,qk s.2]
noncomputable def vQ(b:List QA):D:=.tup (b.map qF)
noncomputable def vK(p:List Int):D:=.tup (p.map D.int)
noncomputable def Je:End->Option Int
 |none=>none
 |some (n,s)=>some (if s then n else n+1)
noncomputable def zb2:End->Option Int
 |none=>none
 |some (n,s)=>some (if s then n else n-1)
noncomputable def zQ6(lo hi:Option Int)(x:Int):Bool:=(match lo with |none=>true |some l=>decide (l<=x))&&(match hi with |none=>true |some g=>decide (x<=g))
@[simp] theorem xm0:qk none=.non:=rfl
@[simp] theorem xl9{n:Int}{s:Bool}:qk (some (n,s))=.tup [.int n,.bl s]:=rfl
theorem We(e:End):we (qk e)=true:=by rcases e with _ |⟨n,s⟩<;>rfl
section
variable {P:Program}{w:World}{K:W.Frag}{mg:QqM}{base:Heap}{f:Addr}{fd:FuncData}
noncomputable abbrev YA:Stmt:=top 6
noncomputable abbrev zg6:List Str:=["low","number","shut"]
theorem ZC:FnScope zg6 ["low"] (zV YA):=⟨rfl,rfl,rfl,x5,rfl,x5,x5⟩
noncomputable def Yt:TF:=λds n Q=>∃e:End,ds=[qk e]/\Q (Vc (Je e)) n
theorem Qe(F:Fun K "least_of" "least_of" YA f fd):FnOk P w K mg base CX0 1 f fd ["low"] (spD K 1 Yt):=by
 refine Fun.okD F ZC (λI Y outer s H E G Z J=>(zq (wV (xF kz ku (zd 0) yc (xJ _)) (zA (xb yc)) xN)
  (zq (ZN (m:=3) (zd 0) (kH (k:=2) rfl rfl (wr (xp (i:=1) ZC.nd rfl (lo rfl) x4) (wr (xp (i:=2) ZC.nd rfl (lo rfl) x4) vI))))
  (zA (xb (Xi (vb (zd 2)) (zd 1) (ky (zd 1) zm))))))) ?_
 rintro ds n Q W ⟨e,rfl,q⟩
 rcases e with _ |⟨m,s⟩
 ·simp[startD,qk];exact q
 ·cases s<;>(simp[startD,qk];exact q)
noncomputable abbrev qX:Stmt:=top 7
noncomputable abbrev UU:List Str:=["high","number","shut"]
theorem qz:FnScope UU ["high"] (zV qX):=⟨rfl,rfl,rfl,x5,rfl,x5,x5⟩
noncomputable def qQ:TF:=λds n Q=>∃e:End,ds=[qk e]/\Q (Vc (zb2 e)) n
theorem WR(F:Fun K "greatest_of" "greatest_of" qX f fd):FnOk P w K mg base CX0 1 f fd ["high"] (spD K 1 qQ):=by
 refine Fun.okD F qz (λI Y outer s H E G Z J=>(zq (wV (xF kz ku (zd 0) yc (xJ _)) (zA (xb yc)) xN)
  (zq (ZN (m:=3) (zd 0) (kH (k:=2) rfl rfl (wr (xp (i:=1) qz.nd rfl (lo rfl) x4) (wr (xp (i:=2) qz.nd rfl (lo rfl) x4) vI))))
  (zA (xb (Xi (vb (zd 2)) (zd 1) (Vq (zd 1) zm))))))) ?_
 rintro ds n Q W ⟨e,rfl,q⟩
 rcases e with _ |⟨m,s⟩
 ·simp[startD,qk];exact q
 ·cases s<;>(simp[startD,qk];exact q)
noncomputable abbrev XS:Stmt:=top 10
noncomputable abbrev zw2:List Str:=["span","low","high"]
theorem Yw:FnScope zw2 ["span"] (zV XS):=⟨rfl,rfl,rfl,x5,rfl,x5,x5⟩
noncomputable def XH:TF:=λds n Q=>∃s:QA,ds=[qF s]/\Q (.tup [Vc (Je s.1),Vc (zb2 s.2)]) n
theorem ze5(F:Fun K "pair_of" "pair_of" XS f fd)(F_least_of:Fn P w K mg base "least_of" 1 1 Yt)(F_greatest_of:Fn P w K mg base "greatest_of" 1 1 qQ):FnOk P w K mg base CX0 2 f fd ["span"] (spD K 1 XH):=by
 refine Fun.okD F Yw (λJ Y outer s H E G Z I=>(zq (ZN (m:=3) (zd 0) (kH (k:=2) rfl rfl (wr (xp (i:=1) Yw.nd rfl (lo rfl) x4) (wr (xp (i:=2) Yw.nd rfl (lo rfl) x4) vI))))
  (zA (xb (wk (zb (xQ F_least_of (I.mono x4) rfl (zb (zd 1) zf)) (zb (xQ F_greatest_of (I.mono x4) rfl (zb (zd 2) zf)) zf))))))) ?_
 rintro ds n Q W ⟨s,rfl,q⟩;simp[startD,qF,We];exact⟨s.1,rfl,s.2,rfl,q⟩
end
theorem zN2{es:List D}{k:Int}{R:D->Prop}(I:0<=k)(h1:k<es.length)(h:∀d∈es,R d):Yi (.lst es) (.int k) R:=by
 obtain⟨d,e,m⟩:=WE I h1;exact zM2.mpr ⟨d,e,h d m⟩
theorem KA{js:List Int}{k:Int}{R:D->Prop}(lo hi:Int)(J:0<=k)(h1:k<js.length)(I:∀j∈js,lo<=j/\j<=hi)(h:∀j:Int,lo<=j->j<=hi->R (.int j)):Yi (.lst (js.map D.int)) (.int k) R:=by
 refine zN2 J (by simpa using h1) λd hd=>?_
 obtain⟨j,hj,rfl⟩:=zQ.mp hd;exact h j (I j hj).1 (I j hj).2
theorem YH(c:Nat):(JI 0 c).length=c:=by unfold JI;rw[zh,wY]
theorem Vl{c i:Nat}{d:D}(h:(JI 0 c)[i]?=some d):i<c/\d=.int (i:Int):=by
 have hi:i<c:=by have:=(zu.mp h).1;rw[YH] at this;exact this
 refine⟨hi,?_⟩;unfold JI at h;rw[zv,yb hi] at h;have:=zB h;rw[<- this];simp
theorem zu3{own:Nat}{g:TGD}{J:TD}{rho:Rho}{P:D->Nat->Prop}(items:List D)(I:Nat)(Good:D->D->Prop)(Y:items.length<=sizeLine)
  (he:∀(i:Nat) (d:D),items[i]?=some d->∀Q:D->Nat->Prop,(∀e,Good d e->Q e I)->g d (replicate own none++rho) λrho'=>rho'.drop own=rho/\J rho' I Q)
  (hP:∀es,Paired Good items es->P (.lst es) I):zb6 own g xg6 J rho P items I:=by
 refine⟨Y,λi acc n=>Paired Good (items.take i) acc/\n=I,⟨.nil,rfl⟩,?_,?_⟩
 ·rintro i d acc n e ⟨h1,rfl⟩;refine he i d e (λe W=>Paired Good (items.take (i+1)) (acc++[e])/\W=n) λc hg=>⟨?_,rfl⟩;rw[xI,e];exact Paired.snoc h1 hg
 ·rintro acc n ⟨h1,rfl⟩;rw[wy] at h1;exact hP acc h1
section
variable {P:Program}{w:World}{K:W.Frag}{mg:QqM}{base:Heap}{f:Addr}{fd:FuncData}
noncomputable abbrev ZL:Stmt:=top 33
noncomputable abbrev QG:List Str:=["_law_script","_law_k","_law_cell","_law_digits"]
theorem qu:FnScope QG ["_law_script","_law_k"] (zV ZL):=⟨rfl,rfl,rfl,x5,rfl,x5,x5⟩
noncomputable def zj1:TF:=λds n Q=>∃(ns:List Int) (j:Int),ds=[wu ns,.int j]/\ns.length<=63/\0<=j/\j<1000/\∀x y:Int,0<=x->0<=y->y<2147483647->Q (.lst [.int x,.int y,.int 0]) n
theorem zO9(T:Blt mg)(F:Fun K "_law_left" "_law_left" ZL f fd):FnOk P w K mg base CX0 1 f fd ["_law_script","_law_k"] (spD K 2 zj1):=by
 refine Fun.okD F qu (λae A0 outer s H E G Z hr=>(zq (wg (i:=2) qu.nd rfl (lo rfl) zm)
  (zq (wV (xF WP WN (xr xR vG T.len vB (zb (zd 0) zf)) zm (xJ _)) (zA (wg (i:=2) qu.nd rfl (lo rfl) (xV xn xU (zd 0) (qw (zd 1) (xr xR vG T.len vB (zb (zd 0) zf))) (λ_ _=>rfl)))) xN)
  (zq (wg (i:=3) qu.nd rfl (lo rfl) (jU (qw (xr zb9 zJ1 T.abs zJ3 (zb (zd 2) zf)) (Vr zm zm)) (wS WC Qr T.int Jt (zb (kw xb0 zW9 (xr zb9 zJ1 T.abs zJ3 (zb (zd 2) zf)) (Vr zm zm) (xJ _)) zf))))
  (zA (xb (vp (zb (zd 3) (zb (qw (jU (ky (ky (qw (zd 2) zm) (jU (jU zm (zd 1)) (zd 1))) zm) zm) zm) (zb zm zf)))))))))) ?_
 rintro ds n Q hl ⟨ns,j,rfl,Y,I,aa,q⟩;have W:∀{i j:Int},(-(2^64)<i/\i<2^64)->CMul i j:=λh=>.inl h;have cm':∀{i j:Int},(-(2^64)<j/\j<2^64)->CMul i j:=λh=>.inr h
 have h7:0<=7919*j*j:=Int.mul_nonneg x3 I
 have h8:7919*j*j<=7919*j*1000:=Int.mul_le_mul_of_nonneg_left x3 x3
 generalize hS:YG (Vk 3 _) _=S
 have cont:∀(x:Int) (F:EndsD),F.rt=Q->S F [some (wu ns),some (.int j),some (.int x),none] n:=λx F hF=>by
  subst hS;simp[hF]
  have ab:0<=(if x<0 then -x else x):=by split<;>lia
  have J:∀c:Prop,[Decidable c]->(0:Int)<=(if c then 1 else 0)/\(if c then 1 else 0)<(2:Int):=λc _=>by split<;>lia
  refine⟨⟨x4,x4,x4⟩,⟨x4,x4,x4⟩,cm' ⟨?_,?_⟩,W ⟨x4,x4⟩,W ⟨x3,x3⟩,cm' ⟨x4,x4⟩,q _ _ (Int.mul_nonneg (yx _ x4) (J _).1) (yx _ x4) (yo _ x4)⟩
  ·have:=(J (1000000000000000000<=if x<0 then -x else x)).1;lia
  ·have:=(J (1000000000000000000<=if x<0 then -x else x)).2;lia
 simp[startD,wu]
 split
 ·rename_i h
  refine⟨x3,?_⟩
  obtain⟨d,e,m⟩:=WE (xs:=ns.map D.int) (i:=j%ns.length) (yx _ x3) (by simpa using yo j x3)
  obtain⟨x,_,rfl⟩:=zQ.mp m;exact⟨_,e,cont x _ rfl⟩
 ·exact cont 0 _ rfl
noncomputable abbrev ZK:Stmt:=top 34
noncomputable abbrev QF:List Str:=["_law_left_here","_law_many","_law_digit"]
theorem YW:FnScope QF ["_law_left_here","_law_many"] (zV ZK):=⟨rfl,rfl,rfl,x5,rfl,x5,x5⟩
noncomputable def jt:TF:=λds n Q=>∃m:Int,ds=[.st,.int m]/\n=3/\0<m/\m<10000000/\∀k:Int,0<=k->k<m->Q (.int k) n
theorem zO7(F:Fun K "_law_pick" "_law_pick" ZK f fd):FnOk P w K mg base CX0 1 f fd ["_law_left_here","_law_many"] (spD K 2 jt):=by
 refine Fun.okD F YW (λae A0 outer s H E G Z hr=>(zq (wV (xF WP WN (jT (i:=0) zm (λ_ _=>rfl)) zm (xJ _)) (zq (wg (i:=2) YW.nd rfl (lo rfl) (qw (jT (i:=0) zm (λ_ _=>rfl)) (zd 1)))
  (zq (XY (i:=0) (Xa (jT (i:=0) zm (λ_ _=>rfl)) (zd 1)) zm)
  (zA (xb (zd 2))))) xN)
  (zq (XY (i:=0) (ky (jT (i:=0) zm (λ_ _=>rfl)) zm) zm)
  (zq (XY (i:=0) (qw (ky (ky (jU (jT (i:=0) zm (λ_ _=>rfl)) zm) zm) (jT (i:=0) zm (λ_ _=>rfl))) zm) zm)
  (zA (xb (qw (Xa (qw (jU (jT (i:=0) zm (λ_ _=>rfl)) (jT (i:=0) zm (λ_ _=>rfl))) zm) zm) (zd 1)))))))) ?_
 rintro ds n Q hl ⟨m,rfl,rfl,hm,aa,q⟩;have W:∀{i j:Int},(-(2^64)<i/\i<2^64)->CMul i j:=λh=>.inl h;simp[startD];intro z0 h0
 split
 ·intro z Y
  exact⟨hm,λz1 I=>⟨⟨hm,x3⟩,Int.ediv_nonneg I x3,q _ (yx _ x3) (yo _ hm)⟩⟩
 ·intro z Y
  refine⟨x3,λy hy J=>⟨W ⟨x3,x3⟩,λx hx=>⟨yx _ x4,yo _ x4,λy hy J z1 h1 h1'=>⟨W ⟨x3,x3⟩,⟨x4,x4⟩,hm,q _ (yx _ x3) (yo _ hm)⟩⟩⟩⟩
theorem xy{m:Int}{Q:D->Nat->Prop}(I:0<m)(h1:m<10000000)(h:∀k:Int,0<=k->k<m->Q (.int k) 3):jt [.st,.int m] 3 Q:=⟨m,rfl,rfl,I,h1,h⟩
end
noncomputable abbrev Thing:=Int × List Int × Int
noncomputable def wW(t:Thing):D:=.tup [.int t.1,vK t.2.1,.int t.2.2]
noncomputable def yq(d:Nat)(ts:List Thing):D:=.tup [.int d,.tup (ts.map wW)]
noncomputable def VX(x:Int):Prop:=-100000000000000000<=x/\x<=100000000000000000
noncomputable def zT9(x:Int):Prop:=-100000000000000002<=x/\x<=100000000000000002
structure GoodT(d:Nat)(ts:List Thing)(top:Int):Prop where
 each:∀t∈ts,0<=t.1/\t.1<top/\t.2.1.length=d/\(∀x∈t.2.1,VX x)/\VX t.2.2
 up:ts.Pairwise λa b=>a.1<b.1
theorem GoodT.nil(d:Nat)(top:Int):GoodT d [] top:=⟨by simp,.nil⟩
theorem GoodT.snoc{d:Nat}{ts:List Thing}{x top:Int}(h:GoodT d ts x)(hx:0<=x)(I:x<top){p:List Int}(W:p.length=d)(J:∀x∈p,VX x){y:Int}(hy:VX y):GoodT d (ts++[(x,p,y)]) top:=by
 refine⟨λt hm=>?_,?_⟩
 ·rcases zU.mp hm with hm | hm
  ·have := h.each t hm
   exact⟨this.1,x3,this.2.2⟩
  ·rw[xi.mp hm];exact⟨hx,I,W,J,hy⟩
 ·rw [List.pairwise_append]
  refine⟨h.up,by simp,λa ha b Y=>?_⟩
  rw[xi.mp Y];exact(h.each a ha).2.1
theorem GoodT.more{d:Nat}{ts:List Thing}{x top:Int}(h:GoodT d ts x)(I:x<=top):GoodT d ts top:=⟨λt hm=>by have:=h.each t hm;exact⟨this.1,x3,this.2.2⟩,h.up⟩
theorem GoodT.nodup{d:Nat}{ts:List Thing}{x:Int}(h:GoodT d ts x):(ts.map λt=>t.1).Nodup:=yC.mpr (h.up.imp λ{a b} h=>by lia)
theorem Xb{S:Int->Prop}:∀{l es:List D},Paired (λ_ e=>∃x:Int,S x/\e=.int x) l es->∃xs:List Int,es=xs.map D.int/\∀x∈xs,S x
 |_,_,.nil=>⟨[],rfl,by simp⟩
 |_,_,.cons r t=>by
  obtain⟨x,hx,rfl⟩:=r;obtain⟨xs,rfl,h⟩:=Xb t
  exact⟨x::xs,rfl,λy hy=>by rcases zt.mp hy with rfl |hy;exact hx;exact h y hy⟩
theorem zo5{a s:Int}(h1:-40<=a)(h2:a<=40)(h3:0<=s)(h4:s<=1000000000000000):VX (a*s):=by
 have J:=Int.mul_le_mul_of_nonneg_right h2 h3;have I:=Int.mul_le_mul_of_nonneg_right h1 h3
 exact⟨x3,x3⟩
theorem zn9(p:List Int)(k:Nat):okE (vK p) (k+1)=true:=jW.mpr λd hd=>by
 obtain⟨x,_,rfl⟩:=zQ.mp hd;exact jj
theorem zn8(t:Thing)(k:Nat):okE (wW t) (k+2)=true:=by
 refine jW.mpr λd hd=>?_;simp only[zt,zW,or_false] at hd
 rcases hd with rfl |rfl |rfl
 ·exact jj
 ·exact zn9 _ _
 ·exact jj
theorem Qi(ts:List Thing):okE (.lst (ts.map wW)) 20=true:=Qj.mpr λd hd=>by
 obtain⟨t,_,rfl⟩:=zQ.mp hd;exact zn8 t 17
theorem Jg{d:Nat}{ts:List Thing}{R:D->Prop}(h:R (.int d)):Yi (yq d ts) (.int 0) R:=⟨_,0,_,.inr (.inl rfl),rfl,rfl,h⟩
theorem zq9{d:Nat}{ts:List Thing}{R:D->Prop}(h:R (.tup (ts.map wW))):Yi (yq d ts) (.int 1) R:=⟨_,1,_,.inr (.inl rfl),rfl,rfl,h⟩
theorem Yl(d:Nat)(ts:List Thing):we (yq d ts)=true:=id rfl
structure JHs(d:Nat)(wd sc:Int)(i:Nat)(rho:Rho)(n:Nat):Prop where
 e:n=3
 r:∃(ts:List Thing) (x:Int) (a b c:Option D),ts.length=i/\0<=x/\x<=2+41*i/\GoodT d ts x/\rho=[some .st,some (.int d),some (.int wd),some (.int sc),some (.own (ts.map wW)),some (.int x),a,b,c]
section
variable {P:Program}{w:World}{K:W.Frag}{mg:QqM}{base:Heap}{f:Addr}{fd:FuncData}
noncomputable abbrev jM:Stmt:=top 35
noncomputable abbrev Zh:List Str:=["_law_left_here","_law_d","_law_wide","_law_scale","_law_things","_law_name","_law_k","_law_place","_law_far"]
theorem yL:FnScope Zh q6 (zV jM):=⟨rfl,rfl,rfl,x5,rfl,x5,x5⟩
theorem Wk:("_law_i" :: Zh:List Str).Nodup:=x5
noncomputable def JR:TF:=λds n Q=>ds=[.st]/\n=3/\∀(d:Nat) (ts:List Thing),1<=d->d<=4->GoodT d ts 2000->ts.length<=30->Q (yq d ts) 3
theorem zB4(T:Blt mg)(F:Fun K "_law_house" "_law_house" jM f fd)(Y_pick:Fn P w K mg base "_law_pick" 1 2 jt):FnOk P w K mg base CX0 2 f fd q6 (spD K 1 JR):=by
 refine Fun.okD F yL (λaC A0 outer s H E G Z I=>(zq (wg (i:=1) yL.nd rfl (lo rfl) (xV xn xU (vp (zb zm (zb zm (zb zm (zb zm (zb zm (zb zm zf))))))) (xQ Y_pick (I.mono x4) rfl (zb (zd 0) (zb zm zf))) (λ_ _=>rfl)))
  (zq (ZN (m:=9) (wk (zb (xV xn xU (vp (zb zm (zb zm (zb zm (zb zm (zb zm (zb zm zf))))))) (xQ Y_pick (I.mono x4) rfl (zb (zd 0) (zb zm zf))) (λ_ _=>rfl)) (zb (xV xn xU (vp (zb zm (zb zm (zb zm (zb (Vr zm zm) zf))))) (xQ Y_pick (I.mono x4) rfl (zb (zd 0) (zb zm zf))) (λ_ _=>rfl)) zf))) (kH (k:=2) rfl rfl (wr (xp (i:=2) yL.nd rfl (lo rfl) x4) (wr (xp (i:=3) yL.nd rfl (lo rfl) x4) vI))))
  (zq (zz5 (i:=4) (j:=5) rfl yL.nd rfl rfl x4 rfl rfl (λZ1 H1=>(xQ Y_pick (I.mono x4) rfl (zb (zd 0) (zb zm zf)))))
  (zq (ki (m:=9) PassesOwn.never rfl (qc T.range (zb (xV xn xU (vp (zb zm (zb zm (zb zm (zb zm (zb zm (zb zm (zb zm (zb zm (zb zm (zb zm zf))))))))))) (xQ Y_pick (I.mono x4) rfl (zb (zd 0) (zb zm zf))) (λ_ _=>rfl)) zf)) (xp (i:=6) yL.nd rfl (lo rfl) x4)
  (zq (wg (i:=7) yL.nd rfl (lo rfl) (wS yd vV T.tuple yF (zb (vD (own:=["_law_i"]) (M:=Zh) (vS (by rfl)) rfl (qc T.range (zb (zd 1) zf)) (λ_ _ _ _=>(xp (i:=0) Wk rfl (lo rfl) x4)) (λ_ _ _ _=>yM) (λ_ _ _ _=>(jU (Vq (xQ Y_pick (I.mono x4) rfl (zb (zd 1) (zb (ky (jU zm (zd 3)) zm) zf))) (zd 3)) (zd 4)))) zf)))
  (zq (wV (PWD.pt (qb (Kz (i:=4) I rfl) (qv (xF jy jx (xQ Y_pick (I.mono x4) rfl (zb (zd 0) (zb zm zf))) zm (xJ _))))) (zA (wg (i:=7) yL.nd rfl (lo rfl) (xV xn xU (zA2 (i:=4) (xQ Y_pick (I.mono x4) rfl (zb (zd 0) (zb (KD (i:=4) T.len rfl) zf))) (λ_ _=>rfl)) zm (λ_ _=>rfl)))) xN)
  (zq (wg (i:=8) yL.nd rfl (lo rfl) (xV xn xU (vp (zb (Vr zm zm) (zb (KF (Vr zm zm)) zf))) (xQ Y_pick (I.mono x4) rfl (zb (zd 0) (zb zm zf))) (λ_ _=>rfl)))
  (zq (kb (i:=4) (zb (wk (zb (zd 5) (zb (zd 7) (zb (xV xn xU (vp (zb (Vq (xQ Y_pick (I.mono x4) rfl (zb (zd 0) (zb zm zf))) zm) (zb (Vq (xQ Y_pick (I.mono x4) rfl (zb (zd 0) (zb zm zf))) zm) (zb (zd 8) zf)))) (xQ Y_pick (I.mono x4) rfl (zb (zd 0) (zb zm zf))) (λ_ _=>rfl)) zf)))) zf) rfl)
  (zA (wg (i:=5) yL.nd rfl (lo rfl) (ky (ky (zd 5) zm) (xV xn xU (vp (zb zm (zb zm (zb zm (zb zm (zb zm zf)))))) (xQ Y_pick (I.mono x4) rfl (zb (zd 0) (zb zm zf))) (λ_ _=>rfl))))))))))
  (zA (je 4 (xb (wk (zb (zd 1) (zb (wS yd vV T.tuple yF (zb (zd 4) zf)) zf))))))))))) ?_
 rintro ds n Q hl ⟨rfl,rfl,q⟩;simp[startD]
 refine xy x4 x4 λk h0 h1=>KA (js:=[1,2,2,3,3,4]) 1 4 h0 (by simpa using h1) x4 λdd az ay=>?_
 obtain⟨d,rfl⟩:=zZ (show 0<=dd by lia)
 refine xy x4 x4 λk2 h2 h3=>KA (js:=[1,2,3,5,9,40]) 1 40 h2 (by simpa using h3) x4 λwd ap ao=>⟨⟨x4,x4,x4⟩,?_⟩
 refine xy x4 x4 λk3 h4 h5=>KA (js:=[1,1,3,1000000000000000]) 1 1000000000000000 h4 (by simpa using h5) x4 λsc aq ah=>⟨rfl,?_⟩
 refine xy x4 x4 λx0 ae ak=>⟨xY x4,?_⟩
 refine xy x4 x4 λk4 h6 h7=>KA (js:=[0,1,2,3,4,6,8,12,20,30]) 0 30 h6 (by simpa using h7) x4 λc aB aA=>?_
 refine⟨c,rfl,x3,x3,JHs d wd sc,⟨rfl,[],x0,none,none,none,rfl,ae,x3,GoodT.nil d _,rfl⟩,?_,?_⟩
 ·rintro i d' rho n' e ⟨rfl, ts, x, u, v, z, Y, af, aa, hg, rfl⟩;obtain⟨hi,rfl⟩:=Vl e;generalize hS:YG (Vk 8 _) _=S
  have cont:∀(p:List Int) (F:EndsD),F.nx=JHs d wd sc (i+1)->p.length=d->(∀y∈p,VX y) ->
    S F [some .st,some (.int d),some (.int wd),some (.int sc),some (.own (ts.map wW)),some (.int x),some (.int i),some (vK p),z] 3:=λp F hF hp J=>by
   subst hS;have np:we (vK p)=true:=id rfl;simp[np,hF]
   refine⟨⟨x4,x4,x4⟩,xy x4 x4 λj1 g0 g1=>KA (js:=[100000000000000000,-100000000000000000]) (-100000000000000000) 100000000000000000 g0 (by simpa using g1) x4 λfr ax aw=>⟨lt_size x3,?_⟩⟩
   refine xy x4 x4 λw1 g2 g3=>?_
   simp
   refine xy x4 x4 λw2 g4 g5=>?_
   simp
   refine xy x4 x4 λw3 g6 g7=>?_
   have ai:∀R:D->Prop,(∀y:Int,VX y->R (.int y))->Yi (.lst [.int (w1-2),.int (w2-500),.int fr]) (.int w3) R:=λR hR=>zN2 g6 (by simpa using g7) λdd ag=>by
    simp only[zt,zW,or_false] at ag
    rcases ag with rfl |rfl |rfl
    ·exact hR _ ⟨x3,x3⟩
    ·exact hR _ ⟨x3,x3⟩
    ·exact hR _ ⟨x3,x3⟩
   refine ai _ λy hy=>?_
   refine xy x4 x4 λw4 g8 g9=>KA (js:=[0,0,1,7,40]) 0 40 g8 (by simpa using g9) x4 λm av ar=>?_
   simp
   exact⟨rfl,ts++[(x,p,y)],x+1+m,_,_,_,by simp[Y],x3,x3,hg.snoc af x3 hp J hy,by rw[xx];rfl⟩
  simp
  refine⟨x3,zu3 (JI 0 d) 3 (λ_ e=>∃x:Int,VX x/\e=.int x) (by rw[YH];exact xY x3) (λj d2 e2 Q' hQ'=>?_) (λes hp=>?_)⟩
  ·simp
   refine⟨.inl ⟨x4,x4⟩,xy x3 x3 λk g0 g1=>?_⟩
   simp
   exact⟨.inl ⟨x3,x3⟩,hQ' _ ⟨_,zo5 x3 x3 x3 ah,rfl⟩⟩
  ·have W := hp.length;rw[YH] at W;obtain⟨ps,rfl,J⟩:=Xb hp;rw[zh] at W;simp;refine⟨Qi ts,?_⟩
   split
   ·exact cont ps _ rfl x3 J
   ·rename_i aj
    have am:0<ts.length:=by
     cases ts with
     |nil=>exact absurd rfl aj
     |cons t r=>simp
    refine xy x4 x4 λk g0 g1=>?_
    simp
    split
    ·refine xy x3 x3 λk4 g5 g6 => ?_
     obtain⟨y,ey,my⟩:=WE (xs:=ts.map wW) (i:=k4) g5 (by simp;lia)
     obtain⟨⟨y1,p1,w1⟩,ht',rfl⟩:=zQ.mp my;have he:=hg.each _ ht';refine⟨_,rfl,_,ey,?_⟩;refine⟨_,_,vK p1,.inr (.inl rfl),rfl,rfl,?_⟩;exact cont p1 _ rfl he.2.2.1 he.2.2.2.1
    ·exact cont ps _ rfl x3 J
 ·rintro rho n' ⟨rfl, ts, x, u, v, z, Y, af, aa, hg, rfl⟩;rw[YH] at Y aa;simp
  exact q d ts x3 x3 (hg.more x3) x3
noncomputable abbrev qZ:Stmt:=top 36
noncomputable abbrev jq:List Str:=["_law_left_here","_law_house_here","_law_i","_law_numbers"]
theorem Zq:FnScope jq q16 (zV qZ):=⟨rfl,rfl,rfl,x5,rfl,x5,x5⟩
theorem Xj:("_law_thing" :: jq:List Str).Nodup:=x5
noncomputable def Xs:TF:=λds n Q=>∃(d i:Nat) (ts:List Thing),ds=[.st,yq d ts,.int i]/\n=3/\i<d/\GoodT d ts 2000/\ts.length<=30/\∀x:Int,zT9 x->Q (.int x) 3
theorem zm9(T:Blt mg)(F:Fun K "_law_number" "_law_number" qZ f fd)(Y_pick:Fn P w K mg base "_law_pick" 1 2 jt):FnOk P w K mg base CX0 2 f fd q16 (spD K 3 Xs):=by
 refine Fun.okD F Zq (λah A0 outer s H E G Z Y=>(zq (wg (i:=3) Zq.nd rfl (lo rfl) (kT KI Kx (vD (own:=["_law_thing"]) (M:=jq) (vS (by rfl)) rfl (vk rfl (xV xn xU (zd 1) zm (λ_ _=>rfl))) (λC W H2 fp=>(xp (i:=0) Xj rfl (lo rfl) x4)) (λC W H2 fp=>yM) (λC W H2 fp=>(xV xn xU (xV xn xU (zd 0) zm (λ_ _=>rfl)) (zd 3) (λ_ _=>rfl)))) (vp (zb zm zf))))
  (zA (xb (ky (xV xn xU (zd 3) (xQ Y_pick (Y.mono x4) rfl (zb (zd 0) (zb (xr xR vG T.len vB (zb (zd 3) zf)) zf))) (λ_ _=>rfl)) (xV xn xU (vp (zb zm (zb zm (zb zm (zb zm (zb (KF zm) (zb zm zf))))))) (xQ Y_pick (Y.mono x4) rfl (zb (zd 0) (zb zm zf))) (λ_ _=>rfl))))))) ?_
 rintro ds n Q hl ⟨d,i,ts,rfl,rfl,hi,hg,hz,q⟩;have nh:=Yl d ts;simp[startD,nh];refine zq9 ?_;simp
 refine yi wW (λt=>.int (t.2.1[i]?.getD 0)) ts (xY x3) (λt I R hR=>?_) ?_
 ·have nt : we (wW t) = true := id rfl;have he:=hg.each t I;simp[nt];refine⟨_,1,_,.inr (.inl rfl),rfl,rfl,?_⟩
  exact⟨_,_,_,.inr (.inl rfl),rfl,qH (by rw[zv,ze x3];rfl),by simpa [ze (show i<t.2.1.length by lia)] using hR⟩
 ·simp
  refine⟨xY x3,xy x3 x3 λk h0 h1=>zN2 h0 (by simpa using h1) λdd J=>?_⟩
  obtain⟨x,hx,rfl⟩:∃x:Int,VX x/\dd=.int x:=by
   rcases zU.mp J with h |h
   ·obtain ⟨t, I, rfl⟩ := zQ.mp h;have he:=hg.each t I;refine⟨_,?_,rfl⟩
    rw[ze (show i<t.2.1.length by lia)]
    exact he.2.2.2.1 _ (wz _)
   ·rw[xi.mp h];exact⟨0,⟨x3,x3⟩,rfl⟩
  refine xy x4 x4 λk2 h2 h3=>KA (js:=[0,0,0,1,-1,2]) (-1) 2 h2 (by simpa using h3) x4 λm ag af=>?_
  simp;obtain⟨ae,aa⟩:=hx
  exact q _ ⟨x3,x3⟩
theorem Xd{d i:Nat}{ts:List Thing}{Q:D->Nat->Prop}(hi:i<d)(J:GoodT d ts 2000)(I:ts.length<=30)(h:∀x:Int,zT9 x->Q (.int x) 3):Xs [.st,yq d ts,.int i] 3 Q:=⟨d,i,ts,rfl,rfl,hi,J,I,h⟩
noncomputable def zP7(e:End):Prop:=∀x s,e=some (x,s)->zT9 x
noncomputable def xc7(b:List QA):Prop:=∀s∈b,zP7 s.1/\zP7 s.2
structure JBx(d:Nat)(ts:List Thing)(i:Nat)(rho:Rho)(n:Nat):Prop where
 e:n=3
 r:∃(b:List QA) (u v y z:Option D),b.length=i/\xc7 b/\rho=[some .st,some (yq d ts),some (.own (b.map qF)),u,v,y,z]
noncomputable abbrev YF:Stmt:=top 37
noncomputable abbrev zh2:List Str:=["_law_left_here","_law_house_here","_law_spans","_law_i","_law_one","_law_other","_law_low"]
theorem kE:FnScope zh2 q3 (zV YF):=⟨rfl,rfl,rfl,x5,rfl,x5,x5⟩
noncomputable def zK3:TF:=λds n Q=>∃(d:Nat) (ts:List Thing),ds=[.st,yq d ts]/\n=3/\d<=4/\GoodT d ts 2000/\ts.length<=30/\∀b:List QA,b.length=d->xc7 b->Q (vQ b) 3
theorem QX{x k:Int}{R:D->Prop}(hx:zT9 x)(J:0<=k)(h1:k<4)(h:∀e:End,zP7 e->R (qk e)):Yi (.lst [.non,.tup [.int x,.bl true],.tup [.int x,.bl false],.tup [.int x,.bl true]]) (.int k) R:=
 zN2 J (by simpa using h1) λW I=>by
  simp only[zt,zW,or_false] at I
  rcases I with rfl |rfl |rfl |rfl
  ·exact h none λx s e=>by cases e
  ·exact h (some (x,true)) λx s e=>by cases e;exact hx
  ·exact h (some (x,false)) λx s e=>by cases e;exact hx
  ·exact h (some (x,true)) λx s e=>by cases e;exact hx
theorem xb8(T:Blt mg)(F:Fun K "_law_box" "_law_box" YF f fd)(Y_pick:Fn P w K mg base "_law_pick" 1 2 jt)(Y_number:Fn P w K mg base "_law_number" 2 3 Xs):FnOk P w K mg base CX0 3 f fd q3 (spD K 2 zK3):=by
 refine Fun.okD F kE (λaf A0 outer s H E G Z hr=>(zq (ZP (i:=2) kE.nd rfl (lo rfl) zf)
  (zq (ki (m:=7) PassesOwn.never rfl (qc T.range (zb (xV xn xU (zd 1) zm (λ_ _=>rfl)) zf)) (xp (i:=3) kE.nd rfl (lo rfl) x4)
  (zq (QW (i:=4) (j:=5) rfl kE.nd rfl rfl x4 rfl rfl (zb (xQ Y_number (hr.mono x4) rfl (zb (zd 0) (zb (zd 1) (zb (zd 3) zf)))) (zb (xQ Y_number (hr.mono x4) rfl (zb (zd 0) (zb (zd 1) (zb (zd 3) zf)))) zf)))
  (zq (wV (PWD.pt (qb (xF WP WN (zd 4) (zd 5) (xJ _)) (qv (xF WP WN (xQ Y_pick (hr.mono x4) rfl (zb (zd 0) (zb zm zf))) zm (xJ _))))) (zA (QW (i:=4) (j:=5) rfl kE.nd rfl rfl x4 rfl rfl (zb (zd 5) (zb (zd 4) zf)))) xN)
  (zq (wg (i:=6) kE.nd rfl (lo rfl) (xV xn xU (vp (zb yc (zb (wk (zb (zd 4) (zb kU zf))) (zb (wk (zb (zd 4) (zb kU zf))) (zb (wk (zb (zd 4) (zb kU zf))) zf))))) (xQ Y_pick (hr.mono x4) rfl (zb (zd 0) (zb zm zf))) (λ_ _=>rfl)))
  (zA (kb (i:=2) (zb (wk (zb (zd 6) (zb (xV xn xU (vp (zb yc (zb (wk (zb (zd 5) (zb kU zf))) (zb (wk (zb (zd 5) (zb kU zf))) (zb (wk (zb (zd 5) (zb kU zf))) zf))))) (xQ Y_pick (hr.mono x4) rfl (zb (zd 0) (zb zm zf))) (λ_ _=>rfl)) zf))) zf) rfl))))))
  (zA (je 2 (xb (wS yd vV T.tuple yF (zb (zd 2) zf)))))))) ?_
 rintro ds n Q hl ⟨d,ts,rfl,rfl,ae,hg,hz,q⟩;have nh:=Yl d ts;simp[startD,nh];refine Jg ?_
 refine⟨d,rfl,x3,x3,JBx d ts,⟨rfl,[],none,none,none,none,rfl,λs hs=>by simp at hs,rfl⟩,?_,?_⟩
 ·rintro i d' rho n' e ⟨rfl, b, u, v, y, z, hb, hn, rfl⟩;obtain⟨hi,rfl⟩:=Vl e
  replace hi:i<d:=by simpa using hi
  generalize hS:YG (Vk 6 _) _=S
  have cont:∀(J I:Int) (F:EndsD),F.nx=JBx d ts (i+1)->zT9 J->zT9 I ->
    S F [some .st,some (yq d ts),some (.own (b.map qF)),some (.int i),some (.int J),some (.int I),z] 3:=λJ I F hF h1 h2=>by
   subst hS;simp[hF]
   refine xy x4 x4 λk g0 g1=>QX h1 g0 g1 λe1 n1=>?_
   have aa:=We e1;simp[aa]
   refine⟨lt_size x3,xy x4 x4 λk g0 g1=>QX h2 g0 g1 λe2 n2=>?_⟩
   refine⟨rfl,b++[(e1,e2)],_,_,_,_,by simp[hb],λs hs=>?_,by rw[xx];rfl⟩
   rcases zU.mp hs with h |h
   ·exact hn s h
   ·rw[xi.mp h];exact⟨n1,n2⟩
  simp[nh];refine Xd hi hg hz λJ Y=>?_;refine Xd hi hg hz λI W=>?_;simp
  split
  ·refine xy x4 x4 λk g0 g1 => ?_
   simp
   split
   ·exact cont I J _ rfl W Y
   ·exact cont J I _ rfl Y W
  ·exact cont J I _ rfl Y W
 ·rintro rho n' ⟨rfl, b, u, v, y, z, hb, hn, rfl⟩;rw[YH] at hb;simp
  exact q b (by simpa using hb) hn
end
noncomputable abbrev Pair:=Option Int × Option Int
noncomputable def xT(p:Pair):D:=.tup [Vc p.1,Vc p.2]
noncomputable def zK(ps:List Pair):D:=.tup (ps.map xT)
noncomputable def crossedT:Pair->Bool
 |(some l,some g)=>decide (g<l)
 |_=>false
noncomputable def emptyP:Pair:=(some 1,some 0)
noncomputable def wP(ps:List Pair):List Pair:=if ps.any crossedT then ps.map (λ_=>emptyP) else ps
noncomputable def ZQ(s:QA):Pair:=(Je s.1,zb2 s.2)
noncomputable def vh(b:List QA):List Pair:=wP (b.map ZQ)
@[simp] theorem xg1:Vc none=.non:=rfl
@[simp] theorem xg0{i:Int}:Vc (some i)=.int i:=rfl
section
variable {P:Program}{w:World}{K:W.Frag}{mg:QqM}{base:Heap}{f:Addr}{fd:FuncData}
noncomputable abbrev jF:Stmt:=top 11
noncomputable abbrev Jy:List Str:=["pair","least","greatest"]
theorem qU:FnScope Jy ["pair"] (zV jF):=⟨rfl,rfl,rfl,x5,rfl,x5,x5⟩
noncomputable def jD:TF:=λds n Q=>∃p:Pair,ds=[xT p]/\Q (.bl (crossedT p)) n
theorem Ut(F:Fun K "is_crossed" "is_crossed" jF f fd):FnOk P w K mg base CX0 1 f fd ["pair"] (spD K 1 jD):=by
 refine Fun.okD F qU (λI Y outer s H E G Z J=>(zq (ZN (m:=3) (zd 0) (kH (k:=2) rfl rfl (wr (xp (i:=1) qU.nd rfl (lo rfl) x4) (wr (xp (i:=2) qU.nd rfl (lo rfl) x4) vI))))
  (zA (xb (qx (kw qC qB (zd 1) yc (xJ _)) (qx (kw qC qB (zd 2) yc (xJ _)) (qL (kw WP WN (zd 1) (zd 2) (xJ _))))))))) ?_
 rintro ds n Q W ⟨⟨lo,hi⟩,rfl,q⟩
 rcases lo with _ |lo<;>rcases hi with _ |hi<;>simp[startD,xT]<;>exact q
noncomputable abbrev XR:Stmt:=top 12
noncomputable abbrev Zf:List Str:=["pairs"]
theorem zd0:FnScope Zf ["pairs"] (zV XR):=⟨rfl,rfl,rfl,x5,rfl,x5,x5⟩
theorem KT:("pair" :: Zf:List Str).Nodup:=x5
theorem KS:("pair" :: Zf:List Str).Nodup:=x5
noncomputable def Yc:TF:=λds n Q=>∃(ps:List Pair) (d:D),ds=[d]/\(d=.lst (ps.map xT)\/d=zK ps)/\ps.length<=1000/\Q (zK (wP ps)) n
theorem ze4(T:Blt mg)(G_EMPTY_PAIR:zU1 K mg "EMPTY_PAIR" (.tup [.int 1,.int 0]))(F:Fun K "settled" "settled" XR f fd)(F_is_crossed:Fn P w K mg base "is_crossed" 1 1 jD):FnOk P w K mg base CX0 2 f fd ["pairs"] (spD K 1 Yc):=by
 refine Fun.okD F zd0 (λae A0 outer s H E G Z hr=>(zq (wV (vb (xr (UM rfl) zu1 T.any zv3 (zb (vD (own:=["pair"]) (M:=Zf) (vS (by rfl)) rfl (vk rfl (zd 0)) (λC I H2 Y=>(xp (i:=0) KT rfl (lo rfl) x4)) (λC I H2 Y=>yM) (λC I H2 Y=>(xQ F_is_crossed (hr.mono x4) rfl (zb (zd 0) zf)))) zf))) (zA (xb (wS yd vV T.tuple yF (zb (vD (own:=["pair"]) (M:=Zf) (vS (by rfl)) rfl (vk rfl (zd 0)) (λC I H2 Y=>(xp (i:=0) KS rfl (lo rfl) x4)) (λC I H2 Y=>yM) (λC I H2 Y=>(zm2 G_EMPTY_PAIR rfl))) zf)))) xN)
  (zA (xb (wS yd vV T.tuple yF (zb (zd 0) zf)))))) ?_
 rintro ds n Q hl ⟨ps,d,rfl,hd,hz,q⟩
 have aa:we d=true:=by rcases hd with rfl |rfl<;>rfl
 have J:ps.length<=sizeLine:=xY hz;have W:∀R:List D->Prop,R (ps.map xT)->∃es,(d=.lst es\/d=.tup es)/\R es:=λR h=>⟨_,hd,h⟩;simp[startD,aa];refine W _ (yi xT (λp=>.bl (crossedT p)) ps J (λx hx R hR=>?_) ?_)
 ·simp[xT];exact⟨x,rfl,hR⟩
 ·refine ⟨ps.map crossedT, by rw [xg]; rfl, ?_⟩
  simp;unfold wP at q
  by_cases h:ps.any crossedT
  ·simp only [h, if_true];rw[if_pos h] at q;refine W _ (yi xT (λp=>.tup [.int 1,.int 0]) ps J (λx hx R hR=>?_) ?_)
   ·simp;exact hR
   ·simp
    have e:zK (ps.map λ_=>emptyP)=.tup (ps.map λ_=>.tup [.int 1,.int 0]):=by unfold zK;rw[xg];rfl
    rw[e] at q
    simpa using q
  ·rw [if_neg h] at q;simp only[h]
   rcases hd with rfl |rfl
   ·simp;exact q
   ·unfold zK;simp;exact q
noncomputable abbrev ZE:Stmt:=top 13
noncomputable abbrev ZX:List Str:=["box"]
theorem Kn:FnScope ZX ["box"] (zV ZE):=⟨rfl,rfl,rfl,x5,rfl,x5,x5⟩
theorem WV:("span" :: ZX:List Str).Nodup:=x5
noncomputable def Zx:TF:=λds n Q=>∃b:List QA,ds=[vQ b]/\b.length<=1000/\Q (zK (vh b)) n
theorem KJ(F:Fun K "plain_box" "plain_box" ZE f fd)(F_pair_of:Fn P w K mg base "pair_of" 2 1 XH)(F_settled:Fn P w K mg base "settled" 2 1 Yc):FnOk P w K mg base CX0 3 f fd ["box"] (spD K 1 Zx):=by
 refine Fun.okD F Kn (λaa A0 outer s H E G Z W=>(zA (xb (xQ F_settled (W.mono x4) rfl (zb (vD (own:=["span"]) (M:=ZX) (vS (by rfl)) rfl (vk rfl (zd 0)) (λC I H2 Y=>(xp (i:=0) WV rfl (lo rfl) x4)) (λC I H2 Y=>yM) (λC I H2 Y=>(xQ F_pair_of (W.mono x4) rfl (zb (zd 0) zf)))) zf))))) ?_
 rintro ds n Q hl ⟨b,rfl,J,q⟩;have nb:we (vQ b)=true:=rfl;simp[startD,nb];refine⟨b.map qF,.inr rfl,yi qF (λs=>xT (ZQ s)) b (xY J) (λx hx R hR=>?_) ?_⟩
 ·simp[qF];exact⟨x,rfl,hR⟩
 ·exact⟨b.map ZQ,_,rfl,.inl (by rw[xg];rfl),by simpa using J,q⟩
end
noncomputable def maxO:Option Int->Option Int->Option Int
 |none,o=>o
 |some a,none=>some a
 |some a,some b=>some (if b > a then b else a)
noncomputable def minO:Option Int->Option Int->Option Int
 |none,o=>o
 |some a,none=>some a
 |some a,some b=>some (if b<a then b else a)
noncomputable def commonP(p q:Pair):Pair:=(maxO p.1 q.1,minO p.2 q.2)
noncomputable def ql(ps I:List Pair):List Pair:=wP (List.zipWith commonP ps I)
noncomputable def ke(ps I:List Pair):Bool:=match ql ps I with |[]=>false |p::_=>crossedT p
noncomputable def vg(ps I:List Pair):Bool:=decide (ql ps I=ps)
noncomputable def xy3(ps:List Pair)(p:List Int):Bool:=(List.zipWith (λq x=>zQ6 q.1 q.2 x) ps p).all id
theorem zv9{α β:Type}{f:α->β->Bool}:∀{l:List α}{r:List β},(List.zipWith f l r).all id=true↔∀(i:Nat) a b,l[i]?=some a->r[i]?=some b->f a b=true
 |[],r=>by simp
 |a::l,[]=>by simp
 | a :: l, b :: r => by
  have I:=zv9 (f:=f) (l:=l) (r:=r);simp only[List.zipWith_cons_cons,yD,zE,I]
  constructor
  ·rintro ⟨h1, h2⟩ i x y hx hy
   cases i with
   |zero=>simp at hx hy;subst hx;subst hy;exact h1
   |succ i=>exact h2 i x y (by simpa using hx) (by simpa using hy)
  ·intro h
   exact⟨h 0 a b rfl rfl,λi x y hx hy=>h (i+1) x y (by simpa using hx) (by simpa using hy)⟩
theorem VI{α:Type}{f:α->Bool}{l:List α}:l.any f=true↔∃(i:Nat) (a:α),l[i]?=some a/\f a=true:=by
 rw[yh]
 constructor
 ·rintro⟨x,hx,h⟩;obtain⟨i,hi⟩:=ym.mp hx;exact⟨i,x,hi,h⟩
 ·rintro⟨i,a,hi,h⟩;exact⟨a,xk hi,h⟩
theorem JU(ps:List Pair):(wP ps).length=ps.length:=by unfold wP;split<;>simp
theorem vW{ps:List Pair}(h:¬ ps.any crossedT=true):wP ps=ps:=by unfold wP;rw[if_neg h]
theorem kC{ps:List Pair}(h:ps.any crossedT=true):wP ps=replicate ps.length emptyP:=by
 unfold wP;rw[if_pos h,<- List.map_const']
theorem VZ(ps:List Pair):wP (wP ps)=wP ps:=by
 by_cases h:ps.any crossedT=true
 ·rw [kC h]
  by_cases h2:(replicate ps.length emptyP).any crossedT=true
  ·rw[kC h2,wm]
  ·rw[vW h2]
 ·rw[vW h,vW h]
theorem zJ7{ps I:List Pair}{i:Nat}{c:Pair}(h:(List.zipWith commonP ps I)[i]?=some c):∃p q,ps[i]?=some p/\I[i]?=some q/\c=commonP p q:=by
 rw[List.getElem?_zipWith] at h
 cases J:ps[i]? with
 |none=>rw[J] at h;simp at h
 |some p=>
  cases W:I[i]? with
  |none=>rw[J,W] at h;simp at h
  |some q=>rw[J,W] at h;exact⟨p,q,rfl,rfl,(by simpa using h.symm)⟩
theorem XF{ps I:List Pair}{i:Nat}{p q:Pair}(W:ps[i]?=some p)(J:I[i]?=some q):(List.zipWith commonP ps I)[i]?=some (commonP p q):=by
 rw[List.getElem?_zipWith,W,J]
theorem zv6{α β:Type}{l:List α}{r:List β}(h:l.length=r.length){i:Nat}{a:α}(e:l[i]?=some a):∃b,r[i]?=some b:=by
 have hi:=(zu.mp e).1
 exact⟨r[i],ze x3⟩
theorem zR9{ps:List Pair}{p:List Int}:xy3 ps p=true↔∀(i:Nat) (q:Pair) (x:Int),ps[i]?=some q->p[i]?=some x->zQ6 q.1 q.2 x=true:=zv9
theorem Yq{ps I:List Pair}(Y:ps.length=I.length)(h1:1<=ps.length):ke ps I=(List.zipWith commonP ps I).any crossedT:=by
 unfold ke ql
 by_cases J:(List.zipWith commonP ps I).any crossedT=true
 ·rw [kC J, J]
  obtain⟨k,hk⟩:∃k,(List.zipWith commonP ps I).length=k+1:=⟨ps.length-1,by rw[length_zipWith];lia⟩
  rw[hk];rfl
 ·rw [vW J]
  cases W:List.zipWith commonP ps I with
  |nil=>rfl
  | cons c r =>
   rw[W] at J;show crossedT c=(c::r).any crossedT
   cases h:crossedT c with
   |false=>
    cases h2:(c::r).any crossedT with
    |false=>rfl
    |true=>exact(J h2).elim
   |true=>exact(J (by simp[h])).elim
theorem zi1{bs I:List Pair}(Y:bs.length=I.length)(h:∀(i:Nat) b q,bs[i]?=some b->I[i]?=some q->commonP b q=b)(hc:¬ bs.any crossedT=true):ql bs I=bs:=by
 have e:List.zipWith commonP bs I=bs:=by
  apply List.ext_getElem?;intro i;rw[List.getElem?_zipWith]
  cases W:bs[i]? with
  |none=>simp
  |some b=>
   obtain⟨q,J⟩:=zv6 Y W;rw[J];simp[h i b q W J]
 unfold ql;rw[e,vW hc]
theorem Zv(q:Pair):crossedT (commonP q emptyP)=true:=by
 obtain⟨a,b⟩:=q
 rcases a with _ |a<;>rcases b with _ |b<;>simp[commonP,maxO,minO,crossedT,emptyP]<;>(try split)<;>(try split)<;>lia
theorem zi0{ps I:List Pair}(h:ql ps I=ps):vg ps I=true:=by unfold vg;exact xC h
theorem kj(b:List QA):wP (vh b)=vh b:=VZ _
theorem xw6(o:Option Int)(k:Nat):okE (Vc o) k=true:=by cases o<;>simp[okE]
theorem ji(p:Pair)(k:Nat):okE (xT p) (k+1)=true:=jW.mpr λd hd=>by
 simp only[zt,zW,or_false] at hd
 rcases hd with rfl |rfl<;>exact xw6 _ _
theorem KO(ps:List Pair)(k:Nat):okE (zK ps) (k+2)=true:=jW.mpr λd hd=>by
 obtain⟨p,_,rfl⟩:=zQ.mp hd;exact ji p k
theorem xy8(a b:Option Int):eqD (Vc a) (Vc b)=decide (a=b):=by
 rcases a with _ |a<;>rcases b with _ |b<;>simp[eqD]
 rfl
theorem XB(p q:Pair):eqD (xT p) (xT q)=decide (p=q):=by
 obtain⟨a,b⟩:=p;obtain⟨c,d⟩:=q;unfold xT;simp only[eqD,jz,xy8,Bool.and_true];rw[wR];simp
theorem VD:∀ps I:List Pair,jz (ps.map xT) (I.map xT)=decide (ps=I)
 |[],[]=>by simp[jz]
 |[],q::I=>by simp[jz]
 |p::ps,[]=>by simp[jz]
 |p::ps,q::I=>by
  simp only[al_List_map_cons,jz,XB,VD ps I];rw[wR];simp
theorem zs1(ps I:List Pair):eqD (zK ps) (zK I)=decide (ps=I):=by
 unfold zK;simp only[eqD,VD]
section
variable {P:Program}{w:World}{K:W.Frag}{mg:QqM}{base:Heap}{f:Addr}{fd:FuncData}
noncomputable abbrev jG:Stmt:=top 14
noncomputable abbrev Jz:List Str:=["one","other"]
theorem Ub:FnScope Jz q0 (zV jG):=⟨rfl,rfl,rfl,x5,rfl,x5,x5⟩
noncomputable def jE:TF:=λds n Q=>∃a b:Option Int,ds=[Vc a,Vc b]/\Q (Vc (maxO a b)) n
theorem Uu(T:Blt mg)(F:Fun K "greater_of" "greater_of" jG f fd):FnOk P w K mg base CX0 1 f fd q0 (spD K 2 jE):=by
 refine Fun.okD F Ub (λI Y outer s H E G Z J=>(zq (wV (PWD.pt (kW (xF kz ku (zd 0) yc (xJ _)) (qa (xF kz ku (zd 1) yc (xJ _))))) (zA (xb (Xi (xF kz ku (zd 0) yc (xJ _)) (zd 1) (zd 0)))) xN)
  (zA (xb (xr (Jr rfl) zu0 T.max zv2 (zb (zd 0) (zb (zd 1) zf))))))) ?_
 rintro ds n Q W ⟨a,b,rfl,q⟩
 rcases a with _ |a<;>rcases b with _ |b<;>simp[startD]<;>exact q
noncomputable abbrev ZF:Stmt:=top 15
noncomputable abbrev QB:List Str:=["one","other"]
theorem Ko:FnScope QB q0 (zV ZF):=⟨rfl,rfl,rfl,x5,rfl,x5,x5⟩
noncomputable def Zz:TF:=λds n Q=>∃a b:Option Int,ds=[Vc a,Vc b]/\Q (Vc (minO a b)) n
theorem KL(T:Blt mg)(F:Fun K "lesser_of" "lesser_of" ZF f fd):FnOk P w K mg base CX0 1 f fd q0 (spD K 2 Zz):=by
 refine Fun.okD F Ko (λI Y outer s H E G Z J=>(zq (wV (PWD.pt (kW (xF kz ku (zd 0) yc (xJ _)) (qa (xF kz ku (zd 1) yc (xJ _))))) (zA (xb (Xi (xF kz ku (zd 0) yc (xJ _)) (zd 1) (zd 0)))) xN)
  (zA (xb (xr (Jq rfl) zt9 T.min zv1 (zb (zd 0) (zb (zd 1) zf))))))) ?_
 rintro ds n Q W ⟨a,b,rfl,q⟩
 rcases a with _ |a<;>rcases b with _ |b<;>simp[startD]<;>exact q
noncomputable abbrev qY:Stmt:=top 16
noncomputable abbrev UV:List Str:=["one","other"]
theorem WM:FnScope UV q0 (zV qY):=⟨rfl,rfl,rfl,x5,rfl,x5,x5⟩
noncomputable def qR:TF:=λds n Q=>∃p q:Pair,ds=[xT p,xT q]/\Q (xT (commonP p q)) n
theorem WS(F:Fun K "common_pair" "common_pair" qY f fd)(F_greater_of:Fn P w K mg base "greater_of" 1 2 jE)(F_lesser_of:Fn P w K mg base "lesser_of" 1 2 Zz):FnOk P w K mg base CX0 2 f fd q0 (spD K 2 qR):=by
 refine Fun.okD F WM (λJ Y outer s H E G Z I=>(zA (xb (wk (zb (xQ F_greater_of (I.mono x4) rfl (zb (xV xn xU (zd 0) zm (λ_ _=>rfl)) (zb (xV xn xU (zd 1) zm (λ_ _=>rfl)) zf))) (zb (xQ F_lesser_of (I.mono x4) rfl (zb (xV xn xU (zd 0) zm (λ_ _=>rfl)) (zb (xV xn xU (zd 1) zm (λ_ _=>rfl)) zf))) zf)))))) ?_
 rintro ds n Q W ⟨p,p',rfl,q⟩;simp[startD,xT];refine⟨p.1,p'.1,rfl,?_⟩;simp;refine⟨p.2,p'.2,rfl,?_⟩;simp;exact q
theorem zF5(b:List Pair)(p:List Pair):JJ (b.map xT) (p.map xT)=(b.zip p).map λx=>.tup [xT x.1,xT x.2]:=by
 unfold JJ;rw[List.zipWith_map,List.map_zip_eq_zipWith];rfl
noncomputable abbrev Uj:Stmt:=top 17
noncomputable abbrev UW:List Str:=["one","other"]
theorem zk1:FnScope UW q0 (zV Uj):=⟨rfl,rfl,rfl,x5,rfl,x5,x5⟩
theorem Wg:("mine" :: "yours" :: UW:List Str).Nodup:=x5
noncomputable def VS:TF:=λds n Q=>∃ps I:List Pair,ds=[zK ps,zK I]/\ps.length<=1000/\Q (zK (ql ps I)) n
theorem zn5(T:Blt mg)(F:Fun K "common" "common" Uj f fd)(F_settled:Fn P w K mg base "settled" 2 1 Yc)(F_common_pair:Fn P w K mg base "common_pair" 2 2 qR):FnOk P w K mg base CX0 3 f fd q0 (spD K 2 VS):=by
 refine Fun.okD F zk1 (λaa A0 outer s H E G Z W=>(zA (xb (xQ F_settled (W.mono x4) rfl (zb (vD (own:=["mine","yours"]) (M:=UW) (vS (by rfl)) rfl (Qd rfl T.zip (zb (zd 0) (zb (zd 1) zf))) (λC J H2 Y=>(kH (k:=2) rfl rfl (wr (xp (i:=0) Wg rfl (lo rfl) x4) (wr (xp (i:=1) Wg rfl (lo rfl) x4) vI)))) (λC J H2 Y=>yM) (λC J H2 Y=>(xQ F_common_pair (W.mono x4) rfl (zb (zd 0) (zb (zd 1) zf))))) zf))))) ?_
 rintro ds n Q hl ⟨ps,I,rfl,hz,q⟩;have n1:we (zK ps)=true:=rfl;have n2:we (zK I)=true:=rfl;simp[startD,n1,n2];refine(XX (d1:=zK ps) (d2:=zK I) rfl rfl).mpr ?_;rw[zF5]
 refine yi (λx=>.tup [xT x.1,xT x.2]) (λx:Pair × Pair=>xT (commonP x.1 x.2)) (ps.zip I) (zy (by rw[length_zip];lia) (xY (k:=1000) x3)) (λx hx R hR=>?_) ?_
 ·have n3:we (xT x.1)=true:=rfl;have n4:we (xT x.2)=true:=rfl;simp[n3,n4];exact⟨x.1,x.2,rfl,hR⟩
 ·refine ⟨List.zipWith commonP ps I, _, rfl, .inl ?_, by rw [List.length_zipWith]; lia, q⟩
  have e:List.zipWith commonP ps I=(ps.zip I).map λx=>commonP x.1 x.2:=by rw[List.map_zip_eq_zipWith];rfl
  rw[e,xg];rfl
noncomputable abbrev qW:Stmt:=top 18
noncomputable abbrev UT:List Str:=["one","other"]
theorem WL:FnScope UT q0 (zV qW):=⟨rfl,rfl,rfl,x5,rfl,x5,x5⟩
noncomputable def qP:TF:=λds n Q=>∃ps I:List Pair,ds=[zK ps,zK I]/\ps.length<=1000/\Q (.bl (vg ps I)) n
theorem WQ(F:Fun K "lies_within" "lies_within" qW f fd)(F_common:Fn P w K mg base "common" 3 2 VS):FnOk P w K mg base CX0 4 f fd q0 (spD K 2 qP):=by
 refine Fun.okD F WL (λaa A0 outer s H E G Z W=>(zA (xb (kw (Vs W) (Vm rfl) (xQ F_common (W.mono x4) rfl (zb (zd 0) (zb (zd 1) zf))) (zd 0) (xJ _))))) ?_
 rintro ds n Q hl ⟨ps,I,rfl,hz,q⟩;have J:we (zK ps)=true:=rfl;have n2:we (zK I)=true:=rfl;simp[startD,J,n2];refine⟨ps,I,rfl,hz,?_⟩;have o1:=KO (ql ps I) 18;have Y:=KO ps 18;simp[J,o1,Y,zs1];exact q
noncomputable def Kb(I:QqI)(i:Nat):List Int:=I.map λq=>q[i]?.getD 0
theorem Uo(m:Nat):JI 0 m=(List.range m).map λi=>.int (i:Int):=by unfold JI;simp
theorem YR:∀{ns:List Int},0<ns.length->∃M,M∈ns/\∀a∈ns,M<=a
 |[x],_=>⟨x,by simp,by simp⟩
 |x::y::r,_=>by
  obtain⟨M,h1,h2⟩:=YR (ns:=y::r) (by simp)
  by_cases h:x<=M
  ·exact⟨x,by simp,λa ha=>by rcases zt.mp ha with rfl |ha;exact Int.le_refl _;have:=h2 a ha;lia⟩
  ·exact⟨M,zG _ h1,λa ha=>by rcases zt.mp ha with rfl |ha;lia;exact h2 a ha⟩
theorem YS:∀{ns:List Int},0<ns.length->∃M,M∈ns/\∀a∈ns,a<=M
 |[x],_=>⟨x,by simp,by simp⟩
 |x::y::r,_=>by
  obtain⟨M,h1,h2⟩:=YS (ns:=y::r) (by simp)
  by_cases h:M<=x
  ·exact⟨x,by simp,λa ha=>by rcases zt.mp ha with rfl |ha;exact Int.le_refl _;have:=h2 a ha;lia⟩
  ·exact⟨M,zG _ h1,λa ha=>by rcases zt.mp ha with rfl |ha;lia;exact h2 a ha⟩
open Classical in
noncomputable def zw5(ns:List Int):Int:=if h:∃M,M∈ns/\∀a∈ns,M<=a then choose h else 0
open Classical in
noncomputable def zw6(ns:List Int):Int:=if h:∃M,M∈ns/\∀a∈ns,a<=M then choose h else 0
theorem Wq{ns:List Int}(h:∃M,M∈ns/\∀a∈ns,M<=a):zw5 ns∈ns/\∀a∈ns,zw5 ns<=a:=by unfold zw5;rw[dif_pos h];exact Classical.choose_spec h
theorem Wr{ns:List Int}(h:∃M,M∈ns/\∀a∈ns,a<=M):zw6 ns∈ns/\∀a∈ns,a<=zw6 ns:=by unfold zw6;rw[dif_pos h];exact Classical.choose_spec h
theorem zo8{ns:List Int}{M:Int}(h1:M∈ns)(h2:∀a∈ns,M<=a):M=zw5 ns:=by
 obtain⟨h3,h4⟩:=Wq ⟨M,h1,h2⟩;have:=h2 _ h3;have:=h4 _ h1;lia
theorem zp2{ns:List Int}{M:Int}(h1:M∈ns)(h2:∀a∈ns,a<=M):M=zw6 ns:=by
 obtain⟨h3,h4⟩:=Wr ⟨M,h1,h2⟩;have:=h2 _ h3;have:=h4 _ h1;lia
theorem zf2{ns:List Int}{k:D->Prop}(h:0<ns.length)(q:k (.int (zw5 ns))):xd9 [.lst (ns.map D.int)] k:=⟨ns,rfl,h,λM h1 h2=>by rw[zo8 h1 h2];exact q⟩
theorem zf3{ns:List Int}{k:D->Prop}(h:0<ns.length)(q:k (.int (zw6 ns))):xe1 [.lst (ns.map D.int)] k:=⟨ns,rfl,h,λM h1 h2=>by rw[zp2 h1 h2];exact q⟩
end
theorem UK(xs:List D)(b:Nat)(I:b<=xs.length):Xq xs (some (b:Int)) none=xs.drop b:=by
 unfold Xq
 rw[HT.Qa,HT.Ul,Nat.min_eq_left I,wK (by rw[wj];lia)]
theorem zt4(xs:List D)(e:Nat)(I:e<=xs.length):Xq xs none (some (e:Int))=xs.take e:=by
 unfold Xq;rw[HT.Qa,HT.Ul,Nat.min_eq_left I,vf,Nat.sub_zero]
structure GoodU(d:Nat)(ts:List Thing):Prop where
 each:∀t∈ts,t.2.1.length=d
 nd:(ts.map λt=>t.1).Nodup
theorem GoodT.u{d:Nat}{ts:List Thing}{x:Int}(h:GoodT d ts x):GoodU d ts:=⟨λt I=>(h.each t I).2.2.1,h.nodup⟩
theorem GoodU.perm{d:Nat}{ts I:List Thing}(h:GoodU d ts)(p:I.Perm ts):GoodU d I:=⟨λt J=>h.each t (p.mem_iff.mp J),(p.map _).nodup_iff.mpr h.nd⟩
theorem GoodU.sub{d:Nat}{ts I:List Thing}(h:GoodU d ts)(p:I.Sublist ts):GoodU d I:=⟨λt J=>h.each t (p.mem J),(p.map _).nodup h.nd⟩
noncomputable def zP9(t:Thing):Key:=Sum.inl t.1
noncomputable def byN(ts:List Thing):D:=.dct (ts.map zP9) (ts.map wW)
@[simp] theorem xF6(ts:List Thing):we (byN ts)=true:=id rfl
noncomputable def xc8(ts:List Thing):D:=.tup (ts.map λt=>.int t.1)
@[simp] theorem xc6(ts:List Thing):we (xc8 ts)=true:=id rfl
@[simp] theorem xc5(ps:List Pair):we (zK ps)=true:=id rfl
@[simp] theorem xc4(p:List Int):we (vK p)=true:=id rfl
@[simp] theorem xc3(t:Thing):we (wW t)=true:=id rfl
noncomputable def jB(d:Nat)(I:QqI):List Pair:=(List.range d).map λi=>(some (zw5 (Kb I i)),some (zw6 (Kb I i)))
inductive Tr where
 |one (name:Int) (bd:List Pair)
 |two (ns:List Int) (bd:List Pair) (low high:Tr)
noncomputable def yO:Tr->D
 |.one x bd=>.tup [.tup [.int x],zK bd,.non,.non]
 |.two ns bd l h=>.tup [.tup (ns.map D.int),zK bd,yO l,yO h]
theorem yT(t:Tr):we (yO t)=true:=by cases t<;>rfl
section
variable {P:Program}{w:World}{K:W.Frag}{mg:QqM}{base:Heap}{f:Addr}{fd:FuncData}
end
inductive TreeOf(d:Nat):List Thing->Tr->Prop where
  |one {t:Thing}:t.2.1.length=d->TreeOf d [t] (.one t.1 (jB d [t.2.1]))
  |two {ts ls hs:List Thing}{ns:List Int}{low high:Tr}:(ls++hs).Perm ts->ns.Perm (ts.map λt=>t.1)->ns.Pairwise (·<=·)->TreeOf d ls low->TreeOf d hs high->TreeOf d ts (.two ns (jB d (ts.map λt=>t.2.1)) low high)
theorem TreeOf.ne{d:Nat}{ts:List Thing}{tr:Tr}(h:TreeOf d ts tr):1<=ts.length:=by
 induction h with
 |one=>simp
 |two p _ _ _ _ h1 h2=>have:=p.length_eq;rw[zr] at this;lia
theorem TreeOf.lens{d:Nat}{ts:List Thing}{tr:Tr}(h:TreeOf d ts tr):∀t∈ts,t.2.1.length=d:=by
 induction h with
 |one h=>intro t I;rw[xi.mp I];exact h
 |two p _ _ _ _ h1 h2=>
  intro t I
  rcases zU.mp (p.mem_iff.mpr I) with h |h
  ·exact h1 t h
  ·exact h2 t h
noncomputable def vM:Tr->List Pair
 |.one _ bd=>bd
 |.two _ bd _ _=>bd
noncomputable def vc:Tr->List Int
 |.one x _=>[x]
 |.two ns _ _ _=>ns
theorem TreeOf.bd{d:Nat}{ts:List Thing}{tr:Tr}(h:TreeOf d ts tr):vM tr=jB d (ts.map λt=>t.2.1):=by cases h<;>rfl
noncomputable def zh7(ts:List Thing)(i:Nat):List Int:=Kb (ts.map λt=>t.2.1) i
theorem Qv(ts:List Thing)(i:Nat):zh7 ts i=ts.map λt=>t.2.1[i]?.getD 0:=by unfold zh7 Kb;rw[xg];rfl
noncomputable def loN(ts:List Thing)(i:Nat):Int:=zw5 (zh7 ts i)
noncomputable def hiN(ts:List Thing)(i:Nat):Int:=zw6 (zh7 ts i)
theorem zc1{d i:Nat}(ts:List Thing)(hi:i<d):(jB d (ts.map λt=>t.2.1))[i]?=some (some (loN ts i),some (hiN ts i)):=by
 unfold jB;rw[zv,yb hi];rfl
theorem ko(d:Nat)(I:QqI):(jB d I).length=d:=by unfold jB;rw[zh,wY]
theorem XC{ts:List Thing}{i:Nat}(h:1<=ts.length):0<(zh7 ts i).length:=by rw[Qv,zh];exact h
theorem zp5{ts:List Thing}{i:Nat}(h:1<=ts.length){x:Int}(hx:x∈zh7 ts i):loN ts i<=x:=(Wq (YR (XC h))).2 x hx
theorem zH6{ts:List Thing}{i:Nat}(h:1<=ts.length){x:Int}(hx:x∈zh7 ts i):x<=hiN ts i:=(Wr (YS (XC h))).2 x hx
theorem zQ4{ts:List Thing}{i:Nat}(h:1<=ts.length):loN ts i∈zh7 ts i:=(Wq (YR (XC h))).1
theorem zr1{ts:List Thing}{i:Nat}(h:1<=ts.length):hiN ts i∈zh7 ts i:=(Wr (YS (XC h))).1
theorem zQ5{ts:List Thing}{i:Nat}(h:1<=ts.length):loN ts i<=hiN ts i:=zp5 h (zr1 h)
theorem zb7{ls ts:List Thing}{i:Nat}(h:∀t∈ls,t∈ts){x:Int}(hx:x∈zh7 ls i):x∈zh7 ts i:=by
 rw[Qv] at hx ⊢;obtain⟨t,I,e⟩:=zQ.mp hx;exact zQ.mpr ⟨t,h t I,e⟩
theorem zQ3{ls ts:List Thing}{i:Nat}(h:∀t∈ls,t∈ts)(h1:1<=ls.length)(h2:1<=ts.length):loN ts i<=loN ls i/\hiN ls i<=hiN ts i:=
 ⟨zp5 h2 (zb7 h (zQ4 h1)),zH6 h2 (zb7 h (zr1 h1))⟩
noncomputable def jw(bd I:List Pair):Str:=if ke bd I=true then "out" else if vg bd I=true then "in" else "cut"
noncomputable abbrev Seen:=List Int × Tr × Str
noncomputable def kh(J:List Pair):List Int->Tr->List Seen
 |p,.one x bd=>[(p,.one x bd,jw bd J)]
 |p,.two ns bd W I=>(p,.two ns bd W I,jw bd J)::(if jw bd J = "cut" then kh J (p++[0]) W++kh J (p++[1]) I else [])
noncomputable def Yv:Tr->Nat
 |.one _ _=>1
 |.two _ _ J I=>1+Yv J+Yv I
noncomputable def Za:Tr->Nat
 |.one _ _=>0
 |.two _ _ J I=>1+max (Za J) (Za I)
theorem Ua(I:List Pair):∀(p:List Int) (t:Tr),(kh I p t).length<=Yv t
 |p,.one _ _=>by simp[kh,Yv]
 |p,.two _ bd l h=>by
  unfold kh Yv;rw[zL]
  split
  ·rw[zr];have:=Ua I (p++[0]) l;have:=Ua I (p++[1]) h;lia
  ·simp;lia
theorem TreeOf.size{d:Nat}{ts:List Thing}{tr:Tr}(h:TreeOf d ts tr):Yv tr+1=2*ts.length:=by
 induction h with
 |one=>rfl
 |two p _ _ _ _ h1 h2=>have:=p.length_eq;rw[zr] at this;unfold Yv;lia
theorem zm8{d:Nat}(hd:1<=d){p:List Int}(hp:p.length=d){pl:List Pair}(hl:pl.length=d):jw (jB d [p]) pl ≠ "cut" := by
 unfold jw
 by_cases ha:ke (jB d [p]) pl=true
 ·rw[if_pos ha];decide
 ·rw [if_neg ha]
  have hw:vg (jB d [p]) pl=true:=by
   rw[Yq (by rw[ko,hl]) (by rw[ko];exact hd)] at ha
   have pt:∀(i:Nat) (b:Pair),(jB d [p])[i]?=some b->∃x:Int,b=(some x,some x):=λi b Y=>by
    unfold jB at Y;rw[zv] at Y
    by_cases hi:i<d
    ·rw [yb hi] at Y;have e1:Kb [p] i=[p[i]?.getD 0]:=rfl
     have m1:zw5 (Kb [p] i)=p[i]?.getD 0:=(zo8 (ns:=Kb [p] i) (by rw[e1];simp) (by rw[e1];simp)).symm
     have m2:zw6 (Kb [p] i)=p[i]?.getD 0:=(zp2 (ns:=Kb [p] i) (by rw[e1];simp) (by rw[e1];simp)).symm
     refine⟨p[i]?.getD 0,?_⟩;rw[<- zB Y];show(some (zw5 (Kb [p] i)),some (zw6 (Kb [p] i)))=_;rw[m1,m2]
    ·rw[List.getElem?_eq_none (by simp;lia)] at Y;cases Y
   refine zi0 (zi1 (by rw[ko,hl]) (λi b q Y hq=>?_) λhc=>?_)
   ·obtain ⟨x, rfl⟩ := pt i b Y
    have I:crossedT (commonP (some x,some x) q)=false:=by
     cases aa:crossedT (commonP (some x,some x) q) with
     |false=>rfl
     |true=>exact absurd (VI.mpr ⟨i,_,XF Y hq,aa⟩) ha
    obtain⟨a,b⟩:=q
    cases a with
    | none => cases b with
     |none=>rfl
     |some g=>
      simp[commonP,maxO,minO,crossedT] at I ⊢
      by_cases W:g<x
      ·rw[if_pos W] at I;lia
      ·exact λh=>absurd h W
    | some l => cases b with
     |none=>
      simp[commonP,maxO,minO,crossedT] at I ⊢
      by_cases W:x<l
      ·rw[if_pos W] at I;lia
      ·exact λh=>absurd h W
     | some g =>
      simp[commonP,maxO,minO,crossedT] at I ⊢
      constructor
      ·by_cases W : x < l
       ·rw [if_pos W] at I
        by_cases J:g<x
        ·rw[if_pos J] at I;lia
        ·rw[if_neg J] at I;lia
       ·exact λh=>absurd h W
      ·by_cases J : g < x
       ·rw [if_pos J] at I
        by_cases W:x<l
        ·rw[if_pos W] at I;lia
        ·rw[if_neg W] at I;lia
       ·exact λh=>absurd h J
   ·obtain⟨i,b,Y,aa⟩:=VI.mp hc;obtain⟨x,rfl⟩:=pt i b Y;simp[crossedT] at aa
  rw[if_pos hw];decide
inductive Walk(d:Nat)(pl:List Pair):Tr->Prop where
 |one {x:Int}{bd:List Pair}:bd.length=d->jw bd pl ≠ "cut" -> Walk d pl (.one x bd)
 |two {ns:List Int}{bd:List Pair}{low high:Tr}:bd.length=d->Walk d pl low->Walk d pl high->Walk d pl (.two ns bd low high)
theorem TreeOf.walk{d:Nat}(hd:1<=d){I:List Pair}(J:I.length=d){ts:List Thing}{tr:Tr}(h:TreeOf d ts tr):Walk d I tr:=by
 induction h with
 |one h=>exact .one (ko _ _) (zm8 hd h J)
 |two _ _ _ _ _ h1 h2=>exact .two (ko _ _) h1 h2
theorem Walk.bd{d:Nat}{I:List Pair}{t:Tr}(h:Walk d I t):(vM t).length=d:=by cases h<;>assumption
theorem zE2(t:Tr):∃a b,yO t=.tup [.tup ((vc t).map D.int),zK (vM t),a,b]/\we a=true/\we b=true:=by
 cases t with
 |one x bd=>exact⟨_,_,rfl,rfl,rfl⟩
 |two ns bd l h=>exact⟨_,_,rfl,yT l,yT h⟩
theorem Zm(b:List QA):(vh b).length=b.length:=by unfold vh;rw[JU,zh]
section
variable {P:Program}{w:World}{K:W.Frag}{mg:QqM}{base:Heap}{f:Addr}{fd:FuncData}
end
noncomputable def xF7(i:Nat)(t:Thing):SRow:=⟨.n (t.2.1[i]?.getD 0),t.1,[]⟩
structure JBd(d:Nat)(ts:List Thing)(i:Nat)(rho:Rho)(n:Nat)(n0:Nat):Prop where
 e:n=n0
 r:∃(u v:Option D),rho=[some (.lst (ts.map wW)),some (.lst (ts.map λt=>vK t.2.1)),some (.own (((jB d (ts.map λt=>t.2.1)).map xT).take i)),u,v]
section
variable {P:Program}{w:World}{K:W.Frag}{mg:QqM}{base:Heap}{f:Addr}{fd:FuncData}
noncomputable abbrev jb:Stmt:=top 38
noncomputable abbrev kq:List Str:=["_law_things","_law_places","_law_edges","_law_i","_law_numbers"]
theorem vO:FnScope kq ["_law_things"] (zV jb):=⟨rfl,rfl,rfl,x5,rfl,x5,x5⟩
theorem Xl:("_law_thing" :: kq:List Str).Nodup:=x5
theorem Xk:("_law_place" :: kq:List Str).Nodup:=x5
noncomputable def zK1:TF:=λds n Q=>∃(d:Nat) (ts:List Thing),ds=[.lst (ts.map wW)]/\d<=4/\(∀t∈ts,t.2.1.length=d)/\1<=ts.length/\ts.length<=60/\Q (zK (jB d (ts.map λt=>t.2.1))) n
theorem xb5(T:Blt mg)(F:Fun K "_law_bounds" "_law_bounds" jb f fd):FnOk P w K mg base CX0 1 f fd ["_law_things"] (spD K 1 zK1):=by
 refine Fun.okD F vO (λae A0 outer s H E G Z hr=>(zq (ZO (i:=1) vO.nd rfl (lo rfl) (own:=["_law_thing"]) (M:=kq) (vS (by rfl)) rfl (vk rfl (zd 0)) (λC W H2 fp=>(xp (i:=0) Xl rfl (lo rfl) x4)) (λC W H2 fp=>yM) (λC W H2 fp=>(xV xn xU (zd 0) zm (λ_ _=>rfl))))
  (zq (ZP (i:=2) vO.nd rfl (lo rfl) zf)
  (zq (ki (m:=5) PassesOwn.never rfl (qc T.range (zb (xr xR vG T.len vB (zb (xV xn xU (zd 1) zm (λ_ _=>rfl)) zf)) zf)) (xp (i:=3) vO.nd rfl (lo rfl) x4)
  (zq (ZO (i:=4) vO.nd rfl (lo rfl) (own:=["_law_place"]) (M:=kq) (vS (by rfl)) rfl (vk rfl (zd 1)) (λC W H2 fp=>(xp (i:=0) Xk rfl (lo rfl) x4)) (λC W H2 fp=>yM) (λC W H2 fp=>(xV xn xU (zd 0) (zd 4) (λ_ _=>rfl))))
  (zA (kb (i:=2) (zb (wk (zb (xr (zu9 rfl) zS3 T.min zv1 (zb (zd 4) zf)) (zb (xr (zv0 rfl) zS4 T.max zv2 (zb (zd 4) zf)) zf))) zf) rfl))))
  (zA (je 2 (xb (wS yd vV T.tuple yF (zb (zd 2) zf))))))))) ?_
 rintro ds n Q hl ⟨d,ts,rfl,hd,I,h1,aa,q⟩;generalize Y:YG (zW2 2 _) _=Rr;simp[startD]
 refine yi wW (λt=>vK t.2.1) ts (xY x3) (λt ht R Y=>?_) ?_
 ·simp;exact⟨_,1,_,.inr (.inl rfl),rfl,rfl,Y⟩
 ·subst Y;simp
  obtain⟨J,r0,e0⟩:∃J r0,ts=J::r0:=by cases ts with |nil=>simp at h1 |cons a b=>exact⟨a,b,rfl⟩
  have m0:J∈ts:=by rw[e0];simp
  have hk:∀k:D->Prop,k (.int d)->zD4 [vK J.2.1] k:=λk h=>by unfold vK;rw[Ur,zh,I J m0];exact h
  refine⟨vK J.2.1,qH (j:=0) (by rw[e0];rfl),hk _ ⟨d,rfl,x3,x3,?_⟩⟩
  refine⟨λi rho n'=>JBd d ts i rho n' n,⟨rfl,none,none,rfl⟩,?_,?_⟩
  ·rintro i d' rho n' e ⟨rfl, u, v, rfl⟩;obtain⟨hi,rfl⟩:=Vl e
   replace hi:i<d:=by simpa using hi
   have ec:(ts.map λt=>D.int (t.2.1[i]?.getD 0))=(Kb (ts.map λt=>t.2.1) i).map D.int:=by unfold Kb;rw[xg,xg];rfl
   have hc:0<(Kb (ts.map λt=>t.2.1) i).length:=by unfold Kb;rw[zh,zh];exact h1
   have hb:(jB d (ts.map λt=>t.2.1))[i]?=some (some (zw5 (Kb (ts.map λt=>t.2.1) i)),some (zw6 (Kb (ts.map λt=>t.2.1) i))):=by unfold jB;rw[zv,yb hi];rfl
   generalize hS:Um 2 _=S;simp
   refine yi (λt:Thing=>vK t.2.1) (λt=>.int (t.2.1[i]?.getD 0)) ts (xY x3) (λt ht R Y=>?_) ?_
   ·simp;unfold vK;rw[zk7];refine⟨.int (t.2.1[i]?.getD 0),qH ?_,Y⟩
    rw[zv,ze (by rw[I t ht];exact hi)]
    rfl
   ·rw [ec];subst hS;simp
    refine⟨lt_size (by rw[ko];lia),zf2 hc (zf3 hc ⟨rfl,some (.int i),some (.lst ((Kb (ts.map λt=>t.2.1) i).map D.int)),?_⟩)⟩
    rw[xI,zv,hb];rfl
  ·rintro rho n' ⟨rfl, u, v, rfl⟩;rw[YH];simp
   rw[wK (by rw[zh,ko];exact zi _)]
   exact q
noncomputable abbrev ka:Stmt:=top 39
noncomputable abbrev Zi:List Str:=["_law_left_here","_law_d","_law_things","_law_turn","_law_names","_law_i","_law_row","_law_cut","_law_low"]
theorem vt:FnScope Zi q7 (zV ka):=⟨rfl,rfl,rfl,x5,rfl,x5,x5⟩
theorem Wl:("_law_thing" :: Zi:List Str).Nodup:=x5
noncomputable def XJ:Nat->TF
 |0=>λ_ _ _=>False
 |j+1=>λds n Q=>∃(d:Nat) (ts:List Thing) (k:Int),ds=[.st,.int d,.lst (ts.map wW),.int k]/\n=3/\1<=d/\d<=4/\GoodU d ts/\1<=ts.length/\ts.length<=60/\ts.length<=j+1/\∀tr:Tr,TreeOf d ts tr->Q (yO tr) n
theorem zB5{f c Pt:Addr}{fd:FuncData}(T:Blt mg)(F:Fun K "_law_grown" "_law_grown" ka f fd)(ap:W.nsIn K mainGlobals "_law_grown" = some (some (.ref f)))(ai:W.tabIn K "_law_grown" = some (c,Pt))(LB:LamBase base mg c Pt)(hm:mg "_law_grown" = some (.ref f))(hk:W.keepIn K (.ref f)=true)(hb:Binds K fd ["_law_left_here","_law_d","_law_things","_law_turn"] [])(Y_pick:Fn P w K mg base "_law_pick" 1 2 jt)(Y_bounds:Fn P w K mg base "_law_bounds" 1 1 zK1):∀j:Nat,FnOk P w K mg base CX0 (j+4) f fd q7 (spD K 4 (XJ j)):=by
  intro j
  induction j with
  |zero=>exact FnOk.botK λds n Q h=>h
  | succ j ih =>
    have Y_grown:Fn P w K mg base "_law_grown" (j+4) 4 (XJ j):=⟨f,fd,_,ih,hm,hk,hb⟩
    have TI:qr K Pt (("_law_grown" ++ ".<locals>.") ++ "<lambda>"):=⟨"_law_grown",by simp[qE],c,ai,rfl⟩
    refine Fun.okL F ap ai vt (λA0 outer s H E G Z J=>(zq (wg (i:=4) vt.nd rfl (lo rfl) (wS yd vV T.tuple yF (zb (xr Qx zt8 T.sorted Yp (zb (vD (own:=["_law_thing"]) (M:=Zi) (vS (by rfl)) rfl (vk rfl (zd 2)) (λ_ _ _ _=>(xp (i:=0) Wl rfl (lo rfl) x4)) (λ_ _ _ _=>yM) (λ_ _ _ _=>(xV xn xU (zd 0) zm (λ_ _=>rfl)))) zf)) zf)))
    (zq (wV (xF jy jx (xr xR vG T.len vB (zb (zd 2) zf)) zm (xJ _)) (zA (xb (wk (zb (zd 4) (zb (xQ Y_bounds (J.mono x3) rfl (zb (zd 2) zf)) (zb yc (zb yc zf))))))) xN)
    (zq (wg (i:=5) vt.nd rfl (lo rfl) (xV xn xU (vp (zb (qw (zd 3) (zd 1)) (zb (xQ Y_pick (J.mono x3) rfl (zb (zd 0) (zb (zd 1) zf))) zf))) (xQ Y_pick (J.mono x3) rfl (zb (zd 0) (zb zm zf))) (λ_ _=>rfl)))
    (zq (wg (i:=6) vt.nd rfl (lo rfl) (zd9 (N:=["_law_thing","_law_i"]) (p := "_law_thing") (clos:=[("_law_i",s.heap.objs.size+1)]) (caps:=[5]) (k:=0) TI rfl T.sorted (J.mono x3) (zb (zd 2) zf) LB (zC9 (by rfl) zE9) (Caps.one rfl rfl rfl) (λA1 f1 c1 s1 H1 G1 Z1 J=>(wk (zb (xV xn xU (xV xn xU (zd 0) zm (λ_ _=>rfl)) (zd 1) (λ_ _=>rfl)) (zb (xV xn xU (zd 0) zm (λ_ _=>rfl)) zf))))))
    (zq (wV (xF jy jx (xQ Y_pick (J.mono x3) rfl (zb (zd 0) (zb zm zf))) zm (xJ _)) (zA (wg (i:=6) vt.nd rfl (lo rfl) (kT KI Kx (xw1 rfl (zd 6)) (xw2 rfl (zd 6))))) xN)
    (zq (wg (i:=7) vt.nd rfl (lo rfl) (xV xn xU (vp (zb (Xa (ky (xr xR vG T.len vB (zb (zd 6) zf)) zm) zm) (zb (ky zm (xQ Y_pick (J.mono x3) rfl (zb (zd 0) (zb (Vq (xr xR vG T.len vB (zb (zd 6) zf)) zm) zf)))) zf))) (xQ Y_pick (J.mono x3) rfl (zb (zd 0) (zb zm zf))) (λ_ _=>rfl)))
    (zq (wg (i:=8) vt.nd rfl (lo rfl) (xQ Y_grown J rfl (zb (zd 0) (zb (zd 1) (zb (zH0 rfl (zd 6) kJ (kI (zd 7))) (zb (ky (zd 3) zm) zf))))))
    (zA (xb (wk (zb (zd 4) (zb (xQ Y_bounds (J.mono x3) rfl (zb (zd 2) zf)) (zb (zd 8) (zb (xQ Y_grown J rfl (zb (zd 0) (zb (zd 1) (zb (zH0 rfl (zd 6) (kI (zd 7)) kJ) (zb (ky (zd 3) zm) zf))))) zf))))))))))))))) ?_
    rintro ds n Q hl ⟨d,ts,kt,rfl,rfl,am,hd,hg,h1,ax,hj,q⟩
    have ao:(ts.map λt=>D.int t.1)=(ts.map λt=>t.1).map D.int:=by rw[xg];rfl
    generalize hR:YG (Vk 5 _) _=Rr
    have main:∀(F:EndsD) (ns:List Int),F.rt=Q->2<=ts.length->ns.Perm (ts.map λt=>t.1)->ns.Pairwise (·<=·) ->
        Rr F [some .st,some (.int d),some (.lst (ts.map wW)),some (.int kt),some (.tup (ns.map D.int)),none,none,none,none] 3:=λF ns hF h2 hp hs=>by
      subst hR;generalize aw:YG (Vk 6 _) _=R6;simp
      refine⟨am,xy x3 x3 λk1 g0 g1=>xy x4 x4 λk2 g2 g3=>?_⟩
      have ae:∀R:D->Prop,(∀i:Nat,i<d->R (.int i))->Yi (.lst [.int (kt%d),.int k1]) (.int k2) R:=λR hR=>zN2 g2 (by simpa using g3) λdd Y=>by
        simp only[zt,zW,or_false] at Y
        have e0:0<=kt%(d:Int):=yx _ x3
        have e1:kt%(d:Int)<d:=yo _ x3
        rcases Y with rfl |rfl
        · obtain ⟨i, e⟩ := zZ e0
          rw[e]
          exact hR i x3
        · obtain ⟨i, e⟩ := zZ g0
          rw[e]
          exact hR i x3
      refine ae _ λi hi=>?_;subst aw;generalize av:YG (sIf _ _ _) _=R7
      have rest:∀(F:EndsD) (us:List Thing),F.rt=Q->us.Perm ts->R7 F [some .st,some (.int d),some (.lst (ts.map wW)),some (.int kt),some (.tup (ns.map D.int)),some (.int i),some (.lst (us.map wW)),none,none] 3:=λF us hF hu=>by
        subst av;generalize ar:YG (Vk 7 _) _=R8
        have I:∀(F:EndsD) (us:List Thing),F.rt=Q->us.Perm ts->R8 F [some .st,some (.int d),some (.lst (ts.map wW)),some (.int kt),some (.tup (ns.map D.int)),some (.int i),some (.lst (us.map wW)),none,none] 3:=λF us hF hu=>by
          subst ar;have aA:=hu.length_eq;generalize aq:YG (Vk 8 _) _=R9;simp
          refine⟨⟨x4,x4⟩,xy x3 x3 λk1 g0 g1=>?_⟩
          simp
          refine xy x4 x4 λk2 g2 g3=>?_
          have ae:∀R:D->Prop,(∀m:Nat,1<=m->m<ts.length->R (.int m))->Yi (.lst [.int (((us.length:Int)+1)/2),.int (1+k1)]) (.int k2) R:=λR hR=>zN2 g2 (by simpa using g3) λdd Y=>by
            simp only[zt,zW,or_false] at Y
            rcases Y with rfl |rfl
            · obtain ⟨m, e⟩ := zZ (show 0 <= ((us.length : Int) + 1) / 2 by lia)
              rw[e]
              exact hR m x3 x3
            · obtain ⟨m, e⟩ := zZ (show 0 <= 1 + k1 by lia)
              rw[e]
              exact hR m x3 x3
          refine ae _ λm aC aB=>?_;subst aq
          have ah:Xq (us.map wW) none (some (m:Int))=(us.take m).map wW:=by rw[zt4 _ _ (by rw[zh];lia),List.map_take]
          have ag:Xq (us.map wW) (some (m:Int)) none=(us.drop m).map wW:=by rw[UK _ _ (by rw[zh];lia),List.map_drop]
          have gu:=hg.perm hu
          have aa:∀(vs:List Thing) (R:D->Nat->Prop),vs.Sublist us->1<=vs.length->vs.length<ts.length->(∀tr,TreeOf d vs tr->R (yO tr) 3)->XJ j [.st,.int d,.lst (vs.map wW),.int (kt+1)] 3 R:=λvs R hv h3 h4 hR=>by
            cases j with
            |zero=>lia
            |succ j=>exact⟨d,vs,kt+1,rfl,rfl,am,hd,gu.sub hv,h3,x3,x3,hR⟩
          have lt:(us.take m).length=m:=by rw[xh];lia
          have ld:(us.drop m).length=ts.length-m:=by rw[wj];lia
          simp;rw[ah]
          refine aa _ _ (List.take_sublist ..) x3 x3 λaz aj=>?_
          simp[yT];refine⟨d,ts,rfl,hd,hg.each,h1,ax,?_⟩;rw[ag]
          refine aa _ _ (List.drop_sublist ..) x3 x3 λay af=>?_
          rw[hF]
          exact q _ (.two (by rw[wl];exact hu) hp hs aj af)
        simp
        refine xy x4 x4 λk g0 g1=>?_
        simp
        split
        · rw [UF, UF, <- xx]
          have ul:=hu.length_eq;refine⟨xY ?_,I F _ hF ((Jh us).trans hu)⟩;have z1:=Xz true us;have z2:=Xz false us;simp only[zh];lia
        · exact I F us hF hu
      simp
      refine JT wW (xF7 i) true [.int i] ts (0,[],0) x3 (λt ht=>rfl) hg.nd rfl (λi' j' e=>?_) (λt ht=>?_) λus hu _=>rest _ us hF hu
      · cases i' with
        |zero=>cases e;exact⟨_,rfl,rfl,rfl⟩
        |succ i'=>simp at e
      · simp
        have ak:i<t.2.1.length:=by rw[hg.each t ht];exact hi
        refine⟨_,1,_,.inr (.inl rfl),rfl,rfl,?_⟩
        refine⟨_,_,_,.inr (.inl rfl),rfl,qH (by rw[zv,ze ak];rfl),?_⟩
        refine⟨_,0,_,.inr (.inl rfl),rfl,rfl,?_⟩;unfold xF7;rw[ze ak];rfl
    simp[startD]
    refine yi wW (λt=>.int t.1) ts (xY x3) (λt ht R hR=>?_) ?_
    · simp
      exact⟨_,0,_,.inr (.inl rfl),rfl,rfl,hR⟩
    · rw [ao]
      refine⟨ts.map λt=>t.1,rfl,by simp;lia,λns hp hs'=>?_⟩
      simp
      split
      · rename_i h2
        have h2':ts.length=1:=x3
        obtain⟨t,rfl⟩:=List.length_eq_one_iff.mp h2'
        have e1:ns=[t.1]:=by simpa using hp
        subst e1
        refine⟨d,[t],rfl,hd,hg.each,by simp,by simp,?_⟩
        exact q _ (.one (hg.each t (by simp)))
      · rename_i h2
        exact main _ ns rfl x3 hp hs'
noncomputable abbrev ZJ:Stmt:=top 40
noncomputable abbrev QE:List Str:=["_law_left_here","_law_house_here"]
theorem Kt:FnScope QE q3 (zV ZJ):=⟨rfl,rfl,rfl,x5,rfl,x5,x5⟩
noncomputable def VO:TF:=λds n Q=>∃(d:Nat) (ts:List Thing),ds=[.st,yq d ts]/\n=3/\1<=d/\d<=4/\GoodU d ts/\ts.length<=30/\(ts=[]->Q .non 3)/\(ts≠[]->∀tr:Tr,TreeOf d ts tr->Q (yO tr) 3)
theorem zB2(T:Blt mg)(F:Fun K "_law_tree" "_law_tree" ZJ f fd)(Y_grown:Fn P w K mg base "_law_grown" 34 4 (XJ 30)):FnOk P w K mg base CX0 35 f fd q3 (spD K 2 VO):=by
 refine Fun.okD F Kt (λaa A0 outer s H E G Z J=>(zq (wV (xF (zm5 J) zk5 (xV xn xU (zd 1) zm (λ_ _=>rfl)) (wk zf) (xJ _)) (zA (xb yc)) xN)
  (zA (xb (xQ Y_grown (J.mono x4) rfl (zb (zd 0) (zb (xV xn xU (zd 1) zm (λ_ _=>rfl)) (zb (wS vq ZV T.list Zd (zb (xV xn xU (zd 1) zm (λ_ _=>rfl)) zf)) (zb zm zf))))))))) ?_
 rintro ds n Q hl ⟨d,ts,rfl,rfl,h1,hd,hg,hz,Y,W⟩;have nh:=Yl d ts;simp[startD,nh];refine zq9 ?_;simp
 split
 ·rename_i h;exact Y h
 ·rename_i h
  have I:1<=ts.length:=by
   cases ts with
   |nil=>exact absurd rfl h
   |cons a b=>simp
  refine Jg (zq9 ?_);simp
  exact⟨d,ts,0,rfl,rfl,h1,hd,hg,I,x3,x3,W h⟩
end
noncomputable def belowP(p:Pair)(hi:Int):Bool:=match p.1 with |none=>false |some l=>decide (hi<l)
noncomputable def aboveP(p:Pair)(lo:Int):Bool:=match p.2 with |none=>false |some g=>decide (g<lo)
noncomputable def zh6(lo hi:Int)(q:Pair)(s:Nat):Bool:=if q=emptyP then true else if s=0 then belowP q hi else aboveP q lo
noncomputable def zA5(bd I:List Pair)(i s:Nat):Bool:=match bd[i]?,I[i]? with
 |some (some a,some b),some q=>zh6 a b q s
 |_,_=>false
noncomputable def Zt(bd I:List Pair)(k:Nat):Bool:=zA5 bd I (k/2) (k%2)
noncomputable def Ys(bd:List Pair):Prop:=∀(i:Nat) (b:Pair),bd[i]?=some b->∃lo hi:Int,b=(some lo,some hi)/\lo<=hi
theorem jh{bd I:List Pair}{i s:Nat}{lo hi:Int}{q:Pair}(h1:bd[i]?=some (some lo,some hi))(h2:I[i]?=some q):zA5 bd I i s=zh6 lo hi q s:=by unfold zA5;rw[h1,h2]
noncomputable def Xf(bd I:List Pair):Option Nat:=(List.range (2*I.length)).find? (Zt bd I)
theorem zf8{bd I:List Pair}{k:Nat}(h:Xf bd I=some k):((List.range (2*I.length)).map (Zt bd I))[k]?=some true/\(∀m,m<k->((List.range (2*I.length)).map (Zt bd I))[m]?=some false):=by
 obtain⟨h1,h2,h3⟩:=List.find?_range_eq_some.mp h;have hk:k<2*I.length:=xD.mp h2
 refine⟨by rw[zv,yb hk];simp[h1],λm hm=>?_⟩
 rw[zv,yb x3]
 have:=h3 m hm;simp at this;simp[this]
theorem Yd{I:List Pair}(J:wP I=I){i:Nat}{q:Pair}(h:I[i]?=some q)(W:crossedT q=true):q=emptyP:=by
 have ha:I.any crossedT=true:=VI.mpr ⟨i,q,h,W⟩;rw[kC ha] at J;rw[<- J,xv] at h
 split at h
 ·exact(zB h).symm
 ·cases h
theorem Wz{lo hi:Int}(W:lo<=hi){q:Pair}(J:crossedT q=true->q=emptyP):crossedT (commonP (some lo,some hi) q)=true↔∃s:Nat,s<2/\zh6 lo hi q s=true:=by
 by_cases I:q=emptyP
 ·subst I
  refine⟨λ_=>⟨0,x4,by simp[zh6]⟩,λ_=>Zv _⟩
 ·have hq' : crossedT q = false := by
   cases h:crossedT q with
   |false=>rfl
   |true=>exact absurd (J h) I
  have e:∀s:Nat,zh6 lo hi q s=if s=0 then belowP q hi else aboveP q lo:=λs=>by unfold zh6;rw[if_neg I]
  have Y:(∃s:Nat,s<2/\zh6 lo hi q s=true)↔(belowP q hi=true\/aboveP q lo=true):=by
   constructor
   ·rintro ⟨s, hs, h⟩;rw[e] at h
    split at h
    ·exact .inl h
    ·exact .inr h
   ·rintro (h | h)
    ·exact⟨0,x4,by rw[e];exact h⟩
    ·exact⟨1,x4,by rw[e];exact h⟩
  rw[Y];obtain⟨a,b⟩:=q
  rcases a with _ |a<;>rcases b with _ |b<;>simp[commonP,maxO,minO,crossedT,belowP,aboveP] at hq' ⊢<;>(try split)<;>(try split)<;>lia
theorem WF{bd I:List Pair}(hl:bd.length=I.length)(h1:1<=bd.length)(hE:Ys bd)(hs:wP I=I):ke bd I=true↔∃k,k<2*I.length/\Zt bd I k=true:=by
 rw[Yq hl h1,VI]
 constructor
 ·rintro ⟨i, c, hc, hx⟩;obtain⟨b,q,Y,J,rfl⟩:=zJ7 hc;obtain⟨lo,hi,rfl,W⟩:=hE i b Y;obtain⟨s,ae,ho⟩:=(Wz W (Yd hs J)).mp hx;have hi':=(zu.mp J).1
  refine⟨2*i+s,x3,?_⟩
  have e1:(2*i+s)/2=i:=x3
  have e2:(2*i+s)%2=s:=x3
  unfold Zt;rw[e1,e2,jh Y J];exact ho
 ·rintro ⟨k, hk, ho⟩
  have aa:k/2<I.length:=x3
  have Y:bd[k/2]?=some bd[k/2]:=ze x3
  have J:I[k/2]?=some I[k/2]:=ze aa;obtain⟨lo,hi,eb,W⟩:=hE _ _ Y;rw[eb] at Y;unfold Zt at ho;rw[jh Y J] at ho
  exact⟨k/2,_,XF Y J,(Wz W (Yd hs J)).mpr ⟨k%2,x3,ho⟩⟩
theorem WG{bd I:List Pair}(Y:bd.length=I.length)(h1:1<=bd.length)(hE:Ys bd)(J:wP I=I)(ha:ke bd I=true):∃k,Xf bd I=some k:=by
 obtain⟨k,hk,W⟩:=(WF Y h1 hE J).mp ha
 cases h:Xf bd I with
 |some k=>exact⟨k,rfl⟩
 |none=>
  unfold Xf at h;rw[List.find?_eq_none] at h;exact absurd W (h k (xD.mpr hk))
theorem zv8{bd I:List Pair}(W:bd.length=I.length)(h1:1<=bd.length)(hE:Ys bd)(J:wP I=I):((List.range (2*I.length)).map (Zt bd I)).any id=ke bd I:=by
 rw[wR,WF W h1 hE J,yh]
 constructor
 ·rintro⟨b,Y,e⟩;obtain⟨k,hk,rfl⟩:=zQ.mp Y;exact⟨k,xD.mp hk,e⟩
 ·rintro⟨k,hk,e⟩;exact⟨_,zQ.mpr ⟨k,xD.mpr hk,rfl⟩,e⟩
noncomputable def insP(lo hi:Int)(q:Pair):Bool:=(match q.1 with |none=>true |some a=>decide (a<=lo))&&(match q.2 with |none=>true |some b=>decide (hi<=b))
theorem VB{lo hi:Int}{q:Pair}:commonP (some lo,some hi) q=(some lo,some hi)↔insP lo hi q=true:=by
 obtain⟨a,b⟩:=q
 rcases a with _ |a<;>rcases b with _ |b<;>simp[commonP,maxO,minO,insP]<;>lia
theorem Vf{bd J:List Pair}(Y:bd.length=J.length)(h1:1<=bd.length)(hE:Ys bd)(ha:ke bd J=false):vg bd J=true↔∀(i:Nat) lo hi q,bd[i]?=some (some lo,some hi)->J[i]?=some q->insP lo hi q=true:=by
 have hc:¬ (List.zipWith commonP bd J).any crossedT=true:=by rw[<- Yq Y h1,ha];decide
 have e:ql bd J=List.zipWith commonP bd J:=by unfold ql;rw[vW hc]
 unfold vg;rw[e,yB]
 constructor
 ·intro h i lo hi q I W;have:=XF I W;rw[h,I] at this;exact VB.mp (zB this).symm
 ·intro h;refine List.ext_getElem? λi=>?_
  cases I:bd[i]? with
  |none=>
   rw[List.getElem?_eq_none_iff] at I ⊢;rw[length_zipWith];lia
  |some b=>
   obtain⟨q,W⟩:=zv6 Y I;obtain⟨lo,hi,rfl,_⟩:=hE i b I;rw[XF I W,VB.mpr (h i lo hi q I W)]
noncomputable abbrev Part:=List Int × Option Nat
noncomputable def xm(x:Part):D:=match x.2 with
 |none=>.tup [.tup (x.1.map D.int),.str "in"]
 |some k=>.tup [.tup (x.1.map D.int),.str "out",.int ((k/2:Nat):Int),.int ((k%2:Nat):Int)]
noncomputable def vR(I:List Pair)(xs:List Seen):List Part:=xs.flatMap λx:Seen=>if x.2.2=("in" : Str) then [(x.1,none)] else if x.2.2=("out" : Str) then [(x.1,some ((Xf (vM x.2.1) I).getD 0))] else []
theorem Jn(I:List Pair):∀xs:List Seen,(vR I xs).length<=xs.length
 |[]=>zi 0
 | x :: xs => by
  have J:=Jn I xs;unfold vR at J ⊢;rw[List.flatMap_cons,zr,zL]
  have:(if x.2.2=("in" : Str) then [((x.1,none):Part)] else if x.2.2=("out" : Str) then [(x.1,some ((Xf (vM x.2.1) I).getD 0))] else []).length<=1:=by
   split
   ·exact zi 1
   ·split
    ·exact zi 1
    ·exact wn 1
  lia
inductive Sound:Tr->Prop where
 |one {x:Int}{bd:List Pair}:Ys bd->Sound (.one x bd)
 |two {ns:List Int}{bd:List Pair}{low high:Tr}:Ys bd->Sound low->Sound high->Sound (.two ns bd low high)
theorem Sound.bd{t:Tr}(h:Sound t):Ys (vM t):=by cases h<;>assumption
theorem UO{d:Nat}{ts:List Thing}(h:1<=ts.length):Ys (jB d (ts.map λt=>t.2.1)):=λi b I=>by
 have hi:i<d:=by have:=(zu.mp I).1;rw[ko] at this;exact this
 rw[zc1 ts hi] at I;exact⟨_,_,(zB I).symm,zQ5 h⟩
theorem TreeOf.sound{d:Nat}{ts:List Thing}{tr:Tr}(h:TreeOf d ts tr):Sound tr:=by
 induction h with
 |@one t h=>exact .one (UO (ts:=[t]) (by simp))
 |two p J I h1 h2 i1 i2=>exact .two (UO (by have:=p.length_eq;rw[zr] at this;have:=h1.ne;lia)) i1 i2
theorem TreeOf.deep{d:Nat}{ts:List Thing}{tr:Tr}(h:TreeOf d ts tr):Za tr<ts.length:=by
 induction h with
 |one=>exact Nat.zero_lt_one
 |@two ts ls W ns J I p _ _ h1 h2 i1 i2=>
  have:=p.length_eq;rw[zr] at this;show 1+max (Za J) (Za I)<ts.length;lia
noncomputable def wX:Option Tr->D
 |none=>.non
 |some t=>yO t
@[simp] theorem Zn(t:Option Tr):we (wX t)=true:=by
 cases t with
 |none=>rfl
 |some t=>exact yT t
noncomputable def WA(I:List Pair):Option Tr->List Part
 |none=>[]
 |some t=>vR I (kh I [] t)
@[simp] theorem xl7(p:Pair):we (xT p)=true:=id rfl
theorem jg{ps:List Pair}{i:Nat}{q:Pair}{R:D->Prop}(h:ps[i]?=some q)(I:R (xT q)):Yi (zK ps) (.int i) R:=by
 unfold zK;rw[zk7]
 exact⟨_,qH (by rw[zv,h];rfl),I⟩
theorem xg5{own:Nat}{g1:TGD}{W:TBD}{it2:TID}{g2:TGD}{J:TBD}{te:TD}{rho:Rho}{P:D->Nat->Prop}{n:Nat}{α:Type}(enc:α->D)(h:α->List D)(xs:List α){B:Nat}(hB:B<=1000)(hz:(xs.flatMap h).length<=B)
  (he:∀x∈xs,∀(acc:List D) (R:List D->Nat->Prop),acc.length+(h x).length<=B->R (acc++h x) n->g1 (enc x) (replicate own none++rho) λI=>I.drop own=rho/\W I n λc n2=>if c=true then it2 I n2 (xy0 g2 J te I acc R) else R acc n2)
  (fin:P (.lst (xs.flatMap h)) n):Qu own g1 W it2 g2 J te rho P (xs.map enc) n:=by
 refine⟨λi Y n'=>n'=n/\Y=(xs.take i).flatMap h,⟨rfl,by simp⟩,?_,?_⟩
 ·rintro i d Y n' e ⟨rfl, rfl⟩;rw[zv] at e
  cases q:xs[i]? with
  |none=>rw[q] at e;cases e
  |some x=>
   rw[q] at e;cases e
   have e2:(xs.take (i+1)).flatMap h=(xs.take i).flatMap h++h x:=by rw[xI,q];simp
   refine he x (xk q) _ _ ?_ ⟨rfl,e2.symm⟩
   have e3:xs.flatMap h=(xs.take (i+1)).flatMap h++(xs.drop (i+1)).flatMap h:=by rw[<- List.flatMap_append,wl]
   rw[e3,zr,e2,zr] at hz;lia
 ·rintro Y n' ⟨rfl,rfl⟩;rw[zh,wy];exact⟨xY (zy hz hB),fin⟩
section
variable {P:Program}{w:World}{K:W.Frag}{mg:QqM}{base:Heap}{f:Addr}{fd:FuncData}
noncomputable abbrev ZH:Stmt:=top 8
noncomputable abbrev QC:List Str:=["ends","pair"]
theorem Kr:FnScope QC q2 (zV ZH):=⟨rfl,rfl,rfl,x5,rfl,x5,x5⟩
noncomputable def ZA:TF:=λds n Q=>∃(lo hi:Int) (p:Pair),ds=[.tup [.int lo,.int hi],xT p]/\Q (.bl (belowP p hi)) n
theorem KM(F:Fun K "all_below" "all_below" ZH f fd):FnOk P w K mg base CX0 1 f fd q2 (spD K 2 ZA):=by
 refine Fun.okD F Kr (λI Y outer s H E G Z J=>(zA (xb (qx (kw qC qB (xV xn xU (zd 1) zm (λ_ _=>rfl)) yc (xJ _)) (qL (kw zm6 zy5 (xV xn xU (zd 0) zm (λ_ _=>rfl)) (xV xn xU (zd 1) zm (λ_ _=>rfl)) (xJ _))))))) ?_;rintro ds n Q W ⟨lo,hi,⟨a,b⟩,rfl,q⟩
 cases a<;>cases b<;>(simp[startD,xT];exact q)
noncomputable abbrev ZI:Stmt:=top 9
noncomputable abbrev QD:List Str:=["ends","pair"]
theorem Ks:FnScope QD q2 (zV ZI):=⟨rfl,rfl,rfl,x5,rfl,x5,x5⟩
noncomputable def ZB:TF:=λds n Q=>∃(lo hi:Int) (p:Pair),ds=[.tup [.int lo,.int hi],xT p]/\Q (.bl (aboveP p lo)) n
theorem KN(F:Fun K "all_above" "all_above" ZI f fd):FnOk P w K mg base CX0 1 f fd q2 (spD K 2 ZB):=by
 refine Fun.okD F Ks (λI Y outer s H E G Z J=>(zA (xb (qx (kw qC qB (xV xn xU (zd 1) zm (λ_ _=>rfl)) yc (xJ _)) (qL (kw WP WN (xV xn xU (zd 0) zm (λ_ _=>rfl)) (xV xn xU (zd 1) zm (λ_ _=>rfl)) (xJ _))))))) ?_;rintro ds n Q W ⟨lo,hi,⟨a,b⟩,rfl,q⟩
 cases a<;>cases b<;>(simp[startD,xT];exact q)
noncomputable abbrev Ui:Stmt:=top 20
noncomputable abbrev zF4:List Str:=["ends","pair","side"]
theorem zk0:FnScope zF4 q8 (zV Ui):=⟨rfl,rfl,rfl,x5,rfl,x5,x5⟩
noncomputable def VR:TF:=λds n Q=>∃(lo hi:Int) (p:Pair) (s:Nat),ds=[.tup [.int lo,.int hi],xT p,.int s]/\Q (.bl (zh6 lo hi p s)) n
theorem zn4(G_EMPTY_PAIR:zU1 K mg "EMPTY_PAIR" (.tup [.int 1,.int 0]))(F:Fun K "is_out" "is_out" Ui f fd)(F_all_below:Fn P w K mg base "all_below" 1 2 ZA)(F_all_above:Fn P w K mg base "all_above" 1 2 ZB):FnOk P w K mg base CX0 2 f fd q8 (spD K 3 VR):=by
 refine Fun.okD F zk0 (λY A0 outer s H E G Z J=>(zq (wV (xF (Vs J) (Vm rfl) (zd 1) (zm2 G_EMPTY_PAIR rfl) (xJ _)) (zA (xb kU)) xN)
  (zA (xb (Xi (xF jy jx (zd 2) zm (xJ _)) (xQ F_all_below (J.mono x4) rfl (zb (zd 0) (zb (zd 1) zf))) (xQ F_all_above (J.mono x4) rfl (zb (zd 0) (zb (zd 1) zf)))))))) ?_
 rintro ds n Q hl ⟨lo,hi,p,s,rfl,q⟩;have W:(D.tup [.int 1,.int 0])=xT emptyP:=rfl;simp[startD];rw[W,XB];refine⟨ji _ 19,ji _ 19,?_⟩;unfold zh6 at q
 by_cases h:p=emptyP
 ·rw[if_pos h] at q;rw[xC h];simp;exact q
 ·rw [if_neg h] at q;rw[zS h];simp
  by_cases I:s=0
  ·rw[if_pos I] at q;subst I;simp;exact⟨lo,hi,p,rfl,q⟩
  ·rw[if_neg I] at q;simp[I];exact⟨lo,hi,p,rfl,q⟩
end
structure JPn(b:List QA)(n i:Nat)(rho:Rho)(m:Nat):Prop where
 e:m=n
 u:∀(k:Nat) s,k<i->b[k]?=some s->crossedT (ZQ s)=false
 r:∃(x y z u:Option D),rho=[some (vQ b),some (.own (((b.take i).map ZQ).map xT)),x,y,z,u]
theorem VL{α β:Type}{f:α->β}{xs:List α}{i:Nat}{x:α}(h:xs[i]?=some x):(xs.take (i+1)).map f=(xs.take i).map f++[f x]:=by
 rw[xI,h];simp
structure JIn(dd:D)(bd pl:List Pair)(n i:Nat)(rho:Rho)(m:Nat):Prop where
 e:m=n
 u:∀(k:Nat) lo hi q,k<i->bd[k]?=some (some lo,some hi)->pl[k]?=some q->insP lo hi q=true
 r:∃(x y z u:Option D),rho=[some dd,some (zK pl),x,y,z,u]
section
variable {P:Program}{w:World}{K:W.Frag}{mg:QqM}{base:Heap}{f:Addr}{fd:FuncData}
noncomputable abbrev jJ:Stmt:=top 41
noncomputable abbrev JB:List Str:=["_law_box_here","_law_pairs","_law_low","_law_high","_law_least","_law_greatest"]
theorem vH:FnScope JB ["_law_box_here"] (zV jJ):=⟨rfl,rfl,rfl,x5,rfl,x5,x5⟩
noncomputable def VP:TF:=λds n Q=>∃b:List QA,ds=[vQ b]/\1<=b.length/\b.length<=900/\Q (zK (vh b)) n
theorem zn1(T:Blt mg)(F:Fun K "_law_plain" "_law_plain" jJ f fd):FnOk P w K mg base CX0 1 f fd ["_law_box_here"] (spD K 1 VP):=by
 refine Fun.okD F vH (λai A0 outer s H E G Z hr=>(zq (ZP (i:=1) vH.nd rfl (lo rfl) zf)
  (zq (ki (m:=6) PassesOwn.never rfl (vk rfl (zd 0)) (kH (k:=2) rfl rfl (wr (xp (i:=2) vH.nd rfl (lo rfl) x4) (wr (xp (i:=3) vH.nd rfl (lo rfl) x4) vI)))
  (zq (wg (i:=4) vH.nd rfl (lo rfl) (Xi (xF kz ku (zd 2) yc (xJ _)) yc (ky (xV xn xU (zd 2) zm (λ_ _=>rfl)) (wS WC Qr T.int Jt (zb (za1 (xV xn xU (zd 2) zm (λ_ _=>rfl))) zf)))))
  (zq (wg (i:=5) vH.nd rfl (lo rfl) (Xi (xF kz ku (zd 3) yc (xJ _)) yc (Vq (xV xn xU (zd 3) zm (λ_ _=>rfl)) (wS WC Qr T.int Jt (zb (za1 (xV xn xU (zd 3) zm (λ_ _=>rfl))) zf)))))
  (zq (wV (PWD.pt (qb (xF qC qB (zd 4) yc (xJ _)) (qb (xF qC qB (zd 5) yc (xJ _)) (qv (xF WP WN (zd 4) (zd 5) (xJ _)))))) (zA (xb (kT zO3 zL6 (wk (zb (wk (zb zm (zb zm zf))) zf)) (xr xR vG T.len vB (zb (zd 0) zf))))) xN)
  (zA (kb (i:=1) (zb (wk (zb (zd 4) (zb (zd 5) zf))) zf) rfl))))))
  (zA (je 1 (xb (wS yd vV T.tuple yF (zb (zd 1) zf)))))))) ?_
 generalize ae:YG (sIf _ _ _) _=S2;generalize af:YG (Vk 5 _) _=S1;rintro ds n Q hl ⟨b,rfl,ah,ag,q⟩;have nb:we (vQ b)=true:=id rfl;simp[startD,nb]
 refine⟨b.map qF,.inr rfl,JPn b n,⟨rfl,λk s hk=>by lia,_,_,_,_,rfl⟩,?_,?_⟩
 ·rintro i d rho m e ⟨rfl, hu, x, y, z, u, rfl⟩;rw[zv] at e
  cases h:b[i]? with
  |none=>rw[h] at e;cases e
  | some s =>
   rw[h] at e;cases e;have hi:i<b.length:=(zu.mp h).1
   have I:(((b.take i).map ZQ).map xT).length<sizeLine:=by
    rw[zh,zh,xh]
    exact lt_size x3
   have key:∀x y z u:Option D,crossedT (ZQ s)=false->JPn b m (i+1) [some (vQ b),some (.own (((b.take i).map ZQ).map xT++[xT (ZQ s)])),x,y,z,u] m:=λx y z u hc=>by
    refine⟨rfl,λk s' hk e=>?_,x,y,z,u,?_⟩
    ·by_cases aa : k = i
     ·subst aa;rw[h] at e;cases e;exact hc
     ·exact hu k s' x3 e
    ·rw[VL h,xx];rfl
   have Y:crossedT (ZQ s)=true->Q (.tup (replicate b.length (.tup [.int 1,.int 0]))) m:=λhc=>by
    have ha:(b.map ZQ).any crossedT=true:=yh.mpr ⟨_,zQ.mpr ⟨s,xk h,rfl⟩,hc⟩;unfold vh at q;rw[kC ha,zh] at q;unfold zK at q;rw[List.map_replicate] at q;exact q
   have rep:∀R:D->Prop,R (.tup (replicate b.length (.tup [.int 1,.int 0])))->zD4 [vQ b] λd2=>zk6 (.tup [.tup [.int 1,.int 0]]) d2 R:=λR hR=>by
    refine Ur.mpr (zz1.mpr ⟨by simp,by rw[zh];lia,?_,?_⟩)
    ·rw[zh];exact xY (by simp;lia)
    ·rw [zh]
     have:((replicate ((b.length:Int).toNat) [D.tup [.int 1,.int 0]]).flatten)=replicate b.length (.tup [.int 1,.int 0]):=by
      rw[Int.toNat_natCast,List.flatten_replicate_singleton]
     rw[this];exact hR
   clear q hl;generalize ((b.take i).map ZQ).map xT=acc at I key ⊢
   have J:∀(F:EndsD) (x y:Option D) (l g:Option Int),F.nx=JPn b m (i+1)->F.rt=Q->ZQ s=(l,g)->S2 F [some (vQ b),some (.own acc),x,y,some (Vc l),some (Vc g)] m:=λF x y l g h1 h2 h3=>by
    subst ae;rw[h3] at key Y
    rcases l with _ |l
    ·have ng : we (Vc g) = true := by cases g <;> rfl
     simp[nb,h1,ng];exact⟨I,key _ _ _ _ rfl⟩
    ·rcases g with _ | g
     ·simp[nb,h1];exact⟨I,key _ _ _ _ rfl⟩
     ·simp [nb, h1, h2]
      split
      ·rename_i hh;exact rep _ (Y (xC hh))
      ·rename_i hh;exact⟨I,key _ _ _ _ (zS hh)⟩
   have W:∀(F:EndsD) (x u:Option D) (l:Option Int),F.nx=JPn b m (i+1)->F.rt=Q->Je s.1=l->S1 F [some (vQ b),some (.own acc),x,some (qk s.2),some (Vc l),u] m:=λF x u l h1 h2 h3=>by
    subst af
    have r2:=fun(g:Option Int) (e:zb2 s.2=g)=>J F x (some (qk s.2)) l g h1 h2 (by unfold ZQ;rw[h3,e])
    generalize s.2=t at r2 ⊢
    rcases t with _ |⟨c,s2⟩
    ·simp;exact r2 _ rfl
    ·cases s2<;>(simp;exact r2 _ rfl)
   have r1:=fun(F:EndsD) (x u:Option D) (l:Option Int) h1 h2 (e:Je s.1=l)=>W F x u l h1 h2 e;have nt:=We s.2;unfold qF;generalize s.1=t at r1 ⊢;generalize qk s.2=eh at nt r1 ⊢;clear W J key Y rep
   rcases t with _ |⟨a,s1⟩
   ·simp[nb,nt];exact r1 _ _ _ _ rfl rfl rfl
   ·cases s1<;>(simp[nb,nt];exact r1 _ _ _ _ rfl rfl rfl)
 ·rintro rho m ⟨rfl, hu, x, y, z, u, rfl⟩;rw[zh,wy]
  have ha:¬ (b.map ZQ).any crossedT=true:=λhc=>by
   obtain⟨k,p,e,hp⟩:=VI.mp hc;rw[zv] at e
   cases h:b[k]? with
   |none=>rw[h] at e;cases e
   |some s=>
    rw[h] at e;cases e
    rw[hu k s (by rw[zh];exact(zu.mp h).1) h] at hp
    cases hp
  unfold vh at q;rw[vW ha] at q;unfold zK at q;rw[xg] at q;simp;exact q
noncomputable abbrev jc:Stmt:=top 42
noncomputable abbrev UZ:List Str:=["_law_edges","_law_plain_here","_law_i","_law_side","_law_end"]
theorem Zr:FnScope UZ q17 (zV jc):=⟨rfl,rfl,rfl,x5,rfl,x5,x5⟩
noncomputable def qS:TF:=λds n Q=>∃(bd I:List Pair) (k:Nat),ds=[zK bd,zK I,.int ((k/2:Nat):Int),.int ((k%2:Nat):Int)]/\bd.length=I.length/\k<2*I.length/\Ys bd/\Q (.bl (Zt bd I k)) n
theorem zn6(F:Fun K "_law_beyond" "_law_beyond" jc f fd):FnOk P w K mg base CX0 1 f fd q17 (spD K 4 qS):=by
  refine Fun.okD F Zr (λaf A0 outer s H E G Z hr=>(zq (wg (i:=4) Zr.nd rfl (lo rfl) (xV xn xU (xV xn xU (zd 1) (zd 2) (λ_ _=>rfl)) (zd 3) (λ_ _=>rfl)))
    (zq (wV (xF (Vs hr) (Vm rfl) (xV xn xU (zd 1) (zd 2) (λ_ _=>rfl)) (wk (zb zm (zb zm zf))) (xJ _)) (zA (xb kU)) xN)
    (zq (wV (xF kz ku (zd 4) yc (xJ _)) (zA (xb kU)) xN)
    (zA (xb (xV xn xU (vp (zb (kw zm6 zy5 (xV xn xU (xV xn xU (zd 0) (zd 2) (λ_ _=>rfl)) zm (λ_ _=>rfl)) (zd 4) (xJ _)) (zb (kw WP WN (xV xn xU (xV xn xU (zd 0) (zd 2) (λ_ _=>rfl)) zm (λ_ _=>rfl)) (zd 4) (xJ _)) zf))) (zd 3) (λ_ _=>rfl)))))))) ?_
  rintro ds n Q hl ⟨bd,pl,k,rfl,ae,hk,hE,q⟩
  have W:pl[k/2]?=some pl[k/2]:=ze x3
  have I:bd[k/2]?=some bd[k/2]:=ze x3
  obtain⟨lo,hi,eb,_⟩:=hE _ _ I;rw[eb] at I;generalize pl[k/2]=Y at W;have e1:(D.tup [.int 1,.int 0])=xT emptyP:=rfl
  have hs:k%2=0\/k%2=1:=x3
  unfold Zt at q;rw[jh I W] at q;generalize k/2=i at I W q ⊢;generalize k%2=s at hs q ⊢;clear hk eb hl;have aa:=ji Y 19;have J:=ji emptyP 19;have ee:=XB Y emptyP;rw[<- e1] at J ee;unfold zh6 at q;simp[startD];refine jg W ?_;obtain⟨a,b⟩:=Y
  rcases hs with rfl |rfl <;> rcases a with _ |a <;> rcases b with _ |b <;>
    (simp [xT]
     refine jg W ?_;simp[aa,J,ee]
     split
     · rename_i h
       rw[if_pos h] at q;exact q
     · rename_i h
       rw[if_neg h] at q
       first
         |exact q
         | (refine jg I ?_
            simp[xT];refine jg I ?_;simp[xT]
            exact q))
theorem Ze{bd I:List Pair}{k n:Nat}{Q:D->Nat->Prop}(J:bd.length=I.length)(hk:k<2*I.length)(W:Ys bd)(q:Q (.bl (Zt bd I k)) n):qS [zK bd,zK I,.int ((k/2:Nat):Int),.int ((k%2:Nat):Int)] n Q:=⟨bd,I,k,rfl,J,hk,W,q⟩
theorem Wa{I:List Pair}{k:D->Prop}(h:k (.int (I.length:Int))):zD4 [zK I] k:=by unfold zK;rw[Ur,zh];exact h
noncomputable abbrev jP:Stmt:=top 43
noncomputable abbrev Zk:List Str:=["_law_edges","_law_plain_here"]
theorem Uf:FnScope Zk q4 (zV jP):=⟨rfl,rfl,rfl,x5,rfl,x5,x5⟩
theorem Wo:("_law_k" :: Zk:List Str).Nodup:=x5
noncomputable def VQ:TF:=λds n Q=>∃bd I:List Pair,ds=[zK bd,zK I]/\bd.length=I.length/\1<=bd.length/\I.length<=400/\Ys bd/\wP I=I/\Q (.bl (ke bd I)) n
theorem zn3(T:Blt mg)(F:Fun K "_law_apart" "_law_apart" jP f fd)(Y_beyond:Fn P w K mg base "_law_beyond" 1 4 qS):FnOk P w K mg base CX0 2 f fd q4 (spD K 2 VQ):=by
 refine Fun.okD F Uf (λaa A0 outer s H E G Z hr=>(zA (xb (xr (UM rfl) zu1 T.any zv3 (zb (vD (own:=["_law_k"]) (M:=Zk) (vS (by rfl)) rfl (qc T.range (zb (jU zm (xr xR vG T.len vB (zb (zd 1) zf))) zf)) (λC W H2 fp=>(xp (i:=0) Wo rfl (lo rfl) x4)) (λC W H2 fp=>yM) (λC W H2 fp=>(xQ Y_beyond (hr.mono x4) rfl (zb (zd 1) (zb (zd 2) (zb (Xa (zd 0) zm) (zb (qw (zd 0) zm) zf))))))) zf))))) ?_
 rintro ds n Q hl ⟨bd,J,rfl,I,h1,hz,Y,hs,q⟩;simp[startD];refine Wa ?_;simp
 have e:(2*(J.length:Int)).toNat=2*J.length:=x3
 refine⟨.inl ⟨x4,x4⟩,x3,x3,?_⟩
 rw[e,Uo]
 refine yi (λi:Nat=>D.int (i:Int)) (λk=>.bl (Zt bd J k)) (List.range (2*J.length)) (by rw[wY];exact xY x3) (λk hk R hR=>?_) ?_
 ·have hk' := xD.mp hk;simp
  exact⟨⟨x4,x4⟩,Ze I hk' Y hR⟩
 ·refine ⟨(List.range (2 * J.length)).map (Zt bd J), by rw [xg]; rfl, ?_⟩
  rw[zv8 I h1 Y hs];exact q
noncomputable def QI(bd I:List Pair):Prop:=I[0]?≠some emptyP/\∀(i:Nat) lo hi q,bd[i]?=some (some lo,some hi)->I[i]?=some q->insP lo hi q=true
noncomputable abbrev ja:Stmt:=top 44
noncomputable abbrev UY:List Str:=["_law_edges","_law_plain_here","_law_low","_law_high","_law_least","_law_greatest"]
theorem vN:FnScope UY q4 (zV ja):=⟨rfl,rfl,rfl,x5,rfl,x5,x5⟩
noncomputable def qJ:TF:=λds n Q=>∃(J:D) (bd I:List Pair),ds=[J,zK I]/\(J=zK bd\/J=.lst (bd.map xT))/\bd.length=I.length/\1<=bd.length/\I.length<=400/\Ys bd/\(QI bd I->Q (.bl true) n)/\(¬ QI bd I->Q (.bl false) n)
theorem ze6(T:Blt mg)(F:Fun K "_law_inside" "_law_inside" ja f fd):FnOk P w K mg base CX0 1 f fd q4 (spD K 2 qJ):=by
 refine Fun.okD F vN (λak A0 outer s H E G Z hr=>(zq (wV (xF (Vs hr) (Vm rfl) (xV xn xU (zd 1) zm (λ_ _=>rfl)) (wk (zb zm (zb zm zf))) (xJ _)) (zA (xb kU)) xN)
  (zq (ki (m:=6) PassesOwn.never rfl (Qd rfl T.zip (zb (zd 0) (zb (zd 1) zf))) (kH (k:=2) rfl rfl (wr (kH (k:=2) rfl rfl (wr (xp (i:=2) vN.nd rfl (lo rfl) x4) (wr (xp (i:=3) vN.nd rfl (lo rfl) x4) vI))) (wr (kH (k:=2) rfl rfl (wr (xp (i:=4) vN.nd rfl (lo rfl) x4) (wr (xp (i:=5) vN.nd rfl (lo rfl) x4) vI))) vI)))
  (zA (wV (PWD.pt (kW (PWD.pt (qb (xF qC qB (zd 4) yc (xJ _)) (qv (xF zm6 zy5 (zd 2) (zd 4) (xJ _))))) (qa (PWD.pt (qb (xF qC qB (zd 5) yc (xJ _)) (qv (xF WP WN (zd 3) (zd 5) (xJ _)))))))) (zA (xb kU)) xN)))
  (zA (xb kU))))) ?_
 rintro ds n Q hl ⟨dd,bd,J,rfl,af,ai,h1,hz,hE,hy,hn⟩
 have ag:we dd=true:=by rcases af with rfl |rfl<;>rfl
 have ae:J[0]?=some J[0]:=ze x3
 have e1:(D.tup [.int 1,.int 0])=xT emptyP:=rfl
 have aa:∀R:List D->Prop,R (JJ (bd.map xT) (J.map xT))->zR0 [dd,zK J] R:=λR h=>by
  rcases af with rfl |rfl
  ·exact(XX (d1:=zK bd) (d2:=zK J) rfl rfl).mpr h
  ·exact(XX (d1:=.lst (bd.map xT)) (d2:=zK J) rfl rfl).mpr h
 simp[startD,ag];refine jg (i:=0) ae ?_;rw[e1,XB];refine⟨ji _ 19,ji _ 19,?_⟩
 by_cases W:J[0]=emptyP
 ·rw [xC W];simp
  exact hn λI=>I.1 (by rw[ae,W])
 rw[zS W]
 have hne':J[0]?≠some emptyP:=λe=>W (by rw[ae] at e;exact zB e)
 simp;refine aa _ ?_;rw[zF5]
 refine⟨JIn dd bd J n,⟨rfl,λk lo hi q hk=>by lia,_,_,_,_,rfl⟩,?_,?_⟩
 ·rintro i d rho m e ⟨rfl, hu, x, y, z, u, rfl⟩;rw[zv] at e
  cases h:(bd.zip J)[i]? with
  |none=>rw[h] at e;cases e
  | some c =>
   rw[h] at e;cases e;obtain⟨bp,q0⟩:=c;obtain⟨h2,h3⟩:=List.getElem?_zip_eq_some.mp h;obtain⟨lo,hi,rfl,aj⟩:=hE i _ h2
   have key:∀x y z u:Option D,insP lo hi q0=true->JIn dd bd J m (i+1) [some dd,some (zK J),x,y,z,u] m:=λx y z u hc=>by
    refine⟨rfl,λk lo' hi' q' hk g1 g2=>?_,x,y,z,u,rfl⟩
    by_cases ah:k=i
    ·subst ah;rw[h2] at g1;rw[h3] at g2;cases g1;cases g2;exact hc
    ·exact hu k lo' hi' q' x3 g1 g2
   have Y:insP lo hi q0=false->Q (.bl false) m:=λhb=>hn λI=>by rw[I.2 i lo hi q0 h2 h3] at hb;cases hb
   clear hy hn aa;obtain⟨a,b⟩:=q0
   rcases a with _ |a<;>rcases b with _ |b
   ·simp[xT];exact key _ _ _ _ rfl
   ·simp [xT]
    split
    ·rename_i hh
     exact Y (by simp[insP];lia)
    ·rename_i hh
     exact key _ _ _ _ (by simp[insP];lia)
   ·simp [xT]
    split
    ·rename_i hh
     exact Y (by simp[insP];lia)
    ·rename_i hh
     exact key _ _ _ _ (by simp[insP];lia)
   ·simp [xT]
    split
    ·rename_i hh
     exact Y (by simp[insP];lia)
    ·split
     ·rename_i hh
      exact Y (by simp[insP];lia)
     ·exact key _ _ _ _ (by simp[insP];lia)
 ·rintro rho m ⟨rfl, hu, x, y, z, u, rfl⟩;simp
  exact hy ⟨hne',λk lo hi q' g1 g2=>hu k lo hi q' (by
   rw[zh,length_zip];have a1:=(zu.mp g1).1
   lia) g1 g2⟩
theorem Xe{bd W:List Pair}{n:Nat}{Q:D->Nat->Prop}(J:bd.length=W.length)(h1:1<=bd.length)(hz:W.length<=400)(hE:Ys bd)(ha:ke bd W=false)(q:Q (.bl (vg bd W)) n):qJ [zK bd,zK W] n Q:=by
 have h0:W[0]?≠some emptyP:=λhe=>by
  have Y:bd[0]?=some bd[0]:=ze h1;rw[Yq J h1] at ha;have:(List.zipWith commonP bd W).any crossedT=true:=VI.mpr ⟨0,_,XF Y he,Zv _⟩;rw[this] at ha;cases ha
 have w:=Vf J h1 hE ha;refine⟨_,bd,W,rfl,.inl rfl,J,h1,hz,hE,λI=>?_,λI=>?_⟩
 ·rw[w.mpr I.2] at q;exact q
 ·cases c : vg bd W with
  |true=>exact absurd ⟨h0,w.mp c⟩ I
  |false=>rw[c] at q;exact q
noncomputable abbrev jK:Stmt:=top 45
noncomputable abbrev JC:List Str:=["_law_tree_here","_law_plain_here","_law_path","_law_k"]
theorem Yg:FnScope JC q9 (zV jK):=⟨rfl,rfl,rfl,x5,rfl,x5,x5⟩
theorem Wj:("_law_k" :: ["_law_tree_here","_law_plain_here","_law_path","_law_k'"]:List Str).Nodup:=x5
noncomputable def VN:Nat->TF
 |0=>λ_ _ _=>False
 |j+1=>λds n Q=>∃(tr:Tr) (I:List Pair) (p:List Int) (d:Nat),ds=[yO tr,zK I,.tup (p.map D.int)]/\I.length=d/\1<=d/\d<=400/\wP I=I/\Walk d I tr/\Sound tr/\Za tr<=j/\p.length+j<=900/\Yv tr<=500/\Q (.lst ((vR I (kh I p tr)).map xm)) n
theorem zB0(T:Blt mg)(F:Fun K "_law_parts" "_law_parts" jK f fd)(hm:mg "_law_parts" = some (.ref f))(hk:W.keepIn K (.ref f)=true)(hb:Binds K fd ["_law_tree_here","_law_plain_here","_law_path"] [])(Y_apart:Fn P w K mg base "_law_apart" 2 2 VQ)(Y_beyond:Fn P w K mg base "_law_beyond" 1 4 qS)(Y_inside:Fn P w K mg base "_law_inside" 1 2 qJ):∀j:Nat,FnOk P w K mg base CX0 (j+2) f fd q9 (spD K 3 (VN j)):=by
 intro j
 induction j with
 |zero=>exact FnOk.botK λds n Q h=>h
 | succ j ih =>
  have Y_parts:Fn P w K mg base "_law_parts" (j+2) 3 (VN j):=⟨f,fd,_,ih,hm,hk,hb⟩
  refine Fun.okD F Yg (λay A0 outer s H E G Z hr=>(zq (wV (vb (xQ Y_apart (hr.mono x3) rfl (zb (xV xn xU (zd 0) zm (λ_ _=>rfl)) (zb (zd 1) zf)))) (zq (wg (i:=3) Yg.nd rfl (lo rfl) (zm1 rfl (vD (own:=["_law_k"]) (M:=["_law_tree_here","_law_plain_here","_law_path","_law_k'"]) (vS (by rfl)) rfl (qc T.range (zb (jU zm (xr xR vG T.len vB (zb (zd 1) zf))) zf)) (λ_ _ _ _=>(xp (i:=0) Wj rfl (lo rfl) x4)) (λ_ _ _ _=>yM) (λ_ _ _ _=>(xQ Y_beyond (hr.mono x3) rfl (zb (xV xn xU (zd 1) zm (λ_ _=>rfl)) (zb (zd 2) (zb (Xa (zd 0) zm) (zb (qw (zd 0) zm) zf)))))))))
  (zA (xb (vp (zb (wk (zb (zd 2) (zb vC (zb (Xa (zd 3) zm) (zb (qw (zd 3) zm) zf))))) zf))))) xN)
  (zq (wV (vb (xQ Y_inside (hr.mono x3) rfl (zb (xV xn xU (zd 0) zm (λ_ _=>rfl)) (zb (zd 1) zf)))) (zA (xb (vp (zb (wk (zb (zd 2) (zb vC zf))) zf)))) xN)
  (zA (xb (kT KI Kx (xQ Y_parts hr rfl (zb (xV xn xU (zd 0) zm (λ_ _=>rfl)) (zb (zd 1) (zb (kT vJ kG (zd 2) (wk (zb zm zf))) zf)))) (xQ Y_parts hr rfl (zb (xV xn xU (zd 0) zm (λ_ _=>rfl)) (zb (zd 1) (zb (kT vJ kG (zd 2) (wk (zb zm zf))) zf)))))))))) ?_
  rintro ds n Q hl ⟨tr,J,p,d,rfl,ah,ak,aj,ae,hW,hS,ao,hp,am,q⟩;obtain⟨ta,tb,et,na,aw⟩:=zE2 tr;have nt:=yT tr;have ax:=hW.bd;have hE:=hS.bd
  have af:(vM tr).length=J.length:=x3
  have r1:∀R:D->Prop,R (zK (vM tr))->Yi (yO tr) (.int 1) R:=λR h=>by rw[et];exact⟨_,1,_,.inr (.inl rfl),rfl,rfl,h⟩
  simp[startD,nt]
  refine r1 _ ⟨_,_,rfl,af,x3,x3,hE,ae,?_⟩
  cases ha:ke (vM tr) J with
  | true =>
   obtain⟨k,ai⟩:=WG af x3 hE ae ha
   obtain⟨f1,f2⟩:=zf8 ai
   have aa:jw (vM tr) J=("out" : Str):=by unfold jw;rw[if_pos ha]
   have e:(2*(J.length:Int)).toNat=2*J.length:=x3
   have hc:vR J (kh J p tr)=[(p,some k)]:=by
    have ag:kh J p tr=[(p,tr,("out" : Str))]:=by
     cases tr with
     |one x bd=>show [(p,Tr.one x bd,jw bd J)]=_;rw[show jw bd J=("out" : Str) from aa]
     |two ns bd Y I=>
      show(p,Tr.two ns bd Y I,jw bd J)::(if jw bd J = "cut" then _ else _)=_
      rw[show jw bd J=("out" : Str) from aa,if_neg x4]
    rw[ag];show [(p,some ((Xf (vM tr) J).getD 0))]=_;rw[ai];rfl
   rw[hc] at q;simp;refine Wa ?_;simp
   refine⟨.inl ⟨x4,x4⟩,x3,x3,?_⟩
   rw[e,Uo]
   refine yi (λi:Nat=>D.int (i:Int)) (λk=>.bl (Zt (vM tr) J k)) (List.range (2*J.length)) (by rw[wY];exact xY x3) (λk hk R hR=>?_) ?_
   ·have hk' := xD.mp hk;simp[nt]
    exact r1 _ ⟨⟨x4,x4⟩,Ze af hk' hE hR⟩
   ·refine ⟨(List.range (2 * J.length)).map (Zt (vM tr) J), by rw [xg]; rfl, k, f1, f2, by rw [zh, wY]; lia, ?_⟩
    exact⟨⟨x4,x4⟩,q⟩
  | false =>
   simp[nt]
   refine r1 _ (Xe af x3 x3 hE ha ?_)
   cases hw:vg (vM tr) J with
   | true =>
    have aa:jw (vM tr) J=("in" : Str):=by unfold jw;rw[if_neg (by rw[ha];decide),if_pos hw]
    have hc:vR J (kh J p tr)=[(p,none)]:=by
     have ag:kh J p tr=[(p,tr,("in" : Str))]:=by
      cases tr with
      |one x bd=>show [(p,Tr.one x bd,jw bd J)]=_;rw[show jw bd J=("in" : Str) from aa]
      |two ns bd Y I=>
       show(p,Tr.two ns bd Y I,jw bd J)::(if jw bd J = "cut" then _ else _)=_
       rw[show jw bd J=("in" : Str) from aa,if_neg x4]
     rw[ag];rfl
    rw[hc] at q;simp;exact q
   | false =>
    have aa:jw (vM tr) J=("cut" : Str):=by unfold jw;rw[if_neg (by rw[ha];decide),if_neg (by rw[hw];decide)]
    cases tr with
    |one x bd=>exact absurd aa (by cases hW;assumption)
    | two ns bd Y I =>
     obtain⟨ap,aq⟩:Walk d J Y/\Walk d J I:=by cases hW with |two _ a b=>exact⟨a,b⟩
     obtain⟨ar,av⟩:Sound Y/\Sound I:=by cases hS with |two _ a b=>exact⟨a,b⟩
     have hdp':1+max (Za Y) (Za I)<=j:=ao;have hsz':1+Yv Y+Yv I<=500:=am
     cases j with
     |zero=>lia
     | succ j =>
      have r2:∀R:D->Prop,R (yO Y)->Yi (yO (.two ns bd Y I)) (.int 2) R:=λR h=>⟨_,2,_,.inr (.inl rfl),rfl,rfl,h⟩;have r3:∀R:D->Prop,R (yO I)->Yi (yO (.two ns bd Y I)) (.int 3) R:=λR h=>⟨_,3,_,.inr (.inl rfl),rfl,rfl,h⟩
      have pa:∀k:Int,D.tup (p.map D.int++[D.int k])=.tup ((p++[k]).map D.int):=λk=>by rw[xx];rfl
      have hc:vR J (kh J p (.two ns bd Y I))=vR J (kh J (p++[0]) Y)++vR J (kh J (p++[1]) I):=by
       have ag:kh J p (.two ns bd Y I)=(p,Tr.two ns bd Y I,("cut" : Str))::(kh J (p++[0]) Y++kh J (p++[1]) I):=by
        show(p,Tr.two ns bd Y I,jw bd J)::(if jw bd J = "cut" then _ else _)=_
        rw[if_pos (show jw bd J=("cut" : Str) from aa),show jw bd J=("cut" : Str) from aa]
       rw[ag];unfold vR;rw[List.flatMap_cons,List.flatMap_append];rfl
      have cl:∀(p:List Int) (t:Tr),((vR J (kh J p t)).map xm).length<=Yv t:=λp t=>by
       rw[zh];exact zy (Jn ..) (Ua ..)
      rw[hc,xx] at q;simp[yT]
      refine r2 _ ⟨xY x3,?_⟩
      rw[pa]
      refine⟨Y,J,p++[0],d,rfl,ah,ak,aj,ae,ap,ar,x3,by rw[zr];simp;lia,x3,?_⟩
      refine r3 _ ⟨xY x3,?_⟩
      rw[pa]
      refine⟨I,J,p++[1],d,rfl,ah,ak,aj,ae,aq,av,x3,by rw[zr];simp;lia,x3,?_⟩
      have c1:=cl (p++[0]) Y;have c2:=cl (p++[1]) I
      exact⟨_,_,rfl,rfl,xY x3,q⟩
end
noncomputable def loO:Tr->Option Tr
 |.one _ _=>none
 |.two _ _ l _=>some l
noncomputable def hiO:Tr->Option Tr
 |.one _ _=>none
 |.two _ _ _ h=>some h
noncomputable def atT:Option Tr->List Int->Option Tr
 |o,[]=>o
 |o,x::p=>atT (o.bind λt=>if x=0 then loO t else hiO t) p
theorem ZW:∀(o:Option Tr) (p q:List Int),atT o (p++q)=atT (atT o p) q
 |o,[],q=>rfl
 |o,x::p,q=>by
  show atT (o.bind _) (p++q)=atT (atT (o.bind _) p) q;exact ZW _ p q
structure PartOk(d:Nat)(pl:List Pair)(tr:Tr)(x:Part)(vs:List Thing):Prop where
 bit:∀y∈x.1,y=0\/y=1
 tree:∃t,atT (some tr) x.1=some t/\TreeOf d vs t
 yes:x.2=none->∀v∈vs,xy3 pl v.2.1=true
 no:∀k,x.2=some k->k<2*pl.length/\Zt (jB d (vs.map λt=>t.2.1)) pl k=true
inductive Shares(d:Nat)(pl:List Pair)(tr:Tr):List Part->List (List Thing)->Prop where
 |nil:Shares d pl tr [] []
 |cons {x:Part}{vs:List Thing}{xs:List Part}{vss:List (List Thing)}:PartOk d pl tr x vs->Shares d pl tr xs vss->Shares d pl tr (x::xs) (vs::vss)
theorem Shares.app{d:Nat}{W:List Pair}{tr:Tr}:∀{xs ys:List Part}{J I:List (List Thing)},Shares d W tr xs J->Shares d W tr ys I->Shares d W tr (xs++ys) (J++I)
 |_,_,_,_,.nil,h=>h
 |_,_,_,_,.cons a r,h=>.cons a (r.app h)
structure CoverOk(d:Nat)(pl:List Pair)(tr:Tr)(ts:List Thing)(xs:List Part):Prop where
 r:∃vss,Shares d pl tr xs vss/\vss.flatten.Perm ts
theorem za3{d:Nat}{J:List Pair}{ls vs:List Thing}{k:Nat}(aa:J.length=d)(h1:1<=ls.length)(Y:∀t∈ls,t∈vs)(hk:k<2*J.length)(I:Zt (jB d (vs.map λt=>t.2.1)) J k=true):Zt (jB d (ls.map λt=>t.2.1)) J k=true:=by
 have h2:1<=vs.length:=by
  cases ls with
  |nil=>simp at h1
  |cons a l=>
   have:=Y a (by simp)
   cases vs with
   |nil=>simp at this
   |cons b v=>simp
 have hi:k/2<d:=x3
 have hq:J[k/2]?=some J[k/2]:=ze x3
 unfold Zt at I ⊢;rw[jh (zc1 vs hi) hq] at I;rw[jh (zc1 ls hi) hq];obtain⟨g1,g2⟩:=zQ3 (i:=k/2) Y h1 h2;generalize J[k/2]=q at I;obtain⟨a,b⟩:=q;unfold zh6 at I ⊢
 split
 ·rfl
 ·rename_i he;rw[if_neg he] at I
  split
  ·rename_i W;rw[if_pos W] at I
   rcases a with _ |a<;>simp[belowP] at I ⊢<;>lia
  ·rename_i W;rw[if_neg W] at I
   rcases b with _ |b<;>simp[aboveP] at I ⊢<;>lia
theorem zc4{d:Nat}{I:List Pair}{vs:List Thing}(J:I.length=d)(hd:1<=d)(h1:1<=vs.length)(hl:∀t∈vs,t.2.1.length=d)(ha:ke (jB d (vs.map λt=>t.2.1)) I=false)(hw:vg (jB d (vs.map λt=>t.2.1)) I=true):∀v∈vs,xy3 I v.2.1=true:=λv hv=>by
 refine zR9.mpr λi q x W hx=>?_
 have hi:i<d:=by have:=(zu.mp W).1;lia
 have z:=(Vf (by rw[ko,J]) (by rw[ko];exact hd) (UO h1) ha).mp hw i _ _ q (zc1 vs hi) W
 have Y:x∈zh7 vs i:=by
  rw[Qv]
  exact zQ.mpr ⟨v,hv,by rw[hx];rfl⟩
 have g1:=zp5 h1 Y;have g2:=zH6 h1 Y;obtain⟨a,b⟩:=q
 rcases a with _ |a<;>rcases b with _ |b<;>simp[insP,zQ6] at z ⊢<;>lia
theorem za2{d:Nat}{I:List Pair}{tr t:Tr}{vs:List Thing}{p:List Int}(hd:1<=d)(Y:I.length=d)(W:wP I=I)(h:TreeOf d vs t)(aa:atT (some tr) p=some t)(hp:∀y∈p,y=0\/y=1)(hc:jw (vM t) I≠("cut" : Str)):∃x,vR I [(p,t,jw (vM t) I)]=[x]/\PartOk d I tr x vs:=by
 have ae:(vM t).length=I.length:=by rw[h.bd,ko,Y]
 have af:1<=(vM t).length:=x3
 have hE:Ys (vM t):=h.sound.bd
 by_cases ha:ke (vM t) I=true
 ·obtain ⟨k, hk⟩ := WG ae af hE W ha
  have J:jw (vM t) I=("out" : Str):=by unfold jw;rw[if_pos ha]
  obtain⟨k1,k2,_⟩:=List.find?_range_eq_some.mp hk
  refine⟨(p,some k),?_,hp,⟨t,aa,h⟩,λe=>(by cases e),λk' e=>?_⟩
  ·rw[J];show [(p,some ((Xf (vM t) I).getD 0))]=_;rw[hk];rfl
  ·cases e
   exact⟨xD.mp k2,by rw[<- h.bd];exact k1⟩
 ·have ha' : ke (vM t) I = false := by
   cases c:ke (vM t) I with
   |false=>rfl
   |true=>exact absurd c ha
  by_cases hw:vg (vM t) I=true
  ·have J : jw (vM t) I = ("in" : Str) := by unfold jw; rw [if_neg ha, if_pos hw]
   refine⟨(p,none),by rw[J];rfl,hp,⟨t,aa,h⟩,λ_=>?_,λk e=>(by cases e)⟩
   rw[h.bd] at ha' hw;exact zc4 Y hd h.ne h.lens ha' hw
  ·exact absurd (by unfold jw;rw[if_neg ha,if_neg hw]) hc
theorem Jm{d:Nat}{J:List Pair}{tr:Tr}(hd:1<=d)(ag:J.length=d)(aa:wP J=J){t:Tr}{vs:List Thing}(h:TreeOf d vs t):∀{p:List Int},atT (some tr) p=some t->(∀y∈p,y=0\/y=1)->∃ah,Shares d J tr (vR J (kh J p t)) ah/\ah.flatten.Perm vs:=by
 induction h with
 |@one v hv=>
  intro p Y hp;have T1:TreeOf d [v] (.one v.1 (jB d [v.2.1])):=.one hv;obtain⟨x,e,ok⟩:=za2 hd ag aa T1 Y hp (zm8 hd hv ag)
  refine⟨[[v]],?_,by simp⟩
  show Shares d J tr (vR J [(p,_,jw (jB d [v.2.1]) J)]) _;rw[show vR J [(p,Tr.one v.1 (jB d [v.2.1]),jw (jB d [v.2.1]) J)]=[x] from e];exact .cons ok .nil
 | @two vs ls hs ns W I pm hn ai hl hh i1 i2 =>
  intro p Y hp;have T2:TreeOf d vs (.two ns (jB d (vs.map λt=>t.2.1)) W I):=.two pm hn ai hl hh
  by_cases hc:jw (jB d (vs.map λt=>t.2.1)) J=("cut" : Str)
  ·have ae : ∀ b : Int, (b = 0 \/ b = 1) -> ∀ y ∈ p ++ [b], y = 0 \/ y = 1 := λb hb y hy => by
    rcases zU.mp hy with hy |hy
    ·exact hp y hy
    ·rw[xi.mp hy];exact hb
   obtain⟨v1,s1,p1⟩:=i1 (p:=p++[0]) (by rw[ZW,Y];rfl) (ae 0 (.inl rfl))
   obtain⟨v2,s2,p2⟩:=i2 (p:=p++[1]) (by rw[ZW,Y];rfl) (ae 1 (.inr rfl))
   refine⟨v1++v2,?_,?_⟩
   ·have e : vR J (kh J p (.two ns (jB d (vs.map λt => t.2.1)) W I)) = vR J (kh J (p ++ [0]) W) ++ vR J (kh J (p ++ [1]) I) := by
     have af:kh J p (.two ns (jB d (vs.map λt=>t.2.1)) W I)=(p,Tr.two ns (jB d (vs.map λt=>t.2.1)) W I,("cut" : Str))::(kh J (p++[0]) W++kh J (p++[1]) I):=by
      conv=>lhs;unfold kh
      rw[if_pos hc,hc]
     rw[af];unfold vR;rw[List.flatMap_cons,List.flatMap_append];rfl
    rw[e];exact s1.app s2
   ·rw[List.flatten_append];exact(p1.append p2).trans pm
  ·obtain ⟨x, e, ok⟩ := za2 hd ag aa T2 Y hp hc
   refine⟨[vs],?_,by simp⟩
   have af:kh J p (.two ns (jB d (vs.map λt=>t.2.1)) W I)=[(p,Tr.two ns (jB d (vs.map λt=>t.2.1)) W I,jw (jB d (vs.map λt=>t.2.1)) J)]:=by
    conv=>lhs;unfold kh
    rw[if_neg hc]
   rw[af];rw[show vR J [(p,Tr.two ns (jB d (vs.map λt=>t.2.1)) W I,jw (jB d (vs.map λt=>t.2.1)) J)]=[x] from e];exact .cons ok .nil
theorem zb5{d:Nat}{I:List Pair}{tr:Tr}{ts:List Thing}(hd:1<=d)(W:I.length=d)(J:wP I=I)(h:TreeOf d ts tr):CoverOk d I tr ts (vR I (kh I [] tr)):=⟨Jm hd W J h rfl (λy hy=>by simp at hy)⟩
theorem Shares.perm{d:Nat}{pl:List Pair}{tr:Tr}{xs ys:List Part}(p:ys.Perm xs):∀{I:List (List Thing)},Shares d pl tr xs I->∃J,Shares d pl tr ys J/\J.flatten.Perm I.flatten:=by
 induction p with
 |nil=>exact λh=>⟨_,h,.refl _⟩
 | cons x p ih =>
  intro I h
  cases h with
  |cons a r=>
   obtain⟨J,s,q⟩:=ih r
   exact⟨_,.cons a s,by rw[wc,wc];exact q.append_left _⟩
 | swap x y l =>
  intro I h
  cases h with
  | cons a r =>
   cases r with
   |cons b r=>
    refine⟨_,.cons b (.cons a r),?_⟩;simp only[wc,<- wq];exact(List.perm_append_comm).append_right _
 |trans p q Y W=>
  intro I h;obtain⟨w1,s1,q1⟩:=W h;obtain⟨w2,s2,q2⟩:=Y s1;exact⟨w2,s2,q2.trans q1⟩
theorem CoverOk.perm{d:Nat}{J:List Pair}{tr:Tr}{ts:List Thing}{xs ys:List Part}(h:CoverOk d J tr ts xs)(p:ys.Perm xs):CoverOk d J tr ts ys:=by
 obtain⟨W,s,q⟩:=h.r;obtain⟨I,Y,q2⟩:=s.perm p;exact⟨I,Y,q2.trans q⟩
theorem PartOk.split{d:Nat}{pl:List Pair}{tr t Y I:Tr}{x:Part}{vs:List Thing}{ns:List Int}{bd:List Pair}(aa:pl.length=d)(h:PartOk d pl tr x vs)(W:atT (some tr) x.1=some (.two ns bd Y I)):∃ls hs:List Thing,PartOk d pl tr (x.1++[0],x.2) ls/\PartOk d pl tr (x.1++[1],x.2) hs/\(ls++hs).Perm vs:=by
 obtain⟨t',e,T⟩:=h.tree;rw[W] at e;cases e
 cases T with
 | @two _ ls hs _ _ _ pm hn ae hl hh =>
  have J:∀b:Int,(b=0\/b=1)->∀y∈x.1++[b],y=0\/y=1:=λb hb y hy=>by
   rcases zU.mp hy with hy |hy
   ·exact h.bit y hy
   ·rw[xi.mp hy];exact hb
  have m1:∀v∈ls,v∈vs:=λv hv=>pm.mem_iff.mp (xu _ hv);have m2:∀v∈hs,v∈vs:=λv hv=>pm.mem_iff.mp (zI _ hv)
  refine⟨ls,hs,⟨J 0 (.inl rfl),⟨Y,by rw[ZW,W];rfl,hl⟩,λe v hv=>h.yes e v (m1 v hv),λk e=>?_⟩,⟨J 1 (.inr rfl),⟨I,by rw[ZW,W];rfl,hh⟩,λe v hv=>h.yes e v (m2 v hv),λk e=>?_⟩,pm⟩
  ·obtain⟨k1,k2⟩:=h.no k e;exact⟨k1,za3 aa hl.ne m1 k1 k2⟩
  ·obtain⟨k1,k2⟩:=h.no k e;exact⟨k1,za3 aa hh.ne m2 k1 k2⟩
theorem vF(t:Tr):yO t=.tup [.tup ((vc t).map D.int),zK (vM t),wX (loO t),wX (hiO t)]:=by cases t<;>rfl
theorem jp:∀p:List Int,atT none p=none
 |[]=>rfl
 |x::p=>by show atT none p=none;exact jp p
theorem zc2{o:Option Tr}{p:List Int}{i:Nat}{y:Int}(h:p[i]?=some y):atT o (p.take (i+1))=atT (atT o (p.take i)) [y]:=by rw[xI,h,<- ZW];rfl
theorem zF1{o:Option Tr}{p:List Int}{i:Nat}(h:atT o (p.take i)=none):atT o p=none:=by
 rw[<- wl i p,ZW,h,jp]
theorem XE:∀{p:List Int}{a t:Tr},atT (some a) p=some t->p.length+Za t<=Za a
 |[],a,t,h=>by cases h;simp
 | x :: p, a, t, h => by
  have h':atT (if x=0 then loO a else hiO a) p=some t:=h
  cases a with
  |one y bd=>
   have e:(if x=0 then loO (.one y bd) else hiO (.one y bd))=none:=by split<;>rfl
   rw[e,jp] at h';cases h'
  |two ns bd l r=>
   have hd:Za (.two ns bd l r)=1+max (Za l) (Za r):=rfl;rw[hd,zL]
   by_cases hx:x=0
   ·rw[if_pos hx] at h';have:=XE (a:=l) h';lia
   ·rw[if_neg hx] at h';have:=XE (a:=r) h';lia
structure JTa(o:Option Tr)(p:List Int)(n i:Nat)(rho:Rho)(m:Nat):Prop where
 e:m=n
 r:∃(a b c d e:Option D),rho=[some (wX (atT o (p.take i))),some (.tup (p.map D.int)),a,b,c,d,e]
structure JLa(o:Option Tr)(p:List Int)(n i:Nat)(rho:Rho)(m:Nat):Prop where
 e:m=n
 r:∃(a:Option D),rho=[some (wX (atT o (p.take i))),some (.tup (p.map D.int)),a]
noncomputable def nmD(us:List Thing):D:=.tup (us.map λt=>.int t.1)
@[simp] theorem xF5(us:List Thing):we (nmD us)=true:=id rfl
theorem TreeOf.names{d:Nat}{vs:List Thing}{t:Tr}(h:TreeOf d vs t):(vc t).Perm (vs.map λt=>t.1):=by
 cases h with
 |one=>exact .refl _
 |two J I=>exact I
theorem Shares.mem{d:Nat}{J:List Pair}{tr:Tr}{x:Part}:∀{xs:List Part}{I:List (List Thing)},Shares d J tr xs I->x∈xs->∃vs,PartOk d J tr x vs
 |_,_,.nil,h=>by simp at h
 |_,_,.cons a r,h=>by
  rcases zt.mp h with rfl |h
  ·exact⟨_,a⟩
  ·exact r.mem h
section
variable {P:Program}{w:World}{K:W.Frag}{mg:QqM}{base:Heap}{f:Addr}{fd:FuncData}
noncomputable abbrev XQ:Stmt:=top 21
noncomputable abbrev zw1:List Str:=["tree","path","turn","names","limits","low","high"]
theorem kD:FnScope zw1 ["tree","path"] (zV XQ):=⟨rfl,rfl,rfl,x5,rfl,x5,x5⟩
noncomputable def XG:TF:=λds n Q=>∃(o:Option Tr) (p:List Int),ds=[wX o,.tup (p.map D.int)]/\Q (wX (atT o p)) n
theorem ze3(F:Fun K "tree_at" "tree_at" XQ f fd):FnOk P w K mg base CX0 1 f fd ["tree","path"] (spD K 2 XG):=by
 refine Fun.okD F kD (λaa A0 outer s H E G Z hr=>(zq (ki (m:=7) PassesOwn.never rfl (vk rfl (zd 1)) (xp (i:=2) kD.nd rfl (lo rfl) x4)
  (zq (wV (xF kz ku (zd 0) yc (xJ _)) (zA (xb yc)) xN)
  (zq (ZN (m:=7) (zd 0) (kH (k:=4) rfl rfl (wr (xp (i:=3) kD.nd rfl (lo rfl) x4) (wr (xp (i:=4) kD.nd rfl (lo rfl) x4) (wr (xp (i:=5) kD.nd rfl (lo rfl) x4) (wr (xp (i:=6) kD.nd rfl (lo rfl) x4) vI))))))
  (zA (wg (i:=0) kD.nd rfl (lo rfl) (Xi (xF jy jx (zd 2) zm (xJ _)) (zd 5) (zd 6)))))))
  (zA (xb (zd 0))))) ?_
 rintro ds n Q hl ⟨o,p,rfl,q⟩;simp[startD];refine⟨JTa o p n,⟨rfl,_,_,_,_,_,rfl⟩,?_,?_⟩
 ·rintro i d rho m e ⟨rfl, a, b, c, d1, e1, rfl⟩;rw[zv] at e
  cases h:p[i]? with
  |none=>rw[h] at e;cases e
  | some y =>
   rw[h] at e;cases e;have W:=zc2 (o:=o) h
   cases Y:atT o (p.take i) with
   |none=>
    have r:Q .non m:=by rw[zF1 Y] at q;exact q
    simp[wX];exact r
   | some t =>
    rw[Y] at W
    have ht':atT o (p.take (i+1))=if y=0 then loO t else hiO t:=W
    have nt:=yT t
    have ni:qj (yO t)=false:=by cases t<;>rfl
    have fin:∀(z a b c d:Option D) (J:D),J=(if y=0 then wX (loO t) else wX (hiO t))->JTa o p m (i+1) [some J,some (.tup (p.map D.int)),z,a,b,c,d] m:=λz a b c d J I=>by
     refine⟨rfl,z,a,b,c,d,?_⟩;rw[ht',I]
     split<;>rfl
    simp[wX,nt,ni];rw[vF];simp
    by_cases hy:y=0
    ·simp [hy]
     exact fin _ _ _ _ _ _ (by rw[if_pos hy])
    ·simp [hy]
     exact fin _ _ _ _ _ _ (by rw[if_neg hy])
 ·rintro rho m ⟨rfl,a,b,c,d1,e1,rfl⟩;rw[zh,wy];simp;exact q
noncomputable abbrev XV:Stmt:=top 47
noncomputable abbrev zw4:List Str:=["_law_tree_here","_law_path","_law_step"]
theorem Yy:FnScope zw4 ["_law_tree_here","_law_path"] (zV XV):=⟨rfl,rfl,rfl,x5,rfl,x5,x5⟩
theorem xb7(F:Fun K "_law_at" "_law_at" XV f fd):FnOk P w K mg base CX0 1 f fd ["_law_tree_here","_law_path"] (spD K 2 λds n Q=>∃(o:Option Tr) (p:List Int),ds=[wX o,.tup (p.map D.int)]/\(∀y∈p,y=0\/y=1)/\Q (wX (atT o p)) n):=by
 refine Fun.okD F Yy (λaa A0 outer s H E G Z hr=>(zq (ki (m:=3) PassesOwn.never rfl (vk rfl (zd 1)) (xp (i:=2) Yy.nd rfl (lo rfl) x4)
  (zA (wg (i:=0) Yy.nd rfl (lo rfl) (Xi (xF kz ku (zd 0) yc (xJ _)) yc (xV xn xU (zd 0) (ky zm (zd 2)) (λ_ _=>rfl))))))
  (zA (xb (zd 0))))) ?_
 rintro ds n Q hl ⟨o,p,rfl,hp,q⟩;simp[startD];refine⟨JLa o p n,⟨rfl,_,rfl⟩,?_,?_⟩
 ·rintro i d rho m e ⟨rfl, a, rfl⟩;rw[zv] at e
  cases h:p[i]? with
  |none=>rw[h] at e;cases e
  | some y =>
   rw[h] at e;cases e;have I:=zc2 (o:=o) h;have hy:=hp y (xk h)
   cases J:atT o (p.take i) with
   |none=>
    rw[J] at I;simp[wX]
    exact⟨rfl,_,by rw[I];rfl⟩
   |some t=>
    rw[J] at I
    have ht':atT o (p.take (i+1))=if y=0 then loO t else hiO t:=I
    have W:=yT t
    have Y:qj (yO t)=false:=by cases t<;>rfl
    simp[wX,W,Y];rw[vF]
    rcases hy with rfl |rfl
    ·exact⟨_,2,_,.inr (.inl rfl),rfl,rfl,rfl,_,by rw[ht'];rfl⟩
    ·exact⟨_,3,_,.inr (.inl rfl),rfl,rfl,rfl,_,by rw[ht'];rfl⟩
 ·rintro rho m ⟨rfl,a,rfl⟩;rw[zh,wy];simp;exact q
noncomputable def zK2:TF:=λds n Q=>∃(o:Option Tr) (p:List Int),ds=[wX o,.tup (p.map D.int)]/\(∀y∈p,y=0\/y=1)/\Q (wX (atT o p)) n
end
theorem zt5(x:D)(es:List D):Xq (x::es) (some 1) none=es:=by
 unfold Xq;rw[show(some (1:Int))=some ((1:Nat):Int) from rfl,HT.Qa,HT.Ul];simp
@[simp] theorem zP6(x:Part):we (xm x)=true:=by
 obtain⟨p,k⟩:=x
 cases k<;>rfl
theorem zB8(x:Part)(k:Nat):okE (xm x) (k+2)=true:=by
 have hi:∀p:List Int,okE (.tup (p.map D.int)) (k+1)=true:=λp=>jW.mpr λd hd=>by
  obtain⟨x,_,rfl⟩:=zQ.mp hd;exact jj
 obtain⟨p,j⟩:=x
 cases j with
 |none=>
  refine jW.mpr λd hd=>?_;simp only[zt,zW,or_false] at hd
  rcases hd with rfl |rfl
  ·exact hi p
  ·simp[okE]
 |some j=>
  refine jW.mpr λd hd=>?_;simp only[zt,zW,or_false] at hd
  rcases hd with rfl |rfl |rfl |rfl
  ·exact hi p
  ·simp[okE]
  ·exact jj
  ·exact jj
structure JMx(xs:List Part)(m:Nat)(rho:Rho)(n:Nat):Prop where
 e:n=3
 r:∃row found:List Part,m=row.length/\(row++found).Perm xs/\rho=[some .st,some (.tup (xs.map xm)),some (.own (row.map xm)),some (.own (found.map xm))]
theorem Ja{α β:Type}(f:α->β):∀(l:List α) (k:Nat),(l.eraseIdx k).map f=(l.map f).eraseIdx k
 |[],k=>rfl
 |a::l,0=>rfl
 |a::l,k+1=>by
  show f a::(l.eraseIdx k).map f=f a::(l.map f).eraseIdx k;rw[Ja f l k]
theorem VC{α:Type}:∀{l:List α}{k:Nat}{x:α},l[k]?=some x->(x::l.eraseIdx k).Perm l
 |a::l,0,x,h=>by cases h;exact .refl _
 |a::l,k+1,x,h=>by
  have I:=VC (l:=l) (k:=k) (x:=x) (by simpa using h)
  exact(List.Perm.swap a x _).trans (I.cons a)
theorem Shares.get{d:Nat}{J:List Pair}{tr:Tr}{x:Part}:∀{xs:List Part}{I:List (List Thing)}{i:Nat},Shares d J tr xs I->xs[i]?=some x->∃vs,I[i]?=some vs/\PartOk d J tr x vs
 |_,_,i,.nil,h=>by simp at h
 |_,_,0,.cons a r,h=>by cases h;exact⟨_,rfl,a⟩
 |_,_,i+1,.cons a r,h=>by
  obtain⟨vs,e,ok⟩:=r.get (i:=i) (by simpa using h)
  exact⟨vs,by simpa using e,ok⟩
theorem Shares.len{d:Nat}{J:List Pair}{tr:Tr}:∀{xs:List Part}{I:List (List Thing)},Shares d J tr xs I->xs.length=I.length
 |_,_,.nil=>rfl
 |_,_,.cons a r=>by rw[zL,zL,r.len]
structure JFn(d:Nat)(pl:List Pair)(tr:Tr)(xs:List Part)(vss:List (List Thing))(i:Nat)(rho:Rho)(n:Nat):Prop where
 e:n=3
 r:∃(ys:List Part) (wss:List (List Thing)) (a b c e:Option D),Shares d pl tr ys wss/\wss.flatten.Perm (vss.take i).flatten/\ys.length<=2*i/\rho=[some .st,some (yO tr),some (zK pl),some (.tup (xs.map xm)),some (.own (ys.map xm)),a,b,c,e]
section
variable {P:Program}{w:World}{K:W.Frag}{mg:QqM}{base:Heap}{f:Addr}{fd:FuncData}
noncomputable abbrev jL:Stmt:=top 48
noncomputable abbrev JD:List Str:=["_law_left_here","_law_parts_here","_law_row","_law_found"]
theorem Yh:FnScope JD q18 (zV jL):=⟨rfl,rfl,rfl,x5,rfl,x5,x5⟩
noncomputable def JP:TF:=λds n Q=>∃xs:List Part,ds=[.st,.tup (xs.map xm)]/\n=3/\xs.length<=900/\∀ys:List Part,ys.Perm xs->Q (.tup (ys.map xm)) 3
theorem zB1(T:Blt mg)(F:Fun K "_law_mixed" "_law_mixed" jL f fd)(Y_pick:Fn P w K mg base "_law_pick" 1 2 jt):FnOk P w K mg base CX0 2 f fd q18 (spD K 2 JP):=by
 refine Fun.okD F Yh (λae A0 outer s H E G Z hr=>(zq (zl1 (i:=2) (j:=3) rfl rfl T.list Yh.nd rfl rfl x4 rfl rfl (zb (zd 1) zf))
  (zq (zl0 PassesOwn.never (Kz (i:=2) hr rfl)
  (zA (zd5 (i:=3) (j:=2) (zb (xQ Y_pick (hr.mono x4) rfl (zb (zd 0) (zb (KD (i:=2) T.len rfl) zf))) zf) rfl)))
  (zA (je 3 (xb (wS yd vV T.tuple yF (zb (zd 3) zf)))))))) ?_
 rintro ds n Q hl ⟨xs,rfl,rfl,hz,q⟩;simp[startD]
 refine⟨JMx xs,⟨xs.length,rfl,xs,[],rfl,by simp,rfl⟩,?_⟩
 rintro m rho n' ⟨rfl,Y,I,rfl,hp,rfl⟩;have J:=hp.length_eq;rw[zr] at J
 have aa:okE (.lst (Y.map xm)) 20=true:=Qj.mpr λd hd=>by
  obtain⟨x,_,rfl⟩:=zQ.mp hd;exact zB8 x 17
 simp;refine⟨aa,?_⟩
 cases W:Y with
 |nil=>
  rw[W] at hp;simp[jz]
  exact q I (by simpa using hp)
 | cons y r =>
  have e0:jz ((y::r).map xm) []=false:=rfl;rw[e0];rw[W] at hp J;rw[zL] at J;simp
  refine⟨lt_size x3,xy x3 x3 λk g0 g1=>?_⟩
  obtain⟨k,rfl⟩:=zZ g0
  have hk:k<(y::r).length:=by rw[zL];lia
  have hg:(y::r)[k]?=some (y::r)[k]:=ze hk;generalize (y::r)[k]=x at hg
  refine⟨k,rfl,x3,xm x,⟨x.1,x.2,hg,rfl⟩,r.length,x3,rfl,(y::r).eraseIdx k,I++[x],?_,?_,?_⟩
  ·rw[List.length_eraseIdx,if_pos hk];simp
  ·refine List.Perm.trans ?_ hp;have z:=(VC hg).append_right I;refine List.Perm.trans ?_ z;rw[<- wq];exact(List.perm_append_comm (l₁:=(y::r).eraseIdx k++I) (l₂:=[x]))
  ·rw [xx]
   have e1:((y::r).eraseIdx k).map xm=(xm y::r.map xm).eraseIdx k:=by rw[<- al_List_map_cons,Ja]
   rw[e1];rfl
noncomputable abbrev jN:Stmt:=top 49
noncomputable abbrev Zj:List Str:=["_law_left_here","_law_tree_here","_law_plain_here","_law_parts_here","_law_found","_law_part","_law_one","_law_some","_law_k"]
theorem vv:FnScope Zj q19 (zV jN):=⟨rfl,rfl,rfl,x5,rfl,x5,x5⟩
theorem Wn:("_law_k" :: ["_law_left_here","_law_tree_here","_law_plain_here","_law_parts_here","_law_found","_law_part","_law_one","_law_some","_law_k'"]:List Str).Nodup:=x5
theorem Wm:("_law_side" :: Zj:List Str).Nodup:=x5
noncomputable def JS:TF:=λds n Q=>∃(d:Nat) (W:List Pair) (tr:Tr) (xs:List Part) (J:List (List Thing)),ds=[.st,yO tr,zK W,.tup (xs.map xm)]/\n=3/\W.length=d/\d<=4/\Shares d W tr xs J/\xs.length<=200/\Za tr<=200/\∀(ys:List Part) (I:List (List Thing)),Shares d W tr ys I->I.flatten.Perm J.flatten->ys.length<=2*xs.length->Q (.tup (ys.map xm)) 3
theorem zB6(T:Blt mg)(F:Fun K "_law_finer" "_law_finer" jN f fd)(Y_pick:Fn P w K mg base "_law_pick" 1 2 jt)(Y_at:Fn P w K mg base "_law_at" 1 2 zK2)(Y_beyond:Fn P w K mg base "_law_beyond" 1 4 qS):FnOk P w K mg base CX0 2 f fd q19 (spD K 4 JS):=by
 refine Fun.okD F vv (λaz A0 outer s H E G Z hr=>(zq (ZP (i:=4) vv.nd rfl (lo rfl) zf)
  (zq (ki (m:=9) PassesOwn.never rfl (vk rfl (zd 3)) (xp (i:=5) vv.nd rfl (lo rfl) x4)
  (zq (wg (i:=6) vv.nd rfl (lo rfl) (xQ Y_at (hr.mono x4) rfl (zb (zd 1) (zb (xV xn xU (zd 5) zm (λ_ _=>rfl)) zf))))
  (zq (wV (xF jy jx (xV xn xU (zd 5) zm (λ_ _=>rfl)) vC (xJ _)) (zq (ZO (i:=7) vv.nd rfl (lo rfl) (own:=["_law_k"]) (M:=["_law_left_here","_law_tree_here","_law_plain_here","_law_parts_here","_law_found","_law_part","_law_one","_law_some","_law_k'"]) (vS (by rfl)) rfl (qc T.range (zb (jU zm (xr xR vG T.len vB (zb (zd 2) zf))) zf)) (λ_ _ _ _=>(xp (i:=0) Wn rfl (lo rfl) x4)) (λ_ _ _ _=>(zz3 (vb (xQ Y_beyond (hr.mono x4) rfl (zb (xV xn xU (zd 7) zm (λ_ _=>rfl)) (zb (zd 3) (zb (Xa (zd 0) zm) (zb (qw (zd 0) zm) zf)))))))) (λ_ _ _ _=>(zd 0)))
  (zq (wg (i:=8) vv.nd rfl (lo rfl) (xV xn xU (zd 7) (xQ Y_pick (hr.mono x4) rfl (zb (zd 0) (zb (xr xR vG T.len vB (zb (zd 7) zf)) zf))) (λ_ _=>rfl)))
  (zA (wg (i:=5) vv.nd rfl (lo rfl) (wk (zb (xV xn xU (zd 5) zm (λ_ _=>rfl)) (zb vC (zb (Xa (zd 8) zm) (zb (qw (zd 8) zm) zf))))))))) xN)
  (zA (wV (PWD.pt (qb (xF qC qB (xV xn xU (zd 6) zm (λ_ _=>rfl)) yc (xJ _)) (qv (xF jy jx (xQ Y_pick (hr.mono x4) rfl (zb (zd 0) (zb zm zf))) zm (xJ _))))) (zA (Vp (i:=4) (zb (vD (own:=["_law_side"]) (M:=Zj) (vS (by rfl)) rfl (vk rfl (wk (zb zm (zb zm zf)))) (λ_ _ _ _=>(xp (i:=0) Wm rfl (lo rfl) x4)) (λ_ _ _ _=>yM) (λ_ _ _ _=>(kT vJ kG (wk (zb (kT vJ kG (xV xn xU (zd 6) zm (λ_ _=>rfl)) (wk (zb (zd 0) zf))) zf)) (YZ rfl (zd 6) (kI zm) kJ)))) zf) rfl)) (zA (kb (i:=4) (zb (zd 5) zf) rfl)))))))
  (zA (je 4 (xb (wS yd vV T.tuple yF (zb (zd 4) zf)))))))) ?_
 rintro ds n Q hl ⟨d,I,tr,xs,W,rfl,rfl,ai,ax,S,hz,aw,q⟩;have ag:=yT tr;generalize aq:sIf (xz2 _ _) _ _=B2;simp[startD,ag]
 refine⟨JFn d I tr xs W,⟨rfl,[],[],none,none,none,none,.nil,.refl _,by simp,rfl⟩,?_,?_⟩
 ·rintro i dd rho m e ⟨rfl, ys, Y, a, b, c, e1, S1, p1, l1, rfl⟩;rw[zv] at e
  cases h:xs[i]? with
  |none=>rw[h] at e;cases e
  | some x =>
   rw[h] at e;cases e;have hi:i<xs.length:=(zu.mp h).1;obtain⟨vs,aj,ok⟩:=S.get h;obtain⟨t,aa,TT⟩:=ok.tree;have nt:=yT t
   have ah:(W.take (i+1)).flatten=(W.take i).flatten++vs:=by rw[xI,aj];simp
   have av:=XE aa
   have r1:∀R:D->Prop,R (zK (vM t))->Yi (yO t) (.int 1) R:=λR h=>by rw[vF];exact⟨_,1,_,.inr (.inl rfl),rfl,rfl,h⟩
   have r2:∀R:D->Prop,R (wX (loO t))->Yi (yO t) (.int 2) R:=λR h=>by rw[vF];exact⟨_,2,_,.inr (.inl rfl),rfl,rfl,h⟩
   have J:(ys.map xm).length<900:=by rw[zh];lia
   have one:∀(k':Option Nat) (c e:Option D),PartOk d I tr (x.1,k') vs->JFn d I tr xs W (i+1) [some .st,some (yO tr),some (zK I),some (.tup (xs.map xm)),some (.own (ys.map xm++[xm (x.1,k')])),some (xm (x.1,k')),some (yO t),c,e] 3:=λk' c e ok'=>by
    refine⟨rfl,ys++[(x.1,k')],Y++[vs],_,_,c,e,S1.app (.cons ok' .nil),?_,by rw[zr];simp;lia,by rw[xx];rfl⟩
    rw[List.flatten_append,ah];simp;exact p1.append_right _
   have cont:∀(k':Option Nat) (F:EndsD) (c e:Option D),F.nx=JFn d I tr xs W (i+1)->PartOk d I tr (x.1,k') vs->B2 F [some .st,some (yO tr),some (zK I),some (.tup (xs.map xm)),some (.own (ys.map xm)),some (xm (x.1,k')),some (yO t),c,e] 3:=λk' F c e hF ok'=>by
    subst aq;simp[nt];refine r2 _ ?_
    cases ht:t with
    |one y bd=>
     simp[loO,wX];rw[hF,<- ht]
     exact⟨lt_size (by rw[zh] at J;lia),one k' c e ok'⟩
    | two ns bd af ar =>
     have nl:=yT af
     have ni:qj (yO af)=false:=by cases af<;>rfl
     simp[loO,wX,nl,ni]
     refine xy x4 x4 λk g0 g1=>?_
     simp;rw[hF]
     split
     ·obtain ⟨ls, hs, o1, o2, pm⟩ := ok'.split (t := t) ai (by rw [aa, ht])
      have ib:[D.int 0,D.int 1]=([0,1]:List Int).map D.int:=rfl;rw[ib]
      refine yi D.int (λs=>xm (x.1++[s],k')) [0,1] (xY (by simp)) (λs hs' R hR=>?_) ?_
      ·have ep : ∀ r : List D, xm (x.1, k') = .tup (.tup (x.1.map D.int) :: r) -> xm (x.1 ++ [s], k') = .tup (.tup (x.1.map D.int ++ [.int s]) :: r) := λr e => by
        cases k' with
        |none=>cases e;show D.tup [.tup ((x.1++[s]).map D.int),_]=_;rw[xx];rfl
        |some k'=>cases e;show D.tup [.tup ((x.1++[s]).map D.int),_,_,_]=_;rw[xx];rfl
       obtain⟨r,er,hrl⟩:∃r,xm (x.1,k')=.tup (.tup (x.1.map D.int)::r)/\r.length<=3:=by cases k'<;>exact⟨_,rfl,by simp⟩
       rw[ep r er] at hR;rw[er];simp[zt5]
       exact⟨xY x3,xY x3,hR⟩
      ·refine ⟨_, rfl, xY (by rw [zh] at J ⊢; simp; lia), rfl, ys ++ [(x.1 ++ [0], k'), (x.1 ++ [1], k')], Y ++ [ls, hs], _, _, c, e, S1.app (.cons o1 (.cons o2 .nil)), ?_, by rw [zr]; simp; lia, by rw [xx]; rfl⟩
       rw[List.flatten_append,ah];simp;exact p1.append pm
     ·rw [<- ht]
      exact⟨lt_size (by rw[zh] at J;lia),one k' c e ok'⟩
   have i0:∀R:D->Prop,R (.tup (x.1.map D.int))->Yi (xm x) (.int 0) R:=λR h=>by
    obtain⟨p,k⟩:=x
    cases k<;>exact⟨_,0,_,.inr (.inl rfl),rfl,rfl,h⟩
   have nx:=zP6 x;simp[ag];refine i0 _ ⟨some tr,x.1,rfl,ok.bit,?_⟩;rw[aa]
   cases hk:x.2 with
   |none=>
    have ex:x=(x.1,none):=by rw[<- hk]
    have i1:∀R:D->Prop,R (.str "in")->Yi (xm x) (.int 1) R:=λR h=>by rw[ex];exact⟨_,1,_,.inr (.inl rfl),rfl,rfl,h⟩
    refine i1 _ ?_;simp;have z:=cont none;rw[<- ex] at z;exact z _ _ _ rfl ok
   | some k0 =>
    have ex:x=(x.1,some k0):=by rw[<- hk]
    have i1:∀R:D->Prop,R (.str "out")->Yi (xm x) (.int 1) R:=λR h=>by rw[ex];exact⟨_,1,_,.inr (.inl rfl),rfl,rfl,h⟩
    obtain⟨k1,k2⟩:=ok.no k0 hk;refine i1 _ ?_;simp;refine Wa ?_;simp
    have e:(2*(I.length:Int)).toNat=2*I.length:=x3
    refine⟨.inl ⟨x4,x4⟩,x3,x3,?_⟩
    rw[e,Uo]
    have ap:(vM t).length=I.length:=by rw[TT.bd,ko,ai]
    refine Qt (λk:Nat=>D.int (k:Int)) (Zt (vM t) I) (λk=>D.int (k:Int)) (List.range (2*I.length)) (by rw[wY];exact xY x3) (λk hk R S' h1 h2=>?_) ?_
    ·simp [wX, nt]
     refine r1 _ ⟨⟨x4,x4⟩,Ze ap (xD.mp hk) TT.sound.bd ?_⟩
     cases ho:Zt (vM t) I k with
     |true=>simp;exact h1 ho
     |false=>simp;exact h2 ho
    ·have hm : k0 ∈ (List.range (2 * I.length)).filter (Zt (vM t) I) := xf.mpr ⟨xD.mpr k1, by rw [TT.bd]; exact k2⟩
     have ae:∀k∈(List.range (2*I.length)).filter (Zt (vM t) I),k<2*I.length/\Zt (jB d (vs.map λt=>t.2.1)) I k=true:=λk hk=>by
      obtain⟨h1,h2⟩:=xf.mp hk
      exact⟨xD.mp h1,by rw[<- TT.bd];exact h2⟩
     have am:((List.range (2*I.length)).filter (Zt (vM t) I)).length<=2*I.length:=zy (List.length_filter_le ..) (by rw[wY];exact zi _)
     generalize (List.range (2*I.length)).filter (Zt (vM t) I)=L at hm ae am;have ay:0<L.length:=List.length_pos_of_mem hm;simp
     refine xy x3 x3 λkk g0 g1=>zN2 g0 (by simpa using g1) λdd ao=>?_
     obtain⟨k,ak,rfl⟩:=zQ.mp ao;refine i0 _ ?_;simp
     refine⟨⟨x4,x4⟩,?_⟩
     exact cont (some k) _ _ _ rfl ⟨ok.bit,⟨t,aa,TT⟩,λe=>(by cases e),λk' e=>by cases e;exact ae k ak⟩
 ·rintro rho m ⟨rfl, ys, Y, a, b, c, e1, S1, p1, l1, rfl⟩;rw[zh] at p1 l1
  rw[wK (by rw[<- S.len];exact zi _)] at p1
  simp;exact q ys Y S1 p1 l1
end
@[simp] theorem KQ{a b:String}:Str.ofString a=Str.ofString b ↔ a=b:=by
 constructor
 ·intro h;rw[Str.ofString_eq_toList,Str.ofString_eq_toList] at h;injection h with h
  have h2:a.toList.map Char.toNat=b.toList.map Char.toNat:=by simpa using h
  have h3:a.toList=b.toList:=List.map_inj_right (λx y e=>Char.ext (UInt32.toNat_inj.mp e)) |>.mp h2;exact String.toList_inj.mp h3
 ·intro h;rw[h]
@[simp] theorem q_rdEqS{x y:Str}{k:D->Prop}:zG5 (.str x) (.str y) k↔k (.bl (decide (x=y))):=by
 have e:decide (ofS (.str x)=ofS (.str y))=decide (x=y):=by simp[ofS]
 exact⟨λh=>by have:=h.2.2.2;rwa [e] at this,λh=>⟨rfl,rfl,rfl,by rw[e];exact h⟩⟩
@[simp] theorem xq9{x y:Str}{k:D->Prop}:zT3 (.str x) (.str y) k↔k (.bl (!decide (x=y))):=by
 have e:decide (ofS (.str x)=ofS (.str y))=decide (x=y):=by simp[ofS]
 exact⟨λh=>by have:=h.2.2.2;rwa [e] at this,λh=>⟨rfl,rfl,rfl,by rw[e];exact h⟩⟩
@[simp] theorem xy7{x y:String}:eqD (.str (Str.ofString x)) (.str (Str.ofString y))=decide (x=y):=by
 unfold eqD
 by_cases h:x=y
 ·subst h;simp
 ·have:¬ Str.ofString x=Str.ofString y:=λe=>h (KQ.mp e);simp[h,this]
@[simp] theorem xl8{x y:Str}:eqD (.str x) (.str y)=decide (x=y):=by
 unfold eqD
 by_cases h:x=y
 ·subst h;simp
 ·simp[h]
@[simp] theorem xi6{neg:Bool}{x a b:Str}{k:D->Prop}:xo4 neg (.str x) (.tup [.str a,.str b]) k ↔ k (.bl (if neg then !(decide (a=x) || decide (b=x)) else(decide (a=x) || decide (b=x)))):=by
 have e:inD (.str x) [.str a,.str b]=(decide (a=x)||decide (b=x)):=by
  unfold inD;simp
 constructor
 ·rintro ⟨_, es, h, _, h3⟩
  rcases h with h |h
  ·cases h;rw[e] at h3;exact h3
  ·cases h
 ·intro h
  exact⟨rfl,_,.inl rfl,rfl,by rw[e];exact h⟩
theorem XM:∀{l m:List Int},l.Perm m->l.Pairwise (·<=·)->m.Pairwise (·<=·)->l=m
  |[],m,p,_,_=>(List.nil_perm.mp p).symm
  |a::l,[],p,_,_=>by simp at p
  | a :: l, b :: m, p, h1, h2 => by
    have ha:a∈b::m:=p.mem_iff.mp (by simp)
    have I:b∈a::l:=p.mem_iff.mpr (by simp)
    have e:a=b:=by
      rcases zt.mp ha with h |h
      · exact h
      · rcases zt.mp I with h' | h'
        · exact h'.symm
        · have W := (wG.mp h1).1 b h'
          have J:=(wG.mp h2).1 a h;lia
    subst e;rw[XM (List.perm_cons _ |>.mp p) (wG.mp h1).2 (wG.mp h2).2]
noncomputable def zC7:List Str:=["in","far","out"]
noncomputable def zC6:List D:=[.int 2,.int 2,.int 4]
noncomputable def Ve:D:=.tup [.str "in",.str "out"]
noncomputable def vP:Option Tr->List Int
 |none=>[]
 |some t=>vc t
noncomputable def QK:D->Bool
 |.int _=>true
 |_=>false
noncomputable def Ww:D->Bool
 |.int i=>decide (0<=i)
 |_=>false
noncomputable def yP(d:D)(j:Int):Bool:=match d with
 |.int i=>decide (0<=i)&&decide (i<j)
 |_=>false
noncomputable def qd:D->Bool
 |.tup es=>es.all λe=>yP e 2
 |_=>false
noncomputable def Yb(d:Nat)(w:Str):List D->Bool
 |[]=>decide (w = "in")
 |[a,b]=>decide (w = "out")&&(yP a d&&yP b 2)
 |_=>false
noncomputable def jf(d:Nat):D->Bool
 |.tup (p::.str w::r)=>qd p&&Yb d w r
 |_=>false
theorem vL{x:D}{j:Int}:yP x j=true↔∃i:Int,x=.int i/\0<=i/\i<j:=by
 cases x<;>simp[yP]
theorem KG{x:D}(h:qd x=true):∃p:List Int,x=.tup (p.map D.int)/\∀y∈p,y=0\/y=1:=by
 cases x with
 | tup es =>
  have h':∀e∈es,yP e 2=true:=by simpa [qd] using h
  clear h
  induction es with
  |nil=>exact⟨[],rfl,by simp⟩
  |cons e es J=>
   obtain⟨p,I,W⟩:=J λx hx=>h' x (zG _ hx);obtain⟨i,rfl,i0,i1⟩:=vL.mp (h' e (xo ..))
   refine⟨i::p,by injection I with I;rw[al_List_map_cons,I],λy hy=>?_⟩
   rcases zt.mp hy with rfl |hy
   ·lia
   ·exact W y hy
 |_=>simp[qd] at h
theorem YL{p:List Int}(h:∀y∈p,y=0\/y=1):qd (.tup (p.map D.int))=true:=by
 simp only[qd,yw,xz];intro y hy
 rcases h y hy with rfl |rfl<;>rfl
theorem zm4{d:Nat}{x:D}(h:jf d x=true):∃y:Part,x=xm y/\(∀z∈y.1,z=0\/z=1)/\∀k,y.2=some k->k<2*d:=by
 unfold jf at h
 split at h
 ·rename_i p w r;rw[zE] at h;obtain⟨q,rfl,W⟩:=KG h.1;have I:=h.2;unfold Yb at I
  split at I
  ·have J : w = "in" := by simpa using I
   subst J
   exact⟨(q,none),rfl,W,λk hk=>by cases hk⟩
  ·rename_i a b;rw[zE,zE] at I;obtain⟨h1,h2,h3⟩:=I
   have J:w = "out" := by simpa using h1
   subst J;obtain⟨i,rfl,i0,i1⟩:=vL.mp h2;obtain⟨s,rfl,Y,s1⟩:=vL.mp h3;obtain⟨i,rfl⟩:=zZ i0;obtain⟨s,rfl⟩:=zZ Y;refine⟨(q,some (2*i+s)),?_,W,λk hk=>?_⟩
   ·have e1 : (2 * i + s) / 2 = i := by lia
    have e2:(2*i+s)%2=s:=x3
    show _=D.tup [.tup (q.map D.int),.str "out",.int (((2*i+s)/2:Nat):Int),.int (((2*i+s)%2:Nat):Int)];rw[e1,e2]
   ·cases hk;lia
  ·cases I
 ·cases h
theorem zm3{d:Nat}{y:Part}(h1:∀z∈y.1,z=0\/z=1)(h2:∀k,y.2=some k->k<2*d):jf d (xm y)=true:=by
 obtain⟨q,o⟩:=y
 cases o with
 |none=>
  show(qd (.tup (q.map D.int))&&Yb d "in" [])=true;rw[YL h1];rfl
 |some k=>
  have hk:=h2 k rfl;show(qd (.tup (q.map D.int))&&(decide (("out" : Str) = "out")&&(yP (.int ((k/2:Nat):Int)) d&&yP (.int ((k%2:Nat):Int)) 2)))=true;rw[YL h1]
  have a1:yP (.int ((k/2:Nat):Int)) d=true:=vL.mpr ⟨_,rfl,x3,x3⟩
  have a2:yP (.int ((k%2:Nat):Int)) 2=true:=vL.mpr ⟨_,rfl,x3,x3⟩
  rw[a1,a2];simp
theorem kM{e:D}(h:¬∃fs,e=.tup fs):Ka "tuple" e=false:=by cases e<;>first |exact absurd ⟨_,rfl⟩ h |rfl
theorem za8{e:D}(h:¬∃x,e=.str x):Ka "str" e=false:=by cases e<;>first |exact absurd ⟨_,rfl⟩ h |rfl
@[simp] theorem xx8{fs:List D}:Ka "tuple" (.tup fs)=true:=rfl
@[simp] theorem xx7{x:Str}:Ka "str" (.str x)=true:=rfl
@[simp] theorem xe7{fs:List D}:kf (.tup fs)=true:=rfl
@[simp] theorem xe8{x:Str}:kf (.str x)=true:=rfl
theorem UC{d:D}(h:kf d=true):we d=true:=by cases d<;>first |rfl |(simp[kf] at h;done)
section
variable {P:Program}{w:World}{K:W.Frag}{mg:QqM}{base:Heap}{f:Addr}{fd:FuncData}
noncomputable abbrev YB:Stmt:=top 1
noncomputable abbrev zg7:List Str:=["thing"]
theorem JW:FnScope zg7 q1 (zV YB):=⟨rfl,rfl,rfl,x5,rfl,x5,x5⟩
noncomputable def JM:TF:=λds n Q=>∃d:D,ds=[d]/\kf d=true/\Q (.bl (QK d)) n
theorem zA6(T:Blt mg)(F:Fun K "is_whole" "is_whole" YB f fd):FnOk P w K mg base CX0 1 f fd q1 (spD K 1 JM):=by
 refine Fun.okD F JW (λJ A0 outer s H E G Z W=>(zA (xb (qx (xr vn kO T.isi kP (zb (zd 0) (zb (jS (hm:=T.int) (hv:=Jt)) zf))) (qL (za1 (xr vn kO T.isi kP (zb (zd 0) (zb (jS (hm:=T.bool) (hv:=UN)) zf))))))))) ?_;rintro ds n Q Y ⟨d,rfl,hd,q⟩;have I:=UC hd;simp[startD,I,hd]
 cases d<;>first |(simp[Ka,QK] at q ⊢;exact q) |(simp[kf] at hd;done)
noncomputable abbrev qA:Stmt:=top 2
noncomputable abbrev Vd:List Str:=["thing"]
theorem XO:FnScope Vd q1 (zV qA):=⟨rfl,rfl,rfl,x5,rfl,x5,x5⟩
noncomputable def zi7:TF:=λds n Q=>∃d:D,ds=[d]/\kf d=true/\Q (.bl (Ww d)) n
theorem zO6(F:Fun K "is_from_zero" "is_from_zero" qA f fd)(F_is_whole:Fn P w K mg base "is_whole" 1 1 JM):FnOk P w K mg base CX0 2 f fd q1 (spD K 1 zi7):=by
 refine Fun.okD F XO (λW A0 outer s H E G Z I=>(zA (xb (qx (xQ F_is_whole (I.mono x4) rfl (zb (zd 0) zf)) (qL (kw xb0 zW9 (zd 0) zm (xJ _))))))) ?_
 rintro ds n Q Y ⟨d,rfl,hd,q⟩;have J:=UC hd;simp[startD,J];refine⟨d,rfl,hd,?_⟩
 cases d with
 |int i=>simp[QK];exact q
 |_=>simp[QK];exact q
noncomputable abbrev YC:Stmt:=top 3
noncomputable abbrev zg8:List Str:=["thing","limit"]
theorem JX:FnScope zg8 ["thing","limit"] (zV YC):=⟨rfl,rfl,rfl,x5,rfl,x5,x5⟩
noncomputable def VT:TF:=λds n Q=>∃(d:D) (j:Int),ds=[d,.int j]/\kf d=true/\Q (.bl (yP d j)) n
theorem zB7(F:Fun K "is_below" "is_below" YC f fd)(F_is_from_zero:Fn P w K mg base "is_from_zero" 2 1 zi7):FnOk P w K mg base CX0 3 f fd ["thing","limit"] (spD K 2 VT):=by
 refine Fun.okD F JX (λY A0 outer s H E G Z J=>(zA (xb (qx (xQ F_is_from_zero (J.mono x4) rfl (zb (zd 0) zf)) (qL (kw zm6 zy5 (zd 0) (zd 1) (xJ _))))))) ?_
 rintro ds n Q hl ⟨d,j,rfl,hd,q⟩;have W:=UC hd;simp[startD,W];refine⟨d,rfl,hd,?_⟩
 cases d with
 |int i=>
  have q:Q (.bl (decide (0<=i)&&decide (i<j))) n:=q;simp[Ww]
  by_cases I:0<=i
  ·rw[xC I,yE] at q;simp[I];exact q
  ·rw[zS I,yp] at q;simp[I];exact q
 |_=>simp[Ww];exact q
noncomputable abbrev XT:Stmt:=top 24
noncomputable abbrev WI:List Str:=["thing"]
theorem zd1:FnScope WI q1 (zV XT):=⟨rfl,rfl,rfl,x5,rfl,x5,x5⟩
theorem KU:("turn" :: WI:List Str).Nodup:=x5
noncomputable def zi9:TF:=λds n Q=>∃d:D,ds=[d]/\okA d=true/\Q (.bl (qd d)) n
theorem zO8(T:Blt mg)(F:Fun K "is_path" "is_path" XT f fd)(F_is_below:Fn P w K mg base "is_below" 3 2 VT):FnOk P w K mg base CX0 4 f fd q1 (spD K 1 zi9):=by
 refine Fun.okD F zd1 (λaa A0 outer s H E G Z hr=>(zA (xb (qx (xr vn kO T.isi kP (zb (zd 0) (zb (jS (hm:=T.tuple) (hv:=yF)) zf))) (qL (xr (XD rfl) zb4 T.all zc0 (zb (vD (own:=["turn"]) (M:=WI) (vS (by rfl)) rfl (vk rfl (zd 0)) (λC W H2 fp=>(xp (i:=0) KU rfl (lo rfl) x4)) (λC W H2 fp=>yM) (λC W H2 fp=>(xQ F_is_below (hr.mono x4) rfl (zb (zd 0) (zb zm zf))))) zf))))))) ?_
 rintro ds n Q hl ⟨d,rfl,hd,q⟩;have ho:=yX hd;have hi:=vE hd
 by_cases I:∃es,d=.tup es
 ·obtain ⟨es, rfl⟩ := I;obtain⟨hz,Y⟩:=jk.mp hd;simp[startD]
  have e1:es=es.map id:=by simp
  rw[e1];refine yi id (λe=>.bl (yP e 2)) es (xY hz) (λe J R hR=>?_) ?_
  ·have oe:=yX (Y e J);simp[oe];exact⟨e,2,rfl,vE (Y e J),hR⟩
  ·refine ⟨es.map λe => yP e 2, by rw [xg]; rfl, ?_⟩
   have e2:(es.map λe=>yP e 2).all id=qd (.tup es):=by simp[qd,yw]
   rw[e2];exact q
 ·have e : qd d = false := by cases d <;> first | rfl | exact absurd ⟨_, rfl⟩ I
  rw[e] at q;simp[startD,kM I,ho,hi];exact q
noncomputable abbrev XU:Stmt:=top 25
noncomputable abbrev zw3:List Str:=["thing","words","d","word"]
theorem Vj:FnScope zw3 q5 (zV XU):=⟨rfl,rfl,rfl,x5,rfl,x5,x5⟩
noncomputable def XI:TF:=λds n Q=>∃(x:D) (d:Nat),ds=[x,Ve,.int (d:Int)]/\okA x=true/\Q (.bl (jf d x)) n
theorem ze7(T:Blt mg)(G_LENGTHS:xz6 w K mg "LENGTHS" zC7 zC6)(F:Fun K "is_part" "is_part" XU f fd)(F_is_path:Fn P w K mg base "is_path" 4 1 zi9)(F_is_below:Fn P w K mg base "is_below" 3 2 VT):FnOk P w K mg base CX0 5 f fd q5 (spD K 3 XI):=by
 refine Fun.okD F Vj (λae A0 outer s H E G Z hr=>(zq (wV (vX (PWD.pt (qb (vb (xr vn kO T.isi kP (zb (zd 0) (zb (jS (hm:=T.tuple) (hv:=yF)) zf)))) (qb (xF WP WN (xr xR vG T.len vB (zb (zd 0) zf)) zm (xJ _)) (qb (vb (xQ F_is_path (hr.mono x4) rfl (zb (xV xn xU (zd 0) zm (λ_ _=>rfl)) zf))) (qv (vb (xr vn kO T.isi kP (zb (xV xn xU (zd 0) zm (λ_ _=>rfl)) (zb (jS (hm:=T.str) (hv:=zJ2)) zf)))))))))) (zA (xb kU)) xN)
  (zq (wg (i:=3) Vj.nd rfl (lo rfl) (xV xn xU (zd 0) zm (λ_ _=>rfl)))
  (zq (wV (vX (PWD.pt (qb (xF zm7 (zW8 (neg:=false)) (zd 3) (zd 1) (by with_unfolding_all rfl)) (qv (xF jy jx (xr xR vG T.len vB (zb (zd 0) zf)) (xa4 G_LENGTHS rfl (zd 3) (λ_ _=>rfl)) (xJ _)))))) (zA (xb kU)) xN)
  (zA (xb (xw0 (kw ze2 zd4 (zd 3) vC (xJ _)) (qL (qx (xQ F_is_below (hr.mono x4) rfl (zb (xV xn xU (zd 0) zm (λ_ _=>rfl)) (zb (zd 2) zf))) (qL (xQ F_is_below (hr.mono x4) rfl (zb (xV xn xU (zd 0) zm (λ_ _=>rfl)) (zb zm zf))))))))))))) ?_
 rintro ds n Q hl ⟨x,d,rfl,hx,q⟩;have a1:atS zC7 zC6 "in" = some (.int 2):=rfl
 have a2:atS zC7 zC6 "out" = some (.int 4):=by simp[L2.atS,zC7,zC6]
 have nw:we Ve=true:=rfl;have ho:=yX hx;have hi:=vE hx
 by_cases W:∃es,x=.tup es
 ·obtain ⟨es, rfl⟩ := W;obtain⟨hz,J⟩:=jk.mp hx
  match es,J with
  |[],_=>simp[startD,nw];exact q
  |[a],_=>simp[startD,nw];exact q
  | p :: v :: r, J =>
   have hp:=J p (by simp)
   have hv:=J v (by simp)
   have op:=yX hp;have ov:=yX hv;have iv:=vE hv
   have c1:(1:Int)<(r.length:Int)+1+1:=x3
   simp[startD,nw,op,c1];refine⟨p,rfl,hp,?_⟩
   cases aa:qd p with
   | false =>
    have e:jf d (.tup (p::v::r))=false:=by
     cases v<;>simp[jf,aa]
    rw[e] at q;simp;exact q
   | true =>
    by_cases hs:∃I,v=.str I
    ·obtain ⟨I, rfl⟩ := hs
     have e:jf d (.tup (p::.str I::r))=Yb d I r:=by simp[jf,aa]
     rw[e] at q;simp[Ve]
     by_cases w1:I = "in"
     ·subst w1;simp[a1]
      match r,q with
      |[],q=>simp;exact q
      | b :: r', q =>
       have Y:Yb d "in" (b::r')=false:=by
        match r' with
        |[]=>rfl
        |[_]=>simp[Yb]
        |_::_::_=>rfl
       rw[Y] at q
       have c2:¬ ((r'.length:Int)+1+1+1=2):=x3
       simp[c2];exact q
     ·by_cases w2 : I = "out"
      ·subst w2;simp[a2]
       match r,q,J with
       |[],q,_=>rw[if_neg (by simp)];exact q
       |[_],q,_=>rw[if_neg (by simp)];exact q
       | [b, c], q, J =>
        rw[if_pos (by simp)]
        refine⟨b,rfl,b,d,rfl,vE (J b (by simp)),?_⟩
        cases hb:yP b d with
        |false=>
         have Y:Yb d "out" [b,c]=false:=by simp[Yb,hb]
         rw[Y] at q;simp;exact q
        |true=>
         have Y:Yb d "out" [b,c]=yP c 2:=by simp[Yb,hb]
         rw[Y] at q;simp
         exact⟨c,rfl,c,2,rfl,vE (J c (by simp)),q⟩
       |_::_::_::r',q,_=>rw[if_neg (by simp;lia)];exact q
      ·have Y : Yb d I r = false := by
        match r with
        |[]=>simp[Yb,w1]
        |[_]=>rfl
        |[_,_]=>simp[Yb,w2]
        |_::_::_::_=>rfl
       rw[Y] at q;have w1':¬ (("in" : Str)=I):=λh=>w1 h.symm;have w2':¬ (("out" : Str)=I):=λh=>w2 h.symm;simp[w1',w2'];exact q
    ·have e : jf d (.tup (p :: v :: r)) = false := by
      cases v<;>first |(simp[jf];done) |(exact absurd ⟨_,rfl⟩ hs)
     rw[e] at q;simp[za8 hs,iv];exact q
 ·have e : jf d x = false := by cases x <;> first | rfl | exact absurd ⟨_, rfl⟩ W
  rw[e] at q;simp[startD,kM W,ho,hi,nw];exact q
noncomputable abbrev ZG:Stmt:=top 26
noncomputable abbrev ZY:List Str:=["thing","words","d"]
theorem Kq:FnScope ZY q5 (zV ZG):=⟨rfl,rfl,rfl,x5,rfl,x5,x5⟩
theorem WW:("part" :: ZY:List Str).Nodup:=x5
noncomputable def qg(d:Nat):D->Bool
 |.tup es=>es.all (jf d)
 |_=>false
noncomputable def zK4:TF:=λds n Q=>∃(d:Nat) (x:D),ds=[x,Ve,.int (d:Int)]/\okA x=true/\Q (.bl (qg d x)) n
theorem xb9(T:Blt mg)(F:Fun K "are_parts" "are_parts" ZG f fd)(F_is_part:Fn P w K mg base "is_part" 5 3 XI):FnOk P w K mg base CX0 6 f fd q5 (spD K 3 zK4):=by
 refine Fun.okD F Kq (λaa A0 outer s H E G Z hr=>(zA (xb (qx (xr vn kO T.isi kP (zb (zd 0) (zb (jS (hm:=T.tuple) (hv:=yF)) zf))) (qL (xr (XD rfl) zb4 T.all zc0 (zb (vD (own:=["part"]) (M:=ZY) (vS (by rfl)) rfl (vk rfl (zd 0)) (λC W H2 fp=>(xp (i:=0) WW rfl (lo rfl) x4)) (λC W H2 fp=>yM) (λC W H2 fp=>(xQ F_is_part (hr.mono x4) rfl (zb (zd 0) (zb (zd 2) (zb (zd 3) zf)))))) zf))))))) ?_
 have nw:we Ve=true:=rfl;rintro ds n Q hl ⟨d,x,rfl,hx,q⟩;have ho:=yX hx;have hi:=vE hx
 by_cases I:∃es,x=.tup es
 ·obtain ⟨es, rfl⟩ := I;obtain⟨hz,Y⟩:=jk.mp hx;simp[startD,nw]
  have e1:es=es.map id:=by simp
  rw[e1];refine yi id (λe=>.bl (jf d e)) es (xY hz) (λe J R hR=>?_) ?_
  ·have oe:=yX (Y e J);simp[oe,nw];exact⟨e,d,rfl,Y e J,hR⟩
  ·refine ⟨es.map (jf d), by rw [xg]; rfl, ?_⟩
   have e2:(es.map (jf d)).all id=qg d (.tup es):=by simp[qg,yw]
   rw[e2];exact q
 ·have e : qg d x = false := by cases x <;> first | rfl | exact absurd ⟨_, rfl⟩ I
  rw[e] at q;simp[startD,kM I,ho,hi,nw];exact q
theorem qM{d:Nat}{x:D}(h:qg d x=true):∃ys:List Part,x=.tup (ys.map xm)/\∀y∈ys,(∀z∈y.1,z=0\/z=1)/\∀k,y.2=some k->k<2*d:=by
 cases x with
 | tup es =>
  have h':∀e∈es,jf d e=true:=by simpa [qg] using h
  clear h
  induction es with
  |nil=>exact⟨[],rfl,by simp⟩
  |cons e es Y=>
   obtain⟨ys,hy,hb⟩:=Y λx hx=>h' x (zG _ hx);obtain⟨y,rfl,W,J⟩:=zm4 (h' e (xo ..))
   refine⟨y::ys,by injection hy with hy;rw[al_List_map_cons,hy],λz I=>?_⟩
   rcases zt.mp I with rfl |I
   ·exact⟨W,J⟩
   ·exact hb z I
 |_=>simp[qg] at h
noncomputable abbrev Yz:Stmt:=top 27
noncomputable abbrev YV:List Str:=["tree","parts"]
theorem JV:FnScope YV ["tree","parts"] (zV Yz):=⟨rfl,rfl,rfl,x5,rfl,x5,x5⟩
theorem Ux:("part" :: YV:List Str).Nodup:=x5
noncomputable def JN:TF:=λds n Q=>∃(o:Option Tr) (xs:List Part),ds=[wX o,.tup (xs.map xm)]/\xs.length<=1000/\Q (.lst (xs.map λx=>wX (atT o x.1))) n
theorem zA7(F:Fun K "trees_at" "trees_at" Yz f fd)(F_tree_at:Fn P w K mg base "tree_at" 1 2 XG):FnOk P w K mg base CX0 2 f fd ["tree","parts"] (spD K 2 JN):=by
 refine Fun.okD F JV (λaa A0 outer s H E G Z hr=>(zA (xb (vD (own:=["part"]) (M:=YV) (vS (by rfl)) rfl (vk rfl (zd 1)) (λC J Y W=>(xp (i:=0) Ux rfl (lo rfl) x4)) (λC J Y W=>yM) (λC J Y W=>(xQ F_tree_at (hr.mono x4) rfl (zb (zd 1) (zb (xV xn xU (zd 0) zm (λ_ _=>rfl)) zf)))))))) ?_
 have I:∀x:Part,we (xm x)=true:=λx=>by obtain⟨p,o⟩:=x;cases o<;>rfl
 rintro ds n Q hl ⟨o,xs,rfl,hz,q⟩;simp[startD];refine yi xm (λx=>wX (atT o x.1)) xs (xY hz) (λx hx R hR=>?_) q
 have i0:∀R:D->Prop,R (.tup (x.1.map D.int))->Yi (xm x) (.int 0) R:=λR h=>by
  obtain⟨p,c⟩:=x
  cases c<;>exact⟨_,0,_,.inr (.inl rfl),rfl,rfl,h⟩
 simp[I];exact i0 _ ⟨o,x.1,rfl,hR⟩
end
theorem TreeOf.at{d:Nat}:∀{p:List Int}{ts:List Thing}{tr t:Tr},TreeOf d ts tr->atT (some tr) p=some t->∃vs:List Thing,TreeOf d vs t/\vs.length<=ts.length
 |[],ts,tr,t,h,e=>by cases e;exact⟨ts,h,zi _⟩
 | x :: p, ts, tr, t, h, e => by
  have e':atT (if x=0 then loO tr else hiO tr) p=some t:=e
  cases h with
  |one=>
   by_cases hx:x=0
   ·rw[if_pos hx] at e';have I:atT none p=some t:=e';rw[jp] at I;cases I
   ·rw[if_neg hx] at e';have I:atT none p=some t:=e';rw[jp] at I;cases I
  | two a b c d1 W =>
   have J:=a.length_eq;rw[zr] at J
   by_cases hx:x=0
   ·rw [if_pos hx] at e';obtain⟨vs,h1,h2⟩:=d1.at (p:=p) e'
    exact⟨vs,h1,x3⟩
   ·rw [if_neg hx] at e';obtain⟨vs,h1,h2⟩:=W.at (p:=p) e'
    exact⟨vs,h1,x3⟩
theorem eqDs_ints:∀(l m:List Int),jz (l.map D.int) (m.map D.int)=decide (l=m)
 |[],[]=>by simp[jz]
 |[],_::_=>by simp[jz]
 |_::_,[]=>by simp[jz]
 |x::l,y::m=>by
  rw[al_List_map_cons,al_List_map_cons];have I:=eqDs_ints l m
  by_cases h:x=y
  ·subst h;simp[jz,eqD,I]
  ·simp[jz,eqD,h]
theorem Xy(l:List Int):okE (.lst (l.map D.int)) 20=true:=Qj.mpr λd hd=>by
 obtain⟨x,_,rfl⟩:=zQ.mp hd;exact jj
noncomputable def UE(us:List (Option Tr))(o:Option Tr):Bool:=us.all Option.isSome&&decide ((us.map vP).flatten.Perm (vP o))
theorem UQ:∀{us:List (Option Tr)},us.all Option.isSome=true->∃vs:List Tr,us=vs.map some
 |[],_=>⟨[],rfl⟩
 |none::_,h=>by simp at h
 |some t::us,h=>by
  obtain⟨vs,hv⟩:=UQ (us:=us) (by simpa using h)
  exact⟨t::vs,by rw[hv];rfl⟩
section
variable {P:Program}{w:World}{K:W.Frag}{mg:QqM}{base:Heap}{f:Addr}{fd:FuncData}
noncomputable abbrev kQ:Stmt:=top 28
noncomputable abbrev vw:List Str:=["trees","tree","names"]
theorem qK:FnScope vw ["trees","tree"] (zV kQ):=⟨rfl,rfl,rfl,x5,rfl,x5,x5⟩
theorem ZS:("part" :: vw:List Str).Nodup:=x5
theorem qh:("part" :: "name" :: vw:List Str).Nodup:=x5
noncomputable def zj2:TF:=λds n Q=>∃(us:List (Option Tr)) (o:Option Tr),ds=[.lst (us.map wX),wX o]/\us.length<=900/\(us.map vP).flatten.length<=1000/\(vP o).Pairwise (·<=·)/\Q (.bl (UE us o)) n
theorem zP0(T:Blt mg)(F:Fun K "hold_each_once" "hold_each_once" kQ f fd):FnOk P w K mg base CX0 1 f fd ["trees","tree"] (spD K 2 zj2):=by
 refine Fun.okD F qK (λaf A0 outer s H E G Z hr=>(zq (wV (vb (xr (UM rfl) zu1 T.any zv3 (zb (vD (own:=["part"]) (M:=vw) (vS (by rfl)) rfl (vk rfl (zd 0)) (λC J Y W=>(xp (i:=0) ZS rfl (lo rfl) x4)) (λC J Y W=>yM) (λC J Y W=>(kw kz ku (zd 0) yc (xJ _)))) zf))) (zA (xb kU)) xN)
  (zq (wg (i:=2) qK.nd rfl (lo rfl) (Xi (xF kz ku (zd 1) yc (xJ _)) (wk zf) (xV xn xU (zd 1) zm (λ_ _=>rfl))))
  (zA (xb (kw (Vs hr) (Vm rfl) (xr Xg VF T.sorted Yp (zb (zA3 (own:=["part","name"]) (M:=vw) (vS (by rfl)) rfl (vk rfl (zd 0)) (λC J Y W=>(xp (i:=0) qh rfl (lo rfl) x4)) (λC J Y W=>yM) (λC J Y W=>(vk rfl (xV xn xU (zd 0) zm (λ_ _=>rfl)))) (λC J Y W=>(xp (i:=1) qh rfl (lo rfl) x4)) (λC J Y W=>yM) (λC J Y W=>(zd 1))) zf)) (wS vq ZV T.list Zd (zb (zd 2) zf)) (xJ _))))))) ?_
 generalize hS:YG (Vk 2 _) _=S;rintro ds n Q hl ⟨us,o,rfl,hz,ae,hs,q⟩;have no:=Zn o
 have main:us.all Option.isSome=true->S { nx:=λ_ n=>Q .non n,rt:=Q } [some (.lst (us.map wX)),some (wX o),none] n:=λI=>by
  obtain⟨vs,rfl⟩:=UQ I
  have em:(vs.map some).map wX=vs.map yO:=by rw[xg];rfl
  have en:(vs.map some).map vP=vs.map vc:=by rw[xg];rfl
  unfold UE at q;rw[I,yE,en] at q;rw[en] at ae;rw[em];subst hS;generalize hR:zG2 _=Rr
  have fin:Rr { nx:=λ_ n=>Q .non n,rt:=Q } [some (.lst (vs.map yO)),some (wX o),some (.tup ((vP o).map D.int))] n:=by
   subst hR;simp
   have e:(vs.flatMap λu=>(vc u).map D.int)=(vs.map vc).flatten.map D.int:=by rw[List.map_flatten,List.flatMap_def,xg];rfl
   refine xg5 (B:=1000) yO (λu=>(vc u).map D.int) vs x4 (by rw[e,zh];lia) (λu hu acc R aa hR=>?_) ?_
   ·have i0 : ∀ R : D -> Prop, R (.tup ((vc u).map D.int)) -> Yi (yO u) (.int 0) R := λR h => by rw [vF]; exact ⟨_, 0, _, .inr (.inl rfl), rfl, rfl, h⟩
    simp[yT];refine i0 _ ⟨_,.inr rfl,?_⟩
    refine zq8 (acc:=acc) D.int (λ_=>true) D.int (vc u) (by rw[zh] at aa;lia) (λt ht R S h1 h2=>?_) (by rw[List.filter_eq_self.mpr (λ_ _=>rfl)];exact hR)
    simp;exact h1 rfl
   ·rw [e]
    refine⟨_,rfl,x3,λms pm sm=>?_⟩
    have o1:=Xy (vP o);have o2:=Xy ms
    have ee:decide (ms=vP o)=decide ((vs.map vc).flatten.Perm (vP o)):=by
     rw[decide_eq_decide]
     exact⟨λh=>by rw[<- h];exact pm.symm,λh=>XM (pm.trans h) sm hs⟩
    simp[o1,o2,eqD,eqDs_ints,ee];exact q
  cases o with
  |none=>
   simp[wX];exact fin
  |some t=>
   have ni:qj (yO t)=false:=by cases t<;>rfl
   have nt:=yT t
   have i0:∀R:D->Prop,R (.tup ((vc t).map D.int))->Yi (yO t) (.int 0) R:=λR h=>by rw[vF];exact⟨_,0,_,.inr (.inl rfl),rfl,rfl,h⟩
   simp[wX,ni,nt];refine i0 _ ?_;exact fin
 simp[startD,no]
 refine yi wX (λu=>.bl u.isNone) us (xY x3) (λu hu R hR=>?_) ?_
 ·have nu := Zn u
  have iu:qj (wX u)=u.isNone:=by
   cases u with
   |none=>rfl
   |some t=>cases t<;>rfl
  simp[nu,iu];exact hR
 ·refine ⟨us.map Option.isNone, by rw [xg]; rfl, ?_⟩
  cases I:us.all Option.isSome with
  | true =>
   have e:(us.map Option.isNone).any id=false:=by
    rw[List.any_eq_false];intro x hx;obtain⟨u,hu,rfl⟩:=zQ.mp hx;have:=xz.mp I u hu
    cases u with
    |none=>cases this
    |some _=>simp
   rw[e];simp;exact main I
  | false =>
   have e:(us.map Option.isNone).any id=true:=by
    rw[List.all_eq_false] at I;obtain⟨u,hu,h⟩:=I;rw[yh];refine⟨_,zQ.mpr ⟨u,hu,rfl⟩,?_⟩
    cases u with
    |none=>rfl
    |some _=>simp at h
   have q2:Q (.bl false) n:=by unfold UE at q;rw[I,yp] at q;exact q
   rw[e];simp;exact q2
noncomputable def soB(I:List Pair)(x:Part)(t:Tr):Bool:=match x.2 with
 |none=>vg (vM t) I
 |some k=>Zt (vM t) I k
theorem xw7(x:Part):we (xm x)=true:=by obtain⟨p,o⟩:=x;cases o<;>rfl
theorem zU2(xs:List Part)(us:List Tr):JJ (xs.map xm) (us.map yO)=(xs.zip us).map λp=>.tup [xm p.1,yO p.2]:=by
 unfold JJ;rw[List.zipWith_map,List.map_zip_eq_zipWith];rfl
noncomputable abbrev JZ:Stmt:=top 29
noncomputable abbrev zT1:List Str:=["part","limits","plain","path","word","i","side"]
theorem Ye:FnScope zT1 ["part","limits","plain"] (zV JZ):=⟨rfl,rfl,rfl,x5,rfl,x5,x5⟩
noncomputable def JQ:TF:=λds n Q=>∃(x:Part) (t:Tr) (I:List Pair),ds=[xm x,zK (vM t),zK I]/\(vM t).length=I.length/\I.length<=400/\Ys (vM t)/\(∀k,x.2=some k->k<2*I.length)/\Q (.bl (soB I x t)) n
theorem zB3(F:Fun K "is_so" "is_so" JZ f fd)(F_lies_within:Fn P w K mg base "lies_within" 4 2 qP)(F_is_out:Fn P w K mg base "is_out" 2 3 VR):FnOk P w K mg base CX0 5 f fd ["part","limits","plain"] (spD K 3 JQ):=by
 refine Fun.okD F Ye (λaa A0 outer s H E G Z hr=>(zq (wV (xF jy jx (xV xn xU (zd 0) zm (λ_ _=>rfl)) vC (xJ _)) (zA (xb (xQ F_lies_within (hr.mono x4) rfl (zb (zd 1) (zb (zd 2) zf))))) xN)
  (zq (wV (xF jy jx (xV xn xU (zd 0) zm (λ_ _=>rfl)) vC (xJ _)) (zq (ZN (m:=7) (zd 0) (kH (k:=4) rfl rfl (wr (xp (i:=3) Ye.nd rfl (lo rfl) x4) (wr (xp (i:=4) Ye.nd rfl (lo rfl) x4) (wr (xp (i:=5) Ye.nd rfl (lo rfl) x4) (wr (xp (i:=6) Ye.nd rfl (lo rfl) x4) vI))))))
  (zA (xb (xQ F_is_out (hr.mono x4) rfl (zb (xV xn xU (zd 1) (zd 5) (λ_ _=>rfl)) (zb (xV xn xU (zd 2) (zd 5) (λ_ _=>rfl)) (zb (zd 6) zf))))))) xN)
  (zA (xb kU))))) ?_
 rintro ds n Q hl ⟨⟨p,o⟩,t,I,rfl,hb,hz,hE,hk,q⟩;have Y:we (zK (vM t))=true:=id rfl;have W:we (zK I)=true:=id rfl
 cases o with
 |none=>
  simp[startD,xm,Y,W]
  exact⟨vM t,I,rfl,x3,q⟩
 |some k=>
  have hk:=hk k rfl
  have hi:k/2<I.length:=x3
  have hq:I[k/2]?=some I[k/2]:=ze hi
  have hb':(vM t)[k/2]?=some ((vM t)[k/2]' x3):=ze x3
  obtain⟨lo,J,eb,_⟩:=hE _ _ hb';rw[eb] at hb';have q:Q (.bl (zA5 (vM t) I (k/2) (k%2))) n:=q;rw[jh hb' hq] at q;simp[startD,xm,Y,W]
  have ek:((k:Int)/2)=((k/2:Nat):Int):=x3
  have em:((k:Int)%2)=((k%2:Nat):Int):=x3
  rw[ek,em];exact jg hb' (jg hq ⟨lo,J,_,k%2,rfl,q⟩)
noncomputable abbrev Uk:Stmt:=top 30
noncomputable abbrev UX:List Str:=["parts","trees","plain"]
theorem zk2:FnScope UX q10 (zV Uk):=⟨rfl,rfl,rfl,x5,rfl,x5,x5⟩
theorem Wh:("part" :: "below" :: UX:List Str).Nodup:=x5
noncomputable def VU:TF:=λds n Q=>∃(xs:List Part) (us:List Tr) (I:List Pair),ds=[.tup (xs.map xm),.lst (us.map yO),zK I]/\xs.length<=900/\I.length<=400/\(∀p∈xs.zip us,(∀k,p.1.2=some k->k<2*I.length)/\(vM p.2).length=I.length/\Ys (vM p.2))/\Q (.bl ((xs.zip us).all λp=>soB I p.1 p.2)) n
theorem zn7(T:Blt mg)(F:Fun K "are_so" "are_so" Uk f fd)(F_is_so:Fn P w K mg base "is_so" 5 3 JQ):FnOk P w K mg base CX0 6 f fd q10 (spD K 3 VU):=by
 refine Fun.okD F zk2 (λaa A0 outer s H E G Z hr=>(zA (xb (xr (XD rfl) zb4 T.all zc0 (zb (vD (own:=["part","below"]) (M:=UX) (vS (by rfl)) rfl (Qd rfl T.zip (zb (zd 0) (zb (zd 1) zf))) (λC W H2 fp=>(kH (k:=2) rfl rfl (wr (xp (i:=0) Wh rfl (lo rfl) x4) (wr (xp (i:=1) Wh rfl (lo rfl) x4) vI)))) (λC W H2 fp=>yM) (λC W H2 fp=>(xQ F_is_so (hr.mono x4) rfl (zb (zd 0) (zb (xV xn xU (zd 1) zm (λ_ _=>rfl)) (zb (zd 4) zf)))))) zf))))) ?_
 rintro ds n Q hl ⟨xs,us,I,rfl,hz,J,h,q⟩;have Y:we (zK I)=true:=id rfl;simp[startD,Y];rw[zU2]
 refine yi (λp:Part × Tr=>.tup [xm p.1,yO p.2]) (λp=>.bl (soB I p.1 p.2)) (xs.zip us) (xY (by rw[length_zip];lia)) (λp hp R hR=>?_) ?_
 ·obtain ⟨h1, h2, h3⟩ := h p hp
  have i1:∀R:D->Prop,R (zK (vM p.2))->Yi (yO p.2) (.int 1) R:=λR h=>by rw[vF];exact⟨_,1,_,.inr (.inl rfl),rfl,rfl,h⟩
  simp[xw7,yT,Y];exact i1 _ ⟨p.1,p.2,I,rfl,h2,J,h3,h1,hR⟩
 ·refine ⟨(xs.zip us).map λp => soB I p.1 p.2, by rw [xg]; rfl, ?_⟩
  have e:((xs.zip us).map λp=>soB I p.1 p.2).all id=(xs.zip us).all λp=>soB I p.1 p.2:=by simp[yw]
  rw[e];exact q
noncomputable def Yo(I:List Pair)(o:Option Tr)(xs:List Part):Bool:=UE (xs.map λx=>atT o x.1) o&&xs.all λx=>match atT o x.1 with
 |none=>false
 |some t=>soB I x t
theorem zF8{I:List Pair}{o:Option Tr}:∀{xs:List Part}{vs:List Tr},(xs.map λx=>atT o x.1)=vs.map some->((xs.zip vs).all λp=>soB I p.1 p.2)=xs.all λx=>match atT o x.1 with |none=>false |some t=>soB I x t
 |[],[],_=>rfl
 |[],_::_,h=>by simp at h
 |_::_,[],h=>by simp at h
 |x::xs,t::vs,h=>by
  have h1:atT o x.1=some t:=by simpa using congrArg (λl=>l.head?) h
  have h2:(xs.map λx=>atT o x.1)=vs.map some:=by simpa using congrArg List.tail h
  rw[yl,yD,yD,zF8 h2,h1]
theorem UH:∀{l:QqI}{m:Nat},(∀x∈l,x.length<=m)->l.flatten.length<=l.length*m
 |[],m,_=>by simp
 |x::l,m,h=>by
  have:=UH (l:=l) (m:=m) λy hy=>h y (zG _ hy);have:=h x (xo ..);rw[wc,zr,zL,Nat.succ_mul];lia
noncomputable abbrev qV:Stmt:=top 31
noncomputable abbrev US:List Str:=["house","tree","box","thing","trees"]
theorem Zp:FnScope US ["house","tree","box","thing"] (zV qV):=⟨rfl,rfl,rfl,x5,rfl,x5,x5⟩
noncomputable def VM:TF:=λds n Q=>∃(d:Nat) (ts:List Thing) (o:Option Tr) (I:List QA) (x:D),ds=[yq d ts,wX o,vQ I,x]/\I.length=d/\1<=d/\d<=4/\ts.length<=30/\(∀tr,o=some tr->TreeOf d ts tr)/\okA x=true/\(∀es,x=.tup es->es.length<=33)/\(qg d x=false->Q (.bl false) n)/\∀xs:List Part,x=.tup (xs.map xm)->(∀y∈xs,(∀z∈y.1,z=0\/z=1)/\∀k,y.2=some k->k<2*d)->Q (.bl (Yo (vh I) o xs)) n
theorem zA9(F:Fun K "shows_cover" "shows_cover" qV f fd)(F_are_parts:Fn P w K mg base "are_parts" 6 3 zK4)(F_trees_at:Fn P w K mg base "trees_at" 2 2 JN)(F_hold_each_once:Fn P w K mg base "hold_each_once" 1 2 zj2)(F_are_so:Fn P w K mg base "are_so" 6 3 VU)(F_plain_box:Fn P w K mg base "plain_box" 3 1 Zx):FnOk P w K mg base CX0 7 f fd ["house","tree","box","thing"] (spD K 4 VM):=by
  refine Fun.okD F Zp (λav A0 outer s H E G Z hr=>(zq (wV (vX (vb (xQ F_are_parts (hr.mono x4) rfl (zb (zd 3) (zb (wk (zb vC (zb vC zf))) (zb (xV xn xU (zd 0) zm (λ_ _=>rfl)) zf)))))) (zA (xb kU)) xN)
    (zq (wg (i:=4) Zp.nd rfl (lo rfl) (xQ F_trees_at (hr.mono x4) rfl (zb (zd 1) (zb (zd 3) zf))))
    (zA (xb (qx (xQ F_hold_each_once (hr.mono x4) rfl (zb (zd 4) (zb (zd 1) zf))) (qL (xQ F_are_so (hr.mono x4) rfl (zb (zd 3) (zb (zd 4) (zb (xQ F_plain_box (hr.mono x4) rfl (zb (zd 2) zf)) zf))))))))))) ?_
  rintro ds n Q hl ⟨d,ts,o,bx,x,rfl,aj,ar,aq,ap,ho,hx,ai,q1,I⟩;have nh:=Yl d ts;have nb:we (vQ bx)=true:=id rfl;have nx:=yX hx;have no:=Zn o
  have ag:(vh bx).length=d:=by rw[Zm];exact aj
  have am:D.tup [D.str (Str.ofString "in"),D.str (Str.ofString "out")]=Ve:=rfl;simp[startD,nh,nb,nx];refine Jg ?_;rw[am];refine⟨d,x,rfl,hx,?_⟩
  cases hp:qg d x with
  | false =>
    simp;exact q1 hp
  | true =>
    obtain⟨xs,rfl,W⟩:=qM hp;have I:=I xs rfl W
    have ao:xs.length<=33:=by have:=ai _ rfl;rwa [zh] at this
    have each:∀y∈xs,∀t,atT o y.1=some t->(vc t).length<=30/\(vM t).length=d/\Ys (vM t):=λy hy t ht=>by
      cases o with
      |none=>rw[jp] at ht;cases ht
      | some tr =>
        obtain⟨vs,T,hv⟩:=(ho tr rfl).at ht;have:=T.names.length_eq;rw[zh] at this
        exact⟨x3,by rw[T.bd,ko],T.sound.bd⟩
    have Y:(vP o).Pairwise (·<=·):=by
      cases o with
      |none=>exact .nil
      | some tr =>
        cases ho tr rfl with
        |one=>exact List.pairwise_singleton ..
        |two _ _ hs=>exact hs
    have ah:((xs.map λx=>atT o x.1).map vP).flatten.length<=1000:=by
      have:=UH (l:=(xs.map λx=>atT o x.1).map vP) (m:=30) λl hl=>by
        obtain⟨u,hu,rfl⟩:=zQ.mp hl;obtain⟨y,hy,rfl⟩:=zQ.mp hu
        cases h:atT o y.1 with
        |none=>simp[vP]
        |some t=>exact(each y hy t h).1
      rw[zh,zh] at this;lia
    simp[nb,nx]
    refine⟨o,xs,rfl,x3,?_⟩
    have e1:(xs.map λx=>wX (atT o x.1))=(xs.map λx=>atT o x.1).map wX:=by rw[xg];rfl
    rw[e1];simp only[zJ5]
    refine⟨xs.map λx=>atT o x.1,o,rfl,by rw[zh];lia,ah,Y,?_⟩
    unfold Yo at I
    cases hh:UE (xs.map λx=>atT o x.1) o with
    | false =>
      rw[hh,yp] at I;simp;exact I
    | true =>
      rw[hh,yE] at I
      have af:(xs.map λx=>atT o x.1).all Option.isSome=true:=by unfold UE at hh;rw[zE] at hh;exact hh.1
      obtain⟨vs,J⟩:=UQ af;rw[J]
      have em:(vs.map some).map wX=vs.map yO:=by rw[xg];rfl
      rw[em];rw[<- zF8 J] at I;simp[nb]
      refine⟨bx,rfl,x3,?_⟩
      refine⟨xs,vs,vh bx,rfl,x3,x3,λp aa=>?_,I⟩
      have ae:p.1∈xs:=(of_mem_zip aa).1
      have ak:atT o p.1.1=some p.2:=by
        obtain⟨i,hi,e⟩:=List.getElem_of_mem aa;rw[List.getElem_zip] at e;have:=congrArg (λl=>l[i]?) J;rw[length_zip] at hi;simp only[zv] at this
        rw[ze x3,ze x3] at this
        have t2:=zB this;rw[<- e];exact t2
      obtain⟨_,h2,h3⟩:=each _ ae _ ak
      exact⟨λk hk=>by have:=(W _ ae).2 k hk;lia,by rw[h2,ag],h3⟩
end
theorem Xh{bd I:List Pair}(h1:1<=bd.length)(J:Ys bd)(h:vg bd I=true):ke bd I=false:=by
 have e:ql bd I=bd:=by simpa [vg] using h
 unfold ke;rw[e]
 match bd,h1,J with
 |b::r,_,J=>
  obtain⟨lo,hi,rfl,W⟩:=J 0 b rfl;show crossedT (some lo,some hi)=false;simp[crossedT];lia
theorem Xn{bd I:List Pair}(hl:bd.length=I.length)(h1:1<=bd.length)(hE:Ys bd)(hs:wP I=I)(h:QI bd I):ke bd I=false:=by
 cases ha:ke bd I with
 |false=>rfl
 | true =>
  exfalso
  obtain⟨k,hk,J⟩:=(WF hl h1 hE hs).mp ha
  have hi:k/2<I.length:=x3
  have hq:I[k/2]?=some I[k/2]:=ze hi
  have hb':bd[k/2]?=some (bd[k/2]' x3):=ze x3
  obtain⟨lo,ae,eb,aa⟩:=hE _ _ hb';rw[eb] at hb';have W:=h.2 _ _ _ _ hb' hq;unfold Zt at J;rw[jh hb' hq] at J;unfold zh6 at J
  by_cases he:I[k/2]=emptyP
  ·have Y : I.any crossedT = true := yh.mpr ⟨_, wz hi, by rw [he]; rfl⟩
   have e2:=kC Y;rw[hs] at e2;refine h.1 ?_
   rw[e2,xv,if_pos x3]
  ·rw [if_neg he] at J;generalize I[k/2]=q at W J;obtain⟨a,b⟩:=q
   split at J
   ·rcases a with _ | a
    ·simp[belowP] at J
    ·rcases b with _ |b<;>simp[belowP,insP] at J W<;>lia
   ·rcases b with _ | b
    ·simp[aboveP] at J
    ·rcases a with _ |a<;>simp[aboveP,insP] at J W<;>lia
theorem zf5{bd W:List Pair}{n:Nat}{Q:D->Nat->Prop}(J:bd.length=W.length)(h1:1<=bd.length)(hz:W.length<=400)(Y:Ys bd)(hs:wP W=W)(q:Q (.bl (vg bd W)) n):qJ [zK bd,zK W] n Q:=by
 cases ha:ke bd W with
 |false=>exact Xe J h1 hz Y ha q
 | true =>
  have w0:vg bd W=false:=by
   cases c:vg bd W with
   |false=>rfl
   |true=>rw[Xh h1 Y c] at ha;cases ha
  rw[w0] at q
  exact⟨_,bd,W,rfl,.inl rfl,J,h1,hz,Y,λI=>(by rw[Xn J h1 Y hs I] at ha;cases ha),λ_=>q⟩
@[simp] theorem xi7{neg:Bool}{x a b:Int}{k:D->Prop}:xo4 neg (.int x) (.tup [.int a,.int b]) k ↔ k (.bl (if neg then !(decide (a=x) || decide (b=x)) else(decide (a=x) || decide (b=x)))):=by
 have e:inD (.int x) [.int a,.int b]=(decide (a=x)||decide (b=x)):=by
  have I:∀u v:Int,(u == v)=decide (u=v):=λu v=>by by_cases h:u=v<;>simp[h]
  unfold inD;simp[eqD,I]
 constructor
 ·rintro ⟨_, es, h, _, h3⟩
  rcases h with h |h
  ·cases h;rw[e] at h3;exact h3
  ·cases h
 ·intro h
  exact⟨rfl,_,.inl rfl,rfl,by rw[e];exact h⟩
section
variable {P:Program}{w:World}{K:W.Frag}{mg:QqM}{base:Heap}{f:Addr}{fd:FuncData}
noncomputable abbrev jH:Stmt:=top 50
noncomputable abbrev JA:List Str:=["_law_thing","_law_most"]
theorem Uc:FnScope JA q11 (zV jH):=⟨rfl,rfl,rfl,x5,rfl,x5,x5⟩
noncomputable def Xu:TF:=λds n Q=>∃(d:D) (j:Int),ds=[d,.int j]/\kf d=true/\Q (.bl (yP d j)) n
theorem zn0(T:Blt mg)(F:Fun K "_law_whole" "_law_whole" jH f fd):FnOk P w K mg base CX0 1 f fd q11 (spD K 2 Xu):=by
 refine Fun.okD F Uc (λW A0 outer s H E G Z Y=>(zA (xb (qx (xr vn kO T.isi kP (zb (zd 0) (zb (jS (hm:=T.int) (hv:=Jt)) zf))) (qx (za1 (xr vn kO T.isi kP (zb (zd 0) (zb (jS (hm:=T.bool) (hv:=UN)) zf)))) (qL (zA4 xw3 zm6 zm (zd 0) (zd 1)))))))) ?_;rintro ds n Q hl ⟨d,j,rfl,hd,q⟩;have J:=UC hd
 cases d with
 |int i=>
  have q:Q (.bl (decide (0<=i)&&decide (i<j))) n:=q;simp[startD,Ka,kf]
  by_cases I:0<=i
  ·rw[xC I,yE] at q;simp[I];exact q
  ·rw[zS I,yp] at q;simp[I];exact q
 |_=>first |(simp[startD,Ka,kf,J,yP] at q ⊢;exact q) |(simp[kf] at hd;done)
noncomputable abbrev jI:Stmt:=top 51
noncomputable abbrev Zg:List Str:=["_law_tree_here","_law_part"]
theorem Ud:FnScope Zg q12 (zV jI):=⟨rfl,rfl,rfl,x5,rfl,x5,x5⟩
theorem Wi:("_law_step" :: Zg:List Str).Nodup:=x5
noncomputable def xn4:D->Bool
 |.str _=>true
 |_=>false
noncomputable def ze0:D->List Int
 |.tup es=>es.map λe=>match e with |.int i=>i |_=>0
 |_=>[]
noncomputable def qt(o:Option Tr):D->Option Tr
 |.tup (p::v::r)=>if (decide (r.length=0)||decide (r.length=2))&&(qd p&&xn4 v) then atT o (ze0 p) else none
 |_=>none
theorem XZ(p:List Int):ze0 (.tup (p.map D.int))=p:=by
 show List.map _ (p.map D.int)=p;rw[xg];exact map_id p
noncomputable def JO:TF:=λds n Q=>∃(o:Option Tr) (x:D),ds=[wX o,x]/\okA x=true/\Q (wX (qt o x)) n
theorem zA8(T:Blt mg)(F:Fun K "_law_there" "_law_there" jI f fd)(Y_whole:Fn P w K mg base "_law_whole" 1 2 Xu)(Y_at:Fn P w K mg base "_law_at" 1 2 zK2):FnOk P w K mg base CX0 2 f fd q12 (spD K 2 JO):=by
 refine Fun.okD F Ud (λaj A0 outer s H E G Z W=>(zq (wV (PWD.pt (kW (vX (vb (xr vn kO T.isi kP (zb (zd 1) (zb (jS (hm:=T.tuple) (hv:=yF)) zf))))) (kW (xF KH (zW8 (neg:=true)) (xr xR vG T.len vB (zb (zd 1) zf)) (wk (zb zm (zb zm zf))) (by with_unfolding_all rfl)) (qa (vX (vb (xr vn kO T.isi kP (zb (xV xn xU (zd 1) zm (λ_ _=>rfl)) (zb (jS (hm:=T.tuple) (hv:=yF)) zf))))))))) (zA (xb yc)) xN)
  (zq (wV (PWD.pt (kW (vX (vb (xr (XD rfl) zb4 T.all zc0 (zb (vD (own:=["_law_step"]) (M:=Zg) (vS (by rfl)) rfl (vk rfl (xV xn xU (zd 1) zm (λ_ _=>rfl))) (λ_ _ _ _=>(xp (i:=0) Wi rfl (lo rfl) x4)) (λ_ _ _ _=>yM) (λ_ _ _ _=>(xQ Y_whole (W.mono x4) rfl (zb (zd 0) (zb zm zf))))) zf)))) (qa (vX (vb (xr vn kO T.isi kP (zb (xV xn xU (zd 1) zm (λ_ _=>rfl)) (zb (jS (hm:=T.str) (hv:=zJ2)) zf)))))))) (zA (xb yc)) xN)
  (zA (xb (xQ Y_at (W.mono x4) rfl (zb (zd 0) (zb (xV xn xU (zd 1) zm (λ_ _=>rfl)) zf)))))))) ?_
 rintro ds n Q hl ⟨o,x,rfl,hx,q⟩;have no:=Zn o;have ho:=yX hx;have hi:=vE hx
 by_cases J:∃es,x=.tup es
 ·obtain ⟨es, rfl⟩ := J;obtain⟨hz,he⟩:=jk.mp hx
  match es,he with
  |[],_=>simp[startD,no];exact q
  |[a],_=>simp[startD,no];exact q
  | p :: v :: r, he =>
   have hp:=he p (by simp)
   have hv:=he v (by simp)
   have op:=yX hp;have ov:=yX hv;have ip:=vE hp;have iv:=vE hv
   by_cases W:r.length=0\/r.length=2
   ·have c0 : (decide ((2 : Int) = (r.length : Int) + 1 + 1) || decide ((4 : Int) = (r.length : Int) + 1 + 1)) = true := by
     rcases W with h |h<;>rw[h]<;>decide
    have c1:(decide (r.length=0)||decide (r.length=2))=true:=by
     rcases W with h |h<;>rw[h]<;>decide
    have qe:qt o (.tup (p::v::r))=if (qd p&&xn4 v)=true then atT o (ze0 p) else none:=by
     show(if _ then _ else _)=_
     rw[c1,yE]
    rw[qe] at q
    by_cases ht:∃I,p=.tup I
    ·obtain ⟨I, rfl⟩ := ht;obtain⟨ag,ae⟩:=jk.mp hp;simp[startD,no,c0]
     have e1:I=I.map id:=by simp
     rw[e1];refine yi id (λe=>.bl (yP e 2)) I (xY ag) (λe aa R hR=>?_) ?_
     ·have oe:=yX (ae e aa);simp[oe];exact⟨e,2,rfl,vE (ae e aa),hR⟩
     ·refine ⟨I.map λe => yP e 2, by rw [xg]; rfl, ?_⟩
      have e2:(I.map λe=>yP e 2).all id=qd (.tup I):=by simp[qd,yw]
      rw[e2]
      cases Y:qd (.tup I) with
      |false=>
       rw[Y,yp] at q;simp;exact q
      | true =>
       rw[Y,yE] at q;obtain⟨pi,ai,af⟩:=KG Y
       have ah:I=pi.map D.int:=by injection ai
       subst ah;rw[XZ] at q
       by_cases hs:∃wd,v=.str wd
       ·obtain⟨wd,rfl⟩:=hs;simp[no];exact⟨o,pi,rfl,af,q⟩
       ·have e3 : xn4 v = false := by cases v <;> first | rfl | (exact absurd ⟨_, rfl⟩ hs)
        rw[e3] at q;simp[za8 hs,iv];exact q
    ·have e3 : qd p = false := by cases p <;> first | rfl | (exact absurd ⟨_, rfl⟩ ht)
     rw[e3,yp] at q;simp[startD,kM ht,ip,op,no,c0];exact q
   ·have c0 : (decide ((2 : Int) = (r.length : Int) + 1 + 1) || decide ((4 : Int) = (r.length : Int) + 1 + 1)) = false := by
     rw[Bool.or_eq_false_iff]
     exact⟨by simp;lia,by simp;lia⟩
    have c1:(decide (r.length=0)||decide (r.length=2))=false:=by
     rw[Bool.or_eq_false_iff];exact⟨zS λh=>W (.inl h),zS λh=>W (.inr h)⟩
    have qe:qt o (.tup (p::v::r))=none:=by
     show(if _ then _ else _)=_
     rw[c1,yp];rfl
    rw[qe] at q;simp[startD,no,c0];exact q
 ·have e : qt o x = none := by cases x <;> first | rfl | exact absurd ⟨_, rfl⟩ J
  rw[e] at q;simp[startD,kM J,ho,hi,no];exact q
noncomputable abbrev kR:Stmt:=top 52
noncomputable abbrev Xr:List Str:=["_law_one","_law_plain_here","_law_part"]
theorem Yx:FnScope Xr q13 (zV kR):=⟨rfl,rfl,rfl,x5,rfl,x5,x5⟩
noncomputable def zo2:D->Nat
 |.int i=>i.toNat
 |_=>0
noncomputable def zH2(I:List Pair)(t:Tr)(J:Str):List D->Bool
 |[a,b]=>decide (J = "out")&&(yP a I.length&&(yP b 2&&Zt (vM t) I (2*zo2 a+zo2 b)))
 |_=>false
noncomputable def Zy:TF:=λds n Q=>∃(t:Tr) (I:List Pair) (p:D) (J:Str) (r:List D),ds=[yO t,zK I,.tup (p::.str J::r)]/\(r.length=0\/r.length=2)/\(∀e∈r,okA e=true)/\(vM t).length=I.length/\I.length<=400/\Ys (vM t)/\Q (.bl (zH2 I t J r)) n
theorem KK(T:Blt mg)(F:Fun K "_law_out_right" "_law_out_right" kR f fd)(Y_whole:Fn P w K mg base "_law_whole" 1 2 Xu)(Y_beyond:Fn P w K mg base "_law_beyond" 1 4 qS):FnOk P w K mg base CX0 2 f fd q13 (spD K 3 Zy):=by
 refine Fun.okD F Yx (λaa A0 outer s H E G Z I=>(zq (wV (PWD.pt (kW (xF ze2 zd4 (xr xR vG T.len vB (zb (zd 2) zf)) zm (xJ _)) (kW (xF ze2 zd4 (xV xn xU (zd 2) zm (λ_ _=>rfl)) vC (xJ _)) (kW (vX (vb (xQ Y_whole (I.mono x4) rfl (zb (xV xn xU (zd 2) zm (λ_ _=>rfl)) (zb (xr xR vG T.len vB (zb (zd 1) zf)) zf))))) (qa (vX (vb (xQ Y_whole (I.mono x4) rfl (zb (xV xn xU (zd 2) zm (λ_ _=>rfl)) (zb zm zf)))))))))) (zA (xb kU)) xN)
  (zA (xb (xQ Y_beyond (I.mono x4) rfl (zb (xV xn xU (zd 0) zm (λ_ _=>rfl)) (zb (zd 1) (zb (xV xn xU (zd 2) zm (λ_ _=>rfl)) (zb (xV xn xU (zd 2) zm (λ_ _=>rfl)) zf))))))))) ?_
 rintro ds n Q hl ⟨t,J,p,wd,r,rfl,I,he,hb,hz,hE,q⟩;have nt:=yT t;have n2:we (zK J)=true:=id rfl
 have kl:∀k:D->Prop,k (.int (J.length:Int))->zD4 [zK J] k:=λk h=>by unfold zK;rw[Ur,zh];exact h
 have i1:∀R:D->Prop,R (zK (vM t))->Yi (yO t) (.int 1) R:=λR h=>by rw[vF];exact⟨_,1,_,.inr (.inl rfl),rfl,rfl,h⟩
 match r,I,he,q with
 |[],_,_,q=>simp[startD,nt,n2];exact q
 |[a],I,_,_=>simp at I
 |_::_::_::_,I,_,_=>simp at I
 | [a, b], _, he, q =>
  have ha:=he a (by simp)
  have Y:=he b (by simp)
  have oa:=yX ha;have ob:=yX Y
  by_cases hw:wd = "out"
  ·subst hw
   have q:Q (.bl (true&&(yP a J.length&&(yP b 2&&Zt (vM t) J (2*zo2 a+zo2 b))))) n:=by simpa [zH2] using q
   simp[startD,nt,n2,oa,ob];refine kl _ ⟨a,_,rfl,vE ha,?_⟩
   cases c1:yP a J.length with
   |false=>rw[c1] at q;simp;exact q
   | true =>
    rw[c1] at q;simp[oa,ob];refine⟨b,rfl,b,2,rfl,vE Y,?_⟩
    cases c2:yP b 2 with
    |false=>rw[c2] at q;simp;exact q
    |true=>
     rw[c2] at q;obtain⟨i,rfl,i0,i1'⟩:=vL.mp c1;obtain⟨W,rfl,s0,s1⟩:=vL.mp c2;obtain⟨i,rfl⟩:=zZ i0;obtain⟨W,rfl⟩:=zZ s0
     have e1:(2*i+W)/2=i:=x3
     have e2:(2*i+W)%2=W:=x3
     simp;refine i1 _ ?_
     refine⟨_,rfl,vM t,J,2*i+W,by rw[e1,e2],hb,x3,hE,?_⟩
     simpa [zo2] using q
  ·have e : zH2 J t wd [a, b] = false := by simp [zH2, hw]
   rw[e] at q;simp[startD,nt,n2,hw];exact q
end
theorem Zw{o:Option Tr}{x:D}{t:Tr}(h:qt o x=some t):∃(p:D) (I:Str) (r:List D),x=.tup (p::.str I::r)/\(r.length=0\/r.length=2)/\qd p=true/\atT o (ze0 p)=some t:=by
 unfold qt at h
 split at h
 ·rename_i p v r
  split at h
  ·rename_i c;rw[zE,zE,yW,yQ,yQ] at c;obtain⟨Y,W,J⟩:=c
   cases v with
   |str I=>exact⟨p,I,r,rfl,Y,W,h⟩
   |_=>cases J
  ·cases h
 ·cases h
noncomputable def inR(J:List Pair)(t:Tr)(I:Str)(r:List D):Bool:=decide (r.length=0)&&(decide (I = "in")&&vg (vM t) J)
noncomputable def xm3(J:List Pair)(t:Tr):D->Bool
 |.tup (_::.str I::r)=>zH2 J t I r||inR J t I r
 |_=>false
noncomputable def jv(I:List Pair)(o:Option Tr)(e:D):Bool:=match qt o e with
 |none=>false
 |some t=>xm3 I t e
theorem zd2{I:List Pair}{o:Option Tr}{e:D}(h:jv I o e=true):jf I.length e=true:=by
 unfold jv at h
 split at h
 ·cases h
 ·rename_i t W;obtain⟨p,J,r,rfl,hr,Y,_⟩:=Zw W;have h':(zH2 I t J r||inR I t J r)=true:=h;show(qd p&&Yb I.length J r)=true;rw[Y,yE];rw[yW] at h'
  rcases h' with h' |h'
  ·match r, h' with
   |[a,b],h'=>
    have h2:(decide (J = "out")&&(yP a I.length&&(yP b 2&&Zt (vM t) I (2*zo2 a+zo2 b))))=true:=h';rw[zE,zE,zE] at h2;show(decide (J = "out")&&(yP a I.length&&yP b 2))=true;rw[h2.1,h2.2.1,h2.2.2.1];rfl
  ·unfold inR at h';rw[zE,zE,yQ] at h';have e0:r=[]:=xO.mp h'.1;subst e0;exact h'.2.1
theorem Kf{o:Option Tr}{y:Part}(h1:∀z∈y.1,z=0\/z=1):qt o (xm y)=atT o y.1:=by
 obtain⟨q,k⟩:=y;have I:=YL h1
 cases k with
 |none=>
  show(if (true&&(qd (.tup (q.map D.int))&&true))=true then atT o (ze0 (.tup (q.map D.int))) else none)=_
  rw[I,XZ];rfl
 |some k=>
  show(if (true&&(qd (.tup (q.map D.int))&&true))=true then atT o (ze0 (.tup (q.map D.int))) else none)=_
  rw[I,XZ];rfl
noncomputable def soA(I:List Pair)(o:Option Tr)(y:Part):Bool:=match atT o y.1 with
 |none=>false
 |some t=>soB I y t
theorem WB(I:List Pair)(o:Option Tr)(xs:List Part):Yo I o xs=(UE (xs.map λx=>atT o x.1) o&&xs.all (soA I o)):=rfl
theorem Ku{I:List Pair}{o:Option Tr}{y:Part}(h1:∀z∈y.1,z=0\/z=1)(h2:∀k,y.2=some k->k<2*I.length):jv I o (xm y)=soA I o y:=by
 unfold jv soA;rw[Kf h1]
 cases ha:atT o y.1 with
 |none=>rfl
 | some t =>
  obtain⟨q,k⟩:=y
  cases k with
  |none=>
   show(false||(true&&(decide (("in" : Str) = "in")&&vg (vM t) I)))=vg (vM t) I;simp
  | some k =>
   have hk:=h2 k rfl
   have a1:yP (.int ((k/2:Nat):Int)) I.length=true:=vL.mpr ⟨_,rfl,x3,x3⟩
   have a2:yP (.int ((k%2:Nat):Int)) 2=true:=vL.mpr ⟨_,rfl,x3,x3⟩
   have J:2*zo2 (.int ((k/2:Nat):Int))+zo2 (.int ((k%2:Nat):Int))=k:=by
    show 2*(((k/2:Nat):Int)).toNat+(((k%2:Nat):Int)).toNat=k;lia
   show((decide (("out" : Str) = "out")&&(yP (.int ((k/2:Nat):Int)) I.length&&(yP (.int ((k%2:Nat):Int)) 2&&Zt (vM t) I (2*zo2 (.int ((k/2:Nat):Int))+zo2 (.int ((k%2:Nat):Int))))))||inR I t "out" _)=Zt (vM t) I k;rw[a1,a2,J];simp[inR]
noncomputable def Yn(o:Option Tr)(es:List D):List Int:=(es.map λe=>vP (qt o e)).flatten
structure JCov(hd:List (Option D))(pl:List Pair)(o:Option Tr)(es:List D)(n0 j:Nat)(rho:Rho)(n:Nat):Prop where
 e:n=n0
 a:∀k,k<j->∀e,es[k]?=some e->jv pl o e=true
 r:∃x y:Option D,rho=hd++[some (.own ((Yn o (es.take j)).map D.int)),x,y]
section
variable {P:Program}{w:World}{K:W.Frag}{mg:QqM}{base:Heap}{f:Addr}{fd:FuncData}
noncomputable abbrev kZ:Stmt:=top 53
noncomputable abbrev WJ:List Str:=["_law_tree_here","_law_plain_here","_law_thing","_law_names","_law_part","_law_one"]
theorem vU:FnScope WJ q20 (zV kZ):=⟨rfl,rfl,rfl,x5,rfl,x5,x5⟩
noncomputable def Zl:TF:=λds n Q=>∃(d:Nat) (ts:List Thing) (o:Option Tr) (I:List Pair) (x:D),ds=[wX o,zK I,x]/\I.length=d/\1<=d/\d<=4/\wP I=I/\ts.length<=30/\(∀tr,o=some tr->TreeOf d ts tr)/\okA x=true/\(∀es,x=.tup es->es.length<=33)/\(qg d x=false->Q (.bl false) n)/\∀xs:List Part,x=.tup (xs.map xm)->(∀y∈xs,(∀z∈y.1,z=0\/z=1)/\∀k,y.2=some k->k<2*d)->Q (.bl (Yo I o xs)) n
theorem Qg(T:Blt mg)(F:Fun K "_law_is_cover" "_law_is_cover" kZ f fd)(Y_there:Fn P w K mg base "_law_there" 2 2 JO)(Y_out_right:Fn P w K mg base "_law_out_right" 2 3 Zy)(Y_inside:Fn P w K mg base "_law_inside" 1 2 qJ):FnOk P w K mg base CX0 3 f fd q20 (spD K 3 Zl):=by
  refine Fun.okD F vU (λaF A0 outer s H E G Z hr=>(zq (wV (PWD.pt (kW (xF kz ku (zd 0) yc (xJ _)) (qa (vX (vb (xr vn kO T.isi kP (zb (zd 2) (zb (jS (hm:=T.tuple) (hv:=yF)) zf)))))))) (zA (xb (qx (xr vn kO T.isi kP (zb (zd 2) (zb (jS (hm:=T.tuple) (hv:=yF)) zf))) (qL (kw jy jx (xr xR vG T.len vB (zb (zd 2) zf)) zm (xJ _)))))) xN)
    (zq (ZP (i:=3) vU.nd rfl (lo rfl) zf)
    (zq (ki (m:=6) PassesOwn.never rfl (vk rfl (zd 2)) (xp (i:=4) vU.nd rfl (lo rfl) x4)
    (zq (wg (i:=5) vU.nd rfl (lo rfl) (xQ Y_there (hr.mono x4) rfl (zb (zd 0) (zb (zd 4) zf))))
    (zq (wV (xF kz ku (zd 5) yc (xJ _)) (zA (xb kU)) xN)
    (zq (wV (vX (vb (xQ Y_out_right (hr.mono x4) rfl (zb (zd 5) (zb (zd 1) (zb (zd 4) zf)))))) (zA (wV (PWD.pt (kW (xF ze2 zd4 (xr xR vG T.len vB (zb (zd 4) zf)) zm (xJ _)) (kW (xF ze2 zd4 (xV xn xU (zd 4) zm (λ_ _=>rfl)) vC (xJ _)) (qa (vX (vb (xQ Y_inside (hr.mono x4) rfl (zb (xV xn xU (zd 5) zm (λ_ _=>rfl)) (zb (zd 1) zf))))))))) (zA (xb kU)) xN)) xN)
    (zA (Vp (i:=3) (zb (wS vq ZV T.list Zd (zb (xV xn xU (zd 5) zm (λ_ _=>rfl)) zf)) zf) rfl))))))
    (zA (je 3 (xb (kw (Vs hr) (Vm rfl) (xr Xg VF T.sorted Yp (zb (zd 3) zf)) (wS vq ZV T.list Zd (zb (xV xn xU (zd 0) zm (λ_ _=>rfl)) zf)) (xJ _))))))))) ?_
  generalize hS:YG (zW2 3 _) _=S;rintro ds n Q hl ⟨d,ts,o,J,x,rfl,ae,aE,aD,ap,aB,ho,hx,az,q1,q2⟩;have no:=Zn o;have nx:=yX hx;have ix:=vE hx;have n2:we (zK J)=true:=id rfl
  by_cases c:∃es,x=.tup es
  · obtain ⟨es, rfl⟩ := c
    obtain⟨hz,he⟩:=jk.mp hx;have aC:=az es rfl
    cases o with
    | none =>
      simp[startD,wX]
      cases es with
      | nil =>
        have:=q2 [] rfl (by simp)
        simpa [Yo,UE,vP] using this
      | cons e es =>
        have qf:Q (.bl false) n:=by
          cases hp:qg d (.tup (e::es)) with
          |false=>exact q1 hp
          | true =>
            obtain⟨xs,Y,W⟩:=qM hp;have:=q2 xs Y W
            cases xs with
            |nil=>simp at Y
            | cons y ys =>
              have e0:Yo J none (y::ys)=false:=by rw[WB];simp[soA,jp]
              rwa [e0] at this
        have cn:¬ ((es.length:Int)+1=0):=x3
        simpa [cn] using qf
    | some tr =>
      have T1:=ho tr rfl;have nt:=yT tr
      have ni:qj (yO tr)=false:=by cases tr<;>rfl
      have sub:∀{e:D}{t:Tr},qt (some tr) e=some t->(vc t).length<=30/\(vM t).length=d/\Ys (vM t):=λh=>by
        obtain⟨p,wd,r,_,_,_,ar⟩:=Zw h;obtain⟨vs,T,hv⟩:=T1.at ar;have:=T.names.length_eq;rw[zh] at this
        exact⟨x3,by rw[T.bd,ko],T.sound.bd⟩
      have af:∀e∈es,jv J (some tr) e=false->Q (.bl false) n:=λe I hf=>by
        cases hp:qg d (.tup es) with
        |false=>exact q1 hp
        | true =>
          obtain⟨xs,Y,W⟩:=qM hp;have q:=q2 xs Y W
          have ak:es=xs.map xm:=by injection Y
          rw[ak] at I;obtain⟨y,hy,rfl⟩:=zQ.mp I
          rw[Ku (W y hy).1 (by rw[ae];exact(W y hy).2)] at hf
          have e0:Yo J (some tr) xs=false:=by
            rw[WB,Bool.and_eq_false_iff]
            right
            rw[List.all_eq_false]
            exact⟨y,hy,by rw[hf];simp⟩
          rwa [e0] at q
      have av:(∀e∈es,jv J (some tr) e=true)->Q (.bl (decide ((Yn (some tr) es).Perm (vc tr)))) n:=λaa=>by
        have hp:qg d (.tup es)=true:=by
          show es.all (jf d)=true;rw[xz];intro e I;have:=zd2 (aa e I)
          rwa [ae] at this
        obtain⟨xs,Y,W⟩:=qM hp;have q:=q2 xs Y W
        have ak:es=xs.map xm:=by injection Y
        subst ak
        have hm:∀y∈xs,soA J (some tr) y=true:=λy hy=>by
          rw[<- Ku (W y hy).1 (by rw[ae];exact(W y hy).2)]
          exact aa _ (List.mem_map_of_mem hy)
        have e1:Yo J (some tr) xs=decide ((Yn (some tr) (xs.map xm)).Perm (vc tr)):=by
          have a1:xs.all (soA J (some tr))=true:=xz.mpr hm
          have a2:(xs.map λx=>atT (some tr) x.1).all Option.isSome=true:=by
            rw[yw,xz];intro y hy;have:=hm y hy;show(atT (some tr) y.1).isSome=true
            cases h:atT (some tr) y.1 with
            |none=>unfold soA at this;rw[h] at this;cases this
            |some _=>rfl
          have a3:Yn (some tr) (xs.map xm)=((xs.map λx=>atT (some tr) x.1).map vP).flatten:=by
            unfold Yn;rw[xg,xg]
            congr 1
            refine yG λy hy=>?_;show vP (qt (some tr) (xm y))=vP (atT (some tr) y.1);rw[Kf (W y hy).1]
          rw[WB];unfold UE;rw[a1,a2,a3,Bool.and_true,yE];rfl
        rwa [e1] at q
      have ag:∀j,(Yn (some tr) (es.take j)).length<=33*30:=λj=>by
        have:=UH (l:=(es.take j).map λe=>vP (qt (some tr) e)) (m:=30) λl hl=>by
          obtain⟨u,hu,rfl⟩:=zQ.mp hl
          cases h:qt (some tr) u with
          |none=>simp[vP]
          |some t=>exact(sub h).1
        rw[zh,xh] at this;unfold Yn
        have h2:min j es.length*30<=33*30:=Nat.mul_le_mul_right _ x3
        lia
      have main:S { nx:=λ_ n=>Q .non n,rt:=Q } [some (yO tr),some (zK J),some (.tup es),none,none,none] n:=by
        subst hS;simp
        refine⟨JCov [some (yO tr),some (zK J),some (.tup es)] J (some tr) es n,⟨rfl,λk hk=>by lia,_,_,rfl⟩,?_,?_⟩
        · rintro j e rho m hj ⟨rfl, ha, x, y, rfl⟩
          have I:=xk hj;have ah:=he e I;have oe:=yX ah;generalize hX:Qb _ _=Xt;simp[oe,nt];refine⟨some tr,e,rfl,ah,?_⟩
          cases ht:qt (some tr) e with
          | none =>
            simp[wX]
            exact af e I (by unfold jv;rw[ht])
          | some t =>
            have ai:=yT t
            have aw:qj (yO t)=false:=by cases t<;>rfl
            obtain⟨s1,s2,s3⟩:=sub ht;obtain⟨p,wd,r,rfl,hr,hp,ar⟩:=Zw ht;have aA:=(jk.mp ah).2
            have er:jv J (some tr) (.tup (p::.str wd::r))=(zH2 J t wd r||inR J t wd r):=by unfold jv;rw[ht];rfl
            have i0:∀R:D->Prop,R (.tup ((vc t).map D.int))->Yi (yO t) (.int 0) R:=λR h=>by rw[vF];exact⟨_,0,_,.inr (.inl rfl),rfl,rfl,h⟩
            have i1:∀R:D->Prop,R (zK (vM t))->Yi (yO t) (.int 1) R:=λR h=>by rw[vF];exact⟨_,1,_,.inr (.inl rfl),rfl,rfl,h⟩
            have g1:Yn (some tr) (es.take (j+1))=Yn (some tr) (es.take j)++vc t:=by
              unfold Yn;rw[xI,hj];simp[ht,vP]
            have aj:(Yn (some tr) (es.take j)).length+(vc t).length<=33*30:=by
              have:=ag (j+1);rw[g1,zr] at this;exact this
            have go:jv J (some tr) (.tup (p::.str wd::r))=true->∀F:EndsD,F.nx=JCov [some (yO tr),some (zK J),some (.tup es)] J (some tr) es m (j+1)->Xt F [some (yO tr),some (zK J),some (.tup es),some (.own ((Yn (some tr) (es.take j)).map D.int)),some (.tup (p::.str wd::r)),some (yO t)] m:=λax F hF=>by
              subst hX;simp[ai];refine i0 _ ?_;simp
              refine⟨zy aj (xY x4),?_⟩
              rw[hF]
              refine⟨rfl,λk hk e' he'=>?_,_,_,by rw[g1,xx];rfl⟩
              by_cases ay:k=j
              · subst ay;rw[hj] at he';cases he';exact ax
              · exact ha k x3 e' he'
            simp[wX,aw,ai,n2]
            refine⟨t,J,p,wd,r,rfl,hr,λe' he'=>aA e' (by simp[he']),by rw[s2,ae],x3,s3,?_⟩
            cases aq:zH2 J t wd r with
            | true =>
              simp
              exact go (by rw[er,aq];rfl) _ rfl
            | false =>
              rw[aq,Bool.false_or] at er;simp
              rcases hr with hr |hr
              · have e0 : r = [] := xO.mp hr
                subst e0
                by_cases hw:wd = "in"
                · subst hw
                  simp[ai,n2]
                  refine i1 _ (zf5 (by rw[s2,ae]) x3 x3 s3 ap ?_)
                  have ei:inR J t "in" []=vg (vM t) J:=by simp[inR]
                  cases am:vg (vM t) J with
                  | true =>
                    simp
                    exact go (by rw[er,ei,am]) _ rfl
                  | false =>
                    simp
                    exact af _ I (by rw[er,ei,am])
                · simp [hw]
                  exact af _ I (by rw[er];simp[inR,hw])
              · have cn : ¬ ((r.length : Int) + 1 + 1 = 2) := by lia
                simp[cn]
                exact af _ I (by rw[er];simp[inR,hr])
        · rintro rho m ⟨rfl, ha, x, y, rfl⟩
          have aa:∀e∈es,jv J (some tr) e=true:=λe I=>by
            obtain⟨i,hi,e'⟩:=List.getElem_of_mem I
            exact ha i hi e (by rw[<- e'];exact ze hi)
          have q:=av aa
          have i0:∀R:D->Prop,R (.tup ((vc tr).map D.int))->Yi (yO tr) (.int 0) R:=λR h=>by rw[vF];exact⟨_,0,_,.inr (.inl rfl),rfl,rfl,h⟩
          have ao:(vc tr).Pairwise (·<=·):=by
            cases T1 with
            |one=>exact List.pairwise_singleton ..
            |two _ _ hs=>exact hs
          have gl:=ag es.length;rw[wy] at gl;simp
          refine⟨Yn (some tr) es,rfl,x3,λms pm sm=>?_⟩
          simp[nt];refine i0 _ ?_;have o1:=Xy (vc tr);have o2:=Xy ms
          have ee:decide (ms=vc tr)=decide ((Yn (some tr) es).Perm (vc tr)):=by
            rw[decide_eq_decide]
            exact⟨λh=>by rw[<- h];exact pm.symm,λh=>XM (pm.trans h) sm ao⟩
          rw[zz2];simp[o1,o2,eqD,eqDs_ints,ee];exact q
      simp[startD,wX,ni,nt];exact main
  · have qf : Q (.bl false) n := q1 (by cases x <;> first | rfl | exact absurd ⟨_, rfl⟩ c)
    cases o with
    |none=>simp[startD,wX,kM c,nx,ix];exact qf
    | some tr =>
      have nt:=yT tr
      have ni:qj (yO tr)=false:=by cases tr<;>rfl
      simp[startD,wX,kM c,ni,nt,nx,ix];exact qf
end
end K47
set_option maxHeartbeats 200000
namespace K47
inductive Gd(w:Nat):D->Prop
 |non:Gd w .non
 |bl (b:Bool):Gd w (.bl b)
 |int (i:Int):Gd w (.int i)
 |str {x:Str} (h:x.length<=10):Gd w (.str x)
 |dic:Gd w .dic
 |tup {ds:List D} (h:ds.length<=w) (g:∀d∈ds,Gd w d):Gd w (.tup ds)
 |lst {ds:List D} (h:ds.length<=w) (g:∀d∈ds,Gd w d):Gd w (.lst ds)
theorem Gd.mono{w v:Nat}(hv:w<=v){d:D}(h:Gd w d):Gd v d:=by
 induction h with
 |non=>exact .non
 |bl b=>exact .bl b
 |int i=>exact .int i
 |str h=>exact .str h
 |dic=>exact .dic
 |tup h _ I=>exact .tup x3 I
 |lst h _ I=>exact .lst x3 I
theorem Gd.okA{w:Nat}(J:w<=1000){d:D}(h:Gd w d):okA d=true:=by
 induction h with
 |non=>simp[L2.okA]
 |bl b=>simp[L2.okA]
 |int i=>simp[L2.okA]
 |str h=>simp[L2.okA]
 |dic=>simp[L2.okA]
 |tup h _ I=>exact jk.mpr ⟨x3,I⟩
 |lst h _ I=>exact zP2.mpr ⟨x3,I⟩
theorem Gd.okB{w:Nat}{d:D}(h:Gd w d):okB d=true:=by
 cases h with
 |str h=>exact xC x3
 |_=>rfl
theorem Gd.tup_inv{w:Nat}{ds:List D}(h:Gd w (.tup ds)):ds.length<=w/\∀d∈ds,Gd w d:=by
 cases h with
 |tup h g=>exact⟨h,g⟩
theorem zp8{α:Type}{es:List α}{k:Nat}{y:α}(hk:k<es.length):(es.take k++y::es.drop (k+1)).length=es.length:=by
 rw[zr,xh,zL,wj];lia
theorem zQ2{α:Type}{es:List α}{k:Nat}{x y:α}(h:x∈es.take k++y::es.drop (k+1)):x=y\/x∈es:=by
 rcases zU.mp h with h |h
 ·exact .inr (List.mem_of_mem_take h)
 ·rcases zt.mp h with h | h
  ·exact .inl h
  ·exact .inr (List.mem_of_mem_drop h)
noncomputable def xM7(x:D):Prop:=∃b,x=.bl b
structure Bn(w m:Nat)(y:D):Prop where
 g:Gd w y
 l:∀fs,y=.tup fs->fs.length<=m
theorem Bn.put{w m:Nat}{es:List D}{k:Nat}{y:D}(hk:k<es.length)(I:es.length<=w)(hm:es.length<=m)(J:∀d∈es,Gd w d)(hy:Gd w y):Bn w m (.tup (es.take k++y::es.drop (k+1))):=by
 refine⟨.tup (by rw[zp8 hk];exact I) λd hd=>?_,λfs e=>?_⟩
 ·rcases zQ2 hd with rfl | h
  ·exact hy
  ·exact J d h
 ·injection e with e;subst e;rw[zp8 hk];exact hm
noncomputable def xl6:List D:=[.non,.bl true,.bl false,.int 0,.int 1,.int 2,.int (-1),.str "in",.str "out",.str "far",.str "",.tup [],.lst [],.dic,.tup [.int 0],.tup [.str "in"]]
theorem xc0{d:D}(h:d∈xl6++[.tup [.tup [],.str "in"],.lst [.int 0],.int 100000000000000000]):Bn 2 2 d:=by
 have I:Str.length (Str.ofString "in")<=10:=x5
 have Y:Str.length (Str.ofString "out")<=10:=x5
 have W:Str.length (Str.ofString "far")<=10:=x5
 have J:Str.length (Str.ofString "")<=10:=x5
 have l:∀{es:List D},es.length<=2->∀fs,D.tup es=.tup fs->fs.length<=2:=λh fs e=>by injection e with e;subst e;exact h
 have n:∀{x:D},(∀es,x≠.tup es)->∀fs,x=.tup fs->fs.length<=2:=λh fs e=>absurd e (h fs);simp only[xl6,zU,List.cons_append,yv,zt,zW,or_false] at h
 rcases h with rfl |rfl |rfl |rfl |rfl |rfl |rfl |rfl |rfl |rfl |rfl |rfl |rfl |rfl |rfl |rfl |rfl |rfl |rfl
 ·exact⟨.non,n (by simp)⟩
 ·exact⟨.bl _,n (by simp)⟩
 ·exact⟨.bl _,n (by simp)⟩
 ·exact⟨.int _,n (by simp)⟩
 ·exact⟨.int _,n (by simp)⟩
 ·exact⟨.int _,n (by simp)⟩
 ·exact⟨.int _,n (by simp)⟩
 ·exact⟨.str I,n (by simp)⟩
 ·exact⟨.str Y,n (by simp)⟩
 ·exact⟨.str W,n (by simp)⟩
 ·exact⟨.str J,n (by simp)⟩
 ·exact⟨.tup (by simp) (by simp),l (by simp)⟩
 ·exact⟨.lst (by simp) (by simp),n (by simp)⟩
 ·exact⟨.dic,n (by simp)⟩
 ·exact⟨.tup (by simp) (by simp;exact .int _),l (by simp)⟩
 ·exact⟨.tup (by simp) (by simp;exact .str I),l (by simp)⟩
 ·exact⟨.tup (by simp) (by simp;exact⟨.tup (by simp) (by simp),.str I⟩),l (by simp)⟩
 ·exact⟨.lst (by simp) (by simp;exact .int _),n (by simp)⟩
 ·exact⟨.int _,n (by simp)⟩
section
variable {P:Program}{w:World}{K:W.Frag}{mg:QqM}{base:Heap}{f:Addr}{fd:FuncData}
noncomputable abbrev YE:Stmt:=top 54
noncomputable abbrev zh0:List Str:=["_law_left_here","_law_some"]
theorem ZD:FnScope zh0 q6 (zV YE):=⟨rfl,rfl,rfl,x5,rfl,x5,x5⟩
noncomputable def zj0:TF:=λds n Q=>ds=[.st]/\n=3/\∀y:D,Bn 2 2 y->Q y 3
theorem xb4(T:Blt mg)(F:Fun K "_law_odd" "_law_odd" YE f fd)(Y_pick:Fn P w K mg base "_law_pick" 1 2 jt):FnOk P w K mg base CX0 2 f fd q6 (spD K 1 zj0):=by
 refine Fun.okD F ZD (λaa A0 outer s H E G Z W=>(zq (wg (i:=1) ZD.nd rfl (lo rfl) (vp (zb yc (zb kU (zb kU (zb zm (zb zm (zb zm (zb (KF zm) (zb vC (zb vC (zb vC (zb vC (zb (wk zf) (zb (vp zf) (zb (zH1 9 (d:=.dic) rfl) (zb (wk (zb zm zf)) (zb (wk (zb vC zf)) zf))))))))))))))))))
  (zq (wg (i:=1) ZD.nd rfl (lo rfl) (kT KI Kx (zd 1) (vp (zb (wk (zb (wk zf) (zb vC zf))) (zb (vp (zb zm zf)) (zb (Vr zm zm) zf))))))
  (zA (xb (xV xn xU (zd 1) (xQ Y_pick (W.mono x4) rfl (zb (zd 0) (zb (xr xR vG T.len vB (zb (zd 1) zf)) zf))) (λ_ _=>rfl))))))) ?_
 with_reducible generalize hS:YG (Vk 1 (dOp zL8 _ _)) _=S
 rintro ds n Q hl ⟨rfl,rfl,q⟩
 have main:S { nx:=λ_ n=>Q .non n,rt:=Q } [some .st,some (.lst xl6)] 3:=by
  subst hS;generalize J:xl6=L
  have I:L.length=16:=by rw[<- J];rfl
  have Y:∀d∈L++[.tup [.tup [],.str "in"],.lst [.int 0],.int 100000000000000000],Bn 2 2 d:=λd hd=>xc0 (by rw[<- J] at hd;exact hd)
  simp[I]
  refine⟨⟨x4,x4,x5⟩,xY (k:=19) x4,?_⟩
  refine xy x3 x3 λk g0 g1=>?_
  simp
  obtain⟨d,hd,hm⟩:=WE (xs:=L++[.tup [.tup [],.str "in"],.lst [.int 0],.int 100000000000000000]) g0 (by simp[I];lia)
  exact⟨d,hd,q d (Y d hm)⟩
 exact⟨x4,1,rfl,xY (k:=0) x4,xY (k:=0) x4,xY (k:=1) x4,xY (k:=1) x4,xY (k:=16) x4,main⟩
noncomputable abbrev YD:Stmt:=top 55
noncomputable abbrev zg9:List Str:=["_law_row","_law_at_here","_law_thing"]
theorem JY:FnScope zg9 q14 (zV YD):=⟨rfl,rfl,rfl,x5,rfl,x5,x5⟩
noncomputable def zi8:TF:=λds n Q=>∃(es:List D) (k:Nat) (y:D),ds=[.tup es,.int (k:Int),y]/\k<es.length/\es.length<=300/\we y=true/\Q (.tup (es.take k++y::es.drop (k+1))) n
theorem xb3(F:Fun K "_law_put" "_law_put" YD f fd):FnOk P w K mg base CX0 1 f fd q14 (spD K 3 zi8):=by
 refine Fun.okD F JY (λJ A0 outer s H E G Z hr=>(zA (xb (kT vJ kG (kT vJ kG (YZ rfl (zd 0) kJ (kI (zd 1))) (wk (zb (zd 2) zf))) (YZ rfl (zd 0) (kI (ky (zd 1) zm)) kJ))))) ?_;rintro ds n Q hl ⟨es,k,y,rfl,hk,hz,hy,q⟩
 have Y:=zt4 es k x3
 have W:=UK es (k+1) x3
 have I:((k:Int)+1)=((k+1:Nat):Int):=x3
 simp[startD,hy];rw[I,Y,W]
 have l1:(es.take k).length+1<=1000:=by rw[xh];lia
 have l2:(es.take k).length+1+(es.drop (k+1)).length<=1000:=by rw[xh,wj];lia
 simp at l1 l2 ⊢
 exact⟨xY x3,xY x3,q⟩
noncomputable abbrev ZM:Stmt:=top 56
noncomputable abbrev ZZ:List Str:=["_law_left_here","_law_parts_here","_law_d","_law_way","_law_at_here","_law_part","_law_path","_law_other"]
theorem vm:FnScope ZZ q21 (zV ZM):=⟨rfl,rfl,rfl,x5,rfl,x5,x5⟩
theorem WX:("_law_step" :: ZZ:List Str).Nodup:=x5
noncomputable def Kg:TF:=λds n Q=>∃(es:List D) (d w m:Nat),ds=[.st,.tup es,.int (d:Int)]/\n=3/\es.length<=m/\es.length<=w/\(∀e∈es,Gd w e)/\4<=w/\w<=100/\2<=m/\1<=d/\d<=4/\∀y:D,Bn (w+4) (m+1) y->Q y 3
theorem zP1(T:Blt mg)(F:Fun K "_law_bent" "_law_bent" ZM f fd)(Y_pick:Fn P w K mg base "_law_pick" 1 2 jt)(Y_odd:Fn P w K mg base "_law_odd" 2 1 zj0)(Y_put:Fn P w K mg base "_law_put" 1 3 zi8):FnOk P w K mg base CX0 3 f fd q21 (spD K 3 Kg):=by
 refine Fun.okD F vm (λaG A0 outer s H E G Z J=>(zq (wg (i:=3) vm.nd rfl (lo rfl) (xQ Y_pick (J.mono x4) rfl (zb (zd 0) (zb zm zf))))
  (zq (wV (PWD.pt (kW (xF (zm5 J) zk5 (zd 1) (wk zf) (xJ _)) (qa (xF jy jx (zd 3) zm (xJ _))))) (zA (xb (xQ Y_odd (J.mono x4) rfl (zb (zd 0) zf)))) xN)
  (zq (wg (i:=4) vm.nd rfl (lo rfl) (xQ Y_pick (J.mono x4) rfl (zb (zd 0) (zb (xr xR vG T.len vB (zb (zd 1) zf)) zf))))
  (zq (wg (i:=5) vm.nd rfl (lo rfl) (xV xn xU (zd 1) (zd 4) (λ_ _=>rfl)))
  (zq (wV (xF jy jx (zd 3) zm (xJ _)) (zA (xb (kT vJ kG (YZ rfl (zd 1) kJ (kI (zd 4))) (YZ rfl (zd 1) (kI (ky (zd 4) zm)) kJ)))) xN)
  (zq (wV (xF jy jx (zd 3) zm (xJ _)) (zA (xb (kT vJ kG (zd 1) (wk (zb (zd 5) zf))))) xN)
  (zq (wV (PWD.pt (kW (vX (vb (xr vn kO T.isi kP (zb (zd 5) (zb (jS (hm:=T.tuple) (hv:=yF)) zf))))) (kW (xF (zm5 J) zk5 (zd 5) (wk zf) (xJ _)) (qa (vX (vb (xr vn kO T.isi kP (zb (xV xn xU (zd 5) zm (λ_ _=>rfl)) (zb (jS (hm:=T.tuple) (hv:=yF)) zf))))))))) (zA (xb (xQ Y_put (J.mono x4) rfl (zb (zd 1) (zb (zd 4) (zb (xQ Y_odd (J.mono x4) rfl (zb (zd 0) zf)) zf)))))) xN)
  (zq (wV (xF jy jx (zd 3) zm (xJ _)) (zq (wg (i:=3) vm.nd rfl (lo rfl) (xV xn xU (zd 5) zm (λ_ _=>rfl)))
  (zq (ZP (i:=6) vm.nd rfl (lo rfl) (zb (kT vJ kG (zd 3) (wk (zb (xQ Y_pick (J.mono x4) rfl (zb (zd 0) (zb zm zf))) zf))) (zb (YZ rfl (zd 3) kJ (kI (KF zm))) (zb (kT vJ kG (zd 3) (wk (zb zm (zb zm (zb zm zf))))) (zb (wS vq ZV T.list Zd (zb (zd 3) zf)) zf)))))
  (zq (kb (i:=6) (zb (wS yd vV T.tuple yF (zb (vD (own:=["_law_step"]) (M:=ZZ) (vS (by rfl)) rfl (vk rfl (zd 3)) (λ_ _ _ _=>(xp (i:=0) WX rfl (lo rfl) x4)) (λ_ _ _ _=>yM) (λ_ _ _ _=>(wS zg3 zE7 T.bool UN (zb (zd 0) zf)))) zf)) zf) rfl)
  (zq (je 6 (wg (i:=6) vm.nd rfl (lo rfl) (xV xn xU (zd 6) (xQ Y_pick (J.mono x4) rfl (zb (zd 0) (zb zm zf))) (λ_ _=>rfl))))
  (zA (xb (xQ Y_put (J.mono x4) rfl (zb (zd 1) (zb (zd 4) (zb (kT vJ kG (wk (zb (zd 6) zf)) (YZ rfl (zd 5) (kI zm) kJ)) zf)))))))))) xN)
  (zq (wV (xF jy jx (zd 3) zm (xJ _)) (zq (wg (i:=7) vm.nd rfl (lo rfl) (vp (zb (wk (zb (xV xn xU (zd 5) zm (λ_ _=>rfl)) (zb vC zf))) (zb (wk (zb (xV xn xU (zd 5) zm (λ_ _=>rfl)) (zb vC (zb (xQ Y_pick (J.mono x4) rfl (zb (zd 0) (zb (zd 2) zf))) (zb (xQ Y_pick (J.mono x4) rfl (zb (zd 0) (zb zm zf))) zf))))) zf))))
  (zq (wg (i:=7) vm.nd rfl (lo rfl) (kT KI Kx (zd 7) (vp (zb (wk (zb (xV xn xU (zd 5) zm (λ_ _=>rfl)) (zb vC zf))) (zb (kT vJ kG (zd 5) (wk (zb zm zf))) (zb (wS vq ZV T.list Zd (zb (zd 5) zf)) (zb (YZ rfl (zd 5) kJ (kI zm)) zf)))))))
  (zA (xb (xQ Y_put (J.mono x4) rfl (zb (zd 1) (zb (zd 4) (zb (xV xn xU (zd 7) (xQ Y_pick (J.mono x4) rfl (zb (zd 0) (zb zm zf))) (λ_ _=>rfl)) zf)))))))) xN)
  (zq (wV (xF jy jx (zd 3) zm (xJ _)) (zA (xb (xQ Y_put (J.mono x4) rfl (zb (zd 1) (zb (zd 4) (zb (xQ Y_odd (J.mono x4) rfl (zb (zd 0) zf)) zf)))))) xN)
  (zq (wV (xF jy jx (zd 3) zm (xJ _)) (zA (xb (xQ Y_put (J.mono x4) rfl (zb (zd 1) (zb (zd 4) (zb (xQ Y_put (J.mono x4) rfl (zb (zd 5) (zb (xQ Y_pick (J.mono x4) rfl (zb (zd 0) (zb (xr xR vG T.len vB (zb (zd 5) zf)) zf))) (zb (xQ Y_odd (J.mono x4) rfl (zb (zd 0) zf)) zf)))) zf)))))) xN)
  (zA (xb (xV xn xU (vp (zb (wS vq ZV T.list Zd (zb (zd 1) zf)) (zb (wk (zb (zd 1) zf)) (zb (kT vJ kG (zd 1) (wk (zb (wk zf) zf))) zf)))) (xQ Y_pick (J.mono x4) rfl (zb (zd 0) (zb zm zf))) (λ_ _=>rfl)))))))))))))))) ?_
 with_reducible generalize h4:YG (Vk 4 _) _=S4
 rintro ds n Q hl ⟨es,d,w,m,rfl,rfl,hm,hw,hg,aA,aB,aC,aE,aD,q⟩;have W:∀R:D->Nat->Prop,(∀y,Bn 2 2 y->R y 3)->zj0 [.st] 3 R:=λR h=>⟨rfl,rfl,h⟩
 have qo:∀y,Bn 2 2 y->Q y 3:=λy hy=>q y ⟨hy.g.mono x3,λfs e=>by have:=hy.l fs e;lia⟩
 have put:∀(k:Nat) (y:D),k<es.length->Gd (w+4) y->zi8 [.tup es,.int (k:Int),y] 3 Q:=λk y hk hy=>⟨es,k,y,rfl,hk,x3,yX (hy.okA x3),q _ (Bn.put hk x3 x3 (λd hd=>(hg d hd).mono x3) hy)⟩
 have main:es≠[]->∀I:Int,S4 { nx:=λ_ n=>Q .non n,rt:=Q } [some .st,some (.tup es),some (.int (d:Int)),some (.int I),none,none,none,none] 3:=λax I=>by
  have az:0<es.length:=List.length_pos_iff.mpr ax;subst h4
  with_reducible generalize h6:YG (sIf _ _ _) _=S6
  have ai:∀(k:Nat) (e:D),k<es.length->e∈es->S6 { nx:=λ_ n=>Q .non n,rt:=Q } [some .st,some (.tup es),some (.int (d:Int)),some (.int I),some (.int (k:Int)),some e,none,none] 3:=λk e hk he=>by
   have ge:=hg e he
   have ag:=ge.okA x3
   have oe:=yX ag;have ie:=vE ag
   have c1:=zt4 es k x3
   have c2:=UK es (k+1) x3
   have ec:((k:Int)+1)=((k+1:Nat):Int):=x3
   subst h6
   with_reducible generalize h7:YG (sIf _ (YG (Vk 3 _) _) _) _=S7
   have ah:∀(ps r:List D),e=.tup (.tup ps::r)->S7 { nx:=λ_ n=>Q .non n,rt:=Q } [some .st,some (.tup es),some (.int (d:Int)),some (.int I),some (.int (k:Int)),some e,none,none] 3:=λps r ee=>by
    subst ee;obtain⟨gl,gm⟩:=ge.tup_inv
    have gp:=gm (.tup ps) (by simp)
    obtain⟨pl,pm⟩:=gp.tup_inv
    have gr:∀x∈r,Gd w x:=λx hx=>gm x (by simp[hx])
    have hrl:r.length+1<=w:=by simpa using gl
    subst h7
    with_reducible generalize h8:YG (sIf _ (YG (Vk 7 _) _) _) _=S8
    have Y:S8 { nx:=λ_ n=>Q .non n,rt:=Q } [some .st,some (.tup es),some (.int (d:Int)),some (.int I),some (.int (k:Int)),some (.tup (.tup ps::r)),none,none] 3:=by
     subst h8
     with_reducible generalize aw:zG2 _=Y1
     with_reducible generalize av:zG2 _=Y2
     with_reducible generalize ar:zG2 _=Y3
     with_reducible generalize aq:zG2 _=Y4
     have up:∀(x:D),x∈D.tup ps::r->Gd (w+4) x:=λx hx=>(gm x hx).mono x3
     have ae:Gd (w+4) (.tup ps):=gp.mono x3
     by_cases w4:I=4
     ·subst w4;simp
      refine xy x3 x3 λa a0 a1=>?_
      refine xy x4 x4 λb b0 b1=>?_
      have s1:Str.length (Str.ofString "in")<=10:=x5
      have s2:Str.length (Str.ofString "out")<=10:=x5
      have s3:Str.length (Str.ofString "far")<=10:=x5
      refine⟨xY x3,?_⟩
      subst aw;simp
      refine xy x4 x4 λz z0 z1=>?_
      obtain⟨y,hy,hm⟩:=WE (xs:=[D.tup [.tup ps,.str "in"],.tup [.tup ps,.str "out",.int a,.int b],.tup [.tup ps,.str "far"],.tup (.tup ps::(r++[.int 0])),.lst (.tup ps::r),.tup (Xq (.tup ps::r) none (some 1))]) z0 (by simpa using z1)
      simp;refine⟨y,hy,put k y hk ?_⟩;simp only[zt,zW,or_false] at hm
      rcases hm with rfl |rfl |rfl |rfl |rfl |rfl
      ·exact .tup (by simp) (by simp;exact⟨ae,.str s1⟩)
      ·exact .tup (by simp) (by simp;exact⟨ae,.str s2,.int _,.int _⟩)
      ·exact .tup (by simp) (by simp;exact⟨ae,.str s3⟩)
      ·refine .tup (by simp; lia) λx hx => ?_
       rw[<- List.cons_append] at hx
       rcases zU.mp hx with h |h
       ·exact up x h
       ·rw[xi.mp h];exact .int _
      ·exact .lst (by simp;lia) up
      ·exact .tup (by have:=L2.zt7 (.tup ps::r) none (some 1);simp at this;lia) λx hx=>up x (L2.zt6 hx)
     ·by_cases w5 : I = 5
      ·subst w5;simp;subst av;simp
       exact W _ λy hy=>put k y hk (hy.g.mono x3)
      ·by_cases w6 : I = 6
       ·subst w6;simp;subst ar;simp
        refine xy x3 x3 λa a0 a1=>?_
        obtain⟨a,rfl⟩:=zZ a0
        have ha:a<(D.tup ps::r).length:=by simp at a1 ⊢;lia
        refine W _ λy hy=>?_
        have oy:=yX (hy.g.okA x3)
        refine⟨_,a,y,rfl,ha,by simp;lia,oy,put k _ hk ?_⟩
        refine(Bn.put (m:=w+4) ha (by simp;lia) (by simp;lia) up (hy.g.mono x3)).g
       ·simp [w4, w5, w6];subst aq;simp
        refine⟨xY x3,xy x4 x4 λz z0 z1=>?_⟩
        obtain⟨y,hy,hm⟩:=WE (xs:=[D.lst es,.tup [.tup es],.tup (es++[.tup []])]) z0 (by simpa using z1)
        simp;refine⟨y,hy,q y ?_⟩
        have aa:∀x∈es,Gd (w+4) x:=λx hx=>(hg x hx).mono x3
        simp only[zt,zW,or_false] at hm
        rcases hm with rfl |rfl |rfl
        ·exact⟨.lst x3 aa,λfs e=>by cases e⟩
        ·exact⟨.tup (by simp) (by simp;exact .tup x3 aa),λfs e=>by cases e;simp⟩
        ·refine ⟨.tup (by simp; lia) λx hx => ?_, λfs e => by cases e; simp; lia⟩
         rcases zU.mp hx with h |h
         ·exact aa x h
         ·rw[xi.mp h];exact .tup (by simp) (by simp)
    by_cases w3:I=3
    ·subst w3;clear Y
     with_reducible generalize hR:zG2 _=R3
     have fin:∀(F:EndsD) (y:D),F.rt=Q->Gd (w+4) y->R3 F [some .st,some (.tup es),some (.int (d:Int)),some (.tup ps),some (.int (k:Int)),some (.tup (.tup ps::r)),some y,none] 3:=λF y hF hy=>by
      have oy:=yX (hy.okA x3)
      subst hR;simp[oy,hF];rw[zt5]
      refine⟨xY x3,put k _ hk (.tup (by simp;lia) λx hx=>?_)⟩
      simp at hx
      rcases hx with rfl |hx
      ·exact hy
      ·exact(gr x hx).mono x3
     simp
     refine xy x4 x4 λj g0 g1=>?_
     refine⟨xY x3,xY x3,lt_size (k:=4) x4,xY x3,λi acc n=>n=3/\acc.length=i/\∀x∈acc,xM7 x,⟨rfl,rfl,by simp⟩,?_,?_⟩
     ·rintro i x acc n' hi ⟨rfl, ao, aj⟩;have gx:=pm x (xk hi)
      have ox:=yX (gx.okA x3)
      simp[ox];refine⟨x,rfl,gx.okB,λb=>⟨ao,?_⟩⟩;intro z hz
      rcases hz with hz |rfl
      ·exact aj z hz
      ·exact⟨b,rfl⟩
     ·rintro acc n' ⟨rfl, ao, aj⟩
      have ap:Gd (w+4) (.tup acc):=.tup x3 λx hx=>by
       obtain⟨b,rfl⟩:=aj x hx;exact .bl b
      have up:∀(x:D),x∈ps->Gd (w+4) x:=λx hx=>(pm x hx).mono x3
      have o1:Gd (w+4) (.tup (ps++[.int j])):=.tup (by simp;lia) λx hx=>by
       rcases zU.mp hx with h |h
       ·exact up x h
       ·rw[xi.mp h];exact .int _
      have o2:Gd (w+4) (.tup (Xq ps none (some (-1)))):=.tup (by have:=L2.zt7 ps none (some (-1));lia) λx hx=>up x (L2.zt6 hx)
      have o3:Gd (w+4) (.tup (ps++[.int 0,.int 0,.int 1])):=.tup (by simp;lia) λx hx=>by
       rcases zU.mp hx with h |h
       ·exact up x h
       ·simp at h
        rcases h with rfl |rfl<;>exact .int _
      have o4:Gd (w+4) (.lst ps):=.lst x3 up
      simp
      refine xy x4 x4 λz z0 z1=>?_
      obtain⟨y,hy,hm⟩:=WE (xs:=[D.tup (ps++[.int j]),.tup (Xq ps none (some (-1))),.tup (ps++[.int 0,.int 0,.int 1]),.lst ps,.tup acc]) z0 (by simpa using z1)
      simp;refine⟨y,hy,fin _ y rfl ?_⟩;simp only[zt,zW,or_false] at hm
      rcases hm with rfl |rfl |rfl |rfl |rfl
      ·exact o1
      ·exact o2
      ·exact o3
      ·exact o4
      ·exact ap
    ·simp[w3];exact Y
   by_cases w1:I=1
   ·subst w1;simp;rw[ec,c1,c2]
    have l2:(es.take k).length+(es.drop (k+1)).length<=es.length:=by rw[xh,wj];lia
    refine⟨xY x3,q _ ⟨.tup (by rw[zr];lia) λx hx=>?_,λfs e'=>?_⟩⟩
    ·rcases zU.mp hx with h | h
     ·exact(hg x (List.mem_of_mem_take h)).mono x3
     ·exact(hg x (List.mem_of_mem_drop h)).mono x3
    ·injection e' with e';subst e';rw[zr];lia
   ·by_cases w2 : I = 2
    ·subst w2;simp[oe]
     refine⟨xY x3,q _ ⟨.tup (by simp;lia) λx hx=>?_,λfs e'=>?_⟩⟩
     ·rcases zU.mp hx with h | h
      ·exact(hg x h).mono x3
      ·rw [xi.mp h]
       exact ge.mono x3
     ·injection e' with e';subst e';simp;lia
    ·have af : ∀ y, Bn 2 2 y -> zi8 [.tup es, .int (k : Int), y] 3 Q := λy hy => put k y hk (hy.g.mono x3)
     by_cases ht:∃fs,e=.tup fs
     ·obtain ⟨fs, rfl⟩ := ht;have ay:=(jk.mp ag).2
      cases fs with
      |nil=>
       simp[w1,w2,Ka,kf];exact W _ λy hy=>af y hy
      |cons p r=>
       have hp:=ay p (by simp)
       have op:=yX hp;have ip:=vE hp
       by_cases am:∃ps,p=.tup ps
       ·obtain⟨ps,rfl⟩:=am;have:=ah ps r rfl;simp[w1,w2,Ka,kf];exact this
       ·have hi:=kM am;simp[w1,w2,hi,op,ip];exact W _ λy hy=>af y hy
     ·have hi:=kM ht;simp[w1,w2,hi,oe,ie];exact W _ λy hy=>af y hy
  simp
  refine xy x3 x3 λk g0 g1=>?_
  obtain⟨k,rfl⟩:=zZ g0
  have hk:k<es.length:=x3
  simp
  refine⟨es[k],qH (by simp[hk]),?_⟩
  exact ai k _ hk (wz hk)
 with_reducible generalize h1:sIf _ _ _=S1
 simp[startD];subst h1
 refine xy x4 x4 λI g0 g1=>?_
 cases es with
 |nil=>simp;exact W _ qo
 | cons e0 aF =>
  by_cases ak:I=0
  ·subst ak;simp;exact W _ qo
  ·simp [ak]
   exact main (by simp) I
end
end K47
set_option maxHeartbeats 2000000
namespace K47
structure JLaw(ns:List Int)(i:Nat)(rho:Rho)(n:Nat):Prop where
 e:n=3
 r:∃a b c d e f g h k l m o p:Option D,rho=[some (wu ns),a,b,c,d,e,f,g,h,k,l,m,o,p]
structure JTurn(hd:List (Option D))(i:Nat)(rho:Rho)(n:Nat):Prop where
 e:n=3
 r:∃a b c d e f g h k:Option D,rho=hd++[a,b,c,d,e,f,g,h,k]
structure JAg(hd:List (Option D))(i:Nat)(rho:Rho)(n:Nat):Prop where
 e:n=3
 r:∃(ss:List D) (a b c d:Option D),ss.length<=6+i/\(∀s∈ss,Bn 42 33 s)/\rho=hd++[some (.own ss),a,b,c,d]
structure JMo(hd:List (Option D))(ss:List D)(x:Option D)(i:Nat)(rho:Rho)(n:Nat):Prop where
 e:n=3
 r:∃(y:D) (a b:Option D),Bn (30+4*i) (30+i) y/\rho=hd++[some (.own ss),x,some y,a,b]
structure JEn(hd:List (Option D))(i:Nat)(rho:Rho)(n:Nat):Prop where
 e:n=3
 r:∃a b c d:Option D,rho=hd++[a,b,c,d]
structure Fine(m:Nat)(x:Part):Prop where
 len:x.1.length<=m
 bit:∀y∈x.1,y=0\/y=1
 few:∀k,x.2=some k->k<=2000
theorem Shares.len2{d:Nat}{J:List Pair}{tr:Tr}:∀{xs:List Part}{I:List (List Thing)},Shares d J tr xs I->xs.length<=I.flatten.length
 |_,_,.nil=>zi _
 |x::xs,vs::I,.cons a r=>by
  obtain⟨t,_,T⟩:=a.tree;have h1:=T.ne;have h2:=r.len2;rw[wc,zr,zL];lia
theorem Shares.fine{d:Nat}{W:List Pair}{tr:Tr}{xs:List Part}{I:List (List Thing)}(h:Shares d W tr xs I)(Y:W.length<=4){m:Nat}(hm:Za tr<=m):∀x∈xs,Fine m x:=λx hx=>by
 obtain⟨vs,ok⟩:=h.mem hx;obtain⟨t,J,_⟩:=ok.tree;have:=XE J
 exact⟨x3,ok.bit,λk hk=>by have:=(ok.no k hk).1;lia⟩
theorem Fine.gd{x:Part}(h:Fine 29 x):Gd 30 (xm x):=by
 have W:Str.length (Str.ofString "in")<=10:=x5
 have J:Str.length (Str.ofString "out")<=10:=x5
 obtain⟨p,o⟩:=x
 have I:Gd 30 (.tup (p.map D.int)):=.tup (by rw[zh];have:=h.len;simp at this;lia) λd hd=>by
  obtain⟨y,_,rfl⟩:=zQ.mp hd;exact .int _
 cases o with
 |none=>
  refine .tup (by simp) λd hd=>?_
  simp only[zt,zW,or_false] at hd
  rcases hd with rfl |rfl
  ·exact I
  ·exact .str W
 |some k=>
  refine .tup (by simp) λd hd=>?_
  simp only[zt,zW,or_false] at hd
  rcases hd with rfl |rfl |rfl |rfl
  ·exact I
  ·exact .str J
  ·exact .int _
  ·exact .int _
theorem UG{xs:List Part}(hx:xs.length<=30)(h:∀x∈xs,Fine 29 x):Bn 30 30 (.tup (xs.map xm)):=by
 refine⟨.tup (by rw[zh];exact hx) λd hd=>?_,λfs e=>?_⟩
 ·obtain⟨x,hm,rfl⟩:=zQ.mp hd;exact(h x hm).gd
 ·injection e with e;subst e;rw[zh];exact hx
theorem Bn.mono{w v m k:Nat}{y:D}(h:Bn w m y)(h1:w<=v)(h2:m<=k):Bn v k y:=⟨h.g.mono h1,λfs e=>zy (h.l fs e) h2⟩
theorem zb1{p q:List Int}(h:p.map D.int=q.map D.int):p=q:=(List.map_inj_right (λx y e=>by injection e)).mp h
theorem Qq{x y:Part}(h:xm x=xm y):x=y:=by
 obtain⟨p,o⟩:=x;obtain⟨q,u⟩:=y
 cases o with
 | none =>
  cases u with
  |none=>
   have h':D.tup [.tup (p.map D.int),.str "in"]=.tup [.tup (q.map D.int),.str "in"]:=h;simp at h';rw[zb1 h']
  |some k=>
   have h':D.tup [.tup (p.map D.int),.str "in"]=.tup [.tup (q.map D.int),.str "out",.int ((k/2:Nat):Int),.int ((k%2:Nat):Int)]:=h;simp at h'
 | some j =>
  cases u with
  |none=>
   have h':D.tup [.tup (p.map D.int),.str "out",.int ((j/2:Nat):Int),.int ((j%2:Nat):Int)]=.tup [.tup (q.map D.int),.str "in"]:=h;simp at h'
  |some k=>
   have h':D.tup [.tup (p.map D.int),.str "out",.int ((j/2:Nat):Int),.int ((j%2:Nat):Int)]=.tup [.tup (q.map D.int),.str "out",.int ((k/2:Nat):Int),.int ((k%2:Nat):Int)]:=h;injection h' with h';injection h' with h1 h2;injection h2 with _ h2;injection h2 with h3 h4;injection h4 with h4 _;injection h1 with h1;injection h3 with h3;injection h4 with h4
   have W:j/2=k/2:=by exact_mod_cast h3
   have J:j%2=k%2:=by exact_mod_cast h4
   have I:j=k:=x3
   rw[zb1 h1,I]
theorem zv4{d:Nat}{ts:List Thing}{o:Option Tr}{I:List QA}{x:D}(aa:I.length=d)(Y:1<=d)(W:d<=4)(J:ts.length<=30)(ho:∀tr,o=some tr->TreeOf d ts tr)(hx:Bn 42 33 x) :
  ∃b:Bool,(∀R:D->Nat->Prop,R (.bl b) 3->VM [yq d ts,wX o,vQ I,x] 3 R)/\∀R:D->Nat->Prop,R (.bl b) 3->Zl [wX o,zK (vh I),x] 3 R:=by
 have ae:(vh I).length=d:=by rw[Zm];exact aa
 have hok:=hx.g.okA x3
 cases hp:qg d x with
 | false =>
  have no:∀xs:List Part,x=.tup (xs.map xm)->(∀y∈xs,(∀z∈y.1,z=0\/z=1)/\∀k,y.2=some k->k<2*d)->False:=λxs e h=>by
   rw[e] at hp
   have:qg d (.tup (xs.map xm))=true:=by
    show(xs.map xm).all (jf d)=true;rw[yw,xz];intro y hy;exact zm3 (h y hy).1 (h y hy).2
   rw[this] at hp;cases hp
  exact⟨false,λR hR=>⟨d,ts,o,I,x,rfl,aa,Y,W,J,ho,hok,hx.l,λ_=>hR,λxs e h=>(no xs e h).elim⟩,λR hR=>⟨d,ts,o,vh I,x,rfl,ae,Y,W,kj I,J,ho,hok,hx.l,λ_=>hR,λxs e h=>(no xs e h).elim⟩⟩
 | true =>
  obtain⟨xs,rfl,af⟩:=qM hp
  have same:∀zs:List Part,D.tup (xs.map xm)=.tup (zs.map xm)->zs=xs:=λzs e=>by
   injection e with e;exact((List.map_inj_right (λ_ _=>Qq)).mp e).symm
  exact⟨Yo (vh I) o xs,λR hR=>⟨d,ts,o,I,_,rfl,aa,Y,W,J,ho,hok,hx.l,λh=>(by rw[hp] at h;cases h),λzs e _=>(by rw[same zs e];exact hR)⟩,λR hR=>⟨d,ts,o,vh I,_,rfl,ae,Y,W,kj I,J,ho,hok,hx.l,λh=>(by rw[hp] at h;cases h),λzs e _=>(by rw[same zs e];exact hR)⟩⟩
section
variable {P:Program}{w:World}{K:W.Frag}{mg:QqM}{base:Heap}{f:Addr}{fd:FuncData}
noncomputable abbrev jO:Stmt:=top 46
noncomputable abbrev JE:List Str:=["_law_tree_here","_law_plain_here"]
theorem Ue:FnScope JE q15 (zV jO):=⟨rfl,rfl,rfl,x5,rfl,x5,x5⟩
noncomputable def Xv:TF:=λds n Q=>∃(o:Option Tr) (I:List Pair) (d:Nat),ds=[wX o,zK I]/\I.length=d/\1<=d/\d<=400/\wP I=I/\(∀tr,o=some tr->Walk d I tr/\Sound tr/\Za tr<=30/\Yv tr<=500)/\Q (.tup ((WA I o).map xm)) n
theorem zn2(T:Blt mg)(F:Fun K "_law_cover" "_law_cover" jO f fd)(Y_parts:Fn P w K mg base "_law_parts" 33 3 (VN 31)):FnOk P w K mg base CX0 34 f fd q15 (spD K 2 Xv):=by
 refine Fun.okD F Ue (λaa A0 outer s H E G Z hr=>(zA (xb (Xi (xF kz ku (zd 0) yc (xJ _)) (wk zf) (wS yd vV T.tuple yF (zb (xQ Y_parts (hr.mono x4) rfl (zb (zd 0) (zb (zd 1) (zb (wk zf) zf)))) zf)))))) ?_
 rintro ds n Q hl ⟨o,pl,d,rfl,J,Y,W,I,ho,q⟩
 cases o with
 |none=>
  simp[startD,wX];exact q
 |some tr=>
  obtain⟨h1,h2,h3,h4⟩:=ho tr rfl;have nt:=yT tr
  have ni:qj (yO tr)=false:=by cases tr<;>rfl
  simp[startD,wX,nt,ni]
  refine⟨tr,pl,[],d,rfl,J,Y,W,I,h1,h2,h3,by simp,h4,?_⟩
  simp;exact q
noncomputable abbrev Ug:Stmt:=top 57
noncomputable abbrev xz5:List Str:=["_law_script","_law_k","_law_left_here","_law_house_here","_law_tree_here","_law_turn","_law_box_here","_law_plain_here","_law_parts_here","_law_some","_law_again","_law_thing","_law_more","_law_found"]
theorem kN:FnScope xz5 ["_law_script"] (zV Ug):=⟨rfl,rfl,rfl,x5,rfl,x5,x5⟩
theorem xb6(T:Blt mg)(F:Fun K "law" "law" Ug f fd)(Y_left:Fn P w K mg base "_law_left" 1 2 zj1)(Y_pick:Fn P w K mg base "_law_pick" 1 2 jt)(Y_house:Fn P w K mg base "_law_house" 2 1 JR)(Y_tree:Fn P w K mg base "_law_tree" 35 2 VO)(Y_box:Fn P w K mg base "_law_box" 3 2 zK3)
  (Y_plain:Fn P w K mg base "_law_plain" 1 1 VP) (Y_cover:Fn P w K mg base "_law_cover" 34 2 Xv) (Y_finer:Fn P w K mg base "_law_finer" 2 4 JS) (Y_mixed:Fn P w K mg base "_law_mixed" 2 2 JP) (Y_odd:Fn P w K mg base "_law_odd" 2 1 zj0) (Y_bent:Fn P w K mg base "_law_bent" 3 3 Kg) (F_shows_cover:Fn P w K mg base "shows_cover" 7 4 VM) (Y_is_cover:Fn P w K mg base "_law_is_cover" 3 3 Zl) :
  FnOk P w K mg base CX0 36 f fd ["_law_script"] (Kk K):=by
 refine Fun.okLaw F kN 3 (λaU A0 outer s H E hr=>(zq (ki (m:=14) PassesOwn.never rfl (qc T.range (zb (xr (Jr rfl) zu0 T.max zv2 (zb zm (zb (xr (Jq rfl) zt9 T.min zv1 (zb (xr xR vG T.len vB (zb (zd 0) zf)) (zb zm zf))) zf))) zf)) (xp (i:=1) kN.nd rfl (lo rfl) x4)
  (zz4 (i:=2) rfl kN.nd rfl (lo rfl) Y_left (hr.mono x4) rfl (zb (zd 0) (zb (zd 1) zf)) (λc Z H0=>(zq (wg (i:=3) kN.nd rfl (lo rfl) (xQ Y_house (hr.mono x4) rfl (zb (zd 2) zf)))
  (zq (wg (i:=4) kN.nd rfl (lo rfl) (xQ Y_tree (hr.mono x4) rfl (zb (zd 2) (zb (zd 3) zf))))
  (zA (ki (m:=14) PassesOwn.never rfl (qc T.range (zb zm zf)) (xp (i:=5) kN.nd rfl (lo rfl) x4)
  (zq (wg (i:=6) kN.nd rfl (lo rfl) (xQ Y_box (hr.mono x4) rfl (zb (zd 2) (zb (zd 3) zf))))
  (zq (wg (i:=7) kN.nd rfl (lo rfl) (xQ Y_plain (hr.mono x4) rfl (zb (zd 6) zf)))
  (zq (wg (i:=8) kN.nd rfl (lo rfl) (xQ Y_cover (hr.mono x4) rfl (zb (zd 4) (zb (zd 7) zf))))
  (zq (wV (xF qC qB (zd 4) yc (xJ _)) (zA (wg (i:=8) kN.nd rfl (lo rfl) (xQ Y_mixed (hr.mono x4) rfl (zb (zd 2) (zb (xQ Y_finer (hr.mono x4) rfl (zb (zd 2) (zb (zd 4) (zb (zd 7) (zb (zd 8) zf))))) zf))))) xN)
  (zq (ZP (i:=9) kN.nd rfl (lo rfl) (zb (zd 8) (zb (xQ Y_cover (hr.mono x4) rfl (zb (zd 4) (zb (xQ Y_plain (hr.mono x4) rfl (zb (xQ Y_box (hr.mono x4) rfl (zb (zd 2) (zb (zd 3) zf))) zf)) zf))) (zb (xQ Y_odd (hr.mono x4) rfl (zb (zd 2) zf)) (zb (wk zf) (zb (wk (zb (wk (zb (wk zf) (zb vC zf))) zf)) zf))))))
  (zq (kb (i:=9) (zb (wk (zb (wk (zb (wk zf) (zb vC (zb zm (zb zm zf))))) zf)) zf) rfl)
  (zq (ki (m:=14) PassesOwn.never rfl (qc T.range (zb zm zf)) (xp (i:=10) kN.nd rfl (lo rfl) x4)
  (zq (wg (i:=11) kN.nd rfl (lo rfl) (zd 8))
  (zq (ki (m:=14) PassesOwn.never rfl (qc T.range (zb (xV xn xU (vp (zb zm (zb zm (zb zm (zb zm zf))))) (xQ Y_pick (hr.mono x4) rfl (zb (zd 2) (zb zm zf))) (λ_ _=>rfl)) zf)) (xp (i:=12) kN.nd rfl (lo rfl) x4)
  (zA (wg (i:=11) kN.nd rfl (lo rfl) (xQ Y_bent (hr.mono x4) rfl (zb (zd 2) (zb (Xi (vb (xr vn kO T.isi kP (zb (zd 11) (zb (jS (hm:=T.tuple) (hv:=yF)) zf)))) (zd 11) (zd 8)) (zb (xV xn xU (zd 3) zm (λ_ _=>rfl)) zf)))))))
  (zA (kb (i:=9) (zb (zd 11) zf) rfl)))))
  (zA (je 9 (ki (m:=14) PassesOwn.never rfl (vk rfl (zd 9)) (xp (i:=11) kN.nd rfl (lo rfl) x4)
  (zq (wg (i:=13) kN.nd rfl (lo rfl) (xQ F_shows_cover (hr.mono x4) rfl (zb (zd 3) (zb (zd 4) (zb (zd 6) (zb (zd 11) zf))))))
  (zA (wV (PWD.pt (kW (vX (vb (xr vn kO T.isi kP (zb (zd 13) (zb (jS (hm:=T.bool) (hv:=UN)) zf))))) (qa (xF ze2 zd4 (zd 13) (xQ Y_is_cover (hr.mono x4) rfl (zb (zd 4) (zb (zd 7) (zb (zd 11) zf)))) (xJ _))))) (zA (xb kU)) xN))))))))))))))))))))
  (zA (xb kU)))) ?_
 intro ns aE;have ao:we (wu ns)=true:=id rfl;simp[startD,ao]
 refine⟨x3,x3,JLaw ns,⟨rfl,_,_,_,_,_,_,_,_,_,_,_,_,_,rfl⟩,?_,?_⟩
 ·rintro i d' rho m e ⟨rfl, a, b, c, d1, e1, f1, g1, h1, i1, j1, k1, l1, m1, rfl⟩;obtain⟨hi,rfl⟩:=Vl e;generalize hS:xh5 _ _ _=S;simp
  refine zo4 ns (by simp) x4 rfl (i:Int) (by simp[ao]) (λP P' h=>by simp[ao];exact h _ _) ?_
  refine⟨ns,_,rfl,aE,x3,x3,λx y hx hy aD=>⟨[x,y,0],rfl,rfl,by simp[hx,hy],by simp[aD],?_⟩⟩
  simp[Vu,km];refine⟨rfl,rfl,λd ts aa ae hg hz=>?_⟩;have nh:=Yl d ts
  have T1:∀R:D->Nat->Prop,(∀o:Option Tr,(o=none->ts=[])->(∀tr,o=some tr->TreeOf d ts tr)->R (wX o) 3)->VO [.st,yq d ts] 3 R:=λR hR=>⟨d,ts,rfl,rfl,aa,ae,hg.u,hz,λh=>hR none (λ_=>h) λtr e=>(by cases e),λh tr g=>hR (some tr) (λe=>by cases e) λtr' e=>by cases e;exact g⟩
  simp[nh];refine T1 _ λo aQ ho=>?_;have no:=Zn o;subst hS;generalize hB:YG (Vk 6 _) _=B;simp;refine⟨JTurn [some (wu ns),none,some .st,some (yq d ts),some (wX o)],⟨rfl,_,_,_,_,_,_,_,_,_,rfl⟩,?_,?_⟩
  ·rintro j d' rho m e ⟨rfl, a, b, c, d1, e1, f1, g1, h1, i1, rfl⟩;subst hB;generalize aL:YG (Vk 8 _) _=B2;simp[nh];refine⟨d,ts,rfl,rfl,ae,hg,hz,λW ay aR=>?_⟩;have av:we (vQ W)=true:=id rfl
   have I:(vh W).length=d:=by rw[Zm];exact ay
   have J:=kj W;have ag:we (zK (vh W))=true:=id rfl;simp[av]
   refine⟨W,rfl,x3,x3,?_⟩
   subst aL
   have aq:∀(Y:List Pair),Y.length=d->∀tr,o=some tr->Walk d Y tr/\Sound tr/\Za tr<=29/\Yv tr<=60:=λY I tr e=>by
    have g:=ho tr e;have z1:=g.deep;have z2:=g.size
    exact⟨g.walk aa I,g.sound,x3,x3⟩
   have az:∀(Y:List Pair) (R:D->Nat->Prop),Y.length=d->wP Y=Y->R (.tup ((WA Y o).map xm)) 3->Xv [wX o,zK Y] 3 R:=λY R I J hR=>⟨o,Y,d,rfl,I,aa,x3,J,λtr e=>(by
    obtain⟨y1,y2,y3,y4⟩:=aq Y I tr e
    exact⟨y1,y2,x3,x3⟩),hR⟩
   have aj:∀Y:List Pair,Y.length=d->wP Y=Y->Bn 30 30 (.tup ((WA Y o).map xm)):=λY I J=>by
    cases o with
    |none=>exact UG (by simp[WA]) (by simp[WA])
    |some tr=>
     obtain⟨ar,S,pv⟩:=(zb5 aa I J (ho tr rfl)).r;have h1:=S.len2;rw[pv.length_eq] at h1
     exact UG (zy h1 hz) (S.fine x3 (aq Y I tr rfl).2.2.1)
   generalize aK:YG (zW2 9 _) _=B3
   have rest:∀(xs:List Part) (F:EndsD) (a b c e f g:Option D),Bn 30 30 (.tup (xs.map xm))->F.nx=JTurn [some (wu ns),none,some .st,some (yq d ts),some (wX o)] (j+1)->B3 F [some (wu ns),none,some .st,some (yq d ts),some (wX o),f,some (vQ W),some (zK (vh W)),some (.tup (xs.map xm)),a,b,c,e,g] 3:=λxs F a b c e f g ah hF=>by
    subst aK
    with_reducible generalize aH:YG (xh5 _ _ _) _=L1
    have am:∀(ss:List D) (a b c e:Option D),ss.length<=6->(∀s∈ss,Bn 42 33 s)->L1 F [some (wu ns),none,some .st,some (yq d ts),some (wX o),f,some (vQ W),some (zK (vh W)),some (.tup (xs.map xm)),some (.own ss),a,b,c,e] 3:=λss a b c e ax af=>by
     subst aH
     with_reducible generalize aJ:YG (Vk 11 _) _=Bd
     with_reducible generalize aI:xn8 _ _=Ed
     simp
     refine⟨JAg [some (wu ns),none,some .st,some (yq d ts),some (wX o),f,some (vQ W),some (zK (vh W)),some (.tup (xs.map xm))],⟨rfl,ss,_,_,_,_,x3,af,rfl⟩,?_,?_⟩
     ·rintro i2 d2 rho n' e2 ⟨rfl, ss, a, b, c, e, ax, af, rfl⟩;obtain⟨aT,_⟩:=Vl e2;subst aJ
      with_reducible generalize aM:Um _ _=Ap
      with_reducible generalize aG:Vk 11 (dFn _ _ _)=Mo
      simp
      refine xy x4 x4 λk g0 g1=>KA (js:=[1,1,2,3]) 1 3 g0 (by simpa using g1) x4 λz z0 z1=>?_
      simp
      refine⟨x3,x3,JMo [some (wu ns),none,some .st,some (yq d ts),some (wX o),f,some (vQ W),some (zK (vh W)),some (.tup (xs.map xm))] ss (some d2),⟨rfl,_,_,_,ah,rfl⟩,?_,?_⟩
      ·rintro i3 d3 rho n' e3 ⟨rfl, y, a, b, hy, rfl⟩;obtain⟨aS,_⟩:=Vl e3
       have hi3':i3<3:=x3
       have oy:=yX (hy.g.okA x3)
       have iy:=vE (hy.g.okA x3)
       have e5:30+4*i3+4=30+4*(i3+1):=x3
       have e6:30+i3+1=30+(i3+1):=x3
       have ak:∀(es:List D) (R:D->Nat->Prop),es.length<=30+i3->es.length<=30+4*i3->(∀x∈es,Gd (30+4*i3) x)->(∀y,Bn (30+4*(i3+1)) (30+(i3+1)) y->R y 3)->Kg [.st,.tup es,.int (d:Int)] 3 R:=λes R h1 h2 h3 hR=>⟨es,d,30+4*i3,30+i3,rfl,rfl,h1,h2,h3,x3,x3,x3,aa,ae,λy hy=>hR y (by rw[e5,e6] at hy;exact hy)⟩
       subst aG
       by_cases ht:∃es,y=.tup es
       ·obtain⟨es,rfl⟩:=ht;obtain⟨g1,g2⟩:=hy.g.tup_inv;simp[nh];refine Jg (ak es _ (hy.l es rfl) g1 g2 λy hy=>?_);exact⟨rfl,y,_,_,hy,rfl⟩
       ·have aP := ah.l _ rfl;have aw:=ah.g.tup_inv
        have fin:Kg [.st,.tup (xs.map xm),.int (d:Int)] 3 λy n=>JMo [some (wu ns),none,some .st,some (yq d ts),some (wX o),f,some (vQ W),some (zK (vh W)),some (.tup (xs.map xm))] ss (some d2) (i3+1) [some (wu ns),none,some .st,some (yq d ts),some (wX o),f,some (vQ W),some (zK (vh W)),some (.tup (xs.map xm)),some (.own ss),some d2,some y,some d3,b] n:=ak _ _ x3 (by have:=aw.1;lia) (λx hx=>(aw.2 x hx).mono x3) λy hy=>⟨rfl,y,_,_,hy,rfl⟩
        simp[kM ht,nh,oy,iy];exact Jg fin
      ·rintro rho n' ⟨rfl, y, a, b, hy, rfl⟩
       have aN:(JI 0 z.toNat).length=z.toNat:=by simp[JI]
       rw[aN] at hy
       have oy:=yX (hy.g.okA x3)
       subst aM;simp[oy]
       refine⟨lt_size x3,rfl,ss++[y],_,_,_,_,by simp;lia,λs hs=>?_,rfl⟩
       rcases zU.mp hs with h |h
       ·exact af s h
       ·rw [xi.mp h]
        exact hy.mono x3 x3
     ·rintro rho n' ⟨rfl, ss, a, b, c, e, ax, af, rfl⟩;subst aI;simp;refine⟨JEn [some (wu ns),none,some .st,some (yq d ts),some (wX o),f,some (vQ W),some (zK (vh W)),some (.tup (xs.map xm)),some (.lst ss)],⟨rfl,_,_,_,_,rfl⟩,?_,?_⟩
      ·rintro i2 x rho n' hx ⟨rfl, a, b, c, e, rfl⟩;have bn:=af x (xk hx)
       have ox:=yX (bn.g.okA x3)
       obtain⟨t,h1,h2⟩:=zv4 ay aa ae hz ho bn;simp[nh,no,av,ag,ox];refine h1 _ ?_;simp[Ka,kf,no,ag,ox];refine h2 _ ?_;simp;exact⟨rfl,_,_,_,_,rfl⟩
      ·rintro rho n' ⟨rfl,a,b,c,e,rfl⟩;rw[hF];exact⟨rfl,_,_,_,_,_,_,_,_,_,rfl⟩
    simp[nh,no];refine⟨d,ts,rfl,rfl,ae,hg,hz,λb2 aF aO=>?_⟩
    have ai:(vh b2).length=d:=by rw[Zm];exact aF
    refine⟨b2,rfl,x3,x3,az _ _ ai (kj b2) ⟨rfl,rfl,λy hy=>?_⟩⟩
    have s1:Str.length (Str.ofString "in")<=10:=x5
    have s2:Str.length (Str.ofString "out")<=10:=x5
    have c0:Bn 42 33 (.tup []):=⟨.tup (by simp) (by simp),λfs e=>by cases e;simp⟩
    have c1:Bn 42 33 (.tup [.tup [.tup [],.str "in"]]):=⟨.tup (by simp) (by simp;exact .tup (by simp) (by simp;exact⟨c0.g,.str s1⟩)),λfs e=>by cases e;simp⟩
    have c2:Bn 42 33 (.tup [.tup [.tup [],.str "out",.int 0,.int 0]]):=⟨.tup (by simp) (by simp;exact .tup (by simp) (by simp;exact⟨c0.g,.str s2,.int _⟩)),λfs e=>by cases e;simp⟩
    refine⟨lt_size (k:=5) x4,am _ _ _ _ _ (by simp) λs hs=>?_⟩
    simp only[zt,zW,or_false] at hs
    rcases hs with rfl |rfl |rfl |rfl |rfl |rfl
    ·exact ah.mono x3 x3
    ·exact(aj _ ai (kj b2)).mono x3 x3
    ·exact hy.mono x3 x3
    ·exact c0
    ·exact c1
    ·exact c2
   simp[ag,no];refine az _ _ I J ?_
   cases o with
   |none=>
    have eC:WA (vh W) none=[]:=rfl;have:=rest [] { nx:=JTurn [some (wu ns),none,some .st,some (yq d ts),some (wX none)] (j+1),rt:=λd n'=>n'=3/\qp d=true/\d=D.bl true,bk:=λrho' n'=>n'=3/\List.length rho'=14/\rho'[0]?=some (some (wu ns))/\JLaw ns (i+1) [some (wu ns),none,none,none,none,none,none,none,none,none,none,none,none,none] 3,ct:=JTurn [some (wu ns),none,some .st,some (yq d ts),some (wX none)] (j+1) } e1 f1 g1 h1 (some d') i1 (aj _ I J) rfl;simp[wX,eC] at this ⊢;exact this
   |some tr=>
    have ni:qj (yO tr)=false:=by cases tr<;>rfl
    have nt:=yT tr;obtain⟨ar,S,pv⟩:=(zb5 aa I J (ho tr rfl)).r;have ap:=S.len2;rw[pv.length_eq] at ap;have ap:(WA (vh W) (some tr)).length<=ts.length:=ap;obtain⟨y1,y2,y3,y4⟩:=aq _ I tr rfl;simp[wX,ni,nt,ag]
    refine⟨d,vh W,tr,_,ar,rfl,rfl,I,ae,S,x3,x3,λys aA S2 p2 l2=>?_⟩
    simp
    refine⟨ys,rfl,rfl,x3,λzs pz=>?_⟩
    have cy:CoverOk d (vh W) tr ts ys:=⟨aA,S2,p2.trans pv⟩;have cz:=cy.perm pz;obtain⟨vz,Sz,aB⟩:=cz.r;have aC:=Sz.len2;rw[aB.length_eq] at aC
    exact rest zs _ _ _ _ _ _ _ (UG x3 (Sz.fine x3 y3)) rfl
  ·rintro rho m ⟨rfl,a,b,c,d1,e1,f1,g1,h1,i1,rfl⟩;exact⟨rfl,rfl,rfl,rfl,_,_,_,_,_,_,_,_,_,_,_,_,_,rfl⟩
 ·rintro rho m ⟨rfl,a,b,c,d1,e1,f1,g1,h1,i1,j1,k1,l1,m1,rfl⟩;simp
end
end K47
set_option maxHeartbeats 1000000
namespace K47
theorem kL{α:Type}{us:List α}{c:Nat}(h:us.length=c+1):∃a r,us=a::r/\r.length=c:=by
 cases us with
 |nil=>cases h
 |cons a r=>exact⟨a,r,rfl,Nat.succ.inj h⟩
theorem zc5{fd:FuncData}{ps:List Str}{us:QqW}(h:us.length=1)(q:∀I,bindArgs fd ⟨[I],[]⟩=pure (ps.zip [I])):bindArgs fd ⟨us,[]⟩=pure (ps.zip us):=by
 obtain⟨I,W,rfl,J⟩:=kL h;obtain rfl:=xO.mp J;exact q I
theorem WK{fd:FuncData}{ps:List Str}{us:QqW}(h:us.length=2)(q:∀J I,bindArgs fd ⟨[J,I],[]⟩=pure (ps.zip [J,I])):bindArgs fd ⟨us,[]⟩=pure (ps.zip us):=by
 obtain⟨J,u0,rfl,W⟩:=kL h;obtain⟨I,Y,rfl,h1⟩:=kL W;obtain rfl:=xO.mp h1;exact q J I
theorem zi2{fd:FuncData}{ps:List Str}{us:QqW}(h:us.length=3)(q:∀W J I,bindArgs fd ⟨[W,J,I],[]⟩=pure (ps.zip [W,J,I])):bindArgs fd ⟨us,[]⟩=pure (ps.zip us):=by
 obtain⟨W,u0,rfl,Y⟩:=kL h;obtain⟨J,u1,rfl,h1⟩:=kL Y;obtain⟨I,u2,rfl,h2⟩:=kL h1;obtain rfl:=xO.mp h2;exact q W J I
theorem zU4{fd:FuncData}{ps:List Str}{us:QqW}(h:us.length=4)(q:∀Y W J I,bindArgs fd ⟨[Y,W,J,I],[]⟩=pure (ps.zip [Y,W,J,I])):bindArgs fd ⟨us,[]⟩=pure (ps.zip us):=by
 obtain⟨Y,u0,rfl,h0⟩:=kL h;obtain⟨W,u1,rfl,h1⟩:=kL h0;obtain⟨J,u2,rfl,h2⟩:=kL h1;obtain⟨I,u3,rfl,h3⟩:=kL h2;obtain rfl:=xO.mp h3;exact q Y W J I
structure Dn(K:W.Frag)(x:Str)(st:Stmt):Prop where
 ex:∃(f:Addr) (fd:FuncData),W.nsIn K mainGlobals x=some (some (.ref f))/\Fun K x x st f fd
theorem dn{K:W.Frag}{x:Str}{st:Stmt}{f:Addr}{oc:Value}{od an:QqE}{J:Array (Option Value)}{kV Y pm I ct:Value}(a:W.nsIn K mainGlobals x=some (some (.ref f)))(l:K.lookup f=some ⟨oc,od,.func (W.fnOf x x (qG st) (kn st) (zV st) .none kV Y pm an I ct),J⟩)(c:W.codeIn K I x=true)(k:W.keepIn K (.ref f)=true):Dn K x st:=⟨f,_,a,zr5 (st:=st) l c k⟩
theorem Dn.fn{P:Program}{w:World}{K:W.Frag}{mg:QqM}{base h:Heap}{x:Str}{st:Stmt}{Y k:Nat}{t:TF}{ps:List Str}(d:Dn K x st)(X:K.In h)(G:h.Ns mainGlobals mg)(b:∀(kV I pm:Value) (an:QqE) (J ct:Value) (us:QqW),us.length=ps.length->bindArgs (W.fnOf x x (qG st) (kn st) (zV st) .none kV I pm an J ct) ⟨us,[]⟩=pure (ps.zip us))(ok:∀(f:Addr) (fd:FuncData),Fun K x x st f fd->mg x=some (.ref f)->W.keepIn K (.ref f)=true->Binds K fd ps []->FnOk P w K mg base CX0 Y f fd ps (spD K k t)):Fn P w K mg base x Y k t:=by
 obtain⟨f,fd,a,F⟩:=d.ex;have m:=W.mg_of X G a;have B:=F.binds b;exact⟨f,fd,ps,ok f fd F m F.kp B,m,F.kp,B⟩
theorem all_mk{l:W.OpenLaw}{w:World}{K:W.Frag}{h:Heap}{mg:QqM}{fa ao am:Addr}(X:K.In h)(G:h.Ns mainGlobals mg)(aQ:mg "law" = some (.ref fa))
  {aA aM az ak:QqE}{ar aq:Array (Option Value)}{aC aJ aK av Y aL aB ag ah af J ai:Value}
  (d0:Dn K "is_whole" YB)
  (d1:Dn K "is_from_zero" qA)
  (d2:Dn K "is_below" YC)
  (d3:Dn K "least_of" YA)
  (d4:Dn K "greatest_of" qX)
  (d5:Dn K "all_below" ZH)
  (d6:Dn K "all_above" ZI)
  (d7:Dn K "pair_of" XS)
  (d8:Dn K "is_crossed" jF)
  (d9:Dn K "settled" XR)
  (d10:Dn K "plain_box" ZE)
  (d11:Dn K "greater_of" jG)
  (d12:Dn K "lesser_of" ZF)
  (d13:Dn K "common_pair" qY)
  (d14:Dn K "common" Uj)
  (d15:Dn K "lies_within" qW)
  (d16:Dn K "is_out" Ui)
  (d17:Dn K "tree_at" XQ)
  (d18:Dn K "is_path" XT)
  (d19:Dn K "is_part" XU)
  (d20:Dn K "are_parts" ZG)
  (d21:Dn K "trees_at" Yz)
  (d22:Dn K "hold_each_once" kQ)
  (d23:Dn K "is_so" JZ)
  (d24:Dn K "are_so" Uk)
  (d25:Dn K "shows_cover" qV)
  (d26:Dn K "_law_left" ZL)
  (d27:Dn K "_law_pick" ZK)
  (d28:Dn K "_law_house" jM)
  (d29:Dn K "_law_number" qZ)
  (d30:Dn K "_law_box" YF)
  (d31:Dn K "_law_bounds" jb)
  (a32:W.nsIn K mainGlobals "_law_grown" = some (some (.ref ao))) (l32:K.lookup ao=some ⟨aC,aA,.func (W.fnOf "_law_grown" "_law_grown" (qG ka) (kn ka) (zV ka) .none aJ aK av aM Y aL),ar⟩) (c32:W.codeIn K Y "_law_grown" = true) (k32:W.keepIn K (.ref ao)=true)
  (d33:Dn K "_law_tree" ZJ)
  (d34:Dn K "_law_plain" jJ)
  (d35:Dn K "_law_beyond" jc)
  (d36:Dn K "_law_apart" jP)
  (d37:Dn K "_law_inside" ja)
  (d38:Dn K "_law_parts" jK)
  (d39:Dn K "_law_cover" jO)
  (d40:Dn K "_law_at" XV)
  (d41:Dn K "_law_mixed" jL)
  (d42:Dn K "_law_finer" jN)
  (d43:Dn K "_law_whole" jH)
  (d44:Dn K "_law_there" jI)
  (d45:Dn K "_law_out_right" kR)
  (d46:Dn K "_law_is_cover" kZ)
  (d47:Dn K "_law_odd" YE)
  (d48:Dn K "_law_put" YD)
  (d49:Dn K "_law_bent" ZM)
  (a50:W.nsIn K mainGlobals "law" = some (some (.ref am))) (l50:K.lookup am=some ⟨aB,az,.func (W.fnOf "law" "law" (qG Ug) (kn Ug) (zV Ug) .none ag ah af ak J ai),aq⟩) (c50:W.codeIn K J "law" = true) (k50:W.keepIn K (.ref am)=true)
  {aj aN:Addr}{ay:Value}{ax:QqE}{aw:Array (Option Value)}{aa:Array Value} (le32:Y=.ref aj) (lk32:K.lookup aj=some ⟨ay,ax,.fields aa,aw⟩) (lp32:aa[11]?=some (.ref aN))
  {e0:Addr}{aU:QqE}{aV:Nat}{aS aR:Tok}{aT:Array (Option Value)} (yy0:W.nsIn K mainGlobals "EMPTY_PAIR" = some (some (.ref e0))) (hh0:K.lookup e0=some ⟨.type "tuple",aU,.seq #[.int 1 aS,.int 0 aR] aV,aT⟩)
  {ne:Addr}{aP:Nat}{aI aH aG aF aE aD:Tok}
  (ny:W.nsIn K mainGlobals "LENGTHS" = some (some (.ref ne))) (ns:(ne == sysModules)=false) {no:Obj} (nh:K.lookup ne=some no) (nw:no={ cls:=.type "dict",data:=.dict #[{ hash:=PyData.keyHash w.params "in",key:=.str "in" aI,val:=.int 2 aF },{ hash:=PyData.keyHash w.params "far",key:=.str "far" aH,val:=.int 2 aE },{ hash:=PyData.keyHash w.params "out",key:=.str "out" aG,val:=.int 4 aD }] aP })
  (z0:W.nsIn K mainGlobals "len" = some none) (z1:W.nsIn K mainGlobals "abs" = some none) (z2:W.nsIn K mainGlobals "all" = some none) (z3:W.nsIn K mainGlobals "any" = some none) (z4:W.nsIn K mainGlobals "isinstance" = some none) (z5:W.nsIn K mainGlobals "int" = some none) (z6:W.nsIn K mainGlobals "bool" = some none) (z7:W.nsIn K mainGlobals "str" = some none) (z8:W.nsIn K mainGlobals "tuple" = some none) (z9:W.nsIn K mainGlobals "list" = some none) (z10:W.nsIn K mainGlobals "range" = some none) (z11:W.nsIn K mainGlobals "zip" = some none) (z12:W.nsIn K mainGlobals "enumerate" = some none) (z13:W.nsIn K mainGlobals "max" = some none) (z14:W.nsIn K mainGlobals "min" = some none) (z15:W.nsIn K mainGlobals "sorted" = some none) :
  ∃fd:FuncData,(∀(s:Shared) (v:Value),BindsTo s fd ⟨[v],[]⟩ [("_law_script",v)])/\∀base:Heap,K.In base->base.Ns mainGlobals mg->base.NoDigits->JF K mg base->FnOk l.prog w K mg base CX0 36 fa fd ["_law_script"] (Kk K):=by
 have ae:=zV1 a32 l32 le32 lk32 lp32;have e:=aQ.symm.trans (W.mg_of X G a50);cases e;have T:Blt mg:=⟨W.mg_none_of X G z0,W.mg_none_of X G z1,W.mg_none_of X G z2,W.mg_none_of X G z3,W.mg_none_of X G z4,W.mg_none_of X G z5,W.mg_none_of X G z6,W.mg_none_of X G z7,W.mg_none_of X G z8,W.mg_none_of X G z9,W.mg_none_of X G z10,W.mg_none_of X G z11,W.mg_none_of X G z12,W.mg_none_of X G z13,W.mg_none_of X G z14,W.mg_none_of X G z15⟩;have G_EMPTY_PAIR:zU1 K mg "EMPTY_PAIR" (.tup [.int 1,.int 0]):=zr4 (W.mg_of X G yy0) hh0;subst nw;have G_LENGTHS:xz6 w K mg "LENGTHS" ["in","far","out"] [.int 2,.int 2,.int 4]:=⟨ne,_,_,_,W.mg_of X G ny,ns,nh,⟨rfl,rfl,rfl⟩,rfl,⟨⟨⟨aI,rfl⟩,rfl,⟨.int 2,⟨aF,rfl⟩,λ_ _ _=>Rep.ofS (d:=.int 2) rfl⟩⟩,⟨⟨⟨aH,rfl⟩,rfl,⟨.int 2,⟨aE,rfl⟩,λ_ _ _=>Rep.ofS (d:=.int 2) rfl⟩⟩,⟨⟨⟨aG,rfl⟩,rfl,⟨.int 4,⟨aD,rfl⟩,λ_ _ _=>Rep.ofS (d:=.int 4) rfl⟩⟩,True.intro⟩⟩⟩⟩;have ap:=zr5 (st:=ka) l32 c32 k32;have aW:=zr5 (st:=Ug) l50 c50 k50;refine⟨W.fnOf "law" "law" (qG Ug) (kn Ug) (zV Ug) .none ag ah af ak J ai,λs v=>.of_eq rfl,λbase _ _ ND LA=>?_⟩
 have aO:=LA "_law_grown" (by simp[qE]) _ _ ae
 have F_is_whole:Fn l.prog w K mg base "is_whole" 1 1 JM:=d0.fn X G (ps:=q1) (λ_ _ _ _ _ _ us I=>zc5 I λ_=>rfl) λ_ _ U M N B=>zA6 T U;have F_is_from_zero:Fn l.prog w K mg base "is_from_zero" 2 1 zi7:=d1.fn X G (ps:=q1) (λ_ _ _ _ _ _ us I=>zc5 I λ_=>rfl) λ_ _ U M N B=>zO6 U F_is_whole;have F_is_below:Fn l.prog w K mg base "is_below" 3 2 VT:=d2.fn X G (ps:=["thing","limit"]) (λ_ _ _ _ _ _ us I=>WK I λ_ _=>rfl) λ_ _ U M N B=>zB7 U F_is_from_zero;have F_least_of:Fn l.prog w K mg base "least_of" 1 1 Yt:=d3.fn X G (ps:=["low"]) (λ_ _ _ _ _ _ us I=>zc5 I λ_=>rfl) λ_ _ U M N B=>Qe U;have F_greatest_of:Fn l.prog w K mg base "greatest_of" 1 1 qQ:=d4.fn X G (ps:=["high"]) (λ_ _ _ _ _ _ us I=>zc5 I λ_=>rfl) λ_ _ U M N B=>WR U;have F_all_below:Fn l.prog w K mg base "all_below" 1 2 ZA:=d5.fn X G (ps:=q2) (λ_ _ _ _ _ _ us I=>WK I λ_ _=>rfl) λ_ _ U M N B=>KM U;have F_all_above:Fn l.prog w K mg base "all_above" 1 2 ZB:=d6.fn X G (ps:=q2) (λ_ _ _ _ _ _ us I=>WK I λ_ _=>rfl) λ_ _ U M N B=>KN U;have F_pair_of:Fn l.prog w K mg base "pair_of" 2 1 XH:=d7.fn X G (ps:=["span"]) (λ_ _ _ _ _ _ us I=>zc5 I λ_=>rfl) λ_ _ U M N B=>ze5 U F_least_of F_greatest_of;have F_is_crossed:Fn l.prog w K mg base "is_crossed" 1 1 jD:=d8.fn X G (ps:=["pair"]) (λ_ _ _ _ _ _ us I=>zc5 I λ_=>rfl) λ_ _ U M N B=>Ut U;have F_settled:Fn l.prog w K mg base "settled" 2 1 Yc:=d9.fn X G (ps:=["pairs"]) (λ_ _ _ _ _ _ us I=>zc5 I λ_=>rfl) λ_ _ U M N B=>ze4 T G_EMPTY_PAIR U F_is_crossed;have F_plain_box:Fn l.prog w K mg base "plain_box" 3 1 Zx:=d10.fn X G (ps:=["box"]) (λ_ _ _ _ _ _ us I=>zc5 I λ_=>rfl) λ_ _ U M N B=>KJ U F_pair_of F_settled;have F_greater_of:Fn l.prog w K mg base "greater_of" 1 2 jE:=d11.fn X G (ps:=q0) (λ_ _ _ _ _ _ us I=>WK I λ_ _=>rfl) λ_ _ U M N B=>Uu T U;have F_lesser_of:Fn l.prog w K mg base "lesser_of" 1 2 Zz:=d12.fn X G (ps:=q0) (λ_ _ _ _ _ _ us I=>WK I λ_ _=>rfl) λ_ _ U M N B=>KL T U;have F_common_pair:Fn l.prog w K mg base "common_pair" 2 2 qR:=d13.fn X G (ps:=q0) (λ_ _ _ _ _ _ us I=>WK I λ_ _=>rfl) λ_ _ U M N B=>WS U F_greater_of F_lesser_of;have F_common:Fn l.prog w K mg base "common" 3 2 VS:=d14.fn X G (ps:=q0) (λ_ _ _ _ _ _ us I=>WK I λ_ _=>rfl) λ_ _ U M N B=>zn5 T U F_settled F_common_pair;have F_lies_within:Fn l.prog w K mg base "lies_within" 4 2 qP:=d15.fn X G (ps:=q0) (λ_ _ _ _ _ _ us I=>WK I λ_ _=>rfl) λ_ _ U M N B=>WQ U F_common;have F_is_out:Fn l.prog w K mg base "is_out" 2 3 VR:=d16.fn X G (ps:=q8) (λ_ _ _ _ _ _ us I=>zi2 I λ_ _ _=>rfl) λ_ _ U M N B=>zn4 G_EMPTY_PAIR U F_all_below F_all_above;have F_tree_at:Fn l.prog w K mg base "tree_at" 1 2 XG:=d17.fn X G (ps:=["tree","path"]) (λ_ _ _ _ _ _ us I=>WK I λ_ _=>rfl) λ_ _ U M N B=>ze3 U;have F_is_path:Fn l.prog w K mg base "is_path" 4 1 zi9:=d18.fn X G (ps:=q1) (λ_ _ _ _ _ _ us I=>zc5 I λ_=>rfl) λ_ _ U M N B=>zO8 T U F_is_below;have F_is_part:Fn l.prog w K mg base "is_part" 5 3 XI:=d19.fn X G (ps:=q5) (λ_ _ _ _ _ _ us I=>zi2 I λ_ _ _=>rfl) λ_ _ U M N B=>ze7 T G_LENGTHS U F_is_path F_is_below;have F_are_parts:Fn l.prog w K mg base "are_parts" 6 3 zK4:=d20.fn X G (ps:=q5) (λ_ _ _ _ _ _ us I=>zi2 I λ_ _ _=>rfl) λ_ _ U M N B=>xb9 T U F_is_part;have F_trees_at:Fn l.prog w K mg base "trees_at" 2 2 JN:=d21.fn X G (ps:=["tree","parts"]) (λ_ _ _ _ _ _ us I=>WK I λ_ _=>rfl) λ_ _ U M N B=>zA7 U F_tree_at;have F_hold_each_once:Fn l.prog w K mg base "hold_each_once" 1 2 zj2:=d22.fn X G (ps:=["trees","tree"]) (λ_ _ _ _ _ _ us I=>WK I λ_ _=>rfl) λ_ _ U M N B=>zP0 T U;have F_is_so:Fn l.prog w K mg base "is_so" 5 3 JQ:=d23.fn X G (ps:=["part","limits","plain"]) (λ_ _ _ _ _ _ us I=>zi2 I λ_ _ _=>rfl) λ_ _ U M N B=>zB3 U F_lies_within F_is_out;have F_are_so:Fn l.prog w K mg base "are_so" 6 3 VU:=d24.fn X G (ps:=q10) (λ_ _ _ _ _ _ us I=>zi2 I λ_ _ _=>rfl) λ_ _ U M N B=>zn7 T U F_is_so;have F_shows_cover:Fn l.prog w K mg base "shows_cover" 7 4 VM:=d25.fn X G (ps:=["house","tree","box","thing"]) (λ_ _ _ _ _ _ us I=>zU4 I λ_ _ _ _=>rfl) λ_ _ U M N B=>zA9 U F_are_parts F_trees_at F_hold_each_once F_are_so F_plain_box;have Y_left:Fn l.prog w K mg base "_law_left" 1 2 zj1:=d26.fn X G (ps:=["_law_script","_law_k"]) (λ_ _ _ _ _ _ us I=>WK I λ_ _=>rfl) λ_ _ U M N B=>zO9 T U;have Y_pick:Fn l.prog w K mg base "_law_pick" 1 2 jt:=d27.fn X G (ps:=["_law_left_here","_law_many"]) (λ_ _ _ _ _ _ us I=>WK I λ_ _=>rfl) λ_ _ U M N B=>zO7 U;have Y_house:Fn l.prog w K mg base "_law_house" 2 1 JR:=d28.fn X G (ps:=q6) (λ_ _ _ _ _ _ us I=>zc5 I λ_=>rfl) λ_ _ U M N B=>zB4 T U Y_pick;have Y_number:Fn l.prog w K mg base "_law_number" 2 3 Xs:=d29.fn X G (ps:=q16) (λ_ _ _ _ _ _ us I=>zi2 I λ_ _ _=>rfl) λ_ _ U M N B=>zm9 T U Y_pick;have Y_box:Fn l.prog w K mg base "_law_box" 3 2 zK3:=d30.fn X G (ps:=q3) (λ_ _ _ _ _ _ us I=>WK I λ_ _=>rfl) λ_ _ U M N B=>xb8 T U Y_pick Y_number;have Y_bounds:Fn l.prog w K mg base "_law_bounds" 1 1 zK1:=d31.fn X G (ps:=["_law_things"]) (λ_ _ _ _ _ _ us I=>zc5 I λ_=>rfl) λ_ _ U M N B=>xb5 T U;have Y_grown:Fn l.prog w K mg base "_law_grown" 34 4 (XJ 30):=⟨_,_,_,(zB5 T ap a32 ae aO (W.mg_of X G a32) k32 (ap.binds (ps:=q7) λ_ _ _ _ _ _ us I=>zU4 I λ_ _ _ _=>rfl) Y_pick Y_bounds 30),W.mg_of X G a32,k32,(ap.binds (ps:=q7) λ_ _ _ _ _ _ us I=>zU4 I λ_ _ _ _=>rfl)⟩;have Y_tree:Fn l.prog w K mg base "_law_tree" 35 2 VO:=d33.fn X G (ps:=q3) (λ_ _ _ _ _ _ us I=>WK I λ_ _=>rfl) λ_ _ U M N B=>zB2 T U Y_grown;have Y_plain:Fn l.prog w K mg base "_law_plain" 1 1 VP:=d34.fn X G (ps:=["_law_box_here"]) (λ_ _ _ _ _ _ us I=>zc5 I λ_=>rfl) λ_ _ U M N B=>zn1 T U;have Y_beyond:Fn l.prog w K mg base "_law_beyond" 1 4 qS:=d35.fn X G (ps:=q17) (λ_ _ _ _ _ _ us I=>zU4 I λ_ _ _ _=>rfl) λ_ _ U M N B=>zn6 U;have Y_apart:Fn l.prog w K mg base "_law_apart" 2 2 VQ:=d36.fn X G (ps:=q4) (λ_ _ _ _ _ _ us I=>WK I λ_ _=>rfl) λ_ _ U M N B=>zn3 T U Y_beyond;have Y_inside:Fn l.prog w K mg base "_law_inside" 1 2 qJ:=d37.fn X G (ps:=q4) (λ_ _ _ _ _ _ us I=>WK I λ_ _=>rfl) λ_ _ U M N B=>ze6 T U;have Y_parts:Fn l.prog w K mg base "_law_parts" 33 3 (VN 31):=d38.fn X G (ps:=q9) (λ_ _ _ _ _ _ us I=>zi2 I λ_ _ _=>rfl) λ_ _ U M N B=>(zB0 T U M N B Y_apart Y_beyond Y_inside 31);have Y_cover:Fn l.prog w K mg base "_law_cover" 34 2 Xv:=d39.fn X G (ps:=q15) (λ_ _ _ _ _ _ us I=>WK I λ_ _=>rfl) λ_ _ U M N B=>zn2 T U Y_parts;have Y_at:Fn l.prog w K mg base "_law_at" 1 2 zK2:=d40.fn X G (ps:=["_law_tree_here","_law_path"]) (λ_ _ _ _ _ _ us I=>WK I λ_ _=>rfl) λ_ _ U M N B=>xb7 U;have Y_mixed:Fn l.prog w K mg base "_law_mixed" 2 2 JP:=d41.fn X G (ps:=q18) (λ_ _ _ _ _ _ us I=>WK I λ_ _=>rfl) λ_ _ U M N B=>zB1 T U Y_pick;have Y_finer:Fn l.prog w K mg base "_law_finer" 2 4 JS:=d42.fn X G (ps:=q19) (λ_ _ _ _ _ _ us I=>zU4 I λ_ _ _ _=>rfl) λ_ _ U M N B=>zB6 T U Y_pick Y_at Y_beyond;have Y_whole:Fn l.prog w K mg base "_law_whole" 1 2 Xu:=d43.fn X G (ps:=q11) (λ_ _ _ _ _ _ us I=>WK I λ_ _=>rfl) λ_ _ U M N B=>zn0 T U;have Y_there:Fn l.prog w K mg base "_law_there" 2 2 JO:=d44.fn X G (ps:=q12) (λ_ _ _ _ _ _ us I=>WK I λ_ _=>rfl) λ_ _ U M N B=>zA8 T U Y_whole Y_at;have Y_out_right:Fn l.prog w K mg base "_law_out_right" 2 3 Zy:=d45.fn X G (ps:=q13) (λ_ _ _ _ _ _ us I=>zi2 I λ_ _ _=>rfl) λ_ _ U M N B=>KK T U Y_whole Y_beyond;have Y_is_cover:Fn l.prog w K mg base "_law_is_cover" 3 3 Zl:=d46.fn X G (ps:=q20) (λ_ _ _ _ _ _ us I=>zi2 I λ_ _ _=>rfl) λ_ _ U M N B=>Qg T U Y_there Y_out_right Y_inside;have Y_odd:Fn l.prog w K mg base "_law_odd" 2 1 zj0:=d47.fn X G (ps:=q6) (λ_ _ _ _ _ _ us I=>zc5 I λ_=>rfl) λ_ _ U M N B=>xb4 T U Y_pick;have Y_put:Fn l.prog w K mg base "_law_put" 1 3 zi8:=d48.fn X G (ps:=q14) (λ_ _ _ _ _ _ us I=>zi2 I λ_ _ _=>rfl) λ_ _ U M N B=>xb3 U;have Y_bent:Fn l.prog w K mg base "_law_bent" 3 3 Kg:=d49.fn X G (ps:=q21) (λ_ _ _ _ _ _ us I=>zi2 I λ_ _ _=>rfl) λ_ _ U M N B=>zP1 T U Y_pick Y_odd Y_put;exact xb6 T aW Y_left Y_pick Y_house Y_tree Y_box Y_plain Y_cover Y_finer Y_mixed Y_odd Y_bent F_shows_cover Y_is_cover
theorem walk{l:W.OpenLaw}{q:Program}{loose:List Str}{XP:(Str->Option Value)->Heap->Prop}{YP:World->Heap->Prop}{d:DefRec}{K:Params->W.Frag}(hn:l.most=some 63)(Y:d.params.defaults=[])
  (hY:∀(w:World) (h:Heap),YP w h->(K w.params).In h)
  (I:∀(w:World),∀y∈qE,∀c P,W.tabIn (K w.params) y=some (c,P)->∃d,(recsOf q).find? (λe=>e.name == y)=some d) (J:∀w:World,W.noTabs (K w.params)=true)
  (F : ∀ (w : World) (mg : Str -> Option Value) (fa : Addr) (h : Heap), (K w.params).In h -> h.Ns mainGlobals mg -> mg d.name = some (.ref fa) ->
   ∃fd:FuncData,(∀(s:Shared) (u:Value),BindsTo s fd ⟨[u],[]⟩ [("_law_script",u)])/\∀base:Heap,(K w.params).In base->base.Ns mainGlobals mg->base.NoDigits->JF (K w.params) mg base->FnOk l.prog w (K w.params) mg base CX0 36 fa fd ["_law_script"] (Kk (K w.params))) :
  W.WalkO q loose XP YP l.row.toRowW d [] (λf vs=>PySem.call f vs):=
 L2.zx0 (n:=63) (k:=36) (x := "_law_script") (CX:=λ_=>CX0) (sp:=λw=>Kk (K w.params)) hn x4 Y ⟨rfl,x4,x4,rfl⟩ hY I (λw=>zK0 (K w.params)) J F (λ_ _ a ns hl hO hS hT=>⟨a,ns,rfl,hO,hS,hl,hT,λH h=>⟨rfl,h⟩⟩) λ_ _ _ _ _ z=>z
end K47
open PySem PySem.W PyProof.Rows
set_option maxRecDepth 100000 in
set_option maxHeartbeats 0 in
theorem PySem.Challenge.cw_boxlayers_k47_covers_spoilt_holds : PySem.Challenge.rw_boxlayers_k47_covers_spoilt.Holds := by
 w_on; refine holds_law (by kernel_rfl) fun said => ?_; refine holds_open (q:=K47H.view) (loose:=["LENGTHS"]) (N:=10000) (XP:=XL K47H.view []) (Xt:=λs=>xlAt K47H.view [] s && recOk (RowW.records (OpenRow.toRowW (OpenLaw.row PySem.Challenge.rw_boxlayers_k47_covers_spoilt))) s) (Yf:=Hook.obs K47H.hook) (Ya:=Hook.val K47H.hook) (YP:=Hook.says K47H.hook) K47H.left (Hook.of K47H.hook) (Hook.keeps K47H.hook) (λs e=>xl_of s (Bool.and_eq_true_iff.mp e).1) XL.keeps rfl rfl rfl (λs e=>recFacts_of (Bool.and_eq_true_iff.mp e).2) rfl (by first | assumption | decide +kernel) x5 ⟨rfl,rfl,rfl,rfl,rfl,x5⟩ ?_ ?_
 ·w_witness2
 k_fill
 refine K47.walk (l:=PySem.Challenge.rw_boxlayers_k47_covers_spoilt) rfl rfl (λw h Y=>PySem.W.km_in_of Y) ?R ?N ?F
 case R =>
  intro w y hy c P e
  have z:y = "_law_grown" := by simpa [L2.qE] using hy
  subst z;exact⟨_,rfl⟩
 case N =>
  intro w
  kernel_rfl
 case F =>
  intro w mg fa h KX G I;refine' K47.all_mk KX G I ?d0 ?d1 ?d2 ?d3 ?d4 ?d5 ?d6 ?d7 ?d8 ?d9 ?d10 ?d11 ?d12 ?d13 ?d14 ?d15 ?d16 ?d17 ?d18 ?d19 ?d20 ?d21 ?d22 ?d23 ?d24 ?d25 ?d26 ?d27 ?d28 ?d29 ?d30 ?d31 ?a32 ?l32 ?c32 ?k32 ?d33 ?d34 ?d35 ?d36 ?d37 ?d38 ?d39 ?d40 ?d41 ?d42 ?d43 ?d44 ?d45 ?d46 ?d47 ?d48 ?d49 ?a50 ?l50 ?c50 ?k50 ?le32 ?lk32 ?lp32 ?yy0 ?hh0 ?ny ?ns ?nh ?nw ?z0 ?z1 ?z2 ?z3 ?z4 ?z5 ?z6 ?z7 ?z8 ?z9 ?z10 ?z11 ?z12 ?z13 ?z14 ?z15
  (case a32=>k_is)
  (case l32=>k_is)
  (case c32=>k_is)
  (case k32=>k_is)
  (case a50=>k_is)
  (case l50=>k_is)
  (case c50=>k_is)
  (case k50=>k_is)
  (case le32=>rfl)
  (case lk32=>k_is)
  (case lp32=>rfl)
  (case yy0=>k_is)
  (case hh0=>k_is)
  (case ny=>k_is)
  (case nh=>k_is)
  (case nw=>rfl)
  (case ns=>rfl)
  (case z0=>k_is)
  (case z1=>k_is)
  (case z2=>k_is)
  (case z3=>k_is)
  (case z4=>k_is)
  (case z5=>k_is)
  (case z6=>k_is)
  (case z7=>k_is)
  (case z8=>k_is)
  (case z9=>k_is)
  (case z10=>k_is)
  (case z11=>k_is)
  (case z12=>k_is)
  (case z13=>k_is)
  (case z14=>k_is)
  (case z15=>k_is)
  all_goals (apply K47.dn;k_is;k_is;k_is;k_is)
end
#print axioms PySem.Challenge.cw_boxlayers_k47_covers_spoilt_holds
