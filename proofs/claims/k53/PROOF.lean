import PyProof.Rows.All
import Wide.All
import OpenK.AllK
import Wide.FinOn
import Lean
import PyProof.EqAt
import PyProof.EqKinds
import PyProof.TupleCall
import PyProof.CompFree
import PyProof.ZipIter
import PyProof.Cells
import PyProof.Rows.CellsFrame
import PyProof.EnumMake
import PyProof.TupleIter
import PyProof.IsiPairs
import PyProof.IsiSeqPairs
import PyProof.IsiNone
import PyProof.ConsumeWalk
import PyProof.DictCompW
import PyProof.NeKinds
import PyProof.MinMaxWalk
import PyProof.Rows.SortRev
import KE.KIsAll
import KE.KDictOf
import PyProof.AttrMissHeap
import PyProof.CallFns
import KE.KDictList
import KE.KDictSum
import PyProof.FactsDict
import PySem.Challenge.RW_boxlayers_k53_parts_of_a_kept_house
set_option Elab.async false
set_option linter.all false
namespace K53H
section
open PySem PySem.W PyProof.Rows
def top (i : Nat) : Stmt := PySem.Challenge.pw_boxlayers_k53_parts_of_a_kept_house.main.body.getD i (.Pass ⟨0, 0, 0, 0⟩)
noncomputable def view:Program:={ PySem.Challenge.pw_boxlayers_k53_parts_of_a_kept_house with main:={ PySem.Challenge.pw_boxlayers_k53_parts_of_a_kept_house.main with body:=[top 0,top 2,top 4,top 5,top 6,top 8,top 10,top 11,top 12,top 14,top 15,top 16,top 17,top 19,top 20,top 21,top 23,top 24,top 25,top 26,top 27,top 28,top 29,top 30,top 31,top 32,top 33,top 34,top 35,top 36] } }
local macro_rules | `(tactic| o_head (kHook $k $a $e)) => `(tactic| (assumption; exact ($a, [])))
set_option maxRecDepth 100000 in
set_option maxHeartbeats 0 in
noncomputable def hk : List Addr × List Addr := by
  refine (fun (_ : (OpenLaw.row PySem.Challenge.rw_boxlayers_k53_parts_of_a_kept_house).Holds → (OpenLaw.row PySem.Challenge.rw_boxlayers_k53_parts_of_a_kept_house).Holds) => ?a) (fun h => ?b)
  rotate_left
  k_head
noncomputable abbrev hook : Hook := kHook hk.heap_1 hk.1 (fun _ => by kernel_rfl)
theorem four {u v a1 a2 a3 a4 a5 : Type} {o : Option u} {g : u → Option v} {A : v → a1} {B1 : v → a2} {B2 : v → a3} {C : v → a4} {E : v → a5} {a : a1} {b1 : a2} {b2 : a3} {c : a4} {e : a5} (h1 : o.map (fun x => (g x).map A) = some (some a)) (h2 : o.map (fun x => (g x).map fun s => (B1 s, B2 s)) = some (some (b1, b2))) (h3 : o.map (fun x => (g x).map C) = some (some c)) (h4 : o.map (fun x => (g x).map E) = some (some e)) : o.map (fun x => (g x).map fun s => ((A s, B1 s, B2 s, C s), E s)) = some (some ((a, b1, b2, c), e)) := by
  cases o with
  | none => cases h1
  | some x =>
    have k1 : (g x).map A = some a := Option.some.inj h1
    have k2 : ((g x).map fun s => (B1 s, B2 s)) = some (b1, b2) := Option.some.inj h2
    have k3 : (g x).map C = some c := Option.some.inj h3
    have k4 : (g x).map E = some e := Option.some.inj h4
    show some ((g x).map _) = _
    cases hg : g x with
    | none => rw [hg] at k1; cases k1
    | some s =>
      rw [hg] at k1 k2 k3 k4
      have m1 : A s = a := Option.some.inj k1
      have m2 : (B1 s, B2 s) = (b1, b2) := Option.some.inj k2
      have m3 : C s = c := Option.some.inj k3
      have m4 : E s = e := Option.some.inj k4
      have m5 : B1 s = b1 := (Prod.mk.inj m2).1
      have m6 : B2 s = b2 := (Prod.mk.inj m2).2
      subst m1 m3 m4 m5 m6
      rfl
set_option maxRecDepth 100000 in
set_option maxHeartbeats 0 in
theorem headFa (w : World) : (fencedOpening treeTable (OpenLaw.row PySem.Challenge.rw_boxlayers_k53_parts_of_a_kept_house).prog w 10000).map (fun a => (topFrom treeTable (OpenLaw.row PySem.Challenge.rw_boxlayers_k53_parts_of_a_kept_house).prog (w.withFollow "special-get-raises" false) 10000 a).map (fun s => (openSeen view [] (importedModules (OpenLaw.row PySem.Challenge.rw_boxlayers_k53_parts_of_a_kept_house).prog.main.body) (fun s => xlAt view [] s && recOk (RowW.records (OpenRow.toRowW (OpenLaw.row PySem.Challenge.rw_boxlayers_k53_parts_of_a_kept_house))) s) true s).1)) = some (some ((openGood view []).1)) := by kernel_rfl
set_option maxRecDepth 100000 in
set_option maxHeartbeats 0 in
theorem headFb (w : World) : (fencedOpening treeTable (OpenLaw.row PySem.Challenge.rw_boxlayers_k53_parts_of_a_kept_house).prog w 10000).map (fun a => (topFrom treeTable (OpenLaw.row PySem.Challenge.rw_boxlayers_k53_parts_of_a_kept_house).prog (w.withFollow "special-get-raises" false) 10000 a).map (fun s => ((openSeen view [] (importedModules (OpenLaw.row PySem.Challenge.rw_boxlayers_k53_parts_of_a_kept_house).prog.main.body) (fun s => xlAt view [] s && recOk (RowW.records (OpenRow.toRowW (OpenLaw.row PySem.Challenge.rw_boxlayers_k53_parts_of_a_kept_house))) s) true s).2.1, (openSeen view [] (importedModules (OpenLaw.row PySem.Challenge.rw_boxlayers_k53_parts_of_a_kept_house).prog.main.body) (fun s => xlAt view [] s && recOk (RowW.records (OpenRow.toRowW (OpenLaw.row PySem.Challenge.rw_boxlayers_k53_parts_of_a_kept_house))) s) true s).2.2.1))) = some (some (((openGood view []).2.1, (openGood view []).2.2.1))) := by kernel_rfl
set_option maxRecDepth 100000 in
set_option maxHeartbeats 0 in
theorem headFc (w : World) : (fencedOpening treeTable (OpenLaw.row PySem.Challenge.rw_boxlayers_k53_parts_of_a_kept_house).prog w 10000).map (fun a => (topFrom treeTable (OpenLaw.row PySem.Challenge.rw_boxlayers_k53_parts_of_a_kept_house).prog (w.withFollow "special-get-raises" false) 10000 a).map (fun s => (openSeen view [] (importedModules (OpenLaw.row PySem.Challenge.rw_boxlayers_k53_parts_of_a_kept_house).prog.main.body) (fun s => xlAt view [] s && recOk (RowW.records (OpenRow.toRowW (OpenLaw.row PySem.Challenge.rw_boxlayers_k53_parts_of_a_kept_house))) s) true s).2.2.2)) = some (some ((openGood view []).2.2.2)) := by kernel_rfl
set_option maxRecDepth 100000 in
set_option maxHeartbeats 0 in
theorem headFd (w : World) : (fencedOpening treeTable (OpenLaw.row PySem.Challenge.rw_boxlayers_k53_parts_of_a_kept_house).prog w 10000).map (fun a => (topFrom treeTable (OpenLaw.row PySem.Challenge.rw_boxlayers_k53_parts_of_a_kept_house).prog (w.withFollow "special-get-raises" false) 10000 a).map (fun s => Hook.obs hook s)) = some (some (Hook.val hook (w.withFollow "special-get-raises" false))) := by kernel_rfl
theorem headF (w : World) : (fencedOpening treeTable (OpenLaw.row PySem.Challenge.rw_boxlayers_k53_parts_of_a_kept_house).prog w 10000).map (fun a => (topFrom treeTable (OpenLaw.row PySem.Challenge.rw_boxlayers_k53_parts_of_a_kept_house).prog (w.withFollow "special-get-raises" false) 10000 a).map (fun s => ((openSeen view [] (importedModules (OpenLaw.row PySem.Challenge.rw_boxlayers_k53_parts_of_a_kept_house).prog.main.body) (fun s => xlAt view [] s && recOk (RowW.records (OpenRow.toRowW (OpenLaw.row PySem.Challenge.rw_boxlayers_k53_parts_of_a_kept_house))) s) true s), Hook.obs hook s))) = some (some ((openGood view []), Hook.val hook (w.withFollow "special-get-raises" false))) := four (headFa w) (headFb w) (headFc w) (headFd w)
set_option maxRecDepth 100000 in
set_option maxHeartbeats 0 in
theorem headTa (w : World) : (fencedOpening treeTable (OpenLaw.row PySem.Challenge.rw_boxlayers_k53_parts_of_a_kept_house).prog w 10000).map (fun a => (topFrom treeTable (OpenLaw.row PySem.Challenge.rw_boxlayers_k53_parts_of_a_kept_house).prog (w.withFollow "special-get-raises" true) 10000 a).map (fun s => (openSeen view [] (importedModules (OpenLaw.row PySem.Challenge.rw_boxlayers_k53_parts_of_a_kept_house).prog.main.body) (fun s => xlAt view [] s && recOk (RowW.records (OpenRow.toRowW (OpenLaw.row PySem.Challenge.rw_boxlayers_k53_parts_of_a_kept_house))) s) true s).1)) = some (some ((openGood view []).1)) := by kernel_rfl
set_option maxRecDepth 100000 in
set_option maxHeartbeats 0 in
theorem headTb (w : World) : (fencedOpening treeTable (OpenLaw.row PySem.Challenge.rw_boxlayers_k53_parts_of_a_kept_house).prog w 10000).map (fun a => (topFrom treeTable (OpenLaw.row PySem.Challenge.rw_boxlayers_k53_parts_of_a_kept_house).prog (w.withFollow "special-get-raises" true) 10000 a).map (fun s => ((openSeen view [] (importedModules (OpenLaw.row PySem.Challenge.rw_boxlayers_k53_parts_of_a_kept_house).prog.main.body) (fun s => xlAt view [] s && recOk (RowW.records (OpenRow.toRowW (OpenLaw.row PySem.Challenge.rw_boxlayers_k53_parts_of_a_kept_house))) s) true s).2.1, (openSeen view [] (importedModules (OpenLaw.row PySem.Challenge.rw_boxlayers_k53_parts_of_a_kept_house).prog.main.body) (fun s => xlAt view [] s && recOk (RowW.records (OpenRow.toRowW (OpenLaw.row PySem.Challenge.rw_boxlayers_k53_parts_of_a_kept_house))) s) true s).2.2.1))) = some (some (((openGood view []).2.1, (openGood view []).2.2.1))) := by kernel_rfl
set_option maxRecDepth 100000 in
set_option maxHeartbeats 0 in
theorem headTc (w : World) : (fencedOpening treeTable (OpenLaw.row PySem.Challenge.rw_boxlayers_k53_parts_of_a_kept_house).prog w 10000).map (fun a => (topFrom treeTable (OpenLaw.row PySem.Challenge.rw_boxlayers_k53_parts_of_a_kept_house).prog (w.withFollow "special-get-raises" true) 10000 a).map (fun s => (openSeen view [] (importedModules (OpenLaw.row PySem.Challenge.rw_boxlayers_k53_parts_of_a_kept_house).prog.main.body) (fun s => xlAt view [] s && recOk (RowW.records (OpenRow.toRowW (OpenLaw.row PySem.Challenge.rw_boxlayers_k53_parts_of_a_kept_house))) s) true s).2.2.2)) = some (some ((openGood view []).2.2.2)) := by kernel_rfl
set_option maxRecDepth 100000 in
set_option maxHeartbeats 0 in
theorem headTd (w : World) : (fencedOpening treeTable (OpenLaw.row PySem.Challenge.rw_boxlayers_k53_parts_of_a_kept_house).prog w 10000).map (fun a => (topFrom treeTable (OpenLaw.row PySem.Challenge.rw_boxlayers_k53_parts_of_a_kept_house).prog (w.withFollow "special-get-raises" true) 10000 a).map (fun s => Hook.obs hook s)) = some (some (Hook.val hook (w.withFollow "special-get-raises" true))) := by kernel_rfl
theorem headT (w : World) : (fencedOpening treeTable (OpenLaw.row PySem.Challenge.rw_boxlayers_k53_parts_of_a_kept_house).prog w 10000).map (fun a => (topFrom treeTable (OpenLaw.row PySem.Challenge.rw_boxlayers_k53_parts_of_a_kept_house).prog (w.withFollow "special-get-raises" true) 10000 a).map (fun s => ((openSeen view [] (importedModules (OpenLaw.row PySem.Challenge.rw_boxlayers_k53_parts_of_a_kept_house).prog.main.body) (fun s => xlAt view [] s && recOk (RowW.records (OpenRow.toRowW (OpenLaw.row PySem.Challenge.rw_boxlayers_k53_parts_of_a_kept_house))) s) true s), Hook.obs hook s))) = some (some ((openGood view []), Hook.val hook (w.withFollow "special-get-raises" true))) := four (headTa w) (headTb w) (headTc w) (headTd w)
theorem two_map {u v : Type} {o : Option u} {A B : u → v} {a b : v} (h1 : o.map A = some a) (h2 : o.map B = some b) : o.map (fun s => (A s, B s)) = some (a, b) := by
  cases o with
  | none => cases h1
  | some s => exact congrArg some (congr (congrArg Prod.mk (Option.some.inj h1)) (Option.some.inj h2))
theorem left : LeftO (OpenLaw.row PySem.Challenge.rw_boxlayers_k53_parts_of_a_kept_house).prog view [] (fun s => xlAt view [] s && recOk (RowW.records (OpenRow.toRowW (OpenLaw.row PySem.Challenge.rw_boxlayers_k53_parts_of_a_kept_house))) s) (Hook.obs hook) (Hook.val hook) 10000 := LeftO.of_split "special-get-raises" fun w => @two_map _ _ _ _ _ _ _ (headF w) (headT w)
end
end K53H
abbrev QqV:=PySem.Value->PySem.Shared->Prop
abbrev QqL:=List (PySem.Addr × PySem.Obj)
abbrev QqM:=PySem.Str->Option PySem.Value
abbrev QqA:=PySem.Addr->Prop
abbrev QqI:=List (List Int)
abbrev QqW:=List PySem.Value
abbrev QqE:=Option PySem.Addr
open PySem PySem.Spec PyProof.Rows
open List (of_mem_zip replicate filterMap_map length_set reverse_cons forIn_nil forIn_cons any_cons filter_cons take_left' drop_drop reverse_reverse map_drop filter_map flatMap_append foldl_append)
noncomputable section
set_option Elab.async false
set_option linter.all false
set_option maxRecDepth 100000
section
def wT:=@Array.getD_eq_getD_getElem?
def wK:=@Array.getElem?_eq_getElem
def wX:=@Array.getElem?_eq_none
def zL:=@Array.getElem?_toList
def zj:=@Array.length_toList
def xW:=@Array.map_append
def xz:=@Array.map_extract
def xV:=@Array.perm_iff_toList_perm
def wP:=@Array.size_extract
def zS:=@Array.size_map
def yb:=@Array.size_range
def xa:=@Array.toList_append
def wm:=@Array.toList_extract
def yV:=@Array.toList_push
def yJ:=@Array.toList_range
def xM:=@Bool.and_eq_true
def wa:=@Bool.false_eq_true
def zK:=@Bool.false_ne_true
def zd:=@Heap.get?_push_of_some
def zu:=@Heap.get?_push_size
def zy:=@Heap.lt_size
def xT:=@Heap.size_push
def yM:=@Int.emod_nonneg
def wS:=@Int.eq_ofNat_of_zero_le
def yz:=@List.all_eq_true
def wG:=@List.append_assoc
def wb:=@List.append_nil
def yg:=@List.drop_eq_getElem_cons
def yn:=@List.drop_left'
def yx:=@List.drop_zero
def wM:=@List.eq_nil_of_length_eq_zero
def xS:=@List.extract_eq_take_drop
def wV:=@List.filterMap_cons
def yr:=@List.filter_cons_of_neg
def yq:=@List.filter_cons_of_pos
def xt:=@List.filter_sublist
def yL:=@List.find?_cons
def wF:=@List.flatMap_cons
def xj:=@List.getD_eq_getElem?_getD
def xn:=@List.getElem?_append_left
def xb:=@List.getElem?_append_right
def xZ:=@List.getElem?_drop
def zn:=@List.getElem?_eq_getElem
def zT:=@List.getElem?_eq_some_iff
def zI:=@List.getElem?_map
def xO:=@List.getElem?_replicate
def xJ:=@List.getElem?_set_ne
def xq:=@List.getElem?_set_self
def yI:=@List.getElem?_take
def yw:=@List.getElem_mem
def zD:=@List.length_append
def zA:=@List.length_cons
def wO:=@List.length_drop
def wy:=@List.length_eq_zero_iff
def wf:=@List.length_filter_le
def zh:=@List.length_map
def ym:=@List.length_nil
def yp:=@List.length_range
def xB:=@List.length_replicate
def xl:=@List.length_take
def we:=@List.lookup_cons
def al_List_lookup_cons_self:=@List.lookup_cons_self
def xI:=@List.map_append
def wI:=@List.map_congr_left
def zz:=@List.map_cons
def zQ:=@List.map_map
def xx:=@List.map_nil
def yP:=@List.map_take
def zR:=@List.mem_append
def xm:=@List.mem_append_left
def zr:=@List.mem_append_right
def zg:=@List.mem_cons
def zf:=@List.mem_cons_of_mem
def zq:=@List.mem_cons_self
def zP:=@List.mem_filter
def wd:=@List.mem_flatMap
def zG:=@List.mem_map
def zt:=@List.mem_map_of_mem
def wl:=@List.mem_of_getElem?
def yY:=@List.mem_range
def wr:=@List.mem_reverse
def zw:=@List.mem_singleton
def xg:=@List.nil_append
def xu:=@List.nodup_append
def zV:=@List.nodup_cons
def xk:=@List.not_mem_nil
def wk:=@List.pairwise_cons
def xR:=@List.pairwise_iff_getElem
def xy:=@List.pairwise_map
def yf:=@List.perm_append_comm
def wU:=@List.reverse_append
def yU:=@List.reverse_perm
def zE:=@List.size_toArray
def xp:=@List.take_add_one
def wL:=@List.take_append_drop
def wq:=@List.take_length
def wW:=@List.take_of_length_le
def yT:=@List.take_sublist
def yv:=@List.zipIdx_cons
def yH:=@List.zip_cons_cons
def yG:=@Nat.le_of_eq
def xG:=@Nat.le_of_lt
def ya:=@Nat.le_of_not_lt
def zk:=@Nat.le_refl
def xv:=@Nat.le_succ
def zF:=@Nat.le_trans
def xD:=@Nat.lt_irrefl
def yF:=@Nat.lt_of_le_of_lt
def wv:=@Nat.lt_of_le_of_ne
def zZ:=@Nat.lt_of_lt_of_le
def yS:=@Nat.lt_of_succ_lt
def xX:=@Nat.lt_succ_of_lt
def yu:=@Nat.lt_succ_self
def yE:=@Nat.lt_trans
def xF:=@Nat.ne_of_gt
def zJ:=@Nat.ne_of_lt
def wE:=@Nat.pow_succ
def wQ:=@Nat.zero_le
def xY:=@Option.map_eq_some_iff
def zN:=@Option.some.inj
def xf:=@decide_eq_false
def xN:=@decide_eq_true
def yR:=@decide_eq_true_eq
def wN:=@wpAny_Call_Name_kw
def zb:=@wpAny_bind
def wx:=@wpAny_callSpecial?_slot
def wA:=@wpAny_call_entry
def yl:=@wpAny_comprehension_free
def wo:=@wpAny_field
def wh:=@wpAny_holding
def wY:=@wpAny_mono
def xU:=@wpAny_newObj_type
def yk:=@wpAny_passesOwn
def ze:=@wpAny_pure
def yQ:=@wpAny_pyIter_list
def wz:=@wpAny_rule
def ye:=@wpAny_seqItems
def yd:=@wpAny_setField_rec
def wg:=@wpAny_standAt
def yo:=@wpAny_truthy_bool
def zo:=@wpS_bind
def wD:=@wpS_forRange
def yC:=@wpS_modify
def yO:=@wpS_mono
def zU:=@wpS_pure
end
def w5 {p:Prop}(h:p:=by lia):p:=h
def w6 {p:Prop}(h:p:=by decide):p:=h
def x0 {p:Prop}(h:p:=by decide +kernel):p:=h
local macro_rules|`(tactic|exists $t)=>`(tactic|with_unfolding_all exact $t)
namespace L2
abbrev Key:=Sum Int Str
def Uz:Key->Value->Bool
 |.inl k,v=>Value.isInt k v
 |.inr x,v=>Value.isStrOf x v
def xO5(w:World):Key->Int
 |.inl k=>hashInt k
 |.inr x=>hashStr w x
theorem yN:∀{k:Key}{v:Value},Uz k v=true->(∃i t,k=Sum.inl i/\v=Value.int i t)\/(∃x t,k=Sum.inr x/\v=Value.str x t)
 |.inl i,v,h=>by
  obtain⟨t,e⟩:=Value.isInt_shape (k:=i) (v:=v) h;exact .inl ⟨i,t,rfl,e⟩
 |.inr x,v,h=>by
  obtain⟨t,e⟩:=Value.isStrOf_shape (x:=x) (v:=v) h;exact .inr ⟨x,t,rfl,e⟩
def zl2(i:Int)(t:Tok):Uz (.inl i) (.int i t)=true:=by simp[Uz,Value.isInt]
def zl1(x:Str)(t:Tok):Uz (.inr x) (.str x t)=true:=by simp[Uz,Value.isStrOf]
def xc5(a b:Int):decide ((Sum.inl a:Key)=Sum.inl b)=(a == b):=by
 by_cases e:a=b
 ·subst e;simp
 ·have h:¬ (Sum.inl a:Key)=Sum.inl b:=λq=>e (Sum.inl.inj q);rw[xf h];exact(beq_eq_false_iff_ne.mpr e).symm
def xc2(a b:Str):decide ((Sum.inr a:Key)=Sum.inr b)=decide (a=b):=by
 by_cases e:a=b
 ·subst e;simp
 ·have h:¬ (Sum.inr a:Key)=Sum.inr b:=λq=>e (Sum.inr.inj q);rw[xf h,xf e]
def xc4(a:Int)(b:Str):decide ((Sum.inl a:Key)=Sum.inr b)=false:=xf (λq=>nomatch q)
def xc3(a:Str)(b:Int):decide ((Sum.inr a:Key)=Sum.inl b)=false:=xf (λq=>nomatch q)
def va(prog:Program)(w:World):PySem.KeyKind prog w Key where
 is:=Uz
 hash:=xO5 w
 inj:=λv a b ha I=>by
  rcases yN ha with ⟨i,t,rfl,rfl⟩ |⟨x,t,rfl,rfl⟩
  ·rcases yN I with ⟨j, u, rfl, e⟩ | ⟨y, u, rfl, e⟩
   ·injection e with B _;rw[B]
   ·exact nomatch e
  ·rcases yN I with ⟨j, u, rfl, e⟩ | ⟨y, u, rfl, e⟩
   ·exact nomatch e
   ·injection e with B _;rw[B]
 byValue:=λk v h=>by
  rcases yN h with ⟨i,t,rfl,rfl⟩ |⟨x,t,rfl,rfl⟩<;>rfl
 pyHash:=λhv h=>by
  rcases yN hv with ⟨i,t,rfl,rfl⟩ |⟨x,t,rfl,rfl⟩
  ·exact wpAny_pyHash_int h
  ·exact wpAny_pyHash_str h
 eqBool:=λJ hv h=>by
  rcases yN J with ⟨i,t,rfl,rfl⟩ |⟨x,t,rfl,rfl⟩
  ·rcases yN hv with ⟨j, u, rfl, rfl⟩ | ⟨y, u, rfl, rfl⟩
   ·rw[xc5] at h;exact wpAny_eqBool_int h
   ·rw[xc4] at h;exact SeqAt.EqAt.int_str i t y u _ _ _ _ h
  ·rcases yN hv with ⟨j, u, rfl, rfl⟩ | ⟨y, u, rfl, rfl⟩
   ·rw[xc3] at h;exact SeqAt.EqAt.str_int x t j u _ _ _ _ h
   ·rw[xc2] at h;exact wpAny_eqBool_str h
 «strs»:=λk x t v h=>by
  rcases yN h with ⟨i,u,rfl,e⟩ |⟨y,u,rfl,e⟩
  ·exact nomatch e
  ·injection e with B _;subst B
   cases v<;>rfl
def KH(prog:Program)(w:World)(i:Int)(t:Tok):(va prog w).is (.inl i) (.int i t)=true:=zl2 i t
def qO(prog:Program)(w:World)(x:Str)(t:Tok):(va prog w).is (.inr x) (.str x t)=true:=zl1 x t
inductive V where
 |non |bl (b:Bool) |int (i:Int) |str (x:Str) |byt (b:Array UInt8) |flt (b:UInt64) |ref (a:Addr) |ty (n:String)
 deriving DecidableEq
def RelV:V->Value->Prop
 |.non,u=>u=Value.none
 |.bl b,u=>u=Value.bool b
 |.int i,u=>∃t,u=Value.int i t
 |.str x,u=>∃t,u=Value.str x t
 |.byt b,u=>∃t,u=Value.bytes b t
 |.flt b,u=>∃t,u=Value.float b t
 |.ref a,u=>u=Value.ref a
 |.ty n,u=>u=Value.type n
abbrev Vals:List V->List Value->Prop:=Paired RelV
def Vals.length{xs:List V}{us:QqW}(r:Vals xs us):xs.length=us.length:=Paired.length r
theorem Vals.get:∀{xs:List V}{us:QqW}{i:Nat}{x:V},Vals xs us->xs[i]?=some x->∃u,us[i]?=some u/\RelV x u
 |_,_,_,_,.nil,e=>by simp at e
 |_,_,0,_,.cons r _,e=>by simp at e;subst e;exact⟨_,rfl,r⟩
 |_,_,i+1,x,.cons _ t,e=>by
  obtain⟨u,h1,h2⟩:=Vals.get (i:=i) (x:=x) t (by simpa using e)
  exact⟨u,by simpa using h1,h2⟩
theorem Vals.set{x:V}{u:Value}(r:RelV x u):∀{xs:List V}{us:QqW} (i:Nat),Vals xs us->Vals (xs.set i x) (us.set i u)
 |_,_,_,.nil=>.nil
 |_,_,0,.cons _ t=>.cons r t
 |_,_,i+1,.cons q t=>.cons q (Vals.set r i t)
theorem Vals.append:∀{xs B:List V}{us ws:QqW},Vals xs us->Vals B ws->Vals (xs++B) (us++ws)
 |_,_,_,_,.nil,s=>s
 |_,_,_,_,.cons r t,s=>.cons r (Vals.append t s)
theorem Vals.take:∀{xs:List V}{us:QqW} (n:Nat),Vals xs us->Vals (xs.take n) (us.take n)
 |_,_,0,_=>.nil
 |_,_,_+1,.nil=>.nil
 |_,_,n+1,.cons r t=>.cons r (Vals.take n t)
theorem Vals.drop:∀{xs:List V}{us:QqW} (n:Nat),Vals xs us->Vals (xs.drop n) (us.drop n)
 |_,_,0,r=>r
 |_,_,_+1,.nil=>.nil
 |_,_,n+1,.cons _ t=>Vals.drop n t
def RelO:Option V->Option Value->Prop
 |some v,some u=>RelV v u
 |none,none=>True
 |_,_=>False
def KV{κ:Type}:List (κ × V)->List (κ × Value)->Prop:=Paired fun(p:κ × V) (q:κ × Value)=>p.1=q.1/\RelV p.2 q.2
def kV:Key->V
 |.inl i=>.int i
 |.inr x=>.str x
inductive HO where
 /-- a list -/
 |lst (xs:List V)
 /-- a tuple (never changes) -/
 |tup (xs:List V)
 /-- a dict whose keys are ints and texts; one whose keys are tuples of ints and texts (the empty one is both) -/
 |dK (kvs:List (Key × V)) |dT (kvs:List (List Key × V))
 /-- a set of ints: its members, its size -/
 |set (S:Int->Bool) (n:Nat)
 /-- an instance of the class at C, its dict at dx, its attributes -/
 |ins (C dx:Addr) (fs:List (Str × V))
 /-- the dict of the instance at x -/
 |own (x:Addr)
 /-- the dict of an exception -/
 |xd (fs:List (Str × V))
 /-- a bound method, f of x -/
 |met (f x:Addr)
 /-- a range object lo, lo + 1, .. below hi -/
 |rng (lo hi:Int)
 /-- a thing that is known to the object (the script; a dict while a loop walks it): read, never written while it is so -/
 |frz (o:Obj) (u:HO)
 /-- a code object's table -/
 |tbl (ps:Array Value)
 /-- any other thing, by what is true of its one object (a def of one's own: SetO a S n := HO.ext λh => ..) -/
 |ext (φ:Heap->Prop)
abbrev Hp:=Addr->Option HO
def upd(H:Hp)(a:Addr)(o:HO):Hp:=λb=>if b=a then some o else H b
def yA{H:Hp}{a:Addr}{o:HO}:upd H a o a=some o:=by unfold upd;rw[if_pos rfl]
def wB{H:Hp}{a b:Addr}{o:HO}(h:b≠a):upd H a o b=H b:=by unfold upd;rw[if_neg h]
def xz0{H:Hp}{a b:Addr}{o u:HO}(h:H a=some o)(h':H b=some u)(d:o≠u):a≠b:=by
 intro e;subst e;rw[h] at h';exact d (zN h')
def vz{H:Hp}{a b:Addr}{o:HO}(h:H a=some o)(h':H b=none):a≠b:=by
 intro e;subst e;rw[h] at h';cases h'
section
variable (P:Program) (w:World)
def ObjOk(H:Hp)(h:Heap)(a:Addr):HO->Prop
 |.lst xs=>xs.length<=sizeLine/\∃(its:QqW) (n:Nat),Vals xs its/\h.get? a=some { cls:=.type "list",data:=.seq its.toArray n }
 |.tup xs=>xs.length<=sizeLine/\∃its:List Value,Vals xs its/\IsTup h a its.toArray
 |.dK kvs=>kvs.length<=sizeLine/\(a == sysModules)=false/\∃vs,KV kvs vs/\h.DictOf (va P w) a vs
 | .dT kvs => kvs.length <= sizeLine /\ (a == sysModules) = false /\ ∃ xs : List (List Key × Addr × Value),
   Paired (fun(p:List Key × V) (q:List Key × Addr × Value)=>p.1=q.1/\H q.2.1=some (.tup (p.1.map kV))/\RelV p.2 q.2.2) kvs xs /\
   ∃o es ep,h.get? a=some o/\o.ExactDict/\o.data=.dict es ep/\es.toList=xs.map (entryOfKey (tupleKind (va P w)))/\(xs.map (·.1)).Nodup
 |.set S n=>h.SetOf (intKind P w) a S n
 | .ins C I fs => H I = some (.own a) /\ fs.length <= 1000 /\ I ≠ a /\ h.get? a = some (W.instObj C I) /\
   ∃B,h.Ns1 I B/\(∀f,RelO (fs.lookup f) (B f))/\PySem.Within B (fs.map (·.1))
 |.own _=>∃o,h.get? a=some o
 |.xd fs=>∃B,h.Ns1 a B/\∀f,RelO (fs.lookup f) (B f)
 |.rng lo hi=>∃t u v,h.get? a=some { cls:=.type "range",data:=.fields #[.int lo t,.int hi u,.int 1 v] }
 |.frz o u=>h.get? a=some o/\ObjOk H h a u
 |.tbl ps=>h.get? a=some { cls:=.none,data:=.fields ps }
 |.met f x=>h.get? a=some (W.methodObj (.ref f) (.ref x))
 |.ext φ=>φ h/\(∃o,h.get? a=some o)/\∀h1 h2:Heap,φ h1->(∀o,h1.get? a=some o->h2.get? a=some o)->φ h2
def HOk(H:Hp)(h:Heap):Prop:=∀a o,H a=some o->ObjOk P w H h a o
end
section
variable {P:Program}{w:World}{H H':Hp}{h h':Heap}{a:Addr}{o:HO}
def ObjOk.lt(x:ObjOk P w H h a o):a<h.objs.size:=by
 cases o with
 |lst xs=>obtain⟨_,_,_,_,e⟩:=x;exact zy e
 |tup xs=>obtain⟨_,_,_,p⟩:=x;exact p.lt
 |dK kvs=>obtain⟨_,_,_,_,o,_,_,e,_⟩:=x;exact zy e
 |dT kvs=>obtain⟨_,_,_,_,o,_,_,e,_⟩:=x;exact zy e
 |set S n=>obtain⟨o,_,_,_,e,_⟩:=x;exact zy e
 |ins C I fs=>obtain⟨_,_,_,e,_⟩:=x;exact zy e
 |own y=>obtain⟨_,e⟩:=x;exact zy e
 |xd fs=>obtain⟨_,⟨_,_,_,e,_⟩,_⟩:=x;exact zy e
 |rng lo hi=>obtain⟨_,_,_,e⟩:=x;exact zy e
 |frz B u=>obtain⟨e,_⟩:=x;exact zy e
 |tbl ps=>exact zy (show h.get? a=some _ from x)
 |met f y=>exact zy (show h.get? a=some _ from x)
 |ext φ=>obtain⟨_,⟨_,e⟩,_⟩:=x;exact zy e
theorem Paired.mapP{α β:Type}{F G:α->β->Prop}:∀{l₁:List α}{B:List β},Paired F l₁ B->(∀a b,F a b->G a b)->Paired G l₁ B
 |_,_,.nil,_=>.nil
 |_,_,.cons r t,f=>.cons (f _ _ r) (Paired.mapP t f)
def ObjOk.stay(x:ObjOk P w H h a o)(k:∀b u,(b=a\/H b=some (.own a))->h.get? b=some u->h'.get? b=some u)
  (ho:∀b,H b=some (.own a)->H' b=some (.own a)) (Y:∀b xs,H b=some (.tup xs)->H' b=some (.tup xs)):ObjOk P w H' h' a o:=by
 induction o with
 |lst xs=>obtain⟨z,its,n,r,e⟩:=x;exact⟨z,its,n,r,k _ _ (.inl rfl) e⟩
 |tup xs=>obtain⟨z,its,r,B,e,c⟩:=x;exact⟨z,its,r,B,k _ _ (.inl rfl) e,c⟩
 |dK kvs=>obtain⟨z,y,vs,r,B,es,ep,e,c⟩:=x;exact⟨z,y,vs,r,B,es,ep,k _ _ (.inl rfl) e,c⟩
 |dT kvs=>
  obtain⟨z,y,xs,r,B,es,ep,e,c⟩:=x;exact⟨z,y,xs,Paired.mapP r λp q z=>⟨z.1,Y _ _ z.2.1,z.2.2⟩,B,es,ep,k _ _ (.inl rfl) e,c⟩
 |set S n=>obtain⟨B,es,ep,t,e,c⟩:=x;exact⟨B,es,ep,t,k _ _ (.inl rfl) e,c⟩
 |ins C dx fs=>
  obtain⟨d,z,ne,e,J,⟨I,es,ep,e2,c⟩,r⟩:=x;exact⟨ho _ d,z,ne,k _ _ (.inl rfl) e,J,⟨I,es,ep,k _ _ (.inr d) e2,c⟩,r⟩
 |own y=>obtain⟨B,e⟩:=x;exact⟨B,k _ _ (.inl rfl) e⟩
 |xd fs=>obtain⟨J,⟨I,es,ep,e,c⟩,r⟩:=x;exact⟨J,⟨I,es,ep,k _ _ (.inl rfl) e,c⟩,r⟩
 |rng lo hi=>obtain⟨t,u,v,e⟩:=x;exact⟨t,u,v,k _ _ (.inl rfl) e⟩
 |frz B u U=>obtain⟨e,q⟩:=x;exact⟨k _ _ (.inl rfl) e,U q⟩
 |tbl ps=>
  have e:h.get? a=some { cls:=.none,data:=.fields ps }:=x;show h'.get? a=some { cls:=.none,data:=.fields ps };exact k a _ (.inl rfl) e
 |met f y=>
  have e:h.get? a=some (W.methodObj (.ref f) (.ref y)):=x;show h'.get? a=some (W.methodObj (.ref f) (.ref y));exact k a _ (.inl rfl) e
 |ext φ=>obtain⟨p,⟨o,e⟩,st⟩:=x;exact⟨st _ _ p λo q=>k _ _ (.inl rfl) q,⟨o,k _ _ (.inl rfl) e⟩,st⟩
def HOk.lt(x:HOk P w H h)(e:H a=some o):a<h.objs.size:=(x a o e).lt
def HOk.fresh(x:HOk P w H h)(e:h.objs.size<=a):H a=none:=by
 cases q:H a with
 |none=>rfl
 |some u=>exact absurd (zZ (x.lt q) e) (xD _)
def HOk.kept(x:HOk P w H h)(k:∀b u,h.get? b=some u->h'.get? b=some u):HOk P w H h':=λa o e=>
 (x a o e).stay (λb u _ q=>k b u q) (λ_ q=>q) λ_ _ q=>q
def HOk.laid(x:HOk P w H h)(k:∀b u,h.get? b=some u->h'.get? b=some u)(I:h.objs.size<=a)(new:ObjOk P w (upd H a o) h' a o):HOk P w (upd H a o) h':=λb u e=>by
 have hn:=x.fresh I
 by_cases B:b=a
 ·subst B;rw[yA] at e;cases e;exact new
 ·rw [wB B] at e
  exact(x b u e).stay (λc v _ q=>k c v q) (λc q=>by rw[wB (vz q hn)];exact q) λc xs q=>by rw[wB (vz q hn)];exact q
end
def Rd(H:Hp)(a:Addr)(u:HO):Prop:=H a=some u\/∃o,H a=some (.frz o u)
def Rd.ok{P:Program}{w:World}{H:Hp}{h:Heap}{a:Addr}{u:HO}(r:Rd H a u)(x:HOk P w H h):ObjOk P w H h a u:=by
 rcases r with r |⟨o,r⟩
 ·exact x a u r
 ·obtain⟨_,q⟩:=x a _ r;exact q
def Mut:Option HO->Prop
 |some (.lst _)=>True
 |some (.dK _)=>True
 |some (.dT _)=>True
 |some (.set _ _)=>True
 |some (.ins _ _ _)=>True
 |some (.ext _)=>True
 |_=>False
section
variable {P:Program}{w:World}{H:Hp}{h h':Heap}{x e:Addr}{o':HO}
def HOk.write(ok:HOk P w H h)(U:Mut (H x))(he:e=x\/H e=some (.own x))(k:∀b u,b≠e->h.get? b=some u->h'.get? b=some u)(aa:∃u,h'.get? e=some u)
  (new:ObjOk P w (upd H x o') h' x o'):HOk P w (upd H x o') h':=λb u q=>by
 have I:∀c y,H c=some (.own y)->c≠x:=λc y r z=>by subst z;rw[r] at U;exact U
 have J:∀c xs,H c=some (.tup xs)->c≠x:=λc xs r z=>by subst z;rw[r] at U;exact U
 by_cases Y:b=x
 ·subst Y;rw[yA] at q;cases q;exact new
 ·rw [wB Y] at q
  by_cases B:b=e
  ·have q' : H b = some (.own x) := by
    rcases he with z |z
    ·exact absurd (B.trans z) Y
    ·rw[B];exact z
   rw[q] at q';cases q';obtain⟨v,hv⟩:=aa
   exact⟨v,by rw[B];exact hv⟩
  ·refine (ok b u q).stay (λc v W r => k c v ?_ r) (λc r => by rw [wB (I c b r)]; exact r) λc xs r => by rw [wB (J c xs r)]; exact r
   rcases W with rfl |W
   ·exact B
   ·rintro rfl
    rcases he with z |z
    ·exact I c b W z
    ·rw[W] at z;cases z;exact Y rfl
end
structure Un(fs ex:List Addr)(H H':Hp)(h h':Heap):Prop where
 keep:∀b o,h.get? b=some o->H b=none->b ∉ fs->b ∉ ex->h'.get? b=some o
 slot:∀b o,h.get? b=some o->H b=none->b∈fs->b ∉ ex->∃sl,h'.get? b=some { o with slots:=sl }
 free:∀b o,h.get? b=some o->H b=none->b ∉ ex->H' b=none
 there:∀b o,h.get? b=some o->b ∉ ex->∃o',h'.get? b=some o'
 tups:∀b xs,H b=some (.tup xs)->H' b=some (.tup xs)
 frzs:∀b o u,H b=some (.frz o u)->H' b=some (.frz o u)
 tbls:∀b ps,H b=some (.tbl ps)->∃more,H' b=some (.tbl (ps++more))
section
variable {fs fs' ex ex':List Addr}{H H1 H2:Hp}{h h1 h2 h':Heap}{a x e:Addr}{o:HO}
def Un.any(u:Un fs ex H H1 h h1){b:Addr}{B:Obj}(q:h.get? b=some B)(n:H b=none)(hx:b ∉ ex):∃J,h1.get? b=some { B with slots:=J }:=by
 by_cases I:b∈fs
 ·exact u.slot b B q n I hx
 ·exact⟨B.slots,u.keep b B q n I hx⟩
def Un.kept(k:∀b u,h.get? b=some u->h'.get? b=some u):Un fs ex H H h h':=
 ⟨λb B q _ _ _=>k b B q,λb B q _ _ _=>⟨B.slots,k b B q⟩,λ_ _ _ n _=>n,λb B q _=>⟨B,k b B q⟩,λ_ _ q=>q,λ_ _ _ q=>q,λ_ ps q=>⟨#[],by rw[q];simp⟩⟩
def Un.refl:Un fs ex H H h h:=Un.kept λ_ _ q=>q
def Un.laid(k:∀b u,h.get? b=some u->h'.get? b=some u)(B:h.objs.size<=a)(hn:H a=none):Un fs ex H (upd H a o) h h' where
 keep:=λb u q _ _ _=>k b u q
 slot:=λb u q _ _ _=>⟨u.slots,k b u q⟩
 free:=λb u q n _=>by rw[wB (zJ (zZ (zy q) B))];exact n
 there:=λb u q _=>⟨u,k b u q⟩
 tups:=λb xs q=>by rw[wB (vz q hn)];exact q
 frzs:=λb u xs q=>by rw[wB (vz q hn)];exact q
 tbls:=λb ps q=>⟨#[],by rw[wB (vz q hn),q];simp⟩
def Un.write(I:Mut (H x))(he:e=x\/H e=some (.own x))(k:∀b u,b≠e->h.get? b=some u->h'.get? b=some u)(J:∃u,h'.get? e=some u):Un fs ex H (upd H x o) h h':=by
 have hx:∀b,H b=none->b≠x:=λb n z=>by subst z;rw[n] at I;exact I
 have U:∀b,H b=none->b≠e:=λb n z=>by
  subst z
  rcases he with r |r
  ·exact hx b n r
  ·rw[n] at r;cases r
 have hm:∀b u,H b=some u->¬ Mut (some u)->b≠x:=λb u q W z=>by subst z;rw[q] at I;exact W I
 refine⟨λb u q n _ _=>k b u (U b n) q,λb u q n _ _=>⟨u.slots,k b u (U b n) q⟩,λb u q n _=>by rw[wB (hx b n)];exact n,λb u q _=>?_,
  λb xs q=>by rw[wB (hm b _ q λz=>z)];exact q,λb u xs q=>by rw[wB (hm b _ q λz=>z)];exact q,λb ps q=>⟨#[],by rw[wB (hm b _ q λz=>z),q];simp⟩⟩
 by_cases B:b=e
 ·subst B;exact J
 ·exact⟨u,k b u B q⟩
end
def trk(h:Heap)(H:Hp):List Addr:=(List.range h.objs.size).filter λa=>(H a).isSome
def zz1(h:Heap)(H:Hp):Heap:=W.hideAll h (trk h H)
def zm8(h:Heap)(H:Hp):(zz1 h H).objs.size=h.objs.size:=W.hideAll_size _ _
def zz0{h:Heap}{H:Hp}{b:Addr}{o:Obj}(e:h.get? b=some o)(n:H b=none):(zz1 h H).get? b=some o:=
 PySem.W.hideAll_get _ e λhm=>by
  have q:(H b).isSome=true:=(zP.mp hm).2;rw[n] at q;simp at q
def zN4{h:Heap}{H:Hp}{b:Addr}{o:Obj}(e:(zz1 h H).get? b=some o):h.get? b=some o/\H b=none:=by
 have e':h.get? b=some o:=W.of_hideAll (trk h H) e;refine⟨e',?_⟩
 cases q:H b with
 |none=>rfl
 |some x=>
  have hm:b∈trk h H:=zP.mpr ⟨yY.mpr (zy e'),by simp[q]⟩
  have z:(zz1 h H).get? b=none:=W.hideAll_none (trk h H) hm;rw[z] at e;cases e
def zR4(g h:Heap)(L:Addr):List (Addr × Obj):=(List.range h.objs.size).filterMap λa=>if a=L\/(g.get? a).isSome=true then none else(h.get? a).map λo=>(a,o)
def rest(g h:Heap)(L d:Addr):List (Addr × Obj):=(zR4 g h L).filter λp=>decide (p.1≠d)
structure Mod(K:W.Frag)(mg:QqM)(base:Heap):Prop where
 kin:K.In base
 glob:base.Ns mainGlobals mg
 blt:∃mb,base.Ns builtinsNs mb/\∀x:Str,x ≠ "__name__" -> mb x=bootBuiltins x
 nolimit:base.NoLimit
structure Cx where
 prog:Program
 w:World
 K:W.Frag
 mg:Str->Option Value
 base:Heap
 A:Around
 N:List Str
 s₀:Shared
 H₀:Hp
 env:Env
 outer:List Env
 stack:List Env
 ex:List Addr
 fn:Str->Bool
 calm:Bool
 pn:List (Addr × Obj)
 xe:Value->Shared->Prop
def frs(l:List Env):List Addr:=l.filterMap (·.frame)
abbrev Cx.fs(X:Cx):List Addr:=frs X.outer
def Vis(B:Scope)(x:Str):Prop:=B.names.lookup x=some .local\/B.names.lookup x=some .cell\/B.names.lookup x=some .free
def Loc(B:Scope)(x:Str):Prop:=B.names.lookup x=some .local\/B.names.lookup x=some .cell
def xQ8(env:Env)(h:Heap)(m:QqM)(x:Str)(u:Value):Prop:=
 (env.kindOf x=some .local/\m x=some u)\/((env.kindOf x=some .cell\/env.kindOf x=some .free)/\∃c,env.cells.lookup x=some c/\h.IsCell c (some u))
structure Cx.Ok(X:Cx):Prop where
 mod:Mod X.K X.mg X.base
 kind:X.env.scope.kind=.function
 glob:X.env.globals=mainGlobals
 blt:X.env.builtins=builtinsNs
 above:X.s₀.heap.objs.size<=X.env.locals
 inj:∀x y c,X.env.cells.lookup x=some c->X.env.cells.lookup y=some c->x=y
 has:∀x,(X.env.kindOf x=some .cell\/X.env.kindOf x=some .free)->∃c,X.env.cells.lookup x=some c
 cab:∀x c,X.fn x=true->X.env.cells.lookup x=some c->X.s₀.heap.objs.size<=c
 hd:X.calm=true->X.A.handled=none
 frames:X.A.frames=some X.stack
 stk:X.stack=X.outer\/(X.stack=X.env::X.outer/\X.env.frame=some X.env.locals)
 exf:∀b∈X.ex,b≠X.env.locals/\∀x c,X.env.cells.lookup x=some c->c≠b
 bs:∀b o,X.base.get? b=some o->X.s₀.heap.get? b=some o/\X.H₀ b=none
 bsz:X.base.objs.size<=X.s₀.heap.objs.size
 noex:∀b o,X.base.get? b=some o->b ∉ X.ex
 exfs:∀b∈X.ex,b ∉ X.fs
 funs:X.s₀.heap.FunFrames X.base X.outer
 frf:∀b∈X.fs,X.H₀ b=none
structure Inv(X:Cx)(pins:QqL)(σ:List (Option V))(H:Hp)(s:Shared):Prop where
 ok:X.Ok
 os:s.os=X.s₀.os
 bare:AllBare s.gens
 base:Un X.fs X.ex X.H₀ H X.s₀.heap s.heap
 loc:∃m,s.heap.Ns X.env.locals m/\∀(i:Nat) (x:Str) (v:V),X.N[i]?=some x->σ[i]?=some (some v)->Vis X.env.scope x->∃u,RelV v u/\xQ8 X.env s.heap m x u
 cell:∀x c,X.env.cells.lookup x=some c->∃v,s.heap.IsCell c v
 free:H X.env.locals=none
 freeC:∀x c,X.env.cells.lookup x=some c->H c=none
 pin:∀p∈X.pn++pins,s.heap.get? p.1=some p.2/\H p.1=none/\p.1≠X.env.locals/\p.1 ∉ X.fs/\∀v,p.2.data≠.cell v
 hok:HOk X.prog X.w H s.heap
 len:σ.length=X.N.length
section
variable {X:Cx}{pins:QqL}{σ:List (Option V)}{H H':Hp}{s:Shared}{h':Heap}
def Cx.Ok.nofr(ok:X.Ok){b:Addr}{o:Obj}(e:X.base.get? b=some o):b ∉ X.fs:=λB=>by
 have:=(ok.funs.mem B).1;rw[e] at this;cases this
def Inv.bs(I:Inv X pins σ H s):∀b o,X.base.get? b=some o->s.heap.get? b=some o/\H b=none:=λb o e=>
 ⟨I.base.keep b o (I.ok.bs b o e).1 (I.ok.bs b o e).2 (I.ok.nofr e) (I.ok.noex b o e),I.base.free b o (I.ok.bs b o e).1 (I.ok.bs b o e).2 (I.ok.noex b o e)⟩
def Inv.bk(I:Inv X pins σ H s):∀b o,X.base.get? b=some o->s.heap.get? b=some o:=λb o e=>(I.bs b o e).1
def Inv.mod(I:Inv X pins σ H s):Mod X.K X.mg X.base:=I.ok.mod
def Inv.kIn(I:Inv X pins σ H s):X.K.In s.heap:=I.ok.mod.kin.keeps I.bk
def Inv.lt(I:Inv X pins σ H s):X.env.locals<s.heap.objs.size:=let ⟨_,hn,_⟩:=I.loc;hn.lt
def Inv.sz(I:Inv X pins σ H s):X.s₀.heap.objs.size<=s.heap.objs.size:=zF I.ok.above (xG I.lt)
def Inv.nofs(I:Inv X pins σ H s){a:Addr}(h:s.heap.objs.size<=a):a ∉ X.fs:=λJ=>by
 obtain⟨_,o,B,_⟩:=I.ok.funs.mem J;exact absurd (zZ (zy B) (zF I.sz h)) (xD _)
def Inv.cne(I:Inv X pins σ H s):∀x c,X.env.cells.lookup x=some c->c≠X.env.locals:=λx c e z=>by
 obtain⟨v,o,B,hd⟩:=I.cell x c e;obtain⟨m,⟨o',es,ep,ho',hd',_⟩,_⟩:=I.loc;rw[z,ho'] at B;cases B;rw[hd'] at hd;cases hd
def Inv.funs(I:Inv X pins σ H s):s.heap.FunFrames X.base X.outer:=by
 have all:∀(l:List Env),(∀b∈frs l,b∈X.fs)->X.s₀.heap.FunFrames X.base l->s.heap.FunFrames X.base l:=by
  intro l
  induction l with
  |nil=>intro _ _;trivial
  |cons env r Y=>
   intro W hl;obtain⟨hk,⟨L,o,B,hn,ho,hd⟩,hr⟩:=hl
   have U:L∈X.fs:=W L (by unfold frs;rw[wV,B];exact zq)
   obtain⟨sl,e⟩:=I.base.slot L o ho (I.ok.frf L U) U λz=>I.ok.exfs L z U
   exact⟨hk,⟨L,_,B,hn,e,hd⟩,Y (λb J=>W b (by unfold frs;rw[wV,B];exact zf _ J)) hr⟩
 exact all X.outer (λ_ J=>J) I.ok.funs
def Inv.stack(I:Inv X pins σ H s):s.heap.FunFrames X.base X.stack:=by
 rcases I.ok.stk with e |⟨e,B⟩
 ·rw[e];exact I.funs
 ·rw [e];obtain⟨m,hn,_⟩:=I.loc
  refine .cons (by rw[I.ok.kind];decide) B hn ?_ I.funs
  exact Heap.get?_none_of_le (zF I.ok.bsz I.ok.above)
def Inv.stkSub(I:Inv X pins σ H s):∀b∈frs X.stack,b∈X.env.locals::X.fs:=λb B=>by
 rcases I.ok.stk with e |⟨e,J⟩
 ·rw[e] at B;exact zf _ B
 ·rw[e] at B;unfold frs at B;rw[wV,J] at B;exact B
def Inv.stkFree(I:Inv X pins σ H s):∀b∈frs X.stack,H b=none:=λb B=>by
 rcases zg.mp (I.stkSub b B) with e |B
 ·rw[e];exact I.free
 ·obtain⟨_,o,J,_⟩:=I.ok.funs.mem B;exact I.base.free b o J (I.ok.frf b B) λz=>I.ok.exfs b z B
def Inv.step{g':Array GenState}{t':Nat}{d':Drawn}{ch:List Addr}(I:Inv X pins σ H s)
  (J:∀b∈ch,(b∈X.ex\/X.s₀.heap.objs.size<=b)/\b≠X.env.locals/\(∀x c,X.env.cells.lookup x=some c->c≠b)/\∀p∈X.pn++pins,p.1≠b)
  (keep:∀b o,b≠X.env.locals->b ∉ X.fs->b ∉ ch->s.heap.get? b=some o->H b=none->h'.get? b=some o)
  (slot:∀b o,b≠X.env.locals->b∈X.fs->b ∉ ch->s.heap.get? b=some o->H b=none->∃sl,h'.get? b=some { o with slots:=sl }) (free:∀b o,b ∉ ch->s.heap.get? b=some o->H b=none->H' b=none)
  (there:∀b o,b ∉ ch->s.heap.get? b=some o->∃o',h'.get? b=some o')
  (tups:∀b xs,H b=some (.tup xs)->H' b=some (.tup xs)) (frzs:∀b o u,H b=some (.frz o u)->H' b=some (.frz o u)) (tbls:∀b ps,H b=some (.tbl ps)->∃more,H' b=some (.tbl (ps++more)))
  (ns:∀m,s.heap.Ns X.env.locals m->h'.Ns X.env.locals m) (hok:HOk X.prog X.w H' h') (hg:AllBare g') :
  Inv X pins σ H' { s with heap:=h',gens:=g',drawn:=d',toks:=t' }:=by
 have aa:∀b o,X.s₀.heap.get? b=some o->b≠X.env.locals:=λb o e=>zJ (zZ (zy e) I.ok.above)
 have W:∀b o,X.s₀.heap.get? b=some o->b ∉ X.ex->b ∉ ch:=λb o e hx hb=>by
  rcases(J b hb).1 with z |z
  ·exact hx z
  ·exact absurd (zZ (zy e) z) (xD _)
 have U:∀x c,X.env.cells.lookup x=some c->∀v,s.heap.IsCell c v->h'.IsCell c v:=λx c e v ⟨o,ho,hd⟩=>by
  have B:c ∉ ch:=λz=>(J c z).2.2.1 x c e rfl
  by_cases hc:c∈X.fs
  ·obtain⟨sl,q⟩:=slot c o (I.cne x c e) hc B ho (I.freeC x c e);exact⟨_,q,hd⟩
  ·exact⟨o,keep c o (I.cne x c e) hc B ho (I.freeC x c e),hd⟩
 refine⟨I.ok,I.os,hg,⟨λb o e n hb hx=>?_,λb o e n hb hx=>?_,λb o e n hx=>?_,λb o e hx=>?_,λb xs e=>tups b xs (I.base.tups b xs e),λb o xs e=>frzs b o xs (I.base.frzs b o xs e),λb ps e=>?_⟩,?_,λx c e=>?_,?_,λx c e=>?_,λp hp=>?_,hok,I.len⟩
 ·exact keep b o (aa b o e) hb (W b o e hx) (I.base.keep b o e n hb hx) (I.base.free b o e n hx)
 ·obtain⟨sl,Y⟩:=I.base.slot b o e n hb hx;obtain⟨sl',e2⟩:=slot b _ (aa b o e) hb (W b o e hx) Y (I.base.free b o e n hx);exact⟨sl',e2⟩
 ·obtain⟨o',Y⟩:=I.base.there b o e hx;exact free b o' (W b o e hx) Y (I.base.free b o e n hx)
 ·obtain⟨o',Y⟩:=I.base.there b o e hx;exact there b o' (W b o e hx) Y
 ·obtain ⟨m1, Y⟩ := I.base.tbls b ps e;obtain⟨m2,e2⟩:=tbls b _ Y
  exact⟨m1++m2,by rw[e2,Array.append_assoc]⟩
 ·obtain ⟨m, hn, hl⟩ := I.loc;refine⟨m,ns m hn,λi x v Y e2 e3=>?_⟩;obtain⟨u,r,l⟩:=hl i x v Y e2 e3;refine⟨u,r,?_⟩
  rcases l with l |⟨k,c,e,z⟩
  ·exact .inl l
  ·exact .inr ⟨k,c,e,U x c e _ z⟩
 ·obtain⟨v,z⟩:=I.cell x c e;exact⟨v,U x c e v z⟩
 ·obtain⟨m,⟨o,_,_,ho,_⟩,_⟩:=I.loc;exact free _ o (λz=>(J _ z).2.1 rfl) ho I.free
 ·obtain⟨v,o,ho,hd⟩:=I.cell x c e;exact free c o (λz=>(J c z).2.2.1 x c e rfl) ho (I.freeC x c e)
 ·obtain⟨e,n,ne,nf,d⟩:=I.pin p hp;have B:p.1 ∉ ch:=λz=>(J p.1 z).2.2.2 p hp rfl;exact⟨keep p.1 p.2 ne nf B e n,free p.1 p.2 B e n,ne,nf,d⟩
def Inv.un{t':Nat}(I:Inv X pins σ H s)(u:Un X.fs [] H H' s.heap h')(hok:HOk X.prog X.w H' h'):Inv X pins σ H' { s with heap:=h',toks:=t' }:=by
 obtain⟨m,⟨o,es,ep,J,r⟩,_⟩:=id I.loc
 obtain⟨W,U⟩:=u.any J I.free (by simp)
 exact I.step (g':=s.gens) (d':=s.drawn) (ch:=[]) (λ_ z=>nomatch z) (λb o _ B _ e n=>u.keep b o e n B (by simp)) (λb o _ B _ e n=>u.slot b o e n B (by simp)) (λb o _ e n=>u.free b o e n (by simp)) (λb o _ e=>u.there b o e (by simp)) u.tups u.frzs u.tbls (λm' hm=>by
  obtain⟨o',es',ep',ho',r'⟩:=hm;rw[J] at ho';cases ho'
  exact⟨_,es',ep',U,r'⟩) hok I.bare
def Inv.call{g':Array GenState}{t':Nat}{d':Drawn}{ch:List Addr}(I:Inv X pins σ H s)(u:Un (frs X.stack) ch H H' s.heap h')(hok:HOk X.prog X.w H' h')(Y:AllBare g')
  (J:∀b∈ch,(b∈X.ex\/X.s₀.heap.objs.size<=b)/\b≠X.env.locals/\(∀x c,X.env.cells.lookup x=some c->c≠b)/\∀p∈X.pn++pins,p.1≠b) :
  Inv X pins σ H' { s with heap:=h',gens:=g',drawn:=d',toks:=t' }:=by
 obtain⟨m,⟨o,es,ep,W,r⟩,_⟩:=id I.loc;obtain⟨sl,U⟩:=u.any W I.free λz=>(J _ z).2.1 rfl
 exact I.step (ch:=ch) J (λb o U hb B e n=>u.keep b o e n (λz=>(zg.mp (I.stkSub b z)).elim U hb) B) (λb o _ _ B e n=>u.any e n B) (λb o B e n=>u.free b o e n B) (λb o B e=>u.there b o e B) u.tups u.frzs u.tbls (λm' hm=>by
  obtain⟨o',es',ep',ho',r'⟩:=hm;rw[W] at ho';cases ho'
  exact⟨_,es',ep',U,r'⟩) hok Y
def Inv.turned{t':Nat}{it:Addr}(I:Inv X pins σ H s)(k:∀b o,b≠it->s.heap.get? b=some o->h'.get? b=some o)(hn:H it=none)(U:it≠X.env.locals)
  (h1:it∈X.ex\/X.s₀.heap.objs.size<=it) (h2:∀x c,X.env.cells.lookup x=some c->c≠it) (h3:∀p∈X.pn++pins,p.1≠it):Inv X pins σ H { s with heap:=h',toks:=t' }:=by
 have J:∀b u,H b=some u->b≠it:=λb u e z=>by rw[z,hn] at e;cases e
 refine I.step (g':=s.gens) (d':=s.drawn) (ch:=[it]) (λb Y=>?_) (λb o _ _ B e _=>k b o (λz=>B (by simp[z])) e) (λb o _ _ B e _=>⟨o.slots,k b o (λz=>B (by simp[z])) e⟩) (λ_ _ _ _ n=>n)
  (λb o B e=>⟨o,k b o (λz=>B (by simp[z])) e⟩) (λ_ _ e=>e) (λ_ _ _ e=>e) (λb ps e=>⟨#[],by rw[e];simp⟩) (λm hm=>?_) (λb u e=>?_) I.bare
 ·have e : b = it := by simpa using Y
  subst e;exact⟨h1,U,h2,h3⟩
 ·obtain⟨o,es,ep,W,r⟩:=hm;exact⟨o,es,ep,k _ o (Ne.symm U) W,r⟩
 ·refine (I.hok b u e).stay (λc v B q => k c v ?_ q) (λ_ q => q) λ_ _ q => q
  rcases B with z |z
  ·rw[z];exact J b u e
  ·exact J c _ z
def Inv.tok(I:Inv X pins σ H s)(t:Nat):Inv X pins σ H { s with toks:=t }:=I.un (h':=s.heap) (t':=t) Un.refl I.hok
def Inv.kept{t':Nat}(I:Inv X pins σ H s)(k:∀b u,s.heap.get? b=some u->h'.get? b=some u):Inv X pins σ H { s with heap:=h',toks:=t' }:=I.un (Un.kept k) (I.hok.kept k)
def Inv.laid{a:Addr}{o:HO}{t':Nat}(I:Inv X pins σ H s)(k:∀b u,s.heap.get? b=some u->h'.get? b=some u)(B:s.heap.objs.size<=a)(new:ObjOk X.prog X.w (upd H a o) h' a o) :
  Inv X pins σ (upd H a o) { s with heap:=h',toks:=t' }:=I.un (Un.laid k B (I.hok.fresh B)) (I.hok.laid k B new)
def Inv.write{x e:Addr}{o:HO}{t':Nat}(I:Inv X pins σ H s)(J:Mut (H x))(he:e=x\/H e=some (.own x))(k:∀b u,b≠e->s.heap.get? b=some u->h'.get? b=some u)(B:∃u,h'.get? e=some u)
  (new:ObjOk X.prog X.w (upd H x o) h' x o):Inv X pins σ (upd H x o) { s with heap:=h',toks:=t' }:=I.un (Un.write J he k B) (I.hok.write J he k B new)
def Inv.weak{σ':List (Option V)}(I:Inv X pins σ H s)(B:σ'.length=σ.length)(w:∀(i:Nat) v,σ'[i]?=some (some v)->σ[i]?=some (some v)):Inv X pins σ' H s:=
 ⟨I.ok,I.os,I.bare,I.base,let ⟨m,hn,hl'⟩:=I.loc;⟨m,hn,λi x v W U J=>hl' i x v W (w i v U) J⟩,I.cell,I.free,I.freeC,I.pin,I.hok,B.trans I.len⟩
def Inv.pins_of{pins':QqL}(I:Inv X pins σ H s)(h:∀p∈pins',s.heap.get? p.1=some p.2/\H p.1=none/\p.1≠X.env.locals/\p.1 ∉ X.fs/\∀v,p.2.data≠.cell v):Inv X pins' σ H s:=
 ⟨I.ok,I.os,I.bare,I.base,I.loc,I.cell,I.free,I.freeC,λp B=>(zR.mp B).elim (λz=>I.pin p (xm _ z)) (h p),I.hok,I.len⟩
def JV{N:List Str}(hN:N.Nodup){i j:Nat}{x:Str}(a:N[i]?=some x)(b:N[j]?=some x):i=j:=by
 obtain⟨h1,I⟩:=zT.mp a;obtain⟨h2,B⟩:=zT.mp b;exact(List.getElem_inj hN).mp (I.trans B.symm)
def VE{M:Model}{A:Around}{E:QqV}{i:Nat}{x:Str}{v:V}{u:Value}{Q:Unit->Shared->Prop}(I:Inv X pins σ H s)(hN:X.N.Nodup)(hi:X.N[i]?=some x)(hx:Loc X.env.scope x)(r:RelV v u)
  (h:∀s',Inv X pins (σ.set i (some v)) H s'->(∃a,Heap.SameBut a s.heap s'.heap/\(a=X.env.locals\/X.env.cells.lookup x=some a))->Q () s') (hf:X.fn x=true\/X.env.scope.names.lookup x=some .local:=by first |exact .inl rfl |exact .inr rfl |assumption):wpAny M A (storeName X.env x u) Q E s:=by
 obtain⟨m,hn,hl⟩:=id I.loc
 have ae:(X.env.scope.kind == .class||(X.env.scope.kind == .module&&X.env.locals != X.env.globals))=false:=by rw[I.ok.kind];rfl
 have ad:i<σ.length:=by rw[I.len];exact(zT.mp hi).1
 have cne:=I.cne
 have tracked:∀{a:Addr}{h':Heap},(∃o,s.heap.get? a=some o/\H a=none)->Heap.SameBut a s.heap h'->HOk X.prog X.w H h':=λ{a h'} ha B b ob e=>by
  obtain⟨_,_,W⟩:=ha;refine(I.hok b ob e).stay (λc w' U q=>(B.2 c ?_).trans q) (λ_ q=>q) λ_ _ q=>q;rintro rfl
  rcases U with rfl |U
  ·rw[W] at e;cases e
  ·rw[W] at U;cases U
 rcases hx with hk |hk
 ·refine wpAny_storeName_local hk hn (λh' hn' B => ?_) ae;obtain⟨oL,_,_,ag,_⟩:=id hn
  refine h _ ⟨I.ok,I.os,I.bare,⟨λb o e n hb hx=>?_,λb o e n hb hx=>?_,I.base.free,λb o e hx=>?_,I.base.tups,I.base.frzs,I.base.tbls⟩,⟨_,hn',λj y v' J Y e3=>?_⟩,λy c e=>?_,I.free,I.freeC,λp hp=>?_,tracked ⟨oL,ag,I.free⟩ B,by simpa using I.len⟩ ⟨_,B,.inl rfl⟩
  ·exact(B.2 b (zJ (zZ (zy e) I.ok.above))).trans (I.base.keep b o e n hb hx)
  ·obtain⟨sl,J⟩:=I.base.slot b o e n hb hx;exact⟨sl,(B.2 b (zJ (zZ (zy e) I.ok.above))).trans J⟩
  ·obtain⟨o',J⟩:=I.base.there b o e hx;exact⟨o',(B.2 b (zJ (zZ (zy e) I.ok.above))).trans J⟩
  ·by_cases hj : j = i
   ·subst hj;rw[hi] at J;cases J;rw[xq ad] at Y;cases Y
    exact⟨u,r,.inl ⟨hk,by simp⟩⟩
   ·rw [xJ (Ne.symm hj)] at Y;obtain⟨u',r',q⟩:=hl j y v' J Y e3;refine⟨u',r',?_⟩
    rcases q with ⟨k,e⟩ |⟨k,c,e,z⟩
    ·refine .inl ⟨k,?_⟩;have:y≠x:=λe=>hj (JV hN J (e ▸ hi));simp[this,e]
    ·exact .inr ⟨k,c,e,z.sameBut B (cne y c e)⟩
  ·obtain⟨w',z⟩:=I.cell y c e;exact⟨w',z.sameBut B (cne y c e)⟩
  ·obtain⟨e,n,ne,nf,d⟩:=I.pin p hp;exact⟨(B.2 p.1 ne).trans e,n,ne,nf,d⟩
 ·have aa : X.fn x = true := by
   rcases hf with z |z
   ·exact z
   ·rw[z] at hk;cases hk
  obtain⟨c,U⟩:=I.ok.has x (.inl hk);obtain⟨w',z⟩:=I.cell x c U;refine wpAny_storeName_cell I.ok.kind hk U z (λh' hc' B=>?_);obtain⟨oc,ac,ab⟩:=id z
  refine h { s with heap:=h' } ⟨I.ok,I.os,I.bare,⟨λb o e n hb hx=>?_,λb o e n hb hx=>?_,I.base.free,λb o e hx=>?_,I.base.tups,I.base.frzs,I.base.tbls⟩,⟨m,hn.sameBut B (Ne.symm (cne x c U)),λj y v' J Y e3=>?_⟩,λy c' e=>?_,I.free,I.freeC,λp hp=>?_,tracked ⟨oc,ac,I.freeC x c U⟩ B,by simpa using I.len⟩ ⟨c,B,.inr U⟩
  ·exact(B.2 b (zJ (zZ (zy e) (I.ok.cab x c aa U)))).trans (I.base.keep b o e n hb hx)
  ·obtain⟨sl,J⟩:=I.base.slot b o e n hb hx;exact⟨sl,(B.2 b (zJ (zZ (zy e) (I.ok.cab x c aa U)))).trans J⟩
  ·obtain⟨o',J⟩:=I.base.there b o e hx;exact⟨o',(B.2 b (zJ (zZ (zy e) (I.ok.cab x c aa U)))).trans J⟩
  ·by_cases hj : j = i
   ·subst hj;rw[hi] at J;cases J;rw[xq ad] at Y;cases Y;exact⟨u,r,.inr ⟨.inl hk,c,U,hc'⟩⟩
   ·rw [xJ (Ne.symm hj)] at Y;obtain⟨u',r',q⟩:=hl j y v' J Y e3;refine⟨u',r',?_⟩
    rcases q with q |⟨k,c',e,z'⟩
    ·exact .inl q
    ·refine .inr ⟨k,c',e,z'.sameBut B ?_⟩;rintro rfl;exact hj (JV hN J (I.ok.inj _ _ _ e U ▸ hi))
  ·by_cases af : c' = c
   ·subst af;exact⟨_,hc'⟩
   ·obtain⟨w2,z2⟩:=I.cell y c' e;exact⟨w2,z2.sameBut B af⟩
  ·obtain ⟨e, n, ne, nf, d⟩ := I.pin p hp;refine⟨(B.2 p.1 ?_).trans e,n,ne,nf,d⟩;intro q;rw[q,ac] at e;have q':oc=p.2:=zN e
   exact d w' (by rw[<- q'];exact ab)
def qd{M:Model}{A:Around}{E:QqV}{i:Nat}{x:Str}{v:V}{u:Value}{Q:Unit->Shared->Prop}(I:Inv X pins σ H s)(hN:X.N.Nodup)(hi:X.N[i]?=some x)(hx:Loc X.env.scope x)(r:RelV v u)
  (h:∀s',Inv X pins (σ.set i (some v)) H s'->Q () s') (B:X.fn x=true\/X.env.scope.names.lookup x=some .local:=by first |exact .inl rfl |exact .inr rfl |assumption):wpAny M A (storeName X.env x u) Q E s:=
 VE I hN hi hx r (λs' I' _=>h s' I') B
def Inv.call'{s':Shared}{ch:List Addr}(I:Inv X pins σ H s)(J:s'.os=s.os)(u:Un (frs X.stack) ch H H' s.heap s'.heap)(hok:HOk X.prog X.w H' s'.heap)(U:AllBare s'.gens)
  (B:∀b∈ch,(b∈X.ex\/X.s₀.heap.objs.size<=b)/\b≠X.env.locals/\(∀x c,X.env.cells.lookup x=some c->c≠b)/\∀p∈X.pn++pins,p.1≠b):Inv X pins σ H' s':=by
 obtain⟨h',g',d',t',o'⟩:=s';have e:o'=s.os:=J;subst e;exact I.call (g':=g') (t':=t') (d':=d') u hok U B
end
abbrev XK:=Value->Option Addr->Hp->Prop
abbrev St:=List (Option V)
abbrev VK:=V->Hp->Prop
abbrev TE:=St->Hp->VK->Prop
abbrev TT:=St->Hp->(Bool->Hp->Prop)->Prop
abbrev TA:=St->Hp->(List V->Hp->Prop)->Prop
structure Ends where
 nx:St->Hp->Prop
 rt:VK
 bk:St->Hp->Prop:=λ_ _=>False
 ct:St->Hp->Prop:=λ_ _=>False
abbrev TS:=Ends->St->Hp->Prop
def EP(X:Cx)(B:QqL)(σ:St)(Q:VK)(u:Value)(s':Shared):Prop:=∃v H',Inv X B σ H' s'/\RelV v u/\Q v H'
def TP(X:Cx)(B:QqL)(σ:St)(Q:Bool->Hp->Prop)(b:Bool)(s':Shared):Prop:=∃H',Inv X B σ H' s'/\Q b H'
def AP(X:Cx)(B:QqL)(σ:St)(Q:List V->Hp->Prop)(us:QqW)(s':Shared):Prop:=∃vs H',Inv X B σ H' s'/\Vals vs us/\Q vs H'
def SP(X:Cx)(B:QqL)(D:Ends)(f:Flow)(s':Shared):Prop:=
 match f with
 |.next=>∃σ' H',Inv X B σ' H' s'/\D.nx σ' H'
 |.brk=>∃σ' H',Inv X B σ' H' s'/\D.bk σ' H'
 |.cont=>∃σ' H',Inv X B σ' H' s'/\D.ct σ' H'
 |.ret u=>∃v σ' H',Inv X B σ' H' s'/\RelV v u/\D.rt v H'
def PE(X:Cx)(e:Expr)(t:TE):Prop:=
 ∀(B:QqL) (s:Shared) (σ:St) (H:Hp) (Q:VK),Inv X B σ H s->t σ H Q->wpAny (model X.prog X.w) X.A (eval e X.env) (EP X B σ Q) X.xe s
def PT(X:Cx)(e:Expr)(t:TT):Prop:=
 ∀(B:QqL) (s:Shared) (σ:St) (H:Hp) (Q:Bool->Hp->Prop),Inv X B σ H s->t σ H Q->wpAny (model X.prog X.w) X.A (isTrue e X.env (eval e X.env)) (TP X B σ Q) X.xe s
def PW(X:Cx)(e:Expr)(t:TT):Prop:=
 ∀(whole:Sem Value) (B:QqL) (s:Shared) (σ:St) (H:Hp) (Q:Bool->Hp->Prop),Inv X B σ H s->t σ H Q->wpAny (model X.prog X.w) X.A (isTrue e X.env whole) (TP X B σ Q) X.xe s
def PW.pt{X:Cx}{e:Expr}{t:TT}(h:PW X e t):PT X e t:=h _
def PA(X:Cx)(es:List Expr)(t:TA):Prop:=
 ∀(pos:Pos) (B:QqL) (s:Shared) (σ:St) (H:Hp) (Q:List V->Hp->Prop),Inv X B σ H s->t σ H Q->wpAny (model X.prog X.w) X.A (spliced (backTo pos (starEach es X.env))) (AP X B σ Q) X.xe s
def PS(X:Cx)(st:Stmt)(t:TS):Prop:=
 ∀(B:QqL) (s:Shared) (σ:St) (H:Hp) (D:Ends),Inv X B σ H s->t D σ H->wpAny (model X.prog X.w) X.A (exec st X.env) (SP X B D) X.xe s
def PSs(X:Cx)(st:List Stmt)(t:TS):Prop:=
 ∀(B:QqL) (s:Shared) (σ:St) (H:Hp) (D:Ends),Inv X B σ H s->t D σ H->wpAny (model X.prog X.w) X.A (execs st X.env) (SP X B D) X.xe s
def thn{α:Type}{t:Sem α}{Q Q':α->Shared->Prop}{M:Model}{A:Around}{E:QqV}{s:Shared}(h:wpAny M A t Q E s)(B:∀a s,Q a s->Q' a s):wpAny M A t Q' E s:=wY h B λ_ _ x=>x
section
variable {X:Cx}
def xJ1(i:Nat):TE:=λσ H Q=>∃v,σ[i]?=some (some v)/\Q v H
def tC(v:V):TE:=λ_ H Q=>Q v H
def JN{i:Nat}{x:Str}{pos:Pos}(hN:X.N[i]?=some x)(hv:Vis X.env.scope x)(hd:(x == ("__debug__" : Str))=false:=by decide)(U:(x == ("__classdict__" : Str))=false:=by decide):PE X (.Name x pos) (xJ1 i):=by
 intro J s σ H Q I h;obtain⟨v,e,h⟩:=h;obtain⟨m,hn,Y⟩:=I.loc;obtain⟨u,r,l⟩:=Y i x v hN e hv;have fin:EP X J σ Q u s:=⟨v,H,I,r,h⟩
 rcases l with ⟨hk,hm⟩ |⟨hk,c,W,B⟩
 ·exact wpAny_Name (wpAny_loadName_local I.ok.kind hk hn hm fin) hd
 ·rcases hk with hk | hk
  ·exact wpAny_Name (wpAny_loadName_cell I.ok.kind hk W B fin) hd
  ·exact wpAny_Name (wpAny_loadName_free I.ok.kind hk W B fin U) hd
def zZ4{i j pos}:PE X (.Constant (.int i) j pos) (tC (.int i)):=λ_ _ _ H _ I h=>wpAny_Constant_int ⟨.int i,H,I.tok _,⟨_,rfl⟩,h⟩
def xy3{b j pos}:PE X (.Constant (.bool b) j pos) (tC (.bl b)):=λ_ _ _ H _ I h=>Constant_bool ⟨.bl b,H,I,rfl,h⟩
def zZ2{j pos}:PE X (.Constant .none j pos) (tC .non):=λ_ _ _ H _ I h=>Constant_none ⟨.non,H,I,rfl,h⟩
def JO{x j pos}:PE X (.Constant (.str x) j pos) (tC (.str x)):=λ_ _ _ H _ I h=>Calls.Constant_str ⟨.str x,H,I.tok _,⟨_,rfl⟩,h⟩
def Gl(X:Cx)(x:Str):Prop:=X.env.kindOf x=some .globalImplicit
def KL{E:QqV}{B:QqL}{s:Shared}{σ:St}{H:Hp}{x:Str}{u:Value}{pos:Pos}{Q:QqV}(I:Inv X B σ H s)(J:Gl X x)(hm:X.mg x=some u)(h:Q u s)
  (hd:(x == ("__debug__" : Str))=false:=by decide):wpAny (model X.prog X.w) X.A (eval (.Name x pos) X.env) Q E s:=
 Calls.Name_function_global I.ok.kind J (Calls.loadGlobal_global (by rw[I.ok.glob];exact I.mod.glob.keeps I.bk) hm h) hd
def Xs{E:QqV}{B:QqL}{s:Shared}{σ:St}{H:Hp}{x:Str}{u:Value}{pos:Pos}{Q:QqV}(I:Inv X B σ H s)(J:Gl X x)(hm:X.mg x=none)(hv:bootBuiltins x=some u)(h:Q u s)
  (hn:x ≠ "__name__" := by decide) (hd:(x == ("__debug__" : Str))=false:=by decide):wpAny (model X.prog X.w) X.A (eval (.Name x pos) X.env) Q E s:=by
 obtain⟨U,h1,h2⟩:=I.mod.blt
 exact Calls.Name_function_global I.ok.kind J (Calls.loadGlobal_builtin (by rw[I.ok.glob];exact I.mod.glob.keeps I.bk) hm (by rw[I.ok.blt];exact h1.keeps I.bk) ((h2 x hn).trans hv) h) hd
def zL4{x:Str}{v:V}{u:Value}{pos:Pos}(B:Gl X x)(hm:X.mg x=none)(hv:bootBuiltins x=some u)(r:RelV v u)(hn:x ≠ "__name__" := by decide)(hd:(x == ("__debug__" : Str))=false:=by decide):PE X (.Name x pos) (tC v):=
 λ_ _ _ H _ I h=>Xs I B hm hv ⟨v,H,I,r,h⟩ hn hd
variable {a b:Expr}{ta tb:TE}{pos:Pos}
def tB(t:TE):TT:=λσ H Q=>t σ H λx B=>∃c,x=.bl c/\Q c B
def zX7{e:Expr}{t:TE}(h:PE X e t)(he:∀whole,isTrue e X.env whole=(do let v <- whole;standAt e.pos;holding [v] (truthy v)):=by intro _;rfl):PT X e (tB t):=by
 intro B s σ H Q I W;refine isTrue_plain (thn (h B s σ H _ I W) λv s1 ⟨x,H1,Y,J,U⟩=>?_) (he _);obtain⟨d,rfl,q⟩:=U;cases J;exact yo ⟨H1,Y,q⟩
variable {tA tB':TT}{rest:List Expr}
def xK3(t u:TT):TT:=λσ H Q=>t σ H λc B=>if c=true then u σ B Q else Q false B
def tOr(t u:TT):TT:=λσ H Q=>t σ H λc B=>if c=true then Q true B else u σ B Q
def xJ6(t:TT):TT:=λσ H Q=>t σ H λc B=>Q (!c) B
def zJ0(ha:PT X a tA):PW X (.BoolOp .And [a] pos) tA:=by
 intro J B s σ H Q I h;refine isTrue_and (thn (ha B s σ H Q I h) λc U e=>?_)
 cases c with
 |true=>exact isTrue_and_nil e
 |false=>exact e
def zX4(ha:PT X a tA):PW X (.BoolOp .Or [a] pos) tA:=by
 intro J B s σ H Q I h;refine isTrue_or (thn (ha B s σ H Q I h) λc U e=>?_)
 cases c with
 |false=>exact isTrue_or_nil e
 |true=>exact e
def zX5(ha:PT X a tA)(hb:PW X (.BoolOp .And (b::rest) pos) tB'):PW X (.BoolOp .And (a::b::rest) pos) (xK3 tA tB'):=by
 intro Y B s σ H Q I h;refine isTrue_and (thn (ha B s σ H _ I h) λc s1 ⟨W,U,J⟩=>?_)
 cases c with
 |true=>exact hb Y B s1 σ W Q U J
 |false=>exact⟨W,U,J⟩
def xx7(ha:PT X a tA)(hb:PW X (.BoolOp .Or (b::rest) pos) tB'):PW X (.BoolOp .Or (a::b::rest) pos) (tOr tA tB'):=by
 intro Y B s σ H Q I h;refine isTrue_or (thn (ha B s σ H _ I h) λc s1 ⟨W,U,J⟩=>?_)
 cases c with
 |true=>exact⟨W,U,J⟩
 |false=>exact hb Y B s1 σ W Q U J
def zX8(ha:PT X a tA):PT X (.UnaryOp .Not a pos) (xJ6 tA):=by
 intro B s σ H Q I h;exact isTrue_not (ha B s σ H (λc J=>Q (!c) J) I h)
def xo4(ta tb:TE):TE:=λσ H Q=>ta σ H λx B=>∃c,x=.bl c/\if c=true then tb σ B Q else Q (.bl false) B
def zZ1{op}{t:TE}(h:PE X a t):PE X (.BoolOp op [a] pos) t:=λB s σ H Q I J=>BoolOp_one (h B s σ H Q I J)
def zZ7(ha:PE X a ta)(hb:PE X (.BoolOp .And (b::rest) pos) tb):PE X (.BoolOp .And (a::b::rest) pos) (xo4 ta tb):=by
 intro B s σ H Q I h;refine BoolOp_and (thn (ha B s σ H _ I h) λv Y ⟨x,W,U,r1,J⟩=>?_);obtain⟨c,rfl,J⟩:=J;cases r1;refine yo ?_
 cases c with
 |true=>exact hb B Y σ W Q U J
 |false=>exact⟨.bl false,W,U,rfl,J⟩
end
def SqL(K:W.Frag)(H:Hp)(a:Addr)(xs:List V):Prop:=
 Rd H a (.lst xs) \/
  ∃(o:Obj) (its:Array Value) (n:Nat),K.lookup a=some o/\o.cls=.type "list" /\ o.dict=none/\o.data=.seq its n/\its.size<=sizeLine/\Vals xs its.toList
def SqT(K:W.Frag)(H:Hp)(a:Addr)(xs:List V):Prop:=
 Rd H a (.tup xs) \/
  ∃(o:Obj) (its:Array Value) (n:Nat),K.lookup a=some o/\o.cls=.type "tuple" /\ o.data=.seq its n/\its.size<=sizeLine/\Vals xs its.toList
def xQ6:Value->Option V
 |.none=>some .non
 |.bool b=>some (.bl b)
 |.int i _=>some (.int i)
 |.str x _=>some (.str x)
 |.bytes b _=>some (.byt b)
 |.float b _=>some (.flt b)
 |.ref a=>some (.ref a)
 |.type n=>some (.ty n)
 |_=>none
def RelV.abs{x:V}{u:Value}(r:RelV x u):xQ6 u=some x:=by
 cases x with
 |non=>cases r;rfl
 |bl _=>cases r;rfl
 |int _=>obtain⟨t,rfl⟩:=r;rfl
 |str _=>obtain⟨t,rfl⟩:=r;rfl
 |byt _=>obtain⟨t,rfl⟩:=r;rfl
 |flt _=>obtain⟨t,rfl⟩:=r;rfl
 |ref _=>cases r;rfl
 |ty _=>cases r;rfl
def RelV.inj{x y:V}{u:Value}(r:RelV x u)(q:RelV y u):x=y:=zN (r.abs.symm.trans q.abs)
theorem Vals.inj:∀{xs B:List V}{us:QqW},Vals xs us->Vals B us->xs=B
 |_,_,_,.nil,.nil=>rfl
 |_,_,_,.cons r t,.cons r' t'=>by rw[r.inj r',Vals.inj t t']
section
variable {X:Cx}{pins:QqL}{σ:St}{H:Hp}{s:Shared}{a:Addr}{xs ys:List V}
def SqL.of{K:W.Frag}(h:H a=some (.lst xs)):SqL K H a xs:=.inl (.inl h)
def Inv.list(I:Inv X pins σ H s)(h:SqL X.K H a xs):∃its:List Value,Vals xs its/\PlainL s.heap a its.toArray/\xs.length<=sizeLine:=by
 rcases h with h |⟨o,its,n,hk,J,hd,B,U,r⟩
 ·obtain⟨z,its,n,r,e⟩:=h.ok I.hok;exact⟨its,r,⟨_,n,e,rfl,rfl,rfl⟩,z⟩
 ·refine ⟨its.toList, r, ⟨o, n, I.kIn a o hk, J, hd, by simpa using B⟩, ?_⟩
  have e:=r.length;simp only[zj] at e;lia
def Inv.tuple(I:Inv X pins σ H s)(h:SqT X.K H a xs):∃its:List Value,Vals xs its/\IsTup s.heap a its.toArray/\xs.length<=sizeLine:=by
 rcases h with h |⟨o,its,n,hk,J,B,U,r⟩
 ·obtain⟨z,its,r,p⟩:=h.ok I.hok;exact⟨its,r,p,z⟩
 ·refine ⟨its.toList, r, ⟨o, I.kIn a o hk, J, n, by simpa using B⟩, ?_⟩
  have e:=r.length;simp only[zj] at e;lia
def Inv.list_inj(I:Inv X pins σ H s)(h:SqL X.K H a xs)(h':SqL X.K H a ys):xs=ys:=by
 obtain⟨its,r,⟨o,n,e,_,_,d⟩,_⟩:=I.list h;obtain⟨its',r',⟨o',n',e',_,_,d'⟩,_⟩:=I.list h';rw[e] at e';cases e';rw[d] at d';injection d' with d1 _
 have:its=its':=by simpa using congrArg Array.toList d1
 subst this;exact r.inj r'
def Inv.tuple_inj(I:Inv X pins σ H s)(h:SqT X.K H a xs)(h':SqT X.K H a ys):xs=ys:=by
 obtain⟨its,r,⟨o,e,_,n,d⟩,_⟩:=I.tuple h;obtain⟨its',r',⟨o',e',_,n',d'⟩,_⟩:=I.tuple h';rw[e] at e';cases e';rw[d] at d';injection d' with d1 _
 have:its=its':=by simpa using congrArg Array.toList d1
 subst this;exact r.inj r'
end
abbrev Cx.wish(X:Cx)(E:QqV):Cx:={ X with xe:=E }
abbrev Cx.nox(X:Cx):Cx:=X.wish λ_ _=>False
def Cx.Ok.wish{X:Cx}(ok:X.Ok)(E:QqV):(X.wish E).Ok:=
 ⟨ok.mod,ok.kind,ok.glob,ok.blt,ok.above,ok.inj,ok.has,ok.cab,ok.hd,ok.frames,ok.stk,ok.exf,ok.bs,ok.bsz,ok.noex,ok.exfs,ok.funs,ok.frf⟩
def Cx.Ok.unwish{X:Cx}{E:QqV}(ok:(X.wish E).Ok):X.Ok:=
 ⟨ok.mod,ok.kind,ok.glob,ok.blt,ok.above,ok.inj,ok.has,ok.cab,ok.hd,ok.frames,ok.stk,ok.exf,ok.bs,ok.bsz,ok.noex,ok.exfs,ok.funs,ok.frf⟩
section
variable {X:Cx}{pins:QqL}{σ:St}{H:Hp}{s:Shared}{E:QqV}
def Inv.wish(I:Inv X pins σ H s)(E:QqV):Inv (X.wish E) pins σ H s:=⟨I.ok.wish E,I.os,I.bare,I.base,I.loc,I.cell,I.free,I.freeC,I.pin,I.hok,I.len⟩
def Inv.unwish(I:Inv (X.wish E) pins σ H s):Inv X pins σ H s:=⟨I.ok.unwish,I.os,I.bare,I.base,I.loc,I.cell,I.free,I.freeC,I.pin,I.hok,I.len⟩
def SP.unwish{D:Ends}{f:Flow}{s':Shared}(h:SP (X.wish E) pins D f s'):SP X pins D f s':=by
 cases f with
 |next=>obtain⟨σ',H',I,q⟩:=h;exact⟨σ',H',I.unwish,q⟩
 |brk=>obtain⟨σ',H',I,q⟩:=h;exact⟨σ',H',I.unwish,q⟩
 |cont=>obtain⟨σ',H',I,q⟩:=h;exact⟨σ',H',I.unwish,q⟩
 |ret u=>obtain⟨v,σ',H',I,r,q⟩:=h;exact⟨v,σ',H',I.unwish,r,q⟩
def PSs.nox{st:List Stmt}{t:TS}(h:PSs X.nox st t):PSs X st t:=λpins s σ H D I B=>
 wY (h pins s σ H D (I.wish _) B) (λ_ _ q=>q.unwish) λ_ _ z=>False.elim z
end
section
variable {X:Cx}{st:Stmt}{rest:List Stmt}{t u:TS}{e:Expr}{te:TE}{pos:Pos}
def xn8:TS:=λD σ H=>D.nx σ H
def xJ3(t u:TS):TS:=λD σ H=>t { D with nx:=u D } σ H
def zJ5:PSs X [] xn8:=λ_ _ σ H _ I h=>wpAny_execs_nil ⟨σ,H,I,h⟩
def JK(h1:PS X st t)(h2:PSs X rest u):PSs X (st::rest) (xJ3 t u):=by
 intro B s σ H D I h;refine wpAny_execs_cons (thn (h1 B s σ H { D with nx:=u D } I h) λf J q=>?_)
 cases f with
 |next=>
  obtain⟨σ',H',I',q⟩:=q;exact h2 B J σ' H' D I' q
 |ret v=>exact q
 |brk=>exact q
 |cont=>exact q
def zJ4(h1:PS X st t):PSs X [st] t:=by
 intro B s σ H D I h;refine wpAny_execs_cons (thn (h1 B s σ H D I h) λf J q=>?_)
 cases f with
 |next=>exact wpAny_execs_nil q
 |ret v=>exact q
 |brk=>exact q
 |cont=>exact q
def Inv.quiet{B:QqL}{σ:St}{H:Hp}{s:Shared}(I:Inv X B σ H s):interactive X.env=false:=by simp[interactive,I.ok.kind]
def xo0(te:TE):TS:=λD σ H=>te σ H λ_ B=>D.nx σ B
def zg7(he:PE X e te)(U:swapsWith e none pos.line X.env=pure false:=by rfl):PS X (.Expr e pos) (xo0 te):=by
 intro B s σ H D I h;exact wpAny_Expr_any (thn (he B s σ H _ I h) λv s1 ⟨x,Y,W,r1,J⟩=>⟨σ,Y,W,J⟩) I.quiet U
def xJ4(te:TE):TS:=λD σ H=>te σ H D.rt
def zX9(he:PE X e te):PS X (.Return (some e) pos) (xJ4 te):=by
 intro B s σ H D I h;exact wpAny_Return_some (thn (he B s σ H _ I h) λv s1 ⟨x,Y,W,J,U⟩=>⟨x,σ,Y,W,J,U⟩)
def xJ8(c:TT)(t u:TS):TS:=λD σ H=>c σ H λb B=>if b=true then t D σ B else u D σ B
def xx9{c:Expr}{a b:List Stmt}{J:TT}(hc:PT X c J)(ha:PSs X a t)(hb:PSs X b u):PS X (.If c a b pos) (xJ8 J t u):=by
 intro B s σ H D I h;refine wpAny_If (thn (hc B s σ H _ I h) λd U ⟨H1,Y,W⟩=>?_)
 cases d with
 |true=>exact ha B U σ H1 D Y W
 |false=>exact hb B U σ H1 D Y W
end
abbrev TG:=V->St->Hp->(St->Hp->Prop)->Prop
abbrev TGs:=List V->St->Hp->(St->Hp->Prop)->Prop
def PG(X:Cx)(B:Expr)(t:TG):Prop:=
 ∀(I:QqL) (s:Shared) (σ:St) (H:Hp) (v:V) (u:Value) (Q:St->Hp->Prop),Inv X I σ H s->RelV v u->t v σ H Q ->
  wpAny (model X.prog X.w) X.A (assign B X.env u) (λ_ s'=>∃σ' H',Inv X I σ' H' s'/\Q σ' H') X.xe s
def PGs(X:Cx)(ts:List Expr)(t:TGs):Prop:=
 ∀(B:QqL) (s:Shared) (σ:St) (H:Hp) (vs:List V) (us:QqW) (Q:St->Hp->Prop),Inv X B σ H s->Vals vs us->t vs σ H Q ->
  wpAny (model X.prog X.w) X.A (assignInOrder ((assignEach ts X.env).map (·.2)) us) (λ_ s'=>∃σ' H',Inv X B σ' H' s'/\Q σ' H') X.xe s
abbrev xB3:=V->V->V->Hp->(Hp->Prop)->Prop
def xI5(X:Cx)(t:xB3):Prop:=
 ∀(B:QqL) (s:Shared) (σ:St) (H:Hp) (o i v:V) (I J u:Value) (Q:Hp->Prop),Inv X B σ H s->RelV o I->RelV i J->RelV v u->t o i v H Q ->
  wpAny (model X.prog X.w) X.A (setItem I J u) (λ_ s'=>∃H',Inv X B σ H' s'/\Q H') X.xe s
abbrev TIp:=V->V->Hp->VK->Prop
def PIp(X:Cx)(op:Operator)(t:TIp):Prop:=
 ∀(B:QqL) (s:Shared) (σ:St) (H:Hp) (x y:V) (v u:Value) (Q:VK),Inv X B σ H s->RelV x v->RelV y u->t x y H Q ->
  wpAny (model X.prog X.w) X.A (inplaceOp op v u) (EP X B σ Q) X.xe s
section
variable {X:Cx}{pos:Pos}
def zz4(i:Nat):TG:=λv σ H Q=>Q (σ.set i (some v)) H
def zL0{i:Nat}{x:Str}(hN:X.N.Nodup)(hi:X.N[i]?=some x)(hx:Loc X.env.scope x)(J:X.fn x=true\/X.env.scope.names.lookup x=some .local:=by first |exact .inl rfl |exact .inr rfl |assumption):PG X (.Name x pos) (zz4 i):=by
 intro B s σ H v u Q I r h;exact wpAny_assign_Name (qd I hN hi hx r (λs' I'=>⟨_,H,I',h⟩) J)
def xP4:TGs:=λvs σ H Q=>vs=[]/\Q σ H
def xA1(t:TG)(u:TGs):TGs:=λvs σ H Q=>∃v r,vs=v::r/\t v σ H λσ' H'=>u r σ' H' Q
def zK9:PGs X [] xP4:=by
 intro B s σ H vs us Q I r h;obtain⟨e,h⟩:=h;subst e;cases r;exact assignInOrder_nil ⟨σ,H,I,h⟩
def zv3{e:Expr}{es:List Expr}{t:TG}{u:TGs}(h1:PG X e t)(h2:PGs X es u)
  (hs:(assignEach (e::es) X.env).map (·.2)=assign e X.env::(assignEach es X.env).map (·.2):=by rfl):PGs X (e::es) (xA1 t u):=by
 intro B s σ H vs us Q I r h;obtain⟨v,vr,e1,h⟩:=h;subst e1
 cases r with
 |cons r W=>
  rw[hs];refine assignInOrder_cons (thn (h1 B s σ H _ _ _ I r h) λ_ U ⟨J,H1,I1,Y⟩=>?_);exact h2 B U J H1 _ _ Q I1 W Y
def xP2(K:W.Frag)(n:Nat)(t:TGs):TG:=λv σ H Q=>∃a xs,v=.ref a/\SqT K H a xs/\xs.length=n/\t xs σ H Q
def zY7{es:List Expr}{k:Nat}{t:TGs}{n:Nat}(hc:X.calm=true)(h:PGs X es t)
  (hn:(assignEach es X.env).length=n:=by rfl) (U:(assignEach es X.env).findIdx? (·.1)=none:=by rfl):PG X (.Tuple es k pos) (xP2 X.K n t):=by
 intro B s σ H v u Q I r J;obtain⟨a,xs,e1,Y,hl,J⟩:=J;subst e1;cases r;obtain⟨its,rv,W,hz⟩:=I.tuple Y
 refine assign_Tuple_tuple (I.ok.hd hc) W (by simp[hn,<- hl,rv.length]) U λh' hx=>?_
 have I1:Inv X B σ H { s with heap:=h' }:=I.kept (t':=s.toks) λb o e=>hx b o (zJ (zy e)) e
 exact h B _ σ H xs _ Q I1 (by simpa using rv) J
def xP3(to ti:TE)(t:xB3):TG:=λv σ H Q=>to σ H λo J=>ti σ J λi I=>t o i v I λB=>Q σ B
def zY8{o i:Expr}{to ti:TE}{t:xB3}(ho:PE X o to)(hi:PE X i ti)(hs:xI5 X t)
  (ha : ∀ v, assign (.Subscript o i pos) X.env v = (do
   let J <- holding [v] (eval o X.env)
   let U <- holding [v,J] (eval i X.env)
   standAt pos
   holding [v,J,U] (setItem J U v)
   release [v,J,U] []):=by intro _;rfl):PG X (.Subscript o i pos) (xP3 to ti t):=by
 intro B s σ H v u Q I r h;rw[ha];refine zb (wh (thn (ho B s σ H _ I h) λJ Y ⟨x,H1,I1,r1,q1⟩=>?_));refine zb (wh (thn (hi B Y σ H1 _ I1 q1) λU W ⟨y,H2,I2,r2,q2⟩=>?_));refine zb (wg (zb (wh (thn (hs B W σ H2 x y v J U u _ I2 r1 r2 r q2) λ_ s3 ⟨H3,I3,q3⟩=>?_))));exact wpAny_release ⟨σ,H3,I3,q3⟩
def xo3(B:TE)(g:TG):TS:=λD σ H=>B σ H λx I=>g x σ I D.nx
def zC7{J e:Expr}{U:TE}{g:TG}(he:PE X e U)(hg:PG X J g)(hs:swapsWithSole [J] e pos.line X.env=pure false:=by rfl)(hw:swappedStores [J] e X.env=pure none:=by rfl)
  (h1:(assignEach [J] X.env).map (·.2)=[assign J X.env]:=by rfl):PS X (.Assign [J] e pos) (xo3 U g):=by
 intro B s σ H D I h;refine wpAny_Assign_stores (thn (he B s σ H _ I h) λv W ⟨x,H1,I1,Y,q1⟩=>?_) hs hw;rw[h1];exact thn (hg B W σ H1 x v _ I1 Y q1) λ_ s2 q=>q
def zg5{i:Nat}{x:Str}{e:Expr}{J:TE}{pos':Pos}(hN:X.N.Nodup)(hi:X.N[i]?=some x)(hx:Loc X.env.scope x)(he:PE X e J)(Y:swapsWith e (some (.Name x pos')) pos.line X.env=pure false:=by rfl)(hf:X.fn x=true\/X.env.scope.names.lookup x=some .local:=by first |exact .inl rfl |exact .inr rfl |assumption) :
  PS X (.Assign [.Name x pos'] e pos) (xo3 J (zz4 i)):=by
 intro B s σ H D I h;refine wpAny_Assign_Name (thn (he B s σ H _ I h) λv s1 ⟨y,H1,I1,U,W⟩=>?_) Y;exact qd I1 hN hi hx U (λs2 I2=>⟨_,H1,I2,W⟩) hf
def xJ5(i j:Nat)(B:TA):TS:=λD σ H=>B σ H λvs I=>∃v w,vs=[v,w]/\D.nx ((σ.set i (some v)).set j (some w)) I
def zY0{i j:Nat}{x y:Str}{a b:Expr}{ta:TA}{px py pt:Pos}{kt k2 J}(hc:X.calm=true)(hN:X.N.Nodup)(hi:X.N[i]?=some x)(hj:X.N[j]?=some y)(aa:i≠j)
  (hx:X.env.scope.names.lookup x=some .local) (hy:X.env.scope.names.lookup y=some .local) (ha:PA X [a,b] ta)
  (hw:swappedStores [.Tuple [.Name x px,.Name y py] kt pt] (.Tuple [a,b] k2 J) X.env=pure (some [x,y]))
  (hs:swapsWithSole [.Tuple [.Name x px,.Name y py] kt pt] (.Tuple [a,b] k2 J) pos.line X.env=pure false:=by rfl) :
  PS X (.Assign [.Tuple [.Name x px,.Name y py] kt pt] (.Tuple [a,b] k2 J) pos) (xJ5 i j ta):=by
 intro B s σ H D I h;rw[exec_Assign_arm];refine zb (wg ?_);rw[hs];refine zb (ze ?_)
 rw[if_neg w6]
 refine zb (Tuple_ (thn (ha _ B s σ H _ I h) λus Y ⟨vs,H1,I1,r1,q1⟩=>?_));obtain⟨v,w,e1,q1⟩:=q1;subst e1
 obtain⟨W,U,rfl,rv,rw'⟩:∃W U,us=[W,U]/\RelV v W/\RelV w U:=by
  cases r1 with
  | cons p q =>
   cases q with
   |cons p' q'=>
    cases q';exact⟨_,_,rfl,p,p'⟩
 refine xU ?_ (by show 2<=sizeLine;decide)
 have I2:Inv X B σ H1 { Y with heap:=Y.heap.push { cls:=.type "tuple",data:=.seq [W,U].toArray } }:=I1.kept (t':=Y.toks) λb o e=>zd _ e;rw[hw];refine zb (ze ?_)
 show wpAny (model X.prog X.w) X.A (do rule "assign.swapped-stores";let items <- unpackItems (.ref Y.heap.objs.size) 2 none;assignInOrder [λv=>bindName X.env y v,λv=>bindName X.env x v] items.reverse;pure Flow.next) _ _ _
 refine zb (wz (zb (unpackItems_tuple (items:=#[W,U]) (I.ok.hd hc) (IsTup.new Y.heap _) λh' hx'=>?_)));have I3:=I2.kept (h':=h') (t':=Y.toks) λb o e=>hx' b o (zJ (zy e)) e;show wpAny _ _ (assignInOrder [λv=>bindName X.env y v,λv=>bindName X.env x v] [U,W] >>= λ_=>pure Flow.next) _ _ _;refine zb (assignInOrder_cons (wpAny_bindName (qd I3 hN hj (.inl hy) rw' (λs2 I4=>?_) (.inr hy))));refine assignInOrder_cons (wpAny_bindName (qd I4 hN hi (.inl hx) rv (λs3 I5=>assignInOrder_nil (ze ?_)) (.inr hx)));rw[List.set_comm _ _ (Ne.symm aa)] at I5;exact⟨_,H1,I5,q1⟩
def xK2(i:Nat)(B:TE)(ti:TIp):TS:=λD σ H=>∃x,σ[i]?=some (some x)/\B σ H λy J=>ti x y J λz I=>D.nx (σ.set i (some z)) I
def zY3{i:Nat}{x:Str}{e:Expr}{W:TE}{op:Operator}{ti:TIp}{pos':Pos}(hN:X.N.Nodup)(hi:X.N[i]?=some x)(hx:Loc X.env.scope x)(he:PE X e W)(ho:PIp X op ti)(hf:X.fn x=true\/X.env.scope.names.lookup x=some .local:=by first |exact .inl rfl |exact .inr rfl |assumption) :
  PS X (.AugAssign (.Name x pos') op e pos) (xK2 i W ti):=by
 intro B s σ H D I h;obtain⟨v,e1,h⟩:=h;obtain⟨m,hn,hl⟩:=I.loc
 have U:Vis X.env.scope x:=by rcases hx with k |k;exact .inl k;exact .inr (.inl k)
 obtain⟨u,r,l⟩:=hl i x v hi e1 U;refine wpAny_AugAssign_Name ?_
 have go:wpAny (model X.prog X.w) X.A (eval e X.env) (λw s₂=>wpAny (model X.prog X.w) X.A (inplaceOp op u w) (λr Y=>wpAny (model X.prog X.w) X.A (storeName X.env x r) (λ_=>SP X B D .next) X.xe Y) X.xe s₂) X.xe s:=by
  refine thn (he B s σ H _ I h) λw s1 ⟨y,H1,I1,r1,q1⟩=>?_;refine thn (ho B s1 σ H1 v y u w _ I1 r r1 q1) λz s2 ⟨zv,H2,I2,r2,q2⟩=>?_;exact qd I2 hN hi hx r2 (λs3 I3=>⟨_,H2,I3,q2⟩) hf
 rcases l with ⟨hk,hm⟩ |⟨hk,c,hc,J⟩
 ·exact wpAny_loadName_local I.ok.kind hk hn hm go
 ·rcases hk with hk | hk
  ·exact wpAny_loadName_cell I.ok.kind hk hc J go
  ·rcases hx with k | k
   ·have:X.env.scope.names.lookup x=some .free:=hk;rw[k] at this;cases this
   ·have:X.env.scope.names.lookup x=some .free:=hk;rw[k] at this;cases this
def ipI(f:Int->Int->Int):TIp:=λx y H Q=>∃i j,x=.int i/\y=.int j/\Q (.int (f i j)) H
def xe3:PIp X .Add (ipI λi j=>i+j):=by
 intro B s σ H x y v u Q I U J h;obtain⟨i,j,Y,W,q⟩:=h;subst Y;subst W;obtain⟨t,rfl⟩:=U;obtain⟨t',rfl⟩:=J;exact iadd_int ⟨.int _,H,I.tok _,⟨_,rfl⟩,q⟩
def zT5(c:TT)(I:TS):TS:=λD σ H=>∃W:Nat->St->Hp->Prop,(∃m,W m σ H)/\∀m σ H,W m σ H ->
 c σ H λb B=>if b=true then ∃N:St->Hp->Prop,(∀σ' H',N σ' H'->∃m',m'<m/\W m' σ' H')/\I { D with nx:=N,ct:=N,bk:=D.nx } σ B else D.nx σ B
def zv0{c:Expr}{body:List Stmt}{tc:TT}{tb:TS}(hp:PassesOwn (model X.prog X.w) X.A X.env X.xe)(hc:PT X c tc)(hb:PSs X body tb):PS X (.While c body [] pos) (zT5 tc tb):=by
 intro B s σ H D I h;obtain⟨W,⟨m0,w0⟩,turn⟩:=h;refine wpAny_While (codeAny_whileLoop (λn s'=>∃σ' H',Inv X B σ' H' s'/\W n σ' H') ?_ m0 ⟨σ,H,I,w0⟩);rintro n s1 ⟨Y,H1,I1,w1⟩;refine yk hp (thn (hc B s1 Y H1 _ I1 (turn n Y H1 w1)) λb s2 ⟨H2,I2,q2⟩=>?_)
 cases b with
 | true =>
  obtain⟨N,hN,q2⟩:=q2;rw[if_pos rfl];refine yk hp (thn (hb B s2 Y H2 _ I2 q2) λf s3 q3=>?_)
  cases f with
  |next=>
   obtain⟨J,U,I3,n3⟩:=q3;obtain⟨m',hm,w3⟩:=hN J U n3;exact⟨m',hm,J,U,I3,w3⟩
  |cont=>
   obtain⟨J,U,I3,n3⟩:=q3;obtain⟨m',hm,w3⟩:=hN J U n3;exact⟨m',hm,J,U,I3,w3⟩
  |brk=>exact q3
  |ret v=>exact q3
 |false=>
  rw[if_neg zK];exact wpAny_execs_nil ⟨Y,H2,I2,q2⟩
end
structure It where
 go:Nat->Hp->Prop
 yld:Nat->Hp->V->Hp->Prop
 stop:Nat->Hp->Prop
def FpOk(X:Cx)(B:QqL)(H:Hp)(b:Addr):Prop:=
 H b=none/\b≠X.env.locals/\b ∉ X.fs/\(b∈X.ex\/X.s₀.heap.objs.size<=b)/\(∀x c,X.env.cells.lookup x=some c->c≠b)/\∀p∈X.pn++B,p.1≠b
def Inv.fpOk{X:Cx}{B:QqL}{σ:St}{H H':Hp}{s:Shared}{b:Addr}(I:Inv X B σ H s)(J:s.heap.objs.size<=b)(hn:H' b=none):FpOk X B H' b:=by
 refine⟨hn,xF (zZ I.lt J),I.nofs J,.inr (zF I.sz J),λx c e z=>?_,λp U z=>?_⟩
 ·obtain ⟨v, q⟩ := I.cell x c e
  exact absurd (zZ q.lt (by rw[z];exact J)) (xD _)
 ·exact absurd (zZ (zy (I.pin p U).1) (by rw[z];exact J)) (xD _)
structure Turn(P:Program)(w:World)(K:W.Frag)(tg:Expr)(J:It)(fp:List Addr)(it:Addr)(tn:Nat->Heap->Prop):Prop where
 mem:it∈fp
 obj:∀i h,tn i h->∀b∈fp,∃o,h.get? b=some o/\∀v,o.data≠.cell v
 keep:∀i h h',tn i h->(∀b∈fp,∀o,h.get? b=some o->h'.get? b=some o)->tn i h'
 item:∀(X:Cx),X.prog=P->X.w=w->X.K=K->X.calm=true->∀(i:Nat) (pins:QqL) (s:Shared) (σ:St) (H:Hp) (E:QqV),Inv X pins σ H s->(∀b∈fp,FpOk X pins H b)->tn i s.heap->J.go i H ->
  wpAny (model P w) X.A (pyNext (.ref it)) (λr s1=>∃u,r=some u /\
   wpAny (model P w) X.A (letOwnedTupleGo tg (.ref it) u) (λ_ s2=>∃x H',Inv X pins σ H' s2/\RelV x u/\J.yld i H x H'/\tn (i+1) s2.heap/\∀b∈fp,H' b=none) E s1) E s
 done:∀(X:Cx),X.prog=P->X.w=w->X.K=K->X.calm=true->∀(i:Nat) (pins:QqL) (s:Shared) (σ:St) (H:Hp) (E:QqV),Inv X pins σ H s->(∀b∈fp,FpOk X pins H b)->tn i s.heap->J.stop i H ->
  wpAny (model P w) X.A (pyNext (.ref it)) (λr s1=>r=none/\Inv X pins σ H s1) E s
 self:∀(A:Around) (i:Nat) (s:Shared) (Q:QqV) (E:QqV),tn i s.heap->Q (.ref it) s->wpAny (model P w) A (pyIter (.ref it)) Q E s
abbrev TI:=St->Hp->(It->Hp->Prop)->Prop
def PIE(X:Cx)(B:QqL)(σ:St)(tg:Expr)(R:It->Hp->Prop)(I:Value)(W:Shared):Prop:=
 ∃(it:Addr) (Y:List Addr) (U:Nat->Heap->Prop) (J:It) (H':Hp),I=.ref it/\Inv X B σ H' W/\Turn X.prog X.w X.K tg J Y it U/\U 0 W.heap/\(∀b∈Y,FpOk X B H' b)/\R J H'
def PI(X:Cx)(U I:Expr)(J:TI):Prop:=
 ∀(B:QqL) (s:Shared) (σ:St) (H:Hp) (R:It->Hp->Prop),Inv X B σ H s->J σ H R ->
  wpAny (model X.prog X.w) X.A (eval I X.env) (λv W=>wpAny (model X.prog X.w) X.A (pyIter v) (PIE X B σ U R) X.xe W) X.xe s
def zP8{M:Model}{A:Around}{E:QqV}{s:Shared}{I:Expr}{it:Addr}{u:Value}{o:Obj}{n:String}{vs:Array Value}{Q:Unit->Shared->Prop}(J:s.heap.get? it=some o)(U:o.cls=.type n)(hd:o.data=.fields vs)
    (hn:["enumerate","zip","dict_itemiterator","dict_reverseitemiterator","odict_iterator","itertools.zip_longest","itertools.pairwise"].contains n=false) (B:Q () s):wpAny M A (letOwnedTupleGo I (.ref it) u) Q E s:=by
  unfold letOwnedTupleGo
  cases I <;> first
    |exact ze B
    |(cases u<;>first
        |exact ze B
        | (refine zb (wpAny_load J ?_)
           rw[U,hd]
           show wpAny M A (if (["enumerate","zip","dict_itemiterator","dict_reverseitemiterator","odict_iterator","itertools.zip_longest","itertools.pairwise"].contains n&&vs[0]? == some (rawInt _))=true then _ else _) Q E s
           rw[if_neg (by intro h;rw[hn,Bool.false_and] at h;cases h)]
           exact ze B))
def Itl(K:W.Frag)(a:Addr):It:=
 ⟨λi H=>∃xs x,SqL K H a xs/\xs[i]?=some x,λi H x H'=>H'=H/\∀xs,SqL K H a xs->xs[i]?=some x,λi H=>∃xs,SqL K H a xs/\xs.length<=i⟩
def Itt(K:W.Frag)(a:Addr):It:=
 ⟨λi H=>∃xs x,SqT K H a xs/\xs[i]?=some x,λi H x H'=>H'=H/\∀xs,SqT K H a xs->xs[i]?=some x,λi H=>∃xs,SqT K H a xs/\xs.length<=i⟩
def Itr(lo:Int)(n:Nat):It:=⟨λi _=>i<n,λi H x H'=>H'=H/\x=.int (lo+i),λi _=>n<=i⟩
def zd3{P:Program}{w:World}{K:W.Frag}{tg:Expr}(a it:Addr):Turn P w K tg (Itl K a) [it] it (λi h=>h.IsListIter it a i) where
 mem:=by simp
 obj:=λi h st b J=>by
  have e:b=it:=by simpa using J
  subst e;obtain⟨o,e,c,d⟩:=st
  exact⟨o,e,λv z=>by rw[d] at z;cases z⟩
 keep:=λi h h' st k=>st.at λo e=>k it (by simp) o e
 item:=by
  intro X hP hw hK hc i B s σ H E I Y st hg;subst hP hw hK;obtain⟨xs,x,U,hx⟩:=hg;obtain⟨its,rv,p,hz⟩:=I.list U;obtain⟨u,hu,ru⟩:=rv.get hx
  obtain⟨f0,f1,f2,f3,f4,f5⟩:=Y it (by simp)
  refine wpAny_pyNext_list_item st p.isList (x:=u) (by simpa using hu) λh' st' sb=>?_
  have I1:Inv X B σ H { s with heap:=h' }:=I.turned (t':=s.toks) (λb o J e=>(sb.2 b J).trans e) f0 f1 f3 f4 f5;obtain⟨o,e,c,d⟩:=id st'
  exact⟨u,rfl,zP8 (s:={ s with heap:=h' }) e c d w6 ⟨x,H,I1,ru,⟨rfl,λys hy=>by rw[I.list_inj hy U];exact hx⟩,st',λb J=>(Y b J).1⟩⟩
 done:=by
  intro X hP hw hK hc i B s σ H E I Y st hg;subst hP hw hK;obtain⟨xs,U,hx⟩:=hg;obtain⟨its,rv,p,hz⟩:=I.list U
  obtain⟨f0,f1,f2,f3,f4,f5⟩:=Y it (by simp)
  have hl:=rv.length
  exact wpAny_pyNext_list_end (I.ok.hd hc) st p.isList (by simp;lia) λh' eb=>⟨rfl,I.turned (t':=s.toks) (λb o J e=>eb b o J e) f0 f1 f3 f4 f5⟩
 self:=λ_ _ _ _ _ st h=>wpAny_pyIter_listiter st h
def QF{P:Program}{w:World}{K:W.Frag}{tg:Expr}(a it:Addr):Turn P w K tg (Itt K a) [it] it (λi h=>h.IsTupleIter it a i) where
 mem:=by simp
 obj:=λi h st b J=>by
  have e:b=it:=by simpa using J
  subst e;obtain⟨o,e,c,d⟩:=st
  exact⟨o,e,λv z=>by rw[d] at z;cases z⟩
 keep:=λi h h' st k=>st.at λo e=>k it (by simp) o e
 item:=by
  intro X hP hw hK hc i B s σ H E I Y st hg;subst hP hw hK;obtain⟨xs,x,U,hx⟩:=hg;obtain⟨its,rv,p,hz⟩:=I.tuple U;obtain⟨u,hu,ru⟩:=rv.get hx
  obtain⟨f0,f1,f2,f3,f4,f5⟩:=Y it (by simp)
  refine wpAny_pyNext_tuple_item st (show s.heap.IsTuple a its.toArray from p) (x:=u) (by simpa using hu) λh' st' sb=>?_
  have I1:Inv X B σ H { s with heap:=h' }:=I.turned (t':=s.toks) (λb o J e=>(sb.2 b J).trans e) f0 f1 f3 f4 f5;obtain⟨o,e,c,d⟩:=id st'
  exact⟨u,rfl,zP8 (s:={ s with heap:=h' }) e c d w6 ⟨x,H,I1,ru,⟨rfl,λys hy=>by rw[I.tuple_inj hy U];exact hx⟩,st',λb J=>(Y b J).1⟩⟩
 done:=by
  intro X hP hw hK hc i B s σ H E I Y st hg;subst hP hw hK;obtain⟨xs,U,hx⟩:=hg;obtain⟨its,rv,p,hz⟩:=I.tuple U
  obtain⟨f0,f1,f2,f3,f4,f5⟩:=Y it (by simp)
  have hl:=rv.length
  exact wpAny_pyNext_tuple_end (I.ok.hd hc) st (show s.heap.IsTuple a its.toArray from p) (by simp;lia) λh' eb=>⟨rfl,I.turned (t':=s.toks) (λb o J e=>eb b o J e) f0 f1 f3 f4 f5⟩
 self:=λ_ _ _ _ _ st h=>wpAny_pyIter_tupleiter st h
def QG{P:Program}{w:World}{K:PySem.W.Frag}{tg:Expr}(it:Addr)(lo:Int)(n:Nat):Turn P w K tg (Itr lo n) [it] it (λi h=>IsRangeIter h it (lo+(i:Nat)*1) ((n:Int)-(i:Nat)) 1) where
 mem:=by simp
 obj:=λi h st b J=>by
  have e:b=it:=by simpa using J
  subst e
  exact⟨_,st,λv z=>by
   have z':Data.fields _=Data.cell v:=z
   cases z'⟩
 keep:=λi h h' st k=>k it (by simp) _ st
 item:=by
  intro X hP Y hK hc i B s σ H E I U st hg;subst hP Y hK
  obtain⟨f0,f1,f2,f3,f4,f5⟩:=U it (by simp)
  have W:=Walks.range (prog:=X.prog) (w:=X.w) (I.ok.hd hc) it lo 1 n;refine W.item i s _ _ hg st λv h' tk hv st' kk=>?_;obtain⟨t,rfl⟩:=hv
  have I1:Inv X B σ H { s with heap:=h',toks:=tk }:=I.turned (λb o J e=>kk b o (by simpa using J) e) f0 f1 f3 f4 f5
  refine⟨_,rfl,zP8 (s:={ s with heap:=h',toks:=tk }) (n := "range_iterator") st' rfl rfl w6 ⟨.int (lo+i),H,I1,⟨t,?_⟩,⟨rfl,rfl⟩,st',λb J=>(U b J).1⟩⟩
  rw[Int.mul_one]
 done:=by
  intro X hP Y hK hc i B s σ H E I U st hg;subst hP Y hK
  obtain⟨f0,f1,f2,f3,f4,f5⟩:=U it (by simp)
  exact wpAny_pyNext_range_end (I.ok.hd hc) st (by have:n<=i:=hg;lia) λh' eb=>⟨rfl,I.turned (t':=s.toks) (λb o J e=>eb b o J e) f0 f1 f3 f4 f5⟩
 self:=λ_ _ _ _ _ st h=>wpAny_pyIter_rangeiter st h
section
variable {X:Cx}{tg:Expr}
def zu6{B:QqL}{σ:St}{H:Hp}{s:Shared}{R:It->Hp->Prop}{E:QqV}{lo hi:Int}{t u v:Tok}{tk:Nat}(I:Inv X B σ H s)(h1:-(2^62)<=lo)(h2:lo<2^62)(h3:-(2^62)<=hi)(h4:hi<2^62)
  (q:R (Itr lo (hi-lo).toNat) H):wpAny (model X.prog X.w) X.A (pyIter (.ref s.heap.objs.size)) (PIE X B σ tg R) E { s with heap:=s.heap.push { cls:=.type "range",data:=.fields #[.int lo t,.int hi u,.int 1 v] },toks:=tk }:=by
 refine wpAny_pyIter_range (IsRange.new ..) (small_one h1 h2 h3 h4) ?_;have J:Inv X B σ H { s with heap:=s.heap.push { cls:=.type "range",data:=.fields #[.int lo t,.int hi u,.int 1 v] },toks:=tk }:=I.kept λb o e=>zd _ e
 refine⟨(s.heap.push { cls:=.type "range",data:=.fields #[.int lo t,.int hi u,.int 1 v] }).objs.size,[(s.heap.push { cls:=.type "range",data:=.fields #[.int lo t,.int hi u,.int 1 v] }).objs.size],_,_,H,rfl,
  J.kept (t':=tk) λb o e=>zd _ e,QG _ lo (hi-lo).toNat,?_,λb U=>?_,q⟩
 ·have Y : lo + ((0 : Nat) : Int) * 1 = lo := by simp
  have W:(((hi-lo).toNat:Nat):Int)-((0:Nat):Int)=Builtin.Range.rangeSize lo hi 1:=by rw[rangeSize_one];split<;>lia
  show IsRangeIter _ _ (lo+((0:Nat):Int)*1) ((((hi-lo).toNat:Nat):Int)-((0:Nat):Int)) 1;rw[Y,W];exact zu _ rfl
 ·have e : b = (s.heap.push { cls := .type "range", data := .fields #[.int lo t, .int hi u, .int 1 v] }).objs.size := by simpa using U
  subst e;exact J.fpOk (zk _) (J.hok.fresh (zk _))
def xA0(B:TA):TI:=λσ H R=>B σ H λvs I=>∃j:Int,vs=[.int j]/\-(2^62)<=j/\j<2^62/\R (Itr 0 j.toNat) I
def zh6{a:Expr}{U:TA}{p pos:Pos}(hg:Gl X "range")(hm:X.mg "range" = none)(ha:PA X [a] U)(hs:starEach [a] X.env=[(false,eval a X.env)]:=by rfl):PI X tg (.Call (.Name "range" p) [a] [] pos) (xA0 U):=by
 intro B s σ H R I h;refine Call_ (Xs I hg hm boot_range (PyProof.Rows.callWith_type1 (thn (ha pos B s σ H _ I h) λus s1 ⟨vs,H1,I1,Y,J⟩=>?_) hs rfl));obtain⟨j,e,J,q2,q⟩:=J;subst e
 cases Y with
 |cons r W=>
  cases W;obtain⟨t,rfl⟩:=r
  exact call_range_1 (zu6 I1 w5 w5 J q2 (by simpa using q))
def xJ9(I:TI)(g:TG)(U:TS):TS:=λD σ H=>I σ H λJ H1=>∃W:Nat->Nat->St->Hp->Prop,(∃m,W 0 m σ H1)/\∀i m σ H,W i m σ H ->
 (J.stop i H/\D.nx σ H)\/(J.go i H/\∃N:St->Hp->Prop,(∀σ' H',N σ' H'->∃m',m'<m/\W (i+1) m' σ' H')/\∀x H',J.yld i H x H'->g x σ H' λB Y=>U { D with nx:=N,ct:=N,bk:=D.nx } B Y)
def qX(B:List Addr)(h:Heap):List (Addr × Obj):=B.filterMap λb=>(h.get? b).map λo=>(b,o)
def vE{B:List Addr}{h:Heap}{b:Addr}{o:Obj}(I:b∈B)(e:h.get? b=some o):(b,o)∈qX B h:=List.mem_filterMap.mpr ⟨b,I,by rw[e];rfl⟩
def Uk{B:List Addr}{h:Heap}{p:Addr × Obj}(I:p∈qX B h):p.1∈B/\h.get? p.1=some p.2:=by
 obtain⟨b,J,e⟩:=List.mem_filterMap.mp I
 cases q:h.get? b with
 |none=>rw[q] at e;cases e
 |some o=>
  rw[q] at e;have e':(b,o)=p:=zN e;subst e';exact⟨J,q⟩
def Inv.pinned{B:QqL}{σ:St}{H:Hp}{s:Shared}{J:List Addr}(I:Inv X B σ H s)(hf:∀b∈J,FpOk X B H b)(Y:∀b∈J,∃o,s.heap.get? b=some o/\∀v,o.data≠.cell v):Inv X (B++qX J s.heap) σ H s:=
 I.pins_of λp W=>(zR.mp W).elim (λz=>I.pin p (zr _ z)) λz=>by
  obtain⟨U,e⟩:=Uk z;obtain⟨f0,f1,f2,_⟩:=hf p.1 U;obtain⟨o,e',d⟩:=Y p.1 U;rw[e] at e';cases e';exact⟨e,f0,f1,f2,d⟩
def Inv.unpinned{B pl:QqL}{σ:St}{H:Hp}{s:Shared}(I:Inv X (B++pl) σ H s):Inv X B σ H s:=I.pins_of λp J=>I.pin p (zr _ (xm _ J))
def zY1{aa:Expr}{body:List Stmt}{wi:TI}{g:TG}{tb:TS}{pos:Pos}(hp:PassesOwn (model X.prog X.w) X.A X.env X.xe)(hc:X.calm=true)(hi:PI X tg aa wi)(hg:PG X tg g)(hb:PSs X body tb)
  (hs:∀x,foldedSetIterable aa X.env x=pure x:=by intro _;rfl):PS X (.For tg aa body [] pos) (xJ9 wi g tb):=by
 intro B s σ H D I h;refine wpAny_For (thn (hi B s σ H _ I h) λv s1 h1=>thn h1 λag s2 h2=>?_) hs;obtain⟨it,fp,tn,J,H2,e,I2,T,ae,f2,W,⟨m0,w0⟩,turn⟩:=h2;subst e;have Y:∀{H':Hp},(∀b∈fp,H' b=none)->∀b∈fp,FpOk X B H' b:=λhn b hb=>⟨hn b hb,(f2 b hb).2⟩;refine codeAny_forLoop_any (λn s'=>∃i σ' H',Inv X B σ' H' s'/\tn i s'.heap/\(∀b∈fp,H' b=none)/\W i n σ' H') ?_ m0 ⟨0,σ,H2,I2,ae,λb hb=>(f2 b hb).1,w0⟩;rintro n s3 ⟨i,σ3,H3,I3,ac,ad,w3⟩
 rcases turn i n σ3 H3 w3 with ⟨stop,qn⟩ |⟨go,N,hN,step⟩
 ·refine yk hp (thn (T.done X rfl rfl rfl hc i B s3 σ3 H3 X.xe I3 (Y ad) ac stop) λr s4 ⟨hr,I4⟩=>?_);subst hr;exact wpAny_execs_nil ⟨σ3,H3,I4,qn⟩
 ·refine yk hp (thn (T.item X rfl rfl rfl hc i B s3 σ3 H3 X.xe I3 (Y ad) ac go) λr s4 ⟨u, hr, h4⟩ => ?_);subst hr;refine yk hp (thn h4 λ_ s5 ⟨x,H5,I5,r5,y5,ab,af⟩=>?_);have I5':=I5.pinned (Y af) (T.obj _ _ ab);refine yk hp (thn (hg _ s5 σ3 H5 x u _ I5' r5 (step x H5 y5)) λ_ s6 ⟨σ6,H6,I6,q6⟩=>?_);refine yk hp (thn (hb _ s6 σ6 H6 _ I6 q6) λf s7 q7=>?_)
  have again:∀{U:St}{H7:Hp},Inv X (B++qX fp s5.heap) U H7 s7->N U H7->∃m,m<n/\∃i σ' H',Inv X B σ' H' s7/\tn i s7.heap/\(∀b∈fp,H' b=none)/\W i m σ' H':=λ{U H7} I7 n7=>by
   obtain⟨m',hm,w7⟩:=hN U H7 n7;refine⟨m',hm,i+1,U,H7,I7.unpinned,T.keep _ _ _ ab λb hb o e=>(I7.pin (b,o) (zr _ (zr _ (vE hb e)))).1,λb hb=>?_,w7⟩;obtain⟨o,e,d⟩:=T.obj _ _ ab b hb;exact(I7.pin (b,o) (zr _ (zr _ (vE hb e)))).2.1
  cases f with
  |next=>obtain⟨U,H7,I7,n7⟩:=q7;exact again I7 n7
  |cont=>obtain⟨U,H7,I7,n7⟩:=q7;exact again I7 n7
  |brk=>obtain⟨U,H7,I7,q7⟩:=q7;exact⟨U,H7,I7.unpinned,q7⟩
  |ret v=>obtain⟨x7,U,H7,I7,r7,q7⟩:=q7;exact⟨x7,U,H7,I7.unpinned,r7,q7⟩
end
abbrev R2:=V->V->Hp->VK->Prop
def OpR(X:Cx)(f:Value->Value->Sem Value)(r:R2):Prop:=
 ∀(B:QqL) (s:Shared) (σ:St) (H:Hp) (x y:V) (v u:Value) (Q:VK),Inv X B σ H s->RelV x v->RelV y u->r x y H Q ->
  wpAny (model X.prog X.w) X.A (f v u) (EP X B σ Q) X.xe s
def UnR(X:Cx)(f:Value->Sem Value)(r:V->Hp->VK->Prop):Prop:=
 ∀(B:QqL) (s:Shared) (σ:St) (H:Hp) (x:V) (v:Value) (Q:VK),Inv X B σ H s->RelV x v->r x H Q ->
  wpAny (model X.prog X.w) X.A (f v) (EP X B σ Q) X.xe s
def qC(X:Cx)(f:Value)(r:List V->Hp->VK->Prop):Prop:=
 ∀(B:QqL) (s:Shared) (σ:St) (H:Hp) (xs:List V) (us:QqW) (Q:VK),Inv X B σ H s->Vals xs us->r xs H Q ->
  wpAny (model X.prog X.w) X.A (call f us) (EP X B σ Q) X.xe s
def tOp(r:R2)(I B:TE):TE:=λσ H Q=>I σ H λx U=>B σ U λy J=>r x y J Q
def tUn(r:V->Hp->VK->Prop)(B:TE):TE:=λσ H Q=>B σ H λx I=>r x I Q
def rI(C:Int->Int->Prop)(g:Int->Int->V):R2:=λx y H Q=>∃i j,x=.int i/\y=.int j/\C i j/\Q (g i j) H
def rI0(g:Int->Int->V):R2:=λx y H Q=>∃i j,x=.int i/\y=.int j/\Q (g i j) H
def rU(g:Int->V):V->Hp->VK->Prop:=λx H Q=>∃i,x=.int i/\Q (g i) H
section
variable {X:Cx}{a b c:Expr}{ta tb tc:TE}{pos:Pos}
def xA9(ha:PE X a ta)(hb:PE X b tb){B:QqL}{s:Shared}{σ:St}{H:Hp}{R:V->V->Hp->Prop}(I:Inv X B σ H s)
  (h:ta σ H λx W=>tb σ W λy J=>R x y J) {Q:QqV}{f:Value->Value->Sem Value}
  (hf:∀v u U x y J,Inv X B σ J U->RelV x v->RelV y u->R x y J->wpAny (model X.prog X.w) X.A (f v u) Q X.xe U) :
  wpAny (model X.prog X.w) X.A (eval a X.env) (λv s₁=>wpAny (model X.prog X.w) X.A (eval b X.env) (λu Y=>wpAny (model X.prog X.w) X.A (f v u) Q X.xe Y) X.xe s₁) X.xe s:=by
 refine thn (ha B s σ H _ I h) λv s1 ⟨x,W,I1,r1,q1⟩=>?_;refine thn (hb B s1 σ W _ I1 q1) λu U ⟨y,J,I2,r2,q2⟩=>?_;exact hf v u U x y J I2 r1 r2 q2
def xy1{op:Operator}{r:R2}(Y:OpR X (binaryOp op) r)(ha:PE X a ta)(hb:PE X b tb):PE X (.BinOp a op b pos) (tOp r ta tb):=by
 intro B s σ H Q I h;exact wpAny_BinOp (xA9 ha hb I h λv u J x y H2 I2 W U q=>Y B J σ H2 x y v u Q I2 W U q)
def xy0{op:UnaryOp}{r:V->Hp->VK->Prop}(Y:UnR X (unaryOp op) r)(ha:PE X a ta):PE X (.UnaryOp op a pos) (tUn r ta):=by
 intro B s σ H Q I h;exact UnaryOp_ (thn (ha B s σ H _ I h) λv J ⟨x,H1,I1,U,W⟩=>Y B J σ H1 x v Q I1 U W)
def opI{f:Value->Value->Sem Value}{C:Int->Int->Prop}{g:Int->Int->Int}
  (rule:∀(i j:Int) (t u:Tok) (s:Shared) (Q:QqV) (E:QqV),C i j->Q (.int (g i j) s.toks) { s with toks:=s.toks+1 }->wpAny (model X.prog X.w) X.A (f (.int i t) (.int j u)) Q E s) :
  OpR X f (rI C λi j=>.int (g i j)):=by
 intro B s σ H x y v u Q I U J h;obtain⟨i,j,rfl,rfl,W,q⟩:=h;obtain⟨t,rfl⟩:=U;obtain⟨t',rfl⟩:=J;exact rule i j t t' s _ _ W ⟨.int (g i j),H,I.tok _,⟨_,rfl⟩,q⟩
def xG9{f:Value->Value->Sem Value}{g:Int->Int->Int}
  (rule:∀(i j:Int) (t u:Tok) (s:Shared) (Q:QqV) (E:QqV),Q (.int (g i j) s.toks) { s with toks:=s.toks+1 }->wpAny (model X.prog X.w) X.A (f (.int i t) (.int j u)) Q E s) :
  OpR X f (rI0 λi j=>.int (g i j)):=by
 intro B s σ H x y v u Q I U J h;obtain⟨i,j,rfl,rfl,q⟩:=h;obtain⟨t,rfl⟩:=U;obtain⟨t',rfl⟩:=J;exact rule i j t t' s _ _ ⟨.int (g i j),H,I.tok _,⟨_,rfl⟩,q⟩
def xy6{f:Value->Value->Sem Value}{g:Int->Int->Bool}
  (rule:∀(i j:Int) (t u:Tok) (s:Shared) (Q:QqV) (E:QqV),Q (.bool (g i j)) s->wpAny (model X.prog X.w) X.A (f (.int i t) (.int j u)) Q E s) :
  OpR X f (rI0 λi j=>.bl (g i j)):=by
 intro B s σ H x y v u Q I U J h;obtain⟨i,j,rfl,rfl,q⟩:=h;obtain⟨t,rfl⟩:=U;obtain⟨t',rfl⟩:=J;exact rule i j t t' s _ _ ⟨.bl (g i j),H,I,rfl,q⟩
def xI8(i j:Int):Prop:=0<j/\j<1073741824
def xI7(i j:Int):Prop:=0<=j/\j<=1000000/\i.natAbs<2^64
def CMul(i j:Int):Prop:=(-(2^64)<i/\i<2^64)\/(-(2^64)<j/\j<2^64)
def CMul.ok{i j:Int}(h:CMul i j):IntMulOk i j:=by
 rcases h with ⟨h1,h2⟩ |⟨h1,h2⟩
 ·exact .of_left (intBits_le_64 h1 h2)
 ·exact .of_right (intBits_le_64 h1 h2)
def xa8:OpR X (binaryOp .Add) (rI0 λi j=>.int (i+j)):=xG9 λ_ _ _ _ _ _ _ q=>add_int q
def xa3:OpR X (binaryOp .Sub) (rI0 λi j=>.int (i-j)):=xG9 λ_ _ _ _ _ _ _ q=>sub_int q
def xa5:OpR X (binaryOp .Mult) (rI CMul λi j=>.int (i*j)):=opI λ_ _ _ _ _ _ _ B q=>mul_int q B.ok
def zM2:OpR X (binaryOp .FloorDiv) (rI xI8 λi j=>.int (i/j)):=opI λi j _ _ _ _ _ B q=>by
 have h1:(0:Int)<j:=B.1;have h2:j<1073741824:=B.2
 exact floordiv_int w5 (by rw[Int.fdiv_eq_ediv_of_nonneg i w5];exact q) (.inl (PyProof.noPylong_small w5))
def xa6:OpR X (binaryOp .Mod) (rI (λ_ j=>0<j) λi j=>.int (i%j)):=opI λi j _ _ _ _ _ B q=>by
 have h1:(0:Int)<j:=B
 exact mod_int' w5 (by rw[Int.fmod_eq_emod_of_nonneg i w5];exact q)
def xa4:OpR X (binaryOp .Pow) (rI xI7 λi j=>.int (i^j.toNat)):=opI λ_ _ _ _ _ _ _ B q=>pow_int_small B.1 B.2.1 B.2.2 q
def unI{f:Value->Sem Value}{g:Int->Int}
  (rule:∀(i:Int) (t:Tok) (s:Shared) (Q:QqV) (E:QqV),Q (.int (g i) s.toks) { s with toks:=s.toks+1 }->wpAny (model X.prog X.w) X.A (f (.int i t)) Q E s) :
  UnR X f (rU λi=>.int (g i)):=by
 intro B s σ H x v Q I J h;obtain⟨i,rfl,q⟩:=h;obtain⟨t,rfl⟩:=J;exact rule i t s _ _ ⟨.int (g i),H,I.tok _,⟨_,rfl⟩,q⟩
def zT0:UnR X (unaryOp .USub) (rU λi=>.int (-i)):=unI λ_ _ _ _ _ q=>neg_int q
end
def xi5:V->V->Bool
 |.non,.non=>true |.non,.int _=>true |.int _,.non=>true |.non,.bl _=>true |.bl _,.non=>true |.non,.str _=>true |.str _,.non=>true
 |.int _,.int _=>true |.bl _,.bl _=>true |.str _,.str _=>true |.byt _,.byt _=>true
 |.int _,.str _=>true |.str _,.int _=>true |.bl _,.str _=>true |.str _,.bl _=>true
 |_,_=>false
def rEq:R2:=λx y H Q=>xi5 x y=true/\Q (.bl (decide (x=y))) H
def rNe:R2:=λx y H Q=>xi5 x y=true/\Q (.bl (!decide (x=y))) H
def zn7{i j:Int}:decide (V.int i=V.int j)=(i == j):=by
 rw[Bool.eq_iff_iff];simp
def zE7{i j:Bool}:decide (V.bl i=V.bl j)=(i == j):=by
 rw[Bool.eq_iff_iff];simp
def zn6{i j:Str}:decide (V.str i=V.str j)=(i == j):=by
 rw[Bool.eq_iff_iff];simp
def zn8{i j:Array UInt8}:decide (V.byt i=V.byt j)=(i.toList == j.toList):=by
 rw[Bool.eq_iff_iff];cases i;cases j;simp
section
variable {X:Cx}{a b c:Expr}{ta tb tc:TE}{pos:Pos}
def ve{B:QqL}{σ:St}{H:Hp}{s:Shared}{Q:VK}{k k':Bool}(I:Inv X B σ H s)(q:Q (.bl k) H)(e:k=k'):EP X B σ Q (.bool k') s:=by
 subst e;exact⟨.bl k,H,I,rfl,q⟩
def zw7:OpR X (compareOp .Eq) rEq:=by
 intro Y s σ H x y v u Q I U B h;obtain⟨J,q⟩:=h
 cases x with
 |non=>
  cases U
  cases y with
  |non=>cases B;exact PySem.EqNone.eq_none_none (ve I q (by simp))
  |bl j=>cases B;exact PySem.EqNone.eq_none_bool (ve I q (by simp))
  |int j=>obtain⟨t',rfl⟩:=B;exact PySem.EqNone.eq_none_int (ve I q (by simp))
  |str j=>obtain⟨t',rfl⟩:=B;exact PySem.EqNone.eq_none_str (ve I q (by simp))
  |_=>exact absurd (show false=true from J) zK
 |bl i=>
  cases U
  cases y with
  |non=>cases B;exact PySem.EqNone.eq_bool_none (ve I q (by simp))
  |bl j=>cases B;exact eq_bool (ve I q zE7)
  |str j=>obtain⟨t',rfl⟩:=B;exact PySem.EqMixed.eq_bool_str (ve I q (by simp))
  |_=>exact absurd (show false=true from J) zK
 |int i=>
  obtain⟨t,rfl⟩:=U
  cases y with
  |non=>cases B;exact PySem.EqNone.eq_int_none (ve I q (by simp))
  |int j=>obtain⟨t',rfl⟩:=B;exact eq_int (ve I q zn7)
  |str j=>obtain⟨t',rfl⟩:=B;exact PySem.EqMixed.eq_int_str (ve I q (by simp))
  |_=>exact absurd (show false=true from J) zK
 |str i=>
  obtain⟨t,rfl⟩:=U
  cases y with
  |non=>cases B;exact PySem.EqNone.eq_str_none (ve I q (by simp))
  |bl j=>cases B;exact PySem.EqMixed.eq_str_bool (ve I q (by simp))
  |int j=>obtain⟨t',rfl⟩:=B;exact PySem.EqMixed.eq_str_int (ve I q (by simp))
  |str j=>obtain⟨t',rfl⟩:=B;exact eq_str (ve I q zn6)
  |_=>exact absurd (show false=true from J) zK
 |byt i=>
  obtain⟨t,rfl⟩:=U
  cases y with
  |byt j=>obtain⟨t',rfl⟩:=B;exact W.eq_bytes (ve I q zn8)
  |_=>exact absurd (show false=true from J) zK
 |_=>cases y<;>exact absurd (show false=true from J) zK
def xy4:OpR X (compareOp .NotEq) rNe:=by
 intro Y s σ H x y v u Q I U B h;obtain⟨J,q⟩:=h
 cases x with
 |non=>
  cases U
  cases y with
  |non=>cases B;exact PySem.EqNone.ne_none_none (ve I q (by simp))
  |bl j=>cases B;exact PySem.EqNone.ne_none_bool (ve I q (by simp))
  |int j=>obtain⟨t',rfl⟩:=B;exact PySem.EqNone.ne_none_int (ve I q (by simp))
  |str j=>obtain⟨t',rfl⟩:=B;exact PySem.EqNone.ne_none_str (ve I q (by simp))
  |_=>exact absurd (show false=true from J) zK
 |bl i=>
  cases U
  cases y with
  |non=>cases B;exact PySem.EqNone.ne_bool_none (ve I q (by simp))
  |bl j=>cases B;exact ne_bool (ve I q (congrArg not zE7))
  |str j=>obtain⟨t',rfl⟩:=B;exact PySem.EqMixed.ne_bool_str (ve I q (by simp))
  |_=>exact absurd (show false=true from J) zK
 |int i=>
  obtain⟨t,rfl⟩:=U
  cases y with
  |non=>cases B;exact PySem.EqNone.ne_int_none (ve I q (by simp))
  |int j=>obtain⟨t',rfl⟩:=B;exact ne_int (ve I q (congrArg not zn7))
  |str j=>obtain⟨t',rfl⟩:=B;exact PySem.EqMixed.ne_int_str (ve I q (by simp))
  |_=>exact absurd (show false=true from J) zK
 |str i=>
  obtain⟨t,rfl⟩:=U
  cases y with
  |non=>cases B;exact PySem.EqNone.ne_str_none (ve I q (by simp))
  |bl j=>cases B;exact PySem.EqMixed.ne_str_bool (ve I q (by simp))
  |int j=>obtain⟨t',rfl⟩:=B;exact PySem.EqMixed.ne_str_int (ve I q (by simp))
  |str j=>obtain⟨t',rfl⟩:=B;exact ne_str (ve I q (congrArg not zn6))
  |_=>exact absurd (show false=true from J) zK
 |byt i=>
  obtain⟨t,rfl⟩:=U
  cases y with
  |byt j=>obtain⟨t',rfl⟩:=B;exact W.ne_bytes (ve I q (congrArg not zn8))
  |_=>exact absurd (show false=true from J) zK
 |_=>cases y<;>exact absurd (show false=true from J) zK
def zM1:OpR X (compareOp .Lt) (rI0 λi j=>.bl (decide (i<j))):=xy6 λ_ _ _ _ _ _ _ q=>lt_int q
def zw6:OpR X (compareOp .Gt) (rI0 λi j=>.bl (decide (j<i))):=xy6 λ_ _ _ _ _ _ _ q=>gt_int q
def xy5:OpR X (compareOp .GtE) (rI0 λi j=>.bl (decide (j<=i))):=xy6 λ_ _ _ _ _ _ _ q=>ge_int q
def kN(b:Expr){op:CmpOp}(h:op≠.In:=by decide)(h2:op≠.NotIn:=by decide):behindInMarks op b=false:=by
 have I:(op == CmpOp.In)=false:=by cases op<;>first |rfl |exact absurd rfl h
 have B:(op == CmpOp.NotIn)=false:=by cases op<;>first |rfl |exact absurd rfl h2
 cases b<;>simp[behindInMarks,I,B]
def zh8{op:CmpOp}{r:R2}(Y:OpR X (compareOp op) r)(ha:PE X a ta)(hb:PE X b tb)(hm:behindInMarks op b=false):PE X (.Compare a [op] [b] pos) (tOp r ta tb):=by
 intro B s σ H Q I h;exact wpAny_Compare1 (xA9 ha hb I h λv u J x y H2 I2 W U q=>Y B J σ H2 x y v u Q I2 W U q) hm
def zT6(t:TE):TT:=λσ H Q=>t σ H λx H'=>∃k,x=.bl k/\Q k H'
def WZ{op:CmpOp}{r:R2}(ho:OpR X (compareOp op) r)(ha:PE X a ta)(hb:PE X b tb)(hm:behindInMarks op b=false):PT X (.Compare a [op] [b] pos) (zT6 (tOp r ta tb)):=by
 intro B s σ H Q I h
 refine wpAny_isTrue_Compare1 (thn (ha B s σ H _ I h) λv U ⟨x,H1,I1,r1,q1⟩=>thn (hb B U σ H1 _ I1 q1) λu J ⟨y,H2,I2,Y,q2⟩=>
  thn (ho B J σ H2 x y v u _ I2 r1 Y q2) λc s3 ⟨z,H3,I3,W,k,e,q3⟩=>?_) hm
 subst e;cases W;exact yo ⟨H3,I3,q3⟩
def Uv:(sizeLine:Nat)<2^63:=by rw[sizeLine_eq];decide
def QU:OpR X (binaryOp .Add) (λx y H Q=>∃i j,x=.str i/\y=.str j/\i.length+j.length<=sizeLine/\Q (.str (i++j)) H):=by
 intro B s σ H x y v u Q I U J h;obtain⟨i,j,rfl,rfl,W,q⟩:=h;obtain⟨t,rfl⟩:=U;obtain⟨t',rfl⟩:=J;exact add_str (λt' tk=>⟨.str (i++j),H,I.tok _,⟨_,rfl⟩,q⟩) W
def YG{x:V}{us:QqW}(r:Vals [x] us):∃u,us=[u]/\RelV x u:=by
 cases r with
 |cons I B=>cases B;exact⟨_,rfl,I⟩
def zS9{x y:V}{us:QqW}(r:Vals [x,y] us):∃u w',us=[u,w']/\RelV x u/\RelV y w':=by
 cases r with
 |cons U J=>
  cases J with
  |cons I B=>cases B;exact⟨_,_,rfl,U,I⟩
def QA:qC X (.builtin "abs") (λxs H Q=>∃i,xs=[.int i]/\Q (.int (if i<0 then -i else i)) H):=by
 intro B s σ H xs us Q I r h;obtain⟨i,rfl,q⟩:=h;obtain⟨u,rfl,t,rfl⟩:=YG r
 exact call_abs_int λu tk=>⟨.int (if i<0 then -i else i),H,I.tok _,⟨_,rfl⟩,q⟩
def UO(J:X.calm=true):qC X (.builtin "max") (λxs H Q=>∃i j,xs=[.int i,.int j]/\Q (.int (if j > i then j else i)) H):=by
 intro B s σ H xs us Q I r h;obtain⟨i,j,rfl,q⟩:=h;obtain⟨u,w',rfl,⟨t,rfl⟩,⟨t',rfl⟩⟩:=zS9 r;refine max_two_ints (I.ok.hd J) λh' tk k=>⟨_,H,I.kept k,?_,q⟩
 by_cases hj:j > i
 ·rw[if_pos hj,if_pos hj];exact⟨_,rfl⟩
 ·rw[if_neg hj,if_neg hj];exact⟨_,rfl⟩
def zp9(J:X.calm=true):qC X (.builtin "min") (λxs H Q=>∃i j,xs=[.int i,.int j]/\Q (.int (if j<i then j else i)) H):=by
 intro B s σ H xs us Q I r h;obtain⟨i,j,rfl,q⟩:=h;obtain⟨u,w',rfl,⟨t,rfl⟩,⟨t',rfl⟩⟩:=zS9 r;refine min_two_ints (I.ok.hd J) λh' tk k=>⟨_,H,I.kept k,?_,q⟩
 by_cases hj:j<i
 ·rw[if_pos hj,if_pos hj];exact⟨_,rfl⟩
 ·rw[if_neg hj,if_neg hj];exact⟨_,rfl⟩
def UP:qC X (.type "int") (λxs H Q=>(∃i,xs=[.int i]/\Q (.int i) H)\/∃k,xs=[.bl k]/\Q (.int (if k then 1 else 0)) H):=by
 intro B s σ H xs us Q I r h
 rcases h with ⟨i,rfl,q⟩ |⟨k,rfl,q⟩
 ·obtain⟨u,rfl,t,rfl⟩:=YG r;exact call_int_int ⟨.int i,H,I,⟨_,rfl⟩,q⟩
 ·obtain ⟨u, rfl, J⟩ := YG r;cases J
  exact call_int_bool ⟨.int (if k then 1 else 0),H,I.tok _,⟨_,rfl⟩,q⟩
end
structure ObjM(h:Heap)(x dx C:Addr)(mA:QqM):Prop where
 obj:h.get? x=some (W.instObj C dx)
 ns:h.Ns1 dx mA
 ne:dx≠x
def zk1{h:Heap}{U:Addr}{J:QqM}(n:h.Ns1 U J):∃I,h.get? U=some I/\∀name,W.lookIn name I=some (J name):=by
 obtain⟨o,es,ep,ho,hd,hk,_,hm⟩:=n;refine⟨o,ho,λname=>?_⟩;have e:=hm name;unfold nsFind findBy at e;rw[<- Array.find?_toList] at e;unfold W.lookIn;rw[hd];dsimp only
 split
 ·rename_i y q;rw[q] at e;exact congrArg some e
 ·rename_i q;rw[q] at e
  have a:es.toList.any (·.refKey)=false:=by
   rw[List.any_eq_false];intro y Y;obtain⟨z,t,B⟩:=hk y (Array.mem_toList_iff.mp Y);simp[DictEntry.refKey,B]
  have a':¬ es.toList.any (·.refKey)=true:=by rw[a];exact zK
  rw[if_neg a'];exact congrArg some e
def ObjM.look{h:Heap}{x U C:Addr}{J:QqM}(I:ObjM h x U C J):∃B,W.InstAt h x (W.instObj C U) C (some B)/\∀name,W.lookIn name B=some (J name):=
 let ⟨B,Y,hl⟩:=zk1 I.ns
 ⟨B,⟨I.obj,rfl,rfl,Y⟩,hl⟩
section
variable {prog:Program}{w:World}{A:Around}{E:QqV}{s:Shared}{K:W.Frag}{x dx C f:Addr}{mA:QqM}{name:Str}{v:Value}
def zP9{B:Bool}{Q:QqV}(X:K.In s.heap)(I:ObjM s.heap x dx C mA)(Y:W.plainGet K C name=true)(hh:W.hasDictIn K C=true)
  (ha:W.findIn K (.ref C) name=some none) (hv:mA name=some v) (hv':W.handedIn v=true) (h:Q v { s with toks:=s.toks+1 }) :
  wpAny (model prog w) A (getAttr (.ref x) name B) Q E s:=by
 obtain⟨od,J,U⟩:=I.look
 exact W.get_value X J (W.plainGet_of Y).1 (W.findObj_own hh ha rfl (by rw[U,hv])) hv' h
def zz3{pl:Sem Bool}{Q:Value × List Value->Shared->Prop}(X:K.In s.heap)(I:ObjM s.heap x dx C mA)(B:W.plainGet K C name=true)
  (hf:W.findIn K (.ref C) name=some (some (.ref f))) (Y:W.isFn K (.ref f)=true) (hv:mA name=none) (h:Q (.ref f,[.ref x]) s) :
  wpAny (model prog w) A (getMethod (.ref x) name pl) Q E s:=by
 obtain⟨U,J,hl⟩:=I.look
 exact W.method_fn X J (W.plainGet_of B).1 (W.plainGet_of B).2 hf (beq_iff_eq.mp Y) (by show(W.lookIn name U).map (·.isSome)=some false;rw[hl,hv];rfl) h
def zG9{ns:List Str}{Q:Unit->Shared->Prop}(X:K.In s.heap)(I:ObjM s.heap x dx C mA)
  (hs:W.findIn K (.ref C) "__setattr__" = some (some (.builtin "object.__setattr__"))) (hp:W.plainOver K C=true) (ht:W.takerIn K C name=some none) (hh:W.hasDictIn K C=true)
  (hw:PySem.Within mA ns) (hsz:ns.length<=sizeLine)
  (h:∀h',ObjM h' x dx C (λy=>if y=name then some v else mA y)->Heap.SameBut dx s.heap h'->Q () { s with heap:=h',toks:=s.toks+2 }) :
  wpAny (model prog w) A (setAttr (.ref x) name v) Q E s:=by
 obtain⟨od,J,hl⟩:=I.look;refine W.set_plain X J hs (W.osa_open (s:={ s with toks:=s.toks+1 }) (r:=none) X J hp ht λb=>?_);obtain⟨cd,hc,hd'⟩:=W.any_some hh;have hx:s.heap.get? x=some ⟨.ref C,some dx,.plain,#[]⟩:=I.obj;refine zb (ze (zb (zb (wpAny_loadPart hx (zb (W.Looks.here (s:={ s with toks:=s.toks+1 }) (W.looks_clsIn X hc) ?_))))));rw[hd'];refine ze (a:=some dx) (zb (ze (zb ?_)));refine wpAny_nsSet1 (s:={ s with toks:=s.toks+1 }) I.ns λh' U B=>?_;obtain⟨oD,ac,ad,Y,aa,ab⟩:=U.count (PySem.Within.cons name v hw)
 refine zb (wpAny_lookBehind Y (by rw[aa];exact pastItsLine_dict (zF ab (by rw[zA];lia))) ?_)
 exact ze (h _ ⟨(B.2 _ (Ne.symm I.ne)).trans I.obj,U,I.ne⟩ B)
def zy5{R:Result->Shared->Prop}{vs:QqW}{B:List (Str × Value)}(X:K.In s.heap)(hm:W.makesIn K C=true)
  (hi:W.findIn K (.ref C) "__init__" = some (some (.ref f))) (I:W.typeIn K (.ref f)=some (.type "function"))
  (h : codeAny (model prog w) (A.under (.builtin "type.__call__" ⟨.ref C :: vs, B⟩)) (.call (.ref f) ⟨.ref (s.heap.objs.size + 1) :: vs, B⟩) (W.InitBack (s.heap.objs.size + 1) R)
   { s with heap:=(s.heap.push W.emptyDict).push (W.instObj C s.heap.objs.size) }) :
  codeAny (model prog w) A (.call (.ref C) ⟨vs,B⟩) R s:=by
 obtain⟨hh,g,d,t,os⟩:=s;exact W.make_core (W.makes_of X hm) (W.looks_findIn X hi) (λself=>W.bind_fn X self I) (.inl rfl) h
end
def XT(f:Str)(v:V):List (Str × V)->List (Str × V)
 |[]=>[(f,v)]
 |(g,x)::r=>if g=f then(g,v)::r else(g,x)::XT f v r
theorem Xo(f g:Str)(v:V):∀fs:List (Str × V),(XT f v fs).lookup g=if g=f then some v else fs.lookup g
 |[]=>by
  show List.lookup g [(f,v)]=_
  by_cases h:g=f
  ·have B:(g == f)=true:=beq_iff_eq.mpr h;simp only[List.lookup,B,if_pos h]
  ·have B:(g == f)=false:=beq_eq_false_iff_ne.mpr h;simp only[List.lookup,B,if_neg h]
 | (k, x) :: r => by
  have I:=Xo f g v r
  rw[show XT f v ((k,x)::r)=(if k=f then(k,v)::r else(k,x)::XT f v r) from rfl]
  by_cases hk:k=f
  ·rw [if_pos hk]
   by_cases h:g=k
   ·have B:(g == k)=true:=beq_iff_eq.mpr h;simp only[List.lookup,B,if_pos (h.trans hk)]
   ·have B:(g == k)=false:=beq_eq_false_iff_ne.mpr h;simp only[List.lookup,B,if_neg (λe:g=f=>h (e.trans hk.symm))]
  ·rw [if_neg hk]
   by_cases h:g=k
   ·have B:(g == k)=true:=beq_iff_eq.mpr h;simp only[List.lookup,B,if_neg (λe:g=f=>hk (h.symm.trans e))]
   ·have B:(g == k)=false:=beq_eq_false_iff_ne.mpr h;simp only[List.lookup,B];exact I
theorem Xw(f:Str)(v:V):∀fs:List (Str × V),f∈(XT f v fs).map (·.1)/\∀g,g∈fs.map (·.1)->g∈(XT f v fs).map (·.1)
 |[]=>⟨by simp[XT],λg h=>by simp at h⟩
 | (k, x) :: r => by
  obtain⟨i1,i2⟩:=Xw f v r
  rw[show XT f v ((k,x)::r)=(if k=f then(k,v)::r else(k,x)::XT f v r) from rfl]
  by_cases hk:k=f
  ·rw [if_pos hk];subst hk
   exact⟨by simp,λg h=>by simpa using h⟩
  ·rw [if_neg hk];refine⟨?_,λg h=>?_⟩
   ·rw[zz];exact zf _ i1
   ·rw [zz] at h ⊢
    rcases zg.mp h with e |e
    ·exact zg.mpr (.inl e)
    ·exact zf _ (i2 g e)
theorem Xq(f:Str)(v:V):∀fs:List (Str × V),(XT f v fs).length<=fs.length+1
 |[]=>by simp[XT]
 |(k,x)::r=>by
  have B:=Xq f v r
  rw[show XT f v ((k,x)::r)=(if k=f then(k,v)::r else(k,x)::XT f v r) from rfl]
  by_cases hk:k=f
  ·rw[if_pos hk,zA,zA];lia
  ·rw[if_neg hk,zA,zA];lia
def RelO.some_of{v:V}{o:Option Value}(r:RelO (some v) o):∃u,o=some u/\RelV v u:=by
 cases o with
 |none=>exact(show False from r).elim
 |some u=>exact⟨u,rfl,r⟩
def RelO.none_of{o:Option Value}(r:RelO none o):o=none:=by
 cases o with
 |none=>rfl
 |some u=>exact(show False from r).elim
def zm9{v:V}{u:Value}(r:RelV v u):W.handedIn u=true:=by
 cases v with
 |non=>cases(show u=Value.none from r);rfl
 |bl b=>cases(show u=Value.bool b from r);rfl
 |int i=>obtain⟨t,e⟩:=(show ∃t,u=Value.int i t from r);cases e;rfl
 |str x=>obtain⟨t,e⟩:=(show ∃t,u=Value.str x t from r);cases e;rfl
 |byt b=>obtain⟨t,e⟩:=(show ∃t,u=Value.bytes b t from r);cases e;rfl
 |flt b=>obtain⟨t,e⟩:=(show ∃t,u=Value.float b t from r);cases e;rfl
 |ref a=>cases(show u=Value.ref a from r);rfl
 |ty n=>cases(show u=Value.type n from r);rfl
section
variable {P:Program}{w:World}{H H':Hp}{h h':Heap}{a C dx:Addr}{fs fs':List (Str × V)}
def KQ(hok:HOk P w H h)(e:H a=some (.ins C dx fs)):∃B,ObjM h a dx C B/\(∀f,RelO (fs.lookup f) (B f))/\PySem.Within B (fs.map (·.1))/\fs.length<=1000/\H dx=some (.own a):=by
 obtain⟨d,z,ne,I,B,n,r,q⟩:=(show ObjOk P w H h a (.ins C dx fs) from hok a _ e);exact⟨B,⟨I,n,ne⟩,r,q,z,d⟩
end
structure Cls(K:W.Frag)(C:Addr):Prop where
 pg:W.plainGet K C Str.empty=true
 hd:W.hasDictIn K C=true
 po:W.plainOver K C=true
 sa:W.findIn K (.ref C) "__setattr__" = some (some (.builtin "object.__setattr__"))
def Cls.get{K:W.Frag}{C:Addr}(c:Cls K C)(f:Str):W.plainGet K C f=true:=c.pg
def NoAttr(K:W.Frag)(C:Addr)(f:Str):Prop:=W.findIn K (.ref C) f=some none
def NoAttr.taker{K:W.Frag}{C:Addr}{f:Str}(n:NoAttr K C f):W.takerIn K C f=some none:=by
 unfold W.takerIn;rw[show W.findIn K (.ref C) f=some none from n];rfl
structure Meth(K:W.Frag)(C:Addr)(m:Str)(f:Addr):Prop where
 at_:W.findIn K (.ref C) m=some (some (.ref f))
 fn:W.isFn K (.ref f)=true
 kp:W.keepIn K (.ref f)=true
section
variable {X:Cx}{pins:QqL}{σ:St}{H:Hp}{s:Shared}{a C dx:Addr}{fs:List (Str × V)}{f:Str}{v:V}{A:Around}{E:QqV}
def Wy{b:Bool}{Q:QqV}(I:Inv X pins σ H s)(e:H a=some (.ins C dx fs))(c:Cls X.K C)(n:NoAttr X.K C f)(l:fs.lookup f=some v)
  (h:∀u s',Inv X pins σ H s'->RelV v u->Q u s'):wpAny (model X.prog X.w) A (getAttr (.ref a) f b) Q E s:=by
 obtain⟨J,O,r,_,_,_⟩:=KQ I.hok e
 obtain⟨u,U,B⟩:=RelO.some_of (v:=v) (o:=J f) (by rw[<- l];exact r f)
 exact zP9 I.kIn O (c.get f) c.hd n U (zm9 B) (h u _ (I.tok _) B)
def Wx{m:Str}{g:Addr}{pl:Sem Bool}{Q:Value × List Value->Shared->Prop}(I:Inv X pins σ H s)(e:H a=some (.ins C dx fs))(c:Cls X.K C)(k:Meth X.K C m g)(l:fs.lookup m=none)
  (h:Q (.ref g,[.ref a]) s):wpAny (model X.prog X.w) A (getMethod (.ref a) m pl) Q E s:=by
 obtain⟨B,O,r,_,_,_⟩:=KQ I.hok e
 have hn:B m=none:=RelO.none_of (by rw[<- l];exact r m)
 exact zz3 I.kIn O (c.get m) k.at_ k.fn hn h
def Wn{y:V}{u:Value}{Q:Unit->Shared->Prop}(I:Inv X pins σ H s)(e:H a=some (.ins C dx fs))(c:Cls X.K C)(n:NoAttr X.K C f)(hl:fs.length<1000)(W:RelV y u)
  (h:∀s',Inv X pins σ (upd H a (.ins C dx (XT f y fs))) s'->Q () s'):wpAny (model X.prog X.w) A (setAttr (.ref a) f u) Q E s:=by
 obtain⟨J,O,r,B,_,U⟩:=KQ I.hok e
 have Y:(fs.map (·.1)).length<=sizeLine:=by rw[zh,sizeLine_eq];lia
 refine zG9 I.kIn O c.sa c.po n.taker c.hd B Y λh' O' sb=>h _ ?_
 have hd:∃o,h'.get? dx=some o:=let ⟨o,_,_,e',_⟩:=O'.ns;⟨o,e'⟩
 refine I.write (x:=a) (e:=dx) (by rw[e];exact True.intro) (.inr U) (λb q hb z=>(sb.2 b hb).trans z) hd ?_
 refine⟨by rw[wB O.ne];exact U,?_,O.ne,O'.obj,_,O'.ns,λg=>?_,λg hg=>?_⟩
 ·have:=Xq f y fs;lia
 ·show RelO ((XT f y fs).lookup g) (if g = f then some u else J g)
  rw[Xo]
  by_cases q:g=f
  ·rw[if_pos q,if_pos q];exact W
  ·rw[if_neg q,if_neg q];exact r g
 ·by_cases q : g = f
  ·rw[q];exact(Xw f y fs).1
  ·refine (Xw f y fs).2 g (B g λz => hg ?_)
   show(if g=f then some u else J g)=none
   rw[if_neg q];exact z
def Inv.made(I:Inv X pins σ H s):Inv X pins σ (upd (upd H s.heap.objs.size (.own (s.heap.objs.size+1))) (s.heap.objs.size+1) (.ins C s.heap.objs.size []))
  { s with heap:=(s.heap.push W.emptyDict).push (W.instObj C s.heap.objs.size) }:=by
 have B:(s.heap.push W.emptyDict).get? s.heap.objs.size=some W.emptyDict:=zu s.heap rfl
 have Y:((s.heap.push W.emptyDict).push (W.instObj C s.heap.objs.size)).get? (s.heap.objs.size+1)=some (W.instObj C s.heap.objs.size):=by
  have:=zu (s.heap.push W.emptyDict) (o:=W.instObj C s.heap.objs.size) rfl
  rwa [xT] at this
 have U:(s.heap.push W.emptyDict).Ns s.heap.objs.size (λ_=>none):=⟨W.emptyDict,#[],_,B,rfl,(λe he=>absurd he (by simp)),λ_=>rfl⟩
 have I1:=I.laid (a:=s.heap.objs.size) (o:=.own (s.heap.objs.size+1)) (h':=s.heap.push W.emptyDict) (t':=s.toks) (λb u q=>zd _ q) (zk _) ⟨_,B⟩;refine I1.laid (a:=s.heap.objs.size+1) (o:=.ins C s.heap.objs.size []) (t':=s.toks) (λb u q=>zd _ q) (yG (xT _ _)) ?_;have ne:s.heap.objs.size≠s.heap.objs.size+1:=zJ (yu _)
 refine⟨by rw[wB ne,yA],wQ _,ne,Y,λ_=>none,(Heap.Ns1.of_empty U).at λo q=>zd _ q,λ_=>True.intro,λy J=>absurd rfl J⟩
def zR2{prog:Program}{w:World}{env:Env}{e:Expr}{f:Str}{pos:Pos}{s:Shared}{Q:QqV}(I:attributeBase e f env (eval e env)=eval e env)
  (h:wpAny (model prog w) A (eval e env) (λo B=>wpAny (model prog w) A (getAttr o f true) Q E B) E s):wpAny (model prog w) A (eval (.Attribute e f pos) env) Q E s:=
 Attribute_any_ h (by rw[arm_eval_Attribute,I])
end
def xK0(K:W.Frag)(I:TE)(f:Str):TE:=λσ H Q=>I σ H λx B=>∃a C J fs v,x=.ref a/\B a=some (.ins C J fs)/\Cls K C/\NoAttr K C f/\fs.lookup f=some v/\Q v B
def xK5(K:W.Frag)(U J:TE)(f:Str):TS:=λD σ H=>J σ H λy Y=>U σ Y λx I=>∃a C B fs,x=.ref a/\I a=some (.ins C B fs)/\Cls K C/\NoAttr K C f/\fs.length<1000 /\
 D.nx σ (upd I a (.ins C B (XT f y fs)))
def xI6(X:Cx)(op:Operator)(I:V->V->Hp->VK->Prop):Prop:=
 ∀(B:QqL) (s:Shared) (σ:St) (H:Hp) (x y:V) (u v:Value) (Q:VK),Inv X B σ H s->RelV x u->RelV y v->I x y H Q->wpAny (model X.prog X.w) X.A (inplaceOp op u v) (EP X B σ Q) X.xe s
def zH2(K:W.Frag)(U J:TE)(Y:V->V->Hp->VK->Prop)(f:Str):TS:=λD σ H=>U σ H λx I=>∃a C dx fs v,x=.ref a/\I a=some (.ins C dx fs)/\Cls K C/\NoAttr K C f/\fs.lookup f=some v /\
 J σ I λy H2=>Y v y H2 λz B=>∃dx' fs',B a=some (.ins C dx' fs')/\fs'.length<1000/\D.nx σ (upd B a (.ins C dx' (XT f z fs')))
section
variable {X:Cx}{o e value:Expr}{f:Str}{pos pos' tpos:Pos}{ta tv:TE}
def zZ5(he:PE X e ta)(W:attributeBase e f X.env (eval e X.env)=eval e X.env):PE X (.Attribute e f pos) (xK0 X.K ta f):=by
 intro B s σ H Q I h;refine zR2 W (thn (he B s σ H _ I h) λu s1 ⟨x,H1,I1,J,a,C,dx,fs,v,ex,Y,c,n,l,q⟩=>?_);subst ex;obtain rfl:u=Value.ref a:=J;exact Wy I1 Y c n l λu' s2 I2 U=>⟨v,H1,I2,U,q⟩
def zY2(ha:PE X o ta)(hv:PE X value tv)(hs:swapsWith value (some (.Attribute o f pos')) pos.line X.env=pure false):PS X (.Assign [.Attribute o f pos'] value pos) (xK5 X.K ta tv f):=by
 intro B s σ H D I h;refine plainObj_wpAny_Assign_Attribute (thn (hv B s σ H _ I h) λu J ⟨y,H1,I1,U,q⟩=>thn (ha B J σ H1 _ I1 q) λov s2 ⟨x,H2,I2,W,a,C,dx,fs,ex,ea,c,n,l,Y⟩=>?_) hs;subst ex;obtain rfl:ov=Value.ref a:=W;exact Wn I2 ea c n l U λs3 I3=>⟨σ,_,I3,Y⟩
def zg6{op:Operator}{U:V->V->Hp->VK->Prop}(ha:PE X o ta)(hv:PE X value tv)(J:xI6 X op U):PS X (.AugAssign (.Attribute o f tpos) op value pos) (zH2 X.K ta tv U f):=by
 intro B s σ H D I h;refine wpAny_AugAssign_AttributeAny (thn (ha B s σ H _ I h) λov s1 ⟨x,H1,I1,rx,a,C,dx,fs,v,ex,ea,c,n,l,q⟩=>?_);subst ex;obtain rfl:ov=Value.ref a:=rx;refine Wy I1 ea c n l λu s2 I2 ru=>thn (hv B s2 σ H1 _ I2 q) λW Y ⟨y,H2,I3,ry,q3⟩=>thn (J B Y σ H2 v y u W _ I3 ru ry q3) λw4 s4 ⟨z,H3,I4,rz,dx',fs',ea',l',q4⟩=>?_;exact Wn I4 ea' c n l' rz λs5 I5=>⟨σ,_,I5,q4⟩
def xL1:V->V->Hp->VK->Prop:=λx y H Q=>∃i j,x=.int i/\y=.int j/\Q (.int (i+j)) H
def xe4:xI6 X .Add xL1:=by
 rintro B s σ H x y u v Q I U J ⟨i,j,rfl,rfl,q⟩;obtain⟨t,rfl⟩:=(show ∃t,u=Value.int i t from U);obtain⟨t',rfl⟩:=(show ∃t',v=Value.int j t' from J);exact PyProof.Rows.iadd_int ⟨.int (i+j),H,I.tok _,⟨_,rfl⟩,q⟩
end
section
variable {X:Cx}{pins:QqL}{σ:St}{H:Hp}{s:Shared}{A:Around}{E:QqV}{Q:QqV}{c:Value}{b:Bool}
end
structure Room(k:Nat)(A:Around):Prop where
 hd:A.handled=none
 dp:A.depth+3*k+5<recursionLimit
 un:A.units+16*k+200<cLine
 gd:A.guards=some []
def Room.mono{j k:Nat}{A:Around}(r:Room k A)(h:j<=k):Room j A:=⟨r.hd,by have:=r.dp;lia,by have:=r.un;lia,r.gd⟩
def Room.deeper{k:Nat}{A:Around}(r:Room (k+1) A)(env:Env):Room k (A.deeper env):=
 ⟨r.hd,by have:=r.dp;show A.depth+1+3*k+5<_;lia,by have:=r.un;show A.units+3+16*k+200<_;lia,r.gd⟩
def za3{A:Around}{C:Addr}{us:QqW}{B:List (Str × Value)}:(A.under (.builtin "type.__call__" ⟨.ref C::us,B⟩)).depth=A.depth+1:=by
 first |rfl |simp[Around.under,Code.weight,Code.isCreation,Code.isGuard,Code.isCaller,Code.frames,Code.isFrame,guardIds]
def za2{A:Around}{C:Addr}{us:QqW}{B:List (Str × Value)}:(A.under (.builtin "type.__call__" ⟨.ref C::us,B⟩)).units=A.units+1:=by
 first |rfl |simp[Around.under,Code.cUnits,Code.frames,Code.isFrame]
def KJ{A:Around}{C:Addr}{us:QqW}{B:List (Str × Value)}:(A.under (.builtin "type.__call__" ⟨.ref C::us,B⟩)).guards=A.guards:=by
 first |rfl |simp[Around.under,Code.guards,Code.isGuard,guardIds,pushGuards]
def Room.make{k:Nat}{A:Around}(r:Room (k+1) A)(C:Addr)(us:QqW)(B:List (Str × Value)):Room k (A.under (.builtin "type.__call__" ⟨.ref C::us,B⟩)):=
 ⟨r.hd,by have:=r.dp;rw[za3];lia,by have:=r.un;rw[za2];lia,by rw[KJ];exact r.gd⟩
def Room.depth{k:Nat}{A:Around}(r:Room k A):A.depth<recursionLimit:=by have:=r.dp;lia
def Room.units{k:Nat}{A:Around}(r:Room k A):A.units+64<cLine:=by have:=r.un;lia
def xi2:TA:=λ_ H Q=>Q [] H
def xo2(B:TE)(tr:TA):TA:=λσ H Q=>B σ H λx J=>tr σ J λxs I=>Q (x::xs) I
section
variable {X:Cx}{e:Expr}{es:List Expr}{te:TE}{t:TA}{pos:Pos}
def xa2:PA X [] xi2:=λ_ _ _ _ H Q I h=>Calls.spliced_nil ⟨[],H,I,.nil,h⟩
def zL7(ha:PE X e te)(hr:PA X es t)(hs:starEach (e::es) X.env=(false,eval e X.env)::starEach es X.env:=by rfl):PA X (e::es) (xo2 te t):=by
 intro pos B s σ H Q I h;rw[hs];show wpAny _ _ (spliced ((false,eval e X.env)::backTo pos (starEach es X.env))) _ _ s;refine Calls.spliced_cons (thn (ha B s σ H _ I h) λu J ⟨x,H1,I1,W,q1⟩=>?_);exact thn (hr pos B J σ H1 _ I1 q1) λus s2 ⟨xs,H2,I2,U,Y⟩=>⟨x::xs,H2,I2,.cons W U,Y⟩
def xJ2(t:TA):TE:=λσ H Q=>t σ H λxs B=>xs.length<=sizeLine/\∀p,B p=none->Q (.ref p) (upd B p (.tup xs))
def xJ7(t:TA):TE:=λσ H Q=>t σ H λxs B=>xs.length<=sizeLine/\∀p,B p=none->Q (.ref p) (upd B p (.lst xs))
def zZ0{Y}(h:PA X es t):PE X (.Tuple es Y pos) (xJ2 t):=by
 intro B s σ H Q I hq
 refine wpAny_Tuple_spliced (thn (h pos B s σ H _ I hq) λus J ⟨xs,W,U,r,z,q⟩=>⟨by rw[<- r.length];exact z,?_⟩)
 have hf:W J.heap.objs.size=none:=U.hok.fresh (zk _);refine⟨.ref J.heap.objs.size,upd W J.heap.objs.size (.tup xs),U.laid (t':=J.toks) (λb u e=>zd _ e) (zk _) ?_,rfl,q _ hf⟩;exact⟨z,us,r,⟨_,zu _ rfl,rfl,_,rfl⟩⟩
def zC8(h:PA X es t):PE X (.List es pos) (xJ7 t):=by
 intro B s σ H Q I Y
 refine wpAny_List_spliced (thn (h pos B s σ H _ I Y) λus J ⟨xs,W,U,r,z,q⟩=>⟨by rw[<- r.length];exact z,?_⟩)
 have hf:W J.heap.objs.size=none:=U.hok.fresh (zk _);refine⟨.ref J.heap.objs.size,upd W J.heap.objs.size (.lst xs),U.laid (t':=J.toks) (λb u e=>zd _ e) (zk _) ?_,rfl,q _ hf⟩;exact⟨z,us,0,r,zu _ rfl⟩
end
abbrev Sp:=List V->Hp->VK->XK->Prop
abbrev CXT:=List Env->Hp->Shared->XK->Value->Shared->Prop
structure Env0(P:Program)(w:World)(K:W.Frag)(mg:QqM)(base:Heap)(A:Around)(outer:List Env)(s:Shared)(H:Hp):Prop where
 frames:A.frames=some outer
 mod:Mod K mg base
 bs:∀b o,base.get? b=some o->s.heap.get? b=some o/\H b=none
 bsz:base.objs.size<=s.heap.objs.size
 funs:s.heap.FunFrames base outer
 frf:∀b∈frs outer,H b=none
 hok:HOk P w H s.heap
 bare:AllBare s.gens
def CE(outer:List Env)(P:Program)(w:World)(H:Hp)(s:Shared)(Q:VK)(u:Value)(s':Shared):Prop:=
 ∃v H',s'.os=s.os/\AllBare s'.gens/\Un (frs outer) [] H H' s.heap s'.heap/\HOk P w H' s'.heap/\RelV v u/\Q v H'
def CR(CX:CXT)(outer:List Env)(P:Program)(w:World)(H:Hp)(s:Shared)(Q:VK)(E:XK)(r:Result)(s':Shared):Prop:=
 match r with
 |.ok (.ret u)=>CE outer P w H s Q u s'
 |.ok _=>False
 |.error e=>CX outer H s E e s'
structure FnOk(P:Program)(w:World)(K:W.Frag)(mg:QqM)(base:Heap)(CX:CXT)(k:Nat)(f:Addr)(fd:FuncData)(ps:List Str)(sp:Sp):Prop where
 len:∀vs H Q E,sp vs H Q E->vs.length=ps.length
 run:∀(A:Around) (outer:List Env) (s:Shared) (H:Hp) (args:Args) (us:QqW) (vs:List V) (Q:VK) (E:XK),Room k A->Env0 P w K mg base A outer s H->BindsTo s fd args (ps.zip us)->Vals vs us->sp vs H Q E ->
  codeAny (model P w) A (.call (.ref f) args) (CR CX outer P w H s Q E) s
def Env0.make{P:Program}{w:World}{K:W.Frag}{mg:QqM}{base:Heap}{A:Around}{outer:List Env}{s:Shared}{H:Hp}(e:Env0 P w K mg base A outer s H)(C:Addr)(us:QqW)(B:List (Str × Value)) :
  Env0 P w K mg base (A.under (.builtin "type.__call__" ⟨.ref C::us,B⟩)) outer s H:=⟨by first |exact e.frames |(simpa [Around.under,Code.envs,Code.isFrame,pushEnvs] using e.frames),e.mod,e.bs,e.bsz,e.funs,e.frf,e.hok,e.bare⟩
section
variable {X:Cx}{pins:QqL}{σ:St}{H:Hp}{s s':Shared}
def Inv.env0(I:Inv X pins σ H s):Env0 X.prog X.w X.K X.mg X.base X.A X.stack s H:=
 ⟨I.ok.frames,I.ok.mod,I.bs,zF I.ok.bsz I.sz,I.stack,I.stkFree,I.hok,I.bare⟩
def Inv.after{Q:VK}{u:Value}(I:Inv X pins σ H s)(h:CE X.stack X.prog X.w H s Q u s'):EP X pins σ Q u s':=by
 obtain⟨v,H',os,bare,un,hok,r,q⟩:=h;obtain⟨hh,g,d,t,os'⟩:=s';obtain rfl:os'=s.os:=os
 exact⟨v,H',I.call (h':=hh) (g':=g) (d':=d) (t':=t) (ch:=[]) un hok bare (λb z=>absurd z (by simp)),r,q⟩
end
def zG5(sp:Sp)(B:List V)(E:XK)(t:TA):TE:=λσ H Q=>t σ H λvs I=>sp (vs++B) I Q E
def zG4(C:Addr)(m:Str)(sp:Sp)(B:List V)(E:XK)(J:TE)(t:TA):TE:=λσ H Q=>J σ H λx I=>∃a U fs,x=.ref a/\I a=some (.ins C U fs)/\fs.lookup m=none /\
 t σ I λvs W=>sp (x::(vs++B)) W Q E
def xn9(C:Addr)(sp:Sp)(I:List V)(E:XK)(t:TA):TE:=λσ H Q=>t σ H λvs J=>∀x B,J x=none->J B=none->B≠x ->
 sp (.ref x::(vs++I)) (upd (upd J B (.own x)) x (.ins C B [])) (λv U=>v=.non/\Q (.ref x) U) E
def Binds(K:W.Frag)(fd:FuncData)(ps:List Str)(ds:QqW):Prop:=
 ∀(s:Shared) (us:QqW),K.In s.heap->(us++ds).length=ps.length->BindsTo s fd ⟨us,[]⟩ (ps.zip (us++ds))
def Binds.all{K:W.Frag}{fd:FuncData}{ps:List Str}(h:∀us:List Value,us.length=ps.length->bindArgs fd ⟨us,[]⟩=pure (ps.zip us)):Binds K fd ps []:=λs us _ B=>by
 rw[wb] at B ⊢;exact .of_eq (h us B)
def Yo(CX:CXT)(X:Cx)(E:XK):Prop:=∀(B:QqL) (σ:St) (H:Hp) (s:Shared) (e:Value) (s':Shared),Inv X B σ H s->CX X.stack H s E e s'->X.xe e s'
section
variable {X:Cx}{CX:CXT}{k:Nat}{f C:Addr}{fd:FuncData}{ps:List Str}{sp:Sp}{dvs:List V}{ds:QqW}{E:XK}{x m:Str}{p pos apos:Pos}{e o:Expr}{es:List Expr}{ta:TE}{t:TA}
def JB{B:QqL}{σ:St}{H:Hp}{s:Shared}{Q:VK}{us:QqW}{vs:List V}(F:FnOk X.prog X.w X.K X.mg X.base CX k f fd ps sp)(W:Room k X.A)(hb:Binds X.K fd ps ds)(hd:Vals dvs ds)(hx:Yo CX X E)
  (I:Inv X B σ H s) (r:Vals vs us) (h:sp (vs++dvs) H Q E):wpAny (model X.prog X.w) X.A (call (.ref f) us) (EP X B σ Q) X.xe s:=by
 have U:Vals (vs++dvs) (us++ds):=r.append hd
 have Y:(us++ds).length=ps.length:=by rw[<- U.length];exact F.len _ _ _ _ h
 refine wpAny_call (codeAny_mono (F.run X.A X.stack s H ⟨us,[]⟩ (us++ds) (vs++dvs) Q E W I.env0 (hb s us I.kIn Y) U h) λr s' J=>?_)
 cases r with
 |error e=>exact hx B σ H s e s' I J
 |ok fl=>
  cases fl with
  |ret u=>exact I.after J
  |next=>exact False.elim J
  |brk=>exact False.elim J
  |cont=>exact False.elim J
def zh9(F:FnOk X.prog X.w X.K X.mg X.base CX k f fd ps sp)(hr:Room k X.A)(hg:Gl X x)(hm:X.mg x=some (.ref f))(hk:W.keepIn X.K (.ref f)=true)(hb:Binds X.K fd ps ds)(hd:Vals dvs ds)(hx:Yo CX X E)
  (ha:PA X (e::es) t) (U:(x == ("__debug__" : Str))=false:=by decide) (he:starEach (e::es) X.env=(false,eval e X.env)::starEach es X.env:=by rfl) (J:(backTo pos (starEach es X.env)).any (·.1)=false:=by rfl) :
  PE X (.Call (.Name x p) (e::es) [] pos) (zG5 sp dvs E t):=by
 intro B s σ H Q I h;refine wN (KL I hg hm ?_ U);refine W.callWith_K (h₀:=X.base) I.ok.mod.kin hk (thn (ha pos B s σ H _ I h) λus s1 ⟨vs,H1,Y,r,q⟩=>⟨Y.kIn,?_⟩) he J;exact JB F hr hb hd hx Y r q
def zw1(F:FnOk X.prog X.w X.K X.mg X.base CX k f fd ps sp)(U:Room k X.A)(Y:Gl X x)(hm:X.mg x=some (.ref f))(hk:W.keepIn X.K (.ref f)=true)(hb:Binds X.K fd ps ds)(hd:Vals dvs ds)(hx:Yo CX X E)
  (B:(x == ("__debug__" : Str))=false:=by decide):PE X (.Call (.Name x p) [] [] pos) (zG5 sp dvs E xi2):=by
 intro J s σ H Q I h;refine wN (KL I Y hm ?_ B);exact W.callWith_K0 I.kIn hk (JB (us:=[]) F U hb hd hx I .nil h)
def zL1{pl:Sem Bool}(he:PE X o ta)(c:Cls X.K C)(hm:Meth X.K C m f)(F:FnOk X.prog X.w X.K X.mg X.base CX k f fd ps sp)(hr:Room k X.A)(hb:Binds X.K fd ps ds)(hd:Vals dvs ds)(hx:Yo CX X E)(ha:PA X (e::es) t)
  (J:starEach (e::es) X.env=(false,eval e X.env)::starEach es X.env:=by rfl) (U:(backTo pos (starEach es X.env)).any (·.1)=false:=by rfl)
  (ht : eval (.Call (.Attribute o m apos) (e :: es) [] pos) X.env = (do
   let Y <- eval o X.env
   standAt apos.atName
   let (f,first) <- holding [Y] (getMethod Y m pl)
   callWith pos f first (backTo pos (starEach (e::es) X.env)) (backToKw pos (keywordEach [] X.env))):=by rfl) :
  PE X (.Call (.Attribute o m apos) (e::es) [] pos) (zG4 C m sp dvs E ta t):=by
 intro B s σ H Q I h;refine W.methodCall_KW (pl:=pl) (thn (he B s σ H _ I h) λu s1 ⟨x,H1,I1,rx,a,dx,fs,ex,ea,l,q⟩=>?_) ht;subst ex;obtain rfl:u=Value.ref a:=rx;refine Wx I1 ea c hm l ?_
 refine W.callWith_K (first:=[.ref a]) (h₀:=X.base) I.ok.mod.kin hm.kp (thn (ha pos B s1 σ H1 _ I1 q) λus s2 ⟨vs,H2,I2,r,q2⟩=>⟨I2.kIn,?_⟩) J U
 exact JB (us:=.ref a::us) (vs:=.ref a::vs) F hr hb hd hx I2 (.cons rfl r) q2
def zv6{pl:Sem Bool}(he:PE X o ta)(c:Cls X.K C)(hm:Meth X.K C m f)(F:FnOk X.prog X.w X.K X.mg X.base CX k f fd ps sp)(hr:Room k X.A)(hb:Binds X.K fd ps ds)(hd:Vals dvs ds)(hx:Yo CX X E)
  (ht : eval (.Call (.Attribute o m apos) [] [] pos) X.env = (do
   let U <- eval o X.env
   standAt apos.atName
   let (f,first) <- holding [U] (getMethod U m pl)
   callWith pos f first (backTo pos (starEach [] X.env)) (backToKw pos (keywordEach [] X.env))):=by rfl) :
  PE X (.Call (.Attribute o m apos) [] [] pos) (zG4 C m sp dvs E ta xi2):=by
 intro B s σ H Q I h;refine W.methodCall_KW (pl:=pl) (thn (he B s σ H _ I h) λu s1 ⟨x,H1,J,Y,a,dx,fs,ex,ea,l,q⟩=>?_) ht;subst ex;obtain rfl:u=Value.ref a:=Y;refine Wx J ea c hm l ?_
 exact W.callWith_K0 (first:=[.ref a]) J.kIn hm.kp (JB (us:=[.ref a]) (vs:=[.ref a]) F hr hb hd hx J (.cons rfl .nil) q)
structure Mk(K:W.Frag)(C f:Addr):Prop where
 makes:W.makesIn K C=true
 init:W.findIn K (.ref C) "__init__" = some (some (.ref f))
 fn:W.isFn K (.ref f)=true
 kp:W.keepIn K (.ref C)=true
def zt1{B:QqL}{σ:St}{H:Hp}{s:Shared}{Q:VK}{us:QqW}{vs:List V}(M:Mk X.K C f)(F:FnOk X.prog X.w X.K X.mg X.base CX k f fd ps sp)(hr:Room (k+1) X.A)(hb:Binds X.K fd ps ds)(hd:Vals dvs ds)
  (hx:Yo CX X E) (I:Inv X B σ H s) (r:Vals vs us)
  (h:∀x J,H x=none->H J=none->J≠x->sp (.ref x::(vs++dvs)) (upd (upd H J (.own x)) x (.ins C J [])) (λv H2=>v=.non/\Q (.ref x) H2) E) :
  wpAny (model X.prog X.w) X.A (call (.ref C) us) (EP X B σ Q) X.xe s:=by
 have Y:=h (s.heap.objs.size+1) s.heap.objs.size (I.hok.fresh (xv _)) (I.hok.fresh (zk _)) (zJ (yu _));have U:=Inv.made (C:=C) I;have W:Vals (V.ref (s.heap.objs.size+1)::(vs++dvs)) (Value.ref (s.heap.objs.size+1)::(us++ds)):=.cons rfl (r.append hd)
 have hl:(Value.ref (s.heap.objs.size+1)::us++ds).length=ps.length:=by
  have e:=W.length;rw[F.len _ _ _ _ Y] at e;exact e.symm
 refine wpAny_call (zy5 (f:=f) I.kIn M.makes M.init (beq_iff_eq.mp M.fn) (codeAny_mono (F.run _ X.stack _ _ ⟨Value.ref (s.heap.objs.size+1)::us,[]⟩ (Value.ref (s.heap.objs.size+1)::(us++ds)) _ _ E (hr.make C us [])
  (U.env0.make C us []) (hb _ (Value.ref (s.heap.objs.size+1)::us) U.kIn hl) W Y) λr s' hq'=>?_))
 cases r with
 |error e=>exact hx B σ _ _ e s' U hq'
 | ok fl =>
  cases fl with
  |ret u=>
   obtain⟨v,H',I3,rv,ev,q3⟩:=U.after hq';subst ev;exact⟨rv,⟨V.ref (s.heap.objs.size+1),H',I3,rfl,q3⟩⟩
  |next=>exact False.elim hq'
  |brk=>exact False.elim hq'
  |cont=>exact False.elim hq'
def zL2(M:Mk X.K C f)(F:FnOk X.prog X.w X.K X.mg X.base CX k f fd ps sp)(hr:Room (k+1) X.A)(hg:Gl X x)(hm:X.mg x=some (.ref C))(hb:Binds X.K fd ps ds)(hd:Vals dvs ds)(hx:Yo CX X E)
  (ha:PA X (e::es) t) (U:(x == ("__debug__" : Str))=false:=by decide) (he:starEach (e::es) X.env=(false,eval e X.env)::starEach es X.env:=by rfl) (J:(backTo pos (starEach es X.env)).any (·.1)=false:=by rfl) :
  PE X (.Call (.Name x p) (e::es) [] pos) (xn9 C sp dvs E t):=by
 intro B s σ H Q I h;refine wN (KL I hg hm ?_ U);refine W.callWith_K (h₀:=X.base) I.ok.mod.kin M.kp (thn (ha pos B s σ H _ I h) λus s1 ⟨vs,H1,Y,r,q⟩=>⟨Y.kIn,?_⟩) he J;exact zt1 M F hr hb hd hx Y r q
end
section
variable {X:Cx}{CX:CXT}{k:Nat}{f C:Addr}{fd:FuncData}{ps ks:List Str}{sp:Sp}{E:XK}{x m:Str}{p pos apos kpos:Pos}{e o:Expr}{es:List Expr}{kws:List Keyword}{te ta:TE}{t tk:TA}{nm:Option Str}
variable {g:List Value->List Value->List Value}{gV:List V->List V->List V}
end
structure FnScope(N P:List Str)(sc:Scope):Prop where
 kind:sc.kind=.function
 co:sc.isCoroutine=false
 gen:sc.isGenerator=false
 nd:N.Nodup
 pre:N.take P.length=P
 par:∀x∈P,sc.names.lookup x=some .local\/sc.names.lookup x=some .cell
 nofree:∀y∈sc.names,y.2≠.free
theorem UR{kindOf:Str->Option NameKind}{x:Str}:∀{binds:List (Str × Value)}{m:QqM},(∀v,(x,v) ∉ binds)->bindL kindOf binds m x=m x
 |[],_,_=>rfl
 | (n, v) :: r, m, h => by
  unfold bindL;rw[UR λw B=>h w (zf _ B)]
  split
  ·have : x ≠ n := by rintro rfl; exact h v zq
   simp[this]
  ·rfl
theorem UT{kindOf:Str->Option NameKind}{x:Str}:∀{binds:List (Str × Value)}{m:QqM},(∀v,(x,v) ∉ binds)->bindC kindOf binds m x=m x
 |[],_,_=>rfl
 | (n, v) :: r, m, h => by
  unfold bindC;rw[UT λw B=>h w (zf _ B)]
  split
  ·rfl
  ·have : x ≠ n := by rintro rfl; exact h v zq
   simp[this]
def US{kindOf:Str->Option NameKind}{x:Str}{v:Value}:∀{P:List Str}{vs:QqW}{i:Nat}{m:QqM},P.Nodup->P[i]?=some x->vs[i]?=some v->kindOf x=some .local ->
  bindL kindOf (P.zip vs) m x=some v
 |[],_,_,_,_,h,_,_=>by simp at h
 |_::_,[],_,_,_,_,h,_=>by simp at h
 |p::P,w::vs,0,m,nd,h1,h2,hk=>by
  simp at h1 h2;subst h1;subst h2;show bindL kindOf ((p,w)::P.zip vs) m p=_;unfold bindL;rw[UR λv hv=>(zV.mp nd).1 (of_mem_zip hv).1,if_pos hk];simp
 |p::P,w::vs,i+1,m,nd,h1,h2,hk=>by
  show bindL kindOf ((p,w)::P.zip vs) m x=_;unfold bindL
  exact US (i:=i) (zV.mp nd).2 (by simpa using h1) (by simpa using h2) hk
def UU{kindOf:Str->Option NameKind}{x:Str}{v:Value}:∀{P:List Str}{vs:QqW}{i:Nat}{m:QqM},P.Nodup->P[i]?=some x->vs[i]?=some v->kindOf x≠some .local ->
  bindC kindOf (P.zip vs) m x=some v
 |[],_,_,_,_,h,_,_=>by simp at h
 |_::_,[],_,_,_,_,h,_=>by simp at h
 |p::P,w::vs,0,m,nd,h1,h2,hk=>by
  simp at h1 h2;subst h1;subst h2;show bindC kindOf ((p,w)::P.zip vs) m p=_;unfold bindC;rw[UT λv hv=>(zV.mp nd).1 (of_mem_zip hv).1,if_neg hk];simp
 |p::P,w::vs,i+1,m,nd,h1,h2,hk=>by
  show bindC kindOf ((p,w)::P.zip vs) m x=_;unfold bindC
  exact UU (i:=i) (zV.mp nd).2 (by simpa using h1) (by simpa using h2) hk
def YL(N:List Str)(vs:List V):St:=vs.map some++replicate (N.length-vs.length) none
def zF3(CX:CXT)(P:Program)(w:World)(K:W.Frag)(mg:QqM)(base:Heap)(N:List Str)(B:Str)(scope:Scope)(f:Addr)(I:Value)(A:Around)(outer:List Env)(s:Shared)(H:Hp)(E:XK):Cx where
 prog:=P
 w:=w
 K:=K
 mg:=mg
 base:=base
 A:=A.deeper (envOfC B scope s.heap.objs.size f I)
 N:=N
 s₀:=s
 H₀:=H
 env:=envOfC B scope s.heap.objs.size f I
 outer:=outer
 stack:=envOfC B scope s.heap.objs.size f I::outer
 ex:=[]
 calm:=true
 fn:=λ_=>true
 pn:=[]
 xe:=λe s'=>wpAny (model P w) (A.deeper (envOfC B scope s.heap.objs.size f I)) (leaving (envOfC B scope s.heap.objs.size f I) e) (λ_ s''=>CX outer H s E e s'') (λe' s''=>CX outer H s E e' s'') s'
def Qz{B:Scope}{n:Nat}{x:Str}(h:B.names.lookup x=some .cell):∃c,(cellsFrom n B.names []).lookup x=some c:=by
 have q:=W.cellsFrom_some B.names n [] (.inl h);exact Option.isSome_iff_exists.mp q
def zl9{CX:CXT}{P:Program}{w:World}{K:W.Frag}{mg:QqM}{base:Heap}{N ps:List Str}{B:Str}{scope:Scope}{f:Addr}{cd:Value}{A:Around}{outer:List Env}{s s1:Shared}{H:Hp}{E:XK}{us:QqW}{vs:List V}
  (S:FnScope N ps scope) (hd:A.handled=none) (I:Env0 P w K mg base A outer s H) (hl:vs.length=ps.length) (r:Vals vs us)
  (x:InCallC s s.heap.objs.size (bindL (envOfC B scope s.heap.objs.size f cd).kindOf (ps.zip us) λ_=>none) (cellsFrom (s.heap.objs.size+1) scope.names []) (bindC (envOfC B scope s.heap.objs.size f cd).kindOf (ps.zip us) λ_=>none) s1) :
  Inv (zF3 CX P w K mg base N B scope f cd A outer s H E) [] (YL N vs) H s1:=by
 have aa:ps.length<=N.length:=by have:=congrArg List.length S.pre;rw[xl] at this;lia
 obtain⟨h1,tk,rfl,hk⟩:=x.done
 have J:∀b:Addr,b ∉ (zF3 CX P w K mg base N B scope f cd A outer s H E).ex:=λb z=>absurd (show b∈([]:List Addr) from z) (by simp)
 refine⟨⟨I.mod,S.kind,rfl,rfl,zk _,λy z c h1 h2=>?_,λy U=>?_,λy c _ h=>?_,λ_=>hd,Around.frames_deeper I.frames,.inr ⟨rfl,rfl⟩,λb z=>absurd z (J b),I.bs,I.bsz,λb _ _=>J b,λb z=>absurd z (J b),I.funs,I.frf⟩,
  rfl,I.bare,Un.kept hk,⟨_,x.toInCall.ns,λi y v h1 h2 h3=>?_⟩,λy c h=>⟨_,x.cell y c h⟩,I.hok.fresh (zk _),λy c h=>?_,λp hp=>absurd (show p∈([]:QqL) from hp) (by simp),I.hok.kept hk,?_⟩
 ·exact name_of_addr x.apart (PySem.mem_of_lookup h1) (PySem.mem_of_lookup h2)
 ·have U : scope.names.lookup y = some .cell \/ scope.names.lookup y = some .free := U
  rcases U with U |U
  ·exact Qz U
  ·exact absurd rfl (S.nofree _ (PySem.mem_of_lookup U))
 ·exact xG (x.above y c (PySem.mem_of_lookup h))
 ·have hi : i < vs.length := by
   unfold YL at h2
   by_cases hi:i<vs.length
   ·exact hi
   ·rw [xb (by simpa using hi)] at h2
    rw[xO] at h2
    split at h2<;>cases h2
  have ha:vs[i]?=some v:=by
   unfold YL at h2
   rw[xn (by simpa using hi),zI] at h2
   cases e:vs[i]? with
   |none=>rw[e] at h2;cases h2
   |some a=>rw[e] at h2;cases h2;rfl
  obtain⟨u,hu,rv⟩:=r.get ha
  have hp:ps[i]?=some y:=by
   rw[<- S.pre,List.getElem?_take_of_lt w5];exact h1
  have Y:ps.Nodup:=by rw[<- S.pre];exact S.nd.sublist (yT _ _)
  refine⟨u,rv,?_⟩
  rcases S.par y (wl hp) with k |k
  ·exact .inl ⟨k,US Y hp hu k⟩
  ·obtain ⟨c, e⟩ := Qz (n := s.heap.objs.size + 1) k;refine .inr ⟨.inl k,c,e,?_⟩;have q:=x.cell y c e
   rw[UU Y hp hu (by show scope.names.lookup y≠_;rw[k];decide)] at q
   exact q
 ·exact I.hok.fresh (xG (x.above y c (PySem.mem_of_lookup h)))
 ·unfold YL;show _=N.length;rw[zD,zh,xB];lia
def xA2{CX:CXT}{P:Program}{w:World}{K:W.Frag}{mg:QqM}{base:Heap}{k:Nat}{f:Addr}{name B:Str}{Y:Arguments}{body:List Stmt}{scope:Scope}{dV kV ad pm U ct oc:Value}{an od:QqE}
  {ae:Array (Option Value)}{N ps:List Str}{sp:Sp} (lk:K.lookup f=some ⟨oc,od,.func (W.fnOf name B Y body scope dV kV ad pm an U ct),ae⟩) (ag:W.codeIn K U B=true) (S:FnScope N ps scope)
  (len:∀vs H Q E,sp vs H Q E->vs.length=ps.length)
  (ab : ∀ (A : Around) (outer : List Env) (s : Shared) (H : Hp) (vs : List V) (Q : VK) (E : XK), Room k (A.deeper (envOfC B scope s.heap.objs.size f U)) -> sp vs H Q E ->
   ∃t,PSs (zF3 CX P w K mg base N B scope f U A outer s H E) body t/\t { nx:=λ_ H'=>Q .non H',rt:=Q } (YL N vs) H) :
  FnOk P w K mg base CX (k+1) f (W.fnOf name B Y body scope dV kV ad pm an U ct) ps sp:=by
 refine⟨len,λA outer s H args us vs Q E hr e0 hb r ac=>?_⟩;have hl:=len _ _ _ _ ac;have KX:K.In s.heap:=e0.mod.kin.keeps λb o e=>(e0.bs b o e).1;have af:s.heap.NoLimit:=e0.mod.nolimit.keeps λb o e=>(e0.bs b o e).1
 have aa:∀y∈ps.zip us,scope.names.lookup y.1=some .local\/(scope.names.lookup y.1=some .cell/\((cellsFrom (s.heap.objs.size+1) scope.names []).lookup y.1).isSome=true):=fun⟨n,v⟩ hy=>by
  rcases S.par n (of_mem_zip hy).1 with q |q
  ·exact .inl q
  ·exact .inr ⟨q,W.cellsFrom_some _ _ _ (.inl q)⟩
 refine codeAny_call_function hr.depth (KX _ _ lk) rfl S.co S.gen rfl (W.codeRec_of KX ag) (hb _ _ _ _ ?_);refine wpAny_newFunctionEnv_cells S.kind aa λenv he s1 x=>?_;subst he;refine⟨af.keeps x.toInCall.keep,codeAny_func ?_⟩;obtain⟨t,ht,hq⟩:=ab A outer s H vs Q E (hr.deeper _) ac;have I:Inv (zF3 CX P w K mg base N B scope f U A outer s H E) [] (YL N vs) H s1:=zl9 S hr.hd e0 hl r x;refine wY (ht [] s1 (YL N vs) H _ I hq) (λfl s' hs=>?_) λe s' hs=>hs
 have fin:∀{σ':St}{H':Hp}{v:V}{u:Value},Inv (zF3 CX P w K mg base N B scope f U A outer s H E) [] σ' H' s'->RelV v u->Q v H'->CE outer P w H s Q u s':=
  λ{σ' H' v u} J rv q=>⟨v,H',J.os,J.bare,J.base,J.hok,rv,q⟩
 cases fl with
 |ret u=>
  obtain⟨v,σ',H',J,rv,q⟩:=hs;exact fin J rv q
 |next=>
  obtain⟨σ',H',J,q⟩:=hs;exact fin (v:=V.non) (u:=Value.none) J rfl q
 |brk=>
  obtain⟨_,_,_,q⟩:=hs;exact False.elim q
 |cont=>
  obtain⟨_,_,_,q⟩:=hs;exact False.elim q
section
variable {X:Cx}{x:Str}{p pos:Pos}{e:Expr}{es:List Expr}{t:TA}{id T:String}{r:List V->Hp->VK->Prop}
def tCB(r:List V->Hp->VK->Prop)(t:TA):TE:=λσ H Q=>t σ H λvs B=>r vs B Q
def Vc(hc:qC X (.builtin id) r)(hg:Gl X x)(hm:X.mg x=none)(hv:bootBuiltins x=some (.builtin id))(ha:PA X (e::es) t)(hn:x ≠ "__name__" := by decide)(U:(x == ("__debug__" : Str))=false:=by decide)
  (he:starEach (e::es) X.env=(false,eval e X.env)::starEach es X.env:=by rfl) (J:(backTo pos (starEach es X.env)).any (·.1)=false:=by rfl):PE X (.Call (.Name x p) (e::es) [] pos) (tCB r t):=by
 intro B s σ H Q I h;refine wN (Xs I hg hm hv ?_ hn U);exact PyProof.Rows.callWith_builtin1 (thn (ha pos B s σ H _ I h) λus W ⟨vs,H1,I1,Y,q1⟩=>hc B W σ H1 vs us Q I1 Y q1) he J
def Ud(hc:qC X (.type T) r)(hg:Gl X x)(hm:X.mg x=none)(hv:bootBuiltins x=some (.type T))(ha:PA X (e::es) t)(hn:x ≠ "__name__" := by decide)(U:(x == ("__debug__" : Str))=false:=by decide)
  (he:starEach (e::es) X.env=(false,eval e X.env)::starEach es X.env:=by rfl) (J:(backTo pos (starEach es X.env)).any (·.1)=false:=by rfl):PE X (.Call (.Name x p) (e::es) [] pos) (tCB r t):=by
 intro B s σ H Q I h;refine wN (Xs I hg hm hv ?_ hn U);exact PyProof.Rows.callWith_type1 (thn (ha pos B s σ H _ I h) λus W ⟨vs,H1,I1,Y,q1⟩=>hc B W σ H1 vs us Q I1 Y q1) he J
end
end L2
namespace HT
open PySem PyProof.Rows
def qx:List Int->List Int->Bool
 |[],[]=>false
 |[],_::_=>true
 |_::_,[]=>false
 |x::xs,y::B=>if x=y then qx xs B else decide (x<y)
def qw(x y:Int)(xs B:List Int):qx (x::xs) (y::B)=if x=y then qx xs B else decide (x<y):=rfl
def Vk:qx [] []=false:=rfl
def Wb(y:Int)(B:List Int):qx [] (y::B)=true:=rfl
def Wc(x:Int)(xs:List Int):qx (x::xs) []=false:=rfl
def zz7(A:Around)(s:Shared)(a:Int)(t:Tok)(c:Int)(u:Tok):∃e,SeqAt.EqAt A s (.int a t) (.int c u) e/\(e=true↔a=c):=
 ⟨(a == c),SeqAt.EqAt.int_int a t c u,by simp⟩
def zu4(A:Around)(s:Shared)(a:Int)(t:Tok)(c:Int)(u:Tok)(prog:Program)(w:World)(E:QqV)(Q:QqV)(h:Q (.bool (decide (a<c))) s) :
  wpAny (model prog w) A (richCompare .Lt (.int a t) (.int c u)) Q E s:=
 (PyProof.Rows.lt_int h:wpAny (model prog w) A (compareOp .Lt (.int a t) (.int c u)) Q E s)
section
open PySem.SeqAt
open PySem.AutoSeq1 (wpAny_loadPart')
open PySem.MeetsSeq PySem.MeetsSeq2 PySem.MeetsSeq3
def WB(l b:Addr)(items B:Array Value)(n n2:Nat)(dd af:QqE)(sl ac:Array (Option Value))(ns ms:List Int)(hi:IntsAre items.toList ns)(hj:IntsAre B.toList ms) :
  Meets (Builtin.«tuple.__lt__» ⟨[.ref l,.ref b],[]⟩)
   (λ_ R s => s.heap.get? l = some { cls := .type "tuple", dict := dd, data := .seq items n, slots := sl } /\ s.heap.get? b = some { cls := .type "tuple", dict := af, data := .seq B n2, slots := ac } /\
    R (.ok (.ret (.bool (qx ns ms)))) s):=
 .of_wp λprog w A R s h=>by
  obtain⟨hp,g,d,tk,os⟩:=s;obtain⟨hl,hb,h⟩:=h;have f2:=AutoSeq1.sub_tuple_tuple
  have z1:items.size=ns.length:=by rw[<- hi.length];simp
  have z2:B.size=ms.length:=by rw[<- hj.length];simp
  wp_walk using wpAny_loadPart' hl,wpAny_loadPart' hb,wpAny_forIn_list _ (λrest b s'=>b.1=none/\s'=⟨hp,g,d,tk,os⟩/\∃(vs ws:QqW) (ns' ms':List Int),rest=vs.zip ws /\
   IntsAre vs ns'/\IntsAre ws ms'/\ns'.length+B.size=ms'.length+items.size/\R (.ok (.ret (.bool (qx ns' ms')))) ⟨hp,g,d,tk,os⟩) _
  case turn=>
   rintro⟨y,x⟩ rest b s' ⟨hb',rfl,vs,ws,ns',ms',J,aa,U,I,Y⟩
   cases aa with
   |nil=>rw[List.zip_nil_left] at J;cases J
   | cons a t hvi' =>
    cases U with
    |nil=>rw[List.zip_nil_right] at J;cases J
    | cons c u hwi' =>
     rw[yH] at J;injection J with ad ab;injection ad with hy hx;subst hy hx;rw[qw] at Y;simp only[zA] at I;obtain⟨e,he,W⟩:=zz7 A.in1 ⟨hp,g,d,tk,os⟩ a t c u;refine zb (he prog w _ _ ?_)
     cases e with
     |true=>
      rw[if_pos (W.mp rfl)] at Y
      wp_walk
      exact⟨rfl,rfl,_,_,_,_,ab,hvi',hwi',w5,Y⟩
     |false=>
      rw[if_neg (λq=>absurd (W.mpr q) zK)] at Y;have ae:=zu4 A.in1 ⟨hp,g,d,tk,os⟩ a t c u prog w
      wp_walk using ae
      exact⟨_,rfl,by simpa using Y⟩
  case fin=>
   rintro⟨b1,b2⟩ s' ⟨hb',rfl,vs,ws,ns',ms',J,aa,U,I,Y⟩;simp only at hb';subst hb'
   have hv:qx ns' ms'=decide (items.size<B.size):=by
    cases aa with
    | nil =>
     cases U with
     |nil=>
      simp only[ym] at I;rw[Vk]
      exact(xf w5).symm
     |cons c u hw=>
      simp only[ym,zA] at I;rw[Wb]
      exact(xN w5).symm
    | cons a t hv =>
     cases U with
     |nil=>
      simp only[ym,zA] at I;rw[Wc]
      exact(xf w5).symm
     |cons c u hw=>
      rw[yH] at J;cases J
   rw[hv] at Y
   wp_walk
   exact⟨_,rfl,by simpa [Builtin.Tuple.tupleCompareSizes] using Y⟩
  case h=>
   exact⟨rfl,rfl,items.toList,B.toList,ns,ms,rfl,hi,hj,w5,h⟩
end
section
variable {prog:Program}{w:World}{A:Around}{E:QqV}{s:Shared}
def za4{l b:Addr}{items B:Array Value}{ns I:List Int}{Q:QqV}(hl:IsTup s.heap l items)(hb:IsTup s.heap b B)(hi:IntsAre items.toList ns)(hj:IntsAre B.toList I)
  (hu:A.units<cLine) (h:Q (.bool (qx ns I)) s):wpAny (model prog w) A (compareOp .Lt (.ref l) (.ref b)) Q E s:=by
 obtain⟨⟨cls,dd,data,sl⟩,ho,hc,n,hd⟩:=id hl;obtain⟨⟨ac,aa,ab,Y⟩,J,W,n2,U⟩:=id hb;simp only at hc hd W U;subst hc hd W U
 exact richCompare_meets_room (op:=.Lt) ⟨_,ho,rfl⟩ ⟨_,J,rfl⟩ PySem.F.slot_tuple_lt PySem.F.entry_tuple_lt (PySem.F.args_tuple_lt_2 _ _) (WB l b items B n n2 dd aa sl Y ns I hi hj)
  ⟨ho,J,show Value.bool (qx ns I)≠Value.notImplemented/\Q (.bool (qx ns I)) s from⟨(λx=>nomatch x),h⟩⟩ hu
def zQ8{t b:Addr}{vs ws:QqW}{Q:QqV}(ht:IsTup s.heap t vs.toArray)(hb:IsTup s.heap b ws.toArray)(hv:vs≠[])
  (h1:ws=[]->Q (.ref t) s) (h2:ws≠[]->Q (.ref s.heap.objs.size) { s with heap:=s.heap.push { cls:=.type "tuple",data:=.seq (vs++ws).toArray } })
  (hsz:vs.length+ws.length<=sizeLine):wpAny (model prog w) A (binaryOp .Add (.ref t) (.ref b)) Q E s:=by
 obtain⟨⟨cls,dd,data,sl⟩,ho,hc,n,hd⟩:=id ht;obtain⟨⟨ab,W,aa,I⟩,B,U,n2,J⟩:=id hb;simp only at hc hd U J;subst hc hd U J
 have e:vs.toArray++ws.toArray=(vs++ws).toArray:=by simp
 by_cases Y:ws=[]
 ·exact concat_meets ⟨_,ho,rfl⟩ ⟨_,B,rfl⟩ noFill_tuple_add seq_tuple_add PySem.F.slot_tuple_add PySem.F.entry_tuple_add (PySem.F.args_tuple_add_2 _ _)
   (tuple_addW1 t b vs.toArray ws.toArray n n2 dd W sl I (by simpa using hv) (by simp[Y])) ⟨ho,B,h1 Y⟩
 ·refine concat_meets ⟨_, ho, rfl⟩ ⟨_, B, rfl⟩ noFill_tuple_add seq_tuple_add PySem.F.slot_tuple_add PySem.F.entry_tuple_add (PySem.F.args_tuple_add_2 _ _)
   (tuple_addW2 t b vs.toArray ws.toArray n n2 dd W sl I (by simpa using hv) (by simpa using Y) (by rw[zE,zE];exact hsz)) ⟨ho,B,?_⟩
  rw[e];exact h2 Y
def sIx(n d:Nat):Option Int->Nat
 |none=>d
 |some v=>if v<0 then(v+(n:Int)).toNat else min v.toNat n
def Jz(n d:Nat):sIx n d none=d:=rfl
def zf2(n d k:Nat):sIx n d (some (k:Int))=min k n:=by
 show(if (k:Int)<0 then((k:Int)+(n:Int)).toNat else min (k:Int).toNat n)=min k n
 rw[if_neg w5,Int.toNat_natCast]
def zV0(n d:Nat)(hd:d<=n)(o:Option Int):sIx n d o<=n:=by
 cases o with
 |none=>exact hd
 |some v=>
  show(if v<0 then(v+(n:Int)).toNat else min v.toNat n)<=n
  by_cases hv:v<0
  ·rw[if_pos hv];lia
  ·rw[if_neg hv];exact Nat.min_le_right _ _
def zp8(v:Int)(n d:Nat):(if v<0 then max (v+(n:Int)) 0 else min v (n:Int))=((sIx n d (some v):Nat):Int):=by
 show(if v<0 then max (v+(n:Int)) 0 else min v (n:Int))=(((if v<0 then(v+(n:Int)).toNat else min v.toNat n):Nat):Int)
 by_cases hv:v<0
 ·simp only[if_pos hv];lia
 ·simp only[if_neg hv];lia
def zc0(lo hi:Option Int)(n:Nat):Builtin.Slice.sliceAdjust lo hi 1 (n:Int)=(((sIx n 0 lo:Nat):Int),((sIx n n hi:Nat):Int)):=by
 have h1:¬ ((1:Int)<0):=w5
 unfold Builtin.Slice.sliceAdjust;simp only[h1,if_false];refine Prod.ext ?_ ?_
 ·cases lo with
  |none=>rfl
  |some v=>exact zp8 v n 0
 ·cases hi with
  |none=>rfl
  |some v=>exact zp8 v n n
def QP(i j:Nat):Builtin.Slice.slicePlaces (i:Int) (j:Int) 1=j-i:=by
 unfold Builtin.Slice.slicePlaces
 have h1:(1:Int) > 0:=w5
 simp only[h1,if_true,Int.ediv_one]
 split<;>lia
def Wm{v:Value}{o:Option Int}{Q:Option Int->Shared->Prop}(p:IsPart v o)(h:Q o s):wpAny (model prog w) A (Builtin.Slice.slicePartIndex v) Q E s:=by
 cases p with
 |none=>exact slicePart_none h
 |int i t=>exact slicePart_int h
def qW{W:Addr}{U J:Value}{lo hi:Option Int}{n:Nat}{Q:Int × Int × Nat->Shared->Prop}(hs:s.heap.IsSliceOf W U J .none)(pl:IsPart U lo)(Y:IsPart J hi)
  (h:Q (((sIx n 0 lo:Nat):Int),1,sIx n n hi-sIx n 0 lo) s):wpAny (model prog w) A (Builtin.Slice.sliceApplied (.ref W) (pure (n:Int))) Q E s:=by
 obtain⟨os,B,aa,I⟩:=id hs;unfold Builtin.Slice.sliceApplied Builtin.Slice.sliceFields;refine zb (zb (wo B I (x:=U) rfl (zb (wo B I (x:=J) rfl (zb (wo B I (x:=.none) rfl (ze ?_)))))));refine zb (slicePart_none ?_)
 show wpAny _ _ (if ((1:Int) == 0)=true then _ else _) _ _ s
 rw[if_neg w6]
 refine zb (Wm pl (zb (Wm Y (zb (ze ?_)))))
 show wpAny _ _ (match Builtin.Slice.sliceAdjust lo hi 1 (n:Int) with |(lo,hi)=>pure (lo,(1:Int),Builtin.Slice.slicePlaces lo hi 1)) _ _ s
 rw[zc0 lo hi n];show wpAny _ _ (pure (((sIx n 0 lo:Nat):Int),(1:Int),Builtin.Slice.slicePlaces ((sIx n 0 lo:Nat):Int) ((sIx n n hi:Nat):Int) 1)) _ _ s;rw[QP];exact ze h
def JM(xs:Array Value)(i k:Nat):((List.range k).filterMap fun(m:Nat)=>xs[((i:Int)+(m:Int)*1).toNat]?).toArray=((xs.toList.drop i).take k).toArray:=by
 have e:(fun(m:Nat)=>xs[((i:Int)+(m:Int)*1).toNat]?)=λm=>xs[i+m]?:=by
  funext m
  have:((i:Int)+(m:Int)*1).toNat=i+m:=w5
  rw[this]
 rw[e];have:=pick_run xs i k;rw[filterMap_map] at this;have B:((λx=>xs[x]?)∘λx=>i+x)=λm=>xs[i+m]?:=rfl;rw[B] at this;rw[this]
def Yb{t J:Addr}{items:Array Value}{vl vu:Value}{lo hi:Option Int}{Q:QqV}(I:IsTup s.heap t items)(hs:s.heap.IsSliceOf J vl vu .none)(pl:IsPart vl lo)(pu:IsPart vu hi)
  (hw:¬ (sIx items.size 0 lo=0/\sIx items.size items.size hi=items.size))
  (h:Q (.ref s.heap.objs.size) { s with heap:=s.heap.push { cls:=.type "tuple",data:=.seq ((items.toList.drop (sIx items.size 0 lo)).take (sIx items.size items.size hi-sIx items.size 0 lo)).toArray } })
  (hsz:items.size<=sizeLine):wpAny (model prog w) A (getItem (.ref t) (.ref J)) Q E s:=by
 have B:sizeOk (.seq ((items.toList.drop (sIx items.size 0 lo)).take (sIx items.size items.size hi-sIx items.size 0 lo)).toArray):=by
  show((items.toList.drop (sIx items.size 0 lo)).take (sIx items.size items.size hi-sIx items.size 0 lo)).toArray.size<=sizeLine;rw[zE,xl,wO,zj];lia
 have hj:sIx items.size items.size hi<=items.size:=zV0 _ _ (zk _) hi;obtain⟨os,U,Y,ab⟩:=id hs;have aa:s.TypeIs (.ref J) "slice" := ⟨os,U,Y⟩;unfold getItem
 try with_reducible refine wh ?_
 first |refine zb (ze ?_) |skip
 refine zb (wpAny_sequenceKey I.typeIs w6 ?_)
 refine zb (wx (name:=Str.ofString "__getitem__") I.typeIs PyProof.Rows.slot_tuple_getitem
  (wA PyProof.Rows.slot_tuple_getitem I.typeIs entry_tuple_getitem ?_ (args_tuple_getitem _ _)))
 show wpAny _ _ (Builtin.Tuple.tupleItemsOf (.ref t) >>= _) _ _ s;refine zb (tupleItemsOf_ I ?_);refine zb (wpAny_typeOf aa ?_)
 rw[if_pos w6]
 refine zb (qW hs pl pu ?_)
 have W:¬ ((((sIx items.size 0 lo:Nat):Int) == 0&&(1:Int) == 1&&(sIx items.size items.size hi-sIx items.size 0 lo) == items.size)=true):=by
  intro q;rw[xM,xM] at q;have q1:((sIx items.size 0 lo:Nat):Int)=0:=eq_of_beq q.1.1;have q2:sIx items.size items.size hi-sIx items.size 0 lo=items.size:=eq_of_beq q.2
  exact hw ⟨w5,w5⟩
 show wpAny _ _ (if (((sIx items.size 0 lo:Nat):Int) == 0&&(1:Int) == 1&&(sIx items.size items.size hi-sIx items.size 0 lo) == items.size)=true then _ else _) _ _ s
 rw[if_neg W,JM]
 first
  |exact zb (m:=Builtin.Tuple.tupleExact _) (xU (ze ⟨_,rfl,ze h⟩) B)
  |exact zb (m:=Builtin.Tuple.tupleExact _) (xU (zb (ze (ze ⟨_,rfl,ze h⟩))) B)
  |exact zb (zb (m:=Builtin.Tuple.tupleExact _) (xU (ze (ze ⟨_,rfl,ze h⟩)) B))
  |exact zb (zb (m:=Builtin.Tuple.tupleExact _) (xU (ze ⟨_,rfl,ze h⟩) B))
end
end HT
namespace L2
abbrev TO:=St->Hp->(Option Int->Hp->Prop)->Prop
def PO(X:Cx)(e:Option Expr)(t:TO):Prop:=
 ∀(B:QqL) (s:Shared) (σ:St) (H:Hp) (Q:Option Int->Hp->Prop),Inv X B σ H s->t σ H Q ->
  wpAny (model X.prog X.w) X.A (evalPart e X.env) (λu s'=>∃o H',Inv X B σ H' s'/\IsPart u o/\Q o H') X.xe s
def zG3:TO:=λ_ H Q=>Q none H
def xn6(t:TE):TO:=λσ H Q=>t σ H λx B=>∃i,x=.int i/\Q (some i) B
def jE{ns:List Int}:∀{us:QqW},Vals (ns.map V.int) us->IntsAre us ns:=by
 induction ns with
 |nil=>intro us r;rw[xx] at r;cases r;exact .nil
 | cons n ns J =>
  intro us r;rw[zz] at r
  cases r with
  |cons I B=>
   obtain⟨t,e⟩:=I;subst e;exact .cons n t (J B)
section
variable {X:Cx}{e:Expr}{te:TE}{lo hi:Option Expr}{tl th:TO}{pos p2:Pos}
def zK2:PO X none zG3:=by
 intro B s σ H Q I h;rw[evalPart_none];exact ze ⟨none,H,I,.none,h⟩
def zK1(h:PE X e te):PO X (some e) (xn6 te):=by
 intro B s σ H Q I W;rw[evalPart_some];refine thn (h B s σ H _ I W) λu s1 ⟨x,H1,Y,J,U⟩=>?_;obtain⟨i,rfl,q⟩:=U;obtain⟨t,rfl⟩:=J;exact⟨some i,H1,Y,.int i t,q⟩
def SlR(X:Cx)(r:V->Option Int->Option Int->Hp->VK->Prop):Prop:=
 ∀(B:QqL) (s:Shared) (σ:St) (H:Hp) (x:V) (v J I:Value) (lo hi:Option Int) (U:Addr) (Q:VK),Inv X B σ H s->RelV x v->s.heap.IsSliceOf U J I .none->IsPart J lo->IsPart I hi->r x lo hi H Q ->
  ∃T id,typeLookup (.type T) "__getitem__" = pure (some (.builtin id))/\s.TypeIs v T/\wpAny (model X.prog X.w) X.A (getItem v (.ref U)) (EP X B σ Q) X.xe s
def tSl(r:V->Option Int->Option Int->Hp->VK->Prop)(te:TE)(tl th:TO):TE:=λσ H Q=>te σ H λx J=>tl σ J λl I=>th σ I λu B=>r x l u B Q
def JP{r:V->Option Int->Option Int->Hp->VK->Prop}(hr:SlR X r)(he:PE X e te)(hl:PO X lo tl)(hu:PO X hi th):PE X (.Subscript e (.Slice lo hi none p2) pos) (tSl r te tl th):=by
 intro B s σ H Q I h;refine Subscript_ (thn (he B s σ H _ I h) λv s1 ⟨x,H1,I1,r1,q1⟩=>?_);refine wpAny_Slice (thn (hl B s1 σ H1 _ I1 q1) λW s2 ⟨l,H2,I2,pl,q2⟩=>thn (hu B s2 σ H2 _ I2 q2) λU J ⟨u,Y,I3,pu,q3⟩=>?_);rw[evalPart_none];refine ze ?_;have I4:Inv X B σ Y { J with heap:=J.heap.push { cls:=.type "slice",data:=.fields #[W,U,.none] } }:=I3.kept (t':=J.toks) λb ob q=>zd _ q;obtain⟨T,id,hT,ht,hg⟩:=hr B { J with heap:=J.heap.push { cls:=.type "slice",data:=.fields #[W,U,.none] } } σ Y x v W U l u J.heap.objs.size Q I4 r1 (Heap.IsSliceOf.new ..) pl pu q3;show wpAny (model X.prog X.w) X.A (subscriptTail e (.Slice lo hi none p2) v (.ref J.heap.objs.size)) (EP X B σ Q) X.xe { J with heap:=J.heap.push { cls:=.type "slice",data:=.fields #[W,U,.none] } }
 exact tail_any (ops:=[.ref J.heap.objs.size,v]) ht hT hg (by with_unfolding_all rfl)
def zA4(xs:List V)(lo hi:Option Int):List V:=(xs.drop (HT.sIx xs.length 0 lo)).take (HT.sIx xs.length xs.length hi-HT.sIx xs.length 0 lo)
def XG(xs:List V)(lo hi:Option Int):(zA4 xs lo hi).length<=xs.length:=by
 unfold zA4;rw[xl,wO];lia
def xK9(K:W.Frag):V->Option Int->Option Int->Hp->VK->Prop:=λx lo hi H Q=>∃a xs,x=.ref a/\SqT K H a xs /\
 ¬ (HT.sIx xs.length 0 lo=0/\HT.sIx xs.length xs.length hi=xs.length)/\∀p,H p=none->Q (.ref p) (upd H p (.tup (zA4 xs lo hi)))
def zU1:SlR X (xK9 X.K):=by
 intro J s σ H x v vl vu lo hi sl Q I Y hs pl pu h;obtain⟨a,xs,rfl,hx,hw,q⟩:=h;cases Y;obtain⟨its,r,W,U⟩:=I.tuple hx
 have B:its.toArray.size=xs.length:=by rw[zE];exact r.length.symm
 refine⟨"tuple",_,PyProof.Rows.slot_tuple_getitem.lookup,W.typeIs,?_⟩
 refine HT.Yb W hs pl pu (by rw[B];exact hw) ?_ (by rw[B];exact U)
 rw[B];refine⟨.ref s.heap.objs.size,_,I.laid (t':=s.toks) (o:=.tup (zA4 xs lo hi)) (λb ob q=>zd _ q) (zk _) ?_,rfl,q _ (I.hok.fresh (zk _))⟩;exact⟨zF (XG xs lo hi) U,_,(r.drop (HT.sIx xs.length 0 lo)).take (HT.sIx xs.length xs.length hi-HT.sIx xs.length 0 lo),IsTup.new _ _⟩
def xq3(K:W.Frag):R2:=λx y H Q=>∃a b xs B,x=.ref a/\y=.ref b/\SqT K H a xs/\SqT K H b B/\xs≠[]/\xs.length+B.length<=sizeLine /\
 (B=[]->Q (.ref a) H)/\(B≠[]->∀p,H p=none->Q (.ref p) (upd H p (.tup (xs++B))))
def Vals.nil_iff{xs:List V}{us:QqW}(r:Vals xs us):us=[]↔xs=[]:=by
 cases r with
 |nil=>simp
 |cons _ _=>simp
def zM3:OpR X (binaryOp .Add) (xq3 X.K):=by
 intro U s σ H x y v u Q I rx ry h;obtain⟨a,b,xs,ys,rfl,rfl,ha,hb,hx,Y,q1,q2⟩:=h;cases rx;cases ry;obtain⟨its,J,p1,_⟩:=I.tuple ha;obtain⟨W,B,p2,_⟩:=I.tuple hb
 refine HT.zQ8 p1 p2 (λz=>hx (J.nil_iff.mp z)) (λz=>⟨.ref a,H,I,rfl,q1 (B.nil_iff.mp z)⟩) (λz=>?_) (by rw[<- J.length,<- B.length];exact Y)
 refine⟨.ref s.heap.objs.size,_,I.laid (t':=s.toks) (o:=.tup (xs++ys)) (λb ob q=>zd _ q) (zk _) ?_,rfl,q2 (λw=>z (B.nil_iff.mpr w)) _ (I.hok.fresh (zk _))⟩
 exact⟨by rw[zD];exact Y,_,J.append B,IsTup.new _ _⟩
end
def ixN(n:Nat)(i:Int):Option Nat:=if 0<=i then(if i<n then some i.toNat else none) else if -(n:Int)<=i then some (i+n).toNat else none
def atI{α:Type}(xs:List α)(i:Int):Option α:=(ixN xs.length i).bind λj=>xs[j]?
def zl7{n:Nat}{i:Int}{j:Nat}(h:ixN n i=some j):seqIndex? i n=some j/\j<n/\-(n:Int)<=i/\i<n:=by
 unfold ixN at h
 by_cases B:0<=i
 ·rw [if_pos B] at h
  by_cases h1:i<n
  ·rw [if_pos h1] at h;have e:i.toNat=j:=zN h
   exact⟨by rw[seqIndex_of B h1,e],w5,w5,h1⟩
  ·rw[if_neg h1] at h;cases h
 ·rw [if_neg B] at h
  by_cases h1:-(n:Int)<=i
  ·rw [if_pos h1] at h;have e:(i+n).toNat=j:=zN h
   exact⟨by rw[seqIndex_neg w5 h1,e],w5,h1,w5⟩
  ·rw[if_neg h1] at h;cases h
def Jh{α:Type}{xs:List α}{i:Int}{v:α}(h:atI xs i=some v):∃j,seqIndex? i xs.length=some j/\xs[j]?=some v/\j<xs.length/\-(xs.length:Int)<=i/\i<xs.length:=by
 unfold atI at h
 cases e:ixN xs.length i with
 |none=>rw[e] at h;cases h
 |some j=>
  rw[e] at h;obtain⟨h1,h2,h3,h4⟩:=zl7 e;exact⟨j,h1,h,h2,h3,h4⟩
def XO{α:Type}{xs:List α}{j:Nat}{v:α}(h:xs[j]?=some v):atI xs (j:Int)=some v:=by
 have hj:j<xs.length:=(zT.mp h).1
 have e:ixN xs.length (j:Int)=some j:=by
  unfold ixN
  rw[if_pos w5,if_pos w5];simp
 unfold atI;rw[e];exact h
def Ji(b:Expr):Prop:=∀o i,subscripted b false o i=operate [o,i] (getItem o i)
def IxR(X:Cx)(r:R2):Prop:=
 ∀(J B:Expr) (I:QqL) (s:Shared) (σ:St) (H:Hp) (x y:V) (v u:Value) (Q:VK),Inv X I σ H s->RelV x v->RelV y u->r x y H Q ->
  subscripted B false v u=operate [v,u] (getItem v u)->wpAny (model X.prog X.w) X.A (subscriptTail J B v u) (EP X I σ Q) X.xe s
def MtR(X:Cx)(id:String)(r:V->List V->Hp->VK->Prop):Prop:=
 ∀(B:QqL) (s:Shared) (σ:St) (H:Hp) (x:V) (xs:List V) (v:Value) (us:QqW) (Q:VK),Inv X B σ H s->RelV x v->Vals xs us->r x xs H Q ->
  wpAny (model X.prog X.w) X.A (call (.builtin id) (v::us)) (EP X B σ Q) X.xe s
section
variable {X:Cx}{a b:Expr}{ta tb:TE}{pos:Pos}
def IxR.or{r r':R2}(h:IxR X r)(h':IxR X r'):IxR X (λx y H Q=>r x y H Q\/r' x y H Q):=by
 intro B J U s σ H x y v u Q I Y W q hs
 rcases q with q |q
 ·exact h B J U s σ H x y v u Q I Y W q hs
 ·exact h' B J U s σ H x y v u Q I Y W q hs
def zZ3{r:R2}(hr:IxR X r)(ha:PE X a ta)(hb:PE X b tb)(Y:Ji b):PE X (.Subscript a b pos) (tOp r ta tb):=by
 intro B s σ H Q I h;exact Subscript_ (xA9 ha hb I h λv u J x y H2 I2 W U q=>hr a b B J σ H2 x y v u Q I2 W U q (Y _ _))
def xC3(K:W.Frag):R2:=λx y H Q=>∃p xs i v,x=.ref p/\y=.int i/\SqL K H p xs/\atI xs i=some v/\Q v H
def xC1(K:W.Frag):R2:=λx y H Q=>∃p xs i v,x=.ref p/\y=.int i/\SqT K H p xs/\atI xs i=some v/\Q v H
def xC2:R2:=λx y H Q=>∃z i c,x=.str z/\y=.int i/\z.length<=sizeLine/\atI z.cps.toList i=some c/\Q (.str ⟨#[c]⟩) H
def zl6:IxR X (xC3 X.K):=by
 intro J U B s σ H x y v u Q I rx ry h W;obtain⟨p,xs,i,z,rfl,rfl,hq,he,q⟩:=h;cases rx;obtain⟨t,rfl⟩:=ry;obtain⟨its,r,pl,hz⟩:=I.list hq;obtain⟨j,h1,h2,h3,h4,h5⟩:=Jh he;obtain⟨w,ew,rw'⟩:=r.get h2;have hl:=r.length;have hn:=Uv;have fin:EP X B σ Q w s:=⟨z,H,I,rw',q⟩
 by_cases Y:0<=i
 ·have hj : i.toNat = j := by
   rw[seqIndex_of Y h5] at h1;exact zN h1
  exact item_listR pl.isList Y w5 (by rw[hj];simpa using ew) fin W
 ·have hj : (i + (its.toArray.size : Int)).toNat = j := by
   rw[seqIndex_neg w5 h4] at h1
   rw[zE,<- hl];exact zN h1
  exact subscriptTail_builtinR (x:=w) pl.isList.typeIs slot_list_getitem.lookup
   (wpAny_getItem_list_neg (Q:=λr s'=>r=w/\EP X B σ Q r s') pl.isList w5 (by rw[zE]<;>lia) w5 (by rw[hj];simpa using ew) ⟨rfl,fin⟩) W
def xd9:IxR X (xC1 X.K):=by
 intro J U B s σ H x y v u Q I Y W h hs;obtain⟨p,xs,i,z,rfl,rfl,hq,he,q⟩:=h;cases Y;obtain⟨t,rfl⟩:=W;obtain⟨its,r,pl,hz⟩:=I.tuple hq;obtain⟨j,h1,h2,h3,h4,h5⟩:=Jh he;obtain⟨w,ew,rw'⟩:=r.get h2;have hl:=r.length;have hn:=Uv;have fin:EP X B σ Q w s:=⟨z,H,I,rw',q⟩
 exact subscriptTail_builtinR (x:=w) pl.typeIs slot_tuple_getitem.lookup
  (getItem_tuple (j:=j) (Q:=λr s'=>r=w/\EP X B σ Q r s') pl w5 w5 (by rw[zE,<- hl];exact h1) (by simpa using ew) ⟨rfl,fin⟩) hs
def xe0:IxR X xC2:=by
 intro B J U s σ H x y v u Q I Y W h hs;obtain⟨z,i,c,rfl,rfl,hz,he,q⟩:=h;obtain⟨t,rfl⟩:=Y;obtain⟨t',rfl⟩:=W;obtain⟨j,h1,h2,h3,h4,h5⟩:=Jh he
 have hl:z.cps.toList.length=z.length:=by simp[Str.length]
 rw[hl] at h1 h4 h5;have hn:=Uv
 exact tail_any (typeIs_str s z t) slot_str_getitem.lookup (getItem_str (c:=c) (by
  have e1:decide (i < -(2^63:Int))=false:=xf w5
  have e2:decide (i>=2^63)=false:=xf w5
  rw[e1,e2,Bool.or_false]) (by rw[h1];simpa using h2) ⟨.str ⟨#[c]⟩,H,I.tok _,⟨_,rfl⟩,q⟩) hs
def rIx(K:W.Frag):R2:=λx y H Q=>xC3 K x y H Q\/xC1 K x y H Q\/xC2 x y H Q
def kX:IxR X (rIx X.K):=zl6.or (xd9.or xe0)
def za1(its:QqW)(n j:Nat)(u:Value):Obj.mapSeq (·.setIfInBounds j u) { cls:=.type "list",data:=.seq its.toArray n }={ cls:=.type "list",data:=.seq (its.set j u).toArray n }:=by
 simp[Obj.mapSeq]
def Inv.lst{B:QqL}{σ:St}{H:Hp}{s:Shared}{p:Addr}{xs:List V}(I:Inv X B σ H s)(h:H p=some (.lst xs)) :
  ∃(its:QqW) (n:Nat),Vals xs its/\s.heap.get? p=some { cls:=.type "list",data:=.seq its.toArray n }/\xs.length<=sizeLine:=by
 obtain⟨z,its,n,r,e⟩:=I.hok p _ h;exact⟨its,n,r,e,z⟩
def Inv.lstUpd{B:QqL}{σ:St}{H:Hp}{s:Shared}{p:Addr}{xs J:List V}{its its':QqW}{n n':Nat}{f:Obj->Obj}(I:Inv X B σ H s)(h:H p=some (.lst xs))
  (Y:s.heap.get? p=some { cls:=.type "list",data:=.seq its.toArray n }) (U:f { cls:=.type "list",data:=.seq its.toArray n }={ cls:=.type "list",data:=.seq its'.toArray n' }) (r:Vals J its') (W:J.length<=sizeLine) (t:Nat) :
  Inv X B σ (upd H p (.lst J)) { s with heap:=s.heap.update p f,toks:=t }:=by
 have e:(s.heap.update p f).get? p=some { cls:=.type "list",data:=.seq its'.toArray n' }:=by
  rw[Heap.get?_update_self f Y (by rw[U]<;>rfl),U]
 refine I.write (x:=p) (e:=p) (by rw[h];trivial) (.inl rfl) (λb u hb q=>(Heap.get?_update_other _ _ (Ne.symm hb)).trans q) ⟨_,e⟩ ?_
 exact⟨W,its',n',r,e⟩
def xq1:V->V->V->Hp->(Hp->Prop)->Prop:=λo i v H Q=>∃p xs k j,o=.ref p/\i=.int k/\H p=some (.lst xs)/\ixN xs.length k=some j/\Q (upd H p (.lst (xs.set j v)))
def zs7:xI5 X xq1:=by
 intro B s σ H o i v ov iv u Q I ro ri rv h;obtain⟨p,xs,k,j,rfl,rfl,Y,hj,q⟩:=h;cases ro;obtain⟨t,rfl⟩:=ri;obtain⟨its,n,r,J,hz⟩:=I.lst Y;obtain⟨h1,h2,h3,h4⟩:=zl7 hj;have U:=r.length;have hn:=Uv
 have I':Inv X B σ (upd H p (.lst (xs.set j v))) { s with heap:=s.heap.update p (Obj.mapSeq (·.setIfInBounds j u)) }:=
  I.lstUpd Y J (za1 its n j u) (r.set rv j) (by rw[length_set];exact hz) s.toks
 by_cases h0:0<=k
 ·have hk : k.toNat = j := by
   rw[seqIndex_of h0 h4] at h1;exact zN h1
  exact W.ki_setAt J h0 w5 (by rw[zE,<- U];exact h4) (by rw[hk];exact⟨_,I',q⟩)
 ·have hk : (k + (its.toArray.size : Int)).toNat = j := by
   rw[seqIndex_neg w5 h3] at h1
   rw[zE,<- U];exact zN h1
  exact W.ki_setBack J w5 (by rw[zE,<- U];exact h3) w5 (by rw[hk];exact⟨_,I',q⟩)
def VJ(lo hi:Option Int)(n:Nat):(sliceBounds lo hi none n).1=((HT.sIx n 0 lo:Nat):Int)/\(sliceBounds lo hi none n).2.1=((HT.sIx n n hi:Nat):Int)/\(sliceBounds lo hi none n).2.2=1:=by
 refine⟨?_,?_,rfl⟩
 ·cases lo with
  |none=>simp[sliceBounds,HT.sIx]
  |some i=>
   simp only[sliceBounds,HT.sIx,Option.getD_none,show(1:Int) > 0 by decide,if_true]
   by_cases h:i<0
   ·simp only[h,if_true]<;>lia
   ·simp only[h,if_false]<;>lia
 ·cases hi with
  |none=>simp[sliceBounds,HT.sIx]
  |some i=>
   simp only[sliceBounds,HT.sIx,Option.getD_none,show(1:Int) > 0 by decide,if_true]
   by_cases h:i<0
   ·simp only[h,if_true]<;>lia
   ·simp only[h,if_false]<;>lia
def WM(its:QqW)(lo hi:Option Int):slicePick its.toArray lo hi none=((its.drop (HT.sIx its.length 0 lo)).take (HT.sIx its.length its.length hi-HT.sIx its.length 0 lo)).toArray:=by
 obtain⟨h1,h2,h3⟩:=VJ lo hi its.toArray.size;unfold slicePick;rw[h1,h2,h3]
 simp only[sliceRange_one,pick_run,zE]<;>rfl
def xL0(K:W.Frag):V->Option Int->Option Int->Hp->VK->Prop:=λx lo hi H Q=>∃a xs,x=.ref a/\SqL K H a xs/\∀p,H p=none->Q (.ref p) (upd H p (.lst (zA4 xs lo hi)))
def zG8:SlR X (xL0 X.K):=by
 intro J s σ H x v vl vu lo hi sl Q I W hs pl Y h;obtain⟨a,xs,rfl,hx,q⟩:=h;cases W;obtain⟨its,r,U,hz⟩:=I.list hx;have B:=r.length;refine⟨"list",_,slot_list_getitem.lookup,U.isList.typeIs,?_⟩
 refine wpAny_getItem_list_slice U.isList hs pl Y .none (by simp) ?_ (by rw[zE]<;>lia)
 rw[WM,<- B];refine⟨.ref s.heap.objs.size,_,I.laid (t':=s.toks) (o:=.lst (zA4 xs lo hi)) (λb ob q=>zd _ q) (zk _) ?_,rfl,q _ (I.hok.fresh (zk _))⟩;exact⟨zF (XG xs lo hi) hz,_,0,(r.drop (HT.sIx xs.length 0 lo)).take (HT.sIx xs.length xs.length hi-HT.sIx xs.length 0 lo),zu _ rfl⟩
def wu:qC X (.builtin "len") (λxs H Q=>∃p J,xs=[.ref p]/\(SqL X.K H p J\/SqT X.K H p J)/\Q (.int J.length) H):=by
 intro W s σ H xs us Q I r h;obtain⟨p,J,rfl,U,q⟩:=h;obtain⟨u,rfl,Y⟩:=YG r;cases Y;have hn:=Uv
 rcases U with U |U
 ·obtain ⟨its, r', pl, hz⟩ := I.list U;have B:=r'.length
  exact Calls.call_len_list pl.isList (by simp only[zE]<;>lia) ⟨.int J.length,H,I.tok _,⟨s.toks+1,by rw[zE,B]⟩,q⟩
 ·obtain ⟨its, r', pl, hz⟩ := I.tuple U;have B:=r'.length
  exact len_tuple pl (by simp only[zE]<;>lia) ⟨.int J.length,H,I.tok _,⟨s.toks+1,by rw[zE,B]⟩,q⟩
def wJ:qC X (.type "tuple") (λxs H Q=>∃p J,xs=[.ref p]/\((SqL X.K H p J/\∀l,H l=none->Q (.ref l) (upd H l (.tup J)))\/(SqT X.K H p J/\Q (.ref p) H))):=by
 intro B s σ H xs us Q I r h;obtain⟨p,J,rfl,h⟩:=h;obtain⟨u,rfl,rx⟩:=YG r;cases rx
 rcases h with ⟨U,q⟩ |⟨U,q⟩
 ·obtain ⟨its, r', pl, W⟩ := I.list U;have Y:=r'.length
  refine call_tuple_list pl.isList (λh' kp=>?_) (by simp only[zE]<;>lia)
  have I1:Inv X B σ H { s with heap:=h' }:=I.kept (t':=s.toks) kp
  have I2:Inv X B σ (upd H h'.objs.size (.tup J)) { s with heap:=h'.push { cls:=.type "tuple",data:=.seq its.toArray } }:=
   I1.laid (t':=s.toks) (λb o e=>zd _ e) (zk _) (show ObjOk X.prog X.w _ _ _ (.tup J) from⟨W,its,r',IsTup.new _ _⟩)
  exact⟨.ref h'.objs.size,_,I2,rfl,q _ (I1.hok.fresh (zk _))⟩
 ·obtain⟨its,r',pl,W⟩:=I.tuple U;exact call_tuple_same pl ⟨.ref p,H,I,rfl,q⟩
def tyV(K:W.Frag)(T:String)(x:V)(H:Hp):Prop:=match x with
 |.str _=>T = "str"
 |.int _=>T = "int"
 | .ref p => (T = "list" /\ ∃ xs, SqL K H p xs) \/ (T = "tuple" /\ ∃ o, K.lookup p = some o /\ o.cls = .type "tuple" /\ o.dict = none) \/
   (T = "dict" /\ ((∃kvs,H p=some (.dK kvs))\/∃kvs,H p=some (.dT kvs)))\/(T = "set" /\ ∃S n,H p=some (.set S n))
 |_=>False
def zB1{B:QqL}{σ:St}{H:Hp}{s:Shared}{T:String}{x:V}{v:Value}(I:Inv X B σ H s)(r:RelV x v)(ty:tyV X.K T x H) :
  s.TypeIs v T/\∀a,v=.ref a->∃U,s.heap.get? a=some U/\U.dict=none:=by
 cases x with
 |str z=>
  obtain⟨t,rfl⟩:=r;cases(show T = "str" from ty)
  exact⟨typeIs_str s z t,λ_ e=>nomatch e⟩
 |int i=>
  obtain⟨t,rfl⟩:=r;cases(show T = "int" from ty)
  exact⟨typeIs_int s i t,λ_ e=>nomatch e⟩
 | ref p =>
  cases r
  rcases ty with ⟨rfl,xs,W⟩ |⟨rfl,o,hk,Y,hd⟩ |⟨rfl,hk⟩ |⟨rfl,S,n,hk⟩
  ·obtain⟨its,_,pl,_⟩:=I.list W;refine⟨pl.isList.typeIs,λa e=>?_⟩;cases e;obtain⟨o,n,e,c,hd,_⟩:=pl;exact⟨o,e,hd⟩
  ·refine⟨⟨o,I.kIn p o hk,Y⟩,λa e=>?_⟩;cases e;exact⟨o,I.kIn _ o hk,hd⟩
  ·have z : ∃ o, s.heap.get? p = some o /\ o.ExactDict := by
    rcases hk with ⟨kvs,hk⟩ |⟨kvs,hk⟩
    ·obtain⟨_,_,_,_,o,_,_,e,ex,_⟩:=I.hok p _ hk;exact⟨o,e,ex⟩
    ·obtain⟨_,_,_,_,o,_,_,e,ex,_⟩:=I.hok p _ hk;exact⟨o,e,ex⟩
   obtain⟨o,e,ex⟩:=z;refine⟨⟨o,e,ex.1⟩,λa J=>?_⟩;cases J;exact⟨o,e,ex.2.1⟩
  ·obtain⟨o,_,_,_,e,ex,_⟩:=I.hok p _ hk;refine⟨⟨o,e,ex.1⟩,λa J=>?_⟩;cases J;exact⟨o,e,ex.2.1⟩
 |_=>exact False.elim ty
def xK1(K:W.Frag)(T:String)(r:V->List V->Hp->VK->Prop)(to:TE):TE:=λσ H Q=>to σ H λx B=>tyV K T x B/\r x [] B Q
def tBM(K:W.Frag)(T:String)(r:V->List V->Hp->VK->Prop)(to:TE)(t:TA):TE:=λσ H Q=>to σ H λx B=>tyV K T x B/\t σ B λxs I=>r x xs I Q
variable {o e:Expr}{es:List Expr}{to:TE}{t:TA}{name:Str}{apos cpos:Pos}{T id:String}{r:V->List V->Hp->VK->Prop}
def zZ6(pa:PlainAttrs T)(slot:Slot T name id)(W:typeOf (.builtin id)=pure (.type "method_descriptor"))(hm:MtR X id r)(ho:PE X o to)
  (U:attributeBase o name X.env (eval o X.env)=eval o X.env:=by rfl) (J:(apos.endLine == cpos.line)=true:=by rfl):PE X (.Call (.Attribute o name apos) [] [] cpos) (xK1 X.K T r to):=by
 intro B s σ H Q I h;refine wpAny_Call_method0_late U J (thn (ho B s σ H _ I h) λv s1 ⟨x,H1,I1,Y,ty,q1⟩=>?_);obtain⟨h1,h2⟩:=zB1 I1 Y ty;exact⟨T,id,pa,slot,W,h1,h2,Calls.callWith_builtin rfl (PySem.evalArgs_none (hm B s1 σ H1 x [] v [] Q I1 Y .nil q1))⟩
def xy2(pa:PlainAttrs T)(slot:Slot T name id)(aa:typeOf (.builtin id)=pure (.type "method_descriptor"))(hm:MtR X id r)(ho:PE X o to)(ha:PA X (e::es) t)
  (W:attributeBase o name X.env (eval o X.env)=eval o X.env:=by rfl)
  (Y : ((backTo cpos (starEach (e :: es) X.env)).all (λx => !x.1) && (backToKw cpos (keywordEach [] X.env)).all (λx => x.1.isSome)
   && decide ((e::es).length+([]:List Keyword).length+(if ([]:List Keyword).isEmpty then 0 else 1)<30))=true:=by rfl)
  (U:(apos.endLine == cpos.line)=true:=by rfl) (hs:starEach (e::es) X.env=(false,eval e X.env)::starEach es X.env:=by rfl) (J:(backTo cpos (starEach es X.env)).any (·.1)=false:=by rfl) :
  PE X (.Call (.Attribute o name apos) (e::es) [] cpos) (tBM X.K T r to t):=by
 intro B s σ H Q I h;refine wpAny_Call_method_late W Y U rfl (thn (ho B s σ H _ I h) λv s1 ⟨x,H1,I1,r1,ty,q1⟩=>?_);obtain⟨h1,h2⟩:=zB1 I1 r1 ty;refine⟨T,id,pa,slot,aa,h1,h2,?_⟩;have hA:=ha cpos B s1 σ H1 _ I1 q1;rw[hs] at hA ⊢
 refine Calls.callWith_builtin (by show(false||(backTo cpos (starEach es X.env)).any (·.1))=false;rw[J]<;>rfl) (Calls.evalArgs_plain ?_)
 exact thn hA λus s2 ⟨vs,H2,I2,r2,q2⟩=>hm B s2 σ H2 x vs v us Q I2 r1 r2 q2
end
def MtM(X:Cx)(id:String)(r:V->List V->Hp->VK->Prop):Prop:=
 ∀(B:QqL) (s:Shared) (σ:St) (H:Hp) (x:V) (xs:List V) (v:Value) (us:QqW) (Q:VK),Inv X B σ H s->RelV x v->Vals xs us->r x xs H Q ->
  wpAny (model X.prog X.w) X.A (call (.builtin id) (v::us)) (EP X B σ Q) X.xe s
theorem Vals.one:∀{x:V}{us:QqW},Vals [x] us->∃u,us=[u]/\RelV x u
 |_,_,.cons r .nil=>⟨_,rfl,r⟩
def Vals.reverse{xs:List V}{us:QqW}(h:Vals xs us):Vals xs.reverse us.reverse:=by
 induction h with
 |nil=>exact .nil
 |cons r t B=>rw[reverse_cons,reverse_cons];exact Vals.append B (.cons r .nil)
section
variable {X:Cx}{pins:QqL}{σ:St}{H:Hp}{s:Shared}{l b:Addr}{xs ys zs:List V}
def Inv.lset{its its':QqW}{n:Nat}{f:Array Value->Array Value}{t':Nat}(I:Inv X pins σ H s)(Y:H l=some (.lst xs))
  (e:s.heap.get? l=some { cls:=.type "list",data:=.seq its.toArray n }) (U:f its.toArray=its'.toArray) (hv:Vals ys its') (B:ys.length<=sizeLine) :
  Inv X pins σ (upd H l (.lst ys)) { s with heap:=s.heap.update l (Obj.mapSeq f),toks:=t' }:=by
 have q:=PySem.IsL.update e f;rw[U] at q
 refine I.write (x:=l) (e:=l) (by rw[Y];exact trivial) (.inl rfl) (λb' u W J=>(Heap.get?_update_other s.heap (Obj.mapSeq f) (Ne.symm W)).trans J) ⟨_,q⟩ ?_
 exact⟨B,its',_,hv,q⟩
def Inv.lnew{its:QqW}{t':Nat}(I:Inv X pins σ H s)(hv:Vals ys its)(B:ys.length<=sizeLine) :
  Inv X pins σ (upd H s.heap.objs.size (.lst ys)) { s with heap:=s.heap.push { cls:=.type "list",data:=.seq its.toArray },toks:=t' }:=
 I.laid (λ_ _ q=>zd _ q) (zk _) ⟨B,its,0,hv,zu _ rfl⟩
def Inv.fresh(I:Inv X pins σ H s):H s.heap.objs.size=none:=I.hok.fresh (zk _)
def Inv.lstM(I:Inv X pins σ H s)(B:H l=some (.lst xs)):xs.length<=sizeLine/\∃(its:QqW) (n:Nat),Vals xs its/\xs.length=its.length/\s.heap.get? l=some { cls:=.type "list",data:=.seq its.toArray n }:=by
 obtain⟨z,its,n,r,e⟩:=I.hok l _ B;exact⟨z,its,n,r,r.length,e⟩
end
section
variable {X:Cx}
def zI5:V->List V->Hp->VK->Prop:=λx vs H Q=>∃l xs y,x=.ref l/\vs=[y]/\H l=some (.lst xs)/\xs.length<sizeLine/\Q .non (upd H l (.lst (xs++[y])))
def zj2:MtM X "list.append" zI5:=by
 intro B s σ H x vs v us Q I U rv h;obtain⟨l,xs,y,rfl,rfl,J,Y,q⟩:=h;cases U;obtain⟨u,rfl,W⟩:=rv.one;obtain⟨z,its,n,r,hl,e⟩:=I.lstM J
 refine call_meets F.slot_list_append ⟨_,e,rfl⟩ F.entry_list_append (F.args_list_append_2 _ _) (PySem.list_append l its.toArray n u (by rw[zE];lia)) ⟨e,?_⟩
 refine⟨.non,_,I.lset (its':=its++[u]) J e (by simp) (r.append (.cons W .nil)) ?_,rfl,q⟩
 rw[zD,List.length_singleton];lia
def xC7:R2:=λx y H Q=>∃l b xs B,x=.ref l/\y=.ref b/\H l=some (.lst xs)/\H b=some (.lst B)/\xs.length+B.length<=sizeLine/\∀p,H p=none->Q (.ref p) (upd H p (.lst (xs++B)))
def zD5:OpR X (binaryOp .Add) xC7:=by
 intro J s σ H x y v u Q I W U h;obtain⟨l,b,xs,zs,rfl,rfl,hH,hB,hz,q⟩:=h;cases W;cases U;obtain⟨z,its,n,r,hl,e⟩:=I.lstM hH;obtain⟨z2,B,n2,Y,aa,e2⟩:=I.lstM hB
 refine PySem.P.add_list e e2 ?_ (by rw[zE,zE];lia)
 have ea:its.toArray++B.toArray=(its++B).toArray:=by simp
 rw[ea]
 exact⟨.ref _,_,I.lnew (t':=s.toks) (r.append Y) (by rw[zD];lia),rfl,q _ I.fresh⟩
end
section
variable {prog:Program}{w:World}{A:Around}{E:QqV}{s:Shared}
end
section
variable {X:Cx}
end
end L2
namespace Att
open PySem PySem.W PySem.Calls PyProof.Rows
def Xy{P:Params}{h:Heap}:∀(ns:List Int) (vs:QqW),WellAll P h vs (ns.map WData.int)->IntsAre vs ns:=by
 intro ns
 induction ns with
 |nil=>
  intro vs w;rw[xx] at w;cases w;exact .nil
 | cons n ns B =>
  intro vs w;rw[zz] at w
  cases w with
  |cons a b=>
   cases a;exact .cons _ _ (B _ b)
def zf1{l:OpenLaw}{n:Nat}(hn:l.most=some n){P:Params}{h:Heap}{args:List WData}{B:QqW}
  (I:l.row.toRowW.claim.pre args=true) (W:WellAll P h B args) :
  ∃a vs ns,B=[Value.ref a]/\args=[WData.list (ns.map WData.int)]/\h.get? a=some { cls:=.type "list",data:=.seq vs.toArray }/\IntsAre vs ns/\ns.length<=n:=by
 have Y:WShape.hasAll [] args [.list .int]=true:=(pre_splitW I).1;have hc:l.pre.holds [] { args:=args }=true:=(pre_splitW I).2;obtain⟨d,r,rfl,h1,h2⟩:=hasAllW_cons Y;obtain rfl:=hasAllW_nil h2;obtain⟨xs,rfl,h3⟩:=hasW_list h1;obtain⟨ns,rfl⟩:=items_int h3
 have J:ns.length<=n:=by
  unfold OpenLaw.pre at hc
  have h4:(WTm.not (.lt (.lit (.int (n:Int))) (.len (.arg 0)))).holds [] { args:=[.list (ns.map .int)] }=true:=by
   have h4:=(holds_andW hc).1;rw[hn] at h4;exact h4
  have h5:=condW_of h4 (w_not (w_lt w_lit (w_len_list (w_arg rfl))));rw[zh] at h5;refine ya λq=>?_
  have q':(n:Int)<((ns.length:Nat):Int):=w5
  first
   |(rw[xN q'] at h5;exact absurd h5 w6)
   |(simp at h5;lia)
 cases W with
 |cons w1 w2=>
  cases w2
  cases w1 with
  |list ho U=>exact⟨_,_,ns,rfl,rfl,ho,Xy ns _ U,J⟩
def zg9(l:OpenLaw)(args:List WData):l.row.toRowW.claim.post args (.bool true) args=true:=
 postW_of (r:=l.row.toRowW) (X:=(true == true))
  (show WShape.has [] (.bool true) .bool=true by first |rfl |decide |simp[WShape.has,WShape.arms,WShape.armsAll])
  (show(WTm.eq .res (.lit (.bool true))).value [] { args:=args,res:=some (.bool true),after:=args }=some (.bool (true == true)) from w_eq_bool (w_res rfl) w_lit) rfl
def attach_call{l:OpenLaw}{n:Nat}{q:Program}{loose:List Str}{XP:(Str->Option Value)->Heap->Prop}{YP:World->Heap->Prop}{d:DefRec}
  (hn:l.most=some n) (ad:d.params.defaults=[])
  (call : ∀ (w : World) (s₀ B : Shared) (mg mb : Str -> Option Value) (fa : Addr) (o : Obj) (pm cd J : Value) (a : Addr) (vs : List Value) (ns : List Int),
   Ground q loose [] XP w s₀ mg mb B.heap->YP w B.heap ->
   B.heap.get? fa=some o->o.data=.func (docDef d.name d.params d.body d.scope pm cd J)->B.heap.CodeRec cd d.name->mg d.name=some (.ref fa) ->
   B.heap.get? a=some { cls:=.type "list",data:=.seq vs.toArray }->IntsAre vs ns->ns.length<=n->B.gens=#[] ->
   codeAny (model l.prog w) callerA (.call (.ref fa) ⟨[.ref a],[]⟩) (λr s'=>r=.ok (.ret (.bool true))/\OldK B.heap s'.heap/\s'.os=B.os/\AllBare s'.gens) B) :
  WalkO q loose XP YP l.row.toRowW d [] (λf vs=>PySem.call f vs):=by
 intro w s₀ B mg mb G Y fa o pm cd J dV kV ho hd ae hD ac hg args af as U ag ah ab ai;obtain rfl:dV=.none:=Dflts.none hD ad;obtain rfl:kV=.none:=Dflts.noKw hD;obtain⟨a,vs,ns,rfl,rfl,W,I,aa⟩:=zf1 hn U ab;refine enter_call (codeAny_mono (call w s₀ B mg mb fa o pm cd J a vs ns G Y ho (fd_plain hd) ae ac W I aa hg) λr s' hq=>?_);obtain⟨rfl,h2,h3,h4⟩:=hq
 exact⟨.inl ⟨.bool true,.bool true,[],rfl,λ_=>rfl,.bool true,zg9 l _,λ_=>⟨List.Pairwise.nil,λ_ hm=>(nomatch hm)⟩⟩,h2,h3,h4⟩
section
variable {prog:Program}{w:World}{A:Around}{E:QqV}{s:Shared}{K:Frag}
end
end Att
namespace L2
theorem VA:∀{vs:QqW}{ns:List Int},IntsAre vs ns->Vals (ns.map V.int) vs
 |_,_,.nil=>.nil
 |_,_,.cons n t h=>.cons ⟨t,rfl⟩ (VA h)
def xn3(H:Hp):Prop:=∀b,H b=none\/∃o xs,H b=some (.frz o (.lst xs))
def kK(s:Stmt)(j:Nat):Stmt:=match s with
 |.ClassDef _ _ _ body _ _ _ _ _ _ _=>body.getD j (.Pass ⟨0,0,0,0⟩)
 |_=>.Pass ⟨0,0,0,0⟩
def kY(s:Stmt):Arguments:=match s with
 |.FunctionDef _ a _ _ _ _ _ _ _ _=>a
 |_=>{ posonlyargs:=[],args:=[],vararg:=none,kwonlyargs:=[],kw_defaults:=[],kwarg:=none,defaults:=[] }
def vZ(s:Stmt):List Stmt:=match s with
 |.FunctionDef _ _ b _ _ _ _ _ _ _=>b
 |_=>[]
def xr(s:Stmt):Scope:=match s with
 |.FunctionDef _ _ _ _ _ _ B _ _ _=>B
 |_=>{ kind:=.function,names:=[],isGenerator:=false,isCoroutine:=false }
abbrev CX0:CXT:=λ_ _ _ _ _ _=>False
abbrev E0:XK:=λ_ _ _=>False
def QS{X:Cx}:Yo CX0 X E0:=λ_ _ _ _ _ _ _ h=>h.elim
structure Fun(K:W.Frag)(x qual:Str)(st:Stmt)(f:Addr)(fd:FuncData):Prop where
 ex:∃(oc:Value) (od:QqE) (kV doc pm:Value) (an:QqE) (cdv ct:Value) (osl:Array (Option Value)),
  fd=W.fnOf x qual (kY st) (vZ st) (xr st) .none kV doc pm an cdv ct/\K.lookup f=some ⟨oc,od,.func fd,osl⟩/\W.codeIn K cdv qual=true
 kp:W.keepIn K (.ref f)=true
section
variable {P:Program}{w:World}{K:W.Frag}{mg:QqM}{base:Heap}
def Fun.ok{x B:Str}{st:Stmt}{f:Addr}{fd:FuncData}{N ps:List Str}{k:Nat}{sp:Sp}(F:Fun K x B st f fd)(S:FnScope N ps (xr st))(len:∀vs H Q E,sp vs H Q E->vs.length=ps.length)
  (J : ∀ (I : Value) (A : Around) (outer : List Env) (s : Shared) (H : Hp) (vs : List V) (Q : VK) (E : XK), Room k (A.deeper (envOfC B (xr st) s.heap.objs.size f I)) -> sp vs H Q E ->
   ∃t,PSs (zF3 CX0 P w K mg base N B (xr st) f I A outer s H E).nox (vZ st) t/\t { nx:=λ_ H'=>Q .non H',rt:=Q } (YL N vs) H):FnOk P w K mg base CX0 (k+1) f fd ps sp:=by
 obtain⟨oc,od,kV,aa,pm,an,I,ct,Y,rfl,lk,W⟩:=F.ex;refine xA2 lk W S len λA outer s H vs Q E hr U=>?_;obtain⟨t,h,q⟩:=J I A outer s H vs Q E hr U;exact⟨t,h.nox,q⟩
def Fun.binds{x B:Str}{st:Stmt}{f:Addr}{fd:FuncData}{ps:List Str}(F:Fun K x B st f fd)
  (h:∀(kV I U:Value) (an:QqE) (J ct:Value) (us:QqW),us.length=ps.length->bindArgs (W.fnOf x B (kY st) (vZ st) (xr st) .none kV I U an J ct) ⟨us,[]⟩=pure (ps.zip us)):Binds K fd ps []:=by
 obtain⟨oc,od,kV,I,U,an,J,ct,Y,rfl,lk,aa⟩:=F.ex;exact .all (h kV I U an J ct)
def zn0{x B:Str}{st:Stmt}{f:Addr}{oc:Value}{od an:QqE}{U:Array (Option Value)}{kV J Y I ct:Value}(l:K.lookup f=some ⟨oc,od,.func (W.fnOf x B (kY st) (vZ st) (xr st) .none kV J Y an I ct),U⟩)
  (c:W.codeIn K I B=true) (k:W.keepIn K (.ref f)=true):Fun K x B st f (W.fnOf x B (kY st) (vZ st) (xr st) .none kV J Y an I ct):=⟨⟨oc,od,kV,J,Y,an,I,ct,U,rfl,l,c⟩,k⟩
end
def vC{A:Around}{k:Nat}(B:Room k A):A.units+1<cLine:=yF (Nat.add_le_add_left (by decide:1<=64) _) B.units
section
variable {X:Cx}
end
def Same(H H':Hp):Prop:=∀b o,H b=some o->H' b=some o
end L2
namespace L2
open PySem
def qc(env:Env):List (Str × NameKind)->List (Str × Addr)->List (Str × Addr)
 |[],B=>B
 |y::r,B=>if y.2 == .free then qc env r ((y.1,(env.cells.lookup y.1).getD 0)::B) else qc env r B
def vM{env:Env}:∀(l:List (Str × NameKind)) (B:List (Str × Addr)),(∀y∈l,y.2=.free->∃c,env.cells.lookup y.1=some c)->(∀x c,B.lookup x=some c->env.cells.lookup x=some c) ->
  ∀x c,(qc env l B).lookup x=some c->env.cells.lookup x=some c
 |[],B,_,ha,x,c,h=>ha x c h
 | y :: r, B, J, ha, x, c, h => by
  unfold qc at h
  split at h
  ·rename_i hk
   have hk':y.2=.free:=by simpa using hk
   obtain⟨d,hd⟩:=J y zq hk';refine vM r _ (λz I=>J z (zf _ I)) (λz e I=>?_) x c h;rw[we] at I
   cases U:z == y.1 with
   |true=>
    rw[U,hd] at I
    have Y:z=y.1:=by simpa using U
    have W:d=e:=by simpa using I
    rw[Y,hd,W]
   |false=>rw[U] at I;exact ha z e I
  ·exact vM r B (λz I=>J z (zf _ I)) ha x c h
theorem Yg{env:Env}{x:Str}:∀(l:List (Str × NameKind)) (B:List (Str × Addr)),(∃c,B.lookup x=some c)->∃c,(qc env l B).lookup x=some c
 |[],B,h=>h
 | y :: r, B, h => by
  unfold qc
  split
  ·refine Yg r _ ?_;rw[we]
   cases I:x == y.1 with
   |true=>exact⟨_,rfl⟩
   |false=>exact h
  ·exact Yg r B h
theorem kE{env:Env}{y:Str × NameKind}(hk:y.2=.free):∀(l:List (Str × NameKind)) (B:List (Str × Addr)),y∈l->∃c,(qc env l B).lookup y.1=some c
 |[],B,h=>by simp at h
 | z :: r, B, h => by
  unfold qc
  rcases zg.mp h with rfl |h
  ·rw [if_pos (by rw [hk]; rfl)]
   exact Yg r _ ⟨_,al_List_lookup_cons_self⟩
  ·split
   ·exact kE hk r _ h
   ·exact kE hk r _ h
def WA{env:Env}(f:Str × NameKind->List (Str × Addr)->Sem (ForInStep (List (Str × Addr))))
  (J:∀y B,f y B=if y.2 == .free then(cellOf env y.1 >>= λc=>pure (.yield ((y.1,c)::B))) else pure (.yield B)) :
  ∀(l:List (Str × NameKind)) (B:List (Str × Addr)),(∀y∈l,y.2=.free->∃c,env.cells.lookup y.1=some c)->forIn l B f=(pure (qc env l B):Sem _)
 |[],B,_=>by rw[forIn_nil];rfl
 | y :: r, B, h => by
  have I:=λB=>WA f J r B λz W=>h z (zf _ W);rw[forIn_cons,J];unfold qc
  split
  ·rename_i hk
   obtain⟨c,U⟩:=h y zq (by simpa using hk)
   have e:cellOf env y.1=pure c:=by unfold cellOf;rw[U]
   rw[e,U];exact I _
  ·exact I _
def YF{scope:Scope}{env:Env}(h:∀y∈scope.names,y.2=.free->∃c,env.cells.lookup y.1=some c):closureFor scope env=pure (qc env scope.names []):=by
 have e:=WA (env:=env) (λx cs=>match x with |(name,kind)=>if (kind == NameKind.free)=true then(do let c <- cellOf env name;pure (.yield ((name,c)::cs))) else pure (.yield cs)) (λy I=>rfl) scope.names [] h
 have B:closureFor scope env=((forIn scope.names [] (λx cs=>match x with |(name,kind)=>if (kind == NameKind.free)=true then(do let c <- cellOf env name;pure (ForInStep.yield ((name,c)::cs))) else pure (ForInStep.yield cs)):Sem (List (Str × Addr))) >>= λcs=>pure cs):=rfl
 rw[B,e];rfl
def Ym{env:Env}{x:Str}:∀(l:List (Str × NameKind)),
  (l.map λ(n, k) => if (k == NameKind.free && env.scope.kind == .function && env.kindOf n == some .cell) then (n, NameKind.cell) else (n, k)).lookup x =
   (l.lookup x).map λk=>if (k == NameKind.free&&env.scope.kind == .function&&env.kindOf x == some .cell) then NameKind.cell else k
 |[]=>rfl
 | (n, k) :: r => by
  have B:=@Ym env x r;rw[zz]
  by_cases e:x=n
  ·subst e;dsimp only
   split
   ·rename_i h;rw[al_List_lookup_cons_self,al_List_lookup_cons_self,Option.map_some,if_pos h]
   ·rename_i h;rw[al_List_lookup_cons_self,al_List_lookup_cons_self,Option.map_some,if_neg h]
  ·have e' : (x == n) = false := by simpa using e
   dsimp only
   split
   ·rw[we,e',we,e'];exact B
   ·rw[we,e',we,e'];exact B
def Qy:∀(l:List (Str × NameKind)) (h:Heap) (B:List (Str × Addr)) (x:Str) (c:Addr),(cellsFrom h.objs.size l B).lookup x=some c ->
  ((pushCells h l).IsCell c none/\h.objs.size<=c/\(x,NameKind.cell)∈l)\/B.lookup x=some c
 |[],_,_,_,_,e=>.inr e
 | (n, k) :: r, h, B, x, c, e => by
  unfold cellsFrom at e;unfold pushCells
  split at e
  ·rename_i hk
   have hk':k=.cell:=by simpa using hk
   rw[if_pos hk];have J:(h.push { cls:=.type "cell",data:=.cell none }).objs.size=h.objs.size+1:=xT ..;rw[<- J] at e
   rcases Qy r (h.push { cls:=.type "cell",data:=.cell none }) _ x c e with ⟨a,b,d⟩ |q
   ·exact .inl ⟨a,by rw[J] at b;lia,zf _ d⟩
   ·rw [we] at q
    cases I:x == n with
    |false=>rw[I] at q;exact .inr q
    |true=>
     rw[I] at q
     have W:h.objs.size=c:=by simpa using q
     have U:x=n:=by simpa using I
     subst W U
     refine .inl ⟨?_,zk _,by rw[hk'];exact zq⟩
     exact⟨_,pushCells_keeps _ _ _ _ (zu _ rfl),rfl⟩
  ·rename_i hk;rw[if_neg hk]
   rcases Qy r h B x c e with ⟨a,b,d⟩ |q
   ·exact .inl ⟨a,b,zf _ d⟩
   ·exact .inr q
def Qw:∀(l:List (Str × NameKind)) (n:Nat) (B:List (Str × Addr)),(∀x y c,B.lookup x=some c->B.lookup y=some c->x=y)->(∀x c,B.lookup x=some c->c<n) ->
  ∀x y c,(cellsFrom n l B).lookup x=some c->(cellsFrom n l B).lookup y=some c->x=y
 |[],_,_,hi,_,x,y,c,e,e'=>hi x y c e e'
 | (m, k) :: r, n, B, hi, I, x, y, c, e, e' => by
  unfold cellsFrom at e e'
  have one:∀z d,((m,n)::B).lookup z=some d->(z=m/\d=n)\/B.lookup z=some d:=λz d q=>by
   rw[we] at q
   cases U:z == m with
   |true=>rw[U] at q;exact .inl ⟨by simpa using U,by simpa using q.symm⟩
   |false=>rw[U] at q;exact .inr q
  split at e
  ·rename_i hk;rw[if_pos hk] at e';refine Qw r (n+1) ((m,n)::B) (λa b d q q'=>?_) (λa d q=>?_) x y c e e'
   ·rcases one a d q with ⟨a1, a2⟩ | a1 <;> rcases one b d q' with ⟨J, W⟩ | J
    ·rw[a1,J]
    ·exact absurd (I b d J) (by rw[a2];exact xD _)
    ·exact absurd (I a d a1) (by rw[W];exact xD _)
    ·exact hi a b d a1 J
   ·rcases one a d q with ⟨_, a2⟩ | a1
    ·rw[a2];exact yu _
    ·exact xX (I a d a1)
  ·rename_i hk;rw[if_neg hk] at e';exact Qw r n B hi I x y c e e'
theorem qT{x:Str}:∀(l:List (Str × NameKind)) (n:Nat) (B:List (Str × Addr)),(∃c,B.lookup x=some c)->∃c,(cellsFrom n l B).lookup x=some c
 |[],_,_,h=>h
 | (m, k) :: r, n, B, h => by
  unfold cellsFrom
  split
  ·refine qT r _ _ ?_;rw[we]
   cases I:x == m with
   |true=>exact⟨_,rfl⟩
   |false=>exact h
  ·exact qT r _ _ h
theorem Qx{x:Str}:∀(l:List (Str × NameKind)) (n:Nat) (B:List (Str × Addr)),(x,NameKind.cell)∈l->∃c,(cellsFrom n l B).lookup x=some c
 |[],_,_,h=>by simp at h
 | (m, k) :: r, n, B, h => by
  unfold cellsFrom
  rcases zg.mp h with e |h
  ·cases e;exact qT r _ _ ⟨_,al_List_lookup_cons_self⟩
  ·split
   ·exact Qx r _ _ h
   ·exact Qx r _ _ h
theorem zA7{x:Str}:∀(l:List (Str × NameKind)) (n:Nat) (B:List (Str × Addr)) (lo:Nat),lo<=n->((x,NameKind.cell)∈l\/∀c,B.lookup x=some c->lo<=c)->∀c,(cellsFrom n l B).lookup x=some c->lo<=c
  | [], n, B, lo, hn, h, c, e => by
    rcases h with h |h
    · simp at h
    · exact h c e
  | (m, k) :: r, n, B, lo, hn, h, c, e => by
    unfold cellsFrom at e
    split at e
    · rename_i hk
      refine zA7 r (n+1) ((m,n)::B) lo w5 ?_ c e
      rcases h with h |h
      · rcases zg.mp h with z | z
        · cases z
          refine .inr λd q=>?_;rw[al_List_lookup_cons_self] at q
          have:n=d:=by simpa using q
          lia
        · exact .inl z
      · refine .inr λd q => ?_
        rw[we] at q
        cases I:x == m with
        | true => rw [I] at q; have : n = d := by simpa using q;
                  lia
        |false=>rw[I] at q;exact h d q
    · rename_i hk
      refine zA7 r n B lo hn ?_ c e
      rcases h with h |h
      · rcases zg.mp h with z | z
        · cases z;exact absurd rfl hk
        · exact .inl z
      · exact .inr h
section
variable {M:Model}{A:Around}{E:QqV}{s:Shared}
def Zd{scope:Scope}{env:Env}{I:List (Str × Addr)}{Q:Env->Shared->Prop}
  (h : Q (newEnv scope s.heap.objs.size env.globals (cellsFrom (s.heap.objs.size + 1) scope.names I) env.qual none .none (some env) builtinsNs)
   { s with heap:=pushCells (s.heap.push { cls:=.type "dict",data:=.dict #[] }) scope.names }) :
  wpAny M A (newFunctionEnv scope env.globals I [] env.qual none .none (some env)) Q E s:=by
 simp only[newFunctionEnv,Option.isSome_some,if_true];refine zb (wpAny_alloc ?_);refine zb (wpAny_layCells _ (λname kind cells=>?_) _ _ _ _ ?_)
 ·cases B:kind == NameKind.cell<;>simp[B]
 ·rw[List.forIn_nil];refine zb (ze (ze ?_));have J:({ s with heap:=s.heap.push { cls:=.type "dict",data:=.dict #[] } }:Shared).heap.objs.size=s.heap.objs.size+1:=xT ..;rw[J];exact h
end
abbrev XJ(ifs:List Expr)(env:Env):Sem Bool:=forIn ifs true λc r=>if r=true then do let ok <- isTrue c env (eval c env);pure (ForInStep.yield ok) else pure (ForInStep.yield r)
section
variable {prog:Program}{w:World}{A:Around}{R:Result->Shared->Prop}{s:Shared}
def zp4{elt B I:Expr}{ifs:List Expr}{scope:Scope}{pos:Pos}{it U:Value}{env:Env}(J:Nat->Shared->Prop)
  (turn : ∀ n s, J n s -> wpAny (model prog w) A (pyNext it) (λr Y => match r with
   |none=>R (.ok .next) Y
   | some v => wpAny (model prog w) A (letOwnedTupleGo B it v) (λ_ s2 => wpAny (model prog w) A (assign B env v) (λ_ s3 => wpAny (model prog w) A (XJ ifs env) (λok W =>
     if ok=true then wpAny (model prog w) A (eval elt env) (λx s5=>wpAny (model prog w) A (call (.builtin "list.append") [U,x]) (λ_ s6=>∃m,m<n/\J m s6) (λ_ _=>False) s5) (λ_ _=>False) W
     else ∃m,m<n/\J m W) (λ_ _=>False) s3) (λ_ _=>False) s2) (λ_ _=>False) Y) (λ_ _=>False) s)
  (n:Nat) (h:J n s):codeAny (model prog w) A (.compLoop (.ListComp elt [⟨B,I,ifs,0⟩] scope pos) 0 it U env) R s:=by
 refine codeAny_loop rfl J (λn s hJ=>?_) n h
 show wpAny _ A ((compTurn (.ListComp elt [⟨B,I,ifs,0⟩] scope pos) 0 it U env).onRaise (λx=>do noteFrame x env;theTreesLotGoes x)) _ _ s
 refine wpAny_noted ?_;rw[compTurn_list]
 have up:∀{α:Type}{t:Sem α}{Q Q':α->Shared->Prop}{E:QqV}{s:Shared},wpAny (model prog w) A t Q (λ_ _=>False) s->(∀a s,Q a s->Q' a s)->wpAny (model prog w) A t Q' E s:=
  λh f=>wY h f λ_ _ z=>False.elim z
 refine zb (wg (zb (up (turn n s hJ) λr Y h1=>?_)))
 cases r with
 |none=>exact ze h1
 |some v=>
  refine zb (up h1 λ_ s2 h2=>?_);refine zb (up h2 λ_ s3 h3=>?_);refine zb (up h3 λok W h4=>?_)
  cases ok with
  |false=>exact ze ⟨rfl,h4⟩
  |true=>exact zb (zb (up h4 λx s5 h5=>zb (up h5 λ_ s6 h6=>ze (ze ⟨rfl,h6⟩))))
end
def Ww(b:Bool):String:=if b then "list_iterator" else "tuple_iterator"
def SeqIs(b:Bool)(h:Heap)(l:Addr)(xs:Array Value):Prop:=match b with |true=>h.IsList l xs |false=>h.IsTuple l xs
def IterIs(b:Bool)(h:Heap)(i l:Addr)(k:Nat):Prop:=match b with |true=>h.IsListIter i l k |false=>h.IsTupleIter i l k
def SeqIs.at{b:Bool}{h h':Heap}{l:Addr}{xs:Array Value}(x:SeqIs b h l xs)(hk:∀o,h.get? l=some o->h'.get? l=some o):SeqIs b h' l xs:=by
 cases b<;>(obtain⟨o,e,r⟩:=x;exact⟨o,hk o e,r⟩)
def IterIs.at{b:Bool}{h h':Heap}{i l:Addr}{k:Nat}(x:IterIs b h i l k)(hk:∀o,h.get? i=some o->h'.get? i=some o):IterIs b h' i l k:=by
 cases b<;>(obtain⟨o,e,r⟩:=x;exact⟨o,hk o e,r⟩)
def IterIs.obj{b:Bool}{h:Heap}{i l:Addr}{k:Nat}(x:IterIs b h i l k):∃o,h.get? i=some o/\o.cls=.type (Ww b)/\o.data=.fields #[.ref l,.int k 0]:=by
 cases b<;>exact x
def SeqIs.ne{b c:Bool}{h:Heap}{l i m:Addr}{k:Nat}{xs:Array Value}(x:SeqIs b h l xs)(y:IterIs c h i m k):l≠i:=by
 rintro rfl;obtain⟨o,e,B,_⟩:=y.obj
 cases b<;>(obtain⟨o',e',hc',_⟩:=x;rw[e] at e';cases e';rw[B] at hc';cases c<;>exact absurd (Value.type.inj hc') w6)
section
variable {prog:Program}{w:World}{A:Around}{E:QqV}{s:Shared}
def Wp{b:Bool}{l:Addr}{xs:Array Value}{Q:QqV}(B:SeqIs b s.heap l xs)
  (I:Q (.ref s.heap.objs.size) { s with heap:=s.heap.push { cls:=.type (Ww b),data:=.fields #[.ref l,.int 0 0] } }):wpAny (model prog w) A (pyIter (.ref l)) Q E s:=by
 cases b with
 |true=>exact yQ B I
 |false=>exact wpAny_pyIter_tuple B I
def QY{it l:Addr}{i:Nat}{items:Array Value}{x:Value}{Q:QqV}(B:s.heap.IsTupleIter it l i)(Y:s.heap.IsTuple l items)(hx:items[i]?=some x)
  (hQ:∀h',h'.IsTupleIter it l (i+1)->Heap.SameBut it s.heap h'->Q x { s with heap:=h' }):wpAny (model prog w) A (Builtin.SmallTypes.nextOf (.ref it)) Q E s:=by
 obtain⟨o,I,hc,hd⟩:=id B;obtain⟨ol,J,_,nl,U⟩:=Y;unfold Builtin.SmallTypes.nextOf;refine zb (wx (name:=Str.ofString "__next__") B.typeIs F.slot_tuple_iterator_next (wA F.slot_tuple_iterator_next B.typeIs F.entry_tuple_iterator_next ?_ (F.args_tuple_iterator_next_1 _)));show wpAny _ A.in1 (field (.ref it) 0 >>= _) _ _ s;refine zb (wo (x:=.ref l) I hd rfl ?_)
 show wpAny _ A.in1 (if (Value.ref l == Value.none)=true then _ else _) _ _ s
 have W:¬ ((Value.ref l == Value.none)=true):=zK;rw[if_neg W];show wpAny _ A.in1 (field (.ref it) 1 >>= _) _ _ s;refine zb (wo (x:=.int i 0) I hd rfl ?_);show wpAny _ A.in1 (seqItems? (.ref l) >>= _) _ _ s;refine zb (ye J U ?_);simp only[hx,Int.toNat_natCast]
 refine zb (wpAny_setField I hd (by simp) (ze ⟨x,rfl,ze (hQ _ ⟨_,Heap.get?_update_self _ I (Obj.isFreed_of_fields (Obj.data_mapFields hd _)),(Obj.cls_mapFields ..).trans hc,?_⟩ (Heap.SameBut.update ..))⟩))
 rw[Obj.data_mapFields hd];simp[rawInt]
def XU{it l:Addr}{i:Nat}{items:Array Value}{Q:QqV}(hh:A.handled=none)(B:s.heap.IsTupleIter it l i)(Y:s.heap.IsTuple l items)(hx:items[i]?=none)
  (hE:∀h' e,Heap.ExtBut it s.heap h'->(∃o,h'.get? e=some o/\o.cls=.type "StopIteration")->E (.ref e) { s with heap:=h' }):wpAny (model prog w) A (Builtin.SmallTypes.nextOf (.ref it)) Q E s:=by
 obtain⟨o,J,hc,hd⟩:=id B;obtain⟨ol,I,_,nl,U⟩:=Y;unfold Builtin.SmallTypes.nextOf;refine zb (wx (name:=Str.ofString "__next__") B.typeIs F.slot_tuple_iterator_next (wA F.slot_tuple_iterator_next B.typeIs F.entry_tuple_iterator_next ?_ (F.args_tuple_iterator_next_1 _)));show wpAny _ A.in1 (field (.ref it) 0 >>= _) _ _ s;refine zb (wo (x:=.ref l) J hd rfl ?_)
 show wpAny _ A.in1 (if (Value.ref l == Value.none)=true then _ else _) _ _ s
 have W:¬ ((Value.ref l == Value.none)=true):=zK;rw[if_neg W];show wpAny _ A.in1 (field (.ref it) 1 >>= _) _ _ s;refine zb (wo (x:=.int i 0) J hd rfl ?_);show wpAny _ A.in1 (seqItems? (.ref l) >>= _) _ _ s;refine zb (ye I U ?_);simp only[hx,Int.toNat_natCast]
 refine zb (wz (zb (wpAny_setField J hd (by simp) ?_)))
 show wpAny _ A.in1 (newExc (.type "StopIteration") [] >>= _) _ _ _;refine zb ?_;simp only[newExc,newTuple]
 refine zb (xU ?_ (by size_fits))
 refine zb (m:=firstArgMember _ _) (wpAny_of_eq (a:=Value.none) (by simp only[firstArgMember];rfl) ?_)
 refine xU ?_ (by size_fits)
 simp only[raiseNew];refine zb (wpAny_handled ?_);rw[show A.in1.handled=none from hh];refine zb (ze (wpAny_throw ?_));exact hE _ _ (((Heap.SameBut.update ..).extBut.push _).push _) ⟨_,zu _ rfl,rfl⟩
def ZU{b:Bool}{it l:Addr}{i:Nat}{items:Array Value}{x:Value}{Q:QqV}(B:IterIs b s.heap it l i)(I:SeqIs b s.heap l items)(hx:items[i]?=some x)
  (J:∀h',IterIs b h' it l (i+1)->Heap.SameBut it s.heap h'->Q x { s with heap:=h' }):wpAny (model prog w) A (Builtin.SmallTypes.nextOf (.ref it)) Q E s:=by
 cases b with
 |true=>exact wpAny_nextOf_list_item B I hx J
 |false=>exact QY B I hx J
def jI{b:Bool}{it l:Addr}{i:Nat}{items:Array Value}{Q:QqV}(hh:A.handled=none)(B:IterIs b s.heap it l i)(I:SeqIs b s.heap l items)(hx:items[i]?=none)
  (J:∀h' e,Heap.ExtBut it s.heap h'->(∃o,h'.get? e=some o/\o.cls=.type "StopIteration")->E (.ref e) { s with heap:=h' }):wpAny (model prog w) A (Builtin.SmallTypes.nextOf (.ref it)) Q E s:=by
 cases b with
 |true=>exact wpAny_nextOf_list_end hh B I hx J
 |false=>exact XU hh B I hx J
structure ZApart(z ti to i1 i2:Addr):Prop where
 a1:ti≠z
 a2:to≠z
 a3:i1≠z
 a4:i2≠z
 a5:ti≠to
 a6:ti≠i1
 a7:ti≠i2
 a8:to≠i1
 a9:to≠i2
 a10:i1≠i2
structure ZSt(b c:Bool)(z ti to i1 i2 l1 l2:Addr)(k:Nat)(h:Heap):Prop where
 z:IsZip h z ti to .none
 ti:IsPair h ti (.ref i1) (.ref i2)
 to:∃u v,IsPair h to u v
 i1:IterIs b h i1 l1 k
 i2:IterIs c h i2 l2 k
structure ZMid(b c:Bool)(z ti to i1 i2 l1 l2:Addr)(k:Nat)(T:Addr)(h:Heap):Prop where
 z:IsZip h z ti to (rawInt T)
 ti:IsPair h ti (.ref i1) (.ref i2)
 to:∃u v,IsPair h to u v
 i1:IterIs b h i1 l1 (k+1)
 i2:IterIs c h i2 l2 (k+1)
def ZSt.apartL{b c d:Bool}{z ti to i1 i2 l1 l2 l:Addr}{k:Nat}{h:Heap}{xs:Array Value}(x:ZSt b c z ti to i1 i2 l1 l2 k h)(B:SeqIs d h l xs)(I:l≠to):l≠z/\l≠i1/\l≠i2:=by
 refine⟨?_,B.ne x.i1,B.ne x.i2⟩;rintro rfl;have e:=x.z
 cases d<;>(obtain⟨o',e',hc',_⟩:=B;rw[e] at e';cases e';exact absurd (Value.type.inj hc') w6)
def zr7{b c:Bool}{z ti to i1 i2 l1 l2:Addr}{k:Nat}{xs ys:Array Value}{x y:Value}{Q:QqV}(D:ZApart z ti to i1 i2)(S:ZSt b c z ti to i1 i2 l1 l2 k s.heap)
  (ac:SeqIs b s.heap l1 xs) (ab:SeqIs c s.heap l2 ys) (n1:l1≠to) (n2:l2≠to) (hx:xs[k]?=some x) (hy:ys[k]?=some y)
  (hQ:∀h',ZMid b c z ti to i1 i2 l1 l2 k s.heap.objs.size h'->IsPair h' s.heap.objs.size x y->(∀d o,d≠z->d≠to->d≠i1->d≠i2->s.heap.get? d=some o->h'.get? d=some o)->Q (.ref s.heap.objs.size) { s with heap:=h' }) :
  wpAny (model prog w) A (Builtin.«zip.__next__» ⟨[.ref z],[]⟩) (λfin s'=>∃v,fin=.done (.ret v)/\Q v s') E s:=by
 obtain⟨m1,m2,m3⟩:=S.apartL ac n1;obtain⟨m4,m5,m6⟩:=S.apartL ab n2;obtain⟨hz,ad,⟨u,v,ae⟩,h1,h2⟩:=S;show wpAny _ A (field (.ref z) 2 >>= _) _ _ _;refine zb (wo (x:=.bool false) hz rfl rfl ?_);show wpAny _ A (field (.ref z) 3 >>= _) _ _ _;refine zb (wo (x:=.ref ti) hz rfl rfl ?_);refine zb (ye ad rfl ?_);show wpAny _ A (Builtin.SmallTypes.ownedTupleIsFree (.ref z) >>= _) _ _ _;refine zb ?_;unfold Builtin.SmallTypes.ownedTupleIsFree;refine zb (wo (x:=.none) hz rfl rfl (ze ?_));simp only[if_true];refine zb (wz ?_);refine zb (wo (x:=.ref to) hz rfl rfl ?_)
 refine zb (yd hz (by simp) λg1 aa Y=>?_)
 replace aa:IsZip g1 z ti to .ellipsis:=aa
 refine zb ?_;simp only[forIn_cons,forIn_nil,yv,List.zipIdx_nil];refine zb (zb (wpAny_onRaise ?_));show wpAny _ A (Builtin.SmallTypes.nextOf (.ref i1) >>= _) _ _ _;refine zb (ZU (h1.at λo e=>Y.extBut _ _ D.a3 e) (ac.at λo e=>Y.extBut _ _ m1 e) hx λg2 k1 s2=>ze ?_);have W:IsPair g2 to u v:=s2.extBut _ _ D.a8 (Y.extBut _ _ D.a2 ae);refine zb (ye W rfl ?_);refine zb (wpAny_updateSeq_pair W λg3 J s3=>?_)
 replace J:IsPair g3 to x v:=J
 refine zb (wpAny_letGo (ze ?_));refine zb (zb (wpAny_onRaise ?_));show wpAny _ A (Builtin.SmallTypes.nextOf (.ref i2) >>= _) _ _ _;refine zb (ZU (h2.at λo e=>s3.extBut _ _ D.a9.symm (s2.extBut _ _ D.a10.symm (Y.extBut _ _ D.a4 e))) (ab.at λo e=>s3.extBut _ _ n2 (s2.extBut _ _ m5 (Y.extBut _ _ m4 e))) hy λg4 k2 s4=>ze ?_);have U:IsPair g4 to x v:=s4.extBut _ _ D.a9 J;refine zb (ye U rfl ?_);refine zb (wpAny_updateSeq_pair U λI B s5=>?_)
 replace B:IsPair I to x y:=B
 refine zb (wpAny_letGo (ze (ze ?_)));refine zb (ye B rfl ?_);refine zb (wpAny_newTuple ?_)
 have sz:I.objs.size=s.heap.objs.size:=by rw[s5.1,s4.1,s3.1,s2.1,Y.1]
 have z5:IsZip I z ti to .ellipsis:=s5.extBut _ _ D.a2.symm (s4.extBut _ _ D.a4.symm (s3.extBut _ _ D.a2.symm (s2.extBut _ _ D.a3.symm aa)));have kp:∀d o,d≠z->d≠to->d≠i1->d≠i2->s.heap.get? d=some o->I.get? d=some o:=λd o d1 d2 d3 d4 e=>s5.extBut _ _ d2 (s4.extBut _ _ d4 (s3.extBut _ _ d2 (s2.extBut _ _ d3 (Y.extBut _ _ d1 e))));have j1:IterIs b I i1 l1 (k+1):=k1.at λo e=>s5.extBut _ _ D.a8.symm (s4.extBut _ _ D.a10 (s3.extBut _ _ D.a8.symm e));have j2:IterIs c I i2 l2 (k+1):=k2.at λo e=>s5.extBut _ _ D.a9.symm e;have zl:z<I.objs.size:=zy z5;show wpAny _ A (Builtin.SmallTypes.ownedTupleHandOut (.ref z) (.ref I.objs.size) >>= _) _ _ _;refine zb ?_;unfold Builtin.SmallTypes.ownedTupleHandOut;have z6:IsZip (I.push { cls:=.type "tuple",data:=.seq #[x,y] }) z ti to .ellipsis:=zd _ z5
 refine zb (yd z6 (by simp) λg7 z7 s7=>?_)
 replace z7:IsZip g7 z ti to (rawInt I.objs.size):=z7
 refine yd z7 (by simp) λg8 z8 s8=>?_
 replace z8:IsZip g8 z ti to (rawInt I.objs.size):=z8
 have up:∀d o,d≠z->I.get? d=some o->g8.get? d=some o:=λd o d1 e=>s8.extBut _ _ d1 (s7.extBut _ _ d1 (zd _ e));have T8:IsPair g8 I.objs.size x y:=s8.extBut _ _ (xF zl) (s7.extBut _ _ (xF zl) (zu _ rfl));rw[sz] at z8 T8;refine ze ⟨_,rfl,?_⟩;show Q (.ref I.objs.size) _;rw[sz];exact hQ g8 ⟨z8,up _ _ D.a1 (kp _ _ D.a1 D.a5 D.a6 D.a7 ad),⟨_,_,up _ _ D.a2 B⟩,j1.at λo e=>up _ o D.a3 e,j2.at λo e=>up _ o D.a4 e⟩ T8 λd o d1 d2 d3 d4 e=>up d o d1 (kp d o d1 d2 d3 d4 e)
def zr6{b c:Bool}{z ti to i1 i2 l1 l2:Addr}{k:Nat}{xs ys:Array Value}{Q:Fin->Shared->Prop}(hh:A.handled=none)(D:ZApart z ti to i1 i2)(S:ZSt b c z ti to i1 i2 l1 l2 k s.heap)
  (ac:SeqIs b s.heap l1 xs) (ab:SeqIs c s.heap l2 ys) (n1:l1≠to) (n2:l2≠to) (ad:xs[k]?=none\/ys[k]?=none)
  (hE:∀h' e,(∀d o,d≠z->d≠to->d≠i1->d≠i2->s.heap.get? d=some o->h'.get? d=some o)->(∃o,h'.get? e=some o/\o.cls=.type "StopIteration")->E (.ref e) { s with heap:=h' }) :
  wpAny (model prog w) A (Builtin.«zip.__next__» ⟨[.ref z],[]⟩) Q E s:=by
 obtain⟨m1,m2,m3⟩:=S.apartL ac n1;obtain⟨m4,m5,m6⟩:=S.apartL ab n2;obtain⟨hz,af,⟨u,v,ae⟩,h1,h2⟩:=S;show wpAny _ A (field (.ref z) 2 >>= _) _ _ _;refine zb (wo (x:=.bool false) hz rfl rfl ?_);show wpAny _ A (field (.ref z) 3 >>= _) _ _ _;refine zb (wo (x:=.ref ti) hz rfl rfl ?_);refine zb (ye af rfl ?_);show wpAny _ A (Builtin.SmallTypes.ownedTupleIsFree (.ref z) >>= _) _ _ _;refine zb ?_;unfold Builtin.SmallTypes.ownedTupleIsFree;refine zb (wo (x:=.none) hz rfl rfl (ze ?_));simp only[if_true];refine zb (wz ?_);refine zb (wo (x:=.ref to) hz rfl rfl ?_)
 refine zb (yd hz (by simp) λg1 J s1=>?_)
 replace J:IsZip g1 z ti to .ellipsis:=J
 refine zb ?_;simp only[forIn_cons,forIn_nil,yv,List.zipIdx_nil];refine zb (zb (wpAny_onRaise ?_));show wpAny _ A (Builtin.SmallTypes.nextOf (.ref i1) >>= _) _ _ _;have q1:IterIs b g1 i1 l1 k:=h1.at λo e=>s1.extBut _ _ D.a3 e;have q2:SeqIs b g1 l1 xs:=ac.at λo e=>s1.extBut _ _ m1 e
 cases hx:xs[k]? with
 |none=>
  refine zb (jI hh q1 q2 hx λg2 e U he=>?_);obtain⟨oe,B,I⟩:=he;have z2:IsZip g2 z ti to .ellipsis:=U _ _ D.a3.symm J
  have aa:e≠z:=λq=>by subst q;rw[z2] at B;cases B;exact absurd (Value.type.inj I) w6
  exact yd z2 (by simp) λg3 _ Y=>hE g3 e (λd o d1 _ d3 _ q=>Y.extBut _ _ d1 (U _ _ d3 (s1.extBut _ _ d1 q))) ⟨oe,Y.extBut _ _ aa B,I⟩
 | some x =>
  have hy:ys[k]?=none:=by
   rcases ad with h |h
   ·rw[hx] at h;cases h
   ·exact h
  refine zb (ZU q1 q2 hx λg2 k1 U=>ze ?_);have W:IsPair g2 to u v:=U.extBut _ _ D.a8 (s1.extBut _ _ D.a2 ae);refine zb (ye W rfl ?_);refine zb (wpAny_updateSeq_pair W λg3 ag Y=>?_);refine zb (wpAny_letGo (ze ?_));refine zb (zb (wpAny_onRaise ?_));show wpAny _ A (Builtin.SmallTypes.nextOf (.ref i2) >>= _) _ _ _;refine zb (jI hh (h2.at λo e=>Y.extBut _ _ D.a9.symm (U.extBut _ _ D.a10.symm (s1.extBut _ _ D.a4 e))) (ab.at λo e=>Y.extBut _ _ n2 (U.extBut _ _ m5 (s1.extBut _ _ m4 e))) hy λg4 e s4 he=>?_);obtain⟨oe,B,I⟩:=he;have z4:IsZip g4 z ti to .ellipsis:=s4 _ _ D.a4.symm (Y.extBut _ _ D.a2.symm (U.extBut _ _ D.a3.symm J))
  have aa:e≠z:=λq=>by subst q;rw[z4] at B;cases B;exact absurd (Value.type.inj I) w6
  exact yd z4 (by simp) λg5 _ s5=>hE g5 e (λd o d1 d2 d3 d4 q=>s5.extBut _ _ d1 (s4 _ _ d4 (Y.extBut _ _ d2 (U.extBut _ _ d3 (s1.extBut _ _ d1 q))))) ⟨oe,s5.extBut _ _ aa B,I⟩
def zy3{b c:Bool}{z ti to i1 i2 l1 l2:Addr}{k:Nat}{xs J:Array Value}{x y:Value}{Q:Option Value->Shared->Prop}(D:ZApart z ti to i1 i2)(S:ZSt b c z ti to i1 i2 l1 l2 k s.heap)
  (I:SeqIs b s.heap l1 xs) (B:SeqIs c s.heap l2 J) (Y:l1≠to) (W:l2≠to) (hx:xs[k]?=some x) (hy:J[k]?=some y)
  (hQ:∀h',ZMid b c z ti to i1 i2 l1 l2 k s.heap.objs.size h'->IsPair h' s.heap.objs.size x y->(∀d o,d≠z->d≠to->d≠i1->d≠i2->s.heap.get? d=some o->h'.get? d=some o)->Q (some (.ref s.heap.objs.size)) { s with heap:=h' }) :
  wpAny (model prog w) A (pyNext (.ref z)) Q E s:=by
 have U:s.TypeIs (.ref z) "zip" := ⟨_,S.z,rfl⟩;unfold pyNext
 exact zb (wpAny_attempt (wx (name:=Str.ofString "__next__") U F.slot_zip_next (wA F.slot_zip_next U F.entry_zip_next
  (zr7 D S I B Y W hx hy λh' a1 a2 a3=>ze (hQ h' a1 a2 a3)) (F.args_zip_next_1 _))))
def Um{b c:Bool}{z ti to i1 i2 l1 l2:Addr}{k:Nat}{xs U:Array Value}{Q:Option Value->Shared->Prop}(hh:A.handled=none)(D:ZApart z ti to i1 i2)(S:ZSt b c z ti to i1 i2 l1 l2 k s.heap)
  (J:SeqIs b s.heap l1 xs) (I:SeqIs c s.heap l2 U) (n1:l1≠to) (Y:l2≠to) (B:xs[k]?=none\/U[k]?=none)
  (hQ:∀h',(∀d o,d≠z->d≠to->d≠i1->d≠i2->s.heap.get? d=some o->h'.get? d=some o)->Q none { s with heap:=h' }):wpAny (model prog w) A (pyNext (.ref z)) Q E s:=by
 have W:s.TypeIs (.ref z) "zip" := ⟨_,S.z,rfl⟩;unfold pyNext
 refine zb (wpAny_attempt (wx (name:=Str.ofString "__next__") W F.slot_zip_next (wA F.slot_zip_next W F.entry_zip_next
  (zr6 hh D S J I n1 Y B λh' e hk he=>?_) (F.args_zip_next_1 _))))
 obtain⟨o,ho,hc⟩:=he;refine zb (wpAny_isInstance (T := "StopIteration") (b:=true) ⟨o,ho,hc⟩ isSubtype_stop (ze (hQ _ hk)))
def zh1(h:Heap)(b:Bool)(l:Addr):Heap:=h.push { cls:=.type (Ww b),data:=.fields #[.ref l,.int 0 0] }
def zh3(h:Heap)(b c:Bool)(l1 l2:Addr):Heap:=(zh1 (zh1 h b l1) c l2).push { cls:=.type "tuple",data:=.seq #[.ref h.objs.size,.ref (zh1 h b l1).objs.size] }
def zh4(h:Heap)(b c:Bool)(l1 l2:Addr):Heap:=(zh3 h b c l1 l2).push { cls:=.type "tuple",data:=.seq #[.none,.none] }
def zh5(h:Heap)(b c:Bool)(l1 l2:Addr):Heap:=(zh4 h b c l1 l2).push { cls:=.type "zip",data:=.fields #[.none,.bool false,.bool false,.ref (zh1 (zh1 h b l1) c l2).objs.size,.ref (zh3 h b c l1 l2).objs.size] }
end
def zj6(b c:Bool)(l1 l2:Addr)(xs J:Array Value) :
  Meets (Builtin.«zip.__new__» ⟨[.type "zip",.ref l1,.ref l2],[]⟩) (λ_ R s=>SeqIs b s.heap l1 xs/\SeqIs c s.heap l2 J /\
   R (.ok (.ret (.ref (zh4 s.heap b c l1 l2).objs.size))) { s with heap:=zh5 s.heap b c l1 l2 }):=
 .of_wp λprog w A R s h=>by
  obtain⟨W,g,d,tk,os⟩:=s;obtain⟨I,B,h⟩:=h;have U:=sub_zip;have q1:SeqIs b (Shared.heap ⟨W,g,d,tk,os⟩) l1 xs:=I;have Y:SeqIs c (Shared.heap ⟨W.push { cls:=.type (Ww b),data:=.fields #[.ref l1,.int 0 0] },g,d,tk,os⟩) l2 J:=B.at λo e=>zd _ e
  wp_walk using Wp q1,Wp Y
  exact⟨_,rfl,h⟩
section
variable {prog:Program}{w:World}{A:Around}{E:QqV}{s:Shared}
def zA8{b c:Bool}{l1 l2:Addr}{xs ys:Array Value}{Q:QqV}(ab:SeqIs b s.heap l1 xs)(aa:SeqIs c s.heap l2 ys)
  (h:∀h' z ti to i1 i2,ZApart z ti to i1 i2->ZSt b c z ti to i1 i2 l1 l2 0 h'->(∀d∈[z,ti,to,i1,i2],s.heap.objs.size<=d)->(∀d o,s.heap.get? d=some o->h'.get? d=some o)->Q (.ref z) { s with heap:=h' }) :
  wpAny (model prog w) A (call (.type "zip") [.ref l1,.ref l2]) Q E s:=by
 refine callType_new F.called_zip w6 (F.typeCall_zip_2 _ _) (F.newCall_zip_2 _ _) (λobj=>F.args_object_init_3 obj _ _) F.entry_zip_new (zj6 b c l1 l2 xs ys) ⟨ab,aa,?_⟩
 unfold zh5 zh4 zh3;generalize h1:zh1 s.heap b l1=B;generalize h2:zh1 B c l2=J
 have z1:B.objs.size=s.heap.objs.size+1:=by rw[<- h1];exact xT ..
 have z2:J.objs.size=s.heap.objs.size+2:=by rw[<- h2];exact(xT ..).trans (by rw[z1])
 generalize h3:J.push { cls:=.type "tuple",data:=.seq #[.ref s.heap.objs.size,.ref B.objs.size] }=I
 have z3:I.objs.size=s.heap.objs.size+3:=by rw[<- h3,xT,z2]
 generalize h4:I.push { cls:=.type "tuple",data:=.seq #[.none,.none] }=W
 have z4:W.objs.size=s.heap.objs.size+4:=by rw[<- h4,xT,z3]
 have e1:B.get? s.heap.objs.size=some { cls:=.type (Ww b),data:=.fields #[.ref l1,.int 0 0] }:=by rw[<- h1];exact zu _ rfl
 have e2:J.get? B.objs.size=some { cls:=.type (Ww c),data:=.fields #[.ref l2,.int 0 0] }:=by rw[<- h2];exact zu _ rfl
 have e3:I.get? J.objs.size=some { cls:=.type "tuple",data:=.seq #[.ref s.heap.objs.size,.ref B.objs.size] }:=by rw[<- h3];exact zu _ rfl
 have e4:W.get? I.objs.size=some { cls:=.type "tuple",data:=.seq #[.none,.none] }:=by rw[<- h4];exact zu _ rfl
 have k1:∀d o,s.heap.get? d=some o->B.get? d=some o:=λd o e=>by rw[<- h1];exact zd _ e
 have k2:∀d o,B.get? d=some o->J.get? d=some o:=λd o e=>by rw[<- h2];exact zd _ e
 have Y:∀d o,J.get? d=some o->I.get? d=some o:=λd o e=>by rw[<- h3];exact zd _ e
 have U:∀d o,I.get? d=some o->W.get? d=some o:=λd o e=>by rw[<- h4];exact zd _ e
 show _/\_;refine⟨⟨_,zu _ rfl,rfl⟩,?_⟩;refine h _ W.objs.size J.objs.size I.objs.size s.heap.objs.size B.objs.size ⟨?_,?_,?_,?_,?_,?_,?_,?_,?_,?_⟩ ⟨zu _ rfl,zd _ (U _ _ e3),⟨_,_,zd _ e4⟩,?_,?_⟩ (λd hd=>?_) λd o e=>zd _ (U _ _ (Y _ _ (k2 _ _ (k1 _ _ e))))
 ·rw[z2,z4];first |exact zJ w5 |exact xF w5
 ·rw[z3,z4];first |exact zJ w5 |exact xF w5
 ·rw[z4];first |exact zJ w5 |exact xF w5
 ·rw[z1,z4];first |exact zJ w5 |exact xF w5
 ·rw[z2,z3];first |exact zJ w5 |exact xF w5
 ·rw[z2];first |exact zJ w5 |exact xF w5
 ·rw[z2,z1];first |exact zJ w5 |exact xF w5
 ·rw[z3];first |exact zJ w5 |exact xF w5
 ·rw[z3,z1];first |exact zJ w5 |exact xF w5
 ·rw[z1];first |exact zJ w5 |exact xF w5
 ·cases b<;>exact⟨_,zd _ (U _ _ (Y _ _ (k2 _ _ e1))),rfl,rfl⟩
 ·cases c<;>exact⟨_,zd _ (U _ _ (Y _ _ e2)),rfl,rfl⟩
 ·simp only [zg, xk, or_false] at hd
  rcases hd with rfl |rfl |rfl |rfl |rfl
  ·rw[z4];lia
  ·rw[z2];lia
  ·rw[z3];lia
  ·exact zk _
  ·rw[z1];lia
end
end L2
namespace L2
def Inv.track{X:Cx}{B:QqL}{σ:St}{H:Hp}{s:Shared}{a:Addr}{o:HO}(I:Inv X B σ H s)(hn:H a=none)(hz:X.s₀.heap.objs.size<=a)(hL:a≠X.env.locals)
  (hc:∀x c,X.env.cells.lookup x=some c->c≠a) (hp:∀p∈X.pn++B,p.1≠a) (new:ObjOk X.prog X.w (upd H a o) s.heap a o):Inv X B σ (upd H a o) s:=by
 have J:∀b u,H b=some u->b≠a:=λb u e=>vz e hn;refine⟨I.ok,I.os,I.bare,⟨I.base.keep,I.base.slot,λb u e n hx=>?_,I.base.there,λb xs e=>?_,λb u xs e=>?_,λb ps e=>?_⟩,I.loc,I.cell,?_,λx c e=>?_,λp U=>?_,λb u e=>?_,I.len⟩
 ·rw[wB (zJ (zZ (zy e) hz))];exact I.base.free b u e n hx
 ·have q:=I.base.tups b xs e;rw[wB (J b _ q)];exact q
 ·have q:=I.base.frzs b u xs e;rw[wB (J b _ q)];exact q
 ·obtain⟨m,q⟩:=I.base.tbls b ps e;exact⟨m,by rw[wB (J b _ q)];exact q⟩
 ·rw[wB (Ne.symm hL)];exact I.free
 ·rw[wB (hc x c e)];exact I.freeC x c e
 ·obtain ⟨q1, q2, Y⟩ := I.pin p U
  exact⟨q1,by rw[wB (hp p U)];exact q2,Y⟩
 ·by_cases W : b = a
  ·subst W;rw[yA] at e;cases e;exact new
  ·rw [wB W] at e
   exact(I.hok b u e).stay (λ_ _ _ q=>q) (λc q=>by rw[wB (J c _ q)];exact q) λc xs q=>by rw[wB (J c _ q)];exact q
structure CompOk(X:Cx)(scope:Scope)(M:List Str):Prop where
 kind:scope.kind=.function
 uniq:∀y∈scope.names,scope.names.lookup y.1=some y.2
 frees:∀y∈scope.names,y.2=.free->(X.env.kindOf y.1=some .cell\/X.env.kindOf y.1=some .free)
 shadow:∀x∈M,scope.names.lookup x≠some .local/\scope.names.lookup x≠some .cell
 same:∀(i:Nat) (x:Str),M[i]?=some x->scope.names.lookup x=some .free->X.N[i]?=some x
 mlen:M.length=X.N.length
def zp7(N M:List Str)(out B:Scope):Bool:=
 (B.kind == .function && B.names.all (λy => B.names.lookup y.1 == some y.2 && (y.2 != .free || (out.names.lookup y.1 == some .cell || out.names.lookup y.1 == some .free))) &&
  M.all (λx=>B.names.lookup x != some .local&&B.names.lookup x != some .cell))&&(M.length == N.length&&(M.zip N).all (λp=>B.names.lookup p.1 != some .free||p.1 == p.2))
def vQ{X:Cx}{U:Scope}{M:List Str}(h:zp7 X.N M X.env.scope U=true):CompOk X U M:=by
 unfold zp7 at h;rw[xM,xM,xM,xM,yz,yz,yz] at h;obtain⟨⟨⟨h1,h2⟩,h3⟩,h4,h5⟩:=h
 have W:M.length=X.N.length:=by simpa using h4
 refine⟨by simpa using h1,λy B=>?_,λy B J=>?_,λx hx=>?_,λi x hi J=>?_,W⟩
 ·have := h2 y B;rw[xM] at this
  simpa using this.1
 ·have := h2 y B;rw[xM] at this;have q:=this.2;rw[J] at q
  have q':(X.env.scope.names.lookup y.1 == some .cell||X.env.scope.names.lookup y.1 == some .free)=true:=by simpa using q
  rw[Bool.or_eq_true] at q'
  exact q'.imp (λz=>(show X.env.scope.names.lookup y.1=some .cell by simpa using z)) λz=>(show X.env.scope.names.lookup y.1=some .free by simpa using z)
 ·have := h3 x hx;rw[xM] at this
  exact⟨by simpa using this.1,by simpa using this.2⟩
 ·have I : i < X.N.length := by rw [<- W]; exact (zT.mp hi).1
  have hn:X.N[i]?=some X.N[i]:=zn I
  have Y:(M.zip X.N)[i]?=some (x,X.N[i]):=by rw[List.getElem?_zip_eq_some];exact⟨hi,hn⟩
  have:=h5 _ (wl Y);rw[Bool.or_eq_true] at this
  rcases this with z |z
  ·rw[J] at z;simp at z
  ·have e : x = X.N[i] := by simpa using z
   rw[hn,<- e]
def kg(X:Cx)(scope:Scope)(C:Addr):List (Str × Addr):=cellsFrom (C+1) scope.names (qc X.env scope.names [])
def wn(X:Cx)(scope:Scope)(own M:List Str)(C:Addr)(B:Shared)(J:Hp)(I:List Addr):Cx where
 prog:=X.prog
 w:=X.w
 K:=X.K
 mg:=X.mg
 base:=X.base
 A:=X.A
 N:=own++M
 s₀:=B
 H₀:=J
 env:=compEnvC scope (kg X scope C) C X.env
 outer:=X.stack
 stack:=X.stack
 ex:=I
 fn:=λx=>scope.names.lookup x == some .cell
 calm:=X.calm
 pn:=[]
 xe:=λ_ _=>False
def PTs(X:Cx)(ifs:List Expr)(t:TT):Prop:=
 ∀(B:QqL) (s:Shared) (σ:St) (H:Hp) (Q:Bool->Hp->Prop),Inv X B σ H s->t σ H Q->wpAny (model X.prog X.w) X.A (XJ ifs X.env) (TP X B σ Q) X.xe s
def xJ0:TT:=λ_ H Q=>Q true H
def zJ2{X:Cx}:PTs X [] xJ0:=λ_ _ _ H _ I h=>ze ⟨H,I,h⟩
def zJ1{X:Cx}{c:Expr}{t:TT}(J:PT X c t):PTs X [c] t:=by
 intro B s σ H Q I h;show wpAny _ _ (forIn [c] true _) _ _ s;simp only[forIn_cons,forIn_nil,if_true];exact zb (zb (thn (J B s σ H Q I h) λb s' U=>ze (ze U)))
def zs3(Y:TI)(own:Nat)(g:TG)(tt:TT)(te:TE):TE:=λσ H Q=>Y σ H λJ H1=>∃W:Nat->Nat->List V->Hp->Prop,(∃m,W 0 m [] H1)/\∀i m B H,W i m B H ->
 (J.stop i H/\B.length<=sizeLine/\∀D,H D=none->Q (.ref D) (upd H D (.lst B))) \/
 (J.go i H /\ B.length < sizeLine /\ ∀ x H', J.yld i H x H' -> g x (List.replicate own none ++ σ) H' λI H2 => I.drop own = σ /\ tt I H2 λc U =>
  if c=true then te I U λv H4=>∃m',m'<m/\W (i+1) m' (B++[v]) H4 else ∃m',m'<m/\W (i+1) m' B U)
section
variable {X:Cx}{scope:Scope}{own M:List Str}{pins:QqL}{σ:St}{H2:Hp}{s2:Shared}{fp:List Addr}
def CompOk.cells(ok:CompOk X scope M)(I:Inv X pins σ H2 s2):∀y∈scope.names,y.2=.free->∃c,X.env.cells.lookup y.1=some c:=λy B J=>I.ok.has y.1 (ok.frees y B J)
def CompOk.kindIn(ok:CompOk X scope M){x:Str}{C:Addr}{k:NameKind}(h:(compEnvC scope (kg X scope C) C X.env).kindOf x=some k) :
  scope.names.lookup x=some k\/(k=.cell/\scope.names.lookup x=some .free):=by
 have h':(relabel scope X.env).names.lookup x=some k:=h;unfold relabel at h';rw[Ym] at h'
 cases e:scope.names.lookup x with
 |none=>rw[e] at h';simp at h'
 | some j =>
  rw[e,Option.map_some] at h';have h2:=zN h'
  split at h2
  ·rename_i B
   have:j=.free:=by
    rw[xM,xM] at B
    simpa using B.1.1
   exact .inr ⟨h2.symm,by rw[this]⟩
  ·exact .inl (by rw[h2])
def CompOk.cellsFrom_old(ok:CompOk X scope M)(I:Inv X pins σ H2 s2){C:Addr}{x:Str}{c:Addr}(h:(kg X scope C).lookup x=some c)(hx:scope.names.lookup x≠some .cell):X.env.cells.lookup x=some c:=by
 have Y:∀(l:List (Str × NameKind)) (n:Nat) (B:List (Str × Addr)),(x,NameKind.cell) ∉ l->(cellsFrom n l B).lookup x=B.lookup x:=by
  intro l
  induction l with
  |nil=>intro n B _;rfl
  | cons y r U =>
   intro n B J;obtain⟨m,k⟩:=y;unfold cellsFrom
   split
   ·rename_i hk
    have hk':k=.cell:=by simpa using hk
    rw[U _ _ λz=>J (zf _ z),we]
    have:(x == m)=false:=by
     cases W:x == m with
     |false=>rfl
     |true=>
      have e:x=m:=by simpa using W
      exact absurd (by rw[hk',e];exact zq) J
    rw[this]
   ·exact U _ _ λz=>J (zf _ z)
 unfold kg at h;rw[Y _ _ _ λhm=>hx (ok.uniq _ hm)] at h
 exact vM scope.names [] (ok.cells I) (λ_ _ z=>by simp at z) x c h
def Qa(ok:CompOk X scope M)(hc:X.calm=true)(I:Inv X pins σ H2 s2)(hf:∀b∈fp,FpOk X pins H2 b/\b<s2.heap.objs.size){C:Addr}(U:C=s2.heap.objs.size+1){h4:Heap}
  (hh:h4=pushCells ((s2.heap.push { cls:=.type "list",dict:=none,data:=.seq ([]:QqW).toArray }).push { cls:=.type "dict",data:=.dict #[] }) scope.names) :
  Inv (wn X scope own M C s2 H2 fp) [] (replicate own.length none++σ) H2 { s2 with heap:=h4 }:=by
 have zC:(s2.heap.push { cls:=.type "list",dict:=none,data:=.seq ([]:QqW).toArray }).objs.size=C:=by rw[xT,U]
 have Y:((s2.heap.push { cls:=.type "list",dict:=none,data:=.seq ([]:QqW).toArray }).push { cls:=.type "dict",data:=.dict #[] }).objs.size=C+1:=by rw[xT,zC]
 have keep:∀b o,s2.heap.get? b=some o->h4.get? b=some o:=λb o e=>by
  rw[hh];exact pushCells_keeps _ _ _ _ (zd _ (zd _ e))
 have cellOld:∀x c,X.env.cells.lookup x=some c->c<s2.heap.objs.size:=λx c e=>by obtain⟨v,q⟩:=I.cell x c e;exact q.lt
 have B:∀x c,(kg X scope C).lookup x=some c->(h4.IsCell c none/\C+1<=c/\scope.names.lookup x=some .cell)\/X.env.cells.lookup x=some c:=λx c e=>by
  by_cases hx:scope.names.lookup x=some .cell
  ·have e' := e;unfold kg at e';rw[<- Y] at e'
   rcases Qy _ _ _ x c e' with ⟨a,b,d⟩ |q
   ·exact .inl ⟨by rw[hh];exact a,by rw[Y] at b;exact b,hx⟩
   ·exact .inr (vM scope.names [] (ok.cells I) (λ_ _ z=>by simp at z) x c q)
  ·exact .inr (ok.cellsFrom_old I e hx)
 have ae:∃m,h4.Ns C m:=by
  have q:((s2.heap.push { cls:=.type "list",dict:=none,data:=.seq ([]:QqW).toArray }).push { cls:=.type "dict",data:=.dict #[] }).Ns C (λ_=>none):=by
   have:=Heap.Ns.new (s2.heap.push { cls:=.type "list",dict:=none,data:=.seq ([]:QqW).toArray }) (.type "dict");rw[zC] at this;exact this
  exact⟨_,q.keeps λb o e=>by rw[hh];exact pushCells_keeps _ _ _ _ e⟩
 have ac:∀b∈fp,b ∉ frs X.stack:=λb hb hx=>by
  obtain⟨⟨_,f1,f2,_⟩,_⟩:=hf b hb
  rcases zg.mp (I.stkSub b hx) with e |e
  ·exact f1 e
  ·exact f2 e
 obtain⟨mC,ad⟩:=ae
 refine⟨⟨I.ok.mod,ok.kind,I.ok.glob,I.ok.blt,?_,?_,?_,?_,I.ok.hd,I.ok.frames,.inl rfl,?_,I.bs,?_,?_,ac,I.stack,I.stkFree⟩,rfl,I.bare,Un.kept keep,⟨mC,ad,?_⟩,?_,I.hok.fresh (by show s2.heap.objs.size<=C;rw[U];exact xv _),?_,λp hp=>absurd (show p∈([]:QqL) from hp) (by simp),I.hok.kept keep,?_⟩
 ·show s2.heap.objs.size<=C;rw[U];exact xv _
 ·intro x y c h1 h2;refine Qw scope.names (C+1) (qc X.env scope.names []) (λa b d p q=>?_) (λa d p=>?_) x y c h1 h2
  ·exact I.ok.inj a b d (vM scope.names [] (ok.cells I) (λ_ _ z=>by simp at z) a d p) (vM scope.names [] (ok.cells I) (λ_ _ z=>by simp at z) b d q)
  ·have := cellOld a d (vM scope.names [] (ok.cells I) (λ_ _ z => by simp at z) a d p)
   rw[U];exact xX (xX this)
 ·intro x hx
  have go:∀k,(k=NameKind.cell\/k=NameKind.free)->(compEnvC scope (kg X scope C) C X.env).kindOf x=some k->∃c,(kg X scope C).lookup x=some c:=λk hk e=>by
   rcases ok.kindIn e with e |⟨_,e⟩
   ·rcases hk with rfl | rfl
    ·exact Qx _ _ _ (PySem.mem_of_lookup e)
    ·exact qT _ _ _ (kE (y:=(x,.free)) rfl _ _ (PySem.mem_of_lookup e))
   ·exact qT _ _ _ (kE (y:=(x,.free)) rfl _ _ (PySem.mem_of_lookup e))
  rcases hx with e |e
  ·exact go _ (.inl rfl) e
  ·exact go _ (.inr rfl) e
 ·intro x c hx h
  have hx':scope.names.lookup x=some .cell:=by simpa [wn] using hx
  have:=zA7 (x:=x) scope.names (C+1) (qc X.env scope.names []) (C+1) (zk _) (.inl (PySem.mem_of_lookup hx')) c h;show s2.heap.objs.size<=c
  exact zF (by rw[U];exact zF (xv _) (xv _)) this
 ·intro b hb;obtain⟨⟨_,_,_,_,f4,_⟩,f6⟩:=hf b hb;refine⟨?_,λx c h=>?_⟩
  ·show b≠C;rw[U];exact zJ (xX f6)
  ·rcases B x c h with ⟨_, q, _⟩ | q
   ·rw[U] at q;exact xF (zZ f6 (zF (zF (xv _) (xv _)) q))
   ·exact f4 x c q
 ·exact zF I.ok.bsz I.sz
 ·intro b o e hb;obtain⟨⟨_,_,_,f3,_⟩,_⟩:=hf b hb
  rcases f3 with z |z
  ·exact I.ok.noex b o e z
  ·exact absurd (zZ (zy (I.ok.bs b o e).1) z) (xD _)
 ·intro i x v h1 h2 h3;have h2':(replicate own.length (none:Option V)++σ)[i]?=some (some v):=h2
  have hi:own.length<=i:=by
   apply ya;intro aa
   rw[xn (by simpa using aa),xO] at h2'
   rw[if_pos aa] at h2';cases h2'
  rw[xb (by simpa using hi),xB] at h2'
  have h1':(own++M)[i]?=some x:=h1;rw[xb hi] at h1';obtain⟨n1,n2⟩:=ok.shadow x (wl h1')
  have W:scope.names.lookup x=some .free/\((compEnvC scope (kg X scope C) C X.env).kindOf x=some .cell\/(compEnvC scope (kg X scope C) C X.env).kindOf x=some .free):=by
   rcases h3 with e |e |e
   ·rcases ok.kindIn (x := x) (C := C) e with q | ⟨q, _⟩
    ·exact absurd q n1
    ·cases q
   ·rcases ok.kindIn (x := x) (C := C) e with q | ⟨_, q⟩
    ·exact absurd q n2
    ·exact⟨q,.inl e⟩
   ·rcases ok.kindIn (x := x) (C := C) e with q | ⟨q, _⟩
    ·exact⟨q,.inr e⟩
    ·cases q
  obtain⟨J,hk⟩:=W;obtain⟨m,hn,hl⟩:=I.loc;have ab:=ok.frees (x,.free) (PySem.mem_of_lookup J) rfl;have h1':=ok.same _ _ h1' J;obtain⟨u,ru,lk⟩:=hl (i-own.length) x v h1' h2' (ab.elim (λz=>.inr (.inl z)) λz=>.inr (.inr z));refine⟨u,ru,.inr ⟨hk,?_⟩⟩
  rcases lk with ⟨k,_⟩ |⟨_,c,ec,ic⟩
  ·rcases ab with z |z<;>(rw[k] at z;cases z)
  ·obtain ⟨c', e'⟩ : ∃ c', (kg X scope C).lookup x = some c' := qT _ _ _ (kE (y := (x, .free)) rfl _ _ (PySem.mem_of_lookup J));refine⟨c',e',?_⟩
   have:=ok.cellsFrom_old I e' (by rw[J];simp)
   have e2:some c=some c':=ec.symm.trans this;cases e2;exact ic.keeps keep
 ·intro x c h
  rcases B x c h with ⟨q,_⟩ |q
  ·exact⟨_,q⟩
  ·obtain⟨v,z⟩:=I.cell x c q;exact⟨v,z.keeps keep⟩
 ·intro x c h
  rcases B x c h with ⟨q,q2,_⟩ |q
  ·exact I.hok.fresh (by rw[U] at q2;exact zF (zF (xv _) (xv _)) q2)
  ·exact I.freeC x c q
 ·show(List.replicate own.length (none:Option V)++σ).length=(own++M).length;rw[zD,zD,xB,I.len,ok.mlen]
end
section
variable {X:Cx}{scope:Scope}{own M:List Str}{pins:QqL}{σ:St}{H2:Hp}{s2:Shared}{tg iter elt:Expr}{ifs:List Expr}{pos:Pos}{g:TG}{tt:TT}{te:TE}
def UL(ok:CompOk X scope M)(hc:X.calm=true)(hg:∀C s2 H2 Y,PG (wn X scope own M C s2 H2 Y) tg g)(ht:∀C s2 H2 Y,PTs (wn X scope own M C s2 H2 Y) ifs tt)(he:∀C s2 H2 Y,PE (wn X scope own M C s2 H2 Y) elt te)
  (I2:Inv X pins σ H2 s2) {it:Addr}{Y:List Addr}{tn:Nat->Heap->Prop}{J:It} (T:Turn X.prog X.w X.K tg J Y it tn) (ar:tn 0 s2.heap) (f2:∀b∈Y,FpOk X pins H2 b)
  {W:Nat->Nat->List V->Hp->Prop} (w0:∃m,W 0 m [] H2) {Qf:V->Hp->Prop}
  (turn : ∀ i m B H, W i m B H -> (J.stop i H /\ B.length <= sizeLine /\ ∀ D, H D = none -> Qf (.ref D) (upd H D (.lst B))) \/
   (J.go i H /\ B.length < sizeLine /\ ∀ x H', J.yld i H x H' -> g x (List.replicate own.length none ++ σ) H' λσ2 H2 => σ2.drop own.length = σ /\ tt σ2 H2 λc H3 =>
    if c=true then te σ2 H3 λv H4=>∃m',m'<m/\W (i+1) m' (B++[v]) H4 else ∃m',m'<m/\W (i+1) m' B H3))
  {RR:Value->Addr->Result->Shared->Prop}{E:QqV}
  (fin:∀D C H' s' m,Inv X pins σ H' s'->Qf (.ref D) H'->s'.heap.Ns C m->H' C=none->C≠X.env.locals->X.s₀.heap.objs.size<=C->(∀x c,X.env.cells.lookup x=some c->c≠C)->(∀p∈X.pn++pins,p.1≠C)->RR (.ref D) C (.ok .next) s') :
  wpAny (model X.prog X.w) X.A (newList []) (λB s3=>wpAny (model X.prog X.w) X.A (newFunctionEnv scope X.env.globals (qc X.env scope.names []) [] X.env.qual none .none (some X.env)) (λaf s4=>
   codeAny (model X.prog X.w) X.A (.compStart (.ListComp elt [⟨tg,iter,ifs,0⟩] scope pos) 0 (.ref it) B { af with scope:=relabel scope X.env }) (RR B af.locals) s4) E s3) E s2:=by
 refine xU (Zd ?_);have zC:(s2.heap.push { cls:=.type "list",dict:=none,data:=.seq ([]:QqW).toArray }).objs.size=s2.heap.objs.size+1:=xT ..;dsimp only;rw[zC];generalize hC:s2.heap.objs.size+1=C;generalize hh:pushCells ((s2.heap.push { cls:=.type "list",dict:=none,data:=.seq ([]:QqW).toArray }).push { cls:=.type "dict",data:=.dict #[] }) scope.names=h4
 have aA:∀b∈Y,FpOk X pins H2 b/\b<s2.heap.objs.size:=λb U=>by
  obtain⟨o,e,_⟩:=T.obj 0 _ ar b U;exact⟨f2 b U,zy e⟩
 have I4:Inv (wn X scope own M C s2 H2 Y) [] (replicate own.length none++σ) H2 { s2 with heap:=h4 }:=Qa ok hc I2 aA hC.symm hh.symm;generalize hX:wn X scope own M C s2 H2 Y=X' at I4
 have ah:∀b o,s2.heap.get? b=some o->h4.get? b=some o:=λb o e=>by
  rw[<- hh];exact pushCells_keeps _ _ _ _ (zd _ (zd _ e))
 have ay:h4.get? s2.heap.objs.size=some { cls:=.type "list",dict:=none,data:=.seq ([]:QqW).toArray }:=by
  rw[<- hh];exact pushCells_keeps _ _ _ _ (zd _ (zu _ rfl))
 have ao:tn 0 h4:=T.keep _ _ _ ar λb U o e=>ah b o e
 have gg:PG X' tg g:=by rw[<- hX];exact hg C s2 H2 Y
 have gt:PTs X' ifs tt:=by rw[<- hX];exact ht C s2 H2 Y
 have ge:PE X' elt te:=by rw[<- hX];exact he C s2 H2 Y
 have xP:X'.prog=X.prog:=by rw[<- hX];rfl
 have xw:X'.w=X.w:=by rw[<- hX];rfl
 have xK:X'.K=X.K:=by rw[<- hX];rfl
 have xA:X'.A=X.A:=by rw[<- hX];rfl
 have xc:X'.calm=true:=by rw[<- hX];exact hc
 have aa:X'.pn=[]:=by rw[<- hX];rfl
 have xs:X'.s₀=s2:=by rw[<- hX];rfl
 have xH:X'.H₀=H2:=by rw[<- hX];rfl
 have xL:X'.env.locals=C:=by rw[<- hX];rfl
 have aD:X'.fs=frs X.stack:=by rw[<- hX];rfl
 have ab:X'.ex=Y:=by rw[<- hX];rfl
 have xe:X'.xe=λ_ _=>False:=by rw[<- hX];rfl
 have am:({ newEnv scope C X.env.globals (cellsFrom (C+1) scope.names (qc X.env scope.names [])) X.env.qual none .none (some X.env) builtinsNs with scope:=relabel scope X.env }:Env)=X'.env:=by rw[<- hX];rfl
 have aB:s2.heap.objs.size<C:=by rw[<- hC];exact yu _
 have aj:∀{pl:QqL}{H:Hp},(∀b∈Y,H b=none)->(∀p∈pl,p.1 ∉ Y)->∀b∈Y,FpOk X' pl H b:=λ{pl H} hn ac b U=>by
  refine⟨hn b U,?_,?_,.inl (by rw[ab];exact U),λx c e=>(I4.ok.exf b (by rw[ab];exact U)).2 x c e,λp hp z=>?_⟩
  ·exact(I4.ok.exf b (by rw[ab];exact U)).1
  ·exact I4.ok.exfs b (by rw[ab];exact U)
  ·rw [aa, xg] at hp
   exact ac p hp (by rw[z];exact U)
 have aC:s2.heap.objs.size ∉ Y:=λz=>xD _ (aA _ z).2;have DC:s2.heap.objs.size≠C:=zJ aB
 have ak:∀x c,X'.env.cells.lookup x=some c->c≠s2.heap.objs.size:=λx c e z=>by
  obtain⟨v,o,q,hd⟩:=I4.cell x c e;rw[z] at q;have q':h4.get? s2.heap.objs.size=some o:=q;rw[ay] at q';cases q';cases hd
 have aL:s2.heap.objs.size ∉ X'.fs:=λz=>by
  obtain⟨_,o,ho,_⟩:=I4.ok.funs.mem (by exact z)
  rw[xs] at ho;exact xD _ (zy ho)
 rw[am]
 have ae:∀s5:Shared,s5={ s2 with heap:=h4 }->codeAny (model X.prog X.w) X.A (.compLoop (.ListComp elt [⟨tg,iter,ifs,0⟩] scope pos) 0 (.ref it) (.ref s2.heap.objs.size) X'.env) (RR (.ref s2.heap.objs.size) C) s5:=by
  rintro s5 rfl;obtain⟨m0,w0⟩:=w0
  refine zp4 (λn s'=>∃i B σ' H' its k,Inv X' [] σ' H' s'/\σ'.drop own.length=σ/\tn i s'.heap/\(∀b∈Y,H' b=none)/\H' s2.heap.objs.size=none /\
   s'.heap.get? s2.heap.objs.size=some { cls:=.type "list",data:=.seq (List.toArray its) k }/\Vals B its/\W i n B H') ?_ m0
   ⟨0,[],_,H2,[],0,I4,by simp,ao,λb U=>(f2 b U).1,I2.hok.fresh (zk _),ay,.nil,w0⟩
  rintro n s3 ⟨i,B,σ3,H3,its,k,I3,hσ,aq,az,hD,aG,rv,w3⟩
  have av:∀{H:Hp}{s:Shared}{σ:St},Inv X' [] σ H s->H s2.heap.objs.size=none->s.heap.get? s2.heap.objs.size=some { cls:=.type "list",data:=.seq (List.toArray its) k } ->
    Inv X' [(s2.heap.objs.size,{ cls:=.type "list",data:=.seq (List.toArray its) k })] σ H s:=λ{H s σ} I hn ho=>I.pins_of λp hp=>by
   have e:p=(s2.heap.objs.size,{ cls:=.type "list",data:=.seq (List.toArray its) k }):=by simpa using hp
   subst e
   exact⟨ho,hn,by rw[xL];exact DC,aL,λv z=>by cases z⟩
  have plD:∀p∈[((s2.heap.objs.size,{ cls:=.type "list",data:=.seq (List.toArray its) k }):Addr × Obj)],p.1 ∉ Y:=λp hp=>by
   have e:p=(s2.heap.objs.size,{ cls:=.type "list",data:=.seq (List.toArray its) k }):=by simpa using hp
   subst e;exact aC
  have I3':=av I3 hD aG
  rcases turn i n B H3 w3 with ⟨stop,hsz,q⟩ |⟨go,hsz,step⟩
  ·have := T.done X' xP xw xK xc i _ s3 σ3 H3 (λ_ _ => False) I3' (aj az plD) aq stop;rw[xA] at this;refine thn this λr s4 ⟨hr,I5⟩=>?_;subst hr
   have ax:=(I5.pin (s2.heap.objs.size,{ cls:=.type "list",data:=.seq (List.toArray its) k }) (by rw[aa];simp)).1
   have un:Un (frs X.stack) Y H2 H3 s2.heap s4.heap:=by
    have:=I5.base;rw[aD,ab,xH,xs] at this;exact this
   have os:s4.os=s2.os:=by rw[I5.os,xs]
   have hok:HOk X.prog X.w H3 s4.heap:=by have:=I5.hok;rw[xP,xw] at this;exact this
   have IX:Inv X pins σ H3 s4:=I2.call' os un hok I5.bare λb U=>by
    obtain⟨_,f1,_,f3,f4,f5⟩:=f2 b U;exact⟨f3,f1,f4,f5⟩
   have old:∀{b:Addr},s2.heap.objs.size<=b->(X.s₀.heap.objs.size<=b/\b≠X.env.locals/\(∀x c,X.env.cells.lookup x=some c->c≠b)/\∀p∈X.pn++pins,p.1≠b):=λ{b} U=>by
    obtain⟨_,f1,_,f3,f4,f5⟩:=I2.fpOk (H':=λ_=>none) U rfl;exact⟨zF I2.sz U,f1,f4,f5⟩
   obtain⟨d1,d2,d3,d4⟩:=old (zk s2.heap.objs.size);obtain⟨c1,c2,c3,c4⟩:=old (b:=C) (xG aB);have IY:Inv X pins σ (upd H3 s2.heap.objs.size (.lst B)) s4:=IX.track hD d1 d2 d3 d4 ⟨hsz,its,k,rv,ax⟩;obtain⟨m,hm,_⟩:=I5.loc;rw[xL] at hm
   have aH:H3 C=none:=by have:=I5.free;rw[xL] at this;exact this
   exact fin _ C _ s4 m IY (q _ hD) hm (by rw[wB (Ne.symm DC)];exact aH) c2 c1 c3 c4
  ·have := T.item X' xP xw xK xc i _ s3 σ3 H3 (λ_ _ => False) I3' (aj az plD) aq go;rw[xA] at this;refine thn this λr s4 ⟨u,hr,h4⟩=>?_;subst hr;refine thn h4 λ_ s5 ⟨x,H5,I5,r5,y5,ag,aI⟩=>?_
   have aE:∀(j:Nat) v,(replicate own.length none++σ)[j]?=some (some v)->σ3[j]?=some (some v):=λj v e=>by
    by_cases ai:j<own.length
    ·rw [xn (by simpa using ai), xO, if_pos ai] at e
     cases e
    ·have aF := ya ai
     rw[xb (by simpa using aF),xB,<- hσ,xZ] at e
     rw[show own.length+(j-own.length)=j by lia] at e
     exact e
   have aw:(replicate own.length none++σ).length=σ3.length:=by
    have e1:σ3.length=X'.N.length:=I5.len;have e2:=I4.len;exact e2.trans e1.symm
   have aJ:Inv X' _ (replicate own.length none++σ) H5 s5:=I5.weak aw aE;have aK:=aJ.pinned (aj aI plD) (T.obj _ _ ag);have a1:=gg _ s5 _ H5 x u _ aK r5 (step x H5 y5);rw[xP,xw,xA,xe] at a1;refine thn a1 λ_ s6 ⟨σ6,H6,I6,d6,q6⟩=>?_;have a2:=gt _ s6 σ6 H6 _ I6 q6;rw[xP,xw,xA,xe] at a2;refine thn a2 λb s7 ⟨H7,I7,q7⟩=>?_
   have ad:∀{H:Hp}{s:Shared},Inv X' ([((s2.heap.objs.size,{ cls:=.type "list",data:=.seq (List.toArray its) k }):Addr × Obj)]++qX Y s5.heap) σ6 H s ->
     (tn (i+1) s.heap/\(∀b∈Y,H b=none)/\H s2.heap.objs.size=none/\s.heap.get? s2.heap.objs.size=some { cls:=.type "list",data:=.seq (List.toArray its) k }/\Inv X' [] σ6 H s):=λ{H s} I=>by
    refine⟨T.keep _ _ _ ag λb U o e=>(I.pin (b,o) (zr _ (zr _ (vE U e)))).1,λb U=>?_,?_,?_,I.pins_of λp hp=>by simp at hp⟩
    ·obtain⟨o,e,d⟩:=T.obj _ _ ag b U;exact(I.pin (b,o) (zr _ (zr _ (vE U e)))).2.1
    ·exact(I.pin (s2.heap.objs.size,{ cls:=.type "list",data:=.seq (List.toArray its) k }) (by rw[aa];simp)).2.1
    ·exact(I.pin (s2.heap.objs.size,{ cls:=.type "list",data:=.seq (List.toArray its) k }) (by rw[aa];simp)).1
   cases b with
   |false=>
    obtain⟨p1,p2,p3,p4,p5⟩:=ad I7;obtain⟨m',hm,w7⟩:=q7;exact⟨m',hm,i+1,B,σ6,H7,its,k,p5,d6,p1,p2,p3,p4,rv,w7⟩
   |true=>
    rw[if_pos rfl] at q7 ⊢;have a3:=ge _ s7 σ6 H7 _ I7 q7;rw[xP,xw,xA,xe] at a3;refine thn a3 λy s8 ⟨v,H8,I8,r8,q8⟩=>?_;obtain⟨p1,p2,p3,p4,p5⟩:=ad I8;obtain⟨m',hm,w8⟩:=q8;have hl:=rv.length
    refine wpAny_list_append_plain (items:=List.toArray its) ⟨k,p4⟩ (λh' ac hs=>?_) (by simp;lia)
    obtain⟨k',ac⟩:=ac
    have I9:Inv X' [] σ6 H8 { s8 with heap:=h' }:=p5.turned (t':=s8.toks) (λb o U e=>hs.extBut b o U e) p3 (by rw[xL];exact DC) (.inr (by rw[xs];exact zk _)) ak (λp hp=>by rw[aa] at hp;simp at hp)
    refine⟨m',hm,i+1,B++[v],σ6,H8,its++[y],k',I9,d6,T.keep _ _ _ p1 λb U o e=>hs.extBut b o (λz=>aC (by rw[<- z];exact U)) e,p2,p3,?_,rv.append (.cons r8 .nil),w8⟩
    rw[ac];simp
 exact codeAny_compStart_list (ae _ rfl) (T.self _ 0 _ _ _ ao (ae _ rfl))
def zL3{wi:TI}(ok:CompOk X scope M)(hc:X.calm=true)(hi:PI X tg iter wi)(hg:∀C s2 H2 B,PG (wn X scope own M C s2 H2 B) tg g)(ht:∀C s2 H2 B,PTs (wn X scope own M C s2 H2 B) ifs tt)
  (he:∀C s2 H2 B,PE (wn X scope own M C s2 H2 B) elt te) (hs:∀x,foldedSetIterable iter X.env x=pure x:=by intro _;rfl) :
  PE X (.ListComp elt [⟨tg,iter,ifs,0⟩] scope pos) (zs3 wi own.length g tt te):=by
 intro pins s σ H Q I h;rw[eval_ListComp]
 refine yl (use:=none) rfl hs (YF (ok.cells I)) ok.kind (λx hx hl=>by rw[ok.uniq x hx,hl]) ?_
 refine thn (hi pins s σ H _ I h) λv s1 h1=>thn h1 λaa s2 h2=>?_;obtain⟨it,B,tn,J,H2,e,I2,T,U,f2,W,w0,turn⟩:=h2;subst e;refine UL (Qf:=Q) ok hc hg ht he I2 T U f2 w0 turn λD C H' s' m IY q hm Y c2 c1 c3 c4=>⟨m,hm,λh' hs'=>?_⟩;exact⟨.ref D,H',IY.turned (t':=s'.toks) (λb o hb e=>hs'.extBut b o hb e) Y c2 (.inr c1) c3 c4,rfl,q⟩
def QO{wi:TI}{i:Nat}{x:Str}{pos' B:Pos}(hN:X.N.Nodup)(ac:X.N[i]?=some x)(hx:Loc X.env.scope x)(ok:CompOk X scope M)(hc:X.calm=true)(hi:PI X tg iter wi)(hg:∀C s2 H2 U,PG (wn X scope own M C s2 H2 U) tg g)
  (ht:∀C s2 H2 U,PTs (wn X scope own M C s2 H2 U) ifs tt) (he:∀C s2 H2 U,PE (wn X scope own M C s2 H2 U) elt te)
  (aa:swapsWith (.ListComp elt [⟨tg,iter,ifs,0⟩] scope pos) (some (.Name x pos')) B.line X.env=pure true:=by rfl) (hf:X.fn x=true\/X.env.scope.names.lookup x=some .local:=by first |exact .inl rfl |exact .inr rfl |assumption)
  (hs:∀x,foldedSetIterable iter X.env x=pure x:=by intro _;rfl):PS X (.Assign [.Name x pos'] (.ListComp elt [⟨tg,iter,ifs,0⟩] scope pos) B) (xo3 (zs3 wi own.length g tt te) (zz4 i)):=by
 intro pins s σ H D I h;rw[exec_Assign_Name_used _ _ _ _ aa];refine zb (wg (zb ?_))
 show wpAny _ _ (do let _ <- comprehension (.ListComp elt [⟨tg,iter,ifs,0⟩] scope pos) scope X.env _ (newList []) false (eval iter X.env) (some (assign (.Name x pos') X.env))) _ _ s
 refine zb (thn (yl (use:=some (assign (.Name x pos') X.env)) (Q:=λ_ s'=>SP X pins D .next s') rfl hs (YF (ok.cells I)) ok.kind (λx hx hl=>by rw[ok.uniq x hx,hl]) ?_)
  λ_ s' hq=>ze (ze hq))
 refine thn (hi pins s σ H _ I h) λv s1 h1=>thn h1 λaf s2 h2=>?_;obtain⟨it,U,tn,J,H2,e,I2,T,Y,f2,W,w0,turn⟩:=h2;subst e;refine UL (Qf:=λx H1=>zz4 i x σ H1 D.nx) ok hc hg ht he I2 T Y f2 w0 turn λD' C H' s' m IY q hm ad c2 c1 c3 c4=>?_;show wpAny _ _ (assign (.Name x pos') X.env (.ref D')) _ _ s';refine wpAny_assign_Name (VE IY hN ac hx (v:=.ref D') rfl (λs'' I'' ⟨a,ab,ha⟩=>?_) hf)
 have ae:C≠a:=by
  rcases ha with z |z
  ·rw[z];exact c2
  ·exact λe=>c3 x a z e.symm
 exact⟨m,hm.sameBut ab ae,λh' hs'=>⟨_,H',I''.turned (t':=s''.toks) (λb o hb e=>hs'.extBut b o hb e) ad c2 (.inr c1) c3 c4,q⟩⟩
end
section
variable {X:Cx}{pins:QqL}{σ:St}{H:Hp}{s:Shared}
def Inv.turnedL{t':Nat}{h':Heap}{ch:List Addr}(I:Inv X pins σ H s)(k:∀b o,b ∉ ch->s.heap.get? b=some o->h'.get? b=some o)(U:∀b∈ch,FpOk X pins H b):Inv X pins σ H { s with heap:=h',toks:=t' }:=by
 have J:∀b u,H b=some u->b ∉ ch:=λb u e z=>by rw[(U b z).1] at e;cases e
 refine I.step (g':=s.gens) (d':=s.drawn) (ch:=ch) (λb Y=>?_) (λb o _ _ B e _=>k b o B e) (λb o _ _ B e _=>⟨o.slots,k b o B e⟩) (λ_ _ _ _ n=>n)
  (λb o B e=>⟨o,k b o B e⟩) (λ_ _ e=>e) (λ_ _ _ e=>e) (λb ps e=>⟨#[],by rw[e];simp⟩) (λm hm=>?_) (λb u e=>?_) I.bare
 ·obtain⟨_,f1,_,f3,f4,f5⟩:=U b Y;exact⟨f3,f1,f4,f5⟩
 ·obtain⟨o,es,ep,W,r⟩:=hm;exact⟨o,es,ep,k _ o (λz=>(U _ z).2.1 rfl) W,r⟩
 ·refine (I.hok b u e).stay (λc v B q => k c v ?_ q) (λ_ q => q) λ_ _ q => q
  rcases B with z |z
  ·rw[z];exact J b u e
  ·exact J c _ z
def SqB(K:W.Frag)(b:Bool)(H:Hp)(a:Addr)(xs:List V):Prop:=match b with |true=>SqL K H a xs |false=>SqT K H a xs
def Inv.seqB{b:Bool}{a:Addr}{xs:List V}(I:Inv X pins σ H s)(h:SqB X.K b H a xs):∃its:List Value,Vals xs its/\SeqIs b s.heap a its.toArray:=by
 cases b with
 |true=>obtain⟨its,r,p,_⟩:=I.list h;exact⟨its,r,p.isList⟩
 |false=>obtain⟨its,r,p,_⟩:=I.tuple h;exact⟨its,r,p⟩
def Inv.seqB_inj{b:Bool}{a:Addr}{xs B:List V}(I:Inv X pins σ H s)(h:SqB X.K b H a xs)(h':SqB X.K b H a B):xs=B:=by
 cases b with
 |true=>exact I.list_inj h h'
 |false=>exact I.tuple_inj h h'
def Inv.ne_fp{b:Bool}{a c:Addr}{xs:List V}(I:Inv X pins σ H s)(h:SqB X.K b H a xs)(J:FpOk X pins H c):a≠c:=by
 have old:∀o,X.K.lookup a=some o->a≠c:=λo e z=>by
  have B:=I.ok.mod.kin a o e;rw[z] at B;obtain⟨_,_,_,U,_⟩:=J
  rcases U with q |q
  ·exact I.ok.noex c o B q
  ·exact absurd (zZ (zy (I.ok.bs c o B).1) q) (xD _)
 have trk:∀u,H a=some u->a≠c:=λu e=>vz e J.1
 cases b with
 |true=>
  rcases h with (h |⟨o,h⟩) |⟨o,_,_,hk,_⟩
  ·exact trk _ h
  ·exact trk _ h
  ·exact old o hk
 |false=>
  rcases h with (h |⟨o,h⟩) |⟨o,_,_,hk,_⟩
  ·exact trk _ h
  ·exact trk _ h
  ·exact old o hk
def Itz(K:W.Frag)(b c:Bool)(l1 l2:Addr):It:=
  ⟨λi H=>∃xs B x y,SqB K b H l1 xs/\SqB K c H l2 B/\xs[i]?=some x/\B[i]?=some y,
   λi H v H'=>∃T,H T=none/\v=.ref T/\∀xs B,SqB K b H l1 xs->SqB K c H l2 B->∃x y,xs[i]?=some x/\B[i]?=some y/\H'=upd H T (.tup [x,y]),
   λi H=>∃xs B,SqB K b H l1 xs/\SqB K c H l2 B/\(xs.length<=i\/B.length<=i)⟩
def newTup{T:Addr}{x y:V}{u v:Value}{B:Shared}(I:Inv X pins σ H s)(I1:Inv X pins σ H B)(J:s.heap.objs.size<=T)(hn:H T=none)(Y:B.heap.get? T=some { cls:=.type "tuple",data:=.seq #[u,v] })(W:RelV x u)(U:RelV y v) :
  Inv X pins σ (upd H T (.tup [x,y])) B:=by
 obtain⟨_,f1,_,f3,f4,f5⟩:=I.fpOk (H':=H) J hn
 exact I1.track hn (zF I.sz J) f1 f4 f5 ⟨(by show 2<=sizeLine;decide),[u,v],.cons W (.cons U .nil),⟨_,Y,rfl,_,rfl⟩⟩
def zs0{P:Program}{w:World}{K:W.Frag}{es:List Expr}{kk:Nat}{ps:Pos}{b c:Bool}{z ti to i1 i2 l1 l2:Addr}(D:ZApart z ti to i1 i2) :
  Turn P w K (.Tuple es kk ps) (Itz K b c l1 l2) [z,ti,to,i1,i2] z (λi h=>ZSt b c z ti to i1 i2 l1 l2 i h) where
 mem:=by simp
 obj:=λi h st d hd=>by
  have nc:∀{o:Obj}{vs:Array Value},o.data=.fields vs->∀v,o.data≠.cell v:=λe v q=>by rw[e] at q;cases q
  simp only[zg,xk,or_false] at hd
  rcases hd with rfl |rfl |rfl |rfl |rfl
  ·exact⟨_,st.z,λv q=>by cases q⟩
  ·exact⟨_,st.ti,λv q=>by cases q⟩
  ·obtain ⟨u, v, e⟩ := st.to
   exact⟨_,e,λv q=>by cases q⟩
  ·obtain⟨o,e,_,hd⟩:=st.i1.obj;exact⟨o,e,nc hd⟩
  ·obtain⟨o,e,_,hd⟩:=st.i2.obj;exact⟨o,e,nc hd⟩
 keep:=λi h h' st k=>by
  obtain⟨u,v,e⟩:=st.to
  exact⟨k z (by simp) _ st.z,k ti (by simp) _ st.ti,⟨u,v,k to (by simp) _ e⟩,st.i1.at λo q=>k i1 (by simp) o q,st.i2.at λo q=>k i2 (by simp) o q⟩
 item:=by
  intro X hP hw hK hc i pins s σ H E I Y st hg;subst hP hw hK;obtain⟨xs,ys,x,y,U,J,hx,hy⟩:=hg;obtain⟨ac,r1,p1⟩:=I.seqB U;obtain⟨ab,r2,p2⟩:=I.seqB J;obtain⟨u,hu,ru⟩:=r1.get hx;obtain⟨v,hv,rv⟩:=r2.get hy
  have B:=Y to (by simp)
  refine zy3 D st p1 p2 (I.ne_fp U B) (I.ne_fp J B) (x:=u) (y:=v) (by simpa using hu) (by simpa using hv) λh' M hT kp=>?_
  have lt:∀{d:Addr},d∈[z,ti,to,i1,i2]->s.heap.objs.size≠d:=λ{d} hd e=>by
   obtain⟨o,q⟩:∃o,s.heap.get? d=some o:=by
    simp only[zg,xk,or_false] at hd
    rcases hd with rfl |rfl |rfl |rfl |rfl
    ·exact⟨_,st.z⟩
    ·exact⟨_,st.ti⟩
    ·obtain⟨u,v,e⟩:=st.to;exact⟨_,e⟩
    ·obtain⟨o,e,_⟩:=st.i1.obj;exact⟨o,e⟩
    ·obtain⟨o,e,_⟩:=st.i2.obj;exact⟨o,e⟩
   have:=zy q;rw[<- e] at this;exact xD _ this
  refine⟨_,rfl,wpAny_letOwnedTupleGo_zip (s:={ s with heap:=h' }) M.z λh'' z' sb=>?_⟩
  have aa:∀d o,d ∉ [z,ti,to,i1,i2]->s.heap.get? d=some o->h''.get? d=some o:=λd o hd e=>by
   simp only[zg,xk,or_false,not_or] at hd;exact sb.extBut _ _ hd.1 (kp d o hd.1 hd.2.2.1 hd.2.2.2.1 hd.2.2.2.2 e)
  have I1:Inv X pins σ H { s with heap:=h'' }:=I.turnedL (t':=s.toks) aa Y;have hn:H s.heap.objs.size=none:=I.hok.fresh (zk _)
  have I2:Inv X pins σ (upd H s.heap.objs.size (.tup [x,y])) { s with heap:=h'' }:=newTup I I1 (zk _) hn (sb.extBut _ _ (lt (by simp)) hT) ru rv
  obtain⟨u',v',ad⟩:=M.to
  refine⟨.ref s.heap.objs.size,_,I2,rfl,⟨_,hn,rfl,λxs' ys' e1 e2=>⟨x,y,by rw[I.seqB_inj e1 U];exact hx,by rw[I.seqB_inj e2 J];exact hy,rfl⟩⟩,?_,λd hd=>?_⟩
  ·exact⟨z',sb.extBut _ _ D.a1 M.ti,⟨u',v',sb.extBut _ _ D.a2 ad⟩,M.i1.at λo e=>sb.extBut _ _ D.a3 e,M.i2.at λo e=>sb.extBut _ _ D.a4 e⟩
  ·rw[wB (Ne.symm (lt hd))];exact(Y d hd).1
 done:=by
  intro X hP hw hK hc i pins s σ H E I Y st hg;subst hP hw hK;obtain⟨xs,ys,U,J,hx⟩:=hg;obtain⟨ac,r1,p1⟩:=I.seqB U;obtain⟨ab,r2,p2⟩:=I.seqB J
  have B:=Y to (by simp)
  have e1:=r1.length;have e2:=r2.length
  refine Um (I.ok.hd hc) D st p1 p2 (I.ne_fp U B) (I.ne_fp J B) (hx.imp (λz=>by simp;lia) λz=>by simp;lia) λh' kp=>⟨rfl,I.turnedL (t':=s.toks) (λd o hd e=>?_) Y⟩
  simp only[zg,xk,or_false,not_or] at hd;exact kp d o hd.1 hd.2.2.1 hd.2.2.2.1 hd.2.2.2.2 e
 self:=λ_ _ _ _ _ st h=>wpAny_pyIter_zip st.z h
def xP0(K:W.Frag)(J:TA):TI:=λσ H R=>J σ H λvs B=>∃b c l1 l2 xs I,vs=[.ref l1,.ref l2]/\SqB K b B l1 xs/\SqB K c B l2 I/\R (Itz K b c l1 l2) B
def zY6{es:List Expr}{kk:Nat}{ps:Pos}{a b:Expr}{Y:TA}{p pos:Pos}(hg:Gl X "zip")(hm:X.mg "zip" = none)(ha:PA X [a,b] Y)(hs:starEach [a,b] X.env=[(false,eval a X.env),(false,eval b X.env)]:=by rfl)(B:starEach [b] X.env=[(false,eval b X.env)]:=by rfl) :
  PI X (.Tuple es kk ps) (.Call (.Name "zip" p) [a,b] [] pos) (xP0 X.K Y):=by
 intro pins s σ H R I h
 refine Call_ (Xs I hg hm boot_zip (PyProof.Rows.callWith_type1 (thn (ha pos pins s σ H _ I h) λus s1 ⟨vs,H1,J,r1,W⟩=>?_) (by rw[hs,B]) (by rw[B];rfl)))
 obtain⟨bb,cc,l1,l2,xs,ys,e,W,q2,q⟩:=W;subst e
 cases r1 with
 | cons r U =>
  cases U with
  |cons r' U=>
   cases U;cases r;cases r';obtain⟨ab,r1,p1⟩:=J.seqB W;obtain⟨aa,r2,p2⟩:=J.seqB q2;refine zA8 p1 p2 λh' z ti to i1 i2 D S new kp=>wpAny_pyIter_zip S.z ?_;exact⟨z,[z,ti,to,i1,i2],_,_,H1,rfl,J.kept (t':=s1.toks) kp,zs0 D,S,λd hd=>J.fpOk (new d hd) (J.hok.fresh (new d hd)),q⟩
def Vals.bools{us:QqW}:∀{bs:List Bool},Vals (bs.map V.bl) us->us=bs.map Value.bool:=by
 induction us with
 |nil=>intro bs h;cases bs with |nil=>rfl |cons=>cases h
 | cons u us B =>
  intro bs h
  cases bs with
  |nil=>cases h
  | cons b bs =>
   cases h with
   |cons r t=>
    have e:u=Value.bool b:=r;rw[e,B t];rfl
def zH5(bs:List Bool):((List.range bs.length).all λi=>(bs[i]?).getD true)=bs.all id:=by
 rw[Bool.eq_iff_iff,yz,yz]
 constructor
 ·intro h b B;obtain⟨i,hi,e⟩:=List.mem_iff_getElem.mp B;have:=h i (yY.mpr hi);rw[zn hi,e] at this;exact this
 ·intro h i hi;have hi':=yY.mp hi;rw[zn hi'];exact h _ (yw hi')
def zi5{h h':Heap}{o:Obj}(hk:∀b x,b ∉ [h.objs.size]->(h.push o).get? b=some x->h'.get? b=some x):∀b x,h.get? b=some x->h'.get? b=some x:=
 λb x e=>hk b x (λz=>absurd (zy e) (by rw[zw.mp z];exact xD _)) (zd _ e)
def zA9(Y:X.calm=true):qC X (.builtin "all") (λxs H Q=>∃(p:Addr) (bs:List Bool),xs=[.ref p]/\SqL X.K H p (bs.map V.bl)/\Q (.bl (bs.all id)) H):=by
 intro pins s σ H xs us Q I r h;obtain⟨p,bs,rfl,W,q⟩:=h
 cases r with
 | cons r U =>
  cases U;cases r;obtain⟨its,rv,pl,_⟩:=I.list W;have ei:=Vals.bools rv;subst ei;have J:=pl.isList
  have B:p<s.heap.objs.size:=by obtain⟨_,e,_⟩:=J;exact zy e
  refine call_all_walk (yQ J ⟨s.heap.objs.size,[s.heap.objs.size,p],[s.heap.objs.size],(bs.map Value.bool).toArray.size,_,_,λi=>(bs[i]?).getD true,rfl,
   Walks.list (A:=X.A.in1) (I.ok.hd Y) _ p (zJ B) _,⟨⟨_,zu _ rfl,rfl,rfl⟩,J.push _⟩,λi v s' Q' E' hP hQ=>?_,λh' tk hk=>?_⟩)
  ·have hP' : (bs.map Value.bool)[i]? = some v := by simpa using hP
   rw[zI] at hP'
   cases e:bs[i]? with
   |none=>rw[e] at hP';cases hP'
   |some b=>
    rw[e] at hP';have hQ':Q' ((bs[i]?).getD true) s':=hQ;rw[e] at hQ';cases hP';exact yo hQ'
  ·refine⟨.bl (bs.all id),H,I.kept (zi5 hk),?_,q⟩;show Value.bool _=Value.bool _;rw[zE,zh,zH5]
def xz8(T:String):V->Bool
 |.bl _=>T == "bool" || T == "int"
 |.int _=>T == "int"
 |.str _=>T == "str"
 |_=>false
def xC4(K:W.Frag)(T:String)(x:V)(H:Hp)(Q:VK):Prop:=match x with
 |.ref a=>(∃xs,SqT K H a xs/\Q (.bl (T == "tuple")) H)\/(∃xs,SqL K H a xs/\Q (.bl (T == "list")) H)\/(∃kvs,H a=some (.dK kvs)/\Q (.bl false) H)
 |.non=>Q (.bl false) H
 |.bl b=>Q (.bl (xz8 T (.bl b))) H
 |.int i=>Q (.bl (xz8 T (.int i))) H
 |.str i=>Q (.bl (xz8 T (.str i))) H
 |_=>False
def ZC:qC X (.builtin "isinstance") (λxs H Q=>∃x T,xs=[x,.ty T]/\(T = "bool" \/ T = "int" \/ T = "str" \/ T = "tuple" \/ T = "list")/\xC4 X.K T x H Q):=by
 intro pins s σ H xs us Q I r h;obtain⟨x,T,rfl,J,q⟩:=h
 cases r with
 | cons r W =>
  cases W with
  | cons r' W =>
   cases W;cases r'
   cases x with
   |non=>
    cases r
    rcases J with rfl |rfl |rfl |rfl |rfl
    ·exact IsiPair.NoneType_bool ⟨.bl false,H,I.tok _,rfl,q⟩
    ·exact IsiPair.NoneType_int ⟨.bl false,H,I.tok _,rfl,q⟩
    ·exact IsiPair.NoneType_str ⟨.bl false,H,I.tok _,rfl,q⟩
    ·exact IsiPair.NoneType_tuple ⟨.bl false,H,I.tok _,rfl,q⟩
    ·exact IsiPair.NoneType_list ⟨.bl false,H,I.tok _,rfl,q⟩
   |bl b=>
    cases r
    rcases J with rfl |rfl |rfl |rfl |rfl
    ·exact IsiPair.bool_bool ⟨.bl true,H,I,rfl,q⟩
    ·exact IsiPair.bool_int ⟨.bl true,H,I,rfl,q⟩
    ·exact IsiPair.bool_str ⟨.bl false,H,I.tok _,rfl,q⟩
    ·exact IsiPair.bool_tuple ⟨.bl false,H,I.tok _,rfl,q⟩
    ·exact IsiPair.bool_list ⟨.bl false,H,I.tok _,rfl,q⟩
   |int i=>
    obtain⟨t,rfl⟩:=r
    rcases J with rfl |rfl |rfl |rfl |rfl
    ·exact IsiPair.int_bool ⟨.bl false,H,I.tok _,rfl,q⟩
    ·exact IsiPair.int_int ⟨.bl true,H,I,rfl,q⟩
    ·exact IsiPair.int_str ⟨.bl false,H,I.tok _,rfl,q⟩
    ·exact IsiPair.int_tuple ⟨.bl false,H,I.tok _,rfl,q⟩
    ·exact IsiPair.int_list ⟨.bl false,H,I.tok _,rfl,q⟩
   |str i=>
    obtain⟨t,rfl⟩:=r
    rcases J with rfl |rfl |rfl |rfl |rfl
    ·exact IsiPair.str_bool ⟨.bl false,H,I.tok _,rfl,q⟩
    ·exact IsiPair.str_int ⟨.bl false,H,I.tok _,rfl,q⟩
    ·exact IsiPair.str_str ⟨.bl true,H,I,rfl,q⟩
    ·exact IsiPair.str_tuple ⟨.bl false,H,I.tok _,rfl,q⟩
    ·exact IsiPair.str_list ⟨.bl false,H,I.tok _,rfl,q⟩
   |byt _=>exact q.elim
   |flt _=>exact q.elim
   |ty _=>exact q.elim
   | ref a =>
    cases r
    rcases q with ⟨Y,U,q⟩ |⟨Y,U,q⟩ |⟨kvs,U,q⟩
    ·obtain ⟨its, rv, ⟨o, e, B, n, hd⟩, _⟩ := I.tuple U
     rcases J with rfl |rfl |rfl |rfl |rfl
     ·exact IsiPair.tuple_bool e B ⟨.bl false,H,I.tok _,rfl,q⟩
     ·exact IsiPair.tuple_int e B ⟨.bl false,H,I.tok _,rfl,q⟩
     ·exact IsiPair.tuple_str e B ⟨.bl false,H,I.tok _,rfl,q⟩
     ·exact IsiPair.tuple_tuple e B ⟨.bl true,H,I,rfl,q⟩
     ·exact IsiPair.tuple_list e B ⟨.bl false,H,I.tok _,rfl,q⟩
    ·obtain ⟨its, rv, ⟨o, n, e, B, hd, hs⟩, _⟩ := I.list U
     rcases J with rfl |rfl |rfl |rfl |rfl
     ·exact IsiPair.list_bool e B ⟨.bl false,H,I.tok _,rfl,q⟩
     ·exact IsiPair.list_int e B ⟨.bl false,H,I.tok _,rfl,q⟩
     ·exact IsiPair.list_str e B ⟨.bl false,H,I.tok _,rfl,q⟩
     ·exact IsiPair.list_tuple e B ⟨.bl false,H,I.tok _,rfl,q⟩
     ·exact IsiPair.list_list e B ⟨.bl true,H,I,rfl,q⟩
    ·obtain ⟨_, _, vs, _, p⟩ := (show ObjOk X.prog X.w H s.heap a (.dK kvs) from I.hok a _ U);obtain⟨o,es,ep,e,h2,_⟩:=p;have B:=h2.1
     rcases J with rfl |rfl |rfl |rfl |rfl
     ·exact IsiPair.dict_bool e B ⟨.bl false,H,I.tok _,rfl,q⟩
     ·exact IsiPair.dict_int e B ⟨.bl false,H,I.tok _,rfl,q⟩
     ·exact IsiPair.dict_str e B ⟨.bl false,H,I.tok _,rfl,q⟩
     ·exact IsiPair.dict_tuple e B ⟨.bl false,H,I.tok _,rfl,q⟩
     ·exact IsiPair.dict_list e B ⟨.bl false,H,I.tok _,rfl,q⟩
end
section
variable (P:Program) (w:World)
end
section
variable {P:Program}{w:World}{H H':Hp}{h h':Heap}{a:Addr}{o:HO}
end
section
variable {P:Program}{w:World}{H:Hp}{h h':Heap}{x e:Addr}{o':HO}
end
section
variable {fs fs' ex ex':List Addr}{H H1 H2:Hp}{h h1 h2 h':Heap}{a x e:Addr}{o:HO}
end
section
variable {X:Cx}{pins:QqL}{σ:List (Option V)}{H H':Hp}{s:Shared}{h':Heap}
end
section
variable {X:Cx}
variable {a b:Expr}{ta tb:TE}{pos:Pos}
variable {tA tB':TT}{rest:List Expr}
end
section
variable {X:Cx}{pins:QqL}{σ:St}{H:Hp}{s:Shared}{a:Addr}{xs ys:List V}
end
section
variable {X:Cx}{pins:QqL}{σ:St}{H:Hp}{s:Shared}{E:QqV}
end
section
variable {X:Cx}{st:Stmt}{rest:List Stmt}{t u:TS}{e:Expr}{te:TE}{pos:Pos}
end
section
variable {X:Cx}{pos:Pos}
end
section
variable {X:Cx}{tg:Expr}
end
section
variable {X:Cx}{a b c:Expr}{ta tb tc:TE}{pos:Pos}
end
section
variable {prog:Program}{w:World}{A:Around}{E:QqV}{s:Shared}{K:W.Frag}{x dx C f:Addr}{mA:QqM}{name:Str}{v:Value}
end
section
variable {P:Program}{w:World}{H H':Hp}{h h':Heap}{a C dx:Addr}{fs fs':List (Str × V)}
end
section
variable {X:Cx}{pins:QqL}{σ:St}{H:Hp}{s:Shared}{a C dx:Addr}{fs:List (Str × V)}{f:Str}{v:V}{A:Around}{E:QqV}
end
section
variable {X:Cx}{o e value:Expr}{f:Str}{pos pos' tpos:Pos}{ta tv:TE}
end
section
variable {X:Cx}{pins:QqL}{σ:St}{H:Hp}{s:Shared}{A:Around}{E:QqV}{Q:QqV}{c:Value}{b:Bool}
end
section
variable {X:Cx}{e:Expr}{es:List Expr}{te:TE}{t:TA}{pos:Pos}
end
section
variable {X:Cx}{pins:QqL}{σ:St}{H:Hp}{s s':Shared}
end
section
variable {X:Cx}{CX:CXT}{k:Nat}{f C:Addr}{fd:FuncData}{ps:List Str}{sp:Sp}{dvs:List V}{ds:QqW}{E:XK}{x m:Str}{p pos apos:Pos}{e o:Expr}{es:List Expr}{ta:TE}{t:TA}
end
section
variable {X:Cx}{CX:CXT}{k:Nat}{f C:Addr}{fd:FuncData}{ps ks:List Str}{sp:Sp}{E:XK}{x m:Str}{p pos apos kpos:Pos}{e o:Expr}{es:List Expr}{kws:List Keyword}{te ta:TE}{t tk:TA}{nm:Option Str}
variable {g:List Value->List Value->List Value}{gV:List V->List V->List V}
end
section
variable {X:Cx}{x:Str}{p pos:Pos}{e:Expr}{es:List Expr}{t:TA}{id T:String}{r:List V->Hp->VK->Prop}
end
section
variable {κ:Type} [DecidableEq κ]
def Yu(kvs:List (κ × V))(k:κ):Option V:=(kvs.find? λkv=>decide (kv.1=k)).map (·.2)
def XQ(kvs:List (κ × V))(k:κ)(v:V):List (κ × V):=
 if (kvs.any λkv=>decide (kv.1=k))=true then kvs.map (λkv=>if kv.1=k then(kv.1,v) else kv) else kvs++[(k,v)]
def Yd(kvs:List (κ × V))(k:κ):List (κ × V):=kvs.filter λkv=>decide (kv.1≠k)
theorem jA{p:κ × V}{r:List (κ × V)}{k:κ}(e:p.1=k):Yu (p::r) k=some p.2:=by simp[Yu,yL,e]
theorem jB{p:κ × V}{r:List (κ × V)}{k:κ}(e:¬ p.1=k):Yu (p::r) k=Yu r k:=by simp[Yu,yL,e]
theorem Yt(k:κ):∀kvs:List (κ × V),(kvs.any λkv=>decide (kv.1=k))=(Yu kvs k).isSome
 |[]=>rfl
 |p::r=>by
  rw[any_cons]
  by_cases e:p.1=k
  ·simp only[jA e,xN e,Bool.true_or,Option.isSome_some]
  ·rw[jB e,xf e,Bool.false_or];exact Yt k r
theorem Xp(kvs:List (κ × V))(k:κ)(v:V):(XQ kvs k v).length<=kvs.length+1:=by
 unfold XQ
 split
 ·rw[zh];lia
 ·rw[zD,zA,ym];lia
theorem RelO.isSome_eq{o:Option V}{u:Option Value}(r:RelO o u):o.isSome=u.isSome:=by
 cases o with
 |none=>cases u with
  |none=>rfl
  |some _=>exact(show False from r).elim
 |some _=>cases u with
  |none=>exact(show False from r).elim
  |some _=>rfl
theorem KV.val{kvs:List (κ × V)}{vs:List (κ × Value)}(r:KV kvs vs)(k:κ):RelO (Yu kvs k) (valueAt vs k):=by
 unfold KV at r
 induction r with
 |nil=>exact True.intro
 | @cons p q ps B h t I =>
  obtain⟨h1,h2⟩:=h
  by_cases e:p.1=k
  ·have e' : q.1 = k := h1.symm.trans e
   have b:valueAt (q::B) k=some q.2:=by simp[valueAt,yL,e']
   rw[jA e,b];exact h2
  ·have e' : ¬ q.1 = k := λz => e (h1.trans z)
   have b:valueAt (q::B) k=valueAt B k:=by simp[valueAt,yL,e']
   rw[jB e,b];exact I
theorem KV.any{kvs:List (κ × V)}{vs:List (κ × Value)}(r:KV kvs vs)(k:κ):(kvs.any λkv=>decide (kv.1=k))=vs.any λkv=>decide (kv.1=k):=by
 unfold KV at r
 induction r with
 |nil=>rfl
 |cons h t B=>rw[any_cons,any_cons,B,h.1]
theorem KV.repl{kvs:List (κ × V)}{vs:List (κ × Value)}(r:KV kvs vs)(k:κ){y:V}{u:Value}(B:RelV y u) :
  KV (kvs.map λkv=>if kv.1=k then(kv.1,y) else kv) (vs.map λkv=>if kv.1=k then(kv.1,u) else kv):=by
 unfold KV at r ⊢
 induction r with
 |nil=>exact .nil
 |@cons p q ps J h t I=>
  rw[zz,zz];refine .cons ?_ I;obtain⟨h1,h2⟩:=h
  by_cases e:p.1=k
  ·rw[if_pos e,if_pos (h1.symm.trans e)];exact⟨h1,B⟩
  ·rw[if_neg e,if_neg (λz=>e (h1.trans z))];exact⟨h1,h2⟩
theorem KV.put{kvs:List (κ × V)}{vs:List (κ × Value)}(r:KV kvs vs)(k:κ){y:V}{u:Value}(B:RelV y u):KV (XQ kvs k y) (stored vs k u):=by
 unfold XQ stored;rw[r.any k]
 by_cases e:(vs.any λkv=>decide (kv.1=k))=true
 ·rw[if_pos e,if_pos e];exact r.repl k B
 ·rw[if_neg e,if_neg e];exact Paired.snoc r ⟨rfl,B⟩
theorem KV.drop{kvs:List (κ × V)}{vs:List (κ × Value)}(r:KV kvs vs)(k:κ):KV (Yd kvs k) (without vs k):=by
 unfold KV at r ⊢;unfold Yd without
 induction r with
 |nil=>exact .nil
 | @cons p q ps I h t B =>
  obtain⟨h1,h2⟩:=h;rw[filter_cons,filter_cons]
  by_cases e:p.1=k
  ·have a : ¬ decide (p.1 ≠ k) = true := by simp [e]
   have b:¬ decide (q.1≠k)=true:=by simp[h1.symm.trans e]
   rw[if_neg a,if_neg b];exact B
  ·have e' : ¬ q.1 = k := λz => e (h1.trans z)
   have a:decide (p.1≠k)=true:=by simp[e]
   have b:decide (q.1≠k)=true:=by simp[e']
   rw[if_pos a,if_pos b];exact .cons ⟨h1,h2⟩ B
theorem KV.length{kvs:List (κ × V)}{vs:List (κ × Value)}(r:KV kvs vs):kvs.length=vs.length:=Paired.length r
theorem zA2(kvs:List (κ × V))(k:κ):(Yd kvs k).length<=kvs.length:=wf _ _
end
def KO{P:Program}{w:World}{k:Key}{u:Value}(r:RelV (kV k) u):(va P w).is k u=true:=by
 cases k with
 |inl i=>obtain⟨t,e⟩:=(show ∃t,u=Value.int i t from r);subst e;exact KH P w i t
 |inr x=>obtain⟨t,e⟩:=(show ∃t,u=Value.str x t from r);subst e;exact qO P w x t
theorem UA{P:Program}{w:World}:∀{ks:List Key}{us:QqW},Vals (ks.map kV) us->ItemsAre (va P w) ks us
 |[],_,r=>by rw[xx] at r;cases r;exact .nil
 |k::ks,_,r=>by
  rw[zz] at r
  cases r with
  |cons h t=>exact .cons (KO h) (UA t)
abbrev KT(H:Hp):List (List Key × V)->List (List Key × Addr × Value)->Prop:=Paired λp q=>p.1=q.1/\H q.2.1=some (.tup (p.1.map kV))/\RelV p.2 q.2.2
def KT.val{H:Hp}{kvs:List (List Key × V)}{xs:List (List Key × Addr × Value)}(r:KT H kvs xs)(k:List Key):RelO (Yu kvs k) ((atKey xs k).map (·.2)):=by
 induction r with
 |nil=>exact True.intro
 | @cons p q ps B h t I =>
  obtain⟨h1,_,h2⟩:=h
  by_cases e:p.1=k
  ·have e' : q.1 = k := h1.symm.trans e
   have b:atKey (q::B) k=some q.2:=by simp[atKey,yL,e']
   rw[jA e,b];exact h2
  ·have e' : ¬ q.1 = k := λz => e (h1.trans z)
   have b:atKey (q::B) k=atKey B k:=by simp[atKey,yL,e']
   rw[jB e,b];exact I
def KT.repl{H:Hp}{kvs:List (List Key × V)}{xs:List (List Key × Addr × Value)}(r:KT H kvs xs)(k:List Key){y:V}{u:Value}(B:RelV y u) :
  KT H (kvs.map λkv=>if kv.1=k then(kv.1,y) else kv) (xs.map (putAt k u)):=by
 induction r with
 |nil=>exact .nil
 |@cons p q ps J h t I=>
  rw[zz,zz];refine .cons ?_ I;obtain⟨h1,h2,h3⟩:=h;unfold putAt
  by_cases e:p.1=k
  ·rw[if_pos e,if_pos (h1.symm.trans e)];exact⟨h1,h2,B⟩
  ·rw[if_neg e,if_neg (λz=>e (h1.trans z))];exact⟨h1,h2,h3⟩
def KT.put{H:Hp}{kvs:List (List Key × V)}{xs:List (List Key × Addr × Value)}(r:KT H kvs xs)(k:List Key){b:Addr}{y:V}{u:Value}(I:H b=some (.tup (k.map kV)))(B:RelV y u) :
  KT H (XQ kvs k y) (storedH xs k b u):=by
 have e:(kvs.any λkv=>decide (kv.1=k))=(atKey xs k).isSome:=by
  rw[Yt,(r.val k).isSome_eq,Option.isSome_map]
 unfold XQ storedH;rw[e]
 by_cases q:(atKey xs k).isSome=true
 ·rw[if_pos q,if_pos q];exact r.repl k B
 ·rw[if_neg q,if_neg q];exact Paired.snoc r ⟨rfl,I,B⟩
def KT.keeps{H H':Hp}{kvs:List (List Key × V)}{xs:List (List Key × Addr × Value)}(r:KT H kvs xs)(I:∀b B,H b=some (.tup B)->H' b=some (.tup B)):KT H' kvs xs:=
 Paired.mapP r λ_ _ z=>⟨z.1,I _ _ z.2.1,z.2.2⟩
section
variable {P:Program}{w:World}{H:Hp}{h:Heap}{a:Addr}
def zV5{u:HO}(ok:HOk P w H h)(e:Rd H a u):ObjOk P w H h a u:=e.ok ok
def KU{kvs:List (Key × V)}(ok:HOk P w H h)(e:Rd H a (.dK kvs)):kvs.length<=sizeLine/\(a == sysModules)=false/\∃vs,KV kvs vs/\h.DictOf (va P w) a vs:=
 show ObjOk P w H h a (.dK kvs) from zV5 ok e
def KW{kvs:List (Key × V)}(ok:HOk P w H h)(e:H a=some (.dK kvs)):kvs.length<=sizeLine/\(a == sysModules)=false/\∃vs,KV kvs vs/\h.DictOf (va P w) a vs:=KU ok (.inl e)
def Ux{ks:List Key}(ok:HOk P w H h)(e:H a=some (.tup (ks.map kV))):(tupleKind (va P w)).is h ks a:=by
 obtain⟨_,its,r,o,h1,h2,n,h3⟩:=(show ObjOk P w H h a (.tup (ks.map kV)) from ok a _ e)
 exact⟨o,its.toArray,n,h1,h2,h3,by simpa using UA r⟩
def zb0{kvs:List (List Key × V)}(ok:HOk P w H h)(e:Rd H a (.dT kvs)):kvs.length<=sizeLine/\(a == sysModules)=false /\
  ∃xs,KT H kvs xs/\h.DictOfH (tupleKind (va P w)) a xs:=by
 obtain⟨z,y,xs,r,o,es,ep,h1,h2,h3,h4,h5⟩:=(show ObjOk P w H h a (.dT kvs) from zV5 ok e);refine⟨z,y,xs,r,o,es,ep,h1,h2,h3,h4,λx hx=>?_,h5⟩
 have all:∀{l:List (List Key × V)}{m:List (List Key × Addr × Value)},KT H l m->∀x∈m,(tupleKind (va P w)).is h x.1 x.2.1:=by
  intro l m q
  induction q with
  |nil=>intro x hx;exact nomatch hx
  | @cons p q ps J B t I =>
   intro x hx
   rcases zg.mp hx with e |hx
   ·subst e
    exact Ux ok (by rw[<- B.1];exact B.2.1)
   ·exact I x hx
 exact all r x hx
def xA3{kvs:List (List Key × V)}(ok:HOk P w H h)(e:H a=some (.dT kvs)):kvs.length<=sizeLine/\(a == sysModules)=false /\
  ∃xs,KT H kvs xs/\h.DictOfH (tupleKind (va P w)) a xs:=zb0 ok (.inl e)
end
def DGet(H:Hp)(a:Addr)(y:V)(r:Option V):Prop:=
 (∃kvs k,Rd H a (.dK kvs)/\y=kV k/\r=Yu kvs k)\/∃kvs k b,Rd H a (.dT kvs)/\y=.ref b/\H b=some (.tup (k.map kV))/\r=Yu kvs k
def DPut(H:Hp)(a:Addr)(y v:V)(H':Hp):Prop:=
 (∃kvs k,H a=some (.dK kvs)/\y=kV k/\kvs.length<sizeLine/\H'=upd H a (.dK (XQ kvs k v))) \/
 ∃kvs k b,H a=some (.dT kvs)/\y=.ref b/\H b=some (.tup (k.map kV))/\kvs.length<sizeLine/\H'=upd H a (.dT (XQ kvs k v))
def DGet.k{H:Hp}{a:Addr}{kvs:List (Key × V)}{k:Key}(e:H a=some (.dK kvs)):DGet H a (kV k) (Yu kvs k):=.inl ⟨kvs,k,.inl e,rfl,rfl⟩
def DPut.k{H:Hp}{a:Addr}{kvs:List (Key × V)}{k:Key}{v:V}(e:H a=some (.dK kvs))(B:kvs.length<sizeLine):DPut H a (kV k) v (upd H a (.dK (XQ kvs k v))):=.inl ⟨kvs,k,e,rfl,B,rfl⟩
section
variable {X:Cx}{pins:QqL}{σ:St}{H:Hp}{s:Shared}{a:Addr}{y v:V}{u r:Value}{o:Option V}{A:Around}{E:QqV}
def Inv.big(I:Inv X pins σ H s):sysModules<s.heap.objs.size:=by
 have h:mainGlobals<s.heap.objs.size:=(I.mod.glob.keeps I.bk).lt
 exact yE w6 h
def zo3{Q:QqV}(hu:A.units+1<cLine)(I:Inv X pins σ H s)(g:DGet H a y (some v))(ry:RelV y u)(h:∀w' s',Inv X pins σ H s'->RelV v w'->Q w' s') :
  wpAny (model X.prog X.w) A (getItem (.ref a) u) Q E s:=by
 rcases g with ⟨kvs,k,e,W,l⟩ |⟨kvs,k,b,e,W,eb,l⟩
 ·subst W;obtain⟨z,hd,vs,B,Y⟩:=KU I.hok e
  obtain⟨w',J,rw'⟩:=RelO.some_of (v:=v) (o:=valueAt vs k) (by rw[l];exact B.val k)
  exact wpAny_getItem_of (KO ry) Y.mapOf J (h w' _ (I.tok _) rw')
 ·subst W;cases(show u=Value.ref b from ry);obtain⟨z,hd,xs,B,Y⟩:=zb0 I.hok e
  obtain⟨w',J,rw'⟩:=RelO.some_of (v:=v) (o:=(atKey xs k).map (·.2)) (by rw[l];exact B.val k)
  obtain⟨p,hp,U⟩:=xY.mp J;refine wpAny_getItem_heap (tupleKind_room_in1 hu) (Ux I.hok eb) Y hp ?_;rw[U];exact h w' _ (I.tok _) rw'
def xP6{Q:QqV}(Y:A.units+1<cLine)(I:Inv X pins σ H s)(g:DGet H a y o)(W:RelV y u)(h:∀s',Inv X pins σ H s'->Q (.bool o.isSome) s') :
  wpAny (model X.prog X.w) A (compareOp .In u (.ref a)) Q E s:=by
 rcases g with ⟨kvs,k,e,J,l⟩ |⟨kvs,k,b,e,J,eb,l⟩
 ·subst J;obtain⟨z,hd,vs,B,U⟩:=KU I.hok e;refine wpAny_in_of (KO W) hd U.mapOf ?_;rw[<- (B.val k).isSome_eq,<- l];exact h _ (I.tok _)
 ·subst J;cases(show u=Value.ref b from W);obtain⟨z,hd,xs,B,U⟩:=zb0 I.hok e;refine wpAny_in_heap (tupleKind_room_in1 Y) (Ux I.hok eb) hd U ?_;have q:=(B.val k).isSome_eq;rw[Option.isSome_map] at q;rw[<- q,<- l];exact h _ (I.tok _)
def zQ2{Q:QqV}(Y:A.units+1<cLine)(I:Inv X pins σ H s)(g:DGet H a y o)(W:RelV y u)(h:∀s',Inv X pins σ H s'->Q (.bool (!o.isSome)) s') :
  wpAny (model X.prog X.w) A (compareOp .NotIn u (.ref a)) Q E s:=by
 rcases g with ⟨kvs,k,e,J,l⟩ |⟨kvs,k,b,e,J,eb,l⟩
 ·subst J;obtain⟨z,hd,vs,B,U⟩:=KU I.hok e;refine wpAny_notIn_of (KO W) hd U.mapOf ?_;rw[<- (B.val k).isSome_eq,<- l];exact h _ (I.tok _)
 ·subst J;cases(show u=Value.ref b from W);obtain⟨z,hd,xs,B,U⟩:=zb0 I.hok e;refine wpAny_notIn_heap (tupleKind_room_in1 Y) (Ux I.hok eb) hd U ?_;have q:=(B.val k).isSome_eq;rw[Option.isSome_map] at q;rw[<- q,<- l];exact h _ (I.tok _)
def KZ{h':Heap}{t':Nat}{B:HO}(I:Inv X pins σ H s)(J:Mut (H a))(U:Heap.SameBut a s.heap h')(he:∃q,h'.get? a=some q)(new:ObjOk X.prog X.w (upd H a B) h' a B) :
  Inv X pins σ (upd H a B) { s with heap:=h',toks:=t' }:=
 I.write (x:=a) (e:=a) J (.inl rfl) (λb q W z=>(U.2 b W).trans z) he new
def zE6{P:Program}{w:World}{H':Hp}{h':Heap}{kvs:List (Key × V)}{vs:List (Key × Value)}(z:kvs.length<=sizeLine)(hd:(a == sysModules)=false)(B:KV kvs vs)(I:h'.DictOf (va P w) a vs) :
  ObjOk P w H' h' a (.dK kvs):=⟨z,hd,vs,B,I⟩
def zo2{H':Hp}{Q:Unit->Shared->Prop}(hu:A.units+1<cLine)(I:Inv X pins σ H s)(g:DPut H a y v H')(ry:RelV y u)(rv:RelV v r)(h:∀s',Inv X pins σ H' s'->Q () s') :
  wpAny (model X.prog X.w) A (setItem (.ref a) u r) Q E s:=by
 rcases g with ⟨kvs,k,e,ey,l,eH⟩ |⟨kvs,k,b,e,ey,eb,l,eH⟩
 ·subst ey eH;obtain⟨z,hd,vs,B,dd⟩:=KW I.hok e
  have U:vs.length<=sizeLine:=by rw[<- B.length];exact z
  have Y:(XQ kvs k v).length<=sizeLine:=by have:=Xp kvs k v;lia
  refine wpAny_setItem_pairs (hsz:=U) (KO ry) dd λh' dd' W=>h _ ?_
  have he:∃q,h'.get? a=some q:=let ⟨q,_,_,J,_⟩:=dd';⟨q,J⟩
  exact KZ I (by rw[e];exact True.intro) W he (zE6 Y hd (B.put k rv) dd')
 ·subst ey eH;cases(show u=Value.ref b from ry);obtain⟨z,hd,xs,B,dd⟩:=xA3 I.hok e
  have U:xs.length<=sizeLine:=by rw[<- Paired.length B];exact z
  have Y:(XQ kvs k v).length<=sizeLine:=by have:=Xp kvs k v;lia
  refine wpAny_setItem_heap (hsz:=U) (tupleKind_room_in1 hu) (Ux I.hok eb) dd λh' dd' W=>h _ ?_;obtain⟨q,es,ep,J,h2,h3,h4,_,h5⟩:=dd'
  refine KZ I (by rw[e];exact True.intro) W ⟨q,J⟩ ⟨Y,hd,_,(B.put k eb rv).keeps λc ys ec=>?_,q,es,ep,J,h2,h3,h4,h5⟩
  rw[wB (xz0 ec e (λz=>nomatch z))]
  exact ec
end
section
variable {X:Cx}{pins:QqL}{σ:St}{H:Hp}{s:Shared}{a:Addr}{kvs:List (Key × V)}{k:Key}{u:Value}{A:Around}{E:QqV}
def xA4{v:V}{more:QqW}{Q:QqV}(I:Inv X pins σ H s)(e:H a=some (.dK kvs))(J:RelV (kV k) u)(l:Yu kvs k=some v)(hm:more=[]\/∃x,more=[x])
  (h:∀w' s',Inv X pins σ (upd H a (.dK (Yd kvs k))) s'->RelV v w'->Q w' s'):wpAny (model X.prog X.w) A (call (.builtin "dict.pop") (.ref a::u::more)) Q E s:=by
 obtain⟨z,hd,vs,B,U⟩:=KW I.hok e
 obtain⟨w',W,rw'⟩:=RelO.some_of (v:=v) (o:=valueAt vs k) (by rw[<- l];exact B.val k)
 have hp:(keyPart u).isSome=true:=by
  cases k with
  |inl i=>obtain⟨t,q⟩:=(show ∃t,u=Value.int i t from J);subst q;rfl
  |inr x=>obtain⟨t,q⟩:=(show ∃t,u=Value.str x t from J);subst q;rfl
 have ha:argsOk "dict.pop" ⟨.ref a::u::more,[]⟩:=by
  rcases hm with q |⟨x,q⟩
  ·subst q;exact PySem.F.args_dict_pop_2 _ _
  ·subst q;exact PySem.F.args_dict_pop_3 _ _ _
 refine call_meetsIn PySem.F.slot_dict_pop U.typeIs PySem.F.entry_dict_pop ha (meets_dict_pop_there (va X.prog X.w) a (KO J) more hm hp)
  ⟨vs,w',U,by rw[<- B.length];exact z,W,λh' dd' Y=>h w' _ ?_ rw'⟩
 have he:∃q,h'.get? a=some q:=let ⟨q,_,_,hq,_⟩:=dd';⟨q,hq⟩
 exact KZ I (by rw[e];exact True.intro) Y he (zE6 (zF (zA2 kvs k) z) hd (B.drop k) dd')
def xA5{Q:QqV}(I:Inv X pins σ H s)(e:Rd H a (.dK kvs))(h:∀t s',Inv X pins σ H s'->Q (.int kvs.length t) s'):wpAny (model X.prog X.w) A (call (.builtin "len") [.ref a]) Q E s:=by
 obtain⟨z,hd,vs,B,J⟩:=KU I.hok e
 refine call_len_dict hd J (by rw[<- B.length];rw[sizeLine_eq] at z;lia) ?_
 rw[<- B.length];exact h _ _ (I.tok _)
end
def xh9(i:Expr):Prop:=∀B I,subscripted i false B I=operate [B,I] (getItem B I)
def zG6{prog:Program}{w:World}{A:Around}{E:QqV}{s:Shared}{env:Env}{I B:Expr}{pos:Pos}{T id:String}{Q:QqV}
  (hl:typeLookup (.type T) "__getitem__" = pure (some (.builtin id))) (hs:xh9 B)
  (h:wpAny (model prog w) A (eval I env) (λo Y=>wpAny (model prog w) A (eval B env) (λi J=>J.TypeIs o T/\wpAny (model prog w) A (getItem o i) Q E J) E Y) E s) :
  wpAny (model prog w) A (eval (.Subscript I B pos) env) Q E s:=by
 refine Subscript_ (wY h (λo Y h₁=>wY h₁ (λi J U=>?_) λ_ _ x=>x) λ_ _ x=>x);obtain⟨hT,U⟩:=U;unfold subscriptTail;refine zb ?_;rw[getitemInPython_of_ne hT.not_modules];refine zb (wpAny_specialOf hT hl ?_)
 have fin:wpAny (model prog w) A (subscripted B false o i) (λr W=>wpAny (model prog w) A (letTemporaryGo I o r >>= λ_=>pure r) Q E W) E J:=by
  rw[hs o i];exact wpAny_operating (wY U (λr W h₃=>zb (wpAny_letTemporaryGo (ze h₃))) λ_ _ x=>x)
 first
  |exact ze (zb fin)
  |exact zb (ze (zb fin))
  |exact zb fin
def KY{X:Cx}{B:QqL}{σ:St}{H:Hp}{s:Shared}{a:Addr}{y:V}{o:Option V}(I:Inv X B σ H s)(g:DGet H a y o):s.TypeIs (.ref a) "dict" := by
 rcases g with ⟨kvs,k,e,_,_⟩ |⟨kvs,k,b,e,_,_,_⟩
 ·obtain⟨_,_,vs,_,J⟩:=KU I.hok e;exact J.typeIs
 ·obtain⟨_,_,xs,_,J⟩:=zb0 I.hok e;exact J.typeIs
def xo1(I ty:TE):TE:=λσ H Q=>I σ H λx J=>ty σ J λy B=>∃a v,x=.ref a/\DGet B a y (some v)/\Q v B
def xo9(J ty I:TE):TS:=λD σ H=>I σ H λv Y=>J σ Y λx W=>ty σ W λy U=>∃a B,x=.ref a/\DPut U a y v B/\D.nx σ B
section
variable {X:Cx}{o i e value:Expr}{pos pos' tpos:Pos}{td ty tv:TE}
def Kw(hu:X.A.units+1<cLine)(ho:PE X o td)(hi:PE X i ty)(hs:xh9 i):PE X (.Subscript o i pos) (xo1 td ty):=by
 intro B s σ H Q I h;refine zG6 PySem.F.slot_dict_getitem.lookup hs (thn (ho B s σ H _ I h) λu U ⟨x,H1,I1,Y,q1⟩=>thn (hi B U σ H1 _ I1 q1) λiv s2 ⟨y,H2,J,W,a,v,ex,g,q2⟩=>?_);subst ex;obtain rfl:u=Value.ref a:=Y;exact⟨KY J g,zo3 hu J g W λw' s3 I3 rw'=>⟨v,H2,I3,rw',q2⟩⟩
def zg8(hu:X.A.units+1<cLine)(ho:PE X o td)(hi:PE X i ty)(hv:PE X value tv)(hs:swapsWith value (some (.Subscript o i pos')) pos.line X.env=pure false) :
  PS X (.Assign [.Subscript o i pos'] value pos) (xo9 td ty tv):=by
 intro B s σ H D I h;refine wpAny_Assign_Subscript (thn (hv B s σ H _ I h) λr U ⟨v,H1,I1,rv,q1⟩=>thn (ho B U σ H1 _ I1 q1) λu J ⟨x,H2,I2,Y,q2⟩=>thn (hi B J σ H2 _ I2 q2) λiv s3 ⟨y,H3,I3,W,a,H4,ex,g,q3⟩=>?_) hs;subst ex;obtain rfl:u=Value.ref a:=Y;exact zo2 hu I3 g W rv λs4 I4=>⟨σ,H4,I4,q3⟩
end
def Vq{P:Program}{w:World}{H:Hp}(h:Heap)(B:sysModules<h.objs.size):ObjOk P w H (h.push { cls:=.type "dict",data:=.dict #[] }) h.objs.size (.dK []):=
 ⟨wQ _,beq_eq_false_iff_ne.mpr (Ne.symm (zJ B)),[],.nil,Heap.DictOf.new h⟩
def zU0:TE:=λ_ H Q=>∀p,H p=none->Q (.ref p) (upd H p (.dK []))
section
variable {X:Cx}{pos:Pos}
def zv8:PE X (.Dict [] [] pos) zU0:=λB s σ H Q I h=>
 wpAny_Dict_empty ⟨.ref s.heap.objs.size,_,I.laid (a:=s.heap.objs.size) (o:=.dK []) (t':=s.toks) (λ_ _ q=>zd _ q) (zk _) (Vq s.heap I.big),rfl,h _ (I.hok.fresh (zk _))⟩
end
structure M1(X:Cx)(o:Expr)(m:Str)(apos:Pos)(e:Expr)(cpos:Pos):Prop where
 base:attributeBase o m X.env (eval o X.env)=eval o X.env
 few:((backTo cpos (starEach [e] X.env)).all (λx=>!x.1)&&(backToKw cpos (keywordEach [] X.env)).all (λx=>x.1.isSome)
  && decide (([e]:List Expr).length+([]:List Keyword).length+(if ([]:List Keyword).isEmpty then 0 else 1)<30))=true
 line:(apos.endLine == cpos.line)=true
 trees:backTo cpos (starEach [e] X.env)=[(false,eval e X.env)]
def IsD(H:Hp)(a:Addr):Prop:=(∃kvs,Rd H a (.dK kvs))\/∃kvs,Rd H a (.dT kvs)
def xe2{X:Cx}{J:QqL}{σ:St}{H:Hp}{s:Shared}{a:Addr}(I:Inv X J σ H s)(d:IsD H a) :
  s.TypeIs (.ref a) "dict" /\ (∀b,Value.ref a=.ref b->∃B,s.heap.get? b=some B/\B.dict=none)/\(a == sysModules)=false:=by
 rcases d with ⟨kvs,e⟩ |⟨kvs,e⟩
 ·obtain⟨_,hd,vs,_,U⟩:=KU I.hok e;refine⟨U.typeIs,λb q=>?_,hd⟩;cases q;obtain⟨B,_,_,h1,h2,_⟩:=U;exact⟨B,h1,h2.2.1⟩
 ·obtain⟨_,hd,xs,_,U⟩:=zb0 I.hok e;refine⟨U.typeIs,λb q=>?_,hd⟩;cases q;obtain⟨B,_,_,h1,h2,_⟩:=U;exact⟨B,h1,h2.2.1⟩
section
variable {X:Cx}{pins:QqL}{σ:St}{H:Hp}{s:Shared}{a:Addr}{y d:V}{u r:Value}{o:Option V}{A:Around}{E:QqV}
end
def zT9(J ty:TE):TE:=λσ H Q=>J σ H λx I=>∃a,x=.ref a/\IsD I a/\ty σ I λy B=>∃kvs k v,B a=some (.dK kvs)/\y=kV k/\Yu kvs k=some v/\Q v (upd B a (.dK (Yd kvs k)))
section
variable {X:Cx}{o e f:Expr}{apos cpos:Pos}{td ty tx:TE}
def zv7(ho:PE X o td)(he:PE X e ty)(m:M1 X o "pop" apos e cpos):PE X (.Call (.Attribute o "pop" apos) [e] [] cpos) (zT9 td ty):=by
 intro B s σ H Q I h;refine wpAny_Call_method m.base m.few m.line PySem.F.plainAttrs_dict PySem.F.slot_dict_pop PySem.F.type_dict_pop (thn (ho B s σ H _ I h) λu Y ⟨x,H1,J,rx,a,ex,d,q1⟩=>?_);subst ex;obtain rfl:u=Value.ref a:=rx;obtain⟨W,U,_⟩:=xe2 J d;refine⟨W,U,?_⟩;rw[m.trees];refine Calls.callWith_builtin rfl (Calls.evalArgs_plain (Calls.spliced_cons (thn (he B Y σ H1 _ J q1) λiv s2 ⟨y,H2,I2,ry,kvs,k,v,ea,ey,l,q2⟩=>Calls.spliced_nil ?_)));subst ey;exact xA4 I2 ea ry l (.inl rfl) λw' s3 I3 rw'=>⟨v,_,I3,rw',q2⟩
end
section
variable {X:Cx}{pins:QqL}{σ:St}{H:Hp}{s:Shared}{a:Addr}{kvs:List (Key × V)}{A:Around}{E:QqV}
end
section
variable {X:Cx}{pins:QqL}{σ:St}{H:Hp}{s:Shared}{a:Addr}{y:V}{u:Value}{A:Around}{E:QqV}
end
end L2
namespace Att
open PySem PySem.W PySem.Calls PyProof.Rows
section
variable {prog:Program}{w:World}{A:Around}{E:QqV}{s:Shared}{K:Frag}
end
end Att
namespace L2
section
variable {P:Program}{w:World}{K:W.Frag}{mg:QqM}{base:Heap}
end
section
variable {X:Cx}
def zq3:qC X (.builtin "len") (λxs H Q=>∃a kvs,xs=[V.ref a]/\H a=some (.dK kvs)/\Q (.int kvs.length) H):=by
 intro B s σ H xs us Q I r h;obtain⟨a,kvs,rfl,ha,q⟩:=h;obtain⟨u,rfl,J⟩:=YG r;cases J;exact xA5 I (.inl ha) λt s' I'=>⟨.int kvs.length,H,I',⟨t,rfl⟩,q⟩
end
section
variable {κ:Type} [DecidableEq κ]
theorem zn3{p:κ × V}{r:List (κ × V)}{k:κ}(e:p.1=k):Yd (p::r) k=Yd r k:=by
 unfold Yd
 rw[filter_cons,if_neg (by simp[e])]
theorem zn4{p:κ × V}{r:List (κ × V)}{k:κ}(e:¬ p.1=k):Yd (p::r) k=p::Yd r k:=by
 unfold Yd
 rw[filter_cons,if_pos (by simp[e])]
end
section
variable {prog:Program}{w:World}{A:Around}{R:Result->Shared->Prop}{s:Shared}
def zb1{kx U B I:Expr}{ifs:List Expr}{scope:Scope}{pos:Pos}{it:Value}{D:Addr}{env:Env}(J:Nat->Shared->Prop)
  (turn : ∀ n s, J n s -> wpAny (model prog w) A (pyNext it) (λr Y => match r with
   |none=>R (.ok .next) Y
   | some v => wpAny (model prog w) A (letOwnedTupleGo B it v) (λ_ s2 => wpAny (model prog w) A (assign B env v) (λ_ s3 => wpAny (model prog w) A (XJ ifs env) (λok W =>
     if ok=true then wpAny (model prog w) A (eval kx env) (λkv s5=>wpAny (model prog w) A (eval U env) (λvv s6=>wpAny (model prog w) A (dictSet D kv vv) (λ_ s7=>∃m,m<n/\J m s7) (λ_ _=>False) s6) (λ_ _=>False) s5) (λ_ _=>False) W
     else ∃m,m<n/\J m W) (λ_ _=>False) s3) (λ_ _=>False) s2) (λ_ _=>False) Y) (λ_ _=>False) s)
  (n:Nat) (h:J n s):codeAny (model prog w) A (.compLoop (.DictComp kx U [⟨B,I,ifs,0⟩] scope pos) 0 it (.ref D) env) R s:=by
 refine codeAny_loop rfl J (λn s hJ=>?_) n h
 show wpAny _ A ((compTurn (.DictComp kx U [⟨B,I,ifs,0⟩] scope pos) 0 it (.ref D) env).onRaise (λx=>do noteFrame x env;theTreesLotGoes x)) _ _ s
 refine wpAny_noted ?_;rw[compTurn_dict]
 have up:∀{α:Type}{t:Sem α}{Q Q':α->Shared->Prop}{E:QqV}{s:Shared},wpAny (model prog w) A t Q (λ_ _=>False) s->(∀a s,Q a s->Q' a s)->wpAny (model prog w) A t Q' E s:=
  λh f=>wY h f λ_ _ z=>False.elim z
 refine zb (wg (zb (up (turn n s hJ) λr Y h1=>?_)))
 cases r with
 |none=>exact ze h1
 |some v=>
  refine zb (up h1 λ_ s2 h2=>?_);refine zb (up h2 λ_ s3 h3=>?_);refine zb (up h3 λok W h4=>?_)
  cases ok with
  |false=>exact ze ⟨rfl,h4⟩
  |true=>exact zb (zb (up h4 λkv s5 h5=>zb (wh (up h5 λvv s6 h6=>zb (wg (wh (up h6 λ_ s7 h7=>ze ⟨rfl,h7⟩)))))))
end
section
variable {X:Cx}{scope:Scope}{own M:List Str}{pins:QqL}{σ:St}{H2:Hp}{s2:Shared}{fp:List Addr}
def zm0{o0:Obj}(ok:CompOk X scope M)(hc:X.calm=true)(I:Inv X pins σ H2 s2)(hf:∀b∈fp,FpOk X pins H2 b/\b<s2.heap.objs.size){C:Addr}(U:C=s2.heap.objs.size+1){h4:Heap}
  (hh:h4=pushCells ((s2.heap.push o0).push { cls:=.type "dict",data:=.dict #[] }) scope.names) :
  Inv (wn X scope own M C s2 H2 fp) [] (replicate own.length none++σ) H2 { s2 with heap:=h4 }:=by
 have zC:(s2.heap.push o0).objs.size=C:=by rw[xT,U]
 have Y:((s2.heap.push o0).push { cls:=.type "dict",data:=.dict #[] }).objs.size=C+1:=by rw[xT,zC]
 have keep:∀b o,s2.heap.get? b=some o->h4.get? b=some o:=λb o e=>by
  rw[hh];exact pushCells_keeps _ _ _ _ (zd _ (zd _ e))
 have cellOld:∀x c,X.env.cells.lookup x=some c->c<s2.heap.objs.size:=λx c e=>by obtain⟨v,q⟩:=I.cell x c e;exact q.lt
 have B:∀x c,(kg X scope C).lookup x=some c->(h4.IsCell c none/\C+1<=c/\scope.names.lookup x=some .cell)\/X.env.cells.lookup x=some c:=λx c e=>by
  by_cases hx:scope.names.lookup x=some .cell
  ·have e' := e;unfold kg at e';rw[<- Y] at e'
   rcases Qy _ _ _ x c e' with ⟨a,b,d⟩ |q
   ·exact .inl ⟨by rw[hh];exact a,by rw[Y] at b;exact b,hx⟩
   ·exact .inr (vM scope.names [] (ok.cells I) (λ_ _ z=>by simp at z) x c q)
  ·exact .inr (ok.cellsFrom_old I e hx)
 have ae:∃m,h4.Ns C m:=by
  have q:((s2.heap.push o0).push { cls:=.type "dict",data:=.dict #[] }).Ns C (λ_=>none):=by
   have:=Heap.Ns.new (s2.heap.push o0) (.type "dict");rw[zC] at this;exact this
  exact⟨_,q.keeps λb o e=>by rw[hh];exact pushCells_keeps _ _ _ _ e⟩
 have ac:∀b∈fp,b ∉ frs X.stack:=λb hb hx=>by
  obtain⟨⟨_,f1,f2,_⟩,_⟩:=hf b hb
  rcases zg.mp (I.stkSub b hx) with e |e
  ·exact f1 e
  ·exact f2 e
 obtain⟨mC,ad⟩:=ae
 refine⟨⟨I.ok.mod,ok.kind,I.ok.glob,I.ok.blt,?_,?_,?_,?_,I.ok.hd,I.ok.frames,.inl rfl,?_,I.bs,?_,?_,ac,I.stack,I.stkFree⟩,rfl,I.bare,Un.kept keep,⟨mC,ad,?_⟩,?_,I.hok.fresh (by show s2.heap.objs.size<=C;rw[U];exact xv _),?_,λp hp=>absurd (show p∈([]:QqL) from hp) (by simp),I.hok.kept keep,?_⟩
 ·show s2.heap.objs.size<=C;rw[U];exact xv _
 ·intro x y c h1 h2;refine Qw scope.names (C+1) (qc X.env scope.names []) (λa b d p q=>?_) (λa d p=>?_) x y c h1 h2
  ·exact I.ok.inj a b d (vM scope.names [] (ok.cells I) (λ_ _ z=>by simp at z) a d p) (vM scope.names [] (ok.cells I) (λ_ _ z=>by simp at z) b d q)
  ·have := cellOld a d (vM scope.names [] (ok.cells I) (λ_ _ z => by simp at z) a d p)
   rw[U];exact xX (xX this)
 ·intro x hx
  have go:∀k,(k=NameKind.cell\/k=NameKind.free)->(compEnvC scope (kg X scope C) C X.env).kindOf x=some k->∃c,(kg X scope C).lookup x=some c:=λk hk e=>by
   rcases ok.kindIn e with e |⟨_,e⟩
   ·rcases hk with rfl | rfl
    ·exact Qx _ _ _ (PySem.mem_of_lookup e)
    ·exact qT _ _ _ (kE (y:=(x,.free)) rfl _ _ (PySem.mem_of_lookup e))
   ·exact qT _ _ _ (kE (y:=(x,.free)) rfl _ _ (PySem.mem_of_lookup e))
  rcases hx with e |e
  ·exact go _ (.inl rfl) e
  ·exact go _ (.inr rfl) e
 ·intro x c hx h
  have hx':scope.names.lookup x=some .cell:=by simpa [wn] using hx
  have:=zA7 (x:=x) scope.names (C+1) (qc X.env scope.names []) (C+1) (zk _) (.inl (PySem.mem_of_lookup hx')) c h;show s2.heap.objs.size<=c
  exact zF (by rw[U];exact zF (xv _) (xv _)) this
 ·intro b hb;obtain⟨⟨_,_,_,_,f4,_⟩,f6⟩:=hf b hb;refine⟨?_,λx c h=>?_⟩
  ·show b≠C;rw[U];exact zJ (xX f6)
  ·rcases B x c h with ⟨_, q, _⟩ | q
   ·rw[U] at q;exact xF (zZ f6 (zF (zF (xv _) (xv _)) q))
   ·exact f4 x c q
 ·exact zF I.ok.bsz I.sz
 ·intro b o e hb;obtain⟨⟨_,_,_,f3,_⟩,_⟩:=hf b hb
  rcases f3 with z |z
  ·exact I.ok.noex b o e z
  ·exact absurd (zZ (zy (I.ok.bs b o e).1) z) (xD _)
 ·intro i x v h1 h2 h3;have h2':(replicate own.length (none:Option V)++σ)[i]?=some (some v):=h2
  have hi:own.length<=i:=by
   apply ya;intro aa
   rw[xn (by simpa using aa),xO] at h2'
   rw[if_pos aa] at h2';cases h2'
  rw[xb (by simpa using hi),xB] at h2'
  have h1':(own++M)[i]?=some x:=h1;rw[xb hi] at h1';obtain⟨n1,n2⟩:=ok.shadow x (wl h1')
  have W:scope.names.lookup x=some .free/\((compEnvC scope (kg X scope C) C X.env).kindOf x=some .cell\/(compEnvC scope (kg X scope C) C X.env).kindOf x=some .free):=by
   rcases h3 with e |e |e
   ·rcases ok.kindIn (x := x) (C := C) e with q | ⟨q, _⟩
    ·exact absurd q n1
    ·cases q
   ·rcases ok.kindIn (x := x) (C := C) e with q | ⟨_, q⟩
    ·exact absurd q n2
    ·exact⟨q,.inl e⟩
   ·rcases ok.kindIn (x := x) (C := C) e with q | ⟨q, _⟩
    ·exact⟨q,.inr e⟩
    ·cases q
  obtain⟨J,hk⟩:=W;obtain⟨m,hn,hl⟩:=I.loc;have ab:=ok.frees (x,.free) (PySem.mem_of_lookup J) rfl;have h1':=ok.same _ _ h1' J;obtain⟨u,ru,lk⟩:=hl (i-own.length) x v h1' h2' (ab.elim (λz=>.inr (.inl z)) λz=>.inr (.inr z));refine⟨u,ru,.inr ⟨hk,?_⟩⟩
  rcases lk with ⟨k,_⟩ |⟨_,c,ec,ic⟩
  ·rcases ab with z |z<;>(rw[k] at z;cases z)
  ·obtain ⟨c', e'⟩ : ∃ c', (kg X scope C).lookup x = some c' := qT _ _ _ (kE (y := (x, .free)) rfl _ _ (PySem.mem_of_lookup J));refine⟨c',e',?_⟩
   have:=ok.cellsFrom_old I e' (by rw[J];simp)
   have e2:some c=some c':=ec.symm.trans this;cases e2;exact ic.keeps keep
 ·intro x c h
  rcases B x c h with ⟨q,_⟩ |q
  ·exact⟨_,q⟩
  ·obtain⟨v,z⟩:=I.cell x c q;exact⟨v,z.keeps keep⟩
 ·intro x c h
  rcases B x c h with ⟨q,q2,_⟩ |q
  ·exact I.hok.fresh (by rw[U] at q2;exact zF (zF (xv _) (xv _)) q2)
  ·exact I.freeC x c q
 ·show(List.replicate own.length (none:Option V)++σ).length=(own++M).length;rw[zD,zD,xB,I.len,ok.mlen]
end
section
variable {X:Cx}{scope:Scope}{own M:List Str}{pins:QqL}{σ:St}{H2:Hp}{s2:Shared}{tg iter kx vx:Expr}{ifs:List Expr}{pos:Pos}{g:TG}{tt:TT}{tk tv:TE}
def zb2(ok:CompOk X scope M)(hc:X.calm=true)(hg:∀C s2 H2 U,PG (wn X scope own M C s2 H2 U) tg g)(ht:∀C s2 H2 U,PTs (wn X scope own M C s2 H2 U) ifs tt)(aK:∀C s2 H2 U,PE (wn X scope own M C s2 H2 U) kx tk)(he:∀C s2 H2 U,PE (wn X scope own M C s2 H2 U) vx tv)
  (I2:Inv X pins σ H2 s2) {it:Addr}{U:List Addr}{tn:Nat->Heap->Prop}{J:It} (T:Turn X.prog X.w X.K tg J U it tn) (ar:tn 0 s2.heap) (f2:∀b∈U,FpOk X pins H2 b)
  {W:Nat->Nat->List (Key × V)->Hp->Prop} (w0:∃m,W 0 m [] H2) {Qf:V->Hp->Prop}
  (turn : ∀ i m B H, W i m B H -> (J.stop i H /\ B.length <= sizeLine /\ ∀ D, H D = none -> Qf (.ref D) (upd H D (.dK B))) \/
   (J.go i H /\ B.length < sizeLine /\ ∀ x H', J.yld i H x H' -> g x (List.replicate own.length none ++ σ) H' λσ2 H2 => σ2.drop own.length = σ /\ tt σ2 H2 λc H3 =>
    if c=true then tk σ2 H3 λy H4=>tv σ2 H4 λv H5=>∃k m',y=kV k/\m'<m/\W (i+1) m' (XQ B k v) H5 else ∃m',m'<m/\W (i+1) m' B H3))
  {RR:Value->Addr->Result->Shared->Prop}{E:QqV}
  (fin:∀D C H' s' m,Inv X pins σ H' s'->Qf (.ref D) H'->s'.heap.Ns C m->H' C=none->C≠X.env.locals->X.s₀.heap.objs.size<=C->(∀x c,X.env.cells.lookup x=some c->c≠C)->(∀p∈X.pn++pins,p.1≠C)->RR (.ref D) C (.ok .next) s') :
  wpAny (model X.prog X.w) X.A newDict (λB s3=>wpAny (model X.prog X.w) X.A (newFunctionEnv scope X.env.globals (qc X.env scope.names []) [] X.env.qual none .none (some X.env)) (λaf s4=>
   codeAny (model X.prog X.w) X.A (.compStart (.DictComp kx vx [⟨tg,iter,ifs,0⟩] scope pos) 0 (.ref it) B { af with scope:=relabel scope X.env }) (RR B af.locals) s4) E s3) E s2:=by
 refine xU (Zd ?_);have zC:(s2.heap.push { cls:=.type "dict",dict:=none,data:=.dict #[] }).objs.size=s2.heap.objs.size+1:=xT ..;dsimp only;rw[zC];generalize hC:s2.heap.objs.size+1=C;generalize hh:pushCells ((s2.heap.push { cls:=.type "dict",dict:=none,data:=.dict #[] }).push { cls:=.type "dict",data:=.dict #[] }) scope.names=h4
 have aB:∀b∈U,FpOk X pins H2 b/\b<s2.heap.objs.size:=λb Y=>by
  obtain⟨o,e,_⟩:=T.obj 0 _ ar b Y;exact⟨f2 b Y,zy e⟩
 have I4:Inv (wn X scope own M C s2 H2 U) [] (replicate own.length none++σ) H2 { s2 with heap:=h4 }:=zm0 (o0:={ cls:=.type "dict",dict:=none,data:=.dict #[] }) ok hc I2 aB hC.symm hh.symm;generalize hX:wn X scope own M C s2 H2 U=X' at I4
 have ah:∀b o,s2.heap.get? b=some o->h4.get? b=some o:=λb o e=>by
  rw[<- hh];exact pushCells_keeps _ _ _ _ (zd _ (zd _ e))
 have az:h4.get? s2.heap.objs.size=some { cls:=.type "dict",dict:=none,data:=.dict #[] }:=by
  rw[<- hh];exact pushCells_keeps _ _ _ _ (zd _ (zu _ rfl))
 have aw:(({ cls:=.type "dict",dict:=none,data:=.dict #[] }:Obj)).IsDictOf (va X.prog X.w) []:=by
  obtain⟨_,_,vs,r,o,es,ep,e,q⟩:=Vq (P:=X.prog) (w:=X.w) (H:=H2) s2.heap I2.big;cases r
  rw[zu _ (by rfl)] at e
  cases e;exact⟨es,ep,q⟩
 have aC:(s2.heap.objs.size == sysModules)=false:=(Vq (P:=X.prog) (w:=X.w) (H:=H2) s2.heap I2.big).2.1;have ao:tn 0 h4:=T.keep _ _ _ ar λb Y o e=>ah b o e
 have gg:PG X' tg g:=by rw[<- hX];exact hg C s2 H2 U
 have gt:PTs X' ifs tt:=by rw[<- hX];exact ht C s2 H2 U
 have gk:PE X' kx tk:=by rw[<- hX];exact aK C s2 H2 U
 have ge:PE X' vx tv:=by rw[<- hX];exact he C s2 H2 U
 have xP:X'.prog=X.prog:=by rw[<- hX];rfl
 have xw:X'.w=X.w:=by rw[<- hX];rfl
 have xK:X'.K=X.K:=by rw[<- hX];rfl
 have xA:X'.A=X.A:=by rw[<- hX];rfl
 have xc:X'.calm=true:=by rw[<- hX];exact hc
 have aa:X'.pn=[]:=by rw[<- hX];rfl
 have xs:X'.s₀=s2:=by rw[<- hX];rfl
 have xH:X'.H₀=H2:=by rw[<- hX];rfl
 have xL:X'.env.locals=C:=by rw[<- hX];rfl
 have aF:X'.fs=frs X.stack:=by rw[<- hX];rfl
 have ab:X'.ex=U:=by rw[<- hX];rfl
 have xe:X'.xe=λ_ _=>False:=by rw[<- hX];rfl
 have am:({ newEnv scope C X.env.globals (cellsFrom (C+1) scope.names (qc X.env scope.names [])) X.env.qual none .none (some X.env) builtinsNs with scope:=relabel scope X.env }:Env)=X'.env:=by rw[<- hX];rfl
 have aD:s2.heap.objs.size<C:=by rw[<- hC];exact yu _
 have aj:∀{pl:QqL}{H:Hp},(∀b∈U,H b=none)->(∀p∈pl,p.1 ∉ U)->∀b∈U,FpOk X' pl H b:=λ{pl H} hn aI b Y=>by
  refine⟨hn b Y,?_,?_,.inl (by rw[ab];exact Y),λx c e=>(I4.ok.exf b (by rw[ab];exact Y)).2 x c e,λp hp z=>?_⟩
  ·exact(I4.ok.exf b (by rw[ab];exact Y)).1
  ·exact I4.ok.exfs b (by rw[ab];exact Y)
  ·rw [aa, xg] at hp
   exact aI p hp (by rw[z];exact Y)
 have aE:s2.heap.objs.size ∉ U:=λz=>xD _ (aB _ z).2;have DC:s2.heap.objs.size≠C:=zJ aD
 have ak:∀x c,X'.env.cells.lookup x=some c->c≠s2.heap.objs.size:=λx c e z=>by
  obtain⟨v,o,q,hd⟩:=I4.cell x c e;rw[z] at q;have q':h4.get? s2.heap.objs.size=some o:=q;rw[az] at q';cases q';cases hd
 have aR:s2.heap.objs.size ∉ X'.fs:=λz=>by
  obtain⟨_,o,ho,_⟩:=I4.ok.funs.mem (by exact z)
  rw[xs] at ho;exact xD _ (zy ho)
 rw[am]
 have ae:∀s5:Shared,s5={ s2 with heap:=h4 }->codeAny (model X.prog X.w) X.A (.compLoop (.DictComp kx vx [⟨tg,iter,ifs,0⟩] scope pos) 0 (.ref it) (.ref s2.heap.objs.size) X'.env) (RR (.ref s2.heap.objs.size) C) s5:=by
  rintro s5 rfl;obtain⟨m0,w0⟩:=w0
  refine zb1 (λn s'=>∃i B σ' H' ob vs,Inv X' [] σ' H' s'/\σ'.drop own.length=σ/\tn i s'.heap/\(∀b∈U,H' b=none)/\H' s2.heap.objs.size=none /\
   s'.heap.get? s2.heap.objs.size=some ob/\ob.IsDictOf (va X.prog X.w) vs/\KV B vs/\W i n B H') ?_ m0
   ⟨0,[],_,H2,_,[],I4,by simp,ao,λb Y=>(f2 b Y).1,I2.hok.fresh (zk _),az,aw,.nil,w0⟩
  rintro n s3 ⟨i,B,σ3,H3,ob,vs,I3,hσ,aq,aA,hD,aL,ac,rv,w3⟩
  have aG:∀v,ob.data≠.cell v:=λv z=>by
   obtain⟨es,ep,_,e,_⟩:=ac;rw[e] at z;cases z
  have av:∀{H:Hp}{s:Shared}{σ:St},Inv X' [] σ H s->H s2.heap.objs.size=none->s.heap.get? s2.heap.objs.size=some ob ->
    Inv X' [(s2.heap.objs.size,ob)] σ H s:=λ{H s σ} I hn ho=>I.pins_of λp hp=>by
   have e:p=(s2.heap.objs.size,ob):=by simpa using hp
   subst e
   exact⟨ho,hn,by rw[xL];exact DC,aR,aG⟩
  have plD:∀p∈[((s2.heap.objs.size,ob):Addr × Obj)],p.1 ∉ U:=λp hp=>by
   have e:p=(s2.heap.objs.size,ob):=by simpa using hp
   subst e;exact aE
  have I3':=av I3 hD aL
  rcases turn i n B H3 w3 with ⟨stop,hsz,q⟩ |⟨go,hsz,step⟩
  ·have := T.done X' xP xw xK xc i _ s3 σ3 H3 (λ_ _ => False) I3' (aj aA plD) aq stop;rw[xA] at this;refine thn this λr s4 ⟨hr,I5⟩=>?_;subst hr
   have ay:=(I5.pin (s2.heap.objs.size,ob) (by rw[aa];simp)).1
   have un:Un (frs X.stack) U H2 H3 s2.heap s4.heap:=by
    have:=I5.base;rw[aF,ab,xH,xs] at this;exact this
   have os:s4.os=s2.os:=by rw[I5.os,xs]
   have hok:HOk X.prog X.w H3 s4.heap:=by have:=I5.hok;rw[xP,xw] at this;exact this
   have IX:Inv X pins σ H3 s4:=I2.call' os un hok I5.bare λb Y=>by
    obtain⟨_,f1,_,f3,f4,f5⟩:=f2 b Y;exact⟨f3,f1,f4,f5⟩
   have old:∀{b:Addr},s2.heap.objs.size<=b->(X.s₀.heap.objs.size<=b/\b≠X.env.locals/\(∀x c,X.env.cells.lookup x=some c->c≠b)/\∀p∈X.pn++pins,p.1≠b):=λ{b} Y=>by
    obtain⟨_,f1,_,f3,f4,f5⟩:=I2.fpOk (H':=λ_=>none) Y rfl;exact⟨zF I2.sz Y,f1,f4,f5⟩
   obtain⟨d1,d2,d3,d4⟩:=old (zk s2.heap.objs.size);obtain⟨c1,c2,c3,c4⟩:=old (b:=C) (xG aD)
   have IY:Inv X pins σ (upd H3 s2.heap.objs.size (.dK B)) s4:=IX.track hD d1 d2 d3 d4 ⟨hsz,aC,vs,rv,(let ⟨es,ep,r⟩:=ac;⟨ob,es,ep,ay,r⟩)⟩
   obtain⟨m,hm,_⟩:=I5.loc;rw[xL] at hm
   have aM:H3 C=none:=by have:=I5.free;rw[xL] at this;exact this
   exact fin _ C _ s4 m IY (q _ hD) hm (by rw[wB (Ne.symm DC)];exact aM) c2 c1 c3 c4
  ·have := T.item X' xP xw xK xc i _ s3 σ3 H3 (λ_ _ => False) I3' (aj aA plD) aq go;rw[xA] at this;refine thn this λr s4 ⟨u,hr,h4⟩=>?_;subst hr;refine thn h4 λ_ s5 ⟨x,H5,I5,r5,y5,ag,aN⟩=>?_
   have aH:∀(j:Nat) v,(replicate own.length none++σ)[j]?=some (some v)->σ3[j]?=some (some v):=λj v e=>by
    by_cases ai:j<own.length
    ·rw [xn (by simpa using ai), xO, if_pos ai] at e
     cases e
    ·have aJ := ya ai
     rw[xb (by simpa using aJ),xB,<- hσ,xZ] at e
     rw[show own.length+(j-own.length)=j by lia] at e
     exact e
   have ax:(replicate own.length none++σ).length=σ3.length:=by
    have e1:σ3.length=X'.N.length:=I5.len;have e2:=I4.len;exact e2.trans e1.symm
   have aO:Inv X' _ (replicate own.length none++σ) H5 s5:=I5.weak ax aH;have aP:=aO.pinned (aj aN plD) (T.obj _ _ ag);have a1:=gg _ s5 _ H5 x u _ aP r5 (step x H5 y5);rw[xP,xw,xA,xe] at a1;refine thn a1 λ_ s6 ⟨σ6,H6,I6,d6,q6⟩=>?_;have a2:=gt _ s6 σ6 H6 _ I6 q6;rw[xP,xw,xA,xe] at a2;refine thn a2 λb s7 ⟨H7,I7,q7⟩=>?_
   have ad:∀{H:Hp}{s:Shared},Inv X' ([((s2.heap.objs.size,ob):Addr × Obj)]++qX U s5.heap) σ6 H s ->
     (tn (i+1) s.heap/\(∀b∈U,H b=none)/\H s2.heap.objs.size=none/\s.heap.get? s2.heap.objs.size=some ob/\Inv X' [] σ6 H s):=λ{H s} I=>by
    refine⟨T.keep _ _ _ ag λb Y o e=>(I.pin (b,o) (zr _ (zr _ (vE Y e)))).1,λb Y=>?_,?_,?_,I.pins_of λp hp=>by simp at hp⟩
    ·obtain⟨o,e,d⟩:=T.obj _ _ ag b Y;exact(I.pin (b,o) (zr _ (zr _ (vE Y e)))).2.1
    ·exact(I.pin (s2.heap.objs.size,ob) (by rw[aa];simp)).2.1
    ·exact(I.pin (s2.heap.objs.size,ob) (by rw[aa];simp)).1
   cases b with
   |false=>
    obtain⟨p1,p2,p3,p4,p5⟩:=ad I7;obtain⟨m',hm,w7⟩:=q7;exact⟨m',hm,i+1,B,σ6,H7,ob,vs,p5,d6,p1,p2,p3,p4,ac,rv,w7⟩
   |true=>
    rw[if_pos rfl] at q7 ⊢;have a3:=gk _ s7 σ6 H7 _ I7 q7;rw[xP,xw,xA,xe] at a3;refine thn a3 λy s8 ⟨v,H8,I8,r8,q8⟩=>?_;have a4:=ge _ s8 σ6 H8 _ I8 q8;rw[xP,xw,xA,xe] at a4;refine thn a4 λy2 s9 ⟨v2,H9,I9,r9,q9⟩=>?_;obtain⟨p1,p2,p3,p4,p5⟩:=ad I9;obtain⟨kk,m',ek,hm,w8⟩:=q9;subst ek;have hl:=rv.length
    refine wpAny_dictSet_pairs (hsz:=by lia) (KO r8) (let ⟨es,ep,r⟩:=ac;⟨ob,es,ep,p4,r⟩) λh' dd' hs=>?_
    obtain⟨ob',es',ep',ho',isD'⟩:=dd'
    have aQ:Inv X' [] σ6 H9 { s9 with heap:=h',toks:=s9.toks+1 }:=p5.turned (t':=s9.toks+1) (λb o Y e=>hs.extBut b o Y e) p3 (by rw[xL];exact DC) (.inr (by rw[xs];exact zk _)) ak (λp hp=>by rw[aa] at hp;simp at hp)
    exact⟨m',hm,i+1,XQ B kk v2,σ6,H9,ob',_,aQ,d6,T.keep _ _ _ p1 λb Y o e=>hs.extBut b o (λz=>aE (by rw[<- z];exact Y)) e,p2,p3,ho',⟨es',ep',isD'⟩,rv.put kk r9,w8⟩
 exact codeAny_compStart_dict (ae _ rfl) (T.self _ 0 _ _ _ ao (ae _ rfl))
def za9(kx vx:Expr)(gens:List Comprehension)(scope:Scope)(pos:Pos)(env:Env):eval (.DictComp kx vx gens scope pos) env=comprehension (.DictComp kx vx gens scope pos) scope env (firstIterPos gens pos) newDict (firstAsync gens) (firstIter gens env):=by
 first |rfl |(unfold eval;rfl) |(rw[eval];rfl) |rw[eval]
def zB2(Y:TI)(own:Nat)(g:TG)(tt:TT)(tk tv:TE):TE:=λσ H Q=>Y σ H λJ H1=>∃W:Nat->Nat->List (Key × V)->Hp->Prop,(∃m,W 0 m [] H1)/\∀i m B H,W i m B H ->
 (J.stop i H/\B.length<=sizeLine/\∀D,H D=none->Q (.ref D) (upd H D (.dK B))) \/
 (J.go i H /\ B.length < sizeLine /\ ∀ x H', J.yld i H x H' -> g x (List.replicate own none ++ σ) H' λI H2 => I.drop own = σ /\ tt I H2 λc U =>
  if c=true then tk I U λy H4=>tv I H4 λv H5=>∃k m',y=kV k/\m'<m/\W (i+1) m' (XQ B k v) H5 else ∃m',m'<m/\W (i+1) m' B U)
def zv9{wi:TI}(ok:CompOk X scope M)(hc:X.calm=true)(hi:PI X tg iter wi)(hg:∀C s2 H2 B,PG (wn X scope own M C s2 H2 B) tg g)(ht:∀C s2 H2 B,PTs (wn X scope own M C s2 H2 B) ifs tt)
  (Y:∀C s2 H2 B,PE (wn X scope own M C s2 H2 B) kx tk) (he:∀C s2 H2 B,PE (wn X scope own M C s2 H2 B) vx tv) (hs:∀x,foldedSetIterable iter X.env x=pure x:=by intro _;rfl) :
  PE X (.DictComp kx vx [⟨tg,iter,ifs,0⟩] scope pos) (zB2 wi own.length g tt tk tv):=by
 intro pins s σ H Q I h;rw[za9]
 refine yl (use:=none) rfl hs (YF (ok.cells I)) ok.kind (λx hx hl=>by rw[ok.uniq x hx,hl]) ?_
 refine thn (hi pins s σ H _ I h) λv s1 h1=>thn h1 λab s2 h2=>?_;obtain⟨it,B,tn,J,H2,e,I2,T,U,f2,W,w0,turn⟩:=h2;subst e;refine zb2 (Qf:=Q) ok hc hg ht Y he I2 T U f2 w0 turn λD C H' s' m IY q hm aa c2 c1 c3 c4=>⟨m,hm,λh' hs'=>?_⟩;exact⟨.ref D,H',IY.turned (t':=s'.toks) (λb o hb e=>hs'.extBut b o hb e) aa c2 (.inr c1) c3 c4,rfl,q⟩
end
inductive D where
 |non |bl (b:Bool) |int (i:Int) |str (x:Str) |ty (n:String) |tup (ds:List D) |lst (ds:List D)
 /-- a list that is known and stays -/
 |fz (ds:List D)
 /-- the list that the drawing keeps -/
 |st
 /-- a list of the frame's own (in a slot alone) -/
 |own (ds:List D)
 /-- a dict, whatever it holds -/
 |dic
 /-- a dict, known, that stays -/
 |dct (ks:List Key) (ds:List D)
 /-- a cell: a thing that changes and is shared -/
 |rf (a:Addr)
def Xv(ks:List Key)(xs:List V):List (Key × V):=List.zipWith (λk x=>(k,x)) ks xs
abbrev zP7:Hp:=λ_=>none
def SqZ(K:W.Frag)(Z:QqA)(H:Hp)(b:Bool)(a:Addr)(xs:List V):Prop:=
 match b with
 |true=>¬ Z a/\H a=some (.lst xs)
 |false=>(¬ Z a/\Rd H a (.tup xs))\/SqT K zP7 a xs
def SqF(K:W.Frag)(Z:QqA)(H:Hp)(a:Addr)(xs:List V):Prop:=(¬ Z a/\∃o,H a=some (.frz o (.lst xs)))\/SqL K zP7 a xs
mutual
def Rep(K:W.Frag)(G:QqE)(Z:QqA)(H:Hp):D->V->Prop
 |.non,v=>v=.non
 |.bl b,v=>v=.bl b
 |.int i,v=>v=.int i
 |.str x,v=>v=.str x
 |.ty n,v=>v=.ty n
 |.tup ds,v=>∃a xs,v=.ref a/\SqZ K Z H false a xs/\Reps K G Z H ds xs
 |.lst ds,v=>∃a xs,v=.ref a/\SqZ K Z H true a xs/\Reps K G Z H ds xs
 |.fz ds,v=>∃a xs,v=.ref a/\SqF K Z H a xs/\Reps K G Z H ds xs
 |.st,v=>∃a,G=some a/\v=.ref a
 |.own _,_=>False
 |.dic,v=>∃a kvs,v=.ref a/\¬ Z a/\H a=some (.dK kvs)
 |.dct ks ds,v=>∃a xs,v=.ref a/\(¬ Z a/\H a=some (.dK (Xv ks xs)))/\Reps K G Z H ds xs
 |.rf a,v=>v=.ref a
def Reps(K:W.Frag)(G:QqE)(Z:QqA)(H:Hp):List D->List V->Prop
 |[],vs=>vs=[]
 |d::ds,vs=>∃v r,vs=v::r/\Rep K G Z H d v/\Reps K G Z H ds r
end
section
variable {K:W.Frag}{G:QqE}{Z Z':QqA}{H H':Hp}
def SqT.anyH{a:Addr}{xs:List V}(h:SqT K zP7 a xs):SqT K H a xs:=by
 rcases h with (h |⟨o,h⟩) |h
 ·cases h
 ·cases h
 ·exact .inr h
def SqZ.sq{b:Bool}{a:Addr}{xs:List V}(h:SqZ K Z H b a xs):SqB K b H a xs:=by
 cases b with
 |true=>exact SqL.of h.2
 |false=>
  rcases h with ⟨_,h⟩ |h
  ·exact .inl h
  ·exact SqT.anyH h
def SqZ.mono{b:Bool}{a:Addr}{xs:List V}(h:SqZ K Z H b a xs)(I:∀a,H a≠none->Z' a->Z a)(B:∀a o,¬ Z a->H a=some o->H' a=some o):SqZ K Z' H' b a xs:=by
 cases b with
 |true=>exact⟨λz=>h.1 (I a (by rw[h.2];simp) z),B a _ h.1 h.2⟩
 | false =>
  rcases h with ⟨n,h⟩ |h
  ·refine .inl ⟨λz => n (I a ?_ z), ?_⟩
   ·rcases h with h |⟨o,h⟩<;>(rw[h];simp)
   ·rcases h with h | ⟨o, h⟩
    ·exact .inl (B a _ n h)
    ·exact .inr ⟨o,B a _ n h⟩
  ·exact .inr h
mutual
theorem Rep.mono(B:∀a,H a≠none->Z' a->Z a)(I:∀a o,¬ Z a->H a=some o->H' a=some o):∀(d:D) (v:V),Rep K G Z H d v->Rep K G Z' H' d v
 |.non,v,h=>by unfold Rep at h ⊢;exact h
 |.bl b,v,h=>by unfold Rep at h ⊢;exact h
 |.int b,v,h=>by unfold Rep at h ⊢;exact h
 |.str b,v,h=>by unfold Rep at h ⊢;exact h
 |.ty b,v,h=>by unfold Rep at h ⊢;exact h
 |.st,v,h=>by unfold Rep at h ⊢;exact h
 |.own _,v,h=>by unfold Rep at h;exact h.elim
 |.dic,v,h=>by
  unfold Rep at h ⊢;obtain⟨a,kvs,e,n,q⟩:=h
  exact⟨a,kvs,e,λz=>n (B a (by rw[q];simp) z),I a _ n q⟩
 |.dct ks ds,v,h=>by
  unfold Rep at h ⊢;obtain⟨a,xs,e,⟨n,q⟩,r⟩:=h
  exact⟨a,xs,e,⟨λz=>n (B a (by rw[q];simp) z),I a _ n q⟩,Reps.mono B I ds xs r⟩
 |.rf b,v,h=>by unfold Rep at h ⊢;exact h
 |.tup ds,v,h=>by
  unfold Rep at h ⊢;obtain⟨a,xs,e,q,r⟩:=h;exact⟨a,xs,e,q.mono B I,Reps.mono B I ds xs r⟩
 |.lst ds,v,h=>by
  unfold Rep at h ⊢;obtain⟨a,xs,e,q,r⟩:=h;exact⟨a,xs,e,q.mono B I,Reps.mono B I ds xs r⟩
 |.fz ds,v,h=>by
  unfold Rep at h ⊢;obtain⟨a,xs,e,q,r⟩:=h;refine⟨a,xs,e,?_,Reps.mono B I ds xs r⟩
  rcases q with ⟨n,o,q⟩ |q
  ·exact .inl ⟨λz=>n (B a (by rw[q];simp) z),o,I a _ n q⟩
  ·exact .inr q
theorem Reps.mono(B:∀a,H a≠none->Z' a->Z a)(I:∀a o,¬ Z a->H a=some o->H' a=some o):∀(ds:List D) (vs:List V),Reps K G Z H ds vs->Reps K G Z' H' ds vs
 |[],vs,h=>by unfold Reps at h ⊢;exact h
 |d::ds,vs,h=>by
  unfold Reps at h ⊢;obtain⟨v,r,e,q,t⟩:=h;exact⟨v,r,e,Rep.mono B I d v q,Reps.mono B I ds r t⟩
end
def Reps.nil:Reps K G Z H [] []:=by unfold Reps;rfl
def Reps.cons{d:D}{ds:List D}{v:V}{vs:List V}(h:Rep K G Z H d v)(t:Reps K G Z H ds vs):Reps K G Z H (d::ds) (v::vs):=by unfold Reps;exact⟨v,vs,rfl,h,t⟩
def Reps.inv{d:D}{ds:List D}{v:V}{vs:List V}(h:Reps K G Z H (d::ds) (v::vs)):Rep K G Z H d v/\Reps K G Z H ds vs:=by
 unfold Reps at h;obtain⟨v',r,e,q,t⟩:=h;cases e;exact⟨q,t⟩
def Reps.split{d:D}{ds:List D}{vs:List V}(h:Reps K G Z H (d::ds) vs):∃v r,vs=v::r/\Rep K G Z H d v/\Reps K G Z H ds r:=by unfold Reps at h;exact h
def Reps.nil_inv{vs:List V}(h:Reps K G Z H [] vs):vs=[]:=by unfold Reps at h;exact h
theorem Reps.length:∀{ds:List D}{vs:List V},Reps K G Z H ds vs->vs.length=ds.length
 |[],vs,h=>by rw[h.nil_inv];rfl
 |d::ds,vs,h=>by
  obtain⟨v,r,rfl,_,t⟩:=h.split;rw[zA,zA,Reps.length t]
theorem Reps.get:∀{ds:List D}{vs:List V}{i:Nat}{d:D},Reps K G Z H ds vs->ds[i]?=some d->∃v,vs[i]?=some v/\Rep K G Z H d v
 |[],vs,i,d,_,e=>by simp at e
 |c::ds,vs,0,d,h,e=>by
  obtain⟨v,r,rfl,q,t⟩:=h.split;simp at e;subst e;exact⟨v,rfl,q⟩
 |c::ds,vs,i+1,d,h,e=>by
  obtain⟨v,r,rfl,q,t⟩:=h.split
  obtain⟨u,I,B⟩:=Reps.get (i:=i) t (by simpa using e)
  exact⟨u,by simpa using I,B⟩
theorem Reps.append:∀{ds es:List D}{vs ws:List V},Reps K G Z H ds vs->Reps K G Z H es ws->Reps K G Z H (ds++es) (vs++ws)
 |[],es,vs,ws,h,h'=>by rw[h.nil_inv];exact h'
 |d::ds,es,vs,ws,h,h'=>by
  obtain⟨v,r,rfl,q,t⟩:=h.split;exact .cons q (Reps.append t h')
theorem Reps.drop:∀{ds:List D}{vs:List V} (n:Nat),Reps K G Z H ds vs->Reps K G Z H (ds.drop n) (vs.drop n)
 |ds,vs,0,h=>h
 |[],vs,n+1,h=>by rw[h.nil_inv];exact .nil
 |d::ds,vs,n+1,h=>by
  obtain⟨v,r,rfl,q,t⟩:=h.split;exact Reps.drop n t
theorem Reps.take:∀{ds:List D}{vs:List V} (n:Nat),Reps K G Z H ds vs->Reps K G Z H (ds.take n) (vs.take n)
 |ds,vs,0,h=>.nil
 |[],vs,n+1,h=>by rw[h.nil_inv];exact .nil
 |d::ds,vs,n+1,h=>by
  obtain⟨v,r,rfl,q,t⟩:=h.split;exact .cons q (Reps.take n t)
end
def qh:D->Bool
 |.non=>true |.bl _=>true |.int _=>true |.str _=>true |.ty _=>true |_=>false
def ofS:D->V
 |.bl b=>.bl b |.int i=>.int i |.str x=>.str x |.ty n=>.ty n |_=>.non
theorem Rep.ofS{K:W.Frag}{G:QqE}{Z:QqA}{H:Hp}:∀{d:D},qh d=true->Rep K G Z H d (ofS d)
 |.non,_=>by unfold Rep;rfl
 |.bl b,_=>by unfold Rep;rfl
 |.int b,_=>by unfold Rep;rfl
 |.str b,_=>by unfold Rep;rfl
 |.ty b,_=>by unfold Rep;rfl
 |.tup ds,h=>by simp[qh] at h
 |.lst ds,h=>by simp[qh] at h
 |.st,h=>by simp[qh] at h
 |.fz ds,h=>by simp[qh] at h
 |.own ds,h=>by simp[qh] at h
theorem Rep.toS{K:W.Frag}{G:QqE}{Z:QqA}{H:Hp}{v:V}:∀{d:D},qh d=true->Rep K G Z H d v->v=L2.ofS d
 |.non,_,h=>by unfold Rep at h;exact h
 |.bl b,_,h=>by unfold Rep at h;exact h
 |.int b,_,h=>by unfold Rep at h;exact h
 |.str b,_,h=>by unfold Rep at h;exact h
 |.ty b,_,h=>by unfold Rep at h;exact h
 |.tup ds,h,_=>by simp[qh] at h
 |.lst ds,h,_=>by simp[qh] at h
 |.st,h,_=>by simp[qh] at h
 |.fz ds,h,_=>by simp[qh] at h
 |.own ds,h,_=>by simp[qh] at h
def Rep.int_inv{K:W.Frag}{G:QqE}{Z:QqA}{H:Hp}{v:V}{i:Int}(h:Rep K G Z H (.int i) v):v=.int i:=by unfold Rep at h;exact h
def Rep.bl_inv{K:W.Frag}{G:QqE}{Z:QqA}{H:Hp}{v:V}{i:Bool}(h:Rep K G Z H (.bl i) v):v=.bl i:=by unfold Rep at h;exact h
def Rep.tup_inv{K:W.Frag}{G:QqE}{Z:QqA}{H:Hp}{v:V}{ds:List D}(h:Rep K G Z H (.tup ds) v):∃a xs,v=.ref a/\SqZ K Z H false a xs/\Reps K G Z H ds xs:=by unfold Rep at h;exact h
def Rep.lst_inv{K:W.Frag}{G:QqE}{Z:QqA}{H:Hp}{v:V}{ds:List D}(h:Rep K G Z H (.lst ds) v):∃a xs,v=.ref a/\SqZ K Z H true a xs/\Reps K G Z H ds xs:=by unfold Rep at h;exact h
def Rep.fz_inv{K:W.Frag}{G:QqE}{Z:QqA}{H:Hp}{v:V}{ds:List D}(h:Rep K G Z H (.fz ds) v):∃a xs,v=.ref a/\SqL K H a xs/\Reps K G Z H ds xs:=by
 unfold Rep at h;obtain⟨a,xs,e,q,r⟩:=h;refine⟨a,xs,e,?_,r⟩
 rcases q with ⟨_,o,q⟩ |q
 ·exact .inl (.inr ⟨o,q⟩)
 ·rcases q with (q | ⟨o, q⟩) | q
  ·cases q
  ·cases q
  ·exact .inr q
def Rep.tup_mk{K:W.Frag}{G:QqE}{Z:QqA}{H:Hp}{a:Addr}{xs:List V}{ds:List D}(q:SqZ K Z H false a xs)(r:Reps K G Z H ds xs):Rep K G Z H (.tup ds) (.ref a):=by unfold Rep;exact⟨a,xs,rfl,q,r⟩
def Rep.lst_mk{K:W.Frag}{G:QqE}{Z:QqA}{H:Hp}{a:Addr}{xs:List V}{ds:List D}(q:SqZ K Z H true a xs)(r:Reps K G Z H ds xs):Rep K G Z H (.lst ds) (.ref a):=by unfold Rep;exact⟨a,xs,rfl,q,r⟩
def Yc:List Nat->Nat
 |[]=>0
 |x::xs=>2^x*(2*Yc xs+1)
theorem zd0:∀{a b x y:Nat},2^a*(2*x+1)=2^b*(2*y+1)->a=b/\x=y
 |0,0,x,y,h=>by simp at h;exact⟨rfl,w5⟩
 |0,b+1,x,y,h=>by
  rw[wE,Nat.mul_comm (2^b) 2,Nat.mul_assoc] at h;generalize 2^b*(2*y+1)=c at h;lia
 |a+1,0,x,y,h=>by
  rw[wE,Nat.mul_comm (2^a) 2,Nat.mul_assoc] at h;generalize 2^a*(2*x+1)=c at h;lia
 |a+1,b+1,x,y,h=>by
  rw[wE,Nat.mul_comm (2^a) 2,Nat.mul_assoc,wE,Nat.mul_comm (2^b) 2,Nat.mul_assoc] at h
  obtain⟨I,B⟩:=zd0 (a:=a) (b:=b) (x:=x) (y:=y) w5
  exact⟨w5,B⟩
def Ql{x:Nat}{xs:List Nat}:Yc (x::xs)≠0:=Nat.mul_ne_zero (xF (Nat.pow_pos w5)) w5
theorem vB:∀{a b:List Nat},Yc a=Yc b->a=b
 |[],[],_=>rfl
 |[],y::B,h=>absurd h.symm Ql
 |x::xs,[],h=>absurd h Ql
 |x::xs,y::B,h=>by
  obtain⟨J,I⟩:=zd0 (show 2^x*(2*Yc xs+1)=2^y*(2*Yc B+1) from h);rw[J,vB I]
def xf6(i:Int):Nat:=if i<0 then 2*i.natAbs+1 else 2*i.natAbs
def Qm{i j:Int}(h:xf6 i=xf6 j):i=j:=by unfold xf6 at h;split at h<;>split at h<;>lia
theorem YB{α β:Type}{f:α->β}(B:∀{x y},f x=f y->x=y):∀{a b:List α},a.map f=b.map f->a=b
 |[],[],_=>rfl
 |[],y::I,h=>by simp at h
 |x::xs,[],h=>by simp at h
 |x::xs,y::I,h=>by
  rw[zz,zz] at h;obtain⟨h1,h2⟩:=List.cons.inj h;rw[B h1,YB B h2]
mutual
def plD:D->Bool
 |.non=>true
 |.bl _=>true
 |.int _=>true
 |.rf _=>true
 |.tup ds=>Zb ds
 |.lst ds=>Zb ds
 |_=>false
def Zb:List D->Bool
 |[]=>true
 |d::ds=>plD d&&Zb ds
end
mutual
def zA0:D->List Nat
 |.bl b=>[1,if b then 1 else 0]
 |.int i=>[2,xf6 i]
 |.rf a=>[3,a]
 |.tup ds=>[4,Yc (XE ds)]
 |.lst ds=>[5,Yc (XE ds)]
 |_=>[0]
def XE:List D->List Nat
 |[]=>[]
 |d::ds=>Yc (zA0 d)::XE ds
end
mutual
theorem zz9:∀(d e:D),plD d=true->plD e=true->zA0 d=zA0 e->d=e
 |.non,e,_,h,q=>by cases e<;>simp[plD,zA0] at h q ⊢
 |.bl b,e,_,h,q=>by
  cases e<;>simp[plD,zA0] at h q ⊢
  rename_i c
  cases b<;>cases c<;>simp at q ⊢
 |.int i,e,_,h,q=>by
  cases e<;>simp[plD,zA0] at h q ⊢
  exact Qm q
 |.rf a,e,_,h,q=>by
  cases e<;>simp[plD,zA0] at h q ⊢
  exact q
 |.tup ds,e,h',h,q=>by
  cases e<;>simp[plD,zA0] at h' h q ⊢
  exact qy _ _ h' h (vB q)
 |.lst ds,e,h',h,q=>by
  cases e<;>simp[plD,zA0] at h' h q ⊢
  exact qy _ _ h' h (vB q)
 |.str _,_,h,_,_=>by simp[plD] at h
 |.ty _,_,h,_,_=>by simp[plD] at h
 |.fz _,_,h,_,_=>by simp[plD] at h
 |.st,_,h,_,_=>by simp[plD] at h
 |.own _,_,h,_,_=>by simp[plD] at h
 |.dic,_,h,_,_=>by simp[plD] at h
 |.dct _ _,_,h,_,_=>by simp[plD] at h
theorem qy:∀(ds es:List D),Zb ds=true->Zb es=true->XE ds=XE es->ds=es
 |[],[],_,_,_=>rfl
 |[],e::es,_,_,q=>by simp[XE] at q
 |d::ds,[],_,_,q=>by simp[XE] at q
 |d::ds,e::es,h',h,q=>by
  simp[XE,Zb] at h' h q;rw[zz9 d e h'.1 h.1 (vB q.1),qy ds es h'.2 h.2 q.2]
end
inductive Cell where
 /-- a dict with whole numbers as keys -/
 |dic (kv:List (Int × D))
 /-- an instance of the class at C: its attributes -/
 |ins (C:Addr) (fs:List (Str × D))
 /-- a dict with texts as keys -/
 |dis (fs:List (Str × D))
def plC:Cell->Bool
 |.dic kv=>Zb (kv.map (·.2))
 |.ins _ fs=>Zb (fs.map (·.2))
 |.dis fs=>Zb (fs.map (·.2))
def Qn:Cell->List Nat
 |.dic kv=>[0,Yc ((kv.map (·.1)).map xf6),Yc (XE (kv.map (·.2)))]
 |.ins C fs=>[1,C,Yc ((fs.map (·.1)).map λs=>Yc s.cps.toList),Yc (XE (fs.map (·.2)))]
 |.dis fs=>[2,Yc ((fs.map (·.1)).map λs=>Yc s.cps.toList),Yc (XE (fs.map (·.2)))]
def Qk{x y:Str}(h:Yc x.cps.toList=Yc y.cps.toList):x=y:=by
 obtain⟨x⟩:=x;obtain⟨y⟩:=y;have:=vB h;simp only[Str.mk.injEq];exact Array.toList_inj.mp this
theorem Yz{α β:Type}:∀{l r:List (α × β)},l.map (·.1)=r.map (·.1)->l.map (·.2)=r.map (·.2)->l=r
 |[],[],_,_=>rfl
 |[],_::_,h,_=>by simp at h
 |_::_,[],h,_=>by simp at h
 |p::l,q::r,h,g=>by
  simp only[zz,List.cons.injEq] at h g;rw[Yz h.2 g.2,Prod.ext h.1 g.1]
theorem zA1:∀{c e:Cell},plC c=true->plC e=true->Qn c=Qn e->c=e
 |.dic kv,.dic kv',h,h',q=>by
  simp only[Qn,List.cons.injEq,true_and,and_true] at q;rw[Yz (YB (λh=>Qm h) (vB q.1)) (qy _ _ h h' (vB q.2))]
 |.dic _,.ins _ _,_,_,q=>by simp[Qn] at q
 |.ins _ _,.dic _,_,_,q=>by simp[Qn] at q
 |.dic _,.dis _,_,_,q=>by simp[Qn] at q
 |.dis _,.dic _,_,_,q=>by simp[Qn] at q
 |.dis _,.ins _ _,_,_,q=>by simp[Qn] at q
 |.ins _ _,.dis _,_,_,q=>by simp[Qn] at q
 |.dis fs,.dis fs',h,h',q=>by
  simp only[Qn,List.cons.injEq,true_and,and_true] at q;rw[Yz (YB (λh=>Qk h) (vB q.1)) (qy _ _ h h' (vB q.2))]
 |.ins C fs,.ins C' fs',h,h',q=>by
  simp only[Qn,List.cons.injEq,true_and,and_true] at q;rw[q.1,Yz (YB (λh=>Qk h) (vB q.2.1)) (qy _ _ h h' (vB q.2.2))]
abbrev Wd:=Nat × List (Addr × Cell)
def plW(w:Wd):Prop:=∀p∈w.2,plC p.2=true
@[irreducible] def zr3(w:Wd):Nat:=64+Yc [w.1,Yc (w.2.map λp=>Yc [p.1,Yc (Qn p.2)])]
def zQ1(w:Wd):64<=zr3 w:=by unfold zr3;lia
def zz8:∀{v w:Wd},plW v->plW w->zr3 v=zr3 w->v=w:=λ{v w} hv J h=>by
 unfold zr3 at h;obtain⟨k,l⟩:=v;obtain⟨k',l'⟩:=w;have h1:=vB (Nat.add_left_cancel h);simp only[List.cons.injEq,and_true] at h1
 have key:∀{l l':List (Addr × Cell)},(∀p∈l,plC p.2=true)->(∀p∈l',plC p.2=true)->(l.map λp=>Yc [p.1,Yc (Qn p.2)])=l'.map (λp=>Yc [p.1,Yc (Qn p.2)])->l=l':=by
  intro l
  induction l with
  |nil=>intro l' _ _ h;cases l'<;>simp at h ⊢
  | cons p l I =>
   intro l' h1 h2 h
   cases l' with
   |nil=>simp at h
   |cons p' l'=>
    simp only[zz,List.cons.injEq] at h;have e:=vB h.1;simp only[List.cons.injEq,and_true] at e;have U:=zA1 (h1 p zq) (h2 p' zq) (vB e.2);rw[I (λq B=>h1 q (zf _ B)) (λq B=>h2 q (zf _ B)) h.2,Prod.ext e.1 U]
 exact Prod.ext h1.1 (key hv J (vB h1.2))
open Classical in
noncomputable def zc5(n:Nat):Wd:=if h:∃w,plW w/\zr3 w=n then Classical.choose h else(n,[])
def zA3{w:Wd}(h:plW w):zc5 (zr3 w)=w:=by
 have g:∃v,plW v/\zr3 v=zr3 w:=⟨w,h,rfl⟩;unfold zc5;rw[dif_pos g];exact zz8 (Classical.choose_spec g).1 h (Classical.choose_spec g).2
def zn9(n:Nat):plW (zc5 n):=by
 unfold zc5
 split
 ·rename_i g;exact(Classical.choose_spec g).1
 ·intro p B;simp at B
def zo0{n:Nat}(h:n<64):zc5 n=(n,[]):=by
 unfold zc5;rw[dif_neg];rintro⟨w,_,rfl⟩;have:=zQ1 w;lia
noncomputable def kOf(n:Nat):Nat:=(zc5 n).1
noncomputable def zW(n:Nat)(a:Addr):Option Cell:=(zc5 n).2.lookup a
noncomputable def Jc(n:Nat):List Addr:=(zc5 n).2.map (·.1)
noncomputable def vq(n:Nat)(a:Addr)(c:Cell):Nat:=zr3 (kOf n,(a,c)::(zc5 n).2)
def zl5{n:Nat}(h:n<64):kOf n=n:=by unfold kOf;rw[zo0 h]
@[simp] theorem zO8:kOf 2=2:=zl5 w6
@[simp] theorem xO7:kOf 3=3:=zl5 w6
def qz{n:Nat}{a:Addr}(h:n<64):zW n a=none:=by unfold zW;rw[zo0 h];rfl
def Qq{n:Nat}{a:Addr}{c:Cell}(h:plC c=true):zc5 (vq n a c)=(kOf n,(a,c)::(zc5 n).2):=zA3 λp B=>by
 rcases zg.mp B with rfl |B
 ·exact h
 ·exact zn9 n p B
def vh{n:Nat}{a:Addr}{c:Cell}(h:plC c=true):kOf (vq n a c)=kOf n:=by unfold kOf;rw[Qq h];rfl
def ky{n:Nat}{a b:Addr}{c:Cell}(h:plC c=true):zW (vq n a c) b=if b=a then some c else zW n b:=by
 unfold zW;rw[Qq h]
 by_cases e:b=a
 ·subst e;simp
 ·rw[if_neg e];simp[List.lookup,beq_eq_false_iff_ne.mpr e]
def Jb{n:Nat}{a:Addr}(h:zW n a≠none):a∈Jc n:=by
 unfold zW at h;unfold Jc
 have key:∀l:List (Addr × Cell),l.lookup a≠none->a∈l.map (·.1):=by
  intro l
  induction l with
  |nil=>intro h;exact absurd rfl h
  |cons p l B=>
   intro h;rw[zz]
   by_cases e:a=p.1
   ·rw[e];exact zq
   ·exact zf _ (B (by simpa [List.lookup,beq_eq_false_iff_ne.mpr e] using h))
 exact key _ h
def KvR(K:W.Frag)(Z:QqA)(H:Hp):List (Int × D)->List (Key × V)->Prop
 |[],[]=>True
 |p::l,q::r=>q.1=.inl p.1/\Rep K none Z H p.2 q.2/\KvR K Z H l r
 |_,_=>False
def FsR(K:W.Frag)(Z:QqA)(H:Hp):List (Str × D)->List (Str × V)->Prop
 |[],[]=>True
 |p::l,q::r=>q.1=p.1/\Rep K none Z H p.2 q.2/\FsR K Z H l r
 |_,_=>False
def KsR(K:W.Frag)(Z:QqA)(H:Hp):List (Str × D)->List (Key × V)->Prop
 |[],[]=>True
 |p::l,q::r=>q.1=.inr p.1/\Rep K none Z H p.2 q.2/\KsR K Z H l r
 |_,_=>False
theorem KsR.mono{K:W.Frag}{Z Z':QqA}{H H':Hp}(B:∀a,H a≠none->Z' a->Z a)(I:∀a o,¬ Z a->H a=some o->H' a=some o):∀{l:List (Str × D)}{r:List (Key × V)},KsR K Z H l r->KsR K Z' H' l r
 |[],[],_=>trivial
 |_::_,_::_,h=>⟨h.1,Rep.mono B I _ _ h.2.1,KsR.mono B I h.2.2⟩
theorem KvR.mono{K:W.Frag}{Z Z':QqA}{H H':Hp}(B:∀a,H a≠none->Z' a->Z a)(I:∀a o,¬ Z a->H a=some o->H' a=some o):∀{l:List (Int × D)}{r:List (Key × V)},KvR K Z H l r->KvR K Z' H' l r
 |[],[],_=>trivial
 |_::_,_::_,h=>⟨h.1,Rep.mono B I _ _ h.2.1,KvR.mono B I h.2.2⟩
theorem FsR.mono{K:W.Frag}{Z Z':QqA}{H H':Hp}(B:∀a,H a≠none->Z' a->Z a)(I:∀a o,¬ Z a->H a=some o->H' a=some o):∀{l:List (Str × D)}{r:List (Str × V)},FsR K Z H l r->FsR K Z' H' l r
 |[],[],_=>trivial
 |_::_,_::_,h=>⟨h.1,Rep.mono B I _ _ h.2.1,FsR.mono B I h.2.2⟩
def CellR(K:W.Frag)(Z:QqA)(H:Hp)(a:Addr):Cell->Prop
 |.dic kv=>∃kvs,H a=some (.dK kvs)/\KvR K Z H kv kvs
 |.ins C fs=>∃B gs,H a=some (.ins C B gs)/\FsR K Z H fs gs
 |.dis fs=>∃kvs,H a=some (.dK kvs)/\KsR K Z H fs kvs
def CellR.ne{K:W.Frag}{Z:QqA}{H:Hp}{a:Addr}{c:Cell}(h:CellR K Z H a c):H a≠none:=by
 cases c with
 |dic kv=>obtain⟨xs,h,_⟩:=h;rw[h];simp
 |ins C fs=>obtain⟨B,xs,h,_⟩:=h;rw[h];simp
 |dis fs=>obtain⟨xs,h,_⟩:=h;rw[h];simp
def CellR.mono{K:W.Frag}{Z Z':QqA}{H H':Hp}{a:Addr}{c:Cell}(h:CellR K Z H a c)(B:∀a,H a≠none->Z' a->Z a)(I:∀a o,¬ Z a->H a=some o->H' a=some o)(J:∀o,H a=some o->H' a=some o):CellR K Z' H' a c:=by
 cases c with
 |dic kv=>obtain⟨xs,h,r⟩:=h;exact⟨xs,J _ h,r.mono B I⟩
 |ins C fs=>obtain⟨U,xs,h,r⟩:=h;exact⟨U,xs,J _ h,r.mono B I⟩
 |dis fs=>obtain⟨xs,h,r⟩:=h;exact⟨xs,J _ h,r.mono B I⟩
def StOk(K:W.Frag)(Z C:QqA)(G:QqE)(n:Nat)(H:Hp):Prop:=
 (∀a,G=some a->∃(B:List Int) (_ _:Nat),H a=some (.lst (B.map V.int))/\B.length=kOf n/\(∀x∈B,0<=x)/\∀x,B[1]?=some x->x<2147483647) /\
 ∀a c,zW n a=some c->C a/\G≠some a/\CellR K Z H a c
def StOk.monoC{K:W.Frag}{Z Z' C C':QqA}{G:QqE}{n:Nat}{H H':Hp}(h:StOk K Z C G n H)(Y:∀a,H a≠none->Z' a->Z a)(hf:∀a o,¬ Z a->H a=some o->H' a=some o)(hg:∀a o,G=some a->H a=some o->H' a=some o)
  (hC:∀a,zW n a≠none->C a->C' a) (hc:∀a o,zW n a≠none->H a=some o->H' a=some o):StOk K Z' C' G n H':=
 ⟨λa e=>by
  obtain⟨B,u,v,q,r⟩:=h.1 a e
  exact⟨B,u,v,hg a _ e q,r⟩,λa c e=>by
  obtain⟨U,J,I⟩:=h.2 a c e
  have ne:zW n a≠none:=by rw[e];simp
  exact⟨hC a ne U,J,I.mono Y hf λo=>hc a o ne⟩⟩
def StOk.mono{K:W.Frag}{Z Z' C C':QqA}{G:QqE}{n:Nat}{H H':Hp}(h:StOk K Z C G n H)(B:∀a,H a≠none->Z' a->Z a)(J:∀a o,¬ Z a->H a=some o->H' a=some o)(I:∀a o,G=some a->H a=some o->H' a=some o)
  (Y:∀a,zW n a≠none->C a->C' a) (U:∀a o,C a->H a=some o->H' a=some o):StOk K Z' C' G n H':=
 h.monoC B J I Y λa o ne e=>by
  cases q:zW n a with
  |none=>exact absurd q ne
  |some c=>exact U a o (h.2 a c q).1 e
structure AC where
 K:W.Frag
 G:Option Addr
 Z0:Addr->Prop
 H0:Hp
abbrev Rho:=List (Option D)
def Zof(A:AC)(os:List (Nat × Addr)):Addr->Prop:=λa=>A.Z0 a\/∃p∈os,p.2=a
def SlotR(A:AC)(os:List (Nat × Addr))(H:Hp)(i:Nat):D->V->Prop
 |.own ds,v=>∃a xs,v=.ref a/\(i,a)∈os/\H a=some (.lst xs)/\Reps A.K A.G (Zof A os) H ds xs
 |d,v=>Rep A.K A.G (Zof A os) H d v
def Cof(A:AC)(os:List (Nat × Addr))(m:Nat):Addr->Prop:=λa=>(A.Z0 a/\A.H0 a=none)\/∃p∈os,p.2=a/\m<=p.1
structure AmO(A:AC)(os:List (Nat × Addr))(n:Nat)(rho:Rho)(sg:St)(H:Hp)(ds:List D)(vs:List V):Prop where
 len:rho.length=sg.length
 slot:∀i d,rho[i]?=some (some d)->∃v,sg[i]?=some (some v)/\SlotR A os H i d v
 pend:Reps A.K A.G (Zof A os) H ds vs
 nd:os.Pairwise λp q=>p.1≠q.1/\p.2≠q.2
 fresh:∀p∈os,A.H0 p.2=none/\¬ A.Z0 p.2/\H p.2≠none
 st:StOk A.K (Zof A os) (Cof A os rho.length) A.G n H
 gz:∀a,A.G=some a->A.Z0 a
 fr:∀a o,A.G≠some a->A.H0 a=some o->H a=some o
 z0:∀a,A.Z0 a->A.H0 a≠none\/zW n a≠none
def Am(A:AC)(n:Nat)(rho:Rho)(sg:St)(H:Hp)(ds:List D)(vs:List V):Prop:=∃os,AmO A os n rho sg H ds vs
section
variable {A:AC}{os:List (Nat × Addr)}{n:Nat}{rho:Rho}{sg:St}{H:Hp}{ds:List D}{vs:List V}{d:D}{v:V}
def AmO.zH(I:AmO A os n rho sg H ds vs):∀a,Zof A os a->H a≠none:=λa h=>by
 rcases h with h |⟨p,B,rfl⟩
 ·by_cases e : A.G = some a
  ·obtain⟨x,y,z,q,_⟩:=I.st.1 a e;rw[q];simp
  ·rcases I.z0 a h with z | z
   ·cases q : A.H0 a with
    |none=>exact absurd q z
    |some o=>rw[I.fr a o e q];simp
   ·cases q : zW n a with
    |none=>exact absurd q z
    |some c=>exact(I.st.2 a c q).2.2.ne
 ·exact(I.fresh p B).2.2
def AmO.noOwn(I:AmO A os n rho sg H ds vs){i:Nat}{a:Addr}(hi:i<rho.length)(hm:(i,a)∈os):zW n a=none:=by
 cases q:zW n a with
 |none=>rfl
 | some c =>
  exfalso
  rcases(I.st.2 a c q).1 with ⟨z,_⟩ |⟨p,J,e,hl⟩
  ·exact(I.fresh _ hm).2.1 z
  ·have key : ∀ (l : List (Nat × Addr)), l.Pairwise (λp q => p.1 ≠ q.1 /\ p.2 ≠ q.2) -> (i, a) ∈ l -> ∀ q ∈ l, q.2 = a -> q.1 = i := by
    intro l
    induction l with
    |nil=>intro _ h;simp at h
    |cons c l ih=>
     intro J h1 q hq B;obtain⟨U,p2⟩:=wk.mp J
     rcases zg.mp h1 with Y |h1<;>rcases zg.mp hq with W |h2
     ·rw[W,<- Y]
     ·exact absurd (by rw[<- Y,B]) (U _ h2).2
     ·exact absurd (by rw[<- W,B]) (U _ h1).2
     ·exact ih p2 h1 q h2 B
   have:=key os I.nd hm p J e;lia
def SlotR.mono{os':List (Nat × Addr)}{H':Hp}{i:Nat}(B:∀a,H a≠none->Zof A os' a->Zof A os a)(I:∀a o,¬ Zof A os a->H a=some o->H' a=some o)
  (J:∀a xs,(i,a)∈os->H a=some (.lst xs)->(i,a)∈os'/\H' a=some (.lst xs)):∀(d:D) (v:V),SlotR A os H i d v->SlotR A os' H' i d v
 |.own ds,v,h=>by
  obtain⟨a,xs,e,m,q,r⟩:=h;obtain⟨m',q'⟩:=J a xs m q;exact⟨a,xs,e,m',q',Reps.mono B I ds xs r⟩
 |.non,v,h=>Rep.mono B I _ _ h
 |.bl _,v,h=>Rep.mono B I _ _ h
 |.int _,v,h=>Rep.mono B I _ _ h
 |.str _,v,h=>Rep.mono B I _ _ h
 |.ty _,v,h=>Rep.mono B I _ _ h
 |.tup _,v,h=>Rep.mono B I _ _ h
 |.lst _,v,h=>Rep.mono B I _ _ h
 |.st,v,h=>Rep.mono B I _ _ h
 |.fz _,v,h=>Rep.mono B I _ _ h
 |.dic,v,h=>Rep.mono B I _ _ h
 |.dct _ _,v,h=>Rep.mono B I _ _ h
 |.rf _,v,h=>Rep.mono B I _ _ h
def vd:D->Bool
 |.own _=>false
 |_=>true
theorem SlotR.rep{i:Nat}:∀{d:D}{v:V},vd d=true->SlotR A os H i d v->Rep A.K A.G (Zof A os) H d v
 |.own _,_,h,_=>by simp[vd] at h
 |.non,_,_,h=>h
 |.bl _,_,_,h=>h
 |.int _,_,_,h=>h
 |.str _,_,_,h=>h
 |.ty _,_,_,h=>h
 |.tup _,_,_,h=>h
 |.lst _,_,_,h=>h
 |.st,_,_,h=>h
 |.fz _,_,_,h=>h
 |.dic,_,_,h=>h
 |.dct _ _,_,_,h=>h
 |.rf _,_,_,h=>h
theorem SlotR.of{i:Nat}:∀{d:D}{v:V},Rep A.K A.G (Zof A os) H d v->SlotR A os H i d v
 |.own _,_,h=>by unfold Rep at h;exact h.elim
 |.non,_,h=>h
 |.bl _,_,h=>h
 |.int _,_,h=>h
 |.str _,_,h=>h
 |.ty _,_,h=>h
 |.tup _,_,h=>h
 |.lst _,_,h=>h
 |.st,_,h=>h
 |.fz _,_,h=>h
 |.dic,_,h=>h
 |.dct _ _,_,h=>h
 |.rf _,_,h=>h
def AmO.push(I:AmO A os n rho sg H ds vs)(h:Rep A.K A.G (Zof A os) H d v):AmO A os n rho sg H (d::ds) (v::vs):=
 ⟨I.len,I.slot,.cons h I.pend,I.nd,I.fresh,I.st,I.gz,I.fr,I.z0⟩
def AmO.pends{es:List D}{ws:List V}(I:AmO A os n rho sg H ds vs)(h:Reps A.K A.G (Zof A os) H es ws):AmO A os n rho sg H es ws:=
 ⟨I.len,I.slot,h,I.nd,I.fresh,I.st,I.gz,I.fr,I.z0⟩
def AmO.pop(I:AmO A os n rho sg H (d::ds) (v::vs)):AmO A os n rho sg H ds vs/\Rep A.K A.G (Zof A os) H d v:=⟨I.pends I.pend.inv.2,I.pend.inv.1⟩
def AmO.grow{p:Addr}{o:HO}(I:AmO A os n rho sg H ds vs)(U:H p=none):AmO A os n rho sg (upd H p o) ds vs:=by
 have B:∀a u,H a=some u->upd H p o a=some u:=λa u e=>by rw[wB (vz e U)];exact e
 refine⟨I.len,λi d e=>?_,Reps.mono (λ_ _ z=>z) (λa u _ e=>B a u e) _ _ I.pend,I.nd,λq J=>?_,I.st.mono (λ_ _ z=>z) (λa u _ e=>B a u e) (λa u _ e=>B a u e) (λ_ _ z=>z) (λa u _ e=>B a u e),I.gz,λa u h e=>B a u (I.fr a u h e),I.z0⟩
 ·obtain⟨v,e1,e2⟩:=I.slot i d e;exact⟨v,e1,SlotR.mono (λ_ _ z=>z) (λa u _ e=>B a u e) (λa xs m q=>⟨m,B a _ q⟩) _ _ e2⟩
 ·obtain ⟨f1, Y, W⟩ := I.fresh q J;refine⟨f1,Y,?_⟩
  cases e:H q.2 with
  |none=>exact absurd e W
  |some u=>rw[B _ _ e];simp
def AmO.newTup{p:Addr}{es:List D}{xs:List V}(I:AmO A os n rho sg H ds vs)(r:Reps A.K A.G (Zof A os) H es xs)(B:H p=none):AmO A os n rho sg (upd H p (.tup xs)) (.tup es::ds) (.ref p::vs):=by
 have g:=I.grow (o:=.tup xs) B;refine g.push (.tup_mk (.inl ⟨λz=>I.zH p z B,.inl yA⟩) ?_)
 exact Reps.mono (λ_ _ z=>z) (λa u _ e=>by rw[wB (vz e B)];exact e) _ _ r
def AmO.newLst{p:Addr}{es:List D}{xs:List V}(I:AmO A os n rho sg H ds vs)(r:Reps A.K A.G (Zof A os) H es xs)(B:H p=none):AmO A os n rho sg (upd H p (.lst xs)) (.lst es::ds) (.ref p::vs):=by
 have g:=I.grow (o:=.lst xs) B;refine g.push (.lst_mk ⟨λz=>I.zH p z B,yA⟩ ?_)
 exact Reps.mono (λ_ _ z=>z) (λa u _ e=>by rw[wB (vz e B)];exact e) _ _ r
def Cof.filter{i:Nat}{a:Addr}{x:Option D}(hi:i<rho.length)(z:Cof A os rho.length a):Cof A (os.filter λp=>decide (p.1≠i)) (rho.set i x).length a:=by
 rw[length_set]
 rcases z with z |⟨p,B,e,I⟩
 ·exact .inl z
 ·exact .inr ⟨p,zP.mpr ⟨B,by simp;lia⟩,e,I⟩
def AmO.set{i:Nat}(I:AmO A os n rho sg H (d::ds) (v::vs))(hi:i<rho.length):AmO A (os.filter λp=>decide (p.1≠i)) n (rho.set i (some d)) (sg.set i (some v)) H ds vs:=by
 obtain⟨J,U⟩:=I.pop
 have sub:∀a,H a≠none->Zof A (os.filter λp=>decide (p.1≠i)) a->Zof A os a:=λa _ z=>by
  rcases z with z |⟨p,B,e⟩
  ·exact .inl z
  ·exact .inr ⟨p,(zP.mp B).1,e⟩
 refine⟨by simp[I.len],λj c e=>?_,Reps.mono sub (λ_ _ _ e=>e) _ _ J.pend,I.nd.filter _,λp B=>I.fresh p (zP.mp B).1,I.st.mono sub (λ_ _ _ e=>e) (λ_ _ _ e=>e) (λa _ z=>Cof.filter hi z) (λ_ _ _ e=>e),I.gz,I.fr,I.z0⟩
 by_cases hj:j=i
 ·subst hj;rw[xq hi] at e;cases e
  exact⟨v,xq (by rw[<- I.len];exact hi),SlotR.of (Rep.mono sub (λ_ _ _ e=>e) _ _ U)⟩
 ·rw [xJ (Ne.symm hj)] at e;obtain⟨u,Y,W⟩:=I.slot j c e
  exact⟨u,by rw[xJ (Ne.symm hj)];exact Y,SlotR.mono sub (λ_ _ _ e=>e) (λa xs m q=>⟨zP.mpr ⟨m,by simpa using hj⟩,q⟩) _ _ W⟩
end
abbrev TD:=Rho->Nat->(D->Nat->Prop)->Prop
abbrev TBD:=Rho->Nat->(Bool->Nat->Prop)->Prop
abbrev TAD:=Rho->Nat->(List D->Nat->Prop)->Prop
def tOf(A:AC)(t:TD):TE:=λsg H Q=>∃rho n P ds vs,Am A n rho sg H ds vs/\t rho n P/\∀v H' n' d,Am A n' rho sg H' (d::ds) (v::vs)->P d n'->Q v H'
def Kc(A:AC)(t:TBD):TT:=λsg H Q=>∃rho n P ds vs,Am A n rho sg H ds vs/\t rho n P/\∀b H' n',Am A n' rho sg H' ds vs->P b n'->Q b H'
def xn5(A:AC)(t:TAD):TA:=λsg H Q=>∃rho n P ds vs,Am A n rho sg H ds vs/\t rho n P/\∀ws H' n' es,Am A n' rho sg H' (es++ds) (ws++vs)->ws.length=es.length->P es n'->Q ws H'
@[irreducible] def PD(A:AC)(X:Cx)(e:Expr)(t:TD):Prop:=PE X e (tOf A t)
@[irreducible] def PTD(A:AC)(X:Cx)(e:Expr)(t:TBD):Prop:=PT X e (Kc A t)
@[irreducible] def PWD(A:AC)(X:Cx)(e:Expr)(t:TBD):Prop:=PW X e (Kc A t)
@[irreducible] def PAD(A:AC)(X:Cx)(es:List Expr)(t:TAD):Prop:=PA X es (xn5 A t)
def PE.imp{X:Cx}{e:Expr}{t t':TE}(h:PE X e t)(hi:∀sg H Q,t' sg H Q->t sg H Q):PE X e t':=λB s sg H Q I q=>h B s sg H Q I (hi _ _ _ q)
def PT.imp{X:Cx}{e:Expr}{t t':TT}(h:PT X e t)(hi:∀sg H Q,t' sg H Q->t sg H Q):PT X e t':=λB s sg H Q I q=>h B s sg H Q I (hi _ _ _ q)
def PW.imp{X:Cx}{e:Expr}{t t':TT}(h:PW X e t)(hi:∀sg H Q,t' sg H Q->t sg H Q):PW X e t':=λJ B s sg H Q I q=>h J B s sg H Q I (hi _ _ _ q)
def PA.imp{X:Cx}{e:List Expr}{t t':TA}(h:PA X e t)(hi:∀sg H Q,t' sg H Q->t sg H Q):PA X e t':=λps B s sg H Q I q=>h ps B s sg H Q I (hi _ _ _ q)
def PS.imp{X:Cx}{e:Stmt}{t t':TS}(h:PS X e t)(hi:∀E sg H,t' E sg H->t E sg H):PS X e t':=λB s sg H Q I q=>h B s sg H Q I (hi _ _ _ q)
def PSs.imp{X:Cx}{e:List Stmt}{t t':TS}(h:PSs X e t)(hi:∀E sg H,t' E sg H->t E sg H):PSs X e t':=λB s sg H Q I q=>h B s sg H Q I (hi _ _ _ q)
section
variable {A:AC}{X:Cx}{a b c e:Expr}{es:List Expr}{ta tb tc:TD}{pos:Pos}
def atD(d:D)(k:D->Prop):Prop:=match d with
 |.own _=>False
 |.non=>k .non
 |.bl b=>k (.bl b)
 |.int b=>k (.int b)
 |.str b=>k (.str b)
 |.ty b=>k (.ty b)
 |.tup b=>k (.tup b)
 |.lst b=>k (.lst b)
 |.fz b=>k (.fz b)
 |.st=>k .st
 |.dic=>k .dic
 |.dct a b=>k (.dct a b)
 |.rf a=>k (.rf a)
def zq9{d:D}{k:D->Prop}(h:atD d k):vd d=true/\k d:=by
 cases d<;>first |exact⟨rfl,h⟩ |exact h.elim
def zF8{d:D}{k:D->Prop}(h:vd d=true)(q:k d):atD d k:=by
 cases d<;>first |exact q |(simp[vd] at h;done)
def atV(o:Option (Option D))(k:D->Prop):Prop:=match o with |some (some d)=>atD d k |_=>False
def zR3{o:Option (Option D)}{k:D->Prop}(h:atV o k):∃d,o=some (some d)/\vd d=true/\k d:=by
 match o,h with
 |some (some d),h=>exact⟨d,rfl,zq9 h⟩
def xH7(i:Nat):TD:=λrho n P=>atV rho[i]? λd=>P d n
def dC(d:D):TD:=λ_ n P=>P d n
def zm(i:Nat){x:Str}(hN:X.N[i]?=some x:=by rfl)(hv:Vis X.env.scope x:=by first |exact Or.inl rfl |exact Or.inr (Or.inl rfl) |exact Or.inr (Or.inr rfl))(hd:(x == ("__debug__" : Str))=false:=by decide)
  (B:(x == ("__classdict__" : Str))=false:=by decide):PD A X (.Name x pos) (xH7 i):=by
 exists (JN hN hv hd B).imp λsg H Q h=>by
   obtain⟨rho,n,P,ds,vs,⟨os,I⟩,hh,J⟩:=h;obtain⟨d,e,hd,q⟩:=zR3 hh;obtain⟨v,W,U⟩:=I.slot i d e;exact⟨v,W,J v H n d ⟨os,I.push (U.rep hd)⟩ q⟩
def zo8{d:D}(J:qh d=true){t:TE}(B:∀sg H Q,Q (ofS d) H->t sg H Q)(h:PE X e t):PD A X e (dC d):=by
 exists h.imp λsg H Q q=>by
   obtain⟨rho,n,P,ds,vs,⟨os,I⟩,q,U⟩:=q;exact B _ _ _ (U _ H n d ⟨os,I.push (Rep.ofS J)⟩ q)
def xo{i:Int}{j:Nat}:PD A X (.Constant (.int i) j pos) (dC (.int i)):=by exists zo8 rfl (λ_ _ _ q=>q) zZ4
def Uf{i:Bool}{j:Nat}:PD A X (.Constant (.bool i) j pos) (dC (.bl i)):=by exists zo8 rfl (λ_ _ _ q=>q) xy3
def zi2{j:Nat}:PD A X (.Constant .none j pos) (dC .non):=by exists zo8 rfl (λ_ _ _ q=>q) zZ2
def qf{x:Str}{j:Nat}:PD A X (.Constant (.str x) j pos) (dC (.str x)):=by exists zo8 rfl (λ_ _ _ q=>q) JO
def zi0{x:Str}{T:String}(B:Gl X x:=by rfl)(hm:X.mg x=none)(hv:bootBuiltins x=some (.type T))(hn:x ≠ "__name__" := by decide)(hd:(x == ("__debug__" : Str))=false:=by decide):PD A X (.Name x pos) (dC (.ty T)):=by
 exists 
   zo8 rfl (λ_ _ _ q=>q) (zL4 B hm hv (v:=.ty T) rfl hn hd)
abbrev RD2:=D->D->(D->Prop)->Prop
def qA(A:AC)(r:R2)(I:RD2):Prop:=
 ∀os n rho sg H ds vs d1 d2 v1 B (k:D->Prop) (Q:VK),AmO A os n rho sg H (d2::d1::ds) (B::v1::vs)->I d1 d2 k->(∀v H' d,Am A n rho sg H' (d::ds) (v::vs)->k d->Q v H')->r v1 B H Q
def dOp(B:RD2)(ta tb:TD):TD:=λrho n P=>ta rho n λd1 J=>tb rho J λd2 I=>B d1 d2 λd=>P d I
def UH(t:TD):TBD:=λrho n P=>t rho n λd n'=>∃b,d=.bl b/\P b n'
def VD{r:R2}{B:RD2}(hr:qA A r B){sg:St}{H:Hp}{Q:VK}(h:tOf A (dOp B ta tb) sg H Q):tOp r (tOf A ta) (tOf A tb) sg H Q:=by
 obtain⟨rho,n,P,ds,vs,I,ht,hQ⟩:=h;exact⟨rho,n,_,ds,vs,I,ht,λv1 H1 Y d1 I1 h1=>⟨rho,Y,_,d1::ds,v1::vs,I1,h1,λv2 H2 W d2 ⟨U,I2⟩ h2=>hr _ _ _ _ _ _ _ _ _ _ _ _ Q I2 h2 λv H' d J k=>hQ v H' W d J k⟩⟩
def Zq{t:TE}{B:TD}(h:∀sg H Q,tOf A B sg H Q->t sg H Q){sg:St}{H:Hp}{Q:Bool->Hp->Prop}(q:Kc A (UH B) sg H Q):zT6 t sg H Q:=by
 obtain⟨rho,n,P,ds,vs,I,U,W⟩:=q;refine h _ _ _ ⟨rho,n,_,ds,vs,I,U,λv H' n' d ⟨os,J⟩ k=>?_⟩;obtain⟨b,rfl,k⟩:=k;obtain⟨Y,r⟩:=J.pop;exact⟨b,r.bl_inv,W b H' n' ⟨os,Y⟩ k⟩
def Xe{op:Operator}{r:R2}{B:RD2}(J:OpR X (binaryOp op) r)(I:qA A r B)(ha:PD A X a ta)(U:PD A X b tb):PD A X (.BinOp a op b pos) (dOp B ta tb):=by exists (xy1 J ha U).imp λ_ _ _=>VD I
def Ue{op:CmpOp}{r:R2}{B:RD2}(J:OpR X (compareOp op) r)(I:qA A r B)(ha:PD A X a ta)(U:PD A X b tb)(hm:behindInMarks op b=false):PD A X (.Compare a [op] [b] pos) (dOp B ta tb):=by exists (zh8 J ha U hm).imp λ_ _ _=>VD I
def kR{op:CmpOp}{r:R2}{B:RD2}(J:OpR X (compareOp op) r)(I:qA A r B)(ha:PD A X a ta)(U:PD A X b tb)(hm:behindInMarks op b=false):PTD A X (.Compare a [op] [b] pos) (UH (dOp B ta tb)):=by
 exists 
   (WZ J ha U hm).imp λ_ _ _=>Zq λ_ _ _=>VD I
def Zc{r:R2}{B:RD2}(hi:IxR X r)(J:qA A r B)(ha:PD A X a ta)(U:PD A X b tb)(I:Ji b):PD A X (.Subscript a b pos) (dOp B ta tb):=by exists (zZ3 hi ha U I).imp λ_ _ _=>VD J
def jj(ha:PD A X a ta)(he:∀whole,isTrue a X.env whole=(do let v <- whole;standAt a.pos;holding [v] (truthy v)):=by intro _;rfl):PTD A X a (UH ta):=by exists (zX7 ha he).imp λ_ _ _=>Zq λ_ _ _ q=>q
def rdI(C:Int->Int->Prop)(g:Int->Int->D):RD2:=λd1 d2 k=>match d1,d2 with |.int i,.int j=>C i j/\k (g i j) |_,_=>False
def zI1{C:Int->Int->Prop}{g:Int->Int->D}{d1 d2:D}{k:D->Prop}(h:rdI C g d1 d2 k):∃i j,d1=.int i/\d2=.int j/\C i j/\k (g i j):=by
 unfold rdI at h
 split at h
 ·exact⟨_,_,rfl,rfl,h⟩
 ·exact h.elim
def zu3(g:Int->Int->D):RD2:=λd1 d2 k=>match d1,d2 with |.int i,.int j=>k (g i j) |_,_=>False
def zu2{g:Int->Int->D}{d1 d2:D}{k:D->Prop}(h:zu3 g d1 d2 k):∃i j,d1=.int i/\d2=.int j/\k (g i j):=by
 unfold zu3 at h
 split at h
 ·exact⟨_,_,rfl,rfl,h⟩
 ·exact h.elim
def zt7{C:Int->Int->Prop}{g:Int->Int->V}{gd:Int->Int->D}(U:∀i j,qh (gd i j)=true)(W:∀i j,ofS (gd i j)=g i j):qA A (rI C g) (rdI C gd):=by
 rintro os n rho sg H ds vs d1 d2 v1 v2 k Q I hh hQ;obtain⟨i,j,rfl,rfl,Y,q⟩:=zI1 hh;obtain⟨I1,B⟩:=I.pop;obtain⟨I2,J⟩:=I1.pop
 exact⟨i,j,J.int_inv,B.int_inv,Y,hQ _ H _ ⟨os,I2.push (by rw[<- W];exact Rep.ofS (U i j))⟩ q⟩
def VV{g:Int->Int->V}{gd:Int->Int->D}(U:∀i j,qh (gd i j)=true)(W:∀i j,ofS (gd i j)=g i j):qA A (rI0 g) (zu3 gd):=by
 rintro os n rho sg H ds vs d1 d2 v1 v2 k Q I hh Y;obtain⟨i,j,rfl,rfl,q⟩:=zu2 hh;obtain⟨I1,B⟩:=I.pop;obtain⟨I2,J⟩:=I1.pop
 exact⟨i,j,J.int_inv,B.int_inv,Y _ H _ ⟨os,I2.push (by rw[<- W];exact Rep.ofS (U i j))⟩ q⟩
abbrev xQ5:TD->TD->TD:=dOp (zu3 λi j=>.int (i+j))
abbrev xP7:TD->TD->TD:=dOp (zu3 λi j=>.int (i-j))
abbrev xQ2:TD->TD->TD:=dOp (rdI CMul λi j=>.int (i*j))
abbrev xQ3:TD->TD->TD:=dOp (rdI (λ_ j=>0<j) λi j=>.int (i%j))
abbrev xQ4:TD->TD->TD:=dOp (rdI xI8 λi j=>.int (i/j))
abbrev xQ0:TD->TD->TD:=dOp (rdI xI7 λi j=>.int (i^j.toNat))
def jn(ha:PD A X a ta)(B:PD A X b tb):PD A X (.BinOp a .Add b pos) (xQ5 ta tb):=by exists Xe xa8 (VV (λ_ _=>rfl) λ_ _=>rfl) ha B
def Wq(ha:PD A X a ta)(B:PD A X b tb):PD A X (.BinOp a .Sub b pos) (xP7 ta tb):=by exists Xe xa3 (VV (λ_ _=>rfl) λ_ _=>rfl) ha B
def qu(ha:PD A X a ta)(B:PD A X b tb):PD A X (.BinOp a .Mult b pos) (xQ2 ta tb):=by exists Xe xa5 (zt7 (λ_ _=>rfl) λ_ _=>rfl) ha B
def Zx(ha:PD A X a ta)(B:PD A X b tb):PD A X (.BinOp a .Mod b pos) (xQ3 ta tb):=by exists Xe xa6 (zt7 (λ_ _=>rfl) λ_ _=>rfl) ha B
def zD1(ha:PD A X a ta)(B:PD A X b tb):PD A X (.BinOp a .FloorDiv b pos) (xQ4 ta tb):=by exists Xe zM2 (zt7 (λ_ _=>rfl) λ_ _=>rfl) ha B
def Wr(ha:PD A X a ta)(B:PD A X b tb):PD A X (.BinOp a .Pow b pos) (xQ0 ta tb):=by exists Xe xa4 (zt7 (λ_ _=>rfl) λ_ _=>rfl) ha B
abbrev xK6:RD2:=zu3 λi j=>.bl (decide (i<j))
abbrev xK7:RD2:=zu3 λi j=>.bl (decide (j<i))
abbrev xK8:RD2:=zu3 λi j=>.bl (decide (j<=i))
def zH8:qA A (rI0 λi j=>.bl (decide (i<j))) xK6:=VV (g:=λi j=>.bl (decide (i<j))) (λ_ _=>rfl) λ_ _=>rfl
def zt9:qA A (rI0 λi j=>.bl (decide (j<i))) xK7:=VV (g:=λi j=>.bl (decide (j<i))) (λ_ _=>rfl) λ_ _=>rfl
def xp3:qA A (rI0 λi j=>.bl (decide (j<=i))) xK8:=VV (g:=λi j=>.bl (decide (j<=i))) (λ_ _=>rfl) λ_ _=>rfl
def zI2:RD2:=λd1 d2 k=>qh d1=true/\qh d2=true/\xi5 (ofS d1) (ofS d2)=true/\k (.bl (decide (ofS d1=ofS d2)))
def zW0:RD2:=λd1 d2 k=>qh d1=true/\qh d2=true/\xi5 (ofS d1) (ofS d2)=true/\k (.bl (!decide (ofS d1=ofS d2)))
def zu0:qA A rEq zI2:=by
 rintro os n rho sg H ds vs d1 d2 v1 v2 k Q I ⟨h1,h2,h3,q⟩ U;obtain⟨Y,B⟩:=I.pop;obtain⟨W,J⟩:=Y.pop;rw[J.toS h1,B.toS h2];exact⟨h3,U _ H _ ⟨os,W.push (Rep.ofS rfl)⟩ q⟩
def xp2:qA A rNe zW0:=by
 rintro os n rho sg H ds vs d1 d2 v1 v2 k Q I ⟨h1,h2,h3,q⟩ U;obtain⟨Y,B⟩:=I.pop;obtain⟨W,J⟩:=Y.pop;rw[J.toS h1,B.toS h2];exact⟨h3,U _ H _ ⟨os,W.push (Rep.ofS rfl)⟩ q⟩
def Wf:D->Bool
 |.non=>true
 |_=>false
def xp6:RD2:=λd1 d2 k=>d2=.non/\k (.bl (Wf d1))
def zV9:RD2:=λd1 d2 k=>d2=.non/\k (.bl (!Wf d1))
def rdB(f:Bool->Bool->Bool):RD2:=λd1 d2 k=>match d1,d2 with |.bl c,.bl d=>k (.bl (f c d)) |_,_=>False
def zR9:RD2:=λd1 d2 k=>∃es i d,(d1=.lst es\/d1=.tup es\/d1=.fz es)/\d2=.int i/\atI es i=some d/\k d
def Jg{K:W.Frag}{G:QqE}{Z:QqA}{H:Hp}{es:List D}{xs:List V}{i:Int}{d:D}(h:Reps K G Z H es xs)(e:atI es i=some d):∃v,atI xs i=some v/\Rep K G Z H d v:=by
 unfold atI at e ⊢;rw[h.length]
 cases q:ixN es.length i with
 |none=>rw[q] at e;cases e
 |some j=>
  rw[q] at e;exact h.get (i:=j) e
def jZ:qA A (rIx A.K) zR9:=by
 rintro os n rho sg H ds vs d1 d2 v1 v2 k Q I ⟨es,i,d,h1,rfl,h2,q⟩ Y;obtain⟨I1,U⟩:=I.pop;obtain⟨I2,W⟩:=I1.pop
 rcases h1 with rfl |rfl |rfl
 ·obtain⟨a,xs,e,sq,B⟩:=W.lst_inv;obtain⟨v,J,rv⟩:=Jg B h2;exact .inl ⟨a,xs,i,v,e,U.int_inv,sq.sq,J,Y v H d ⟨os,I2.push rv⟩ q⟩
 ·obtain⟨a,xs,e,sq,B⟩:=W.tup_inv;obtain⟨v,J,rv⟩:=Jg B h2;exact .inr (.inl ⟨a,xs,i,v,e,U.int_inv,sq.sq,J,Y v H d ⟨os,I2.push rv⟩ q⟩)
 ·obtain⟨a,xs,e,sq,B⟩:=W.fz_inv;obtain⟨v,J,rv⟩:=Jg B h2;exact .inl ⟨a,xs,i,v,e,U.int_inv,sq,J,Y v H d ⟨os,I2.push rv⟩ q⟩
def zW3:RD2:=λd1 d2 k=>∃es fs,d1=.lst es/\d2=.lst fs/\es.length+fs.length<=sizeLine/\k (.lst (es++fs))
def zC0:qA A xC7 zW3:=by
 rintro os n rho sg H ds vs d1 d2 v1 v2 k Q I ⟨es,fs,rfl,rfl,Y,q⟩ hQ;obtain⟨I1,U⟩:=I.pop;obtain⟨I2,W⟩:=I1.pop;obtain⟨a,xs,e,sq,B⟩:=W.lst_inv;obtain⟨b,J,e',sq',rs'⟩:=U.lst_inv
 exact⟨a,b,xs,J,e,e',sq.2,sq'.2,by rw[B.length,rs'.length];exact Y,λp hp=>hQ _ _ _ ⟨os,I2.newLst (B.append rs') hp⟩ q⟩
def zV7:RD2:=λd1 d2 k=>∃es i,d1=.tup es/\d2=.int i/\es≠[]/\1<=i/\es.length*i.toNat<=sizeLine/\k (.tup (replicate i.toNat es).flatten)
def xa0(ha:PD A X a ta):PD A X (.UnaryOp .USub a pos) (λrho n P=>ta rho n λd n'=>∃i,d=.int i/\P (.int (-i)) n'):=by
 exists (xy0 zT0 ha).imp λsg H Q h=>by
   obtain⟨rho,n,P,ds,vs,I,B,U⟩:=h;refine⟨rho,n,_,ds,vs,I,B,λv H' n' d ⟨os,J⟩ k=>?_⟩;obtain⟨i,rfl,k⟩:=k;obtain⟨W,r⟩:=J.pop;exact⟨i,r.int_inv,U _ H' n' _ ⟨os,W.push (Rep.ofS (d:=.int (-i)) rfl)⟩ k⟩
variable {t u:TBD}{rest:List Expr}
def xI4(t u:TBD):TBD:=λrho n P=>t rho n λc B=>if c=true then u rho B P else P false B
def bOr(t u:TBD):TBD:=λrho n P=>t rho n λc B=>if c=true then P true B else u rho B P
def xB0(t:TBD):TBD:=λrho n P=>t rho n λc B=>P (!c) B
def zu7(ha:PTD A X a t):PWD A X (.BoolOp .And [a] pos) t:=by exists zJ0 ha
def zg1(ha:PTD A X a t):PWD A X (.BoolOp .Or [a] pos) t:=by exists zX4 ha
def zI9(ha:PTD A X a t)(W:PWD A X (.BoolOp .And (b::rest) pos) u):PWD A X (.BoolOp .And (a::b::rest) pos) (xI4 t u):=by
 exists (zX5 ha W).imp λsg H Q h=>by
   obtain⟨rho,n,P,ds,vs,I,U,B⟩:=h;refine⟨rho,n,_,ds,vs,I,U,λc H' n' J k=>?_⟩
   cases c with
   |true=>exact⟨rho,n',P,ds,vs,J,k,B⟩
   |false=>exact B _ _ _ J k
def zC5(ha:PTD A X a t)(W:PWD A X (.BoolOp .Or (b::rest) pos) u):PWD A X (.BoolOp .Or (a::b::rest) pos) (bOr t u):=by
 exists (xx7 ha W).imp λsg H Q h=>by
   obtain⟨rho,n,P,ds,vs,I,U,B⟩:=h;refine⟨rho,n,_,ds,vs,I,U,λc H' n' J k=>?_⟩
   cases c with
   |false=>exact⟨rho,n',P,ds,vs,J,k,B⟩
   |true=>exact B _ _ _ J k
def PWD.pt(h:PWD A X e t):PTD A X e t:=by exists PW.pt h
def ZM(ha:PTD A X a t):PTD A X (.UnaryOp .Not a pos) (xB0 t):=by
 exists (zX8 ha).imp λsg H Q h=>by
   obtain⟨rho,n,P,ds,vs,I,B,U⟩:=h;exact⟨rho,n,_,ds,vs,I,B,λc H' n' J k=>U _ _ _ J k⟩
def xI3(ta tb:TD):TD:=λrho n P=>ta rho n λd B=>∃c,d=.bl c/\if c=true then tb rho B P else P (.bl false) B
def dOr(ta tb:TD):TD:=λrho n P=>ta rho n λd B=>∃c,d=.bl c/\if c=true then P (.bl true) B else tb rho B P
def xQ1(ta:TD):TD:=λrho n P=>ta rho n λd B=>∃c,d=.bl c/\P (.bl (!c)) B
def zZ9{op:BoolOp}(h:PD A X a ta):PD A X (.BoolOp op [a] pos) ta:=by exists zZ1 h
def zD2(ha:PD A X a ta)(Y:PD A X (.BoolOp .And (b::rest) pos) tb):PD A X (.BoolOp .And (a::b::rest) pos) (xI3 ta tb):=by
 exists (zZ7 ha Y).imp λsg H Q h=>by
   obtain⟨rho,n,P,ds,vs,I,W,B⟩:=h;refine⟨rho,n,_,ds,vs,I,W,λv H' n' d ⟨os,J⟩ k=>?_⟩;obtain⟨c,rfl,k⟩:=k;obtain⟨U,r⟩:=J.pop;refine⟨c,r.bl_inv,?_⟩
   cases c with
   |true=>exact⟨rho,n',P,ds,vs,⟨os,U⟩,k,B⟩
   |false=>exact B _ _ _ _ ⟨os,U.push (Rep.ofS (d:=.bl false) rfl)⟩ k
def dIf(t:TBD)(ta tb:TD):TD:=λrho n P=>t rho n λc B=>if c=true then ta rho B P else tb rho B P
variable {t1:TAD}
def xB2:TAD:=λ_ n P=>P [] n
def xh7(t:TD)(r:TAD):TAD:=λrho n P=>t rho n λd I=>r rho I λds B=>P (d::ds) B
def zB:PAD A X [] xB2:=by
 exists xa2.imp λsg H Q h=>by
   obtain⟨rho,n,P,ds,vs,I,B,J⟩:=h;exact J [] H n [] I rfl B
def zt6{K:W.Frag}{G:QqE}{Z:QqA}{H:Hp}{es ds:List D}{ws vs:List V}{d:D}{v:V}(h:Reps K G Z H (es++d::ds) (ws++v::vs))(B:ws.length=es.length):Reps K G Z H (d::es++ds) (v::ws++vs):=by
 have h1:=h.take es.length;have h2:=h.drop es.length;rw[take_left' rfl,take_left' B] at h1;rw[yn rfl,yn B] at h2;obtain⟨r,t⟩:=h2.inv;exact .cons r (h1.append t)
def vF:Expr->Bool
 |.Starred ..=>true
 |_=>false
def sE{e:Expr}{es:List Expr}{env:Env}(h:vF e=false):starEach (e::es) env=(false,eval e env)::starEach es env:=by
 cases e<;>first |(simp[starEach];done) |(simp[vF] at h;done)
def zc(ha:PD A X a ta)(hr:PAD A X es t1)(hs:vF a=false:=by rfl):PAD A X (a::es) (xh7 ta t1):=by
 exists (zL7 ha hr (sE hs)).imp λsg H Q h=>by
   obtain⟨rho,n,P,ds,vs,I,ht,hQ⟩:=h;refine⟨rho,n,_,ds,vs,I,ht,λv H' n' d J k=>⟨rho,n',_,d::ds,v::vs,J,k,λws H2 W es' ⟨os,U⟩ B Y=>?_⟩⟩
   exact hQ (v::ws) H2 W (d::es') ⟨os,U.pends (zt6 U.pend B)⟩ (by rw[zA,zA,B]) Y
def Yw{K:W.Frag}{G:QqE}{Z:QqA}{H:Hp}{es ds:List D}{ws vs:List V}(h:Reps K G Z H (es++ds) (ws++vs))(B:ws.length=es.length):Reps K G Z H es ws/\Reps K G Z H ds vs:=by
 have h1:=h.take es.length;have h2:=h.drop es.length;rw[take_left' rfl,take_left' B] at h1;rw[yn rfl,yn B] at h2;exact⟨h1,h2⟩
def xH8(t:TAD):TD:=λrho n P=>t rho n λds B=>ds.length<=sizeLine/\P (.tup ds) B
def xI1(t:TAD):TD:=λrho n P=>t rho n λds B=>ds.length<=sizeLine/\P (.lst ds) B
def jk{U}(h:PAD A X es t1):PD A X (.Tuple es U pos) (xH8 t1):=by
 exists (zZ0 h).imp λsg H Q h=>by
   obtain⟨rho,n,P,ds,vs,I,ht,hQ⟩:=h
   refine⟨rho,n,_,ds,vs,I,ht,λws H' n' es' ⟨os,J⟩ B k=>⟨by rw[B];exact k.1,λp hp=>?_⟩⟩
   obtain⟨Y,W⟩:=Yw J.pend B;exact hQ _ _ n' _ ⟨os,(J.pends W).newTup Y hp⟩ k.2
def jH(h:PAD A X es t1):PD A X (.List es pos) (xI1 t1):=by
 exists (zC8 h).imp λsg H Q h=>by
   obtain⟨rho,n,P,ds,vs,I,Y,hQ⟩:=h
   refine⟨rho,n,_,ds,vs,I,Y,λws H' n' es' ⟨os,J⟩ B k=>⟨by rw[B];exact k.1,λp hp=>?_⟩⟩
   obtain⟨W,U⟩:=Yw J.pend B;exact hQ _ _ n' _ ⟨os,(J.pends U).newLst W hp⟩ k.2
def vI(A:AC)(r:List V->Hp->VK->Prop)(B:List D->(D->Prop)->Prop):Prop:=
 ∀os n rho sg H ds vs es ws (k:D->Prop) (Q:VK),AmO A os n rho sg H ds vs->Reps A.K A.G (Zof A os) H es ws->B es k->(∀v H' d,Am A n rho sg H' (d::ds) (v::vs)->k d->Q v H')->r ws H Q
def zo7(B:List D->(D->Prop)->Prop)(t:TAD):TD:=λrho n P=>t rho n λes I=>B es λd=>P d I
def ze4{r:List V->Hp->VK->Prop}{B:List D->(D->Prop)->Prop}(hr:vI A r B){sg:St}{H:Hp}{Q:VK}(h:tOf A (zo7 B t1) sg H Q):tCB r (xn5 A t1) sg H Q:=by
 obtain⟨rho,n,P,ds,vs,I,ht,hQ⟩:=h;refine⟨rho,n,_,ds,vs,I,ht,λws H' n' es' ⟨os,J⟩ hl k=>?_⟩;obtain⟨W,U⟩:=Yw J.pend hl;exact hr _ _ _ _ _ _ _ _ _ _ Q (J.pends U) W k λv H2 d J2 Y=>hQ v H2 n' d J2 Y
def wj{x:Str}{p:Pos}{id:String}{r:List V->Hp->VK->Prop}{J:List D->(D->Prop)->Prop}(Y:qC X (.builtin id) r)(U:vI A r J)(hm:X.mg x=none)(hv:bootBuiltins x=some (.builtin id))(ha:PAD A X (e::es) t1)(W:Gl X x:=by rfl)(hn:x ≠ "__name__" := by decide)(I:(x == ("__debug__" : Str))=false:=by decide)
  (he:starEach (e::es) X.env=(false,eval e X.env)::starEach es X.env:=by rfl) (B:(backTo pos (starEach es X.env)).any (·.1)=false:=by rfl):PD A X (.Call (.Name x p) (e::es) [] pos) (zo7 J t1):=by
 exists 
   (Vc Y W hm hv ha hn I he B).imp λ_ _ _=>ze4 U
def yD{x:Str}{p:Pos}{T:String}{r:List V->Hp->VK->Prop}{J:List D->(D->Prop)->Prop}(Y:qC X (.type T) r)(U:vI A r J)(hm:X.mg x=none)(hv:bootBuiltins x=some (.type T))(ha:PAD A X (e::es) t1)(W:Gl X x:=by rfl)(hn:x ≠ "__name__" := by decide)(I:(x == ("__debug__" : Str))=false:=by decide)
  (he:starEach (e::es) X.env=(false,eval e X.env)::starEach es X.env:=by rfl) (B:(backTo pos (starEach es X.env)).any (·.1)=false:=by rfl):PD A X (.Call (.Name x p) (e::es) [] pos) (zo7 J t1):=by
 exists 
   (Ud Y W hm hv ha hn I he B).imp λ_ _ _=>ze4 U
def qb{K:W.Frag}{G:QqE}{Z:QqA}{H:Hp}{d:D}{ws:List V}(h:Reps K G Z H [d] ws):∃v,ws=[v]/\Rep K G Z H d v:=by
 obtain⟨v,r,rfl,q,t⟩:=h.split;rw[t.nil_inv];exact⟨v,rfl,q⟩
def Ks{K:W.Frag}{G:QqE}{Z:QqA}{H:Hp}{d d':D}{ws:List V}(h:Reps K G Z H [d,d'] ws):∃v v',ws=[v,v']/\Rep K G Z H d v/\Rep K G Z H d' v':=by
 obtain⟨v,r,rfl,q,t⟩:=h.split;obtain⟨v',rfl,q'⟩:=qb t;exact⟨v,v',rfl,q,q'⟩
def zO9:List D->(D->Prop)->Prop:=λes k=>∃fs,(es=[.lst fs]\/es=[.tup fs]\/es=[.fz fs])/\k (.int fs.length)
def xH6:List D->(D->Prop)->Prop:=λes k=>∃i,es=[.int i]/\k (.int (if i<0 then -i else i))
def xd7:List D->(D->Prop)->Prop:=λes k=>∃c,es=[.bl c]/\k (.int (if c then 1 else 0))
def xO8:List D->(D->Prop)->Prop:=λes k=>∃bs:List Bool,es=[.lst (bs.map D.bl)]/\k (.bl (bs.all id))
def zl4:List D->(D->Prop)->Prop:=λes k=>∃fs,(es=[.lst fs]\/es=[.tup fs])/\k (.tup fs)
def xd6:List D->(D->Prop)->Prop:=λes k=>∃fs,(es=[.lst fs]\/es=[.tup fs])/\k (.lst fs)
def kf:vI A (λxs H Q=>∃p J,xs=[.ref p]/\(SqL A.K H p J\/SqT A.K H p J)/\Q (.int J.length) H) zO9:=by
 rintro os n rho sg H ds vs es ws k Q I U ⟨fs,h,q⟩ W
 rcases h with rfl |rfl |rfl
 ·obtain ⟨v, rfl, r⟩ := qb U;obtain⟨a,xs,rfl,sq,B⟩:=r.lst_inv
  exact⟨a,xs,rfl,.inl sq.sq,by rw[B.length];exact W _ H _ ⟨os,I.push (Rep.ofS rfl)⟩ q⟩
 ·obtain ⟨v, rfl, r⟩ := qb U;obtain⟨a,xs,rfl,sq,B⟩:=r.tup_inv
  exact⟨a,xs,rfl,.inr sq.sq,by rw[B.length];exact W _ H _ ⟨os,I.push (Rep.ofS rfl)⟩ q⟩
 ·obtain ⟨v, rfl, r⟩ := qb U;obtain⟨a,xs,rfl,sq,B⟩:=r.fz_inv
  exact⟨a,xs,rfl,.inl sq,by rw[B.length];exact W _ H _ ⟨os,I.push (Rep.ofS rfl)⟩ q⟩
def zF4:vI A (λxs H Q=>∃i,xs=[.int i]/\Q (.int (if i<0 then -i else i)) H) xH6:=by
 rintro os n rho sg H ds vs es ws k Q I B ⟨i,rfl,q⟩ J;obtain⟨v,rfl,r⟩:=qb B
 exact⟨i,by rw[r.int_inv],J _ H _ ⟨os,I.push (Rep.ofS rfl)⟩ q⟩
def zp2:vI A (λxs H Q=>(∃i,xs=[.int i]/\Q (.int i) H)\/∃k,xs=[.bl k]/\Q (.int (if k then 1 else 0)) H) xd7:=by
 rintro os n rho sg H ds vs es ws k Q I B ⟨i,rfl,q⟩ J;obtain⟨v,rfl,r⟩:=qb B
 exact .inr ⟨i,by rw[r.bl_inv],J _ H _ ⟨os,I.push (Rep.ofS rfl)⟩ q⟩
theorem Wo{K:W.Frag}{G:QqE}{Z:QqA}{H:Hp}:∀{bs:List Bool}{ws:List V},Reps K G Z H (bs.map D.bl) ws->ws=bs.map V.bl
 |[],ws,h=>h.nil_inv
 |b::bs,ws,h=>by
  obtain⟨v,r,rfl,q,t⟩:=h.split;rw[q.bl_inv,Wo t];rfl
def xh1:vI A (λxs H Q=>∃(p:Addr) (bs:List Bool),xs=[.ref p]/\SqL A.K H p (bs.map V.bl)/\Q (.bl (bs.all id)) H) xO8:=by
 rintro os n rho sg H ds vs es ws k Q I B ⟨bs,rfl,q⟩ U;obtain⟨v,rfl,r⟩:=qb B;obtain⟨a,xs,rfl,sq,J⟩:=r.lst_inv;have e:=Wo J;subst e;exact⟨a,bs,rfl,sq.sq,U _ H _ ⟨os,I.push (Rep.ofS rfl)⟩ q⟩
def vK:vI A (λxs H Q=>∃p B,xs=[.ref p]/\((SqL A.K H p B/\∀l,H l=none->Q (.ref l) (upd H l (.tup B)))\/(SqT A.K H p B/\Q (.ref p) H))) zl4:=by
 rintro os n rho sg H ds vs es ws k Q I J ⟨fs,h,q⟩ W
 rcases h with rfl |rfl
 ·obtain⟨v,rfl,r⟩:=qb J;obtain⟨a,xs,rfl,sq,U⟩:=r.lst_inv;exact⟨a,xs,rfl,.inl ⟨sq.sq,λl Y=>W _ _ _ ⟨os,I.newTup U Y⟩ q⟩⟩
 ·obtain⟨v,rfl,r⟩:=qb J;have r':=r;obtain⟨a,xs,rfl,sq,U⟩:=r.tup_inv;exact⟨a,xs,rfl,.inr ⟨sq.sq,W _ _ _ ⟨os,I.push r'⟩ q⟩⟩
def zl8(T:String):D->Bool
 |.bl _=>T == "bool" || T == "int"
 |.int _=>T == "int"
 |.str _=>T == "str"
 |.tup _=>T == "tuple"
 |.lst _=>T == "list"
 |_=>false
def qY:D->Bool
 |.non=>true |.bl _=>true |.int _=>true |.str _=>true |.tup _=>true |.lst _=>true |.dic=>true |_=>false
def zP0:List D->(D->Prop)->Prop:=λes k=>∃d T,es=[d,.ty T]/\(T = "bool" \/ T = "int" \/ T = "str" \/ T = "tuple" \/ T = "list")/\qY d=true/\k (.bl (zl8 T d))
def UI:vI A (λxs H Q=>∃x T,xs=[x,.ty T]/\(T = "bool" \/ T = "int" \/ T = "str" \/ T = "tuple" \/ T = "list")/\xC4 A.K T x H Q) zP0:=by
 rintro os n rho sg H ds vs es ws k Q I J ⟨d,T,rfl,W,B,q⟩ Y;obtain⟨v,v',rfl,r,r'⟩:=Ks J;have e':v'=.ty T:=r'.toS rfl;subst e';refine⟨v,T,rfl,W,?_⟩;have fin:Q (.bl (zl8 T d)) H:=Y _ H _ ⟨os,I.push (Rep.ofS rfl)⟩ q
 cases d with
 |non=>have e:=r.toS rfl;subst e;exact fin
 |bl b=>have e:=r.toS rfl;subst e;exact fin
 |int b=>have e:=r.toS rfl;subst e;exact fin
 |str b=>have e:=r.toS rfl;subst e;exact fin
 |tup fs=>obtain⟨a,xs,rfl,sq,U⟩:=r.tup_inv;exact .inl ⟨xs,sq.sq,fin⟩
 |lst fs=>obtain⟨a,xs,rfl,sq,U⟩:=r.lst_inv;exact .inr (.inl ⟨xs,sq.sq,fin⟩)
 |dic=>unfold Rep at r;obtain⟨a,kvs,rfl,_,e⟩:=r;exact .inr (.inr ⟨kvs,e,fin⟩)
 |ty _=>simp[qY] at B
 |dct _ _=>simp[qY] at B
 |rf _=>simp[qY] at B
 |st=>simp[qY] at B
 |own _=>simp[qY] at B
 |fz _=>simp[qY] at B
end
section
variable {A:AC}{os:List (Nat × Addr)}{n:Nat}{rho:Rho}{sg:St}{H:Hp}{ds es:List D}{vs ws:List V}{d:D}{v:V}
def AmO.split(I:AmO A os n rho sg H (es++ds) (ws++vs))(U:ws.length=es.length):AmO A os n rho sg H ds vs/\Reps A.K A.G (Zof A os) H es ws:=
 let ⟨J,B⟩:=Yw I.pend U
 ⟨I.pends B,J⟩
def AmO.join(I:AmO A os n rho sg H ds vs)(h:Reps A.K A.G (Zof A os) H es ws):AmO A os n rho sg H (es++ds) (ws++vs):=I.pends (h.append I.pend)
def AmO.under(I:AmO A os n rho sg H (d::(es++ds)) (v::(ws++vs)))(B:ws.length=es.length):AmO A os n rho sg H (d::ds) (v::vs):=by
 obtain⟨J,r⟩:=I.pop;exact(J.split B).1.push r
def AmO.front(m:Nat)(I:AmO A os n rho sg H ds vs):AmO A (os.map λp=>(p.1+m,p.2)) n (replicate m none++rho) (replicate m none++sg) H ds vs:=by
 have B:∀a,Zof A (os.map λp=>(p.1+m,p.2)) a->Zof A os a:=λa z=>by
  rcases z with z |⟨p,J,e⟩
  ·exact .inl z
  ·obtain⟨q,W,rfl⟩:=zG.mp J;exact .inr ⟨q,W,e⟩
 refine⟨by simp[I.len],λi c e=>?_,Reps.mono (λa _ z=>B a z) (λ_ _ _ e=>e) _ _ I.pend,?_,λp J=>?_,I.st.mono (λa _ z=>B a z) (λ_ _ _ e=>e) (λ_ _ _ e=>e) (λa _ z=>?_) (λ_ _ _ e=>e),I.gz,I.fr,I.z0⟩
 ·have hi : m <= i := by
   apply ya;intro U
   rw[xn (by simpa using U),xO,if_pos U] at e
   cases e
  rw[xb (by simpa using hi),xB] at e
  obtain⟨u,e1,e2⟩:=I.slot _ c e
  refine⟨u,by rw[xb (by simpa using hi),xB];exact e1,?_⟩
  have key:∀j,j+m=i->SlotR A os H j c u->SlotR A (os.map λp=>(p.1+m,p.2)) H i c u:=λj hj h=>by
   subst hj
   cases c with
   |own fs=>
    obtain⟨a,xs,q1,q2,q3,Y⟩:=h;exact⟨a,xs,q1,zG.mpr ⟨_,q2,rfl⟩,q3,Reps.mono (λa _ z=>B a z) (λ_ _ _ e=>e) _ _ Y⟩
   |non=>exact Rep.mono (λa _ z=>B a z) (λ_ _ _ e=>e) _ _ h
   |bl _=>exact Rep.mono (λa _ z=>B a z) (λ_ _ _ e=>e) _ _ h
   |int _=>exact Rep.mono (λa _ z=>B a z) (λ_ _ _ e=>e) _ _ h
   |str _=>exact Rep.mono (λa _ z=>B a z) (λ_ _ _ e=>e) _ _ h
   |ty _=>exact Rep.mono (λa _ z=>B a z) (λ_ _ _ e=>e) _ _ h
   |tup _=>exact Rep.mono (λa _ z=>B a z) (λ_ _ _ e=>e) _ _ h
   |lst _=>exact Rep.mono (λa _ z=>B a z) (λ_ _ _ e=>e) _ _ h
   |st=>exact Rep.mono (λa _ z=>B a z) (λ_ _ _ e=>e) _ _ h
   |fz _=>exact Rep.mono (λa _ z=>B a z) (λ_ _ _ e=>e) _ _ h
   |dic=>exact Rep.mono (λa _ z=>B a z) (λ_ _ _ e=>e) _ _ h
   |dct _ _=>exact Rep.mono (λa _ z=>B a z) (λ_ _ _ e=>e) _ _ h
   |rf _=>exact Rep.mono (λa _ z=>B a z) (λ_ _ _ e=>e) _ _ h
  exact key (i-m) w5 e2
 ·rw [xy]
  exact I.nd.imp λ{p q} h=>⟨λz=>h.1 (by simpa using z),h.2⟩
 ·obtain⟨q,W,rfl⟩:=zG.mp J;exact I.fresh q W
 ·rcases z with z | ⟨p, J, e, hl⟩
  ·exact .inl z
  ·exact .inr ⟨_,zt J,e,by simp;lia⟩
def AmO.backX{m:Nat}{rho':Rho}{sg':St}(I:AmO A os n rho' sg' H ds vs)(h1:rho'.drop m=rho)(h2:sg'.drop m=sg)(hm:m<=rho'.length):∃os',AmO A os' n rho sg H ds vs:=by
 refine⟨(os.filter λp=>decide (m<=p.1)).map λp=>(p.1-m,p.2),?_⟩
 have B:∀a,Zof A ((os.filter λp=>decide (m<=p.1)).map λp=>(p.1-m,p.2)) a->Zof A os a:=λa z=>by
  rcases z with z |⟨p,U,e⟩
  ·exact .inl z
  ·obtain⟨q,W,rfl⟩:=zG.mp U;exact .inr ⟨q,(zP.mp W).1,e⟩
 subst h1 h2
 refine⟨by simp[I.len],λi c e=>?_,Reps.mono (λa _ z=>B a z) (λ_ _ _ e=>e) _ _ I.pend,?_,λp U=>?_,I.st.mono (λa _ z=>B a z) (λ_ _ _ e=>e) (λ_ _ _ e=>e) (λa _ z=>?_) (λ_ _ _ e=>e),I.gz,I.fr,I.z0⟩
 ·rw [xZ] at e;obtain⟨u,e1,J⟩:=I.slot _ c e
  refine⟨u,by rw[xZ];exact e1,?_⟩
  cases c with
  |own fs=>
   obtain⟨a,xs,q1,q2,q3,Y⟩:=J
   exact⟨a,xs,q1,zG.mpr ⟨_,zP.mpr ⟨q2,by simp⟩,by simp⟩,q3,Reps.mono (λa _ z=>B a z) (λ_ _ _ e=>e) _ _ Y⟩
  |non=>exact Rep.mono (λa _ z=>B a z) (λ_ _ _ e=>e) _ _ J
  |bl _=>exact Rep.mono (λa _ z=>B a z) (λ_ _ _ e=>e) _ _ J
  |int _=>exact Rep.mono (λa _ z=>B a z) (λ_ _ _ e=>e) _ _ J
  |str _=>exact Rep.mono (λa _ z=>B a z) (λ_ _ _ e=>e) _ _ J
  |ty _=>exact Rep.mono (λa _ z=>B a z) (λ_ _ _ e=>e) _ _ J
  |tup _=>exact Rep.mono (λa _ z=>B a z) (λ_ _ _ e=>e) _ _ J
  |lst _=>exact Rep.mono (λa _ z=>B a z) (λ_ _ _ e=>e) _ _ J
  |st=>exact Rep.mono (λa _ z=>B a z) (λ_ _ _ e=>e) _ _ J
  |fz _=>exact Rep.mono (λa _ z=>B a z) (λ_ _ _ e=>e) _ _ J
  |dic=>exact Rep.mono (λa _ z=>B a z) (λ_ _ _ e=>e) _ _ J
  |dct _ _=>exact Rep.mono (λa _ z=>B a z) (λ_ _ _ e=>e) _ _ J
  |rf _=>exact Rep.mono (λa _ z=>B a z) (λ_ _ _ e=>e) _ _ J
 ·rw [xy, List.pairwise_filter];refine I.nd.imp λ{p q} h U W=>⟨λz=>h.1 ?_,h.2⟩
  have a1:m<=p.1:=by simpa using U
  have a2:m<=q.1:=by simpa using W
  have z':p.1-m=q.1-m:=z;lia
 ·obtain⟨q,W,rfl⟩:=zG.mp U;exact I.fresh q (zP.mp W).1
 ·rcases z with z | ⟨p, U, e, hl⟩
  ·exact .inl z
  ·exact .inr ⟨_,zt (zP.mpr ⟨U,by simpa using zF hm hl⟩),e,by simp;lia⟩
def AmO.back{m:Nat}{rho':Rho}{sg':St}(I:AmO A os n rho' sg' H ds vs)(h1:rho'.drop m=rho)(h2:sg'.drop m=sg):∃os',AmO A os' n rho sg H ds vs:=by
 by_cases hm:m<=rho'.length
 ·exact I.backX h1 h2 hm
 ·have U : rho = [] := by rw [<- h1]; exact List.drop_of_length_le w5
  have J:sg=[]:=by rw[<- h2];exact List.drop_of_length_le (by have:=I.len;lia)
  subst U J
  refine⟨os,rfl,λi c e=>by simp at e,I.pend,I.nd,I.fresh,I.st.mono (λ_ _ z=>z) (λ_ _ _ e=>e) (λ_ _ _ e=>e) (λa _ z=>?_) (λ_ _ _ e=>e),I.gz,I.fr,I.z0⟩
  rcases z with z |⟨p,B,e,_⟩
  ·exact .inl z
  ·exact .inr ⟨p,B,e,wQ _⟩
end
abbrev TGD:=D->Rho->(Rho->Prop)->Prop
abbrev zr5:=List D->Rho->(Rho->Prop)->Prop
def gOf(A:AC)(m:Nat)(g:TGD):TG:=λv sg H Q=>∃rho n P d ds vs,Am A n rho sg H (d::ds) (v::vs)/\g d rho P/\∀rho' sg',Am A n rho' sg' H ds vs->sg'.drop m=sg.drop m->P rho'->Q sg' H
def xP1(A:AC)(m:Nat)(g:zr5):TGs:=λus sg H Q=>∃rho n P es ds vs,Am A n rho sg H (es++ds) (us++vs)/\us.length=es.length/\g es rho P/\∀rho' sg',Am A n rho' sg' H ds vs->sg'.drop m=sg.drop m->P rho'->Q sg' H
@[irreducible] def PGD(A:AC)(X:Cx)(m:Nat)(B:Expr)(g:TGD):Prop:=PG X B (gOf A m g)
@[irreducible] def xh8(A:AC)(X:Cx)(m:Nat)(B:List Expr)(g:zr5):Prop:=PGs X B (xP1 A m g)
def PG.imp{X:Cx}{J:Expr}{g g':TG}(h:PG X J g)(hi:∀v sg H Q,g' v sg H Q->g v sg H Q):PG X J g':=λB s sg H v u Q I r q=>h B s sg H v u Q I r (hi _ _ _ _ q)
def PGs.imp{X:Cx}{J:List Expr}{g g':TGs}(h:PGs X J g)(hi:∀v sg H Q,g' v sg H Q->g v sg H Q):PGs X J g':=λB s sg H v u Q I r q=>h B s sg H v u Q I r (hi _ _ _ _ q)
section
variable {A:AC}{X:Cx}{m:Nat}{pos:Pos}
def zE1(i:Nat):TGD:=λd rho P=>i<rho.length/\P (rho.set i (some d))
def xQ{i:Nat}{x:Str}(hN:X.N.Nodup)(hi:X.N[i]?=some x)(hx:Loc X.env.scope x)(hm:i<m)(J:X.fn x=true\/X.env.scope.names.lookup x=some .local:=by first |exact .inl rfl |exact .inr rfl |assumption):PGD A X m (.Name x pos) (zE1 i):=by
 exists 
   (zL0 hN hi hx J).imp λv sg H Q h => by
    obtain⟨rho,n,P,d,ds,vs,⟨os,I⟩,⟨B,k⟩,U⟩:=h;refine U (rho.set i (some d)) (sg.set i (some v)) ⟨_,I.set B⟩ ?_ k;rw[List.drop_set_of_lt hm]
def xf0:zr5:=λes rho P=>es=[]/\P rho
def zE2(g:TGD)(gs:zr5):zr5:=λes rho P=>∃d r,es=d::r/\g d rho λrho'=>gs r rho' P
def kO:xh8 A X m [] xf0:=by
 exists zK9.imp λus sg H Q h=>by
   obtain⟨rho,n,P,es,ds,vs,I,B,⟨rfl,k⟩,J⟩:=h;have e:us=[]:=wy.mp B;subst e;exact⟨rfl,J rho sg I rfl k⟩
def yc{e:Expr}{es:List Expr}{g:TGD}{gs:zr5}(h1:PGD A X m e g)(h2:xh8 A X m es gs)(Y:(assignEach (e::es) X.env).map (·.2)=assign e X.env::(assignEach es X.env).map (·.2):=by rfl):xh8 A X m (e::es) (zE2 g gs):=by
 exists 
   (zv3 h1 h2 Y).imp λus sg H Q h => by
    obtain⟨rho,n,P,es',ds,vs,I,U,⟨d,r,rfl,k⟩,hQ⟩:=h
    cases us with
    |nil=>simp at U
    |cons u us=>
     refine⟨u,us,rfl,⟨rho,n,_,d,r++ds,us++vs,I,k,λrho' sg' I' e1 k'=>⟨rho',n,P,r,ds,vs,I',by simpa using U,k',λB J I2 e2 W=>hQ B J I2 (e2.trans e1) W⟩⟩⟩
def xe9(k:Nat)(gs:zr5):TGD:=λd rho P=>∃es,d=.tup es/\es.length=k/\gs es rho P
def ZP{es:List Expr}{k:Nat}{gs:zr5}{W:Nat}(hK:X.K=A.K)(hc:X.calm=true)(h:xh8 A X m es gs)(hn:(assignEach es X.env).length=k:=by rfl)(B:(assignEach es X.env).findIdx? (·.1)=none:=by rfl):PGD A X m (.Tuple es W pos) (xe9 k gs):=by
 exists 
   (zY7 (n := k) hc h hn B).imp λv sg H Q h => by
    obtain⟨rho,n,P,d,ds,vs,⟨os,I⟩,⟨fs,rfl,Y,q⟩,hQ⟩:=h;obtain⟨J,r⟩:=I.pop;obtain⟨a,xs,rfl,sq,U⟩:=r.tup_inv;have hx:=U.length;rw[hK]
    exact⟨a,xs,rfl,sq.sq,by rw[hx];exact Y,rho,n,P,fs,ds,vs,⟨os,J.join U⟩,hx,q,hQ⟩
end
abbrev TID:=Rho->Nat->(List D->Nat->Prop)->Prop
def JIs(A:AC)(J:It)(es:List D)(ws:List V)(items:List D):Prop:=∀n rho sg H ds vs i,Am A n rho sg H (es++ds) (ws++vs) ->
 (∀d,items[i]?=some d->J.go i H/\∀x H',J.yld i H x H'->Am A n rho sg H' (d::(es++ds)) (x::(ws++vs)))/\(items.length<=i->J.stop i H)
def iOf(A:AC)(it:TID):TI:=λsg H R=>∃rho n P ds vs,Am A n rho sg H ds vs/\it rho n P/\∀J H' n' items es ws,Am A n' rho sg H' (es++ds) (ws++vs)->ws.length=es.length->JIs A J es ws items->P items n'->R J H'
@[irreducible] def PID(A:AC)(X:Cx)(I B:Expr)(it:TID):Prop:=PI X I B (iOf A it)
def PI.imp{X:Cx}{J e:Expr}{t t':TI}(h:PI X J e t)(hi:∀sg H Q,t' sg H Q->t sg H Q):PI X J e t':=λB s sg H Q I q=>h B s sg H Q I (hi _ _ _ q)
section
variable {A:AC}{X:Cx}{tg a b:Expr}{ta tb:TD}{pos p:Pos}{t1:TAD}
def JD(lo:Int)(k:Nat):List D:=(List.range k).map fun(i:Nat)=>D.int (lo+(i:Int))
def zP6(t:TAD):TID:=λrho n P=>t rho n λes B=>∃j:Int,es=[.int j]/\-(2^62)<=j/\j<2^62/\P (JD 0 j.toNat) B
def zP2{lo:Int}{k:Nat}:JIs A (Itr lo k) [] [] (JD lo k):=λn2 J Y H2 aa W i ⟨B,I2⟩=>by
 refine⟨λd e=>?_,λhi=>?_⟩
 ·unfold JD at e;rw[zI] at e
  cases q:(List.range k)[i]? with
  |none=>rw[q] at e;cases e
  |some j=>
   rw[q] at e;cases e;have hj:=zT.mp q;obtain⟨I,U⟩:=hj;rw[List.getElem_range] at U;subst U
   refine⟨(show i<k by simpa using I),λx H3 y=>?_⟩
   obtain⟨e3,e4⟩:=y;subst e3 e4;exact⟨B,I2.push (Rep.ofS (d:=.int (lo+i)) rfl)⟩
 ·unfold JD at hi
  exact(show k<=i by simpa using hi)
def Xd(hm:X.mg "range" = none)(ha:PAD A X [a] t1)(hg:Gl X "range" := by rfl)(W:starEach [a] X.env=[(false,eval a X.env)]:=by rfl):PID A X tg (.Call (.Name "range" p) [a] [] pos) (zP6 t1):=by
 exists 
   (zh6 hg hm ha W).imp λsg H R h => by
    obtain⟨rho,n,P,ds,vs,I,U,hQ⟩:=h;refine⟨rho,n,_,ds,vs,I,U,λws H' n' es' ⟨os,J⟩ Y k=>?_⟩;obtain⟨j,rfl,h1,h2,k⟩:=k;obtain⟨J1,B⟩:=J.split Y;obtain⟨v,rfl,r⟩:=qb B
    exact⟨j,by rw[r.int_inv],h1,h2,hQ _ H' n' _ [] [] ⟨os,J1⟩ rfl zP2 k⟩
def YM:D->Option (Bool × List D)
 |.lst es=>some (true,es)
 |.tup es=>some (false,es)
 |_=>none
theorem Rep.seq{K:W.Frag}{G:QqE}{Z:QqA}{H:Hp}{v:V}{b:Bool}{es:List D}:∀{d:D},YM d=some (b,es)->Rep K G Z H d v->∃a xs,v=.ref a/\SqZ K Z H b a xs/\Reps K G Z H es xs
 |.lst fs,h,r=>by cases h;exact r.lst_inv
 |.tup fs,h,r=>by cases h;exact r.tup_inv
 |.non,h,_=>by cases h
 |.bl _,h,_=>by cases h
 |.int _,h,_=>by cases h
 |.str _,h,_=>by cases h
 |.ty _,h,_=>by cases h
 |.st,h,_=>by cases h
 |.own _,h,_=>by cases h
 |.fz _,h,_=>by cases h
def Jr(xs B:List D):List D:=List.zipWith (λx y=>D.tup [x,y]) xs B
def xe5(t:TAD):TID:=λrho n P=>t rho n λes I=>∃d1 d2 U xs J B,es=[d1,d2]/\YM d1=some (U,xs)/\YM d2=some (J,B)/\P (Jr xs B) I
def zP1{d1 d2:D}{l1 l2:Addr}{b1 b2:Bool}{xs ys:List D}(h1:YM d1=some (b1,xs))(h2:YM d2=some (b2,ys)):JIs A (Itz A.K b1 b2 l1 l2) [d1,d2] [.ref l1,.ref l2] (Jr xs ys):=λn rho sg H ds vs i ⟨os,I⟩=>by
 obtain⟨I1,r1⟩:=AmO.pop (d:=d1) (v:=.ref l1) (ds:=d2::ds) (vs:=.ref l2::vs) I;obtain⟨I2,r2⟩:=I1.pop;obtain⟨a1,us,e1,J,W⟩:=r1.seq h1;obtain⟨a2,ws,e2,B,U⟩:=r2.seq h2;cases e1;cases e2;refine⟨λd e=>?_,λhi=>⟨us,ws,J.sq,B.sq,?_⟩⟩
 ·unfold Jr at e;rw[List.getElem?_zipWith] at e
  cases Y:xs[i]? with
  |none=>rw[Y] at e;cases e
  | some x =>
   cases q2:ys[i]? with
   |none=>rw[Y,q2] at e;cases e
   |some y=>
    rw[Y,q2] at e;cases e;obtain⟨u,eu,ru⟩:=W.get Y;obtain⟨w,ew,rw'⟩:=U.get q2;refine⟨⟨us,ws,u,w,J.sq,B.sq,eu,ew⟩,λv H3 yy=>?_⟩;obtain⟨T,hT,rfl,k⟩:=yy;obtain⟨u',w',eu',ew',rfl⟩:=k us ws J.sq B.sq;rw[eu] at eu';cases eu';rw[ew] at ew';cases ew';exact⟨os,I.newTup (.cons ru (.cons rw' .nil)) hT⟩
 ·rw[W.length,U.length];unfold Jr at hi;rw[List.length_zipWith] at hi;lia
def zK7{es:List Expr}{kk:Nat}{ps:Pos}(hK:X.K=A.K)(hm:X.mg "zip" = none)(ha:PAD A X [a,b] t1)(hg:Gl X "zip" := by rfl)(hs:starEach [a,b] X.env=[(false,eval a X.env),(false,eval b X.env)]:=by rfl)(W:starEach [b] X.env=[(false,eval b X.env)]:=by rfl) :
  PID A X (.Tuple es kk ps) (.Call (.Name "zip" p) [a,b] [] pos) (xe5 t1):=by
 exists (zY6 hg hm ha hs W).imp λsg H R h=>by
   obtain⟨rho,n,P,ds,vs,I,ht,hQ⟩:=h;refine⟨rho,n,_,ds,vs,I,ht,λws H' n' es' ⟨os,J⟩ hl k=>?_⟩;obtain⟨d1,d2,b1,xs,b2,ys,rfl,h1,h2,k⟩:=k;obtain⟨J1,rs⟩:=J.split hl;obtain⟨v1,v2,rfl,r1,r2⟩:=Ks rs;obtain⟨a1,us,rfl,U,aa⟩:=r1.seq h1;obtain⟨a2,ws',rfl,B,Y⟩:=r2.seq h2;rw[hK];exact⟨b1,b2,a1,a2,us,ws',rfl,U.sq,B.sq,hQ _ H' n' _ [d1,d2] [.ref a1,.ref a2] ⟨os,J⟩ rfl (zP1 h1 h2) k⟩
end
section
variable {A:AC}{X:Cx}{tg iter elt:Expr}{ifs:List Expr}{scope:Scope}{own M:List Str}{pos:Pos}{it:TID}{g:TGD}{tt:TBD}{te:TD}
def zb3(it:TID)(own:Nat)(g:TGD)(tt:TBD)(te:TD):TD:=λrho n P=>it rho n λitems W=>items.length<=sizeLine/\∃J:Nat->List D->Nat->Prop,J 0 [] W /\
 (∀i d B n,items[i]?=some d->J i B n->g d (replicate own none++rho) λrho'=>rho'.drop own=rho/\tt rho' n λc I=>if c=true then te rho' I λe U=>J (i+1) (B++[e]) U else J (i+1) B I) /\
 ∀B n,J items.length B n->P (.lst B) n
def xh4:TBD:=λ_ n P=>P true n
def PTs.imp{X:Cx}{e:List Expr}{t t':TT}(h:PTs X e t)(hi:∀sg H Q,t' sg H Q->t sg H Q):PTs X e t':=by exists λB s sg H Q I q=>h B s sg H Q I (hi _ _ _ q)
def vc{X:Cx}:PTs X [] (Kc A xh4):=by
 exists zJ2.imp λsg H Q h=>by
   obtain⟨rho,n,P,ds,vs,I,B,J⟩:=h;exact J true H n I B
def ze2{sg:St}{H:Hp}{Q:VK}{m:Nat}{rho:Rho}{n:Nat}{P:D->Nat->Prop}{ds:List D}{vs:List V}(I:Am A n rho sg H ds vs)(ht:zb3 it m g tt te rho n P)
  (hQ:∀os n' H' fs xs p,AmO A os n' rho sg H' ds vs->Reps A.K A.G (Zof A os) H' fs xs->H' p=none->P (.lst fs) n'->Q (.ref p) (upd H' p (.lst xs))):zs3 (iOf A it) m (gOf A m g) (Kc A tt) (tOf A te) sg H Q:=by
 refine⟨rho,n,_,ds,vs,I,ht,λJ H' n' items es ws I1 hl hJ k=>?_⟩;obtain⟨hsz,W,w0,turn,fin⟩:=k
 refine⟨λi mm U H=>mm=items.length-i/\i<=items.length/\U.length<=i/\∃B n,U.length=B.length/\Am A n rho sg H (es++(B++ds)) (ws++(U++vs))/\W i B n,
  ⟨items.length,rfl,wQ _,zk _,[],n',rfl,I1,w0⟩,?_⟩
 rintro i mm U H3 ⟨rfl,hi,af,B,n3,aa,⟨os,I3⟩,w3⟩;obtain⟨j1,j2⟩:=hJ n3 rho sg H3 (B++ds) (U++vs) i ⟨os,I3⟩
 by_cases Y:i<items.length
 ·refine .inr ⟨(j1 items[i] (by simp [Y])).1, by lia, λx H4 y => ?_⟩
  obtain⟨ak,I4⟩:=(j1 items[i] (by simp[Y])).2 x H4 y
  refine⟨replicate m none++rho,n3,_,items[i],es++(B++ds),ws++(U++vs),⟨_,I4.front m⟩,turn i items[i] B n3 (by simp[Y]) w3,λrho' sg' ⟨ae,I5⟩ e5 k5=>?_⟩
  obtain⟨k5,k6⟩:=k5
  have e6:sg'.drop m=sg:=by rw[e5,yn (by simp)]
  refine⟨e6,rho',n3,_,es++(B++ds),ws++(U++vs),⟨ae,I5⟩,k6,λc H6 n6 ⟨ad,I6⟩ k7=>?_⟩
  cases c with
  |false=>
   obtain⟨ac,I7⟩:=I6.back k5 e6
   exact⟨items.length-(i+1),w5,rfl,Y,w5,B,n6,aa,⟨ac,I7⟩,k7⟩
  |true=>
   rw[if_pos rfl] at k7 ⊢;refine⟨rho',n6,_,es++(B++ds),ws++(U++vs),⟨ad,I6⟩,k7,λv H8 n8 d ⟨aj,I8⟩ k8=>?_⟩;obtain⟨ab,I9⟩:=I8.back k5 e6;obtain⟨ai,rv⟩:=I9.pop;obtain⟨ah,r1⟩:=ai.split hl;obtain⟨ag,r2⟩:=ah.split aa
   refine⟨items.length-(i+1),w5,rfl,Y,by rw[zD,List.length_singleton];lia,B++[d],n8,by simp[aa],⟨ab,(ag.join (r2.append (.cons rv .nil))).join r1⟩,k8⟩
 ·have e : i = items.length := by lia
  subst e;refine .inl ⟨j2 (zk _),zF af hsz,λD hD=>?_⟩;obtain⟨I4,r1⟩:=I3.split hl;obtain⟨I5,r2⟩:=I4.split aa;exact hQ os n3 _ B U D I5 r2 hD (fin B n3 w3)
def Jx{sg:St}{H:Hp}{Q:VK}{m:Nat}(h:tOf A (zb3 it m g tt te) sg H Q):zs3 (iOf A it) m (gOf A m g) (Kc A tt) (tOf A te) sg H Q:=by
 obtain⟨rho,n,P,ds,vs,I,B,W⟩:=h;exact ze2 I B λos n' H' fs xs p J r U k=>W _ _ n' _ ⟨os,J.newLst r U⟩ k
def vT(ok:CompOk X scope M)(hc:X.calm=true)(hi:PID A X tg iter it)(Y:∀C B J I,PGD A (wn X scope own M C B J I) own.length tg g)(U:∀C B J I,PTs (wn X scope own M C B J I) ifs (Kc A tt))
  (he:∀C B J I,PD A (wn X scope own M C B J I) elt te) (W:∀x,foldedSetIterable iter X.env x=pure x:=by intro _;rfl):PD A X (.ListComp elt [⟨tg,iter,ifs,0⟩] scope pos) (zb3 it own.length g tt te):=by
 exists 
   (zL3 ok hc hi Y U he W).imp λ_ _ _=>Jx
end
structure EndsD where
 nx:Rho->Nat->Prop
 rt:D->Nat->Prop
 bk:Rho->Nat->Prop:=λ_ _=>False
 ct:Rho->Nat->Prop:=λ_ _=>False
abbrev TSD:=EndsD->Rho->Nat->Prop
structure EOk(A:AC)(E:Ends)(F:EndsD)(ds:List D)(vs:List V):Prop where
 nx:∀rho n sg H,Am A n rho sg H ds vs->F.nx rho n->E.nx sg H
 rt:∀d n v rho sg H,Am A n rho sg H (d::ds) (v::vs)->F.rt d n->E.rt v H
 bk:∀rho n sg H,Am A n rho sg H ds vs->F.bk rho n->E.bk sg H
 ct:∀rho n sg H,Am A n rho sg H ds vs->F.ct rho n->E.ct sg H
def sOf(A:AC)(t:TSD):TS:=λE sg H=>∃rho n F ds vs,Am A n rho sg H ds vs/\t F rho n/\EOk A E F ds vs
@[irreducible] def PSD(A:AC)(X:Cx)(s:Stmt)(t:TSD):Prop:=PS X s (sOf A t)
@[irreducible] def zc6(A:AC)(X:Cx)(s:List Stmt)(t:TSD):Prop:=PSs X s (sOf A t)
section
variable {A:AC}{X:Cx}{st:Stmt}{rest:List Stmt}{t u:TSD}{e a b:Expr}{te:TD}{tc:TBD}{pos:Pos}
def zU7:TSD:=λF rho n=>F.nx rho n
def zR8(t u:TSD):TSD:=λF rho n=>t { F with nx:=u F } rho n
def vn:zc6 A X [] zU7:=by
 exists zJ5.imp λE sg H h=>by
   obtain⟨rho,n,F,ds,vs,I,B,ok⟩:=h;exact ok.nx _ _ _ _ I B
def zO(h1:PSD A X st t)(h2:zc6 A X rest u):zc6 A X (st::rest) (zR8 t u):=by
 exists (JK h1 h2).imp λE sg H h=>by
   obtain⟨rho,n,F,ds,vs,I,B,ok⟩:=h;exact⟨rho,n,{ F with nx:=u F },ds,vs,I,B,⟨λrho' n' sg' H' I' k=>⟨rho',n',F,ds,vs,I',k,ok⟩,ok.rt,ok.bk,ok.ct⟩⟩
def xi(h1:PSD A X st t):zc6 A X [st] t:=by exists zJ4 h1
def xB8(te:TD):TSD:=λF rho n=>te rho n F.rt
def wC(he:PD A X e te):PSD A X (.Return (some e) pos) (xB8 te):=by
 exists (zX9 he).imp λE sg H h=>by
   obtain⟨rho,n,F,ds,vs,I,B,ok⟩:=h;exact⟨rho,n,_,ds,vs,I,B,λv H' n' d I' k=>ok.rt _ _ _ _ _ _ I' k⟩
def sIf(c:TBD)(t u:TSD):TSD:=λF rho n=>c rho n λb B=>if b=true then t F rho B else u F rho B
def ke{c:Expr}{sa sb:List Stmt}(U:PTD A X c tc)(ha:zc6 A X sa t)(W:zc6 A X sb u):PSD A X (.If c sa sb pos) (sIf tc t u):=by
 exists (xx9 U ha W).imp λE sg H h=>by
   obtain⟨rho,n,F,ds,vs,I,B,ok⟩:=h;refine⟨rho,n,_,ds,vs,I,B,λc H' n' J k=>?_⟩
   cases c with
   |true=>exact⟨rho,n',F,ds,vs,J,k,ok⟩
   |false=>exact⟨rho,n',F,ds,vs,J,k,ok⟩
def xi6(i:Nat)(te:TD):TSD:=λF rho n=>i<rho.length/\te rho n λd B=>F.nx (rho.set i (some d)) B
def yZ{i:Nat}{x:Str}{pos':Pos}(hN:X.N.Nodup)(hi:X.N[i]?=some x)(hx:Loc X.env.scope x)(he:PD A X e te)(U:swapsWith e (some (.Name x pos')) pos.line X.env=pure false:=by rfl)(Y:X.fn x=true\/X.env.scope.names.lookup x=some .local:=by first |exact .inl rfl |exact .inr rfl |assumption) :
  PSD A X (.Assign [.Name x pos'] e pos) (xi6 i te):=by
 exists (zg5 hN hi hx he U Y).imp λE sg H h=>by
   obtain⟨rho,n,F,ds,vs,I,⟨W,B⟩,ok⟩:=h;exact⟨rho,n,_,ds,vs,I,B,λv H' n' d ⟨os,J⟩ k=>ok.nx _ _ _ _ ⟨_,J.set W⟩ k⟩
def qI{i:Nat}{x:Str}{pos' U:Pos}{tg B elt:Expr}{ifs:List Expr}{scope:Scope}{own M:List Str}{it:TID}{g:TGD}{tt:TBD}(hN:X.N.Nodup)(ab:X.N[i]?=some x)(hx:Loc X.env.scope x)(ok:CompOk X scope M)(hc:X.calm=true)(hi:PID A X tg B it)
  (hg:∀C W H2 Y,PGD A (wn X scope own M C W H2 Y) own.length tg g) (ht:∀C W H2 Y,PTs (wn X scope own M C W H2 Y) ifs (Kc A tt)) (he:∀C W H2 Y,PD A (wn X scope own M C W H2 Y) elt te)
  (aa:swapsWith (.ListComp elt [⟨tg,B,ifs,0⟩] scope pos) (some (.Name x pos')) U.line X.env=pure true:=by rfl) (hf:X.fn x=true\/X.env.scope.names.lookup x=some .local:=by first |exact .inl rfl |exact .inr rfl |assumption)
  (hs:∀x,foldedSetIterable B X.env x=pure x:=by intro _;rfl):PSD A X (.Assign [.Name x pos'] (.ListComp elt [⟨tg,B,ifs,0⟩] scope pos) U) (xi6 i (zb3 it own.length g tt te)):=by
 exists 
   (QO hN ab hx ok hc hi hg ht he aa hf hs).imp λE sg H h => by
    obtain⟨rho,n,F,ds,vs,I,⟨hl,ht⟩,ok⟩:=h;exact Jx (A:=A) ⟨rho,n,_,ds,vs,I,ht,λv H' n' d ⟨os,J⟩ k=>ok.nx _ _ _ _ ⟨_,J.set hl⟩ k⟩
def xB7(te:TD)(g:TGD):TSD:=λF rho n=>te rho n λd B=>g d rho λrho'=>F.nx rho' B
def YY{B:Expr}{g:TGD}{m:Nat}(he:PD A X e te)(hg:PGD A X m B g)(Y:swapsWithSole [B] e pos.line X.env=pure false:=by rfl)(U:swappedStores [B] e X.env=pure none:=by rfl)
  (h1:(assignEach [B] X.env).map (·.2)=[assign B X.env]:=by rfl):PSD A X (.Assign [B] e pos) (xB7 te g):=by
 exists (zC7 he hg Y U h1).imp λE sg H h=>by
   obtain⟨rho,n,F,ds,vs,I,W,ok⟩:=h;exact⟨rho,n,_,ds,vs,I,W,λv H' n' d J k=>⟨rho,n',_,d,ds,vs,J,k,λrho' sg' J' _ k'=>ok.nx _ _ _ _ J' k'⟩⟩
def xo8(i j:Nat)(t:TAD):TSD:=λF rho n=>i<rho.length/\j<rho.length/\t rho n λes B=>∃d d',es=[d,d']/\F.nx ((rho.set i (some d)).set j (some d')) B
def zJ6{i j:Nat}{x y:Str}{ta:TAD}{Y W pt:Pos}{kt k2 B}(hc:X.calm=true)(hN:X.N.Nodup)(hi:X.N[i]?=some x)(hj:X.N[j]?=some y)(ab:i≠j)
  (hx:X.env.scope.names.lookup x=some .local) (hy:X.env.scope.names.lookup y=some .local) (ha:PAD A X [a,b] ta)
  (hw:swappedStores [.Tuple [.Name x Y,.Name y W] kt pt] (.Tuple [a,b] k2 B) X.env=pure (some [x,y]):=by rfl)
  (hs:swapsWithSole [.Tuple [.Name x Y,.Name y W] kt pt] (.Tuple [a,b] k2 B) pos.line X.env=pure false:=by rfl) :
  PSD A X (.Assign [.Tuple [.Name x Y,.Name y W] kt pt] (.Tuple [a,b] k2 B) pos) (xo8 i j ta):=by
 exists (zY0 hc hN hi hj ab hx hy ha hw hs).imp λE sg H h=>by
   obtain⟨rho,n,F,ds,vs,I,⟨hl,aa,ht⟩,ok⟩:=h;refine⟨rho,n,_,ds,vs,I,ht,λws H' n' es ⟨os,J⟩ U k=>?_⟩;obtain⟨d,d',rfl,k⟩:=k;obtain⟨J1,rs⟩:=J.split U;obtain⟨v,v',rfl,r,r'⟩:=Ks rs;refine⟨v,v',rfl,ok.nx _ _ _ _ ?_ k⟩;have J2:AmO A os n' rho sg H' (d::d'::ds) (v::v'::vs):=(J1.push r').push r
   exact⟨_,(J2.set hl).set (by simpa using aa)⟩
def xi7(it:TID)(g:TGD)(B:TSD):TSD:=λF rho n=>it rho n λitems I=>∃J:Nat->Rho->Nat->Prop,J 0 rho I /\
 (∀i d rho n,items[i]?=some d->J i rho n->g d rho λrho'=>B { F with nx:=J (i+1),ct:=J (i+1),bk:=F.nx } rho' n)/\∀rho n,J items.length rho n->F.nx rho n
def ZN{tg Y:Expr}{body:List Stmt}{it:TID}{g:TGD}{tb:TSD}{m:Nat}(hp:PassesOwn (model X.prog X.w) X.A X.env X.xe)(hc:X.calm=true)(hi:PID A X tg Y it)(hg:PGD A X m tg g)(hb:zc6 A X body tb)
  (hs:∀x,foldedSetIterable Y X.env x=pure x:=by intro _;rfl):PSD A X (.For tg Y body [] pos) (xi7 it g tb):=by
 exists (zY1 hp hc hi hg hb hs).imp λE sg H h=>by
   obtain⟨rho,n,F,ds,vs,I,ht,ok⟩:=h;refine⟨rho,n,_,ds,vs,I,ht,λJ H' n' items es ws I1 hl hJ k=>?_⟩;obtain⟨W,w0,turn,fin⟩:=k;refine⟨λi mm sg H=>mm=items.length-i/\i<=items.length/\∃rho n,Am A n rho sg H (es++ds) (ws++vs)/\W i rho n,⟨items.length,rfl,wQ _,rho,n',I1,w0⟩,?_⟩;rintro i mm ad H3 ⟨rfl,hi,U,n3,I3,w3⟩;obtain⟨j1,j2⟩:=hJ n3 U ad H3 ds vs i I3
   by_cases aa:i<items.length
   ·refine .inr ⟨(j1 items[i] (by simp [aa])).1, λsg' H' => ∃ rho n, Am A n rho sg' H' (es ++ ds) (ws ++ vs) /\ W (i + 1) rho n, λsg' H' ⟨rho', n', I', w'⟩ => ⟨items.length - (i + 1), by lia, rfl, aa, rho', n', I', w'⟩, λx H4 y => ?_⟩
    have I4:=(j1 items[i] (by simp[aa])).2 x H4 y
    refine⟨U,n3,_,items[i],es++ds,ws++vs,I4,turn i items[i] U n3 (by simp[aa]) w3,λrho' sg' I5 _ k5=>⟨rho',n3,{ F with nx:=W (i+1),ct:=W (i+1),bk:=F.nx },es++ds,ws++vs,I5,k5,?_⟩⟩
    refine⟨λB n6 ab H6 I6 k6=>⟨B,n6,I6,k6⟩,λd n6 v B ab H6 ⟨ac,I6⟩ k6=>ok.rt _ _ _ _ _ _ ⟨ac,I6.under hl⟩ k6,λB n6 ab H6 ⟨ac,I6⟩ k6=>ok.nx _ _ _ _ ⟨ac,(I6.split hl).1⟩ k6,λB n6 ab H6 I6 k6=>⟨B,n6,I6,k6⟩⟩
   ·have e : i = items.length := by lia
    subst e;obtain⟨os,I3⟩:=I3;exact .inl ⟨j2 (zk _),ok.nx _ _ _ _ ⟨os,(I3.split hl).1⟩ (fin U n3 w3)⟩
def zV2(te:TD):TSD:=λF rho n=>te rho n λ_ B=>F.nx rho B
def vJ(he:PD A X e te)(U:swapsWith e none pos.line X.env=pure false:=by rfl):PSD A X (.Expr e pos) (zV2 te):=by
 exists (zg7 he U).imp λE sg H h=>by
   obtain⟨rho,n,F,ds,vs,I,B,ok⟩:=h;exact⟨rho,n,_,ds,vs,I,B,λv H' n' d ⟨os,J⟩ k=>ok.nx _ _ _ _ ⟨os,J.pop.1⟩ k⟩
def Cof.cons{A:AC}{os:List (Nat × Addr)}{m:Nat}{q:Nat × Addr}{a:Addr}(z:Cof A os m a):Cof A (q::os) m a:=by
 rcases z with z |⟨p,B,e⟩
 ·exact .inl z
 ·exact .inr ⟨p,zf _ B,e⟩
def AmO.setOwn{os:List (Nat × Addr)}{n:Nat}{rho:Rho}{sg:St}{H:Hp}{ds es:List D}{vs xs:List V}{i:Nat}{p:Addr}(I:AmO A os n rho sg H ds vs)(hi:i<rho.length)(U:H p=none)(r:Reps A.K A.G (Zof A os) H es xs) :
  ∃os',AmO A os' n (rho.set i (some (.own es))) (sg.set i (some (.ref p))) (upd H p (.lst xs)) ds vs:=by
 have J:∀a u,H a=some u->upd H p (.lst xs) a=some u:=λa u e=>by rw[wB (vz e U)];exact e
 refine⟨(i,p)::os.filter λq=>decide (q.1≠i),?_⟩
 have W:∀a,H a≠none->Zof A ((i,p)::os.filter λq=>decide (q.1≠i)) a->Zof A os a:=λa ha z=>by
  rcases z with z |⟨q,B,e⟩
  ·exact .inl z
  ·rcases zg.mp B with rfl | B
   ·exact absurd (by rw[<- e];exact U) ha
   ·exact .inr ⟨q,(zP.mp B).1,e⟩
 have h0:A.H0 p=none:=by
  cases q:A.H0 p with
  |none=>rfl
  |some o=>
   by_cases e:A.G=some p
   ·obtain⟨x,y,z,w,_⟩:=I.st.1 p e;rw[w] at U;cases U
   ·have:=I.fr p o e q;rw[this] at U;cases U
 refine⟨by simp[I.len],λj c e=>?_,Reps.mono W (λa u _ e=>J a u e) _ _ I.pend,?_,λq B=>?_,I.st.mono W (λa u _ e=>J a u e) (λa u _ e=>J a u e) (λa _ z=>Cof.cons (Cof.filter hi z)) (λa u _ e=>J a u e),I.gz,λa u h e=>J a u (I.fr a u h e),I.z0⟩
 ·by_cases hj : j = i
  ·subst hj;rw[xq hi] at e;cases e
   exact⟨.ref p,xq (by rw[<- I.len];exact hi),p,xs,rfl,zq,yA,Reps.mono W (λa u _ e=>J a u e) _ _ r⟩
  ·rw [xJ (Ne.symm hj)] at e;obtain⟨u,e1,e2⟩:=I.slot j c e
   exact⟨u,by rw[xJ (Ne.symm hj)];exact e1,SlotR.mono W (λa u _ e=>J a u e) (λa ys m q=>⟨zf _ (zP.mpr ⟨m,by simpa using hj⟩),J a _ q⟩) _ _ e2⟩
 ·refine wk.mpr ⟨λq B => ?_, I.nd.filter _⟩;obtain⟨m1,Y⟩:=zP.mp B
  refine⟨λz=>by simp[<- z] at Y,λz=>(I.fresh q m1).2.2 ?_⟩
  have z':p=q.2:=z;rw[<- z'];exact U
 ·rcases zg.mp B with rfl | B
  ·exact⟨h0,λz=>I.zH p (.inl z) U,by show upd H p _ p≠none;rw[yA];simp⟩
  ·obtain ⟨f1, f2, f3⟩ := I.fresh q (zP.mp B).1;refine⟨f1,f2,?_⟩
   cases w:H q.2 with
   |none=>exact absurd w f3
   |some u=>rw[J _ _ w];simp
def xB9(i:Nat)(t:TAD):TSD:=λF rho n=>i<rho.length/\t rho n λes B=>es.length<=sizeLine/\F.nx (rho.set i (some (.own es))) B
def zJ7{i:Nat}{x:Str}{pos' B:Pos}{W:List Expr}{Y:TAD}(hN:X.N.Nodup)(hi:X.N[i]?=some x)(hx:Loc X.env.scope x)(ha:PAD A X W Y)(hf:X.fn x=true\/X.env.scope.names.lookup x=some .local:=by first |exact .inl rfl |exact .inr rfl |assumption)
  (hs:swapsWith (.List W B) (some (.Name x pos')) pos.line X.env=pure false:=by rfl):PSD A X (.Assign [.Name x pos'] (.List W B) pos) (xB9 i Y):=by
 exists (zg5 hN hi hx (zC8 ha) hs hf).imp λE sg H h=>by
   obtain⟨rho,n,F,ds,vs,I,⟨hl,ht⟩,ok⟩:=h
   refine⟨rho,n,_,ds,vs,I,ht,λws H' n' es ⟨os,J⟩ U k=>⟨by rw[U];exact k.1,λp hp=>?_⟩⟩
   obtain⟨J1,rs⟩:=J.split U;exact ok.nx _ _ _ _ (J1.setOwn hl hp rs) k.2
def AmO.own{os:List (Nat × Addr)}{n:Nat}{rho:Rho}{sg:St}{H:Hp}{ds es es':List D}{vs xs':List V}{i:Nat}(I:AmO A os n rho sg H ds vs)(hi:rho[i]?=some (some (.own es))) :
  ∃a xs,sg[i]?=some (some (.ref a))/\H a=some (.lst xs)/\Reps A.K A.G (Zof A os) H es xs/\∀es' xs',Reps A.K A.G (Zof A os) H es' xs'->AmO A os n (rho.set i (some (.own es'))) sg (upd H a (.lst xs')) ds vs:=by
 obtain⟨v,B,a,xs,rfl,hm,hH,rs⟩:=I.slot i _ hi;have U:i<rho.length:=(zT.mp hi).1;have za:Zof A os a:=.inr ⟨_,hm,rfl⟩
 have W:∀(xs':List V) b u,¬ Zof A os b->H b=some u->upd H a (.lst xs') b=some u:=λxs' b u nz e=>by
  rw[wB λz=>nz (by rw[z];exact za)];exact e
 have uniq:∀j,(j,a)∈os->j=i:=λj hj=>by
  by_cases J:j=i
  ·exact J
  ·have key : ∀ (l : List (Nat × Addr)), l.Pairwise (λp q => p.1 ≠ q.1 /\ p.2 ≠ q.2) -> (j, a) ∈ l -> (i, a) ∈ l -> False := by
    intro l
    induction l with
    |nil=>intro _ h;simp at h
    |cons c l ih=>
     intro hp h1 h2;obtain⟨p1,p2⟩:=wk.mp hp
     rcases zg.mp h1 with B |h1<;>rcases zg.mp h2 with Y |h2
     ·rw[<- Y] at B;exact J (Prod.mk.inj B).1
     ·exact(p1 _ h2).2 (by rw[<- B])
     ·exact(p1 _ h1).2 (by rw[<- Y])
     ·exact ih p2 h1 h2
   exact(key os I.nd hj hm).elim
 obtain⟨ab,aa,ac⟩:=I.fresh _ hm
 refine⟨a,xs,B,hH,rs,λes' xs' r=>⟨by simp[I.len],λj c e=>?_,Reps.mono (λ_ _ z=>z) (W xs') _ _ I.pend,I.nd,λq hq=>?_,I.st.monoC (λ_ _ z=>z) (W xs') (λc u g e=>by rw[wB λw=>aa (by rw[<- w];exact I.gz c g)];exact e) (λ_ _ z=>by rw[length_set];exact z) (λc u q e=>by rw[wB λw=>q (by rw[w];exact I.noOwn U hm)];exact e),I.gz,λb u h e=>?_,I.z0⟩⟩
 ·by_cases hj : j = i
  ·subst hj;rw[xq U] at e;cases e;exact⟨.ref a,B,a,xs',rfl,hm,yA,Reps.mono (λ_ _ z=>z) (W xs') _ _ r⟩
  ·rw [xJ (Ne.symm hj)] at e;obtain⟨u,Y,e3⟩:=I.slot j c e
   exact⟨u,Y,SlotR.mono (λ_ _ z=>z) (W xs') (λb ys m q=>⟨m,by rw[wB λz=>hj (uniq j (by rw[<- z];exact m))];exact q⟩) _ _ e3⟩
 ·obtain ⟨f1, f2, f3⟩ := I.fresh q hq;refine⟨f1,f2,?_⟩
  by_cases e:q.2=a
  ·rw[e,yA];simp
  ·rw[wB e];exact f3
 ·rw [wB λw => by rw [w, ab] at e; cases e]
  exact I.fr b u h e
def AmO.freeze{os:List (Nat × Addr)}{n:Nat}{rho:Rho}{sg:St}{H:Hp}{ds es:List D}{vs:List V}{i:Nat}(I:AmO A os n rho sg H ds vs)(hi:rho[i]?=some (some (.own es))):∃os',AmO A os' n (rho.set i (some (.lst es))) sg H ds vs:=by
 obtain⟨v,Y,a,xs,rfl,hm,hH,rs⟩:=I.slot i _ hi;have U:i<rho.length:=(zT.mp hi).1;refine⟨os.filter λq=>decide (q.1≠i),?_⟩
 have sub:∀b,H b≠none->Zof A (os.filter λp=>decide (p.1≠i)) b->Zof A os b:=λb _ z=>by
  rcases z with z |⟨p,J,e⟩
  ·exact .inl z
  ·exact .inr ⟨p,(zP.mp J).1,e⟩
 have key:∀(l:List (Nat × Addr)),l.Pairwise (λp q=>p.1≠q.1/\p.2≠q.2)->(i,a)∈l->∀q∈l,q.2=a->q.1=i:=by
  intro l
  induction l with
  |nil=>intro _ h;simp at h
  |cons c l ih=>
   intro J h1 q hq B;obtain⟨p1,p2⟩:=wk.mp J
   rcases zg.mp h1 with Y |h1<;>rcases zg.mp hq with W |h2
   ·rw[W,<- Y]
   ·exact absurd (by rw[<- Y,B]) (p1 _ h2).2
   ·exact absurd (by rw[<- W,B]) (p1 _ h1).2
   ·exact ih p2 h1 q h2 B
 refine⟨by simp[I.len],λj c e=>?_,Reps.mono sub (λ_ _ _ e=>e) _ _ I.pend,I.nd.filter _,λp J=>I.fresh p (zP.mp J).1,I.st.mono sub (λ_ _ _ e=>e) (λ_ _ _ e=>e) (λa _ z=>Cof.filter U z) (λ_ _ _ e=>e),I.gz,I.fr,I.z0⟩
 by_cases hj:j=i
 ·subst hj;rw[xq U] at e;cases e;refine⟨.ref a,Y,Rep.lst_mk ⟨λz=>?_,hH⟩ (Reps.mono sub (λ_ _ _ e=>e) _ _ rs)⟩
  rcases z with z |⟨p,J,e⟩
  ·exact(I.fresh _ hm).2.1 z
  ·obtain⟨m1,m2⟩:=zP.mp J;have:=key os I.nd hm p m1 e;simp[this] at m2
 ·rw [xJ (Ne.symm hj)] at e;obtain⟨u,W,e3⟩:=I.slot j c e
  exact⟨u,W,SlotR.mono sub (λ_ _ _ e=>e) (λb ys m q=>⟨zP.mpr ⟨m,by simpa using hj⟩,q⟩) _ _ e3⟩
def xC0(i:Nat)(t:TSD):TSD:=λF rho n=>∃es,rho[i]?=some (some (.own es))/\t F (rho.set i (some (.lst es))) n
def zJ8(i:Nat)(h:PSD A X st t):PSD A X st (xC0 i t):=by
 exists PS.imp h λE sg H q=>by
   obtain⟨rho,n,F,ds,vs,⟨os,I⟩,⟨es,hi,B⟩,ok⟩:=q;exact⟨_,n,F,ds,vs,I.freeze hi,B,ok⟩
end
section
variable {A:AC}{X:Cx}{e a b:Expr}{es:List Expr}{te ta tb:TD}{t1:TAD}{pos:Pos}
def zf3(i:Nat)(t:TAD):TSD:=λF rho n=>∃es,rho[i]?=some (some (.own es))/\es.length<sizeLine/\t rho n λds B=>∃d,ds=[d]/\F.nx (rho.set i (some (.own (es++[d])))) B
def QN{i:Nat}{x:Str}{px U B:Pos}(ha:PAD A X [e] t1)(hK:X.K=A.K)(hN:X.N[i]?=some x:=by rfl)(hv:Vis X.env.scope x:=by first |exact Or.inl rfl |exact Or.inr (Or.inl rfl) |exact Or.inr (Or.inr rfl))(hd:(x == ("__debug__" : Str))=false:=by decide)
  (ae:(x == ("__classdict__" : Str))=false:=by decide) (aa:attributeBase (.Name x px) "append" X.env (eval (.Name x px) X.env)=eval (.Name x px) X.env:=by rfl)
  (ab : ((backTo B (starEach [e] X.env)).all (λx => !x.1) && (backToKw B (keywordEach [] X.env)).all (λx => x.1.isSome)
   && decide ([e].length+([]:List Keyword).length+(if ([]:List Keyword).isEmpty then 0 else 1)<30))=true:=by rfl)
  (Y:(U.endLine == B.line)=true:=by rfl) (hs:starEach [e] X.env=(false,eval e X.env)::starEach [] X.env:=by rfl) (W:(backTo B (starEach [] X.env)).any (·.1)=false:=by rfl)
  (ad:swapsWith (.Call (.Attribute (.Name x px) "append" U) [e] [] B) none pos.line X.env=pure false:=by rfl) :
  PSD A X (.Expr (.Call (.Attribute (.Name x px) "append" U) [e] [] B) pos) (zf3 i t1):=by
 exists 
   (zg7 (xy2 PySem.F.plainAttrs_list PySem.F.slot_list_append PySem.F.type_list_append zj2 (JN hN hv hd ae) ha aa ab Y hs W) ad).imp λE sg H h => by
    obtain⟨rho,n,F,ds,vs,⟨os,I⟩,⟨es,hi,hz,ht⟩,ok⟩:=h;obtain⟨a,xs,e1,hH,rs,_⟩:=I.own (es':=es) (xs':=[]) hi;refine⟨.ref a,e1,.inl ⟨rfl,xs,SqL.of hH⟩,rho,n,_,ds,vs,⟨os,I⟩,ht,λws H' n' fs ⟨os',J⟩ hl k=>?_⟩;obtain⟨d,rfl,k⟩:=k;obtain⟨J1,ac⟩:=J.split hl;obtain⟨v,rfl,r⟩:=qb ac;obtain⟨a',xs',e2,hH',rs',up⟩:=J1.own (es':=es) (xs':=[]) hi;rw[e1] at e2;cases e2
    exact⟨a,xs',v,rfl,rfl,hH',by rw[rs'.length];exact hz,ok.nx _ _ _ _ ⟨os',up _ _ (rs'.append (.cons r .nil))⟩ k⟩
def Xg(o:Option (Option D))(p:List D->Prop):Prop:=∃es,o=some (some (.own es))/\p es
def xg2(i:Nat)(tb:TD):TD:=λrho n P=>Xg rho[i]? λes=>tb rho n λd B=>∃j c,d=.int j/\atI es j=some c/\P c B
def zH1(i:Nat)(te tb:TD):TSD:=λF rho n=>Xg rho[i]? λes=>te rho n λd I=>tb rho I λd2 B=>∃j m,d2=.int j/\ixN es.length j=some m/\F.nx (rho.set i (some (.own (es.set m d)))) B
def xf9(i:Nat)(tb:TD):TD:=λrho n P=>rho[i]?=some (some .st)/\tb rho n λd B=>∃j:Int,d=.int j/\0<=j/\j<kOf B/\∀z:Int,0<=z->(j=1->z<2147483647)->P (.int z) B
def zE0{n:Nat}{i:Int}(B:0<=i)(h1:i<n):ixN n i=some i.toNat:=by unfold ixN;rw[if_pos B,if_pos h1]
def ZR{i:Nat}{x:Str}{px:Pos}(hb:PD A X b tb)(Y:Ji b)(hN:X.N[i]?=some x:=by rfl)(hv:Vis X.env.scope x:=by first |exact Or.inl rfl |exact Or.inr (Or.inl rfl) |exact Or.inr (Or.inr rfl))(hd:(x == ("__debug__" : Str))=false:=by decide)
  (aa:(x == ("__classdict__" : Str))=false:=by decide):PD A X (.Subscript (.Name x px) b pos) (xf9 i tb):=by
 exists 
   (zZ3 zl6 (JN hN hv hd aa) hb Y).imp λsg H Q h => by
    obtain⟨rho,n,P,ds,vs,⟨os,I⟩,⟨hi,ht⟩,hQ⟩:=h;obtain⟨v,e1,e2⟩:=I.slot i _ hi
    obtain⟨a,ha,rfl⟩:∃a,A.G=some a/\v=.ref a:=by
     have e3:=SlotR.rep (d:=.st) rfl e2;unfold Rep at e3;exact e3
    refine⟨.ref a,e1,rho,n,_,ds,vs,⟨os,I⟩,ht,λw H' n' d ⟨os',J⟩ k=>?_⟩;obtain⟨j,rfl,h0,h3,k⟩:=k;obtain⟨J1,r⟩:=J.pop;obtain⟨W,_,_,hH,p1,p2,p3⟩:=J1.st.1 a ha;obtain⟨B,rfl⟩:=wS h0
    have U:B<W.length:=w5
    have ej:W[B]?=some W[B]:=zn U
    refine⟨a,_,(B:Int),.int W[B],rfl,r.int_inv,SqL.of hH,?_,hQ _ H' n' _ ⟨os',J1.push (Rep.ofS (d:=.int W[B]) rfl)⟩ (k W[B] (p2 _ (yw U)) λe=>p3 _ (by rw[<- ej];congr 1;lia))⟩
    unfold atI
    rw[zE0 w5 (by rw[zh];lia)]
    simp[U]
def zy9(B:List Int)(j:Nat)(z:Int):(B.map V.int).set j (.int z)=(B.set j z).map V.int:=by rw[List.map_set]
def AmO.setSt{os:List (Nat × Addr)}{n:Nat}{rho:Rho}{sg:St}{H:Hp}{ds:List D}{vs:List V}{a:Addr}{B:List Int}(I:AmO A os n rho sg H ds vs)(ha:A.G=some a)(h:B.length=kOf n/\(∀x∈B,0<=x)/\∀x,B[1]?=some x->x<2147483647) :
  AmO A os n rho sg (upd H a (.lst (B.map V.int))) ds vs:=by
 have za:Zof A os a:=.inl (I.gz a ha)
 have J:∀b u,¬ Zof A os b->H b=some u->upd H a (.lst (B.map V.int)) b=some u:=λb u nz e=>by
  rw[wB λw=>nz (by rw[w];exact za)];exact e
 have W:∀p∈os,p.2≠a:=λp hp e=>(I.fresh p hp).2.1 (by rw[e];exact I.gz a ha)
 refine⟨I.len,λj c e=>?_,Reps.mono (λ_ _ w=>w) J _ _ I.pend,I.nd,λq Y=>?_,⟨λb e=>?_,λb c e=>?_⟩,I.gz,λb u h e=>?_,I.z0⟩
 ·obtain ⟨u, e1, e2⟩ := I.slot j c e
  exact⟨u,e1,SlotR.mono (λ_ _ w=>w) J (λb ys m q=>⟨m,by rw[wB (W _ m)];exact q⟩) _ _ e2⟩
 ·obtain ⟨f1, f2, f3⟩ := I.fresh q Y
  exact⟨f1,f2,by rw[wB (W q Y)];exact f3⟩
 ·rw[ha] at e;cases e;exact⟨B,0,0,yA,h⟩
 ·obtain ⟨q1, U, q3⟩ := I.st.2 b c e
  exact⟨q1,U,q3.mono (λ_ _ w=>w) J λu e=>by rw[wB λw=>U (by rw[w];exact ha)];exact e⟩
 ·rw [wB λw => h (by rw [w]; exact ha)]
  exact I.fr b u h e
def zB6(i:Nat)(te tb:TD):TSD:=λF rho n=>rho[i]?=some (some .st)/\te rho n λd I=>tb rho I λd2 B=>∃j z:Int,d=.int z/\d2=.int j/\0<=j/\j<kOf B/\0<=z/\(j=1->z<2147483647)/\F.nx rho B
def VY{i:Nat}{x:Str}{B ps:Pos}(he:PD A X e te)(hb:PD A X b tb)(hN:X.N[i]?=some x:=by rfl)(hv:Vis X.env.scope x:=by first |exact Or.inl rfl |exact Or.inr (Or.inl rfl) |exact Or.inr (Or.inr rfl))(hd:(x == ("__debug__" : Str))=false:=by decide)
  (ab : (x == ("__classdict__" : Str)) = false := by decide) (ha : ∀ v, assign (.Subscript (.Name x B) b ps) X.env v = (do
   let U <- holding [v] (eval (.Name x B) X.env)
   let iv <- holding [v,U] (eval b X.env)
   standAt ps
   holding [v,U,iv] (setItem U iv v)
   release [v,U,iv] []):=by intro _;rfl) (hs:swapsWithSole [.Subscript (.Name x B) b ps] e pos.line X.env=pure false:=by rfl) (hw:swappedStores [.Subscript (.Name x B) b ps] e X.env=pure none:=by rfl)
  (h1:(assignEach [.Subscript (.Name x B) b ps] X.env).map (·.2)=[assign (.Subscript (.Name x B) b ps) X.env]:=by rfl) :
  PSD A X (.Assign [.Subscript (.Name x B) b ps] e pos) (zB6 i te tb):=by
 exists 
   (zC7 he (zY8 (JN hN hv hd ab) hb zs7 ha) hs hw h1).imp λE sg H h => by
    obtain⟨rho,n,F,ds,vs,⟨os,I⟩,⟨hi,ht⟩,ok⟩:=h;obtain⟨v,e1,e2⟩:=I.slot i _ hi
    obtain⟨a,hG,rfl⟩:∃a,A.G=some a/\v=.ref a:=by
     have e3:=SlotR.rep (d:=.st) rfl e2;unfold Rep at e3;exact e3
    refine⟨rho,n,_,ds,vs,⟨os,I⟩,ht,λv H' n' d J k=>⟨.ref a,e1,rho,n',_,d::ds,v::vs,J,k,λw H2 n2 d2 ⟨Y,J2⟩ k2=>?_⟩⟩;obtain⟨j,z,rfl,rfl,h0,h3,hz,h2,k2⟩:=k2;obtain⟨J3,r2⟩:=J2.pop;obtain⟨J4,r1⟩:=J3.pop;obtain⟨zs,_,_,hH,p1,p2,p3⟩:=J4.st.1 a hG;rw[r1.int_inv,r2.int_inv];obtain⟨W,rfl⟩:=wS h0
    have aa:W<zs.length:=w5
    refine⟨a,_,(W:Int),W,rfl,rfl,hH,by rw[zE0 w5 (by rw[zh];lia)];simp,?_⟩
    rw[zy9]
    refine ok.nx _ _ _ _ ⟨Y,J4.setSt hG ⟨by rw[length_set];exact p1,λx hx=>?_,λx hx=>?_⟩⟩ k2
    ·rcases List.mem_or_eq_of_mem_set hx with hx | rfl
     ·exact p2 x hx
     ·exact hz
    ·by_cases e : W = 1
     ·subst e;rw[xq aa] at hx;cases hx;exact h2 rfl
     ·rw[xJ e] at hx;exact p3 x hx
def Ka(es:List D)(lo hi:Option Int):List D:=(es.drop (HT.sIx es.length 0 lo)).take (HT.sIx es.length es.length hi-HT.sIx es.length 0 lo)
def WW{K:W.Frag}{G:QqE}{Z:QqA}{H:Hp}{fs:List D}{xs:List V}(h:Reps K G Z H fs xs)(lo hi:Option Int):Reps K G Z H (Ka fs lo hi) (zA4 xs lo hi):=by
 unfold Ka zA4;rw[h.length];exact(h.drop _).take _
def xP8(lo hi:Option Int)(ta:TD):TD:=λrho n P=>ta rho n λd B=>∃fs,(d=.lst fs\/d=.fz fs)/\P (.lst (Ka fs lo hi)) B
def xf3(es:List D):List D:=es.zipIdx.map λp=>.tup [.int (p.2:Nat),p.1]
def xe7(t:TAD):TID:=λrho n P=>t rho n λes B=>∃fs,es=[.lst fs]/\P (xf3 fs) B
end
abbrev TF:=List D->Nat->(D->Nat->Prop)->Prop
noncomputable def UC(n:Nat)(H:Hp):Hp:=λa=>match zW n a with |none=>H a |some _=>none
def ZY{n:Nat}{H:Hp}{a:Addr}(h:zW n a=none):UC n H a=H a:=by unfold UC;rw[h]
def XB{n:Nat}{H:Hp}{a:Addr}(h:zW n a≠none):UC n H a=none:=by
 unfold UC
 cases q:zW n a with
 |none=>exact absurd q h
 |some c=>rfl
def zm7{n:Nat}{H:Hp}{a:Addr}{o:HO}(h:UC n H a=some o):zW n a=none/\H a=some o:=by
 by_cases q:zW n a=none
 ·rw[ZY q] at h;exact⟨q,h⟩
 ·rw[XB q] at h;cases h
abbrev Wi(Z:QqA)(n:Nat):Addr->Prop:=λa=>Z a\/zW n a≠none
structure Grown(n n':Nat)(H:Hp):Prop where
 new:∀a,zW n' a≠none->zW n a≠none\/H a=none
 old:∀a,zW n a≠none->zW n' a≠none
def spD(K:W.Frag)(k:Nat)(t:TF):Sp:=λvs H Q _=>∃(G:QqE) (Z:QqA) (n:Nat) (P:D->Nat->Prop) (ds:List D),ds.length=k/\Reps K G Z H ds vs/\StOk K Z Z G n H/\(∀a,G=some a->Z a)/\(∀a,Z a->H a≠none)/\t ds n P /\
 ∀v H' n' d,(∀a o,G≠some a->zW n a=none->H a=some o->H' a=some o)->StOk K (Wi Z n') (Wi Z n') G n' H'->Grown n n' H->Rep K G (Wi Z n') H' d v->P d n'->Q v H'
def wR(N:List Str)(ds:List D):Rho:=ds.map some++replicate (N.length-ds.length) none
def AmO.ended{K:W.Frag}{G:QqE}{Z:QqA}{H H':Hp}{os:List (Nat × Addr)}{n n':Nat}{rho':Rho}{sg':St}{ds:List D}{vs:List V}(I:AmO ⟨K,G,Z,UC n H⟩ os n' rho' sg' H' ds vs)(st:StOk K Z Z G n H)(z0:∀a,Z a->H a≠none) :
  (∀a o,G≠some a->zW n a=none->H a=some o->H' a=some o)/\StOk K (Wi Z n') (Wi Z n') G n' H'/\Grown n n' H/\∀a,Wi Z n' a->Zof ⟨K,G,Z,UC n H⟩ os a:=by
 have J:∀a,Wi Z n' a->Zof ⟨K,G,Z,UC n H⟩ os a:=λa z=>by
  rcases z with z |z
  ·exact .inl z
  ·cases q : zW n' a with
   |none=>exact absurd q z
   |some c=>
    rcases(I.st.2 a c q).1 with z |⟨p,B,e,_⟩
    ·exact .inl z.1
    ·exact .inr ⟨p,B,e⟩
 have U:∀a,zW n a≠none->Z a:=λa z=>by
  cases q:zW n a with
  |none=>exact absurd q z
  |some c=>exact(st.2 a c q).1
 refine⟨λa o g c e=>I.fr a o g (by show UC n H a=some o;rw[ZY c];exact e),I.st.mono (λa _ z=>J a z) (λ_ _ _ e=>e) (λ_ _ _ e=>e) (λa c _=>.inr c) (λ_ _ _ e=>e),⟨λa z=>?_,λa z=>?_⟩,J⟩
 ·cases q : zW n' a with
  |none=>exact absurd q z
  | some c =>
   rcases(I.st.2 a c q).1 with ⟨z,h⟩ |⟨p,B,e,_⟩
   ·by_cases w : zW n a = none
    ·have h:UC n H a=none:=h;rw[ZY w] at h;exact .inr h
    ·exact .inl w
   ·have h : UC n H p.2 = none := (I.fresh p B).1;rw[e] at h
    by_cases w:zW n a=none
    ·rw[ZY w] at h;exact .inr h
    ·exact .inl w
 ·rcases I.z0 a (U a z) with h | h
  ·exact absurd (XB z) h
  ·exact h
def UV{K:W.Frag}{G:QqE}{Z:QqA}{H:Hp}{N:List Str}{ds:List D}{vs:List V}{n:Nat}(J:Reps K G Z H ds vs)(st:StOk K Z Z G n H)(gz:∀a,G=some a->Z a)(z0:∀a,Z a->H a≠none) :
  AmO ⟨K,G,Z,UC n H⟩ [] n (wR N ds) (YL N vs) H [] []:=by
 have U:=J.length
 have I:∀a,Zof ⟨K,G,Z,UC n H⟩ [] a->Z a:=λa z=>by
  rcases z with z |⟨p,B,_⟩
  ·exact z
  ·simp at B
 have rs':Reps K G (Zof ⟨K,G,Z,UC n H⟩ []) H ds vs:=Reps.mono (λa _ z=>I a z) (λ_ _ _ e=>e) _ _ J
 refine⟨by simp[wR,YL,U],λi d e=>?_,.nil,.nil,λp B=>by simp at B,st.mono (λa _ z=>I a z) (λ_ _ _ e=>e) (λ_ _ _ e=>e) (λa c z=>.inl ⟨z,XB c⟩) (λ_ _ _ e=>e),gz,λa o _ e=>(zm7 e).2,λa z=>?_⟩
 rotate_left
 ·by_cases q : zW n a = none
  ·exact .inl (by show UC n H a≠none;rw[ZY q];exact z0 a z)
  ·exact .inr q
 unfold wR at e
 by_cases hi:i<ds.length
 ·rw [xn (by simpa using hi), zI] at e
  cases q:ds[i]? with
  |none=>rw[q] at e;cases e
  |some c=>
   rw[q] at e;cases e;obtain⟨v,Y,r⟩:=rs'.get q;refine⟨v,?_,SlotR.of r⟩;unfold YL
   rw[xn (by rw[zh,U];exact hi),zI,Y]
   rfl
 ·rw [xb (by simpa using hi), xO] at e
  split at e<;>cases e
section
variable {P:Program}{w:World}{K:W.Frag}{mg:QqM}{base:Heap}
def Fun.okD{x B:Str}{st:Stmt}{f:Addr}{fd:FuncData}{N ps:List Str}{k:Nat}{t:TF}{tb:TSD}(F:Fun K x B st f fd)(S:FnScope N ps (xr st))
  (body : ∀ (J : Value) (Y : Around) (outer : List Env) (s : Shared) (H : Hp) (E : XK) (G : Option Addr) (Z : Addr -> Prop) (n : Nat), Room k (Y.deeper (envOfC B (xr st) s.heap.objs.size f J)) ->
   zc6 ⟨K,G,Z,UC n H⟩ (zF3 CX0 P w K mg base N B (xr st) f J Y outer s H E).nox (vZ st) tb)
  (W:∀ds n Q,ds.length=ps.length->t ds n Q->tb { nx:=λ_ n=>Q .non n,rt:=Q } (wR N ds) n):FnOk P w K mg base CX0 (k+1) f fd ps (spD K ps.length t):=by
 exists (by
   refine F.ok S (λvs H Q E h=>?_) (λJ Y outer s H vs Q E hr h=>?_)
   ·obtain⟨G,Z,n,R,ds,hl,rs,_⟩:=h;rw[rs.length];exact hl
   ·obtain ⟨G, Z, n, R, ds, hl, rs, U, gz, z0, ht, hQ⟩ := h;refine⟨_,body J Y outer s H E G Z n hr,wR N ds,n,_,[],[],⟨[],UV rs U gz z0⟩,W ds n R hl ht,?_⟩;refine⟨λrho' n' sg' H' ⟨os,I⟩ q=>?_,λd n' v rho' sg' H' ⟨os,I⟩ q=>?_,λ_ _ _ _ _ q=>q.elim,λ_ _ _ _ _ q=>q.elim⟩
    ·obtain⟨r1,r2,r3,_⟩:=I.ended U z0;exact hQ .non H' n' .non r1 r2 r3 (Rep.ofS rfl) q
    ·obtain ⟨r1, r2, r3, r4⟩ := I.ended U z0
     exact hQ v H' n' d r1 r2 r3 (Rep.mono (λa _ z=>r4 a z) (λ_ _ _ e=>e) _ _ I.pop.2) q)
end
section
variable {A:AC}{X:Cx}{e:Expr}{es:List Expr}{t1:TAD}{pos p:Pos}
def dFn(k:Nat)(t:TF)(t1:TAD):TD:=λrho n P=>t1 rho n λes B=>es.length=k/\t es B P
theorem zi3(I:QqA):∀(l:List Addr) (os:List (Nat × Addr)) (m:Nat),os.Pairwise (λp q=>p.1≠q.1/\p.2≠q.2)->∃ex:List (Nat × Addr),(ex++os).Pairwise (λp q=>p.1≠q.1/\p.2≠q.2)/\(∀p∈ex,m<=p.1/\p.2∈l/\I p.2)/\∀a∈l,I a->∃p∈ex++os,p.2=a
 |[],os,m,h=>⟨[],h,λp B=>by simp at B,λa ha=>by simp at ha⟩
 | a :: l, os, m, h => by
  obtain⟨ex,h1,h2,h3⟩:=zi3 I l os m h
  by_cases c:I a/\¬ ∃p∈ex++os,p.2=a
  ·have big : ∃ k, m <= k /\ ∀ p ∈ ex ++ os, p.1 < k := by
    have:∀l:List (Nat × Addr),∃k,m<=k/\∀p∈l,p.1<k:=by
     intro l
     induction l with
     |nil=>exact⟨m,zk _,λp B=>by simp at B⟩
     |cons p l ih=>
      obtain⟨k,k1,k2⟩:=ih
      refine⟨max k (p.1+1),w5,λq hq=>?_⟩
      rcases zg.mp hq with rfl |hq
      ·lia
      ·have:=k2 q hq;lia
    exact this _
   obtain⟨k,k1,k2⟩:=big;refine⟨(k,a)::ex,wk.mpr ⟨λp B=>⟨xF (k2 p B),λz=>c.2 ⟨p,B,z.symm⟩⟩,h1⟩,λp B=>?_,λb J hn=>?_⟩
   ·rcases zg.mp B with rfl | B
    ·exact⟨k1,zq,c.1⟩
    ·obtain⟨Y,W,U⟩:=h2 p B;exact⟨Y,zf _ W,U⟩
   ·rcases zg.mp J with rfl | J
    ·exact⟨_,zq,rfl⟩
    ·obtain⟨p,B,e⟩:=h3 b J hn;exact⟨p,zf _ B,e⟩
  ·refine ⟨ex, h1, λp B => ?_, λb J hn => ?_⟩
   ·obtain⟨Y,W,U⟩:=h2 p B;exact⟨Y,zf _ W,U⟩
   ·rcases zg.mp J with rfl | J
    ·exact Classical.byContradiction λz=>c ⟨hn,z⟩
    ·exact h3 b J hn
def AmO.stZ{os:List (Nat × Addr)}{n:Nat}{rho:Rho}{sg:St}{H:Hp}{ds:List D}{vs:List V}(I:AmO A os n rho sg H ds vs):StOk A.K (Zof A os) (Zof A os) A.G n H:=
 I.st.mono (λ_ _ z=>z) (λ_ _ _ e=>e) (λ_ _ _ e=>e) (λa _ z=>by
  rcases z with z |⟨p,B,e,_⟩
  ·exact .inl z.1
  ·exact .inr ⟨p,B,e⟩) (λ_ _ _ e=>e)
def AmO.calledX{os:List (Nat × Addr)}{n n':Nat}{rho:Rho}{sg:St}{H H':Hp}{ds:List D}{vs:List V}(I:AmO A os n rho sg H ds vs)(fr:∀a o,A.G≠some a->zW n a=none->H a=some o->H' a=some o)(st:StOk A.K (Wi (Zof A os) n') (Wi (Zof A os) n') A.G n' H')
  (gw:Grown n n' H):∃os',AmO A os' n' rho sg H' ds vs/\∀a,Zof A os' a->Wi (Zof A os) n' a:=by
 obtain⟨ex,e1,U,e3⟩:=zi3 (λa=>zW n' a≠none/\H a=none) (Jc n') os rho.length I.nd
 have hz:∀a,Zof A (ex++os) a->Wi (Zof A os) n' a:=λa z=>by
  rcases z with z |⟨p,B,rfl⟩
  ·exact .inl (.inl z)
  ·rcases zR.mp B with B | B
   ·exact .inr (U p B).2.2.1
   ·exact .inl (.inr ⟨p,B,rfl⟩)
 have Y:∀a,H a≠none->Zof A (ex++os) a->Zof A os a:=λa h z=>by
  rcases z with z |⟨p,B,rfl⟩
  ·exact .inl z
  ·rcases zR.mp B with B | B
   ·exact absurd (U p B).2.2.2 h
   ·exact .inr ⟨p,B,rfl⟩
 have zi:∀a,Zof A os a->Zof A (ex++os) a:=λa z=>by
  rcases z with z |⟨p,B,e⟩
  ·exact .inl z
  ·exact .inr ⟨p,zr _ B,e⟩
 have cz:∀a,zW n a≠none->Zof A os a:=λa h=>by
  cases q:zW n a with
  |none=>exact absurd q h
  |some c=>
   rcases(I.st.2 a c q).1 with z |⟨p,B,e,_⟩
   ·exact .inl z.1
   ·exact .inr ⟨p,B,e⟩
 have hf:∀b u,¬ Zof A os b->H b=some u->H' b=some u:=λb u nz e=>fr b u (λz=>nz (.inl (I.gz b z))) (Classical.byContradiction λz=>nz (cz b z)) e;have no:∀p∈os,A.G≠some p.2:=λp B e=>(I.fresh p B).2.1 (I.gz _ e)
 have h0:∀a,H a=none->A.H0 a=none:=λa h=>by
  cases q:A.H0 a with
  |none=>rfl
  |some o=>
   by_cases e:A.G=some a
   ·obtain⟨x,y,z,w,_⟩:=I.st.1 a e;rw[w] at h;cases h
   ·rw[I.fr a o e q] at h;cases h
 have aa:∀a,Zof A os a->H' a≠none:=λa z=>by
  by_cases c:zW n a=none
  ·by_cases g : A.G = some a
   ·obtain⟨x,y,z,w,_⟩:=st.1 a g;rw[w];simp
   ·cases q : H a with
    |none=>exact absurd q (I.zH a z)
    |some u=>rw[fr a u g c q];simp
  ·have := gw.old a c
   cases q:zW n' a with
   |none=>exact absurd q this
   |some c=>exact(st.2 a c q).2.2.ne
 refine⟨ex++os,⟨I.len,λj c e=>?_,Reps.mono Y hf _ _ I.pend,e1,λq J=>?_,?_,I.gz,λb u h e=>?_,λa z=>?_⟩,hz⟩
 ·obtain⟨u,e1,U⟩:=I.slot j c e;have hj:j<rho.length:=(zT.mp e).1;exact⟨u,e1,SlotR.mono Y hf (λb ys m q=>⟨zr _ m,fr _ _ (no _ m) (I.noOwn hj m) q⟩) _ _ U⟩
 ·rcases zR.mp J with J | J
  ·obtain ⟨_, _, q1, W⟩ := U q J;refine⟨h0 _ W,λz=>I.zH _ (.inl z) W,?_⟩
   cases q:zW n' q.2 with
   |none=>exact absurd q q1
   |some c=>exact(st.2 _ c q).2.2.ne
  ·obtain⟨f1,f2,f3⟩:=I.fresh q J;exact⟨f1,f2,aa _ (.inr ⟨q,J,rfl⟩)⟩
 ·refine st.mono (λa _ z => hz a z) (λ_ _ _ e => e) (λ_ _ _ e => e) (λa c z => ?_) (λ_ _ _ e => e)
  rcases gw.new a c with z |z
  ·cases W : zW n a with
   |none=>exact absurd W z
   |some c2=>
    rcases(I.st.2 a c2 W).1 with y |⟨p,B,e,hl⟩
    ·exact .inl y
    ·exact .inr ⟨p,zr _ B,e,hl⟩
  ·obtain ⟨p, B, e⟩ := e3 a (Jb c) ⟨c, z⟩
   rcases zR.mp B with hp' |hp'
   ·exact .inr ⟨p,B,e,(U p hp').1⟩
   ·exact absurd (by rw[e];exact z) (I.fresh p hp').2.2
 ·by_cases c : zW n b = none
  ·exact fr b u h c (I.fr b u h e)
  ·exfalso
   cases q:zW n b with
   |none=>exact c q
   |some c2=>
    rcases(I.st.2 b c2 q).1 with y |⟨p,B,e',_⟩
    ·rw[y.2] at e;cases e
    ·rw[<- e',(I.fresh p B).1] at e;cases e
 ·rcases I.z0 a z with z | z
  ·exact .inl z
  ·exact .inr (gw.old a z)
def AmO.called{os:List (Nat × Addr)}{n n':Nat}{rho:Rho}{sg:St}{H H':Hp}{ds:List D}{vs:List V}{d:D}{v:V}(I:AmO A os n rho sg H ds vs)(fr:∀a o,A.G≠some a->zW n a=none->H a=some o->H' a=some o)(st:StOk A.K (Wi (Zof A os) n') (Wi (Zof A os) n') A.G n' H')(U:Grown n n' H)
  (r:Rep A.K A.G (Wi (Zof A os) n') H' d v):Am A n' rho sg H' (d::ds) (v::vs):=by
 obtain⟨os',J,B⟩:=I.calledX fr st U;exact⟨os',J.push (Rep.mono (λa _ z=>B a z) (λ_ _ _ e=>e) _ _ r)⟩
def zL5{x:Str}{f:Addr}{fd:FuncData}{ps:List Str}{t:TF}{kk k:Nat}(F:FnOk X.prog X.w X.K X.mg X.base CX0 kk f fd ps (spD X.K k t))(hr:Room kk X.A)(hm:X.mg x=some (.ref f))(hk:W.keepIn X.K (.ref f)=true)(hb:Binds X.K fd ps [])(hK:X.K=A.K)
  (ha:PAD A X (e::es) t1) (hg:Gl X x:=by rfl) (Y:(x == ("__debug__" : Str))=false:=by decide) (he:starEach (e::es) X.env=(false,eval e X.env)::starEach es X.env:=by rfl) (U:(backTo pos (starEach es X.env)).any (·.1)=false:=by rfl) :
  PD A X (.Call (.Name x p) (e::es) [] pos) (dFn k t t1):=by
 exists (zh9 F hr hg hm hk hb .nil QS ha Y he U).imp λsg H Q h=>by
   obtain⟨rho,n,R,ds,vs,I,ht,hQ⟩:=h;refine⟨rho,n,_,ds,vs,I,ht,λws H' n' es' ⟨os,J⟩ hl k=>?_⟩;obtain⟨B,rs⟩:=J.split hl;rw[wb,hK];refine⟨A.G,Zof A os,n',R,es',k.1,rs,B.stZ,λa z=>.inl (B.gz a z),B.zH,k.2,λv H2 n2 d fr st nw r q=>hQ v H2 n2 d (B.called fr st nw r) q⟩
end
section
variable {A:AC}{X:Cx}{tg a:Expr}{ta:TD}{pos p:Pos}
def xz9(K:W.Frag)(I:TE):TI:=λsg H R=>I sg H λx B=>∃l,x=.ref l/\(((∃xs,SqL K B l xs)/\R (Itl K l) B)\/((∃xs,SqT K B l xs)/\R (Itt K l) B))
def zK8{l:Expr}{tl:TE}(hl:PE X l tl):PI X tg l (xz9 X.K tl):=by
 intro J s sg H R I h;refine thn (hl J s sg H _ I h) λv B ⟨x,H1,U,r1,W⟩=>?_;obtain⟨c,e,W⟩:=W;subst e;cases r1
 have new:∀b∈[B.heap.objs.size],FpOk X J H1 b:=λb hb=>by
  obtain rfl:b=B.heap.objs.size:=by simpa using hb
  exact U.fpOk (zk _) (U.hok.fresh (zk _))
 rcases W with ⟨⟨xs,Y⟩,q⟩ |⟨⟨xs,Y⟩,q⟩
 ·obtain⟨its,rv,pl,hz⟩:=U.list Y;exact yQ pl.isList ⟨B.heap.objs.size,[B.heap.objs.size],_,_,H1,rfl,U.kept (t':=B.toks) λb o e=>zd _ e,zd3 c _,⟨_,zu _ rfl,rfl,rfl⟩,new,q⟩
 ·obtain⟨its,rv,pl,hz⟩:=U.tuple Y;exact wpAny_pyIter_tuple (show B.heap.IsTuple c its.toArray from pl) ⟨B.heap.objs.size,[B.heap.objs.size],_,_,H1,rfl,U.kept (t':=B.toks) λb o e=>zd _ e,QF c _,⟨_,zu _ rfl,rfl,rfl⟩,new,q⟩
def zP5(ta:TD):TID:=λrho n P=>ta rho n λd B=>∃es,(d=.lst es\/d=.tup es)/\P es B
def vf(hK:X.K=A.K)(ha:PD A X a ta):PID A X tg a (zP5 ta):=by
 exists (zK8 ha).imp λsg H R h=>by
   obtain⟨rho,n,P,ds,vs,I,ht,hQ⟩:=h;refine⟨rho,n,_,ds,vs,I,ht,λv H' n' d ⟨os,J⟩ k=>?_⟩;obtain⟨es,hd,k⟩:=k;have r:=J.pop.2;rw[hK]
   rcases hd with rfl |rfl
   ·obtain ⟨l, xs, rfl, sq, rs⟩ := r.lst_inv;refine⟨l,rfl,.inl ⟨⟨xs,sq.sq⟩,hQ _ H' n' es [.lst es] [.ref l] ⟨os,J⟩ rfl (λn2 ac ad H2 ab Y i ⟨aa,I2⟩=>?_) k⟩⟩;obtain⟨I3,r2⟩:=AmO.pop (d:=.lst es) (v:=.ref l) (ds:=ab) (vs:=Y) I2;obtain⟨l',B,e,U,W⟩:=r2.lst_inv;cases e
    refine⟨λd e=>?_,λhi=>⟨B,U.sq,by rw[W.length];exact hi⟩⟩
    obtain⟨v,e1,rv⟩:=W.get e;refine⟨⟨B,v,U.sq,e1⟩,λx H3 y=>?_⟩;obtain⟨e3,y⟩:=y;subst e3;have e4:=y B U.sq;rw[e1] at e4;cases e4;exact⟨aa,I2.push rv⟩
   ·obtain ⟨l, xs, rfl, sq, rs⟩ := r.tup_inv;refine⟨l,rfl,.inr ⟨⟨xs,sq.sq⟩,hQ _ H' n' es [.tup es] [.ref l] ⟨os,J⟩ rfl (λn2 ac ad H2 ab Y i ⟨aa,I2⟩=>?_) k⟩⟩;obtain⟨I3,r2⟩:=AmO.pop (d:=.tup es) (v:=.ref l) (ds:=ab) (vs:=Y) I2;obtain⟨l',B,e,U,W⟩:=r2.tup_inv;cases e
    refine⟨λd e=>?_,λhi=>⟨B,U.sq,by rw[W.length];exact hi⟩⟩
    obtain⟨v,e1,rv⟩:=W.get e;refine⟨⟨B,v,U.sq,e1⟩,λx H3 y=>?_⟩;obtain⟨e3,y⟩:=y;subst e3;have e4:=y B U.sq;rw[e1] at e4;cases e4;exact⟨aa,I2.push rv⟩
end
structure Fn(P:Program)(w:World)(K:W.Frag)(mg:QqM)(base:Heap)(x:Str)(kk k:Nat)(t:TF):Prop where
 ex:∃(f:Addr) (fd:FuncData) (ps:List Str),FnOk P w K mg base CX0 kk f fd ps (spD K k t)/\mg x=some (.ref f)/\W.keepIn K (.ref f)=true/\Binds K fd ps []
def vg{A:AC}{X:Cx}{e:Expr}{es:List Expr}{J:TAD}{pos p:Pos}{x:Str}{t:TF}{U k:Nat}(F:Fn X.prog X.w X.K X.mg X.base x U k t)(W:Room U X.A)(hK:X.K=A.K)
  (ha:PAD A X (e::es) J) (Y:Gl X x:=by rfl) (I:(x == ("__debug__" : Str))=false:=by decide) (he:starEach (e::es) X.env=(false,eval e X.env)::starEach es X.env:=by rfl) (B:(backTo pos (starEach es X.env)).any (·.1)=false:=by rfl) :
  PD A X (.Call (.Name x p) (e::es) [] pos) (dFn k t J):=by
 exists (by
   obtain⟨f,fd,ps,h1,h2,h3,h4⟩:=F.ex
   exact zL5 h1 W h2 h3 h4 hK ha Y I he B)
structure Blt(mg:QqM):Prop where
 len:mg "len" = none
 abs:mg "abs" = none
 all:mg "all" = none
 any:mg "any" = none
 isi:mg "isinstance" = none
 int:mg "int" = none
 bool:mg "bool" = none
 str:mg "str" = none
 tuple:mg "tuple" = none
 list:mg "list" = none
 range:mg "range" = none
 zip:mg "zip" = none
 enum:mg "enumerate" = none
 max:mg "max" = none
 min:mg "min" = none
 sorted:mg "sorted" = none
def kh:bootBuiltins "len" = some (.builtin "len"):=x0
def zF6:bootBuiltins "abs" = some (.builtin "abs"):=x0
def xh2:bootBuiltins "all" = some (.builtin "all"):=x0
def UQ:bootBuiltins "isinstance" = some (.builtin "isinstance"):=x0
def QB:bootBuiltins "int" = some (.type "int"):=x0
def zq5:bootBuiltins "bool" = some (.type "bool"):=x0
def vw:bootBuiltins "tuple" = some (.type "tuple"):=x0
def zR0:bootBuiltins "list" = some (.type "list"):=x0
def isB(d:D)(p:Bool->Prop):Prop:=∃c,d=.bl c/\p c
@[simp] theorem xM7{b:Bool}{p:Bool->Prop}:isB (.bl b) p↔p b:=⟨fun⟨_,e,h⟩=>by cases e;exact h,λh=>⟨_,rfl,h⟩⟩
@[simp] theorem xs0{F rho n}:zU7 F rho n=F.nx rho n:=rfl
@[simp] theorem xD0{t u F rho n}:zR8 t u F rho n=t { F with nx:=u F } rho n:=rfl
@[simp] theorem xD1{B F rho n}:xB8 B F rho n=B rho n F.rt:=rfl
@[simp] theorem xL4{c t u F rho n}:sIf c t u F rho n=c rho n λb B=>if b=true then t F rho B else u F rho B:=rfl
@[simp] theorem xC9{i B F rho n}:xi6 i B F rho n=(i<rho.length/\B rho n λd I=>F.nx (rho.set i (some d)) I):=rfl
@[simp] theorem xC8{B g F rho n}:xB7 B g F rho n=B rho n λd I=>g d rho λrho'=>F.nx rho' I:=rfl
@[simp] theorem xD4{i t F rho n}:xB9 i t F rho n=(i<rho.length/\t rho n λes B=>es.length<=sizeLine/\F.nx (rho.set i (some (.own es))) B):=rfl
@[simp] theorem xs2{B F rho n}:zV2 B F rho n=B rho n λ_ I=>F.nx rho I:=rfl
@[simp] theorem xD5{i t F rho n}:xC0 i t F rho n=∃es,rho[i]?=some (some (.own es))/\t F (rho.set i (some (.lst es))) n:=rfl
@[simp] theorem zW8{i t F rho n}:zf3 i t F rho n=∃es,rho[i]?=some (some (.own es))/\es.length<sizeLine/\t rho n λds B=>∃d,ds=[d]/\F.nx (rho.set i (some (.own (es++[d])))) B:=rfl
@[simp] theorem xl7{i d rho P}:zE1 i d rho P=(i<rho.length/\P (rho.set i (some d))):=rfl
@[simp] theorem xE3{i rho n P}:xH7 i rho n P=atV rho[i]? λd=>P d n:=rfl
@[simp] theorem xN9{d k}:atV (some (some d)) k=atD d k:=rfl
@[simp] theorem xG7{k}:atD .non k=k .non:=rfl
@[simp] theorem xG6{k b}:atD (.bl b) k=k (.bl b):=rfl
@[simp] theorem xG5{k b}:atD (.int b) k=k (.int b):=rfl
@[simp] theorem xG4{k b}:atD (.str b) k=k (.str b):=rfl
@[simp] theorem xG3{k b}:atD (.tup b) k=k (.tup b):=rfl
@[simp] theorem xG2{k b}:atD (.lst b) k=k (.lst b):=rfl
@[simp] theorem xG1{k b}:atD (.fz b) k=k (.fz b):=rfl
@[simp] theorem xG0{k}:atD .st k=k .st:=rfl
@[simp] theorem xF9{k a b}:atD (.dct a b) k=k (.dct a b):=rfl
@[simp] theorem xO0{d k}(h:vd d=true):atD d k=k d:=propext ⟨λz=>(zq9 z).2,zF8 h⟩
@[simp] theorem xR0{d rho n P}:dC d rho n P=P d n:=rfl
@[simp] theorem xN5{J I B rho n P}:dOp J I B rho n P=I rho n λd1 W=>B rho W λd2 U=>J d1 d2 λd=>P d U:=rfl
@[simp] theorem xw3{t rho n P}:UH t rho n P=t rho n λd n'=>isB d λb=>P b n':=rfl
@[simp] theorem xs9{d1 d2 k}:xp6 d1 d2 k=(d2=.non/\k (.bl (Wf d1))):=rfl
@[simp] theorem xj5{d1 d2 k}:zV9 d1 d2 k=(d2=.non/\k (.bl (!Wf d1))):=rfl
@[simp] theorem xF7{t u rho n P}:xI4 t u rho n P=t rho n λc B=>if c=true then u rho B P else P false B:=rfl
@[simp] theorem xN8{t u rho n P}:bOr t u rho n P=t rho n λc B=>if c=true then P true B else u rho B P:=rfl
@[simp] theorem xF6{t rho n P}:xB0 t rho n P=t rho n λc B=>P (!c) B:=rfl
@[simp] theorem xF5{rho n P}:xh4 rho n P=P true n:=rfl
@[simp] theorem xF4{I B rho n P}:xI3 I B rho n P=I rho n λd J=>isB d λc=>if c=true then B rho J P else P (.bl false) J:=rfl
@[simp] theorem xN4{I B rho n P}:dOr I B rho n P=I rho n λd J=>isB d λc=>if c=true then P (.bl true) J else B rho J P:=rfl
@[simp] theorem xE9{B rho n P}:xQ1 B rho n P=B rho n λd I=>isB d λc=>P (.bl (!c)) I:=rfl
@[simp] theorem xN6{t I B rho n P}:dIf t I B rho n P=t rho n λc J=>if c=true then I rho J P else B rho J P:=rfl
@[simp] theorem xG8{rho n P}:xB2 rho n P=P [] n:=rfl
@[simp] theorem xx6{t r rho n P}:xh7 t r rho n P=t rho n λd I=>r rho I λds B=>P (d::ds) B:=rfl
@[simp] theorem xE4{t rho n P}:xH8 t rho n P=t rho n λds B=>ds.length<=sizeLine/\P (.tup ds) B:=rfl
@[simp] theorem xF1{t rho n P}:xI1 t rho n P=t rho n λds B=>ds.length<=sizeLine/\P (.lst ds) B:=rfl
@[simp] theorem xx4{B t rho n P}:zo7 B t rho n P=t rho n λes I=>B es λd=>P d I:=rfl
@[simp] theorem xN7{k t B rho n P}:dFn k t B rho n P=B rho n λes I=>es.length=k/\t es I P:=rfl
@[simp] theorem xv8{B rho n P}:zP5 B rho n P=B rho n λd I=>∃es,(d=.lst es\/d=.tup es)/\P es I:=rfl
@[simp] theorem xv9{t rho n P}:zP6 t rho n P=t rho n λes B=>∃j:Int,es=[.int j]/\-(2^62)<=j/\j<2^62/\P (JD 0 j.toNat) B:=rfl
@[simp] theorem xl6{t rho n P}:xe7 t rho n P=t rho n λes B=>∃fs,es=[.lst fs]/\P (xf3 fs) B:=rfl
@[simp] theorem xE7{lo hi B rho n P}:xP8 lo hi B rho n P=B rho n λd I=>∃fs,(d=.lst fs\/d=.fz fs)/\P (.lst (Ka fs lo hi)) I:=rfl
@[simp] theorem xw1{rho P}:xf0 [] rho P↔P rho:=⟨λh=>h.2,λh=>⟨rfl,h⟩⟩
@[simp] theorem xl8{g gs d r rho P}:zE2 g gs (d::r) rho P↔g d rho λrho'=>gs r rho' P:=⟨fun⟨_,_,e,h⟩=>by cases e;exact h,λh=>⟨_,_,rfl,h⟩⟩
@[simp] theorem xw0{k gs es rho P}:xe9 k gs (.tup es) rho P↔(es.length=k/\gs es rho P):=⟨fun⟨_,e,h⟩=>by cases e;exact h,λh=>⟨_,rfl,h⟩⟩
@[simp] theorem xL5{C g i j k}:rdI C g (.int i) (.int j) k=(C i j/\k (g i j)):=rfl
@[simp] theorem zf7{g i j k}:zu3 g (.int i) (.int j) k=k (g i j):=rfl
@[simp] theorem xL6{f c d k}:rdB f (.bl c) (.bl d) k=k (.bl (f c d)):=rfl
@[simp] theorem zI7{es i k}:zR9 (.lst es) (.int i) k↔∃d,atI es i=some d/\k d:=⟨fun⟨_,_,d,e,e',h⟩=>by cases e' ;rcases e with e |e |e<;>cases e;exact⟨d,h⟩,fun⟨d,h⟩=>⟨_,_,d,.inl rfl,rfl,h⟩⟩
@[simp] theorem zI6{es i k}:zR9 (.tup es) (.int i) k↔∃d,atI es i=some d/\k d:=⟨fun⟨_,_,d,e,e',h⟩=>by cases e' ;rcases e with e |e |e<;>cases e;exact⟨d,h⟩,fun⟨d,h⟩=>⟨_,_,d,.inr (.inl rfl),rfl,h⟩⟩
@[simp] theorem xs8{es i k}:zR9 (.fz es) (.int i) k↔∃d,atI es i=some d/\k d:=⟨fun⟨_,_,d,e,e',h⟩=>by cases e' ;rcases e with e |e |e<;>cases e;exact⟨d,h⟩,fun⟨d,h⟩=>⟨_,_,d,.inr (.inr rfl),rfl,h⟩⟩
@[simp] theorem xt5{es fs k}:zW3 (.lst es) (.lst fs) k↔(es.length+fs.length<=sizeLine/\k (.lst (es++fs))):=⟨fun⟨_,_,e,e',h⟩=>by cases e;cases e';exact h,λh=>⟨_,_,rfl,rfl,h⟩⟩
@[simp] theorem xj3{es i k}:zV7 (.tup es) (.int i) k↔(es≠[]/\1<=i/\es.length*i.toNat<=sizeLine/\k (.tup (replicate i.toNat es).flatten)):=⟨fun⟨_,_,e,e',h⟩=>by cases e;cases e';exact h,λh=>⟨_,_,rfl,rfl,h⟩⟩
def QT(es:List D)(p:D->D->Prop):Prop:=∃d d',es=[d,d']/\p d d'
@[simp] theorem xt6{a b p}:QT [a,b] p↔p a b:=⟨fun⟨_,_,e,h⟩=>by cases e;exact h,λh=>⟨_,_,rfl,h⟩⟩
@[simp] theorem xD3{i j t F rho n}:xo8 i j t F rho n=(i<rho.length/\j<rho.length/\t rho n λes B=>QT es λd d'=>F.nx ((rho.set i (some d)).set j (some d')) B):=rfl
@[simp] theorem xt1{i j:Int}{k}:zI2 (.int i) (.int j) k↔k (.bl (decide (i=j))):=by
 have e:decide (ofS (.int i)=ofS (.int j))=decide (i=j):=by simp[ofS]
 unfold zI2;rw[e];exact⟨λh=>h.2.2.2,λh=>⟨rfl,rfl,rfl,h⟩⟩
@[simp] theorem xt2{i j:Bool}{k}:zI2 (.bl i) (.bl j) k↔k (.bl (decide (i=j))):=by
 have e:decide (ofS (.bl i)=ofS (.bl j))=decide (i=j):=by simp[ofS]
 unfold zI2;rw[e];exact⟨λh=>h.2.2.2,λh=>⟨rfl,rfl,rfl,h⟩⟩
@[simp] theorem xs6{i j:Int}{k}:zW0 (.int i) (.int j) k↔k (.bl (!decide (i=j))):=by
 have e:decide (ofS (.int i)=ofS (.int j))=decide (i=j):=by simp[ofS]
 unfold zW0;rw[e];exact⟨λh=>h.2.2.2,λh=>⟨rfl,rfl,rfl,h⟩⟩
@[simp] theorem xs7{i j:Bool}{k}:zW0 (.bl i) (.bl j) k↔k (.bl (!decide (i=j))):=by
 have e:decide (ofS (.bl i)=ofS (.bl j))=decide (i=j):=by simp[ofS]
 unfold zW0;rw[e];exact⟨λh=>h.2.2.2,λh=>⟨rfl,rfl,rfl,h⟩⟩
@[simp] theorem xv0{fs k}:zO9 [.lst fs] k↔k (.int fs.length):=⟨fun⟨_,e,h⟩=>by rcases e with e |e |e<;>cases e;exact h,λh=>⟨_,.inl rfl,h⟩⟩
@[simp] theorem zf9{fs k}:zO9 [.tup fs] k↔k (.int fs.length):=⟨fun⟨_,e,h⟩=>by rcases e with e |e |e<;>cases e;exact h,λh=>⟨_,.inr (.inl rfl),h⟩⟩
@[simp] theorem xv1{fs k}:zO9 [.fz fs] k↔k (.int fs.length):=⟨fun⟨_,e,h⟩=>by rcases e with e |e |e<;>cases e;exact h,λh=>⟨_,.inr (.inr rfl),h⟩⟩
@[simp] theorem xD9{i k}:xH6 [.int i] k↔k (.int (if i<0 then -i else i)):=⟨fun⟨_,e,h⟩=>by cases e;exact h,λh=>⟨_,rfl,h⟩⟩
@[simp] theorem xv4{i k}:xd7 [.bl i] k↔k (.int (if i then 1 else 0)):=⟨fun⟨_,e,h⟩=>by cases e;exact h,λh=>⟨_,rfl,h⟩⟩
@[simp] theorem kD{fs k}:zl4 [.lst fs] k↔k (.tup fs):=⟨fun⟨_,e,h⟩=>by rcases e with e |e<;>cases e;exact h,λh=>⟨_,.inl rfl,h⟩⟩
@[simp] theorem zW9{fs k}:zl4 [.tup fs] k↔k (.tup fs):=⟨fun⟨_,e,h⟩=>by rcases e with e |e<;>cases e;exact h,λh=>⟨_,.inr rfl,h⟩⟩
@[simp] theorem xl2{fs k}:xd6 [.lst fs] k↔k (.lst fs):=⟨fun⟨_,e,h⟩=>by rcases e with e |e<;>cases e;exact h,λh=>⟨_,.inl rfl,h⟩⟩
@[simp] theorem xl0{fs k}:xd6 [.tup fs] k↔k (.lst fs):=⟨fun⟨_,e,h⟩=>by rcases e with e |e<;>cases e;exact h,λh=>⟨_,.inr rfl,h⟩⟩
@[simp] theorem xw4{i B rho n P}:xf9 i B rho n P=(rho[i]?=some (some .st)/\B rho n λd I=>∃j:Int,d=.int j/\0<=j/\j<kOf I/\∀z:Int,0<=z->(j=1->z<2147483647)->P (.int z) I):=rfl
@[simp] theorem xi9{i B I F rho n}:zB6 i B I F rho n=(rho[i]?=some (some .st)/\B rho n λd U=>I rho U λd2 J=>∃j z:Int,d=.int z/\d2=.int j/\0<=j/\j<kOf J/\0<=z/\(j=1->z<2147483647)/\F.nx rho J):=rfl
@[simp] theorem xM5:vd .non=true:=rfl
@[simp] theorem xM4{b}:vd (.bl b)=true:=rfl
@[simp] theorem xM3{b}:vd (.int b)=true:=rfl
@[simp] theorem xM2{b}:vd (.str b)=true:=rfl
@[simp] theorem xM1{b}:vd (.tup b)=true:=rfl
@[simp] theorem xM0{b}:vd (.lst b)=true:=rfl
@[simp] theorem xF8{a k}:atD (.rf a) k=k (.rf a):=rfl
@[simp] theorem xL7{a}:vd (.rf a)=true:=rfl
@[simp] theorem xL9:vd .st=true:=rfl
@[simp] theorem xL8{b}:vd (.fz b)=true:=rfl
@[simp] theorem xN3:Wf .non=true:=rfl
@[simp] theorem xN2{b}:Wf (.bl b)=false:=rfl
@[simp] theorem xN1{b}:Wf (.int b)=false:=rfl
@[simp] theorem xN0{b}:Wf (.str b)=false:=rfl
@[simp] theorem xM9{b}:Wf (.tup b)=false:=rfl
@[simp] theorem xM8{b}:Wf (.lst b)=false:=rfl
@[simp] theorem xL3{b}:YM (.lst b)=some (true,b):=rfl
@[simp] theorem xL2{b}:YM (.tup b)=some (false,b):=rfl
@[simp] theorem xr2:(0<=sizeLine)=True:=by simp
@[simp] theorem xr1:(1<=sizeLine)=True:=by simp[sizeLine]
@[simp] theorem xr0:(2<=sizeLine)=True:=by simp[sizeLine]
@[simp] theorem xq9:(3<=sizeLine)=True:=by simp[sizeLine]
@[simp] theorem xq8:(4<=sizeLine)=True:=by simp[sizeLine]
@[simp] theorem xq7:(5<=sizeLine)=True:=by simp[sizeLine]
@[simp] theorem xq6:(6<=sizeLine)=True:=by simp[sizeLine]
@[simp] theorem xq5:(7<=sizeLine)=True:=by simp[sizeLine]
def wZ{k:Nat}(h:k<=1000:=by decide):k<=sizeLine:=zF h w6
def lt_size{k:Nat}(h:k<=1000:=by decide):k<sizeLine:=yF h w6
def Qv(own:Nat)(g:TGD)(U:TBD)(W:TD)(rho:Rho)(P:D->Nat->Prop)(items:List D)(n1:Nat):Prop:=items.length<=sizeLine/\∃J:Nat->List D->Nat->Prop,J 0 [] n1 /\
 (∀i d B n,items[i]?=some d->J i B n->g d (replicate own none++rho) λrho'=>rho'.drop own=rho/\U rho' n λc I=>if c=true then W rho' I λe Y=>J (i+1) (B++[e]) Y else J (i+1) B I) /\
 ∀B n,J items.length B n->P (.lst B) n
@[simp] theorem xx3{it own g B I rho n P}:zb3 it own g B I rho n P=it rho n (Qv own g B I rho P):=rfl
def xc1(g:TGD)(B:TSD)(F:EndsD)(rho:Rho)(items:List D)(I:Nat):Prop:=∃J:Nat->Rho->Nat->Prop,J 0 rho I /\
 (∀i d rho n,items[i]?=some d->J i rho n->g d rho λrho'=>B { F with nx:=J (i+1),ct:=J (i+1),bk:=F.nx } rho' n)/\∀rho n,J items.length rho n->F.nx rho n
@[simp] theorem xD6{it g B F rho n}:xi7 it g B F rho n=it rho n (xc1 g B F rho):=rfl
def zA6{it:TID}{own:Nat}{g:TGD}{I:TD}{rho:Rho}{n:Nat}{P:D->Nat->Prop}{α:Type}(enc:α->D)(f:α->D)(xs:List α)
  (hi:∀R,R (xs.map enc) n->it rho n R) (U:xs.length<=sizeLine) (he:∀x∈xs,∀Q,Q (f x) n->g (enc x) (replicate own none++rho) λrho'=>rho'.drop own=rho/\I rho' n Q) (W:P (.lst (xs.map f)) n):zb3 it own g xh4 I rho n P:=by
 refine hi _ ⟨by simpa using U,λi B n'=>n'=n/\B=(xs.take i).map f,⟨rfl,rfl⟩,?_,?_⟩
 ·rintro i d B n' e ⟨rfl, rfl⟩;rw[zI] at e
  cases q:xs[i]? with
  |none=>rw[q] at e;cases e
  |some x=>
   rw[q] at e;cases e;have hm:x∈xs:=wl q;refine he x hm (λe J=>J=n'/\(xs.take i).map f++[e]=(xs.take (i+1)).map f) ⟨rfl,?_⟩;rw[xp,q];simp
 ·rintro B n' ⟨rfl,rfl⟩;rw[zh,wq];exact W
def zF7{α:Type}{xs:List α}{i:Int}(B:0<=i)(h1:i<xs.length):∃d,atI xs i=some d/\d∈xs:=by
 obtain⟨k,rfl⟩:=wS B
 have hk:k<xs.length:=w5
 exact⟨xs[k],XO (by simp[hk]),yw hk⟩
@[simp] theorem xO3{α:Type}{a:α}{l:List α}:atI (a::l) 0=some a:=XO (j:=0) rfl
@[simp] theorem xO2{α:Type}{a b:α}{l:List α}:atI (a::b::l) 1=some b:=XO (j:=1) rfl
@[simp] theorem xO1{α:Type}{a b c:α}{l:List α}:atI (a::b::c::l) 2=some c:=XO (j:=2) rfl
@[simp] theorem xt7{es p}:Xg (some (some (.own es))) p↔p es:=⟨fun⟨_,e,h⟩=>by cases e;exact h,λh=>⟨_,rfl,h⟩⟩
@[simp] theorem xm2{i B rho n P}:xg2 i B rho n P=Xg rho[i]? λes=>B rho n λd I=>∃j c,d=.int j/\atI es j=some c/\P c I:=rfl
@[simp] theorem zW6{i B I F rho n}:zH1 i B I F rho n=Xg rho[i]? λes=>B rho n λd U=>I rho U λd2 J=>∃j m,d2=.int j/\ixN es.length j=some m/\F.nx (rho.set i (some (.own (es.set m d)))) J:=rfl
@[simp] theorem xE2:ixN 3 0=some 0:=rfl
@[simp] theorem xE1:ixN 3 1=some 1:=rfl
@[simp] theorem xE0:ixN 3 2=some 2:=rfl
def VG(K:W.Frag):Sp:=λvs H Q _=>∃(a:Addr) (ns:List Int),vs=[.ref a]/\xn3 H/\SqL K H a (ns.map V.int)/\ns.length<=63/\∀H',Q (.bl true) H'
def yt(ns:List Int):D:=.fz (ns.map D.int)
theorem kC{K:W.Frag}{G:QqE}{Z:QqA}{H:Hp}:∀{ns:List Int},Reps K G Z H (ns.map D.int) (ns.map V.int)
 |[]=>.nil
 |n::ns=>.cons (Rep.ofS (d:=.int n) rfl) kC
theorem qH{K:W.Frag}{G:QqE}{Z:QqA}{H:Hp}:∀{ns:List Int}{xs:List V},Reps K G Z H (ns.map D.int) xs->xs=ns.map V.int
 |[],xs,h=>by unfold Reps at h;exact h
 |n::ns,xs,h=>by
  obtain⟨v,r,rfl,h1,h2⟩:=Reps.split h;rw[h1.int_inv,qH h2];rfl
section
variable {P:Program}{w:World}{K:W.Frag}{mg:QqM}{base:Heap}
def Fun.okLaw{x B:Str}{st:Stmt}{f:Addr}{fd:FuncData}{N:List Str}{p:Str}{k:Nat}{t:TSD}(F:Fun K x B st f fd)(S:FnScope N [p] (xr st))(n0:Nat)
  (body : ∀ (I : Value) (U : Around) (outer : List Env) (s : Shared) (H : Hp) (E : XK), Room k (U.deeper (envOfC B (xr st) s.heap.objs.size f I)) ->
   zc6 ⟨K,none,λ_=>False,H⟩ (zF3 CX0 P w K mg base N B (xr st) f I U outer s H E).nox (vZ st) t)
  (h1:∀(ns:List Int),ns.length<=63->t { nx:=λ_ _=>False,rt:=λd _=>d=.bl true } (wR N [yt ns]) n0) (J:n0<64:=by decide):FnOk P w K mg base CX0 (k+1) f fd [p] (VG K):=by
 exists (by
   refine F.ok S (λvs H Q E h=>?_) (λI U outer s H vs Q E hr h=>?_)
   ·obtain⟨a,ns,rfl,_⟩:=h;rfl
   ·obtain ⟨a, ns, rfl, hO, hS, hl, k⟩ := h;refine⟨_,body I U outer s H E hr,?_⟩
    have rs:Reps K none (λ_=>False) H [yt ns] [.ref a]:=by
     refine .cons ?_ .nil;unfold yt Rep;refine⟨a,ns.map V.int,rfl,?_,kC⟩
     rcases hS with (q |⟨o,q⟩) |q
     ·rcases hO a with z | ⟨o, xs, z⟩
      ·rw[z] at q;cases q
      ·rw[z] at q;cases q
     ·exact .inl ⟨λz=>z,o,q⟩
     ·exact .inr (.inr q)
    have Y:=UV (N:=N) (n:=n0) rs ⟨λb e=>(by cases e),λa c e=>(by rw[qz J] at e;cases e)⟩ (λb e=>by cases e) (λb e=>e.elim)
    have eh:UC n0 H=H:=funext λa=>ZY (qz J);rw[eh] at Y;refine⟨wR N [yt ns],n0,_,[],[],⟨[],Y⟩,h1 ns hl,?_⟩;refine⟨λ_ _ _ _ _ q=>q.elim,λd n v W aa H2 ⟨ab,I2⟩ q=>?_,λ_ _ _ _ _ q=>q.elim,λ_ _ _ _ _ q=>q.elim⟩;subst q;rw[I2.pop.2.bl_inv]
    exact k H2)
end
@[simp] theorem zS3{ns:List Int}:vd (yt ns)=true:=rfl
@[simp] theorem zI8{ns:List Int}{k:D->Prop}:zO9 [yt ns] k↔k (.int ns.length):=by unfold yt;simp
def QM{K:W.Frag}{G G':QqE}{Z Z':QqA}{H H':Hp}{ns:List Int}{v:V}(h:Rep K G Z H (yt ns) v)(J:∀a o u,¬ Z a->H a=some (.frz o u)->¬ Z' a/\H' a=some (.frz o u)):Rep K G' Z' H' (yt ns) v:=by
 unfold yt Rep at h ⊢;obtain⟨a,xs,rfl,sq,B⟩:=h
 refine⟨a,xs,rfl,?_,by rw[qH B];exact kC⟩
 rcases sq with ⟨I,o,e⟩ |sq
 ·obtain⟨z1,z2⟩:=J a o _ I e;exact .inl ⟨z1,o,z2⟩
 ·exact .inr sq
end L2
namespace L2
open PySem PySem.Spec PyProof.Rows PySem.SeqAt
mutual
def eqD:D->D->Bool
 |.non,.non=>true
 |.bl a,.bl b=>a == b
 |.bl a,.int i=>(if a then 1 else 0) == i
 |.int i,.bl a=>i == (if a then 1 else 0)
 |.int i,.int j=>i == j
 |.str x,.str y=>x == y
 |.tup xs,.tup B=>Wg xs B
 |.lst xs,.lst B=>Wg xs B
 |_,_=>false
def Wg:List D->List D->Bool
 |[],[]=>true
 |x::xs,y::B=>eqD x y&&Wg xs B
 |_,_=>false
end
mutual
def okE:D->Nat->Bool
 |.non,_=>true
 |.bl _,_=>true
 |.int _,_=>true
 |.str _,_=>true
 |.tup ds,k=>match k with
  |0=>false
  |k+1=>Vy ds k
 |.lst ds,k=>match k with
  |0=>false
  |k+1=>Vy ds k
 |_,_=>false
def Vy:List D->Nat->Bool
 |[],_=>true
 |d::ds,k=>okE d k&&Vy ds k
end
theorem Zz:∀{ds:List D}{k i:Nat}{d:D},Vy ds k=true->ds[i]?=some d->okE d k=true
 |[],k,i,d,_,e=>by simp at e
 |c::ds,k,0,d,h,e=>by
  simp at e;subst e;unfold Vy at h;rw[xM] at h;exact h.1
 |c::ds,k,i+1,d,h,e=>by
  unfold Vy at h;rw[xM] at h
  exact Zz (i:=i) h.2 (by simpa using e)
def eAt(xs B:List D)(j:Nat):Bool:=match xs[j]?,B[j]? with
 |some x,some y=>eqD x y
 |_,_=>true
def XS(n:Nat)(e:Nat->Bool):(List.range (n+1)).all e=(e 0&&(List.range n).all λj=>e (j+1)):=by
 rw[List.range_succ_eq_map,List.all_cons,List.all_map];rfl
theorem YD:∀(xs B:List D),((List.range (min xs.length B.length)).all (eAt xs B)&&xs.length == B.length)=Wg xs B
 |[],[]=>by unfold Wg;rfl
 |[],y::B=>by unfold Wg;simp
 |x::xs,[]=>by unfold Wg;simp
 |x::xs,y::B=>by
  have I:=YD xs B;unfold Wg;rw[<- I]
  have U:min (x::xs).length (y::B).length=min xs.length B.length+1:=by simp only[zA];lia
  rw[U,XS]
  have J:((x::xs).length == (y::B).length)=(xs.length == B.length):=by simp
  rw[J,Bool.and_assoc];rfl
def UG{xs B:List D}(h:xs.length=B.length):(List.range xs.length).all (eAt xs B)=Wg xs B:=by
 rw[<- YD,h];simp
def zz6{xs B:List D}(h:xs.length≠B.length):Wg xs B=false:=by
 rw[<- YD];simp[h]
theorem zn2:∀{xs B:List D},xs.length=B.length->(∀(j:Nat) (x y:D),xs[j]?=some x->B[j]?=some y->eqD x y=true)->Wg xs B=true
 |[],[],_,_=>by unfold Wg;rfl
 |[],y::B,h,_=>by simp at h
 |x::xs,[],h,_=>by simp at h
 |x::xs,y::B,h,q=>by
  unfold Wg
  rw[q 0 x y rfl rfl,zn2 (by simpa using h) λj a b ha I=>q (j+1) a b (by simpa using ha) (by simpa using I)]
  rfl
def Reps.get2{K:W.Frag}{G:QqE}{Z:QqA}{H:Hp}{ds:List D}{vs:List V}{i:Nat}{d:D}{v:V}(h:Reps K G Z H ds vs)(e:ds[i]?=some d)(e':vs[i]?=some v):Rep K G Z H d v:=by
 obtain⟨u,h1,h2⟩:=h.get e;rw[h1] at e';cases e';exact h2
section
variable {X:Cx}{pins:QqL}{σ:St}{H:Hp}{s:Shared}{G:QqE}{Z:QqA}
def JE(I:Inv X pins σ H s):∀(k:Nat) (d1 d2:D) (v:V),okE d1 k=true->okE d2 k=true->Rep X.K G Z H d1 v->Rep X.K G Z H d2 v->eqD d1 d2=true:=by
 intro k
 induction k with
 | zero =>
  intro d1 d2 v h1 h2 U J
  cases d1<;>cases d2<;>first
   |(simp[okE] at h1;done) |(simp[okE] at h2;done)
   |(have W:=U.toS rfl;have B:=J.toS rfl;rw[W] at B;simp[ofS] at B;done)
   |(have W:=U.toS rfl;have B:=J.toS rfl;rw[W] at B;simp[ofS] at B;simp[eqD,B])
 | succ k ih =>
  have seq:∀{ds es:List D}{xs:List V},Vy ds k=true->Vy es k=true->Reps X.K G Z H ds xs->Reps X.K G Z H es xs->Wg ds es=true:=λ{ds es xs} h1 h2 U J=>by
   refine zn2 (U.length.symm.trans J.length) λj x y hx hy=>?_;obtain⟨u,hu,ru⟩:=U.get hx;exact ih x y u (Zz h1 hx) (Zz h2 hy) ru (J.get2 hy hu)
  intro d1 d2 v h1 h2 U J
  cases d1<;>cases d2<;>try (first
   |(simp[okE] at h1;done) |(simp[okE] at h2;done)
   |(have W:=U.toS rfl;have B:=J.toS rfl;rw[W] at B;simp[ofS] at B;done)
   |(have W:=U.toS rfl;have B:=J.toS rfl;rw[W] at B;simp[ofS] at B;simp[eqD,B];done)
   |(obtain⟨a,xs,e,_⟩:=U.tup_inv;have B:=J.toS rfl;rw[e] at B;simp[ofS] at B;done)
   |(obtain⟨a,xs,e,_⟩:=U.lst_inv;have B:=J.toS rfl;rw[e] at B;simp[ofS] at B;done)
   |(obtain⟨a,xs,e,_⟩:=J.tup_inv;have B:=U.toS rfl;rw[e] at B;simp[ofS] at B;done)
   |(obtain⟨a,xs,e,_⟩:=J.lst_inv;have B:=U.toS rfl;rw[e] at B;simp[ofS] at B;done))
  ·rename_i ds es;obtain⟨a,xs,e,sq,Y⟩:=U.tup_inv;obtain⟨b,ys,e',sq',rs'⟩:=J.tup_inv;rw[e] at e';cases e';have:=I.tuple_inj sq.sq sq'.sq;subst this;unfold eqD
   exact seq (by simpa [okE] using h1) (by simpa [okE] using h2) Y rs'
  ·rename_i ds es;obtain⟨a,xs,e,sq,Y⟩:=U.tup_inv;obtain⟨b,ys,e',sq',rs'⟩:=J.lst_inv;rw[e] at e';cases e';obtain⟨its,rv,pl,hz⟩:=I.tuple sq.sq;obtain⟨its',rv',pl',hz'⟩:=I.list sq'.sq;exact absurd rfl (ne_of_list_tuple pl'.isList (show s.heap.IsTuple a its.toArray from pl))
  ·rename_i ds es;obtain⟨a,xs,e,sq,Y⟩:=U.lst_inv;obtain⟨b,ys,e',sq',rs'⟩:=J.tup_inv;rw[e] at e';cases e';obtain⟨its,rv,pl,hz⟩:=I.list sq.sq;obtain⟨its',rv',pl',hz'⟩:=I.tuple sq'.sq;exact absurd rfl (ne_of_list_tuple pl.isList (show s.heap.IsTuple a its'.toArray from pl'))
  ·rename_i ds es;obtain⟨a,xs,e,sq,Y⟩:=U.lst_inv;obtain⟨b,ys,e',sq',rs'⟩:=J.lst_inv;rw[e] at e';cases e';have:=I.list_inj sq.sq sq'.sq;subst this;unfold eqD
   exact seq (by simpa [okE] using h1) (by simpa [okE] using h2) Y rs'
def rcC{A:Around}{s:Shared}{y x:Value}{b c:Bool}(h:RcAt A s y x b)(e:b=c):RcAt A s y x c:=e ▸ h
def rnC{A:Around}{s:Shared}{y x:Value}{b c:Bool}(h:RcNeAt A s y x b)(e:b=c):RcNeAt A s y x c:=e ▸ h
def eqC{A:Around}{s:Shared}{y x:Value}{b c:Bool}(h:EqAt A s y x b)(e:b=c):EqAt A s y x c:=e ▸ h
def E3(A:Around)(s:Shared)(I B:Value)(b:Bool):Prop:=EqAt A s I B b/\RcAt A s I B b/\RcNeAt A s I B (!b)
def E3.cast{A:Around}{s:Shared}{y x:Value}{b c:Bool}(h:E3 A s y x b)(e:b=c):E3 A s y x c:=e ▸ h
def zq7:D->D->Bool
 |.tup _,.tup _=>true
 |.lst _,.lst _=>true
 |_,_=>false
def ShE(s:Shared):D->Value->Prop
 |.non,u=>u=.none
 |.bl x,u=>u=.bool x
 |.int x,u=>∃t,u=.int x t
 |.str x,u=>∃t,u=.str x t
 |.tup _,u=>∃a its,u=.ref a/\s.heap.IsTuple a its
 |.lst _,u=>∃a its,u=.ref a/\s.heap.IsList a its
 |_,_=>False
def shE(I:Inv X pins σ H s){k:Nat}{d:D}{v:V}{u:Value}(h:okE d k=true)(r:Rep X.K G Z H d v)(q:RelV v u):ShE s d u:=by
 cases d with
 |non=>have:=r.toS rfl;subst this;exact q
 |bl x=>have:=r.toS rfl;subst this;exact q
 |int x=>have:=r.toS rfl;subst this;exact q
 |str x=>have:=r.toS rfl;subst this;exact q
 |tup x=>
  obtain⟨a,xs,w,sq,_⟩:=r.tup_inv;subst w;obtain⟨its,_,pl,_⟩:=I.tuple sq.sq;exact⟨a,its.toArray,q,pl⟩
 |lst x=>
  obtain⟨a,xs,w,sq,_⟩:=r.lst_inv;subst w;obtain⟨its,_,pl,_⟩:=I.list sq.sq;exact⟨a,its.toArray,q,pl.isList⟩
 |_=>simp[okE] at h
section
local macro_rules
 | `(tactic|nomatch $n:ident,$t,*)=>do
  let f:=fun(p:Lean.Name)=>Lean.mkIdent (p++n.getId)
  let t:=t.getElems
  `(tactic|exact E3.cast ⟨$(f `EqAt) $t*,$(f `RcAt) $t*,$(f `RcNeAt) $t*⟩ (by unfold eqD;rfl))
def zE3(I:Inv X pins σ H s){k:Nat}{d1 d2:D}{v1 v2:V}{u1 u2:Value}{A:Around}(h1:okE d1 k=true)(h2:okE d2 k=true)(r1:Rep X.K G Z H d1 v1)(r2:Rep X.K G Z H d2 v2)(q1:RelV v1 u1)(q2:RelV v2 u2)
  (J:A.units<cLine) (hb:zq7 d1 d2=false):E3 A s u1 u2 (eqD d1 d2):=by
 have W:=shE I h1 r1 q1;have B:=shE I h2 r2 q2;clear h1 h2 r1 r2 q1 q2
 cases d1 with
 |non=>
  cases W
  cases d2 with
  |non=>cases B;exact E3.cast ⟨EqAt.same _,RcAt.none_none,RcNeAt.none_none⟩ (by unfold eqD;rfl)
  |bl=>cases B;nomatch none_bool,_
  |int=>obtain⟨_,rfl⟩:=B;nomatch none_int,_,_
  |str=>obtain⟨_,rfl⟩:=B;nomatch none_str,_,_
  |tup=>obtain⟨_,_,rfl,L⟩:=B;nomatch none_tuple,L,J
  |lst=>obtain⟨_,_,rfl,L⟩:=B;nomatch none_list,L,J
  |_=>exact B.elim
 |bl Y=>
  cases W
  cases d2 with
  |non=>cases B;nomatch bool_none,_
  |bl=>cases B;nomatch bool_bool,_,_
  |int=>obtain⟨_,rfl⟩:=B;nomatch bool_int,_,_,_
  |str=>obtain⟨_,rfl⟩:=B;nomatch bool_str,_,_,_
  |tup=>obtain⟨_,_,rfl,L⟩:=B;nomatch bool_tuple,_,L,J
  |lst=>obtain⟨_,_,rfl,L⟩:=B;nomatch bool_list,_,L,J
  |_=>exact B.elim
 |int Y=>
  obtain⟨t1,rfl⟩:=W
  cases d2 with
  |non=>cases B;nomatch int_none,_,_
  |bl=>cases B;nomatch int_bool,_,_,_
  |int=>obtain⟨_,rfl⟩:=B;nomatch int_int,_,_,_,_
  |str=>obtain⟨_,rfl⟩:=B;nomatch int_str,_,_,_,_
  |tup=>obtain⟨_,_,rfl,L⟩:=B;nomatch int_tuple,_,_,L,J
  |lst=>obtain⟨_,_,rfl,L⟩:=B;nomatch int_list,_,_,L,J
  |_=>exact B.elim
 |str Y=>
  obtain⟨t1,rfl⟩:=W
  cases d2 with
  |non=>cases B;nomatch str_none,_,_
  |bl=>cases B;nomatch str_bool,_,_,_
  |int=>obtain⟨_,rfl⟩:=B;nomatch str_int,_,_,_,_
  |str=>obtain⟨_,rfl⟩:=B;nomatch str_str,_,_,_,_
  |tup=>obtain⟨_,_,rfl,L⟩:=B;nomatch str_tuple,_,_,L,J
  |lst=>obtain⟨_,_,rfl,L⟩:=B;nomatch str_list,_,_,L,J
  |_=>exact B.elim
 |tup Y=>
  obtain⟨a1,i1,rfl,U⟩:=W
  cases d2 with
  |non=>cases B;nomatch tuple_none,U,J
  |bl=>cases B;nomatch tuple_bool,_,U,J
  |int=>obtain⟨_,rfl⟩:=B;nomatch tuple_int,_,_,U,J
  |str=>obtain⟨_,rfl⟩:=B;nomatch tuple_str,_,_,U,J
  |tup=>cases hb
  |lst=>obtain⟨_,_,rfl,L⟩:=B;nomatch tuple_list,U,L,J
  |_=>exact B.elim
 |lst Y=>
  obtain⟨a1,i1,rfl,U⟩:=W
  cases d2 with
  |non=>cases B;nomatch list_none,U,J
  |bl=>cases B;nomatch list_bool,_,U,J
  |int=>obtain⟨_,rfl⟩:=B;nomatch list_int,_,_,U,J
  |str=>obtain⟨_,rfl⟩:=B;nomatch list_str,_,_,U,J
  |tup=>obtain⟨_,_,rfl,L⟩:=B;nomatch list_tuple,U,L,J
  |lst=>cases hb
  |_=>exact B.elim
 |_=>exact W.elim
end
def zn1(I:Inv X pins σ H s):∀(k:Nat) (d1 d2:D) (v1 v2:V) (u1 Y:Value) (A:Around),okE d1 k=true->okE d2 k=true->Rep X.K G Z H d1 v1->Rep X.K G Z H d2 v2->RelV v1 u1->RelV v2 Y ->
  A.units+k<cLine->E3 A s u1 Y (eqD d1 d2):=by
 intro k
 induction k with
 |zero=>
  intro d1 d2 v1 v2 u1 Y A h1 h2 U J q1 q2 hu
  refine zE3 I h1 h2 U J q1 q2 w5 ?_
  cases d1<;>first |rfl |(simp[okE] at h1;done)
 | succ k ih =>
  intro d1 d2 v1 v2 u1 Y A h1 h2 U J q1 q2 hu
  by_cases hb:zq7 d1 d2=false
  ·exact zE3 I h1 h2 U J q1 q2 w5 hb
  have items:∀{ds es:List D}{xs ys:List V}{its its':QqW},Vy ds k=true->Vy es k=true->Reps X.K G Z H ds xs->Reps X.K G Z H es ys->Vals xs its->Vals ys its' ->
    ∀(j:Nat) (l1:j<its.toArray.size) (l2:j<its'.toArray.size),EqAt A.in1 s its.toArray[j] its'.toArray[j] (eAt ds es j):=λ{ds es xs ys its its'} h1 h2 U J rv rv' j l1 l2=>by
   have l1':j<its.length:=by simpa using l1
   have l2':j<its'.length:=by simpa using l2
   have a1:j<ds.length:=by rw[<- U.length,rv.length];exact l1'
   have a2:j<es.length:=by rw[<- J.length,rv'.length];exact l2'
   have g1:ds[j]?=some ds[j]:=zn a1;have g2:es[j]?=some es[j]:=zn a2;obtain⟨w1,e1,p1⟩:=U.get g1;obtain⟨w2,e2,p2⟩:=J.get g2;obtain⟨z1,f1,t1⟩:=rv.get e1;obtain⟨z2,f2,t2⟩:=rv'.get e2
   have m1:its.toArray[j]=z1:=by
    have:its[j]?=some its[j]:=zn l1';rw[f1] at this
    simpa using (zN this).symm
   have m2:its'.toArray[j]=z2:=by
    have:its'[j]?=some its'[j]:=zn l2';rw[f2] at this
    simpa using (zN this).symm
   have e3:eAt ds es j=eqD ds[j] es[j]:=by unfold eAt;rw[g1,g2]
   rw[m1,m2,e3]
   exact(ih _ _ _ _ _ _ A.in1 (Zz h1 g1) (Zz h2 g2) p1 p2 t1 t2 (by show A.units+1+k<cLine;lia)).1
  cases d1 with
  | tup ds =>
   cases d2 with
   | tup es =>
    have s1:=U;have s2:=J;obtain⟨a,xs,e,sq,rs⟩:=U.tup_inv;obtain⟨b,ys,e',sq',rs'⟩:=J.tup_inv;subst e e';have c1:u1=.ref a:=q1;have c2:Y=.ref b:=q2;subst c1 c2;obtain⟨its,rv,pl,hz⟩:=I.tuple sq.sq;obtain⟨its',rv',pl',hz'⟩:=I.tuple sq'.sq
    have it:=items (by simpa [okE] using h1) (by simpa [okE] using h2) rs rs' rv rv'
    have n1:its.toArray.size=ds.length:=by rw[<- rs.length,rv.length];simp
    have n2:its'.toArray.size=es.length:=by rw[<- rs'.length,rv'.length];simp
    have W:((List.range (min its.toArray.size its'.toArray.size)).all (eAt ds es)&&its.toArray.size == its'.toArray.size)=eqD (.tup ds) (.tup es):=by
     rw[n1,n2,YD];unfold eqD;rfl
    have R:=rcC (RcAt.tuples (A:=A) (show s.heap.IsTuple a its.toArray from pl) (show s.heap.IsTuple b its'.toArray from pl') w5 it) W
    have N:=rnC (RcNeAt.tuples (A:=A) (show s.heap.IsTuple a its.toArray from pl) (show s.heap.IsTuple b its'.toArray from pl') w5 it) (congrArg (!·) W)
    refine⟨?_,R,N⟩
    by_cases B:a=b
    ·subst B;exact eqC (EqAt.same _) (JE I (k+1) _ _ _ h1 h2 s1 s2).symm
    ·exact .of_refs B R
   |_=>exact absurd rfl hb
  | lst ds =>
   cases d2 with
   | lst es =>
    have s1:=U;have s2:=J;obtain⟨a,xs,e,sq,rs⟩:=U.lst_inv;obtain⟨b,ys,e',sq',rs'⟩:=J.lst_inv;subst e e';have c1:u1=.ref a:=q1;have c2:Y=.ref b:=q2;subst c1 c2;obtain⟨its,rv,pl,hz⟩:=I.list sq.sq;obtain⟨its',rv',pl',hz'⟩:=I.list sq'.sq
    have it:=items (by simpa [okE] using h1) (by simpa [okE] using h2) rs rs' rv rv'
    have n1:its.toArray.size=ds.length:=by rw[<- rs.length,rv.length];simp
    have n2:its'.toArray.size=es.length:=by rw[<- rs'.length,rv'.length];simp
    have R:RcAt A s (.ref a) (.ref b) (eqD (.lst ds) (.lst es))/\RcNeAt A s (.ref a) (.ref b) (!eqD (.lst ds) (.lst es)):=by
     by_cases hl:ds.length=es.length
     ·have W : (List.range its.toArray.size).all (eAt ds es) = eqD (.lst ds) (.lst es) := by rw [n1, UG hl]; unfold eqD; rfl
      exact⟨rcC (RcAt.lists (A:=A) pl.isList pl'.isList (by rw[n1,n2,hl]) w5 it) W,rnC (RcNeAt.lists (A:=A) pl.isList pl'.isList (by rw[n1,n2,hl]) w5 it) (congrArg (!·) W)⟩
     ·have W : false = eqD (.lst ds) (.lst es) := by unfold eqD; exact (zz6 hl).symm
      have hs:(its.toArray.size != its'.toArray.size)=true:=by rw[n1,n2];simpa using hl
      exact⟨rcC (RcAt.lists_lengths (A:=A) pl.isList pl'.isList hs w5) W,rnC (RcNeAt.lists_lengths (A:=A) pl.isList pl'.isList hs w5) (congrArg (!·) W)⟩
    refine⟨?_,R⟩
    by_cases B:a=b
    ·subst B;exact eqC (EqAt.same _) (JE I (k+1) _ _ _ h1 h2 s1 s2).symm
    ·exact .of_refs B R.1
   |_=>exact absurd rfl hb
  |_=>exact absurd rfl hb
def EqV(X:Cx)(H:Hp)(x y:V)(b:Bool):Prop:=∀pins s σ v u,Inv X pins σ H s->RelV x v->RelV y u->∀A:Around,A.units+60<cLine->E3 A s v u b
def xC6(X:Cx):R2:=λx y H Q=>∃b,EqV X H x y b/\Q (.bl b) H
def xC5(X:Cx):R2:=λx y H Q=>∃b,EqV X H x y b/\Q (.bl (!b)) H
def zD4{n:Nat}(U:Room n X.A):OpR X (compareOp .Eq) (xC6 X):=by
 intro pins s σ H x y v u Q I J B h;obtain⟨b,e,q⟩:=h
 exact(e pins s σ v u I J B X.A (by have:=U.units;lia)).2.1 X.prog X.w X.xe _ ⟨.bl b,H,I,rfl,q⟩
def xa7{n:Nat}(U:Room n X.A):OpR X (compareOp .NotEq) (xC5 X):=by
 intro pins s σ H x y v u Q I J B h;obtain⟨b,e,q⟩:=h
 exact(e pins s σ v u I J B X.A (by have:=U.units;lia)).2.2 X.prog X.w X.xe _ ⟨.bl (!b),H,I,rfl,q⟩
def zW2:RD2:=λd1 d2 k=>okE d1 20=true/\okE d2 20=true/\k (.bl (eqD d1 d2))
def zW1:RD2:=λd1 d2 k=>okE d1 20=true/\okE d2 20=true/\k (.bl (!eqD d1 d2))
def zB9{A:AC}(hK:X.K=A.K):qA A (xC6 X) zW2:=by
 rintro os n rho sg H ds vs d1 d2 v1 Y k Q I ⟨h1,h2,q⟩ hQ;obtain⟨I1,U⟩:=I.pop;obtain⟨I2,W⟩:=I1.pop;rw[<- hK] at W U
 exact⟨eqD d1 d2,λpins s σ v u J rx ry B hu=>zn1 J 20 d1 d2 v1 Y v u B h1 h2 W U rx ry w5,hQ _ H _ ⟨os,I2.push (Rep.ofS rfl)⟩ q⟩
def zV4{A:AC}(hK:X.K=A.K):qA A (xC5 X) zW1:=by
 rintro os n rho sg H ds vs d1 d2 v1 Y k Q I ⟨h1,h2,q⟩ hQ;obtain⟨I1,U⟩:=I.pop;obtain⟨I2,W⟩:=I1.pop;rw[<- hK] at W U
 exact⟨eqD d1 d2,λpins s σ v u J rx ry B hu=>zn1 J 20 d1 d2 v1 Y v u B h1 h2 W U rx ry w5,hQ _ H _ ⟨os,I2.push (Rep.ofS rfl)⟩ q⟩
@[simp] theorem xt4{d1 d2 k}:zW2 d1 d2 k=(okE d1 20=true/\okE d2 20=true/\k (.bl (eqD d1 d2))):=rfl
@[simp] theorem xt3{d1 d2 k}:zW1 d1 d2 k=(okE d1 20=true/\okE d2 20=true/\k (.bl (!eqD d1 d2))):=rfl
end
end L2
namespace L2
section
variable {A:AC}{X:Cx}{e a b:Expr}{es:List Expr}{te ta tb:TD}{t1:TAD}{pos p:Pos}
def KK(d:D)(p:List D->Prop):Prop:=∃fs,d=.lst fs/\p fs
@[simp] theorem xu2{fs p}:KK (.lst fs) p↔p fs:=⟨fun⟨_,e,h⟩=>by cases e;exact h,λh=>⟨_,rfl,h⟩⟩
def xo6(i:Nat)(te:TD):TSD:=λF rho n=>i<rho.length/\te rho n λd B=>KK d λfs=>F.nx (rho.set i (some (.own fs))) B
@[simp] theorem xr5{i te F rho n}:xo6 i te F rho n=(i<rho.length/\te rho n λd B=>KK d λfs=>F.nx (rho.set i (some (.own fs))) B):=rfl
def zQ3(i:Nat):TD:=λrho n P=>Xg rho[i]? λes=>P (.int es.length) n
@[simp] theorem zX3{i rho n P}:zQ3 i rho n P=Xg rho[i]? λes=>P (.int es.length) n:=rfl
def FnOk.botK{P:Program}{w:World}{K:W.Frag}{mg:QqM}{base:Heap}{f:Addr}{fd:FuncData}{ps:List Str}{k L:Nat}{t:TF}(I:∀ds n Q,¬ t ds n Q):FnOk P w K mg base CX0 L f fd ps (spD K k t):=by
 refine⟨λvs H Q E h=>?_,λA outer s H args us vs Q E _ _ _ _ h=>?_⟩
 ·obtain⟨G,Z,n,R,ds,U,J,B,gz,z0,h,_⟩:=h;exact(I _ _ _ h).elim
 ·obtain⟨G,Z,n,R,ds,U,J,B,gz,z0,h,_⟩:=h;exact(I _ _ _ h).elim
def FnOk.bot{P:Program}{w:World}{K:W.Frag}{mg:QqM}{base:Heap}{f:Addr}{fd:FuncData}{ps:List Str}{k:Nat}{t:TF}(I:∀ds n Q,¬ t ds n Q):FnOk P w K mg base CX0 0 f fd ps (spD K k t):=by
 refine⟨λvs H Q E h=>?_,λA outer s H args us vs Q E _ _ _ _ h=>?_⟩
 ·obtain⟨G,Z,n,R,ds,U,J,B,gz,z0,h,_⟩:=h;exact(I _ _ _ h).elim
 ·obtain⟨G,Z,n,R,ds,U,J,B,gz,z0,h,_⟩:=h;exact(I _ _ _ h).elim
end
def yK{own:Nat}{g:TGD}{B:TD}{rho:Rho}{n:Nat}{P:D->Nat->Prop}{α:Type}(enc:α->D)(f:α->D)(xs:List α)
  (I:xs.length<=sizeLine) (he:∀x∈xs,∀Q,Q (f x) n->g (enc x) (replicate own none++rho) λrho'=>rho'.drop own=rho/\B rho' n Q) (J:P (.lst (xs.map f)) n):Qv own g xh4 B rho P (xs.map enc) n:=
 zA6 (it:=λ_ n R=>R (xs.map enc) n) (rho:=rho) enc f xs (λR h=>h) I he J
def zg0{d:D}{T:String}{k:D->Prop}(B:T = "bool" \/ T = "int" \/ T = "str" \/ T = "tuple" \/ T = "list"):zP0 [d,.ty T] k↔(qY d=true/\k (.bl (zl8 T d))):=
 ⟨fun⟨d',T',e,_,h1,h2⟩=>by cases e;exact⟨h1,h2⟩,λh=>⟨d,T,rfl,B,h.1,h.2⟩⟩
@[simp] theorem zX1{d:D}{k:D->Prop}:zP0 [d,.ty "bool"] k↔(qY d=true/\k (.bl (zl8 "bool" d))):=zg0 w6
@[simp] theorem xl4{d:D}{k:D->Prop}:zP0 [d,.ty "int"] k↔(qY d=true/\k (.bl (zl8 "int" d))):=zg0 w6
@[simp] theorem xl3{d:D}{k:D->Prop}:zP0 [d,.ty "str"] k↔(qY d=true/\k (.bl (zl8 "str" d))):=zg0 w6
@[simp] theorem zS4{d:D}{k:D->Prop}:zP0 [d,.ty "tuple"] k↔(qY d=true/\k (.bl (zl8 "tuple" d))):=zg0 w6
@[simp] theorem zX0{d:D}{k:D->Prop}:zP0 [d,.ty "list"] k↔(qY d=true/\k (.bl (zl8 "list" d))):=zg0 w6
def zipD_self(ds:List D):Jr ds ds=ds.map λx=>.tup [x,x]:=by
 unfold Jr;rw[List.zipWith_self]
@[simp] theorem xt0{i j:Str}{k}:zI2 (.str i) (.str j) k↔k (.bl (decide (i=j))):=by
 have e:decide (ofS (.str i)=ofS (.str j))=decide (i=j):=by simp[ofS]
 unfold zI2;rw[e];exact⟨λh=>h.2.2.2,λh=>⟨rfl,rfl,rfl,h⟩⟩
theorem JT:∀{ds:List D}{k:Nat},Vy ds k=true↔∀d∈ds,okE d k=true
 |[],k=>by unfold Vy;simp
 |c::ds,k=>by
  unfold Vy;rw[xM,JT];simp
def zN3{ds:List D}{k:Nat}:okE (.tup ds) (k+1)=true↔∀d∈ds,okE d k=true:=by
 have e:okE (.tup ds) (k+1)=Vy ds k:=by rw[okE]
 rw[e,JT]
def zS7(es:List D)(k:List D->Prop):Prop:=∃d1 d2 J xs I B,es=[d1,d2]/\YM d1=some (J,xs)/\YM d2=some (I,B)/\k (Jr xs B)
@[simp] theorem xv7{t:TAD}{rho n P}:xe5 t rho n P↔t rho n λes B=>zS7 es λl=>P l B:=Iff.rfl
def JI{d1 d2:D}{W U xs B}{k:List D->Prop}(h1:YM d1=some (W,xs))(h2:YM d2=some (U,B)):zS7 [d1,d2] k↔k (Jr xs B):=by
 constructor
 ·rintro⟨_,_,_,_,_,_,e,J,I,h⟩;cases e;rw[h1] at J;rw[h2] at I;cases J;cases I;exact h
 ·intro h;exact⟨_,_,_,_,_,_,rfl,h1,h2,h⟩
@[simp] theorem xk5{xs B}{k:List D->Prop}:zS7 [.tup xs,.tup B] k↔k (Jr xs B):=JI rfl rfl
@[simp] theorem xk6{xs B}{k:List D->Prop}:zS7 [.tup xs,.lst B] k↔k (Jr xs B):=JI rfl rfl
@[simp] theorem xk7{xs B}{k:List D->Prop}:zS7 [.lst xs,.tup B] k↔k (Jr xs B):=JI rfl rfl
@[simp] theorem xk8{xs B}{k:List D->Prop}:zS7 [.lst xs,.lst B] k↔k (Jr xs B):=JI rfl rfl
theorem XM(f:Nat->Int)(B:Nat->Nat->Bool)(h:∀i j,B i j=true↔f j<f i):∀k,argBest B k<=k/\∀i,i<=k->f i<=f (argBest B k)
 |0=>⟨zk _,λi hi=>by cases Nat.le_zero.mp hi;exact Int.le_refl _⟩
 | k + 1 => by
  obtain⟨h1,h2⟩:=XM f B h k;rw[argBest.eq_2]
  by_cases I:B (k+1) (argBest B k)=true
  ·rw [if_pos I];have hb':=(h _ _).mp I;refine⟨zk _,λi hi=>?_⟩
   by_cases e:i=k+1
   ·subst e;exact Int.le_refl _
   ·have:=h2 i w5;lia
  ·rw [if_neg I];have hb':¬ f (argBest B k)<f (k+1):=λz=>I ((h _ _).mpr z)
   refine⟨w5,λi hi=>?_⟩
   by_cases e:i=k+1
   ·subst e;lia
   ·exact h2 i w5
def Vals.ints_at{ns:List Int}{us:QqW}(h:Vals (ns.map V.int) us){i:Nat}{v:Value}(e:us[i]?=some v):i<ns.length/\∃t,v=.int (ns[i]?.getD 0) t:=by
 have I:us.length=ns.length:=by have:=h.length;simpa using this.symm
 have hi:i<ns.length:=by rw[<- I];exact(zT.mp e).1
 refine⟨hi,?_⟩
 have J:(ns.map V.int)[i]?=some (.int ns[i]):=by rw[zI,zn hi];rfl
 obtain⟨u,B,r⟩:=h.get J;rw[e] at B;cases B;obtain⟨t,rfl⟩:=r
 exact⟨t,by rw[zn hi];rfl⟩
section
variable {X:Cx}
def zq1(hc:X.calm=true):qC X (.builtin "max") (λxs H Q=>∃(p:Addr) (ns:List Int),xs=[.ref p]/\SqL X.K H p (ns.map V.int)/\0<ns.length/\∀M,M∈ns->(∀a∈ns,a<=M)->Q (.int M) H):=by
 intro Y s σ H xs us Q I r h;obtain⟨p,ns,rfl,hq,hn,q⟩:=h
 cases r with
 | cons r rr =>
  cases rr;cases r;obtain⟨its,rv,pl,_⟩:=I.list hq;have U:=pl.isList
  have J:p<s.heap.objs.size:=by obtain⟨_,e,_⟩:=U;exact zy e
  have hsz:its.length=ns.length:=by have:=rv.length;simpa using this.symm
  refine call_max_walk (yQ U ⟨s.heap.objs.size,[s.heap.objs.size,p],[s.heap.objs.size],its.toArray.size,_,_,λi j=>decide (ns[j]?.getD 0<ns[i]?.getD 0),rfl,
   Walks.list (A:=X.A.in1) (I.ok.hd hc) _ p (zJ J) _,⟨⟨_,zu _ rfl,rfl,rfl⟩,U.push _⟩,λb hb=>?_,?_,λi j vi vj s' Q' E' hi hj hQ=>?_,λv h' tk hP hk=>?_⟩)
  ·simp only [zg, xk, or_false] at hb
   rcases hb with rfl |rfl
   ·simp[Heap.push]
   ·exact yE J (by simp[Heap.push])
  ·rw[zE,hsz];exact hn
  ·have hi' : its[i]? = some vi := by simpa using hi
   have hj':its[j]?=some vj:=by simpa using hj
   obtain⟨_,ti,rfl⟩:=rv.ints_at hi';obtain⟨_,tj,rfl⟩:=rv.ints_at hj';exact(PyProof.Rows.gt_int hQ:wpAny (model X.prog X.w) X.A.in1 (compareOp .Gt _ _) Q' E' s')
  ·have hP' : its[argBest (λi j => decide (ns[j]?.getD 0 < ns[i]?.getD 0)) (its.toArray.size - 1)]? = some v := by simpa using hP
   obtain⟨B,t,rfl⟩:=rv.ints_at hP'
   obtain⟨aa,W⟩:=XM (λi=>ns[i]?.getD 0) (λi j=>decide (ns[j]?.getD 0<ns[i]?.getD 0)) (λi j=>by simp) (its.toArray.size-1)
   generalize argBest (λi j=>decide (ns[j]?.getD 0<ns[i]?.getD 0)) (its.toArray.size-1)=m at *;refine⟨.int (ns[m]?.getD 0),H,I.kept (zi5 hk),⟨_,rfl⟩,q _ ?_ λa ha=>?_⟩
   ·rw[zn B];exact yw B
   ·obtain ⟨i, hi, rfl⟩ := List.mem_iff_getElem.mp ha
    have:=W i (by rw[zE,hsz];lia)
    rw[zn hi] at this;exact this
def zq0(hc:X.calm=true):qC X (.builtin "min") (λxs H Q=>∃(p:Addr) (ns:List Int),xs=[.ref p]/\SqL X.K H p (ns.map V.int)/\0<ns.length/\∀M,M∈ns->(∀a∈ns,M<=a)->Q (.int M) H):=by
 intro Y s σ H xs us Q I r h;obtain⟨p,ns,rfl,hq,hn,q⟩:=h
 cases r with
 | cons r rr =>
  cases rr;cases r;obtain⟨its,rv,pl,_⟩:=I.list hq;have U:=pl.isList
  have J:p<s.heap.objs.size:=by obtain⟨_,e,_⟩:=U;exact zy e
  have hsz:its.length=ns.length:=by have:=rv.length;simpa using this.symm
  refine call_min_walk (yQ U ⟨s.heap.objs.size,[s.heap.objs.size,p],[s.heap.objs.size],its.toArray.size,_,_,λi j=>decide (ns[i]?.getD 0<ns[j]?.getD 0),rfl,
   Walks.list (A:=X.A.in1) (I.ok.hd hc) _ p (zJ J) _,⟨⟨_,zu _ rfl,rfl,rfl⟩,U.push _⟩,λb hb=>?_,?_,λi j vi vj s' Q' E' hi hj hQ=>?_,λv h' tk hP hk=>?_⟩)
  ·simp only [zg, xk, or_false] at hb
   rcases hb with rfl |rfl
   ·simp[Heap.push]
   ·exact yE J (by simp[Heap.push])
  ·rw[zE,hsz];exact hn
  ·have hi' : its[i]? = some vi := by simpa using hi
   have hj':its[j]?=some vj:=by simpa using hj
   obtain⟨_,ti,rfl⟩:=rv.ints_at hi';obtain⟨_,tj,rfl⟩:=rv.ints_at hj';exact(PyProof.Rows.lt_int hQ:wpAny (model X.prog X.w) X.A.in1 (compareOp .Lt _ _) Q' E' s')
  ·have hP' : its[argBest (λi j => decide (ns[i]?.getD 0 < ns[j]?.getD 0)) (its.toArray.size - 1)]? = some v := by simpa using hP
   obtain⟨B,t,rfl⟩:=rv.ints_at hP'
   obtain⟨aa,W⟩:=XM (λi=>- ns[i]?.getD 0) (λi j=>decide (ns[i]?.getD 0<ns[j]?.getD 0)) (λi j=>by simp) (its.toArray.size-1)
   generalize argBest (λi j=>decide (ns[i]?.getD 0<ns[j]?.getD 0)) (its.toArray.size-1)=m at *;refine⟨.int (ns[m]?.getD 0),H,I.kept (zi5 hk),⟨_,rfl⟩,q _ ?_ λa ha=>?_⟩
   ·rw[zn B];exact yw B
   ·obtain ⟨i, hi, rfl⟩ := List.mem_iff_getElem.mp ha
    have:=W i (by rw[zE,hsz];lia)
    rw[zn hi] at this;have e:(some ns[i]).getD 0=ns[i]:=rfl;rw[e] at this;lia
end
section
variable {A:AC}
theorem kq{K:W.Frag}{G:QqE}{Z:QqA}{H:Hp}:∀{bs:List Int}{ws:List V},Reps K G Z H (bs.map D.int) ws->ws=bs.map V.int
 |[],ws,h=>h.nil_inv
 |b::bs,ws,h=>by
  obtain⟨v,r,rfl,q,t⟩:=h.split;rw[q.int_inv,kq t];rfl
def xd3:List D->(D->Prop)->Prop:=λes k=>∃i j,es=[.int i,.int j]/\k (.int (if j > i then j else i))
def xd1:List D->(D->Prop)->Prop:=λes k=>∃i j,es=[.int i,.int j]/\k (.int (if j<i then j else i))
def xd4:List D->(D->Prop)->Prop:=λes k=>∃ns:List Int,es=[.lst (ns.map D.int)]/\0<ns.length/\∀M,M∈ns->(∀a∈ns,a<=M)->k (.int M)
def xd2:List D->(D->Prop)->Prop:=λes k=>∃ns:List Int,es=[.lst (ns.map D.int)]/\0<ns.length/\∀M,M∈ns->(∀a∈ns,M<=a)->k (.int M)
@[simp] theorem xu9{i j k}:xd3 [.int i,.int j] k↔k (.int (if j > i then j else i)):=⟨fun⟨_,_,e,h⟩=>by cases e;exact h,λh=>⟨_,_,rfl,h⟩⟩
@[simp] theorem xu8{i j k}:xd1 [.int i,.int j] k↔k (.int (if j<i then j else i)):=⟨fun⟨_,_,e,h⟩=>by cases e;exact h,λh=>⟨_,_,rfl,h⟩⟩
def zp1:vI A (λxs H Q=>∃i j,xs=[.int i,.int j]/\Q (.int (if j > i then j else i)) H) xd3:=by
 rintro os n rho sg H ds vs es ws k Q I B ⟨i,j,rfl,q⟩ J;obtain⟨v,v',rfl,r,r'⟩:=Ks B
 exact⟨i,j,by rw[r.int_inv,r'.int_inv],J _ H _ ⟨os,I.push (Rep.ofS rfl)⟩ q⟩
def zQ4:vI A (λxs H Q=>∃i j,xs=[.int i,.int j]/\Q (.int (if j<i then j else i)) H) xd1:=by
 rintro os n rho sg H ds vs es ws k Q I B ⟨i,j,rfl,q⟩ J;obtain⟨v,v',rfl,r,r'⟩:=Ks B
 exact⟨i,j,by rw[r.int_inv,r'.int_inv],J _ H _ ⟨os,I.push (Rep.ofS rfl)⟩ q⟩
def zQ6:vI A (λxs H Q=>∃(p:Addr) (ns:List Int),xs=[.ref p]/\SqL A.K H p (ns.map V.int)/\0<ns.length/\∀M,M∈ns->(∀a∈ns,a<=M)->Q (.int M) H) xd4:=by
 rintro os n rho sg H ds vs es ws k Q I B ⟨ns,rfl,hn,q⟩ U;obtain⟨v,rfl,r⟩:=qb B;obtain⟨a,xs,rfl,sq,J⟩:=r.lst_inv;have e:=kq J;subst e;exact⟨a,ns,rfl,sq.sq,hn,λM h1 h2=>U _ H _ ⟨os,I.push (Rep.ofS rfl)⟩ (q M h1 h2)⟩
def zQ5:vI A (λxs H Q=>∃(p:Addr) (ns:List Int),xs=[.ref p]/\SqL A.K H p (ns.map V.int)/\0<ns.length/\∀M,M∈ns->(∀a∈ns,M<=a)->Q (.int M) H) xd2:=by
 rintro os n rho sg H ds vs es ws k Q I B ⟨ns,rfl,hn,q⟩ U;obtain⟨v,rfl,r⟩:=qb B;obtain⟨a,xs,rfl,sq,J⟩:=r.lst_inv;have e:=kq J;subst e;exact⟨a,ns,rfl,sq.sq,hn,λM h1 h2=>U _ H _ ⟨os,I.push (Rep.ofS rfl)⟩ (q M h1 h2)⟩
def zq4:bootBuiltins "max" = some (.builtin "max"):=x0
def zF5:bootBuiltins "min" = some (.builtin "min"):=x0
end
def qS{own:Nat}{g:TGD}{J:TBD}{U:TD}{rho:Rho}{n:Nat}{P:D->Nat->Prop}{α:Type}(enc:α->D)(keep:α->Bool)(f:α->D)(xs:List α)(hz:xs.length<=sizeLine)
  (he:∀x∈xs,∀(R:D->Nat->Prop) (S:Nat->Prop),(keep x=true->R (f x) n)->(keep x=false->S n)->g (enc x) (replicate own none++rho) λrho'=>rho'.drop own=rho/\J rho' n λc W=>if c=true then U rho' W R else S W)
  (hP:P (.lst ((xs.filter keep).map f)) n):Qv own g J U rho P (xs.map enc) n:=by
 refine⟨by simpa using hz,λi B n'=>n'=n/\B=((xs.take i).filter keep).map f,⟨rfl,rfl⟩,?_,?_⟩
 ·rintro i d B n' e ⟨rfl, rfl⟩;rw[zI] at e
  cases q:xs[i]? with
  |none=>rw[q] at e;cases e
  |some x=>
   rw[q] at e;cases e;have hm:x∈xs:=wl q
   have Y:xs.take (i+1)=xs.take i++[x]:=by rw[xp,q];rfl
   refine he x hm (λe I=>I=n'/\((xs.take i).filter keep).map f++[e]=((xs.take (i+1)).filter keep).map f) (λI=>I=n'/\((xs.take i).filter keep).map f=((xs.take (i+1)).filter keep).map f) (λhk=>⟨rfl,?_⟩) (λhk=>⟨rfl,?_⟩)
   ·rw[Y,List.filter_append];simp[hk]
   ·rw[Y,List.filter_append];simp[hk]
 ·rintro B n' ⟨rfl,rfl⟩;rw[zh,wq];exact hP
def zj0{i:Int}{k:Nat}:okE (.int i) k=true:=by simp[okE]
def zC4(K:W.Frag):R2:=λx y H Q=>∃a b xs B,x=.ref a/\y=.ref b/\SqT K H a xs/\SqT K H b B/\xs.length+B.length<=sizeLine /\
 (xs=[]->Q (.ref b) H)/\(xs≠[]->B=[]->Q (.ref a) H)/\(xs≠[]->B≠[]->∀p,H p=none->Q (.ref p) (upd H p (.tup (xs++B))))
section
variable {X:Cx}
def zw8:OpR X (binaryOp .Add) (zC4 X.K):=by
 intro B s σ H x y v u Q I rx ry h;obtain⟨a,b,xs,ys,rfl,rfl,ha,hb,hz,q0,q1,q2⟩:=h
 by_cases hx:xs=[]
 ·cases rx;cases ry;obtain⟨its,r1,p1,_⟩:=I.tuple ha;obtain⟨J,r2,p2,_⟩:=I.tuple hb;have hi:its=[]:=r1.nil_iff.mpr hx;obtain⟨⟨cls,dd,data,sl⟩,ho,hc,n,hd⟩:=id p1;obtain⟨⟨ad,ab,ac,aa⟩,U,Y,n2,W⟩:=id p2;simp only at hc hd Y W;subst hc hd Y W
  exact PySem.concat_meets ⟨_,ho,rfl⟩ ⟨_,U,rfl⟩ PySem.noFill_tuple_add PySem.seq_tuple_add PySem.F.slot_tuple_add PySem.F.entry_tuple_add (PySem.F.args_tuple_add_2 _ _)
   (tuple_addW0 a b its.toArray J.toArray n n2 dd ab sl aa (by simp[hi])) ⟨ho,U,⟨.ref b,H,I,rfl,q0 hx⟩⟩
 ·exact zM3 B s σ H _ _ v u Q I rx ry ⟨a,b,xs,ys,rfl,rfl,ha,hb,hx,hz,q1 hx,q2 hx⟩
end
section
variable {A:AC}
def zC2:RD2:=λd1 d2 k=>∃es fs,d1=.tup es/\d2=.tup fs/\es.length+fs.length<=sizeLine/\k (.tup (es++fs))
@[simp] theorem xj9{es fs k}:zC2 (.tup es) (.tup fs) k↔(es.length+fs.length<=sizeLine/\k (.tup (es++fs))):=⟨fun⟨_,_,e,e',h⟩=>by cases e;cases e';exact h,λh=>⟨_,_,rfl,rfl,h⟩⟩
def zH9:qA A (zC4 A.K) zC2:=by
 rintro os n rho sg H ds vs d1 d2 v1 v2 k Q I ⟨es,fs,rfl,rfl,hz,q⟩ J;obtain⟨I1,W⟩:=I.pop;obtain⟨U,Y⟩:=I1.pop;have r1':=Y;have r2':=W;obtain⟨a,xs,e,sq,B⟩:=Y.tup_inv;obtain⟨b,ys,e',sq',rs'⟩:=W.tup_inv;subst e e'
 refine⟨a,b,xs,ys,rfl,rfl,sq.sq,sq'.sq,by rw[B.length,rs'.length];exact hz,λhx=>?_,λhx hy=>?_,λhx hy p hp=>?_⟩
 ·have he : es = [] := by have := B.length; rw [hx] at this; exact wM this.symm
  subst he;exact J _ H _ ⟨os,U.push r2'⟩ q
 ·have he : fs = [] := by have := rs'.length; rw [hy] at this; exact wM this.symm
  subst he;rw[wb] at q;exact J _ H _ ⟨os,U.push r1'⟩ q
 ·exact J _ _ _ ⟨os,U.newTup (B.append rs') hp⟩ q
end
section
variable {A:AC}{X:Cx}{a b c e:Expr}{es:List Expr}{te ta tb tc:TD}{t1:TAD}{pos p:Pos}
def ZX(d:D)(k:Int->Prop):Prop:=∃i,d=.int i/\k i
@[simp] theorem xv6{i:Int}{k}:ZX (.int i) k↔k i:=⟨fun⟨_,e,h⟩=>by cases e;exact h,λh=>⟨_,rfl,h⟩⟩
def xg9(f g:Int->Int->Bool)(ta tb tc:TD):TD:=λrho n P=>ta rho n λd1 J=>tb rho J λd2 B=>ZX d1 λi=>ZX d2 λj=>if f i j=true then tc rho B λd3 I=>ZX d3 λk=>P (.bl (g j k)) I else P (.bl false) B
@[simp] theorem xm9{f g ta tb tc rho n P}:xg9 f g ta tb tc rho n P=ta rho n λd1 J=>tb rho J λd2 B=>ZX d1 λi=>ZX d2 λj=>if f i j=true then tc rho B λd3 I=>ZX d3 λk=>P (.bl (g j k)) I else P (.bl false) B:=rfl
def xe6(t:TAD):TID:=λrho n P=>t rho n λes B=>QT es λd1 d2=>ZX d1 λi=>ZX d2 λj=>(-(2^62)<=i/\i<2^62/\-(2^62)<=j/\j<2^62)/\P (JD i (j-i).toNat) B
@[simp] theorem xl5{t rho n P}:xe6 t rho n P=t rho n λes B=>QT es λd1 d2=>ZX d1 λi=>ZX d2 λj=>(-(2^62)<=i/\i<2^62/\-(2^62)<=j/\j<2^62)/\P (JD i (j-i).toNat) B:=rfl
def zH3(i:Nat)(t:TAD):TSD:=λF rho n=>Xg rho[i]? λes=>t rho n λds B=>∃fs,ds=[.lst fs]/\es.length+fs.length<=sizeLine/\F.nx (rho.set i (some (.own (es++fs)))) B
@[simp] theorem zW7{i t F rho n}:zH3 i t F rho n=Xg rho[i]? λes=>t rho n λds B=>∃fs,ds=[.lst fs]/\es.length+fs.length<=sizeLine/\F.nx (rho.set i (some (.own (es++fs)))) B:=rfl
end
theorem kA:∀{us:QqW}{ns:List Int},IntsAre us ns->Vals (ns.map V.int) us
 |_,_,.nil=>.nil
 |_,_,.cons n t h=>.cons ⟨t,rfl⟩ (kA h)
section
variable {X:Cx}{A:AC}
def kZ:bootBuiltins "sorted" = some (.builtin "sorted"):=x0
end
def zs5{x y:Str}{B Y pt:Pos}{kt k2 I}{a b:Expr}{env:Env}(hk:env.blockKind=.function)(hx:env.kindOf x=some .local)(hy:env.kindOf y=some .local)(hl:Y.line=B.line)(J:x≠y)
  (W:vF a=false) (U:vF b=false) (hf:[a,b].all (foldedForSure 8)=false) (hc:[a,b].all (constantsAlone 8)=false) :
  swappedStores [.Tuple [.Name x B,.Name y Y] kt pt] (.Tuple [a,b] k2 I) env=pure (some [x,y]):=by
 have e2:(y == x)=false:=beq_false_of_ne (Ne.symm J);have e:(Expr.Name x B).pos.line=B.line:=rfl;unfold swappedStores;simp[hk,hx,hy,hl,hf,hc,e,List.eraseDups,List.eraseDupsBy,List.eraseDupsBy.loop,e2];intro h
 exfalso
 rcases h with h |h
 ·cases a<;>first |(simp at h;done) |(simp[vF] at W;done)
 ·cases b<;>first |(simp at h;done) |(simp[vF] at U;done)
section
variable {A:AC}{X:Cx}{a b:Expr}{pos:Pos}
def JL{i j:Nat}{x y:Str}{ta:TAD}{px py pt:Pos}{kt k2 B}(hc:X.calm=true)(hN:X.N.Nodup)(hi:X.N[i]?=some x)(hj:X.N[j]?=some y)(W:i≠j)
  (hx:X.env.scope.names.lookup x=some .local) (hy:X.env.scope.names.lookup y=some .local) (ha:PAD A X [a,b] ta)
  (hk:X.env.blockKind=.function:=by rfl) (hl:py.line=px.line:=by rfl) (I:x≠y:=by decide) (U:vF a=false:=by rfl) (J:vF b=false:=by rfl) (hf:[a,b].all (foldedForSure 8)=false:=by decide +kernel) (Y:[a,b].all (constantsAlone 8)=false:=by decide +kernel) :
  PSD A X (.Assign [.Tuple [.Name x px,.Name y py] kt pt] (.Tuple [a,b] k2 B) pos) (xo8 i j ta):=by
 exists 
   zJ6 hc hN hi hj W hx hy ha (zs5 hk hx hy hl I U J hf Y) rfl
end
def Yy{A:AC}{X:Cx}{e:Expr}{t:TBD}(h:PTD A X e t):PTs X [e] (Kc A t):=by exists zJ1 h
end L2
namespace L2
open PySem PySem.Spec PyProof.Rows HT
section
variable {prog:Program}{w:World}{A:Around}{E:QqV}{s:Shared}
def Zh{t J:Addr}{items:Array Value}{vl vu:Value}{lo hi:Option Int}{Q:QqV}(I:IsTup s.heap t items)(hs:s.heap.IsSliceOf J vl vu .none)(pl:IsPart vl lo)(pu:IsPart vu hi)
  (h1:sIx items.size 0 lo=0) (h2:sIx items.size items.size hi=items.size) (h:Q (.ref t) s):wpAny (model prog w) A (getItem (.ref t) (.ref J)) Q E s:=by
 obtain⟨os,U,W,aa⟩:=id hs;have Y:s.TypeIs (.ref J) "slice" := ⟨os,U,W⟩;unfold getItem
 try with_reducible refine wh ?_
 first |refine zb (ze ?_) |skip
 refine zb (wpAny_sequenceKey I.typeIs w6 ?_)
 refine zb (wx (name:=Str.ofString "__getitem__") I.typeIs PyProof.Rows.slot_tuple_getitem
  (wA PyProof.Rows.slot_tuple_getitem I.typeIs entry_tuple_getitem ?_ (args_tuple_getitem _ _)))
 show wpAny _ _ (Builtin.Tuple.tupleItemsOf (.ref t) >>= _) _ _ s;refine zb (tupleItemsOf_ I ?_);refine zb (wpAny_typeOf Y ?_)
 rw[if_pos w6]
 refine zb (qW hs pl pu ?_)
 have B:((((sIx items.size 0 lo:Nat):Int) == 0&&(1:Int) == 1&&(sIx items.size items.size hi-sIx items.size 0 lo) == items.size)=true):=by
  rw[h1,h2];simp
 show wpAny _ _ (if (((sIx items.size 0 lo:Nat):Int) == 0&&(1:Int) == 1&&(sIx items.size items.size hi-sIx items.size 0 lo) == items.size)=true then _ else _) _ _ s
 rw[if_pos B];obtain⟨⟨cls,dd,data,sl'⟩,ho,hc,n,hd⟩:=id I;simp only at hc hd;subst hc hd;unfold Builtin.Tuple.tupleIsExact;obtain⟨hp,g,d,tk,os'⟩:=s
 wp_walk
 exact⟨_,rfl,ze h⟩
end
section
variable {X:Cx}
def xq0(K:W.Frag):V->Option Int->Option Int->Hp->VK->Prop:=λx lo hi H Q=>∃a xs,x=.ref a/\SqT K H a xs /\
 ((HT.sIx xs.length 0 lo=0/\HT.sIx xs.length xs.length hi=xs.length)->Q (.ref a) H)/\(¬ (HT.sIx xs.length 0 lo=0/\HT.sIx xs.length xs.length hi=xs.length)->∀p,H p=none->Q (.ref p) (upd H p (.tup (zA4 xs lo hi))))
def zG7:SlR X (xq0 X.K):=by
 intro J s σ H x v vl vu lo hi sl Q I W hs pl Y h;obtain⟨a,xs,rfl,hx,q1,q2⟩:=h
 by_cases U:HT.sIx xs.length 0 lo=0/\HT.sIx xs.length xs.length hi=xs.length
 ·cases W;obtain⟨its,r,ht,hz⟩:=I.tuple hx
  have B:its.toArray.size=xs.length:=by rw[zE];exact r.length.symm
  refine⟨"tuple",_,PyProof.Rows.slot_tuple_getitem.lookup,ht.typeIs,?_⟩
  exact Zh ht hs pl Y (by rw[B];exact U.1) (by rw[B];exact U.2) ⟨.ref a,H,I,rfl,q1 U⟩
 ·exact zU1 J s σ H (.ref a) v vl vu lo hi sl Q I W hs pl Y ⟨a,xs,rfl,hx,U,q2 U⟩
end
abbrev TOD:=Rho->Nat->(Option Int->Nat->Prop)->Prop
def oOf(A:AC)(t:TOD):TO:=λsg H Q=>∃rho n P ds vs,Am A n rho sg H ds vs/\t rho n P/\∀o H' n',Am A n' rho sg H' ds vs->P o n'->Q o H'
@[irreducible] def POD(A:AC)(X:Cx)(e:Option Expr)(t:TOD):Prop:=PO X e (oOf A t)
def PO.imp{X:Cx}{e:Option Expr}{t t':TO}(h:PO X e t)(hi:∀sg H Q,t' sg H Q->t sg H Q):PO X e t':=λB s sg H Q I q=>h B s sg H Q I (hi _ _ _ q)
section
variable {A:AC}{X:Cx}{a b c e:Expr}{es:List Expr}{te ta tb tc:TD}{t1:TAD}{pos p:Pos}
def xb4:TOD:=λ_ n P=>P none n
def xb3(t:TD):TOD:=λrho n P=>t rho n λd B=>ZX d λi=>P (some i) B
@[simp] theorem xu0{rho n P}:xb4 rho n P=P none n:=rfl
@[simp] theorem xt9{t rho n P}:xb3 t rho n P=t rho n λd B=>ZX d λi=>P (some i) B:=rfl
def Zv:POD A X none xb4:=by
 exists zK2.imp λsg H Q h=>by
   obtain⟨rho,n,P,ds,vs,I,h,B⟩:=h;exact B none H n I h
def Zu(h:PD A X e te):POD A X (some e) (xb3 te):=by
 exists (zK1 h).imp λsg H Q h=>by
   obtain⟨rho,n,P,ds,vs,I,h,B⟩:=h;refine⟨rho,n,_,ds,vs,I,h,λv H' n' d ⟨os,J⟩ k=>?_⟩;obtain⟨i,rfl,k⟩:=k;obtain⟨U,r⟩:=J.pop;exact⟨i,r.int_inv,B _ H' n' ⟨os,U⟩ k⟩
def Kb(d:D)(k:List D->Prop):Prop:=∃fs,d=.tup fs/\k fs
@[simp] theorem zf6{fs:List D}{k}:Kb (.tup fs) k↔k fs:=⟨fun⟨_,e,h⟩=>by cases e;exact h,λh=>⟨_,rfl,h⟩⟩
def xI0(ta:TD)(B I:TOD):TD:=λrho n P=>ta rho n λd W=>B rho W λlo U=>I rho U λhi J=>Kb d λfs=>P (.tup (Ka fs lo hi)) J
@[simp] theorem xE6{ta B I rho n P}:xI0 ta B I rho n P=ta rho n λd W=>B rho W λlo U=>I rho U λhi J=>Kb d λfs=>P (.tup (Ka fs lo hi)) J:=rfl
def zo9{fs:List D}{lo hi:Option Int}(h:HT.sIx fs.length 0 lo=0/\HT.sIx fs.length fs.length hi=fs.length):Ka fs lo hi=fs:=by
 unfold Ka;rw[h.1,h.2,yx,Nat.sub_zero,wq]
def JQ{le he:Option Expr}{U W:TOD}{p2:Pos}(hK:X.K=A.K)(ha:PD A X a ta)(hl:POD A X le U)(hh:POD A X he W):PD A X (.Subscript a (.Slice le he none p2) pos) (xI0 ta U W):=by
 exists (JP zG7 ha hl hh).imp λsg H Q h=>by
   obtain⟨rho,n,P,ds,vs,I,ht,hQ⟩:=h;refine⟨rho,n,_,ds,vs,I,ht,λv H1 n1 d J1 h1=>⟨rho,n1,_,_,_,J1,h1,λlo H2 n2 J2 h2=>⟨rho,n2,_,_,_,J2,h2,λhi H3 n3 ⟨os,J3⟩ h3=>?_⟩⟩⟩;obtain⟨fs,rfl,k⟩:=h3;obtain⟨J4,r⟩:=J3.pop;have r':=r;obtain⟨l,xs,rfl,sq,Y⟩:=r.tup_inv;rw[hK];have B:xs.length=fs.length:=Y.length;refine⟨l,xs,rfl,sq.sq,λJ=>?_,λJ p hp=>hQ _ _ n3 _ ⟨os,J4.newTup (WW Y lo hi) hp⟩ k⟩;rw[B] at J;rw[zo9 J] at k;exact hQ _ H3 n3 _ ⟨os,J4.push r'⟩ k
end
end L2
namespace L2
section
variable {A:AC}{X:Cx}{a b c e:Expr}{es:List Expr}{te ta tb tc:TD}{t1:TAD}{pos p:Pos}
def xh3{B:QqL}{σ:St}{H:Hp}{s:Shared}(I:Inv X B σ H s):sysModules<s.heap.objs.size:=yE w6 (I.mod.glob.keeps I.bk).lt
def xf7{P:Program}{w:World}{H:Hp}(h:Heap)(B:sysModules<h.objs.size):ObjOk P w H (h.push { cls:=.type "dict",data:=.dict #[] }) h.objs.size (.dK []):=
 ⟨wQ _,beq_eq_false_iff_ne.mpr (Ne.symm (zJ B)),[],.nil,Heap.DictOf.new h⟩
end
section
variable {A:AC}{X:Cx}
end
section
variable {A:AC}{X:Cx}{pos p:Pos}
def xI2(t:TF):TD:=λ_ n P=>t [] n P
@[simp] theorem xF3{t rho n P}:xI2 t rho n P=t [] n P:=rfl
def xa1{x:Str}{t:TF}{J:Nat}(F:Fn X.prog X.w X.K X.mg X.base x J 0 t)(hr:Room J X.A)(hK:X.K=A.K)(hg:Gl X x:=by rfl)(B:(x == ("__debug__" : Str))=false:=by decide):PD A X (.Call (.Name x p) [] [] pos) (xI2 t):=by
 exists by
   obtain⟨f,fd,ps,h1,hm,hk,hb⟩:=F.ex
   exact(zw1 h1 hr hg hm hk hb .nil QS B).imp λsg H Q h=>by
    obtain⟨rho,n,R,ds,vs,⟨os,I⟩,Y,hQ⟩:=h
    have z:zG5 (spD A.K 0 t) [] E0 xi2 sg H Q:=by
     refine⟨A.G,Zof A os,n,R,[],rfl,.nil,I.stZ,λa z=>.inl (I.gz a z),I.zH,Y,λv H2 W d fr st U r q=>hQ v H2 W d (I.called fr st U r) q⟩
    rw[hK];exact z
end
section
variable {A:AC}{X:Cx}{a b e:Expr}{ta tb:TD}{pos p:Pos}
def zs9(i:Nat)(ta tb:TD):TSD:=λF rho n=>i<rho.length/\ta rho n λd1 I=>tb rho I λd2 B=>KK d1 λes=>KK d2 λfs=>es.length+fs.length<=sizeLine/\F.nx (rho.set i (some (.own (es++fs)))) B
@[simp] theorem zS0{i ta tb F rho n}:zs9 i ta tb F rho n=(i<rho.length/\ta rho n λd1 I=>tb rho I λd2 B=>KK d1 λes=>KK d2 λfs=>es.length+fs.length<=sizeLine/\F.nx (rho.set i (some (.own (es++fs)))) B):=rfl
def xO6:List D->(D->Prop)->Prop:=λes k=>∃i:Int,es=[.int i]/\i.natAbs.log2<1920/\k (.str (toString i))
@[simp] theorem xD8{i:Int}{k}:xO6 [.int i] k↔(i.natAbs.log2<1920/\k (.str (toString i))):=⟨fun⟨_,e,h⟩=>by cases e;exact h,λh=>⟨_,rfl,h⟩⟩
end
end L2
namespace L2
open PySem PySem.Spec PyProof.Rows HT
section
variable {prog:Program}{w:World}{A:Around}{E:QqV}{s:Shared}
theorem Qi{f g:Nat->Option Value}:∀{l:List Nat},(∀x∈l,f x=g x)->l.filterMap f=l.filterMap g
 |[],_=>rfl
 |a::l,h=>by
  rw[wV,wV,h a (zq ..),Qi λx hx=>h x (zf _ hx)]
def zv2(xs:Array Value):((List.range xs.size).filterMap fun(m:Nat)=>xs[((xs.size:Int)-1+(m:Int)*(-1)).toNat]?).toArray=xs.toList.reverse.toArray:=by
 have h:=JM xs.toList.reverse.toArray 0 xs.size
 have e:(List.range xs.size).filterMap (fun(m:Nat)=>xs[((xs.size:Int)-1+(m:Int)*(-1)).toNat]?)=(List.range xs.size).filterMap (fun(m:Nat)=>xs.toList.reverse.toArray[((0:Nat)+(m:Int)*1).toNat]?):=by
  refine Qi λm hm=>?_;have hm':=yY.mp hm
  have I:((xs.size:Int)-1+(m:Int)*(-1)).toNat=xs.size-1-m:=w5
  have B:(((0:Nat):Int)+(m:Int)*1).toNat=m:=w5
  rw[I,B];simp only[List.getElem?_toArray]
  rw[List.getElem?_reverse (by simpa using hm')]
  simp
 rw[e,h]
 congr 1
 rw[yx]
 exact wW (by simp)
end
section
variable {X:Cx}{e:Expr}{te:TE}{pos p2:Pos}
end
section
variable {A:AC}{X:Cx}{a:Expr}{ta:TD}{pos p2 p3 p4:Pos}
theorem Reps.reverse{K:W.Frag}{G:QqE}{Z:QqA}{H:Hp}:∀{ds:List D}{vs:List V},Reps K G Z H ds vs->Reps K G Z H ds.reverse vs.reverse
 |[],vs,h=>by rw[h.nil_inv];exact .nil
 |d::ds,vs,h=>by
  obtain⟨v,r,rfl,q,t⟩:=h.split;rw[reverse_cons,reverse_cons];exact(Reps.reverse t).append (.cons q .nil)
def xP9(ta:TD):TD:=λrho n P=>ta rho n λd B=>Kb d λfs=>P (.tup fs.reverse) B
@[simp] theorem xE8{ta rho n P}:xP9 ta rho n P=ta rho n λd B=>Kb d λfs=>P (.tup fs.reverse) B:=rfl
end
end L2
namespace L2
open PySem PySem.Spec PyProof.Rows PySem.W PySem.Calls PySem.NumText
section
variable {A:AC}{X:Cx}{e:Expr}{te:TD}{pos:Pos}
def zB5(I:TBD)(U:TSD):TSD:=λF rho n=>∃J:Nat->Rho->Nat->Prop,(∃m,J m rho n)/\∀m rho n,J m rho n->I rho n λb B=>if b=true then U { F with nx:=λrho' n'=>∃m',m'<m/\J m' rho' n',ct:=λrho' n'=>∃m',m'<m/\J m' rho' n',bk:=F.nx } rho B else F.nx rho B
def YX{c:Expr}{body:List Stmt}{tc:TBD}{tb:TSD}(hp:PassesOwn (model X.prog X.w) X.A X.env X.xe)(hc:PTD A X c tc)(hb:zc6 A X body tb):PSD A X (.While c body [] pos) (zB5 tc tb):=by
 exists (zv0 hp hc hb).imp λE sg H h=>by
   obtain⟨rho,n,F,ds,vs,I,⟨J,⟨m0,j0⟩,turn⟩,ok⟩:=h;refine⟨λm sg H=>∃rho n,Am A n rho sg H ds vs/\J m rho n,⟨m0,rho,n,I,j0⟩,?_⟩;rintro m aa H1 ⟨U,n1,I1,j1⟩;refine⟨U,n1,_,ds,vs,I1,turn m U n1 j1,λb H2 n2 I2 k=>?_⟩
   cases b with
   |true=>
    rw[if_pos rfl] at k ⊢;refine⟨λsg' H'=>∃m',m'<m/\∃rho n,Am A n rho sg' H' ds vs/\J m' rho n,λsg' H' ⟨m',hm,q⟩=>⟨m',hm,q⟩,U,n2,_,ds,vs,I2,k,?_⟩;exact⟨λB n6 W H6 I6 ⟨m',hm,Y⟩=>⟨m',hm,B,n6,I6,Y⟩,λd n6 v B W H6 I6 Y=>ok.rt _ _ _ _ _ _ I6 Y,λB n6 W H6 I6 Y=>ok.nx _ _ _ _ I6 Y,λB n6 W H6 I6 ⟨m',hm,Y⟩=>⟨m',hm,B,n6,I6,Y⟩⟩
   |false=>
    rw[if_neg zK] at k ⊢;exact ok.nx _ _ _ _ I2 k
@[simp] theorem xi8{B I F rho n}:zB5 B I F rho n=∃J:Nat->Rho->Nat->Prop,(∃m,J m rho n)/\∀m rho n,J m rho n->B rho n λb U=>if b=true then I { F with nx:=λrho' n'=>∃m',m'<m/\J m' rho' n',ct:=λrho' n'=>∃m',m'<m/\J m' rho' n',bk:=F.nx } rho U else F.nx rho U:=rfl
def zV3(f:Int->Int->Int)(i:Nat)(te:TD):TSD:=λF rho n=>i<rho.length/\∃a:Int,rho[i]?=some (some (.int a))/\te rho n λd B=>∃b:Int,d=.int b/\F.nx (rho.set i (some (.int (f a b)))) B
def zu9{i:Nat}{x:Str}{op:Operator}{f:Int->Int->Int}{pos':Pos}(U:PIp X op (ipI f))(hN:X.N.Nodup)(hi:X.N[i]?=some x)(hx:Loc X.env.scope x)(he:PD A X e te)(Y:X.fn x=true\/X.env.scope.names.lookup x=some .local:=by first |exact .inl rfl |exact .inr rfl |assumption) :
  PSD A X (.AugAssign (.Name x pos') op e pos) (zV3 f i te):=by
 exists (zY3 hN hi hx he U Y).imp λE sg H h=>by
   obtain⟨rho,n,F,ds,vs,⟨os,I⟩,⟨W,a,ha,B⟩,ok⟩:=h;obtain⟨v,e1,e2⟩:=I.slot i _ ha;have e3:=SlotR.rep (d:=.int a) rfl e2;refine⟨v,e1,rho,n,_,ds,vs,⟨os,I⟩,B,λw H' n' d ⟨os',J⟩ k=>?_⟩;obtain⟨b,rfl,k⟩:=k;obtain⟨J1,r⟩:=J.pop;refine⟨a,b,e3.int_inv,r.int_inv,ok.nx _ _ _ _ ⟨_,AmO.set (d:=.int (f a b)) (J1.push (Rep.ofS rfl)) W⟩ k⟩
@[simp] theorem xs4{f i te F rho n}:zV3 f i te F rho n=(i<rho.length/\∃a:Int,rho[i]?=some (some (.int a))/\te rho n λd B=>∃b:Int,d=.int b/\F.nx (rho.set i (some (.int (f a b)))) B):=rfl
def zC3:RD2:=λd1 d2 k=>∃x y,d1=.str x/\d2=.str y/\x.length+y.length<=sizeLine/\k (.str (x++y))
def zI0:qA A (λx y H Q=>∃i j,x=.str i/\y=.str j/\i.length+j.length<=sizeLine/\Q (.str (i++j)) H) zC3:=by
 rintro os n rho sg H ds vs d1 d2 v1 v2 k Q I ⟨x,y,rfl,rfl,U,q⟩ W;obtain⟨I1,B⟩:=I.pop;obtain⟨Y,J⟩:=I1.pop;exact⟨x,y,J.toS rfl,B.toS rfl,U,W _ H _ ⟨os,Y.push (Rep.ofS rfl)⟩ q⟩
@[simp] theorem xk0{x y k}:zC3 (.str x) (.str y) k↔(x.length+y.length<=sizeLine/\k (.str (x++y))):=⟨fun⟨_,_,e,e',h⟩=>by cases e;cases e';exact h,λh=>⟨_,_,rfl,rfl,h⟩⟩
def zM0:OpR X (binaryOp .Mult) (λx y H Q=>∃i n,x=.str i/\y=.int n/\MulOk i n/\Q (.str (Txt.mul i n)) H):=by
 intro B s σ H x y v u Q I U J h;obtain⟨i,n,rfl,rfl,W,q⟩:=h;obtain⟨t,rfl⟩:=U;obtain⟨t',rfl⟩:=J;exact SB.mul W λt' k=>⟨.str (Txt.mul i n),H,I.tok _,⟨_,rfl⟩,q⟩
def zC1:RD2:=λd1 d2 k=>∃x i,d1=.str x/\d2=.int i/\MulOk x i/\k (.str (Txt.mul x i))
def zH7:qA A (λx y H Q=>∃i n,x=.str i/\y=.int n/\MulOk i n/\Q (.str (Txt.mul i n)) H) zC1:=by
 rintro os n rho sg H ds vs d1 d2 v1 v2 k Q I ⟨x,y,rfl,rfl,U,q⟩ W;obtain⟨I1,B⟩:=I.pop;obtain⟨Y,J⟩:=I1.pop;exact⟨x,y,J.toS rfl,B.toS rfl,U,W _ H _ ⟨os,Y.push (Rep.ofS rfl)⟩ q⟩
@[simp] theorem xj6{x i k}:zC1 (.str x) (.int i) k↔(MulOk x i/\k (.str (Txt.mul x i))):=⟨fun⟨_,_,e,e',h⟩=>by cases e;cases e';exact h,λh=>⟨_,_,rfl,rfl,h⟩⟩
end
def zF9{M:Model}{A:Around}{E:QqV}{s:Shared}{Q:QqV}{v:Value}{B:List Nat}{n:Int}
    (W:¬ (B.takeWhile (· != 0)).length<=640) (Y:(int_private% "readNumeral") 4300 10 (B.takeWhile (· != 0))=(int_private% "Numeral.value") n)
    (ha:((B.takeWhile (· != 0)).length == B.length)=true) (hn:s.heap.NoDigits) (h:Q (.int n s.toks) { s with toks:=s.toks+1 }) :
    wpAny M A ((int_private% "intFromText") v B 10) Q E s:=by
  obtain⟨mc,J,I⟩:=hn;obtain⟨U,g,d,tk,os⟩:=s
  have hi:∀{Q:Nat->Shared->Prop},Q 4300 ⟨U,g,d,tk,os⟩->wpAny M A Builtin.intMaxStrDigits Q E ⟨U,g,d,tk,os⟩:=λ{Q} q=>by
    unfold Builtin.intMaxStrDigits;refine zb (wpAny_nsGet J ?_);rw[I];exact ze q
  repeat (any_goals (first
    |assumption
    |(with_reducible refine wpAny_ite_false (xf W) ?_)
    |(with_reducible refine wpAny_ite_true (xN ha) ?_)
    |(with_reducible refine hi ?_)
    |wp_step))
  all_goals (try rw[Y])
  all_goals (try dsimp only)
  repeat (any_goals (first
    |assumption
    |(with_reducible refine wpAny_ite_true (xN ha) ?_)
    |wp_step))
set_option maxHeartbeats 4000000 in
def za0{x:PySem.Str}{u:Tok}{n:Int}(B:¬ (numSeenOf x).length<=640)(J:x.length<=sizeLine)(hn:PySem.intText? x=some n):Meets (Builtin.«int.__new__» ⟨[.type "int",.str x u],[]⟩) (λA R s=>s.heap.NoDigits/\R (.ok (.ret (.int n s.toks))) { s with toks:=s.toks+1 }):=by
 intro prog w A R s h;obtain⟨hd,h⟩:=h;obtain⟨U,g,d,tk,os⟩:=s;have f1:=F.conv_sub_int;have f2:=F.madeHere_int;have f3:=KIN.str_int;have f4:=KIN.str_idx;have Y:=KIN.str_trunc;have W:typeOf (.str x u)=pure (.type "str"):=rfl
 have I:(int_private% "readNumeral") 4300 10 (numSeenOf x)=(int_private% "Numeral.value") n/\((numSeenOf x).length == (numTextOf x).length)=true:=by
  rcases read4300 x J with ⟨m,h1,h2,h3⟩ |⟨h1,_⟩
  ·rw[hn] at h1;injection h1 with h1;subst h1;exact⟨h3,h2⟩
  ·rw[hn] at h1;cases h1
 have hk:=KIN.Hid.mk (And.intro B (And.intro I hd));clear B I J hn hd
 repeat (any_goals (first
  |assumption
  |((with_reducible show wpAny _ _ ((int_private% "intFromText") _ _ _) _ _ _);refine zF9 hk.out.1 hk.out.2.1.1 hk.out.2.1.2 hk.out.2.2 ?_)
  |wp_step))
def zq2{prog:Program}{w:World}{A:Around}{E:QqV}{s:Shared}{Q:QqV}{x:PySem.Str}{t:Tok}{n:Int}(B:¬ (numSeenOf x).length<=640)(I:x.length<=sizeLine)(hn:PySem.intText? x=some n)(hd:s.heap.NoDigits)(h:Q (.int n s.toks) { s with toks:=s.toks+1 }):wpAny (model prog w) A (call (.type "int") [.str x t]) Q E s:=
 call_int_1 (za0 B I hn) ⟨hd,rfl,h⟩
section
variable {A:AC}{X:Cx}
def Vt(hd:X.base.NoDigits):qC X (.type "int") (λxs H Q=>∃x n,xs=[.str x]/\¬ (numSeenOf x).length<=640/\x.length<=sizeLine/\PySem.intText? x=some n/\Q (.int n) H):=by
 intro B s σ H xs us Q I r h;obtain⟨x,n,rfl,h1,h2,h3,q⟩:=h;obtain⟨u,rfl,t,rfl⟩:=YG r;exact zq2 h1 h2 h3 (hd.keeps I.bk) ⟨.int n,H,I.tok _,⟨_,rfl⟩,q⟩
def xz6:List D->(D->Prop)->Prop:=λes k=>∃x n,es=[.str x]/\¬ (numSeenOf x).length<=640/\x.length<=sizeLine/\PySem.intText? x=some n/\k (.int n)
def zQ7:vI A (λxs H Q=>∃x n,xs=[.str x]/\¬ (numSeenOf x).length<=640/\x.length<=sizeLine/\PySem.intText? x=some n/\Q (.int n) H) xz6:=by
 rintro os n rho sg H ds vs es ws k Q I B ⟨x,m,rfl,h1,h2,h3,q⟩ J;obtain⟨v,rfl,r⟩:=qb B
 exact⟨x,m,by rw[r.toS rfl];rfl,h1,h2,h3,J _ H _ ⟨os,I.push (Rep.ofS rfl)⟩ q⟩
end
theorem Qh:∀(k:Nat) (a:Array Nat),((replicate k #[48]).foldl (·++·) a).toList=a.toList++replicate k 48
  |0,a=>by simp
  | k + 1, a => by
    rw[List.replicate_succ,List.foldl_cons,Qh k,xa,wG];rfl
def XH(k:Int)(h:1<k):(Str.ofString "1" ++ Txt.mul (Str.ofString "0") k).cps.toList=49::replicate k.toNat 48:=by
 have e:(Str.ofString "0").cps=#[48]:=x0
 have I:(Str.ofString "1").cps=#[49]:=x0
 have B:(Str.ofString "0").length=1:=x0
 unfold Txt.mul
 rw[if_neg w5,if_neg (by simp[B];lia)]
 show((Str.ofString "1").cps++_).toList=_;rw[I,xa,e,Qh];rfl
def KP(k:Int)(h:700<k)(h2:k<4200):∃m:Int,0<m/\¬ (numSeenOf (Str.ofString "1" ++ Txt.mul (Str.ofString "0") k)).length<=640/\(Str.ofString "1" ++ Txt.mul (Str.ofString "0") k).length<=sizeLine/\PySem.intText? (Str.ofString "1" ++ Txt.mul (Str.ofString "0") k)=some m:=by
 have I:=XH k w5
 generalize hx:Str.ofString "1" ++ Txt.mul (Str.ofString "0") k=x at *
 have J:x.length=k.toNat+1:=by
  have:x.cps.toList.length=x.length:=zj;rw[<- this,I];simp
 have hd:NumText.AllDigits x.cps.toList:=λc B=>by
  rw[I] at B
  rcases zg.mp B with rfl |B
  ·lia
  ·rw[(List.mem_replicate.mp B).2];lia
 refine⟨(NumText.digitsVal x.cps.toList:Nat),?_,?_,?_,intText_digits hd (by rw[I];simp) w5⟩
 ·rw [I]
  have:=NumText.digitsVal_pos (c:=49) (cs:=replicate k.toNat 48) w6
  lia
 ·rw[(numText_signs λc B=>Or.inr (hd c B)).2,I];simp;lia
 ·rw[J,sizeLine_eq];lia
def Uo(k:Int)(h:1<k)(h2:k<10000):MulOk (Str.ofString "0") k:=by
 have B:(Str.ofString "0").length=1:=x0
 refine⟨by simp;lia,λ_ _=>?_,λ_ _=>?_⟩
 ·rw [B]
  have:1<=(2^63-1:Int)/k:=(Int.le_ediv_iff_mul_le w5).mpr w5
  intro z;exact absurd z (Int.not_lt.mpr this)
 ·rw [B];unfold Builtin.Str.tooLong
  exact xf (by rw[sizeLine_eq];lia)
end L2
namespace L2
def zk4{P:Program}{w:World}{K:W.Frag}{mg mb:QqM}{CX:CXT}{k:Nat}{fa a:Addr}{fd:FuncData}{x:Str}{sp:Sp}{B:Shared}{vs:QqW}{ns:List Int}
  (KX:K.In B.heap) (aa:B.heap.Ns mainGlobals mg) (I:B.heap.Ns builtinsNs mb) (ag:∀x:Str,x ≠ "__name__" -> mb x=bootBuiltins x) (ab:B.heap.NoLimit) (ac:B.heap.NoDigits) (hg:B.gens=#[])
  (ha:B.heap.get? a=some { cls:=.type "list",data:=.seq vs.toArray }) (hi:IntsAre vs ns) (hl:ns.length<=sizeLine) (hr:Room k callerA)
  (F:∀base:Heap,K.In base->base.Ns mainGlobals mg->base.NoDigits->FnOk P w K mg base CX k fa fd [x] sp) (U:∀(s:Shared) (u:Value),BindsTo s fd ⟨[u],[]⟩ [(x,u)])
  (af:∀H:Hp,xn3 H->SqL K H a (ns.map V.int)->sp [.ref a] H (λv _=>v=.bl true) λ_ _ _=>False)
  (ah:∀H e s',CX [] H B (λ_ _ _=>False) e s'->False) :
  codeAny (model P w) callerA (.call (.ref fa) ⟨[.ref a],[]⟩) (λr s'=>r=.ok (.ret (.bool true))/\OldK B.heap s'.heap/\s'.os=B.os/\AllBare s'.gens) B:=by
 have rv:=VA hi;have Y:=hi.length
 have core:∀H:Hp,xn3 H->SqL K H a (ns.map V.int)->HOk P w H B.heap->(∀b,H b≠none->b=a)->(H a≠none->K.lookup a=none) ->
   codeAny (model P w) callerA (.call (.ref fa) ⟨[.ref a],[]⟩) (λr s'=>r=.ok (.ret (.bool true))/\OldK B.heap s'.heap/\s'.os=B.os/\AllBare s'.gens) B:=by
  intro H hO hS hok hA hK;have base_of:∀{b:Addr}{o:Obj},B.heap.get? b=some o->H b=none->(zz1 B.heap H).get? b=some o:=λe n=>zz0 e n
  have ae:∀{b:Addr}{o:Obj}{es:Array DictEntry}{ep:Nat},B.heap.get? b=some o->o.data=.dict es ep->H b=none:=λ{b o es ep} e d=>by
   cases q:H b with
   |none=>rfl
   |some u=>
    have e':b=a:=hA b (by rw[q];simp)
    subst e';rw[ha] at e;cases e;have d':Data.seq vs.toArray _=Data.dict es ep:=d;cases d'
  have J:∀{b:Addr}{m:QqM},B.heap.Ns b m->(zz1 B.heap H).Ns b m:=λ{b m} ⟨o,es,ep,e,d,r⟩=>⟨o,es,ep,base_of e (ae e d),d,r⟩
  have ad:K.In (zz1 B.heap H):=λb o e=>base_of (KX b o e) (by
   cases q:H b with
   |none=>rfl
   |some u=>
    have e':b=a:=hA b (by rw[q];simp)
    subst e'
    rw[hK (by rw[q];simp)] at e;cases e)
  have hM:Mod K mg (zz1 B.heap H):=⟨ad,J aa,⟨mb,J I,ag⟩,let ⟨mc,h1,h2⟩:=ab;⟨mc,J h1,h2⟩⟩
  have e0:Env0 P w K mg (zz1 B.heap H) callerA [] B H:=⟨rfl,hM,λb o e=>zN4 e,yG (zm8 _ _),trivial,λb I=>absurd (show b∈([]:List Addr) from I) (by simp),hok,.of_eq hg⟩
  refine codeAny_mono ((F _ ad (J aa) (let ⟨mc,h1,h2⟩:=ac;⟨mc,J h1,h2⟩)).run callerA [] B H ⟨[.ref a],[]⟩ [.ref a] [.ref a] _ _ hr e0 (U B (.ref a)) (.cons rfl .nil) (af H hO hS)) λr s' h=>?_
  cases r with
  |error e=>exact(ah H e s' h).elim
  | ok fl =>
   cases fl with
   |next=>exact False.elim h
   |brk=>exact False.elim h
   |cont=>exact False.elim h
   | ret u =>
    obtain⟨v,H',os,bare,un,hok',r',q⟩:=h;have q':v=.bl true:=q;subst q';obtain rfl:u=Value.bool true:=r';refine⟨rfl,OldK.of_keep λb o e=>?_,os,bare⟩
    cases q:H b with
    |none=>exact un.keep b o e q (by intro z;exact absurd (show b∈([]:List Addr) from z) (by simp)) (by simp)
    |some u=>
     rcases hO b with z |⟨ob,xs,z⟩
     ·rw[q] at z;cases z
     ·have z2:=un.frzs b ob _ z;obtain⟨e1,_⟩:=hok b _ z;obtain⟨e2,_⟩:=hok' b _ z2;rw[e] at e1;cases e1;exact e2
 cases hk:K.lookup a with
 |some o=>
  have e:=KX a o hk;rw[ha] at e;cases e
  refine core (λ_=>none) (λ_=>.inl rfl) (.inr ⟨_,vs.toArray,_,hk,rfl,rfl,rfl,by rw[zE,Y];exact hl,by simpa using rv⟩) (λb u z=>by have z':(none:Option HO)=some u:=z;cases z') (λb z=>absurd rfl z) λz=>absurd rfl z
 | none =>
  refine core (λb=>if b=a then some (.frz { cls:=.type "list",data:=.seq vs.toArray } (.lst (ns.map V.int))) else none) (λb=>?_) (.inl (.inr ⟨{ cls:=.type "list",data:=.seq vs.toArray },if_pos rfl⟩)) (λb u z=>?_) (λb z=>?_) λ_=>hk
  ·by_cases I : b = a
   ·exact .inr ⟨_,_,if_pos I⟩
   ·exact .inl (if_neg I)
  ·by_cases I : b = a
   ·have z' := (if_pos I).symm.trans z;cases z';subst I
    exact⟨ha,by rw[zh];exact hl,vs,_,rv,ha⟩
   ·have z':=(if_neg I).symm.trans z;cases z'
  ·by_cases I : b = a
   ·exact I
   ·exact absurd (if_neg I) z
def zr8{l:W.OpenLaw}{n k:Nat}{q:Program}{loose:List Str}{XP:(Str->Option Value)->Heap->Prop}{YP:World->Heap->Prop}{d:DefRec}{K:Params->W.Frag}{CX:World->CXT}{sp:World->Sp}{x:Str}
  (hn:l.most=some n) (aa:n<=sizeLine) (ac:d.params.defaults=[]) (hr:Room k callerA)
  (hY:∀(w:World) (h:Heap),YP w h->(K w.params).In h)
  (F : ∀ (w : World) (mg : Str -> Option Value) (fa : Addr) (h : Heap), (K w.params).In h -> h.Ns mainGlobals mg -> mg d.name = some (.ref fa) ->
   ∃fd:FuncData,(∀(s:Shared) (u:Value),BindsTo s fd ⟨[u],[]⟩ [(x,u)]) /\
    ∀base:Heap,(K w.params).In base->base.Ns mainGlobals mg->base.NoDigits->FnOk l.prog w (K w.params) mg base (CX w) k fa fd [x] (sp w))
  (U:∀(w:World) (H:Hp) (a:Addr) (ns:List Int),ns.length<=n->xn3 H->SqL (K w.params) H a (ns.map V.int)->sp w [.ref a] H (λv _=>v=.bl true) λ_ _ _=>False)
  (ad:∀(w:World) (H:Hp) (s:Shared) (e:Value) (s':Shared),CX w [] H s (λ_ _ _=>False) e s'->False) :
  W.WalkO q loose XP YP l.row.toRowW d [] (λf vs=>PySem.call f vs):=by
 refine Att.attach_call hn ac λw s₀ s₁ mg mb fa o pm cd af a vs ns G Y ho hd ae ab J I B hg=>?_;have KX:=hY w _ Y;obtain⟨fd,hb,hF⟩:=F w mg fa _ KX G.T.g ab;exact zk4 KX G.T.g G.T.b G.T.builtins G.T.nolimit G.T.nodigits hg J I (zF B aa) hr hF hb (λH hO hS=>U w H a ns B hO hS) λH e s'=>ad w H s₁ e s'
end L2
namespace L2
open PySem PySem.Spec PyProof.Rows PySem.W PySem.Calls
def zs4{x y z:Str}{B py pz pt:Pos}{kt k2 I}{a b c:Expr}{env:Env}(hk:env.blockKind=.function)(hx:env.kindOf x=some .local)(hy:env.kindOf y=some .local)(hz:env.kindOf z=some .local)(hl:py.line=B.line)(ac:pz.line=B.line)(W:x≠y)(U:x≠z)(J:y≠z)
  (ab:vF a=false) (aa:vF b=false) (Y:vF c=false) (hf:[a,b,c].all (foldedForSure 8)=false) (hc:[a,b,c].all (constantsAlone 8)=false) :
  swappedStores [.Tuple [.Name x B,.Name y py,.Name z pz] kt pt] (.Tuple [a,b,c] k2 I) env=pure (some [x,y,z]):=by
 have e2:(y == x)=false:=beq_false_of_ne (Ne.symm W);have e3:(z == x)=false:=beq_false_of_ne (Ne.symm U);have e4:(z == y)=false:=beq_false_of_ne (Ne.symm J);have e:(Expr.Name x B).pos.line=B.line:=rfl;unfold swappedStores;simp[hk,hx,hy,hz,hl,ac,hf,hc,e,List.eraseDups,List.eraseDupsBy,List.eraseDupsBy.loop,e2,e3,e4];intro h
 exfalso
 rcases h with h |h |h
 ·cases a<;>first |(simp at h;done) |(simp[vF] at ab;done)
 ·cases b<;>first |(simp at h;done) |(simp[vF] at aa;done)
 ·cases c<;>first |(simp at h;done) |(simp[vF] at Y;done)
section
variable {X:Cx}{pos:Pos}
def xn7(i j k:Nat)(B:TA):TS:=λD σ H=>B σ H λvs I=>∃u v w,vs=[u,v,w]/\D.nx (((σ.set k (some w)).set j (some v)).set i (some u)) I
def zJ9{i j k:Nat}{x y z:Str}{a b c:Expr}{ta:TA}{px py pz pt:Pos}{kt k2 J}(hc:X.calm=true)(hN:X.N.Nodup)(hi:X.N[i]?=some x)(hj:X.N[j]?=some y)(hk:X.N[k]?=some z)
  (hx:X.env.scope.names.lookup x=some .local) (hy:X.env.scope.names.lookup y=some .local) (hz:X.env.scope.names.lookup z=some .local) (ha:PA X [a,b,c] ta)
  (hw:swappedStores [.Tuple [.Name x px,.Name y py,.Name z pz] kt pt] (.Tuple [a,b,c] k2 J) X.env=pure (some [x,y,z]))
  (hs:swapsWithSole [.Tuple [.Name x px,.Name y py,.Name z pz] kt pt] (.Tuple [a,b,c] k2 J) pos.line X.env=pure false:=by rfl) :
  PS X (.Assign [.Tuple [.Name x px,.Name y py,.Name z pz] kt pt] (.Tuple [a,b,c] k2 J) pos) (xn7 i j k ta):=by
 intro B s σ H D I h;rw[exec_Assign_arm];refine zb (wg ?_);rw[hs];refine zb (ze ?_)
 rw[if_neg w6]
 refine zb (Tuple_ (thn (ha _ B s σ H _ I h) λus s1 ⟨vs,H1,I1,r1,q1⟩=>?_));obtain⟨t,v,w,e1,q1⟩:=q1;subst e1
 obtain⟨Y,W,U,rfl,rt,rv,rw'⟩:∃Y W U,us=[Y,W,U]/\RelV t Y/\RelV v W/\RelV w U:=by
  cases r1 with
  | cons p q =>
   cases q with
   | cons p' q' =>
    cases q' with
    |cons p2 q2=>
     cases q2;exact⟨_,_,_,rfl,p,p',p2⟩
 refine xU ?_ (by show 3<=sizeLine;decide)
 have I2:Inv X B σ H1 { s1 with heap:=s1.heap.push { cls:=.type "tuple",data:=.seq [Y,W,U].toArray } }:=I1.kept (t':=s1.toks) λb o e=>zd _ e;rw[hw];refine zb (ze ?_)
 show wpAny (model X.prog X.w) X.A (do rule "assign.swapped-stores";let items <- unpackItems (.ref s1.heap.objs.size) 3 none;assignInOrder [λv=>bindName X.env z v,λv=>bindName X.env y v,λv=>bindName X.env x v] items.reverse;pure Flow.next) _ _ _
 refine zb (wz (zb (unpackItems_tuple (items:=#[Y,W,U]) (I.ok.hd hc) (IsTup.new s1.heap _) λh' hx'=>?_)));have I3:=I2.kept (h':=h') (t':=s1.toks) λb o e=>hx' b o (zJ (zy e)) e;show wpAny _ _ (assignInOrder [λv=>bindName X.env z v,λv=>bindName X.env y v,λv=>bindName X.env x v] [U,W,Y] >>= λ_=>pure Flow.next) _ _ _;refine zb (assignInOrder_cons (wpAny_bindName (qd I3 hN hk (.inl hz) rw' (λs2 I4=>?_) (.inr hz))));refine assignInOrder_cons (wpAny_bindName (qd I4 hN hj (.inl hy) rv (λs3 I5=>?_) (.inr hy)));refine assignInOrder_cons (wpAny_bindName (qd I5 hN hi (.inl hx) rt (λs4 I6=>assignInOrder_nil (ze ?_)) (.inr hx)));exact⟨_,H1,I6,q1⟩
end
section
variable {A:AC}{X:Cx}{a b c:Expr}{pos:Pos}
def zH0(i j k:Nat)(t:TAD):TSD:=λF rho n=>i<rho.length/\j<rho.length/\k<rho.length/\t rho n λes B=>∃d d' d2,es=[d,d',d2]/\F.nx (((rho.set k (some d2)).set j (some d')).set i (some d)) B
@[simp] theorem xr9{i j k t F rho n}:zH0 i j k t F rho n=(i<rho.length/\j<rho.length/\k<rho.length/\t rho n λes B=>∃d d' d2,es=[d,d',d2]/\F.nx (((rho.set k (some d2)).set j (some d')).set i (some d)) B):=rfl
def zg4{i j k:Nat}{x y z:Str}{ta:TAD}{Y py pz pt:Pos}{kt k2 aa}(hc:X.calm=true)(hN:X.N.Nodup)(hi:X.N[i]?=some x)(hj:X.N[j]?=some y)(ai:X.N[k]?=some z)
  (hx:X.env.scope.names.lookup x=some .local) (hy:X.env.scope.names.lookup y=some .local) (hz:X.env.scope.names.lookup z=some .local) (ha:PAD A X [a,b,c] ta)
  (hk:X.env.blockKind=.function:=by rfl) (hl:py.line=Y.line:=by rfl) (B:pz.line=Y.line:=by rfl) (ad:x≠y:=by decide) (ac:x≠z:=by decide) (ab:y≠z:=by decide) (ag:vF a=false:=by rfl) (af:vF b=false:=by rfl) (ae:vF c=false:=by rfl) (hf:[a,b,c].all (foldedForSure 8)=false:=by decide +kernel) (aj:[a,b,c].all (constantsAlone 8)=false:=by decide +kernel) :
  PSD A X (.Assign [.Tuple [.Name x Y,.Name y py,.Name z pz] kt pt] (.Tuple [a,b,c] k2 aa) pos) (zH0 i j k ta):=by
 exists (zJ9 hc hN hi hj ai hx hy hz ha (zs4 hk hx hy hz hl B ad ac ab ag af ae hf aj)).imp λE sg H h=>by
   obtain⟨rho,n,F,ds,vs,I,⟨hl,B,ah,ht⟩,ok⟩:=h;refine⟨rho,n,_,ds,vs,I,ht,λws H' n' es ⟨os,J⟩ U k=>?_⟩;obtain⟨d,d',d2,rfl,k⟩:=k;obtain⟨J1,W⟩:=J.split U;obtain⟨v1,r1,rfl,q1,W⟩:=W.split;obtain⟨v2,v3,rfl,q2,q3⟩:=Ks W;refine⟨v1,v2,v3,rfl,ok.nx _ _ _ _ ?_ k⟩;have J2:AmO A os n' rho sg H' (d2::d'::d::ds) (v3::v2::v1::vs):=((J1.push q1).push q2).push q3
   exact⟨_,((J2.set ah).set (by simpa using B)).set (by simpa using hl)⟩
end
end L2
namespace L2.Srt
open PySem PyProof.Rows
def lab(ls:Array Nat)(i:Nat):Nat:=ls.getD i 0
structure Rule(prog:Program)(w:World)(A:Around)(s:Shared)(n:Nat)(item:Nat->Keyed)(kd:SortKind)(r:Nat->Nat->Bool):Prop where
 tot:∀a b,a<n->b<n->a≠b->r a b=!r b a
 tr:∀a b c,a<n->b<n->c<n->r a b=true->r b c=true->r a c=true
 cmp:∀a b,a<n->b<n->a≠b->∀(E:QqV) (Q:Bool->Shared->Prop),Q (r a b) s->wpAny (model prog w) A (keyLt' kd (item a).1 (item b).1) Q E s
def Up(r:Nat->Nat->Bool)(ls:Array Nat)(k:Nat):Prop:=∀i j,i<j->j<k->r (lab ls i) (lab ls j)=true
section
variable {n:Nat}{item:Nat->Keyed}{kd:SortKind}{r:Nat->Nat->Bool}{ls:Array Nat}{t:SortSt}
def yX{i:Nat}(h:i<ls.size):ls[i]?=some (lab ls i):=by
 unfold lab;rw[wT,wK h];rfl
def kw{as:Array Nat}{k v:Nat}(h:as[k]?=some v):lab as k=v:=by
 unfold lab;rw[wT,h];rfl
def Je{src d:Nat}(B:src<ls.size)(hd:d<=src){k:Nat}(hk:k<ls.size):lab (bubble ls src d) k=if k=src-d then lab ls src else if src-d<k/\k<=src then lab ls (k-1) else lab ls k:=by
 refine kw ?_;rw[getElem?_bubble B d hd k]
 split
 ·exact yX B
 ·split
  ·exact yX w5
  ·exact yX hk
def zQ9{src d:Nat}(B:src<ls.size)(hd:d<=src):bubble (ls.map item) src d=(bubble ls src d).map item:=by
 refine Array.ext_getElem? λk=>?_
 rw[getElem?_bubble (by simpa using B) d hd k]
 simp only[Array.getElem?_map];rw[getElem?_bubble B d hd k]
 split
 ·rfl
 ·split<;>rfl
def jq{i j:Nat}(hj:j<=ls.size){k:Nat}(hk:k<ls.size):lab (mirror ls i j ((j-i)/2)) k=if i<=k/\k<j then lab ls (i+j-1-k) else lab ls k:=by
 refine kw ?_;rw[getElem?_mirror_all hj k]
 split
 ·exact yX w5
 ·exact yX hk
def zO0{i j:Nat}(hj:j<=ls.size):mirror (ls.map item) i j ((j-i)/2)=(mirror ls i j ((j-i)/2)).map item:=by
 refine Array.ext_getElem? λk=>?_
 rw[getElem?_mirror_all (by simpa using hj) k]
 simp only[Array.getElem?_map];rw[getElem?_mirror_all hj k]
 split<;>rfl
end
def jr:Bool->Keyed->Array Keyed->Nat->Nat->Nat->StateT SortSt Sem (Option Nat):=sortPriv% PySem.Builtin.gallop
def vX:Nat->StateT SortSt Sem Unit:=sortPriv% PySem.Builtin.setMinGallop
def Vi:Array Keyed->Array Keyed->StateT SortSt Sem (Array Keyed):=sortPriv% PySem.Builtin.mergeLo
def Vj:Array Keyed->Array Keyed->StateT SortSt Sem (Array Keyed):=sortPriv% PySem.Builtin.mergeHi
abbrev Jy(st:SortSt)(g:Nat):SortSt:=SortSt.mk' (kindOf st) (arrOf st) (pendingOf st) g (failedOf st)
def vR(g:Nat):vX g=modify λs=>Jy s g:=rfl
def qU(left:Bool)(key:Keyed)(arr:Array Keyed)(base i:Nat):StateT SortSt Sem (Option Bool):=do
 let x <- elem' arr (base+i)
 if left then lt' x key else return (<- lt' key x).map (!·)
def za8(left:Bool)(key:Keyed)(arr:Array Keyed)(base n B:Nat):jr left key arr base n B=(do
 let mut lastofs:=0
 let mut ofs:=1
 let mut lo:=0
 let mut hi:=0
 let some right <- qU left key arr base B |return none
 if right then
  let I:=n-B
  for _ in [0:n] do
   if ofs>=I then break
   let some more <- qU left key arr base (B+ofs) |return none
   if !more then break
   lastofs:=ofs
   ofs:=2*ofs+1
  lo:=B+lastofs+1
  hi:=B+min ofs I
 else
  let I:=B+1
  for _ in [0:n] do
   if ofs>=I then break
   let some J <- qU left key arr base (B-ofs) |return none
   if J then break
   lastofs:=ofs
   ofs:=2*ofs+1
  lo:=B+1-min ofs I
  hi:=B-lastofs
 for _ in [0:n] do
  if lo>=hi then break
  let m:=lo+(hi-lo)/2
  let some more <- qU left key arr base m |return none
  if more then lo:=m+1 else hi:=m
 return some hi):=rfl
def KI(i:Nat):mergeAt' i=(do
 let s <- get
 let (some (sa,J,B),some (sb,I,_)):=((pendingOf s)[i]?,(pendingOf s)[i+1]?) |unsupported "internal:list.sort.pending"
 set (setPending s (((pendingOf s).setIfInBounds i (sa,J+I,B)).eraseIdxIfInBounds (i+1)))
 let some k <- jr false (<- elem' (arrOf s) sb) (arrOf s) sa J 0 |return false
 let (sa,J):=(sa+k,J-k)
 if J == 0 then return true
 let some I <- jr true (<- elem' (arrOf s) (sa+J-1)) (arrOf s) sb I (I-1) |return false
 if I == 0 then return true
 let x:=(arrOf s).extract sa sb
 let y:=(arrOf s).extract sb (sb+I)
 let merged <- if J<=I then Vi x y else Vj x y
 modify λs=>setArr s (merged.toList.zipIdx.foldl (λa (p,j)=>a.setIfInBounds (sa+j) p) (arrOf s))
 return (failedOf (<- get)).isNone):=rfl
def xi3(left:Bool)(key:Keyed)(arr:Array Keyed)(base n B I:Nat):StateT SortSt Sem (Option Nat):=do
 let mut lo:=B
 let mut hi:=I
 for _ in [0:n] do
  if lo>=hi then break
  let m:=lo+(hi-lo)/2
  let some more <- qU left key arr base m |return none
  if more then lo:=m+1 else hi:=m
 return some hi
def Kd(lo n0 B:Nat):StateT SortSt Sem (Option Nat):=do
 let mut n:=n0
 reverseSlice' lo (lo+n)
 for _ in [n:B] do
  let some smaller <- ltAt' (lo+n) (lo+n-1) |return none
  if smaller then break
  n:=n+1
 return some n
def Vr(lo n0 I:Nat):StateT SortSt Sem (Option Nat):=do
 let mut n:=n0
 rule "list.sort.descending-run"
 n:=n+1
 let mut neq:=0
 for _ in [n:I] do
  let some smaller <- ltAt' (lo+n) (lo+n-1) |return none
  if smaller then
   if neq > 0 then reverseSlice' (lo+n-(neq+1)) (lo+n)
   neq:=0
  else
   let some B <- ltAt' (lo+n-1) (lo+n) |return none
   if B then break
   neq:=neq+1
  n:=n+1
 if neq > 0 then reverseSlice' (lo+n-(neq+1)) (lo+n)
 reverseSlice' lo (lo+n)
 for _ in [n:I] do
  let some smaller <- ltAt' (lo+n) (lo+n-1) |return none
  if smaller then break
  n:=n+1
 return some n
section
variable {prog:Program}{w:World}{A:Around}{E:QqV}{s:Shared}{t:SortSt}
section
variable {left:Bool}{key:Keyed}{arr:Array Keyed}{base m hint:Nat}{by':Nat->Bool}
def ze8{lo hi:Nat}(hm:hi<=m)(W:lo<=hi)
  (Y:∀i,i<m->∀Q:Option Bool->SortSt->Prop,Q (some (by' i)) t->wpS (model prog w) A E s (qU left key arr base i) Q t)
  (I:∀i j,i<=j->j<m->by' j=true->by' i=true) (no:∀i j,i<=j->j<m->by' i=false->by' j=false)
  (h1:∀i,i<lo->by' i=true) (h2:∀i,hi<=i->i<m->by' i=false) {Q:Option Nat->SortSt->Prop}
  (q:∀k,k<=m->(∀i,i<k->by' i=true)->(∀i,k<=i->i<m->by' i=false)->Q (some k) t) :
  wpS (model prog w) A E s (xi3 left key arr base m lo hi) Q t:=by
 unfold xi3
 refine zo (yO (wD (λx c t'=>t'=t/\∃l h,c=(none,l,h)/\l<=h/\h<=m/\h-l<=m-x/\(∀i,i<l->by' i=true)/\∀i,h<=i->i<m->by' i=false)
  (Q:=λc t'=>t'=t/\∃l,c=(none,l,l)/\l<=m/\(∀i,i<l->by' i=true)/\∀i,l<=i->i<m->by' i=false) ?_ ?_ ⟨rfl,lo,hi,rfl,W,hm,w5,h1,h2⟩) ?_)
 ·rintro x c t' _ hx ⟨rfl, l, h, rfl, g1, B, g3, U, J⟩;dsimp only
  split
  ·rename_i hd
   obtain rfl:l=h:=w5
   exact zU ⟨rfl,l,rfl,B,U,J⟩
  ·rename_i hd
   refine zo (Y _ w5 _ ?_)
   cases z:by' (l+(h-l)/2)
   ·exact zU ⟨rfl,l,_,rfl,w5,w5,w5,U,λi i1 i2=>no _ i i1 i2 z⟩
   ·exact zU ⟨rfl,_,h,rfl,w5,w5,w5,λi i1=>I i _ w5 w5 z,J⟩
 ·rintro c t' ⟨rfl, l, h, rfl, g1, B, g3, U, J⟩
  obtain rfl:l=h:=w5
  exact⟨rfl,l,rfl,B,U,J⟩
 ·rintro c t' ⟨rfl,l,rfl,g1,B,g3⟩;exact zU (q l g1 B g3)
def gal(h:hint<m)
  (U:∀i,i<m->∀Q:Option Bool->SortSt->Prop,Q (some (by' i)) t->wpS (model prog w) A E s (qU left key arr base i) Q t)
  (I:∀i j,i<=j->j<m->by' j=true->by' i=true) {Q:Option Nat->SortSt->Prop}
  (q:∀k,k<=m->(∀i,i<k->by' i=true)->(∀i,k<=i->i<m->by' i=false)->Q (some k) t) :
  wpS (model prog w) A E s (jr left key arr base m hint) Q t:=by
 rw[za8];refine zo (U hint h _ ?_)
 have no:∀i j,i<=j->j<m->by' i=false->by' j=false:=λi j h1 h2 h3=>by
  cases z:by' j with
  |false=>rfl
  |true=>rw[I i j h1 h2 z] at h3;cases h3
 cases z:by' hint
 ·simp only [wa, if_false]
  refine zo (yO (wD (λx c t'=>t'=t/\∃B ofs,c=(none,B,ofs)/\B<ofs/\x+1<=ofs/\B<=hint/\by' (hint-B)=false)
   (Q:=λc t'=>t'=t/\∃B ofs,c=(none,B,ofs)/\B<ofs/\B<=hint/\by' (hint-B)=false/\(ofs<=hint->by' (hint-ofs)=true)) ?_ ?_ ⟨rfl,0,1,rfl,w5,w5,w5,z⟩) ?_)
  ·rintro x c t' _ hx ⟨rfl, B, ofs, rfl, Y, g2, W, J⟩;dsimp only
   split
   ·exact zU ⟨rfl,B,ofs,rfl,Y,W,J,λh=>by lia⟩
   ·rename_i hd
    refine zo (U _ w5 _ ?_)
    cases z2:by' (hint-ofs)
    ·exact zU ⟨rfl,ofs,_,rfl,w5,w5,w5,z2⟩
    ·exact zU ⟨rfl,B,ofs,rfl,Y,W,J,λ_=>z2⟩
  ·rintro c t' ⟨rfl, B, ofs, rfl, Y, g2, W, J⟩
   exact⟨rfl,B,ofs,rfl,Y,W,J,λh=>by lia⟩
  ·rintro c t' ⟨rfl, B, ofs, rfl, Y, W, J, g5⟩;show wpS (model prog w) A E s (xi3 left key arr base m (hint+1-min ofs (hint+1)) (hint-B)) Q t'
   refine ze8 w5 w5 U I no (λi hi=>?_) (λi i1 i2=>no _ i i1 i2 J) q
   exact I i (hint-ofs) w5 w5 (g5 w5)
 ·simp only [if_true]
  refine zo (yO (wD (λx c t'=>t'=t/\∃B ofs,c=(none,B,ofs)/\B<ofs/\x+1<=ofs/\hint+B<m/\by' (hint+B)=true)
   (Q:=λc t'=>t'=t/\∃B ofs,c=(none,B,ofs)/\B<ofs/\hint+B<m/\by' (hint+B)=true/\(hint+ofs<m->by' (hint+ofs)=false)) ?_ ?_ ⟨rfl,0,1,rfl,w5,w5,w5,z⟩) ?_)
  ·rintro x c t' _ hx ⟨rfl, B, ofs, rfl, Y, g2, W, J⟩;dsimp only
   split
   ·exact zU ⟨rfl,B,ofs,rfl,Y,W,J,λh=>by lia⟩
   ·rename_i hd
    refine zo (U _ w5 _ ?_)
    cases z2:by' (hint+ofs)
    ·exact zU ⟨rfl,B,ofs,rfl,Y,W,J,λ_=>z2⟩
    ·exact zU ⟨rfl,ofs,_,rfl,w5,w5,w5,z2⟩
  ·rintro c t' ⟨rfl, B, ofs, rfl, Y, g2, W, J⟩
   exact⟨rfl,B,ofs,rfl,Y,W,J,λh=>by lia⟩
  ·rintro c t' ⟨rfl, B, ofs, rfl, Y, W, J, g5⟩;show wpS (model prog w) A E s (xi3 left key arr base m (hint+B+1) (hint+min ofs (m-hint))) Q t'
   refine ze8 w5 w5 U I no (λi hi=>I i _ w5 w5 J) (λi i1 i2=>?_) q
   exact no (hint+ofs) i w5 i2 (g5 w5)
end
end
structure WRule(prog:Program)(w:World)(A:Around)(s:Shared)(n:Nat)(item:Nat->Keyed)(kd:SortKind)(r:Nat->Nat->Bool):Prop where
 asy:∀a b,a<n->b<n->r a b=true->r b a=false
 tr:∀a b c,a<n->b<n->c<n->r b a=false->r c b=false->r c a=false
 cmp:∀a b,a<n->b<n->a≠b->∀(E:QqV) (Q:Bool->Shared->Prop),Q (r a b) s->wpAny (model prog w) A (keyLt' kd (item a).1 (item b).1) Q E s
structure MI(le:Nat->Nat->Prop)(all O la lb:List Nat):Prop where
 perm:(O++(la++lb)).Perm all
 up:O.Pairwise le
 a:∀o∈O,∀x∈la,le o x
 b:∀o∈O,∀y∈lb,le o y
 sa:la.Pairwise le
 sb:lb.Pairwise le
variable {le:Nat->Nat->Prop}{all O la lb u:List Nat}
def MI.takeA(h:MI le all O (u++la) lb)(U:∀x∈u,∀y∈lb,le x y):MI le all (O++u) la lb:=by
 have I:=List.pairwise_append.mp h.sa
 refine⟨by simpa [wG] using h.perm,List.pairwise_append.mpr ⟨h.up,I.1,λo B x hx=>h.a o B x (by simp[hx])⟩,λo B x hx=>?_,λo B y J=>?_,I.2.1,h.sb⟩
 ·rcases zR.mp B with B | B
  ·exact h.a o B x (by simp[hx])
  ·exact I.2.2 o B x hx
 ·rcases zR.mp B with B | B
  ·exact h.b o B y J
  ·exact U o B y J
def MI.swap(h:MI le all O la lb):MI le all O lb la:=⟨((yf).append_left O).trans h.perm,h.up,h.b,h.a,h.sb,h.sa⟩
def MI.takeB(h:MI le all O la (u++lb))(B:∀x∈u,∀y∈la,le x y):MI le all (O++u) la lb:=(h.swap.takeA B).swap
def MI.endA(h:MI le all O la lb)(B:∀x∈la,∀y∈lb,le x y):(O++la++lb).Perm all/\(O++la++lb).Pairwise le:=by
 have h1:MI le all (O++la) [] lb:=MI.takeA (by rw[wb];exact h) B
 exact⟨by simpa using h1.perm,List.pairwise_append.mpr ⟨h1.up,h1.sb,h1.b⟩⟩
def MI.endB(h:MI le all O la lb)(B:∀x∈lb,∀y∈la,le x y):(O++lb++la).Perm all/\(O++lb++la).Pairwise le:=h.swap.endA B
section
variable {prog:Program}{w:World}{A:Around}{E:QqV}{s:Shared}{t:SortSt}{n:Nat}{item:Nat->Keyed}{kd:SortKind}{r:Nat->Nat->Bool}
def Uu(R:WRule prog w A s n item kd r)(hk:kindOf t=kd){a b:Nat}(ha:a<n)(B:b<n)(h:a≠b){Q:Option Bool->SortSt->Prop}(q:Q (some (r a b)) t):wpS (model prog w) A E s (lt' (item a) (item b)) Q t:=by
 rw[lt'_eq];refine zo (wpS_get (zo (wpS_lift (wpAny_attempt ?_))));rw[hk];exact R.cmp a b ha B h _ _ ⟨rfl,zU q⟩
def yj{ks:Array Nat}{i:Nat}(h:i<ks.size){Q:Keyed->SortSt->Prop}(q:Q (item (lab ks i)) t):wpS (model prog w) A E s (elem' (ks.map item) i) Q t:=by
 rw[elem'_eq,Array.getElem?_map,yX h];exact zU q
def byd(R:WRule prog w A s n item kd r)(hk:kindOf t=kd){ks:Array Nat}{left:Bool}{c base i:Nat}(I:c<n)(hi:base+i<ks.size)(B:lab ks (base+i)<n)(hn:c≠lab ks (base+i)){Q:Option Bool->SortSt->Prop}
  (q:Q (some (if left then r (lab ks (base+i)) c else !r c (lab ks (base+i)))) t):wpS (model prog w) A E s (qU left (item c) (ks.map item) base i) Q t:=by
 unfold qU;refine zo (yj hi ?_);cases left
 ·simp only[wa,if_false] at q ⊢;exact zo (Uu R hk I B hn (zU q))
 ·simp only[if_true] at q ⊢;exact Uu R hk B I (λe=>hn e.symm) q
structure Same(t t':SortSt):Prop where
 arr:arrOf t'=arrOf t
 kd:kindOf t'=kindOf t
 pend:pendingOf t'=pendingOf t
 ok:failedOf t'=failedOf t
def Same.rfl':Same t t:=⟨rfl,rfl,rfl,rfl⟩
def Same.gal{t':SortSt}(h:Same t t')(g:Nat):Same t (Jy t' g):=⟨h.arr,h.kd,h.pend,h.ok⟩
structure Two(n:Nat)(r:Nat->Nat->Bool)(la lb:Array Nat):Prop where
 an:∀x∈la.toList,x<n
 bn:∀x∈lb.toList,x<n
 un:∀x∈la.toList,∀y∈lb.toList,x≠y
 au:la.toList.Pairwise λx y=>r y x=false
 bu:lb.toList.Pairwise λx y=>r y x=false
structure ML(item:Nat->Keyed)(r:Nat->Nat->Bool)(la lb:Array Nat)(out:Array Keyed)(ia ib:Nat):Prop where
 o:∃O:Array Nat,out=O.map item/\MI (λx y=>r y x=false) (la.toList++lb.toList) O.toList (la.toList.drop ia) (lb.toList.drop ib)
def Good(item:Nat->Keyed)(r:Nat->Nat->Bool)(la lb:Array Nat)(out:Array Keyed):Prop:=∃M:Array Nat,out=M.map item/\M.toList.Perm (la.toList++lb.toList)/\M.toList.Pairwise λx y=>r y x=false
def qQ{ks:Array Nat}{k x:Nat}:x∈ks.toList.drop k↔∃i,k<=i/\i<ks.size/\x=lab ks i:=by
 rw[List.mem_iff_getElem?]
 constructor
 ·rintro ⟨i, h⟩;rw[xZ,zL] at h
  have hi:k+i<ks.size:=by
   rcases Nat.lt_or_ge (k+i) ks.size with g |g
   ·exact g
   ·rw[wX g] at h;cases h
  rw[yX hi] at h
  exact⟨k+i,w5,hi,(zN h).symm⟩
 ·rintro ⟨i, h1, h2, rfl⟩
  exact⟨i-k,by rw[xZ,zL,show k+(i-k)=i by lia,yX h2]⟩
def qk{ks:Array Nat}{i:Nat}(h:i<ks.size):lab ks i∈ks.toList:=by
 have:=qQ.mpr ⟨i,wQ _,h,rfl⟩
 rwa [yx] at this
def Yn{ks:Array Nat}(h:ks.toList.Pairwise λx y=>r y x=false){i j:Nat}(B:i<j)(hj:j<ks.size):r (lab ks j) (lab ks i)=false:=by
 have hi':i<ks.toList.length:=by rw[zj];lia
 have hj':j<ks.toList.length:=by rw[zj];exact hj
 have:=xR.mp h i j hi' hj' B
 have J:=yX (ls:=ks) (i:=i) w5
 have I:=yX (ls:=ks) hj;rw[<- zL,zn hi'] at J;rw[<- zL,zn hj'] at I;rw[<- zN J,<- zN I];exact this
def Wz{ks:Array Nat}{i k:Nat}(h:i+k<=ks.size):ks.toList.drop i=(ks.extract i (i+k)).toList++ks.toList.drop (i+k):=by
 rw[wm,xS,show i+k-i=k by lia,<- drop_drop,wL]
def Qo{ks:Array Nat}{i:Nat}(h:i<ks.size):ks.toList.drop i=[lab ks i]++ks.toList.drop (i+1):=by
 have hi':i<ks.toList.length:=by rw[zj];exact h
 have B:=yX (ls:=ks) h;rw[<- zL,zn hi'] at B;rw[yg hi',zN B];rfl
def zj4{ks:Array Nat}{i k x:Nat}(h:i+k<=ks.size)(hx:x∈(ks.extract i (i+k)).toList):∃j,j<k/\x=lab ks (i+j):=by
 rw[wm,xS,show i+k-i=k by lia,List.mem_iff_getElem?] at hx
 obtain⟨j,hj⟩:=hx;rw[yI] at hj
 split at hj
 ·rename_i g
  rw[xZ,zL,yX w5] at hj
  exact⟨j,g,(zN hj).symm⟩
 ·cases hj
section
variable {la lb:Array Nat}{out:Array Keyed}{ia ib:Nat}
def Two.al(T:Two n r la lb){i:Nat}(h:i<la.size):lab la i<n:=T.an _ (qk h)
def Two.bl(T:Two n r la lb){i:Nat}(h:i<lb.size):lab lb i<n:=T.bn _ (qk h)
def Two.ne(T:Two n r la lb){i j:Nat}(h:i<la.size)(g:j<lb.size):lab la i≠lab lb j:=T.un _ (qk h) _ (qk g)
def Two.symm(T:Two n r la lb):Two n r lb la:=⟨T.bn,T.an,λx hx y B e=>T.un y B x hx e.symm,T.bu,T.au⟩
def Two.hd(R:WRule prog w A s n item kd r)(T:Two n r la lb){c:Nat}(B:c<n)(h:ia<la.size)(g:r (lab la ia) c=false):∀x∈la.toList.drop ia,r x c=false:=λx hx=>by
 obtain⟨i,h1,h2,rfl⟩:=qQ.mp hx
 by_cases e:i=ia
 ·rw[e];exact g
 ·exact R.tr _ _ _ B (T.al h) (T.al h2) g (Yn T.au w5 h2)
def ML.pushA(M:ML item r la lb out ia ib)(h:ia<la.size)(g:∀y∈lb.toList.drop ib,r y (lab la ia)=false):ML item r la lb (out.push (item (lab la ia))) (ia+1) ib:=by
 obtain⟨O,rfl,m⟩:=M.o;rw[Qo h] at m
 refine⟨O.push (lab la ia),by rw[Array.map_push],?_⟩
 rw[yV]
 exact m.takeA λx hx y B=>by rw[zw.mp hx];exact g y B
def ML.pushB(M:ML item r la lb out ia ib)(h:ib<lb.size)(g:∀y∈la.toList.drop ia,r y (lab lb ib)=false):ML item r la lb (out.push (item (lab lb ib))) ia (ib+1):=by
 obtain⟨O,rfl,m⟩:=M.o;rw[Qo h] at m
 refine⟨O.push (lab lb ib),by rw[Array.map_push],?_⟩
 rw[yV]
 exact m.takeB λx hx y B=>by rw[zw.mp hx];exact g y B
def ML.addA(M:ML item r la lb out ia ib){k:Nat}(h:ia+k<=la.size)(g:∀j,j<k->∀y∈lb.toList.drop ib,r y (lab la (ia+j))=false):ML item r la lb (out++(la.map item).extract ia (ia+k)) (ia+k) ib:=by
 obtain⟨O,rfl,m⟩:=M.o;rw[Wz h] at m
 refine⟨O++la.extract ia (ia+k),by rw[xW,xz],?_⟩
 rw[xa]
 exact m.takeA λx hx y B=>by obtain⟨j,hj,rfl⟩:=zj4 h hx;exact g j hj y B
def ML.addB(M:ML item r la lb out ia ib){k:Nat}(h:ib+k<=lb.size)(g:∀j,j<k->∀y∈la.toList.drop ia,r y (lab lb (ib+j))=false):ML item r la lb (out++(lb.map item).extract ib (ib+k)) ia (ib+k):=by
 obtain⟨O,rfl,m⟩:=M.o;rw[Wz h] at m
 refine⟨O++lb.extract ib (ib+k),by rw[xW,xz],?_⟩
 rw[xa]
 exact m.takeB λx hx y B=>by obtain⟨j,hj,rfl⟩:=zj4 h hx;exact g j hj y B
def jt{ks:Array Nat}{i:Nat}:(ks.extract i ks.size).toList=ks.toList.drop i:=by
 rw[wm,xS]
 exact wW (by rw[wO,zj];exact zk _)
def ML.done(M:ML item r la lb out ia ib)(g:∀x∈la.toList.drop ia,∀y∈lb.toList.drop ib,r y x=false):Good item r la lb (out++(la.map item).extract ia la.size++(lb.map item).extract ib lb.size):=by
 obtain⟨O,rfl,m⟩:=M.o;obtain⟨I,B⟩:=m.endA g
 refine⟨O++la.extract ia la.size++lb.extract ib lb.size,by rw[xW,xW,xz,xz],?_,?_⟩
 ·rw[xa,xa,jt,jt];exact I
 ·rw[xa,xa,jt,jt];exact B
def ML.last(M:ML item r la lb out ia ib)(g:∀x∈lb.toList.drop ib,∀y∈la.toList.drop ia,r y x=false):Good item r la lb (out++(lb.map item).extract ib lb.size++(la.map item).extract ia la.size):=by
 obtain⟨O,rfl,m⟩:=M.o;obtain⟨I,B⟩:=m.endB g
 refine⟨O++lb.extract ib lb.size++la.extract ia la.size,by rw[xW,xW,xz,xz],?_,?_⟩
 ·rw[xa,xa,jt,jt];exact I
 ·rw[xa,xa,jt,jt];exact B
def ML.doneB(M:ML item r la lb out ia ib)(h:lb.size<=ib):Good item r la lb (out++(la.map item).extract ia la.size++(lb.map item).extract ib lb.size):=
 M.done λx _ y B=>by obtain⟨i,h1,h2,_⟩:=qQ.mp B;lia
def ML.doneA(M:ML item r la lb out ia ib)(h:la.size<=ia):Good item r la lb (out++(la.map item).extract ia la.size++(lb.map item).extract ib lb.size):=
 M.done λx hx y _=>by obtain⟨i,h1,h2,_⟩:=qQ.mp hx;lia
def ML.lastA(R:WRule prog w A s n item kd r)(T:Two n r la lb)(h2:∀y∈lb.toList,r y (lab la (la.size-1))=true)(M:ML item r la lb out ia ib)(h:ia+1=la.size):Good item r la lb (out++(lb.map item).extract ib lb.size++(la.map item).extract ia la.size):=
 M.last λx hx y B=>by
  obtain⟨i,i1,i2,rfl⟩:=qQ.mp hx;obtain⟨j,j1,j2,rfl⟩:=qQ.mp B
  obtain rfl:j=la.size-1:=w5
  exact R.asy _ _ (T.bl i2) (T.al j2) (h2 _ (qk i2))
end
end
end L2.Srt
set_option maxHeartbeats 1000000
namespace L2.Srt
open PySem PyProof.Rows
abbrev Sn(γ:Type):=Option (Array Keyed) × γ
abbrev SM:=StateT SortSt Sem
abbrev Fn(γ:Type):=ForInStep (Sn γ)
abbrev Tn:=Array Keyed × Nat × Nat × Nat × Nat
abbrev Un:=Array Keyed × Nat × Nat × Nat × Nat × Nat
abbrev Vn:=Array Keyed × Nat × Nat × Nat
def Yr{γ:Type}(o:Array Keyed)(x:γ):SM (Fn γ):=(pure (ForInStep.done (some o,x)):SM _)
def zR1{γ:Type}(x:γ):SM (Fn γ):=(pure (ForInStep.done (none,x)):SM _)
def zy2{γ:Type}(x:γ):SM (Fn γ):=(pure (ForInStep.yield (none,x)):SM _)
section
variable (a b:Array Keyed)
def eA(o:Array Keyed)(i j:Nat):Array Keyed:=o++a.extract i++b.extract j
def eB(o:Array Keyed)(i j:Nat):Array Keyed:=o++b.extract j++a.extract i
def l1a(g c d:Nat)(o:Array Keyed)(i j:Nat):SM (Fn Tn):=if (i+1 == a.size)=true then Yr (eB a b o i j) (o,i,j,c,d) else if c>=g then zR1 (o,i,j,c,d) else zy2 (o,i,j,c,d)
def l1b(g c d:Nat)(o:Array Keyed)(i j:Nat):SM (Fn Tn):=if (j == b.size)=true then Yr (eA a b o i j) (o,i,j,c,d) else if d>=g then zR1 (o,i,j,c,d) else zy2 (o,i,j,c,d)
def l1(g c d:Nat)(o:Array Keyed)(i j:Nat):SM (Fn Tn):=elem' b j >>= λy=>elem' a i >>= λx=>lt' y x >>= λw=>match w with
 |some w=>if w=true then elem' b j >>= λz=>l1b a b g 0 (d+1) (o.push z) i (j+1) else elem' a i >>= λz=>l1a a b g (c+1) 0 (o.push z) (i+1) j
 |_=>Yr (eA a b o i j) (o,i,j,c,d)
def l4(g c d:Nat)(o:Array Keyed)(i j:Nat):SM (Fn Un):=elem' a i >>= λx=>if (i+1+1 == a.size)=true then Yr (eB a b (o.push x) (i+1) j) (o.push x,i+1,j,g,c,d)
 else if (decide (c<7)&&decide (d<7))=true then zR1 (o.push x,i+1,j,g,c,d) else zy2 (o.push x,i+1,j,g,c,d)
def l3b(g c d k:Nat)(o:Array Keyed)(i j:Nat):SM (Fn Un):=if k > 0 then
  if (j+k == b.size)=true then Yr (eA a b (o++b.extract j (j+k)) i (j+k)) (o++b.extract j (j+k),i,j+k,g,c,k) else l4 a b g c k (o++b.extract j (j+k)) i (j+k)
 else l4 a b g c k o i j
def l3(g c d:Nat)(o:Array Keyed)(i j:Nat):SM (Fn Un):=elem' b j >>= λy=>if (j+1 == b.size)=true then Yr (eA a b (o.push y) i (j+1)) (o.push y,i,j+1,g,c,d)
 else elem' a i >>= λx=>jr true x b (j+1) (b.size-(j+1)) 0 >>= λk=>match k with
  |some k=>l3b a b g c d k (o.push y) i (j+1)
  |_=>Yr (eA a b (o.push y) i (j+1)) (o.push y,i,j+1,g,c,d)
def l2b(g d k:Nat)(o:Array Keyed)(i j:Nat):SM (Fn Un):=if k > 0 then
  if (i+k+1 == a.size)=true then Yr (eB a b (o++a.extract i (i+k)) (i+k) j) (o++a.extract i (i+k),i+k,j,g,k,d)
  else if (i+k == a.size)=true then Yr (eA a b (o++a.extract i (i+k)) (i+k) j) (o++a.extract i (i+k),i+k,j,g,k,d)
  else l3 a b g k d (o++a.extract i (i+k)) (i+k) j
 else l3 a b g k d o i j
def l2(c d:Nat)(o:Array Keyed)(i j g:Nat):SM (Fn Un):=vX g >>= λ_=>elem' b j >>= λy=>jr false y a i (a.size-i) 0 >>= λk=>match k with
 |some k=>l2b a b g d k o i j
 |_=>Yr (eA a b o i j) (o,i,j,g,c,d)
def l2u(u:Un):SM (Fn Un):=if u.2.2.2.1 > 1 then l2 a b u.2.2.2.2.1 u.2.2.2.2.2 u.1 u.2.1 u.2.2.1 (u.2.2.2.1-1) else l2 a b u.2.2.2.2.1 u.2.2.2.2.2 u.1 u.2.1 u.2.2.1 u.2.2.2.1
def l5(s:Sn Un):SM (Fn Vn):=match s.1 with
 |some r=>Yr r (s.2.1,s.2.2.1,s.2.2.2.1,s.2.2.2.2.1)
 |none=>vX (s.2.2.2.2.1+1) >>= λ_=>zy2 (s.2.1,s.2.2.1,s.2.2.2.1,s.2.2.2.2.1+1)
def l6(g:Nat)(s:Sn Tn):SM (Fn Vn):=match s.1 with
 |some r=>Yr r (s.2.1,s.2.2.1,s.2.2.2.1,g)
 |none=>(rule "list.sort.gallop" : SM Unit) >>= λ_=>forIn [0:a.size+b.size] ((none,s.2.1,s.2.2.1,s.2.2.2.1,g+1,s.2.2.2.2.1,s.2.2.2.2.2):Sn Un) (λ_ u=>l2u a b u.2) >>= λu=>l5 u
def l1t(g:Nat)(s:Tn):SM (Fn Tn):=l1 a b g s.2.2.2.1 s.2.2.2.2 s.1 s.2.1 s.2.2.1
def l7(v:Vn):SM (Fn Vn):=forIn [0:a.size+b.size] ((none,v.1,v.2.1,v.2.2.1,0,0):Sn Tn) (λ_ s=>l1t a b v.2.2.2 s.2) >>= λs=>l6 a b v.2.2.2 s
def zS6{γ:Type}(v:Sn γ):SM (Array Keyed):=match v.1 with
 |some r=>pure r
 |none=>unsupported "internal:list.sort.merge-bound"
def l8:SM (Array Keyed):=(rule "list.sort.merge-lo" : SM Unit) >>= λ_=>elem' b 0 >>= λy=>if (1 == b.size)=true then pure (eA a b #[y] 0 1)
 else if (0+1 == a.size)=true then pure (eB a b #[y] 0 1)
 else get >>= λst=>forIn [0:a.size+b.size] ((none,#[y],0,1,gallopOf st):Sn Vn) (λ_ v=>l7 a b v.2) >>= λv=>zS6 v
theorem Uq:Vi a b=l8 a b:=by
 show bind _ _=bind _ _
 congr 1;funext x;dsimp only
 congr 1;funext y
 by_cases e:(1 == b.size)=true
 ·rw[if_pos e,if_pos e];rfl
 rw[if_neg e,if_neg e]
 by_cases B:(0+1 == a.size)=true
 ·rw[if_pos B,if_pos B];rfl
 rw[if_neg B,if_neg B]
 congr 1;funext st
 congr 1
 ·congr 1
  funext x v
  unfold l7
  congr 1
  funext s
  unfold l6;cases s.1
  ·dsimp only
   congr 1;funext x
   congr 1
   funext u
   unfold l5
   cases u.1<;>rfl
  ·rfl
 ·funext v
  unfold zS6
  cases v.1<;>rfl
end
section
variable {prog:Program}{w:World}{A:Around}{E:QqV}{s:Shared}{t u:SortSt}{n:Nat}{item:Nat->Keyed}{kd:SortKind}{r:Nat->Nat->Bool}{la lb:Array Nat}{N c d g i j k:Nat}{o:Array Keyed}
def wH{α:Type}{c:Prop}[Decidable c]{I B:StateT SortSt Sem α}{Q:α->SortSt->Prop}(h1:c->wpS (model prog w) A E s I Q t)(h2:¬c->wpS (model prog w) A E s B Q t):wpS (model prog w) A E s (if c then I else B) Q t:=by
 by_cases h:c
 ·rw[if_pos h];exact h1 h
 ·rw[if_neg h];exact h2 h
def vH{a b:Nat}(h:(a == b)=true):a=b:=by simpa using h
def vV{a b:Nat}(h:¬(a == b)=true):a≠b:=by simpa using h
def Same.tr{v:SortSt}(h:Same t u)(g:Same u v):Same t v:=⟨g.arr.trans h.arr,g.kd.trans h.kd,g.pend.trans h.pend,g.ok.trans h.ok⟩
section
variable {γ:Type}{P:Nat->γ->Prop}{G:Array Keyed->Prop}{b:Prop}
structure Lq(P:Nat->γ->Prop)(G:Array Keyed->Prop)(b:Prop)(Q:ForInStep (Sn γ)->SortSt->Prop)(N:Nat)(t:SortSt):Prop where
 ok:∀o x u,Same t u->G o->Q (.done (some o,x)) u
 dn:b->∀x u N',Same t u->P N' x->N'<N->Q (.done (none,x)) u
 nx:∀x u N',Same t u->P N' x->N'<N->Q (.yield (none,x)) u
def Le(P:Nat->γ->Prop)(G:Array Keyed->Prop)(b:Prop)(N:Nat)(v:Sn γ):Prop:=(∃o,v.1=some o/\G o)\/b/\v.1=none/\∃N'<N,P N' v.2
def ka{Q:ForInStep (Sn γ)->SortSt->Prop}{x:γ}(q:Lq P G b Q N t)(S:Same t u)(h:G o):wpS (model prog w) A E s (Yr o x) Q u:=zU (q.ok _ _ _ S h)
def QE{Q:ForInStep (Sn γ)->SortSt->Prop}{x:γ}{N':Nat}{c:Prop}[Decidable c](q:Lq P G True Q N t)(S:Same t u)(h:P N' x)(hN:N'<N):wpS (model prog w) A E s (if c then zR1 x else zy2 x) Q u:=
 wH (λ_=>zU (q.dn trivial _ _ _ S h hN)) λ_=>zU (q.nx _ _ _ S h hN)
def ZV(b:Prop){m:Nat}{f:γ->SM (Fn γ)}{v:γ}{Q:Sn γ->SortSt->Prop}(Y:∀N x,P N x->1<=N)(hm:N<m)(hv:P N v)
  (U:∀v u Q N',Same t u->P N' v->N'<=N->Lq P G b Q N' u->wpS (model prog w) A E s (f v) Q u) (ne:∀v u,Same t u->Le P G b N v->Q v u) :
  wpS (model prog w) A E s (forIn [0:m] ((none,v):Sn γ) λ_ v=>f v.2) Q t:=by
 refine yO (wD (λx v u=>Same t u/\v.1=none/\∃N',N'+x<=N/\P N' v.2) (Q:=λv u=>Same t u/\Le P G b N v) ?_ ?_ ⟨.rfl',rfl,N,zk _,hv⟩) λv u h=>ne v u h.1 h.2
 ·rintro x v u _ hx ⟨S, _, N', hN', h⟩
  have J:N'<=N:=w5
  have e3:∀y,y<N'->y+(x+1)<=N:=λy h=>by lia
  exact U v.2 u _ N' S h J ⟨λo x u' h G=>⟨S.tr h,.inl ⟨o,rfl,G⟩⟩,λW x u' I h p B=>⟨S.tr h,.inr ⟨W,rfl,I,zZ B J,p⟩⟩,λx u' I h p B=>⟨S.tr h,rfl,I,e3 _ B,p⟩⟩
 ·rintro v u ⟨S, _, N', hN', h⟩;have:=Y _ _ h
  exfalso;lia
end
structure Lo(prog:Program)(w:World)(A:Around)(s:Shared)(n:Nat)(item:Nat->Keyed)(kd:SortKind)(r:Nat->Nat->Bool)(la lb:Array Nat):Prop where
 R:WRule prog w A s n item kd r
 T:Two n r la lb
 h1:r (lab lb 0) (lab la 0)=true
 h2:∀y∈lb.toList,r y (lab la (la.size-1))=true
structure PL(item:Nat->Keyed)(r:Nat->Nat->Bool)(la lb:Array Nat)(N:Nat)(o:Array Keyed)(i j:Nat):Prop where
 M:ML item r la lb o i j
 hi:i+1<la.size
 hj:j<lb.size
 hN:la.size-i+(lb.size-j)<=N
abbrev PLx{β:Type}(item:Nat->Keyed)(r:Nat->Nat->Bool)(la lb:Array Nat)(N:Nat)(x:Array Keyed × Nat × Nat × β):Prop:=PL item r la lb N x.1 x.2.1 x.2.2.1
abbrev QL{β:Type}(item:Nat->Keyed)(r:Nat->Nat->Bool)(la lb:Array Nat)(b:Prop)(Q:ForInStep (Sn (Array Keyed × Nat × Nat × β))->SortSt->Prop)(N:Nat)(t:SortSt):Prop:=Lq (PLx item r la lb) (Good item r la lb) b Q N t
def PL.pos{β:Type}(N:Nat)(x:Array Keyed × Nat × Nat × β)(h:PLx item r la lb N x):1<=N:=by have:=h.hN;have:=h.hi;lia
def PL.i0(p:PL item r la lb N o i j):i<la.size:=yS p.hi
def ML.eA(M:ML item r la lb o i j)(h:lb.size<=j\/la.size<=i):Good item r la lb (eA (la.map item) (lb.map item) o i j):=by
 unfold Srt.eA;rw[zS,zS];exact h.elim M.doneB M.doneA
variable (L:Lo prog w A s n item kd r la lb)
include L
theorem Lo.fa(hi:i<la.size)(hj:j<lb.size)(g:r (lab lb j) (lab la i)=false):∀y∈lb.toList.drop j,r y (lab la i)=false:=L.T.symm.hd L.R (L.T.al hi) hj g
theorem Lo.fb(hi:i<la.size)(hj:j<lb.size)(g:r (lab lb j) (lab la i)=true):∀y∈la.toList.drop i,r y (lab lb j)=false:=L.T.hd L.R (L.T.bl hj) hi (L.R.asy _ _ (L.T.bl hj) (L.T.al hi) g)
theorem Lo.eB(M:ML item r la lb o i j)(h:i+1=la.size):Good item r la lb (eB (la.map item) (lb.map item) o i j):=by
 unfold Srt.eB;rw[zS,zS];exact M.lastA L.R L.T L.h2 h
section
variable {Q:ForInStep (Sn Tn)->SortSt->Prop}
theorem Lo.l1(hk:kindOf t=kd)(q:QL item r la lb True Q N t)(p:PL item r la lb N o i j):wpS (model prog w) A E s (l1 (la.map item) (lb.map item) g c d o i j) Q t:=by
 obtain⟨M,hi,hj,hN⟩:=p;have B:=yS hi;refine zo (yj hj (zo (yj B (zo (Uu L.R hk (L.T.bl hj) (L.T.al B) (λe=>L.T.ne B hj e.symm) ?_)))));cases z:r (lab lb j) (lab la i)
 ·refine zo (yj B (wH (λe => ka q .rfl' (L.eB (M.pushA B (L.fa B hj z)) ?_)) λe => QE q .rfl' (N' := la.size - (i + 1) + (lb.size - j)) ⟨M.pushA B (L.fa B hj z), ?_, hj, zk _⟩ ?_))
  ·rw[zS] at e;exact vH e
  ·rw[zS] at e;have:=vV e;exact wv hi this
  ·lia
 ·refine zo (yj hj (wH (λe => ka q .rfl' ((M.pushB hj (L.fb B hj z)).eA (.inl ?_))) λe => QE q .rfl' (N' := la.size - i + (lb.size - (j + 1))) ⟨M.pushB hj (L.fb B hj z), hi, ?_, zk _⟩ ?_))
  ·rw[zS] at e;exact yG (vH e).symm
  ·rw[zS] at e;exact wv hj (vV e)
  ·lia
end
section
variable {Q:ForInStep (Sn Un)->SortSt->Prop} (q:QL item r la lb True Q N t) (S:Same t u)
include q S
theorem Lo.l4(p:PL item r la lb N o i j)(z:r (lab lb j) (lab la i)=false):wpS (model prog w) A E s (l4 (la.map item) (lb.map item) g c d o i j) Q u:=by
 obtain⟨M,hi,hj,hN⟩:=p;have B:=yS hi;refine zo (yj B ?_);have M1:=M.pushA B (L.fa B hj z);rw[zS]
 exact wH (λe=>ka q S (L.eB M1 (vH e))) λe=>QE q S (N':=la.size-(i+1)+(lb.size-j)) ⟨M1,wv hi (vV e),hj,zk _⟩ w5
theorem Lo.l3b(p:PL item r la lb N o i j)(hk:k<=lb.size-j)(I:∀i',i'<k->r (lab lb (j+i')) (lab la i)=true)(B:∀i',k<=i'->i'<lb.size-j->r (lab lb (j+i')) (lab la i)=false) :
  wpS (model prog w) A E s (l3b (la.map item) (lb.map item) g c d k o i j) Q u:=by
 obtain⟨M,hi,hj,hN⟩:=p
 refine wH (λ_=>?_) λ_=>L.l4 q S ⟨M,hi,hj,hN⟩ (B 0 w5 w5)
 have hk':j+k<=lb.size:=w5
 have M1:=M.addB hk' λi' h=>L.fb (yS hi) (j:=j+i') w5 (I i' h)
 rw[zS];refine wH (λe=>ka q S (M1.eA (.inl (yG (vH e).symm)))) λe=>?_;have hj':j+k<lb.size:=wv hk' (vV e)
 exact L.l4 q S ⟨M1,hi,hj',w5⟩ (B k (zk _) w5)
theorem Lo.l3(hk:kindOf t=kd)(p:PL item r la lb N o i j)(z:r (lab lb j) (lab la i)=true):wpS (model prog w) A E s (l3 (la.map item) (lb.map item) g c d o i j) Q u:=by
 obtain⟨M,hi,hj,hN⟩:=p;have B:=yS hi;refine zo (yj hj ?_);have M1:=M.pushB hj (L.fb B hj z);rw[zS];refine wH (λe=>ka q S (M1.eA (.inl (yG (vH e).symm)))) λe=>?_;have hj':j+1<lb.size:=wv hj (vV e)
 refine zo (yj B (zo (gal (m:=lb.size-(j+1)) (by':=λi'=>r (lab lb (j+1+i')) (lab la i)) (Nat.sub_pos_of_lt hj') (λi' h Q J=>?_) (λi' j' h1 h2 I=>?_) λk h W U=>L.l3b q S ⟨M1,hi,hj',w5⟩ h W U)))
 ·exact byd L.R (S.kd.trans hk) (L.T.al B) w5 (L.T.bl w5) (L.T.ne B w5) (by simpa using J)
 ·by_cases e : i' = j'
  ·rw[e];exact I
  ·cases z : r (lab lb (j + 1 + i')) (lab la i) with
   |true=>rfl
   |false=>exact absurd I (by rw[L.R.tr _ _ _ (L.T.al B) (L.T.bl (i:=j+1+i') w5) (L.T.bl (i:=j+1+j') w5) z (Yn L.T.bu w5 w5)];exact zK)
theorem Lo.l2b(hk:kindOf t=kd)(p:PL item r la lb N o i j)(hk':k<=la.size-i)(J:∀i',i'<k->r (lab lb j) (lab la (i+i'))=false)(I:∀i',k<=i'->i'<la.size-i->r (lab lb j) (lab la (i+i'))=true) :
  wpS (model prog w) A E s (l2b (la.map item) (lb.map item) g d k o i j) Q u:=by
 obtain⟨M,hi,hj,hN⟩:=p
 refine wH (λ_=>?_) λ_=>L.l3 q S hk ⟨M,hi,hj,hN⟩ (I 0 w5 w5)
 have B:i+k<=la.size:=w5
 have M1:=M.addA B λi' h=>L.fa (i:=i+i') w5 hj (J i' h)
 rw[zS];refine wH (λe=>ka q S (L.eB M1 (vH e))) λe=>wH (λe=>ka q S (M1.eA (.inr (yG (vH e).symm)))) λU=>?_
 have h3:i+k+1<la.size:=by have:=vV e;have:=vV U;lia
 exact L.l3 q S hk ⟨M1,h3,hj,w5⟩ (I k (zk _) w5)
theorem Lo.l2(hk:kindOf t=kd)(p:PL item r la lb N o i j):wpS (model prog w) A E s (l2 (la.map item) (lb.map item) c d o i j g) Q u:=by
 have hi:=p.i0;have hj:=p.hj;unfold Srt.l2;rw[vR,zS];refine zo (yC ?_);have B:=S.gal g;generalize Jy u g=u at B ⊢
 refine zo (yj hj (zo (gal (m:=la.size-i) (by':=λi'=>!r (lab lb j) (lab la (i+i'))) (Nat.sub_pos_of_lt hi) (λi' h Q J=>?_) (λi' j' h1 h2 I=>?_) λk h W U=>L.l2b q B hk p h (λi' h=>by simpa using W i' h) λi' h h'=>by simpa using U i' h h')))
 ·exact byd L.R (B.kd.trans hk) (L.T.bl hj) w5 (L.T.al w5) (λe=>L.T.ne w5 hj e.symm) (by simpa using J)
 ·by_cases e : i' = j'
  ·rw[e];exact I
  ·show (!r (lab lb j) (lab la (i + i'))) = true
   rw[L.R.tr _ _ _ (L.T.al (i:=i+i') w5) (L.T.al (i:=i+j') w5) (L.T.bl hj) (Yn L.T.au w5 w5) (by simpa using I)];rfl
end
theorem Lo.l7{b:Prop}{Q:ForInStep (Sn Vn)->SortSt->Prop}{v:Vn}(hk:kindOf t=kd)(q:QL item r la lb b Q N t)(p:PLx item r la lb N v)(hN:N<la.size+lb.size):wpS (model prog w) A E s (l7 (la.map item) (lb.map item) v) Q t:=by
 unfold Srt.l7;rw[zS,zS];refine zo (ZV (P:=PLx item r la lb) (G:=Good item r la lb) True PL.pos hN p (λv u Q N' S h _ q'=>L.l1 (S.kd.trans hk) q' h) λv u S h=>?_);unfold l6
 rcases h with ⟨o,e,G⟩ |⟨_,e,N',h,h'⟩
 ·rw[e];exact ka q S G
 rw[e,zS,zS];refine zo (wpS_lift (wz ⟨rfl,zo (ZV (P:=PLx item r la lb) (G:=Good item r la lb) True PL.pos (yE h hN) h' (λv u' Q N' S' h' _ q'=>?_) λv u' S' h2=>?_)⟩))
 ·have hk':=(S.tr S').kd.trans hk;exact wH (λ_=>L.l2 q' .rfl' hk' h') λ_=>L.l2 q' .rfl' hk' h'
 ·unfold l5
  rcases h2 with ⟨o,e,G⟩ |⟨_,e,B,h2,h3⟩
  ·rw[e];exact ka q (S.tr S') G
  ·rw[e,vR];exact zo (yC (zU (q.nx _ _ _ ((S.tr S').gal _) h3 (yE h2 h))))
theorem mlo(hk:kindOf t=kd)(ha:1<=la.size)(B:1<=lb.size){Q:Array Keyed->SortSt->Prop}(q:∀out t',Same t t'->Good item r la lb out->Q out t'):wpS (model prog w) A E s (Vi (la.map item) (lb.map item)) Q t:=by
 rw[Uq];unfold l8;refine zo (wpS_lift (wz ⟨rfl,zo (yj B ?_)⟩));rw[zS,zS]
 have J:ML item r la lb #[] 0 0:=⟨#[],by simp,by
  simp only[yx]
  exact⟨List.Perm.refl _,.nil,by simp,by simp,L.T.au,L.T.bu⟩⟩
 have M1:=J.pushB B (L.fb ha B L.h1);change ML item r la lb #[item (lab lb 0)] 0 1 at M1;generalize #[item (lab lb 0)]=o at M1 ⊢;refine wH (λe=>zU (q _ _ .rfl' (M1.eA (.inl (yG (vH e).symm))))) λe=>?_;refine wH (λe=>zU (q _ _ .rfl' (L.eB M1 (vH e)))) λI=>?_;have i2:1<lb.size:=wv B (vV e)
 have hN:la.size-0+(lb.size-1)<la.size+lb.size:=w5
 refine zo (wpS_get (zo (ZV (P:=PLx item r la lb) (G:=Good item r la lb) False PL.pos hN ⟨M1,wv ha (vV I),i2,zk _⟩ (λv u Q N' S h h' q'=>L.l7 (S.kd.trans hk) q' h (yF h' hN)) λv u S h=>?_)))
 rcases h with ⟨o,e,G⟩ |⟨f,_⟩
 ·unfold zS6;rw[e];exact zU (q _ _ S G)
 ·exact f.elim
end
section
variable (a b:Array Keyed)
abbrev Th:=Nat × Nat × Array Keyed × Nat × Nat
abbrev Uh:=Nat × Nat × Array Keyed × Nat × Nat × Nat
abbrev Vh:=Nat × Nat × Array Keyed × Nat
def hA(o:Array Keyed)(i j:Nat):Array Keyed:=a.extract 0 i++b.extract 0 j++o.reverse
def hB(o:Array Keyed)(i j:Nat):Array Keyed:=b.extract 0 j++a.extract 0 i++o.reverse
def h1(g c d:Nat)(o:Array Keyed)(i j:Nat):SM (Fn Th):=elem' b (j-1) >>= λy=>elem' a (i-1) >>= λx=>lt' y x >>= λw=>match w with
 |some w=>if w=true then elem' a (i-1) >>= λz=>if (i-1 == 0)=true then Yr (hA a b (o.push z) (i-1) j) (i-1,j,o.push z,c+1,0) else if c+1>=g then zR1 (i-1,j,o.push z,c+1,0) else zy2 (i-1,j,o.push z,c+1,0)
  else elem' b (j-1) >>= λz=>if (j-1 == 1)=true then Yr (hB a b (o.push z) i (j-1)) (i,j-1,o.push z,0,d+1) else if d+1>=g then zR1 (i,j-1,o.push z,0,d+1) else zy2 (i,j-1,o.push z,0,d+1)
 |_=>Yr (hA a b o i j) (i,j,o,c,d)
def h4(g c d:Nat)(o:Array Keyed)(i j:Nat):SM (Fn Uh):=elem' a (i-1) >>= λx=>if (i-1 == 0)=true then Yr (hA a b (o.push x) (i-1) j) (i-1,j,o.push x,g,c,d)
 else if (decide (c<7)&&decide (d<7))=true then zR1 (i-1,j,o.push x,g,c,d) else zy2 (i-1,j,o.push x,g,c,d)
def h3b(g c k:Nat)(o:Array Keyed)(i j:Nat):SM (Fn Uh):=if j-k > 0 then
  if (k == 1)=true then Yr (hB a b (o++(b.extract k j).reverse) i k) (i,k,o++(b.extract k j).reverse,g,c,j-k)
  else if (k == 0)=true then Yr (hA a b (o++(b.extract k j).reverse) i k) (i,k,o++(b.extract k j).reverse,g,c,j-k) else h4 a b g c (j-k) (o++(b.extract k j).reverse) i k
 else h4 a b g c (j-k) o i j
def h3(g c d:Nat)(o:Array Keyed)(i j:Nat):SM (Fn Uh):=elem' b (j-1) >>= λy=>if (j-1 == 1)=true then Yr (hB a b (o.push y) i (j-1)) (i,j-1,o.push y,g,c,d)
 else elem' a (i-1) >>= λx=>jr true x b 0 (j-1) (j-1-1) >>= λk=>match k with
  |some k=>h3b a b g c k (o.push y) i (j-1)
  |_=>Yr (hA a b (o.push y) i (j-1)) (i,j-1,o.push y,g,c,d)
def h2b(g d k:Nat)(o:Array Keyed)(i j:Nat):SM (Fn Uh):=if i-k > 0 then
  if (k == 0)=true then Yr (hA a b (o++(a.extract k i).reverse) k j) (k,j,o++(a.extract k i).reverse,g,i-k,d) else h3 a b g (i-k) d (o++(a.extract k i).reverse) k j
 else h3 a b g (i-k) d o i j
def h2(c d:Nat)(o:Array Keyed)(i j g:Nat):SM (Fn Uh):=vX g >>= λ_=>elem' b (j-1) >>= λy=>jr false y a 0 i (i-1) >>= λk=>match k with
 |some k=>h2b a b g d k o i j
 |_=>Yr (hA a b o i j) (i,j,o,g,c,d)
def h2u(u:Uh):SM (Fn Uh):=if u.2.2.2.1 > 1 then h2 a b u.2.2.2.2.1 u.2.2.2.2.2 u.2.2.1 u.1 u.2.1 (u.2.2.2.1-1) else h2 a b u.2.2.2.2.1 u.2.2.2.2.2 u.2.2.1 u.1 u.2.1 u.2.2.2.1
def h5(s:Sn Uh):SM (Fn Vh):=match s.1 with
 |some r=>Yr r (s.2.1,s.2.2.1,s.2.2.2.1,s.2.2.2.2.1)
 |none=>vX (s.2.2.2.2.1+1) >>= λ_=>zy2 (s.2.1,s.2.2.1,s.2.2.2.1,s.2.2.2.2.1+1)
def h6(g:Nat)(s:Sn Th):SM (Fn Vh):=match s.1 with
 |some r=>Yr r (s.2.1,s.2.2.1,s.2.2.2.1,g)
 |none=>(rule "list.sort.gallop" : SM Unit) >>= λ_=>forIn [0:a.size+b.size] ((none,s.2.1,s.2.2.1,s.2.2.2.1,g+1,s.2.2.2.2.1,s.2.2.2.2.2):Sn Uh) (λ_ u=>h2u a b u.2) >>= λu=>h5 u
def h1t(g:Nat)(s:Th):SM (Fn Th):=h1 a b g s.2.2.2.1 s.2.2.2.2 s.2.2.1 s.1 s.2.1
def h7(v:Vh):SM (Fn Vh):=forIn [0:a.size+b.size] ((none,v.1,v.2.1,v.2.2.1,0,0):Sn Th) (λ_ s=>h1t a b v.2.2.2 s.2) >>= λs=>h6 a b v.2.2.2 s
def h8:SM (Array Keyed):=(rule "list.sort.merge-hi" : SM Unit) >>= λ_=>elem' a (a.size-1) >>= λy=>if (a.size-1 == 0)=true then pure (hA a b #[y] (a.size-1) b.size)
 else if (b.size == 1)=true then pure (hB a b #[y] (a.size-1) b.size)
 else get >>= λst=>forIn [0:a.size+b.size] ((none,a.size-1,b.size,#[y],gallopOf st):Sn Vh) (λ_ v=>h7 a b v.2) >>= λv=>zS6 v
theorem Ur:Vj a b=h8 a b:=by
 show bind _ _=bind _ _
 congr 1;funext x;dsimp only
 congr 1;funext y
 by_cases e:(a.size-1 == 0)=true
 ·rw[if_pos e,if_pos e];rfl
 rw[if_neg e,if_neg e]
 by_cases B:(b.size == 1)=true
 ·rw[if_pos B,if_pos B];rfl
 rw[if_neg B,if_neg B]
 congr 1;funext st
 congr 1
 ·congr 1
  funext x v
  unfold h7
  congr 1
  funext s
  unfold h6;cases s.1
  ·dsimp only
   congr 1;funext x
   congr 1
   funext u
   unfold h5
   cases u.1<;>rfl
  ·rfl
 ·funext v
  unfold zS6
  cases v.1<;>rfl
end
section
variable {prog:Program}{w:World}{A:Around}{E:QqV}{s:Shared}{t:SortSt}{n:Nat}{u:SortSt}{item:Nat->Keyed}{kd:SortKind}{r:Nat->Nat->Bool}
structure MH(item:Nat->Keyed)(r:Nat->Nat->Bool)(la lb:Array Nat)(out:Array Keyed)(na nb:Nat):Prop where
 o:∃O:Array Nat,out=O.map item/\MI (λx y=>r x y=false) (la.toList++lb.toList) O.toList (la.toList.take na).reverse (lb.toList.take nb).reverse
def qg{ks:Array Nat}{k x:Nat}(hk:k<=ks.size):x∈ks.toList.take k↔∃i,i<k/\x=lab ks i:=by
 rw[List.mem_iff_getElem?]
 constructor
 ·rintro ⟨i, h⟩;rw[yI] at h
  split at h
  ·rename_i g
   rw[zL,yX w5] at h
   exact⟨i,g,(zN h).symm⟩
  ·cases h
 ·rintro ⟨i, h1, rfl⟩
  exact⟨i,by rw[yI,if_pos h1,zL,yX w5]⟩
def Ju{ks:Array Nat}{k:Nat}(h1:1<=k)(hk:k<=ks.size):(ks.toList.take k).reverse=[lab ks (k-1)]++(ks.toList.take (k-1)).reverse:=by
 obtain⟨m,rfl⟩:∃m,k=m+1:=⟨k-1,w5⟩
 rw[Nat.add_sub_cancel,xp,zL,yX w5,wU]
 rfl
def Jv{ks:Array Nat}{j k:Nat}(h:j<=k):(ks.toList.take k).reverse=(ks.extract j k).reverse.toList++(ks.toList.take j).reverse:=by
 rw[Array.toList_reverse,wm,xS,<- wU]
 have e:(ks.toList.take k).take j=ks.toList.take j:=by rw[List.take_take,Nat.min_eq_left h]
 rw[<- List.drop_take,<- e,wL]
def zj5{ks:Array Nat}{j k x:Nat}(hk:k<=ks.size)(hx:x∈(ks.extract j k).reverse.toList):∃i,j<=i/\i<k/\x=lab ks i:=by
 rw[Array.toList_reverse,wr,wm,xS,<- List.drop_take,List.mem_iff_getElem?] at hx;obtain⟨i,hi⟩:=hx;rw[xZ,yI] at hi
 split at hi
 ·rename_i g
  rw[zL,yX w5] at hi
  exact⟨j+i,w5,g,(zN hi).symm⟩
 ·cases hi
section
variable {la lb:Array Nat}{out:Array Keyed}{na nb:Nat}
def Two.hh(R:WRule prog w A s n item kd r)(T:Two n r la lb){c m:Nat}(B:c<n)(h:m<la.size)(g:r c (lab la m)=false):∀i,i<=m->r c (lab la i)=false:=λi hi=>by
 by_cases e:i=m
 ·rw[e];exact g
 ·exact R.tr _ _ _ (T.al w5) (T.al h) B (Yn T.au w5 h) g
def MH.pushA(M:MH item r la lb out na nb)(h:1<=na)(ha:na<=la.size)(I:nb<=lb.size)(g:∀j,j<nb->r (lab la (na-1)) (lab lb j)=false):MH item r la lb (out.push (item (lab la (na-1)))) (na-1) nb:=by
 obtain⟨O,rfl,m⟩:=M.o;rw[Ju h ha] at m
 refine⟨O.push (lab la (na-1)),by rw[Array.map_push],?_⟩
 rw[yV]
 exact m.takeA λx hx y B=>by
  obtain⟨j,hj,rfl⟩:=(qg I).mp (wr.mp B);rw[zw.mp hx];exact g j hj
def MH.pushB(M:MH item r la lb out na nb)(h:1<=nb)(ha:na<=la.size)(I:nb<=lb.size)(g:∀j,j<na->r (lab lb (nb-1)) (lab la j)=false):MH item r la lb (out.push (item (lab lb (nb-1)))) na (nb-1):=by
 obtain⟨O,rfl,m⟩:=M.o;rw[Ju h I] at m
 refine⟨O.push (lab lb (nb-1)),by rw[Array.map_push],?_⟩
 rw[yV]
 exact m.takeB λx hx y B=>by
  obtain⟨j,hj,rfl⟩:=(qg ha).mp (wr.mp B);rw[zw.mp hx];exact g j hj
def MH.addA(M:MH item r la lb out na nb){k:Nat}(h:k<=na)(ha:na<=la.size)(I:nb<=lb.size)(g:∀i,k<=i->i<na->∀j,j<nb->r (lab la i) (lab lb j)=false):MH item r la lb (out++((la.map item).extract k na).reverse) k nb:=by
 obtain⟨O,rfl,m⟩:=M.o;rw[Jv h] at m
 refine⟨O++(la.extract k na).reverse,by rw[xW,Array.map_reverse,xz],?_⟩
 rw[xa]
 exact m.takeA λx hx y B=>by
  obtain⟨j,hj,rfl⟩:=(qg I).mp (wr.mp B);obtain⟨i,i1,i2,rfl⟩:=zj5 ha hx;exact g i i1 i2 j hj
def MH.addB(M:MH item r la lb out na nb){k:Nat}(h:k<=nb)(ha:na<=la.size)(I:nb<=lb.size)(g:∀i,k<=i->i<nb->∀j,j<na->r (lab lb i) (lab la j)=false):MH item r la lb (out++((lb.map item).extract k nb).reverse) na k:=by
 obtain⟨O,rfl,m⟩:=M.o;rw[Jv h] at m
 refine⟨O++(lb.extract k nb).reverse,by rw[xW,Array.map_reverse,xz],?_⟩
 rw[xa]
 exact m.takeB λx hx y B=>by
  obtain⟨j,hj,rfl⟩:=(qg ha).mp (wr.mp B);obtain⟨i,i1,i2,rfl⟩:=zj5 I hx;exact g i i1 i2 j hj
def Vp{ks:Array Nat}{i:Nat}:(ks.extract 0 i).toList=ks.toList.take i:=by
 rw[wm,xS,yx,Nat.sub_zero]
def MH.done(M:MH item r la lb out na nb)(ha:na<=la.size)(U:nb<=lb.size)(g:∀i,i<nb->∀j,j<na->r (lab lb i) (lab la j)=false):Good item r la lb ((la.map item).extract 0 na++(lb.map item).extract 0 nb++out.reverse):=by
 obtain⟨O,rfl,m⟩:=M.o
 obtain⟨I,B⟩:=m.endB λx hx y J=>by
  obtain⟨i,hi,rfl⟩:=(qg U).mp (wr.mp hx);obtain⟨j,hj,rfl⟩:=(qg ha).mp (wr.mp J);exact g i hi j hj
 have e:(la.extract 0 na++lb.extract 0 nb++O.reverse).toList=(O.toList++(lb.toList.take nb).reverse++(la.toList.take na).reverse).reverse:=by
  rw[xa,xa,Vp,Vp,Array.toList_reverse,wU,wU,reverse_reverse,reverse_reverse,wG]
 refine⟨la.extract 0 na++lb.extract 0 nb++O.reverse,by rw[xW,xW,xz,xz,Array.map_reverse],?_,?_⟩
 ·rw[e];exact(yU _).trans I
 ·rw[e,List.pairwise_reverse];exact B
def MH.first(M:MH item r la lb out na nb)(ha:na<=la.size)(U:nb<=lb.size)(g:∀j,j<na->∀i,i<nb->r (lab la j) (lab lb i)=false):Good item r la lb ((lb.map item).extract 0 nb++(la.map item).extract 0 na++out.reverse):=by
 obtain⟨O,rfl,m⟩:=M.o
 obtain⟨I,B⟩:=m.endA λx hx y J=>by
  obtain⟨i,hi,rfl⟩:=(qg ha).mp (wr.mp hx);obtain⟨j,hj,rfl⟩:=(qg U).mp (wr.mp J);exact g i hi j hj
 have e:(lb.extract 0 nb++la.extract 0 na++O.reverse).toList=(O.toList++(la.toList.take na).reverse++(lb.toList.take nb).reverse).reverse:=by
  rw[xa,xa,Vp,Vp,Array.toList_reverse,wU,wU,reverse_reverse,reverse_reverse,wG]
 refine⟨lb.extract 0 nb++la.extract 0 na++O.reverse,by rw[xW,xW,xz,xz,Array.map_reverse],?_,?_⟩
 ·rw[e];exact(yU _).trans I
 ·rw[e,List.pairwise_reverse];exact B
end
section
variable {N c d g i j k:Nat}{o:Array Keyed}{la lb:Array Nat}
structure PH(item:Nat->Keyed)(r:Nat->Nat->Bool)(la lb:Array Nat)(N:Nat)(o:Array Keyed)(i j:Nat):Prop where
 M:MH item r la lb o i j
 i1:1<=i
 i2:i<=la.size
 j1:2<=j
 j2:j<=lb.size
 hN:i+j<=N
abbrev PHx{β:Type}(item:Nat->Keyed)(r:Nat->Nat->Bool)(la lb:Array Nat)(N:Nat)(x:Nat × Nat × Array Keyed × β):Prop:=PH item r la lb N x.2.2.1 x.1 x.2.1
abbrev QH{β:Type}(item:Nat->Keyed)(r:Nat->Nat->Bool)(la lb:Array Nat)(b:Prop)(Q:Fn (Nat × Nat × Array Keyed × β)->SortSt->Prop)(N:Nat)(t:SortSt):Prop:=Lq (PHx item r la lb) (Good item r la lb) b Q N t
def PH.pos{β:Type}(N:Nat)(x:Nat × Nat × Array Keyed × β)(h:PHx item r la lb N x):1<=N:=zF h.i1 (zF (Nat.le_add_right _ _) h.hN)
def ze5{i m:Nat}(h:1<=i)(h':i<=m):i-1<m:=w5
def zs6{j:Nat}(h:2<=j):1<=j:=w5
def xo5{i:Nat}(h:1<=i)(e:¬(i-1 == 0)=true):1<=i-1:=by have:=vV e;lia
def xB6{j:Nat}(h:2<=j)(e:¬(j-1 == 1)=true):2<=j-1:=by have:=vV e;lia
def lt3{m i:Nat}(h:1<=i)(hm:m<i):m<i-1+1:=w5
variable (L:Lo prog w A s n item kd r la lb)
include L
theorem Lo.hA(hi:i<la.size)(hj:j<lb.size)(g:r (lab lb j) (lab la i)=true):∀m,m<j+1->r (lab la i) (lab lb m)=false:=λm hm=>L.T.symm.hh L.R (L.T.al hi) hj (L.R.asy _ _ (L.T.bl hj) (L.T.al hi) g) m (Nat.le_of_lt_succ hm)
theorem Lo.hB(hi:i<la.size)(hj:j<lb.size)(g:r (lab lb j) (lab la i)=false):∀m,m<i+1->r (lab lb j) (lab la m)=false:=λm hm=>L.T.hh L.R (L.T.bl hj) hi g m (Nat.le_of_lt_succ hm)
theorem Lo.fst(M:MH item r la lb o i j)(hi:i<=la.size)(B:1<=lb.size)(hj:j=1):Good item r la lb (Srt.hB (la.map item) (lb.map item) o i j):=M.first hi w5 λj' hj' i' hi'=>by
 obtain rfl:i'=0:=w5
 have z:r (lab la 0) (lab lb 0)=false:=L.R.asy _ _ (L.T.bl B) (L.T.al w5) L.h1
 by_cases e:j'=0
 ·rw[e];exact z
 ·exact L.R.tr _ _ _ (L.T.bl B) (L.T.al (i:=0) w5) (L.T.al w5) z (Yn L.T.au w5 w5)
omit L in
theorem MH.don(M:MH item r la lb o i j)(hi:i<=la.size)(hj:j<=lb.size)(h:i=0\/j=0):Good item r la lb (Srt.hA (la.map item) (lb.map item) o i j):=M.done hi hj λi' hi' j' hj'=>by lia
theorem Lo.pA(p:PH item r la lb N o i j)(z:r (lab lb (j-1)) (lab la (i-1))=true):MH item r la lb (o.push (item (lab la (i-1)))) (i-1) j:=p.M.pushA p.i1 p.i2 p.j2 λm hm=>L.hA (ze5 p.i1 p.i2) (ze5 (zs6 p.j1) p.j2) z m (lt3 (zs6 p.j1) hm)
theorem Lo.pB(p:PH item r la lb N o i j)(z:∀m,m<i->r (lab lb (j-1)) (lab la m)=false):MH item r la lb (o.push (item (lab lb (j-1)))) i (j-1):=p.M.pushB (zs6 p.j1) p.i2 p.j2 z
theorem Lo.h1'{Q:Fn Th->SortSt->Prop}(hk:kindOf t=kd)(q:QH item r la lb True Q N t)(p:PH item r la lb N o i j):wpS (model prog w) A E s (Srt.h1 (la.map item) (lb.map item) g c d o i j) Q t:=by
 have hi:=ze5 p.i1 p.i2;have hj:=ze5 (zs6 p.j1) p.j2;have hN:=p.hN;have i1:=p.i1;have j1:=p.j1;refine zo (yj hj (zo (yj hi (zo (Uu L.R hk (L.T.bl hj) (L.T.al hi) (λe=>L.T.ne hi hj e.symm) ?_)))));cases z:r (lab lb (j-1)) (lab la (i-1))
 ·have M := L.pB p λm hm => L.hB hi hj z m (lt3 i1 hm)
  exact zo (yj hj (wH (λe=>ka q .rfl' (L.fst M p.i2 (zF (zs6 j1) p.j2) (vH e))) λe=>QE q .rfl' (N':=i+(j-1)) ⟨M,i1,p.i2,xB6 j1 e,xG hj,zk _⟩ w5))
 ·have M := L.pA p z
  exact zo (yj hi (wH (λe=>ka q .rfl' (M.don (xG hi) p.j2 (.inl (vH e)))) λe=>QE q .rfl' (N':=i-1+j) ⟨M,xo5 i1 e,xG hi,j1,p.j2,zk _⟩ w5))
section
variable {Q:Fn Uh->SortSt->Prop} (q:QH item r la lb True Q N t) (S:Same t u)
include q S
theorem Lo.h4(M:MH item r la lb o i j)(i1:1<=i)(i2:i<=la.size)(j1:2<=j)(j2:j<=lb.size)(hN:i+j<=N)(z:∀m,m<j->r (lab la (i-1)) (lab lb m)=false):wpS (model prog w) A E s (h4 (la.map item) (lb.map item) g c d o i j) Q u:=by
 have hi:=ze5 i1 i2;have M1:=M.pushA i1 i2 j2 z
 exact zo (yj hi (wH (λe=>ka q S (M1.don (xG hi) j2 (.inl (vH e)))) λe=>QE q S (N':=i-1+j) ⟨M1,xo5 i1 e,xG hi,j1,j2,zk _⟩ w5))
theorem Lo.h3b(p:PH item r la lb N o i j)(hk:k<=j)(W:∀m,m<k->r (lab lb m) (lab la (i-1))=true)(U:∀m,k<=m->m<j->r (lab lb m) (lab la (i-1))=false) :
  wpS (model prog w) A E s (h3b (la.map item) (lb.map item) g c k o i j) Q u:=by
 obtain⟨M,i1,i2,j1,j2,hN⟩:=p;have hi:=ze5 i1 i2
 have z:∀m,m<k->r (lab la (i-1)) (lab lb m)=false:=λm hm=>L.R.asy _ _ (L.T.bl w5) (L.T.al hi) (W m hm)
 refine wH (λ_=>?_) λe=>?_
 ·have M1 := M.addB hk i2 j2 λm J I x hx => L.hB hi w5 (U m J I) x (lt3 i1 hx)
  have B:k<=lb.size:=zF hk j2
  exact wH (λe=>ka q S (L.fst M1 i2 w5 (vH e))) λe=>wH (λe=>ka q S (M1.don i2 B (.inr (vH e)))) λe'=>L.h4 q S M1 i1 i2 (by have:=vV e;have:=vV e';lia) B w5 z
 ·obtain rfl : k = j := by lia
  exact L.h4 q S M i1 i2 j1 j2 hN z
theorem Lo.h3(hk:kindOf t=kd)(p:PH item r la lb N o i j)(z:∀m,m<i->r (lab lb (j-1)) (lab la m)=false):wpS (model prog w) A E s (h3 (la.map item) (lb.map item) g c d o i j) Q u:=by
 have hi:=ze5 p.i1 p.i2;have hj:=ze5 (zs6 p.j1) p.j2;have M1:=L.pB p z;obtain⟨M,i1,i2,j1,j2,hN⟩:=p
 refine zo (yj hj (wH (λe=>ka q S (L.fst M1 i2 w5 (vH e))) λe=>?_))
 have j1':=xB6 j1 e
 refine zo (yj hi (zo (gal (m:=j-1) (by':=λm=>r (lab lb (0+m)) (lab la (i-1))) w5 (λm h Q I=>?_) (λm x h1 h2 B=>?_) λk h U J=>L.h3b q S ⟨M1,i1,i2,j1',xG hj,w5⟩ h (λm h=>by have:=U m h;rwa [Nat.zero_add] at this) λm h h'=>by have:=J m h h';rwa [Nat.zero_add] at this)))
 ·exact byd L.R (S.kd.trans hk) (L.T.al hi) w5 (L.T.bl w5) (L.T.ne hi w5) (by simpa using I)
 ·by_cases e : m = x
  ·rw[e];exact B
  ·cases z : r (lab lb (0 + m)) (lab la (i - 1)) with
   |true=>rfl
   |false=>exact absurd B (by rw[L.R.tr _ _ _ (L.T.al hi) (L.T.bl (i:=0+m) w5) (L.T.bl (i:=0+x) w5) z (Yn L.T.bu w5 w5)];exact zK)
theorem Lo.h2b(hk:kindOf t=kd)(p:PH item r la lb N o i j)(hk':k<=i)(I:∀m,m<k->r (lab lb (j-1)) (lab la m)=false)(W:∀m,k<=m->m<i->r (lab lb (j-1)) (lab la m)=true):wpS (model prog w) A E s (h2b (la.map item) (lb.map item) g d k o i j) Q u:=by
 refine wH (λ_=>?_) λe=>?_
 ·obtain ⟨M, i1, i2, j1, j2, hN⟩ := p;have hj:=ze5 (zs6 j1) j2
  have M1:=M.addA hk' i2 j2 λm U J x hx=>L.hA w5 hj (W m U J) x (lt3 (zs6 j1) hx)
  have B:=zF hk' i2
  exact wH (λe=>ka q S (M1.don B j2 (.inl (vH e)))) λe=>L.h3 q S hk ⟨M1,Nat.pos_of_ne_zero (vV e),B,j1,j2,w5⟩ I
 ·obtain rfl : k = i := by lia
  exact L.h3 q S hk p I
theorem Lo.h2'(hk:kindOf t=kd)(p:PH item r la lb N o i j):wpS (model prog w) A E s (Srt.h2 (la.map item) (lb.map item) c d o i j g) Q u:=by
 have hj:=ze5 (zs6 p.j1) p.j2;have i1:=p.i1;have i2:=p.i2;unfold Srt.h2;rw[vR];refine zo (yC ?_);have B:=S.gal g;generalize Jy u g=u at B ⊢
 refine zo (yj hj (zo (gal (m:=i) (by':=λm=>!r (lab lb (j-1)) (lab la (0+m))) w5 (λm h Q J=>?_) (λm x h1 h2 I=>?_) λk h W U=>L.h2b q B hk p h (λm h=>by have:=W m h;rw[Nat.zero_add] at this;simpa using this) λm h h'=>by have:=U m h h';rw[Nat.zero_add] at this;simpa using this)))
 ·exact byd L.R (B.kd.trans hk) (L.T.bl hj) w5 (L.T.al w5) (λe=>L.T.ne w5 hj e.symm) (by simpa using J)
 ·by_cases e : m = x
  ·rw[e];exact I
  ·show (!r (lab lb (j - 1)) (lab la (0 + m))) = true
   rw[L.R.tr _ _ _ (L.T.al (i:=0+m) w5) (L.T.al (i:=0+x) w5) (L.T.bl hj) (Yn L.T.au w5 w5) (by simpa using I)];rfl
end
theorem Lo.h7{b:Prop}{Q:Fn Vh->SortSt->Prop}{v:Vh}(hk:kindOf t=kd)(q:QH item r la lb b Q N t)(p:PHx item r la lb N v)(hN:N<la.size+lb.size):wpS (model prog w) A E s (h7 (la.map item) (lb.map item) v) Q t:=by
 unfold Srt.h7;rw[zS,zS];refine zo (ZV (P:=PHx item r la lb) (G:=Good item r la lb) True PH.pos hN p (λv u Q N' S h _ q'=>L.h1' (S.kd.trans hk) q' h) λv u S h=>?_);unfold h6
 rcases h with ⟨o,e,G⟩ |⟨_,e,N',h,h'⟩
 ·rw[e];exact ka q S G
 rw[e,zS,zS];refine zo (wpS_lift (wz ⟨rfl,zo (ZV (P:=PHx item r la lb) (G:=Good item r la lb) True PH.pos (yE h hN) h' (λv u' Q N' S' h' _ q'=>?_) λv u' S' h2=>?_)⟩))
 ·have hk':=(S.tr S').kd.trans hk;exact wH (λ_=>L.h2' q' .rfl' hk' h') λ_=>L.h2' q' .rfl' hk' h'
 ·unfold h5
  rcases h2 with ⟨o,e,G⟩ |⟨_,e,B,h2,h3⟩
  ·rw[e];exact ka q (S.tr S') G
  ·rw[e,vR];exact zo (yC (zU (q.nx _ _ _ ((S.tr S').gal _) h3 (yE h2 h))))
theorem mhi(hk:kindOf t=kd)(ha:1<=la.size)(J:1<=lb.size){Q:Array Keyed->SortSt->Prop}(q:∀out t',Same t t'->Good item r la lb out->Q out t'):wpS (model prog w) A E s (Vj (la.map item) (lb.map item)) Q t:=by
 rw[Ur];unfold h8;rw[zS,zS];have B:la.size-1<la.size:=ze5 ha (zk _);refine zo (wpS_lift (wz ⟨rfl,zo (yj B ?_)⟩))
 have W:MH item r la lb #[] la.size lb.size:=⟨#[],by simp,by
  have I:la.toList.take la.size=la.toList:=wW (by rw[zj];exact zk _)
  have U:lb.toList.take lb.size=lb.toList:=wW (by rw[zj];exact zk _)
  rw[I,U]
  exact⟨by simpa using (yU _).append (yU _),.nil,by simp,by simp,List.pairwise_reverse.mpr L.T.au,List.pairwise_reverse.mpr L.T.bu⟩⟩
 have M1:=W.pushA ha (zk _) (zk _) λj hj=>L.R.asy _ _ (L.T.bl hj) (L.T.al B) (L.h2 _ (qk hj));change MH item r la lb #[item (lab la (la.size-1))] (la.size-1) lb.size at M1;generalize #[item (lab la (la.size-1))]=o at M1 ⊢;refine wH (λe=>zU (q _ _ .rfl' (M1.don (xG B) (zk _) (.inl (vH e))))) λe=>wH (λe=>zU (q _ _ .rfl' (L.fst M1 (xG B) J (vH e)))) λI=>?_;have hN:la.size-1+lb.size<la.size+lb.size:=Nat.add_lt_add_right B _;refine zo (wpS_get (zo (ZV (P:=PHx item r la lb) (G:=Good item r la lb) False PH.pos hN ⟨M1,xo5 ha e,xG B,wv J (λz=>vV I z.symm),zk _,zk _⟩ (λv u Q N' S h h' q'=>L.h7 (S.kd.trans hk) q' h (yF h' hN)) λv u S h=>?_)))
 rcases h with ⟨o,e,G⟩ |⟨f,_⟩
 ·unfold zS6;rw[e];exact zU (q _ _ S G)
 ·exact f.elim
end
end
theorem JJ{α:Type}:∀(l:List α) (arr:Array α) (sa k:Nat),sa+k+l.length<=arr.size->((l.zipIdx k).foldl (λa (p:α × Nat)=>a.setIfInBounds (sa+p.2) p.1) arr).toList=arr.toList.take (sa+k)++l++arr.toList.drop (sa+k+l.length)
 |[],arr,sa,k,h=>by simp
 | x :: l, arr, sa, k, h => by
  rw[zA] at h
  have hi:sa+k<arr.toList.length:=by rw[zj];lia
  rw[yv,List.foldl_cons,JJ l _ sa (k+1) (by rw[Array.size_setIfInBounds];lia),Array.toList_setIfInBounds]
  have I:(arr.toList.set (sa+k) x).take (sa+(k+1))=arr.toList.take (sa+k)++[x]:=by
   rw[<- Nat.add_assoc,xp,List.take_set_of_le (zk _),xq hi];rfl
  have B:(arr.toList.set (sa+k) x).drop (sa+(k+1)+l.length)=arr.toList.drop (sa+k+(l.length+1)):=by
   rw[List.drop_set_of_lt w5]
   congr 1;lia
  rw[I,B,zA];simp
def zG0{M:Model}{A:Around}{E:QqV}{s:Shared}{σ:Type}{st':σ}{Q:PUnit->σ->Prop}{st:σ}(h:Q ⟨⟩ st'):wpS M A E s (set st':StateT σ Sem PUnit) Q st:=by
 unfold wpS;rw[StateT.run_set];exact ze ⟨rfl,h⟩
structure Nw(n:Nat)(item:Nat->Keyed)(kd:SortKind)(ls:Array Nat)(t:SortSt):Prop where
 arr:arrOf t=ls.map item
 kd:kindOf t=kd
 ok:failedOf t=none
 perm:ls.Perm (Array.range n)
def Seg(r:Nat->Nat->Bool)(ls:Array Nat)(s m:Nat):Prop:=∀i j,s<=i->i<j->j<s+m->r (lab ls j) (lab ls i)=false
section
variable {n:Nat}{item:Nat->Keyed}{kd:SortKind}{r:Nat->Nat->Bool}{ls:Array Nat}{t:SortSt}
def ZQ(h:ls.Perm (Array.range n)):ls.toList.Nodup:=(xV.mp h).nodup_iff.mpr (by rw[yJ];exact List.nodup_range)
def Nw.size(N:Nw n item kd ls t):ls.size=n:=by rw[N.perm.size_eq,yb]
def Vb(h:ls.Perm (Array.range n)){x:Nat}(hx:x∈ls.toList):x<n:=by
 have:=((xV.mp h).mem_iff).mp hx
 rwa [yJ,yY] at this
def Nw.lt(N:Nw n item kd ls t){i:Nat}(h:i<n):lab ls i<n:=Vb N.perm (qk (by rw[N.size];exact h))
def zN7(h:ls.toList.Nodup){i j:Nat}(B:i<j)(hj:j<ls.size):lab ls i≠lab ls j:=by
 have hi':i<ls.toList.length:=by rw[zj];lia
 have hj':j<ls.toList.length:=by rw[zj];exact hj
 have:=xR.mp h i j hi' hj' B
 have J:=yX (ls:=ls) (i:=i) w5
 have I:=yX (ls:=ls) hj;rw[<- zL,zn hi'] at J;rw[<- zL,zn hj'] at I;rw[<- zN J,<- zN I];exact this
def Nw.ne(N:Nw n item kd ls t){i j:Nat}(hi:i<n)(hj:j<n)(h:i≠j):lab ls i≠lab ls j:=by
 have:=N.size
 rcases Nat.lt_or_gt_of_ne h with g |g
 ·exact zN7 (ZQ N.perm) g w5
 ·exact(zN7 (ZQ N.perm) g w5).symm
def Xu{a b i:Nat}(h:b<=ls.size)(hi:a+i<b):lab (ls.extract a b) i=lab ls (a+i):=by
 refine kw ?_
 rw[Array.getElem?_extract,if_pos w5,yX w5]
def qP{a b x:Nat}(h:b<=ls.size)(hx:x∈(ls.extract a b).toList):∃i,a<=i/\i<b/\x=lab ls i:=by
 have hx':x∈(ls.extract a b).toList.drop 0:=by rwa [yx]
 obtain⟨i,_,h2,rfl⟩:=qQ.mp hx';rw[wP] at h2
 exact⟨a+i,w5,w5,Xu h w5⟩
def zB4{a b:Nat}(h:b<=ls.size)(S:Seg r ls a (b-a)):(ls.extract a b).toList.Pairwise λx y=>r y x=false:=by
 refine xR.mpr λi j hi hj I=>?_;rw[zj,wP] at hi hj
 have e:∀k (hk:k<(ls.extract a b).toList.length),(ls.extract a b).toList[k]=lab ls (a+k):=λk hk=>by
  rw[zj] at hk;have B:=yX (ls:=ls.extract a b) hk
  rw[<- zL,zn (by rw[zj];exact hk)] at B
  rw[zN B,Xu h (by rw[wP] at hk;lia)]
 rw[e,e]
 exact S _ _ w5 w5 w5
end
section
variable {prog:Program}{w:World}{A:Around}{E:QqV}{s:Shared}{t:SortSt}{n:Nat}{item:Nat->Keyed}{kd:SortKind}{r:Nat->Nat->Bool}{ls:Array Nat}
def back{a b c:Nat}{M:Array Nat}(N:Nw n item kd ls t)(U:a<=b)(J:b<=c)(hc:c<=n)(p:M.toList.Perm ((ls.extract a b).toList++(ls.extract b c).toList)) :
  ∃ls':Array Nat,(((M.map item).toList.zipIdx.foldl (λx (y:Keyed × Nat)=>x.setIfInBounds (a+y.2) y.1) (ls.map item))=ls'.map item)/\ls'.Perm (Array.range n)/\(∀k,k<a\/c<=k->lab ls' k=lab ls k)/\∀i,a<=i->i<c->lab ls' i=lab M (i-a):=by
 have hs:=N.size
 have W:M.size=c-a:=by
  have:=p.length_eq;rw[zj,zD,zj,zj,wP,wP] at this;lia
 have Y:((ls.toList.take a++M.toList++ls.toList.drop c).toArray).size=ls.size:=by
  rw[zE,zD,zD,xl,wO,zj,zj];lia
 refine⟨(ls.toList.take a++M.toList++ls.toList.drop c).toArray,?_,?_,?_,?_⟩
 ·apply Array.ext'
  rw[JJ _ _ a 0 (by rw[zj,zS,zS];lia)]
  simp only[Nat.add_zero,zj,zS,Array.toList_map,W,xI,yP,map_drop,List.map_toArray]
  congr 2
  rw[zh,zj];lia
 ·refine xV.mpr ?_;refine List.Perm.trans ?_ (xV.mp N.perm)
  have e:ls.toList=ls.toList.take a++((ls.extract a b).toList++(ls.extract b c).toList)++ls.toList.drop c:=by
   rw[wm,wm,xS,xS]
   have I:(ls.toList.drop a).take (b-a)++(ls.toList.drop b).take (c-b)=(ls.toList.drop a).take (c-a):=by
    rw[show c-a=(b-a)+(c-b) by lia,List.take_add,drop_drop,show a+(b-a)=b by lia]
   rw[I,wG]
   conv=>lhs;rw[<- wL a ls.toList]
   congr 1
   conv=>lhs;rw[<- wL (c-a) (ls.toList.drop a)]
   rw[drop_drop,show a+(c-a)=c by lia]
  conv=>rhs;rw[e]
  exact(p.append_left _).append_right _
 ·intro k hk
  rcases Nat.lt_or_ge k ls.size with B |B
  ·refine kw ?_;rw[<- yX B,List.getElem?_toArray]
   rcases hk with hk |hk
   ·rw[wG,xn (by rw[xl,zj];lia),yI,if_pos hk,zL]
   ·rw [xb (by rw [zD, xl, zj, zj]; lia), xZ, zL]
    congr 1
    rw[zD,xl,zj,zj];lia
  ·have I : lab ls k = 0 := by unfold lab; rw [wT, wX B]; rfl
   rw[I];unfold lab;rw[wT,wX (by rw[Y];exact B)];rfl
 ·intro i h1 h2;refine kw ?_
  rw[<- yX w5,List.getElem?_toArray,xn (by rw[zD,xl,zj,zj];lia),xb (by rw[xl,zj];lia),zL]
  congr 1
  rw[xl,zj];lia
def mat(R:WRule prog w A s n item kd r)(N:Nw n item kd ls t){i sa I p sb B p2:Nat}(hp:(pendingOf t)[i]?=some (sa,I,p))(hq:(pendingOf t)[i+1]?=some (sb,B,p2))(ad:sb=sa+I)(h1:1<=I)(h2:1<=B)(hn:sb+B<=n)(SA:Seg r ls sa I)(SB:Seg r ls sb B)
  {Q:Bool->SortSt->Prop} (q:∀ls' t',Nw n item kd ls' t'->pendingOf t'=((pendingOf t).setIfInBounds i (sa,I+B,p)).eraseIdxIfInBounds (i+1)->(∀k,k<sa\/sb+B<=k->lab ls' k=lab ls k)->Seg r ls' sa (I+B)->Q true t'):wpS (model prog w) A E s (mergeAt' i) Q t:=by
 have hs:=N.size;rw[KI];refine zo (wpS_get ?_);rw[hp,hq];dsimp only;refine zo (zG0 ?_);have J:Nw n item kd ls (setPending t (((pendingOf t).setIfInBounds i (sa,I+B,p)).eraseIdxIfInBounds (i+1))):=⟨N.arr,N.kd,N.ok,N.perm⟩;have P1:pendingOf (setPending t (((pendingOf t).setIfInBounds i (sa,I+B,p)).eraseIdxIfInBounds (i+1)))=((pendingOf t).setIfInBounds i (sa,I+B,p)).eraseIdxIfInBounds (i+1):=rfl;rw[N.arr];generalize ((pendingOf t).setIfInBounds i (sa,I+B,p)).eraseIdxIfInBounds (i+1)=pend at P1 J q ⊢;generalize setPending t pend=t1 at P1 J ⊢;have U:∀{x y z:Nat},x<n->y<n->z<n->r (lab ls y) (lab ls x)=false->r (lab ls z) (lab ls y)=false->r (lab ls z) (lab ls x)=false:=λhx hy hz=>R.tr _ _ _ (N.lt hx) (N.lt hy) (N.lt hz)
 refine zo (yj w5 ?_)
 refine zo (gal (m:=I) (by':=λi=>!r (lab ls sb) (lab ls (sa+i))) w5 (λi hi Q qq=>byd R J.kd (N.lt w5) w5 (N.lt w5) (N.ne w5 w5 w5) (by simpa using qq)) ?_ λk hk g1 g2=>?_)
 ·intro i j ac hj hb
  by_cases e:i=j
  ·rw[e];exact hb
  ·have hb' : r (lab ls sb) (lab ls (sa + j)) = false := by simpa using hb
   have:=U w5 w5 w5 (SA (sa+i) (sa+j) w5 w5 w5) hb'
   show(!r (lab ls sb) (lab ls (sa+i)))=true;rw[this];rfl
 have F1:∀i j,sa<=i->i<sa+k->sb<=j->j<sb+B->r (lab ls j) (lab ls i)=false:=λi j a1 a2 b1 b2=>by
  have z:r (lab ls sb) (lab ls i)=false:=by
   have:=g1 (i-sa) w5
   rw[show sa+(i-sa)=i by lia] at this
   simpa using this
  by_cases e:j=sb
  ·rw[e];exact z
  ·exact U w5 w5 w5 z (SB sb j w5 w5 b2)
 dsimp only;refine wH (λe=>zU (q ls t1 J P1 (λ_ _=>rfl) λi j a1 a2 a3=>?_)) (λe=>?_)
 ·have ek : k = I := by simp at e; lia
  by_cases c1:j<sb
  ·exact SA i j a1 a2 w5
  ·by_cases c2 : i < sb
   ·exact F1 i j a1 w5 w5 w5
   ·exact SB i j w5 a2 w5
 have hk':k<I:=by simp at e;lia
 have g2':r (lab ls sb) (lab ls (sa+k))=true:=by simpa using g2 k (zk _) hk'
 have el:sa+k+(I-k)-1=sb-1:=w5
 rw[el]
 refine zo (yj w5 ?_)
 refine zo (gal (m:=B) (by':=λi=>r (lab ls (sb+i)) (lab ls (sb-1))) w5 (λi hi Q qq=>byd R J.kd (N.lt w5) w5 (N.lt w5) (N.ne w5 w5 w5) (by simpa using qq)) ?_ λm hm g3 g4=>?_)
 ·intro i j ac hj hb
  by_cases e:i=j
  ·rw[e];exact hb
  ·cases z : r (lab ls (sb + i)) (lab ls (sb - 1)) with
   |true=>rfl
   |false=>
    have:=U w5 w5 w5 z (SB (sb+i) (sb+j) w5 w5 w5)
    rw[this] at hb;cases hb
 have F3:∀i j,sa<=i->i<sb->sb+m<=j->j<sb+B->r (lab ls j) (lab ls i)=false:=λi j a1 a2 b1 b2=>by
  have z:r (lab ls j) (lab ls (sb-1))=false:=by
   have:=g4 (j-sb) w5 w5
   rwa [show sb+(j-sb)=j by lia] at this
  by_cases e:i=sb-1
  ·rw[e];exact z
  ·exact U w5 w5 w5 (SA i (sb-1) a1 w5 w5) z
 dsimp only;refine wH (λe=>zU (q ls t1 J P1 (λ_ _=>rfl) λi j a1 a2 a3=>?_)) (λe=>?_)
 ·have ek : m = 0 := by simpa using e
  by_cases c1:j<sb
  ·exact SA i j a1 a2 w5
  ·by_cases c2 : i < sb
   ·exact F3 i j a1 w5 w5 w5
   ·exact SB i j w5 a2 w5
 have hm':1<=m:=by simp at e;lia
 have eX:(ls.map item).extract (sa+k) sb=(ls.extract (sa+k) sb).map item:=by rw[xz]
 have eY:(ls.map item).extract sb (sb+m)=(ls.extract sb (sb+m)).map item:=by rw[xz]
 rw[eX,eY]
 have zX:(ls.extract (sa+k) sb).size=sb-(sa+k):=by rw[wP];lia
 have zY:(ls.extract sb (sb+m)).size=m:=by rw[wP];lia
 have T:Two n r (ls.extract (sa+k) sb) (ls.extract sb (sb+m)):=by
  refine⟨λx hx=>?_,λx hx=>?_,λx hx y hy=>?_,zB4 w5 λi j a b c=>SA i j w5 b w5,zB4 w5 λi j a b c=>SB i j w5 b w5⟩
  ·obtain⟨i,_,h2,rfl⟩:=qP w5 hx;exact N.lt w5
  ·obtain⟨i,_,h2,rfl⟩:=qP w5 hx;exact N.lt w5
  ·obtain ⟨i, _, h2, rfl⟩ := qP w5 hx
   obtain⟨j,h3,h4,rfl⟩:=qP w5 hy
   exact N.ne w5 w5 w5
 have c1:r (lab (ls.extract sb (sb+m)) 0) (lab (ls.extract (sa+k) sb) 0)=true:=by
  rw[Xu w5 w5,Xu w5 w5]
  exact g2'
 have c2:∀y∈(ls.extract sb (sb+m)).toList,r y (lab (ls.extract (sa+k) sb) ((ls.extract (sa+k) sb).size-1))=true:=λy hy=>by
  obtain⟨j,h3,h4,rfl⟩:=qP w5 hy
  rw[zX,Xu w5 w5,show sa+k+(sb-(sa+k)-1)=sb-1 by lia]
  have:=g3 (j-sb) w5
  rwa [show sb+(j-sb)=j by lia] at this
 have fin:∀out W,Same t1 W->Good item r (ls.extract (sa+k) sb) (ls.extract sb (sb+m)) out->wpS (model prog w) A E s (do
   modify λs=>setArr s (out.toList.zipIdx.foldl (λa (p,j)=>a.setIfInBounds (sa+k+j) p) (arrOf s))
   return (failedOf (<- get)).isNone) Q W:=λout W S ⟨M,eM,pM,uM⟩=>by
  refine zo (yC (zo (wpS_get ?_)))
  have ef:(failedOf (setArr W (out.toList.zipIdx.foldl (λa (p,j)=>a.setIfInBounds (sa+k+j) p) (arrOf W)))).isNone=true:=by
   show(failedOf W).isNone=true;rw[S.ok,J.ok];rfl
  rw[ef]
  obtain⟨ls',b1,b2,b3,b4⟩:=back (a:=sa+k) (b:=sb) (c:=sb+m) N w5 w5 w5 pM
  refine zU (q ls' _ ⟨?_,S.kd.trans J.kd,S.ok.trans J.ok,b2⟩ (S.pend.trans P1) (λk' hk'=>b3 k' w5) λi j a1 a2 a3=>?_)
  ·show out.toList.zipIdx.foldl (λa (p,j)=>a.setIfInBounds (sa+k+j) p) (arrOf W)=_;rw[S.arr,J.arr,eM];exact b1
  ·have zM : M.size = sb + m - (sa + k) := by
    have:=pM.length_eq;rw[zj,zD,zj,zj,zX,zY] at this;lia
   have aa:∀i,sa+k<=i->i<sb+m->∃i',sa+k<=i'/\i'<sb+m/\lab ls' i=lab ls i':=λi x1 x2=>by
    rw[b4 i x1 x2]
    have:lab M (i-(sa+k))∈(ls.extract (sa+k) sb).toList++(ls.extract sb (sb+m)).toList:=pM.mem_iff.mp (qk w5)
    rcases zR.mp this with h |h
    ·obtain⟨i',y1,y2,e⟩:=qP w5 h;exact⟨i',y1,w5,e⟩
    ·obtain⟨i',y1,y2,e⟩:=qP w5 h;exact⟨i',w5,y2,e⟩
   by_cases ci:i<sa+k
   ·rw [b3 i (.inl ci)]
    by_cases cj:j<sa+k
    ·rw [b3 j (.inl cj)]
     exact SA i j a1 a2 w5
    ·by_cases Y : j < sb + m
     ·obtain ⟨j', y1, y2, e⟩ := aa j w5 Y
      rw[e]
      by_cases c3:j'<sb
      ·exact SA i j' a1 w5 w5
      ·exact F1 i j' a1 ci w5 w5
     ·rw [b3 j (.inr w5)]
      exact F1 i j a1 ci w5 w5
   ·by_cases ab : i < sb + m
    ·by_cases Y : j < sb + m
     ·rw [b4 i w5 ab, b4 j w5 Y]
      exact Yn uM w5 w5
     ·rw [b3 j (.inr w5)]
      obtain⟨i',y1,y2,e⟩:=aa i w5 ab
      rw[e]
      by_cases c3:i'<sb
      ·exact F3 i' j w5 c3 w5 w5
      ·exact SB i' j w5 w5 w5
    ·rw [b3 i (.inr w5), b3 j (.inr w5)]
     exact SB i j w5 a2 w5
 refine wH (λe=>?_) (λe=>?_)
 ·exact zo (mlo ⟨R,T,c1,c2⟩ J.kd w5 w5 fin)
 ·exact zo (mhi ⟨R,T,c1,c2⟩ J.kd w5 w5 fin)
end
section
variable {n:Nat}{item:Nat->Keyed}{kd:SortKind}{r:Nat->Nat->Bool}{ls:Array Nat}{t:SortSt}
def Nw.mir(N:Nw n item kd ls t){i j:Nat}(hj:j<=n):Nw n item kd (mirror ls i j ((j-i)/2)) (setArr t (mirror (arrOf t) i j ((j-i)/2))):=
 ⟨by show mirror (arrOf t) i j _=_;rw[N.arr];exact zO0 (by rw[N.size];exact hj),N.kd,N.ok,(mirror_perm _ _ _ _).trans N.perm⟩
def Nw.bub(N:Nw n item kd ls t){src d:Nat}(B:src<n)(hd:d<=src):Nw n item kd (bubble ls src d) (setArr t (bubble (arrOf t) src d)):=
 ⟨by show bubble (arrOf t) src d=_;rw[N.arr];exact zQ9 (by rw[N.size];exact B) hd,N.kd,N.ok,(bubble_perm _ _ _).trans N.perm⟩
structure Kp(lo:Nat)(ls:Array Nat)(t:SortSt)(ls':Array Nat)(t':SortSt):Prop where
 p:pendingOf t'=pendingOf t
 l:∀k,k<lo->lab ls' k=lab ls k
def Dn(r:Nat->Nat->Bool)(ls:Array Nat)(s m:Nat):Prop:=∀i j,s<=i->i<j->j<s+m->r (lab ls i) (lab ls j)=false
def Eqb(r:Nat->Nat->Bool)(ls:Array Nat)(a b:Nat):Prop:=∀i j,a<=i->i<b->a<=j->j<b->r (lab ls i) (lab ls j)=false
def Wt{a b k:Nat}(B:b<=ls.size)(hk:k<ls.size):∃k',lab (mirror ls a b ((b-a)/2)) k=lab ls k'/\(a<=k/\k<b->a<=k'/\k'<b)/\(¬(a<=k/\k<b)->k'=k):=by
 by_cases h:a<=k/\k<b
 ·exact⟨a+b-1-k,by rw[jq B hk,if_pos h],λ_=>by lia,λg=>absurd h g⟩
 ·exact⟨k,by rw[jq B hk,if_neg h],λg=>absurd g h,λ_=>rfl⟩
def zE5{lo x e:Nat}(hx:lo+x<=ls.size)(D:Dn r ls lo x)(he:e+1<=x)(Q:Eqb r ls (lo+x-(e+1)) (lo+x)):Dn r (mirror ls (lo+x-(e+1)) (lo+x) ((lo+x-(lo+x-(e+1)))/2)) lo x:=λi j h1 h2 h3=>by
 obtain⟨i',e1,Y,W⟩:=Wt (ls:=ls) (a:=lo+x-(e+1)) (b:=lo+x) (k:=i) hx w5
 obtain⟨j',e2,B,U⟩:=Wt (ls:=ls) (a:=lo+x-(e+1)) (b:=lo+x) (k:=j) hx w5
 rw[e1,e2]
 by_cases J:lo+x-(e+1)<=i/\i<lo+x
 ·have := Y J
  have:=B w5
  exact Q _ _ w5 w5 w5 w5
 ·have c3 := W J
  by_cases I:lo+x-(e+1)<=j/\j<lo+x
  ·have := B I
   exact D _ _ w5 w5 w5
  ·have := U I
   exact D _ _ w5 w5 w5
end
section
variable {prog:Program}{w:World}{A:Around}{E:QqV}{s:Shared}{n:Nat}{item:Nat->Keyed}{kd:SortKind}{r:Nat->Nat->Bool}{ls:Array Nat}{t:SortSt}
def xh5(R:WRule prog w A s n item kd r)(N:Nw n item kd ls t){i j:Nat}(hi:i<n)(hj:j<n)(B:i≠j){Q:Option Bool->SortSt->Prop}(q:Q (some (r (lab ls i) (lab ls j))) t):wpS (model prog w) A E s (ltAt' i j) Q t:=by
 have I:=N.size;rw[ltAt'_eq];refine zo (wpS_get ?_);dsimp only;rw[N.arr]
 exact zo (yj w5 (zo (yj w5 (Uu R N.kd (N.lt hi) (N.lt hj) (N.ne hi hj B) q))))
def WRule.irr(R:WRule prog w A s n item kd r){a:Nat}(h:a<n):r a a=false:=by
 cases z:r a a with
 |false=>rfl
 |true=>have:=R.asy a a h h z;rw[z] at this;exact this
def zt5{i j:Nat}{Q:Unit->SortSt->Prop}(q:Q () (setArr t (mirror (arrOf t) i j ((j-i)/2)))):wpS (model prog w) A E s (reverseSlice' i j) Q t:=by
 rw[reverseSlice'_eq];exact yC q
def xh6(R:WRule prog w A s n item kd r)(N:Nw n item kd ls t){lo a B:Nat}(h1:1<=a)(ha:a<=B)(hn:lo+B<=n)(U:Seg r ls lo a){x:Nat}(hx:x<B)(W:a<=x)(V:Seg r ls lo x){Q:Option Bool->SortSt->Prop}
  (J:r (lab ls (lo+x)) (lab ls (lo+x-1))=true->Q (some true) t) (I:Seg r ls lo (x+1)->Q (some false) t):wpS (model prog w) A E s (ltAt' (lo+x) (lo+x-1)) Q t:=by
 refine xh5 R N w5 w5 w5 ?_
 cases z:r (lab ls (lo+x)) (lab ls (lo+x-1)) with
 |true=>exact J z
 | false =>
  refine I λi j i1 i2 Y=>?_
  by_cases hj:j<lo+x
  ·exact V i j i1 i2 hj
  ·obtain rfl : j = lo + x := by lia
   by_cases hi:i=lo+x-1
   ·rw[hi];exact z
   ·exact R.tr _ _ _ (N.lt w5) (N.lt (i:=lo+x-1) w5) (N.lt w5) (V i (lo+x-1) i1 w5 w5) z
def zT4(R:WRule prog w A s n item kd r)(N:Nw n item kd ls t){lo a B:Nat}(h1:1<=a)(ha:a<=B)(hn:lo+B<=n)(D:Dn r ls lo a){Q:Option Nat->SortSt->Prop}
  (q:∀m ls' t',1<=m->m<=B->Nw n item kd ls' t'->Kp lo ls t ls' t'->Seg r ls' lo m->Q (some m) t'):wpS (model prog w) A E s (Kd lo a B) Q t:=by
 have hs:=N.size;unfold Kd;refine zo (zt5 ?_)
 have N':=N.mir (i:=lo) (j:=lo+a) w5
 have K':Kp lo ls t (mirror ls lo (lo+a) ((lo+a-lo)/2)) (setArr t (mirror (arrOf t) lo (lo+a) ((lo+a-lo)/2))):=⟨rfl,λk hk=>by rw[jq w5 w5,if_neg w5]⟩
 have U:Seg r (mirror ls lo (lo+a) ((lo+a-lo)/2)) lo a:=λi j i1 i2 i3=>by
  rw[jq w5 w5,jq w5 w5,if_pos w5,if_pos w5]
  exact D _ _ w5 w5 w5
 generalize mirror ls lo (lo+a) ((lo+a-lo)/2)=ls' at N' K' U;generalize setArr t (mirror (arrOf t) lo (lo+a) ((lo+a-lo)/2))=t' at N' K' ⊢;refine zo (yO (wD (λx c I=>I=t'/\c=(none,x)/\Seg r ls' lo x) (Q:=λc I=>I=t'/\∃m,c=(none,m)/\a<=m/\m<=B/\Seg r ls' lo m) ?_ ?_ ⟨rfl,rfl,U⟩) ?_)
 ·rintro x c I hx J ⟨rfl, rfl, V⟩;dsimp only
  exact zo (xh6 R N' h1 ha hn U J hx V (λ_=>zU ⟨rfl,x,rfl,hx,w5,V⟩) (λV'=>zU ⟨rfl,rfl,V'⟩))
 ·rintro c I ⟨rfl, rfl, V⟩
  rw[show max a B=B by lia] at V ⊢
  exact⟨rfl,B,rfl,ha,zk _,V⟩
 ·rintro c I ⟨rfl, m, rfl, Y, W, V⟩
  exact zU (q m ls' I w5 W N' K' V)
def xf8(R:WRule prog w A s n item kd r)(N:Nw n item kd ls t){lo a I:Nat}(h1:1<=a)(ha:a<I)(hn:lo+I<=n)(D:Dn r ls lo (a+1)){Q:Option Nat->SortSt->Prop}
  (q:∀m ls' t',1<=m->m<=I->Nw n item kd ls' t'->Kp lo ls t ls' t'->Seg r ls' lo m->Q (some m) t'):wpS (model prog w) A E s (Vr lo a I) Q t:=by
 have hs:=N.size;unfold Vr;refine zo (wpS_lift (wz ⟨rfl,?_⟩))
 refine zo (yO (wD (λx c t2=>∃(B:Array Nat) (e:Nat),c=(none,x,e)/\Nw n item kd B t2/\Kp lo ls t B t2/\Dn r B lo x/\e+1<=x/\Eqb r B (lo+x-(e+1)) (lo+x))
  (Q:=λc t2=>∃(B:Array Nat) (x e:Nat),c=(none,x,e)/\1<=x/\x<=I/\Nw n item kd B t2/\Kp lo ls t B t2/\Dn r B lo x/\e+1<=x/\Eqb r B (lo+x-(e+1)) (lo+x)) ?_ ?_ ⟨ls,0,rfl,N,⟨rfl,λ_ _=>rfl⟩,D,w5,?_⟩) ?_)
 ·rintro x c t2 hx ac ⟨B, e, rfl, J, W, U, he, Y⟩;have ab:=J.size;dsimp only
  have one:∀(l3:Array Nat) (t3:SortSt),Nw n item kd l3 t3->Eqb r l3 (lo+(x+1)-(0+1)) (lo+(x+1)):=λl3 t3 N3 i j i1 i2 j1 j2=>by
   obtain⟨rfl,rfl⟩:i=lo+x/\j=lo+x:=w5
   exact R.irr (N3.lt w5)
  refine zo (xh5 R J w5 w5 w5 ?_)
  cases z:r (lab B (lo+x)) (lab B (lo+x-1)) with
  | true =>
   simp only[if_true]
   have below:∀p,lo<=p->p<lo+x->r (lab B p) (lab B (lo+x))=false:=λp p1 p2=>by
    have z':=R.asy _ _ (J.lt w5) (J.lt w5) z
    by_cases ep:p=lo+x-1
    ·rw[ep];exact z'
    ·exact R.tr _ _ _ (J.lt w5) (J.lt (i:=lo+x-1) w5) (J.lt w5) z' (U p (lo+x-1) p1 w5 w5)
   refine wH (λh0=>?_) (λh0=>?_)
   ·refine zo (zt5 (zU ?_))
    have N3:=J.mir (i:=lo+x-(e+1)) (j:=lo+x) w5
    refine⟨_,0,rfl,N3,⟨W.p,λk hk=>?_⟩,λi j i1 i2 i3=>?_,w5,one _ _ N3⟩
    ·rw[jq w5 w5,if_neg w5];exact W.l k hk
    ·by_cases hj : j < lo + x
     ·exact zE5 w5 U he Y i j i1 i2 hj
     ·obtain rfl : j = lo + x := by lia
      obtain⟨i',e1,f1,f2⟩:=Wt (ls:=B) (a:=lo+x-(e+1)) (b:=lo+x) (k:=i) w5 w5
      obtain⟨j',e2,g1,g2⟩:=Wt (ls:=B) (a:=lo+x-(e+1)) (b:=lo+x) (k:=lo+x) w5 w5
      rw[e1,e2,g2 w5]
      by_cases c1:lo+x-(e+1)<=i/\i<lo+x
      ·have := f1 c1
       exact below i' w5 w5
      ·rw[f2 c1];exact below i i1 w5
   ·refine zU ⟨B, 0, rfl, J, W, λi j i1 i2 i3 => ?_, by lia, one _ _ J⟩
    by_cases hj:j<lo+x
    ·exact U i j i1 i2 hj
    ·obtain rfl : j = lo + x := by lia
     exact below i i1 w5
  | false =>
   simp only[wa,if_false]
   refine zo (xh5 R J w5 w5 w5 ?_)
   cases z2:r (lab B (lo+x-1)) (lab B (lo+x)) with
   |true=>exact zU ⟨B,x,e,rfl,w5,w5,J,W,U,he,Y⟩
   | false =>
    have up:∀p,lo+x-(e+1)<=p->p<lo+x->r (lab B p) (lab B (lo+x))=false/\r (lab B (lo+x)) (lab B p)=false:=λp p1 p2=>by
     have y1:=Y p (lo+x-1) p1 p2 w5 w5
     have y2:=Y (lo+x-1) p w5 w5 p1 p2
     exact⟨R.tr _ _ _ (J.lt w5) (J.lt (i:=lo+x-1) w5) (J.lt w5) z2 y1,R.tr _ _ _ (J.lt w5) (J.lt (i:=lo+x-1) w5) (J.lt w5) y2 z⟩
    refine zU ⟨B,e+1,rfl,J,W,λi j i1 i2 i3=>?_,w5,λi j i1 i2 j1 j2=>?_⟩
    ·by_cases hj : j < lo + x
     ·exact U i j i1 i2 hj
     ·obtain rfl : j = lo + x := by lia
      by_cases hi:i=lo+x-1
      ·rw[hi];exact z2
      ·exact R.tr _ _ _ (J.lt w5) (J.lt (i:=lo+x-1) w5) (J.lt w5) z2 (U i (lo+x-1) i1 w5 w5)
    ·by_cases c1 : i = lo + x
     ·by_cases c2 : j = lo + x
      ·rw[c1,c2];exact R.irr (J.lt w5)
      ·rw[c1];exact(up j w5 w5).2
     ·by_cases c2 : j = lo + x
      ·rw[c2];exact(up i w5 w5).1
      ·exact Y i j w5 w5 w5 w5
 ·rintro c t2 ⟨B, e, rfl, J, W, U, he, Y⟩
  rw[show max (a+1) I=I by lia] at U he Y ⊢
  exact⟨B,I,e,rfl,w5,zk _,J,W,U,he,Y⟩
 ·intro i j i1 i2 j1 j2
  obtain⟨rfl,rfl⟩:i=lo+a/\j=lo+a:=w5
  exact R.irr (N.lt w5)
 ·rintro c t2 ⟨B, x, e, rfl, x1, x2, J, W, U, he, Y⟩;have ab:=J.size;dsimp only
  have aa:∀(l3:Array Nat) (t3:SortSt),Nw n item kd l3 t3->Kp lo ls t l3 t3->Dn r l3 lo x->wpS (model prog w) A E s (Kd lo x I) Q t3:=λl3 t3 N3 K3 D3=>
   zT4 R N3 x1 x2 hn D3 λm ls' t' m1 m2 N' K' S'=>q m ls' t' m1 m2 N' ⟨K'.p.trans K3.p,λk hk=>(K'.l k hk).trans (K3.l k hk)⟩ S'
  refine wH (λh0=>?_) (λh0=>aa B t2 J W U);refine zo (zt5 ?_)
  refine aa _ _ (J.mir w5) ⟨W.p,λk hk=>?_⟩ (zE5 w5 U he Y)
  rw[jq w5 w5,if_neg w5];exact W.l k hk
def xp1(R:WRule prog w A s n item kd r)(N:Nw n item kd ls t){lo B:Nat}(h1:1<=B)(hn:lo+B<=n){Q:Option Nat->SortSt->Prop}
  (q:∀m ls' t',1<=m->m<=B->Nw n item kd ls' t'->Kp lo ls t ls' t'->Seg r ls' lo m->Q (some m) t'):wpS (model prog w) A E s (countRun' lo B) Q t:=by
 have hs:=N.size;rw[countRun'_eq]
 have U:Seg r ls lo 1:=λi j a b c=>by lia
 refine zo (yO (wD (λx c I=>I=t/\c=(none,x)/\Seg r ls lo x) (Q:=λc I=>I=t/\∃m,c=(none,m)/\1<=m/\m<=B/\Seg r ls lo m/\(m<B->r (lab ls (lo+m)) (lab ls (lo+m-1))=true)) ?_ ?_ ⟨rfl,rfl,U⟩) ?_)
 ·rintro x c I hx aa ⟨rfl, rfl, V⟩;dsimp only
  exact zo (xh6 R N (zk _) h1 hn U aa hx V (λz=>zU ⟨rfl,x,rfl,hx,w5,V,λ_=>z⟩) (λV'=>zU ⟨rfl,rfl,V'⟩))
 ·rintro c I ⟨rfl, rfl, V⟩
  rw[show max 1 B=B by lia] at V ⊢
  exact⟨rfl,B,rfl,h1,zk _,V,λh=>by lia⟩
 ·rintro c I ⟨rfl, m, rfl, J, m2, V, z⟩;dsimp only;have K0:Kp lo ls I ls I:=⟨rfl,λ_ _=>rfl⟩;refine wH (λe=>zU (q m ls I J m2 N K0 V)) (λe=>?_)
  have hm:m<B:=by simp at e;lia
  have z:=z hm
  have z':=R.asy _ _ (N.lt w5) (N.lt w5) z
  have W:∀(l3:Array Nat) (Y:SortSt),Nw n item kd l3 Y->Kp lo ls I l3 Y->Dn r l3 lo (m+1)->wpS (model prog w) A E s (Vr lo m B) Q Y:=λl3 Y N3 K3 D3=>
   xf8 R N3 J hm hn D3 λm ls' t' J m2 N' K' S'=>q m ls' t' J m2 N' ⟨K'.p.trans K3.p,λk hk=>(K'.l k hk).trans (K3.l k hk)⟩ S'
  refine wH (λg=>?_) (λg=>?_)
  ·refine zo (xh5 R N w5 w5 w5 ?_)
   cases z2:r (lab ls lo) (lab ls (lo+m-1)) with
   |true=>exact zU (q m ls I J m2 N K0 V)
   | false =>
    simp only[wa,if_false];refine zo (zt5 ?_)
    have ge:∀p,lo<=p->p<lo+m->r (lab ls lo) (lab ls p)=false:=λp p1 p2=>by
     by_cases ep:p=lo+m-1
     ·rw[ep];exact z2
     ·exact R.tr _ _ _ (N.lt w5) (N.lt (i:=lo+m-1) w5) (N.lt w5) (V p (lo+m-1) p1 w5 w5) z2
    have Q2:Eqb r ls lo (lo+m):=λi j i1 i2 j1 j2=>by
     rcases Nat.lt_trichotomy i j with c |c |c
     ·by_cases ei : i = lo
      ·rw[ei];exact ge j j1 j2
      ·exact R.tr _ _ _ (N.lt w5) (N.lt (i:=lo) w5) (N.lt w5) (ge j j1 j2) (V lo i w5 w5 i2)
     ·rw[c];exact R.irr (N.lt w5)
     ·exact V j i j1 c i2
    have below:∀p,lo<=p->p<lo+m->r (lab ls p) (lab ls (lo+m))=false:=λp p1 p2=>
     R.tr _ _ _ (N.lt w5) (N.lt (i:=lo+m-1) w5) (N.lt w5) z' (Q2 p (lo+m-1) p1 p2 w5 w5)
    refine W _ _ (N.mir w5) ⟨rfl,λk hk=>?_⟩ λi j i1 i2 i3=>?_
    ·rw[jq w5 w5,if_neg w5]
    ·obtain ⟨i', e1, f1, f2⟩ := Wt (ls := ls) (a := lo) (b := lo + m) (k := i) w5 w5
     obtain⟨j',e2,g1,g2⟩:=Wt (ls:=ls) (a:=lo) (b:=lo+m) (k:=j) w5 w5
     rw[e1,e2]
     have fi:=f1 w5
     by_cases c2:j<lo+m
     ·have gj := g1 w5
      exact Q2 _ _ w5 w5 w5 w5
     ·rw [g2 w5, show j = lo + m by lia]
      exact below i' w5 w5
  ·obtain rfl : m = 1 := by lia
   refine W ls I N K0 λi j i1 i2 i3=>?_
   obtain⟨rfl,rfl⟩:i=lo/\j=lo+1:=w5
   exact z'
def xx8(R:WRule prog w A s n item kd r)(N:Nw n item kd ls t){lo m f:Nat}(hm:m<=f)(hf:lo+f<=n)(U:Seg r ls lo m){Q:Bool->SortSt->Prop}(q:∀ls' t',Nw n item kd ls' t'->Kp lo ls t ls' t'->Seg r ls' lo f->Q true t'):wpS (model prog w) A E s (binarySort' lo f m) Q t:=by
 rw[binarySort'_eq];refine zo (yO (wD (λk c t'=>c=(none,())/\∃ls',Nw n item kd ls' t'/\Kp lo ls t ls' t'/\Seg r ls' lo (min k f)) (Q:=λc t'=>c=(none,())/\∃ls',Nw n item kd ls' t'/\Kp lo ls t ls' t'/\Seg r ls' lo f) ?_ ?_ ⟨rfl,ls,N,⟨rfl,λ_ _=>rfl⟩,λi j i1 i2 i3=>?_⟩) ?_)
 ·rintro k c t' hk aa ⟨rfl, ls', N', K', U'⟩
  rw[show min k f=k by lia] at U'
  have hsz:=N'.size
  refine zo (yO (wD (λx c B=>B=t'/\∃l h,c=(none,l,h)/\l<=h/\h<=k/\h-l<=k-x/\(∀i,i<l->r (lab ls' (lo+k)) (lab ls' (lo+i))=false)/\∀i,h<=i->i<k->r (lab ls' (lo+i)) (lab ls' (lo+k))=false)
   (Q:=λc B=>B=t'/\∃l h,c=(none,l,h)/\l<=k/\(∀i,i<l->r (lab ls' (lo+k)) (lab ls' (lo+i))=false)/\∀i,l<=i->i<k->r (lab ls' (lo+i)) (lab ls' (lo+k))=false) ?_ ?_ ⟨rfl,0,k,rfl,w5,w5,w5,λi hi=>by lia,λi h1 h2=>by lia⟩) ?_)
  ·rintro x c B _ hx ⟨rfl, l, h, rfl, g1, Y, W, J, I⟩;dsimp only
   refine wH (λhd=>zU ⟨rfl,l,h,rfl,w5,J,λi i1 i2=>I i w5 i2⟩) (λhd=>?_)
   refine zo (xh5 R N' w5 w5 w5 ?_)
   cases z:r (lab ls' (lo+k)) (lab ls' (lo+(l+h)/2))
   ·refine zU ⟨rfl, (l + h) / 2 + 1, h, rfl, by lia, by lia, by lia, λi hi => ?_, I⟩
    by_cases e:i=(l+h)/2
    ·rw[e];exact z
    ·exact R.tr _ _ _ (N'.lt w5) (N'.lt (i:=lo+(l+h)/2) w5) (N'.lt w5) (U' (lo+i) (lo+(l+h)/2) w5 w5 w5) z
   ·have z' := R.asy _ _ (N'.lt w5) (N'.lt w5) z
    refine zU ⟨rfl,l,(l+h)/2,rfl,w5,w5,w5,J,λi i1 i2=>?_⟩
    by_cases e:i=(l+h)/2
    ·rw[e];exact z'
    ·exact R.tr _ _ _ (N'.lt w5) (N'.lt (i:=lo+(l+h)/2) w5) (N'.lt w5) z' (U' (lo+(l+h)/2) (lo+i) w5 w5 w5)
  ·rintro c B ⟨rfl, l, h, rfl, g1, Y, W, J, I⟩
   exact⟨rfl,l,h,rfl,w5,J,λi i1 i2=>I i w5 i2⟩
  ·rintro c B ⟨rfl, l, h, rfl, g1, Y, W⟩;show wpS (model prog w) A E s (moveDown' (lo+k) (lo+l) >>= λ_=>pure (ForInStep.yield (none,()))) _ B;rw[moveDown'_eq]
   refine zo (yC (zU ⟨rfl,_,N'.bub (src:=lo+k) (d:=lo+k-(lo+l)) w5 w5,⟨K'.p,λp hp=>?_⟩,?_⟩))
   ·rw [Je w5 w5 w5, if_neg w5, if_neg w5]
    exact K'.l p hp
   ·rw [show min (k + 1) f = k + 1 by lia]
    intro i j i1 ab hj
    have el:lo+k-(lo+k-(lo+l))=lo+l:=w5
    have F2:∀i,lo<=i->i<lo+l->r (lab ls' (lo+k)) (lab ls' i)=false:=λi i1 i2=>by
     have:=Y (i-lo) w5
     rwa [show lo+(i-lo)=i by lia] at this
    have F3:∀i,lo+l<=i->i<lo+k->r (lab ls' i) (lab ls' (lo+k))=false:=λi i1 i2=>by
     have:=W (i-lo) w5 w5
     rwa [show lo+(i-lo)=i by lia] at this
    rw[Je w5 w5 w5,Je w5 w5 w5,el]
    by_cases c1:i=lo+l
    ·rw [if_neg (show ¬ j = lo + l by lia), if_pos (show lo + l < j /\ j <= lo + k by lia), if_pos c1]
     exact F3 _ w5 w5
    ·rw [if_neg c1]
     by_cases c2:j=lo+l
     ·rw [if_pos c2, if_neg (show ¬ (lo + l < i /\ i <= lo + k) by lia)]
      exact F2 _ i1 w5
     ·rw [if_neg c2]
      by_cases c3:lo+l<i/\i<=lo+k
      ·rw [if_pos c3, if_pos (show lo + l < j /\ j <= lo + k by lia)]
       exact U' _ _ w5 w5 w5
      ·rw [if_neg c3]
       by_cases c4:lo+l<j/\j<=lo+k
       ·rw[if_pos c4];exact U' _ _ w5 w5 w5
       ·rw[if_neg c4];exact U' _ _ w5 w5 w5
 ·rintro c t' ⟨rfl, ls', N', K', U'⟩
  rw[show min (max (max m 1) f) f=f by lia] at U'
  exact⟨rfl,ls',N',K',U'⟩
 ·exact U i j i1 i2 w5
 ·rintro c t' ⟨rfl,ls',N',K',U'⟩;exact zU (q ls' t' N' K' U')
end
def Ch(r:Nat->Nat->Bool)(ls:Array Nat):Nat->List (Nat × Nat)->Nat->Prop
 |a,[],b=>a=b
 |a,(s,m)::rest,b=>s=a/\1<=m/\Seg r ls s m/\Ch r ls (a+m) rest b
def prs(p:Array (Nat × Nat × Nat)):List (Nat × Nat):=p.toList.map λx=>(x.1,x.2.1)
section
variable {r:Nat->Nat->Bool}{ls ls':Array Nat}
theorem Ch.len:∀{l:List (Nat × Nat)}{a b:Nat},Ch r ls a l b->a+l.length<=b
 |[],a,b,h=>by rw[show a=b from h];exact zk _
 |(s,m)::l,a,b,h=>by have:=h.2.2.2.len;have:=h.2.1;rw[zA];lia
theorem Ch.split:∀{l1 l2:List (Nat × Nat)}{a b:Nat},Ch r ls a (l1++l2) b->∃c,Ch r ls a l1 c/\Ch r ls c l2 b
 |[],l2,a,b,h=>⟨a,rfl,h⟩
 |(s,m)::l1,l2,a,b,h=>by
  obtain⟨c,h1,h2⟩:=h.2.2.2.split;exact⟨c,⟨h.1,h.2.1,h.2.2.1,h1⟩,h2⟩
theorem Ch.join:∀{l1 l2:List (Nat × Nat)}{a b c:Nat},Ch r ls a l1 c->Ch r ls c l2 b->Ch r ls a (l1++l2) b
 |[],l2,a,b,c,h,g=>by rw[show a=c from h];exact g
 |(s,m)::l1,l2,a,b,c,h,g=>⟨h.1,h.2.1,h.2.2.1,h.2.2.2.join g⟩
def Seg.same{s m:Nat}(h:Seg r ls s m)(e:∀k,s<=k->k<s+m->lab ls' k=lab ls k):Seg r ls' s m:=λi j i1 i2 B=>by
 rw[e i i1 w5,e j w5 B];exact h i j i1 i2 B
theorem Ch.same:∀{l:List (Nat × Nat)}{a b:Nat},Ch r ls a l b->(∀k,a<=k->k<b->lab ls' k=lab ls k)->Ch r ls' a l b
 |[],a,b,h,_=>h
 |(s,m)::l,a,b,h,e=>by
  have z:=h.2.2.2.len;have I:=h.1
  exact⟨h.1,h.2.1,h.2.2.1.same λk k1 B=>e k w5 w5,h.2.2.2.same λk k1 B=>e k w5 B⟩
end
section
variable {prog:Program}{w:World}{A:Around}{E:QqV}{s:Shared}{n:Nat}{item:Nat->Keyed}{kd:SortKind}{r:Nat->Nat->Bool}{ls:Array Nat}{t:SortSt}
def zD8(R:WRule prog w A s n item kd r)(N:Nw n item kd ls t){lo i:Nat}(aa:lo<=n)(C:Ch r ls 0 (prs (pendingOf t)) lo)(hi:i+1<(pendingOf t).size){Q:Bool->SortSt->Prop}
  (q:∀ls' t',Nw n item kd ls' t'->Ch r ls' 0 (prs (pendingOf t')) lo->(pendingOf t').size+1=(pendingOf t).size->(∀k,lo<=k->lab ls' k=lab ls k)->Q true t'):wpS (model prog w) A E s (mergeAt' i) Q t:=by
 have hl:(pendingOf t).toList.length=(pendingOf t).size:=zj
 have Y:(pendingOf t).toList=(pendingOf t).toList.take i++(pendingOf t)[i]::(pendingOf t)[i+1]::(pendingOf t).toList.drop (i+2):=by
  conv=>lhs;rw[<- wL i (pendingOf t).toList]
  congr 1
  rw[yg w5,yg w5]
  simp
 rcases ha:(pendingOf t)[i] with ⟨sa,na,p⟩;rcases hb:(pendingOf t)[i+1] with ⟨sb,nb,p2⟩;rw[ha,hb] at Y;have C':=C;unfold prs at C';rw[Y,xI] at C';obtain⟨c,c1,c2⟩:=C'.split;obtain⟨rfl,B,U,c3⟩:=c2;obtain⟨rfl,W,J,c4⟩:=c3;dsimp only at B W U J c4;have z4:=c4.len
 refine mat R N (by rw[wK w5,ha]) (by rw[wK w5,hb]) rfl B W w5 U J λls' t' N' P' S' G'=>?_
 have e2:(pendingOf t').toList=(pendingOf t).toList.take i++(sa,na+nb,p)::(pendingOf t).toList.drop (i+2):=by
  rw[P',Array.toList_eraseIdxIfInBounds,Array.toList_setIfInBounds]
  have I:((pendingOf t).toList.take i).length=i:=by rw[xl];lia
  generalize (pendingOf t).toList.take i=l1 at Y I ⊢;generalize (pendingOf t).toList.drop (i+2)=l2 at Y ⊢
  rw[Y,List.set_append_right _ _ w5,I,Nat.sub_self,List.set_cons_zero,List.eraseIdx_append_of_length_le w5,I,Nat.add_sub_cancel_left]
  rfl
 have hsz:(pendingOf t').size+1=(pendingOf t).size:=by
  rw[<- zj,e2,zD,zA,xl,wO];lia
 refine q ls' t' N' ?_ hsz λk hk=>S' k (.inr (zF w5 hk))
 unfold prs;rw[e2,xI];refine Ch.join (c1.same λk k1 k2=>S' k (.inl k2)) ⟨rfl,zF B (Nat.le_add_right ..),G',?_⟩;rw[<- Nat.add_assoc];exact c4.same λk k1 k2=>S' k (.inr k1)
def zP3{c:Prop}[Decidable c]{x:Nat}:(if c then x-1 else x)<=x:=by split<;>lia
def zK0{p:Array (Nat × Nat × Nat)}{i g:Nat}:prs (p.modify i λx=>(x.1,x.2.1,g))=prs p:=by
 unfold prs;rw[Array.toList_modify];refine List.ext_getElem? λk=>?_;rw[zI,zI,List.getElem?_modify]
 cases p.toList[k]? with
 |none=>rfl
 |some x=>by_cases h:i=k<;>simp[h]
def xB1(R:WRule prog w A s n item kd r)(N:Nw n item kd ls t)(hp:pendingOf t=#[])(h2:2<=n){Q:Unit->SortSt->Prop}(q:∀ls' t',arrOf t'=ls'.map item->failedOf t'=none->ls'.Perm (Array.range n)->Seg r ls' 0 n->Q () t'):wpS (model prog w) A E s sortRuns' Q t:=by
 rw[sortRuns'_eq];refine zo (wpS_get ?_)
 have ae:(arrOf t).size=n:=by rw[N.arr,zS,N.size]
 dsimp only;simp only[ae];generalize minRun' n n 0=mr
 refine zo (yO (wD (λx c t'=>∃(ls':Array Nat) (lo:Nat),c=(none,lo)/\Nw n item kd ls' t'/\Ch r ls' 0 (prs (pendingOf t')) lo/\lo<=n/\x<=lo) (Q:=λc t'=>∃ls':Array Nat,c=(none,n)/\Nw n item kd ls' t'/\Ch r ls' 0 (prs (pendingOf t')) n) ?_ ?_ ⟨ls,0,rfl,N,?_,w5,w5⟩) ?_)
 ·rintro x c t' _ hx ⟨aa, lo, rfl, N1, C1, l1, l2⟩;dsimp only;refine wH (λe=>?_) (λe=>?_)
  ·obtain rfl : lo = n := by lia
   exact zU ⟨aa,rfl,N1,C1⟩
  ·refine zo (xp1 R N1 w5 w5 λm ac J m1 m2 W K2 S2 => ?_)
   dsimp only
   have U:Ch r ac 0 (prs (pendingOf J)) lo:=by rw[K2.p];exact C1.same λk _ hk=>K2.l k hk
   have ab:∀(m:Nat) (l3:Array Nat) (B:SortSt),1<=m->m<=n-lo->Nw n item kd l3 B->Ch r l3 0 (prs (pendingOf B)) lo->Seg r l3 lo m ->
     ∃(l':Array Nat) (lo':Nat),((none,lo+m):Option Unit × Nat)=(none,lo')/\Nw n item kd l' (setPending B ((pendingOf B).push (lo,m,0)))/\Ch r l' 0 (prs (pendingOf (setPending B ((pendingOf B).push (lo,m,0))))) lo'/\lo'<=n/\x+1<=lo':=λm l3 B m1 m2 Y C3 S3=>by
    refine⟨l3,lo+m,rfl,⟨Y.arr,Y.kd,Y.ok,Y.perm⟩,?_,w5,w5⟩
    show Ch r l3 0 (prs ((pendingOf B).push (lo,m,0))) (lo+m);unfold prs at C3 ⊢;rw[yV,xI];exact C3.join ⟨rfl,m1,S3,rfl⟩
   have step:∀(pw:Nat) (m:Nat) (l3:Array Nat) (B:SortSt),Nw n item kd l3 B->Ch r l3 0 (prs (pendingOf B)) lo->Seg r l3 lo m->lo+m<=n->∀(i:Nat) (Q:Bool->SortSt->Prop),i+1<(pendingOf B).size->(∀l4 I,Nw n item kd l4 I->Ch r l4 0 (prs (pendingOf I)) lo->Seg r l4 lo m->Q true I)->wpS (model prog w) A E s (mergeAt' i) Q B:=λpw m l3 B Y C3 S3 hm i Q hi hQ=>
    zD8 R Y l1 C3 hi λl4 I N4 C4 _ K4=>hQ l4 I N4 C4 (S3.same λk k1 _=>K4 k k1)
   refine wH (λg=>zo (wpS_lift (wz ⟨rfl,zo (xx8 R W w5 w5 S2 λl3 B Y K3 S3=>?_)⟩))) (λg=>?_)
   case' refine_1=>
    simp only[Bool.not_true,wa,if_false]
    have C3:Ch r l3 0 (prs (pendingOf B)) lo:=by rw[K3.p];exact U.same λk _ hk=>K3.l k hk
    have m3:1<=min (n-lo) mr:=w5
    have m4:min (n-lo) mr<=n-lo:=Nat.min_le_left ..;generalize min (n-lo) mr=f at m3 m4 S3 ⊢;clear W K2 S2 U K3
   case' refine_2=>
    have Y:=W;have C3:=U;have S3:=S2;have m3:=m1;have m4:=m2;clear W K2 S2 U;generalize ac=l3 at *;generalize J=B at *;generalize m=f at *
   all_goals
    refine zo (wpS_get ?_)
    cases af:(pendingOf B).back? with
    |none=>exact zo (yC (zU (ab f l3 B m3 m4 Y C3 S3)))
    | some y =>
     obtain⟨s1,n1,p1⟩:=y;dsimp only;generalize power' n (2*s1+n1) (2*s1+n1+n1+f) n=pw;refine zo (yO (wD (λx c I=>c=(none,())/\∃l4,Nw n item kd l4 I/\Ch r l4 0 (prs (pendingOf I)) lo/\Seg r l4 lo f) (Q:=λc I=>c=(none,())/\∃l4,Nw n item kd l4 I/\Ch r l4 0 (prs (pendingOf I)) lo/\Seg r l4 lo f) ?_ (λ_ _ h=>h) ⟨rfl,l3,Y,C3,S3⟩) ?_)
     ·rintro x c I _ _ ⟨rfl, l4, N4, C4, S4⟩;refine zo (wpS_get ?_)
      by_cases hsz:(pendingOf I).size > 1
      ·rw [if_pos hsz, wK w5]
       rcases(pendingOf I)[(pendingOf I).size-2] with ⟨a,b,ad⟩;dsimp only;refine wH (λ_=>zU ⟨rfl,l4,N4,C4,S4⟩) (λ_=>?_)
       refine zo (step pw f l4 I N4 C4 S4 w5 _ _ w5 λl5 t5 N5 C5 S5=>?_)
       exact zU ⟨rfl,l5,N5,C5,S5⟩
      ·rw[if_neg hsz];exact zU ⟨rfl,l4,N4,C4,S4⟩
     ·rintro c I ⟨rfl,l4,N4,C4,S4⟩;dsimp only;refine zo (yC (zo (yC (zU (ab f l4 _ m3 m4 ⟨N4.arr,N4.kd,N4.ok,N4.perm⟩ ?_ S4)))));show Ch r l4 0 (prs ((pendingOf I).modify ((pendingOf I).size-1) λx=>(x.1,x.2.1,pw))) lo;rw[zK0];exact C4
 ·rintro c t' ⟨aa, lo, rfl, N1, C1, l1, l2⟩
  obtain rfl:lo=n:=w5
  exact⟨aa,rfl,N1,C1⟩
 ·rw[hp];rfl
 ·rintro c t' ⟨aa, rfl, N1, C1⟩;dsimp only;have z0:=C1.len
  have zp:∀J:SortSt,(prs (pendingOf J)).length=(pendingOf J).size:=λJ=>by unfold prs;rw[zh,zj]
  rw[zp] at z0
  refine zo (yO (wD (λx c J=>c=(none,())/\∃l2,Nw n item kd l2 J/\Ch r l2 0 (prs (pendingOf J)) n/\(pendingOf J).size+x<=n) (Q:=λc J=>c=(none,())/\∃l2,Nw n item kd l2 J/\Ch r l2 0 (prs (pendingOf J)) n/\(pendingOf J).size<=1) ?_ ?_ ⟨rfl,aa,N1,C1,w5⟩) ?_)
  ·rintro x c J _ hx ⟨rfl, l2, W, U, zx⟩;refine zo (wpS_get ?_);refine wH (λh=>zU ⟨rfl,l2,W,U,h⟩) (λh=>?_)
   refine zo (zD8 R W (zk _) U ?_ λl3 B Y C3 z3 _=>zU ⟨rfl,l3,Y,C3,w5⟩)
   exact yF (Nat.add_le_add_right zP3 1) w5
  ·rintro c J ⟨rfl, l2, W, U, zx⟩
   exact⟨rfl,l2,W,U,w5⟩
  ·rintro c J ⟨rfl, l2, W, U, zx⟩;rw[<- zp] at zx;refine zU (q l2 J W.arr W.ok W.perm ?_)
   revert U zx
   generalize prs (pendingOf J)=l;intro U zx
   match l,zx with
   |[],_=>exact absurd (show 0=n from U) w5
   |[(s1,m1)],_=>
    obtain⟨rfl,_,S,e⟩:=U;have e:0+m1=n:=e;rw[Nat.zero_add] at e;rw[<- e];exact S
def Rule.weak(R:Rule prog w A s n item kd r):WRule prog w A s n item kd λa b=>!decide (a=b)&&r a b where
 asy:=λa b ha B h=>by
  by_cases e:a=b
  ·simp[e] at h
  ·have e':¬ b=a:=λz=>e z.symm;simp[e] at h;have:=R.tot b a B ha e';rw[h] at this;simp[this]
 tr:=λa b c ha B I h1 h2=>by
  by_cases W:b=a
  ·rw[W] at h2;exact h2
  ·by_cases U : c = b
   ·rw[U];exact h1
   ·by_cases J : c = a
    ·simp[J]
    ·simp [W] at h1;simp[U] at h2;simp[J];have g1:=R.tot b a B ha W;have Y:=R.tot c b I B U;have g3:=R.tot c a I ha J;rw[h1] at g1;rw[h2] at Y
     have g4:=R.tr a b c ha B I (by simpa using g1.symm) (by simpa using Y.symm)
     rw[g3,g4];rfl
 cmp:=λa b ha B h E Q q=>R.cmp a b ha B h E Q (by simpa [h] using q)
end
abbrev Zy(vs:QqW):Nat->Keyed:=λi=>(vs.getD i .none,vs.getD i .none)
def YW(vs:QqW):vs.toArray.zip vs.toArray=(Array.range vs.length).map (Zy vs):=by
 refine Array.ext_getElem? λk=>?_;rw[Array.getElem?_map]
 by_cases h:k<vs.length
 ·have I : (Array.range vs.length)[k]? = some k := by rw [Array.getElem?_range, if_pos h]
  rw[I]
  have B:(vs.toArray.zip vs.toArray)[k]?=some (vs[k],vs[k]):=by
   rw[wK (by simpa using h)]
   simp
  rw[B];simp[Zy,xj,h]
 ·rw [wX (by simp; lia), wX (by simp; lia)]
  rfl
section
variable {prog:Program}{w:World}{A:Around}{E:QqV}{s:Shared}{r:Nat->Nat->Bool}{kd:SortKind}
abbrev XF(h:Heap)(a:Addr)(vs:QqW):Heap:=((h.update a (Obj.mapSeq λ_=>#[])).push (seqObj "tuple" vs.toArray 0)).push (seqObj "list" #[] 0)
def zP4{a:Addr}{vs:QqW}{k:Nat}(B:s.heap.get? a=some (seqObj "list" vs.toArray k))(ab:vs.length<2000)
  (hk:2<=vs.length->∀(E:QqV) (Q:SortKind->Shared->Prop),Q kd { s with heap:=XF s.heap a vs }->wpAny (model prog w) A (keyKind' vs.toArray) Q E { s with heap:=XF s.heap a vs })
  (hR:2<=vs.length->WRule prog w A { s with heap:=XF s.heap a vs } vs.length (Zy vs) kd r) {Q:Fin->Shared->Prop}
  (q:∀ls:Array Nat,ls.Perm (Array.range vs.length)->Seg r ls 0 vs.length->Q (.done (.ret .none)) { s with heap:=sortedHeap s.heap a vs (ls.map λi=>vs.getD i .none) }) :
  wpAny (model prog w) A (Builtin.«list.sort» ⟨[.ref a],[]⟩) Q E s:=by
 have U:=zy B;obtain⟨J,at1⟩:∃J,(s.heap.update a (Obj.mapSeq λ_=>#[])).get? a=some (seqObj "list" #[] J):=⟨_,get?_update_seq B _⟩
 have I:(XF s.heap a vs).get? a=some (seqObj "list" #[] J):=by
  have n1:a≠((s.heap.update a (Obj.mapSeq λ_=>#[])).push (seqObj "tuple" vs.toArray 0)).objs.size:=by rw[size_push',Heap.size_update];exact zJ (xX U)
  have Y:a≠(s.heap.update a (Obj.mapSeq λ_=>#[])).objs.size:=by rw[Heap.size_update];exact zJ U
  exact(Heap.get?_push_ne _ _ _ n1).trans ((Heap.get?_push_ne _ _ _ Y).trans at1)
 rw[list_sort_plain];refine zb (listItems_at B rfl ?_);refine zb (listUpdate_at B rfl (zb (seqEpoch_at at1 rfl ?_)));refine zb (wpAny_newTuple (zb (wpAny_newList (wh ?_))));show wpAny (model prog w) A _ Q E { s with heap:=XF s.heap a vs };dsimp only
 have fin:∀(t:SortSt) (ls:Array Nat),arrOf t=ls.map (Zy vs)->failedOf t=none->ls.Perm (Array.range vs.length)->Seg r ls 0 vs.length ->
   wpAny (model prog w) A (do
    let touched:=(<- seqEpoch a) != J
    Builtin.List.listUpdate (.ref a) λ_=>(arrOf t).map (·.2)
    if let some e:=failedOf t then rule "list.sort.comparison-raised";throw e
    if touched then rule "list.sort.modified";raiseError "ValueError" "list modified during sort"
    ret .none) Q E { s with heap:=XF s.heap a vs }:=λt ls h1 h2 h3 h4=>by
  have W:(arrOf t).map (·.2)=ls.map λi=>vs.getD i .none:=by rw[h1,Array.map_map];rfl
  have es:((arrOf t).map (·.2)).size<=2000:=by rw[W,zS,h3.size_eq,yb];lia
  refine zb (seqEpoch_at I rfl ?_)
  refine zb (listUpdate_at I rfl ?_ (hsz2:=by rw[sizeLine_eq];exact zF es w6))
  rw[h2,W];simp only[bne_self_eq_false,wa,if_false];exact ze (q ls h3 h4)
 by_cases c:vs.toArray.size<2
 ·rw [if_pos c, if_pos c];refine zb (ze ?_);rw[StateT.run_pure];refine zb (ze (fin _ (Array.range vs.length) (YW vs) rfl (Array.Perm.refl _) λi j i1 aa hj=>?_))
  have:vs.length<2:=by simpa using c
  lia
 ·rw [if_neg c, if_neg c]
  have h2:2<=vs.length:=by simpa using c
  refine zb (hk h2 _ _ ?_);have N0:Nw vs.length (Zy vs) kd (Array.range vs.length) (SortSt.mk' kd (vs.toArray.zip vs.toArray) #[] 7 none):=⟨YW vs,rfl,rfl,Array.Perm.refl _⟩;refine zb (wY (xB1 (hR h2) N0 rfl h2 (Q:=λ_ t=>∃ls:Array Nat,arrOf t=ls.map (Zy vs)/\failedOf t=none/\ls.Perm (Array.range vs.length)/\Seg r ls 0 vs.length) λls t a1 a2 a3 a4=>⟨ls,a1,a2,a3,a4⟩) ?_ λ_ _ e=>e);rintro⟨_,t⟩ s' ⟨rfl,ls,a1,a2,a3,a4⟩;exact fin t ls a1 a2 a3 a4
def Col(prog:Program)(w:World)(s:Shared)(l:Addr)(vs:QqW):Prop:=∀(B:Around) (E:QqV) (Q:List Value->Shared->Prop),vs.length<=sizeLine->Q vs { s with heap:=(s.heap.push (seqObj "list" #[] 0)).update s.heap.objs.size (Obj.mapSeq (·++vs.toArray)) }->wpAny (model prog w) B (collect (.ref l)) Q E s
def Wl{l:Addr}{vs:QqW}(Y:Col prog w s l vs)(U:vs.length<2000)
    (hk:2<=vs.length->∀(h':Heap),(∀b o,s.heap.get? b=some o->h'.get? b=some o)->∀(B:Around),B.units<=A.units+3->∀(E:QqV) (Q:SortKind->Shared->Prop),Q kd { s with heap:=h' }->wpAny (model prog w) B (keyKind' vs.toArray) Q E { s with heap:=h' })
    (hR:2<=vs.length->∀(h':Heap),(∀b o,s.heap.get? b=some o->h'.get? b=some o)->∀(B:Around),B.units<=A.units+3->WRule prog w B { s with heap:=h' } vs.length (Zy vs) kd r) {Q:QqV}
    (q:∀ls:Array Nat,ls.Perm (Array.range vs.length)->Seg r ls 0 vs.length->Q (.ref (s.heap.objs.size+1)) { s with heap:=sortedAll s.heap vs (ls.map λi=>vs.getD i .none) }) :
    wpAny (model prog w) A (call (.builtin "sorted") [.ref l]) Q E s:=by
  refine Calls.call_function_entry kind_sorted plain_sorted entry_sorted (args_sorted1 _) ?_;unfold Builtin.«sorted»
  refine zb (m:=checkCount "sorted" 1 1 _) (ze (zb (Y _ _ _ (zF (xG U) (by rw[sizeLine_eq];decide)) (zb (wpAny_newList ?_)))))
  have z1:((s.heap.push (seqObj "list" #[] 0)).update s.heap.objs.size (Obj.mapSeq (·++vs.toArray))).objs.size=s.heap.objs.size+1:=by rw[Heap.size_update,size_push']
  let h1:Heap:=((s.heap.push (seqObj "list" #[] 0)).update s.heap.objs.size (Obj.mapSeq (·++vs.toArray))).push (seqObj "list" vs.toArray 0)
  have at1:h1.get? (s.heap.objs.size+1)=some (seqObj "list" vs.toArray 0):=by rw[<- z1];exact zu _ rfl
  have J:∀b o,s.heap.get? b=some o->h1.get? b=some o:=λb o e=>by
    have W:=zy e;refine zd _ ?_;rw[Heap.get?_update_ne _ _ _ _ (zJ W)];exact zd _ e
  have I:∀b o,s.heap.get? b=some o->(XF h1 (s.heap.objs.size+1) vs).get? b=some o:=λb o e=>by
    have W:=zy e;refine zd _ (zd _ ?_);rw[Heap.get?_update_ne _ _ _ _ (zJ (xX W))];exact J b o e
  have eH:∀out:Array Value,sortedHeap h1 (s.heap.objs.size+1) vs out=sortedAll s.heap vs out:=λ_=>rfl
  have body:∀B:Around,B.units<=A.units+3->∀(E:QqV) (P:Fin->Shared->Prop),(∀ls:Array Nat,ls.Perm (Array.range vs.length)->Seg r ls 0 vs.length->P (.done (.ret .none)) { s with heap:=sortedAll s.heap vs (ls.map λi=>vs.getD i .none) }) ->
      wpAny (model prog w) B (Builtin.«list.sort» ⟨[.ref (s.heap.objs.size+1)],[]⟩) P E { s with heap:=h1 }:=λB hB E P p=>
    zP4 (s:={ s with heap:=h1 }) at1 U (λh2 E Q q=>hk h2 _ I B hB E Q q) (λh2=>hR h2 _ I B hB) λls a1 a2=>by
      show P _ { s with heap:=sortedHeap h1 (s.heap.objs.size+1) vs _ };rw[eH];exact p ls a1 a2
  show wpAny _ _ _ _ _ { s with heap:=h1 };rw[z1]
  clear_value h1
  refine zb (wh (wA slot_list_sort ⟨_,at1,rfl⟩ entry_list_sort (body _ ?_ _ _ λls a1 a2=>⟨_,rfl,ze ⟨_,rfl,q ls a1 a2⟩⟩) (args_list_sort _)));show A.units+1+1<=A.units+3;lia
def QJ{l:Addr}{vs:QqW}(U:s.heap.IsList l vs.toArray)(I:vs.length<2000)
  (hk:2<=vs.length->∀(h':Heap),(∀b o,s.heap.get? b=some o->h'.get? b=some o)->∀(B:Around),B.units<=A.units+3->∀(E:QqV) (Q:SortKind->Shared->Prop),Q kd { s with heap:=h' }->wpAny (model prog w) B (keyKind' vs.toArray) Q E { s with heap:=h' })
  (W:2<=vs.length->∀(h':Heap),(∀b o,s.heap.get? b=some o->h'.get? b=some o)->∀(B:Around),B.units<=A.units+3->WRule prog w B { s with heap:=h' } vs.length (Zy vs) kd r) {Q:QqV}
  (q:∀ls:Array Nat,ls.Perm (Array.range vs.length)->Seg r ls 0 vs.length->Q (.ref (s.heap.objs.size+1)) { s with heap:=sortedAll s.heap vs (ls.map λi=>vs.getD i .none) }) :
  wpAny (model prog w) A (call (.builtin "sorted") [.ref l]) Q E s:=Wl (λ_ _ _ J h=>collect_list U h J) I hk W q
def ze9{l:Addr}{vs:QqW}(Y:s.heap.IsList l vs.toArray)(U:vs.length<2000)
  (hk:2<=vs.length->∀(h':Heap),(∀b o,s.heap.get? b=some o->h'.get? b=some o)->∀(B:Around),B.units<=A.units+3->∀(E:QqV) (Q:SortKind->Shared->Prop),Q kd { s with heap:=h' }->wpAny (model prog w) B (keyKind' vs.toArray) Q E { s with heap:=h' })
  (W:2<=vs.length->∀(h':Heap),(∀b o,s.heap.get? b=some o->h'.get? b=some o)->∀(B:Around),B.units<=A.units+3->Rule prog w B { s with heap:=h' } vs.length (Zy vs) kd r) {Q:QqV}
  (q:∀ls:Array Nat,ls.Perm (Array.range vs.length)->Up r ls vs.length->Q (.ref (s.heap.objs.size+1)) { s with heap:=sortedAll s.heap vs (ls.map λi=>vs.getD i .none) }) :
  wpAny (model prog w) A (call (.builtin "sorted") [.ref l]) Q E s:=
 QJ Y U hk (λh2 h' o B hB=>(W h2 h' o B hB).weak) λls h4 h5=>q ls h4 λi j J hj=>by
  have R:=W w5 s.heap (λ_ _ e=>e) A w5
  have hs:ls.size=vs.length:=by rw[h4.size_eq,yb]
  have I:lab ls i≠lab ls j:=zN7 (ZQ h4) J w5
  have z:=h5 i j w5 J w5
  have hne':¬ lab ls j=lab ls i:=λe=>I e.symm;simp[hne'] at z
  rw[R.tot _ _ (Vb h4 (qk w5)) (Vb h4 (qk w5)) I,z];rfl
end
end L2.Srt
namespace L2
open PySem PySem.Spec PyProof.Rows PySem.SeqAt
theorem ints_at:∀{vs:QqW}{ns:List Int},IntsAre vs ns->∀{i:Nat},i<vs.length->∃t,vs.getD i .none=.int (ns.getD i 0) t
 |_,_,.cons n t h,0,_=>⟨t,rfl⟩
 |_,_,.cons n t h,i+1,hi=>by
  obtain⟨u,e⟩:=ints_at h (i:=i) (by simpa using hi)
  exact⟨u,by simpa using e⟩
theorem Qb:∀{vs:QqW}{ns:List Int},IntsAre vs ns->vs.length=ns.length
 |_,_,.nil=>rfl
 |_,_,.cons n t h=>by simp[Qb h]
theorem UB{vs:QqW}{ns:List Int}(h:IntsAre vs ns):∀{ls:List Nat},(∀i∈ls,i<vs.length)->IntsAre (ls.map λi=>vs.getD i .none) (ls.map λi=>ns.getD i 0)
 |[],_=>.nil
 |i::ls,B=>by
  obtain⟨t,e⟩:=ints_at h (B i (zq ..));rw[zz,zz,e];exact .cons _ t (UB h λj hj=>B j (zf _ hj))
theorem zk9:∀{vs:QqW}{ns:List Int},IntsAre vs ns->2<=vs.length->keyKind' vs.toArray=pure oneType'
 |_::_::_,_,h,_=>keyKind_ints h
 |[],_,_,h=>by simp at h
 |[_],_,_,h=>by simp at h
section
variable {prog:Program}{w:World}{A:Around}{E:QqV}{s:Shared}
def VH{l:Addr}{vs:QqW}{ns:List Int}{Q:QqV}(hl:Srt.Col prog w s l vs)(I:IntsAre vs ns)(h9:vs.length<2000)
    (h:∀(out:Array Value) (ns':List Int),IntsAre out.toList ns'->ns'.Perm ns->ns'.Pairwise (·<=·)->Q (.ref (s.heap.objs.size+1)) { s with heap:=sortedAll s.heap vs out }) :
    wpAny (model prog w) A (call (.builtin "sorted") [.ref l]) Q E s:=by
  have len:=Qb I;refine Srt.Wl (kd:=oneType') (r:=λa b=>decide (ns.getD a 0<ns.getD b 0)) hl h9 (λh2 h' o B hB E Q q=>?_) (λh2 h' o B hB=>⟨λa b _ _ z=>?_,λa b c _ _ _ z1 z2=>?_,λa b ha hb _ E Q q=>?_⟩) λls J hs=>?_
  · rw [zk9 I h2]
    exact ze q
  · simp at z ⊢;lia
  · simp at z1 z2 ⊢;lia
  · obtain ⟨t, e1⟩ := ints_at I ha
    obtain⟨u,e2⟩:=ints_at I hb;show wpAny (model prog w) B (keyLt' oneType' (vs.getD a .none) (vs.getD b .none)) Q E _;rw[e1,e2,keyLt'_oneType];exact oneLt_int q
  · have hm : ∀ i ∈ ls.toList, i < vs.length := λi hi => Srt.Vb J hi
    have hsz:ls.size=vs.length:=by rw[J.size_eq,yb]
    refine h _ (ls.toList.map λi=>ns.getD i 0) (by rw[Array.toList_map];exact UB I hm) ?_ ?_
    · have e : (List.range vs.length).map (λi => ns.getD i 0) = ns := by
        refine List.ext_getElem (by simp[len]) λi h1 h2=>?_
        rw[List.getElem_map,List.getElem_range,xj,zn h2];rfl
      have:=(xV.mp J).map λi=>ns.getD i 0;rw[yJ,e] at this;exact this
    · rw [xy]
      refine xR.mpr λi j hi hj U=>?_;rw[zj] at hi hj
      have z:=hs i j w5 U w5
      have Y:=Srt.yX (ls:=ls) hi;have W:=Srt.yX (ls:=ls) hj
      rw[<- zL,zn (by rw[zj];exact hi)] at Y
      rw[<- zL,zn (by rw[zj];exact hj)] at W
      rw[zN Y,zN W];simp at z;exact z
end
section
variable {X:Cx}{A:AC}
end
end L2
namespace L2.Srt
open PySem PyProof.Rows PySem.SeqAt
section
variable {prog:Program}{w:World}{M:Model}{A:Around}{E:QqV}{s:Shared}
theorem zc7{α β:Type}{f:α->Sem β}{g:α->β}:∀{l:List α}{Q:List β->Shared->Prop},(∀a∈l,∀Q:β->Shared->Prop,Q (g a) s->wpAny M A (f a) Q E s)->Q (l.map g) s->wpAny M A (l.mapM f) Q E s
 |[],Q,_,q=>by rw[List.mapM_nil];exact ze q
 |a::l,Q,h,q=>by
  rw[List.mapM_cons];refine zb (h a (zq ..) _ (zb (zc7 (λb B=>h b (zf _ B)) (ze q))))
def zc8{α β:Type}{f:α->Sem β}{g:α->β}{l:List α}{Q:Array β->Shared->Prop}(h:∀a∈l,∀Q:β->Shared->Prop,Q (g a) s->wpAny M A (f a) Q E s)(q:Q (l.map g).toArray s):wpAny M A (l.toArray.mapM f) Q E s:=by
 rw[List.mapM_toArray];show wpAny M A (List.toArray <$> l.mapM f) Q E s;rw[map_eq_pure_bind];exact zb (zc7 h (ze q))
def Yq(v:Value):firstOfTuple' v=(do
  if (<- typeOf v) != .type "tuple" then return none
  return (<- Builtin.List.listItems v)[0]?):=rfl
def Tup(h:Heap)(v:Value)(p:Value)(rest:QqW):Prop:=∃a,v=.ref a/\IsTup h a (p::rest).toArray
def Tup.type{v p:Value}{rest:QqW}(t:Tup s.heap v p rest):s.TypeIs v "tuple" := by
 obtain⟨a,rfl,o,B,I,_⟩:=t;exact⟨o,B,I⟩
def Tup.items{v p:Value}{rest:QqW}(t:Tup s.heap v p rest){Q:Array Value->Shared->Prop}(q:Q (p::rest).toArray s):wpAny M A (Builtin.List.listItems v) Q E s:=by
 obtain⟨a,rfl,o,B,I,n,hd⟩:=t;exact listItems_at B hd q
def KM{vs:QqW}{fst:Value->Value}{T:String}(h2:2<=vs.length)(I:∀v∈vs,∃rest,Tup s.heap v (fst v) rest)(J:∀v∈vs,s.TypeIs (fst v) T){Q:SortKind->Shared->Prop}(q:Q (tuples' (Value.type T != Value.type "tuple")) s):wpAny M A (keyKind' vs.toArray) Q E s:=by
  rw[keyKind'_eq];refine zb (zc8 (g:=λv=>some (fst v)) (λv hv Q q=>?_) ?_)
  · obtain ⟨rest, t⟩ := I v hv
    rw[Yq];refine zb (wpAny_typeOf t.type ?_)
    have e:(Value.type "tuple" != Value.type "tuple")=false:=by rfl
    rw[e];exact zb (t.items (ze q))
  · have e : (vs.map λv => some (fst v)).toArray.all (·.isSome) = true := by simp
    rw[if_pos e];refine zb (wz ?_)
    have Y:((vs.map λv=>some (fst v)).toArray.filterMap id)=(vs.map fst).toArray:=by
      simp[filterMap_map]
    rw[Y,oneTypeOnly'_eq];refine zb (zb (zc8 (g:=λ_=>Value.type T) (λv hv Q q=>?_) ?_))
    · obtain ⟨u, B, rfl⟩ := zG.mp hv
      exact wpAny_typeOf (J u B) q
    · have W : ((vs.map fst).map λ_ => Value.type T).toArray[0]? = some (Value.type T) := by
        cases vs with
        |nil=>simp at h2
        |cons v vs=>simp
      have U:(((vs.map fst).map λ_=>Value.type T).toArray.all (· == Value.type T))=true:=by
        simp only[List.all_toArray,List.all_map,yz];intro _ _;show(Value.type T == Value.type T)=true;simp
      rw[W];dsimp only;rw[U];exact ze (ze q)
def Vl(f:Bool)(x y:Value):keyLt' (tuples' f) x y=(do
  let xs <- Builtin.List.listItems x
  let B <- Builtin.List.listItems y
  for ((p,q),i) in (xs.toList.zip B.toList).zipIdx do
   if !(<- eqBool p q) then return <- oneLt' (f&&i == 0) p q
  return xs.size<B.size):=rfl
inductive Lex(A:Around)(s:Shared)(f:Bool)(b:Bool):Nat->List Value->List Value->Prop
 |alike {i:Nat}{p q:Value}{ps qs:QqW}:EqAt A s p q true->Lex A s f b (i+1) ps qs->Lex A s f b i (p::ps) (q::qs)
 |here {i:Nat}{p q:Value}{ps qs:QqW}:EqAt A s p q false->(∀(prog:Program) (w:World) (E:QqV) (Q:Bool->Shared->Prop),Q b s->wpAny (model prog w) A (oneLt' (f&&i == 0) p q) Q E s)->Lex A s f b i (p::ps) (q::qs)
def zl0{f b:Bool}{x y p q:Value}{ps J:QqW}(tx:Tup s.heap x p ps)(ty:Tup s.heap y q J)(L:Lex A s f b 0 (p::ps) (q::J)){Q:Bool->Shared->Prop}(h:Q b s):wpAny (model prog w) A (keyLt' (tuples' f) x y) Q E s:=by
 rw[Vl];refine zb (tx.items (zb (ty.items ?_)))
 refine zb (wpAny_forIn_list _ (λrest c s'=>s'=s/\c.1=none/\∃i xs I,rest=(xs.zip I).zipIdx i/\Lex A s f b i xs I) (λc s'=>s'=s/\c.1=some b) ?turn ?fin _ _ ⟨rfl,rfl,0,p::ps,q::J,by simp,L⟩ |> λz=>wY z ?post λ_ _ e=>e)
 case turn=>
  rintro⟨⟨u,v⟩,k⟩ rest c s' ⟨rfl,U,i,xs,I,e,L⟩
  cases L with
  |alike he L=>
   rw[yH,yv] at e;injection e with B e2;injection B with B e3;injection B with Y W;subst e3 Y W;refine zb (he prog w _ _ ?_);simp only[Bool.not_true,wa,if_false];exact ze ⟨rfl,rfl,_,_,_,e2,L⟩
  |here he ho=>
   rw[yH,yv] at e;injection e with B e2;injection B with B e3;injection B with Y W;subst e3 Y W;refine zb (he prog w _ _ ?_);simp only[Bool.not_false,if_true];exact zb (ho prog w _ _ (ze ⟨rfl,rfl⟩))
 case fin=>
  rintro c s' ⟨_,_,i,xs,I,e,L⟩
  cases L<;>(rw[yH,yv] at e;cases e)
 case post=>
  rintro c s' ⟨rfl,U⟩;obtain⟨c1,c2⟩:=c;simp only at U;subst U;exact ze h
def Xj{i j:Int}{t u:Tok}{Q:Bool->Shared->Prop}(h:Q (decide (i<j)) s):wpAny (model prog w) A (oneLt' false (.int i t) (.int j u)) Q E s:=by
 rw[oneLt'_eq];simp only[wa,if_false];exact zb (show wpAny (model prog w) A (compareOp .Lt (.int i t) (.int j u)) _ _ _ from PyProof.Rows.lt_int (yo h))
def Xi{a b:Addr}{xs B:Array Value}{ns I:List Int}(ha:IsTup s.heap a xs)(U:IsTup s.heap b B)(hi:IntsAre xs.toList ns)(hj:IntsAre B.toList I)(J:A.units<cLine){Q:Bool->Shared->Prop}(h:Q (HT.qx ns I) s):wpAny (model prog w) A (oneLt' false (.ref a) (.ref b)) Q E s:=by
 rw[oneLt'_eq];simp only[wa,if_false];exact zb (show wpAny (model prog w) A (compareOp .Lt (.ref a) (.ref b)) _ _ _ from HT.za4 ha U hi hj J (yo h))
def qL(f:Bool){i j:Int}{t u:Tok}{Q:Bool->Shared->Prop}(h:Q (decide (i<j)) s):wpAny (model prog w) A (oneLt' f (.int i t) (.int j u)) Q E s:=by
 cases f with
 |true=>exact oneLt_int h
 |false=>exact Xj h
end
end L2.Srt
namespace L2
open PySem PySem.Spec PyProof.Rows PySem.SeqAt
def xQ7(X:Cx)(H:Hp)(f:Bool)(y:V):Prop:=∀B s σ v,Inv X B σ H s->RelV y v->∃p rest,Srt.Tup s.heap v p rest/\s.TypeIs p (if f then "int" else "tuple")
def xQ9(X:Cx)(H:Hp)(f:Bool)(y z:V)(b:Bool):Prop:=∀B s σ u v,Inv X B σ H s->RelV y u->RelV z v->∀A:Around,A.units+60<cLine->∃p ps q I,Srt.Tup s.heap u p ps/\Srt.Tup s.heap v q I/\Srt.Lex A s f b 0 (p::ps) (q::I)
def zf5(X:Cx):List V->Hp->VK->Prop:=λxs H Q=>∃(p:Addr) (B:List V) (f:Bool) (r:Nat->Nat->Bool),xs=[.ref p]/\SqL X.K H p B/\B.length<900 /\
 (∀a b,a<B.length->b<B.length->a≠b->r a b=!r b a)/\(∀a b c,a<B.length->b<B.length->c<B.length->r a b=true->r b c=true->r a c=true) /\
 (∀a,a<B.length->xQ7 X H f (B.getD a .non))/\(∀a b,a<B.length->b<B.length->a≠b->xQ9 X H f (B.getD a .non) (B.getD b .non) (r a b)) /\
 ∀ls:Array Nat,ls.Perm (Array.range B.length)->Srt.Up r ls B.length->∀l,H l=none->Q (.ref l) (upd H l (.lst (ls.toList.map λi=>B.getD i .non)))
def Vals.getD{xs:List V}{us:QqW}(h:Vals xs us){i:Nat}(hi:i<xs.length):RelV (xs.getD i .non) (us.getD i .none):=by
 obtain⟨u,e,r⟩:=h.get (zn hi);rw[xj,xj,e,zn hi];exact r
theorem Vz{xs:List V}{us:QqW}(h:Vals xs us):∀{ls:List Nat},(∀i∈ls,i<xs.length)->Vals (ls.map λi=>xs.getD i .non) (ls.map λi=>us.getD i .none)
 |[],_=>.nil
 |i::ls,B=>.cons (h.getD (B i (zq ..))) (Vz h λj hj=>B j (zf _ hj))
section
variable {X:Cx}
def Yh{n:Nat}(hr:Room n X.A):qC X (.builtin "sorted") (zf5 X):=by
 classical
 intro J s σ H xs us Q I r h;obtain⟨p,W,f,rr,rfl,hq,hn,tot,tr,Y,cmp,q⟩:=h;obtain⟨u,rfl,hu⟩:=YG r;have hu':u=.ref p:=hu;subst hu';obtain⟨its,rv,pl,_⟩:=I.list hq;have len:=rv.length;have un:=hr.un
 have aa:∀v∈its,∃i,i<W.length/\v=its.getD i .none:=λv hv=>by
  obtain⟨i,hi,e⟩:=List.getElem_of_mem hv
  exact⟨i,w5,by rw[xj,zn hi,e];rfl⟩
 refine Srt.ze9 (r:=rr) (kd:=tuples' f) pl.isList w5 (λh2 h' keep B hB E Q q=>?_) (λh2 h' keep B hB=>?_) (λls U hU=>?_)
 ·have I' : Inv X J σ H { s with heap := h' } := I.kept (t' := s.toks) keep
  have each:∀v∈its,∃p rest,Srt.Tup h' v p rest/\Shared.TypeIs { s with heap:=h' } p (if f then "int" else "tuple"):=λv hv=>by
   obtain⟨i,hi,rfl⟩:=aa v hv;exact Y i hi J _ σ _ I' (rv.getD hi)
  refine Srt.KM (s:={ s with heap:=h' }) (T:=if f then "int" else "tuple") (fst:=λv=>if h:∃p rest,Srt.Tup h' v p rest/\Shared.TypeIs { s with heap:=h' } p (if f then "int" else "tuple") then h.choose else v) w5 (λv hv=>?_) (λv hv=>?_) ?_
  ·have e := each v hv;obtain⟨rest,t,_⟩:=e.choose_spec
   exact⟨rest,by rw[dif_pos e];exact t⟩
  ·have e := each v hv;obtain⟨rest,_,t⟩:=e.choose_spec
   show Shared.TypeIs _ (if h:_ then _ else _) _
   rw[dif_pos e];exact t
  ·cases f
   ·exact q
   ·exact q
 ·have I' : Inv X J σ H { s with heap := h' } := I.kept (t' := s.toks) keep
  refine⟨λa b ha hb=>tot a b w5 w5,λa b c ha hb hc=>tr a b c w5 w5 w5,λa b ha hb ac E Q q=>?_⟩
  obtain⟨p1,ps,p2,qs,t1,t2,L⟩:=cmp a b w5 w5 ac J _ σ _ _ I' (rv.getD w5) (rv.getD w5) B w5
  exact Srt.zl0 t1 t2 L q
 ·obtain ⟨e, he⟩ := sortedAll_at s.heap its (ls.map λi => its.getD i .none);have hf:H (s.heap.objs.size+1)=none:=I.hok.fresh (xv _)
  have ab:∀i∈ls.toList,i<W.length:=λi hi=>by
   have:=(U.mem_iff).mp (Array.mem_toList_iff.mp hi);rw[Array.mem_range] at this;lia
  rw[<- len] at U hU;refine⟨.ref (s.heap.objs.size+1),_,I.laid (t':=s.toks) (o:=.lst (ls.toList.map λi=>W.getD i .non)) (λb u e=>sortedAll_old e) (xv _) ?_,rfl,q ls U hU _ hf⟩;refine⟨?_,(ls.toList.map λi=>its.getD i .none),e,Vz rv ab,?_⟩
  ·rw [zh, zj, U.size_eq, yb]
   exact zF (xG hn) w6
  ·have ea : (ls.toList.map λi => its.getD i .none).toArray = ls.map λi => its.getD i .none := by rw [<- Array.toList_map, Array.toArray_toList]
   rw[ea];exact he
end
inductive SKey where
 |n (i:Int) |t (ns:List Int)
 deriving DecidableEq
def SKey.d:SKey->D
 |.n i=>.int i
 |.t ns=>.tup (ns.map D.int)
def SKey.num:SKey->Bool
 |.n _=>true
 |.t _=>false
def SKey.lt:SKey->SKey->Bool
 |.n i,.n j=>decide (i<j)
 |.t ns,.t B=>HT.qx ns B
 |_,_=>false
structure SRow where
 key:SKey
 name:Int
 rest:List D
def SRow.d(x:SRow):D:=.tup (x.key.d::.int x.name::x.rest)
def SRow.lt(x y:SRow):Bool:=if x.key=y.key then decide (x.name<y.name) else x.key.lt y.key
theorem JX:∀(xs B:List Int),xs≠B->HT.qx xs B=!HT.qx B xs
 |[],[],h=>absurd rfl h
 |[],y::B,_=>rfl
 |x::xs,[],_=>rfl
 | x :: xs, y :: B, h => by
  rw[HT.qw,HT.qw]
  by_cases e:x=y
  ·subst e;rw[if_pos rfl,if_pos rfl]
   exact JX xs B λz=>h (by rw[z])
  ·rw [if_neg e, if_neg (Ne.symm e)]
   by_cases l:x<y
   ·rw[xN l,xf w5];rfl
   ·rw[xf l,xN w5];rfl
theorem zk2:∀(xs:List Int),HT.qx xs xs=false
 |[]=>rfl
 |x::xs=>by rw[HT.qw,if_pos rfl];exact zk2 xs
theorem Uw:∀(xs J I:List Int),HT.qx xs J=true->HT.qx J I=true->HT.qx xs I=true
 |[],[],_,h,_=>by cases h
 |[],_::_,[],_,h=>by cases h
 |[],_::_,_::_,_,_=>rfl
 |_::_,[],_,h,_=>by cases h
 |_::_,_::_,[],_,h=>by cases h
 | x :: xs, y :: J, z :: I, h1, h2 => by
  rw[HT.qw] at h1 h2 ⊢
  by_cases U:x=y
  ·subst U;rw[if_pos rfl] at h1
   by_cases B:x=z
   ·subst B;rw[if_pos rfl] at h2 ⊢;exact Uw xs J I h1 h2
   ·rw[if_neg B] at h2 ⊢;exact h2
  ·rw [if_neg U] at h1;have l1:=of_decide_eq_true h1
   by_cases B:y=z
   ·subst B;rw[if_neg U];exact h1
   ·rw [if_neg B] at h2;have l2:=of_decide_eq_true h2
    rw[if_neg w5]
    exact xN w5
def SKey.lt_anti{x y:SKey}(hn:x.num=y.num)(h:x≠y):x.lt y=!y.lt x:=by
 cases x with
 | n i =>
  cases y with
  |n j=>
   have:i≠j:=λz=>h (by rw[z])
   simp only[SKey.lt]
   by_cases l:i<j
   ·rw[xN l,xf w5];rfl
   ·rw[xf l,xN w5];rfl
  |t B=>cases hn
 |t ns=>
  cases y with
  |n j=>cases hn
  |t B=>exact JX ns B λz=>h (by rw[z])
def SKey.lt_irr(x:SKey):x.lt x=false:=by
 cases x with
 |n i=>simp[SKey.lt]
 |t ns=>exact zk2 ns
def SKey.lt_trans{x y z:SKey}(h1:x.lt y=true)(h2:y.lt z=true):x.lt z=true:=by
 cases x<;>cases y<;>cases z<;>first
  |(cases h1;done) |(cases h2;done)
  |(simp only[SKey.lt,yR] at h1 h2 ⊢;lia)
  |exact Uw _ _ _ h1 h2
def SRow.lt_anti{x y:SRow}(hn:x.key.num=y.key.num)(h:x.name≠y.name):x.lt y=!y.lt x:=by
 unfold SRow.lt
 by_cases e:x.key=y.key
 ·rw [if_pos e, if_pos e.symm]
  by_cases l:x.name<y.name
  ·rw[xN l,xf w5];rfl
  ·rw[xf l,xN w5];rfl
 ·rw[if_neg e,if_neg (Ne.symm e)];exact SKey.lt_anti hn e
def SRow.lt_trans{x y z:SRow}(h1:x.lt y=true)(h2:y.lt z=true):x.lt z=true:=by
 unfold SRow.lt at *
 by_cases I:x.key=y.key
 ·rw [if_pos I] at h1
  by_cases B:y.key=z.key
  ·rw[if_pos B] at h2;rw[if_pos (I.trans B)];simp only[yR] at *;lia
  ·rw [if_neg B] at h2
   rw[if_neg (by rw[I];exact B),I]
   exact h2
 ·rw [if_neg I] at h1
  by_cases B:y.key=z.key
  ·rw [if_neg (by rw [<- B]; exact I), <- B]
   exact h1
  ·rw [if_neg B] at h2;have h3:=SKey.lt_trans h1 h2
   by_cases J:x.key=z.key
   ·rw[J,SKey.lt_irr] at h3;cases h3
   ·rw[if_neg J];exact h3
def zc4:SRow:=⟨.n 0,0,[]⟩
def xc8:List D->(D->Prop)->Prop:=λes k=>∃(B:List SRow) (f:Bool),es=[.lst (B.map SRow.d)]/\B.length<900/\(∀x∈B,x.key.num=f)/\(B.map SRow.name).Nodup/\∀rows':List SRow,rows'.Perm B->rows'.Pairwise (λx y=>x.lt y=true)->k (.lst (rows'.map SRow.d))
theorem UF:∀(xs B:List Int),Wg (xs.map D.int) (B.map D.int)=decide (xs=B)
 |[],[]=>by unfold Wg;rfl
 |[],y::B=>by unfold Wg;simp
 |x::xs,[]=>by unfold Wg;simp
 |x::xs,y::B=>by
  rw[zz,zz];unfold Wg;rw[UF xs B];unfold eqD
  by_cases e:x=y
  ·subst e;simp
  ·simp[e]
def zQ0{x y:SKey}(h:x.num=y.num):eqD x.d y.d=decide (x=y):=by
 cases x with
 | n i =>
  cases y with
  |n j=>
   show eqD (.int i) (.int j)=_;unfold eqD
   by_cases e:i=j
   ·subst e;simp
   ·simp[e]
  |t B=>cases h
 | t ns =>
  cases y with
  |n j=>cases h
  |t B=>
   show eqD (.tup _) (.tup _)=_;unfold eqD;rw[UF]
   by_cases e:ns=B
   ·subst e;simp
   ·simp[e]
def zi9(x:SKey):okE x.d 20=true:=by
 cases x with
 |n i=>exact zj0
 |t ns=>
  refine(zN3 (k:=19)).mpr λd hd=>?_;obtain⟨x,_,rfl⟩:=zG.mp hd;exact zj0
section
variable {X:Cx}{pins:QqL}{σ:St}{H:Hp}{s:Shared}{G:QqE}{Z:QqA}
def zr9{a b:V}{xs:List V}{its:QqW}(h:Vals (a::b::xs) its):∃p q r,its=p::q::r/\RelV a p/\RelV b q:=by
 cases h with
 |cons B t=>
  cases t with
  |cons h1 I=>exact⟨_,_,_,rfl,B,h1⟩
structure RowAt(X:Cx)(G:QqE)(Z:QqA)(H:Hp)(s:Shared)(x:SRow)(u p:Value)(rest:QqW):Prop where
 tup:∃q,Srt.Tup s.heap u p (q::rest)/\∃t,q=.int x.name t
 key:∃z,Rep X.K G Z H x.key.d z/\RelV z p
def zf4(I:Inv X pins σ H s){x:SRow}{v:V}{u:Value}(r:Rep X.K G Z H x.d v)(q:RelV v u):∃p rest,RowAt X G Z H s x u p rest:=by
 unfold SRow.d at r;obtain⟨a,xs,rfl,sq,rs⟩:=r.tup_inv;have e:u=.ref a:=q;subst e;obtain⟨its,rv,pl,_⟩:=I.tuple sq.sq;obtain⟨z0,W,rfl,r0,J⟩:=rs.split;obtain⟨z1,U,rfl,r1,Y⟩:=J.split;have e1:=r1.int_inv;subst e1;obtain⟨p0,p1,B,rfl,h0,t,rfl⟩:=zr9 rv;exact⟨p0,B,⟨_,⟨a,rfl,pl⟩,t,rfl⟩,z0,r0,h0⟩
def zt2(I:Inv X pins σ H s){x:SRow}{u p:Value}{rest:QqW}(R:RowAt X G Z H s x u p rest):s.TypeIs p (if x.key.num then "int" else "tuple"):=by
 obtain⟨z,r,q⟩:=R.key
 cases h:x.key with
 |n i=>
  rw[h] at r;have e:z=.int i:=r.int_inv;subst e;obtain⟨t,rfl⟩:=q;exact typeIs_int s i t
 |t ns=>
  rw[h] at r;obtain⟨a,xs,rfl,sq,U⟩:=Rep.tup_inv (show Rep X.K G Z H (.tup (ns.map D.int)) z from r);have e:p=.ref a:=q;subst e;obtain⟨its,rv,⟨o,B,J,_⟩,_⟩:=I.tuple sq.sq;exact⟨o,B,J⟩
def zH4(I:Inv X pins σ H s){x y:SRow}{u v p q:Value}{ps Y:QqW}(hn:x.key.num=y.key.num)(hd:x.name≠y.name)(R:RowAt X G Z H s x u p ps)(R':RowAt X G Z H s y v q Y){A:Around}(hu:A.units+60<cLine) :
  ∃p ps q Y,Srt.Tup s.heap u p ps/\Srt.Tup s.heap v q Y/\Srt.Lex A s x.key.num (x.lt y) 0 (p::ps) (q::Y):=by
 obtain⟨n1,t1,ab,rfl⟩:=R.tup;obtain⟨n2,t2,aa,rfl⟩:=R'.tup;obtain⟨z1,J,q1⟩:=R.key;obtain⟨z2,B,q2⟩:=R'.key
 have E:=(zn1 I 20 x.key.d y.key.d z1 z2 p q A (zi9 _) (zi9 _) J B q1 q2 w5).1
 rw[zQ0 hn] at E;refine⟨p,_,q,_,t1,t2,?_⟩
 by_cases e:x.key=y.key
 ·rw [xN e] at E;refine .alike E (.here ?_ ?_)
  ·have := EqAt.int_int (A := A) (s := s) x.name ab y.name aa
   have W:(x.name == y.name)=false:=by simpa using hd
   rw[W] at this;exact this
  ·intro prog w E Q h;unfold SRow.lt at h;rw[if_pos e] at h;exact Srt.qL _ h
 ·rw [xf e] at E;refine .here E ?_;intro prog w E Q h;unfold SRow.lt at h;rw[if_neg e] at h
  cases hx:x.key with
  | n i =>
   cases U:y.key with
   |n j=>
    rw[hx] at J h;rw[U] at B h;have e1:z1=.int i:=J.int_inv;have W:z2=.int j:=B.int_inv;subst e1 W;obtain⟨a1,rfl⟩:=q1;obtain⟨a2,rfl⟩:=q2;exact Srt.qL _ h
   |t ms=>rw[hx,U] at hn;cases hn
  | t ns =>
   cases U:y.key with
   |n j=>rw[hx,U] at hn;cases hn
   |t ms=>
    rw[hx] at J h;rw[U] at B h;obtain⟨a,xs,rfl,sq,rs⟩:=Rep.tup_inv (show Rep X.K G Z H (.tup (ns.map D.int)) z1 from J);obtain⟨b,ys,rfl,sq',rs'⟩:=Rep.tup_inv (show Rep X.K G Z H (.tup (ms.map D.int)) z2 from B);have e1:p=.ref a:=q1;have W:q=.ref b:=q2;subst e1 W;obtain⟨its,rv,pl,_⟩:=I.tuple sq.sq;obtain⟨its',rv',pl',_⟩:=I.tuple sq'.sq;rw[kq rs] at rv;rw[kq rs'] at rv';show wpAny _ _ (oneLt' (false&&_) _ _) _ _ _
    exact Srt.Xi pl pl' (jE rv) (jE rv') w5 h
end
def Reps.getD{K:W.Frag}{G:QqE}{Z:QqA}{H:Hp}{α:Type}{enc:α->D}{B:List α}{a0:α}{xs:List V}(I:Reps K G Z H (B.map enc) xs){i:Nat}(hi:i<B.length):Rep K G Z H (enc (B.getD i a0)) (xs.getD i .non):=by
 obtain⟨v,e,r⟩:=I.get (i:=i) (d:=enc B[i]) (by rw[zI,zn hi];rfl)
 rw[xj,xj,e,zn hi];exact r
theorem YU{K:W.Frag}{G:QqE}{Z:QqA}{H:Hp}{α:Type}{enc:α->D}{B:List α}{a0:α}{xs:List V}(I:Reps K G Z H (B.map enc) xs):∀{ls:List Nat},(∀i∈ls,i<B.length)->Reps K G Z H ((ls.map λi=>B.getD i a0).map enc) (ls.map λi=>xs.getD i .non)
 |[],_=>.nil
 |i::ls,J=>.cons (I.getD (J i (zq ..))) (YU I λj hj=>J j (zf _ hj))
def Ut{α:Type}(a0:α)(B:List α):(List.range B.length).map (λi=>B.getD i a0)=B:=by
 apply List.ext_getElem
 ·simp
 ·intro i h1 h2;simp[xj,h2]
def zA5{A:AC}{X:Cx}(hK:X.K=A.K):vI A (zf5 X) xc8:=by
 rintro os n rho sg H ds vs es ws k Q I rs ⟨U,f,rfl,hl,hf,ab,q⟩ hQ;obtain⟨v,rfl,r⟩:=qb rs;obtain⟨a,xs,rfl,sq,rr⟩:=r.lst_inv
 have len:xs.length=U.length:=by rw[rr.length,zh]
 have mem:∀i,i<U.length->U.getD i zc4∈U:=λi hi=>by
  rw[xj,zn hi];exact yw hi
 have Y:∀i j,i<U.length->j<U.length->i≠j->(U.getD i zc4).name≠(U.getD j zc4).name:=λi j hi hj W e=>by
  have g:∀i (hi:i<U.length),(U.map SRow.name)[i]'(by simpa using hi)=(U.getD i zc4).name:=λi hi=>by
   rw[List.getElem_map,xj,zn hi];rfl
  have f:=xR.mp ab
  rcases Nat.lt_or_gt_of_ne W with l |l
  ·exact f i j (by simpa using hi) (by simpa using hj) l (by rw[g i hi,g j hj,e])
  ·exact f j i (by simpa using hj) (by simpa using hi) l (by rw[g i hi,g j hj,e])
 have num:∀i,i<U.length->(U.getD i zc4).key.num=f:=λi hi=>hf _ (mem i hi);rw[<- hK] at rr
 refine⟨a,xs,f,λi j=>(U.getD i zc4).lt (U.getD j zc4),rfl,by rw[hK];exact sq.sq,w5,λi j hi hj W=>SRow.lt_anti (by rw[num i w5,num j w5]) (Y i j w5 w5 W),λi j l _ _ _ h1 h2=>SRow.lt_trans h1 h2,λi hi=>?_,λi j hi hj W=>?_,λls hp hU l hl'=>?_⟩
 ·intro aa s σ u J ru
  obtain⟨p,rest,R⟩:=zf4 J (rr.getD (enc:=SRow.d) (a0:=zc4) w5) ru
  obtain⟨z,t,_⟩:=R.tup;have ty:=zt2 J R
  rw[num i w5] at ty
  exact⟨p,_,t,ty⟩
 ·intro aa s σ u v J ru rv B hB
  obtain⟨p,ps,R⟩:=zf4 J (rr.getD (enc:=SRow.d) (a0:=zc4) w5) ru
  obtain⟨p',ps',R'⟩:=zf4 J (rr.getD (enc:=SRow.d) (a0:=zc4) w5) rv
  have c:=zH4 J (by rw[num i w5,num j w5]) (Y i j w5 w5 W) R R' hB
  rw[num i w5] at c
  exact c
 ·rw [len] at hp hU
  have ac:∀i∈ls.toList,i<U.length:=λi hi=>by
   have:=(hp.mem_iff).mp (Array.mem_toList_iff.mp hi)
   rwa [Array.mem_range] at this
  have hsz:ls.size=U.length:=by rw[hp.size_eq,yb]
  rw[hK] at rr;refine hQ _ _ _ ⟨os,I.newLst (YU (a0:=zc4) rr ac) hl'⟩ (q _ ?_ ?_)
  ·have p1 : ls.toList.Perm (List.range U.length) := by
    have:=xV.mp hp
    rwa [yJ] at this
   have p2:=p1.map λi=>U.getD i zc4
   rwa [Ut] at p2
  ·rw [xy, xR];intro i j hi hj W
   have hi':i<ls.size:=by simpa using hi
   have hj':j<ls.size:=by simpa using hj
   have u:=hU i j W w5
   have g:∀i (hi:i<ls.size),Srt.lab ls i=ls.toList[i]'(by simpa using hi):=λi hi=>by
    refine Srt.kw ?_
    rw[<- zL,zn (by simpa using hi)]
   rw[g i hi',g j hj'] at u;exact u
section
variable {A:AC}{X:Cx}{a:Expr}{ta:TD}{pos:Pos}
def zk0(d:D)(k:List D->Prop):Prop:=∃fs,(d=.lst fs\/d=.fz fs)/\k fs
@[simp] theorem xu3{fs:List D}{k}:zk0 (.lst fs) k↔k fs:=⟨fun⟨_,e,h⟩=>by rcases e with e |e<;>cases e;exact h,λh=>⟨_,.inl rfl,h⟩⟩
def xH9(ta:TD)(B I:TOD):TD:=λrho n P=>ta rho n λd W=>B rho W λlo U=>I rho U λhi J=>zk0 d λfs=>P (.lst (Ka fs lo hi)) J
@[simp] theorem xE5{ta B I rho n P}:xH9 ta B I rho n P=ta rho n λd W=>B rho W λlo U=>I rho U λhi J=>zk0 d λfs=>P (.lst (Ka fs lo hi)) J:=rfl
def zZ8{le he:Option Expr}{U W:TOD}{p2:Pos}(hK:X.K=A.K)(ha:PD A X a ta)(hl:POD A X le U)(hh:POD A X he W):PD A X (.Subscript a (.Slice le he none p2) pos) (xH9 ta U W):=by
 exists (JP zG8 ha hl hh).imp λsg H Q h=>by
   obtain⟨rho,n,P,ds,vs,I,ht,hQ⟩:=h;refine⟨rho,n,_,ds,vs,I,ht,λv H1 n1 d J1 h1=>⟨rho,n1,_,_,_,J1,h1,λlo H2 n2 J2 h2=>⟨rho,n2,_,_,_,J2,h2,λhi H3 Y ⟨os,J3⟩ h3=>?_⟩⟩⟩;obtain⟨fs,hd,k⟩:=h3;obtain⟨J4,r⟩:=J3.pop;rw[hK]
   rcases hd with rfl |rfl
   ·obtain⟨l,xs,rfl,sq,B⟩:=r.lst_inv;exact⟨l,xs,rfl,sq.sq,λp J=>hQ _ _ Y _ ⟨os,J4.newLst (WW B lo hi) J⟩ k⟩
   ·obtain⟨l,xs,rfl,sq,B⟩:=r.fz_inv;exact⟨l,xs,rfl,sq,λp J=>hQ _ _ Y _ ⟨os,J4.newLst (WW B lo hi) J⟩ k⟩
def xg1(i:Nat):TD:=λrho n P=>∃es,rho[i]?=some (some (.own es))/\okE (.lst es) 20=true/\P (.bl (!Wg es [])) n
@[simp] theorem xm1{i rho n P}:xg1 i rho n P=∃es,rho[i]?=some (some (.own es))/\okE (.lst es) 20=true/\P (.bl (!Wg es [])) n:=rfl
end
mutual
def xB5:D->PyData
 |.int i=>.int i
 |.tup ds=>.tuple (zT2 ds)
 |_=>.none
def zT2:List D->List PyData
 |[]=>[]
 |d::ds=>xB5 d::zT2 ds
end
mutual
def okS:D->Nat->Bool
 |.int i,_=>decide (i.natAbs.log2<1920)
 |.tup ds,k=>match k with
  |0=>false
  |k+1=>xH0 ds k
 |_,_=>false
def xH0:List D->Nat->Bool
 |[],_=>true
 |d::ds,k=>okS d k&&xH0 ds k
end
mutual
def zN5:D->Nat
 |.tup ds=>zD6 ds+1
 |_=>1
def zD6:List D->Nat
 |[]=>0
 |d::ds=>zN5 d+zD6 ds
end
def zU3(d:D):Str:=(xB5 d).shown
section
variable {X:Cx}{pins:QqL}{σ:St}{H:Hp}{s:Shared}{G:QqE}{Z:QqA}
end
def xz1:List D->(D->Prop)->Prop:=λes k=>∃ds,es=[.tup ds]/\okS (.tup ds) 15=true/\zN5 (.tup ds)<=8000/\k (.str (zU3 (.tup ds)))
@[simp] theorem xu5{ds k}:xz1 [.tup ds] k↔(okS (.tup ds) 15=true/\zN5 (.tup ds)<=8000/\k (.str (zU3 (.tup ds)))):=⟨fun⟨_,e,h⟩=>by cases e;exact h,λh=>⟨_,rfl,h⟩⟩
end L2
namespace L2
section
variable {X:Cx}{A:AC}
def zV6:RD2:=λd1 d2 k=>∃es i,d1=.tup es/\d2=.int i/\es≠[]/\0<=i/\es.length*i.toNat<=sizeLine/\k (.tup (replicate i.toNat es).flatten)
@[simp] theorem xj2{es i k}:zV6 (.tup es) (.int i) k↔(es≠[]/\0<=i/\es.length*i.toNat<=sizeLine/\k (.tup (replicate i.toNat es).flatten)):=⟨fun⟨_,_,e,e',h⟩=>by cases e;cases e';exact h,λh=>⟨_,_,rfl,rfl,h⟩⟩
end
end L2
namespace L2.Srt
open PySem PyProof.Rows
section
variable {prog:Program}{w:World}{A:Around}{E:QqV}{s:Shared}
def Ja{l:Addr}{vs:QqW}{Q:List Value->Shared->Prop}(J:IsTup s.heap l vs.toArray)
    (h:Q vs { s with heap:=(s.heap.push (seqObj "list" #[] 0)).update s.heap.objs.size (Obj.mapSeq (·++vs.toArray)) }) (hsz:vs.length<=sizeLine) :
    wpAny (model prog w) A (collect (.ref l)) Q E s:=by
  obtain⟨o,I,U,n,hd⟩:=id J;unfold collect;refine zb (wpAny_runValue (codeAny_builtin entry_proto_collect' ?_))
  show wpAny _ _ (do again (.builtin "list.__iadd__" ⟨[<- newList [],.ref l],[]⟩)) _ _ s
  refine zb (wpAny_newList (ze ⟨Code.quiet_builtin _ x0,codeAny_builtin entry_list_iadd' ?_⟩))
  show wpAny _ _ (Builtin.List.listExtendWith (.ref s.heap.objs.size) (.ref l) (.ref s.heap.objs.size)) _ _ { s with heap:=s.heap.push (seqObj "list" #[] 0) };unfold Builtin.List.listExtendWith;have ho':(s.heap.push (seqObj "list" #[] 0)).get? l=some o:=zd _ I;refine zb (wpAny_typeOf (T := "tuple") ⟨o,ho',U⟩ ?_)
  have B:(Value.type "tuple" == Value.type "tuple")=true:=by rfl
  rw[if_pos (by rw[B];simp)]
  refine zb (listItems_at ho' hd ?_);refine zb (listItems_at (xs:=#[]) (n:=0) (zu _ rfl) rfl ?_)
  rw[if_neg (by simp)]
  refine zb (listUpdate_at (xs:=#[]) (n:=0) (zu _ rfl) rfl ?_ (wQ _) (by show(#[]++vs.toArray).size<=sizeLine+1;simp only[Array.size_append,zE,ym];lia))
  refine ze ?_
  show wpAny (model prog w) A (do
      let o <- load s.heap.objs.size
      match o.data with
      |.seq xs _=>pure xs.toList
      |_=>unsupported "internal:collect") Q E { s with heap:=(s.heap.push (seqObj "list" #[] 0)).update s.heap.objs.size (Obj.mapSeq (·++vs.toArray)) }
  refine zb (wpAny_load (get?_update_seq (zu _ rfl) _) ?_);show wpAny _ _ (pure ((#[]:Array Value)++vs.toArray).toList) Q E _
  rw[show((#[]:Array Value)++vs.toArray).toList=vs by simp]
  exact ze h
end
end L2.Srt
namespace L2
section
variable {X:Cx}{A:AC}{pos:Pos}{e:Expr}{t1:TAD}
def JH(X:Cx):List V->Hp->VK->Prop:=λxs H Q=>∃(p:Addr) (ns:List Int),xs=[.ref p]/\SqL X.K H p (ns.map V.int)/\ns.length<64/\∀B:List Int,B.Perm ns->B.Pairwise (·>=·)->∀l,H l=none->Q (.ref l) (upd H l (.lst (B.map V.int)))
def JZ:List D->(D->Prop)->Prop:=λes k=>∃ns:List Int,es=[.lst (ns.map D.int)]/\ns.length<64/\∀B:List Int,B.Perm ns->B.Pairwise (·>=·)->k (.lst (B.map D.int))
def zb5(hK:X.K=A.K):vI A (JH X) JZ:=by
 rintro os n rho sg H ds vs es ws k Q I B ⟨ns,rfl,hn,q⟩ Y;obtain⟨v,rfl,r⟩:=qb B;obtain⟨a,xs,rfl,sq,J⟩:=r.lst_inv;have e:=kq J;subst e
 exact⟨a,ns,rfl,by rw[hK];exact sq.sq,hn,λU h1 h2 l W=>Y _ _ _ ⟨os,I.newLst kC W⟩ (q U h1 h2)⟩
def QQ{t:TA}{p kp cp:Pos}{j:Nat}(hg:Gl X "sorted")(hm:X.mg "sorted" = none)(ha:PA X [e] t)(he:starEach [e] X.env=(false,eval e X.env)::starEach [] X.env:=by rfl)(W:(backTo pos (starEach [e] X.env)).any (·.1)=false:=by rfl) :
  PE X (.Call (.Name "sorted" p) [e] [⟨some "reverse",.Constant (.bool true) j cp,kp⟩] pos) (tCB (JH X) t):=by
 intro B s σ H Q I h
 refine wN (Xs I hg hm kZ ?_ w6 w6)
 refine callWith_kw (env:=X.env) (e:=e) (rest:=[]) (thn (ha pos B s σ H _ I h) λus J ⟨vs,H1,Y,r1,q1⟩=>?_) (by rw[he];rfl) W rfl rfl
 refine kws_cons (Constant_bool (kws_nil ?_));obtain⟨a,ns,rfl,hq,hn,q⟩:=q1
 cases r1 with
 |cons r rr=>
  cases rr;cases r;obtain⟨its,rv,pl,_⟩:=Y.list hq;have hl:=pl.isList
  have hsz:its.length=ns.length:=by have:=rv.length;simpa using this.symm
  refine sorted_ints_rev (b:=true) hl (jE rv) w5 λout U hi hp hs=>?_
  obtain⟨e,he⟩:=sortedAll_at J.heap its out;have aa:U.length=ns.length:=hp.length_eq;have hf:H1 (J.heap.objs.size+1)=none:=Y.hok.fresh (xv _);refine⟨.ref (J.heap.objs.size+1),_,Y.laid (t':=J.toks) (o:=.lst (U.map V.int)) (λb u e=>sortedAll_old e) (xv _) ?_,rfl,q U hp hs _ hf⟩
  exact⟨by rw[zh];exact zF w5 (wZ (k:=64) w5),out.toList,e,kA hi,he⟩
def QR{p kp U:Pos}{j:Nat}(J:X.K=A.K)(hm:X.mg "sorted" = none)(ha:PAD A X [e] t1)(I:Gl X "sorted" := by rfl)(he:starEach [e] X.env=(false,eval e X.env)::starEach [] X.env:=by rfl)(B:(backTo pos (starEach [e] X.env)).any (·.1)=false:=by rfl) :
  PD A X (.Call (.Name "sorted" p) [e] [⟨some "reverse",.Constant (.bool true) j U,kp⟩] pos) (zo7 JZ t1):=by
 exists 
   (QQ I hm ha he B).imp λ_ _ _=>ze4 (zb5 J)
def zB7:TSD:=λ_ _ _=>False
def VZ{st:Stmt}:PSD A X st zB7:=by
 exists λB s σ H E I h=>by
   obtain⟨rho,n,F,ds,vs,J,U,ok⟩:=h;exact False.elim U
@[simp] theorem xu1{F:EndsD}{rho:Rho}{n:Nat}:zB7 F rho n↔False:=Iff.rfl
end
mutual
def Ws:D->Bool
 |.st=>false
 |.own _=>false
 |.tup ds=>ZT ds
 |.lst ds=>ZT ds
 |.fz ds=>ZT ds
 |.dct _ ds=>ZT ds
 |_=>true
def ZT:List D->Bool
 |[]=>true
 |d::ds=>Ws d&&ZT ds
end
theorem Ul:∀{ds:List D},ZT ds=true↔∀d∈ds,Ws d=true
 |[]=>by simp[ZT]
 |d::ds=>by simp[ZT,Ul (ds:=ds)]
def JW{d:D}(h:Ws d=true):vd d=true:=by
 cases d<;>first |rfl |(simp[Ws] at h;done)
section
variable {K:W.Frag}{G G':QqE}{Z:QqA}{H:Hp}
mutual
theorem Rep.reG:∀(d:D) (v:V),Ws d=true->Rep K G Z H d v->Rep K G' Z H d v
 |.st,v,hn,h=>by simp[Ws] at hn
 |.own _,v,hn,h=>by simp[Ws] at hn
 |.tup ds,v,hn,h=>by
  unfold Rep at h ⊢;obtain⟨a,xs,e,q,r⟩:=h
  exact⟨a,xs,e,q,Reps.reG ds xs (by simpa [Ws] using hn) r⟩
 |.lst ds,v,hn,h=>by
  unfold Rep at h ⊢;obtain⟨a,xs,e,q,r⟩:=h
  exact⟨a,xs,e,q,Reps.reG ds xs (by simpa [Ws] using hn) r⟩
 |.fz ds,v,hn,h=>by
  unfold Rep at h ⊢;obtain⟨a,xs,e,q,r⟩:=h
  exact⟨a,xs,e,q,Reps.reG ds xs (by simpa [Ws] using hn) r⟩
 |.non,v,hn,h=>by unfold Rep at h ⊢;exact h
 |.bl b,v,hn,h=>by unfold Rep at h ⊢;exact h
 |.int b,v,hn,h=>by unfold Rep at h ⊢;exact h
 |.str b,v,hn,h=>by unfold Rep at h ⊢;exact h
 |.ty b,v,hn,h=>by unfold Rep at h ⊢;exact h
 |.dic,v,hn,h=>by unfold Rep at h ⊢;exact h
 |.dct ks ds,v,hn,h=>by
  unfold Rep at h ⊢;obtain⟨a,xs,e,q,r⟩:=h
  exact⟨a,xs,e,q,Reps.reG ds xs (by simpa [Ws] using hn) r⟩
 |.rf a,v,hn,h=>by unfold Rep at h ⊢;exact h
theorem Reps.reG:∀(ds:List D) (vs:List V),ZT ds=true->Reps K G Z H ds vs->Reps K G' Z H ds vs
 |[],vs,hn,h=>by unfold Reps at h ⊢;exact h
 |d::ds,vs,hn,h=>by
  unfold Reps at h ⊢;obtain⟨v,r,e,q,t⟩:=h
  have hn':Ws d=true/\ZT ds=true:=by simpa [ZT] using hn
  exact⟨v,r,e,Rep.reG d v hn'.1 q,Reps.reG ds r hn'.2 t⟩
end
end
def We:Option D->Option D
 |some d=>if Ws d=true then some d else none
 |none=>none
def zl3{d:D}(h:Ws d=true):We (some d)=some d:=by show(if Ws d=true then some d else none)=_;rw[if_pos h]
def vP(rho:Rho):Rho:=rho.map We
def Wv{rho:Rho}{j:Nat}{d:D}(h:(vP rho)[j]?=some (some d)):rho[j]?=some (some d)/\Ws d=true:=by
 unfold vP at h;rw[zI] at h
 cases q:rho[j]? with
 |none=>rw[q] at h;cases h
 | some o =>
  rw[q] at h
  cases o with
  |none=>cases h
  |some c=>
   have h':(if Ws c=true then some c else none)=some d:=zN h
   by_cases B:Ws c=true
   ·rw[if_pos B] at h';cases h';exact⟨rfl,B⟩
   ·rw[if_neg B] at h';cases h'
def zU8(i:Nat)(t:TF)(J:TAD)(I:TSD):TSD:=λF rho n=>∃ns:List Int,i<rho.length/\n<64/\J rho n λes U=>∃j:Int,es=[yt ns,.int j]/\U=n/\t es n λd W=>∃B:List Int,d=.lst (B.map D.int)/\B.length=n/\(∀x∈B,0<=x)/\(∀x,B[1]?=some x->x<2147483647) /\
 I { nx:=λrho' _=>F.nx (vP rho') n,rt:=λd _=>qh d=true/\F.rt d n,bk:=λrho' _=>F.bk (vP rho') n,ct:=λrho' _=>F.ct (vP rho') n } ((vP rho).set i (some .st)) n
def QZ{i:Nat}{t:TF}{J:TAD}{Y:TSD}{F:EndsD}{rho:Rho}{n:Nat}(ns:List Int)(hi:i<rho.length)(j:Int)(ht:J rho n λes B=>es=[yt ns,.int j]/\B=n)
  (U:∀(P P':List D->Nat->Prop),(∀es B,P es B->P' es B)->J rho n P->J rho n P')
  (h : t [yt ns, .int j] n λd n2 => ∃ I : List Int, d = .lst (I.map D.int) /\ I.length = n /\ (∀ x ∈ I, 0 <= x) /\ (∀ x, I[1]? = some x -> x < 2147483647) /\
   Y { nx:=λrho' _=>F.nx (vP rho') n,rt:=λd _=>qh d=true/\F.rt d n,bk:=λrho' _=>F.bk (vP rho') n,ct:=λrho' _=>F.ct (vP rho') n } ((vP rho).set i (some .st)) n) (W:n<64:=by decide):zU8 i t J Y F rho n:=
 ⟨ns,hi,W,U _ _ (λes B ⟨e1,e2⟩=>⟨j,e1,e2,by rw[e1];exact h⟩) ht⟩
section
variable {A:AC}{X:Cx}{e:Expr}{es:List Expr}{t1:TAD}{t2:TSD}{pos p:Pos}
def zg3{x g:Str}{i:Nat}{t:TF}{kk:Nat}{pos' aa:Pos}{rest:List Stmt}(hG:A.G=none)(hN:X.N.Nodup)(hi:X.N[i]?=some x)(hx:Loc X.env.scope x)(F:Fn X.prog X.w X.K X.mg X.base g kk 2 t)(hr:Room kk X.A)(hK:X.K=A.K)
  (ha:PAD A X (e::es) t1) (h2:∀(c:Addr) (Z:QqA) (H0:Hp),zc6 ⟨A.K,some c,Z,H0⟩ X rest t2) (hg:Gl X g:=by rfl) (ao:(g == ("__debug__" : Str))=false:=by decide) (he:starEach (e::es) X.env=(false,eval e X.env)::starEach es X.env:=by rfl) (aj:(backTo pos (starEach es X.env)).any (·.1)=false:=by rfl)
  (hs:swapsWith (.Call (.Name g p) (e::es) [] pos) (some (.Name x pos')) aa.line X.env=pure false:=by rfl) (hf:X.fn x=true\/X.env.scope.names.lookup x=some .local:=by first |exact .inl rfl |exact .inr rfl |assumption) :
  zc6 A X (.Assign [.Name x pos'] (.Call (.Name g p) (e::es) [] pos) aa::rest) (zU8 i t t1 t2):=by
 exists (by
   obtain⟨f,fd,ps,f1,f2,f3,f4⟩:=F.ex;have c1:=zg5 (pos:=aa) hN hi hx (zh9 (p:=p) f1 hr hg f2 f3 f4 .nil QS ha ao he aj) hs hf
   have c2:PSs X rest (λE' sg' H'=>∃c Z H0,sOf ⟨A.K,some c,Z,H0⟩ t2 E' sg' H'):=λah s' sg' H' D I q=>by
    obtain⟨c,Z,H0,q⟩:=q;exact h2 c Z H0 ah s' sg' H' D I q
   refine(JK c1 c2).imp λE sg H h=>?_;obtain⟨rho,n,F,ds,vs,I,⟨ns,hi',ad,ht⟩,ok⟩:=h;refine⟨rho,n,_,ds,vs,I,ht,λws H' n' es' ⟨os',J⟩ hl k=>?_⟩;obtain⟨j,rfl,rfl,k⟩:=k;obtain⟨J1,rs⟩:=J.split hl;obtain⟨v1,v2,rfl,r1,r2⟩:=Ks rs;have r1':Rep A.K none (λa=>H' a≠none/\¬ ∃o u,H' a=some (.frz o u)) H' (yt ns) v1:=QM r1 λa o u _ e=>⟨λz=>z.2 ⟨o,u,e⟩,e⟩
   have r2':Rep A.K none (λa=>H' a≠none/\¬ ∃o u,H' a=some (.frz o u)) H' (.int j) v2:=by rw[r2.int_inv];exact Rep.ofS (d:=.int j) rfl
   rw[wb,hK]
   refine⟨none,λa=>H' a≠none/\¬ ∃o u,H' a=some (.frz o u),n',_,_,rfl,.cons r1' (.cons r2' .nil),⟨λb e=>(by cases e),λa c e=>(by rw[qz ad] at e;cases e)⟩,λb e=>(by cases e),λb z=>z.1,k,λv H2 n2 d fr st gw r q=>?_⟩
   have fr:∀a o,none≠some a->H' a=some o->H2 a=some o:=λa o g=>fr a o g (qz ad);obtain⟨zs,rfl,q1,q2,q3,q⟩:=q;obtain⟨c,xs,rfl,sq,rr⟩:=r.lst_inv;rw[qH rr] at sq
   have hc:H' c=none:=by
    cases z:H' c with
    |none=>rfl
    |some o=>
     have z2:=fr c o (by simp) z
     rw[sq.2] at z2;cases z2
     exact absurd ⟨by rw[z];simp,fun⟨o,u,z3⟩=>by rw[z] at z3;cases z3⟩ λz=>sq.1 (.inl z)
   have ne:∀{a:Addr}{o:HO},H' a=some o->a≠c:=λ{a o} e h=>by rw[h,hc] at e;cases e
   have back:∀{m:Nat}{os:List (Nat × Addr)}{rho' B:Rho}{sg':St}{W:Hp}{ae:List D}{Y:List V},AmO ⟨A.K,some c,λb=>Zof A os' b\/b=c,H2⟩ os m rho' sg' W ae Y->B.length=sg'.length->(∀j d,B[j]?=some (some d)->∃v,sg'[j]?=some (some v)/\Rep A.K A.G (Zof A []) W d v)->AmO A [] n' B sg' W ds vs:=λ{m os rho' B sg' W ae Y} U ak ai=>by
    have keep:∀a o,H' a=some o->W a=some o:=λa o e=>U.fr a o (λz=>ne e (zN z).symm) (fr a o (by simp) e)
    refine⟨ak,λj d e=>?_,?_,.nil,λp hp=>(by simp at hp),⟨λb e=>(by rw[hG] at e;cases e),λa c e=>(by rw[qz ad] at e;cases e)⟩,J1.gz,λa o z e=>keep a o (J1.fr a o z e),J1.z0⟩
    ·obtain⟨v,e1,e2⟩:=ai j d e;exact⟨v,e1,SlotR.of e2⟩
    ·refine Reps.mono (λa _ z => ?_) (λa o _ e => keep a o e) _ _ J1.pend
     rcases z with z |⟨p,hp,_⟩
     ·exact .inl z
     ·simp at hp
   have af:∀{m:Nat}{os:List (Nat × Addr)}{rho':Rho}{sg':St}{W:Hp}{ae:List D}{Y:List V},AmO ⟨A.K,some c,λb=>Zof A os' b\/b=c,H2⟩ os m rho' sg' W ae Y->AmO A [] n' (vP rho') sg' W ds vs:=λ{m os rho' sg' W ae Y} U=>by
    refine back U (by unfold vP;rw[zh];exact U.len) λj d e=>?_
    obtain⟨e,hn⟩:=Wv e;obtain⟨v,e1,e2⟩:=U.slot j d e;have e3:=SlotR.rep (JW hn) e2;refine⟨v,e1,Rep.reG d v hn (Rep.mono (λa _ z=>?_) (λa o _ e=>e) d v e3)⟩
    rcases z with z |⟨p,hp,_⟩
    ·exact .inl (.inl (.inl z))
    ·simp at hp
   have am:rho.length=sg.length:=J1.len;refine⟨c,λb=>Zof A os' b\/b=c,H2,(vP rho).set i (some .st),n',_,[],[],⟨[],?_⟩,q,?_⟩
   ·refine ⟨by simp [vP, am], λj d e => ?_, .nil, .nil, λp hp => by simp at hp, ⟨λb e => ?_, λa c e => (by rw [qz ad] at e; cases e)⟩, λb e => ?_, λb o _ e => e, λb e => .inl ?_⟩
    ·by_cases hj : j = i
     ·subst hj
      rw[xq (by simp[vP];lia)] at e
      cases e
      exact⟨.ref c,xq w5,SlotR.of (by unfold Rep;exact⟨c,rfl,rfl⟩)⟩
     ·rw [xJ (Ne.symm hj)] at e;obtain⟨e,hn⟩:=Wv e;obtain⟨v,e1,e2⟩:=J1.slot j d e;have e3:=SlotR.rep (JW hn) e2
      refine⟨v,by rw[xJ (Ne.symm hj)];exact e1,SlotR.of (Rep.reG d v hn (Rep.mono (λa ha z=>?_) (λa o _ e=>fr a _ (by simp) e) d v e3))⟩
      rcases z with (z |z) |⟨p,hp,_⟩
      ·exact z
      ·exact absurd (z ▸ hc) ha
      ·simp at hp
    ·cases e
     exact⟨zs,0,0,sq.2,by rw[zl5 ad];exact q1,q2,q3⟩
    ·exact .inr (zN e).symm
    ·rcases e with e | e
     ·have := J1.zH b e
      cases z:H' b with
      |none=>exact absurd z this
      |some o=>
       show H2 b≠none
       rw[fr b o (by simp) z];simp
     ·show H2 b≠none;rw[e,sq.2];simp
   ·refine ⟨λac n3 ab W ⟨ag, U⟩ q => ?_, λd n3 v ac ab W ⟨ag, U⟩ q => ?_, λac n3 ab W ⟨ag, U⟩ q => ?_, λac n3 ab W ⟨ag, U⟩ q => ?_⟩
    ·skip
     exact ok.nx _ _ _ _ ⟨[],af U⟩ q
    ·obtain ⟨hd, q⟩ := q
     have I4:AmO A [] n' (replicate ab.length none) ab W ds vs:=back U (by simp) λj d e=>by
      rw[xO] at e
      split at e<;>cases e
     refine ok.rt _ _ _ _ _ _ ⟨[],I4.push ?_⟩ q;rw[U.pop.2.toS hd];exact Rep.ofS hd
    ·skip
     exact ok.bk _ _ _ _ ⟨[],af U⟩ q
    ·skip
     exact ok.ct _ _ _ _ ⟨[],af U⟩ q)
end
def zz2(ks:List Key)(k:Key):Bool:=ks.any λj=>decide (j=k)
def WX(ks:List Key)(k:Key):List Key:=if zz2 ks k=true then ks else ks++[k]
def zg2{α:Type}(ks:List Key)(xs:List α)(k:Key)(x:α):List α:=if zz2 ks k=true then List.zipWith (λj y=>if j=k then x else y) ks xs else xs++[x]
theorem zk6:∀(ks:List Key) (xs:List V) (k:Key),ks.length=xs.length->((Xv ks xs).any λkv=>decide (kv.1=k))=zz2 ks k
 |[],xs,k,_=>rfl
 |j::ks,[],k,h=>by simp at h
 |j::ks,x::xs,k,h=>by
  have B:=zk6 ks xs k (by simpa using h)
  show(decide (j=k)||(Xv ks xs).any _)=(decide (j=k)||zz2 ks k);rw[B]
theorem zk5:∀(ks:List Key) (xs:List V) (k:Key) (v:V),(Xv ks xs).map (λkv=>if kv.1=k then(kv.1,v) else kv)=Xv ks (List.zipWith (λj y=>if j=k then v else y) ks xs)
 |[],xs,k,v=>by simp[Xv]
 |j::ks,[],k,v=>by simp[Xv]
 |j::ks,x::xs,k,v=>by
  have B:=zk5 ks xs k v
  show(if j=k then(j,v) else(j,x))::(Xv ks xs).map _=(j,if j=k then v else x)::Xv ks _
  rw[B]
  by_cases e:j=k<;>simp[e]
def zy6{ks:List Key}{xs:List V}(k:Key)(v:V)(h:ks.length=xs.length):Xv ks xs++[(k,v)]=Xv (ks++[k]) (xs++[v]):=by
 unfold Xv;rw[List.zipWith_append h];rfl
def zO7{ks:List Key}{xs:List V}(k:Key)(v:V)(h:ks.length=xs.length):XQ (Xv ks xs) k v=Xv (WX ks k) (zg2 ks xs k v):=by
 unfold XQ WX zg2;rw[zk6 ks xs k h]
 by_cases e:zz2 ks k=true
 ·rw[if_pos e,if_pos e,if_pos e,zk5]
 ·rw[if_neg e,if_neg e,if_neg e,zy6 k v h]
def put_len{α:Type}{ks:List Key}{xs:List α}(k:Key)(x:α)(h:ks.length=xs.length):(WX ks k).length=(zg2 ks xs k x).length:=by
 unfold WX zg2
 split
 ·rw[List.length_zipWith,<- h];lia
 ·simp[h]
def zX6{α:Type}{ks:List Key}{xs:List α}(k:Key)(x:α)(h:ks.length=xs.length):(WX ks k).length<=ks.length+1:=by
 unfold WX
 split<;>simp
section
variable {K:W.Frag}{G:QqE}{Z:QqA}{H:Hp}
theorem Reps.zipPut{d:D}{v:V}(r:Rep K G Z H d v)(k:Key):∀{ks:List Key}{es:List D}{xs:List V},Reps K G Z H es xs->Reps K G Z H (List.zipWith (λj y=>if j=k then d else y) ks es) (List.zipWith (λj y=>if j=k then v else y) ks xs)
 |[],es,xs,h=>.nil
 |j::ks,[],xs,h=>by rw[h.nil_inv];exact .nil
 |j::ks,e::es,xs,h=>by
  obtain⟨x,I,rfl,q,t⟩:=h.split;have B:=Reps.zipPut r k (ks:=ks) t
  show Reps K G Z H ((if j=k then d else e)::_) ((if j=k then v else x)::_)
  by_cases z:j=k
  ·rw[if_pos z,if_pos z];exact .cons r B
  ·rw[if_neg z,if_neg z];exact .cons q B
def Reps.put{d:D}{v:V}{ks:List Key}{es:List D}{xs:List V}(h:Reps K G Z H es xs)(r:Rep K G Z H d v)(k:Key):Reps K G Z H (zg2 ks es k d) (zg2 ks xs k v):=by
 unfold zg2
 split
 ·exact Reps.zipPut r k h
 ·exact h.append (.cons r .nil)
end
def KN:D->Option Key
 |.int i=>some (Sum.inl i)
 |.str x=>some (Sum.inr x)
 |_=>none
@[simp] theorem xc7{i:Int}:KN (.int i)=some (Sum.inl i):=rfl
@[simp] theorem xc6{i:Str}:KN (.str i)=some (Sum.inr i):=rfl
def Uy{K:W.Frag}{G:QqE}{Z:QqA}{H:Hp}{d:D}{v:V}{k:Key}(h:Rep K G Z H d v)(e:KN d=some k):v=kV k:=by
 cases d with
 |int i=>cases e;exact h.int_inv
 |str i=>cases e;exact h.toS rfl
 |_=>simp[KN] at e
section
variable {A:AC}{X:Cx}{tg iter kx vx:Expr}{ifs:List Expr}{scope:Scope}{own M:List Str}{pos:Pos}{it:TID}{g:TGD}{tt:TBD}{tk tv:TD}
def zo1(own:Nat)(g:TGD)(tt:TBD)(tk tv:TD)(rho:Rho)(P:D->Nat->Prop)(items:List D)(W:Nat):Prop:=items.length<=sizeLine/\∃J:Nat->List Key->List D->Nat->Prop,J 0 [] [] W /\
 (∀i d ks es n,items[i]?=some d->J i ks es n->g d (replicate own none++rho) λrho'=>rho'.drop own=rho/\tt rho' n λc B=>if c=true then tk rho' B λdk U=>tv rho' U λY I=>∃k,KN dk=some k/\J (i+1) (WX ks k) (zg2 ks es k Y) I else J (i+1) ks es B) /\
 ∀ks es n,J items.length ks es n->P (.dct ks es) n
def zo5(it:TID)(own:Nat)(g:TGD)(tt:TBD)(tk tv:TD):TD:=λrho n P=>it rho n (zo1 own g tt tk tv rho P)
@[simp] theorem xm7{it own g tt tk tv rho n P}:zo5 it own g tt tk tv rho n P=it rho n (zo1 own g tt tk tv rho P):=rfl
def AmO.newDct{os n rho sg H ds vs}{ks:List Key}{es:List D}{xs:List V}{p:Addr}(I:AmO A os n rho sg H ds vs)(r:Reps A.K A.G (Zof A os) H es xs)(J:H p=none):AmO A os n rho sg (upd H p (.dK (Xv ks xs))) (.dct ks es::ds) (.ref p::vs):=by
 have B:∀a u,H a=some u->upd H p (.dK (Xv ks xs)) a=some u:=λa u e=>by
  rw[wB λz=>by rw[z,J] at e;cases e];exact e
 refine⟨I.len,λi d e=>?_,?_,I.nd,λq U=>?_,I.st.mono (λ_ _ z=>z) (λa u _ e=>B a u e) (λa u _ e=>B a u e) (λ_ _ z=>z) (λa u _ e=>B a u e),I.gz,λa u h e=>B a u (I.fr a u h e),I.z0⟩
 ·obtain⟨v,e1,e2⟩:=I.slot i d e;exact⟨v,e1,SlotR.mono (λ_ _ z=>z) (λa u _ e=>B a u e) (λa xs m q=>⟨m,B a _ q⟩) _ _ e2⟩
 ·refine .cons ?_ (Reps.mono (λ_ _ z=>z) (λa u _ e=>B a u e) _ _ I.pend);unfold Rep;refine⟨p,xs,rfl,⟨λz=>?_,yA⟩,Reps.mono (λ_ _ z=>z) (λa u _ e=>B a u e) _ _ r⟩;exact absurd J (I.zH p z)
 ·obtain ⟨f1, Y, W⟩ := I.fresh q U;refine⟨f1,Y,?_⟩
  cases e:H q.2 with
  |none=>exact absurd e W
  |some u=>rw[B _ _ e];simp
def ze1{sg:St}{H:Hp}{Q:VK}{m:Nat}(h:tOf A (zo5 it m g tt tk tv) sg H Q):zB2 (iOf A it) m (gOf A m g) (Kc A tt) (tOf A tk) (tOf A tv) sg H Q:=by
 obtain⟨rho,n,P,ds,vs,I,ht,hQ⟩:=h;refine⟨rho,n,_,ds,vs,I,ht,λJ H' n' items es ws I1 hl hJ k=>?_⟩;obtain⟨hsz,W,w0,turn,fin⟩:=k
 refine⟨λi mm ac H=>mm=items.length-i/\i<=items.length/\∃ks B xs n,ac=Xv ks xs/\ks.length=xs.length/\ks.length<=i/\xs.length=B.length/\Am A n rho sg H (es++(B++ds)) (ws++(xs++vs))/\W i ks B n,
  ⟨items.length,rfl,wQ _,[],[],[],n',rfl,rfl,zk _,rfl,I1,w0⟩,?_⟩
 rintro i mm ac H3 ⟨rfl,hi,ks,B,xs,n3,rfl,Y,ar,aa,⟨os,I3⟩,w3⟩
 have aq:(Xv ks xs).length=ks.length:=by unfold Xv;rw[List.length_zipWith];lia
 obtain⟨j1,j2⟩:=hJ n3 rho sg H3 (B++ds) (xs++vs) i ⟨os,I3⟩
 by_cases U:i<items.length
 ·refine .inr ⟨(j1 items[i] (by simp [U])).1, by lia, λx H4 y => ?_⟩
  obtain⟨ao,I4⟩:=(j1 items[i] (by simp[U])).2 x H4 y
  refine⟨replicate m none++rho,n3,_,items[i],es++(B++ds),ws++(xs++vs),⟨_,I4.front m⟩,turn i items[i] ks B n3 (by simp[U]) w3,λrho' sg' ⟨af,I5⟩ e5 k5=>?_⟩
  obtain⟨k5,k6⟩:=k5
  have e6:sg'.drop m=sg:=by rw[e5,yn (by simp)]
  refine⟨e6,rho',n3,_,es++(B++ds),ws++(xs++vs),⟨af,I5⟩,k6,λc H6 n6 ⟨ae,I6⟩ k7=>?_⟩
  cases c with
  |false=>
   obtain⟨ad,I7⟩:=I6.back k5 e6
   exact⟨items.length-(i+1),w5,rfl,U,ks,B,xs,n6,rfl,Y,w5,aa,⟨ad,I7⟩,k7⟩
  |true=>
   rw[if_pos rfl] at k7 ⊢;refine⟨rho',n6,_,es++(B++ds),ws++(xs++vs),⟨ae,I6⟩,k7,λvk H8 n8 dk I8 k8=>?_⟩;refine⟨rho',n8,_,dk::(es++(B++ds)),vk::(ws++(xs++vs)),I8,k8,λv H9 n9 d ⟨am,I9⟩ k9=>?_⟩;obtain⟨kk,ek,w9⟩:=k9;obtain⟨ab,ak⟩:=I9.back k5 e6;obtain⟨aj,rv⟩:=ak.pop;obtain⟨ai,rk⟩:=aj.pop;obtain⟨ah,r1⟩:=ai.split hl;obtain⟨ag,r2⟩:=ah.split aa
   refine⟨kk,items.length-(i+1),Uy rk ek,w5,rfl,U,WX ks kk,zg2 ks B kk d,zg2 ks xs kk v,n9,zO7 kk v Y,put_len kk v Y,?_,?_,⟨ab,(ag.join (r2.put rv kk)).join r1⟩,w9⟩
   ·have:=zX6 kk v Y;lia
   ·rw[<- put_len kk v Y,<- put_len kk d w5]
 ·have e : i = items.length := by lia
  subst e
  refine .inl ⟨j2 (zk _),w5,λD hD=>?_⟩
  obtain⟨I4,r1⟩:=I3.split hl;obtain⟨I5,r2⟩:=I4.split aa;exact hQ _ _ n3 _ ⟨os,I5.newDct r2 hD⟩ (fin ks B n3 w3)
def zw4(ok:CompOk X scope M)(hc:X.calm=true)(hi:PID A X tg iter it)(Y:∀C B J I,PGD A (wn X scope own M C B J I) own.length tg g)(U:∀C B J I,PTs (wn X scope own M C B J I) ifs (Kc A tt))
  (hk:∀C B J I,PD A (wn X scope own M C B J I) kx tk) (he:∀C B J I,PD A (wn X scope own M C B J I) vx tv) (W:∀x,foldedSetIterable iter X.env x=pure x:=by intro _;rfl):PD A X (.DictComp kx vx [⟨tg,iter,ifs,0⟩] scope pos) (zo5 it own.length g tt tk tv):=by exists (zv9 ok hc hi Y U hk he W).imp λ_ _ _=>ze1
end
def atK:List Key->List D->Key->Option D
 |k::ks,d::ds,x=>if k=x then some d else atK ks ds x
 |_,_,_=>none
def zq8{K:W.Frag}{G:QqE}{Z:QqA}{H:Hp}:∀{ks:List Key}{ds:List D}{xs:List V}{x:Key},Reps K G Z H ds xs ->
  (∀d,atK ks ds x=some d->∃v,Yu (Xv ks xs) x=some v/\Rep K G Z H d v)/\(atK ks ds x=none->Yu (Xv ks xs) x=none)
 |[],ds,xs,x,r=>⟨λd h=>by simp[atK] at h,λ_=>rfl⟩
 |k::ks,[],xs,x,r=>by rw[r.nil_inv];exact⟨λd h=>by simp[atK] at h,λ_=>rfl⟩
 | k :: ks, e :: ds, xs, x, r => by
  obtain⟨v,B,rfl,q,t⟩:=r.split;obtain⟨i1,i2⟩:=zq8 (ks:=ks) (x:=x) t;unfold atK
  by_cases c:k=x
  ·rw [if_pos c]
   exact⟨λd h=>by cases h;exact⟨v,jA (p:=(k,v)) c,q⟩,λh=>by cases h⟩
  ·rw[if_neg c];have I:Yu (Xv (k::ks) (v::B)) x=Yu (Xv ks B) x:=jB (p:=(k,v)) c;rw[I];exact⟨i1,i2⟩
section
variable {A:AC}{X:Cx}{a b:Expr}{ta tb:TD}{pos:Pos}
def rDx:R2:=λx y H Q=>∃a v,x=.ref a/\DGet H a y (some v)/\Q v H
def xp8:RD2:=λd1 d2 k=>∃ks ds x d,d1=.dct ks ds/\KN d2=some x/\atK ks ds x=some d/\k d
@[simp] theorem zf8{ks ds x k}:xp8 (.dct ks ds) (.int x) k↔∃d,atK ks ds (Sum.inl x)=some d/\k d:=⟨fun⟨_,_,_,d,e,e',h⟩=>by cases e;cases e';exact⟨d,h⟩,fun⟨d,h⟩=>⟨_,_,_,d,rfl,rfl,h⟩⟩
def xp4:qA A rDx xp8:=by
 rintro os n rho sg H ds vs d1 d2 v1 v2 k Q I ⟨ks,es,x,d,rfl,hk,hx,q⟩ W;obtain⟨I1,U⟩:=I.pop;obtain⟨I2,B⟩:=I1.pop;have e2:=Uy U hk;subst e2;unfold Rep at B;obtain⟨a,xs,rfl,⟨hz,Y⟩,J⟩:=B;obtain⟨v,hv,rv⟩:=(zq8 J).1 d hx
 exact⟨a,v,rfl,by rw[<- hv];exact DGet.k Y,W _ _ _ ⟨os,I2.push rv⟩ q⟩
def zD0(B:X.A.units+1<cLine)(ha:PD A X a ta)(J:PD A X b tb)(I:xh9 b):PD A X (.Subscript a b pos) (dOp xp8 ta tb):=by exists (Kw B ha J I).imp λ_ _ _=>VD (r:=rDx) xp4
def xq2(B:Bool):R2:=λy x H Q=>∃a o,x=.ref a/\DGet H a y o/\Q (.bl (o.isSome != B)) H
def zD3(W:X.A.units+1<cLine):OpR X (compareOp .In) (xq2 false):=by
 intro B s σ H x y v u Q I U J h;obtain⟨a,o,rfl,g,q⟩:=h;cases(show u=Value.ref a from J)
 exact xP6 W I g U λs' I'=>⟨.bl (o.isSome != false),H,I',by simp;rfl,q⟩
def zi4(W:X.A.units+1<cLine):OpR X (compareOp .NotIn) (xq2 true):=by
 intro B s σ H x y v u Q I U J h;obtain⟨a,o,rfl,g,q⟩:=h;cases(show u=Value.ref a from J)
 exact zQ2 W I g U λs' I'=>⟨.bl (o.isSome != true),H,I',by simp;rfl,q⟩
def xp9(B:Bool):RD2:=λd1 d2 k=>∃ks ds x,d2=.dct ks ds/\KN d1=some x/\k (.bl ((atK ks ds x).isSome != B))
@[simp] theorem xj8{B ks ds x k}:xp9 B (.int x) (.dct ks ds) k↔k (.bl ((atK ks ds (Sum.inl x)).isSome != B)):=⟨fun⟨_,_,_,e,e',h⟩=>by cases e;cases e';exact h,λh=>⟨_,_,_,rfl,rfl,h⟩⟩
def xK4(i:Nat)(g:TGD):TSD:=λF rho n=>∃es d,rho[i]?=some (some (.own (es++[d])))/\g d (rho.set i (some (.own es))) λrho'=>F.nx rho' n
@[simp] theorem xD2{i g F rho n}:xK4 i g F rho n=∃es d,rho[i]?=some (some (.own (es++[d])))/\g d (rho.set i (some (.own es))) λrho'=>F.nx rho' n:=rfl
def xp0:TSD:=λF rho n=>F.ct rho n
@[simp] theorem xs3{F rho n}:xp0 F rho n=F.ct rho n:=rfl
def zU6(i:Nat)(I:TBD)(t u:TAD):TSD:=λF rho n=>i<rho.length/\I rho n λc n0=>if c=true then t rho n0 (λes B=>es.length<=sizeLine/\F.nx (rho.set i (some (.own es))) B) else u rho n0 λes B=>es.length<=sizeLine/\F.nx (rho.set i (some (.own es))) B
@[simp] theorem xj0{i I t u F rho n}:zU6 i I t u F rho n=(i<rho.length/\I rho n λc n0=>if c=true then t rho n0 (λes B=>es.length<=sizeLine/\F.nx (rho.set i (some (.own es))) B) else u rho n0 λes B=>es.length<=sizeLine/\F.nx (rho.set i (some (.own es))) B):=rfl
end
section
variable {X:Cx}{A:AC}
def xe1:D->Bool
 |.tup _=>true
 |.lst _=>true
 |_=>false
def xz5:List D->(D->Prop)->Prop:=λes k=>∃d,es=[d,.tup [.ty "tuple",.ty "list"]]/\qY d=true/\k (.bl (xe1 d))
@[simp] theorem xv3{d k}:xz5 [d,.tup [.ty "tuple",.ty "list"]] k↔(qY d=true/\k (.bl (xe1 d))):=⟨fun⟨_,e,h⟩=>by cases e;exact h,λh=>⟨_,rfl,h⟩⟩
end
section
variable {A:AC}{X:Cx}{a b c:Expr}{ta tb tc:TD}{pos:Pos}
end
def zD7(rho:Rho):Bool:=rho.all λo=>match o with
 |some d=>vd d
 |none=>true
def xo7(i j:Nat)(I:TD):TSD:=λF rho n=>i<rho.length/\j<rho.length/\zD7 rho=true/\n<64/\I rho n λd B=>B<64/\F.nx ((rho.set i (some (.own []))).set j (some d)) B
@[simp] theorem xr8{i j B F rho n}:xo7 i j B F rho n=(i<rho.length/\j<rho.length/\zD7 rho=true/\n<64/\B rho n λd I=>I<64/\F.nx ((rho.set i (some (.own []))).set j (some d)) I):=rfl
section
variable {A:AC}{X:Cx}{b:Expr}{tb:TD}{pos:Pos}
end
end L2
namespace L2
open PySem PySem.Spec PyProof.Rows PySem.SeqAt
section
variable {A:AC}{X:Cx}{a b c e:Expr}{ta tb tc te:TD}{pos:Pos}
def xp5:RD2:=λd1 d2 k=>Kb d1 λes=>d2=.tup []/\k (.bl es.isEmpty)
@[simp] theorem xs5{d1 d2 k}:xp5 d1 d2 k=Kb d1 λes=>d2=.tup []/\k (.bl es.isEmpty):=rfl
def zV8:RD2:=λd1 d2 k=>∃es i,d1=.lst es/\d2=.int i/\0<=i/\i<1000/\es.length*i.toNat<=sizeLine/\k (.lst (replicate i.toNat es).flatten)
@[simp] theorem xj4{es i k}:zV8 (.lst es) (.int i) k↔(0<=i/\i<1000/\es.length*i.toNat<=sizeLine/\k (.lst (replicate i.toNat es).flatten)):=⟨fun⟨_,_,e,e',h⟩=>by cases e;cases e';exact h,λh=>⟨_,_,rfl,rfl,h⟩⟩
def xi4(es:List D)(k:List D->Prop):Prop:=∃fs,(es=[.lst fs]\/es=[.tup fs])/\k fs
@[simp] theorem xr4{fs:List D}{k}:xi4 [.lst fs] k↔k fs:=⟨fun⟨_,e,h⟩=>by rcases e with e |e<;>cases e;exact h,λh=>⟨_,.inl rfl,h⟩⟩
@[simp] theorem xr3{fs:List D}{k}:xi4 [.tup fs] k↔k fs:=⟨fun⟨_,e,h⟩=>by rcases e with e |e<;>cases e;exact h,λh=>⟨_,.inr rfl,h⟩⟩
def zU9(i:Nat)(t:TAD):TSD:=λF rho n=>i<rho.length/\t rho n λes B=>xi4 es λfs=>F.nx (rho.set i (some (.own fs))) B
@[simp] theorem xj1{i t F rho n}:zU9 i t F rho n=(i<rho.length/\t rho n λes B=>xi4 es λfs=>F.nx (rho.set i (some (.own fs))) B):=rfl
end
mutual
def zT3:D->PyData
 |.bl b=>.bool b
 |.int i=>.int i
 |.str x=>.str x
 |.tup ds=>.tuple (zd4 ds)
 |.lst ds=>.list (zd4 ds)
 |_=>.none
def zd4:List D->List PyData
 |[]=>[]
 |d::ds=>zT3 d::zd4 ds
end
mutual
def okR:D->Nat->Bool
 |.non,_=>true
 |.bl _,_=>true
 |.int i,_=>decide (i.natAbs.log2<1920)
 |.str x,_=>decide ((reprText x).length<=2000)
 |.tup ds,k=>match k with
  |0=>false
  |k+1=>xy9 ds k
 |.lst ds,k=>match k with
  |0=>false
  |k+1=>xy9 ds k
 |_,_=>false
def xy9:List D->Nat->Bool
 |[],_=>true
 |d::ds,k=>okR d k&&xy9 ds k
end
mutual
def zS5:D->Nat
 |.tup ds=>zN6 ds+1
 |.lst ds=>zN6 ds+1
 |_=>1
def zN6:List D->Nat
 |[]=>0
 |d::ds=>zS5 d+zN6 ds
end
def zf0(d:D):Str:=(zT3 d).shown
section
variable {X:Cx}{pins:QqL}{σ:St}{H:Hp}{s:Shared}{G:QqE}{Z:QqA}
end
def xz3:List D->(D->Prop)->Prop:=λes k=>∃d,es=[d]/\xe1 d=true/\okR d 15=true/\zS5 d<=8000/\k (.str (zf0 d))
@[simp] theorem xu7{d k}:xz3 [d] k↔(xe1 d=true/\okR d 15=true/\zS5 d<=8000/\k (.str (zf0 d))):=⟨fun⟨_,e,h⟩=>by cases e;exact h,λh=>⟨_,rfl,h⟩⟩
end L2
namespace L2
def zs8(es:List D)(e d:D)(k:List D->Prop):Prop:=∃j m,e=.int j/\ixN es.length j=some m/\k (es.set m d)
def zt0(i:Nat)(W:TAD)(J I:TD):TSD:=λF rho n=>Xg rho[i]? λes=>W rho n λcs n1=>QT cs λd1 d2=>J rho n1 λe1 n2=>zs8 es e1 d1 λB=>
 I (rho.set i (some (.own B))) n2 λe2 Y=>zs8 B e2 d2 λU=>F.nx (rho.set i (some (.own U))) Y
@[simp] theorem zS1{i W I B F rho n}:zt0 i W I B F rho n=Xg rho[i]? λes=>W rho n λcs n1=>QT cs λd1 d2=>I rho n1 λe1 n2=>zs8 es e1 d1 λJ=>
 B (rho.set i (some (.own J))) n2 λe2 Y=>zs8 J e2 d2 λU=>F.nx (rho.set i (some (.own U))) Y:=rfl
section
variable {A:AC}{X:Cx}{a1 a2 b1 b2:Expr}{ta:TAD}{tb1 tb2:TD}{pos:Pos}
end
end L2
namespace PySem
open PySem.Sem (wp)
namespace F
end F
section
variable {prog:Program}{w:World}{K:Type} [DecidableEq K] {knd:KeyKind prog w K}{A:Around}{R:Result->Shared->Prop}
end
section
variable {prog:Program}{w:World}{K:Type} [DecidableEq K] {knd:KeyKind prog w K}{A:Around}{E:QqV}{s:Shared}
end
end PySem
namespace L2
section
variable {X:Cx}{A:AC}
end
end L2
namespace L2
open PySem PySem.Spec PyProof.Rows PySem.SeqAt
section
variable {A:AC}{X:Cx}
def zT1(d:D)(k:List (List D)->Prop):Prop:=∃B:List (List D),d=.tup (B.map D.tup)/\k B
def xp7:RD2:=λd1 d2 k=>d1=.tup []/\zT1 d2 λB=>k (.bl (B.any List.isEmpty))
@[simp] theorem xj7{a b k}:xp7 (.tup []) (.tup [.tup a,.tup b]) k ↔ k (.bl (a.isEmpty || b.isEmpty)):=by
 constructor
 ·rintro ⟨_, B, e, h⟩
  have:B=[a,b]:=by
   have e':=D.tup.inj e
   match B,e' with
   |[x,y],e'=>simp at e';rw[e'.1,e'.2]
   |[],e'=>simp at e'
   |[x],e'=>simp at e'
   |x::y::z::r,e'=>simp at e'
  subst this
  simpa using h
 ·intro h
  exact⟨rfl,[a,b],rfl,by simpa using h⟩
end
mutual
def okN:D->Nat->Bool
 |.non,_=>true
 |.int i,_=>decide (i.natAbs.log2<20)
 |.tup ds,k=>match k with
  |0=>false
  |k+1=>xH2 ds k
 |_,_=>false
def xH2:List D->Nat->Bool
 |[],_=>true
 |d::ds,k=>okN d k&&xH2 ds k
end
def xz2:List D->(D->Prop)->Prop:=λes k=>∃ds,es=[.tup ds]/\okN (.tup ds) 20=true/\zS5 (.tup ds)<=400000/\k (.str (zf0 (.tup ds)))
@[simp] theorem xu6{ds k}:xz2 [.tup ds] k↔(okN (.tup ds) 20=true/\zS5 (.tup ds)<=400000/\k (.str (zf0 (.tup ds)))):=⟨fun⟨_,e,h⟩=>by cases e;exact h,λh=>⟨_,rfl,h⟩⟩
end L2
namespace L2
section
variable {A:AC}
def xz7:List D->(D->Prop)->Prop:=λes k=>∃i:Int,es=[.int i]/\k (.bl (i != 0))
@[simp] theorem xv5{i:Int}{k}:xz7 [.int i] k↔k (.bl (i != 0)):=⟨fun⟨_,e,h⟩=>by cases e;exact h,λh=>⟨_,rfl,h⟩⟩
end
section
variable {A:AC}{X:Cx}{pos:Pos}{m:Nat}
def xP5(K:W.Frag)(n:Nat)(t:TGs):TG:=λv σ H Q=>∃a xs,v=.ref a/\SqL K H a xs/\xs.length=n/\t xs σ H Q
def zY9{es:List Expr}{k:Nat}{t:TGs}{n:Nat}(hc:X.calm=true)(h:PGs X es t)
  (hn:(assignEach es X.env).length=n:=by rfl) (U:(assignEach es X.env).findIdx? (·.1)=none:=by rfl):PG X (.Tuple es k pos) (xP5 X.K n t):=by
 intro B s σ H v u Q I r J;obtain⟨a,xs,e1,hq,hl,J⟩:=J;subst e1;cases r;obtain⟨its,rv,Y,hz⟩:=I.list hq;rw[assign_Tuple];refine zb (wg ?_);unfold unpack
 have hn':(assignEach es X.env).length=its.toArray.size:=by simp[hn,<- hl,rv.length]
 rw[hn',U];refine zb (wh (W.kun_itemsOf (I.ok.hd hc) Y.isList λh' hx=>?_));have I1:Inv X B σ H { s with heap:=h' }:=I.kept (t':=s.toks) λb o e=>hx b o (zJ (zy e)) e
 exact h B _ σ H xs _ Q I1 (by simpa using rv) J
def xf1(k:Nat)(gs:zr5):TGD:=λd rho P=>∃es,d=.lst es/\es.length=k/\gs es rho P
@[simp] theorem xw2{k gs es rho P}:xf1 k gs (.lst es) rho P↔(es.length=k/\gs es rho P):=⟨fun⟨_,e,h⟩=>by cases e;exact h,λh=>⟨_,rfl,h⟩⟩
def Kv{es:List Expr}{k:Nat}{gs:zr5}{W:Nat}(hK:X.K=A.K)(hc:X.calm=true)(h:xh8 A X m es gs)(hn:(assignEach es X.env).length=k:=by rfl)(B:(assignEach es X.env).findIdx? (·.1)=none:=by rfl):PGD A X m (.Tuple es W pos) (xf1 k gs):=by
 exists 
   (zY9 (n := k) hc h hn B).imp λv sg H Q h => by
    obtain⟨rho,n,P,d,ds,vs,⟨os,I⟩,⟨fs,rfl,Y,q⟩,hQ⟩:=h;obtain⟨J,r⟩:=I.pop;obtain⟨a,xs,rfl,sq,U⟩:=r.lst_inv;have hx:=U.length;rw[hK]
    exact⟨a,xs,rfl,sq.sq,by rw[hx];exact Y,rho,n,P,fs,ds,vs,⟨os,J.join U⟩,hx,q,hQ⟩
end
section
variable {A:AC}{X:Cx}
def zU2:D->Str
 |.non => "None"
 |d=>zf0 d
def xH1(d:D):Prop:=d=.non\/(xe1 d=true/\okR d 20=true/\zS5 d<=8000)
def xd0:List D->(D->Prop)->Prop:=λes k=>∃d,es=[d]/\xH1 d/\k (.str (zU2 d))
@[simp] theorem xk9{d k}:xd0 [d] k↔(xH1 d/\k (.str (zU2 d))):=⟨fun⟨_,e,h⟩=>by cases e;exact h,λh=>⟨_,rfl,h⟩⟩
end
def lo{B:Scope}{x:Str}(h:(match B.names.lookup x with |some .local=>true |some .cell=>true |_=>false)=true):Loc B x:=by
 unfold Loc
 split at h
 ·exact .inl (by assumption)
 ·exact .inr (by assumption)
 ·cases h
end L2
namespace L2
open PySem PySem.Spec PyProof.Rows PySem.SeqAt
section
variable {A:AC}{X:Cx}
def zu1:RD2:=λd1 d2 k=>d1=.non/\∃B:List (List D),d2=.lst (B.map D.lst)/\k (.bl false)
@[simp] theorem xk1{a b k}:zu1 .non (.lst [.lst a,.lst b]) k↔k (.bl false):=⟨fun⟨_,_,_,h⟩=>h,λh=>⟨rfl,[a,b],rfl,h⟩⟩
def xz4:List D->(D->Prop)->Prop:=λes k=>∃ks ds,es=[.dct ks ds]/\ks.length=ds.length/\k (.int (ks.length:Int))
@[simp] theorem xv2{ks ds k}:xz4 [.dct ks ds] k↔(ks.length=ds.length/\k (.int (ks.length:Int))):=⟨fun⟨_,_,e,h⟩=>by cases e;exact h,λh=>⟨_,_,rfl,h⟩⟩
def xh0(B:TD):TD:=λrho n P=>B rho n λd I=>∃x:Int,d=.int x/\P (.int ((Builtin.Int.intBits x:Nat):Int)) I
@[simp] theorem xx5{B:TD}{rho:Rho}{n:Nat}{P:D->Nat->Prop}:xh0 B rho n P=B rho n λd I=>∃x:Int,d=.int x/\P (.int ((Builtin.Int.intBits x:Nat):Int)) I:=rfl
def zN8:MtR X "int.bit_length" (λx vs H Q=>∃z,x=.int z/\vs=[]/\Q (.int ((Builtin.Int.intBits z:Nat):Int)) H):=by
 intro B s σ H x vs v us Q I J rv h;obtain⟨z,rfl,rfl,q⟩:=h;obtain⟨t,rfl⟩:=J;cases rv;exact PySem.call_gives PySem.F.slot_int_bit_length (typeIs_int _ _ _) PySem.F.entry_int_bit_length (PySem.F.args_int_bit_length_1 _) (PySem.AutoIntG2.int_bit_length_int_0 z t) ⟨.int _,H,I.tok _,⟨_,rfl⟩,q⟩
def zL6{o:Expr}{te:TD}{U B:Pos}(ho:PD A X o te)(Y:attributeBase o "bit_length" X.env (eval o X.env)=eval o X.env:=by rfl)(W:(U.endLine == B.line)=true:=by rfl):PD A X (.Call (.Attribute o "bit_length" U) [] [] B) (xh0 te):=by
 exists (zZ6 PySem.F.plainAttrs_int PySem.F.slot_int_bit_length PySem.F.type_int_bit_length zN8 ho Y W).imp λsg H Q h=>by
   obtain⟨rho,n,P,ds',vs,I,ht,hQ⟩:=h;refine⟨rho,n,_,ds',vs,I,ht,λv H' n' d J k=>?_⟩;obtain⟨x,rfl,k⟩:=k;obtain⟨os,J⟩:=J;obtain⟨J1,r⟩:=J.pop;have e:=r.toS rfl;subst e;exact⟨rfl,x,rfl,rfl,hQ _ _ _ _ ⟨os,J1.push (Rep.ofS rfl)⟩ k⟩
def xd5:List D->(D->Prop)->Prop:=λes k=>∃j:Int,es=[.int j]/\0<=j/\j<=1000/\k (.lst ((List.range j.toNat).map λi:Nat=>D.int (i:Int)))
@[simp] theorem xl1{j:Int}{k:D->Prop}:xd5 [.int j] k↔(0<=j/\j<=1000/\k (.lst ((List.range j.toNat).map λi:Nat=>D.int (i:Int)))):=⟨fun⟨_,e,h⟩=>by cases e;exact h,λh=>⟨_,rfl,h⟩⟩
end
end L2
namespace L2
mutual
theorem jC:∀d:D,plD d=true->Ws d=true
 |.non,_=>rfl
 |.bl _,_=>rfl
 |.int _,_=>rfl
 |.rf _,_=>rfl
 |.tup ds,h=>Xc ds h
 |.lst ds,h=>Xc ds h
 |.str _,h=>by simp[plD] at h
 |.ty _,h=>by simp[plD] at h
 |.fz _,h=>by simp[plD] at h
 |.st,h=>by simp[plD] at h
 |.own _,h=>by simp[plD] at h
 |.dic,h=>by simp[plD] at h
 |.dct _ _,h=>by simp[plD] at h
theorem Xc:∀ds:List D,Zb ds=true->ZT ds=true
 |[],_=>rfl
 |d::ds,h=>by
  have h':plD d=true/\Zb ds=true:=by simpa [Zb] using h
  simp[ZT,jC d h'.1,Xc ds h'.2]
end
theorem yh:∀{ds:List D},Zb ds=true↔∀d∈ds,plD d=true
 |[]=>by simp[Zb]
 |d::ds=>by simp[Zb,yh (ds:=ds)]
section
variable {A:AC}{os:List (Nat × Addr)}{n:Nat}{rho:Rho}{sg:St}{H:Hp}{ds:List D}{vs:List V}{a:Addr}{c:Cell}{o:HO}
def AmO.cell(I:AmO A os n rho sg H ds vs)(h:zW n a=some c):A.G≠some a/\Zof A os a/\CellR A.K (Zof A os) H a c:=by
 obtain⟨h1,h2,h3⟩:=I.st.2 a c h;refine⟨h2,?_,h3⟩
 rcases h1 with z |⟨p,B,e,_⟩
 ·exact .inl z.1
 ·exact .inr ⟨p,B,e⟩
def Wok(A:AC)(os:List (Nat × Addr))(n:Nat)(H:Hp)(a:Addr):Prop:=A.G≠some a/\((Zof A os a/\zW n a≠none)\/H a=none)
def AmO.wok(I:AmO A os n rho sg H ds vs)(h:zW n a=some c):Wok A os n H a:=⟨(I.cell h).1,.inl ⟨(I.cell h).2.1,by rw[h];simp⟩⟩
def AmO.wokNew(I:AmO A os n rho sg H ds vs)(h:H a=none):Wok A os n H a:=by
 refine⟨λe=>?_,.inr h⟩;obtain⟨x,y,z,w,_⟩:=I.st.1 a e;rw[w] at h;cases h
def AmO.noCell(I:AmO A os n rho sg H ds vs)(h:H a=none):zW n a=none:=by
 cases q:zW n a with
 |none=>rfl
 |some c=>exact absurd h (I.cell q).2.2.ne
def Wok.z(w:Wok A os n H a)(J:plC c=true)(I:AmO A os n rho sg H ds vs):∀b,H b≠none->Wi (Zof A os) (vq n a c) b->Zof A os b:=λb B z=>by
 rcases z with z |z
 ·exact z
 ·rw [ky J] at z
  by_cases e:b=a
  ·rcases w.2 with y | y
   ·rw[e];exact y.1
   ·rw[e] at B;exact absurd y B
  ·rw [if_neg e] at z
   cases q:zW n b with
   |none=>exact absurd q z
   |some c=>exact(I.cell q).2.1
def Wok.f(w:Wok A os n H a):∀b u,¬ Zof A os b->H b=some u->upd H a o b=some u:=λb u B e=>by
 refine(wB λz=>?_).trans e
 rcases w.2 with y |y
 ·exact B (by rw[z];exact y.1)
 ·rw[z,y] at e;cases e
def Wok.rep(w:Wok A os n H a)(J:plC c=true)(I:AmO A os n rho sg H ds vs){d:D}{v:V}(B:plD d=true)(r:Rep A.K A.G (Zof A os) H d v):Rep A.K none (Wi (Zof A os) (vq n a c)) (upd H a o) d v:=
 Rep.mono (w.z J I) w.f _ _ (Rep.reG _ _ (jC _ B) r)
def Wok.kv(w:Wok A os n H a)(B:plC c=true)(I:AmO A os n rho sg H ds vs){l:List (Int × D)}{r:List (Key × V)}(h:KvR A.K (Zof A os) H l r):KvR A.K (Wi (Zof A os) (vq n a c)) (upd H a o) l r:=h.mono (w.z B I) w.f
def Wok.fs(w:Wok A os n H a)(B:plC c=true)(I:AmO A os n rho sg H ds vs){l:List (Str × D)}{r:List (Str × V)}(h:FsR A.K (Zof A os) H l r):FsR A.K (Wi (Zof A os) (vq n a c)) (upd H a o) l r:=h.mono (w.z B I) w.f
def AmO.wrote(I:AmO A os n rho sg H ds vs)(w:Wok A os n H a)(B:plC c=true)(U:CellR A.K (Wi (Zof A os) (vq n a c)) (upd H a o) a c) :
  ∃os',AmO A os' (vq n a c) rho sg (upd H a o) ds vs/\∀b,Zof A os' b->Wi (Zof A os) (vq n a c) b:=by
 refine I.calledX (λb u g W e=>?_) ⟨λb e=>?_,λb c' e=>?_⟩ ⟨λb h=>?_,λb h=>?_⟩
 ·refine (wB λz => ?_).trans e
  rcases w.2 with y |y
  ·exact y.2 (by rw[<- z];exact W)
  ·rw[z,y] at e;cases e
 ·obtain ⟨J, u, v, q, r⟩ := I.st.1 b e
  exact⟨J,u,v,by rw[wB λz=>w.1 (by rw[<- z];exact e)];exact q,by rw[vh B];exact r⟩
 ·have ne : zW (vq n a c) b ≠ none := by rw [e]; simp
  rw[ky B] at e
  by_cases q:b=a
  ·rw [if_pos q] at e;cases e
   exact⟨.inr ne,by rw[q];exact w.1,by rw[q];exact U⟩
  ·rw [if_neg q] at e;obtain⟨h1,h2,h3⟩:=I.cell e
   exact⟨.inl h2,h1,h3.mono (w.z B I) w.f λo' e'=>by rw[wB q];exact e'⟩
 ·rw [ky B] at h
  by_cases q:b=a
  ·rcases w.2 with y | y
   ·exact .inl (by rw[q];exact y.2)
   ·exact .inr (by rw[q];exact y)
  ·rw[if_neg q] at h;exact .inl h
 ·rw [ky B]
  by_cases q:b=a
  ·rw[if_pos q];simp
  ·rw[if_neg q];exact h
end
def vG{α:Type}(k:Int):List (Int × α)->Option α
 |[]=>none
 |p::l=>if p.1=k then some p.2 else vG k l
def vL{α:Type}(k:Int)(x:α)(l:List (Int × α)):List (Int × α):=if (vG k l).isSome=true then l.map λp=>if p.1=k then(p.1,x) else p else l++[(k,x)]
def vU{α:Type}(k:Int)(l:List (Int × α)):List (Int × α):=l.filter λp=>decide (p.1≠k)
def kG{α:Type}(f:Str):List (Str × α)->Option α
 |[]=>none
 |p::l=>if p.1=f then some p.2 else kG f l
def WY{α:Type}(f:Str)(x:α):List (Str × α)->List (Str × α)
 |[]=>[(f,x)]
 |p::l=>if p.1=f then(f,x)::l else p::WY f x l
section
variable {K:W.Frag}{G:QqE}{Z:QqA}{H:Hp}{d:D}{v:V}
def Qc{a b:Int}(h:¬ a=b):¬ (Sum.inl a:Key)=Sum.inl b:=λe=>h (Sum.inl.inj e)
theorem KvR.get:∀{l:List (Int × D)}{r:List (Key × V)}{k:Int},KvR K Z H l r->(∀d,vG k l=some d->∃v,Yu r (.inl k)=some v/\Rep K none Z H d v)/\(vG k l=none->Yu r (.inl k)=none)
 |[],[],k,_=>⟨λd h=>by simp[vG] at h,λ_=>rfl⟩
 | p :: l, q :: r, k, h => by
  obtain⟨h1,h2,h3⟩:=h;obtain⟨i1,i2⟩:=KvR.get (k:=k) h3;unfold vG
  by_cases e:p.1=k
  ·rw [if_pos e, jA (by rw [h1, e])]
   exact⟨λd h=>by cases h;exact⟨_,rfl,h2⟩,λh=>by cases h⟩
  ·rw [if_neg e, jB (by rw [h1]; exact Qc e)]
   exact⟨i1,i2⟩
theorem KvR.length:∀{l:List (Int × D)}{r:List (Key × V)},KvR K Z H l r->r.length=l.length
 |[],[],_=>rfl
 |_::_,_::_,h=>by rw[zA,zA,KvR.length h.2.2]
def KvR.has:∀{l:List (Int × D)}{r:List (Key × V)}{k:Int},KvR K Z H l r->(Yu r (.inl k)).isSome=(vG k l).isSome:=λ{l r k} h=>by
 obtain⟨i1,i2⟩:=h.get (k:=k)
 cases e:vG k l with
 |none=>rw[i2 e];rfl
 |some d=>obtain⟨v,hv,_⟩:=i1 d e;rw[hv];rfl
def zm4{a b:Int}:(Sum.inl a:Key)=Sum.inl b↔a=b:=⟨λe=>Sum.inl.inj e,λe=>by rw[e]⟩
theorem KvR.snoc(rv:Rep K none Z H d v){k:Int}:∀{l:List (Int × D)}{r:List (Key × V)},KvR K Z H l r->KvR K Z H (l++[(k,d)]) (r++[(.inl k,v)])
 |[],[],_=>⟨rfl,rv,trivial⟩
 |_::_,_::_,h=>⟨h.1,h.2.1,KvR.snoc rv h.2.2⟩
theorem KvR.repl(rv:Rep K none Z H d v){k:Int}:∀{l:List (Int × D)}{r:List (Key × V)},KvR K Z H l r->KvR K Z H (l.map λp=>if p.1=k then(p.1,d) else p) (r.map λkv=>if kv.1=(.inl k:Key) then(kv.1,v) else kv)
 |[],[],_=>trivial
 |p::l,q::r,h=>by
  rw[zz,zz]
  refine⟨?_,?_,KvR.repl rv h.2.2⟩<;>rw[h.1]<;>by_cases c:p.1=k
  ·rw[if_pos c,if_pos (zm4.mpr c)]
  ·rw[if_neg c,if_neg (Qc c)];exact h.1
  ·rw[if_pos c,if_pos (zm4.mpr c)];exact rv
  ·rw[if_neg c,if_neg (Qc c)];exact h.2.1
def KvR.put{l:List (Int × D)}{r:List (Key × V)}{k:Int}(h:KvR K Z H l r)(rv:Rep K none Z H d v):KvR K Z H (vL k d l) (XQ r (.inl k) v):=by
 unfold XQ vL;rw[Yt,h.has]
 cases(vG k l).isSome with
 |true=>rw[if_pos rfl,if_pos rfl];exact h.repl rv
 |false=>rw[if_neg zK,if_neg zK];exact h.snoc rv
theorem KvR.drop{k:Int}:∀{l:List (Int × D)}{r:List (Key × V)},KvR K Z H l r->KvR K Z H (vU k l) (Yd r (.inl k))
 |[],[],_=>trivial
 | p :: l, q :: r, h => by
  by_cases c:p.1=k
  ·rw [show vU k (p :: l) = vU k l from yr (by simpa using c), zn3 (by rw [h.1, c])]
   exact KvR.drop h.2.2
  ·rw [show vU k (p :: l) = p :: vU k l from yq (by simpa using c), zn4 (by rw [h.1]; exact Qc c)]
   exact⟨h.1,h.2.1,KvR.drop h.2.2⟩
theorem FsR.get:∀{l:List (Str × D)}{r:List (Str × V)}{f:Str},FsR K Z H l r->(∀d,kG f l=some d->∃v,r.lookup f=some v/\Rep K none Z H d v)/\(kG f l=none->r.lookup f=none)
 |[],[],f,_=>⟨λd h=>by simp[kG] at h,λ_=>rfl⟩
 | p :: l, q :: r, f, h => by
  obtain⟨h1,h2,h3⟩:=h;obtain⟨i1,i2⟩:=FsR.get (f:=f) h3;obtain⟨I,B⟩:=q;have h1:I=p.1:=h1;subst h1;unfold kG
  by_cases e:p.1=f
  ·rw [if_pos e]
   exact⟨λd h=>by cases h;exact⟨B,by rw[List.lookup,beq_iff_eq.mpr e.symm],h2⟩,λh=>by cases h⟩
  ·rw[if_neg e];have J:(f == p.1)=false:=beq_eq_false_iff_ne.mpr λz=>e z.symm;rw[List.lookup,J];exact⟨i1,i2⟩
theorem FsR.put:∀{l:List (Str × D)}{r:List (Str × V)}{f:Str},FsR K Z H l r->Rep K none Z H d v->FsR K Z H (WY f d l) (XT f v r)
 |[],[],f,_,rv=>⟨rfl,rv,trivial⟩
 |p::l,q::r,f,h,rv=>by
  obtain⟨h1,h2,h3⟩:=h;obtain⟨B,I⟩:=q;have h1:B=p.1:=h1;subst h1;unfold WY XT
  by_cases e:p.1=f
  ·rw[if_pos e,if_pos e];exact⟨e,rv,h3⟩
  ·rw[if_neg e,if_neg e];exact⟨rfl,h2,FsR.put h3 rv⟩
theorem FsR.length:∀{l:List (Str × D)}{r:List (Str × V)},FsR K Z H l r->r.length=l.length
 |[],[],_=>rfl
 |_::_,_::_,h=>by rw[zA,zA,FsR.length h.2.2]
end
theorem zD9:∀{l:List (Addr × Cell)}{a:Addr}{c:Cell},l.lookup a=some c->(a,c)∈l
 |[],_,_,h=>by simp at h
 | p :: l, a, c, h => by
  obtain⟨b,e⟩:=p
  by_cases q:a=b
  ·subst q;simp at h;rw[h];exact zq
  ·refine zf _ (zD9 ?_)
   simpa [List.lookup,beq_eq_false_iff_ne.mpr q] using h
def vp{n:Nat}{a:Addr}{c:Cell}(h:zW n a=some c):plC c=true:=zn9 n (a,c) (zD9 h)
theorem Qe{α:Type}{k:Int}:∀{l:List (Int × α)}{x:α},vG k l=some x->(k,x)∈l
 |[],_,h=>by simp[vG] at h
 |p::l,x,h=>by
  unfold vG at h
  by_cases c:p.1=k
  ·rw[if_pos c] at h;cases h;rw[<- c];exact zq
  ·rw[if_neg c] at h;exact zf _ (Qe h)
theorem Vo{α:Type}{f:Str}:∀{l:List (Str × α)}{x:α},kG f l=some x->(f,x)∈l
 |[],_,h=>by simp[kG] at h
 |p::l,x,h=>by
  unfold kG at h
  by_cases c:p.1=f
  ·rw[if_pos c] at h;cases h;rw[<- c];exact zq
  ·rw[if_neg c] at h;exact zf _ (Vo h)
def zh2{n:Nat}{a:Addr}{kv:List (Int × D)}{k:Int}{x:D}(h:zW n a=some (.dic kv))(e:vG k kv=some x):plD x=true:=
 yh.mp (show Zb (kv.map (·.2))=true from vp h) x (zt (Qe e))
def zK6{n:Nat}{a C:Addr}{fs:List (Str × D)}{f:Str}{x:D}(h:zW n a=some (.ins C fs))(e:kG f fs=some x):plD x=true:=
 yh.mp (show Zb (fs.map (·.2))=true from vp h) x (zt (Vo e))
def ZO{kv:List (Int × D)}{k:Int}{d:D}(h:plC (.dic kv)=true)(hd:plD d=true):plC (.dic (vL k d kv))=true:=by
 refine yh.mpr λx hx=>?_;have h':=yh.mp (show Zb (kv.map (·.2))=true from h);obtain⟨p,B,rfl⟩:=zG.mp hx;unfold vL at B
 split at B
 ·obtain ⟨q, I, rfl⟩ := zG.mp B
  by_cases c:q.1=k
  ·rw[if_pos c];exact hd
  ·rw[if_neg c];exact h' _ (zt I)
 ·rcases zR.mp B with B | B
  ·exact h' _ (zt B)
  ·rw[zw.mp B];exact hd
def Va{kv:List (Int × D)}{k:Int}(h:plC (.dic kv)=true):plC (.dic (vU k kv))=true:=by
 refine yh.mpr λx hx=>?_;obtain⟨p,B,rfl⟩:=zG.mp hx;exact yh.mp (show Zb (kv.map (·.2))=true from h) _ (zt (zP.mp B).1)
def zh0{C:Addr}{f:Str}{d:D}(hd:plD d=true):∀{fs:List (Str × D)},plC (.ins C fs)=true->plC (.ins C (WY f d fs))=true:=λ{fs} h=>by
 refine yh.mpr ?_;have h':=yh.mp (show Zb (fs.map (·.2))=true from h);clear h
 induction fs with
 |nil=>intro x hx;rw[zw.mp hx];exact hd
 | cons p fs I =>
  intro x hx;obtain⟨q,B,rfl⟩:=zG.mp hx;unfold WY at B
  split at B
  ·rcases zg.mp B with rfl | B
   ·exact hd
   ·exact h' _ (zt (zf _ B))
  ·rcases zg.mp B with rfl | B
   ·exact h' _ (zt zq)
   ·exact I (λx hx=>h' x (by rw[zz];exact zf _ hx)) _ (zt B)
def Yp(d:D)(k:QqA):Prop:=∃a,d=.rf a/\k a
@[simp] theorem xD7{a k}:Yp (.rf a) k↔k a:=⟨fun⟨_,e,h⟩=>by cases e;exact h,λh=>⟨_,rfl,h⟩⟩
def ZW(d:D)(k:Int->Prop):Prop:=∃i,d=.int i/\k i
@[simp] theorem xu4{i k}:ZW (.int i) k↔k i:=⟨fun⟨_,e,h⟩=>by cases e;exact h,λh=>⟨_,rfl,h⟩⟩
def XA(C:Addr)(n:Nat)(a:Addr)(k:List (Str × D)->Prop):Prop:=∃fs,zW n a=some (.ins C fs)/\k fs
def qm(n:Nat)(a:Addr)(k:List (Int × D)->Prop):Prop:=∃kv,zW n a=some (.dic kv)/\k kv
def xE{C n a fs k}(h:zW n a=some (.ins C fs))(q:k fs):XA C n a k:=⟨fs,h,q⟩
def xC{n a kv k}(h:zW n a=some (.dic kv))(q:k kv):qm n a k:=⟨kv,h,q⟩
def Xh{α:Type}(o:Option α)(k:α->Prop):Prop:=∃x,o=some x/\k x
@[simp] theorem xt8{α:Type}{x:α}{k:α->Prop}:Xh (some x) k↔k x:=⟨fun⟨_,e,h⟩=>by cases e;exact h,λh=>⟨_,rfl,h⟩⟩
section
variable {A:AC}{X:Cx}{C:Addr}{a b e:Expr}{ta tb te:TD}{t1:TAD}{es:List Expr}{pos pos' p:Pos}{f:Str}
def Rep.rf_inv{K:W.Frag}{G:QqE}{Z:QqA}{H:Hp}{v:V}{a:Addr}(h:Rep K G Z H (.rf a) v):v=.ref a:=by unfold Rep at h;exact h
def Rep.rf_mk{K:W.Frag}{G:QqE}{Z:QqA}{H:Hp}{a:Addr}:Rep K G Z H (.rf a) (.ref a):=by unfold Rep;rfl
def xg3:TD:=λ_ n P=>∀a,zW n a=none->P (.rf a) (vq n a (.dic []))
def jm:PD A X (.Dict [] [] pos) xg3:=by
 exists zv8.imp λsg H Q h=>by
   obtain⟨rho,n,P,ds,vs,⟨os,I⟩,k,U⟩:=h;intro p B;obtain⟨os',J,_⟩:=I.wrote (o:=.dK []) (I.wokNew B) (c:=.dic []) rfl ⟨[],yA,trivial⟩;exact U _ _ _ _ ⟨os',J.push Rep.rf_mk⟩ (k p (I.noCell B))
def xg6(C:Addr)(f:Str)(t:TD):TD:=λrho n P=>t rho n λd n'=>Yp d λa=>XA C n' a λfs=>Xh (kG f fs) λx=>P x n'
def yW(c:Cls X.K C)(Y:NoAttr X.K C f)(ha:PD A X a ta)(hb:attributeBase a f X.env (eval a X.env)=eval a X.env:=by rfl):PD A X (.Attribute a f pos) (xg6 C f ta):=by
 exists (zZ5 ha hb).imp λsg H Q h=>by
   obtain⟨rho,n,P,ds,vs,I,ht,hQ⟩:=h;refine⟨rho,n,_,ds,vs,I,ht,λv H' n' d ⟨os,J⟩ k=>?_⟩;obtain⟨q,rfl,fs,B,x,hx,k⟩:=k;obtain⟨U,r⟩:=J.pop;obtain⟨_,_,dx,gs,hp,hf⟩:=U.cell B;obtain⟨u,hu,W⟩:=hf.get.1 x hx;exact⟨q,C,dx,gs,u,r.rf_inv,hp,c,Y,hu,hQ u H' n' x ⟨os,U.push (Rep.reG _ _ (jC _ (zK6 B hx)) W)⟩ k⟩
def zV1(C:Addr)(f:Str)(ta te:TD):TSD:=λF rho n=>te rho n λd I=>ta rho I λx B=>Yp x λa=>XA C B a λfs=>plD d=true/\fs.length<1000/\F.nx rho (vq B a (.ins C (WY f d fs)))
def qe(c:Cls X.K C)(na:NoAttr X.K C f)(ha:PD A X a ta)(he:PD A X e te)(hs:swapsWith e (some (.Attribute a f pos')) pos.line X.env=pure false:=by rfl):PSD A X (.Assign [.Attribute a f pos'] e pos) (zV1 C f ta te):=by
 exists (zY2 ha he hs).imp λE sg H h=>by
   obtain⟨rho,n,F,ds,vs,I,ht,ok⟩:=h;refine⟨rho,n,_,ds,vs,I,ht,λv H' n' d J k=>⟨rho,n',_,d::ds,v::vs,J,k,λv2 H2 n2 x ⟨os,J2⟩ U=>?_⟩⟩;obtain⟨q,rfl,fs,W,hd,hl,U⟩:=U;obtain⟨J3,r2⟩:=J2.pop;obtain⟨B,r1⟩:=J3.pop;obtain⟨_,_,Y,gs,hp,hf⟩:=B.cell W;have w:=B.wok W;have pl:=zh0 (C:=C) (f:=f) hd (vp W)
   refine⟨q,C,Y,gs,r2.rf_inv,hp,c,na,by rw[hf.length];exact hl,?_⟩
   obtain⟨os',J5,_⟩:=B.wrote (o:=.ins C Y (XT f v gs)) w pl ⟨Y,_,yA,(w.fs pl B hf).put (w.rep pl B hd r1)⟩;exact ok.nx _ _ _ _ ⟨os',J5⟩ U
def JA(C:Addr)(f:Str)(ta te:TD):TSD:=λF rho n=>ta rho n λx J=>Yp x λa=>XA C J a λfs=>Xh (kG f fs) λy=>ZW y λi=>te rho J λd I=>ZW d λj=>XA C I a λB=>B.length<1000/\F.nx rho (vq I a (.ins C (WY f (.int (i+j)) B)))
def Ku(c:Cls X.K C)(na:NoAttr X.K C f)(ha:PD A X a ta)(he:PD A X e te):PSD A X (.AugAssign (.Attribute a f pos') .Add e pos) (JA C f ta te):=by
 exists (zg6 ha he xe4).imp λE sg H h=>by
   obtain⟨rho,n,F,ds,vs,I,ht,ok⟩:=h;refine⟨rho,n,_,ds,vs,I,ht,λv H' n' d ⟨os,J⟩ k=>?_⟩;obtain⟨q,rfl,fs,hc,_,hx,i,rfl,k⟩:=k;obtain⟨J1,r⟩:=J.pop;obtain⟨_,_,dx,gs,hp,hf⟩:=J1.cell hc;obtain⟨u,hu,ru⟩:=hf.get.1 _ hx;refine⟨q,C,dx,gs,u,r.rf_inv,hp,c,na,hu,rho,n',_,ds,vs,⟨os,J1⟩,k,λv2 H2 n2 d2 ⟨ab,J2⟩ k2=>?_⟩;obtain⟨j,rfl,ac,B,hl,k2⟩:=k2;obtain⟨J3,r2⟩:=J2.pop;obtain⟨_,_,U,Y,aa,W⟩:=J3.cell B;have w:=J3.wok B;have pl:=zh0 (C:=C) (f:=f) (d:=.int (i+j)) rfl (vp B)
   refine⟨i,j,ru.int_inv,r2.int_inv,U,Y,aa,by rw[W.length];exact hl,?_⟩
   obtain⟨os',J5,_⟩:=J3.wrote (o:=.ins C U (XT f (.int (i+j)) Y)) w pl ⟨U,_,yA,(w.fs pl J3 W).put (Rep.ofS (d:=.int (i+j)) rfl)⟩;exact ok.nx _ _ _ _ ⟨os',J5⟩ k2
structure MthC(P:Program)(w:World)(K:W.Frag)(mg:QqM)(base:Heap)(C:Addr)(m:Str)(kk k:Nat)(t:TF):Prop where
 ex:∃(g:Addr) (fd:FuncData) (ps:List Str),FnOk P w K mg base CX0 kk g fd ps (spD K (k+1) t)/\Meth K C m g/\Cls K C/\Binds K fd ps []
def Qr(C:Addr)(m:Str)(k:Nat)(t:TF)(ta:TD)(t1:TAD):TD:=λrho n P=>ta rho n λd B=>Yp d λa=>XA C B a λfs=>kG m fs=none/\t1 rho B λes I=>es.length=k/\t (.rf a::es) I P
def zO3{m:Str}{k:Nat}{t:TF}(hK:X.K=A.K){sg:St}{H:Hp}{Q:VK}(h:tOf A (Qr C m k t ta t1) sg H Q):zG4 C m (spD X.K (k+1) t) [] E0 (tOf A ta) (xn5 A t1) sg H Q:=by
 obtain⟨rho,n,R,ds,vs,I,ht,hQ⟩:=h;refine⟨rho,n,_,ds,vs,I,ht,λv H' n' d ⟨os,J⟩ k=>?_⟩;obtain⟨q,rfl,fs,hc,hn,k⟩:=k;obtain⟨J1,r⟩:=J.pop;obtain⟨_,_,dx,gs,hp,hf⟩:=J1.cell hc;cases r.rf_inv;refine⟨q,dx,gs,rfl,hp,hf.get.2 hn,rho,n',_,ds,vs,⟨os,J1⟩,k,λws H2 n2 aa ⟨W,J2⟩ Y k2=>?_⟩;obtain⟨B,U⟩:=J2.split Y;rw[wb,hK]
 exact⟨A.G,Zof A W,n2,R,.rf q::aa,by rw[zA,k2.1],.cons Rep.rf_mk U,B.stZ,λa z=>.inl (B.gz a z),B.zH,k2.2,λv H3 n3 d fr st gw r q=>hQ v H3 n3 d (B.called fr st gw r) q⟩
def qK{m:Str}{W k:Nat}{t:TF}{b:Expr}{B:Pos}{pl:Sem Bool}(M:MthC X.prog X.w X.K X.mg X.base C m W k t)(hr:Room W X.A)(hK:X.K=A.K)(ha:PD A X a ta)(h1:PAD A X (b::es) t1)
  (I:starEach (b::es) X.env=(false,eval b X.env)::starEach es X.env:=by rfl) (J:(backTo pos (starEach es X.env)).any (·.1)=false:=by rfl)
  (Y : eval (.Call (.Attribute a m B) (b :: es) [] pos) X.env = (do
   let U <- eval a X.env
   standAt B.atName
   let (f,first) <- holding [U] (getMethod U m pl)
   callWith pos f first (backTo pos (starEach (b::es) X.env)) (backToKw pos (keywordEach [] X.env))):=by rfl) :
  PD A X (.Call (.Attribute a m B) (b::es) [] pos) (Qr C m k t ta t1):=by
 obtain⟨g,fd,ps,F,hm,c,hb⟩:=M.ex
 exists (zL1 (pl:=pl) ha c hm F hr hb .nil QS h1 I J Y).imp λsg H Q h=>zO3 hK h
def kS{m:Str}{kk:Nat}{t:TF}{B:Pos}{pl:Sem Bool}(M:MthC X.prog X.w X.K X.mg X.base C m kk 0 t)(hr:Room kk X.A)(hK:X.K=A.K)(ha:PD A X a ta)
  (W : eval (.Call (.Attribute a m B) [] [] pos) X.env = (do
   let Y <- eval a X.env
   standAt B.atName
   let (f,first) <- holding [Y] (getMethod Y m pl)
   callWith pos f first (backTo pos (starEach [] X.env)) (backToKw pos (keywordEach [] X.env))):=by rfl) :
  PD A X (.Call (.Attribute a m B) [] [] pos) (Qr C m 0 t ta xB2):=by
 obtain⟨g,fd,ps,F,hm,c,hb⟩:=M.ex
 exists (zv6 (pl:=pl) ha c hm F hr hb .nil QS W).imp λsg H Q h=>by
   obtain⟨rho,n,R,ds,vs,I,W,hQ⟩:=h;refine⟨rho,n,_,ds,vs,I,W,λv H' n' d ⟨os,J⟩ k=>?_⟩;obtain⟨q,rfl,fs,hc,hn,k⟩:=k;obtain⟨U,r⟩:=J.pop;obtain⟨_,_,dx,gs,hp,hf⟩:=U.cell hc;cases r.rf_inv;refine⟨q,dx,gs,rfl,hp,hf.get.2 hn,?_⟩;have z:spD A.K (0+1) t (.ref q::([]++[])) H' Q E0:=⟨A.G,Zof A os,n',R,[.rf q],rfl,.cons Rep.rf_mk .nil,U.stZ,λa z=>.inl (U.gz a z),U.zH,k.2,λv H3 n3 d fr st gw r q=>hQ v H3 n3 d (U.called fr st gw r) q⟩;rw[hK];exact z
structure MkeC(P:Program)(w:World)(K:W.Frag)(mg:QqM)(base:Heap)(C:Addr)(x:Str)(kk k:Nat)(t:TF):Prop where
 ex:∃(f:Addr) (fd:FuncData) (ps:List Str),FnOk P w K mg base CX0 kk f fd ps (spD K (k+1) t)/\Mk K C f/\mg x=some (.ref C)/\Binds K fd ps []
def zF1(C:Addr)(k:Nat)(t:TF)(t1:TAD):TD:=λrho n P=>t1 rho n λes B=>es.length=k/\∀a,zW B a=none->t (.rf a::es) (vq B a (.ins C [])) λd I=>d=.non/\P (.rf a) I
def JR{x:Str}{kk k:Nat}{t:TF}(M:MkeC X.prog X.w X.K X.mg X.base C x kk k t)(hr:Room (kk+1) X.A)(hK:X.K=A.K)(ha:PAD A X (e::es) t1)(hg:Gl X x:=by rfl)(ab:(x == ("__debug__" : Str))=false:=by decide)
  (he:starEach (e::es) X.env=(false,eval e X.env)::starEach es X.env:=by rfl) (aa:(backTo pos (starEach es X.env)).any (·.1)=false:=by rfl):PD A X (.Call (.Name x p) (e::es) [] pos) (zF1 C k t t1):=by
 obtain⟨f,fd,ps,F,M,hm,hb⟩:=M.ex
 exists (zL2 M F hr hg hm hb .nil QS ha ab he aa).imp λsg H Q h=>by
   obtain⟨rho,n,R,ds,vs,I,ht,hQ⟩:=h;refine⟨rho,n,_,ds,vs,I,ht,λws H1 n1 ac ⟨os,J⟩ hl k=>?_⟩;intro x dx nx Y U;rw[wb,hK];have J1:=J.grow (o:=.own x) Y
   have W:upd H1 dx (.own x) x=none:=by rw[wB (Ne.symm U)];exact nx
   obtain⟨os',J2,_⟩:=J1.wrote (o:=.ins C dx []) (J1.wokNew W) (c:=.ins C []) rfl ⟨dx,[],yA,trivial⟩;obtain⟨B,rs⟩:=J2.split hl
   refine⟨A.G,Zof A os',vq n1 x (.ins C []),_,.rf x::ac,by rw[zA,k.1],.cons Rep.rf_mk rs,B.stZ,λa z=>.inl (B.gz a z),B.zH,k.2 x (J.noCell nx),λv H3 n3 d fr st gw r q=>?_⟩
   obtain⟨rfl,q⟩:=q;exact⟨r.toS rfl,hQ _ H3 n3 _ (B.called fr st gw Rep.rf_mk) q⟩
def xg8(ta tb:TD):TD:=λrho n P=>ta rho n λd1 I=>tb rho I λd2 B=>Yp d1 λa=>ZW d2 λk=>qm B a λkv=>Xh (vG k kv) λx=>P x B
def ZS(U:X.A.units+1<cLine)(ha:PD A X a ta)(hb:PD A X b tb)(hs:xh9 b):PD A X (.Subscript a b pos) (xg8 ta tb):=by
 exists (Kw U ha hb hs).imp λsg H Q h=>by
   obtain⟨rho,n,P,ds,vs,I,ht,hQ⟩:=h;refine⟨rho,n,_,ds,vs,I,ht,λv H' n' d J k=>⟨rho,n',_,d::ds,v::vs,J,k,λv2 H2 n2 x ⟨os,J2⟩ B=>?_⟩⟩;obtain⟨q,rfl,j,rfl,kv,Y,y,W,B⟩:=B;obtain⟨J3,r2⟩:=J2.pop;obtain⟨J4,r1⟩:=J3.pop;obtain⟨_,_,kvs,hp,hf⟩:=J4.cell Y;obtain⟨u,U,ru⟩:=hf.get.1 y W;rw[r1.rf_inv,r2.int_inv]
   exact⟨q,u,rfl,by rw[<- U];exact DGet.k (k:=.inl j) hp,hQ u H2 n2 y ⟨os,J4.push (Rep.reG _ _ (jC _ (zh2 Y W)) ru)⟩ B⟩
def xg5(B:Bool)(ta tb:TD):TD:=λrho n P=>ta rho n λd1 J=>tb rho J λd2 I=>ZW d1 λk=>Yp d2 λa=>qm I a λkv=>P (.bl ((vG k kv).isSome != B)) I
def zm6{B:Bool}{sg:St}{H:Hp}{Q:VK}(h:tOf A (xg5 B ta tb) sg H Q):tOp (xq2 B) (tOf A ta) (tOf A tb) sg H Q:=by
 obtain⟨rho,n,P,ds,vs,I,ht,hQ⟩:=h;refine⟨rho,n,_,ds,vs,I,ht,λv H' n' d J k=>⟨rho,n',_,d::ds,v::vs,J,k,λv2 H2 n2 x ⟨os,J2⟩ U=>?_⟩⟩;obtain⟨j,rfl,q,rfl,kv,hc,U⟩:=U;obtain⟨J3,Y⟩:=J2.pop;obtain⟨W,r1⟩:=J3.pop;obtain⟨_,_,kvs,hp,hf⟩:=W.cell hc;rw[Y.rf_inv,r1.int_inv];refine⟨q,Yu kvs (.inl j),rfl,DGet.k (k:=.inl j) hp,?_⟩;rw[hf.has];exact hQ _ H2 n2 _ ⟨os,W.push (Rep.ofS (d:=.bl _) rfl)⟩ U
def zC9(B:X.A.units+1<cLine)(ha:PD A X a ta)(I:PD A X b tb)(hm:behindInMarks .In b=false):PD A X (.Compare a [.In] [b] pos) (xg5 false ta tb):=by exists (zh8 (zD3 B) ha I hm).imp λ_ _ _=>zm6
def Kt(B:X.A.units+1<cLine)(ha:PD A X a ta)(I:PD A X b tb)(hm:behindInMarks .In b=false):PTD A X (.Compare a [.In] [b] pos) (UH (xg5 false ta tb)):=by exists (WZ (zD3 B) ha I hm).imp λ_ _ _=>Zq λ_ _ _=>zm6
def qt(B:X.A.units+1<cLine)(ha:PD A X a ta)(I:PD A X b tb)(hm:behindInMarks .NotIn b=false):PTD A X (.Compare a [.NotIn] [b] pos) (UH (xg5 true ta tb)):=by exists (WZ (zi4 B) ha I hm).imp λ_ _ _=>Zq λ_ _ _=>zm6
def zU5(ta tb te:TD):TSD:=λF rho n=>te rho n λd J=>ta rho J λx I=>tb rho I λy B=>Yp x λa=>ZW y λk=>qm B a λkv=>plD d=true/\kv.length<sizeLine/\F.nx rho (vq B a (.dic (vL k d kv)))
def qJ(hu:X.A.units+1<cLine)(ha:PD A X a ta)(hb:PD A X b tb)(he:PD A X e te)(hs:swapsWith e (some (.Subscript a b pos')) pos.line X.env=pure false:=by rfl):PSD A X (.Assign [.Subscript a b pos'] e pos) (zU5 ta tb te):=by
 exists (zg8 hu ha hb he hs).imp λE sg H h=>by
   obtain⟨rho,n,F,ds,vs,I,ht,ok⟩:=h;refine⟨rho,n,_,ds,vs,I,ht,λv H' n' d J k=>⟨rho,n',_,d::ds,v::vs,J,k,λv2 H2 n2 x J2 k2=>⟨rho,n2,_,x::d::ds,v2::v::vs,J2,k2,λv3 H3 n3 y ⟨os,J3⟩ U=>?_⟩⟩⟩;obtain⟨q,rfl,k,rfl,kv,W,hd,hl,U⟩:=U;obtain⟨J4,r3⟩:=J3.pop;obtain⟨J5,r2⟩:=J4.pop;obtain⟨B,r1⟩:=J5.pop;obtain⟨_,_,kvs,hp,Y⟩:=B.cell W;have w:=B.wok W;have pl:=ZO (k:=k) (vp W) hd;rw[r2.rf_inv,r3.int_inv]
   refine⟨q,_,rfl,DPut.k (k:=.inl k) hp (by rw[Y.length];exact hl),?_⟩
   obtain⟨os',J7,_⟩:=B.wrote (o:=.dK (XQ kvs (.inl k) v)) w pl ⟨_,yA,(w.kv pl B Y).put (w.rep pl B hd r1)⟩;exact ok.nx _ _ _ _ ⟨os',J7⟩ U
def xg0(ta tb:TD):TD:=λrho n P=>ta rho n λd1 I=>Yp d1 λa=>qm I a λ_=>tb rho I λd2 B=>ZW d2 λk=>qm B a λkv=>Xh (vG k kv) λx=>P x (vq B a (.dic (vU k kv)))
def jl{W:Pos}(ha:PD A X a ta)(hb:PD A X b tb)(m:M1 X a "pop" W b pos):PD A X (.Call (.Attribute a "pop" W) [b] [] pos) (xg0 ta tb):=by
 exists (zv7 ha hb m).imp λsg H Q h=>by
   obtain⟨rho,n,P,ds,vs,I,ht,hQ⟩:=h;refine⟨rho,n,_,ds,vs,I,ht,λv H' n' d ⟨os,J⟩ k=>?_⟩;obtain⟨q,rfl,ac,hc,k⟩:=k;obtain⟨J1,r⟩:=J.pop;obtain⟨_,_,kvs,hp,_⟩:=J1.cell hc;refine⟨q,r.rf_inv,.inl ⟨kvs,.inl hp⟩,rho,n',_,ds,vs,⟨os,J1⟩,k,λv2 H2 n2 d2 ⟨ab,J2⟩ k2=>?_⟩;obtain⟨k,rfl,kv,B,x,hx,k2⟩:=k2;obtain⟨J3,r2⟩:=J2.pop;obtain⟨_,_,U,aa,Y⟩:=J3.cell B;obtain⟨u,hu,ru⟩:=Y.get.1 x hx;have w:=J3.wok B;have pl:=Va (k:=k) (vp B);have px:=zh2 B hx;have J4:=J3.push (Rep.reG (G':=A.G) _ _ (jC _ px) ru);obtain⟨os',J5,_⟩:=J4.wrote (o:=.dK (Yd U (.inl k))) (J4.wok B) pl ⟨_,yA,((J4.wok B).kv pl J4 Y).drop⟩;exact⟨U,.inl k,u,aa,r2.int_inv,hu,hQ u _ _ x ⟨os',J5⟩ k2⟩
def xg4(t:TAD):TD:=λrho n P=>t rho n λes B=>∃a,es=[.rf a]/\qm B a λkv=>P (.int (kv.length:Int)) B
def Kx{Y:Pos}(hm:X.mg "len" = none)(ha:PAD A X [a] t1)(hg:Gl X "len" := by rfl)
  (he:starEach [a] X.env=(false,eval a X.env)::starEach [] X.env:=by rfl) (B:(backTo pos (starEach [] X.env)).any (·.1)=false:=by rfl):PD A X (.Call (.Name "len" Y) [a] [] pos) (xg4 t1):=by
 exists (Vc zq3 hg hm rfl ha w6 w6 he B).imp λsg H Q h=>by
   obtain⟨rho,n,P,ds,vs,I,ht,hQ⟩:=h;refine⟨rho,n,_,ds,vs,I,ht,λws H' n' es' ⟨os,J⟩ hl k=>?_⟩;obtain⟨q,rfl,kv,hc,k⟩:=k;obtain⟨U,W⟩:=J.split hl;obtain⟨v,rfl,r⟩:=qb W;obtain⟨_,_,kvs,hp,hf⟩:=U.cell hc;cases r.rf_inv
   exact⟨q,kvs,rfl,hp,by rw[hf.length];exact hQ _ H' n' _ ⟨os,U.push (Rep.ofS (d:=.int _) rfl)⟩ k⟩
end
@[simp] theorem xw7{rho n P}:xg3 rho n P=∀a,zW n a=none->P (.rf a) (vq n a (.dic [])):=rfl
@[simp] theorem xx0{C f t rho n P}:xg6 C f t rho n P=t rho n λd n'=>Yp d λa=>XA C n' a λfs=>Xh (kG f fs) λx=>P x n':=rfl
@[simp] theorem xs1{C f I B F rho n}:zV1 C f I B F rho n=B rho n λd U=>I rho U λx J=>Yp x λa=>XA C J a λfs=>plD d=true/\fs.length<1000/\F.nx rho (vq J a (.ins C (WY f d fs))):=rfl
@[simp] theorem zS2{C f J I F rho n}:JA C f J I F rho n=J rho n λx W=>Yp x λa=>XA C W a λfs=>Xh (kG f fs) λy=>ZW y λi=>I rho W λd U=>ZW d λj=>XA C U a λB=>B.length<1000/\F.nx rho (vq U a (.ins C (WY f (.int (i+j)) B))):=rfl
@[simp] theorem xm4{C m k t B I rho n P}:Qr C m k t B I rho n P=B rho n λd J=>Yp d λa=>XA C J a λfs=>kG m fs=none/\I rho J λes U=>es.length=k/\t (.rf a::es) U P:=rfl
@[simp] theorem xm5{C k t B rho n P}:zF1 C k t B rho n P=B rho n λes I=>es.length=k/\∀a,zW I a=none->t (.rf a::es) (vq I a (.ins C [])) λd J=>d=.non/\P (.rf a) J:=rfl
@[simp] theorem xx2{I B rho n P}:xg8 I B rho n P=I rho n λd1 U=>B rho U λd2 J=>Yp d1 λa=>ZW d2 λk=>qm J a λkv=>Xh (vG k kv) λx=>P x J:=rfl
@[simp] theorem xF2{B J I rho n P}:xg5 B J I rho n P=J rho n λd1 W=>I rho W λd2 U=>ZW d1 λk=>Yp d2 λa=>qm U a λkv=>P (.bl ((vG k kv).isSome != B)) U:=rfl
@[simp] theorem xr7{J I B F rho n}:zU5 J I B F rho n=B rho n λd Y=>J rho Y λx W=>I rho W λy U=>Yp x λa=>ZW y λk=>qm U a λkv=>plD d=true/\kv.length<sizeLine/\F.nx rho (vq U a (.dic (vL k d kv))):=rfl
@[simp] theorem xw6{I B rho n P}:xg0 I B rho n P=I rho n λd1 U=>Yp d1 λa=>qm U a λ_=>B rho U λd2 J=>ZW d2 λk=>qm J a λkv=>Xh (vG k kv) λx=>P x (vq J a (.dic (vU k kv))):=rfl
@[simp] theorem xw8{t rho n P}:xg4 t rho n P=t rho n λes B=>∃a,es=[.rf a]/\qm B a λkv=>P (.int (kv.length:Int)) B:=rfl
structure OnlyC(n n':Nat)(l:List Addr):Prop where
 k:kOf n'=kOf n
 o:∀b,b ∉ l->zW n' b=zW n b
def OnlyC.rfl'{n:Nat}{l:List Addr}:OnlyC n n l:=⟨rfl,λ_ _=>rfl⟩
def OnlyC.trans{n I B:Nat}{l r:List Addr}(h:OnlyC n I l)(g:OnlyC I B r):OnlyC n B (l++r):=⟨g.k.trans h.k,λb J=>(g.o b λz=>J (zr _ z)).trans (h.o b λz=>J (xm _ z))⟩
def OnlyC.mono{n B:Nat}{l r:List Addr}(h:OnlyC n B l)(s:∀a∈l,a∈r):OnlyC n B r:=⟨h.k,λb I=>h.o b λz=>I (s b z)⟩
def OnlyC.set{n:Nat}{a:Addr}{c:Cell}(h:plC c=true):OnlyC n (vq n a c) [a]:=⟨vh h,λb B=>by rw[ky h,if_neg (by simpa using B)]⟩
def wc{n:Nat}{a:Addr}{c:Cell}(h:plC c=true):zW (vq n a c) a=some c:=by rw[ky h,if_pos rfl]
def vb{n:Nat}{a b:Addr}{c:Cell}(h:plC c=true)(B:b≠a):zW (vq n a c) b=zW n b:=by rw[ky h,if_neg B]
def evL{α:Type}:List α->List α
 |[]=>[]
 |[x]=>[x]
 |x::_::r=>x::evL r
def odL{α:Type}:List α->List α
 |[]=>[]
 |[_]=>[]
 |_::y::r=>y::odL r
def xe8{α:Type}(o:Bool)(l:List α):List α:=if o then odL l else evL l
section
variable {X:Cx}{e st:Expr}{te:TE}{lo:Option Expr}{pos p2:Pos}
end
section
variable {A:AC}{X:Cx}{a:Expr}{ta:TD}{pos p2 p3 p4:Pos}
def xA8(o:Bool)(ta:TD):TD:=λrho n P=>ta rho n λd B=>zk0 d λfs=>P (.lst (xe8 o fs)) B
@[simp] theorem xw9{o ta rho n P}:xA8 o ta rho n P=ta rho n λd B=>zk0 d λfs=>P (.lst (xe8 o fs)) B:=rfl
end
def zt4(l:QqW):slicePick l.toArray none none (some (-1))=l.reverse.toArray:=by
 unfold slicePick;show((sliceRange ((l.toArray.size:Int)-1) (-1) (-1)).filterMap λi=>l.toArray[i]?).toArray=l.reverse.toArray
 have e:sliceRange ((l.toArray.size:Int)-1) (-1) (-1)=(List.range l.length).map fun(k:Nat)=>((l.length:Int)-1+(k:Int)*(-1)).toNat:=by
  unfold sliceRange;simp only[zE]
  have c:(if (-1:Int) > 0 then(if (l.length:Int)-1 < -1 then(-1-((l.length:Int)-1)+-1-1)/ -1 else 0) else(if (l.length:Int)-1 > -1 then((l.length:Int)-1 - -1 - -1-1)/(- -1) else 0)).toNat=l.length:=by
   rw[if_neg w6]
   simp only[Int.neg_neg,Int.ediv_one]
   split<;>lia
  rw[c]
  exact wI λk _=>by rw[Int.mul_comm]
 rw[e,filterMap_map];have:=zv2 l.toArray;simp only[zE] at this;exact this
section
variable {X:Cx}{e:Expr}{te:TE}{pos p2:Pos}
end
section
variable {A:AC}{X:Cx}{a:Expr}{ta:TD}{pos p2 p3 p4:Pos}
def lAt(d:D)(k:List D->Prop):Prop:=match d with |.lst es=>k es |_=>False
@[simp] theorem xM6{es:List D}{k:List D->Prop}:lAt (.lst es) k=k es:=rfl
def zO6{d:D}{k:List D->Prop}(h:lAt d k):∃es,d=.lst es/\k es:=by
 cases d<;>first |exact⟨_,rfl,h⟩ |exact h.elim
def xA6(ta:TD):TD:=λrho n P=>ta rho n λd B=>lAt d λfs=>P (.lst fs.reverse) B
@[simp] theorem xw5{rho:Rho}{n:Nat}{P:D->Nat->Prop}:xA6 ta rho n P=ta rho n λd B=>lAt d λfs=>P (.lst fs.reverse) B:=rfl
end
end L2
namespace L2
open PySem PySem.Spec PyProof.Rows PySem.SeqAt
abbrev NRow:=Int × List D
def NRow.d(x:NRow):D:=.tup (.int x.1::x.2)
def xc9:List D->(D->Prop)->Prop:=λes k=>∃B:List NRow,es=[.lst (B.map NRow.d)]/\B.length<900/\(B.map (·.1)).Nodup/\∀rows':List NRow,rows'.Perm B->rows'.Pairwise (λx y=>x.1<y.1)->k (.lst (rows'.map NRow.d))
def KB{X:Cx}{B:QqL}{σ:St}{H:Hp}{s:Shared}{G:QqE}{Z:QqA}(I:Inv X B σ H s){x:NRow}{v:V}{u:Value}(r:Rep X.K G Z H x.d v)(q:RelV v u):∃t rest,Srt.Tup s.heap u (.int x.1 t) rest:=by
 unfold NRow.d at r;obtain⟨a,xs,rfl,sq,U⟩:=r.tup_inv;have e:u=.ref a:=q;subst e;obtain⟨its,rv,pl,_⟩:=I.tuple sq.sq;obtain⟨z0,J,rfl,W,_⟩:=U.split;have e1:=W.int_inv;subst e1
 cases rv with
 |cons Y t0=>
  obtain⟨t,rfl⟩:=Y;exact⟨t,_,a,rfl,pl⟩
def Qu{A:AC}{X:Cx}(hK:X.K=A.K):vI A (zf5 X) xc9:=by
 rintro os n rho sg H ds vs es ws k Q I rs ⟨U,rfl,hl,ab,q⟩ hQ;obtain⟨v,rfl,r⟩:=qb rs;obtain⟨a,xs,rfl,sq,rr⟩:=r.lst_inv
 have len:xs.length=U.length:=by rw[rr.length,zh]
 have Y:∀i j,i<U.length->j<U.length->i≠j->(U.getD i (0,[])).1≠(U.getD j (0,[])).1:=λi j hi hj W e=>by
  have g:∀i (hi:i<U.length),(U.map (·.1))[i]'(by simpa using hi)=(U.getD i (0,[])).1:=λi hi=>by
   rw[List.getElem_map,xj,zn hi];rfl
  have f:=xR.mp ab
  rcases Nat.lt_or_gt_of_ne W with l |l
  ·exact f i j (by simpa using hi) (by simpa using hj) l (by rw[g i hi,g j hj,e])
  ·exact f j i (by simpa using hj) (by simpa using hi) l (by rw[g i hi,g j hj,e])
 rw[<- hK] at rr
 refine⟨a,xs,true,λi j=>decide ((U.getD i (0,[])).1<(U.getD j (0,[])).1),rfl,by rw[hK];exact sq.sq,w5,λi j hi hj W=>?_,λi j l _ _ _ h1 h2=>?_,λi hi=>?_,λi j hi hj W=>?_,λls hp hU l hl'=>?_⟩
 ·have := Y i j w5 w5 W
  dsimp only
  by_cases c:(U.getD i (0,[])).1<(U.getD j (0,[])).1
  ·rw[xN c,xf w5];rfl
  ·rw[xf c,xN w5];rfl
 ·have h1 := of_decide_eq_true h1;have h2:=of_decide_eq_true h2
  exact xN w5
 ·intro aa s σ u J ru
  obtain⟨t,rest,T⟩:=KB J (rr.getD (enc:=NRow.d) (a0:=(0,[])) w5) ru
  exact⟨_,_,T,typeIs_int s _ t⟩
 ·intro aa s σ u v J ru rv B hB
  obtain⟨t,ps,T⟩:=KB J (rr.getD (enc:=NRow.d) (a0:=(0,[])) (i:=i) w5) ru
  obtain⟨t',ps',T'⟩:=KB J (rr.getD (enc:=NRow.d) (a0:=(0,[])) (i:=j) w5) rv
  refine⟨_,_,_,_,T,T',.here ?_ ?_⟩
  ·have := EqAt.int_int (A := B) (s := s) (U.getD i (0, [])).1 t (U.getD j (0, [])).1 t'
   have e2:((U.getD i (0,[])).1 == (U.getD j (0,[])).1)=false:=by simpa using Y i j w5 w5 W
   rw[e2] at this;exact this
  ·intro prog w E Q h;exact Srt.qL _ h
 ·rw [len] at hp hU
  have ac:∀i∈ls.toList,i<U.length:=λi hi=>by
   have:=(hp.mem_iff).mp (Array.mem_toList_iff.mp hi)
   rwa [Array.mem_range] at this
  have hsz:ls.size=U.length:=by rw[hp.size_eq,yb]
  rw[hK] at rr;refine hQ _ _ _ ⟨os,I.newLst (YU (a0:=((0,[]):NRow)) rr ac) hl'⟩ (q _ ?_ ?_)
  ·have p1 : ls.toList.Perm (List.range U.length) := by
    have:=xV.mp hp
    rwa [yJ] at this
   have p2:=p1.map λi=>U.getD i (0,[])
   rwa [Ut] at p2
  ·rw [xy, xR];intro i j hi hj W
   have hi':i<ls.size:=by simpa using hi
   have hj':j<ls.size:=by simpa using hj
   have u:=hU i j W w5
   have g:∀i (hi:i<ls.size),Srt.lab ls i=ls.toList[i]'(by simpa using hi):=λi hi=>by
    refine Srt.kw ?_
    rw[<- zL,zn (by simpa using hi)]
   rw[g i hi',g j hj'] at u;exact of_decide_eq_true u
section
variable {X:Cx}{A:AC}
def JG(X:Cx):List V->Hp->VK->Prop:=λxs H Q=>∃(p:Addr) (ns:List Int),xs=[.ref p]/\SqT X.K H p (ns.map V.int)/\ns.length<2000/\∀B:List Int,B.Perm ns->B.Pairwise (·<=·)->∀l,H l=none->Q (.ref l) (upd H l (.lst (B.map V.int)))
def UN:qC X (.builtin "sorted") (JG X):=by
 intro J s σ H xs us Q I r h;obtain⟨p,ns,rfl,hq,hn,q⟩:=h
 cases r with
 |cons r W=>
  cases W;cases r;obtain⟨its,rv,pl,_⟩:=I.tuple hq
  have hsz:its.length=ns.length:=by have:=rv.length;simpa using this.symm
  refine VH (λ_ _ _ Y h=>Srt.Ja pl h Y) (jE rv) w5 λout B hi U hs=>?_
  obtain⟨e,he⟩:=sortedAll_at s.heap its out;have aa:B.length=ns.length:=U.length_eq;have hf:H (s.heap.objs.size+1)=none:=I.hok.fresh (xv _);refine⟨.ref (s.heap.objs.size+1),_,I.laid (t':=s.toks) (o:=.lst (B.map V.int)) (λb u e=>sortedAll_old e) (xv _) ?_,rfl,q B U hs _ hf⟩
  exact⟨by rw[zh];exact zF (show B.length<=2000 by lia) w6,out.toList,e,kA hi,he⟩
def zy7:List D->(D->Prop)->Prop:=λes k=>∃ns:List Int,es=[.tup (ns.map D.int)]/\ns.length<2000/\∀B:List Int,B.Perm ns->B.Pairwise (·<=·)->k (.lst (B.map D.int))
def zb4(hK:X.K=A.K):vI A (JG X) zy7:=by
 rintro os n rho sg H ds vs es ws k Q I B ⟨ns,rfl,hn,q⟩ Y;obtain⟨v,rfl,r⟩:=qb B;obtain⟨a,xs,rfl,sq,J⟩:=r.tup_inv;have e:=kq J;subst e;rw[hK.symm] at sq;exact⟨a,ns,rfl,sq.sq,hn,λU h1 h2 l W=>Y _ _ _ ⟨os,I.newLst kC W⟩ (q U h1 h2)⟩
end
end L2
namespace L2
theorem zc9:∀{xs:List V}{us:QqW},us.length=xs.length->(∀(j:Nat) (u:Value),us[j]?=some u->∃x,xs[j]?=some x/\RelV x u)->Vals xs us
 |[],[],_,_=>.nil
 |x::xs,u::us,B,h=>by
  obtain⟨y,e,r⟩:=h 0 u rfl;cases e
  exact .cons r (zc9 (by simpa using B) λj v e=>h (j+1) v e)
def zN9{P:Program}{w:World}{k:Key}{v:Value}(h:(va P w).is k v=true):RelV (kV k) v:=by
 rcases yN (k:=k) (v:=v) h with ⟨i,t,rfl,rfl⟩ |⟨x,t,rfl,rfl⟩
 ·exact⟨t,rfl⟩
 ·exact⟨t,rfl⟩
theorem zk7{κ:Type}:∀{a:List (κ × V)}{b:List (κ × Value)},KV a b->b.map (·.1)=a.map (·.1)
 |[],_,h=>by cases h;rfl
 |p::a,_,h=>by
  cases h with
  |@cons _ q _ B h1 h2=>rw[zz,zz,h1.1,zk7 h2]
section
variable {X:Cx}{A:AC}{pos p:Pos}
def Jd(hh:X.A.handled=none):qC X (.type "list") (λxs H Q=>∃a kvs,xs=[.ref a]/\H a=some (.dK kvs)/\∀l,H l=none->Q (.ref l) (upd H l (.lst (kvs.map λp=>kV p.1)))):=by
 intro aa s σ H xs us Q I r h;obtain⟨a,kvs,rfl,e,q⟩:=h;obtain⟨u,rfl,rx⟩:=YG r;cases rx;obtain⟨z,hd,vs,J,Y⟩:=KW I.hok e;obtain⟨o,es,ep,Y⟩:=Y;have hl:=J.length;have ek:=zk7 J
 refine W.kdl_call (W.kdl_dict (knd:=va _ _) (kvs:=vs) (ep:=ep) hd) hh ⟨o,es,Y⟩ (by rw[<- hl];exact z) λh' tk U c' hk hS B=>?_
 have hv:Vals (kvs.map λp=>kV p.1) U.toList:=by
  refine zc9 (by rw[zj,B.1,zh,<- hl]) λj u hj=>?_
  rw[zL] at hj;obtain⟨k,x,hx,hi⟩:=B.2 j u hj
  have e1:(vs.map (·.1))[j]?=some k:=by rw[zI,hx];rfl
  rw[ek,zI] at e1;obtain⟨y,hy,rfl⟩:=xY.mp e1
  exact⟨kV y.1,by rw[zI,hy];rfl,zN9 hi⟩
 refine⟨.ref s.heap.objs.size,_,I.laid (t':=tk) (o:=.lst (kvs.map λp=>kV p.1)) hk (zk _) ?_,rfl,q _ (I.hok.fresh (zk _))⟩
 exact⟨by rw[zh];exact z,U.toList,c',hv,by rw[Array.toArray_toList];exact hS⟩
theorem KvR.keys{K:W.Frag}{Z:QqA}{H:Hp}:∀{l:List (Int × D)}{r:List (Key × V)},KvR K Z H l r->(r.map λp=>kV p.1)=(l.map λp=>V.int p.1)
 |[],[],_=>rfl
 |p::l,q::r,h=>by rw[zz,zz,KvR.keys h.2.2,h.1];rfl
def zF2(t:TAD):TD:=λrho n P=>t rho n λes B=>∃a,es=[.rf a]/\qm B a λkv=>P (.lst (kv.map λp=>.int p.1)) B
@[simp] theorem xm6{t rho n P}:zF2 t rho n P=t rho n λes B=>∃a,es=[.rf a]/\qm B a λkv=>P (.lst (kv.map λp=>.int p.1)) B:=rfl
def JS{l:Nat}{a:Expr}{U:TAD}(hr:Room l X.A)(hm:X.mg "list" = none)(ha:PAD A X [a] U)(hg:Gl X "list" := by rfl)
  (he:starEach [a] X.env=(false,eval a X.env)::starEach [] X.env:=by rfl) (B:(backTo pos (starEach [] X.env)).any (·.1)=false:=by rfl):PD A X (.Call (.Name "list" p) [a] [] pos) (zF2 U):=by
 exists (Ud (Jd hr.hd) hg hm zR0 ha w6 w6 he B).imp λsg H Q h=>by
   obtain⟨rho,n,P,ds,vs,I,ht,hQ⟩:=h;refine⟨rho,n,_,ds,vs,I,ht,λws H' n' es' ⟨os,J⟩ hl k=>?_⟩;obtain⟨q,rfl,kv,hc,k⟩:=k;obtain⟨W,Y⟩:=J.split hl;obtain⟨v,rfl,r⟩:=qb Y;obtain⟨_,_,kvs,hp,hf⟩:=W.cell hc;cases r.rf_inv;refine⟨q,kvs,rfl,hp,λl hl'=>hQ _ _ n' _ ⟨os,?_⟩ k⟩;rw[hf.keys];refine W.newLst ?_ hl'
   have e1:(kv.map λp=>D.int p.1)=(kv.map (·.1)).map D.int:=by rw[zQ];rfl
   have e2:(kv.map λp=>V.int p.1)=(kv.map (·.1)).map V.int:=by rw[zQ];rfl
   rw[e1,e2];exact kC
end
section
variable {X:Cx}{pins:QqL}{σ:St}{H:Hp}{s:Shared}
def Inv.pin1{a:Addr}{o:Obj}(I:Inv X pins σ H s)(J:FpOk X pins H a)(U:s.heap.get? a=some o)(W:∀v,o.data≠.cell v):Inv X ((a,o)::pins) σ H s:=by
 refine⟨I.ok,I.os,I.bare,I.base,I.loc,I.cell,I.free,I.freeC,λp B=>?_,I.hok,I.len⟩
 rcases zR.mp B with B |B
 ·exact I.pin p (xm _ B)
 ·rcases zg.mp B with rfl | B
  ·exact⟨U,J.1,J.2.1,J.2.2.1,W⟩
  ·exact I.pin p (zr _ B)
def Inv.unpin{q:Addr × Obj}(I:Inv X (q::pins) σ H s):Inv X pins σ H s:=
 ⟨I.ok,I.os,I.bare,I.base,I.loc,I.cell,I.free,I.freeC,λp B=>I.pin p (by
  rcases zR.mp B with B |B
  ·exact xm _ B
  ·exact zr _ (zf _ B)),I.hok,I.len⟩
def FpOk.reH{b:Addr}{H':Hp}(h:FpOk X pins H b)(hn:H' b=none):FpOk X pins H' b:=⟨hn,h.2⟩
def FpOk.more{b:Addr}{q:Addr × Obj}(h:FpOk X pins H b)(I:q.1≠b):FpOk X (q::pins) H b:=
 ⟨h.1,h.2.1,h.2.2.1,h.2.2.2.1,h.2.2.2.2.1,λp B=>by
  rcases zR.mp B with B |B
  ·exact h.2.2.2.2.2 p (xm _ B)
  ·rcases zg.mp B with rfl | B
   ·exact I
   ·exact h.2.2.2.2.2 p (zr _ B)⟩
def Inv.pinAt{q:Addr × Obj}(I:Inv X pins σ H s)(h:q∈pins):s.heap.get? q.1=some q.2/\H q.1=none:=
 let z:=I.pin q (zr _ h);⟨z.1,z.2.1⟩
end
abbrev Wk(elt tg1 it1:Expr)(ifs1:List Expr)(tg2 it2:Expr)(ifs2:List Expr)(scope:Scope)(pos:Pos):Expr:=.ListComp elt [⟨tg1,it1,ifs1,0⟩,⟨tg2,it2,ifs2,0⟩] scope pos
def zd2(elt tg1 it1:Expr)(ifs1:List Expr)(tg2 it2:Expr)(ifs2:List Expr)(scope:Scope)(pos:Pos)(it B:Value)(env:Env) :
  compTurn (Wk elt tg1 it1 ifs1 tg2 it2 ifs2 scope pos) 0 it B env=(do
   standAt it1.pos
   match <- pyNext it with
   |none=>pure (.done .next)
   | some v =>
    letOwnedTupleGo tg1 it v
    assign tg1 env v
    let ok <- XJ ifs1 env
    if ok then
     let x <- eval it2 env
     standAt it2.pos
     let x <- foldedSetIterable it2 env x
     let _ <- runOwn (.compStart (Wk elt tg1 it1 ifs1 tg2 it2 ifs2 scope pos) 1 (<- holding [x] (pyIter x)) B env) env
    again (.compLoop (Wk elt tg1 it1 ifs1 tg2 it2 ifs2 scope pos) 0 it B env)):=by rfl
def zd1(elt tg1 it1:Expr)(ifs1:List Expr)(tg2 it2:Expr)(ifs2:List Expr)(scope:Scope)(pos:Pos)(it B:Value)(env:Env) :
  compTurn (Wk elt tg1 it1 ifs1 tg2 it2 ifs2 scope pos) 1 it B env=(do
   standAt it2.pos
   match <- pyNext it with
   |none=>pure (.done .next)
   | some v =>
    letOwnedTupleGo tg2 it v
    assign tg2 env v
    let ok <- XJ ifs2 env
    if ok then
     (do let _ <- call (.builtin "list.append") [B,<- eval elt env])
    again (.compLoop (Wk elt tg1 it1 ifs1 tg2 it2 ifs2 scope pos) 1 it B env)):=by rfl
section
variable {prog:Program}{w:World}{A:Around}{R:Result->Shared->Prop}{s:Shared}{elt tg1 it1 tg2 it2:Expr}{ifs1 ifs2:List Expr}{scope:Scope}{pos:Pos}{it acc:Value}{env:Env}
def upF{α:Type}{t:Sem α}{Q Q':α->Shared->Prop}{E:QqV}{s:Shared}(h:wpAny (model prog w) A t Q (λ_ _=>False) s)(f:∀a s,Q a s->Q' a s):wpAny (model prog w) A t Q' E s:=wY h f λ_ _ z=>False.elim z
def zb8(J:Nat->Shared->Prop)(hs:∀x,foldedSetIterable it2 env x=pure x)
  (turn : ∀ n s, J n s -> wpAny (model prog w) A (pyNext it) (λr U => match r with
   |none=>R (.ok .next) U
   | some v => wpAny (model prog w) A (letOwnedTupleGo tg1 it v) (λ_ s2 => wpAny (model prog w) A (assign tg1 env v) (λ_ s3 => wpAny (model prog w) A (XJ ifs1 env) (λok I =>
     if ok=true then wpAny (model prog w) A (eval it2 env) (λx s5=>wpAny (model prog w) A (pyIter x) (λB Y=>codeAny (model prog w) A (.compStart (Wk elt tg1 it1 ifs1 tg2 it2 ifs2 scope pos) 1 B acc env) (λr W=>(∃f,r=.ok f)/\∃m,m<n/\J m W) Y) (λ_ _=>False) s5) (λ_ _=>False) I
     else ∃m,m<n/\J m I) (λ_ _=>False) s3) (λ_ _=>False) s2) (λ_ _=>False) U) (λ_ _=>False) s)
  (n:Nat) (h:J n s):codeAny (model prog w) A (.compLoop (Wk elt tg1 it1 ifs1 tg2 it2 ifs2 scope pos) 0 it acc env) R s:=by
 refine codeAny_loop rfl J (λn s hJ=>?_) n h
 show wpAny _ A ((compTurn (Wk elt tg1 it1 ifs1 tg2 it2 ifs2 scope pos) 0 it acc env).onRaise (λx=>do noteFrame x env;theTreesLotGoes x)) _ _ s
 refine wpAny_noted ?_;rw[zd2];refine zb (wg (zb (upF (turn n s hJ) λr U h1=>?_)))
 cases r with
 |none=>exact ze h1
 | some v =>
  refine zb (upF h1 λ_ s2 h2=>?_);refine zb (upF h2 λ_ s3 h3=>?_);refine zb (upF h3 λok I h4=>?_)
  cases ok with
  |false=>exact ze ⟨rfl,h4⟩
  |true=>
   refine zb (upF h4 λx s5 h5=>?_);refine zb (wg (zb (wpAny_of_eq (hs x) ?_)));refine zb (wh (upF h5 λB Y h6=>?_));refine zb (wpAny_runOwn (codeAny_mono (show codeAny (model prog w) (A.mark none) _ _ _ from h6) λr W h7=>?_));obtain⟨⟨f,rfl⟩,h7⟩:=h7;exact ze ⟨rfl,h7⟩
def zb7(J:Nat->Shared->Prop)
  (turn : ∀ n s, J n s -> wpAny (model prog w) A (pyNext it) (λr I => match r with
   |none=>R (.ok .next) I
   | some v => wpAny (model prog w) A (letOwnedTupleGo tg2 it v) (λ_ s2 => wpAny (model prog w) A (assign tg2 env v) (λ_ Y => wpAny (model prog w) A (XJ ifs2 env) (λok B =>
     if ok=true then wpAny (model prog w) A (eval elt env) (λx W=>wpAny (model prog w) A (call (.builtin "list.append") [acc,x]) (λ_ U=>∃m,m<n/\J m U) (λ_ _=>False) W) (λ_ _=>False) B
     else ∃m,m<n/\J m B) (λ_ _=>False) Y) (λ_ _=>False) s2) (λ_ _=>False) I) (λ_ _=>False) s)
  (n:Nat) (h:J n s):codeAny (model prog w) A (.compLoop (Wk elt tg1 it1 ifs1 tg2 it2 ifs2 scope pos) 1 it acc env) R s:=by
 refine codeAny_loop rfl J (λn s hJ=>?_) n h
 show wpAny _ A ((compTurn (Wk elt tg1 it1 ifs1 tg2 it2 ifs2 scope pos) 1 it acc env).onRaise (λx=>do noteFrame x env;theTreesLotGoes x)) _ _ s
 refine wpAny_noted ?_;rw[zd1];refine zb (wg (zb (upF (turn n s hJ) λr I h1=>?_)))
 cases r with
 |none=>exact ze h1
 |some v=>
  refine zb (upF h1 λ_ s2 h2=>?_);refine zb (upF h2 λ_ Y h3=>?_);refine zb (upF h3 λok B h4=>?_)
  cases ok with
  |false=>exact ze ⟨rfl,h4⟩
  |true=>exact zb (zb (upF h4 λx W h5=>zb (upF h5 λ_ U h6=>ze (ze ⟨rfl,h6⟩))))
def VF{d:Nat}(hd:d=0\/d=1)
  (B:codeAny (model prog w) A (.compLoop (Wk elt tg1 it1 ifs1 tg2 it2 ifs2 scope pos) d it acc env) R s)
  (h:wpAny (model prog w) A (pyIter it) (λit' s'=>codeAny (model prog w) A (.compLoop (Wk elt tg1 it1 ifs1 tg2 it2 ifs2 scope pos) d it' acc env) R s') (λ_ _=>False) s) :
  codeAny (model prog w) A (.compStart (Wk elt tg1 it1 ifs1 tg2 it2 ifs2 scope pos) d it acc env) R s:=by
 refine codeAny_of_tree ?_
 show wpAny _ _ ((compStart (Wk elt tg1 it1 ifs1 tg2 it2 ifs2 scope pos) d it acc env).onRaise (λx=>do noteFrame x env;standAt theWindowsPlace)) _ _ s
 refine wpAny_notedAt ?_;unfold compStart
 rcases hd with rfl |rfl
 ·show wpAny _ _ (ask >>= _) _ _ s;refine zb (wpAny_askSetting (wpAny_ite ?_))
  split
  ·first
    |exact zb (ze (ze ⟨rfl,B⟩))
    |exact ze ⟨rfl,B⟩
  ·refine zb (wz ?_);show wpAny _ _ (standAt it1.pos >>= _) _ _ s;exact zb (wg (zb (upF h λit' s' h'=>ze ⟨rfl,h'⟩)))
 ·show wpAny _ _ (ask >>= _) _ _ s;refine zb (wpAny_askSetting (wpAny_ite ?_))
  split
  ·first
    |exact zb (ze (ze ⟨rfl,B⟩))
    |exact ze ⟨rfl,B⟩
  ·refine zb (wz ?_);show wpAny _ _ (standAt it2.pos >>= _) _ _ s;exact zb (wg (zb (upF h λit' s' h'=>ze ⟨rfl,h'⟩)))
end
def UY(σ σ':St):Prop:=∀(j:Nat) (v:V),σ[j]?=some (some v)->σ'[j]?=some (some v)
section
variable {X':Cx}{P5:QqL}{σ6:St}{H8:Hp}{s8:Shared}{elt tg1 it1 tg2 it2:Expr}{ifs1 ifs2:List Expr}{scope:Scope}{pos:Pos}{g2:TG}{tt2:TT}{te:TE}
def Jq(U:It)(g2:TG)(tt2:TT)(te:TE)(Y:List V->St->Hp->Prop)(J:Nat->Nat->List V->St->Hp->Prop):Prop:=∀i n B σ H,J i n B σ H ->
 (U.stop i H /\ Y B σ H) \/ (U.go i H /\ B.length < sizeLine /\ ∀ y W, U.yld i H y W -> g2 y σ W λI H7 => tt2 I H7 λc H8 =>
  if c=true then te I H8 λv H9=>∃n',n'<n/\J (i+1) n' (B++[v]) I H9 else ∃n',n'<n/\J (i+1) n' B I H8)
def za7(xc:X'.calm=true)(xe:X'.xe=λ_ _=>False)(gg:PG X' tg2 g2)(gt:PTs X' ifs2 tt2)(ge:PE X' elt te){D:Addr}{its:QqW}{k:Nat}{B:List V}(I:Inv X' P5 σ6 H8 s8)(hD:H8 D=none)(ad:s8.heap.get? D=some { cls:=.type "list",data:=.seq its.toArray k })(rv:Vals B its)
  (dL:D≠X'.env.locals) (dF:D ∉ X'.fs) (dS:D∈X'.ex\/X'.s₀.heap.objs.size<=D) (dC:∀x c,X'.env.cells.lookup x=some c->c≠D) (dP:∀p∈X'.pn++P5,p.1≠D)
  {it:Addr}{U:List Addr}{tn:Nat->Heap->Prop}{J2:It} (T:Turn X'.prog X'.w X'.K tg2 J2 U it tn) (st:tn 0 s8.heap) (f:∀b∈U,FpOk X' P5 H8 b) (ag:D ∉ U) {W2:Nat->Nat->List V->St->Hp->Prop} (w0:∃n,W2 0 n B σ6 H8) {Qs:List V->St->Hp->Prop} (aa:Jq J2 g2 tt2 te Qs W2) :
  codeAny (model X'.prog X'.w) X'.A (.compLoop (Wk elt tg1 it1 ifs1 tg2 it2 ifs2 scope pos) 1 (.ref it) (.ref D) X'.env)
   (λr s'=>(∃f,r=.ok f)/\∃σ' W its' k' H',Inv X' P5 σ' H' s'/\H' D=none/\s'.heap.get? D=some { cls:=.type "list",data:=.seq (List.toArray its') k' }/\Vals W its'/\Qs W σ' H') s8:=by
 obtain⟨n0,w0⟩:=w0
 refine zb7 (λn s'=>∃i B σ' H' its k,Inv X' P5 σ' H' s'/\tn i s'.heap/\(∀b∈U,H' b=none)/\H' D=none /\
   s'.heap.get? D=some { cls:=.type "list",data:=.seq (List.toArray its) k }/\Vals B its/\W2 i n B σ' H') ?_ n0 ⟨0,B,σ6,H8,its,k,I,st,λb J=>(f b J).1,hD,ad,rv,w0⟩
 rintro n s3 ⟨i,B,σ3,H3,its,k,I3,ae,af,hD,ad,rv,w3⟩
 have nc:∀(xs:Array Value) (m:Nat) (v:Option Value),({ cls:=.type "list",data:=.seq xs m }:Obj).data≠.cell v:=λ_ _ _ z=>by cases z
 have fD:FpOk X' P5 H3 D:=⟨hD,dL,dF,dS,dC,dP⟩;have I3':=I3.pin1 fD ad (nc _ _)
 have ff:∀{H:Hp},(∀b∈U,H b=none)->∀b∈U,FpOk X' ((D,{ cls:=.type "list",data:=.seq (List.toArray its) k })::P5) H b:=λ{H} hn b J=>((f b J).reH (hn b J)).more fun(z:D=b)=>ag (by rw[z];exact J)
 rcases aa i n B σ3 H3 w3 with ⟨stop,q⟩ |⟨go,hsz,step⟩
 ·refine thn (T.done X' rfl rfl rfl xc i _ s3 σ3 H3 (λ_ _=>False) I3' (ff af) ae stop) λr s4 ⟨hr,I5⟩=>?_;subst hr;exact⟨⟨_,rfl⟩,σ3,B,its,k,H3,I5.unpin,hD,(I5.pinAt (.head _)).1,rv,q⟩
 ·refine thn (T.item X' rfl rfl rfl xc i _ s3 σ3 H3 (λ_ _ => False) I3' (ff af) ae go) λr s4 ⟨u, hr, h4⟩ => ?_;subst hr;refine thn h4 λ_ s5 ⟨y,H5,I5,r5,y5,ab,ah⟩=>?_;have ai:=I5.pinned (ff ah) (T.obj _ _ ab);have a1:=gg _ s5 _ H5 y u _ ai r5 (step y H5 y5);rw[xe] at a1;refine thn a1 λ_ s6 ⟨Y,H6,I6,q6⟩=>?_;have a2:=gt _ s6 Y H6 _ I6 q6;rw[xe] at a2;refine thn a2 λb s7 ⟨H7,I7,q7⟩=>?_
  have back:∀{H:Hp}{s:Shared},Inv X' (((D,{ cls:=.type "list",data:=.seq (List.toArray its) k })::P5)++qX U s5.heap) Y H s ->
    (tn (i+1) s.heap/\(∀b∈U,H b=none)/\H D=none/\s.heap.get? D=some { cls:=.type "list",data:=.seq (List.toArray its) k }/\Inv X' P5 Y H s):=λ{H s} I=>by
   refine⟨T.keep _ _ _ ab λb J o e=>(I.pinAt (zr _ (vE J e))).1,λb J=>?_,(I.pinAt (q:=(D,_)) (xm _ (.head _))).2,(I.pinAt (q:=(D,_)) (xm _ (.head _))).1,I.pins_of λp hp=>?_⟩
   ·obtain⟨o,e,d⟩:=T.obj _ _ ab b J;exact(I.pinAt (q:=(b,o)) (zr _ (vE J e))).2
   ·exact I.pin p (zr _ (xm _ (.tail _ hp)))
  cases b with
  |false=>
   obtain⟨p1,p2,p3,p4,p5⟩:=back I7;obtain⟨m',hm,w7⟩:=q7;exact⟨m',hm,i+1,B,Y,H7,its,k,p5,p1,p2,p3,p4,rv,w7⟩
  |true=>
   rw[if_pos rfl] at q7 ⊢;have a3:=ge _ s7 Y H7 _ I7 q7;rw[xe] at a3;refine thn a3 λz s8 ⟨v,H8,I8,r8,q8⟩=>?_;obtain⟨p1,p2,p3,p4,p5⟩:=back I8;obtain⟨m',hm,w8⟩:=q8;have hl:=rv.length
   refine wpAny_list_append_plain (items:=List.toArray its) ⟨k,p4⟩ (λh' ac hs=>?_) (by simp;lia)
   obtain⟨k',ac⟩:=ac;have I9:Inv X' P5 Y H8 { s8 with heap:=h' }:=p5.turned (t':=s8.toks) (λb o J e=>hs.extBut b o J e) p3 dL dS dC dP
   refine⟨m',hm,i+1,B++[v],Y,H8,its++[z],k',I9,T.keep _ _ _ p1 λb J o e=>hs.extBut b o (λz=>ag (by rw[<- z];exact J)) e,p2,p3,?_,rv.append (.cons r8 .nil),w8⟩
   rw[ac];simp
end
def zB3(wi:TI)(own:Nat)(g1:TG)(ab:TT)(Y:TI)(g2:TG)(aa:TT)(te:TE):TE:=λσ H Q=>wi σ H λJ H1=>∃W:Nat->Nat->List V->Hp->Prop,(∃m,W 0 m [] H1)/\∀i m B H,W i m B H ->
 (J.stop i H/\B.length<=sizeLine/\∀D,H D=none->Q (.ref D) (upd H D (.lst B))) \/
 (J.go i H /\ ∀ x H', J.yld i H x H' -> g1 x (List.replicate own none ++ σ) H' λU H2 => UY (List.replicate own none ++ σ) U /\ ab U H2 λc H3 =>
  if c=true then Y U H3 λJ2 H4=>∃W2:Nat->Nat->List V->St->Hp->Prop,(∃n,W2 0 n B U H4)/\Jq J2 g2 aa te (λI σ5 H5=>UY (replicate own none++σ) σ5/\∃m',m'<m/\W (i+1) m' I H5) W2
  else ∃m',m'<m/\W (i+1) m' B H3)
section
variable {X:Cx}{scope:Scope}{own M:List Str}{pins:QqL}{σ:St}{H2:Hp}{s2:Shared}{elt tg1 it1 tg2 it2:Expr}{ifs1 ifs2:List Expr}{pos:Pos}{g1 g2:TG}{tt1 tt2:TT}{te:TE}{wi2:TI}
def zb9(ok:CompOk X scope M)(hc:X.calm=true)(hg:∀C s2 H2 U,PG (wn X scope own M C s2 H2 U) tg1 g1)(ht:∀C s2 H2 U,PTs (wn X scope own M C s2 H2 U) ifs1 tt1)(aK:∀C s2 H2 U,PI (wn X scope own M C s2 H2 U) tg2 it2 wi2)
  (aL:∀C s2 H2 U,PG (wn X scope own M C s2 H2 U) tg2 g2) (aH:∀C s2 H2 U,PTs (wn X scope own M C s2 H2 U) ifs2 tt2) (he:∀C s2 H2 U,PE (wn X scope own M C s2 H2 U) elt te) (aI:∀C s2 H2 U x,foldedSetIterable it2 (wn X scope own M C s2 H2 U).env x=pure x)
  (I2:Inv X pins σ H2 s2) {it:Addr}{U:List Addr}{tn:Nat->Heap->Prop}{J:It} (T:Turn X.prog X.w X.K tg1 J U it tn) (aw:tn 0 s2.heap) (f2:∀b∈U,FpOk X pins H2 b)
  {W:Nat->Nat->List V->Hp->Prop} (w0:∃m,W 0 m [] H2) {Qf:V->Hp->Prop}
  (turn : ∀ i m B H, W i m B H -> (J.stop i H /\ B.length <= sizeLine /\ ∀ D, H D = none -> Qf (.ref D) (upd H D (.lst B))) \/
   (J.go i H /\ ∀ x H', J.yld i H x H' -> g1 x (List.replicate own.length none ++ σ) H' λσ2 H2 => UY (List.replicate own.length none ++ σ) σ2 /\ tt1 σ2 H2 λc H3 =>
    if c=true then wi2 σ2 H3 λJ2 H4=>∃W2:Nat->Nat->List V->St->Hp->Prop,(∃n,W2 0 n B σ2 H4)/\Jq J2 g2 tt2 te (λac σ5 H5=>UY (replicate own.length none++σ) σ5/\∃m',m'<m/\W (i+1) m' ac H5) W2
    else ∃m',m'<m/\W (i+1) m' B H3))
  {RR:Value->Addr->Result->Shared->Prop}{E:QqV}
  (fin:∀D C H' s' m,Inv X pins σ H' s'->Qf (.ref D) H'->s'.heap.Ns C m->H' C=none->C≠X.env.locals->X.s₀.heap.objs.size<=C->(∀x c,X.env.cells.lookup x=some c->c≠C)->(∀p∈X.pn++pins,p.1≠C)->RR (.ref D) C (.ok .next) s') :
  wpAny (model X.prog X.w) X.A (newList []) (λB s3=>wpAny (model X.prog X.w) X.A (newFunctionEnv scope X.env.globals (qc X.env scope.names []) [] X.env.qual none .none (some X.env)) (λah s4=>
   codeAny (model X.prog X.w) X.A (.compStart (Wk elt tg1 it1 ifs1 tg2 it2 ifs2 scope pos) 0 (.ref it) B { ah with scope:=relabel scope X.env }) (RR B ah.locals) s4) E s3) E s2:=by
 refine xU (Zd ?_);have zC:(s2.heap.push { cls:=.type "list",dict:=none,data:=.seq ([]:QqW).toArray }).objs.size=s2.heap.objs.size+1:=xT ..;dsimp only;rw[zC];generalize hC:s2.heap.objs.size+1=C;generalize hh:pushCells ((s2.heap.push { cls:=.type "list",dict:=none,data:=.seq ([]:QqW).toArray }).push { cls:=.type "dict",data:=.dict #[] }) scope.names=h4
 have aB:∀b∈U,FpOk X pins H2 b/\b<s2.heap.objs.size:=λb Y=>by
  obtain⟨o,e,_⟩:=T.obj 0 _ aw b Y;exact⟨f2 b Y,zy e⟩
 have I4:Inv (wn X scope own M C s2 H2 U) [] (replicate own.length none++σ) H2 { s2 with heap:=h4 }:=Qa ok hc I2 aB hC.symm hh.symm;generalize hX:wn X scope own M C s2 H2 U=X' at I4
 have ak:∀b o,s2.heap.get? b=some o->h4.get? b=some o:=λb o e=>by
  rw[<- hh];exact pushCells_keeps _ _ _ _ (zd _ (zd _ e))
 have az:h4.get? s2.heap.objs.size=some { cls:=.type "list",dict:=none,data:=.seq ([]:QqW).toArray }:=by
  rw[<- hh];exact pushCells_keeps _ _ _ _ (zd _ (zu _ rfl))
 have ar:tn 0 h4:=T.keep _ _ _ aw λb Y o e=>ak b o e
 have gg:PG X' tg1 g1:=by rw[<- hX];exact hg C s2 H2 U
 have gt:PTs X' ifs1 tt1:=by rw[<- hX];exact ht C s2 H2 U
 have gi:PI X' tg2 it2 wi2:=by rw[<- hX];exact aK C s2 H2 U
 have aP:PG X' tg2 g2:=by rw[<- hX];exact aL C s2 H2 U
 have aO:PTs X' ifs2 tt2:=by rw[<- hX];exact aH C s2 H2 U
 have ge:PE X' elt te:=by rw[<- hX];exact he C s2 H2 U
 have gs:∀x,foldedSetIterable it2 X'.env x=pure x:=by rw[<- hX];exact aI C s2 H2 U
 have xP:X'.prog=X.prog:=by rw[<- hX];rfl
 have xw:X'.w=X.w:=by rw[<- hX];rfl
 have xK:X'.K=X.K:=by rw[<- hX];rfl
 have xA:X'.A=X.A:=by rw[<- hX];rfl
 have xc:X'.calm=true:=by rw[<- hX];exact hc
 have ai:X'.pn=[]:=by rw[<- hX];rfl
 have xs:X'.s₀=s2:=by rw[<- hX];rfl
 have xH:X'.H₀=H2:=by rw[<- hX];rfl
 have xL:X'.env.locals=C:=by rw[<- hX];rfl
 have aG:X'.fs=frs X.stack:=by rw[<- hX];rfl
 have aa:X'.ex=U:=by rw[<- hX];rfl
 have xe:X'.xe=λ_ _=>False:=by rw[<- hX];rfl
 have ao:({ newEnv scope C X.env.globals (cellsFrom (C+1) scope.names (qc X.env scope.names [])) X.env.qual none .none (some X.env) builtinsNs with scope:=relabel scope X.env }:Env)=X'.env:=by rw[<- hX];rfl
 have aD:s2.heap.objs.size<C:=by rw[<- hC];exact yu _
 have am:∀{pl:QqL}{H:Hp},(∀b∈U,H b=none)->(∀p∈pl,p.1 ∉ U)->∀b∈U,FpOk X' pl H b:=λ{pl H} hn aJ b Y=>by
  refine⟨hn b Y,(I4.ok.exf b (by rw[aa];exact Y)).1,I4.ok.exfs b (by rw[aa];exact Y),.inl (by rw[aa];exact Y),λx c e=>(I4.ok.exf b (by rw[aa];exact Y)).2 x c e,λp hp z=>?_⟩
  rw[ai,xg] at hp
  exact aJ p hp (by rw[z];exact Y)
 have aF:s2.heap.objs.size ∉ U:=λz=>xD _ (aB _ z).2;have DC:s2.heap.objs.size≠C:=zJ aD
 have ad:∀x c,X'.env.cells.lookup x=some c->c≠s2.heap.objs.size:=λx c e z=>by
  obtain⟨v,o,q,hd⟩:=I4.cell x c e;rw[z] at q;have q':h4.get? s2.heap.objs.size=some o:=q;rw[az] at q';cases q';cases hd
 have aE:s2.heap.objs.size ∉ X'.fs:=λz=>by
  obtain⟨_,o,ho,_⟩:=I4.ok.funs.mem (by exact z)
  rw[xs] at ho;exact xD _ (zy ho)
 have nc:∀(xs:Array Value) (m:Nat) (v:Option Value),({ cls:=.type "list",data:=.seq xs m }:Obj).data≠.cell v:=λ_ _ _ z=>by cases z
 have dL:s2.heap.objs.size≠X'.env.locals:=by rw[xL];exact DC
 have dS:s2.heap.objs.size∈X'.ex\/X'.s₀.heap.objs.size<=s2.heap.objs.size:=.inr (by rw[xs];exact zk _)
 rw[ao]
 have ag:∀s5:Shared,s5={ s2 with heap:=h4 }->codeAny (model X.prog X.w) X.A (.compLoop (Wk elt tg1 it1 ifs1 tg2 it2 ifs2 scope pos) 0 (.ref it) (.ref s2.heap.objs.size) X'.env) (RR (.ref s2.heap.objs.size) C) s5:=by
  rintro s5 rfl;obtain⟨m0,w0⟩:=w0
  refine zb8 (λn s'=>∃i B σ' H' its k,Inv X' [] σ' H' s'/\UY (replicate own.length none++σ) σ'/\tn i s'.heap/\(∀b∈U,H' b=none)/\H' s2.heap.objs.size=none /\
   s'.heap.get? s2.heap.objs.size=some { cls:=.type "list",data:=.seq (List.toArray its) k }/\Vals B its/\W i n B H') gs ?_ m0
   ⟨0,[],_,H2,[],0,I4,(λ_ _ e=>e),ar,λb Y=>(f2 b Y).1,I2.hok.fresh (zk _),az,.nil,w0⟩
  rintro n s3 ⟨i,B,σ3,H3,its,k,I3,hσ,av,aA,hD,aM,rv,w3⟩
  have fD:∀{H:Hp},H s2.heap.objs.size=none->FpOk X' [] H s2.heap.objs.size:=λhn=>⟨hn,dL,aE,dS,ad,λp hp=>by rw[ai] at hp;simp at hp⟩
  have plD:∀p∈[((s2.heap.objs.size,{ cls:=.type "list",data:=.seq (List.toArray its) k }):Addr × Obj)],p.1 ∉ U:=λp hp=>by
   have e:p=(s2.heap.objs.size,{ cls:=.type "list",data:=.seq (List.toArray its) k }):=by simpa using hp
   subst e;exact aF
  have I3':=I3.pin1 (fD hD) aM (nc _ _)
  rcases turn i n B H3 w3 with ⟨stop,hsz,q⟩ |⟨go,step⟩
  ·have := T.done X' xP xw xK xc i _ s3 σ3 H3 (λ_ _ => False) I3' (am aA plD) av stop;rw[xA] at this;refine thn this λr s4 ⟨hr,I5⟩=>?_;subst hr;have ay:=(I5.pinAt (.head _)).1
   have un:Un (frs X.stack) U H2 H3 s2.heap s4.heap:=by
    have:=I5.base;rw[aG,aa,xH,xs] at this;exact this
   have os:s4.os=s2.os:=by rw[I5.os,xs]
   have hok:HOk X.prog X.w H3 s4.heap:=by have:=I5.hok;rw[xP,xw] at this;exact this
   have IX:Inv X pins σ H3 s4:=I2.call' os un hok I5.bare λb Y=>by
    obtain⟨_,f1,_,f3,f4,f5⟩:=f2 b Y;exact⟨f3,f1,f4,f5⟩
   have old:∀{b:Addr},s2.heap.objs.size<=b->(X.s₀.heap.objs.size<=b/\b≠X.env.locals/\(∀x c,X.env.cells.lookup x=some c->c≠b)/\∀p∈X.pn++pins,p.1≠b):=λ{b} Y=>by
    obtain⟨_,f1,_,f3,f4,f5⟩:=I2.fpOk (H':=λ_=>none) Y rfl;exact⟨zF I2.sz Y,f1,f4,f5⟩
   obtain⟨d1,d2,d3,d4⟩:=old (zk s2.heap.objs.size);obtain⟨c1,c2,c3,c4⟩:=old (b:=C) (xG aD);have IY:Inv X pins σ (upd H3 s2.heap.objs.size (.lst B)) s4:=IX.track hD d1 d2 d3 d4 ⟨hsz,its,k,rv,ay⟩;obtain⟨m,hm,_⟩:=I5.loc;rw[xL] at hm
   have aN:H3 C=none:=by have:=I5.free;rw[xL] at this;exact this
   exact fin _ C _ s4 m IY (q _ hD) hm (by rw[wB (Ne.symm DC)];exact aN) c2 c1 c3 c4
  ·have := T.item X' xP xw xK xc i _ s3 σ3 H3 (λ_ _ => False) I3' (am aA plD) av go;rw[xA] at this;refine thn this λr s4 ⟨u,hr,h4⟩=>?_;subst hr;refine thn h4 λ_ s5 ⟨x,H5,I5,r5,y5,aj,aQ⟩=>?_;have aR:=I5.weak (σ':=replicate own.length none++σ) (I4.len.trans I5.len.symm) hσ;have aS:=aR.pinned (am aQ plD) (T.obj _ _ aj);have a1:=gg _ s5 _ H5 x u _ aS r5 (step x H5 y5);rw[xP,xw,xA,xe] at a1;refine thn a1 λ_ s6 ⟨σ6,H6,I6,d6,q6⟩=>?_;have a2:=gt _ s6 σ6 H6 _ I6 q6;rw[xP,xw,xA,xe] at a2;refine thn a2 λb s7 ⟨H7,I7,q7⟩=>?_
   have outer:∀{H:Hp}{s:Shared}{σ7:St},Inv X' (qX U s5.heap) σ7 H s->(tn (i+1) s.heap/\(∀b∈U,H b=none)/\Inv X' [] σ7 H s):=λ{H s σ7} I=>by
    refine⟨T.keep _ _ _ aj λb Y o e=>(I.pinAt (vE Y e)).1,λb Y=>?_,I.pins_of λp hp=>by simp at hp⟩
    obtain⟨o,e,d⟩:=T.obj _ _ aj b Y;exact(I.pinAt (q:=(b,o)) (vE Y e)).2
   have ab:∀{H:Hp}{s:Shared}{σ7:St},Inv X' ([((s2.heap.objs.size,{ cls:=.type "list",data:=.seq (List.toArray its) k }):Addr × Obj)]++qX U s5.heap) σ7 H s->Inv X' (qX U s5.heap) σ7 H s/\H s2.heap.objs.size=none/\s.heap.get? s2.heap.objs.size=some { cls:=.type "list",data:=.seq (List.toArray its) k }:=λ{H s σ7} I=>
    ⟨I.pins_of λp hp=>I.pin p (zr _ (zr _ hp)),(I.pinAt (q:=(s2.heap.objs.size,_)) (xm _ (.head _))).2,(I.pinAt (q:=(s2.heap.objs.size,_)) (xm _ (.head _))).1⟩
   cases b with
   |false=>
    obtain⟨e1,e2,e3⟩:=ab I7;obtain⟨p1,p2,p5⟩:=outer e1;obtain⟨m',hm,w7⟩:=q7;exact⟨m',hm,i+1,B,σ6,H7,its,k,p5,d6,p1,p2,e2,e3,rv,w7⟩
   | true =>
    rw[if_pos rfl] at q7 ⊢;have a3:=gi _ s7 σ6 H7 _ I7 q7;rw[xP,xw,xA,xe] at a3;refine thn a3 λv s8 h8=>thn h8 λaU s9 h9=>?_;obtain⟨ax,aC,aT,J2,H9,e9,I9,T2,aq,f9,W2,w9,ae⟩:=h9;subst e9;obtain⟨e1,e2,e3⟩:=ab I9;have D2:s2.heap.objs.size ∉ aC:=λz=>(f9 _ z).2.2.2.2.2 (s2.heap.objs.size,_) (zr _ (xm _ (.head _))) rfl
    have f9':∀b∈aC,FpOk X' (qX U s5.heap) H9 b:=λb Y=>by
     obtain⟨z1,z2,z3,z4,z5,z6⟩:=f9 b Y;refine⟨z1,z2,z3,z4,z5,λp hp=>z6 p ?_⟩
     rcases zR.mp hp with hp |hp
     ·exact xm _ hp
     ·exact zr _ (zr _ hp)
    have dP:∀p∈X'.pn++qX U s5.heap,p.1≠s2.heap.objs.size:=λp hp z=>by
     rw[ai,xg] at hp
     exact aF (by rw[<- z];exact(Uk hp).1)
    have run:=za7 (tg1:=tg1) (it1:=it1) (it2:=it2) (ifs1:=ifs1) (scope:=scope) (pos:=pos) xc xe aP aO ge e1 e2 e3 rv dL aE dS ad dP T2 aq f9' D2 w9 ae;rw[xP,xw,xA] at run
    have af:codeAny (model X.prog X.w) X.A (.compLoop (Wk elt tg1 it1 ifs1 tg2 it2 ifs2 scope pos) 1 (.ref ax) (.ref s2.heap.objs.size) X'.env) (λr s7=>(∃f,r=.ok f)/\∃m,m<n/\∃i B σ' H' its k,Inv X' [] σ' H' s7/\UY (replicate own.length none++σ) σ'/\tn i s7.heap/\(∀b∈U,H' b=none)/\H' s2.heap.objs.size=none /\
      s7.heap.get? s2.heap.objs.size=some { cls:=.type "list",data:=.seq (List.toArray its) k }/\Vals B its/\W i m B H') s9:=codeAny_mono run λr s' hq=>by
     obtain⟨hr,σ',ac,its',k',H',I',k2,k3,k4,k1,m',hm,w'⟩:=hq;obtain⟨p1,p2,p5⟩:=outer I';exact⟨hr,m',hm,i+1,ac,σ',H',its',k',p5,k1,p1,p2,k2,k3,k4,w'⟩
    refine VF (.inr rfl) af ?_
    have self:=T2.self X.A 0 s9 (λit' s'=>codeAny (model X.prog X.w) X.A (.compLoop (Wk elt tg1 it1 ifs1 tg2 it2 ifs2 scope pos) 1 it' (.ref s2.heap.objs.size) X'.env) (λr s7=>(∃f,r=.ok f)/\∃m,m<n/\∃i B σ' H' its k,Inv X' [] σ' H' s7/\UY (replicate own.length none++σ) σ'/\tn i s7.heap/\(∀b∈U,H' b=none)/\H' s2.heap.objs.size=none /\
      s7.heap.get? s2.heap.objs.size=some { cls:=.type "list",data:=.seq (List.toArray its) k }/\Vals B its/\W i m B H') s') (λ_ _=>False) aq af
    rw[xP,xw] at self;exact self
 exact VF (.inl rfl) (ag _ rfl) (T.self _ 0 _ _ _ ar (ag _ rfl))
def zw0{wi:TI}(ok:CompOk X scope M)(hc:X.calm=true)(hi:PI X tg1 it1 wi)(hg:∀C s2 H2 B,PG (wn X scope own M C s2 H2 B) tg1 g1)(ht:∀C s2 H2 B,PTs (wn X scope own M C s2 H2 B) ifs1 tt1)(ab:∀C s2 H2 B,PI (wn X scope own M C s2 H2 B) tg2 it2 wi2)
  (ac:∀C s2 H2 B,PG (wn X scope own M C s2 H2 B) tg2 g2) (Y:∀C s2 H2 B,PTs (wn X scope own M C s2 H2 B) ifs2 tt2) (he:∀C s2 H2 B,PE (wn X scope own M C s2 H2 B) elt te)
  (hs:∀x,foldedSetIterable it1 X.env x=pure x:=by intro _;rfl) (aa:∀C s2 H2 B x,foldedSetIterable it2 (wn X scope own M C s2 H2 B).env x=pure x:=by intros;rfl) :
  PE X (Wk elt tg1 it1 ifs1 tg2 it2 ifs2 scope pos) (zB3 wi own.length g1 tt1 wi2 g2 tt2 te):=by
 intro pins s σ H Q I h;rw[eval_ListComp]
 refine yl (use:=none) rfl hs (YF (ok.cells I)) ok.kind (λx hx hl=>by rw[ok.uniq x hx,hl]) ?_
 refine thn (hi pins s σ H _ I h) λv s1 h1=>thn h1 λae s2 h2=>?_;obtain⟨it,B,tn,J,H2,e,I2,T,U,f2,W,w0,turn⟩:=h2;subst e;refine zb9 (Qf:=Q) ok hc hg ht ab ac Y he aa I2 T U f2 w0 turn λD C H' s' m IY q hm ad c2 c1 c3 c4=>⟨m,hm,λh' hs'=>?_⟩;exact⟨.ref D,H',IY.turned (t':=s'.toks) (λb o hb e=>hs'.extBut b o hb e) ad c2 (.inr c1) c3 c4,rfl,q⟩
end
def keepsD:Rho->Rho->Prop
 |[],[]=>True
 |none::r,_::r'=>keepsD r r'
 |some d::r,o::r'=>o=some d/\keepsD r r'
 |_,_=>False
@[simp] theorem xk4:keepsD [] []=True:=rfl
@[simp] theorem xk3{o:Option D}{r r':Rho}:keepsD (none::r) (o::r')=keepsD r r':=rfl
@[simp] theorem xk2{d:D}{o:Option D}{r r':Rho}:keepsD (some d::r) (o::r')=(o=some d/\keepsD r r'):=rfl
theorem keepsD.at:∀{r r':Rho},keepsD r r'->r.length=r'.length/\∀(i:Nat) (d:D),r[i]?=some (some d)->r'[i]?=some (some d)
  |[],[],_=>⟨rfl,λi d e=>by simp at e⟩
  | none :: r, o :: r', h => by
    have h':keepsD r r':=h;obtain⟨h1,h2⟩:=h'.at
    refine⟨by simp[h1],λi d e=>?_⟩
    cases i with
    |zero=>simp at e
    |succ i=>simpa using h2 i d (by simpa using e)
  | some c :: r, o :: r', h => by
    have h':o=some c/\keepsD r r':=h;obtain⟨h1,h2⟩:=h'.2.at
    refine⟨by simp[h1],λi d e=>?_⟩
    cases i with
    | zero => have e' : c = d := by simpa using e
              subst e';rw[h'.1];rfl
    |succ i=>simpa using h2 i d (by simpa using e)
  |[],_::_,h=>h.elim
  |none::_,[],h=>h.elim
  |some _::_,[],h=>h.elim
@[simp] theorem Xx:∀r:Rho,keepsD r r
 |[]=>True.intro
 |none::r=>Xx r
 |some d::r=>⟨rfl,Xx r⟩
def AmO.weakR{A:AC}{os:List (Nat × Addr)}{n:Nat}{rho rho':Rho}{sg:St}{H:Hp}{ds:List D}{vs:List V}(I:AmO A os n rho' sg H ds vs)(k:keepsD rho rho'):AmO A os n rho sg H ds vs:=
 ⟨k.at.1.trans I.len,λi d e=>I.slot i d (k.at.2 i d e),I.pend,I.nd,I.fresh,(k.at.1 ▸ I.st),I.gz,I.fr,I.z0⟩
def Wu{m:Nat}{sg B:St}(h:B.drop m=sg):UY (replicate m none++sg) B:=by
 intro j v e
 by_cases hj:j<m
 ·rw [xn (by simpa using hj), xO, if_pos hj] at e
  cases e
 ·rw [xb (by simpa using ya hj), xB, <- h, xZ] at e
  rw[show m+(j-m)=j by lia] at e
  exact e
def xO9(g2:TGD)(Y:TBD)(te:TD)(U:Rho)(B:List D)(R:List D->Nat->Prop)(I:List D)(n:Nat):Prop:=∃W:Nat->List D->Nat->Prop,W 0 B n /\
 (∀i d B n,I[i]?=some d->W i B n->B.length<sizeLine/\g2 d U λJ=>keepsD U J/\Y J n λc n2=>if c=true then te J n2 λe n3=>W (i+1) (B++[e]) n3 else W (i+1) B n2) /\
 ∀B n,W I.length B n->R B n
def zp6(own:Nat)(g1:TGD)(W:TBD)(it2:TID)(g2:TGD)(U:TBD)(te:TD)(rho:Rho)(P:D->Nat->Prop)(items:List D)(n1:Nat):Prop:=∃J:Nat->List D->Nat->Prop,J 0 [] n1 /\
 (∀i d B n,items[i]?=some d->J i B n->g1 d (replicate own none++rho) λI=>I.drop own=rho/\W I n λc Y=>if c=true then it2 I Y (xO9 g2 U te I B (J (i+1))) else J (i+1) B Y) /\
 ∀B n,J items.length B n->B.length<=sizeLine/\P (.lst B) n
def zo6(it:TID)(own:Nat)(W:TGD)(I:TBD)(it2:TID)(U:TGD)(B:TBD)(J:TD):TD:=λrho n P=>it rho n (zp6 own W I it2 U B J rho P)
@[simp] theorem xm8{it own W I it2 U B J rho n P}:zo6 it own W I it2 U B J rho n P=it rho n (zp6 own W I it2 U B J rho P):=rfl
section
variable {A:AC}{X:Cx}{elt tg1 it1 tg2 it2:Expr}{ifs1 ifs2:List Expr}{scope:Scope}{own M:List Str}{pos:Pos}{i1 i2:TID}{g1 g2:TGD}{tt1 tt2:TBD}{te:TD}
def ze3{sg:St}{H:Hp}{Q:VK}{m:Nat}(h:tOf A (zo6 i1 m g1 tt1 i2 g2 tt2 te) sg H Q):zB3 (iOf A i1) m (gOf A m g1) (Kc A tt1) (iOf A i2) (gOf A m g2) (Kc A tt2) (tOf A te) sg H Q:=by
 obtain⟨rho,n,P,ds,vs,I,ht,hQ⟩:=h;refine⟨rho,n,_,ds,vs,I,ht,λJ H' n' items es ws I1 hl hJ k=>?_⟩;obtain⟨W,w0,turn,fin⟩:=k;refine⟨λi mm ae H=>mm=items.length-i/\i<=items.length/\∃Y n,ae.length=Y.length/\Am A n rho sg H (es++(Y++ds)) (ws++(ae++vs))/\W i Y n,⟨items.length,rfl,wQ _,[],n',rfl,I1,w0⟩,?_⟩;rintro i mm ae H3 ⟨rfl,hi,Y,n3,ak,⟨os,I3⟩,w3⟩;obtain⟨j1,j2⟩:=hJ n3 rho sg H3 (Y++ds) (ae++vs) i ⟨os,I3⟩
 by_cases ag:i<items.length
 ·refine .inr ⟨(j1 items[i] (by simp [ag])).1, λx H4 y => ?_⟩
  obtain⟨aT,I4⟩:=(j1 items[i] (by simp[ag])).2 x H4 y
  refine⟨replicate m none++rho,n3,_,items[i],es++(Y++ds),ws++(ae++vs),⟨_,I4.front m⟩,turn i items[i] Y n3 (by simp[ag]) w3,λab aD ⟨aI,I5⟩ e5 k5=>?_⟩
  obtain⟨k5,k6⟩:=k5
  have e6:aD.drop m=sg:=by rw[e5,yn (by simp)]
  refine⟨Wu e6,ab,n3,_,es++(Y++ds),ws++(ae++vs),⟨aI,I5⟩,k6,λc H6 n6 ⟨aH,I6⟩ k7=>?_⟩
  cases c with
  |false=>
   obtain⟨aG,I7⟩:=I6.back k5 e6
   exact⟨items.length-(i+1),w5,rfl,ag,Y,n6,ak,⟨aG,I7⟩,k7⟩
  | true =>
   rw[if_pos rfl] at k7 ⊢;refine⟨ab,n6,_,es++(Y++ds),ws++(ae++vs),⟨aH,I6⟩,k7,λJ2 H7 n7 B am ah I7 aA aM k8=>?_⟩;obtain⟨V,v0,ar,ax⟩:=k8;refine⟨λi2 nn aa σ5 H=>nn=B.length-i2/\i2<=B.length/\σ5.drop m=sg/\∃U n,aa.length=U.length/\Am A n ab σ5 H (am++(es++(U++ds))) (ah++(ws++(aa++vs)))/\V i2 U n,⟨B.length,rfl,wQ _,e6,Y,n7,ak,I7,v0⟩,?_⟩;rintro i2 nn aa σ5 H8 ⟨rfl,aU,ai,U,n8,ad,⟨aF,I8⟩,w8⟩;obtain⟨q1,q2⟩:=aM n8 ab σ5 H8 (es++(U++ds)) (ws++(aa++vs)) i2 ⟨aF,I8⟩
   by_cases ac:i2<B.length
   ·obtain ⟨t1, t2⟩ := ar i2 B[i2] U n8 (by simp [ac]) w8
    refine .inr ⟨(q1 B[i2] (by simp[ac])).1,by rw[ad];exact t1,λy H9 yy=>?_⟩
    obtain⟨aE,I9⟩:=(q1 B[i2] (by simp[ac])).2 y H9 yy
    refine⟨ab,n8,_,B[i2],am++(es++(U++ds)),ah++(ws++(aa++vs)),⟨aE,I9⟩,t2,λao aS ⟨af,aw⟩ aB aj=>?_⟩;obtain⟨aj,aL⟩:=aj;refine⟨ao,n8,_,am++(es++(U++ds)),ah++(ws++(aa++vs)),⟨af,aw⟩,aL,λc aW az ⟨aq,aC⟩ av=>?_⟩
    cases c with
    |false=>exact⟨B.length-(i2+1),w5,rfl,ac,aB.trans ai,U,az,ad,⟨aq,aC.weakR aj⟩,av⟩
    |true=>
     rw[if_pos rfl] at av ⊢;refine⟨ao,az,_,am++(es++(U++ds)),ah++(ws++(aa++vs)),⟨aq,aC⟩,av,λv aV aJ d ⟨ay,aR⟩ aK=>?_⟩;obtain⟨aQ,rv⟩:=aR.pop;obtain⟨aP,r1⟩:=aQ.split aA;obtain⟨aO,r2⟩:=aP.split hl;obtain⟨aN,r3⟩:=aO.split ad
     exact⟨B.length-(i2+1),w5,rfl,ac,aB.trans ai,U++[d],aJ,by simp[ad],⟨ay,(((aN.join (r3.append (.cons rv .nil))).join r2).join r1).weakR aj⟩,aK⟩
   ·have e : i2 = B.length := by lia
    subst e;obtain⟨I9,_⟩:=I8.split aA;obtain⟨af,aw⟩:=I9.back k5 ai
    exact .inl ⟨q2 (zk _),Wu ai,items.length-(i+1),w5,rfl,ag,U,n8,ad,⟨af,aw⟩,ax U n8 w8⟩
 ·have e : i = items.length := by lia
  subst e;obtain⟨f1,f2⟩:=fin Y n3 w3
  refine .inl ⟨j2 (zk _),by rw[ak];exact f1,λD hD=>?_⟩
  obtain⟨I4,r1⟩:=I3.split hl;obtain⟨I5,r2⟩:=I4.split ak;exact hQ _ _ n3 _ ⟨os,I5.newLst r2 hD⟩ f2
def zw5(ok:CompOk X scope M)(hc:X.calm=true)(hi:PID A X tg1 it1 i1)(hg:∀C B J I,PGD A (wn X scope own M C B J I) own.length tg1 g1)(ht:∀C B J I,PTs (wn X scope own M C B J I) ifs1 (Kc A tt1))
  (Y:∀C B J I,PID A (wn X scope own M C B J I) tg2 it2 i2) (aa:∀C B J I,PGD A (wn X scope own M C B J I) own.length tg2 g2) (U:∀C B J I,PTs (wn X scope own M C B J I) ifs2 (Kc A tt2))
  (he:∀C B J I,PD A (wn X scope own M C B J I) elt te) (hs:∀x,foldedSetIterable it1 X.env x=pure x:=by intro _;rfl) (W:∀C B J I x,foldedSetIterable it2 (wn X scope own M C B J I).env x=pure x:=by intros;rfl) :
  PD A X (.ListComp elt [⟨tg1,it1,ifs1,0⟩,⟨tg2,it2,ifs2,0⟩] scope pos) (zo6 i1 own.length g1 tt1 i2 g2 tt2 te):=by exists (zw0 ok hc hi hg ht Y aa U he hs W).imp λ_ _ _=>ze3
end
theorem QD:∀l:List Value,(List.range l.length).filterMap (λi=>l[i]?)=l
 |[]=>rfl
 |x::r=>by
  rw[zA,List.range_succ_eq_map,wV];show x::_=x::r;rw[filterMap_map];exact congrArg (x::·) (QD r)
def zz5(l:QqW):slicePick l.toArray none none (some 1)=l.toArray:=by
 unfold slicePick;show((sliceRange 0 (l.toArray.size:Int) 1).filterMap λi=>l.toArray[i]?).toArray=l.toArray
 have e:sliceRange 0 (l.toArray.size:Int) 1=List.range l.length:=by
  unfold sliceRange;simp only[zE]
  have c:(if (1:Int) > 0 then(if (0:Int)<(l.length:Int) then((l.length:Int)-0+1-1)/1 else 0) else(if (0:Int) > (l.length:Int) then(0-(l.length:Int)-1-1)/(-1) else 0)).toNat=l.length:=by
   rw[if_pos w6]
   split<;>lia
  rw[c];refine(wI λk _=>?_).trans (List.map_id _);show(0+1*(k:Int)).toNat=k;lia
 rw[e];have:=QD l;simp only[List.getElem?_toArray];rw[this]
def QI(b:Bool):Int:=if b then -1 else 1
def Km{α:Type}(b:Bool)(l:List α):List α:=if b then l.reverse else l
def ze7(b:Bool)(l:QqW):slicePick l.toArray none none (some (QI b))=(Km b l).toArray:=by
 cases b with
 |true=>exact zt4 l
 |false=>exact zz5 l
section
variable {X:Cx}{e st:Expr}{te ts:TE}{pos p2:Pos}
def zT7(K:W.Frag)(te ts:TE):TE:=λσ H Q=>te σ H λx I=>ts σ I λy B=>∃(b:Bool) (a:Addr) (xs:List V),y=.int (QI b)/\x=.ref a/\SqL K B a xs/\∀p,B p=none->Q (.ref p) (upd B p (.lst (Km b xs)))
def zv4(he:PE X e te)(W:PE X st ts):PE X (.Subscript e (.Slice none none (some st) p2) pos) (zT7 X.K te ts):=by
 intro B s σ H Q I h;refine Subscript_ (thn (he B s σ H _ I h) λv s1 ⟨x,H1,I1,r1,q1⟩=>?_);refine wpAny_Slice ?_;rw[evalPart_none];refine ze (ze ?_);rw[evalPart_some];refine thn (W B s1 σ H1 _ I1 q1) λu J ⟨y,H3,I3,ry,U⟩=>?_;obtain⟨b,a,xs,rfl,rfl,hx,U⟩:=U;obtain⟨tk,rfl⟩:=ry;cases r1;have Y:Inv X B σ H3 { J with heap:=J.heap.push { cls:=.type "slice",data:=.fields #[.none,.none,.int (QI b) tk] } }:=I3.kept (t':=J.toks) λb ob q=>zd _ q;obtain⟨its,r,ht,hz⟩:=Y.list hx;have aa:=r.length
 refine tail_any (ops:=[.ref a,.ref J.heap.objs.size]) ht.isList.typeIs slot_list_getitem.lookup (wpAny_getItem_list_slice ht.isList (Heap.IsSliceOf.new ..) .none .none (.int (QI b) tk) (by cases b<;>decide) ?_ (by rw[zE]<;>lia)) (by with_unfolding_all rfl)
 rw[ze7];refine⟨.ref _,_,Y.laid (t':=J.toks) (o:=.lst (Km b xs)) (λb ob q=>zd _ q) (zk _) ?_,rfl,U _ (Y.hok.fresh (zk _))⟩
 cases b with
 |true=>exact⟨by show xs.reverse.length<=_;rw[List.length_reverse];exact hz,its.reverse,0,r.reverse,zu _ rfl⟩
 |false=>exact⟨hz,its,0,r,zu _ rfl⟩
end
section
variable {A:AC}{X:Cx}{a e:Expr}{ta te:TD}{pos p2:Pos}
def zE8(ta te:TD):TD:=λrho n P=>ta rho n λd I=>te rho I λy B=>∃b:Bool,y=.int (QI b)/\lAt d λfs=>P (.lst (Km b fs)) B
@[simp] theorem xl9{rho:Rho}{n:Nat}{P:D->Nat->Prop}:zE8 ta te rho n P=ta rho n λd I=>te rho I λy B=>∃b:Bool,y=.int (QI b)/\lAt d λfs=>P (.lst (Km b fs)) B:=rfl
def zw2(hK:X.K=A.K)(ha:PD A X a ta)(he:PD A X e te):PD A X (.Subscript a (.Slice none none (some e) p2) pos) (zE8 ta te):=by
 exists (zv4 ha he).imp λsg H Q h=>by
   obtain⟨rho,n,P,ds,vs,I,ht,hQ⟩:=h;refine⟨rho,n,_,ds,vs,I,ht,λv H1 n1 d J k=>⟨rho,n1,_,d::ds,v::vs,J,k,λv2 H2 n2 y ⟨os,J2⟩ B=>?_⟩⟩;obtain⟨b,rfl,B⟩:=B;obtain⟨fs,rfl,B⟩:=zO6 B;obtain⟨J3,W⟩:=J2.pop;obtain⟨J4,Y⟩:=J3.pop;obtain⟨l,xs,rfl,sq,U⟩:=Y.lst_inv;rw[hK];refine⟨b,l,xs,W.int_inv,rfl,sq.sq,λp hp=>hQ _ _ n2 _ ⟨os,J4.newLst (es:=Km b fs) ?_ hp⟩ B⟩
   cases b with
   |true=>exact U.reverse
   |false=>exact U
end
def zC6{α:Type}(k:Str)(x:α)(l:List (Str × α)):List (Str × α):=if (kG k l).isSome=true then l.map λp=>if p.1=k then(p.1,x) else p else l++[(k,x)]
section
variable {K:W.Frag}{G:QqE}{Z:QqA}{H:Hp}{d:D}{v:V}
def zm2{a b:Str}(h:¬ a=b):¬ (Sum.inr a:Key)=Sum.inr b:=λe=>h (Sum.inr.inj e)
def zm3{a b:Str}:(Sum.inr a:Key)=Sum.inr b↔a=b:=⟨λe=>Sum.inr.inj e,λe=>by rw[e]⟩
theorem KsR.get:∀{l:List (Str × D)}{r:List (Key × V)}{k:Str},KsR K Z H l r->(∀d,kG k l=some d->∃v,Yu r (.inr k)=some v/\Rep K none Z H d v)/\(kG k l=none->Yu r (.inr k)=none)
 |[],[],k,_=>⟨λd h=>by simp[kG] at h,λ_=>rfl⟩
 | p :: l, q :: r, k, h => by
  obtain⟨h1,h2,h3⟩:=h;obtain⟨i1,i2⟩:=KsR.get (k:=k) h3;unfold kG
  by_cases e:p.1=k
  ·rw [if_pos e, jA (by rw [h1, e])]
   exact⟨λd h=>by cases h;exact⟨_,rfl,h2⟩,λh=>by cases h⟩
  ·rw [if_neg e, jB (by rw [h1]; exact zm2 e)]
   exact⟨i1,i2⟩
theorem KsR.length:∀{l:List (Str × D)}{r:List (Key × V)},KsR K Z H l r->r.length=l.length
 |[],[],_=>rfl
 |_::_,_::_,h=>by rw[zA,zA,KsR.length h.2.2]
def KsR.has:∀{l:List (Str × D)}{r:List (Key × V)}{k:Str},KsR K Z H l r->(Yu r (.inr k)).isSome=(kG k l).isSome:=λ{l r k} h=>by
 obtain⟨i1,i2⟩:=h.get (k:=k)
 cases e:kG k l with
 |none=>rw[i2 e];rfl
 |some d=>obtain⟨v,hv,_⟩:=i1 d e;rw[hv];rfl
theorem KsR.snoc(rv:Rep K none Z H d v){k:Str}:∀{l:List (Str × D)}{r:List (Key × V)},KsR K Z H l r->KsR K Z H (l++[(k,d)]) (r++[(.inr k,v)])
 |[],[],_=>⟨rfl,rv,trivial⟩
 |_::_,_::_,h=>⟨h.1,h.2.1,KsR.snoc rv h.2.2⟩
theorem KsR.repl(rv:Rep K none Z H d v){k:Str}:∀{l:List (Str × D)}{r:List (Key × V)},KsR K Z H l r->KsR K Z H (l.map λp=>if p.1=k then(p.1,d) else p) (r.map λkv=>if kv.1=(.inr k:Key) then(kv.1,v) else kv)
 |[],[],_=>trivial
 |p::l,q::r,h=>by
  rw[zz,zz]
  refine⟨?_,?_,KsR.repl rv h.2.2⟩<;>rw[h.1]<;>by_cases c:p.1=k
  ·rw[if_pos c,if_pos (zm3.mpr c)]
  ·rw[if_neg c,if_neg (zm2 c)];exact h.1
  ·rw[if_pos c,if_pos (zm3.mpr c)];exact rv
  ·rw[if_neg c,if_neg (zm2 c)];exact h.2.1
def KsR.put{l:List (Str × D)}{r:List (Key × V)}{k:Str}(h:KsR K Z H l r)(rv:Rep K none Z H d v):KsR K Z H (zC6 k d l) (XQ r (.inr k) v):=by
 unfold XQ zC6;rw[Yt,h.has]
 cases(kG k l).isSome with
 |true=>rw[if_pos rfl,if_pos rfl];exact h.repl rv
 |false=>rw[if_neg zK,if_neg zK];exact h.snoc rv
end
def zK5{n:Nat}{a:Addr}{fs:List (Str × D)}{f:Str}{x:D}(h:zW n a=some (.dis fs))(e:kG f fs=some x):plD x=true:=
 yh.mp (show Zb (fs.map (·.2))=true from vp h) x (zt (Vo e))
def zK3{fs:List (Str × D)}{k:Str}{d:D}(h:plC (.dis fs)=true)(hd:plD d=true):plC (.dis (zC6 k d fs))=true:=by
 refine yh.mpr λx hx=>?_;have h':=yh.mp (show Zb (fs.map (·.2))=true from h);obtain⟨p,B,rfl⟩:=zG.mp hx;unfold zC6 at B
 split at B
 ·obtain ⟨q, I, rfl⟩ := zG.mp B
  by_cases c:q.1=k
  ·rw[if_pos c];exact hd
  ·rw[if_neg c];exact h' _ (zt I)
 ·rcases zR.mp B with B | B
  ·exact h' _ (zt B)
  ·rw[zw.mp B];exact hd
def ze6(d:D)(k:Str->Prop):Prop:=∃s,d=.str s/\k s
@[simp] theorem xq4{s k}:ze6 (.str s) k↔k s:=⟨fun⟨_,e,h⟩=>by cases e;exact h,λh=>⟨_,rfl,h⟩⟩
def zn5(n:Nat)(a:Addr)(k:List (Str × D)->Prop):Prop:=∃fs,zW n a=some (.dis fs)/\k fs
def vS{n a fs k}(h:zW n a=some (.dis fs))(q:k fs):zn5 n a k:=⟨fs,h,q⟩
section
variable {A:AC}{os:List (Nat × Addr)}{n:Nat}{rho:Rho}{sg:St}{H:Hp}{ds:List D}{vs:List V}{a:Addr}{o:HO}{c:Cell}
def Wok.ks(w:Wok A os n H a)(B:plC c=true)(I:AmO A os n rho sg H ds vs){l:List (Str × D)}{r:List (Key × V)}(h:KsR A.K (Zof A os) H l r):KsR A.K (Wi (Zof A os) (vq n a c)) (upd H a o) l r:=h.mono (w.z B I) w.f
end
section
variable {A:AC}{X:Cx}{a b e:Expr}{ta tb te:TD}{pos pos':Pos}
def xg7(ta tb:TD):TD:=λrho n P=>ta rho n λd1 I=>tb rho I λd2 B=>Yp d1 λa=>ze6 d2 λk=>zn5 B a λfs=>Xh (kG k fs) λx=>P x B
@[simp] theorem xx1{rho n P}:xg7 ta tb rho n P=ta rho n λd1 I=>tb rho I λd2 B=>Yp d1 λa=>ze6 d2 λk=>zn5 B a λfs=>Xh (kG k fs) λx=>P x B:=rfl
def kT(U:X.A.units+1<cLine)(ha:PD A X a ta)(hb:PD A X b tb)(hs:xh9 b):PD A X (.Subscript a b pos) (xg7 ta tb):=by
 exists (Kw U ha hb hs).imp λsg H Q h=>by
   obtain⟨rho,n,P,ds,vs,I,ht,hQ⟩:=h;refine⟨rho,n,_,ds,vs,I,ht,λv H' n' d J k=>⟨rho,n',_,d::ds,v::vs,J,k,λv2 H2 n2 x ⟨os,J2⟩ B=>?_⟩⟩;obtain⟨q,rfl,j,rfl,kv,Y,y,W,B⟩:=B;obtain⟨J3,r2⟩:=J2.pop;obtain⟨J4,r1⟩:=J3.pop;obtain⟨_,_,kvs,hp,hf⟩:=J4.cell Y;obtain⟨u,U,ru⟩:=hf.get.1 y W;rw[r1.rf_inv,r2.toS rfl]
   exact⟨q,u,rfl,by rw[<- U];exact DGet.k (k:=.inr j) hp,hQ u H2 n2 y ⟨os,J4.push (Rep.reG _ _ (jC _ (zK5 Y W)) ru)⟩ B⟩
def zU4(ta tb te:TD):TSD:=λF rho n=>te rho n λd J=>ta rho J λx I=>tb rho I λy B=>Yp x λa=>ze6 y λk=>zn5 B a λfs=>plD d=true/\fs.length<sizeLine/\F.nx rho (vq B a (.dis (zC6 k d fs)))
@[simp] theorem xr6{F rho n}:zU4 ta tb te F rho n=te rho n λd J=>ta rho J λx I=>tb rho I λy B=>Yp x λa=>ze6 y λk=>zn5 B a λfs=>plD d=true/\fs.length<sizeLine/\F.nx rho (vq B a (.dis (zC6 k d fs))):=rfl
def zu8(hu:X.A.units+1<cLine)(ha:PD A X a ta)(hb:PD A X b tb)(he:PD A X e te)(hs:swapsWith e (some (.Subscript a b pos')) pos.line X.env=pure false:=by rfl):PSD A X (.Assign [.Subscript a b pos'] e pos) (zU4 ta tb te):=by
 exists (zg8 hu ha hb he hs).imp λE sg H h=>by
   obtain⟨rho,n,F,ds,vs,I,ht,ok⟩:=h;refine⟨rho,n,_,ds,vs,I,ht,λv H' n' d J k=>⟨rho,n',_,d::ds,v::vs,J,k,λv2 H2 n2 x J2 k2=>⟨rho,n2,_,x::d::ds,v2::v::vs,J2,k2,λv3 H3 n3 y ⟨os,J3⟩ U=>?_⟩⟩⟩;obtain⟨q,rfl,k,rfl,kv,W,hd,hl,U⟩:=U;obtain⟨J4,r3⟩:=J3.pop;obtain⟨J5,r2⟩:=J4.pop;obtain⟨B,r1⟩:=J5.pop;obtain⟨_,_,kvs,hp,Y⟩:=B.cell W;have w:=B.wok W;have pl:=zK3 (k:=k) (vp W) hd;rw[r2.rf_inv,r3.toS rfl]
   refine⟨q,_,rfl,DPut.k (k:=.inr k) hp (by rw[Y.length];exact hl),?_⟩
   obtain⟨os',J7,_⟩:=B.wrote (o:=.dK (XQ kvs (.inr k) v)) w pl ⟨_,yA,(w.ks pl B Y).put (w.rep pl B hd r1)⟩;exact ok.nx _ _ _ _ ⟨os',J7⟩ U
end
section
variable {X:Cx}{e1 e2 e3:Expr}{t1 t2 t3:TE}{pos:Pos}
def zT8(U J I:Str)(t1 t2 t3:TE):TE:=λσ H Q=>∀p,H p=none->t1 σ (upd H p (.dK [])) λv1 H1=>t2 σ H1 λY H2=>t3 σ H2 λW B=>B p=some (.dK [])/\Q (.ref p) (upd B p (.dK [(.inr U,v1),(.inr J,Y),(.inr I,W)]))
def zv5{W U J:Str}{j1 j2 j3:Nat}{p1 p2 p3:Pos}(h1:PE X e1 t1)(h2:PE X e2 t2)(h3:PE X e3 t3)(hx:W≠U/\W≠J/\U≠J) :
  PE X (.Dict [some (.Constant (.str W) j1 p1),some (.Constant (.str U) j2 p2),some (.Constant (.str J) j3 p3)] [e1,e2,e3] pos) (zT8 W U J t1 t2 t3):=by
 intro B s σ H Q I q;have hn:=I.hok.fresh (zk s.heap.objs.size);have I1:=I.laid (a:=s.heap.objs.size) (o:=.dK []) (h':=s.heap.push { cls:=.type "dict",data:=.dict #[] }) (t':=s.toks) (λ_ _ q=>zd _ q) (zk _) (xf7 s.heap (xh3 I));have q1:=q _ hn
 refine wpAny_Dict_walk (knd:=va X.prog X.w) rfl rfl (by simp) (by simp) (pairTrees_cons_walk
  (thn (JO B _ σ _ (λv H' => v = V.str W /\ H' = upd H s.heap.objs.size (.dK [])) I1 ⟨rfl, rfl⟩) λu1 s1 ⟨k1, H1, J1, r1, ai, am⟩ =>
   thn (h1 B s1 σ H1 (λv1 H1=>t2 σ H1 (λv2 H2=>t3 σ H2 (λv3 Y=>Y s.heap.objs.size=some (.dK [])/\Q (.ref s.heap.objs.size) (upd Y s.heap.objs.size (.dK [(.inr W,v1),(.inr U,v2),(.inr J,v3)]))))) J1 (by rw[am];exact q1)) λu2 s2 ⟨v1,H2,J2,af,q2⟩=>pairTrees_cons_walk
  (thn (JO B s2 σ H2 (λv H' => v = V.str U /\ H' = H2) J2 ⟨rfl, rfl⟩) λu3 s3 ⟨k2, Y, J3, r3, ah, ak⟩ =>
   thn (h2 B s3 σ Y (λv2 H2=>t3 σ H2 (λv3 Y=>Y s.heap.objs.size=some (.dK [])/\Q (.ref s.heap.objs.size) (upd Y s.heap.objs.size (.dK [(.inr W,v1),(.inr U,v2),(.inr J,v3)])))) J3 (by rw[ak];exact q2)) λu4 s4 ⟨v2,H4,J4,ae,q4⟩=>pairTrees_cons_walk
  (thn (JO B s4 σ H4 (λv H' => v = V.str J /\ H' = H4) J4 ⟨rfl, rfl⟩) λu5 s5 ⟨k3, H5, J5, r5, ag, aj⟩ =>
   thn (h3 B s5 σ H5 (λv3 Y=>Y s.heap.objs.size=some (.dK [])/\Q (.ref s.heap.objs.size) (upd Y s.heap.objs.size (.dK [(.inr W,v1),(.inr U,v2),(.inr J,v3)]))) J5 (by rw[aj];exact q4)) λu6 s6 ⟨v3,H6,J6,ad,q6⟩=>pairTrees_nil_walk ?_))))
 subst ai ah ag;obtain⟨ac,rfl⟩:=r1;obtain⟨ab,rfl⟩:=r3;obtain⟨aa,rfl⟩:=r5;obtain⟨e1,q6⟩:=q6;obtain⟨z,hd,ao,r0,dd⟩:=(show ObjOk X.prog X.w _ s6.heap s.heap.objs.size (.dK []) from J6.hok _ _ e1);cases r0
 have em:merged [] [((.inr W:Key),u2),(.inr U,u4),(.inr J,u6)]=[((.inr W:Key),u2),(.inr U,u4),(.inr J,u6)]:=by
  simp[merged,stored,hx.1,hx.2.1,hx.2.2,Ne.symm hx.1,Ne.symm hx.2.1,Ne.symm hx.2.2]
 refine⟨[(.inr W,u2),(.inr U,u4),(.inr J,u6)],⟨qO X.prog X.w W ac,rfl,qO X.prog X.w U ab,rfl,qO X.prog X.w J aa,rfl,True.intro⟩,dd,λh' dd' hs=>?_⟩;rw[em] at dd'
 refine⟨.ref s.heap.objs.size,_,J6.write (x:=s.heap.objs.size) (e:=s.heap.objs.size) (o:=.dK [(.inr W,v1),(.inr U,v2),(.inr J,v3)]) (by rw[e1];exact True.intro) (.inl rfl) (λb q hb z=>(hs.2 b hb).trans z) ?_ ?_,rfl,q6⟩
 ·obtain⟨q,_,_,hq,_⟩:=dd';exact⟨q,hq⟩
 ·exact⟨by simp[sizeLine],hd,_,.cons ⟨rfl,af⟩ (.cons ⟨rfl,ae⟩ (.cons ⟨rfl,ad⟩ .nil)),dd'⟩
end
section
variable {A:AC}{X:Cx}{e1 e2 e3:Expr}{t1 t2 t3:TD}{pos:Pos}
def zF0(U J I:Str)(t1 t2 t3:TD):TD:=λrho n P=>∀a,zW n a=none->t1 rho (vq n a (.dis [])) λd1 Y=>t2 rho Y λd2 W=>t3 rho W λd3 B=>zW B a=some (.dis [])/\plD d1=true/\plD d2=true/\plD d3=true/\P (.rf a) (vq B a (.dis [(U,d1),(J,d2),(I,d3)]))
@[simp] theorem xm3{J I B:Str}{rho n P}:zF0 J I B t1 t2 t3 rho n P=∀a,zW n a=none->t1 rho (vq n a (.dis [])) λd1 Y=>t2 rho Y λd2 W=>t3 rho W λd3 U=>zW U a=some (.dis [])/\plD d1=true/\plD d2=true/\plD d3=true/\P (.rf a) (vq U a (.dis [(J,d1),(I,d2),(B,d3)])):=rfl
def zw3{W U B:Str}{j1 j2 j3:Nat}{p1 p2 p3:Pos}(h1:PD A X e1 t1)(h2:PD A X e2 t2)(h3:PD A X e3 t3)(hx:W≠U/\W≠B/\U≠B:=by decide +kernel) :
  PD A X (.Dict [some (.Constant (.str W) j1 p1),some (.Constant (.str U) j2 p2),some (.Constant (.str B) j3 p3)] [e1,e2,e3] pos) (zF0 W U B t1 t2 t3):=by
 exists (zv5 h1 h2 h3 hx).imp λsg H Q h=>by
   obtain⟨rho,n,P,ds,vs,⟨os,I⟩,k,hQ⟩:=h;intro p hp;obtain⟨os',J,_⟩:=I.wrote (o:=.dK []) (I.wokNew hp) (c:=.dis []) rfl ⟨[],yA,trivial⟩;refine⟨rho,_,_,ds,vs,⟨os',J⟩,k p (I.noCell hp),λv1 H1 n1 d1 J1 k1=>⟨rho,n1,_,d1::ds,v1::vs,J1,k1,λv2 H2 n2 d2 J2 k2=>⟨rho,n2,_,d2::d1::ds,v2::v1::vs,J2,k2,λv3 H3 n3 d3 ⟨ae,J3⟩ k3=>?_⟩⟩⟩;obtain⟨hc,ac,ab,aa,k3⟩:=k3;obtain⟨J4,r3⟩:=J3.pop;obtain⟨J5,r2⟩:=J4.pop;obtain⟨Y,r1⟩:=J5.pop;obtain⟨_,_,kvs,ad,hf⟩:=Y.cell hc
   have hk:kvs=[]:=by cases kvs with |nil=>rfl |cons _ _=>exact hf.elim
   subst hk;have w:=Y.wok hc
   have pl:plC (.dis [(W,d1),(U,d2),(B,d3)])=true:=yh.mpr λx hx=>by
    simp only[zz,xx,zg,xk,or_false] at hx
    rcases hx with rfl |rfl |rfl
    ·exact ac
    ·exact ab
    ·exact aa
   obtain⟨os',J7,_⟩:=Y.wrote (o:=.dK [(.inr W,v1),(.inr U,v2),(.inr B,v3)]) w pl ⟨_,yA,⟨rfl,w.rep pl Y ac r1,rfl,w.rep pl Y ab r2,rfl,w.rep pl Y aa r3,trivial⟩⟩;exact⟨ad,hQ _ _ _ _ ⟨os',J7.push Rep.rf_mk⟩ k3⟩
end
end L2
namespace L2
open PySem PySem.Spec PyProof.Rows PySem.Calls PyProof.V
theorem Xz:∀{vs:QqW}{ns:List Int},vs.length=ns.length->(∀(j:Nat) (v:Value),vs[j]?=some v->∃n t,ns[j]?=some n/\v=.int n t)->IntsAre vs ns
 |[],[],_,_=>.nil
 |[],_::_,h,_=>by simp at h
 |_::_,[],h,_=>by simp at h
 |v::vs,n::ns,h,q=>by
  obtain⟨m,t,I,B⟩:=q 0 v rfl
  have e1':n=m:=by simpa using I
  subst e1' B
  exact .cons _ t (Xz (by simpa using h) λj u e=>q (j+1) u (by simpa using e))
section
variable {prog:Program}{w:World}{A:Around}{E:QqV}{s:Shared}
def Qg{T:String}{r d:Addr}{n:Nat}{P:Nat->Value->Prop}{Y:Heap->Prop}{R:List Value->Shared->Prop}(src:W.KdlSrc prog w T r d n P Y)(hA:A.handled=none)(h0:Y s.heap)(hz:n<=sizeLine)
  (fin:∀(g:Heap) (tk:Nat) (its:Array Value),(∀b o,s.heap.get? b=some o->g.get? b=some o)->s.heap.objs.size<g.objs.size->ItemsOf P its n->R its.toList { s with heap:=g,toks:=tk }) :
  wpAny (model prog w) A (collect (.ref r)) R E s:=by
 obtain⟨lr,ld⟩:=src.there _ h0;have B:∀b o,s.heap.get? b=some o->(s.heap.push { cls:=.type "list",data:=.seq ([]:QqW).toArray }).get? b=some o:=λb o e=>zd _ e;have U:Y (s.heap.push { cls:=.type "list",data:=.seq ([]:QqW).toArray }):=src.keep _ _ h0 λb _ o e=>B b o e
 let I:Result->Shared->Prop:=λq t=>∃(g:Heap) (tk:Nat) (its:Array Value) (c:Nat),q=.ok (.ret (.ref s.heap.objs.size))/\t={ s with heap:=g,toks:=tk }/\(∀b o,s.heap.get? b=some o->g.get? b=some o) /\
  g.get? s.heap.objs.size=some { cls:=.type "list",dict:=none,data:=.seq its c,slots:=#[] }/\ItemsOf P its n
 have run:=W.kdl_extend (A:=A) (s:={ s with heap:=s.heap.push { cls:=.type "list",data:=.seq ([]:QqW).toArray } }) (R:=I) src hA U s.heap.objs.size (xF lr) (xF ld)
  (.ref s.heap.objs.size) 0 (zu _ rfl) (λg tk its c kp at1 hi=>⟨g,tk,its,c,rfl,rfl,λb o e=>kp b o (zJ (zy e)) (B b o e),at1,hi⟩) hz
 have last:∀t,I (.ok (.ret (.ref s.heap.objs.size))) t->wpAny (model prog w) A (do
   let o <- load s.heap.objs.size
   match o.data with
   |.seq xs _=>pure xs.toList
   |_=>unsupported "internal:collect") R E t:=by
  rintro t ⟨g,tk,its,c,_,rfl,kp,at1,hi⟩;exact zb (wpAny_load at1 (ze (fin g tk its kp (zy at1) hi)))
 unfold collect;refine zb (wpAny_runValue (codeAny_builtin entry_proto_collect' ?_));rw[Around.under_plainId PySem.F.plain_proto_collect _];refine zb (m:=newList []) (xU (ze ⟨plainId_quiet PySem.F.plain_list_iadd _,codeAny_builtin entry_list_iadd' ?_⟩));rw[Around.under_plainId PySem.F.plain_list_iadd _];refine wY run (λf t x=>?_) λe t x=>?_
 ·cases f with
  |done v=>
   have x':I (.ok v) t:=x;obtain⟨_,_,_,_,J,_⟩:=id x';cases J;exact last t x'
  |again c1=>
   refine⟨x.1,codeAny_mono x.2 λq t2 y=>?_⟩;obtain⟨_,_,_,_,J,_⟩:=id y;subst J;exact last t2 y
 ·obtain⟨_,_,_,_,J,_⟩:=x;cases J
def VI{d:Addr}{kvs:List (Key × Value)}{ns:List Int}{Q:QqV}(lo:(d == sysModules)=false)(hD:s.heap.DictOf (va prog w) d kvs)(hh:A.handled=none)(hk:kvs.map Prod.fst=ns.map Sum.inl)(ab:ns.length<64)
    (h:∀(h':Heap) (tk:Nat) (D:Addr) (out:Array Value) (ms:List Int) (e:Nat),(∀b o,s.heap.get? b=some o->h'.get? b=some o)->s.heap.objs.size<=D->h'.get? D=some (seqObj "list" out e)->IntsAre out.toList ms->ms.Perm ns->ms.Pairwise (·<=·)->Q (.ref D) { s with heap:=h',toks:=tk }) :
    wpAny (model prog w) A (call (.builtin "sorted") [.ref d]) Q E s:=by
  refine Calls.call_function_entry kind_sorted plain_sorted entry_sorted (args_sorted1 _) ?_;unfold Builtin.«sorted»;refine zb (m:=checkCount "sorted" 1 1 _) (ze ?_);obtain⟨ep,aa⟩:=hD.dictAt
  have B:kvs.length=ns.length:=by have:=congrArg List.length hk;simpa using this
  refine zb (Qg (A:=A.in1) (W.kdl_dict (knd:=va prog w) (kvs:=kvs) (ep:=ep) lo) hh aa (by rw[B];exact wZ w5) λh' tk J keeps Y I=>?_)
  have hI:IntsAre J.toList ns:=by
    refine Xz (by rw[zj,I.1,B]) λj v e=>?_
    obtain⟨k,x,e1,e2⟩:=I.2 j v (by rw[<- zL];exact e)
    have e3:(ns.map (Sum.inl:Int->Key))[j]?=some k:=by rw[<- hk,zI,e1];rfl
    rw[zI] at e3
    cases hn:ns[j]? with
    |none=>rw[hn] at e3;cases e3
    | some n =>
      rw[hn] at e3;have e4:(Sum.inl n:Key)=k:=zN e3;subst e4;have e2':Uz (Sum.inl n) v=true:=e2
      rcases yN e2' with ⟨i,t,e5,e6⟩ |⟨y,t,e5,e6⟩
      · cases e5
        exact⟨n,t,rfl,e6⟩
      · cases e5
  have hl:J.toList.length=ns.length:=by rw[zj,I.1,B]
  refine zb (wpAny_newList ?_);have U:(h'.push (seqObj "list" J.toList.toArray 0)).get? h'.objs.size=some (seqObj "list" J.toList.toArray 0):=zu _ rfl;have hz:s.heap.objs.size<=h'.objs.size:=xG Y;show wpAny _ _ _ _ _ { s with heap:=h'.push (seqObj "list" J.toList.toArray 0),toks:=tk }
  refine zb (wh (wA slot_list_sort ⟨_,U,rfl⟩ entry_list_sort (list_sort_tree U hI w5 λout ms a1 a2 a3=>⟨_,rfl,?_⟩) (args_list_sort _)))
  obtain⟨e,he⟩:=sortedHeap_at (out:=out) U;refine ze ⟨_,rfl,h _ _ _ out ms e (λb o eb=>?_) hz he a1 a2 a3⟩;have lb:=zy (keeps b o eb)
  rw[sortedHeap_old (zJ lb) (by rw[size_push'];exact xX lb)]
  exact zd _ (keeps b o eb)
def XR{d:Addr}{kvs:List (Key × Value)}{ns:List Int}{Q:QqV}(lo:(d == sysModules)=false)(hD:s.heap.DictOf (va prog w) d kvs)(hh:A.handled=none)(hk:kvs.map Prod.fst=ns.map Sum.inl)(ab:ns.length<64)
  (h:∀(h':Heap) (tk:Nat) (D:Addr) (out:Array Value) (ms:List Int) (e:Nat),(∀b o,s.heap.get? b=some o->h'.get? b=some o)->s.heap.objs.size<=D->h'.get? D=some (seqObj "list" out e)->IntsAre out.toList ms->ms.Perm ns->Ordered true ms->Q (.ref D) { s with heap:=h',toks:=tk }) :
  wpAny (model prog w) A (call (.builtin "sorted") [.ref d] [(Str.ofString "reverse",.bool true)]) Q E s:=by
 refine call_function_entry_kw kind_sorted plain_sorted entry_sorted (args_sorted_rev _ _) ?_;unfold Builtin.«sorted»;refine zb (m:=checkCount "sorted" 1 1 _) (ze ?_);obtain⟨ep,aa⟩:=hD.dictAt
 have B:kvs.length=ns.length:=by have:=congrArg List.length hk;simpa using this
 refine zb (Qg (A:=A.in1) (W.kdl_dict (knd:=va prog w) (kvs:=kvs) (ep:=ep) lo) hh aa (by rw[B];exact wZ w5) λh' tk J keeps Y I=>?_)
 have hI:IntsAre J.toList ns:=by
  refine Xz (by rw[zj,I.1,B]) λj v e=>?_
  obtain⟨k,x,e1,e2⟩:=I.2 j v (by rw[<- zL];exact e)
  have e3:(ns.map (Sum.inl:Int->Key))[j]?=some k:=by rw[<- hk,zI,e1];rfl
  rw[zI] at e3
  cases hn:ns[j]? with
  |none=>rw[hn] at e3;cases e3
  |some n=>
   rw[hn] at e3;have e4:(Sum.inl n:Key)=k:=zN e3;subst e4;have e2':Uz (Sum.inl n) v=true:=e2
   rcases yN e2' with ⟨i,t,e5,e6⟩ |⟨y,t,e5,e6⟩
   ·cases e5;exact⟨n,t,rfl,e6⟩
   ·cases e5
 have hl:J.toList.length=ns.length:=by rw[zj,I.1,B]
 refine zb (wpAny_newList ?_);have U:(h'.push (seqObj "list" J.toList.toArray 0)).get? h'.objs.size=some (seqObj "list" J.toList.toArray 0):=zu _ rfl;have hz:s.heap.objs.size<=h'.objs.size:=xG Y;show wpAny _ _ _ _ _ { s with heap:=h'.push (seqObj "list" J.toList.toArray 0),toks:=tk }
 refine zb (wh (wpAny_call_entry_kw slot_list_sort ⟨_,U,rfl⟩ entry_list_sort (list_sort_tree_rev (b:=true) U hI w5 λout ms a1 a2 a3=>⟨_,rfl,?_⟩) (args_list_sort_rev _ _)))
 obtain⟨e,he⟩:=sortedHeap_at (out:=out) U;refine ze ⟨_,rfl,h _ _ _ out ms e (λb o eb=>?_) hz he a1 a2 a3⟩;have lb:=zy (keeps b o eb)
 rw[sortedHeap_old (zJ lb) (by rw[size_push'];exact xX lb)]
 exact zd _ (keeps b o eb)
end
section
variable {prog:Program}{w:World}{K:Type} [DecidableEq K] {knd:KeyKind prog w K}{A:Around}{E:QqV}{s:Shared}
theorem zy4{a b:Addr}{xs:List (K × Value)}{Q:QqV}(ha:(a == sysModules)=false)(hb:(b == sysModules)=false)(h1:s.heap.DictOf knd a xs)(h2:s.heap.DictOf knd b [])(hu:A.units<cLine)(h:Q (.bool (!xs.isEmpty)) s) :
  wpAny (model prog w) A (richCompare .NotEq (.ref a) (.ref b)) Q E s:=by
 have J:s.TypeIs (.ref a) "dict" := h1.typeIs;have t2:s.TypeIs (.ref b) "dict" := h2.typeIs;obtain⟨o,es,ep,ho,hc,B,hk,hp,hn⟩:=id h1;obtain⟨o2,Y,ad,W,ac,I,ab,U,aa⟩:=id h2
 have z1:es.size=xs.length:=by rw[<- hp.length];simp
 have z2:Y.size=0:=by have:=U.length;simpa using this
 refine wpAny_richCompare_same_room (op:=.NotEq) J t2 F.slot_dict_ne (wA F.slot_dict_ne J F.entry_dict_ne ?_ (F.args_dict_ne_2 _ _)) hu;unfold Builtin.«dict.__ne__»;refine zb ?_;unfold Builtin.Dict.dictSlotArgs;refine zb (wpAny_notOrdered_dict J ?_);show wpAny _ _ (pure (Value.ref a,Value.ref b)) _ _ s;refine ze ?_;refine zb (wpAny_isInstance t2 isSubtype_dict_dict ?_);simp only[Bool.not_true,wa,if_false];refine zb (ze (zb (ze (zb ?_))));unfold Builtin.Dict.samePairs;show wpAny _ _ (Builtin.Dict.showsAll a >>= _) _ _ s;unfold Builtin.Dict.showsAll
 rw[if_neg (by rw[ha];exact zK)]
 refine zb (ze ?_)
 rw[if_neg (by rw[hb];exact zK)]
 refine zb (ze ?_);refine zb (wpAny_dictEntries ho B ?_);refine zb (wpAny_dictEntries W I ?_)
 cases xs with
 |cons x xs=>
  rw[if_pos (by rw[z1,z2];simp)]
  refine zb (wz (ze (ze ?_)))
  exact⟨_,rfl,(λe=>nomatch e),h⟩
 |nil=>
  rw[if_neg (by rw[z1,z2];simp)]
  refine zb (wpAny_dictEpoch ho B ?_);have z0:es.size=0:=z1;rw[z0,Std.Legacy.Range.forIn_eq_forIn_range'];refine zb (show wpAny _ _ (pure _) _ _ s from ze ?_);refine ze (ze ?_)
  exact⟨_,rfl,(λe=>nomatch e),h⟩
end
section
variable {X:Cx}{A:AC}{pos:Pos}{a b e:Expr}{ta tb:TD}{t1:TAD}
theorem zk8:∀{kvs:List (Key × V)}{vs:List (Key × Value)},KV kvs vs->vs.map Prod.fst=kvs.map Prod.fst
 |_,_,.nil=>rfl
 |_,_,.cons r t=>by rw[zz,zz,zk8 t,r.1]
theorem KvR.fst{K:W.Frag}{Z:QqA}{H:Hp}:∀{l:List (Int × D)}{r:List (Key × V)},KvR K Z H l r->r.map Prod.fst=(l.map (·.1)).map Sum.inl
 |[],[],_=>rfl
 |p::l,q::r,h=>by rw[zz,zz,zz,KvR.fst h.2.2,h.1]
def zW4(X:Cx):List V->Hp->VK->Prop:=λxs H Q=>∃(p:Addr) (kvs:List (Key × V)) (ns:List Int),xs=[.ref p]/\H p=some (.dK kvs)/\kvs.map Prod.fst=ns.map Sum.inl/\ns.length<64/\∀B:List Int,B.Perm ns->B.Pairwise (·<=·)->∀l,H l=none->Q (.ref l) (upd H l (.lst (B.map V.int)))
def UM(hc:X.calm=true):qC X (.builtin "sorted") (zW4 X):=by
 intro J s σ H xs us Q I r h;obtain⟨p,kvs,ns,rfl,hx,hk,hn,q⟩:=h;obtain⟨u,rfl,Y⟩:=YG r;cases Y;obtain⟨hz,hS,vs,rv,m⟩:=KW I.hok hx
 refine VI hS m (I.ok.hd hc) (by rw[zk8 rv];exact hk) hn λh' tk D out B e keeps W he hi U hs=>?_
 have aa:B.length=ns.length:=U.length_eq;have hf:H D=none:=I.hok.fresh W;refine⟨.ref D,_,I.laid (t':=tk) (o:=.lst (B.map V.int)) keeps W ?_,rfl,q B U hs _ hf⟩
 exact⟨by rw[zh];exact wZ w5,out.toList,e,kA hi,he⟩
def zE9(t:TAD):TD:=λrho n P=>t rho n λes I=>∃a,es=[.rf a]/\qm I a λkv=>kv.length<64/\∀B:List Int,B.Perm (kv.map (·.1))->B.Pairwise (·<=·)->P (.lst (B.map D.int)) I
@[simp] theorem xm0{t rho n P}:zE9 t rho n P=t rho n λes I=>∃a,es=[.rf a]/\qm I a λkv=>kv.length<64/\∀B:List Int,B.Perm (kv.map (·.1))->B.Pairwise (·<=·)->P (.lst (B.map D.int)) I:=rfl
def Vd{np:Pos}(W:X.calm=true)(hm:X.mg "sorted" = none)(ha:PAD A X [a] t1)(hg:Gl X "sorted" := by rfl)
  (he:starEach [a] X.env=(false,eval a X.env)::starEach [] X.env:=by rfl) (U:(backTo pos (starEach [] X.env)).any (·.1)=false:=by rfl):PD A X (.Call (.Name "sorted" np) [a] [] pos) (zE9 t1):=by
 exists (Vc (UM W) hg hm kZ ha w6 w6 he U).imp λsg H Q h=>by
   obtain⟨rho,n,P,ds,vs,I,ht,hQ⟩:=h;refine⟨rho,n,_,ds,vs,I,ht,λws H' n' es' ⟨os,J⟩ hl k=>?_⟩;obtain⟨q,rfl,kv,W,B,k⟩:=k;obtain⟨Y,rs⟩:=J.split hl;obtain⟨v,rfl,r⟩:=qb rs;obtain⟨_,_,kvs,hp,hf⟩:=Y.cell W;cases r.rf_inv
   exact⟨q,kvs,kv.map (·.1),rfl,hp,hf.fst,by rw[zh];exact B,λms h1 h2 l hl'=>hQ _ _ n' _ ⟨os,Y.newLst kC hl'⟩ (k ms h1 h2)⟩
def zI4(X:Cx):List V->Hp->VK->Prop:=λxs H Q=>∃(p:Addr) (kvs:List (Key × V)) (ns:List Int),xs=[.ref p]/\H p=some (.dK kvs)/\kvs.map Prod.fst=ns.map Sum.inl/\ns.length<64/\∀B:List Int,B.Perm ns->B.Pairwise (·>=·)->∀l,H l=none->Q (.ref l) (upd H l (.lst (B.map V.int)))
def zh7{t:TA}{p kp cp:Pos}{j:Nat}(hc:X.calm=true)(hg:Gl X "sorted")(hm:X.mg "sorted" = none)(ha:PA X [e] t)(he:starEach [e] X.env=(false,eval e X.env)::starEach [] X.env:=by rfl)(W:(backTo pos (starEach [e] X.env)).any (·.1)=false:=by rfl) :
  PE X (.Call (.Name "sorted" p) [e] [⟨some "reverse",.Constant (.bool true) j cp,kp⟩] pos) (tCB (zI4 X) t):=by
 intro B s σ H Q I h
 refine wN (Xs I hg hm kZ ?_ w6 w6)
 refine callWith_kw (env:=X.env) (e:=e) (rest:=[]) (thn (ha pos B s σ H _ I h) λus s1 ⟨vs,H1,J,r1,q1⟩=>?_) (by rw[he];rfl) W rfl rfl
 refine kws_cons (Constant_bool (kws_nil ?_));obtain⟨p,kvs,ns,rfl,hx,hk,hn,q⟩:=q1;obtain⟨u,rfl,ru⟩:=YG r1;cases ru;obtain⟨hz,hS,vs,rv,m⟩:=KW J.hok hx
 refine XR hS m (J.ok.hd hc) (by rw[zk8 rv];exact hk) hn λh' tk D out U e keeps hD he hi Y hs=>?_
 have aa:U.length=ns.length:=Y.length_eq;have hf:H1 D=none:=J.hok.fresh hD;refine⟨.ref D,_,J.laid (t':=tk) (o:=.lst (U.map V.int)) keeps hD ?_,rfl,q U Y hs _ hf⟩
 exact⟨by rw[zh];exact wZ w5,out.toList,e,kA hi,he⟩
def zo4(t:TAD):TD:=λrho n P=>t rho n λes I=>∃a,es=[.rf a]/\qm I a λkv=>kv.length<64/\∀B:List Int,B.Perm (kv.map (·.1))->B.Pairwise (·>=·)->P (.lst (B.map D.int)) I
@[simp] theorem zX2{t rho n P}:zo4 t rho n P=t rho n λes I=>∃a,es=[.rf a]/\qm I a λkv=>kv.length<64/\∀B:List Int,B.Perm (kv.map (·.1))->B.Pairwise (·>=·)->P (.lst (B.map D.int)) I:=rfl
def zi1{p kp cp:Pos}{j:Nat}(W:X.calm=true)(hm:X.mg "sorted" = none)(ha:PAD A X [e] t1)(hg:Gl X "sorted" := by rfl)(he:starEach [e] X.env=(false,eval e X.env)::starEach [] X.env:=by rfl)(U:(backTo pos (starEach [e] X.env)).any (·.1)=false:=by rfl) :
  PD A X (.Call (.Name "sorted" p) [e] [⟨some "reverse",.Constant (.bool true) j cp,kp⟩] pos) (zo4 t1):=by
 exists (zh7 W hg hm ha he U).imp λsg H Q h=>by
   obtain⟨rho,n,P,ds,vs,I,ht,hQ⟩:=h;refine⟨rho,n,_,ds,vs,I,ht,λws H' n' es' ⟨os,J⟩ hl k=>?_⟩;obtain⟨q,rfl,kv,W,B,k⟩:=k;obtain⟨Y,rs⟩:=J.split hl;obtain⟨v,rfl,r⟩:=qb rs;obtain⟨_,_,kvs,hp,hf⟩:=Y.cell W;cases r.rf_inv
   exact⟨q,kvs,kv.map (·.1),rfl,hp,hf.fst,by rw[zh];exact B,λms h1 h2 l hl'=>hQ _ _ n' _ ⟨os,Y.newLst kC hl'⟩ (k ms h1 h2)⟩
def zW5:R2:=λx y H Q=>∃a b kvs,x=.ref a/\y=.ref b/\H a=some (.dK kvs)/\H b=some (.dK [])/\Q (.bl (!kvs.isEmpty)) H
def zL9(hu:X.A.units<cLine):OpR X (compareOp .NotEq) zW5:=by
 intro U s σ H x y v u Q I rx Y h;obtain⟨a,b,kvs,rfl,rfl,h1,h2,q⟩:=h;cases(show v=Value.ref a from rx);cases(show u=Value.ref b from Y);obtain⟨hz,hS,vs,rv,m⟩:=KW I.hok h1;obtain⟨aa,J,W,B,m2⟩:=KW I.hok h2;cases B
 have e:vs.isEmpty=kvs.isEmpty:=by cases rv<;>rfl
 exact zy4 hS J m m2 hu ⟨.bl (!kvs.isEmpty),H,I,by rw[e];rfl,q⟩
def xA7(ta tb:TD):TD:=λrho n P=>ta rho n λd1 I=>tb rho I λd2 B=>Yp d1 λa=>Yp d2 λb=>qm B a λkv=>zW B b=some (.dic [])/\P (.bl (!kv.isEmpty)) B
@[simp] theorem xF0{ta tb rho n P}:xA7 ta tb rho n P=ta rho n λd1 I=>tb rho I λd2 B=>Yp d1 λa=>Yp d2 λb=>qm B a λkv=>zW B b=some (.dic [])/\P (.bl (!kv.isEmpty)) B:=rfl
def xb9{sg:St}{H:Hp}{Q:VK}(h:tOf A (xA7 ta tb) sg H Q):tOp zW5 (tOf A ta) (tOf A tb) sg H Q:=by
 obtain⟨rho,n,P,ds,vs,I,ht,hQ⟩:=h;refine⟨rho,n,_,ds,vs,I,ht,λv H' n' d J k=>⟨rho,n',_,d::ds,v::vs,J,k,λv2 H2 n2 x ⟨os,J2⟩ U=>?_⟩⟩;obtain⟨q1,rfl,q2,rfl,kv,hc,aa,U⟩:=U;obtain⟨J3,r2⟩:=J2.pop;obtain⟨J4,r1⟩:=J3.pop;obtain⟨_,_,kvs,hp,hf⟩:=J4.cell hc;obtain⟨_,_,B,W,Y⟩:=J4.cell aa
 have e2:B=[]:=by cases B with |nil=>rfl |cons _ _=>exact Y.elim
 subst e2
 have e:kvs.isEmpty=kv.isEmpty:=by cases kvs<;>cases kv<;>first |rfl |exact hf.elim
 rw[r2.rf_inv,r1.rf_inv];refine⟨q1,q2,kvs,rfl,rfl,hp,W,?_⟩;rw[e];exact hQ _ H2 n2 _ ⟨os,J4.push (Rep.ofS (d:=.bl _) rfl)⟩ U
def zJ3(I:X.A.units+1<cLine)(ha:PD A X a ta)(B:PD A X b tb)(hm:behindInMarks .NotEq b=false):PTD A X (.Compare a [.NotEq] [b] pos) (UH (xA7 ta tb)):=by exists (WZ (zL9 w5) ha B hm).imp λ_ _ _=>Zq λ_ _ _=>xb9
end
end L2
open L2
namespace K53
abbrev q0:List Str:=["self"]
abbrev q1:List Str:=["house"]
abbrev q2:List Str:=["_law_script","_law_k"]
abbrev q3:List Str:=["self","rank"]
abbrev q4:List Str:=["_law_found","_law_due"]
abbrev q5:List Str:=["by_name","names","i"]
abbrev q6:List Str:=["by_name","names"]
abbrev q7:List Str:=["d","by_name","names","i"]
abbrev q8:List Str:=["self","d","things"]
abbrev q9:List Str:=["self","rank","things"]
abbrev q10:List Str:=["_law_left_here","_law_some"]
abbrev q11:List Str:=["_law_left_here","_law_name","_law_d","_law_near"]
abbrev q12:List Str:=["_law_model_here","_law_rank","_law_names"]
abbrev q13:List Str:=["_law_kept","_law_model_here","_law_things","_law_d"]
abbrev q14:List Str:=["_law_left_here","_law_kept","_law_model_here","_law_things","_law_d","_law_near"]
def top(i:Nat):Stmt:=PySem.Challenge.pw_boxlayers_k53_parts_of_a_kept_house.main.body.getD i (.Pass ⟨0,0,0,0⟩)
abbrev End:=Option (Int × Bool)
def zE4:End->D
 |none=>.non
 |some (n,s)=>.tup [.int n,.bl s]
def xn2:Option Int->D
 |none=>.non
 |some i=>.int i
def vo(p:List Int):D:=.tup (p.map D.int)
@[simp] theorem xn1:zE4 none=.non:=rfl
@[simp] theorem xn0{n:Int}{s:Bool}:zE4 (some (n,s))=.tup [.int n,.bl s]:=rfl
section
variable {P:Program}{w:World}{K:W.Frag}{mg:QqM}{base:Heap}{f:Addr}{fd:FuncData}
end
def xO4{es:List D}{k:Int}{R:D->Prop}(B:0<=k)(h1:k<es.length)(h:∀d∈es,R d):zR9 (.lst es) (.int k) R:=by
 obtain⟨d,e,m⟩:=zF7 B h1;exact zI7.mpr ⟨d,e,h d m⟩
def WV(c:Nat):(JD 0 c).length=c:=by unfold JD;rw[zh,yp]
def zB8{c i:Nat}{d:D}(h:(JD 0 c)[i]?=some d):i<c/\d=.int (i:Int):=by
 have hi:i<c:=by have:=(zT.mp h).1;rw[WV] at this;exact this
 refine⟨hi,?_⟩;unfold JD at h;rw[zI,List.getElem?_range hi] at h;have:=zN h;rw[<- this];simp
def zp5{own:Nat}{g:TGD}{J:TD}{rho:Rho}{P:D->Nat->Prop}(items:List D)(I:Nat)(Good:D->D->Prop)(W:items.length<=sizeLine)
  (he:∀(i:Nat) (d:D),items[i]?=some d->∀Q:D->Nat->Prop,(∀e,Good d e->Q e I)->g d (replicate own none++rho) λrho'=>rho'.drop own=rho/\J rho' I Q)
  (hP:∀es,Paired Good items es->P (.lst es) I):Qv own g xh4 J rho P items I:=by
 refine⟨W,λi B n=>Paired Good (items.take i) B/\n=I,⟨.nil,rfl⟩,?_,?_⟩
 ·rintro i d B n e ⟨h1,rfl⟩;refine he i d e (λe U=>Paired Good (items.take (i+1)) (B++[e])/\U=n) λc Y=>⟨?_,rfl⟩;rw[xp,e];exact Paired.snoc h1 Y
 ·rintro B n ⟨h1,rfl⟩;rw[wq] at h1;exact hP B h1
section
variable {P:Program}{w:World}{K:W.Frag}{mg:QqM}{base:Heap}{f:Addr}{fd:FuncData}
abbrev qi:Stmt:=top 23
abbrev Wj:List Str:=["_law_script","_law_k"]
def YN:FnScope Wj q2 (xr qi):=⟨rfl,rfl,rfl,x0,rfl,x0,x0⟩
def YJ:TF:=λds n Q=>∃(ns:List Int) (j:Int),ds=[yt ns,.int j]/\0<=j/\∀x:Int,Q (.int x) n
def QW(T:Blt mg)(F:Fun K "_law_cell_at" "_law_cell_at" qi f fd):FnOk P w K mg base CX0 1 f fd q2 (spD K 2 YJ):=by
 refine Fun.okD F YN (λB U outer s H E G Z _ I=>(zO (ke (kR zM1 zH8 (zm 1) (wj wu kf T.len kh (zc (zm 0) zB)) (kN _)) (xi (wC (Zc kX jZ (zm 0) (zm 1) (λ_ _=>rfl)))) vn)
  (xi (wC xo)))) ?_
 rintro ds n Q J ⟨ns,j,rfl,hj,q⟩;simp[wR,yt]
 split
 ·rename_i h
  obtain⟨d,e,m⟩:=zF7 (xs:=ns.map D.int) hj (by simpa using h)
  obtain⟨x,_,rfl⟩:=zG.mp m;exact⟨_,e,q x⟩
 ·exact q 0
abbrev jQ:Stmt:=top 24
abbrev Jl:List Str:=["_law_script","_law_k","_law_cell","_law_seed"]
def qZ:FnScope Jl q2 (xr jQ):=⟨rfl,rfl,rfl,x0,rfl,x0,x0⟩
def zd7:TF:=λds n Q=>∃(ns:List Int) (j:Int),ds=[yt ns,.int j]/\ns.length<=63/\0<=j/\j<1000/\∀x y:Int,0<=x->0<=y->y<2147483647->Q (.lst [.int x,.int y]) n
def zM9(T:Blt mg)(ND:base.NoDigits)(F:Fun K "_law_left" "_law_left" jQ f fd)(Y_cell_at:Fn P w K mg base "_law_cell_at" 1 2 YJ):FnOk P w K mg base CX0 2 f fd q2 (spD K 2 zd7):=by
 refine Fun.okD F qZ (λac A0 outer s H E G Z _ hr=>(zO (yZ (i:=2) qZ.nd rfl (lo rfl) (vg Y_cell_at (hr.mono w6) rfl (zc (zm 0) (zc (Zx (zm 1) (wj (UO rfl) zp1 T.max zq4 (zc xo (zc (wj wu kf T.len kh (zc (zm 0) zB)) zB)))) zB))))
  (zO (yZ (i:=3) qZ.nd rfl (lo rfl) (Zx (qu (jn (jn (Zx (zm 2) xo) (qu (qu xo (zm 1)) (zm 1))) xo) xo) xo))
  (xi (wC (jH (zc (Zx (qu (wj QA zF4 T.abs zF6 (zc (zm 2) zB)) (yD UP zp2 T.int QB (zc (Ue xy5 xp3 (wj QA zF4 T.abs zF6 (zc (zm 2) zB)) (Wr xo xo) (kN _)) zB))) (yD (Vt ND) zQ7 T.int QB (zc (Xe QU zI0 qf (Xe zM0 zH7 qf xo)) zB))) (zc (zm 3) zB)))))))) ?_
 rintro ds n Q hl ⟨ns,j,rfl,aa,I,ab,q⟩;have cm:∀{i j:Int},(-(2^64)<i/\i<2^64)->CMul i j:=λh=>.inl h;have cm':∀{i j:Int},(-(2^64)<j/\j<2^64)->CMul i j:=λh=>.inr h
 obtain⟨big,Y,W,U,J⟩:=KP 2000 w6 w6
 have B:(Str.ofString "1").length+(Txt.mul (Str.ofString "0") 2000).length<=sizeLine:=by
  have ec:=XH 2000 w6
  have e1:(Str.ofString "1").length=1:=x0
  have e2:(Str.ofString "1" ++ Txt.mul (Str.ofString "0") 2000).cps.toList.length=(Str.ofString "1").cps.toList.length+(Txt.mul (Str.ofString "0") 2000).cps.toList.length:=by
   rw[<- zD,<- xa];rfl
  rw[ec,zA,xB] at e2;have e3:∀x:Str,x.cps.toList.length=x.length:=λx=>zj;rw[e3,e3] at e2;rw[sizeLine_eq];lia
 simp[wR,yt]
 refine⟨by split<;>lia,ns,_,rfl,yM _ (by split<;>lia),λx=>?_⟩
 have h7:0<=7919*j*j:=Int.mul_nonneg w5 I
 have h8:7919*j*j<=7919*j*1000:=Int.mul_le_mul_of_nonneg_left w5 w5
 simp
 refine⟨cm ⟨w6,w6⟩,cm ⟨w5,w5⟩,cm' ⟨w6,w6⟩,⟨w6,w6,w6⟩,cm' ⟨by(repeat' split)<;>decide,by(repeat' split)<;>decide⟩,Uo 2000 w6 w6,B,?_⟩
 refine⟨_,big,rfl,W,U,J,?_⟩;simp
 exact⟨Y,q _ _ (yM _ w5) (yM _ w6) (Int.emod_lt_of_pos _ w6)⟩
abbrev jP:Stmt:=top 25
abbrev Jk:List Str:=["_law_left_here","_law_many","_law_digit"]
def Yk:FnScope Jk ["_law_left_here","_law_many"] (xr jP):=⟨rfl,rfl,rfl,x0,rfl,x0,x0⟩
def Yi:TF:=λds n Q=>∃m:Int,ds=[.st,.int m]/\kOf n=2/\0<m/\m<10000000/\∀k:Int,0<=k->k<m->Q (.int k) n
def zM6(F:Fun K "_law_pick" "_law_pick" jP f fd):FnOk P w K mg base CX0 1 f fd ["_law_left_here","_law_many"] (spD K 2 Yi):=by
 refine Fun.okD F Yk (λaa A0 outer s H E G Z _ hr=>(zO (ke (kR zw6 zt9 (ZR (i:=0) xo (λ_ _=>rfl)) xo (kN _)) (zO (yZ (i:=2) Yk.nd rfl (lo rfl) (Zx (ZR (i:=0) xo (λ_ _=>rfl)) (zm 1)))
  (zO (VY (i:=0) (zD1 (ZR (i:=0) xo (λ_ _=>rfl)) (zm 1)) xo)
  (xi (wC (zm 2))))) vn)
  (zO (VY (i:=0) (Zx (jn (qu (ZR (i:=0) xo (λ_ _=>rfl)) xo) xo) xo) xo)
  (xi (wC (Zx (Zx (qu (ZR (i:=0) xo (λ_ _=>rfl)) (ZR (i:=0) xo (λ_ _=>rfl))) xo) (zm 1))))))) ?_
 rintro ds n Q hl ⟨m,rfl,hn,hm,Y,q⟩;have I:∀{i j:Int},(-(2^64)<i/\i<2^64)->CMul i j:=λh=>.inl h;simp[wR,hn];intro z0 h0
 split
 ·intro z U
  exact⟨hm,λz1 B=>⟨⟨hm,w5⟩,Int.ediv_nonneg B w5,q _ (yM _ w5) (Int.emod_lt_of_pos _ hm)⟩⟩
 ·intro z U J
  exact⟨I ⟨w5,w5⟩,yM _ w6,Int.emod_lt_of_pos _ w6,λy hy W z1 h1 h1'=>⟨I ⟨w5,w5⟩,hm,q _ (yM _ w5) (Int.emod_lt_of_pos _ hm)⟩⟩
def vy{m:Int}{n:Nat}{Q:D->Nat->Prop}(hn:kOf n=2)(B:0<m)(h1:m<10000000)(h:∀k:Int,0<=k->k<m->Q (.int k) n):Yi [.st,.int m] n Q:=⟨m,rfl,hn,B,h1,h⟩
end
abbrev Thing:=Int × List Int × Int
def xh(t:Thing):D:=.tup [.int t.1,vo t.2.1,.int t.2.2]
abbrev zR5:=Option Int × Option Int
def KS(p:zR5):D:=.tup [xn2 p.1,xn2 p.2]
def kP(ps:List zR5):D:=.tup (ps.map KS)
@[simp] theorem xf5:xn2 none=.non:=rfl
@[simp] theorem xf4{i:Int}:xn2 (some i)=.int i:=rfl
def zr4(B:QqI)(i:Nat):List Int:=B.map λq=>q[i]?.getD 0
def JC(m:Nat):JD 0 m=(List.range m).map λi=>.int (i:Int):=by unfold JD;simp
open Classical in
noncomputable def zO2(ns:List Int):Int:=if h:∃M,M∈ns/\∀a∈ns,M<=a then choose h else 0
open Classical in
noncomputable def zO5(ns:List Int):Int:=if h:∃M,M∈ns/\∀a∈ns,a<=M then choose h else 0
def zj3{ns:List Int}(h:∃M,M∈ns/\∀a∈ns,M<=a):zO2 ns∈ns/\∀a∈ns,zO2 ns<=a:=by unfold zO2;rw[dif_pos h];exact Classical.choose_spec h
def zj7{ns:List Int}(h:∃M,M∈ns/\∀a∈ns,a<=M):zO5 ns∈ns/\∀a∈ns,a<=zO5 ns:=by unfold zO5;rw[dif_pos h];exact Classical.choose_spec h
def zO1{ns:List Int}{M:Int}(h1:M∈ns)(h2:∀a∈ns,M<=a):M=zO2 ns:=by
 obtain⟨h3,h4⟩:=zj3 ⟨M,h1,h2⟩;have:=h2 _ h3;have:=h4 _ h1;lia
def zO4{ns:List Int}{M:Int}(h1:M∈ns)(h2:∀a∈ns,a<=M):M=zO5 ns:=by
 obtain⟨h3,h4⟩:=zj7 ⟨M,h1,h2⟩;have:=h2 _ h3;have:=h4 _ h1;lia
def za5{ns:List Int}{k:D->Prop}(h:0<ns.length)(q:k (.int (zO2 ns))):xd2 [.lst (ns.map D.int)] k:=⟨ns,rfl,h,λM h1 h2=>by rw[zO1 h1 h2];exact q⟩
def za6{ns:List Int}{k:D->Prop}(h:0<ns.length)(q:k (.int (zO5 ns))):xd4 [.lst (ns.map D.int)] k:=⟨ns,rfl,h,λM h1 h2=>by rw[zO4 h1 h2];exact q⟩
theorem qD{α:Type}{lt:α->α->Prop}(irr:∀a,¬ lt a a)(tr:∀a b c,lt a b->lt b c->lt a c):∀{l1 l2:List α},l1.Perm l2->l1.Pairwise lt->l2.Pairwise lt->l1=l2
 |[],l2,p,_,_=>(List.nil_perm.mp p).symm
 |a::l1,[],p,_,_=>by simp at p
 | a :: l1, b :: l2, p, h1, h2 => by
  have ha:a∈b::l2:=p.mem_iff.mp (zq ..);have B:b∈a::l1:=p.mem_iff.mpr (zq ..)
  have e:a=b:=by
   rcases zg.mp ha with h |h
   ·exact h
   ·rcases zg.mp B with h' | h'
    ·exact h'.symm
    ·exact absurd (tr _ _ _ ((wk.mp h1).1 b h') ((wk.mp h2).1 a h)) (irr a)
  subst e;rw[qD irr tr (List.perm_cons _ |>.mp p) (wk.mp h1).2 (wk.mp h2).2]
def rot(i:Nat)(p:List Int):List Int:=p.drop i++p.take i
def Kr(i:Nat)(t:Thing):SRow:=⟨.t (rot i t.2.1),t.1,[]⟩
def Qt(xs:List D)(b:Nat)(B:b<=xs.length):Ka xs (some (b:Int)) none=xs.drop b:=by
 unfold Ka
 rw[HT.zf2,HT.Jz,Nat.min_eq_left B,wW (by rw[wO];lia)]
def zp0(xs:List D)(e:Nat)(he:e<=xs.length):Ka xs none (some (e:Int))=xs.take e:=by
 unfold Ka;rw[HT.zf2,HT.Jz,Nat.min_eq_left he,yx,Nat.sub_zero]
def jD{α β:Type}{f:α->β}:∀{l:List β}{ts:List α},l.Perm (ts.map f)->∃B:List α,B.Perm ts/\l=B.map f:=by
 intro l ts h;generalize hm:ts.map f=m at h
 induction h generalizing ts with
 |nil=>
  cases ts with
  |nil=>exact⟨[],.nil,rfl⟩
  |cons _ _=>simp at hm
 | cons x p ih =>
  cases ts with
  |nil=>simp at hm
  |cons a ts=>
   obtain⟨W,U⟩:=List.cons.inj hm;obtain⟨B,h1,rfl⟩:=ih U
   exact⟨a::B,h1.cons a,by rw[<- W];rfl⟩
 | swap x y l =>
  cases ts with
  |nil=>simp at hm
  | cons a ts =>
   cases ts with
   |nil=>simp at hm
   |cons b ts=>
    obtain⟨W,U⟩:=List.cons.inj hm;obtain⟨e3,e4⟩:=List.cons.inj U
    exact⟨b::a::ts,.swap a b ts,by rw[<- W,<- e3,<- e4];rfl⟩
 |trans p q J I=>
  obtain⟨r2,h2,rfl⟩:=I hm;obtain⟨Y,h1,rfl⟩:=J rfl;exact⟨Y,h1.trans h2,rfl⟩
structure OrdT(i:Nat)(ts rs:List Thing):Prop where
 perm:rs.Perm ts
 up:rs.Pairwise λa b=>(Kr i a).lt (Kr i b)=true
structure GoodU(d:Nat)(ts:List Thing):Prop where
 each:∀t∈ts,t.2.1.length=d
 nd:(ts.map λt=>t.1).Nodup
def GoodU.perm{d:Nat}{ts B:List Thing}(h:GoodU d ts)(p:B.Perm ts):GoodU d B:=⟨λt I=>h.each t (p.mem_iff.mp I),(p.map _).nodup_iff.mpr h.nd⟩
def GoodU.sub{d:Nat}{ts B:List Thing}(h:GoodU d ts)(p:B.Sublist ts):GoodU d B:=⟨λt I=>h.each t (p.mem I),(p.map _).nodup h.nd⟩
def kU(t:Thing):Key:=Sum.inl t.1
def byN(ts:List Thing):D:=.dct (ts.map kU) (ts.map xh)
@[simp] theorem xH3(ts:List Thing):vd (byN ts)=true:=id rfl
theorem ZZ:∀{ts:List Thing}{x:Int},x ∉ ts.map (λt=>t.1)->zz2 (ts.map kU) (Sum.inl x)=false
 |[],x,_=>rfl
 |t::ts,x,h=>by
  have h1:¬ t.1=x:=λe=>h (by simp[e])
  have B:=ZZ (ts:=ts) (x:=x) λz=>h (zf _ z);show(decide (kU t=Sum.inl x)||zz2 (ts.map kU) (Sum.inl x))=false;rw[B,Bool.or_false];exact xf λe=>h1 (Sum.inl.inj e)
theorem XN:∀{ts:List Thing}{t:Thing},t∈ts->(ts.map λt=>t.1).Nodup->atK (ts.map kU) (ts.map xh) (Sum.inl t.1)=some (xh t)
 |[],t,h,_=>by simp at h
 | s :: ts, t, h, hn => by
  have hn':=zV.mp hn
  show(if kU s=Sum.inl t.1 then some (xh s) else atK (ts.map kU) (ts.map xh) (Sum.inl t.1))=_
  rcases zg.mp h with rfl |h
  ·exact if_pos rfl
  ·have : ¬ kU s = Sum.inl t.1 := λe => by
    have e':s.1=t.1:=Sum.inl.inj e;exact hn'.1 (zG.mpr ⟨t,h,e'.symm⟩)
   rw[if_neg this];exact XN h hn'.2
def qv(ts:List Thing):D:=.tup (ts.map λt=>.int t.1)
@[simp] theorem xb8(ts:List Thing):vd (qv ts)=true:=id rfl
@[simp] theorem xb7(ps:List zR5):vd (kP ps)=true:=id rfl
@[simp] theorem xb6(p:List Int):vd (vo p)=true:=id rfl
@[simp] theorem xb5(t:Thing):vd (xh t)=true:=id rfl
noncomputable def zS8(d:Nat)(B:QqI):List zR5:=(List.range d).map λi=>(some (zO2 (zr4 B i)),some (zO5 (zr4 B i)))
inductive Tr where
 |one (name:Int) (bd:List zR5)
 |two (ns:List Int) (bd:List zR5) (low high:Tr)
def Wh:Tr->D
 |.one x B=>.tup [.tup [.int x],kP B,.non,.non]
 |.two ns B l h=>.tup [.tup (ns.map D.int),kP B,Wh l,Wh h]
inductive Turned(d:Nat):Nat->List Thing->Tr->Prop where
  |one {i:Nat}{t:Thing}:Turned d i [t] (.one t.1 (zS8 d [t.2.1]))
  |two {i:Nat}{ts rs:List Thing}{ns:List Int}{low high:Tr}:2<=ts.length->ns.Perm (ts.map λt=>t.1)->ns.Pairwise (·<=·)->OrdT i ts rs->Turned d ((i+1)%d) (rs.take ((ts.length+1)/2)) low->Turned d ((i+1)%d) (rs.drop ((ts.length+1)/2)) high ->
      Turned d i ts (.two ns (zS8 d (ts.map λt=>t.2.1)) low high)
section
variable {P:Program}{w:World}{K:W.Frag}{mg:QqM}{base:Heap}{f:Addr}{fd:FuncData}
abbrev kH:Stmt:=top 8
abbrev kL:List Str:=["house"]
def ZG:FnScope kL q1 (xr kH):=⟨rfl,rfl,rfl,x0,rfl,x0,x0⟩
def Ze:("thing" :: kL:List Str).Nodup:=x0
def zG2:TF:=λds n Q=>∃(B:D) (ts:List Thing),ds=[.tup [B,.tup (ts.map xh)]]/\(ts.map λt=>t.1).Nodup/\ts.length<=1000/\Q (byN ts) n
def xa9(T:Blt mg)(F:Fun K "things_by_name" "things_by_name" kH f fd):FnOk P w K mg base CX0 1 f fd q1 (spD K 1 zG2):=by
 refine Fun.okD F ZG (λaa A0 outer s H E G Z _ hr=>(xi (wC (zw4 (own:=["thing"]) (M:=kL) (vQ (by rfl)) rfl (vf rfl (Zc kX jZ (zm 0) xo (λ_ _=>rfl))) (λC I U J=>(xQ (i:=0) Ze rfl (lo rfl) w6)) (λC I U J=>vc) (λC I U J=>(Zc kX jZ (zm 0) xo (λ_ _=>rfl))) (λC I U J=>(zm 0)))))) ?_
 rintro ds n Q hl ⟨dd,ts,rfl,hn,Y,q⟩;have e1:atI [dd,D.tup (ts.map xh)] 1=some (D.tup (ts.map xh)):=rfl;simp[wR,e1]
 refine⟨by rw[zh];exact wZ Y,λi ks es n'=>n'=n/\ks=(ts.take i).map kU/\es=(ts.take i).map xh,⟨rfl,rfl,rfl⟩,?_,?_⟩
 ·rintro i d ks es n' e ⟨rfl, rfl, rfl⟩;rw[zI] at e
  cases B:ts[i]? with
  |none=>rw[B] at e;cases e
  | some t =>
   rw[B] at e;cases e;have W:vd (xh t)=true:=rfl;simp[W];have e2:∀R:D->Prop,R (.int t.1)->zR9 (xh t) (.int 0) R:=λR h=>⟨_,_,_,.inr (.inl rfl),rfl,rfl,h⟩;refine e2 _ ?_;refine⟨_,rfl,?_,?_⟩
   ·have hk : zz2 ((ts.take i).map kU) (Sum.inl t.1) = false := ZZ λhm => by
     have h3:(ts.take i++[t]).Sublist ts:=by
      have:ts.take i++[t]=ts.take (i+1):=by rw[xp,B];rfl
      rw[this];exact yT ..
     have h4:=(h3.map λt=>t.1).nodup hn;rw[xI,xu] at h4
     exact h4.2.2 _ hm _ (by simp) rfl
    unfold WX;rw[yP] at hk
    rw[if_neg (by rw[hk];simp),xp,zI,B];rfl
   ·have hk : zz2 ((ts.take i).map kU) (Sum.inl t.1) = false := ZZ λhm => by
     have h3:(ts.take i++[t]).Sublist ts:=by
      have:ts.take i++[t]=ts.take (i+1):=by rw[xp,B];rfl
      rw[this];exact yT ..
     have h4:=(h3.map λt=>t.1).nodup hn;rw[xI,xu] at h4
     exact h4.2.2 _ hm _ (by simp) rfl
    unfold zg2;rw[yP] at hk
    rw[if_neg (by rw[hk];simp),xp,zI,B];rfl
 ·rintro ks es n' ⟨rfl,rfl,rfl⟩;rw[zh,wq];exact q
abbrev ZK:Stmt:=top 10
abbrev qB:List Str:=["things","i"]
def Ko:FnScope qB ["things","i"] (xr ZK):=⟨rfl,rfl,rfl,x0,rfl,x0,x0⟩
def qN:("name" :: "place" :: "worth" :: qB:List Str).Nodup:=x0
def ZA:("turned" :: "name" :: qB:List Str).Nodup:=x0
def ZE:TF:=λds n Q=>∃(i d:Nat) (ts:List Thing) (B:D),ds=[B,.int i]/\(B=.lst (ts.map xh)\/B=.tup (ts.map xh))/\i<d/\d<=4/\GoodU d ts/\ts.length<500/\∀I:List Thing,OrdT i ts I->Q (qv I) n
def Kz(T:Blt mg)(F:Fun K "names_by" "names_by" ZK f fd):FnOk P w K mg base CX0 1 f fd ["things","i"] (spD K 2 ZE):=by
 refine Fun.okD F Ko (λac A0 outer s H E G Z _ hr=>(xi (wC (yD wJ vK T.tuple vw (zc (vT (own:=["turned","name"]) (M:=qB) (vQ (by rfl)) rfl (vf rfl (wj (Yh hr) (zA5 rfl) T.sorted kZ (zc (vT (own:=["name","place","worth"]) (M:=qB) (vQ (by rfl)) rfl (vf rfl (zm 0)) (λC B Y W=>(ZP (k:=3) rfl rfl (yc (xQ (i:=0) qN rfl (lo rfl) w6) (yc (xQ (i:=1) qN rfl (lo rfl) w6) (yc (xQ (i:=2) qN rfl (lo rfl) w6) kO))))) (λC B Y W=>vc) (λC B Y W=>(jk (zc (Xe zw8 zH9 (JQ rfl (zm 1) (Zu (zm 4)) Zv) (JQ rfl (zm 1) Zv (Zu (zm 4)))) (zc (zm 0) zB))))) zB))) (λC B Y W=>(ZP (k:=2) rfl rfl (yc (xQ (i:=0) ZA rfl (lo rfl) w6) (yc (xQ (i:=1) ZA rfl (lo rfl) w6) kO)))) (λC B Y W=>vc) (λC B Y W=>(zm 1))) zB))))) ?_
 rintro ds n Q hl ⟨i,d,ts,dd,rfl,U,hi,hd,hg,hz,q⟩
 have aa:vd dd=true:=by rcases U with rfl |rfl<;>rfl
 simp[wR,aa];refine⟨_,U,?_⟩
 refine yK xh (λt=>(Kr i t).d) ts (wZ w5) (λt ht R hR=>?_) ?_
 ·have he := hg.each t ht;obtain⟨x,p,y⟩:=t;have hp:p.length=d:=he
  have c1:=Qt (p.map D.int) i (by rw[zh];lia)
  have c2:=zp0 (p.map D.int) i (by rw[zh];lia)
  simp[xh,vo,c1,c2]
  refine⟨wZ w5,?_⟩
  have e:(Kr i (x,p,y)).d=D.tup [D.tup (List.drop i (List.map D.int p)++List.take i (List.map D.int p)),D.int x]:=by
   show D.tup [D.tup ((rot i p).map D.int),D.int x]=_;unfold rot;rw[xI,map_drop,yP]
  rw[<- e];exact hR
 ·refine ⟨ts.map (Kr i), false, by rw [zQ]; rfl, by rw [zh]; lia, ?_, ?_, λI hp hs => ⟨_, .inl rfl, ?_⟩⟩
  ·intro x hx;obtain⟨t,_,rfl⟩:=zG.mp hx;rfl
  ·rw[zQ];exact hg.nd
  ·have J : I.length = ts.length := by rw [hp.length_eq, zh]
   obtain⟨rs,ab,rfl⟩:=jD hp;rw[zh] at J;rw[zQ]
   refine yK (SRow.d∘Kr i) (λt:Thing=>.int t.1) rs (wZ w5) (λt ht R hR=>?_) ?_
   ·have e:(SRow.d∘Kr i) t=.tup [.tup ((rot i t.2.1).map D.int),.int t.1]:=rfl;rw[e];simp;exact hR
   ·simp
    exact q rs ⟨ab,by rw[xy] at hs;exact hs⟩
abbrev kI:Stmt:=top 11
abbrev kM:List Str:=["by_name","names","i"]
def ZH:FnScope kM q5 (xr kI):=⟨rfl,rfl,rfl,x0,rfl,x0,x0⟩
def Zf:("name" :: kM:List Str).Nodup:=x0
def ZF:TF:=λds n Q=>∃(i d:Nat) (B ts:List Thing),ds=[byN B,qv ts,.int i]/\i<d/\d<=4/\(B.map λt=>t.1).Nodup/\(∀t∈ts,t∈B)/\GoodU d ts/\ts.length<500/\∀I:List Thing,OrdT i ts I->Q (qv I) n
def KA(F:Fun K "names_in_order" "names_in_order" kI f fd)(F_names_by:Fn P w K mg base "names_by" 1 2 ZE):FnOk P w K mg base CX0 2 f fd q5 (spD K 3 ZF):=by
 refine Fun.okD F ZH (λaa A0 outer s H E G Z _ J=>(xi (wC (vg F_names_by (J.mono w6) rfl (zc (vT (own:=["name"]) (M:=kM) (vQ (by rfl)) rfl (vf rfl (zm 1)) (λC I W U=>(xQ (i:=0) Zf rfl (lo rfl) w6)) (λC I W U=>vc) (λC I W U=>(zD0 (vC J) (zm 1) (zm 0) (λ_ _=>rfl)))) (zc (zm 2) zB)))))) ?_
 rintro ds n Q hl ⟨i,d,hs,ts,rfl,hi,hd,hn,B,hg,Y,q⟩;simp[wR];refine⟨_,.inr rfl,?_⟩
 refine yK (λt:Thing=>.int t.1) xh ts (wZ w5) (λt ht R hR=>?_) ?_
 ·simp;unfold byN;rw[zf8];exact⟨_,XN (B t ht) hn,hR⟩
 ·exact⟨i,d,ts,_,rfl,.inl rfl,hi,hd,hg,Y,q⟩
abbrev jM:Stmt:=top 12
abbrev Jj:List Str:=["count"]
def VM:FnScope Jj ["count"] (xr jM):=⟨rfl,rfl,rfl,x0,rfl,x0,x0⟩
def jJ:TF:=λds n Q=>∃c:Nat,ds=[.int c]/\Q (.int (((c+1)/2:Nat):Int)) n
def Ug(F:Fun K "halved_up" "halved_up" jM f fd):FnOk P w K mg base CX0 1 f fd ["count"] (spD K 1 jJ):=by
 refine Fun.okD F VM (λB U outer s H E G Z _ I=>(xi (wC (zD1 (jn (zm 0) xo) xo)))) ?_;rintro ds n Q J ⟨c,rfl,q⟩
 have e:((c:Int)+1)/2=((c+1)/2:Nat):=w5
 simp[wR]
 exact⟨⟨w6,w6⟩,by rw[e];exact q⟩
abbrev WU:Stmt:=top 2
abbrev qV:List Str:=["places","columns"]
def VO:FnScope qV ["places"] (xr WU):=⟨rfl,rfl,rfl,x0,rfl,x0,x0⟩
def KG:("i" :: qV:List Str).Nodup:=x0
def KF:("place" :: ("i" :: qV):List Str).Nodup:=x0
def KD:("column" :: qV:List Str).Nodup:=x0
def YK:TF:=λds n Q=>∃(B:QqI) (d:Nat),ds=[.lst (B.map vo)]/\1<=B.length/\B.length<=1000/\d<=1000/\(∀q∈B,q.length=d)/\Q (kP (zS8 d B)) n
def QX(T:Blt mg)(F:Fun K "bounds" "bounds" WU f fd):FnOk P w K mg base CX0 1 f fd ["places"] (spD K 1 YK):=by
 refine Fun.okD F VO (λad A0 outer s H E G Z _ hr=>(zO (qI (i:=1) VO.nd rfl (lo rfl) (own:=["i"]) (M:=qV) (vQ (by rfl)) rfl (Xd T.range (zc (wj wu kf T.len kh (zc (Zc kX jZ (zm 0) xo (λ_ _=>rfl)) zB)) zB)) (λC J W U=>(xQ (i:=0) KG rfl (lo rfl) w6)) (λC J W U=>vc) (λC J W U=>(vT (own:=["place"]) (M:=("i" :: qV)) (vQ (by rfl)) rfl (vf rfl (zm 1)) (λC J W U=>(xQ (i:=0) KF rfl (lo rfl) w6)) (λC J W U=>vc) (λC J W U=>(Zc kX jZ (zm 0) (zm 1) (λ_ _=>rfl))))))
  (xi (wC (yD wJ vK T.tuple vw (zc (vT (own:=["column"]) (M:=qV) (vQ (by rfl)) rfl (vf rfl (zm 1)) (λC J W U=>(xQ (i:=0) KD rfl (lo rfl) w6)) (λC J W U=>vc) (λC J W U=>(jk (zc (wj (zq0 rfl) zQ5 T.min zF5 (zc (zm 0) zB)) (zc (wj (zq1 rfl) zQ6 T.max zq4 (zc (zm 0) zB)) zB))))) zB)))))) ?_
 rintro ds n Q hl ⟨qs,d,rfl,h1,h2,hd,hq,q⟩
 obtain⟨B,I,rfl⟩:∃B I,qs=B::I:=by cases qs with |nil=>simp at h1 |cons B I=>exact⟨B,I,rfl⟩
 have ab:B.length=d:=hq B (zq ..)
 have hk:∀k:D->Prop,k (.int d)->zO9 [vo B] k:=λk h=>by unfold vo;rw[zf9,zh,ab];exact h
 simp[wR];refine hk _ ?_;simp
 refine⟨w5,?_⟩
 rw[JC]
 refine yK (λi:Nat=>D.int (i:Int)) (λi=>.lst ((zr4 (B::I) i).map D.int)) (List.range d) (by rw[yp];exact wZ hd) (λi hi R hR=>?_) ?_
 ·have hi' : i < d := yY.mp hi;simp;rw[<- zz (f:=vo)]
  have e:(zr4 (B::I) i).map D.int=(B::I).map λq=>.int (q[i]?.getD 0):=by unfold zr4;rw[zQ];rfl
  refine yK vo (λq=>.int (q[i]?.getD 0)) (B::I) (wZ h2) (λq Y R2 ac=>?_) ?_
  ·have nq : vd (vo q) = true := rfl
   have aa:i<q.length:=by rw[hq q Y];exact hi'
   simp[nq];unfold vo;rw[zI6];refine⟨.int (q[i]?.getD 0),XO ?_,ac⟩;rw[zI,zn aa];rfl
  ·rw[<- e];exact hR
 ·simp
  refine yK (λi=>.lst ((zr4 (B::I) i).map D.int)) (λi=>KS (some (zO2 (zr4 (B::I) i)),some (zO5 (zr4 (B::I) i)))) (List.range d) (by rw[yp];exact wZ hd) (λi hi R hR=>?_) ?_
  ·have hc : 0 < (zr4 (B :: I) i).length := by unfold zr4; rw [zh]; exact h1
   simp;exact za5 hc (za6 hc hR)
  ·have z:=q;unfold kP zS8 at z;rw[zQ] at z;exact kD.mpr z
abbrev jN:Stmt:=top 14
abbrev Zi:List Str:=["by_name","names"]
def VN:FnScope Zi q6 (xr jN):=⟨rfl,rfl,rfl,x0,rfl,x0,x0⟩
def XV:("name" :: Zi:List Str).Nodup:=x0
def jK:TF:=λds n Q=>∃(d:Nat) (B ts:List Thing),ds=[byN B,qv ts]/\d<=4/\(B.map λt=>t.1).Nodup/\(∀t∈ts,t∈B)/\(∀t∈ts,t.2.1.length=d)/\1<=ts.length/\ts.length<500/\Q (kP (zS8 d (ts.map λt=>t.2.1))) n
def Ui(F:Fun K "bounds_of" "bounds_of" jN f fd)(F_bounds:Fn P w K mg base "bounds" 1 1 YK):FnOk P w K mg base CX0 2 f fd q6 (spD K 2 jK):=by
 refine Fun.okD F VN (λaa A0 outer s H E G Z _ W=>(xi (wC (vg F_bounds (W.mono w6) rfl (zc (vT (own:=["name"]) (M:=Zi) (vQ (by rfl)) rfl (vf rfl (zm 1)) (λC U H2 Y=>(xQ (i:=0) XV rfl (lo rfl) w6)) (λC U H2 Y=>vc) (λC U H2 Y=>(Zc kX jZ (zD0 (vC W) (zm 1) (zm 0) (λ_ _=>rfl)) xo (λ_ _=>rfl)))) zB))))) ?_
 rintro ds n Q hl ⟨d,hs,ts,rfl,hd,hn,B,I,h1,hz,q⟩;simp[wR];refine⟨_,.inr rfl,?_⟩
 refine yK (λt:Thing=>.int t.1) (λt=>vo t.2.1) ts (wZ w5) (λt J R hR=>?_) ?_
 ·simp;unfold byN;rw[zf8];exact⟨_,XN (B t J) hn,⟨_,_,_,.inr (.inl rfl),rfl,rfl,hR⟩⟩
 ·refine ⟨ts.map λt => t.2.1, d, by rw [zQ]; rfl, by simpa using h1, by simp; lia, by lia, λp hp => ?_, q⟩
  obtain⟨t,J,rfl⟩:=zG.mp hp;exact I t J
abbrev YQ:Stmt:=top 15
abbrev zr0:List Str:=["d","by_name","names","i","rising","limits","ordered","half","turn"]
def kQ:FnScope zr0 q7 (xr YQ):=⟨rfl,rfl,rfl,x0,rfl,x0,x0⟩
def VC:Nat->TF
 |0=>λ_ _ _=>False
 |j+1=>λds n Q=>∃(d i:Nat) (B ts:List Thing),ds=[.int d,byN B,qv ts,.int i]/\i<d/\d<=4/\(B.map λt=>t.1).Nodup/\(∀t∈ts,t∈B)/\GoodU d ts/\1<=ts.length/\ts.length<500/\ts.length<=2^j/\∀tr,Turned d i ts tr->Q (Wh tr) n
def zM4(T:Blt mg)(F:Fun K "tree_of" "tree_of" YQ f fd)(hm:mg "tree_of" = some (.ref f))(hk:W.keepIn K (.ref f)=true)(hb:Binds K fd ["d","by_name","names","i"] [])(F_bounds_of:Fn P w K mg base "bounds_of" 2 2 jK)(F_names_in_order:Fn P w K mg base "names_in_order" 2 3 ZF)(F_halved_up:Fn P w K mg base "halved_up" 1 1 jJ):∀j:Nat,FnOk P w K mg base CX0 (j+2) f fd q7 (spD K 4 (VC j)):=by
 intro j
 induction j with
 |zero=>exact FnOk.botK λds n Q h=>h
 | succ j ih =>
  have F_tree_of:Fn P w K mg base "tree_of" (j+2) 4 (VC j):=⟨f,fd,_,ih,hm,hk,hb⟩
  refine Fun.okD F kQ (λaf A0 outer s H E G Z _ hr=>(zO (yZ (i:=4) kQ.nd rfl (lo rfl) (yD wJ vK T.tuple vw (zc (wj UN (zb4 rfl) T.sorted kZ (zc (zm 2) zB)) zB)))
  (zO (yZ (i:=5) kQ.nd rfl (lo rfl) (vg F_bounds_of (hr.mono w5) rfl (zc (zm 1) (zc (zm 2) zB))))
  (zO (ke (kR zw7 zu0 (wj wu kf T.len kh (zc (zm 2) zB)) xo (kN _)) (xi (wC (jk (zc (zm 4) (zc (zm 5) (zc zi2 (zc zi2 zB))))))) vn)
  (zO (yZ (i:=6) kQ.nd rfl (lo rfl) (vg F_names_in_order (hr.mono w5) rfl (zc (zm 1) (zc (zm 2) (zc (zm 3) zB)))))
  (zO (yZ (i:=7) kQ.nd rfl (lo rfl) (vg F_halved_up (hr.mono w5) rfl (zc (wj wu kf T.len kh (zc (zm 2) zB)) zB)))
  (zO (yZ (i:=8) kQ.nd rfl (lo rfl) (Zx (jn (zm 3) xo) (zm 0)))
  (xi (wC (jk (zc (zm 4) (zc (zm 5) (zc (vg F_tree_of hr rfl (zc (zm 0) (zc (zm 1) (zc (JQ rfl (zm 6) Zv (Zu (zm 7))) (zc (zm 8) zB))))) (zc (vg F_tree_of hr rfl (zc (zm 0) (zc (zm 1) (zc (JQ rfl (zm 6) (Zu (zm 7)) Zv) (zc (zm 8) zB))))) zB)))))))))))))) ?_
  rintro ds n Q hl ⟨d,i,hs,ts,rfl,hi,hd,hn,B,hg,h1,hz,hj,q⟩
  have ab:qv ts=.tup ((ts.map λt=>t.1).map D.int):=by unfold qv;rw[zQ];rfl
  have kl:∀k:D->Prop,k (.int (ts.length:Int))->zO9 [qv ts] k:=λk h=>by unfold qv;rw[zf9,zh];exact h
  simp[wR]
  refine⟨ts.map λt=>t.1,congrArg (λx=>[x]) ab,by rw[zh];lia,λns hp hs'=>?_⟩
  simp;refine⟨d,hs,ts,rfl,hd,hn,B,hg.each,h1,hz,?_⟩;have np:vd (kP (zS8 d (ts.map λt=>t.2.1)))=true:=rfl;simp;refine kl _ ?_;simp
  split
  ·rename_i h2
   have h2':ts.length=1:=w5
   obtain⟨t,rfl⟩:=List.length_eq_one_iff.mp h2'
   have e1:ns=[t.1]:=by simpa using hp
   subst e1;simp;exact q _ .one
  ·rename_i h2
   have h2':2<=ts.length:=w5
   refine⟨i,d,hs,ts,rfl,hi,hd,hn,B,hg,hz,λY ho=>?_⟩;have ae:Y.length=ts.length:=ho.perm.length_eq;simp;refine kl _ ⟨ts.length,rfl,?_⟩;simp[np]
   refine⟨w5,?_⟩
   cases j with
   |zero=>simp at hj;lia
   | succ j =>
    have et:((i:Int)+1)%(d:Int)=(((i+1)%d:Nat):Int):=by simp
    have U:Ka (Y.map λt=>D.int t.1) none (some (((ts.length+1)/2:Nat):Int))=(Y.take ((ts.length+1)/2)).map λt=>D.int t.1:=by rw[zp0 _ _ (by rw[zh];lia),yP]
    have J:Ka (Y.map λt=>D.int t.1) (some (((ts.length+1)/2:Nat):Int)) none=(Y.drop ((ts.length+1)/2)).map λt=>D.int t.1:=by rw[Qt _ _ (by rw[zh];lia),map_drop]
    have gr:=hg.perm ho.perm
    have pw:2^(j+1)=2*2^j:=by rw[wE];lia
    have part:∀(us:List Thing) (n:Nat) (R:D->Nat->Prop),us.Sublist Y->1<=us.length->us.length<=(ts.length+1)/2->(∀tr,Turned d ((i+1)%d) us tr->R (Wh tr) n)->VC (j+1) [.int d,byN hs,qv us,.int (((i+1)%d:Nat):Int)] n R:=λus n R hu h3 h4 hR=>
     ⟨d,(i+1)%d,hs,us,rfl,Nat.mod_lt _ w5,hd,hn,λt ht=>B t (ho.perm.mem_iff.mp (hu.mem ht)),gr.sub hu,h3,w5,w5,hR⟩
    have eh:((ts.length:Int)+1)/2=(((ts.length+1)/2:Nat):Int):=w5
    unfold qv;rw[zf6,eh,et,U]
    refine part _ _ _ (yT ..) (by rw[xl];lia) (by rw[xl];lia) λad aa=>?_
    rw[zf6,J]
    refine part _ _ _ (List.drop_sublist ..) (by rw[wO];lia) (by rw[wO];lia) λac I=>?_
    exact q _ (.two h2' hp hs' ho aa I)
abbrev jO:Stmt:=top 16
abbrev Zj:List Str:=["house"]
def VP:FnScope Zj q1 (xr jO):=⟨rfl,rfl,rfl,x0,rfl,x0,x0⟩
def qj:("name" :: "place" :: "worth" :: Zj:List Str).Nodup:=x0
def jL:TF:=λds n Q=>∃(B:D) (ts:List Thing),ds=[.tup [B,.tup (ts.map xh)]]/\ts.length<=1000/\Q (qv ts) n
def Uj(T:Blt mg)(F:Fun K "all_names" "all_names" jO f fd):FnOk P w K mg base CX0 1 f fd q1 (spD K 1 jL):=by
 refine Fun.okD F VP (λaa A0 outer s H E G Z _ hr=>(xi (wC (yD wJ vK T.tuple vw (zc (vT (own:=["name","place","worth"]) (M:=Zj) (vQ (by rfl)) rfl (vf rfl (Zc kX jZ (zm 0) xo (λ_ _=>rfl))) (λC B J I=>(ZP (k:=3) rfl rfl (yc (xQ (i:=0) qj rfl (lo rfl) w6) (yc (xQ (i:=1) qj rfl (lo rfl) w6) (yc (xQ (i:=2) qj rfl (lo rfl) w6) kO))))) (λC B J I=>vc) (λC B J I=>(zm 0))) zB))))) ?_
 rintro ds n Q hl ⟨dd,ts,rfl,U,q⟩;have Y:atI [dd,D.tup (ts.map xh)] 1=some (D.tup (ts.map xh)):=rfl;simp[wR,Y];refine yK xh (λt=>.int t.1) ts (wZ U) (λt ht R W=>?_) ?_
 ·simp[xh];exact W
 ·exact kD.mpr q
abbrev Kq:Stmt:=top 17
abbrev zR6:List Str:=["house","d","things"]
def WN:FnScope zR6 q1 (xr Kq):=⟨rfl,rfl,rfl,x0,rfl,x0,x0⟩
def Kf:TF:=λds n Q=>∃(d:Nat) (ts:List Thing),ds=[.tup [.int d,.tup (ts.map xh)]]/\1<=d/\d<=4/\GoodU d ts/\ts.length<500/\(ts=[]->Q .non n)/\(ts≠[]->∀tr,Turned d 0 ts tr->Q (Wh tr) n)
def zw9(T:Blt mg)(F:Fun K "turns" "turns" Kq f fd)(F_tree_of:Fn P w K mg base "tree_of" 12 4 (VC 10))(F_things_by_name:Fn P w K mg base "things_by_name" 1 1 zG2)(F_all_names:Fn P w K mg base "all_names" 1 1 jL):FnOk P w K mg base CX0 13 f fd q1 (spD K 1 Kf):=by
 refine Fun.okD F WN (λaa A0 outer s H E G Z _ I=>(zO (YY (m:=3) (zm 0) (ZP (k:=2) rfl rfl (yc (xQ (i:=1) WN.nd rfl (lo rfl) w6) (yc (xQ (i:=2) WN.nd rfl (lo rfl) w6) kO))))
  (zO (ke (kR zw7 zu0 (wj wu kf T.len kh (zc (zm 2) zB)) xo (kN _)) (xi (wC zi2)) vn)
  (xi (wC (vg F_tree_of (I.mono w6) rfl (zc (zm 1) (zc (vg F_things_by_name (I.mono w6) rfl (zc (zm 0) zB)) (zc (vg F_all_names (I.mono w6) rfl (zc (zm 0) zB)) (zc xo zB)))))))))) ?_
 rintro ds n Q hl ⟨d,ts,rfl,h1,hd,J,Y,W,U⟩;simp[wR]
 split
 ·rename_i h;exact W h
 ·rename_i h
  refine⟨_,ts,rfl,J.nd,w5,?_⟩
  simp
  refine⟨_,ts,rfl,w5,?_⟩
  have B:1<=ts.length:=by
   cases ts with
   |nil=>exact absurd rfl h
   |cons a b=>simp
  exact⟨d,0,ts,ts,rfl,w5,hd,J.nd,λt ht=>ht,J,B,Y,by show ts.length<=512;lia,U h⟩
end
structure Pt where
 r:Nat
 a:Addr
 g:Addr
 ts:List Thing
 gs:List (Int × D)
def pF(ts:List Thing)(h tr:D)(g:Addr):List (Str × D):=[("things",.lst (ts.map xh)),("held",h),("tree",tr),("gone",.rf g)]
def UZ(gs:List (Int × D))(t:Thing):Bool:=(vG t.1 gs).isNone
def Pt.left(p:Pt):List Thing:=p.ts.filter (UZ p.gs)
structure PartAt(CP:Addr)(n:Nat)(p:Pt):Prop where
 i:∃h tr,zW n p.a=some (.ins CP (pF p.ts h tr p.g))
 g:zW n p.g=some (.dic p.gs)
@[simp] theorem ne1:(("things" : Str) = "held")=False:=eq_false x0
@[simp] theorem ne2:(("things" : Str) = "tree")=False:=eq_false x0
@[simp] theorem ne3:(("things" : Str) = "gone")=False:=eq_false x0
@[simp] theorem ne4:(("held" : Str) = "tree")=False:=eq_false x0
@[simp] theorem ne5:(("held" : Str) = "gone")=False:=eq_false x0
@[simp] theorem ne6:(("tree" : Str) = "gone")=False:=eq_false x0
@[simp] theorem ne7:(("things" : Str) = "left")=False:=eq_false x0
@[simp] theorem ne8:(("held" : Str) = "left")=False:=eq_false x0
@[simp] theorem ne9:(("tree" : Str) = "left")=False:=eq_false x0
@[simp] theorem xR1:(("gone" : Str) = "left")=False:=eq_false x0
def Xf{ts h tr g}:kG "things" (pF ts h tr g)=some (.lst (ts.map xh)):=by simp[pF,kG]
def Ve{ts h tr g}:kG "gone" (pF ts h tr g)=some (.rf g):=by simp[pF,kG]
def Ky{ts h tr g}:kG "left" (pF ts h tr g)=none:=by simp[pF,kG]
def Za(t:Thing):plD (xh t)=true:=by
 have e:Zb (t.2.1.map D.int)=true:=yh.mpr λd hd=>by obtain⟨x,_,rfl⟩:=zG.mp hd;rfl
 simp[xh,vo,plD,Zb,e]
def Ua(ts:List Thing):Zb (ts.map xh)=true:=yh.mpr λd hd=>by obtain⟨x,_,rfl⟩:=zG.mp hd;exact Za x
def Xb(ps:List zR5):plD (kP ps)=true:=by
 have e:Zb (ps.map KS)=true:=yh.mpr λd hd=>by
  obtain⟨⟨x,y⟩,_,rfl⟩:=zG.mp hd
  cases x<;>cases y<;>rfl
 simpa [kP,plD] using e
theorem Zw:∀t:Tr,plD (Wh t)=true
 |.one x B=>by simp[Wh,plD,Zb,Xb]
 |.two ns B l h=>by
  have e:Zb (ns.map D.int)=true:=yh.mpr λd hd=>by obtain⟨x,_,rfl⟩:=zG.mp hd;rfl
  simp[Wh,plD,Zb,Xb,Zw l,Zw h,e]
def Ub{C:Addr}{fs:List (Str × D)}(h:∀d∈fs.map (·.2),plD d=true):plC (.ins C fs)=true:=yh.mpr h
def _root_.L2.OnlyC.setTo{n I:Nat}{l:List Addr}{a:Addr}{c:Cell}(h:OnlyC n I l)(pl:plC c=true)(m:a∈l):OnlyC n (vq I a c) l:=(h.trans (OnlyC.set (n:=I) (a:=a) pl)).mono λb B=>by
 rcases zR.mp B with B |B
 ·exact B
 ·rw[zw.mp B];exact m
section
variable {P:Program}{w:World}{K:W.Frag}{mg:QqM}{base:Heap}{CP:Addr}
abbrev jV:Stmt:=kK (top 20) 0
abbrev Jm:List Str:=["self","d","things"]
def VR:FnScope Jm q8 (xr jV):=⟨rfl,rfl,rfl,x0,rfl,x0,x0⟩
def Ki(CP:Addr):TF:=λds n Q=>∃(a:Addr) (d:Nat) (ts:List Thing),ds=[.rf a,.int d,.lst (ts.map xh)]/\zW n a=some (.ins CP [])/\1<=d/\d<=4/\GoodU d ts/\1<=ts.length/\ts.length<500 /\
 ∀g h tr n',g≠a->zW n g=none->OnlyC n n' [a,g]->zW n' a=some (.ins CP (pF ts h tr g))->zW n' g=some (.dic [])->Q .non n'
def zx5(T:Blt mg)(CL_Part:Cls K CP)(NA_things:NoAttr K CP "things")(NA_held:NoAttr K CP "held")(NA_tree:NoAttr K CP "tree")(NA_gone:NoAttr K CP "gone")(F:Fun K "__init__" "Part.__init__" jV f fd)(F_turns:Fn P w K mg base "turns" 13 1 Kf):FnOk P w K mg base CX0 14 f fd q8 (spD K 3 (Ki CP)):=by
 refine Fun.okD F VR (λad A0 outer s H E G Z _ hr=>(zO (qe CL_Part NA_things (zm 0) (zm 2))
  (zO (qe CL_Part NA_held (zm 0) (jk (zc (zm 1) (zc (yD wJ vK T.tuple vw (zc (wj (Yh hr) (Qu rfl) T.sorted kZ (zc (zm 2) zB)) zB)) zB))))
  (zO (qe CL_Part NA_tree (zm 0) (vg F_turns (hr.mono w6) rfl (zc (yW CL_Part NA_held (zm 0)) zB)))
  (xi (qe CL_Part NA_gone (zm 0) jm)))))) ?_
 rintro ds n Q hl ⟨a,d,ts,rfl,hc,ab,aa,hg,h1,hz,q⟩
 have pt:plD (.lst (ts.map xh))=true:=by simpa [plD] using Ua ts
 have p1:plC (.ins CP [("things",.lst (ts.map xh))])=true:=Ub (by simpa using pt)
 simp[wR]
 refine xE hc ⟨pt,by simp,?_⟩
 simp[WY];have o1:=OnlyC.rfl'.setTo (n:=n) (l:=[a]) (a:=a) p1 (zq ..);have c1:=wc (n:=n) (a:=a) p1;generalize vq n a _=n1 at o1 c1 ⊢
 refine⟨ts.map λt=>(t.1,[vo t.2.1,.int t.2.2]),by rw[zQ];rfl,by rw[zh];lia,by rw[zQ];exact hg.nd,λac hp hs=>?_⟩
 obtain⟨B,J,rfl⟩:=jD hp;have pr:Zb (B.map xh)=true:=Ua B
 have W:plD (.tup [.int d,.tup (B.map xh)])=true:=by simp[plD,Zb,pr]
 have eR:(B.map λt=>(t.1,[vo t.2.1,D.int t.2.2])).map NRow.d=B.map xh:=by rw[zQ];rfl
 rw[eR];refine kD.mpr ?_
 refine xE c1 ⟨W,by simp,?_⟩
 simp[WY]
 have p2:plC (.ins CP [("things",.lst (ts.map xh)),("held",.tup [.int d,.tup (B.map xh)])])=true:=Ub (by simpa using ⟨pt,W⟩)
 have o2:=o1.setTo (a:=a) p2 (zq ..);have c2:=wc (n:=n1) (a:=a) p2;generalize vq n1 a _=n2 at o2 c2 ⊢;refine xE c2 ?_;simp[kG];have U:B.length=ts.length:=J.length_eq
 refine⟨d,B,rfl,ab,aa,hg.perm J,w5,λe=>by rw[e] at U;simp at U;lia,λ_ tr _=>?_⟩
 have p3:plC (.ins CP [("things",.lst (ts.map xh)),("held",.tup [.int d,.tup (B.map xh)]),("tree",Wh tr)])=true:=Ub (by simpa using ⟨pt,W,Zw tr⟩)
 refine xE c2 ⟨Zw tr,by simp,?_⟩
 simp[WY];have o3:=o2.setTo (a:=a) p3 (zq ..);have c3:=wc (n:=n2) (a:=a) p3;generalize vq n2 a _=n3 at o3 c3 ⊢;intro g I
 have Y:g≠a:=λe=>by rw[e,c3] at I;cases I
 have p4:plC (.dic [])=true:=rfl
 have o4:=(o3.mono (r:=[a,g]) (by simp)).setTo (a:=g) p4 (by simp)
 have c4:=(vb (n:=n3) (a:=g) (b:=a) p4 (Ne.symm Y)).trans c3;have g4:=wc (n:=n3) (a:=g) p4;generalize vq n3 g _=n4 at o4 c4 g4 ⊢
 refine xE c4 ⟨rfl,by simp,?_⟩
 simp[WY]
 have p5:plC (.ins CP (pF ts (.tup [.int d,.tup (B.map xh)]) (Wh tr) g))=true:=Ub (by simpa [pF] using ⟨pt,W,Zw tr,rfl⟩)
 exact q g _ _ _ Y (by rw[<- I];exact(o3.o g (by simpa using Y)).symm) (o4.setTo p5 (by simp)) (wc p5) ((vb p5 Y).trans g4)
abbrev jU:Stmt:=kK (top 20) 1
abbrev Zm:List Str:=["self"]
def VQ:FnScope Zm q0 (xr jU):=⟨rfl,rfl,rfl,x0,rfl,x0,x0⟩
def Wa:("thing" :: Zm:List Str).Nodup:=x0
def YI(CP:Addr):TF:=λds n Q=>∃p:Pt,ds=[.rf p.a]/\PartAt CP n p/\p.ts.length<=1000/\Q (.lst (p.left.map xh)) n
def zx4(T:Blt mg)(CL_Part:Cls K CP)(NA_things:NoAttr K CP "things")(NA_gone:NoAttr K CP "gone")(F:Fun K "left" "Part.left" jU f fd):FnOk P w K mg base CX0 1 f fd q0 (spD K 1 (YI CP)):=by
 refine Fun.okD F VQ (λaa A0 outer s H E G Z _ hr=>(xi (wC (vT (own:=["thing"]) (M:=Zm) (vQ (by rfl)) rfl (vf rfl (yW CL_Part NA_things (zm 0))) (λC I Y W=>(xQ (i:=0) Wa rfl (lo rfl) w6)) (λC I Y W=>(Yy (qt (vC hr) (Zc kX jZ (zm 0) xo (λ_ _=>rfl)) (yW CL_Part NA_gone (zm 1)) (by with_unfolding_all rfl)))) (λC I Y W=>(zm 0)))))) ?_
 rintro ds n Q hl ⟨p,rfl,⟨⟨h,tr,J⟩,B⟩,hz,q⟩;simp[wR];refine xE J ?_;rw[Xf];simp;refine qS xh (UZ p.gs) xh p.ts (wZ hz) (λt ht R S hR U=>?_) q;have hR':UZ p.gs t=true->R (.tup [.int t.1,vo t.2.1,.int t.2.2]) n:=hR;simp[xh];refine xE J ?_;rw[Ve];simp;refine xC B ?_;unfold UZ at hR' U
 split
 ·rename_i e;rw[e] at hR';exact hR' rfl
 ·rename_i e;exact U (by cases q:vG t.1 p.gs with |none=>exact absurd q e |some x=>rfl)
end
theorem UD{α:Type}{k y:Int}{x:α}:∀{l:List (Int × α)},vG y (l++[(k,x)])=match vG y l with |some d=>some d |none=>if k=y then some x else none
 |[]=>rfl
 |p::l=>by
  show(if p.1=y then some p.2 else vG y (l++[(k,x)]))=match (if p.1=y then some p.2 else vG y l) with |some d=>some d |none=>if k=y then some x else none
  by_cases e:p.1=y
  ·rw[if_pos e,if_pos e]
  ·rw[if_neg e,if_neg e];exact UD
theorem UE{α:Type}{k y:Int}{x:α}:∀{l:List (Int × α)},vG y (l.map λp=>if p.1=k then(p.1,x) else p)=if y=k then(vG y l).map λ_=>x else vG y l
 |[]=>by simp[vG]
 |p::l=>by
  have I:=UE (k:=k) (y:=y) (x:=x) (l:=l);rw[zz];unfold vG;rw[I]
  by_cases e:p.1=k<;>by_cases B:p.1=y
  ·simp[e,show y=k by lia]
  ·simp[e,show ¬ k=y by lia,show ¬ y=k by lia]
  ·simp[e,B,show ¬ y=k by lia]
  ·by_cases J:y=k<;>simp[e,B,J,show ¬ p.1=k from e]
def Qd{α:Type}{k y:Int}{x:α}{l:List (Int × α)}:vG y (vL k x l)=if y=k then some x else vG y l:=by
 unfold vL
 split
 ·rename_i h;rw[UE]
  by_cases e:y=k
  ·subst e;obtain⟨d,hd⟩:=Option.isSome_iff_exists.mp h;rw[if_pos rfl,if_pos rfl,hd];rfl
  ·rw[if_neg e,if_neg e]
 ·rename_i h;rw[UD]
  by_cases e:y=k
  ·subst e
   have hn:vG y l=none:=by cases q:vG y l with |none=>rfl |some d=>rw[q] at h;exact absurd rfl h
   rw[hn,if_pos rfl]
  ·rw [if_neg e]
   cases vG y l with
   |some d=>rfl
   |none=>exact if_neg λh=>e h.symm
def put_len{α:Type}{k:Int}{x:α}{l:List (Int × α)}:(vL k x l).length<=l.length+1:=by unfold vL;split<;>simp
theorem XD{α:Type}{k y:Int}:∀{l:List (Int × α)},vG y (vU k l)=if y=k then none else vG y l
 |[]=>by simp[vU,vG]
 | p :: l => by
  have I:=XD (k:=k) (y:=y) (l:=l)
  by_cases e:p.1=k
  ·rw [show vU k (p :: l) = vU k l from yr (by simpa using e), I]
   by_cases B:y=k
   ·rw[if_pos B,if_pos B]
   ·rw[if_neg B,if_neg B];exact(if_neg w5).symm
  ·rw [show vU k (p :: l) = p :: vU k l from yq (by simpa using e)]
   show(if p.1=y then some p.2 else vG y (vU k l))=if y=k then none else(if p.1=y then some p.2 else vG y l)
   rw[I]
   by_cases B:y=k
   ·rw[if_pos B,if_pos B];exact if_neg w5
   ·rw[if_neg B,if_neg B]
def Qp{α:Type}{k:Int}{l:List (Int × α)}:(vU k l).length<=l.length:=wf ..
def names(ps:List Pt):List Int:=ps.flatMap λp=>p.left.map (·.1)
def yB(ps:List Pt):Nat:=(ps.map λp=>2^p.r).sum
def wt(R:Nat)(p:Pt):Nat:=p.left.length*(R-p.r)+p.gs.length*(1+R)
def wts(R:Nat)(ps:List Pt):Nat:=(ps.map (wt R)).sum
def brT(ps:List Pt):List (Int × D):=ps.map λp=>((p.r:Int),.rf p.a)
def off(r:Nat)(ps:List Pt):List Pt:=ps.filter λp=>decide (p.r≠r)
theorem yi:∀{ps:List Pt}{p:Pt},p∈ps->(ps.map (·.r)).Nodup->ps.Perm (p::off p.r ps)
 | q :: ps, p, h, hn => by
  rw[zz] at hn;have hn':=zV.mp hn
  rcases zg.mp h with rfl |h
  ·have e : off p.r (p :: ps) = off p.r ps := yr (by simp)
   have I:off p.r ps=ps:=List.filter_eq_self.mpr λq B=>by
    simp only[yR];exact λz=>hn'.1 (z ▸ zt B)
   rw[e,I]
  ·have ne : q.r ≠ p.r := λz => hn'.1 (z ▸ zt h)
   have e:off p.r (q::ps)=q::off p.r ps:=yq (by simpa using ne)
   rw[e];exact((yi h hn'.2).cons q).trans (.swap p q _)
def vN{ps B:List Pt}(h:ps.Perm B):yB ps=yB B:=(h.map _).sum_nat
def Zo{R:Nat}{ps B:List Pt}(h:ps.Perm B):wts R ps=wts R B:=(h.map _).sum_nat
def vD{ps B:List Pt}(h:ps.Perm B):(names ps).Perm (names B):=List.Perm.flatMap_right _ h
def vm{p:Pt}{ps:List Pt}:yB (p::ps)=2^p.r+yB ps:=by simp[yB]
def Zp{R:Nat}{p:Pt}{ps:List Pt}:wts R (p::ps)=wt R p+wts R ps:=by simp[wts]
def vO{p:Pt}{ps:List Pt}:names (p::ps)=p.left.map (·.1)++names ps:=rfl
theorem kB:∀{ps:List Pt}{p:Pt},p∈ps->2^p.r<=yB ps
 |q::ps,p,h=>by
  rw[vm]
  rcases zg.mp h with rfl |h
  ·exact Nat.le_add_right ..
  ·exact zF (kB h) (Nat.le_add_left ..)
theorem qo:∀{ps:List Pt},ps.length<=yB ps
 |[]=>by simp
 |p::ps=>by
  have:=qo (ps:=ps);have:=Nat.one_le_two_pow (n:=p.r);rw[vm,zA];lia
theorem Vu:∀{ps:List Pt}{i:Nat},(∃p∈ps,p.r=i/\vG (i:Int) (brT ps)=some (.rf p.a))\/(vG (i:Int) (brT ps)=none/\∀p∈ps,p.r≠i)
 |[],i=>.inr ⟨rfl,by simp⟩
 | q :: ps, i => by
  by_cases e:q.r=i
  ·refine .inl ⟨q, zq, e, ?_⟩
   show(if (q.r:Int)=i then some (D.rf q.a) else _)=_
   rw[if_pos w5]
  ·have I : vG (i : Int) (brT (q :: ps)) = vG (i : Int) (brT ps) := by
    show(if (q.r:Int)=i then some (D.rf q.a) else vG (i:Int) (brT ps))=_
    rw[if_neg w5]
   rw[I]
   rcases Vu (ps:=ps) (i:=i) with ⟨p,B,h1,h2⟩ |⟨h1,h2⟩
   ·exact .inl ⟨p,zf _ B,h1,h2⟩
   ·refine .inr ⟨h1, λp B => ?_⟩
    rcases zg.mp B with rfl |B
    ·exact e
    ·exact h2 p B
def QC{ps:List Pt}{p:Pt}(hn:(ps.map (·.r)).Nodup)(h:p∈ps):vG (p.r:Int) (brT ps)=some (.rf p.a):=by
 rcases Vu (ps:=ps) (i:=p.r) with ⟨q,B,h1,h2⟩ |⟨_,h2⟩
 ·have e : q = p := by
   have I:=(yi h hn)
   rcases zg.mp (I.mem_iff.mp B) with e |e
   ·exact e
   ·have:=(zP.mp e).2;simp[h1] at this
  rw[h2,e]
 ·exact absurd rfl (h2 p h)
def Jf{ps:List Pt}{r:Nat}:vU (r:Int) (brT ps)=brT (off r ps):=by
 unfold vU brT off;rw[filter_map]
 congr 1
 refine List.filter_congr λp _=>?_;show decide ((p.r:Int)≠r)=decide (p.r≠r)
 exact decide_eq_decide.mpr ⟨λh z=>h (by rw[z]),λh z=>h w5⟩
def zq6{ps:List Pt}{p:Pt}(h:∀q∈ps,q.r≠p.r):vL (p.r:Int) (.rf p.a) (brT ps)=brT (ps++[p]):=by
 have e:vG (p.r:Int) (brT ps)=none:=by
  rcases Vu (ps:=ps) (i:=p.r) with ⟨q,B,h1,_⟩ |⟨h1,_⟩
  ·exact absurd h1 (h q B)
  ·exact h1
 unfold vL;rw[e];show brT ps++[_]=_;unfold brT;rw[xI];rfl
structure Tran(d:Nat)(ps:List Pt)(T:List Thing)(rd:List (Int × D)):Prop where
 rn:(ps.map (·.r)).Nodup
 gu:∀p∈ps,GoodU d p.ts/\p.ts.length<=2^p.r
 gl:∀p∈ps,p.gs.length+p.left.length=p.ts.length
 al:(T.map (·.1)++names ps).Nodup
 dT:∀t∈T,t.2.1.length=d
 rk:∀p∈ps,∀t∈p.left,vG t.1 rd=some (.int (p.r:Int))
 kr:∀x,(vG x rd).isSome=true->x∈T.map (·.1)++names ps
def kW{ps:List Pt}{r:Nat}{p:Pt}(h:p∈off r ps):p∈ps/\p.r≠r:=by
 have:=zP.mp h
 exact⟨this.1,by simpa using this.2⟩
def JY{p:Pt}{t:Thing}(h:t∈p.left):t∈p.ts:=(zP.mp h).1
def ZB{ps:List Pt}{p:Pt}(B:p∈ps)(hn:(ps.map (·.r)).Nodup)(T:List Thing):(T.map (·.1)++names ps).Perm ((p.left++T).map (·.1)++names (off p.r ps)):=by
 rw[xI];refine((vD (yi B hn)).append_left _).trans ?_;rw[vO,<- wG];exact(yf).append_right _
def Tran.pop{d:Nat}{ps:List Pt}{T:List Thing}{rk:List (Int × D)}(h:Tran d ps T rk){p:Pt}(U:p∈ps):Tran d (off p.r ps) (p.left++T) rk:=by
 have J:=ZB U h.rn T;refine⟨?_,λq I=>h.gu q (kW I).1,λq I=>h.gl q (kW I).1,J.nodup_iff.mp h.al,λt B=>?_,λq I=>h.rk q (kW I).1,λx hx=>J.mem_iff.mp (h.kr x hx)⟩
 ·exact((xt ..).map _).nodup h.rn
 ·rcases zR.mp B with B | B
  ·exact(h.gu p U).1.each t (JY B)
  ·exact h.dT t B
def kF(d:Nat)(br ro:Addr)(m:Nat):List (Str × D):=[("d",.int (d:Int)),("by_rank",.rf br),("rank_of",.rf ro),("so_many_made",.int (m:Int))]
def jF(k br ro:Addr)(ps:List Pt):List Addr:=k::br::ro::ps.flatMap λp=>[p.a,p.g]
structure Fm where
 n0:Nat
 S:Addr->Prop
def Fok(F:Fm)(n:Nat)(l:List Addr):Prop:=∀b,F.S b->zW n b=zW F.n0 b/\zW F.n0 b≠none/\b ∉ l
def Fok.only{F:Fm}{n n':Nat}{l l' r:List Addr}(h:Fok F n l)(o:OnlyC n n' r)(I:∀a∈r,a∈l\/zW n a=none)(J:∀a∈l',a∈l\/zW n a=none):Fok F n' l':=λb U=>by
 obtain⟨h1,h2,h3⟩:=h b U
 have B:∀a,a∈l\/zW n a=none->b≠a:=λa z e=>by
  subst e
  rcases z with z |z
  ·exact h3 z
  ·exact h2 (h1 ▸ z)
 exact⟨(o.o b λz=>B b (I b z) rfl).trans h1,h2,λz=>B b (J b z) rfl⟩
structure KAt(CP CK:Addr)(d n:Nat)(k br ro:Addr)(m:Nat)(ps:List Pt)(rk:List (Int × D))(F:Fm):Prop where
 i:zW n k=some (.ins CK (kF d br ro m))
 b:zW n br=some (.dic (brT ps))
 o:zW n ro=some (.dic rk)
 p:∀q∈ps,PartAt CP n q
 nd:(jF k br ro ps).Nodup
 f:Fok F n (jF k br ro ps)
def PartAt.only{B:Addr}{n n':Nat}{l:List Addr}{p:Pt}(h:PartAt B n p)(o:OnlyC n n' l)(ha:p.a ∉ l)(I:p.g ∉ l):PartAt B n' p:=by
 obtain⟨⟨x,y,e⟩,J⟩:=h;exact⟨⟨x,y,(o.o _ ha).trans e⟩,(o.o _ I).trans J⟩
def Vv{k br ro:Addr}{ps:List Pt}{p:Pt}(h:p∈ps):p.a∈ps.flatMap (λp=>[p.a,p.g])/\p.g∈ps.flatMap λp=>[p.a,p.g]:=
 ⟨wd.mpr ⟨p,h,by simp⟩,wd.mpr ⟨p,h,by simp⟩⟩
def Qj{ps I:List Pt}(h:I.Sublist ps):(I.flatMap λp=>[p.a,p.g]).Sublist (ps.flatMap λp=>[p.a,p.g]):=by
 induction h with
 |slnil=>exact List.Sublist.refl _
 |cons p _ B=>rw[wF];exact B.trans (List.sublist_append_right ..)
 |cons_cons p _ B=>rw[wF,wF];exact(List.Sublist.refl _).append B
section
variable {CP CK:Addr}{d n n':Nat}{k br ro:Addr}{m:Nat}{ps:List Pt}{rk:List (Int × D)}{F:Fm}
def KAt.apart(h:KAt CP CK d n k br ro m ps rk F):k≠br/\k≠ro/\br≠ro/\∀p∈ps,p.a≠k/\p.a≠br/\p.a≠ro/\p.g≠k/\p.g≠br/\p.g≠ro:=by
 have nd:=h.nd;unfold jF at nd;obtain⟨B,nd⟩:=zV.mp nd;obtain⟨I,nd⟩:=zV.mp nd;obtain⟨J,nd⟩:=zV.mp nd;simp only[zg,not_or] at B I;refine⟨B.1,B.2.1,I.1,λp U=>?_⟩;obtain⟨z1,z2⟩:=Vv (k:=k) (br:=br) (ro:=ro) U;exact⟨λe=>B.2.2 (e ▸ z1),λe=>I.2 (e ▸ z1),λe=>J (e ▸ z1),λe=>B.2.2 (e ▸ z2),λe=>I.2 (e ▸ z2),λe=>J (e ▸ z2)⟩
def Uc:plC (.dic (brT ps))=true:=yh.mpr λx hd=>by
 unfold brT at hd;rw[zQ] at hd;obtain⟨p,_,rfl⟩:=zG.mp hd;rfl
def KAt.pop(h:KAt CP CK d n k br ro m ps rk F)(r:Nat):KAt CP CK d (vq n br (.dic (vU (r:Int) (brT ps)))) k br ro m (off r ps) rk F:=by
 obtain⟨a1,a2,a3,a4⟩:=h.apart;rw[Jf];have pl:=Uc (ps:=off r ps);have o:=OnlyC.set (n:=n) (a:=br) pl
 refine⟨(o.o _ (by simpa using a1)).trans h.i,wc pl,(o.o _ (by simpa using Ne.symm a3)).trans h.o,λq B=>?_,?_,h.f.only o (λa ha=>.inl (by rw[zw.mp ha];simp[jF])) λa ha=>.inl (List.Sublist.mem ha ((((Qj (xt ..)).cons₂ _).cons₂ _).cons₂ _))⟩
 ·obtain ⟨b1, J, Y, W, I, U⟩ := a4 q (kW B).1
  exact(h.p q (kW B).1).only o (by simpa using J) (by simpa using I)
 ·refine List.Sublist.nodup ?_ h.nd;exact(((Qj (xt ..)).cons₂ _).cons₂ _).cons₂ _
def KAt.kOfPop(r:Nat):kOf (vq n br (.dic (vU (r:Int) (brT ps))))=kOf n:=by rw[Jf];exact vh Uc
def KAt.part(h:KAt CP CK d n k br ro m ps rk F){p:Pt}{q:Pt}(I:PartAt CP n q)(r:Nat)(B:q.a≠br/\q.g≠br):PartAt CP (vq n br (.dic (vU (r:Int) (brT ps)))) q:=by
 rw[Jf]
 exact I.only (OnlyC.set Uc) (by simpa using B.1) (by simpa using B.2)
def KAt.put(h:KAt CP CK d n k br ro m ps rk F){p:Pt}(o:OnlyC n n' [p.a,p.g])(I:zW n p.a=none)(hg:zW n p.g=none)(aa:p.g≠p.a)(hp:PartAt CP n' p)(hr:∀q∈ps,q.r≠p.r):zW n' br=some (.dic (brT ps))/\KAt CP CK d (vq n' br (.dic (vL (p.r:Int) (.rf p.a) (brT ps)))) k br ro m (ps++[p]) rk F:=by
 obtain⟨a1,a2,a3,a4⟩:=h.apart
 have W:∀x c,zW n x=some c->x ∉ [p.a,p.g]:=by
  intro x c e hx
  rcases zg.mp hx with hx |hx
  ·rw[hx,I] at e;cases e
  ·rw[zw.mp hx,hg] at e;cases e
 have kk:=W k _ h.i;have Y:=W br _ h.b;have ko:=W ro _ h.o;have hb:zW n' br=some (.dic (brT ps)):=(o.o _ Y).trans h.b;refine⟨hb,?_⟩;rw[zq6 hr];have pl:=Uc (ps:=ps++[p]);have U:=OnlyC.set (n:=n') (a:=br) pl;simp only[zg,xk,or_false,not_or] at kk Y ko
 have np:∀q∈ps,q.a ∉ [p.a,p.g]/\q.g ∉ [p.a,p.g]:=λq B=>by
  obtain⟨⟨x,y,e⟩,e2⟩:=h.p q B;exact⟨W _ _ e,W _ _ e2⟩
 refine⟨(U.o _ (by simpa using a1)).trans ((o.o _ (by simpa using kk)).trans h.i),wc pl,(U.o _ (by simpa using Ne.symm a3)).trans ((o.o _ (by simpa using ko)).trans h.o),λq B=>?_,?_,(h.f.only o (λa ha=>.inr ?_) λa ha=>?_).only U (λa ha=>.inl (by rw[zw.mp ha];simp[jF])) λa ha=>.inl ha⟩
 rotate_left 2
 ·rcases zg.mp ha with ha | ha
  ·rw[ha];exact I
  ·rw[zw.mp ha];exact hg
 ·rw [show jF k br ro (ps ++ [p]) = jF k br ro ps ++ [p.a, p.g] by simp [jF]] at ha
  rcases zR.mp ha with ha |ha
  ·exact .inl ha
  ·rcases zg.mp ha with ha | ha
   ·exact .inr (ha ▸ I)
   ·exact .inr (zw.mp ha ▸ hg)
 ·rcases zR.mp B with B | B
  ·obtain ⟨b1, b2, b3, b4, b5, b6⟩ := a4 q B
   exact((h.p q B).only o (np q B).1 (np q B).2).only U (by simpa using b2) (by simpa using b5)
  ·rw [zw.mp B]
   exact hp.only U (by simpa using Ne.symm Y.1) (by simpa using Ne.symm Y.2)
 ·have e : jF k br ro (ps ++ [p]) = jF k br ro ps ++ [p.a, p.g] := by simp [jF]
  rw[e,xu]
  refine⟨h.nd,by simpa using Ne.symm aa,λx hx y J z=>?_⟩
  subst z;unfold jF at hx
  rcases zg.mp hx with rfl |hx
  ·exact absurd J (by simpa using kk)
  ·rcases zg.mp hx with rfl | hx
   ·exact absurd J (by simpa using Y)
   ·rcases zg.mp hx with rfl | hx
    ·exact absurd J (by simpa using ko)
    ·obtain ⟨q, B, hx⟩ := wd.mp hx
     rcases zg.mp hx with rfl |hx
     ·exact absurd J (np q B).1
     ·rw[zw.mp hx] at J;exact absurd J (np q B).2
def zK4{m:Nat}:plC (.ins CK (kF d br ro m))=true:=Ub (by simp[kF,plD])
def KAt.made(h:KAt CP CK d n k br ro m ps rk F)(m':Nat):KAt CP CK d (vq n k (.ins CK (kF d br ro m'))) k br ro m' ps rk F:=by
 obtain⟨a1,a2,a3,a4⟩:=h.apart;have o:=OnlyC.set (n:=n) (a:=k) (zK4 (CK:=CK) (d:=d) (br:=br) (ro:=ro) (m:=m'))
 refine⟨wc zK4,(o.o _ (by simpa using Ne.symm a1)).trans h.b,(o.o _ (by simpa using Ne.symm a2)).trans h.o,λq B=>?_,h.nd,h.f.only o (λa ha=>.inl (by rw[zw.mp ha];simp[jF])) λa ha=>.inl ha⟩
 obtain⟨J,b2,Y,I,W,U⟩:=a4 q B
 exact(h.p q B).only o (by simpa using J) (by simpa using I)
def KAt.rank(h:KAt CP CK d n k br ro m ps rk F){rk':List (Int × D)}(pl:plC (.dic rk')=true):KAt CP CK d (vq n ro (.dic rk')) k br ro m ps rk' F:=by
 obtain⟨a1,a2,a3,a4⟩:=h.apart;have o:=OnlyC.set (n:=n) (a:=ro) pl
 refine⟨(o.o _ (by simpa using a2)).trans h.i,(o.o _ (by simpa using a3)).trans h.b,wc pl,λq B=>?_,h.nd,h.f.only o (λa ha=>.inl (by rw[zw.mp ha];simp[jF])) λa ha=>.inl ha⟩
 obtain⟨b1,Y,J,W,U,I⟩:=a4 q B
 exact(h.p q B).only o (by simpa using J) (by simpa using I)
def Zt(r:Nat)(gs:List (Int × D))(ps:List Pt):List Pt:=ps.map λq=>if q.r=r then { q with gs:=gs } else q
def zH6{r:Nat}{gs:List (Int × D)}:brT (Zt r gs ps)=brT ps:=by
 unfold brT Zt;rw[zQ];refine wI λp _=>?_
 show(((if p.r=r then { p with gs:=gs } else p).r:Int),D.rf (if p.r=r then { p with gs:=gs } else p).a)=_
 split<;>rfl
def VX{r:Nat}{gs:List (Int × D)}:jF k br ro (Zt r gs ps)=jF k br ro ps:=by
 unfold jF Zt;rw[List.flatMap_map]
 congr 3
 refine congrArg (λf=>List.flatMap f ps) (funext λp=>?_)
 split<;>rfl
def KAt.gone(h:KAt CP CK d n k br ro m ps rk F)(hn:(ps.map (·.r)).Nodup){p:Pt}(J:p∈ps){gs:List (Int × D)}(pl:plC (.dic gs)=true):KAt CP CK d (vq n p.g (.dic gs)) k br ro m (Zt p.r gs ps) rk F:=by
 obtain⟨a1,a2,a3,a4⟩:=h.apart;have o:=OnlyC.set (n:=n) (a:=p.g) pl;obtain⟨b1,b2,b3,b4,b5,b6⟩:=a4 p J
 refine⟨(o.o _ (by simpa using Ne.symm b4)).trans h.i,?_,(o.o _ (by simpa using Ne.symm b6)).trans h.o,λq W=>?_,by rw[VX];exact h.nd,h.f.only o (λa ha=>.inl (by rw[zw.mp ha];exact zf _ (zf _ (zf _ (Vv (k:=k) (br:=br) (ro:=ro) J).2)))) λa ha=>.inl (by rwa [VX] at ha)⟩
 ·rw[zH6];exact(o.o _ (by simpa using Ne.symm b5)).trans h.b
 ·obtain ⟨I, B, rfl⟩ := zG.mp W
  have nd:([p.a,p.g]++(off p.r ps).flatMap λp=>[p.a,p.g]).Nodup:=by
   have:=(List.Perm.flatMap_right (λp:Pt=>[p.a,p.g]) (yi J hn)).nodup_iff.mp (zV.mp (zV.mp (zV.mp h.nd).2).2).2
   rwa [wF] at this
  rw[xu] at nd
  split
  ·rename_i e
   have U:I=p:=by
    rcases zg.mp ((yi J hn).mem_iff.mp B) with e |U
    ·exact e
    ·exact absurd e (kW U).2
   subst U;obtain⟨⟨x,y,Y⟩,_⟩:=h.p I J
   have ne:I.a≠I.g:=λz=>(zV.mp nd.1).1 (by simp[z])
   exact⟨⟨x,y,(o.o _ (by simpa using ne)).trans Y⟩,wc pl⟩
  ·rename_i e
   have m:I∈off p.r ps:=zP.mpr ⟨B,by simpa using e⟩
   obtain⟨z1,z2⟩:=Vv (k:=k) (br:=br) (ro:=ro) m
   exact(h.p I B).only o (by simpa using λz=>nd.2.2 p.g (by simp) _ z1 z.symm) (by simpa using λz=>nd.2.2 p.g (by simp) _ z2 z.symm)
end
@[simp] theorem nk1:(("d" : Str) = "by_rank")=False:=eq_false x0
@[simp] theorem nk2:(("d" : Str) = "rank_of")=False:=eq_false x0
@[simp] theorem nk3:(("d" : Str) = "so_many_made")=False:=eq_false x0
@[simp] theorem nk4:(("by_rank" : Str) = "rank_of")=False:=eq_false x0
@[simp] theorem nk5:(("by_rank" : Str) = "so_many_made")=False:=eq_false x0
@[simp] theorem nk6:(("rank_of" : Str) = "so_many_made")=False:=eq_false x0
def xH5{d br ro m}:kG "d" (kF d br ro m)=some (.int (d:Int)):=by simp[kF,kG]
def Vm{d br ro m}:kG "by_rank" (kF d br ro m)=some (.rf br):=by simp[kF,kG]
def zy8{d br ro m}:kG "rank_of" (kF d br ro m)=some (.rf ro):=by simp[kF,kG]
def xH4{d br ro m}:kG "so_many_made" (kF d br ro m)=some (.int (m:Int)):=by simp[kF,kG]
def xd8{d br ro m m'}:WY "so_many_made" (.int ((m':Nat):Int)) (kF d br ro m)=kF d br ro m':=by simp[kF,WY]
def ql{f:Str}(h:f ≠ "d" /\ f ≠ "by_rank" /\ f ≠ "rank_of" /\ f ≠ "so_many_made" := by decide +kernel){d br ro m}:kG f (kF d br ro m)=none:=by
 simp[kF,kG,Ne.symm h.1,Ne.symm h.2.1,Ne.symm h.2.2.1,Ne.symm h.2.2.2]
def qG(f:Nat)(T:List Thing)(rk:List (Int × D)):List (Int × D):=T.foldl (λr t=>vL t.1 (.int (f:Int)) r) rk
theorem YT{f:Nat}{y:Int}:∀{T:List Thing}{rk:List (Int × D)},vG y (qG f T rk)=if y∈T.map (·.1) then some (.int (f:Int)) else vG y rk
 |[],rk=>by simp[qG]
 | t :: T, rk => by
  show vG y (qG f T (vL t.1 (.int (f:Int)) rk))=_;rw[YT,Qd]
  by_cases h:y∈T.map (·.1)
  ·rw[if_pos h,if_pos (by rw[zz];exact zf _ h)]
  ·rw [if_neg h]
   by_cases e:y=t.1
   ·rw[if_pos e,if_pos (by rw[zz,e];exact zq)]
   ·rw[if_neg e,if_neg (by rw[zz,zg,not_or];exact⟨e,h⟩)]
theorem ji{f:Nat}:∀{T:List Thing}{rk:List (Int × D)},(qG f T rk).length<=rk.length+T.length
 |[],rk=>by simp[qG]
 |t::T,rk=>by
  have h:=ji (f:=f) (T:=T) (rk:=vL t.1 (.int (f:Int)) rk);have:=put_len (k:=t.1) (x:=D.int (f:Int)) (l:=rk);show(qG f T (vL t.1 (.int (f:Int)) rk)).length<=_;rw[zA];lia
def YA{p:Pt}(B:p.gs=[]):p.left=p.ts:=by
 unfold Pt.left;rw[B];exact List.filter_eq_self.mpr λt _=>rfl
def names_snoc{ps:List Pt}{p:Pt}:names (ps++[p])=names ps++p.left.map (·.1):=by unfold names;rw[flatMap_append];simp
def Tran.put{d:Nat}{ps:List Pt}{T:List Thing}{rk:List (Int × D)}(h:Tran d ps T rk){p:Pt}(hr:∀q∈ps,q.r≠p.r)(J:p.ts=T)(hg:p.gs=[])(hz:T.length<=2^p.r):Tran d (ps++[p]) [] (qG p.r T rk):=by
 have W:p.left=T:=(YA hg).trans J
 have Y:names (ps++[p])=names ps++T.map (·.1):=by rw[names_snoc,W]
 have al:=h.al;rw[xu] at al
 refine⟨?_,λq B=>?_,λq B=>?_,?_,λt J=>by simp at J,λq B t I=>?_,λx hx=>?_⟩
 ·rw [xI, xu]
  refine⟨h.rn,by simp,λx hx y U z=>?_⟩
  obtain⟨q,B,rfl⟩:=zG.mp hx;simp at U;exact hr q B (z.trans U)
 ·rcases zR.mp B with B | B
  ·exact h.gu q B
  ·rw[zw.mp B,J];exact⟨⟨h.dT,al.1⟩,hz⟩
 ·rcases zR.mp B with B | B
  ·exact h.gl q B
  ·rw[zw.mp B,W,J,hg];simp
 ·rw[xx,xg,Y,xu];exact⟨al.2.1,al.1,λx hx y U z=>al.2.2 y U x hx z.symm⟩
 ·rw [YT]
  rcases zR.mp B with B |B
  ·rw[if_neg λz=>al.2.2 _ z _ (wd.mpr ⟨q,B,zt I⟩) rfl];exact h.rk q B t I
  ·rw[zw.mp B] at I ⊢;rw[W] at I;rw[if_pos (zt I)]
 ·rw [YT] at hx;rw[xx,xg,Y]
  by_cases e:x∈T.map (·.1)
  ·exact zr _ e
  ·rw [if_neg e] at hx
   rcases zR.mp (h.kr x hx) with z |z
   ·exact absurd z e
   ·exact xm _ z
def Tran.perm{d:Nat}{ps J:List Pt}{T:List Thing}{rk:List (Int × D)}(h:Tran d ps T rk)(B:ps.Perm J):Tran d J T rk:=
 ⟨(B.map _).nodup_iff.mp h.rn,λp I=>h.gu p (B.mem_iff.mpr I),λp I=>h.gl p (B.mem_iff.mpr I),((vD B).append_left _).nodup_iff.mp h.al,h.dT,λp I=>h.rk p (B.mem_iff.mpr I),λx hx=>((vD B).append_left _).mem_iff.mp (h.kr x hx)⟩
def qr{ps:List Pt}{p:Pt}{gs:List (Int × D)}(I:p∈ps)(hn:(ps.map (·.r)).Nodup):(Zt p.r gs ps).Perm ({ p with gs:=gs }::off p.r ps):=by
 have h:=(yi I hn).map (λq:Pt=>if q.r=p.r then { q with gs:=gs } else q)
 rw[zz,if_pos rfl] at h
 have e:(off p.r ps).map (λq:Pt=>if q.r=p.r then { q with gs:=gs } else q)=off p.r ps:=by
  refine(wI λq B=>if_neg (kW B).2).trans ?_;exact List.map_id _
 rw[e] at h;exact h
theorem YC:∀{l:List Thing}{t:Thing},t∈l->(l.map (·.1)).Nodup->(l.filter λu=>decide (u.1≠t.1)).length+1=l.length
 | u :: l, t, h, hn => by
  rw[zz] at hn;have hn':=zV.mp hn
  rcases zg.mp h with rfl |h
  ·rw [yr (by simp), List.filter_eq_self.mpr λv hv => by
    simp only[yR]
    exact λz=>hn'.1 (z ▸ zt hv)]
   rfl
  ·have ne : u.1 ≠ t.1 := λz => hn'.1 (z ▸ zt h)
   rw[yq (by simpa using ne),zA,YC h hn'.2,zA]
def Us{ps:List Pt}{x:Int}(h:x∈names ps):∃p∈ps,∃t∈p.left,t.1=x:=by
 obtain⟨p,I,h⟩:=wd.mp h;obtain⟨t,B,e⟩:=zG.mp h;exact⟨p,I,t,B,e⟩
def XC{p:Pt}{t:Thing}(B:t∈p.left):vG t.1 p.gs=none/\vL t.1 (D.bl true) p.gs=p.gs++[(t.1,D.bl true)]/\({ p with gs:=vL t.1 (D.bl true) p.gs }:Pt).left=p.left.filter λu=>decide (u.1≠t.1):=by
 have h:=(zP.mp B).2;unfold UZ at h
 have e:vG t.1 p.gs=none:=by cases q:vG t.1 p.gs with |none=>rfl |some d=>rw[q] at h;cases h
 refine⟨e,by unfold vL;rw[e];rfl,?_⟩
 show p.ts.filter (UZ (vL t.1 (D.bl true) p.gs))=(p.ts.filter (UZ p.gs)).filter _;rw[List.filter_filter];refine List.filter_congr λu _=>?_;unfold UZ;rw[Qd]
 by_cases c:u.1=t.1
 ·rw[if_pos c];simp[c]
 ·rw[if_neg c];simp[c]
def Tran.go{d:Nat}{ps:List Pt}{rk:List (Int × D)}(h:Tran d ps [] rk){p:Pt}{t:Thing}(Y:p∈ps)(W:t∈p.left) :
  Tran d (Zt p.r (vL t.1 (D.bl true) p.gs) ps) [] (vU t.1 rk)/\(∀y,y∈names (Zt p.r (vL t.1 (D.bl true) p.gs) ps)↔y∈names ps/\y≠t.1)/\yB (Zt p.r (vL t.1 (D.bl true) p.gs) ps)=yB ps /\
  ∀R,wts R (Zt p.r (vL t.1 (D.bl true) p.gs) ps)<=wts R ps+(1+R):=by
 have U:=yi Y h.rn;have pr:=qr (gs:=vL t.1 (D.bl true) p.gs) Y h.rn;obtain⟨g1,g2,g3⟩:=XC W;have al:=h.al;rw[xx,xg] at al;have B:=(vD U).nodup_iff.mp al;rw[vO,xu] at B;have ll:=YC W B.1
 have nm:∀y,y∈names ({ p with gs:=vL t.1 (D.bl true) p.gs }::off p.r ps)↔y∈names ps/\y≠t.1:=λy=>by
  rw[(vD U).mem_iff,vO,vO,g3,zR,zR]
  constructor
  ·rintro (z | z)
   ·obtain ⟨u, J, rfl⟩ := zG.mp z;have:=zP.mp J
    exact⟨.inl (zt this.1),by simpa using this.2⟩
   ·exact⟨.inr z,λe=>B.2.2 _ (zt W) _ z e.symm⟩
  ·rintro ⟨z | z, ne⟩
   ·obtain ⟨u, J, rfl⟩ := zG.mp z
    exact .inl (zt (zP.mpr ⟨J,by simpa using ne⟩))
   ·exact .inr z
 refine⟨Tran.perm ?_ pr.symm,λy=>(vD pr).mem_iff.trans (nm y),?_,λR=>?_⟩
 ·have h2 := h.perm U
  refine⟨h2.rn,λq I=>?_,λq I=>?_,?_,λt W=>by simp at W,λq I u J=>?_,λx hx=>?_⟩
  ·rcases zg.mp I with rfl | I
   ·exact h.gu p Y
   ·exact h2.gu q (zf _ I)
  ·rcases zg.mp I with rfl | I
   ·have:=h.gl p Y;rw[g3];show(vL t.1 (D.bl true) p.gs).length+_=p.ts.length;rw[g2,zD];simp only[zA,ym];lia
   ·exact h2.gl q (zf _ I)
  ·rw[xx,xg,vO,g3,xu];exact⟨((xt ..).map _).nodup B.1,B.2.1,λa ha b hb=>B.2.2 a (((xt ..).map _).mem ha) b hb⟩
  ·have hy : u.1 ∈ names ({ p with gs := vL t.1 (D.bl true) p.gs } :: off p.r ps) := wd.mpr ⟨q, I, zt J⟩;rw[XD,if_neg ((nm _).mp hy).2]
   rcases zg.mp I with rfl |I
   ·rw[g3] at J;exact h.rk p Y u (zP.mp J).1
   ·exact h.rk q (kW I).1 u J
  ·rw [XD] at hx
   by_cases e:x=t.1
   ·rw[if_pos e] at hx;cases hx
   ·rw[if_neg e] at hx;rw[xx,xg];exact(nm x).mpr ⟨h.kr x hx,e⟩
 ·rw[vN pr,vN U,vm,vm]
 ·rw [Zo pr, Zo U, Zp, Zp]
  have e:wt R { p with gs:=vL t.1 (D.bl true) p.gs }=(p.left.filter λu=>decide (u.1≠t.1)).length*(R-p.r)+(p.gs.length+1)*(1+R):=by
   unfold wt;rw[g3];show _+(vL t.1 (D.bl true) p.gs).length*(1+R)=_;rw[g2,zD];rfl
  have e2:(p.left.filter λu=>decide (u.1≠t.1)).length*(R-p.r)<=p.left.length*(R-p.r):=Nat.mul_le_mul_right _ w5
  have e3:(p.gs.length+1)*(1+R)=p.gs.length*(1+R)+(1+R):=Nat.succ_mul ..;rw[e,e3];unfold wt;lia
def zI3{a b R:Nat}(h:b+2^a<2^(R+1)):a<=R:=by
 have:2^a<2^(R+1):=w5
 have:=(Nat.pow_lt_pow_iff_right (by decide:1<2)).mp this
 lia
inductive PutM:List Pt->Nat->List Thing->List Pt->List Thing->Prop where
 |stop {ps:List Pt}{s:Nat}{T:List Thing}{a g:Addr}:(∀q∈ps,q.r≠s)->PutM ps s T (ps++[⟨s,a,g,T,[]⟩]) T
 |step {ps:List Pt}{p:Pt}{T:List Thing}{ps':List Pt}{L:List Thing}:p∈ps->PutM (off p.r ps) (p.r+1) (p.left++T) ps' L->PutM ps p.r T ps' L
structure JPut(CP CK:Addr)(d:Nat)(k br ro:Addr)(m n:Nat)(rk:List (Int × D))(F:Fm)(ps0:List Pt)(T0:List Thing)(s:Nat)(mm:Nat)(rho:Rho)(n':Nat):Prop where
 hk:kOf n'=kOf n
 he:∃(i:Nat) (T:List Thing) (ps:List Pt),mm=ps.length/\rho=[some (.rf k),some (.int (i:Int)),some (.lst (T.map xh)),none]/\KAt CP CK d n' k br ro m ps rk F/\Tran d ps T rk/\1<=T.length/\T.length<=2^i/\yB ps+2^i=yB ps0+2^s /\
  ∀ps' L,PutM ps i T ps' L->PutM ps0 s T0 ps' L
structure JRk(CP CK:Addr)(d:Nat)(k br ro:Addr)(m n f:Nat)(rk:List (Int × D))(F:Fm)(ps:List Pt)(T:List Thing)(i:Nat)(rho:Rho)(n':Nat):Prop where
 hk:kOf n'=kOf n
 he:∃z:Option D,rho=[some (.rf k),some (.int (f:Int)),some (.lst (T.map xh)),z]
 ha:KAt CP CK d n' k br ro m ps (qG f (T.take i) rk) F
def PutM.size{ps:List Pt}{s:Nat}{T:List Thing}{ps':List Pt}{L:List Thing}(h:PutM ps s T ps' L)(hn:(ps.map (·.r)).Nodup):yB ps'=yB ps+2^s:=by
 induction h with
 |stop _=>unfold yB;simp
 |@step ps p T ps' L I _ B=>
  have e:=(vN (yi I hn)).trans vm;rw[B (((xt ..).map _).nodup hn),e,wE];lia
def PutM.names{ps:List Pt}{s:Nat}{T:List Thing}{ps':List Pt}{L:List Thing}(h:PutM ps s T ps' L)(hn:(ps.map (·.r)).Nodup):∀x,x∈names ps'↔x∈T.map (·.1)++names ps:=by
 induction h with
 |stop _=>intro x;rw[names_snoc,YA rfl];exact List.perm_append_comm.mem_iff
 |@step ps p T ps' L I _ B=>intro x;rw[B (((xt ..).map _).nodup hn) x];exact(ZB I hn T).mem_iff.symm
def PutM.cost{ps:List Pt}{s:Nat}{T:List Thing}{ps':List Pt}{L:List Thing}(h:PutM ps s T ps' L)(hn:(ps.map (·.r)).Nodup){R:Nat}(W:yB ps+2^s<2^(R+1)):L.length+wts R ps'<=wts R ps+T.length*(1+R-s):=by
 induction h with
 | @stop ps s T a g _ =>
  have hs:s<=R:=zI3 W
  have e2:wts R (ps++[⟨s,a,g,T,[]⟩])=wts R ps+T.length*(R-s):=by unfold wts wt;simp[YA]
  have I:T.length*(1+R-s)=T.length+T.length*(R-s):=by
   rw[show 1+R-s=(R-s)+1 by lia,Nat.mul_succ];lia
  lia
 |@step ps p T ps' L U _ J=>
  have B:=yi U hn;have e1:yB ps=2^p.r+yB (off p.r ps):=(vN B).trans vm
  have Y:=J (((xt ..).map _).nodup hn) (by rw[wE];lia)
  have I:wts R ps=wt R p+wts R (off p.r ps):=(Zo B).trans Zp;unfold wt at I
  rw[show 1+R-(p.r+1)=R-p.r by lia,zD,Nat.add_mul] at Y
  have e5:T.length*(R-p.r)<=T.length*(1+R-p.r):=Nat.mul_le_mul_left _ w5
  lia
section
variable {P:Program}{w:World}{K:W.Frag}{mg:QqM}{base:Heap}{CP CK:Addr}
abbrev jX:Stmt:=kK (top 21) 0
abbrev Jo:List Str:=["self","d"]
def VT:FnScope Jo ["self","d"] (xr jX):=⟨rfl,rfl,rfl,x0,rfl,x0,x0⟩
def Kl(CK:Addr):TF:=λds n Q=>∃(k:Addr) (d:Nat) (F:Fm),ds=[.rf k,.int (d:Int)]/\zW n k=some (.ins CK [])/\Fok F n [k]/\∀n' br ro,(∀CP,KAt CP CK d n' k br ro 0 [] [] F)->kOf n'=kOf n->Q .non n'
def zx9(CL_Kept:Cls K CK)(NA_d:NoAttr K CK "d")(NA_by_rank:NoAttr K CK "by_rank")(NA_rank_of:NoAttr K CK "rank_of")(NA_so_many_made:NoAttr K CK "so_many_made")(F:Fun K "__init__" "Kept.__init__" jX f fd):FnOk P w K mg base CX0 1 f fd ["self","d"] (spD K 2 (Kl CK)):=by
 refine Fun.okD F VT (λac A0 outer s H E G Z _ hr=>(zO (qe CL_Kept NA_d (zm 0) (zm 1))
  (zO (qe CL_Kept NA_by_rank (zm 0) jm)
  (zO (qe CL_Kept NA_rank_of (zm 0) jm)
  (xi (qe CL_Kept NA_so_many_made (zm 0) xo)))))) ?_
 rintro ds n Q hl ⟨k,d,F,rfl,hc,hF,q⟩;simp[wR]
 refine xE hc ⟨rfl,by simp,?_⟩
 simp[WY];have p1:plC (.ins CK [("d",.int (d:Int))])=true:=rfl;have o1:=OnlyC.set (n:=n) (a:=k) p1;have c1:=wc (n:=n) (a:=k) p1;have k1:=o1.k;generalize vq n k _=n1 at o1 c1 k1 ⊢;intro br J
 have bk:br≠k:=λe=>by rw[e,c1] at J;cases J
 have I:plC (.dic [])=true:=rfl
 have ab:zW n br=none:=(o1.o br (by simpa using bk)).symm.trans J
 have o2:=(o1.mono (r:=[k,br]) (by simp)).setTo (a:=br) I (by simp)
 have k2:=(OnlyC.set (n:=n1) (a:=br) I).k.trans k1;have c2:=(vb (n:=n1) (a:=br) (b:=k) I (Ne.symm bk)).trans c1;have b2:=wc (n:=n1) (a:=br) I;generalize vq n1 br _=n2 at o2 k2 c2 b2 ⊢
 refine xE c2 ⟨rfl,by simp,?_⟩
 simp[WY];have p3:plC (.ins CK [("d",.int (d:Int)),("by_rank",.rf br)])=true:=rfl
 have o3:=o2.setTo (a:=k) p3 (by simp)
 have k3:=(OnlyC.set (n:=n2) (a:=k) p3).k.trans k2;have c3:=wc (n:=n2) (a:=k) p3;have b3:=(vb (n:=n2) (a:=k) (b:=br) p3 bk).trans b2;generalize vq n2 k _=n3 at o3 k3 c3 b3 ⊢;intro ro B
 have rk:ro≠k:=λe=>by rw[e,c3] at B;cases B
 have rb:ro≠br:=λe=>by rw[e,b3] at B;cases B
 have aa:zW n ro=none:=(o3.o ro (by simpa using ⟨rk,rb⟩)).symm.trans B
 have o4:=(o3.mono (r:=[k,br,ro]) (by simp)).setTo (a:=ro) I (by simp)
 have k4:=(OnlyC.set (n:=n3) (a:=ro) I).k.trans k3;have c4:=(vb (n:=n3) (a:=ro) (b:=k) I (Ne.symm rk)).trans c3;have b4:=(vb (n:=n3) (a:=ro) (b:=br) I (Ne.symm rb)).trans b3;have r4:=wc (n:=n3) (a:=ro) I;generalize vq n3 ro _=Y at o4 k4 c4 b4 r4 ⊢
 refine xE c4 ⟨rfl,by simp,?_⟩
 simp[WY];have W:plC (.ins CK [("d",.int (d:Int)),("by_rank",.rf br),("rank_of",.rf ro)])=true:=rfl
 have o5:=o4.setTo (a:=k) W (by simp)
 have k5:=(OnlyC.set (n:=Y) (a:=k) W).k.trans k4;have c5:=wc (n:=Y) (a:=k) W;have b5:=(vb (n:=Y) (a:=k) (b:=br) W bk).trans b4;have r5:=(vb (n:=Y) (a:=k) (b:=ro) W rk).trans r4;generalize vq Y k _=n5 at o5 k5 c5 b5 r5 ⊢
 refine xE c5 ⟨rfl,by simp,?_⟩
 simp[WY];have U:plC (.ins CK (kF d br ro 0))=true:=rfl
 refine q _ br ro (λCP=>⟨wc U,(vb U bk).trans b5,(vb U rk).trans r5,λq hq=>by simp at hq,?_,hF.only (o5.setTo (a:=k) U (by simp)) (λa ha=>?_) λa ha=>?_⟩) ((OnlyC.set (n:=n5) (a:=k) U).k.trans k5)
 ·simpa [jF] using ⟨⟨Ne.symm bk,Ne.symm rk⟩,Ne.symm rb⟩
 ·simp only [zg, xk, or_false] at ha
  rcases ha with rfl |rfl |rfl
  ·exact .inl (by simp)
  ·exact .inr ab
  ·exact .inr aa
 ·simp only [jF, List.flatMap_nil, zg, xk, or_false] at ha
  rcases ha with rfl |rfl |rfl
  ·exact .inl (by simp)
  ·exact .inr ab
  ·exact .inr aa
abbrev qF:Stmt:=kK (top 21) 1
abbrev Vx:List Str:=["self","rank","things","thing"]
def kz:FnScope Vx q9 (xr qF):=⟨rfl,rfl,rfl,x0,rfl,x0,x0⟩
def WG(CP CK:Addr):TF:=λds n Q=>∃(d:Nat) (k br ro:Addr) (m:Nat) (ps:List Pt) (rk:List (Int × D)) (F:Fm) (s:Nat) (T:List Thing),ds=[.rf k,.int (s:Int),.lst (T.map xh)]/\1<=d/\d<=4/\KAt CP CK d n k br ro m ps rk F/\Tran d ps T rk/\1<=T.length/\T.length<=2^s/\yB ps+2^s<500/\rk.length<=m/\m<=100000 /\
 ∀n' ps' rk' L,KAt CP CK d n' k br ro (m+L.length) ps' rk' F->kOf n'=kOf n->Tran d ps' [] rk'->rk'.length<=m+L.length->PutM ps s T ps' L->Q .non n'
def zx3(T:Blt mg)(CL_Kept:Cls K CK)(NA_d:NoAttr K CK "d")(NA_by_rank:NoAttr K CK "by_rank")(NA_rank_of:NoAttr K CK "rank_of")(NA_so_many_made:NoAttr K CK "so_many_made")(F:Fun K "put_in" "Kept.put_in" qF f fd)(M_left:MthC P w K mg base CP "left" 1 0 (YI CP))(MK_Part:MkeC P w K mg base CP "Part" 14 2 (Ki CP)):FnOk P w K mg base CX0 16 f fd q9 (spD K 3 (WG CP CK)):=by
 refine Fun.okD F kz (λam A0 outer s H E G Z _ hr=>(zO (YX PassesOwn.never (Kt (vC hr) (zm 1) (yW CL_Kept NA_by_rank (zm 0)) (by with_unfolding_all rfl))
  (zO (yZ (i:=2) kz.nd rfl (lo rfl) (Xe zD5 zC0 (kS M_left (hr.mono w6) rfl (jl (yW CL_Kept NA_by_rank (zm 0)) (zm 1) ⟨rfl,rfl,rfl,rfl⟩)) (zm 2)))
  (xi (zu9 xe3 (i:=1) kz.nd rfl (lo rfl) xo))))
  (zO (qJ (vC hr) (yW CL_Kept NA_by_rank (zm 0)) (zm 1) (JR MK_Part (hr.mono w6) rfl (zc (yW CL_Kept NA_d (zm 0)) (zc (zm 2) zB))))
  (zO (Ku CL_Kept NA_so_many_made (zm 0) (wj wu kf T.len kh (zc (zm 2) zB)))
  (xi (ZN (m:=4) PassesOwn.never rfl (vf rfl (zm 2)) (xQ (i:=3) kz.nd rfl (lo rfl) w6)
  (xi (qJ (vC hr) (yW CL_Kept NA_rank_of (zm 0)) (Zc kX jZ (zm 3) xo (λ_ _=>rfl)) (zm 1))))))))) ?_
 rintro ds n Q hl ⟨d,k,br,ro,m,ab,rk,F,s,T0,rfl,ag,af,hk,J,h1,hs,hz,ak,hm,q⟩;simp[wR];refine⟨JPut CP CK d k br ro m n rk F ab T0 s,⟨_,rfl,s,T0,ab,rfl,rfl,hk,J,h1,hs,rfl,λ_ _ h=>h⟩,?_⟩;rintro mm rho n1 ⟨ac,i,T,ps,rfl,rfl,hk,J,h1,hi,hsz,hP⟩;simp;refine xE hk.i ?_;rw[Vm];simp;refine xC hk.b ?_;obtain⟨a1,a2,a3,a4⟩:=hk.apart
 rcases Vu (ps:=ps) (i:=i) with ⟨p,Y,rfl,hg⟩ |⟨hg,I⟩
 ·rw [hg];simp;refine xE hk.i ?_;rw[Vm];simp;refine xC hk.b (xC hk.b ?_);rw[hg];simp;obtain⟨b1,b2,b3,b4,b5,b6⟩:=a4 p Y;have kp:=hk.pop p.r;have pa:=hk.part (p:=p) (hk.p p Y) p.r ⟨b2,b5⟩;have k2:=(KAt.kOfPop (n:=n1) (br:=br) (ps:=ps) p.r).trans ac;generalize vq n1 br _=n2 at kp pa k2 ⊢;obtain⟨⟨h,tr,ei⟩,eg⟩:=pa;have l1:=(J.gu p Y).2;have l2:p.left.length<=p.ts.length:=wf ..;have l3:=kB Y
  refine xE ei ⟨Ky,p,rfl,⟨⟨h,tr,ei⟩,eg⟩,w5,?_⟩
  simp;have pm:=yi Y J.rn;have e1:yB ps=2^p.r+yB (off p.r ps):=(vN pm).trans vm
  have e2:2^(p.r+1)=2*2^p.r:=by rw[wE];lia
  refine⟨wZ w5,(off p.r ps).length,by rw[pm.length_eq];simp,k2,p.r+1,p.left++T,off p.r ps,rfl,by simp,kp,J.pop Y,by rw[zD];lia,by rw[zD];lia,w5,λps' L h=>hP ps' L (.step Y h)⟩
 ·rw [hg];simp
  have lT:2^i<500:=w5
  refine xE hk.i ?_;rw[xH5];simp;intro a aa
  have gT:GoodU d T:=⟨J.dT,by have:=J.al;rw[xu] at this;exact this.1⟩
  have U:plC (.ins CP [])=true:=rfl
  refine⟨a,d,T,rfl,wc U,ag,af,gT,h1,w5,λg h tr n2 ad ae o ai ah=>⟨rfl,?_⟩⟩
  have B:zW n1 g=none:=by rw[<- ae];exact(vb U ad).symm
  have o1:OnlyC n1 n2 [a,g]:=((OnlyC.set (n:=n1) (a:=a) U).trans o).mono λb hb=>by
   rcases zR.mp hb with hb |hb
   ·rw[zw.mp hb];exact zq
   ·exact hb
  obtain⟨aj,kp⟩:=hk.put (p:=⟨i,a,g,T,[]⟩) o1 aa B ad ⟨⟨h,tr,ai⟩,ah⟩ I
  have ki:=(o1.o k (by
   intro z
   rcases zg.mp z with z |z
   ·rw[<- z,hk.i] at aa;cases aa
   ·rw[<- zw.mp z,hk.i] at B;cases B)).trans hk.i
  have k2:kOf n2=kOf n:=o1.k.trans ac;refine xE ki ?_;rw[Vm];simp
  have lb:(brT ps).length<=yB ps:=by unfold brT;rw[zh];exact qo
  refine xC aj ⟨rfl,lt_size w5,?_⟩
  have k3:kOf (vq n2 br (.dic (vL (i:Int) (.rf a) (brT ps))))=kOf n:=by
   rw[zq6 (p:=⟨i,a,g,T,[]⟩) I];exact(vh Uc).trans k2
  generalize vq n2 br _=n3 at kp k3 ⊢;refine xE kp.i ?_;rw[xH4];simp
  refine xE kp.i ⟨by simp[kF],?_⟩
  rw[show(m:Int)+(T.length:Int)=((m+T.length:Nat):Int) by simp,xd8]
  have km:=kp.made (m+T.length);have k4:=(vh (n:=n3) (a:=k) (zK4 (CK:=CK) (d:=d) (br:=br) (ro:=ro) (m:=m+T.length))).trans k3;generalize vq n3 k _=n4 at km k4 ⊢;refine⟨JRk CP CK d k br ro (m+T.length) n i rk F (ps++[⟨i,a,g,T,[]⟩]) T,⟨k4,⟨_,rfl⟩,km⟩,?_,?_⟩
  ·rintro j d rho n5 ej ⟨k5, ⟨z, rfl⟩, W⟩
   have hj:j<T.length:=by have:=(zT.mp ej).1;rwa [zh] at this
   rw[zI] at ej;obtain⟨t,et,rfl⟩:=xY.mp ej;simp[xh];refine xE W.i ?_;rw[zy8];simp;have lk:=ji (f:=i) (T:=T.take j) (rk:=rk);rw[xl] at lk
   have pl:plC (.dic (qG i (T.take (j+1)) rk))=true:=by
    rw[xp,et];unfold qG;rw[foldl_append];exact ZO (vp W.o) rfl
   have kr:=W.rank pl;have k6:=(vh (n:=n5) (a:=ro) pl).trans k5
   have e:qG i (T.take (j+1)) rk=vL t.1 (.int (i:Int)) (qG i (T.take j) rk):=by
    rw[xp,et];unfold qG;rw[foldl_append];rfl
   refine xC W.o ⟨rfl,by rw[sizeLine_eq];lia,?_⟩
   rw[<- e];exact⟨k6,⟨_,rfl⟩,kr⟩
  ·rintro rho n5 ⟨k5, ⟨z, rfl⟩, W⟩;rw[zh,wq] at W;have lk:=ji (f:=i) (T:=T) (rk:=rk)
   exact q n5 _ _ T W k5 (J.put (p:=⟨i,a,g,T,[]⟩) I rfl rfl hi) w5 (hP _ _ (.stop I))
end
def zB0(c:Nat):Builtin.Int.intBits (c:Int)=if c=0 then 0 else Nat.log2 c+1:=by
 unfold Builtin.Int.intBits
 by_cases h:c=0
 ·subst h;rfl
 ·rw[if_neg (by simp only[beq_iff_eq];lia),if_neg h];rfl
def YV(c:Nat):Nat:=if c-1=0 then 0 else Nat.log2 (c-1)+1
def JF{c:Nat}(h:1<=c):c<=2^YV c:=by
 unfold YV
 split
 ·simp;lia
 ·have:=Nat.lt_log2_self (n:=c-1);lia
def Yx{c:Nat}(h:1<=c):2^YV c<2*c:=by
 unfold YV
 split
 ·simp;lia
 ·rename_i B;have:=Nat.log2_self_le B;rw[wE];lia
def AnewM(ps:List Pt)(p:Pt)(ps':List Pt)(L:List Thing):Prop:=(p.left=[]/\ps'=off p.r ps/\L=[])\/(p.left≠[]/\PutM (off p.r ps) (YV p.left.length) p.left ps' L)
def AnewM.all{d:Nat}{ps:List Pt}{p:Pt}{ps':List Pt}{L:List Thing}{rk:List (Int × D)}(h:AnewM ps p ps' L)(B:Tran d ps [] rk)(J:p∈ps)(h2:2*p.left.length<p.ts.length) :
  yB ps'<=yB ps/\(∀x,x∈names ps'↔x∈names ps)/\∀R,yB ps<2^(R+1)->L.length+wts R ps'<=wts R ps:=by
 have pm:=yi J B.rn;have e1:yB ps=2^p.r+yB (off p.r ps):=(vN pm).trans vm;have I:=ZB J B.rn [];rw[wb,xx,xg] at I;have gl:=B.gl p J;have l1:=(B.gu p J).2;have Y:∀R,wts R ps=wt R p+wts R (off p.r ps):=λR=>(Zo pm).trans Zp;have U:((off p.r ps).map (·.r)).Nodup:=((xt ..).map _).nodup B.rn
 rcases h with ⟨W,rfl,rfl⟩ |⟨W,h⟩
 ·rw [W] at I
  exact⟨w5,λx=>I.mem_iff.symm,λR _=>by have:=Y R;simp;lia⟩
 ·have hl : 1 <= p.left.length := by
   cases q:p.left with
   |nil=>exact absurd q W
   |cons a b=>simp
  have r2:=Yx hl
  refine⟨by rw[h.size U];lia,λx=>(h.names U x).trans I.mem_iff.symm,λR hR=>?_⟩
  have c:=h.cost U (R:=R) w5
  have g9:=Y R;unfold wt at g9
  have aa:p.left.length*(1+R-YV p.left.length)<=p.gs.length*(1+R):=Nat.mul_le_mul w5 w5
  lia
def GoM(ps:List Pt)(x:Int)(ps':List Pt)(L:List Thing):Prop:=∃p t,p∈ps/\t∈p.left/\t.1=x /\
 ((2*(p.gs.length+1)<=p.ts.length/\ps'=Zt p.r (vL x (D.bl true) p.gs) ps/\L=[])\/(p.ts.length<2*(p.gs.length+1)/\AnewM (Zt p.r (vL x (D.bl true) p.gs) ps) { p with gs:=vL x (D.bl true) p.gs } ps' L))
def KR{d:Nat}{ps:List Pt}{p:Pt}{t:Thing}{rk:List (Int × D)}(J:Tran d ps [] rk)(U:p∈ps)(B:t∈p.left)(h0:p.ts.length<2*(p.gs.length+1)) :
  ({ p with gs:=vL t.1 (D.bl true) p.gs }:Pt)∈Zt p.r (vL t.1 (D.bl true) p.gs) ps/\2*({ p with gs:=vL t.1 (D.bl true) p.gs }:Pt).left.length<p.ts.length:=by
 have W:=qr (gs:=vL t.1 (D.bl true) p.gs) U J.rn;obtain⟨g1,g2,Y⟩:=XC B;have gl:=J.gl p U;have al:=J.al;rw[xx,xg] at al;have I:=(vD (yi U J.rn)).nodup_iff.mp al;rw[vO,xu] at I;have ll:=YC B I.1
 exact⟨W.mem_iff.mpr zq,by rw[Y];lia⟩
def GoM.all{d:Nat}{ps:List Pt}{x:Int}{ps':List Pt}{L:List Thing}{rk:List (Int × D)}(h:GoM ps x ps' L)(W:Tran d ps [] rk) :
  yB ps'<=yB ps/\(∀y,y∈names ps'↔y∈names ps/\y≠x)/\∀R,yB ps<2^(R+1)->L.length+wts R ps'<=wts R ps+(1+R):=by
 obtain⟨p,t,Y,I,rfl,h⟩:=h;obtain⟨tg1,tg2,J,B⟩:=W.go Y I
 rcases h with ⟨_,rfl,rfl⟩ |⟨h0,h⟩
 ·exact⟨yG J,tg2,λR _=>by have:=B R;simp;lia⟩
 ·obtain ⟨U, h2⟩ := KR W Y I h0;obtain⟨a1,a2,a3⟩:=h.all tg1 U h2
  exact⟨w5,λy=>(a2 y).trans (tg2 y),λR hR=>by have:=a3 R w5;have:=B R;lia⟩
section
variable {P:Program}{w:World}{K:W.Frag}{mg:QqM}{base:Heap}{CP CK:Addr}
abbrev ZJ:Stmt:=top 19
abbrev zc1:List Str:=["many"]
def Kn:FnScope zc1 ["many"] (xr ZJ):=⟨rfl,rfl,rfl,x0,rfl,x0,x0⟩
def YH:TF:=λds n Q=>∃c:Nat,ds=[.int (c:Int)]/\1<=c/\Q (.int (YV c:Int)) n
def QV(F:Fun K "rank_for" "rank_for" ZJ f fd):FnOk P w K mg base CX0 1 f fd ["many"] (spD K 1 YH):=by
 refine Fun.okD F Kn (λB W outer s H E G Z _ I=>(xi (wC (zL6 (Wq (zm 0) xo))))) ?_;rintro ds n Q J ⟨c,rfl,U,q⟩;simp[wR]
 rw[show(c:Int)-1=((c-1:Nat):Int) by lia,zB0]
 exact q
abbrev kJ:Stmt:=kK (top 21) 4
abbrev Ys:List Str:=["self","rank","things"]
def qp:FnScope Ys q3 (xr kJ):=⟨rfl,rfl,rfl,x0,rfl,x0,x0⟩
def ze0(CP CK:Addr):TF:=λds n Q=>∃(d:Nat) (k br ro:Addr) (m:Nat) (ps:List Pt) (rk:List (Int × D)) (F:Fm) (p:Pt),ds=[.rf k,.int (p.r:Int)]/\1<=d/\d<=4/\KAt CP CK d n k br ro m ps rk F/\Tran d ps [] rk/\p∈ps/\2*p.left.length<p.ts.length/\yB ps<500/\rk.length<=m/\m<=100000 /\
 ∀n' ps' rk' L,KAt CP CK d n' k br ro (m+L.length) ps' rk' F->kOf n'=kOf n->Tran d ps' [] rk'->rk'.length<=m+L.length->AnewM ps p ps' L->Q .non n'
def zN2(T:Blt mg)(CL_Kept:Cls K CK)(NA_by_rank:NoAttr K CK "by_rank")(F:Fun K "make_anew" "Kept.make_anew" kJ f fd)(M_left:MthC P w K mg base CP "left" 1 0 (YI CP))(M_put_in:MthC P w K mg base CK "put_in" 16 2 (WG CP CK))(F_rank_for:Fn P w K mg base "rank_for" 1 1 YH):FnOk P w K mg base CX0 17 f fd q3 (spD K 2 (ze0 CP CK)):=by
 refine Fun.okD F qp (λac A0 outer s H E G Z _ Y=>(zO (yZ (i:=2) qp.nd rfl (lo rfl) (kS M_left (Y.mono w6) rfl (jl (yW CL_Kept NA_by_rank (zm 0)) (zm 1) ⟨rfl,rfl,rfl,rfl⟩)))
  (xi (ke (kR zw6 zt9 (wj wu kf T.len kh (zc (zm 2) zB)) xo (kN _)) (xi (vJ (qK M_put_in (Y.mono w6) rfl (zm 0) (zc (vg F_rank_for (Y.mono w6) rfl (zc (wj wu kf T.len kh (zc (zm 2) zB)) zB)) (zc (zm 2) zB))))) vn)))) ?_
 rintro ds n Q hl ⟨d,k,br,ro,m,ps,rk,F,p,rfl,ab,aa,hk,I,B,h2,hz,J,hm,q⟩;simp[wR];obtain⟨a1,a2,a3,a4⟩:=hk.apart;obtain⟨b1,b2,b3,b4,b5,b6⟩:=a4 p B;refine xE hk.i ?_;rw[Vm];simp;refine xC hk.b (xC hk.b ?_);rw[QC I.rn B];simp;have kp:=hk.pop p.r;have pa:=hk.part (p:=p) (hk.p p B) p.r ⟨b2,b5⟩;have W:=KAt.kOfPop (n:=n) (br:=br) (ps:=ps) p.r;generalize vq n br _=n2 at kp pa W ⊢;obtain⟨⟨h,tr,ei⟩,eg⟩:=pa;have l1:=(I.gu p B).2;have l3:=kB B;have pm:=yi B I.rn;have e1:yB ps=2^p.r+yB (off p.r ps):=(vN pm).trans vm;have U:=I.pop B;rw[wb] at U;have nm:=ZB B I.rn [];rw[wb,xx,xg] at nm;have gl:=I.gl p B;have ww:∀R,wts R ps=wt R p+wts R (off p.r ps):=λR=>(Zo pm).trans Zp
 refine xE ei ⟨Ky,p,rfl,⟨⟨h,tr,ei⟩,eg⟩,w5,?_⟩
 simp
 split
 ·rename_i h0
  have r1:=JF (c:=p.left.length) w5
  have r2:=Yx (c:=p.left.length) w5
  exact xE kp.i ⟨ql,_,rfl,w5,d,k,br,ro,m,off p.r ps,rk,F,YV p.left.length,p.left,rfl,ab,aa,kp,U,w5,r1,w5,J,hm,λn' ps' rk' L g1 g2 g3 g4 g5=>q n' ps' rk' L g1 (g2.trans W) g3 g4 (.inr ⟨λe=>by rw[e] at h0;simp at h0,g5⟩)⟩
 ·rename_i h0
  have e0:p.left=[]:=wM w5
  rw[e0] at U;exact q n2 (off p.r ps) rk [] kp W U J (.inl ⟨e0,rfl,rfl⟩)
abbrev jY:Stmt:=kK (top 21) 2
abbrev Jp:List Str:=["self","thing"]
def VU:FnScope Jp ["self","thing"] (xr jY):=⟨rfl,rfl,rfl,x0,rfl,x0,x0⟩
def zd9(CP CK:Addr):TF:=λds n Q=>∃(d:Nat) (k br ro:Addr) (m:Nat) (ps:List Pt) (rk:List (Int × D)) (F:Fm) (t:Thing),ds=[.rf k,xh t]/\1<=d/\d<=4/\KAt CP CK d n k br ro m ps rk F/\Tran d ps [] rk/\t.1 ∉ names ps/\t.2.1.length=d/\yB ps+1<500/\rk.length<=m/\m<=100000 /\
 ∀n' ps' rk' L,KAt CP CK d n' k br ro (m+L.length) ps' rk' F->kOf n'=kOf n->Tran d ps' [] rk'->rk'.length<=m+L.length->PutM ps 0 [t] ps' L->Q .non n'
def zN1(CL_Kept:Cls K CK)(NA_rank_of:NoAttr K CK "rank_of")(F:Fun K "come" "Kept.come" jY f fd)(M_put_in:MthC P w K mg base CK "put_in" 16 2 (WG CP CK)):FnOk P w K mg base CX0 17 f fd ["self","thing"] (spD K 2 (zd9 CP CK)):=by
 refine Fun.okD F VU (λaa A0 outer s H E G Z _ W=>(zO (ke (Kt (vC W) (Zc kX jZ (zm 1) xo (λ_ _=>rfl)) (yW CL_Kept NA_rank_of (zm 0)) (by with_unfolding_all rfl)) (xi VZ) vn)
  (xi (vJ (qK M_put_in (W.mono w6) rfl (zm 0) (zc xo (zc (jH (zc (zm 1) zB)) zB))))))) ?_
 rintro ds n Q hl ⟨d,k,br,ro,m,ps,rk,F,t,rfl,U,J,hk,B,hn,hd,Y,I,hm,q⟩
 have e:vG t.1 rk=none:=by
  cases z:vG t.1 rk with
  |none=>rfl
  |some d=>exact absurd (B.kr t.1 (by rw[z];rfl)) (by rw[xx,xg];exact hn)
 simp[wR,xh];refine xE hk.i ?_;rw[zy8];simp;refine xC hk.o ?_;rw[e];simp
 refine xE hk.i ⟨ql,d,k,br,ro,m,ps,rk,F,0,[t],rfl,U,J,hk,?_,by simp,by simp,by simpa using Y,I,hm,q⟩
 exact⟨B.rn,B.gu,B.gl,zV.mpr ⟨hn,B.al⟩,λu hu=>by rw[zw.mp hu];exact hd,B.rk,λx hx=>zf _ (B.kr x hx)⟩
abbrev YS:Stmt:=kK (top 21) 3
abbrev zr2:List Str:=["self","name","rank","part"]
def ZI:FnScope zr2 ["self","name"] (xr YS):=⟨rfl,rfl,rfl,x0,rfl,x0,x0⟩
def xi1(CP CK:Addr):TF:=λds n Q=>∃(d:Nat) (k br ro:Addr) (m:Nat) (ps:List Pt) (rk:List (Int × D)) (F:Fm) (x:Int),ds=[.rf k,.int x]/\1<=d/\d<=4/\KAt CP CK d n k br ro m ps rk F/\Tran d ps [] rk/\x∈names ps/\yB ps<500/\rk.length<=m/\m<=100000 /\
 ∀n' ps' rk' L,KAt CP CK d n' k br ro (m+L.length) ps' rk' F->kOf n'=kOf n->Tran d ps' [] rk'->rk'.length<=m+L.length->GoM ps x ps' L->Q .non n'
def xy8(T:Blt mg)(CL_Kept:Cls K CK)(CL_Part:Cls K CP)(NA_things:NoAttr K CP "things")(NA_gone:NoAttr K CP "gone")(NA_by_rank:NoAttr K CK "by_rank")(NA_rank_of:NoAttr K CK "rank_of")(F:Fun K "go" "Kept.go" YS f fd)(M_make_anew:MthC P w K mg base CK "make_anew" 17 1 (ze0 CP CK)):FnOk P w K mg base CX0 18 f fd ["self","name"] (spD K 2 (xi1 CP CK)):=by
 refine Fun.okD F ZI (λah A0 outer s H E G Z _ hr=>(zO (ke (qt (vC hr) (zm 1) (yW CL_Kept NA_rank_of (zm 0)) (by with_unfolding_all rfl)) (xi VZ) vn)
  (zO (yZ (i:=2) ZI.nd rfl (lo rfl) (jl (yW CL_Kept NA_rank_of (zm 0)) (zm 1) ⟨rfl,rfl,rfl,rfl⟩))
  (zO (yZ (i:=3) ZI.nd rfl (lo rfl) (ZS (vC hr) (yW CL_Kept NA_by_rank (zm 0)) (zm 2) (λ_ _=>rfl)))
  (zO (qJ (vC hr) (yW CL_Part NA_gone (zm 3)) (zm 1) Uf)
  (xi (ke (kR zw6 zt9 (qu xo (Kx T.len (zc (yW CL_Part NA_gone (zm 3)) zB))) (wj wu kf T.len kh (zc (yW CL_Part NA_things (zm 3)) zB)) (kN _)) (xi (vJ (qK M_make_anew (hr.mono w6) rfl (zm 0) (zc (zm 2) zB)))) vn))))))) ?_
 rintro ds n Q hl ⟨d,k,br,ro,m,ps,rk,F,x,rfl,af,ae,hk,J,hx,hz,ad,hm,q⟩;obtain⟨p,I,t,B,rfl⟩:=Us hx;have e:=J.rk p I t B;simp[wR];refine xE hk.i ?_;rw[zy8];simp;refine xC hk.o ?_;rw[e];simp;refine xE hk.i ?_;rw[zy8];simp;refine xC hk.o (xC hk.o ?_);rw[e];simp;have pl:=Va (k:=t.1) (vp hk.o);have kr:=hk.rank pl;have k1:=vh (n:=n) (a:=ro) pl;generalize vq n ro _=n1 at kr k1 ⊢;refine xE kr.i ?_;rw[Vm];simp;refine xC kr.b ?_;rw[QC J.rn I];simp;obtain⟨⟨h,tr,ei⟩,eg⟩:=kr.p p I;obtain⟨tg1,tg2,ac,ag⟩:=J.go I B;have pr:=qr (gs:=vL t.1 (D.bl true) p.gs) I J.rn;obtain⟨g1,g2,g3⟩:=XC B;have gl:=J.gl p I;have l1:=(J.gu p I).2;have l3:=kB I;have al:=J.al;rw[xx,xg] at al;have ab:=(vD (yi I J.rn)).nodup_iff.mp al;rw[vO,xu] at ab;have ll:=YC B ab.1;refine xE ei ?_;rw[Ve];simp;have U:=ZO (k:=t.1) (d:=.bl true) (vp eg) rfl;have W:=kr.gone J.rn I U;have k2:=(vh (n:=n1) (a:=p.g) U).trans k1
 refine xC eg ⟨rfl,wZ w5,?_⟩
 have Y:({ p with gs:=vL t.1 (D.bl true) p.gs }:Pt)∈Zt p.r (vL t.1 (D.bl true) p.gs) ps:=pr.mem_iff.mpr zq;generalize vq n1 p.g _=n2 at W k2 ⊢;obtain⟨⟨h',tr',ei'⟩,eg'⟩:=W.p _ Y;refine xE ei' ?_;rw[Ve];simp
 have g4:(vL t.1 (D.bl true) p.gs).length=p.gs.length+1:=by rw[g2,zD];rfl
 refine xC eg' ⟨.inl ⟨w6,w6⟩,xE ei' ?_⟩
 rw[Xf];simp;have aa:(vU t.1 rk).length<=m:=zF Qp ad
 split
 ·rename_i h0
  have h1:p.ts.length<2*(p.gs.length+1):=w5
  exact xE W.i ⟨ql,d,k,br,ro,m,_,_,F,{ p with gs:=vL t.1 (D.bl true) p.gs },rfl,af,ae,W,tg1,Y,(KR J I B h1).2,by rw[ac];exact hz,aa,hm,λn' ps' rk' L f1 f2 f3 f4 f5=>q n' ps' rk' L f1 (f2.trans k2) f3 f4 ⟨p,t,I,B,rfl,.inr ⟨h1,f5⟩⟩⟩
 ·rename_i h0
  exact q n2 _ _ [] W k2 tg1 aa ⟨p,t,I,B,rfl,.inl ⟨w5,rfl,rfl⟩⟩
abbrev jW:Stmt:=kK (top 21) 8
abbrev Jn:List Str:=["self"]
def VS:FnScope Jn q0 (xr jW):=⟨rfl,rfl,rfl,x0,rfl,x0,x0⟩
def zd6(CP CK:Addr):TF:=λds n Q=>∃(d:Nat) (k br ro:Addr) (m:Nat) (ps:List Pt) (rk:List (Int × D)) (F:Fm),ds=[.rf k]/\KAt CP CK d n k br ro m ps rk F/\Q (.int (m:Int)) n
def zM7(CL_Kept:Cls K CK)(NA_so_many_made:NoAttr K CK "so_many_made")(F:Fun K "made" "Kept.made" jW f fd):FnOk P w K mg base CX0 1 f fd q0 (spD K 1 (zd6 CP CK)):=by
 refine Fun.okD F VS (λB U outer s H E G Z _ I=>(xi (wC (yW CL_Kept NA_so_many_made (zm 0))))) ?_;rintro ds n Q J ⟨d,k,br,ro,m,ps,rk,F,rfl,hk,q⟩;simp[wR];refine xE hk.i ?_;rw[xH4];simp;exact q
end
def zL8{f:Str}(h:f ≠ "things" /\ f ≠ "held" /\ f ≠ "tree" /\ f ≠ "gone" := by decide +kernel){ts h' tr g}:kG f (pF ts h' tr g)=none:=by
 simp[pF,kG,Ne.symm h.1,Ne.symm h.2.1,Ne.symm h.2.2.1,Ne.symm h.2.2.2]
def ZD(p:Pt):D:=.tup [.int (p.r:Int),.tup (p.ts.map λt=>.int t.1),.tup (p.ts.map λt=>.bl (vG t.1 p.gs).isSome)]
section
variable {P:Program}{w:World}{K:W.Frag}{mg:QqM}{base:Heap}{CP CK:Addr}
abbrev jT:Stmt:=kK (top 20) 2
abbrev qa:List Str:=["self","rank","names"]
def Yl:FnScope qa q3 (xr jT):=⟨rfl,rfl,rfl,x0,rfl,x0,x0⟩
def XZ:("thing" :: qa:List Str).Nodup:=x0
def XY:("name" :: qa:List Str).Nodup:=x0
def zd5(CP:Addr):TF:=λds n Q=>∃p:Pt,ds=[.rf p.a,.int (p.r:Int)]/\PartAt CP n p/\p.ts.length<=1000/\Q (ZD p) n
def zM5(T:Blt mg)(CL_Part:Cls K CP)(NA_things:NoAttr K CP "things")(NA_gone:NoAttr K CP "gone")(F:Fun K "told" "Part.told" jT f fd):FnOk P w K mg base CX0 1 f fd q3 (spD K 2 (zd5 CP)):=by
 refine Fun.okD F Yl (λaa A0 outer s H E G Z _ hr=>(zO (qI (i:=2) Yl.nd rfl (lo rfl) (own:=["thing"]) (M:=qa) (vQ (by rfl)) rfl (vf rfl (yW CL_Part NA_things (zm 0))) (λC B J I=>(xQ (i:=0) XZ rfl (lo rfl) w6)) (λC B J I=>vc) (λC B J I=>(Zc kX jZ (zm 0) xo (λ_ _=>rfl))))
  (xi (wC (jk (zc (zm 1) (zc (yD wJ vK T.tuple vw (zc (zm 2) zB)) (zc (yD wJ vK T.tuple vw (zc (vT (own:=["name"]) (M:=qa) (vQ (by rfl)) rfl (vf rfl (zm 2)) (λC B J I=>(xQ (i:=0) XY rfl (lo rfl) w6)) (λC B J I=>vc) (λC B J I=>(zC9 (vC hr) (zm 0) (yW CL_Part NA_gone (zm 1)) (by with_unfolding_all rfl)))) zB)) zB)))))))) ?_
 rintro ds n Q hl ⟨p,rfl,⟨⟨h,tr,hc⟩,U⟩,Y,q⟩;simp[wR];refine xE hc ?_;rw[Xf];simp;refine yK xh (λt=>.int t.1) p.ts (wZ Y) (λt ht R W=>?_) ?_
 ·simp[xh];exact W
 ·simp;refine yK (λt:Thing=>D.int t.1) (λt=>.bl (vG t.1 p.gs).isSome) p.ts (wZ Y) (λt ht R W=>?_) ?_
  ·simp;refine xE hc ?_;rw[Ve];simp;refine xC U ?_
   simpa using W
  ·exact kD.mpr q
abbrev jf:Stmt:=kK (top 21) 6
abbrev UX:List Str:=["self"]
def WQ:FnScope UX q0 (xr jf):=⟨rfl,rfl,rfl,x0,rfl,x0,x0⟩
def Kh(CP CK:Addr):TF:=λds n Q=>∃(d:Nat) (k br ro:Addr) (m:Nat) (ps:List Pt) (rk:List (Int × D)) (F:Fm),ds=[.rf k]/\KAt CP CK d n k br ro m ps rk F/\ps.length<64/\∀B:List Pt,B.Perm ps->B.Pairwise (λp q=>q.r<=p.r)->Q (.lst (B.map λp=>.int (p.r:Int))) n
def zx2(T:Blt mg)(CL_Kept:Cls K CK)(NA_by_rank:NoAttr K CK "by_rank")(F:Fun K "ranks" "Kept.ranks" jf f fd):FnOk P w K mg base CX0 1 f fd q0 (spD K 1 (Kh CP CK)):=by
 refine Fun.okD F WQ (λaa A0 outer s H E G Z _ U=>(xi (wC (QR rfl T.sorted (zc (JS U T.list (zc (yW CL_Kept NA_by_rank (zm 0)) zB)) zB))))) ?_;rintro ds n Q hl ⟨d,k,br,ro,m,ps,rk,F,rfl,hk,J,q⟩;simp[wR];refine xE hk.i ?_;rw[Vm];simp;refine xC hk.b ?_
 refine⟨ps.map λp=>(p.r:Int),?_,by rw[zh];exact J,λms Y B=>?_⟩
 ·unfold brT;rw[zQ,zQ];rfl
 ·obtain ⟨I, W, rfl⟩ := jD Y;rw[xy] at B;rw[zQ]
  exact q I W (B.imp λh=>by lia)
abbrev jg:Stmt:=kK (top 21) 7
abbrev jy:List Str:=["self"]
def WR:FnScope jy q0 (xr jg):=⟨rfl,rfl,rfl,x0,rfl,x0,x0⟩
def Xn:("rank" :: jy:List Str).Nodup:=x0
def Kj(CP CK:Addr):TF:=λds n Q=>∃(d:Nat) (k br ro:Addr) (m:Nat) (ps:List Pt) (rk:List (Int × D)) (F:Fm),ds=[.rf k]/\KAt CP CK d n k br ro m ps rk F/\(ps.map (·.r)).Nodup/\(∀p∈ps,p.ts.length<=1000)/\ps.length<64/\∀B:List Pt,B.Perm ps->B.Pairwise (λp q=>q.r<=p.r)->Q (.tup (B.map ZD)) n
def zx6(T:Blt mg)(CL_Kept:Cls K CK)(NA_by_rank:NoAttr K CK "by_rank")(F:Fun K "parts" "Kept.parts" jg f fd)(M_told:MthC P w K mg base CP "told" 1 1 (zd5 CP))(M_ranks:MthC P w K mg base CK "ranks" 1 0 (Kh CP CK)):FnOk P w K mg base CX0 2 f fd q0 (spD K 1 (Kj CP CK)):=by
 refine Fun.okD F WR (λab A0 outer s H E G Z _ I=>(xi (wC (yD wJ vK T.tuple vw (zc (vT (own:=["rank"]) (M:=jy) (vQ (by rfl)) rfl (vf rfl (kS M_ranks (I.mono w6) rfl (zm 0))) (λC W H2 fp=>(xQ (i:=0) Xn rfl (lo rfl) w6)) (λC W H2 fp=>vc) (λC W H2 fp=>(qK M_told (I.mono w6) rfl (ZS (vC I) (yW CL_Kept NA_by_rank (zm 1)) (zm 0) (λ_ _=>rfl)) (zc (zm 0) zB)))) zB))))) ?_
 rintro ds n Q hl ⟨d,k,br,ro,m,ps,rk,F,rfl,hk,hn,B,hz,q⟩;simp[wR];refine xE hk.i ⟨ql,d,k,br,ro,m,ps,rk,F,rfl,hk,hz,λY U hs=>?_⟩;have aa:=U.length_eq;refine⟨_,.inl rfl,?_⟩
 refine yK (λp:Pt=>D.int (p.r:Int)) ZD Y (wZ w5) (λp J R hR=>?_) ?_
 ·have hm:p∈ps:=U.mem_iff.mp J;simp;refine xE hk.i ?_;rw[Vm];simp;refine xC hk.b ?_;rw[QC hn hm];simp;obtain⟨⟨x,y,e⟩,e2⟩:=hk.p p hm;exact xE e ⟨zL8,p,rfl,⟨⟨x,y,e⟩,e2⟩,B p hm,hR⟩
 ·exact kD.mpr (q Y U hs)
abbrev jh:Stmt:=kK (top 21) 5
abbrev jz:List Str:=["self"]
def WS:FnScope jz q0 (xr jh):=⟨rfl,rfl,rfl,x0,rfl,x0,x0⟩
def jp:("rank" :: "thing" :: jz:List Str).Nodup:=x0
def WK(CP CK:Addr):TF:=λds n Q=>∃(d:Nat) (k br ro:Addr) (m:Nat) (ps:List Pt) (rk:List (Int × D)) (F:Fm),ds=[.rf k]/\KAt CP CK d n k br ro m ps rk F/\Tran d ps [] rk/\yB ps<500/\(ps.flatMap Pt.left).length<900 /\
 ∀B:List Thing,B.Perm (ps.flatMap Pt.left)->B.Pairwise (λs t=>s.1<t.1)->Q (.tup [.int (d:Int),.tup (B.map xh)]) n
structure JHs(ps:List Pt)(n:Nat)(i:Nat)(acc:List D)(n':Nat):Prop where
 hn:n'=n
 he:acc=((ps.take i).flatMap Pt.left).map xh
def zi8(T:Blt mg)(CL_Kept:Cls K CK)(NA_d:NoAttr K CK "d")(NA_by_rank:NoAttr K CK "by_rank")(F:Fun K "house" "Kept.house" jh f fd)(M_left:MthC P w K mg base CP "left" 1 0 (YI CP)):FnOk P w K mg base CX0 2 f fd q0 (spD K 1 (WK CP CK)):=by
 refine Fun.okD F WS (λad A0 outer s H E G Z _ Y=>(xi (wC (jk (zc (yW CL_Kept NA_d (zm 0)) (zc (yD wJ vK T.tuple vw (zc (wj (Yh Y) (Qu rfl) T.sorted kZ (zc (zw5 (own:=["rank","thing"]) (M:=jz) (vQ (by rfl)) rfl (vf rfl (JS Y T.list (zc (yW CL_Kept NA_by_rank (zm 0)) zB))) (λC J W U=>(xQ (i:=0) jp rfl (lo rfl) w6)) (λC J W U=>vc) (λC J W U=>(vf rfl (kS M_left (Y.mono w6) rfl (ZS (vC Y) (yW CL_Kept NA_by_rank (zm 2)) (zm 0) (λ_ _=>rfl))))) (λC J W U=>(xQ (i:=1) jp rfl (lo rfl) w6)) (λC J W U=>vc) (λC J W U=>(zm 1))) zB)) zB)) zB)))))) ?_
 rintro ds n Q hl ⟨d,k,br,ro,m,ps,rk,F,rfl,hk,ht,hz,aa,q⟩;simp[wR];refine xE hk.i ?_;rw[xH5];simp;refine xE hk.i ?_;rw[Vm];simp;refine xC hk.b ?_;refine⟨JHs ps n,⟨rfl,rfl⟩,?_,?_⟩
 ·rintro i d' B n' e ⟨rfl, rfl⟩;unfold brT at e;rw[zQ,zI] at e;obtain⟨p,ep,rfl⟩:=xY.mp e;have I:p∈ps:=wl ep;obtain⟨⟨x,y,e1⟩,e2⟩:=hk.p p I;have ls:=(ht.gu p I).2;have l3:=kB I
  have tk:(ps.take (i+1)).flatMap Pt.left=(ps.take i).flatMap Pt.left++p.left:=by rw[xp,ep,flatMap_append];simp
  have lt:((ps.take (i+1)).flatMap Pt.left).length<=(ps.flatMap Pt.left).length:=by
   have e3:ps.flatMap Pt.left=(ps.take (i+1)).flatMap Pt.left++(ps.drop (i+1)).flatMap Pt.left:=by rw[<- flatMap_append,wL]
   rw[e3,zD];lia
  rw[tk,zD] at lt;simp;refine xE hk.i ?_;rw[Vm];simp;refine xC hk.b ?_;rw[QC ht.rn I];simp
  refine xE e1 ⟨Ky,p,rfl,⟨⟨x,y,e1⟩,e2⟩,w5,?_⟩
  simp
  refine⟨λj B n2=>n2=n'/\B=((ps.take i).flatMap Pt.left++p.left.take j).map xh,⟨rfl,by simp⟩,?_,?_⟩
  ·rintro j d2 B n2 e3 ⟨rfl, rfl⟩;rw[zI] at e3;obtain⟨t,et,rfl⟩:=xY.mp e3;have hj:j<p.left.length:=(zT.mp et).1
   refine⟨lt_size (by rw[zh,zD,xl];lia),?_⟩
   simp[keepsD];rw[xp,zI,et];rfl
  ·rintro B n2 ⟨rfl,rfl⟩;refine⟨rfl,?_⟩;rw[zh,wq,tk]
 ·rintro B n' ⟨rfl, rfl⟩
  have lb:(List.map (λp:Int × D=>D.int p.fst) (brT ps)).length=ps.length:=by unfold brT;rw[zh,zh]
  rw[lb,wq]
  refine⟨wZ (by rw[zh];lia),?_⟩
  have nd:((ps.flatMap Pt.left).map (·.1)).Nodup:=by
   have al:=ht.al;rw[xx,xg] at al;rw[List.map_flatMap];exact al
  refine⟨(ps.flatMap Pt.left).map λt=>(t.1,[vo t.2.1,.int t.2.2]),by rw[zQ];rfl,by rw[zh];exact aa,by rw[zQ];exact nd,λac I hs=>?_⟩
  obtain⟨rs,ab,rfl⟩:=jD I
  have eR:(rs.map λt=>(t.1,[vo t.2.1,D.int t.2.2])).map NRow.d=rs.map xh:=by rw[zQ];rfl
  rw[eR];rw[xy] at hs;exact kD.mpr (q rs ab hs)
end
theorem zm1:∀{items es:List D},Paired (λ_ e=>∃i:Int,e=D.int i) items es->∃B:List Int,es=B.map D.int/\B.length=items.length
 |[],_,h=>by cases h;exact⟨[],rfl,rfl⟩
 | x :: items, _, h => by
  cases h with
  |@cons _ e _ es h1 h2=>
   obtain⟨i,rfl⟩:=h1;obtain⟨B,rfl,I⟩:=zm1 h2
   exact⟨i::B,rfl,by rw[zA,I,zA]⟩
section
variable {P:Program}{w:World}{K:W.Frag}{mg:QqM}{base:Heap}{CP CK:Addr}
abbrev YR:Stmt:=top 26
abbrev zr1:List Str:=["_law_left_here","_law_some"]
def QK:FnScope zr1 q10 (xr YR):=⟨rfl,rfl,rfl,x0,rfl,x0,x0⟩
def zR7:TF:=λds n Q=>∃B:List Int,ds=[.st,.lst (B.map D.int)]/\kOf n=2/\1<=B.length/\B.length<=1000/\∀j∈B,Q (.int j) n
def xy7(T:Blt mg)(F:Fun K "_law_of" "_law_of" YR f fd)(Y_pick:Fn P w K mg base "_law_pick" 1 2 Yi):FnOk P w K mg base CX0 2 f fd q10 (spD K 2 zR7):=by
 refine Fun.okD F QK (λU A0 outer s H E G Z _ J=>(xi (wC (Zc kX jZ (zm 1) (vg Y_pick (J.mono w6) rfl (zc (zm 0) (zc (wj wu kf T.len kh (zc (zm 1) zB)) zB))) (λ_ _=>rfl))))) ?_
 rintro ds n Q hl ⟨Y,rfl,hn,h1,h2,q⟩;simp[wR]
 refine vy hn w5 w5 λW I B=>?_
 refine xO4 I (by simpa using B) λd hd=>?_
 obtain⟨j,hj,rfl⟩:=zG.mp hd;exact q j hj
abbrev qE:Stmt:=top 27
abbrev Vw:List Str:=["_law_left_here","_law_near","_law_some"]
def jG:FnScope Vw ["_law_left_here","_law_near"] (xr qE):=⟨rfl,rfl,rfl,x0,rfl,x0,x0⟩
def WH:TF:=λds n Q=>∃b:Bool,ds=[.st,.bl b]/\kOf n=2/\∀x:Int,Q (.int x) n
def zi6(F:Fun K "_law_number" "_law_number" qE f fd)(Y_pick:Fn P w K mg base "_law_pick" 1 2 Yi)(Y_of:Fn P w K mg base "_law_of" 2 2 zR7):FnOk P w K mg base CX0 3 f fd ["_law_left_here","_law_near"] (spD K 2 WH):=by
 refine Fun.okD F jG (λW A0 outer s H E G Z _ B=>(zO (ke (jj (zm 1)) (xi (wC (vg Y_pick (B.mono w6) rfl (zc (zm 0) (zc xo zB))))) vn)
  (zO (yZ (i:=2) jG.nd rfl (lo rfl) (jH (zc (Wq (vg Y_pick (B.mono w6) rfl (zc (zm 0) (zc xo zB))) xo) (zc (vg Y_pick (B.mono w6) rfl (zc (zm 0) (zc xo zB))) (zc (jn (Wr xo xo) (vg Y_pick (B.mono w6) rfl (zc (zm 0) (zc xo zB)))) (zc (Wq xo (Wr xo xo)) (zc xo zB)))))))
  (xi (wC (vg Y_of (B.mono w6) rfl (zc (zm 0) (zc (zm 2) zB)))))))) ?_
 rintro ds n Q Y ⟨b,rfl,hn,q⟩;simp[wR]
 split
 ·exact vy hn w6 w6 λx _ _=>q x
 ·refine vy hn w6 w6 λU h1 _ => ?_
  rw[zf7]
  refine vy hn w6 w6 λJ h2 _=>⟨⟨w6,w6,w6⟩,vy hn w6 w6 λI h3 _=>?_⟩
  rw[zf7]
  exact⟨⟨w6,w6,w6⟩,[U-3,J,100000000000000000+I,-100000000000000000,7],rfl,hn,by simp,by simp,λj _=>q j⟩
abbrev ja:Stmt:=top 28
abbrev ju:List Str:=["_law_left_here","_law_name","_law_d","_law_near","_law_place"]
def Zr:FnScope ju q11 (xr ja):=⟨rfl,rfl,rfl,x0,rfl,x0,x0⟩
def Xk:("_law_i" :: ju:List Str).Nodup:=x0
def Kg:TF:=λds n Q=>∃(x:Int) (d:Nat) (b:Bool),ds=[.st,.int x,.int (d:Int),.bl b]/\kOf n=2/\d<=4/\∀(p:List Int) (z:Int),p.length=d->Q (xh (x,p,z)) n
def zx0(T:Blt mg)(F:Fun K "_law_thing" "_law_thing" ja f fd)(Y_pick:Fn P w K mg base "_law_pick" 1 2 Yi)(Y_of:Fn P w K mg base "_law_of" 2 2 zR7)(Y_number:Fn P w K mg base "_law_number" 3 2 WH):FnOk P w K mg base CX0 4 f fd q11 (spD K 4 Kg):=by
 refine Fun.okD F Zr (λaa A0 outer s H E G Z _ B=>(zO (yZ (i:=4) Zr.nd rfl (lo rfl) (yD wJ vK T.tuple vw (zc (vT (own:=["_law_i"]) (M:=ju) (vQ (by rfl)) rfl (Xd T.range (zc (zm 2) zB)) (λC J W U=>(xQ (i:=0) Xk rfl (lo rfl) w6)) (λC J W U=>vc) (λC J W U=>(vg Y_number (B.mono w6) rfl (zc (zm 1) (zc (zm 4) zB))))) zB)))
  (xi (wC (jk (zc (zm 1) (zc (zm 4) (zc (vg Y_of (B.mono w6) rfl (zc (zm 0) (zc (jH (zc (Wq (vg Y_pick (B.mono w6) rfl (zc (zm 0) (zc xo zB))) xo) (zc (vg Y_pick (B.mono w6) rfl (zc (zm 0) (zc (Wr xo xo) zB))) (zc (Wq xo (Wr xo xo)) (zc xo (zc xo zB)))))) zB))) zB)))))))) ?_
 rintro ds n Q hl ⟨x,d,b,rfl,hn,hd,q⟩;simp[wR]
 refine⟨w5,?_⟩
 refine zp5 (JD 0 d) n (λ_ e=>∃i:Int,e=.int i) (wZ (by rw[WV];lia)) (λi e he R hR=>?_) λes I=>?_
 ·simp;exact⟨b,rfl,hn,λy=>hR _ ⟨y,rfl⟩⟩
 ·obtain ⟨js, rfl, hj⟩ := zm1 I;rw[WV] at hj;simp
  refine vy hn w6 w6 λx1 h1 _=>?_
  rw[zf7]
  refine⟨⟨w6,w6,w6⟩,vy hn w6 w6 λY h2 _=>⟨⟨w6,w6,w6⟩,[x1-2,Y,-100000000000000000,3,0],rfl,hn,by simp,by simp,λz _=>?_⟩⟩
  exact q js z hj
end
@[simp] theorem ml1:(("parts" : Str) = "here")=False:=eq_false x0
@[simp] theorem ml2:(("parts" : Str) = "made")=False:=eq_false x0
@[simp] theorem ml3:(("here" : Str) = "made")=False:=eq_false x0
def mF(pa he:Addr)(m:Nat):List (Str × D):=[("parts",.rf pa),("here",.rf he),("made",.int (m:Int))]
def qR{pa he m}:kG "parts" (mF pa he m)=some (.rf pa):=by simp[mF,kG]
def zj9{pa he m}:kG "here" (mF pa he m)=some (.rf he):=by simp[mF,kG]
def zj8{pa he m}:kG "made" (mF pa he m)=some (.int (m:Int)):=by simp[mF,kG]
def xc0{pa he m m'}:zC6 "made" (.int ((m':Nat):Int)) (mF pa he m)=mF pa he m':=by simp[mF,zC6,kG]
def zv1{pa he m}:plC (.dis (mF pa he m))=true:=rfl
def nmL(T:List Thing):D:=.lst (T.map λt=>.int t.1)
def mP(p:Pt):D:=.lst [nmL p.ts,.rf p.g]
def Zn(ps:List Pt):List (Int × D):=ps.map λp=>((p.r:Int),mP p)
theorem Yv:∀{ps:List Pt}{i:Nat},(∃p∈ps,p.r=i/\vG (i:Int) (Zn ps)=some (mP p))\/(vG (i:Int) (Zn ps)=none/\∀p∈ps,p.r≠i)
 |[],i=>.inr ⟨rfl,by simp⟩
 | q :: ps, i => by
  by_cases e:q.r=i
  ·refine .inl ⟨q, zq, e, ?_⟩
   show(if (q.r:Int)=i then some (mP q) else _)=_
   rw[if_pos w5]
  ·have I : vG (i : Int) (Zn (q :: ps)) = vG (i : Int) (Zn ps) := by
    show(if (q.r:Int)=i then some (mP q) else vG (i:Int) (Zn ps))=_
    rw[if_neg w5]
   rw[I]
   rcases Yv (ps:=ps) (i:=i) with ⟨p,B,h1,h2⟩ |⟨h1,h2⟩
   ·exact .inl ⟨p,zf _ B,h1,h2⟩
   ·refine .inr ⟨h1, λp B => ?_⟩
    rcases zg.mp B with rfl |B
    ·exact e
    ·exact h2 p B
def YO{ps:List Pt}{p q:Pt}(hn:(ps.map (·.r)).Nodup)(J:p∈ps)(I:q∈ps)(e:q.r=p.r):q=p:=by
 rcases zg.mp ((yi J hn).mem_iff.mp I) with B |B
 ·exact B
 ·exact absurd e (kW B).2
def Ke{ps:List Pt}{p:Pt}(hn:(ps.map (·.r)).Nodup)(h:p∈ps):vG (p.r:Int) (Zn ps)=some (mP p):=by
 rcases Yv (ps:=ps) (i:=p.r) with ⟨q,B,h1,h2⟩ |⟨_,h2⟩
 ·rw[h2,YO hn h B h1]
 ·exact absurd rfl (h2 p h)
def WE{ps:List Pt}{r:Nat}:vU (r:Int) (Zn ps)=Zn (off r ps):=by
 unfold vU Zn off;rw[filter_map]
 congr 1
 refine List.filter_congr λp _=>?_;show decide ((p.r:Int)≠r)=decide (p.r≠r)
 exact decide_eq_decide.mpr ⟨λh z=>h (by rw[z]),λh z=>h w5⟩
def zs2{ps:List Pt}{p:Pt}(h:∀q∈ps,q.r≠p.r):vL (p.r:Int) (mP p) (Zn ps)=Zn (ps++[p]):=by
 have e:vG (p.r:Int) (Zn ps)=none:=by
  rcases Yv (ps:=ps) (i:=p.r) with ⟨q,B,h1,_⟩ |⟨h1,_⟩
  ·exact absurd h1 (h q B)
  ·exact h1
 unfold vL;rw[e];show Zn ps++[_]=_;unfold Zn;rw[xI];rfl
def zY4(T:List Thing):plD (nmL T)=true:=yh.mpr λd hd=>by obtain⟨x,_,rfl⟩:=zG.mp hd;rfl
def zY5(p:Pt):plD (mP p)=true:=yh.mpr λd hd=>by
 simp only[zg,xk,or_false] at hd
 rcases hd with rfl |rfl
 ·exact zY4 _
 ·rfl
def Xa{ps:List Pt}:plC (.dic (Zn ps))=true:=yh.mpr λx hd=>by
 unfold Zn at hd;rw[zQ] at hd;obtain⟨p,_,rfl⟩:=zG.mp hd;exact zY5 p
def Zg(B pa he:Addr)(ps:List Pt):List Addr:=B::pa::he::ps.map (·.g)
structure MAt(n:Nat)(mo pa he:Addr)(m:Nat)(ps:List Pt)(rk:List (Int × D))(F:Fm):Prop where
 i:zW n mo=some (.dis (mF pa he m))
 b:zW n pa=some (.dic (Zn ps))
 o:zW n he=some (.dic rk)
 p:∀q∈ps,zW n q.g=some (.dic q.gs)
 nd:(Zg mo pa he ps).Nodup
 f:Fok F n (Zg mo pa he ps)
section
variable {n n':Nat}{mo pa he:Addr}{m:Nat}{ps:List Pt}{rk:List (Int × D)}{F F':Fm}
def MAt.apart(h:MAt n mo pa he m ps rk F):mo≠pa/\mo≠he/\pa≠he/\∀p∈ps,p.g≠mo/\p.g≠pa/\p.g≠he:=by
 have nd:=h.nd;unfold Zg at nd;obtain⟨B,nd⟩:=zV.mp nd;obtain⟨I,nd⟩:=zV.mp nd;obtain⟨U,nd⟩:=zV.mp nd;simp only[zg,not_or] at B I;exact⟨B.1,B.2.1,I.1,λp J=>⟨λe=>B.2.2 (e ▸ zt J),λe=>I.2 (e ▸ zt J),λe=>U (e ▸ zt J)⟩⟩
def MAt.keep(h:MAt n mo pa he m ps rk F)(B:∀b∈Zg mo pa he ps,zW n' b=zW n b)(J:Fok F' n' (Zg mo pa he ps)):MAt n' mo pa he m ps rk F':=
 ⟨(B _ (by simp[Zg])).trans h.i,(B _ (by simp[Zg])).trans h.b,(B _ (by simp[Zg])).trans h.o,λq I=>(B _ (by simp[Zg];exact .inr (.inr (.inr ⟨q,I,rfl⟩)))).trans (h.p q I),h.nd,J⟩
def KAt.keep{J CK:Addr}{d:Nat}{k br ro:Addr}(h:KAt J CK d n k br ro m ps rk F)(B:∀b∈jF k br ro ps,zW n' b=zW n b)(U:Fok F' n' (jF k br ro ps)):KAt J CK d n' k br ro m ps rk F':=
  ⟨(B _ (by simp [jF])).trans h.i, (B _ (by simp [jF])).trans h.b, (B _ (by simp [jF])).trans h.o, λq I => by
    obtain⟨z1,z2⟩:=Vv (k:=k) (br:=br) (ro:=ro) I;obtain⟨⟨x,y,e⟩,W⟩:=h.p q I
    exact⟨⟨x,y,(B _ (by unfold jF;exact zf _ (zf _ (zf _ z1)))).trans e⟩,(B _ (by unfold jF;exact zf _ (zf _ (zf _ z2)))).trans W⟩,h.nd,U⟩
def MAt.pop(h:MAt n mo pa he m ps rk F)(r:Nat):MAt (vq n pa (.dic (vU (r:Int) (Zn ps)))) mo pa he m (off r ps) rk F:=by
 obtain⟨a1,a2,a3,a4⟩:=h.apart;rw[WE];have pl:=Xa (ps:=off r ps);have o:=OnlyC.set (n:=n) (a:=pa) pl;have sb:(Zg mo pa he (off r ps)).Sublist (Zg mo pa he ps):=((((xt ..).map _).cons₂ _).cons₂ _).cons₂ _
 refine⟨(o.o _ (by simpa using a1)).trans h.i,wc pl,(o.o _ (by simpa using Ne.symm a3)).trans h.o,λq B=>?_,sb.nodup h.nd,h.f.only o (λa ha=>.inl (by rw[zw.mp ha];simp[Zg])) λa ha=>.inl (sb.mem ha)⟩
 exact(o.o _ (by simpa using (a4 q (kW B).1).2.1)).trans (h.p q (kW B).1)
def MAt.kOfPop(r:Nat):kOf (vq n pa (.dic (vU (r:Int) (Zn ps))))=kOf n:=by rw[WE];exact vh Xa
def MAt.popG(h:MAt n mo pa he m ps rk F){p:Pt}(B:p∈ps)(r:Nat):zW (vq n pa (.dic (vU (r:Int) (Zn ps)))) p.g=some (.dic p.gs):=by
 rw[WE];exact(vb Xa (h.apart.2.2.2 p B).2.1).trans (h.p p B)
def MAt.put(h:MAt n mo pa he m ps rk F){s:Nat}{T:List Thing}{g:Addr}(Y:zW n g=none)(hr:∀q∈ps,q.r≠s):MAt (vq (vq n g (.dic [])) pa (.dic (vL (s:Int) (.lst [nmL T,.rf g]) (Zn ps)))) mo pa he m (ps++[⟨s,g,g,T,[]⟩]) rk F:=by
 obtain⟨a1,a2,a3,a4⟩:=h.apart;have hr':∀q∈ps,q.r≠(⟨s,g,g,T,[]⟩:Pt).r:=hr;have I:plC (.dic [])=true:=rfl;have W:=OnlyC.set (n:=n) (a:=g) I;have e:=zs2 hr';unfold mP at e;rw[e];have pl:=Xa (ps:=ps++[⟨s,g,g,T,[]⟩]);have J:=OnlyC.set (n:=vq n g (.dic [])) (a:=pa) pl
 have U:∀x c,zW n x=some c->x≠g:=λx c e z=>by rw[z,Y] at e;cases e
 have kk:=U _ _ h.i;have kb:=U _ _ h.b;have ko:=U _ _ h.o
 have e2:Zg mo pa he (ps++[⟨s,g,g,T,[]⟩])=Zg mo pa he ps++[g]:=by simp[Zg]
 refine⟨(J.o _ (by simpa using a1)).trans ((W.o _ (by simpa using kk)).trans h.i),wc pl,(J.o _ (by simpa using Ne.symm a3)).trans ((W.o _ (by simpa using ko)).trans h.o),λq B=>?_,?_,(h.f.only W (λa ha=>.inr (by rw[zw.mp ha];exact Y)) λa ha=>?_).only J (λa ha=>.inl (by rw[zw.mp ha];simp[Zg])) λa ha=>.inl ha⟩
 ·rcases zR.mp B with B | B
  ·exact(J.o _ (by simpa using (a4 q B).2.1)).trans ((W.o _ (by simpa using U _ _ (h.p q B))).trans (h.p q B))
  ·rw [zw.mp B]
   exact(J.o _ (by simpa using Ne.symm kb)).trans (wc I)
 ·rw [e2, xu]
  refine⟨h.nd,by simp,λx hx y hy z=>?_⟩
  rw[zw.mp hy] at z;subst z;unfold Zg at hx
  rcases zg.mp hx with e |hx
  ·exact kk e.symm
  ·rcases zg.mp hx with e | hx
   ·exact kb e.symm
   ·rcases zg.mp hx with e | hx
    ·exact ko e.symm
    ·obtain⟨q,B,e⟩:=zG.mp hx;exact U _ _ (h.p q B) e
 ·rw [e2] at ha
  rcases zR.mp ha with ha |ha
  ·exact .inl ha
  ·exact .inr (by rw[zw.mp ha];exact Y)
def MAt.made(h:MAt n mo pa he m ps rk F)(m':Nat):MAt (vq n mo (.dis (mF pa he m'))) mo pa he m' ps rk F:=by
 obtain⟨a1,a2,a3,a4⟩:=h.apart;have o:=OnlyC.set (n:=n) (a:=mo) (zv1 (pa:=pa) (he:=he) (m:=m'))
 exact⟨wc zv1,(o.o _ (by simpa using Ne.symm a1)).trans h.b,(o.o _ (by simpa using Ne.symm a2)).trans h.o,λq B=>(o.o _ (by simpa using (a4 q B).1)).trans (h.p q B),h.nd,h.f.only o (λa ha=>.inl (by rw[zw.mp ha];simp[Zg])) λa ha=>.inl ha⟩
def MAt.rank(h:MAt n mo pa he m ps rk F){rk':List (Int × D)}(pl:plC (.dic rk')=true):MAt (vq n he (.dic rk')) mo pa he m ps rk' F:=by
 obtain⟨a1,a2,a3,a4⟩:=h.apart;have o:=OnlyC.set (n:=n) (a:=he) pl
 exact⟨(o.o _ (by simpa using a2)).trans h.i,(o.o _ (by simpa using a3)).trans h.b,wc pl,λq B=>(o.o _ (by simpa using (a4 q B).2.2)).trans (h.p q B),h.nd,h.f.only o (λa ha=>.inl (by rw[zw.mp ha];simp[Zg])) λa ha=>.inl ha⟩
def zt8{r:Nat}{gs:List (Int × D)}:Zn (Zt r gs ps)=Zn ps:=by
 unfold Zn Zt;rw[zQ];refine wI λp _=>?_
 show(((if p.r=r then { p with gs:=gs } else p).r:Int),mP (if p.r=r then { p with gs:=gs } else p))=_
 split<;>rfl
def VW{r:Nat}{gs:List (Int × D)}:Zg mo pa he (Zt r gs ps)=Zg mo pa he ps:=by
 unfold Zg Zt;rw[zQ]
 congr 3
 refine wI λp _=>?_
 show(if p.r=r then { p with gs:=gs } else p).g=_
 split<;>rfl
def MAt.gone(h:MAt n mo pa he m ps rk F)(hn:(ps.map (·.r)).Nodup){p:Pt}(I:p∈ps){gs:List (Int × D)}(pl:plC (.dic gs)=true):MAt (vq n p.g (.dic gs)) mo pa he m (Zt p.r gs ps) rk F:=by
 obtain⟨a1,a2,a3,a4⟩:=h.apart;have o:=OnlyC.set (n:=n) (a:=p.g) pl;obtain⟨b1,Y,W⟩:=a4 p I
 refine⟨(o.o _ (by simpa using Ne.symm b1)).trans h.i,by rw[zt8];exact(o.o _ (by simpa using Ne.symm Y)).trans h.b,(o.o _ (by simpa using Ne.symm W)).trans h.o,λq U=>?_,by rw[VW];exact h.nd,h.f.only o (λa ha=>.inl ?_) λa ha=>.inl (by rwa [VW] at ha)⟩
 ·obtain ⟨J, B, rfl⟩ := zG.mp U;have nd:((p::off p.r ps).map (·.g)).Nodup:=((yi I hn).map _).nodup_iff.mp (zV.mp (zV.mp (zV.mp h.nd).2).2).2;rw[zz] at nd
  split
  ·rename_i e;rw[YO hn I B e];exact wc pl
  ·rename_i e
   have m:J∈off p.r ps:=zP.mpr ⟨B,by simpa using e⟩
   have ne:J.g≠p.g:=λz=>(zV.mp nd).1 (z ▸ zt m)
   exact(o.o _ (by simpa using ne)).trans (h.p J B)
 ·rw[zw.mp ha];unfold Zg;exact zf _ (zf _ (zf _ (zt I)))
end
def core(p:Pt):Nat × List Thing × List (Int × D):=(p.r,p.ts,p.gs)
def UK{p q:Pt}(h:core p=core q):p.left=q.left:=by
 obtain⟨r,a,g,ts,gs⟩:=p;obtain⟨r',a',g',ts',gs'⟩:=q;cases h;rfl
def UJ{p q:Pt}(h:core p=core q):p.r=q.r:=congrArg Prod.fst h
def YE{ps B:List Pt}(h:ps.map core=B.map core){p:Pt}(I:p∈ps):∃q∈B,core q=core p:=by
 have:=zt (f:=core) I;rw[h] at this;exact zG.mp this
def zb6{ps B:List Pt}(h:ps.map core=B.map core):ps.map (·.r)=B.map (·.r):=by
 have:=congrArg (List.map Prod.fst) h
 rwa [zQ,zQ] at this
def Vs{ps B:List Pt}(h:ps.map core=B.map core)(r:Nat):(off r ps).map core=(off r B).map core:=by
 have e:∀ps:List Pt,(off r ps).map core=(ps.map core).filter λc=>decide (c.1≠r):=λps=>by
  unfold off;rw[filter_map];rfl
 rw[e,e,h]
def zp3{ps B:List Pt}(h:ps.map core=B.map core)(r:Nat)(gs:List (Int × D)):(Zt r gs ps).map core=(Zt r gs B).map core:=by
 have e:∀ps:List Pt,(Zt r gs ps).map core=(ps.map core).map λc=>if c.1=r then(c.1,c.2.1,gs) else c:=λps=>by
  unfold Zt;rw[zQ,zQ];refine wI λp _=>?_
  show core (if p.r=r then { p with gs:=gs } else p)=if p.r=r then _ else core p
  split<;>rfl
 rw[e,e,h]
def Ye{ps B:List Pt}(h:ps.map core=B.map core):names ps=names B:=by
 have e:∀ps:List Pt,names ps=(ps.map core).flatMap λc=>(c.2.1.filter (UZ c.2.2)).map (·.1):=λps=>by
  unfold names;rw[List.flatMap_map];rfl
 rw[e,e,h]
def XI{ps B:List Pt}(h:ps.map core=B.map core):yB ps=yB B:=by
 have e:=congrArg (List.map λc:Nat × List Thing × List (Int × D)=>2^c.1) h;rw[zQ,zQ] at e;exact congrArg List.sum e
def PutM.core{ps:List Pt}{s:Nat}{T:List Thing}{ps':List Pt}{L:List Thing}(h:PutM ps s T ps' L):(ps.map (·.r)).Nodup->∀{U qs':List Pt}{L2:List Thing},ps.map core=U.map core->PutM U s T qs' L2->ps'.map K53.core=qs'.map K53.core/\L=L2:=by
 induction h with
 | @stop ps s T a g B =>
  intro hn U qs' L2 I h2
  cases h2 with
  |stop _=>exact⟨by rw[xI,xI,I];rfl,rfl⟩
  |step W _=>
   obtain⟨q,J,e⟩:=YE I.symm W;exact absurd (UJ e) (B q J)
 | @step ps p T ps' L W _ ih =>
  intro hn U qs' L2 I h2;generalize hs:p.r=s at h2
  cases h2 with
  |stop B=>
   obtain⟨q,J,e⟩:=YE I W;exact absurd ((UJ e).trans hs) (B q J)
  |@step _ p2 _ _ _ Y h2=>
   obtain⟨q,J,e⟩:=YE I.symm Y;have e2:q=p:=YO hn W J ((UJ e).trans hs.symm);subst e2;rw[<- UK e,<- UJ e] at h2;exact ih (((xt ..).map _).nodup hn) (Vs I q.r) h2
def zk3{ps:List Pt}(hn:(ps.map (·.r)).Nodup)(al:(names ps).Nodup){p q:Pt}(I:p∈ps)(J:q∈ps){x:Int}(h1:x∈p.left.map (·.1))(h2:x∈q.left.map (·.1)):q=p:=by
 rcases zg.mp ((yi I hn).mem_iff.mp J) with e |e
 ·exact e
 ·have B:=(vD (yi I hn)).nodup_iff.mp al;rw[vO,xu] at B;exact absurd rfl (B.2.2 x h1 x (wd.mpr ⟨q,e,h2⟩))
def GoM.core{d:Nat}{ps:List Pt}{x:Int}{ps':List Pt}{L:List Thing}{rk:List (Int × D)}(h:GoM ps x ps' L)(B:Tran d ps [] rk){U qs':List Pt}{L2:List Thing}(hc:ps.map core=U.map core)(h2:GoM U x qs' L2):ps'.map K53.core=qs'.map K53.core/\L=L2:=by
 obtain⟨p,t,hp,Y,e1,h⟩:=h;obtain⟨W,t2,aa,I,e2,h2⟩:=h2;obtain⟨q,hq,J⟩:=YE hc.symm aa;have al:=B.al;rw[xx,xg] at al
 have e3:q=p:=zk3 B.rn al hp hq (x:=x) (by rw[<- e1];exact zt Y) (by rw[UK J,<- e2];exact zt I)
 subst e3;have er:q.r=W.r:=UJ J;have ab:q.ts=W.ts:=congrArg (λc=>c.2.1) J;have ac:q.gs=W.gs:=congrArg (λc=>c.2.2) J;rw[<- er,<- ab,<- ac] at h2;have hr:=zp3 hc q.r (vL x (D.bl true) q.gs);have nd:=B.rn
 have nr:((Zt q.r (vL x (D.bl true) q.gs) ps).map (·.r)).Nodup:=by
  have:=(qr (gs:=vL x (D.bl true) q.gs) hp B.rn).map (·.r);exact this.nodup_iff.mpr (((yi hp B.rn).map (·.r)).nodup_iff.mp B.rn)
 rcases h with ⟨g1,rfl,rfl⟩ |⟨g1,h⟩
 ·rcases h2 with ⟨g2, rfl, rfl⟩ | ⟨g2, _⟩
  ·exact⟨hr,rfl⟩
  ·lia
 ·rcases h2 with ⟨g2, _⟩ | ⟨g2, h2⟩
  ·lia
  ·have h2 : AnewM (Zt q.r (vL x (D.bl true) q.gs) U) { q with gs := vL x (D.bl true) q.gs } qs' L2 := h2
   rcases h with ⟨z1,rfl,rfl⟩ |⟨z1,h⟩
   ·rcases h2 with ⟨_, rfl, rfl⟩ | ⟨z2, _⟩
    ·exact⟨Vs hr _,rfl⟩
    ·exact absurd z1 z2
   ·rcases h2 with ⟨z2, _⟩ | ⟨_, h2⟩
    ·exact absurd z2 z1
    ·exact h.core (((xt ..).map _).nodup nr) (Vs hr _) h2
structure JLp(d:Nat)(mo pa he:Addr)(m n:Nat)(rk:List (Int × D))(F:Fm)(ps0:List Pt)(T0:List Thing)(s:Nat)(mm:Nat)(rho:Rho)(n':Nat):Prop where
 hk:kOf n'=kOf n
 he:∃(i:Nat) (T:List Thing) (ps:List Pt) (z3 z4 z5:Option D),mm=ps.length/\rho=[some (.rf mo),some (.int (i:Int)),some (nmL T),z3,z4,z5]/\MAt n' mo pa he m ps rk F/\Tran d ps T rk/\1<=T.length/\T.length<=2^i/\yB ps+2^i=yB ps0+2^s /\
  ∀ps' L,PutM ps i T ps' L->PutM ps0 s T0 ps' L
structure JLr(mo pa he:Addr)(m n f:Nat)(rk:List (Int × D))(F:Fm)(ps:List Pt)(T:List Thing)(i:Nat)(rho:Rho)(n':Nat):Prop where
 hk:kOf n'=kOf n
 hx:∃z3 z4 z5:Option D,rho=[some (.rf mo),some (.int (f:Int)),some (nmL T),z3,z4,z5]
 ha:MAt n' mo pa he m ps (qG f (T.take i) rk) F
section
variable {P:Program}{w:World}{K:W.Frag}{mg:QqM}{base:Heap}{CP CK:Addr}
abbrev jd:Stmt:=top 29
abbrev UW:List Str:=[]
def WO:FnScope UW [] (xr jd):=⟨rfl,rfl,rfl,x0,rfl,x0,x0⟩
def Kk:TF:=λds n Q=>∃F:Fm,ds=[]/\Fok F n []/\∀n' B pa he,MAt n' B pa he 0 [] [] F->kOf n'=kOf n->Q (.rf B) n'
def zx7(F:Fun K "_law_model" "_law_model" jd f fd):FnOk P w K mg base CX0 1 f fd [] (spD K 0 Kk):=by
 refine Fun.okD F WO (λad A0 outer s H E G Z _ hr=>(xi (wC (zw3 jm jm xo)))) ?_;rintro ds n Q hl ⟨F,rfl,hF,q⟩;simp[wR];intro B ab;have p0:plC (.dis [])=true:=rfl;have J:plC (.dic [])=true:=rfl;have o1:=OnlyC.set (n:=n) (a:=B) p0;have c1:=wc (n:=n) (a:=B) p0;generalize vq n B _=n1 at o1 c1 ⊢;intro pa U
 have W:pa≠B:=λe=>by rw[e,c1] at U;cases U
 have aa:zW n pa=none:=(o1.o pa (by simpa using W)).symm.trans U
 have o2:=(o1.mono (r:=[B,pa]) (by simp)).setTo (a:=pa) J (by simp)
 have c2:=(vb (n:=n1) (a:=pa) (b:=B) J (Ne.symm W)).trans c1;have b2:=wc (n:=n1) (a:=pa) J;generalize vq n1 pa _=Y at o2 c2 b2 ⊢;intro he I
 have hm:he≠B:=λe=>by rw[e,c2] at I;cases I
 have hp:he≠pa:=λe=>by rw[e,b2] at I;cases I
 have ac:zW n he=none:=(o2.o he (by simpa using ⟨hm,hp⟩)).symm.trans I
 have o3:=(o2.mono (r:=[B,pa,he]) (by simp)).setTo (a:=he) J (by simp)
 have c3:=(vb (n:=Y) (a:=he) (b:=B) J (Ne.symm hm)).trans c2;have b3:=(vb (n:=Y) (a:=he) (b:=pa) J (Ne.symm hp)).trans b2;have h3:=wc (n:=Y) (a:=he) J;generalize vq Y he _=n3 at o3 c3 b3 h3 ⊢;refine⟨c3,rfl,rfl,rfl,?_⟩;have pl:=zv1 (pa:=pa) (he:=he) (m:=0)
 have nm:∀a∈[B,pa,he],a∈[]\/zW n a=none:=λa ha=>by
  simp only[zg,xk,or_false] at ha
  rcases ha with rfl |rfl |rfl
  ·exact .inr ab
  ·exact .inr aa
  ·exact .inr ac
 refine q _ B pa he ⟨wc pl,(vb pl W).trans b3,(vb pl hm).trans h3,λq hq=>by simp at hq,?_,hF.only (o3.setTo (a:=B) pl (by simp)) nm λa ha=>nm a (by simpa [Zg] using ha)⟩ ((vh pl).trans o3.k)
 simpa [Zg] using ⟨⟨Ne.symm W,Ne.symm hm⟩,Ne.symm hp⟩
abbrev ZL:Stmt:=top 30
abbrev zc2:List Str:=["_law_model_here","_law_rank","_law_names","_law_elder","_law_gone_here","_law_name"]
def kj:FnScope zc2 q12 (xr ZL):=⟨rfl,rfl,rfl,x0,rfl,x0,x0⟩
def Vg:("_law_name" :: ["_law_model_here","_law_rank","_law_names","_law_elder","_law_gone_here","_law_name'"]:List Str).Nodup:=x0
def Jw:TF:=λds n Q=>∃(d:Nat) (B pa he:Addr) (m:Nat) (ps:List Pt) (rk:List (Int × D)) (F:Fm) (s:Nat) (T:List Thing),ds=[.rf B,.int (s:Int),nmL T]/\MAt n B pa he m ps rk F/\Tran d ps T rk/\1<=T.length/\T.length<=2^s/\yB ps+2^s<500/\rk.length<=m/\m<=100000 /\
 ∀n' ps' rk' L,MAt n' B pa he (m+L.length) ps' rk' F->kOf n'=kOf n->Tran d ps' [] rk'->rk'.length<=m+L.length->PutM ps s T ps' L->Q .non n'
def zM8(T:Blt mg)(F:Fun K "_law_put" "_law_put" ZL f fd):FnOk P w K mg base CX0 1 f fd q12 (spD K 3 Jw):=by
 refine Fun.okD F kj (λag A0 outer s H E G Z _ B=>(zO (YX PassesOwn.never (Kt (vC B) (zm 1) (kT (vC B) (zm 0) qf (λ_ _=>rfl)) (by with_unfolding_all rfl))
  (zO (YY (m:=6) (jl (kT (vC B) (zm 0) qf (λ_ _=>rfl)) (zm 1) ⟨rfl,rfl,rfl,rfl⟩) (Kv (k:=2) rfl rfl (yc (xQ (i:=3) kj.nd rfl (lo rfl) w6) (yc (xQ (i:=4) kj.nd rfl (lo rfl) w6) kO))))
  (zO (yZ (i:=2) kj.nd rfl (lo rfl) (Xe zD5 zC0 (vT (own:=["_law_name"]) (M:=["_law_model_here","_law_rank","_law_names","_law_elder","_law_gone_here","_law_name'"]) (vQ (by rfl)) rfl (vf rfl (zm 3)) (λ_ _ _ _=>(xQ (i:=0) Vg rfl (lo rfl) w6)) (λ_ _ _ _=>(Yy (qt (vC B) (zm 0) (zm 5) (by with_unfolding_all rfl)))) (λ_ _ _ _=>(zm 0))) (zm 2)))
  (xi (yZ (i:=1) kj.nd rfl (lo rfl) (jn (zm 1) xo))))))
  (zO (qJ (vC B) (kT (vC B) (zm 0) qf (λ_ _=>rfl)) (zm 1) (jH (zc (zm 2) (zc jm zB))))
  (zO (zu8 (vC B) (zm 0) qf (jn (kT (vC B) (zm 0) qf (λ_ _=>rfl)) (wj wu kf T.len kh (zc (zm 2) zB))))
  (xi (ZN (m:=6) PassesOwn.never rfl (vf rfl (zm 2)) (xQ (i:=5) kj.nd rfl (lo rfl) w6)
  (xi (qJ (vC B) (kT (vC B) (zm 0) qf (λ_ _=>rfl)) (zm 5) (zm 1))))))))) ?_
 rintro ds n Q hl ⟨d,mo,pa,he,m,aa,rk,F,s,T0,rfl,hk,Y,h1,hs,hz,af,hm,q⟩;simp[wR];refine⟨JLp d mo pa he m n rk F aa T0 s,⟨_,rfl,s,T0,aa,none,none,none,rfl,rfl,hk,Y,h1,hs,rfl,λ_ _ h=>h⟩,?_⟩;rintro mm rho J ⟨ac,i,T,ps,z3,z4,z5,rfl,rfl,hk,Y,h1,hi,hsz,hP⟩;simp;refine vS hk.i ?_;rw[qR];simp;refine xC hk.b ?_;obtain⟨a1,a2,a3,a4⟩:=hk.apart
 rcases Yv (ps:=ps) (i:=i) with ⟨p,hp,rfl,hg⟩ |⟨hg,W⟩
 ·rw [hg];simp;refine vS hk.i ?_;rw[qR];simp;refine xC hk.b (xC hk.b ?_);rw[hg];simp[mP];have kp:=hk.pop p.r;have pg:=hk.popG hp p.r;have k2:=(MAt.kOfPop (n:=J) (pa:=pa) (ps:=ps) p.r).trans ac;generalize vq J pa _=n2 at kp pg k2 ⊢;have l1:=(Y.gu p hp).2;have l2:p.left.length<=p.ts.length:=wf ..;have l4:(p.ts.filter (UZ p.gs)).length<=p.ts.length:=wf ..;have l3:=kB hp;unfold nmL;refine zF8 rfl ⟨_,.inl rfl,?_⟩
  refine qS (λt:Thing=>D.int t.1) (UZ p.gs) (λt=>D.int t.1) p.ts (wZ w5) (λt ae R S hR hS=>?_) ?_
  ·simp;refine xC pg ?_;unfold UZ at hR hS
   split
   ·rename_i e;rw[e] at hR;exact hR rfl
   ·rename_i e;exact hS (by cases q:vG t.1 p.gs with |none=>exact absurd q e |some x=>rfl)
  ·simp;have pm:=yi hp Y.rn;have e1:yB ps=2^p.r+yB (off p.r ps):=(vN pm).trans vm
   have e2:2^(p.r+1)=2*2^p.r:=by rw[wE];lia
   refine⟨wZ w5,(off p.r ps).length,by rw[pm.length_eq];simp,k2,p.r+1,p.left++T,off p.r ps,some (.lst (p.ts.map λt=>.int t.1)),some (.rf p.g),z5,rfl,by simp[nmL,Pt.left],kp,Y.pop hp,by rw[zD];lia,by rw[zD];lia,w5,λps' L h=>hP ps' L (.step hp h)⟩
 ·rw [hg];simp
  have lT:2^i<500:=w5
  intro g ad;have kp:=hk.put (s:=i) (T:=T) ad W;unfold nmL at kp;have I:plC (.dic [])=true:=rfl
  have ng:∀x c,zW J x=some c->x≠g:=λx c e z=>by rw[z,ad] at e;cases e
  have i2:=(vb (n:=J) (a:=g) (b:=mo) I (ng _ _ hk.i)).trans hk.i;have b2:=(vb (n:=J) (a:=g) (b:=pa) I (ng _ _ hk.b)).trans hk.b;have k2:=(vh (n:=J) (a:=g) I).trans ac;generalize vq J g _=n2 at kp i2 b2 k2 ⊢;refine vS i2 ?_;rw[qR];simp
  have lb:(Zn ps).length<=yB ps:=by unfold Zn;rw[zh];exact qo
  have ab:plD (.lst [.lst (T.map λt=>.int t.1),.rf g])=true:=zY5 ⟨i,g,g,T,[]⟩
  refine xC b2 ⟨ab,lt_size w5,?_⟩
  have k3:kOf (vq n2 pa (.dic (vL (i:Int) (.lst [.lst (T.map λt=>.int t.1),.rf g]) (Zn ps))))=kOf n:=(vh (ZO Xa ab)).trans k2;generalize vq n2 pa _=n3 at kp k3 ⊢;refine vS kp.i ?_;rw[zj8];simp[nmL]
  refine vS kp.i ⟨rfl,lt_size (by simp[mF]),?_⟩
  rw[show(m:Int)+(T.length:Int)=((m+T.length:Nat):Int) by simp,xc0]
  have km:=kp.made (m+T.length);have k4:=(vh (n:=n3) (a:=mo) (zv1 (pa:=pa) (he:=he) (m:=m+T.length))).trans k3;generalize vq n3 mo _=n4 at km k4 ⊢;refine⟨JLr mo pa he (m+T.length) n i rk F (ps++[⟨i,g,g,T,[]⟩]) T,⟨k4,⟨_,_,_,rfl⟩,km⟩,?_,?_⟩
  ·rintro j d rho n5 ej ⟨k5, ⟨z3, z4, z5, rfl⟩, U⟩
   have hj:j<T.length:=by have:=(zT.mp ej).1;rwa [zh] at this
   rw[zI] at ej;obtain⟨t,et,rfl⟩:=xY.mp ej;simp;refine vS U.i ?_;rw[zj9];simp;have lk:=ji (f:=i) (T:=T.take j) (rk:=rk);rw[xl] at lk
   have pl:plC (.dic (qG i (T.take (j+1)) rk))=true:=by
    rw[xp,et];unfold qG;rw[foldl_append];exact ZO (vp U.o) rfl
   have kr:=U.rank pl;have k6:=(vh (n:=n5) (a:=he) pl).trans k5
   have e:qG i (T.take (j+1)) rk=vL t.1 (.int (i:Int)) (qG i (T.take j) rk):=by
    rw[xp,et];unfold qG;rw[foldl_append];rfl
   refine xC U.o ⟨rfl,by rw[sizeLine_eq];lia,?_⟩
   rw[<- e];exact⟨k6,⟨_,_,_,rfl⟩,kr⟩
  ·rintro rho n5 ⟨k5, ⟨z3, z4, z5, rfl⟩, U⟩;rw[zh,wq] at U;have lk:=ji (f:=i) (T:=T) (rk:=rk)
   exact q n5 _ _ T U k5 (Y.put (p:=⟨i,g,g,T,[]⟩) W rfl rfl hi) w5 (hP _ _ (.stop W))
abbrev jR:Stmt:=top 31
abbrev Zk:List Str:=["_law_model_here","_law_name","_law_rank","_law_names","_law_gone_here","_law_some","_law_least","_law_power"]
def vA:FnScope Zk ["_law_model_here","_law_name"] (xr jR):=⟨rfl,rfl,rfl,x0,rfl,x0,x0⟩
def XW:("_law_one" :: Zk:List Str).Nodup:=x0
structure JLw(n3:Nat)(a0 a1 a2 a3 a4 a5:Option D)(c:Nat)(mm:Nat)(rho:Rho)(n':Nat):Prop where
 hn:n'=n3
 hx:∃a:Nat,mm=c-a/\(a=0\/2^(a-1)<c)/\rho=[a0,a1,a2,a3,a4,a5,some (.int (a:Int)),some (.int ((2^a:Nat):Int))]
def zu5{a c:Nat}(B:1<=c)(h1:a=0\/2^(a-1)<c)(h2:c<=2^a):YV c=a:=by
 have u:=JF B;have l:=Yx B
 have I:YV c<a+1:=(Nat.pow_lt_pow_iff_right (by decide:1<2)).mp (by rw[wE];lia)
 rcases h1 with h1 |h1
 ·lia
 ·have : a - 1 < YV c := (Nat.pow_lt_pow_iff_right (by decide : 1 < 2)).mp w5
  lia
def xb1(T:List Thing):okE (.lst (T.map λt=>.int t.1)) 20=true:=by
 have e:∀(T:List Thing) (k:Nat),Vy (T.map λt=>D.int t.1) k=true:=λT k=>by
  induction T with
  |nil=>unfold Vy;rfl
  |cons t T B=>rw[zz];unfold Vy;rw[B];rfl
 unfold okE;exact e T 19
def xf2(T:List Thing):eqD (.lst (T.map λt=>.int t.1)) (.lst [])=T.isEmpty:=by cases T<;>(unfold eqD;rfl)
def WJ:TF:=λds n Q=>∃(d:Nat) (B pa he:Addr) (m:Nat) (ps:List Pt) (rk:List (Int × D)) (F:Fm) (x:Int),ds=[.rf B,.int x]/\MAt n B pa he m ps rk F/\Tran d ps [] rk/\x∈names ps/\yB ps<500/\rk.length<=m/\m<=100000 /\
 ∀n' ps' rk' L,MAt n' B pa he (m+L.length) ps' rk' F->kOf n'=kOf n->Tran d ps' [] rk'->rk'.length<=m+L.length->GoM ps x ps' L->Q .non n'
def zx8(T:Blt mg)(F:Fun K "_law_gone" "_law_gone" jR f fd)(Y_put:Fn P w K mg base "_law_put" 1 3 Jw):FnOk P w K mg base CX0 2 f fd ["_law_model_here","_law_name"] (spD K 2 WJ):=by
 refine Fun.okD F vA (λag A0 outer s H E G Z _ hr=>(zO (yZ (i:=2) vA.nd rfl (lo rfl) (jl (kT (vC hr) (zm 0) qf (λ_ _=>rfl)) (zm 1) ⟨rfl,rfl,rfl,rfl⟩))
  (zO (YY (m:=8) (ZS (vC hr) (kT (vC hr) (zm 0) qf (λ_ _=>rfl)) (zm 2) (λ_ _=>rfl)) (Kv (k:=2) rfl rfl (yc (xQ (i:=3) vA.nd rfl (lo rfl) w6) (yc (xQ (i:=4) vA.nd rfl (lo rfl) w6) kO))))
  (zO (qJ (vC hr) (zm 4) (zm 1) Uf)
  (xi (ke (kR zw6 zt9 (qu xo (Kx T.len (zc (zm 4) zB))) (wj wu kf T.len kh (zc (zm 3) zB)) (kN _)) (zO (vJ (jl (kT (vC hr) (zm 0) qf (λ_ _=>rfl)) (zm 2) ⟨rfl,rfl,rfl,rfl⟩))
  (zO (qI (i:=5) vA.nd rfl (lo rfl) (own:=["_law_one"]) (M:=Zk) (vQ (by rfl)) rfl (vf rfl (zm 3)) (λ_ _ _ _=>(xQ (i:=0) XW rfl (lo rfl) w6)) (λ_ _ _ _=>(Yy (qt (vC hr) (zm 0) (zm 5) (by with_unfolding_all rfl)))) (λ_ _ _ _=>(zm 0)))
  (zO (YY (m:=8) (jk (zc xo (zc xo zB))) (ZP (k:=2) rfl rfl (yc (xQ (i:=6) vA.nd rfl (lo rfl) w6) (yc (xQ (i:=7) vA.nd rfl (lo rfl) w6) kO))))
  (zO (YX PassesOwn.never (kR zM1 zH8 (zm 7) (wj wu kf T.len kh (zc (zm 5) zB)) (kN _))
  (xi (JL (i:=6) (j:=7) rfl vA.nd rfl rfl w6 rfl rfl (zc (jn (zm 6) xo) (zc (qu xo (zm 7)) zB)))))
  (xi (ke (kR (xa7 hr) (zV4 rfl) (zm 5) (jH zB) (kN _)) (xi (vJ (vg Y_put (hr.mono w6) rfl (zc (zm 0) (zc (zm 6) (zc (zm 5) zB)))))) vn)))))) vn)))))) ?_
 rintro ds n Q hl ⟨d,mo,pa,he,m,ps,rk,F,x,rfl,hk,ht,hx,hz,ac,hm,q⟩;obtain⟨p,I,t,B,rfl⟩:=Us hx;have e:=ht.rk p I t B;simp[wR];refine vS hk.i ?_;rw[zj9];simp;refine xC hk.o (xC hk.o ?_);rw[e];simp;have pl:=Va (k:=t.1) (vp hk.o);have kr:=hk.rank pl;have k1:=vh (n:=n) (a:=he) pl;generalize vq n he _=n1 at kr k1 ⊢;refine vS kr.i ?_;rw[qR];simp;refine xC kr.b ?_;rw[Ke ht.rn I];simp[mP,nmL];obtain⟨tg1,tg2,af,ae⟩:=ht.go I B;have pr:=qr (gs:=vL t.1 (D.bl true) p.gs) I ht.rn;obtain⟨g1,g2,g3⟩:=XC B;have gl:=ht.gl p I;have l1:=(ht.gu p I).2;have l3:=kB I;have ab:=ZO (k:=t.1) (d:=.bl true) (vp (kr.p p I)) rfl;have Y:=kr.gone ht.rn I ab;have k2:=(vh (n:=n1) (a:=p.g) ab).trans k1
 refine xC (kr.p p I) ⟨rfl,wZ w5,?_⟩
 have J:({ p with gs:=vL t.1 (D.bl true) p.gs }:Pt)∈Zt p.r (vL t.1 (D.bl true) p.gs) ps:=pr.mem_iff.mpr zq;generalize vq n1 p.g _=n2 at Y k2 ⊢
 have g4:(vL t.1 (D.bl true) p.gs).length=p.gs.length+1:=by rw[g2,zD];rfl
 have eg':zW n2 p.g=some (.dic (vL t.1 (D.bl true) p.gs)):=Y.p _ J
 refine xC eg' ⟨.inl ⟨w6,w6⟩,?_⟩
 have aa:(vU t.1 rk).length<=m:=zF Qp ac
 split
 ·rename_i h0
  have h1:p.ts.length<2*(p.gs.length+1):=w5
  have ad:=KR ht I B h1;refine vS Y.i ?_;rw[qR];simp;refine xC Y.b (xC Y.b ?_);rw[Ke tg1.rn J];simp;have kp:=Y.pop p.r;have pg:=Y.popG J p.r;have k3:=(MAt.kOfPop (n:=n2) (pa:=pa) (ps:=Zt p.r (vL t.1 (D.bl true) p.gs) ps) p.r).trans k2;have tp:=tg1.pop J;rw[wb] at tp;generalize vq n2 pa _=n3 at kp pg k3 ⊢;have l5:(p.ts.filter (UZ (vL t.1 (D.bl true) p.gs))).length<=p.ts.length:=wf ..
  refine qS (λt:Thing=>D.int t.1) (UZ (vL t.1 (D.bl true) p.gs)) (λt=>D.int t.1) p.ts (wZ w5) (λu hu R S hR hS=>?_) ?_
  ·simp;refine xC pg ?_;unfold UZ at hR hS
   split
   ·rename_i e;rw[e] at hR;exact hR rfl
   ·rename_i e;exact hS (by cases q:vG u.1 (vL t.1 (D.bl true) p.gs) with |none=>exact absurd q e |some x=>rfl)
  ·generalize hU : p.ts.filter (UZ (vL t.1 (D.bl true) p.gs)) = U at l5;have eU:({ p with gs:=vL t.1 (D.bl true) p.gs }:Pt).left=U:=hU;rw[eU] at tp ad;refine⟨JLw n3 _ _ _ _ _ _ U.length,⟨_,rfl,0,rfl,.inl rfl,rfl⟩,?_⟩;rintro mm rho n4 ⟨rfl,a,rfl,ha,rfl⟩;have cm:∀ {i j:Int},(-(2^64)<i/\i<2^64)->CMul i j:=λh=>.inl h
   have ep:((2^a:Nat):Int)=2^a:=by simp
   simp
   split
   ·rename_i h9
    have h9':2^a<U.length:=w5
    have:=Nat.lt_two_pow_self (n:=a)
    refine⟨cm ⟨w6,w6⟩,U.length-(a+1),w5,rfl,a+1,rfl,.inr h9',?_⟩
    rw[show(2:Int)*2^a=((2^(a+1):Nat):Int) by rw[wE 2 a];lia]
    rfl
   ·rename_i h9
    have h9':U.length<=2^a:=w5
    refine⟨xb1 U,by unfold okE Vy;rfl,?_⟩
    rw[xf2]
    cases W:U with
    |nil=>
     subst W;exact q n4 _ _ [] kp k3 tp aa ⟨p,t,I,B,rfl,.inr ⟨h1,.inl ⟨eU,rfl,rfl⟩⟩⟩
    |cons u0 U0=>
     rw[<- W]
     have hc:1<=U.length:=by rw[W];simp
     have er:=zu5 hc ha h9';have pm:=yi J tg1.rn;have e1:=(vN pm).trans vm;have r2:=Yx hc;have e3:({ p with gs:=vL t.1 (D.bl true) p.gs }:Pt).r=p.r:=rfl;rw[e3] at e1
     rw[if_neg (by rw[W];exact zK)]
     refine⟨d,mo,pa,he,m,_,_,F,a,U,rfl,kp,tp,hc,h9',?_,aa,hm,λn' ps' rk' L f1 f2 f3 f4 f5=>q n' ps' rk' L f1 (f2.trans k3) f3 f4 ⟨p,t,I,B,rfl,.inr ⟨h1,.inr ⟨λz=>?_,?_⟩⟩⟩⟩
     ·rw[<- er];lia
     ·rw[eU,W] at z;cases z
     ·rw[eU,er];exact f5
 ·rename_i h0
  exact q n2 _ _ [] Y k2 tg1 aa ⟨p,t,I,B,rfl,.inl ⟨w5,rfl,rfl⟩⟩
end
mutual
def okB:D->Nat->Bool
 |.bl _,_=>true
 |.int _,_=>true
 |.tup ds,k=>match k with
  |0=>false
  |k+1=>decide (ds.length<=1000)&&xb2 ds k
 |_,_=>false
def xb2:List D->Nat->Bool
 |[],_=>true
 |d::ds,k=>okB d k&&xb2 ds k
end
theorem JU:∀{ds:List D}{k:Nat},xb2 ds k=true↔∀d∈ds,okB d k=true
 |[],k=>by simp[xb2]
 |d::ds,k=>by simp[xb2,JU (ds:=ds)]
def qM{ds:List D}{k:Nat}:okB (.tup ds) (k+1)=true↔ds.length<=1000/\∀d∈ds,okB d k=true:=by
 simp[okB,JU]
theorem zipD_self:∀ds:List D,Jr ds ds=ds.map λx=>.tup [x,x]
 |[]=>rfl
 |d::ds=>by
  have:=zipD_self ds;unfold Jr at this ⊢
  simpa using this
structure JLq(n:Nat)(mo:Addr)(rs:List Pt)(i:Nat)(rho:Rho)(n':Nat):Prop where
 hn:n'=n
 hx:∃z2 z3 z4:Option D,rho=[some (.rf mo),some (.own ((rs.take i).map ZD)),z2,z3,z4]
section
variable {P:Program}{w:World}{K:W.Frag}{mg:QqM}{base:Heap}{CP CK:Addr}
abbrev jc:Stmt:=top 32
abbrev jw:List Str:=["_law_model_here","_law_found","_law_rank","_law_names","_law_gone_here"]
def vY:FnScope jw ["_law_model_here"] (xr jc):=⟨rfl,rfl,rfl,x0,rfl,x0,x0⟩
def Xm:("_law_name" :: jw:List Str).Nodup:=x0
def WI:TF:=λds n Q=>∃(I pa he:Addr) (m:Nat) (ps:List Pt) (rk:List (Int × D)) (F:Fm),ds=[.rf I]/\MAt n I pa he m ps rk F/\(ps.map (·.r)).Nodup/\(∀p∈ps,p.ts.length<=1000)/\ps.length<64/\∀B:List Pt,B.Perm ps->B.Pairwise (λp q=>q.r<=p.r)->Q (.tup (B.map ZD)) n
def zi7(T:Blt mg)(F:Fun K "_law_parts" "_law_parts" jc f fd):FnOk P w K mg base CX0 1 f fd ["_law_model_here"] (spD K 1 WI):=by
 refine Fun.okD F vY (λaa A0 outer s H E G Z _ B=>(zO (zJ7 (i:=1) vY.nd rfl (lo rfl) zB)
  (zO (ZN (m:=5) PassesOwn.never rfl (vf rfl (zi1 rfl T.sorted (zc (kT (vC B) (zm 0) qf (λ_ _=>rfl)) zB))) (xQ (i:=2) vY.nd rfl (lo rfl) w6)
  (zO (YY (m:=5) (ZS (vC B) (kT (vC B) (zm 0) qf (λ_ _=>rfl)) (zm 2) (λ_ _=>rfl)) (Kv (k:=2) rfl rfl (yc (xQ (i:=3) vY.nd rfl (lo rfl) w6) (yc (xQ (i:=4) vY.nd rfl (lo rfl) w6) kO))))
  (xi (QN (i:=1) (zc (jk (zc (zm 2) (zc (yD wJ vK T.tuple vw (zc (zm 3) zB)) (zc (yD wJ vK T.tuple vw (zc (vT (own:=["_law_name"]) (M:=jw) (vQ (by rfl)) rfl (vf rfl (zm 3)) (λC U H2 fp=>(xQ (i:=0) Xm rfl (lo rfl) w6)) (λC U H2 fp=>vc) (λC U H2 fp=>(zC9 (vC B) (zm 0) (zm 5) (by with_unfolding_all rfl)))) zB)) zB)))) zB) rfl))))
  (xi (zJ8 1 (wC (yD wJ vK T.tuple vw (zc (zm 1) zB)))))))) ?_
 rintro ds n Q hl ⟨mo,pa,he,m,ps,rk,F,rfl,hk,hn,J,hz,q⟩;simp[wR];refine vS hk.i ?_;rw[qR];simp
 refine xC hk.b ⟨by unfold Zn;rw[zh];exact hz,λms Y W=>?_⟩
 have e0:(Zn ps).map (·.1)=ps.map λp=>(p.r:Int):=by unfold Zn;rw[zQ];rfl
 rw[e0] at Y;obtain⟨I,B,rfl⟩:=jD Y;rw[xy] at W;have lr:=B.length_eq;simp;refine⟨JLq n mo I,⟨rfl,_,_,_,rfl⟩,?_,?_⟩
 ·rintro i d rho n1 e ⟨rfl, z2, z3, z4, rfl⟩;rw[zI] at e;obtain⟨p,ep,rfl⟩:=xY.mp e;have hi:i<I.length:=(zT.mp ep).1;have hm:p∈ps:=B.mem_iff.mp (wl ep);have hl:=J p hm;simp;refine vS hk.i ?_;rw[qR];simp;refine xC hk.b ?_;rw[Ke hn hm];simp[mP,nmL]
  refine⟨lt_size w5,?_⟩
  refine yK (λt:Thing=>D.int t.1) (λt=>.bl (vG t.1 p.gs).isSome) p.ts (wZ hl) (λt ht R hR=>?_) ?_
  ·simp;refine xC (hk.p p hm) ?_
   simpa using hR
  ·have e9 : (I.take (i + 1)).map ZD = (I.map ZD).take i ++ [ZD p] := by rw [xp, ep, xI, yP]; rfl
   exact kD.mpr ⟨rfl,_,_,_,by rw[e9];rfl⟩
 ·rintro rho n1 ⟨rfl, z2, z3, z4, rfl⟩;rw[zh,wq];simp
  exact q I B (W.imp λh=>by lia)
abbrev je:Stmt:=top 34
abbrev jx:List Str:=["_law_found","_law_due"]
def WP:FnScope jx q4 (xr je):=⟨rfl,rfl,rfl,x0,rfl,x0,x0⟩
def jo:("_law_one" :: "_law_other" :: jx:List Str).Nodup:=x0
def WL:Nat->TF
 |0=>λ_ _ _=>False
 |j+1=>λds n Q=>∃d,ds=[d,d]/\okB d j=true/\Q (.bl true) n
def zy0(T:Blt mg)(F:Fun K "_law_alike" "_law_alike" je f fd)(hm:mg "_law_alike" = some (.ref f))(hk:W.keepIn K (.ref f)=true)(hb:Binds K fd ["_law_found","_law_due"] []):∀j:Nat,FnOk P w K mg base CX0 j f fd q4 (spD K 2 (WL j)):=by
 intro j
 induction j with
 |zero=>exact FnOk.bot λds n Q h=>h
 | succ j ih =>
  have Y_alike:Fn P w K mg base "_law_alike" j 2 (WL j):=⟨f,fd,_,ih,hm,hk,hb⟩
  refine Fun.okD F WP (λaa A0 outer s H E G Z _ I=>(zO (ke (jj (wj ZC UI T.isi UQ (zc (zm 1) (zc (zi0 (hm:=T.tuple) (hv:=vw)) zB)))) (zO (ke (PWD.pt (zC5 (ZM (jj (wj ZC UI T.isi UQ (zc (zm 0) (zc (zi0 (hm:=T.tuple) (hv:=vw)) zB))))) (zg1 (kR xy4 xp2 (wj wu kf T.len kh (zc (zm 0) zB)) (wj wu kf T.len kh (zc (zm 1) zB)) (kN _))))) (xi (wC Uf)) vn)
  (xi (wC (wj (zA9 rfl) xh1 T.all xh2 (zc (vT (own:=["_law_one","_law_other"]) (M:=jx) (vQ (by rfl)) rfl (zK7 rfl T.zip (zc (zm 0) (zc (zm 1) zB))) (λC U H2 Y=>(ZP (k:=2) rfl rfl (yc (xQ (i:=0) jo rfl (lo rfl) w6) (yc (xQ (i:=1) jo rfl (lo rfl) w6) kO)))) (λC U H2 Y=>vc) (λC U H2 Y=>(vg Y_alike I rfl (zc (zm 0) (zc (zm 1) zB))))) zB))))) vn)
  (xi (wC (zD2 (Ue (zD4 I) (zB9 rfl) (wj ZC UI T.isi UQ (zc (zm 0) (zc (zi0 (hm:=T.bool) (hv:=zq5)) zB))) (wj ZC UI T.isi UQ (zc (zm 1) (zc (zi0 (hm:=T.bool) (hv:=zq5)) zB))) (kN _)) (zD2 (wj ZC UI T.isi UQ (zc (zm 0) (zc (zi0 (hm:=T.int) (hv:=QB)) zB))) (zZ9 (Ue (zD4 I) (zB9 rfl) (zm 0) (zm 1) (kN _))))))))) ?_
  rintro ds n Q hl ⟨d,rfl,hd,q⟩
  cases d with
  |bl b=>simp[wR,zl8,qY,okE,eqD];exact q
  |int b=>simp[wR,zl8,qY,okE,eqD];exact q
  | tup ds =>
   cases j with
   |zero=>simp[okB] at hd
   | succ j =>
    obtain⟨h1,h2⟩:=qM.mp hd;simp[wR,zl8,qY];rw[zipD_self];refine yK (λx=>.tup [x,x]) (λ_=>.bl true) ds (wZ h1) (λx hx R hR=>?_) ?_
    ·have B := h2 x hx
     have J:vd x=true:=by cases x<;>first |rfl |(simp[okB] at B;done)
     simp[J];exact⟨x,rfl,B,hR⟩
    ·refine ⟨ds.map λ_ => true, by rw [zQ]; rfl, ?_⟩
     have e:(ds.map λ_=>true).all id=true:=by simp
     rw[e];exact q
  |_=>simp[okB] at hd
end
def Vf{ps:List Pt}{p:Pt}(B:p∈ps)(hn:(ps.map (·.r)).Nodup):(ps.flatMap Pt.left).Perm (p.left++(off p.r ps).flatMap Pt.left):=by
 have h:=List.Perm.flatMap_right Pt.left (yi B hn)
 rwa [wF] at h
def PutM.left{ps:List Pt}{s:Nat}{T:List Thing}{ps':List Pt}{L:List Thing}(h:PutM ps s T ps' L):(ps.map (·.r)).Nodup->(ps'.flatMap Pt.left).Perm (T++ps.flatMap Pt.left):=by
 induction h with
 |@stop ps s T a g _=>
  intro _;rw[flatMap_append,wF,List.flatMap_nil,wb,YA rfl];exact yf
 |@step ps p T ps' L I _ B=>
  intro hn;have h1:=B (((xt ..).map _).nodup hn);refine h1.trans (((yf (l₁:=p.left)).append_right _).trans ?_);rw[wG];exact(Vf I hn).symm.append_left T
def AnewM.left{ps:List Pt}{p:Pt}{ps':List Pt}{L:List Thing}(h:AnewM ps p ps' L)(I:p∈ps)(hn:(ps.map (·.r)).Nodup):(ps'.flatMap Pt.left).Perm (ps.flatMap Pt.left):=by
 have B:=Vf I hn
 rcases h with ⟨e,rfl,_⟩ |⟨_,h⟩
 ·rw[e,xg] at B;exact B.symm
 ·exact(h.left (((xt ..).map _).nodup hn)).trans B.symm
def GoM.left{d:Nat}{ps:List Pt}{x:Int}{ps':List Pt}{L:List Thing}{rk:List (Int × D)}(h:GoM ps x ps' L)(I:Tran d ps [] rk):(ps'.flatMap Pt.left).Perm ((ps.flatMap Pt.left).filter λu=>decide (u.1≠x)):=by
 obtain⟨p,t,U,B,rfl,h⟩:=h;obtain⟨g1,g2,g3⟩:=XC B;have pr:=qr (gs:=vL t.1 (D.bl true) p.gs) U I.rn;have al:=I.al;rw[xx,xg] at al;have J:=(vD (yi U I.rn)).nodup_iff.mp al;rw[vO,xu] at J
 have hR:((off p.r ps).flatMap Pt.left).filter (λu=>decide (u.1≠t.1))=(off p.r ps).flatMap Pt.left:=List.filter_eq_self.mpr λu W=>by
  simp only[yR];obtain⟨q,hq,W⟩:=wd.mp W;exact λe=>J.2.2 t.1 (zt B) u.1 (wd.mpr ⟨q,hq,zt W⟩) e.symm
 have key:((Zt p.r (vL t.1 (D.bl true) p.gs) ps).flatMap Pt.left).Perm ((ps.flatMap Pt.left).filter λu=>decide (u.1≠t.1)):=by
  have h1:=List.Perm.flatMap_right Pt.left pr;rw[wF,g3] at h1;have h2:=(Vf U I.rn).filter λu=>decide (u.1≠t.1);rw[List.filter_append,hR] at h2;exact h1.trans h2.symm
 rcases h with ⟨_,rfl,_⟩ |⟨h0,h⟩
 ·exact key
 ·have Y:({ p with gs:=vL t.1 (D.bl true) p.gs }:Pt)∈Zt p.r (vL t.1 (D.bl true) p.gs) ps:=pr.mem_iff.mpr zq;exact(h.left Y (I.go U B).1.rn).trans key
def Xr{d:Nat}{ps:List Pt}(h:∀p∈ps,GoodU d p.ts/\p.ts.length<=2^p.r):(ps.flatMap Pt.left).length<=yB ps:=by
 induction ps with
 |nil=>simp
 |cons p ps B=>
  have h1:=(h p zq).2;have h2:=B λq I=>h q (zf _ I);have h3:p.left.length<=p.ts.length:=wf ..;rw[wF,zD,vm];lia
def tsD(ts:List Thing):List (Int × D):=ts.map λt=>(t.1,xh t)
def YZ{ts:List Thing}:plC (.dic (tsD ts))=true:=yh.mpr λx hd=>by
 unfold tsD at hd;rw[zQ] at hd;obtain⟨p,_,rfl⟩:=zG.mp hd;exact Za p
theorem VB:∀{ts:List Thing}{t:Thing},(ts.map (·.1)).Nodup->t∈ts->vG t.1 (tsD ts)=some (xh t)
 | u :: ts, t, hn, h => by
  rw[zz] at hn;have hn':=zV.mp hn
  show(if u.1=t.1 then some (xh u) else vG t.1 (tsD ts))=_
  rcases zg.mp h with rfl |h
  ·exact if_pos rfl
  ·rw [if_neg λe : u.1 = t.1 => hn'.1 (by rw [e]; exact zt h)]
   exact VB hn'.2 h
theorem WC:∀{ts:List Thing}{x:Int},x ∉ ts.map (·.1)->vG x (tsD ts)=none
 |[],x,_=>rfl
 |u::ts,x,h=>by
  show(if u.1=x then some (xh u) else vG x (tsD ts))=none
  rw[if_neg λe=>h (by simp[e])]
  exact WC λz=>h (zf _ z)
def zG1{ts:List Thing}{t:Thing}(h:t.1 ∉ ts.map (·.1)):vL t.1 (xh t) (tsD ts)=tsD (ts++[t]):=by
 unfold vL;rw[WC h];show tsD ts++[_]=_;unfold tsD;rw[xI];rfl
def Jt{ts:List Thing}{x:Int}:vU x (tsD ts)=tsD (ts.filter λu=>decide (u.1≠x)):=by
 unfold vU tsD;rw[filter_map];rfl
def WD(ts:List Thing):(tsD ts).map (·.1)=ts.map (·.1):=by unfold tsD;rw[zQ];rfl
structure Wd(CP CK:Addr)(d n:Nat)(k br ro mo pa he th:Addr)(m:Nat)(ps qs:List Pt)(rk rk2:List (Int × D))(ts:List Thing):Prop where
 K:∃F,KAt CP CK d n k br ro m ps rk F
 M:∃F,MAt n mo pa he m qs rk2 F
 t:zW n th=some (.dic (tsD ts))
 ap:∀b∈Zg mo pa he qs,b ∉ jF k br ro ps
 tk:th ∉ jF k br ro ps
 tm:th ∉ Zg mo pa he qs
 cr:ps.map core=qs.map core
 tr:Tran d ps [] rk
 tr2:Tran d qs [] rk2
 l1:rk.length<=m
 l2:rk2.length<=m
section
variable {CP CK:Addr}{d n n1 n2:Nat}{k br ro mo pa he th:Addr}{m m1:Nat}{ps qs ps1 qs1:List Pt}{rk rk2 rk1 rk3:List (Int × D)}{ts:List Thing}{F:Fm}
def KAt.ne(h:KAt CP CK d n k br ro m ps rk F):∀b∈jF k br ro ps,zW n b≠none:=λb B=>by
 unfold jF at B
 rcases zg.mp B with rfl |B
 ·rw[h.i];simp
 ·rcases zg.mp B with rfl | B
  ·rw[h.b];simp
  ·rcases zg.mp B with rfl | B
   ·rw[h.o];simp
   ·obtain ⟨q, I, B⟩ := wd.mp B;obtain⟨⟨x,y,e⟩,J⟩:=h.p q I;simp only[zg,xk,or_false] at B
    rcases B with rfl |rfl
    ·rw[e];simp
    ·rw[J];simp
def MAt.ne(h:MAt n mo pa he m ps rk F):∀b∈Zg mo pa he ps,zW n b≠none:=λb B=>by
 unfold Zg at B
 rcases zg.mp B with rfl |B
 ·rw[h.i];simp
 ·rcases zg.mp B with rfl | B
  ·rw[h.b];simp
  ·rcases zg.mp B with rfl | B
   ·rw[h.o];simp
   ·obtain⟨q,I,rfl⟩:=zG.mp B;rw[h.p q I];simp
def F1(n:Nat)(mo pa he th:Addr)(qs:List Pt):Fm:=⟨n,λb=>b=th\/b∈Zg mo pa he qs⟩
def F2(n:Nat)(k br ro th:Addr)(ps:List Pt):Fm:=⟨n,λb=>b=th\/b∈jF k br ro ps⟩
def F0:Fm:=⟨0,λ_=>False⟩
def f0{l:List Addr}:Fok F0 n l:=λb h=>h.elim
def Wd.k1(W:Wd CP CK d n k br ro mo pa he th m ps qs rk rk2 ts):KAt CP CK d n k br ro m ps rk (F1 n mo pa he th qs):=by
 obtain⟨F,h⟩:=W.K;obtain⟨F',h'⟩:=W.M;refine h.keep (λ_ _=>rfl) λb B=>⟨rfl,?_,?_⟩
 ·rcases B with rfl | B
  ·show zW n b≠none;rw[W.t];simp
  ·exact h'.ne b B
 ·rcases B with rfl | B
  ·exact W.tk
  ·exact W.ap b B
def Wd.mid(W:Wd CP CK d n k br ro mo pa he th m ps qs rk rk2 ts)(I:KAt CP CK d n1 k br ro m1 ps1 rk1 (F1 n mo pa he th qs)):MAt n1 mo pa he m qs rk2 (F2 n1 k br ro th ps1):=by
 obtain⟨F',h'⟩:=W.M;refine h'.keep (λb B=>(I.f b (.inr B)).1) λb B=>⟨rfl,?_,λhm=>?_⟩
 ·rcases B with rfl | B
  ·show zW n1 b≠none;rw[(I.f b (.inl rfl)).1];exact(I.f b (.inl rfl)).2.1
  ·exact I.ne b B
 ·rcases B with rfl | B
  ·exact W.tm hm
  ·exact(I.f b (.inr hm)).2.2 B
def Wd.fin(W:Wd CP CK d n k br ro mo pa he th m ps qs rk rk2 ts)(J:KAt CP CK d n1 k br ro m1 ps1 rk1 (F1 n mo pa he th qs))(B:MAt n2 mo pa he m1 qs1 rk3 (F2 n1 k br ro th ps1))
  (cr:ps1.map core=qs1.map core) (tr:Tran d ps1 [] rk1) (tr2:Tran d qs1 [] rk3) (l1:rk1.length<=m1) (l2:rk3.length<=m1):Wd CP CK d n2 k br ro mo pa he th m1 ps1 qs1 rk1 rk3 ts:=by
 have Y:=J.f th (.inl rfl);have U:=B.f th (.inl rfl);exact⟨⟨F0,J.keep (λb I=>(B.f b (.inr I)).1) f0⟩,⟨_,B⟩,U.1.trans (Y.1.trans W.t),λb I z=>(B.f b (.inr z)).2.2 I,Y.2.2,U.2.2,cr,tr,tr2,l1,l2⟩
def Wd.other(W:Wd CP CK d n k br ro mo pa he th m ps qs rk rk2 ts){l:List Addr}(o:OnlyC n n1 l)(I:∀a∈l,zW n a=none):Wd CP CK d n1 k br ro mo pa he th m ps qs rk rk2 ts:=by
 obtain⟨F,h⟩:=W.K;obtain⟨F',h'⟩:=W.M;have st:∀b,zW n b≠none->zW n1 b=zW n b:=λb B=>o.o b λz=>B (I b z)
 exact⟨⟨F0,h.keep (λb B=>st b (h.ne b B)) f0⟩,⟨F0,h'.keep (λb B=>st b (h'.ne b B)) f0⟩,(st th (by rw[W.t];simp)).trans W.t,W.ap,W.tk,W.tm,W.cr,W.tr,W.tr2,W.l1,W.l2⟩
def Wd.thing(W:Wd CP CK d n k br ro mo pa he th m ps qs rk rk2 ts)(ts':List Thing):Wd CP CK d (vq n th (.dic (tsD ts'))) k br ro mo pa he th m ps qs rk rk2 ts':=by
 obtain⟨F,h⟩:=W.K;obtain⟨F',h'⟩:=W.M;exact⟨⟨F0,h.keep (λb B=>vb YZ λe=>W.tk (e ▸ B)) f0⟩,⟨F0,h'.keep (λb B=>vb YZ λe=>W.tm (e ▸ B)) f0⟩,wc YZ,W.ap,W.tk,W.tm,W.cr,W.tr,W.tr2,W.l1,W.l2⟩
end
def zs1{ps J us vs:List Pt}(W:ps.map core=J.map core)(hn:(ps.map (·.r)).Nodup)(U:us.Perm ps)(I:us.Pairwise λp q=>q.r<=p.r)(hv:vs.Perm J)(B:vs.Pairwise λp q=>q.r<=p.r):us.map ZD=vs.map ZD:=by
 have e:us.map core=vs.map core:=by
  have Y:(us.map core).Perm (vs.map core):=(U.map core).trans (by rw[W];exact(hv.map core).symm)
  have st:∀{ws:List Pt},(ws.map (·.r)).Nodup->ws.Pairwise (λp q=>q.r<=p.r)->(ws.map core).Pairwise λa b=>b.1<a.1:=λ{ws} h1 h2=>by
   rw[xy];rw[List.Nodup,xy] at h1
   exact(h1.and h2).imp λh=>by
    show _<_;have:=h.1;have:=h.2;unfold core;lia
  exact qD (lt:=λa b:Nat × List Thing × List (Int × D)=>b.1<a.1) (λa h=>by lia) (λa b c h1 h2=>by lia) Y (st ((U.map _).nodup_iff.mpr hn) I) (st ((hv.map _).nodup_iff.mpr (by rw[<- zb6 W];exact hn)) B)
 have f:∀ws:List Pt,ws.map ZD=(ws.map core).map λc=>ZD ⟨c.1,0,0,c.2.1,c.2.2⟩:=λws=>by rw[zQ];rfl
 rw[f,f,e]
def zj1{t:Thing}{d j:Nat}(h:t.2.1.length=d)(hd:d<=4):okB (xh t) (j+2)=true:=by
 refine qM.mpr ⟨by simp,λe he=>?_⟩
 simp only[zg,xk,or_false] at he
 rcases he with rfl |rfl |rfl
 ·rfl
 ·refine qM.mpr ⟨by rw [zh]; lia, λe he => ?_⟩
  obtain⟨x,_,rfl⟩:=zG.mp he;rfl
 ·rfl
def zy1{p:Pt}{j:Nat}(h:p.ts.length<=1000):okB (ZD p) (j+2)=true:=by
 refine qM.mpr ⟨by simp,λe he=>?_⟩
 simp only[zg,xk,or_false] at he
 rcases he with rfl |rfl |rfl
 ·rfl
 ·refine qM.mpr ⟨by rw [zh]; lia, λe he => ?_⟩
  obtain⟨x,_,rfl⟩:=zG.mp he;rfl
 ·refine qM.mpr ⟨by rw [zh]; lia, λe he => ?_⟩
  obtain⟨x,_,rfl⟩:=zG.mp he;rfl
def VL{d:Nat}{ps:List Pt}{rk:List (Int × D)}(h:Tran d ps [] rk){p:Pt}(B:p∈ps):p.ts.length<=yB ps:=zF (h.gu p B).2 (kB B)
section
variable {P:Program}{w:World}{K:W.Frag}{mg:QqM}{base:Heap}{CP CK:Addr}
abbrev jb:Stmt:=top 35
abbrev jv:List Str:=["_law_kept","_law_model_here","_law_things","_law_d","_law_due"]
def Zs:FnScope jv q13 (xr jb):=⟨rfl,rfl,rfl,x0,rfl,x0,x0⟩
def Xl:("_law_name" :: jv:List Str).Nodup:=x0
def WF(CP CK:Addr):TF:=λds n Q=>∃(d:Nat) (k br ro J pa he I:Addr) (m:Nat) (ps U:List Pt) (rk B:List (Int × D)) (ts:List Thing),ds=[.rf k,.rf J,.rf I,.int (d:Int)]/\d<=4/\Wd CP CK d n k br ro J pa he I m ps U rk B ts/\ts.Perm (ps.flatMap Pt.left)/\yB ps<64/\Q (.bl true) n
def zx1(T:Blt mg)(F:Fun K "_law_right" "_law_right" jb f fd)(M_parts:MthC P w K mg base CK "parts" 2 0 (Kj CP CK))(M_house:MthC P w K mg base CK "house" 2 0 (WK CP CK))(M_made:MthC P w K mg base CK "made" 1 0 (zd6 CP CK))(Y_parts:Fn P w K mg base "_law_parts" 1 1 WI)(Y_alike:Fn P w K mg base "_law_alike" 8 2 (WL 8)):FnOk P w K mg base CX0 9 f fd q13 (spD K 4 (WF CP CK)):=by
 refine Fun.okD F Zs (λaj A0 outer s H E G Z _ B=>(zO (yZ (i:=4) Zs.nd rfl (lo rfl) (yD wJ vK T.tuple vw (zc (vT (own:=["_law_name"]) (M:=jv) (vQ (by rfl)) rfl (vf rfl (Vd rfl T.sorted (zc (zm 2) zB))) (λ_ _ _ _=>(xQ (i:=0) Xl rfl (lo rfl) w6)) (λ_ _ _ _=>vc) (λ_ _ _ _=>(ZS (vC B) (zm 3) (zm 0) (λ_ _=>rfl)))) zB)))
  (zO (ke (PWD.pt (zC5 (ZM (jj (vg Y_alike (B.mono w6) rfl (zc (kS M_parts (B.mono w6) rfl (zm 0)) (zc (vg Y_parts (B.mono w6) rfl (zc (zm 1) zB)) zB))))) (zg1 (ZM (jj (vg Y_alike (B.mono w6) rfl (zc (kS M_house (B.mono w6) rfl (zm 0)) (zc (jk (zc (zm 3) (zc (zm 4) zB))) zB)))))))) (xi (wC Uf)) vn)
  (xi (wC (vg Y_alike (B.mono w6) rfl (zc (kS M_made (B.mono w6) rfl (zm 0)) (zc (kT (vC B) (zm 1) qf (λ_ _=>rfl)) zB)))))))) ?_
 rintro ds n Q hl ⟨d,k,br,ro,mo,pa,he,th,m,ps,qs,rk,ab,ts,rfl,ag,W,pm,hz,q⟩;obtain⟨F',J⟩:=W.K;obtain⟨F'',hM⟩:=W.M;have al:=W.tr.al;rw[xx,xg] at al
 have nd:(ts.map (·.1)).Nodup:=by
  have e:names ps=(ps.flatMap Pt.left).map (·.1):=by unfold names;rw[List.map_flatMap]
  rw[e] at al;exact(pm.map _).nodup_iff.mpr al
 have lz:=Xr W.tr.gu;have lt:=pm.length_eq;have sz:=qo (ps:=ps);have ah:=qo (ps:=qs);have ai:=XI W.cr;simp[wR]
 refine xC W.t ⟨by unfold tsD;rw[zh];lia,λms I hs=>?_⟩
 rw[WD] at I;obtain⟨rs,B,rfl⟩:=jD I;rw[xy] at hs;have lr:=B.length_eq;simp
 refine yK (λt:Thing=>D.int t.1) xh rs (wZ w5) (λt ht R hR=>?_) ?_
 ·simp;refine xC W.t ?_;rw[VB nd (B.mem_iff.mp ht)]
  simpa using hR
 ·refine kD.mpr ?_
  have aa:∀p∈ps,p.ts.length<=1000:=λp I=>by have:=VL W.tr I;lia
  have Y:∀p∈qs,p.ts.length<=1000:=λp I=>by have:=VL W.tr2 I;lia
  refine xE J.i ⟨ql,d,k,br,ro,m,ps,rk,F',rfl,J,W.tr.rn,aa,w5,λus hu ae=>?_⟩
  refine⟨mo,pa,he,m,qs,ab,F'',rfl,hM,W.tr2.rn,Y,w5,λvs hv ad=>?_⟩
  rw[<- zs1 W.cr W.tr.rn hu ae hv ad]
  refine⟨_,rfl,qM.mpr ⟨by rw[zh,hu.length_eq];lia,λe he=>?_⟩,?_⟩
  ·obtain⟨p,I,rfl⟩:=zG.mp he;exact zy1 (aa p (hu.mem_iff.mp I))
  ·simp
   refine xE J.i ⟨ql,d,k,br,ro,m,ps,rk,F',rfl,J,W.tr,w5,w5,λws hw ac=>?_⟩
   have U:(rs.map (·.1)).Nodup:=(B.map _).nodup_iff.mpr nd;rw[List.Nodup,xy] at U
   have e:ws=rs:=qD (lt:=λs t:Thing=>s.1<t.1) (λa h=>by lia) (λa b c h1 h2=>by lia) (hw.trans (pm.symm.trans B.symm)) ac ((hs.and U).imp λh=>by have:=h.1;have:=h.2;lia)
   subst e;simp
   refine⟨_,rfl,qM.mpr ⟨by simp,λe he=>?_⟩,?_⟩
   ·simp only [zg, xk, or_false] at he
    rcases he with rfl |rfl
    ·rfl
    ·refine qM.mpr ⟨by rw [zh]; lia, λe he => ?_⟩
     obtain⟨t,ht,rfl⟩:=zG.mp he;obtain⟨p,I,af⟩:=wd.mp (pm.mem_iff.mp (B.mem_iff.mp ht));exact zj1 ((W.tr.gu p I).1.each t (JY af)) ag
   ·simp;refine xE J.i ⟨ql,d,k,br,ro,m,ps,rk,F',rfl,J,?_⟩;refine vS hM.i ?_;rw[zj8];simp;exact⟨_,rfl,rfl,q⟩
theorem zm5:∀{l r:List Int},l.Nodup->(∀x∈l,x∈r)->l.length<=r.length
 |[],_,_,_=>wQ _
 |a::l,r,hn,h=>by
  have hn':=zV.mp hn;have ha:=h a zq
  have h1:=zm5 (r:=r.erase a) hn'.2 λx hx=>(List.mem_erase_of_ne λe:x=a=>hn'.1 (by rw[<- e];exact hx)).mpr (h x (zf _ hx))
  rw[List.length_erase_of_mem ha] at h1;have:=List.length_pos_of_mem ha;rw[zA];lia
def two{I J:Prop}[Decidable I][Decidable J]{A B:Prop}(U:B)(ha:¬ I->A):if I then B else if J then A else B:=by
 by_cases h1:I
 ·rw[if_pos h1];exact U
 ·rw [if_neg h1]
  by_cases h2:J
  ·rw[if_pos h2];exact ha h1
  ·rw[if_neg h2];exact U
def ku(ps:List Pt):names ps=(ps.flatMap Pt.left).map (·.1):=by unfold names;rw[List.map_flatMap]
def zt3{ts:List Thing}{v:Int}(hv:1<=v):1<=((List.range (2*ts.length+3)).filter λi:Nat=>!decide (v*(i:Int)∈ts.map (·.1))).length:=by
 refine Classical.byContradiction λz=>?_
 have e:(List.range (2*ts.length+3)).filter (λi:Nat=>!decide (v*(i:Int)∈ts.map (·.1)))=[]:=wM w5
 have h:∀x∈(List.range (2*ts.length+3)).map (λi:Nat=>v*(i:Int)),x∈ts.map (·.1):=λx hx=>by
  obtain⟨i,hi,rfl⟩:=zG.mp hx;have:=List.filter_eq_nil_iff.mp e i hi
  simpa using this
 have nd:((List.range (2*ts.length+3)).map (λi:Nat=>v*(i:Int))).Nodup:=by
  rw[List.Nodup,xy];refine List.Pairwise.imp ?_ List.nodup_range;intro i j B e
  exact B (Int.ofNat.inj (Int.eq_of_mul_eq_mul_left w5 e))
 have:=zm5 nd h;rw[zh,zh,yp] at this;lia
abbrev jS:Stmt:=top 33
abbrev Zl:List Str:=["_law_left_here","_law_kept","_law_model_here","_law_things","_law_d","_law_near","_law_way","_law_name","_law_scale","_law_names","_law_thing_here"]
def vW:FnScope Zl q14 (xr jS):=⟨rfl,rfl,rfl,x0,rfl,x0,x0⟩
def XX:("_law_k" :: Zl:List Str).Nodup:=x0
def zd8(CP CK:Addr):TF:=λds n Q=>∃(d:Nat) (k br ro U pa he I:Addr) (m:Nat) (ps W:List Pt) (rk J:List (Int × D)) (ts:List Thing) (B:Bool),ds=[.st,.rf k,.rf U,.rf I,.int (d:Int),.bl B]/\kOf n=2/\1<=d/\d<=4/\Wd CP CK d n k br ro U pa he I m ps W rk J ts/\ts.Perm (ps.flatMap Pt.left)/\yB ps<=60/\m<=90000 /\
 ∀n' m' ps' qs' rk' rk2' ts',Wd CP CK d n' k br ro U pa he I m' ps' qs' rk' rk2' ts'->ts'.Perm (ps'.flatMap Pt.left)->kOf n'=2->yB ps'<=yB ps+1->m'+wts 6 ps'<=m+wts 6 ps+7->Q .non n'
def zN0(T:Blt mg)(F:Fun K "_law_deed" "_law_deed" jS f fd)(M_come:MthC P w K mg base CK "come" 17 1 (zd9 CP CK))(M_go:MthC P w K mg base CK "go" 18 1 (xi1 CP CK))(Y_pick:Fn P w K mg base "_law_pick" 1 2 Yi)(Y_of:Fn P w K mg base "_law_of" 2 2 zR7)(Y_thing:Fn P w K mg base "_law_thing" 4 4 Kg)(Y_put:Fn P w K mg base "_law_put" 1 3 Jw)(Y_gone:Fn P w K mg base "_law_gone" 2 2 WJ):FnOk P w K mg base CX0 19 f fd q14 (spD K 6 (zd8 CP CK)):=by
 refine Fun.okD F vW (λar A0 outer s H E G Z _ U=>(zO (yZ (i:=6) vW.nd rfl (lo rfl) (vg Y_pick (U.mono w6) rfl (zc (zm 0) (zc xo zB))))
  (xi (ke (PWD.pt (zI9 (zJ3 (vC U) (zm 3) jm (by with_unfolding_all rfl)) (zu7 (kR zM1 zH8 (zm 6) xo (kN _))))) (zO (yZ (i:=7) vW.nd rfl (lo rfl) (vg Y_of (U.mono w6) rfl (zc (zm 0) (zc (Vd rfl T.sorted (zc (zm 3) zB)) zB))))
  (zO (vJ (qK M_go (U.mono w6) rfl (zm 1) (zc (zm 7) zB)))
  (zO (vJ (vg Y_gone (U.mono w6) rfl (zc (zm 2) (zc (zm 7) zB))))
  (xi (vJ (jl (zm 3) (zm 7) ⟨rfl,rfl,rfl,rfl⟩)))))) (zO (yZ (i:=8) vW.nd rfl (lo rfl) (Zc kX jZ (jH (zc xo (zc xo (zc (Wr xo xo) (zc xo zB))))) (Wq (zm 4) xo) (λ_ _=>rfl)))
  (zO (qI (i:=9) vW.nd rfl (lo rfl) (own:=["_law_k"]) (M:=Zl) (vQ (by rfl)) rfl (Xd T.range (zc (jn (qu xo (Kx T.len (zc (zm 3) zB))) xo) zB)) (λ_ _ _ _=>(xQ (i:=0) XX rfl (lo rfl) w6)) (λ_ _ _ _=>(Yy (qt (vC U) (qu (zm 9) (zm 0)) (zm 4) (by with_unfolding_all rfl)))) (λ_ _ _ _=>(qu (zm 9) (zm 0))))
  (zO (yZ (i:=10) vW.nd rfl (lo rfl) (vg Y_thing (U.mono w6) rfl (zc (zm 0) (zc (vg Y_of (U.mono w6) rfl (zc (zm 0) (zc (zm 9) zB))) (zc (zm 4) (zc (zm 5) zB))))))
  (zO (vJ (qK M_come (U.mono w6) rfl (zm 1) (zc (zm 10) zB)))
  (zO (vJ (vg Y_put (U.mono w6) rfl (zc (zm 2) (zc xo (zc (jH (zc (Zc kX jZ (zm 10) xo (λ_ _=>rfl)) zB)) zB)))))
  (xi (qJ (vC U) (zm 3) (Zc kX jZ (zm 10) xo (λ_ _=>rfl)) (zm 10)))))))))))) ?_
 rintro ds n Q hl ⟨d,k,br,ro,mo,pa,he,th,m,ps,qs,rk,aa,ts,ac,rfl,ae,af,ab,W,pm,hz,hm,q⟩;have al:=W.tr.al;rw[xx,xg,ku] at al;have nd:(ts.map (·.1)).Nodup:=(pm.map _).nodup_iff.mpr al;have lz:=Xr W.tr.gu;have lt:=pm.length_eq;have sz:=qo (ps:=ps);have aq:=XI W.cr;simp[wR]
 refine vy ae w6 w6 λak ao am=>?_
 simp;intro a ha;have p0:plC (.dic [])=true:=rfl
 have B:=W.other (OnlyC.set (n:=n) (a:=a) p0) (by simpa using ha)
 have k1:kOf (vq n a (.dic []))=2:=(vh p0).trans ae;have ca:=wc (n:=n) (a:=a) p0;generalize vq n a (Cell.dic [])=n1 at B k1 ca ⊢
 have ah:(tsD ts).length=ts.length:=by unfold tsD;rw[zh]
 have cm:∀{i j:Int},(-(2^64)<i/\i<2^64)->CMul i j:=λh=>.inl h;refine xC B.t ⟨ca,two ?_ λh0=>?_⟩
 ·refine ⟨⟨w6, by decide, by decide⟩, ?_⟩
  obtain⟨v,hv,hv0,hv1⟩:∃v:Int,atI [D.int 1,D.int 1,D.int 1000000000000000,D.int 7] ((d:Int)-1)=some (.int v)/\1<=v/\v<=1000000000000000:=by
   rcases(show d=1\/d=2\/d=3\/d=4 by lia) with rfl |rfl |rfl |rfl
   ·exact⟨1,rfl,w6,w6⟩
   ·exact⟨1,rfl,w6,w6⟩
   ·exact⟨1000000000000000,rfl,w6,w6⟩
   ·exact⟨7,rfl,w6,w6⟩
  refine⟨_,hv,xC B.t ⟨cm ⟨w6,w6⟩,w5,w5,?_⟩⟩
  rw[ah,show(2*(ts.length:Int)+3).toNat=2*ts.length+3 by lia,JC]
  refine qS (λi:Nat=>D.int (i:Int)) (λi=>!decide (v*(i:Int)∈ts.map (·.1))) (λi=>.int (v*(i:Int))) (List.range (2*ts.length+3)) (wZ (by rw[yp];lia)) (λi hi R S hR hS=>?_) ?_
  ·simp
   refine⟨cm ⟨w5,w5⟩,xC B.t ?_⟩
   by_cases Y:v*(i:Int)∈ts.map (·.1)
   ·obtain ⟨t, ht, et⟩ := zG.mp Y
    rw[<- et,VB nd ht,if_neg (by simp)]
    exact hS (by simpa using Y)
   ·rw [WC Y, if_pos rfl]
    exact⟨cm ⟨w5,w5⟩,hR (by simpa using Y)⟩
  ·simp;have hc:=zt3 (ts:=ts) hv0;have hl:=wf (λi:Nat=>!decide (v*(i:Int)∈ts.map (·.1))) (List.range (2*ts.length+3));rw[yp] at hl
   refine⟨((List.range (2*ts.length+3)).filter λi:Nat=>!decide (v*(i:Int)∈ts.map (·.1))).map λi:Nat=>v*(i:Int),by rw[zQ];rfl,k1,by rw[zh];exact hc,by rw[zh];lia,λx hx=>?_⟩
   have I:x ∉ ts.map (·.1):=by
    obtain⟨i,hi,rfl⟩:=zG.mp hx
    simpa using (zP.mp hi).2
   have J:x ∉ names ps:=λz=>I (by rw[ku] at z;exact(pm.map _).mem_iff.mpr z)
   refine⟨x,d,ac,rfl,k1,ab,λpl z ad=>?_⟩;refine xE B.k1.i ⟨ql,?_⟩;simp
   refine⟨d,k,br,ro,m,ps,rk,_,(x,pl,z),rfl,af,ab,B.k1,B.tr,J,ad,w5,B.l1,w5,λn2 ps' rk' L g1 g2 g3 g4 gM=>?_⟩
   simp[xh];have t2:=B.tr2
   have ai:x ∉ names qs:=by rw[<- Ye B.cr];exact J
   have tr2':Tran d qs [(x,pl,z)] aa:=⟨t2.rn,t2.gu,t2.gl,zV.mpr ⟨ai,t2.al⟩,λu hu=>by rw[zw.mp hu];exact ad,t2.rk,λy hy=>zf _ (t2.kr y hy)⟩
   refine⟨d,mo,pa,he,m,qs,aa,_,0,[(x,pl,z)],rfl,B.mid g1,tr2',by simp,by simp,by simp;lia,B.l2,w5,λn3 qs' ag L2 f1 f2 f3 f4 fM=>?_⟩
   obtain⟨aj,hL⟩:=gM.core B.tr.rn B.cr fM;subst hL;have W3:=B.fin g1 f1 aj g3 f3 g4 f4
   refine xC W3.t ⟨Za (x,pl,z),lt_size w5,?_⟩
   have e8:=zG1 (t:=(x,pl,z)) I;simp only[xh] at e8;rw[e8];have a1:=gM.size B.tr.rn
   have a3:=gM.cost B.tr.rn (R:=6) w5
   simp only[Nat.pow_zero,zA,ym,Nat.zero_add,Nat.one_mul,Nat.sub_zero] at a1 a3
   exact q _ _ _ _ _ _ _ (W3.thing _) ((yf.trans (pm.append_left _)).trans (gM.left B.tr.rn).symm) ((vh YZ).trans (f2.trans (g2.trans k1))) w5 w5
 ·refine xC B.t ⟨w5, λms hp hs => ?_⟩
  rw[WD] at hp;have lm:=hp.length_eq;rw[zh] at lm
  refine⟨ms,rfl,k1,?_,w5,λx hx=>?_⟩
  ·cases ts with
   |nil=>exact absurd rfl h0
   |cons t ts=>rw[lm];simp
  have I:x∈ts.map (·.1):=hp.mem_iff.mp hx
  have J:x∈names ps:=by rw[ku];exact(pm.map _).mem_iff.mp I
  refine xE B.k1.i ⟨ql,?_⟩;simp
  refine⟨d,k,br,ro,m,ps,rk,_,x,rfl,af,ab,B.k1,B.tr,J,w5,B.l1,w5,λn2 ps' rk' L g1 g2 g3 g4 gM=>?_⟩
  refine⟨d,mo,pa,he,m,qs,aa,_,x,rfl,B.mid g1,B.tr2,by rw[<- Ye B.cr];exact J,w5,B.l2,w5,λn3 qs' ag L2 f1 f2 f3 f4 fM=>?_⟩
  obtain⟨hc,hL⟩:=gM.core B.tr B.cr fM;subst hL;have W3:=B.fin g1 f1 hc g3 f3 g4 f4;obtain⟨t,ht,rfl⟩:=zG.mp I;refine xC W3.t (xC W3.t ?_);rw[VB nd ht];simp;rw[Jt];obtain⟨a1,a2,a3⟩:=gM.all B.tr
  have a4:=a3 6 w5
  exact q _ _ _ _ _ _ _ (W3.thing _) ((pm.filter _).trans (gM.left B.tr).symm) ((vh YZ).trans (f2.trans (g2.trans k1))) w5 w5
end
structure JDe(CP CK:Addr)(d:Nat)(near:Bool)(k br ro mo pa he th:Addr)(a0 a1:Option D)(i:Nat)(rho:Rho)(n':Nat):Prop where
 hk:kOf n'=2
 hx:∃(m:Nat) (ps qs:List Pt) (rk rk2:List (Int × D)) (ts:List Thing) (z8 z9 z10:Option D),rho=[a0,a1,some .st,some (.int (d:Int)),some (.bl near),some (.rf k),some (.rf mo),some (.rf th),z8,z9,z10]/\Wd CP CK d n' k br ro mo pa he th m ps qs rk rk2 ts/\ts.Perm (ps.flatMap Pt.left)/\yB ps<=i/\m+wts 6 ps<=7*i
structure JNa(CP CK:Addr)(d:Nat)(near:Bool)(k br ro mo pa he th:Addr)(l:List Int)(a0 a1:Option D)(i:Nat)(rho:Rho)(n':Nat):Prop where
 hk:kOf n'=2
 hx:∃(m:Nat) (ps qs:List Pt) (rk rk2:List (Int × D)) (ts:List Thing) (z8 z9 z10:Option D),rho=[a0,a1,some .st,some (.int (d:Int)),some (.bl near),some (.rf k),some (.rf mo),some (.rf th),z8,z9,z10]/\Wd CP CK d n' k br ro mo pa he th m ps qs rk rk2 ts/\ts.Perm (ps.flatMap Pt.left)/\yB ps<=60/\m+wts 6 ps<=7*(60+i)/\∀x∈l.drop i,x∈names ps
def KC(ns:List Int):Ws (yt ns)=true:=Ul.mpr λe he=>by
 obtain⟨x,_,rfl⟩:=zG.mp he;rfl
structure JOut(ns:List Int)(n:Nat)(i:Nat)(rho:Rho)(n':Nat):Prop where
 hn:n'=n
 he:∃a b c d e f g h j k,rho=[some (yt ns),a,b,c,d,e,f,g,h,j,k]
section
variable {P:Program}{w:World}{K:W.Frag}{mg:QqM}{base:Heap}{CP CK:Addr}
abbrev WT:Stmt:=top 36
abbrev xB4:List Str:=["_law_script","_law_k","_law_left_here","_law_d","_law_near","_law_kept","_law_model_here","_law_things","_law_turn","_law_names","_law_name"]
def Yj:FnScope xB4 ["_law_script"] (xr WT):=⟨rfl,rfl,rfl,x0,rfl,x0,x0⟩
def xb0(T:Blt mg)(F:Fun K "law" "law" WT f fd)(MK_Kept:MkeC P w K mg base CK "Kept" 1 1 (Kl CK))(M_go:MthC P w K mg base CK "go" 18 1 (xi1 CP CK))(Y_left:Fn P w K mg base "_law_left" 2 2 zd7)(Y_pick:Fn P w K mg base "_law_pick" 1 2 Yi)(Y_of:Fn P w K mg base "_law_of" 2 2 zR7)(Y_model:Fn P w K mg base "_law_model" 1 0 Kk)(Y_gone:Fn P w K mg base "_law_gone" 2 2 WJ)(Y_deed:Fn P w K mg base "_law_deed" 19 6 (zd8 CP CK))(Y_right:Fn P w K mg base "_law_right" 9 4 (WF CP CK)):FnOk P w K mg base CX0 20 f fd ["_law_script"] (VG K):=by
 refine Fun.okLaw F Yj 2 (λbj A0 outer s H E hr=>(zO (ZN (m:=11) PassesOwn.never rfl (Xd T.range (zc (wj (UO rfl) zp1 T.max zq4 (zc xo (zc (wj (zp9 rfl) zQ4 T.min zF5 (zc xo (zc (wj wu kf T.len kh (zc (zm 0) zB)) zB))) zB))) zB)) (xQ (i:=1) Yj.nd rfl (lo rfl) w6)
  (zg3 (i:=2) rfl Yj.nd rfl (lo rfl) Y_left (hr.mono w6) rfl (zc (zm 0) (zc (zm 1) zB)) (λc Z H0=>(zO (JL (i:=3) (j:=4) rfl Yj.nd rfl rfl w6 rfl rfl (zc (jn xo (vg Y_pick (hr.mono w6) rfl (zc (zm 2) (zc xo zB)))) (zc (Ue zw7 zu0 (vg Y_pick (hr.mono w6) rfl (zc (zm 2) (zc xo zB))) xo (kN _)) zB)))
  (zO (zg4 (i:=5) (j:=6) (k:=7) rfl Yj.nd rfl rfl rfl rfl rfl rfl (zc (JR MK_Kept (hr.mono w6) rfl (zc (zm 3) zB)) (zc (xa1 Y_model (hr.mono w6) rfl) (zc jm zB))))
  (zO (ke (ZM (jj (vg Y_right (hr.mono w6) rfl (zc (zm 5) (zc (zm 6) (zc (zm 7) (zc (zm 3) zB))))))) (xi (wC Uf)) vn)
  (zO (ZN (m:=11) PassesOwn.never rfl (Xd T.range (zc (vg Y_of (hr.mono w6) rfl (zc (zm 2) (zc (jH (zc xo (zc xo (zc xo zB)))) zB))) zB)) (xQ (i:=8) Yj.nd rfl (lo rfl) w6)
  (zO (vJ (vg Y_deed (hr.mono w6) rfl (zc (zm 2) (zc (zm 5) (zc (zm 6) (zc (zm 7) (zc (zm 3) (zc (zm 4) zB))))))))
  (xi (ke (ZM (jj (vg Y_right (hr.mono w6) rfl (zc (zm 5) (zc (zm 6) (zc (zm 7) (zc (zm 3) zB))))))) (xi (wC Uf)) vn))))
  (zO (yZ (i:=9) Yj.nd rfl (lo rfl) (zw2 rfl (Vd rfl T.sorted (zc (zm 7) zB)) (vg Y_of (hr.mono w6) rfl (zc (zm 2) (zc (jH (zc xo (zc (xa0 xo) zB))) zB)))))
  (xi (ZN (m:=11) PassesOwn.never rfl (vf rfl (zZ8 rfl (zm 9) Zv (Zu (qu (wj wu kf T.len kh (zc (zm 9) zB)) (yD UP zp2 T.int QB (zc (Ue zw7 zu0 (vg Y_pick (hr.mono w6) rfl (zc (zm 2) (zc xo zB))) xo (kN _)) zB)))))) (xQ (i:=10) Yj.nd rfl (lo rfl) w6)
  (zO (vJ (qK M_go (hr.mono w6) rfl (zm 5) (zc (zm 10) zB)))
  (zO (vJ (vg Y_gone (hr.mono w6) rfl (zc (zm 6) (zc (zm 10) zB))))
  (zO (vJ (jl (zm 7) (zm 10) ⟨rfl,rfl,rfl,rfl⟩))
  (xi (ke (ZM (jj (vg Y_right (hr.mono w6) rfl (zc (zm 5) (zc (zm 6) (zc (zm 7) (zc (zm 3) zB))))))) (xi (wC Uf)) vn)))))))))))))))
  (xi (wC Uf)))) ?_
 intro ns aU;have am:vd (yt ns)=true:=id rfl;simp[wR,am]
 generalize hJ:(if 1<if (ns.length:Int)<4 then(ns.length:Int) else 4 then if (ns.length:Int)<4 then(ns.length:Int) else 4 else 1)=J
 have bh:1<=J/\J<=4:=by rw[<- hJ];split<;>(try split)<;>lia
 clear hJ
 refine⟨w5,w5,JOut ns 2,⟨rfl,_,_,_,_,_,_,_,_,_,_,rfl⟩,?_,?_⟩
 ·rintro i d' rho m e ⟨rfl, a, b, c, d1, e1, f1, g1, h1, j1, l1, rfl⟩;obtain⟨hi,rfl⟩:=zB8 e;simp
  refine QZ ns (by simp) (i:Int) (by simp[am]) (λP P' h=>by simp[am];exact h _ _) ?_
  refine⟨ns,_,rfl,aU,w5,w5,λx y hx hy aR=>⟨[x,y],rfl,rfl,by simp[hx,hy],by simp[aR],?_⟩⟩
  have aF:We (some (yt ns))=some (yt ns):=zl3 (KC ns);generalize aZ:zR8 (zH0 5 6 7 _) _=BX;simp[vP,aF];generalize We (some (D.int (i:Int)))=k1;generalize We e1=k4;generalize We f1=k5;generalize We g1=k6;generalize We h1=k7;generalize We j1=k8;generalize We l1=k9
  refine vy zO8 w6 w6 λk0 aJ hk0'=>?_
  obtain⟨d,hd⟩:=wS (show 0<=1+k0 by lia)
  have aL:1<=d:=w5
  have ad:d<=4:=w5
  simp;rw[hd]
  refine vy zO8 w6 w6 λkn bg hkn'=>?_
  simp;generalize decide (kn=0)=aa;subst aZ;generalize hG:zR8 (sIf (xB0 (UH (dFn 4 (WF CP CK) _))) _ _) _=G;simp;intro a ha;have az:plC (.ins CK [])=true:=rfl;have c1:=wc (n:=2) (a:=a) az;have q1:=vh (n:=2) (a:=a) az;generalize vq 2 a _=n0 at c1 q1 ⊢;refine⟨a,d,F0,rfl,c1,f0,λn1 br ro hK aJ=>⟨rfl,?_⟩⟩;have hK:=hK CP
  refine⟨⟨n1,λb=>b∈jF a br ro []⟩,rfl,λb Y=>⟨rfl,hK.ne b Y,by simp⟩,λn2 mo pa he hM aX=>?_⟩
  simp;intro B aD;have p1:plC (.dic (tsD []))=true:=YZ;have o2:=OnlyC.set (n:=n2) (a:=B) p1;have st:∀b∈jF a br ro [],zW n2 b=zW n1 b:=λb Y=>(hM.f b Y).1
  have ne1:∀b∈jF a br ro [],b≠B:=λb Y e=>by
   have h1:=hK.ne b Y;rw[<- st b Y,e,aD] at h1;exact h1 rfl
  have ne2:∀b∈Zg mo pa he [],b≠B:=λb Y e=>hM.ne b Y (by rw[e];exact aD)
  have W:Wd CP CK d (vq n2 B (.dic (tsD []))) a br ro mo pa he B 0 [] [] [] [] []:=
   ⟨⟨F0,hK.keep (λb Y=>(vb p1 (ne1 b Y)).trans (st b Y)) f0⟩,⟨F0,hM.keep (λb Y=>vb p1 (ne2 b Y)) f0⟩,wc p1,λb Y z=>(hM.f b z).2.2 Y,λz=>ne1 B z rfl,λz=>ne2 B z rfl,rfl,
    ⟨by simp,by simp,by simp,by simp[names],by simp,by simp,λx hx=>by simp[vG] at hx⟩,⟨by simp,by simp,by simp,by simp[names],by simp,by simp,λx hx=>by simp[vG] at hx⟩,by simp,by simp⟩
  have av:kOf (vq n2 B (.dic (tsD [])))=2:=(vh p1).trans (aX.trans (aJ.trans (q1.trans zO8)));have e0:vq n2 B (Cell.dic [])=vq n2 B (.dic (tsD [])):=rfl;rw[e0];generalize vq n2 B (.dic (tsD []))=n3 at W av ⊢;clear o2 st ne1 ne2 hM hK c1 q1 e0;subst hG;generalize hG:zR8 (xi7 (zP6 _) _ _) _=G;simp;refine⟨_,_,_,⟨rfl,rfl,rfl⟩,?_⟩;simp
  refine⟨d,a,br,ro,mo,pa,he,B,0,[],[],[],[],[],rfl,ad,W,.refl _,by simp[yB],?_⟩
  subst hG;generalize hG:zR8 (xi6 9 _) _=G;simp
  refine⟨[5,30,60],rfl,av,by simp,by simp,λc hc=>?_⟩
  obtain⟨aB,rfl⟩:=wS (show 0<=c by simp at hc;lia)
  have aV:aB<=60:=by simp at hc;lia
  simp
  refine⟨w5,JDe CP CK d aa a br ro mo pa he B (some (yt ns)) k1,⟨av,0,[],[],[],[],[],k7,k8,k9,rfl,W,.refl _,by simp[yB],by simp[wts]⟩,?_,?_⟩
  ·rintro j dd rho n4 ej ⟨ac, m, ps, qs, rk, ai, ts, z8, z9, z10, rfl, W4, pm, hz, hm⟩;obtain⟨hj,rfl⟩:=zB8 ej;clear hG;simp
   refine⟨d,a,br,ro,mo,pa,he,B,m,ps,qs,rk,ai,ts,aa,rfl,ac,aL,ad,W4,pm,w5,w5,λn5 m' ps' qs' rk' rk2' ts' I U ag aC aH=>?_⟩
   refine⟨d,a,br,ro,mo,pa,he,B,m',ps',qs',rk',rk2',ts',rfl,ad,I,U,w5,?_⟩
   simp
   exact⟨ag,m',ps',qs',rk',rk2',ts',_,_,_,rfl,I,U,w5,w5⟩
  ·rintro rho n4 ⟨ac, m, ps, qs, rk, ai, ts, z8, z9, z10, rfl, W4, pm, hz, hm⟩;rw[WV] at hz hm;have al:=W4.tr.al;rw[xx,xg,ku] at al;have nd:(ts.map (·.1)).Nodup:=(pm.map _).nodup_iff.mpr al;have lz:=Xr W4.tr.gu;have lt:=pm.length_eq
   have be:(tsD ts).length=ts.length:=by unfold tsD;rw[zh]
   subst hG;generalize hG:xi7 (zP5 _) _ _=G;simp
   refine xC W4.t ⟨w5,λms hp hs=>?_⟩
   rw[WD] at hp
   refine⟨[1,-1],rfl,ac,by simp,by simp,λst aE=>?_⟩
   simp;generalize aM:EndsD.mk _ _ _ _=FE
   have aT:∀(b1 b2 b3 b4 b5 b6 b7 b8 b9 ba:Option D) (n':Nat),FE.nx [some (yt ns),b1,b2,b3,b4,b5,b6,b7,b8,b9,ba] n':=λ_ _ _ _ _ _ _ _ _ _ _=>by
    rw[<- aM]
    exact⟨rfl,_,_,_,_,_,_,_,_,_,_,by rw[zz,aF];rfl⟩
   clear aM
   have ae:∀l:List Int,(∀x∈l,x∈names ps)->l.Nodup->l.length<=60->G FE [some (yt ns),k1,some D.st,some (D.int (d:Int)),some (D.bl aa),some (D.rf a),some (D.rf mo),some (D.rf B),z8,some (D.lst (l.map D.int)),z10] n4:=λl hl hn bc=>by
    subst hG;simp
    refine vy ac w6 w6 λkp bf hkp'=>?_
    simp
    obtain⟨c,hc,e⟩:∃c:Nat,c<=l.length/\((l.length:Int)*if kp=0 then 1 else 0)=(c:Int):=by
     split
     ·exact⟨l.length,zk _,by simp⟩
     ·exact⟨0,w5,by simp⟩
    refine⟨.inl ⟨w5,w5⟩,?_⟩
    rw[e,zp0 _ _ (by rw[zh];exact hc),<- yP]
    have aI:∀x∈l.take c,x∈names ps:=λx hx=>hl x (List.mem_of_mem_take hx);have aG:(l.take c).Nodup:=(yT c l).nodup hn
    have aq:(l.take c).length<=60:=by rw[xl];lia
    generalize l.take c=l2 at aI aG aq ⊢
    refine⟨JNa CP CK d aa a br ro mo pa he B l2 (some (yt ns)) k1,⟨ac,m,ps,qs,rk,ai,ts,_,_,_,rfl,W4,pm,w5,w5,aI⟩,?_,?_⟩
    ·rintro j dd rho n5 ej ⟨ag, m5, aj, ay, aw, ah, ab, y8, y9, aO, rfl, I, U, aC, aH, ao⟩;rw[zI] at ej;obtain⟨x,ex,rfl⟩:=xY.mp ej;have aK:j<l2.length:=(zT.mp ex).1
     have dr:l2.drop j=x::l2.drop (j+1):=by
      rw[yg aK]
      congr 1
      rw[zn aK] at ex;exact zN ex
     have nx:x ∉ l2.drop (j+1):=by
      have h:=(List.drop_sublist j l2).nodup aG;rw[dr] at h;exact(zV.mp h).1
     have aN:=I.tr.al;rw[xx,xg,ku] at aN;have aQ:(ab.map (·.1)).Nodup:=(U.map _).nodup_iff.mpr aN
     have af:x∈names aj:=ao x (by rw[dr];exact zq)
     have aS:x∈ab.map (·.1):=(U.map _).mem_iff.mpr (by rw[ku] at af;exact af)
     have bi:=XI I.cr;simp;refine xE I.k1.i ⟨ql,?_⟩
     refine⟨d,a,br,ro,m5,aj,aw,_,x,rfl,aL,ad,I.k1,I.tr,af,w5,I.l1,w5,λn6 ps' rk' L g1 g2 g3 g4 gM=>?_⟩
     refine⟨d,mo,pa,he,m5,ay,ah,_,x,rfl,I.mid g1,I.tr2,by rw[<- Ye I.cr];exact af,w5,I.l2,w5,λn7 qs' ax L2 f1 f2 f3 f4 fM=>?_⟩
     obtain⟨aY,hL⟩:=gM.core I.tr I.cr fM;subst hL;have W7:=I.fin g1 f1 aY g3 f3 g4 f4;obtain⟨b1,b2,b3⟩:=gM.all I.tr
     have b4:=b3 6 w5
     have ak:=(U.filter λu=>decide (u.1≠x)).trans (gM.left I.tr).symm;have aW:kOf n7=2:=f2.trans (g2.trans ag);refine xC W7.t (xC W7.t ?_);obtain⟨t,ht,et⟩:=zG.mp aS;rw[<- et,VB aQ ht];simp;rw[Jt,et];have W8:=W7.thing (ab.filter λu=>decide (u.1≠x));have ar:=(vh (n:=n7) (a:=B) (YZ (ts:=ab.filter λu=>decide (u.1≠x)))).trans aW;generalize ab.filter (λu=>decide (u.1≠x))=aP at W8 ar ak ⊢;generalize vq n7 B (.dic (tsD aP))=n8 at W8 ar ⊢
     refine⟨d,a,br,ro,mo,pa,he,B,_,ps',qs',rk',ax,_,rfl,ad,W8,ak,w5,?_⟩
     simp
     exact⟨ar,_,ps',qs',rk',ax,_,_,_,_,rfl,W8,ak,w5,w5,λy hy=>(b2 y).mpr ⟨ao y (by rw[dr];exact zf _ hy),λz=>nx (z ▸ hy)⟩⟩
    ·rintro rho n5 ⟨ag,m5,aj,ay,aw,ah,ab,y8,y9,aO,rfl,I,U,aC,aH,ao⟩;exact aT _ _ _ _ _ _ _ _ _ _ _
   have aA:ms.Nodup:=hp.nodup_iff.mpr nd
   have mm:∀x∈ms,x∈names ps:=λx hx=>by
    rw[ku];exact(pm.map _).mem_iff.mp (hp.mem_iff.mp hx)
   have ml:ms.length<=60:=by
    have:=hp.length_eq;rw[zh] at this;lia
   simp only[zg,xk,or_false] at aE
   rcases aE with rfl |rfl
   ·exact .inl ⟨rfl,ae ms mm aA ml⟩
   ·refine .inr ⟨rfl, ?_⟩;rw[show Km true (ms.map D.int)=(ms.reverse).map D.int from(List.map_reverse ..).symm]
    exact ae ms.reverse (λx hx=>mm x (wr.mp hx)) ((yU _).nodup_iff.mpr aA) (by rw[List.length_reverse];exact ml)
 ·rintro rho n' ⟨rfl,a,b,c,d1,e1,f1,g1,h1,j1,l1,rfl⟩;simp
end
def vt{α:Type}{us:List α}{c:Nat}(h:us.length=c+1):∃a r,us=a::r/\r.length=c:=by
 cases us with
 |nil=>cases h
 |cons a r=>exact⟨a,r,rfl,Nat.succ.inj h⟩
def zc3{fd:FuncData}{ps:List Str}{us:QqW}(h:us.length=1)(q:∀B,bindArgs fd ⟨[B],[]⟩=pure (ps.zip [B])):bindArgs fd ⟨us,[]⟩=pure (ps.zip us):=by
 obtain⟨B,J,rfl,I⟩:=vt h;obtain rfl:=wy.mp I;exact q B
def Js{fd:FuncData}{ps:List Str}{us:QqW}(h:us.length=2)(q:∀I B,bindArgs fd ⟨[I,B],[]⟩=pure (ps.zip [I,B])):bindArgs fd ⟨us,[]⟩=pure (ps.zip us):=by
 obtain⟨I,W,rfl,J⟩:=vt h;obtain⟨B,U,rfl,h1⟩:=vt J;obtain rfl:=wy.mp h1;exact q I B
def xi0{fd:FuncData}{ps:List Str}{us:QqW}(h:us.length=3)(q:∀J I B,bindArgs fd ⟨[J,I,B],[]⟩=pure (ps.zip [J,I,B])):bindArgs fd ⟨us,[]⟩=pure (ps.zip us):=by
 obtain⟨J,u0,rfl,U⟩:=vt h;obtain⟨I,Y,rfl,h1⟩:=vt U;obtain⟨B,W,rfl,h2⟩:=vt h1;obtain rfl:=wy.mp h2;exact q J I B
def xn4{fd:FuncData}{ps:List Str}{us:QqW}(h:us.length=4)(q:∀U J I B,bindArgs fd ⟨[U,J,I,B],[]⟩=pure (ps.zip [U,J,I,B])):bindArgs fd ⟨us,[]⟩=pure (ps.zip us):=by
 obtain⟨U,u0,rfl,W⟩:=vt h;obtain⟨J,u1,rfl,h1⟩:=vt W;obtain⟨I,u2,rfl,h2⟩:=vt h1;obtain⟨B,Y,rfl,h3⟩:=vt h2;obtain rfl:=wy.mp h3;exact q U J I B
def xI9{fd:FuncData}{ps:List Str}{us:QqW}(h:us.length=6)(q:∀Y W U J I B,bindArgs fd ⟨[Y,W,U,J,I,B],[]⟩=pure (ps.zip [Y,W,U,J,I,B])):bindArgs fd ⟨us,[]⟩=pure (ps.zip us):=by
 obtain⟨Y,u0,rfl,h0⟩:=vt h;obtain⟨W,u1,rfl,h1⟩:=vt h0;obtain⟨U,u2,rfl,h2⟩:=vt h1;obtain⟨J,u3,rfl,h3⟩:=vt h2;obtain⟨I,u4,rfl,h4⟩:=vt h3;obtain⟨B,u5,rfl,h5⟩:=vt h4;obtain rfl:=wy.mp h5;exact q Y W U J I B
structure Dn(K:W.Frag)(x:Str)(st:Stmt):Prop where
 ex:∃(f:Addr) (fd:FuncData),W.nsIn K mainGlobals x=some (some (.ref f))/\Fun K x x st f fd
def dn{K:W.Frag}{x:Str}{st:Stmt}{f:Addr}{oc:Value}{Y an:QqE}{I:Array (Option Value)}{kV J U B ct:Value}(a:W.nsIn K mainGlobals x=some (some (.ref f)))(l:K.lookup f=some ⟨oc,Y,.func (W.fnOf x x (kY st) (vZ st) (xr st) .none kV J U an B ct),I⟩)(c:W.codeIn K B x=true)(k:W.keepIn K (.ref f)=true):Dn K x st:=⟨f,_,a,zn0 (st:=st) l c k⟩
def Dn.fn{P:Program}{w:World}{K:W.Frag}{mg:QqM}{base h:Heap}{x:Str}{st:Stmt}{U k:Nat}{t:TF}{ps:List Str}(d:Dn K x st)(X:K.In h)(G:h.Ns mainGlobals mg)(b:∀(kV I Y:Value) (an:QqE) (J ct:Value) (us:QqW),us.length=ps.length->bindArgs (W.fnOf x x (kY st) (vZ st) (xr st) .none kV I Y an J ct) ⟨us,[]⟩=pure (ps.zip us))(ok:∀(f:Addr) (fd:FuncData),Fun K x x st f fd->mg x=some (.ref f)->W.keepIn K (.ref f)=true->Binds K fd ps []->FnOk P w K mg base CX0 U f fd ps (spD K k t)):Fn P w K mg base x U k t:=by
 obtain⟨f,fd,a,F⟩:=d.ex;have m:=W.mg_of X G a;have B:=F.binds b;exact⟨f,fd,ps,ok f fd F m F.kp B,m,F.kp,B⟩
structure Dm(K:W.Frag)(C:Addr)(m qual:Str)(st:Stmt):Prop where
 ex:∃(f:Addr) (fd:FuncData),Meth K C m f/\Fun K m qual st f fd
def dm{K:W.Frag}{C:Addr}{m B:Str}{st:Stmt}{f:Addr}{oc:Value}{od an:QqE}{J:Array (Option Value)}{kV U Y I ct:Value}(a:W.findIn K (.ref C) m=some (some (.ref f)))(i:W.isFn K (.ref f)=true)(l:K.lookup f=some ⟨oc,od,.func (W.fnOf m B (kY st) (vZ st) (xr st) .none kV U Y an I ct),J⟩)(c:W.codeIn K I B=true)(k:W.keepIn K (.ref f)=true):Dm K C m B st:=⟨f,_,⟨a,i,k⟩,zn0 (st:=st) l c k⟩
def Dm.mth{P:Program}{w:World}{K:W.Frag}{mg:QqM}{base:Heap}{C:Addr}{m B:Str}{st:Stmt}{U k:Nat}{t:TF}{ps:List Str}(d:Dm K C m B st)(c:Cls K C)(b:∀(kV I Y:Value) (an:QqE) (J ct:Value) (us:QqW),us.length=ps.length->bindArgs (W.fnOf m B (kY st) (vZ st) (xr st) .none kV I Y an J ct) ⟨us,[]⟩=pure (ps.zip us))(ok:∀(f:Addr) (fd:FuncData),Fun K m B st f fd->FnOk P w K mg base CX0 U f fd ps (spD K (k+1) t)):MthC P w K mg base C m U k t:=by
 obtain⟨f,fd,M,F⟩:=d.ex;exact⟨f,fd,ps,ok f fd F,M,c,F.binds b⟩
def Dm.mke{P:Program}{w:World}{K:W.Frag}{mg:QqM}{base:Heap}{C:Addr}{x B:Str}{st:Stmt}{U k:Nat}{t:TF}{ps:List Str}(d:Dm K C "__init__" B st)(mk:W.makesIn K C=true)(kc:W.keepIn K (.ref C)=true)(hm:mg x=some (.ref C))(b:∀(kV I Y:Value) (an:QqE) (J ct:Value) (us:QqW),us.length=ps.length->bindArgs (W.fnOf "__init__" B (kY st) (vZ st) (xr st) .none kV I Y an J ct) ⟨us,[]⟩=pure (ps.zip us))(ok:∀(f:Addr) (fd:FuncData),Fun K "__init__" B st f fd->FnOk P w K mg base CX0 U f fd ps (spD K (k+1) t)):MkeC P w K mg base C x U k t:=by
 obtain⟨f,fd,M,F⟩:=d.ex;exact⟨f,fd,ps,ok f fd F,⟨mk,M.at_,M.fn,kc⟩,hm,F.binds b⟩
def all_mk{l:W.OpenLaw}{w:World}{K:W.Frag}{h:Heap}{mg:QqM}{fa ae:Addr}(X:K.In h)(G:h.Ns mainGlobals mg)(ai:mg "law" = some (.ref fa))
  {ag ad:QqE}{af:Array (Option Value)}{ah aa ab Y J ac:Value}
  {C_Part:Addr}
  {C_Kept:Addr}
  (d0:Dn K "things_by_name" kH)
  (d1:Dn K "names_by" ZK)
  (d2:Dn K "names_in_order" kI)
  (d3:Dn K "halved_up" jM)
  (d4:Dn K "bounds" WU)
  (d5:Dn K "bounds_of" jN)
  (d6:Dn K "tree_of" YQ)
  (d7:Dn K "all_names" jO)
  (d8:Dn K "turns" Kq)
  (d9:Dn K "rank_for" ZJ)
  (d10:Dm K C_Part "__init__" "Part.__init__" jV)
  (d11:Dm K C_Part "left" "Part.left" jU)
  (d12:Dm K C_Kept "__init__" "Kept.__init__" jX)
  (d13:Dm K C_Kept "put_in" "Kept.put_in" qF)
  (d14:Dm K C_Kept "make_anew" "Kept.make_anew" kJ)
  (d15:Dm K C_Kept "come" "Kept.come" jY)
  (d16:Dm K C_Kept "go" "Kept.go" YS)
  (d17:Dm K C_Kept "made" "Kept.made" jW)
  (d18:Dm K C_Part "told" "Part.told" jT)
  (d19:Dm K C_Kept "ranks" "Kept.ranks" jf)
  (d20:Dm K C_Kept "parts" "Kept.parts" jg)
  (d21:Dm K C_Kept "house" "Kept.house" jh)
  (d22:Dn K "_law_cell_at" qi)
  (d23:Dn K "_law_left" jQ)
  (d24:Dn K "_law_pick" jP)
  (d25:Dn K "_law_of" YR)
  (d26:Dn K "_law_number" qE)
  (d27:Dn K "_law_thing" ja)
  (d28:Dn K "_law_model" jd)
  (d29:Dn K "_law_put" ZL)
  (d30:Dn K "_law_gone" jR)
  (d31:Dn K "_law_parts" jc)
  (d32:Dn K "_law_alike" je)
  (d33:Dn K "_law_right" jb)
  (d34:Dn K "_law_deed" jS)
  (a35:W.nsIn K mainGlobals "law" = some (some (.ref ae))) (l35:K.lookup ae=some ⟨ah,ag,.func (W.fnOf "law" "law" (kY WT) (vZ WT) (xr WT) .none aa ab Y ad J ac),af⟩) (c35:W.codeIn K J "law" = true) (k35:W.keepIn K (.ref ae)=true)
  (cn0:W.nsIn K mainGlobals "Part" = some (some (.ref C_Part)))
  (cn1:W.nsIn K mainGlobals "Kept" = some (some (.ref C_Kept)))
  (xh_pgP:W.plainGet K C_Part Str.empty=true)
  (xh_hdP:W.hasDictIn K C_Part=true)
  (xh_poP:W.plainOver K C_Part=true)
  (xh_saP:W.findIn K (.ref C_Part) "__setattr__" = some (some (.builtin "object.__setattr__")))
  (xh_mkPart:W.makesIn K C_Part=true)
  (xh_kcPart:W.keepIn K (.ref C_Part)=true)
  (xh_ptg:W.findIn K (.ref C_Part) "things" = some none)
  (xh_phd:W.findIn K (.ref C_Part) "held" = some none)
  (xh_ptr:W.findIn K (.ref C_Part) "tree" = some none)
  (xh_pgn:W.findIn K (.ref C_Part) "gone" = some none)
  (xh_pgK:W.plainGet K C_Kept Str.empty=true)
  (xh_hdK:W.hasDictIn K C_Kept=true)
  (xh_poK:W.plainOver K C_Kept=true)
  (xh_saK:W.findIn K (.ref C_Kept) "__setattr__" = some (some (.builtin "object.__setattr__")))
  (xh_mkKept:W.makesIn K C_Kept=true)
  (xh_kcKept:W.keepIn K (.ref C_Kept)=true)
  (xh_kd:W.findIn K (.ref C_Kept) "d" = some none)
  (xh_kb:W.findIn K (.ref C_Kept) "by_rank" = some none)
  (xh_kr:W.findIn K (.ref C_Kept) "rank_of" = some none)
  (xh_km:W.findIn K (.ref C_Kept) "so_many_made" = some none)
  (z0:W.nsIn K mainGlobals "len" = some none) (z1:W.nsIn K mainGlobals "abs" = some none) (z2:W.nsIn K mainGlobals "all" = some none) (z3:W.nsIn K mainGlobals "any" = some none) (z4:W.nsIn K mainGlobals "isinstance" = some none) (z5:W.nsIn K mainGlobals "int" = some none) (z6:W.nsIn K mainGlobals "bool" = some none) (z7:W.nsIn K mainGlobals "str" = some none) (z8:W.nsIn K mainGlobals "tuple" = some none) (z9:W.nsIn K mainGlobals "list" = some none) (z10:W.nsIn K mainGlobals "range" = some none) (z11:W.nsIn K mainGlobals "zip" = some none) (z12:W.nsIn K mainGlobals "enumerate" = some none) (z13:W.nsIn K mainGlobals "max" = some none) (z14:W.nsIn K mainGlobals "min" = some none) (z15:W.nsIn K mainGlobals "sorted" = some none) :
  ∃fd:FuncData,(∀(s:Shared) (v:Value),BindsTo s fd ⟨[v],[]⟩ [("_law_script",v)])/\∀base:Heap,K.In base->base.Ns mainGlobals mg->base.NoDigits->FnOk l.prog w K mg base CX0 20 fa fd ["_law_script"] (VG K):=by
 have e:=ai.symm.trans (W.mg_of X G a35);cases e;have T:Blt mg:=⟨W.mg_none_of X G z0,W.mg_none_of X G z1,W.mg_none_of X G z2,W.mg_none_of X G z3,W.mg_none_of X G z4,W.mg_none_of X G z5,W.mg_none_of X G z6,W.mg_none_of X G z7,W.mg_none_of X G z8,W.mg_none_of X G z9,W.mg_none_of X G z10,W.mg_none_of X G z11,W.mg_none_of X G z12,W.mg_none_of X G z13,W.mg_none_of X G z14,W.mg_none_of X G z15⟩;have CX_Part:=W.mg_of X G cn0;have CX_Kept:=W.mg_of X G cn1;have CL_Part:Cls K C_Part:=⟨xh_pgP,xh_hdP,xh_poP,xh_saP⟩;have CL_Kept:Cls K C_Kept:=⟨xh_pgK,xh_hdK,xh_poK,xh_saK⟩;have NA_things:NoAttr K C_Part "things" := xh_ptg;have NA_held:NoAttr K C_Part "held" := xh_phd;have NA_tree:NoAttr K C_Part "tree" := xh_ptr;have NA_gone:NoAttr K C_Part "gone" := xh_pgn;have NA_d:NoAttr K C_Kept "d" := xh_kd;have NA_by_rank:NoAttr K C_Kept "by_rank" := xh_kb;have NA_rank_of:NoAttr K C_Kept "rank_of" := xh_kr;have NA_so_many_made:NoAttr K C_Kept "so_many_made" := xh_km;have aj:=zn0 (st:=WT) l35 c35 k35;refine⟨W.fnOf "law" "law" (kY WT) (vZ WT) (xr WT) .none aa ab Y ad J ac,λs v=>.of_eq rfl,λbase _ _ ND=>?_⟩;have F_things_by_name:Fn l.prog w K mg base "things_by_name" 1 1 zG2:=d0.fn X G (ps:=q1) (λ_ _ _ _ _ _ us I=>zc3 I λ_=>rfl) λ_ _ U M N B=>xa9 T U;have F_names_by:Fn l.prog w K mg base "names_by" 1 2 ZE:=d1.fn X G (ps:=["things","i"]) (λ_ _ _ _ _ _ us I=>Js I λ_ _=>rfl) λ_ _ U M N B=>Kz T U;have F_names_in_order:Fn l.prog w K mg base "names_in_order" 2 3 ZF:=d2.fn X G (ps:=q5) (λ_ _ _ _ _ _ us I=>xi0 I λ_ _ _=>rfl) λ_ _ U M N B=>KA U F_names_by;have F_halved_up:Fn l.prog w K mg base "halved_up" 1 1 jJ:=d3.fn X G (ps:=["count"]) (λ_ _ _ _ _ _ us I=>zc3 I λ_=>rfl) λ_ _ U M N B=>Ug U;have F_bounds:Fn l.prog w K mg base "bounds" 1 1 YK:=d4.fn X G (ps:=["places"]) (λ_ _ _ _ _ _ us I=>zc3 I λ_=>rfl) λ_ _ U M N B=>QX T U;have F_bounds_of:Fn l.prog w K mg base "bounds_of" 2 2 jK:=d5.fn X G (ps:=q6) (λ_ _ _ _ _ _ us I=>Js I λ_ _=>rfl) λ_ _ U M N B=>Ui U F_bounds;have F_tree_of:Fn l.prog w K mg base "tree_of" 12 4 (VC 10):=d6.fn X G (ps:=q7) (λ_ _ _ _ _ _ us I=>xn4 I λ_ _ _ _=>rfl) λ_ _ U M N B=>zM4 T U M N B F_bounds_of F_names_in_order F_halved_up 10;have F_all_names:Fn l.prog w K mg base "all_names" 1 1 jL:=d7.fn X G (ps:=q1) (λ_ _ _ _ _ _ us I=>zc3 I λ_=>rfl) λ_ _ U M N B=>Uj T U;have F_turns:Fn l.prog w K mg base "turns" 13 1 Kf:=d8.fn X G (ps:=q1) (λ_ _ _ _ _ _ us I=>zc3 I λ_=>rfl) λ_ _ U M N B=>zw9 T U F_tree_of F_things_by_name F_all_names;have F_rank_for:Fn l.prog w K mg base "rank_for" 1 1 YH:=d9.fn X G (ps:=["many"]) (λ_ _ _ _ _ _ us I=>zc3 I λ_=>rfl) λ_ _ U M N B=>QV U;have MK_Part:MkeC l.prog w K mg base C_Part "Part" 14 2 (Ki C_Part):=d10.mke xh_mkPart xh_kcPart CX_Part (ps:=q8) (λ_ _ _ _ _ _ us I=>xi0 I λ_ _ _=>rfl) λ_ _ U=>zx5 T CL_Part NA_things NA_held NA_tree NA_gone U F_turns;have M_left:MthC l.prog w K mg base C_Part "left" 1 0 (YI C_Part):=d11.mth CL_Part (ps:=q0) (λ_ _ _ _ _ _ us I=>zc3 I λ_=>rfl) λ_ _ U=>zx4 T CL_Part NA_things NA_gone U;have MK_Kept:MkeC l.prog w K mg base C_Kept "Kept" 1 1 (Kl C_Kept):=d12.mke xh_mkKept xh_kcKept CX_Kept (ps:=["self","d"]) (λ_ _ _ _ _ _ us I=>Js I λ_ _=>rfl) λ_ _ U=>zx9 CL_Kept NA_d NA_by_rank NA_rank_of NA_so_many_made U;have M_put_in:MthC l.prog w K mg base C_Kept "put_in" 16 2 (WG C_Part C_Kept):=d13.mth CL_Kept (ps:=q9) (λ_ _ _ _ _ _ us I=>xi0 I λ_ _ _=>rfl) λ_ _ U=>zx3 T CL_Kept NA_d NA_by_rank NA_rank_of NA_so_many_made U M_left MK_Part;have M_make_anew:MthC l.prog w K mg base C_Kept "make_anew" 17 1 (ze0 C_Part C_Kept):=d14.mth CL_Kept (ps:=q3) (λ_ _ _ _ _ _ us I=>Js I λ_ _=>rfl) λ_ _ U=>zN2 T CL_Kept NA_by_rank U M_left M_put_in F_rank_for;have M_come:MthC l.prog w K mg base C_Kept "come" 17 1 (zd9 C_Part C_Kept):=d15.mth CL_Kept (ps:=["self","thing"]) (λ_ _ _ _ _ _ us I=>Js I λ_ _=>rfl) λ_ _ U=>zN1 CL_Kept NA_rank_of U M_put_in;have M_go:MthC l.prog w K mg base C_Kept "go" 18 1 (xi1 C_Part C_Kept):=d16.mth CL_Kept (ps:=["self","name"]) (λ_ _ _ _ _ _ us I=>Js I λ_ _=>rfl) λ_ _ U=>xy8 T CL_Kept CL_Part NA_things NA_gone NA_by_rank NA_rank_of U M_make_anew;have M_made:MthC l.prog w K mg base C_Kept "made" 1 0 (zd6 C_Part C_Kept):=d17.mth CL_Kept (ps:=q0) (λ_ _ _ _ _ _ us I=>zc3 I λ_=>rfl) λ_ _ U=>zM7 CL_Kept NA_so_many_made U;have M_told:MthC l.prog w K mg base C_Part "told" 1 1 (zd5 C_Part):=d18.mth CL_Part (ps:=q3) (λ_ _ _ _ _ _ us I=>Js I λ_ _=>rfl) λ_ _ U=>zM5 T CL_Part NA_things NA_gone U;have M_ranks:MthC l.prog w K mg base C_Kept "ranks" 1 0 (Kh C_Part C_Kept):=d19.mth CL_Kept (ps:=q0) (λ_ _ _ _ _ _ us I=>zc3 I λ_=>rfl) λ_ _ U=>zx2 T CL_Kept NA_by_rank U;have M_parts:MthC l.prog w K mg base C_Kept "parts" 2 0 (Kj C_Part C_Kept):=d20.mth CL_Kept (ps:=q0) (λ_ _ _ _ _ _ us I=>zc3 I λ_=>rfl) λ_ _ U=>zx6 T CL_Kept NA_by_rank U M_told M_ranks;have M_house:MthC l.prog w K mg base C_Kept "house" 2 0 (WK C_Part C_Kept):=d21.mth CL_Kept (ps:=q0) (λ_ _ _ _ _ _ us I=>zc3 I λ_=>rfl) λ_ _ U=>zi8 T CL_Kept NA_d NA_by_rank U M_left;have Y_cell_at:Fn l.prog w K mg base "_law_cell_at" 1 2 YJ:=d22.fn X G (ps:=q2) (λ_ _ _ _ _ _ us I=>Js I λ_ _=>rfl) λ_ _ U M N B=>QW T U;have Y_left:Fn l.prog w K mg base "_law_left" 2 2 zd7:=d23.fn X G (ps:=q2) (λ_ _ _ _ _ _ us I=>Js I λ_ _=>rfl) λ_ _ U M N B=>zM9 T ND U Y_cell_at;have Y_pick:Fn l.prog w K mg base "_law_pick" 1 2 Yi:=d24.fn X G (ps:=["_law_left_here","_law_many"]) (λ_ _ _ _ _ _ us I=>Js I λ_ _=>rfl) λ_ _ U M N B=>zM6 U;have Y_of:Fn l.prog w K mg base "_law_of" 2 2 zR7:=d25.fn X G (ps:=q10) (λ_ _ _ _ _ _ us I=>Js I λ_ _=>rfl) λ_ _ U M N B=>xy7 T U Y_pick;have Y_number:Fn l.prog w K mg base "_law_number" 3 2 WH:=d26.fn X G (ps:=["_law_left_here","_law_near"]) (λ_ _ _ _ _ _ us I=>Js I λ_ _=>rfl) λ_ _ U M N B=>zi6 U Y_pick Y_of;have Y_thing:Fn l.prog w K mg base "_law_thing" 4 4 Kg:=d27.fn X G (ps:=q11) (λ_ _ _ _ _ _ us I=>xn4 I λ_ _ _ _=>rfl) λ_ _ U M N B=>zx0 T U Y_pick Y_of Y_number
 have Y_model:Fn l.prog w K mg base "_law_model" 1 0 Kk:=d28.fn X G (ps:=[]) (λ_ _ _ _ _ _ us I=>match us,I with |[],_=>rfl) λ_ _ U M N B=>zx7 U
 have Y_put:Fn l.prog w K mg base "_law_put" 1 3 Jw:=d29.fn X G (ps:=q12) (λ_ _ _ _ _ _ us I=>xi0 I λ_ _ _=>rfl) λ_ _ U M N B=>zM8 T U;have Y_gone:Fn l.prog w K mg base "_law_gone" 2 2 WJ:=d30.fn X G (ps:=["_law_model_here","_law_name"]) (λ_ _ _ _ _ _ us I=>Js I λ_ _=>rfl) λ_ _ U M N B=>zx8 T U Y_put;have Y_parts:Fn l.prog w K mg base "_law_parts" 1 1 WI:=d31.fn X G (ps:=["_law_model_here"]) (λ_ _ _ _ _ _ us I=>zc3 I λ_=>rfl) λ_ _ U M N B=>zi7 T U;have Y_alike:Fn l.prog w K mg base "_law_alike" 8 2 (WL 8):=d32.fn X G (ps:=q4) (λ_ _ _ _ _ _ us I=>Js I λ_ _=>rfl) λ_ _ U M N B=>zy0 T U M N B 8;have Y_right:Fn l.prog w K mg base "_law_right" 9 4 (WF C_Part C_Kept):=d33.fn X G (ps:=q13) (λ_ _ _ _ _ _ us I=>xn4 I λ_ _ _ _=>rfl) λ_ _ U M N B=>zx1 T U M_parts M_house M_made Y_parts Y_alike;have Y_deed:Fn l.prog w K mg base "_law_deed" 19 6 (zd8 C_Part C_Kept):=d34.fn X G (ps:=q14) (λ_ _ _ _ _ _ us I=>xI9 I λ_ _ _ _ _ _=>rfl) λ_ _ U M N B=>zN0 T U M_come M_go Y_pick Y_of Y_thing Y_put Y_gone;exact xb0 T aj MK_Kept M_go Y_left Y_pick Y_of Y_model Y_gone Y_deed Y_right
def walk{l:W.OpenLaw}{q:Program}{loose:List Str}{XP:(Str->Option Value)->Heap->Prop}{YP:World->Heap->Prop}{d:DefRec}{K:Params->W.Frag}(hn:l.most=some 63)(B:d.params.defaults=[])
  (J:∀(w:World) (h:Heap),YP w h->(K w.params).In h)
  (F : ∀ (w : World) (mg : Str -> Option Value) (fa : Addr) (h : Heap), (K w.params).In h -> h.Ns mainGlobals mg -> mg d.name = some (.ref fa) ->
   ∃fd:FuncData,(∀(s:Shared) (u:Value),BindsTo s fd ⟨[u],[]⟩ [("_law_script",u)])/\∀base:Heap,(K w.params).In base->base.Ns mainGlobals mg->base.NoDigits->FnOk l.prog w (K w.params) mg base CX0 20 fa fd ["_law_script"] (VG (K w.params))) :
  W.WalkO q loose XP YP l.row.toRowW d [] (λf vs=>PySem.call f vs):=
 L2.zr8 (n:=63) (k:=20) (x := "_law_script") (CX:=λ_=>CX0) (sp:=λw=>VG (K w.params)) hn w6 B ⟨rfl,w6,w6,rfl⟩ J F (λ_ _ a ns I Y U=>⟨a,ns,rfl,Y,U,I,λ_=>rfl⟩) λ_ _ _ _ _ z=>z
end K53
open PySem PySem.W PyProof.Rows
set_option maxRecDepth 100000 in
set_option maxHeartbeats 0 in
theorem PySem.Challenge.cw_boxlayers_k53_parts_of_a_kept_house_holds : PySem.Challenge.rw_boxlayers_k53_parts_of_a_kept_house.Holds := by
 w_on; refine holds_law (by kernel_rfl) fun said => ?_; refine holds_open (q:=K53H.view) (loose:=[]) (N:=10000) (XP:=XL K53H.view []) (Xt:=λs=>xlAt K53H.view [] s && recOk (RowW.records (OpenRow.toRowW (OpenLaw.row PySem.Challenge.rw_boxlayers_k53_parts_of_a_kept_house))) s) (Yf:=Hook.obs K53H.hook) (Ya:=Hook.val K53H.hook) (YP:=Hook.says K53H.hook) K53H.left (Hook.of K53H.hook) (Hook.keeps K53H.hook) (λs e=>xl_of s (Bool.and_eq_true_iff.mp e).1) XL.keeps rfl rfl rfl (λs e=>recFacts_of (Bool.and_eq_true_iff.mp e).2) rfl (by first | assumption | decide +kernel) x0 ⟨rfl,rfl,rfl,rfl,rfl,x0⟩ ?_ ?_
 ·w_witness2
 k_fill
 refine K53.walk (l:=PySem.Challenge.rw_boxlayers_k53_parts_of_a_kept_house) rfl rfl (λw h Y=>PySem.W.kIn_of Y) ?F
 case F =>
  intro w mg fa h J G B;refine' K53.all_mk J G B ?d0 ?d1 ?d2 ?d3 ?d4 ?d5 ?d6 ?d7 ?d8 ?d9 ?d10 ?d11 ?d12 ?d13 ?d14 ?d15 ?d16 ?d17 ?d18 ?d19 ?d20 ?d21 ?d22 ?d23 ?d24 ?d25 ?d26 ?d27 ?d28 ?d29 ?d30 ?d31 ?d32 ?d33 ?d34 ?a35 ?l35 ?c35 ?k35 ?cn0 ?cn1 ?xh_pgP ?xh_hdP ?xh_poP ?xh_saP ?xh_mkPart ?xh_kcPart ?xh_ptg ?xh_phd ?xh_ptr ?xh_pgn ?xh_pgK ?xh_hdK ?xh_poK ?xh_saK ?xh_mkKept ?xh_kcKept ?xh_kd ?xh_kb ?xh_kr ?xh_km ?z0 ?z1 ?z2 ?z3 ?z4 ?z5 ?z6 ?z7 ?z8 ?z9 ?z10 ?z11 ?z12 ?z13 ?z14 ?z15
  (case a35=>k_is)
  (case l35=>k_is)
  (case c35=>k_is)
  (case k35=>k_is)
  (case cn0=>k_is)
  (case cn1=>k_is)
  (case xh_pgP=>(first | k_is | rfl | kernel_rfl))
  (case xh_hdP=>(first | k_is | rfl | kernel_rfl))
  (case xh_poP=>(first | k_is | rfl | kernel_rfl))
  (case xh_saP=>(first | k_is | rfl | kernel_rfl))
  (case xh_mkPart=>(first | k_is | rfl | kernel_rfl))
  (case xh_kcPart=>(first | k_is | rfl | kernel_rfl))
  (case xh_ptg=>(first | k_is | rfl | kernel_rfl))
  (case xh_phd=>(first | k_is | rfl | kernel_rfl))
  (case xh_ptr=>(first | k_is | rfl | kernel_rfl))
  (case xh_pgn=>(first | k_is | rfl | kernel_rfl))
  (case xh_pgK=>(first | k_is | rfl | kernel_rfl))
  (case xh_hdK=>(first | k_is | rfl | kernel_rfl))
  (case xh_poK=>(first | k_is | rfl | kernel_rfl))
  (case xh_saK=>(first | k_is | rfl | kernel_rfl))
  (case xh_mkKept=>(first | k_is | rfl | kernel_rfl))
  (case xh_kcKept=>(first | k_is | rfl | kernel_rfl))
  (case xh_kd=>(first | k_is | rfl | kernel_rfl))
  (case xh_kb=>(first | k_is | rfl | kernel_rfl))
  (case xh_kr=>(first | k_is | rfl | kernel_rfl))
  (case xh_km=>(first | k_is | rfl | kernel_rfl))
  (case z0=>k_is)
  (case z1=>k_is)
  (case z2=>k_is)
  (case z3=>k_is)
  (case z4=>k_is)
  (case z5=>k_is)
  (case z6=>k_is)
  (case z7=>k_is)
  (case z8=>k_is)
  (case z9=>k_is)
  (case z10=>k_is)
  (case z11=>k_is)
  (case z12=>k_is)
  (case z13=>k_is)
  (case z14=>k_is)
  (case z15=>k_is)
  all_goals first | (apply K53.dn;k_is;k_is;k_is;k_is) | (apply K53.dm;k_is;k_is;k_is;k_is;k_is)
end
#print axioms PySem.Challenge.cw_boxlayers_k53_parts_of_a_kept_house_holds
