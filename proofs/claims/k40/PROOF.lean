import PyProof.Rows.All
import Wide.All
import OpenK.AllK
import Wide.FinOn
import Lean
import PyProof.EqAt
import PyProof.EqKinds
import PyProof.TupleCall
import PyProof.CompFree
import PyProof.ZipIter
import PyProof.Cells
import PyProof.Rows.CellsFrame
import PyProof.EnumMake
import PyProof.TupleIter
import PyProof.IsiPairs
import PyProof.IsiSeqPairs
import PyProof.IsiNone
import PyProof.ConsumeWalk
import PyProof.DictCompW
import PyProof.NeKinds
import PyProof.MinMaxWalk
import PyProof.Rows.SortRev
import KE.KIsAll
import KE.KDictOf
import PyProof.AttrMissHeap
import PyProof.CallFns
import KE.KLam
import KE.KSortKey
import PyProof.MaxThree
import KE.KDictList
import PyProof.DictRoadsH
import PyProof.DictUpdate
import PyProof.DictWalks
import PySem.Challenge.RW_boxlayers_k40_drawn_by_keys
set_option Elab.async false
set_option linter.all false
namespace K40H
section
open PySem PySem.W PyProof.Rows
def top (i : Nat) : Stmt := PySem.Challenge.pw_boxlayers_k40_drawn_by_keys.main.body.getD i (.Pass ⟨0, 0, 0, 0⟩)
noncomputable def view:Program:={ PySem.Challenge.pw_boxlayers_k40_drawn_by_keys with main:={ PySem.Challenge.pw_boxlayers_k40_drawn_by_keys.main with body:=[top 1,top 2,top 3,top 4,top 5,top 6,top 7,top 8,top 9,top 10,top 11,top 12,top 14,top 16,top 17,top 18,top 19,top 20,top 22,top 23,top 24,top 25,top 26,top 27,top 28,top 29,top 30,top 31,top 32,top 33,top 34,top 35,top 36,top 37,top 38] } }
local macro_rules | `(tactic| o_head (kmHook $k $a $e $t)) => `(tactic| (assumption; exact ($a, $t)))
set_option maxRecDepth 100000 in
set_option maxHeartbeats 0 in
noncomputable def hk : List Addr × List Addr := by
  refine (fun (_ : (OpenLaw.row PySem.Challenge.rw_boxlayers_k40_drawn_by_keys).Holds → (OpenLaw.row PySem.Challenge.rw_boxlayers_k40_drawn_by_keys).Holds) => ?a) (fun h => ?b)
  rotate_left
  k_head
noncomputable abbrev hook : Hook := kmHook hk.heap_1 hk.1 (fun _ => by kernel_rfl) hk.2
theorem four {u v a1 a2 a3 a4 a5 : Type} {o : Option u} {g : u → Option v} {A : v → a1} {B1 : v → a2} {B2 : v → a3} {C : v → a4} {E : v → a5} {a : a1} {b1 : a2} {b2 : a3} {c : a4} {e : a5} (h1 : o.map (fun x => (g x).map A) = some (some a)) (h2 : o.map (fun x => (g x).map fun s => (B1 s, B2 s)) = some (some (b1, b2))) (h3 : o.map (fun x => (g x).map C) = some (some c)) (h4 : o.map (fun x => (g x).map E) = some (some e)) : o.map (fun x => (g x).map fun s => ((A s, B1 s, B2 s, C s), E s)) = some (some ((a, b1, b2, c), e)) := by
  cases o with
  | none => cases h1
  | some x =>
    have k1 : (g x).map A = some a := Option.some.inj h1
    have k2 : ((g x).map fun s => (B1 s, B2 s)) = some (b1, b2) := Option.some.inj h2
    have k3 : (g x).map C = some c := Option.some.inj h3
    have k4 : (g x).map E = some e := Option.some.inj h4
    show some ((g x).map _) = _
    cases hg : g x with
    | none => rw [hg] at k1; cases k1
    | some s =>
      rw [hg] at k1 k2 k3 k4
      have m1 : A s = a := Option.some.inj k1
      have m2 : (B1 s, B2 s) = (b1, b2) := Option.some.inj k2
      have m3 : C s = c := Option.some.inj k3
      have m4 : E s = e := Option.some.inj k4
      have m5 : B1 s = b1 := (Prod.mk.inj m2).1
      have m6 : B2 s = b2 := (Prod.mk.inj m2).2
      subst m1 m3 m4 m5 m6
      rfl
set_option maxRecDepth 100000 in
set_option maxHeartbeats 0 in
theorem headFa (w : World) : (fencedOpening treeTable (OpenLaw.row PySem.Challenge.rw_boxlayers_k40_drawn_by_keys).prog w 10000).map (fun a => (topFrom treeTable (OpenLaw.row PySem.Challenge.rw_boxlayers_k40_drawn_by_keys).prog (w.withFollow "special-get-raises" false) 10000 a).map (fun s => (openSeen view [] (importedModules (OpenLaw.row PySem.Challenge.rw_boxlayers_k40_drawn_by_keys).prog.main.body) (fun s => xlAt view [] s && recOk (RowW.records (OpenRow.toRowW (OpenLaw.row PySem.Challenge.rw_boxlayers_k40_drawn_by_keys))) s) true s).1)) = some (some ((openGood view []).1)) := by kernel_rfl
set_option maxRecDepth 100000 in
set_option maxHeartbeats 0 in
theorem headFb (w : World) : (fencedOpening treeTable (OpenLaw.row PySem.Challenge.rw_boxlayers_k40_drawn_by_keys).prog w 10000).map (fun a => (topFrom treeTable (OpenLaw.row PySem.Challenge.rw_boxlayers_k40_drawn_by_keys).prog (w.withFollow "special-get-raises" false) 10000 a).map (fun s => ((openSeen view [] (importedModules (OpenLaw.row PySem.Challenge.rw_boxlayers_k40_drawn_by_keys).prog.main.body) (fun s => xlAt view [] s && recOk (RowW.records (OpenRow.toRowW (OpenLaw.row PySem.Challenge.rw_boxlayers_k40_drawn_by_keys))) s) true s).2.1, (openSeen view [] (importedModules (OpenLaw.row PySem.Challenge.rw_boxlayers_k40_drawn_by_keys).prog.main.body) (fun s => xlAt view [] s && recOk (RowW.records (OpenRow.toRowW (OpenLaw.row PySem.Challenge.rw_boxlayers_k40_drawn_by_keys))) s) true s).2.2.1))) = some (some (((openGood view []).2.1, (openGood view []).2.2.1))) := by kernel_rfl
set_option maxRecDepth 100000 in
set_option maxHeartbeats 0 in
theorem headFc (w : World) : (fencedOpening treeTable (OpenLaw.row PySem.Challenge.rw_boxlayers_k40_drawn_by_keys).prog w 10000).map (fun a => (topFrom treeTable (OpenLaw.row PySem.Challenge.rw_boxlayers_k40_drawn_by_keys).prog (w.withFollow "special-get-raises" false) 10000 a).map (fun s => (openSeen view [] (importedModules (OpenLaw.row PySem.Challenge.rw_boxlayers_k40_drawn_by_keys).prog.main.body) (fun s => xlAt view [] s && recOk (RowW.records (OpenRow.toRowW (OpenLaw.row PySem.Challenge.rw_boxlayers_k40_drawn_by_keys))) s) true s).2.2.2)) = some (some ((openGood view []).2.2.2)) := by kernel_rfl
set_option maxRecDepth 100000 in
set_option maxHeartbeats 0 in
theorem headFd (w : World) : (fencedOpening treeTable (OpenLaw.row PySem.Challenge.rw_boxlayers_k40_drawn_by_keys).prog w 10000).map (fun a => (topFrom treeTable (OpenLaw.row PySem.Challenge.rw_boxlayers_k40_drawn_by_keys).prog (w.withFollow "special-get-raises" false) 10000 a).map (fun s => Hook.obs hook s)) = some (some (Hook.val hook (w.withFollow "special-get-raises" false))) := by kernel_rfl
theorem headF (w : World) : (fencedOpening treeTable (OpenLaw.row PySem.Challenge.rw_boxlayers_k40_drawn_by_keys).prog w 10000).map (fun a => (topFrom treeTable (OpenLaw.row PySem.Challenge.rw_boxlayers_k40_drawn_by_keys).prog (w.withFollow "special-get-raises" false) 10000 a).map (fun s => ((openSeen view [] (importedModules (OpenLaw.row PySem.Challenge.rw_boxlayers_k40_drawn_by_keys).prog.main.body) (fun s => xlAt view [] s && recOk (RowW.records (OpenRow.toRowW (OpenLaw.row PySem.Challenge.rw_boxlayers_k40_drawn_by_keys))) s) true s), Hook.obs hook s))) = some (some ((openGood view []), Hook.val hook (w.withFollow "special-get-raises" false))) := four (headFa w) (headFb w) (headFc w) (headFd w)
set_option maxRecDepth 100000 in
set_option maxHeartbeats 0 in
theorem headTa (w : World) : (fencedOpening treeTable (OpenLaw.row PySem.Challenge.rw_boxlayers_k40_drawn_by_keys).prog w 10000).map (fun a => (topFrom treeTable (OpenLaw.row PySem.Challenge.rw_boxlayers_k40_drawn_by_keys).prog (w.withFollow "special-get-raises" true) 10000 a).map (fun s => (openSeen view [] (importedModules (OpenLaw.row PySem.Challenge.rw_boxlayers_k40_drawn_by_keys).prog.main.body) (fun s => xlAt view [] s && recOk (RowW.records (OpenRow.toRowW (OpenLaw.row PySem.Challenge.rw_boxlayers_k40_drawn_by_keys))) s) true s).1)) = some (some ((openGood view []).1)) := by kernel_rfl
set_option maxRecDepth 100000 in
set_option maxHeartbeats 0 in
theorem headTb (w : World) : (fencedOpening treeTable (OpenLaw.row PySem.Challenge.rw_boxlayers_k40_drawn_by_keys).prog w 10000).map (fun a => (topFrom treeTable (OpenLaw.row PySem.Challenge.rw_boxlayers_k40_drawn_by_keys).prog (w.withFollow "special-get-raises" true) 10000 a).map (fun s => ((openSeen view [] (importedModules (OpenLaw.row PySem.Challenge.rw_boxlayers_k40_drawn_by_keys).prog.main.body) (fun s => xlAt view [] s && recOk (RowW.records (OpenRow.toRowW (OpenLaw.row PySem.Challenge.rw_boxlayers_k40_drawn_by_keys))) s) true s).2.1, (openSeen view [] (importedModules (OpenLaw.row PySem.Challenge.rw_boxlayers_k40_drawn_by_keys).prog.main.body) (fun s => xlAt view [] s && recOk (RowW.records (OpenRow.toRowW (OpenLaw.row PySem.Challenge.rw_boxlayers_k40_drawn_by_keys))) s) true s).2.2.1))) = some (some (((openGood view []).2.1, (openGood view []).2.2.1))) := by kernel_rfl
set_option maxRecDepth 100000 in
set_option maxHeartbeats 0 in
theorem headTc (w : World) : (fencedOpening treeTable (OpenLaw.row PySem.Challenge.rw_boxlayers_k40_drawn_by_keys).prog w 10000).map (fun a => (topFrom treeTable (OpenLaw.row PySem.Challenge.rw_boxlayers_k40_drawn_by_keys).prog (w.withFollow "special-get-raises" true) 10000 a).map (fun s => (openSeen view [] (importedModules (OpenLaw.row PySem.Challenge.rw_boxlayers_k40_drawn_by_keys).prog.main.body) (fun s => xlAt view [] s && recOk (RowW.records (OpenRow.toRowW (OpenLaw.row PySem.Challenge.rw_boxlayers_k40_drawn_by_keys))) s) true s).2.2.2)) = some (some ((openGood view []).2.2.2)) := by kernel_rfl
set_option maxRecDepth 100000 in
set_option maxHeartbeats 0 in
theorem headTd (w : World) : (fencedOpening treeTable (OpenLaw.row PySem.Challenge.rw_boxlayers_k40_drawn_by_keys).prog w 10000).map (fun a => (topFrom treeTable (OpenLaw.row PySem.Challenge.rw_boxlayers_k40_drawn_by_keys).prog (w.withFollow "special-get-raises" true) 10000 a).map (fun s => Hook.obs hook s)) = some (some (Hook.val hook (w.withFollow "special-get-raises" true))) := by kernel_rfl
theorem headT (w : World) : (fencedOpening treeTable (OpenLaw.row PySem.Challenge.rw_boxlayers_k40_drawn_by_keys).prog w 10000).map (fun a => (topFrom treeTable (OpenLaw.row PySem.Challenge.rw_boxlayers_k40_drawn_by_keys).prog (w.withFollow "special-get-raises" true) 10000 a).map (fun s => ((openSeen view [] (importedModules (OpenLaw.row PySem.Challenge.rw_boxlayers_k40_drawn_by_keys).prog.main.body) (fun s => xlAt view [] s && recOk (RowW.records (OpenRow.toRowW (OpenLaw.row PySem.Challenge.rw_boxlayers_k40_drawn_by_keys))) s) true s), Hook.obs hook s))) = some (some ((openGood view []), Hook.val hook (w.withFollow "special-get-raises" true))) := four (headTa w) (headTb w) (headTc w) (headTd w)
theorem two_map {u v : Type} {o : Option u} {A B : u → v} {a b : v} (h1 : o.map A = some a) (h2 : o.map B = some b) : o.map (fun s => (A s, B s)) = some (a, b) := by
  cases o with
  | none => cases h1
  | some s => exact congrArg some (congr (congrArg Prod.mk (Option.some.inj h1)) (Option.some.inj h2))
theorem left : LeftO (OpenLaw.row PySem.Challenge.rw_boxlayers_k40_drawn_by_keys).prog view [] (fun s => xlAt view [] s && recOk (RowW.records (OpenRow.toRowW (OpenLaw.row PySem.Challenge.rw_boxlayers_k40_drawn_by_keys))) s) (Hook.obs hook) (Hook.val hook) 10000 := LeftO.of_split "special-get-raises" fun w => @two_map _ _ _ _ _ _ _ (headF w) (headT w)
end
end K40H
open PySem PySem.Spec PyProof.Rows
open List (set_comm of_mem_zip replicate length_nil length_drop map_nil all_cons forIn_nil forIn_cons zipIdx_cons take_left' sum_cons nodup_nil length_range length_zip map_take)
noncomputable section
set_option Elab.async false
set_option linter.all false
set_option maxRecDepth 100000
section
def xU:=@Array.getElem?_eq_getElem
def wD:=@Array.getElem?_eq_none
def yi:=@Array.getElem?_map
def yh:=@Array.getElem?_toList
def xQ:=@Array.length_toList
def yQ:=@Array.size_range
def yv:=@Array.toArray_toList
def zD:=@Bool.and_eq_true
def wf:=@Bool.eq_iff_iff
def zV:=@Bool.false_eq_true
def zI:=@Bool.false_ne_true
def ze:=@Heap.get?_push_of_some
def zp:=@Heap.get?_push_size
def wl:=@Heap.get?_update_other
def xO:=@Heap.get?_update_self
def zo:=@Heap.lt_size
def xW:=@Heap.size_push
def wR:=@Int.emod_lt_of_pos
def wv:=@Int.emod_nonneg
def xE:=@Int.eq_ofNat_of_zero_le
def yV:=@Int.le_refl
def yA:=@Int.toNat_natCast
def wQ:=@List.all_eq_true
def yC:=@List.any_cons
def yP:=@List.any_eq_true
def yz:=@List.append_assoc
def wM:=@List.append_nil
def yu:=@List.drop_left'
def yO:=@List.filterMap_cons
def yg:=@List.filterMap_map
def yX:=@List.filter_append
def xm:=@List.filter_cons_of_neg
def xh:=@List.filter_cons_of_pos
def yN:=@List.filter_sublist
def wu:=@List.find?_cons
def wa:=@List.flatMap_cons
def yx:=@List.flatten_cons
def zK:=@List.getD_eq_getElem?_getD
def xv:=@List.getElem?_append_left
def xi:=@List.getElem?_append_right
def yf:=@List.getElem?_drop
def zf:=@List.getElem?_eq_getElem
def zq:=@List.getElem?_eq_some_iff
def zA:=@List.getElem?_map
def yM:=@List.getElem?_range
def xg:=@List.getElem?_replicate
def zY:=@List.getElem?_set_ne
def zQ:=@List.getElem?_set_self
def wz:=@List.getElem_mem
def zB:=@List.length_append
def zG:=@List.length_cons
def zX:=@List.length_eq_zero_iff
def wN:=@List.length_filter_le
def zg:=@List.length_map
def xu:=@List.length_replicate
def yc:=@List.length_take
def wn:=@List.length_zipWith
def zT:=@List.lookup_cons
def al_List_lookup_cons_self:=@List.lookup_cons_self
def zU:=@List.map_append
def yL:=@List.map_congr_left
def zJ:=@List.map_cons
def zR:=@List.map_map
def yH:=@List.map_zip_eq_zipWith
def xf:=@List.mem_append
def xk:=@List.mem_append_left
def zr:=@List.mem_append_right
def zj:=@List.mem_cons
def zk:=@List.mem_cons_of_mem
def zP:=@List.mem_cons_self
def zx:=@List.mem_filter
def zi:=@List.mem_map
def zN:=@List.mem_of_getElem?
def ye:=@List.mem_range
def zM:=@List.mem_singleton
def we:=@List.nil_append
def wG:=@List.nodup_append
def xz:=@List.nodup_cons
def wc:=@List.nodup_iff_pairwise_ne
def zS:=@List.not_mem_nil
def xC:=@List.pairwise_cons
def wL:=@List.pairwise_iff_getElem
def xI:=@List.pairwise_map
def wH:=@List.replicate_succ
def zt:=@List.size_toArray
def wK:=@List.sublist_append_right
def xG:=@List.take_add_one
def wy:=@List.take_length
def yU:=@List.take_of_length_le
def vc:=@List.take_sublist
def xM:=@List.zipWith_cons_cons
def wP:=@List.zip_cons_cons
def yt:=@Nat.le_of_lt
def wZ:=@Nat.le_of_not_lt
def zn:=@Nat.le_refl
def xq:=@Nat.le_succ
def zy:=@Nat.le_trans
def xl:=@Nat.lt_irrefl
def zL:=@Nat.lt_of_lt_of_le
def xT:=@Nat.lt_succ_of_lt
def yr:=@Nat.mod_lt
def xN:=@Nat.ne_of_gt
def zw:=@Nat.ne_of_lt
def xJ:=@Nat.zero_le
def zF:=@Option.some.inj
def zW:=@decide_eq_false
def xt:=@decide_eq_true
def wF:=@decide_eq_true_eq
def zb:=@wpAny_bind
def xD:=@wpAny_callSpecial?_slot
def wj:=@wpAny_call_entry
def yq:=@wpAny_comprehension_free
def xS:=@wpAny_dictEntries
def wg:=@wpAny_field
def xx:=@wpAny_holding
def yl:=@wpAny_letGo
def wx:=@wpAny_mono
def xp:=@wpAny_newObj_type
def yp:=@wpAny_passesOwn
def zd:=@wpAny_pure
def yw:=@wpAny_pyIter_list
def yo:=@wpAny_rule
def wq:=@wpAny_seqItems
def yd:=@wpAny_setField_rec
def va:=@wpAny_standAt
def wE:=@wpAny_truthy_bool
def wO:=@wpAny_typeNameOfWhole_keyiter
def yn:=@wpAny_typeNameOf_keyiter
def xy:=@wpS_bind
def wo:=@wpS_pure
end
def w5 {p:Prop}(h:p:=by lia):p:=h
def w6 {p:Prop}(h:p:=by decide):p:=h
def x6 {p:Prop}(h:p:=by decide +kernel):p:=h
local macro_rules|`(tactic|exists $t)=>`(tactic|with_unfolding_all exact $t)
namespace L2
abbrev Key:=Sum Int Str
def zb2:Key->Value->Bool
 |.inl k,v=>Value.isInt k v
 |.inr x,v=>Value.isStrOf x v
def xM4(w:World):Key->Int
 |.inl k=>hashInt k
 |.inr x=>hashStr w x
theorem vq:∀{k:Key}{v:Value},zb2 k v=true->(∃i t,k=Sum.inl i/\v=Value.int i t)\/(∃x t,k=Sum.inr x/\v=Value.str x t)
 |.inl i,v,h=>by
  obtain⟨t,e⟩:=Value.isInt_shape (k:=i) (v:=v) h;exact .inl ⟨i,t,rfl,e⟩
 |.inr x,v,h=>by
  obtain⟨t,e⟩:=Value.isStrOf_shape (x:=x) (v:=v) h;exact .inr ⟨x,t,rfl,e⟩
def zn0(i:Int)(t:Tok):zb2 (.inl i) (.int i t)=true:=by simp[zb2,Value.isInt]
def zm9(x:Str)(t:Tok):zb2 (.inr x) (.str x t)=true:=by simp[zb2,Value.isStrOf]
def xc2(a b:Int):decide ((Sum.inl a:Key)=Sum.inl b)=(a == b):=by
 by_cases e:a=b
 ·subst e;simp
 ·have h:¬ (Sum.inl a:Key)=Sum.inl b:=λq=>e (Sum.inl.inj q);rw[zW h];exact(beq_eq_false_iff_ne.mpr e).symm
def xb9(a b:Str):decide ((Sum.inr a:Key)=Sum.inr b)=decide (a=b):=by
 by_cases e:a=b
 ·subst e;simp
 ·have h:¬ (Sum.inr a:Key)=Sum.inr b:=λq=>e (Sum.inr.inj q);rw[zW h,zW e]
def xc1(a:Int)(b:Str):decide ((Sum.inl a:Key)=Sum.inr b)=false:=zW (λq=>nomatch q)
def xc0(a:Str)(b:Int):decide ((Sum.inr a:Key)=Sum.inl b)=false:=zW (λq=>nomatch q)
def yk(prog:Program)(w:World):PySem.KeyKind prog w Key where
 is:=zb2
 hash:=xM4 w
 inj:=λv a b ha hb=>by
  rcases vq ha with ⟨i,t,rfl,rfl⟩ |⟨x,t,rfl,rfl⟩
  ·rcases vq hb with ⟨j, u, rfl, e⟩ | ⟨y, u, rfl, e⟩
   ·injection e with e1 _;rw[e1]
   ·exact nomatch e
  ·rcases vq hb with ⟨j, u, rfl, e⟩ | ⟨y, u, rfl, e⟩
   ·exact nomatch e
   ·injection e with e1 _;rw[e1]
 byValue:=λk v h=>by
  rcases vq h with ⟨i,t,rfl,rfl⟩ |⟨x,t,rfl,rfl⟩<;>rfl
 pyHash:=λhv h=>by
  rcases vq hv with ⟨i,t,rfl,rfl⟩ |⟨x,t,rfl,rfl⟩
  ·exact wpAny_pyHash_int h
  ·exact wpAny_pyHash_str h
 eqBool:=λhu hv h=>by
  rcases vq hu with ⟨i,t,rfl,rfl⟩ |⟨x,t,rfl,rfl⟩
  ·rcases vq hv with ⟨j, u, rfl, rfl⟩ | ⟨y, u, rfl, rfl⟩
   ·rw[xc2] at h;exact wpAny_eqBool_int h
   ·rw[xc1] at h;exact SeqAt.EqAt.int_str i t y u _ _ _ _ h
  ·rcases vq hv with ⟨j, u, rfl, rfl⟩ | ⟨y, u, rfl, rfl⟩
   ·rw[xc0] at h;exact SeqAt.EqAt.str_int x t j u _ _ _ _ h
   ·rw[xb9] at h;exact wpAny_eqBool_str h
 «strs»:=λk x t v h=>by
  rcases vq h with ⟨i,u,rfl,e⟩ |⟨y,u,rfl,e⟩
  ·exact nomatch e
  ·injection e with e1 _;subst e1
   cases v<;>rfl
def Jh(prog:Program)(w:World)(i:Int)(t:Tok):(yk prog w).is (.inl i) (.int i t)=true:=zn0 i t
def Jg(prog:Program)(w:World)(x:Str)(t:Tok):(yk prog w).is (.inr x) (.str x t)=true:=zm9 x t
inductive V where
 |non |bl (b:Bool) |int (i:Int) |str (x:Str) |byt (b:Array UInt8) |flt (b:UInt64) |ref (a:Addr) |ty (n:String)
 deriving DecidableEq
def RelV:V->Value->Prop
 |.non,u=>u=Value.none
 |.bl b,u=>u=Value.bool b
 |.int i,u=>∃t,u=Value.int i t
 |.str x,u=>∃t,u=Value.str x t
 |.byt b,u=>∃t,u=Value.bytes b t
 |.flt b,u=>∃t,u=Value.float b t
 |.ref a,u=>u=Value.ref a
 |.ty n,u=>u=Value.type n
abbrev Vals:List V->List Value->Prop:=Paired RelV
def Vals.length{xs:List V}{us:List Value}(r:Vals xs us):xs.length=us.length:=Paired.length r
theorem Vals.get:∀{xs:List V}{us:List Value}{i:Nat}{x:V},Vals xs us->xs[i]?=some x->∃u,us[i]?=some u/\RelV x u
 |_,_,_,_,.nil,e=>by simp at e
 |_,_,0,_,.cons r _,e=>by simp at e;subst e;exact⟨_,rfl,r⟩
 |_,_,i+1,x,.cons _ t,e=>by
  obtain⟨u,h1,h2⟩:=Vals.get (i:=i) (x:=x) t (by simpa using e)
  exact⟨u,by simpa using h1,h2⟩
theorem Vals.set{x:V}{u:Value}(r:RelV x u):∀{xs:List V}{us:List Value} (i:Nat),Vals xs us->Vals (xs.set i x) (us.set i u)
 |_,_,_,.nil=>.nil
 |_,_,0,.cons _ t=>.cons r t
 |_,_,i+1,.cons q t=>.cons q (Vals.set r i t)
theorem Vals.append:∀{xs ys:List V}{us ws:List Value},Vals xs us->Vals ys ws->Vals (xs++ys) (us++ws)
 |_,_,_,_,.nil,s=>s
 |_,_,_,_,.cons r t,s=>.cons r (Vals.append t s)
theorem Vals.take:∀{xs:List V}{us:List Value} (n:Nat),Vals xs us->Vals (xs.take n) (us.take n)
 |_,_,0,_=>.nil
 |_,_,_+1,.nil=>.nil
 |_,_,n+1,.cons r t=>.cons r (Vals.take n t)
theorem Vals.drop:∀{xs:List V}{us:List Value} (n:Nat),Vals xs us->Vals (xs.drop n) (us.drop n)
 |_,_,0,r=>r
 |_,_,_+1,.nil=>.nil
 |_,_,n+1,.cons _ t=>Vals.drop n t
def RelO:Option V->Option Value->Prop
 |some v,some u=>RelV v u
 |none,none=>True
 |_,_=>False
def KV{κ:Type}:List (κ × V)->List (κ × Value)->Prop:=Paired fun(p:κ × V) (q:κ × Value)=>p.1=q.1/\RelV p.2 q.2
def kV:Key->V
 |.inl i=>.int i
 |.inr x=>.str x
inductive HO where
 /-- a list -/
 |lst (xs:List V)
 /-- a tuple (never changes) -/
 |tup (xs:List V)
 /-- a dict whose keys are ints and texts; one whose keys are tuples of ints and texts (the empty one is both) -/
 |dK (kvs:List (Key × V)) |dT (kvs:List (List Key × V))
 /-- a set of ints: its members, its size -/
 |set (S:Int->Bool) (n:Nat)
 /-- an instance of the class at C, its dict at dx, its attributes -/
 |ins (C dx:Addr) (fs:List (Str × V))
 /-- the dict of the instance at x -/
 |own (x:Addr)
 /-- the dict of an exception -/
 |xd (fs:List (Str × V))
 /-- a bound method, f of x -/
 |met (f x:Addr)
 /-- a range object lo, lo + 1, .. below hi -/
 |rng (lo hi:Int)
 /-- a thing that is known to the object (the script; a dict while a loop walks it): read, never written while it is so -/
 |frz (o:Obj) (u:HO)
 /-- a code object's table -/
 |tbl (ps:Array Value)
 /-- a code object's table: the code objects in it are known and stay -/
 |cot (q:Str)
 /-- any other thing, by what is true of its one object (a def of one's own: SetO a S n := HO.ext λh => ..) -/
 |ext (φ:Heap->Prop)
abbrev Hp:=Addr->Option HO
def upd(H:Hp)(a:Addr)(o:HO):Hp:=λb=>if b=a then some o else H b
def wU{H:Hp}{a:Addr}{o:HO}:upd H a o a=some o:=by unfold upd;rw[if_pos rfl]
def xX{H:Hp}{a b:Addr}{o:HO}(h:b≠a):upd H a o b=H b:=by unfold upd;rw[if_neg h]
def wW{H:Hp}{a b:Addr}{o:HO}(h:H a=some o)(h':H b=none):a≠b:=by
 intro e;subst e;rw[h] at h';cases h'
def xg7(oc:Obj)(q:Str):Prop:=∃vs t,oc.data=.fields vs/\vs[1]?=some (.str q t)
inductive TabG(φ:Addr->Prop):List Value->Prop where
 |nil:TabG φ []
 |cons {i j:Int}{t u:Tok}{c:Addr}{r:List Value} (h:φ c) (g:TabG φ r):TabG φ (.int i t::.int j u::.ref c::r)
def TabG.imp{φ ψ:Addr->Prop}(f:∀c,φ c->ψ c){l:List Value}(g:TabG φ l):TabG ψ l:=by
 induction g with
 |nil=>exact .nil
 |cons h _ ih=>exact .cons (f _ h) ih
section
variable (P:Program) (w:World)
def ObjOk(H:Hp)(h:Heap)(a:Addr):HO->Prop
 |.lst xs=>xs.length<=sizeLine/\∃(its:List Value) (n:Nat),Vals xs its/\h.get? a=some { cls:=.type "list",data:=.seq its.toArray n }
 |.tup xs=>xs.length<=sizeLine/\∃its:List Value,Vals xs its/\IsTup h a its.toArray
 |.dK kvs=>kvs.length<=sizeLine/\(a == sysModules)=false/\∃vs,KV kvs vs/\h.DictOf (yk P w) a vs
 | .dT kvs => kvs.length <= sizeLine /\ (a == sysModules) = false /\ ∃ xs : List (List Key × Addr × Value),
   Paired (fun(p:List Key × V) (q:List Key × Addr × Value)=>p.1=q.1/\H q.2.1=some (.tup (p.1.map kV))/\RelV p.2 q.2.2) kvs xs /\
   ∃o es ep,h.get? a=some o/\o.ExactDict/\o.data=.dict es ep/\es.toList=xs.map (entryOfKey (tupleKind (yk P w)))/\(xs.map (·.1)).Nodup
 |.set S n=>h.SetOf (intKind P w) a S n
 | .ins C dx fs => H dx = some (.own a) /\ fs.length <= 1000 /\ dx ≠ a /\ h.get? a = some (W.instObj C dx) /\
   ∃mA,h.Ns1 dx mA/\(∀f,RelO (fs.lookup f) (mA f))/\PySem.Within mA (fs.map (·.1))
 |.own _=>∃o,h.get? a=some o
 |.xd fs=>∃mA,h.Ns1 a mA/\∀f,RelO (fs.lookup f) (mA f)
 |.rng lo hi=>∃t u v,h.get? a=some { cls:=.type "range",data:=.fields #[.int lo t,.int hi u,.int 1 v] }
 |.frz o u=>h.get? a=some o/\ObjOk H h a u
 |.tbl ps=>h.get? a=some { cls:=.none,data:=.fields ps }
 |.cot q=>∃ps:Array Value,h.get? a=some { cls:=.none,data:=.fields ps }/\TabG (λc=>∃oc,H c=some (.frz oc (.own 0))/\xg7 oc q) ps.toList
 |.met f x=>h.get? a=some (W.methodObj (.ref f) (.ref x))
 |.ext φ=>φ h/\(∃o,h.get? a=some o)/\∀h1 h2:Heap,φ h1->(∀o,h1.get? a=some o->h2.get? a=some o)->φ h2
def HOk(H:Hp)(h:Heap):Prop:=∀a o,H a=some o->ObjOk P w H h a o
end
section
variable {P:Program}{w:World}{H H':Hp}{h h':Heap}{a:Addr}{o:HO}
def ObjOk.lt(x:ObjOk P w H h a o):a<h.objs.size:=by
 cases o with
 |lst xs=>obtain⟨_,_,_,_,e⟩:=x;exact zo e
 |tup xs=>obtain⟨_,_,_,p⟩:=x;exact p.lt
 |dK kvs=>obtain⟨_,_,_,_,o,_,_,e,_⟩:=x;exact zo e
 |dT kvs=>obtain⟨_,_,_,_,o,_,_,e,_⟩:=x;exact zo e
 |set S n=>obtain⟨o,_,_,_,e,_⟩:=x;exact zo e
 |ins C dx fs=>obtain⟨_,_,_,e,_⟩:=x;exact zo e
 |own y=>obtain⟨_,e⟩:=x;exact zo e
 |xd fs=>obtain⟨_,⟨_,_,_,e,_⟩,_⟩:=x;exact zo e
 |rng lo hi=>obtain⟨_,_,_,e⟩:=x;exact zo e
 |frz ob u=>obtain⟨e,_⟩:=x;exact zo e
 |tbl ps=>exact zo (show h.get? a=some _ from x)
 |cot q=>obtain⟨ps,e,_⟩:=x;exact zo e
 |met f y=>exact zo (show h.get? a=some _ from x)
 |ext φ=>obtain⟨_,⟨_,e⟩,_⟩:=x;exact zo e
theorem Paired.mapP{α β:Type}{F G:α->β->Prop}:∀{l₁:List α}{l₂:List β},Paired F l₁ l₂->(∀a b,F a b->G a b)->Paired G l₁ l₂
 |_,_,.nil,_=>.nil
 |_,_,.cons r t,f=>.cons (f _ _ r) (Paired.mapP t f)
def ObjOk.stay(x:ObjOk P w H h a o)(k:∀b u,(b=a\/H b=some (.own a))->h.get? b=some u->h'.get? b=some u)
  (ho:∀b,H b=some (.own a)->H' b=some (.own a)) (ht:∀b xs,H b=some (.tup xs)->H' b=some (.tup xs)) (hz:∀b o u,H b=some (.frz o u)->H' b=some (.frz o u)):ObjOk P w H' h' a o:=by
 induction o with
 |lst xs=>obtain⟨z,its,n,r,e⟩:=x;exact⟨z,its,n,r,k _ _ (.inl rfl) e⟩
 |tup xs=>obtain⟨z,its,r,ob,e,c⟩:=x;exact⟨z,its,r,ob,k _ _ (.inl rfl) e,c⟩
 |dK kvs=>obtain⟨z,y,vs,r,ob,es,ep,e,c⟩:=x;exact⟨z,y,vs,r,ob,es,ep,k _ _ (.inl rfl) e,c⟩
 |dT kvs=>
  obtain⟨z,y,xs,r,ob,es,ep,e,c⟩:=x;exact⟨z,y,xs,Paired.mapP r λp q z=>⟨z.1,ht _ _ z.2.1,z.2.2⟩,ob,es,ep,k _ _ (.inl rfl) e,c⟩
 |set S n=>obtain⟨ob,es,ep,t,e,c⟩:=x;exact⟨ob,es,ep,t,k _ _ (.inl rfl) e,c⟩
 |ins C dx fs=>
  obtain⟨d,z,ne,e,mA,⟨od,es,ep,e2,c⟩,r⟩:=x;exact⟨ho _ d,z,ne,k _ _ (.inl rfl) e,mA,⟨od,es,ep,k _ _ (.inr d) e2,c⟩,r⟩
 |own y=>obtain⟨ob,e⟩:=x;exact⟨ob,k _ _ (.inl rfl) e⟩
 |xd fs=>obtain⟨mA,⟨od,es,ep,e,c⟩,r⟩:=x;exact⟨mA,⟨od,es,ep,k _ _ (.inl rfl) e,c⟩,r⟩
 |rng lo hi=>obtain⟨t,u,v,e⟩:=x;exact⟨t,u,v,k _ _ (.inl rfl) e⟩
 |frz ob u ih=>obtain⟨e,q⟩:=x;exact⟨k _ _ (.inl rfl) e,ih q⟩
 |cot q=>obtain⟨ps,e,g⟩:=x;exact⟨ps,k _ _ (.inl rfl) e,g.imp λc ⟨oc,z,i⟩=>⟨oc,hz _ _ _ z,i⟩⟩
 |tbl ps=>
  have e:h.get? a=some { cls:=.none,data:=.fields ps }:=x;show h'.get? a=some { cls:=.none,data:=.fields ps };exact k a _ (.inl rfl) e
 |met f y=>
  have e:h.get? a=some (W.methodObj (.ref f) (.ref y)):=x;show h'.get? a=some (W.methodObj (.ref f) (.ref y));exact k a _ (.inl rfl) e
 |ext φ=>obtain⟨p,⟨o,e⟩,st⟩:=x;exact⟨st _ _ p λo q=>k _ _ (.inl rfl) q,⟨o,k _ _ (.inl rfl) e⟩,st⟩
def HOk.lt(x:HOk P w H h)(e:H a=some o):a<h.objs.size:=(x a o e).lt
def HOk.fresh(x:HOk P w H h)(e:h.objs.size<=a):H a=none:=by
 cases q:H a with
 |none=>rfl
 |some u=>exact absurd (zL (x.lt q) e) (xl _)
def HOk.kept(x:HOk P w H h)(k:∀b u,h.get? b=some u->h'.get? b=some u):HOk P w H h':=λa o e=>
 (x a o e).stay (λb u _ q=>k b u q) (λ_ q=>q) (λ_ _ q=>q) λ_ _ _ q=>q
def HOk.laid(x:HOk P w H h)(k:∀b u,h.get? b=some u->h'.get? b=some u)(hp:h.objs.size<=a)(new:ObjOk P w (upd H a o) h' a o):HOk P w (upd H a o) h':=λb u e=>by
 have hn:=x.fresh hp
 by_cases hb:b=a
 ·subst hb;rw[wU] at e;cases e;exact new
 ·rw [xX hb] at e
  exact(x b u e).stay (λc v _ q=>k c v q) (λc q=>by rw[xX (wW q hn)];exact q) (λc xs q=>by rw[xX (wW q hn)];exact q) λc o u q=>by rw[xX (wW q hn)];exact q
end
def Rd(H:Hp)(a:Addr)(u:HO):Prop:=H a=some u\/∃o,H a=some (.frz o u)
def Rd.ok{P:Program}{w:World}{H:Hp}{h:Heap}{a:Addr}{u:HO}(r:Rd H a u)(x:HOk P w H h):ObjOk P w H h a u:=by
 rcases r with r |⟨o,r⟩
 ·exact x a u r
 ·obtain⟨_,q⟩:=x a _ r;exact q
def Mut:Option HO->Prop
 |some (.lst _)=>True
 |some (.dK _)=>True
 |some (.dT _)=>True
 |some (.set _ _)=>True
 |some (.ins _ _ _)=>True
 |some (.ext _)=>True
 |_=>False
section
variable {P:Program}{w:World}{H:Hp}{h h':Heap}{x e:Addr}{o':HO}
def HOk.write(ok:HOk P w H h)(mu:Mut (H x))(he:e=x\/H e=some (.own x))(k:∀b u,b≠e->h.get? b=some u->h'.get? b=some u)(heo:∃u,h'.get? e=some u)
  (new:ObjOk P w (upd H x o') h' x o'):HOk P w (upd H x o') h':=λb u q=>by
 have nown:∀c y,H c=some (.own y)->c≠x:=λc y r z=>by subst z;rw[r] at mu;exact mu
 have ntup:∀c xs,H c=some (.tup xs)->c≠x:=λc xs r z=>by subst z;rw[r] at mu;exact mu
 by_cases hb:b=x
 ·subst hb;rw[wU] at q;cases q;exact new
 ·rw [xX hb] at q
  by_cases hbe:b=e
  ·have q' : H b = some (.own x) := by
    rcases he with z |z
    ·exact absurd (hbe.trans z) hb
    ·rw[hbe];exact z
   rw[q] at q';cases q';obtain⟨v,hv⟩:=heo
   exact⟨v,by rw[hbe];exact hv⟩
  ·refine (ok b u q).stay (λc v hc r => k c v ?_ r) (λc r => by rw [xX (nown c b r)]; exact r) (λc xs r => by rw [xX (ntup c xs r)]; exact r) λc o u r => by rw [xX (λz => by rw [<- z, r] at mu; exact mu)]; exact r
   rcases hc with rfl |hc
   ·exact hbe
   ·rintro rfl
    rcases he with z |z
    ·exact nown c b hc z
    ·rw[hc] at z;cases z;exact hb rfl
end
structure Un(fs ex:List Addr)(H H':Hp)(h h':Heap):Prop where
 keep:∀b o,h.get? b=some o->H b=none->b ∉ fs->b ∉ ex->h'.get? b=some o
 slot:∀b o,h.get? b=some o->H b=none->b∈fs->b ∉ ex->∃sl,h'.get? b=some { o with slots:=sl }
 free:∀b o,h.get? b=some o->H b=none->b ∉ ex->H' b=none
 there:∀b o,h.get? b=some o->b ∉ ex->∃o',h'.get? b=some o'
 tups:∀b xs,H b=some (.tup xs)->H' b=some (.tup xs)
 frzs:∀b o u,H b=some (.frz o u)->H' b=some (.frz o u)
 tbls:∀b ps,H b=some (.tbl ps)->∃more,H' b=some (.tbl (ps++more))
section
variable {fs fs' ex ex':List Addr}{H H1 H2:Hp}{h h1 h2 h':Heap}{a x e:Addr}{o:HO}
def Un.any(u:Un fs ex H H1 h h1){b:Addr}{ob:Obj}(q:h.get? b=some ob)(n:H b=none)(hx:b ∉ ex):∃sl,h1.get? b=some { ob with slots:=sl }:=by
 by_cases hb:b∈fs
 ·exact u.slot b ob q n hb hx
 ·exact⟨ob.slots,u.keep b ob q n hb hx⟩
def Un.kept(k:∀b u,h.get? b=some u->h'.get? b=some u):Un fs ex H H h h':=
 ⟨λb ob q _ _ _=>k b ob q,λb ob q _ _ _=>⟨ob.slots,k b ob q⟩,λ_ _ _ n _=>n,λb ob q _=>⟨ob,k b ob q⟩,λ_ _ q=>q,λ_ _ _ q=>q,λ_ ps q=>⟨#[],by rw[q];simp⟩⟩
def Un.refl:Un fs ex H H h h:=Un.kept λ_ _ q=>q
def Un.laid(k:∀b u,h.get? b=some u->h'.get? b=some u)(hp:h.objs.size<=a)(hn:H a=none):Un fs ex H (upd H a o) h h' where
 keep:=λb u q _ _ _=>k b u q
 slot:=λb u q _ _ _=>⟨u.slots,k b u q⟩
 free:=λb u q n _=>by rw[xX (zw (zL (zo q) hp))];exact n
 there:=λb u q _=>⟨u,k b u q⟩
 tups:=λb xs q=>by rw[xX (wW q hn)];exact q
 frzs:=λb u xs q=>by rw[xX (wW q hn)];exact q
 tbls:=λb ps q=>⟨#[],by rw[xX (wW q hn),q];simp⟩
def Un.write(mu:Mut (H x))(he:e=x\/H e=some (.own x))(k:∀b u,b≠e->h.get? b=some u->h'.get? b=some u)(heo:∃u,h'.get? e=some u):Un fs ex H (upd H x o) h h':=by
 have hx:∀b,H b=none->b≠x:=λb n z=>by subst z;rw[n] at mu;exact mu
 have hb:∀b,H b=none->b≠e:=λb n z=>by
  subst z
  rcases he with r |r
  ·exact hx b n r
  ·rw[n] at r;cases r
 have hm:∀b u,H b=some u->¬ Mut (some u)->b≠x:=λb u q nm z=>by subst z;rw[q] at mu;exact nm mu
 refine⟨λb u q n _ _=>k b u (hb b n) q,λb u q n _ _=>⟨u.slots,k b u (hb b n) q⟩,λb u q n _=>by rw[xX (hx b n)];exact n,λb u q _=>?_,
  λb xs q=>by rw[xX (hm b _ q λz=>z)];exact q,λb u xs q=>by rw[xX (hm b _ q λz=>z)];exact q,λb ps q=>⟨#[],by rw[xX (hm b _ q λz=>z),q];simp⟩⟩
 by_cases hbe:b=e
 ·subst hbe;exact heo
 ·exact⟨u,k b u hbe q⟩
end
def trk(h:Heap)(H:Hp):List Addr:=(List.range h.objs.size).filter λa=>(H a).isSome
def zt3(h:Heap)(H:Hp):Heap:=W.hideAll h (trk h H)
def zn9(h:Heap)(H:Hp):(zt3 h H).objs.size=h.objs.size:=W.hideAll_size _ _
def zB1{h:Heap}{H:Hp}{b:Addr}{o:Obj}(e:h.get? b=some o)(n:H b=none):(zt3 h H).get? b=some o:=
 PySem.W.hideAll_get _ e λhm=>by
  have q:(H b).isSome=true:=(zx.mp hm).2;rw[n] at q;simp at q
def zN8{h:Heap}{H:Hp}{b:Addr}{o:Obj}(e:(zt3 h H).get? b=some o):h.get? b=some o/\H b=none:=by
 have e':h.get? b=some o:=W.of_hideAll (trk h H) e;refine⟨e',?_⟩
 cases q:H b with
 |none=>rfl
 |some x=>
  have hm:b∈trk h H:=zx.mpr ⟨ye.mpr (zo e'),by simp[q]⟩
  have z:(zt3 h H).get? b=none:=W.hideAll_none (trk h H) hm;rw[z] at e;cases e
def zR8(g h:Heap)(L:Addr):List (Addr × Obj):=(List.range h.objs.size).filterMap λa=>if a=L\/(g.get? a).isSome=true then none else(h.get? a).map λo=>(a,o)
def rest(g h:Heap)(L d:Addr):List (Addr × Obj):=(zR8 g h L).filter λp=>decide (p.1≠d)
structure Mod(K:W.Frag)(mg:Str->Option Value)(base:Heap):Prop where
 kin:K.In base
 glob:base.Ns mainGlobals mg
 blt:∃mb,base.Ns builtinsNs mb/\∀x:Str,x ≠ "__name__" -> mb x=bootBuiltins x
 nolimit:base.NoLimit
structure Cx where
 prog:Program
 w:World
 K:W.Frag
 mg:Str->Option Value
 base:Heap
 A:Around
 N:List Str
 s₀:Shared
 H₀:Hp
 env:Env
 outer:List Env
 stack:List Env
 ex:List Addr
 fn:Str->Bool
 calm:Bool
 pn:List (Addr × Obj)
 xe:Value->Shared->Prop
def frs(l:List Env):List Addr:=l.filterMap (·.frame)
abbrev Cx.fs(X:Cx):List Addr:=frs X.outer
def Vis(sc:Scope)(x:Str):Prop:=sc.names.lookup x=some .local\/sc.names.lookup x=some .cell\/sc.names.lookup x=some .free
def Loc(sc:Scope)(x:Str):Prop:=sc.names.lookup x=some .local\/sc.names.lookup x=some .cell
def xO6(env:Env)(h:Heap)(m:Str->Option Value)(x:Str)(u:Value):Prop:=
 (env.kindOf x=some .local/\m x=some u)\/((env.kindOf x=some .cell\/env.kindOf x=some .free)/\∃c,env.cells.lookup x=some c/\h.IsCell c (some u))
structure Cx.Ok(X:Cx):Prop where
 mod:Mod X.K X.mg X.base
 kind:X.env.scope.kind=.function
 glob:X.env.globals=mainGlobals
 blt:X.env.builtins=builtinsNs
 above:X.s₀.heap.objs.size<=X.env.locals
 inj:∀x y c,X.env.cells.lookup x=some c->X.env.cells.lookup y=some c->x=y
 has:∀x,(X.env.kindOf x=some .cell\/X.env.kindOf x=some .free)->∃c,X.env.cells.lookup x=some c
 cab:∀x c,X.fn x=true->X.env.cells.lookup x=some c->X.s₀.heap.objs.size<=c
 hd:X.calm=true->X.A.handled=none
 frames:X.A.frames=some X.stack
 stk:X.stack=X.outer\/(X.stack=X.env::X.outer/\X.env.frame=some X.env.locals)
 exf:∀b∈X.ex,b≠X.env.locals/\∀x c,X.env.cells.lookup x=some c->c≠b
 bs:∀b o,X.base.get? b=some o->X.s₀.heap.get? b=some o/\X.H₀ b=none
 bsz:X.base.objs.size<=X.s₀.heap.objs.size
 noex:∀b o,X.base.get? b=some o->b ∉ X.ex
 exfs:∀b∈X.ex,b ∉ X.fs
 funs:X.s₀.heap.FunFrames X.base X.outer
 frf:∀b∈X.fs,X.H₀ b=none
structure Inv(X:Cx)(pins:List (Addr × Obj))(σ:List (Option V))(H:Hp)(s:Shared):Prop where
 ok:X.Ok
 os:s.os=X.s₀.os
 bare:AllBare s.gens
 base:Un X.fs X.ex X.H₀ H X.s₀.heap s.heap
 loc:∃m,s.heap.Ns X.env.locals m/\∀(i:Nat) (x:Str) (v:V),X.N[i]?=some x->σ[i]?=some (some v)->Vis X.env.scope x->∃u,RelV v u/\xO6 X.env s.heap m x u
 cell:∀x c,X.env.cells.lookup x=some c->∃v,s.heap.IsCell c v
 free:H X.env.locals=none
 freeC:∀x c,X.env.cells.lookup x=some c->H c=none
 pin:∀p∈X.pn++pins,s.heap.get? p.1=some p.2/\H p.1=none/\p.1≠X.env.locals/\p.1 ∉ X.fs/\∀v,p.2.data≠.cell v
 hok:HOk X.prog X.w H s.heap
 len:σ.length=X.N.length
section
variable {X:Cx}{pins:List (Addr × Obj)}{σ:List (Option V)}{H H':Hp}{s:Shared}{h':Heap}
def Cx.Ok.nofr(ok:X.Ok){b:Addr}{o:Obj}(e:X.base.get? b=some o):b ∉ X.fs:=λhb=>by
 have:=(ok.funs.mem hb).1;rw[e] at this;cases this
def Inv.bs(I:Inv X pins σ H s):∀b o,X.base.get? b=some o->s.heap.get? b=some o/\H b=none:=λb o e=>
 ⟨I.base.keep b o (I.ok.bs b o e).1 (I.ok.bs b o e).2 (I.ok.nofr e) (I.ok.noex b o e),I.base.free b o (I.ok.bs b o e).1 (I.ok.bs b o e).2 (I.ok.noex b o e)⟩
def Inv.bk(I:Inv X pins σ H s):∀b o,X.base.get? b=some o->s.heap.get? b=some o:=λb o e=>(I.bs b o e).1
def Inv.mod(I:Inv X pins σ H s):Mod X.K X.mg X.base:=I.ok.mod
def Inv.kIn(I:Inv X pins σ H s):X.K.In s.heap:=I.ok.mod.kin.keeps I.bk
def Inv.nolimit(I:Inv X pins σ H s):s.heap.NoLimit:=I.ok.mod.nolimit.keeps I.bk
def Inv.lt(I:Inv X pins σ H s):X.env.locals<s.heap.objs.size:=let ⟨_,hn,_⟩:=I.loc;hn.lt
def Inv.sz(I:Inv X pins σ H s):X.s₀.heap.objs.size<=s.heap.objs.size:=zy I.ok.above (yt I.lt)
def Inv.nofs(I:Inv X pins σ H s){a:Addr}(h:s.heap.objs.size<=a):a ∉ X.fs:=λhb=>by
 obtain⟨_,o,ho,_⟩:=I.ok.funs.mem hb;exact absurd (zL (zo ho) (zy I.sz h)) (xl _)
def Inv.cne(I:Inv X pins σ H s):∀x c,X.env.cells.lookup x=some c->c≠X.env.locals:=λx c e z=>by
 obtain⟨v,o,ho,hd⟩:=I.cell x c e;obtain⟨m,⟨o',es,ep,ho',hd',_⟩,_⟩:=I.loc;rw[z,ho'] at ho;cases ho;rw[hd'] at hd;cases hd
def Inv.funs(I:Inv X pins σ H s):s.heap.FunFrames X.base X.outer:=by
 have all:∀(l:List Env),(∀b∈frs l,b∈X.fs)->X.s₀.heap.FunFrames X.base l->s.heap.FunFrames X.base l:=by
  intro l
  induction l with
  |nil=>intro _ _;trivial
  |cons env r ih=>
   intro hs hl;obtain⟨hk,⟨L,o,hf,hn,ho,hd⟩,hr⟩:=hl
   have hL:L∈X.fs:=hs L (by unfold frs;rw[yO,hf];exact zP)
   obtain⟨sl,e⟩:=I.base.slot L o ho (I.ok.frf L hL) hL λz=>I.ok.exfs L z hL
   exact⟨hk,⟨L,_,hf,hn,e,hd⟩,ih (λb hb=>hs b (by unfold frs;rw[yO,hf];exact zk _ hb)) hr⟩
 exact all X.outer (λ_ hb=>hb) I.ok.funs
def Inv.stack(I:Inv X pins σ H s):s.heap.FunFrames X.base X.stack:=by
 rcases I.ok.stk with e |⟨e,hf⟩
 ·rw[e];exact I.funs
 ·rw [e];obtain⟨m,hn,_⟩:=I.loc
  refine .cons (by rw[I.ok.kind];decide) hf hn ?_ I.funs
  exact Heap.get?_none_of_le (zy I.ok.bsz I.ok.above)
def Inv.stkSub(I:Inv X pins σ H s):∀b∈frs X.stack,b∈X.env.locals::X.fs:=λb hb=>by
 rcases I.ok.stk with e |⟨e,hf⟩
 ·rw[e] at hb;exact zk _ hb
 ·rw[e] at hb;unfold frs at hb;rw[yO,hf] at hb;exact hb
def Inv.stkFree(I:Inv X pins σ H s):∀b∈frs X.stack,H b=none:=λb hb=>by
 rcases zj.mp (I.stkSub b hb) with e |hb
 ·rw[e];exact I.free
 ·obtain⟨_,o,ho,_⟩:=I.ok.funs.mem hb;exact I.base.free b o ho (I.ok.frf b hb) λz=>I.ok.exfs b z hb
def Inv.step{g':Array GenState}{t':Nat}{d':Drawn}{ch:List Addr}(I:Inv X pins σ H s)
  (hch:∀b∈ch,(b∈X.ex\/X.s₀.heap.objs.size<=b)/\b≠X.env.locals/\(∀x c,X.env.cells.lookup x=some c->c≠b)/\∀p∈X.pn++pins,p.1≠b)
  (keep:∀b o,b≠X.env.locals->b ∉ X.fs->b ∉ ch->s.heap.get? b=some o->H b=none->h'.get? b=some o)
  (slot:∀b o,b≠X.env.locals->b∈X.fs->b ∉ ch->s.heap.get? b=some o->H b=none->∃sl,h'.get? b=some { o with slots:=sl }) (free:∀b o,b ∉ ch->s.heap.get? b=some o->H b=none->H' b=none)
  (there:∀b o,b ∉ ch->s.heap.get? b=some o->∃o',h'.get? b=some o')
  (tups:∀b xs,H b=some (.tup xs)->H' b=some (.tup xs)) (frzs:∀b o u,H b=some (.frz o u)->H' b=some (.frz o u)) (tbls:∀b ps,H b=some (.tbl ps)->∃more,H' b=some (.tbl (ps++more)))
  (ns:∀m,s.heap.Ns X.env.locals m->h'.Ns X.env.locals m) (hok:HOk X.prog X.w H' h') (hg:AllBare g') :
  Inv X pins σ H' { s with heap:=h',gens:=g',drawn:=d',toks:=t' }:=by
 have neL:∀b o,X.s₀.heap.get? b=some o->b≠X.env.locals:=λb o e=>zw (zL (zo e) I.ok.above)
 have neC:∀b o,X.s₀.heap.get? b=some o->b ∉ X.ex->b ∉ ch:=λb o e hx hb=>by
  rcases(hch b hb).1 with z |z
  ·exact hx z
  ·exact absurd (zL (zo e) z) (xl _)
 have cellK:∀x c,X.env.cells.lookup x=some c->∀v,s.heap.IsCell c v->h'.IsCell c v:=λx c e v ⟨o,ho,hd⟩=>by
  have nch:c ∉ ch:=λz=>(hch c z).2.2.1 x c e rfl
  by_cases hc:c∈X.fs
  ·obtain⟨sl,q⟩:=slot c o (I.cne x c e) hc nch ho (I.freeC x c e);exact⟨_,q,hd⟩
  ·exact⟨o,keep c o (I.cne x c e) hc nch ho (I.freeC x c e),hd⟩
 refine⟨I.ok,I.os,hg,⟨λb o e n hb hx=>?_,λb o e n hb hx=>?_,λb o e n hx=>?_,λb o e hx=>?_,λb xs e=>tups b xs (I.base.tups b xs e),λb o xs e=>frzs b o xs (I.base.frzs b o xs e),λb ps e=>?_⟩,?_,λx c e=>?_,?_,λx c e=>?_,λp hp=>?_,hok,I.len⟩
 ·exact keep b o (neL b o e) hb (neC b o e hx) (I.base.keep b o e n hb hx) (I.base.free b o e n hx)
 ·obtain⟨sl,e1⟩:=I.base.slot b o e n hb hx;obtain⟨sl',e2⟩:=slot b _ (neL b o e) hb (neC b o e hx) e1 (I.base.free b o e n hx);exact⟨sl',e2⟩
 ·obtain⟨o',e1⟩:=I.base.there b o e hx;exact free b o' (neC b o e hx) e1 (I.base.free b o e n hx)
 ·obtain⟨o',e1⟩:=I.base.there b o e hx;exact there b o' (neC b o e hx) e1
 ·obtain ⟨m1, e1⟩ := I.base.tbls b ps e;obtain⟨m2,e2⟩:=tbls b _ e1
  exact⟨m1++m2,by rw[e2,Array.append_assoc]⟩
 ·obtain ⟨m, hn, hl⟩ := I.loc;refine⟨m,ns m hn,λi x v e1 e2 e3=>?_⟩;obtain⟨u,r,l⟩:=hl i x v e1 e2 e3;refine⟨u,r,?_⟩
  rcases l with l |⟨k,c,e,z⟩
  ·exact .inl l
  ·exact .inr ⟨k,c,e,cellK x c e _ z⟩
 ·obtain⟨v,z⟩:=I.cell x c e;exact⟨v,cellK x c e v z⟩
 ·obtain⟨m,⟨o,_,_,ho,_⟩,_⟩:=I.loc;exact free _ o (λz=>(hch _ z).2.1 rfl) ho I.free
 ·obtain⟨v,o,ho,hd⟩:=I.cell x c e;exact free c o (λz=>(hch c z).2.2.1 x c e rfl) ho (I.freeC x c e)
 ·obtain⟨e,n,ne,nf,d⟩:=I.pin p hp;have nch:p.1 ∉ ch:=λz=>(hch p.1 z).2.2.2 p hp rfl;exact⟨keep p.1 p.2 ne nf nch e n,free p.1 p.2 nch e n,ne,nf,d⟩
def Inv.un{t':Nat}(I:Inv X pins σ H s)(u:Un X.fs [] H H' s.heap h')(hok:HOk X.prog X.w H' h'):Inv X pins σ H' { s with heap:=h',toks:=t' }:=by
 obtain⟨m,⟨o,es,ep,ho,r⟩,_⟩:=id I.loc
 obtain⟨sl,hL⟩:=u.any ho I.free (by simp)
 exact I.step (g':=s.gens) (d':=s.drawn) (ch:=[]) (λ_ z=>nomatch z) (λb o _ hb _ e n=>u.keep b o e n hb (by simp)) (λb o _ hb _ e n=>u.slot b o e n hb (by simp)) (λb o _ e n=>u.free b o e n (by simp)) (λb o _ e=>u.there b o e (by simp)) u.tups u.frzs u.tbls (λm' hm=>by
  obtain⟨o',es',ep',ho',r'⟩:=hm;rw[ho] at ho';cases ho'
  exact⟨_,es',ep',hL,r'⟩) hok I.bare
def Inv.call{g':Array GenState}{t':Nat}{d':Drawn}{ch:List Addr}(I:Inv X pins σ H s)(u:Un (frs X.stack) ch H H' s.heap h')(hok:HOk X.prog X.w H' h')(hg:AllBare g')
  (hch:∀b∈ch,(b∈X.ex\/X.s₀.heap.objs.size<=b)/\b≠X.env.locals/\(∀x c,X.env.cells.lookup x=some c->c≠b)/\∀p∈X.pn++pins,p.1≠b) :
  Inv X pins σ H' { s with heap:=h',gens:=g',drawn:=d',toks:=t' }:=by
 obtain⟨m,⟨o,es,ep,ho,r⟩,_⟩:=id I.loc;obtain⟨sl,hL⟩:=u.any ho I.free λz=>(hch _ z).2.1 rfl
 exact I.step (ch:=ch) hch (λb o hL hb hc e n=>u.keep b o e n (λz=>(zj.mp (I.stkSub b z)).elim hL hb) hc) (λb o _ _ hc e n=>u.any e n hc) (λb o hc e n=>u.free b o e n hc) (λb o hc e=>u.there b o e hc) u.tups u.frzs u.tbls (λm' hm=>by
  obtain⟨o',es',ep',ho',r'⟩:=hm;rw[ho] at ho';cases ho'
  exact⟨_,es',ep',hL,r'⟩) hok hg
def Inv.turned{t':Nat}{it:Addr}(I:Inv X pins σ H s)(k:∀b o,b≠it->s.heap.get? b=some o->h'.get? b=some o)(hn:H it=none)(hL:it≠X.env.locals)
  (h1:it∈X.ex\/X.s₀.heap.objs.size<=it) (h2:∀x c,X.env.cells.lookup x=some c->c≠it) (h3:∀p∈X.pn++pins,p.1≠it):Inv X pins σ H { s with heap:=h',toks:=t' }:=by
 have nit:∀b u,H b=some u->b≠it:=λb u e z=>by rw[z,hn] at e;cases e
 refine I.step (g':=s.gens) (d':=s.drawn) (ch:=[it]) (λb hb=>?_) (λb o _ _ hc e _=>k b o (λz=>hc (by simp[z])) e) (λb o _ _ hc e _=>⟨o.slots,k b o (λz=>hc (by simp[z])) e⟩) (λ_ _ _ _ n=>n)
  (λb o hc e=>⟨o,k b o (λz=>hc (by simp[z])) e⟩) (λ_ _ e=>e) (λ_ _ _ e=>e) (λb ps e=>⟨#[],by rw[e];simp⟩) (λm hm=>?_) (λb u e=>?_) I.bare
 ·have e : b = it := by simpa using hb
  subst e;exact⟨h1,hL,h2,h3⟩
 ·obtain⟨o,es,ep,ho,r⟩:=hm;exact⟨o,es,ep,k _ o (Ne.symm hL) ho,r⟩
 ·refine (I.hok b u e).stay (λc v hc q => k c v ?_ q) (λ_ q => q) (λ_ _ q => q) λ_ _ _ q => q
  rcases hc with z |z
  ·rw[z];exact nit b u e
  ·exact nit c _ z
def Inv.tok(I:Inv X pins σ H s)(t:Nat):Inv X pins σ H { s with toks:=t }:=I.un (h':=s.heap) (t':=t) Un.refl I.hok
def Inv.kept{t':Nat}(I:Inv X pins σ H s)(k:∀b u,s.heap.get? b=some u->h'.get? b=some u):Inv X pins σ H { s with heap:=h',toks:=t' }:=I.un (Un.kept k) (I.hok.kept k)
def Inv.laid{a:Addr}{o:HO}{t':Nat}(I:Inv X pins σ H s)(k:∀b u,s.heap.get? b=some u->h'.get? b=some u)(hp:s.heap.objs.size<=a)(new:ObjOk X.prog X.w (upd H a o) h' a o) :
  Inv X pins σ (upd H a o) { s with heap:=h',toks:=t' }:=I.un (Un.laid k hp (I.hok.fresh hp)) (I.hok.laid k hp new)
def Inv.write{x e:Addr}{o:HO}{t':Nat}(I:Inv X pins σ H s)(mu:Mut (H x))(he:e=x\/H e=some (.own x))(k:∀b u,b≠e->s.heap.get? b=some u->h'.get? b=some u)(heo:∃u,h'.get? e=some u)
  (new:ObjOk X.prog X.w (upd H x o) h' x o):Inv X pins σ (upd H x o) { s with heap:=h',toks:=t' }:=I.un (Un.write mu he k heo) (I.hok.write mu he k heo new)
def Inv.weak{σ':List (Option V)}(I:Inv X pins σ H s)(hl:σ'.length=σ.length)(w:∀(i:Nat) v,σ'[i]?=some (some v)->σ[i]?=some (some v)):Inv X pins σ' H s:=
 ⟨I.ok,I.os,I.bare,I.base,let ⟨m,hn,hl'⟩:=I.loc;⟨m,hn,λi x v e1 e2 e3=>hl' i x v e1 (w i v e2) e3⟩,I.cell,I.free,I.freeC,I.pin,I.hok,hl.trans I.len⟩
def Inv.pins_of{pins':List (Addr × Obj)}(I:Inv X pins σ H s)(h:∀p∈pins',s.heap.get? p.1=some p.2/\H p.1=none/\p.1≠X.env.locals/\p.1 ∉ X.fs/\∀v,p.2.data≠.cell v):Inv X pins' σ H s:=
 ⟨I.ok,I.os,I.bare,I.base,I.loc,I.cell,I.free,I.freeC,λp hp=>(xf.mp hp).elim (λz=>I.pin p (xk _ z)) (h p),I.hok,I.len⟩
def Qi{N:List Str}(hN:N.Nodup){i j:Nat}{x:Str}(a:N[i]?=some x)(b:N[j]?=some x):i=j:=by
 obtain⟨h1,e1⟩:=zq.mp a;obtain⟨h2,e2⟩:=zq.mp b;exact(List.getElem_inj hN).mp (e1.trans e2.symm)
def Ue{M:Model}{A:Around}{E:Value->Shared->Prop}{i:Nat}{x:Str}{v:V}{u:Value}{Q:Unit->Shared->Prop}(I:Inv X pins σ H s)(hN:X.N.Nodup)(hi:X.N[i]?=some x)(hx:Loc X.env.scope x)(r:RelV v u)
  (h:∀s',Inv X pins (σ.set i (some v)) H s'->(∃a,Heap.SameBut a s.heap s'.heap/\(a=X.env.locals\/X.env.cells.lookup x=some a))->Q () s') (hf:X.fn x=true\/X.env.scope.names.lookup x=some .local:=by first |exact .inl rfl |exact .inr rfl |assumption):wpAny M A (storeName X.env x u) Q E s:=by
 obtain⟨m,hn,hl⟩:=id I.loc
 have hcls:(X.env.scope.kind == .class||(X.env.scope.kind == .module&&X.env.locals != X.env.globals))=false:=by rw[I.ok.kind];rfl
 have hiσ:i<σ.length:=by rw[I.len];exact(zq.mp hi).1
 have cne:=I.cne
 have tracked:∀{a:Addr}{h':Heap},(∃o,s.heap.get? a=some o/\H a=none)->Heap.SameBut a s.heap h'->HOk X.prog X.w H h':=λ{a h'} ha hs b ob e=>by
  obtain⟨_,_,hfree⟩:=ha;refine(I.hok b ob e).stay (λc w' hc q=>(hs.2 c ?_).trans q) (λ_ q=>q) (λ_ _ q=>q) λ_ _ _ q=>q;rintro rfl
  rcases hc with rfl |hc
  ·rw[hfree] at e;cases e
  ·rw[hfree] at hc;cases hc
 rcases hx with hk |hk
 ·refine wpAny_storeName_local hk hn (λh' hn' hs => ?_) hcls;obtain⟨oL,_,_,hoL,_⟩:=id hn
  refine h _ ⟨I.ok,I.os,I.bare,⟨λb o e n hb hx=>?_,λb o e n hb hx=>?_,I.base.free,λb o e hx=>?_,I.base.tups,I.base.frzs,I.base.tbls⟩,⟨_,hn',λj y v' e1 e2 e3=>?_⟩,λy c e=>?_,I.free,I.freeC,λp hp=>?_,tracked ⟨oL,hoL,I.free⟩ hs,by simpa using I.len⟩ ⟨_,hs,.inl rfl⟩
  ·exact(hs.2 b (zw (zL (zo e) I.ok.above))).trans (I.base.keep b o e n hb hx)
  ·obtain⟨sl,e1⟩:=I.base.slot b o e n hb hx;exact⟨sl,(hs.2 b (zw (zL (zo e) I.ok.above))).trans e1⟩
  ·obtain⟨o',e1⟩:=I.base.there b o e hx;exact⟨o',(hs.2 b (zw (zL (zo e) I.ok.above))).trans e1⟩
  ·by_cases hj : j = i
   ·subst hj;rw[hi] at e1;cases e1;rw[zQ hiσ] at e2;cases e2
    exact⟨u,r,.inl ⟨hk,by simp⟩⟩
   ·rw [zY (Ne.symm hj)] at e2;obtain⟨u',r',q⟩:=hl j y v' e1 e2 e3;refine⟨u',r',?_⟩
    rcases q with ⟨k,e⟩ |⟨k,c,e,z⟩
    ·refine .inl ⟨k,?_⟩;have:y≠x:=λe=>hj (Qi hN e1 (e ▸ hi));simp[this,e]
    ·exact .inr ⟨k,c,e,z.sameBut hs (cne y c e)⟩
  ·obtain⟨w',z⟩:=I.cell y c e;exact⟨w',z.sameBut hs (cne y c e)⟩
  ·obtain⟨e,n,ne,nf,d⟩:=I.pin p hp;exact⟨(hs.2 p.1 ne).trans e,n,ne,nf,d⟩
 ·have hfn : X.fn x = true := by
   rcases hf with z |z
   ·exact z
   ·rw[z] at hk;cases hk
  obtain⟨c,hc⟩:=I.ok.has x (.inl hk);obtain⟨w',z⟩:=I.cell x c hc;refine wpAny_storeName_cell I.ok.kind hk hc z (λh' hc' hs=>?_);obtain⟨oc,hoc,hocd⟩:=id z
  refine h { s with heap:=h' } ⟨I.ok,I.os,I.bare,⟨λb o e n hb hx=>?_,λb o e n hb hx=>?_,I.base.free,λb o e hx=>?_,I.base.tups,I.base.frzs,I.base.tbls⟩,⟨m,hn.sameBut hs (Ne.symm (cne x c hc)),λj y v' e1 e2 e3=>?_⟩,λy c' e=>?_,I.free,I.freeC,λp hp=>?_,tracked ⟨oc,hoc,I.freeC x c hc⟩ hs,by simpa using I.len⟩ ⟨c,hs,.inr hc⟩
  ·exact(hs.2 b (zw (zL (zo e) (I.ok.cab x c hfn hc)))).trans (I.base.keep b o e n hb hx)
  ·obtain⟨sl,e1⟩:=I.base.slot b o e n hb hx;exact⟨sl,(hs.2 b (zw (zL (zo e) (I.ok.cab x c hfn hc)))).trans e1⟩
  ·obtain⟨o',e1⟩:=I.base.there b o e hx;exact⟨o',(hs.2 b (zw (zL (zo e) (I.ok.cab x c hfn hc)))).trans e1⟩
  ·by_cases hj : j = i
   ·subst hj;rw[hi] at e1;cases e1;rw[zQ hiσ] at e2;cases e2;exact⟨u,r,.inr ⟨.inl hk,c,hc,hc'⟩⟩
   ·rw [zY (Ne.symm hj)] at e2;obtain⟨u',r',q⟩:=hl j y v' e1 e2 e3;refine⟨u',r',?_⟩
    rcases q with q |⟨k,c',e,z'⟩
    ·exact .inl q
    ·refine .inr ⟨k,c',e,z'.sameBut hs ?_⟩;rintro rfl;exact hj (Qi hN e1 (I.ok.inj _ _ _ e hc ▸ hi))
  ·by_cases hcc : c' = c
   ·subst hcc;exact⟨_,hc'⟩
   ·obtain⟨w2,z2⟩:=I.cell y c' e;exact⟨w2,z2.sameBut hs hcc⟩
  ·obtain ⟨e, n, ne, nf, d⟩ := I.pin p hp;refine⟨(hs.2 p.1 ?_).trans e,n,ne,nf,d⟩;intro q;rw[q,hoc] at e;have q':oc=p.2:=zF e
   exact d w' (by rw[<- q'];exact hocd)
def qb{M:Model}{A:Around}{E:Value->Shared->Prop}{i:Nat}{x:Str}{v:V}{u:Value}{Q:Unit->Shared->Prop}(I:Inv X pins σ H s)(hN:X.N.Nodup)(hi:X.N[i]?=some x)(hx:Loc X.env.scope x)(r:RelV v u)
  (h:∀s',Inv X pins (σ.set i (some v)) H s'->Q () s') (hf:X.fn x=true\/X.env.scope.names.lookup x=some .local:=by first |exact .inl rfl |exact .inr rfl |assumption):wpAny M A (storeName X.env x u) Q E s:=
 Ue I hN hi hx r (λs' I' _=>h s' I') hf
def Inv.call'{s':Shared}{ch:List Addr}(I:Inv X pins σ H s)(ho:s'.os=s.os)(u:Un (frs X.stack) ch H H' s.heap s'.heap)(hok:HOk X.prog X.w H' s'.heap)(hg:AllBare s'.gens)
  (hch:∀b∈ch,(b∈X.ex\/X.s₀.heap.objs.size<=b)/\b≠X.env.locals/\(∀x c,X.env.cells.lookup x=some c->c≠b)/\∀p∈X.pn++pins,p.1≠b):Inv X pins σ H' s':=by
 obtain⟨h',g',d',t',o'⟩:=s';have e:o'=s.os:=ho;subst e;exact I.call (g':=g') (t':=t') (d':=d') u hok hg hch
end
abbrev XK:=Value->Option Addr->Hp->Prop
abbrev St:=List (Option V)
abbrev VK:=V->Hp->Prop
abbrev TE:=St->Hp->VK->Prop
abbrev TT:=St->Hp->(Bool->Hp->Prop)->Prop
abbrev TA:=St->Hp->(List V->Hp->Prop)->Prop
structure JM where
 nx:St->Hp->Prop
 rt:VK
 bk:St->Hp->Prop:=λ_ _=>False
 ct:St->Hp->Prop:=λ_ _=>False
abbrev TS:=JM->St->Hp->Prop
def EP(X:Cx)(pins:List (Addr × Obj))(σ:St)(Q:VK)(u:Value)(s':Shared):Prop:=∃v H',Inv X pins σ H' s'/\RelV v u/\Q v H'
def TP(X:Cx)(pins:List (Addr × Obj))(σ:St)(Q:Bool->Hp->Prop)(b:Bool)(s':Shared):Prop:=∃H',Inv X pins σ H' s'/\Q b H'
def AP(X:Cx)(pins:List (Addr × Obj))(σ:St)(Q:List V->Hp->Prop)(us:List Value)(s':Shared):Prop:=∃vs H',Inv X pins σ H' s'/\Vals vs us/\Q vs H'
def SP(X:Cx)(pins:List (Addr × Obj))(D:JM)(f:Flow)(s':Shared):Prop:=
 match f with
 |.next=>∃σ' H',Inv X pins σ' H' s'/\D.nx σ' H'
 |.brk=>∃σ' H',Inv X pins σ' H' s'/\D.bk σ' H'
 |.cont=>∃σ' H',Inv X pins σ' H' s'/\D.ct σ' H'
 |.ret u=>∃v σ' H',Inv X pins σ' H' s'/\RelV v u/\D.rt v H'
def PE(X:Cx)(e:Expr)(t:TE):Prop:=
 ∀(pins:List (Addr × Obj)) (s:Shared) (σ:St) (H:Hp) (Q:VK),Inv X pins σ H s->t σ H Q->wpAny (model X.prog X.w) X.A (eval e X.env) (EP X pins σ Q) X.xe s
def PT(X:Cx)(e:Expr)(t:TT):Prop:=
 ∀(pins:List (Addr × Obj)) (s:Shared) (σ:St) (H:Hp) (Q:Bool->Hp->Prop),Inv X pins σ H s->t σ H Q->wpAny (model X.prog X.w) X.A (isTrue e X.env (eval e X.env)) (TP X pins σ Q) X.xe s
def PW(X:Cx)(e:Expr)(t:TT):Prop:=
 ∀(whole:Sem Value) (pins:List (Addr × Obj)) (s:Shared) (σ:St) (H:Hp) (Q:Bool->Hp->Prop),Inv X pins σ H s->t σ H Q->wpAny (model X.prog X.w) X.A (isTrue e X.env whole) (TP X pins σ Q) X.xe s
def PW.pt{X:Cx}{e:Expr}{t:TT}(h:PW X e t):PT X e t:=h _
def PA(X:Cx)(es:List Expr)(t:TA):Prop:=
 ∀(pos:Pos) (pins:List (Addr × Obj)) (s:Shared) (σ:St) (H:Hp) (Q:List V->Hp->Prop),Inv X pins σ H s->t σ H Q->wpAny (model X.prog X.w) X.A (spliced (backTo pos (starEach es X.env))) (AP X pins σ Q) X.xe s
def PS(X:Cx)(st:Stmt)(t:TS):Prop:=
 ∀(pins:List (Addr × Obj)) (s:Shared) (σ:St) (H:Hp) (D:JM),Inv X pins σ H s->t D σ H->wpAny (model X.prog X.w) X.A (exec st X.env) (SP X pins D) X.xe s
def PSs(X:Cx)(st:List Stmt)(t:TS):Prop:=
 ∀(pins:List (Addr × Obj)) (s:Shared) (σ:St) (H:Hp) (D:JM),Inv X pins σ H s->t D σ H->wpAny (model X.prog X.w) X.A (execs st X.env) (SP X pins D) X.xe s
def thn{α:Type}{t:Sem α}{Q Q':α->Shared->Prop}{M:Model}{A:Around}{E:Value->Shared->Prop}{s:Shared}(h:wpAny M A t Q E s)(hQ:∀a s,Q a s->Q' a s):wpAny M A t Q' E s:=wx h hQ λ_ _ x=>x
section
variable {X:Cx}
def xz7(i:Nat):TE:=λσ H Q=>∃v,σ[i]?=some (some v)/\Q v H
def tC(v:V):TE:=λ_ H Q=>Q v H
def qO{i:Nat}{x:Str}{pos:Pos}(hN:X.N[i]?=some x)(hv:Vis X.env.scope x)(hd:(x == ("__debug__" : Str))=false:=by decide)(hcd:(x == ("__classdict__" : Str))=false:=by decide):PE X (.Name x pos) (xz7 i):=by
 intro pins s σ H Q I h;obtain⟨v,e,h⟩:=h;obtain⟨m,hn,hl⟩:=I.loc;obtain⟨u,r,l⟩:=hl i x v hN e hv;have fin:EP X pins σ Q u s:=⟨v,H,I,r,h⟩
 rcases l with ⟨hk,hm⟩ |⟨hk,c,hc,hcell⟩
 ·exact wpAny_Name (wpAny_loadName_local I.ok.kind hk hn hm fin) hd
 ·rcases hk with hk | hk
  ·exact wpAny_Name (wpAny_loadName_cell I.ok.kind hk hc hcell fin) hd
  ·exact wpAny_Name (wpAny_loadName_free I.ok.kind hk hc hcell fin hcd) hd
def Uw{i j pos}:PE X (.Constant (.int i) j pos) (tC (.int i)):=λ_ _ _ H _ I h=>wpAny_Constant_int ⟨.int i,H,I.tok _,⟨_,rfl⟩,h⟩
def xw3{b j pos}:PE X (.Constant (.bool b) j pos) (tC (.bl b)):=λ_ _ _ H _ I h=>Constant_bool ⟨.bl b,H,I,rfl,h⟩
def zZ4{j pos}:PE X (.Constant .none j pos) (tC .non):=λ_ _ _ H _ I h=>Constant_none ⟨.non,H,I,rfl,h⟩
def zZ1{x j pos}:PE X (.Constant (.str x) j pos) (tC (.str x)):=λ_ _ _ H _ I h=>Calls.Constant_str ⟨.str x,H,I.tok _,⟨_,rfl⟩,h⟩
def Gl(X:Cx)(x:Str):Prop:=X.env.kindOf x=some .globalImplicit
def zm2{E:Value->Shared->Prop}{pins:List (Addr × Obj)}{s:Shared}{σ:St}{H:Hp}{x:Str}{u:Value}{pos:Pos}{Q:Value->Shared->Prop}(I:Inv X pins σ H s)(hg:Gl X x)(hm:X.mg x=some u)(h:Q u s)
  (hd:(x == ("__debug__" : Str))=false:=by decide):wpAny (model X.prog X.w) X.A (eval (.Name x pos) X.env) Q E s:=
 Calls.Name_function_global I.ok.kind hg (Calls.loadGlobal_global (by rw[I.ok.glob];exact I.mod.glob.keeps I.bk) hm h) hd
def UR{E:Value->Shared->Prop}{pins:List (Addr × Obj)}{s:Shared}{σ:St}{H:Hp}{x:Str}{u:Value}{pos:Pos}{Q:Value->Shared->Prop}(I:Inv X pins σ H s)(hg:Gl X x)(hm:X.mg x=none)(hv:bootBuiltins x=some u)(h:Q u s)
  (hn:x ≠ "__name__" := by decide) (hd:(x == ("__debug__" : Str))=false:=by decide):wpAny (model X.prog X.w) X.A (eval (.Name x pos) X.env) Q E s:=by
 obtain⟨mb,h1,h2⟩:=I.mod.blt
 exact Calls.Name_function_global I.ok.kind hg (Calls.loadGlobal_builtin (by rw[I.ok.glob];exact I.mod.glob.keeps I.bk) hm (by rw[I.ok.blt];exact h1.keeps I.bk) ((h2 x hn).trans hv) h) hd
def zL7{x:Str}{v:V}{u:Value}{pos:Pos}(hg:Gl X x)(hm:X.mg x=some u)(r:RelV v u)(hd:(x == ("__debug__" : Str))=false:=by decide):PE X (.Name x pos) (tC v):=
 λ_ _ _ H _ I h=>zm2 I hg hm ⟨v,H,I,r,h⟩ hd
variable {a b:Expr}{ta tb:TE}{pos:Pos}
def tB(t:TE):TT:=λσ H Q=>t σ H λx H1=>∃c,x=.bl c/\Q c H1
def zY3{e:Expr}{t:TE}(h:PE X e t)(he:∀whole,isTrue e X.env whole=(do let v <- whole;standAt e.pos;holding [v] (truthy v)):=by intro _;rfl):PT X e (tB t):=by
 intro pins s σ H Q I hw;refine isTrue_plain (thn (h pins s σ H _ I hw) λv s1 ⟨x,H1,I1,r1,q1⟩=>?_) (he _);obtain⟨d,rfl,q⟩:=q1;cases r1;exact wE ⟨H1,I1,q⟩
variable {tA tB':TT}{rest:List Expr}
def xI1(t u:TT):TT:=λσ H Q=>t σ H λc H1=>if c=true then u σ H1 Q else Q false H1
def tOr(t u:TT):TT:=λσ H Q=>t σ H λc H1=>if c=true then Q true H1 else u σ H1 Q
def xH5(t:TT):TT:=λσ H Q=>t σ H λc H1=>Q (!c) H1
def zK6(ha:PT X a tA):PW X (.BoolOp .And [a] pos) tA:=by
 intro wh pins s σ H Q I h;refine isTrue_and (thn (ha pins s σ H Q I h) λc s1 e=>?_)
 cases c with
 |true=>exact isTrue_and_nil e
 |false=>exact e
def zY0(ha:PT X a tA):PW X (.BoolOp .Or [a] pos) tA:=by
 intro wh pins s σ H Q I h;refine isTrue_or (thn (ha pins s σ H Q I h) λc s1 e=>?_)
 cases c with
 |false=>exact isTrue_or_nil e
 |true=>exact e
def zY1(ha:PT X a tA)(hb:PW X (.BoolOp .And (b::rest) pos) tB'):PW X (.BoolOp .And (a::b::rest) pos) (xI1 tA tB'):=by
 intro wh pins s σ H Q I h;refine isTrue_and (thn (ha pins s σ H _ I h) λc s1 ⟨H1,I1,q1⟩=>?_)
 cases c with
 |true=>exact hb wh pins s1 σ H1 Q I1 q1
 |false=>exact⟨H1,I1,q1⟩
def xv7(ha:PT X a tA)(hb:PW X (.BoolOp .Or (b::rest) pos) tB'):PW X (.BoolOp .Or (a::b::rest) pos) (tOr tA tB'):=by
 intro wh pins s σ H Q I h;refine isTrue_or (thn (ha pins s σ H _ I h) λc s1 ⟨H1,I1,q1⟩=>?_)
 cases c with
 |true=>exact⟨H1,I1,q1⟩
 |false=>exact hb wh pins s1 σ H1 Q I1 q1
def zY4(ha:PT X a tA):PT X (.UnaryOp .Not a pos) (xH5 tA):=by
 intro pins s σ H Q I h;exact isTrue_not (ha pins s σ H (λc H1=>Q (!c) H1) I h)
def xn0(ta tb:TE):TE:=λσ H Q=>ta σ H λx H1=>∃c,x=.bl c/\if c=true then tb σ H1 Q else Q (.bl false) H1
def xm3(ta:TE):TE:=λσ H Q=>ta σ H λx H1=>∃c,x=.bl c/\Q (.bl (!c)) H1
def zZ2{op}{t:TE}(h:PE X a t):PE X (.BoolOp op [a] pos) t:=λpins s σ H Q I hw=>BoolOp_one (h pins s σ H Q I hw)
def zZ5(ha:PE X a ta)(hb:PE X (.BoolOp .And (b::rest) pos) tb):PE X (.BoolOp .And (a::b::rest) pos) (xn0 ta tb):=by
 intro pins s σ H Q I h;refine BoolOp_and (thn (ha pins s σ H _ I h) λv s1 ⟨x,H1,I1,r1,q1⟩=>?_);obtain⟨c,rfl,q1⟩:=q1;cases r1;refine wE ?_
 cases c with
 |true=>exact hb pins s1 σ H1 Q I1 q1
 |false=>exact⟨.bl false,H1,I1,rfl,q1⟩
def zZ3(ha:PE X a ta):PE X (.UnaryOp .Not a pos) (xm3 ta):=by
 intro pins s σ H Q I h;refine UnaryOp_ (thn (ha pins s σ H _ I h) λv s1 ⟨x,H1,I1,r1,q1⟩=>?_);obtain⟨c,rfl,q1⟩:=q1;cases r1;exact not_of (wE ⟨.bl (!c),H1,I1,rfl,q1⟩)
def tIf(t:TT)(ta tb:TE):TE:=λσ H Q=>t σ H λc H1=>if c=true then ta σ H1 Q else tb σ H1 Q
def zx6{c:Expr}(hc:PT X c tA)(ha:PE X a ta)(hb:PE X b tb):PE X (.IfExp c a b pos) (tIf tA ta tb):=by
 intro pins s σ H Q I h;refine wpAny_IfExp (thn (hc pins s σ H _ I h) λd s1 ⟨H1,I1,q1⟩=>?_)
 cases d with
 |true=>exact ha pins s1 σ H1 Q I1 q1
 |false=>exact hb pins s1 σ H1 Q I1 q1
end
def SqL(K:W.Frag)(H:Hp)(a:Addr)(xs:List V):Prop:=
 Rd H a (.lst xs) \/
  ∃(o:Obj) (its:Array Value) (n:Nat),K.lookup a=some o/\o.cls=.type "list" /\ o.dict=none/\o.data=.seq its n/\its.size<=sizeLine/\Vals xs its.toList
def SqT(K:W.Frag)(H:Hp)(a:Addr)(xs:List V):Prop:=
 Rd H a (.tup xs) \/
  ∃(o:Obj) (its:Array Value) (n:Nat),K.lookup a=some o/\o.cls=.type "tuple" /\ o.data=.seq its n/\its.size<=sizeLine/\Vals xs its.toList
def xO5:Value->Option V
 |.none=>some .non
 |.bool b=>some (.bl b)
 |.int i _=>some (.int i)
 |.str x _=>some (.str x)
 |.bytes b _=>some (.byt b)
 |.float b _=>some (.flt b)
 |.ref a=>some (.ref a)
 |.type n=>some (.ty n)
 |_=>none
def RelV.abs{x:V}{u:Value}(r:RelV x u):xO5 u=some x:=by
 cases x with
 |non=>cases r;rfl
 |bl _=>cases r;rfl
 |int _=>obtain⟨t,rfl⟩:=r;rfl
 |str _=>obtain⟨t,rfl⟩:=r;rfl
 |byt _=>obtain⟨t,rfl⟩:=r;rfl
 |flt _=>obtain⟨t,rfl⟩:=r;rfl
 |ref _=>cases r;rfl
 |ty _=>cases r;rfl
def RelV.inj{x y:V}{u:Value}(r:RelV x u)(q:RelV y u):x=y:=zF (r.abs.symm.trans q.abs)
theorem Vals.inj:∀{xs ys:List V}{us:List Value},Vals xs us->Vals ys us->xs=ys
 |_,_,_,.nil,.nil=>rfl
 |_,_,_,.cons r t,.cons r' t'=>by rw[r.inj r',Vals.inj t t']
section
variable {X:Cx}{pins:List (Addr × Obj)}{σ:St}{H:Hp}{s:Shared}{a:Addr}{xs ys:List V}
def SqL.of{K:W.Frag}(h:H a=some (.lst xs)):SqL K H a xs:=.inl (.inl h)
def Inv.list(I:Inv X pins σ H s)(h:SqL X.K H a xs):∃its:List Value,Vals xs its/\PlainL s.heap a its.toArray/\xs.length<=sizeLine:=by
 rcases h with h |⟨o,its,n,hk,hc,hd,hs,hz,r⟩
 ·obtain⟨z,its,n,r,e⟩:=h.ok I.hok;exact⟨its,r,⟨_,n,e,rfl,rfl,rfl⟩,z⟩
 ·refine ⟨its.toList, r, ⟨o, n, I.kIn a o hk, hc, hd, by simpa using hs⟩, ?_⟩
  have e:=r.length;simp only[xQ] at e;lia
def Inv.tuple(I:Inv X pins σ H s)(h:SqT X.K H a xs):∃its:List Value,Vals xs its/\IsTup s.heap a its.toArray/\xs.length<=sizeLine:=by
 rcases h with h |⟨o,its,n,hk,hc,hs,hz,r⟩
 ·obtain⟨z,its,r,p⟩:=h.ok I.hok;exact⟨its,r,p,z⟩
 ·refine ⟨its.toList, r, ⟨o, I.kIn a o hk, hc, n, by simpa using hs⟩, ?_⟩
  have e:=r.length;simp only[xQ] at e;lia
def Inv.list_inj(I:Inv X pins σ H s)(h:SqL X.K H a xs)(h':SqL X.K H a ys):xs=ys:=by
 obtain⟨its,r,⟨o,n,e,_,_,d⟩,_⟩:=I.list h;obtain⟨its',r',⟨o',n',e',_,_,d'⟩,_⟩:=I.list h';rw[e] at e';cases e';rw[d] at d';injection d' with d1 _
 have:its=its':=by simpa using congrArg Array.toList d1
 subst this;exact r.inj r'
def Inv.tuple_inj(I:Inv X pins σ H s)(h:SqT X.K H a xs)(h':SqT X.K H a ys):xs=ys:=by
 obtain⟨its,r,⟨o,e,_,n,d⟩,_⟩:=I.tuple h;obtain⟨its',r',⟨o',e',_,n',d'⟩,_⟩:=I.tuple h';rw[e] at e';cases e';rw[d] at d';injection d' with d1 _
 have:its=its':=by simpa using congrArg Array.toList d1
 subst this;exact r.inj r'
end
abbrev Cx.wish(X:Cx)(E:Value->Shared->Prop):Cx:={ X with xe:=E }
abbrev Cx.nox(X:Cx):Cx:=X.wish λ_ _=>False
def Cx.Ok.wish{X:Cx}(ok:X.Ok)(E:Value->Shared->Prop):(X.wish E).Ok:=
 ⟨ok.mod,ok.kind,ok.glob,ok.blt,ok.above,ok.inj,ok.has,ok.cab,ok.hd,ok.frames,ok.stk,ok.exf,ok.bs,ok.bsz,ok.noex,ok.exfs,ok.funs,ok.frf⟩
def Cx.Ok.unwish{X:Cx}{E:Value->Shared->Prop}(ok:(X.wish E).Ok):X.Ok:=
 ⟨ok.mod,ok.kind,ok.glob,ok.blt,ok.above,ok.inj,ok.has,ok.cab,ok.hd,ok.frames,ok.stk,ok.exf,ok.bs,ok.bsz,ok.noex,ok.exfs,ok.funs,ok.frf⟩
section
variable {X:Cx}{pins:List (Addr × Obj)}{σ:St}{H:Hp}{s:Shared}{E:Value->Shared->Prop}
def Inv.wish(I:Inv X pins σ H s)(E:Value->Shared->Prop):Inv (X.wish E) pins σ H s:=⟨I.ok.wish E,I.os,I.bare,I.base,I.loc,I.cell,I.free,I.freeC,I.pin,I.hok,I.len⟩
def Inv.unwish(I:Inv (X.wish E) pins σ H s):Inv X pins σ H s:=⟨I.ok.unwish,I.os,I.bare,I.base,I.loc,I.cell,I.free,I.freeC,I.pin,I.hok,I.len⟩
def SP.unwish{D:JM}{f:Flow}{s':Shared}(h:SP (X.wish E) pins D f s'):SP X pins D f s':=by
 cases f with
 |next=>obtain⟨σ',H',I,q⟩:=h;exact⟨σ',H',I.unwish,q⟩
 |brk=>obtain⟨σ',H',I,q⟩:=h;exact⟨σ',H',I.unwish,q⟩
 |cont=>obtain⟨σ',H',I,q⟩:=h;exact⟨σ',H',I.unwish,q⟩
 |ret u=>obtain⟨v,σ',H',I,r,q⟩:=h;exact⟨v,σ',H',I.unwish,r,q⟩
def PSs.nox{st:List Stmt}{t:TS}(h:PSs X.nox st t):PSs X st t:=λpins s σ H D I hw=>
 wx (h pins s σ H D (I.wish _) hw) (λ_ _ q=>q.unwish) λ_ _ z=>False.elim z
end
section
variable {X:Cx}{st:Stmt}{rest:List Stmt}{t u:TS}{e:Expr}{te:TE}{pos:Pos}
def xm4:TS:=λD σ H=>D.nx σ H
def xH2(t u:TS):TS:=λD σ H=>t { D with nx:=u D } σ H
def zh2:PSs X [] xm4:=λ_ _ σ H _ I h=>wpAny_execs_nil ⟨σ,H,I,h⟩
def Vj(h1:PS X st t)(h2:PSs X rest u):PSs X (st::rest) (xH2 t u):=by
 intro pins s σ H D I h;refine wpAny_execs_cons (thn (h1 pins s σ H { D with nx:=u D } I h) λf s1 q=>?_)
 cases f with
 |next=>
  obtain⟨σ',H',I',q⟩:=q;exact h2 pins s1 σ' H' D I' q
 |ret v=>exact q
 |brk=>exact q
 |cont=>exact q
def zK9(h1:PS X st t):PSs X [st] t:=by
 intro pins s σ H D I h;refine wpAny_execs_cons (thn (h1 pins s σ H D I h) λf s1 q=>?_)
 cases f with
 |next=>exact wpAny_execs_nil q
 |ret v=>exact q
 |brk=>exact q
 |cont=>exact q
def Inv.quiet{pins:List (Addr × Obj)}{σ:St}{H:Hp}{s:Shared}(I:Inv X pins σ H s):interactive X.env=false:=by simp[interactive,I.ok.kind]
def xm5(te:TE):TS:=λD σ H=>te σ H λ_ H1=>D.nx σ H1
def zh7(he:PE X e te)(hs:swapsWith e none pos.line X.env=pure false:=by rfl):PS X (.Expr e pos) (xm5 te):=by
 intro pins s σ H D I h;exact wpAny_Expr_any (thn (he pins s σ H _ I h) λv s1 ⟨x,H1,I1,r1,q1⟩=>⟨σ,H1,I1,q1⟩) I.quiet hs
def xH3(te:TE):TS:=λD σ H=>te σ H D.rt
def zE6(he:PE X e te):PS X (.Return (some e) pos) (xH3 te):=by
 intro pins s σ H D I h;exact wpAny_Return_some (thn (he pins s σ H _ I h) λv s1 ⟨x,H1,I1,r1,q1⟩=>⟨x,σ,H1,I1,r1,q1⟩)
def xH8(c:TT)(t u:TS):TS:=λD σ H=>c σ H λb H1=>if b=true then t D σ H1 else u D σ H1
def xv9{c:Expr}{a b:List Stmt}{tc:TT}(hc:PT X c tc)(ha:PSs X a t)(hb:PSs X b u):PS X (.If c a b pos) (xH8 tc t u):=by
 intro pins s σ H D I h;refine wpAny_If (thn (hc pins s σ H _ I h) λd s1 ⟨H1,I1,q1⟩=>?_)
 cases d with
 |true=>exact ha pins s1 σ H1 D I1 q1
 |false=>exact hb pins s1 σ H1 D I1 q1
end
abbrev TG:=V->St->Hp->(St->Hp->Prop)->Prop
abbrev TGs:=List V->St->Hp->(St->Hp->Prop)->Prop
def PG(X:Cx)(target:Expr)(t:TG):Prop:=
 ∀(pins:List (Addr × Obj)) (s:Shared) (σ:St) (H:Hp) (v:V) (u:Value) (Q:St->Hp->Prop),Inv X pins σ H s->RelV v u->t v σ H Q ->
  wpAny (model X.prog X.w) X.A (assign target X.env u) (λ_ s'=>∃σ' H',Inv X pins σ' H' s'/\Q σ' H') X.xe s
def PGs(X:Cx)(ts:List Expr)(t:TGs):Prop:=
 ∀(pins:List (Addr × Obj)) (s:Shared) (σ:St) (H:Hp) (vs:List V) (us:List Value) (Q:St->Hp->Prop),Inv X pins σ H s->Vals vs us->t vs σ H Q ->
  wpAny (model X.prog X.w) X.A (assignInOrder ((assignEach ts X.env).map (·.2)) us) (λ_ s'=>∃σ' H',Inv X pins σ' H' s'/\Q σ' H') X.xe s
abbrev xz1:=V->V->V->Hp->(Hp->Prop)->Prop
def xG4(X:Cx)(t:xz1):Prop:=
 ∀(pins:List (Addr × Obj)) (s:Shared) (σ:St) (H:Hp) (o i v:V) (ov iv u:Value) (Q:Hp->Prop),Inv X pins σ H s->RelV o ov->RelV i iv->RelV v u->t o i v H Q ->
  wpAny (model X.prog X.w) X.A (setItem ov iv u) (λ_ s'=>∃H',Inv X pins σ H' s'/\Q H') X.xe s
abbrev TIp:=V->V->Hp->VK->Prop
def PIp(X:Cx)(op:Operator)(t:TIp):Prop:=
 ∀(pins:List (Addr × Obj)) (s:Shared) (σ:St) (H:Hp) (x y:V) (v u:Value) (Q:VK),Inv X pins σ H s->RelV x v->RelV y u->t x y H Q ->
  wpAny (model X.prog X.w) X.A (inplaceOp op v u) (EP X pins σ Q) X.xe s
section
variable {X:Cx}{pos:Pos}
def zB5(i:Nat):TG:=λv σ H Q=>Q (σ.set i (some v)) H
def zL5{i:Nat}{x:Str}(hN:X.N.Nodup)(hi:X.N[i]?=some x)(hx:Loc X.env.scope x)(hf:X.fn x=true\/X.env.scope.names.lookup x=some .local:=by first |exact .inl rfl |exact .inr rfl |assumption):PG X (.Name x pos) (zB5 i):=by
 intro pins s σ H v u Q I r h;exact wpAny_assign_Name (qb I hN hi hx r (λs' I'=>⟨_,H,I',h⟩) hf)
def xN3:TGs:=λvs σ H Q=>vs=[]/\Q σ H
def xy2(t:TG)(u:TGs):TGs:=λvs σ H Q=>∃v r,vs=v::r/\t v σ H λσ' H'=>u r σ' H' Q
def zL4:PGs X [] xN3:=by
 intro pins s σ H vs us Q I r h;obtain⟨e,h⟩:=h;subst e;cases r;exact assignInOrder_nil ⟨σ,H,I,h⟩
def zx4{e:Expr}{es:List Expr}{t:TG}{u:TGs}(h1:PG X e t)(h2:PGs X es u)
  (hs:(assignEach (e::es) X.env).map (·.2)=assign e X.env::(assignEach es X.env).map (·.2):=by rfl):PGs X (e::es) (xy2 t u):=by
 intro pins s σ H vs us Q I r h;obtain⟨v,vr,e1,h⟩:=h;subst e1
 cases r with
 |cons r rr=>
  rw[hs];refine assignInOrder_cons (thn (h1 pins s σ H _ _ _ I r h) λ_ s1 ⟨σ1,H1,I1,q1⟩=>?_);exact h2 pins s1 σ1 H1 _ _ Q I1 rr q1
def xN1(K:W.Frag)(n:Nat)(t:TGs):TG:=λv σ H Q=>∃a xs,v=.ref a/\SqT K H a xs/\xs.length=n/\t xs σ H Q
def zY9{es:List Expr}{k:Nat}{t:TGs}{n:Nat}(hc:X.calm=true)(h:PGs X es t)
  (hn:(assignEach es X.env).length=n:=by rfl) (hst:(assignEach es X.env).findIdx? (·.1)=none:=by rfl):PG X (.Tuple es k pos) (xN1 X.K n t):=by
 intro pins s σ H v u Q I r hw;obtain⟨a,xs,e1,hq,hl,hw⟩:=hw;subst e1;cases r;obtain⟨its,rv,ht,hz⟩:=I.tuple hq
 refine assign_Tuple_tuple (I.ok.hd hc) ht (by simp[hn,<- hl,rv.length]) hst λh' hx=>?_
 have I1:Inv X pins σ H { s with heap:=h' }:=I.kept (t':=s.toks) λb o e=>hx b o (zw (zo e)) e
 exact h pins _ σ H xs _ Q I1 (by simpa using rv) hw
def xN2(to ti:TE)(t:xz1):TG:=λv σ H Q=>to σ H λo H1=>ti σ H1 λi H2=>t o i v H2 λH3=>Q σ H3
def zZ0{o i:Expr}{to ti:TE}{t:xz1}(ho:PE X o to)(hi:PE X i ti)(hs:xG4 X t)
  (ha : ∀ v, assign (.Subscript o i pos) X.env v = (do
   let ov <- holding [v] (eval o X.env)
   let iv <- holding [v,ov] (eval i X.env)
   standAt pos
   holding [v,ov,iv] (setItem ov iv v)
   release [v,ov,iv] []):=by intro _;rfl):PG X (.Subscript o i pos) (xN2 to ti t):=by
 intro pins s σ H v u Q I r h;rw[ha];refine zb (xx (thn (ho pins s σ H _ I h) λov s1 ⟨x,H1,I1,r1,q1⟩=>?_));refine zb (xx (thn (hi pins s1 σ H1 _ I1 q1) λiv s2 ⟨y,H2,I2,r2,q2⟩=>?_));refine zb (va (zb (xx (thn (hs pins s2 σ H2 x y v ov iv u _ I2 r1 r2 r q2) λ_ s3 ⟨H3,I3,q3⟩=>?_))));exact wpAny_release ⟨σ,H3,I3,q3⟩
def xm9(te:TE)(g:TG):TS:=λD σ H=>te σ H λx H1=>g x σ H1 D.nx
def zh8{tg e:Expr}{te:TE}{g:TG}(he:PE X e te)(hg:PG X tg g)(hs:swapsWithSole [tg] e pos.line X.env=pure false:=by rfl)(hw:swappedStores [tg] e X.env=pure none:=by rfl)
  (h1:(assignEach [tg] X.env).map (·.2)=[assign tg X.env]:=by rfl):PS X (.Assign [tg] e pos) (xm9 te g):=by
 intro pins s σ H D I h;refine wpAny_Assign_stores (thn (he pins s σ H _ I h) λv s1 ⟨x,H1,I1,r1,q1⟩=>?_) hs hw;rw[h1];exact thn (hg pins s1 σ H1 x v _ I1 r1 q1) λ_ s2 q=>q
def JY{i:Nat}{x:Str}{e:Expr}{te:TE}{pos':Pos}(hN:X.N.Nodup)(hi:X.N[i]?=some x)(hx:Loc X.env.scope x)(he:PE X e te)(hs:swapsWith e (some (.Name x pos')) pos.line X.env=pure false:=by rfl)(hf:X.fn x=true\/X.env.scope.names.lookup x=some .local:=by first |exact .inl rfl |exact .inr rfl |assumption) :
  PS X (.Assign [.Name x pos'] e pos) (xm9 te (zB5 i)):=by
 intro pins s σ H D I h;refine wpAny_Assign_Name (thn (he pins s σ H _ I h) λv s1 ⟨y,H1,I1,r1,q1⟩=>?_) hs;exact qb I1 hN hi hx r1 (λs2 I2=>⟨_,H1,I2,q1⟩) hf
def xH4(i j:Nat)(ta:TA):TS:=λD σ H=>ta σ H λvs H1=>∃v w,vs=[v,w]/\D.nx ((σ.set i (some v)).set j (some w)) H1
def zE7{i j:Nat}{x y:Str}{a b:Expr}{ta:TA}{px py pt:Pos}{kt k2 pt2}(hc:X.calm=true)(hN:X.N.Nodup)(hi:X.N[i]?=some x)(hj:X.N[j]?=some y)(hij:i≠j)
  (hx:X.env.scope.names.lookup x=some .local) (hy:X.env.scope.names.lookup y=some .local) (ha:PA X [a,b] ta)
  (hw:swappedStores [.Tuple [.Name x px,.Name y py] kt pt] (.Tuple [a,b] k2 pt2) X.env=pure (some [x,y]))
  (hs:swapsWithSole [.Tuple [.Name x px,.Name y py] kt pt] (.Tuple [a,b] k2 pt2) pos.line X.env=pure false:=by rfl) :
  PS X (.Assign [.Tuple [.Name x px,.Name y py] kt pt] (.Tuple [a,b] k2 pt2) pos) (xH4 i j ta):=by
 intro pins s σ H D I h;rw[exec_Assign_arm];refine zb (va ?_);rw[hs];refine zb (zd ?_)
 rw[if_neg w6]
 refine zb (Tuple_ (thn (ha _ pins s σ H _ I h) λus s1 ⟨vs,H1,I1,r1,q1⟩=>?_));obtain⟨v,w,e1,q1⟩:=q1;subst e1
 obtain⟨u1,u2,rfl,rv,rw'⟩:∃u1 u2,us=[u1,u2]/\RelV v u1/\RelV w u2:=by
  cases r1 with
  | cons p q =>
   cases q with
   |cons p' q'=>
    cases q';exact⟨_,_,rfl,p,p'⟩
 refine xp ?_ (by show 2<=sizeLine;decide)
 have I2:Inv X pins σ H1 { s1 with heap:=s1.heap.push { cls:=.type "tuple",data:=.seq [u1,u2].toArray } }:=I1.kept (t':=s1.toks) λb o e=>ze _ e;rw[hw];refine zb (zd ?_)
 show wpAny (model X.prog X.w) X.A (do rule "assign.swapped-stores";let items <- unpackItems (.ref s1.heap.objs.size) 2 none;assignInOrder [λv=>bindName X.env y v,λv=>bindName X.env x v] items.reverse;pure Flow.next) _ _ _
 refine zb (yo (zb (unpackItems_tuple (items:=#[u1,u2]) (I.ok.hd hc) (IsTup.new s1.heap _) λh' hx'=>?_)));have I3:=I2.kept (h':=h') (t':=s1.toks) λb o e=>hx' b o (zw (zo e)) e;show wpAny _ _ (assignInOrder [λv=>bindName X.env y v,λv=>bindName X.env x v] [u2,u1] >>= λ_=>pure Flow.next) _ _ _;refine zb (assignInOrder_cons (wpAny_bindName (qb I3 hN hj (.inl hy) rw' (λs2 I4=>?_) (.inr hy))));refine assignInOrder_cons (wpAny_bindName (qb I4 hN hi (.inl hx) rv (λs3 I5=>assignInOrder_nil (zd ?_)) (.inr hx)));rw[set_comm _ _ (Ne.symm hij)] at I5;exact⟨_,H1,I5,q1⟩
def xI0(i:Nat)(te:TE)(ti:TIp):TS:=λD σ H=>∃x,σ[i]?=some (some x)/\te σ H λy H1=>ti x y H1 λz H2=>D.nx (σ.set i (some z)) H2
def zY6{i:Nat}{x:Str}{e:Expr}{te:TE}{op:Operator}{ti:TIp}{pos':Pos}(hN:X.N.Nodup)(hi:X.N[i]?=some x)(hx:Loc X.env.scope x)(he:PE X e te)(ho:PIp X op ti)(hf:X.fn x=true\/X.env.scope.names.lookup x=some .local:=by first |exact .inl rfl |exact .inr rfl |assumption) :
  PS X (.AugAssign (.Name x pos') op e pos) (xI0 i te ti):=by
 intro pins s σ H D I h;obtain⟨v,e1,h⟩:=h;obtain⟨m,hn,hl⟩:=I.loc
 have vis:Vis X.env.scope x:=by rcases hx with k |k;exact .inl k;exact .inr (.inl k)
 obtain⟨u,r,l⟩:=hl i x v hi e1 vis;refine wpAny_AugAssign_Name ?_
 have go:wpAny (model X.prog X.w) X.A (eval e X.env) (λw s₂=>wpAny (model X.prog X.w) X.A (inplaceOp op u w) (λr s₃=>wpAny (model X.prog X.w) X.A (storeName X.env x r) (λ_=>SP X pins D .next) X.xe s₃) X.xe s₂) X.xe s:=by
  refine thn (he pins s σ H _ I h) λw s1 ⟨y,H1,I1,r1,q1⟩=>?_;refine thn (ho pins s1 σ H1 v y u w _ I1 r r1 q1) λz s2 ⟨zv,H2,I2,r2,q2⟩=>?_;exact qb I2 hN hi hx r2 (λs3 I3=>⟨_,H2,I3,q2⟩) hf
 rcases l with ⟨hk,hm⟩ |⟨hk,c,hc,hcell⟩
 ·exact wpAny_loadName_local I.ok.kind hk hn hm go
 ·rcases hk with hk | hk
  ·exact wpAny_loadName_cell I.ok.kind hk hc hcell go
  ·rcases hx with k | k
   ·have:X.env.scope.names.lookup x=some .free:=hk;rw[k] at this;cases this
   ·have:X.env.scope.names.lookup x=some .free:=hk;rw[k] at this;cases this
def ipI(f:Int->Int->Int):TIp:=λx y H Q=>∃i j,x=.int i/\y=.int j/\Q (.int (f i j)) H
def xd5:PIp X .Add (ipI λi j=>i+j):=by
 intro pins s σ H x y v u Q I r1 r2 h;obtain⟨i,j,e1,e2,q⟩:=h;subst e1;subst e2;obtain⟨t,rfl⟩:=r1;obtain⟨t',rfl⟩:=r2;exact iadd_int ⟨.int _,H,I.tok _,⟨_,rfl⟩,q⟩
def zT4(c:TT)(tb:TS):TS:=λD σ H=>∃W:Nat->St->Hp->Prop,(∃m,W m σ H)/\∀m σ H,W m σ H ->
 c σ H λb H1=>if b=true then ∃N:St->Hp->Prop,(∀σ' H',N σ' H'->∃m',m'<m/\W m' σ' H')/\tb { D with nx:=N,ct:=N,bk:=D.nx } σ H1 else D.nx σ H1
def zx2{c:Expr}{body:List Stmt}{tc:TT}{tb:TS}(hp:PassesOwn (model X.prog X.w) X.A X.env X.xe)(hc:PT X c tc)(hb:PSs X body tb):PS X (.While c body [] pos) (zT4 tc tb):=by
 intro pins s σ H D I h;obtain⟨W,⟨m0,w0⟩,turn⟩:=h;refine wpAny_While (codeAny_whileLoop (λn s'=>∃σ' H',Inv X pins σ' H' s'/\W n σ' H') ?_ m0 ⟨σ,H,I,w0⟩);rintro n s1 ⟨σ1,H1,I1,w1⟩;refine yp hp (thn (hc pins s1 σ1 H1 _ I1 (turn n σ1 H1 w1)) λb s2 ⟨H2,I2,q2⟩=>?_)
 cases b with
 | true =>
  obtain⟨N,hN,q2⟩:=q2;rw[if_pos rfl];refine yp hp (thn (hb pins s2 σ1 H2 _ I2 q2) λf s3 q3=>?_)
  cases f with
  |next=>
   obtain⟨σ3,H3,I3,n3⟩:=q3;obtain⟨m',hm,w3⟩:=hN σ3 H3 n3;exact⟨m',hm,σ3,H3,I3,w3⟩
  |cont=>
   obtain⟨σ3,H3,I3,n3⟩:=q3;obtain⟨m',hm,w3⟩:=hN σ3 H3 n3;exact⟨m',hm,σ3,H3,I3,w3⟩
  |brk=>exact q3
  |ret v=>exact q3
 |false=>
  rw[if_neg zI];exact wpAny_execs_nil ⟨σ1,H2,I2,q2⟩
end
structure It where
 go:Nat->Hp->Prop
 yld:Nat->Hp->V->Hp->Prop
 stop:Nat->Hp->Prop
def FpOk(X:Cx)(pins:List (Addr × Obj))(H:Hp)(b:Addr):Prop:=
 H b=none/\b≠X.env.locals/\b ∉ X.fs/\(b∈X.ex\/X.s₀.heap.objs.size<=b)/\(∀x c,X.env.cells.lookup x=some c->c≠b)/\∀p∈X.pn++pins,p.1≠b
def Inv.fpOk{X:Cx}{pins:List (Addr × Obj)}{σ:St}{H H':Hp}{s:Shared}{b:Addr}(I:Inv X pins σ H s)(hb:s.heap.objs.size<=b)(hn:H' b=none):FpOk X pins H' b:=by
 refine⟨hn,xN (zL I.lt hb),I.nofs hb,.inr (zy I.sz hb),λx c e z=>?_,λp hp z=>?_⟩
 ·obtain ⟨v, q⟩ := I.cell x c e
  exact absurd (zL q.lt (by rw[z];exact hb)) (xl _)
 ·exact absurd (zL (zo (I.pin p hp).1) (by rw[z];exact hb)) (xl _)
structure Turn(P:Program)(w:World)(K:W.Frag)(tg:Expr)(J:It)(fp:List Addr)(it:Addr)(tn:Nat->Heap->Prop):Prop where
 mem:it∈fp
 obj:∀i h,tn i h->∀b∈fp,∃o,h.get? b=some o/\∀v,o.data≠.cell v
 keep:∀i h h',tn i h->(∀b∈fp,∀o,h.get? b=some o->h'.get? b=some o)->tn i h'
 item:∀(X:Cx),X.prog=P->X.w=w->X.K=K->X.calm=true->∀(i:Nat) (pins:List (Addr × Obj)) (s:Shared) (σ:St) (H:Hp) (E:Value->Shared->Prop),Inv X pins σ H s->(∀b∈fp,FpOk X pins H b)->tn i s.heap->J.go i H ->
  wpAny (model P w) X.A (pyNext (.ref it)) (λr s1=>∃u,r=some u /\
   wpAny (model P w) X.A (letOwnedTupleGo tg (.ref it) u) (λ_ s2=>∃x H',Inv X pins σ H' s2/\RelV x u/\J.yld i H x H'/\tn (i+1) s2.heap/\∀b∈fp,H' b=none) E s1) E s
 done:∀(X:Cx),X.prog=P->X.w=w->X.K=K->X.calm=true->∀(i:Nat) (pins:List (Addr × Obj)) (s:Shared) (σ:St) (H:Hp) (E:Value->Shared->Prop),Inv X pins σ H s->(∀b∈fp,FpOk X pins H b)->tn i s.heap->J.stop i H ->
  wpAny (model P w) X.A (pyNext (.ref it)) (λr s1=>r=none/\Inv X pins σ H s1) E s
 self:∀(A:Around) (i:Nat) (s:Shared) (Q:Value->Shared->Prop) (E:Value->Shared->Prop),tn i s.heap->Q (.ref it) s->wpAny (model P w) A (pyIter (.ref it)) Q E s
abbrev TI:=St->Hp->(It->Hp->Prop)->Prop
def PIE(X:Cx)(pins:List (Addr × Obj))(σ:St)(tg:Expr)(R:It->Hp->Prop)(itv:Value)(s2:Shared):Prop:=
 ∃(it:Addr) (fp:List Addr) (tn:Nat->Heap->Prop) (J:It) (H':Hp),itv=.ref it/\Inv X pins σ H' s2/\Turn X.prog X.w X.K tg J fp it tn/\tn 0 s2.heap/\(∀b∈fp,FpOk X pins H' b)/\R J H'
def PI(X:Cx)(tg iter:Expr)(wi:TI):Prop:=
 ∀(pins:List (Addr × Obj)) (s:Shared) (σ:St) (H:Hp) (R:It->Hp->Prop),Inv X pins σ H s->wi σ H R ->
  wpAny (model X.prog X.w) X.A (eval iter X.env) (λv s1=>wpAny (model X.prog X.w) X.A (pyIter v) (PIE X pins σ tg R) X.xe s1) X.xe s
def zQ5{M:Model}{A:Around}{E:Value->Shared->Prop}{s:Shared}{tg:Expr}{it:Addr}{u:Value}{o:Obj}{n:String}{vs:Array Value}{Q:Unit->Shared->Prop}(ho:s.heap.get? it=some o)(hc:o.cls=.type n)(hd:o.data=.fields vs)
    (hn:["enumerate","zip","dict_itemiterator","dict_reverseitemiterator","odict_iterator","itertools.zip_longest","itertools.pairwise"].contains n=false) (hQ:Q () s):wpAny M A (letOwnedTupleGo tg (.ref it) u) Q E s:=by
  unfold letOwnedTupleGo
  cases tg <;> first
    |exact zd hQ
    |(cases u<;>first
        |exact zd hQ
        | (refine zb (wpAny_load ho ?_)
           rw[hc,hd]
           show wpAny M A (if (["enumerate","zip","dict_itemiterator","dict_reverseitemiterator","odict_iterator","itertools.zip_longest","itertools.pairwise"].contains n&&vs[0]? == some (rawInt _))=true then _ else _) Q E s
           rw[if_neg (by intro h;rw[hn,Bool.false_and] at h;cases h)]
           exact zd hQ))
def Itl(K:W.Frag)(a:Addr):It:=
 ⟨λi H=>∃xs x,SqL K H a xs/\xs[i]?=some x,λi H x H'=>H'=H/\∀xs,SqL K H a xs->xs[i]?=some x,λi H=>∃xs,SqL K H a xs/\xs.length<=i⟩
def Itt(K:W.Frag)(a:Addr):It:=
 ⟨λi H=>∃xs x,SqT K H a xs/\xs[i]?=some x,λi H x H'=>H'=H/\∀xs,SqT K H a xs->xs[i]?=some x,λi H=>∃xs,SqT K H a xs/\xs.length<=i⟩
def Itr(lo:Int)(n:Nat):It:=⟨λi _=>i<n,λi H x H'=>H'=H/\x=.int (lo+i),λi _=>n<=i⟩
def ze0{P:Program}{w:World}{K:W.Frag}{tg:Expr}(a it:Addr):Turn P w K tg (Itl K a) [it] it (λi h=>h.IsListIter it a i) where
 mem:=by simp
 obj:=λi h st b hb=>by
  have e:b=it:=by simpa using hb
  subst e;obtain⟨o,e,c,d⟩:=st
  exact⟨o,e,λv z=>by rw[d] at z;cases z⟩
 keep:=λi h h' st k=>st.at λo e=>k it (by simp) o e
 item:=by
  intro X hP hw hK hc i pins s σ H E I hf st hg;subst hP hw hK;obtain⟨xs,x,hq,hx⟩:=hg;obtain⟨its,rv,p,hz⟩:=I.list hq;obtain⟨u,hu,ru⟩:=rv.get hx
  obtain⟨f0,f1,f2,f3,f4,f5⟩:=hf it (by simp)
  refine wpAny_pyNext_list_item st p.isList (x:=u) (by simpa using hu) λh' st' sb=>?_
  have I1:Inv X pins σ H { s with heap:=h' }:=I.turned (t':=s.toks) (λb o hb e=>(sb.2 b hb).trans e) f0 f1 f3 f4 f5;obtain⟨o,e,c,d⟩:=id st'
  exact⟨u,rfl,zQ5 (s:={ s with heap:=h' }) e c d w6 ⟨x,H,I1,ru,⟨rfl,λys hy=>by rw[I.list_inj hy hq];exact hx⟩,st',λb hb=>(hf b hb).1⟩⟩
 done:=by
  intro X hP hw hK hc i pins s σ H E I hf st hg;subst hP hw hK;obtain⟨xs,hq,hx⟩:=hg;obtain⟨its,rv,p,hz⟩:=I.list hq
  obtain⟨f0,f1,f2,f3,f4,f5⟩:=hf it (by simp)
  have hl:=rv.length
  exact wpAny_pyNext_list_end (I.ok.hd hc) st p.isList (by simp;lia) λh' eb=>⟨rfl,I.turned (t':=s.toks) (λb o hb e=>eb b o hb e) f0 f1 f3 f4 f5⟩
 self:=λ_ _ _ _ _ st h=>wpAny_pyIter_listiter st h
def QL{P:Program}{w:World}{K:W.Frag}{tg:Expr}(a it:Addr):Turn P w K tg (Itt K a) [it] it (λi h=>h.IsTupleIter it a i) where
 mem:=by simp
 obj:=λi h st b hb=>by
  have e:b=it:=by simpa using hb
  subst e;obtain⟨o,e,c,d⟩:=st
  exact⟨o,e,λv z=>by rw[d] at z;cases z⟩
 keep:=λi h h' st k=>st.at λo e=>k it (by simp) o e
 item:=by
  intro X hP hw hK hc i pins s σ H E I hf st hg;subst hP hw hK;obtain⟨xs,x,hq,hx⟩:=hg;obtain⟨its,rv,p,hz⟩:=I.tuple hq;obtain⟨u,hu,ru⟩:=rv.get hx
  obtain⟨f0,f1,f2,f3,f4,f5⟩:=hf it (by simp)
  refine wpAny_pyNext_tuple_item st (show s.heap.IsTuple a its.toArray from p) (x:=u) (by simpa using hu) λh' st' sb=>?_
  have I1:Inv X pins σ H { s with heap:=h' }:=I.turned (t':=s.toks) (λb o hb e=>(sb.2 b hb).trans e) f0 f1 f3 f4 f5;obtain⟨o,e,c,d⟩:=id st'
  exact⟨u,rfl,zQ5 (s:={ s with heap:=h' }) e c d w6 ⟨x,H,I1,ru,⟨rfl,λys hy=>by rw[I.tuple_inj hy hq];exact hx⟩,st',λb hb=>(hf b hb).1⟩⟩
 done:=by
  intro X hP hw hK hc i pins s σ H E I hf st hg;subst hP hw hK;obtain⟨xs,hq,hx⟩:=hg;obtain⟨its,rv,p,hz⟩:=I.tuple hq
  obtain⟨f0,f1,f2,f3,f4,f5⟩:=hf it (by simp)
  have hl:=rv.length
  exact wpAny_pyNext_tuple_end (I.ok.hd hc) st (show s.heap.IsTuple a its.toArray from p) (by simp;lia) λh' eb=>⟨rfl,I.turned (t':=s.toks) (λb o hb e=>eb b o hb e) f0 f1 f3 f4 f5⟩
 self:=λ_ _ _ _ _ st h=>wpAny_pyIter_tupleiter st h
def QM{P:Program}{w:World}{K:PySem.W.Frag}{tg:Expr}(it:Addr)(lo:Int)(n:Nat):Turn P w K tg (Itr lo n) [it] it (λi h=>IsRangeIter h it (lo+(i:Nat)*1) ((n:Int)-(i:Nat)) 1) where
 mem:=by simp
 obj:=λi h st b hb=>by
  have e:b=it:=by simpa using hb
  subst e
  exact⟨_,st,λv z=>by
   have z':Data.fields _=Data.cell v:=z
   cases z'⟩
 keep:=λi h h' st k=>k it (by simp) _ st
 item:=by
  intro X hP hw hK hc i pins s σ H E I hf st hg;subst hP hw hK
  obtain⟨f0,f1,f2,f3,f4,f5⟩:=hf it (by simp)
  have W:=Walks.range (prog:=X.prog) (w:=X.w) (I.ok.hd hc) it lo 1 n;refine W.item i s _ _ hg st λv h' tk hv st' kk=>?_;obtain⟨t,rfl⟩:=hv
  have I1:Inv X pins σ H { s with heap:=h',toks:=tk }:=I.turned (λb o hb e=>kk b o (by simpa using hb) e) f0 f1 f3 f4 f5
  refine⟨_,rfl,zQ5 (s:={ s with heap:=h',toks:=tk }) (n := "range_iterator") st' rfl rfl w6 ⟨.int (lo+i),H,I1,⟨t,?_⟩,⟨rfl,rfl⟩,st',λb hb=>(hf b hb).1⟩⟩
  rw[Int.mul_one]
 done:=by
  intro X hP hw hK hc i pins s σ H E I hf st hg;subst hP hw hK
  obtain⟨f0,f1,f2,f3,f4,f5⟩:=hf it (by simp)
  exact wpAny_pyNext_range_end (I.ok.hd hc) st (by have:n<=i:=hg;lia) λh' eb=>⟨rfl,I.turned (t':=s.toks) (λb o hb e=>eb b o hb e) f0 f1 f3 f4 f5⟩
 self:=λ_ _ _ _ _ st h=>wpAny_pyIter_rangeiter st h
section
variable {X:Cx}{tg:Expr}
def zw3{pins:List (Addr × Obj)}{σ:St}{H:Hp}{s:Shared}{R:It->Hp->Prop}{E:Value->Shared->Prop}{lo hi:Int}{t u v:Tok}{tk:Nat}(I:Inv X pins σ H s)(h1:-(2^62)<=lo)(h2:lo<2^62)(h3:-(2^62)<=hi)(h4:hi<2^62)
  (q:R (Itr lo (hi-lo).toNat) H):wpAny (model X.prog X.w) X.A (pyIter (.ref s.heap.objs.size)) (PIE X pins σ tg R) E { s with heap:=s.heap.push { cls:=.type "range",data:=.fields #[.int lo t,.int hi u,.int 1 v] },toks:=tk }:=by
 refine wpAny_pyIter_range (IsRange.new ..) (small_one h1 h2 h3 h4) ?_;have I1:Inv X pins σ H { s with heap:=s.heap.push { cls:=.type "range",data:=.fields #[.int lo t,.int hi u,.int 1 v] },toks:=tk }:=I.kept λb o e=>ze _ e
 refine⟨(s.heap.push { cls:=.type "range",data:=.fields #[.int lo t,.int hi u,.int 1 v] }).objs.size,[(s.heap.push { cls:=.type "range",data:=.fields #[.int lo t,.int hi u,.int 1 v] }).objs.size],_,_,H,rfl,
  I1.kept (t':=tk) λb o e=>ze _ e,QM _ lo (hi-lo).toNat,?_,λb hb=>?_,q⟩
 ·have e1 : lo + ((0 : Nat) : Int) * 1 = lo := by simp
  have e2:(((hi-lo).toNat:Nat):Int)-((0:Nat):Int)=Builtin.Range.rangeSize lo hi 1:=by rw[rangeSize_one];split<;>lia
  show IsRangeIter _ _ (lo+((0:Nat):Int)*1) ((((hi-lo).toNat:Nat):Int)-((0:Nat):Int)) 1;rw[e1,e2];exact zp _ rfl
 ·have e : b = (s.heap.push { cls := .type "range", data := .fields #[.int lo t, .int hi u, .int 1 v] }).objs.size := by simpa using hb
  subst e;exact I1.fpOk (zn _) (I1.hok.fresh (zn _))
def xy0(ta:TA):TI:=λσ H R=>ta σ H λvs H1=>∃j:Int,vs=[.int j]/\-(2^62)<=j/\j<2^62/\R (Itr 0 j.toNat) H1
def zi2{a:Expr}{ta:TA}{p pos:Pos}(hg:Gl X "range")(hm:X.mg "range" = none)(ha:PA X [a] ta)(hs:starEach [a] X.env=[(false,eval a X.env)]:=by rfl):PI X tg (.Call (.Name "range" p) [a] [] pos) (xy0 ta):=by
 intro pins s σ H R I h;refine Call_ (UR I hg hm boot_range (PyProof.Rows.callWith_type1 (thn (ha pos pins s σ H _ I h) λus s1 ⟨vs,H1,I1,r1,q1⟩=>?_) hs rfl));obtain⟨j,e,q1,q2,q⟩:=q1;subst e
 cases r1 with
 |cons r rr=>
  cases rr;obtain⟨t,rfl⟩:=r
  exact call_range_1 (zw3 I1 w5 w5 q1 q2 (by simpa using q))
def xH9(wi:TI)(g:TG)(tb:TS):TS:=λD σ H=>wi σ H λJ H1=>∃W:Nat->Nat->St->Hp->Prop,(∃m,W 0 m σ H1)/\∀i m σ H,W i m σ H ->
 (J.stop i H/\D.nx σ H)\/(J.go i H/\∃N:St->Hp->Prop,(∀σ' H',N σ' H'->∃m',m'<m/\W (i+1) m' σ' H')/\∀x H',J.yld i H x H'->g x σ H' λσ2 H2=>tb { D with nx:=N,ct:=N,bk:=D.nx } σ2 H2)
def YZ(fp:List Addr)(h:Heap):List (Addr × Obj):=fp.filterMap λb=>(h.get? b).map λo=>(b,o)
def vU{fp:List Addr}{h:Heap}{b:Addr}{o:Obj}(hb:b∈fp)(e:h.get? b=some o):(b,o)∈YZ fp h:=List.mem_filterMap.mpr ⟨b,hb,by rw[e];rfl⟩
def zk5{fp:List Addr}{h:Heap}{p:Addr × Obj}(hp:p∈YZ fp h):p.1∈fp/\h.get? p.1=some p.2:=by
 obtain⟨b,hb,e⟩:=List.mem_filterMap.mp hp
 cases q:h.get? b with
 |none=>rw[q] at e;cases e
 |some o=>
  rw[q] at e;have e':(b,o)=p:=zF e;subst e';exact⟨hb,q⟩
def Inv.pinned{pins:List (Addr × Obj)}{σ:St}{H:Hp}{s:Shared}{fp:List Addr}(I:Inv X pins σ H s)(hf:∀b∈fp,FpOk X pins H b)(ho:∀b∈fp,∃o,s.heap.get? b=some o/\∀v,o.data≠.cell v):Inv X (pins++YZ fp s.heap) σ H s:=
 I.pins_of λp hp=>(xf.mp hp).elim (λz=>I.pin p (zr _ z)) λz=>by
  obtain⟨hb,e⟩:=zk5 z;obtain⟨f0,f1,f2,_⟩:=hf p.1 hb;obtain⟨o,e',d⟩:=ho p.1 hb;rw[e] at e';cases e';exact⟨e,f0,f1,f2,d⟩
def Inv.unpinned{pins pl:List (Addr × Obj)}{σ:St}{H:Hp}{s:Shared}(I:Inv X (pins++pl) σ H s):Inv X pins σ H s:=I.pins_of λp hp=>I.pin p (zr _ (xk _ hp))
def zY5{iter:Expr}{body:List Stmt}{wi:TI}{g:TG}{tb:TS}{pos:Pos}(hp:PassesOwn (model X.prog X.w) X.A X.env X.xe)(hc:X.calm=true)(hi:PI X tg iter wi)(hg:PG X tg g)(hb:PSs X body tb)
  (hs:∀x,foldedSetIterable iter X.env x=pure x:=by intro _;rfl):PS X (.For tg iter body [] pos) (xH9 wi g tb):=by
 intro pins s σ H D I h;refine wpAny_For (thn (hi pins s σ H _ I h) λv s1 h1=>thn h1 λitv s2 h2=>?_) hs;obtain⟨it,fp,tn,J,H2,e,I2,T,st2,f2,W,⟨m0,w0⟩,turn⟩:=h2;subst e;have stat:∀{H':Hp},(∀b∈fp,H' b=none)->∀b∈fp,FpOk X pins H' b:=λhn b hb=>⟨hn b hb,(f2 b hb).2⟩;refine codeAny_forLoop_any (λn s'=>∃i σ' H',Inv X pins σ' H' s'/\tn i s'.heap/\(∀b∈fp,H' b=none)/\W i n σ' H') ?_ m0 ⟨0,σ,H2,I2,st2,λb hb=>(f2 b hb).1,w0⟩;rintro n s3 ⟨i,σ3,H3,I3,st3,fr3,w3⟩
 rcases turn i n σ3 H3 w3 with ⟨stop,qn⟩ |⟨go,N,hN,step⟩
 ·refine yp hp (thn (T.done X rfl rfl rfl hc i pins s3 σ3 H3 X.xe I3 (stat fr3) st3 stop) λr s4 ⟨hr,I4⟩=>?_);subst hr;exact wpAny_execs_nil ⟨σ3,H3,I4,qn⟩
 ·refine yp hp (thn (T.item X rfl rfl rfl hc i pins s3 σ3 H3 X.xe I3 (stat fr3) st3 go) λr s4 ⟨u, hr, h4⟩ => ?_);subst hr;refine yp hp (thn h4 λ_ s5 ⟨x,H5,I5,r5,y5,st5,fr5⟩=>?_);have I5':=I5.pinned (stat fr5) (T.obj _ _ st5);refine yp hp (thn (hg _ s5 σ3 H5 x u _ I5' r5 (step x H5 y5)) λ_ s6 ⟨σ6,H6,I6,q6⟩=>?_);refine yp hp (thn (hb _ s6 σ6 H6 _ I6 q6) λf s7 q7=>?_)
  have again:∀{σ7:St}{H7:Hp},Inv X (pins++YZ fp s5.heap) σ7 H7 s7->N σ7 H7->∃m,m<n/\∃i σ' H',Inv X pins σ' H' s7/\tn i s7.heap/\(∀b∈fp,H' b=none)/\W i m σ' H':=λ{σ7 H7} I7 n7=>by
   obtain⟨m',hm,w7⟩:=hN σ7 H7 n7;refine⟨m',hm,i+1,σ7,H7,I7.unpinned,T.keep _ _ _ st5 λb hb o e=>(I7.pin (b,o) (zr _ (zr _ (vU hb e)))).1,λb hb=>?_,w7⟩;obtain⟨o,e,d⟩:=T.obj _ _ st5 b hb;exact(I7.pin (b,o) (zr _ (zr _ (vU hb e)))).2.1
  cases f with
  |next=>obtain⟨σ7,H7,I7,n7⟩:=q7;exact again I7 n7
  |cont=>obtain⟨σ7,H7,I7,n7⟩:=q7;exact again I7 n7
  |brk=>obtain⟨σ7,H7,I7,q7⟩:=q7;exact⟨σ7,H7,I7.unpinned,q7⟩
  |ret v=>obtain⟨x7,σ7,H7,I7,r7,q7⟩:=q7;exact⟨x7,σ7,H7,I7.unpinned,r7,q7⟩
end
abbrev R2:=V->V->Hp->VK->Prop
def OpR(X:Cx)(f:Value->Value->Sem Value)(r:R2):Prop:=
 ∀(pins:List (Addr × Obj)) (s:Shared) (σ:St) (H:Hp) (x y:V) (v u:Value) (Q:VK),Inv X pins σ H s->RelV x v->RelV y u->r x y H Q ->
  wpAny (model X.prog X.w) X.A (f v u) (EP X pins σ Q) X.xe s
def UnR(X:Cx)(f:Value->Sem Value)(r:V->Hp->VK->Prop):Prop:=
 ∀(pins:List (Addr × Obj)) (s:Shared) (σ:St) (H:Hp) (x:V) (v:Value) (Q:VK),Inv X pins σ H s->RelV x v->r x H Q ->
  wpAny (model X.prog X.w) X.A (f v) (EP X pins σ Q) X.xe s
def kG(X:Cx)(f:Value)(r:List V->Hp->VK->Prop):Prop:=
 ∀(pins:List (Addr × Obj)) (s:Shared) (σ:St) (H:Hp) (xs:List V) (us:List Value) (Q:VK),Inv X pins σ H s->Vals xs us->r xs H Q ->
  wpAny (model X.prog X.w) X.A (call f us) (EP X pins σ Q) X.xe s
def tOp(r:R2)(ta tb:TE):TE:=λσ H Q=>ta σ H λx H1=>tb σ H1 λy H2=>r x y H2 Q
def tUn(r:V->Hp->VK->Prop)(ta:TE):TE:=λσ H Q=>ta σ H λx H1=>r x H1 Q
def rI(C:Int->Int->Prop)(g:Int->Int->V):R2:=λx y H Q=>∃i j,x=.int i/\y=.int j/\C i j/\Q (g i j) H
def rI0(g:Int->Int->V):R2:=λx y H Q=>∃i j,x=.int i/\y=.int j/\Q (g i j) H
def rU(g:Int->V):V->Hp->VK->Prop:=λx H Q=>∃i,x=.int i/\Q (g i) H
section
variable {X:Cx}{a b c:Expr}{ta tb tc:TE}{pos:Pos}
def xy8(ha:PE X a ta)(hb:PE X b tb){pins:List (Addr × Obj)}{s:Shared}{σ:St}{H:Hp}{R:V->V->Hp->Prop}(I:Inv X pins σ H s)
  (h:ta σ H λx H1=>tb σ H1 λy H2=>R x y H2) {Q:Value->Shared->Prop}{f:Value->Value->Sem Value}
  (hf:∀v u s2 x y H2,Inv X pins σ H2 s2->RelV x v->RelV y u->R x y H2->wpAny (model X.prog X.w) X.A (f v u) Q X.xe s2) :
  wpAny (model X.prog X.w) X.A (eval a X.env) (λv s₁=>wpAny (model X.prog X.w) X.A (eval b X.env) (λu s₂=>wpAny (model X.prog X.w) X.A (f v u) Q X.xe s₂) X.xe s₁) X.xe s:=by
 refine thn (ha pins s σ H _ I h) λv s1 ⟨x,H1,I1,r1,q1⟩=>?_;refine thn (hb pins s1 σ H1 _ I1 q1) λu s2 ⟨y,H2,I2,r2,q2⟩=>?_;exact hf v u s2 x y H2 I2 r1 r2 q2
def xw1{op:Operator}{r:R2}(ho:OpR X (binaryOp op) r)(ha:PE X a ta)(hb:PE X b tb):PE X (.BinOp a op b pos) (tOp r ta tb):=by
 intro pins s σ H Q I h;exact wpAny_BinOp (xy8 ha hb I h λv u s2 x y H2 I2 rx ry q=>ho pins s2 σ H2 x y v u Q I2 rx ry q)
def xw0{op:UnaryOp}{r:V->Hp->VK->Prop}(ho:UnR X (unaryOp op) r)(ha:PE X a ta):PE X (.UnaryOp op a pos) (tUn r ta):=by
 intro pins s σ H Q I h;exact UnaryOp_ (thn (ha pins s σ H _ I h) λv s1 ⟨x,H1,I1,r1,q1⟩=>ho pins s1 σ H1 x v Q I1 r1 q1)
def opI{f:Value->Value->Sem Value}{C:Int->Int->Prop}{g:Int->Int->Int}
  (rule:∀(i j:Int) (t u:Tok) (s:Shared) (Q:Value->Shared->Prop) (E:Value->Shared->Prop),C i j->Q (.int (g i j) s.toks) { s with toks:=s.toks+1 }->wpAny (model X.prog X.w) X.A (f (.int i t) (.int j u)) Q E s) :
  OpR X f (rI C λi j=>.int (g i j)):=by
 intro pins s σ H x y v u Q I rx ry h;obtain⟨i,j,rfl,rfl,hc,q⟩:=h;obtain⟨t,rfl⟩:=rx;obtain⟨t',rfl⟩:=ry;exact rule i j t t' s _ _ hc ⟨.int (g i j),H,I.tok _,⟨_,rfl⟩,q⟩
def xF1{f:Value->Value->Sem Value}{g:Int->Int->Int}
  (rule:∀(i j:Int) (t u:Tok) (s:Shared) (Q:Value->Shared->Prop) (E:Value->Shared->Prop),Q (.int (g i j) s.toks) { s with toks:=s.toks+1 }->wpAny (model X.prog X.w) X.A (f (.int i t) (.int j u)) Q E s) :
  OpR X f (rI0 λi j=>.int (g i j)):=by
 intro pins s σ H x y v u Q I rx ry h;obtain⟨i,j,rfl,rfl,q⟩:=h;obtain⟨t,rfl⟩:=rx;obtain⟨t',rfl⟩:=ry;exact rule i j t t' s _ _ ⟨.int (g i j),H,I.tok _,⟨_,rfl⟩,q⟩
def xw7{f:Value->Value->Sem Value}{g:Int->Int->Bool}
  (rule:∀(i j:Int) (t u:Tok) (s:Shared) (Q:Value->Shared->Prop) (E:Value->Shared->Prop),Q (.bool (g i j)) s->wpAny (model X.prog X.w) X.A (f (.int i t) (.int j u)) Q E s) :
  OpR X f (rI0 λi j=>.bl (g i j)):=by
 intro pins s σ H x y v u Q I rx ry h;obtain⟨i,j,rfl,rfl,q⟩:=h;obtain⟨t,rfl⟩:=rx;obtain⟨t',rfl⟩:=ry;exact rule i j t t' s _ _ ⟨.bl (g i j),H,I,rfl,q⟩
def xG8(i j:Int):Prop:=0<j/\j<1073741824
def xG7(i j:Int):Prop:=0<=j/\j<=1000000/\i.natAbs<2^64
def CMul(i j:Int):Prop:=(-(2^64)<i/\i<2^64)\/(-(2^64)<j/\j<2^64)
def CMul.ok{i j:Int}(h:CMul i j):IntMulOk i j:=by
 rcases h with ⟨h1,h2⟩ |⟨h1,h2⟩
 ·exact .of_left (intBits_le_64 h1 h2)
 ·exact .of_right (intBits_le_64 h1 h2)
def xa5:OpR X (binaryOp .Add) (rI0 λi j=>.int (i+j)):=xF1 λ_ _ _ _ _ _ _ q=>add_int q
def xa1:OpR X (binaryOp .Sub) (rI0 λi j=>.int (i-j)):=xF1 λ_ _ _ _ _ _ _ q=>sub_int q
def xa3:OpR X (binaryOp .Mult) (rI CMul λi j=>.int (i*j)):=opI λ_ _ _ _ _ _ _ hc q=>mul_int q hc.ok
def zM9:OpR X (binaryOp .FloorDiv) (rI xG8 λi j=>.int (i/j)):=opI λi j _ _ _ _ _ hc q=>by
 have h1:(0:Int)<j:=hc.1;have h2:j<1073741824:=hc.2
 exact floordiv_int w5 (by rw[Int.fdiv_eq_ediv_of_nonneg i w5];exact q) (.inl (PyProof.noPylong_small w5))
def xa4:OpR X (binaryOp .Mod) (rI (λ_ j=>0<j) λi j=>.int (i%j)):=opI λi j _ _ _ _ _ hc q=>by
 have h1:(0:Int)<j:=hc
 exact mod_int' w5 (by rw[Int.fmod_eq_emod_of_nonneg i w5];exact q)
def xa2:OpR X (binaryOp .Pow) (rI xG7 λi j=>.int (i^j.toNat)):=opI λ_ _ _ _ _ _ _ hc q=>pow_int_small hc.1 hc.2.1 hc.2.2 q
def unI{f:Value->Sem Value}{g:Int->Int}
  (rule:∀(i:Int) (t:Tok) (s:Shared) (Q:Value->Shared->Prop) (E:Value->Shared->Prop),Q (.int (g i) s.toks) { s with toks:=s.toks+1 }->wpAny (model X.prog X.w) X.A (f (.int i t)) Q E s) :
  UnR X f (rU λi=>.int (g i)):=by
 intro pins s σ H x v Q I rx h;obtain⟨i,rfl,q⟩:=h;obtain⟨t,rfl⟩:=rx;exact rule i t s _ _ ⟨.int (g i),H,I.tok _,⟨_,rfl⟩,q⟩
def zT0:UnR X (unaryOp .USub) (rU λi=>.int (-i)):=unI λ_ _ _ _ _ q=>neg_int q
end
def xn2:V->V->Bool
 |.non,.non=>true |.non,.int _=>true |.int _,.non=>true |.non,.bl _=>true |.bl _,.non=>true |.non,.str _=>true |.str _,.non=>true
 |.int _,.int _=>true |.bl _,.bl _=>true |.str _,.str _=>true |.byt _,.byt _=>true
 |.int _,.str _=>true |.str _,.int _=>true |.bl _,.str _=>true |.str _,.bl _=>true
 |_,_=>false
def rEq:R2:=λx y H Q=>xn2 x y=true/\Q (.bl (decide (x=y))) H
def zR0{i j:Int}:decide (V.int i=V.int j)=(i == j):=by
 rw[wf];simp
def xf3{i j:Bool}:decide (V.bl i=V.bl j)=(i == j):=by
 rw[wf];simp
def zQ9{i j:Str}:decide (V.str i=V.str j)=(i == j):=by
 rw[wf];simp
def zR1{i j:Array UInt8}:decide (V.byt i=V.byt j)=(i.toList == j.toList):=by
 rw[wf];cases i;cases j;simp
section
variable {X:Cx}{a b c:Expr}{ta tb tc:TE}{pos:Pos}
def ko{pins:List (Addr × Obj)}{σ:St}{H:Hp}{s:Shared}{Q:VK}{k k':Bool}(I:Inv X pins σ H s)(q:Q (.bl k) H)(e:k=k'):EP X pins σ Q (.bool k') s:=by
 subst e;exact⟨.bl k,H,I,rfl,q⟩
def QY:OpR X (compareOp .Eq) rEq:=by
 intro pins s σ H x y v u Q I rx ry h;obtain⟨hs,q⟩:=h
 cases x with
 |non=>
  cases rx
  cases y with
  |non=>cases ry;exact PySem.EqNone.eq_none_none (ko I q (by simp))
  |bl j=>cases ry;exact PySem.EqNone.eq_none_bool (ko I q (by simp))
  |int j=>obtain⟨t',rfl⟩:=ry;exact PySem.EqNone.eq_none_int (ko I q (by simp))
  |str j=>obtain⟨t',rfl⟩:=ry;exact PySem.EqNone.eq_none_str (ko I q (by simp))
  |_=>exact absurd (show false=true from hs) zI
 |bl i=>
  cases rx
  cases y with
  |non=>cases ry;exact PySem.EqNone.eq_bool_none (ko I q (by simp))
  |bl j=>cases ry;exact eq_bool (ko I q xf3)
  |str j=>obtain⟨t',rfl⟩:=ry;exact PySem.EqMixed.eq_bool_str (ko I q (by simp))
  |_=>exact absurd (show false=true from hs) zI
 |int i=>
  obtain⟨t,rfl⟩:=rx
  cases y with
  |non=>cases ry;exact PySem.EqNone.eq_int_none (ko I q (by simp))
  |int j=>obtain⟨t',rfl⟩:=ry;exact eq_int (ko I q zR0)
  |str j=>obtain⟨t',rfl⟩:=ry;exact PySem.EqMixed.eq_int_str (ko I q (by simp))
  |_=>exact absurd (show false=true from hs) zI
 |str i=>
  obtain⟨t,rfl⟩:=rx
  cases y with
  |non=>cases ry;exact PySem.EqNone.eq_str_none (ko I q (by simp))
  |bl j=>cases ry;exact PySem.EqMixed.eq_str_bool (ko I q (by simp))
  |int j=>obtain⟨t',rfl⟩:=ry;exact PySem.EqMixed.eq_str_int (ko I q (by simp))
  |str j=>obtain⟨t',rfl⟩:=ry;exact eq_str (ko I q zQ9)
  |_=>exact absurd (show false=true from hs) zI
 |byt i=>
  obtain⟨t,rfl⟩:=rx
  cases y with
  |byt j=>obtain⟨t',rfl⟩:=ry;exact W.eq_bytes (ko I q zR1)
  |_=>exact absurd (show false=true from hs) zI
 |_=>cases y<;>exact absurd (show false=true from hs) zI
def zM8:OpR X (compareOp .Lt) (rI0 λi j=>.bl (decide (i<j))):=xw7 λ_ _ _ _ _ _ _ q=>lt_int q
def XY:OpR X (compareOp .Gt) (rI0 λi j=>.bl (decide (j<i))):=xw7 λ_ _ _ _ _ _ _ q=>gt_int q
def xw6:OpR X (compareOp .GtE) (rI0 λi j=>.bl (decide (j<=i))):=xw7 λ_ _ _ _ _ _ _ q=>ge_int q
def qj:OpR X (compareOp .Is) (λx y H Q=>y=.non/\Q (.bl (decide (x=.non))) H):=by
 intro pins s σ H x y v u Q I rx ry h;obtain⟨rfl,q⟩:=h;cases ry;refine is_none_gen (ko I q ?_)
 cases x<;>first
  |(cases rx;rfl)
  |(obtain⟨t,rfl⟩:=rx;rfl)
def ZT:OpR X (compareOp .IsNot) (λx y H Q=>y=.non/\Q (.bl (!decide (x=.non))) H):=by
 intro pins s σ H x y v u Q I rx ry h;obtain⟨rfl,q⟩:=h;cases ry;refine isnot_none_gen (ko I q ?_)
 cases x<;>first
  |(cases rx;rfl)
  |(obtain⟨t,rfl⟩:=rx;rfl)
def wT(b:Expr){op:CmpOp}(h:op≠.In:=by decide)(h2:op≠.NotIn:=by decide):behindInMarks op b=false:=by
 have e1:(op == CmpOp.In)=false:=by cases op<;>first |rfl |exact absurd rfl h
 have e2:(op == CmpOp.NotIn)=false:=by cases op<;>first |rfl |exact absurd rfl h2
 cases b<;>simp[behindInMarks,e1,e2]
def zM1{op:CmpOp}{r:R2}(ho:OpR X (compareOp op) r)(ha:PE X a ta)(hb:PE X b tb)(hm:behindInMarks op b=false):PE X (.Compare a [op] [b] pos) (tOp r ta tb):=by
 intro pins s σ H Q I h;exact wpAny_Compare1 (xy8 ha hb I h λv u s2 x y H2 I2 rx ry q=>ho pins s2 σ H2 x y v u Q I2 rx ry q) hm
def zT5(t:TE):TT:=λσ H Q=>t σ H λx H'=>∃k,x=.bl k/\Q k H'
def zh0{op:CmpOp}{r:R2}(ho:OpR X (compareOp op) r)(ha:PE X a ta)(hb:PE X b tb)(hm:behindInMarks op b=false):PT X (.Compare a [op] [b] pos) (zT5 (tOp r ta tb)):=by
 intro pins s σ H Q I h
 refine wpAny_isTrue_Compare1 (thn (ha pins s σ H _ I h) λv s1 ⟨x,H1,I1,r1,q1⟩=>thn (hb pins s1 σ H1 _ I1 q1) λu s2 ⟨y,H2,I2,r2,q2⟩=>
  thn (ho pins s2 σ H2 x y v u _ I2 r1 r2 q2) λc s3 ⟨z,H3,I3,r3,k,e,q3⟩=>?_) hm
 subst e;cases r3;exact wE ⟨H3,I3,q3⟩
def WA:(sizeLine:Nat)<2^63:=by rw[sizeLine_eq];decide
def ZD{x:V}{us:List Value}(r:Vals [x] us):∃u,us=[u]/\RelV x u:=by
 cases r with
 |cons r1 r2=>cases r2;exact⟨_,rfl,r1⟩
def zI1{x y:V}{us:List Value}(r:Vals [x,y] us):∃u w',us=[u,w']/\RelV x u/\RelV y w':=by
 cases r with
 |cons r1 r2=>
  cases r2 with
  |cons r3 r4=>cases r4;exact⟨_,_,rfl,r1,r3⟩
def QC:kG X (.builtin "abs") (λxs H Q=>∃i,xs=[.int i]/\Q (.int (if i<0 then -i else i)) H):=by
 intro pins s σ H xs us Q I r h;obtain⟨i,rfl,q⟩:=h;obtain⟨u,rfl,t,rfl⟩:=ZD r
 exact call_abs_int λu tk=>⟨.int (if i<0 then -i else i),H,I.tok _,⟨_,rfl⟩,q⟩
def Kl(hc:X.calm=true):kG X (.builtin "max") (λxs H Q=>∃i j,xs=[.int i,.int j]/\Q (.int (if j > i then j else i)) H):=by
 intro pins s σ H xs us Q I r h;obtain⟨i,j,rfl,q⟩:=h;obtain⟨u,w',rfl,⟨t,rfl⟩,⟨t',rfl⟩⟩:=zI1 r;refine max_two_ints (I.ok.hd hc) λh' tk k=>⟨_,H,I.kept k,?_,q⟩
 by_cases hj:j > i
 ·rw[if_pos hj,if_pos hj];exact⟨_,rfl⟩
 ·rw[if_neg hj,if_neg hj];exact⟨_,rfl⟩
def Ki(hc:X.calm=true):kG X (.builtin "min") (λxs H Q=>∃i j,xs=[.int i,.int j]/\Q (.int (if j<i then j else i)) H):=by
 intro pins s σ H xs us Q I r h;obtain⟨i,j,rfl,q⟩:=h;obtain⟨u,w',rfl,⟨t,rfl⟩,⟨t',rfl⟩⟩:=zI1 r;refine min_two_ints (I.ok.hd hc) λh' tk k=>⟨_,H,I.kept k,?_,q⟩
 by_cases hj:j<i
 ·rw[if_pos hj,if_pos hj];exact⟨_,rfl⟩
 ·rw[if_neg hj,if_neg hj];exact⟨_,rfl⟩
def XI:kG X (.type "int") (λxs H Q=>(∃i,xs=[.int i]/\Q (.int i) H)\/∃k,xs=[.bl k]/\Q (.int (if k then 1 else 0)) H):=by
 intro pins s σ H xs us Q I r h
 rcases h with ⟨i,rfl,q⟩ |⟨k,rfl,q⟩
 ·obtain⟨u,rfl,t,rfl⟩:=ZD r;exact call_int_int ⟨.int i,H,I,⟨_,rfl⟩,q⟩
 ·obtain ⟨u, rfl, r1⟩ := ZD r;cases r1
  exact call_int_bool ⟨.int (if k then 1 else 0),H,I.tok _,⟨_,rfl⟩,q⟩
end
section
variable {prog:Program}{w:World}{A:Around}{E:Value->Shared->Prop}{s:Shared}{K:W.Frag}{x dx C f:Addr}{mA:Str->Option Value}{name:Str}{v:Value}
end
def RelO.some_of{v:V}{o:Option Value}(r:RelO (some v) o):∃u,o=some u/\RelV v u:=by
 cases o with
 |none=>exact(show False from r).elim
 |some u=>exact⟨u,rfl,r⟩
section
variable {P:Program}{w:World}{H H':Hp}{h h':Heap}{a C dx:Addr}{fs fs':List (Str × V)}
end
section
variable {X:Cx}{pins:List (Addr × Obj)}{σ:St}{H:Hp}{s:Shared}{a C dx:Addr}{fs:List (Str × V)}{f:Str}{v:V}{A:Around}{E:Value->Shared->Prop}
end
section
variable {X:Cx}{o e value:Expr}{f:Str}{pos pos' tpos:Pos}{ta tv:TE}
end
section
variable {X:Cx}{pins:List (Addr × Obj)}{σ:St}{H:Hp}{s:Shared}{A:Around}{E:Value->Shared->Prop}{Q:Value->Shared->Prop}{c:Value}{b:Bool}
end
structure Room(k:Nat)(A:Around):Prop where
 hd:A.handled=none
 dp:A.depth+3*k+5<recursionLimit
 un:A.units+16*k+200<cLine
 gd:A.guards=some []
def Room.mono{j k:Nat}{A:Around}(r:Room k A)(h:j<=k):Room j A:=⟨r.hd,by have:=r.dp;lia,by have:=r.un;lia,r.gd⟩
def Room.deeper{k:Nat}{A:Around}(r:Room (k+1) A)(env:Env):Room k (A.deeper env):=
 ⟨r.hd,by have:=r.dp;show A.depth+1+3*k+5<_;lia,by have:=r.un;show A.units+3+16*k+200<_;lia,r.gd⟩
def Room.in1{k:Nat}{A:Around}(r:Room (k+1) A):Room k A.in1:=
 ⟨r.hd,by have:=r.dp;show A.depth+3*k+5<_;lia,by have:=r.un;show A.units+1+16*k+200<_;lia,r.gd⟩
def Room.depth{k:Nat}{A:Around}(r:Room k A):A.depth<recursionLimit:=by have:=r.dp;lia
def Room.units{k:Nat}{A:Around}(r:Room k A):A.units+64<cLine:=by have:=r.un;lia
def xH6:TA:=λ_ H Q=>Q [] H
def xm7(ta:TE)(tr:TA):TA:=λσ H Q=>ta σ H λx H1=>tr σ H1 λxs H2=>Q (x::xs) H2
section
variable {X:Cx}{e:Expr}{es:List Expr}{te:TE}{t:TA}{pos:Pos}
def Zu:PA X [] xH6:=λ_ _ _ _ H Q I h=>Calls.spliced_nil ⟨[],H,I,.nil,h⟩
def qD(ha:PE X e te)(hr:PA X es t)(hs:starEach (e::es) X.env=(false,eval e X.env)::starEach es X.env:=by rfl):PA X (e::es) (xm7 te t):=by
 intro pos pins s σ H Q I h;rw[hs];show wpAny _ _ (spliced ((false,eval e X.env)::backTo pos (starEach es X.env))) _ _ s;refine Calls.spliced_cons (thn (ha pins s σ H _ I h) λu s1 ⟨x,H1,I1,r1,q1⟩=>?_);exact thn (hr pos pins s1 σ H1 _ I1 q1) λus s2 ⟨xs,H2,I2,r2,q2⟩=>⟨x::xs,H2,I2,.cons r1 r2,q2⟩
def xH1(t:TA):TE:=λσ H Q=>t σ H λxs H1=>xs.length<=sizeLine/\∀p,H1 p=none->Q (.ref p) (upd H1 p (.tup xs))
def xH7(t:TA):TE:=λσ H Q=>t σ H λxs H1=>xs.length<=sizeLine/\∀p,H1 p=none->Q (.ref p) (upd H1 p (.lst xs))
def zE9{x1}(h:PA X es t):PE X (.Tuple es x1 pos) (xH1 t):=by
 intro pins s σ H Q I hq
 refine wpAny_Tuple_spliced (thn (h pos pins s σ H _ I hq) λus s1 ⟨xs,H1,I1,r,z,q⟩=>⟨by rw[<- r.length];exact z,?_⟩)
 have hf:H1 s1.heap.objs.size=none:=I1.hok.fresh (zn _);refine⟨.ref s1.heap.objs.size,upd H1 s1.heap.objs.size (.tup xs),I1.laid (t':=s1.toks) (λb u e=>ze _ e) (zn _) ?_,rfl,q _ hf⟩;exact⟨z,us,r,⟨_,zp _ rfl,rfl,_,rfl⟩⟩
def Uv(h:PA X es t):PE X (.List es pos) (xH7 t):=by
 intro pins s σ H Q I hq
 refine wpAny_List_spliced (thn (h pos pins s σ H _ I hq) λus s1 ⟨xs,H1,I1,r,z,q⟩=>⟨by rw[<- r.length];exact z,?_⟩)
 have hf:H1 s1.heap.objs.size=none:=I1.hok.fresh (zn _);refine⟨.ref s1.heap.objs.size,upd H1 s1.heap.objs.size (.lst xs),I1.laid (t':=s1.toks) (λb u e=>ze _ e) (zn _) ?_,rfl,q _ hf⟩;exact⟨z,us,0,r,zp _ rfl⟩
end
abbrev Sp:=List V->Hp->VK->XK->Prop
abbrev CXT:=List Env->Hp->Shared->XK->Value->Shared->Prop
structure Env0(P:Program)(w:World)(K:W.Frag)(mg:Str->Option Value)(base:Heap)(A:Around)(outer:List Env)(s:Shared)(H:Hp):Prop where
 frames:A.frames=some outer
 mod:Mod K mg base
 bs:∀b o,base.get? b=some o->s.heap.get? b=some o/\H b=none
 bsz:base.objs.size<=s.heap.objs.size
 funs:s.heap.FunFrames base outer
 frf:∀b∈frs outer,H b=none
 hok:HOk P w H s.heap
 bare:AllBare s.gens
def CE(outer:List Env)(P:Program)(w:World)(H:Hp)(s:Shared)(Q:VK)(u:Value)(s':Shared):Prop:=
 ∃v H',s'.os=s.os/\AllBare s'.gens/\Un (frs outer) [] H H' s.heap s'.heap/\HOk P w H' s'.heap/\RelV v u/\Q v H'
def CR(CX:CXT)(outer:List Env)(P:Program)(w:World)(H:Hp)(s:Shared)(Q:VK)(E:XK)(r:Result)(s':Shared):Prop:=
 match r with
 |.ok (.ret u)=>CE outer P w H s Q u s'
 |.ok _=>False
 |.error e=>CX outer H s E e s'
structure FnOk(P:Program)(w:World)(K:W.Frag)(mg:Str->Option Value)(base:Heap)(CX:CXT)(k:Nat)(f:Addr)(fd:FuncData)(ps:List Str)(sp:Sp):Prop where
 len:∀vs H Q E,sp vs H Q E->vs.length=ps.length
 run:∀(A:Around) (outer:List Env) (s:Shared) (H:Hp) (args:Args) (us:List Value) (vs:List V) (Q:VK) (E:XK),Room k A->Env0 P w K mg base A outer s H->BindsTo s fd args (ps.zip us)->Vals vs us->sp vs H Q E ->
  codeAny (model P w) A (.call (.ref f) args) (CR CX outer P w H s Q E) s
section
variable {X:Cx}{pins:List (Addr × Obj)}{σ:St}{H:Hp}{s s':Shared}
def Inv.env0(I:Inv X pins σ H s):Env0 X.prog X.w X.K X.mg X.base X.A X.stack s H:=
 ⟨I.ok.frames,I.ok.mod,I.bs,zy I.ok.bsz I.sz,I.stack,I.stkFree,I.hok,I.bare⟩
def Inv.after{Q:VK}{u:Value}(I:Inv X pins σ H s)(h:CE X.stack X.prog X.w H s Q u s'):EP X pins σ Q u s':=by
 obtain⟨v,H',os,bare,un,hok,r,q⟩:=h;obtain⟨hh,g,d,t,os'⟩:=s';obtain rfl:os'=s.os:=os
 exact⟨v,H',I.call (h':=hh) (g':=g) (d':=d) (t':=t) (ch:=[]) un hok bare (λb z=>absurd z (by simp)),r,q⟩
end
def xm8(sp:Sp)(dvs:List V)(E:XK)(t:TA):TE:=λσ H Q=>t σ H λvs H1=>sp (vs++dvs) H1 Q E
def Binds(K:W.Frag)(fd:FuncData)(ps:List Str)(ds:List Value):Prop:=
 ∀(s:Shared) (us:List Value),K.In s.heap->(us++ds).length=ps.length->BindsTo s fd ⟨us,[]⟩ (ps.zip (us++ds))
def Binds.all{K:W.Frag}{fd:FuncData}{ps:List Str}(h:∀us:List Value,us.length=ps.length->bindArgs fd ⟨us,[]⟩=pure (ps.zip us)):Binds K fd ps []:=λs us _ hl=>by
 rw[wM] at hl ⊢;exact .of_eq (h us hl)
def zs9(CX:CXT)(X:Cx)(E:XK):Prop:=∀(pins:List (Addr × Obj)) (σ:St) (H:Hp) (s:Shared) (e:Value) (s':Shared),Inv X pins σ H s->CX X.stack H s E e s'->X.xe e s'
section
variable {X:Cx}{CX:CXT}{k:Nat}{f C:Addr}{fd:FuncData}{ps:List Str}{sp:Sp}{dvs:List V}{ds:List Value}{E:XK}{x m:Str}{p pos apos:Pos}{e o:Expr}{es:List Expr}{ta:TE}{t:TA}
def zV5{pins:List (Addr × Obj)}{σ:St}{H:Hp}{s:Shared}{Q:VK}{us:List Value}{vs:List V}(F:FnOk X.prog X.w X.K X.mg X.base CX k f fd ps sp)(hr:Room k X.A)(hb:Binds X.K fd ps ds)(hd:Vals dvs ds)(hx:zs9 CX X E)
  (I:Inv X pins σ H s) (r:Vals vs us) (h:sp (vs++dvs) H Q E):wpAny (model X.prog X.w) X.A (call (.ref f) us) (EP X pins σ Q) X.xe s:=by
 have r2:Vals (vs++dvs) (us++ds):=r.append hd
 have hl:(us++ds).length=ps.length:=by rw[<- r2.length];exact F.len _ _ _ _ h
 refine wpAny_call (codeAny_mono (F.run X.A X.stack s H ⟨us,[]⟩ (us++ds) (vs++dvs) Q E hr I.env0 (hb s us I.kIn hl) r2 h) λr s' hq=>?_)
 cases r with
 |error e=>exact hx pins σ H s e s' I hq
 |ok fl=>
  cases fl with
  |ret u=>exact I.after hq
  |next=>exact False.elim hq
  |brk=>exact False.elim hq
  |cont=>exact False.elim hq
def Vn(F:FnOk X.prog X.w X.K X.mg X.base CX k f fd ps sp)(hr:Room k X.A)(hg:Gl X x)(hm:X.mg x=some (.ref f))(hk:W.keepIn X.K (.ref f)=true)(hb:Binds X.K fd ps ds)(hd:Vals dvs ds)(hx:zs9 CX X E)
  (ha:PA X (e::es) t) (hdb:(x == ("__debug__" : Str))=false:=by decide) (he:starEach (e::es) X.env=(false,eval e X.env)::starEach es X.env:=by rfl) (hpl:(backTo pos (starEach es X.env)).any (·.1)=false:=by rfl) :
  PE X (.Call (.Name x p) (e::es) [] pos) (xm8 sp dvs E t):=by
 intro pins s σ H Q I h;refine wpAny_Call_Name_kw (zm2 I hg hm ?_ hdb);refine W.callWith_K (h₀:=X.base) I.ok.mod.kin hk (thn (ha pos pins s σ H _ I h) λus s1 ⟨vs,H1,I1,r,q⟩=>⟨I1.kIn,?_⟩) he hpl;exact zV5 F hr hb hd hx I1 r q
end
section
variable {X:Cx}{CX:CXT}{k:Nat}{f C:Addr}{fd:FuncData}{ps ks:List Str}{sp:Sp}{E:XK}{x m:Str}{p pos apos kpos:Pos}{e o:Expr}{es:List Expr}{kws:List Keyword}{te ta:TE}{t tk:TA}{nm:Option Str}
variable {g:List Value->List Value->List Value}{gV:List V->List V->List V}
end
structure FnScope(N P:List Str)(sc:Scope):Prop where
 kind:sc.kind=.function
 co:sc.isCoroutine=false
 gen:sc.isGenerator=false
 nd:N.Nodup
 pre:N.take P.length=P
 par:∀x∈P,sc.names.lookup x=some .local\/sc.names.lookup x=some .cell
 nofree:∀y∈sc.names,y.2≠.free
theorem Kp{kindOf:Str->Option NameKind}{x:Str}:∀{binds:List (Str × Value)}{m:Str->Option Value},(∀v,(x,v) ∉ binds)->bindL kindOf binds m x=m x
 |[],_,_=>rfl
 | (n, v) :: r, m, h => by
  unfold bindL;rw[Kp λw hw=>h w (zk _ hw)]
  split
  ·have : x ≠ n := by rintro rfl; exact h v zP
   simp[this]
  ·rfl
theorem Kr{kindOf:Str->Option NameKind}{x:Str}:∀{binds:List (Str × Value)}{m:Str->Option Value},(∀v,(x,v) ∉ binds)->bindC kindOf binds m x=m x
 |[],_,_=>rfl
 | (n, v) :: r, m, h => by
  unfold bindC;rw[Kr λw hw=>h w (zk _ hw)]
  split
  ·rfl
  ·have : x ≠ n := by rintro rfl; exact h v zP
   simp[this]
def Kq{kindOf:Str->Option NameKind}{x:Str}{v:Value}:∀{P:List Str}{vs:List Value}{i:Nat}{m:Str->Option Value},P.Nodup->P[i]?=some x->vs[i]?=some v->kindOf x=some .local ->
  bindL kindOf (P.zip vs) m x=some v
 |[],_,_,_,_,h,_,_=>by simp at h
 |_::_,[],_,_,_,_,h,_=>by simp at h
 |p::P,w::vs,0,m,nd,h1,h2,hk=>by
  simp at h1 h2;subst h1;subst h2;show bindL kindOf ((p,w)::P.zip vs) m p=_;unfold bindL;rw[Kp λv hv=>(xz.mp nd).1 (of_mem_zip hv).1,if_pos hk];simp
 |p::P,w::vs,i+1,m,nd,h1,h2,hk=>by
  show bindL kindOf ((p,w)::P.zip vs) m x=_;unfold bindL
  exact Kq (i:=i) (xz.mp nd).2 (by simpa using h1) (by simpa using h2) hk
def Ks{kindOf:Str->Option NameKind}{x:Str}{v:Value}:∀{P:List Str}{vs:List Value}{i:Nat}{m:Str->Option Value},P.Nodup->P[i]?=some x->vs[i]?=some v->kindOf x≠some .local ->
  bindC kindOf (P.zip vs) m x=some v
 |[],_,_,_,_,h,_,_=>by simp at h
 |_::_,[],_,_,_,_,h,_=>by simp at h
 |p::P,w::vs,0,m,nd,h1,h2,hk=>by
  simp at h1 h2;subst h1;subst h2;show bindC kindOf ((p,w)::P.zip vs) m p=_;unfold bindC;rw[Kr λv hv=>(xz.mp nd).1 (of_mem_zip hv).1,if_neg hk];simp
 |p::P,w::vs,i+1,m,nd,h1,h2,hk=>by
  show bindC kindOf ((p,w)::P.zip vs) m x=_;unfold bindC
  exact Ks (i:=i) (xz.mp nd).2 (by simpa using h1) (by simpa using h2) hk
def start(N:List Str)(vs:List V):St:=vs.map some++replicate (N.length-vs.length) none
def zt4(CX:CXT)(P:Program)(w:World)(K:W.Frag)(mg:Str->Option Value)(base:Heap)(N:List Str)(qual:Str)(scope:Scope)(f:Addr)(cd:Value)(A:Around)(outer:List Env)(s:Shared)(H:Hp)(E:XK):Cx where
 prog:=P
 w:=w
 K:=K
 mg:=mg
 base:=base
 A:=A.deeper (envOfC qual scope s.heap.objs.size f cd)
 N:=N
 s₀:=s
 H₀:=H
 env:=envOfC qual scope s.heap.objs.size f cd
 outer:=outer
 stack:=envOfC qual scope s.heap.objs.size f cd::outer
 ex:=[]
 calm:=true
 fn:=λ_=>true
 pn:=[]
 xe:=λe s'=>wpAny (model P w) (A.deeper (envOfC qual scope s.heap.objs.size f cd)) (leaving (envOfC qual scope s.heap.objs.size f cd) e) (λ_ s''=>CX outer H s E e s'') (λe' s''=>CX outer H s E e' s'') s'
def Qz{sc:Scope}{n:Nat}{x:Str}(h:sc.names.lookup x=some .cell):∃c,(cellsFrom n sc.names []).lookup x=some c:=by
 have q:=W.cellsFrom_some sc.names n [] (.inl h);exact Option.isSome_iff_exists.mp q
def zn5{CX:CXT}{P:Program}{w:World}{K:W.Frag}{mg:Str->Option Value}{base:Heap}{N ps:List Str}{qual:Str}{scope:Scope}{f:Addr}{cd:Value}{A:Around}{outer:List Env}{s s1:Shared}{H:Hp}{E:XK}{us:List Value}{vs:List V}
  (S:FnScope N ps scope) (hd:A.handled=none) (e0:Env0 P w K mg base A outer s H) (hl:vs.length=ps.length) (r:Vals vs us)
  (x:InCallC s s.heap.objs.size (bindL (envOfC qual scope s.heap.objs.size f cd).kindOf (ps.zip us) λ_=>none) (cellsFrom (s.heap.objs.size+1) scope.names []) (bindC (envOfC qual scope s.heap.objs.size f cd).kindOf (ps.zip us) λ_=>none) s1) :
  Inv (zt4 CX P w K mg base N qual scope f cd A outer s H E) [] (start N vs) H s1:=by
 have hpl:ps.length<=N.length:=by have:=congrArg List.length S.pre;rw[yc] at this;lia
 obtain⟨h1,tk,rfl,hk⟩:=x.done
 have noA:∀b:Addr,b ∉ (zt4 CX P w K mg base N qual scope f cd A outer s H E).ex:=λb z=>absurd (show b∈([]:List Addr) from z) (by simp)
 refine⟨⟨e0.mod,S.kind,rfl,rfl,zn _,λy z c h1 h2=>?_,λy hy=>?_,λy c _ h=>?_,λ_=>hd,Around.frames_deeper e0.frames,.inr ⟨rfl,rfl⟩,λb z=>absurd z (noA b),e0.bs,e0.bsz,λb _ _=>noA b,λb z=>absurd z (noA b),e0.funs,e0.frf⟩,
  rfl,e0.bare,Un.kept hk,⟨_,x.toInCall.ns,λi y v h1 h2 h3=>?_⟩,λy c h=>⟨_,x.cell y c h⟩,e0.hok.fresh (zn _),λy c h=>?_,λp hp=>absurd (show p∈([]:List (Addr × Obj)) from hp) (by simp),e0.hok.kept hk,?_⟩
 ·exact name_of_addr x.apart (PySem.mem_of_lookup h1) (PySem.mem_of_lookup h2)
 ·have hy : scope.names.lookup y = some .cell \/ scope.names.lookup y = some .free := hy
  rcases hy with hy |hy
  ·exact Qz hy
  ·exact absurd rfl (S.nofree _ (PySem.mem_of_lookup hy))
 ·exact yt (x.above y c (PySem.mem_of_lookup h))
 ·have hi : i < vs.length := by
   unfold start at h2
   by_cases hi:i<vs.length
   ·exact hi
   ·rw [xi (by simpa using hi)] at h2
    rw[xg] at h2
    split at h2<;>cases h2
  have ha:vs[i]?=some v:=by
   unfold start at h2
   rw[xv (by simpa using hi),zA] at h2
   cases e:vs[i]? with
   |none=>rw[e] at h2;cases h2
   |some a=>rw[e] at h2;cases h2;rfl
  obtain⟨u,hu,rv⟩:=r.get ha
  have hp:ps[i]?=some y:=by
   rw[<- S.pre,List.getElem?_take_of_lt w5];exact h1
  have ndP:ps.Nodup:=by rw[<- S.pre];exact S.nd.sublist (vc _ _)
  refine⟨u,rv,?_⟩
  rcases S.par y (zN hp) with k |k
  ·exact .inl ⟨k,Kq ndP hp hu k⟩
  ·obtain ⟨c, e⟩ := Qz (n := s.heap.objs.size + 1) k;refine .inr ⟨.inl k,c,e,?_⟩;have q:=x.cell y c e
   rw[Ks ndP hp hu (by show scope.names.lookup y≠_;rw[k];decide)] at q
   exact q
 ·exact e0.hok.fresh (yt (x.above y c (PySem.mem_of_lookup h)))
 ·unfold start;show _=N.length;rw[zB,zg,xu];lia
def xe4{CX:CXT}{P:Program}{w:World}{K:W.Frag}{mg:Str->Option Value}{base:Heap}{k:Nat}{f:Addr}{name qual:Str}{params:Arguments}{body:List Stmt}{scope:Scope}{dV kV doc pm cdv ct oc:Value}{an od:Option Addr}
  {osl:Array (Option Value)}{N ps:List Str}{sp:Sp} (lk:K.lookup f=some ⟨oc,od,.func (W.fnOf name qual params body scope dV kV doc pm an cdv ct),osl⟩) (hcd:W.codeIn K cdv qual=true) (S:FnScope N ps scope)
  (len:∀vs H Q E,sp vs H Q E->vs.length=ps.length)
  (hbody : ∀ (A : Around) (outer : List Env) (s : Shared) (H : Hp) (vs : List V) (Q : VK) (E : XK), Room k (A.deeper (envOfC qual scope s.heap.objs.size f cdv)) -> sp vs H Q E ->
   ∃t,PSs (zt4 CX P w K mg base N qual scope f cdv A outer s H E) body t/\t { nx:=λ_ H'=>Q .non H',rt:=Q } (start N vs) H) :
  FnOk P w K mg base CX (k+1) f (W.fnOf name qual params body scope dV kV doc pm an cdv ct) ps sp:=by
 refine⟨len,λA outer s H args us vs Q E hr e0 hb r hsp=>?_⟩;have hl:=len _ _ _ _ hsp;have KX:K.In s.heap:=e0.mod.kin.keeps λb o e=>(e0.bs b o e).1;have lim:s.heap.NoLimit:=e0.mod.nolimit.keeps λb o e=>(e0.bs b o e).1
 have hkind:∀y∈ps.zip us,scope.names.lookup y.1=some .local\/(scope.names.lookup y.1=some .cell/\((cellsFrom (s.heap.objs.size+1) scope.names []).lookup y.1).isSome=true):=fun⟨n,v⟩ hy=>by
  rcases S.par n (of_mem_zip hy).1 with q |q
  ·exact .inl q
  ·exact .inr ⟨q,W.cellsFrom_some _ _ _ (.inl q)⟩
 refine codeAny_call_function hr.depth (KX _ _ lk) rfl S.co S.gen rfl (W.codeRec_of KX hcd) (hb _ _ _ _ ?_);refine wpAny_newFunctionEnv_cells S.kind hkind λenv he s1 x=>?_;subst he;refine⟨lim.keeps x.toInCall.keep,codeAny_func ?_⟩;obtain⟨t,ht,hq⟩:=hbody A outer s H vs Q E (hr.deeper _) hsp;have I:Inv (zt4 CX P w K mg base N qual scope f cdv A outer s H E) [] (start N vs) H s1:=zn5 S hr.hd e0 hl r x;refine wx (ht [] s1 (start N vs) H _ I hq) (λfl s' hs=>?_) λe s' hs=>hs
 have fin:∀{σ':St}{H':Hp}{v:V}{u:Value},Inv (zt4 CX P w K mg base N qual scope f cdv A outer s H E) [] σ' H' s'->RelV v u->Q v H'->CE outer P w H s Q u s':=
  λ{σ' H' v u} J rv q=>⟨v,H',J.os,J.bare,J.base,J.hok,rv,q⟩
 cases fl with
 |ret u=>
  obtain⟨v,σ',H',J,rv,q⟩:=hs;exact fin J rv q
 |next=>
  obtain⟨σ',H',J,q⟩:=hs;exact fin (v:=V.non) (u:=Value.none) J rfl q
 |brk=>
  obtain⟨_,_,_,q⟩:=hs;exact False.elim q
 |cont=>
  obtain⟨_,_,_,q⟩:=hs;exact False.elim q
section
variable {X:Cx}{x:Str}{p pos:Pos}{e:Expr}{es:List Expr}{t:TA}{id T:String}{r:List V->Hp->VK->Prop}
def tCB(r:List V->Hp->VK->Prop)(t:TA):TE:=λσ H Q=>t σ H λvs H1=>r vs H1 Q
def Vm(hc:kG X (.builtin id) r)(hg:Gl X x)(hm:X.mg x=none)(hv:bootBuiltins x=some (.builtin id))(ha:PA X (e::es) t)(hn:x ≠ "__name__" := by decide)(hdb:(x == ("__debug__" : Str))=false:=by decide)
  (he:starEach (e::es) X.env=(false,eval e X.env)::starEach es X.env:=by rfl) (hpl:(backTo pos (starEach es X.env)).any (·.1)=false:=by rfl):PE X (.Call (.Name x p) (e::es) [] pos) (tCB r t):=by
 intro pins s σ H Q I h;refine wpAny_Call_Name_kw (UR I hg hm hv ?_ hn hdb);exact PyProof.Rows.callWith_builtin1 (thn (ha pos pins s σ H _ I h) λus s1 ⟨vs,H1,I1,r1,q1⟩=>hc pins s1 σ H1 vs us Q I1 r1 q1) he hpl
def Ux(hc:kG X (.type T) r)(hg:Gl X x)(hm:X.mg x=none)(hv:bootBuiltins x=some (.type T))(ha:PA X (e::es) t)(hn:x ≠ "__name__" := by decide)(hdb:(x == ("__debug__" : Str))=false:=by decide)
  (he:starEach (e::es) X.env=(false,eval e X.env)::starEach es X.env:=by rfl) (hpl:(backTo pos (starEach es X.env)).any (·.1)=false:=by rfl):PE X (.Call (.Name x p) (e::es) [] pos) (tCB r t):=by
 intro pins s σ H Q I h;refine wpAny_Call_Name_kw (UR I hg hm hv ?_ hn hdb);exact PyProof.Rows.callWith_type1 (thn (ha pos pins s σ H _ I h) λus s1 ⟨vs,H1,I1,r1,q1⟩=>hc pins s1 σ H1 vs us Q I1 r1 q1) he hpl
end
end L2
namespace HT
open PySem PyProof.Rows
def kF:List Int->List Int->Bool
 |[],[]=>false
 |[],_::_=>true
 |_::_,[]=>false
 |x::xs,y::ys=>if x=y then kF xs ys else decide (x<y)
def qk(x y:Int)(xs ys:List Int):kF (x::xs) (y::ys)=if x=y then kF xs ys else decide (x<y):=rfl
def Vy:kF [] []=false:=rfl
def Wf(y:Int)(ys:List Int):kF [] (y::ys)=true:=rfl
def Wg(x:Int)(xs:List Int):kF (x::xs) []=false:=rfl
def zB9(A:Around)(s:Shared)(a:Int)(t:Tok)(c:Int)(u:Tok):∃e,SeqAt.EqAt A s (.int a t) (.int c u) e/\(e=true↔a=c):=
 ⟨(a == c),SeqAt.EqAt.int_int a t c u,by simp⟩
def zw2(A:Around)(s:Shared)(a:Int)(t:Tok)(c:Int)(u:Tok)(prog:Program)(w:World)(E:Value->Shared->Prop)(Q:Value->Shared->Prop)(h:Q (.bool (decide (a<c))) s) :
  wpAny (model prog w) A (richCompare .Lt (.int a t) (.int c u)) Q E s:=
 (PyProof.Rows.lt_int h:wpAny (model prog w) A (compareOp .Lt (.int a t) (.int c u)) Q E s)
section
open PySem.SeqAt
open PySem.AutoSeq1 (wpAny_loadPart')
open PySem.MeetsSeq PySem.MeetsSeq2 PySem.MeetsSeq3
def WM(l b:Addr)(items items2:Array Value)(n n2:Nat)(dd dd2:Option Addr)(sl sl2:Array (Option Value))(ns ms:List Int)(hi:IntsAre items.toList ns)(hj:IntsAre items2.toList ms) :
  Meets (Builtin.«tuple.__lt__» ⟨[.ref l,.ref b],[]⟩)
   (λ_ R s => s.heap.get? l = some { cls := .type "tuple", dict := dd, data := .seq items n, slots := sl } /\ s.heap.get? b = some { cls := .type "tuple", dict := dd2, data := .seq items2 n2, slots := sl2 } /\
    R (.ok (.ret (.bool (kF ns ms)))) s):=
 .of_wp λprog w A R s h=>by
  obtain⟨hp,g,d,tk,os⟩:=s;obtain⟨hl,hb,h⟩:=h;have f2:=AutoSeq1.sub_tuple_tuple
  have z1:items.size=ns.length:=by rw[<- hi.length];simp
  have z2:items2.size=ms.length:=by rw[<- hj.length];simp
  wp_walk using wpAny_loadPart' hl,wpAny_loadPart' hb,wpAny_forIn_list _ (λrest b s'=>b.1=none/\s'=⟨hp,g,d,tk,os⟩/\∃(vs ws:List Value) (ns' ms':List Int),rest=vs.zip ws /\
   IntsAre vs ns'/\IntsAre ws ms'/\ns'.length+items2.size=ms'.length+items.size/\R (.ok (.ret (.bool (kF ns' ms')))) ⟨hp,g,d,tk,os⟩) _
  case turn=>
   rintro⟨y,x⟩ rest b s' ⟨hb',rfl,vs,ws,ns',ms',hz,hvi,hwi,hlen,hR⟩
   cases hvi with
   |nil=>rw[List.zip_nil_left] at hz;cases hz
   | cons a t hvi' =>
    cases hwi with
    |nil=>rw[List.zip_nil_right] at hz;cases hz
    | cons c u hwi' =>
     rw[wP] at hz;injection hz with hyx hrest;injection hyx with hy hx;subst hy hx;rw[qk] at hR;simp only[zG] at hlen;obtain⟨e,he,hiff⟩:=zB9 A.in1 ⟨hp,g,d,tk,os⟩ a t c u;refine zb (he prog w _ _ ?_)
     cases e with
     |true=>
      rw[if_pos (hiff.mp rfl)] at hR
      wp_walk
      exact⟨rfl,rfl,_,_,_,_,hrest,hvi',hwi',w5,hR⟩
     |false=>
      rw[if_neg (λq=>absurd (hiff.mpr q) zI)] at hR;have hri:=zw2 A.in1 ⟨hp,g,d,tk,os⟩ a t c u prog w
      wp_walk using hri
      exact⟨_,rfl,by simpa using hR⟩
  case fin=>
   rintro⟨b1,b2⟩ s' ⟨hb',rfl,vs,ws,ns',ms',hz,hvi,hwi,hlen,hR⟩;simp only at hb';subst hb'
   have hv:kF ns' ms'=decide (items.size<items2.size):=by
    cases hvi with
    | nil =>
     cases hwi with
     |nil=>
      simp only[length_nil] at hlen;rw[Vy]
      exact(zW w5).symm
     |cons c u hw=>
      simp only[length_nil,zG] at hlen;rw[Wf]
      exact(xt w5).symm
    | cons a t hv =>
     cases hwi with
     |nil=>
      simp only[length_nil,zG] at hlen;rw[Wg]
      exact(zW w5).symm
     |cons c u hw=>
      rw[wP] at hz;cases hz
   rw[hv] at hR
   wp_walk
   exact⟨_,rfl,by simpa [Builtin.Tuple.tupleCompareSizes] using hR⟩
  case h=>
   exact⟨rfl,rfl,items.toList,items2.toList,ns,ms,rfl,hi,hj,w5,h⟩
end
section
variable {prog:Program}{w:World}{A:Around}{E:Value->Shared->Prop}{s:Shared}
def Wz{l b:Addr}{items items2:Array Value}{ns ms:List Int}{Q:Value->Shared->Prop}(hl:IsTup s.heap l items)(hb:IsTup s.heap b items2)(hi:IntsAre items.toList ns)(hj:IntsAre items2.toList ms)
  (hu:A.units<cLine) (h:Q (.bool (kF ns ms)) s):wpAny (model prog w) A (compareOp .Lt (.ref l) (.ref b)) Q E s:=by
 obtain⟨⟨cls,dd,data,sl⟩,ho,hc,n,hd⟩:=id hl;obtain⟨⟨cls2,dd2,data2,sl2⟩,ho2,hc2,n2,hd2⟩:=id hb;simp only at hc hd hc2 hd2;subst hc hd hc2 hd2
 exact richCompare_meets_room (op:=.Lt) ⟨_,ho,rfl⟩ ⟨_,ho2,rfl⟩ PySem.F.slot_tuple_lt PySem.F.entry_tuple_lt (PySem.F.args_tuple_lt_2 _ _) (WM l b items items2 n n2 dd dd2 sl sl2 ns ms hi hj)
  ⟨ho,ho2,show Value.bool (kF ns ms)≠Value.notImplemented/\Q (.bool (kF ns ms)) s from⟨(λx=>nomatch x),h⟩⟩ hu
def sIx(n d:Nat):Option Int->Nat
 |none=>d
 |some v=>if v<0 then(v+(n:Int)).toNat else min v.toNat n
def JV(n d:Nat):sIx n d none=d:=rfl
def zf5(n d k:Nat):sIx n d (some (k:Int))=min k n:=by
 show(if (k:Int)<0 then((k:Int)+(n:Int)).toNat else min (k:Int).toNat n)=min k n
 rw[if_neg w5,yA]
def zV2(n d:Nat)(hd:d<=n)(o:Option Int):sIx n d o<=n:=by
 cases o with
 |none=>exact hd
 |some v=>
  show(if v<0 then(v+(n:Int)).toNat else min v.toNat n)<=n
  by_cases hv:v<0
  ·rw[if_pos hv];lia
  ·rw[if_neg hv];exact Nat.min_le_right _ _
def zr1(v:Int)(n d:Nat):(if v<0 then max (v+(n:Int)) 0 else min v (n:Int))=((sIx n d (some v):Nat):Int):=by
 show(if v<0 then max (v+(n:Int)) 0 else min v (n:Int))=(((if v<0 then(v+(n:Int)).toNat else min v.toNat n):Nat):Int)
 by_cases hv:v<0
 ·simp only[if_pos hv];lia
 ·simp only[if_neg hv];lia
def zc7(lo hi:Option Int)(n:Nat):Builtin.Slice.sliceAdjust lo hi 1 (n:Int)=(((sIx n 0 lo:Nat):Int),((sIx n n hi:Nat):Int)):=by
 have h1:¬ ((1:Int)<0):=w5
 unfold Builtin.Slice.sliceAdjust;simp only[h1,if_false];refine Prod.ext ?_ ?_
 ·cases lo with
  |none=>rfl
  |some v=>exact zr1 v n 0
 ·cases hi with
  |none=>rfl
  |some v=>exact zr1 v n n
def QV(i j:Nat):Builtin.Slice.slicePlaces (i:Int) (j:Int) 1=j-i:=by
 unfold Builtin.Slice.slicePlaces
 have h1:(1:Int) > 0:=w5
 simp only[h1,if_true,Int.ediv_one]
 split<;>lia
def Wp{v:Value}{o:Option Int}{Q:Option Int->Shared->Prop}(p:IsPart v o)(h:Q o s):wpAny (model prog w) A (Builtin.Slice.slicePartIndex v) Q E s:=by
 cases p with
 |none=>exact slicePart_none h
 |int i t=>exact slicePart_int h
def qN{sl:Addr}{vl vu:Value}{lo hi:Option Int}{n:Nat}{Q:Int × Int × Nat->Shared->Prop}(hs:s.heap.IsSliceOf sl vl vu .none)(pl:IsPart vl lo)(pu:IsPart vu hi)
  (h:Q (((sIx n 0 lo:Nat):Int),1,sIx n n hi-sIx n 0 lo) s):wpAny (model prog w) A (Builtin.Slice.sliceApplied (.ref sl) (pure (n:Int))) Q E s:=by
 obtain⟨os,hos,hcs,hds⟩:=id hs;unfold Builtin.Slice.sliceApplied Builtin.Slice.sliceFields;refine zb (zb (wg hos hds (x:=vl) rfl (zb (wg hos hds (x:=vu) rfl (zb (wg hos hds (x:=.none) rfl (zd ?_)))))));refine zb (slicePart_none ?_)
 show wpAny _ _ (if ((1:Int) == 0)=true then _ else _) _ _ s
 rw[if_neg w6]
 refine zb (Wp pl (zb (Wp pu (zb (zd ?_)))))
 show wpAny _ _ (match Builtin.Slice.sliceAdjust lo hi 1 (n:Int) with |(lo,hi)=>pure (lo,(1:Int),Builtin.Slice.slicePlaces lo hi 1)) _ _ s
 rw[zc7 lo hi n];show wpAny _ _ (pure (((sIx n 0 lo:Nat):Int),(1:Int),Builtin.Slice.slicePlaces ((sIx n 0 lo:Nat):Int) ((sIx n n hi:Nat):Int) 1)) _ _ s;rw[QV];exact zd h
def zx3(xs:Array Value)(i k:Nat):((List.range k).filterMap fun(m:Nat)=>xs[((i:Int)+(m:Int)*1).toNat]?).toArray=((xs.toList.drop i).take k).toArray:=by
 have e:(fun(m:Nat)=>xs[((i:Int)+(m:Int)*1).toNat]?)=λm=>xs[i+m]?:=by
  funext m
  have:((i:Int)+(m:Int)*1).toNat=i+m:=w5
  rw[this]
 rw[e];have:=pick_run xs i k;rw[yg] at this;have e2:((λx=>xs[x]?)∘λx=>i+x)=λm=>xs[i+m]?:=rfl;rw[e2] at this;rw[this]
def ZZ{t sl:Addr}{items:Array Value}{vl vu:Value}{lo hi:Option Int}{Q:Value->Shared->Prop}(ht:IsTup s.heap t items)(hs:s.heap.IsSliceOf sl vl vu .none)(pl:IsPart vl lo)(pu:IsPart vu hi)
  (hw:¬ (sIx items.size 0 lo=0/\sIx items.size items.size hi=items.size))
  (h:Q (.ref s.heap.objs.size) { s with heap:=s.heap.push { cls:=.type "tuple",data:=.seq ((items.toList.drop (sIx items.size 0 lo)).take (sIx items.size items.size hi-sIx items.size 0 lo)).toArray } })
  (hsz:items.size<=sizeLine):wpAny (model prog w) A (getItem (.ref t) (.ref sl)) Q E s:=by
 have htake:sizeOk (.seq ((items.toList.drop (sIx items.size 0 lo)).take (sIx items.size items.size hi-sIx items.size 0 lo)).toArray):=by
  show((items.toList.drop (sIx items.size 0 lo)).take (sIx items.size items.size hi-sIx items.size 0 lo)).toArray.size<=sizeLine;rw[zt,yc,length_drop,xQ];lia
 have hj:sIx items.size items.size hi<=items.size:=zV2 _ _ (zn _) hi;obtain⟨os,hos,hcs,hds⟩:=id hs;have hTs:s.TypeIs (.ref sl) "slice" := ⟨os,hos,hcs⟩;unfold getItem
 try with_reducible refine xx ?_
 first |refine zb (zd ?_) |skip
 refine zb (wpAny_sequenceKey ht.typeIs w6 ?_)
 refine zb (xD (name:=Str.ofString "__getitem__") ht.typeIs PyProof.Rows.slot_tuple_getitem
  (wj PyProof.Rows.slot_tuple_getitem ht.typeIs entry_tuple_getitem ?_ (args_tuple_getitem _ _)))
 show wpAny _ _ (Builtin.Tuple.tupleItemsOf (.ref t) >>= _) _ _ s;refine zb (tupleItemsOf_ ht ?_);refine zb (wpAny_typeOf hTs ?_)
 rw[if_pos w6]
 refine zb (qN hs pl pu ?_)
 have hno:¬ ((((sIx items.size 0 lo:Nat):Int) == 0&&(1:Int) == 1&&(sIx items.size items.size hi-sIx items.size 0 lo) == items.size)=true):=by
  intro q;rw[zD,zD] at q;have q1:((sIx items.size 0 lo:Nat):Int)=0:=eq_of_beq q.1.1;have q2:sIx items.size items.size hi-sIx items.size 0 lo=items.size:=eq_of_beq q.2
  exact hw ⟨w5,w5⟩
 show wpAny _ _ (if (((sIx items.size 0 lo:Nat):Int) == 0&&(1:Int) == 1&&(sIx items.size items.size hi-sIx items.size 0 lo) == items.size)=true then _ else _) _ _ s
 rw[if_neg hno,zx3]
 first
  |exact zb (m:=Builtin.Tuple.tupleExact _) (xp (zd ⟨_,rfl,zd h⟩) htake)
  |exact zb (m:=Builtin.Tuple.tupleExact _) (xp (zb (zd (zd ⟨_,rfl,zd h⟩))) htake)
  |exact zb (zb (m:=Builtin.Tuple.tupleExact _) (xp (zd (zd ⟨_,rfl,zd h⟩)) htake))
  |exact zb (zb (m:=Builtin.Tuple.tupleExact _) (xp (zd ⟨_,rfl,zd h⟩) htake))
end
end HT
namespace L2
abbrev TO:=St->Hp->(Option Int->Hp->Prop)->Prop
def PO(X:Cx)(e:Option Expr)(t:TO):Prop:=
 ∀(pins:List (Addr × Obj)) (s:Shared) (σ:St) (H:Hp) (Q:Option Int->Hp->Prop),Inv X pins σ H s->t σ H Q ->
  wpAny (model X.prog X.w) X.A (evalPart e X.env) (λu s'=>∃o H',Inv X pins σ H' s'/\IsPart u o/\Q o H') X.xe s
def zI8:TO:=λ_ H Q=>Q none H
def xm1(t:TE):TO:=λσ H Q=>t σ H λx H1=>∃i,x=.int i/\Q (some i) H1
def kH{ns:List Int}:∀{us:List Value},Vals (ns.map V.int) us->IntsAre us ns:=by
 induction ns with
 |nil=>intro us r;rw[map_nil] at r;cases r;exact .nil
 | cons n ns ih =>
  intro us r;rw[zJ] at r
  cases r with
  |cons r1 r2=>
   obtain⟨t,e⟩:=r1;subst e;exact .cons n t (ih r2)
section
variable {X:Cx}{e:Expr}{te:TE}{lo hi:Option Expr}{tl th:TO}{pos p2:Pos}
def zL2:PO X none zI8:=by
 intro pins s σ H Q I h;rw[evalPart_none];exact zd ⟨none,H,I,.none,h⟩
def zi0(h:PE X e te):PO X (some e) (xm1 te):=by
 intro pins s σ H Q I hw;rw[evalPart_some];refine thn (h pins s σ H _ I hw) λu s1 ⟨x,H1,I1,r1,q1⟩=>?_;obtain⟨i,rfl,q⟩:=q1;obtain⟨t,rfl⟩:=r1;exact⟨some i,H1,I1,.int i t,q⟩
def SlR(X:Cx)(r:V->Option Int->Option Int->Hp->VK->Prop):Prop:=
 ∀(pins:List (Addr × Obj)) (s:Shared) (σ:St) (H:Hp) (x:V) (v vl vu:Value) (lo hi:Option Int) (sl:Addr) (Q:VK),Inv X pins σ H s->RelV x v->s.heap.IsSliceOf sl vl vu .none->IsPart vl lo->IsPart vu hi->r x lo hi H Q ->
  ∃T id,typeLookup (.type T) "__getitem__" = pure (some (.builtin id))/\s.TypeIs v T/\wpAny (model X.prog X.w) X.A (getItem v (.ref sl)) (EP X pins σ Q) X.xe s
def tSl(r:V->Option Int->Option Int->Hp->VK->Prop)(te:TE)(tl th:TO):TE:=λσ H Q=>te σ H λx H1=>tl σ H1 λl H2=>th σ H2 λu H3=>r x l u H3 Q
def Qb{r:V->Option Int->Option Int->Hp->VK->Prop}(hr:SlR X r)(he:PE X e te)(hl:PO X lo tl)(hu:PO X hi th):PE X (.Subscript e (.Slice lo hi none p2) pos) (tSl r te tl th):=by
 intro pins s σ H Q I h;refine Subscript_ (thn (he pins s σ H _ I h) λv s1 ⟨x,H1,I1,r1,q1⟩=>?_);refine wpAny_Slice (thn (hl pins s1 σ H1 _ I1 q1) λvl s2 ⟨l,H2,I2,pl,q2⟩=>thn (hu pins s2 σ H2 _ I2 q2) λvu s3 ⟨u,H3,I3,pu,q3⟩=>?_);rw[evalPart_none];refine zd ?_;have I4:Inv X pins σ H3 { s3 with heap:=s3.heap.push { cls:=.type "slice",data:=.fields #[vl,vu,.none] } }:=I3.kept (t':=s3.toks) λb ob q=>ze _ q;obtain⟨T,id,hT,ht,hg⟩:=hr pins { s3 with heap:=s3.heap.push { cls:=.type "slice",data:=.fields #[vl,vu,.none] } } σ H3 x v vl vu l u s3.heap.objs.size Q I4 r1 (Heap.IsSliceOf.new ..) pl pu q3;show wpAny (model X.prog X.w) X.A (subscriptTail e (.Slice lo hi none p2) v (.ref s3.heap.objs.size)) (EP X pins σ Q) X.xe { s3 with heap:=s3.heap.push { cls:=.type "slice",data:=.fields #[vl,vu,.none] } }
 exact tail_any (ops:=[.ref s3.heap.objs.size,v]) ht hT hg (by with_unfolding_all rfl)
def zC7(xs:List V)(lo hi:Option Int):List V:=(xs.drop (HT.sIx xs.length 0 lo)).take (HT.sIx xs.length xs.length hi-HT.sIx xs.length 0 lo)
def XF(xs:List V)(lo hi:Option Int):(zC7 xs lo hi).length<=xs.length:=by
 unfold zC7;rw[yc,length_drop];lia
def xI9(K:W.Frag):V->Option Int->Option Int->Hp->VK->Prop:=λx lo hi H Q=>∃a xs,x=.ref a/\SqT K H a xs /\
 ¬ (HT.sIx xs.length 0 lo=0/\HT.sIx xs.length xs.length hi=xs.length)/\∀p,H p=none->Q (.ref p) (upd H p (.tup (zC7 xs lo hi)))
def zU1:SlR X (xI9 X.K):=by
 intro pins s σ H x v vl vu lo hi sl Q I rx hs pl pu h;obtain⟨a,xs,rfl,hx,hw,q⟩:=h;cases rx;obtain⟨its,r,ht,hz⟩:=I.tuple hx
 have hlen:its.toArray.size=xs.length:=by rw[zt];exact r.length.symm
 refine⟨"tuple",_,PyProof.Rows.slot_tuple_getitem.lookup,ht.typeIs,?_⟩
 refine HT.ZZ ht hs pl pu (by rw[hlen];exact hw) ?_ (by rw[hlen];exact hz)
 rw[hlen];refine⟨.ref s.heap.objs.size,_,I.laid (t':=s.toks) (o:=.tup (zC7 xs lo hi)) (λb ob q=>ze _ q) (zn _) ?_,rfl,q _ (I.hok.fresh (zn _))⟩;exact⟨zy (XF xs lo hi) hz,_,(r.drop (HT.sIx xs.length 0 lo)).take (HT.sIx xs.length xs.length hi-HT.sIx xs.length 0 lo),IsTup.new _ _⟩
end
def ixN(n:Nat)(i:Int):Option Nat:=if 0<=i then(if i<n then some i.toNat else none) else if -(n:Int)<=i then some (i+n).toNat else none
def atI{α:Type}(xs:List α)(i:Int):Option α:=(ixN xs.length i).bind λj=>xs[j]?
def zn3{n:Nat}{i:Int}{j:Nat}(h:ixN n i=some j):seqIndex? i n=some j/\j<n/\-(n:Int)<=i/\i<n:=by
 unfold ixN at h
 by_cases h0:0<=i
 ·rw [if_pos h0] at h
  by_cases h1:i<n
  ·rw [if_pos h1] at h;have e:i.toNat=j:=zF h
   exact⟨by rw[seqIndex_of h0 h1,e],w5,w5,h1⟩
  ·rw[if_neg h1] at h;cases h
 ·rw [if_neg h0] at h
  by_cases h1:-(n:Int)<=i
  ·rw [if_pos h1] at h;have e:(i+n).toNat=j:=zF h
   exact⟨by rw[seqIndex_neg w5 h1,e],w5,h1,w5⟩
  ·rw[if_neg h1] at h;cases h
def JB{α:Type}{xs:List α}{i:Int}{v:α}(h:atI xs i=some v):∃j,seqIndex? i xs.length=some j/\xs[j]?=some v/\j<xs.length/\-(xs.length:Int)<=i/\i<xs.length:=by
 unfold atI at h
 cases e:ixN xs.length i with
 |none=>rw[e] at h;cases h
 |some j=>
  rw[e] at h;obtain⟨h1,h2,h3,h4⟩:=zn3 e;exact⟨j,h1,h,h2,h3,h4⟩
def qh{α:Type}{xs:List α}{j:Nat}{v:α}(h:xs[j]?=some v):atI xs (j:Int)=some v:=by
 have hj:j<xs.length:=(zq.mp h).1
 have e:ixN xs.length (j:Int)=some j:=by
  unfold ixN
  rw[if_pos w5,if_pos w5];simp
 unfold atI;rw[e];exact h
def VQ(b:Expr):Prop:=∀o i,subscripted b false o i=operate [o,i] (getItem o i)
def IxR(X:Cx)(r:R2):Prop:=
 ∀(value slice:Expr) (pins:List (Addr × Obj)) (s:Shared) (σ:St) (H:Hp) (x y:V) (v u:Value) (Q:VK),Inv X pins σ H s->RelV x v->RelV y u->r x y H Q ->
  subscripted slice false v u=operate [v,u] (getItem v u)->wpAny (model X.prog X.w) X.A (subscriptTail value slice v u) (EP X pins σ Q) X.xe s
def MtR(X:Cx)(id:String)(r:V->List V->Hp->VK->Prop):Prop:=
 ∀(pins:List (Addr × Obj)) (s:Shared) (σ:St) (H:Hp) (x:V) (xs:List V) (v:Value) (us:List Value) (Q:VK),Inv X pins σ H s->RelV x v->Vals xs us->r x xs H Q ->
  wpAny (model X.prog X.w) X.A (call (.builtin id) (v::us)) (EP X pins σ Q) X.xe s
section
variable {X:Cx}{a b:Expr}{ta tb:TE}{pos:Pos}
def IxR.or{r r':R2}(h:IxR X r)(h':IxR X r'):IxR X (λx y H Q=>r x y H Q\/r' x y H Q):=by
 intro value slice pins s σ H x y v u Q I rx ry q hs
 rcases q with q |q
 ·exact h value slice pins s σ H x y v u Q I rx ry q hs
 ·exact h' value slice pins s σ H x y v u Q I rx ry q hs
def zL6{r:R2}(hr:IxR X r)(ha:PE X a ta)(hb:PE X b tb)(hs:VQ b):PE X (.Subscript a b pos) (tOp r ta tb):=by
 intro pins s σ H Q I h;exact Subscript_ (xy8 ha hb I h λv u s2 x y H2 I2 rx ry q=>hr a b pins s2 σ H2 x y v u Q I2 rx ry q (hs _ _))
def xA6(K:W.Frag):R2:=λx y H Q=>∃p xs i v,x=.ref p/\y=.int i/\SqL K H p xs/\atI xs i=some v/\Q v H
def xA4(K:W.Frag):R2:=λx y H Q=>∃p xs i v,x=.ref p/\y=.int i/\SqT K H p xs/\atI xs i=some v/\Q v H
def xA5:R2:=λx y H Q=>∃z i c,x=.str z/\y=.int i/\z.length<=sizeLine/\atI z.cps.toList i=some c/\Q (.str ⟨#[c]⟩) H
def Jm:IxR X (xA6 X.K):=by
 intro value slice pins s σ H x y v u Q I rx ry h hs;obtain⟨p,xs,i,z,rfl,rfl,hq,he,q⟩:=h;cases rx;obtain⟨t,rfl⟩:=ry;obtain⟨its,r,pl,hz⟩:=I.list hq;obtain⟨j,h1,h2,h3,h4,h5⟩:=JB he;obtain⟨w,ew,rw'⟩:=r.get h2;have hl:=r.length;have hn:=WA;have fin:EP X pins σ Q w s:=⟨z,H,I,rw',q⟩
 by_cases h0:0<=i
 ·have hj : i.toNat = j := by
   rw[seqIndex_of h0 h5] at h1;exact zF h1
  exact item_listR pl.isList h0 w5 (by rw[hj];simpa using ew) fin hs
 ·have hj : (i + (its.toArray.size : Int)).toNat = j := by
   rw[seqIndex_neg w5 h4] at h1
   rw[zt,<- hl];exact zF h1
  exact subscriptTail_builtinR (x:=w) pl.isList.typeIs slot_list_getitem.lookup
   (wpAny_getItem_list_neg (Q:=λr s'=>r=w/\EP X pins σ Q r s') pl.isList w5 (by rw[zt]<;>lia) w5 (by rw[hj];simpa using ew) ⟨rfl,fin⟩) hs
def xd3:IxR X (xA4 X.K):=by
 intro value slice pins s σ H x y v u Q I rx ry h hs;obtain⟨p,xs,i,z,rfl,rfl,hq,he,q⟩:=h;cases rx;obtain⟨t,rfl⟩:=ry;obtain⟨its,r,pl,hz⟩:=I.tuple hq;obtain⟨j,h1,h2,h3,h4,h5⟩:=JB he;obtain⟨w,ew,rw'⟩:=r.get h2;have hl:=r.length;have hn:=WA;have fin:EP X pins σ Q w s:=⟨z,H,I,rw',q⟩
 exact subscriptTail_builtinR (x:=w) pl.typeIs slot_tuple_getitem.lookup
  (getItem_tuple (j:=j) (Q:=λr s'=>r=w/\EP X pins σ Q r s') pl w5 w5 (by rw[zt,<- hl];exact h1) (by simpa using ew) ⟨rfl,fin⟩) hs
def xd4:IxR X xA5:=by
 intro value slice pins s σ H x y v u Q I rx ry h hs;obtain⟨z,i,c,rfl,rfl,hz,he,q⟩:=h;obtain⟨t,rfl⟩:=rx;obtain⟨t',rfl⟩:=ry;obtain⟨j,h1,h2,h3,h4,h5⟩:=JB he
 have hl:z.cps.toList.length=z.length:=by simp[Str.length]
 rw[hl] at h1 h4 h5;have hn:=WA
 exact tail_any (typeIs_str s z t) slot_str_getitem.lookup (getItem_str (c:=c) (by
  have e1:decide (i < -(2^63:Int))=false:=zW w5
  have e2:decide (i>=2^63)=false:=zW w5
  rw[e1,e2,Bool.or_false]) (by rw[h1];simpa using h2) ⟨.str ⟨#[c]⟩,H,I.tok _,⟨_,rfl⟩,q⟩) hs
def rIx(K:W.Frag):R2:=λx y H Q=>xA6 K x y H Q\/xA4 K x y H Q\/xA5 x y H Q
def xB:IxR X (rIx X.K):=Jm.or (xd3.or xd4)
def za9(its:List Value)(n j:Nat)(u:Value):Obj.mapSeq (·.setIfInBounds j u) { cls:=.type "list",data:=.seq its.toArray n }={ cls:=.type "list",data:=.seq (its.set j u).toArray n }:=by
 simp[Obj.mapSeq]
def Inv.lst{pins:List (Addr × Obj)}{σ:St}{H:Hp}{s:Shared}{p:Addr}{xs:List V}(I:Inv X pins σ H s)(h:H p=some (.lst xs)) :
  ∃(its:List Value) (n:Nat),Vals xs its/\s.heap.get? p=some { cls:=.type "list",data:=.seq its.toArray n }/\xs.length<=sizeLine:=by
 obtain⟨z,its,n,r,e⟩:=I.hok p _ h;exact⟨its,n,r,e,z⟩
def Inv.lstUpd{pins:List (Addr × Obj)}{σ:St}{H:Hp}{s:Shared}{p:Addr}{xs ys:List V}{its its':List Value}{n n':Nat}{f:Obj->Obj}(I:Inv X pins σ H s)(h:H p=some (.lst xs))
  (ho:s.heap.get? p=some { cls:=.type "list",data:=.seq its.toArray n }) (hf:f { cls:=.type "list",data:=.seq its.toArray n }={ cls:=.type "list",data:=.seq its'.toArray n' }) (r:Vals ys its') (hz:ys.length<=sizeLine) (t:Nat) :
  Inv X pins σ (upd H p (.lst ys)) { s with heap:=s.heap.update p f,toks:=t }:=by
 have e:(s.heap.update p f).get? p=some { cls:=.type "list",data:=.seq its'.toArray n' }:=by
  rw[xO f ho (by rw[hf]<;>rfl),hf]
 refine I.write (x:=p) (e:=p) (by rw[h];trivial) (.inl rfl) (λb u hb q=>(wl _ _ (Ne.symm hb)).trans q) ⟨_,e⟩ ?_
 exact⟨hz,its',n',r,e⟩
def xo4:V->V->V->Hp->(Hp->Prop)->Prop:=λo i v H Q=>∃p xs k j,o=.ref p/\i=.int k/\H p=some (.lst xs)/\ixN xs.length k=some j/\Q (upd H p (.lst (xs.set j v)))
def zu8:xG4 X xo4:=by
 intro pins s σ H o i v ov iv u Q I ro ri rv h;obtain⟨p,xs,k,j,rfl,rfl,hp,hj,q⟩:=h;cases ro;obtain⟨t,rfl⟩:=ri;obtain⟨its,n,r,ho,hz⟩:=I.lst hp;obtain⟨h1,h2,h3,h4⟩:=zn3 hj;have hl:=r.length;have hn:=WA
 have I':Inv X pins σ (upd H p (.lst (xs.set j v))) { s with heap:=s.heap.update p (Obj.mapSeq (·.setIfInBounds j u)) }:=
  I.lstUpd hp ho (za9 its n j u) (r.set rv j) (by rw[List.length_set];exact hz) s.toks
 by_cases h0:0<=k
 ·have hk : k.toNat = j := by
   rw[seqIndex_of h0 h4] at h1;exact zF h1
  exact W.ki_setAt ho h0 w5 (by rw[zt,<- hl];exact h4) (by rw[hk];exact⟨_,I',q⟩)
 ·have hk : (k + (its.toArray.size : Int)).toNat = j := by
   rw[seqIndex_neg w5 h3] at h1
   rw[zt,<- hl];exact zF h1
  exact W.ki_setBack ho w5 (by rw[zt,<- hl];exact h3) w5 (by rw[hk];exact⟨_,I',q⟩)
def Uh(lo hi:Option Int)(n:Nat):(sliceBounds lo hi none n).1=((HT.sIx n 0 lo:Nat):Int)/\(sliceBounds lo hi none n).2.1=((HT.sIx n n hi:Nat):Int)/\(sliceBounds lo hi none n).2.2=1:=by
 refine⟨?_,?_,rfl⟩
 ·cases lo with
  |none=>simp[sliceBounds,HT.sIx]
  |some i=>
   simp only[sliceBounds,HT.sIx,Option.getD_none,show(1:Int) > 0 by decide,if_true]
   by_cases h:i<0
   ·simp only[h,if_true]<;>lia
   ·simp only[h,if_false]<;>lia
 ·cases hi with
  |none=>simp[sliceBounds,HT.sIx]
  |some i=>
   simp only[sliceBounds,HT.sIx,Option.getD_none,show(1:Int) > 0 by decide,if_true]
   by_cases h:i<0
   ·simp only[h,if_true]<;>lia
   ·simp only[h,if_false]<;>lia
def WX(its:List Value)(lo hi:Option Int):slicePick its.toArray lo hi none=((its.drop (HT.sIx its.length 0 lo)).take (HT.sIx its.length its.length hi-HT.sIx its.length 0 lo)).toArray:=by
 obtain⟨h1,h2,h3⟩:=Uh lo hi its.toArray.size;unfold slicePick;rw[h1,h2,h3]
 simp only[sliceRange_one,pick_run,zt]<;>rfl
def xJ0(K:W.Frag):V->Option Int->Option Int->Hp->VK->Prop:=λx lo hi H Q=>∃a xs,x=.ref a/\SqL K H a xs/\∀p,H p=none->Q (.ref p) (upd H p (.lst (zC7 xs lo hi)))
def zJ0:SlR X (xJ0 X.K):=by
 intro pins s σ H x v vl vu lo hi sl Q I rx hs pl pu h;obtain⟨a,xs,rfl,hx,q⟩:=h;cases rx;obtain⟨its,r,ht,hz⟩:=I.list hx;have hlen:=r.length;refine⟨"list",_,slot_list_getitem.lookup,ht.isList.typeIs,?_⟩
 refine wpAny_getItem_list_slice ht.isList hs pl pu .none (by simp) ?_ (by rw[zt]<;>lia)
 rw[WX,<- hlen];refine⟨.ref s.heap.objs.size,_,I.laid (t':=s.toks) (o:=.lst (zC7 xs lo hi)) (λb ob q=>ze _ q) (zn _) ?_,rfl,q _ (I.hok.fresh (zn _))⟩;exact⟨zy (XF xs lo hi) hz,_,0,(r.drop (HT.sIx xs.length 0 lo)).take (HT.sIx xs.length xs.length hi-HT.sIx xs.length 0 lo),zp _ rfl⟩
def Wi:V->Bool
 |.non=>true
 |.bl _=>true
 |.int _=>true
 |.str _=>true
 |_=>false
def eqV:V->V->Bool
 |.non,.non=>true
 |.bl a,.bl b=>a == b
 |.bl a,.int b=>(if a then 1 else 0) == b
 |.int a,.bl b=>a == (if b then 1 else 0)
 |.int a,.int b=>a == b
 |.str a,.str b=>a == b
 |_,_=>false
def xe5{A:Around}{s:Shared}{y x:V}{u v:Value}(ry:RelV y u)(rx:RelV x v)(fy:Wi y=true)(fx:Wi x=true):SeqAt.EqAt A s u v (eqV y x):=by
 cases y with
 |non=>
  cases ry
  cases x with
  |non=>cases rx;exact SeqAt.EqAt.same _
  |bl b=>cases rx;exact SeqAt.EqAt.none_bool b
  |int b=>obtain⟨t,rfl⟩:=rx;exact SeqAt.EqAt.none_int b t
  |str b=>obtain⟨t,rfl⟩:=rx;exact SeqAt.EqAt.none_str b t
  |_=>exact absurd (show false=true from fx) zI
 |bl a=>
  cases ry
  cases x with
  |non=>cases rx;exact SeqAt.EqAt.bool_none a
  |bl b=>cases rx;exact SeqAt.EqAt.bool_bool a b
  |int b=>obtain⟨t,rfl⟩:=rx;exact SeqAt.EqAt.bool_int a b t
  |str b=>obtain⟨t,rfl⟩:=rx;exact SeqAt.EqAt.bool_str a b t
  |_=>exact absurd (show false=true from fx) zI
 |int a=>
  obtain⟨t',rfl⟩:=ry
  cases x with
  |non=>cases rx;exact SeqAt.EqAt.int_none a t'
  |bl b=>cases rx;exact SeqAt.EqAt.int_bool a t' b
  |int b=>obtain⟨t,rfl⟩:=rx;exact SeqAt.EqAt.int_int a t' b t
  |str b=>obtain⟨t,rfl⟩:=rx;exact SeqAt.EqAt.int_str a t' b t
  |_=>exact absurd (show false=true from fx) zI
 |str a=>
  obtain⟨t',rfl⟩:=ry
  cases x with
  |non=>cases rx;exact SeqAt.EqAt.str_none a t'
  |bl b=>cases rx;exact SeqAt.EqAt.str_bool a t' b
  |int b=>obtain⟨t,rfl⟩:=rx;exact SeqAt.EqAt.str_int a t' b t
  |str b=>obtain⟨t,rfl⟩:=rx;exact SeqAt.EqAt.str_str a t' b t
  |_=>exact absurd (show false=true from fx) zI
 |_=>exact absurd (show false=true from fy) zI
def eqU(x:V)(u:Value):Bool:=match u with
 |.none=>eqV .non x
 |.bool b=>eqV (.bl b) x
 |.int i _=>eqV (.int i) x
 |.str z _=>eqV (.str z) x
 |_=>false
def zG8{x y:V}{u:Value}(r:RelV y u)(f:Wi y=true):eqU x u=eqV y x:=by
 cases y with
 |non=>cases r;rfl
 |bl b=>cases r;rfl
 |int i=>obtain⟨t,rfl⟩:=r;rfl
 |str z=>obtain⟨t,rfl⟩:=r;rfl
 |_=>exact absurd (show false=true from f) zI
theorem JC{x:V}:∀{xs:List V}{us:List Value},Vals xs us->xs.all Wi=true->us.any (eqU x)=xs.any λy=>eqV y x
 |_,_,.nil,_=>rfl
 |y::xs,u::us,.cons r t,f=>by
  rw[all_cons,zD] at f;rw[yC,yC,zG8 r f.1,JC t f.2]
theorem Vw{A:Around}{s:Shared}{x:V}{v:Value}(rx:RelV x v)(fx:Wi x=true):∀{xs:List V}{us:List Value},Vals xs us->xs.all Wi=true->∀u∈us,SeqAt.EqAt A s u v (eqU x u)
 |_,_,.nil,_=>λu hu=>by cases hu
 |y::xs,u::us,.cons r t,f=>λu' hu=>by
  rw[all_cons,zD] at f
  rcases zj.mp hu with rfl |hu
  ·rw[zG8 r f.1];exact xe5 r rx f.1 fx
  ·exact Vw rx fx t f.2 u' hu
def inV(x:V)(xs:List V):Bool:=xs.any λy=>eqV y x
def rIn(K:W.Frag)(neg:Bool):R2:=λx y H Q=>∃p xs,y=.ref p/\(SqL K H p xs\/SqT K H p xs)/\Wi x=true/\xs.all Wi=true/\Q (.bl (if neg then !inV x xs else inV x xs)) H
def zj0:OpR X (compareOp .In) (rIn X.K false):=by
 intro pins s σ H x y v u Q I rx ry h;obtain⟨p,xs,rfl,hq,fx,fs,q⟩:=h;cases ry
 rcases hq with hq |hq
 ·obtain ⟨its, r, pl, hz⟩ := I.list hq
  refine SeqAt.in_listAt (eqU x) pl.isList (λw hw=>Vw rx fx r fs w (by simpa using hw)) ⟨.bl _,H,I,rfl,?_⟩
  rw[show its.toArray.any (eqU x)=its.any (eqU x) by simp,JC r fs]
  exact q
 ·obtain ⟨its, r, pl, hz⟩ := I.tuple hq
  refine SeqAt.in_tupleAt (eqU x) pl (λw hw=>Vw rx fx r fs w (by simpa using hw)) ⟨.bl _,H,I,rfl,?_⟩
  rw[show its.toArray.any (eqU x)=its.any (eqU x) by simp,JC r fs]
  exact q
def wV:kG X (.builtin "len") (λxs H Q=>∃p ys,xs=[.ref p]/\(SqL X.K H p ys\/SqT X.K H p ys)/\Q (.int ys.length) H):=by
 intro pins s σ H xs us Q I r h;obtain⟨p,ys,rfl,hq,q⟩:=h;obtain⟨u,rfl,rx⟩:=ZD r;cases rx;have hn:=WA
 rcases hq with hq |hq
 ·obtain ⟨its, r', pl, hz⟩ := I.list hq;have hlen:=r'.length
  exact Calls.call_len_list pl.isList (by simp only[zt]<;>lia) ⟨.int ys.length,H,I.tok _,⟨s.toks+1,by rw[zt,hlen]⟩,q⟩
 ·obtain ⟨its, r', pl, hz⟩ := I.tuple hq;have hlen:=r'.length
  exact len_tuple pl (by simp only[zt]<;>lia) ⟨.int ys.length,H,I.tok _,⟨s.toks+1,by rw[zt,hlen]⟩,q⟩
def Kn:kG X (.type "list") (λxs H Q=>∃p ys,xs=[.ref p]/\(SqL X.K H p ys\/SqT X.K H p ys)/\∀l,H l=none->Q (.ref l) (upd H l (.lst ys))):=by
 intro pins s σ H xs us Q I r h;obtain⟨p,ys,rfl,hq,q⟩:=h;obtain⟨u,rfl,rx⟩:=ZD r;cases rx
 have fin:∀(its:List Value),Vals ys its->ys.length<=sizeLine->∀(h':Heap) (c':Nat),(∀b o',s.heap.get? b=some o'->h'.get? b=some o') ->
   h'.get? s.heap.objs.size=some { cls:=.type "list",dict:=none,data:=.seq its.toArray c',slots:=#[] }->EP X pins σ Q (.ref s.heap.objs.size) { s with heap:=h' }:=λits r' hz h' c' kp e=>
  ⟨.ref s.heap.objs.size,_,I.laid (t':=s.toks) kp (zn _) (show ObjOk X.prog X.w _ h' _ (.lst ys) from⟨hz,its,c',r',e⟩),rfl,q _ (I.hok.fresh (zn _))⟩
 rcases hq with hq |hq
 ·obtain ⟨its, r', pl, hz⟩ := I.list hq;have hlen:=r'.length;obtain⟨o,ho,hc,n,hd⟩:=pl.isList
  exact call_list_seq p (.inl rfl) ho hc hd (λh' c' kp e=>fin its r' hz h' c' kp e) (by simp only[zt]<;>lia)
 ·obtain ⟨its, r', pl, hz⟩ := I.tuple hq;have hlen:=r'.length;obtain⟨o,ho,hc,n,hd⟩:=pl
  exact call_list_seq p (.inr rfl) ho hc hd (λh' c' kp e=>fin its r' hz h' c' kp e) (by simp only[zt]<;>lia)
def wS:kG X (.type "tuple") (λxs H Q=>∃p ys,xs=[.ref p]/\((SqL X.K H p ys/\∀l,H l=none->Q (.ref l) (upd H l (.tup ys)))\/(SqT X.K H p ys/\Q (.ref p) H))):=by
 intro pins s σ H xs us Q I r h;obtain⟨p,ys,rfl,h⟩:=h;obtain⟨u,rfl,rx⟩:=ZD r;cases rx
 rcases h with ⟨hq,q⟩ |⟨hq,q⟩
 ·obtain ⟨its, r', pl, hz⟩ := I.list hq;have hlen:=r'.length
  refine call_tuple_list pl.isList (λh' kp=>?_) (by simp only[zt]<;>lia)
  have I1:Inv X pins σ H { s with heap:=h' }:=I.kept (t':=s.toks) kp
  have I2:Inv X pins σ (upd H h'.objs.size (.tup ys)) { s with heap:=h'.push { cls:=.type "tuple",data:=.seq its.toArray } }:=
   I1.laid (t':=s.toks) (λb o e=>ze _ e) (zn _) (show ObjOk X.prog X.w _ _ _ (.tup ys) from⟨hz,its,r',IsTup.new _ _⟩)
  exact⟨.ref h'.objs.size,_,I2,rfl,q _ (I1.hok.fresh (zn _))⟩
 ·obtain⟨its,r',pl,hz⟩:=I.tuple hq;exact call_tuple_same pl ⟨.ref p,H,I,rfl,q⟩
def tyV(K:W.Frag)(T:String)(x:V)(H:Hp):Prop:=match x with
 |.str _=>T = "str"
 |.int _=>T = "int"
 | .ref p => (T = "list" /\ ∃ xs, SqL K H p xs) \/ (T = "tuple" /\ ∃ o, K.lookup p = some o /\ o.cls = .type "tuple" /\ o.dict = none) \/
   (T = "dict" /\ ((∃kvs,H p=some (.dK kvs))\/∃kvs,H p=some (.dT kvs)))\/(T = "set" /\ ∃S n,H p=some (.set S n))
 |_=>False
def zT1{pins:List (Addr × Obj)}{σ:St}{H:Hp}{s:Shared}{T:String}{x:V}{v:Value}(I:Inv X pins σ H s)(r:RelV x v)(ty:tyV X.K T x H) :
  s.TypeIs v T/\∀a,v=.ref a->∃ob,s.heap.get? a=some ob/\ob.dict=none:=by
 cases x with
 |str z=>
  obtain⟨t,rfl⟩:=r;cases(show T = "str" from ty)
  exact⟨typeIs_str s z t,λ_ e=>nomatch e⟩
 |int i=>
  obtain⟨t,rfl⟩:=r;cases(show T = "int" from ty)
  exact⟨typeIs_int s i t,λ_ e=>nomatch e⟩
 | ref p =>
  cases r
  rcases ty with ⟨rfl,xs,hq⟩ |⟨rfl,o,hk,hc,hd⟩ |⟨rfl,hk⟩ |⟨rfl,S,n,hk⟩
  ·obtain⟨its,_,pl,_⟩:=I.list hq;refine⟨pl.isList.typeIs,λa e=>?_⟩;cases e;obtain⟨o,n,e,c,hd,_⟩:=pl;exact⟨o,e,hd⟩
  ·refine⟨⟨o,I.kIn p o hk,hc⟩,λa e=>?_⟩;cases e;exact⟨o,I.kIn _ o hk,hd⟩
  ·have z : ∃ o, s.heap.get? p = some o /\ o.ExactDict := by
    rcases hk with ⟨kvs,hk⟩ |⟨kvs,hk⟩
    ·obtain⟨_,_,_,_,o,_,_,e,ex,_⟩:=I.hok p _ hk;exact⟨o,e,ex⟩
    ·obtain⟨_,_,_,_,o,_,_,e,ex,_⟩:=I.hok p _ hk;exact⟨o,e,ex⟩
   obtain⟨o,e,ex⟩:=z;refine⟨⟨o,e,ex.1⟩,λa e2=>?_⟩;cases e2;exact⟨o,e,ex.2.1⟩
  ·obtain⟨o,_,_,_,e,ex,_⟩:=I.hok p _ hk;refine⟨⟨o,e,ex.1⟩,λa e2=>?_⟩;cases e2;exact⟨o,e,ex.2.1⟩
 |_=>exact False.elim ty
def tBM(K:W.Frag)(T:String)(r:V->List V->Hp->VK->Prop)(to:TE)(t:TA):TE:=λσ H Q=>to σ H λx H1=>tyV K T x H1/\t σ H1 λxs H2=>r x xs H2 Q
variable {o e:Expr}{es:List Expr}{to:TE}{t:TA}{name:Str}{apos cpos:Pos}{T id:String}{r:V->List V->Hp->VK->Prop}
def xw2(pa:PlainAttrs T)(slot:Slot T name id)(hty:typeOf (.builtin id)=pure (.type "method_descriptor"))(hm:MtR X id r)(ho:PE X o to)(ha:PA X (e::es) t)
  (hbase:attributeBase o name X.env (eval o X.env)=eval o X.env:=by rfl)
  (hfew : ((backTo cpos (starEach (e :: es) X.env)).all (λx => !x.1) && (backToKw cpos (keywordEach [] X.env)).all (λx => x.1.isSome)
   && decide ((e::es).length+([]:List Keyword).length+(if ([]:List Keyword).isEmpty then 0 else 1)<30))=true:=by rfl)
  (hline:(apos.endLine == cpos.line)=true:=by rfl) (hs:starEach (e::es) X.env=(false,eval e X.env)::starEach es X.env:=by rfl) (hplain:(backTo cpos (starEach es X.env)).any (·.1)=false:=by rfl) :
  PE X (.Call (.Attribute o name apos) (e::es) [] cpos) (tBM X.K T r to t):=by
 intro pins s σ H Q I h;refine wpAny_Call_method_late hbase hfew hline rfl (thn (ho pins s σ H _ I h) λv s1 ⟨x,H1,I1,r1,ty,q1⟩=>?_);obtain⟨h1,h2⟩:=zT1 I1 r1 ty;refine⟨T,id,pa,slot,hty,h1,h2,?_⟩;have hA:=ha cpos pins s1 σ H1 _ I1 q1;rw[hs] at hA ⊢
 refine Calls.callWith_builtin (by show(false||(backTo cpos (starEach es X.env)).any (·.1))=false;rw[hplain]<;>rfl) (Calls.evalArgs_plain ?_)
 exact thn hA λus s2 ⟨vs,H2,I2,r2,q2⟩=>hm pins s2 σ H2 x vs v us Q I2 r1 r2 q2
end
def MtM(X:Cx)(id:String)(r:V->List V->Hp->VK->Prop):Prop:=
 ∀(pins:List (Addr × Obj)) (s:Shared) (σ:St) (H:Hp) (x:V) (xs:List V) (v:Value) (us:List Value) (Q:VK),Inv X pins σ H s->RelV x v->Vals xs us->r x xs H Q ->
  wpAny (model X.prog X.w) X.A (call (.builtin id) (v::us)) (EP X pins σ Q) X.xe s
theorem Vals.one:∀{x:V}{us:List Value},Vals [x] us->∃u,us=[u]/\RelV x u
 |_,_,.cons r .nil=>⟨_,rfl,r⟩
theorem Vals.rep{xs:List V}{us:List Value}(h:Vals xs us):∀k:Nat,Vals (replicate k xs).flatten (replicate k us).flatten
 |0=>.nil
 |k+1=>by
  rw[wH,wH,yx,yx];exact Vals.append h (Vals.rep h k)
def UW(its:List Value):∀(k:Nat) (acc:List Value),
  List.foldl (λx1 x2=>x1++x2) acc.toArray (replicate k its.toArray)=(acc++(replicate k its).flatten).toArray
 |0,acc=>by simp
 | k + 1, acc => by
  have e:acc.toArray++its.toArray=(acc++its).toArray:=by simp
  have e2:(acc++its)++(replicate k its).flatten=acc++(replicate (k+1) its).flatten:=by
   rw[wH,yx,yz]
  rw[<- e2,<- UW its k (acc++its),<- e,wH,List.foldl_cons]
section
variable {X:Cx}{pins:List (Addr × Obj)}{σ:St}{H:Hp}{s:Shared}{l b:Addr}{xs ys zs:List V}
def Inv.lset{its its':List Value}{n:Nat}{f:Array Value->Array Value}{t':Nat}(I:Inv X pins σ H s)(hH:H l=some (.lst xs))
  (e:s.heap.get? l=some { cls:=.type "list",data:=.seq its.toArray n }) (hf:f its.toArray=its'.toArray) (hv:Vals ys its') (hz:ys.length<=sizeLine) :
  Inv X pins σ (upd H l (.lst ys)) { s with heap:=s.heap.update l (Obj.mapSeq f),toks:=t' }:=by
 have q:=PySem.IsL.update e f;rw[hf] at q
 refine I.write (x:=l) (e:=l) (by rw[hH];exact trivial) (.inl rfl) (λb' u hb hu=>(wl s.heap (Obj.mapSeq f) (Ne.symm hb)).trans hu) ⟨_,q⟩ ?_
 exact⟨hz,its',_,hv,q⟩
def Inv.lnew{its:List Value}{t':Nat}(I:Inv X pins σ H s)(hv:Vals ys its)(hz:ys.length<=sizeLine) :
  Inv X pins σ (upd H s.heap.objs.size (.lst ys)) { s with heap:=s.heap.push { cls:=.type "list",data:=.seq its.toArray },toks:=t' }:=
 I.laid (λ_ _ q=>ze _ q) (zn _) ⟨hz,its,0,hv,zp _ rfl⟩
def Inv.fresh(I:Inv X pins σ H s):H s.heap.objs.size=none:=I.hok.fresh (zn _)
def Inv.lstM(I:Inv X pins σ H s)(hH:H l=some (.lst xs)):xs.length<=sizeLine/\∃(its:List Value) (n:Nat),Vals xs its/\xs.length=its.length/\s.heap.get? l=some { cls:=.type "list",data:=.seq its.toArray n }:=by
 obtain⟨z,its,n,r,e⟩:=I.hok l _ hH;exact⟨z,its,n,r,r.length,e⟩
end
section
variable {X:Cx}
def zK3:V->List V->Hp->VK->Prop:=λx vs H Q=>∃l xs y,x=.ref l/\vs=[y]/\H l=some (.lst xs)/\xs.length<sizeLine/\Q .non (upd H l (.lst (xs++[y])))
def zl2:MtM X "list.append" zK3:=by
 intro pins s σ H x vs v us Q I rx rv h;obtain⟨l,xs,y,rfl,rfl,hH,hz,q⟩:=h;cases rx;obtain⟨u,rfl,ru⟩:=rv.one;obtain⟨z,its,n,r,hl,e⟩:=I.lstM hH
 refine call_meets F.slot_list_append ⟨_,e,rfl⟩ F.entry_list_append (F.args_list_append_2 _ _) (PySem.list_append l its.toArray n u (by rw[zt];lia)) ⟨e,?_⟩
 refine⟨.non,_,I.lset (its':=its++[u]) hH e (by simp) (r.append (.cons ru .nil)) ?_,rfl,q⟩
 rw[zB,List.length_singleton];lia
def xA9:R2:=λx y H Q=>∃l b xs zs,x=.ref l/\y=.ref b/\H l=some (.lst xs)/\H b=some (.lst zs)/\xs.length+zs.length<=sizeLine/\∀p,H p=none->Q (.ref p) (upd H p (.lst (xs++zs)))
def zj3:OpR X (binaryOp .Add) xA9:=by
 intro pins s σ H x y v u Q I rx ry h;obtain⟨l,b,xs,zs,rfl,rfl,hH,hB,hz,q⟩:=h;cases rx;cases ry;obtain⟨z,its,n,r,hl,e⟩:=I.lstM hH;obtain⟨z2,its2,n2,r2,hl2,e2⟩:=I.lstM hB
 refine PySem.P.add_list e e2 ?_ (by rw[zt,zt];lia)
 have ea:its.toArray++its2.toArray=(its++its2).toArray:=by simp
 rw[ea]
 exact⟨.ref _,_,I.lnew (t':=s.toks) (r.append r2) (by rw[zB];lia),rfl,q _ I.fresh⟩
def zm1{α:Type}(xs:List α)(k:Nat):(replicate k xs).flatten.length=k*xs.length:=by
 induction k with
 |zero=>simp
 |succ k ih=>rw[wH,yx,zB,ih,Nat.succ_mul,Nat.add_comm]
end
section
variable {prog:Program}{w:World}{A:Around}{E:Value->Shared->Prop}{s:Shared}
end
section
variable {X:Cx}
end
end L2
namespace Att
open PySem PySem.W PySem.Calls PyProof.Rows
def Xv{P:Params}{h:Heap}:∀(ns:List Int) (vs:List Value),WellAll P h vs (ns.map WData.int)->IntsAre vs ns:=by
 intro ns
 induction ns with
 |nil=>
  intro vs w;rw[map_nil] at w;cases w;exact .nil
 | cons n ns ih =>
  intro vs w;rw[zJ] at w
  cases w with
  |cons a b=>
   cases a;exact .cons _ _ (ih _ b)
def zf2{l:OpenLaw}{n:Nat}(hn:l.most=some n){P:Params}{h:Heap}{args:List WData}{vals:List Value}
  (hpre:l.row.toRowW.claim.pre args=true) (hwl:WellAll P h vals args) :
  ∃a vs ns,vals=[Value.ref a]/\args=[WData.list (ns.map WData.int)]/\h.get? a=some { cls:=.type "list",data:=.seq vs.toArray }/\IntsAre vs ns/\ns.length<=n:=by
 have hsh:WShape.hasAll [] args [.list .int]=true:=(pre_splitW hpre).1;have hc:l.pre.holds [] { args:=args }=true:=(pre_splitW hpre).2;obtain⟨d,r,rfl,h1,h2⟩:=hasAllW_cons hsh;obtain rfl:=hasAllW_nil h2;obtain⟨xs,rfl,h3⟩:=hasW_list h1;obtain⟨ns,rfl⟩:=items_int h3
 have hlen:ns.length<=n:=by
  unfold OpenLaw.pre at hc
  have h4:(WTm.not (.lt (.lit (.int (n:Int))) (.len (.arg 0)))).holds [] { args:=[.list (ns.map .int)] }=true:=by
   have h4:=(holds_andW hc).1;rw[hn] at h4;exact h4
  have h5:=condW_of h4 (w_not (w_lt w_lit (w_len_list (w_arg rfl))));rw[zg] at h5;refine wZ λq=>?_
  have q':(n:Int)<((ns.length:Nat):Int):=w5
  first
   |(rw[xt q'] at h5;exact absurd h5 w6)
   |(simp at h5;lia)
 cases hwl with
 |cons w1 w2=>
  cases w2
  cases w1 with
  |list ho hall=>exact⟨_,_,ns,rfl,rfl,ho,Xv ns _ hall,hlen⟩
def zh9(l:OpenLaw)(args:List WData):l.row.toRowW.claim.post args (.bool true) args=true:=
 postW_of (r:=l.row.toRowW) (X:=(true == true))
  (show WShape.has [] (.bool true) .bool=true by first |rfl |decide |simp[WShape.has,WShape.arms,WShape.armsAll])
  (show(WTm.eq .res (.lit (.bool true))).value [] { args:=args,res:=some (.bool true),after:=args }=some (.bool (true == true)) from w_eq_bool (w_res rfl) w_lit) rfl
def attach_call{l:OpenLaw}{n:Nat}{q:Program}{loose:List Str}{XP:(Str->Option Value)->Heap->Prop}{YP:World->Heap->Prop}{d:DefRec}
  (hn:l.most=some n) (hdf:d.params.defaults=[])
  (call : ∀ (w : World) (s₀ s₁ : Shared) (mg mb : Str -> Option Value) (fa : Addr) (o : Obj) (pm cd doc : Value) (a : Addr) (vs : List Value) (ns : List Int),
   Ground q loose [] XP w s₀ mg mb s₁.heap->YP w s₁.heap ->
   s₁.heap.get? fa=some o->o.data=.func (docDef d.name d.params d.body d.scope pm cd doc)->s₁.heap.CodeRec cd d.name->mg d.name=some (.ref fa) ->
   s₁.heap.get? a=some { cls:=.type "list",data:=.seq vs.toArray }->IntsAre vs ns->ns.length<=n->s₁.gens=#[] ->
   codeAny (model l.prog w) callerA (.call (.ref fa) ⟨[.ref a],[]⟩) (λr s'=>r=.ok (.ret (.bool true))/\OldK s₁.heap s'.heap/\s'.os=s₁.os/\AllBare s'.gens) s₁) :
  WalkO q loose XP YP l.row.toRowW d [] (λf vs=>PySem.call f vs):=by
 intro w s₀ s₁ mg mb G Y fa o pm cd doc dV kV ho hd hcd hD hmg hg args vals as hpre hlay hrd hwl hlo;obtain rfl:dV=.none:=Dflts.none hD hdf;obtain rfl:kV=.none:=Dflts.noKw hD;obtain⟨a,vs,ns,rfl,rfl,hobj,hints,hlen⟩:=zf2 hn hpre hwl;refine enter_call (codeAny_mono (call w s₀ s₁ mg mb fa o pm cd doc a vs ns G Y ho (fd_plain hd) hcd hmg hobj hints hlen hg) λr s' hq=>?_);obtain⟨rfl,h2,h3,h4⟩:=hq
 exact⟨.inl ⟨.bool true,.bool true,[],rfl,λ_=>rfl,.bool true,zh9 l _,λ_=>⟨List.Pairwise.nil,λ_ hm=>(nomatch hm)⟩⟩,h2,h3,h4⟩
section
variable {prog:Program}{w:World}{A:Around}{E:Value->Shared->Prop}{s:Shared}{K:Frag}
end
end Att
namespace L2
theorem Ub:∀{vs:List Value}{ns:List Int},IntsAre vs ns->Vals (ns.map V.int) vs
 |_,_,.nil=>.nil
 |_,_,.cons n t h=>.cons ⟨t,rfl⟩ (Ub h)
def kB(s:Stmt):Arguments:=match s with
 |.FunctionDef _ a _ _ _ _ _ _ _ _=>a
 |_=>{ posonlyargs:=[],args:=[],vararg:=none,kwonlyargs:=[],kw_defaults:=[],kwarg:=none,defaults:=[] }
def vB(s:Stmt):List Stmt:=match s with
 |.FunctionDef _ _ b _ _ _ _ _ _ _=>b
 |_=>[]
def xj(s:Stmt):Scope:=match s with
 |.FunctionDef _ _ _ _ _ _ sc _ _ _=>sc
 |_=>{ kind:=.function,names:=[],isGenerator:=false,isCoroutine:=false }
abbrev CX0:CXT:=λ_ _ _ _ _ _=>False
abbrev E0:XK:=λ_ _ _=>False
def zy3{X:Cx}:zs9 CX0 X E0:=λ_ _ _ _ _ _ _ h=>h.elim
structure Fun(K:W.Frag)(x qual:Str)(st:Stmt)(f:Addr)(fd:FuncData):Prop where
 ex:∃(oc:Value) (od:Option Addr) (kV doc pm:Value) (an:Option Addr) (cdv ct:Value) (osl:Array (Option Value)),
  fd=W.fnOf x qual (kB st) (vB st) (xj st) .none kV doc pm an cdv ct/\K.lookup f=some ⟨oc,od,.func fd,osl⟩/\W.codeIn K cdv qual=true
 kp:W.keepIn K (.ref f)=true
section
variable {P:Program}{w:World}{K:W.Frag}{mg:Str->Option Value}{base:Heap}
def Fun.ok{x qual:Str}{st:Stmt}{f:Addr}{fd:FuncData}{N ps:List Str}{k:Nat}{sp:Sp}(F:Fun K x qual st f fd)(S:FnScope N ps (xj st))(len:∀vs H Q E,sp vs H Q E->vs.length=ps.length)
  (hbody : ∀ (cdv : Value) (A : Around) (outer : List Env) (s : Shared) (H : Hp) (vs : List V) (Q : VK) (E : XK), Room k (A.deeper (envOfC qual (xj st) s.heap.objs.size f cdv)) -> sp vs H Q E ->
   ∃t,PSs (zt4 CX0 P w K mg base N qual (xj st) f cdv A outer s H E).nox (vB st) t/\t { nx:=λ_ H'=>Q .non H',rt:=Q } (start N vs) H):FnOk P w K mg base CX0 (k+1) f fd ps sp:=by
 obtain⟨oc,od,kV,doc,pm,an,cdv,ct,osl,rfl,lk,hcd⟩:=F.ex;refine xe4 lk hcd S len λA outer s H vs Q E hr hsp=>?_;obtain⟨t,h,q⟩:=hbody cdv A outer s H vs Q E hr hsp;exact⟨t,h.nox,q⟩
def Fun.binds{x qual:Str}{st:Stmt}{f:Addr}{fd:FuncData}{ps:List Str}(F:Fun K x qual st f fd)
  (h:∀(kV doc pm:Value) (an:Option Addr) (cdv ct:Value) (us:List Value),us.length=ps.length->bindArgs (W.fnOf x qual (kB st) (vB st) (xj st) .none kV doc pm an cdv ct) ⟨us,[]⟩=pure (ps.zip us)):Binds K fd ps []:=by
 obtain⟨oc,od,kV,doc,pm,an,cdv,ct,osl,rfl,lk,hcd⟩:=F.ex;exact .all (h kV doc pm an cdv ct)
def Qp{x qual:Str}{st:Stmt}{f:Addr}{oc:Value}{od an:Option Addr}{osl:Array (Option Value)}{kV doc pm cdv ct:Value}(l:K.lookup f=some ⟨oc,od,.func (W.fnOf x qual (kB st) (vB st) (xj st) .none kV doc pm an cdv ct),osl⟩)
  (c:W.codeIn K cdv qual=true) (k:W.keepIn K (.ref f)=true):Fun K x qual st f (W.fnOf x qual (kB st) (vB st) (xj st) .none kV doc pm an cdv ct):=⟨⟨oc,od,kV,doc,pm,an,cdv,ct,osl,rfl,l,c⟩,k⟩
end
def zQ2{A:Around}{k:Nat}(hr:Room k A):A.units+1<cLine:=Nat.lt_of_le_of_lt (Nat.add_le_add_left (by decide:1<=64) _) hr.units
section
variable {X:Cx}
end
end L2
namespace L2
open PySem
def kY(env:Env):List (Str × NameKind)->List (Str × Addr)->List (Str × Addr)
 |[],acc=>acc
 |y::r,acc=>if y.2 == .free then kY env r ((y.1,(env.cells.lookup y.1).getD 0)::acc) else kY env r acc
def vC{env:Env}:∀(l:List (Str × NameKind)) (acc:List (Str × Addr)),(∀y∈l,y.2=.free->∃c,env.cells.lookup y.1=some c)->(∀x c,acc.lookup x=some c->env.cells.lookup x=some c) ->
  ∀x c,(kY env l acc).lookup x=some c->env.cells.lookup x=some c
 |[],acc,_,ha,x,c,h=>ha x c h
 | y :: r, acc, hf, ha, x, c, h => by
  unfold kY at h
  split at h
  ·rename_i hk
   have hk':y.2=.free:=by simpa using hk
   obtain⟨d,hd⟩:=hf y zP hk';refine vC r _ (λz hz=>hf z (zk _ hz)) (λz e hz=>?_) x c h;rw[zT] at hz
   cases hb:z == y.1 with
   |true=>
    rw[hb,hd] at hz
    have e2:z=y.1:=by simpa using hb
    have e3:d=e:=by simpa using hz
    rw[e2,hd,e3]
   |false=>rw[hb] at hz;exact ha z e hz
  ·exact vC r acc (λz hz=>hf z (zk _ hz)) ha x c h
theorem Yc{env:Env}{x:Str}:∀(l:List (Str × NameKind)) (acc:List (Str × Addr)),(∃c,acc.lookup x=some c)->∃c,(kY env l acc).lookup x=some c
 |[],acc,h=>h
 | y :: r, acc, h => by
  unfold kY
  split
  ·refine Yc r _ ?_;rw[zT]
   cases hb:x == y.1 with
   |true=>exact⟨_,rfl⟩
   |false=>exact h
  ·exact Yc r acc h
theorem kq{env:Env}{y:Str × NameKind}(hk:y.2=.free):∀(l:List (Str × NameKind)) (acc:List (Str × Addr)),y∈l->∃c,(kY env l acc).lookup y.1=some c
 |[],acc,h=>by simp at h
 | z :: r, acc, h => by
  unfold kY
  rcases zj.mp h with rfl |h
  ·rw [if_pos (by rw [hk]; rfl)]
   exact Yc r _ ⟨_,al_List_lookup_cons_self⟩
  ·split
   ·exact kq hk r _ h
   ·exact kq hk r _ h
def WI{env:Env}(f:Str × NameKind->List (Str × Addr)->Sem (ForInStep (List (Str × Addr))))
  (hf:∀y acc,f y acc=if y.2 == .free then(cellOf env y.1 >>= λc=>pure (.yield ((y.1,c)::acc))) else pure (.yield acc)) :
  ∀(l:List (Str × NameKind)) (acc:List (Str × Addr)),(∀y∈l,y.2=.free->∃c,env.cells.lookup y.1=some c)->forIn l acc f=(pure (kY env l acc):Sem _)
 |[],acc,_=>by rw[forIn_nil];rfl
 | y :: r, acc, h => by
  have ih:=λacc=>WI f hf r acc λz hz=>h z (zk _ hz);rw[forIn_cons,hf];unfold kY
  split
  ·rename_i hk
   obtain⟨c,hc⟩:=h y zP (by simpa using hk)
   have e:cellOf env y.1=pure c:=by unfold cellOf;rw[hc]
   rw[e,hc];exact ih _
  ·exact ih _
def YL{scope:Scope}{env:Env}(h:∀y∈scope.names,y.2=.free->∃c,env.cells.lookup y.1=some c):closureFor scope env=pure (kY env scope.names []):=by
 have e:=WI (env:=env) (λx cs=>match x with |(name,kind)=>if (kind == NameKind.free)=true then(do let c <- cellOf env name;pure (.yield ((name,c)::cs))) else pure (.yield cs)) (λy acc=>rfl) scope.names [] h
 have e2:closureFor scope env=((forIn scope.names [] (λx cs=>match x with |(name,kind)=>if (kind == NameKind.free)=true then(do let c <- cellOf env name;pure (ForInStep.yield ((name,c)::cs))) else pure (ForInStep.yield cs)):Sem (List (Str × Addr))) >>= λcs=>pure cs):=rfl
 rw[e2,e];rfl
def Yl{env:Env}{x:Str}:∀(l:List (Str × NameKind)),
  (l.map λ(n, k) => if (k == NameKind.free && env.scope.kind == .function && env.kindOf n == some .cell) then (n, NameKind.cell) else (n, k)).lookup x =
   (l.lookup x).map λk=>if (k == NameKind.free&&env.scope.kind == .function&&env.kindOf x == some .cell) then NameKind.cell else k
 |[]=>rfl
 | (n, k) :: r => by
  have ih:=@Yl env x r;rw[zJ]
  by_cases e:x=n
  ·subst e;dsimp only
   split
   ·rename_i h;rw[al_List_lookup_cons_self,al_List_lookup_cons_self,Option.map_some,if_pos h]
   ·rename_i h;rw[al_List_lookup_cons_self,al_List_lookup_cons_self,Option.map_some,if_neg h]
  ·have e' : (x == n) = false := by simpa using e
   dsimp only
   split
   ·rw[zT,e',zT,e'];exact ih
   ·rw[zT,e',zT,e'];exact ih
def Qy:∀(l:List (Str × NameKind)) (h:Heap) (acc:List (Str × Addr)) (x:Str) (c:Addr),(cellsFrom h.objs.size l acc).lookup x=some c ->
  ((pushCells h l).IsCell c none/\h.objs.size<=c/\(x,NameKind.cell)∈l)\/acc.lookup x=some c
 |[],_,_,_,_,e=>.inr e
 | (n, k) :: r, h, acc, x, c, e => by
  unfold cellsFrom at e;unfold pushCells
  split at e
  ·rename_i hk
   have hk':k=.cell:=by simpa using hk
   rw[if_pos hk];have hz:(h.push { cls:=.type "cell",data:=.cell none }).objs.size=h.objs.size+1:=xW ..;rw[<- hz] at e
   rcases Qy r (h.push { cls:=.type "cell",data:=.cell none }) _ x c e with ⟨a,b,d⟩ |q
   ·exact .inl ⟨a,by rw[hz] at b;lia,zk _ d⟩
   ·rw [zT] at q
    cases hb:x == n with
    |false=>rw[hb] at q;exact .inr q
    |true=>
     rw[hb] at q
     have e1:h.objs.size=c:=by simpa using q
     have e2:x=n:=by simpa using hb
     subst e1 e2
     refine .inl ⟨?_,zn _,by rw[hk'];exact zP⟩
     exact⟨_,pushCells_keeps _ _ _ _ (zp _ rfl),rfl⟩
  ·rename_i hk;rw[if_neg hk]
   rcases Qy r h acc x c e with ⟨a,b,d⟩ |q
   ·exact .inl ⟨a,b,zk _ d⟩
   ·exact .inr q
def Qw:∀(l:List (Str × NameKind)) (n:Nat) (acc:List (Str × Addr)),(∀x y c,acc.lookup x=some c->acc.lookup y=some c->x=y)->(∀x c,acc.lookup x=some c->c<n) ->
  ∀x y c,(cellsFrom n l acc).lookup x=some c->(cellsFrom n l acc).lookup y=some c->x=y
 |[],_,_,hi,_,x,y,c,e,e'=>hi x y c e e'
 | (m, k) :: r, n, acc, hi, hl, x, y, c, e, e' => by
  unfold cellsFrom at e e'
  have one:∀z d,((m,n)::acc).lookup z=some d->(z=m/\d=n)\/acc.lookup z=some d:=λz d q=>by
   rw[zT] at q
   cases hb:z == m with
   |true=>rw[hb] at q;exact .inl ⟨by simpa using hb,by simpa using q.symm⟩
   |false=>rw[hb] at q;exact .inr q
  split at e
  ·rename_i hk;rw[if_pos hk] at e';refine Qw r (n+1) ((m,n)::acc) (λa b d q q'=>?_) (λa d q=>?_) x y c e e'
   ·rcases one a d q with ⟨a1, a2⟩ | a1 <;> rcases one b d q' with ⟨b1, b2⟩ | b1
    ·rw[a1,b1]
    ·exact absurd (hl b d b1) (by rw[a2];exact xl _)
    ·exact absurd (hl a d a1) (by rw[b2];exact xl _)
    ·exact hi a b d a1 b1
   ·rcases one a d q with ⟨_, a2⟩ | a1
    ·rw[a2];exact Nat.lt_succ_self _
    ·exact xT (hl a d a1)
  ·rename_i hk;rw[if_neg hk] at e';exact Qw r n acc hi hl x y c e e'
theorem qL{x:Str}:∀(l:List (Str × NameKind)) (n:Nat) (acc:List (Str × Addr)),(∃c,acc.lookup x=some c)->∃c,(cellsFrom n l acc).lookup x=some c
 |[],_,_,h=>h
 | (m, k) :: r, n, acc, h => by
  unfold cellsFrom
  split
  ·refine qL r _ _ ?_;rw[zT]
   cases hb:x == m with
   |true=>exact⟨_,rfl⟩
   |false=>exact h
  ·exact qL r _ _ h
theorem Qx{x:Str}:∀(l:List (Str × NameKind)) (n:Nat) (acc:List (Str × Addr)),(x,NameKind.cell)∈l->∃c,(cellsFrom n l acc).lookup x=some c
 |[],_,_,h=>by simp at h
 | (m, k) :: r, n, acc, h => by
  unfold cellsFrom
  rcases zj.mp h with e |h
  ·cases e;exact qL r _ _ ⟨_,al_List_lookup_cons_self⟩
  ·split
   ·exact Qx r _ _ h
   ·exact Qx r _ _ h
theorem zD2{x:Str}:∀(l:List (Str × NameKind)) (n:Nat) (acc:List (Str × Addr)) (lo:Nat),lo<=n->((x,NameKind.cell)∈l\/∀c,acc.lookup x=some c->lo<=c)->∀c,(cellsFrom n l acc).lookup x=some c->lo<=c
  | [], n, acc, lo, hn, h, c, e => by
    rcases h with h |h
    · simp at h
    · exact h c e
  | (m, k) :: r, n, acc, lo, hn, h, c, e => by
    unfold cellsFrom at e
    split at e
    · rename_i hk
      refine zD2 r (n+1) ((m,n)::acc) lo w5 ?_ c e
      rcases h with h |h
      · rcases zj.mp h with z | z
        · cases z
          refine .inr λd q=>?_;rw[al_List_lookup_cons_self] at q
          have:n=d:=by simpa using q
          lia
        · exact .inl z
      · refine .inr λd q => ?_
        rw[zT] at q
        cases hb:x == m with
        | true => rw [hb] at q; have : n = d := by simpa using q;
                  lia
        |false=>rw[hb] at q;exact h d q
    · rename_i hk
      refine zD2 r n acc lo hn ?_ c e
      rcases h with h |h
      · rcases zj.mp h with z | z
        · cases z;exact absurd rfl hk
        · exact .inl z
      · exact .inr h
section
variable {M:Model}{A:Around}{E:Value->Shared->Prop}{s:Shared}
def Zf{scope:Scope}{env:Env}{cl:List (Str × Addr)}{Q:Env->Shared->Prop}
  (h : Q (newEnv scope s.heap.objs.size env.globals (cellsFrom (s.heap.objs.size + 1) scope.names cl) env.qual none .none (some env) builtinsNs)
   { s with heap:=pushCells (s.heap.push { cls:=.type "dict",data:=.dict #[] }) scope.names }) :
  wpAny M A (newFunctionEnv scope env.globals cl [] env.qual none .none (some env)) Q E s:=by
 simp only[newFunctionEnv,Option.isSome_some,if_true];refine zb (wpAny_alloc ?_);refine zb (wpAny_layCells _ (λname kind cells=>?_) _ _ _ _ ?_)
 ·cases hkc:kind == NameKind.cell<;>simp[hkc]
 ·rw[List.forIn_nil];refine zb (zd (zd ?_));have hz:({ s with heap:=s.heap.push { cls:=.type "dict",data:=.dict #[] } }:Shared).heap.objs.size=s.heap.objs.size+1:=xW ..;rw[hz];exact h
end
abbrev zr4(ifs:List Expr)(env:Env):Sem Bool:=forIn ifs true λc r=>if r=true then do let ok <- isTrue c env (eval c env);pure (ForInStep.yield ok) else pure (ForInStep.yield r)
section
variable {prog:Program}{w:World}{A:Around}{R:Result->Shared->Prop}{s:Shared}
def zq8{elt target iter:Expr}{ifs:List Expr}{scope:Scope}{pos:Pos}{it acc:Value}{env:Env}(J:Nat->Shared->Prop)
  (turn : ∀ n s, J n s -> wpAny (model prog w) A (pyNext it) (λr s1 => match r with
   |none=>R (.ok .next) s1
   | some v => wpAny (model prog w) A (letOwnedTupleGo target it v) (λ_ s2 => wpAny (model prog w) A (assign target env v) (λ_ s3 => wpAny (model prog w) A (zr4 ifs env) (λok s4 =>
     if ok=true then wpAny (model prog w) A (eval elt env) (λx s5=>wpAny (model prog w) A (call (.builtin "list.append") [acc,x]) (λ_ s6=>∃m,m<n/\J m s6) (λ_ _=>False) s5) (λ_ _=>False) s4
     else ∃m,m<n/\J m s4) (λ_ _=>False) s3) (λ_ _=>False) s2) (λ_ _=>False) s1) (λ_ _=>False) s)
  (n:Nat) (h:J n s):codeAny (model prog w) A (.compLoop (.ListComp elt [⟨target,iter,ifs,0⟩] scope pos) 0 it acc env) R s:=by
 refine codeAny_loop rfl J (λn s hJ=>?_) n h
 show wpAny _ A ((compTurn (.ListComp elt [⟨target,iter,ifs,0⟩] scope pos) 0 it acc env).onRaise (λx=>do noteFrame x env;theTreesLotGoes x)) _ _ s
 refine wpAny_noted ?_;rw[compTurn_list]
 have up:∀{α:Type}{t:Sem α}{Q Q':α->Shared->Prop}{E:Value->Shared->Prop}{s:Shared},wpAny (model prog w) A t Q (λ_ _=>False) s->(∀a s,Q a s->Q' a s)->wpAny (model prog w) A t Q' E s:=
  λh f=>wx h f λ_ _ z=>False.elim z
 refine zb (va (zb (up (turn n s hJ) λr s1 h1=>?_)))
 cases r with
 |none=>exact zd h1
 |some v=>
  refine zb (up h1 λ_ s2 h2=>?_);refine zb (up h2 λ_ s3 h3=>?_);refine zb (up h3 λok s4 h4=>?_)
  cases ok with
  |false=>exact zd ⟨rfl,h4⟩
  |true=>exact zb (zb (up h4 λx s5 h5=>zb (up h5 λ_ s6 h6=>zd (zd ⟨rfl,h6⟩))))
end
def WD(b:Bool):String:=if b then "list_iterator" else "tuple_iterator"
def SeqIs(b:Bool)(h:Heap)(l:Addr)(xs:Array Value):Prop:=match b with |true=>h.IsList l xs |false=>h.IsTuple l xs
def IterIs(b:Bool)(h:Heap)(i l:Addr)(k:Nat):Prop:=match b with |true=>h.IsListIter i l k |false=>h.IsTupleIter i l k
def SeqIs.at{b:Bool}{h h':Heap}{l:Addr}{xs:Array Value}(x:SeqIs b h l xs)(hk:∀o,h.get? l=some o->h'.get? l=some o):SeqIs b h' l xs:=by
 cases b<;>(obtain⟨o,e,r⟩:=x;exact⟨o,hk o e,r⟩)
def IterIs.at{b:Bool}{h h':Heap}{i l:Addr}{k:Nat}(x:IterIs b h i l k)(hk:∀o,h.get? i=some o->h'.get? i=some o):IterIs b h' i l k:=by
 cases b<;>(obtain⟨o,e,r⟩:=x;exact⟨o,hk o e,r⟩)
def IterIs.obj{b:Bool}{h:Heap}{i l:Addr}{k:Nat}(x:IterIs b h i l k):∃o,h.get? i=some o/\o.cls=.type (WD b)/\o.data=.fields #[.ref l,.int k 0]:=by
 cases b<;>exact x
def SeqIs.ne{b c:Bool}{h:Heap}{l i m:Addr}{k:Nat}{xs:Array Value}(x:SeqIs b h l xs)(y:IterIs c h i m k):l≠i:=by
 rintro rfl;obtain⟨o,e,hc,_⟩:=y.obj
 cases b<;>(obtain⟨o',e',hc',_⟩:=x;rw[e] at e';cases e';rw[hc] at hc';cases c<;>exact absurd (Value.type.inj hc') w6)
section
variable {prog:Program}{w:World}{A:Around}{E:Value->Shared->Prop}{s:Shared}
def Wu{b:Bool}{l:Addr}{xs:Array Value}{Q:Value->Shared->Prop}(hl:SeqIs b s.heap l xs)
  (hQ:Q (.ref s.heap.objs.size) { s with heap:=s.heap.push { cls:=.type (WD b),data:=.fields #[.ref l,.int 0 0] } }):wpAny (model prog w) A (pyIter (.ref l)) Q E s:=by
 cases b with
 |true=>exact yw hl hQ
 |false=>exact wpAny_pyIter_tuple hl hQ
def za3{it l:Addr}{i:Nat}{items:Array Value}{x:Value}{Q:Value->Shared->Prop}(hit:s.heap.IsTupleIter it l i)(hl:s.heap.IsTuple l items)(hx:items[i]?=some x)
  (hQ:∀h',h'.IsTupleIter it l (i+1)->Heap.SameBut it s.heap h'->Q x { s with heap:=h' }):wpAny (model prog w) A (Builtin.SmallTypes.nextOf (.ref it)) Q E s:=by
 obtain⟨o,ho,hc,hd⟩:=id hit;obtain⟨ol,hol,_,nl,hdl⟩:=hl;unfold Builtin.SmallTypes.nextOf;refine zb (xD (name:=Str.ofString "__next__") hit.typeIs F.slot_tuple_iterator_next (wj F.slot_tuple_iterator_next hit.typeIs F.entry_tuple_iterator_next ?_ (F.args_tuple_iterator_next_1 _)));show wpAny _ A.in1 (field (.ref it) 0 >>= _) _ _ s;refine zb (wg (x:=.ref l) ho hd rfl ?_)
 show wpAny _ A.in1 (if (Value.ref l == Value.none)=true then _ else _) _ _ s
 have nn:¬ ((Value.ref l == Value.none)=true):=zI;rw[if_neg nn];show wpAny _ A.in1 (field (.ref it) 1 >>= _) _ _ s;refine zb (wg (x:=.int i 0) ho hd rfl ?_);show wpAny _ A.in1 (seqItems? (.ref l) >>= _) _ _ s;refine zb (wq hol hdl ?_);simp only[hx,yA]
 refine zb (wpAny_setField ho hd (by simp) (zd ⟨x,rfl,zd (hQ _ ⟨_,xO _ ho (Obj.isFreed_of_fields (Obj.data_mapFields hd _)),(Obj.cls_mapFields ..).trans hc,?_⟩ (Heap.SameBut.update ..))⟩))
 rw[Obj.data_mapFields hd];simp[rawInt]
def Wc{it l:Addr}{i:Nat}{items:Array Value}{Q:Value->Shared->Prop}(hh:A.handled=none)(hit:s.heap.IsTupleIter it l i)(hl:s.heap.IsTuple l items)(hx:items[i]?=none)
  (hE:∀h' e,Heap.ExtBut it s.heap h'->(∃o,h'.get? e=some o/\o.cls=.type "StopIteration")->E (.ref e) { s with heap:=h' }):wpAny (model prog w) A (Builtin.SmallTypes.nextOf (.ref it)) Q E s:=by
 obtain⟨o,ho,hc,hd⟩:=id hit;obtain⟨ol,hol,_,nl,hdl⟩:=hl;unfold Builtin.SmallTypes.nextOf;refine zb (xD (name:=Str.ofString "__next__") hit.typeIs F.slot_tuple_iterator_next (wj F.slot_tuple_iterator_next hit.typeIs F.entry_tuple_iterator_next ?_ (F.args_tuple_iterator_next_1 _)));show wpAny _ A.in1 (field (.ref it) 0 >>= _) _ _ s;refine zb (wg (x:=.ref l) ho hd rfl ?_)
 show wpAny _ A.in1 (if (Value.ref l == Value.none)=true then _ else _) _ _ s
 have nn:¬ ((Value.ref l == Value.none)=true):=zI;rw[if_neg nn];show wpAny _ A.in1 (field (.ref it) 1 >>= _) _ _ s;refine zb (wg (x:=.int i 0) ho hd rfl ?_);show wpAny _ A.in1 (seqItems? (.ref l) >>= _) _ _ s;refine zb (wq hol hdl ?_);simp only[hx,yA]
 refine zb (yo (zb (wpAny_setField ho hd (by simp) ?_)))
 show wpAny _ A.in1 (newExc (.type "StopIteration") [] >>= _) _ _ _;refine zb ?_;simp only[newExc,newTuple]
 refine zb (xp ?_ (by size_fits))
 refine zb (m:=firstArgMember _ _) (wpAny_of_eq (a:=Value.none) (by simp only[firstArgMember];rfl) ?_)
 refine xp ?_ (by size_fits)
 simp only[raiseNew];refine zb (wpAny_handled ?_);rw[show A.in1.handled=none from hh];refine zb (zd (wpAny_throw ?_));exact hE _ _ (((Heap.SameBut.update ..).extBut.push _).push _) ⟨_,zp _ rfl,rfl⟩
def ZU{b:Bool}{it l:Addr}{i:Nat}{items:Array Value}{x:Value}{Q:Value->Shared->Prop}(hit:IterIs b s.heap it l i)(hl:SeqIs b s.heap l items)(hx:items[i]?=some x)
  (hQ:∀h',IterIs b h' it l (i+1)->Heap.SameBut it s.heap h'->Q x { s with heap:=h' }):wpAny (model prog w) A (Builtin.SmallTypes.nextOf (.ref it)) Q E s:=by
 cases b with
 |true=>exact wpAny_nextOf_list_item hit hl hx hQ
 |false=>exact za3 hit hl hx hQ
def jJ{b:Bool}{it l:Addr}{i:Nat}{items:Array Value}{Q:Value->Shared->Prop}(hh:A.handled=none)(hit:IterIs b s.heap it l i)(hl:SeqIs b s.heap l items)(hx:items[i]?=none)
  (hE:∀h' e,Heap.ExtBut it s.heap h'->(∃o,h'.get? e=some o/\o.cls=.type "StopIteration")->E (.ref e) { s with heap:=h' }):wpAny (model prog w) A (Builtin.SmallTypes.nextOf (.ref it)) Q E s:=by
 cases b with
 |true=>exact wpAny_nextOf_list_end hh hit hl hx hE
 |false=>exact Wc hh hit hl hx hE
structure ZApart(z ti to i1 i2:Addr):Prop where
 a1:ti≠z
 a2:to≠z
 a3:i1≠z
 a4:i2≠z
 a5:ti≠to
 a6:ti≠i1
 a7:ti≠i2
 a8:to≠i1
 a9:to≠i2
 a10:i1≠i2
structure ZSt(b c:Bool)(z ti to i1 i2 l1 l2:Addr)(k:Nat)(h:Heap):Prop where
 z:IsZip h z ti to .none
 ti:IsPair h ti (.ref i1) (.ref i2)
 to:∃u v,IsPair h to u v
 i1:IterIs b h i1 l1 k
 i2:IterIs c h i2 l2 k
structure ZMid(b c:Bool)(z ti to i1 i2 l1 l2:Addr)(k:Nat)(T:Addr)(h:Heap):Prop where
 z:IsZip h z ti to (rawInt T)
 ti:IsPair h ti (.ref i1) (.ref i2)
 to:∃u v,IsPair h to u v
 i1:IterIs b h i1 l1 (k+1)
 i2:IterIs c h i2 l2 (k+1)
def ZSt.apartL{b c d:Bool}{z ti to i1 i2 l1 l2 l:Addr}{k:Nat}{h:Heap}{xs:Array Value}(x:ZSt b c z ti to i1 i2 l1 l2 k h)(hl:SeqIs d h l xs)(hto:l≠to):l≠z/\l≠i1/\l≠i2:=by
 refine⟨?_,hl.ne x.i1,hl.ne x.i2⟩;rintro rfl;have e:=x.z
 cases d<;>(obtain⟨o',e',hc',_⟩:=hl;rw[e] at e';cases e';exact absurd (Value.type.inj hc') w6)
def zt7{b c:Bool}{z ti to i1 i2 l1 l2:Addr}{k:Nat}{xs ys:Array Value}{x y:Value}{Q:Value->Shared->Prop}(D:ZApart z ti to i1 i2)(S:ZSt b c z ti to i1 i2 l1 l2 k s.heap)
  (hl1:SeqIs b s.heap l1 xs) (hl2:SeqIs c s.heap l2 ys) (n1:l1≠to) (n2:l2≠to) (hx:xs[k]?=some x) (hy:ys[k]?=some y)
  (hQ:∀h',ZMid b c z ti to i1 i2 l1 l2 k s.heap.objs.size h'->IsPair h' s.heap.objs.size x y->(∀d o,d≠z->d≠to->d≠i1->d≠i2->s.heap.get? d=some o->h'.get? d=some o)->Q (.ref s.heap.objs.size) { s with heap:=h' }) :
  wpAny (model prog w) A (Builtin.«zip.__next__» ⟨[.ref z],[]⟩) (λfin s'=>∃v,fin=.done (.ret v)/\Q v s') E s:=by
 obtain⟨m1,m2,m3⟩:=S.apartL hl1 n1;obtain⟨m4,m5,m6⟩:=S.apartL hl2 n2;obtain⟨hz,hTI,⟨u,v,hTO⟩,h1,h2⟩:=S;show wpAny _ A (field (.ref z) 2 >>= _) _ _ _;refine zb (wg (x:=.bool false) hz rfl rfl ?_);show wpAny _ A (field (.ref z) 3 >>= _) _ _ _;refine zb (wg (x:=.ref ti) hz rfl rfl ?_);refine zb (wq hTI rfl ?_);show wpAny _ A (Builtin.SmallTypes.ownedTupleIsFree (.ref z) >>= _) _ _ _;refine zb ?_;unfold Builtin.SmallTypes.ownedTupleIsFree;refine zb (wg (x:=.none) hz rfl rfl (zd ?_));simp only[if_true];refine zb (yo ?_);refine zb (wg (x:=.ref to) hz rfl rfl ?_)
 refine zb (yd hz (by simp) λg1 hz1 s1=>?_)
 replace hz1:IsZip g1 z ti to .ellipsis:=hz1
 refine zb ?_;simp only[forIn_cons,forIn_nil,zipIdx_cons,List.zipIdx_nil];refine zb (zb (wpAny_onRaise ?_));show wpAny _ A (Builtin.SmallTypes.nextOf (.ref i1) >>= _) _ _ _;refine zb (ZU (h1.at λo e=>s1.extBut _ _ D.a3 e) (hl1.at λo e=>s1.extBut _ _ m1 e) hx λg2 k1 s2=>zd ?_);have hTO2:IsPair g2 to u v:=s2.extBut _ _ D.a8 (s1.extBut _ _ D.a2 hTO);refine zb (wq hTO2 rfl ?_);refine zb (wpAny_updateSeq_pair hTO2 λg3 hTO3 s3=>?_)
 replace hTO3:IsPair g3 to x v:=hTO3
 refine zb (yl (zd ?_));refine zb (zb (wpAny_onRaise ?_));show wpAny _ A (Builtin.SmallTypes.nextOf (.ref i2) >>= _) _ _ _;refine zb (ZU (h2.at λo e=>s3.extBut _ _ D.a9.symm (s2.extBut _ _ D.a10.symm (s1.extBut _ _ D.a4 e))) (hl2.at λo e=>s3.extBut _ _ n2 (s2.extBut _ _ m5 (s1.extBut _ _ m4 e))) hy λg4 k2 s4=>zd ?_);have hTO4:IsPair g4 to x v:=s4.extBut _ _ D.a9 hTO3;refine zb (wq hTO4 rfl ?_);refine zb (wpAny_updateSeq_pair hTO4 λg5 hTO5 s5=>?_)
 replace hTO5:IsPair g5 to x y:=hTO5
 refine zb (yl (zd (zd ?_)));refine zb (wq hTO5 rfl ?_);refine zb (wpAny_newTuple ?_)
 have sz:g5.objs.size=s.heap.objs.size:=by rw[s5.1,s4.1,s3.1,s2.1,s1.1]
 have z5:IsZip g5 z ti to .ellipsis:=s5.extBut _ _ D.a2.symm (s4.extBut _ _ D.a4.symm (s3.extBut _ _ D.a2.symm (s2.extBut _ _ D.a3.symm hz1)));have kp:∀d o,d≠z->d≠to->d≠i1->d≠i2->s.heap.get? d=some o->g5.get? d=some o:=λd o d1 d2 d3 d4 e=>s5.extBut _ _ d2 (s4.extBut _ _ d4 (s3.extBut _ _ d2 (s2.extBut _ _ d3 (s1.extBut _ _ d1 e))));have j1:IterIs b g5 i1 l1 (k+1):=k1.at λo e=>s5.extBut _ _ D.a8.symm (s4.extBut _ _ D.a10 (s3.extBut _ _ D.a8.symm e));have j2:IterIs c g5 i2 l2 (k+1):=k2.at λo e=>s5.extBut _ _ D.a9.symm e;have zl:z<g5.objs.size:=zo z5;show wpAny _ A (Builtin.SmallTypes.ownedTupleHandOut (.ref z) (.ref g5.objs.size) >>= _) _ _ _;refine zb ?_;unfold Builtin.SmallTypes.ownedTupleHandOut;have z6:IsZip (g5.push { cls:=.type "tuple",data:=.seq #[x,y] }) z ti to .ellipsis:=ze _ z5
 refine zb (yd z6 (by simp) λg7 z7 s7=>?_)
 replace z7:IsZip g7 z ti to (rawInt g5.objs.size):=z7
 refine yd z7 (by simp) λg8 z8 s8=>?_
 replace z8:IsZip g8 z ti to (rawInt g5.objs.size):=z8
 have up:∀d o,d≠z->g5.get? d=some o->g8.get? d=some o:=λd o d1 e=>s8.extBut _ _ d1 (s7.extBut _ _ d1 (ze _ e));have T8:IsPair g8 g5.objs.size x y:=s8.extBut _ _ (xN zl) (s7.extBut _ _ (xN zl) (zp _ rfl));rw[sz] at z8 T8;refine zd ⟨_,rfl,?_⟩;show Q (.ref g5.objs.size) _;rw[sz];exact hQ g8 ⟨z8,up _ _ D.a1 (kp _ _ D.a1 D.a5 D.a6 D.a7 hTI),⟨_,_,up _ _ D.a2 hTO5⟩,j1.at λo e=>up _ o D.a3 e,j2.at λo e=>up _ o D.a4 e⟩ T8 λd o d1 d2 d3 d4 e=>up d o d1 (kp d o d1 d2 d3 d4 e)
def zt6{b c:Bool}{z ti to i1 i2 l1 l2:Addr}{k:Nat}{xs ys:Array Value}{Q:Fin->Shared->Prop}(hh:A.handled=none)(D:ZApart z ti to i1 i2)(S:ZSt b c z ti to i1 i2 l1 l2 k s.heap)
  (hl1:SeqIs b s.heap l1 xs) (hl2:SeqIs c s.heap l2 ys) (n1:l1≠to) (n2:l2≠to) (hend:xs[k]?=none\/ys[k]?=none)
  (hE:∀h' e,(∀d o,d≠z->d≠to->d≠i1->d≠i2->s.heap.get? d=some o->h'.get? d=some o)->(∃o,h'.get? e=some o/\o.cls=.type "StopIteration")->E (.ref e) { s with heap:=h' }) :
  wpAny (model prog w) A (Builtin.«zip.__next__» ⟨[.ref z],[]⟩) Q E s:=by
 obtain⟨m1,m2,m3⟩:=S.apartL hl1 n1;obtain⟨m4,m5,m6⟩:=S.apartL hl2 n2;obtain⟨hz,hTI,⟨u,v,hTO⟩,h1,h2⟩:=S;show wpAny _ A (field (.ref z) 2 >>= _) _ _ _;refine zb (wg (x:=.bool false) hz rfl rfl ?_);show wpAny _ A (field (.ref z) 3 >>= _) _ _ _;refine zb (wg (x:=.ref ti) hz rfl rfl ?_);refine zb (wq hTI rfl ?_);show wpAny _ A (Builtin.SmallTypes.ownedTupleIsFree (.ref z) >>= _) _ _ _;refine zb ?_;unfold Builtin.SmallTypes.ownedTupleIsFree;refine zb (wg (x:=.none) hz rfl rfl (zd ?_));simp only[if_true];refine zb (yo ?_);refine zb (wg (x:=.ref to) hz rfl rfl ?_)
 refine zb (yd hz (by simp) λg1 hz1 s1=>?_)
 replace hz1:IsZip g1 z ti to .ellipsis:=hz1
 refine zb ?_;simp only[forIn_cons,forIn_nil,zipIdx_cons,List.zipIdx_nil];refine zb (zb (wpAny_onRaise ?_));show wpAny _ A (Builtin.SmallTypes.nextOf (.ref i1) >>= _) _ _ _;have q1:IterIs b g1 i1 l1 k:=h1.at λo e=>s1.extBut _ _ D.a3 e;have q2:SeqIs b g1 l1 xs:=hl1.at λo e=>s1.extBut _ _ m1 e
 cases hx:xs[k]? with
 |none=>
  refine zb (jJ hh q1 q2 hx λg2 e s2 he=>?_);obtain⟨oe,hoe,hce⟩:=he;have z2:IsZip g2 z ti to .ellipsis:=s2 _ _ D.a3.symm hz1
  have hez:e≠z:=λq=>by subst q;rw[z2] at hoe;cases hoe;exact absurd (Value.type.inj hce) w6
  exact yd z2 (by simp) λg3 _ s3=>hE g3 e (λd o d1 _ d3 _ q=>s3.extBut _ _ d1 (s2 _ _ d3 (s1.extBut _ _ d1 q))) ⟨oe,s3.extBut _ _ hez hoe,hce⟩
 | some x =>
  have hy:ys[k]?=none:=by
   rcases hend with h |h
   ·rw[hx] at h;cases h
   ·exact h
  refine zb (ZU q1 q2 hx λg2 k1 s2=>zd ?_);have hTO2:IsPair g2 to u v:=s2.extBut _ _ D.a8 (s1.extBut _ _ D.a2 hTO);refine zb (wq hTO2 rfl ?_);refine zb (wpAny_updateSeq_pair hTO2 λg3 hTO3 s3=>?_);refine zb (yl (zd ?_));refine zb (zb (wpAny_onRaise ?_));show wpAny _ A (Builtin.SmallTypes.nextOf (.ref i2) >>= _) _ _ _;refine zb (jJ hh (h2.at λo e=>s3.extBut _ _ D.a9.symm (s2.extBut _ _ D.a10.symm (s1.extBut _ _ D.a4 e))) (hl2.at λo e=>s3.extBut _ _ n2 (s2.extBut _ _ m5 (s1.extBut _ _ m4 e))) hy λg4 e s4 he=>?_);obtain⟨oe,hoe,hce⟩:=he;have z4:IsZip g4 z ti to .ellipsis:=s4 _ _ D.a4.symm (s3.extBut _ _ D.a2.symm (s2.extBut _ _ D.a3.symm hz1))
  have hez:e≠z:=λq=>by subst q;rw[z4] at hoe;cases hoe;exact absurd (Value.type.inj hce) w6
  exact yd z4 (by simp) λg5 _ s5=>hE g5 e (λd o d1 d2 d3 d4 q=>s5.extBut _ _ d1 (s4 _ _ d4 (s3.extBut _ _ d2 (s2.extBut _ _ d3 (s1.extBut _ _ d1 q))))) ⟨oe,s5.extBut _ _ hez hoe,hce⟩
def zz6{b c:Bool}{z ti to i1 i2 l1 l2:Addr}{k:Nat}{xs ys:Array Value}{x y:Value}{Q:Option Value->Shared->Prop}(D:ZApart z ti to i1 i2)(S:ZSt b c z ti to i1 i2 l1 l2 k s.heap)
  (hl1:SeqIs b s.heap l1 xs) (hl2:SeqIs c s.heap l2 ys) (n1:l1≠to) (n2:l2≠to) (hx:xs[k]?=some x) (hy:ys[k]?=some y)
  (hQ:∀h',ZMid b c z ti to i1 i2 l1 l2 k s.heap.objs.size h'->IsPair h' s.heap.objs.size x y->(∀d o,d≠z->d≠to->d≠i1->d≠i2->s.heap.get? d=some o->h'.get? d=some o)->Q (some (.ref s.heap.objs.size)) { s with heap:=h' }) :
  wpAny (model prog w) A (pyNext (.ref z)) Q E s:=by
 have hT:s.TypeIs (.ref z) "zip" := ⟨_,S.z,rfl⟩;unfold pyNext
 exact zb (wpAny_attempt (xD (name:=Str.ofString "__next__") hT F.slot_zip_next (wj F.slot_zip_next hT F.entry_zip_next
  (zt7 D S hl1 hl2 n1 n2 hx hy λh' a1 a2 a3=>zd (hQ h' a1 a2 a3)) (F.args_zip_next_1 _))))
def UG{b c:Bool}{z ti to i1 i2 l1 l2:Addr}{k:Nat}{xs ys:Array Value}{Q:Option Value->Shared->Prop}(hh:A.handled=none)(D:ZApart z ti to i1 i2)(S:ZSt b c z ti to i1 i2 l1 l2 k s.heap)
  (hl1:SeqIs b s.heap l1 xs) (hl2:SeqIs c s.heap l2 ys) (n1:l1≠to) (n2:l2≠to) (hend:xs[k]?=none\/ys[k]?=none)
  (hQ:∀h',(∀d o,d≠z->d≠to->d≠i1->d≠i2->s.heap.get? d=some o->h'.get? d=some o)->Q none { s with heap:=h' }):wpAny (model prog w) A (pyNext (.ref z)) Q E s:=by
 have hT:s.TypeIs (.ref z) "zip" := ⟨_,S.z,rfl⟩;unfold pyNext
 refine zb (wpAny_attempt (xD (name:=Str.ofString "__next__") hT F.slot_zip_next (wj F.slot_zip_next hT F.entry_zip_next
  (zt6 hh D S hl1 hl2 n1 n2 hend λh' e hk he=>?_) (F.args_zip_next_1 _))))
 obtain⟨o,ho,hc⟩:=he;refine zb (wpAny_isInstance (T := "StopIteration") (b:=true) ⟨o,ho,hc⟩ isSubtype_stop (zd (hQ _ hk)))
def zh1(h:Heap)(b:Bool)(l:Addr):Heap:=h.push { cls:=.type (WD b),data:=.fields #[.ref l,.int 0 0] }
def zh3(h:Heap)(b c:Bool)(l1 l2:Addr):Heap:=(zh1 (zh1 h b l1) c l2).push { cls:=.type "tuple",data:=.seq #[.ref h.objs.size,.ref (zh1 h b l1).objs.size] }
def zh4(h:Heap)(b c:Bool)(l1 l2:Addr):Heap:=(zh3 h b c l1 l2).push { cls:=.type "tuple",data:=.seq #[.none,.none] }
def zh5(h:Heap)(b c:Bool)(l1 l2:Addr):Heap:=(zh4 h b c l1 l2).push { cls:=.type "zip",data:=.fields #[.none,.bool false,.bool false,.ref (zh1 (zh1 h b l1) c l2).objs.size,.ref (zh3 h b c l1 l2).objs.size] }
end
def zl6(b c:Bool)(l1 l2:Addr)(xs ys:Array Value) :
  Meets (Builtin.«zip.__new__» ⟨[.type "zip",.ref l1,.ref l2],[]⟩) (λ_ R s=>SeqIs b s.heap l1 xs/\SeqIs c s.heap l2 ys /\
   R (.ok (.ret (.ref (zh4 s.heap b c l1 l2).objs.size))) { s with heap:=zh5 s.heap b c l1 l2 }):=
 .of_wp λprog w A R s h=>by
  obtain⟨hp,g,d,tk,os⟩:=s;obtain⟨hl1,hl2,h⟩:=h;have hsub:=sub_zip;have q1:SeqIs b (Shared.heap ⟨hp,g,d,tk,os⟩) l1 xs:=hl1;have q2:SeqIs c (Shared.heap ⟨hp.push { cls:=.type (WD b),data:=.fields #[.ref l1,.int 0 0] },g,d,tk,os⟩) l2 ys:=hl2.at λo e=>ze _ e
  wp_walk using Wu q1,Wu q2
  exact⟨_,rfl,h⟩
section
variable {prog:Program}{w:World}{A:Around}{E:Value->Shared->Prop}{s:Shared}
def zD3{b c:Bool}{l1 l2:Addr}{xs ys:Array Value}{Q:Value->Shared->Prop}(hl1:SeqIs b s.heap l1 xs)(hl2:SeqIs c s.heap l2 ys)
  (h:∀h' z ti to i1 i2,ZApart z ti to i1 i2->ZSt b c z ti to i1 i2 l1 l2 0 h'->(∀d∈[z,ti,to,i1,i2],s.heap.objs.size<=d)->(∀d o,s.heap.get? d=some o->h'.get? d=some o)->Q (.ref z) { s with heap:=h' }) :
  wpAny (model prog w) A (call (.type "zip") [.ref l1,.ref l2]) Q E s:=by
 refine callType_new F.called_zip w6 (F.typeCall_zip_2 _ _) (F.newCall_zip_2 _ _) (λobj=>F.args_object_init_3 obj _ _) F.entry_zip_new (zl6 b c l1 l2 xs ys) ⟨hl1,hl2,?_⟩
 unfold zh5 zh4 zh3;generalize h1:zh1 s.heap b l1=g1;generalize h2:zh1 g1 c l2=g2
 have z1:g1.objs.size=s.heap.objs.size+1:=by rw[<- h1];exact xW ..
 have z2:g2.objs.size=s.heap.objs.size+2:=by rw[<- h2];exact(xW ..).trans (by rw[z1])
 generalize h3:g2.push { cls:=.type "tuple",data:=.seq #[.ref s.heap.objs.size,.ref g1.objs.size] }=g3
 have z3:g3.objs.size=s.heap.objs.size+3:=by rw[<- h3,xW,z2]
 generalize h4:g3.push { cls:=.type "tuple",data:=.seq #[.none,.none] }=g4
 have z4:g4.objs.size=s.heap.objs.size+4:=by rw[<- h4,xW,z3]
 have e1:g1.get? s.heap.objs.size=some { cls:=.type (WD b),data:=.fields #[.ref l1,.int 0 0] }:=by rw[<- h1];exact zp _ rfl
 have e2:g2.get? g1.objs.size=some { cls:=.type (WD c),data:=.fields #[.ref l2,.int 0 0] }:=by rw[<- h2];exact zp _ rfl
 have e3:g3.get? g2.objs.size=some { cls:=.type "tuple",data:=.seq #[.ref s.heap.objs.size,.ref g1.objs.size] }:=by rw[<- h3];exact zp _ rfl
 have e4:g4.get? g3.objs.size=some { cls:=.type "tuple",data:=.seq #[.none,.none] }:=by rw[<- h4];exact zp _ rfl
 have k1:∀d o,s.heap.get? d=some o->g1.get? d=some o:=λd o e=>by rw[<- h1];exact ze _ e
 have k2:∀d o,g1.get? d=some o->g2.get? d=some o:=λd o e=>by rw[<- h2];exact ze _ e
 have k3:∀d o,g2.get? d=some o->g3.get? d=some o:=λd o e=>by rw[<- h3];exact ze _ e
 have k4:∀d o,g3.get? d=some o->g4.get? d=some o:=λd o e=>by rw[<- h4];exact ze _ e
 show _/\_;refine⟨⟨_,zp _ rfl,rfl⟩,?_⟩;refine h _ g4.objs.size g2.objs.size g3.objs.size s.heap.objs.size g1.objs.size ⟨?_,?_,?_,?_,?_,?_,?_,?_,?_,?_⟩ ⟨zp _ rfl,ze _ (k4 _ _ e3),⟨_,_,ze _ e4⟩,?_,?_⟩ (λd hd=>?_) λd o e=>ze _ (k4 _ _ (k3 _ _ (k2 _ _ (k1 _ _ e))))
 ·rw[z2,z4];first |exact zw w5 |exact xN w5
 ·rw[z3,z4];first |exact zw w5 |exact xN w5
 ·rw[z4];first |exact zw w5 |exact xN w5
 ·rw[z1,z4];first |exact zw w5 |exact xN w5
 ·rw[z2,z3];first |exact zw w5 |exact xN w5
 ·rw[z2];first |exact zw w5 |exact xN w5
 ·rw[z2,z1];first |exact zw w5 |exact xN w5
 ·rw[z3];first |exact zw w5 |exact xN w5
 ·rw[z3,z1];first |exact zw w5 |exact xN w5
 ·rw[z1];first |exact zw w5 |exact xN w5
 ·cases b<;>exact⟨_,ze _ (k4 _ _ (k3 _ _ (k2 _ _ e1))),rfl,rfl⟩
 ·cases c<;>exact⟨_,ze _ (k4 _ _ (k3 _ _ e2)),rfl,rfl⟩
 ·simp only [zj, zS, or_false] at hd
  rcases hd with rfl |rfl |rfl |rfl |rfl
  ·rw[z4];lia
  ·rw[z2];lia
  ·rw[z3];lia
  ·exact zn _
  ·rw[z1];lia
end
end L2
namespace L2
def Inv.track{X:Cx}{pins:List (Addr × Obj)}{σ:St}{H:Hp}{s:Shared}{a:Addr}{o:HO}(I:Inv X pins σ H s)(hn:H a=none)(hz:X.s₀.heap.objs.size<=a)(hL:a≠X.env.locals)
  (hc:∀x c,X.env.cells.lookup x=some c->c≠a) (hp:∀p∈X.pn++pins,p.1≠a) (new:ObjOk X.prog X.w (upd H a o) s.heap a o):Inv X pins σ (upd H a o) s:=by
 have nb:∀b u,H b=some u->b≠a:=λb u e=>wW e hn;refine⟨I.ok,I.os,I.bare,⟨I.base.keep,I.base.slot,λb u e n hx=>?_,I.base.there,λb xs e=>?_,λb u xs e=>?_,λb ps e=>?_⟩,I.loc,I.cell,?_,λx c e=>?_,λp hq=>?_,λb u e=>?_,I.len⟩
 ·rw[xX (zw (zL (zo e) hz))];exact I.base.free b u e n hx
 ·have q:=I.base.tups b xs e;rw[xX (nb b _ q)];exact q
 ·have q:=I.base.frzs b u xs e;rw[xX (nb b _ q)];exact q
 ·obtain⟨m,q⟩:=I.base.tbls b ps e;exact⟨m,by rw[xX (nb b _ q)];exact q⟩
 ·rw[xX (Ne.symm hL)];exact I.free
 ·rw[xX (hc x c e)];exact I.freeC x c e
 ·obtain ⟨q1, q2, q3⟩ := I.pin p hq
  exact⟨q1,by rw[xX (hp p hq)];exact q2,q3⟩
 ·by_cases hb : b = a
  ·subst hb;rw[wU] at e;cases e;exact new
  ·rw [xX hb] at e
   exact(I.hok b u e).stay (λ_ _ _ q=>q) (λc q=>by rw[xX (nb c _ q)];exact q) (λc xs q=>by rw[xX (nb c _ q)];exact q) λc o u q=>by rw[xX (nb c _ q)];exact q
structure CompOk(X:Cx)(scope:Scope)(M:List Str):Prop where
 kind:scope.kind=.function
 uniq:∀y∈scope.names,scope.names.lookup y.1=some y.2
 frees:∀y∈scope.names,y.2=.free->(X.env.kindOf y.1=some .cell\/X.env.kindOf y.1=some .free)
 shadow:∀x∈M,scope.names.lookup x≠some .local/\scope.names.lookup x≠some .cell
 same:∀(i:Nat) (x:Str),M[i]?=some x->scope.names.lookup x=some .free->X.N[i]?=some x
 mlen:M.length=X.N.length
def zr0(N M:List Str)(out sc:Scope):Bool:=
 (sc.kind == .function && sc.names.all (λy => sc.names.lookup y.1 == some y.2 && (y.2 != .free || (out.names.lookup y.1 == some .cell || out.names.lookup y.1 == some .free))) &&
  M.all (λx=>sc.names.lookup x != some .local&&sc.names.lookup x != some .cell))&&(M.length == N.length&&(M.zip N).all (λp=>sc.names.lookup p.1 != some .free||p.1 == p.2))
def vW{X:Cx}{sc:Scope}{M:List Str}(h:zr0 X.N M X.env.scope sc=true):CompOk X sc M:=by
 unfold zr0 at h;rw[zD,zD,zD,zD,wQ,wQ,wQ] at h;obtain⟨⟨⟨h1,h2⟩,h3⟩,h4,h5⟩:=h
 have hl:M.length=X.N.length:=by simpa using h4
 refine⟨by simpa using h1,λy hy=>?_,λy hy hf=>?_,λx hx=>?_,λi x hi hf=>?_,hl⟩
 ·have := h2 y hy;rw[zD] at this
  simpa using this.1
 ·have := h2 y hy;rw[zD] at this;have q:=this.2;rw[hf] at q
  have q':(X.env.scope.names.lookup y.1 == some .cell||X.env.scope.names.lookup y.1 == some .free)=true:=by simpa using q
  rw[Bool.or_eq_true] at q'
  exact q'.imp (λz=>(show X.env.scope.names.lookup y.1=some .cell by simpa using z)) λz=>(show X.env.scope.names.lookup y.1=some .free by simpa using z)
 ·have := h3 x hx;rw[zD] at this
  exact⟨by simpa using this.1,by simpa using this.2⟩
 ·have hlt : i < X.N.length := by rw [<- hl]; exact (zq.mp hi).1
  have hn:X.N[i]?=some X.N[i]:=zf hlt
  have hz:(M.zip X.N)[i]?=some (x,X.N[i]):=by rw[List.getElem?_zip_eq_some];exact⟨hi,hn⟩
  have:=h5 _ (zN hz);rw[Bool.or_eq_true] at this
  rcases this with z |z
  ·rw[hf] at z;simp at z
  ·have e : x = X.N[i] := by simpa using z
   rw[hn,<- e]
def kf(X:Cx)(scope:Scope)(C:Addr):List (Str × Addr):=cellsFrom (C+1) scope.names (kY X.env scope.names [])
def wJ(X:Cx)(scope:Scope)(own M:List Str)(C:Addr)(s2:Shared)(H2:Hp)(fp:List Addr):Cx where
 prog:=X.prog
 w:=X.w
 K:=X.K
 mg:=X.mg
 base:=X.base
 A:=X.A
 N:=own++M
 s₀:=s2
 H₀:=H2
 env:=compEnvC scope (kf X scope C) C X.env
 outer:=X.stack
 stack:=X.stack
 ex:=fp
 fn:=λx=>scope.names.lookup x == some .cell
 calm:=X.calm
 pn:=[]
 xe:=λ_ _=>False
def PTs(X:Cx)(ifs:List Expr)(t:TT):Prop:=
 ∀(pins:List (Addr × Obj)) (s:Shared) (σ:St) (H:Hp) (Q:Bool->Hp->Prop),Inv X pins σ H s->t σ H Q->wpAny (model X.prog X.w) X.A (zr4 ifs X.env) (TP X pins σ Q) X.xe s
def xH0:TT:=λ_ H Q=>Q true H
def zK8{X:Cx}:PTs X [] xH0:=λ_ _ _ H _ I h=>zd ⟨H,I,h⟩
def zK7{X:Cx}{c:Expr}{t:TT}(hc:PT X c t):PTs X [c] t:=by
 intro pins s σ H Q I h;show wpAny _ _ (forIn [c] true _) _ _ s;simp only[forIn_cons,forIn_nil,if_true];exact zb (zb (thn (hc pins s σ H Q I h) λb s' hb=>zd (zd hb)))
def zu6(wi:TI)(own:Nat)(g:TG)(tt:TT)(te:TE):TE:=λσ H Q=>wi σ H λJ H1=>∃W:Nat->Nat->List V->Hp->Prop,(∃m,W 0 m [] H1)/\∀i m acc H,W i m acc H ->
 (J.stop i H/\acc.length<=sizeLine/\∀D,H D=none->Q (.ref D) (upd H D (.lst acc))) \/
 (J.go i H /\ acc.length < sizeLine /\ ∀ x H', J.yld i H x H' -> g x (List.replicate own none ++ σ) H' λσ2 H2 => σ2.drop own = σ /\ tt σ2 H2 λc H3 =>
  if c=true then te σ2 H3 λv H4=>∃m',m'<m/\W (i+1) m' (acc++[v]) H4 else ∃m',m'<m/\W (i+1) m' acc H3)
section
variable {X:Cx}{scope:Scope}{own M:List Str}{pins:List (Addr × Obj)}{σ:St}{H2:Hp}{s2:Shared}{fp:List Addr}
def CompOk.cells(ok:CompOk X scope M)(I:Inv X pins σ H2 s2):∀y∈scope.names,y.2=.free->∃c,X.env.cells.lookup y.1=some c:=λy hy hf=>I.ok.has y.1 (ok.frees y hy hf)
def CompOk.kindIn(ok:CompOk X scope M){x:Str}{C:Addr}{k:NameKind}(h:(compEnvC scope (kf X scope C) C X.env).kindOf x=some k) :
  scope.names.lookup x=some k\/(k=.cell/\scope.names.lookup x=some .free):=by
 have h':(relabel scope X.env).names.lookup x=some k:=h;unfold relabel at h';rw[Yl] at h'
 cases e:scope.names.lookup x with
 |none=>rw[e] at h';simp at h'
 | some j =>
  rw[e,Option.map_some] at h';have h2:=zF h'
  split at h2
  ·rename_i hc
   have:j=.free:=by
    rw[zD,zD] at hc
    simpa using hc.1.1
   exact .inr ⟨h2.symm,by rw[this]⟩
  ·exact .inl (by rw[h2])
def CompOk.cellsFrom_old(ok:CompOk X scope M)(I:Inv X pins σ H2 s2){C:Addr}{x:Str}{c:Addr}(h:(kf X scope C).lookup x=some c)(hx:scope.names.lookup x≠some .cell):X.env.cells.lookup x=some c:=by
 have e0:∀(l:List (Str × NameKind)) (n:Nat) (acc:List (Str × Addr)),(x,NameKind.cell) ∉ l->(cellsFrom n l acc).lookup x=acc.lookup x:=by
  intro l
  induction l with
  |nil=>intro n acc _;rfl
  | cons y r ih =>
   intro n acc hy;obtain⟨m,k⟩:=y;unfold cellsFrom
   split
   ·rename_i hk
    have hk':k=.cell:=by simpa using hk
    rw[ih _ _ λz=>hy (zk _ z),zT]
    have:(x == m)=false:=by
     cases hb:x == m with
     |false=>rfl
     |true=>
      have e:x=m:=by simpa using hb
      exact absurd (by rw[hk',e];exact zP) hy
    rw[this]
   ·exact ih _ _ λz=>hy (zk _ z)
 unfold kf at h;rw[e0 _ _ _ λhm=>hx (ok.uniq _ hm)] at h
 exact vC scope.names [] (ok.cells I) (λ_ _ z=>by simp at z) x c h
def zA9(ok:CompOk X scope M)(hc:X.calm=true)(I:Inv X pins σ H2 s2)(hf:∀b∈fp,FpOk X pins H2 b/\b<s2.heap.objs.size){C:Addr}(hC:C=s2.heap.objs.size+1){h4:Heap}
  (hh:h4=pushCells ((s2.heap.push { cls:=.type "list",dict:=none,data:=.seq ([]:List Value).toArray }).push { cls:=.type "dict",data:=.dict #[] }) scope.names) :
  Inv (wJ X scope own M C s2 H2 fp) [] (replicate own.length none++σ) H2 { s2 with heap:=h4 }:=by
 have zC:(s2.heap.push { cls:=.type "list",dict:=none,data:=.seq ([]:List Value).toArray }).objs.size=C:=by rw[xW,hC]
 have zC1:((s2.heap.push { cls:=.type "list",dict:=none,data:=.seq ([]:List Value).toArray }).push { cls:=.type "dict",data:=.dict #[] }).objs.size=C+1:=by rw[xW,zC]
 have keep:∀b o,s2.heap.get? b=some o->h4.get? b=some o:=λb o e=>by
  rw[hh];exact pushCells_keeps _ _ _ _ (ze _ (ze _ e))
 have cellOld:∀x c,X.env.cells.lookup x=some c->c<s2.heap.objs.size:=λx c e=>by obtain⟨v,q⟩:=I.cell x c e;exact q.lt
 have cellB:∀x c,(kf X scope C).lookup x=some c->(h4.IsCell c none/\C+1<=c/\scope.names.lookup x=some .cell)\/X.env.cells.lookup x=some c:=λx c e=>by
  by_cases hx:scope.names.lookup x=some .cell
  ·have e' := e;unfold kf at e';rw[<- zC1] at e'
   rcases Qy _ _ _ x c e' with ⟨a,b,d⟩ |q
   ·exact .inl ⟨by rw[hh];exact a,by rw[zC1] at b;exact b,hx⟩
   ·exact .inr (vC scope.names [] (ok.cells I) (λ_ _ z=>by simp at z) x c q)
  ·exact .inr (ok.cellsFrom_old I e hx)
 have hNs:∃m,h4.Ns C m:=by
  have q:((s2.heap.push { cls:=.type "list",dict:=none,data:=.seq ([]:List Value).toArray }).push { cls:=.type "dict",data:=.dict #[] }).Ns C (λ_=>none):=by
   have:=Heap.Ns.new (s2.heap.push { cls:=.type "list",dict:=none,data:=.seq ([]:List Value).toArray }) (.type "dict");rw[zC] at this;exact this
  exact⟨_,q.keeps λb o e=>by rw[hh];exact pushCells_keeps _ _ _ _ e⟩
 have nfs:∀b∈fp,b ∉ frs X.stack:=λb hb hx=>by
  obtain⟨⟨_,f1,f2,_⟩,_⟩:=hf b hb
  rcases zj.mp (I.stkSub b hx) with e |e
  ·exact f1 e
  ·exact f2 e
 obtain⟨mC,hmC⟩:=hNs
 refine⟨⟨I.ok.mod,ok.kind,I.ok.glob,I.ok.blt,?_,?_,?_,?_,I.ok.hd,I.ok.frames,.inl rfl,?_,I.bs,?_,?_,nfs,I.stack,I.stkFree⟩,rfl,I.bare,Un.kept keep,⟨mC,hmC,?_⟩,?_,I.hok.fresh (by show s2.heap.objs.size<=C;rw[hC];exact xq _),?_,λp hp=>absurd (show p∈([]:List (Addr × Obj)) from hp) (by simp),I.hok.kept keep,?_⟩
 ·show s2.heap.objs.size<=C;rw[hC];exact xq _
 ·intro x y c h1 h2;refine Qw scope.names (C+1) (kY X.env scope.names []) (λa b d p q=>?_) (λa d p=>?_) x y c h1 h2
  ·exact I.ok.inj a b d (vC scope.names [] (ok.cells I) (λ_ _ z=>by simp at z) a d p) (vC scope.names [] (ok.cells I) (λ_ _ z=>by simp at z) b d q)
  ·have := cellOld a d (vC scope.names [] (ok.cells I) (λ_ _ z => by simp at z) a d p)
   rw[hC];exact xT (xT this)
 ·intro x hx
  have go:∀k,(k=NameKind.cell\/k=NameKind.free)->(compEnvC scope (kf X scope C) C X.env).kindOf x=some k->∃c,(kf X scope C).lookup x=some c:=λk hk e=>by
   rcases ok.kindIn e with e |⟨_,e⟩
   ·rcases hk with rfl | rfl
    ·exact Qx _ _ _ (PySem.mem_of_lookup e)
    ·exact qL _ _ _ (kq (y:=(x,.free)) rfl _ _ (PySem.mem_of_lookup e))
   ·exact qL _ _ _ (kq (y:=(x,.free)) rfl _ _ (PySem.mem_of_lookup e))
  rcases hx with e |e
  ·exact go _ (.inl rfl) e
  ·exact go _ (.inr rfl) e
 ·intro x c hx h
  have hx':scope.names.lookup x=some .cell:=by simpa [wJ] using hx
  have:=zD2 (x:=x) scope.names (C+1) (kY X.env scope.names []) (C+1) (zn _) (.inl (PySem.mem_of_lookup hx')) c h;show s2.heap.objs.size<=c
  exact zy (by rw[hC];exact zy (xq _) (xq _)) this
 ·intro b hb;obtain⟨⟨_,_,_,_,f4,_⟩,f6⟩:=hf b hb;refine⟨?_,λx c h=>?_⟩
  ·show b≠C;rw[hC];exact zw (xT f6)
  ·rcases cellB x c h with ⟨_, q, _⟩ | q
   ·rw[hC] at q;exact xN (zL f6 (zy (zy (xq _) (xq _)) q))
   ·exact f4 x c q
 ·exact zy I.ok.bsz I.sz
 ·intro b o e hb;obtain⟨⟨_,_,_,f3,_⟩,_⟩:=hf b hb
  rcases f3 with z |z
  ·exact I.ok.noex b o e z
  ·exact absurd (zL (zo (I.ok.bs b o e).1) z) (xl _)
 ·intro i x v h1 h2 h3;have h2':(replicate own.length (none:Option V)++σ)[i]?=some (some v):=h2
  have hi:own.length<=i:=by
   apply wZ;intro hlt
   rw[xv (by simpa using hlt),xg] at h2'
   rw[if_pos hlt] at h2';cases h2'
  rw[xi (by simpa using hi),xu] at h2'
  have h1':(own++M)[i]?=some x:=h1;rw[xi hi] at h1';obtain⟨n1,n2⟩:=ok.shadow x (zN h1')
  have hfree:scope.names.lookup x=some .free/\((compEnvC scope (kf X scope C) C X.env).kindOf x=some .cell\/(compEnvC scope (kf X scope C) C X.env).kindOf x=some .free):=by
   rcases h3 with e |e |e
   ·rcases ok.kindIn (x := x) (C := C) e with q | ⟨q, _⟩
    ·exact absurd q n1
    ·cases q
   ·rcases ok.kindIn (x := x) (C := C) e with q | ⟨_, q⟩
    ·exact absurd q n2
    ·exact⟨q,.inl e⟩
   ·rcases ok.kindIn (x := x) (C := C) e with q | ⟨q, _⟩
    ·exact⟨q,.inr e⟩
    ·cases q
  obtain⟨hfr,hk⟩:=hfree;obtain⟨m,hn,hl⟩:=I.loc;have hkX:=ok.frees (x,.free) (PySem.mem_of_lookup hfr) rfl;have h1':=ok.same _ _ h1' hfr;obtain⟨u,ru,lk⟩:=hl (i-own.length) x v h1' h2' (hkX.elim (λz=>.inr (.inl z)) λz=>.inr (.inr z));refine⟨u,ru,.inr ⟨hk,?_⟩⟩
  rcases lk with ⟨k,_⟩ |⟨_,c,ec,ic⟩
  ·rcases hkX with z |z<;>(rw[k] at z;cases z)
  ·obtain ⟨c', e'⟩ : ∃ c', (kf X scope C).lookup x = some c' := qL _ _ _ (kq (y := (x, .free)) rfl _ _ (PySem.mem_of_lookup hfr));refine⟨c',e',?_⟩
   have:=ok.cellsFrom_old I e' (by rw[hfr];simp)
   have e2:some c=some c':=ec.symm.trans this;cases e2;exact ic.keeps keep
 ·intro x c h
  rcases cellB x c h with ⟨q,_⟩ |q
  ·exact⟨_,q⟩
  ·obtain⟨v,z⟩:=I.cell x c q;exact⟨v,z.keeps keep⟩
 ·intro x c h
  rcases cellB x c h with ⟨q,q2,_⟩ |q
  ·exact I.hok.fresh (by rw[hC] at q2;exact zy (zy (xq _) (xq _)) q2)
  ·exact I.freeC x c q
 ·show(List.replicate own.length (none:Option V)++σ).length=(own++M).length;rw[zB,zB,xu,I.len,ok.mlen]
end
section
variable {X:Cx}{scope:Scope}{own M:List Str}{pins:List (Addr × Obj)}{σ:St}{H2:Hp}{s2:Shared}{tg iter elt:Expr}{ifs:List Expr}{pos:Pos}{g:TG}{tt:TT}{te:TE}
def Kf(ok:CompOk X scope M)(hc:X.calm=true)(hg:∀C s2 H2 fp,PG (wJ X scope own M C s2 H2 fp) tg g)(ht:∀C s2 H2 fp,PTs (wJ X scope own M C s2 H2 fp) ifs tt)(he:∀C s2 H2 fp,PE (wJ X scope own M C s2 H2 fp) elt te)
  (I2:Inv X pins σ H2 s2) {it:Addr}{fp:List Addr}{tn:Nat->Heap->Prop}{J:It} (T:Turn X.prog X.w X.K tg J fp it tn) (st2:tn 0 s2.heap) (f2:∀b∈fp,FpOk X pins H2 b)
  {W:Nat->Nat->List V->Hp->Prop} (w0:∃m,W 0 m [] H2) {Qf:V->Hp->Prop}
  (turn : ∀ i m acc H, W i m acc H -> (J.stop i H /\ acc.length <= sizeLine /\ ∀ D, H D = none -> Qf (.ref D) (upd H D (.lst acc))) \/
   (J.go i H /\ acc.length < sizeLine /\ ∀ x H', J.yld i H x H' -> g x (List.replicate own.length none ++ σ) H' λσ2 H2 => σ2.drop own.length = σ /\ tt σ2 H2 λc H3 =>
    if c=true then te σ2 H3 λv H4=>∃m',m'<m/\W (i+1) m' (acc++[v]) H4 else ∃m',m'<m/\W (i+1) m' acc H3))
  {RR:Value->Addr->Result->Shared->Prop}{E:Value->Shared->Prop}
  (fin:∀D C H' s' m,Inv X pins σ H' s'->Qf (.ref D) H'->s'.heap.Ns C m->H' C=none->C≠X.env.locals->X.s₀.heap.objs.size<=C->(∀x c,X.env.cells.lookup x=some c->c≠C)->(∀p∈X.pn++pins,p.1≠C)->RR (.ref D) C (.ok .next) s') :
  wpAny (model X.prog X.w) X.A (newList []) (λacc s3=>wpAny (model X.prog X.w) X.A (newFunctionEnv scope X.env.globals (kY X.env scope.names []) [] X.env.qual none .none (some X.env)) (λcenv s4=>
   codeAny (model X.prog X.w) X.A (.compStart (.ListComp elt [⟨tg,iter,ifs,0⟩] scope pos) 0 (.ref it) acc { cenv with scope:=relabel scope X.env }) (RR acc cenv.locals) s4) E s3) E s2:=by
 refine xp (Zf ?_);have zC:(s2.heap.push { cls:=.type "list",dict:=none,data:=.seq ([]:List Value).toArray }).objs.size=s2.heap.objs.size+1:=xW ..;dsimp only;rw[zC];generalize hC:s2.heap.objs.size+1=C;generalize hh:pushCells ((s2.heap.push { cls:=.type "list",dict:=none,data:=.seq ([]:List Value).toArray }).push { cls:=.type "dict",data:=.dict #[] }) scope.names=h4
 have fpl:∀b∈fp,FpOk X pins H2 b/\b<s2.heap.objs.size:=λb hb=>by
  obtain⟨o,e,_⟩:=T.obj 0 _ st2 b hb;exact⟨f2 b hb,zo e⟩
 have I4:Inv (wJ X scope own M C s2 H2 fp) [] (replicate own.length none++σ) H2 { s2 with heap:=h4 }:=zA9 ok hc I2 fpl hC.symm hh.symm;generalize hX:wJ X scope own M C s2 H2 fp=X' at I4
 have keep4:∀b o,s2.heap.get? b=some o->h4.get? b=some o:=λb o e=>by
  rw[<- hh];exact pushCells_keeps _ _ _ _ (ze _ (ze _ e))
 have hD4:h4.get? s2.heap.objs.size=some { cls:=.type "list",dict:=none,data:=.seq ([]:List Value).toArray }:=by
  rw[<- hh];exact pushCells_keeps _ _ _ _ (ze _ (zp _ rfl))
 have st4:tn 0 h4:=T.keep _ _ _ st2 λb hb o e=>keep4 b o e
 have gg:PG X' tg g:=by rw[<- hX];exact hg C s2 H2 fp
 have gt:PTs X' ifs tt:=by rw[<- hX];exact ht C s2 H2 fp
 have ge:PE X' elt te:=by rw[<- hX];exact he C s2 H2 fp
 have xP:X'.prog=X.prog:=by rw[<- hX];rfl
 have xw:X'.w=X.w:=by rw[<- hX];rfl
 have xK:X'.K=X.K:=by rw[<- hX];rfl
 have xA:X'.A=X.A:=by rw[<- hX];rfl
 have xc:X'.calm=true:=by rw[<- hX];exact hc
 have xpn:X'.pn=[]:=by rw[<- hX];rfl
 have xs:X'.s₀=s2:=by rw[<- hX];rfl
 have xH:X'.H₀=H2:=by rw[<- hX];rfl
 have xL:X'.env.locals=C:=by rw[<- hX];rfl
 have xfs:X'.fs=frs X.stack:=by rw[<- hX];rfl
 have xex:X'.ex=fp:=by rw[<- hX];rfl
 have xe:X'.xe=λ_ _=>False:=by rw[<- hX];rfl
 have xenv:({ newEnv scope C X.env.globals (cellsFrom (C+1) scope.names (kY X.env scope.names [])) X.env.qual none .none (some X.env) builtinsNs with scope:=relabel scope X.env }:Env)=X'.env:=by rw[<- hX];rfl
 have Dlt:s2.heap.objs.size<C:=by rw[<- hC];exact Nat.lt_succ_self _
 have fpb:∀{pl:List (Addr × Obj)}{H:Hp},(∀b∈fp,H b=none)->(∀p∈pl,p.1 ∉ fp)->∀b∈fp,FpOk X' pl H b:=λ{pl H} hn hpl b hb=>by
  refine⟨hn b hb,?_,?_,.inl (by rw[xex];exact hb),λx c e=>(I4.ok.exf b (by rw[xex];exact hb)).2 x c e,λp hp z=>?_⟩
  ·exact(I4.ok.exf b (by rw[xex];exact hb)).1
  ·exact I4.ok.exfs b (by rw[xex];exact hb)
  ·rw [xpn, we] at hp
   exact hpl p hp (by rw[z];exact hb)
 have Dfp:s2.heap.objs.size ∉ fp:=λz=>xl _ (fpl _ z).2;have DC:s2.heap.objs.size≠C:=zw Dlt
 have Dcell:∀x c,X'.env.cells.lookup x=some c->c≠s2.heap.objs.size:=λx c e z=>by
  obtain⟨v,o,q,hd⟩:=I4.cell x c e;rw[z] at q;have q':h4.get? s2.heap.objs.size=some o:=q;rw[hD4] at q';cases q';cases hd
 have Dfs:s2.heap.objs.size ∉ X'.fs:=λz=>by
  obtain⟨_,o,ho,_⟩:=I4.ok.funs.mem (by exact z)
  rw[xs] at ho;exact xl _ (zo ho)
 rw[xenv]
 have goal:∀s5:Shared,s5={ s2 with heap:=h4 }->codeAny (model X.prog X.w) X.A (.compLoop (.ListComp elt [⟨tg,iter,ifs,0⟩] scope pos) 0 (.ref it) (.ref s2.heap.objs.size) X'.env) (RR (.ref s2.heap.objs.size) C) s5:=by
  rintro s5 rfl;obtain⟨m0,w0⟩:=w0
  refine zq8 (λn s'=>∃i acc σ' H' its k,Inv X' [] σ' H' s'/\σ'.drop own.length=σ/\tn i s'.heap/\(∀b∈fp,H' b=none)/\H' s2.heap.objs.size=none /\
   s'.heap.get? s2.heap.objs.size=some { cls:=.type "list",data:=.seq (List.toArray its) k }/\Vals acc its/\W i n acc H') ?_ m0
   ⟨0,[],_,H2,[],0,I4,by simp,st4,λb hb=>(f2 b hb).1,I2.hok.fresh (zn _),hD4,.nil,w0⟩
  rintro n s3 ⟨i,acc,σ3,H3,its,k,I3,hσ,st3,fr3,hD,hDo,rv,w3⟩
  have pinD:∀{H:Hp}{s:Shared}{σ:St},Inv X' [] σ H s->H s2.heap.objs.size=none->s.heap.get? s2.heap.objs.size=some { cls:=.type "list",data:=.seq (List.toArray its) k } ->
    Inv X' [(s2.heap.objs.size,{ cls:=.type "list",data:=.seq (List.toArray its) k })] σ H s:=λ{H s σ} I hn ho=>I.pins_of λp hp=>by
   have e:p=(s2.heap.objs.size,{ cls:=.type "list",data:=.seq (List.toArray its) k }):=by simpa using hp
   subst e
   exact⟨ho,hn,by rw[xL];exact DC,Dfs,λv z=>by cases z⟩
  have plD:∀p∈[((s2.heap.objs.size,{ cls:=.type "list",data:=.seq (List.toArray its) k }):Addr × Obj)],p.1 ∉ fp:=λp hp=>by
   have e:p=(s2.heap.objs.size,{ cls:=.type "list",data:=.seq (List.toArray its) k }):=by simpa using hp
   subst e;exact Dfp
  have I3':=pinD I3 hD hDo
  rcases turn i n acc H3 w3 with ⟨stop,hsz,q⟩ |⟨go,hsz,step⟩
  ·have := T.done X' xP xw xK xc i _ s3 σ3 H3 (λ_ _ => False) I3' (fpb fr3 plD) st3 stop;rw[xA] at this;refine thn this λr s4 ⟨hr,I5⟩=>?_;subst hr
   have hDo5:=(I5.pin (s2.heap.objs.size,{ cls:=.type "list",data:=.seq (List.toArray its) k }) (by rw[xpn];simp)).1
   have un:Un (frs X.stack) fp H2 H3 s2.heap s4.heap:=by
    have:=I5.base;rw[xfs,xex,xH,xs] at this;exact this
   have os:s4.os=s2.os:=by rw[I5.os,xs]
   have hok:HOk X.prog X.w H3 s4.heap:=by have:=I5.hok;rw[xP,xw] at this;exact this
   have IX:Inv X pins σ H3 s4:=I2.call' os un hok I5.bare λb hb=>by
    obtain⟨_,f1,_,f3,f4,f5⟩:=f2 b hb;exact⟨f3,f1,f4,f5⟩
   have old:∀{b:Addr},s2.heap.objs.size<=b->(X.s₀.heap.objs.size<=b/\b≠X.env.locals/\(∀x c,X.env.cells.lookup x=some c->c≠b)/\∀p∈X.pn++pins,p.1≠b):=λ{b} hb=>by
    obtain⟨_,f1,_,f3,f4,f5⟩:=I2.fpOk (H':=λ_=>none) hb rfl;exact⟨zy I2.sz hb,f1,f4,f5⟩
   obtain⟨d1,d2,d3,d4⟩:=old (zn s2.heap.objs.size);obtain⟨c1,c2,c3,c4⟩:=old (b:=C) (yt Dlt);have IY:Inv X pins σ (upd H3 s2.heap.objs.size (.lst acc)) s4:=IX.track hD d1 d2 d3 d4 ⟨hsz,its,k,rv,hDo5⟩;obtain⟨m,hm,_⟩:=I5.loc;rw[xL] at hm
   have hCn:H3 C=none:=by have:=I5.free;rw[xL] at this;exact this
   exact fin _ C _ s4 m IY (q _ hD) hm (by rw[xX (Ne.symm DC)];exact hCn) c2 c1 c3 c4
  ·have := T.item X' xP xw xK xc i _ s3 σ3 H3 (λ_ _ => False) I3' (fpb fr3 plD) st3 go;rw[xA] at this;refine thn this λr s4 ⟨u,hr,h4⟩=>?_;subst hr;refine thn h4 λ_ s5 ⟨x,H5,I5,r5,y5,st5,fr5⟩=>?_
   have hσn:∀(j:Nat) v,(replicate own.length none++σ)[j]?=some (some v)->σ3[j]?=some (some v):=λj v e=>by
    by_cases hlt:j<own.length
    ·rw [xv (by simpa using hlt), xg, if_pos hlt] at e
     cases e
    ·have hle := wZ hlt
     rw[xi (by simpa using hle),xu,<- hσ,yf] at e
     rw[show own.length+(j-own.length)=j by lia] at e
     exact e
   have hlen:(replicate own.length none++σ).length=σ3.length:=by
    have e1:σ3.length=X'.N.length:=I5.len;have e2:=I4.len;exact e2.trans e1.symm
   have I5w:Inv X' _ (replicate own.length none++σ) H5 s5:=I5.weak hlen hσn;have I5p:=I5w.pinned (fpb fr5 plD) (T.obj _ _ st5);have a1:=gg _ s5 _ H5 x u _ I5p r5 (step x H5 y5);rw[xP,xw,xA,xe] at a1;refine thn a1 λ_ s6 ⟨σ6,H6,I6,d6,q6⟩=>?_;have a2:=gt _ s6 σ6 H6 _ I6 q6;rw[xP,xw,xA,xe] at a2;refine thn a2 λb s7 ⟨H7,I7,q7⟩=>?_
   have pin7:∀{H:Hp}{s:Shared},Inv X' ([((s2.heap.objs.size,{ cls:=.type "list",data:=.seq (List.toArray its) k }):Addr × Obj)]++YZ fp s5.heap) σ6 H s ->
     (tn (i+1) s.heap/\(∀b∈fp,H b=none)/\H s2.heap.objs.size=none/\s.heap.get? s2.heap.objs.size=some { cls:=.type "list",data:=.seq (List.toArray its) k }/\Inv X' [] σ6 H s):=λ{H s} I=>by
    refine⟨T.keep _ _ _ st5 λb hb o e=>(I.pin (b,o) (zr _ (zr _ (vU hb e)))).1,λb hb=>?_,?_,?_,I.pins_of λp hp=>by simp at hp⟩
    ·obtain⟨o,e,d⟩:=T.obj _ _ st5 b hb;exact(I.pin (b,o) (zr _ (zr _ (vU hb e)))).2.1
    ·exact(I.pin (s2.heap.objs.size,{ cls:=.type "list",data:=.seq (List.toArray its) k }) (by rw[xpn];simp)).2.1
    ·exact(I.pin (s2.heap.objs.size,{ cls:=.type "list",data:=.seq (List.toArray its) k }) (by rw[xpn];simp)).1
   cases b with
   |false=>
    obtain⟨p1,p2,p3,p4,p5⟩:=pin7 I7;obtain⟨m',hm,w7⟩:=q7;exact⟨m',hm,i+1,acc,σ6,H7,its,k,p5,d6,p1,p2,p3,p4,rv,w7⟩
   |true=>
    rw[if_pos rfl] at q7 ⊢;have a3:=ge _ s7 σ6 H7 _ I7 q7;rw[xP,xw,xA,xe] at a3;refine thn a3 λy s8 ⟨v,H8,I8,r8,q8⟩=>?_;obtain⟨p1,p2,p3,p4,p5⟩:=pin7 I8;obtain⟨m',hm,w8⟩:=q8;have hl:=rv.length
    refine wpAny_list_append_plain (items:=List.toArray its) ⟨k,p4⟩ (λh' hpl hs=>?_) (by simp;lia)
    obtain⟨k',hpl⟩:=hpl
    have I9:Inv X' [] σ6 H8 { s8 with heap:=h' }:=p5.turned (t':=s8.toks) (λb o hb e=>hs.extBut b o hb e) p3 (by rw[xL];exact DC) (.inr (by rw[xs];exact zn _)) Dcell (λp hp=>by rw[xpn] at hp;simp at hp)
    refine⟨m',hm,i+1,acc++[v],σ6,H8,its++[y],k',I9,d6,T.keep _ _ _ p1 λb hb o e=>hs.extBut b o (λz=>Dfp (by rw[<- z];exact hb)) e,p2,p3,?_,rv.append (.cons r8 .nil),w8⟩
    rw[hpl];simp
 exact codeAny_compStart_list (goal _ rfl) (T.self _ 0 _ _ _ st4 (goal _ rfl))
def zM0{wi:TI}(ok:CompOk X scope M)(hc:X.calm=true)(hi:PI X tg iter wi)(hg:∀C s2 H2 fp,PG (wJ X scope own M C s2 H2 fp) tg g)(ht:∀C s2 H2 fp,PTs (wJ X scope own M C s2 H2 fp) ifs tt)
  (he:∀C s2 H2 fp,PE (wJ X scope own M C s2 H2 fp) elt te) (hs:∀x,foldedSetIterable iter X.env x=pure x:=by intro _;rfl) :
  PE X (.ListComp elt [⟨tg,iter,ifs,0⟩] scope pos) (zu6 wi own.length g tt te):=by
 intro pins s σ H Q I h;rw[eval_ListComp]
 refine yq (use:=none) rfl hs (YL (ok.cells I)) ok.kind (λx hx hl=>by rw[ok.uniq x hx,hl]) ?_
 refine thn (hi pins s σ H _ I h) λv s1 h1=>thn h1 λitv s2 h2=>?_;obtain⟨it,fp,tn,J,H2,e,I2,T,st2,f2,W,w0,turn⟩:=h2;subst e;refine Kf (Qf:=Q) ok hc hg ht he I2 T st2 f2 w0 turn λD C H' s' m IY q hm hCn c2 c1 c3 c4=>⟨m,hm,λh' hs'=>?_⟩;exact⟨.ref D,H',IY.turned (t':=s'.toks) (λb o hb e=>hs'.extBut b o hb e) hCn c2 (.inr c1) c3 c4,rfl,q⟩
def QU{wi:TI}{i:Nat}{x:Str}{pos' spos:Pos}(hN:X.N.Nodup)(hix:X.N[i]?=some x)(hx:Loc X.env.scope x)(ok:CompOk X scope M)(hc:X.calm=true)(hi:PI X tg iter wi)(hg:∀C s2 H2 fp,PG (wJ X scope own M C s2 H2 fp) tg g)
  (ht:∀C s2 H2 fp,PTs (wJ X scope own M C s2 H2 fp) ifs tt) (he:∀C s2 H2 fp,PE (wJ X scope own M C s2 H2 fp) elt te)
  (hsw:swapsWith (.ListComp elt [⟨tg,iter,ifs,0⟩] scope pos) (some (.Name x pos')) spos.line X.env=pure true:=by rfl) (hf:X.fn x=true\/X.env.scope.names.lookup x=some .local:=by first |exact .inl rfl |exact .inr rfl |assumption)
  (hs:∀x,foldedSetIterable iter X.env x=pure x:=by intro _;rfl):PS X (.Assign [.Name x pos'] (.ListComp elt [⟨tg,iter,ifs,0⟩] scope pos) spos) (xm9 (zu6 wi own.length g tt te) (zB5 i)):=by
 intro pins s σ H D I h;rw[exec_Assign_Name_used _ _ _ _ hsw];refine zb (va (zb ?_))
 show wpAny _ _ (do let _ <- comprehension (.ListComp elt [⟨tg,iter,ifs,0⟩] scope pos) scope X.env _ (newList []) false (eval iter X.env) (some (assign (.Name x pos') X.env))) _ _ s
 refine zb (thn (yq (use:=some (assign (.Name x pos') X.env)) (Q:=λ_ s'=>SP X pins D .next s') rfl hs (YL (ok.cells I)) ok.kind (λx hx hl=>by rw[ok.uniq x hx,hl]) ?_)
  λ_ s' hq=>zd (zd hq))
 refine thn (hi pins s σ H _ I h) λv s1 h1=>thn h1 λitv s2 h2=>?_;obtain⟨it,fp,tn,J,H2,e,I2,T,st2,f2,W,w0,turn⟩:=h2;subst e;refine Kf (Qf:=λx H1=>zB5 i x σ H1 D.nx) ok hc hg ht he I2 T st2 f2 w0 turn λD' C H' s' m IY q hm hCn c2 c1 c3 c4=>?_;show wpAny _ _ (assign (.Name x pos') X.env (.ref D')) _ _ s';refine wpAny_assign_Name (Ue IY hN hix hx (v:=.ref D') rfl (λs'' I'' ⟨a,hsb,ha⟩=>?_) hf)
 have hCa:C≠a:=by
  rcases ha with z |z
  ·rw[z];exact c2
  ·exact λe=>c3 x a z e.symm
 exact⟨m,hm.sameBut hsb hCa,λh' hs'=>⟨_,H',I''.turned (t':=s''.toks) (λb o hb e=>hs'.extBut b o hb e) hCn c2 (.inr c1) c3 c4,q⟩⟩
end
section
variable {X:Cx}{pins:List (Addr × Obj)}{σ:St}{H:Hp}{s:Shared}
def Inv.turnedL{t':Nat}{h':Heap}{ch:List Addr}(I:Inv X pins σ H s)(k:∀b o,b ∉ ch->s.heap.get? b=some o->h'.get? b=some o)(hf:∀b∈ch,FpOk X pins H b):Inv X pins σ H { s with heap:=h',toks:=t' }:=by
 have nit:∀b u,H b=some u->b ∉ ch:=λb u e z=>by rw[(hf b z).1] at e;cases e
 refine I.step (g':=s.gens) (d':=s.drawn) (ch:=ch) (λb hb=>?_) (λb o _ _ hc e _=>k b o hc e) (λb o _ _ hc e _=>⟨o.slots,k b o hc e⟩) (λ_ _ _ _ n=>n)
  (λb o hc e=>⟨o,k b o hc e⟩) (λ_ _ e=>e) (λ_ _ _ e=>e) (λb ps e=>⟨#[],by rw[e];simp⟩) (λm hm=>?_) (λb u e=>?_) I.bare
 ·obtain⟨_,f1,_,f3,f4,f5⟩:=hf b hb;exact⟨f3,f1,f4,f5⟩
 ·obtain⟨o,es,ep,ho,r⟩:=hm;exact⟨o,es,ep,k _ o (λz=>(hf _ z).2.1 rfl) ho,r⟩
 ·refine (I.hok b u e).stay (λc v hc q => k c v ?_ q) (λ_ q => q) (λ_ _ q => q) λ_ _ _ q => q
  rcases hc with z |z
  ·rw[z];exact nit b u e
  ·exact nit c _ z
def SqB(K:W.Frag)(b:Bool)(H:Hp)(a:Addr)(xs:List V):Prop:=match b with |true=>SqL K H a xs |false=>SqT K H a xs
def Inv.seqB{b:Bool}{a:Addr}{xs:List V}(I:Inv X pins σ H s)(h:SqB X.K b H a xs):∃its:List Value,Vals xs its/\SeqIs b s.heap a its.toArray:=by
 cases b with
 |true=>obtain⟨its,r,p,_⟩:=I.list h;exact⟨its,r,p.isList⟩
 |false=>obtain⟨its,r,p,_⟩:=I.tuple h;exact⟨its,r,p⟩
def Inv.seqB_inj{b:Bool}{a:Addr}{xs ys:List V}(I:Inv X pins σ H s)(h:SqB X.K b H a xs)(h':SqB X.K b H a ys):xs=ys:=by
 cases b with
 |true=>exact I.list_inj h h'
 |false=>exact I.tuple_inj h h'
def Inv.ne_fp{b:Bool}{a c:Addr}{xs:List V}(I:Inv X pins σ H s)(h:SqB X.K b H a xs)(hf:FpOk X pins H c):a≠c:=by
 have old:∀o,X.K.lookup a=some o->a≠c:=λo e z=>by
  have eb:=I.ok.mod.kin a o e;rw[z] at eb;obtain⟨_,_,_,f3,_⟩:=hf
  rcases f3 with q |q
  ·exact I.ok.noex c o eb q
  ·exact absurd (zL (zo (I.ok.bs c o eb).1) q) (xl _)
 have trk:∀u,H a=some u->a≠c:=λu e=>wW e hf.1
 cases b with
 |true=>
  rcases h with (h |⟨o,h⟩) |⟨o,_,_,hk,_⟩
  ·exact trk _ h
  ·exact trk _ h
  ·exact old o hk
 |false=>
  rcases h with (h |⟨o,h⟩) |⟨o,_,_,hk,_⟩
  ·exact trk _ h
  ·exact trk _ h
  ·exact old o hk
def Itz(K:W.Frag)(b c:Bool)(l1 l2:Addr):It:=
  ⟨λi H=>∃xs ys x y,SqB K b H l1 xs/\SqB K c H l2 ys/\xs[i]?=some x/\ys[i]?=some y,
   λi H v H'=>∃T,H T=none/\v=.ref T/\∀xs ys,SqB K b H l1 xs->SqB K c H l2 ys->∃x y,xs[i]?=some x/\ys[i]?=some y/\H'=upd H T (.tup [x,y]),
   λi H=>∃xs ys,SqB K b H l1 xs/\SqB K c H l2 ys/\(xs.length<=i\/ys.length<=i)⟩
def newTup{T:Addr}{x y:V}{u v:Value}{s1:Shared}(I:Inv X pins σ H s)(I1:Inv X pins σ H s1)(hT:s.heap.objs.size<=T)(hn:H T=none)(ho:s1.heap.get? T=some { cls:=.type "tuple",data:=.seq #[u,v] })(rx:RelV x u)(ry:RelV y v) :
  Inv X pins σ (upd H T (.tup [x,y])) s1:=by
 obtain⟨_,f1,_,f3,f4,f5⟩:=I.fpOk (H':=H) hT hn
 exact I1.track hn (zy I.sz hT) f1 f4 f5 ⟨(by show 2<=sizeLine;decide),[u,v],.cons rx (.cons ry .nil),⟨_,ho,rfl,_,rfl⟩⟩
def zu1{P:Program}{w:World}{K:W.Frag}{es:List Expr}{kk:Nat}{ps:Pos}{b c:Bool}{z ti to i1 i2 l1 l2:Addr}(D:ZApart z ti to i1 i2) :
  Turn P w K (.Tuple es kk ps) (Itz K b c l1 l2) [z,ti,to,i1,i2] z (λi h=>ZSt b c z ti to i1 i2 l1 l2 i h) where
 mem:=by simp
 obj:=λi h st d hd=>by
  have nc:∀{o:Obj}{vs:Array Value},o.data=.fields vs->∀v,o.data≠.cell v:=λe v q=>by rw[e] at q;cases q
  simp only[zj,zS,or_false] at hd
  rcases hd with rfl |rfl |rfl |rfl |rfl
  ·exact⟨_,st.z,λv q=>by cases q⟩
  ·exact⟨_,st.ti,λv q=>by cases q⟩
  ·obtain ⟨u, v, e⟩ := st.to
   exact⟨_,e,λv q=>by cases q⟩
  ·obtain⟨o,e,_,hd⟩:=st.i1.obj;exact⟨o,e,nc hd⟩
  ·obtain⟨o,e,_,hd⟩:=st.i2.obj;exact⟨o,e,nc hd⟩
 keep:=λi h h' st k=>by
  obtain⟨u,v,e⟩:=st.to
  exact⟨k z (by simp) _ st.z,k ti (by simp) _ st.ti,⟨u,v,k to (by simp) _ e⟩,st.i1.at λo q=>k i1 (by simp) o q,st.i2.at λo q=>k i2 (by simp) o q⟩
 item:=by
  intro X hP hw hK hc i pins s σ H E I hf st hg;subst hP hw hK;obtain⟨xs,ys,x,y,q1,q2,hx,hy⟩:=hg;obtain⟨is1,r1,p1⟩:=I.seqB q1;obtain⟨is2,r2,p2⟩:=I.seqB q2;obtain⟨u,hu,ru⟩:=r1.get hx;obtain⟨v,hv,rv⟩:=r2.get hy
  have hfto:=hf to (by simp)
  refine zz6 D st p1 p2 (I.ne_fp q1 hfto) (I.ne_fp q2 hfto) (x:=u) (y:=v) (by simpa using hu) (by simpa using hv) λh' M hT kp=>?_
  have lt:∀{d:Addr},d∈[z,ti,to,i1,i2]->s.heap.objs.size≠d:=λ{d} hd e=>by
   obtain⟨o,q⟩:∃o,s.heap.get? d=some o:=by
    simp only[zj,zS,or_false] at hd
    rcases hd with rfl |rfl |rfl |rfl |rfl
    ·exact⟨_,st.z⟩
    ·exact⟨_,st.ti⟩
    ·obtain⟨u,v,e⟩:=st.to;exact⟨_,e⟩
    ·obtain⟨o,e,_⟩:=st.i1.obj;exact⟨o,e⟩
    ·obtain⟨o,e,_⟩:=st.i2.obj;exact⟨o,e⟩
   have:=zo q;rw[<- e] at this;exact xl _ this
  refine⟨_,rfl,wpAny_letOwnedTupleGo_zip (s:={ s with heap:=h' }) M.z λh'' z' sb=>?_⟩
  have kp2:∀d o,d ∉ [z,ti,to,i1,i2]->s.heap.get? d=some o->h''.get? d=some o:=λd o hd e=>by
   simp only[zj,zS,or_false,not_or] at hd;exact sb.extBut _ _ hd.1 (kp d o hd.1 hd.2.2.1 hd.2.2.2.1 hd.2.2.2.2 e)
  have I1:Inv X pins σ H { s with heap:=h'' }:=I.turnedL (t':=s.toks) kp2 hf;have hn:H s.heap.objs.size=none:=I.hok.fresh (zn _)
  have I2:Inv X pins σ (upd H s.heap.objs.size (.tup [x,y])) { s with heap:=h'' }:=newTup I I1 (zn _) hn (sb.extBut _ _ (lt (by simp)) hT) ru rv
  obtain⟨u',v',eto⟩:=M.to
  refine⟨.ref s.heap.objs.size,_,I2,rfl,⟨_,hn,rfl,λxs' ys' e1 e2=>⟨x,y,by rw[I.seqB_inj e1 q1];exact hx,by rw[I.seqB_inj e2 q2];exact hy,rfl⟩⟩,?_,λd hd=>?_⟩
  ·exact⟨z',sb.extBut _ _ D.a1 M.ti,⟨u',v',sb.extBut _ _ D.a2 eto⟩,M.i1.at λo e=>sb.extBut _ _ D.a3 e,M.i2.at λo e=>sb.extBut _ _ D.a4 e⟩
  ·rw[xX (Ne.symm (lt hd))];exact(hf d hd).1
 done:=by
  intro X hP hw hK hc i pins s σ H E I hf st hg;subst hP hw hK;obtain⟨xs,ys,q1,q2,hx⟩:=hg;obtain⟨is1,r1,p1⟩:=I.seqB q1;obtain⟨is2,r2,p2⟩:=I.seqB q2
  have hfto:=hf to (by simp)
  have e1:=r1.length;have e2:=r2.length
  refine UG (I.ok.hd hc) D st p1 p2 (I.ne_fp q1 hfto) (I.ne_fp q2 hfto) (hx.imp (λz=>by simp;lia) λz=>by simp;lia) λh' kp=>⟨rfl,I.turnedL (t':=s.toks) (λd o hd e=>?_) hf⟩
  simp only[zj,zS,or_false,not_or] at hd;exact kp d o hd.1 hd.2.2.1 hd.2.2.2.1 hd.2.2.2.2 e
 self:=λ_ _ _ _ _ st h=>wpAny_pyIter_zip st.z h
def xM9(K:W.Frag)(ta:TA):TI:=λσ H R=>ta σ H λvs H1=>∃b c l1 l2 xs ys,vs=[.ref l1,.ref l2]/\SqB K b H1 l1 xs/\SqB K c H1 l2 ys/\R (Itz K b c l1 l2) H1
def zY8{es:List Expr}{kk:Nat}{ps:Pos}{a b:Expr}{ta:TA}{p pos:Pos}(hg:Gl X "zip")(hm:X.mg "zip" = none)(ha:PA X [a,b] ta)(hs:starEach [a,b] X.env=[(false,eval a X.env),(false,eval b X.env)]:=by rfl)(hs2:starEach [b] X.env=[(false,eval b X.env)]:=by rfl) :
  PI X (.Tuple es kk ps) (.Call (.Name "zip" p) [a,b] [] pos) (xM9 X.K ta):=by
 intro pins s σ H R I h
 refine Call_ (UR I hg hm boot_zip (PyProof.Rows.callWith_type1 (thn (ha pos pins s σ H _ I h) λus s1 ⟨vs,H1,I1,r1,q1⟩=>?_) (by rw[hs,hs2]) (by rw[hs2];rfl)))
 obtain⟨bb,cc,l1,l2,xs,ys,e,q1,q2,q⟩:=q1;subst e
 cases r1 with
 | cons r rr =>
  cases rr with
  |cons r' rr=>
   cases rr;cases r;cases r';obtain⟨is1,r1,p1⟩:=I1.seqB q1;obtain⟨is2,r2,p2⟩:=I1.seqB q2;refine zD3 p1 p2 λh' z ti to i1 i2 D S new kp=>wpAny_pyIter_zip S.z ?_;exact⟨z,[z,ti,to,i1,i2],_,_,H1,rfl,I1.kept (t':=s1.toks) kp,zu1 D,S,λd hd=>I1.fpOk (new d hd) (I1.hok.fresh (new d hd)),q⟩
def Vals.bools{us:List Value}:∀{bs:List Bool},Vals (bs.map V.bl) us->us=bs.map Value.bool:=by
 induction us with
 |nil=>intro bs h;cases bs with |nil=>rfl |cons=>cases h
 | cons u us ih =>
  intro bs h
  cases bs with
  |nil=>cases h
  | cons b bs =>
   cases h with
   |cons r t=>
    have e:u=Value.bool b:=r;rw[e,ih t];rfl
def zJ6(bs:List Bool):((List.range bs.length).any λi=>(bs[i]?).getD false)=bs.any id:=by
 rw[wf,yP,yP]
 constructor
 ·rintro⟨i,hi,h⟩;have hi':=ye.mp hi;rw[zf hi'] at h;exact⟨_,wz hi',h⟩
 ·rintro ⟨b, hb, h⟩;obtain⟨i,hi,e⟩:=List.mem_iff_getElem.mp hb
  exact⟨i,ye.mpr hi,by rw[zf hi,e];exact h⟩
def Qg{h h':Heap}{o:Obj}(hk:∀b x,b ∉ [h.objs.size]->(h.push o).get? b=some x->h'.get? b=some x):∀b x,h.get? b=some x->h'.get? b=some x:=
 λb x e=>hk b x (λz=>absurd (zo e) (by rw[zM.mp z];exact xl _)) (ze _ e)
def QB(hc:X.calm=true):kG X (.builtin "any") (λxs H Q=>∃(p:Addr) (bs:List Bool),xs=[.ref p]/\SqL X.K H p (bs.map V.bl)/\Q (.bl (bs.any id)) H):=by
 intro pins s σ H xs us Q I r h;obtain⟨p,bs,rfl,hq,q⟩:=h
 cases r with
 | cons r rr =>
  cases rr;cases r;obtain⟨its,rv,pl,_⟩:=I.list hq;have ei:=Vals.bools rv;subst ei;have hl:=pl.isList
  have hlt:p<s.heap.objs.size:=by obtain⟨_,e,_⟩:=hl;exact zo e
  refine call_any_walk (yw hl ⟨s.heap.objs.size,[s.heap.objs.size,p],[s.heap.objs.size],(bs.map Value.bool).toArray.size,_,_,λi=>(bs[i]?).getD false,rfl,
   Walks.list (A:=X.A.in1) (I.ok.hd hc) _ p (zw hlt) _,⟨⟨_,zp _ rfl,rfl,rfl⟩,hl.push _⟩,λi v s' Q' E' hP hQ=>?_,λh' tk hk=>?_⟩)
  ·have hP' : (bs.map Value.bool)[i]? = some v := by simpa using hP
   rw[zA] at hP'
   cases e:bs[i]? with
   |none=>rw[e] at hP';cases hP'
   |some b=>
    rw[e] at hP';have hQ':Q' ((bs[i]?).getD false) s':=hQ;rw[e] at hQ';cases hP';exact wE hQ'
  ·refine⟨.bl (bs.any id),H,I.kept (Qg hk),?_,q⟩;show Value.bool _=Value.bool _;rw[zt,zg,zJ6]
def Wb:fillsNumberSlot (.type "tuple") "mul" = pure false:=
 PySem.fillsNumberSlot_seq (id := "tuple.__mul__") (r:=some (.builtin "tuple.__rmul__")) F.slot_tuple_mul.lookup x6 F.slot_tuple_rmul.lookup x6
def zJ7:seqRepeat? (.type "tuple")=pure (some (.builtin "tuple.__mul__")):=by
 unfold seqRepeat?
 rw[PySem.seqSlot_of (T := "tuple") (name := "__mul__") (id := "tuple.__mul__") F.slot_tuple_mul.lookup x6,PySem.seqSlot_of (T := "tuple") (name := "__rmul__") (id := "tuple.__rmul__") F.slot_tuple_rmul.lookup x6]
 rfl
def zv6(a:Int)(t:Tok)(l:Addr)(o:Obj)(items:Array Value)(n:Nat) :
  Meets (Builtin.«int.__rmul__» ⟨[.int a t,.ref l],[]⟩) (λ_ R s=>s.heap.get? l=some o/\o.cls=.type "tuple" /\ o.data=.seq items n/\R (.ok (.ret Value.notImplemented)) s):=
 .of_wp λprog w A R s h=>by
  obtain⟨hp,g,d,tk,os⟩:=s;obtain⟨hl,hc,hd,h⟩:=h;obtain⟨c,dd,dt,sl⟩:=o
  replace hc:c=.type "tuple" := hc
  replace hd:dt=.seq items n:=hd
  subst hc hd
  wp_walk
  exact⟨_,rfl,h⟩
def zO2(l:Addr)(o:Obj)(items:Array Value)(n:Nat)(k:Int)(t:Tok)(h1:¬ (decide (k < -(2^63))||decide (k>=2^63))=true)(he:items.isEmpty=false)(hk1:(k == 1)=false)(hk0:(decide (k<=0)||items.isEmpty)=false)
    (hcap:¬ (items.size:Int)*k > (2^63-1)/8) (htoo:¬ Builtin.Tuple.tupleTooMany ((items.size:Int)*k)=true) (hz:((replicate k.toNat items).foldl (·++·) #[]).size<=sizeLine) :
    Meets (Builtin.«tuple.__mul__» ⟨[.ref l,.int k t],[]⟩) (λ_ R s=>s.heap.get? l=some o/\o.cls=.type "tuple" /\ o.data=.seq items n /\
      R (.ok (.ret (.ref s.heap.objs.size))) { s with heap:=s.heap.push { cls:=.type "tuple",data:=.seq ((replicate k.toNat items).foldl (·++·) #[]) } }):=
  .of_wp λprog w A R s h=>by
    obtain⟨hp,g,d,tk,os⟩:=s;obtain⟨hl,hc,hd,h⟩:=h;obtain⟨c,dd,dt,sl⟩:=o
    replace hc:c=.type "tuple" := hc
    replace hd:dt=.seq items n:=hd
    subst hc hd
    wp_walk
    rw[if_neg h1]
    wp_walk
    rw[hk0,if_neg zI];dsimp only;rw[if_neg hcap,if_neg htoo];unfold Builtin.Tuple.tupleExact;refine zb (wpAny_newTuple ?_);exact zd ⟨_,rfl,h⟩
def zz7(l:Addr)(o:Obj)(items:Array Value)(n:Nat)(t:Tok) :
  Meets (Builtin.«tuple.__mul__» ⟨[.ref l,.int 1 t],[]⟩) (λ_ R s=>s.heap.get? l=some o/\o.cls=.type "tuple" /\ o.data=.seq items n/\R (.ok (.ret (.ref l))) s):=
 .of_wp λprog w A R s h=>by
  obtain⟨hp,g,d,tk,os⟩:=s;obtain⟨hl,hc,hd,h⟩:=h;obtain⟨c,dd,dt,sl⟩:=o
  replace hc:c=.type "tuple" := hc
  replace hd:dt=.seq items n:=hd
  subst hc hd
  wp_walk
  exact⟨_,rfl,h⟩
def zW9(K:W.Frag):R2:=λx y H Q=>∃l k xs,x=.ref l/\y=.int k/\SqT K H l xs/\xs≠[]/\1<=k/\xs.length*k.toNat<=sizeLine /\
 (k=1->Q (.ref l) H)/\(k≠1->∀p,H p=none->Q (.ref p) (upd H p (.tup (replicate k.toNat xs).flatten)))
def zM7:OpR X (binaryOp .Mult) (zW9 X.K):=by
 intro pins s σ H x y v u Q I rx ry h;obtain⟨l,k,xs,rfl,rfl,hq,hne,h1,hz,q1,q2⟩:=h;cases rx;obtain⟨t,rfl⟩:=ry;obtain⟨its,rv,⟨o,e,hc,n,hd⟩,_⟩:=I.tuple hq;have hlen:=rv.length
 have hpos:0<its.length:=by rw[<- hlen];exact List.length_pos_iff.mpr hne
 have tyT:s.TypeIs (.ref l) "tuple" := ⟨o,e,hc⟩
 refine wpAny_binaryOp_repeat_ref (T := "tuple") (U := "int") w6 tyT (λs'=>typeIs_int s' k t) Wb F.fills_int_mul F.slot_int_rmul zJ7 F.slot_int_index.lookup
  (call_meets F.slot_int_rmul (typeIs_int s k t) F.entry_int_rmul (F.args_int_rmul_2 _ _) (zv6 k t l o its.toArray n) ⟨e,hc,hd,rfl,tyT,?_⟩)
 by_cases hk:k=1
 ·subst hk;exact call_meets F.slot_tuple_mul tyT F.entry_tuple_mul (F.args_tuple_mul_2 _ _) (zz7 l o its.toArray n t) ⟨e,hc,hd,⟨.ref l,H,I,rfl,q1 rfl⟩⟩
 ·have hk2 : (2 : Int) <= k := by lia
  have hnat:its.length*k.toNat<=sizeLine:=by rw[<- hlen];exact hz
  have hprod:((its.toArray.size:Nat):Int)*k=((its.length*k.toNat:Nat):Int):=by
   rw[zt,Int.natCast_mul,Int.toNat_of_nonneg w5]
  have hsl:(sizeLine:Int)=16777216:=w6
  have hb:((its.length*k.toNat:Nat):Int)<=16777216:=by rw[<- hsl];exact Int.ofNat_le.mpr hnat
  have hkle:k<=16777216:=by
   have:k.toNat<=its.length*k.toNat:=Nat.le_mul_of_pos_left _ hpos;lia
  have hnew:List.foldl (λx1 x2=>x1++x2) #[] (replicate k.toNat its.toArray)=(replicate k.toNat its).flatten.toArray:=by
   have:=UW its k.toNat [];rw[we] at this;exact this
  refine call_meets F.slot_tuple_mul tyT F.entry_tuple_mul (F.args_tuple_mul_2 _ _) (zO2 l o its.toArray n k t ?_ ?_ ?_ ?_ ?_ ?_ ?_) ⟨e,hc,hd,?_⟩
  ·rw[Bool.or_eq_true,wF,wF];lia
  ·cases its with
   |nil=>simp at hpos
   |cons=>rfl
  ·simpa using hk
  ·rw [Bool.or_eq_false_iff]
   refine⟨zW w5,?_⟩
   cases its with
   |nil=>simp at hpos
   |cons=>rfl
  ·rw[hprod];lia
  ·unfold Builtin.Tuple.tupleTooMany;rw[hprod,wF,hsl];lia
  ·rw[hnew,zt,zm1,Nat.mul_comm];exact hnat
  ·rw [hnew]
   refine⟨.ref _,_,I.laid (o:=.tup (replicate k.toNat xs).flatten) (t':=s.toks) (λ_ _ z=>ze _ z) (zn _) ⟨by rw[zm1,Nat.mul_comm];exact hz,_,rv.rep k.toNat,⟨_,zp _ rfl,rfl,_,rfl⟩⟩,rfl,q2 hk _ I.fresh⟩
end
section
variable (P:Program) (w:World)
end
section
variable {P:Program}{w:World}{H H':Hp}{h h':Heap}{a:Addr}{o:HO}
end
section
variable {P:Program}{w:World}{H:Hp}{h h':Heap}{x e:Addr}{o':HO}
end
section
variable {fs fs' ex ex':List Addr}{H H1 H2:Hp}{h h1 h2 h':Heap}{a x e:Addr}{o:HO}
end
section
variable {X:Cx}{pins:List (Addr × Obj)}{σ:List (Option V)}{H H':Hp}{s:Shared}{h':Heap}
end
section
variable {X:Cx}
variable {a b:Expr}{ta tb:TE}{pos:Pos}
variable {tA tB':TT}{rest:List Expr}
end
section
variable {X:Cx}{pins:List (Addr × Obj)}{σ:St}{H:Hp}{s:Shared}{a:Addr}{xs ys:List V}
end
section
variable {X:Cx}{pins:List (Addr × Obj)}{σ:St}{H:Hp}{s:Shared}{E:Value->Shared->Prop}
end
section
variable {X:Cx}{st:Stmt}{rest:List Stmt}{t u:TS}{e:Expr}{te:TE}{pos:Pos}
end
section
variable {X:Cx}{pos:Pos}
end
section
variable {X:Cx}{tg:Expr}
end
section
variable {X:Cx}{a b c:Expr}{ta tb tc:TE}{pos:Pos}
end
section
variable {prog:Program}{w:World}{A:Around}{E:Value->Shared->Prop}{s:Shared}{K:W.Frag}{x dx C f:Addr}{mA:Str->Option Value}{name:Str}{v:Value}
end
section
variable {P:Program}{w:World}{H H':Hp}{h h':Heap}{a C dx:Addr}{fs fs':List (Str × V)}
end
section
variable {X:Cx}{pins:List (Addr × Obj)}{σ:St}{H:Hp}{s:Shared}{a C dx:Addr}{fs:List (Str × V)}{f:Str}{v:V}{A:Around}{E:Value->Shared->Prop}
end
section
variable {X:Cx}{o e value:Expr}{f:Str}{pos pos' tpos:Pos}{ta tv:TE}
end
section
variable {X:Cx}{pins:List (Addr × Obj)}{σ:St}{H:Hp}{s:Shared}{A:Around}{E:Value->Shared->Prop}{Q:Value->Shared->Prop}{c:Value}{b:Bool}
end
section
variable {X:Cx}{e:Expr}{es:List Expr}{te:TE}{t:TA}{pos:Pos}
end
section
variable {X:Cx}{pins:List (Addr × Obj)}{σ:St}{H:Hp}{s s':Shared}
end
section
variable {X:Cx}{CX:CXT}{k:Nat}{f C:Addr}{fd:FuncData}{ps:List Str}{sp:Sp}{dvs:List V}{ds:List Value}{E:XK}{x m:Str}{p pos apos:Pos}{e o:Expr}{es:List Expr}{ta:TE}{t:TA}
end
section
variable {X:Cx}{CX:CXT}{k:Nat}{f C:Addr}{fd:FuncData}{ps ks:List Str}{sp:Sp}{E:XK}{x m:Str}{p pos apos kpos:Pos}{e o:Expr}{es:List Expr}{kws:List Keyword}{te ta:TE}{t tk:TA}{nm:Option Str}
variable {g:List Value->List Value->List Value}{gV:List V->List V->List V}
end
section
variable {X:Cx}{x:Str}{p pos:Pos}{e:Expr}{es:List Expr}{t:TA}{id T:String}{r:List V->Hp->VK->Prop}
end
section
variable {κ:Type} [DecidableEq κ]
def Yh(kvs:List (κ × V))(k:κ):Option V:=(kvs.find? λkv=>decide (kv.1=k)).map (·.2)
def QT(kvs:List (κ × V))(k:κ)(v:V):List (κ × V):=
 if (kvs.any λkv=>decide (kv.1=k))=true then kvs.map (λkv=>if kv.1=k then(kv.1,v) else kv) else kvs++[(k,v)]
def Wk(kvs:List (κ × V))(k:κ):List (κ × V):=kvs.filter λkv=>decide (kv.1≠k)
theorem Yx{p:κ × V}{r:List (κ × V)}{k:κ}(e:p.1=k):Yh (p::r) k=some p.2:=by simp[Yh,wu,e]
theorem Yy{p:κ × V}{r:List (κ × V)}{k:κ}(e:¬ p.1=k):Yh (p::r) k=Yh r k:=by simp[Yh,wu,e]
theorem JN(k:κ):∀kvs:List (κ × V),(kvs.any λkv=>decide (kv.1=k))=(Yh kvs k).isSome
 |[]=>rfl
 |p::r=>by
  rw[yC]
  by_cases e:p.1=k
  ·simp only[Yx e,xt e,Bool.true_or,Option.isSome_some]
  ·rw[Yy e,zW e,Bool.false_or];exact JN k r
theorem RelO.isSome_eq{o:Option V}{u:Option Value}(r:RelO o u):o.isSome=u.isSome:=by
 cases o with
 |none=>cases u with
  |none=>rfl
  |some _=>exact(show False from r).elim
 |some _=>cases u with
  |none=>exact(show False from r).elim
  |some _=>rfl
theorem KV.val{kvs:List (κ × V)}{vs:List (κ × Value)}(r:KV kvs vs)(k:κ):RelO (Yh kvs k) (valueAt vs k):=by
 unfold KV at r
 induction r with
 |nil=>exact True.intro
 | @cons p q ps qs h t ih =>
  obtain⟨h1,h2⟩:=h
  by_cases e:p.1=k
  ·have e' : q.1 = k := h1.symm.trans e
   have b:valueAt (q::qs) k=some q.2:=by simp[valueAt,wu,e']
   rw[Yx e,b];exact h2
  ·have e' : ¬ q.1 = k := λz => e (h1.trans z)
   have b:valueAt (q::qs) k=valueAt qs k:=by simp[valueAt,wu,e']
   rw[Yy e,b];exact ih
theorem KV.any{kvs:List (κ × V)}{vs:List (κ × Value)}(r:KV kvs vs)(k:κ):(kvs.any λkv=>decide (kv.1=k))=vs.any λkv=>decide (kv.1=k):=by
 unfold KV at r
 induction r with
 |nil=>rfl
 |cons h t ih=>rw[yC,yC,ih,h.1]
theorem KV.repl{kvs:List (κ × V)}{vs:List (κ × Value)}(r:KV kvs vs)(k:κ){y:V}{u:Value}(ry:RelV y u) :
  KV (kvs.map λkv=>if kv.1=k then(kv.1,y) else kv) (vs.map λkv=>if kv.1=k then(kv.1,u) else kv):=by
 unfold KV at r ⊢
 induction r with
 |nil=>exact .nil
 |@cons p q ps qs h t ih=>
  rw[zJ,zJ];refine .cons ?_ ih;obtain⟨h1,h2⟩:=h
  by_cases e:p.1=k
  ·rw[if_pos e,if_pos (h1.symm.trans e)];exact⟨h1,ry⟩
  ·rw[if_neg e,if_neg (λz=>e (h1.trans z))];exact⟨h1,h2⟩
theorem KV.put{kvs:List (κ × V)}{vs:List (κ × Value)}(r:KV kvs vs)(k:κ){y:V}{u:Value}(ry:RelV y u):KV (QT kvs k y) (stored vs k u):=by
 unfold QT stored;rw[r.any k]
 by_cases e:(vs.any λkv=>decide (kv.1=k))=true
 ·rw[if_pos e,if_pos e];exact r.repl k ry
 ·rw[if_neg e,if_neg e];exact Paired.snoc r ⟨rfl,ry⟩
theorem KV.length{kvs:List (κ × V)}{vs:List (κ × Value)}(r:KV kvs vs):kvs.length=vs.length:=Paired.length r
end
def zA8{P:Program}{w:World}{k:Key}{u:Value}(r:RelV (kV k) u):(yk P w).is k u=true:=by
 cases k with
 |inl i=>obtain⟨t,e⟩:=(show ∃t,u=Value.int i t from r);subst e;exact Jh P w i t
 |inr x=>obtain⟨t,e⟩:=(show ∃t,u=Value.str x t from r);subst e;exact Jg P w x t
theorem Xu{P:Program}{w:World}:∀{ks:List Key}{us:List Value},Vals (ks.map kV) us->ItemsAre (yk P w) ks us
 |[],_,r=>by rw[map_nil] at r;cases r;exact .nil
 |k::ks,_,r=>by
  rw[zJ] at r
  cases r with
  |cons h t=>exact .cons (zA8 h) (Xu t)
abbrev KT(H:Hp):List (List Key × V)->List (List Key × Addr × Value)->Prop:=Paired λp q=>p.1=q.1/\H q.2.1=some (.tup (p.1.map kV))/\RelV p.2 q.2.2
def KT.val{H:Hp}{kvs:List (List Key × V)}{xs:List (List Key × Addr × Value)}(r:KT H kvs xs)(k:List Key):RelO (Yh kvs k) ((atKey xs k).map (·.2)):=by
 induction r with
 |nil=>exact True.intro
 | @cons p q ps qs h t ih =>
  obtain⟨h1,_,h2⟩:=h
  by_cases e:p.1=k
  ·have e' : q.1 = k := h1.symm.trans e
   have b:atKey (q::qs) k=some q.2:=by simp[atKey,wu,e']
   rw[Yx e,b];exact h2
  ·have e' : ¬ q.1 = k := λz => e (h1.trans z)
   have b:atKey (q::qs) k=atKey qs k:=by simp[atKey,wu,e']
   rw[Yy e,b];exact ih
def KT.repl{H:Hp}{kvs:List (List Key × V)}{xs:List (List Key × Addr × Value)}(r:KT H kvs xs)(k:List Key){y:V}{u:Value}(ry:RelV y u) :
  KT H (kvs.map λkv=>if kv.1=k then(kv.1,y) else kv) (xs.map (putAt k u)):=by
 induction r with
 |nil=>exact .nil
 |@cons p q ps qs h t ih=>
  rw[zJ,zJ];refine .cons ?_ ih;obtain⟨h1,h2,h3⟩:=h;unfold putAt
  by_cases e:p.1=k
  ·rw[if_pos e,if_pos (h1.symm.trans e)];exact⟨h1,h2,ry⟩
  ·rw[if_neg e,if_neg (λz=>e (h1.trans z))];exact⟨h1,h2,h3⟩
def KT.put{H:Hp}{kvs:List (List Key × V)}{xs:List (List Key × Addr × Value)}(r:KT H kvs xs)(k:List Key){b:Addr}{y:V}{u:Value}(hb:H b=some (.tup (k.map kV)))(ry:RelV y u) :
  KT H (QT kvs k y) (storedH xs k b u):=by
 have e:(kvs.any λkv=>decide (kv.1=k))=(atKey xs k).isSome:=by
  rw[JN,(r.val k).isSome_eq,Option.isSome_map]
 unfold QT storedH;rw[e]
 by_cases q:(atKey xs k).isSome=true
 ·rw[if_pos q,if_pos q];exact r.repl k ry
 ·rw[if_neg q,if_neg q];exact Paired.snoc r ⟨rfl,hb,ry⟩
def KT.keeps{H H':Hp}{kvs:List (List Key × V)}{xs:List (List Key × Addr × Value)}(r:KT H kvs xs)(ht:∀b ys,H b=some (.tup ys)->H' b=some (.tup ys)):KT H' kvs xs:=
 Paired.mapP r λ_ _ z=>⟨z.1,ht _ _ z.2.1,z.2.2⟩
section
variable {P:Program}{w:World}{H:Hp}{h:Heap}{a:Addr}
def zV8{u:HO}(ok:HOk P w H h)(e:Rd H a u):ObjOk P w H h a u:=e.ok ok
def zC2{kvs:List (Key × V)}(ok:HOk P w H h)(e:Rd H a (.dK kvs)):kvs.length<=sizeLine/\(a == sysModules)=false/\∃vs,KV kvs vs/\h.DictOf (yk P w) a vs:=
 show ObjOk P w H h a (.dK kvs) from zV8 ok e
def US{ks:List Key}(ok:HOk P w H h)(e:H a=some (.tup (ks.map kV))):(tupleKind (yk P w)).is h ks a:=by
 obtain⟨_,its,r,o,h1,h2,n,h3⟩:=(show ObjOk P w H h a (.tup (ks.map kV)) from ok a _ e)
 exact⟨o,its.toArray,n,h1,h2,h3,by simpa using Xu r⟩
def zp3{kvs:List (List Key × V)}(ok:HOk P w H h)(e:Rd H a (.dT kvs)):kvs.length<=sizeLine/\(a == sysModules)=false /\
  ∃xs,KT H kvs xs/\h.DictOfH (tupleKind (yk P w)) a xs:=by
 obtain⟨z,y,xs,r,o,es,ep,h1,h2,h3,h4,h5⟩:=(show ObjOk P w H h a (.dT kvs) from zV8 ok e);refine⟨z,y,xs,r,o,es,ep,h1,h2,h3,h4,λx hx=>?_,h5⟩
 have all:∀{l:List (List Key × V)}{m:List (List Key × Addr × Value)},KT H l m->∀x∈m,(tupleKind (yk P w)).is h x.1 x.2.1:=by
  intro l m q
  induction q with
  |nil=>intro x hx;exact nomatch hx
  | @cons p q ps qs hq t ih =>
   intro x hx
   rcases zj.mp hx with e |hx
   ·subst e
    exact US ok (by rw[<- hq.1];exact hq.2.1)
   ·exact ih x hx
 exact all r x hx
def zb7{kvs:List (List Key × V)}(ok:HOk P w H h)(e:H a=some (.dT kvs)):kvs.length<=sizeLine/\(a == sysModules)=false /\
  ∃xs,KT H kvs xs/\h.DictOfH (tupleKind (yk P w)) a xs:=zp3 ok (.inl e)
end
def DGet(H:Hp)(a:Addr)(y:V)(r:Option V):Prop:=
 (∃kvs k,Rd H a (.dK kvs)/\y=kV k/\r=Yh kvs k)\/∃kvs k b,Rd H a (.dT kvs)/\y=.ref b/\H b=some (.tup (k.map kV))/\r=Yh kvs k
def DGet.k{H:Hp}{a:Addr}{kvs:List (Key × V)}{k:Key}(e:H a=some (.dK kvs)):DGet H a (kV k) (Yh kvs k):=.inl ⟨kvs,k,.inl e,rfl,rfl⟩
section
variable {X:Cx}{pins:List (Addr × Obj)}{σ:St}{H:Hp}{s:Shared}{a:Addr}{y v:V}{u r:Value}{o:Option V}{A:Around}{E:Value->Shared->Prop}
def Inv.big(I:Inv X pins σ H s):sysModules<s.heap.objs.size:=by
 have h:mainGlobals<s.heap.objs.size:=(I.mod.glob.keeps I.bk).lt
 exact Nat.lt_trans w6 h
def zp7{Q:Value->Shared->Prop}(hu:A.units+1<cLine)(I:Inv X pins σ H s)(g:DGet H a y (some v))(ry:RelV y u)(h:∀w' s',Inv X pins σ H s'->RelV v w'->Q w' s') :
  wpAny (model X.prog X.w) A (getItem (.ref a) u) Q E s:=by
 rcases g with ⟨kvs,k,e,ey,l⟩ |⟨kvs,k,b,e,ey,eb,l⟩
 ·subst ey;obtain⟨z,hd,vs,rel,dd⟩:=zC2 I.hok e
  obtain⟨w',hw,rw'⟩:=RelO.some_of (v:=v) (o:=valueAt vs k) (by rw[l];exact rel.val k)
  exact wpAny_getItem_of (zA8 ry) dd.mapOf hw (h w' _ (I.tok _) rw')
 ·subst ey;cases(show u=Value.ref b from ry);obtain⟨z,hd,xs,rel,dd⟩:=zp3 I.hok e
  obtain⟨w',hw,rw'⟩:=RelO.some_of (v:=v) (o:=(atKey xs k).map (·.2)) (by rw[l];exact rel.val k)
  obtain⟨p,hp,hp2⟩:=Option.map_eq_some_iff.mp hw;refine wpAny_getItem_heap (tupleKind_room_in1 hu) (US I.hok eb) dd hp ?_;rw[hp2];exact h w' _ (I.tok _) rw'
def zR2{Q:Value->Shared->Prop}(hu:A.units+1<cLine)(I:Inv X pins σ H s)(g:DGet H a y o)(ry:RelV y u)(h:∀s',Inv X pins σ H s'->Q (.bool (!o.isSome)) s') :
  wpAny (model X.prog X.w) A (compareOp .NotIn u (.ref a)) Q E s:=by
 rcases g with ⟨kvs,k,e,ey,l⟩ |⟨kvs,k,b,e,ey,eb,l⟩
 ·subst ey;obtain⟨z,hd,vs,rel,dd⟩:=zC2 I.hok e;refine wpAny_notIn_of (zA8 ry) hd dd.mapOf ?_;rw[<- (rel.val k).isSome_eq,<- l];exact h _ (I.tok _)
 ·subst ey;cases(show u=Value.ref b from ry);obtain⟨z,hd,xs,rel,dd⟩:=zp3 I.hok e;refine wpAny_notIn_heap (tupleKind_room_in1 hu) (US I.hok eb) hd dd ?_;have q:=(rel.val k).isSome_eq;rw[Option.isSome_map] at q;rw[<- q,<- l];exact h _ (I.tok _)
def zp6{h':Heap}{t':Nat}{ob:HO}(I:Inv X pins σ H s)(mu:Mut (H a))(hs:Heap.SameBut a s.heap h')(he:∃q,h'.get? a=some q)(new:ObjOk X.prog X.w (upd H a ob) h' a ob) :
  Inv X pins σ (upd H a ob) { s with heap:=h',toks:=t' }:=
 I.write (x:=a) (e:=a) mu (.inl rfl) (λb q hb z=>(hs.2 b hb).trans z) he new
end
section
variable {X:Cx}{pins:List (Addr × Obj)}{σ:St}{H:Hp}{s:Shared}{a:Addr}{kvs:List (Key × V)}{k:Key}{u:Value}{A:Around}{E:Value->Shared->Prop}
end
def xg6(i:Expr):Prop:=∀ov iv,subscripted i false ov iv=operate [ov,iv] (getItem ov iv)
def ze8{prog:Program}{w:World}{A:Around}{E:Value->Shared->Prop}{s:Shared}{env:Env}{value slice:Expr}{pos:Pos}{T id:String}{Q:Value->Shared->Prop}
  (hl:typeLookup (.type T) "__getitem__" = pure (some (.builtin id))) (hs:xg6 slice)
  (h:wpAny (model prog w) A (eval value env) (λo s₁=>wpAny (model prog w) A (eval slice env) (λi s₂=>s₂.TypeIs o T/\wpAny (model prog w) A (getItem o i) Q E s₂) E s₁) E s) :
  wpAny (model prog w) A (eval (.Subscript value slice pos) env) Q E s:=by
 refine Subscript_ (wx h (λo s₁ h₁=>wx h₁ (λi s₂ h₂=>?_) λ_ _ x=>x) λ_ _ x=>x);obtain⟨hT,h₂⟩:=h₂;unfold subscriptTail;refine zb ?_;rw[getitemInPython_of_ne hT.not_modules];refine zb (wpAny_specialOf hT hl ?_)
 have fin:wpAny (model prog w) A (subscripted slice false o i) (λr s₃=>wpAny (model prog w) A (letTemporaryGo value o r >>= λ_=>pure r) Q E s₃) E s₂:=by
  rw[hs o i];exact wpAny_operating (wx h₂ (λr s₃ h₃=>zb (wpAny_letTemporaryGo (zd h₃))) λ_ _ x=>x)
 first
  |exact zd (zb fin)
  |exact zb (zd (zb fin))
  |exact zb fin
def Jq{X:Cx}{pins:List (Addr × Obj)}{σ:St}{H:Hp}{s:Shared}{a:Addr}{y:V}{o:Option V}(I:Inv X pins σ H s)(g:DGet H a y o):s.TypeIs (.ref a) "dict" := by
 rcases g with ⟨kvs,k,e,_,_⟩ |⟨kvs,k,b,e,_,_,_⟩
 ·obtain⟨_,_,vs,_,dd⟩:=zC2 I.hok e;exact dd.typeIs
 ·obtain⟨_,_,xs,_,dd⟩:=zp3 I.hok e;exact dd.typeIs
def xm6(td ty:TE):TE:=λσ H Q=>td σ H λx H1=>ty σ H1 λy H2=>∃a v,x=.ref a/\DGet H2 a y (some v)/\Q v H2
section
variable {X:Cx}{o i e value:Expr}{pos pos' tpos:Pos}{td ty tv:TE}
def zL8(hu:X.A.units+1<cLine)(ho:PE X o td)(hi:PE X i ty)(hs:xg6 i):PE X (.Subscript o i pos) (xm6 td ty):=by
 intro pins s σ H Q I h;refine ze8 PySem.F.slot_dict_getitem.lookup hs (thn (ho pins s σ H _ I h) λu s1 ⟨x,H1,I1,rx,q1⟩=>thn (hi pins s1 σ H1 _ I1 q1) λiv s2 ⟨y,H2,I2,ry,a,v,ex,g,q2⟩=>?_);subst ex;obtain rfl:u=Value.ref a:=rx;exact⟨Jq I2 g,zp7 hu I2 g ry λw' s3 I3 rw'=>⟨v,H2,I3,rw',q2⟩⟩
end
def VJ{P:Program}{w:World}{H:Hp}(h:Heap)(hb:sysModules<h.objs.size):ObjOk P w H (h.push { cls:=.type "dict",data:=.dict #[] }) h.objs.size (.dK []):=
 ⟨xJ _,beq_eq_false_iff_ne.mpr (Ne.symm (zw hb)),[],.nil,Heap.DictOf.new h⟩
section
variable {X:Cx}{pos:Pos}
end
structure M1(X:Cx)(o:Expr)(m:Str)(apos:Pos)(e:Expr)(cpos:Pos):Prop where
 base:attributeBase o m X.env (eval o X.env)=eval o X.env
 few:((backTo cpos (starEach [e] X.env)).all (λx=>!x.1)&&(backToKw cpos (keywordEach [] X.env)).all (λx=>x.1.isSome)
  && decide (([e]:List Expr).length+([]:List Keyword).length+(if ([]:List Keyword).isEmpty then 0 else 1)<30))=true
 line:(apos.endLine == cpos.line)=true
 trees:backTo cpos (starEach [e] X.env)=[(false,eval e X.env)]
def IsD(H:Hp)(a:Addr):Prop:=(∃kvs,Rd H a (.dK kvs))\/∃kvs,Rd H a (.dT kvs)
def zn4{X:Cx}{pins:List (Addr × Obj)}{σ:St}{H:Hp}{s:Shared}{a:Addr}(I:Inv X pins σ H s)(d:IsD H a) :
  s.TypeIs (.ref a) "dict" /\ (∀b,Value.ref a=.ref b->∃ob,s.heap.get? b=some ob/\ob.dict=none)/\(a == sysModules)=false:=by
 rcases d with ⟨kvs,e⟩ |⟨kvs,e⟩
 ·obtain⟨_,hd,vs,_,dd⟩:=zC2 I.hok e;refine⟨dd.typeIs,λb q=>?_,hd⟩;cases q;obtain⟨ob,_,_,h1,h2,_⟩:=dd;exact⟨ob,h1,h2.2.1⟩
 ·obtain⟨_,hd,xs,_,dd⟩:=zp3 I.hok e;refine⟨dd.typeIs,λb q=>?_,hd⟩;cases q;obtain⟨ob,_,_,h1,h2,_⟩:=dd;exact⟨ob,h1,h2.2.1⟩
section
variable {X:Cx}{pins:List (Addr × Obj)}{σ:St}{H:Hp}{s:Shared}{a:Addr}{y d:V}{u r:Value}{o:Option V}{A:Around}{E:Value->Shared->Prop}
end
section
variable {X:Cx}{o e f:Expr}{apos cpos:Pos}{td ty tx:TE}
end
section
variable {X:Cx}{pins:List (Addr × Obj)}{σ:St}{H:Hp}{s:Shared}{a:Addr}{kvs:List (Key × V)}{A:Around}{E:Value->Shared->Prop}
end
section
variable {X:Cx}{pins:List (Addr × Obj)}{σ:St}{H:Hp}{s:Shared}{a:Addr}{y:V}{u:Value}{A:Around}{E:Value->Shared->Prop}
end
end L2
namespace Att
open PySem PySem.W PySem.Calls PyProof.Rows
section
variable {prog:Program}{w:World}{A:Around}{E:Value->Shared->Prop}{s:Shared}{K:Frag}
end
end Att
namespace L2
section
variable {P:Program}{w:World}{K:W.Frag}{mg:Str->Option Value}{base:Heap}
end
section
variable {X:Cx}
end
section
variable {κ:Type} [DecidableEq κ]
end
section
variable {prog:Program}{w:World}{A:Around}{R:Result->Shared->Prop}{s:Shared}
def WH{kx vx target iter:Expr}{ifs:List Expr}{scope:Scope}{pos:Pos}{it:Value}{D:Addr}{env:Env}(J:Nat->Shared->Prop)
  (turn : ∀ n s, J n s -> wpAny (model prog w) A (pyNext it) (λr s1 => match r with
   |none=>R (.ok .next) s1
   | some v => wpAny (model prog w) A (letOwnedTupleGo target it v) (λ_ s2 => wpAny (model prog w) A (assign target env v) (λ_ s3 => wpAny (model prog w) A (zr4 ifs env) (λok s4 =>
     if ok=true then wpAny (model prog w) A (eval kx env) (λkv s5=>wpAny (model prog w) A (eval vx env) (λvv s6=>wpAny (model prog w) A (dictSet D kv vv) (λ_ s7=>∃m,m<n/\J m s7) (λ_ _=>False) s6) (λ_ _=>False) s5) (λ_ _=>False) s4
     else ∃m,m<n/\J m s4) (λ_ _=>False) s3) (λ_ _=>False) s2) (λ_ _=>False) s1) (λ_ _=>False) s)
  (n:Nat) (h:J n s):codeAny (model prog w) A (.compLoop (.DictComp kx vx [⟨target,iter,ifs,0⟩] scope pos) 0 it (.ref D) env) R s:=by
 refine codeAny_loop rfl J (λn s hJ=>?_) n h
 show wpAny _ A ((compTurn (.DictComp kx vx [⟨target,iter,ifs,0⟩] scope pos) 0 it (.ref D) env).onRaise (λx=>do noteFrame x env;theTreesLotGoes x)) _ _ s
 refine wpAny_noted ?_;rw[compTurn_dict]
 have up:∀{α:Type}{t:Sem α}{Q Q':α->Shared->Prop}{E:Value->Shared->Prop}{s:Shared},wpAny (model prog w) A t Q (λ_ _=>False) s->(∀a s,Q a s->Q' a s)->wpAny (model prog w) A t Q' E s:=
  λh f=>wx h f λ_ _ z=>False.elim z
 refine zb (va (zb (up (turn n s hJ) λr s1 h1=>?_)))
 cases r with
 |none=>exact zd h1
 |some v=>
  refine zb (up h1 λ_ s2 h2=>?_);refine zb (up h2 λ_ s3 h3=>?_);refine zb (up h3 λok s4 h4=>?_)
  cases ok with
  |false=>exact zd ⟨rfl,h4⟩
  |true=>exact zb (zb (up h4 λkv s5 h5=>zb (xx (up h5 λvv s6 h6=>zb (va (xx (up h6 λ_ s7 h7=>zd ⟨rfl,h7⟩)))))))
end
section
variable {X:Cx}{scope:Scope}{own M:List Str}{pins:List (Addr × Obj)}{σ:St}{H2:Hp}{s2:Shared}{fp:List Addr}
def UU{o0:Obj}(ok:CompOk X scope M)(hc:X.calm=true)(I:Inv X pins σ H2 s2)(hf:∀b∈fp,FpOk X pins H2 b/\b<s2.heap.objs.size){C:Addr}(hC:C=s2.heap.objs.size+1){h4:Heap}
  (hh:h4=pushCells ((s2.heap.push o0).push { cls:=.type "dict",data:=.dict #[] }) scope.names) :
  Inv (wJ X scope own M C s2 H2 fp) [] (replicate own.length none++σ) H2 { s2 with heap:=h4 }:=by
 have zC:(s2.heap.push o0).objs.size=C:=by rw[xW,hC]
 have zC1:((s2.heap.push o0).push { cls:=.type "dict",data:=.dict #[] }).objs.size=C+1:=by rw[xW,zC]
 have keep:∀b o,s2.heap.get? b=some o->h4.get? b=some o:=λb o e=>by
  rw[hh];exact pushCells_keeps _ _ _ _ (ze _ (ze _ e))
 have cellOld:∀x c,X.env.cells.lookup x=some c->c<s2.heap.objs.size:=λx c e=>by obtain⟨v,q⟩:=I.cell x c e;exact q.lt
 have cellB:∀x c,(kf X scope C).lookup x=some c->(h4.IsCell c none/\C+1<=c/\scope.names.lookup x=some .cell)\/X.env.cells.lookup x=some c:=λx c e=>by
  by_cases hx:scope.names.lookup x=some .cell
  ·have e' := e;unfold kf at e';rw[<- zC1] at e'
   rcases Qy _ _ _ x c e' with ⟨a,b,d⟩ |q
   ·exact .inl ⟨by rw[hh];exact a,by rw[zC1] at b;exact b,hx⟩
   ·exact .inr (vC scope.names [] (ok.cells I) (λ_ _ z=>by simp at z) x c q)
  ·exact .inr (ok.cellsFrom_old I e hx)
 have hNs:∃m,h4.Ns C m:=by
  have q:((s2.heap.push o0).push { cls:=.type "dict",data:=.dict #[] }).Ns C (λ_=>none):=by
   have:=Heap.Ns.new (s2.heap.push o0) (.type "dict");rw[zC] at this;exact this
  exact⟨_,q.keeps λb o e=>by rw[hh];exact pushCells_keeps _ _ _ _ e⟩
 have nfs:∀b∈fp,b ∉ frs X.stack:=λb hb hx=>by
  obtain⟨⟨_,f1,f2,_⟩,_⟩:=hf b hb
  rcases zj.mp (I.stkSub b hx) with e |e
  ·exact f1 e
  ·exact f2 e
 obtain⟨mC,hmC⟩:=hNs
 refine⟨⟨I.ok.mod,ok.kind,I.ok.glob,I.ok.blt,?_,?_,?_,?_,I.ok.hd,I.ok.frames,.inl rfl,?_,I.bs,?_,?_,nfs,I.stack,I.stkFree⟩,rfl,I.bare,Un.kept keep,⟨mC,hmC,?_⟩,?_,I.hok.fresh (by show s2.heap.objs.size<=C;rw[hC];exact xq _),?_,λp hp=>absurd (show p∈([]:List (Addr × Obj)) from hp) (by simp),I.hok.kept keep,?_⟩
 ·show s2.heap.objs.size<=C;rw[hC];exact xq _
 ·intro x y c h1 h2;refine Qw scope.names (C+1) (kY X.env scope.names []) (λa b d p q=>?_) (λa d p=>?_) x y c h1 h2
  ·exact I.ok.inj a b d (vC scope.names [] (ok.cells I) (λ_ _ z=>by simp at z) a d p) (vC scope.names [] (ok.cells I) (λ_ _ z=>by simp at z) b d q)
  ·have := cellOld a d (vC scope.names [] (ok.cells I) (λ_ _ z => by simp at z) a d p)
   rw[hC];exact xT (xT this)
 ·intro x hx
  have go:∀k,(k=NameKind.cell\/k=NameKind.free)->(compEnvC scope (kf X scope C) C X.env).kindOf x=some k->∃c,(kf X scope C).lookup x=some c:=λk hk e=>by
   rcases ok.kindIn e with e |⟨_,e⟩
   ·rcases hk with rfl | rfl
    ·exact Qx _ _ _ (PySem.mem_of_lookup e)
    ·exact qL _ _ _ (kq (y:=(x,.free)) rfl _ _ (PySem.mem_of_lookup e))
   ·exact qL _ _ _ (kq (y:=(x,.free)) rfl _ _ (PySem.mem_of_lookup e))
  rcases hx with e |e
  ·exact go _ (.inl rfl) e
  ·exact go _ (.inr rfl) e
 ·intro x c hx h
  have hx':scope.names.lookup x=some .cell:=by simpa [wJ] using hx
  have:=zD2 (x:=x) scope.names (C+1) (kY X.env scope.names []) (C+1) (zn _) (.inl (PySem.mem_of_lookup hx')) c h;show s2.heap.objs.size<=c
  exact zy (by rw[hC];exact zy (xq _) (xq _)) this
 ·intro b hb;obtain⟨⟨_,_,_,_,f4,_⟩,f6⟩:=hf b hb;refine⟨?_,λx c h=>?_⟩
  ·show b≠C;rw[hC];exact zw (xT f6)
  ·rcases cellB x c h with ⟨_, q, _⟩ | q
   ·rw[hC] at q;exact xN (zL f6 (zy (zy (xq _) (xq _)) q))
   ·exact f4 x c q
 ·exact zy I.ok.bsz I.sz
 ·intro b o e hb;obtain⟨⟨_,_,_,f3,_⟩,_⟩:=hf b hb
  rcases f3 with z |z
  ·exact I.ok.noex b o e z
  ·exact absurd (zL (zo (I.ok.bs b o e).1) z) (xl _)
 ·intro i x v h1 h2 h3;have h2':(replicate own.length (none:Option V)++σ)[i]?=some (some v):=h2
  have hi:own.length<=i:=by
   apply wZ;intro hlt
   rw[xv (by simpa using hlt),xg] at h2'
   rw[if_pos hlt] at h2';cases h2'
  rw[xi (by simpa using hi),xu] at h2'
  have h1':(own++M)[i]?=some x:=h1;rw[xi hi] at h1';obtain⟨n1,n2⟩:=ok.shadow x (zN h1')
  have hfree:scope.names.lookup x=some .free/\((compEnvC scope (kf X scope C) C X.env).kindOf x=some .cell\/(compEnvC scope (kf X scope C) C X.env).kindOf x=some .free):=by
   rcases h3 with e |e |e
   ·rcases ok.kindIn (x := x) (C := C) e with q | ⟨q, _⟩
    ·exact absurd q n1
    ·cases q
   ·rcases ok.kindIn (x := x) (C := C) e with q | ⟨_, q⟩
    ·exact absurd q n2
    ·exact⟨q,.inl e⟩
   ·rcases ok.kindIn (x := x) (C := C) e with q | ⟨q, _⟩
    ·exact⟨q,.inr e⟩
    ·cases q
  obtain⟨hfr,hk⟩:=hfree;obtain⟨m,hn,hl⟩:=I.loc;have hkX:=ok.frees (x,.free) (PySem.mem_of_lookup hfr) rfl;have h1':=ok.same _ _ h1' hfr;obtain⟨u,ru,lk⟩:=hl (i-own.length) x v h1' h2' (hkX.elim (λz=>.inr (.inl z)) λz=>.inr (.inr z));refine⟨u,ru,.inr ⟨hk,?_⟩⟩
  rcases lk with ⟨k,_⟩ |⟨_,c,ec,ic⟩
  ·rcases hkX with z |z<;>(rw[k] at z;cases z)
  ·obtain ⟨c', e'⟩ : ∃ c', (kf X scope C).lookup x = some c' := qL _ _ _ (kq (y := (x, .free)) rfl _ _ (PySem.mem_of_lookup hfr));refine⟨c',e',?_⟩
   have:=ok.cellsFrom_old I e' (by rw[hfr];simp)
   have e2:some c=some c':=ec.symm.trans this;cases e2;exact ic.keeps keep
 ·intro x c h
  rcases cellB x c h with ⟨q,_⟩ |q
  ·exact⟨_,q⟩
  ·obtain⟨v,z⟩:=I.cell x c q;exact⟨v,z.keeps keep⟩
 ·intro x c h
  rcases cellB x c h with ⟨q,q2,_⟩ |q
  ·exact I.hok.fresh (by rw[hC] at q2;exact zy (zy (xq _) (xq _)) q2)
  ·exact I.freeC x c q
 ·show(List.replicate own.length (none:Option V)++σ).length=(own++M).length;rw[zB,zB,xu,I.len,ok.mlen]
end
section
variable {X:Cx}{scope:Scope}{own M:List Str}{pins:List (Addr × Obj)}{σ:St}{H2:Hp}{s2:Shared}{tg iter kx vx:Expr}{ifs:List Expr}{pos:Pos}{g:TG}{tt:TT}{tk tv:TE}
def zb9(ok:CompOk X scope M)(hc:X.calm=true)(hg:∀C s2 H2 fp,PG (wJ X scope own M C s2 H2 fp) tg g)(ht:∀C s2 H2 fp,PTs (wJ X scope own M C s2 H2 fp) ifs tt)(hek:∀C s2 H2 fp,PE (wJ X scope own M C s2 H2 fp) kx tk)(he:∀C s2 H2 fp,PE (wJ X scope own M C s2 H2 fp) vx tv)
  (I2:Inv X pins σ H2 s2) {it:Addr}{fp:List Addr}{tn:Nat->Heap->Prop}{J:It} (T:Turn X.prog X.w X.K tg J fp it tn) (st2:tn 0 s2.heap) (f2:∀b∈fp,FpOk X pins H2 b)
  {W:Nat->Nat->List (Key × V)->Hp->Prop} (w0:∃m,W 0 m [] H2) {Qf:V->Hp->Prop}
  (turn : ∀ i m acc H, W i m acc H -> (J.stop i H /\ acc.length <= sizeLine /\ ∀ D, H D = none -> Qf (.ref D) (upd H D (.dK acc))) \/
   (J.go i H /\ acc.length < sizeLine /\ ∀ x H', J.yld i H x H' -> g x (List.replicate own.length none ++ σ) H' λσ2 H2 => σ2.drop own.length = σ /\ tt σ2 H2 λc H3 =>
    if c=true then tk σ2 H3 λy H4=>tv σ2 H4 λv H5=>∃k m',y=kV k/\m'<m/\W (i+1) m' (QT acc k v) H5 else ∃m',m'<m/\W (i+1) m' acc H3))
  {RR:Value->Addr->Result->Shared->Prop}{E:Value->Shared->Prop}
  (fin:∀D C H' s' m,Inv X pins σ H' s'->Qf (.ref D) H'->s'.heap.Ns C m->H' C=none->C≠X.env.locals->X.s₀.heap.objs.size<=C->(∀x c,X.env.cells.lookup x=some c->c≠C)->(∀p∈X.pn++pins,p.1≠C)->RR (.ref D) C (.ok .next) s') :
  wpAny (model X.prog X.w) X.A newDict (λacc s3=>wpAny (model X.prog X.w) X.A (newFunctionEnv scope X.env.globals (kY X.env scope.names []) [] X.env.qual none .none (some X.env)) (λcenv s4=>
   codeAny (model X.prog X.w) X.A (.compStart (.DictComp kx vx [⟨tg,iter,ifs,0⟩] scope pos) 0 (.ref it) acc { cenv with scope:=relabel scope X.env }) (RR acc cenv.locals) s4) E s3) E s2:=by
 refine xp (Zf ?_);have zC:(s2.heap.push { cls:=.type "dict",dict:=none,data:=.dict #[] }).objs.size=s2.heap.objs.size+1:=xW ..;dsimp only;rw[zC];generalize hC:s2.heap.objs.size+1=C;generalize hh:pushCells ((s2.heap.push { cls:=.type "dict",dict:=none,data:=.dict #[] }).push { cls:=.type "dict",data:=.dict #[] }) scope.names=h4
 have fpl:∀b∈fp,FpOk X pins H2 b/\b<s2.heap.objs.size:=λb hb=>by
  obtain⟨o,e,_⟩:=T.obj 0 _ st2 b hb;exact⟨f2 b hb,zo e⟩
 have I4:Inv (wJ X scope own M C s2 H2 fp) [] (replicate own.length none++σ) H2 { s2 with heap:=h4 }:=UU (o0:={ cls:=.type "dict",dict:=none,data:=.dict #[] }) ok hc I2 fpl hC.symm hh.symm;generalize hX:wJ X scope own M C s2 H2 fp=X' at I4
 have keep4:∀b o,s2.heap.get? b=some o->h4.get? b=some o:=λb o e=>by
  rw[<- hh];exact pushCells_keeps _ _ _ _ (ze _ (ze _ e))
 have hD4:h4.get? s2.heap.objs.size=some { cls:=.type "dict",dict:=none,data:=.dict #[] }:=by
  rw[<- hh];exact pushCells_keeps _ _ _ _ (ze _ (zp _ rfl))
 have isD0:(({ cls:=.type "dict",dict:=none,data:=.dict #[] }:Obj)).IsDictOf (yk X.prog X.w) []:=by
  obtain⟨_,_,vs,r,o,es,ep,e,q⟩:=VJ (P:=X.prog) (w:=X.w) (H:=H2) s2.heap I2.big;cases r
  rw[zp _ (by rfl)] at e
  cases e;exact⟨es,ep,q⟩
 have dsys:(s2.heap.objs.size == sysModules)=false:=(VJ (P:=X.prog) (w:=X.w) (H:=H2) s2.heap I2.big).2.1;have st4:tn 0 h4:=T.keep _ _ _ st2 λb hb o e=>keep4 b o e
 have gg:PG X' tg g:=by rw[<- hX];exact hg C s2 H2 fp
 have gt:PTs X' ifs tt:=by rw[<- hX];exact ht C s2 H2 fp
 have gk:PE X' kx tk:=by rw[<- hX];exact hek C s2 H2 fp
 have ge:PE X' vx tv:=by rw[<- hX];exact he C s2 H2 fp
 have xP:X'.prog=X.prog:=by rw[<- hX];rfl
 have xw:X'.w=X.w:=by rw[<- hX];rfl
 have xK:X'.K=X.K:=by rw[<- hX];rfl
 have xA:X'.A=X.A:=by rw[<- hX];rfl
 have xc:X'.calm=true:=by rw[<- hX];exact hc
 have xpn:X'.pn=[]:=by rw[<- hX];rfl
 have xs:X'.s₀=s2:=by rw[<- hX];rfl
 have xH:X'.H₀=H2:=by rw[<- hX];rfl
 have xL:X'.env.locals=C:=by rw[<- hX];rfl
 have xfs:X'.fs=frs X.stack:=by rw[<- hX];rfl
 have xex:X'.ex=fp:=by rw[<- hX];rfl
 have xe:X'.xe=λ_ _=>False:=by rw[<- hX];rfl
 have xenv:({ newEnv scope C X.env.globals (cellsFrom (C+1) scope.names (kY X.env scope.names [])) X.env.qual none .none (some X.env) builtinsNs with scope:=relabel scope X.env }:Env)=X'.env:=by rw[<- hX];rfl
 have Dlt:s2.heap.objs.size<C:=by rw[<- hC];exact Nat.lt_succ_self _
 have fpb:∀{pl:List (Addr × Obj)}{H:Hp},(∀b∈fp,H b=none)->(∀p∈pl,p.1 ∉ fp)->∀b∈fp,FpOk X' pl H b:=λ{pl H} hn hpl b hb=>by
  refine⟨hn b hb,?_,?_,.inl (by rw[xex];exact hb),λx c e=>(I4.ok.exf b (by rw[xex];exact hb)).2 x c e,λp hp z=>?_⟩
  ·exact(I4.ok.exf b (by rw[xex];exact hb)).1
  ·exact I4.ok.exfs b (by rw[xex];exact hb)
  ·rw [xpn, we] at hp
   exact hpl p hp (by rw[z];exact hb)
 have Dfp:s2.heap.objs.size ∉ fp:=λz=>xl _ (fpl _ z).2;have DC:s2.heap.objs.size≠C:=zw Dlt
 have Dcell:∀x c,X'.env.cells.lookup x=some c->c≠s2.heap.objs.size:=λx c e z=>by
  obtain⟨v,o,q,hd⟩:=I4.cell x c e;rw[z] at q;have q':h4.get? s2.heap.objs.size=some o:=q;rw[hD4] at q';cases q';cases hd
 have Dfs:s2.heap.objs.size ∉ X'.fs:=λz=>by
  obtain⟨_,o,ho,_⟩:=I4.ok.funs.mem (by exact z)
  rw[xs] at ho;exact xl _ (zo ho)
 rw[xenv]
 have goal:∀s5:Shared,s5={ s2 with heap:=h4 }->codeAny (model X.prog X.w) X.A (.compLoop (.DictComp kx vx [⟨tg,iter,ifs,0⟩] scope pos) 0 (.ref it) (.ref s2.heap.objs.size) X'.env) (RR (.ref s2.heap.objs.size) C) s5:=by
  rintro s5 rfl;obtain⟨m0,w0⟩:=w0
  refine WH (λn s'=>∃i acc σ' H' ob vs,Inv X' [] σ' H' s'/\σ'.drop own.length=σ/\tn i s'.heap/\(∀b∈fp,H' b=none)/\H' s2.heap.objs.size=none /\
   s'.heap.get? s2.heap.objs.size=some ob/\ob.IsDictOf (yk X.prog X.w) vs/\KV acc vs/\W i n acc H') ?_ m0
   ⟨0,[],_,H2,_,[],I4,by simp,st4,λb hb=>(f2 b hb).1,I2.hok.fresh (zn _),hD4,isD0,.nil,w0⟩
  rintro n s3 ⟨i,acc,σ3,H3,ob,vs,I3,hσ,st3,fr3,hD,hDo,isD,rv,w3⟩
  have noc:∀v,ob.data≠.cell v:=λv z=>by
   obtain⟨es,ep,_,e,_⟩:=isD;rw[e] at z;cases z
  have pinD:∀{H:Hp}{s:Shared}{σ:St},Inv X' [] σ H s->H s2.heap.objs.size=none->s.heap.get? s2.heap.objs.size=some ob ->
    Inv X' [(s2.heap.objs.size,ob)] σ H s:=λ{H s σ} I hn ho=>I.pins_of λp hp=>by
   have e:p=(s2.heap.objs.size,ob):=by simpa using hp
   subst e
   exact⟨ho,hn,by rw[xL];exact DC,Dfs,noc⟩
  have plD:∀p∈[((s2.heap.objs.size,ob):Addr × Obj)],p.1 ∉ fp:=λp hp=>by
   have e:p=(s2.heap.objs.size,ob):=by simpa using hp
   subst e;exact Dfp
  have I3':=pinD I3 hD hDo
  rcases turn i n acc H3 w3 with ⟨stop,hsz,q⟩ |⟨go,hsz,step⟩
  ·have := T.done X' xP xw xK xc i _ s3 σ3 H3 (λ_ _ => False) I3' (fpb fr3 plD) st3 stop;rw[xA] at this;refine thn this λr s4 ⟨hr,I5⟩=>?_;subst hr
   have hDo5:=(I5.pin (s2.heap.objs.size,ob) (by rw[xpn];simp)).1
   have un:Un (frs X.stack) fp H2 H3 s2.heap s4.heap:=by
    have:=I5.base;rw[xfs,xex,xH,xs] at this;exact this
   have os:s4.os=s2.os:=by rw[I5.os,xs]
   have hok:HOk X.prog X.w H3 s4.heap:=by have:=I5.hok;rw[xP,xw] at this;exact this
   have IX:Inv X pins σ H3 s4:=I2.call' os un hok I5.bare λb hb=>by
    obtain⟨_,f1,_,f3,f4,f5⟩:=f2 b hb;exact⟨f3,f1,f4,f5⟩
   have old:∀{b:Addr},s2.heap.objs.size<=b->(X.s₀.heap.objs.size<=b/\b≠X.env.locals/\(∀x c,X.env.cells.lookup x=some c->c≠b)/\∀p∈X.pn++pins,p.1≠b):=λ{b} hb=>by
    obtain⟨_,f1,_,f3,f4,f5⟩:=I2.fpOk (H':=λ_=>none) hb rfl;exact⟨zy I2.sz hb,f1,f4,f5⟩
   obtain⟨d1,d2,d3,d4⟩:=old (zn s2.heap.objs.size);obtain⟨c1,c2,c3,c4⟩:=old (b:=C) (yt Dlt)
   have IY:Inv X pins σ (upd H3 s2.heap.objs.size (.dK acc)) s4:=IX.track hD d1 d2 d3 d4 ⟨hsz,dsys,vs,rv,(let ⟨es,ep,r⟩:=isD;⟨ob,es,ep,hDo5,r⟩)⟩
   obtain⟨m,hm,_⟩:=I5.loc;rw[xL] at hm
   have hCn:H3 C=none:=by have:=I5.free;rw[xL] at this;exact this
   exact fin _ C _ s4 m IY (q _ hD) hm (by rw[xX (Ne.symm DC)];exact hCn) c2 c1 c3 c4
  ·have := T.item X' xP xw xK xc i _ s3 σ3 H3 (λ_ _ => False) I3' (fpb fr3 plD) st3 go;rw[xA] at this;refine thn this λr s4 ⟨u,hr,h4⟩=>?_;subst hr;refine thn h4 λ_ s5 ⟨x,H5,I5,r5,y5,st5,fr5⟩=>?_
   have hσn:∀(j:Nat) v,(replicate own.length none++σ)[j]?=some (some v)->σ3[j]?=some (some v):=λj v e=>by
    by_cases hlt:j<own.length
    ·rw [xv (by simpa using hlt), xg, if_pos hlt] at e
     cases e
    ·have hle := wZ hlt
     rw[xi (by simpa using hle),xu,<- hσ,yf] at e
     rw[show own.length+(j-own.length)=j by lia] at e
     exact e
   have hlen:(replicate own.length none++σ).length=σ3.length:=by
    have e1:σ3.length=X'.N.length:=I5.len;have e2:=I4.len;exact e2.trans e1.symm
   have I5w:Inv X' _ (replicate own.length none++σ) H5 s5:=I5.weak hlen hσn;have I5p:=I5w.pinned (fpb fr5 plD) (T.obj _ _ st5);have a1:=gg _ s5 _ H5 x u _ I5p r5 (step x H5 y5);rw[xP,xw,xA,xe] at a1;refine thn a1 λ_ s6 ⟨σ6,H6,I6,d6,q6⟩=>?_;have a2:=gt _ s6 σ6 H6 _ I6 q6;rw[xP,xw,xA,xe] at a2;refine thn a2 λb s7 ⟨H7,I7,q7⟩=>?_
   have pin7:∀{H:Hp}{s:Shared},Inv X' ([((s2.heap.objs.size,ob):Addr × Obj)]++YZ fp s5.heap) σ6 H s ->
     (tn (i+1) s.heap/\(∀b∈fp,H b=none)/\H s2.heap.objs.size=none/\s.heap.get? s2.heap.objs.size=some ob/\Inv X' [] σ6 H s):=λ{H s} I=>by
    refine⟨T.keep _ _ _ st5 λb hb o e=>(I.pin (b,o) (zr _ (zr _ (vU hb e)))).1,λb hb=>?_,?_,?_,I.pins_of λp hp=>by simp at hp⟩
    ·obtain⟨o,e,d⟩:=T.obj _ _ st5 b hb;exact(I.pin (b,o) (zr _ (zr _ (vU hb e)))).2.1
    ·exact(I.pin (s2.heap.objs.size,ob) (by rw[xpn];simp)).2.1
    ·exact(I.pin (s2.heap.objs.size,ob) (by rw[xpn];simp)).1
   cases b with
   |false=>
    obtain⟨p1,p2,p3,p4,p5⟩:=pin7 I7;obtain⟨m',hm,w7⟩:=q7;exact⟨m',hm,i+1,acc,σ6,H7,ob,vs,p5,d6,p1,p2,p3,p4,isD,rv,w7⟩
   |true=>
    rw[if_pos rfl] at q7 ⊢;have a3:=gk _ s7 σ6 H7 _ I7 q7;rw[xP,xw,xA,xe] at a3;refine thn a3 λy s8 ⟨v,H8,I8,r8,q8⟩=>?_;have a4:=ge _ s8 σ6 H8 _ I8 q8;rw[xP,xw,xA,xe] at a4;refine thn a4 λy2 s9 ⟨v2,H9,I9,r9,q9⟩=>?_;obtain⟨p1,p2,p3,p4,p5⟩:=pin7 I9;obtain⟨kk,m',ek,hm,w8⟩:=q9;subst ek;have hl:=rv.length
    refine wpAny_dictSet_pairs (hsz:=by lia) (zA8 r8) (let ⟨es,ep,r⟩:=isD;⟨ob,es,ep,p4,r⟩) λh' dd' hs=>?_
    obtain⟨ob',es',ep',ho',isD'⟩:=dd'
    have I10:Inv X' [] σ6 H9 { s9 with heap:=h',toks:=s9.toks+1 }:=p5.turned (t':=s9.toks+1) (λb o hb e=>hs.extBut b o hb e) p3 (by rw[xL];exact DC) (.inr (by rw[xs];exact zn _)) Dcell (λp hp=>by rw[xpn] at hp;simp at hp)
    exact⟨m',hm,i+1,QT acc kk v2,σ6,H9,ob',_,I10,d6,T.keep _ _ _ p1 λb hb o e=>hs.extBut b o (λz=>Dfp (by rw[<- z];exact hb)) e,p2,p3,ho',⟨es',ep',isD'⟩,rv.put kk r9,w8⟩
 exact codeAny_compStart_dict (goal _ rfl) (T.self _ 0 _ _ _ st4 (goal _ rfl))
def WG(kx vx:Expr)(gens:List Comprehension)(scope:Scope)(pos:Pos)(env:Env):eval (.DictComp kx vx gens scope pos) env=comprehension (.DictComp kx vx gens scope pos) scope env (firstIterPos gens pos) newDict (firstAsync gens) (firstIter gens env):=by
 first |rfl |(unfold eval;rfl) |(rw[eval];rfl) |rw[eval]
def zE0(wi:TI)(own:Nat)(g:TG)(tt:TT)(tk tv:TE):TE:=λσ H Q=>wi σ H λJ H1=>∃W:Nat->Nat->List (Key × V)->Hp->Prop,(∃m,W 0 m [] H1)/\∀i m acc H,W i m acc H ->
 (J.stop i H/\acc.length<=sizeLine/\∀D,H D=none->Q (.ref D) (upd H D (.dK acc))) \/
 (J.go i H /\ acc.length < sizeLine /\ ∀ x H', J.yld i H x H' -> g x (List.replicate own none ++ σ) H' λσ2 H2 => σ2.drop own = σ /\ tt σ2 H2 λc H3 =>
  if c=true then tk σ2 H3 λy H4=>tv σ2 H4 λv H5=>∃k m',y=kV k/\m'<m/\W (i+1) m' (QT acc k v) H5 else ∃m',m'<m/\W (i+1) m' acc H3)
def zy0{wi:TI}(ok:CompOk X scope M)(hc:X.calm=true)(hi:PI X tg iter wi)(hg:∀C s2 H2 fp,PG (wJ X scope own M C s2 H2 fp) tg g)(ht:∀C s2 H2 fp,PTs (wJ X scope own M C s2 H2 fp) ifs tt)
  (hek:∀C s2 H2 fp,PE (wJ X scope own M C s2 H2 fp) kx tk) (he:∀C s2 H2 fp,PE (wJ X scope own M C s2 H2 fp) vx tv) (hs:∀x,foldedSetIterable iter X.env x=pure x:=by intro _;rfl) :
  PE X (.DictComp kx vx [⟨tg,iter,ifs,0⟩] scope pos) (zE0 wi own.length g tt tk tv):=by
 intro pins s σ H Q I h;rw[WG]
 refine yq (use:=none) rfl hs (YL (ok.cells I)) ok.kind (λx hx hl=>by rw[ok.uniq x hx,hl]) ?_
 refine thn (hi pins s σ H _ I h) λv s1 h1=>thn h1 λitv s2 h2=>?_;obtain⟨it,fp,tn,J,H2,e,I2,T,st2,f2,W,w0,turn⟩:=h2;subst e;refine zb9 (Qf:=Q) ok hc hg ht hek he I2 T st2 f2 w0 turn λD C H' s' m IY q hm hCn c2 c1 c3 c4=>⟨m,hm,λh' hs'=>?_⟩;exact⟨.ref D,H',IY.turned (t':=s'.toks) (λb o hb e=>hs'.extBut b o hb e) hCn c2 (.inr c1) c3 c4,rfl,q⟩
end
inductive D where
 |non |bl (b:Bool) |int (i:Int) |str (x:Str) |ty (n:String) |tup (ds:List D) |lst (ds:List D)
 /-- a list that is known and stays -/
 |fz (ds:List D)
 /-- the list that the drawing keeps -/
 |st
 /-- a list of the frame's own (in a slot alone) -/
 |own (ds:List D)
 /-- a dict of the frame's own (in a slot alone), its keys pairs of numbers -/
 |owT (ks:List (Int × Int)) (ds:List D)
 /-- a pair of numbers, a tuple that is tracked -/
 |prT (k:Int × Int)
 /-- a dict, whatever it holds -/
 |dic
 /-- a dict, known, that stays -/
 |dct (ks:List Key) (ds:List D)
def Yt(ks:List Key)(xs:List V):List (Key × V):=List.zipWith (λk x=>(k,x)) ks xs
abbrev zQ4:Hp:=λ_=>none
def SqZ(K:W.Frag)(Z:Addr->Prop)(H:Hp)(b:Bool)(a:Addr)(xs:List V):Prop:=
 match b with
 |true=>¬ Z a/\H a=some (.lst xs)
 |false=>(¬ Z a/\Rd H a (.tup xs))\/SqT K zQ4 a xs
def SqF(K:W.Frag)(Z:Addr->Prop)(H:Hp)(a:Addr)(xs:List V):Prop:=(¬ Z a/\∃o,H a=some (.frz o (.lst xs)))\/SqL K zQ4 a xs
mutual
def Rep(K:W.Frag)(G:Option Addr)(Z:Addr->Prop)(H:Hp):D->V->Prop
 |.non,v=>v=.non
 |.bl b,v=>v=.bl b
 |.int i,v=>v=.int i
 |.str x,v=>v=.str x
 |.ty n,v=>v=.ty n
 |.tup ds,v=>∃a xs,v=.ref a/\SqZ K Z H false a xs/\Reps K G Z H ds xs
 |.lst ds,v=>∃a xs,v=.ref a/\SqZ K Z H true a xs/\Reps K G Z H ds xs
 |.fz ds,v=>∃a xs,v=.ref a/\SqF K Z H a xs/\Reps K G Z H ds xs
 |.st,v=>∃a,G=some a/\v=.ref a
 |.own _,_=>False
 |.owT _ _,_=>False
 |.prT k,v=>∃b,v=.ref b/\¬ Z b/\H b=some (.tup [.int k.1,.int k.2])
 |.dic,v=>∃a kvs,v=.ref a/\¬ Z a/\H a=some (.dK kvs)
 |.dct ks ds,v=>∃a xs,v=.ref a/\(¬ Z a/\H a=some (.dK (Yt ks xs)))/\Reps K G Z H ds xs
def Reps(K:W.Frag)(G:Option Addr)(Z:Addr->Prop)(H:Hp):List D->List V->Prop
 |[],vs=>vs=[]
 |d::ds,vs=>∃v r,vs=v::r/\Rep K G Z H d v/\Reps K G Z H ds r
end
section
variable {K:W.Frag}{G:Option Addr}{Z Z':Addr->Prop}{H H':Hp}
def SqT.anyH{a:Addr}{xs:List V}(h:SqT K zQ4 a xs):SqT K H a xs:=by
 rcases h with (h |⟨o,h⟩) |h
 ·cases h
 ·cases h
 ·exact .inr h
def SqZ.sq{b:Bool}{a:Addr}{xs:List V}(h:SqZ K Z H b a xs):SqB K b H a xs:=by
 cases b with
 |true=>exact SqL.of h.2
 |false=>
  rcases h with ⟨_,h⟩ |h
  ·exact .inl h
  ·exact SqT.anyH h
def SqZ.mono{b:Bool}{a:Addr}{xs:List V}(h:SqZ K Z H b a xs)(hz:∀a,H a≠none->Z' a->Z a)(hf:∀a o,¬ Z a->H a=some o->H' a=some o):SqZ K Z' H' b a xs:=by
 cases b with
 |true=>exact⟨λz=>h.1 (hz a (by rw[h.2];simp) z),hf a _ h.1 h.2⟩
 | false =>
  rcases h with ⟨n,h⟩ |h
  ·refine .inl ⟨λz => n (hz a ?_ z), ?_⟩
   ·rcases h with h |⟨o,h⟩<;>(rw[h];simp)
   ·rcases h with h | ⟨o, h⟩
    ·exact .inl (hf a _ n h)
    ·exact .inr ⟨o,hf a _ n h⟩
  ·exact .inr h
mutual
theorem Rep.mono(hz:∀a,H a≠none->Z' a->Z a)(hf:∀a o,¬ Z a->H a=some o->H' a=some o):∀(d:D) (v:V),Rep K G Z H d v->Rep K G Z' H' d v
 |.non,v,h=>by unfold Rep at h ⊢;exact h
 |.bl b,v,h=>by unfold Rep at h ⊢;exact h
 |.int b,v,h=>by unfold Rep at h ⊢;exact h
 |.str b,v,h=>by unfold Rep at h ⊢;exact h
 |.ty b,v,h=>by unfold Rep at h ⊢;exact h
 |.st,v,h=>by unfold Rep at h ⊢;exact h
 |.own _,v,h=>by unfold Rep at h;exact h.elim
 |.owT _ _,v,h=>by unfold Rep at h;exact h.elim
 |.prT k,v,h=>by
  unfold Rep at h ⊢;obtain⟨b,e,n,q⟩:=h
  exact⟨b,e,λz=>n (hz b (by rw[q];simp) z),hf b _ n q⟩
 |.dic,v,h=>by
  unfold Rep at h ⊢;obtain⟨a,kvs,e,n,q⟩:=h
  exact⟨a,kvs,e,λz=>n (hz a (by rw[q];simp) z),hf a _ n q⟩
 |.dct ks ds,v,h=>by
  unfold Rep at h ⊢;obtain⟨a,xs,e,⟨n,q⟩,r⟩:=h
  exact⟨a,xs,e,⟨λz=>n (hz a (by rw[q];simp) z),hf a _ n q⟩,Reps.mono hz hf ds xs r⟩
 |.tup ds,v,h=>by
  unfold Rep at h ⊢;obtain⟨a,xs,e,q,r⟩:=h;exact⟨a,xs,e,q.mono hz hf,Reps.mono hz hf ds xs r⟩
 |.lst ds,v,h=>by
  unfold Rep at h ⊢;obtain⟨a,xs,e,q,r⟩:=h;exact⟨a,xs,e,q.mono hz hf,Reps.mono hz hf ds xs r⟩
 |.fz ds,v,h=>by
  unfold Rep at h ⊢;obtain⟨a,xs,e,q,r⟩:=h;refine⟨a,xs,e,?_,Reps.mono hz hf ds xs r⟩
  rcases q with ⟨n,o,q⟩ |q
  ·exact .inl ⟨λz=>n (hz a (by rw[q];simp) z),o,hf a _ n q⟩
  ·exact .inr q
theorem Reps.mono(hz:∀a,H a≠none->Z' a->Z a)(hf:∀a o,¬ Z a->H a=some o->H' a=some o):∀(ds:List D) (vs:List V),Reps K G Z H ds vs->Reps K G Z' H' ds vs
 |[],vs,h=>by unfold Reps at h ⊢;exact h
 |d::ds,vs,h=>by
  unfold Reps at h ⊢;obtain⟨v,r,e,q,t⟩:=h;exact⟨v,r,e,Rep.mono hz hf d v q,Reps.mono hz hf ds r t⟩
end
def Reps.nil:Reps K G Z H [] []:=by unfold Reps;rfl
def Reps.cons{d:D}{ds:List D}{v:V}{vs:List V}(h:Rep K G Z H d v)(t:Reps K G Z H ds vs):Reps K G Z H (d::ds) (v::vs):=by unfold Reps;exact⟨v,vs,rfl,h,t⟩
def Reps.inv{d:D}{ds:List D}{v:V}{vs:List V}(h:Reps K G Z H (d::ds) (v::vs)):Rep K G Z H d v/\Reps K G Z H ds vs:=by
 unfold Reps at h;obtain⟨v',r,e,q,t⟩:=h;cases e;exact⟨q,t⟩
def Reps.split{d:D}{ds:List D}{vs:List V}(h:Reps K G Z H (d::ds) vs):∃v r,vs=v::r/\Rep K G Z H d v/\Reps K G Z H ds r:=by unfold Reps at h;exact h
def Reps.nil_inv{vs:List V}(h:Reps K G Z H [] vs):vs=[]:=by unfold Reps at h;exact h
theorem Reps.length:∀{ds:List D}{vs:List V},Reps K G Z H ds vs->vs.length=ds.length
 |[],vs,h=>by rw[h.nil_inv];rfl
 |d::ds,vs,h=>by
  obtain⟨v,r,rfl,_,t⟩:=h.split;rw[zG,zG,Reps.length t]
theorem Reps.get:∀{ds:List D}{vs:List V}{i:Nat}{d:D},Reps K G Z H ds vs->ds[i]?=some d->∃v,vs[i]?=some v/\Rep K G Z H d v
 |[],vs,i,d,_,e=>by simp at e
 |c::ds,vs,0,d,h,e=>by
  obtain⟨v,r,rfl,q,t⟩:=h.split;simp at e;subst e;exact⟨v,rfl,q⟩
 |c::ds,vs,i+1,d,h,e=>by
  obtain⟨v,r,rfl,q,t⟩:=h.split
  obtain⟨u,e1,e2⟩:=Reps.get (i:=i) t (by simpa using e)
  exact⟨u,by simpa using e1,e2⟩
theorem Reps.append:∀{ds es:List D}{vs ws:List V},Reps K G Z H ds vs->Reps K G Z H es ws->Reps K G Z H (ds++es) (vs++ws)
 |[],es,vs,ws,h,h'=>by rw[h.nil_inv];exact h'
 |d::ds,es,vs,ws,h,h'=>by
  obtain⟨v,r,rfl,q,t⟩:=h.split;exact .cons q (Reps.append t h')
theorem Reps.drop:∀{ds:List D}{vs:List V} (n:Nat),Reps K G Z H ds vs->Reps K G Z H (ds.drop n) (vs.drop n)
 |ds,vs,0,h=>h
 |[],vs,n+1,h=>by rw[h.nil_inv];exact .nil
 |d::ds,vs,n+1,h=>by
  obtain⟨v,r,rfl,q,t⟩:=h.split;exact Reps.drop n t
theorem Reps.take:∀{ds:List D}{vs:List V} (n:Nat),Reps K G Z H ds vs->Reps K G Z H (ds.take n) (vs.take n)
 |ds,vs,0,h=>.nil
 |[],vs,n+1,h=>by rw[h.nil_inv];exact .nil
 |d::ds,vs,n+1,h=>by
  obtain⟨v,r,rfl,q,t⟩:=h.split;exact .cons q (Reps.take n t)
theorem Reps.flatRep{ds:List D}{vs:List V}(h:Reps K G Z H ds vs):∀k:Nat,Reps K G Z H (replicate k ds).flatten (replicate k vs).flatten
 |0=>.nil
 |k+1=>by
  rw[wH,wH,yx,yx];exact h.append (Reps.flatRep h k)
end
def kr:D->Bool
 |.non=>true |.bl _=>true |.int _=>true |.str _=>true |.ty _=>true |_=>false
def ofS:D->V
 |.bl b=>.bl b |.int i=>.int i |.str x=>.str x |.ty n=>.ty n |_=>.non
theorem Rep.ofS{K:W.Frag}{G:Option Addr}{Z:Addr->Prop}{H:Hp}:∀{d:D},kr d=true->Rep K G Z H d (ofS d)
 |.non,_=>by unfold Rep;rfl
 |.bl b,_=>by unfold Rep;rfl
 |.int b,_=>by unfold Rep;rfl
 |.str b,_=>by unfold Rep;rfl
 |.ty b,_=>by unfold Rep;rfl
 |.tup ds,h=>by simp[kr] at h
 |.lst ds,h=>by simp[kr] at h
 |.st,h=>by simp[kr] at h
 |.fz ds,h=>by simp[kr] at h
 |.own ds,h=>by simp[kr] at h
 |.owT _ _,h=>by simp[kr] at h
 |.prT _,h=>by simp[kr] at h
theorem Rep.toS{K:W.Frag}{G:Option Addr}{Z:Addr->Prop}{H:Hp}{v:V}:∀{d:D},kr d=true->Rep K G Z H d v->v=L2.ofS d
 |.non,_,h=>by unfold Rep at h;exact h
 |.bl b,_,h=>by unfold Rep at h;exact h
 |.int b,_,h=>by unfold Rep at h;exact h
 |.str b,_,h=>by unfold Rep at h;exact h
 |.ty b,_,h=>by unfold Rep at h;exact h
 |.tup ds,h,_=>by simp[kr] at h
 |.lst ds,h,_=>by simp[kr] at h
 |.st,h,_=>by simp[kr] at h
 |.fz ds,h,_=>by simp[kr] at h
 |.own ds,h,_=>by simp[kr] at h
 |.owT _ _,h,_=>by simp[kr] at h
 |.prT _,h,_=>by simp[kr] at h
def Rep.int_inv{K:W.Frag}{G:Option Addr}{Z:Addr->Prop}{H:Hp}{v:V}{i:Int}(h:Rep K G Z H (.int i) v):v=.int i:=by unfold Rep at h;exact h
def Rep.bl_inv{K:W.Frag}{G:Option Addr}{Z:Addr->Prop}{H:Hp}{v:V}{i:Bool}(h:Rep K G Z H (.bl i) v):v=.bl i:=by unfold Rep at h;exact h
def Rep.tup_inv{K:W.Frag}{G:Option Addr}{Z:Addr->Prop}{H:Hp}{v:V}{ds:List D}(h:Rep K G Z H (.tup ds) v):∃a xs,v=.ref a/\SqZ K Z H false a xs/\Reps K G Z H ds xs:=by unfold Rep at h;exact h
def Rep.lst_inv{K:W.Frag}{G:Option Addr}{Z:Addr->Prop}{H:Hp}{v:V}{ds:List D}(h:Rep K G Z H (.lst ds) v):∃a xs,v=.ref a/\SqZ K Z H true a xs/\Reps K G Z H ds xs:=by unfold Rep at h;exact h
def Rep.fz_inv{K:W.Frag}{G:Option Addr}{Z:Addr->Prop}{H:Hp}{v:V}{ds:List D}(h:Rep K G Z H (.fz ds) v):∃a xs,v=.ref a/\SqL K H a xs/\Reps K G Z H ds xs:=by
 unfold Rep at h;obtain⟨a,xs,e,q,r⟩:=h;refine⟨a,xs,e,?_,r⟩
 rcases q with ⟨_,o,q⟩ |q
 ·exact .inl (.inr ⟨o,q⟩)
 ·rcases q with (q | ⟨o, q⟩) | q
  ·cases q
  ·cases q
  ·exact .inr q
def Rep.tup_mk{K:W.Frag}{G:Option Addr}{Z:Addr->Prop}{H:Hp}{a:Addr}{xs:List V}{ds:List D}(q:SqZ K Z H false a xs)(r:Reps K G Z H ds xs):Rep K G Z H (.tup ds) (.ref a):=by unfold Rep;exact⟨a,xs,rfl,q,r⟩
def Rep.lst_mk{K:W.Frag}{G:Option Addr}{Z:Addr->Prop}{H:Hp}{a:Addr}{xs:List V}{ds:List D}(q:SqZ K Z H true a xs)(r:Reps K G Z H ds xs):Rep K G Z H (.lst ds) (.ref a):=by unfold Rep;exact⟨a,xs,rfl,q,r⟩
def zt5(G:Option Addr)(n:Nat)(H:Hp):Prop:=∀a,G=some a->∃(zs:List Int) (_ _:Nat),H a=some (.lst (zs.map V.int))/\zs.length=n/\(∀x∈zs,0<=x)/\∀x,zs[1]?=some x->x<2147483647
structure AC where
 K:W.Frag
 G:Option Addr
 Z0:Addr->Prop
 H0:Hp
abbrev Rho:=List (Option D)
def Zof(A:AC)(os:List (Nat × Addr)):Addr->Prop:=λa=>A.Z0 a\/∃p∈os,p.2=a
def kP(k:Int × Int):List Key:=[.inl k.1,.inl k.2]
def qf(ks:List (Int × Int))(xs:List V):List (List Key × V):=List.zipWith (λk x=>(kP k,x)) ks xs
def SlotR(A:AC)(os:List (Nat × Addr))(H:Hp)(i:Nat):D->V->Prop
 |.own ds,v=>∃a xs,v=.ref a/\(i,a)∈os/\H a=some (.lst xs)/\Reps A.K A.G (Zof A os) H ds xs
 |.owT ks ds,v=>∃a xs,v=.ref a/\(i,a)∈os/\H a=some (.dT (qf ks xs))/\ks.length=xs.length/\Reps A.K A.G (Zof A os) H ds xs
 |d,v=>Rep A.K A.G (Zof A os) H d v
def ky:List Str:=["_law_grown","_law_drawn"]
def kX(K:W.Frag)(P:Addr)(q:Str):Prop:=∃x∈ky,∃c,W.tabIn K x=some (c,P)/\q=(x ++ ".<locals>.") ++ "<lambda>"
def Hot(o:Option HO):Prop:=∃u,o=some u/\∀ys,u≠.tup ys
def Hot.ne{o:Option HO}(h:Hot o):o≠none:=by obtain⟨u,e,_⟩:=h;rw[e];simp
def Hot.lst{xs:List V}:Hot (some (.lst xs)):=⟨_,rfl,λ_ z=>by cases z⟩
def Hot.dT{xs:List (List Key × V)}:Hot (some (.dT xs)):=⟨_,rfl,λ_ z=>by cases z⟩
def Hot.of{o o':Option HO}(h:Hot o)(f:∀u,o=some u->o'=some u):Hot o':=let ⟨u,e,t⟩:=h;⟨u,f u e,t⟩
def ZOk(K:W.Frag)(G:Option Addr)(Z:Addr->Prop)(H:Hp):Prop:=(∀a,Z a->Hot (H a))/\∀P q,kX K P q->H P=some (.cot q)/\G≠some P
structure AmO(A:AC)(os:List (Nat × Addr))(n:Nat)(rho:Rho)(sg:St)(H:Hp)(ds:List D)(vs:List V):Prop where
 len:rho.length=sg.length
 slot:∀i d,rho[i]?=some (some d)->∃v,sg[i]?=some (some v)/\SlotR A os H i d v
 pend:Reps A.K A.G (Zof A os) H ds vs
 nd:os.Pairwise λp q=>p.1≠q.1/\p.2≠q.2
 fresh:∀p∈os,A.H0 p.2=none/\¬ A.Z0 p.2/\Hot (H p.2)
 st:zt5 A.G n H
 gz:∀a,A.G=some a->A.Z0 a
 fr:∀a o,A.G≠some a->A.H0 a=some o->H a=some o
 z0:ZOk A.K A.G A.Z0 A.H0
def Am(A:AC)(n:Nat)(rho:Rho)(sg:St)(H:Hp)(ds:List D)(vs:List V):Prop:=∃os,AmO A os n rho sg H ds vs
section
variable {A:AC}{os:List (Nat × Addr)}{n:Nat}{rho:Rho}{sg:St}{H:Hp}{ds:List D}{vs:List V}{d:D}{v:V}
def AmO.zHot(I:AmO A os n rho sg H ds vs):∀a,Zof A os a->Hot (H a):=λa h=>by
 rcases h with h |⟨p,hp,rfl⟩
 ·by_cases e : A.G = some a
  ·obtain⟨x,y,z,q,_⟩:=I.st a e;rw[q];exact Hot.lst
  ·exact(I.z0.1 a h).of λo q=>I.fr a o e q
 ·exact(I.fresh p hp).2.2
def AmO.zH(I:AmO A os n rho sg H ds vs):∀a,Zof A os a->H a≠none:=λa h=>(I.zHot a h).ne
def AmO.zO(I:AmO A os n rho sg H ds vs):ZOk A.K A.G (Zof A os) H:=⟨I.zHot,λP q t=>⟨I.fr P _ (I.z0.2 P q t).2 (I.z0.2 P q t).1,(I.z0.2 P q t).2⟩⟩
def SlotR.mono{os':List (Nat × Addr)}{H':Hp}{i:Nat}(hz:∀a,H a≠none->Zof A os' a->Zof A os a)(hf:∀a o,¬ Zof A os a->H a=some o->H' a=some o)
  (ho:∀a xs,(i,a)∈os->H a=some xs->(i,a)∈os'/\H' a=some xs):∀(d:D) (v:V),SlotR A os H i d v->SlotR A os' H' i d v
 |.own ds,v,h=>by
  obtain⟨a,xs,e,m,q,r⟩:=h;obtain⟨m',q'⟩:=ho a _ m q;exact⟨a,xs,e,m',q',Reps.mono hz hf ds xs r⟩
 |.owT ks ds,v,h=>by
  obtain⟨a,xs,e,m,q,l,r⟩:=h;obtain⟨m',q'⟩:=ho a _ m q;exact⟨a,xs,e,m',q',l,Reps.mono hz hf ds xs r⟩
 |.non,v,h=>Rep.mono hz hf _ _ h
 |.bl _,v,h=>Rep.mono hz hf _ _ h
 |.int _,v,h=>Rep.mono hz hf _ _ h
 |.str _,v,h=>Rep.mono hz hf _ _ h
 |.ty _,v,h=>Rep.mono hz hf _ _ h
 |.tup _,v,h=>Rep.mono hz hf _ _ h
 |.lst _,v,h=>Rep.mono hz hf _ _ h
 |.st,v,h=>Rep.mono hz hf _ _ h
 |.fz _,v,h=>Rep.mono hz hf _ _ h
 |.dic,v,h=>Rep.mono hz hf _ _ h
 |.prT _,v,h=>Rep.mono hz hf _ _ h
 |.dct _ _,v,h=>Rep.mono hz hf _ _ h
def xZ:D->Bool
 |.own _=>false
 |.owT _ _=>false
 |_=>true
theorem SlotR.rep{i:Nat}:∀{d:D}{v:V},xZ d=true->SlotR A os H i d v->Rep A.K A.G (Zof A os) H d v
 |.own _,_,h,_=>by simp[xZ] at h
 |.owT _ _,_,h,_=>by simp[xZ] at h
 |.non,_,_,h=>h
 |.bl _,_,_,h=>h
 |.int _,_,_,h=>h
 |.str _,_,_,h=>h
 |.ty _,_,_,h=>h
 |.tup _,_,_,h=>h
 |.lst _,_,_,h=>h
 |.st,_,_,h=>h
 |.fz _,_,_,h=>h
 |.dic,_,_,h=>h
 |.prT _,_,_,h=>h
 |.dct _ _,_,_,h=>h
theorem SlotR.of{i:Nat}:∀{d:D}{v:V},Rep A.K A.G (Zof A os) H d v->SlotR A os H i d v
 |.own _,_,h=>by unfold Rep at h;exact h.elim
 |.owT _ _,_,h=>by unfold Rep at h;exact h.elim
 |.non,_,h=>h
 |.bl _,_,h=>h
 |.int _,_,h=>h
 |.str _,_,h=>h
 |.ty _,_,h=>h
 |.tup _,_,h=>h
 |.lst _,_,h=>h
 |.st,_,h=>h
 |.fz _,_,h=>h
 |.dic,_,h=>h
 |.prT _,_,h=>h
 |.dct _ _,_,h=>h
def AmO.push(I:AmO A os n rho sg H ds vs)(h:Rep A.K A.G (Zof A os) H d v):AmO A os n rho sg H (d::ds) (v::vs):=
 ⟨I.len,I.slot,.cons h I.pend,I.nd,I.fresh,I.st,I.gz,I.fr,I.z0⟩
def AmO.pends{es:List D}{ws:List V}(I:AmO A os n rho sg H ds vs)(h:Reps A.K A.G (Zof A os) H es ws):AmO A os n rho sg H es ws:=
 ⟨I.len,I.slot,h,I.nd,I.fresh,I.st,I.gz,I.fr,I.z0⟩
def AmO.pop(I:AmO A os n rho sg H (d::ds) (v::vs)):AmO A os n rho sg H ds vs/\Rep A.K A.G (Zof A os) H d v:=⟨I.pends I.pend.inv.2,I.pend.inv.1⟩
def AmO.grow{p:Addr}{o:HO}(I:AmO A os n rho sg H ds vs)(hp:H p=none):AmO A os n rho sg (upd H p o) ds vs:=by
 have hf:∀a u,H a=some u->upd H p o a=some u:=λa u e=>by rw[xX (wW e hp)];exact e
 refine⟨I.len,λi d e=>?_,Reps.mono (λ_ _ z=>z) (λa u _ e=>hf a u e) _ _ I.pend,I.nd,λq hq=>?_,λa e=>?_,I.gz,λa u h e=>hf a u (I.fr a u h e),I.z0⟩
 ·obtain⟨v,e1,e2⟩:=I.slot i d e;exact⟨v,e1,SlotR.mono (λ_ _ z=>z) (λa u _ e=>hf a u e) (λa xs m q=>⟨m,hf a _ q⟩) _ _ e2⟩
 ·obtain⟨f1,f2,f3⟩:=I.fresh q hq;exact⟨f1,f2,f3.of λu e=>hf _ _ e⟩
 ·obtain⟨x,y,z,q,r⟩:=I.st a e;exact⟨x,y,z,hf _ _ q,r⟩
def AmO.newTup{p:Addr}{es:List D}{xs:List V}(I:AmO A os n rho sg H ds vs)(r:Reps A.K A.G (Zof A os) H es xs)(hp:H p=none):AmO A os n rho sg (upd H p (.tup xs)) (.tup es::ds) (.ref p::vs):=by
 have g:=I.grow (o:=.tup xs) hp;refine g.push (.tup_mk (.inl ⟨λz=>I.zH p z hp,.inl wU⟩) ?_)
 exact Reps.mono (λ_ _ z=>z) (λa u _ e=>by rw[xX (wW e hp)];exact e) _ _ r
def AmO.newLst{p:Addr}{es:List D}{xs:List V}(I:AmO A os n rho sg H ds vs)(r:Reps A.K A.G (Zof A os) H es xs)(hp:H p=none):AmO A os n rho sg (upd H p (.lst xs)) (.lst es::ds) (.ref p::vs):=by
 have g:=I.grow (o:=.lst xs) hp;refine g.push (.lst_mk ⟨λz=>I.zH p z hp,wU⟩ ?_)
 exact Reps.mono (λ_ _ z=>z) (λa u _ e=>by rw[xX (wW e hp)];exact e) _ _ r
def AmO.set{i:Nat}(I:AmO A os n rho sg H (d::ds) (v::vs))(hi:i<rho.length):AmO A (os.filter λp=>decide (p.1≠i)) n (rho.set i (some d)) (sg.set i (some v)) H ds vs:=by
 obtain⟨J,hr⟩:=I.pop
 have sub:∀a,H a≠none->Zof A (os.filter λp=>decide (p.1≠i)) a->Zof A os a:=λa _ z=>by
  rcases z with z |⟨p,hp,e⟩
  ·exact .inl z
  ·exact .inr ⟨p,(zx.mp hp).1,e⟩
 refine⟨by simp[I.len],λj c e=>?_,Reps.mono sub (λ_ _ _ e=>e) _ _ J.pend,I.nd.filter _,λp hp=>I.fresh p (zx.mp hp).1,I.st,I.gz,I.fr,I.z0⟩
 by_cases hj:j=i
 ·subst hj;rw[zQ hi] at e;cases e
  exact⟨v,zQ (by rw[<- I.len];exact hi),SlotR.of (Rep.mono sub (λ_ _ _ e=>e) _ _ hr)⟩
 ·rw [zY (Ne.symm hj)] at e;obtain⟨u,e1,e2⟩:=I.slot j c e
  exact⟨u,by rw[zY (Ne.symm hj)];exact e1,SlotR.mono sub (λ_ _ _ e=>e) (λa xs m q=>⟨zx.mpr ⟨m,by simpa using hj⟩,q⟩) _ _ e2⟩
end
abbrev TD:=Rho->Nat->(D->Nat->Prop)->Prop
abbrev TBD:=Rho->Nat->(Bool->Nat->Prop)->Prop
abbrev TAD:=Rho->Nat->(List D->Nat->Prop)->Prop
def tOf(A:AC)(t:TD):TE:=λsg H Q=>∃rho n P ds vs,Am A n rho sg H ds vs/\t rho n P/\∀v H' n' d,Am A n' rho sg H' (d::ds) (v::vs)->P d n'->Q v H'
def QN(A:AC)(t:TBD):TT:=λsg H Q=>∃rho n P ds vs,Am A n rho sg H ds vs/\t rho n P/\∀b H' n',Am A n' rho sg H' ds vs->P b n'->Q b H'
def xz6(A:AC)(t:TAD):TA:=λsg H Q=>∃rho n P ds vs,Am A n rho sg H ds vs/\t rho n P/\∀ws H' n' es,Am A n' rho sg H' (es++ds) (ws++vs)->ws.length=es.length->P es n'->Q ws H'
@[irreducible] def PD(A:AC)(X:Cx)(e:Expr)(t:TD):Prop:=PE X e (tOf A t)
@[irreducible] def PTD(A:AC)(X:Cx)(e:Expr)(t:TBD):Prop:=PT X e (QN A t)
@[irreducible] def PWD(A:AC)(X:Cx)(e:Expr)(t:TBD):Prop:=PW X e (QN A t)
@[irreducible] def PAD(A:AC)(X:Cx)(es:List Expr)(t:TAD):Prop:=PA X es (xz6 A t)
def PE.imp{X:Cx}{e:Expr}{t t':TE}(h:PE X e t)(hi:∀sg H Q,t' sg H Q->t sg H Q):PE X e t':=λpins s sg H Q I q=>h pins s sg H Q I (hi _ _ _ q)
def PT.imp{X:Cx}{e:Expr}{t t':TT}(h:PT X e t)(hi:∀sg H Q,t' sg H Q->t sg H Q):PT X e t':=λpins s sg H Q I q=>h pins s sg H Q I (hi _ _ _ q)
def PW.imp{X:Cx}{e:Expr}{t t':TT}(h:PW X e t)(hi:∀sg H Q,t' sg H Q->t sg H Q):PW X e t':=λwh pins s sg H Q I q=>h wh pins s sg H Q I (hi _ _ _ q)
def PA.imp{X:Cx}{e:List Expr}{t t':TA}(h:PA X e t)(hi:∀sg H Q,t' sg H Q->t sg H Q):PA X e t':=λps pins s sg H Q I q=>h ps pins s sg H Q I (hi _ _ _ q)
def PS.imp{X:Cx}{e:Stmt}{t t':TS}(h:PS X e t)(hi:∀E sg H,t' E sg H->t E sg H):PS X e t':=λpins s sg H Q I q=>h pins s sg H Q I (hi _ _ _ q)
def PSs.imp{X:Cx}{e:List Stmt}{t t':TS}(h:PSs X e t)(hi:∀E sg H,t' E sg H->t E sg H):PSs X e t':=λpins s sg H Q I q=>h pins s sg H Q I (hi _ _ _ q)
section
variable {A:AC}{X:Cx}{a b c e:Expr}{es:List Expr}{ta tb tc:TD}{pos:Pos}
def atD(d:D)(k:D->Prop):Prop:=match d with
 |.own _=>False
 |.owT _ _=>False
 |.non=>k .non
 |.bl b=>k (.bl b)
 |.int b=>k (.int b)
 |.str b=>k (.str b)
 |.ty b=>k (.ty b)
 |.tup b=>k (.tup b)
 |.lst b=>k (.lst b)
 |.fz b=>k (.fz b)
 |.st=>k .st
 |.dic=>k .dic
 |.prT b=>k (.prT b)
 |.dct a b=>k (.dct a b)
def zs3{d:D}{k:D->Prop}(h:atD d k):xZ d=true/\k d:=by
 cases d<;>first |exact⟨rfl,h⟩ |exact h.elim
def QF{d:D}{k:D->Prop}(h:xZ d=true)(q:k d):atD d k:=by
 cases d<;>first |exact q |(simp[xZ] at h;done)
def atV(o:Option (Option D))(k:D->Prop):Prop:=match o with |some (some d)=>atD d k |_=>False
def zR7{o:Option (Option D)}{k:D->Prop}(h:atV o k):∃d,o=some (some d)/\xZ d=true/\k d:=by
 match o,h with
 |some (some d),h=>exact⟨d,rfl,zs3 h⟩
def zC3(i:Nat):TD:=λrho n P=>atV rho[i]? λd=>P d n
def dC(d:D):TD:=λ_ n P=>P d n
def zh(i:Nat){x:Str}(hN:X.N[i]?=some x:=by rfl)(hv:Vis X.env.scope x:=by first |exact Or.inl rfl |exact Or.inr (Or.inl rfl) |exact Or.inr (Or.inr rfl))(hd:(x == ("__debug__" : Str))=false:=by decide)
  (hcd:(x == ("__classdict__" : Str))=false:=by decide):PD A X (.Name x pos) (zC3 i):=by
 exists (qO hN hv hd hcd).imp λsg H Q h=>by
   obtain⟨rho,n,P,ds,vs,⟨os,I⟩,hh,hQ⟩:=h;obtain⟨d,e,hd,q⟩:=zR7 hh;obtain⟨v,e1,e2⟩:=I.slot i d e;exact⟨v,e1,hQ v H n d ⟨os,I.push (e2.rep hd)⟩ q⟩
def zC6{d:D}(hs:kr d=true){t:TE}(ht:∀sg H Q,Q (ofS d) H->t sg H Q)(h:PE X e t):PD A X e (dC d):=by
 exists h.imp λsg H Q q=>by
   obtain⟨rho,n,P,ds,vs,⟨os,I⟩,q,hQ⟩:=q;exact ht _ _ _ (hQ _ H n d ⟨os,I.push (Rep.ofS hs)⟩ q)
def zu{i:Int}{j:Nat}:PD A X (.Constant (.int i) j pos) (dC (.int i)):=by exists zC6 rfl (λ_ _ _ q=>q) Uw
def XX{i:Bool}{j:Nat}:PD A X (.Constant (.bool i) j pos) (dC (.bl i)):=by exists zC6 rfl (λ_ _ _ q=>q) xw3
def vg{j:Nat}:PD A X (.Constant .none j pos) (dC .non):=by exists zC6 rfl (λ_ _ _ q=>q) zZ4
def Uy{x:Str}{j:Nat}:PD A X (.Constant (.str x) j pos) (dC (.str x)):=by exists zC6 rfl (λ_ _ _ q=>q) zZ1
abbrev RD2:=D->D->(D->Prop)->Prop
def kZ(A:AC)(r:R2)(rd:RD2):Prop:=
 ∀os n rho sg H ds vs d1 d2 v1 v2 (k:D->Prop) (Q:VK),AmO A os n rho sg H (d2::d1::ds) (v2::v1::vs)->rd d1 d2 k->(∀v H' d,Am A n rho sg H' (d::ds) (v::vs)->k d->Q v H')->r v1 v2 H Q
def dOp(rd:RD2)(ta tb:TD):TD:=λrho n P=>ta rho n λd1 n1=>tb rho n1 λd2 n2=>rd d1 d2 λd=>P d n2
def Js(t:TD):TBD:=λrho n P=>t rho n λd n'=>∃b,d=.bl b/\P b n'
def Uc{r:R2}{rd:RD2}(hr:kZ A r rd){sg:St}{H:Hp}{Q:VK}(h:tOf A (dOp rd ta tb) sg H Q):tOp r (tOf A ta) (tOf A tb) sg H Q:=by
 obtain⟨rho,n,P,ds,vs,I,ht,hQ⟩:=h;exact⟨rho,n,_,ds,vs,I,ht,λv1 H1 n1 d1 I1 h1=>⟨rho,n1,_,d1::ds,v1::vs,I1,h1,λv2 H2 n2 d2 ⟨os2,I2⟩ h2=>hr _ _ _ _ _ _ _ _ _ _ _ _ Q I2 h2 λv H' d J k=>hQ v H' n2 d J k⟩⟩
def WW{t:TE}{td:TD}(h:∀sg H Q,tOf A td sg H Q->t sg H Q){sg:St}{H:Hp}{Q:Bool->Hp->Prop}(q:QN A (Js td) sg H Q):zT5 t sg H Q:=by
 obtain⟨rho,n,P,ds,vs,I,ht,hQ⟩:=q;refine h _ _ _ ⟨rho,n,_,ds,vs,I,ht,λv H' n' d ⟨os,J⟩ k=>?_⟩;obtain⟨b,rfl,k⟩:=k;obtain⟨J1,r⟩:=J.pop;exact⟨b,r.bl_inv,hQ b H' n' ⟨os,J1⟩ k⟩
def XW{op:Operator}{r:R2}{rd:RD2}(ho:OpR X (binaryOp op) r)(hr:kZ A r rd)(ha:PD A X a ta)(hb:PD A X b tb):PD A X (.BinOp a op b pos) (dOp rd ta tb):=by exists (xw1 ho ha hb).imp λ_ _ _=>Uc hr
def Yn{op:CmpOp}{r:R2}{rd:RD2}(ho:OpR X (compareOp op) r)(hr:kZ A r rd)(ha:PD A X a ta)(hb:PD A X b tb)(hm:behindInMarks op b=false):PD A X (.Compare a [op] [b] pos) (dOp rd ta tb):=by exists (zM1 ho ha hb hm).imp λ_ _ _=>Uc hr
def wB{op:CmpOp}{r:R2}{rd:RD2}(ho:OpR X (compareOp op) r)(hr:kZ A r rd)(ha:PD A X a ta)(hb:PD A X b tb)(hm:behindInMarks op b=false):PTD A X (.Compare a [op] [b] pos) (Js (dOp rd ta tb)):=by
 exists 
   (zh0 ho ha hb hm).imp λ_ _ _=>WW λ_ _ _=>Uc hr
def wC{r:R2}{rd:RD2}(hi:IxR X r)(hr:kZ A r rd)(ha:PD A X a ta)(hb:PD A X b tb)(hs:VQ b):PD A X (.Subscript a b pos) (dOp rd ta tb):=by exists (zL6 hi ha hb hs).imp λ_ _ _=>Uc hr
def jZ(ha:PD A X a ta)(he:∀whole,isTrue a X.env whole=(do let v <- whole;standAt a.pos;holding [v] (truthy v)):=by intro _;rfl):PTD A X a (Js ta):=by exists (zY3 ha he).imp λ_ _ _=>WW λ_ _ _ q=>q
def rdI(C:Int->Int->Prop)(g:Int->Int->D):RD2:=λd1 d2 k=>match d1,d2 with |.int i,.int j=>C i j/\k (g i j) |_,_=>False
def zK1{C:Int->Int->Prop}{g:Int->Int->D}{d1 d2:D}{k:D->Prop}(h:rdI C g d1 d2 k):∃i j,d1=.int i/\d2=.int j/\C i j/\k (g i j):=by
 unfold rdI at h
 split at h
 ·exact⟨_,_,rfl,rfl,h⟩
 ·exact h.elim
def zw1(g:Int->Int->D):RD2:=λd1 d2 k=>match d1,d2 with |.int i,.int j=>k (g i j) |_,_=>False
def zw0{g:Int->Int->D}{d1 d2:D}{k:D->Prop}(h:zw1 g d1 d2 k):∃i j,d1=.int i/\d2=.int j/\k (g i j):=by
 unfold zw1 at h
 split at h
 ·exact⟨_,_,rfl,rfl,h⟩
 ·exact h.elim
def zv8{C:Int->Int->Prop}{g:Int->Int->V}{gd:Int->Int->D}(hs:∀i j,kr (gd i j)=true)(hg:∀i j,ofS (gd i j)=g i j):kZ A (rI C g) (rdI C gd):=by
 rintro os n rho sg H ds vs d1 d2 v1 v2 k Q I hh hQ;obtain⟨i,j,rfl,rfl,hc,q⟩:=zK1 hh;obtain⟨I1,r2⟩:=I.pop;obtain⟨I2,r1⟩:=I1.pop
 exact⟨i,j,r1.int_inv,r2.int_inv,hc,hQ _ H _ ⟨os,I2.push (by rw[<- hg];exact Rep.ofS (hs i j))⟩ q⟩
def Ur{g:Int->Int->V}{gd:Int->Int->D}(hs:∀i j,kr (gd i j)=true)(hg:∀i j,ofS (gd i j)=g i j):kZ A (rI0 g) (zw1 gd):=by
 rintro os n rho sg H ds vs d1 d2 v1 v2 k Q I hh hQ;obtain⟨i,j,rfl,rfl,q⟩:=zw0 hh;obtain⟨I1,r2⟩:=I.pop;obtain⟨I2,r1⟩:=I1.pop
 exact⟨i,j,r1.int_inv,r2.int_inv,hQ _ H _ ⟨os,I2.push (by rw[<- hg];exact Rep.ofS (hs i j))⟩ q⟩
abbrev xO4:TD->TD->TD:=dOp (zw1 λi j=>.int (i+j))
abbrev xN4:TD->TD->TD:=dOp (zw1 λi j=>.int (i-j))
abbrev xN8:TD->TD->TD:=dOp (rdI CMul λi j=>.int (i*j))
abbrev xN9:TD->TD->TD:=dOp (rdI (λ_ j=>0<j) λi j=>.int (i%j))
abbrev xO3:TD->TD->TD:=dOp (rdI xG8 λi j=>.int (i/j))
abbrev xN7:TD->TD->TD:=dOp (rdI xG7 λi j=>.int (i^j.toNat))
def kc(ha:PD A X a ta)(hb:PD A X b tb):PD A X (.BinOp a .Add b pos) (xO4 ta tb):=by exists XW xa5 (Ur (λ_ _=>rfl) λ_ _=>rfl) ha hb
def jc(ha:PD A X a ta)(hb:PD A X b tb):PD A X (.BinOp a .Sub b pos) (xN4 ta tb):=by exists XW xa1 (Ur (λ_ _=>rfl) λ_ _=>rfl) ha hb
def Zt(ha:PD A X a ta)(hb:PD A X b tb):PD A X (.BinOp a .Mult b pos) (xN8 ta tb):=by exists XW xa3 (zv8 (λ_ _=>rfl) λ_ _=>rfl) ha hb
def jH(ha:PD A X a ta)(hb:PD A X b tb):PD A X (.BinOp a .Mod b pos) (xN9 ta tb):=by exists XW xa4 (zv8 (λ_ _=>rfl) λ_ _=>rfl) ha hb
def Qd(ha:PD A X a ta)(hb:PD A X b tb):PD A X (.BinOp a .FloorDiv b pos) (xO3 ta tb):=by exists XW zM9 (zv8 (λ_ _=>rfl) λ_ _=>rfl) ha hb
def Uz(ha:PD A X a ta)(hb:PD A X b tb):PD A X (.BinOp a .Pow b pos) (xN7 ta tb):=by exists XW xa2 (zv8 (λ_ _=>rfl) λ_ _=>rfl) ha hb
abbrev xI5:RD2:=zw1 λi j=>.bl (decide (i<j))
abbrev xI7:RD2:=zw1 λi j=>.bl (decide (j<i))
abbrev xI8:RD2:=zw1 λi j=>.bl (decide (j<=i))
def zJ9:kZ A (rI0 λi j=>.bl (decide (i<j))) xI5:=Ur (g:=λi j=>.bl (decide (i<j))) (λ_ _=>rfl) λ_ _=>rfl
def XU:kZ A (rI0 λi j=>.bl (decide (j<i))) xI7:=Ur (g:=λi j=>.bl (decide (j<i))) (λ_ _=>rfl) λ_ _=>rfl
def xn9:kZ A (rI0 λi j=>.bl (decide (j<=i))) xI8:=Ur (g:=λi j=>.bl (decide (j<=i))) (λ_ _=>rfl) λ_ _=>rfl
def zK2:RD2:=λd1 d2 k=>kr d1=true/\kr d2=true/\xn2 (ofS d1) (ofS d2)=true/\k (.bl (decide (ofS d1=ofS d2)))
def xh0:RD2:=λd1 d2 k=>kr d1=true/\kr d2=true/\xn2 (ofS d1) (ofS d2)=true/\k (.bl (!decide (ofS d1=ofS d2)))
def QS:kZ A rEq zK2:=by
 rintro os n rho sg H ds vs d1 d2 v1 v2 k Q I ⟨h1,h2,h3,q⟩ hQ;obtain⟨I1,r2⟩:=I.pop;obtain⟨I2,r1⟩:=I1.pop;rw[r1.toS h1,r2.toS h2];exact⟨h3,hQ _ H _ ⟨os,I2.push (Rep.ofS rfl)⟩ q⟩
def qI:D->Bool
 |.non=>true
 |_=>false
theorem Rep.non_iff{K:W.Frag}{G:Option Addr}{Z:Addr->Prop}{H:Hp}{v:V}:∀{d:D},Rep K G Z H d v->decide (v=.non)=qI d
 |.non,h=>by unfold Rep at h;rw[h];rfl
 |.bl b,h=>by unfold Rep at h;rw[h];rfl
 |.int b,h=>by unfold Rep at h;rw[h];rfl
 |.str b,h=>by unfold Rep at h;rw[h];rfl
 |.ty b,h=>by unfold Rep at h;rw[h];rfl
 |.st,h=>by unfold Rep at h;obtain⟨a,_,h⟩:=h;rw[h];rfl
 |.tup ds,h=>by obtain⟨a,xs,h,_⟩:=h.tup_inv;rw[h];rfl
 |.lst ds,h=>by obtain⟨a,xs,h,_⟩:=h.lst_inv;rw[h];rfl
 |.own ds,h=>by unfold Rep at h;exact h.elim
 |.owT _ _,h=>by unfold Rep at h;exact h.elim
 |.fz ds,h=>by obtain⟨a,xs,h,_⟩:=h.fz_inv;rw[h];rfl
 |.dic,h=>by unfold Rep at h;obtain⟨a,kvs,h,_⟩:=h;rw[h];rfl
 |.prT _,h=>by unfold Rep at h;obtain⟨a,h,_⟩:=h;rw[h];rfl
 |.dct _ _,h=>by unfold Rep at h;obtain⟨a,xs,h,_⟩:=h;rw[h];rfl
def zW3:RD2:=λd1 d2 k=>d2=.non/\k (.bl (qI d1))
def zg4:RD2:=λd1 d2 k=>d2=.non/\k (.bl (!qI d1))
def qi:kZ A (λx y H Q=>y=.non/\Q (.bl (decide (x=.non))) H) zW3:=by
 rintro os n rho sg H ds vs d1 d2 v1 v2 k Q I ⟨rfl,q⟩ hQ;obtain⟨I1,r2⟩:=I.pop;obtain⟨I2,r1⟩:=I1.pop;have e:v2=.non:=r2.toS rfl
 exact⟨e,by rw[r1.non_iff];exact hQ _ H _ ⟨os,I2.push (Rep.ofS (d:=.bl (qI d1)) rfl)⟩ q⟩
def ZP:kZ A (λx y H Q=>y=.non/\Q (.bl (!decide (x=.non))) H) zg4:=by
 rintro os n rho sg H ds vs d1 d2 v1 v2 k Q I ⟨rfl,q⟩ hQ;obtain⟨I1,r2⟩:=I.pop;obtain⟨I2,r1⟩:=I1.pop;have e:v2=.non:=r2.toS rfl
 exact⟨e,by rw[r1.non_iff];exact hQ _ H _ ⟨os,I2.push (Rep.ofS (d:=.bl (!qI d1)) rfl)⟩ q⟩
def rdB(f:Bool->Bool->Bool):RD2:=λd1 d2 k=>match d1,d2 with |.bl c,.bl d=>k (.bl (f c d)) |_,_=>False
def Yp:RD2:=λd1 d2 k=>∃es i d,(d1=.lst es\/d1=.tup es\/d1=.fz es)/\d2=.int i/\atI es i=some d/\k d
def VP{K:W.Frag}{G:Option Addr}{Z:Addr->Prop}{H:Hp}{es:List D}{xs:List V}{i:Int}{d:D}(h:Reps K G Z H es xs)(e:atI es i=some d):∃v,atI xs i=some v/\Rep K G Z H d v:=by
 unfold atI at e ⊢;rw[h.length]
 cases q:ixN es.length i with
 |none=>rw[q] at e;cases e
 |some j=>
  rw[q] at e;exact h.get (i:=j) e
def wA:kZ A (rIx A.K) Yp:=by
 rintro os n rho sg H ds vs d1 d2 v1 v2 k Q I ⟨es,i,d,h1,rfl,h2,q⟩ hQ;obtain⟨I1,r2⟩:=I.pop;obtain⟨I2,r1⟩:=I1.pop
 rcases h1 with rfl |rfl |rfl
 ·obtain⟨a,xs,e,sq,rs⟩:=r1.lst_inv;obtain⟨v,e1,rv⟩:=VP rs h2;exact .inl ⟨a,xs,i,v,e,r2.int_inv,sq.sq,e1,hQ v H d ⟨os,I2.push rv⟩ q⟩
 ·obtain⟨a,xs,e,sq,rs⟩:=r1.tup_inv;obtain⟨v,e1,rv⟩:=VP rs h2;exact .inr (.inl ⟨a,xs,i,v,e,r2.int_inv,sq.sq,e1,hQ v H d ⟨os,I2.push rv⟩ q⟩)
 ·obtain⟨a,xs,e,sq,rs⟩:=r1.fz_inv;obtain⟨v,e1,rv⟩:=VP rs h2;exact .inl ⟨a,xs,i,v,e,r2.int_inv,sq,e1,hQ v H d ⟨os,I2.push rv⟩ q⟩
def zW8:RD2:=λd1 d2 k=>∃es fs,d1=.lst es/\d2=.lst fs/\es.length+fs.length<=sizeLine/\k (.lst (es++fs))
def zg2:kZ A xA9 zW8:=by
 rintro os n rho sg H ds vs d1 d2 v1 v2 k Q I ⟨es,fs,rfl,rfl,hz,q⟩ hQ;obtain⟨I1,r2⟩:=I.pop;obtain⟨I2,r1⟩:=I1.pop;obtain⟨a,xs,e,sq,rs⟩:=r1.lst_inv;obtain⟨b,ys,e',sq',rs'⟩:=r2.lst_inv
 exact⟨a,b,xs,ys,e,e',sq.2,sq'.2,by rw[rs.length,rs'.length];exact hz,λp hp=>hQ _ _ _ ⟨os,I2.newLst (rs.append rs') hp⟩ q⟩
def zg3:RD2:=λd1 d2 k=>∃es i,d1=.tup es/\d2=.int i/\es≠[]/\1<=i/\es.length*i.toNat<=sizeLine/\k (.tup (replicate i.toNat es).flatten)
def zJ8:kZ A (zW9 A.K) zg3:=by
 rintro os n rho sg H ds vs d1 d2 v1 v2 k Q I ⟨es,i,rfl,rfl,hne,h1,hz,q⟩ hQ;obtain⟨I1,r2⟩:=I.pop;obtain⟨I2,r1⟩:=I1.pop;have r1':=r1;obtain⟨a,xs,e,sq,rs⟩:=r1.tup_inv;have hl:=rs.length
 refine⟨a,i,xs,e,r2.int_inv,sq.sq,λz=>hne ?_,h1,by rw[hl];exact hz,λhi=>?_,λhi p hp=>?_⟩
 ·rw[z] at hl;exact zX.mp hl.symm
 ·subst hi
  have e1:(replicate (1:Int).toNat es).flatten=es:=by simp
  rw[e1] at q;rw[e] at r1';exact hQ _ H _ ⟨os,I2.push r1'⟩ q
 ·exact hQ _ _ _ ⟨os,I2.newTup (rs.flatRep i.toNat) hp⟩ q
def zi6(ha:PD A X a ta):PD A X (.UnaryOp .USub a pos) (λrho n P=>ta rho n λd n'=>∃i,d=.int i/\P (.int (-i)) n'):=by
 exists (xw0 zT0 ha).imp λsg H Q h=>by
   obtain⟨rho,n,P,ds,vs,I,ht,hQ⟩:=h;refine⟨rho,n,_,ds,vs,I,ht,λv H' n' d ⟨os,J⟩ k=>?_⟩;obtain⟨i,rfl,k⟩:=k;obtain⟨J1,r⟩:=J.pop;exact⟨i,r.int_inv,hQ _ H' n' _ ⟨os,J1.push (Rep.ofS (d:=.int (-i)) rfl)⟩ k⟩
variable {t u:TBD}{rest:List Expr}
def xz0(t u:TBD):TBD:=λrho n P=>t rho n λc n1=>if c=true then u rho n1 P else P false n1
def bOr(t u:TBD):TBD:=λrho n P=>t rho n λc n1=>if c=true then P true n1 else u rho n1 P
def xy9(t:TBD):TBD:=λrho n P=>t rho n λc n1=>P (!c) n1
def qA(ha:PTD A X a t):PWD A X (.BoolOp .And [a] pos) t:=by exists zK6 ha
def KU(ha:PTD A X a t):PWD A X (.BoolOp .Or [a] pos) t:=by exists zY0 ha
def qB(ha:PTD A X a t)(hb:PWD A X (.BoolOp .And (b::rest) pos) u):PWD A X (.BoolOp .And (a::b::rest) pos) (xz0 t u):=by
 exists (zY1 ha hb).imp λsg H Q h=>by
   obtain⟨rho,n,P,ds,vs,I,ht,hQ⟩:=h;refine⟨rho,n,_,ds,vs,I,ht,λc H' n' J k=>?_⟩
   cases c with
   |true=>exact⟨rho,n',P,ds,vs,J,k,hQ⟩
   |false=>exact hQ _ _ _ J k
def zg7(ha:PTD A X a t)(hb:PWD A X (.BoolOp .Or (b::rest) pos) u):PWD A X (.BoolOp .Or (a::b::rest) pos) (bOr t u):=by
 exists (xv7 ha hb).imp λsg H Q h=>by
   obtain⟨rho,n,P,ds,vs,I,ht,hQ⟩:=h;refine⟨rho,n,_,ds,vs,I,ht,λc H' n' J k=>?_⟩
   cases c with
   |false=>exact⟨rho,n',P,ds,vs,J,k,hQ⟩
   |true=>exact hQ _ _ _ J k
def PWD.pt(h:PWD A X e t):PTD A X e t:=by exists PW.pt h
def Vi(ha:PTD A X a t):PTD A X (.UnaryOp .Not a pos) (xy9 t):=by
 exists (zY4 ha).imp λsg H Q h=>by
   obtain⟨rho,n,P,ds,vs,I,ht,hQ⟩:=h;exact⟨rho,n,_,ds,vs,I,ht,λc H' n' J k=>hQ _ _ _ J k⟩
def xG2(ta tb:TD):TD:=λrho n P=>ta rho n λd n1=>∃c,d=.bl c/\if c=true then tb rho n1 P else P (.bl false) n1
def dOr(ta tb:TD):TD:=λrho n P=>ta rho n λd n1=>∃c,d=.bl c/\if c=true then P (.bl true) n1 else tb rho n1 P
def xG0(ta:TD):TD:=λrho n P=>ta rho n λd n1=>∃c,d=.bl c/\P (.bl (!c)) n1
def zF0{op:BoolOp}(h:PD A X a ta):PD A X (.BoolOp op [a] pos) ta:=by exists zZ2 h
def zi7(ha:PD A X a ta)(hb:PD A X (.BoolOp .And (b::rest) pos) tb):PD A X (.BoolOp .And (a::b::rest) pos) (xG2 ta tb):=by
 exists (zZ5 ha hb).imp λsg H Q h=>by
   obtain⟨rho,n,P,ds,vs,I,ht,hQ⟩:=h;refine⟨rho,n,_,ds,vs,I,ht,λv H' n' d ⟨os,J⟩ k=>?_⟩;obtain⟨c,rfl,k⟩:=k;obtain⟨J1,r⟩:=J.pop;refine⟨c,r.bl_inv,?_⟩
   cases c with
   |true=>exact⟨rho,n',P,ds,vs,⟨os,J1⟩,k,hQ⟩
   |false=>exact hQ _ _ _ _ ⟨os,J1.push (Rep.ofS (d:=.bl false) rfl)⟩ k
def zF1(ha:PD A X a ta):PD A X (.UnaryOp .Not a pos) (xG0 ta):=by
 exists (zZ3 ha).imp λsg H Q h=>by
   obtain⟨rho,n,P,ds,vs,I,ht,hQ⟩:=h;refine⟨rho,n,_,ds,vs,I,ht,λv H' n' d ⟨os,J⟩ k=>?_⟩;obtain⟨c,rfl,k⟩:=k;obtain⟨J1,r⟩:=J.pop;exact⟨c,r.bl_inv,hQ _ _ _ _ ⟨os,J1.push (Rep.ofS (d:=.bl (!c)) rfl)⟩ k⟩
def dIf(t:TBD)(ta tb:TD):TD:=λrho n P=>t rho n λc n1=>if c=true then ta rho n1 P else tb rho n1 P
def KZ(hc:PTD A X c t)(ha:PD A X a ta)(hb:PD A X b tb):PD A X (.IfExp c a b pos) (dIf t ta tb):=by
 exists (zx6 hc ha hb).imp λsg H Q h=>by
   obtain⟨rho,n,P,ds,vs,I,ht,hQ⟩:=h;refine⟨rho,n,_,ds,vs,I,ht,λc H' n' J k=>?_⟩
   cases c with
   |true=>exact⟨rho,n',P,ds,vs,J,k,hQ⟩
   |false=>exact⟨rho,n',P,ds,vs,J,k,hQ⟩
variable {t1:TAD}
def xg5:TAD:=λ_ n P=>P [] n
def JE(t:TD)(r:TAD):TAD:=λrho n P=>t rho n λd n1=>r rho n1 λds n2=>P (d::ds) n2
def zm:PAD A X [] xg5:=by
 exists Zu.imp λsg H Q h=>by
   obtain⟨rho,n,P,ds,vs,I,ht,hQ⟩:=h;exact hQ [] H n [] I rfl ht
def zv7{K:W.Frag}{G:Option Addr}{Z:Addr->Prop}{H:Hp}{es ds:List D}{ws vs:List V}{d:D}{v:V}(h:Reps K G Z H (es++d::ds) (ws++v::vs))(hl:ws.length=es.length):Reps K G Z H (d::es++ds) (v::ws++vs):=by
 have h1:=h.take es.length;have h2:=h.drop es.length;rw[take_left' rfl,take_left' hl] at h1;rw[yu rfl,yu hl] at h2;obtain⟨r,t⟩:=h2.inv;exact .cons r (h1.append t)
def vI:Expr->Bool
 |.Starred ..=>true
 |_=>false
def sE{e:Expr}{es:List Expr}{env:Env}(h:vI e=false):starEach (e::es) env=(false,eval e env)::starEach es env:=by
 cases e<;>first |(simp[starEach];done) |(simp[vI] at h;done)
def zc(ha:PD A X a ta)(hr:PAD A X es t1)(hs:vI a=false:=by rfl):PAD A X (a::es) (JE ta t1):=by
 exists (qD ha hr (sE hs)).imp λsg H Q h=>by
   obtain⟨rho,n,P,ds,vs,I,ht,hQ⟩:=h;refine⟨rho,n,_,ds,vs,I,ht,λv H' n' d J k=>⟨rho,n',_,d::ds,v::vs,J,k,λws H2 n2 es' ⟨os,J2⟩ hl k2=>?_⟩⟩
   exact hQ (v::ws) H2 n2 (d::es') ⟨os,J2.pends (zv7 J2.pend hl)⟩ (by rw[zG,zG,hl]) k2
def YB{K:W.Frag}{G:Option Addr}{Z:Addr->Prop}{H:Hp}{es ds:List D}{ws vs:List V}(h:Reps K G Z H (es++ds) (ws++vs))(hl:ws.length=es.length):Reps K G Z H es ws/\Reps K G Z H ds vs:=by
 have h1:=h.take es.length;have h2:=h.drop es.length;rw[take_left' rfl,take_left' hl] at h1;rw[yu rfl,yu hl] at h2;exact⟨h1,h2⟩
def xF7(t:TAD):TD:=λrho n P=>t rho n λds n1=>ds.length<=sizeLine/\P (.tup ds) n1
def xy6(t:TAD):TD:=λrho n P=>t rho n λds n1=>ds.length<=sizeLine/\P (.lst ds) n1
def vf{x1}(h:PAD A X es t1):PD A X (.Tuple es x1 pos) (xF7 t1):=by
 exists (zE9 h).imp λsg H Q h=>by
   obtain⟨rho,n,P,ds,vs,I,ht,hQ⟩:=h
   refine⟨rho,n,_,ds,vs,I,ht,λws H' n' es' ⟨os,J⟩ hl k=>⟨by rw[hl];exact k.1,λp hp=>?_⟩⟩
   obtain⟨q1,q2⟩:=YB J.pend hl;exact hQ _ _ n' _ ⟨os,(J.pends q2).newTup q1 hp⟩ k.2
def vN(h:PAD A X es t1):PD A X (.List es pos) (xy6 t1):=by
 exists (Uv h).imp λsg H Q h=>by
   obtain⟨rho,n,P,ds,vs,I,ht,hQ⟩:=h
   refine⟨rho,n,_,ds,vs,I,ht,λws H' n' es' ⟨os,J⟩ hl k=>⟨by rw[hl];exact k.1,λp hp=>?_⟩⟩
   obtain⟨q1,q2⟩:=YB J.pend hl;exact hQ _ _ n' _ ⟨os,(J.pends q2).newLst q1 hp⟩ k.2
def vo(A:AC)(r:List V->Hp->VK->Prop)(rd:List D->(D->Prop)->Prop):Prop:=
 ∀os n rho sg H ds vs es ws (k:D->Prop) (Q:VK),AmO A os n rho sg H ds vs->Reps A.K A.G (Zof A os) H es ws->rd es k->(∀v H' d,Am A n rho sg H' (d::ds) (v::vs)->k d->Q v H')->r ws H Q
def zC5(rd:List D->(D->Prop)->Prop)(t:TAD):TD:=λrho n P=>t rho n λes n1=>rd es λd=>P d n1
def zE1{r:List V->Hp->VK->Prop}{rd:List D->(D->Prop)->Prop}(hr:vo A r rd){sg:St}{H:Hp}{Q:VK}(h:tOf A (zC5 rd t1) sg H Q):tCB r (xz6 A t1) sg H Q:=by
 obtain⟨rho,n,P,ds,vs,I,ht,hQ⟩:=h;refine⟨rho,n,_,ds,vs,I,ht,λws H' n' es' ⟨os,J⟩ hl k=>?_⟩;obtain⟨q1,q2⟩:=YB J.pend hl;exact hr _ _ _ _ _ _ _ _ _ _ Q (J.pends q2) q1 k λv H2 d J2 k2=>hQ v H2 n' d J2 k2
def wm{x:Str}{p:Pos}{id:String}{r:List V->Hp->VK->Prop}{rd:List D->(D->Prop)->Prop}(hc:kG X (.builtin id) r)(hr:vo A r rd)(hm:X.mg x=none)(hv:bootBuiltins x=some (.builtin id))(ha:PAD A X (e::es) t1)(hg:Gl X x:=by rfl)(hn:x ≠ "__name__" := by decide)(hdb:(x == ("__debug__" : Str))=false:=by decide)
  (he:starEach (e::es) X.env=(false,eval e X.env)::starEach es X.env:=by rfl) (hpl:(backTo pos (starEach es X.env)).any (·.1)=false:=by rfl):PD A X (.Call (.Name x p) (e::es) [] pos) (zC5 rd t1):=by
 exists 
   (Vm hc hg hm hv ha hn hdb he hpl).imp λ_ _ _=>zE1 hr
def yW{x:Str}{p:Pos}{T:String}{r:List V->Hp->VK->Prop}{rd:List D->(D->Prop)->Prop}(hc:kG X (.type T) r)(hr:vo A r rd)(hm:X.mg x=none)(hv:bootBuiltins x=some (.type T))(ha:PAD A X (e::es) t1)(hg:Gl X x:=by rfl)(hn:x ≠ "__name__" := by decide)(hdb:(x == ("__debug__" : Str))=false:=by decide)
  (he:starEach (e::es) X.env=(false,eval e X.env)::starEach es X.env:=by rfl) (hpl:(backTo pos (starEach es X.env)).any (·.1)=false:=by rfl):PD A X (.Call (.Name x p) (e::es) [] pos) (zC5 rd t1):=by
 exists 
   (Ux hc hg hm hv ha hn hdb he hpl).imp λ_ _ _=>zE1 hr
def kL{K:W.Frag}{G:Option Addr}{Z:Addr->Prop}{H:Hp}{d:D}{ws:List V}(h:Reps K G Z H [d] ws):∃v,ws=[v]/\Rep K G Z H d v:=by
 obtain⟨v,r,rfl,q,t⟩:=h.split;rw[t.nil_inv];exact⟨v,rfl,q⟩
def Uq{K:W.Frag}{G:Option Addr}{Z:Addr->Prop}{H:Hp}{d d':D}{ws:List V}(h:Reps K G Z H [d,d'] ws):∃v v',ws=[v,v']/\Rep K G Z H d v/\Rep K G Z H d' v':=by
 obtain⟨v,r,rfl,q,t⟩:=h.split;obtain⟨v',rfl,q'⟩:=kL t;exact⟨v,v',rfl,q,q'⟩
def zG2:List D->(D->Prop)->Prop:=λes k=>∃fs,(es=[.lst fs]\/es=[.tup fs]\/es=[.fz fs])/\k (.int fs.length)
def xF6:List D->(D->Prop)->Prop:=λes k=>∃i,es=[.int i]/\k (.int (if i<0 then -i else i))
def xd2:List D->(D->Prop)->Prop:=λes k=>∃c,es=[.bl c]/\k (.int (if c then 1 else 0))
def xM7:List D->(D->Prop)->Prop:=λes k=>∃bs:List Bool,es=[.lst (bs.map D.bl)]/\k (.bl (bs.any id))
def zn1:List D->(D->Prop)->Prop:=λes k=>∃fs,(es=[.lst fs]\/es=[.tup fs])/\k (.tup fs)
def zP6:List D->(D->Prop)->Prop:=λes k=>∃fs,(es=[.lst fs]\/es=[.tup fs])/\k (.lst fs)
def qo:vo A (λxs H Q=>∃p ys,xs=[.ref p]/\(SqL A.K H p ys\/SqT A.K H p ys)/\Q (.int ys.length) H) zG2:=by
 rintro os n rho sg H ds vs es ws k Q I rs ⟨fs,h,q⟩ hQ
 rcases h with rfl |rfl |rfl
 ·obtain ⟨v, rfl, r⟩ := kL rs;obtain⟨a,xs,rfl,sq,rr⟩:=r.lst_inv
  exact⟨a,xs,rfl,.inl sq.sq,by rw[rr.length];exact hQ _ H _ ⟨os,I.push (Rep.ofS rfl)⟩ q⟩
 ·obtain ⟨v, rfl, r⟩ := kL rs;obtain⟨a,xs,rfl,sq,rr⟩:=r.tup_inv
  exact⟨a,xs,rfl,.inr sq.sq,by rw[rr.length];exact hQ _ H _ ⟨os,I.push (Rep.ofS rfl)⟩ q⟩
 ·obtain ⟨v, rfl, r⟩ := kL rs;obtain⟨a,xs,rfl,sq,rr⟩:=r.fz_inv
  exact⟨a,xs,rfl,.inl sq,by rw[rr.length];exact hQ _ H _ ⟨os,I.push (Rep.ofS rfl)⟩ q⟩
def zH5:vo A (λxs H Q=>∃i,xs=[.int i]/\Q (.int (if i<0 then -i else i)) H) xF6:=by
 rintro os n rho sg H ds vs es ws k Q I rs ⟨i,rfl,q⟩ hQ;obtain⟨v,rfl,r⟩:=kL rs
 exact⟨i,by rw[r.int_inv],hQ _ H _ ⟨os,I.push (Rep.ofS rfl)⟩ q⟩
def Ju:vo A (λxs H Q=>(∃i,xs=[.int i]/\Q (.int i) H)\/∃k,xs=[.bl k]/\Q (.int (if k then 1 else 0)) H) xd2:=by
 rintro os n rho sg H ds vs es ws k Q I rs ⟨i,rfl,q⟩ hQ;obtain⟨v,rfl,r⟩:=kL rs
 exact .inr ⟨i,by rw[r.bl_inv],hQ _ H _ ⟨os,I.push (Rep.ofS rfl)⟩ q⟩
theorem Wt{K:W.Frag}{G:Option Addr}{Z:Addr->Prop}{H:Hp}:∀{bs:List Bool}{ws:List V},Reps K G Z H (bs.map D.bl) ws->ws=bs.map V.bl
 |[],ws,h=>h.nil_inv
 |b::bs,ws,h=>by
  obtain⟨v,r,rfl,q,t⟩:=h.split;rw[q.bl_inv,Wt t];rfl
def zH4:vo A (λxs H Q=>∃(p:Addr) (bs:List Bool),xs=[.ref p]/\SqL A.K H p (bs.map V.bl)/\Q (.bl (bs.any id)) H) xM7:=by
 rintro os n rho sg H ds vs es ws k Q I rs ⟨bs,rfl,q⟩ hQ;obtain⟨v,rfl,r⟩:=kL rs;obtain⟨a,xs,rfl,sq,rr⟩:=r.lst_inv;have e:=Wt rr;subst e;exact⟨a,bs,rfl,sq.sq,hQ _ H _ ⟨os,I.push (Rep.ofS rfl)⟩ q⟩
def vF:vo A (λxs H Q=>∃p ys,xs=[.ref p]/\((SqL A.K H p ys/\∀l,H l=none->Q (.ref l) (upd H l (.tup ys)))\/(SqT A.K H p ys/\Q (.ref p) H))) zn1:=by
 rintro os n rho sg H ds vs es ws k Q I rs ⟨fs,h,q⟩ hQ
 rcases h with rfl |rfl
 ·obtain⟨v,rfl,r⟩:=kL rs;obtain⟨a,xs,rfl,sq,rr⟩:=r.lst_inv;exact⟨a,xs,rfl,.inl ⟨sq.sq,λl hl=>hQ _ _ _ ⟨os,I.newTup rr hl⟩ q⟩⟩
 ·obtain⟨v,rfl,r⟩:=kL rs;have r':=r;obtain⟨a,xs,rfl,sq,rr⟩:=r.tup_inv;exact⟨a,xs,rfl,.inr ⟨sq.sq,hQ _ _ _ ⟨os,I.push r'⟩ q⟩⟩
def zR5:vo A (λxs H Q=>∃p ys,xs=[.ref p]/\(SqL A.K H p ys\/SqT A.K H p ys)/\∀l,H l=none->Q (.ref l) (upd H l (.lst ys))) zP6:=by
 rintro os n rho sg H ds vs es ws k Q I rs ⟨fs,h,q⟩ hQ
 rcases h with rfl |rfl
 ·obtain⟨v,rfl,r⟩:=kL rs;obtain⟨a,xs,rfl,sq,rr⟩:=r.lst_inv;exact⟨a,xs,rfl,.inl sq.sq,λl hl=>hQ _ _ _ ⟨os,I.newLst rr hl⟩ q⟩
 ·obtain⟨v,rfl,r⟩:=kL rs;obtain⟨a,xs,rfl,sq,rr⟩:=r.tup_inv;exact⟨a,xs,rfl,.inr sq.sq,λl hl=>hQ _ _ _ ⟨os,I.newLst rr hl⟩ q⟩
def zP9(T:String):D->Bool
 |.bl _=>T == "bool" || T == "int"
 |.int _=>T == "int"
 |.str _=>T == "str"
 |.tup _=>T == "tuple"
 |.lst _=>T == "list"
 |_=>false
def VF:D->Bool
 |.non=>true |.bl _=>true |.int _=>true |.str _=>true |.tup _=>true |.lst _=>true |.dic=>true |_=>false
def zS7:List D->(D->Prop)->Prop:=λes k=>∃d T,es=[d,.ty T]/\(T = "bool" \/ T = "int" \/ T = "str" \/ T = "tuple" \/ T = "list")/\VF d=true/\k (.bl (zP9 T d))
end
section
variable {A:AC}{os:List (Nat × Addr)}{n:Nat}{rho:Rho}{sg:St}{H:Hp}{ds es:List D}{vs ws:List V}{d:D}{v:V}
def AmO.split(I:AmO A os n rho sg H (es++ds) (ws++vs))(hl:ws.length=es.length):AmO A os n rho sg H ds vs/\Reps A.K A.G (Zof A os) H es ws:=
 let ⟨q1,q2⟩:=YB I.pend hl
 ⟨I.pends q2,q1⟩
def AmO.join(I:AmO A os n rho sg H ds vs)(h:Reps A.K A.G (Zof A os) H es ws):AmO A os n rho sg H (es++ds) (ws++vs):=I.pends (h.append I.pend)
def AmO.under(I:AmO A os n rho sg H (d::(es++ds)) (v::(ws++vs)))(hl:ws.length=es.length):AmO A os n rho sg H (d::ds) (v::vs):=by
 obtain⟨J,r⟩:=I.pop;exact(J.split hl).1.push r
def AmO.front(m:Nat)(I:AmO A os n rho sg H ds vs):AmO A (os.map λp=>(p.1+m,p.2)) n (replicate m none++rho) (replicate m none++sg) H ds vs:=by
 have zz:∀a,Zof A (os.map λp=>(p.1+m,p.2)) a->Zof A os a:=λa z=>by
  rcases z with z |⟨p,hp,e⟩
  ·exact .inl z
  ·obtain⟨q,hq,rfl⟩:=zi.mp hp;exact .inr ⟨q,hq,e⟩
 refine⟨by simp[I.len],λi c e=>?_,Reps.mono (λa _ z=>zz a z) (λ_ _ _ e=>e) _ _ I.pend,?_,λp hp=>?_,I.st,I.gz,I.fr,I.z0⟩
 ·have hi : m <= i := by
   apply wZ;intro hlt
   rw[xv (by simpa using hlt),xg,if_pos hlt] at e
   cases e
  rw[xi (by simpa using hi),xu] at e
  obtain⟨u,e1,e2⟩:=I.slot _ c e
  refine⟨u,by rw[xi (by simpa using hi),xu];exact e1,?_⟩
  have key:∀j,j+m=i->SlotR A os H j c u->SlotR A (os.map λp=>(p.1+m,p.2)) H i c u:=λj hj h=>by
   subst hj
   cases c with
   |own fs=>
    obtain⟨a,xs,q1,q2,q3,q4⟩:=h;exact⟨a,xs,q1,zi.mpr ⟨_,q2,rfl⟩,q3,Reps.mono (λa _ z=>zz a z) (λ_ _ _ e=>e) _ _ q4⟩
   |owT ks fs=>
    obtain⟨a,xs,q1,q2,q3,ql,q4⟩:=h;exact⟨a,xs,q1,zi.mpr ⟨_,q2,rfl⟩,q3,ql,Reps.mono (λa _ z=>zz a z) (λ_ _ _ e=>e) _ _ q4⟩
   |non=>exact Rep.mono (λa _ z=>zz a z) (λ_ _ _ e=>e) _ _ h
   |bl _=>exact Rep.mono (λa _ z=>zz a z) (λ_ _ _ e=>e) _ _ h
   |int _=>exact Rep.mono (λa _ z=>zz a z) (λ_ _ _ e=>e) _ _ h
   |str _=>exact Rep.mono (λa _ z=>zz a z) (λ_ _ _ e=>e) _ _ h
   |ty _=>exact Rep.mono (λa _ z=>zz a z) (λ_ _ _ e=>e) _ _ h
   |tup _=>exact Rep.mono (λa _ z=>zz a z) (λ_ _ _ e=>e) _ _ h
   |lst _=>exact Rep.mono (λa _ z=>zz a z) (λ_ _ _ e=>e) _ _ h
   |st=>exact Rep.mono (λa _ z=>zz a z) (λ_ _ _ e=>e) _ _ h
   |fz _=>exact Rep.mono (λa _ z=>zz a z) (λ_ _ _ e=>e) _ _ h
   |dic=>exact Rep.mono (λa _ z=>zz a z) (λ_ _ _ e=>e) _ _ h
   |prT _=>exact Rep.mono (λa _ z=>zz a z) (λ_ _ _ e=>e) _ _ h
   |dct _ _=>exact Rep.mono (λa _ z=>zz a z) (λ_ _ _ e=>e) _ _ h
  exact key (i-m) w5 e2
 ·rw [xI]
  exact I.nd.imp λ{p q} h=>⟨λz=>h.1 (by simpa using z),h.2⟩
 ·obtain⟨q,hq,rfl⟩:=zi.mp hp;exact I.fresh q hq
def AmO.back{m:Nat}{rho':Rho}{sg':St}(I:AmO A os n rho' sg' H ds vs)(h1:rho'.drop m=rho)(h2:sg'.drop m=sg):∃os',AmO A os' n rho sg H ds vs:=by
 refine⟨(os.filter λp=>decide (m<=p.1)).map λp=>(p.1-m,p.2),?_⟩
 have zz:∀a,Zof A ((os.filter λp=>decide (m<=p.1)).map λp=>(p.1-m,p.2)) a->Zof A os a:=λa z=>by
  rcases z with z |⟨p,hp,e⟩
  ·exact .inl z
  ·obtain⟨q,hq,rfl⟩:=zi.mp hp;exact .inr ⟨q,(zx.mp hq).1,e⟩
 subst h1 h2
 refine⟨by simp[I.len],λi c e=>?_,Reps.mono (λa _ z=>zz a z) (λ_ _ _ e=>e) _ _ I.pend,?_,λp hp=>?_,I.st,I.gz,I.fr,I.z0⟩
 ·rw [yf] at e;obtain⟨u,e1,e2⟩:=I.slot _ c e
  refine⟨u,by rw[yf];exact e1,?_⟩
  cases c with
  |own fs=>
   obtain⟨a,xs,q1,q2,q3,q4⟩:=e2
   exact⟨a,xs,q1,zi.mpr ⟨_,zx.mpr ⟨q2,by simp⟩,by simp⟩,q3,Reps.mono (λa _ z=>zz a z) (λ_ _ _ e=>e) _ _ q4⟩
  |owT ks fs=>
   obtain⟨a,xs,q1,q2,q3,ql,q4⟩:=e2
   exact⟨a,xs,q1,zi.mpr ⟨_,zx.mpr ⟨q2,by simp⟩,by simp⟩,q3,ql,Reps.mono (λa _ z=>zz a z) (λ_ _ _ e=>e) _ _ q4⟩
  |non=>exact Rep.mono (λa _ z=>zz a z) (λ_ _ _ e=>e) _ _ e2
  |bl _=>exact Rep.mono (λa _ z=>zz a z) (λ_ _ _ e=>e) _ _ e2
  |int _=>exact Rep.mono (λa _ z=>zz a z) (λ_ _ _ e=>e) _ _ e2
  |str _=>exact Rep.mono (λa _ z=>zz a z) (λ_ _ _ e=>e) _ _ e2
  |ty _=>exact Rep.mono (λa _ z=>zz a z) (λ_ _ _ e=>e) _ _ e2
  |tup _=>exact Rep.mono (λa _ z=>zz a z) (λ_ _ _ e=>e) _ _ e2
  |lst _=>exact Rep.mono (λa _ z=>zz a z) (λ_ _ _ e=>e) _ _ e2
  |st=>exact Rep.mono (λa _ z=>zz a z) (λ_ _ _ e=>e) _ _ e2
  |fz _=>exact Rep.mono (λa _ z=>zz a z) (λ_ _ _ e=>e) _ _ e2
  |dic=>exact Rep.mono (λa _ z=>zz a z) (λ_ _ _ e=>e) _ _ e2
  |prT _=>exact Rep.mono (λa _ z=>zz a z) (λ_ _ _ e=>e) _ _ e2
  |dct _ _=>exact Rep.mono (λa _ z=>zz a z) (λ_ _ _ e=>e) _ _ e2
 ·rw [xI, List.pairwise_filter];refine I.nd.imp λ{p q} h hp hq=>⟨λz=>h.1 ?_,h.2⟩
  have a1:m<=p.1:=by simpa using hp
  have a2:m<=q.1:=by simpa using hq
  have z':p.1-m=q.1-m:=z;lia
 ·obtain⟨q,hq,rfl⟩:=zi.mp hp;exact I.fresh q (zx.mp hq).1
end
abbrev TGD:=D->Rho->(Rho->Prop)->Prop
abbrev zD5:=List D->Rho->(Rho->Prop)->Prop
def gOf(A:AC)(m:Nat)(g:TGD):TG:=λv sg H Q=>∃rho n P d ds vs,Am A n rho sg H (d::ds) (v::vs)/\g d rho P/\∀rho' sg',Am A n rho' sg' H ds vs->sg'.drop m=sg.drop m->P rho'->Q sg' H
def xN0(A:AC)(m:Nat)(g:zD5):TGs:=λus sg H Q=>∃rho n P es ds vs,Am A n rho sg H (es++ds) (us++vs)/\us.length=es.length/\g es rho P/\∀rho' sg',Am A n rho' sg' H ds vs->sg'.drop m=sg.drop m->P rho'->Q sg' H
@[irreducible] def PGD(A:AC)(X:Cx)(m:Nat)(tg:Expr)(g:TGD):Prop:=PG X tg (gOf A m g)
@[irreducible] def xl8(A:AC)(X:Cx)(m:Nat)(tg:List Expr)(g:zD5):Prop:=PGs X tg (xN0 A m g)
def PG.imp{X:Cx}{tg:Expr}{g g':TG}(h:PG X tg g)(hi:∀v sg H Q,g' v sg H Q->g v sg H Q):PG X tg g':=λpins s sg H v u Q I r q=>h pins s sg H v u Q I r (hi _ _ _ _ q)
def PGs.imp{X:Cx}{tg:List Expr}{g g':TGs}(h:PGs X tg g)(hi:∀v sg H Q,g' v sg H Q->g v sg H Q):PGs X tg g':=λpins s sg H v u Q I r q=>h pins s sg H v u Q I r (hi _ _ _ _ q)
section
variable {A:AC}{X:Cx}{m:Nat}{pos:Pos}
def zo5(i:Nat):TGD:=λd rho P=>i<rho.length/\P (rho.set i (some d))
def xo{i:Nat}{x:Str}(hN:X.N.Nodup)(hi:X.N[i]?=some x)(hx:Loc X.env.scope x)(hm:i<m)(hf:X.fn x=true\/X.env.scope.names.lookup x=some .local:=by first |exact .inl rfl |exact .inr rfl |assumption):PGD A X m (.Name x pos) (zo5 i):=by
 exists 
   (zL5 hN hi hx hf).imp λv sg H Q h => by
    obtain⟨rho,n,P,d,ds,vs,⟨os,I⟩,⟨hl,k⟩,hQ⟩:=h;refine hQ (rho.set i (some d)) (sg.set i (some v)) ⟨_,I.set hl⟩ ?_ k;rw[List.drop_set_of_lt hm]
def xe3:zD5:=λes rho P=>es=[]/\P rho
def zG5(g:TGD)(gs:zD5):zD5:=λes rho P=>∃d r,es=d::r/\g d rho λrho'=>gs r rho' P
def vy:xl8 A X m [] xe3:=by
 exists zL4.imp λus sg H Q h=>by
   obtain⟨rho,n,P,es,ds,vs,I,hl,⟨rfl,k⟩,hQ⟩:=h;have e:us=[]:=zX.mp hl;subst e;exact⟨rfl,hQ rho sg I rfl k⟩
def xR{e:Expr}{es:List Expr}{g:TGD}{gs:zD5}(h1:PGD A X m e g)(h2:xl8 A X m es gs)(hs:(assignEach (e::es) X.env).map (·.2)=assign e X.env::(assignEach es X.env).map (·.2):=by rfl):xl8 A X m (e::es) (zG5 g gs):=by
 exists 
   (zx4 h1 h2 hs).imp λus sg H Q h => by
    obtain⟨rho,n,P,es',ds,vs,I,hl,⟨d,r,rfl,k⟩,hQ⟩:=h
    cases us with
    |nil=>simp at hl
    |cons u us=>
     refine⟨u,us,rfl,⟨rho,n,_,d,r++ds,us++vs,I,k,λrho' sg' I' e1 k'=>⟨rho',n,P,r,ds,vs,I',by simpa using hl,k',λrho2 sg2 I2 e2 k2=>hQ rho2 sg2 I2 (e2.trans e1) k2⟩⟩⟩
def xe2(k:Nat)(gs:zD5):TGD:=λd rho P=>∃es,d=.tup es/\es.length=k/\gs es rho P
def vY{es:List Expr}{k:Nat}{gs:zD5}{kt:Nat}(hK:X.K=A.K)(hc:X.calm=true)(h:xl8 A X m es gs)(hn:(assignEach es X.env).length=k:=by rfl)(hst:(assignEach es X.env).findIdx? (·.1)=none:=by rfl):PGD A X m (.Tuple es kt pos) (xe2 k gs):=by
 exists 
   (zY9 (n := k) hc h hn hst).imp λv sg H Q h => by
    obtain⟨rho,n,P,d,ds,vs,⟨os,I⟩,⟨fs,rfl,hl,q⟩,hQ⟩:=h;obtain⟨J,r⟩:=I.pop;obtain⟨a,xs,rfl,sq,rs⟩:=r.tup_inv;have hx:=rs.length;rw[hK]
    exact⟨a,xs,rfl,sq.sq,by rw[hx];exact hl,rho,n,P,fs,ds,vs,⟨os,J.join rs⟩,hx,q,hQ⟩
end
abbrev TID:=Rho->Nat->(List D->Nat->Prop)->Prop
def JIs(A:AC)(J:It)(es:List D)(ws:List V)(items:List D):Prop:=∀n rho sg H ds vs i,Am A n rho sg H (es++ds) (ws++vs) ->
 (∀d,items[i]?=some d->J.go i H/\∀x H',J.yld i H x H'->Am A n rho sg H' (d::(es++ds)) (x::(ws++vs)))/\(items.length<=i->J.stop i H)
def iOf(A:AC)(it:TID):TI:=λsg H R=>∃rho n P ds vs,Am A n rho sg H ds vs/\it rho n P/\∀J H' n' items es ws,Am A n' rho sg H' (es++ds) (ws++vs)->ws.length=es.length->JIs A J es ws items->P items n'->R J H'
@[irreducible] def PID(A:AC)(X:Cx)(tg iter:Expr)(it:TID):Prop:=PI X tg iter (iOf A it)
def PI.imp{X:Cx}{tg e:Expr}{t t':TI}(h:PI X tg e t)(hi:∀sg H Q,t' sg H Q->t sg H Q):PI X tg e t':=λpins s sg H Q I q=>h pins s sg H Q I (hi _ _ _ q)
section
variable {A:AC}{X:Cx}{tg a b:Expr}{ta tb:TD}{pos p:Pos}{t1:TAD}
def KQ(lo:Int)(k:Nat):List D:=(List.range k).map fun(i:Nat)=>D.int (lo+(i:Int))
def xd8(t:TAD):TID:=λrho n P=>t rho n λes n1=>∃j:Int,es=[.int j]/\-(2^62)<=j/\j<2^62/\P (KQ 0 j.toNat) n1
def zP8{lo:Int}{k:Nat}:JIs A (Itr lo k) [] [] (KQ lo k):=λn2 rho2 sg2 H2 ds2 vs2 i ⟨os2,I2⟩=>by
 refine⟨λd e=>?_,λhi=>?_⟩
 ·unfold KQ at e;rw[zA] at e
  cases q:(List.range k)[i]? with
  |none=>rw[q] at e;cases e
  |some j=>
   rw[q] at e;cases e;have hj:=zq.mp q;obtain⟨hlt,ej⟩:=hj;rw[List.getElem_range] at ej;subst ej
   refine⟨(show i<k by simpa using hlt),λx H3 y=>?_⟩
   obtain⟨e3,e4⟩:=y;subst e3 e4;exact⟨os2,I2.push (Rep.ofS (d:=.int (lo+i)) rfl)⟩
 ·unfold KQ at hi
  exact(show k<=i by simpa using hi)
def qC(hm:X.mg "range" = none)(ha:PAD A X [a] t1)(hg:Gl X "range" := by rfl)(hs:starEach [a] X.env=[(false,eval a X.env)]:=by rfl):PID A X tg (.Call (.Name "range" p) [a] [] pos) (xd8 t1):=by
 exists 
   (zi2 hg hm ha hs).imp λsg H R h => by
    obtain⟨rho,n,P,ds,vs,I,ht,hQ⟩:=h;refine⟨rho,n,_,ds,vs,I,ht,λws H' n' es' ⟨os,J⟩ hl k=>?_⟩;obtain⟨j,rfl,h1,h2,k⟩:=k;obtain⟨J1,rs⟩:=J.split hl;obtain⟨v,rfl,r⟩:=kL rs
    exact⟨j,by rw[r.int_inv],h1,h2,hQ _ H' n' _ [] [] ⟨os,J1⟩ rfl zP8 k⟩
def YR:D->Option (Bool × List D)
 |.lst es=>some (true,es)
 |.tup es=>some (false,es)
 |_=>none
theorem Rep.seq{K:W.Frag}{G:Option Addr}{Z:Addr->Prop}{H:Hp}{v:V}{b:Bool}{es:List D}:∀{d:D},YR d=some (b,es)->Rep K G Z H d v->∃a xs,v=.ref a/\SqZ K Z H b a xs/\Reps K G Z H es xs
 |.lst fs,h,r=>by cases h;exact r.lst_inv
 |.tup fs,h,r=>by cases h;exact r.tup_inv
 |.non,h,_=>by cases h
 |.bl _,h,_=>by cases h
 |.int _,h,_=>by cases h
 |.str _,h,_=>by cases h
 |.ty _,h,_=>by cases h
 |.st,h,_=>by cases h
 |.own _,h,_=>by cases h
 |.owT _ _,h,_=>by cases h
 |.prT _,h,_=>by cases h
 |.fz _,h,_=>by cases h
def VZ(xs ys:List D):List D:=List.zipWith (λx y=>D.tup [x,y]) xs ys
def xd6(t:TAD):TID:=λrho n P=>t rho n λes n1=>∃d1 d2 b1 xs b2 ys,es=[d1,d2]/\YR d1=some (b1,xs)/\YR d2=some (b2,ys)/\P (VZ xs ys) n1
def zP7{d1 d2:D}{l1 l2:Addr}{b1 b2:Bool}{xs ys:List D}(h1:YR d1=some (b1,xs))(h2:YR d2=some (b2,ys)):JIs A (Itz A.K b1 b2 l1 l2) [d1,d2] [.ref l1,.ref l2] (VZ xs ys):=λn rho sg H ds vs i ⟨os,I⟩=>by
 obtain⟨I1,r1⟩:=AmO.pop (d:=d1) (v:=.ref l1) (ds:=d2::ds) (vs:=.ref l2::vs) I;obtain⟨I2,r2⟩:=I1.pop;obtain⟨a1,us,e1,sq1,rs1⟩:=r1.seq h1;obtain⟨a2,ws,e2,sq2,rs2⟩:=r2.seq h2;cases e1;cases e2;refine⟨λd e=>?_,λhi=>⟨us,ws,sq1.sq,sq2.sq,?_⟩⟩
 ·unfold VZ at e;rw[List.getElem?_zipWith] at e
  cases q1:xs[i]? with
  |none=>rw[q1] at e;cases e
  | some x =>
   cases q2:ys[i]? with
   |none=>rw[q1,q2] at e;cases e
   |some y=>
    rw[q1,q2] at e;cases e;obtain⟨u,eu,ru⟩:=rs1.get q1;obtain⟨w,ew,rw'⟩:=rs2.get q2;refine⟨⟨us,ws,u,w,sq1.sq,sq2.sq,eu,ew⟩,λv H3 yy=>?_⟩;obtain⟨T,hT,rfl,k⟩:=yy;obtain⟨u',w',eu',ew',rfl⟩:=k us ws sq1.sq sq2.sq;rw[eu] at eu';cases eu';rw[ew] at ew';cases ew';exact⟨os,I.newTup (.cons ru (.cons rw' .nil)) hT⟩
 ·rw[rs1.length,rs2.length];unfold VZ at hi;rw[wn] at hi;lia
def KY{es:List Expr}{kk:Nat}{ps:Pos}(hK:X.K=A.K)(hm:X.mg "zip" = none)(ha:PAD A X [a,b] t1)(hg:Gl X "zip" := by rfl)(hs:starEach [a,b] X.env=[(false,eval a X.env),(false,eval b X.env)]:=by rfl)(hs2:starEach [b] X.env=[(false,eval b X.env)]:=by rfl) :
  PID A X (.Tuple es kk ps) (.Call (.Name "zip" p) [a,b] [] pos) (xd6 t1):=by
 exists (zY8 hg hm ha hs hs2).imp λsg H R h=>by
   obtain⟨rho,n,P,ds,vs,I,ht,hQ⟩:=h;refine⟨rho,n,_,ds,vs,I,ht,λws H' n' es' ⟨os,J⟩ hl k=>?_⟩;obtain⟨d1,d2,b1,xs,b2,ys,rfl,h1,h2,k⟩:=k;obtain⟨J1,rs⟩:=J.split hl;obtain⟨v1,v2,rfl,r1,r2⟩:=Uq rs;obtain⟨a1,us,rfl,sq1,rs1⟩:=r1.seq h1;obtain⟨a2,ws',rfl,sq2,rs2⟩:=r2.seq h2;rw[hK];exact⟨b1,b2,a1,a2,us,ws',rfl,sq1.sq,sq2.sq,hQ _ H' n' _ [d1,d2] [.ref a1,.ref a2] ⟨os,J⟩ rfl (zP7 h1 h2) k⟩
end
section
variable {A:AC}{X:Cx}{tg iter elt:Expr}{ifs:List Expr}{scope:Scope}{own M:List Str}{pos:Pos}{it:TID}{g:TGD}{tt:TBD}{te:TD}
def zc0(it:TID)(own:Nat)(g:TGD)(tt:TBD)(te:TD):TD:=λrho n P=>it rho n λitems n1=>items.length<=sizeLine/\∃J:Nat->List D->Nat->Prop,J 0 [] n1 /\
 (∀i d acc n,items[i]?=some d->J i acc n->g d (replicate own none++rho) λrho'=>rho'.drop own=rho/\tt rho' n λc n2=>if c=true then te rho' n2 λe n3=>J (i+1) (acc++[e]) n3 else J (i+1) acc n2) /\
 ∀acc n,J items.length acc n->P (.lst acc) n
def xg2:TBD:=λ_ n P=>P true n
def PTs.imp{X:Cx}{e:List Expr}{t t':TT}(h:PTs X e t)(hi:∀sg H Q,t' sg H Q->t sg H Q):PTs X e t':=by exists λpins s sg H Q I q=>h pins s sg H Q I (hi _ _ _ q)
def ve{X:Cx}:PTs X [] (QN A xg2):=by
 exists zK8.imp λsg H Q h=>by
   obtain⟨rho,n,P,ds,vs,I,ht,hQ⟩:=h;exact hQ true H n I ht
def ze7{sg:St}{H:Hp}{Q:VK}{m:Nat}{rho:Rho}{n:Nat}{P:D->Nat->Prop}{ds:List D}{vs:List V}(I:Am A n rho sg H ds vs)(ht:zc0 it m g tt te rho n P)
  (hQ:∀os n' H' fs xs p,AmO A os n' rho sg H' ds vs->Reps A.K A.G (Zof A os) H' fs xs->H' p=none->P (.lst fs) n'->Q (.ref p) (upd H' p (.lst xs))):zu6 (iOf A it) m (gOf A m g) (QN A tt) (tOf A te) sg H Q:=by
 refine⟨rho,n,_,ds,vs,I,ht,λJ H' n' items es ws I1 hl hJ k=>?_⟩;obtain⟨hsz,W,w0,turn,fin⟩:=k
 refine⟨λi mm acc H=>mm=items.length-i/\i<=items.length/\acc.length<=i/\∃accD n,acc.length=accD.length/\Am A n rho sg H (es++(accD++ds)) (ws++(acc++vs))/\W i accD n,
  ⟨items.length,rfl,xJ _,zn _,[],n',rfl,I1,w0⟩,?_⟩
 rintro i mm acc H3 ⟨rfl,hi,hai,accD,n3,hal,⟨os,I3⟩,w3⟩;obtain⟨j1,j2⟩:=hJ n3 rho sg H3 (accD++ds) (acc++vs) i ⟨os,I3⟩
 by_cases hlt:i<items.length
 ·refine .inr ⟨(j1 items[i] (by simp [hlt])).1, by lia, λx H4 y => ?_⟩
  obtain⟨os4,I4⟩:=(j1 items[i] (by simp[hlt])).2 x H4 y
  refine⟨replicate m none++rho,n3,_,items[i],es++(accD++ds),ws++(acc++vs),⟨_,I4.front m⟩,turn i items[i] accD n3 (by simp[hlt]) w3,λrho' sg' ⟨os5,I5⟩ e5 k5=>?_⟩
  obtain⟨k5,k6⟩:=k5
  have e6:sg'.drop m=sg:=by rw[e5,yu (by simp)]
  refine⟨e6,rho',n3,_,es++(accD++ds),ws++(acc++vs),⟨os5,I5⟩,k6,λc H6 n6 ⟨os6,I6⟩ k7=>?_⟩
  cases c with
  |false=>
   obtain⟨os7,I7⟩:=I6.back k5 e6
   exact⟨items.length-(i+1),w5,rfl,hlt,w5,accD,n6,hal,⟨os7,I7⟩,k7⟩
  |true=>
   rw[if_pos rfl] at k7 ⊢;refine⟨rho',n6,_,es++(accD++ds),ws++(acc++vs),⟨os6,I6⟩,k7,λv H8 n8 d ⟨os8,I8⟩ k8=>?_⟩;obtain⟨os9,I9⟩:=I8.back k5 e6;obtain⟨I10,rv⟩:=I9.pop;obtain⟨I11,r1⟩:=I10.split hl;obtain⟨I12,r2⟩:=I11.split hal
   refine⟨items.length-(i+1),w5,rfl,hlt,by rw[zB,List.length_singleton];lia,accD++[d],n8,by simp[hal],⟨os9,(I12.join (r2.append (.cons rv .nil))).join r1⟩,k8⟩
 ·have e : i = items.length := by lia
  subst e;refine .inl ⟨j2 (zn _),zy hai hsz,λD hD=>?_⟩;obtain⟨I4,r1⟩:=I3.split hl;obtain⟨I5,r2⟩:=I4.split hal;exact hQ os n3 _ accD acc D I5 r2 hD (fin accD n3 w3)
def JQ{sg:St}{H:Hp}{Q:VK}{m:Nat}(h:tOf A (zc0 it m g tt te) sg H Q):zu6 (iOf A it) m (gOf A m g) (QN A tt) (tOf A te) sg H Q:=by
 obtain⟨rho,n,P,ds,vs,I,ht,hQ⟩:=h;exact ze7 I ht λos n' H' fs xs p J r hp k=>hQ _ _ n' _ ⟨os,J.newLst r hp⟩ k
def vK(ok:CompOk X scope M)(hc:X.calm=true)(hi:PID A X tg iter it)(hg:∀C s2 H2 fp,PGD A (wJ X scope own M C s2 H2 fp) own.length tg g)(ht:∀C s2 H2 fp,PTs (wJ X scope own M C s2 H2 fp) ifs (QN A tt))
  (he:∀C s2 H2 fp,PD A (wJ X scope own M C s2 H2 fp) elt te) (hs:∀x,foldedSetIterable iter X.env x=pure x:=by intro _;rfl):PD A X (.ListComp elt [⟨tg,iter,ifs,0⟩] scope pos) (zc0 it own.length g tt te):=by
 exists 
   (zM0 ok hc hi hg ht he hs).imp λ_ _ _=>JQ
end
structure EndsD where
 nx:Rho->Nat->Prop
 rt:D->Nat->Prop
 bk:Rho->Nat->Prop:=λ_ _=>False
 ct:Rho->Nat->Prop:=λ_ _=>False
abbrev TSD:=EndsD->Rho->Nat->Prop
structure EOk(A:AC)(E:JM)(F:EndsD)(ds:List D)(vs:List V):Prop where
 nx:∀rho n sg H,Am A n rho sg H ds vs->F.nx rho n->E.nx sg H
 rt:∀d n v rho sg H,Am A n rho sg H (d::ds) (v::vs)->F.rt d n->E.rt v H
 bk:∀rho n sg H,Am A n rho sg H ds vs->F.bk rho n->E.bk sg H
 ct:∀rho n sg H,Am A n rho sg H ds vs->F.ct rho n->E.ct sg H
def sOf(A:AC)(t:TSD):TS:=λE sg H=>∃rho n F ds vs,Am A n rho sg H ds vs/\t F rho n/\EOk A E F ds vs
@[irreducible] def PSD(A:AC)(X:Cx)(s:Stmt)(t:TSD):Prop:=PS X s (sOf A t)
@[irreducible] def zc8(A:AC)(X:Cx)(s:List Stmt)(t:TSD):Prop:=PSs X s (sOf A t)
section
variable {A:AC}{X:Cx}{st:Stmt}{rest:List Stmt}{t u:TSD}{e a b:Expr}{te:TD}{tc:TBD}{pos:Pos}
def zU9:TSD:=λF rho n=>F.nx rho n
def XT(t u:TSD):TSD:=λF rho n=>t { F with nx:=u F } rho n
def yS:zc8 A X [] zU9:=by
 exists zh2.imp λE sg H h=>by
   obtain⟨rho,n,F,ds,vs,I,ht,ok⟩:=h;exact ok.nx _ _ _ _ I ht
def zE(h1:PSD A X st t)(h2:zc8 A X rest u):zc8 A X (st::rest) (XT t u):=by
 exists (Vj h1 h2).imp λE sg H h=>by
   obtain⟨rho,n,F,ds,vs,I,ht,ok⟩:=h;exact⟨rho,n,{ F with nx:=u F },ds,vs,I,ht,⟨λrho' n' sg' H' I' k=>⟨rho',n',F,ds,vs,I',k,ok⟩,ok.rt,ok.bk,ok.ct⟩⟩
def zZ(h1:PSD A X st t):zc8 A X [st] t:=by exists zK9 h1
def xA0(te:TD):TSD:=λF rho n=>te rho n F.rt
def xY(he:PD A X e te):PSD A X (.Return (some e) pos) (xA0 te):=by
 exists (zE6 he).imp λE sg H h=>by
   obtain⟨rho,n,F,ds,vs,I,ht,ok⟩:=h;exact⟨rho,n,_,ds,vs,I,ht,λv H' n' d I' k=>ok.rt _ _ _ _ _ _ I' k⟩
def sIf(c:TBD)(t u:TSD):TSD:=λF rho n=>c rho n λb n1=>if b=true then t F rho n1 else u F rho n1
def vH{c:Expr}{sa sb:List Stmt}(hc:PTD A X c tc)(ha:zc8 A X sa t)(hb:zc8 A X sb u):PSD A X (.If c sa sb pos) (sIf tc t u):=by
 exists (xv9 hc ha hb).imp λE sg H h=>by
   obtain⟨rho,n,F,ds,vs,I,ht,ok⟩:=h;refine⟨rho,n,_,ds,vs,I,ht,λc H' n' J k=>?_⟩
   cases c with
   |true=>exact⟨rho,n',F,ds,vs,J,k,ok⟩
   |false=>exact⟨rho,n',F,ds,vs,J,k,ok⟩
def JU(i:Nat)(te:TD):TSD:=λF rho n=>i<rho.length/\te rho n λd n1=>F.nx (rho.set i (some d)) n1
def yj{i:Nat}{x:Str}{pos':Pos}(hN:X.N.Nodup)(hi:X.N[i]?=some x)(hx:Loc X.env.scope x)(he:PD A X e te)(hs:swapsWith e (some (.Name x pos')) pos.line X.env=pure false:=by rfl)(hf:X.fn x=true\/X.env.scope.names.lookup x=some .local:=by first |exact .inl rfl |exact .inr rfl |assumption) :
  PSD A X (.Assign [.Name x pos'] e pos) (JU i te):=by
 exists (JY hN hi hx he hs hf).imp λE sg H h=>by
   obtain⟨rho,n,F,ds,vs,I,⟨hl,ht⟩,ok⟩:=h;exact⟨rho,n,_,ds,vs,I,ht,λv H' n' d ⟨os,J⟩ k=>ok.nx _ _ _ _ ⟨_,J.set hl⟩ k⟩
def YY{i:Nat}{x:Str}{pos' spos:Pos}{tg iter elt:Expr}{ifs:List Expr}{scope:Scope}{own M:List Str}{it:TID}{g:TGD}{tt:TBD}(hN:X.N.Nodup)(hix:X.N[i]?=some x)(hx:Loc X.env.scope x)(ok:CompOk X scope M)(hc:X.calm=true)(hi:PID A X tg iter it)
  (hg:∀C s2 H2 fp,PGD A (wJ X scope own M C s2 H2 fp) own.length tg g) (ht:∀C s2 H2 fp,PTs (wJ X scope own M C s2 H2 fp) ifs (QN A tt)) (he:∀C s2 H2 fp,PD A (wJ X scope own M C s2 H2 fp) elt te)
  (hsw:swapsWith (.ListComp elt [⟨tg,iter,ifs,0⟩] scope pos) (some (.Name x pos')) spos.line X.env=pure true:=by rfl) (hf:X.fn x=true\/X.env.scope.names.lookup x=some .local:=by first |exact .inl rfl |exact .inr rfl |assumption)
  (hs:∀x,foldedSetIterable iter X.env x=pure x:=by intro _;rfl):PSD A X (.Assign [.Name x pos'] (.ListComp elt [⟨tg,iter,ifs,0⟩] scope pos) spos) (JU i (zc0 it own.length g tt te)):=by
 exists 
   (QU hN hix hx ok hc hi hg ht he hsw hf hs).imp λE sg H h => by
    obtain⟨rho,n,F,ds,vs,I,⟨hl,ht⟩,ok⟩:=h;exact JQ (A:=A) ⟨rho,n,_,ds,vs,I,ht,λv H' n' d ⟨os,J⟩ k=>ok.nx _ _ _ _ ⟨_,J.set hl⟩ k⟩
def xz9(te:TD)(g:TGD):TSD:=λF rho n=>te rho n λd n1=>g d rho λrho'=>F.nx rho' n1
def ZQ{tg:Expr}{g:TGD}{m:Nat}(he:PD A X e te)(hg:PGD A X m tg g)(hs:swapsWithSole [tg] e pos.line X.env=pure false:=by rfl)(hw:swappedStores [tg] e X.env=pure none:=by rfl)
  (h1:(assignEach [tg] X.env).map (·.2)=[assign tg X.env]:=by rfl):PSD A X (.Assign [tg] e pos) (xz9 te g):=by
 exists (zh8 he hg hs hw h1).imp λE sg H h=>by
   obtain⟨rho,n,F,ds,vs,I,ht,ok⟩:=h;exact⟨rho,n,_,ds,vs,I,ht,λv H' n' d J k=>⟨rho,n',_,d,ds,vs,J,k,λrho' sg' J' _ k'=>ok.nx _ _ _ _ J' k'⟩⟩
def zU7(i j:Nat)(t:TAD):TSD:=λF rho n=>i<rho.length/\j<rho.length/\t rho n λes n1=>∃d d',es=[d,d']/\F.nx ((rho.set i (some d)).set j (some d')) n1
def zL0{i j:Nat}{x y:Str}{ta:TAD}{px py pt:Pos}{kt k2 pt2}(hc:X.calm=true)(hN:X.N.Nodup)(hi:X.N[i]?=some x)(hj:X.N[j]?=some y)(hij:i≠j)
  (hx:X.env.scope.names.lookup x=some .local) (hy:X.env.scope.names.lookup y=some .local) (ha:PAD A X [a,b] ta)
  (hw:swappedStores [.Tuple [.Name x px,.Name y py] kt pt] (.Tuple [a,b] k2 pt2) X.env=pure (some [x,y]):=by rfl)
  (hs:swapsWithSole [.Tuple [.Name x px,.Name y py] kt pt] (.Tuple [a,b] k2 pt2) pos.line X.env=pure false:=by rfl) :
  PSD A X (.Assign [.Tuple [.Name x px,.Name y py] kt pt] (.Tuple [a,b] k2 pt2) pos) (zU7 i j ta):=by
 exists (zE7 hc hN hi hj hij hx hy ha hw hs).imp λE sg H h=>by
   obtain⟨rho,n,F,ds,vs,I,⟨hl,hl2,ht⟩,ok⟩:=h;refine⟨rho,n,_,ds,vs,I,ht,λws H' n' es ⟨os,J⟩ hlen k=>?_⟩;obtain⟨d,d',rfl,k⟩:=k;obtain⟨J1,rs⟩:=J.split hlen;obtain⟨v,v',rfl,r,r'⟩:=Uq rs;refine⟨v,v',rfl,ok.nx _ _ _ _ ?_ k⟩;have J2:AmO A os n' rho sg H' (d::d'::ds) (v::v'::vs):=(J1.push r').push r
   exact⟨_,(J2.set hl).set (by simpa using hl2)⟩
def xA2(it:TID)(g:TGD)(tb:TSD):TSD:=λF rho n=>it rho n λitems n1=>∃J:Nat->Rho->Nat->Prop,J 0 rho n1 /\
 (∀i d rho n,items[i]?=some d->J i rho n->g d rho λrho'=>tb { F with nx:=J (i+1),ct:=J (i+1),bk:=F.nx } rho' n)/\∀rho n,J items.length rho n->F.nx rho n
def jb{tg iter:Expr}{body:List Stmt}{it:TID}{g:TGD}{tb:TSD}{m:Nat}(hp:PassesOwn (model X.prog X.w) X.A X.env X.xe)(hc:X.calm=true)(hi:PID A X tg iter it)(hg:PGD A X m tg g)(hb:zc8 A X body tb)
  (hs:∀x,foldedSetIterable iter X.env x=pure x:=by intro _;rfl):PSD A X (.For tg iter body [] pos) (xA2 it g tb):=by
 exists (zY5 hp hc hi hg hb hs).imp λE sg H h=>by
   obtain⟨rho,n,F,ds,vs,I,ht,ok⟩:=h;refine⟨rho,n,_,ds,vs,I,ht,λJ H' n' items es ws I1 hl hJ k=>?_⟩;obtain⟨W,w0,turn,fin⟩:=k;refine⟨λi mm sg H=>mm=items.length-i/\i<=items.length/\∃rho n,Am A n rho sg H (es++ds) (ws++vs)/\W i rho n,⟨items.length,rfl,xJ _,rho,n',I1,w0⟩,?_⟩;rintro i mm sg3 H3 ⟨rfl,hi,rho3,n3,I3,w3⟩;obtain⟨j1,j2⟩:=hJ n3 rho3 sg3 H3 ds vs i I3
   by_cases hlt:i<items.length
   ·refine .inr ⟨(j1 items[i] (by simp [hlt])).1, λsg' H' => ∃ rho n, Am A n rho sg' H' (es ++ ds) (ws ++ vs) /\ W (i + 1) rho n, λsg' H' ⟨rho', n', I', w'⟩ => ⟨items.length - (i + 1), by lia, rfl, hlt, rho', n', I', w'⟩, λx H4 y => ?_⟩
    have I4:=(j1 items[i] (by simp[hlt])).2 x H4 y
    refine⟨rho3,n3,_,items[i],es++ds,ws++vs,I4,turn i items[i] rho3 n3 (by simp[hlt]) w3,λrho' sg' I5 _ k5=>⟨rho',n3,{ F with nx:=W (i+1),ct:=W (i+1),bk:=F.nx },es++ds,ws++vs,I5,k5,?_⟩⟩
    refine⟨λrho6 n6 sg6 H6 I6 k6=>⟨rho6,n6,I6,k6⟩,λd n6 v rho6 sg6 H6 ⟨os6,I6⟩ k6=>ok.rt _ _ _ _ _ _ ⟨os6,I6.under hl⟩ k6,λrho6 n6 sg6 H6 ⟨os6,I6⟩ k6=>ok.nx _ _ _ _ ⟨os6,(I6.split hl).1⟩ k6,λrho6 n6 sg6 H6 I6 k6=>⟨rho6,n6,I6,k6⟩⟩
   ·have e : i = items.length := by lia
    subst e;obtain⟨os,I3⟩:=I3;exact .inl ⟨j2 (zn _),ok.nx _ _ _ _ ⟨os,(I3.split hl).1⟩ (fin rho3 n3 w3)⟩
def xn6(te:TD):TSD:=λF rho n=>te rho n λ_ n1=>F.nx rho n1
def AmO.setOwn{os:List (Nat × Addr)}{n:Nat}{rho:Rho}{sg:St}{H:Hp}{ds es:List D}{vs xs:List V}{i:Nat}{p:Addr}(I:AmO A os n rho sg H ds vs)(hi:i<rho.length)(hp:H p=none)(r:Reps A.K A.G (Zof A os) H es xs) :
  ∃os',AmO A os' n (rho.set i (some (.own es))) (sg.set i (some (.ref p))) (upd H p (.lst xs)) ds vs:=by
 have hf:∀a u,H a=some u->upd H p (.lst xs) a=some u:=λa u e=>by rw[xX (wW e hp)];exact e
 refine⟨(i,p)::os.filter λq=>decide (q.1≠i),?_⟩
 have zz:∀a,H a≠none->Zof A ((i,p)::os.filter λq=>decide (q.1≠i)) a->Zof A os a:=λa ha z=>by
  rcases z with z |⟨q,hq,e⟩
  ·exact .inl z
  ·rcases zj.mp hq with rfl | hq
   ·exact absurd (by rw[<- e];exact hp) ha
   ·exact .inr ⟨q,(zx.mp hq).1,e⟩
 have h0:A.H0 p=none:=by
  cases q:A.H0 p with
  |none=>rfl
  |some o=>
   by_cases e:A.G=some p
   ·obtain⟨x,y,z,w,_⟩:=I.st p e;rw[w] at hp;cases hp
   ·have:=I.fr p o e q;rw[this] at hp;cases hp
 refine⟨by simp[I.len],λj c e=>?_,Reps.mono zz (λa u _ e=>hf a u e) _ _ I.pend,?_,λq hq=>?_,λa e=>?_,I.gz,λa u h e=>hf a u (I.fr a u h e),I.z0⟩
 ·by_cases hj : j = i
  ·subst hj;rw[zQ hi] at e;cases e
   exact⟨.ref p,zQ (by rw[<- I.len];exact hi),p,xs,rfl,zP,wU,Reps.mono zz (λa u _ e=>hf a u e) _ _ r⟩
  ·rw [zY (Ne.symm hj)] at e;obtain⟨u,e1,e2⟩:=I.slot j c e
   exact⟨u,by rw[zY (Ne.symm hj)];exact e1,SlotR.mono zz (λa u _ e=>hf a u e) (λa ys m q=>⟨zk _ (zx.mpr ⟨m,by simpa using hj⟩),hf a _ q⟩) _ _ e2⟩
 ·refine xC.mpr ⟨λq hq => ?_, I.nd.filter _⟩;obtain⟨m1,m2⟩:=zx.mp hq
  refine⟨λz=>by simp[<- z] at m2,λz=>(I.fresh q m1).2.2.ne ?_⟩
  have z':p=q.2:=z;rw[<- z'];exact hp
 ·rcases zj.mp hq with rfl | hq
  ·exact⟨h0,λz=>(I.z0.1 p z).ne h0,by show Hot (upd H p _ p);rw[wU];exact Hot.lst⟩
  ·obtain⟨f1,f2,f3⟩:=I.fresh q (zx.mp hq).1;exact⟨f1,f2,f3.of λu w=>hf _ _ w⟩
 ·obtain⟨x,y,z,q,rr⟩:=I.st a e;exact⟨x,y,z,hf _ _ q,rr⟩
def xn5(i:Nat)(t:TAD):TSD:=λF rho n=>i<rho.length/\t rho n λes n1=>es.length<=sizeLine/\F.nx (rho.set i (some (.own es))) n1
def Vk{i:Nat}{x:Str}{pos' pos2:Pos}{els:List Expr}{ta:TAD}(hN:X.N.Nodup)(hi:X.N[i]?=some x)(hx:Loc X.env.scope x)(ha:PAD A X els ta)(hf:X.fn x=true\/X.env.scope.names.lookup x=some .local:=by first |exact .inl rfl |exact .inr rfl |assumption)
  (hs:swapsWith (.List els pos2) (some (.Name x pos')) pos.line X.env=pure false:=by rfl):PSD A X (.Assign [.Name x pos'] (.List els pos2) pos) (xn5 i ta):=by
 exists (JY hN hi hx (Uv ha) hs hf).imp λE sg H h=>by
   obtain⟨rho,n,F,ds,vs,I,⟨hl,ht⟩,ok⟩:=h
   refine⟨rho,n,_,ds,vs,I,ht,λws H' n' es ⟨os,J⟩ hlen k=>⟨by rw[hlen];exact k.1,λp hp=>?_⟩⟩
   obtain⟨J1,rs⟩:=J.split hlen;exact ok.nx _ _ _ _ (J1.setOwn hl hp rs) k.2
def AmO.own{os:List (Nat × Addr)}{n:Nat}{rho:Rho}{sg:St}{H:Hp}{ds es es':List D}{vs xs':List V}{i:Nat}(I:AmO A os n rho sg H ds vs)(hi:rho[i]?=some (some (.own es))) :
  ∃a xs,sg[i]?=some (some (.ref a))/\H a=some (.lst xs)/\Reps A.K A.G (Zof A os) H es xs/\∀es' xs',Reps A.K A.G (Zof A os) H es' xs'->AmO A os n (rho.set i (some (.own es'))) sg (upd H a (.lst xs')) ds vs:=by
 obtain⟨v,e1,a,xs,rfl,hm,hH,rs⟩:=I.slot i _ hi;have hil:i<rho.length:=(zq.mp hi).1;have za:Zof A os a:=.inr ⟨_,hm,rfl⟩
 have hf:∀(xs':List V) b u,¬ Zof A os b->H b=some u->upd H a (.lst xs') b=some u:=λxs' b u nz e=>by
  rw[xX λz=>nz (by rw[z];exact za)];exact e
 have uniq:∀j,(j,a)∈os->j=i:=λj hj=>by
  by_cases hji:j=i
  ·exact hji
  ·have key : ∀ (l : List (Nat × Addr)), l.Pairwise (λp q => p.1 ≠ q.1 /\ p.2 ≠ q.2) -> (j, a) ∈ l -> (i, a) ∈ l -> False := by
    intro l
    induction l with
    |nil=>intro _ h;simp at h
    |cons c l ih=>
     intro hp h1 h2;obtain⟨p1,p2⟩:=xC.mp hp
     rcases zj.mp h1 with e1 |h1<;>rcases zj.mp h2 with e2 |h2
     ·rw[<- e2] at e1;exact hji (Prod.mk.inj e1).1
     ·exact(p1 _ h2).2 (by rw[<- e1])
     ·exact(p1 _ h1).2 (by rw[<- e2])
     ·exact ih p2 h1 h2
   exact(key os I.nd hj hm).elim
 obtain⟨fa1,fa2,fa3⟩:=I.fresh _ hm
 refine⟨a,xs,e1,hH,rs,λes' xs' r=>⟨by simp[I.len],λj c e=>?_,Reps.mono (λ_ _ z=>z) (hf xs') _ _ I.pend,I.nd,λq hq=>?_,λb e=>?_,I.gz,λb u h e=>?_,I.z0⟩⟩
 ·by_cases hj : j = i
  ·subst hj;rw[zQ hil] at e;cases e;exact⟨.ref a,e1,a,xs',rfl,hm,wU,Reps.mono (λ_ _ z=>z) (hf xs') _ _ r⟩
  ·rw [zY (Ne.symm hj)] at e;obtain⟨u,e2,e3⟩:=I.slot j c e
   exact⟨u,e2,SlotR.mono (λ_ _ z=>z) (hf xs') (λb ys m q=>⟨m,by rw[xX λz=>hj (uniq j (by rw[<- z];exact m))];exact q⟩) _ _ e3⟩
 ·obtain ⟨f1, f2, f3⟩ := I.fresh q hq;refine⟨f1,f2,?_⟩
  by_cases e:q.2=a
  ·rw[e,wU];exact Hot.lst
  ·rw[xX e];exact f3
 ·obtain ⟨x, y, z, q, rr⟩ := I.st b e
  exact⟨x,y,z,by rw[xX λw=>fa2 (by rw[<- w];exact I.gz b e)];exact q,rr⟩
 ·rw [xX λw => by rw [w, fa1] at e; cases e]
  exact I.fr b u h e
def AmO.freeze{os:List (Nat × Addr)}{n:Nat}{rho:Rho}{sg:St}{H:Hp}{ds es:List D}{vs:List V}{i:Nat}(I:AmO A os n rho sg H ds vs)(hi:rho[i]?=some (some (.own es))):∃os',AmO A os' n (rho.set i (some (.lst es))) sg H ds vs:=by
 obtain⟨v,e1,a,xs,rfl,hm,hH,rs⟩:=I.slot i _ hi;have hil:i<rho.length:=(zq.mp hi).1;refine⟨os.filter λq=>decide (q.1≠i),?_⟩
 have sub:∀b,H b≠none->Zof A (os.filter λp=>decide (p.1≠i)) b->Zof A os b:=λb _ z=>by
  rcases z with z |⟨p,hp,e⟩
  ·exact .inl z
  ·exact .inr ⟨p,(zx.mp hp).1,e⟩
 have key:∀(l:List (Nat × Addr)),l.Pairwise (λp q=>p.1≠q.1/\p.2≠q.2)->(i,a)∈l->∀q∈l,q.2=a->q.1=i:=by
  intro l
  induction l with
  |nil=>intro _ h;simp at h
  |cons c l ih=>
   intro hp h1 q hq hqa;obtain⟨p1,p2⟩:=xC.mp hp
   rcases zj.mp h1 with e1 |h1<;>rcases zj.mp hq with e2 |h2
   ·rw[e2,<- e1]
   ·exact absurd (by rw[<- e1,hqa]) (p1 _ h2).2
   ·exact absurd (by rw[<- e2,hqa]) (p1 _ h1).2
   ·exact ih p2 h1 q h2 hqa
 refine⟨by simp[I.len],λj c e=>?_,Reps.mono sub (λ_ _ _ e=>e) _ _ I.pend,I.nd.filter _,λp hp=>I.fresh p (zx.mp hp).1,I.st,I.gz,I.fr,I.z0⟩
 by_cases hj:j=i
 ·subst hj;rw[zQ hil] at e;cases e;refine⟨.ref a,e1,Rep.lst_mk ⟨λz=>?_,hH⟩ (Reps.mono sub (λ_ _ _ e=>e) _ _ rs)⟩
  rcases z with z |⟨p,hp,e⟩
  ·exact(I.fresh _ hm).2.1 z
  ·obtain⟨m1,m2⟩:=zx.mp hp;have:=key os I.nd hm p m1 e;simp[this] at m2
 ·rw [zY (Ne.symm hj)] at e;obtain⟨u,e2,e3⟩:=I.slot j c e
  exact⟨u,e2,SlotR.mono sub (λ_ _ _ e=>e) (λb ys m q=>⟨zx.mpr ⟨m,by simpa using hj⟩,q⟩) _ _ e3⟩
def zV3(i:Nat)(t:TSD):TSD:=λF rho n=>∃es,rho[i]?=some (some (.own es))/\t F (rho.set i (some (.lst es))) n
def Za(i:Nat)(h:PSD A X st t):PSD A X st (zV3 i t):=by
 exists PS.imp h λE sg H q=>by
   obtain⟨rho,n,F,ds,vs,⟨os,I⟩,⟨es,hi,ht⟩,ok⟩:=q;exact⟨_,n,F,ds,vs,I.freeze hi,ht,ok⟩
end
section
variable {A:AC}{X:Cx}{e a b:Expr}{es:List Expr}{te ta tb:TD}{t1:TAD}{pos:Pos}
def KP(i:Nat)(t:TAD):TSD:=λF rho n=>∃es,rho[i]?=some (some (.own es))/\es.length<sizeLine/\t rho n λds n1=>∃d,ds=[d]/\F.nx (rho.set i (some (.own (es++[d])))) n1
def kj{i:Nat}{x:Str}{px apos cpos:Pos}(ha:PAD A X [e] t1)(hK:X.K=A.K)(hN:X.N[i]?=some x:=by rfl)(hv:Vis X.env.scope x:=by first |exact Or.inl rfl |exact Or.inr (Or.inl rfl) |exact Or.inr (Or.inr rfl))(hd:(x == ("__debug__" : Str))=false:=by decide)
  (hcd:(x == ("__classdict__" : Str))=false:=by decide) (hbase:attributeBase (.Name x px) "append" X.env (eval (.Name x px) X.env)=eval (.Name x px) X.env:=by rfl)
  (hfew : ((backTo cpos (starEach [e] X.env)).all (λx => !x.1) && (backToKw cpos (keywordEach [] X.env)).all (λx => x.1.isSome)
   && decide ([e].length+([]:List Keyword).length+(if ([]:List Keyword).isEmpty then 0 else 1)<30))=true:=by rfl)
  (hline:(apos.endLine == cpos.line)=true:=by rfl) (hs:starEach [e] X.env=(false,eval e X.env)::starEach [] X.env:=by rfl) (hplain:(backTo cpos (starEach [] X.env)).any (·.1)=false:=by rfl)
  (hsw:swapsWith (.Call (.Attribute (.Name x px) "append" apos) [e] [] cpos) none pos.line X.env=pure false:=by rfl) :
  PSD A X (.Expr (.Call (.Attribute (.Name x px) "append" apos) [e] [] cpos) pos) (KP i t1):=by
 exists 
   (zh7 (xw2 PySem.F.plainAttrs_list PySem.F.slot_list_append PySem.F.type_list_append zl2 (qO hN hv hd hcd) ha hbase hfew hline hs hplain) hsw).imp λE sg H h => by
    obtain⟨rho,n,F,ds,vs,⟨os,I⟩,⟨es,hi,hz,ht⟩,ok⟩:=h;obtain⟨a,xs,e1,hH,rs,_⟩:=I.own (es':=es) (xs':=[]) hi;refine⟨.ref a,e1,.inl ⟨rfl,xs,SqL.of hH⟩,rho,n,_,ds,vs,⟨os,I⟩,ht,λws H' n' fs ⟨os',J⟩ hl k=>?_⟩;obtain⟨d,rfl,k⟩:=k;obtain⟨J1,rs1⟩:=J.split hl;obtain⟨v,rfl,r⟩:=kL rs1;obtain⟨a',xs',e2,hH',rs',up⟩:=J1.own (es':=es) (xs':=[]) hi;rw[e1] at e2;cases e2
    exact⟨a,xs',v,rfl,rfl,hH',by rw[rs'.length];exact hz,ok.nx _ _ _ _ ⟨os',up _ _ (rs'.append (.cons r .nil))⟩ k⟩
def Zc(o:Option (Option D))(p:List D->Prop):Prop:=∃es,o=some (some (.own es))/\p es
def zH1(i:Nat)(tb:TD):TD:=λrho n P=>Zc rho[i]? λes=>tb rho n λd n1=>∃j c,d=.int j/\atI es j=some c/\P c n1
def zy1{i:Nat}{x:Str}{px:Pos}(hb:PD A X b tb)(hpl:VQ b)(hN:X.N[i]?=some x:=by rfl)(hv:Vis X.env.scope x:=by first |exact Or.inl rfl |exact Or.inr (Or.inl rfl) |exact Or.inr (Or.inr rfl))(hd:(x == ("__debug__" : Str))=false:=by decide)
  (hcd:(x == ("__classdict__" : Str))=false:=by decide):PD A X (.Subscript (.Name x px) b pos) (zH1 i tb):=by
 exists 
   (zL6 Jm (qO hN hv hd hcd) hb hpl).imp λsg H Q h => by
    obtain⟨rho,n,P,ds,vs,⟨os,I⟩,⟨es,hi,ht⟩,hQ⟩:=h;obtain⟨a,xs,e1,hH,rs,_⟩:=I.own (es':=es) (xs':=[]) hi;refine⟨.ref a,e1,rho,n,_,ds,vs,⟨os,I⟩,ht,λv H' n' d ⟨os',J⟩ k=>?_⟩;obtain⟨j,c,rfl,hc,k⟩:=k;obtain⟨J1,r⟩:=J.pop;obtain⟨a',xs',e2,hH',rs',_⟩:=J1.own (es':=es) (xs':=[]) hi;rw[e1] at e2;cases e2;obtain⟨w,e3,rw'⟩:=VP rs' hc;exact⟨a,xs',j,w,rfl,r.int_inv,SqL.of hH',e3,hQ w H' n' c ⟨os',J1.push rw'⟩ k⟩
def zJ3(i:Nat)(te tb:TD):TSD:=λF rho n=>Zc rho[i]? λes=>te rho n λd n1=>tb rho n1 λd2 n2=>∃j m,d2=.int j/\ixN es.length j=some m/\F.nx (rho.set i (some (.own (es.set m d)))) n2
def xf4(i:Nat)(tb:TD):TD:=λrho n P=>rho[i]?=some (some .st)/\tb rho n λd n1=>∃j:Int,d=.int j/\0<=j/\j<n1/\∀z:Int,0<=z->(j=1->z<2147483647)->P (.int z) n1
def zG3{n:Nat}{i:Int}(h0:0<=i)(h1:i<n):ixN n i=some i.toNat:=by unfold ixN;rw[if_pos h0,if_pos h1]
def jd{i:Nat}{x:Str}{px:Pos}(hb:PD A X b tb)(hpl:VQ b)(hN:X.N[i]?=some x:=by rfl)(hv:Vis X.env.scope x:=by first |exact Or.inl rfl |exact Or.inr (Or.inl rfl) |exact Or.inr (Or.inr rfl))(hd:(x == ("__debug__" : Str))=false:=by decide)
  (hcd:(x == ("__classdict__" : Str))=false:=by decide):PD A X (.Subscript (.Name x px) b pos) (xf4 i tb):=by
 exists 
   (zL6 Jm (qO hN hv hd hcd) hb hpl).imp λsg H Q h => by
    obtain⟨rho,n,P,ds,vs,⟨os,I⟩,⟨hi,ht⟩,hQ⟩:=h;obtain⟨v,e1,e2⟩:=I.slot i _ hi
    obtain⟨a,ha,rfl⟩:∃a,A.G=some a/\v=.ref a:=by
     have e3:=SlotR.rep (d:=.st) rfl e2;unfold Rep at e3;exact e3
    refine⟨.ref a,e1,rho,n,_,ds,vs,⟨os,I⟩,ht,λw H' n' d ⟨os',J⟩ k=>?_⟩;obtain⟨j,rfl,h0,h3,k⟩:=k;obtain⟨J1,r⟩:=J.pop;obtain⟨zs,_,_,hH,p1,p2,p3⟩:=J1.st a ha;obtain⟨jn,rfl⟩:=xE h0
    have hjl:jn<zs.length:=w5
    have ej:zs[jn]?=some zs[jn]:=zf hjl
    refine⟨a,_,(jn:Int),.int zs[jn],rfl,r.int_inv,SqL.of hH,?_,hQ _ H' n' _ ⟨os',J1.push (Rep.ofS (d:=.int zs[jn]) rfl)⟩ (k zs[jn] (p2 _ (wz hjl)) λe=>p3 _ (by rw[<- ej];congr 1;lia))⟩
    unfold atI
    rw[zG3 w5 (by rw[zg];lia)]
    simp[hjl]
def zB0(zs:List Int)(j:Nat)(z:Int):(zs.map V.int).set j (.int z)=(zs.set j z).map V.int:=by rw[List.map_set]
def AmO.setSt{os:List (Nat × Addr)}{n:Nat}{rho:Rho}{sg:St}{H:Hp}{ds:List D}{vs:List V}{a:Addr}{zs:List Int}(I:AmO A os n rho sg H ds vs)(ha:A.G=some a)(h:zs.length=n/\(∀x∈zs,0<=x)/\∀x,zs[1]?=some x->x<2147483647) :
  AmO A os n rho sg (upd H a (.lst (zs.map V.int))) ds vs:=by
 have za:Zof A os a:=.inl (I.gz a ha)
 have hf:∀b u,¬ Zof A os b->H b=some u->upd H a (.lst (zs.map V.int)) b=some u:=λb u nz e=>by
  rw[xX λw=>nz (by rw[w];exact za)];exact e
 have no:∀p∈os,p.2≠a:=λp hp e=>(I.fresh p hp).2.1 (by rw[e];exact I.gz a ha)
 refine⟨I.len,λj c e=>?_,Reps.mono (λ_ _ w=>w) hf _ _ I.pend,I.nd,λq hq=>?_,λb e=>?_,I.gz,λb u h e=>?_,I.z0⟩
 ·obtain ⟨u, e1, e2⟩ := I.slot j c e
  exact⟨u,e1,SlotR.mono (λ_ _ w=>w) hf (λb ys m q=>⟨m,by rw[xX (no _ m)];exact q⟩) _ _ e2⟩
 ·obtain ⟨f1, f2, f3⟩ := I.fresh q hq
  exact⟨f1,f2,by rw[xX (no q hq)];exact f3⟩
 ·rw[ha] at e;cases e;exact⟨zs,0,0,wU,h⟩
 ·rw [xX λw => h (by rw [w]; exact ha)]
  exact I.fr b u h e
def zE2(i:Nat)(te tb:TD):TSD:=λF rho n=>rho[i]?=some (some .st)/\te rho n λd n1=>tb rho n1 λd2 n2=>∃j z:Int,d=.int z/\d2=.int j/\0<=j/\j<n2/\0<=z/\(j=1->z<2147483647)/\F.nx rho n2
def YX{i:Nat}{x:Str}{px ps:Pos}(he:PD A X e te)(hb:PD A X b tb)(hN:X.N[i]?=some x:=by rfl)(hv:Vis X.env.scope x:=by first |exact Or.inl rfl |exact Or.inr (Or.inl rfl) |exact Or.inr (Or.inr rfl))(hd:(x == ("__debug__" : Str))=false:=by decide)
  (hcd : (x == ("__classdict__" : Str)) = false := by decide) (ha : ∀ v, assign (.Subscript (.Name x px) b ps) X.env v = (do
   let ov <- holding [v] (eval (.Name x px) X.env)
   let iv <- holding [v,ov] (eval b X.env)
   standAt ps
   holding [v,ov,iv] (setItem ov iv v)
   release [v,ov,iv] []):=by intro _;rfl) (hs:swapsWithSole [.Subscript (.Name x px) b ps] e pos.line X.env=pure false:=by rfl) (hw:swappedStores [.Subscript (.Name x px) b ps] e X.env=pure none:=by rfl)
  (h1:(assignEach [.Subscript (.Name x px) b ps] X.env).map (·.2)=[assign (.Subscript (.Name x px) b ps) X.env]:=by rfl) :
  PSD A X (.Assign [.Subscript (.Name x px) b ps] e pos) (zE2 i te tb):=by
 exists 
   (zh8 he (zZ0 (qO hN hv hd hcd) hb zu8 ha) hs hw h1).imp λE sg H h => by
    obtain⟨rho,n,F,ds,vs,⟨os,I⟩,⟨hi,ht⟩,ok⟩:=h;obtain⟨v,e1,e2⟩:=I.slot i _ hi
    obtain⟨a,hG,rfl⟩:∃a,A.G=some a/\v=.ref a:=by
     have e3:=SlotR.rep (d:=.st) rfl e2;unfold Rep at e3;exact e3
    refine⟨rho,n,_,ds,vs,⟨os,I⟩,ht,λv H' n' d J k=>⟨.ref a,e1,rho,n',_,d::ds,v::vs,J,k,λw H2 n2 d2 ⟨os2,J2⟩ k2=>?_⟩⟩;obtain⟨j,z,rfl,rfl,h0,h3,hz,h2,k2⟩:=k2;obtain⟨J3,r2⟩:=J2.pop;obtain⟨J4,r1⟩:=J3.pop;obtain⟨zs,_,_,hH,p1,p2,p3⟩:=J4.st a hG;rw[r1.int_inv,r2.int_inv];obtain⟨jn,rfl⟩:=xE h0
    have hjl:jn<zs.length:=w5
    refine⟨a,_,(jn:Int),jn,rfl,rfl,hH,by rw[zG3 w5 (by rw[zg];lia)];simp,?_⟩
    rw[zB0]
    refine ok.nx _ _ _ _ ⟨os2,J4.setSt hG ⟨by rw[List.length_set];exact p1,λx hx=>?_,λx hx=>?_⟩⟩ k2
    ·rcases List.mem_or_eq_of_mem_set hx with hx | rfl
     ·exact p2 x hx
     ·exact hz
    ·by_cases e : jn = 1
     ·subst e;rw[zQ hjl] at hx;cases hx;exact h2 rfl
     ·rw[zY e] at hx;exact p3 x hx
def VL(es:List D)(lo hi:Option Int):List D:=(es.drop (HT.sIx es.length 0 lo)).take (HT.sIx es.length es.length hi-HT.sIx es.length 0 lo)
def Vf{K:W.Frag}{G:Option Addr}{Z:Addr->Prop}{H:Hp}{fs:List D}{xs:List V}(h:Reps K G Z H fs xs)(lo hi:Option Int):Reps K G Z H (VL fs lo hi) (zC7 xs lo hi):=by
 unfold VL zC7;rw[h.length];exact(h.drop _).take _
def xN5(lo hi:Option Int)(ta:TD):TD:=λrho n P=>ta rho n λd n1=>∃fs,(d=.lst fs\/d=.fz fs)/\P (.lst (VL fs lo hi)) n1
def xe6(es:List D):List D:=es.zipIdx.map λp=>.tup [.int (p.2:Nat),p.1]
def xe0(t:TAD):TID:=λrho n P=>t rho n λes n1=>∃fs,es=[.lst fs]/\P (xe6 fs) n1
end
abbrev TF:=List D->Nat->(D->Nat->Prop)->Prop
def spD(K:W.Frag)(k:Nat)(t:TF):Sp:=λvs H Q _=>∃(G:Option Addr) (Z:Addr->Prop) (n:Nat) (P:D->Nat->Prop) (ds:List D),ds.length=k/\Reps K G Z H ds vs/\zt5 G n H/\(∀a,G=some a->Z a)/\ZOk K G Z H/\t ds n P /\
 ∀v H' n' d,(∀a o,G≠some a->H a=some o->H' a=some o)->zt5 G n' H'->Rep K G Z H' d v->P d n'->Q v H'
def startD(N:List Str)(ds:List D):Rho:=ds.map some++replicate (N.length-ds.length) none
def jm{K:W.Frag}{G:Option Addr}{Z:Addr->Prop}{H:Hp}{N:List Str}{ds:List D}{vs:List V}{n:Nat}(rs:Reps K G Z H ds vs)(st:zt5 G n H)(gz:∀a,G=some a->Z a)(z0:ZOk K G Z H) :
  AmO ⟨K,G,Z,H⟩ [] n (startD N ds) (start N vs) H [] []:=by
 have hl:=rs.length
 have zz:∀a,Zof ⟨K,G,Z,H⟩ [] a->Z a:=λa z=>by
  rcases z with z |⟨p,hp,_⟩
  ·exact z
  ·simp at hp
 have rs':Reps K G (Zof ⟨K,G,Z,H⟩ []) H ds vs:=Reps.mono (λa _ z=>zz a z) (λ_ _ _ e=>e) _ _ rs
 refine⟨by simp[startD,start,hl],λi d e=>?_,.nil,.nil,λp hp=>by simp at hp,st,gz,λa o _ e=>e,z0⟩
 unfold startD at e
 by_cases hi:i<ds.length
 ·rw [xv (by simpa using hi), zA] at e
  cases q:ds[i]? with
  |none=>rw[q] at e;cases e
  |some c=>
   rw[q] at e;cases e;obtain⟨v,e1,r⟩:=rs'.get q;refine⟨v,?_,SlotR.of r⟩;unfold start
   rw[xv (by rw[zg,hl];exact hi),zA,e1]
   rfl
 ·rw [xi (by simpa using hi), xg] at e
  split at e<;>cases e
section
variable {P:Program}{w:World}{K:W.Frag}{mg:Str->Option Value}{base:Heap}
def Fun.okD{x qual:Str}{st:Stmt}{f:Addr}{fd:FuncData}{N ps:List Str}{k:Nat}{t:TF}{tb:TSD}(F:Fun K x qual st f fd)(S:FnScope N ps (xj st))
  (body : ∀ (cdv : Value) (A0 : Around) (outer : List Env) (s : Shared) (H : Hp) (E : XK) (G : Option Addr) (Z : Addr -> Prop), Room k (A0.deeper (envOfC qual (xj st) s.heap.objs.size f cdv)) ->
   zc8 ⟨K,G,Z,H⟩ (zt4 CX0 P w K mg base N qual (xj st) f cdv A0 outer s H E).nox (vB st) tb)
  (spec:∀ds n Q,ds.length=ps.length->t ds n Q->tb { nx:=λ_ n=>Q .non n,rt:=Q } (startD N ds) n):FnOk P w K mg base CX0 (k+1) f fd ps (spD K ps.length t):=by
 exists (by
   refine F.ok S (λvs H Q E h=>?_) (λcdv A0 outer s H vs Q E hr h=>?_)
   ·obtain⟨G,Z,n,R,ds,hl,rs,_⟩:=h;rw[rs.length];exact hl
   ·obtain ⟨G, Z, n, R, ds, hl, rs, hst, gz, z0, ht, hQ⟩ := h;refine⟨_,body cdv A0 outer s H E G Z hr,startD N ds,n,_,[],[],⟨[],jm rs hst gz z0⟩,spec ds n R hl ht,?_⟩;have zz:∀ (os:List (Nat × Addr)) a,Z a->Zof ⟨K,G,Z,H⟩ os a:=λos a z=>.inl z;refine⟨λrho' n' sg' H' ⟨os,I⟩ q=>?_,λd n' v rho' sg' H' ⟨os,I⟩ q=>?_,λ_ _ _ _ _ q=>q.elim,λ_ _ _ _ _ q=>q.elim⟩
    ·exact hQ .non H' n' .non I.fr I.st (Rep.ofS rfl) q
    ·exact hQ v H' n' d I.fr I.st (Rep.mono (λa _ z=>zz os a z) (λ_ _ _ e=>e) _ _ I.pop.2) q)
end
section
variable {A:AC}{X:Cx}{e:Expr}{es:List Expr}{t1:TAD}{pos p:Pos}
def dFn(k:Nat)(t:TF)(t1:TAD):TD:=λrho n P=>t1 rho n λes n1=>es.length=k/\t es n1 P
def AmO.called{os:List (Nat × Addr)}{n n':Nat}{rho:Rho}{sg:St}{H H':Hp}{ds:List D}{vs:List V}(I:AmO A os n rho sg H ds vs)(fr:∀a o,A.G≠some a->H a=some o->H' a=some o)(st:zt5 A.G n' H'):AmO A os n' rho sg H' ds vs:=by
 have hf:∀b u,¬ Zof A os b->H b=some u->H' b=some u:=λb u nz e=>fr b u (λz=>nz (.inl (I.gz b z))) e;have no:∀p∈os,A.G≠some p.2:=λp hp e=>(I.fresh p hp).2.1 (I.gz _ e);refine⟨I.len,λj c e=>?_,Reps.mono (λ_ _ w=>w) hf _ _ I.pend,I.nd,λq hq=>?_,st,I.gz,λb u h e=>fr b u h (I.fr b u h e),I.z0⟩
 ·obtain⟨u,e1,e2⟩:=I.slot j c e;exact⟨u,e1,SlotR.mono (λ_ _ w=>w) hf (λb ys m q=>⟨m,fr _ _ (no _ m) q⟩) _ _ e2⟩
 ·obtain⟨f1,f2,f3⟩:=I.fresh q hq;exact⟨f1,f2,f3.of λu z=>fr _ _ (no q hq) z⟩
def zM5{x:Str}{f:Addr}{fd:FuncData}{ps:List Str}{t:TF}{kk k:Nat}(F:FnOk X.prog X.w X.K X.mg X.base CX0 kk f fd ps (spD X.K k t))(hr:Room kk X.A)(hm:X.mg x=some (.ref f))(hk:W.keepIn X.K (.ref f)=true)(hb:Binds X.K fd ps [])(hK:X.K=A.K)
  (ha:PAD A X (e::es) t1) (hg:Gl X x:=by rfl) (hdb:(x == ("__debug__" : Str))=false:=by decide) (he:starEach (e::es) X.env=(false,eval e X.env)::starEach es X.env:=by rfl) (hpl:(backTo pos (starEach es X.env)).any (·.1)=false:=by rfl) :
  PD A X (.Call (.Name x p) (e::es) [] pos) (dFn k t t1):=by
 exists (Vn F hr hg hm hk hb .nil zy3 ha hdb he hpl).imp λsg H Q h=>by
   obtain⟨rho,n,R,ds,vs,I,ht,hQ⟩:=h;refine⟨rho,n,_,ds,vs,I,ht,λws H' n' es' ⟨os,J⟩ hl k=>?_⟩;obtain⟨J1,rs⟩:=J.split hl;rw[wM,hK];refine⟨A.G,Zof A os,n',R,es',k.1,rs,J1.st,λa z=>.inl (J1.gz a z),J1.zO,k.2,λv H2 n2 d fr st r q=>hQ v H2 n2 d ⟨os,(J1.called fr st).push r⟩ q⟩
end
section
variable {A:AC}{X:Cx}{tg a:Expr}{ta:TD}{pos p:Pos}
def xx9(K:W.Frag)(tl:TE):TI:=λsg H R=>tl sg H λx H1=>∃l,x=.ref l/\(((∃xs,SqL K H1 l xs)/\R (Itl K l) H1)\/((∃xs,SqT K H1 l xs)/\R (Itt K l) H1))
def zL3{l:Expr}{tl:TE}(hl:PE X l tl):PI X tg l (xx9 X.K tl):=by
 intro pins s sg H R I h;refine thn (hl pins s sg H _ I h) λv s1 ⟨x,H1,I1,r1,q1⟩=>?_;obtain⟨c,e,q1⟩:=q1;subst e;cases r1
 have new:∀b∈[s1.heap.objs.size],FpOk X pins H1 b:=λb hb=>by
  obtain rfl:b=s1.heap.objs.size:=by simpa using hb
  exact I1.fpOk (zn _) (I1.hok.fresh (zn _))
 rcases q1 with ⟨⟨xs,hq⟩,q⟩ |⟨⟨xs,hq⟩,q⟩
 ·obtain⟨its,rv,pl,hz⟩:=I1.list hq;exact yw pl.isList ⟨s1.heap.objs.size,[s1.heap.objs.size],_,_,H1,rfl,I1.kept (t':=s1.toks) λb o e=>ze _ e,ze0 c _,⟨_,zp _ rfl,rfl,rfl⟩,new,q⟩
 ·obtain⟨its,rv,pl,hz⟩:=I1.tuple hq;exact wpAny_pyIter_tuple (show s1.heap.IsTuple c its.toArray from pl) ⟨s1.heap.objs.size,[s1.heap.objs.size],_,_,H1,rfl,I1.kept (t':=s1.toks) λb o e=>ze _ e,QL c _,⟨_,zp _ rfl,rfl,rfl⟩,new,q⟩
def xd7(ta:TD):TID:=λrho n P=>ta rho n λd n1=>∃es,(d=.lst es\/d=.tup es)/\P es n1
def vJ(hK:X.K=A.K)(ha:PD A X a ta):PID A X tg a (xd7 ta):=by
 exists (zL3 ha).imp λsg H R h=>by
   obtain⟨rho,n,P,ds,vs,I,ht,hQ⟩:=h;refine⟨rho,n,_,ds,vs,I,ht,λv H' n' d ⟨os,J⟩ k=>?_⟩;obtain⟨es,hd,k⟩:=k;have r:=J.pop.2;rw[hK]
   rcases hd with rfl |rfl
   ·obtain ⟨l, xs, rfl, sq, rs⟩ := r.lst_inv;refine⟨l,rfl,.inl ⟨⟨xs,sq.sq⟩,hQ _ H' n' es [.lst es] [.ref l] ⟨os,J⟩ rfl (λn2 rho2 sg2 H2 ds2 vs2 i ⟨os2,I2⟩=>?_) k⟩⟩;obtain⟨I3,r2⟩:=AmO.pop (d:=.lst es) (v:=.ref l) (ds:=ds2) (vs:=vs2) I2;obtain⟨l',xs2,e,sq2,rs2⟩:=r2.lst_inv;cases e
    refine⟨λd e=>?_,λhi=>⟨xs2,sq2.sq,by rw[rs2.length];exact hi⟩⟩
    obtain⟨v,e1,rv⟩:=rs2.get e;refine⟨⟨xs2,v,sq2.sq,e1⟩,λx H3 y=>?_⟩;obtain⟨e3,y⟩:=y;subst e3;have e4:=y xs2 sq2.sq;rw[e1] at e4;cases e4;exact⟨os2,I2.push rv⟩
   ·obtain ⟨l, xs, rfl, sq, rs⟩ := r.tup_inv;refine⟨l,rfl,.inr ⟨⟨xs,sq.sq⟩,hQ _ H' n' es [.tup es] [.ref l] ⟨os,J⟩ rfl (λn2 rho2 sg2 H2 ds2 vs2 i ⟨os2,I2⟩=>?_) k⟩⟩;obtain⟨I3,r2⟩:=AmO.pop (d:=.tup es) (v:=.ref l) (ds:=ds2) (vs:=vs2) I2;obtain⟨l',xs2,e,sq2,rs2⟩:=r2.tup_inv;cases e
    refine⟨λd e=>?_,λhi=>⟨xs2,sq2.sq,by rw[rs2.length];exact hi⟩⟩
    obtain⟨v,e1,rv⟩:=rs2.get e;refine⟨⟨xs2,v,sq2.sq,e1⟩,λx H3 y=>?_⟩;obtain⟨e3,y⟩:=y;subst e3;have e4:=y xs2 sq2.sq;rw[e1] at e4;cases e4;exact⟨os2,I2.push rv⟩
end
structure Fn(P:Program)(w:World)(K:W.Frag)(mg:Str->Option Value)(base:Heap)(x:Str)(kk k:Nat)(t:TF):Prop where
 ex:∃(f:Addr) (fd:FuncData) (ps:List Str),FnOk P w K mg base CX0 kk f fd ps (spD K k t)/\mg x=some (.ref f)/\W.keepIn K (.ref f)=true/\Binds K fd ps []
def wY{A:AC}{X:Cx}{e:Expr}{es:List Expr}{t1:TAD}{pos p:Pos}{x:Str}{t:TF}{kk k:Nat}(F:Fn X.prog X.w X.K X.mg X.base x kk k t)(hr:Room kk X.A)(hK:X.K=A.K)
  (ha:PAD A X (e::es) t1) (hg:Gl X x:=by rfl) (hdb:(x == ("__debug__" : Str))=false:=by decide) (he:starEach (e::es) X.env=(false,eval e X.env)::starEach es X.env:=by rfl) (hpl:(backTo pos (starEach es X.env)).any (·.1)=false:=by rfl) :
  PD A X (.Call (.Name x p) (e::es) [] pos) (dFn k t t1):=by
 exists (by
   obtain⟨f,fd,ps,h1,h2,h3,h4⟩:=F.ex
   exact zM5 h1 hr h2 h3 h4 hK ha hg hdb he hpl)
structure Blt(mg:Str->Option Value):Prop where
 len:mg "len" = none
 abs:mg "abs" = none
 all:mg "all" = none
 any:mg "any" = none
 isi:mg "isinstance" = none
 int:mg "int" = none
 bool:mg "bool" = none
 str:mg "str" = none
 tuple:mg "tuple" = none
 list:mg "list" = none
 range:mg "range" = none
 zip:mg "zip" = none
 enum:mg "enumerate" = none
 max:mg "max" = none
 min:mg "min" = none
 sorted:mg "sorted" = none
def kW:bootBuiltins "len" = some (.builtin "len"):=x6
def zH8:bootBuiltins "abs" = some (.builtin "abs"):=x6
def zH7:bootBuiltins "any" = some (.builtin "any"):=x6
def zr8:bootBuiltins "int" = some (.type "int"):=x6
def vG:bootBuiltins "tuple" = some (.type "tuple"):=x6
def zr7:bootBuiltins "list" = some (.type "list"):=x6
def isB(d:D)(p:Bool->Prop):Prop:=∃c,d=.bl c/\p c
@[simp] theorem xK4{b:Bool}{p:Bool->Prop}:isB (.bl b) p↔p b:=⟨fun⟨_,e,h⟩=>by cases e;exact h,λh=>⟨_,rfl,h⟩⟩
@[simp] theorem xq3{F rho n}:zU9 F rho n=F.nx rho n:=rfl
@[simp] theorem xB2{t u F rho n}:XT t u F rho n=t { F with nx:=u F } rho n:=rfl
@[simp] theorem xB3{te F rho n}:xA0 te F rho n=te rho n F.rt:=rfl
@[simp] theorem xJ3{c t u F rho n}:sIf c t u F rho n=c rho n λb n1=>if b=true then t F rho n1 else u F rho n1:=rfl
@[simp] theorem xB1{i te F rho n}:JU i te F rho n=(i<rho.length/\te rho n λd n1=>F.nx (rho.set i (some d)) n1):=rfl
@[simp] theorem xB0{te g F rho n}:xz9 te g F rho n=te rho n λd n1=>g d rho λrho'=>F.nx rho' n1:=rfl
@[simp] theorem xB6{i t F rho n}:xn5 i t F rho n=(i<rho.length/\t rho n λes n1=>es.length<=sizeLine/\F.nx (rho.set i (some (.own es))) n1):=rfl
@[simp] theorem xq4{te F rho n}:xn6 te F rho n=te rho n λ_ n1=>F.nx rho n1:=rfl
@[simp] theorem xB7{i t F rho n}:zV3 i t F rho n=∃es,rho[i]?=some (some (.own es))/\t F (rho.set i (some (.lst es))) n:=rfl
@[simp] theorem zX2{i t F rho n}:KP i t F rho n=∃es,rho[i]?=some (some (.own es))/\es.length<sizeLine/\t rho n λds n1=>∃d,ds=[d]/\F.nx (rho.set i (some (.own (es++[d])))) n1:=rfl
@[simp] theorem xk4{i d rho P}:zo5 i d rho P=(i<rho.length/\P (rho.set i (some d))):=rfl
@[simp] theorem xC5{i rho n P}:zC3 i rho n P=atV rho[i]? λd=>P d n:=rfl
@[simp] theorem xL7{d k}:atV (some (some d)) k=atD d k:=rfl
@[simp] theorem xE9{k}:atD .non k=k .non:=rfl
@[simp] theorem xE8{k b}:atD (.bl b) k=k (.bl b):=rfl
@[simp] theorem xE7{k b}:atD (.int b) k=k (.int b):=rfl
@[simp] theorem xE6{k b}:atD (.str b) k=k (.str b):=rfl
@[simp] theorem xE5{k b}:atD (.tup b) k=k (.tup b):=rfl
@[simp] theorem xE4{k b}:atD (.lst b) k=k (.lst b):=rfl
@[simp] theorem xE3{k b}:atD (.fz b) k=k (.fz b):=rfl
@[simp] theorem xE2{k}:atD .st k=k .st:=rfl
@[simp] theorem xE1{k a b}:atD (.dct a b) k=k (.dct a b):=rfl
@[simp] theorem xL8{d k}(h:xZ d=true):atD d k=k d:=propext ⟨λz=>(zs3 z).2,QF h⟩
@[simp] theorem xO7{d rho n P}:dC d rho n P=P d n:=rfl
@[simp] theorem xL3{rd ta tb rho n P}:dOp rd ta tb rho n P=ta rho n λd1 n1=>tb rho n1 λd2 n2=>rd d1 d2 λd=>P d n2:=rfl
@[simp] theorem xu9{t rho n P}:Js t rho n P=t rho n λd n'=>isB d λb=>P b n':=rfl
@[simp] theorem xr1{d1 d2 k}:zW3 d1 d2 k=(d2=.non/\k (.bl (qI d1))):=rfl
@[simp] theorem xi0{d1 d2 k}:zg4 d1 d2 k=(d2=.non/\k (.bl (!qI d1))):=rfl
@[simp] theorem xE0{t u rho n P}:xz0 t u rho n P=t rho n λc n1=>if c=true then u rho n1 P else P false n1:=rfl
@[simp] theorem xL6{t u rho n P}:bOr t u rho n P=t rho n λc n1=>if c=true then P true n1 else u rho n1 P:=rfl
@[simp] theorem xD9{t rho n P}:xy9 t rho n P=t rho n λc n1=>P (!c) n1:=rfl
@[simp] theorem xD8{rho n P}:xg2 rho n P=P true n:=rfl
@[simp] theorem xD7{ta tb rho n P}:xG2 ta tb rho n P=ta rho n λd n1=>isB d λc=>if c=true then tb rho n1 P else P (.bl false) n1:=rfl
@[simp] theorem xL2{ta tb rho n P}:dOr ta tb rho n P=ta rho n λd n1=>isB d λc=>if c=true then P (.bl true) n1 else tb rho n1 P:=rfl
@[simp] theorem xD1{ta rho n P}:xG0 ta rho n P=ta rho n λd n1=>isB d λc=>P (.bl (!c)) n1:=rfl
@[simp] theorem xL4{t ta tb rho n P}:dIf t ta tb rho n P=t rho n λc n1=>if c=true then ta rho n1 P else tb rho n1 P:=rfl
@[simp] theorem xF0{rho n P}:xg5 rho n P=P [] n:=rfl
@[simp] theorem xv6{t r rho n P}:JE t r rho n P=t rho n λd n1=>r rho n1 λds n2=>P (d::ds) n2:=rfl
@[simp] theorem xC6{t rho n P}:xF7 t rho n P=t rho n λds n1=>ds.length<=sizeLine/\P (.tup ds) n1:=rfl
@[simp] theorem xD2{t rho n P}:xy6 t rho n P=t rho n λds n1=>ds.length<=sizeLine/\P (.lst ds) n1:=rfl
@[simp] theorem xv4{rd t rho n P}:zC5 rd t rho n P=t rho n λes n1=>rd es λd=>P d n1:=rfl
@[simp] theorem xL5{k t t1 rho n P}:dFn k t t1 rho n P=t1 rho n λes n1=>es.length=k/\t es n1 P:=rfl
@[simp] theorem xu4{ta rho n P}:xd7 ta rho n P=ta rho n λd n1=>∃es,(d=.lst es\/d=.tup es)/\P es n1:=rfl
@[simp] theorem xu5{t rho n P}:xd8 t rho n P=t rho n λes n1=>∃j:Int,es=[.int j]/\-(2^62)<=j/\j<2^62/\P (KQ 0 j.toNat) n1:=rfl
@[simp] theorem xk3{t rho n P}:xe0 t rho n P=t rho n λes n1=>∃fs,es=[.lst fs]/\P (xe6 fs) n1:=rfl
@[simp] theorem xC9{lo hi ta rho n P}:xN5 lo hi ta rho n P=ta rho n λd n1=>∃fs,(d=.lst fs\/d=.fz fs)/\P (.lst (VL fs lo hi)) n1:=rfl
@[simp] theorem xu7{rho P}:xe3 [] rho P↔P rho:=⟨λh=>h.2,λh=>⟨rfl,h⟩⟩
@[simp] theorem xk5{g gs d r rho P}:zG5 g gs (d::r) rho P↔g d rho λrho'=>gs r rho' P:=⟨fun⟨_,_,e,h⟩=>by cases e;exact h,λh=>⟨_,_,rfl,h⟩⟩
@[simp] theorem xu6{k gs es rho P}:xe2 k gs (.tup es) rho P↔(es.length=k/\gs es rho P):=⟨fun⟨_,e,h⟩=>by cases e;exact h,λh=>⟨_,rfl,h⟩⟩
@[simp] theorem xJ4{C g i j k}:rdI C g (.int i) (.int j) k=(C i j/\k (g i j)):=rfl
@[simp] theorem xB9{g i j k}:zw1 g (.int i) (.int j) k=k (g i j):=rfl
@[simp] theorem xJ5{f c d k}:rdB f (.bl c) (.bl d) k=k (.bl (f c d)):=rfl
@[simp] theorem zK4{es i k}:Yp (.lst es) (.int i) k↔∃d,atI es i=some d/\k d:=⟨fun⟨_,_,d,e,e',h⟩=>by cases e' ;rcases e with e |e |e<;>cases e;exact⟨d,h⟩,fun⟨d,h⟩=>⟨_,_,d,.inl rfl,rfl,h⟩⟩
@[simp] theorem zg5{es i k}:Yp (.tup es) (.int i) k↔∃d,atI es i=some d/\k d:=⟨fun⟨_,_,d,e,e',h⟩=>by cases e' ;rcases e with e |e |e<;>cases e;exact⟨d,h⟩,fun⟨d,h⟩=>⟨_,_,d,.inr (.inl rfl),rfl,h⟩⟩
@[simp] theorem xr0{es i k}:Yp (.fz es) (.int i) k↔∃d,atI es i=some d/\k d:=⟨fun⟨_,_,d,e,e',h⟩=>by cases e' ;rcases e with e |e |e<;>cases e;exact⟨d,h⟩,fun⟨d,h⟩=>⟨_,_,d,.inr (.inr rfl),rfl,h⟩⟩
@[simp] theorem xr8{es fs k}:zW8 (.lst es) (.lst fs) k↔(es.length+fs.length<=sizeLine/\k (.lst (es++fs))):=⟨fun⟨_,_,e,e',h⟩=>by cases e;cases e';exact h,λh=>⟨_,_,rfl,rfl,h⟩⟩
@[simp] theorem zw4{es i k}:zg3 (.tup es) (.int i) k↔(es≠[]/\1<=i/\es.length*i.toNat<=sizeLine/\k (.tup (replicate i.toNat es).flatten)):=⟨fun⟨_,_,e,e',h⟩=>by cases e;cases e';exact h,λh=>⟨_,_,rfl,rfl,h⟩⟩
def QX(es:List D)(p:D->D->Prop):Prop:=∃d d',es=[d,d']/\p d d'
@[simp] theorem xr9{a b p}:QX [a,b] p↔p a b:=⟨fun⟨_,_,e,h⟩=>by cases e;exact h,λh=>⟨_,_,rfl,h⟩⟩
@[simp] theorem xB5{i j t F rho n}:zU7 i j t F rho n=(i<rho.length/\j<rho.length/\t rho n λes n1=>QX es λd d'=>F.nx ((rho.set i (some d)).set j (some d')) n1):=rfl
@[simp] theorem xr3{i j:Int}{k}:zK2 (.int i) (.int j) k↔k (.bl (decide (i=j))):=by
 have e:decide (ofS (.int i)=ofS (.int j))=decide (i=j):=by simp[ofS]
 unfold zK2;rw[e];exact⟨λh=>h.2.2.2,λh=>⟨rfl,rfl,rfl,h⟩⟩
@[simp] theorem xr4{i j:Bool}{k}:zK2 (.bl i) (.bl j) k↔k (.bl (decide (i=j))):=by
 have e:decide (ofS (.bl i)=ofS (.bl j))=decide (i=j):=by simp[ofS]
 unfold zK2;rw[e];exact⟨λh=>h.2.2.2,λh=>⟨rfl,rfl,rfl,h⟩⟩
@[simp] theorem xq8{i j:Int}{k}:xh0 (.int i) (.int j) k↔k (.bl (!decide (i=j))):=by
 have e:decide (ofS (.int i)=ofS (.int j))=decide (i=j):=by simp[ofS]
 unfold xh0;rw[e];exact⟨λh=>h.2.2.2,λh=>⟨rfl,rfl,rfl,h⟩⟩
@[simp] theorem xq9{i j:Bool}{k}:xh0 (.bl i) (.bl j) k↔k (.bl (!decide (i=j))):=by
 have e:decide (ofS (.bl i)=ofS (.bl j))=decide (i=j):=by simp[ofS]
 unfold xh0;rw[e];exact⟨λh=>h.2.2.2,λh=>⟨rfl,rfl,rfl,h⟩⟩
@[simp] theorem xt6{fs k}:zG2 [.lst fs] k↔k (.int fs.length):=⟨fun⟨_,e,h⟩=>by rcases e with e |e |e<;>cases e;exact h,λh=>⟨_,.inl rfl,h⟩⟩
@[simp] theorem KS{fs k}:zG2 [.tup fs] k↔k (.int fs.length):=⟨fun⟨_,e,h⟩=>by rcases e with e |e |e<;>cases e;exact h,λh=>⟨_,.inr (.inl rfl),h⟩⟩
@[simp] theorem xt7{fs k}:zG2 [.fz fs] k↔k (.int fs.length):=⟨fun⟨_,e,h⟩=>by rcases e with e |e |e<;>cases e;exact h,λh=>⟨_,.inr (.inr rfl),h⟩⟩
@[simp] theorem xC1{i k}:xF6 [.int i] k↔k (.int (if i<0 then -i else i)):=⟨fun⟨_,e,h⟩=>by cases e;exact h,λh=>⟨_,rfl,h⟩⟩
@[simp] theorem xu0{i k}:xd2 [.bl i] k↔k (.int (if i then 1 else 0)):=⟨fun⟨_,e,h⟩=>by cases e;exact h,λh=>⟨_,rfl,h⟩⟩
@[simp] theorem zX5{fs k}:zn1 [.lst fs] k↔k (.tup fs):=⟨fun⟨_,e,h⟩=>by rcases e with e |e<;>cases e;exact h,λh=>⟨_,.inl rfl,h⟩⟩
@[simp] theorem zX4{fs k}:zn1 [.tup fs] k↔k (.tup fs):=⟨fun⟨_,e,h⟩=>by rcases e with e |e<;>cases e;exact h,λh=>⟨_,.inr rfl,h⟩⟩
@[simp] theorem xj9{fs k}:zP6 [.lst fs] k↔k (.lst fs):=⟨fun⟨_,e,h⟩=>by rcases e with e |e<;>cases e;exact h,λh=>⟨_,.inl rfl,h⟩⟩
@[simp] theorem xj7{fs k}:zP6 [.tup fs] k↔k (.lst fs):=⟨fun⟨_,e,h⟩=>by rcases e with e |e<;>cases e;exact h,λh=>⟨_,.inr rfl,h⟩⟩
@[simp] theorem xv0{i tb rho n P}:xf4 i tb rho n P=(rho[i]?=some (some .st)/\tb rho n λd n1=>∃j:Int,d=.int j/\0<=j/\j<n1/\∀z:Int,0<=z->(j=1->z<2147483647)->P (.int z) n1):=rfl
@[simp] theorem xh3{i te tb F rho n}:zE2 i te tb F rho n=(rho[i]?=some (some .st)/\te rho n λd n1=>tb rho n1 λd2 n2=>∃j z:Int,d=.int z/\d2=.int j/\0<=j/\j<n2/\0<=z/\(j=1->z<2147483647)/\F.nx rho n2):=rfl
@[simp] theorem xK3:xZ .non=true:=rfl
@[simp] theorem xK2{b}:xZ (.bl b)=true:=rfl
@[simp] theorem xK1{b}:xZ (.int b)=true:=rfl
@[simp] theorem xK0{b}:xZ (.str b)=true:=rfl
@[simp] theorem xJ9{b}:xZ (.tup b)=true:=rfl
@[simp] theorem xJ8{b}:xZ (.lst b)=true:=rfl
@[simp] theorem xJ7:xZ .st=true:=rfl
@[simp] theorem xJ6{b}:xZ (.fz b)=true:=rfl
@[simp] theorem xL0:qI .non=true:=rfl
@[simp] theorem xK9{b}:qI (.bl b)=false:=rfl
@[simp] theorem xK8{b}:qI (.int b)=false:=rfl
@[simp] theorem xK7{b}:qI (.str b)=false:=rfl
@[simp] theorem xK6{b}:qI (.tup b)=false:=rfl
@[simp] theorem xK5{b}:qI (.lst b)=false:=rfl
@[simp] theorem xJ2{b}:YR (.lst b)=some (true,b):=rfl
@[simp] theorem xJ1{b}:YR (.tup b)=some (false,b):=rfl
@[simp] theorem xp4:(0<=sizeLine)=True:=by simp
@[simp] theorem xp3:(1<=sizeLine)=True:=by simp[sizeLine]
@[simp] theorem xp2:(2<=sizeLine)=True:=by simp[sizeLine]
@[simp] theorem xp1:(3<=sizeLine)=True:=by simp[sizeLine]
@[simp] theorem xp0:(4<=sizeLine)=True:=by simp[sizeLine]
@[simp] theorem xo9:(5<=sizeLine)=True:=by simp[sizeLine]
@[simp] theorem xo8:(6<=sizeLine)=True:=by simp[sizeLine]
@[simp] theorem xo7:(7<=sizeLine)=True:=by simp[sizeLine]
def yE{k:Nat}(h:k<=1000:=by decide):k<=sizeLine:=zy h w6
def lt_size{k:Nat}(h:k<=1000:=by decide):k<sizeLine:=Nat.lt_of_le_of_lt h w6
def Kg(own:Nat)(g:TGD)(tt:TBD)(te:TD)(rho:Rho)(P:D->Nat->Prop)(items:List D)(n1:Nat):Prop:=items.length<=sizeLine/\∃J:Nat->List D->Nat->Prop,J 0 [] n1 /\
 (∀i d acc n,items[i]?=some d->J i acc n->g d (replicate own none++rho) λrho'=>rho'.drop own=rho/\tt rho' n λc n2=>if c=true then te rho' n2 λe n3=>J (i+1) (acc++[e]) n3 else J (i+1) acc n2) /\
 ∀acc n,J items.length acc n->P (.lst acc) n
@[simp] theorem xv3{it own g tt te rho n P}:zc0 it own g tt te rho n P=it rho n (Kg own g tt te rho P):=rfl
def xb8(g:TGD)(tb:TSD)(F:EndsD)(rho:Rho)(items:List D)(n1:Nat):Prop:=∃J:Nat->Rho->Nat->Prop,J 0 rho n1 /\
 (∀i d rho n,items[i]?=some d->J i rho n->g d rho λrho'=>tb { F with nx:=J (i+1),ct:=J (i+1),bk:=F.nx } rho' n)/\∀rho n,J items.length rho n->F.nx rho n
@[simp] theorem xB8{it g tb F rho n}:xA2 it g tb F rho n=it rho n (xb8 g tb F rho):=rfl
def zD0{it:TID}{own:Nat}{g:TGD}{te:TD}{rho:Rho}{n:Nat}{P:D->Nat->Prop}{α:Type}(enc:α->D)(f:α->D)(xs:List α)
  (hi:∀R,R (xs.map enc) n->it rho n R) (hz:xs.length<=sizeLine) (he:∀x∈xs,∀Q,Q (f x) n->g (enc x) (replicate own none++rho) λrho'=>rho'.drop own=rho/\te rho' n Q) (hP:P (.lst (xs.map f)) n):zc0 it own g xg2 te rho n P:=by
 refine hi _ ⟨by simpa using hz,λi acc n'=>n'=n/\acc=(xs.take i).map f,⟨rfl,rfl⟩,?_,?_⟩
 ·rintro i d acc n' e ⟨rfl, rfl⟩;rw[zA] at e
  cases q:xs[i]? with
  |none=>rw[q] at e;cases e
  |some x=>
   rw[q] at e;cases e;have hm:x∈xs:=zN q;refine he x hm (λe n3=>n3=n'/\(xs.take i).map f++[e]=(xs.take (i+1)).map f) ⟨rfl,?_⟩;rw[xG,q];simp
 ·rintro acc n' ⟨rfl,rfl⟩;rw[zg,wy];exact hP
def zs2{α:Type}{xs:List α}{i:Int}(h0:0<=i)(h1:i<xs.length):∃d,atI xs i=some d/\d∈xs:=by
 obtain⟨k,rfl⟩:=xE h0
 have hk:k<xs.length:=w5
 exact⟨xs[k],qh (by simp[hk]),wz hk⟩
@[simp] theorem xM1{α:Type}{a:α}{l:List α}:atI (a::l) 0=some a:=qh (j:=0) rfl
@[simp] theorem xM0{α:Type}{a b:α}{l:List α}:atI (a::b::l) 1=some b:=qh (j:=1) rfl
@[simp] theorem xL9{α:Type}{a b c:α}{l:List α}:atI (a::b::c::l) 2=some c:=qh (j:=2) rfl
@[simp] theorem xs0{es p}:Zc (some (some (.own es))) p↔p es:=⟨fun⟨_,e,h⟩=>by cases e;exact h,λh=>⟨_,rfl,h⟩⟩
@[simp] theorem xk8{i tb rho n P}:zH1 i tb rho n P=Zc rho[i]? λes=>tb rho n λd n1=>∃j c,d=.int j/\atI es j=some c/\P c n1:=rfl
@[simp] theorem zX0{i te tb F rho n}:zJ3 i te tb F rho n=Zc rho[i]? λes=>te rho n λd n1=>tb rho n1 λd2 n2=>∃j m,d2=.int j/\ixN es.length j=some m/\F.nx (rho.set i (some (.own (es.set m d)))) n2:=rfl
@[simp] theorem xC4:ixN 3 0=some 0:=rfl
@[simp] theorem xC3:ixN 3 1=some 1:=rfl
@[simp] theorem xC2:ixN 3 2=some 2:=rfl
def zD6(H:Hp):Prop:=∀b,H b=none\/(∃o xs,H b=some (.frz o (.lst xs)))\/∃q,H b=some (.cot q)
def Uf(K:W.Frag):Sp:=λvs H Q _=>∃(a:Addr) (ns:List Int),vs=[.ref a]/\zD6 H/\SqL K H a (ns.map V.int)/\ns.length<=63/\(∀P q,kX K P q->H P=some (.cot q))/\∀H',(∀P q,H P=some (.cot q)->H' P=some (.cot q))->Q (.bl true) H'
def ww(ns:List Int):D:=.fz (ns.map D.int)
def vZ(ns:List Int)(N:Nat):Rho:=some (ww ns)::replicate (N-1) none
def Ww(ns:List Int)(i N:Nat):Rho:=(vZ ns N).set i (some .st)
theorem Zs{K:W.Frag}{G:Option Addr}{Z:Addr->Prop}{H:Hp}:∀{ns:List Int},Reps K G Z H (ns.map D.int) (ns.map V.int)
 |[]=>.nil
 |n::ns=>.cons (Rep.ofS (d:=.int n) rfl) Zs
theorem qz{K:W.Frag}{G:Option Addr}{Z:Addr->Prop}{H:Hp}:∀{ns:List Int}{xs:List V},Reps K G Z H (ns.map D.int) xs->xs=ns.map V.int
 |[],xs,h=>by unfold Reps at h;exact h
 |n::ns,xs,h=>by
  obtain⟨v,r,rfl,h1,h2⟩:=Reps.split h;rw[h1.int_inv,qz h2];rfl
section
variable {P:Program}{w:World}{K:W.Frag}{mg:Str->Option Value}{base:Heap}
def Fun.okLaw{x qual:Str}{st:Stmt}{f:Addr}{fd:FuncData}{N:List Str}{p:Str}{k:Nat}{t:TSD}(F:Fun K x qual st f fd)(S:FnScope N [p] (xj st))(n0:Nat)
  (body : ∀ (cdv : Value) (A0 : Around) (outer : List Env) (s : Shared) (H : Hp) (E : XK), Room k (A0.deeper (envOfC qual (xj st) s.heap.objs.size f cdv)) ->
   zc8 ⟨K,none,λ_=>False,H⟩ (zt4 CX0 P w K mg base N qual (xj st) f cdv A0 outer s H E).nox (vB st) t)
  (h1:∀(ns:List Int),ns.length<=63->t { nx:=λ_ _=>False,rt:=λd _=>d=.bl true } (startD N [ww ns]) n0):FnOk P w K mg base CX0 (k+1) f fd [p] (Uf K):=by
 exists (by
   refine F.ok S (λvs H Q E h=>?_) (λcdv A0 outer s H vs Q E hr h=>?_)
   ·obtain⟨a,ns,rfl,_⟩:=h;rfl
   ·obtain ⟨a, ns, rfl, hO, hS, hl, hT, k⟩ := h;refine⟨_,body cdv A0 outer s H E hr,?_⟩
    have rs:Reps K none (λ_=>False) H [ww ns] [.ref a]:=by
     refine .cons ?_ .nil;unfold ww Rep;refine⟨a,ns.map V.int,rfl,?_,Zs⟩
     rcases hS with (q |⟨o,q⟩) |q
     ·rcases hO a with z | ⟨o, xs, z⟩ | ⟨o, z⟩
      ·rw[z] at q;cases q
      ·rw[z] at q;cases q
      ·rw[z] at q;cases q
     ·exact .inl ⟨λz=>z,o,q⟩
     ·exact .inr (.inr q)
    refine⟨startD N [ww ns],n0,_,[],[],⟨[],jm rs (λb e=>by cases e) (λb e=>by cases e) ⟨λb e=>e.elim,λP q t=>⟨hT P q t,by simp⟩⟩⟩,h1 ns hl,?_⟩
    refine⟨λ_ _ _ _ _ q=>q.elim,λd n v rho2 sg2 H2 ⟨os2,I2⟩ q=>?_,λ_ _ _ _ _ q=>q.elim,λ_ _ _ _ _ q=>q.elim⟩;subst q;rw[I2.pop.2.bl_inv]
    exact k H2 λP q e=>I2.fr P _ (by simp) e)
end
def xA1(i:Nat)(t:TF)(t1:TAD)(t2:TSD):TSD:=λF rho n=>∃ns:List Int,i<rho.length/\i≠0/\rho[0]?=some (some (ww ns))/\t1 rho n λes n1=>∃j:Int,es=[ww ns,.int j]/\n1=n/\t es n λd n2=>∃zs:List Int,d=.lst (zs.map D.int)/\zs.length=n/\(∀x∈zs,0<=x)/\(∀x,zs[1]?=some x->x<2147483647) /\
 t2 { nx:=λrho' n'=>n'=n/\rho'.length=rho.length/\rho'[0]?=some (some (ww ns))/\F.nx (vZ ns rho.length) n,rt:=λd n'=>n'=n/\kr d=true/\F.rt d n,bk:=λrho' n'=>n'=n/\rho'.length=rho.length/\rho'[0]?=some (some (ww ns))/\F.bk (vZ ns rho.length) n,ct:=λrho' n'=>n'=n/\rho'.length=rho.length/\rho'[0]?=some (some (ww ns))/\F.ct (vZ ns rho.length) n } (Ww ns i rho.length) n
@[simp] theorem zS5{ns:List Int}:xZ (ww ns)=true:=rfl
@[simp] theorem zK5{ns:List Int}{k:D->Prop}:zG2 [ww ns] k↔k (.int ns.length):=by unfold ww;simp
def zk9{i:Nat}{t:TF}{t1:TAD}{t2:TSD}{F:EndsD}{rho:Rho}{n:Nat}(ns:List Int)(hi:i<rho.length)(h0:i≠0)(hr:rho[0]?=some (some (ww ns)))(j:Int)(ht:t1 rho n λes n1=>es=[ww ns,.int j]/\n1=n)
  (ht1:∀(P P':List D->Nat->Prop),(∀es n1,P es n1->P' es n1)->t1 rho n P->t1 rho n P')
  (h : t [ww ns, .int j] n λd n2 => ∃ zs : List Int, d = .lst (zs.map D.int) /\ zs.length = n /\ (∀ x ∈ zs, 0 <= x) /\ (∀ x, zs[1]? = some x -> x < 2147483647) /\
   t2 { nx:=λrho' n'=>n'=n/\rho'.length=rho.length/\rho'[0]?=some (some (ww ns))/\F.nx (vZ ns rho.length) n,rt:=λd n'=>n'=n/\kr d=true/\F.rt d n,bk:=λrho' n'=>n'=n/\rho'.length=rho.length/\rho'[0]?=some (some (ww ns))/\F.bk (vZ ns rho.length) n,ct:=λrho' n'=>n'=n/\rho'.length=rho.length/\rho'[0]?=some (some (ww ns))/\F.ct (vZ ns rho.length) n } (Ww ns i rho.length) n):xA1 i t t1 t2 F rho n:=
 ⟨ns,hi,h0,hr,ht1 _ _ (λes n1 ⟨e1,e2⟩=>⟨j,e1,e2,by rw[e1];exact h⟩) ht⟩
section
variable {A:AC}{X:Cx}{e:Expr}{es:List Expr}{t1:TAD}{t2:TSD}{pos p:Pos}
def ZN{K:W.Frag}{G G':Option Addr}{Z Z':Addr->Prop}{H H':Hp}{ns:List Int}{v:V}(h:Rep K G Z H (ww ns) v)(hz:∀a o u,¬ Z a->H a=some (.frz o u)->¬ Z' a/\H' a=some (.frz o u)):Rep K G' Z' H' (ww ns) v:=by
 unfold ww Rep at h ⊢;obtain⟨a,xs,rfl,sq,rs⟩:=h
 refine⟨a,xs,rfl,?_,by rw[qz rs];exact Zs⟩
 rcases sq with ⟨nz,o,e⟩ |sq
 ·obtain⟨z1,z2⟩:=hz a o _ nz e;exact .inl ⟨z1,o,z2⟩
 ·exact .inr sq
def zw6{x g:Str}{i:Nat}{t:TF}{kk:Nat}{pos' spos:Pos}{rest:List Stmt}(hG:A.G=none)(hN:X.N.Nodup)(hi:X.N[i]?=some x)(hx:Loc X.env.scope x)(F:Fn X.prog X.w X.K X.mg X.base g kk 2 t)(hr:Room kk X.A)(hK:X.K=A.K)
  (ha:PAD A X (e::es) t1) (h2:∀(c:Addr) (Z:Addr->Prop) (H0:Hp),zc8 ⟨A.K,some c,Z,H0⟩ X rest t2) (hg:Gl X g:=by rfl) (hdb:(g == ("__debug__" : Str))=false:=by decide) (he:starEach (e::es) X.env=(false,eval e X.env)::starEach es X.env:=by rfl) (hpl:(backTo pos (starEach es X.env)).any (·.1)=false:=by rfl)
  (hs:swapsWith (.Call (.Name g p) (e::es) [] pos) (some (.Name x pos')) spos.line X.env=pure false:=by rfl) (hf:X.fn x=true\/X.env.scope.names.lookup x=some .local:=by first |exact .inl rfl |exact .inr rfl |assumption) :
  zc8 A X (.Assign [.Name x pos'] (.Call (.Name g p) (e::es) [] pos) spos::rest) (xA1 i t t1 t2):=by
 exists (by
   obtain⟨f,fd,ps,f1,f2,f3,f4⟩:=F.ex;have c1:=JY (pos:=spos) hN hi hx (Vn (p:=p) f1 hr hg f2 f3 f4 .nil zy3 ha hdb he hpl) hs hf
   have c2:PSs X rest (λE' sg' H'=>∃c Z H0,sOf ⟨A.K,some c,Z,H0⟩ t2 E' sg' H'):=λpins s' sg' H' D I q=>by
    obtain⟨c,Z,H0,q⟩:=q;exact h2 c Z H0 pins s' sg' H' D I q
   refine(Vj c1 c2).imp λE sg H h=>?_;obtain⟨rho,n,F,ds,vs,I,⟨ns,hi',h0,hr0,ht⟩,ok⟩:=h;refine⟨rho,n,_,ds,vs,I,ht,λws H' n' es' ⟨os',J⟩ hl k=>?_⟩;obtain⟨j,rfl,rfl,k⟩:=k;obtain⟨J1,rs⟩:=J.split hl;obtain⟨v1,v2,rfl,r1,r2⟩:=Uq rs;have r1':Rep A.K none (λa=>Hot (H' a)/\¬ ∃o u,H' a=some (.frz o u)) H' (ww ns) v1:=ZN r1 λa o u _ e=>⟨λz=>z.2 ⟨o,u,e⟩,e⟩
   have r2':Rep A.K none (λa=>Hot (H' a)/\¬ ∃o u,H' a=some (.frz o u)) H' (.int j) v2:=by rw[r2.int_inv];exact Rep.ofS (d:=.int j) rfl
   rw[wM,hK]
   refine⟨none,λa=>Hot (H' a)/\¬ ∃o u,H' a=some (.frz o u),n',_,_,rfl,.cons r1' (.cons r2' .nil),λb e=>(by cases e),λb e=>(by cases e),⟨λb z=>z.1,λP q t=>⟨(J1.zO.2 P q t).1,by simp⟩⟩,k,λv H2 n2 d fr st r q=>?_⟩
   obtain⟨zs,rfl,q1,q2,q3,q⟩:=q;obtain⟨c,xs,rfl,sq,rr⟩:=r.lst_inv;rw[qz rr] at sq
   have hc:H' c=none:=by
    cases z:H' c with
    |none=>rfl
    |some o=>
     have z2:=fr c o (by simp) z
     rw[sq.2] at z2;cases z2
     exact absurd ⟨by rw[z];exact Hot.lst,fun⟨o,u,z3⟩=>by rw[z] at z3;cases z3⟩ sq.1
   have ne:∀{a:Addr}{o:HO},H' a=some o->a≠c:=λ{a o} e h=>by rw[h,hc] at e;cases e
   have back:∀{os:List (Nat × Addr)}{rho' rho2:Rho}{sg':St}{H3:Hp}{ds3:List D}{vs3:List V},AmO ⟨A.K,some c,λb=>Zof A os' b\/b=c,H2⟩ os n' rho' sg' H3 ds3 vs3->rho2.length=sg'.length->(∀j d,rho2[j]?=some (some d)->∃v,sg'[j]?=some (some v)/\Rep A.K A.G (Zof A []) H3 d v)->AmO A [] n' rho2 sg' H3 ds vs:=λ{os rho' rho2 sg' H3 ds3 vs3} I3 hl2 hs2=>by
    have keep:∀a o,H' a=some o->H3 a=some o:=λa o e=>I3.fr a o (λz=>ne e (zF z).symm) (fr a o (by simp) e)
    refine⟨hl2,λj d e=>?_,?_,.nil,λp hp=>(by simp at hp),λb e=>(by rw[hG] at e;cases e),J1.gz,λa o z e=>keep a o (J1.fr a o z e),J1.z0⟩
    ·obtain⟨v,e1,e2⟩:=hs2 j d e;exact⟨v,e1,SlotR.of e2⟩
    ·refine Reps.mono (λa _ z => ?_) (λa o _ e => keep a o e) _ _ J1.pend
     rcases z with z |⟨p,hp,_⟩
     ·exact .inl z
     ·simp at hp
   have scr:∀{os:List (Nat × Addr)}{rho':Rho}{sg':St}{H3:Hp}{ds3:List D}{vs3:List V},AmO ⟨A.K,some c,λb=>Zof A os' b\/b=c,H2⟩ os n' rho' sg' H3 ds3 vs3->rho'[0]?=some (some (ww ns))->rho.length=sg'.length->AmO A [] n' (vZ ns rho.length) sg' H3 ds vs:=λ{os rho' sg' H3 ds3 vs3} I3 e0 hl3=>by
    refine back I3 (by rw[<- hl3];simp[vZ];lia) λj d e=>?_
    unfold vZ at e
    cases j with
    |zero=>
     cases e;obtain⟨v,e1,e2⟩:=I3.slot 0 _ e0;have e3:=SlotR.rep (d:=ww ns) rfl e2;refine⟨v,e1,ZN e3 λa o u nz e=>⟨λz=>nz ?_,e⟩⟩
     rcases z with z |⟨p,hp,_⟩
     ·exact .inl (.inl (.inl z))
     ·simp at hp
    |succ j=>
     rw[List.getElem?_cons_succ,xg] at e
     split at e<;>cases e
   have hl0:rho.length=sg.length:=J1.len;refine⟨c,λb=>Zof A os' b\/b=c,H2,Ww ns i rho.length,n',_,[],[],⟨[],?_⟩,q,?_⟩
   ·refine ⟨by simp [Ww, vZ, hl0]; lia, λj d e => ?_, .nil, .nil, λp hp => by simp at hp, λb e => ?_, λb e => ?_, λb o _ e => e, ?_⟩
    ·unfold Ww at e
     by_cases hj:j=i
     ·subst hj
      rw[zQ (by simp[vZ];lia)] at e
      cases e
      exact⟨.ref c,zQ w5,SlotR.of (by unfold Rep;exact⟨c,rfl,rfl⟩)⟩
     ·rw [zY (Ne.symm hj)] at e;unfold vZ at e
      cases j with
      |zero=>
       cases e;obtain⟨v,e1,e2⟩:=J1.slot 0 _ hr0;have e3:=SlotR.rep (d:=ww ns) rfl e2
       refine⟨v,by rw[zY h0];exact e1,SlotR.of (ZN e3 λa o u nz e=>⟨λz=>?_,fr a _ (by simp) e⟩)⟩
       rcases z with (z |z) |⟨p,hp,_⟩
       ·exact nz z
       ·exact ne e z
       ·simp at hp
      |succ j=>
       rw[List.getElem?_cons_succ,xg] at e
       split at e<;>cases e
    ·cases e;exact⟨zs,0,0,sq.2,q1,q2,q3⟩
    ·exact .inr (zF e).symm
    ·refine ⟨λb e => ?_, λP q t => ⟨fr P _ (by simp) (J1.zO.2 P q t).1, λz => ne (J1.zO.2 P q t).1 (zF z).symm⟩⟩
     rcases e with e |e
     ·exact(J1.zHot b e).of λo z=>fr b o (by simp) z
     ·show Hot (H2 b);rw[e,sq.2];exact Hot.lst
   ·refine ⟨λrho3 n3 sg3 H3 ⟨os3, I3⟩ q => ?_, λd n3 v rho3 sg3 H3 ⟨os3, I3⟩ q => ?_, λrho3 n3 sg3 H3 ⟨os3, I3⟩ q => ?_, λrho3 n3 sg3 H3 ⟨os3, I3⟩ q => ?_⟩
    ·obtain ⟨rfl, l3, e3, q⟩ := q
     exact ok.nx _ _ _ _ ⟨[],scr I3 e3 (by rw[<- l3];exact I3.len)⟩ q
    ·obtain ⟨rfl, hd, q⟩ := q
     have I4:AmO A [] n3 (replicate sg3.length none) sg3 H3 ds vs:=back I3 (by simp) λj d e=>by
      rw[xg] at e
      split at e<;>cases e
     refine ok.rt _ _ _ _ _ _ ⟨[],I4.push ?_⟩ q;rw[I3.pop.2.toS hd];exact Rep.ofS hd
    ·obtain ⟨rfl, l3, e3, q⟩ := q
     exact ok.bk _ _ _ _ ⟨[],scr I3 e3 (by rw[<- l3];exact I3.len)⟩ q
    ·obtain ⟨rfl, l3, e3, q⟩ := q
     exact ok.ct _ _ _ _ ⟨[],scr I3 e3 (by rw[<- l3];exact I3.len)⟩ q)
end
end L2
namespace L2
open PySem PySem.Spec PyProof.Rows PySem.SeqAt
mutual
def eqD:D->D->Bool
 |.non,.non=>true
 |.bl a,.bl b=>a == b
 |.bl a,.int i=>(if a then 1 else 0) == i
 |.int i,.bl a=>i == (if a then 1 else 0)
 |.int i,.int j=>i == j
 |.str x,.str y=>x == y
 |.tup xs,.tup ys=>Yb xs ys
 |.lst xs,.lst ys=>Yb xs ys
 |_,_=>false
def Yb:List D->List D->Bool
 |[],[]=>true
 |x::xs,y::ys=>eqD x y&&Yb xs ys
 |_,_=>false
end
mutual
def okE:D->Nat->Bool
 |.non,_=>true
 |.bl _,_=>true
 |.int _,_=>true
 |.str _,_=>true
 |.tup ds,k=>match k with
  |0=>false
  |k+1=>UD ds k
 |.lst ds,k=>match k with
  |0=>false
  |k+1=>UD ds k
 |_,_=>false
def UD:List D->Nat->Bool
 |[],_=>true
 |d::ds,k=>okE d k&&UD ds k
end
theorem Zw:∀{ds:List D}{k i:Nat}{d:D},UD ds k=true->ds[i]?=some d->okE d k=true
 |[],k,i,d,_,e=>by simp at e
 |c::ds,k,0,d,h,e=>by
  simp at e;subst e;unfold UD at h;rw[zD] at h;exact h.1
 |c::ds,k,i+1,d,h,e=>by
  unfold UD at h;rw[zD] at h
  exact Zw (i:=i) h.2 (by simpa using e)
def eAt(xs ys:List D)(j:Nat):Bool:=match xs[j]?,ys[j]? with
 |some x,some y=>eqD x y
 |_,_=>true
def XV(n:Nat)(e:Nat->Bool):(List.range (n+1)).all e=(e 0&&(List.range n).all λj=>e (j+1)):=by
 rw[List.range_succ_eq_map,all_cons,List.all_map];rfl
theorem YI:∀(xs ys:List D),((List.range (min xs.length ys.length)).all (eAt xs ys)&&xs.length == ys.length)=Yb xs ys
 |[],[]=>by unfold Yb;rfl
 |[],y::ys=>by unfold Yb;simp
 |x::xs,[]=>by unfold Yb;simp
 |x::xs,y::ys=>by
  have ih:=YI xs ys;unfold Yb;rw[<- ih]
  have e1:min (x::xs).length (y::ys).length=min xs.length ys.length+1:=by simp only[zG];lia
  rw[e1,XV]
  have e2:((x::xs).length == (y::ys).length)=(xs.length == ys.length):=by simp
  rw[e2,Bool.and_assoc];rfl
def UZ{xs ys:List D}(h:xs.length=ys.length):(List.range xs.length).all (eAt xs ys)=Yb xs ys:=by
 rw[<- YI,h];simp
def zB7{xs ys:List D}(h:xs.length≠ys.length):Yb xs ys=false:=by
 rw[<- YI];simp[h]
theorem zp0:∀{xs ys:List D},xs.length=ys.length->(∀(j:Nat) (x y:D),xs[j]?=some x->ys[j]?=some y->eqD x y=true)->Yb xs ys=true
 |[],[],_,_=>by unfold Yb;rfl
 |[],y::ys,h,_=>by simp at h
 |x::xs,[],h,_=>by simp at h
 |x::xs,y::ys,h,q=>by
  unfold Yb
  rw[q 0 x y rfl rfl,zp0 (by simpa using h) λj a b ha hb=>q (j+1) a b (by simpa using ha) (by simpa using hb)]
  rfl
def Reps.get2{K:W.Frag}{G:Option Addr}{Z:Addr->Prop}{H:Hp}{ds:List D}{vs:List V}{i:Nat}{d:D}{v:V}(h:Reps K G Z H ds vs)(e:ds[i]?=some d)(e':vs[i]?=some v):Rep K G Z H d v:=by
 obtain⟨u,h1,h2⟩:=h.get e;rw[h1] at e';cases e';exact h2
section
variable {X:Cx}{pins:List (Addr × Obj)}{σ:St}{H:Hp}{s:Shared}{G:Option Addr}{Z:Addr->Prop}
def JX(I:Inv X pins σ H s):∀(k:Nat) (d1 d2:D) (v:V),okE d1 k=true->okE d2 k=true->Rep X.K G Z H d1 v->Rep X.K G Z H d2 v->eqD d1 d2=true:=by
 intro k
 induction k with
 | zero =>
  intro d1 d2 v h1 h2 r1 r2
  cases d1<;>cases d2<;>first
   |(simp[okE] at h1;done) |(simp[okE] at h2;done)
   |(have e1:=r1.toS rfl;have e2:=r2.toS rfl;rw[e1] at e2;simp[ofS] at e2;done)
   |(have e1:=r1.toS rfl;have e2:=r2.toS rfl;rw[e1] at e2;simp[ofS] at e2;simp[eqD,e2])
 | succ k ih =>
  have seq:∀{ds es:List D}{xs:List V},UD ds k=true->UD es k=true->Reps X.K G Z H ds xs->Reps X.K G Z H es xs->Yb ds es=true:=λ{ds es xs} h1 h2 r1 r2=>by
   refine zp0 (r1.length.symm.trans r2.length) λj x y hx hy=>?_;obtain⟨u,hu,ru⟩:=r1.get hx;exact ih x y u (Zw h1 hx) (Zw h2 hy) ru (r2.get2 hy hu)
  intro d1 d2 v h1 h2 r1 r2
  cases d1<;>cases d2<;>try (first
   |(simp[okE] at h1;done) |(simp[okE] at h2;done)
   |(have e1:=r1.toS rfl;have e2:=r2.toS rfl;rw[e1] at e2;simp[ofS] at e2;done)
   |(have e1:=r1.toS rfl;have e2:=r2.toS rfl;rw[e1] at e2;simp[ofS] at e2;simp[eqD,e2];done)
   |(obtain⟨a,xs,e,_⟩:=r1.tup_inv;have e2:=r2.toS rfl;rw[e] at e2;simp[ofS] at e2;done)
   |(obtain⟨a,xs,e,_⟩:=r1.lst_inv;have e2:=r2.toS rfl;rw[e] at e2;simp[ofS] at e2;done)
   |(obtain⟨a,xs,e,_⟩:=r2.tup_inv;have e2:=r1.toS rfl;rw[e] at e2;simp[ofS] at e2;done)
   |(obtain⟨a,xs,e,_⟩:=r2.lst_inv;have e2:=r1.toS rfl;rw[e] at e2;simp[ofS] at e2;done))
  ·rename_i ds es;obtain⟨a,xs,e,sq,rs⟩:=r1.tup_inv;obtain⟨b,ys,e',sq',rs'⟩:=r2.tup_inv;rw[e] at e';cases e';have:=I.tuple_inj sq.sq sq'.sq;subst this;unfold eqD
   exact seq (by simpa [okE] using h1) (by simpa [okE] using h2) rs rs'
  ·rename_i ds es;obtain⟨a,xs,e,sq,rs⟩:=r1.tup_inv;obtain⟨b,ys,e',sq',rs'⟩:=r2.lst_inv;rw[e] at e';cases e';obtain⟨its,rv,pl,hz⟩:=I.tuple sq.sq;obtain⟨its',rv',pl',hz'⟩:=I.list sq'.sq;exact absurd rfl (ne_of_list_tuple pl'.isList (show s.heap.IsTuple a its.toArray from pl))
  ·rename_i ds es;obtain⟨a,xs,e,sq,rs⟩:=r1.lst_inv;obtain⟨b,ys,e',sq',rs'⟩:=r2.tup_inv;rw[e] at e';cases e';obtain⟨its,rv,pl,hz⟩:=I.list sq.sq;obtain⟨its',rv',pl',hz'⟩:=I.tuple sq'.sq;exact absurd rfl (ne_of_list_tuple pl.isList (show s.heap.IsTuple a its'.toArray from pl'))
  ·rename_i ds es;obtain⟨a,xs,e,sq,rs⟩:=r1.lst_inv;obtain⟨b,ys,e',sq',rs'⟩:=r2.lst_inv;rw[e] at e';cases e';have:=I.list_inj sq.sq sq'.sq;subst this;unfold eqD
   exact seq (by simpa [okE] using h1) (by simpa [okE] using h2) rs rs'
def rcC{A:Around}{s:Shared}{y x:Value}{b c:Bool}(h:RcAt A s y x b)(e:b=c):RcAt A s y x c:=e ▸ h
def rnC{A:Around}{s:Shared}{y x:Value}{b c:Bool}(h:RcNeAt A s y x b)(e:b=c):RcNeAt A s y x c:=e ▸ h
def eqC{A:Around}{s:Shared}{y x:Value}{b c:Bool}(h:EqAt A s y x b)(e:b=c):EqAt A s y x c:=e ▸ h
def E3(A:Around)(s:Shared)(u1 u2:Value)(b:Bool):Prop:=EqAt A s u1 u2 b/\RcAt A s u1 u2 b/\RcNeAt A s u1 u2 (!b)
def E3.cast{A:Around}{s:Shared}{y x:Value}{b c:Bool}(h:E3 A s y x b)(e:b=c):E3 A s y x c:=e ▸ h
def zr9:D->D->Bool
 |.tup _,.tup _=>true
 |.lst _,.lst _=>true
 |_,_=>false
def ShE(s:Shared):D->Value->Prop
 |.non,u=>u=.none
 |.bl x,u=>u=.bool x
 |.int x,u=>∃t,u=.int x t
 |.str x,u=>∃t,u=.str x t
 |.tup _,u=>∃a its,u=.ref a/\s.heap.IsTuple a its
 |.lst _,u=>∃a its,u=.ref a/\s.heap.IsList a its
 |_,_=>False
def shE(I:Inv X pins σ H s){k:Nat}{d:D}{v:V}{u:Value}(h:okE d k=true)(r:Rep X.K G Z H d v)(q:RelV v u):ShE s d u:=by
 cases d with
 |non=>have:=r.toS rfl;subst this;exact q
 |bl x=>have:=r.toS rfl;subst this;exact q
 |int x=>have:=r.toS rfl;subst this;exact q
 |str x=>have:=r.toS rfl;subst this;exact q
 |tup x=>
  obtain⟨a,xs,w,sq,_⟩:=r.tup_inv;subst w;obtain⟨its,_,pl,_⟩:=I.tuple sq.sq;exact⟨a,its.toArray,q,pl⟩
 |lst x=>
  obtain⟨a,xs,w,sq,_⟩:=r.lst_inv;subst w;obtain⟨its,_,pl,_⟩:=I.list sq.sq;exact⟨a,its.toArray,q,pl.isList⟩
 |_=>simp[okE] at h
section
local macro_rules
 | `(tactic|nomatch $n:ident,$t,*)=>do
  let f:=fun(p:Lean.Name)=>Lean.mkIdent (p++n.getId)
  let t:=t.getElems
  `(tactic|exact E3.cast ⟨$(f `EqAt) $t*,$(f `RcAt) $t*,$(f `RcNeAt) $t*⟩ (by unfold eqD;rfl))
def zG7(I:Inv X pins σ H s){k:Nat}{d1 d2:D}{v1 v2:V}{u1 u2:Value}{A:Around}(h1:okE d1 k=true)(h2:okE d2 k=true)(r1:Rep X.K G Z H d1 v1)(r2:Rep X.K G Z H d2 v2)(q1:RelV v1 u1)(q2:RelV v2 u2)
  (hu:A.units<cLine) (hb:zr9 d1 d2=false):E3 A s u1 u2 (eqD d1 d2):=by
 have g1:=shE I h1 r1 q1;have g2:=shE I h2 r2 q2;clear h1 h2 r1 r2 q1 q2
 cases d1 with
 |non=>
  cases g1
  cases d2 with
  |non=>cases g2;exact E3.cast ⟨EqAt.same _,RcAt.none_none,RcNeAt.none_none⟩ (by unfold eqD;rfl)
  |bl=>cases g2;nomatch none_bool,_
  |int=>obtain⟨_,rfl⟩:=g2;nomatch none_int,_,_
  |str=>obtain⟨_,rfl⟩:=g2;nomatch none_str,_,_
  |tup=>obtain⟨_,_,rfl,L⟩:=g2;nomatch none_tuple,L,hu
  |lst=>obtain⟨_,_,rfl,L⟩:=g2;nomatch none_list,L,hu
  |_=>exact g2.elim
 |bl x1=>
  cases g1
  cases d2 with
  |non=>cases g2;nomatch bool_none,_
  |bl=>cases g2;nomatch bool_bool,_,_
  |int=>obtain⟨_,rfl⟩:=g2;nomatch bool_int,_,_,_
  |str=>obtain⟨_,rfl⟩:=g2;nomatch bool_str,_,_,_
  |tup=>obtain⟨_,_,rfl,L⟩:=g2;nomatch bool_tuple,_,L,hu
  |lst=>obtain⟨_,_,rfl,L⟩:=g2;nomatch bool_list,_,L,hu
  |_=>exact g2.elim
 |int x1=>
  obtain⟨t1,rfl⟩:=g1
  cases d2 with
  |non=>cases g2;nomatch int_none,_,_
  |bl=>cases g2;nomatch int_bool,_,_,_
  |int=>obtain⟨_,rfl⟩:=g2;nomatch int_int,_,_,_,_
  |str=>obtain⟨_,rfl⟩:=g2;nomatch int_str,_,_,_,_
  |tup=>obtain⟨_,_,rfl,L⟩:=g2;nomatch int_tuple,_,_,L,hu
  |lst=>obtain⟨_,_,rfl,L⟩:=g2;nomatch int_list,_,_,L,hu
  |_=>exact g2.elim
 |str x1=>
  obtain⟨t1,rfl⟩:=g1
  cases d2 with
  |non=>cases g2;nomatch str_none,_,_
  |bl=>cases g2;nomatch str_bool,_,_,_
  |int=>obtain⟨_,rfl⟩:=g2;nomatch str_int,_,_,_,_
  |str=>obtain⟨_,rfl⟩:=g2;nomatch str_str,_,_,_,_
  |tup=>obtain⟨_,_,rfl,L⟩:=g2;nomatch str_tuple,_,_,L,hu
  |lst=>obtain⟨_,_,rfl,L⟩:=g2;nomatch str_list,_,_,L,hu
  |_=>exact g2.elim
 |tup x1=>
  obtain⟨a1,i1,rfl,L1⟩:=g1
  cases d2 with
  |non=>cases g2;nomatch tuple_none,L1,hu
  |bl=>cases g2;nomatch tuple_bool,_,L1,hu
  |int=>obtain⟨_,rfl⟩:=g2;nomatch tuple_int,_,_,L1,hu
  |str=>obtain⟨_,rfl⟩:=g2;nomatch tuple_str,_,_,L1,hu
  |tup=>cases hb
  |lst=>obtain⟨_,_,rfl,L⟩:=g2;nomatch tuple_list,L1,L,hu
  |_=>exact g2.elim
 |lst x1=>
  obtain⟨a1,i1,rfl,L1⟩:=g1
  cases d2 with
  |non=>cases g2;nomatch list_none,L1,hu
  |bl=>cases g2;nomatch list_bool,_,L1,hu
  |int=>obtain⟨_,rfl⟩:=g2;nomatch list_int,_,_,L1,hu
  |str=>obtain⟨_,rfl⟩:=g2;nomatch list_str,_,_,L1,hu
  |tup=>obtain⟨_,_,rfl,L⟩:=g2;nomatch list_tuple,L1,L,hu
  |lst=>cases hb
  |_=>exact g2.elim
 |_=>exact g1.elim
end
def Qq(I:Inv X pins σ H s):∀(k:Nat) (d1 d2:D) (v1 v2:V) (u1 u2:Value) (A:Around),okE d1 k=true->okE d2 k=true->Rep X.K G Z H d1 v1->Rep X.K G Z H d2 v2->RelV v1 u1->RelV v2 u2 ->
  A.units+k<cLine->E3 A s u1 u2 (eqD d1 d2):=by
 intro k
 induction k with
 |zero=>
  intro d1 d2 v1 v2 u1 u2 A h1 h2 r1 r2 q1 q2 hu
  refine zG7 I h1 h2 r1 r2 q1 q2 w5 ?_
  cases d1<;>first |rfl |(simp[okE] at h1;done)
 | succ k ih =>
  intro d1 d2 v1 v2 u1 u2 A h1 h2 r1 r2 q1 q2 hu
  by_cases hb:zr9 d1 d2=false
  ·exact zG7 I h1 h2 r1 r2 q1 q2 w5 hb
  have items:∀{ds es:List D}{xs ys:List V}{its its':List Value},UD ds k=true->UD es k=true->Reps X.K G Z H ds xs->Reps X.K G Z H es ys->Vals xs its->Vals ys its' ->
    ∀(j:Nat) (l1:j<its.toArray.size) (l2:j<its'.toArray.size),EqAt A.in1 s its.toArray[j] its'.toArray[j] (eAt ds es j):=λ{ds es xs ys its its'} h1 h2 r1 r2 rv rv' j l1 l2=>by
   have l1':j<its.length:=by simpa using l1
   have l2':j<its'.length:=by simpa using l2
   have a1:j<ds.length:=by rw[<- r1.length,rv.length];exact l1'
   have a2:j<es.length:=by rw[<- r2.length,rv'.length];exact l2'
   have g1:ds[j]?=some ds[j]:=zf a1;have g2:es[j]?=some es[j]:=zf a2;obtain⟨w1,e1,p1⟩:=r1.get g1;obtain⟨w2,e2,p2⟩:=r2.get g2;obtain⟨z1,f1,t1⟩:=rv.get e1;obtain⟨z2,f2,t2⟩:=rv'.get e2
   have m1:its.toArray[j]=z1:=by
    have:its[j]?=some its[j]:=zf l1';rw[f1] at this
    simpa using (zF this).symm
   have m2:its'.toArray[j]=z2:=by
    have:its'[j]?=some its'[j]:=zf l2';rw[f2] at this
    simpa using (zF this).symm
   have e3:eAt ds es j=eqD ds[j] es[j]:=by unfold eAt;rw[g1,g2]
   rw[m1,m2,e3]
   exact(ih _ _ _ _ _ _ A.in1 (Zw h1 g1) (Zw h2 g2) p1 p2 t1 t2 (by show A.units+1+k<cLine;lia)).1
  cases d1 with
  | tup ds =>
   cases d2 with
   | tup es =>
    have s1:=r1;have s2:=r2;obtain⟨a,xs,e,sq,rs⟩:=r1.tup_inv;obtain⟨b,ys,e',sq',rs'⟩:=r2.tup_inv;subst e e';have c1:u1=.ref a:=q1;have c2:u2=.ref b:=q2;subst c1 c2;obtain⟨its,rv,pl,hz⟩:=I.tuple sq.sq;obtain⟨its',rv',pl',hz'⟩:=I.tuple sq'.sq
    have it:=items (by simpa [okE] using h1) (by simpa [okE] using h2) rs rs' rv rv'
    have n1:its.toArray.size=ds.length:=by rw[<- rs.length,rv.length];simp
    have n2:its'.toArray.size=es.length:=by rw[<- rs'.length,rv'.length];simp
    have ev:((List.range (min its.toArray.size its'.toArray.size)).all (eAt ds es)&&its.toArray.size == its'.toArray.size)=eqD (.tup ds) (.tup es):=by
     rw[n1,n2,YI];unfold eqD;rfl
    have R:=rcC (RcAt.tuples (A:=A) (show s.heap.IsTuple a its.toArray from pl) (show s.heap.IsTuple b its'.toArray from pl') w5 it) ev
    have N:=rnC (RcNeAt.tuples (A:=A) (show s.heap.IsTuple a its.toArray from pl) (show s.heap.IsTuple b its'.toArray from pl') w5 it) (congrArg (!·) ev)
    refine⟨?_,R,N⟩
    by_cases hab:a=b
    ·subst hab;exact eqC (EqAt.same _) (JX I (k+1) _ _ _ h1 h2 s1 s2).symm
    ·exact .of_refs hab R
   |_=>exact absurd rfl hb
  | lst ds =>
   cases d2 with
   | lst es =>
    have s1:=r1;have s2:=r2;obtain⟨a,xs,e,sq,rs⟩:=r1.lst_inv;obtain⟨b,ys,e',sq',rs'⟩:=r2.lst_inv;subst e e';have c1:u1=.ref a:=q1;have c2:u2=.ref b:=q2;subst c1 c2;obtain⟨its,rv,pl,hz⟩:=I.list sq.sq;obtain⟨its',rv',pl',hz'⟩:=I.list sq'.sq
    have it:=items (by simpa [okE] using h1) (by simpa [okE] using h2) rs rs' rv rv'
    have n1:its.toArray.size=ds.length:=by rw[<- rs.length,rv.length];simp
    have n2:its'.toArray.size=es.length:=by rw[<- rs'.length,rv'.length];simp
    have R:RcAt A s (.ref a) (.ref b) (eqD (.lst ds) (.lst es))/\RcNeAt A s (.ref a) (.ref b) (!eqD (.lst ds) (.lst es)):=by
     by_cases hl:ds.length=es.length
     ·have ev : (List.range its.toArray.size).all (eAt ds es) = eqD (.lst ds) (.lst es) := by rw [n1, UZ hl]; unfold eqD; rfl
      exact⟨rcC (RcAt.lists (A:=A) pl.isList pl'.isList (by rw[n1,n2,hl]) w5 it) ev,rnC (RcNeAt.lists (A:=A) pl.isList pl'.isList (by rw[n1,n2,hl]) w5 it) (congrArg (!·) ev)⟩
     ·have ev : false = eqD (.lst ds) (.lst es) := by unfold eqD; exact (zB7 hl).symm
      have hs:(its.toArray.size != its'.toArray.size)=true:=by rw[n1,n2];simpa using hl
      exact⟨rcC (RcAt.lists_lengths (A:=A) pl.isList pl'.isList hs w5) ev,rnC (RcNeAt.lists_lengths (A:=A) pl.isList pl'.isList hs w5) (congrArg (!·) ev)⟩
    refine⟨?_,R⟩
    by_cases hab:a=b
    ·subst hab;exact eqC (EqAt.same _) (JX I (k+1) _ _ _ h1 h2 s1 s2).symm
    ·exact .of_refs hab R.1
   |_=>exact absurd rfl hb
  |_=>exact absurd rfl hb
def EqV(X:Cx)(H:Hp)(x y:V)(b:Bool):Prop:=∀pins s σ v u,Inv X pins σ H s->RelV x v->RelV y u->∀A:Around,A.units+60<cLine->E3 A s v u b
def xA8(X:Cx):R2:=λx y H Q=>∃b,EqV X H x y b/\Q (.bl b) H
def xo5(X:Cx):R2:=λx y H Q=>∃b,EqV X H x y b/\Q (.bl (!b)) H
def zj2{n:Nat}(hr:Room n X.A):OpR X (compareOp .Eq) (xA8 X):=by
 intro pins s σ H x y v u Q I rx ry h;obtain⟨b,e,q⟩:=h
 exact(e pins s σ v u I rx ry X.A (by have:=hr.units;lia)).2.1 X.prog X.w X.xe _ ⟨.bl b,H,I,rfl,q⟩
def zF4{n:Nat}(hr:Room n X.A):OpR X (compareOp .NotEq) (xo5 X):=by
 intro pins s σ H x y v u Q I rx ry h;obtain⟨b,e,q⟩:=h
 exact(e pins s σ v u I rx ry X.A (by have:=hr.units;lia)).2.2 X.prog X.w X.xe _ ⟨.bl (!b),H,I,rfl,q⟩
def zW5:RD2:=λd1 d2 k=>okE d1 20=true/\okE d2 20=true/\k (.bl (eqD d1 d2))
def xo2:RD2:=λd1 d2 k=>okE d1 20=true/\okE d2 20=true/\k (.bl (!eqD d1 d2))
def zg1{A:AC}(hK:X.K=A.K):kZ A (xA8 X) zW5:=by
 rintro os n rho sg H ds vs d1 d2 v1 v2 k Q I ⟨h1,h2,q⟩ hQ;obtain⟨I1,r2⟩:=I.pop;obtain⟨I2,r1⟩:=I1.pop;rw[<- hK] at r1 r2
 exact⟨eqD d1 d2,λpins s σ v u J rx ry B hu=>Qq J 20 d1 d2 v1 v2 v u B h1 h2 r1 r2 rx ry w5,hQ _ H _ ⟨os,I2.push (Rep.ofS rfl)⟩ q⟩
@[simp] theorem xr7{d1 d2 k}:zW5 d1 d2 k=(okE d1 20=true/\okE d2 20=true/\k (.bl (eqD d1 d2))):=rfl
@[simp] theorem xr6{d1 d2 k}:xo2 d1 d2 k=(okE d1 20=true/\okE d2 20=true/\k (.bl (!eqD d1 d2))):=rfl
end
end L2
namespace L2
section
variable {A:AC}{X:Cx}{e a b:Expr}{es:List Expr}{te ta tb:TD}{t1:TAD}{pos p:Pos}
def Jk(d:D)(p:List D->Prop):Prop:=∃fs,d=.lst fs/\p fs
@[simp] theorem xs8{fs p}:Jk (.lst fs) p↔p fs:=⟨fun⟨_,e,h⟩=>by cases e;exact h,λh=>⟨_,rfl,h⟩⟩
def xn3(i:Nat)(te:TD):TSD:=λF rho n=>i<rho.length/\te rho n λd n1=>Jk d λfs=>F.nx (rho.set i (some (.own fs))) n1
@[simp] theorem xp9{i te F rho n}:xn3 i te F rho n=(i<rho.length/\te rho n λd n1=>Jk d λfs=>F.nx (rho.set i (some (.own fs))) n1):=rfl
def zp9(i:Nat):TD:=λrho n P=>Zc rho[i]? λes=>P (.int es.length) n
@[simp] theorem zX8{i rho n P}:zp9 i rho n P=Zc rho[i]? λes=>P (.int es.length) n:=rfl
def Xa{i:Nat}{x:Str}{px:Pos}(hm:X.mg "len" = none)(hK:X.K=A.K)(hN:X.N[i]?=some x:=by rfl)(hv:Vis X.env.scope x:=by first |exact Or.inl rfl |exact Or.inr (Or.inl rfl) |exact Or.inr (Or.inr rfl))(hd:(x == ("__debug__" : Str))=false:=by decide)
  (hcd:(x == ("__classdict__" : Str))=false:=by decide) (hg:Gl X "len" := by rfl)
  (he:starEach [.Name x px] X.env=(false,eval (.Name x px) X.env)::starEach [] X.env:=by rfl) (hpl:(backTo pos (starEach [] X.env)).any (·.1)=false:=by rfl):PD A X (.Call (.Name "len" p) [.Name x px] [] pos) (zp9 i):=by
 exists 
   (Vm wV hg hm kW (qD (qO hN hv hd hcd) Zu he) w6 w6 he hpl).imp λsg H Q h => by
    obtain⟨rho,n,P,ds,vs,⟨os,I⟩,⟨es,hi,k⟩,hQ⟩:=h;obtain⟨a,xs,e1,hH,rs,_⟩:=I.own (es':=es) (xs':=[]) hi
    exact⟨.ref a,e1,a,xs,rfl,.inl (SqL.of hH),by rw[rs.length];exact hQ _ H n _ ⟨os,I.push (Rep.ofS (d:=.int es.length) rfl)⟩ k⟩
def xg8(K:W.Frag)(mg:Str->Option Value)(x:Str)(d:D):Prop:=∃v u,mg x=some u/\RelV v u/\∀G Z H,Rep K G Z H d v
def zM3{x:Str}{d:D}(h:xg8 X.K X.mg x d)(hK:X.K=A.K)(hg:Gl X x:=by rfl)(hd:(x == ("__debug__" : Str))=false:=by decide):PD A X (.Name x pos) (dC d):=by
 exists (by
   obtain⟨v,u,hm,r,hr⟩:=h;refine(zL7 hg hm r hd).imp λsg H Q q=>?_;obtain⟨rho,n,P,ds,vs,⟨os,I⟩,q,hQ⟩:=q
   exact hQ v H n d ⟨os,I.push (by rw[<- hK];exact hr _ _ _)⟩ q)
def zB4{K:W.Frag}{mg:Str->Option Value}{x:Str}{a:Addr}{o:Obj}{its:Array Value}{n:Nat}{ds:List D}{xs:List V}(hm:mg x=some (.ref a))(hk:K.lookup a=some o)(hc:o.cls=.type "tuple")(hd:o.data=.seq its n)(hz:its.size<=sizeLine)(hv:Vals xs its.toList)
  (hs:∀G Z H,Reps K G Z H ds xs):xg8 K mg x (.tup ds):=⟨.ref a,.ref a,hm,rfl,λG Z H=>.tup_mk (.inr (.inr ⟨o,its,n,hk,hc,hd,hz,hv⟩)) (hs G Z H)⟩
def FnOk.botK{P:Program}{w:World}{K:W.Frag}{mg:Str->Option Value}{base:Heap}{f:Addr}{fd:FuncData}{ps:List Str}{k L:Nat}{t:TF}(ht:∀ds n Q,¬ t ds n Q):FnOk P w K mg base CX0 L f fd ps (spD K k t):=by
 refine⟨λvs H Q E h=>?_,λA outer s H args us vs Q E _ _ _ _ h=>?_⟩
 ·obtain⟨G,Z,n,R,ds,hl,rs,hst,gz,z0,h,_⟩:=h;exact(ht _ _ _ h).elim
 ·obtain⟨G,Z,n,R,ds,hl,rs,hst,gz,z0,h,_⟩:=h;exact(ht _ _ _ h).elim
end
def yY{own:Nat}{g:TGD}{te:TD}{rho:Rho}{n:Nat}{P:D->Nat->Prop}{α:Type}(enc:α->D)(f:α->D)(xs:List α)
  (hz:xs.length<=sizeLine) (he:∀x∈xs,∀Q,Q (f x) n->g (enc x) (replicate own none++rho) λrho'=>rho'.drop own=rho/\te rho' n Q) (hP:P (.lst (xs.map f)) n):Kg own g xg2 te rho P (xs.map enc) n:=
 zD0 (it:=λ_ n R=>R (xs.map enc) n) (rho:=rho) enc f xs (λR h=>h) hz he hP
def zg6{d:D}{T:String}{k:D->Prop}(hT:T = "bool" \/ T = "int" \/ T = "str" \/ T = "tuple" \/ T = "list"):zS7 [d,.ty T] k↔(VF d=true/\k (.bl (zP9 T d))):=
 ⟨fun⟨d',T',e,_,h1,h2⟩=>by cases e;exact⟨h1,h2⟩,λh=>⟨d,T,rfl,hT,h.1,h.2⟩⟩
@[simp] theorem zX7{d:D}{k:D->Prop}:zS7 [d,.ty "bool"] k↔(VF d=true/\k (.bl (zP9 "bool" d))):=zg6 w6
@[simp] theorem xk1{d:D}{k:D->Prop}:zS7 [d,.ty "int"] k↔(VF d=true/\k (.bl (zP9 "int" d))):=zg6 w6
@[simp] theorem xk0{d:D}{k:D->Prop}:zS7 [d,.ty "str"] k↔(VF d=true/\k (.bl (zP9 "str" d))):=zg6 w6
@[simp] theorem zS6{d:D}{k:D->Prop}:zS7 [d,.ty "tuple"] k↔(VF d=true/\k (.bl (zP9 "tuple" d))):=zg6 w6
@[simp] theorem zX6{d:D}{k:D->Prop}:zS7 [d,.ty "list"] k↔(VF d=true/\k (.bl (zP9 "list" d))):=zg6 w6
@[simp] theorem xr2{i j:Str}{k}:zK2 (.str i) (.str j) k↔k (.bl (decide (i=j))):=by
 have e:decide (ofS (.str i)=ofS (.str j))=decide (i=j):=by simp[ofS]
 unfold zK2;rw[e];exact⟨λh=>h.2.2.2,λh=>⟨rfl,rfl,rfl,h⟩⟩
theorem Vt:∀{ds:List D}{k:Nat},UD ds k=true↔∀d∈ds,okE d k=true
 |[],k=>by unfold UD;simp
 |c::ds,k=>by
  unfold UD;rw[zD,Vt];simp
def Zd{ds:List D}{k:Nat}:okE (.tup ds) (k+1)=true↔∀d∈ds,okE d k=true:=by
 have e:okE (.tup ds) (k+1)=UD ds k:=by rw[okE]
 rw[e,Vt]
mutual
theorem VI:∀{d:D}{k:Nat},okE d k=true->eqD d d=true
 |.non,k,_=>by simp[eqD]
 |.bl b,k,_=>by simp[eqD]
 |.int b,k,_=>by simp[eqD]
 |.str b,k,_=>by simp[eqD]
 |.tup ds,0,h=>by simp[okE] at h
 |.tup ds,k+1,h=>by unfold eqD;unfold okE at h;exact XC h
 |.lst ds,0,h=>by simp[okE] at h
 |.lst ds,k+1,h=>by unfold eqD;unfold okE at h;exact XC h
 |.ty _,k,h=>by simp[okE] at h
 |.fz _,k,h=>by simp[okE] at h
 |.st,k,h=>by simp[okE] at h
 |.own _,k,h=>by simp[okE] at h
 |.owT _ _,k,h=>by simp[okE] at h
 |.prT _,k,h=>by simp[okE] at h
theorem XC:∀{ds:List D}{k:Nat},UD ds k=true->Yb ds ds=true
 |[],k,_=>by simp[Yb]
 |d::ds,k,h=>by
  unfold UD at h;rw[zD] at h;unfold Yb;rw[VI h.1,XC h.2];rfl
end
def zP4(es:List D)(k:List D->Prop):Prop:=∃d1 d2 b1 xs b2 ys,es=[d1,d2]/\YR d1=some (b1,xs)/\YR d2=some (b2,ys)/\k (VZ xs ys)
@[simp] theorem xu3{t:TAD}{rho n P}:xd6 t rho n P↔t rho n λes n1=>zP4 es λl=>P l n1:=Iff.rfl
def Ym{d1 d2:D}{b1 b2 xs ys}{k:List D->Prop}(h1:YR d1=some (b1,xs))(h2:YR d2=some (b2,ys)):zP4 [d1,d2] k↔k (VZ xs ys):=by
 constructor
 ·rintro⟨_,_,_,_,_,_,e,e1,e2,h⟩;cases e;rw[h1] at e1;rw[h2] at e2;cases e1;cases e2;exact h
 ·intro h;exact⟨_,_,_,_,_,_,rfl,h1,h2,h⟩
@[simp] theorem xj1{xs ys}{k:List D->Prop}:zP4 [.tup xs,.tup ys] k↔k (VZ xs ys):=Ym rfl rfl
@[simp] theorem xj2{xs ys}{k:List D->Prop}:zP4 [.tup xs,.lst ys] k↔k (VZ xs ys):=Ym rfl rfl
@[simp] theorem xj3{xs ys}{k:List D->Prop}:zP4 [.lst xs,.tup ys] k↔k (VZ xs ys):=Ym rfl rfl
@[simp] theorem xj4{xs ys}{k:List D->Prop}:zP4 [.lst xs,.lst ys] k↔k (VZ xs ys):=Ym rfl rfl
def zo4{K:W.Frag}{mg:Str->Option Value}{x:Str}{a:Addr}{od:Option Addr}{n:Nat}{i j:Int}{t u:Tok}{sl}(hm:mg x=some (.ref a))(hk:K.lookup a=some ⟨.type "tuple",od,.seq #[.int i t,.int j u] n,sl⟩):xg8 K mg x (.tup [.int i,.int j]):=
 zB4 (xs:=[.int i,.int j]) hm hk rfl rfl (by simp[sizeLine]) (.cons ⟨_,rfl⟩ (.cons ⟨_,rfl⟩ .nil)) λG Z H=>by
  exact .cons (.ofS (d:=.int i) rfl) (.cons (.ofS (d:=.int j) rfl) .nil)
theorem XM(f:Nat->Int)(bt:Nat->Nat->Bool)(h:∀i j,bt i j=true↔f j<f i):∀k,argBest bt k<=k/\∀i,i<=k->f i<=f (argBest bt k)
 |0=>⟨zn _,λi hi=>by cases Nat.le_zero.mp hi;exact yV _⟩
 | k + 1 => by
  obtain⟨h1,h2⟩:=XM f bt h k;rw[argBest.eq_2]
  by_cases hb:bt (k+1) (argBest bt k)=true
  ·rw [if_pos hb];have hb':=(h _ _).mp hb;refine⟨zn _,λi hi=>?_⟩
   by_cases e:i=k+1
   ·subst e;exact yV _
   ·have:=h2 i w5;lia
  ·rw [if_neg hb];have hb':¬ f (argBest bt k)<f (k+1):=λz=>hb ((h _ _).mpr z)
   refine⟨w5,λi hi=>?_⟩
   by_cases e:i=k+1
   ·subst e;lia
   ·exact h2 i w5
def Vals.ints_at{ns:List Int}{us:List Value}(h:Vals (ns.map V.int) us){i:Nat}{v:Value}(e:us[i]?=some v):i<ns.length/\∃t,v=.int (ns[i]?.getD 0) t:=by
 have hl:us.length=ns.length:=by have:=h.length;simpa using this.symm
 have hi:i<ns.length:=by rw[<- hl];exact(zq.mp e).1
 refine⟨hi,?_⟩
 have e2:(ns.map V.int)[i]?=some (.int ns[i]):=by rw[zA,zf hi];rfl
 obtain⟨u,hu,r⟩:=h.get e2;rw[e] at hu;cases hu;obtain⟨t,rfl⟩:=r
 exact⟨t,by rw[zf hi];rfl⟩
section
variable {X:Cx}
def Km(hc:X.calm=true):kG X (.builtin "max") (λxs H Q=>∃(p:Addr) (ns:List Int),xs=[.ref p]/\SqL X.K H p (ns.map V.int)/\0<ns.length/\∀M,M∈ns->(∀a∈ns,a<=M)->Q (.int M) H):=by
 intro pins s σ H xs us Q I r h;obtain⟨p,ns,rfl,hq,hn,q⟩:=h
 cases r with
 | cons r rr =>
  cases rr;cases r;obtain⟨its,rv,pl,_⟩:=I.list hq;have hl:=pl.isList
  have hlt:p<s.heap.objs.size:=by obtain⟨_,e,_⟩:=hl;exact zo e
  have hsz:its.length=ns.length:=by have:=rv.length;simpa using this.symm
  refine call_max_walk (yw hl ⟨s.heap.objs.size,[s.heap.objs.size,p],[s.heap.objs.size],its.toArray.size,_,_,λi j=>decide (ns[j]?.getD 0<ns[i]?.getD 0),rfl,
   Walks.list (A:=X.A.in1) (I.ok.hd hc) _ p (zw hlt) _,⟨⟨_,zp _ rfl,rfl,rfl⟩,hl.push _⟩,λb hb=>?_,?_,λi j vi vj s' Q' E' hi hj hQ=>?_,λv h' tk hP hk=>?_⟩)
  ·simp only [zj, zS, or_false] at hb
   rcases hb with rfl |rfl
   ·simp[Heap.push]
   ·exact Nat.lt_trans hlt (by simp[Heap.push])
  ·rw[zt,hsz];exact hn
  ·have hi' : its[i]? = some vi := by simpa using hi
   have hj':its[j]?=some vj:=by simpa using hj
   obtain⟨_,ti,rfl⟩:=rv.ints_at hi';obtain⟨_,tj,rfl⟩:=rv.ints_at hj';exact(PyProof.Rows.gt_int hQ:wpAny (model X.prog X.w) X.A.in1 (compareOp .Gt _ _) Q' E' s')
  ·have hP' : its[argBest (λi j => decide (ns[j]?.getD 0 < ns[i]?.getD 0)) (its.toArray.size - 1)]? = some v := by simpa using hP
   obtain⟨hlt2,t,rfl⟩:=rv.ints_at hP'
   obtain⟨hb1,hb2⟩:=XM (λi=>ns[i]?.getD 0) (λi j=>decide (ns[j]?.getD 0<ns[i]?.getD 0)) (λi j=>by simp) (its.toArray.size-1)
   generalize argBest (λi j=>decide (ns[j]?.getD 0<ns[i]?.getD 0)) (its.toArray.size-1)=m at *;refine⟨.int (ns[m]?.getD 0),H,I.kept (Qg hk),⟨_,rfl⟩,q _ ?_ λa ha=>?_⟩
   ·rw[zf hlt2];exact wz hlt2
   ·obtain ⟨i, hi, rfl⟩ := List.mem_iff_getElem.mp ha
    have:=hb2 i (by rw[zt,hsz];lia)
    rw[zf hi] at this;exact this
def Kj(hc:X.calm=true):kG X (.builtin "min") (λxs H Q=>∃(p:Addr) (ns:List Int),xs=[.ref p]/\SqL X.K H p (ns.map V.int)/\0<ns.length/\∀M,M∈ns->(∀a∈ns,M<=a)->Q (.int M) H):=by
 intro pins s σ H xs us Q I r h;obtain⟨p,ns,rfl,hq,hn,q⟩:=h
 cases r with
 | cons r rr =>
  cases rr;cases r;obtain⟨its,rv,pl,_⟩:=I.list hq;have hl:=pl.isList
  have hlt:p<s.heap.objs.size:=by obtain⟨_,e,_⟩:=hl;exact zo e
  have hsz:its.length=ns.length:=by have:=rv.length;simpa using this.symm
  refine call_min_walk (yw hl ⟨s.heap.objs.size,[s.heap.objs.size,p],[s.heap.objs.size],its.toArray.size,_,_,λi j=>decide (ns[i]?.getD 0<ns[j]?.getD 0),rfl,
   Walks.list (A:=X.A.in1) (I.ok.hd hc) _ p (zw hlt) _,⟨⟨_,zp _ rfl,rfl,rfl⟩,hl.push _⟩,λb hb=>?_,?_,λi j vi vj s' Q' E' hi hj hQ=>?_,λv h' tk hP hk=>?_⟩)
  ·simp only [zj, zS, or_false] at hb
   rcases hb with rfl |rfl
   ·simp[Heap.push]
   ·exact Nat.lt_trans hlt (by simp[Heap.push])
  ·rw[zt,hsz];exact hn
  ·have hi' : its[i]? = some vi := by simpa using hi
   have hj':its[j]?=some vj:=by simpa using hj
   obtain⟨_,ti,rfl⟩:=rv.ints_at hi';obtain⟨_,tj,rfl⟩:=rv.ints_at hj';exact(PyProof.Rows.lt_int hQ:wpAny (model X.prog X.w) X.A.in1 (compareOp .Lt _ _) Q' E' s')
  ·have hP' : its[argBest (λi j => decide (ns[i]?.getD 0 < ns[j]?.getD 0)) (its.toArray.size - 1)]? = some v := by simpa using hP
   obtain⟨hlt2,t,rfl⟩:=rv.ints_at hP'
   obtain⟨hb1,hb2⟩:=XM (λi=>- ns[i]?.getD 0) (λi j=>decide (ns[i]?.getD 0<ns[j]?.getD 0)) (λi j=>by simp) (its.toArray.size-1)
   generalize argBest (λi j=>decide (ns[i]?.getD 0<ns[j]?.getD 0)) (its.toArray.size-1)=m at *;refine⟨.int (ns[m]?.getD 0),H,I.kept (Qg hk),⟨_,rfl⟩,q _ ?_ λa ha=>?_⟩
   ·rw[zf hlt2];exact wz hlt2
   ·obtain ⟨i, hi, rfl⟩ := List.mem_iff_getElem.mp ha
    have:=hb2 i (by rw[zt,hsz];lia)
    rw[zf hi] at this;have e:(some ns[i]).getD 0=ns[i]:=rfl;rw[e] at this;lia
end
section
variable {A:AC}
theorem ki{K:W.Frag}{G:Option Addr}{Z:Addr->Prop}{H:Hp}:∀{bs:List Int}{ws:List V},Reps K G Z H (bs.map D.int) ws->ws=bs.map V.int
 |[],ws,h=>h.nil_inv
 |b::bs,ws,h=>by
  obtain⟨v,r,rfl,q,t⟩:=h.split;rw[q.int_inv,ki t];rfl
def xc9:List D->(D->Prop)->Prop:=λes k=>∃i j,es=[.int i,.int j]/\k (.int (if j > i then j else i))
def xc6:List D->(D->Prop)->Prop:=λes k=>∃i j,es=[.int i,.int j]/\k (.int (if j<i then j else i))
def xd0:List D->(D->Prop)->Prop:=λes k=>∃ns:List Int,es=[.lst (ns.map D.int)]/\0<ns.length/\∀M,M∈ns->(∀a∈ns,a<=M)->k (.int M)
def xc7:List D->(D->Prop)->Prop:=λes k=>∃ns:List Int,es=[.lst (ns.map D.int)]/\0<ns.length/\∀M,M∈ns->(∀a∈ns,M<=a)->k (.int M)
@[simp] theorem xt5{i j k}:xc9 [.int i,.int j] k↔k (.int (if j > i then j else i)):=⟨fun⟨_,_,e,h⟩=>by cases e;exact h,λh=>⟨_,_,rfl,h⟩⟩
@[simp] theorem xt3{i j k}:xc6 [.int i,.int j] k↔k (.int (if j<i then j else i)):=⟨fun⟨_,_,e,h⟩=>by cases e;exact h,λh=>⟨_,_,rfl,h⟩⟩
def zq6:vo A (λxs H Q=>∃i j,xs=[.int i,.int j]/\Q (.int (if j > i then j else i)) H) xc9:=by
 rintro os n rho sg H ds vs es ws k Q I rs ⟨i,j,rfl,q⟩ hQ;obtain⟨v,v',rfl,r,r'⟩:=Uq rs
 exact⟨i,j,by rw[r.int_inv,r'.int_inv],hQ _ H _ ⟨os,I.push (Rep.ofS rfl)⟩ q⟩
def zq3:vo A (λxs H Q=>∃i j,xs=[.int i,.int j]/\Q (.int (if j<i then j else i)) H) xc6:=by
 rintro os n rho sg H ds vs es ws k Q I rs ⟨i,j,rfl,q⟩ hQ;obtain⟨v,v',rfl,r,r'⟩:=Uq rs
 exact⟨i,j,by rw[r.int_inv,r'.int_inv],hQ _ H _ ⟨os,I.push (Rep.ofS rfl)⟩ q⟩
def zq7:vo A (λxs H Q=>∃(p:Addr) (ns:List Int),xs=[.ref p]/\SqL A.K H p (ns.map V.int)/\0<ns.length/\∀M,M∈ns->(∀a∈ns,a<=M)->Q (.int M) H) xd0:=by
 rintro os n rho sg H ds vs es ws k Q I rs ⟨ns,rfl,hn,q⟩ hQ;obtain⟨v,rfl,r⟩:=kL rs;obtain⟨a,xs,rfl,sq,rr⟩:=r.lst_inv;have e:=ki rr;subst e;exact⟨a,ns,rfl,sq.sq,hn,λM h1 h2=>hQ _ H _ ⟨os,I.push (Rep.ofS rfl)⟩ (q M h1 h2)⟩
def zq4:vo A (λxs H Q=>∃(p:Addr) (ns:List Int),xs=[.ref p]/\SqL A.K H p (ns.map V.int)/\0<ns.length/\∀M,M∈ns->(∀a∈ns,M<=a)->Q (.int M) H) xc7:=by
 rintro os n rho sg H ds vs es ws k Q I rs ⟨ns,rfl,hn,q⟩ hQ;obtain⟨v,rfl,r⟩:=kL rs;obtain⟨a,xs,rfl,sq,rr⟩:=r.lst_inv;have e:=ki rr;subst e;exact⟨a,ns,rfl,sq.sq,hn,λM h1 h2=>hQ _ H _ ⟨os,I.push (Rep.ofS rfl)⟩ (q M h1 h2)⟩
def WK:bootBuiltins "max" = some (.builtin "max"):=x6
def Ko:bootBuiltins "min" = some (.builtin "min"):=x6
end
def XH{own:Nat}{g:TGD}{tt:TBD}{te:TD}{rho:Rho}{n:Nat}{P:D->Nat->Prop}{α:Type}(enc:α->D)(keep:α->Bool)(f:α->D)(xs:List α)(hz:xs.length<=sizeLine)
  (he:∀x∈xs,∀(R:D->Nat->Prop) (S:Nat->Prop),(keep x=true->R (f x) n)->(keep x=false->S n)->g (enc x) (replicate own none++rho) λrho'=>rho'.drop own=rho/\tt rho' n λc n2=>if c=true then te rho' n2 R else S n2)
  (hP:P (.lst ((xs.filter keep).map f)) n):Kg own g tt te rho P (xs.map enc) n:=by
 refine⟨by simpa using hz,λi acc n'=>n'=n/\acc=((xs.take i).filter keep).map f,⟨rfl,rfl⟩,?_,?_⟩
 ·rintro i d acc n' e ⟨rfl, rfl⟩;rw[zA] at e
  cases q:xs[i]? with
  |none=>rw[q] at e;cases e
  |some x=>
   rw[q] at e;cases e;have hm:x∈xs:=zN q
   have et:xs.take (i+1)=xs.take i++[x]:=by rw[xG,q];rfl
   refine he x hm (λe n3=>n3=n'/\((xs.take i).filter keep).map f++[e]=((xs.take (i+1)).filter keep).map f) (λn3=>n3=n'/\((xs.take i).filter keep).map f=((xs.take (i+1)).filter keep).map f) (λhk=>⟨rfl,?_⟩) (λhk=>⟨rfl,?_⟩)
   ·rw[et,yX];simp[hk]
   ·rw[et,yX];simp[hk]
 ·rintro acc n' ⟨rfl,rfl⟩;rw[zg,wy];exact hP
def zN7{ds:List D}{k:Nat}:okE (.lst ds) (k+1)=true↔∀d∈ds,okE d k=true:=by
 have e:okE (.lst ds) (k+1)=UD ds k:=by rw[okE]
 rw[e,Vt]
def Ze{i:Int}{k:Nat}:okE (.int i) k=true:=by simp[okE]
section
variable {X:Cx}
end
section
variable {A:AC}
def zW6:RD2:=λd1 d2 k=>∃es fs,d1=.tup es/\d2=.tup fs/\es.length+fs.length<=sizeLine/\k (.tup (es++fs))
@[simp] theorem xi5{es fs k}:zW6 (.tup es) (.tup fs) k↔(es.length+fs.length<=sizeLine/\k (.tup (es++fs))):=⟨fun⟨_,_,e,e',h⟩=>by cases e;cases e';exact h,λh=>⟨_,_,rfl,rfl,h⟩⟩
end
section
variable {A:AC}{X:Cx}{a b c e:Expr}{es:List Expr}{te ta tb tc:TD}{t1:TAD}{pos p:Pos}
def ZX(d:D)(k:Int->Prop):Prop:=∃i,d=.int i/\k i
@[simp] theorem xu2{i:Int}{k}:ZX (.int i) k↔k i:=⟨fun⟨_,e,h⟩=>by cases e;exact h,λh=>⟨_,rfl,h⟩⟩
def xf7(f g:Int->Int->Bool)(ta tb tc:TD):TD:=λrho n P=>ta rho n λd1 n1=>tb rho n1 λd2 n2=>ZX d1 λi=>ZX d2 λj=>if f i j=true then tc rho n2 λd3 n3=>ZX d3 λk=>P (.bl (g j k)) n3 else P (.bl false) n2
@[simp] theorem xl2{f g ta tb tc rho n P}:xf7 f g ta tb tc rho n P=ta rho n λd1 n1=>tb rho n1 λd2 n2=>ZX d1 λi=>ZX d2 λj=>if f i j=true then tc rho n2 λd3 n3=>ZX d3 λk=>P (.bl (g j k)) n3 else P (.bl false) n2:=rfl
def xd9(t:TAD):TID:=λrho n P=>t rho n λes n1=>QX es λd1 d2=>ZX d1 λi=>ZX d2 λj=>(-(2^62)<=i/\i<2^62/\-(2^62)<=j/\j<2^62)/\P (KQ i (j-i).toNat) n1
@[simp] theorem xk2{t rho n P}:xd9 t rho n P=t rho n λes n1=>QX es λd1 d2=>ZX d1 λi=>ZX d2 λj=>(-(2^62)<=i/\i<2^62/\-(2^62)<=j/\j<2^62)/\P (KQ i (j-i).toNat) n1:=rfl
def zJ4(i:Nat)(t:TAD):TSD:=λF rho n=>Zc rho[i]? λes=>t rho n λds n1=>∃fs,ds=[.lst fs]/\es.length+fs.length<=sizeLine/\F.nx (rho.set i (some (.own (es++fs)))) n1
@[simp] theorem zX1{i t F rho n}:zJ4 i t F rho n=Zc rho[i]? λes=>t rho n λds n1=>∃fs,ds=[.lst fs]/\es.length+fs.length<=sizeLine/\F.nx (rho.set i (some (.own (es++fs)))) n1:=rfl
end
theorem Yg:∀{us:List Value}{ns:List Int},IntsAre us ns->Vals (ns.map V.int) us
 |_,_,.nil=>.nil
 |_,_,.cons n t h=>.cons ⟨t,rfl⟩ (Yg h)
section
variable {X:Cx}{A:AC}
def Jw:kG X (.builtin "sorted") (λxs H Q=>∃(p:Addr) (ns:List Int),xs=[.ref p]/\SqL X.K H p (ns.map V.int)/\ns.length<64/\∀ms:List Int,ms.Perm ns->ms.Pairwise (·<=·)->∀l,H l=none->Q (.ref l) (upd H l (.lst (ms.map V.int)))):=by
  intro pins s σ H xs us Q I r h;obtain⟨p,ns,rfl,hq,hn,q⟩:=h
  cases r with
  | cons r rr =>
    cases rr;cases r;obtain⟨its,rv,pl,_⟩:=I.list hq;have hl:=pl.isList
    have hsz:its.length=ns.length:=by have:=rv.length;simpa using this.symm
    refine sorted_ints hl (kH rv) w5 λout ms hi hp hs=>?_
    obtain⟨e,he⟩:=sortedAll_at s.heap its out;have hml:ms.length=ns.length:=hp.length_eq;have hf:H (s.heap.objs.size+1)=none:=I.hok.fresh (xq _);refine⟨.ref (s.heap.objs.size+1),_,I.laid (t':=s.toks) (o:=.lst (ms.map V.int)) (λb u e=>sortedAll_old e) (xq _) ?_,rfl,q ms hp hs _ hf⟩
    exact⟨by rw[zg];exact zy w5 (yE (k:=64) w5),out.toList,e,Yg hi,he⟩
def zP5:List D->(D->Prop)->Prop:=λes k=>∃ns:List Int,es=[.lst (ns.map D.int)]/\ns.length<64/\∀ms:List Int,ms.Perm ns->ms.Pairwise (·<=·)->k (.lst (ms.map D.int))
def zq2:vo A (λxs H Q=>∃(p:Addr) (ns:List Int),xs=[.ref p]/\SqL A.K H p (ns.map V.int)/\ns.length<64/\∀ms:List Int,ms.Perm ns->ms.Pairwise (·<=·)->∀l,H l=none->Q (.ref l) (upd H l (.lst (ms.map V.int)))) zP5:=by
  rintro os n rho sg H ds vs es ws k Q I rs ⟨ns,rfl,hn,q⟩ hQ;obtain⟨v,rfl,r⟩:=kL rs;obtain⟨a,xs,rfl,sq,rr⟩:=r.lst_inv;have e:=ki rr;subst e;exact⟨a,ns,rfl,sq.sq,hn,λms h1 h2 l hl=>hQ _ _ _ ⟨os,I.newLst Zs hl⟩ (q ms h1 h2)⟩
def XJ:bootBuiltins "sorted" = some (.builtin "sorted"):=x6
end
def JR{x y:Str}{px py pt:Pos}{kt k2 pt2}{a b:Expr}{env:Env}(hk:env.blockKind=.function)(hx:env.kindOf x=some .local)(hy:env.kindOf y=some .local)(hl:py.line=px.line)(hxy:x≠y)
  (hsa:vI a=false) (hsb:vI b=false) (hf:[a,b].all (foldedForSure 8)=false) (hc:[a,b].all (constantsAlone 8)=false) :
  swappedStores [.Tuple [.Name x px,.Name y py] kt pt] (.Tuple [a,b] k2 pt2) env=pure (some [x,y]):=by
 have e2:(y == x)=false:=beq_false_of_ne (Ne.symm hxy);have e:(Expr.Name x px).pos.line=px.line:=rfl;unfold swappedStores;simp[hk,hx,hy,hl,hf,hc,e,List.eraseDups,List.eraseDupsBy,List.eraseDupsBy.loop,e2];intro h
 exfalso
 rcases h with h |h
 ·cases a<;>first |(simp at h;done) |(simp[vI] at hsa;done)
 ·cases b<;>first |(simp at h;done) |(simp[vI] at hsb;done)
section
variable {A:AC}{X:Cx}{a b:Expr}{pos:Pos}
def YC{i j:Nat}{x y:Str}{ta:TAD}{px py pt:Pos}{kt k2 pt2}(hc:X.calm=true)(hN:X.N.Nodup)(hi:X.N[i]?=some x)(hj:X.N[j]?=some y)(hij:i≠j)
  (hx:X.env.scope.names.lookup x=some .local) (hy:X.env.scope.names.lookup y=some .local) (ha:PAD A X [a,b] ta)
  (hk:X.env.blockKind=.function:=by rfl) (hl:py.line=px.line:=by rfl) (hxy:x≠y:=by decide) (hsa:vI a=false:=by rfl) (hsb:vI b=false:=by rfl) (hf:[a,b].all (foldedForSure 8)=false:=by decide +kernel) (hca:[a,b].all (constantsAlone 8)=false:=by decide +kernel) :
  PSD A X (.Assign [.Tuple [.Name x px,.Name y py] kt pt] (.Tuple [a,b] k2 pt2) pos) (zU7 i j ta):=by
 exists 
   zL0 hc hN hi hj hij hx hy ha (JR hk hx hy hl hxy hsa hsb hf hca) rfl
end
def Vh{A:AC}{X:Cx}{e:Expr}{t:TBD}(h:PTD A X e t):PTs X [e] (QN A t):=by exists zK7 h
end L2
namespace L2
open PySem PySem.Spec PyProof.Rows HT
section
variable {prog:Program}{w:World}{A:Around}{E:Value->Shared->Prop}{s:Shared}
def Zk{t sl:Addr}{items:Array Value}{vl vu:Value}{lo hi:Option Int}{Q:Value->Shared->Prop}(ht:IsTup s.heap t items)(hs:s.heap.IsSliceOf sl vl vu .none)(pl:IsPart vl lo)(pu:IsPart vu hi)
  (h1:sIx items.size 0 lo=0) (h2:sIx items.size items.size hi=items.size) (h:Q (.ref t) s):wpAny (model prog w) A (getItem (.ref t) (.ref sl)) Q E s:=by
 obtain⟨os,hos,hcs,hds⟩:=id hs;have hTs:s.TypeIs (.ref sl) "slice" := ⟨os,hos,hcs⟩;unfold getItem
 try with_reducible refine xx ?_
 first |refine zb (zd ?_) |skip
 refine zb (wpAny_sequenceKey ht.typeIs w6 ?_)
 refine zb (xD (name:=Str.ofString "__getitem__") ht.typeIs PyProof.Rows.slot_tuple_getitem
  (wj PyProof.Rows.slot_tuple_getitem ht.typeIs entry_tuple_getitem ?_ (args_tuple_getitem _ _)))
 show wpAny _ _ (Builtin.Tuple.tupleItemsOf (.ref t) >>= _) _ _ s;refine zb (tupleItemsOf_ ht ?_);refine zb (wpAny_typeOf hTs ?_)
 rw[if_pos w6]
 refine zb (qN hs pl pu ?_)
 have hyes:((((sIx items.size 0 lo:Nat):Int) == 0&&(1:Int) == 1&&(sIx items.size items.size hi-sIx items.size 0 lo) == items.size)=true):=by
  rw[h1,h2];simp
 show wpAny _ _ (if (((sIx items.size 0 lo:Nat):Int) == 0&&(1:Int) == 1&&(sIx items.size items.size hi-sIx items.size 0 lo) == items.size)=true then _ else _) _ _ s
 rw[if_pos hyes];obtain⟨⟨cls,dd,data,sl'⟩,ho,hc,n,hd⟩:=id ht;simp only at hc hd;subst hc hd;unfold Builtin.Tuple.tupleIsExact;obtain⟨hp,g,d,tk,os'⟩:=s
 wp_walk
 exact⟨_,rfl,zd h⟩
end
section
variable {X:Cx}
def xo3(K:W.Frag):V->Option Int->Option Int->Hp->VK->Prop:=λx lo hi H Q=>∃a xs,x=.ref a/\SqT K H a xs /\
 ((HT.sIx xs.length 0 lo=0/\HT.sIx xs.length xs.length hi=xs.length)->Q (.ref a) H)/\(¬ (HT.sIx xs.length 0 lo=0/\HT.sIx xs.length xs.length hi=xs.length)->∀p,H p=none->Q (.ref p) (upd H p (.tup (zC7 xs lo hi))))
def zI9:SlR X (xo3 X.K):=by
 intro pins s σ H x v vl vu lo hi sl Q I rx hs pl pu h;obtain⟨a,xs,rfl,hx,q1,q2⟩:=h
 by_cases hw:HT.sIx xs.length 0 lo=0/\HT.sIx xs.length xs.length hi=xs.length
 ·cases rx;obtain⟨its,r,ht,hz⟩:=I.tuple hx
  have hlen:its.toArray.size=xs.length:=by rw[zt];exact r.length.symm
  refine⟨"tuple",_,PyProof.Rows.slot_tuple_getitem.lookup,ht.typeIs,?_⟩
  exact Zk ht hs pl pu (by rw[hlen];exact hw.1) (by rw[hlen];exact hw.2) ⟨.ref a,H,I,rfl,q1 hw⟩
 ·exact zU1 pins s σ H (.ref a) v vl vu lo hi sl Q I rx hs pl pu ⟨a,xs,rfl,hx,hw,q2 hw⟩
end
abbrev TOD:=Rho->Nat->(Option Int->Nat->Prop)->Prop
def oOf(A:AC)(t:TOD):TO:=λsg H Q=>∃rho n P ds vs,Am A n rho sg H ds vs/\t rho n P/\∀o H' n',Am A n' rho sg H' ds vs->P o n'->Q o H'
@[irreducible] def POD(A:AC)(X:Cx)(e:Option Expr)(t:TOD):Prop:=PO X e (oOf A t)
def PO.imp{X:Cx}{e:Option Expr}{t t':TO}(h:PO X e t)(hi:∀sg H Q,t' sg H Q->t sg H Q):PO X e t':=λpins s sg H Q I q=>h pins s sg H Q I (hi _ _ _ q)
section
variable {A:AC}{X:Cx}{a b c e:Expr}{es:List Expr}{te ta tb tc:TD}{t1:TAD}{pos p:Pos}
def xb1:TOD:=λ_ n P=>P none n
def xb0(t:TD):TOD:=λrho n P=>t rho n λd n1=>ZX d λi=>P (some i) n1
@[simp] theorem xs6{rho n P}:xb1 rho n P=P none n:=rfl
@[simp] theorem xs5{t rho n P}:xb0 t rho n P=t rho n λd n1=>ZX d λi=>P (some i) n1:=rfl
def YE:POD A X none xb1:=by
 exists zL2.imp λsg H Q h=>by
   obtain⟨rho,n,P,ds,vs,I,h,hQ⟩:=h;exact hQ none H n I h
def YD(h:PD A X e te):POD A X (some e) (xb0 te):=by
 exists (zi0 h).imp λsg H Q h=>by
   obtain⟨rho,n,P,ds,vs,I,h,hQ⟩:=h;refine⟨rho,n,_,ds,vs,I,h,λv H' n' d ⟨os,J⟩ k=>?_⟩;obtain⟨i,rfl,k⟩:=k;obtain⟨J1,r⟩:=J.pop;exact⟨i,r.int_inv,hQ _ H' n' ⟨os,J1⟩ k⟩
def KG(d:D)(k:List D->Prop):Prop:=∃fs,d=.tup fs/\k fs
@[simp] theorem xo6{fs:List D}{k}:KG (.tup fs) k↔k fs:=⟨fun⟨_,e,h⟩=>by cases e;exact h,λh=>⟨_,rfl,h⟩⟩
def xF9(ta:TD)(tl th:TOD):TD:=λrho n P=>ta rho n λd n1=>tl rho n1 λlo n2=>th rho n2 λhi n3=>KG d λfs=>P (.tup (VL fs lo hi)) n3
@[simp] theorem xC8{ta tl th rho n P}:xF9 ta tl th rho n P=ta rho n λd n1=>tl rho n1 λlo n2=>th rho n2 λhi n3=>KG d λfs=>P (.tup (VL fs lo hi)) n3:=rfl
def zq1{fs:List D}{lo hi:Option Int}(h:HT.sIx fs.length 0 lo=0/\HT.sIx fs.length fs.length hi=fs.length):VL fs lo hi=fs:=by
 unfold VL;rw[h.1,h.2,List.drop_zero,Nat.sub_zero,wy]
def zZ6{le he:Option Expr}{tl th:TOD}{p2:Pos}(hK:X.K=A.K)(ha:PD A X a ta)(hl:POD A X le tl)(hh:POD A X he th):PD A X (.Subscript a (.Slice le he none p2) pos) (xF9 ta tl th):=by
 exists (Qb zI9 ha hl hh).imp λsg H Q h=>by
   obtain⟨rho,n,P,ds,vs,I,ht,hQ⟩:=h;refine⟨rho,n,_,ds,vs,I,ht,λv H1 n1 d J1 h1=>⟨rho,n1,_,_,_,J1,h1,λlo H2 n2 J2 h2=>⟨rho,n2,_,_,_,J2,h2,λhi H3 n3 ⟨os,J3⟩ h3=>?_⟩⟩⟩;obtain⟨fs,rfl,k⟩:=h3;obtain⟨J4,r⟩:=J3.pop;have r':=r;obtain⟨l,xs,rfl,sq,rs⟩:=r.tup_inv;rw[hK];have hlen:xs.length=fs.length:=rs.length;refine⟨l,xs,rfl,sq.sq,λhw=>?_,λhw p hp=>hQ _ _ n3 _ ⟨os,J4.newTup (Vf rs lo hi) hp⟩ k⟩;rw[hlen] at hw;rw[zq1 hw] at k;exact hQ _ H3 n3 _ ⟨os,J4.push r'⟩ k
def XB:D->Bool
 |.non=>true |.bl _=>true |.int _=>true |.str _=>true |_=>false
def inD(x:D)(es:List D):Bool:=es.any λy=>eqD y x
def zo8{K:W.Frag}{G:Option Addr}{Z:Addr->Prop}{H:Hp}{d:D}{v:V}(h:XB d=true)(r:Rep K G Z H d v):v=ofS d/\Wi v=true:=by
 cases d<;>first |(have e:=r.toS rfl;subst e;exact⟨rfl,rfl⟩) |(simp[XB] at h;done)
def xy3{x y:D}(hx:XB x=true)(hy:XB y=true):eqV (ofS y) (ofS x)=eqD y x:=by
 cases x<;>cases y<;>first |(simp[XB] at hx;done) |(simp[XB] at hy;done) |(simp[eqV,eqD,ofS];done) |(simp[eqV,eqD,ofS];rfl)
theorem zQ0{K:W.Frag}{G:Option Addr}{Z:Addr->Prop}{H:Hp}{x:D}(hx:XB x=true):∀{es:List D}{vs:List V},es.all XB=true->Reps K G Z H es vs->inV (ofS x) vs=inD x es/\vs.all Wi=true
 |[],vs,_,r=>by rw[r.nil_inv];exact⟨rfl,rfl⟩
 |d::es,vs,h,r=>by
  rw[all_cons,zD] at h;obtain⟨v,w,rfl,q,t⟩:=r.split;obtain⟨e,f⟩:=zo8 h.1 q;obtain⟨e2,f2⟩:=zQ0 hx h.2 t;subst e
  constructor
  ·unfold inV inD at e2 ⊢;rw[yC,yC,e2,xy3 hx h.1]
  ·rw[all_cons,f,f2];rfl
def xI6(neg:Bool):RD2:=λd1 d2 k=>XB d1=true/\∃es,(d2=.tup es\/d2=.lst es)/\es.all XB=true/\k (.bl (if neg then !inD d1 es else inD d1 es))
def xn8{neg:Bool}:kZ A (rIn A.K neg) (xI6 neg):=by
 rintro os n rho sg H ds vs d1 d2 v1 v2 k Q I ⟨h1,es,hd,hf,q⟩ hQ;obtain⟨I1,r2⟩:=I.pop;obtain⟨I2,r1⟩:=I1.pop;obtain⟨e1,f1⟩:=zo8 h1 r1;subst e1
 rcases hd with rfl |rfl
 ·obtain ⟨a, xs, e, sq, rs⟩ := r2.tup_inv;obtain⟨z1,z2⟩:=zQ0 h1 hf rs
  exact⟨a,xs,e,.inr sq.sq,f1,z2,by rw[z1];exact hQ _ H _ ⟨os,I2.push (Rep.ofS rfl)⟩ q⟩
 ·obtain ⟨a, xs, e, sq, rs⟩ := r2.lst_inv;obtain⟨z1,z2⟩:=zQ0 h1 hf rs
  exact⟨a,xs,e,.inl sq.sq,f1,z2,by rw[z1];exact hQ _ H _ ⟨os,I2.push (Rep.ofS rfl)⟩ q⟩
end
end L2
namespace L2
section
variable {A:AC}{X:Cx}{a b c e:Expr}{es:List Expr}{te ta tb tc:TD}{t1:TAD}{pos p:Pos}
def xg1{pins:List (Addr × Obj)}{σ:St}{H:Hp}{s:Shared}(I:Inv X pins σ H s):sysModules<s.heap.objs.size:=Nat.lt_trans w6 (I.mod.glob.keeps I.bk).lt
def xf2{P:Program}{w:World}{H:Hp}(h:Heap)(hb:sysModules<h.objs.size):ObjOk P w H (h.push { cls:=.type "dict",data:=.dict #[] }) h.objs.size (.dK []):=
 ⟨xJ _,beq_eq_false_iff_ne.mpr (Ne.symm (zw hb)),[],.nil,Heap.DictOf.new h⟩
end
section
variable {A:AC}{X:Cx}
end
section
variable {A:AC}{X:Cx}{pos p:Pos}
def xO2(t:TF):TD:=λ_ n P=>t [] n P
@[simp] theorem xD6{t rho n P}:xO2 t rho n P=t [] n P:=rfl
end
section
variable {A:AC}{X:Cx}{a b e:Expr}{ta tb:TD}{pos p:Pos}
def zv2(i:Nat)(ta tb:TD):TSD:=λF rho n=>i<rho.length/\ta rho n λd1 n1=>tb rho n1 λd2 n2=>Jk d1 λes=>Jk d2 λfs=>es.length+fs.length<=sizeLine/\F.nx (rho.set i (some (.own (es++fs)))) n2
@[simp] theorem zS3{i ta tb F rho n}:zv2 i ta tb F rho n=(i<rho.length/\ta rho n λd1 n1=>tb rho n1 λd2 n2=>Jk d1 λes=>Jk d2 λfs=>es.length+fs.length<=sizeLine/\F.nx (rho.set i (some (.own (es++fs)))) n2):=rfl
def xM6:List D->(D->Prop)->Prop:=λes k=>∃i:Int,es=[.int i]/\i.natAbs.log2<1920/\k (.str (toString i))
@[simp] theorem xC0{i:Int}{k}:xM6 [.int i] k↔(i.natAbs.log2<1920/\k (.str (toString i))):=⟨fun⟨_,e,h⟩=>by cases e;exact h,λh=>⟨_,rfl,h⟩⟩
end
end L2
namespace L2
open PySem PySem.Spec PyProof.Rows HT
section
variable {prog:Program}{w:World}{A:Around}{E:Value->Shared->Prop}{s:Shared}
end
section
variable {X:Cx}{e:Expr}{te:TE}{pos p2:Pos}
end
section
variable {A:AC}{X:Cx}{a:Expr}{ta:TD}{pos p2 p3 p4:Pos}
def xN6(ta:TD):TD:=λrho n P=>ta rho n λd n1=>KG d λfs=>P (.tup fs.reverse) n1
@[simp] theorem xD0{ta rho n P}:xN6 ta rho n P=ta rho n λd n1=>KG d λfs=>P (.tup fs.reverse) n1:=rfl
end
end L2
namespace L2
open PySem PySem.Spec PyProof.Rows PySem.W PySem.Calls PySem.NumText
section
variable {A:AC}{X:Cx}{e:Expr}{te:TD}{pos:Pos}
def zf4(tc:TBD)(tb:TSD):TSD:=λF rho n=>∃J:Nat->Rho->Nat->Prop,(∃m,J m rho n)/\∀m rho n,J m rho n->tc rho n λb n1=>if b=true then tb { F with nx:=λrho' n'=>∃m',m'<m/\J m' rho' n',ct:=λrho' n'=>∃m',m'<m/\J m' rho' n',bk:=F.nx } rho n1 else F.nx rho n1
def Uu{c:Expr}{body:List Stmt}{tc:TBD}{tb:TSD}(hp:PassesOwn (model X.prog X.w) X.A X.env X.xe)(hc:PTD A X c tc)(hb:zc8 A X body tb):PSD A X (.While c body [] pos) (zf4 tc tb):=by
 exists (zx2 hp hc hb).imp λE sg H h=>by
   obtain⟨rho,n,F,ds,vs,I,⟨J,⟨m0,j0⟩,turn⟩,ok⟩:=h;refine⟨λm sg H=>∃rho n,Am A n rho sg H ds vs/\J m rho n,⟨m0,rho,n,I,j0⟩,?_⟩;rintro m sg1 H1 ⟨rho1,n1,I1,j1⟩;refine⟨rho1,n1,_,ds,vs,I1,turn m rho1 n1 j1,λb H2 n2 I2 k=>?_⟩
   cases b with
   |true=>
    rw[if_pos rfl] at k ⊢;refine⟨λsg' H'=>∃m',m'<m/\∃rho n,Am A n rho sg' H' ds vs/\J m' rho n,λsg' H' ⟨m',hm,q⟩=>⟨m',hm,q⟩,rho1,n2,_,ds,vs,I2,k,?_⟩;exact⟨λrho6 n6 sg6 H6 I6 ⟨m',hm,k6⟩=>⟨m',hm,rho6,n6,I6,k6⟩,λd n6 v rho6 sg6 H6 I6 k6=>ok.rt _ _ _ _ _ _ I6 k6,λrho6 n6 sg6 H6 I6 k6=>ok.nx _ _ _ _ I6 k6,λrho6 n6 sg6 H6 I6 ⟨m',hm,k6⟩=>⟨m',hm,rho6,n6,I6,k6⟩⟩
   |false=>
    rw[if_neg zI] at k ⊢;exact ok.nx _ _ _ _ I2 k
@[simp] theorem xh2{tc tb F rho n}:zf4 tc tb F rho n=∃J:Nat->Rho->Nat->Prop,(∃m,J m rho n)/\∀m rho n,J m rho n->tc rho n λb n1=>if b=true then tb { F with nx:=λrho' n'=>∃m',m'<m/\J m' rho' n',ct:=λrho' n'=>∃m',m'<m/\J m' rho' n',bk:=F.nx } rho n1 else F.nx rho n1:=rfl
def zV4(f:Int->Int->Int)(i:Nat)(te:TD):TSD:=λF rho n=>i<rho.length/\∃a:Int,rho[i]?=some (some (.int a))/\te rho n λd n1=>∃b:Int,d=.int b/\F.nx (rho.set i (some (.int (f a b)))) n1
def zx1{i:Nat}{x:Str}{op:Operator}{f:Int->Int->Int}{pos':Pos}(ho:PIp X op (ipI f))(hN:X.N.Nodup)(hi:X.N[i]?=some x)(hx:Loc X.env.scope x)(he:PD A X e te)(hf:X.fn x=true\/X.env.scope.names.lookup x=some .local:=by first |exact .inl rfl |exact .inr rfl |assumption) :
  PSD A X (.AugAssign (.Name x pos') op e pos) (zV4 f i te):=by
 exists (zY6 hN hi hx he ho hf).imp λE sg H h=>by
   obtain⟨rho,n,F,ds,vs,⟨os,I⟩,⟨hl,a,ha,ht⟩,ok⟩:=h;obtain⟨v,e1,e2⟩:=I.slot i _ ha;have e3:=SlotR.rep (d:=.int a) rfl e2;refine⟨v,e1,rho,n,_,ds,vs,⟨os,I⟩,ht,λw H' n' d ⟨os',J⟩ k=>?_⟩;obtain⟨b,rfl,k⟩:=k;obtain⟨J1,r⟩:=J.pop;refine⟨a,b,e3.int_inv,r.int_inv,ok.nx _ _ _ _ ⟨_,AmO.set (d:=.int (f a b)) (J1.push (Rep.ofS rfl)) hl⟩ k⟩
@[simp] theorem xq6{f i te F rho n}:zV4 f i te F rho n=(i<rho.length/\∃a:Int,rho[i]?=some (some (.int a))/\te rho n λd n1=>∃b:Int,d=.int b/\F.nx (rho.set i (some (.int (f a b)))) n1):=rfl
def zW7:RD2:=λd1 d2 k=>∃x y,d1=.str x/\d2=.str y/\x.length+y.length<=sizeLine/\k (.str (x++y))
@[simp] theorem xi6{x y k}:zW7 (.str x) (.str y) k↔(x.length+y.length<=sizeLine/\k (.str (x++y))):=⟨fun⟨_,_,e,e',h⟩=>by cases e;cases e';exact h,λh=>⟨_,_,rfl,rfl,h⟩⟩
def zW2:RD2:=λd1 d2 k=>∃x i,d1=.str x/\d2=.int i/\MulOk x i/\k (.str (Txt.mul x i))
@[simp] theorem xi1{x i k}:zW2 (.str x) (.int i) k↔(MulOk x i/\k (.str (Txt.mul x i))):=⟨fun⟨_,_,e,e',h⟩=>by cases e;cases e';exact h,λh=>⟨_,_,rfl,rfl,h⟩⟩
end
section
variable {A:AC}{X:Cx}
end
end L2
namespace L2
end L2
namespace L2
open PySem PySem.Spec PyProof.Rows PySem.W PySem.Calls
def zu7{x y z:Str}{px py pz pt:Pos}{kt k2 pt2}{a b c:Expr}{env:Env}(hk:env.blockKind=.function)(hx:env.kindOf x=some .local)(hy:env.kindOf y=some .local)(hz:env.kindOf z=some .local)(hl:py.line=px.line)(hl2:pz.line=px.line)(hxy:x≠y)(hxz:x≠z)(hyz:y≠z)
  (hsa:vI a=false) (hsb:vI b=false) (hsc:vI c=false) (hf:[a,b,c].all (foldedForSure 8)=false) (hc:[a,b,c].all (constantsAlone 8)=false) :
  swappedStores [.Tuple [.Name x px,.Name y py,.Name z pz] kt pt] (.Tuple [a,b,c] k2 pt2) env=pure (some [x,y,z]):=by
 have e2:(y == x)=false:=beq_false_of_ne (Ne.symm hxy);have e3:(z == x)=false:=beq_false_of_ne (Ne.symm hxz);have e4:(z == y)=false:=beq_false_of_ne (Ne.symm hyz);have e:(Expr.Name x px).pos.line=px.line:=rfl;unfold swappedStores;simp[hk,hx,hy,hz,hl,hl2,hf,hc,e,List.eraseDups,List.eraseDupsBy,List.eraseDupsBy.loop,e2,e3,e4];intro h
 exfalso
 rcases h with h |h |h
 ·cases a<;>first |(simp at h;done) |(simp[vI] at hsa;done)
 ·cases b<;>first |(simp at h;done) |(simp[vI] at hsb;done)
 ·cases c<;>first |(simp at h;done) |(simp[vI] at hsc;done)
section
variable {X:Cx}{pos:Pos}
def xm2(i j k:Nat)(ta:TA):TS:=λD σ H=>ta σ H λvs H1=>∃u v w,vs=[u,v,w]/\D.nx (((σ.set k (some w)).set j (some v)).set i (some u)) H1
def zL1{i j k:Nat}{x y z:Str}{a b c:Expr}{ta:TA}{px py pz pt:Pos}{kt k2 pt2}(hc:X.calm=true)(hN:X.N.Nodup)(hi:X.N[i]?=some x)(hj:X.N[j]?=some y)(hk:X.N[k]?=some z)
  (hx:X.env.scope.names.lookup x=some .local) (hy:X.env.scope.names.lookup y=some .local) (hz:X.env.scope.names.lookup z=some .local) (ha:PA X [a,b,c] ta)
  (hw:swappedStores [.Tuple [.Name x px,.Name y py,.Name z pz] kt pt] (.Tuple [a,b,c] k2 pt2) X.env=pure (some [x,y,z]))
  (hs:swapsWithSole [.Tuple [.Name x px,.Name y py,.Name z pz] kt pt] (.Tuple [a,b,c] k2 pt2) pos.line X.env=pure false:=by rfl) :
  PS X (.Assign [.Tuple [.Name x px,.Name y py,.Name z pz] kt pt] (.Tuple [a,b,c] k2 pt2) pos) (xm2 i j k ta):=by
 intro pins s σ H D I h;rw[exec_Assign_arm];refine zb (va ?_);rw[hs];refine zb (zd ?_)
 rw[if_neg w6]
 refine zb (Tuple_ (thn (ha _ pins s σ H _ I h) λus s1 ⟨vs,H1,I1,r1,q1⟩=>?_));obtain⟨t,v,w,e1,q1⟩:=q1;subst e1
 obtain⟨u0,u1,u2,rfl,rt,rv,rw'⟩:∃u0 u1 u2,us=[u0,u1,u2]/\RelV t u0/\RelV v u1/\RelV w u2:=by
  cases r1 with
  | cons p q =>
   cases q with
   | cons p' q' =>
    cases q' with
    |cons p2 q2=>
     cases q2;exact⟨_,_,_,rfl,p,p',p2⟩
 refine xp ?_ (by show 3<=sizeLine;decide)
 have I2:Inv X pins σ H1 { s1 with heap:=s1.heap.push { cls:=.type "tuple",data:=.seq [u0,u1,u2].toArray } }:=I1.kept (t':=s1.toks) λb o e=>ze _ e;rw[hw];refine zb (zd ?_)
 show wpAny (model X.prog X.w) X.A (do rule "assign.swapped-stores";let items <- unpackItems (.ref s1.heap.objs.size) 3 none;assignInOrder [λv=>bindName X.env z v,λv=>bindName X.env y v,λv=>bindName X.env x v] items.reverse;pure Flow.next) _ _ _
 refine zb (yo (zb (unpackItems_tuple (items:=#[u0,u1,u2]) (I.ok.hd hc) (IsTup.new s1.heap _) λh' hx'=>?_)));have I3:=I2.kept (h':=h') (t':=s1.toks) λb o e=>hx' b o (zw (zo e)) e;show wpAny _ _ (assignInOrder [λv=>bindName X.env z v,λv=>bindName X.env y v,λv=>bindName X.env x v] [u2,u1,u0] >>= λ_=>pure Flow.next) _ _ _;refine zb (assignInOrder_cons (wpAny_bindName (qb I3 hN hk (.inl hz) rw' (λs2 I4=>?_) (.inr hz))));refine assignInOrder_cons (wpAny_bindName (qb I4 hN hj (.inl hy) rv (λs3 I5=>?_) (.inr hy)));refine assignInOrder_cons (wpAny_bindName (qb I5 hN hi (.inl hx) rt (λs4 I6=>assignInOrder_nil (zd ?_)) (.inr hx)));exact⟨_,H1,I6,q1⟩
end
section
variable {A:AC}{X:Cx}{a b c:Expr}{pos:Pos}
def xn4(i j k:Nat)(t:TAD):TSD:=λF rho n=>i<rho.length/\j<rho.length/\k<rho.length/\t rho n λes n1=>∃d d' d2,es=[d,d',d2]/\F.nx (((rho.set k (some d2)).set j (some d')).set i (some d)) n1
@[simp] theorem xq2{i j k t F rho n}:xn4 i j k t F rho n=(i<rho.length/\j<rho.length/\k<rho.length/\t rho n λes n1=>∃d d' d2,es=[d,d',d2]/\F.nx (((rho.set k (some d2)).set j (some d')).set i (some d)) n1):=rfl
end
end L2
namespace L2.Srt
open PySem PyProof.Rows
def lab(ls:Array Nat)(i:Nat):Nat:=ls.getD i 0
structure Rule(prog:Program)(w:World)(A:Around)(s:Shared)(n:Nat)(item:Nat->Keyed)(kd:SortKind)(r:Nat->Nat->Bool):Prop where
 tot:∀a b,a<n->b<n->a≠b->r a b=!r b a
 tr:∀a b c,a<n->b<n->c<n->r a b=true->r b c=true->r a c=true
 cmp:∀a b,a<n->b<n->a≠b->∀(E:Value->Shared->Prop) (Q:Bool->Shared->Prop),Q (r a b) s->wpAny (model prog w) A (keyLt' kd (item a).1 (item b).1) Q E s
structure Now(n:Nat)(item:Nat->Keyed)(kd:SortKind)(ls:Array Nat)(t:SortSt):Prop where
 arr:arrOf t=ls.map item
 kd:kindOf t=kd
 ok:failedOf t=none
 pend:pendingOf t=#[]
 perm:ls.Perm (Array.range n)
def Up(r:Nat->Nat->Bool)(ls:Array Nat)(k:Nat):Prop:=∀i j,i<j->j<k->r (lab ls i) (lab ls j)=true
def xl9(r:Nat->Nat->Bool)(ls:Array Nat)(k:Nat):Prop:=∀i j,i<j->j<k->r (lab ls j) (lab ls i)=true
section
variable {n:Nat}{item:Nat->Keyed}{kd:SortKind}{r:Nat->Nat->Bool}{ls:Array Nat}{t:SortSt}
def Now.size(N:Now n item kd ls t):ls.size=n:=by rw[N.perm.size_eq,yQ]
def Now.nodup(N:Now n item kd ls t):ls.toList.Nodup:=(Array.perm_iff_toList_perm.mp N.perm).nodup_iff.mpr (by rw[Array.toList_range];exact List.nodup_range)
def qe{i:Nat}(h:i<ls.size):ls[i]?=some (lab ls i):=by
 unfold lab;rw[Array.getD_eq_getD_getElem?,xU h];rfl
def Now.lt(N:Now n item kd ls t){i:Nat}(h:i<n):lab ls i<n:=by
 have e:=qe (ls:=ls) (i:=i) (by rw[N.size];exact h)
 have m:lab ls i∈ls:=Array.mem_of_getElem? e;have m2:lab ls i∈Array.range n:=(N.perm.mem_iff).mp m
 rwa [Array.mem_range] at m2
def Now.ne(N:Now n item kd ls t){i j:Nat}(hi:i<n)(hj:j<n)(h:i≠j):lab ls i≠lab ls j:=λe=>by
 have hi':i<ls.toList.length:=by rw[xQ,N.size];exact hi
 have hj':j<ls.toList.length:=by rw[xQ,N.size];exact hj
 have e1:=qe (ls:=ls) (i:=i) (by rw[N.size];exact hi)
 have e2:=qe (ls:=ls) (i:=j) (by rw[N.size];exact hj)
 rw[<- yh,zf hi'] at e1;rw[<- yh,zf hj'] at e2;have f:=wL.mp N.nodup
 rcases Nat.lt_or_gt_of_ne h with g |g
 ·exact f i j hi' hj' g (by rw[zF e1,zF e2,e])
 ·exact f j i hj' hi' g (by rw[zF e1,zF e2,e])
def jy{as:Array Nat}{k v:Nat}(h:as[k]?=some v):lab as k=v:=by
 unfold lab;rw[Array.getD_eq_getD_getElem?,h];rfl
def zr5{src d:Nat}(hs:src<ls.size)(hd:d<=src){k:Nat}(hk:k<ls.size):lab (bubble ls src d) k=if k=src-d then lab ls src else if src-d<k/\k<=src then lab ls (k-1) else lab ls k:=by
 refine jy ?_;rw[getElem?_bubble hs d hd k]
 split
 ·exact qe hs
 ·split
  ·exact qe w5
  ·exact qe hk
def zR6{src d:Nat}(hs:src<ls.size)(hd:d<=src):bubble (ls.map item) src d=(bubble ls src d).map item:=by
 refine Array.ext_getElem? λk=>?_
 rw[getElem?_bubble (by simpa using hs) d hd k]
 simp only[yi];rw[getElem?_bubble hs d hd k]
 split
 ·rfl
 ·split<;>rfl
def zl3{i j:Nat}(hj:j<=ls.size){k:Nat}(hk:k<ls.size):lab (mirror ls i j ((j-i)/2)) k=if i<=k/\k<j then lab ls (i+j-1-k) else lab ls k:=by
 refine jy ?_;rw[getElem?_mirror_all hj k]
 split
 ·exact qe w5
 ·exact qe hk
def zO3{i j:Nat}(hj:j<=ls.size):mirror (ls.map item) i j ((j-i)/2)=(mirror ls i j ((j-i)/2)).map item:=by
 refine Array.ext_getElem? λk=>?_
 rw[getElem?_mirror_all (by simpa using hj) k]
 simp only[yi];rw[getElem?_mirror_all hj k]
 split<;>rfl
def Now.bub(N:Now n item kd ls t){src d:Nat}(hs:src<n)(hd:d<=src):Now n item kd (bubble ls src d) (setArr t (bubble (arrOf t) src d)):=
 ⟨by show bubble (arrOf t) src d=_;rw[N.arr];exact zR6 (by rw[N.size];exact hs) hd,N.kd,N.ok,N.pend,(bubble_perm _ _ _).trans N.perm⟩
def Now.mir(N:Now n item kd ls t){i j:Nat}(hj:j<=n):Now n item kd (mirror ls i j ((j-i)/2)) (setArr t (mirror (arrOf t) i j ((j-i)/2))):=
 ⟨by show mirror (arrOf t) i j _=_;rw[N.arr];exact zO3 (by rw[N.size];exact hj),N.kd,N.ok,N.pend,(mirror_perm _ _ _ _).trans N.perm⟩
end
section
variable {prog:Program}{w:World}{A:Around}{E:Value->Shared->Prop}{s:Shared}{n:Nat}{item:Nat->Keyed}{kd:SortKind}{r:Nat->Nat->Bool}{ls:Array Nat}{t:SortSt}
def zs1(R:Rule prog w A s n item kd r)(N:Now n item kd ls t){i j:Nat}(hi:i<n)(hj:j<n)(hij:i≠j){Q:Option Bool->SortSt->Prop}(q:Q (some (r (lab ls i) (lab ls j))) t):wpS (model prog w) A E s (ltAt' i j) Q t:=by
 have gi:(arrOf t)[i]?=some (item (lab ls i)):=by rw[N.arr,yi,qe (by rw[N.size];exact hi)];rfl
 have gj:(arrOf t)[j]?=some (item (lab ls j)):=by rw[N.arr,yi,qe (by rw[N.size];exact hj)];rfl
 rw[ltAt'_eq];refine xy (wpS_get ?_);show wpS (model prog w) A E s (elem' (arrOf t) i >>= λx=>elem' (arrOf t) j >>= λy=>lt' x y) Q t;rw[elem'_eq,elem'_eq,gi,gj];refine xy (wo (xy (wo ?_)));rw[lt'_eq];refine xy (wpS_get (xy (wpS_lift (wpAny_attempt ?_))));rw[N.kd];exact R.cmp _ _ (N.lt hi) (N.lt hj) (N.ne hi hj hij) _ _ ⟨rfl,wo q⟩
def asc(R:Rule prog w A s n item kd r)(N:Now n item kd ls t){a:Nat}(h1:1<=a)(ha:a<=n)(U:Up r ls a){Q:AscSt->SortSt->Prop}(q:∀m,a<=m->m<=n->Up r ls m->(m<n->r (lab ls m) (lab ls (m-1))=true)->Q (none,m) t):wpS (model prog w) A E s (ascLoop a n) Q t:=by
 unfold ascLoop;refine wpS_forRange (λx c t'=>t'=t/\c=(none,x)/\Up r ls x) ?_ ?_ ⟨rfl,rfl,U⟩
 ·rintro x c t' hx hn ⟨e, e', V⟩;subst e e'
  refine xy (zs1 R N hn (by show x-1<n;lia) (by show x≠x-1;lia) ?_)
  cases z:r (lab ls x) (lab ls (x-1))
  ·refine wo ⟨rfl, rfl, λi j hij hj => ?_⟩
   by_cases hjx:j<x
   ·exact V i j hij hjx
   ·obtain rfl : j = x := by lia
    have up:r (lab ls (j-1)) (lab ls j)=true:=by rw[R.tot _ _ (N.lt w5) (N.lt hn) (N.ne w5 hn w5),z];rfl
    by_cases hi:i=j-1
    ·rw[hi];exact up
    ·exact R.tr _ _ _ (N.lt w5) (N.lt w5) (N.lt hn) (V i (j-1) w5 w5) up
  ·exact wo (q x hx w5 V λ_=>z)
 ·rintro c t' ⟨e, e', V⟩;subst e e'
  have:max a n=n:=w5
  rw[this] at V ⊢;exact q n ha (zn n) V λh=>absurd h (xl n)
def turned(R:Rule prog w A s n item kd r)(N:Now n item kd ls t){a:Nat}(h1:1<=a)(ha:a<=n)(V:xl9 r ls a){Q:Option Nat->SortSt->Prop}(q:∀m ls' t',1<=m->m<=n->Now n item kd ls' t'->Up r ls' m->Q (some m) t'):wpS (model prog w) A E s (tail3 a n) Q t:=by
 unfold tail3;refine xy (wpS_reverse ?_);have N':=N.mir (i:=0) ha;have hsz:=N.size
 refine xy (asc R N' h1 ha (λi j hij hj=>?_) λm h2 h3 U _=>wo (q m _ _ w5 h3 N' U))
 rw[zl3 w5 w5,zl3 w5 w5,if_pos w5,if_pos w5]
 exact V _ _ w5 w5
def zQ6(R:Rule prog w A s n item kd r)(N:Now n item kd ls t){a:Nat}(h1:1<=a)(ha:a<=n)(V:xl9 r ls a){Q:DescSt->SortSt->Prop}(q:∀m,a<=m->m<=n->xl9 r ls m->Q (none,m,0) t):wpS (model prog w) A E s (descLoop a n) Q t:=by
 unfold descLoop;refine wpS_forRange (λx c t'=>t'=t/\c=(none,x,0)/\xl9 r ls x) ?_ ?_ ⟨rfl,rfl,V⟩
 ·rintro x c t' hx hn ⟨e, e', W⟩;subst e e'
  refine xy (zs1 R N hn (by show x-1<n;lia) (by show x≠x-1;lia) ?_)
  cases z:r (lab ls x) (lab ls (x-1))
  ·have up : r (lab ls (x - 1)) (lab ls x) = true := by rw [R.tot _ _ (N.lt w5) (N.lt hn) (N.ne w5 hn w5), z]; rfl
   refine xy (zs1 R N (by show x-1<n;lia) hn (by show x-1≠x;lia) ?_)
   rw[up]
   exact wo (q x hx w5 W)
  ·refine wo ⟨rfl, rfl, λi j hij hj => ?_⟩
   by_cases hjx:j<x
   ·exact W i j hij hjx
   ·obtain rfl : j = x := by lia
    by_cases hi:i=j-1
    ·rw[hi];exact z
    ·exact R.tr _ _ _ (N.lt hn) (N.lt w5) (N.lt w5) z (W i (j-1) w5 w5)
 ·rintro c t' ⟨e, e', W⟩;subst e e'
  have:max a n=n:=w5
  rw[this] at W ⊢;exact q n ha (zn n) W
def run(R:Rule prog w A s n item kd r)(N:Now n item kd ls t)(h1:1<=n){Q:Option Nat->SortSt->Prop}(q:∀m ls' t',1<=m->m<=n->Now n item kd ls' t'->Up r ls' m->Q (some m) t'):wpS (model prog w) A E s (countRun' 0 n) Q t:=by
 rw[countRun0_eq]
 refine xy (asc R N (zn 1) h1 (λi j hij hj=>by lia) λm h2 h3 U hm=>?_)
 show wpS (model prog w) A E s (if (m == n)=true then _ else if m > 1 then _ else _) Q t
 by_cases e:m=n
 ·rw [if_pos (by simpa using e)]
  exact wo (q m _ _ h2 h3 N U)
 ·rw [if_neg (by simpa using e)]
  by_cases g:m > 1
  ·rw [if_pos g]
   refine xy (zs1 R N w5 w5 w5 ?_)
   rw[U 0 (m-1) w5 w5]
   exact wo (q m _ _ h2 h3 N U)
  ·rw [if_neg g]
   obtain rfl:m=1:=w5
   unfold descPart;refine xy (wpS_lift (yo ⟨rfl,?_⟩))
   refine xy (zQ6 R N w5 w5 (λi j hij hj=>?_) λk h4 h5 W=>?_)
   ·obtain ⟨rfl, rfl⟩ : i = 0 /\ j = 1 := by lia
    exact hm w5
   ·show wpS (model prog w) A E s (if 0 > 0 then _ else tail3 k n) Q t
    rw[if_neg (xl 0)]
    exact turned R N w5 h5 W q
def xv8(R:Rule prog w A s n item kd r)(N:Now n item kd ls t){m:Nat}(hm:m<=n)(U:Up r ls m){Q:Bool->SortSt->Prop}(q:∀ls' t',Now n item kd ls' t'->Up r ls' n->Q true t'):wpS (model prog w) A E s (binarySort' 0 n m) Q t:=by
 rw[binarySort'_eq];simp only[Nat.zero_add]
 refine xy (wpS_mono (wpS_forRange (λk c t'=>c=(none,())/\∃ls',Now n item kd ls' t'/\Up r ls' (min k n)) (Q:=λc t'=>c=(none,())/\∃ls',Now n item kd ls' t'/\Up r ls' n) ?_ ?_ ⟨rfl,ls,N,λi j hij hj=>U i j hij w5⟩) ?_)
 ·rintro k c t' hk hn ⟨rfl, ls', N', U'⟩
  have ek:min k n=k:=w5
  rw[ek] at U';have hsz:=N'.size
  refine xy (wpS_mono (wpS_forRange (λx c t2=>t2=t'/\∃l h,c=(none,l,h)/\l<=h/\h<=k/\h-l<=k-x/\(∀i,i<l->r (lab ls' i) (lab ls' k)=true)/\∀i,h<=i->i<k->r (lab ls' k) (lab ls' i)=true)
   (Q:=λc t2=>t2=t'/\∃l h,c=(none,l,h)/\l<=k/\(∀i,i<l->r (lab ls' i) (lab ls' k)=true)/\∀i,l<=i->i<k->r (lab ls' k) (lab ls' i)=true) ?_ ?_ ⟨rfl,0,k,rfl,w5,w5,w5,λi hi=>by lia,λi h1 h2=>by lia⟩) ?_)
  ·rintro x c t2 _ hx ⟨rfl, l, h, rfl, g1, g2, g3, g4, g5⟩;dsimp only
   by_cases hd:l>=h
   ·rw [if_pos hd]
    exact wo ⟨rfl,l,h,rfl,w5,g4,λi i1 i2=>g5 i w5 i2⟩
   ·rw [if_neg hd]
    refine xy (zs1 R N' hn w5 w5 ?_)
    cases z:r (lab ls' k) (lab ls' ((l+h)/2))
    ·have up : r (lab ls' ((l + h) / 2)) (lab ls' k) = true := by rw [R.tot _ _ (N'.lt w5) (N'.lt hn) (N'.ne w5 hn w5), z]; rfl
     refine wo ⟨rfl,(l+h)/2+1,h,rfl,w5,w5,w5,λi hi=>?_,g5⟩
     by_cases e:i=(l+h)/2
     ·rw[e];exact up
     ·exact R.tr _ _ _ (N'.lt w5) (N'.lt w5) (N'.lt hn) (U' i _ w5 w5) up
    ·refine wo ⟨rfl, l, (l + h) / 2, rfl, by lia, by lia, by lia, g4, λi i1 i2 => ?_⟩
     by_cases e:i=(l+h)/2
     ·rw[e];exact z
     ·exact R.tr _ _ _ (N'.lt hn) (N'.lt w5) (N'.lt w5) z (U' _ i w5 w5)
  ·rintro c t2 ⟨rfl, l, h, rfl, g1, g2, g3, g4, g5⟩
   exact⟨rfl,l,h,rfl,w5,g4,λi i1 i2=>g5 i w5 i2⟩
  ·rintro c t2 ⟨rfl, l, h, rfl, g1, g2, g3⟩;show wpS (model prog w) A E s (moveDown' k l >>= λ_=>pure (ForInStep.yield (none,()))) _ t2;rw[moveDown'_eq]
   refine xy (wpS_modify (wo ⟨rfl,_,N'.bub hn (d:=k-l) w5,?_⟩))
   have e2:min (k+1) n=k+1:=w5
   rw[e2];intro i j hij hj
   have el:k-(k-l)=l:=w5
   rw[zr5 w5 w5 w5,zr5 w5 w5 w5,el]
   by_cases c1:i=l
   ·rw [if_pos c1, if_neg w5, if_pos w5]
    exact g3 _ w5 w5
   ·rw [if_neg c1]
    by_cases c2:j=l
    ·rw [if_pos c2, if_neg w5]
     exact g2 _ w5
    ·rw [if_neg c2]
     split
     ·split
      ·exact U' _ _ w5 w5
      ·exfalso;lia
     ·split
      ·exact U' _ _ w5 w5
      ·exact U' _ _ w5 w5
 ·rintro c t' ⟨rfl, ls', N', U'⟩
  have:min (max (max m 1) n) n=n:=w5
  rw[this] at U';exact⟨rfl,ls',N',U'⟩
 ·rintro c t' ⟨rfl,ls',N',U'⟩;exact wo (q ls' t' N' U')
def all(R:Rule prog w A s n item kd r)(N:Now n item kd ls t)(h2:2<=n)(h64:n<64){Q:Unit->SortSt->Prop}(q:∀ls' t',arrOf t'=ls'.map item->failedOf t'=none->ls'.Perm (Array.range n)->Up r ls' n->Q () t'):wpS (model prog w) A E s sortRuns' Q t:=by
 rw[sortRuns'_eq];refine xy (wpS_get ?_)
 have esz:(arrOf t).size=n:=by rw[N.arr,Array.size_map,N.size]
 have emin:minRun' n n 0=n:=by
  cases n with
  |zero=>lia
  |succ f=>rw[minRun'_succ,if_pos h64]
 dsimp only;simp only[esz,emin]
 let Fin:SortSt->Prop:=λt'=>∃ls',arrOf t'=ls'.map item/\failedOf t'=none/\pendingOf t'=#[(0,n,0)]/\ls'.Perm (Array.range n)/\Up r ls' n
 have close:∀{ls':Array Nat}{t':SortSt},Now n item kd ls' t'->Up r ls' n->Fin (setPending t' ((pendingOf t').push (0,n,0))):=λ{ls' t'} N' U'=>⟨ls',N'.arr,N'.ok,by show(pendingOf t').push _=_;rw[N'.pend];rfl,N'.perm,U'⟩
 refine xy (wpS_mono (wpS_forRange (λx c t'=>(x=0/\c=(none,0)/\t'=t)\/(0<x/\c=(none,n)/\Fin t')) (Q:=λc t'=>c=(none,n)/\Fin t') ?_ ?_ (.inl ⟨rfl,rfl,rfl⟩)) ?_)
 ·rintro x c t' _ hx (⟨rfl, rfl, rfl⟩ | ⟨h0, rfl, F⟩)
  ·dsimp only
   rw[if_neg w5]
   simp only[Nat.sub_zero,Nat.min_self,Nat.zero_add]
   refine xy (run R N w5 λm ls2 t2 h1 hm N2 U2=>?_)
   dsimp only
   have rest:∀{ls3:Array Nat}{t3:SortSt},Now n item kd ls3 t3->Up r ls3 n->(pendingOf t3).back?=none:=λN3 _=>by rw[N3.pend];rfl
   by_cases c:m<n
   ·rw [if_pos c];refine xy (wpS_lift (yo ⟨rfl,?_⟩));refine xy (xv8 R N2 hm U2 λls3 t3 N3 U3=>?_);simp only[Bool.not_true,zV,if_false];refine xy (wpS_get ?_);rw[rest N3 U3]
    exact xy (wpS_modify (wo (.inr ⟨w5,rfl,close N3 U3⟩)))
   ·rw [if_neg c]
    obtain rfl:m=n:=w5
    refine xy (wpS_get ?_);rw[rest N2 U2]
    exact xy (wpS_modify (wo (.inr ⟨w5,rfl,close N2 U2⟩)))
  ·dsimp only;rw[if_pos (zn _)];exact wo ⟨rfl,F⟩
 ·rintro c t' (⟨h, _⟩ | ⟨_, h1, F⟩)
  ·lia
  ·exact⟨h1,F⟩
 ·rintro c t' ⟨rfl, ls', e1, e2, e3, e4, e5⟩;refine xy (wpS_mono (wpS_forRange (λ_ c t2=>t2=t'/\c=(none,())) (Q:=λc t2=>t2=t'/\c=(none,())) ?_ (λ_ _ h=>h) ⟨rfl,rfl⟩) ?_)
  ·rintro x c t2 _ _ ⟨rfl, rfl⟩;refine xy (wpS_get ?_)
   rw[if_pos (by rw[e3];exact zn 1)]
   exact wo ⟨rfl,rfl⟩
  ·rintro c t2 ⟨rfl,rfl⟩;exact wo (q ls' _ e1 e2 e4 e5)
end
abbrev Xb(vs:List Value):Nat->Keyed:=λi=>(vs.getD i .none,vs.getD i .none)
def YW(vs:List Value):vs.toArray.zip vs.toArray=(Array.range vs.length).map (Xb vs):=by
 refine Array.ext_getElem? λk=>?_;rw[yi]
 by_cases h:k<vs.length
 ·have e1 : (Array.range vs.length)[k]? = some k := by rw [Array.getElem?_range, if_pos h]
  rw[e1]
  have e2:(vs.toArray.zip vs.toArray)[k]?=some (vs[k],vs[k]):=by
   rw[xU (by simpa using h)]
   simp
  rw[e2];simp[Xb,zK,h]
 ·rw [wD (by simp; lia), wD (by simp; lia)]
  rfl
section
variable {prog:Program}{w:World}{A:Around}{E:Value->Shared->Prop}{s:Shared}{r:Nat->Nat->Bool}{kd:SortKind}
abbrev XD(h:Heap)(a:Addr)(vs:List Value):Heap:=((h.update a (Obj.mapSeq λ_=>#[])).push (seqObj "tuple" vs.toArray 0)).push (seqObj "list" #[] 0)
def zQ1{a:Addr}{vs:List Value}{k:Nat}(at0:s.heap.get? a=some (seqObj "list" vs.toArray k))(h64:vs.length<64)
  (hk:2<=vs.length->∀(E:Value->Shared->Prop) (Q:SortKind->Shared->Prop),Q kd { s with heap:=XD s.heap a vs }->wpAny (model prog w) A (keyKind' vs.toArray) Q E { s with heap:=XD s.heap a vs })
  (hR:2<=vs.length->Rule prog w A { s with heap:=XD s.heap a vs } vs.length (Xb vs) kd r) {Q:Fin->Shared->Prop}
  (q:∀ls:Array Nat,ls.Perm (Array.range vs.length)->Up r ls vs.length->Q (.done (.ret .none)) { s with heap:=sortedHeap s.heap a vs (ls.map λi=>vs.getD i .none) }) :
  wpAny (model prog w) A (Builtin.«list.sort» ⟨[.ref a],[]⟩) Q E s:=by
 have la:=zo at0;obtain⟨e1,at1⟩:∃e1,(s.heap.update a (Obj.mapSeq λ_=>#[])).get? a=some (seqObj "list" #[] e1):=⟨_,get?_update_seq at0 _⟩
 have at2:(XD s.heap a vs).get? a=some (seqObj "list" #[] e1):=by
  have n1:a≠((s.heap.update a (Obj.mapSeq λ_=>#[])).push (seqObj "tuple" vs.toArray 0)).objs.size:=by rw[size_push',Heap.size_update];exact zw (xT la)
  have n2:a≠(s.heap.update a (Obj.mapSeq λ_=>#[])).objs.size:=by rw[Heap.size_update];exact zw la
  exact(Heap.get?_push_ne _ _ _ n1).trans ((Heap.get?_push_ne _ _ _ n2).trans at1)
 rw[list_sort_plain];refine zb (listItems_at at0 rfl ?_);refine zb (listUpdate_at at0 rfl (zb (seqEpoch_at at1 rfl ?_)));refine zb (wpAny_newTuple (zb (wpAny_newList (xx ?_))));show wpAny (model prog w) A _ Q E { s with heap:=XD s.heap a vs };dsimp only
 have fin:∀(t:SortSt) (ls:Array Nat),arrOf t=ls.map (Xb vs)->failedOf t=none->ls.Perm (Array.range vs.length)->Up r ls vs.length ->
   wpAny (model prog w) A (do
    let touched:=(<- seqEpoch a) != e1
    Builtin.List.listUpdate (.ref a) λ_=>(arrOf t).map (·.2)
    if let some e:=failedOf t then rule "list.sort.comparison-raised";throw e
    if touched then rule "list.sort.modified";raiseError "ValueError" "list modified during sort"
    ret .none) Q E { s with heap:=XD s.heap a vs }:=λt ls h1 h2 h3 h4=>by
  have ea:(arrOf t).map (·.2)=ls.map λi=>vs.getD i .none:=by rw[h1,Array.map_map];rfl
  have es:((arrOf t).map (·.2)).size<=64:=by rw[ea,Array.size_map,h3.size_eq,yQ];lia
  refine zb (seqEpoch_at at2 rfl ?_)
  refine zb (listUpdate_at at2 rfl ?_ (hsz2:=by rw[sizeLine_eq];exact zy es w6))
  rw[h2,ea];simp only[bne_self_eq_false,zV,if_false];exact zd (q ls h3 h4)
 by_cases c:vs.toArray.size<2
 ·rw [if_pos c, if_pos c];refine zb (zd ?_);rw[StateT.run_pure];refine zb (zd (fin _ (Array.range vs.length) (YW vs) rfl (Array.Perm.refl _) λi j hij hj=>?_))
  have:vs.length<2:=by simpa using c
  lia
 ·rw [if_neg c, if_neg c]
  have h2:2<=vs.length:=by simpa using c
  refine zb (hk h2 _ _ ?_);have N0:Now vs.length (Xb vs) kd (Array.range vs.length) (SortSt.mk' kd (vs.toArray.zip vs.toArray) #[] 7 none):=⟨YW vs,rfl,rfl,rfl,Array.Perm.refl _⟩;refine zb (wx (all (hR h2) N0 h2 h64 (Q:=λ_ t=>∃ls:Array Nat,arrOf t=ls.map (Xb vs)/\failedOf t=none/\ls.Perm (Array.range vs.length)/\Up r ls vs.length) λls t a1 a2 a3 a4=>⟨ls,a1,a2,a3,a4⟩) ?_ λ_ _ e=>e);rintro⟨_,t⟩ s' ⟨rfl,ls,a1,a2,a3,a4⟩;exact fin t ls a1 a2 a3 a4
def zf0{l:Addr}{vs:List Value}(hl:s.heap.IsList l vs.toArray)(h64:vs.length<64)
    (hk:2<=vs.length->∀(h':Heap),(∀b o,s.heap.get? b=some o->h'.get? b=some o)->∀(B:Around),B.units<=A.units+3->∀(E:Value->Shared->Prop) (Q:SortKind->Shared->Prop),Q kd { s with heap:=h' }->wpAny (model prog w) B (keyKind' vs.toArray) Q E { s with heap:=h' })
    (hR:2<=vs.length->∀(h':Heap),(∀b o,s.heap.get? b=some o->h'.get? b=some o)->∀(B:Around),B.units<=A.units+3->Rule prog w B { s with heap:=h' } vs.length (Xb vs) kd r) {Q:Value->Shared->Prop}
    (q:∀ls:Array Nat,ls.Perm (Array.range vs.length)->Up r ls vs.length->Q (.ref (s.heap.objs.size+1)) { s with heap:=sortedAll s.heap vs (ls.map λi=>vs.getD i .none) }) :
    wpAny (model prog w) A (call (.builtin "sorted") [.ref l]) Q E s:=by
  refine Calls.call_function_entry kind_sorted plain_sorted entry_sorted (args_sorted1 _) ?_;unfold Builtin.«sorted»;refine zb (m:=checkCount "sorted" 1 1 _) (zd (zb (collect_list hl (zb (wpAny_newList ?_)))))
  have z1:((s.heap.push (seqObj "list" #[] 0)).update s.heap.objs.size (Obj.mapSeq (·++vs.toArray))).objs.size=s.heap.objs.size+1:=by rw[Heap.size_update,size_push']
  let h1:Heap:=((s.heap.push (seqObj "list" #[] 0)).update s.heap.objs.size (Obj.mapSeq (·++vs.toArray))).push (seqObj "list" vs.toArray 0)
  have at1:h1.get? (s.heap.objs.size+1)=some (seqObj "list" vs.toArray 0):=by rw[<- z1];exact zp _ rfl
  have old1:∀b o,s.heap.get? b=some o->h1.get? b=some o:=λb o e=>by
    have lb:=zo e;refine ze _ ?_;rw[Heap.get?_update_ne _ _ _ _ (zw lb)];exact ze _ e
  have old2:∀b o,s.heap.get? b=some o->(XD h1 (s.heap.objs.size+1) vs).get? b=some o:=λb o e=>by
    have lb:=zo e;refine ze _ (ze _ ?_);rw[Heap.get?_update_ne _ _ _ _ (zw (xT lb))];exact old1 b o e
  have eH:∀out:Array Value,sortedHeap h1 (s.heap.objs.size+1) vs out=sortedAll s.heap vs out:=λ_=>rfl
  have body:∀B:Around,B.units<=A.units+3->∀(E:Value->Shared->Prop) (P:Fin->Shared->Prop),(∀ls:Array Nat,ls.Perm (Array.range vs.length)->Up r ls vs.length->P (.done (.ret .none)) { s with heap:=sortedAll s.heap vs (ls.map λi=>vs.getD i .none) }) ->
      wpAny (model prog w) B (Builtin.«list.sort» ⟨[.ref (s.heap.objs.size+1)],[]⟩) P E { s with heap:=h1 }:=λB hB E P p=>
    zQ1 (s:={ s with heap:=h1 }) at1 h64 (λh2 E Q q=>hk h2 _ old2 B hB E Q q) (λh2=>hR h2 _ old2 B hB) λls a1 a2=>by
      show P _ { s with heap:=sortedHeap h1 (s.heap.objs.size+1) vs _ };rw[eH];exact p ls a1 a2
  show wpAny _ _ _ _ _ { s with heap:=h1 };rw[z1]
  clear_value h1
  refine zb (xx (wj slot_list_sort ⟨_,at1,rfl⟩ entry_list_sort (body _ ?_ _ _ λls a1 a2=>⟨_,rfl,zd ⟨_,rfl,q ls a1 a2⟩⟩) (args_list_sort _)));show A.units+1+1<=A.units+3;lia
end
end L2.Srt
namespace L2.Srt
open PySem PyProof.Rows PySem.SeqAt
section
variable {prog:Program}{w:World}{M:Model}{A:Around}{E:Value->Shared->Prop}{s:Shared}
theorem zd3{α β:Type}{f:α->Sem β}{g:α->β}:∀{l:List α}{Q:List β->Shared->Prop},(∀a∈l,∀Q:β->Shared->Prop,Q (g a) s->wpAny M A (f a) Q E s)->Q (l.map g) s->wpAny M A (l.mapM f) Q E s
 |[],Q,_,q=>by rw[List.mapM_nil];exact zd q
 |a::l,Q,h,q=>by
  rw[List.mapM_cons];refine zb (h a (zP ..) _ (zb (zd3 (λb hb=>h b (zk _ hb)) (zd q))))
def zd4{α β:Type}{f:α->Sem β}{g:α->β}{l:List α}{Q:Array β->Shared->Prop}(h:∀a∈l,∀Q:β->Shared->Prop,Q (g a) s->wpAny M A (f a) Q E s)(q:Q (l.map g).toArray s):wpAny M A (l.toArray.mapM f) Q E s:=by
 rw[List.mapM_toArray];show wpAny M A (List.toArray <$> l.mapM f) Q E s;rw[map_eq_pure_bind];exact zb (zd3 h (zd q))
def Yu(v:Value):firstOfTuple' v=(do
  if (<- typeOf v) != .type "tuple" then return none
  return (<- Builtin.List.listItems v)[0]?):=rfl
def Tup(h:Heap)(v:Value)(p:Value)(rest:List Value):Prop:=∃a,v=.ref a/\IsTup h a (p::rest).toArray
def Tup.type{v p:Value}{rest:List Value}(t:Tup s.heap v p rest):s.TypeIs v "tuple" := by
 obtain⟨a,rfl,o,ho,hc,_⟩:=t;exact⟨o,ho,hc⟩
def Tup.items{v p:Value}{rest:List Value}(t:Tup s.heap v p rest){Q:Array Value->Shared->Prop}(q:Q (p::rest).toArray s):wpAny M A (Builtin.List.listItems v) Q E s:=by
 obtain⟨a,rfl,o,ho,hc,n,hd⟩:=t;exact listItems_at ho hd q
def Xq{vs:List Value}{fst:Value->Value}{T:String}(h2:2<=vs.length)(ht:∀v∈vs,∃rest,Tup s.heap v (fst v) rest)(hT:∀v∈vs,s.TypeIs (fst v) T){Q:SortKind->Shared->Prop}(q:Q (tuples' (Value.type T != Value.type "tuple")) s):wpAny M A (keyKind' vs.toArray) Q E s:=by
  rw[keyKind'_eq];refine zb (zd4 (g:=λv=>some (fst v)) (λv hv Q q=>?_) ?_)
  · obtain ⟨rest, t⟩ := ht v hv
    rw[Yu];refine zb (wpAny_typeOf t.type ?_)
    have e:(Value.type "tuple" != Value.type "tuple")=false:=by rfl
    rw[e];exact zb (t.items (zd q))
  · have e : (vs.map λv => some (fst v)).toArray.all (·.isSome) = true := by simp
    rw[if_pos e];refine zb (yo ?_)
    have e2:((vs.map λv=>some (fst v)).toArray.filterMap id)=(vs.map fst).toArray:=by
      simp[yg]
    rw[e2,oneTypeOnly'_eq];refine zb (zb (zd4 (g:=λ_=>Value.type T) (λv hv Q q=>?_) ?_))
    · obtain ⟨u, hu, rfl⟩ := zi.mp hv
      exact wpAny_typeOf (hT u hu) q
    · have e3 : ((vs.map fst).map λ_ => Value.type T).toArray[0]? = some (Value.type T) := by
        cases vs with
        |nil=>simp at h2
        |cons v vs=>simp
      have e4:(((vs.map fst).map λ_=>Value.type T).toArray.all (· == Value.type T))=true:=by
        simp only[List.all_toArray,List.all_map,wQ];intro _ _;show(Value.type T == Value.type T)=true;simp
      rw[e3];dsimp only;rw[e4];exact zd (zd q)
def VD(f:Bool)(x y:Value):keyLt' (tuples' f) x y=(do
  let xs <- Builtin.List.listItems x
  let ys <- Builtin.List.listItems y
  for ((p,q),i) in (xs.toList.zip ys.toList).zipIdx do
   if !(<- eqBool p q) then return <- oneLt' (f&&i == 0) p q
  return xs.size<ys.size):=rfl
inductive Lex(A:Around)(s:Shared)(f:Bool)(b:Bool):Nat->List Value->List Value->Prop
 |alike {i:Nat}{p q:Value}{ps qs:List Value}:EqAt A s p q true->Lex A s f b (i+1) ps qs->Lex A s f b i (p::ps) (q::qs)
 |here {i:Nat}{p q:Value}{ps qs:List Value}:EqAt A s p q false->(∀(prog:Program) (w:World) (E:Value->Shared->Prop) (Q:Bool->Shared->Prop),Q b s->wpAny (model prog w) A (oneLt' (f&&i == 0) p q) Q E s)->Lex A s f b i (p::ps) (q::qs)
def UT{f b:Bool}{x y p q:Value}{ps qs:List Value}(tx:Tup s.heap x p ps)(ty:Tup s.heap y q qs)(L:Lex A s f b 0 (p::ps) (q::qs)){Q:Bool->Shared->Prop}(h:Q b s):wpAny (model prog w) A (keyLt' (tuples' f) x y) Q E s:=by
 rw[VD];refine zb (tx.items (zb (ty.items ?_)))
 refine zb (wpAny_forIn_list _ (λrest c s'=>s'=s/\c.1=none/\∃i xs ys,rest=(xs.zip ys).zipIdx i/\Lex A s f b i xs ys) (λc s'=>s'=s/\c.1=some b) ?turn ?fin _ _ ⟨rfl,rfl,0,p::ps,q::qs,by simp,L⟩ |> λz=>wx z ?post λ_ _ e=>e)
 case turn=>
  rintro⟨⟨u,v⟩,k⟩ rest c s' ⟨rfl,hc,i,xs,ys,e,L⟩
  cases L with
  |alike he L=>
   rw[wP,zipIdx_cons] at e;injection e with e1 e2;injection e1 with e1 e3;injection e1 with e4 e5;subst e3 e4 e5;refine zb (he prog w _ _ ?_);simp only[Bool.not_true,zV,if_false];exact zd ⟨rfl,rfl,_,_,_,e2,L⟩
  |here he ho=>
   rw[wP,zipIdx_cons] at e;injection e with e1 e2;injection e1 with e1 e3;injection e1 with e4 e5;subst e3 e4 e5;refine zb (he prog w _ _ ?_);simp only[Bool.not_false,if_true];exact zb (ho prog w _ _ (zd ⟨rfl,rfl⟩))
 case fin=>
  rintro c s' ⟨_,_,i,xs,ys,e,L⟩
  cases L<;>(rw[wP,zipIdx_cons] at e;cases e)
 case post=>
  rintro c s' ⟨rfl,hc⟩;obtain⟨c1,c2⟩:=c;simp only at hc;subst hc;exact zd h
def Xd{i j:Int}{t u:Tok}{Q:Bool->Shared->Prop}(h:Q (decide (i<j)) s):wpAny (model prog w) A (oneLt' false (.int i t) (.int j u)) Q E s:=by
 rw[oneLt'_eq];simp only[zV,if_false];exact zb (show wpAny (model prog w) A (compareOp .Lt (.int i t) (.int j u)) _ _ _ from PyProof.Rows.lt_int (wE h))
def Xc{a b:Addr}{xs ys:Array Value}{ns ms:List Int}(ha:IsTup s.heap a xs)(hb:IsTup s.heap b ys)(hi:IntsAre xs.toList ns)(hj:IntsAre ys.toList ms)(hu:A.units<cLine){Q:Bool->Shared->Prop}(h:Q (HT.kF ns ms) s):wpAny (model prog w) A (oneLt' false (.ref a) (.ref b)) Q E s:=by
 rw[oneLt'_eq];simp only[zV,if_false];exact zb (show wpAny (model prog w) A (compareOp .Lt (.ref a) (.ref b)) _ _ _ from HT.Wz ha hb hi hj hu (wE h))
def Zv(f:Bool){i j:Int}{t u:Tok}{Q:Bool->Shared->Prop}(h:Q (decide (i<j)) s):wpAny (model prog w) A (oneLt' f (.int i t) (.int j u)) Q E s:=by
 cases f with
 |true=>exact oneLt_int h
 |false=>exact Xd h
end
end L2.Srt
namespace L2
open PySem PySem.Spec PyProof.Rows PySem.SeqAt
def xG3(X:Cx)(H:Hp)(f:Bool)(y:V):Prop:=∀pins s σ v,Inv X pins σ H s->RelV y v->∃p rest,Srt.Tup s.heap v p rest/\s.TypeIs p (if f then "int" else "tuple")
def xG6(X:Cx)(H:Hp)(f:Bool)(y z:V)(b:Bool):Prop:=∀pins s σ u v,Inv X pins σ H s->RelV y u->RelV z v->∀A:Around,A.units+60<cLine->∃p ps q qs,Srt.Tup s.heap u p ps/\Srt.Tup s.heap v q qs/\Srt.Lex A s f b 0 (p::ps) (q::qs)
def zE5(X:Cx):List V->Hp->VK->Prop:=λxs H Q=>∃(p:Addr) (ys:List V) (f:Bool) (r:Nat->Nat->Bool),xs=[.ref p]/\SqL X.K H p ys/\ys.length<64 /\
 (∀a b,a<ys.length->b<ys.length->a≠b->r a b=!r b a)/\(∀a b c,a<ys.length->b<ys.length->c<ys.length->r a b=true->r b c=true->r a c=true) /\
 (∀a,a<ys.length->xG3 X H f (ys.getD a .non))/\(∀a b,a<ys.length->b<ys.length->a≠b->xG6 X H f (ys.getD a .non) (ys.getD b .non) (r a b)) /\
 ∀ls:Array Nat,ls.Perm (Array.range ys.length)->Srt.Up r ls ys.length->∀l,H l=none->Q (.ref l) (upd H l (.lst (ls.toList.map λi=>ys.getD i .non)))
def Vals.getD{xs:List V}{us:List Value}(h:Vals xs us){i:Nat}(hi:i<xs.length):RelV (xs.getD i .non) (us.getD i .none):=by
 obtain⟨u,e,r⟩:=h.get (zf hi);rw[zK,zK,e,zf hi];exact r
theorem YM{xs:List V}{us:List Value}(h:Vals xs us):∀{ls:List Nat},(∀i∈ls,i<xs.length)->Vals (ls.map λi=>xs.getD i .non) (ls.map λi=>us.getD i .none)
 |[],_=>.nil
 |i::ls,hl=>.cons (h.getD (hl i (zP ..))) (YM h λj hj=>hl j (zk _ hj))
section
variable {X:Cx}
def zc3{n:Nat}(hr:Room n X.A):kG X (.builtin "sorted") (zE5 X):=by
 classical
 intro pins s σ H xs us Q I r h;obtain⟨p,ys,f,rr,rfl,hq,hn,tot,tr,row,cmp,q⟩:=h;obtain⟨u,rfl,hu⟩:=ZD r;have hu':u=.ref p:=hu;subst hu';obtain⟨its,rv,pl,_⟩:=I.list hq;have len:=rv.length;have un:=hr.un
 have ixd:∀v∈its,∃i,i<ys.length/\v=its.getD i .none:=λv hv=>by
  obtain⟨i,hi,e⟩:=List.getElem_of_mem hv
  exact⟨i,w5,by rw[zK,zf hi,e];rfl⟩
 refine Srt.zf0 (r:=rr) (kd:=tuples' f) pl.isList w5 (λh2 h' keep B hB E Q q=>?_) (λh2 h' keep B hB=>?_) (λls hp hU=>?_)
 ·have I' : Inv X pins σ H { s with heap := h' } := I.kept (t' := s.toks) keep
  have each:∀v∈its,∃p rest,Srt.Tup h' v p rest/\Shared.TypeIs { s with heap:=h' } p (if f then "int" else "tuple"):=λv hv=>by
   obtain⟨i,hi,rfl⟩:=ixd v hv;exact row i hi pins _ σ _ I' (rv.getD hi)
  refine Srt.Xq (s:={ s with heap:=h' }) (T:=if f then "int" else "tuple") (fst:=λv=>if h:∃p rest,Srt.Tup h' v p rest/\Shared.TypeIs { s with heap:=h' } p (if f then "int" else "tuple") then h.choose else v) w5 (λv hv=>?_) (λv hv=>?_) ?_
  ·have e := each v hv;obtain⟨rest,t,_⟩:=e.choose_spec
   exact⟨rest,by rw[dif_pos e];exact t⟩
  ·have e := each v hv;obtain⟨rest,_,t⟩:=e.choose_spec
   show Shared.TypeIs _ (if h:_ then _ else _) _
   rw[dif_pos e];exact t
  ·cases f
   ·exact q
   ·exact q
 ·have I' : Inv X pins σ H { s with heap := h' } := I.kept (t' := s.toks) keep
  refine⟨λa b ha hb=>tot a b w5 w5,λa b c ha hb hc=>tr a b c w5 w5 w5,λa b ha hb hab E Q q=>?_⟩
  obtain⟨p1,ps,p2,qs,t1,t2,L⟩:=cmp a b w5 w5 hab pins _ σ _ _ I' (rv.getD w5) (rv.getD w5) B w5
  exact Srt.UT t1 t2 L q
 ·obtain ⟨e, he⟩ := sortedAll_at s.heap its (ls.map λi => its.getD i .none);have hf:H (s.heap.objs.size+1)=none:=I.hok.fresh (xq _)
  have hls:∀i∈ls.toList,i<ys.length:=λi hi=>by
   have:=(hp.mem_iff).mp (Array.mem_toList_iff.mp hi);rw[Array.mem_range] at this;lia
  rw[<- len] at hp hU;refine⟨.ref (s.heap.objs.size+1),_,I.laid (t':=s.toks) (o:=.lst (ls.toList.map λi=>ys.getD i .non)) (λb u e=>sortedAll_old e) (xq _) ?_,rfl,q ls hp hU _ hf⟩;refine⟨?_,(ls.toList.map λi=>its.getD i .none),e,YM rv hls,?_⟩
  ·rw [zg, xQ, hp.size_eq, yQ]
   exact zy (yt hn) w6
  ·have ea : (ls.toList.map λi => its.getD i .none).toArray = ls.map λi => its.getD i .none := by rw [<- Array.toList_map, yv]
   rw[ea];exact he
end
inductive SKey where
 |n (i:Int) |t (ns:List Int)
 deriving DecidableEq
def SKey.d:SKey->D
 |.n i=>.int i
 |.t ns=>.tup (ns.map D.int)
def SKey.num:SKey->Bool
 |.n _=>true
 |.t _=>false
def SKey.lt:SKey->SKey->Bool
 |.n i,.n j=>decide (i<j)
 |.t ns,.t ms=>HT.kF ns ms
 |_,_=>false
structure SRow where
 key:SKey
 name:Int
 rest:List D
def SRow.d(x:SRow):D:=.tup (x.key.d::.int x.name::x.rest)
def SRow.lt(x y:SRow):Bool:=if x.key=y.key then decide (x.name<y.name) else x.key.lt y.key
theorem Qk:∀(xs ys:List Int),xs≠ys->HT.kF xs ys=!HT.kF ys xs
 |[],[],h=>absurd rfl h
 |[],y::ys,_=>rfl
 |x::xs,[],_=>rfl
 | x :: xs, y :: ys, h => by
  rw[HT.qk,HT.qk]
  by_cases e:x=y
  ·subst e;rw[if_pos rfl,if_pos rfl]
   exact Qk xs ys λz=>h (by rw[z])
  ·rw [if_neg e, if_neg (Ne.symm e)]
   by_cases l:x<y
   ·rw[xt l,zW w5];rfl
   ·rw[zW l,xt w5];rfl
theorem zm0:∀(xs:List Int),HT.kF xs xs=false
 |[]=>rfl
 |x::xs=>by rw[HT.qk,if_pos rfl];exact zm0 xs
theorem UP:∀(xs ys zs:List Int),HT.kF xs ys=true->HT.kF ys zs=true->HT.kF xs zs=true
 |[],[],_,h,_=>by cases h
 |[],_::_,[],_,h=>by cases h
 |[],_::_,_::_,_,_=>rfl
 |_::_,[],_,h,_=>by cases h
 |_::_,_::_,[],_,h=>by cases h
 | x :: xs, y :: ys, z :: zs, h1, h2 => by
  rw[HT.qk] at h1 h2 ⊢
  by_cases e1:x=y
  ·subst e1;rw[if_pos rfl] at h1
   by_cases e2:x=z
   ·subst e2;rw[if_pos rfl] at h2 ⊢;exact UP xs ys zs h1 h2
   ·rw[if_neg e2] at h2 ⊢;exact h2
  ·rw [if_neg e1] at h1;have l1:=of_decide_eq_true h1
   by_cases e2:y=z
   ·subst e2;rw[if_neg e1];exact h1
   ·rw [if_neg e2] at h2;have l2:=of_decide_eq_true h2
    rw[if_neg w5]
    exact xt w5
def SKey.lt_anti{x y:SKey}(hn:x.num=y.num)(h:x≠y):x.lt y=!y.lt x:=by
 cases x with
 | n i =>
  cases y with
  |n j=>
   have:i≠j:=λz=>h (by rw[z])
   simp only[SKey.lt]
   by_cases l:i<j
   ·rw[xt l,zW w5];rfl
   ·rw[zW l,xt w5];rfl
  |t ms=>cases hn
 |t ns=>
  cases y with
  |n j=>cases hn
  |t ms=>exact Qk ns ms λz=>h (by rw[z])
def SKey.lt_irr(x:SKey):x.lt x=false:=by
 cases x with
 |n i=>simp[SKey.lt]
 |t ns=>exact zm0 ns
def SKey.lt_trans{x y z:SKey}(h1:x.lt y=true)(h2:y.lt z=true):x.lt z=true:=by
 cases x<;>cases y<;>cases z<;>first
  |(cases h1;done) |(cases h2;done)
  |(simp only[SKey.lt,wF] at h1 h2 ⊢;lia)
  |exact UP _ _ _ h1 h2
def SRow.lt_anti{x y:SRow}(hn:x.key.num=y.key.num)(h:x.name≠y.name):x.lt y=!y.lt x:=by
 unfold SRow.lt
 by_cases e:x.key=y.key
 ·rw [if_pos e, if_pos e.symm]
  by_cases l:x.name<y.name
  ·rw[xt l,zW w5];rfl
  ·rw[zW l,xt w5];rfl
 ·rw[if_neg e,if_neg (Ne.symm e)];exact SKey.lt_anti hn e
def SRow.lt_trans{x y z:SRow}(h1:x.lt y=true)(h2:y.lt z=true):x.lt z=true:=by
 unfold SRow.lt at *
 by_cases e1:x.key=y.key
 ·rw [if_pos e1] at h1
  by_cases e2:y.key=z.key
  ·rw[if_pos e2] at h2;rw[if_pos (e1.trans e2)];simp only[wF] at *;lia
  ·rw [if_neg e2] at h2
   rw[if_neg (by rw[e1];exact e2),e1]
   exact h2
 ·rw [if_neg e1] at h1
  by_cases e2:y.key=z.key
  ·rw [if_neg (by rw [<- e2]; exact e1), <- e2]
   exact h1
  ·rw [if_neg e2] at h2;have h3:=SKey.lt_trans h1 h2
   by_cases e3:x.key=z.key
   ·rw[e3,SKey.lt_irr] at h3;cases h3
   ·rw[if_neg e3];exact h3
def Yk:SRow:=⟨.n 0,0,[]⟩
def xc5:List D->(D->Prop)->Prop:=λes k=>∃(rows:List SRow) (f:Bool),es=[.lst (rows.map SRow.d)]/\rows.length<64/\(∀x∈rows,x.key.num=f)/\(rows.map SRow.name).Nodup/\∀rows':List SRow,rows'.Perm rows->rows'.Pairwise (λx y=>x.lt y=true)->k (.lst (rows'.map SRow.d))
theorem UY:∀(xs ys:List Int),Yb (xs.map D.int) (ys.map D.int)=decide (xs=ys)
 |[],[]=>by unfold Yb;rfl
 |[],y::ys=>by unfold Yb;simp
 |x::xs,[]=>by unfold Yb;simp
 |x::xs,y::ys=>by
  rw[zJ,zJ];unfold Yb;rw[UY xs ys];unfold eqD
  by_cases e:x=y
  ·subst e;simp
  ·simp[e]
def zQ7{x y:SKey}(h:x.num=y.num):eqD x.d y.d=decide (x=y):=by
 cases x with
 | n i =>
  cases y with
  |n j=>
   show eqD (.int i) (.int j)=_;unfold eqD
   by_cases e:i=j
   ·subst e;simp
   ·simp[e]
  |t ms=>cases h
 | t ns =>
  cases y with
  |n j=>cases h
  |t ms=>
   show eqD (.tup _) (.tup _)=_;unfold eqD;rw[UY]
   by_cases e:ns=ms
   ·subst e;simp
   ·simp[e]
def zk3(x:SKey):okE x.d 20=true:=by
 cases x with
 |n i=>exact Ze
 |t ns=>
  refine(Zd (k:=19)).mpr λd hd=>?_;obtain⟨x,_,rfl⟩:=zi.mp hd;exact Ze
section
variable {X:Cx}{pins:List (Addr × Obj)}{σ:St}{H:Hp}{s:Shared}{G:Option Addr}{Z:Addr->Prop}
def zu0{a b:V}{xs:List V}{its:List Value}(h:Vals (a::b::xs) its):∃p q r,its=p::q::r/\RelV a p/\RelV b q:=by
 cases h with
 |cons h0 t=>
  cases t with
  |cons h1 t1=>exact⟨_,_,_,rfl,h0,h1⟩
structure RowAt(X:Cx)(G:Option Addr)(Z:Addr->Prop)(H:Hp)(s:Shared)(x:SRow)(u p:Value)(rest:List Value):Prop where
 tup:∃q,Srt.Tup s.heap u p (q::rest)/\∃t,q=.int x.name t
 key:∃z,Rep X.K G Z H x.key.d z/\RelV z p
def Wr(I:Inv X pins σ H s){x:SRow}{v:V}{u:Value}(r:Rep X.K G Z H x.d v)(q:RelV v u):∃p rest,RowAt X G Z H s x u p rest:=by
 unfold SRow.d at r;obtain⟨a,xs,rfl,sq,rs⟩:=r.tup_inv;have e:u=.ref a:=q;subst e;obtain⟨its,rv,pl,_⟩:=I.tuple sq.sq;obtain⟨z0,xs1,rfl,r0,rs1⟩:=rs.split;obtain⟨z1,xs2,rfl,r1,rs2⟩:=rs1.split;have e1:=r1.int_inv;subst e1;obtain⟨p0,p1,its2,rfl,h0,t,rfl⟩:=zu0 rv;exact⟨p0,its2,⟨_,⟨a,rfl,pl⟩,t,rfl⟩,z0,r0,h0⟩
def JW(I:Inv X pins σ H s){x:SRow}{u p:Value}{rest:List Value}(R:RowAt X G Z H s x u p rest):s.TypeIs p (if x.key.num then "int" else "tuple"):=by
 obtain⟨z,r,q⟩:=R.key
 cases h:x.key with
 |n i=>
  rw[h] at r;have e:z=.int i:=r.int_inv;subst e;obtain⟨t,rfl⟩:=q;exact typeIs_int s i t
 |t ns=>
  rw[h] at r;obtain⟨a,xs,rfl,sq,rs⟩:=Rep.tup_inv (show Rep X.K G Z H (.tup (ns.map D.int)) z from r);have e:p=.ref a:=q;subst e;obtain⟨its,rv,⟨o,ho,hc,_⟩,_⟩:=I.tuple sq.sq;exact⟨o,ho,hc⟩
def zf7(I:Inv X pins σ H s){x y:SRow}{u v p q:Value}{ps qs:List Value}(hn:x.key.num=y.key.num)(hd:x.name≠y.name)(R:RowAt X G Z H s x u p ps)(R':RowAt X G Z H s y v q qs){A:Around}(hu:A.units+60<cLine) :
  ∃p ps q qs,Srt.Tup s.heap u p ps/\Srt.Tup s.heap v q qs/\Srt.Lex A s x.key.num (x.lt y) 0 (p::ps) (q::qs):=by
 obtain⟨n1,t1,tk1,rfl⟩:=R.tup;obtain⟨n2,t2,tk2,rfl⟩:=R'.tup;obtain⟨z1,r1,q1⟩:=R.key;obtain⟨z2,r2,q2⟩:=R'.key
 have E:=(Qq I 20 x.key.d y.key.d z1 z2 p q A (zk3 _) (zk3 _) r1 r2 q1 q2 w5).1
 rw[zQ7 hn] at E;refine⟨p,_,q,_,t1,t2,?_⟩
 by_cases e:x.key=y.key
 ·rw [xt e] at E;refine .alike E (.here ?_ ?_)
  ·have := EqAt.int_int (A := A) (s := s) x.name tk1 y.name tk2
   have e2:(x.name == y.name)=false:=by simpa using hd
   rw[e2] at this;exact this
  ·intro prog w E Q h;unfold SRow.lt at h;rw[if_pos e] at h;exact Srt.Zv _ h
 ·rw [zW e] at E;refine .here E ?_;intro prog w E Q h;unfold SRow.lt at h;rw[if_neg e] at h
  cases hx:x.key with
  | n i =>
   cases hy:y.key with
   |n j=>
    rw[hx] at r1 h;rw[hy] at r2 h;have e1:z1=.int i:=r1.int_inv;have e2:z2=.int j:=r2.int_inv;subst e1 e2;obtain⟨a1,rfl⟩:=q1;obtain⟨a2,rfl⟩:=q2;exact Srt.Zv _ h
   |t ms=>rw[hx,hy] at hn;cases hn
  | t ns =>
   cases hy:y.key with
   |n j=>rw[hx,hy] at hn;cases hn
   |t ms=>
    rw[hx] at r1 h;rw[hy] at r2 h;obtain⟨a,xs,rfl,sq,rs⟩:=Rep.tup_inv (show Rep X.K G Z H (.tup (ns.map D.int)) z1 from r1);obtain⟨b,ys,rfl,sq',rs'⟩:=Rep.tup_inv (show Rep X.K G Z H (.tup (ms.map D.int)) z2 from r2);have e1:p=.ref a:=q1;have e2:q=.ref b:=q2;subst e1 e2;obtain⟨its,rv,pl,_⟩:=I.tuple sq.sq;obtain⟨its',rv',pl',_⟩:=I.tuple sq'.sq;rw[ki rs] at rv;rw[ki rs'] at rv';show wpAny _ _ (oneLt' (false&&_) _ _) _ _ _
    exact Srt.Xc pl pl' (kH rv) (kH rv') w5 h
end
def Reps.getD{K:W.Frag}{G:Option Addr}{Z:Addr->Prop}{H:Hp}{α:Type}{enc:α->D}{rows:List α}{a0:α}{xs:List V}(rs:Reps K G Z H (rows.map enc) xs){i:Nat}(hi:i<rows.length):Rep K G Z H (enc (rows.getD i a0)) (xs.getD i .non):=by
 obtain⟨v,e,r⟩:=rs.get (i:=i) (d:=enc rows[i]) (by rw[zA,zf hi];rfl)
 rw[zK,zK,e,zf hi];exact r
theorem YV{K:W.Frag}{G:Option Addr}{Z:Addr->Prop}{H:Hp}{α:Type}{enc:α->D}{rows:List α}{a0:α}{xs:List V}(rs:Reps K G Z H (rows.map enc) xs):∀{ls:List Nat},(∀i∈ls,i<rows.length)->Reps K G Z H ((ls.map λi=>rows.getD i a0).map enc) (ls.map λi=>xs.getD i .non)
 |[],_=>.nil
 |i::ls,hl=>.cons (rs.getD (hl i (zP ..))) (YV rs λj hj=>hl j (zk _ hj))
def UL{α:Type}(a0:α)(rows:List α):(List.range rows.length).map (λi=>rows.getD i a0)=rows:=by
 apply List.ext_getElem
 ·simp
 ·intro i h1 h2;simp[zK,h2]
def zC8{A:AC}{X:Cx}(hK:X.K=A.K):vo A (zE5 X) xc5:=by
 rintro os n rho sg H ds vs es ws k Q I rs ⟨rows,f,rfl,hl,hf,hnd,q⟩ hQ;obtain⟨v,rfl,r⟩:=kL rs;obtain⟨a,xs,rfl,sq,rr⟩:=r.lst_inv
 have len:xs.length=rows.length:=by rw[rr.length,zg]
 have mem:∀i,i<rows.length->rows.getD i Yk∈rows:=λi hi=>by
  rw[zK,zf hi];exact wz hi
 have dist:∀i j,i<rows.length->j<rows.length->i≠j->(rows.getD i Yk).name≠(rows.getD j Yk).name:=λi j hi hj hij e=>by
  have g:∀i (hi:i<rows.length),(rows.map SRow.name)[i]'(by simpa using hi)=(rows.getD i Yk).name:=λi hi=>by
   rw[List.getElem_map,zK,zf hi];rfl
  have f:=wL.mp hnd
  rcases Nat.lt_or_gt_of_ne hij with l |l
  ·exact f i j (by simpa using hi) (by simpa using hj) l (by rw[g i hi,g j hj,e])
  ·exact f j i (by simpa using hj) (by simpa using hi) l (by rw[g i hi,g j hj,e])
 have num:∀i,i<rows.length->(rows.getD i Yk).key.num=f:=λi hi=>hf _ (mem i hi);rw[<- hK] at rr
 refine⟨a,xs,f,λi j=>(rows.getD i Yk).lt (rows.getD j Yk),rfl,by rw[hK];exact sq.sq,w5,λi j hi hj hij=>SRow.lt_anti (by rw[num i w5,num j w5]) (dist i j w5 w5 hij),λi j l _ _ _ h1 h2=>SRow.lt_trans h1 h2,λi hi=>?_,λi j hi hj hij=>?_,λls hp hU l hl'=>?_⟩
 ·intro pins s σ u J ru
  obtain⟨p,rest,R⟩:=Wr J (rr.getD (enc:=SRow.d) (a0:=Yk) w5) ru
  obtain⟨z,t,_⟩:=R.tup;have ty:=JW J R
  rw[num i w5] at ty
  exact⟨p,_,t,ty⟩
 ·intro pins s σ u v J ru rv B hB
  obtain⟨p,ps,R⟩:=Wr J (rr.getD (enc:=SRow.d) (a0:=Yk) w5) ru
  obtain⟨p',ps',R'⟩:=Wr J (rr.getD (enc:=SRow.d) (a0:=Yk) w5) rv
  have c:=zf7 J (by rw[num i w5,num j w5]) (dist i j w5 w5 hij) R R' hB
  rw[num i w5] at c
  exact c
 ·rw [len] at hp hU
  have hls:∀i∈ls.toList,i<rows.length:=λi hi=>by
   have:=(hp.mem_iff).mp (Array.mem_toList_iff.mp hi)
   rwa [Array.mem_range] at this
  have hsz:ls.size=rows.length:=by rw[hp.size_eq,yQ]
  rw[hK] at rr;refine hQ _ _ _ ⟨os,I.newLst (YV (a0:=Yk) rr hls) hl'⟩ (q _ ?_ ?_)
  ·have p1 : ls.toList.Perm (List.range rows.length) := by
    have:=Array.perm_iff_toList_perm.mp hp
    rwa [Array.toList_range] at this
   have p2:=p1.map λi=>rows.getD i Yk
   rwa [UL] at p2
  ·rw [xI, wL];intro i j hi hj hij
   have hi':i<ls.size:=by simpa using hi
   have hj':j<ls.size:=by simpa using hj
   have u:=hU i j hij w5
   have g:∀i (hi:i<ls.size),Srt.lab ls i=ls.toList[i]'(by simpa using hi):=λi hi=>by
    refine Srt.jy ?_
    rw[<- yh,zf (by simpa using hi)]
   rw[g i hi',g j hj'] at u;exact u
def QA{X:Cx}(hc:X.calm=true):kG X (.builtin "sum") (λxs H Q=>∃(p:Addr) (ns:List Int),xs=[.ref p]/\SqL X.K H p (ns.map V.int)/\Q (.int ns.sum) H):=by
 intro pins s σ H xs us Q I r h;obtain⟨p,ns,rfl,hq,q⟩:=h;obtain⟨u,rfl,hu⟩:=ZD r;have e:u=.ref p:=hu;subst e;obtain⟨its,rv,pl,_⟩:=I.list hq;have hi:=kH rv;obtain⟨ys,hys⟩:=hi.allInts.items;have hl:=pl.isList;rw[hys] at hl;refine sum_intListG (I.ok.hd hc) hl λh' tk t' hk=>?_;refine⟨.int ns.sum,H,I.kept hk,⟨t',?_⟩,q⟩
 rw[preSum_eq,yU (by simp)]
 have e2:=nums_intItems ys;rw[<- hys] at e2;rw[<- e2];show Value.int (numsOf its.toArray.toList).sum t'=_;rw[show its.toArray.toList=its from rfl,hi.numsOf]
def xM5:List D->(D->Prop)->Prop:=λes k=>∃ns:List Int,es=[.lst (ns.map D.int)]/\k (.int ns.sum)
def zH3{A:AC}:vo A (λxs H Q=>∃(p:Addr) (ns:List Int),xs=[.ref p]/\SqL A.K H p (ns.map V.int)/\Q (.int ns.sum) H) xM5:=by
 rintro os n rho sg H ds vs es ws k Q I rs ⟨ns,rfl,q⟩ hQ;obtain⟨v,rfl,r⟩:=kL rs;obtain⟨a,xs,rfl,sq,rr⟩:=r.lst_inv;have e:=ki rr;subst e;exact⟨a,ns,rfl,sq.sq,hQ _ _ _ ⟨os,I.push (Rep.ofS (d:=.int ns.sum) rfl)⟩ q⟩
structure Blt2(mg:Str->Option Value):Prop where
 sum:mg "sum" = none
def zH6:bootBuiltins "sum" = some (.builtin "sum"):=x6
section
variable {A:AC}{X:Cx}{a:Expr}{ta:TD}{pos:Pos}
def zl7(d:D)(k:List D->Prop):Prop:=∃fs,(d=.lst fs\/d=.fz fs)/\k fs
@[simp] theorem xs9{fs:List D}{k}:zl7 (.lst fs) k↔k fs:=⟨fun⟨_,e,h⟩=>by rcases e with e |e<;>cases e;exact h,λh=>⟨_,.inl rfl,h⟩⟩
def xF8(ta:TD)(tl th:TOD):TD:=λrho n P=>ta rho n λd n1=>tl rho n1 λlo n2=>th rho n2 λhi n3=>zl7 d λfs=>P (.lst (VL fs lo hi)) n3
@[simp] theorem xC7{ta tl th rho n P}:xF8 ta tl th rho n P=ta rho n λd n1=>tl rho n1 λlo n2=>th rho n2 λhi n3=>zl7 d λfs=>P (.lst (VL fs lo hi)) n3:=rfl
def zi5{le he:Option Expr}{tl th:TOD}{p2:Pos}(hK:X.K=A.K)(ha:PD A X a ta)(hl:POD A X le tl)(hh:POD A X he th):PD A X (.Subscript a (.Slice le he none p2) pos) (xF8 ta tl th):=by
 exists (Qb zJ0 ha hl hh).imp λsg H Q h=>by
   obtain⟨rho,n,P,ds,vs,I,ht,hQ⟩:=h;refine⟨rho,n,_,ds,vs,I,ht,λv H1 n1 d J1 h1=>⟨rho,n1,_,_,_,J1,h1,λlo H2 n2 J2 h2=>⟨rho,n2,_,_,_,J2,h2,λhi H3 n3 ⟨os,J3⟩ h3=>?_⟩⟩⟩;obtain⟨fs,hd,k⟩:=h3;obtain⟨J4,r⟩:=J3.pop;rw[hK]
   rcases hd with rfl |rfl
   ·obtain⟨l,xs,rfl,sq,rs⟩:=r.lst_inv;exact⟨l,xs,rfl,sq.sq,λp hp=>hQ _ _ n3 _ ⟨os,J4.newLst (Vf rs lo hi) hp⟩ k⟩
   ·obtain⟨l,xs,rfl,sq,rs⟩:=r.fz_inv;exact⟨l,xs,rfl,sq,λp hp=>hQ _ _ n3 _ ⟨os,J4.newLst (Vf rs lo hi) hp⟩ k⟩
def zp8(i:Nat):TD:=λrho n P=>∃es,rho[i]?=some (some (.own es))/\okE (.lst es) 20=true/\P (.bl (!Yb es [])) n
@[simp] theorem xk7{i rho n P}:zp8 i rho n P=∃es,rho[i]?=some (some (.own es))/\okE (.lst es) 20=true/\P (.bl (!Yb es [])) n:=rfl
def ze4{i:Nat}(hK:X.K=A.K){sg:St}{H:Hp}{Q:VK}(h:tOf A (zp8 i) sg H Q):tOp (xo5 X) (xz7 i) (tOf A (xy6 xg5)) sg H Q:=by
 obtain⟨rho,n,P,ds,vs,⟨os,I⟩,⟨es,hi,ok,q⟩,hQ⟩:=h;obtain⟨a,xs,e1,hH,rs,_⟩:=I.own (es':=es) (xs':=[]) hi;refine⟨.ref a,e1,rho,n,λd n1=>d=.lst []/\n1=n,ds,vs,⟨os,I⟩,⟨xJ _,rfl,rfl⟩,λv2 H2 n2 d2 ⟨os2,J⟩ k=>?_⟩;obtain⟨rfl,rfl⟩:=k;obtain⟨J1,r2⟩:=J.pop;obtain⟨a',xs',e2,hH',rs',_⟩:=J1.own (es':=es) (xs':=[]) hi;rw[e1] at e2;cases e2;have no:∀b,H2 b≠none->False->Zof A os2 b:=λ_ _ z=>z.elim
 have rA:Rep X.K A.G (λ_=>False) H2 (.lst es) (.ref a):=by
  rw[hK];exact .lst_mk ⟨λz=>z,hH'⟩ (Reps.mono no (λ_ _ _ e=>e) _ _ rs')
 have rB:Rep X.K A.G (λ_=>False) H2 (.lst []) v2:=by
  rw[hK];exact Rep.mono no (λ_ _ _ e=>e) _ _ r2
 have ok0:okE (.lst []) 20=true:=by unfold okE;rfl
 refine⟨eqD (.lst es) (.lst []),λpins s σ v u J rx ry B hu=>Qq J 20 _ _ _ _ v u B ok ok0 rA rB rx ry w5,?_⟩
 have eqe:eqD (.lst es) (.lst [])=Yb es []:=by unfold eqD;rfl
 rw[eqe];exact hQ _ H2 _ _ ⟨os2,J1.push (Rep.ofS (d:=.bl (!Yb es [])) rfl)⟩ q
def zg9{i:Nat}{x:Str}{px p2:Pos}{n:Nat}(hr:Room n X.A)(hK:X.K=A.K)(hN:X.N[i]?=some x:=by rfl)(hv:Vis X.env.scope x:=by first |exact Or.inl rfl |exact Or.inr (Or.inl rfl) |exact Or.inr (Or.inr rfl))(hd:(x == ("__debug__" : Str))=false:=by decide)
  (hcd:(x == ("__classdict__" : Str))=false:=by decide):PTD A X (.Compare (.Name x px) [.NotEq] [.List [] p2] pos) (Js (zp8 i)):=by exists (zh0 (zF4 hr) (qO hN hv hd hcd) (vN (A:=A) zm) (wT _)).imp λ_ _ _=>WW λ_ _ _=>ze4 hK
end
mutual
def xz5:D->PyData
 |.int i=>.int i
 |.tup ds=>.tuple (zT3 ds)
 |_=>.none
def zT3:List D->List PyData
 |[]=>[]
 |d::ds=>xz5 d::zT3 ds
end
mutual
def okS:D->Nat->Bool
 |.int i,_=>decide (i.natAbs.log2<1920)
 |.tup ds,k=>match k with
  |0=>false
  |k+1=>xF2 ds k
 |_,_=>false
def xF2:List D->Nat->Bool
 |[],_=>true
 |d::ds,k=>okS d k&&xF2 ds k
end
mutual
def zN9:D->Nat
 |.tup ds=>zF5 ds+1
 |_=>1
def zF5:List D->Nat
 |[]=>0
 |d::ds=>zN9 d+zF5 ds
end
def zU2(d:D):Str:=(xz5 d).shown
section
variable {X:Cx}{pins:List (Addr × Obj)}{σ:St}{H:Hp}{s:Shared}{G:Option Addr}{Z:Addr->Prop}
end
def zs8(X:Cx)(H:Hp)(y:V)(p:PyData):Prop:=∀pins s σ v,Inv X pins σ H s->RelV y v->∃a as,v=.ref a/\Reads s.heap (.ref a) p as
def xx1:List D->(D->Prop)->Prop:=λes k=>∃ds,es=[.tup ds]/\okS (.tup ds) 15=true/\zN9 (.tup ds)<=8000/\k (.str (zU2 (.tup ds)))
@[simp] theorem xt0{ds k}:xx1 [.tup ds] k↔(okS (.tup ds) 15=true/\zN9 (.tup ds)<=8000/\k (.str (zU2 (.tup ds)))):=⟨fun⟨_,e,h⟩=>by cases e;exact h,λh=>⟨_,rfl,h⟩⟩
end L2
namespace L2
section
variable {X:Cx}{A:AC}
def zW0:RD2:=λd1 d2 k=>∃es i,d1=.tup es/\d2=.int i/\es≠[]/\0<=i/\es.length*i.toNat<=sizeLine/\k (.tup (replicate i.toNat es).flatten)
@[simp] theorem xh8{es i k}:zW0 (.tup es) (.int i) k↔(es≠[]/\0<=i/\es.length*i.toNat<=sizeLine/\k (.tup (replicate i.toNat es).flatten)):=⟨fun⟨_,_,e,e',h⟩=>by cases e;cases e';exact h,λh=>⟨_,_,rfl,rfl,h⟩⟩
end
end L2
namespace L2.Srt
open PySem PyProof.Rows
section
variable {prog:Program}{w:World}{A:Around}{E:Value->Shared->Prop}{s:Shared}
end
end L2.Srt
namespace L2
section
variable {X:Cx}{A:AC}{pos:Pos}{e:Expr}{t1:TAD}
def zV0:TSD:=λ_ _ _=>False
@[simp] theorem xs7{F:EndsD}{rho:Rho}{n:Nat}:zV0 F rho n↔False:=Iff.rfl
end
section
variable {K:W.Frag}{G G':Option Addr}{Z:Addr->Prop}{H:Hp}
end
section
variable {A:AC}{X:Cx}{e:Expr}{es:List Expr}{t1:TAD}{t2:TSD}{pos p:Pos}
end
def zB3(ks:List Key)(k:Key):Bool:=ks.any λj=>decide (j=k)
def Vg(ks:List Key)(k:Key):List Key:=if zB3 ks k=true then ks else ks++[k]
def zg8{α:Type}(ks:List Key)(xs:List α)(k:Key)(x:α):List α:=if zB3 ks k=true then List.zipWith (λj y=>if j=k then x else y) ks xs else xs++[x]
theorem zm7:∀(ks:List Key) (xs:List V) (k:Key),ks.length=xs.length->((Yt ks xs).any λkv=>decide (kv.1=k))=zB3 ks k
 |[],xs,k,_=>rfl
 |j::ks,[],k,h=>by simp at h
 |j::ks,x::xs,k,h=>by
  have ih:=zm7 ks xs k (by simpa using h)
  show(decide (j=k)||(Yt ks xs).any _)=(decide (j=k)||zB3 ks k);rw[ih]
theorem zm6:∀(ks:List Key) (xs:List V) (k:Key) (v:V),(Yt ks xs).map (λkv=>if kv.1=k then(kv.1,v) else kv)=Yt ks (List.zipWith (λj y=>if j=k then v else y) ks xs)
 |[],xs,k,v=>by simp[Yt]
 |j::ks,[],k,v=>by simp[Yt]
 |j::ks,x::xs,k,v=>by
  have ih:=zm6 ks xs k v
  show(if j=k then(j,v) else(j,x))::(Yt ks xs).map _=(j,if j=k then v else x)::Yt ks _
  rw[ih]
  by_cases e:j=k<;>simp[e]
def zA3{ks:List Key}{xs:List V}(k:Key)(v:V)(h:ks.length=xs.length):Yt ks xs++[(k,v)]=Yt (ks++[k]) (xs++[v]):=by
 unfold Yt;rw[List.zipWith_append h];rfl
def zP0{ks:List Key}{xs:List V}(k:Key)(v:V)(h:ks.length=xs.length):QT (Yt ks xs) k v=Yt (Vg ks k) (zg8 ks xs k v):=by
 unfold QT Vg zg8;rw[zm7 ks xs k h]
 by_cases e:zB3 ks k=true
 ·rw[if_pos e,if_pos e,if_pos e,zm6]
 ·rw[if_neg e,if_neg e,if_neg e,zA3 k v h]
def KW{α:Type}{ks:List Key}{xs:List α}(k:Key)(x:α)(h:ks.length=xs.length):(Vg ks k).length=(zg8 ks xs k x).length:=by
 unfold Vg zg8
 split
 ·rw[wn,<- h];lia
 ·simp[h]
def zY2{α:Type}{ks:List Key}{xs:List α}(k:Key)(x:α)(h:ks.length=xs.length):(Vg ks k).length<=ks.length+1:=by
 unfold Vg
 split<;>simp
section
variable {K:W.Frag}{G:Option Addr}{Z:Addr->Prop}{H:Hp}
theorem Reps.zipPut{d:D}{v:V}(r:Rep K G Z H d v)(k:Key):∀{ks:List Key}{es:List D}{xs:List V},Reps K G Z H es xs->Reps K G Z H (List.zipWith (λj y=>if j=k then d else y) ks es) (List.zipWith (λj y=>if j=k then v else y) ks xs)
 |[],es,xs,h=>.nil
 |j::ks,[],xs,h=>by rw[h.nil_inv];exact .nil
 |j::ks,e::es,xs,h=>by
  obtain⟨x,xr,rfl,q,t⟩:=h.split;have ih:=Reps.zipPut r k (ks:=ks) t
  show Reps K G Z H ((if j=k then d else e)::_) ((if j=k then v else x)::_)
  by_cases z:j=k
  ·rw[if_pos z,if_pos z];exact .cons r ih
  ·rw[if_neg z,if_neg z];exact .cons q ih
def Reps.put{d:D}{v:V}{ks:List Key}{es:List D}{xs:List V}(h:Reps K G Z H es xs)(r:Rep K G Z H d v)(k:Key):Reps K G Z H (zg8 ks es k d) (zg8 ks xs k v):=by
 unfold zg8
 split
 ·exact Reps.zipPut r k h
 ·exact h.append (.cons r .nil)
end
def keyOf:D->Option Key
 |.int i=>some (Sum.inl i)
 |.str x=>some (Sum.inr x)
 |_=>none
@[simp] theorem xc4{i:Int}:keyOf (.int i)=some (Sum.inl i):=rfl
@[simp] theorem xc3{i:Str}:keyOf (.str i)=some (Sum.inr i):=rfl
def Xr{K:W.Frag}{G:Option Addr}{Z:Addr->Prop}{H:Hp}{d:D}{v:V}{k:Key}(h:Rep K G Z H d v)(e:keyOf d=some k):v=kV k:=by
 cases d with
 |int i=>cases e;exact h.int_inv
 |str i=>cases e;exact h.toS rfl
 |_=>simp[keyOf] at e
section
variable {A:AC}{X:Cx}{tg iter kx vx:Expr}{ifs:List Expr}{scope:Scope}{own M:List Str}{pos:Pos}{it:TID}{g:TGD}{tt:TBD}{tk tv:TD}
def zp5(own:Nat)(g:TGD)(tt:TBD)(tk tv:TD)(rho:Rho)(P:D->Nat->Prop)(items:List D)(n1:Nat):Prop:=items.length<=sizeLine/\∃J:Nat->List Key->List D->Nat->Prop,J 0 [] [] n1 /\
 (∀i d ks es n,items[i]?=some d->J i ks es n->g d (replicate own none++rho) λrho'=>rho'.drop own=rho/\tt rho' n λc n2=>if c=true then tk rho' n2 λdk n3=>tv rho' n3 λdv n4=>∃k,keyOf dk=some k/\J (i+1) (Vg ks k) (zg8 ks es k dv) n4 else J (i+1) ks es n2) /\
 ∀ks es n,J items.length ks es n->P (.dct ks es) n
def zq0(it:TID)(own:Nat)(g:TGD)(tt:TBD)(tk tv:TD):TD:=λrho n P=>it rho n (zp5 own g tt tk tv rho P)
@[simp] theorem xl0{it own g tt tk tv rho n P}:zq0 it own g tt tk tv rho n P=it rho n (zp5 own g tt tk tv rho P):=rfl
def AmO.newDct{os n rho sg H ds vs}{ks:List Key}{es:List D}{xs:List V}{p:Addr}(I:AmO A os n rho sg H ds vs)(r:Reps A.K A.G (Zof A os) H es xs)(hp:H p=none):AmO A os n rho sg (upd H p (.dK (Yt ks xs))) (.dct ks es::ds) (.ref p::vs):=by
 have hf:∀a u,H a=some u->upd H p (.dK (Yt ks xs)) a=some u:=λa u e=>by
  rw[xX λz=>by rw[z,hp] at e;cases e];exact e
 refine⟨I.len,λi d e=>?_,?_,I.nd,λq hq=>?_,λa e=>?_,I.gz,λa u h e=>hf a u (I.fr a u h e),I.z0⟩
 ·obtain⟨v,e1,e2⟩:=I.slot i d e;exact⟨v,e1,SlotR.mono (λ_ _ z=>z) (λa u _ e=>hf a u e) (λa xs m q=>⟨m,hf a _ q⟩) _ _ e2⟩
 ·refine .cons ?_ (Reps.mono (λ_ _ z=>z) (λa u _ e=>hf a u e) _ _ I.pend);unfold Rep;refine⟨p,xs,rfl,⟨λz=>?_,wU⟩,Reps.mono (λ_ _ z=>z) (λa u _ e=>hf a u e) _ _ r⟩;exact absurd hp (I.zH p z)
 ·obtain⟨f1,f2,f3⟩:=I.fresh q hq;exact⟨f1,f2,f3.of λu e=>hf _ _ e⟩
 ·obtain⟨x,y,z,q,r⟩:=I.st a e;exact⟨x,y,z,hf _ _ q,r⟩
def ze5{sg:St}{H:Hp}{Q:VK}{m:Nat}(h:tOf A (zq0 it m g tt tk tv) sg H Q):zE0 (iOf A it) m (gOf A m g) (QN A tt) (tOf A tk) (tOf A tv) sg H Q:=by
 obtain⟨rho,n,P,ds,vs,I,ht,hQ⟩:=h;refine⟨rho,n,_,ds,vs,I,ht,λJ H' n' items es ws I1 hl hJ k=>?_⟩;obtain⟨hsz,W,w0,turn,fin⟩:=k
 refine⟨λi mm acc H=>mm=items.length-i/\i<=items.length/\∃ks accD xs n,acc=Yt ks xs/\ks.length=xs.length/\ks.length<=i/\xs.length=accD.length/\Am A n rho sg H (es++(accD++ds)) (ws++(xs++vs))/\W i ks accD n,
  ⟨items.length,rfl,xJ _,[],[],[],n',rfl,rfl,zn _,rfl,I1,w0⟩,?_⟩
 rintro i mm acc H3 ⟨rfl,hi,ks,accD,xs,n3,rfl,hkl,hai,hal,⟨os,I3⟩,w3⟩
 have hlk:(Yt ks xs).length=ks.length:=by unfold Yt;rw[wn];lia
 obtain⟨j1,j2⟩:=hJ n3 rho sg H3 (accD++ds) (xs++vs) i ⟨os,I3⟩
 by_cases hlt:i<items.length
 ·refine .inr ⟨(j1 items[i] (by simp [hlt])).1, by lia, λx H4 y => ?_⟩
  obtain⟨os4,I4⟩:=(j1 items[i] (by simp[hlt])).2 x H4 y
  refine⟨replicate m none++rho,n3,_,items[i],es++(accD++ds),ws++(xs++vs),⟨_,I4.front m⟩,turn i items[i] ks accD n3 (by simp[hlt]) w3,λrho' sg' ⟨os5,I5⟩ e5 k5=>?_⟩
  obtain⟨k5,k6⟩:=k5
  have e6:sg'.drop m=sg:=by rw[e5,yu (by simp)]
  refine⟨e6,rho',n3,_,es++(accD++ds),ws++(xs++vs),⟨os5,I5⟩,k6,λc H6 n6 ⟨os6,I6⟩ k7=>?_⟩
  cases c with
  |false=>
   obtain⟨os7,I7⟩:=I6.back k5 e6
   exact⟨items.length-(i+1),w5,rfl,hlt,ks,accD,xs,n6,rfl,hkl,w5,hal,⟨os7,I7⟩,k7⟩
  |true=>
   rw[if_pos rfl] at k7 ⊢;refine⟨rho',n6,_,es++(accD++ds),ws++(xs++vs),⟨os6,I6⟩,k7,λvk H8 n8 dk I8 k8=>?_⟩;refine⟨rho',n8,_,dk::(es++(accD++ds)),vk::(ws++(xs++vs)),I8,k8,λv H9 n9 d ⟨os9,I9⟩ k9=>?_⟩;obtain⟨kk,ek,w9⟩:=k9;obtain⟨os10,I10⟩:=I9.back k5 e6;obtain⟨I11,rv⟩:=I10.pop;obtain⟨I12,rk⟩:=I11.pop;obtain⟨I13,r1⟩:=I12.split hl;obtain⟨I14,r2⟩:=I13.split hal
   refine⟨kk,items.length-(i+1),Xr rk ek,w5,rfl,hlt,Vg ks kk,zg8 ks accD kk d,zg8 ks xs kk v,n9,zP0 kk v hkl,KW kk v hkl,?_,?_,⟨os10,(I14.join (r2.put rv kk)).join r1⟩,w9⟩
   ·have:=zY2 kk v hkl;lia
   ·rw[<- KW kk v hkl,<- KW kk d w5]
 ·have e : i = items.length := by lia
  subst e
  refine .inl ⟨j2 (zn _),w5,λD hD=>?_⟩
  obtain⟨I4,r1⟩:=I3.split hl;obtain⟨I5,r2⟩:=I4.split hal;exact hQ _ _ n3 _ ⟨os,I5.newDct r2 hD⟩ (fin ks accD n3 w3)
def zy2(ok:CompOk X scope M)(hc:X.calm=true)(hi:PID A X tg iter it)(hg:∀C s2 H2 fp,PGD A (wJ X scope own M C s2 H2 fp) own.length tg g)(ht:∀C s2 H2 fp,PTs (wJ X scope own M C s2 H2 fp) ifs (QN A tt))
  (hk:∀C s2 H2 fp,PD A (wJ X scope own M C s2 H2 fp) kx tk) (he:∀C s2 H2 fp,PD A (wJ X scope own M C s2 H2 fp) vx tv) (hs:∀x,foldedSetIterable iter X.env x=pure x:=by intro _;rfl):PD A X (.DictComp kx vx [⟨tg,iter,ifs,0⟩] scope pos) (zq0 it own.length g tt tk tv):=by exists (zy0 ok hc hi hg ht hk he hs).imp λ_ _ _=>ze5
end
def atK:List Key->List D->Key->Option D
 |k::ks,d::ds,x=>if k=x then some d else atK ks ds x
 |_,_,_=>none
def JA{K:W.Frag}{G:Option Addr}{Z:Addr->Prop}{H:Hp}:∀{ks:List Key}{ds:List D}{xs:List V}{x:Key},Reps K G Z H ds xs ->
  (∀d,atK ks ds x=some d->∃v,Yh (Yt ks xs) x=some v/\Rep K G Z H d v)/\(atK ks ds x=none->Yh (Yt ks xs) x=none)
 |[],ds,xs,x,r=>⟨λd h=>by simp[atK] at h,λ_=>rfl⟩
 |k::ks,[],xs,x,r=>by rw[r.nil_inv];exact⟨λd h=>by simp[atK] at h,λ_=>rfl⟩
 | k :: ks, e :: ds, xs, x, r => by
  obtain⟨v,rs,rfl,q,t⟩:=r.split;obtain⟨i1,i2⟩:=JA (ks:=ks) (x:=x) t;unfold atK
  by_cases c:k=x
  ·rw [if_pos c]
   exact⟨λd h=>by cases h;exact⟨v,Yx (p:=(k,v)) c,q⟩,λh=>by cases h⟩
  ·rw[if_neg c];have e2:Yh (Yt (k::ks) (v::rs)) x=Yh (Yt ks rs) x:=Yy (p:=(k,v)) c;rw[e2];exact⟨i1,i2⟩
section
variable {A:AC}{X:Cx}{a b:Expr}{ta tb:TD}{pos:Pos}
def rDx:R2:=λx y H Q=>∃a v,x=.ref a/\DGet H a y (some v)/\Q v H
def xh1:RD2:=λd1 d2 k=>∃ks ds x d,d1=.dct ks ds/\keyOf d2=some x/\atK ks ds x=some d/\k d
@[simp] theorem xr5{ks ds x k}:xh1 (.dct ks ds) (.int x) k↔∃d,atK ks ds (Sum.inl x)=some d/\k d:=⟨fun⟨_,_,_,d,e,e',h⟩=>by cases e;cases e';exact⟨d,h⟩,fun⟨d,h⟩=>⟨_,_,_,d,rfl,rfl,h⟩⟩
def xo0:kZ A rDx xh1:=by
 rintro os n rho sg H ds vs d1 d2 v1 v2 k Q I ⟨ks,es,x,d,rfl,hk,hx,q⟩ hQ;obtain⟨I1,r2⟩:=I.pop;obtain⟨I2,r1⟩:=I1.pop;have e2:=Xr r2 hk;subst e2;unfold Rep at r1;obtain⟨a,xs,rfl,⟨hz,hH⟩,rs⟩:=r1;obtain⟨v,hv,rv⟩:=(JA rs).1 d hx
 exact⟨a,v,rfl,by rw[<- hv];exact DGet.k hH,hQ _ _ _ ⟨os,I2.push rv⟩ q⟩
def zZ9(hu:X.A.units+1<cLine)(ha:PD A X a ta)(hb:PD A X b tb)(hs:xg6 b):PD A X (.Subscript a b pos) (dOp xh1 ta tb):=by exists (zL8 hu ha hb hs).imp λ_ _ _=>Uc (r:=rDx) xo0
def xA7(neg:Bool):R2:=λy x H Q=>∃a o,x=.ref a/\DGet H a y o/\Q (.bl (o.isSome != neg)) H
def zj1(hu:X.A.units+1<cLine):OpR X (compareOp .NotIn) (xA7 true):=by
 intro pins s σ H x y v u Q I rx ry h;obtain⟨a,o,rfl,g,q⟩:=h;cases(show u=Value.ref a from ry)
 exact zR2 hu I g rx λs' I'=>⟨.bl (o.isSome != true),H,I',by simp;rfl,q⟩
def zW4(neg:Bool):RD2:=λd1 d2 k=>∃ks ds x,d2=.dct ks ds/\keyOf d1=some x/\k (.bl ((atK ks ds x).isSome != neg))
@[simp] theorem xi4{neg ks ds x k}:zW4 neg (.int x) (.dct ks ds) k↔k (.bl ((atK ks ds (Sum.inl x)).isSome != neg)):=⟨fun⟨_,_,_,e,e',h⟩=>by cases e;cases e';exact h,λh=>⟨_,_,_,rfl,rfl,h⟩⟩
def zV7{neg:Bool}:kZ A (xA7 neg) (zW4 neg):=by
 rintro os n rho sg H ds vs d1 d2 v1 v2 k Q I ⟨ks,es,x,rfl,hk,q⟩ hQ;obtain⟨I1,r2⟩:=I.pop;obtain⟨I2,r1⟩:=I1.pop;have e2:=Xr r1 hk;subst e2;unfold Rep at r2;obtain⟨a,xs,rfl,⟨hz,hH⟩,rs⟩:=r2;obtain⟨g1,g2⟩:=JA (ks:=ks) (x:=x) rs;refine⟨a,Yh (Yt ks xs) x,rfl,DGet.k hH,?_⟩
 have e3:(Yh (Yt ks xs) x).isSome=(atK ks es x).isSome:=by
  cases e:atK ks es x with
  |none=>rw[g2 e];rfl
  |some d=>obtain⟨v,hv,_⟩:=g1 d e;rw[hv];rfl
 rw[e3];exact hQ _ _ _ ⟨os,I2.push (Rep.ofS (d:=.bl _) rfl)⟩ q
def xI3(i:Nat)(g:TGD):TSD:=λF rho n=>∃es d,rho[i]?=some (some (.own (es++[d])))/\g d (rho.set i (some (.own es))) λrho'=>F.nx rho' n
@[simp] theorem xB4{i g F rho n}:xI3 i g F rho n=∃es d,rho[i]?=some (some (.own (es++[d])))/\g d (rho.set i (some (.own es))) λrho'=>F.nx rho' n:=rfl
def xn7:TSD:=λF rho n=>F.ct rho n
@[simp] theorem xq5{F rho n}:xn7 F rho n=F.ct rho n:=rfl
def zU8(i:Nat)(tc:TBD)(t u:TAD):TSD:=λF rho n=>i<rho.length/\tc rho n λc n0=>if c=true then t rho n0 (λes n1=>es.length<=sizeLine/\F.nx (rho.set i (some (.own es))) n1) else u rho n0 λes n1=>es.length<=sizeLine/\F.nx (rho.set i (some (.own es))) n1
@[simp] theorem xh6{i tc t u F rho n}:zU8 i tc t u F rho n=(i<rho.length/\tc rho n λc n0=>if c=true then t rho n0 (λes n1=>es.length<=sizeLine/\F.nx (rho.set i (some (.own es))) n1) else u rho n0 λes n1=>es.length<=sizeLine/\F.nx (rho.set i (some (.own es))) n1):=rfl
end
section
variable {X:Cx}{A:AC}
def zG4:D->Bool
 |.tup _=>true
 |.lst _=>true
 |_=>false
def xx6:List D->(D->Prop)->Prop:=λes k=>∃d,es=[d,.tup [.ty "tuple",.ty "list"]]/\VF d=true/\k (.bl (zG4 d))
@[simp] theorem xt9{d k}:xx6 [d,.tup [.ty "tuple",.ty "list"]] k↔(VF d=true/\k (.bl (zG4 d))):=⟨fun⟨_,e,h⟩=>by cases e;exact h,λh=>⟨_,rfl,h⟩⟩
def zc4{n:Nat}(hr:Room n X.A):kG X (.builtin "repr") (λxs H Q=>∃(y:V) (p:PyData),xs=[y]/\zs8 X H y p/\p.showable=true/\p.hasDict=false/\p.depth<=20/\p.shown.length<=sizeLine/\Q (.str p.shown) H):=by
 intro pins s σ H xs us Q I r h;obtain⟨y,p,rfl,hv,h1,h2,h3,h4,q⟩:=h;obtain⟨u,rfl,hu⟩:=ZD r;obtain⟨a,as,rfl,rd⟩:=hv pins s σ u I hu;have:=hr.un
 exact repr_of_reads' rd h1 (PyData.noDict_hsm h2) hr.gd w5 (λ_ _ e=>e) (λh' u tk k=>⟨.str p.shown,H,I.kept k,⟨_,rfl⟩,q⟩) h4
structure Blt3(mg:Str->Option Value):Prop where
 repr:mg "repr" = none
 dict:mg "dict" = none
def zr6:bootBuiltins "repr" = some (.builtin "repr"):=x6
end
section
variable {A:AC}{X:Cx}{a b c:Expr}{ta tb tc:TD}{pos:Pos}
end
def Qj(rho:Rho):Bool:=rho.all λo=>match o with
 |some d=>xZ d
 |none=>true
def zk7{rho:Rho}{i:Nat}{d:D}(h:Qj rho=true)(e:rho[i]?=some (some d)):xZ d=true:=by
 have:=wQ.mp h _ (zN e);exact this
def zU5(i j:Nat)(tb:TD):TSD:=λF rho n=>i<rho.length/\j<rho.length/\Qj rho=true/\tb rho n λd n1=>F.nx ((rho.set i (some (.own []))).set j (some d)) n1
@[simp] theorem xq1{i j tb F rho n}:zU5 i j tb F rho n=(i<rho.length/\j<rho.length/\Qj rho=true/\tb rho n λd n1=>F.nx ((rho.set i (some (.own []))).set j (some d)) n1):=rfl
section
variable {A:AC}{X:Cx}{b:Expr}{tb:TD}{pos:Pos}
def AmO.still{os n rho sg H ds vs}{H1:Hp}{Z:Addr->Prop}(I:AmO A os n rho sg H ds vs)(ho:Qj rho=true)(hH:∀a o,H a=some o->H1 a=some o)(hz:∀a,H a≠none->Z a->Zof A os a)(hz1:∀a,Z a->Hot (H1 a))(hg:∀a,A.G=some a->Z a) :
  AmO ⟨A.K,A.G,Z,H1⟩ [] n rho sg H1 [] []:=by
 have hz':∀a,H a≠none->Zof ⟨A.K,A.G,Z,H1⟩ [] a->Zof A os a:=λa h z=>by
  rcases z with z |⟨p,hp,_⟩
  ·exact hz a h z
  ·simp at hp
 refine⟨I.len,λi d e=>?_,.nil,.nil,λp hp=>by simp at hp,λa e=>?_,hg,λa o _ e=>e,⟨hz1,λP q t=>⟨hH P _ (I.zO.2 P q t).1,(I.zO.2 P q t).2⟩⟩⟩
 ·obtain ⟨v, e1, e2⟩ := I.slot i d e;have hd:=zk7 ho e;have r:=Rep.mono (K:=A.K) (G:=A.G) hz' (λa o _ e=>hH a o e) _ _ (e2.rep hd);refine⟨v,e1,?_⟩
  cases d<;>first |exact r |(simp[xZ] at hd;done)
 ·obtain⟨zs,u1,u2,q,r⟩:=I.st a e;exact⟨zs,u1,u2,hH a _ q,r⟩
def AmO.setOwnX{os:List (Nat × Addr)}{n:Nat}{rho:Rho}{sg:St}{H:Hp}{ds es:List D}{vs xs:List V}{i:Nat}{p:Addr}(I:AmO A os n rho sg H ds vs)(hi:i<rho.length)(hp:H p=none)(r:Reps A.K A.G (Zof A os) H es xs) :
  AmO A ((i,p)::os.filter λq=>decide (q.1≠i)) n (rho.set i (some (.own es))) (sg.set i (some (.ref p))) (upd H p (.lst xs)) ds vs:=by
 have hf:∀a u,H a=some u->upd H p (.lst xs) a=some u:=λa u e=>by rw[xX (wW e hp)];exact e
 have zz:∀a,H a≠none->Zof A ((i,p)::os.filter λq=>decide (q.1≠i)) a->Zof A os a:=λa ha z=>by
  rcases z with z |⟨q,hq,e⟩
  ·exact .inl z
  ·rcases zj.mp hq with rfl | hq
   ·exact absurd (by rw[<- e];exact hp) ha
   ·exact .inr ⟨q,(zx.mp hq).1,e⟩
 have h0:A.H0 p=none:=by
  cases q:A.H0 p with
  |none=>rfl
  |some o=>
   by_cases e:A.G=some p
   ·obtain⟨x,y,z,w,_⟩:=I.st p e;rw[w] at hp;cases hp
   ·have:=I.fr p o e q;rw[this] at hp;cases hp
 refine⟨by simp[I.len],λj c e=>?_,Reps.mono zz (λa u _ e=>hf a u e) _ _ I.pend,?_,λq hq=>?_,λa e=>?_,I.gz,λa u h e=>hf a u (I.fr a u h e),I.z0⟩
 ·by_cases hj : j = i
  ·subst hj;rw[zQ hi] at e;cases e
   exact⟨.ref p,zQ (by rw[<- I.len];exact hi),p,xs,rfl,zP,wU,Reps.mono zz (λa u _ e=>hf a u e) _ _ r⟩
  ·rw [zY (Ne.symm hj)] at e;obtain⟨u,e1,e2⟩:=I.slot j c e
   exact⟨u,by rw[zY (Ne.symm hj)];exact e1,SlotR.mono zz (λa u _ e=>hf a u e) (λa ys m q=>⟨zk _ (zx.mpr ⟨m,by simpa using hj⟩),hf a _ q⟩) _ _ e2⟩
 ·refine xC.mpr ⟨λq hq => ?_, I.nd.filter _⟩;obtain⟨m1,m2⟩:=zx.mp hq
  refine⟨λz=>by simp[<- z] at m2,λz=>(I.fresh q m1).2.2.ne ?_⟩
  have z':p=q.2:=z;rw[<- z'];exact hp
 ·rcases zj.mp hq with rfl | hq
  ·exact⟨h0,λz=>(I.z0.1 p z).ne h0,by show Hot (upd H p _ p);rw[wU];exact Hot.lst⟩
  ·obtain⟨f1,f2,f3⟩:=I.fresh q (zx.mp hq).1;exact⟨f1,f2,f3.of λu w=>hf _ _ w⟩
 ·obtain⟨x,y,z,q,rr⟩:=I.st a e;exact⟨x,y,z,hf _ _ q,rr⟩
def zx0{i j:Nat}{x y:Str}{px py pt pl:Pos}{kt k2 pt2}(hc:X.calm=true)(hN:X.N.Nodup)(hi:X.N[i]?=some x)(hj:X.N[j]?=some y)(hij:i≠j)
  (hx:X.env.scope.names.lookup x=some .local) (hy:X.env.scope.names.lookup y=some .local) (hb:∀(Z:Addr->Prop) (H0:Hp),PD ⟨A.K,A.G,Z,H0⟩ X b tb)
  (hk:X.env.blockKind=.function:=by rfl) (hl:py.line=px.line:=by rfl) (hxy:x≠y:=by decide) (hsb:vI b=false:=by rfl) (hf:[Expr.List [] pl,b].all (foldedForSure 8)=false:=by decide +kernel) (hca:[Expr.List [] pl,b].all (constantsAlone 8)=false:=by decide +kernel) :
  PSD A X (.Assign [.Tuple [.Name x px,.Name y py] kt pt] (.Tuple [.List [] pl,b] k2 pt2) pos) (zU5 i j tb):=by
 exists (by
   have hb':PE X b (λsg H Q=>∃Z H0,tOf ⟨A.K,A.G,Z,H0⟩ tb sg H Q):=λpins s sg H Q I q=>by
    obtain⟨Z,H0,q⟩:=q;exact hb Z H0 pins s sg H Q I q
   refine(zE7 hc hN hi hj hij hx hy (qD (Uv Zu) (qD hb' Zu (sE hsb)) (sE rfl)) (JR hk hx hy hl hxy rfl hsb hf hca) rfl).imp λE sg H h=>?_;obtain⟨rho,n,F,ds,vs,⟨os,I⟩,⟨hil,hjl,ho,ht⟩,ok⟩:=h;refine⟨xJ _,λp hp=>?_⟩;have I1:=I.setOwnX (es:=[]) (xs:=[]) hil hp .nil
   have hH:∀a o,H a=some o->upd H p (.lst []) a=some o:=λa o e=>by rw[xX (wW e hp)];exact e
   refine⟨λa=>Zof A os a\/a=p,upd H p (.lst []),rho,n,_,[],[],⟨[],I.still ho hH (λa h z=>?_) (λa z=>?_) (λa e=>.inl (.inl (I.gz a e)))⟩,ht,λv H2 n2 d ⟨os2,J⟩ k=>?_⟩
   ·rcases z with z | rfl
    ·exact z
    ·exact absurd hp h
   ·rcases z with z | rfl
    ·exact(I.zHot a z).of λo e=>hH a o e
    ·rw[wU];exact Hot.lst
   ·obtain ⟨J1, r⟩ := J.pop;have C:=I1.called (n':=n2) (H':=H2) (λa o g e=>J1.fr a o g e) J1.st
    refine⟨_,_,rfl,ok.nx _ _ _ _ ⟨_,(C.push (d:=d) (v:=v) ?_).set (by simpa using hjl)⟩ k⟩
    refine Rep.mono (K:=A.K) (G:=A.G) (λa h z=>?_) (λa o _ e=>e) _ _ r
    rcases z with z |⟨q,hq,e⟩
    ·exact .inl (.inl (.inl z))
    ·rcases zj.mp hq with rfl | hq
     ·exact .inl (.inr e.symm)
     ·exact .inl (.inl (.inr ⟨q,(zx.mp hq).1,e⟩)))
end
end L2
namespace L2
open PySem PySem.Spec PyProof.Rows PySem.SeqAt
section
variable {A:AC}{X:Cx}{a b c e:Expr}{ta tb tc te:TD}{pos:Pos}
def xA3(K:W.Frag):R2:=λx y H Q=>∃p q xs,x=.ref p/\y=.ref q/\SqT K H p xs/\SqT K H q []/\Q (.bl xs.isEmpty) H
def xa0{n:Nat}(hr:Room n X.A):OpR X (compareOp .Eq) (xA3 X.K):=by
 intro pins s σ H x y v u Q I rx ry h;obtain⟨p,q,xs,rfl,rfl,sq,sq',k⟩:=h;cases rx;cases ry;obtain⟨its,rv,pl,hz⟩:=I.tuple sq;obtain⟨its',rv',pl',hz'⟩:=I.tuple sq';cases rv';have hu:=hr.units
 have R:=RcAt.tuples (A:=X.A) (e:=λ_=>true) (show s.heap.IsTuple p its.toArray from pl) (show s.heap.IsTuple q #[] from pl') w5 (λj l1 l2=>absurd l2 (by simp))
 have ev:((List.range (min its.toArray.size (#[]:Array Value).size)).all (λ_=>true)&&its.toArray.size == (#[]:Array Value).size)=xs.isEmpty:=by
  have hl:=rv.length
  cases xs with
  |nil=>cases its with
   |nil=>rfl
   |cons _ _=>simp at hl
  |cons _ _=>cases its with
   |nil=>simp at hl
   |cons _ _=>simp
 exact(rcC R ev) X.prog X.w X.xe _ ⟨.bl xs.isEmpty,H,I,rfl,k⟩
def zV9:RD2:=λd1 d2 k=>KG d1 λes=>d2=.tup []/\k (.bl es.isEmpty)
@[simp] theorem xq7{d1 d2 k}:zV9 d1 d2 k=KG d1 λes=>d2=.tup []/\k (.bl es.isEmpty):=rfl
def zV6:kZ A (xA3 A.K) zV9:=by
 rintro os n rho sg H ds vs d1 d2 v1 v2 k Q I ⟨es,rfl,rfl,q⟩ hQ;obtain⟨I1,r2⟩:=I.pop;obtain⟨I2,r1⟩:=I1.pop;obtain⟨a,xs,rfl,sq,rs⟩:=r1.tup_inv;obtain⟨b,ys,rfl,sq',rs'⟩:=r2.tup_inv;have e:=rs'.nil_inv;subst e;have hl:=rs.length
 have ee:xs.isEmpty=es.isEmpty:=by cases xs<;>cases es<;>first |rfl |(simp at hl;done)
 exact⟨a,b,xs,rfl,rfl,sq.sq,sq'.sq,by rw[ee];exact hQ _ H _ ⟨os,I2.push (Rep.ofS rfl)⟩ q⟩
def zW1:RD2:=λd1 d2 k=>∃es i,d1=.lst es/\d2=.int i/\0<=i/\i<1000/\es.length*i.toNat<=sizeLine/\k (.lst (replicate i.toNat es).flatten)
@[simp] theorem xh9{es i k}:zW1 (.lst es) (.int i) k↔(0<=i/\i<1000/\es.length*i.toNat<=sizeLine/\k (.lst (replicate i.toNat es).flatten)):=⟨fun⟨_,_,e,e',h⟩=>by cases e;cases e';exact h,λh=>⟨_,_,rfl,rfl,h⟩⟩
def zS2(es:List D)(k:List D->Prop):Prop:=∃fs,(es=[.lst fs]\/es=[.tup fs])/\k fs
@[simp] theorem xp6{fs:List D}{k}:zS2 [.lst fs] k↔k fs:=⟨fun⟨_,e,h⟩=>by rcases e with e |e<;>cases e;exact h,λh=>⟨_,.inl rfl,h⟩⟩
@[simp] theorem xp5{fs:List D}{k}:zS2 [.tup fs] k↔k fs:=⟨fun⟨_,e,h⟩=>by rcases e with e |e<;>cases e;exact h,λh=>⟨_,.inr rfl,h⟩⟩
def zV1(i:Nat)(t:TAD):TSD:=λF rho n=>i<rho.length/\t rho n λes n1=>zS2 es λfs=>F.nx (rho.set i (some (.own fs))) n1
@[simp] theorem xh7{i t F rho n}:zV1 i t F rho n=(i<rho.length/\t rho n λes n1=>zS2 es λfs=>F.nx (rho.set i (some (.own fs))) n1):=rfl
end
mutual
def vw:D->PyData
 |.bl b=>.bool b
 |.int i=>.int i
 |.str x=>.str x
 |.tup ds=>.tuple (vL ds)
 |.lst ds=>.list (vL ds)
 |_=>.none
def vL:List D->List PyData
 |[]=>[]
 |d::ds=>vw d::vL ds
end
mutual
def okR:D->Nat->Bool
 |.non,_=>true
 |.bl _,_=>true
 |.int i,_=>decide (i.natAbs.log2<1920)
 |.str x,_=>decide ((reprText x).length<=2000)
 |.tup ds,k=>match k with
  |0=>false
  |k+1=>zz3 ds k
 |.lst ds,k=>match k with
  |0=>false
  |k+1=>zz3 ds k
 |_,_=>false
def zz3:List D->Nat->Bool
 |[],_=>true
 |d::ds,k=>okR d k&&zz3 ds k
end
mutual
def Vu:D->Nat
 |.tup ds=>jD ds+1
 |.lst ds=>jD ds+1
 |_=>1
def jD:List D->Nat
 |[]=>0
 |d::ds=>Vu d+jD ds
end
def KK(d:D):Str:=(vw d).shown
theorem jw:∀{ds:List D}{k:Nat},zz3 ds k=true↔∀d∈ds,okR d k=true
 |[],k=>by unfold zz3;simp
 |d::ds,k=>by
  unfold zz3;rw[zD,jw];simp
def Vs{ds:List D}{k:Nat}:okR (.tup ds) (k+1)=true↔∀d∈ds,okR d k=true:=by
 have e:okR (.tup ds) (k+1)=zz3 ds k:=by rw[okR]
 rw[e,jw]
theorem nodRs_le:∀{ds:List D}{b:Nat},(∀d∈ds,Vu d<=b)->jD ds<=ds.length*b
 |[],b,_=>by unfold jD;simp
 |d::ds,b,h=>by
  unfold jD;have h1:=h d (zP ..);have h2:=nodRs_le (ds:=ds) λe he=>h e (zk _ he);rw[zG,Nat.add_mul];lia
structure ShownA(d:D)(k:Nat):Prop where
 show1:(vw d).showable=true
 dict:(vw d).hasDict=false
 deep:(vw d).depth<=k
 len:(vw d).shown.length+3<=2005*Vu d
structure ShownAs(ds:List D)(k:Nat):Prop where
 show1:PyData.showableAll (vL ds)=true
 dict:PyData.hasDictAll (vL ds)=false
 deep:PyData.depthAll (vL ds)<=k
 len:((PyData.shownAll (vL ds)).map (·.length)).sum+2*(PyData.shownAll (vL ds)).length<=2005*jD ds
mutual
theorem Ui:∀(d:D) (k:Nat),okR d k=true->ShownA d k
 |.non,k,h=>⟨by unfold vw PyData.showable;rfl,by unfold vw PyData.hasDict;rfl,by unfold vw PyData.depth;lia,by unfold vw PyData.shown Vu;decide +kernel⟩
 |.bl b,k,h=>⟨by unfold vw PyData.showable;rfl,by unfold vw PyData.hasDict;rfl,by unfold vw PyData.depth;lia,by unfold vw PyData.shown Vu;cases b<;>decide +kernel⟩
 |.int i,k,h=>by
  have h':i.natAbs.log2<1920:=of_decide_eq_true (by unfold okR at h;exact h)
  refine⟨by unfold vw PyData.showable;exact xt h',by unfold vw PyData.hasDict;rfl,by unfold vw PyData.depth;lia,?_⟩
  have e:=int_text_length_le (k:=1920) w6 h'
  unfold vw PyData.shown Vu;rw[PySem.ofString_length];lia
 |.str x,k,h=>by
  have h':(reprText x).length<=2000:=of_decide_eq_true (by unfold okR at h;exact h)
  refine⟨by unfold vw PyData.showable;rfl,by unfold vw PyData.hasDict;rfl,by unfold vw PyData.depth;lia,?_⟩
  unfold vw PyData.shown Vu;lia
 |.tup ds,0,h=>by simp[okR] at h
 |.tup ds,k+1,h=>by
  have S:=ZG ds k (by simpa [okR] using h)
  have L:=tupleText_len_le (PyData.shownAll (vL ds))
  refine⟨by unfold vw PyData.showable;exact S.show1,by unfold vw PyData.hasDict;exact S.dict,by unfold vw PyData.depth;have:=S.deep;lia,?_⟩
  unfold vw PyData.shown Vu;have:=S.len;lia
 |.lst ds,0,h=>by simp[okR] at h
 |.lst ds,k+1,h=>by
  have S:=ZG ds k (by simpa [okR] using h)
  have L:=listText_len_le (PyData.shownAll (vL ds))
  refine⟨by unfold vw PyData.showable;exact S.show1,by unfold vw PyData.hasDict;exact S.dict,by unfold vw PyData.depth;have:=S.deep;lia,?_⟩
  unfold vw PyData.shown Vu;have:=S.len;lia
 |.ty _,k,h=>by simp[okR] at h
 |.fz _,k,h=>by simp[okR] at h
 |.st,k,h=>by simp[okR] at h
 |.own _,k,h=>by simp[okR] at h
 |.owT _ _,k,h=>by simp[okR] at h
 |.prT _,k,h=>by simp[okR] at h
 |.dic,k,h=>by simp[okR] at h
 |.dct _ _,k,h=>by simp[okR] at h
theorem ZG:∀(ds:List D) (k:Nat),zz3 ds k=true->ShownAs ds k
 |[],k,_=>⟨by unfold vL PyData.showableAll;rfl,by unfold vL PyData.hasDictAll;rfl,by unfold vL PyData.depthAll;lia,by unfold vL PyData.shownAll jD;simp⟩
 |d::ds,k,h=>by
  have h':=jw.mp h;have S:=Ui d k (h' d zP);have T:=ZG ds k (jw.mpr λe he=>h' e (zk _ he))
  refine⟨by unfold vL PyData.showableAll;rw[S.show1,T.show1];rfl,by unfold vL PyData.hasDictAll;rw[S.dict,T.dict];rfl,by unfold vL PyData.depthAll;have:=S.deep;have:=T.deep;lia,?_⟩
  unfold vL PyData.shownAll jD;have:=S.len;have:=T.len;simp only[zJ,sum_cons,zG];lia
end
section
variable {X:Cx}{pins:List (Addr × Obj)}{σ:St}{H:Hp}{s:Shared}{G:Option Addr}{Z:Addr->Prop}
mutual
theorem Us(I:Inv X pins σ H s):∀(d:D) (k:Nat) (v:V) (u:Value),okR d k=true->Rep X.K G Z H d v->RelV v u->∃as,Reads s.heap u (vw d) as
 |.non,k,v,u,_,r,q=>by
  have e:v=.non:=r.toS rfl;subst e;cases q;unfold vw;exact⟨_,.none⟩
 |.bl b,k,v,u,_,r,q=>by
  have e:v=.bl b:=r.toS rfl;subst e;cases q;unfold vw;exact⟨_,.bool b⟩
 |.int i,k,v,u,_,r,q=>by
  have e:=r.int_inv;subst e;obtain⟨t,rfl⟩:=q;unfold vw;exact⟨_,.int i t⟩
 |.str x,k,v,u,_,r,q=>by
  have e:v=.str x:=r.toS rfl;subst e;obtain⟨t,rfl⟩:=q;unfold vw;exact⟨_,.str x t⟩
 |.tup ds,0,v,u,h,_,_=>by simp[okR] at h
 |.tup ds,k+1,v,u,h,r,q=>by
  obtain⟨a,xs,rfl,sq,rs⟩:=r.tup_inv;have e:u=.ref a:=q;subst e;obtain⟨its,rv,⟨o,ho,hc,n,hd⟩,_⟩:=I.tuple sq.sq
  obtain⟨as,ra⟩:=ZO I ds k xs its (by simpa [okR] using h) rs rv
  unfold vw
  exact⟨as,.tuple ho hc hd (by simpa using ra)⟩
 |.lst ds,0,v,u,h,_,_=>by simp[okR] at h
 |.lst ds,k+1,v,u,h,r,q=>by
  obtain⟨a,xs,rfl,sq,rs⟩:=r.lst_inv;have e:u=.ref a:=q;subst e;obtain⟨its,rv,pl,_⟩:=I.list sq.sq;obtain⟨o,ho,hc,n,hd⟩:=pl.isList
  obtain⟨as,ra⟩:=ZO I ds k xs its (by simpa [okR] using h) rs rv
  unfold vw
  exact⟨_,.list ho hc hd (by simpa using ra)⟩
 |.ty _,k,v,u,h,_,_=>by simp[okR] at h
 |.fz _,k,v,u,h,_,_=>by simp[okR] at h
 |.st,k,v,u,h,_,_=>by simp[okR] at h
 |.own _,k,v,u,h,_,_=>by simp[okR] at h
 |.owT _ _,k,v,u,h,_,_=>by simp[okR] at h
 |.prT _,k,v,u,h,_,_=>by simp[okR] at h
 |.dic,k,v,u,h,_,_=>by simp[okR] at h
 |.dct _ _,k,v,u,h,_,_=>by simp[okR] at h
theorem ZO(I:Inv X pins σ H s):∀(ds:List D) (k:Nat) (vs:List V) (us:List Value),zz3 ds k=true->Reps X.K G Z H ds vs->Vals vs us->∃as,ReadsAll s.heap us (vL ds) as
 |[],k,vs,us,_,r,q=>by
  have e:=r.nil_inv;subst e;cases q;unfold vL;exact⟨_,.nil⟩
 | d :: ds, k, vs, us, h, r, q => by
  have h':=jw.mp h;obtain⟨v,xs,rfl,r1,r2⟩:=r.split
  cases q with
  |cons q1 q2=>
   obtain⟨as,ra⟩:=Us I d k v _ (h' d zP) r1 q1;obtain⟨bs,rb⟩:=ZO I ds k xs _ (jw.mpr λe he=>h' e (zk _ he)) r2 q2;unfold vL;exact⟨_,.cons ra rb⟩
end
end
def xx3:List D->(D->Prop)->Prop:=λes k=>∃d,es=[d]/\zG4 d=true/\okR d 15=true/\Vu d<=8000/\k (.str (KK d))
@[simp] theorem xt2{d k}:xx3 [d] k↔(zG4 d=true/\okR d 15=true/\Vu d<=8000/\k (.str (KK d))):=⟨fun⟨_,e,h⟩=>by cases e;exact h,λh=>⟨_,rfl,h⟩⟩
end L2
namespace L2
def zu9(es:List D)(e d:D)(k:List D->Prop):Prop:=∃j m,e=.int j/\ixN es.length j=some m/\k (es.set m d)
def zv3(i:Nat)(ta:TAD)(tb1 tb2:TD):TSD:=λF rho n=>Zc rho[i]? λes=>ta rho n λcs n1=>QX cs λd1 d2=>tb1 rho n1 λe1 n2=>zu9 es e1 d1 λes1=>
 tb2 (rho.set i (some (.own es1))) n2 λe2 n3=>zu9 es1 e2 d2 λes2=>F.nx (rho.set i (some (.own es2))) n3
@[simp] theorem zS4{i ta tb1 tb2 F rho n}:zv3 i ta tb1 tb2 F rho n=Zc rho[i]? λes=>ta rho n λcs n1=>QX cs λd1 d2=>tb1 rho n1 λe1 n2=>zu9 es e1 d1 λes1=>
 tb2 (rho.set i (some (.own es1))) n2 λe2 n3=>zu9 es1 e2 d2 λes2=>F.nx (rho.set i (some (.own es2))) n3:=rfl
section
variable {A:AC}{X:Cx}{a1 a2 b1 b2:Expr}{ta:TAD}{tb1 tb2:TD}{pos:Pos}
end
end L2
namespace PySem
open PySem.Sem (wp)
namespace F
end F
section
variable {prog:Program}{w:World}{K:Type} [DecidableEq K] {knd:KeyKind prog w K}{A:Around}{R:Result->Shared->Prop}
end
section
variable {prog:Program}{w:World}{K:Type} [DecidableEq K] {knd:KeyKind prog w K}{A:Around}{E:Value->Shared->Prop}{s:Shared}
end
end PySem
namespace L2
section
variable {X:Cx}{A:AC}
end
end L2
namespace L2
open PySem PySem.Spec PyProof.Rows PySem.SeqAt
section
variable {A:AC}{X:Cx}
def zT2(d:D)(k:List (List D)->Prop):Prop:=∃ess:List (List D),d=.tup (ess.map D.tup)/\k ess
def xo1:RD2:=λd1 d2 k=>d1=.tup []/\zT2 d2 λess=>k (.bl (ess.any List.isEmpty))
@[simp] theorem xi2{a b k}:xo1 (.tup []) (.tup [.tup a,.tup b]) k ↔ k (.bl (a.isEmpty || b.isEmpty)):=by
 constructor
 ·rintro ⟨_, ess, e, h⟩
  have:ess=[a,b]:=by
   have e':=D.tup.inj e
   match ess,e' with
   |[x,y],e'=>simp at e';rw[e'.1,e'.2]
   |[],e'=>simp at e'
   |[x],e'=>simp at e'
   |x::y::z::r,e'=>simp at e'
  subst this
  simpa using h
 ·intro h
  exact⟨rfl,[a,b],rfl,by simpa using h⟩
def zL9{pos:Pos}:PE X (.Dict [] [] pos) (λ_ H Q=>∀p,H p=none->Q (.ref p) (upd H p (.dK []))):=λpins s σ H Q I h=>
 wpAny_Dict_empty ⟨.ref s.heap.objs.size,_,I.laid (a:=s.heap.objs.size) (o:=.dK []) (t':=s.toks) (λ_ _ q=>ze _ q) (zn _) (xf2 s.heap (xg1 I)),rfl,h _ (I.hok.fresh (zn _))⟩
def zM4{pos:Pos}:PD A X (.Dict [] [] pos) (dC (.dct [] [])):=by
 exists zL9.imp λsg H Q h=>by
   obtain⟨rho,n,P,ds,vs,⟨os,I⟩,q,hQ⟩:=h;exact λp hp=>hQ _ _ n _ ⟨os,I.newDct (ks:=[]) (es:=[]) (xs:=[]) .nil hp⟩ q
end
mutual
def okN:D->Nat->Bool
 |.non,_=>true
 |.int i,_=>decide (i.natAbs.log2<20)
 |.tup ds,k=>match k with
  |0=>false
  |k+1=>xF3 ds k
 |_,_=>false
def xF3:List D->Nat->Bool
 |[],_=>true
 |d::ds,k=>okN d k&&xF3 ds k
end
def xx2:List D->(D->Prop)->Prop:=λes k=>∃ds,es=[.tup ds]/\okN (.tup ds) 20=true/\Vu (.tup ds)<=400000/\k (.str (KK (.tup ds)))
@[simp] theorem xt1{ds k}:xx2 [.tup ds] k↔(okN (.tup ds) 20=true/\Vu (.tup ds)<=400000/\k (.str (KK (.tup ds)))):=⟨fun⟨_,e,h⟩=>by cases e;exact h,λh=>⟨_,rfl,h⟩⟩
end L2
namespace L2
section
variable {A:AC}
def xx7:List D->(D->Prop)->Prop:=λes k=>∃i:Int,es=[.int i]/\k (.bl (i != 0))
@[simp] theorem xu1{i:Int}{k}:xx7 [.int i] k↔k (.bl (i != 0)):=⟨fun⟨_,e,h⟩=>by cases e;exact h,λh=>⟨_,rfl,h⟩⟩
end
section
variable {A:AC}{X:Cx}{pos:Pos}{m:Nat}
def xy1(k:Nat)(gs:zD5):TGD:=λd rho P=>∃es,d=.lst es/\es.length=k/\gs es rho P
@[simp] theorem xu8{k gs es rho P}:xy1 k gs (.lst es) rho P↔(es.length=k/\gs es rho P):=⟨fun⟨_,e,h⟩=>by cases e;exact h,λh=>⟨_,rfl,h⟩⟩
end
section
variable {A:AC}{X:Cx}
def zc5{n:Nat}(hr:Room n X.A):kG X (.builtin "repr") (λxs H Q=>(xs=[.non]/\Q (.str "None") H)\/∃(y:V) (p:PyData),xs=[y]/\zs8 X H y p/\p.showable=true/\p.hasDict=false/\p.depth<=20/\p.shown.length<=sizeLine/\Q (.str p.shown) H):=by
 intro pins s σ H xs us Q I r h
 rcases h with ⟨rfl,q⟩ |h
 ·obtain⟨u,rfl,hu⟩:=ZD r;have e:u=.none:=hu;subst e;exact PySem.P.repr_of_none ⟨.str "None",H,I.tok _,⟨_,rfl⟩,q⟩
 ·exact zc4 hr pins s σ H xs us Q I r h
def zf1:D->Str
 |.non => "None"
 |d=>KK d
def xw8(d:D):Prop:=d=.non\/(zG4 d=true/\okR d 20=true/\Vu d<=8000)
def zG0:List D->(D->Prop)->Prop:=λes k=>∃d,es=[d]/\xw8 d/\k (.str (zf1 d))
@[simp] theorem xj5{d k}:zG0 [d] k↔(xw8 d/\k (.str (zf1 d))):=⟨fun⟨_,e,h⟩=>by cases e;exact h,λh=>⟨_,rfl,h⟩⟩
def zC9(hK:X.K=A.K):vo A (λxs H Q=>(xs=[.non]/\Q (.str "None") H)\/∃(y:V) (p:PyData),xs=[y]/\zs8 X H y p/\p.showable=true/\p.hasDict=false/\p.depth<=20/\p.shown.length<=sizeLine/\Q (.str p.shown) H) zG0:=by
 rintro os n rho sg H ds vs es ws k Q I rs ⟨d,rfl,h |⟨h1,h2,h3⟩,q⟩ hQ
 ·subst h;obtain⟨v,rfl,r⟩:=kL rs;have e:v=.non:=r.toS rfl;subst e;exact .inl ⟨rfl,hQ _ H _ ⟨os,I.push (Rep.ofS (d:=.str "None") rfl)⟩ q⟩
 ·obtain ⟨v, rfl, r⟩ := kL rs;have S:=Ui _ _ h2;have:=S.len;rw[<- hK] at r
  have e:zf1 d=KK d:=by cases d<;>first |rfl |(simp[zG4] at h1)
  rw[e] at q
  refine .inr ⟨v,_,rfl,λpins s σ u J ru=>?_,S.show1,S.dict,S.deep,by rw[sizeLine_eq];lia,hQ _ H _ ⟨os,I.push (Rep.ofS (d:=.str (KK d)) rfl)⟩ q⟩
  obtain⟨as,rd⟩:=Us J _ _ v u h2 r ru
  obtain⟨a,rfl⟩:∃a,v=.ref a:=by
   cases d with
   |tup ds=>obtain⟨a,xs,e,_⟩:=r.tup_inv;exact⟨a,e⟩
   |lst ds=>obtain⟨a,xs,e,_⟩:=r.lst_inv;exact⟨a,e⟩
   |_=>simp[zG4] at h1
  have e:u=.ref a:=ru;subst e;exact⟨a,as,rfl,rd⟩
end
def lo{sc:Scope}{x:Str}(h:(match sc.names.lookup x with |some .local=>true |some .cell=>true |_=>false)=true):Loc sc x:=by
 unfold Loc
 split at h
 ·exact .inl (by assumption)
 ·exact .inr (by assumption)
 ·cases h
end L2
namespace L2
open PySem PySem.Spec PyProof.Rows PySem.SeqAt
section
variable {A:AC}{X:Cx}
def zv9:RD2:=λd1 d2 k=>d1=.non/\∃ess:List (List D),d2=.lst (ess.map D.lst)/\k (.bl false)
@[simp] theorem xi7{a b k}:zv9 .non (.lst [.lst a,.lst b]) k↔k (.bl false):=⟨fun⟨_,_,_,h⟩=>h,λh=>⟨rfl,[a,b],rfl,h⟩⟩
def xx5:List D->(D->Prop)->Prop:=λes k=>∃ks ds,es=[.dct ks ds]/\ks.length=ds.length/\k (.int (ks.length:Int))
@[simp] theorem xt8{ks ds k}:xx5 [.dct ks ds] k↔(ks.length=ds.length/\k (.int (ks.length:Int))):=⟨fun⟨_,_,e,h⟩=>by cases e;exact h,λh=>⟨_,_,rfl,h⟩⟩
def xy7(te:TD):TD:=λrho n P=>te rho n λd n1=>∃x:Int,d=.int x/\P (.int ((Builtin.Int.intBits x:Nat):Int)) n1
@[simp] theorem xv5{te:TD}{rho:Rho}{n:Nat}{P:D->Nat->Prop}:xy7 te rho n P=te rho n λd n1=>∃x:Int,d=.int x/\P (.int ((Builtin.Int.intBits x:Nat):Int)) n1:=rfl
def xd1:List D->(D->Prop)->Prop:=λes k=>∃j:Int,es=[.int j]/\0<=j/\j<=1000/\k (.lst ((List.range j.toNat).map λi:Nat=>D.int (i:Int)))
@[simp] theorem xj8{j:Int}{k:D->Prop}:xd1 [.int j] k↔(0<=j/\j<=1000/\k (.lst ((List.range j.toNat).map λi:Nat=>D.int (i:Int)))):=⟨fun⟨_,e,h⟩=>by cases e;exact h,λh=>⟨_,rfl,h⟩⟩
end
end L2
namespace L2
structure LamScope(N:List Str)(p:Str)(scope:Scope)(cl:List (Str × Addr)):Prop where
 kind:scope.kind=.function
 co:scope.isCoroutine=false
 gen:scope.isGenerator=false
 nocell:∀x∈scope.names,x.2≠.cell
 head:N[0]?=some p
 par:scope.names.lookup p=some .local
 free:∀x,scope.names.lookup x=some .free->∃c,cl.lookup x=some c
 rest:∀i x,N[i+1]?=some x->scope.names.lookup x=some .free
def zb1(X:Cx)(A:Around)(N:List Str)(qual:Str)(scope:Scope)(f c':Addr)(cl:List (Str × Addr))(s:Shared)(H:Hp):Cx where
 prog:=X.prog
 w:=X.w
 K:=X.K
 mg:=X.mg
 base:=X.base
 A:=A.deeper (W.envX qual scope s.heap.objs.size f (.ref c') cl)
 N:=N
 s₀:=s
 H₀:=H
 env:=W.envX qual scope s.heap.objs.size f (.ref c') cl
 outer:=X.stack
 stack:=W.envX qual scope s.heap.objs.size f (.ref c') cl::X.stack
 ex:=[]
 fn:=λ_=>false
 calm:=true
 pn:=[]
 xe:=λ_ _=>False
section
variable {X:Cx}{pins:List (Addr × Obj)}{σ:St}{H:Hp}{s:Shared}{A:Around}{f c':Addr}{qual p:Str}{params:Arguments}{body:Expr}{scope:Scope}{cl:List (Str × Addr)}{pm ctv:Value}{N:List Str}{v:V}{u:Value}{cv:List V}
def zO9{h1:Heap}{tk:Nat}(I:Inv X pins σ H s)(hA:A.frames=some X.stack)(hh:A.handled=none)(S:LamScope N p scope cl)(hN:N.length=cv.length+1)(r:RelV v u)
  (sub:∀x c,cl.lookup x=some c->X.env.cells.lookup x=some c)
  (cap:∀i x y,N[i+1]?=some x->cv[i]?=some y->∃c,cl.lookup x=some c/\∃u,RelV y u/\s.heap.IsCell c (some u))
  (hns:h1.Ns s.heap.objs.size (λy=>[(p,u)].reverse.lookup y)) (hk:∀b o,s.heap.get? b=some o->h1.get? b=some o) :
  Inv (zb1 X A N qual scope f c' cl s H) [] (some v::cv.map some) H { s with heap:=h1,toks:=tk }:=by
 have noA:∀b:Addr,b ∉ (zb1 X A N qual scope f c' cl s H).ex:=λb z=>absurd (show b∈([]:List Addr) from z) (by simp)
 refine⟨⟨I.mod,S.kind,rfl,rfl,zn _,λy z c h1 h2=>?_,λy hy=>?_,λy c z _=>?_,λ_=>hh,Around.frames_deeper hA,.inr ⟨rfl,rfl⟩,λb z=>absurd z (noA b),I.bs,zy I.ok.bsz I.sz,λb _ _=>noA b,λb z=>absurd z (noA b),I.stack,I.stkFree⟩,
  rfl,I.bare,Un.kept hk,⟨_,hns,λi y z e1 e2 e3=>?_⟩,λy c h=>?_,I.hok.fresh (zn _),λy c h=>I.freeC y c (sub y c h),λp hp=>absurd (show p∈([]:List (Addr × Obj)) from hp) (by simp),I.hok.kept hk,?_⟩
 ·exact I.ok.inj y z c (sub y c h1) (sub z c h2)
 ·have hy : scope.names.lookup y = some .cell \/ scope.names.lookup y = some .free := hy
  rcases hy with hy |hy
  ·exact absurd rfl (S.nocell _ (PySem.mem_of_lookup hy))
  ·exact S.free y hy
 ·cases(show false=true from z)
 ·cases i with
  |zero=>
   have e4:y=p:=by have:=e1.symm.trans S.head;exact zF this
   subst e4
   have e5:v=z:=by simpa using e2
   subst e5;refine⟨u,r,.inl ⟨S.par,?_⟩⟩;simp
  | succ i =>
   have e4:cv[i]?=some z:=by
    have:(cv.map some)[i]?=some (some z):=by simpa using e2
    rw[zA] at this
    cases q:cv[i]? with
    |none=>rw[q] at this;cases this
    |some a=>rw[q] at this;cases this;rfl
   obtain⟨c,e5,u',r',o,ho,hd⟩:=cap i y z e1 e4;exact⟨u',r',.inr ⟨.inr (S.rest i y e1),c,e5,o,hk _ _ ho,hd⟩⟩
 ·obtain⟨w',o,ho,hd⟩:=I.cell y c (sub y c h);exact⟨w',o,hk _ _ ho,hd⟩
 ·show(some v::cv.map some).length=N.length;rw[zG,zg,hN]
def zO8{t:TE}{Q:VK}{E:Value->Shared->Prop}(I:Inv X pins σ H s)(hf:s.heap.get? f=some (W.kla_obj "<lambda>" qual params body scope cl pm c' ctv))(hcr:s.heap.CodeRec (.ref c') qual)
  (hA:A.frames=some X.stack) (hroom:A.depth<recursionLimit) (hh:A.handled=none) (S:LamScope N p scope cl) (hN:N.length=cv.length+1)
  (hb:bindArgs (W.kla_fn "<lambda>" qual params body scope cl pm (.ref c') ctv) ⟨[u],[]⟩=pure [(p,u)]) (r:RelV v u)
  (sub:∀x c,cl.lookup x=some c->X.env.cells.lookup x=some c)
  (cap:∀i x y,N[i+1]?=some x->cv[i]?=some y->∃c,cl.lookup x=some c/\∃u,RelV y u/\s.heap.IsCell c (some u))
  (hbody:PE (zb1 X A N qual scope f c' cl s H) body t) (ht:t (some v::cv.map some) H Q) :
  wpAny (model X.prog X.w) A (call (.ref f) [u]) (EP X pins σ λv H'=>Q v H'/\∀b o w,H b=some (.frz o w)->H' b=some (.frz o w)) E s:=by
 refine wpAny_call (codeAny_mono (R:=λr s'=>match r with |.ok (.ret u)=>CE X.stack X.prog X.w H s (λv H'=>Q v H'/\∀b o w,H b=some (.frz o w)->H' b=some (.frz o w)) u s' |_=>False) ?_ λr s' hq=>?_)
 ·refine W.kla_callFunE hroom hf rfl S.co S.gen rfl hcr ?_;rw[hb];refine zd (wpAny_newFunctionEnv S.nocell (λy hy=>?_) (λh1 hns hsb=>?_) S.kind)
  ·have : y = (p, u) := by simpa using hy
   rw[this];exact S.par
  ·have hk:∀b o,s.heap.get? b=some o->h1.get? b=some o:=λb o e=>hsb.extBut b o (zw (zo e)) (ze _ e);refine⟨I.nolimit.keeps hk,?_⟩;show codeAny _ _ (.expr body (W.envX qual scope s.heap.objs.size f (.ref c') cl)) _ _;have I2:Inv (zb1 X A N qual scope f c' cl s H) [] (some v::cv.map some) H { s with heap:=h1,toks:=s.toks+[(p,u)].length }:=zO9 I hA hh S hN r sub cap hns hk;refine W.kla_codeExpr (wx (hbody [] _ _ H Q I2 ht) (λu' s' h=>?_) λ_ _ z=>z.elim);obtain⟨v',H',J,rv,q⟩:=h;exact⟨v',H',J.os,J.bare,J.base,J.hok,rv,q,J.base.frzs⟩
 ·cases r with
  |error e=>exact False.elim hq
  |ok fl=>
   cases fl with
   |ret u=>exact I.after hq
   |next=>exact False.elim hq
   |brk=>exact False.elim hq
   |cont=>exact False.elim hq
end
def Ud(sp:V->Hp->VK->Prop):List V->Hp->(List V->Hp->Prop)->Prop
 |[],H,Q=>Q [] H
 |v::vs,H,Q=>sp v H λk H'=>Ud sp vs H' λks H''=>Q (k::ks) H''
section
variable {X:Cx}{pins:List (Addr × Obj)}{σ:St}{H:Hp}{s:Shared}
def Inv.pin1{a:Addr}{o:Obj}(I:Inv X pins σ H s)(hf:FpOk X pins H a)(ho:s.heap.get? a=some o)(hc:∀v,o.data≠.cell v):Inv X ((a,o)::pins) σ H s:=by
 refine⟨I.ok,I.os,I.bare,I.base,I.loc,I.cell,I.free,I.freeC,λp hp=>?_,I.hok,I.len⟩
 rcases xf.mp hp with hp |hp
 ·exact I.pin p (xk _ hp)
 ·rcases zj.mp hp with rfl | hp
  ·exact⟨ho,hf.1,hf.2.1,hf.2.2.1,hc⟩
  ·exact I.pin p (zr _ hp)
def Inv.unpin{q:Addr × Obj}(I:Inv X (q::pins) σ H s):Inv X pins σ H s:=
 ⟨I.ok,I.os,I.bare,I.base,I.loc,I.cell,I.free,I.freeC,λp hp=>I.pin p (by
  rcases xf.mp hp with hp |hp
  ·exact xk _ hp
  ·exact zr _ (zk _ hp)),I.hok,I.len⟩
def FpOk.reH{b:Addr}{H':Hp}(h:FpOk X pins H b)(hn:H' b=none):FpOk X pins H' b:=⟨hn,h.2⟩
def FpOk.more{b:Addr}{q:Addr × Obj}(h:FpOk X pins H b)(hq:q.1≠b):FpOk X (q::pins) H b:=
 ⟨h.1,h.2.1,h.2.2.1,h.2.2.2.1,h.2.2.2.2.1,λp hp=>by
  rcases xf.mp hp with hp |hp
  ·exact h.2.2.2.2.2 p (xk _ hp)
  ·rcases zj.mp hp with rfl | hp
   ·exact hq
   ·exact h.2.2.2.2.2 p (zr _ hp)⟩
def Inv.pinAt{q:Addr × Obj}(I:Inv X pins σ H s)(h:q∈pins):s.heap.get? q.1=some q.2/\H q.1=none:=
 let z:=I.pin q (zr _ h);⟨z.1,z.2.1⟩
def Ut(ks vs:List Value)(h:ks.length=vs.length):ks.toArray.zip vs.toArray=(Array.range vs.length).map λi=>(ks.getD i .none,vs.getD i .none):=by
 refine Array.ext_getElem? λk=>?_;rw[yi]
 by_cases hk:k<vs.length
 ·have e1 : (Array.range vs.length)[k]? = some k := by rw [Array.getElem?_range, if_pos hk]
  have hk':k<ks.length:=w5
  rw[e1]
  have e2:(ks.toArray.zip vs.toArray)[k]?=some (ks[k],vs[k]):=by
   rw[xU (by simp;lia)]
   simp
  rw[e2];simp[zK,hk,hk']
 ·rw [wD (by simp; lia), wD (by simp; lia)]
  rfl
def vR(X:Cx)(ys:List V)(Q:VK)(ks:List V)(H:Hp):Prop:=∃(fl:Bool) (r:Nat->Nat->Bool),ks.length=ys.length /\
 (∀a b,a<ys.length->b<ys.length->a≠b->r a b=!r b a)/\(∀a b c,a<ys.length->b<ys.length->c<ys.length->r a b=true->r b c=true->r a c=true) /\
 (∀a,a<ys.length->xG3 X H fl (ks.getD a .non))/\(∀a b,a<ys.length->b<ys.length->a≠b->xG6 X H fl (ks.getD a .non) (ks.getD b .non) (r a b)) /\
 ∀ls:Array Nat,ls.Perm (Array.range ys.length)->Srt.Up r ls ys.length->∀l,H l=none->Q (.ref l) (upd H l (.lst (ls.toList.map λi=>ys.getD i .non)))
variable {A:Around}{E:Value->Shared->Prop}{a kS:Addr}{vs:List Value}{ys ks:List V}{kA:Array Value}{e e1:Nat}{Q:VK}
def zA5{st:SortSt}{ls:Array Nat}(I:Inv X pins σ H s)(hk:s.heap.get? kS=some (seqObj "list" kA e))(ha:s.heap.get? a=some (seqObj "list" #[] e1))(fk:FpOk X pins H kS)(fa:FpOk X pins H a)(hka:kS≠a)(hz0:X.s₀.heap.objs.size<=a)(hz:kA.size<=64)
  (rv:Vals ys vs) (h64:ys.length<64) (h1:arrOf st=ls.map λi=>(kA.toList.getD i .none,vs.getD i .none)) (h2:failedOf st=none) (h3:ls.Perm (Array.range ys.length)) (q:Q (.ref a) (upd H a (.lst (ls.toList.map λi=>ys.getD i .non)))) :
  wpAny (model X.prog X.w) A (ksk_tail a false e1 (.ref kS) st) (λr s'=>r=.done (.ret .none)/\∃H4,Inv X pins σ H4 s'/\Q (.ref a) H4) E s:=by
 have len:=rv.length
 have hsz:ls.size=ys.length:=by rw[h3.size_eq,yQ]
 have hls:∀i∈ls.toList,i<ys.length:=λi hi=>by
  have:=(h3.mem_iff).mp (Array.mem_toList_iff.mp hi)
  rwa [Array.mem_range] at this
 have s1:=Heap.SameBut.update s.heap kS (Obj.mapSeq λ_=>(#[]:Array Value));have na1:(s.heap.update kS (Obj.mapSeq λ_=>(#[]:Array Value))).get? a=some (seqObj "list" #[] e1):=(s1.2 a hka.symm).trans ha
 have ea:(arrOf st).map (·.2)=ls.map λi=>vs.getD i .none:=by rw[h1,Array.map_map];rfl
 have es:((arrOf st).map (·.2)).size<=64:=by rw[ea,Array.size_map,hsz];lia
 unfold ksk_tail;dsimp only
 refine zb (listUpdate_at hk rfl ?_ (by rw[sizeLine_eq];lia) (xJ _))
 refine zb (yl ?_);refine zb (seqEpoch_at na1 rfl ?_);simp only[zV,if_false]
 refine zb (listUpdate_at na1 rfl ?_ (xJ _) (zy es (by rw[sizeLine_eq];lia)))
 rw[h2];simp only[bne_self_eq_false,zV,if_false];rw[ea];have s2:=Heap.SameBut.update (s.heap.update kS (Obj.mapSeq λ_=>(#[]:Array Value))) a (Obj.mapSeq λ_=>ls.map λi=>vs.getD i .none)
 obtain⟨c2,hc2⟩:∃c2,((s.heap.update kS (Obj.mapSeq λ_=>(#[]:Array Value))).update a (Obj.mapSeq λ_=>ls.map λi=>vs.getD i .none)).get? a=some (seqObj "list" (ls.map λi=>vs.getD i .none) c2):=
  ⟨_,get?_update_seq na1 λ_=>ls.map λi=>vs.getD i .none⟩
 refine zd ⟨rfl,_,?_,q⟩
 have J:=I.turnedL (t':=s.toks) (h':=(s.heap.update kS (Obj.mapSeq λ_=>(#[]:Array Value))).update a (Obj.mapSeq λ_=>ls.map λi=>vs.getD i .none)) (ch:=[kS,a]) (λb o hb z=>by
  have n1:b≠kS:=λz=>hb (by simp[z])
  have n2:b≠a:=λz=>hb (by simp[z])
  exact(s2.2 b n2).trans ((s1.2 b n1).trans z)) (λb hb=>by
  rcases zj.mp hb with rfl |hb
  ·exact fk
  ·rw[zM.mp hb];exact fa)
 refine J.track fa.1 hz0 fa.2.1 fa.2.2.2.2.1 fa.2.2.2.2.2 ⟨?_,(ls.toList.map λi=>vs.getD i .none),c2,YM rv hls,?_⟩
 ·rw [zg, xQ, hsz]
  exact zy (yt h64) w6
 ·have ee : (ls.toList.map λi => vs.getD i .none).toArray = ls.map λi => vs.getD i .none := by rw [<- Array.toList_map, yv]
  rw[ee];exact hc2
def zP2(I:Inv X pins σ H s)(hk:s.heap.get? kS=some (seqObj "list" kA e))(ha:s.heap.get? a=some (seqObj "list" #[] e1))(fk:FpOk X pins H kS)(fa:FpOk X pins H a)(hka:kS≠a)(hz0:X.s₀.heap.objs.size<=a)
  (rv:Vals ys vs) (h64:ys.length<64) (rk:Vals ks kA.toList) (un:A.units+60<cLine) (fin:vR X ys Q ks H) :
  wpAny (model X.prog X.w) A (ksk_end a false vs.toArray e1 (.ref kS) kA) (λr s'=>r=.done (.ret .none)/\∃H4,Inv X pins σ H4 s'/\Q (.ref a) H4) E s:=by
 classical
 obtain⟨f,rr,hlen,tot,tr,row,cmp,q⟩:=fin;have len:=rv.length;have lenk:=rk.length
 have hz:kA.size<=64:=by rw[<- xQ];lia
 have ezip:kA.zip vs.toArray=(Array.range vs.length).map λi=>(kA.toList.getD i .none,vs.getD i .none):=by
  have:=Ut kA.toList vs w5
  rwa [yv] at this
 have fin2:∀(t:SortSt) (ls:Array Nat),arrOf t=ls.map (λi=>(kA.toList.getD i .none,vs.getD i .none))->failedOf t=none->ls.Perm (Array.range vs.length)->Srt.Up rr ls vs.length ->
   wpAny (model X.prog X.w) A (ksk_tail a false e1 (.ref kS) t) (λr s'=>r=.done (.ret .none)/\∃H4,Inv X pins σ H4 s'/\Q (.ref a) H4) E s:=λt ls a1 a2 a3 a4=>by
  rw[<- len] at a3 a4;exact zA5 I hk ha fk fa hka hz0 hz rv h64 a1 a2 a3 (q ls a3 a4 a fa.1)
 unfold ksk_end;dsimp only;simp only[zV,if_false]
 by_cases c:vs.toArray.size<2
 ·rw [if_pos c, if_pos c];refine zb (zd ?_);rw[StateT.run_pure];refine zb (zd (fin2 _ (Array.range vs.length) ezip rfl (Array.Perm.refl _) λi j hij hj=>?_))
  have:vs.length<2:=by simpa using c
  lia
 ·rw [if_neg c, if_neg c]
  have c2:2<=vs.length:=by simpa using c
  have ixd:∀v∈kA.toList,∃i,i<ys.length/\v=kA.toList.getD i .none:=λv hv=>by
   obtain⟨i,hi,e⟩:=List.getElem_of_mem hv
   exact⟨i,w5,by rw[zK,zf hi,e];rfl⟩
  have each:∀v∈kA.toList,∃p rest,Srt.Tup s.heap v p rest/\s.TypeIs p (if f then "int" else "tuple"):=λv hv=>by
   obtain⟨i,hi,rfl⟩:=ixd v hv
   exact row i hi pins _ σ _ I (rk.getD w5)
  have ek:kA=kA.toList.toArray:=by rw[yv]
  have kind:∀(E:Value->Shared->Prop) (Q:SortKind->Shared->Prop),Q (tuples' f) s->wpAny (model X.prog X.w) A (keyKind' kA) Q E s:=λE Q q=>by
   rw[ek]
   refine Srt.Xq (s:=s) (T:=if f then "int" else "tuple") (fst:=λv=>if h:∃p rest,Srt.Tup s.heap v p rest/\s.TypeIs p (if f then "int" else "tuple") then h.choose else v) w5 (λv hv=>?_) (λv hv=>?_) ?_
   ·have e := each v hv;obtain⟨rest,t,_⟩:=e.choose_spec
    exact⟨rest,by rw[dif_pos e];exact t⟩
   ·have e := each v hv;obtain⟨rest,_,t⟩:=e.choose_spec
    show Shared.TypeIs _ (if h:_ then _ else _) _
    rw[dif_pos e];exact t
   ·cases f
    ·exact q
    ·exact q
  refine zb (kind _ _ ?_)
  have hR:Srt.Rule X.prog X.w A s vs.length (λi=>(kA.toList.getD i .none,vs.getD i .none)) (tuples' f) rr:=by
   refine⟨λa b ha hb=>tot a b w5 w5,λa b c ha hb hc=>tr a b c w5 w5 w5,λa b ha hb hab E Q q=>?_⟩
   obtain⟨p1,ps,p2,qs,t1,t2,L⟩:=cmp a b w5 w5 hab pins _ σ _ _ I (rk.getD w5) (rk.getD w5) A un
   exact Srt.UT t1 t2 L q
  have N0:Srt.Now vs.length (λi=>(kA.toList.getD i .none,vs.getD i .none)) (tuples' f) (Array.range vs.length) (SortSt.mk' (tuples' f) (kA.zip vs.toArray) #[] 7 none):=⟨ezip,rfl,rfl,rfl,Array.Perm.refl _⟩
  refine zb (wx (Srt.all hR N0 c2 w5 (Q:=λ_ t=>∃ls:Array Nat,arrOf t=ls.map (λi=>(kA.toList.getD i .none,vs.getD i .none))/\failedOf t=none/\ls.Perm (Array.range vs.length)/\Srt.Up rr ls vs.length) λls t a1 a2 a3 a4=>⟨ls,a1,a2,a3,a4⟩) ?_ λ_ _ e=>e)
  rintro⟨_,t⟩ s' ⟨rfl,ls,a1,a2,a3,a4⟩;exact fin2 t ls a1 a2 a3 a4
def zA6{f:Value}{sp:V->Hp->VK->Prop}{Ok:Hp->Prop}(I:Inv X pins σ H s)(hk:s.heap.get? kS=some (seqObj "list" #[] 0))(ha:s.heap.get? a=some (seqObj "list" #[] e1))(fk:FpOk X pins H kS)(fa:FpOk X pins H a)(hka:kS≠a)(hz0:X.s₀.heap.objs.size<=a)
  (rv:Vals ys vs) (h64:ys.length<64) (un:A.units+60<cLine) (ok:Ok H)
  (turn:∀(pins':List (Addr × Obj)) (s':Shared) (H':Hp) (y:V) (v:Value) (Q:VK),(∀p∈pins,p∈pins')->Inv X pins' σ H' s'->Ok H'->RelV y v->sp y H' Q->wpAny (model X.prog X.w) A (call f [v]) (EP X pins' σ λk H2=>Q k H2/\Ok H2) (λ_ _=>False) s')
  (fin:Ud sp ys H (vR X ys Q)) :
  wpAny (model X.prog X.w) A (ksk_rest a f false vs.toArray e1 (.ref kS)) (λr s'=>r=.done (.ret .none)/\∃H4,Inv X pins σ H4 s'/\Q (.ref a) H4) E s:=by
 have len:=rv.length;have fk':FpOk X ((a,seqObj "list" #[] e1)::pins) H kS:=fk.more (Ne.symm hka)
 have nc:∀(xs:Array Value) (n:Nat) (v:Option Value),(seqObj "list" xs n).data≠.cell v:=λ_ _ _ z=>by cases z
 unfold ksk_rest;refine zb (yo ?_)
 first
  |rw[List.forIn_toArray]
  |(rw[<- Array.forIn_toList];simp only[List.toList_toArray])
  |rw[<- Array.forIn_toList]
 refine zb (ksk_fold (λi s'=>∃H' kA e ks,Inv X ((kS,seqObj "list" kA e)::(a,seqObj "list" #[] e1)::pins) σ H' s'/\Ok H'/\Vals ks kA.toList/\ks.length=i/\Ud sp (ys.drop i) H' λrest H3=>vR X ys Q (ks++rest) H3) vs 0 s
  ⟨H,#[],0,[],(I.pin1 fa ha (nc _ _)).pin1 fk' hk (nc _ _),ok,.nil,rfl,by simpa using fin⟩ ?step ?done)
 case step=>
  rintro j x s' hx ⟨H',kA,e,ks,I',ok',rk,lk,tk⟩;simp only[Nat.zero_add] at lk tk ⊢;have hj:j<vs.length:=(zq.mp hx).1
  have hj':j<ys.length:=w5
  have ey:ys[j]?=some ys[j]:=zf hj';obtain⟨u,eu,ry⟩:=rv.get ey;have exu:u=x:=zF (eu.symm.trans hx);subst exu;rw[List.drop_eq_getElem_cons hj'] at tk
  have hzk:kA.size<=64:=by rw[<- xQ,<- rk.length];lia
  refine zb (wpAny_attempt (wx (turn _ s' H' ys[j] u _ (λp hp=>zk _ (zk _ hp)) I' ok' ry tk) (λv s'' he=>?_) λ_ _ hF=>hF.elim));obtain⟨k,H2,I2,rk2,tk2,ok2⟩:=he
  try dsimp only
  have nk:=I2.pinAt (q:=(kS,seqObj "list" kA e)) (.head _);have na:=I2.pinAt (q:=(a,seqObj "list" #[] e1)) (.tail _ (.head _));have s1:=Heap.SameBut.update s''.heap kS (Obj.mapSeq (·.push v));obtain⟨c2,hc2⟩:∃c2,(s''.heap.update kS (Obj.mapSeq (·.push v))).get? kS=some (seqObj "list" (kA.push v) c2):=⟨_,get?_update_seq nk.1 (·.push v)⟩
  have ea:(kA.push v).toList=kA.toList++[v]:=by simp
  refine zb (listUpdate_at nk.1 rfl ?_ (by rw[sizeLine_eq];lia) (zy (Nat.le_of_eq (Array.size_push ..)) (by rw[sizeLine_eq];lia)))
  have f2:FpOk X ((a,seqObj "list" #[] e1)::pins) H2 kS:=fk'.reH nk.2;have I3:=I2.unpin.turned (t':=s''.toks) (h':=s''.heap.update kS (Obj.mapSeq (·.push v))) (it:=kS) (λb o hb z=>(s1.2 b hb).trans z) nk.2 f2.2.1 f2.2.2.2.1 f2.2.2.2.2.1 f2.2.2.2.2.2
  refine zd ⟨rfl,H2,kA.push v,c2,ks++[k],I3.pin1 f2 hc2 (nc _ _),ok2,by rw[ea];exact rk.append (.cons rk2 .nil),by rw[zB,lk];rfl,?_⟩
  have e9:(λrest H3=>vR X ys Q (ks++[k]++rest) H3)=λrest H3=>vR X ys Q (ks++k::rest) H3:=by funext rest H3;rw[yz];rfl
  rw[e9];exact tk2
 case done=>
  rintro s' ⟨H',kA,e,ks,I',ok',rk,lk,tk⟩;rw[Nat.zero_add,<- len,List.drop_length] at tk;have tk:vR X ys Q (ks++[]) H':=tk;rw[wM] at tk;have nk:=I'.pinAt (q:=(kS,seqObj "list" kA e)) (.head _);have na:=I'.pinAt (q:=(a,seqObj "list" #[] e1)) (.tail _ (.head _))
  try dsimp only
  refine zb (listItems_at nk.1 rfl ?_);exact zP2 I'.unpin.unpin nk.1 na.1 (fk.reH nk.2) (fa.reH na.2) hka hz0 rv h64 rk un tk
def zA4{f:Value}{sp:V->Hp->VK->Prop}{Ok:Hp->Prop}{n0:Nat}(I:Inv X pins σ H s)(ha:s.heap.get? a=some (seqObj "list" vs.toArray n0))(fa:FpOk X pins H a)(hz0:X.s₀.heap.objs.size<=a)
  (rv:Vals ys vs) (h64:ys.length<64) (un:A.units+60<cLine) (ok:Ok H)
  (turn:∀(pins':List (Addr × Obj)) (s':Shared) (H':Hp) (y:V) (v:Value) (Q:VK),(∀p∈pins,p∈pins')->Inv X pins' σ H' s'->Ok H'->RelV y v->sp y H' Q->wpAny (model X.prog X.w) A (call f [v]) (EP X pins' σ λk H2=>Q k H2/\Ok H2) (λ_ _=>False) s')
  (fin:Ud sp ys H (vR X ys Q)) :
  wpAny (model X.prog X.w) A (ksk_tree a f false) (λr s'=>r=.done (.ret .none)/\∃H4,Inv X pins σ H4 s'/\Q (.ref a) H4) E s:=by
 have len:=rv.length;have la:=zo ha;have s1:=Heap.SameBut.update s.heap a (Obj.mapSeq λ_=>(#[]:Array Value));obtain⟨e1,at1⟩:∃e1,(s.heap.update a (Obj.mapSeq λ_=>(#[]:Array Value))).get? a=some (seqObj "list" #[] e1):=⟨_,get?_update_seq ha λ_=>#[]⟩;have I1:=I.turned (t':=s.toks) (h':=s.heap.update a (Obj.mapSeq λ_=>(#[]:Array Value))) (it:=a) (λb o hb z=>(s1.2 b hb).trans z) fa.1 fa.2.1 fa.2.2.2.1 fa.2.2.2.2.1 fa.2.2.2.2.2;have keep:∀b o,(s.heap.update a (Obj.mapSeq λ_=>(#[]:Array Value))).get? b=some o->(((s.heap.update a (Obj.mapSeq λ_=>(#[]:Array Value))).push (seqObj "tuple" vs.toArray 0)).push (seqObj "list" #[] 0)).get? b=some o:=λb o z=>ze _ (ze _ z);have I2:=I1.kept (t':=s.toks) keep
 have hkS:((s.heap.update a (Obj.mapSeq λ_=>(#[]:Array Value))).push (seqObj "tuple" vs.toArray 0)).objs.size=s.heap.objs.size+1:=by rw[size_push',Heap.size_update]
 have hs0:(s.heap.update a (Obj.mapSeq λ_=>(#[]:Array Value))).objs.size<=((s.heap.update a (Obj.mapSeq λ_=>(#[]:Array Value))).push (seqObj "tuple" vs.toArray 0)).objs.size:=by rw[size_push'];lia
 unfold ksk_tree;refine zb (listItems_at ha rfl ?_)
 refine zb (listUpdate_at ha rfl ?_ (by rw[zt,sizeLine_eq];lia) (xJ _))
 refine zb (seqEpoch_at at1 rfl ?_)
 refine zb (wpAny_newTuple ?_ (by show vs.length<=_;rw[sizeLine_eq];lia))
 refine zb (wpAny_newList ?_ (xJ _));refine xx ?_
 exact zA6 (s:={ s with heap:=((s.heap.update a (Obj.mapSeq λ_=>(#[]:Array Value))).push (seqObj "tuple" vs.toArray 0)).push (seqObj "list" #[] 0) }) (kS:=((s.heap.update a (Obj.mapSeq λ_=>(#[]:Array Value))).push (seqObj "tuple" vs.toArray 0)).objs.size)
  I2 (zp _ rfl) (keep _ _ at1) (I1.fpOk hs0 (I1.hok.fresh hs0)) fa (by rw[hkS];exact xN (xT la)) hz0 rv h64 un ok turn fin
end
def TabG.trip{φ:Addr->Prop}{l:List Value}(g:TabG φ l):TriplesOk l:=by
 induction g with
 |nil=>exact True.intro
 |cons _ _ ih=>exact ih
def TabG.among{φ:Addr->Prop}{pos:Pos}{l:List Value}(g:TabG φ l){v:Value}(e:codeAmong pos l=some v):∃c,v=.ref c/\φ c:=by
 induction g with
 |nil=>cases e
 |cons h _ ih=>
  unfold codeAmong at e
  split at e
  ·cases e;exact⟨_,rfl,h⟩
  ·exact ih e
def TabG.snoc{φ:Addr->Prop}{l:List Value}(g:TabG φ l){i j:Int}{t u:Tok}{c:Addr}(h:φ c):TabG φ (l++[.int i t,.int j u,.ref c]):=by
 induction g with
 |nil=>exact .cons h .nil
 |cons h' _ ih=>exact .cons h' ih
structure LamBase(base:Heap)(mg:Str->Option Value)(c P:Addr):Prop where
 hd:W.CodeHd base c P
 bm:∃bm ob,mg "__builtins__" = some (.ref bm)/\bm≠builtinsNs/\base.get? bm=some ob/\ob.cls=.type "module" /\ ob.dict=some builtinsNs/\ob.data=.plain
def OneMore(H H2:Hp):Prop:=H2=H\/∃c o,H c=none/\H2=upd H c o
def OneMore.keep{H H2:Hp}(h:OneMore H H2):∀b o,H b=some o->H2 b=some o:=λb o e=>by
 rcases h with rfl |⟨c,u,hn,rfl⟩
 ·exact e
 ·rw[xX (wW e hn)];exact e
section
variable {X:Cx}{pins:List (Addr × Obj)}{σ:St}{H:Hp}{s:Shared}{c P:Addr}{q p:Str}{params:Arguments}{body:Expr}{scope:Scope}{clos:List (Str × Addr)}{pos lpos:Pos}
def zA2{Q:Value->Shared->Prop}{E:Value->Shared->Prop}(I:Inv X pins σ H s)(hc:X.env.code=.ref c)(L:LamBase X.base X.mg c P)(hP:H P=some (.cot q))(hq:X.env.qual ++ "<lambda>" = q)
  (hcl:closureFor scope X.env=pure clos) (hdef:defaultsOf params X.env=([],[]))
  (h:∀(f c':Addr) (oc:Obj) (ctv:Value) (H2:Hp) (s2:Shared),OneMore H H2->Inv X ((f,W.kla_obj "<lambda>" q params body scope clos ((X.mg "__name__").getD .none) c' ctv)::pins) σ H2 s2->H2 c'=some (.frz oc (.own 0))->xg7 oc q->Q (.ref f) s2) :
  wpAny (model X.prog X.w) X.A (eval (.Lambda params body scope lpos) X.env) Q E s:=by
 refine W.kla_eval hdef ?_;rw[hq];obtain⟨ps,ho,g⟩:=I.hok P _ hP;obtain⟨bm,ob,b1,b2,b3,b4,b5,b6⟩:=L.bm
 have nb:∀b o,X.base.get? b=some o->b≠P:=λb o e z=>by
  have:=(I.bs b o e).2;rw[z,hP] at this;cases this
 have hgP:mainGlobals≠P:=by
  obtain⟨o,es,ep,e,_⟩:=I.mod.glob;exact nb _ _ e
 have hbG:bm≠mainGlobals:=λz=>by
  obtain⟨o,es,ep,e,hd,_⟩:=I.mod.glob;rw[z,e] at b3;cases b3;rw[hd] at b6;cases b6
 have hB:s.heap.BuiltinsAt X.mg P:=⟨bm,ob,b1,b2,hbG,nb _ _ b3,I.bk _ _ b3,b4,b5,b6⟩
 have nc:∀(c':Addr) (ctv:Value) (v:Option Value),(W.kla_obj "<lambda>" q params body scope clos ((X.mg "__name__").getD .none) c' ctv).data≠.cell v:=λ_ _ _ z=>by cases z
 cases hf:codeAmong lpos ps.toList with
 |some cv=>
  obtain⟨c',rfl,oc,e1,e2⟩:=g.among hf;refine W.kla_makeFunctionHit (mg:=X.mg) hcl I.ok.glob (I.mod.glob.keeps I.bk) hc (L.hd.keeps I.bk) ho g.trip hf hB λctv h' tk hk hsz=>?_;have I2:=I.kept (t':=tk) (h':=h'.push (W.kla_obj "<lambda>" q params body scope clos ((X.mg "__name__").getD .none) c' ctv)) λb o e=>ze _ (hk b o e);exact h _ c' oc ctv H _ (.inl rfl) (I2.pin1 (I.fpOk hsz (I.hok.fresh hsz)) (zp _ rfl) (nc _ _)) e1 e2
 | none =>
  refine W.kla_makeFunction (mg:=X.mg) hcl I.ok.glob (I.mod.glob.keeps I.bk) hc (L.hd.keeps I.bk) ho g.trip hf hgP hB λc' ctv h' tk hx hge hlt hrec htb=>?_;obtain⟨c2,oc,vs,t,ec,hoc,hd,hv⟩:=hrec;cases ec;have hn:H c'=none:=I.hok.fresh hge;have hsz:s.heap.objs.size<=h'.objs.size:=zy hge (yt hlt)
  have nP:∀b,H b=none->b≠P:=λb e z=>by rw[z,hP] at e;cases e
  have kp:∀b o,b≠P->s.heap.get? b=some o->(h'.push (W.kla_obj "<lambda>" q params body scope clos ((X.mg "__name__").getD .none) c' ctv)).get? b=some o:=λb o hb e=>ze _ (hx b o hb e);have cP:c'≠P:=nP c' hn
  have up:∀b u,H b=some u->upd H c' (.frz oc (.own 0)) b=some u:=λb u e=>by rw[xX (wW e hn)];exact e
  have U:Un X.fs [] H (upd H c' (.frz oc (.own 0))) s.heap (h'.push (W.kla_obj "<lambda>" q params body scope clos ((X.mg "__name__").getD .none) c' ctv)):=by
   refine⟨λb o e n _ _=>kp b o (nP b n) e,λb o e n _ _=>⟨o.slots,kp b o (nP b n) e⟩,λb o e n _=>?_,λb o e _=>?_,λb xs e=>up b _ e,λb o u e=>up b _ e,λb ps e=>⟨#[],by rw[up b _ e];simp⟩⟩
   ·rw[xX (zw (zL (zo e) hge))];exact n
   ·by_cases hb : b = P
    ·exact⟨_,ze _ (hb ▸ htb)⟩
    ·exact⟨o,kp b o hb e⟩
  have hok:HOk X.prog X.w (upd H c' (.frz oc (.own 0))) (h'.push (W.kla_obj "<lambda>" q params body scope clos ((X.mg "__name__").getD .none) c' ctv)):=λb u e=>by
   by_cases hb:b=c'
   ·subst hb;rw[wU] at e;cases e;exact⟨ze _ hoc,oc,ze _ hoc⟩
   ·rw [xX hb] at e
    by_cases hbP:b=P
    ·subst hbP;rw[hP] at e;cases e;refine⟨_,ze _ htb,?_⟩;rw[Array.toList_append];exact(g.imp λd ⟨oc,z,i⟩=>⟨oc,up _ _ z,i⟩).snoc ⟨oc,wU,vs,t,hd,hv⟩
    ·refine (I.hok b u e).stay (λd v hd z => kp d v ?_ z) (λd z => up d _ z) (λd xs z => up d _ z) λd o u z => up d _ z
     rcases hd with rfl |hd
     ·exact hbP
     ·intro z;rw[z,hP] at hd;cases hd
  have I2:=I.un (t':=tk) U hok
  have hfn:upd H c' (.frz oc (.own 0)) h'.objs.size=none:=by rw[xX (xN hlt)];exact I.hok.fresh hsz
  exact h _ c' oc ctv _ _ (.inr ⟨c',_,hn,rfl⟩) (I2.pin1 (I.fpOk hsz hfn) (zp _ rfl) (nc _ _)) wU ⟨vs,t,hd,hv⟩
def SqL.keep{K:W.Frag}{H H2:Hp}{a:Addr}{xs:List V}(h:SqL K H a xs)(k:∀b o,H b=some o->H2 b=some o):SqL K H2 a xs:=by
 rcases h with (h |⟨o,h⟩) |h
 ·exact .inl (.inl (k _ _ h))
 ·exact .inl (.inr ⟨o,k _ _ h⟩)
 ·exact .inr h
structure Caps(X:Cx)(N:List Str)(clos:List (Str × Addr))(caps:List Nat):Prop where
 len:N.length=caps.length+1
 at_:∀i x,N[i+1]?=some x->X.env.kindOf x=some .cell/\∃j,caps[i]?=some j/\X.N[j]?=some x
 sub:∀x c,clos.lookup x=some c->X.env.cells.lookup x=some c
 has:∀i x,N[i+1]?=some x->∃c,clos.lookup x=some c
def zT6(X:Cx)(P:Addr)(q:Str)(caps:List Nat)(tb:Hp->TE)(t1:TA):TE:=λσ H Q=>t1 σ H λvs H1=>∃(p0:Addr) (ys cv:List V),vs=[.ref p0]/\SqL X.K H1 p0 ys/\ys.length<64/\H1 P=some (.cot q) /\
 cv.length=caps.length/\(∀(i j:Nat),caps[i]?=some j->∃y,cv[i]?=some y/\σ[j]?=some (some y))/\∀H2,OneMore H1 H2->Ud (λy H' Q'=>tb H' (some y::cv.map some) H' Q') ys H2 (vR X ys Q)
def QW{e:Expr}{t1:TA}{tb:Hp->TE}{N:List Str}{caps:List Nat}{k:Nat}{np kp:Pos}(hg:Gl X "sorted")(hm:X.mg "sorted" = none)(ha:PA X [e] t1)(hr:Room (k+3) X.A)
    (hc:X.env.code=.ref c) (L:LamBase X.base X.mg c P) (hq:X.env.qual ++ "<lambda>" = q) (hcl:closureFor scope X.env=pure clos) (hdef:defaultsOf params X.env=([],[]))
    (S:LamScope N p scope clos) (C:Caps X N clos caps) (hb:∀(u pm ctv:Value) (c':Addr),bindArgs (W.kla_fn "<lambda>" q params body scope clos pm (.ref c') ctv) ⟨[u],[]⟩=pure [(p,u)])
    (hbody:∀(A:Around) (f c':Addr) (s:Shared) (H:Hp),Room k (A.deeper (W.envX q scope s.heap.objs.size f (.ref c') clos))->PE (zb1 X A N q scope f c' clos s H) body (tb H))
    (he:starEach [e] X.env=(false,eval e X.env)::starEach [] X.env:=by rfl) (hpl:(backTo pos (starEach [e] X.env)).any (·.1)=false:=by rfl) :
    PE X (.Call (.Name "sorted" np) [e] [⟨some "key",.Lambda params body scope lpos,kp⟩] pos) (zT6 X P q caps tb t1):=by
  intro pins s σ H Q I h
  refine wpAny_Call_Name_kw (UR I hg hm XJ ?_ w6 w6)
  refine callWith_kw (env:=X.env) (e:=e) (rest:=[]) (thn (ha pos pins s σ H _ I h) λus s1 ⟨vs,H1,I1,r1,q1⟩=>?_) (by rw[he];rfl) hpl rfl rfl
  obtain⟨p0,ys,cv,rfl,hS,h64,hP,hcv,hcap,hk⟩:=q1;refine kws_cons (zA2 I1 hc L hP hq hcl hdef λf c' oc ctv H2 s2 hH I2 hoc hcod=>kws_nil ?_)
  cases r1 with
  | cons r rr =>
    cases rr;cases r;obtain⟨its,rv,pl,_⟩:=I2.list (hS.keep hH.keep);have hl:=pl.isList;have len:=rv.length;have fin:=hk H2 hH;have room:Room (k+1) X.A.in1.in1:=hr.in1.in1;show wpAny _ _ (call (.builtin "sorted") [.ref p0] [(Str.ofString "key",.ref f)]) _ _ _;refine call_function_entry_kw kind_sorted plain_sorted entry_sorted (ksk_s1 _ _) ?_;unfold Builtin.«sorted»;refine zb (m:=checkCount "sorted" 1 1 _) (zd ?_)
    refine zb (collect_list hl ?_ (by rw[sizeLine_eq];lia))
    refine zb (wpAny_newList ?_ (by rw[sizeLine_eq];lia))
    have hsz:((s2.heap.push (seqObj "list" #[] 0)).update s2.heap.objs.size (Obj.mapSeq (·++its.toArray))).objs.size=s2.heap.objs.size+1:=by rw[Heap.size_update,size_push']
    have hoL:(((s2.heap.push (seqObj "list" #[] 0)).update s2.heap.objs.size (Obj.mapSeq (·++its.toArray))).push (seqObj "list" its.toArray 0)).get? (s2.heap.objs.size+1)=some (seqObj "list" its.toArray 0):=by
      rw[<- hsz];exact zp _ rfl
    have keep:∀b o,s2.heap.get? b=some o->(((s2.heap.push (seqObj "list" #[] 0)).update s2.heap.objs.size (Obj.mapSeq (·++its.toArray))).push (seqObj "list" its.toArray 0)).get? b=some o:=λb o q=>by
      have hlt:b<s2.heap.objs.size:=zo q
      rw[Heap.get?_push_ne _ _ _ (by rw[hsz];exact zw (xT hlt)),Heap.get?_update_ne _ _ _ _ (zw hlt),Heap.get?_push_ne _ _ _ (zw hlt)]
      exact q
    have I3:=I2.kept (t':=s2.toks) keep;have fa:=I2.fpOk (H':=H2) (b:=s2.heap.objs.size+1) (xq _) (I2.hok.fresh (xq _));show wpAny _ _ _ _ _ { s2 with heap:=((s2.heap.push (seqObj "list" #[] 0)).update s2.heap.objs.size (Obj.mapSeq (·++its.toArray))).push (seqObj "list" its.toArray 0) };rw[hsz];refine zb (xx (wpAny_call_entry_kw slot_list_sort ⟨_,hoL,rfl⟩ entry_list_sort ?body (ksk_l1 _ _)))
    case body=>
      show wpAny (model X.prog X.w) X.A.in1.in1 (Builtin.«list.sort» ⟨[.ref (s2.heap.objs.size+1)],[(Str.ofString "key",.ref f)]⟩) _ _ _;rw[ksk_t1]
      refine wx (zA4 (Ok:=λH'=>H' c'=some (.frz oc (.own 0))) I3 hoL fa (zy I2.sz (xq _)) rv h64 (by have:=room.un;lia) hoc (λpins' s' H' y v Q' hsub I' ok' ry ht=>?_) fin) (λr s' hq=>?_) λ_ _ z=>z
      · have hcr : s'.heap.CodeRec (.ref c') q := by
          obtain⟨z1,_⟩:=I'.hok c' _ ok';obtain⟨vs,t,d1,d2⟩:=hcod;exact⟨c',oc,vs,t,rfl,z1,d1,d2⟩
        refine thn (zO8 (cv:=cv) I' (I'.pinAt (hsub _ (.head _))).1 hcr I'.ok.frames room.depth room.hd S (by rw[C.len,hcv]) (hb _ _ _ _) ry C.sub (λi x y e1 e2=>?_) (hbody _ _ _ _ _ (room.deeper _)) ht) λu s3 hz=>?_
        · obtain ⟨hkind, j, e3, e4⟩ := C.at_ i x e1
          obtain⟨y',e5,e6⟩:=hcap i j e3;have e7:y'=y:=zF (e5.symm.trans e2);subst e7;obtain⟨cc,e8⟩:=C.has i x e1;obtain⟨m,_,lk⟩:=I'.loc;obtain⟨u',r',l⟩:=lk j x y' e4 e6 (.inr (.inl hkind))
          rcases l with ⟨l,_⟩ |⟨_,c3,e9,z⟩
          · rw[hkind] at l;cases l
          · have e10 := C.sub x cc e8
            rw[e9] at e10;cases e10;exact⟨_,e8,u',r',z⟩
        · obtain ⟨v2, H3, I4, rv2, q2, fz⟩ := hz
          exact⟨v2,H3,I4,rv2,q2,fz _ _ _ ok'⟩
      · obtain ⟨rfl, H4, I4, q4⟩ := hq
        exact⟨_,rfl,zd ⟨_,rfl,.ref (s2.heap.objs.size+1),H4,I4.unpin,rfl,q4⟩⟩
end
def zH0(caps:List Nat)(tb:TD)(t1:TAD):TD:=λrho n R=>t1 rho n λes n1=>∃(rows:List D) (keys:List SRow) (fl:Bool) (cs:List D),es=[.lst rows]/\rows.length<64/\keys.length=rows.length/\(∀x∈keys,x.key.num=fl)/\(keys.map SRow.name).Nodup /\
 cs.length=caps.length/\(∀(i j:Nat),caps[i]?=some j->∃d,cs[i]?=some d/\rho[j]?=some (some d)/\xZ d=true)/\(∀(i:Nat) (d:D) (x:SRow),rows[i]?=some d->keys[i]?=some x->tb (some d::cs.map some) n1 λe n2=>e=x.d/\n2=n1) /\
 ∀ls:List Nat,ls.Perm (List.range rows.length)->(ls.map λi=>keys.getD i Yk).Pairwise (λx y=>x.lt y=true)->R (.lst (ls.map λi=>rows.getD i .non)) n1
section
variable {A:AC}{X:Cx}{os:List (Nat × Addr)}{n:Nat}{rho:Rho}{sg:St}{H:Hp}{ds:List D}{vs:List V}
def Kh(I:AmO A os n rho sg H ds vs):∀(caps:List Nat) (cs:List D),cs.length=caps.length->(∀(i j:Nat),caps[i]?=some j->∃d,cs[i]?=some d/\rho[j]?=some (some d)/\xZ d=true) ->
  ∃cv:List V,Reps A.K A.G (Zof A os) H cs cv/\∀(i j:Nat),caps[i]?=some j->∃y,cv[i]?=some y/\sg[j]?=some (some y)
 |[],[],_,_=>⟨[],.nil,λi j e=>by simp at e⟩
 |[],_::_,h,_=>by simp at h
 |_::_,[],h,_=>by simp at h
 | j :: caps, c :: cs, h, hc => by
  obtain⟨d,e1,e2,e3⟩:=hc 0 j rfl
  have e4:c=d:=by simpa using e1
  subst e4;obtain⟨v,e5,e6⟩:=I.slot j c e2
  obtain⟨cv,r,hv⟩:=Kh I caps cs (by simpa using h) λi j e=>by
   obtain⟨d,z1,z2⟩:=hc (i+1) j (by simpa using e)
   exact⟨d,by simpa using z1,z2⟩
  refine⟨v::cv,.cons (e6.rep e3) r,λi k e=>?_⟩
  cases i with
  |zero=>
   have e7:j=k:=by simpa using e
   subst e7;exact⟨v,rfl,e5⟩
  |succ i=>
   obtain⟨y,z1,z2⟩:=hv i k (by simpa using e)
   exact⟨y,by simpa using z1,z2⟩
def zI7{K:W.Frag}{G:Option Addr}{Z:Addr->Prop}{tb:TD}{d:D}{cs:List D}{v:V}{cv:List V}{Q:VK}{P:D->Nat->Prop}(rs:Reps K G Z H (d::cs) (v::cv))(st:zt5 G n H)(gz:∀a,G=some a->Z a)(z0:ZOk K G Z H)
  (ht:tb (some d::cs.map some) n P) (hQ:∀v' H' n' d',(∀a o,G≠some a->H a=some o->H' a=some o)->zt5 G n' H'->Rep K G Z H' d' v'->P d' n'->Q v' H'):tOf ⟨K,G,Z,H⟩ tb (some v::cv.map some) H Q:=by
 have S:=jm (N:=replicate (d::cs).length "") rs st gz z0
 have e1:startD (replicate (d::cs).length "") (d::cs)=some d::cs.map some:=by unfold startD;simp
 have hl:=rs.length
 have e2:start (replicate (d::cs).length "") (v::cv)=some v::cv.map some:=by unfold start;simp at hl;simp[hl]
 rw[e1,e2] at S;refine⟨_,n,P,[],[],⟨[],S⟩,ht,λv' H' n' d' ⟨os2,J⟩ hp=>hQ v' H' n' d' J.fr J.st (Rep.mono (λa _ z=>.inl z) (λ_ _ _ e=>e) _ _ J.pop.2) hp⟩
def zF8{N2:Nat}{tb:TD}{cs:List D}{cv:List V}{ys:List V}{Q:VK}(hK:X.K=A.K) :
  ∀(rows:List D) (xs:List V) (keys:List SRow) (done:List SRow) (dv:List V) (H:Hp),keys.length=rows.length->AmO A os n rho sg H ds vs->Reps A.K A.G (Zof A os) H rows xs->Reps A.K A.G (Zof A os) H cs cv->Reps A.K A.G (Zof A os) H (done.map SRow.d) dv ->
   (∀(i:Nat) (d:D) (x:SRow),rows[i]?=some d->keys[i]?=some x->tb (some d::cs.map some) n λe n2=>e=x.d/\n2=n) ->
   (∀(kv:List V) (H3:Hp),(∀a o,A.G≠some a->H a=some o->H3 a=some o)->AmO A os n rho sg H3 ds vs->Reps A.K A.G (Zof A os) H3 ((done++keys).map SRow.d) (dv++kv)->vR X ys Q (dv++kv) H3) ->
   Ud (λy H' Q'=>(∃G Z,tOf ⟨X.K,G,Z,H'⟩ tb (some y::cv.map some) H' Q')) xs H λrest H3=>vR X ys Q (dv++rest) H3
 |[],xs,[],done,dv,H,_,I,rr,rc,rd,_,fin=>by
  rw[rr.nil_inv];show vR X ys Q (dv++[]) H
  exact fin [] H (λ_ _ _ e=>e) I (by simpa using rd)
 |[],xs,_::_,done,dv,H,hl,_,_,_,_,_,_=>by simp at hl
 |_::_,xs,[],done,dv,H,hl,_,_,_,_,_,_=>by simp at hl
 | d :: rows, xs, k :: keys, done, dv, H, hl, I, rr, rc, rd, htb, fin => by
  obtain⟨v,xs',rfl,r0,rr'⟩:=rr.split;show ∃G Z,tOf ⟨X.K,G,Z,H⟩ tb (some v::cv.map some) H λkk H'=>Ud _ xs' H' λks H''=>vR X ys Q (dv++kk::ks) H'';refine⟨A.G,Zof A os,?_⟩
  suffices z:tOf ⟨A.K,A.G,Zof A os,H⟩ tb (some v::cv.map some) H (λkk H'=>Ud (λy H' Q'=>(∃G Z,tOf ⟨X.K,G,Z,H'⟩ tb (some y::cv.map some) H' Q')) xs' H' λks H''=>vR X ys Q (dv++kk::ks) H'') by
   rw[<- hK] at z;exact z
  refine zI7 (.cons r0 rc) I.st (λa z=>.inl (I.gz a z)) I.zO (htb 0 d k rfl rfl) λv' H' n' d' fr st r ⟨e1,e2⟩=>?_;subst e1;have st':zt5 A.G n H':=e2 ▸ st;have I':=I.called fr st';have mono:∀{es:List D}{ws:List V},Reps A.K A.G (Zof A os) H es ws->Reps A.K A.G (Zof A os) H' es ws:=λh=>Reps.mono (λ_ _ z=>z) (λb u nz e=>fr b u (λz=>nz (.inl (I.gz b z))) e) _ _ h
  have rd':Reps A.K A.G (Zof A os) H' ((done++[k]).map SRow.d) (dv++[v']):=by
   rw[zU];exact(mono rd).append (.cons r .nil)
  have key:=zF8 (N2:=N2) (ys:=ys) (Q:=Q) hK rows xs' keys (done++[k]) (dv++[v']) H' (by simpa using hl) I' (mono rr') (mono rc) rd' (λi d x e1 e2=>htb (i+1) d x (by simpa using e1) (by simpa using e2)) λkv H3 fr3 I3 r3=>by
   have:=fin (v'::kv) H3 (λa o g e=>fr3 a o g (fr a o g e)) I3 (by simpa using r3)
   simpa using this
  have e9:(λrest H3=>vR X ys Q (dv++[v']++rest) H3)=λks H''=>vR X ys Q (dv++v'::ks) H'':=by funext rest H3;rw[yz];rfl
  rw[e9] at key;exact key
variable {e body:Expr}{t1:TAD}{tb:TD}{N:List Str}{caps:List Nat}{k:Nat}{np kp pos lpos:Pos}{c P:Addr}{q p:Str}{params:Arguments}{scope:Scope}{clos:List (Str × Addr)}
def ZS(ti:kX A.K P q)(hK:X.K=A.K)(hm:X.mg "sorted" = none)(hr:Room (k+3) X.A)(ha:PAD A X [e] t1)(L:LamBase X.base X.mg c P)(S:LamScope N p scope clos)(C:Caps X N clos caps)
  (hbody:∀(A1:Around) (f c':Addr) (s:Shared) (H:Hp) (G:Option Addr) (Z:Addr->Prop),Room k (A1.deeper (W.envX q scope s.heap.objs.size f (.ref c') clos))->PD ⟨X.K,G,Z,H⟩ (zb1 X A1 N q scope f c' clos s H) body tb)
  (hq:X.env.qual ++ "<lambda>" = q:=by rfl) (hc:X.env.code=.ref c:=by rfl) (hcl:closureFor scope X.env=pure clos:=by rfl) (hdef:defaultsOf params X.env=([],[]):=by rfl)
  (hb:∀(u pm ctv:Value) (c':Addr),bindArgs (W.kla_fn "<lambda>" q params body scope clos pm (.ref c') ctv) ⟨[u],[]⟩=pure [(p,u)]:=by intros;rfl) (hg:Gl X "sorted" := by rfl)
  (he:starEach [e] X.env=(false,eval e X.env)::starEach [] X.env:=by rfl) (hpl:(backTo pos (starEach [e] X.env)).any (·.1)=false:=by rfl) :
  PD A X (.Call (.Name "sorted" np) [e] [⟨some "key",.Lambda params body scope lpos,kp⟩] pos) (zH0 caps tb t1):=by
 exists (QW (tb:=λH' σ' H'' Q'=>∃G Z,tOf ⟨X.K,G,Z,H'⟩ tb σ' H'' Q') hg hm ha hr hc L hq hcl hdef S C hb (λA1 f c' s H hr pins s1 σ1 H1 Q I h=>by
    obtain⟨G,Z,h⟩:=h
    exact hbody A1 f c' s H G Z hr pins s1 σ1 H1 Q I h) he hpl).imp λsg H Q h=>by
   obtain⟨rho,n,R,ds,vs,I,ht,hQ⟩:=h;refine⟨rho,n,_,ds,vs,I,ht,λws H' n' es' ⟨os,J⟩ hl k=>?_⟩;obtain⟨rows,keys,fl,cs,rfl,h64,hlk,hnum,hnd,hcs,hcap,htb,hfin⟩:=k;obtain⟨J1,rs⟩:=J.split hl;obtain⟨v,rfl,r⟩:=kL rs;obtain⟨a,xs,rfl,sq,rr⟩:=r.lst_inv;have len:xs.length=rows.length:=rr.length;obtain⟨cv,rc,hcv⟩:=Kh J1 caps cs hcs hcap
   refine⟨a,xs,cv,rfl,by rw[hK];exact sq.sq,w5,(J1.zO.2 P q ti).1,by rw[rc.length];exact hcs,hcv,λH2 hH2=>?_⟩
   have kp2:=hH2.keep
   have J2:AmO A os n' rho sg H2 ds vs:=by
    rcases hH2 with rfl |⟨c2,o2,hn2,rfl⟩
    ·exact J1
    ·exact J1.grow hn2
   have mono:∀{es:List D}{ws:List V},Reps A.K A.G (Zof A os) H' es ws->Reps A.K A.G (Zof A os) H2 es ws:=λh=>Reps.mono (λ_ _ z=>z) (λb u _ e=>kp2 b u e) _ _ h;refine zF8 (N2:=0) hK rows xs keys [] [] H2 hlk J2 (mono rr) (mono rc) .nil htb λkv H3 fr I3 rk=>?_;rw[we] at rk ⊢;have rr3:Reps A.K A.G (Zof A os) H3 rows xs:=Reps.mono (λ_ _ z=>z) (λb u nz e=>fr b u (λz=>nz (.inl (J2.gz b z))) e) _ _ (mono rr);rw[we,<- hK] at rk
   have lenk:kv.length=keys.length:=by rw[rk.length,zg]
   have mem:∀i,i<keys.length->keys.getD i Yk∈keys:=λi hi=>by
    rw[zK,zf hi];exact wz hi
   have dist:∀i j,i<keys.length->j<keys.length->i≠j->(keys.getD i Yk).name≠(keys.getD j Yk).name:=λi j hi hj hij e=>by
    have g:∀i (hi:i<keys.length),(keys.map SRow.name)[i]'(by simpa using hi)=(keys.getD i Yk).name:=λi hi=>by
     rw[List.getElem_map,zK,zf hi];rfl
    have f:=wL.mp hnd
    rcases Nat.lt_or_gt_of_ne hij with l |l
    ·exact f i j (by simpa using hi) (by simpa using hj) l (by rw[g i hi,g j hj,e])
    ·exact f j i (by simpa using hj) (by simpa using hi) l (by rw[g i hi,g j hj,e])
   have num:∀i,i<keys.length->(keys.getD i Yk).key.num=fl:=λi hi=>hnum _ (mem i hi)
   refine⟨fl,λi j=>(keys.getD i Yk).lt (keys.getD j Yk),w5,λi j hi hj hij=>SRow.lt_anti (by rw[num i w5,num j w5]) (dist i j w5 w5 hij),λi j l _ _ _ h1 h2=>SRow.lt_trans h1 h2,λi hi=>?_,λi j hi hj hij=>?_,λls hp hU l hl'=>?_⟩
   ·intro pins s σ u J ru
    obtain⟨p,rest,R⟩:=Wr J (rk.getD (enc:=SRow.d) (a0:=Yk) w5) ru
    obtain⟨z,t,_⟩:=R.tup;have ty:=JW J R
    rw[num i w5] at ty
    exact⟨p,_,t,ty⟩
   ·intro pins s σ u v J ru rv B hB
    obtain⟨p,ps,R⟩:=Wr J (rk.getD (enc:=SRow.d) (a0:=Yk) w5) ru
    obtain⟨p',ps',R'⟩:=Wr J (rk.getD (enc:=SRow.d) (a0:=Yk) w5) rv
    have c:=zf7 J (by rw[num i w5,num j w5]) (dist i j w5 w5 hij) R R' hB
    rw[num i w5] at c
    exact c
   ·rw [len] at hp hU
    have hls:∀i∈ls.toList,i<rows.length:=λi hi=>by
     have:=(hp.mem_iff).mp (Array.mem_toList_iff.mp hi)
     rwa [Array.mem_range] at this
    have hsz:ls.size=rows.length:=by rw[hp.size_eq,yQ]
    have rp:Reps A.K A.G (Zof A os) H3 ((ls.toList.map λi=>rows.getD i .non).map id) (ls.toList.map λi=>xs.getD i .non):=YV (enc:=id) (a0:=.non) (by rw[List.map_id];exact rr3) hls
    rw[List.map_id] at rp;refine hQ _ _ _ _ ⟨os,I3.newLst rp hl'⟩ (hfin ls.toList ?_ ?_)
    ·have := Array.perm_iff_toList_perm.mp hp
     rwa [Array.toList_range] at this
    ·rw [xI, wL];intro i j hi hj hij
     have hi':i<ls.size:=by simpa using hi
     have hj':j<ls.size:=by simpa using hj
     have u:=hU i j hij w5
     have g:∀i (hi:i<ls.size),Srt.lab ls i=ls.toList[i]'(by simpa using hi):=λi hi=>by
      refine Srt.jy ?_
      rw[<- yh,zf (by simpa using hi)]
     rw[g i hi',g j hj'] at u;exact u
end
section
variable {P:Program}{w:World}{K:W.Frag}{mg:Str->Option Value}{base:Heap}
def Jv{x qual:Str}{st:Stmt}{f c Pt:Addr}{oc:Value}{od an:Option Addr}{osl:Array (Option Value)}{kV doc pm cdv ct:Value}(lk:K.lookup f=some ⟨oc,od,.func (W.fnOf x qual (kB st) (vB st) (xj st) .none kV doc pm an cdv ct),osl⟩)
  (hn:W.nsIn K mainGlobals x=some (some (.ref f))) (ht:W.tabIn K x=some (c,Pt)):cdv=.ref c:=by
 unfold W.tabIn at ht;rw[hn] at ht;simp only[lk] at ht
 split at ht
 ·split at ht
  ·split at ht
   ·cases ht;first |rfl |assumption
   ·cases ht
  ·cases ht
 ·cases ht
def Fun.okL{x qual:Str}{st:Stmt}{f c Pt:Addr}{fd:FuncData}{N ps:List Str}{k:Nat}{t:TF}{tb:TSD}(F:Fun K x qual st f fd)(hn:W.nsIn K mainGlobals x=some (some (.ref f)))(ht:W.tabIn K x=some (c,Pt))(S:FnScope N ps (xj st))
  (body : ∀ (A0 : Around) (outer : List Env) (s : Shared) (H : Hp) (E : XK) (G : Option Addr) (Z : Addr -> Prop), Room k (A0.deeper (envOfC qual (xj st) s.heap.objs.size f (.ref c))) ->
   zc8 ⟨K,G,Z,H⟩ (zt4 CX0 P w K mg base N qual (xj st) f (.ref c) A0 outer s H E).nox (vB st) tb)
  (spec:∀ds n Q,ds.length=ps.length->t ds n Q->tb { nx:=λ_ n=>Q .non n,rt:=Q } (startD N ds) n):FnOk P w K mg base CX0 (k+1) f fd ps (spD K ps.length t):=by
 exists (by
   obtain⟨oc,od,kV,doc,pm,an,cdv,ct,osl,rfl,lk,hcd⟩:=F.ex;have e:=Jv lk hn ht;subst e;refine xe4 lk hcd S (λvs H Q E h=>?_) λA0 outer s H vs Q E hr h=>?_
   ·obtain⟨G,Z,n,R,ds,hl,rs,_⟩:=h;rw[rs.length];exact hl
   ·obtain ⟨G, Z, n, R, ds, hl, rs, hst, gz, z0, ht, hQ⟩ := h;refine⟨_,PSs.nox (body A0 outer s H E G Z hr),startD N ds,n,_,[],[],⟨[],jm rs hst gz z0⟩,spec ds n R hl ht,?_⟩;have zz:∀ (os:List (Nat × Addr)) a,Z a->Zof ⟨K,G,Z,H⟩ os a:=λos a z=>.inl z;refine⟨λrho' n' sg' H' ⟨os,I⟩ q=>?_,λd n' v rho' sg' H' ⟨os,I⟩ q=>?_,λ_ _ _ _ _ q=>q.elim,λ_ _ _ _ _ q=>q.elim⟩
    ·exact hQ .non H' n' .non I.fr I.st (Rep.ofS rfl) q
    ·exact hQ v H' n' d I.fr I.st (Rep.mono (λa _ z=>zz os a z) (λ_ _ _ e=>e) _ _ I.pop.2) q)
end
abbrev KC(K:W.Frag)(mg:Str->Option Value)(base:Heap):Prop:=∀x∈ky,∀c P,W.tabIn K x=some (c,P)->LamBase base mg c P
def zm3{P:Program}{w:World}{K:W.Frag}{mg mb:Str->Option Value}{CX:CXT}{k:Nat}{fa a:Addr}{fd:FuncData}{x:Str}{sp:Sp}{s₁:Shared}{vs:List Value}{ns:List Int}
  (KX:K.In s₁.heap) (hns:s₁.heap.Ns mainGlobals mg) (hb:s₁.heap.Ns builtinsNs mb) (hbb:∀x:Str,x ≠ "__name__" -> mb x=bootBuiltins x) (hlim:s₁.heap.NoLimit) (hdig:s₁.heap.NoDigits) (hg:s₁.gens=#[])
  (hT:∀x∈ky,∀c P,W.tabIn K x=some (c,P)->W.CodeHd s₁.heap c P/\s₁.heap.get? P=some (W.tabObj #[])) (hu:∀P q q',kX K P q->kX K P q'->q=q') (hnt:W.noTabs K=true)
  (hbm:∃bm ob,mg "__builtins__" = some (.ref bm)/\bm≠builtinsNs/\s₁.heap.get? bm=some ob/\ob.cls=.type "module" /\ ob.dict=some builtinsNs/\ob.data=.plain)
  (ha:s₁.heap.get? a=some { cls:=.type "list",data:=.seq vs.toArray }) (hi:IntsAre vs ns) (hl:ns.length<=sizeLine) (hr:Room k callerA)
  (F:∀base:Heap,K.In base->base.Ns mainGlobals mg->base.NoDigits->KC K mg base->FnOk P w K mg base CX k fa fd [x] sp) (hbind:∀(s:Shared) (u:Value),BindsTo s fd ⟨[u],[]⟩ [(x,u)])
  (hsp:∀H:Hp,zD6 H->SqL K H a (ns.map V.int)->(∀P q,kX K P q->H P=some (.cot q))->sp [.ref a] H (λv H'=>v=.bl true/\∀P q,H P=some (.cot q)->H' P=some (.cot q)) λ_ _ _=>False)
  (hCX:∀H e s',CX [] H s₁ (λ_ _ _=>False) e s'->False) :
  codeAny (model P w) callerA (.call (.ref fa) ⟨[.ref a],[]⟩) (λr s'=>r=.ok (.ret (.bool true))/\OldK s₁.heap s'.heap/\s'.os=s₁.os/\AllBare s'.gens) s₁:=by
 classical
 have rv:=Ub hi;have lenV:=hi.length;have tabAt:∀{b:Addr},(∃q,kX K b q)->∃c,W.CodeHd s₁.heap c b/\s₁.heap.get? b=some (W.tabObj #[]):=λ{b} ⟨q,x,hx,c,e,_⟩=>⟨c,hT x hx c b e⟩
 have core:∀H:Hp,(∀b,(H b=none)\/(b=a/\∃o xs,H b=some (.frz o (.lst xs)))\/∃q,kX K b q/\H b=some (.cot q))->(∀P q,kX K P q->H P=some (.cot q))->SqL K H a (ns.map V.int)->HOk P w H s₁.heap->(H a≠none->K.lookup a=none) ->
   codeAny (model P w) callerA (.call (.ref fa) ⟨[.ref a],[]⟩) (λr s'=>r=.ok (.ret (.bool true))/\OldK s₁.heap s'.heap/\s'.os=s₁.os/\AllBare s'.gens) s₁:=by
  intro H hO hTH hS hok hK;have base_of:∀{b:Addr}{o:Obj},s₁.heap.get? b=some o->H b=none->(zt3 s₁.heap H).get? b=some o:=λe n=>zB1 e n
  have noA:∀{b:Addr}{o:Obj},s₁.heap.get? b=some o->o.cls≠.type "list" -> o≠W.tabObj #[]->H b=none:=λ{b o} e d1 d2=>by
   rcases hO b with z |⟨rfl,_⟩ |⟨q,t,_⟩
   ·exact z
   ·rw[ha] at e;cases e;exact absurd rfl d1
   ·obtain⟨c,_,e2⟩:=tabAt ⟨q,t⟩;rw[e2] at e;cases e;exact absurd rfl d2
  have noD:∀{b:Addr}{o:Obj}{es:Array DictEntry}{ep:Nat},s₁.heap.get? b=some o->o.data=.dict es ep->H b=none:=λ{b o es ep} e d=>by
   rcases hO b with z |⟨rfl,_⟩ |⟨q,t,_⟩
   ·exact z
   ·rw[ha] at e;cases e;have d':Data.seq vs.toArray _=Data.dict es ep:=d;cases d'
   ·obtain⟨c,_,e2⟩:=tabAt ⟨q,t⟩;rw[e2] at e;cases e;have d':Data.fields #[]=Data.dict es ep:=d;cases d'
  have nsK:∀{b:Addr}{m:Str->Option Value},s₁.heap.Ns b m->(zt3 s₁.heap H).Ns b m:=λ{b m} ⟨o,es,ep,e,d,r⟩=>⟨o,es,ep,base_of e (noD e d),d,r⟩
  have hKb:K.In (zt3 s₁.heap H):=λb o e=>base_of (KX b o e) (by
   rcases hO b with z |⟨rfl,o',xs,z⟩ |⟨q,t,z⟩
   ·exact z
   ·rw[hK (by rw[z];simp)] at e;cases e
   ·obtain ⟨c, _, e2⟩ := tabAt ⟨q, t⟩;rw[KX b o e] at e2;cases e2;have h2:=wQ.mp hnt (b,_) (W.mem_of_lookupK e)
    exact absurd (show false=true from h2) zI)
  have hM:Mod K mg (zt3 s₁.heap H):=⟨hKb,nsK hns,⟨mb,nsK hb,hbb⟩,let ⟨mc,h1,h2⟩:=hlim;⟨mc,nsK h1,h2⟩⟩
  have e0:Env0 P w K mg (zt3 s₁.heap H) callerA [] s₁ H:=⟨rfl,hM,λb o e=>zN8 e,Nat.le_of_eq (zn9 _ _),trivial,λb hb=>absurd (show b∈([]:List Addr) from hb) (by simp),hok,.of_eq hg⟩
  have hLA:KC K mg (zt3 s₁.heap H):=λy hy c Pt e=>by
   obtain⟨⟨o,vs,file,tf,flags,tg,inF,text,tt,e1,r1,r2,r3,r4,r5,r6,r7,r8,hne⟩,_⟩:=hT y hy c Pt e;obtain⟨bm,ob,b1,b2,b3,b4,b5,b6⟩:=hbm
   refine⟨⟨o,vs,file,tf,flags,tg,inF,text,tt,base_of e1 (noA e1 (by rw[r1];decide) (λz=>by rw[z] at r1;cases r1)),r1,r2,r3,r4,r5,r6,r7,r8,hne⟩,bm,ob,b1,b2,base_of b3 (noA b3 (by rw[b4];decide) (λz=>by rw[z] at b4;cases b4)),b4,b5,b6⟩
  have hOC:zD6 H:=λb=>by
   rcases hO b with z |⟨_,z⟩ |⟨q,_,z⟩
   ·exact .inl z
   ·exact .inr (.inl z)
   ·exact .inr (.inr ⟨q,z⟩)
  refine codeAny_mono ((F _ hKb (nsK hns) (let ⟨mc,h1,h2⟩:=hdig;⟨mc,nsK h1,h2⟩) hLA).run callerA [] s₁ H ⟨[.ref a],[]⟩ [.ref a] [.ref a] _ _ hr e0 (hbind s₁ (.ref a)) (.cons rfl .nil) (hsp H hOC hS hTH)) λr s' h=>?_
  cases r with
  |error e=>exact(hCX H e s' h).elim
  | ok fl =>
   cases fl with
   |next=>exact False.elim h
   |brk=>exact False.elim h
   |cont=>exact False.elim h
   | ret u =>
    obtain⟨v,H',os,bare,un,hok',r',q,qT⟩:=h;have q':v=.bl true:=q;subst q';obtain rfl:u=Value.bool true:=r'
    have old:∀b o,s₁.heap.get? b=some o->asItWas s₁.heap s'.heap b o:=λb o e=>by
     rcases hO b with z |⟨_,ob,xs,z⟩ |⟨q,t,z⟩
     ·exact .inl (un.keep b o e z (by intro z;exact absurd (show b∈([]:List Addr) from z) (by simp)) (by simp))
     ·have z2:=un.frzs b ob _ z;obtain⟨e1,_⟩:=hok b _ z;obtain⟨e2,_⟩:=hok' b _ z2;rw[e] at e1;cases e1;exact .inl e2
     ·obtain ⟨c, hc, e2⟩ := tabAt ⟨q, t⟩;obtain⟨ps,e3,_⟩:=hok' b _ (qT b q z);have e4:=e2;rw[e] at e4;cases e4
      exact .inr (.inl ⟨(hc.tab e2).isCodeTable,rfl,#[],ps,rfl,by rw[Array.empty_append];exact e3⟩)
    refine⟨rfl,⟨old,λb o e=>?_⟩,os,bare⟩
    exact un.there b o e (by simp)
 have ta:∀q,¬ kX K a q:=λq t=>by
  obtain⟨c,_,e2⟩:=tabAt ⟨q,t⟩;rw[ha] at e2;cases e2
 let HT:Hp:=λb=>if h:∃q,kX K b q then some (.cot h.choose) else none
 have HTpos:∀b q,kX K b q->HT b=some (.cot q):=λb q t=>by
  have h:∃q,kX K b q:=⟨q,t⟩
  show(if h:∃q,kX K b q then some (HO.cot h.choose) else none)=_
  rw[dif_pos h,hu b _ q h.choose_spec t]
 have HTany:∀b,HT b=none\/∃q,kX K b q/\HT b=some (.cot q):=λb=>by
  by_cases h:∃q,kX K b q
  ·obtain⟨q,t⟩:=h;exact .inr ⟨q,t,HTpos b q t⟩
  ·exact .inl (dif_neg h)
 have HTa:HT a=none:=by
  rcases HTany a with z |⟨q,t,_⟩
  ·exact z
  ·exact absurd t (ta q)
 have HTok:∀b u,HT b=some u->∃q,u=.cot q/\s₁.heap.get? b=some (W.tabObj #[]):=λb u e=>by
  rcases HTany b with z |⟨q,t,z⟩
  ·rw[e] at z;cases z
  ·rw[e] at z;cases z;obtain⟨c,_,e2⟩:=tabAt ⟨q,t⟩;exact⟨q,rfl,e2⟩
 cases hk:K.lookup a with
 | some o =>
  have e:=KX a o hk;rw[ha] at e;cases e
  refine core HT (λb=>?_) HTpos (.inr ⟨_,vs.toArray,_,hk,rfl,rfl,rfl,by rw[zt,lenV];exact hl,by simpa using rv⟩) (λb u z=>?_) λz=>absurd HTa z
  ·rcases HTany b with z | z
   ·exact .inl z
   ·exact .inr (.inr z)
  ·obtain⟨q,rfl,e⟩:=HTok b u z;exact⟨#[],e,.nil⟩
 | none =>
  refine core (upd HT a (.frz { cls:=.type "list",data:=.seq vs.toArray } (.lst (ns.map V.int)))) (λb=>?_) (λb q t=>?_) (.inl (.inr ⟨{ cls:=.type "list",data:=.seq vs.toArray },wU⟩)) (λb u z=>?_) λ_=>hk
  ·by_cases hb : b = a
   ·subst hb;exact .inr (.inl ⟨rfl,_,_,wU⟩)
   ·rw [xX hb]
    rcases HTany b with z |z
    ·exact .inl z
    ·exact .inr (.inr z)
  ·rw[xX (fun(z:b=a)=>ta q (by rw[<- z];exact t))];exact HTpos b q t
  ·by_cases hb : b = a
   ·subst hb;rw[wU] at z;cases z
    exact⟨ha,by rw[zg];exact hl,vs,_,rv,ha⟩
   ·rw[xX hb] at z;obtain⟨q,rfl,e⟩:=HTok b u z;exact⟨#[],e,.nil⟩
def zt8{l:W.OpenLaw}{n k:Nat}{q:Program}{loose:List Str}{XP:(Str->Option Value)->Heap->Prop}{YP:World->Heap->Prop}{d:DefRec}{K:Params->W.Frag}{CX:World->CXT}{sp:World->Sp}{x:Str}
  (hn:l.most=some n) (hn2:n<=sizeLine) (hdf:d.params.defaults=[]) (hr:Room k callerA)
  (hY:∀(w:World) (h:Heap),YP w h->(K w.params).In h)
  (hrec:∀(w:World),∀y∈ky,∀c P,W.tabIn (K w.params) y=some (c,P)->∃d,(recsOf q).find? (λe=>e.name == y)=some d) (hu:∀(w:World) P q q',kX (K w.params) P q->kX (K w.params) P q'->q=q') (hnt:∀w:World,W.noTabs (K w.params)=true)
  (F : ∀ (w : World) (mg : Str -> Option Value) (fa : Addr) (h : Heap), (K w.params).In h -> h.Ns mainGlobals mg -> mg d.name = some (.ref fa) ->
   ∃fd:FuncData,(∀(s:Shared) (u:Value),BindsTo s fd ⟨[u],[]⟩ [(x,u)]) /\
    ∀base:Heap,(K w.params).In base->base.Ns mainGlobals mg->base.NoDigits->KC (K w.params) mg base->FnOk l.prog w (K w.params) mg base (CX w) k fa fd [x] (sp w))
  (hsp:∀(w:World) (H:Hp) (a:Addr) (ns:List Int),ns.length<=n->zD6 H->SqL (K w.params) H a (ns.map V.int)->(∀P q,kX (K w.params) P q->H P=some (.cot q))->sp w [.ref a] H (λv H'=>v=.bl true/\∀P q,H P=some (.cot q)->H' P=some (.cot q)) λ_ _ _=>False)
  (hCX:∀(w:World) (H:Hp) (s:Shared) (e:Value) (s':Shared),CX w [] H s (λ_ _ _=>False) e s'->False) :
  W.WalkO q loose XP YP l.row.toRowW d [] (λf vs=>PySem.call f vs):=by
 refine Att.attach_call hn hdf λw s₀ s₁ mg mb fa o pm cd doc a vs ns G Y ho hd hcd hmg hobj hints hlen hg=>?_;have KX:=hY w _ Y;obtain⟨fd,hb,hF⟩:=F w mg fa _ KX G.T.g hmg
 exact zm3 KX G.T.g G.T.b G.T.builtins G.T.nolimit G.T.nodigits hg (λy hy c P e=>let ⟨d,hr⟩:=hrec w y hy c P e;W.tab_of G.T KX hr e) (hu w) (hnt w) G.T.bmain hobj hints (zy hlen hn2) hr hF hb (λH hO hS hT=>hsp w H a ns hlen hO hS hT) λH e s'=>hCX w H s₁ e s'
def evL{α:Type}:List α->List α
 |[]=>[]
 |[x]=>[x]
 |x::_::r=>x::evL r
def odL{α:Type}:List α->List α
 |[]=>[]
 |[_]=>[]
 |_::y::r=>y::odL r
def Zj{α:Type}(o:Bool)(l:List α):List α:=if o then odL l else evL l
theorem zo9:∀l:List Value,((List.range ((l.length+1)/2)).map λk=>2*k).filterMap (λi=>l[i]?)=evL l
 |[]=>rfl
 |[x]=>by simp[evL,List.range_succ]
 |x::y::r=>by
  have e:((x::y::r).length+1)/2=(r.length+1)/2+1:=by simp only[zG];lia
  rw[e,List.range_succ_eq_map,zJ,yO];show x::_=x::evL r;rw[<- zo9 r,zR,yg,yg];rfl
theorem zk6:∀l:List Value,((List.range (l.length/2)).map λk=>2*k+1).filterMap (λi=>l[i]?)=odL l
 |[]=>rfl
 |[x]=>by simp[odL]
 |x::y::r=>by
  have e:(x::y::r).length/2=r.length/2+1:=by simp only[zG];lia
  rw[e,List.range_succ_eq_map,zJ,yO];show y::_=y::odL r;rw[<- zk6 r,zR,yg,yg];rfl
def zo2(o:Bool)(l:List Value):slicePick l.toArray (if o then some 1 else none) none (some 2)=(Zj o l).toArray:=by
 unfold slicePick
 cases o with
 | false =>
  show((sliceRange 0 (l.toArray.size:Int) 2).filterMap λi=>l.toArray[i]?).toArray=(evL l).toArray;rw[<- zo9 l]
  congr 1
  have e:sliceRange 0 (l.toArray.size:Int) 2=(List.range ((l.length+1)/2)).map λk=>2*k:=by
   unfold sliceRange;simp only[zt]
   have c:(if (2:Int) > 0 then(if (0:Int)<(l.length:Int) then((l.length:Int)-0+2-1)/2 else 0) else(if (0:Int) > (l.length:Int) then(0-(l.length:Int)-2-1)/(-2) else 0)).toNat=(l.length+1)/2:=by
    rw[if_pos w6]
    split<;>lia
   rw[c]
   exact yL λk _=>by lia
  rw[e];simp
 | true =>
  show((sliceRange (max 0 (min (1:Int) (l.toArray.size:Int))) (l.toArray.size:Int) 2).filterMap λi=>l.toArray[i]?).toArray=(odL l).toArray;rw[<- zk6 l]
  congr 1
  have e:sliceRange (max 0 (min (1:Int) (l.toArray.size:Int))) (l.toArray.size:Int) 2=(List.range (l.length/2)).map λk=>2*k+1:=by
   by_cases h0:l.length=0
   ·have:l=[]:=zX.mp h0;subst this;rfl
   ·have em : max 0 (min (1 : Int) (l.toArray.size : Int)) = 1 := by simp only [zt]; lia
    rw[em];unfold sliceRange;simp only[zt]
    have c:(if (2:Int) > 0 then(if (1:Int)<(l.length:Int) then((l.length:Int)-1+2-1)/2 else 0) else(if (1:Int) > (l.length:Int) then(1-(l.length:Int)-2-1)/(-2) else 0)).toNat=l.length/2:=by
     rw[if_pos w6]
     split<;>lia
    rw[c]
    exact yL λk _=>by lia
  rw[e];simp
theorem YH{α:Type}(o:Bool):∀l:List α,(Zj o l).length<=l.length
 |[]=>by cases o<;>simp[Zj,evL,odL]
 |[x]=>by cases o<;>simp[Zj,evL,odL]
 |x::y::r=>by
  have:=YH o r
  cases o with
  |false=>show(x::evL r).length<=_;have h:(evL r).length<=r.length:=this;simp only[zG];lia
  |true=>show(y::odL r).length<=_;have h:(odL r).length<=r.length:=this;simp only[zG];lia
theorem UV{α:Type}:∀l:List α,(odL l++evL l).Perm l
 |[]=>.nil
 |[x]=>.refl _
 |x::y::r=>by
  show((y::odL r)++(x::evL r)).Perm (x::y::r);refine List.perm_middle.trans (.cons x ?_);exact .cons y (UV r)
theorem VG{α β:Type}(f:α->β)(o:Bool):∀l:List α,Zj o (l.map f)=(Zj o l).map f
 |[]=>by cases o<;>rfl
 |[x]=>by cases o<;>rfl
 |x::y::r=>by
  have:=VG f o r
  cases o with
  |false=>show f x::evL (r.map f)=_;have h:evL (r.map f)=(evL r).map f:=this;rw[h];rfl
  |true=>show f y::odL (r.map f)=_;have h:odL (r.map f)=(odL r).map f:=this;rw[h];rfl
theorem Vals.half(o:Bool):∀{xs:List V}{us:List Value},Vals xs us->Vals (Zj o xs) (Zj o us)
 |_,_,.nil=>by cases o<;>exact .nil
 |_,_,.cons r .nil=>by
  cases o
  ·exact .cons r .nil
  ·exact .nil
 |_,_,.cons r (.cons r2 t)=>by
  have:=Vals.half o t;cases o
  ·exact .cons r this
  ·exact .cons r2 this
theorem Reps.half{K:W.Frag}{G:Option Addr}{Z:Addr->Prop}{H:Hp}(o:Bool):∀{ds:List D}{vs:List V},Reps K G Z H ds vs->Reps K G Z H (Zj o ds) (Zj o vs)
 |[],vs,h=>by rw[h.nil_inv];cases o<;>exact .nil
 |[d],vs,h=>by
  obtain⟨v,r,rfl,q,t⟩:=h.split;rw[t.nil_inv];cases o
  ·exact .cons q .nil
  ·exact .nil
 |d::d2::ds,vs,h=>by
  obtain⟨v,r,rfl,q,t⟩:=h.split;obtain⟨v2,r2,rfl,q2,t2⟩:=t.split;have:=Reps.half o t2;cases o
  ·exact .cons q this
  ·exact .cons q2 this
section
variable {X:Cx}{e st:Expr}{te:TE}{lo:Option Expr}{pos p2:Pos}
def zT7(K:W.Frag)(o:Bool)(te:TE):TE:=λσ H Q=>te σ H λx H1=>∃a xs,x=.ref a/\SqL K H1 a xs/\∀p,H1 p=none->Q (.ref p) (upd H1 p (.lst (Zj o xs)))
def zi3{o:Bool}(he:PE X e te)(hlo:PO X lo λ_ H Q=>Q (if o then some 1 else none) H)(hst:PE X st λ_ H Q=>Q (.int 2) H):PE X (.Subscript e (.Slice lo none (some st) p2) pos) (zT7 X.K o te):=by
 intro pins s σ H Q I h;refine Subscript_ (thn (he pins s σ H _ I h) λv s1 ⟨x,H1,I1,r1,q1⟩=>?_);obtain⟨a,xs,rfl,hx,q1⟩:=q1
 refine wpAny_Slice (thn (hlo pins s1 σ H1 (λo' H2=>o'=(if o then some 1 else none)/\H2=H1) I1 ⟨rfl,rfl⟩) λvl s2 ⟨l,H2,I2,pl,el,eH⟩=>?_)
 subst el eH;rw[evalPart_none];refine zd ?_;rw[evalPart_some];refine thn (hst pins s2 σ H2 (λy H3=>y=.int 2/\H3=H2) I2 ⟨rfl,rfl⟩) λu s3 ⟨y,H3,I3,ry,ey,eH⟩=>?_;subst ey eH;obtain⟨tk,rfl⟩:=ry;cases r1;have I4:Inv X pins σ H3 { s3 with heap:=s3.heap.push { cls:=.type "slice",data:=.fields #[vl,.none,.int 2 tk] } }:=I3.kept (t':=s3.toks) λb ob q=>ze _ q;obtain⟨its,r,ht,hz⟩:=I4.list hx;have hlen:=r.length
 refine tail_any (ops:=[.ref a,.ref s3.heap.objs.size]) ht.isList.typeIs slot_list_getitem.lookup (wpAny_getItem_list_slice ht.isList (Heap.IsSliceOf.new ..) pl .none (.int 2 tk) (by simp) ?_ (by rw[zt]<;>lia)) (by with_unfolding_all rfl)
 rw[zo2];refine⟨.ref _,_,I4.laid (t':=s3.toks) (o:=.lst (Zj o xs)) (λb ob q=>ze _ q) (zn _) ?_,rfl,q1 _ (I4.hok.fresh (zn _))⟩;exact⟨zy (YH o xs) hz,Zj o its,0,r.half o,zp _ rfl⟩
def Kk(hc:X.calm=true):kG X (.builtin "max") (λxs H Q=>∃i j l,xs=[.int i,.int j,.int l]/\Q (.int (max (max i j) l)) H):=by
 intro pins s σ H xs us Q I r h;obtain⟨i,j,l,rfl,q⟩:=h
 cases r with
 | cons r1 r2 =>
  obtain⟨u,w',rfl,⟨t',rfl⟩,⟨t'',rfl⟩⟩:=zI1 r2;obtain⟨t,rfl⟩:=r1;refine max_three_ints (I.ok.hd hc) λh' tk k=>⟨_,H,I.kept k,?_,q⟩
  by_cases h1:j > i
  ·rw [if_pos h1]
   by_cases h2:l > j
   ·rw[if_pos h2];exact⟨_,congrArg (λz=>Value.int z _) w5⟩
   ·rw[if_neg h2];exact⟨_,congrArg (λz=>Value.int z _) w5⟩
  ·rw [if_neg h1]
   by_cases h2:l > i
   ·rw[if_pos h2];exact⟨_,congrArg (λz=>Value.int z _) w5⟩
   ·rw[if_neg h2];exact⟨_,congrArg (λz=>Value.int z _) w5⟩
end
section
variable {A:AC}{X:Cx}{a:Expr}{ta:TD}{pos p2 p3 p4:Pos}
def zC4(o:Bool)(ta:TD):TD:=λrho n P=>ta rho n λd n1=>zl7 d λfs=>P (.lst (Zj o fs)) n1
@[simp] theorem xv2{o ta rho n P}:zC4 o ta rho n P=ta rho n λd n1=>zl7 d λfs=>P (.lst (Zj o fs)) n1:=rfl
def zo3{o:Bool}(hK:X.K=A.K){sg:St}{H:Hp}{Q:VK}(h:tOf A (zC4 o ta) sg H Q):zT7 X.K o (tOf A ta) sg H Q:=by
 obtain⟨rho,n,P,ds,vs,I,ht,hQ⟩:=h;refine⟨rho,n,_,ds,vs,I,ht,λv H1 n1 d ⟨os,J⟩ k=>?_⟩;obtain⟨fs,hd,k⟩:=k;obtain⟨J1,r⟩:=J.pop;rw[hK]
 rcases hd with rfl |rfl
 ·obtain⟨l,xs,rfl,sq,rs⟩:=r.lst_inv;exact⟨l,xs,rfl,sq.sq,λp hp=>hQ _ _ n1 _ ⟨os,J1.newLst (rs.half o) hp⟩ k⟩
 ·obtain⟨l,xs,rfl,sq,rs⟩:=r.fz_inv;exact⟨l,xs,rfl,sq,λp hp=>hQ _ _ n1 _ ⟨os,J1.newLst (rs.half o) hp⟩ k⟩
def xw5{j:Nat}(hK:X.K=A.K)(ha:PD A X a ta):PD A X (.Subscript a (.Slice none none (some (.Constant (.int 2) j p3)) p2) pos) (zC4 false ta):=by exists (zi3 (o:=false) ha (λpins s σ H Q I q=>by rw[evalPart_none];exact zd ⟨none,H,I,.none,q⟩) Uw).imp λsg H Q h=>zo3 hK h
def xw4{i j:Nat}(hK:X.K=A.K)(ha:PD A X a ta):PD A X (.Subscript a (.Slice (some (.Constant (.int 1) i p4)) none (some (.Constant (.int 2) j p3)) p2) pos) (zC4 true ta):=by exists (zi3 (o:=true) ha (λpins s σ H Q I q=>zi0 Uw pins s σ H Q I ⟨1,rfl,q⟩) Uw).imp λsg H Q h=>zo3 hK h
def xc8:List D->(D->Prop)->Prop:=λes k=>∃i j l,es=[.int i,.int j,.int l]/\k (.int (max (max i j) l))
@[simp] theorem xt4{i j l k}:xc8 [.int i,.int j,.int l] k↔k (.int (max (max i j) l)):=⟨fun⟨_,_,_,e,h⟩=>by cases e;exact h,λh=>⟨_,_,_,rfl,h⟩⟩
def zq5:vo A (λxs H Q=>∃i j l,xs=[.int i,.int j,.int l]/\Q (.int (max (max i j) l)) H) xc8:=by
 rintro os n rho sg H ds vs es ws k Q I rs ⟨i,j,l,rfl,q⟩ hQ;obtain⟨v,r,rfl,r1,r2⟩:=rs.split;obtain⟨v',v'',rfl,r',r''⟩:=Uq r2
 exact⟨i,j,l,by rw[r1.int_inv,r'.int_inv,r''.int_inv],hQ _ H _ ⟨os,I.push (Rep.ofS rfl)⟩ q⟩
def zn2(caps:List Nat)(tb:TD)(rho:Rho)(n1:Nat)(R:D->Nat->Prop)(es:List D):Prop:=∃(rows:List D) (keys:List SRow) (fl:Bool) (cs:List D),es=[.lst rows]/\rows.length<64/\keys.length=rows.length/\(∀x∈keys,x.key.num=fl)/\(keys.map SRow.name).Nodup /\
 cs.length=caps.length/\(∀(i j:Nat),caps[i]?=some j->∃d,cs[i]?=some d/\rho[j]?=some (some d)/\xZ d=true)/\(∀(i:Nat) (d:D) (x:SRow),rows[i]?=some d->keys[i]?=some x->tb (some d::cs.map some) n1 λe n2=>e=x.d/\n2=n1) /\
 ∀ls:List Nat,ls.Perm (List.range rows.length)->(ls.map λi=>keys.getD i Yk).Pairwise (λx y=>x.lt y=true)->R (.lst (ls.map λi=>rows.getD i .non)) n1
@[simp] theorem xk6{caps tb t1 rho n R}:zH0 caps tb t1 rho n R=t1 rho n λes n1=>zn2 caps tb rho n1 R es:=rfl
def YQ{α:Type}{caps:List Nat}{tb:TD}{rho:Rho}{n:Nat}{R:D->Nat->Prop}(enc:α->D)(key:α->SRow)(fl:Bool)(cs:List D)(ts:List α)(a0:α)(h64:ts.length<64)(hn:∀t∈ts,(key t).key.num=fl)(hnd:(ts.map λt=>(key t).name).Nodup)(hcs:cs.length=caps.length)
  (hcap:∀(i j:Nat),caps[i]?=some j->∃d,cs[i]?=some d/\rho[j]?=some (some d)/\xZ d=true) (htb:∀t∈ts,tb (some (enc t)::cs.map some) n λe n2=>e=(key t).d/\n2=n)
  (fin:∀us:List α,us.Perm ts->us.Pairwise (λa b=>(key a).lt (key b)=true)->R (.lst (us.map enc)) n):zn2 caps tb rho n R [.lst (ts.map enc)]:=by
 refine⟨ts.map enc,ts.map key,fl,cs,rfl,by rw[zg];exact h64,by rw[zg,zg],λx hx=>?_,by rw[zR];exact hnd,hcs,hcap,λi d x e1 e2=>?_,λls hp hs=>?_⟩
 ·obtain⟨t,ht,rfl⟩:=zi.mp hx;exact hn t ht
 ·rw [zA] at e1 e2
  cases et:ts[i]? with
  |none=>rw[et] at e1;cases e1
  |some t=>
   rw[et] at e1 e2;cases e1;cases e2;exact htb t (zN et)
 ·rw [zg] at hp;have hls:∀ i∈ls,i<ts.length:=λi hi=>ye.mp (hp.mem_iff.mp hi)
  have g:∀{β:Type} (f:α->β) (b0:β) (i:Nat),i<ts.length->(ts.map f).getD i b0=f (ts.getD i a0):=λf b0 i hi=>by
   rw[zK,zK,zA,zf hi];rfl
  have e1:(ls.map λi=>(ts.map enc).getD i .non)=(ls.map λi=>ts.getD i a0).map enc:=by
   rw[zR];exact yL λi hi=>g enc .non i (hls i hi)
  have e2:(ls.map λi=>(ts.map key).getD i Yk)=(ls.map λi=>ts.getD i a0).map key:=by
   rw[zR];exact yL λi hi=>g key Yk i (hls i hi)
  rw[e2,xI] at hs;rw[e1];refine fin _ ?_ hs;have p2:=hp.map λi=>ts.getD i a0
  rwa [UL] at p2
end
def zF7(N:List Str)(p:Str)(sc:Scope):Bool:=
 ((sc.kind == .function&&(!sc.isCoroutine&&!sc.isGenerator))&&sc.names.all (λz=>z.2 != .cell&&(z.2 != .free||(N.drop 1).contains z.1)))&&((N[0]? == some p&&sc.names.lookup p == some .local)&&(N.drop 1).all (λx=>sc.names.lookup x == some .free))
def VA{N:List Str}{p:Str}{sc:Scope}{clos:List (Str × Addr)}(h:zF7 N p sc=true)(hc:∀x∈N.drop 1,∃c,clos.lookup x=some c):LamScope N p sc clos:=by
 unfold zF7 at h;simp only[zD,Bool.or_eq_true,wQ,beq_iff_eq,bne_iff_ne,Bool.not_eq_true',List.contains_iff_mem] at h;obtain⟨⟨⟨h1,h2,h3⟩,h4⟩,⟨h5,h6⟩,h7⟩:=h;refine⟨h1,h2,h3,λx hx=>(h4 x hx).1,h5,h6,λx hx=>?_,λi x e=>?_⟩
 ·rcases (h4 _ (PySem.mem_of_lookup hx)).2 with z | z
  ·exact absurd rfl z
  ·exact hc x z
 ·refine h7 x ?_
  exact zN (l:=N.drop 1) (i:=i) (by rw[yf];rw[Nat.add_comm];exact e)
def Caps.one{X:Cx}{p y:Str}{a:Addr}{j:Nat}(hk:X.env.kindOf y=some .cell)(hj:X.N[j]?=some y)(hc:X.env.cells.lookup y=some a):Caps X [p,y] [(y,a)] [j]:=by
 refine⟨rfl,λi x e=>?_,λx c e=>?_,λi x e=>?_⟩
 ·cases i with
  |zero=>cases e;exact⟨hk,j,rfl,hj⟩
  |succ i=>simp at e
 ·rw [zT] at e
  split at e
  ·rename_i h;cases e;rw[eq_of_beq h];exact hc
  ·cases e
 ·cases i with
  |zero=>cases e;exact⟨a,by rw[zT,beq_self_eq_true]⟩
  |succ i=>simp at e
def zD1{p y:Str}{a:Addr}:∀x∈[p,y].drop 1,∃c,[(y,a)].lookup x=some c:=λx hx=>by
 have e:x=y:=by simpa using hx
 subst e
 exact⟨a,by rw[zT,beq_self_eq_true]⟩
def zD9{K:W.Frag}{x:Str}{f c P:Addr}{o1 p1:Value}{o2 p2:Option Addr}{o4 p4:Array (Option Value)}{fd:FuncData}{vv:Array Value}(a:W.nsIn K mainGlobals x=some (some (.ref f)))(l:K.lookup f=some ⟨o1,o2,.func fd,o4⟩)(le:fd.code=.ref c)(lc:K.lookup c=some ⟨p1,p2,.fields vv,p4⟩)(lp:vv[11]?=some (.ref P)) :
  W.tabIn K x=some (c,P):=by
 unfold W.tabIn;rw[a];simp only[l,le,lc,lp]
def ze1(K:W.Frag):Bool:=match W.tabIn K "_law_grown",W.tabIn K "_law_drawn" with
 |some (_,P),some (_,P')=>P != P'
 |_,_=>true
def zI3(K:W.Frag)(hne:ze1 K=true)(P:Addr)(q q':Str)(h:kX K P q)(h':kX K P q'):q=q':=by
 obtain⟨x,hx,c,e,rfl⟩:=h;obtain⟨y,hy,c',e',rfl⟩:=h'
 have e1:x = "_law_grown" \/ x = "_law_drawn" := by simpa [ky] using hx
 have e2:y = "_law_grown" \/ y = "_law_drawn" := by simpa [ky] using hy
 unfold ze1 at hne
 rcases e1 with rfl |rfl<;>rcases e2 with rfl |rfl
 ·rfl
 ·rw[e,e'] at hne;simp at hne
 ·rw[e,e'] at hne;simp at hne
 ·rfl
section
variable {prog:Program}{w:World}{A:Around}{R:Result->Shared->Prop}{s:Shared}{elt tg1 it1 tg2 it2:Expr}{ifs1 ifs2:List Expr}{scope:Scope}{pos:Pos}{it acc:Value}{env:Env}
end
section
variable {X':Cx}{P5:List (Addr × Obj)}{σ6:St}{H8:Hp}{s8:Shared}{elt tg1 it1 tg2 it2:Expr}{ifs1 ifs2:List Expr}{scope:Scope}{pos:Pos}{g2:TG}{tt2:TT}{te:TE}
end
section
variable {X:Cx}{scope:Scope}{own M:List Str}{pins:List (Addr × Obj)}{σ:St}{H2:Hp}{s2:Shared}{elt tg1 it1 tg2 it2:Expr}{ifs1 ifs2:List Expr}{pos:Pos}{g1 g2:TG}{tt1 tt2:TT}{te:TE}{wi2:TI}
end
def Zz:Rho->Rho->Prop
 |[],[]=>True
 |none::r,_::r'=>Zz r r'
 |some d::r,o::r'=>o=some d/\Zz r r'
 |_,_=>False
@[simp] theorem xj0:Zz [] []=True:=rfl
@[simp] theorem xi9{o:Option D}{r r':Rho}:Zz (none::r) (o::r')=Zz r r':=rfl
@[simp] theorem xi8{d:D}{o:Option D}{r r':Rho}:Zz (some d::r) (o::r')=(o=some d/\Zz r r'):=rfl
@[simp] theorem Xs:∀r:Rho,Zz r r
 |[]=>True.intro
 |none::r=>Xs r
 |some d::r=>⟨rfl,Xs r⟩
def xM8(g2:TGD)(tt2:TBD)(te:TD)(rho2:Rho)(acc:List D)(R:List D->Nat->Prop)(items2:List D)(n:Nat):Prop:=∃J2:Nat->List D->Nat->Prop,J2 0 acc n /\
 (∀i d acc n,items2[i]?=some d->J2 i acc n->acc.length<sizeLine/\g2 d rho2 λrho3=>Zz rho2 rho3/\tt2 rho3 n λc n2=>if c=true then te rho3 n2 λe n3=>J2 (i+1) (acc++[e]) n3 else J2 (i+1) acc n2) /\
 ∀acc n,J2 items2.length acc n->R acc n
def zq9(own:Nat)(g1:TGD)(tt1:TBD)(it2:TID)(g2:TGD)(tt2:TBD)(te:TD)(rho:Rho)(P:D->Nat->Prop)(items:List D)(n1:Nat):Prop:=∃J:Nat->List D->Nat->Prop,J 0 [] n1 /\
 (∀i d acc n,items[i]?=some d->J i acc n->g1 d (replicate own none++rho) λrho2=>rho2.drop own=rho/\tt1 rho2 n λc n2=>if c=true then it2 rho2 n2 (xM8 g2 tt2 te rho2 acc (J (i+1))) else J (i+1) acc n2) /\
 ∀acc n,J items.length acc n->acc.length<=sizeLine/\P (.lst acc) n
def xf6(it:TID)(own:Nat)(g1:TGD)(tt1:TBD)(it2:TID)(g2:TGD)(tt2:TBD)(te:TD):TD:=λrho n P=>it rho n (zq9 own g1 tt1 it2 g2 tt2 te rho P)
@[simp] theorem xl1{it own g1 tt1 it2 g2 tt2 te rho n P}:xf6 it own g1 tt1 it2 g2 tt2 te rho n P=it rho n (zq9 own g1 tt1 it2 g2 tt2 te rho P):=rfl
section
variable {A:AC}{X:Cx}{elt tg1 it1 tg2 it2:Expr}{ifs1 ifs2:List Expr}{scope:Scope}{own M:List Str}{pos:Pos}{i1 i2:TID}{g1 g2:TGD}{tt1 tt2:TBD}{te:TD}
end
section
variable {X:Cx}
end
def zR3(te:TD):TD:=λrho n P=>te rho n λd n1=>∃(bs:List Bool) (j:Nat),d=.lst (bs.map D.bl)/\bs[j]?=some true/\(∀m,m<j->bs[m]?=some false)/\bs.length<=1000/\P (.int j) n1
@[simp] theorem zX9{te rho n P}:zR3 te rho n P=te rho n λd n1=>∃(bs:List Bool) (j:Nat),d=.lst (bs.map D.bl)/\bs[j]?=some true/\(∀m,m<j->bs[m]?=some false)/\bs.length<=1000/\P (.int j) n1:=rfl
section
variable {A:AC}{X:Cx}
end
section
variable {A:AC}{X:Cx}{e:Expr}{t1:TAD}{pos:Pos}
def zJ5(i j:Nat)(t:TAD):TSD:=λF rho n=>Zc rho[i]? λes=>Zc rho[j]? λfs=>i≠j/\es.length<sizeLine/\t rho n λds n1=>∃(k:Nat) (d:D),ds=[.int k]/\k<1000000/\fs[k]?=some d/\F.nx ((rho.set j (some (.own (fs.eraseIdx k)))).set i (some (.own (es++[d])))) n1
@[simp] theorem zX3{i j t F rho n}:zJ5 i j t F rho n=Zc rho[i]? λes=>Zc rho[j]? λfs=>i≠j/\es.length<sizeLine/\t rho n λds n1=>∃(k:Nat) (d:D),ds=[.int k]/\k<1000000/\fs[k]?=some d/\F.nx ((rho.set j (some (.own (fs.eraseIdx k)))).set i (some (.own (es++[d])))) n1:=rfl
def zU6(i j:Nat)(t:TAD):TSD:=λF rho n=>i<rho.length/\j<rho.length/\t rho n λds n1=>zS2 ds λfs=>F.nx ((rho.set i (some (.own fs))).set j (some (.own []))) n1
@[simp] theorem xh4{i j t F rho n}:zU6 i j t F rho n=(i<rho.length/\j<rho.length/\t rho n λds n1=>zS2 ds λfs=>F.nx ((rho.set i (some (.own fs))).set j (some (.own []))) n1):=rfl
end
section
variable {A:AC}{X:Cx}
def WJ{n:Nat}(hr:Room n X.A):kG X (.builtin "repr") (λxs H Q=>(∃i:Int,xs=[.int i]/\i.natAbs.log2<1920/\Q (.str (toString i)) H)\/(xs=[.non]/\Q (.str "None") H)\/∃(y:V) (p:PyData),xs=[y]/\zs8 X H y p/\p.showable=true/\p.hasDict=false/\p.depth<=20/\p.shown.length<=sizeLine/\Q (.str p.shown) H):=by
 intro pins s σ H xs us Q I r h
 rcases h with ⟨i,rfl,hi,q⟩ |h
 ·obtain⟨u,rfl,hu⟩:=ZD r;obtain⟨t,rfl⟩:=hu;exact PySem.P.repr_of_int hi ⟨.str (toString i),H,I.tok _,⟨_,rfl⟩,q⟩
 ·exact zc5 hr pins s σ H xs us Q I r h
def zJ1:D->Str
 |.int i=>toString i
 |d=>zf1 d
def xl3(d:D):Prop:=(∃i:Int,d=.int i/\i.natAbs.log2<1920)\/xw8 d
def zG1:List D->(D->Prop)->Prop:=λes k=>∃d,es=[d]/\xl3 d/\k (.str (zJ1 d))
@[simp] theorem xj6{d k}:zG1 [d] k↔(xl3 d/\k (.str (zJ1 d))):=⟨fun⟨_,e,h⟩=>by cases e;exact h,λh=>⟨_,rfl,h⟩⟩
def Qt(hK:X.K=A.K):vo A (λxs H Q=>(∃i:Int,xs=[.int i]/\i.natAbs.log2<1920/\Q (.str (toString i)) H)\/(xs=[.non]/\Q (.str "None") H)\/∃(y:V) (p:PyData),xs=[y]/\zs8 X H y p/\p.showable=true/\p.hasDict=false/\p.depth<=20/\p.shown.length<=sizeLine/\Q (.str p.shown) H) zG1:=by
 rintro os n rho sg H ds vs es ws k Q I rs ⟨d,rfl,h,q⟩ hQ
 rcases h with ⟨i,rfl,hi⟩ |h
 ·obtain⟨v,rfl,r⟩:=kL rs;have e:v=.int i:=r.int_inv;subst e;exact .inl ⟨i,rfl,hi,hQ _ H _ ⟨os,I.push (Rep.ofS (d:=.str (toString i)) rfl)⟩ q⟩
 ·have e : zJ1 d = zf1 d := by
   rcases h with rfl |⟨h,_⟩
   ·rfl
   ·cases d<;>first |rfl |(simp[zG4] at h;done)
  rw[e] at q;exact .inr (zC9 hK os n rho sg H ds vs [d] ws k Q I rs ⟨d,rfl,h,q⟩ hQ)
end
def atS:List Str->List D->Str->Option D
 |k::ks,d::ds,x=>if k=x then some d else atS ks ds x
 |_,_,_=>none
section
variable {X:Cx}{A:AC}{a b:Expr}{ta tb:TD}{pos p:Pos}{g:Str}{ks:List Str}{ds:List D}
def xO1(ks:List Str)(ds:List D)(ta:TD):TD:=λrho n P=>ta rho n λd n1=>∃x,d=.str x/\P (.bl (atS ks ds x).isSome) n1
@[simp] theorem xD5{ta:TD}{rho:Rho}{n:Nat}{P:D->Nat->Prop}:xO1 ks ds ta rho n P=ta rho n λd n1=>∃x,d=.str x/\P (.bl (atS ks ds x).isSome) n1:=rfl
def xO0(ks:List Str)(ds:List D)(tb:TD):TD:=λrho n P=>tb rho n λd n1=>∃x d',d=.str x/\atS ks ds x=some d'/\P d' n1
@[simp] theorem xD4{tb:TD}{rho:Rho}{n:Nat}{P:D->Nat->Prop}:xO0 ks ds tb rho n P=tb rho n λd n1=>∃x d',d=.str x/\atS ks ds x=some d'/\P d' n1:=rfl
end
section
variable {prog:Program}{w:World}{A:Around}{E:Value->Shared->Prop}{s:Shared}
end
section
variable {X:Cx}
end
section
variable {A:AC}
end
theorem UM{α β:Type}(f:α->β):∀(l:List α) (j:Nat),(l.eraseIdx j).map f=(l.map f).eraseIdx j
 |[],_=>rfl
 |_::_,0=>rfl
 |x::l,j+1=>congrArg (f x::·) (UM f l j)
section
variable {κ:Type} [DecidableEq κ]
def XE(xs:List (κ × Addr × Value))(k:κ):List (κ × Addr × Value):=xs.filter λx=>decide (x.1≠k)
theorem Qr:∀{xs:List (κ × Addr × Value)}{k:κ},k ∉ xs.map (·.1)->XE xs k=xs
 |[],_,_=>rfl
 |x::xs,k,h=>by
  have h1:x.1≠k:=λe=>h (by simp[e])
  have h2:XE xs k=xs:=Qr λz=>h (zk _ z);show List.filter _ (x::xs)=_
  rw[xh (by simpa using h1)]
  exact congrArg _ h2
theorem Kb:∀{xs:List (κ × Addr × Value)}{k:κ}{p:Addr × Value}{j:Nat},(xs.map (·.1)).Nodup->xs[j]?=some (k,p)->xs.eraseIdx j=XE xs k
 |[],_,_,_,_,h=>by simp at h
 |x::xs,k,p,0,hn,h=>by
  have e:x=(k,p):=by simpa using h
  subst e;have hn':=xz.mp hn;show xs=List.filter _ ((k,p)::xs)
  rw[xm (by simp)]
  exact(Qr hn'.1).symm
 |x::xs,k,p,j+1,hn,h=>by
  have h':xs[j]?=some (k,p):=by simpa using h
  have hn':=xz.mp hn;have hx:x.1≠k:=λe=>hn'.1 (zi.mpr ⟨(k,p),zN h',e.symm⟩);show x::xs.eraseIdx j=List.filter _ (x::xs)
  rw[xh (by simpa using hx)]
  exact congrArg _ (Kb hn'.2 h')
theorem Ku:∀{xs:List (κ × Addr × Value)}{k:κ}{p:Addr × Value},atKey xs k=some p->∃j:Nat,xs[j]?=some (k,p)
 |[],_,_,h=>by simp[atKey] at h
 | x :: xs, k, p, h => by
  by_cases e:x.1=k
  ·refine⟨0,?_⟩;simp[atKey,wu,e] at h;simp[<- h,<- e]
  ·obtain ⟨j, hj⟩ := Ku (xs := xs) (k := k) (p := p) (by simpa [atKey, wu, e] using h)
   exact⟨j+1,by simpa using hj⟩
variable {prog:Program}{w:World}{knd:HeapKind prog w κ}{A:Around}{E:Value->Shared->Prop}{s:Shared}{d a:Addr}{k:κ}{xs:List (κ × Addr × Value)}{p:Addr × Value}
theorem zu5{Q:Option DictEntry->Shared->Prop}(hu:knd.room A)(hkey:knd.is s.heap k a)(hm:s.heap.DictOfH knd d xs)(hp:atKey xs k=some p)(hsz:xs.length<=sizeLine)
  (hQ:∀h',h'.DictOfH knd d (XE xs k)->Heap.SameBut d s.heap h'->Q (some ⟨knd.hash k,.ref p.1,p.2⟩) { s with heap:=h',toks:=s.toks+knd.draws k }):wpAny (model prog w) A (Builtin.Dict.takeOut d (.ref a)) Q E s:=by
 obtain⟨o,es,ep,ho,hc,hdat,hent,his,hn⟩:=hm;unfold Builtin.Dict.takeOut;refine xx (zb (knd.pyHash hu hkey (zb (wpAny_dictFind_heap (s:={ s with toks:=s.toks+knd.draws k }) hu hkey ho hdat hent his hn (λhno=>?_) λj q hj=>?_))))
 ·rw[atKey_none_of_get hno] at hp;cases hp
 ·have eq : q = p := by rw [atKey_of_get hn hj] at hp; exact zF hp
  subst eq
  have e1:es[j]?=some ⟨knd.hash k,.ref q.1,q.2⟩:=by rw[entry_at hent j,hj];rfl
  refine zb (xS (s:={ s with toks:=s.toks+knd.draws k }) ho hdat ?_);rw[e1]
  have e2:es.size<=sizeLine:=by rw[size_of_entries hent];exact hsz
  have e3:(es.eraseIdxIfInBounds j).toList=(XE xs k).map (entryOfKey knd):=by
   rw[<- Kb hn hj,UM,<- hent];obtain⟨l⟩:=es;simp
  have e4:((XE xs k).map (·.1)).Nodup:=hn.sublist (List.Sublist.map _ yN);refine zb (wpAny_updateDictKeys (hz:=e2) (s:={ s with toks:=s.toks+knd.draws k }) ho hdat (zd (hQ _ ⟨_,_,ep+1,xO _ ho (Obj.isFreed_of_dict (Obj.data_mapDictKeys hdat _)),hc.mapDictKeys _,Obj.data_mapDictKeys hdat _,e3,λx hx=>?_,e4⟩ (Heap.SameBut.update ..))));exact knd.keeps (his x (zx.mp hx).1) ho hdat (Heap.SameBut.update ..)
theorem xM2(hu:knd.room A.in1)(hkey:knd.is s.heap k a)(hm:s.heap.DictOfH knd d xs)(hp:atKey xs k=some p)(hsz:xs.length<=sizeLine){Q:Value->Shared->Prop}
  (hQ:∀h' t',h'.DictOfH knd d (XE xs k)->Heap.SameBut d s.heap h'->Q p.2 { s with heap:=h',toks:=t' }):wpAny (model prog w) A (call (.builtin "dict.pop") [.ref d,.ref a]) Q E s:=by
 refine call_meetsIn PySem.F.slot_dict_pop hm.typeIs PySem.F.entry_dict_pop (PySem.F.args_dict_pop_2 _ _) (S:=λB R s'=>s'=s/\B=A/\∀h',h'.DictOfH knd d (XE xs k)->Heap.SameBut d s.heap h'->R (.ok (.ret p.2)) { s with heap:=h',toks:=s.toks+knd.draws k }) (.of_wp ?_) ⟨rfl,rfl,λh' h1 h2=>hQ h' _ h1 h2⟩;rintro B R s' ⟨rfl,rfl,h⟩;obtain⟨o,es,ep,ho,hc,hdat,hent,his,hn⟩:=id hm;obtain⟨j,hj⟩:=Ku hp
 have hne:es.isEmpty=false:=by
  have:=size_of_entries hent;have hjl:j<xs.length:=(zq.mp hj).1
  cases es with
  |mk l=>cases l with
   |nil=>simp at this;lia
   |cons _ _=>rfl
 unfold Builtin.«dict.pop» Builtin.Dict.keyAndDefault;refine zb (zb (wpAny_notOrdered_dict hm.typeIs ?_));show wpAny _ _ (pure (d,Value.ref a,none)) _ _ _;refine zd ?_;have hk0:(keyPart (Value.ref a)).isSome=false:=rfl;simp only[hk0,zV,if_false];refine zb (xS ho hdat (zb (zd ?_)));rw[hne];simp only[zV,if_false];refine zb (zu5 hu hkey hm hp hsz λh' h1 h2=>?_);simp only[Option.isNone_some,zV,if_false];exact zb (yl (zd ⟨p.2,rfl,h h' h1 h2⟩))
def ke(xs ys:List (κ × Addr × Value)):List (κ × Addr × Value):=ys.foldl (λz y=>storedH z y.1 y.2.1 y.2.2) xs
theorem Ji{xs ys:List (κ × Addr × Value)}{i:Nat}{y:κ × Addr × Value}(e:ys[i]?=some y):ke xs (ys.take (i+1))=storedH (ke xs (ys.take i)) y.1 y.2.1 y.2.2:=by
 unfold ke;rw[xG,e,List.foldl_append];rfl
theorem QP(xs:List (κ × Addr × Value))(k:κ)(a:Addr)(v:Value):(storedH xs k a v).length<=xs.length+1:=by
 unfold storedH
 split
 ·simp
 ·simp
theorem Xm:∀(ys xs:List (κ × Addr × Value)),(ke xs ys).length<=xs.length+ys.length
 |[],xs=>zn _
 |y::ys,xs=>by
  have h1:=Xm ys (storedH xs y.1 y.2.1 y.2.2);have h2:=QP xs y.1 y.2.1 y.2.2;have h3:ke xs (y::ys)=ke (storedH xs y.1 y.2.1 y.2.2) ys:=rfl;rw[h3,zG];lia
theorem QE{xs:List (κ × Addr × Value)}{k:κ}(h:k ∉ xs.map (·.1)):atKey xs k=none:=
 atKey_none_of_get λj p e=>h (zi.mpr ⟨(k,p),zN e,rfl⟩)
theorem Wy:∀(ys xs:List (κ × Addr × Value)),((xs++ys).map (·.1)).Nodup->ke xs ys=xs++ys
 |[],xs,_=>by simp[ke]
 | y :: ys, xs, hn => by
  have h0:y.1 ∉ xs.map (·.1):=by
   rw[zU,wG] at hn
   exact λm=>hn.2.2 _ m _ (by simp) rfl
  have h3:ke xs (y::ys)=ke (storedH xs y.1 y.2.1 y.2.2) ys:=rfl
  rw[h3,storedH_new (QE h0),Wy ys (xs++[(y.1,y.2.1,y.2.2)]) (by simpa using hn)]
  simp
theorem WF{α:Type}(f:α->Int)(c:Int):∀(l:List α),(l.map f).Nodup->(l.filter λx=>f x == c).length<=1
 |[],_=>by simp
 | x :: l, h => by
  obtain⟨h1,h2⟩:=xz.mp h
  by_cases e:f x=c
  ·have z : (l.filter λx => f x == c) = [] := by
    rw[List.filter_eq_nil_iff];intro y hy t;exact h1 (zi.mpr ⟨y,hy,(eq_of_beq t).trans e.symm⟩)
   rw[xh (by simpa using e),z]
   simp
  ·rw [xm (by simpa using e)]
   exact WF f c l h2
variable {prog:Program}{w:World}{knd:HeapKind prog w κ}{A:Around}{E:Value->Shared->Prop}{s:Shared}{d o a:Addr}{k:κ}{v:Value}{xs ys:List (κ × Addr × Value)}
theorem QQ{Q:Unit->Shared->Prop}(hu:knd.room A)(hkey:knd.is s.heap k a)(hm:s.heap.DictOfH knd d xs)(hsz:xs.length<=sizeLine)
  (hQ:∀h',h'.DictOfH knd d (storedH xs k a v)->Heap.SameBut d s.heap h'->Q () { s with heap:=h' }):wpAny (model prog w) A (dictSetHashed d (.ref a) (knd.hash k) v) Q E s:=by
 obtain⟨ob,es,ep,ho,hc,hdat,hent,his,hn⟩:=hm;unfold dictSetHashed;refine xx (zb (wpAny_dictFind_heap hu hkey ho hdat hent his hn (λhno=>?_) λj q hj=>?_))
 ·have e0 := storedH_new (atKey_none_of_get hno) a v
  have e1:es.size<=sizeLine:=by rw[size_of_entries hent];exact hsz
  refine zb (yo (wpAny_updateDictKeys (hz:=e1) ho hdat (hQ _ ⟨_,_,ep+1,xO _ ho (Obj.isFreed_of_dict (Obj.data_mapDictKeys hdat _)),hc.mapDictKeys _,Obj.data_mapDictKeys hdat _,?_,λx hx=>?_,?_⟩ (Heap.SameBut.update ..))))
  ·rw[e0];simp[hent,entryOfKey]
  ·rw [e0] at hx
   rcases xf.mp hx with m |m
   ·exact knd.keeps (his x m) ho hdat (Heap.SameBut.update ..)
   ·cases zM.mp m;exact knd.keeps hkey ho hdat (Heap.SameBut.update ..)
  ·rw [e0, zU, wG]
   refine⟨hn,by simp,λx hx y hy=>?_⟩
   have hy':y=k:=by simpa using hy
   subst hy';exact λz=>not_mem_keys_of_get hno (z ▸ hx)
 ·have e0 := storedH_old (atKey_of_get hn hj) a v;refine zb (yo (zb (wpAny_updateDict ho hdat (wpAny_point (hQ _ ⟨_,_,ep,xO _ ho (Obj.isFreed_of_dict (Obj.data_mapDict hdat _)),hc.mapDict _,Obj.data_mapDict hdat _,?_,λx hx=>?_,?_⟩ (Heap.SameBut.update ..))))))
  ·rw [e0];have t:=modify_map_putAt (entryOfKey knd) (λe:DictEntry=>{ e with val:=v }) k v (λ_ _=>rfl) hn hj;rw[<- hent] at t;cases es
   simpa using t
  ·rw [e0] at hx;obtain⟨y,hy,rfl⟩:=zi.mp hx;unfold putAt
   split
   ·exact knd.keeps (his y hy) ho hdat (Heap.SameBut.update ..)
   ·exact knd.keeps (his y hy) ho hdat (Heap.SameBut.update ..)
  ·rw[e0,keys_map_putAt];exact hn
theorem zo7{nm:String}{ob:Obj}{es:Array DictEntry}{ep:Nat}{Q:Array DictEntry->Shared->Prop}(ho:s.heap.get? o=some ob)(hdat:ob.data=.dict es ep)(hent:es.toList=ys.map (entryOfKey knd))
  (hty:∀y∈ys,s.TypeIs (.ref y.2.1) "tuple") (hh:(ys.map λy=>knd.hash y.1).Nodup) (hQ:Q es s):wpAny (model prog w) A (Builtin.Dict.entriesForEmpty nm o) Q E s:=by
 unfold Builtin.Dict.entriesForEmpty;refine zb (xS ho hdat (zb ?_));rw[<- Array.forIn_toList];refine wpAny_forIn_list _ (λrest _ s'=>s'=s/\∃l,es.toList=l++rest) _ ?_ ?_ _ _ ⟨rfl,[],rfl⟩
 ·rintro e rest b s' ⟨rfl, l, el⟩
  have hm:e∈es.toList:=by rw[el];simp
  rw[hent] at hm;obtain⟨y,hy,rfl⟩:=zi.mp hm
  have one:(es.filter (·.hash == (entryOfKey knd y).hash)).size<=1:=by
   have t:=WF (λe:DictEntry=>e.hash) (entryOfKey knd y).hash es.toList (by rw[hent,zR];exact hh)
   rw[<- xQ,Array.toList_filter];exact t
  show wpAny _ _ (Builtin.Dict.quietEq (.ref y.2.1) >>= _) _ _ _;refine zb ?_;unfold Builtin.Dict.quietEq;refine zb (wpAny_specialOf (hty y hy) PySem.F.slot_tuple_eq.lookup (zd ?_))
  rw[if_pos w6,if_neg w5]
  exact zd ⟨rfl,l++[entryOfKey knd y],by rw[el];simp⟩
 ·rintro b s' ⟨rfl,_⟩;exact zd hQ
theorem za8{nm:String}{Q:Unit->Shared->Prop}(hu:knd.room A)(hdo:d≠o)(hoS:(o == sysModules)=false)(hd:s.heap.DictOfH knd d xs)(ho:s.heap.DictOfH knd o ys)
  (hty:∀y∈ys,s.TypeIs (.ref y.2.1) "tuple") (hh:xs=[]->(ys.map λy=>knd.hash y.1).Nodup) (hsz:xs.length+ys.length<=sizeLine)
  (hQ:∀h',h'.DictOfH knd d (ke xs ys)->Heap.SameBut d s.heap h'->Q () { s with heap:=h' }):wpAny (model prog w) A (Builtin.Dict.mergeDict nm d o) Q E s:=by
 obtain⟨od,esd,epd,hod,hcd,hdd,hed,hid,hnd⟩:=id hd;obtain⟨oo,eso,epo,hoo,hco,hdo',heo,hio,hno⟩:=id ho;have hlen:eso.size=ys.length:=size_of_entries heo;have walk:∀(i:Nat) (h':Heap),i<=ys.length->h'.DictOfH knd d (ke xs (ys.take i))->Heap.SameBut d s.heap h'->h'.get? o=some oo:=λi h' _ _ sb=>(sb.2 o (Ne.symm hdo)).trans hoo;unfold Builtin.Dict.mergeDict
 rw[if_neg (by simpa using hdo)]
 unfold Builtin.Dict.showsAll
 rw[if_neg (by rw[hoS];exact zI)]
 refine zb (zd (zb (xS hoo hdo' ?_)));dsimp only
 split
 case' isTrue=>
  refine zb (xS hod hdd ?_)
  split
  case isTrue hemp=>
   have hx:xs=[]:=by
    have e0:=size_of_entries hed;rw[Array.isEmpty_iff.mp hemp] at e0;exact zX.mp e0.symm
   refine zb (zo7 hoo hdo' heo hty (hh hx) ?_)
   rw[hx,Wy ys [] (by simpa using hno)] at hQ
   split
   ·have hz : eso.size <= sizeLine + 1 := by lia
    refine zb (wpAny_updateDictKeysTo hod hdd (zd (hQ _ ⟨_,_,epd+1,xO _ hod (Obj.isFreed_of_dict (Obj.data_mapDictKeys hdd _)),hcd.mapDictKeys _,Obj.data_mapDictKeys hdd _,by simpa using heo,λx hm=>?_,by simpa using hno⟩ (Heap.SameBut.update ..))) hz)
    exact knd.keeps (hio x (by simpa using hm)) hod hdd (Heap.SameBut.update ..)
   ·rename_i hne
    have h0:eso=#[]:=Array.isEmpty_iff.mp (by simpa using hne)
    have hy:ys=[]:=zX.mp (by rw[<- hlen,h0];rfl)
    rw[hy] at hQ;rw[hx] at hd;exact zd (hQ _ hd (Heap.SameBut.refl _ _))
 all_goals
  refine zb (wpAny_dictEpoch hoo hdo' (zb (xS hoo hdo' (zb ?_))));rw[Std.Legacy.Range.forIn_eq_forIn_range'];simp only[Std.Legacy.Range.size,Nat.sub_zero,Nat.add_sub_cancel,Nat.div_one]
  refine wpAny_forIn_list _ (λrest _ s'=>∃h' i,s'={ s with heap:=h' }/\rest=List.range' i (ys.length-i)/\i<=ys.length/\h'.DictOfH knd d (ke xs (ys.take i))/\Heap.SameBut d s.heap h') _ ?_ ?_ _ _ ⟨s.heap,0,rfl,by rw[hlen];rfl,xJ _,by simpa [ke] using hd,Heap.SameBut.refl _ _⟩
  ·rintro x rest b s' ⟨h', i, rfl, hr, hi, hd', hs'⟩
   have hlt:i<ys.length:=by
    rcases Nat.lt_or_ge i ys.length with h |h
    ·exact h
    ·rw[Nat.sub_eq_zero_of_le h] at hr;exact nomatch hr
   have e0:ys.length-i=(ys.length-(i+1))+1:=w5
   rw[e0,List.range'_succ] at hr;injection hr with hr1 hr2;subst hr1 hr2;have hoo':=walk x h' hi hd' hs';obtain⟨y,hy⟩:∃y,ys[x]?=some y:=⟨ys[x],zf hlt⟩;refine zb (xS hoo' hdo' ?_);rw[entry_at heo x,hy];have hmem:y∈ys:=zN hy;have hkey:knd.is h' y.1 y.2.1:=knd.keeps (hio y hmem) hod hdd hs'
   have hm:(ke xs (ys.take x)).length<=sizeLine:=by
    have q:=Xm (ys.take x) xs;rw[yc] at q;lia
   refine zb (xx (QQ (s:={ s with heap:=h' }) hu hkey hd' hm λh2 hd2 hs2=>?_));have hoo2:h2.get? o=some oo:=(hs2.2 o (Ne.symm hdo)).trans hoo';refine zb (wpAny_dictEpoch (s:={ s with heap:=h2 }) hoo2 hdo' ?_)
   rw[if_neg (by simp)]
   exact zd ⟨h2,x+1,rfl,rfl,hlt,by rw[Ji hy];exact hd2,hs'.trans hs2⟩
  ·rintro b s' ⟨h', i, rfl, hr, hi, hd', hs'⟩
   have hin:i=ys.length:=by
    rcases Nat.lt_or_ge i ys.length with h |h
    ·rw[show ys.length-i=(ys.length-(i+1))+1 by lia,List.range'_succ] at hr;exact nomatch hr
    ·exact Nat.le_antisymm hi h
   subst hin;rw[wy] at hd';exact zd (hQ h' hd' hs')
theorem zI2{Q:Value->Shared->Prop}(hu:knd.room A.in1)(hdo:d≠o)(hoS:(o == sysModules)=false)(hd:s.heap.DictOfH knd d xs)(ho:s.heap.DictOfH knd o ys)
  (hty:∀y∈ys,s.TypeIs (.ref y.2.1) "tuple") (hh:xs=[]->(ys.map λy=>knd.hash y.1).Nodup) (hsz:xs.length+ys.length<=sizeLine)
  (hQ:∀h',h'.DictOfH knd d (ke xs ys)->Heap.SameBut d s.heap h'->Q .none { s with heap:=h' }):wpAny (model prog w) A (call (.builtin "dict.update") [.ref d,.ref o]) Q E s:=by
 refine call_meetsIn PySem.F.slot_dict_update hd.typeIs PySem.F.entry_dict_update (PySem.F.args_dict_update_2 _ _) (S:=λB R s'=>s'=s/\B=A/\∀h',h'.DictOfH knd d (ke xs ys)->Heap.SameBut d s.heap h'->R (.ok (.ret .none)) { s with heap:=h' }) (.of_wp ?_) ⟨rfl,rfl,λh' h1 h2=>hQ h' h1 h2⟩;rintro B R s' ⟨rfl,rfl,h⟩;unfold Builtin.«dict.update» Builtin.Dict.selfAndRest;refine zb (zb (wpAny_notOrdered_dict hd.typeIs ?_));show wpAny _ _ (pure (d,[Value.ref o])) _ _ s';refine zd ?_;show wpAny _ _ (Builtin.Dict.updateFrom "dict.update" d (.ref o) [] .none) _ _ s';unfold Builtin.Dict.updateFrom;refine zb (wpAny_typeOf ho.typeIs ?_)
 rw[if_neg w6]
 refine zb ?_;unfold Builtin.Dict.merge;refine zb ?_;unfold Builtin.Dict.readDirectly;refine zb (wpAny_isInstance ho.typeIs isSubtype_dict_dict ?_);simp only[Bool.not_true,zV,if_false];refine zb (wpAny_specialOf ho.typeIs F.slot_dict_iter.lookup (zd ?_));simp only[beq_self_eq_true,if_true];refine zb (zd (za8 hu hdo hoS hd ho hty hh hsz λh' h1 h2=>?_));show wpAny _ _ (Builtin.Dict.addKeywords d [] >>= _) _ _ _;exact zb (zd (zd ⟨.none,rfl,h h' h1 h2⟩))
end
def KT.drop{H:Hp}{kvs:List (List Key × V)}{xs:List (List Key × Addr × Value)}(r:KT H kvs xs)(k:List Key):KT H (Wk kvs k) (XE xs k):=by
 induction r with
 |nil=>exact .nil
 | @cons p q ps qs hq t ih =>
  by_cases e:p.1=k
  ·have e' : q.1 = k := hq.1 ▸ e;unfold Wk XE
   rw[xm (by simpa using e),xm (by simpa using e')]
   exact ih
  ·have e' : ¬ q.1 = k := hq.1 ▸ e;unfold Wk XE
   rw[xh (by simpa using e),xh (by simpa using e')]
   exact .cons hq ih
def zG9{P:Program}{w:World}{H':Hp}{h':Heap}{a:Addr}{kvs:List (List Key × V)}{xs:List (List Key × Addr × Value)}(z:kvs.length<=sizeLine)(hd:(a == sysModules)=false)(rel:KT H' kvs xs)(dd:h'.DictOfH (tupleKind (yk P w)) a xs) :
  ObjOk P w H' h' a (.dT kvs):=let ⟨o,es,ep,h1,h2,h3,h4,_,h5⟩:=dd;⟨z,hd,xs,rel,o,es,ep,h1,h2,h3,h4,h5⟩
section
variable {X:Cx}{pins:List (Addr × Obj)}{σ:St}{H:Hp}{s:Shared}{a b:Addr}{A:Around}{E:Value->Shared->Prop}{kvs more:List (List Key × V)}{k:List Key}{v:V}
def KT.over{ob:HO}(e:H a=some (.dT kvs)){l:List (List Key × V)}{xs:List (List Key × Addr × Value)}(r:KT H l xs):KT (upd H a ob) l xs:=
 r.keeps λc ys q=>by rw[xX (λz=>by rw[z,e] at q;cases q)];exact q
def zF9(I:Inv X pins σ H s)(h:SqT X.K H b (k.map kV)):(tupleKind (yk X.prog X.w)).is s.heap k b:=by
 obtain⟨its,r,⟨o,h1,h2,n,h3⟩,_⟩:=I.tuple h
 exact⟨o,its.toArray,n,h1,h2,h3,by simpa using Xu r⟩
def xf1{Q:Value->Shared->Prop}(hu:A.units+1<cLine)(I:Inv X pins σ H s)(e:H a=some (.dT kvs))(eb:SqT X.K H b (k.map kV))(l:Yh kvs k=some v)
  (h:∀w' s',Inv X pins σ (upd H a (.dT (Wk kvs k))) s'->RelV v w'->Q w' s'):wpAny (model X.prog X.w) A (call (.builtin "dict.pop") [.ref a,.ref b]) Q E s:=by
 obtain⟨z,hd,xs,rel,dd⟩:=zb7 I.hok e
 obtain⟨w',hw,rw'⟩:=RelO.some_of (v:=v) (o:=(atKey xs k).map (·.2)) (by rw[<- l];exact rel.val k)
 obtain⟨p,hp,rfl⟩:=Option.map_eq_some_iff.mp hw
 refine xM2 (tupleKind_room_in1 hu) (zF9 I eb) dd hp (by rw[<- rel.length];exact z) λh' t' d' hs=>h _ _ ?_ rw'
 have he:∃q,h'.get? a=some q:=let ⟨q,_,_,hq,_⟩:=d';⟨q,hq⟩
 exact zp6 I (by rw[e];exact True.intro) hs he (zG9 (zy (wN _ _) z) hd ((rel.drop k).over e) d')
def KT.mem{l:List (List Key × V)}{xs:List (List Key × Addr × Value)}(r:KT H l xs):∀x∈xs,∃ks,H x.2.1=some (.tup ks):=by
 induction r with
 |nil=>intro x hx;cases hx
 |@cons p q ps qs hq t ih=>
  intro x hx
  rcases zj.mp hx with e |hx
  ·subst e;exact⟨_,hq.2.1⟩
  ·exact ih x hx
def Yo(kvs more:List (List Key × V)):List (List Key × V):=more.foldl (λacc kv=>QT acc kv.1 kv.2) kvs
def KT.merge{more:List (List Key × V)}{ys:List (List Key × Addr × Value)}(r:KT H more ys):∀{kvs:List (List Key × V)}{xs:List (List Key × Addr × Value)},KT H kvs xs->KT H (Yo kvs more) (ke xs ys):=by
 induction r with
 |nil=>exact λq=>q
 |@cons p q ps qs hq t ih=>
  intro kvs xs r';obtain⟨k,v⟩:=p;obtain⟨k',b,u⟩:=q;obtain⟨rfl,h2,h3⟩:=hq;exact ih (r'.put k h2 h3)
def KT.keys{l:List (List Key × V)}{xs:List (List Key × Addr × Value)}(r:KT H l xs):l.map (·.1)=xs.map (·.1):=by
 induction r with
 |nil=>rfl
 |@cons p q ps qs hq t ih=>rw[zJ,zJ,ih,hq.1]
def zp2{Q:Value->Shared->Prop}(hu:A.units+1<cLine)(I:Inv X pins σ H s)(e:H a=some (.dT kvs))(eb:H b=some (.dT more))(hab:a≠b)(hz:kvs.length+more.length<=sizeLine)
  (hh:kvs=[]->(more.map λkv=>(tupleKind (yk X.prog X.w)).hash kv.1).Nodup) (h:∀s',Inv X pins σ (upd H a (.dT (Yo kvs more))) s'->Q .none s'):wpAny (model X.prog X.w) A (call (.builtin "dict.update") [.ref a,.ref b]) Q E s:=by
 obtain⟨z,hd,xs,rel,dd⟩:=zb7 I.hok e;obtain⟨z2,hd2,ys,rel2,dd2⟩:=zb7 I.hok eb
 refine zI2 (tupleKind_room_in1 hu) hab hd2 dd dd2 (λy hy=>?_) (λq=>?_) (by rw[<- rel.length,<- rel2.length];exact hz) λh' d' hs=>h _ ?_
 ·obtain⟨ks,hk⟩:=rel2.mem y hy;obtain⟨_,its,_,o,h1,h2,_⟩:=(show ObjOk X.prog X.w H s.heap y.2.1 (.tup ks) from I.hok _ _ hk);exact⟨o,h1,h2⟩
 ·have e0 : kvs = [] := zX.mp (by rw [rel.length, q]; rfl)
  have t:=hh e0
  have k1:(more.map λkv=>(tupleKind (yk X.prog X.w)).hash kv.1)=(more.map (·.1)).map (tupleKind (yk X.prog X.w)).hash:=by simp
  have k2:(ys.map λkv=>(tupleKind (yk X.prog X.w)).hash kv.1)=(ys.map (·.1)).map (tupleKind (yk X.prog X.w)).hash:=by simp
  rw[k1,rel2.keys,<- k2] at t;exact t
 ·have he : ∃ q, h'.get? a = some q := let ⟨q, _, _, hq, _⟩ := d'; ⟨q, hq⟩
  have r3:=rel2.merge rel
  refine zp6 I (by rw[e];exact True.intro) hs he (zG9 ?_ hd (r3.over e) d')
  rw[r3.length];have q:=Xm ys xs;rw[<- rel.length,<- rel2.length] at q;lia
def zT9(K:W.Frag)(td ty:TE):TE:=λσ H Q=>td σ H λx H1=>∃a,x=.ref a/\IsD H1 a/\ty σ H1 λy H2=>∃kvs k b v,H2 a=some (.dT kvs)/\y=.ref b/\SqT K H2 b (k.map kV)/\Yh kvs k=some v/\Q v (upd H2 a (.dT (Wk kvs k)))
def zx8{o e:Expr}{apos cpos:Pos}{td ty:TE}(hu:X.A.units+1<cLine)(ho:PE X o td)(he:PE X e ty)(m:M1 X o "pop" apos e cpos):PE X (.Call (.Attribute o "pop" apos) [e] [] cpos) (zT9 X.K td ty):=by
 intro pins s σ H Q I h;refine wpAny_Call_method m.base m.few m.line PySem.F.plainAttrs_dict PySem.F.slot_dict_pop PySem.F.type_dict_pop (thn (ho pins s σ H _ I h) λu s1 ⟨x,H1,I1,rx,a,ex,d,q1⟩=>?_);subst ex;cases(show u=Value.ref a from rx);obtain⟨t1,t2,_⟩:=zn4 I1 d;refine⟨t1,t2,?_⟩;rw[m.trees];refine Calls.callWith_builtin rfl (Calls.evalArgs_plain (Calls.spliced_cons (thn (he pins s1 σ H1 _ I1 q1) λiv s2 ⟨y,H2,I2,ry,kvs,k,b,v,ea,ey,sq,l,q2⟩=>Calls.spliced_nil ?_)));subst ey;cases(show iv=Value.ref b from ry);exact xf1 hu I2 ea sq l λw' s3 I3 rw'=>⟨v,_,I3,rw',q2⟩
def zT8(P:Program)(w:World)(td ty:TE):TE:=λσ H Q=>td σ H λx H1=>∃a,x=.ref a/\IsD H1 a/\ty σ H1 λy H2=>∃kvs more b,H2 a=some (.dT kvs)/\y=.ref b/\a≠b/\H2 b=some (.dT more)/\kvs.length+more.length<=sizeLine /\
 (kvs=[]->(more.map λkv=>(tupleKind (yk P w)).hash kv.1).Nodup)/\Q .non (upd H2 a (.dT (Yo kvs more)))
def zx7{o e:Expr}{apos cpos:Pos}{td ty:TE}(hu:X.A.units+1<cLine)(ho:PE X o td)(he:PE X e ty)(m:M1 X o "update" apos e cpos):PE X (.Call (.Attribute o "update" apos) [e] [] cpos) (zT8 X.prog X.w td ty):=by
 intro pins s σ H Q I h;refine wpAny_Call_method m.base m.few m.line PySem.F.plainAttrs_dict PySem.F.slot_dict_update PySem.F.type_dict_update (thn (ho pins s σ H _ I h) λu s1 ⟨x,H1,I1,rx,a,ex,d,q1⟩=>?_);subst ex;cases(show u=Value.ref a from rx);obtain⟨t1,t2,_⟩:=zn4 I1 d;refine⟨t1,t2,?_⟩;rw[m.trees];refine Calls.callWith_builtin rfl (Calls.evalArgs_plain (Calls.spliced_cons (thn (he pins s1 σ H1 _ I1 q1) λiv s2 ⟨y,H2,I2,ry,kvs,more,b,ea,ey,hab,eb,hz,hh,q2⟩=>Calls.spliced_nil ?_)));subst ey;cases(show iv=Value.ref b from ry);exact zp2 hu I2 ea eb hab hz hh λs3 I3=>⟨.non,_,I3,rfl,q2⟩
end
def atP{α:Type}:List (Int × Int)->List α->Int × Int->Option α
 |k::ks,e::es,x=>if k=x then some e else atP ks es x
 |_,_,_=>none
def Yv(ks:List (Int × Int))(x:Int × Int):List (Int × Int):=ks.filter λk=>decide (k≠x)
def dropE{α:Type}:List (Int × Int)->List α->Int × Int->List α
 |k::ks,e::es,x=>if k=x then dropE ks es x else e::dropE ks es x
 |_,_,_=>[]
def Qm{x y:Int × Int}(h:kP x=kP y):x=y:=by
 obtain⟨a,b⟩:=x;obtain⟨c,d⟩:=y;unfold kP at h;injection h with h1 h2;injection h2 with h2 _;injection h1 with h1;injection h2 with h2;simp only at h1 h2;rw[h1,h2]
theorem Jy:∀(ks:List (Int × Int)) (xs:List V) (x:Int × Int),Yh (qf ks xs) (kP x)=atP ks xs x
 |[],_,_=>by simp[qf,Yh,atP]
 |_::_,[],_=>by simp[qf,Yh,atP]
 |k::ks,y::xs,x=>by
  have ih:=Jy ks xs x
  by_cases e:k=x
  ·subst e;simp[qf,Yh,atP]
  ·have e':¬ kP k=kP x:=λz=>e (Qm z);simp only[qf,xM,Yh,wu,zW e',atP,if_neg e];exact ih
theorem Ka:∀(ks:List (Int × Int)) (xs:List V) (x:Int × Int),Wk (qf ks xs) (kP x)=qf (Yv ks x) (dropE ks xs x)
 |[],_,_=>by simp[qf,Wk,Yv]
 |_::_,[],_=>by simp[qf,Wk,dropE]
 | k :: ks, y :: xs, x => by
  have ih:=Ka ks xs x
  by_cases e:k=x
  ·have e' : kP k = kP x := congrArg kP e;simp only[qf,xM,Wk,Yv,dropE,if_pos e]
   rw[xm (by simpa using e'),xm (by simpa using e)]
   exact ih
  ·have e' : ¬ kP k = kP x := λz => e (Qm z);simp only[qf,xM,Wk,Yv,dropE,if_neg e]
   rw[xh (by simpa using e'),xh (by simpa using e),xM]
   exact congrArg _ ih
theorem Kd{α:Type}:∀(ks:List (Int × Int)) (xs:List α) (x:Int × Int),ks.length=xs.length->(Yv ks x).length=(dropE ks xs x).length
  |[],[],_,_=>rfl
  | k :: ks, y :: xs, x, h => by
    have ih:=Kd ks xs x (by simpa using h)
    by_cases e:k=x
    · simp only [Yv, dropE, if_pos e]
      rw[xm (by simpa using e)]
      exact ih
    · simp only [Yv, dropE, if_neg e]
      rw[xh (by simpa using e),zG,zG]
      exact congrArg (·+1) ih
section
variable {K:W.Frag}{G:Option Addr}{Z:Addr->Prop}{H:Hp}
theorem Reps.dropE:∀{ks:List (Int × Int)}{es:List D}{xs:List V} (x:Int × Int),Reps K G Z H es xs->Reps K G Z H (L2.dropE ks es x) (L2.dropE ks xs x)
 |[],es,xs,x,h=>by
  cases es<;>cases xs<;>exact .nil
 |k::ks,[],xs,x,h=>by rw[h.nil_inv];exact .nil
 |k::ks,e::es,xs,x,h=>by
  obtain⟨v,r,rfl,q,t⟩:=h.split;have ih:=Reps.dropE (ks:=ks) x t
  by_cases c:k=x
  ·simp only[L2.dropE,if_pos c];exact ih
  ·simp only[L2.dropE,if_neg c];exact .cons q ih
theorem Reps.atP:∀{ks:List (Int × Int)}{es:List D}{xs:List V}{x:Int × Int}{d:D},Reps K G Z H es xs->L2.atP ks es x=some d->∃v,L2.atP ks xs x=some v/\Rep K G Z H d v
 |[],es,xs,x,d,_,e=>by simp[L2.atP] at e
 |k::ks,[],xs,x,d,_,e=>by simp[L2.atP] at e
 |k::ks,c::es,xs,x,d,h,e=>by
  obtain⟨v,r,rfl,q,t⟩:=h.split
  by_cases z:k=x
  ·simp only[L2.atP,if_pos z] at e ⊢;cases e;exact⟨v,rfl,q⟩
  ·simp only[L2.atP,if_neg z] at e ⊢;exact Reps.atP t e
end
section
variable {A:AC}{os:List (Nat × Addr)}{n:Nat}{rho:Rho}{sg:St}{H:Hp}{ds es:List D}{vs:List V}{i:Nat}{ks:List (Int × Int)}
def AmO.ownT(I:AmO A os n rho sg H ds vs)(hi:rho[i]?=some (some (.owT ks es))) :
  ∃a xs,sg[i]?=some (some (.ref a))/\H a=some (.dT (qf ks xs))/\ks.length=xs.length/\Reps A.K A.G (Zof A os) H es xs /\
   ∀ks' es' xs',ks'.length=xs'.length->Reps A.K A.G (Zof A os) H es' xs'->AmO A os n (rho.set i (some (.owT ks' es'))) sg (upd H a (.dT (qf ks' xs'))) ds vs:=by
 obtain⟨v,e1,a,xs,rfl,hm,hH,hl,rs⟩:=I.slot i _ hi;have hil:i<rho.length:=(zq.mp hi).1;have za:Zof A os a:=.inr ⟨_,hm,rfl⟩
 have hf:∀(o:HO) b u,¬ Zof A os b->H b=some u->upd H a o b=some u:=λo b u nz e=>by
  rw[xX λz=>nz (by rw[z];exact za)];exact e
 have uniq:∀j,(j,a)∈os->j=i:=λj hj=>by
  by_cases hji:j=i
  ·exact hji
  ·have key : ∀ (l : List (Nat × Addr)), l.Pairwise (λp q => p.1 ≠ q.1 /\ p.2 ≠ q.2) -> (j, a) ∈ l -> (i, a) ∈ l -> False := by
    intro l
    induction l with
    |nil=>intro _ h;simp at h
    |cons c l ih=>
     intro hp h1 h2;obtain⟨p1,p2⟩:=xC.mp hp
     rcases zj.mp h1 with e1 |h1<;>rcases zj.mp h2 with e2 |h2
     ·rw[<- e2] at e1;exact hji (Prod.mk.inj e1).1
     ·exact(p1 _ h2).2 (by rw[<- e1])
     ·exact(p1 _ h1).2 (by rw[<- e2])
     ·exact ih p2 h1 h2
   exact(key os I.nd hj hm).elim
 obtain⟨fa1,fa2,fa3⟩:=I.fresh _ hm
 refine⟨a,xs,e1,hH,hl,rs,λks' es' xs' hl' r=>⟨by simp[I.len],λj c e=>?_,Reps.mono (λ_ _ z=>z) (hf _) _ _ I.pend,I.nd,λq hq=>?_,λb e=>?_,I.gz,λb u h e=>?_,I.z0⟩⟩
 ·by_cases hj : j = i
  ·subst hj;rw[zQ hil] at e;cases e;exact⟨.ref a,e1,a,xs',rfl,hm,wU,hl',Reps.mono (λ_ _ z=>z) (hf _) _ _ r⟩
  ·rw [zY (Ne.symm hj)] at e;obtain⟨u,e2,e3⟩:=I.slot j c e
   exact⟨u,e2,SlotR.mono (λ_ _ z=>z) (hf _) (λb ys m q=>⟨m,by rw[xX λz=>hj (uniq j (by rw[<- z];exact m))];exact q⟩) _ _ e3⟩
 ·obtain ⟨f1, f2, f3⟩ := I.fresh q hq;refine⟨f1,f2,?_⟩
  by_cases e:q.2=a
  ·rw[e,wU];exact Hot.dT
  ·rw[xX e];exact f3
 ·obtain ⟨x, y, z, q, rr⟩ := I.st b e
  exact⟨x,y,z,by rw[xX λw=>fa2 (by rw[<- w];exact I.gz b e)];exact q,rr⟩
 ·rw [xX λw => by rw [w, fa1] at e; cases e]
  exact I.fr b u h e
end
theorem Ql:∀{ks:List (Int × Int)}{xs ys:List V},ks.length=xs.length->ks.length=ys.length->qf ks xs=qf ks ys->xs=ys
 |[],[],[],_,_,_=>rfl
 |k::ks,x::xs,y::ys,h1,h2,h=>by
  simp only[qf,xM] at h;injection h with h3 h4;injection h3 with _ h3
  rw[h3,Ql (by simpa using h1) (by simpa using h2) h4]
section
variable {A:AC}{X:Cx}{e:Expr}{te:TD}{pos:Pos}
def Ja{K:W.Frag}{G:Option Addr}{Z:Addr->Prop}{H:Hp}{v:V}{k:Int × Int}(r:Rep K G Z H (.tup [.int k.1,.int k.2]) v):∃b,v=.ref b/\SqT K H b ((kP k).map kV):=by
 obtain⟨b,ys,rfl,sq,rs⟩:=r.tup_inv;obtain⟨u1,u2,rfl,r1,r2⟩:=Uq rs;rw[r1.int_inv,r2.int_inv] at sq;exact⟨b,rfl,sq.sq⟩
def zJ2(i:Nat)(te:TD)(g:TGD):TSD:=λF rho n=>∃ks es,rho[i]?=some (some (.owT ks es))/\te rho n λd n1=>∃(k:Int × Int) (c:D),d=.tup [.int k.1,.int k.2]/\atP ks es k=some c /\
 g c (rho.set i (some (.owT (Yv ks k) (dropE ks es k)))) λrho'=>F.nx rho' n1
@[simp] theorem xq0{i te g F rho n}:zJ2 i te g F rho n=∃ks es,rho[i]?=some (some (.owT ks es))/\te rho n λd n1=>∃(k:Int × Int) (c:D),d=.tup [.int k.1,.int k.2]/\atP ks es k=some c /\
 g c (rho.set i (some (.owT (Yv ks k) (dropE ks es k)))) λrho'=>F.nx rho' n1:=rfl
def zw9{i m l:Nat}{x:Str}{tg:Expr}{g:TGD}{px apos cpos:Pos}(hr:Room l X.A)(hK:X.K=A.K)(he:PD A X e te)(hg:PGD A X m tg g)(hN:X.N[i]?=some x:=by rfl)(hv:Vis X.env.scope x:=by first |exact Or.inl rfl |exact Or.inr (Or.inl rfl) |exact Or.inr (Or.inr rfl))(hd:(x == ("__debug__" : Str))=false:=by decide)
  (hcd:(x == ("__classdict__" : Str))=false:=by decide) (mm:M1 X (.Name x px) "pop" apos e cpos:=by exact⟨rfl,rfl,rfl,rfl⟩)
  (hs:swapsWithSole [tg] (.Call (.Attribute (.Name x px) "pop" apos) [e] [] cpos) pos.line X.env=pure false:=by rfl) (hw:swappedStores [tg] (.Call (.Attribute (.Name x px) "pop" apos) [e] [] cpos) X.env=pure none:=by rfl)
  (h1:(assignEach [tg] X.env).map (·.2)=[assign tg X.env]:=by rfl):PSD A X (.Assign [tg] (.Call (.Attribute (.Name x px) "pop" apos) [e] [] cpos) pos) (zJ2 i te g):=by
 exists (zh8 (zx8 (by have:=hr.un;lia) (qO hN hv hd hcd) he mm) hg hs hw h1).imp λE sg H h=>by
   obtain⟨rho,n,F,ds,vs,⟨os,I⟩,⟨ks,es,hi,ht⟩,ok⟩:=h;obtain⟨a,xs,e1,hH,hl,rs,_⟩:=I.ownT hi;refine⟨.ref a,e1,a,rfl,.inr ⟨_,.inl hH⟩,rho,n,_,ds,vs,⟨os,I⟩,ht,λv H' n' d ⟨os',J⟩ k=>?_⟩;obtain⟨k,c,rfl,hc,k2⟩:=k;obtain⟨J1,r⟩:=J.pop;obtain⟨a',xs',e2,hH',hl',rs',_⟩:=J1.ownT hi;rw[e1] at e2;cases e2;obtain⟨b,rfl,sq⟩:=Ja r;obtain⟨w,hw',rw'⟩:=rs'.atP hc
   refine⟨qf ks xs',kP k,b,w,hH',rfl,by rw[hK];exact sq,by rw[Jy];exact hw',?_⟩
   obtain⟨a3,xs3,e3,hH3,hl3,rs3,up⟩:=(J1.push rw').ownT hi;rw[e1] at e3;cases e3;rw[hH'] at hH3
   have hx:xs'=xs3:=Ql hl' hl3 (by injection hH3 with z;injection z)
   subst hx;rw[Ka];exact⟨_,n',_,c,ds,vs,⟨os',up _ _ _ (Kd _ _ _ hl') (rs3.dropE k)⟩,k2,λrho' sg' J' _ k'=>ok.nx _ _ _ _ J' k'⟩
end
section
variable {prog:Program}{w:World}{A:Around}{E:Value->Shared->Prop}{s:Shared}{it d:Addr}{i ep:Nat}{od:Obj}{es:Array DictEntry}
def zF2:Builtin.Dict_items.ownsTuple "dict_keyiterator" = false:=w6
def za2{Q:Option Value->Shared->Prop}(hit:s.heap.IsKeyIter it d i es.size ep)(hod:s.heap.get? d=some od)(hdd:od.data=.dict es ep)(hi:i<es.size)
  (hQ:∀h',h'.IsKeyIter it d (i+1) es.size ep->Heap.SameBut it s.heap h'->Q (some es[i].key) { s with heap:=h' }):wpAny (model prog w) A (pyNext (.ref it)) Q E s:=by
 obtain⟨o,ho,hc,hf⟩:=id hit
 have up:(s.heap.update it (Obj.mapFields (·.setIfInBounds 1 (rawInt ((i:Int)+1))))).IsKeyIter it d (i+1) es.size ep:=⟨_,xO _ ho (Obj.isFreed_of_fields (Obj.data_mapFields hf _)),(Obj.cls_mapFields ..).trans hc,by rw[Obj.data_mapFields hf];simp[rawInt]⟩
 unfold pyNext;refine zb (wpAny_attempt (xD (name:=Str.ofString "__next__") hit.typeIs F.slot_dict_keyiterator_next (wj F.slot_dict_keyiterator_next hit.typeIs F.entry_dict_keyiterator_next (zb (zd (zb (zb ?_)))) (F.args_dict_keyiterator_next_1 _))))
 first |refine zb (wO hit.typeIs (zd (zb (wpAny_fieldsOf ho hf ?_)))) |refine zb (yn hit.typeIs (zd (zb (wpAny_fieldsOf ho hf ?_))))
 simp only[zF2,zV,if_false]
 show wpAny _ _ (if (Value.ref d == Value.none)=true then _ else _) _ _ s
 rw[if_neg (show ¬ ((Value.ref d == Value.none)=true) from λz=>zI z)];refine zb (zd (zb (xS hod hdd ?_)))
 rw[if_neg (by simp)];refine zb (zd (zb (wpAny_dictEpoch hod hdd ?_)))
 rw[if_neg (by simp)];refine zd ?_
 simp only[show ¬ ((i:Int)<0) by lia,if_false,yA,xU hi]
 refine zb ?_
 first |refine zb (wO hit.typeIs (zd (zb (wpAny_isOneOf_keyiter hit.typeIs ?_)))) |refine zb (yn hit.typeIs (zd (zb (wpAny_isOneOf_keyiter hit.typeIs ?_))))
 show wpAny _ _ (setField (.ref it) 1 (rawInt ((i:Int)+1)) >>= _) _ _ s
 refine zb (wpAny_setField ho hf (by simp) (zb (xx (zb (wpAny_isOneOf_keyiter (s:={ s with heap:=s.heap.update it (Obj.mapFields (·.setIfInBounds 1 (rawInt ((i:Int)+1)))) }) up.typeIs ?_)))))
 exact zd (zd ⟨_,rfl,zd (hQ _ up (Heap.SameBut.update ..))⟩)
def zk8{Q:Option Value->Shared->Prop}(hh:A.handled=none)(hit:s.heap.IsKeyIter it d es.size es.size ep)(hod:s.heap.get? d=some od)(hdd:od.data=.dict es ep)
  (hQ:∀h',Heap.ExtBut it s.heap h'->Q none { s with heap:=h' }):wpAny (model prog w) A (pyNext (.ref it)) Q E s:=by
 obtain⟨o,ho,hc,hf⟩:=id hit;unfold pyNext;refine zb (wpAny_attempt (xD (name:=Str.ofString "__next__") hit.typeIs F.slot_dict_keyiterator_next (wj F.slot_dict_keyiterator_next hit.typeIs F.entry_dict_keyiterator_next (zb (zd (zb (zb ?_)))) (F.args_dict_keyiterator_next_1 _))))
 first |refine zb (wO hit.typeIs (zd (zb (wpAny_fieldsOf ho hf ?_)))) |refine zb (yn hit.typeIs (zd (zb (wpAny_fieldsOf ho hf ?_))))
 simp only[zF2,zV,if_false]
 show wpAny _ _ (if (Value.ref d == Value.none)=true then _ else _) _ _ s
 rw[if_neg (show ¬ ((Value.ref d == Value.none)=true) from λz=>zI z)];refine zb (zd (zb (xS hod hdd ?_)))
 rw[if_neg (by simp)];refine zb (zd (zb (wpAny_dictEpoch hod hdd ?_)))
 rw[if_neg (by simp)];refine zd ?_
 simp only[show ¬ ((es.size:Int)<0) by lia,if_false,yA,wD (zn es.size)]
 refine zb ?_
 first |refine zb (wO hit.typeIs (zd ?_)) |refine zb (yn hit.typeIs (zd ?_))
 show wpAny _ _ (setField (.ref it) 0 .none >>= _) _ _ s
 refine zb (wpAny_setField ho hf (by simp) ?_)
 show wpAny _ _ (newExc (.type "StopIteration") [] >>= _) _ _ _;simp only[newExc,newTuple]
 refine zb (zb (xp (zb (m:=firstArgMember _ _) (wpAny_of_eq (a:=Value.none) (by first |rfl |(simp only[firstArgMember];rfl)) (xp ?_ (by size_fits)))) (by size_fits)))
 simp only[raiseNew];refine zb (wpAny_handled ?_);rw[show A.in1.handled=none from hh];refine zb (zd (wpAny_throw ?_));exact zb (wpAny_isInstance (T := "StopIteration") (b:=true) ⟨_,zp _ rfl,rfl⟩ isSubtype_stop (zd (hQ _ (((Heap.SameBut.update ..).extBut.push _).push _))))
end
def EntAt(h:Heap)(d:Addr)(es:Array DictEntry)(ep:Nat):Prop:=∃o,h.get? d=some o/\o.ExactDict/\o.data=.dict es ep
section
variable {prog:Program}{w:World}{A:Around}{E:Value->Shared->Prop}{s:Shared}{d:Addr}{ep:Nat}{es:Array DictEntry}
def EntAt.at{h h':Heap}(x:EntAt h d es ep)(hk:∀o,h.get? d=some o->h'.get? d=some o):EntAt h' d es ep:=let ⟨o,ho,r⟩:=x;⟨o,hk o ho,r⟩
def EntAt.typeIs(x:EntAt s.heap d es ep):s.TypeIs (.ref d) "dict" := let ⟨o,ho,hc,_⟩:=x;⟨o,ho,hc.1⟩
def zS9(hh:A.handled=none)(I d:Addr)(hne:d≠I)(es:Array DictEntry)(ep:Nat) :
  Walks prog w A I [I,d] [I] es.size (λi v=>∃x,es[i]?=some x/\v=x.key) (λi h=>h.IsKeyIter I d i es.size ep/\EntAt h d es ep) where
 sub:=λb hb=>by simp at hb;simp[hb]
 frame:=λ_ _ _ st hk=>⟨st.1.at λo e=>hk I (by simp) o e,st.2.at λo e=>hk d (by simp) o e⟩
 item:=λi s Q E hi st hQ=>by
  obtain⟨o,ho,hc,hd⟩:=id st.2
  exact za2 st.1 ho hd hi λh' hit' hs'=>hQ _ h' s.toks ⟨es[i],xU hi,rfl⟩ ⟨hit',st.2.at λo e=>hs'.extBut d o hne e⟩ λb o hb e=>hs'.extBut b o (λh=>hb (by simp[h])) e
 done:=λs Q E st hQ=>by
  obtain⟨o,ho,hc,hd⟩:=id st.2
  exact zk8 hh st.1 ho hd λh' he'=>hQ h' s.toks λb o hb e=>he' b o (λh=>hb (by simp[h])) e
 self:=λ_ _ _ _ st hQ=>wpAny_pyIter_keyiter st.1 hQ
def xx8{Q:Value->Shared->Prop}(hd:(d == sysModules)=false)(hm:EntAt s.heap d es ep)
  (hQ:Q (.ref s.heap.objs.size) { s with heap:=s.heap.push { cls:=.type "dict_keyiterator",data:=.fields #[.ref d,.int 0 0,.int es.size 0,.int ep 0] } }):wpAny (model prog w) A (pyIter (.ref d)) Q E s:=by
 obtain⟨o,ho,hc,hdat⟩:=id hm;refine wpAny_pyIter_slot hm.typeIs F.slot_dict_iter (wj F.slot_dict_iter hm.typeIs F.entry_dict_iter ?_ (F.args_dict_iter_1 _));unfold Builtin.«dict.__iter__» Builtin.Dict.dictSlotNone;refine zb (zb (wpAny_notOrdered_dict hm.typeIs ?_));show wpAny _ _ (pure (Value.ref d)) _ _ s;refine zd ?_;show wpAny _ _ (Builtin.Dict.showsAll d >>= _) _ _ s;unfold Builtin.Dict.showsAll
 rw[if_neg (by rw[hd];exact zI)]
 refine zb (zd (zb (xS ho hdat (zb (wpAny_dictEpoch ho hdat (zb (xp (zd ⟨_,rfl,"dict_keyiterator",_,⟨_,zp _ rfl,rfl⟩,F.slot_dict_keyiterator_next.lookup,?_⟩))))))))
 simpa [rawInt] using hQ
def xI2(lo:(d == sysModules)=false):W.KdlSrc prog w "dict" d d es.size (λi v=>∃x,es[i]?=some x/\v=x.key) (λh=>EntAt h d es ep) where
 type:=λ_ hm=>hm.typeIs
 there:=λ_ hm=>let ⟨_,ho,_⟩:=hm;⟨zo ho,zo ho⟩
 keep:=λ_ _ hm hk=>hm.at λo e=>hk d (.inl rfl) o e
 notList:=w6
 notTuple:=w6
 hint:=λ_ _ _ _ hm hq=>W.kdl_hint_dict hm.typeIs hq
 iter:=λ_ _ hh hm=>⟨_,_,(λ_ _ hq=>xx8 lo hm hq),zS9 hh _ d (zw (let ⟨_,ho,_⟩:=hm;zo ho)) es ep,⟨⟨_,zp _ rfl,rfl,rfl⟩,hm.at λo e=>ze _ e⟩⟩
end
def KeyAts(H:Hp):List (List Key × V)->List Addr->Prop:=Paired λp b=>H b=some (.tup (p.1.map kV))
def KT.ats{H:Hp}{kvs:List (List Key × V)}{xs:List (List Key × Addr × Value)}(r:KT H kvs xs):KeyAts H kvs (xs.map (·.2.1)):=by
 induction r with
 |nil=>exact .nil
 |@cons p q ps qs hq t ih=>exact .cons hq.2.1 ih
theorem Ua:∀(bs:List Addr),Vals (bs.map V.ref) (bs.map Value.ref)
 |[]=>.nil
 |b::bs=>.cons rfl (Ua bs)
section
variable {X:Cx}{A:AC}{pos p:Pos}
def Jx(hh:X.A.handled=none):kG X (.type "list") (λxs H Q=>∃a kvs,xs=[.ref a]/\H a=some (.dT kvs)/\∀l bs,H l=none->KeyAts H kvs bs->Q (.ref l) (upd H l (.lst (bs.map V.ref)))):=by
 intro pins s σ H xs us Q I r h;obtain⟨a,kvs,rfl,e,q⟩:=h;obtain⟨u,rfl,rx⟩:=ZD r;cases rx;obtain⟨z,hd,ys,rel,dd⟩:=zb7 I.hok e;obtain⟨o,es,ep,ho,hc,hdat,hent,his,hn⟩:=dd;have hsz:es.size=ys.length:=size_of_entries hent;have hl:=rel.length
 refine W.kdl_call (xI2 (es:=es) (ep:=ep) hd) hh ⟨o,ho,hc,hdat⟩ (by rw[hsz,<- hl];exact z) λh' tk acc c' hk hS hacc=>?_
 have hacc2:acc.toList=(ys.map (·.2.1)).map Value.ref:=by
  refine List.ext_getElem? λj=>?_;rw[yh]
  rcases Nat.lt_or_ge j acc.size with hj |hj
  ·obtain ⟨x, hx, hv⟩ := hacc.2 j acc[j] (xU hj);rw[xU hj,hv];rw[entry_at hent j] at hx
   cases hy:ys[j]? with
   |none=>rw[hy] at hx;cases hx
   |some y=>
    rw[hy] at hx;cases hx;simp[hy,entryOfKey]
  ·rw[wD hj,List.getElem?_eq_none (by rw[hacc.1,hsz] at hj;simpa using hj)]
 refine⟨.ref s.heap.objs.size,_,I.laid (t':=tk) (o:=.lst ((ys.map (·.2.1)).map V.ref)) hk (zn _) ?_,rfl,q _ _ (I.hok.fresh (zn _)) rel.ats⟩
 exact⟨by simp only[zg];rw[<- hl];exact z,acc.toList,c',by rw[hacc2];exact Ua _,by rw[yv];exact hS⟩
theorem KeyAts.reps{K:W.Frag}{G:Option Addr}{Z:Addr->Prop}{H:Hp}(hz:∀b ys,H b=some (.tup ys)->¬ Z b):∀{ks:List (Int × Int)}{xs:List V}{bs:List Addr},ks.length=xs.length->KeyAts H (qf ks xs) bs->Reps K G Z H (ks.map λk=>.tup [.int k.1,.int k.2]) (bs.map V.ref)
 |[],[],bs,_,h=>by
  unfold KeyAts qf at h;cases h;exact .nil
 | k :: ks, x :: xs, bs, hl, h => by
  unfold KeyAts qf at h;rw[xM] at h
  cases h with
  |@cons _ b _ bs' h1 h2=>
   refine .cons (.tup_mk (.inl ⟨hz b _ h1,.inl h1⟩) ?_) (KeyAts.reps hz (by simpa using hl) h2)
   exact .cons (Rep.ofS (d:=.int k.1) rfl) (.cons (Rep.ofS (d:=.int k.2) rfl) .nil)
def zH2(i:Nat):TD:=λrho n P=>∃ks es,rho[i]?=some (some (.owT ks es))/\P (.lst (ks.map λk=>.tup [.int k.1,.int k.2])) n
@[simp] theorem xk9{i rho n P}:zH2 i rho n P=∃ks es,rho[i]?=some (some (.owT ks es))/\P (.lst (ks.map λk=>.tup [.int k.1,.int k.2])) n:=rfl
def AmO.tupZ{os:List (Nat × Addr)}{n:Nat}{rho:Rho}{sg:St}{H:Hp}{ds:List D}{vs:List V}(I:AmO A os n rho sg H ds vs):∀b ys,H b=some (.tup ys)->¬ Zof A os b:=λb ys e z=>by
 obtain⟨u,e',t⟩:=I.zHot b z;rw[e] at e';cases e';exact t ys rfl
def Qc{i l:Nat}{x:Str}{px:Pos}(hr:Room l X.A)(hm:X.mg "list" = none)(hN:X.N[i]?=some x:=by rfl)(hv:Vis X.env.scope x:=by first |exact Or.inl rfl |exact Or.inr (Or.inl rfl) |exact Or.inr (Or.inr rfl))(hd:(x == ("__debug__" : Str))=false:=by decide)
  (hcd:(x == ("__classdict__" : Str))=false:=by decide) (hg:Gl X "list" := by rfl)
  (he:starEach [.Name x px] X.env=(false,eval (.Name x px) X.env)::starEach [] X.env:=by rfl) (hpl:(backTo pos (starEach [] X.env)).any (·.1)=false:=by rfl):PD A X (.Call (.Name "list" p) [.Name x px] [] pos) (zH2 i):=by
 exists (Ux (Jx hr.hd) hg hm zr7 (qD (qO hN hv hd hcd) Zu he) w6 w6 he hpl).imp λsg H Q h=>by
   obtain⟨rho,n,P,ds,vs,⟨os,I⟩,⟨ks,es,hi,k⟩,hQ⟩:=h;obtain⟨a,xs,e1,hH,hl,rs,_⟩:=I.ownT hi;exact⟨.ref a,e1,a,_,rfl,hH,λl bs hl' hb=>hQ _ _ n _ ⟨os,I.newLst (hb.reps I.tupZ hl) hl'⟩ k⟩
def xM3{w:World}{prog:Program}{B:Around}{E:Value->Shared->Prop}{s:Shared}{d:Addr}{es:Array DictEntry}{ep:Nat}{Q:Value->Shared->Prop}(hd:(d == sysModules)=false)(hm:EntAt s.heap d es ep)(hfit:(es.size:Int)<2^63)
  (h:Q (.int es.size (s.toks+1)) { s with toks:=s.toks+1+1 }):wpAny (model prog w) B (call (.builtin "len") [.ref d]) Q E s:=by
 refine Calls.call_function_entry kind_len plain_len entry_len (args_len1 _) ?_;obtain⟨o,ho,hc,hdat⟩:=id hm;unfold Builtin.«len»
 refine zb (m:=oneArg "len" _) (zd (zb (m:=callSpecial? (.ref d) (Str.ofString "__len__")) (xD (name:=Str.ofString "__len__") hm.typeIs F.slot_dict_len
  (call_meetsIn F.slot_dict_len hm.typeIs F.entry_dict_len (F.args_dict_len_1 _) (S:=λ_ R s'=>s'=s/\R (.ok (.ret (.int es.size s.toks))) { s with toks:=s.toks+1 }) (.of_wp ?_) ⟨rfl,?_⟩))))
 ·rintro C R s' ⟨rfl,q⟩;show wpAny _ _ (dictSize d >>= _) _ _ s';unfold dictSize;refine zb (zb (xS ho hdat (zd ?_)));show wpAny _ _ (Builtin.Dict.pendingCount d >>= _) _ _ s';refine zb (wpAny_pendingCount_other hd (wpAny_ret_mkInt ?_));rw[Nat.add_zero];exact q
 ·show wpAny _ _ _ _ _ { s with toks := s.toks + 1 };refine zb (xx (zd (zb (yl ?_))))
  show wpAny _ _ (if ((es.size:Nat):Int)<0 then _ else _) _ _ _
  rw[if_neg w5]
  show wpAny _ _ (if ((es.size:Nat):Int)>=2^63 then _ else _) _ _ _
  rw[if_neg w5]
  exact zb (wpAny_mkInt (zd ⟨_,rfl,h⟩))
def zc6:kG X (.builtin "len") (λxs H Q=>∃a kvs,xs=[.ref a]/\H a=some (.dT kvs)/\Q (.int kvs.length) H):=by
 intro pins s σ H xs us Q I r h;obtain⟨a,kvs,rfl,e,q⟩:=h;obtain⟨u,rfl,rx⟩:=ZD r;cases rx;obtain⟨z,hd,ys,rel,o,es,ep,ho,hc,hdat,hent,his,hn⟩:=zb7 I.hok e
 have hsz:es.size=kvs.length:=by rw[size_of_entries hent,rel.length]
 have hn:=WA
 exact xM3 hd ⟨o,ho,hc,hdat⟩ w5 ⟨.int kvs.length,H,I.tok _,⟨s.toks+1,by rw[hsz]⟩,q⟩
def xf5(i:Nat):TD:=λrho n P=>∃ks es,rho[i]?=some (some (.owT ks es))/\P (.int ks.length) n
@[simp] theorem xv1{i rho n P}:xf5 i rho n P=∃ks es,rho[i]?=some (some (.owT ks es))/\P (.int ks.length) n:=rfl
def VB{ks:List (Int × Int)}{xs:List V}(h:ks.length=xs.length):(qf ks xs).length=ks.length:=by simp[qf,h]
def zM2{i:Nat}{x:Str}{px:Pos}(hm:X.mg "len" = none)(hN:X.N[i]?=some x:=by rfl)(hv:Vis X.env.scope x:=by first |exact Or.inl rfl |exact Or.inr (Or.inl rfl) |exact Or.inr (Or.inr rfl))(hd:(x == ("__debug__" : Str))=false:=by decide)
  (hcd:(x == ("__classdict__" : Str))=false:=by decide) (hg:Gl X "len" := by rfl)
  (he:starEach [.Name x px] X.env=(false,eval (.Name x px) X.env)::starEach [] X.env:=by rfl) (hpl:(backTo pos (starEach [] X.env)).any (·.1)=false:=by rfl):PD A X (.Call (.Name "len" p) [.Name x px] [] pos) (xf5 i):=by
 exists (Vm zc6 hg hm kW (qD (qO hN hv hd hcd) Zu he) w6 w6 he hpl).imp λsg H Q h=>by
   obtain⟨rho,n,P,ds,vs,⟨os,I⟩,⟨ks,es,hi,k⟩,hQ⟩:=h;obtain⟨a,xs,e1,hH,hl,rs,_⟩:=I.ownT hi
   exact⟨.ref a,e1,a,_,rfl,hH,by rw[VB hl];exact hQ _ H n _ ⟨os,I.push (Rep.ofS (d:=.int ks.length) rfl)⟩ k⟩
end
section
variable {X:Cx}{pins:List (Addr × Obj)}{σ:St}{H:Hp}{s:Shared}{a b:Addr}{B:Around}{E:Value->Shared->Prop}{kvs:List (List Key × V)}{k:List Key}{v:V}
def zb8{Q:Value->Shared->Prop}(hu:B.units+1<cLine)(I:Inv X pins σ H s)(e:H a=some (.dT kvs))(eb:SqT X.K H b (k.map kV))(l:Yh kvs k=some v)
  (h:∀w' s',Inv X pins σ H s'->RelV v w'->Q w' s'):wpAny (model X.prog X.w) B (getItem (.ref a) (.ref b)) Q E s:=by
 obtain⟨z,hd,xs,rel,dd⟩:=zb7 I.hok e
 obtain⟨w',hw,rw'⟩:=RelO.some_of (v:=v) (o:=(atKey xs k).map (·.2)) (by rw[<- l];exact rel.val k)
 obtain⟨p,hp,rfl⟩:=Option.map_eq_some_iff.mp hw;exact wpAny_getItem_heap (tupleKind_room_in1 hu) (zF9 I eb) dd hp (h _ _ (I.tok _) rw')
def zU0(K:W.Frag)(td ty:TE):TE:=λσ H Q=>td σ H λx H1=>ty σ H1 λy H2=>∃a b kvs k v,x=.ref a/\y=.ref b/\H2 a=some (.dT kvs)/\SqT K H2 b (k.map kV)/\Yh kvs k=some v/\Q v H2
def zx9{o i:Expr}{td ty:TE}{pos:Pos}(hu:X.A.units+1<cLine)(ho:PE X o td)(hi:PE X i ty)(hs:xg6 i):PE X (.Subscript o i pos) (zU0 X.K td ty):=by
 intro pins s σ H Q I h;refine ze8 PySem.F.slot_dict_getitem.lookup hs (thn (ho pins s σ H _ I h) λu s1 ⟨x,H1,I1,rx,q1⟩=>thn (hi pins s1 σ H1 _ I1 q1) λiv s2 ⟨y,H2,I2,ry,a,b,kvs,k,v,ex,ey,e,sq,l,q2⟩=>?_);subst ex ey;cases(show u=Value.ref a from rx);cases(show iv=Value.ref b from ry);exact⟨(zn4 I2 (.inr ⟨_,.inl e⟩)).1,zb8 hu I2 e sq l λw' s3 I3 rw'=>⟨v,H2,I3,rw',q2⟩⟩
end
section
variable {A:AC}{X:Cx}{b:Expr}{tb:TD}{pos:Pos}
def xG1(i:Nat)(tb:TD):TD:=λrho n P=>∃ks es,rho[i]?=some (some (.owT ks es))/\tb rho n λd n1=>∃(k:Int × Int) (c:D),d=.tup [.int k.1,.int k.2]/\atP ks es k=some c/\P c n1
@[simp] theorem xD3{i tb rho n P}:xG1 i tb rho n P=∃ks es,rho[i]?=some (some (.owT ks es))/\tb rho n λd n1=>∃(k:Int × Int) (c:D),d=.tup [.int k.1,.int k.2]/\atP ks es k=some c/\P c n1:=rfl
def zZ8{i l:Nat}{x:Str}{px:Pos}(hr:Room l X.A)(hK:X.K=A.K)(hb:PD A X b tb)(hs:xg6 b)(hN:X.N[i]?=some x:=by rfl)(hv:Vis X.env.scope x:=by first |exact Or.inl rfl |exact Or.inr (Or.inl rfl) |exact Or.inr (Or.inr rfl))(hd:(x == ("__debug__" : Str))=false:=by decide)
  (hcd:(x == ("__classdict__" : Str))=false:=by decide):PD A X (.Subscript (.Name x px) b pos) (xG1 i tb):=by
 exists (zx9 (by have:=hr.un;lia) (qO hN hv hd hcd) hb hs).imp λsg H Q h=>by
   obtain⟨rho,n,P,ds,vs,⟨os,I⟩,⟨ks,es,hi,ht⟩,hQ⟩:=h;obtain⟨a,xs,e1,hH,hl,rs,_⟩:=I.ownT hi;refine⟨.ref a,e1,rho,n,_,ds,vs,⟨os,I⟩,ht,λv H' n' d ⟨os',J⟩ k=>?_⟩;obtain⟨k,c,rfl,hc,k2⟩:=k;obtain⟨J1,r⟩:=J.pop;obtain⟨a',xs',e2,hH',hl',rs',_⟩:=J1.ownT hi;rw[e1] at e2;cases e2;obtain⟨b',rfl,sq⟩:=Ja r;obtain⟨w,hw',rw'⟩:=rs'.atP hc
   exact⟨a,b',_,kP k,w,rfl,rfl,hH',by rw[hK];exact sq,by rw[Jy];exact hw',hQ w H' n' c ⟨os',J1.push rw'⟩ k2⟩
end
abbrev TFT:=List D->Nat->(List (Int × Int)->List D->Nat->Prop)->Prop
def spT(K:W.Frag)(k:Nat)(t:TFT):Sp:=λvs H Q _=>∃(G:Option Addr) (Z:Addr->Prop) (n:Nat) (P:List (Int × Int)->List D->Nat->Prop) (ds:List D),ds.length=k/\Reps K G Z H ds vs/\zt5 G n H/\(∀a,G=some a->Z a)/\ZOk K G Z H/\t ds n P /\
 ∀p H' n' ks es xs,(∀a o,G≠some a->H a=some o->H' a=some o)->zt5 G n' H'->H' p=none->ks.length=xs.length->Reps K G Z H' es xs->P ks es n'->Q (.ref p) (upd H' p (.dT (qf ks xs)))
structure FnT(P:Program)(w:World)(K:W.Frag)(mg:Str->Option Value)(base:Heap)(x:Str)(kk k:Nat)(t:TFT):Prop where
 ex:∃f fd ps,FnOk P w K mg base CX0 kk f fd ps (spT K k t)/\mg x=some (.ref f)/\W.keepIn K (.ref f)=true/\Binds K fd ps []
section
variable {A:AC}{X:Cx}{e:Expr}{es:List Expr}{t1:TAD}{pos p pos2:Pos}
def AmO.setOwnT{os:List (Nat × Addr)}{n:Nat}{rho:Rho}{sg:St}{H:Hp}{ds es:List D}{vs xs:List V}{i:Nat}{p:Addr}{ks:List (Int × Int)}(I:AmO A os n rho sg H ds vs)(hi:i<rho.length)(hp:H p=none)(hl:ks.length=xs.length)(r:Reps A.K A.G (Zof A os) H es xs) :
  ∃os',AmO A os' n (rho.set i (some (.owT ks es))) (sg.set i (some (.ref p))) (upd H p (.dT (qf ks xs))) ds vs:=by
 have hf:∀a u,H a=some u->upd H p (.dT (qf ks xs)) a=some u:=λa u e=>by rw[xX (wW e hp)];exact e
 refine⟨(i,p)::os.filter λq=>decide (q.1≠i),?_⟩
 have zz:∀a,H a≠none->Zof A ((i,p)::os.filter λq=>decide (q.1≠i)) a->Zof A os a:=λa ha z=>by
  rcases z with z |⟨q,hq,e⟩
  ·exact .inl z
  ·rcases zj.mp hq with rfl | hq
   ·exact absurd (by rw[<- e];exact hp) ha
   ·exact .inr ⟨q,(zx.mp hq).1,e⟩
 have h0:A.H0 p=none:=by
  cases q:A.H0 p with
  |none=>rfl
  |some o=>
   by_cases e:A.G=some p
   ·obtain⟨x,y,z,w,_⟩:=I.st p e;rw[w] at hp;cases hp
   ·have:=I.fr p o e q;rw[this] at hp;cases hp
 refine⟨by simp[I.len],λj c e=>?_,Reps.mono zz (λa u _ e=>hf a u e) _ _ I.pend,?_,λq hq=>?_,λa e=>?_,I.gz,λa u h e=>hf a u (I.fr a u h e),I.z0⟩
 ·by_cases hj : j = i
  ·subst hj;rw[zQ hi] at e;cases e
   exact⟨.ref p,zQ (by rw[<- I.len];exact hi),p,xs,rfl,zP,wU,hl,Reps.mono zz (λa u _ e=>hf a u e) _ _ r⟩
  ·rw [zY (Ne.symm hj)] at e;obtain⟨u,e1,e2⟩:=I.slot j c e
   exact⟨u,by rw[zY (Ne.symm hj)];exact e1,SlotR.mono zz (λa u _ e=>hf a u e) (λa ys m q=>⟨zk _ (zx.mpr ⟨m,by simpa using hj⟩),hf a _ q⟩) _ _ e2⟩
 ·refine xC.mpr ⟨λq hq => ?_, I.nd.filter _⟩;obtain⟨m1,m2⟩:=zx.mp hq
  refine⟨λz=>by simp[<- z] at m2,λz=>(I.fresh q m1).2.2.ne ?_⟩
  have z':p=q.2:=z;rw[<- z'];exact hp
 ·rcases zj.mp hq with rfl | hq
  ·exact⟨h0,λz=>(I.z0.1 p z).ne h0,by show Hot (upd H p _ p);rw[wU];exact Hot.dT⟩
  ·obtain⟨f1,f2,f3⟩:=I.fresh q (zx.mp hq).1;exact⟨f1,f2,f3.of λu w=>hf _ _ w⟩
 ·obtain⟨x,y,z,q,rr⟩:=I.st a e;exact⟨x,y,z,hf _ _ q,rr⟩
def zU4(i k:Nat)(t:TFT)(t1:TAD):TSD:=λF rho n=>i<rho.length/\t1 rho n λes n1=>es.length=k/\t es n1 λks vs n2=>F.nx (rho.set i (some (.owT ks vs))) n2
@[simp] theorem xp8{i k t t1 F rho n}:zU4 i k t t1 F rho n=(i<rho.length/\t1 rho n λes n1=>es.length=k/\t es n1 λks vs n2=>F.nx (rho.set i (some (.owT ks vs))) n2):=rfl
def zw8{i kk k:Nat}{x y:Str}{pos':Pos}{t:TFT}(F:FnT X.prog X.w X.K X.mg X.base y kk k t)(hr:Room kk X.A)(hK:X.K=A.K)(hN:X.N.Nodup)(hi:X.N[i]?=some x)(hx:Loc X.env.scope x)(ha:PAD A X (e::es) t1)(hg:Gl X y:=by rfl)(hdb:(y == ("__debug__" : Str))=false:=by decide)
  (he:starEach (e::es) X.env=(false,eval e X.env)::starEach es X.env:=by rfl) (hpl:(backTo pos (starEach es X.env)).any (·.1)=false:=by rfl) (hf:X.fn x=true\/X.env.scope.names.lookup x=some .local:=by first |exact .inl rfl |exact .inr rfl |assumption)
  (hs:swapsWith (.Call (.Name y p) (e::es) [] pos) (some (.Name x pos')) pos2.line X.env=pure false:=by rfl):PSD A X (.Assign [.Name x pos'] (.Call (.Name y p) (e::es) [] pos) pos2) (zU4 i k t t1):=by
 obtain⟨f,fd,ps,F,hm,hk,hb⟩:=F.ex
 exists (JY hN hi hx (Vn F hr hg hm hk hb .nil zy3 ha hdb he hpl) hs hf).imp λE sg H h=>by
   obtain⟨rho,n,R,ds,vs,I,⟨hl,ht⟩,ok⟩:=h;refine⟨rho,n,_,ds,vs,I,ht,λws H' n' es' ⟨os,J⟩ hle k=>?_⟩;obtain⟨J1,rs⟩:=J.split hle;rw[wM,hK];exact⟨A.G,Zof A os,n',_,es',k.1,rs,J1.st,λa z=>.inl (J1.gz a z),J1.zO,k.2,λp H2 n2 ks es2 xs fr st hp hlx r q=>ok.nx _ _ _ _ ((J1.called fr st).setOwnT hl hp hlx r) q⟩
end
def Wh(k:Int × Int):Int:=reduceHash (Builtin.Tuple.tupleHashOf [hashInt k.1,hashInt k.2])
def zB2{P:Program}{w:World}(k:Int × Int):(tupleKind (yk P w)).hash (kP k)=Wh k:=rfl
theorem Zi:∀{ks ks2:List (Int × Int)}{xs xs2:List V},ks.length=xs.length->qf (ks++ks2) (xs++xs2)=qf ks xs++qf ks2 xs2
 |[],_,[],_,_=>rfl
 |k::ks,ks2,x::xs,xs2,h=>by
  have ih:=Zi (ks:=ks) (ks2:=ks2) (xs:=xs) (xs2:=xs2) (by simpa using h)
  simp only[qf,List.cons_append,xM] at ih ⊢;rw[ih]
theorem Xp:∀{ks:List (Int × Int)}{xs:List V},ks.length=xs.length->(qf ks xs).map (·.1)=ks.map kP
 |[],[],_=>rfl
 |k::ks,x::xs,h=>by
  have ih:=Xp (ks:=ks) (xs:=xs) (by simpa using h)
  simp only[qf,xM,zJ] at ih ⊢;rw[ih]
def zw5{kvs:List (List Key × V)}{k:List Key}{v:V}(h:k ∉ kvs.map (·.1)):QT kvs k v=kvs++[(k,v)]:=by
 unfold QT;rw[if_neg];intro z;obtain⟨x,hx,e⟩:=yP.mp z
 exact h (zi.mpr ⟨x,hx,by simpa using e⟩)
theorem Wx:∀(more kvs:List (List Key × V)),((kvs++more).map (·.1)).Nodup->Yo kvs more=kvs++more
 |[],kvs,_=>by simp[Yo]
 | m :: more, kvs, h => by
  have h0:m.1 ∉ kvs.map (·.1):=by
   rw[zU,wG] at h
   exact λz=>h.2.2 _ z _ (by simp) rfl
  have e:Yo kvs (m::more)=Yo (QT kvs m.1 m.2) more:=rfl
  rw[e,zw5 h0,Wx more (kvs++[(m.1,m.2)]) (by simpa using h)]
  simp
def zz5{ks:List (Int × Int)}(h:ks.Nodup):(ks.map kP).Nodup:=by
 induction ks with
 |nil=>exact nodup_nil
 |cons k ks ih=>
  obtain⟨h1,h2⟩:=xz.mp h;refine xz.mpr ⟨λz=>?_,ih h2⟩;obtain⟨y,hy,e⟩:=zi.mp z;exact h1 (Qm e ▸ hy)
def zO4{α β γ:Type}(f:α->γ)(l:List (α × β)):(l.map λx=>f x.1)=(l.map (·.1)).map f:=by simp
def zO5{α β γ:Type}(f:β->γ)(g:α->β)(h:α->γ)(e:∀x,f (g x)=h x)(l:List α):(l.map g).map f=l.map h:=by
 induction l with
 |nil=>rfl
 |cons x l ih=>rw[zJ,zJ,zJ,ih,e]
def xe1{P:Program}{w:World}{ks:List (Int × Int)}{xs:List V}(h:ks.length=xs.length):((qf ks xs).map λkv=>(tupleKind (yk P w)).hash kv.1)=ks.map Wh:=by
 rw[zO4 (tupleKind (yk P w)).hash (qf ks xs),Xp h];exact zO5 _ _ _ zB2 ks
def za7{ks ks2:List (Int × Int)}{xs xs2:List V}(nd:(ks++ks2).Nodup)(h:ks.length=xs.length)(h2:ks2.length=xs2.length):Yo (qf ks xs) (qf ks2 xs2)=qf (ks++ks2) (xs++xs2):=by
 rw[Wx _ _ (by rw[<- Zi h,Xp (by rw[zB,zB,h,h2])];exact zz5 nd),Zi h]
section
variable {A:AC}{X:Cx}{e:Expr}{es:List Expr}{t1:TAD}{pos p pos2:Pos}
def zU3(i k:Nat)(t:TFT)(t1:TAD):TSD:=λF rho n=>∃ks es,rho[i]?=some (some (.owT ks es))/\t1 rho n λas n1=>as.length=k/\t as n1 λks2 es2 n2=>(ks++ks2).Nodup/\ks.length+ks2.length<=sizeLine/\(ks=[]->(ks2.map Wh).Nodup) /\
 F.nx (rho.set i (some (.owT (ks++ks2) (es++es2)))) n2
@[simp] theorem xp7{i k t t1 F rho n}:zU3 i k t t1 F rho n=∃ks es,rho[i]?=some (some (.owT ks es))/\t1 rho n λas n1=>as.length=k/\t as n1 λks2 es2 n2=>(ks++ks2).Nodup/\ks.length+ks2.length<=sizeLine/\(ks=[]->(ks2.map Wh).Nodup) /\
 F.nx (rho.set i (some (.owT (ks++ks2) (es++es2)))) n2:=rfl
def zw7{i kk k:Nat}{x y:Str}{px apos cpos cp:Pos}{t:TFT}(F:FnT X.prog X.w X.K X.mg X.base y kk k t)(hr:Room kk X.A)(hK:X.K=A.K)(ha:PAD A X (e::es) t1)(hN:X.N[i]?=some x:=by rfl)(hv:Vis X.env.scope x:=by first |exact Or.inl rfl |exact Or.inr (Or.inl rfl) |exact Or.inr (Or.inr rfl))
  (hd:(x == ("__debug__" : Str))=false:=by decide) (hcd:(x == ("__classdict__" : Str))=false:=by decide) (hg:Gl X y:=by rfl) (hdb:(y == ("__debug__" : Str))=false:=by decide)
  (he:starEach (e::es) X.env=(false,eval e X.env)::starEach es X.env:=by rfl) (hpl:(backTo cp (starEach es X.env)).any (·.1)=false:=by rfl)
  (mm:M1 X (.Name x px) "update" apos (.Call (.Name y p) (e::es) [] cp) cpos:=by exact⟨rfl,rfl,rfl,rfl⟩)
  (hsw:swapsWith (.Call (.Attribute (.Name x px) "update" apos) [.Call (.Name y p) (e::es) [] cp] [] cpos) none pos.line X.env=pure false:=by rfl) :
  PSD A X (.Expr (.Call (.Attribute (.Name x px) "update" apos) [.Call (.Name y p) (e::es) [] cp] [] cpos) pos) (zU3 i k t t1):=by
 obtain⟨f,fd,ps,F,hm,hk,hb⟩:=F.ex
 exists (zh7 (zx7 (by have:=hr.un;lia) (qO hN hv hd hcd) (Vn F hr hg hm hk hb .nil zy3 ha hdb he hpl) mm) hsw).imp λE sg H h=>by
   obtain⟨rho,n,R,ds,vs,⟨os,I⟩,⟨ks,es,hi,ht⟩,ok⟩:=h;obtain⟨a,xs,e1,hH,hl,rs,_⟩:=I.ownT hi;refine⟨.ref a,e1,a,rfl,.inr ⟨_,.inl hH⟩,rho,n,_,ds,vs,⟨os,I⟩,ht,λws H' n' es' ⟨os',J⟩ hle k=>?_⟩;obtain⟨J1,rs'⟩:=J.split hle;rw[wM,hK];refine⟨A.G,Zof A os',n',_,es',k.1,rs',J1.st,λa z=>.inl (J1.gz a z),J1.zO,k.2,λp H2 n2 ks2 es2 xs2 fr st hp hlx r q=>?_⟩;obtain⟨nd,hz,hh,q⟩:=q;have J2:=J1.called fr st;obtain⟨a4,xs4,e4,hH4,_⟩:=J2.ownT hi;obtain⟨a3,xs3,e3,hH3,hl3,rs3,up⟩:=(J2.grow (o:=.dT (qf ks2 xs2)) hp).ownT hi;rw[e1] at e3 e4;cases e3;cases e4
   have hap:a≠p:=λz=>by rw[z,hp] at hH4;cases hH4
   have z1:=VB hl3;have z2:=VB hlx
   refine⟨qf ks xs3,qf ks2 xs2,p,hH3,rfl,hap,wU,by rw[z1,z2];exact hz,λe0=>?_,?_⟩
   ·have e5 : ks = [] := zX.mp (by rw [<- z1, e0]; rfl)
    rw[xe1 hlx];exact hh e5
   ·rw [za7 nd hl3 hlx]
    refine ok.nx _ _ _ _ ⟨os',up (ks++ks2) (es++es2) (xs3++xs2) (by rw[zB,zB,hl3,hlx]) (rs3.append ?_)⟩ q
    exact Reps.mono (λ_ _ z=>z) (λa u _ e=>by rw[xX (wW e hp)];exact e) _ _ r
end
def zR9(acc:List (List Key × Addr × V)):List (List Key × V):=acc.map λx=>(x.1,x.2.2)
def xG5(P:Program)(w:World)(ob:Obj)(xs:List (List Key × Addr × Value)):Prop:=ob.ExactDict/\∃es ep,ob.data=.dict es ep/\es.toList=xs.map (entryOfKey (tupleKind (yk P w)))/\(xs.map (·.1)).Nodup
abbrev KA:List (List Key × Addr × V)->List (List Key × Addr × Value)->Prop:=Paired λp q=>p.1=q.1/\p.2.1=q.2.1/\RelV p.2.2 q.2.2
def KA.kt{H:Hp}{acc:List (List Key × Addr × V)}{xs:List (List Key × Addr × Value)}(r:KA acc xs):(∀x∈acc,H x.2.1=some (.tup (x.1.map kV)))->KT H (zR9 acc) xs:=by
 induction r with
 |nil=>exact λ_=>.nil
 |@cons p q ps qs hq t ih=>exact λh=>.cons ⟨hq.1,by rw[<- hq.2.1];exact h p zP,hq.2.2⟩ (ih λx hx=>h x (zk _ hx))
def KA.back{acc:List (List Key × Addr × V)}{xs:List (List Key × Addr × Value)}(r:KA acc xs):∀x∈xs,∃p∈acc,p.1=x.1/\p.2.1=x.2.1:=by
 induction r with
 |nil=>intro x hx;cases hx
 |@cons p q ps qs hq t ih=>
  intro x hx
  rcases zj.mp hx with e |hx
  ·subst e;exact⟨p,zP,hq.1,hq.2.1⟩
  ·obtain⟨p',h1,h2⟩:=ih x hx;exact⟨p',zk _ h1,h2⟩
def KA.keys{acc:List (List Key × Addr × V)}{xs:List (List Key × Addr × Value)}(r:KA acc xs):acc.map (·.1)=xs.map (·.1):=by
 induction r with
 |nil=>rfl
 |@cons p q ps qs hq t ih=>rw[zJ,zJ,ih,hq.1]
def KA.put{acc:List (List Key × Addr × V)}{xs:List (List Key × Addr × Value)}(r:KA acc xs)(k:List Key)(b:Addr){v:V}{u:Value}(h:RelV v u):KA (acc++[(k,b,v)]) (xs++[(k,b,u)]):=by
 induction r with
 |nil=>exact .cons ⟨rfl,rfl,h⟩ .nil
 |@cons p q ps qs hq t ih=>exact .cons hq ih
section
variable {X:Cx}{scope:Scope}{own M:List Str}{pins:List (Addr × Obj)}{σ:St}{H2:Hp}{s2:Shared}{tg iter kx vx:Expr}{ifs:List Expr}{pos:Pos}{g:TG}{tt:TT}{tk tv:TE}
def Jr(ok:CompOk X scope M)(hun:X.A.units<cLine)(hc:X.calm=true)(hg:∀C s2 H2 fp,PG (wJ X scope own M C s2 H2 fp) tg g)(ht:∀C s2 H2 fp,PTs (wJ X scope own M C s2 H2 fp) ifs tt)(hek:∀C s2 H2 fp,PE (wJ X scope own M C s2 H2 fp) kx tk)(he:∀C s2 H2 fp,PE (wJ X scope own M C s2 H2 fp) vx tv)
  (I2:Inv X pins σ H2 s2) {it:Addr}{fp:List Addr}{tn:Nat->Heap->Prop}{J:It} (T:Turn X.prog X.w X.K tg J fp it tn) (st2:tn 0 s2.heap) (f2:∀b∈fp,FpOk X pins H2 b)
  {W:Nat->Nat->List (List Key × Addr × V)->Hp->Prop} (w0:∃m,W 0 m [] H2) (wk:∀i m acc H,W i m acc H->∀x∈acc,H x.2.1=some (.tup (x.1.map kV))) {Qf:V->Hp->Prop}
  (turn : ∀ i m acc H, W i m acc H -> (J.stop i H /\ acc.length <= sizeLine /\ ∀ D, H D = none -> Qf (.ref D) (upd H D (.dT (zR9 acc)))) \/
   (J.go i H /\ acc.length < sizeLine /\ ∀ x H', J.yld i H x H' -> g x (List.replicate own.length none ++ σ) H' λσ2 H2 => σ2.drop own.length = σ /\ tt σ2 H2 λc H3 =>
    if c=true then tk σ2 H3 λy H4=>tv σ2 H4 λv H5=>∃k b m',y=.ref b/\k ∉ acc.map (·.1)/\m'<m/\W (i+1) m' (acc++[(k,b,v)]) H5 else ∃m',m'<m/\W (i+1) m' acc H3))
  {RR:Value->Addr->Result->Shared->Prop}{E:Value->Shared->Prop}
  (fin:∀D C H' s' m,Inv X pins σ H' s'->Qf (.ref D) H'->s'.heap.Ns C m->H' C=none->C≠X.env.locals->X.s₀.heap.objs.size<=C->(∀x c,X.env.cells.lookup x=some c->c≠C)->(∀p∈X.pn++pins,p.1≠C)->RR (.ref D) C (.ok .next) s') :
  wpAny (model X.prog X.w) X.A newDict (λacc s3=>wpAny (model X.prog X.w) X.A (newFunctionEnv scope X.env.globals (kY X.env scope.names []) [] X.env.qual none .none (some X.env)) (λcenv s4=>
   codeAny (model X.prog X.w) X.A (.compStart (.DictComp kx vx [⟨tg,iter,ifs,0⟩] scope pos) 0 (.ref it) acc { cenv with scope:=relabel scope X.env }) (RR acc cenv.locals) s4) E s3) E s2:=by
 refine xp (Zf ?_);have zC:(s2.heap.push { cls:=.type "dict",dict:=none,data:=.dict #[] }).objs.size=s2.heap.objs.size+1:=xW ..;dsimp only;rw[zC];generalize hC:s2.heap.objs.size+1=C;generalize hh:pushCells ((s2.heap.push { cls:=.type "dict",dict:=none,data:=.dict #[] }).push { cls:=.type "dict",data:=.dict #[] }) scope.names=h4
 have fpl:∀b∈fp,FpOk X pins H2 b/\b<s2.heap.objs.size:=λb hb=>by
  obtain⟨o,e,_⟩:=T.obj 0 _ st2 b hb;exact⟨f2 b hb,zo e⟩
 have I4:Inv (wJ X scope own M C s2 H2 fp) [] (replicate own.length none++σ) H2 { s2 with heap:=h4 }:=UU (o0:={ cls:=.type "dict",dict:=none,data:=.dict #[] }) ok hc I2 fpl hC.symm hh.symm;generalize hX:wJ X scope own M C s2 H2 fp=X' at I4
 have keep4:∀b o,s2.heap.get? b=some o->h4.get? b=some o:=λb o e=>by
  rw[<- hh];exact pushCells_keeps _ _ _ _ (ze _ (ze _ e))
 have hD4:h4.get? s2.heap.objs.size=some { cls:=.type "dict",dict:=none,data:=.dict #[] }:=by
  rw[<- hh];exact pushCells_keeps _ _ _ _ (ze _ (zp _ rfl))
 have isD0:xG5 X.prog X.w { cls:=.type "dict",dict:=none,data:=.dict #[] } []:=⟨⟨rfl,rfl,rfl⟩,#[],0,rfl,rfl,nodup_nil⟩;have dsys:(s2.heap.objs.size == sysModules)=false:=(VJ (P:=X.prog) (w:=X.w) (H:=H2) s2.heap I2.big).2.1;have st4:tn 0 h4:=T.keep _ _ _ st2 λb hb o e=>keep4 b o e
 have gg:PG X' tg g:=by rw[<- hX];exact hg C s2 H2 fp
 have gt:PTs X' ifs tt:=by rw[<- hX];exact ht C s2 H2 fp
 have gk:PE X' kx tk:=by rw[<- hX];exact hek C s2 H2 fp
 have ge:PE X' vx tv:=by rw[<- hX];exact he C s2 H2 fp
 have xP:X'.prog=X.prog:=by rw[<- hX];rfl
 have xw:X'.w=X.w:=by rw[<- hX];rfl
 have xK:X'.K=X.K:=by rw[<- hX];rfl
 have xA:X'.A=X.A:=by rw[<- hX];rfl
 have xc:X'.calm=true:=by rw[<- hX];exact hc
 have xpn:X'.pn=[]:=by rw[<- hX];rfl
 have xs:X'.s₀=s2:=by rw[<- hX];rfl
 have xH:X'.H₀=H2:=by rw[<- hX];rfl
 have xL:X'.env.locals=C:=by rw[<- hX];rfl
 have xfs:X'.fs=frs X.stack:=by rw[<- hX];rfl
 have xex:X'.ex=fp:=by rw[<- hX];rfl
 have xe:X'.xe=λ_ _=>False:=by rw[<- hX];rfl
 have xenv:({ newEnv scope C X.env.globals (cellsFrom (C+1) scope.names (kY X.env scope.names [])) X.env.qual none .none (some X.env) builtinsNs with scope:=relabel scope X.env }:Env)=X'.env:=by rw[<- hX];rfl
 have Dlt:s2.heap.objs.size<C:=by rw[<- hC];exact Nat.lt_succ_self _
 have fpb:∀{pl:List (Addr × Obj)}{H:Hp},(∀b∈fp,H b=none)->(∀p∈pl,p.1 ∉ fp)->∀b∈fp,FpOk X' pl H b:=λ{pl H} hn hpl b hb=>by
  refine⟨hn b hb,?_,?_,.inl (by rw[xex];exact hb),λx c e=>(I4.ok.exf b (by rw[xex];exact hb)).2 x c e,λp hp z=>?_⟩
  ·exact(I4.ok.exf b (by rw[xex];exact hb)).1
  ·exact I4.ok.exfs b (by rw[xex];exact hb)
  ·rw [xpn, we] at hp
   exact hpl p hp (by rw[z];exact hb)
 have Dfp:s2.heap.objs.size ∉ fp:=λz=>xl _ (fpl _ z).2;have DC:s2.heap.objs.size≠C:=zw Dlt
 have Dcell:∀x c,X'.env.cells.lookup x=some c->c≠s2.heap.objs.size:=λx c e z=>by
  obtain⟨v,o,q,hd⟩:=I4.cell x c e;rw[z] at q;have q':h4.get? s2.heap.objs.size=some o:=q;rw[hD4] at q';cases q';cases hd
 have Dfs:s2.heap.objs.size ∉ X'.fs:=λz=>by
  obtain⟨_,o,ho,_⟩:=I4.ok.funs.mem (by exact z)
  rw[xs] at ho;exact xl _ (zo ho)
 rw[xenv]
 have goal:∀s5:Shared,s5={ s2 with heap:=h4 }->codeAny (model X.prog X.w) X.A (.compLoop (.DictComp kx vx [⟨tg,iter,ifs,0⟩] scope pos) 0 (.ref it) (.ref s2.heap.objs.size) X'.env) (RR (.ref s2.heap.objs.size) C) s5:=by
  rintro s5 rfl;obtain⟨m0,w0⟩:=w0
  refine WH (λn s'=>∃i acc σ' H' ob vs,Inv X' [] σ' H' s'/\σ'.drop own.length=σ/\tn i s'.heap/\(∀b∈fp,H' b=none)/\H' s2.heap.objs.size=none /\
   s'.heap.get? s2.heap.objs.size=some ob/\xG5 X.prog X.w ob vs/\KA acc vs/\W i n acc H') ?_ m0
   ⟨0,[],_,H2,_,[],I4,by simp,st4,λb hb=>(f2 b hb).1,I2.hok.fresh (zn _),hD4,isD0,.nil,w0⟩
  rintro n s3 ⟨i,acc,σ3,H3,ob,vs,I3,hσ,st3,fr3,hD,hDo,isD,rv,w3⟩
  have noc:∀v,ob.data≠.cell v:=λv z=>by
   obtain⟨_,es,ep,e,_⟩:=isD;rw[e] at z;cases z
  have pinD:∀{H:Hp}{s:Shared}{σ:St},Inv X' [] σ H s->H s2.heap.objs.size=none->s.heap.get? s2.heap.objs.size=some ob ->
    Inv X' [(s2.heap.objs.size,ob)] σ H s:=λ{H s σ} I hn ho=>I.pins_of λp hp=>by
   have e:p=(s2.heap.objs.size,ob):=by simpa using hp
   subst e
   exact⟨ho,hn,by rw[xL];exact DC,Dfs,noc⟩
  have plD:∀p∈[((s2.heap.objs.size,ob):Addr × Obj)],p.1 ∉ fp:=λp hp=>by
   have e:p=(s2.heap.objs.size,ob):=by simpa using hp
   subst e;exact Dfp
  have I3':=pinD I3 hD hDo
  rcases turn i n acc H3 w3 with ⟨stop,hsz,q⟩ |⟨go,hsz,step⟩
  ·have := T.done X' xP xw xK xc i _ s3 σ3 H3 (λ_ _ => False) I3' (fpb fr3 plD) st3 stop;rw[xA] at this;refine thn this λr s4 ⟨hr,I5⟩=>?_;subst hr
   have hDo5:=(I5.pin (s2.heap.objs.size,ob) (by rw[xpn];simp)).1
   have un:Un (frs X.stack) fp H2 H3 s2.heap s4.heap:=by
    have:=I5.base;rw[xfs,xex,xH,xs] at this;exact this
   have os:s4.os=s2.os:=by rw[I5.os,xs]
   have hok:HOk X.prog X.w H3 s4.heap:=by have:=I5.hok;rw[xP,xw] at this;exact this
   have IX:Inv X pins σ H3 s4:=I2.call' os un hok I5.bare λb hb=>by
    obtain⟨_,f1,_,f3,f4,f5⟩:=f2 b hb;exact⟨f3,f1,f4,f5⟩
   have old:∀{b:Addr},s2.heap.objs.size<=b->(X.s₀.heap.objs.size<=b/\b≠X.env.locals/\(∀x c,X.env.cells.lookup x=some c->c≠b)/\∀p∈X.pn++pins,p.1≠b):=λ{b} hb=>by
    obtain⟨_,f1,_,f3,f4,f5⟩:=I2.fpOk (H':=λ_=>none) hb rfl;exact⟨zy I2.sz hb,f1,f4,f5⟩
   obtain⟨d1,d2,d3,d4⟩:=old (zn s2.heap.objs.size);obtain⟨c1,c2,c3,c4⟩:=old (b:=C) (yt Dlt)
   have IY:Inv X pins σ (upd H3 s2.heap.objs.size (.dT (zR9 acc))) s4:=IX.track hD d1 d2 d3 d4 ⟨by unfold zR9;rw[zg];exact hsz,dsys,vs,rv.kt λx hx=>by rw[xX (λz=>by have:=wk i n acc H3 w3 x hx;rw[z,hD] at this;cases this)];exact wk i n acc H3 w3 x hx,(let ⟨hc,es,ep,h1,h2,h3⟩:=isD;⟨ob,es,ep,hDo5,hc,h1,h2,h3⟩)⟩
   obtain⟨m,hm,_⟩:=I5.loc;rw[xL] at hm
   have hCn:H3 C=none:=by have:=I5.free;rw[xL] at this;exact this
   exact fin _ C _ s4 m IY (q _ hD) hm (by rw[xX (Ne.symm DC)];exact hCn) c2 c1 c3 c4
  ·have := T.item X' xP xw xK xc i _ s3 σ3 H3 (λ_ _ => False) I3' (fpb fr3 plD) st3 go;rw[xA] at this;refine thn this λr s4 ⟨u,hr,h4⟩=>?_;subst hr;refine thn h4 λ_ s5 ⟨x,H5,I5,r5,y5,st5,fr5⟩=>?_
   have hσn:∀(j:Nat) v,(replicate own.length none++σ)[j]?=some (some v)->σ3[j]?=some (some v):=λj v e=>by
    by_cases hlt:j<own.length
    ·rw [xv (by simpa using hlt), xg, if_pos hlt] at e
     cases e
    ·have hle := wZ hlt
     rw[xi (by simpa using hle),xu,<- hσ,yf] at e
     rw[show own.length+(j-own.length)=j by lia] at e
     exact e
   have hlen:(replicate own.length none++σ).length=σ3.length:=by
    have e1:σ3.length=X'.N.length:=I5.len;have e2:=I4.len;exact e2.trans e1.symm
   have I5w:Inv X' _ (replicate own.length none++σ) H5 s5:=I5.weak hlen hσn;have I5p:=I5w.pinned (fpb fr5 plD) (T.obj _ _ st5);have a1:=gg _ s5 _ H5 x u _ I5p r5 (step x H5 y5);rw[xP,xw,xA,xe] at a1;refine thn a1 λ_ s6 ⟨σ6,H6,I6,d6,q6⟩=>?_;have a2:=gt _ s6 σ6 H6 _ I6 q6;rw[xP,xw,xA,xe] at a2;refine thn a2 λb s7 ⟨H7,I7,q7⟩=>?_
   have pin7:∀{H:Hp}{s:Shared},Inv X' ([((s2.heap.objs.size,ob):Addr × Obj)]++YZ fp s5.heap) σ6 H s ->
     (tn (i+1) s.heap/\(∀b∈fp,H b=none)/\H s2.heap.objs.size=none/\s.heap.get? s2.heap.objs.size=some ob/\Inv X' [] σ6 H s):=λ{H s} I=>by
    refine⟨T.keep _ _ _ st5 λb hb o e=>(I.pin (b,o) (zr _ (zr _ (vU hb e)))).1,λb hb=>?_,?_,?_,I.pins_of λp hp=>by simp at hp⟩
    ·obtain⟨o,e,d⟩:=T.obj _ _ st5 b hb;exact(I.pin (b,o) (zr _ (zr _ (vU hb e)))).2.1
    ·exact(I.pin (s2.heap.objs.size,ob) (by rw[xpn];simp)).2.1
    ·exact(I.pin (s2.heap.objs.size,ob) (by rw[xpn];simp)).1
   cases b with
   |false=>
    obtain⟨p1,p2,p3,p4,p5⟩:=pin7 I7;obtain⟨m',hm,w7⟩:=q7;exact⟨m',hm,i+1,acc,σ6,H7,ob,vs,p5,d6,p1,p2,p3,p4,isD,rv,w7⟩
   | true =>
    rw[if_pos rfl] at q7 ⊢;have a3:=gk _ s7 σ6 H7 _ I7 q7;rw[xP,xw,xA,xe] at a3;refine thn a3 λy s8 ⟨v,H8,I8,r8,q8⟩=>?_;have a4:=ge _ s8 σ6 H8 _ I8 q8;rw[xP,xw,xA,xe] at a4;refine thn a4 λy2 s9 ⟨v2,H9,I9,r9,q9⟩=>?_;obtain⟨p1,p2,p3,p4,p5⟩:=pin7 I9;obtain⟨kk,kb,m',ek,hnew,hm,w8⟩:=q9;subst ek;cases(show y=Value.ref kb from r8);have hl:=rv.length;obtain⟨hc,es,ep,h1,h2,h3⟩:=isD;have tup:∀x∈acc++[(kk,kb,v2)],H9 x.2.1=some (.tup (x.1.map kV)):=wk _ _ _ _ w8
    have okH:HOk X.prog X.w H9 s9.heap:=by have:=I9.hok;rw[xP,xw] at this;exact this
    have his:∀x∈vs,(tupleKind (yk X.prog X.w)).is s9.heap x.1 x.2.1:=λx hx=>by
     obtain⟨p,hp,e1,e2⟩:=rv.back x hx;have:=tup p (xk _ hp);rw[e1,e2] at this;exact US okH this
    have hkb:(tupleKind (yk X.prog X.w)).is s9.heap kk kb:=US okH (tup (kk,kb,v2) (by simp))
    refine wpAny_dictSet_heap (hsz:=by lia) (knd:=tupleKind (yk X.prog X.w)) (by show X.A.units<cLine;exact hun) hkb ⟨ob,es,ep,p4,hc,h1,h2,his,h3⟩ λh' dd' hs=>?_
    obtain⟨ob',es',ep',ho',hc',hd',he',hi',hn'⟩:=dd'
    have no:atKey vs kk=none:=QE (by rw[<- rv.keys];exact hnew)
    rw[storedH_new no] at he' hi' hn'
    have I10:Inv X' [] σ6 H9 { s9 with heap:=h',toks:=s9.toks+(tupleKind (yk X.prog X.w)).draws kk }:=p5.turned (t':=s9.toks+(tupleKind (yk X.prog X.w)).draws kk) (λb o hb e=>hs.extBut b o hb e) p3 (by rw[xL];exact DC) (.inr (by rw[xs];exact zn _)) Dcell (λp hp=>by rw[xpn] at hp;simp at hp)
    exact⟨m',hm,i+1,acc++[(kk,kb,v2)],σ6,H9,ob',_,I10,d6,T.keep _ _ _ p1 λb hb o e=>hs.extBut b o (λz=>Dfp (by rw[<- z];exact hb)) e,p2,p3,ho',⟨hc',es',ep',hd',he',hn'⟩,rv.put kk kb r9,w8⟩
 exact codeAny_compStart_dict (goal _ rfl) (T.self _ 0 _ _ _ st4 (goal _ rfl))
def ze6(wi:TI)(own:Nat)(g:TG)(tt:TT)(tk tv:TE):TE:=λσ H Q=>wi σ H λJ H1=>∃W:Nat->Nat->List (List Key × Addr × V)->Hp->Prop,(∃m,W 0 m [] H1)/\(∀i m acc H,W i m acc H->∀x∈acc,H x.2.1=some (.tup (x.1.map kV)))/\∀i m acc H,W i m acc H ->
 (J.stop i H/\acc.length<=sizeLine/\∀D,H D=none->Q (.ref D) (upd H D (.dT (zR9 acc)))) \/
 (J.go i H /\ acc.length < sizeLine /\ ∀ x H', J.yld i H x H' -> g x (List.replicate own none ++ σ) H' λσ2 H2 => σ2.drop own = σ /\ tt σ2 H2 λc H3 =>
  if c=true then tk σ2 H3 λy H4=>tv σ2 H4 λv H5=>∃k b m',y=.ref b/\k ∉ acc.map (·.1)/\m'<m/\W (i+1) m' (acc++[(k,b,v)]) H5 else ∃m',m'<m/\W (i+1) m' acc H3)
def zi4{wi:TI}(ok:CompOk X scope M)(hun:X.A.units<cLine)(hc:X.calm=true)(hi:PI X tg iter wi)(hg:∀C s2 H2 fp,PG (wJ X scope own M C s2 H2 fp) tg g)(ht:∀C s2 H2 fp,PTs (wJ X scope own M C s2 H2 fp) ifs tt)
  (hek:∀C s2 H2 fp,PE (wJ X scope own M C s2 H2 fp) kx tk) (he:∀C s2 H2 fp,PE (wJ X scope own M C s2 H2 fp) vx tv) (hs:∀x,foldedSetIterable iter X.env x=pure x:=by intro _;rfl) :
  PE X (.DictComp kx vx [⟨tg,iter,ifs,0⟩] scope pos) (ze6 wi own.length g tt tk tv):=by
 intro pins s σ H Q I h;rw[WG]
 refine yq (use:=none) rfl hs (YL (ok.cells I)) ok.kind (λx hx hl=>by rw[ok.uniq x hx,hl]) ?_
 refine thn (hi pins s σ H _ I h) λv s1 h1=>thn h1 λitv s2 h2=>?_;obtain⟨it,fp,tn,J,H2,e,I2,T,st2,f2,W,w0,wk,turn⟩:=h2;subst e;refine Jr (Qf:=Q) ok hun hc hg ht hek he I2 T st2 f2 w0 wk turn λD C H' s' m IY q hm hCn c2 c1 c3 c4=>⟨m,hm,λh' hs'=>?_⟩;exact⟨.ref D,H',IY.turned (t':=s'.toks) (λb o hb e=>hs'.extBut b o hb e) hCn c2 (.inr c1) c3 c4,rfl,q⟩
end
abbrev TDT:=Rho->Nat->(List (Int × Int)->List D->Nat->Prop)->Prop
def xz8(A:AC)(t:TDT):TE:=λsg H Q=>∃rho n P ds vs,Am A n rho sg H ds vs/\t rho n P /\
 ∀p H' n' ks es xs os,AmO A os n' rho sg H' ds vs->Reps A.K A.G (Zof A os) H' es xs->H' p=none->ks.length=xs.length->P ks es n'->Q (.ref p) (upd H' p (.dT (qf ks xs)))
@[irreducible] def PDT(A:AC)(X:Cx)(e:Expr)(t:TDT):Prop:=PE X e (xz8 A t)
def QJ:List (Int × Int)->List Addr->List V->List (List Key × Addr × V)
 |k::ks,b::bs,x::xs=>(kP k,b,x)::QJ ks bs xs
 |_,_,_=>[]
theorem QH:∀{ks:List (Int × Int)}{bs:List Addr}{xs:List V},ks.length=bs.length->ks.length=xs.length->(QJ ks bs xs).length=ks.length
 |[],[],[],_,_=>rfl
 |k::ks,b::bs,x::xs,h1,h2=>by
  show(QJ ks bs xs).length+1=ks.length+1
  rw[QH (by simpa using h1) (by simpa using h2)]
theorem Kw:∀{ks:List (Int × Int)}{bs:List Addr}{xs:List V},ks.length=bs.length->ks.length=xs.length->(QJ ks bs xs).map (·.1)=ks.map kP
 |[],[],[],_,_=>rfl
 |k::ks,b::bs,x::xs,h1,h2=>by
  show kP k::(QJ ks bs xs).map (·.1)=kP k::ks.map kP
  rw[Kw (by simpa using h1) (by simpa using h2)]
theorem QI:∀{ks:List (Int × Int)}{bs:List Addr}{xs:List V},ks.length=bs.length->ks.length=xs.length->zR9 (QJ ks bs xs)=qf ks xs
 |[],[],[],_,_=>rfl
 |k::ks,b::bs,x::xs,h1,h2=>by
  show(kP k,x)::zR9 (QJ ks bs xs)=(kP k,x)::qf ks xs
  rw[QI (by simpa using h1) (by simpa using h2)]
theorem Kv:∀{ks:List (Int × Int)}{bs:List Addr}{xs:List V} (k:Int × Int) (b:Addr) (x:V),ks.length=bs.length->ks.length=xs.length->QJ (ks++[k]) (bs++[b]) (xs++[x])=QJ ks bs xs++[(kP k,b,x)]
 |[],[],[],_,_,_,_,_=>rfl
 |k'::ks,b'::bs,x'::xs,k,b,x,h1,h2=>by
  show(kP k',b',x')::QJ (ks++[k]) (bs++[b]) (xs++[x])=(kP k',b',x')::(QJ ks bs xs++[(kP k,b,x)])
  rw[Kv k b x (by simpa using h1) (by simpa using h2)]
def Rep.prT_inv{K:W.Frag}{G:Option Addr}{Z:Addr->Prop}{H:Hp}{v:V}{k:Int × Int}(h:Rep K G Z H (.prT k) v):∃b,v=.ref b/\¬ Z b/\H b=some (.tup [.int k.1,.int k.2]):=by unfold Rep at h;exact h
theorem QG{K:W.Frag}{G:Option Addr}{Z:Addr->Prop}{H:Hp}:∀{ks:List (Int × Int)}{bs:List Addr}{xs:List V},Reps K G Z H (ks.map D.prT) (bs.map V.ref)->∀x∈QJ ks bs xs,H x.2.1=some (.tup (x.1.map kV))
 |[],_,_,_,x,hx=>by cases hx
 |_::_,[],_,_,x,hx=>by cases hx
 |_::_,_::_,[],_,x,hx=>by cases hx
 |k::ks,b::bs,y::xs,r,x,hx=>by
  obtain⟨v,r',e,q,t⟩:=Reps.split r;rw[zJ] at e;cases e
  rcases zj.mp hx with e |hx
  ·subst e;obtain⟨b',e,_,h⟩:=q.prT_inv;cases e;exact h
  ·exact QG t x hx
def Qs(own:Nat)(g:TGD)(tt:TBD)(tk tv:TD)(rho:Rho)(P:List (Int × Int)->List D->Nat->Prop)(items:List D)(n1:Nat):Prop:=items.length<=sizeLine/\∃J:Nat->List (Int × Int)->List D->Nat->Prop,J 0 [] [] n1 /\
 (∀i d ks es n,items[i]?=some d->J i ks es n->g d (replicate own none++rho) λrho'=>rho'.drop own=rho/\tt rho' n λc n2=>if c=true then tk rho' n2 λdk n3=>tv rho' n3 λdv n4=>∃k,dk=.prT k/\k ∉ ks/\J (i+1) (ks++[k]) (es++[dv]) n4 else J (i+1) ks es n2) /\
 ∀ks es n,J items.length ks es n->P ks es n
def Jt(it:TID)(own:Nat)(g:TGD)(tt:TBD)(tk tv:TD):TDT:=λrho n P=>it rho n (Qs own g tt tk tv rho P)
section
variable {A:AC}{X:Cx}{it:TID}{g:TGD}{tt:TBD}{tk tv:TD}{tg iter kx vx:Expr}{ifs:List Expr}{scope:Scope}{own M:List Str}{pos:Pos}
def QO{sg:St}{H:Hp}{Q:VK}{m:Nat}(h:xz8 A (Jt it m g tt tk tv) sg H Q):ze6 (iOf A it) m (gOf A m g) (QN A tt) (tOf A tk) (tOf A tv) sg H Q:=by
 obtain⟨rho,n,P,ds,vs,I,ht,hQ⟩:=h;refine⟨rho,n,_,ds,vs,I,ht,λJ H' n' items es ws I1 hl hJ k=>?_⟩;obtain⟨hsz,W,w0,turn,fin⟩:=k
 refine⟨λi mm acc H=>mm=items.length-i/\i<=items.length/\∃ks bs accD xs n,acc=QJ ks bs xs/\ks.length=bs.length/\ks.length=xs.length/\ks.length<=i/\xs.length=accD.length/\Am A n rho sg H (es++(ks.map D.prT++(accD++ds))) (ws++(bs.map V.ref++(xs++vs)))/\W i ks accD n,
  ⟨items.length,rfl,xJ _,[],[],[],[],n',rfl,rfl,rfl,zn _,rfl,I1,w0⟩,?_,?_⟩
 ·rintro i mm acc H3 ⟨rfl, hi, ks, bs, accD, xs, n3, rfl, hkb, hkl, hai, hal, ⟨os, I3⟩, w3⟩ x hx;obtain⟨I4,r1⟩:=I3.split hl
  obtain⟨I5,r2⟩:=I4.split (by simpa using hkb.symm)
  exact QG r2 x hx
 rintro i mm acc H3 ⟨rfl,hi,ks,bs,accD,xs,n3,rfl,hkb,hkl,hai,hal,⟨os,I3⟩,w3⟩;have hlk:(QJ ks bs xs).length=ks.length:=QH hkb hkl
 have hlb:(bs.map V.ref).length=(ks.map D.prT).length:=by simpa using hkb.symm
 obtain⟨j1,j2⟩:=hJ n3 rho sg H3 (ks.map D.prT++(accD++ds)) (bs.map V.ref++(xs++vs)) i ⟨os,I3⟩
 by_cases hlt:i<items.length
 ·refine .inr ⟨(j1 items[i] (by simp [hlt])).1, by lia, λx H4 y => ?_⟩
  obtain⟨os4,I4⟩:=(j1 items[i] (by simp[hlt])).2 x H4 y
  refine⟨replicate m none++rho,n3,_,items[i],_,_,⟨_,I4.front m⟩,turn i items[i] ks accD n3 (by simp[hlt]) w3,λrho' sg' ⟨os5,I5⟩ e5 k5=>?_⟩
  obtain⟨k5,k6⟩:=k5
  have e6:sg'.drop m=sg:=by rw[e5,yu (by simp)]
  refine⟨e6,rho',n3,_,_,_,⟨os5,I5⟩,k6,λc H6 n6 ⟨os6,I6⟩ k7=>?_⟩
  cases c with
  |false=>
   obtain⟨os7,I7⟩:=I6.back k5 e6
   exact⟨items.length-(i+1),w5,rfl,hlt,ks,bs,accD,xs,n6,rfl,hkb,hkl,w5,hal,⟨os7,I7⟩,k7⟩
  | true =>
   rw[if_pos rfl] at k7 ⊢;refine⟨rho',n6,_,_,_,⟨os6,I6⟩,k7,λvk H8 n8 dk I8 k8=>?_⟩;refine⟨rho',n8,_,_,_,I8,k8,λv H9 n9 d ⟨os9,I9⟩ k9=>?_⟩;obtain⟨kk,rfl,hnew,w9⟩:=k9;obtain⟨os10,I10⟩:=I9.back k5 e6;obtain⟨I11,rv⟩:=I10.pop;obtain⟨I12,rk⟩:=I11.pop;obtain⟨I13,r1⟩:=I12.split hl;obtain⟨I14,r2⟩:=I13.split hlb;obtain⟨I15,r3⟩:=I14.split hal;obtain⟨b,rfl,_⟩:=rk.prT_inv
   refine⟨kP kk,b,items.length-(i+1),rfl,?_,w5,rfl,hlt,ks++[kk],bs++[b],accD++[d],xs++[v],n9,(Kv kk b v hkb hkl).symm,by simp[hkb],by simp[hkl],by simp;lia,by simp[hal],⟨os10,?_⟩,w9⟩
   ·rw[Kw hkb hkl];intro z;obtain⟨y,hy,e⟩:=zi.mp z;exact hnew (Qm e ▸ hy)
   ·have rk2 : Reps A.K A.G (Zof A os10) H9 ((ks ++ [kk]).map D.prT) ((bs ++ [b]).map V.ref) := by
     rw[zU,zU];exact r2.append (.cons rk .nil)
    exact((I15.join (r3.append (.cons rv .nil))).join rk2).join r1
 ·have e : i = items.length := by lia
  subst e
  refine .inl ⟨j2 (zn _),w5,λp hp=>?_⟩
  obtain⟨I4,r1⟩:=I3.split hl;obtain⟨I5,r2⟩:=I4.split hlb;obtain⟨I6,r3⟩:=I5.split hal;rw[QI hkb hkl];exact hQ p H3 n3 ks accD xs os I6 r3 hp hkl (fin ks accD n3 w3)
def zi8{l:Nat}(hr:Room l X.A)(ok:CompOk X scope M)(hc:X.calm=true)(hi:PID A X tg iter it)(hg:∀C s2 H2 fp,PGD A (wJ X scope own M C s2 H2 fp) own.length tg g)(ht:∀C s2 H2 fp,PTs (wJ X scope own M C s2 H2 fp) ifs (QN A tt))
  (hk:∀C s2 H2 fp,PD A (wJ X scope own M C s2 H2 fp) kx tk) (he:∀C s2 H2 fp,PD A (wJ X scope own M C s2 H2 fp) vx tv) (hs:∀x,foldedSetIterable iter X.env x=pure x:=by intro _;rfl):PDT A X (.DictComp kx vx [⟨tg,iter,ifs,0⟩] scope pos) (Jt it own.length g tt tk tv):=by exists (zi4 ok (by have:=hr.un;lia) hc hi hg ht hk he hs).imp λ_ _ _=>QO
end
section
variable {A:AC}{X:Cx}{es:List Expr}{t1:TAD}{pos:Pos}
def dPr(t:TAD):TD:=λrho n P=>t rho n λds n1=>∃k:Int × Int,ds=[.int k.1,.int k.2]/\P (.prT k) n1
@[simp] theorem xL1{t rho n P}:dPr t rho n P=t rho n λds n1=>∃k:Int × Int,ds=[.int k.1,.int k.2]/\P (.prT k) n1:=rfl
def zZ7{x1}(h:PAD A X es t1):PD A X (.Tuple es x1 pos) (dPr t1):=by
 exists (zE9 h).imp λsg H Q h=>by
   obtain⟨rho,n,P,ds,vs,I,ht,hQ⟩:=h;refine⟨rho,n,_,ds,vs,I,ht,λws H' n' es' ⟨os,J⟩ hl k=>?_⟩;obtain⟨k,rfl,q⟩:=k;obtain⟨J1,rs⟩:=J.split hl;obtain⟨v1,v2,rfl,r1,r2⟩:=Uq rs;have e1:=r1.int_inv;have e2:=r2.int_inv;subst e1 e2
   refine⟨yE (show 2<=1000 by decide),λp hp=>hQ _ _ n' _ ⟨os,(J1.grow hp).push ?_⟩ q⟩
   unfold Rep;exact⟨p,rfl,λz=>J1.zH p z hp,wU⟩
end
section
variable {P:Program}{w:World}{K:W.Frag}{mg:Str->Option Value}{base:Heap}
def Fun.okT{x qual:Str}{st:Stmt}{f:Addr}{fd:FuncData}{N ps:List Str}{k:Nat}{t:TFT}{tb:TDT}{e:Expr}{pos:Pos}(F:Fun K x qual st f fd)(S:FnScope N ps (xj st))(hb:vB st=[.Return (some e) pos])
  (body : ∀ (cdv : Value) (A0 : Around) (outer : List Env) (s : Shared) (H : Hp) (E : XK) (G : Option Addr) (Z : Addr -> Prop), Room k (A0.deeper (envOfC qual (xj st) s.heap.objs.size f cdv)) ->
   PDT ⟨K,G,Z,H⟩ (zt4 CX0 P w K mg base N qual (xj st) f cdv A0 outer s H E).nox e tb)
  (spec:∀ds n Q,ds.length=ps.length->t ds n Q->tb (startD N ds) n Q):FnOk P w K mg base CX0 (k+1) f fd ps (spT K ps.length t):=by
 exists (by
   refine F.ok S (λvs H Q E h=>?_) (λcdv A0 outer s H vs Q E hr h=>?_)
   ·obtain⟨G,Z,n,R,ds,hl,rs,_⟩:=h;rw[rs.length];exact hl
   ·obtain ⟨G, Z, n, R, ds, hl, rs, hst, gz, z0, ht, hQ⟩ := h;rw[hb];refine⟨_,Vj (zE6 (body cdv A0 outer s H E G Z hr)) zh2,startD N ds,n,R,[],[],⟨[],jm rs hst gz z0⟩,spec ds n R hl ht,λp H' n' ks es xs os I r hp hlx q=>?_⟩
    exact hQ p H' n' ks es xs I.fr I.st hp hlx (Reps.mono (λa _ z=>.inl z) (λ_ _ _ e=>e) _ _ r) q)
end
section
variable {prog:Program}{w:World}{A:Around}{R:Result->Shared->Prop}{I:Addr}{fp wr:List Addr}{n:Nat}{P:Nat->Value->Prop}{St:Nat->Heap->Prop}
def zS1(prog:Program)(w:World)(A:Around)(P:Nat->Value->Prop)(St:Nat->Heap->Prop)(bt:Nat->Nat->Bool):Prop:=
 ∀t i j vi vj (s:Shared) (Q:Value->Shared->Prop) (E:Value->Shared->Prop),St t s.heap->P i vi->P j vj->Q (.bool (bt i j)) s->wpAny (model prog w) A (richCompare .Lt vi vj) Q E s
def Walks.more{bs:List Addr}{Ok:Heap->Prop}(W:Walks prog w A I fp wr n P St)(hb:∀b∈bs,b ∉ wr)(hk:∀h h',Ok h->(∀b∈bs,∀o,h.get? b=some o->h'.get? b=some o)->Ok h'):Walks prog w A I (fp++bs) wr n P (λi h=>St i h/\Ok h) where
 sub:=λb h=>xk _ (W.sub b h)
 frame:=λi h h' st k=>⟨W.frame i h h' st.1 λb m o e=>k b (xk _ m) o e,hk h h' st.2 λb m o e=>k b (zr _ m) o e⟩
 item:=λi s Q E hi st hQ=>W.item i s Q E hi st.1 λv h' tk hP st' k=>hQ v h' tk hP ⟨st',hk _ _ st.2 λb m o e=>k b o (hb b m) e⟩ k
 done:=λs Q E st hQ=>W.done s Q E st.1 hQ
 self:=λi s Q E st hQ=>W.self i s Q E st.1 hQ
def zl5(W:Walks prog w A.in1 I fp wr n P St)(bt:Nat->Nat->Bool)(hcmp:zS1 prog w A.in1 P St bt)(S:Addr)(hSf:S ∉ fp):∀(k j:Nat) (s:Shared) (vb:Value) (c:Nat),n-(j+1)=k->j+1<=n->St (j+1) s.heap->P (argBest bt j) vb ->
  s.heap.get? S=some (seqObj "list" #[vb,vb] c)->(∀v h' tk,P (argBest bt (n-1)) v->(∀b o,b ∉ wr->b≠S->s.heap.get? b=some o->h'.get? b=some o)->R (.ok (.ret v)) { s with heap:=h',toks:=tk }) ->
  codeAny (model prog w) A (.builtin "min.loop" ⟨[.ref I,.none,.ref S],[]⟩) R s:=by
 have hSw:S ∉ wr:=λh=>hSf (W.sub _ h)
 have nm:(toString "min" ++ toString ".loop" : String) = "min.loop" := by decide
 intro k
 induction k with
 |zero=>
  intro j s vb c hk hj hst hPb hS hR
  have hin:j+1=n:=w5
  refine codeAny_builtin F.entry_min_loop ?_;rw[Around.under_plainId F.plain_min_loop _];refine zb (m:=seqItems? (.ref S)) (wq hS rfl (zb (m:=tryCatch (pyNext (.ref I)) _) (wpAny_tryCatch (W.done s _ _ (hin ▸ hst) λh' tk hk'=>?_))));have hS':=hk' S _ hSw hS
  refine zb (m:=updateSeq S (λ_=>#[])) (wpAny_updateSeq hS' rfl (zb (yl (zd (hR vb _ tk (by rw[<- hin];exact hPb) λb o hbw hbS e=>(wl _ _ (Ne.symm hbS)).trans (hk' b o hbw e))))))
 | succ k ih =>
  intro j s vb c hk hj hst hPb hS hR
  have hlt:j+1<n:=w5
  refine codeAny_builtin F.entry_min_loop ?_;rw[Around.under_plainId F.plain_min_loop _];refine zb (m:=seqItems? (.ref S)) (wq hS rfl (zb (m:=tryCatch (pyNext (.ref I)) _) (wpAny_tryCatch (W.item (j+1) s _ _ hlt hst λv h' tk hP hst' hk'=>?_))));have hS':=hk' S _ hSw hS;refine zb (m:=tryCatch (holding [v,v] (richCompare .Lt v vb >>= _)) _) (wpAny_tryCatch (xx (zb (hcmp (j+1+1) (j+1) (argBest bt j) v vb _ _ _ hst' hP hPb (zb (xx (wE (zb (yl (zd ?_))))))))))
  cases hb:bt (j+1) (argBest bt j) with
  |true=>
   simp only[if_true];refine zb (wpAny_updateSeq hS' rfl (zb (yl ?_)));rw[nm]
   refine zd ⟨plainId_quiet F.plain_min_loop _,ih (j+1) _ v _ w5 hlt (W.frame _ _ _ hst' λb hbf o e=>(wl _ _ (λh:S=b=>hSf (by rw[h];exact hbf))).trans e) (by simp only[argBest,hb,if_true];exact hP) (xO _ hS' rfl) λv' h'' tk'' hP' hk''=>?_⟩
   exact hR v' h'' tk'' hP' λb o hbw hbS e=>hk'' b o hbw hbS ((wl _ _ (Ne.symm hbS)).trans (hk' b o hbw e))
  |false=>
   simp only[zV,if_false];refine zb (yl ?_);rw[nm]
   refine zd ⟨plainId_quiet F.plain_min_loop _,ih (j+1) _ vb c w5 hlt hst' (by simp only[argBest,hb,zV,if_false];exact hPb) hS' λv' h'' tk'' hP' hk''=>?_⟩
   exact hR v' h'' tk'' hP' λb o hbw hbS e=>hk'' b o hbw hbS (hk' b o hbw e)
def za6(W:Walks prog w A.in1 I fp wr n P St)(bt:Nat->Nat->Bool)(hcmp:zS1 prog w A.in1 P St bt)(S:Addr)(hSf:S ∉ fp)(hn:0<n){s:Shared}{c:Nat}(hst:St 0 s.heap)(hS:s.heap.get? S=some (seqObj "list" #[] c))
  (hR:∀v h' tk,P (argBest bt (n-1)) v->(∀b o,b ∉ wr->b≠S->s.heap.get? b=some o->h'.get? b=some o)->R (.ok (.ret v)) { s with heap:=h',toks:=tk }):codeAny (model prog w) A (.builtin "min.loop" ⟨[.ref I,.none,.ref S],[]⟩) R s:=by
 have hSw:S ∉ wr:=λh=>hSf (W.sub _ h)
 have nm:(toString "min" ++ toString ".loop" : String) = "min.loop" := by decide
 refine codeAny_builtin F.entry_min_loop ?_;rw[Around.under_plainId F.plain_min_loop _];refine zb (m:=seqItems? (.ref S)) (wq hS rfl (zb (m:=tryCatch (pyNext (.ref I)) _) (wpAny_tryCatch (W.item 0 s _ _ hn hst λv h' tk hP hst' hk'=>?_))));have hS':=hk' S _ hSw hS;refine zb (m:=updateSeq S (λ_=>#[v,v])) (wpAny_updateSeq hS' rfl ?_);rw[nm]
 refine zd ⟨plainId_quiet F.plain_min_loop _,zl5 W bt hcmp S hSf _ 0 _ v _ rfl hn (W.frame _ _ _ hst' λb hbf o e=>(wl _ _ (λh:S=b=>hSf (by rw[h];exact hbf))).trans e) hP (xO _ hS' rfl) λv' h'' tk'' hP' hk''=>?_⟩
 exact hR v' h'' tk'' hP' λb o hbw hbS e=>hk'' b o hbw hbS ((wl _ _ (Ne.symm hbS)).trans (hk' b o hbw e))
def zl4{E:Value->Shared->Prop}{s:Shared}{x:Value}{Q:Value->Shared->Prop}
  (h : wpAny (model prog w) A.in1 (pyIter x) (λit s₂ => ∃ I fp wr n P St bt, it = .ref I /\ Walks prog w A.in1 I fp wr n P St /\ St 0 s₂.heap /\ (∀ b ∈ fp, b < s₂.heap.objs.size) /\ 0 < n /\ zS1 prog w A.in1 P St bt /\
   ∀v h' tk,P (argBest bt (n-1)) v->(∀b o,b ∉ wr->s₂.heap.get? b=some o->h'.get? b=some o)->Q v { s₂ with heap:=h',toks:=tk }) E s):wpAny (model prog w) A (call (.builtin "min") [x]) Q E s:=by
 have nm:(toString "min" ++ toString ".loop" : String) = "min.loop" := by decide
 refine call_function_tree F.kind_min F.plain_min F.entry_min (F.args_min1 _) ?_;refine zb (m:=Builtin.Builtins.bindParams "min" ["key","default"] 0 ⟨[],[]⟩) (wpAny_of_eq (show Builtin.Builtins.bindParams "min" ["key","default"] 0 ⟨[],[]⟩=pure [none,none] from rfl) (zb (zd (zb (wx h (λit s₂ h₂=>?_) λ_ _ e=>e)))));obtain⟨I,fp,wr,n,P,St,bt,rfl,W,hst,hfp,hn,hcmp,hQ⟩:=h₂;refine zb (xp ?_);rw[nm];refine zd ⟨plainId_quiet F.plain_min_loop _,za6 W bt hcmp s₂.heap.objs.size (λhm=>xl _ (hfp _ hm)) hn (W.frame _ _ _ hst λb _ o e=>ze _ e) (zp _ rfl) λv h' tk hP hk=>?_⟩;exact hQ v h' tk hP λb o hbw e=>hk b o hbw (zw (zo e)) (ze _ e)
end
def ltP(a b:Int × Int):Bool:=HT.kF [a.1,a.2] [b.1,b.2]
def kw{a b:Int × Int}:ltP a b=true↔a.1<b.1\/(a.1=b.1/\a.2<b.2):=by
 unfold ltP HT.kF HT.kF HT.kF
 by_cases h:a.1=b.1
 ·by_cases h2 : a.2 = b.2
  ·simp[h,h2]
  ·simp[h,h2]
 ·simp[h]
def qH(a:Int × Int):ltP a a=false:=by
 cases h:ltP a a with
 |false=>rfl
 |true=>rw[kw] at h;lia
def ji{a b c:Int × Int}(h1:ltP a b=true)(h2:ltP b c=true):ltP a c=true:=by
 rw[kw] at *;lia
theorem XN{bt:Nat->Nat->Bool}(hi:∀a,bt a a=false)(ht:∀a b c,bt a b=true->bt b c=true->bt a c=true):∀k,argBest bt k<=k/\∀i,i<=k->bt i (argBest bt k)=false
 |0=>⟨zn _,λi h=>by
  have e:i=0:=w5
  subst e;exact hi 0⟩
 | k + 1 => by
  obtain⟨h1,h2⟩:=XN hi ht k
  cases hb:bt (k+1) (argBest bt k) with
  | true =>
   have e:argBest bt (k+1)=k+1:=by simp only[argBest,hb,if_true]
   rw[e];refine⟨zn _,λi h=>?_⟩
   by_cases hk:i=k+1
   ·subst hk;exact hi _
   ·cases hc : bt i (k + 1) with
    |false=>rfl
    |true=>
     have z:=ht _ _ _ hc hb
     rw[h2 i w5] at z
     cases z
  |false=>
   have e:argBest bt (k+1)=argBest bt k:=by simp only[argBest,hb,zV,if_false]
   rw[e]
   refine⟨w5,λi h=>?_⟩
   by_cases hk:i=k+1
   ·subst hk;exact hb
   ·exact h2 i w5
section
variable {X:Cx}{A:AC}
def VR(h:Heap)(ks:List (Int × Int))(bs:List Addr):Prop:=∀(i:Nat) (k:Int × Int) (b:Addr),ks[i]?=some k->bs[i]?=some b->∃its:List Value,IsTup h b its.toArray/\Vals [.int k.1,.int k.2] its
def zr3(hc:X.calm=true)(hu:X.A.units+1<cLine):kG X (.builtin "min") (λxs H Q=>∃(p:Addr) (ks:List (Int × Int)) (bs:List Addr),xs=[.ref p]/\SqL X.K H p (bs.map V.ref)/\0<ks.length/\bs.length=ks.length /\
  (∀(i:Nat) (k:Int × Int) (b:Addr),ks[i]?=some k->bs[i]?=some b->SqT X.K H b [.int k.1,.int k.2])/\∀(j:Nat) (k:Int × Int) (b:Addr),ks[j]?=some k->bs[j]?=some b->(∀k'∈ks,ltP k' k=false)->Q (.ref b) H):=by
 intro pins s σ H xs us Q I r h;obtain⟨p,ks,bs,rfl,hq,hn,hlen,htup,q⟩:=h
 cases r with
 | cons r rr =>
  cases rr;cases r;obtain⟨its,rv,pl,_⟩:=I.list hq;have hl:=pl.isList
  have hlt:p<s.heap.objs.size:=by obtain⟨_,e,_⟩:=hl;exact zo e
  have hsz:its.length=bs.length:=by have:=rv.length;simpa using this.symm
  have hat:∀(i:Nat) (v:Value),its[i]?=some v->∃b,bs[i]?=some b/\v=.ref b:=λi v e=>by
   have hi:i<bs.length:=by rw[<- hsz];exact(zq.mp e).1
   obtain⟨u,e1,e2⟩:=rv.get (i:=i) (x:=V.ref bs[i]) (by simp[hi])
   rw[e] at e1;cases e1;exact⟨bs[i],zf hi,e2⟩
  have ok0:VR s.heap ks bs:=λi k b e1 e2=>by
   obtain⟨its2,r2,p2,_⟩:=I.tuple (htup i k b e1 e2);exact⟨its2,p2,r2⟩
  have keepP:∀{h h':Heap},VR h ks bs->(∀b∈bs,∀o,h.get? b=some o->h'.get? b=some o)->VR h' ks bs:=λ{h h'} ok kp i k b e1 e2=>by
   obtain⟨its2,⟨o,ho,t⟩,r2⟩:=ok i k b e1 e2;exact⟨its2,⟨o,kp b (zN e2) o ho,t⟩,r2⟩
  have bsz:∀b∈bs,b<s.heap.objs.size:=λb hb=>by
   obtain⟨i,hi⟩:=List.mem_iff_getElem?.mp hb
   have hi':i<ks.length:=by rw[<- hlen];exact(zq.mp hi).1
   obtain⟨_,⟨o,ho,_⟩,_⟩:=ok0 i ks[i] b (zf hi') hi;exact zo ho
  refine zl4 (yw hl ⟨s.heap.objs.size,[s.heap.objs.size,p]++bs,[s.heap.objs.size],its.toArray.size,_,_,λi j=>ltP (ks[i]?.getD (0,0)) (ks[j]?.getD (0,0)),rfl,
   Walks.more (bs:=bs) (Ok:=λh=>VR h ks bs) (Walks.list (A:=X.A.in1) (I.ok.hd hc) _ p (zw hlt) _) (λb hb z=>by rw[zM.mp z] at hb;exact xl _ (bsz _ hb)) (λh h' ok kp=>keepP ok kp),
   ⟨⟨⟨_,zp _ rfl,rfl,rfl⟩,hl.push _⟩,keepP ok0 λb _ o e=>ze _ e⟩,λb hb=>?_,?_,λt i j vi vj s' Q' E' st hi hj hQ=>?_,λv h' tk hP hk=>?_⟩)
  ·rcases xf.mp hb with hb | hb
   ·simp only [zj, zS, or_false] at hb
    rcases hb with rfl |rfl
    ·simp[Heap.push]
    ·exact Nat.lt_trans hlt (by simp[Heap.push])
   ·exact Nat.lt_trans (bsz b hb) (by simp[Heap.push])
  ·rw[zt,hsz,hlen];exact hn
  ·obtain ⟨b1, e1, rfl⟩ := hat i vi (by simpa using hi)
   obtain⟨b2,e2,rfl⟩:=hat j vj (by simpa using hj)
   have h1:i<ks.length:=by rw[<- hlen];exact(zq.mp e1).1
   have h2:j<ks.length:=by rw[<- hlen];exact(zq.mp e2).1
   obtain⟨i1,p1,r1⟩:=st.2 i ks[i] b1 (zf h1) e1;obtain⟨i2,p2,r2⟩:=st.2 j ks[j] b2 (zf h2) e2;dsimp only at hQ;rw[zf h1,zf h2] at hQ;exact(HT.Wz (ns:=[ks[i].1,ks[i].2]) (ms:=[ks[j].1,ks[j].2]) p1 p2 (kH r1) (kH r2) hu hQ:wpAny (model X.prog X.w) X.A.in1 (compareOp .Lt _ _) Q' E' s')
  ·obtain ⟨m1, m2⟩ := XN (bt := λi j => ltP (ks[i]?.getD (0, 0)) (ks[j]?.getD (0, 0))) (λa => qH _) (λa b c x y => ji x y) (its.toArray.size - 1)
   obtain⟨b,e1,rfl⟩:=hat _ v (by simpa using hP)
   generalize argBest (λi j=>ltP (ks[i]?.getD (0,0)) (ks[j]?.getD (0,0))) (its.toArray.size-1)=m at *
   have h1:m<ks.length:=by rw[<- hlen];exact(zq.mp e1).1
   refine⟨.ref b,H,I.kept (Qg hk),rfl,q m ks[m] b (zf h1) e1 λk' hk'=>?_⟩;obtain⟨i,hi,rfl⟩:=List.mem_iff_getElem.mp hk'
   have z:=m2 i (by rw[zt,hsz,hlen];lia)
   rw[zf hi,zf h1] at z;exact z
def Ws{K:W.Frag}{G:Option Addr}{Z:Addr->Prop}{H:Hp}:∀{ks:List (Int × Int)}{xs:List V},Reps K G Z H (ks.map λk=>.tup [.int k.1,.int k.2]) xs->∃bs:List Addr,xs=bs.map V.ref/\bs.length=ks.length /\
  ∀(i:Nat) (k:Int × Int) (b:Addr),ks[i]?=some k->bs[i]?=some b->Rep K G Z H (.tup [.int k.1,.int k.2]) (.ref b)
 |[],xs,h=>⟨[],h.nil_inv,rfl,λi k b e _=>by simp at e⟩
 | k :: ks, xs, h => by
  obtain⟨v,r,rfl,q,t⟩:=Reps.split h;obtain⟨bs,rfl,hl,hb⟩:=Ws t;obtain⟨b,ys,rfl,sq,rs⟩:=q.tup_inv
  refine⟨b::bs,rfl,by rw[zG,zG,hl],λi k' b' e1 e2=>?_⟩
  cases i with
  |zero=>
   rw[List.getElem?_cons_zero] at e1 e2;cases e1;cases e2;exact .tup_mk sq rs
  |succ i=>
   rw[List.getElem?_cons_succ] at e1 e2;exact hb i k' b' e1 e2
def xx4:List D->(D->Prop)->Prop:=λes k=>∃ks:List (Int × Int),es=[.lst (ks.map λk=>.tup [.int k.1,.int k.2])]/\0<ks.length/\∀m∈ks,(∀k'∈ks,ltP k' m=false)->k (.tup [.int m.1,.int m.2])
def zR4:vo A (λxs H Q=>∃(p:Addr) (ks:List (Int × Int)) (bs:List Addr),xs=[.ref p]/\SqL A.K H p (bs.map V.ref)/\0<ks.length/\bs.length=ks.length /\
  (∀(i:Nat) (k:Int × Int) (b:Addr),ks[i]?=some k->bs[i]?=some b->SqT A.K H b [.int k.1,.int k.2])/\∀(j:Nat) (k:Int × Int) (b:Addr),ks[j]?=some k->bs[j]?=some b->(∀k'∈ks,ltP k' k=false)->Q (.ref b) H) xx4:=by
 rintro os n rho sg H ds vs es ws k Q I rs ⟨ks,rfl,hn,q⟩ hQ;obtain⟨v,rfl,r⟩:=kL rs;obtain⟨a,xs,rfl,sq,rr⟩:=r.lst_inv;obtain⟨bs,rfl,hl,hb⟩:=Ws rr;refine⟨a,ks,bs,rfl,sq.sq,hn,hl,λi k b e1 e2=>?_,λj k b e1 e2 hm=>hQ _ _ _ ⟨os,I.push (hb j k b e1 e2)⟩ (q k (zN e1) hm)⟩;obtain⟨b',e,sq'⟩:=Ja (hb i k b e1 e2);cases e;exact sq'
end
def KD(x:Nat):Nat:=(x*2147483648)%18446744073709551616+x/8589934592
def zf8{x:Nat}(h:x<18446744073709551616):KD x<18446744073709551616:=by
 unfold KD;lia
def zv4{x y:Nat}(hx:x<18446744073709551616)(hy:y<18446744073709551616)(h:KD x=KD y):x=y:=by
 unfold KD at h;have e1:(x*2147483648)%18446744073709551616=(x%8589934592)*2147483648:=Nat.mul_mod_mul_right 2147483648 x 8589934592;have e2:(y*2147483648)%18446744073709551616=(y%8589934592)*2147483648:=Nat.mul_mod_mul_right 2147483648 y 8589934592;rw[e1,e2] at h
 have h1:x/8589934592<2147483648:=w5
 have h2:y/8589934592<2147483648:=w5
 generalize hq:x/8589934592=q at *;generalize hq':y/8589934592=q' at *;generalize hr:x%8589934592=r at *;generalize hr':y%8589934592=r' at *
 have hxx:x=8589934592*q+r:=w5
 have hyy:y=8589934592*q'+r':=w5
 omega +splitDisjunctions
def zl1{a b:Nat}(ha:a<18446744073709551616)(hb:b<18446744073709551616)(h:a*11400714785074694791%18446744073709551616=b*11400714785074694791%18446744073709551616):a=b:=by
 have key:∀c,c<18446744073709551616->(c*11400714785074694791%18446744073709551616)*614540362697595703%18446744073709551616=c:=λc hc=>by
  rw[Nat.mod_mul_mod,Nat.mul_assoc]
  have e:11400714785074694791*614540362697595703=18446744073709551616*(11400714785074694791*614540362697595703/18446744073709551616)+1:=w6
  rw[e,Nat.mul_add,Nat.mul_one,<- Nat.mul_assoc,Nat.mul_comm c,Nat.mul_assoc,Nat.mul_add_mod];exact Nat.mod_eq_of_lt hc
 rw[<- key a ha,<- key b hb,h]
def jj(acc h:Nat):Nat:=KD ((acc+h*14029467366897019727)%18446744073709551616)*11400714785074694791%18446744073709551616
def Vz(acc h:Nat):jj acc h<18446744073709551616:=yr _ w6
def zm4{a b h g:Nat}(e:jj a h=jj b g):(a+h*14029467366897019727)%18446744073709551616=(b+g*14029467366897019727)%18446744073709551616:=
 zv4 (yr _ w6) (yr _ w6) (zl1 (zf8 (yr _ w6)) (zf8 (yr _ w6)) e)
def zA1(m p1 p2 q31 q33:Nat)(a h:Nat):Nat:=(((a+h*p2)%m*q31)%m+(a+h*p2)%m/q33)*p1%m
def zb6(m q63:Nat)(a:Nat):Int:=if a == m-1 then 1546275796 else if a<q63 then a else(a:Int)-m
def xz4(m p1 p2 p5 q31 q33 q63 x:Nat)(hs:List Int):Int:=zb6 m q63 ((hs.foldl (λa h=>zA1 m p1 p2 q31 q33 a (h%(m:Int)).toNat) p5+(hs.length ^^^ (p5 ^^^ x)))%m)
def zu3(m p1 p2 p5 q31 q33 q63 x:Nat)(h g:Int):xz4 m p1 p2 p5 q31 q33 q63 x [h,g]=zb6 m q63 ((zA1 m p1 p2 q31 q33 (zA1 m p1 p2 q31 q33 p5 (h%(m:Int)).toNat) (g%(m:Int)).toNat+(2 ^^^ (p5 ^^^ x)))%m):=rfl
def zu2(hs:List Int):Builtin.Tuple.tupleHashOf hs=xz4 (2^64) 11400714785074694791 14029467366897019727 2870177450012600261 (2^31) (2^33) (2^63) 3527539 hs:=rfl
def zm5(a h:Nat):zA1 18446744073709551616 11400714785074694791 14029467366897019727 2147483648 8589934592 a h=jj a h:=rfl
def zD8(h g:Int):Builtin.Tuple.tupleHashOf [h,g]=zb6 18446744073709551616 9223372036854775808 ((jj (jj 2870177450012600261 (h%18446744073709551616).toNat) (g%18446744073709551616).toNat+2870177450013471924)%18446744073709551616):=by
 rw[zu2,zu3,<- zm5,<- zm5]
 have e1:(2^64:Nat)=18446744073709551616:=w6
 have e2:(2^31:Nat)=2147483648:=w6
 have e3:(2^33:Nat)=8589934592:=w6
 have e4:(2^63:Nat)=9223372036854775808:=w6
 rw[e1,e2,e3,e4]
 have e5:((18446744073709551616:Nat):Int)=18446744073709551616:=w6
 have e6:2 ^^^ (2870177450012600261 ^^^ 3527539)=2870177450013471924:=w6
 rw[e5,e6]
def zB6{a b:Nat}(ha:a<18446744073709551616)(hb:b<18446744073709551616)(h:zb6 18446744073709551616 9223372036854775808 a=zb6 18446744073709551616 9223372036854775808 b):a=b\/a=18446744073709551615\/b=18446744073709551615:=by
 unfold zb6 at h
 by_cases h1:a=18446744073709551615
 ·exact .inr (.inl h1)
 ·by_cases h2 : b = 18446744073709551615
  ·exact .inr (.inr h2)
  ·have n1 : (a == 18446744073709551616 - 1) = false := by simpa using h1
   have n2:(b == 18446744073709551616-1)=false:=by simpa using h2
   rw[n1,n2] at h;simp only[zV,if_false] at h
   split at h<;>split at h<;>lia
def Mid(h:Int):Prop:=-1000000000000000000<h/\h<1000000000000000000
def zf9{x:Nat}(hx:x<18446744073709551616):KD x=(x%8589934592)*2147483648+x/8589934592:=by
 unfold KD;rw[show(x*2147483648)%18446744073709551616=(x%8589934592)*2147483648 from Nat.mul_mod_mul_right 2147483648 x 8589934592]
def zb0{x y:Nat}(hx:x<18446744073709551616)(hy:y<18446744073709551616){r:Int}(h0:0<=r)(h1:r<18446744073709551616)(h:∃k:Int,(KD x:Int)-KD y=r+18446744073709551616*k) :
  ∃c1 c2:Int,(c1=0\/c1=1)/\(c2=0\/c2=1)/\∃k:Int,(x:Int)-y=8589934592*(r%2147483648)+r/2147483648+c1-8589934592*c2+18446744073709551616*k:=by
 obtain⟨k,h⟩:=h;rw[zf9 hx,zf9 hy] at h
 have hr:r=2147483648*(r/2147483648)+r%2147483648:=w5
 have r1:0<=r%2147483648/\r%2147483648<2147483648:=w5
 have r2:0<=r/2147483648/\r/2147483648<8589934592:=w5
 generalize r/2147483648=B at *;generalize r%2147483648=A at *
 have ex:(x:Int)=8589934592*(x/8589934592:Nat)+(x%8589934592:Nat):=w5
 have ey:(y:Int)=8589934592*(y/8589934592:Nat)+(y%8589934592:Nat):=w5
 have x1:x/8589934592<2147483648:=w5
 have y1:y/8589934592<2147483648:=w5
 have x2:x%8589934592<8589934592:=w5
 have y2:y%8589934592<8589934592:=w5
 generalize x/8589934592=xa at *;generalize y/8589934592=ya at *;generalize x%8589934592=xb at *;generalize y%8589934592=yb at *
 have e:(xb:Int)*2147483648+xa-(yb*2147483648+ya)=2147483648*B+A+18446744073709551616*k:=w5
 obtain⟨u,hu⟩:∃u:Int,(xa:Int)-ya-A=2147483648*u:=⟨B+8589934592*k-(xb-yb),w5⟩
 have hu2:u=0\/u=-1:=w5
 have hb:(xb:Int)-yb=B+8589934592*k-u:=w5
 have hk2:k=0\/k=-1:=w5
 exact⟨-u,-k,w5,w5,u,w5⟩
def ZV(N M:Nat):∃q:Int,(N:Int)=M*q+((N%M:Nat):Int):=⟨((N/M:Nat):Int),by
 have:=Nat.div_add_mod N M
 rw[<- Int.natCast_mul,<- Int.natCast_add,this]⟩
def zz9{a b n m M p1 p2:Nat}(h:(a*p1%M+n*p2)%M=(b*p1%M+m*p2)%M):∃k:Int,((a:Int)-b)*p1=((m:Int)-n)*p2+M*k:=by
 obtain⟨q3,e3⟩:=ZV (a*p1) M;obtain⟨q4,e4⟩:=ZV (b*p1) M;obtain⟨q5,e5⟩:=ZV (a*p1%M+n*p2) M;obtain⟨q6,e6⟩:=ZV (b*p1%M+m*p2) M;rw[h] at e5;simp only[Int.natCast_add,Int.natCast_mul] at e3 e4 e5 e6;generalize ((a*p1%M:Nat):Int)=ra at *;generalize ((b*p1%M:Nat):Int)=rb at *;generalize (((b*p1%M+m*p2)%M:Nat):Int)=rc at *
 exact⟨q3-q4+q5-q6,by grind⟩
def zn6{d p M k t i q:Int}(h:d*p=t+M*k)(hi:i*p=M*q+1):∃k,d=t*i+M*k:=⟨i*k-q*d,by grind⟩
def zP1{p5 g h p2 M:Nat}{z k:Int}(e:(((p5+g*p2)%M:Nat):Int)-((p5+h*p2)%M:Nat)=z+M*k):∃k:Int,((g:Int)-h)*p2=z+M*k:=by
 obtain⟨q3,e3⟩:=ZV (p5+g*p2) M;obtain⟨q4,e4⟩:=ZV (p5+h*p2) M;simp only[Int.natCast_add,Int.natCast_mul] at e3 e4;generalize (((p5+g*p2)%M:Nat):Int)=ra at *;generalize (((p5+h*p2)%M:Nat):Int)=rb at *
 exact⟨k+q3-q4,by grind⟩
def zd7{d z M k:Int}(h:d=z+M*k):d%M=z%M:=by rw[h,Int.add_mul_emod_self_left]
def xg3(t:Int):Int:=(t*14029467366897019727*614540362697595703)%18446744073709551616
def Yw(t c1 c2:Int):Int:=((8589934592*(xg3 t%2147483648)+xg3 t/2147483648+c1-8589934592*c2)*839798700976720815)%18446744073709551616
def Xo{g h n m:Nat}(e:jj (jj 2870177450012600261 g) n=jj (jj 2870177450012600261 h) m):∃c1 c2:Int,(c1=0\/c1=1)/\(c2=0\/c2=1)/\((g:Int)-h)%18446744073709551616=Yw ((m:Int)-n) c1 c2:=by
 have e1:=zm4 e;obtain⟨k,e2⟩:=zz9 (a:=KD ((2870177450012600261+g*14029467366897019727)%18446744073709551616)) (b:=KD ((2870177450012600261+h*14029467366897019727)%18446744073709551616)) (n:=n) (m:=m) (M:=18446744073709551616) (p1:=11400714785074694791) (p2:=14029467366897019727) e1
 obtain⟨k2,e3⟩:=zn6 (i:=614540362697595703) (q:=379806830464837242) e2 w6
 have e4:=zd7 e3
 have r0:0<=xg3 ((m:Int)-n)/\xg3 ((m:Int)-n)<18446744073709551616:=⟨wv _ w6,wR _ w6⟩
 obtain⟨c1,c2,hc1,hc2,k3,e5⟩:=zb0 (yr _ w6) (yr _ w6) r0.1 r0.2 ⟨_,by
  have z:=Int.emod_add_mul_ediv ((KD ((2870177450012600261+g*14029467366897019727)%18446744073709551616):Int)-KD ((2870177450012600261+h*14029467366897019727)%18446744073709551616)) 18446744073709551616;rw[show(KD ((2870177450012600261+g*14029467366897019727)%18446744073709551616)-KD ((2870177450012600261+h*14029467366897019727)%18446744073709551616):Int)%18446744073709551616=xg3 ((m:Int)-n) from e4] at z
  exact z.symm⟩
 obtain⟨k4,e6⟩:=zP1 (M:=18446744073709551616) e5
 obtain⟨k5,e7⟩:=zn6 (i:=839798700976720815) (q:=638699622168397319) e6 w6
 exact⟨c1,c2,hc1,hc2,zd7 e7⟩
def xn1(e:Int):Int:=if e<9223372036854775808 then e else e-18446744073709551616
def okC(e:Int):Bool:=decide (20000<(xn1 (e%18446744073709551616)+10000)%1000000000000000)
def xg0(k:Nat):Bool:=okC (Yw k 0 0)&&okC (Yw k 0 1)&&okC (Yw k 1 0)&&okC (Yw k 1 1)
def xf9(k:Nat):Bool:=okC (Yw (-k) 0 0+926380684836714815)&&okC (Yw (-k) 0 1+926380684836714815)&&okC (Yw (-k) 1 0+926380684836714815)&&okC (Yw (-k) 1 1+926380684836714815)
def xg4(f:Nat->Bool):Nat->Bool
 |0=>true
 |n+1=>f n&&xg4 f n
theorem JD{f:Nat->Bool}:∀{n k:Nat},xg4 f n=true->k<n->f k=true
 |0,k,_,h=>by lia
 |n+1,k,e,h=>by
  unfold xg4 at e;rw[zD] at e
  by_cases hk:k=n
  ·rw[hk];exact e.1
  ·exact JD e.2 w5
def zN6:xg4 (λk=>xg0 (k+1)) 2000=true:=x6
def zN5:xg4 xf9 2000=true:=x6
def KR{k:Int}(h:Mid k):rawHash k=if k=-1 then -2 else k:=by
 obtain⟨h1,h2⟩:=h
 have e:((k.natAbs:Nat):Int)%((2^61-1:Nat):Int)=(k.natAbs:Int):=Int.emod_eq_of_lt w5 w5
 unfold rawHash;rw[e];dsimp only
 have e2:(if k<0 then -(k.natAbs:Int) else(k.natAbs:Int))=k:=by split<;>lia
 rw[e2]
 by_cases hk:k=-1
 ·rw[if_pos (by simpa using hk),if_pos hk]
 ·rw[if_neg (by simpa using hk),if_neg hk]
def Xw{k:Int}(h:Mid k):hashInt k=if k=-1 then -2 else k:=by
 unfold hashInt;rw[KR h]
 by_cases hk:k=-1
 ·rw[if_pos hk];rfl
 ·rw[if_neg hk,if_neg (by simpa using hk)]
def zg0{a:Nat}(ha:a<18446744073709551616):reduceHash (zb6 18446744073709551616 9223372036854775808 a)=zb6 18446744073709551616 9223372036854775808 a:=by
 have b:-9223372036854775808<=zb6 18446744073709551616 9223372036854775808 a/\zb6 18446744073709551616 9223372036854775808 a<9223372036854775808/\zb6 18446744073709551616 9223372036854775808 a≠-1:=by
  unfold zb6
  by_cases h1:a=18446744073709551615
  ·rw[if_pos (by simpa using h1)];decide
  ·rw [if_neg (by simpa using h1)]
   split<;>lia
 generalize zb6 18446744073709551616 9223372036854775808 a=x at b;unfold reduceHash
 have e1:(decide (-(2^63:Int)<=x)&&decide (x<2^63))=true:=by
  rw[zD,wF,wF];lia
 rw[if_pos e1,if_neg (by simpa using b.2.2)]
def FormK(k:Int):Prop:=(∃a e:Int,k=1000000000000000*a+e/\-4500<=e/\e<=4500)/\-900000000000000000<k/\k<900000000000000000
def zo6{h E a e:Int}(h1:h=1000000000000000*a+e)(h2:-10000<=e)(h3:e<=10000)(h4:-9000000000000000000<h)(h5:h<9000000000000000000)(hE:h%18446744073709551616=E%18446744073709551616)(ok:okC E=true):False:=by
 have o:=of_decide_eq_true ok;rw[<- hE] at o
 have e1:xn1 (h%18446744073709551616)=h:=by unfold xn1;split<;>lia
 rw[e1] at o;lia
def zA0{a b:Nat}(ha:a<18446744073709551616)(hb:b<18446744073709551616)(h:(a+2870177450013471924)%18446744073709551616=(b+2870177450013471924)%18446744073709551616):a=b:=w5
def FormK.hash{k:Int}(h:FormK k):∃a e:Int,hashInt k=1000000000000000*a+e/\-4501<=e/\e<=4501/\-900000000000000001<hashInt k/\hashInt k<900000000000000001:=by
 obtain⟨⟨a,e,h1,h2,h3⟩,h4,h5⟩:=h
 rw[Xw ⟨w5,w5⟩]
 by_cases hk:k=-1
 ·rw [if_pos hk]
  exact⟨0,-2,w5,w5,w5,w5,w5⟩
 ·rw [if_neg hk]
  exact⟨a,e,h1,w5,w5,w5,w5⟩
def UJ{n:Int}(h0:0<=n)(h1:n<2000):(((hashInt n)%18446744073709551616).toNat:Int)=n:=by
 rw[Xw ⟨w5,w5⟩,if_neg w5]
 lia
def zr2{g h:Nat}{t:Nat}{x y:Int}(hx:(g:Int)=x%18446744073709551616)(hy:(h:Int)=y%18446744073709551616){c1 c2:Int}(hc1:c1=0\/c1=1)(hc2:c2=0\/c2=1)(e:((g:Int)-h)%18446744073709551616=Yw ((t+1:Nat):Int) c1 c2)(ht:t<2000)
  {a b ea eb:Int} (h1:x=1000000000000000*a+ea) (h2:-4501<=ea) (h3:ea<=4501) (h4:-900000000000000001<x) (h5:x<900000000000000001) (g1:y=1000000000000000*b+eb) (g2:-4501<=eb) (g3:eb<=4501) (g4:-900000000000000001<y) (g5:y<900000000000000001):False:=by
 have o:=JD zN6 ht;unfold xg0 at o;simp only[zD] at o;obtain⟨⟨⟨o1,o2⟩,o3⟩,o4⟩:=o
 have ok:okC (Yw ((t+1:Nat):Int) c1 c2)=true:=by
  rcases hc1 with rfl |rfl<;>rcases hc2 with rfl |rfl
  ·exact o1
  ·exact o2
  ·exact o3
  ·exact o4
 refine zo6 (h:=x-y) (a:=a-b) (e:=ea-eb) w5 w5 w5 w5 w5 ?_ ok
 rw[<- e,hx,hy];lia
def zo1{k l n m:Int}(hk:FormK k)(hl:FormK l)(n0:0<=n)(n1:n<2000)(m0:0<=m)(m1:m<2000)(hne:n≠m):Wh (k,n)≠Wh (l,m):=λe=>by
 obtain⟨a,ea,h1,h2,h3,h4,h5⟩:=hk.hash;obtain⟨b,eb,g1,g2,g3,g4,g5⟩:=hl.hash;have e':reduceHash (Builtin.Tuple.tupleHashOf [hashInt k,hashInt n])=reduceHash (Builtin.Tuple.tupleHashOf [hashInt l,hashInt m]):=e
 rw[zD8,zD8,zg0 (yr _ w6),zg0 (yr _ w6)] at e'
 have en:=UJ n0 n1;have em:=UJ m0 m1
 have ek:((((hashInt k)%18446744073709551616).toNat:Nat):Int)=hashInt k%18446744073709551616:=Int.toNat_of_nonneg (wv _ w6)
 have el:((((hashInt l)%18446744073709551616).toNat:Nat):Int)=hashInt l%18446744073709551616:=Int.toNat_of_nonneg (wv _ w6)
 generalize (hashInt n%18446744073709551616).toNat=n' at *;generalize (hashInt m%18446744073709551616).toNat=m' at *;generalize (hashInt k%18446744073709551616).toNat=k' at *;generalize (hashInt l%18446744073709551616).toNat=l' at *
 have odd:∀(g nn:Nat) (x:Int) (a ea:Int),(g:Int)=x%18446744073709551616->nn<2000->x=1000000000000000*a+ea->-4501<=ea->ea<=4501->-900000000000000001<x->x<900000000000000001->(jj (jj 2870177450012600261 g) nn+2870177450013471924)%18446744073709551616=18446744073709551615->False:=λg nn x a ea hx hn i1 i2 i3 i4 i5 z=>by
  have z1:jj (jj 2870177450012600261 g) nn=15576566623696079691:=by
   have:=Vz (jj 2870177450012600261 g) nn;lia
  have z2:jj (jj 2870177450012600261 926380684836714815) 0=15576566623696079691:=x6
  obtain⟨c1,c2,hc1,hc2,z3⟩:=Xo (z1.trans z2.symm);have o:=JD zN5 hn;unfold xf9 at o;simp only[zD] at o;obtain⟨⟨⟨o1,o2⟩,o3⟩,o4⟩:=o
  have et:((0:Nat):Int)-(nn:Int)=-(nn:Int):=w5
  rw[et] at z3
  have ok:okC (Yw (-(nn:Int)) c1 c2+926380684836714815)=true:=by
   rcases hc1 with rfl |rfl<;>rcases hc2 with rfl |rfl
   ·exact o1
   ·exact o2
   ·exact o3
   ·exact o4
  refine zo6 i1 w5 w5 w5 w5 ?_ ok
  rw[<- z3,<- hx]
  have:((926380684836714815:Nat):Int)=926380684836714815:=w6
  rw[this];lia
 rcases zB6 (yr _ w6) (yr _ w6) e' with z |z |z
 ·have z1 := zA0 (Vz ..) (Vz ..) z
  rcases Int.lt_or_gt_of_ne hne with hlt |hgt
  ·obtain ⟨c1, c2, hc1, hc2, z3⟩ := Xo z1
   obtain⟨t,ht⟩:∃t:Nat,(m':Int)-n'=((t+1:Nat):Int):=⟨(m-n-1).toNat,w5⟩
   rw[ht] at z3
   exact zr2 ek el hc1 hc2 z3 w5 h1 h2 h3 h4 h5 g1 g2 g3 g4 g5
  ·obtain ⟨c1, c2, hc1, hc2, z3⟩ := Xo z1.symm
   obtain⟨t,ht⟩:∃t:Nat,(n':Int)-m'=((t+1:Nat):Int):=⟨(n-m-1).toNat,w5⟩
   rw[ht] at z3
   exact zr2 el ek hc1 hc2 z3 w5 g1 g2 g3 g4 g5 h1 h2 h3 h4 h5
 ·exact odd k' n' _ a ea ek w5 h1 h2 h3 h4 h5 z
 ·exact odd l' m' _ b eb el w5 g1 g2 g3 g4 g5 z
end L2
namespace HT
section
open PySem.SeqAt
open PySem.AutoSeq1 (wpAny_loadPart')
open PySem.MeetsSeq PySem.MeetsSeq2 PySem.MeetsSeq3
end
section
variable {prog:Program}{w:World}{A:Around}{E:Value->Shared->Prop}{s:Shared}
end
end HT
namespace L2
section
variable {X:Cx}{A:AC}
end
end L2
namespace L2
open PySem PySem.Spec PyProof.Rows PySem.SeqAt
section
variable {A:AC}{X:Cx}{pos:Pos}
def zE3(i j k:Nat)(c:Int):TSD:=λF rho n=>i<rho.length/\j<rho.length/\k<rho.length/\F.nx (((rho.set i (some (.own []))).set j (some (.own []))).set k (some (.int c))) n
@[simp] theorem xh5{i j k c F rho n}:zE3 i j k c F rho n=(i<rho.length/\j<rho.length/\k<rho.length/\F.nx (((rho.set i (some (.own []))).set j (some (.own []))).set k (some (.int c))) n):=rfl
def zh6{i j k:Nat}{x y z:Str}{c:Int}{cj:Nat}{px py pz pt pl pm pc:Pos}{kt k2 pt2}(hc:X.calm=true)(hN:X.N.Nodup)(hi:X.N[i]?=some x)(hj:X.N[j]?=some y)(hk3:X.N[k]?=some z)(hij:i≠j)(hik:i≠k)(hjk:j≠k)
  (hx:X.env.scope.names.lookup x=some .local) (hy:X.env.scope.names.lookup y=some .local) (hz:X.env.scope.names.lookup z=some .local)
  (hk:X.env.blockKind=.function:=by rfl) (hl:py.line=px.line:=by rfl) (hl2:pz.line=px.line:=by rfl) (hxy:x≠y:=by decide) (hxz:x≠z:=by decide) (hyz:y≠z:=by decide) (hf:[Expr.List [] pl,.List [] pm,.Constant (.int c) cj pc].all (foldedForSure 8)=false:=by decide +kernel) (hca:[Expr.List [] pl,.List [] pm,.Constant (.int c) cj pc].all (constantsAlone 8)=false:=by decide +kernel) :
  PSD A X (.Assign [.Tuple [.Name x px,.Name y py,.Name z pz] kt pt] (.Tuple [.List [] pl,.List [] pm,.Constant (.int c) cj pc] k2 pt2) pos) (zE3 i j k c):=by
 exists (by
   refine(zL1 hc hN hi hj hk3 hx hy hz (qD (Uv Zu) (qD (Uv Zu) (qD Uw Zu (sE rfl)) (sE rfl)) (sE rfl)) (zu7 hk hx hy hz hl hl2 hxy hxz hyz rfl rfl rfl hf hca) rfl).imp λE sg H h=>?_;obtain⟨rho,n,F,ds,vs,⟨os,I⟩,⟨hil,hjl,hkl,ht⟩,ok⟩:=h;refine⟨xJ _,λp hp=>⟨xJ _,λp2 hp2=>⟨_,_,_,rfl,?_⟩⟩⟩;obtain⟨os2,J2⟩:=I.setOwn (es:=[]) (xs:=[]) hil hp .nil
   obtain⟨os3,J3⟩:=J2.setOwn (es:=[]) (xs:=[]) (i:=j) (by simpa using hjl) hp2 .nil
   have J4:=(J3.push (d:=.int c) (v:=.int c) (Rep.ofS rfl)).set (i:=k) (by simpa using hkl)
   have e:((sg.set k (some (V.int c))).set j (some (.ref p2))).set i (some (.ref p))=((sg.set i (some (.ref p))).set j (some (.ref p2))).set k (some (V.int c)):=by
    rw[set_comm _ _ (Ne.symm hjk),set_comm _ _ (Ne.symm hik),set_comm _ _ (Ne.symm hij)]
   exact e ▸ ok.nx _ _ _ _ ⟨_,J4⟩ ht)
end
def zE4:RD2:=λd1 d2 k=>∃es,d1=.lst es/\d2=.lst []/\k (.bl (!es.isEmpty))
def zK0{A:AC}{X:Cx}(hK:X.K=A.K):kZ A (xo5 X) zE4:=by
 rintro os n rho sg H ds vs d1 d2 v1 v2 k Q I ⟨es,rfl,rfl,q⟩ hQ;obtain⟨I1,r2⟩:=I.pop;obtain⟨I2,r1⟩:=I1.pop;rw[<- hK] at r1 r2
 have ok0:okE (.lst []) 20=true:=by unfold okE;rfl
 refine⟨es.isEmpty,λpins s σ v u J rx ry B hu=>?_,hQ _ H _ ⟨os,I2.push (Rep.ofS rfl)⟩ q⟩
 cases es with
 |nil=>exact Qq J 20 _ _ v1 v2 v u B ok0 ok0 r1 r2 rx ry w5
 |cons e es=>
  obtain⟨a,xs,e1,sq,rs⟩:=r1.lst_inv;obtain⟨b,ys,e2,sq',rs'⟩:=r2.lst_inv;subst e1 e2;have c1:v=.ref a:=rx;have c2:u=.ref b:=ry;subst c1 c2;obtain⟨its,rv,pl,hz⟩:=J.list sq.sq;obtain⟨its',rv',pl',hz'⟩:=J.list sq'.sq
  have n1:its.toArray.size=es.length+1:=by rw[show its.toArray.size=its.length from rfl,<- rv.length,rs.length];rfl
  have n2:its'.toArray.size=0:=by rw[show its'.toArray.size=its'.length from rfl,<- rv'.length,rs'.length];rfl
  have hs:(its.toArray.size != its'.toArray.size)=true:=by rw[n1,n2];simp
  have R:RcAt B s (.ref a) (.ref b) false:=RcAt.lists_lengths (A:=B) pl.isList pl'.isList hs w5
  have N:RcNeAt B s (.ref a) (.ref b) true:=RcNeAt.lists_lengths (A:=B) pl.isList pl'.isList hs w5
  refine⟨?_,R,N⟩
  by_cases hab:a=b
  ·subst hab;obtain⟨o,m,g1,_,_,g2⟩:=pl;obtain⟨o',m',g3,_,_,g4⟩:=pl';rw[g1] at g3;cases g3;rw[g2] at g4;injection g4 with g5;rw[g5,n2] at n1;cases n1
  ·exact .of_refs hab R
@[simp] theorem xi3{d1 d2 k}:zE4 d1 d2 k=∃es,d1=.lst es/\d2=.lst []/\k (.bl (!es.isEmpty)):=rfl
def Caps.two{X:Cx}{p y z:Str}{a b:Addr}{i j:Nat}(hk:X.env.kindOf y=some .cell)(hk2:X.env.kindOf z=some .cell)(hi:X.N[i]?=some y)(hj:X.N[j]?=some z)(hc:X.env.cells.lookup y=some a)(hc2:X.env.cells.lookup z=some b)(hne:(z == y)=false:=by rfl):Caps X [p,y,z] [(y,a),(z,b)] [i,j]:=by
 have l1:[(y,a),(z,b)].lookup y=some a:=by rw[zT,beq_self_eq_true]
 have l2:[(y,a),(z,b)].lookup z=some b:=by rw[zT,hne,zT,beq_self_eq_true]
 refine⟨rfl,λk x e=>?_,λx c e=>?_,λk x e=>?_⟩
 ·rcases k with _ | _ | k
  ·cases e;exact⟨hk,i,rfl,hi⟩
  ·cases e;exact⟨hk2,j,rfl,hj⟩
  ·simp at e
 ·rw [zT] at e
  split at e
  ·rename_i h;cases e;rw[eq_of_beq h];exact hc
  ·rw [zT] at e
   split at e
   ·rename_i h;cases e;rw[eq_of_beq h];exact hc2
   ·cases e
 ·rcases k with _ | _ | k
  ·cases e;exact⟨a,l1⟩
  ·cases e;exact⟨b,l2⟩
  ·simp at e
def Qv{p y z:Str}{a b:Addr}(hne:(z == y)=false:=by rfl):∀x∈[p,y,z].drop 1,∃c,[(y,a),(z,b)].lookup x=some c:=λx hx=>by
 have e:x=y\/x=z:=by simpa using hx
 rcases e with rfl |rfl
 ·exact⟨a,by rw[zT,beq_self_eq_true]⟩
 ·exact⟨b,by rw[zT,hne,zT,beq_self_eq_true]⟩
end L2
set_option maxHeartbeats 1000000
open L2
namespace K40
abbrev q0:List Str:=["one","other"]
abbrev q1:List Str:=["_law_left_here","_law_house_here"]
abbrev q2:List Str:=["_law_left_here","_law_d","_law_things","_law_turn"]
abbrev q3:List Str:=["by_name","trees","plain","kind"]
abbrev q4:List Str:=["house","tree","box","kind","k"]
abbrev q5:List Str:=["_law_edges","_law_plain_here"]
abbrev q6:List Str:=["_law_found","_law_due"]
abbrev q7:List Str:=["_law_edges","_law_place"]
abbrev q8:List Str:=["_law_house_here","_law_tree_here","_law_kind_here"]
abbrev q9:List Str:=["_law_left_here","_law_house_here","_law_i"]
abbrev q10:List Str:=["gone","house","tree","box","kind","k"]
abbrev q11:List Str:=["_law_edges","_law_plain_here","_law_i","_law_side"]
abbrev q12:List Str:=["_law_house_here","_law_tree_here","_law_plain_here","_law_kind_here","_law_k"]
def top(i:Nat):Stmt:=PySem.Challenge.pw_boxlayers_k40_drawn_by_keys.main.body.getD i (.Pass ⟨0,0,0,0⟩)
abbrev End:=Option (Int × Bool)
abbrev VY:=End × End
def kR:End->D
 |none=>.non
 |some (n,s)=>.tup [.int n,.bl s]
def Wj:Option Int->D
 |none=>.non
 |some i=>.int i
def qg(s:VY):D:=.tup [kR s.1,kR s.2]
def vA(b:List VY):D:=.tup (b.map qg)
def yG(p:List Int):D:=.tup (p.map D.int)
def UQ:End->Option Int
 |none=>none
 |some (n,s)=>some (if s then n else n+1)
def Qo:End->Option Int
 |none=>none
 |some (n,s)=>some (if s then n else n-1)
def liesT(lo hi:Option Int)(x:Int):Bool:=(match lo with |none=>true |some l=>decide (l<=x))&&(match hi with |none=>true |some g=>decide (x<=g))
@[simp] theorem xl7:kR none=.non:=rfl
@[simp] theorem xl6{n:Int}{s:Bool}:kR (some (n,s))=.tup [.int n,.bl s]:=rfl
def Xe(e:End):xZ (kR e)=true:=by rcases e with _ |⟨n,s⟩<;>rfl
section
variable {P:Program}{w:World}{K:W.Frag}{mg:Str->Option Value}{base:Heap}{f:Addr}{fd:FuncData}
abbrev ZK:Stmt:=top 2
abbrev zc9:List Str:=["low","number","shut"]
def jQ:FnScope zc9 ["low"] (xj ZK):=⟨rfl,rfl,rfl,x6,rfl,x6,x6⟩
def ZF:TF:=λds n Q=>∃e:End,ds=[kR e]/\Q (Wj (UQ e)) n
def Jc(F:Fun K "least_of" "least_of" ZK f fd):FnOk P w K mg base CX0 1 f fd ["low"] (spD K 1 ZF):=by
 refine Fun.okD F jQ (λ_ _ _ s H E G Z hr=>(zE (vH (wB qj qi (zh 0) vg (wT _)) (zZ (xY vg)) yS)
  (zE (ZQ (m:=3) (zh 0) (vY (k:=2) rfl rfl (xR (xo (i:=1) jQ.nd rfl (lo rfl) w6) (xR (xo (i:=2) jQ.nd rfl (lo rfl) w6) vy))))
  (zZ (xY (KZ (jZ (zh 2)) (zh 1) (kc (zh 1) zu))))))) ?_
 rintro ds n Q hl ⟨e,rfl,q⟩
 rcases e with _ |⟨m,s⟩
 ·simp[startD,kR];exact q
 ·cases s<;>(simp[startD,kR];exact q)
abbrev qu:Stmt:=top 3
abbrev VT:List Str:=["high","number","shut"]
def qd:FnScope VT ["high"] (xj qu):=⟨rfl,rfl,rfl,x6,rfl,x6,x6⟩
def qp:TF:=λds n Q=>∃e:End,ds=[kR e]/\Q (Wj (Qo e)) n
def XZ(F:Fun K "greatest_of" "greatest_of" qu f fd):FnOk P w K mg base CX0 1 f fd ["high"] (spD K 1 qp):=by
 refine Fun.okD F qd (λ_ _ _ s H E G Z hr=>(zE (vH (wB qj qi (zh 0) vg (wT _)) (zZ (xY vg)) yS)
  (zE (ZQ (m:=3) (zh 0) (vY (k:=2) rfl rfl (xR (xo (i:=1) qd.nd rfl (lo rfl) w6) (xR (xo (i:=2) qd.nd rfl (lo rfl) w6) vy))))
  (zZ (xY (KZ (jZ (zh 2)) (zh 1) (jc (zh 1) zu))))))) ?_
 rintro ds n Q hl ⟨e,rfl,q⟩
 rcases e with _ |⟨m,s⟩
 ·simp[startD,kR];exact q
 ·cases s<;>(simp[startD,kR];exact q)
abbrev YT:Stmt:=top 4
abbrev zt0:List Str:=["span","low","high"]
def ZI:FnScope zt0 ["span"] (xj YT):=⟨rfl,rfl,rfl,x6,rfl,x6,x6⟩
def YN:TF:=λds n Q=>∃s:VY,ds=[qg s]/\Q (.tup [Wj (UQ s.1),Wj (Qo s.2)]) n
def za0(F:Fun K "pair_of" "pair_of" YT f fd)(F_least_of:Fn P w K mg base "least_of" 1 1 ZF)(F_greatest_of:Fn P w K mg base "greatest_of" 1 1 qp):FnOk P w K mg base CX0 2 f fd ["span"] (spD K 1 YN):=by
 refine Fun.okD F ZI (λ_ _ _ s H E G Z hr=>(zE (ZQ (m:=3) (zh 0) (vY (k:=2) rfl rfl (xR (xo (i:=1) ZI.nd rfl (lo rfl) w6) (xR (xo (i:=2) ZI.nd rfl (lo rfl) w6) vy))))
  (zZ (xY (vf (zc (wY F_least_of (hr.mono w6) rfl (zc (zh 1) zm)) (zc (wY F_greatest_of (hr.mono w6) rfl (zc (zh 2) zm)) zm))))))) ?_
 rintro ds n Q hl ⟨s,rfl,q⟩;simp[startD,qg,Xe];exact⟨s.1,rfl,s.2,rfl,q⟩
end
def zE8{es:List D}{k:Int}{R:D->Prop}(h0:0<=k)(h1:k<es.length)(h:∀d∈es,R d):Yp (.lst es) (.int k) R:=by
 obtain⟨d,e,m⟩:=zs2 h0 h1;exact zK4.mpr ⟨d,e,h d m⟩
def zi1{js:List Int}{k:Int}{R:D->Prop}(lo hi:Int)(h0:0<=k)(h1:k<js.length)(hb:∀j∈js,lo<=j/\j<=hi)(h:∀j:Int,lo<=j->j<=hi->R (.int j)):Yp (.lst (js.map D.int)) (.int k) R:=by
 refine zE8 h0 (by simpa using h1) λd hd=>?_
 obtain⟨j,hj,rfl⟩:=zi.mp hd;exact h j (hb j hj).1 (hb j hj).2
def ja(c:Nat):(KQ 0 c).length=c:=by unfold KQ;rw[zg,length_range]
def YU{c i:Nat}{d:D}(h:(KQ 0 c)[i]?=some d):i<c/\d=.int (i:Int):=by
 have hi:i<c:=by have:=(zq.mp h).1;rw[ja] at this;exact this
 refine⟨hi,?_⟩;unfold KQ at h;rw[zA,yM hi] at h;have:=zF h;rw[<- this];simp
def Ke{own:Nat}{g:TGD}{te:TD}{rho:Rho}{P:D->Nat->Prop}(items:List D)(n1:Nat)(Good:D->D->Prop)(hz:items.length<=sizeLine)
  (he:∀(i:Nat) (d:D),items[i]?=some d->∀Q:D->Nat->Prop,(∀e,Good d e->Q e n1)->g d (replicate own none++rho) λrho'=>rho'.drop own=rho/\te rho' n1 Q)
  (hP:∀es,Paired Good items es->P (.lst es) n1):Kg own g xg2 te rho P items n1:=by
 refine⟨hz,λi acc n=>Paired Good (items.take i) acc/\n=n1,⟨.nil,rfl⟩,?_,?_⟩
 ·rintro i d acc n e ⟨h1,rfl⟩;refine he i d e (λe n3=>Paired Good (items.take (i+1)) (acc++[e])/\n3=n) λc hg=>⟨?_,rfl⟩;rw[xG,e];exact Paired.snoc h1 hg
 ·rintro acc n ⟨h1,rfl⟩;rw[wy] at h1;exact hP acc h1
section
variable {P:Program}{w:World}{K:W.Frag}{mg:Str->Option Value}{base:Heap}{f:Addr}{fd:FuncData}
abbrev jX:Stmt:=top 22
abbrev JL:List Str:=["_law_script","_law_k","_law_cell","_law_digits"]
def qc:FnScope JL ["_law_script","_law_k"] (xj jX):=⟨rfl,rfl,rfl,x6,rfl,x6,x6⟩
def ze2:TF:=λds n Q=>∃(ns:List Int) (j:Int),ds=[ww ns,.int j]/\ns.length<=63/\0<=j/\j<1000/\∀x y:Int,0<=x->0<=y->y<2147483647->Q (.lst [.int x,.int y,.int 0]) n
def zN3(T:Blt mg)(F:Fun K "_law_left" "_law_left" jX f fd):FnOk P w K mg base CX0 1 f fd ["_law_script","_law_k"] (spD K 2 ze2):=by
 refine Fun.okD F qc (λ_ _ _ s H E G Z hr=>(zE (yj (i:=2) qc.nd rfl (lo rfl) zu)
  (zE (vH (wB XY XU (wm wV qo T.len kW (zc (zh 0) zm)) zu (wT _)) (zZ (yj (i:=2) qc.nd rfl (lo rfl) (wC xB wA (zh 0) (jH (zh 1) (wm wV qo T.len kW (zc (zh 0) zm))) (λ_ _=>rfl)))) yS)
  (zE (yj (i:=3) qc.nd rfl (lo rfl) (Zt (jH (wm QC zH5 T.abs zH8 (zc (zh 2) zm)) (Uz zu zu)) (yW XI Ju T.int zr8 (zc (Yn xw6 xn9 (wm QC zH5 T.abs zH8 (zc (zh 2) zm)) (Uz zu zu) (wT _)) zm))))
  (zZ (xY (vN (zc (zh 3) (zc (jH (Zt (kc (kc (jH (zh 2) zu) (Zt (Zt zu (zh 1)) (zh 1))) zu) zu) zu) (zc zu zm)))))))))) ?_
 rintro ds n Q hl ⟨ns,j,rfl,hns,hj0,hj1,q⟩;have cm:∀{i j:Int},(-(2^64)<i/\i<2^64)->CMul i j:=λh=>.inl h;have cm':∀{i j:Int},(-(2^64)<j/\j<2^64)->CMul i j:=λh=>.inr h
 have h7:0<=7919*j*j:=Int.mul_nonneg w5 hj0
 have h8:7919*j*j<=7919*j*1000:=Int.mul_le_mul_of_nonneg_left w5 w5
 generalize hS:XT (JU 3 _) _=S
 have cont:∀(x:Int) (F:EndsD),F.rt=Q->S F [some (ww ns),some (.int j),some (.int x),none] n:=λx F hF=>by
  subst hS;simp[hF]
  have ab:0<=(if x<0 then -x else x):=by split<;>lia
  have b1:∀c:Prop,[Decidable c]->(0:Int)<=(if c then 1 else 0)/\(if c then 1 else 0)<(2:Int):=λc _=>by split<;>lia
  refine⟨⟨w6,w6,w6⟩,⟨w6,w6,w6⟩,cm' ⟨?_,?_⟩,cm ⟨w6,w6⟩,cm ⟨w5,w5⟩,cm' ⟨w6,w6⟩,q _ _ (Int.mul_nonneg (wv _ w6) (b1 _).1) (wv _ w6) (wR _ w6)⟩
  ·have:=(b1 (1000000000000000000<=if x<0 then -x else x)).1;lia
  ·have:=(b1 (1000000000000000000<=if x<0 then -x else x)).2;lia
 simp[startD,ww]
 split
 ·rename_i h
  refine⟨w5,?_⟩
  obtain⟨d,e,m⟩:=zs2 (xs:=ns.map D.int) (i:=j%ns.length) (wv _ w5) (by simpa using wR j w5)
  obtain⟨x,_,rfl⟩:=zi.mp m;exact⟨_,e,cont x _ rfl⟩
 ·exact cont 0 _ rfl
abbrev jW:Stmt:=top 23
abbrev JK:List Str:=["_law_left_here","_law_many","_law_digit"]
def Yi:FnScope JK ["_law_left_here","_law_many"] (xj jW):=⟨rfl,rfl,rfl,x6,rfl,x6,x6⟩
def Zo:TF:=λds n Q=>∃m:Int,ds=[.st,.int m]/\n=3/\0<m/\m<10000000/\∀k:Int,0<=k->k<m->Q (.int k) n
def zN1(F:Fun K "_law_pick" "_law_pick" jW f fd):FnOk P w K mg base CX0 1 f fd ["_law_left_here","_law_many"] (spD K 2 Zo):=by
 refine Fun.okD F Yi (λ_ _ _ s H E G Z hr=>(zE (vH (wB XY XU (jd (i:=0) zu (λ_ _=>rfl)) zu (wT _)) (zE (yj (i:=2) Yi.nd rfl (lo rfl) (jH (jd (i:=0) zu (λ_ _=>rfl)) (zh 1)))
  (zE (YX (i:=0) (Qd (jd (i:=0) zu (λ_ _=>rfl)) (zh 1)) zu)
  (zZ (xY (zh 2))))) yS)
  (zE (YX (i:=0) (kc (jd (i:=0) zu (λ_ _=>rfl)) zu) zu)
  (zE (YX (i:=0) (jH (kc (kc (Zt (jd (i:=0) zu (λ_ _=>rfl)) zu) zu) (jd (i:=0) zu (λ_ _=>rfl))) zu) zu)
  (zZ (xY (jH (Qd (jH (Zt (jd (i:=0) zu (λ_ _=>rfl)) (jd (i:=0) zu (λ_ _=>rfl))) zu) zu) (zh 1)))))))) ?_
 rintro ds n Q hl ⟨m,rfl,rfl,hm,hm2,q⟩;have cm:∀{i j:Int},(-(2^64)<i/\i<2^64)->CMul i j:=λh=>.inl h;simp[startD];intro z0 h0
 split
 ·intro z hz
  exact⟨hm,λz1 hz1=>⟨⟨hm,w5⟩,Int.ediv_nonneg hz1 w5,q _ (wv _ w5) (wR _ hm)⟩⟩
 ·intro z hz
  refine⟨w5,λy hy hy2=>⟨cm ⟨w5,w5⟩,λx hx=>⟨wv _ w6,wR _ w6,λy hy hy2 z1 h1 h1'=>⟨cm ⟨w5,w5⟩,⟨w6,w6⟩,hm,q _ (wv _ w5) (wR _ hm)⟩⟩⟩⟩
def wb{m:Int}{Q:D->Nat->Prop}(h0:0<m)(h1:m<10000000)(h:∀k:Int,0<=k->k<m->Q (.int k) 3):Zo [.st,.int m] 3 Q:=⟨m,rfl,rfl,h0,h1,h⟩
end
abbrev Thing:=Int × List Int × Int
def xF(t:Thing):D:=.tup [.int t.1,yG t.2.1,.int t.2.2]
def wt(d:Nat)(ts:List Thing):D:=.tup [.int d,.tup (ts.map xF)]
def zD7(m x:Int):Prop:=∃a e:Int,x=1000000000000000*a+e/\-m<=e/\e<=m
def jC(x:Int):Prop:=(-100000000000000000<=x/\x<=100000000000000000)/\zD7 500 x
def za4(x:Int):Prop:=(-100000000000000002<=x/\x<=100000000000000002)/\zD7 502 x
structure GoodT(d:Nat)(ts:List Thing)(top:Int):Prop where
 each:∀t∈ts,0<=t.1/\t.1<top/\t.2.1.length=d/\(∀x∈t.2.1,jC x)/\jC t.2.2
 up:ts.Pairwise λa b=>a.1<b.1
def GoodT.nil(d:Nat)(top:Int):GoodT d [] top:=⟨by simp,.nil⟩
def GoodT.snoc{d:Nat}{ts:List Thing}{x top:Int}(h:GoodT d ts x)(hx:0<=x)(ht:x<top){p:List Int}(hp:p.length=d)(hs:∀x∈p,jC x){y:Int}(hy:jC y):GoodT d (ts++[(x,p,y)]) top:=by
 refine⟨λt hm=>?_,?_⟩
 ·rcases xf.mp hm with hm | hm
  ·have := h.each t hm
   exact⟨this.1,w5,this.2.2⟩
  ·rw[zM.mp hm];exact⟨hx,ht,hp,hs,hy⟩
 ·rw [List.pairwise_append]
  refine⟨h.up,by simp,λa ha b hb=>?_⟩
  rw[zM.mp hb];exact(h.each a ha).2.1
def GoodT.more{d:Nat}{ts:List Thing}{x top:Int}(h:GoodT d ts x)(ht:x<=top):GoodT d ts top:=⟨λt hm=>by have:=h.each t hm;exact⟨this.1,w5,this.2.2⟩,h.up⟩
def GoodT.nodup{d:Nat}{ts:List Thing}{x:Int}(h:GoodT d ts x):(ts.map λt=>t.1).Nodup:=xI.mpr (h.up.imp λ{a b} h=>by lia)
theorem je{S:Int->Prop}:∀{l es:List D},Paired (λ_ e=>∃x:Int,S x/\e=.int x) l es->∃xs:List Int,es=xs.map D.int/\∀x∈xs,S x
 |_,_,.nil=>⟨[],rfl,by simp⟩
 |_,_,.cons r t=>by
  obtain⟨x,hx,rfl⟩:=r;obtain⟨xs,rfl,h⟩:=je t
  exact⟨x::xs,rfl,λy hy=>by rcases zj.mp hy with rfl |hy;exact hx;exact h y hy⟩
def Kx(s:Int):Prop:=s=1\/s=3\/s=1000000000000000
def zl0{a s:Int}(h1:-40<=a)(h2:a<=40)(hs:Kx s):jC (a*s):=by
 rcases hs with rfl |rfl |rfl
 ·exact⟨⟨w5,w5⟩,0,a,w5,w5,w5⟩
 ·exact⟨⟨w5,w5⟩,0,a*3,w5,w5,w5⟩
 ·exact⟨⟨w5,w5⟩,a,0,w5,w5,w5⟩
def zY7{js:List Int}{k:Int}{R:D->Prop}(h0:0<=k)(h1:k<js.length)(h:∀j∈js,R (.int j)):Yp (.lst (js.map D.int)) (.int k) R:=by
 refine zE8 h0 (by simpa using h1) λd hd=>?_
 obtain⟨j,hj,rfl⟩:=zi.mp hd;exact h j hj
def UE(p:List Int)(k:Nat):okE (yG p) (k+1)=true:=Zd.mpr λd hd=>by
 obtain⟨x,_,rfl⟩:=zi.mp hd;exact Ze
def zk2(t:Thing)(k:Nat):okE (xF t) (k+2)=true:=by
 refine Zd.mpr λd hd=>?_;simp only[zj,zS,or_false] at hd
 rcases hd with rfl |rfl |rfl
 ·exact Ze
 ·exact UE _ _
 ·exact Ze
def Je(ts:List Thing):okE (.lst (ts.map xF)) 20=true:=zN7.mpr λd hd=>by
 obtain⟨t,_,rfl⟩:=zi.mp hd;exact zk2 t 17
def zn8{d:Nat}{ts:List Thing}{R:D->Prop}(h:R (.int d)):Yp (wt d ts) (.int 0) R:=⟨_,0,_,.inr (.inl rfl),rfl,rfl,h⟩
def WE{d:Nat}{ts:List Thing}{R:D->Prop}(h:R (.tup (ts.map xF))):Yp (wt d ts) (.int 1) R:=⟨_,1,_,.inr (.inl rfl),rfl,rfl,h⟩
def vP(d:Nat)(ts:List Thing):xZ (wt d ts)=true:=id rfl
structure JHs(d:Nat)(wd sc:Int)(i:Nat)(rho:Rho)(n:Nat):Prop where
 e:n=3
 r:∃(ts:List Thing) (x:Int) (a b c:Option D),ts.length=i/\0<=x/\x<=2+41*i/\GoodT d ts x/\rho=[some .st,some (.int d),some (.int wd),some (.int sc),some (.own (ts.map xF)),some (.int x),a,b,c]
section
variable {P:Program}{w:World}{K:W.Frag}{mg:Str->Option Value}{base:Heap}{f:Addr}{fd:FuncData}
abbrev qY:Stmt:=top 24
abbrev jr:List Str:=["_law_left_here","_law_d","_law_wide","_law_scale","_law_things","_law_name","_law_k","_law_place","_law_far"]
def yR:FnScope jr ["_law_left_here"] (xj qY):=⟨rfl,rfl,rfl,x6,rfl,x6,x6⟩
def Xh:("_law_i" :: jr:List Str).Nodup:=x6
def KI:TF:=λds n Q=>ds=[.st]/\n=3/\∀(d:Nat) (ts:List Thing),1<=d->d<=4->GoodT d ts 2000->ts.length<=30->Q (wt d ts) 3
def zy9(T:Blt mg)(F:Fun K "_law_house" "_law_house" qY f fd)(Y_pick:Fn P w K mg base "_law_pick" 1 2 Zo):FnOk P w K mg base CX0 2 f fd ["_law_left_here"] (spD K 1 KI):=by
 refine Fun.okD F yR (λ_ _ _ s H E G Z hr=>(zE (yj (i:=1) yR.nd rfl (lo rfl) (wC xB wA (vN (zc zu (zc zu (zc zu (zc zu (zc zu (zc zu zm))))))) (wY Y_pick (hr.mono w6) rfl (zc (zh 0) (zc zu zm))) (λ_ _=>rfl)))
  (zE (ZQ (m:=9) (vf (zc (wC xB wA (vN (zc zu (zc zu (zc zu (zc zu (zc zu (zc zu zm))))))) (wY Y_pick (hr.mono w6) rfl (zc (zh 0) (zc zu zm))) (λ_ _=>rfl)) (zc (wC xB wA (vN (zc zu (zc zu (zc zu (zc (Uz zu zu) zm))))) (wY Y_pick (hr.mono w6) rfl (zc (zh 0) (zc zu zm))) (λ_ _=>rfl)) zm))) (vY (k:=2) rfl rfl (xR (xo (i:=2) yR.nd rfl (lo rfl) w6) (xR (xo (i:=3) yR.nd rfl (lo rfl) w6) vy))))
  (zE (zx0 (i:=4) (j:=5) rfl yR.nd rfl rfl w6 rfl rfl (λZ1 H1=>(wY Y_pick (hr.mono w6) rfl (zc (zh 0) (zc zu zm)))))
  (zE (jb (m:=9) PassesOwn.never rfl (qC T.range (zc (wC xB wA (vN (zc zu (zc zu (zc zu (zc zu (zc zu (zc zu (zc zu (zc zu (zc zu (zc zu zm))))))))))) (wY Y_pick (hr.mono w6) rfl (zc (zh 0) (zc zu zm))) (λ_ _=>rfl)) zm)) (xo (i:=6) yR.nd rfl (lo rfl) w6)
  (zE (yj (i:=7) yR.nd rfl (lo rfl) (yW wS vF T.tuple vG (zc (vK (own:=["_law_i"]) (M:=jr) (vW (by rfl)) rfl (qC T.range (zc (zh 1) zm)) (λ_ _ _ _=>(xo (i:=0) Xh rfl (lo rfl) w6)) (λ_ _ _ _=>ve) (λ_ _ _ _=>(Zt (jc (wY Y_pick (hr.mono w6) rfl (zc (zh 1) (zc (kc (Zt zu (zh 3)) zu) zm))) (zh 3)) (zh 4)))) zm)))
  (zE (vH (PWD.pt (qB (zg9 (i:=4) hr rfl) (qA (wB QY QS (wY Y_pick (hr.mono w6) rfl (zc (zh 0) (zc zu zm))) zu (wT _))))) (zZ (yj (i:=7) yR.nd rfl (lo rfl) (wC xB wA (zy1 (i:=4) (wY Y_pick (hr.mono w6) rfl (zc (zh 0) (zc (Xa (i:=4) T.len rfl) zm))) (λ_ _=>rfl)) zu (λ_ _=>rfl)))) yS)
  (zE (yj (i:=8) yR.nd rfl (lo rfl) (wC xB wA (vN (zc (Uz zu zu) (zc (zi6 (Uz zu zu)) zm))) (wY Y_pick (hr.mono w6) rfl (zc (zh 0) (zc zu zm))) (λ_ _=>rfl)))
  (zE (kj (i:=4) (zc (vf (zc (zh 5) (zc (zh 7) (zc (wC xB wA (vN (zc (jc (wY Y_pick (hr.mono w6) rfl (zc (zh 0) (zc zu zm))) zu) (zc (jc (wY Y_pick (hr.mono w6) rfl (zc (zh 0) (zc zu zm))) zu) (zc (zh 8) zm)))) (wY Y_pick (hr.mono w6) rfl (zc (zh 0) (zc zu zm))) (λ_ _=>rfl)) zm)))) zm) rfl)
  (zZ (yj (i:=5) yR.nd rfl (lo rfl) (kc (kc (zh 5) zu) (wC xB wA (vN (zc zu (zc zu (zc zu (zc zu (zc zu zm)))))) (wY Y_pick (hr.mono w6) rfl (zc (zh 0) (zc zu zm))) (λ_ _=>rfl))))))))))
  (zZ (Za 4 (xY (vf (zc (zh 1) (zc (yW wS vF T.tuple vG (zc (zh 4) zm)) zm))))))))))) ?_
 rintro ds n Q hl ⟨rfl,rfl,q⟩;simp[startD]
 refine wb w6 w6 λk h0 h1=>zi1 (js:=[1,2,2,3,3,4]) 1 4 h0 (by simpa using h1) w6 λdd hd1 hd4=>?_
 obtain⟨d,rfl⟩:=xE (show 0<=dd by lia)
 refine wb w6 w6 λk2 h2 h3=>zi1 (js:=[1,2,3,5,9,40]) 1 40 h2 (by simpa using h3) w6 λwd hw1 hw2=>⟨⟨w6,w6,w6⟩,?_⟩
 refine wb w6 w6 λk3 h4 h5=>zY7 (js:=[1,1,3,1000000000000000]) h4 (by simpa using h5) λsc hsm=>⟨rfl,?_⟩
 have hsc:Kx sc:=by
  simp only[zj,zS,or_false] at hsm;unfold Kx;lia
 have hs1:1<=sc:=by unfold Kx at hsc;lia
 have hs2:sc<=1000000000000000:=by unfold Kx at hsc;lia
 refine wb w6 w6 λx0 hx00 hx01=>⟨yE w6,?_⟩
 refine wb w6 w6 λk4 h6 h7=>zi1 (js:=[0,1,2,3,4,6,8,12,20,30]) 0 30 h6 (by simpa using h7) w6 λc hc0 hc1=>?_
 refine⟨c,rfl,w5,w5,JHs d wd sc,⟨rfl,[],x0,none,none,none,rfl,hx00,w5,GoodT.nil d _,rfl⟩,?_,?_⟩
 ·rintro i d' rho n' e ⟨rfl, ts, x, u, v, z, hlt, hx0, hx1, hg, rfl⟩;obtain⟨hi,rfl⟩:=YU e;generalize hS:XT (JU 8 _) _=S
  have cont:∀(p:List Int) (F:EndsD),F.nx=JHs d wd sc (i+1)->p.length=d->(∀y∈p,jC y) ->
    S F [some .st,some (.int d),some (.int wd),some (.int sc),some (.own (ts.map xF)),some (.int x),some (.int i),some (yG p),z] 3:=λp F hF hp hps=>by
   subst hS;have np:xZ (yG p)=true:=id rfl;simp[np,hF]
   refine⟨⟨w6,w6,w6⟩,wb w6 w6 λj1 g0 g1=>zY7 (js:=[100000000000000000,-100000000000000000]) g0 (by simpa using g1) λfr hfm=>⟨lt_size w5,?_⟩⟩
   refine wb w6 w6 λw1 g2 g3=>?_
   simp
   refine wb w6 w6 λw2 g4 g5=>?_
   simp
   refine wb w6 w6 λw3 g6 g7=>?_
   have hpk:∀R:D->Prop,(∀y:Int,jC y->R (.int y))->Yp (.lst [.int (w1-2),.int (w2-500),.int fr]) (.int w3) R:=λR hR=>zE8 g6 (by simpa using g7) λdd hdd=>by
    simp only[zj,zS,or_false] at hdd
    rcases hdd with rfl |rfl |rfl
    ·exact hR _ ⟨⟨w5,w5⟩,0,w1-2,w5,w5,w5⟩
    ·exact hR _ ⟨⟨w5,w5⟩,0,w2-500,w5,w5,w5⟩
    ·simp only [zj, zS, or_false] at hfm
     rcases hfm with rfl |rfl
     ·exact hR _ ⟨⟨w6,w6⟩,100,0,w6,w6,w6⟩
     ·exact hR _ ⟨⟨w6,w6⟩,-100,0,w6,w6,w6⟩
   refine hpk _ λy hy=>?_
   refine wb w6 w6 λw4 g8 g9=>zi1 (js:=[0,0,1,7,40]) 0 40 g8 (by simpa using g9) w6 λm hm0 hm1=>?_
   simp
   exact⟨rfl,ts++[(x,p,y)],x+1+m,_,_,_,by simp[hlt],w5,w5,hg.snoc hx0 w5 hp hps hy,by rw[zU];rfl⟩
  simp
  refine⟨w5,Ke (KQ 0 d) 3 (λ_ e=>∃x:Int,jC x/\e=.int x) (by rw[ja];exact yE w5) (λj d2 e2 Q' hQ'=>?_) (λes hp=>?_)⟩
  ·simp
   refine⟨.inl ⟨w6,w6⟩,wb w5 w5 λk g0 g1=>?_⟩
   simp
   exact⟨.inl ⟨w5,w5⟩,hQ' _ ⟨_,zl0 w5 w5 hsc,rfl⟩⟩
  ·have hlen := hp.length;rw[ja] at hlen;obtain⟨ps,rfl,hps⟩:=je hp;rw[zg] at hlen;simp;refine⟨Je ts,?_⟩
   split
   ·exact cont ps _ rfl w5 hps
   ·rename_i hne
    have hpos:0<ts.length:=by
     cases ts with
     |nil=>exact absurd rfl hne
     |cons t r=>simp
    refine wb w6 w6 λk g0 g1=>?_
    simp
    split
    ·refine wb w5 w5 λk4 g5 g6 => ?_
     obtain⟨y,ey,my⟩:=zs2 (xs:=ts.map xF) (i:=k4) g5 (by simp;lia)
     obtain⟨⟨y1,p1,w1⟩,ht',rfl⟩:=zi.mp my;have he:=hg.each _ ht';refine⟨_,rfl,_,ey,?_⟩;refine⟨_,_,yG p1,.inr (.inl rfl),rfl,rfl,?_⟩;exact cont p1 _ rfl he.2.2.1 he.2.2.2.1
    ·exact cont ps _ rfl w5 hps
 ·rintro rho n' ⟨rfl, ts, x, u, v, z, hlt, hx0, hx1, hg, rfl⟩;rw[ja] at hlt hx1;simp
  exact q d ts w5 w5 (hg.more w5) w5
abbrev qw:Stmt:=top 25
abbrev qM:List Str:=["_law_left_here","_law_house_here","_law_i","_law_numbers"]
def jF:FnScope qM q9 (xj qw):=⟨rfl,rfl,rfl,x6,rfl,x6,x6⟩
def Yq:("_law_thing" :: qM:List Str).Nodup:=x6
def Zp:TF:=λds n Q=>∃(d i:Nat) (ts:List Thing),ds=[.st,wt d ts,.int i]/\n=3/\i<d/\GoodT d ts 2000/\ts.length<=30/\∀x:Int,za4 x->Q (.int x) 3
def zj4(T:Blt mg)(F:Fun K "_law_number" "_law_number" qw f fd)(Y_pick:Fn P w K mg base "_law_pick" 1 2 Zo):FnOk P w K mg base CX0 2 f fd q9 (spD K 3 Zp):=by
 refine Fun.okD F jF (λ_ _ _ s H E G Z hr=>(zE (yj (i:=3) jF.nd rfl (lo rfl) (XW zj3 zg2 (vK (own:=["_law_thing"]) (M:=qM) (vW (by rfl)) rfl (vJ rfl (wC xB wA (zh 1) zu (λ_ _=>rfl))) (λ_ _ _ _=>(xo (i:=0) Yq rfl (lo rfl) w6)) (λ_ _ _ _=>ve) (λ_ _ _ _=>(wC xB wA (wC xB wA (zh 0) zu (λ_ _=>rfl)) (zh 3) (λ_ _=>rfl)))) (vN (zc zu zm))))
  (zZ (xY (kc (wC xB wA (zh 3) (wY Y_pick (hr.mono w6) rfl (zc (zh 0) (zc (wm wV qo T.len kW (zc (zh 3) zm)) zm))) (λ_ _=>rfl)) (wC xB wA (vN (zc zu (zc zu (zc zu (zc zu (zc (zi6 zu) (zc zu zm))))))) (wY Y_pick (hr.mono w6) rfl (zc (zh 0) (zc zu zm))) (λ_ _=>rfl))))))) ?_
 rintro ds n Q hl ⟨d,i,ts,rfl,rfl,hi,hg,hz,q⟩;have nh:=vP d ts;simp[startD,nh];refine WE ?_;simp
 refine yY xF (λt=>.int (t.2.1[i]?.getD 0)) ts (yE w5) (λt ht R hR=>?_) ?_
 ·have nt : xZ (xF t) = true := id rfl;have he:=hg.each t ht;simp[nt];refine⟨_,1,_,.inr (.inl rfl),rfl,rfl,?_⟩
  exact⟨_,_,_,.inr (.inl rfl),rfl,qh (by rw[zA,zf w5];rfl),by simpa [zf (show i<t.2.1.length by lia)] using hR⟩
 ·simp
  refine⟨yE w5,wb w5 w5 λk h0 h1=>zE8 h0 (by simpa using h1) λdd hdd=>?_⟩
  obtain⟨x,hx,rfl⟩:∃x:Int,jC x/\dd=.int x:=by
   rcases xf.mp hdd with h |h
   ·obtain ⟨t, ht, rfl⟩ := zi.mp h;have he:=hg.each t ht;refine⟨_,?_,rfl⟩
    rw[zf (show i<t.2.1.length by lia)]
    exact he.2.2.2.1 _ (wz _)
   ·rw[zM.mp h];exact⟨0,⟨⟨w6,w6⟩,0,0,w6,w6,w6⟩,rfl⟩
  refine wb w6 w6 λk2 h2 h3=>zi1 (js:=[0,0,0,1,-1,2]) (-1) 2 h2 (by simpa using h3) w6 λm hm0 hm1=>?_
  simp;obtain⟨⟨hx1,hx2⟩,fa,fe,hf1,hf2,hf3⟩:=hx
  exact q _ ⟨⟨w5,w5⟩,fa,fe+m,w5,w5,w5⟩
def jf{d i:Nat}{ts:List Thing}{Q:D->Nat->Prop}(hi:i<d)(hg:GoodT d ts 2000)(hz:ts.length<=30)(h:∀x:Int,za4 x->Q (.int x) 3):Zp [.st,wt d ts,.int i] 3 Q:=⟨d,i,ts,rfl,rfl,hi,hg,hz,h⟩
def zO1(e:End):Prop:=∀x s,e=some (x,s)->za4 x
def xb6(b:List VY):Prop:=∀s∈b,zO1 s.1/\zO1 s.2
structure JBx(d:Nat)(ts:List Thing)(i:Nat)(rho:Rho)(n:Nat):Prop where
 e:n=3
 r:∃(b:List VY) (u v y z:Option D),b.length=i/\xb6 b/\rho=[some .st,some (wt d ts),some (.own (b.map qg)),u,v,y,z]
abbrev ZM:Stmt:=top 26
abbrev zd0:List Str:=["_law_left_here","_law_house_here","_law_spans","_law_i","_law_one","_law_other","_law_low"]
def kh:FnScope zd0 q1 (xj ZM):=⟨rfl,rfl,rfl,x6,rfl,x6,x6⟩
def zI6:TF:=λds n Q=>∃(d:Nat) (ts:List Thing),ds=[.st,wt d ts]/\n=3/\d<=4/\GoodT d ts 2000/\ts.length<=30/\∀b:List VY,b.length=d->xb6 b->Q (vA b) 3
def Qa{x k:Int}{R:D->Prop}(hx:za4 x)(h0:0<=k)(h1:k<4)(h:∀e:End,zO1 e->R (kR e)):Yp (.lst [.non,.tup [.int x,.bl true],.tup [.int x,.bl false],.tup [.int x,.bl true]]) (.int k) R:=
 zE8 h0 (by simpa using h1) λdd hdd=>by
  simp only[zj,zS,or_false] at hdd
  rcases hdd with rfl |rfl |rfl |rfl
  ·exact h none λx s e=>by cases e
  ·exact h (some (x,true)) λx s e=>by cases e;exact hx
  ·exact h (some (x,false)) λx s e=>by cases e;exact hx
  ·exact h (some (x,true)) λx s e=>by cases e;exact hx
def xa9(T:Blt mg)(F:Fun K "_law_box" "_law_box" ZM f fd)(Y_pick:Fn P w K mg base "_law_pick" 1 2 Zo)(Y_number:Fn P w K mg base "_law_number" 2 3 Zp):FnOk P w K mg base CX0 3 f fd q1 (spD K 2 zI6):=by
 refine Fun.okD F kh (λ_ _ _ s H E G Z hr=>(zE (Vk (i:=2) kh.nd rfl (lo rfl) zm)
  (zE (jb (m:=7) PassesOwn.never rfl (qC T.range (zc (wC xB wA (zh 1) zu (λ_ _=>rfl)) zm)) (xo (i:=3) kh.nd rfl (lo rfl) w6)
  (zE (YC (i:=4) (j:=5) rfl kh.nd rfl rfl w6 rfl rfl (zc (wY Y_number (hr.mono w6) rfl (zc (zh 0) (zc (zh 1) (zc (zh 3) zm)))) (zc (wY Y_number (hr.mono w6) rfl (zc (zh 0) (zc (zh 1) (zc (zh 3) zm)))) zm)))
  (zE (vH (PWD.pt (qB (wB XY XU (zh 4) (zh 5) (wT _)) (qA (wB XY XU (wY Y_pick (hr.mono w6) rfl (zc (zh 0) (zc zu zm))) zu (wT _))))) (zZ (YC (i:=4) (j:=5) rfl kh.nd rfl rfl w6 rfl rfl (zc (zh 5) (zc (zh 4) zm)))) yS)
  (zE (yj (i:=6) kh.nd rfl (lo rfl) (wC xB wA (vN (zc vg (zc (vf (zc (zh 4) (zc XX zm))) (zc (vf (zc (zh 4) (zc XX zm))) (zc (vf (zc (zh 4) (zc XX zm))) zm))))) (wY Y_pick (hr.mono w6) rfl (zc (zh 0) (zc zu zm))) (λ_ _=>rfl)))
  (zZ (kj (i:=2) (zc (vf (zc (zh 6) (zc (wC xB wA (vN (zc vg (zc (vf (zc (zh 5) (zc XX zm))) (zc (vf (zc (zh 5) (zc XX zm))) (zc (vf (zc (zh 5) (zc XX zm))) zm))))) (wY Y_pick (hr.mono w6) rfl (zc (zh 0) (zc zu zm))) (λ_ _=>rfl)) zm))) zm) rfl))))))
  (zZ (Za 2 (xY (yW wS vF T.tuple vG (zc (zh 2) zm)))))))) ?_
 rintro ds n Q hl ⟨d,ts,rfl,rfl,hd4,hg,hz,q⟩;have nh:=vP d ts;simp[startD,nh];refine zn8 ?_
 refine⟨d,rfl,w5,w5,JBx d ts,⟨rfl,[],none,none,none,none,rfl,λs hs=>by simp at hs,rfl⟩,?_,?_⟩
 ·rintro i d' rho n' e ⟨rfl, b, u, v, y, z, hb, hn, rfl⟩;obtain⟨hi,rfl⟩:=YU e
  replace hi:i<d:=by simpa using hi
  generalize hS:XT (JU 6 _) _=S
  have cont:∀(x1 x2:Int) (F:EndsD),F.nx=JBx d ts (i+1)->za4 x1->za4 x2 ->
    S F [some .st,some (wt d ts),some (.own (b.map qg)),some (.int i),some (.int x1),some (.int x2),z] 3:=λx1 x2 F hF h1 h2=>by
   subst hS;simp[hF]
   refine wb w6 w6 λk g0 g1=>Qa h1 g0 g1 λe1 n1=>?_
   have no1:=Xe e1;simp[no1]
   refine⟨lt_size w5,wb w6 w6 λk g0 g1=>Qa h2 g0 g1 λe2 n2=>?_⟩
   refine⟨rfl,b++[(e1,e2)],_,_,_,_,by simp[hb],λs hs=>?_,by rw[zU];rfl⟩
   rcases xf.mp hs with h |h
   ·exact hn s h
   ·rw[zM.mp h];exact⟨n1,n2⟩
  simp[nh];refine jf hi hg hz λx1 hx1=>?_;refine jf hi hg hz λx2 hx2=>?_;simp
  split
  ·refine wb w6 w6 λk g0 g1 => ?_
   simp
   split
   ·exact cont x2 x1 _ rfl hx2 hx1
   ·exact cont x1 x2 _ rfl hx1 hx2
  ·exact cont x1 x2 _ rfl hx1 hx2
 ·rintro rho n' ⟨rfl, b, u, v, y, z, hb, hn, rfl⟩;rw[ja] at hb;simp
  exact q b (by simpa using hb) hn
end
abbrev Pair:=Option Int × Option Int
def xV(p:Pair):D:=.tup [Wj p.1,Wj p.2]
def xn(ps:List Pair):D:=.tup (ps.map xV)
def crossedT:Pair->Bool
 |(some l,some g)=>decide (g<l)
 |_=>false
def kU:Pair:=(some 1,some 0)
def yF(ps:List Pair):List Pair:=if ps.any crossedT then ps.map (λ_=>kU) else ps
def Zb(s:VY):Pair:=(UQ s.1,Qo s.2)
def yB(b:List VY):List Pair:=yF (b.map Zb)
@[simp] theorem xe8:Wj none=.non:=rfl
@[simp] theorem xe7{i:Int}:Wj (some i)=.int i:=rfl
section
variable {P:Program}{w:World}{K:W.Frag}{mg:Str->Option Value}{base:Heap}{f:Addr}{fd:FuncData}
abbrev qS:Stmt:=top 5
abbrev Ky:List Str:=["pair","least","greatest"]
def qt:FnScope Ky ["pair"] (xj qS):=⟨rfl,rfl,rfl,x6,rfl,x6,x6⟩
def qa:TF:=λds n Q=>∃p:Pair,ds=[xV p]/\Q (.bl (crossedT p)) n
def Vq(F:Fun K "is_crossed" "is_crossed" qS f fd):FnOk P w K mg base CX0 1 f fd ["pair"] (spD K 1 qa):=by
 refine Fun.okD F qt (λ_ _ _ s H E G Z hr=>(zE (ZQ (m:=3) (zh 0) (vY (k:=2) rfl rfl (xR (xo (i:=1) qt.nd rfl (lo rfl) w6) (xR (xo (i:=2) qt.nd rfl (lo rfl) w6) vy))))
  (zZ (xY (zi7 (Yn ZT ZP (zh 1) vg (wT _)) (zi7 (Yn ZT ZP (zh 2) vg (wT _)) (zF0 (Yn XY XU (zh 1) (zh 2) (wT _))))))))) ?_
 rintro ds n Q hl ⟨⟨lo,hi⟩,rfl,q⟩
 rcases lo with _ |lo<;>rcases hi with _ |hi<;>simp[startD,xV]<;>exact q
abbrev YS:Stmt:=top 6
abbrev jo:List Str:=["pairs"]
def QR:FnScope jo ["pairs"] (xj YS):=⟨rfl,rfl,rfl,x6,rfl,x6,x6⟩
def UI:("pair" :: jo:List Str).Nodup:=x6
def UH:("pair" :: jo:List Str).Nodup:=x6
def Zn:TF:=λds n Q=>∃(ps:List Pair) (d:D),ds=[d]/\(d=.lst (ps.map xV)\/d=xn ps)/\ps.length<=1000/\Q (xn (yF ps)) n
def QZ(T:Blt mg)(G_EMPTY_PAIR:xg8 K mg "EMPTY_PAIR" (.tup [.int 1,.int 0]))(F:Fun K "settled" "settled" YS f fd)(F_is_crossed:Fn P w K mg base "is_crossed" 1 1 qa):FnOk P w K mg base CX0 2 f fd ["pairs"] (spD K 1 Zn):=by
 refine Fun.okD F QR (λ_ _ _ s H E G Z hr=>(zE (vH (jZ (wm (QB rfl) zH4 T.any zH7 (zc (vK (own:=["pair"]) (M:=jo) (vW (by rfl)) rfl (vJ rfl (zh 0)) (λ_ _ _ _=>(xo (i:=0) UI rfl (lo rfl) w6)) (λ_ _ _ _=>ve) (λ_ _ _ _=>(wY F_is_crossed (hr.mono w6) rfl (zc (zh 0) zm)))) zm))) (zZ (xY (yW wS vF T.tuple vG (zc (vK (own:=["pair"]) (M:=jo) (vW (by rfl)) rfl (vJ rfl (zh 0)) (λ_ _ _ _=>(xo (i:=0) UH rfl (lo rfl) w6)) (λ_ _ _ _=>ve) (λ_ _ _ _=>(zM3 G_EMPTY_PAIR rfl))) zm)))) yS)
  (zZ (xY (yW wS vF T.tuple vG (zc (zh 0) zm)))))) ?_
 rintro ds n Q hl ⟨ps,d,rfl,hd,hz,q⟩
 have hno:xZ d=true:=by rcases hd with rfl |rfl<;>rfl
 have hsz:ps.length<=sizeLine:=yE hz;have hit:∀R:List D->Prop,R (ps.map xV)->∃es,(d=.lst es\/d=.tup es)/\R es:=λR h=>⟨_,hd,h⟩;simp[startD,hno];refine hit _ (yY xV (λp=>.bl (crossedT p)) ps hsz (λx hx R hR=>?_) ?_)
 ·simp[xV];exact⟨x,rfl,hR⟩
 ·refine ⟨ps.map crossedT, by rw [zR]; rfl, ?_⟩
  simp;unfold yF at q
  by_cases h:ps.any crossedT
  ·simp only [h, if_true];rw[if_pos h] at q;refine hit _ (yY xV (λp=>.tup [.int 1,.int 0]) ps hsz (λx hx R hR=>?_) ?_)
   ·simp;exact hR
   ·simp
    have e:xn (ps.map λ_=>kU)=.tup (ps.map λ_=>.tup [.int 1,.int 0]):=by unfold xn;rw[zR];rfl
    rw[e] at q
    simpa using q
  ·rw [if_neg h] at q;simp only[h]
   rcases hd with rfl |rfl
   ·simp;exact q
   ·unfold xn;simp;exact q
abbrev jR:Stmt:=top 7
abbrev Zl:List Str:=["box"]
def Uj:FnScope Zl ["box"] (xj jR):=⟨rfl,rfl,rfl,x6,rfl,x6,x6⟩
def Wd:("span" :: Zl:List Str).Nodup:=x6
def jL:TF:=λds n Q=>∃b:List VY,ds=[vA b]/\b.length<=1000/\Q (xn (yB b)) n
def UA(F:Fun K "plain_box" "plain_box" jR f fd)(F_pair_of:Fn P w K mg base "pair_of" 2 1 YN)(F_settled:Fn P w K mg base "settled" 2 1 Zn):FnOk P w K mg base CX0 3 f fd ["box"] (spD K 1 jL):=by
 refine Fun.okD F Uj (λ_ _ _ s H E G Z hr=>(zZ (xY (wY F_settled (hr.mono w6) rfl (zc (vK (own:=["span"]) (M:=Zl) (vW (by rfl)) rfl (vJ rfl (zh 0)) (λ_ _ _ _=>(xo (i:=0) Wd rfl (lo rfl) w6)) (λ_ _ _ _=>ve) (λ_ _ _ _=>(wY F_pair_of (hr.mono w6) rfl (zc (zh 0) zm)))) zm))))) ?_
 rintro ds n Q hl ⟨b,rfl,hz,q⟩;have nb:xZ (vA b)=true:=rfl;simp[startD,nb];refine⟨b.map qg,.inr rfl,yY qg (λs=>xV (Zb s)) b (yE hz) (λx hx R hR=>?_) ?_⟩
 ·simp[qg];exact⟨x,rfl,hR⟩
 ·exact⟨b.map Zb,_,rfl,.inl (by rw[zR];rfl),by simpa using hz,q⟩
end
def maxO:Option Int->Option Int->Option Int
 |none,o=>o
 |some a,none=>some a
 |some a,some b=>some (if b > a then b else a)
def minO:Option Int->Option Int->Option Int
 |none,o=>o
 |some a,none=>some a
 |some a,some b=>some (if b<a then b else a)
def commonP(p q:Pair):Pair:=(maxO p.1 q.1,minO p.2 q.2)
def km(ps qs:List Pair):List Pair:=yF (List.zipWith commonP ps qs)
def yK(ps qs:List Pair):Bool:=match km ps qs with |[]=>false |p::_=>crossedT p
def jK(ps qs:List Pair):Bool:=decide (km ps qs=ps)
def Xy(ps:List Pair)(p:List Int):Bool:=(List.zipWith (λq x=>liesT q.1 q.2 x) ps p).all id
theorem zs7{α β:Type}{f:α->β->Bool}:∀{l:List α}{r:List β},(List.zipWith f l r).all id=true↔∀(i:Nat) a b,l[i]?=some a->r[i]?=some b->f a b=true
 |[],r=>by simp
 |a::l,[]=>by simp
 | a :: l, b :: r => by
  have ih:=zs7 (f:=f) (l:=l) (r:=r);simp only[xM,all_cons,zD,ih]
  constructor
  ·rintro ⟨h1, h2⟩ i x y hx hy
   cases i with
   |zero=>simp at hx hy;subst hx;subst hy;exact h1
   |succ i=>exact h2 i x y (by simpa using hx) (by simpa using hy)
  ·intro h
   exact⟨h 0 a b rfl rfl,λi x y hx hy=>h (i+1) x y (by simpa using hx) (by simpa using hy)⟩
def XQ{α:Type}{f:α->Bool}{l:List α}:l.any f=true↔∃(i:Nat) (a:α),l[i]?=some a/\f a=true:=by
 rw[yP]
 constructor
 ·rintro⟨x,hx,h⟩;obtain⟨i,hi⟩:=List.mem_iff_getElem?.mp hx;exact⟨i,x,hi,h⟩
 ·rintro⟨i,a,hi,h⟩;exact⟨a,zN hi,h⟩
def jP(ps:List Pair):(yF ps).length=ps.length:=by unfold yF;split<;>simp
def zc1{ps qs:List Pair}(h:ps.length=qs.length):(km ps qs).length=ps.length:=by unfold km;rw[jP,wn];lia
def vQ{ps:List Pair}(h:¬ ps.any crossedT=true):yF ps=ps:=by unfold yF;rw[if_neg h]
def kg{ps:List Pair}(h:ps.any crossedT=true):yF ps=replicate ps.length kU:=by
 unfold yF;rw[if_pos h,<- List.map_const']
def zp1{k:Nat}(h:1<=k):(replicate k kU).any crossedT=true:=XQ.mpr ⟨0,kU,by rw[xg];simp;lia,w6⟩
def WY(ps:List Pair):yF (yF ps)=yF ps:=by
 by_cases h:ps.any crossedT=true
 ·rw [kg h]
  by_cases h2:(replicate ps.length kU).any crossedT=true
  ·rw[kg h2,xu]
  ·rw[vQ h2]
 ·rw[vQ h,vQ h]
def UO{q:Pair}{x:Int}(h:liesT q.1 q.2 x=true):crossedT q=false:=by
 obtain⟨lo,hi⟩:=q
 rcases lo with _ |l<;>rcases hi with _ |g<;>simp[liesT,crossedT] at h ⊢
 lia
def Zh(p q:Pair)(x:Int):liesT (commonP p q).1 (commonP p q).2 x=(liesT p.1 p.2 x&&liesT q.1 q.2 x):=by
 obtain⟨a,b⟩:=p;obtain⟨c,d⟩:=q
 have h1:∀l g:Int,decide ((if g > l then g else l)<=x)=(decide (l<=x)&&decide (g<=x)):=λl g=>by
  rw[wf];split<;>simp<;>lia
 have h2:∀l g:Int,decide (x<=(if g<l then g else l))=(decide (x<=l)&&decide (x<=g)):=λl g=>by
  rw[wf];split<;>simp<;>lia
 rcases a with _ |a<;>rcases b with _ |b<;>rcases c with _ |c<;>rcases d with _ |d<;>simp only[commonP,liesT,maxO,minO,h1,h2] <;>
  (rw[wf];simp<;>try lia)
def zd2{ps qs:List Pair}{i:Nat}{c:Pair}(h:(List.zipWith commonP ps qs)[i]?=some c):∃p q,ps[i]?=some p/\qs[i]?=some q/\c=commonP p q:=by
 rw[List.getElem?_zipWith] at h
 cases hp:ps[i]? with
 |none=>rw[hp] at h;simp at h
 |some p=>
  cases hq:qs[i]? with
  |none=>rw[hp,hq] at h;simp at h
  |some q=>rw[hp,hq] at h;exact⟨p,q,rfl,rfl,(by simpa using h.symm)⟩
def WL{ps qs:List Pair}{i:Nat}{p q:Pair}(hp:ps[i]?=some p)(hq:qs[i]?=some q):(List.zipWith commonP ps qs)[i]?=some (commonP p q):=by
 rw[List.getElem?_zipWith,hp,hq]
def VO{α β:Type}{l:List α}{r:List β}(h:l.length=r.length){i:Nat}{a:α}(e:l[i]?=some a):∃b,r[i]?=some b:=by
 have hi:=(zq.mp e).1
 exact⟨r[i],zf w5⟩
def Xx{ps:List Pair}{p:List Int}:Xy ps p=true↔∀(i:Nat) (q:Pair) (x:Int),ps[i]?=some q->p[i]?=some x->liesT q.1 q.2 x=true:=zs7
def qJ{ps:List Pair}{p:List Int}(hl:ps.length=p.length)(h:Xy ps p=true):¬ ps.any crossedT=true:=by
 intro hc;obtain⟨i,q,hq,hc⟩:=XQ.mp hc;obtain⟨x,hx⟩:=VO hl hq;have:=UO (Xx.mp h i q x hq hx);rw[hc] at this;cases this
def Jo{ps:List Pair}{p:List Int}(hl:ps.length=p.length)(h1:1<=p.length):Xy (yF ps) p=Xy ps p:=by
 by_cases hc:ps.any crossedT=true
 ·have e1 : Xy ps p = false := by
   cases h:Xy ps p with
   |false=>rfl
   |true=>exact(qJ hl h hc).elim
  have e2:Xy (yF ps) p=false:=by
   cases h:Xy (yF ps) p with
   |false=>rfl
   |true=>
    refine(qJ (by rw[jP];exact hl) h ?_).elim
    rw[kg hc]
    exact zp1 w5
  rw[e1,e2]
 ·rw[vQ hc]
def Qn{ps qs:List Pair}{p:List Int}(h1:ps.length=p.length)(h2:qs.length=p.length):Xy (List.zipWith commonP ps qs) p=(Xy ps p&&Xy qs p):=by
 rw[wf,zD,Xx,Xx,Xx]
 constructor
 ·intro h;refine⟨λi q x hq hx=>?_,λi q x hq hx=>?_⟩
  ·obtain⟨q2,hq2⟩:=VO (h1.trans h2.symm) hq;have:=h i _ x (WL hq hq2) hx;rw[Zh,zD] at this;exact this.1
  ·obtain⟨q2,hq2⟩:=VO (h2.trans h1.symm) hq;have:=h i _ x (WL hq2 hq) hx;rw[Zh,zD] at this;exact this.2
 ·rintro⟨ha,hb⟩ i q x hq hx;obtain⟨q1,q2,e1,e2,rfl⟩:=zd2 hq;rw[Zh,ha i q1 x e1 hx,hb i q2 x e2 hx];rfl
def zb5{ps qs:List Pair}{p:List Int}(h1:ps.length=p.length)(h2:qs.length=p.length)(h:1<=p.length):Xy (km ps qs) p=(Xy ps p&&Xy qs p):=by
 unfold km
 rw[Jo (by rw[wn];lia) h,Qn h1 h2]
def XO{ps qs:List Pair}(hl:ps.length=qs.length)(h1:1<=ps.length):yK ps qs=(List.zipWith commonP ps qs).any crossedT:=by
 unfold yK km
 by_cases hc:(List.zipWith commonP ps qs).any crossedT=true
 ·rw [kg hc, hc]
  obtain⟨k,hk⟩:∃k,(List.zipWith commonP ps qs).length=k+1:=⟨ps.length-1,by rw[wn];lia⟩
  rw[hk];rfl
 ·rw [vQ hc]
  cases hz:List.zipWith commonP ps qs with
  |nil=>rfl
  | cons c r =>
   rw[hz] at hc;show crossedT c=(c::r).any crossedT
   cases h:crossedT c with
   |false=>
    cases h2:(c::r).any crossedT with
    |false=>rfl
    |true=>exact(hc h2).elim
   |true=>exact(hc (by simp[h])).elim
def zs5{ps qs:List Pair}{p:List Int}(h1:ps.length=p.length)(h2:qs.length=p.length)(h:1<=p.length)(ha:Xy ps p=true)(hb:Xy qs p=true):yK ps qs=false:=by
 rw[XO w5 w5]
 have:Xy (List.zipWith commonP ps qs) p=true:=by rw[Qn h1 h2,ha,hb];rfl
 have:=qJ (by rw[wn];lia) this
 cases hz:(List.zipWith commonP ps qs).any crossedT with
 |false=>rfl
 |true=>exact(this hz).elim
def zd6{bs qs:List Pair}(hl:bs.length=qs.length)(h:∀(i:Nat) b q,bs[i]?=some b->qs[i]?=some q->commonP b q=b)(hc:¬ bs.any crossedT=true):km bs qs=bs:=by
 have e:List.zipWith commonP bs qs=bs:=by
  apply List.ext_getElem?;intro i;rw[List.getElem?_zipWith]
  cases hb:bs[i]? with
  |none=>simp
  |some b=>
   obtain⟨q,hq⟩:=VO hl hb;rw[hq];simp[h i b q hb hq]
 unfold km;rw[e,vQ hc]
def Wm(q:Pair):crossedT (commonP q kU)=true:=by
 obtain⟨a,b⟩:=q
 rcases a with _ |a<;>rcases b with _ |b<;>simp[commonP,maxO,minO,crossedT,kU]<;>(try split)<;>(try split)<;>lia
def zd5{ps qs:List Pair}(h:km ps qs=ps):jK ps qs=true:=by unfold jK;exact xt h
def Vl(b:List VY):yF (yB b)=yB b:=WY _
def xw9(o:Option Int)(k:Nat):okE (Wj o) k=true:=by cases o<;>simp[okE]
def Qh(p:Pair)(k:Nat):okE (xV p) (k+1)=true:=Zd.mpr λd hd=>by
 simp only[zj,zS,or_false] at hd
 rcases hd with rfl |rfl<;>exact xw9 _ _
def xy4(a b:Option Int):eqD (Wj a) (Wj b)=decide (a=b):=by
 rcases a with _ |a<;>rcases b with _ |b<;>simp[eqD]
 rfl
def zB8(p q:Pair):eqD (xV p) (xV q)=decide (p=q):=by
 obtain⟨a,b⟩:=p;obtain⟨c,d⟩:=q;unfold xV;simp only[eqD,Yb,xy4,Bool.and_true];rw[wf];simp
section
variable {P:Program}{w:World}{K:W.Frag}{mg:Str->Option Value}{base:Heap}{f:Addr}{fd:FuncData}
abbrev qU:Stmt:=top 8
abbrev Kz:List Str:=["one","other"]
def WZ:FnScope Kz q0 (xj qU):=⟨rfl,rfl,rfl,x6,rfl,x6,x6⟩
def qQ:TF:=λds n Q=>∃a b:Option Int,ds=[Wj a,Wj b]/\Q (Wj (maxO a b)) n
def Vr(T:Blt mg)(F:Fun K "greater_of" "greater_of" qU f fd):FnOk P w K mg base CX0 1 f fd q0 (spD K 2 qQ):=by
 refine Fun.okD F WZ (λ_ _ _ s H E G Z hr=>(zE (vH (PWD.pt (zg7 (wB qj qi (zh 0) vg (wT _)) (KU (wB qj qi (zh 1) vg (wT _))))) (zZ (xY (KZ (wB qj qi (zh 0) vg (wT _)) (zh 1) (zh 0)))) yS)
  (zZ (xY (wm (Kl rfl) zq6 T.max WK (zc (zh 0) (zc (zh 1) zm))))))) ?_
 rintro ds n Q hl ⟨a,b,rfl,q⟩
 rcases a with _ |a<;>rcases b with _ |b<;>simp[startD]<;>exact q
abbrev jT:Stmt:=top 9
abbrev JG:List Str:=["one","other"]
def Ul:FnScope JG q0 (xj jT):=⟨rfl,rfl,rfl,x6,rfl,x6,x6⟩
def jN:TF:=λds n Q=>∃a b:Option Int,ds=[Wj a,Wj b]/\Q (Wj (minO a b)) n
def UC(T:Blt mg)(F:Fun K "lesser_of" "lesser_of" jT f fd):FnOk P w K mg base CX0 1 f fd q0 (spD K 2 jN):=by
 refine Fun.okD F Ul (λ_ _ _ s H E G Z hr=>(zE (vH (PWD.pt (zg7 (wB qj qi (zh 0) vg (wT _)) (KU (wB qj qi (zh 1) vg (wT _))))) (zZ (xY (KZ (wB qj qi (zh 0) vg (wT _)) (zh 1) (zh 0)))) yS)
  (zZ (xY (wm (Ki rfl) zq3 T.min Ko (zc (zh 0) (zc (zh 1) zm))))))) ?_
 rintro ds n Q hl ⟨a,b,rfl,q⟩
 rcases a with _ |a<;>rcases b with _ |b<;>simp[startD]<;>exact q
abbrev qv:Stmt:=top 10
abbrev VU:List Str:=["one","other"]
def XS:FnScope VU q0 (xj qv):=⟨rfl,rfl,rfl,x6,rfl,x6,x6⟩
def qq:TF:=λds n Q=>∃p q:Pair,ds=[xV p,xV q]/\Q (xV (commonP p q)) n
def Wa(F:Fun K "common_pair" "common_pair" qv f fd)(F_greater_of:Fn P w K mg base "greater_of" 1 2 qQ)(F_lesser_of:Fn P w K mg base "lesser_of" 1 2 jN):FnOk P w K mg base CX0 2 f fd q0 (spD K 2 qq):=by
 refine Fun.okD F XS (λ_ _ _ s H E G Z hr=>(zZ (xY (vf (zc (wY F_greater_of (hr.mono w6) rfl (zc (wC xB wA (zh 0) zu (λ_ _=>rfl)) (zc (wC xB wA (zh 1) zu (λ_ _=>rfl)) zm))) (zc (wY F_lesser_of (hr.mono w6) rfl (zc (wC xB wA (zh 0) zu (λ_ _=>rfl)) (zc (wC xB wA (zh 1) zu (λ_ _=>rfl)) zm))) zm)))))) ?_
 rintro ds n Q hl ⟨p,p',rfl,q⟩;simp[startD,xV];refine⟨p.1,p'.1,rfl,?_⟩;simp;refine⟨p.2,p'.2,rfl,?_⟩;simp;exact q
def zS8(b:List Pair)(p:List Pair):VZ (b.map xV) (p.map xV)=(b.zip p).map λx=>.tup [xV x.1,xV x.2]:=by
 unfold VZ;rw[List.zipWith_map,yH];rfl
abbrev Ve:Stmt:=top 11
abbrev VV:List Str:=["one","other"]
def zf3:FnScope VV q0 (xj Ve):=⟨rfl,rfl,rfl,x6,rfl,x6,x6⟩
def Xg:("mine" :: "yours" :: VV:List Str).Nodup:=x6
def WV:TF:=λds n Q=>∃ps qs:List Pair,ds=[xn ps,xn qs]/\ps.length<=1000/\Q (xn (km ps qs)) n
def zk0(T:Blt mg)(F:Fun K "common" "common" Ve f fd)(F_settled:Fn P w K mg base "settled" 2 1 Zn)(F_common_pair:Fn P w K mg base "common_pair" 2 2 qq):FnOk P w K mg base CX0 3 f fd q0 (spD K 2 WV):=by
 refine Fun.okD F zf3 (λ_ _ _ s H E G Z hr=>(zZ (xY (wY F_settled (hr.mono w6) rfl (zc (vK (own:=["mine","yours"]) (M:=VV) (vW (by rfl)) rfl (KY rfl T.zip (zc (zh 0) (zc (zh 1) zm))) (λ_ _ _ _=>(vY (k:=2) rfl rfl (xR (xo (i:=0) Xg rfl (lo rfl) w6) (xR (xo (i:=1) Xg rfl (lo rfl) w6) vy)))) (λ_ _ _ _=>ve) (λ_ _ _ _=>(wY F_common_pair (hr.mono w6) rfl (zc (zh 0) (zc (zh 1) zm))))) zm))))) ?_
 rintro ds n Q hl ⟨ps,qs,rfl,hz,q⟩;have n1:xZ (xn ps)=true:=rfl;have n2:xZ (xn qs)=true:=rfl;simp[startD,n1,n2];refine(Ym (d1:=xn ps) (d2:=xn qs) rfl rfl).mpr ?_;rw[zS8]
 refine yY (λx=>.tup [xV x.1,xV x.2]) (λx:Pair × Pair=>xV (commonP x.1 x.2)) (ps.zip qs) (zy (by rw[length_zip];lia) (yE (k:=1000) w5)) (λx hx R hR=>?_) ?_
 ·have n3:xZ (xV x.1)=true:=rfl;have n4:xZ (xV x.2)=true:=rfl;simp[n3,n4];exact⟨x.1,x.2,rfl,hR⟩
 ·refine ⟨List.zipWith commonP ps qs, _, rfl, .inl ?_, by rw [wn]; lia, q⟩
  have e:List.zipWith commonP ps qs=(ps.zip qs).map λx=>commonP x.1 x.2:=by rw[yH];rfl
  rw[e,zR];rfl
abbrev jS:Stmt:=top 12
abbrev JF:List Str:=["one","other"]
def Uk:FnScope JF q0 (xj jS):=⟨rfl,rfl,rfl,x6,rfl,x6,x6⟩
def jM:TF:=λds n Q=>∃ps qs:List Pair,ds=[xn ps,xn qs]/\1<=ps.length/\ps.length=qs.length/\ps.length<=1000/\Q (.bl (yK ps qs)) n
def UB(F:Fun K "lie_apart" "lie_apart" jS f fd)(F_is_crossed:Fn P w K mg base "is_crossed" 1 1 qa)(F_common:Fn P w K mg base "common" 3 2 WV):FnOk P w K mg base CX0 4 f fd q0 (spD K 2 jM):=by
 refine Fun.okD F Uk (λ_ _ _ s H E G Z hr=>(zZ (xY (wY F_is_crossed (hr.mono w6) rfl (zc (wC xB wA (wY F_common (hr.mono w6) rfl (zc (zh 0) (zc (zh 1) zm))) zu (λ_ _=>rfl)) zm))))) ?_
 rintro ds n Q hl ⟨ps,qs,rfl,h1,h2,hz,q⟩;have n1:xZ (xn ps)=true:=rfl;have n2:xZ (xn qs)=true:=rfl;simp[startD,n1,n2];refine⟨ps,qs,rfl,hz,?_⟩;have hl2:=zc1 h2;unfold yK at q
 cases hc:km ps qs with
 |nil=>rw[hc] at hl2;simp at hl2;lia
 |cons c r=>
  rw[hc] at q;simp[xn];exact⟨c,rfl,q⟩
def VX(qs:List (List Int))(i:Nat):List Int:=qs.map λq=>q[i]?.getD 0
def zv5(m:Nat):KQ 0 m=(List.range m).map λi=>.int (i:Int):=by unfold KQ;simp
theorem qm:∀{ns:List Int},0<ns.length->∃M,M∈ns/\∀a∈ns,M<=a
 |[x],_=>⟨x,by simp,by simp⟩
 |x::y::r,_=>by
  obtain⟨M,h1,h2⟩:=qm (ns:=y::r) (by simp)
  by_cases h:x<=M
  ·exact⟨x,by simp,λa ha=>by rcases zj.mp ha with rfl |ha;exact yV _;have:=h2 a ha;lia⟩
  ·exact⟨M,zk _ h1,λa ha=>by rcases zj.mp ha with rfl |ha;lia;exact h2 a ha⟩
theorem vV:∀{ns:List Int},0<ns.length->∃M,M∈ns/\∀a∈ns,a<=M
 |[x],_=>⟨x,by simp,by simp⟩
 |x::y::r,_=>by
  obtain⟨M,h1,h2⟩:=vV (ns:=y::r) (by simp)
  by_cases h:M<=x
  ·exact⟨x,by simp,λa ha=>by rcases zj.mp ha with rfl |ha;exact yV _;have:=h2 a ha;lia⟩
  ·exact⟨M,zk _ h1,λa ha=>by rcases zj.mp ha with rfl |ha;lia;exact h2 a ha⟩
open Classical in
noncomputable def zd1(ns:List Int):Int:=if h:∃M,M∈ns/\∀a∈ns,M<=a then choose h else 0
open Classical in
noncomputable def Vx(ns:List Int):Int:=if h:∃M,M∈ns/\∀a∈ns,a<=M then choose h else 0
def jh{ns:List Int}(h:∃M,M∈ns/\∀a∈ns,M<=a):zd1 ns∈ns/\∀a∈ns,zd1 ns<=a:=by unfold zd1;rw[dif_pos h];exact Classical.choose_spec h
def kn{ns:List Int}(h:∃M,M∈ns/\∀a∈ns,a<=M):Vx ns∈ns/\∀a∈ns,a<=Vx ns:=by unfold Vx;rw[dif_pos h];exact Classical.choose_spec h
def Vv{ns:List Int}{M:Int}(h1:M∈ns)(h2:∀a∈ns,M<=a):M=zd1 ns:=by
 obtain⟨h3,h4⟩:=jh ⟨M,h1,h2⟩;have:=h2 _ h3;have:=h4 _ h1;lia
def Jj{ns:List Int}{M:Int}(h1:M∈ns)(h2:∀a∈ns,a<=M):M=Vx ns:=by
 obtain⟨h3,h4⟩:=kn ⟨M,h1,h2⟩;have:=h2 _ h3;have:=h4 _ h1;lia
def WB{ns:List Int}{k:D->Prop}(h:0<ns.length)(q:k (.int (zd1 ns))):xc7 [.lst (ns.map D.int)] k:=⟨ns,rfl,h,λM h1 h2=>by rw[Vv h1 h2];exact q⟩
def WC{ns:List Int}{k:D->Prop}(h:0<ns.length)(q:k (.int (Vx ns))):xd0 [.lst (ns.map D.int)] k:=⟨ns,rfl,h,λM h1 h2=>by rw[Jj h1 h2];exact q⟩
end
def YJ(xs:List D)(b:Nat)(hb:b<=xs.length):VL xs (some (b:Int)) none=xs.drop b:=by
 unfold VL
 rw[HT.zf5,HT.JV,Nat.min_eq_left hb,yU (by rw[length_drop];lia)]
def xf8(xs:List D)(e:Nat)(he:e<=xs.length):VL xs none (some (e:Int))=xs.take e:=by
 unfold VL;rw[HT.zf5,HT.JV,Nat.min_eq_left he,List.drop_zero,Nat.sub_zero]
def zx5{α β:Type}{f:α->β}:∀{l:List β}{ts:List α},l.Perm (ts.map f)->∃rs:List α,rs.Perm ts/\l=rs.map f:=by
 intro l ts h;generalize hm:ts.map f=m at h
 induction h generalizing ts with
 |nil=>
  cases ts with
  |nil=>exact⟨[],.nil,rfl⟩
  |cons _ _=>simp at hm
 | cons x p ih =>
  cases ts with
  |nil=>simp at hm
  |cons a ts=>
   obtain⟨e1,e2⟩:=List.cons.inj hm;obtain⟨rs,h1,rfl⟩:=ih e2
   exact⟨a::rs,h1.cons a,by rw[<- e1];rfl⟩
 | swap x y l =>
  cases ts with
  |nil=>simp at hm
  | cons a ts =>
   cases ts with
   |nil=>simp at hm
   |cons b ts=>
    obtain⟨e1,e2⟩:=List.cons.inj hm;obtain⟨e3,e4⟩:=List.cons.inj e2
    exact⟨b::a::ts,.swap a b ts,by rw[<- e1,<- e3,<- e4];rfl⟩
 |trans p q ih1 ih2=>
  obtain⟨r2,h2,rfl⟩:=ih2 hm;obtain⟨r1,h1,rfl⟩:=ih1 rfl;exact⟨r1,h1.trans h2,rfl⟩
structure GoodU(d:Nat)(ts:List Thing):Prop where
 each:∀t∈ts,t.2.1.length=d
 nd:(ts.map λt=>t.1).Nodup
def GoodT.u{d:Nat}{ts:List Thing}{x:Int}(h:GoodT d ts x):GoodU d ts:=⟨λt ht=>(h.each t ht).2.2.1,h.nodup⟩
def GoodU.perm{d:Nat}{ts rs:List Thing}(h:GoodU d ts)(p:rs.Perm ts):GoodU d rs:=⟨λt ht=>h.each t (p.mem_iff.mp ht),(p.map _).nodup_iff.mpr h.nd⟩
def GoodU.sub{d:Nat}{ts rs:List Thing}(h:GoodU d ts)(p:rs.Sublist ts):GoodU d rs:=⟨λt ht=>h.each t (p.mem ht),(p.map _).nodup h.nd⟩
def kO(t:Thing):Key:=Sum.inl t.1
def byN(ts:List Thing):D:=.dct (ts.map kO) (ts.map xF)
@[simp] theorem xF4(ts:List Thing):xZ (byN ts)=true:=id rfl
theorem ZY:∀{ts:List Thing}{x:Int},x ∉ ts.map (λt=>t.1)->zB3 (ts.map kO) (Sum.inl x)=false
 |[],x,_=>rfl
 |t::ts,x,h=>by
  have h1:¬ t.1=x:=λe=>h (by simp[e])
  have ih:=ZY (ts:=ts) (x:=x) λz=>h (zk _ z);show(decide (kO t=Sum.inl x)||zB3 (ts.map kO) (Sum.inl x))=false;rw[ih,Bool.or_false];exact zW λe=>h1 (Sum.inl.inj e)
theorem ZB:∀{ts:List Thing}{t:Thing},t∈ts->(ts.map λt=>t.1).Nodup->atK (ts.map kO) (ts.map xF) (Sum.inl t.1)=some (xF t)
 |[],t,h,_=>by simp at h
 | s :: ts, t, h, hn => by
  have hn':=xz.mp hn
  show(if kO s=Sum.inl t.1 then some (xF s) else atK (ts.map kO) (ts.map xF) (Sum.inl t.1))=_
  rcases zj.mp h with rfl |h
  ·exact if_pos rfl
  ·have : ¬ kO s = Sum.inl t.1 := λe => by
    have e':s.1=t.1:=Sum.inl.inj e;exact hn'.1 (zi.mpr ⟨t,h,e'.symm⟩)
   rw[if_neg this];exact ZB h hn'.2
def xb7(ts:List Thing):D:=.tup (ts.map λt=>.int t.1)
@[simp] theorem xb5(ts:List Thing):xZ (xb7 ts)=true:=id rfl
@[simp] theorem xb4(ps:List Pair):xZ (xn ps)=true:=id rfl
@[simp] theorem xb3(p:List Int):xZ (yG p)=true:=id rfl
@[simp] theorem xb2(t:Thing):xZ (xF t)=true:=id rfl
noncomputable def qP(d:Nat)(qs:List (List Int)):List Pair:=(List.range d).map λi=>(some (zd1 (VX qs i)),some (Vx (VX qs i)))
inductive Tr where
 |one (name:Int) (bd:List Pair)
 |two (ns:List Int) (bd:List Pair) (low high:Tr)
def vt:Tr->D
 |.one x bd=>.tup [.tup [.int x],xn bd,.non,.non]
 |.two ns bd l h=>.tup [.tup (ns.map D.int),xn bd,vt l,vt h]
def vh(t:Tr):xZ (vt t)=true:=by cases t<;>rfl
section
variable {P:Program}{w:World}{K:W.Frag}{mg:Str->Option Value}{base:Heap}{f:Addr}{fd:FuncData}
abbrev ku:Stmt:=top 14
abbrev kD:List Str:=["house"]
def ZH:FnScope kD ["house"] (xj ku):=⟨rfl,rfl,rfl,x6,rfl,x6,x6⟩
def Zg:("thing" :: kD:List Str).Nodup:=x6
def zI4:TF:=λds n Q=>∃(dd:D) (ts:List Thing),ds=[.tup [dd,.tup (ts.map xF)]]/\(ts.map λt=>t.1).Nodup/\ts.length<=1000/\Q (byN ts) n
def xa6(T:Blt mg)(F:Fun K "things_by_name" "things_by_name" ku f fd):FnOk P w K mg base CX0 1 f fd ["house"] (spD K 1 zI4):=by
 refine Fun.okD F ZH (λ_ _ _ s H E G Z hr=>(zZ (xY (zy2 (own:=["thing"]) (M:=kD) (vW (by rfl)) rfl (vJ rfl (wC xB wA (zh 0) zu (λ_ _=>rfl))) (λ_ _ _ _=>(xo (i:=0) Zg rfl (lo rfl) w6)) (λ_ _ _ _=>ve) (λ_ _ _ _=>(wC xB wA (zh 0) zu (λ_ _=>rfl))) (λ_ _ _ _=>(zh 0)))))) ?_
 rintro ds n Q hl ⟨dd,ts,rfl,hn,hz,q⟩;have e1:atI [dd,D.tup (ts.map xF)] 1=some (D.tup (ts.map xF)):=rfl;simp[startD,e1]
 refine⟨by rw[zg];exact yE hz,λi ks es n'=>n'=n/\ks=(ts.take i).map kO/\es=(ts.take i).map xF,⟨rfl,rfl,rfl⟩,?_,?_⟩
 ·rintro i d ks es n' e ⟨rfl, rfl, rfl⟩;rw[zA] at e
  cases et:ts[i]? with
  |none=>rw[et] at e;cases e
  | some t =>
   rw[et] at e;cases e;have nt:xZ (xF t)=true:=rfl;simp[nt];have e2:∀R:D->Prop,R (.int t.1)->Yp (xF t) (.int 0) R:=λR h=>⟨_,_,_,.inr (.inl rfl),rfl,rfl,h⟩;refine e2 _ ?_;refine⟨_,rfl,?_,?_⟩
   ·have hk : zB3 ((ts.take i).map kO) (Sum.inl t.1) = false := ZY λhm => by
     have h3:(ts.take i++[t]).Sublist ts:=by
      have:ts.take i++[t]=ts.take (i+1):=by rw[xG,et];rfl
      rw[this];exact vc ..
     have h4:=(h3.map λt=>t.1).nodup hn;rw[zU,wG] at h4
     exact h4.2.2 _ hm _ (by simp) rfl
    unfold Vg;rw[map_take] at hk
    rw[if_neg (by rw[hk];simp),xG,zA,et];rfl
   ·have hk : zB3 ((ts.take i).map kO) (Sum.inl t.1) = false := ZY λhm => by
     have h3:(ts.take i++[t]).Sublist ts:=by
      have:ts.take i++[t]=ts.take (i+1):=by rw[xG,et];rfl
      rw[this];exact vc ..
     have h4:=(h3.map λt=>t.1).nodup hn;rw[zU,wG] at h4
     exact h4.2.2 _ hm _ (by simp) rfl
    unfold zg8;rw[map_take] at hk
    rw[if_neg (by rw[hk];simp),xG,zA,et];rfl
 ·rintro ks es n' ⟨rfl,rfl,rfl⟩;rw[zg,wy];exact q
end
inductive TreeOf(d:Nat):List Thing->Tr->Prop where
  |one {t:Thing}:t.2.1.length=d->TreeOf d [t] (.one t.1 (qP d [t.2.1]))
  |two {ts ls hs:List Thing}{ns:List Int}{low high:Tr}:(ls++hs).Perm ts->ns.Perm (ts.map λt=>t.1)->ns.Pairwise (·<=·)->TreeOf d ls low->TreeOf d hs high->TreeOf d ts (.two ns (qP d (ts.map λt=>t.2.1)) low high)
def TreeOf.ne{d:Nat}{ts:List Thing}{tr:Tr}(h:TreeOf d ts tr):1<=ts.length:=by
 induction h with
 |one=>simp
 |two p _ _ _ _ h1 h2=>have:=p.length_eq;rw[zB] at this;lia
def TreeOf.lens{d:Nat}{ts:List Thing}{tr:Tr}(h:TreeOf d ts tr):∀t∈ts,t.2.1.length=d:=by
 induction h with
 |one h=>intro t ht;rw[zM.mp ht];exact h
 |two p _ _ _ _ h1 h2=>
  intro t ht
  rcases xf.mp (p.mem_iff.mpr ht) with h |h
  ·exact h1 t h
  ·exact h2 t h
def jA:Tr->List Pair
 |.one _ bd=>bd
 |.two _ bd _ _=>bd
def yD:Tr->List Int
 |.one x _=>[x]
 |.two ns _ _ _=>ns
def TreeOf.bd{d:Nat}{ts:List Thing}{tr:Tr}(h:TreeOf d ts tr):jA tr=qP d (ts.map λt=>t.2.1):=by cases h<;>rfl
def zc2(ts:List Thing)(i:Nat):List Int:=VX (ts.map λt=>t.2.1) i
def VM(ts:List Thing)(i:Nat):zc2 ts i=ts.map λt=>t.2.1[i]?.getD 0:=by unfold zc2 VX;rw[zR];rfl
noncomputable def loN(ts:List Thing)(i:Nat):Int:=zd1 (zc2 ts i)
noncomputable def hiN(ts:List Thing)(i:Nat):Int:=Vx (zc2 ts i)
def zH9{d i:Nat}(ts:List Thing)(hi:i<d):(qP d (ts.map λt=>t.2.1))[i]?=some (some (loN ts i),some (hiN ts i)):=by
 unfold qP;rw[zA,yM hi];rfl
def kC(d:Nat)(qs:List (List Int)):(qP d qs).length=d:=by unfold qP;rw[zg,length_range]
def YK{ts:List Thing}{i:Nat}(h:1<=ts.length):0<(zc2 ts i).length:=by rw[VM,zg];exact h
def zl9{ts:List Thing}{i:Nat}(h:1<=ts.length){x:Int}(hx:x∈zc2 ts i):loN ts i<=x:=(jh (qm (YK h))).2 x hx
def zF6{ts:List Thing}{i:Nat}(h:1<=ts.length){x:Int}(hx:x∈zc2 ts i):x<=hiN ts i:=(kn (vV (YK h))).2 x hx
def zl8{ts:List Thing}{i:Nat}(h:1<=ts.length):loN ts i∈zc2 ts i:=(jh (qm (YK h))).1
def Jn{ts:List Thing}{i:Nat}(h:1<=ts.length):hiN ts i∈zc2 ts i:=(kn (vV (YK h))).1
def zO7{ts:List Thing}{i:Nat}(h:1<=ts.length):loN ts i<=hiN ts i:=zl9 h (Jn h)
def Qu{ls ts:List Thing}{i:Nat}(h:∀t∈ls,t∈ts){x:Int}(hx:x∈zc2 ls i):x∈zc2 ts i:=by
 rw[VM] at hx ⊢;obtain⟨t,ht,e⟩:=zi.mp hx;exact zi.mpr ⟨t,h t ht,e⟩
def zO6{ls ts:List Thing}{i:Nat}(h:∀t∈ls,t∈ts)(h1:1<=ls.length)(h2:1<=ts.length):loN ts i<=loN ls i/\hiN ls i<=hiN ts i:=
 ⟨zl9 h2 (Qu h (zl8 h1)),zF6 h2 (Qu h (Jn h1))⟩
def xx0(bd pl:List Pair):Str:=if yK bd pl=true then "out" else if jK bd pl=true then "in" else "cut"
def kK:Tr->Nat
 |.one _ _=>1
 |.two _ _ low high=>1+kK low+kK high
def TreeOf.size{d:Nat}{ts:List Thing}{tr:Tr}(h:TreeOf d ts tr):kK tr+1=2*ts.length:=by
 induction h with
 |one=>rfl
 |two p _ _ _ _ h1 h2=>have:=p.length_eq;rw[zB] at this;unfold kK;lia
def zN0{d:Nat}(hd:1<=d){p:List Int}(hp:p.length=d){pl:List Pair}(hl:pl.length=d):xx0 (qP d [p]) pl ≠ "cut" := by
 unfold xx0
 by_cases ha:yK (qP d [p]) pl=true
 ·rw[if_pos ha];decide
 ·rw [if_neg ha]
  have hw:jK (qP d [p]) pl=true:=by
   rw[XO (by rw[kC,hl]) (by rw[kC];exact hd)] at ha
   have pt:∀(i:Nat) (b:Pair),(qP d [p])[i]?=some b->∃x:Int,b=(some x,some x):=λi b hb=>by
    unfold qP at hb;rw[zA] at hb
    by_cases hi:i<d
    ·rw [yM hi] at hb;have e1:VX [p] i=[p[i]?.getD 0]:=rfl
     have m1:zd1 (VX [p] i)=p[i]?.getD 0:=(Vv (ns:=VX [p] i) (by rw[e1];simp) (by rw[e1];simp)).symm
     have m2:Vx (VX [p] i)=p[i]?.getD 0:=(Jj (ns:=VX [p] i) (by rw[e1];simp) (by rw[e1];simp)).symm
     refine⟨p[i]?.getD 0,?_⟩;rw[<- zF hb];show(some (zd1 (VX [p] i)),some (Vx (VX [p] i)))=_;rw[m1,m2]
    ·rw[List.getElem?_eq_none (by simp;lia)] at hb;cases hb
   refine zd5 (zd6 (by rw[kC,hl]) (λi b q hb hq=>?_) λhc=>?_)
   ·obtain ⟨x, rfl⟩ := pt i b hb
    have hnc:crossedT (commonP (some x,some x) q)=false:=by
     cases hcr:crossedT (commonP (some x,some x) q) with
     |false=>rfl
     |true=>exact absurd (XQ.mpr ⟨i,_,WL hb hq,hcr⟩) ha
    obtain⟨a,b⟩:=q
    cases a with
    | none => cases b with
     |none=>rfl
     |some g=>
      simp[commonP,maxO,minO,crossedT] at hnc ⊢
      by_cases hg:g<x
      ·rw[if_pos hg] at hnc;lia
      ·exact λh=>absurd h hg
    | some l => cases b with
     |none=>
      simp[commonP,maxO,minO,crossedT] at hnc ⊢
      by_cases hg:x<l
      ·rw[if_pos hg] at hnc;lia
      ·exact λh=>absurd h hg
     | some g =>
      simp[commonP,maxO,minO,crossedT] at hnc ⊢
      constructor
      ·by_cases hg : x < l
       ·rw [if_pos hg] at hnc
        by_cases hg2:g<x
        ·rw[if_pos hg2] at hnc;lia
        ·rw[if_neg hg2] at hnc;lia
       ·exact λh=>absurd h hg
      ·by_cases hg2 : g < x
       ·rw [if_pos hg2] at hnc
        by_cases hg:x<l
        ·rw[if_pos hg] at hnc;lia
        ·rw[if_neg hg] at hnc;lia
       ·exact λh=>absurd h hg2
   ·obtain⟨i,b,hb,hcr⟩:=XQ.mp hc;obtain⟨x,rfl⟩:=pt i b hb;simp[crossedT] at hcr
  rw[if_pos hw];decide
def qK(t:Tr):∃a b,vt t=.tup [.tup ((yD t).map D.int),xn (jA t),a,b]/\xZ a=true/\xZ b=true:=by
 cases t with
 |one x bd=>exact⟨_,_,rfl,rfl,rfl⟩
 |two ns bd l h=>exact⟨_,_,rfl,vh l,vh h⟩
def ZR(b:List VY):(yB b).length=b.length:=by unfold yB;rw[jP,zg]
section
variable {P:Program}{w:World}{K:W.Frag}{mg:Str->Option Value}{base:Heap}{f:Addr}{fd:FuncData}
end
def xF5(i:Nat)(t:Thing):SRow:=⟨.n (t.2.1[i]?.getD 0),t.1,[]⟩
structure JBd(d:Nat)(ts:List Thing)(i:Nat)(rho:Rho)(n:Nat)(n0:Nat):Prop where
 e:n=n0
 r:∃(u v:Option D),rho=[some (.lst (ts.map xF)),some (.lst (ts.map λt=>yG t.2.1)),some (.own (((qP d (ts.map λt=>t.2.1)).map xV).take i)),u,v]
section
variable {P:Program}{w:World}{K:W.Frag}{mg:Str->Option Value}{base:Heap}{f:Addr}{fd:FuncData}
abbrev qx:Stmt:=top 28
abbrev ka:List Str:=["_law_things","_law_places","_law_edges","_law_i","_law_numbers"]
def vM:FnScope ka ["_law_things"] (xj qx):=⟨rfl,rfl,rfl,x6,rfl,x6,x6⟩
def Ys:("_law_thing" :: ka:List Str).Nodup:=x6
def Yr:("_law_place" :: ka:List Str).Nodup:=x6
def zI5:TF:=λds n Q=>∃(d:Nat) (ts:List Thing),ds=[.lst (ts.map xF)]/\d<=4/\(∀t∈ts,t.2.1.length=d)/\1<=ts.length/\ts.length<=60/\Q (xn (qP d (ts.map λt=>t.2.1))) n
def xa7(T:Blt mg)(F:Fun K "_law_bounds" "_law_bounds" qx f fd):FnOk P w K mg base CX0 1 f fd ["_law_things"] (spD K 1 zI5):=by
 refine Fun.okD F vM (λ_ _ _ s H E G Z hr=>(zE (YY (i:=1) vM.nd rfl (lo rfl) (own:=["_law_thing"]) (M:=ka) (vW (by rfl)) rfl (vJ rfl (zh 0)) (λ_ _ _ _=>(xo (i:=0) Ys rfl (lo rfl) w6)) (λ_ _ _ _=>ve) (λ_ _ _ _=>(wC xB wA (zh 0) zu (λ_ _=>rfl))))
  (zE (Vk (i:=2) vM.nd rfl (lo rfl) zm)
  (zE (jb (m:=5) PassesOwn.never rfl (qC T.range (zc (wm wV qo T.len kW (zc (wC xB wA (zh 1) zu (λ_ _=>rfl)) zm)) zm)) (xo (i:=3) vM.nd rfl (lo rfl) w6)
  (zE (YY (i:=4) vM.nd rfl (lo rfl) (own:=["_law_place"]) (M:=ka) (vW (by rfl)) rfl (vJ rfl (zh 1)) (λ_ _ _ _=>(xo (i:=0) Yr rfl (lo rfl) w6)) (λ_ _ _ _=>ve) (λ_ _ _ _=>(wC xB wA (zh 0) (zh 4) (λ_ _=>rfl))))
  (zZ (kj (i:=2) (zc (vf (zc (wm (Kj rfl) zq4 T.min Ko (zc (zh 4) zm)) (zc (wm (Km rfl) zq7 T.max WK (zc (zh 4) zm)) zm))) zm) rfl))))
  (zZ (Za 2 (xY (yW wS vF T.tuple vG (zc (zh 2) zm))))))))) ?_
 rintro ds n Q hl ⟨d,ts,rfl,hd,hlen,h1,h60,q⟩;generalize hR:XT (xn5 2 _) _=Rr;simp[startD]
 refine yY xF (λt=>yG t.2.1) ts (yE w5) (λt ht R hR=>?_) ?_
 ·simp;exact⟨_,1,_,.inr (.inl rfl),rfl,rfl,hR⟩
 ·subst hR;simp
  obtain⟨t0,r0,e0⟩:∃t0 r0,ts=t0::r0:=by cases ts with |nil=>simp at h1 |cons a b=>exact⟨a,b,rfl⟩
  have m0:t0∈ts:=by rw[e0];simp
  have hk:∀k:D->Prop,k (.int d)->zG2 [yG t0.2.1] k:=λk h=>by unfold yG;rw[KS,zg,hlen t0 m0];exact h
  refine⟨yG t0.2.1,qh (j:=0) (by rw[e0];rfl),hk _ ⟨d,rfl,w5,w5,?_⟩⟩
  refine⟨λi rho n'=>JBd d ts i rho n' n,⟨rfl,none,none,rfl⟩,?_,?_⟩
  ·rintro i d' rho n' e ⟨rfl, u, v, rfl⟩;obtain⟨hi,rfl⟩:=YU e
   replace hi:i<d:=by simpa using hi
   have ec:(ts.map λt=>D.int (t.2.1[i]?.getD 0))=(VX (ts.map λt=>t.2.1) i).map D.int:=by unfold VX;rw[zR,zR];rfl
   have hc:0<(VX (ts.map λt=>t.2.1) i).length:=by unfold VX;rw[zg,zg];exact h1
   have hb:(qP d (ts.map λt=>t.2.1))[i]?=some (some (zd1 (VX (ts.map λt=>t.2.1) i)),some (Vx (VX (ts.map λt=>t.2.1) i))):=by unfold qP;rw[zA,yM hi];rfl
   generalize hS:KP 2 _=S;simp
   refine yY (λt:Thing=>yG t.2.1) (λt=>.int (t.2.1[i]?.getD 0)) ts (yE w5) (λt ht R hR=>?_) ?_
   ·simp;unfold yG;rw[zg5];refine⟨.int (t.2.1[i]?.getD 0),qh ?_,hR⟩
    rw[zA,zf (by rw[hlen t ht];exact hi)]
    rfl
   ·rw [ec];subst hS;simp
    refine⟨lt_size (by rw[kC];lia),WB hc (WC hc ⟨rfl,some (.int i),some (.lst ((VX (ts.map λt=>t.2.1) i).map D.int)),?_⟩)⟩
    rw[xG,zA,hb];rfl
  ·rintro rho n' ⟨rfl, u, v, rfl⟩;rw[ja];simp
   rw[yU (by rw[zg,kC];exact zn _)]
   exact q
abbrev vS:Stmt:=top 29
abbrev jt:List Str:=["_law_left_here","_law_d","_law_things","_law_turn","_law_names","_law_i","_law_row","_law_cut","_law_low"]
def vp:FnScope jt q2 (xj vS):=⟨rfl,rfl,rfl,x6,rfl,x6,x6⟩
def Xi:("_law_thing" :: jt:List Str).Nodup:=x6
def YO:Nat->TF
 |0=>λ_ _ _=>False
 |j+1=>λds n Q=>∃(d:Nat) (ts:List Thing) (k:Int),ds=[.st,.int d,.lst (ts.map xF),.int k]/\n=3/\1<=d/\d<=4/\GoodU d ts/\1<=ts.length/\ts.length<=60/\ts.length<=j+1/\∀tr:Tr,TreeOf d ts tr->Q (vt tr) n
def zz0{f c Pt:Addr}{fd:FuncData}(T:Blt mg)(F:Fun K "_law_grown" "_law_grown" vS f fd)(hns:W.nsIn K mainGlobals "_law_grown" = some (some (.ref f)))(htb:W.tabIn K "_law_grown" = some (c,Pt))(LB:LamBase base mg c Pt)(hm:mg "_law_grown" = some (.ref f))(hk:W.keepIn K (.ref f)=true)(hb:Binds K fd ["_law_left_here","_law_d","_law_things","_law_turn"] [])(Y_pick:Fn P w K mg base "_law_pick" 1 2 Zo)(Y_bounds:Fn P w K mg base "_law_bounds" 1 1 zI5):∀j:Nat,FnOk P w K mg base CX0 (j+4) f fd q2 (spD K 4 (YO j)):=by
  intro j
  induction j with
  |zero=>exact FnOk.botK λds n Q h=>h
  | succ j ih =>
    have Y_grown:Fn P w K mg base "_law_grown" (j+4) 4 (YO j):=⟨f,fd,_,ih,hm,hk,hb⟩
    have TI:kX K Pt (("_law_grown" ++ ".<locals>.") ++ "<lambda>"):=⟨"_law_grown",by simp[ky],c,htb,rfl⟩
    refine Fun.okL F hns htb vp (λA0 outer s H E G Z hr=>(zE (yj (i:=4) vp.nd rfl (lo rfl) (yW wS vF T.tuple vG (zc (wm Jw zq2 T.sorted XJ (zc (vK (own:=["_law_thing"]) (M:=jt) (vW (by rfl)) rfl (vJ rfl (zh 2)) (λ_ _ _ _=>(xo (i:=0) Xi rfl (lo rfl) w6)) (λ_ _ _ _=>ve) (λ_ _ _ _=>(wC xB wA (zh 0) zu (λ_ _=>rfl)))) zm)) zm)))
    (zE (vH (wB QY QS (wm wV qo T.len kW (zc (zh 2) zm)) zu (wT _)) (zZ (xY (vf (zc (zh 4) (zc (wY Y_bounds (hr.mono w5) rfl (zc (zh 2) zm)) (zc vg (zc vg zm))))))) yS)
    (zE (yj (i:=5) vp.nd rfl (lo rfl) (wC xB wA (vN (zc (jH (zh 3) (zh 1)) (zc (wY Y_pick (hr.mono w5) rfl (zc (zh 0) (zc (zh 1) zm))) zm))) (wY Y_pick (hr.mono w5) rfl (zc (zh 0) (zc zu zm))) (λ_ _=>rfl)))
    (zE (yj (i:=6) vp.nd rfl (lo rfl) (ZS (N:=["_law_thing","_law_i"]) (p := "_law_thing") (clos:=[("_law_i",s.heap.objs.size+1)]) (caps:=[5]) (k:=0) TI rfl T.sorted (hr.mono w5) (zc (zh 2) zm) LB (VA (by rfl) zD1) (Caps.one rfl rfl rfl) (λA1 f1 c1 s1 H1 G1 Z1 hr=>(vf (zc (wC xB wA (wC xB wA (zh 0) zu (λ_ _=>rfl)) (zh 1) (λ_ _=>rfl)) (zc (wC xB wA (zh 0) zu (λ_ _=>rfl)) zm))))))
    (zE (vH (wB QY QS (wY Y_pick (hr.mono w5) rfl (zc (zh 0) (zc zu zm))) zu (wT _)) (zZ (yj (i:=6) vp.nd rfl (lo rfl) (XW zj3 zg2 (xw4 rfl (zh 6)) (xw5 rfl (zh 6))))) yS)
    (zE (yj (i:=7) vp.nd rfl (lo rfl) (wC xB wA (vN (zc (Qd (kc (wm wV qo T.len kW (zc (zh 6) zm)) zu) zu) (zc (kc zu (wY Y_pick (hr.mono w5) rfl (zc (zh 0) (zc (jc (wm wV qo T.len kW (zc (zh 6) zm)) zu) zm)))) zm))) (wY Y_pick (hr.mono w5) rfl (zc (zh 0) (zc zu zm))) (λ_ _=>rfl)))
    (zE (yj (i:=8) vp.nd rfl (lo rfl) (wY Y_grown hr rfl (zc (zh 0) (zc (zh 1) (zc (zi5 rfl (zh 6) YE (YD (zh 7))) (zc (kc (zh 3) zu) zm))))))
    (zZ (xY (vf (zc (zh 4) (zc (wY Y_bounds (hr.mono w5) rfl (zc (zh 2) zm)) (zc (zh 8) (zc (wY Y_grown hr rfl (zc (zh 0) (zc (zh 1) (zc (zi5 rfl (zh 6) (YD (zh 7)) YE) (zc (kc (zh 3) zu) zm))))) zm))))))))))))))) ?_
    rintro ds n Q hl ⟨d,ts,kt,rfl,rfl,hd1,hd,hg,h1,h60,hj,q⟩
    have nmE:(ts.map λt=>D.int t.1)=(ts.map λt=>t.1).map D.int:=by rw[zR];rfl
    generalize hR:XT (JU 5 _) _=Rr
    have main:∀(F:EndsD) (ns:List Int),F.rt=Q->2<=ts.length->ns.Perm (ts.map λt=>t.1)->ns.Pairwise (·<=·) ->
        Rr F [some .st,some (.int d),some (.lst (ts.map xF)),some (.int kt),some (.tup (ns.map D.int)),none,none,none,none] 3:=λF ns hF h2 hp hs=>by
      subst hR;generalize hR6:XT (JU 6 _) _=R6;simp
      refine⟨hd1,wb w5 w5 λk1 g0 g1=>wb w6 w6 λk2 g2 g3=>?_⟩
      have hpk:∀R:D->Prop,(∀i:Nat,i<d->R (.int i))->Yp (.lst [.int (kt%d),.int k1]) (.int k2) R:=λR hR=>zE8 g2 (by simpa using g3) λdd hdd=>by
        simp only[zj,zS,or_false] at hdd
        have e0:0<=kt%(d:Int):=wv _ w5
        have e1:kt%(d:Int)<d:=wR _ w5
        rcases hdd with rfl |rfl
        · obtain ⟨i, e⟩ := xE e0
          rw[e]
          exact hR i w5
        · obtain ⟨i, e⟩ := xE g0
          rw[e]
          exact hR i w5
      refine hpk _ λi hi=>?_;subst hR6;generalize hR7:XT (sIf _ _ _) _=R7
      have rest:∀(F:EndsD) (us:List Thing),F.rt=Q->us.Perm ts->R7 F [some .st,some (.int d),some (.lst (ts.map xF)),some (.int kt),some (.tup (ns.map D.int)),some (.int i),some (.lst (us.map xF)),none,none] 3:=λF us hF hu=>by
        subst hR7;generalize hR8:XT (JU 7 _) _=R8
        have rest2:∀(F:EndsD) (us:List Thing),F.rt=Q->us.Perm ts->R8 F [some .st,some (.int d),some (.lst (ts.map xF)),some (.int kt),some (.tup (ns.map D.int)),some (.int i),some (.lst (us.map xF)),none,none] 3:=λF us hF hu=>by
          subst hR8;have hul:=hu.length_eq;generalize hR9:XT (JU 8 _) _=R9;simp
          refine⟨⟨w6,w6⟩,wb w5 w5 λk1 g0 g1=>?_⟩
          simp
          refine wb w6 w6 λk2 g2 g3=>?_
          have hpk:∀R:D->Prop,(∀m:Nat,1<=m->m<ts.length->R (.int m))->Yp (.lst [.int (((us.length:Int)+1)/2),.int (1+k1)]) (.int k2) R:=λR hR=>zE8 g2 (by simpa using g3) λdd hdd=>by
            simp only[zj,zS,or_false] at hdd
            rcases hdd with rfl |rfl
            · obtain ⟨m, e⟩ := xE (show 0 <= ((us.length : Int) + 1) / 2 by lia)
              rw[e]
              exact hR m w5 w5
            · obtain ⟨m, e⟩ := xE (show 0 <= 1 + k1 by lia)
              rw[e]
              exact hR m w5 w5
          refine hpk _ λm hm1 hm2=>?_;subst hR9
          have hcut1:VL (us.map xF) none (some (m:Int))=(us.take m).map xF:=by rw[xf8 _ _ (by rw[zg];lia),map_take]
          have hcut2:VL (us.map xF) (some (m:Int)) none=(us.drop m).map xF:=by rw[YJ _ _ (by rw[zg];lia),List.map_drop]
          have gu:=hg.perm hu
          have part:∀(vs:List Thing) (R:D->Nat->Prop),vs.Sublist us->1<=vs.length->vs.length<ts.length->(∀tr,TreeOf d vs tr->R (vt tr) 3)->YO j [.st,.int d,.lst (vs.map xF),.int (kt+1)] 3 R:=λvs R hv h3 h4 hR=>by
            cases j with
            |zero=>lia
            |succ j=>exact⟨d,vs,kt+1,rfl,rfl,hd1,hd,gu.sub hv,h3,w5,w5,hR⟩
          have lt:(us.take m).length=m:=by rw[yc];lia
          have ld:(us.drop m).length=ts.length-m:=by rw[length_drop];lia
          simp;rw[hcut1]
          refine part _ _ (vc ..) w5 w5 λlow hlow=>?_
          simp[vh];refine⟨d,ts,rfl,hd,hg.each,h1,h60,?_⟩;rw[hcut2]
          refine part _ _ (List.drop_sublist ..) w5 w5 λhigh hhigh=>?_
          rw[hF]
          exact q _ (.two (by rw[List.take_append_drop];exact hu) hp hs hlow hhigh)
        simp
        refine wb w6 w6 λk g0 g1=>?_
        simp
        split
        · rw [VG, VG, <- zU]
          have ul:=hu.length_eq;refine⟨yE ?_,rest2 F _ hF ((UV us).trans hu)⟩;have z1:=YH true us;have z2:=YH false us;simp only[zg];lia
        · exact rest2 F us hF hu
      simp
      refine YQ xF (xF5 i) true [.int i] ts (0,[],0) w5 (λt ht=>rfl) hg.nd rfl (λi' j' e=>?_) (λt ht=>?_) λus hu _=>rest _ us hF hu
      · cases i' with
        |zero=>cases e;exact⟨_,rfl,rfl,rfl⟩
        |succ i'=>simp at e
      · simp
        have hil:i<t.2.1.length:=by rw[hg.each t ht];exact hi
        refine⟨_,1,_,.inr (.inl rfl),rfl,rfl,?_⟩
        refine⟨_,_,_,.inr (.inl rfl),rfl,qh (by rw[zA,zf hil];rfl),?_⟩
        refine⟨_,0,_,.inr (.inl rfl),rfl,rfl,?_⟩;unfold xF5;rw[zf hil];rfl
    simp[startD]
    refine yY xF (λt=>.int t.1) ts (yE w5) (λt ht R hR=>?_) ?_
    · simp
      exact⟨_,0,_,.inr (.inl rfl),rfl,rfl,hR⟩
    · rw [nmE]
      refine⟨ts.map λt=>t.1,rfl,by simp;lia,λns hp hs'=>?_⟩
      simp
      split
      · rename_i h2
        have h2':ts.length=1:=w5
        obtain⟨t,rfl⟩:=List.length_eq_one_iff.mp h2'
        have e1:ns=[t.1]:=by simpa using hp
        subst e1
        refine⟨d,[t],rfl,hd,hg.each,by simp,by simp,?_⟩
        exact q _ (.one (hg.each t (by simp)))
      · rename_i h2
        exact main _ ns rfl w5 hp hs'
abbrev jU:Stmt:=top 30
abbrev JI:List Str:=["_law_left_here","_law_house_here"]
def Um:FnScope JI q1 (xj jU):=⟨rfl,rfl,rfl,x6,rfl,x6,x6⟩
def WO:TF:=λds n Q=>∃(d:Nat) (ts:List Thing),ds=[.st,wt d ts]/\n=3/\1<=d/\d<=4/\GoodU d ts/\ts.length<=30/\(ts=[]->Q .non 3)/\(ts≠[]->∀tr:Tr,TreeOf d ts tr->Q (vt tr) 3)
def zy6(T:Blt mg)(F:Fun K "_law_tree" "_law_tree" jU f fd)(Y_grown:Fn P w K mg base "_law_grown" 34 4 (YO 30)):FnOk P w K mg base CX0 35 f fd q1 (spD K 2 WO):=by
 refine Fun.okD F Um (λ_ _ _ s H E G Z hr=>(zE (vH (wB (xa0 hr) zV6 (wC xB wA (zh 1) zu (λ_ _=>rfl)) (vf zm) (wT _)) (zZ (xY vg)) yS)
  (zZ (xY (wY Y_grown (hr.mono w6) rfl (zc (zh 0) (zc (wC xB wA (zh 1) zu (λ_ _=>rfl)) (zc (yW Kn zR5 T.list zr7 (zc (wC xB wA (zh 1) zu (λ_ _=>rfl)) zm)) (zc zu zm))))))))) ?_
 rintro ds n Q hl ⟨d,ts,rfl,rfl,h1,hd,hg,hz,q0,q1⟩;have nh:=vP d ts;simp[startD,nh];refine WE ?_;simp
 split
 ·rename_i h;exact q0 h
 ·rename_i h
  have hlen:1<=ts.length:=by
   cases ts with
   |nil=>exact absurd rfl h
   |cons a b=>simp
  refine zn8 (WE ?_);simp
  exact⟨d,ts,0,rfl,rfl,h1,hd,hg,hlen,w5,w5,q1 h⟩
end
def jB(p:Int × Int)(x:Int):Int:=max 0 (max (p.1-x) (x-p.2))
def kI(bd:List (Int × Int))(pl:List Int):Int:=((bd.zip pl).map λz=>jB z.1 z.2).sum
def jO(p:Int × Int)(bd:List (Int × Int))(x:Int)(pl:List Int):kI (p::bd) (x::pl)=jB p x+kI bd pl:=by
 show(((p,x)::bd.zip pl).map λz=>jB z.1 z.2).sum=_;rw[zJ,sum_cons];rfl
theorem JT:∀(bd ce:List (Int × Int)) (pl:List Int),bd.length=ce.length->(∀(i:Nat) p q,bd[i]?=some p->ce[i]?=some q->p.1<=q.1/\q.2<=p.2)->kI bd pl<=kI ce pl
 |[],[],pl,_,_=>yV _
 |p::bd,q::ce,[],_,_=>by
  have e1:kI (p::bd) []=0:=rfl;have e2:kI (q::ce) []=0:=rfl;rw[e1,e2];exact yV _
 |p::bd,q::ce,x::pl,hl,h=>by
  have ih:=JT bd ce pl (by simpa using hl) λi a b ha hb=>h (i+1) a b (by simpa using ha) (by simpa using hb)
  obtain⟨h1,h2⟩:=h 0 p q rfl rfl;rw[jO,jO];unfold jB;lia
noncomputable def bdI(d:Nat)(ts:List Thing):List (Int × Int):=(List.range d).map λi=>(loN ts i,hiN ts i)
def KF(p:Int × Int):Pair:=(some p.1,some p.2)
def VN(d:Nat)(ts:List Thing):(bdI d ts).length=d:=by unfold bdI;rw[zg,length_range]
def zI0{d i:Nat}(ts:List Thing)(hi:i<d):(bdI d ts)[i]?=some (loN ts i,hiN ts i):=by
 unfold bdI;rw[zA,yM hi];rfl
def zs0(d:Nat)(ts:List Thing):qP d (ts.map λt=>t.2.1)=(bdI d ts).map KF:=by
 unfold qP bdI;rw[zR];rfl
noncomputable def ZW(d:Nat)(kd:Option (List Int))(ts:List Thing):Int:=match kd with
 |some pl=>kI (bdI d ts) pl
 |none=>- Vx (ts.map λt=>t.2.2)
noncomputable def yJ(ts:List Thing):Int:=zd1 (ts.map λt=>t.1)
noncomputable def wI(d:Nat)(kd:Option (List Int))(ts:List Thing):Int × Int:=(ZW d kd ts,yJ ts)
def vm{ts:List Thing}(h:1<=ts.length):∃t∈ts,t.1=yJ ts:=by
 have:=(jh (qm (ns:=ts.map λt=>t.1) (by rw[zg];exact h))).1
 obtain⟨t,ht,e⟩:=zi.mp this;exact⟨t,ht,e⟩
def Zy{ts:List Thing}{t:Thing}(h:t∈ts):yJ ts<=t.1:=
 (jh (qm (ns:=ts.map λt=>t.1) (by rw[zg];exact List.length_pos_of_mem h))).2 _ (zi.mpr ⟨t,h,rfl⟩)
def VC{d:Nat}{kd:Option (List Int)}{ls ts:List Thing}(h:∀t∈ls,t∈ts)(h1:1<=ls.length):ZW d kd ts<=ZW d kd ls:=by
 obtain⟨t0,ht0⟩:=List.exists_mem_of_length_pos h1;have h2:1<=ts.length:=List.length_pos_of_mem (h t0 ht0)
 cases kd with
 |some pl=>
  refine JT _ _ _ (by rw[VN,VN]) λi p q hp hq=>?_
  have hi:i<d:=by have:=(zq.mp hp).1;rw[VN] at this;exact this
  rw[zI0 ts hi] at hp;rw[zI0 ls hi] at hq;cases hp;cases hq;exact zO6 h h1 h2
 |none=>
  have a:=(kn (vV (ns:=ls.map λt=>t.2.2) (by rw[zg];exact h1))).1
  have b:=(kn (vV (ns:=ts.map λt=>t.2.2) (by rw[zg];exact h2))).2
  obtain⟨t,ht,e⟩:=zi.mp a;have:=b t.2.2 (zi.mpr ⟨t,h t ht,rfl⟩);show-Vx _<=- Vx _;lia
def zP3{d:Nat}{kd:Option (List Int)}{t:Thing}{ts:List Thing}(h:t∈ts):ltP (wI d kd [t]) (wI d kd ts)=false:=by
 cases e:ltP (wI d kd [t]) (wI d kd ts) with
 |false=>rfl
 | true =>
  rw[kw] at e
  have h1:ZW d kd ts<=ZW d kd [t]:=VC (λu hu=>by rw[zM.mp hu];exact h) (by simp)
  have h2:yJ ts<=t.1:=Zy h
  have h3:yJ [t]=t.1:=by
   obtain⟨u,hu,e⟩:=vm (ts:=[t]) (by simp)
   rw[<- e,zM.mp hu]
  have e':ZW d kd [t]<ZW d kd ts\/ZW d kd [t]=ZW d kd ts/\yJ [t]<yJ ts:=e;lia
def jx(t:Thing):yJ [t]=t.1:=by
 obtain⟨u,hu,e⟩:=vm (ts:=[t]) (by simp)
 rw[<- e,zM.mp hu]
def Xn{a b:Int × Int}(h1:ltP a b=false)(h2:a.2≠b.2):ltP b a=true:=by
 rw[kw]
 have:¬ (a.1<b.1\/(a.1=b.1/\a.2<b.2)):=λz=>by rw[<- kw,h1] at z;cases z
 lia
def UN{a b c:Int × Int}(h1:ltP b a=false)(h2:ltP c b=false):ltP c a=false:=by
 cases e:ltP c a with
 |false=>rfl
 |true=>
  have i1:¬ (b.1<a.1\/(b.1=a.1/\b.2<a.2)):=λz=>by rw[<- kw,h1] at z;cases z
  have i2:¬ (c.1<b.1\/(c.1=b.1/\c.2<b.2)):=λz=>by rw[<- kw,h2] at z;cases z
  rw[kw] at e;lia
def TreeOf.names{d:Nat}{ts:List Thing}{tr:Tr}(h:TreeOf d ts tr):(yD tr).Perm (ts.map λt=>t.1)/\(yD tr).Pairwise (·<=·):=by
  cases h with
  |one h=>exact⟨.refl _,by simp[yD]⟩
  |two p hp hs _ _=>exact⟨hp,hs⟩
def TreeOf.head{d:Nat}{ts:List Thing}{tr:Tr}(h:TreeOf d ts tr):∃r,yD tr=yJ ts::r:=by
 obtain⟨hp,hs⟩:=h.names
 cases hn:yD tr with
 |nil=>
  rw[hn] at hp;have:=h.ne;have:=hp.length_eq;simp at this;lia
 | cons a r =>
  refine⟨r,?_⟩;rw[hn] at hp hs
  have:a=yJ ts:=Vv (hp.mem_iff.mp (by simp)) λb hb=>by
   rcases zj.mp (hp.mem_iff.mpr hb) with rfl |hb
   ·exact yV _
   ·exact(xC.mp hs).1 b hb
  rw[this]
def UK{a b:List Int}(p:a.Perm b):Vx a=Vx b:=by
 cases ha:a with
 |nil=>
  rw[ha] at p;rw[List.nil_perm.mp p]
 |cons x r=>
  rw[<- ha]
  have h0:0<a.length:=by rw[ha];simp
  obtain⟨m1,m2⟩:=kn (vV h0);exact Jj (p.mem_iff.mp m1) λy hy=>m2 y (p.mem_iff.mpr hy)
abbrev Qe:=List Thing × Tr
def wX(pl:List Pair)(q:List Qe):List Qe:=q.filter λx=>!yK (jA x.2) pl
def yZ(q:List Qe):List Thing:=q.flatMap λx=>x.1
structure QOk(d:Nat)(hs:List Thing)(q:List Qe):Prop where
 tree:∀x∈q,TreeOf d x.1 x.2
 sub:∀t∈yZ q,t∈hs
 nd:((yZ q).map λt=>t.1).Nodup
def vO{q:List Qe}{t:Thing}:t∈yZ q↔∃x∈q,t∈x.1:=by unfold yZ;exact List.mem_flatMap
def vn(x:Qe)(q:List Qe):yZ (x::q)=x.1++yZ q:=by unfold yZ;rw[wa]
def jl(p q:List Qe):yZ (p++q)=yZ p++yZ q:=by unfold yZ;rw[List.flatMap_append]
def jz{p q:List Qe}(h:p.Perm q):(yZ p).Perm (yZ q):=h.flatMap_right _
def QOk.perm{d:Nat}{hs:List Thing}{p q:List Qe}(h:QOk d hs q)(e:p.Perm q):QOk d hs p:=
 ⟨λx hx=>h.tree x (e.mem_iff.mp hx),λt ht=>h.sub t ((jz e).mem_iff.mp ht),((jz e).map _).nodup_iff.mpr h.nd⟩
def QOk.sublist{d:Nat}{hs:List Thing}{p q:List Qe}(h:QOk d hs q)(e:p.Sublist q):QOk d hs p:=by
 have hf:(yZ p).Sublist (yZ q):=by
  clear h
  induction e with
  |slnil=>exact .refl _
  |cons x _ ih=>rw[vn];exact ih.trans (wK ..)
  |cons_cons x _ ih=>rw[vn,vn];exact(List.Sublist.refl _).append ih
 exact⟨λx hx=>h.tree x (e.mem hx),λt ht=>h.sub t (hf.mem ht),(hf.map _).nodup h.nd⟩
def QOk.tail{d:Nat}{hs:List Thing}{x:Qe}{q:List Qe}(h:QOk d hs (x::q)):QOk d hs q:=h.sublist (List.sublist_cons_self ..)
def QOk.apartN{d:Nat}{hs:List Thing}{x:Qe}{q:List Qe}(h:QOk d hs (x::q)){t u:Thing}(ht:t∈x.1)(hu:u∈yZ q):t.1≠u.1:=by
 have:=h.nd;rw[vn,zU,wG] at this;exact this.2.2 _ (zi.mpr ⟨t,ht,rfl⟩) _ (zi.mpr ⟨u,hu,rfl⟩)
theorem QOk.heads{d:Nat}{hs:List Thing}:∀{q:List Qe},QOk d hs q->(q.map λx=>yJ x.1).Nodup
 |[],_=>nodup_nil
 |x::q,h=>by
  refine xz.mpr ⟨λz=>?_,QOk.heads h.tail⟩;obtain⟨y,hy,e⟩:=zi.mp z
  obtain⟨t,ht,e1⟩:=vm (h.tree x (by simp)).ne
  obtain⟨u,hu,e2⟩:=vm (h.tree y (by simp[hy])).ne
  exact h.apartN ht (vO.mpr ⟨y,hy,hu⟩) (by rw[e1,e2];exact e.symm)
def UF{α β γ:Type}{f:α->β}{g:α->γ}{l:List α}(hg:∀a b,f a=f b->g a=g b)(h:(l.map g).Nodup):(l.map f).Nodup:=by
 rw[wc,xI] at h ⊢;exact h.imp λhne e=>hne (hg _ _ e)
def QOk.keys{d:Nat}{hs:List Thing}{q:List Qe}(kd:Option (List Int))(h:QOk d hs q):(q.map λx=>wI d kd x.1).Nodup:=
 UF (g:=λx:Qe=>yJ x.1) (λa b e=>congrArg Prod.snd e) h.heads
theorem Jz{α β:Type}{f:α->Int × Int}{g:α->β}:∀{q:List α}{x:α},x∈q->(q.map f).Nodup->atP (q.map f) (q.map g) (f x)=some (g x)
 |[],x,h,_=>by simp at h
 |y::q,x,h,hn=>by
  obtain⟨h1,h2⟩:=xz.mp hn
  show(if f y=f x then some (g y) else atP (q.map f) (q.map g) (f x))=_
  rcases zj.mp h with rfl |h
  ·exact if_pos rfl
  ·rw[if_neg λe=>h1 (zi.mpr ⟨x,h,e.symm⟩)];exact Jz h h2
def ZC{α:Type}(f:α->Int × Int)(q:List α)(k:Int × Int):List α:=q.filter λy=>decide (f y≠k)
def zp4{α:Type}(f:α->Int × Int)(q:List α)(k:Int × Int):Yv (q.map f) k=(ZC f q k).map f:=by
 unfold Yv ZC;rw[List.filter_map];rfl
theorem Kc{α β:Type}(f:α->Int × Int)(g:α->β)(k:Int × Int):∀q:List α,dropE (q.map f) (q.map g) k=(ZC f q k).map g
 |[]=>rfl
 | y :: q => by
  have ih:=Kc f g k q
  show(if f y=k then dropE (q.map f) (q.map g) k else g y::dropE (q.map f) (q.map g) k)=_
  by_cases e:f y=k
  ·rw [if_pos e, ih];unfold ZC
   rw[xm (by simpa using e)]
  ·rw [if_neg e, ih];unfold ZC
   rw[xh (by simpa using e),zJ]
theorem qE{α:Type}{f:α->Int × Int}:∀{q:List α}{x:α},x∈q->(q.map f).Nodup->(x::ZC f q (f x)).Perm q
 |[],x,h,_=>by simp at h
 | y :: q, x, h, hn => by
  obtain⟨h1,h2⟩:=xz.mp hn;unfold ZC
  rcases zj.mp h with rfl |h
  ·rw[xm (by simp),List.filter_eq_self.mpr λz hz=>by
    simp only[ne_eq,decide_not,Bool.not_eq_eq_eq_not,Bool.not_true,decide_eq_false_iff_not]
    exact λe=>h1 (zi.mpr ⟨z,hz,e⟩)]
  ·have e : f y ≠ f x := λe => h1 (zi.mpr ⟨x, h, e.symm⟩)
   rw[xh (by simpa using e)]
   exact(List.Perm.swap y x _).trans ((qE h h2).cons y)
def JZ{d:Nat}{ts:List Thing}(hl:∀t∈ts,t.2.1.length=d){t:Thing}(ht:t∈ts):Xy (qP d (ts.map λt=>t.2.1)) t.2.1=true:=by
 have hne:1<=ts.length:=List.length_pos_of_mem ht;refine Xx.mpr λi q x hq hx=>?_
 have hi:i<d:=by have:=(zq.mp hq).1;rw[kC] at this;exact this
 rw[zH9 ts hi] at hq;cases hq
 have hm:x∈zc2 ts i:=by rw[VM];exact zi.mpr ⟨t,ht,by rw[hx];rfl⟩
 have:=zl9 (i:=i) hne hm;have:=zF6 (i:=i) hne hm;simp[liesT];lia
def TreeOf.apart{d:Nat}{ts:List Thing}{tr:Tr}(h:TreeOf d ts tr)(hd:1<=d){pl:List Pair}(hp:pl.length=d)(ha:yK (jA tr) pl=true):(ts.filter λt=>Xy pl t.2.1)=[]:=by
 rw[List.filter_eq_nil_iff];intro t ht hf;have hl:=h.lens;rw[h.bd] at ha
 have:=zs5 (ps:=qP d (ts.map λt=>t.2.1)) (qs:=pl) (p:=t.2.1) (by rw[kC,hl t ht]) (by rw[hp,hl t ht]) (by rw[hl t ht];exact hd) (JZ hl ht) hf
 rw[ha] at this;cases this
def zy5{d:Nat}{t:Thing}(ht:t.2.1.length=d)(hd:1<=d){pl:List Pair}(hp:pl.length=d)(ha:yK (qP d [t.2.1]) pl=false):Xy pl t.2.1=true:=by
 have nc:=zN0 hd ht hp;unfold xx0 at nc;rw[ha] at nc;simp only[zV,if_false] at nc
 have hw:jK (qP d [t.2.1]) pl=true:=by
  cases h:jK (qP d [t.2.1]) pl with
  |true=>rfl
  |false=>rw[h] at nc;simp at nc
 have e:km (qP d [t.2.1]) pl=qP d [t.2.1]:=of_decide_eq_true (by unfold jK at hw;exact hw)
 have:=zb5 (ps:=qP d [t.2.1]) (qs:=pl) (p:=t.2.1) (by rw[kC,ht]) (by rw[hp,ht]) (by rw[ht];exact hd)
 have z:=JZ (d:=d) (ts:=[t]) (λu hu=>by rw[zM.mp hu];exact ht) (t:=t) (by simp)
 rw[e,show Xy (qP d [t.2.1]) t.2.1=true from z,Bool.true_and] at this;exact this.symm
def ZA(pl:List Pair)(ts:List Thing):List Thing:=ts.filter λt=>Xy pl t.2.1
def kQ(pl:List Pair)(a b:List Thing):ZA pl (a++b)=ZA pl a++ZA pl b:=yX ..
def UX{pl:List Pair}{a b:List Thing}(h:a.Perm b):(ZA pl a).Perm (ZA pl b):=h.filter _
def ltK(d:Nat)(kd:Option (List Int))(a b:Thing):Prop:=ltP (wI d kd [a]) (wI d kd [b])=true
structure DOk(d:Nat)(hs:List Thing)(kd:Option (List Int))(pl:List Pair)(q:List Qe)(acc:List Thing):Prop where
 ok:QOk d hs q
 inb:∀x∈q,yK (jA x.2) pl=false
 perm:(acc++ZA pl (yZ q)).Perm (ZA pl hs)
 up:acc.Pairwise (ltK d kd)
 below:∀a∈acc,∀t∈yZ q,ltK d kd a t
theorem VE{d:Nat}{hs:List Thing}{pl:List Pair}(hd:1<=d)(hp:pl.length=d):∀{q:List Qe},(∀x∈q,TreeOf d x.1 x.2)->ZA pl (yZ (wX pl q))=ZA pl (yZ q)
 |[],_=>rfl
 | x :: q, h => by
  have ih:=VE (hs:=hs) hd hp (q:=q) λy hy=>h y (zk _ hy);rw[vn,kQ]
  cases ha:yK (jA x.2) pl with
  |true=>
   have e:wX pl (x::q)=wX pl q:=by unfold wX;rw[xm (by simp[ha])]
   have z:ZA pl x.1=[]:=(h x (by simp)).apart hd hp ha
   rw[e,ih,z,we]
  |false=>
   have e:wX pl (x::q)=x::wX pl q:=by unfold wX;rw[xh (by simp[ha])]
   rw[e,vn,kQ,ih]
section
variable {d:Nat}{hs:List Thing}{kd:Option (List Int)}{pl:List Pair}{q:List Qe}{acc:List Thing}
def DOk.start{tr:Tr}(hd:1<=d)(hp:pl.length=d)(h:TreeOf d hs tr)(hn:(hs.map λt=>t.1).Nodup):DOk d hs kd pl (wX pl [(hs,tr)]) []:=by
 have ok:QOk d hs [(hs,tr)]:=⟨λx hx=>by rw[zM.mp hx];exact h,λt ht=>by simpa [yZ] using ht,by simpa [yZ] using hn⟩
 refine⟨ok.sublist yN,λx hx=>by simpa using (zx.mp hx).2,?_,.nil,by simp⟩
 rw[we,VE (hs:=hs) hd hp ok.tree];simp[yZ]
def DOk.none(h:hs=[]):DOk d hs kd pl [] []:=by
 subst h
 exact⟨⟨by simp,by simp[yZ],by simp[yZ]⟩,by simp,by simp[ZA,yZ],.nil,by simp⟩
def DOk.leaf{t:Thing}{tr:Tr}(hd:1<=d)(hp:pl.length=d)(h:DOk d hs kd pl q acc)(hx:([t],tr)∈q)(hm:∀y∈q,ltP (wI d kd y.1) (wI d kd [t])=false) :
  DOk d hs kd pl (ZC (λy:Qe=>wI d kd y.1) q (wI d kd [t])) (acc++[t]):=by
 have hpm:(([t],tr)::ZC (λy:Qe=>wI d kd y.1) q (wI d kd [t])).Perm q:=qE (f:=λy:Qe=>wI d kd y.1) hx (h.ok.keys kd);have ok1:=h.ok.perm hpm;have tt:=h.ok.tree _ hx
 have hl:t.2.1.length=d:=tt.lens t (by simp)
 have hf:Xy pl t.2.1=true:=zy5 hl hd hp (by have:=h.inb _ hx;rw[tt.bd] at this;exact this)
 have hflat:=jz hpm;rw[vn] at hflat;generalize ZC (λy:Qe=>wI d kd y.1) q (wI d kd [t])=q' at *;refine⟨ok1.tail,λx hx'=>h.inb x (hpm.mem_iff.mp (zk _ hx')),?_,?_,λa ha u hu=>?_⟩
 ·refine List.Perm.trans ?_ h.perm;rw[yz];refine List.Perm.append_left acc ?_;refine List.Perm.trans ?_ (UX hflat);rw[kQ]
  have e:ZA pl [t]=[t]:=by simp[ZA,hf]
  show([t]++ZA pl (yZ q')).Perm (ZA pl [t]++ZA pl (yZ q'));rw[e]
 ·rw [List.pairwise_append]
  refine⟨h.up,by simp,λa ha b hb=>?_⟩
  rw[zM.mp hb]
  exact h.below a ha t (vO.mpr ⟨_,hx,by simp⟩)
 ·have hu' : u ∈ yZ q := hflat.mem_iff.mp (zr _ hu)
  rcases xf.mp ha with ha |ha
  ·exact h.below a ha u hu'
  ·rw [zM.mp ha];obtain⟨y,hy,hyu⟩:=vO.mp hu;have i1:=hm y (hpm.mem_iff.mp (zk _ hy));have i2:=zP3 (d:=d) (kd:=kd) hyu;refine Xn (UN i1 i2) ?_;show yJ [u]≠yJ [t];rw[jx,jx]
   exact λe=>ok1.apartN (t:=t) (by simp) hu e.symm
def DOk.open{ts ls us:List Thing}{tr lo hi:Tr}(hd:1<=d)(hp:pl.length=d)(h:DOk d hs kd pl q acc)(hx:(ts,tr)∈q)(h1:(ls++us).Perm ts)(h2:TreeOf d ls lo)(h3:TreeOf d us hi) :
  DOk d hs kd pl (ZC (λy:Qe=>wI d kd y.1) q (wI d kd ts)++wX pl [(ls,lo),(us,hi)]) acc/\QOk d hs (ZC (λy:Qe=>wI d kd y.1) q (wI d kd ts)++[(ls,lo),(us,hi)]):=by
 have hpm:((ts,tr)::ZC (λy:Qe=>wI d kd y.1) q (wI d kd ts)).Perm q:=qE (f:=λy:Qe=>wI d kd y.1) hx (h.ok.keys kd);have ok1:=h.ok.perm hpm;have hflat:=jz hpm;rw[vn] at hflat;generalize ZC (λy:Qe=>wI d kd y.1) q (wI d kd ts)=q' at *
 have e0:yZ [(ls,lo),(us,hi)]=ls++us:=by simp[yZ]
 have hfl:(yZ (q'++[(ls,lo),(us,hi)])).Perm (yZ q):=by
  rw[jl,e0];exact((List.Perm.append_left _ h1).trans List.perm_append_comm).trans hflat
 have okB:QOk d hs (q'++[(ls,lo),(us,hi)]):=⟨λx hx'=>by
   rcases xf.mp hx' with hx' |hx'
   ·exact ok1.tree x (zk _ hx')
   ·simp only [zj, zS, or_false] at hx'
    rcases hx' with rfl |rfl
    ·exact h2
    ·exact h3,λt ht=>h.ok.sub t (hfl.mem_iff.mp ht),(hfl.map _).nodup_iff.mpr h.ok.nd⟩
 have hsl:(q'++wX pl [(ls,lo),(us,hi)]).Sublist (q'++[(ls,lo),(us,hi)]):=(List.Sublist.refl _).append yN;refine⟨⟨okB.sublist hsl,λx hx'=>?_,?_,h.up,λa ha t ht=>?_⟩,okB⟩
 ·rcases xf.mp hx' with hx' | hx'
  ·exact h.inb x (hpm.mem_iff.mp (zk _ hx'))
  ·simpa using (zx.mp hx').2
 ·refine List.Perm.trans (List.Perm.append_left acc ?_) h.perm;rw[jl,kQ,VE (hs:=hs) hd hp (λx hx'=>okB.tree x (zr _ hx')),<- kQ,<- jl];exact UX hfl
 ·refine h.below a ha t (hfl.mem_iff.mp ?_);obtain⟨x,hx',ht'⟩:=vO.mp ht;exact vO.mpr ⟨x,hsl.mem hx',ht'⟩
def DOk.told(hn:(hs.map λt=>t.1).Nodup)(h:DOk d hs kd pl q acc){all:List Thing}(ha:all.Perm (ZA pl hs))(hs':all.Pairwise (ltK d kd)):acc=all.take acc.length:=by
 have irr:∀a,¬ ltK d kd a a:=λa z=>by unfold ltK at z;rw[qH] at z;cases z
 have tr:∀a b c,ltK d kd a b->ltK d kd b c->ltK d kd a c:=λa b c=>ji
 have key:∀(acc all rest:List Thing),(acc++rest).Perm all->all.Pairwise (ltK d kd)->acc.Pairwise (ltK d kd)->(∀a∈acc,∀t∈rest,ltK d kd a t)->acc=all.take acc.length:=by
  intro acc
  induction acc with
  |nil=>intro all rest _ _ _ _;rfl
  | cons a acc ih =>
   intro all rest hp hs hu hb
   cases all with
   |nil=>exact absurd hp.length_eq (by simp)
   | cons b all =>
    obtain⟨s1,s2⟩:=xC.mp hs;obtain⟨u1,u2⟩:=xC.mp hu
    have e:a=b:=by
     have hb':b∈a::(acc++rest):=hp.mem_iff.mpr (by simp)
     have ha':a∈b::all:=hp.mem_iff.mp (by simp)
     rcases zj.mp hb' with e |hb'
     ·exact e.symm
     ·rcases zj.mp ha' with e | ha'
      ·exact e
      ·have i1 := s1 a ha'
       have i2:ltK d kd a b:=by
        rcases xf.mp hb' with z |z
        ·exact u1 b z
        ·exact hb a (by simp) b z
       exact absurd (tr _ _ _ i1 i2) (irr b)
    subst e;rw[zG,List.take_succ_cons,<- ih all rest (List.Perm.cons_inv hp) s2 u2 λx hx t ht=>hb x (zk _ hx) t ht]
 exact key acc all (ZA pl (yZ q)) (h.perm.trans ha.symm) hs' h.up λa ha' t ht=>h.below a ha' t (zx.mp ht).1
end
def vd:Option (List Int)->D
 |some pl=>.tup [.str "near",yG pl]
 |none=>.tup [.str "best"]
@[simp] theorem za1(k:Option (List Int)):xZ (vd k)=true:=by cases k<;>rfl
def wOf(hs:List Thing)(x:Int):Int:=((hs.find? λt=>t.1 == x).map λt=>t.2.2).getD 0
theorem zd9:∀{hs:List Thing}{t:Thing},t∈hs->(hs.map λt=>t.1).Nodup->wOf hs t.1=t.2.2
 |[],t,h,_=>by simp at h
 | s :: hs, t, h, hn => by
  have hn':=xz.mp hn;unfold wOf;rw[wu]
  rcases zj.mp h with rfl |h
  ·rw[beq_self_eq_true];rfl
  ·have ne : (s.1 == t.1) = false := by
    rw[beq_eq_false_iff_ne];intro e;exact hn'.1 (zi.mpr ⟨t,h,e.symm⟩)
   rw[ne];exact zd9 h hn'.2
def xf0{hs:List Thing}(hn:(hs.map λt=>t.1).Nodup){t:Thing}(ht:t∈hs){R:D->Prop}(h:R (xF t)):xh1 (byN hs) (.int t.1) R:=by
 unfold byN;refine⟨_,_,Sum.inl t.1,xF t,rfl,rfl,ZB ht hn,h⟩
theorem JS:∀(bd:List (Int × Int)) (pl:List Int),((pl.zip bd).map λz=>max (z.2.1-z.1) (max 0 (z.1-z.2.2)))=(bd.zip pl).map λz=>jB z.1 z.2
 |[],pl=>by simp
 |_::_,[]=>by simp
 |p::bd,x::pl=>by
  rw[wP,wP,zJ,zJ,JS bd pl]
  congr 1
  unfold jB;show max (p.1-x) (max 0 (x-p.2))=max 0 (max (p.1-x) (x-p.2));lia
def zo0{a:Int}{r:List Int}:atI ((a::r).map D.int) 0=some (.int a):=qh (j:=0) rfl
section
variable {P:Program}{w:World}{K:W.Frag}{mg:Str->Option Value}{base:Heap}{f:Addr}{fd:FuncData}
abbrev ZJ:Stmt:=top 16
abbrev Yd:List Str:=["place","limits"]
def KL:FnScope Yd ["place","limits"] (xj ZJ):=⟨rfl,rfl,rfl,x6,rfl,x6,x6⟩
def qF:("number" :: "least" :: "greatest" :: Yd:List Str).Nodup:=x6
def ZE:TF:=λds n Q=>∃(pl:List Int) (bd:List (Int × Int)),ds=[yG pl,xn (bd.map KF)]/\pl.length<=1000/\Q (.int (kI bd pl)) n
def Jb(T:Blt mg)(T2:Blt2 mg)(F:Fun K "steps_to" "steps_to" ZJ f fd):FnOk P w K mg base CX0 1 f fd ["place","limits"] (spD K 2 ZE):=by
 refine Fun.okD F KL (λ_ _ _ s H E G Z hr=>(zZ (xY (wm (QA rfl) zH3 T2.sum zH6 (zc (vK (own:=["number","least","greatest"]) (M:=Yd) (vW (by rfl)) rfl (KY rfl T.zip (zc (zh 0) (zc (zh 1) zm))) (λ_ _ _ _=>(vY (k:=2) rfl rfl (xR (xo (i:=0) qF rfl (lo rfl) w6) (xR (vY (k:=2) rfl rfl (xR (xo (i:=1) qF rfl (lo rfl) w6) (xR (xo (i:=2) qF rfl (lo rfl) w6) vy))) vy)))) (λ_ _ _ _=>ve) (λ_ _ _ _=>(wm (Kk rfl) zq5 T.max WK (zc (jc (zh 1) (zh 0)) (zc zu (zc (jc (zh 0) (zh 2)) zm)))))) zm))))) ?_
 rintro ds n Q hl ⟨pl,bd,rfl,hz,q⟩
 have ez:VZ (pl.map D.int) ((bd.map KF).map xV)=(pl.zip bd).map λz=>.tup [.int z.1,xV (KF z.2)]:=by
  unfold VZ;rw[zR,List.zipWith_map,yH];rfl
 simp[startD];refine(Ym (d1:=yG pl) (d2:=xn (bd.map KF)) rfl rfl).mpr ?_;rw[ez]
 refine yY (λz:Int × (Int × Int)=>.tup [.int z.1,xV (KF z.2)]) (λz=>.int (max (z.2.1-z.1) (max 0 (z.1-z.2.2)))) (pl.zip bd) (zy (by rw[length_zip];lia) (yE (k:=1000) w5)) (λz hz R hR=>?_) ?_
 ·simp[xV,KF];exact hR
 ·have e : ((pl.zip bd).map λz => D.int (max (z.2.1 - z.1) (max 0 (z.1 - z.2.2)))) = ((bd.zip pl).map λz => jB z.1 z.2).map D.int := by
   rw[<- JS,zR];rfl
  exact⟨(bd.zip pl).map (λz:(Int × Int) × Int=>jB z.1 z.2),by rw[e],q⟩
abbrev Vd:Stmt:=top 17
abbrev VS:List Str:=["by_name","tree","kind","names","limits","low","high"]
def qR:FnScope VS ["by_name","tree","kind"] (xj Vd):=⟨rfl,rfl,rfl,x6,rfl,x6,x6⟩
def Jf:("name" :: VS:List Str).Nodup:=x6
def WT:TF:=λds n Q=>∃(d:Nat) (hs ts:List Thing) (tr:Tr) (kd:Option (List Int)),ds=[byN hs,vt tr,vd kd]/\(hs.map λt=>t.1).Nodup/\TreeOf d ts tr/\(∀t∈ts,t∈hs)/\ts.length<=1000/\(∀pl,kd=some pl->pl.length<=1000)/\Q (.prT (wI d kd ts)) n
def zj9(T:Blt mg)(F:Fun K "key_by" "key_by" Vd f fd)(F_steps_to:Fn P w K mg base "steps_to" 1 2 ZE):FnOk P w K mg base CX0 2 f fd ["by_name","tree","kind"] (spD K 3 WT):=by
 refine Fun.okD F qR (λ_ _ _ s H E G Z hr=>(zE (ZQ (m:=7) (zh 1) (vY (k:=4) rfl rfl (xR (xo (i:=3) qR.nd rfl (lo rfl) w6) (xR (xo (i:=4) qR.nd rfl (lo rfl) w6) (xR (xo (i:=5) qR.nd rfl (lo rfl) w6) (xR (xo (i:=6) qR.nd rfl (lo rfl) w6) vy))))))
  (zE (vH (wB QY QS (wC xB wA (zh 2) zu (λ_ _=>rfl)) Uy (wT _)) (zZ (xY (zZ7 (zc (wY F_steps_to (hr.mono w6) rfl (zc (wC xB wA (zh 2) zu (λ_ _=>rfl)) (zc (zh 4) zm))) (zc (wC xB wA (zh 3) zu (λ_ _=>rfl)) zm))))) yS)
  (zZ (xY (zZ7 (zc (zi6 (wm (Km rfl) zq7 T.max WK (zc (vK (own:=["name"]) (M:=VS) (vW (by rfl)) rfl (vJ rfl (zh 3)) (λ_ _ _ _=>(xo (i:=0) Jf rfl (lo rfl) w6)) (λ_ _ _ _=>ve) (λ_ _ _ _=>(wC xB wA (zZ9 (zQ2 hr) (zh 1) (zh 0) (λ_ _=>rfl)) zu (λ_ _=>rfl)))) zm))) (zc (wC xB wA (zh 3) zu (λ_ _=>rfl)) zm)))))))) ?_
 rintro ds n Q hl ⟨d,hs,ts,tr,kd,rfl,hn,ht,hsub,hz,hk,q⟩;obtain⟨ta,tb,et,na,nb⟩:=qK tr;obtain⟨r,hr1⟩:=ht.head;obtain⟨hnp,_⟩:=ht.names
 have hd0:atI ((yD tr).map D.int) 0=some (.int (yJ ts)):=by rw[hr1];exact zo0
 rw[et];simp[startD,na,nb]
 cases kd with
 |some pl=>
  refine⟨_,0,_,.inr (.inl rfl),rfl,rfl,?_⟩;simp;refine⟨_,1,_,.inr (.inl rfl),rfl,rfl,?_⟩
  refine⟨pl,bdI d ts,by rw[ht.bd,zs0],hk pl rfl,?_⟩
  exact⟨_,hd0,(wI d (some pl) ts).1,(wI d (some pl) ts).2,⟨rfl,rfl⟩,q⟩
 | none =>
  refine⟨_,0,_,.inr (.inl rfl),rfl,rfl,?_⟩;simp
  rw[if_neg w6]
  refine yY D.int (λx=>.int (wOf hs x)) (yD tr) (yE (by rw[hnp.length_eq,zg];lia)) (λx hx R hR=>?_) ?_
  ·obtain⟨u,hu,rfl⟩:=zi.mp (hnp.mem_iff.mp hx);simp;refine xf0 hn (hsub u hu) ?_;refine⟨_,2,_,.inr (.inl rfl),rfl,rfl,?_⟩;rw[zd9 (hsub u hu) hn] at hR;exact hR
  ·have e : ((yD tr).map λx => D.int (wOf hs x)) = ((yD tr).map (wOf hs)).map D.int := by rw [zR]; rfl
   have e2:Vx ((yD tr).map (wOf hs))=Vx (ts.map λt=>t.2.2):=by
    refine(UK (hnp.map (wOf hs))).trans ?_;rw[zR]
    congr 1
    exact yL λt ht=>zd9 (hsub t ht) hn
   rw[e]
   refine WC (by rw[zg,hr1];simp) ?_
   rw[e2];simp;exact⟨_,hd0,(wI d none ts).1,(wI d none ts).2,⟨rfl,rfl⟩,q⟩
end
noncomputable def ksQ(d:Nat)(kd:Option (List Int))(q:List Qe):List (Int × Int):=q.map λx=>wI d kd x.1
def esQ(q:List Qe):List D:=q.map λx=>vt x.2
def zb4{pl:List Pair}{q:List Qe}{i:Nat}{x:Qe}(h:q[i]?=some x):wX pl (q.take (i+1))=wX pl (q.take i)++(if yK (jA x.2) pl=true then [] else [x]):=by
 unfold wX;rw[xG,h,yX]
 congr 1
 show List.filter _ [x]=_
 cases ha:yK (jA x.2) pl<;>simp[ha]
inductive Reach(d:Nat)(kd:Option (List Int))(pl:List Pair)(k:Nat)(q0:List Qe):Nat->List Qe->List Thing->Prop where
 |start:Reach d kd pl k q0 0 q0 []
 |leaf {n:Nat}{q:List Qe}{acc:List Thing}{t:Thing}{bd:List Pair}:Reach d kd pl k q0 n q acc->acc.length<k->([t],Tr.one t.1 bd)∈q->(∀y∈q,ltP (wI d kd y.1) (wI d kd [t])=false)->Reach d kd pl k q0 (n+1) (ZC (λy:Qe=>wI d kd y.1) q (wI d kd [t])) (acc++[t])
 | opn {n : Nat} {q : List Qe} {acc ts ls us : List Thing} {ns : List Int} {bd : List Pair} {lo hi : Tr} : Reach d kd pl k q0 n q acc -> acc.length < k -> (ts, Tr.two ns bd lo hi) ∈ q -> (∀ y ∈ q, ltP (wI d kd y.1) (wI d kd ts) = false) -> (ls ++ us).Perm ts -> TreeOf d ls lo -> TreeOf d us hi ->
   Reach d kd pl k q0 (n+1) (ZC (λy:Qe=>wI d kd y.1) q (wI d kd ts)++wX pl [(ls,lo),(us,hi)]) acc
def Reach.dok{d:Nat}{hs:List Thing}{kd:Option (List Int)}{pl:List Pair}{k n:Nat}{q0 q:List Qe}{acc:List Thing}(hd:1<=d)(hp:pl.length=d)(h0:DOk d hs kd pl q0 [])(h:Reach d kd pl k q0 n q acc):DOk d hs kd pl q acc:=by
 induction h with
 |start=>exact h0
 |leaf _ _ hx hm ih=>exact ih.leaf hd hp hx hm
 |opn _ _ hx hm h1 h2 h3 ih=>exact(ih.open hd hp hx h1 h2 h3).1
def kJ(o:Option Tr)(hs:List Thing)(pl:List Pair)(k:Nat):List Qe:=match o with
 |none=>[]
 |some tr=>if k=0 then [] else wX pl [(hs,tr)]
def Reach.zero{d:Nat}{kd:Option (List Int)}{pl:List Pair}{n:Nat}{q0 q:List Qe}{acc:List Thing}(h:Reach d kd pl 0 q0 n q acc):n=0/\q=q0/\acc=[]:=by
 cases h with
 |start=>exact⟨rfl,rfl,rfl⟩
 |leaf _ h=>lia
 |opn _ h=>lia
def LtQ(d:Nat)(kd:Option (List Int))(a b:Qe):Prop:=ltP (wI d kd a.1) (wI d kd b.1)=true
def XR(rs:List Qe):D:=.tup (rs.map λx=>.tup ((yD x.2).map D.int))
def zt1(d:Nat)(kd:Option (List Int))(hs:List Thing):Prop:=∀ls us:List Thing,(∀t∈ls,t∈hs)->(∀t∈us,t∈hs)->1<=ls.length->1<=us.length->yJ ls≠yJ us->Wh (wI d kd ls)≠Wh (wI d kd us)
def zf6{a b:Int}{x y:Int}{r r':List D}(h:SRow.lt ⟨.n a,x,r⟩ ⟨.n b,y,r'⟩=true):ltP (a,x) (b,y)=true:=by
 unfold SRow.lt at h;rw[kw]
 by_cases e:a=b
 ·subst e;simp at h;exact .inr ⟨rfl,h⟩
 ·simp only[SKey.n.injEq,e,if_false,SKey.lt,wF] at h;exact .inl h
def yI(q:List Qe):Nat:=(q.map λx=>kK x.2).sum
def qr{p q:List Qe}(h:p.Perm q):yI p=yI q:=by
 unfold yI
 induction h with
 |nil=>rfl
 |cons x _ ih=>simp only[zJ,sum_cons,ih]
 |swap x y l=>simp only[zJ,sum_cons];lia
 |trans _ _ h1 h2=>exact h1.trans h2
def Zq(p q:List Qe):yI (p++q)=yI p+yI q:=by unfold yI;rw[zU,List.sum_append]
def Wq{p q:List Qe}(h:p.Sublist q):yI p<=yI q:=by
 induction h with
 |slnil=>exact zn _
 |cons x _ ih=>simp[yI] at ih ⊢;lia
 |cons_cons x _ ih=>simp[yI] at ih ⊢;lia
section
variable {P:Program}{w:World}{K:W.Frag}{mg:Str->Option Value}{base:Heap}{f:Addr}{fd:FuncData}
abbrev KN:Stmt:=top 18
abbrev JH:List Str:=["by_name","trees","plain","kind"]
def zv0:FnScope JH q3 (xj KN):=⟨rfl,rfl,rfl,x6,rfl,x6,x6⟩
def za5:("tree" :: JH:List Str).Nodup:=x6
def WS:TFT:=λds n R=>∃(d:Nat) (hs:List Thing) (kd:Option (List Int)) (pl:List Pair) (q:List Qe),ds=[byN hs,.lst (esQ q),xn pl,vd kd]/\1<=d/\d<=1000/\pl.length=d/\QOk d hs q/\q.length<=2/\(hs.map λt=>t.1).Nodup/\hs.length<=60/\(∀p,kd=some p->p.length<=1000) /\
 R (ksQ d kd (wX pl q)) (esQ (wX pl q)) n
def QOk.len{d:Nat}{hs:List Thing}{q:List Qe}(h:QOk d hs q)(hz:hs.length<=60){x:Qe}(hx:x∈q):x.1.length<=1000:=by
 have h1:(x.1.map λt=>t.1).Nodup:=by
  have hs':x.1.Sublist (yZ q):=by
   clear h
   induction q with
   |nil=>simp at hx
   |cons y q ih=>
    rw[vn]
    rcases zj.mp hx with rfl |hx
    ·exact List.sublist_append_left ..
    ·exact(ih hx).trans (wK ..)
  exact(hs'.map _).nodup h.nd
 have h2:x.1.Nodup:=by
  rw[wc,xI] at h1;rw[wc];exact h1.imp λhne e=>hne (congrArg _ e)
 have:=h2.length_le_of_subset (l₂:=hs) λt ht=>h.sub t (vO.mpr ⟨x,hx,ht⟩);lia
def zy8(T:Blt mg)(F:Fun K "keyed" "keyed" KN f fd)(F_lie_apart:Fn P w K mg base "lie_apart" 4 2 jM)(F_key_by:Fn P w K mg base "key_by" 2 3 WT):FnOk P w K mg base CX0 6 f fd q3 (spT K 4 WS):=by
 refine Fun.okT (k:=5) F zv0 rfl (λ_ _ _ s H E G Z hr=>(zi8 hr (own:=["tree"]) (M:=JH) (vW (by rfl)) rfl (vJ rfl (zh 1)) (λ_ _ _ _=>(xo (i:=0) za5 rfl (lo rfl) w6)) (λ_ _ _ _=>(Vh (Vi (jZ (wY F_lie_apart (hr.mono w6) rfl (zc (wC xB wA (zh 0) zu (λ_ _=>rfl)) (zc (zh 3) zm))))))) (λ_ _ _ _=>(wY F_key_by (hr.mono w6) rfl (zc (zh 1) (zc (zh 0) (zc (zh 4) zm))))) (λ_ _ _ _=>(zh 0)))) ?_
 rintro ds n R hl ⟨d,hs,kd,pl,q,rfl,hd1,hd2,hpl,ok,hq2,hn,hz,hk,hR⟩;simp[startD,Jt,Qs];have hlq:(esQ q).length=q.length:=zg ..
 refine⟨yE w5,λi ks es n'=>n'=n/\ks=ksQ d kd (wX pl (q.take i))/\es=esQ (wX pl (q.take i)),⟨rfl,rfl,rfl⟩,?_,?_⟩
 ·rintro i dd ks es n' e ⟨rfl, rfl, rfl⟩;unfold esQ at e;rw[zA] at e
  cases hx:q[i]? with
  |none=>rw[hx] at e;cases e
  | some x =>
   rw[hx] at e;cases e;have hm:x∈q:=zN hx;have tt:=ok.tree x hm;obtain⟨ta,tb,et,na,nb⟩:=qK x.2;have nx:=vh x.2
   have hbl:(jA x.2).length=d:=by rw[tt.bd,kC]
   have hix:∀R:D->Prop,R (xn (jA x.2))->Yp (vt x.2) (.int 1) R:=λR h=>by
    rw[et];exact⟨_,1,_,.inr (.inl rfl),rfl,rfl,h⟩
   have hsub:(x.1++yZ (q.take i)).Perm (yZ (q.take i)++x.1):=List.perm_append_comm;have okt:QOk d hs (q.take (i+1)):=ok.sublist (vc ..)
   have hnew:wI d kd x.1 ∉ ksQ d kd (wX pl (q.take i)):=λz=>by
    obtain⟨y,hy,e⟩:=zi.mp z;have:=okt.keys kd;rw[xG,hx,zU,wG] at this
    exact this.2.2 _ (zi.mpr ⟨y,(zx.mp hy).1,rfl⟩) _ (zi.mpr ⟨x,by simp,rfl⟩) e
   have hkt:=zb4 (pl:=pl) hx
   refine QF nx (hix _ ⟨jA x.2,pl,rfl,w5,w5,w5,?_⟩)
   simp
   cases ha:yK (jA x.2) pl with
   |true=>
    rw[ha,if_pos rfl,wM] at hkt;rw[hkt];simp
   |false=>
    rw[ha,if_neg (by simp)] at hkt
    simp;refine QF nx ⟨d,hs,x.1,x.2,kd,rfl,hn,tt,λt ht=>ok.sub t (vO.mpr ⟨x,hm,ht⟩),ok.len hz hm,hk,?_⟩;refine QF nx ⟨(wI d kd x.1).1,(wI d kd x.1).2,rfl,hnew,?_⟩;refine⟨rfl,?_,?_⟩
    ·rw[hkt];unfold ksQ;rw[zU];rfl
    ·rw[hkt];unfold esQ;rw[zU];rfl
 ·rintro ks es n' ⟨rfl,rfl,rfl⟩;rw[hlq,wy];exact hR
abbrev qV:Stmt:=top 19
abbrev jp:List Str:=["gone","house","tree","box","kind","k","by_name","plain","names","looks","waiting","part_names","limits","low","high"]
def ym:FnScope jp q10 (xj qV):=⟨rfl,rfl,rfl,x6,rfl,x6,x6⟩
def Xf:("key" :: jp:List Str).Nodup:=x6
def KJ:TF:=λds n R=>∃(d:Nat) (hs:List Thing) (o:Option Tr) (b:List VY) (kd:Option (List Int)) (k:Nat),ds=[.dct [] [],wt d hs,(o.map vt).getD .non,vA b,vd kd,.int k]/\1<=d/\d<=1000/\b.length=d/\(hs.map λt=>t.1).Nodup/\hs.length<=60/\(∀p,kd=some p->p.length<=1000) /\
 (o=none->hs=[])/\(∀tr,o=some tr->TreeOf d hs tr)/\zt1 d kd hs/\∀(n':Nat) (q rs:List Qe) (acc:List Thing),Reach d kd (yB b) k (kJ o hs (yB b) k) n' q acc->(q=[]\/acc.length=k)->acc.length<=k->rs.Perm q->rs.Pairwise (LtQ d kd)->R (.tup [.tup (acc.map λt=>.int t.1),.int n',XR rs]) n
structure JDr(d:Nat)(hs:List Thing)(kd:Option (List Int))(pl:List Pair)(k n:Nat)(q0:List Qe)(g0 g1 g2 g3 g4 g6 g7:Option D)(m:Nat)(rho:Rho)(n':Nat):Prop where
 e:n'=n
 r:∃(q:List Qe) (acc:List Thing) (looks:Nat) (z1 z2 z3 z4:Option D),m=yI q/\Reach d kd pl k q0 looks q acc/\acc.length<=k /\
  rho=[g0,g1,g2,g3,g4,some (.int k),g6,g7,some (.own (acc.map λt=>.int t.1)),some (.int looks),some (.owT (ksQ d kd q) (esQ q)),z1,z2,z3,z4]
def zz2(T:Blt mg)(F:Fun K "drawn_past" "drawn_past" qV f fd)(F_things_by_name:Fn P w K mg base "things_by_name" 1 1 zI4)(F_plain_box:Fn P w K mg base "plain_box" 3 1 jL)(F_keyed:FnT P w K mg base "keyed" 6 4 WS):FnOk P w K mg base CX0 7 f fd q10 (spD K 6 KJ):=by
 refine Fun.okD F ym (λ_ _ _ s H E G Z hr=>(zE (yj (i:=6) ym.nd rfl (lo rfl) (wY F_things_by_name (hr.mono w6) rfl (zc (zh 1) zm)))
  (zE (yj (i:=7) ym.nd rfl (lo rfl) (wY F_plain_box (hr.mono w6) rfl (zc (zh 3) zm)))
  (zE (Vk (i:=8) ym.nd rfl (lo rfl) zm)
  (zE (yj (i:=9) ym.nd rfl (lo rfl) zu)
  (zE (zw8 (i:=10) F_keyed (hr.mono w6) rfl ym.nd rfl (lo rfl) (zc (zh 6) (zc (KZ (PWD.pt (zg7 (wB qj qi (zh 2) vg (wT _)) (KU (wB QY QS (zh 5) zu (wT _))))) (vN zm) (vN (zc (zh 2) zm))) (zc (zh 7) (zc (zh 4) zm)))))
  (zE (Uu PassesOwn.never (PWD.pt (qB (wB XY XU (zM2 (i:=10) T.len) zu (wT _)) (qA (wB zM8 zJ9 (Xa (i:=8) T.len rfl) (zh 5) (wT _)))))
  (zE (zw9 (i:=10) (m:=15) hr rfl (wm (zr3 rfl (zQ2 hr)) zR4 T.min Ko (zc (Qc (i:=10) hr T.list) zm)) (vY (k:=4) rfl rfl (xR (xo (i:=11) ym.nd rfl (lo rfl) w6) (xR (xo (i:=12) ym.nd rfl (lo rfl) w6) (xR (xo (i:=13) ym.nd rfl (lo rfl) w6) (xR (xo (i:=14) ym.nd rfl (lo rfl) w6) vy))))))
  (zE (zx1 xd5 (i:=9) ym.nd rfl (lo rfl) zu)
  (zZ (vH (wB XY XU (wm wV qo T.len kW (zc (zh 11) zm)) zu (wT _)) (zZ (zw7 (i:=10) F_keyed (hr.mono w6) rfl (zc (zh 6) (zc (vN (zc (zh 13) (zc (zh 14) zm))) (zc (zh 7) (zc (zh 4) zm)))))) (zZ (vH (wB (zj1 (zQ2 hr)) zV7 (wC xB wA (zh 11) zu (λ_ _=>rfl)) (zh 0) (by with_unfolding_all rfl)) (zZ (kj (i:=8) (zc (wC xB wA (zh 11) zu (λ_ _=>rfl)) zm) rfl)) yS)))))))
  (zZ (Za 8 (xY (vf (zc (yW wS vF T.tuple vG (zc (zh 8) zm)) (zc (zh 9) (zc (yW wS vF T.tuple vG (zc (vK (own:=["key"]) (M:=jp) (vW (by rfl)) rfl (vJ rfl (wm (zc3 hr) (zC8 rfl) T.sorted XJ (zc (Qc (i:=10) hr T.list) zm))) (λ_ _ _ _=>(xo (i:=0) Xf rfl (lo rfl) w6)) (λ_ _ _ _=>ve) (λ_ _ _ _=>(wC xB wA (zZ8 (i:=11) hr rfl (zh 0) (λ_ _=>rfl)) zu (λ_ _=>rfl)))) zm)) zm)))))))))))))) ?_
 generalize hB:XT (zJ2 10 _ _) _=B;generalize hS:zV3 8 _=Sr;generalize hW:XT (zf4 _ _) _=Wl;rintro ds n R hl ⟨d,hs,o,b,kd,k,rfl,hd1,hd2,hb,hn,hz,hk,ho1,ho2,hH,hR⟩;have nh:=vP d hs;have nb:xZ (vA b)=true:=rfl
 have no:xZ ((o.map vt).getD .non)=true:=by cases o with |none=>rfl |some t=>exact vh t
 have hpl:(yB b).length=d:=by rw[ZR];exact hb
 generalize hpe:yB b=pl at *
 have fin:∀(F:EndsD) (q:List Qe) (acc:List Thing) (looks:Nat) (z1 z2 z3 z4:Option D),F.rt=R->QOk d hs q->acc.length<=60->(∀rs:List Qe,rs.Perm q->rs.Pairwise (LtQ d kd)->R (.tup [.tup (acc.map λt=>.int t.1),.int looks,XR rs]) n) ->
   Sr F [some (.dct [] []),some (wt d hs),some ((o.map vt).getD .non),some (vA b),some (vd kd),some (.int k),some (byN hs),some (xn pl),some (.own (acc.map λt=>.int t.1)),some (.int looks),some (.owT (ksQ d kd q) (esQ q)),z1,z2,z3,z4] n:=λF q acc looks z1 z2 z3 z4 hF ok hal ht=>by
  subst hS
  have hql:q.length<=60:=by
   have h1:=ok.heads
   have h2:(q.map λx=>yJ x.1).length<=(hs.map λt=>t.1).length:=h1.length_le_of_subset λa ha=>by
    obtain⟨x,hx,rfl⟩:=zi.mp ha;obtain⟨t,ht,e⟩:=vm (ok.tree x hx).ne;exact zi.mpr ⟨t,ok.sub t (vO.mpr ⟨x,hx,ht⟩),e⟩
   rw[zg,zg] at h2;lia
  simp[hF]
  refine⟨q.map λx=>⟨.n (ZW d kd x.1),yJ x.1,[]⟩,true,?_,by rw[zg];lia,?_,?_,λrows hp hs'=>⟨_,.inl rfl,?_⟩⟩
  ·unfold ksQ;rw[zR,zR];rfl
  ·intro x hx;obtain⟨_,_,rfl⟩:=zi.mp hx;rfl
  ·rw[zR];exact ok.heads
  ·obtain ⟨rs, hrp, rfl⟩ := zx5 hp;rw[zR]
   refine yY (SRow.d∘λx:Qe=>(⟨.n (ZW d kd x.1),yJ x.1,[]⟩:SRow)) (λx=>.tup ((yD x.2).map D.int)) rs (yE (by rw[hrp.length_eq];lia)) (λx hx R' hR'=>?_) ?_
   ·have e:(SRow.d∘λx:Qe=>(⟨.n (ZW d kd x.1),yJ x.1,[]⟩:SRow)) x=.tup [.int (wI d kd x.1).1,.int (wI d kd x.1).2]:=rfl;have hat:=Jz (f:=λx:Qe=>wI d kd x.1) (g:=λx=>vt x.2) (hrp.mem_iff.mp hx) (ok.keys kd);obtain⟨ta,tb,et,na,nb2⟩:=qK x.2;rw[e];simp;refine⟨_,_,⟨rfl,rfl⟩,_,_,⟨rfl,rfl⟩,_,hat,?_⟩;show Yp (vt x.2) _ _;rw[et];exact⟨_,0,_,.inr (.inl rfl),rfl,rfl,hR'⟩
   ·simp;refine ht rs hrp ?_;rw[xI] at hs';exact hs'.imp λ{a b} h=>zf6 h
 have loop:∀(F:EndsD) (q0:List Qe),F.rt=R->q0=kJ o hs pl k->(1<=k->DOk d hs kd pl q0 [])->(k=0->q0=[]) ->
   Wl F [some (.dct [] []),some (wt d hs),some ((o.map vt).getD .non),some (vA b),some (vd kd),some (.int k),some (byN hs),some (xn pl),some (.own []),some (.int 0),some (.owT (ksQ d kd q0) (esQ q0)),none,none,none,none] n:=λF q0 hF hq0 h1 h0=>by
  subst hW;simp;refine⟨JDr d hs kd pl k n q0 _ _ _ _ _ _ _,⟨yI q0,rfl,q0,[],0,none,none,none,none,rfl,.start,xJ _,rfl⟩,?_⟩;rintro m rho n' ⟨rfl,q,acc,looks,z1,z2,z3,z4,rfl,hRe,hle,rfl⟩;have hD:1<=k->DOk d hs kd pl q acc:=λh=>hRe.dok hd1 hpl (h1 h)
  have okq:QOk d hs q:=by
   by_cases e:k=0
   ·subst e;obtain⟨_,e2,_⟩:=hRe.zero
    rw[e2,h0 rfl];exact⟨by simp,by simp[yZ],by simp[yZ]⟩
   ·exact(hD w5).ok
  have hlen:acc.length<=60:=by
   by_cases e:k=0
   ·lia
   ·have h2 := (hD w5).perm.length_eq
    have h3:(ZA pl hs).length<=hs.length:=wN ..;rw[zB] at h2;lia
  have kl:(ksQ d kd q).length=q.length:=zg ..;have told:acc.length=k\/q=[]->∀rs:List Qe,rs.Perm q->rs.Pairwise (LtQ d kd)->R (.tup [.tup (acc.map λt=>.int t.1),.int looks,XR rs]) n':=λh rs p1 p2=>hR looks q rs acc (hq0 ▸ hRe) h.symm hle p1 p2;simp;rw[kl]
  split
  ·rename_i hpos
   split
   ·rename_i hlt
    have D0:=hD w5
    have hlt':acc.length<k:=hlt;subst hB;simp
    refine⟨ksQ d kd q,_,⟨rfl,rfl⟩,ksQ d kd q,rfl,by rw[kl];exact hpos,λmk hmk hmin=>?_⟩
    obtain⟨⟨ts,tr⟩,hx,rfl⟩:=zi.mp hmk;have tt:TreeOf d ts tr:=okq.tree _ hx;have hat:atP (ksQ d kd q) (esQ q) (wI d kd ts)=some (vt tr):=Jz (f:=λx:Qe=>wI d kd x.1) (g:=λx=>vt x.2) hx (okq.keys kd);have hdk:Yv (ksQ d kd q) (wI d kd ts)=ksQ d kd (ZC (λy:Qe=>wI d kd y.1) q (wI d kd ts)):=zp4 ..;have hde:dropE (ksQ d kd q) (esQ q) (wI d kd ts)=esQ (ZC (λy:Qe=>wI d kd y.1) q (wI d kd ts)):=Kc ..;have hmin':∀y∈q,ltP (wI d kd y.1) (wI d kd ts)=false:=λy hy=>hmin _ (zi.mpr ⟨y,hy,rfl⟩);have hsz:yI ((ts,tr)::ZC (λy:Qe=>wI d kd y.1) q (wI d kd ts))=yI q:=qr (qE (f:=λy:Qe=>wI d kd y.1) hx (okq.keys kd))
    have hsz:kK tr+yI (ZC (λy:Qe=>wI d kd y.1) q (wI d kd ts))=yI q:=by rw[<- hsz];simp[yI]
    have leaf:∀t bd,ts=[t]->tr=.one t.1 bd->Reach d kd pl k q0 (looks+1) (ZC (λy:Qe=>wI d kd y.1) q (wI d kd ts)) (acc++[t]):=λt bd e e2=>by subst e e2;exact hRe.leaf hlt' hx hmin'
    have opR:∀ns bd lo hi ls us,tr=.two ns bd lo hi->(ls++us).Perm ts->TreeOf d ls lo->TreeOf d us hi->Reach d kd pl k q0 (looks+1) (ZC (λy:Qe=>wI d kd y.1) q (wI d kd ts)++wX pl [(ls,lo),(us,hi)]) acc:=λns bd lo hi ls us e a1 a2 a3=>by subst e;exact hRe.opn hlt' hx hmin' a1 a2 a3
    have opn:=fun(ls us:List Thing) (lo hi:Tr) h1 h2 h3=>D0.open (ls:=ls) (us:=us) (lo:=lo) (hi:=hi) hd1 hpl hx h1 h2 h3;refine⟨(wI d kd ts).1,(wI d kd ts).2,rfl,vt tr,hat,?_⟩;rw[show((wI d kd ts).1,(wI d kd ts).2)=wI d kd ts from rfl,hdk,hde];generalize ZC (λy:Qe=>wI d kd y.1) q (wI d kd ts)=q' at *
    cases tt with
    |@one t ht=>
     have D1:=leaf t _ rfl rfl
     have h6:acc.length<sizeLine:=lt_size w5
     simp[vt];rw[if_pos (show atK [] [] (Sum.inl t.1)=(none:Option D) from rfl)];have s1:kK (.one t.1 (qP d [t.2.1]))=1:=rfl
     exact⟨h6,yI q',w5,rfl,q',acc++[t],looks+1,_,_,_,_,rfl,D1,by rw[zB];simp;lia,by rw[zU];rfl⟩
    | @two ts ls us ns lo hi p hp hs1 t1 t2 =>
     obtain⟨D1,okB⟩:=opn ls us lo hi p t1 t2;have R1:=opR _ _ lo hi ls us rfl p t1 t2;have nl:=vh lo;have nh2:=vh hi
     have hns:ns.length=ts.length:=by rw[hp.length_eq,zg]
     have h2:1<ns.length:=by
      have:=t1.ne;have:=t2.ne;have:=p.length_eq;rw[zB] at this;lia
     simp[vt,nl,nh2]
     rw[if_pos w5]
     have okK:QOk d hs (q'++wX pl [(ls,lo),(us,hi)]):=D1.ok;have okT:QOk d hs [(ls,lo),(us,hi)]:=okB.sublist (wK ..);have s1:kK (.two ns (qP d (ts.map λt=>t.2.1)) lo hi)=1+kK lo+kK hi:=rfl;have s2:yI (wX pl [(ls,lo),(us,hi)])<=yI [(ls,lo),(us,hi)]:=Wq yN
     have s3:yI [(ls,lo),(us,hi)]=kK lo+kK hi:=by simp[yI]
     have hkk:=okK.keys kd
     have hlenK:(q'++wX pl [(ls,lo),(us,hi)]).length<=60:=by
      have h3:=okK.heads
      have h4:((q'++wX pl [(ls,lo),(us,hi)]).map λx=>yJ x.1).length<=(hs.map λt=>t.1).length:=h3.length_le_of_subset λa ha=>by
       obtain⟨x,hx,rfl⟩:=zi.mp ha;obtain⟨t,ht,e⟩:=vm (okK.tree x hx).ne;exact zi.mpr ⟨t,okK.sub t (vO.mpr ⟨x,hx,ht⟩),e⟩
      rw[zg,zg] at h4;lia
     have hash2:((ksQ d kd (wX pl [(ls,lo),(us,hi)])).map Wh).Nodup:=by
      have z:((ksQ d kd [(ls,lo),(us,hi)]).map Wh).Nodup:=by
       have hsub:∀t∈ls++us,t∈hs:=λt ht=>okT.sub t (by simpa [yZ] using ht)
       have hne:yJ ls≠yJ us:=by
        have:=okT.heads
        simpa using this
       have:=hH ls us (λt ht=>hsub t (xk _ ht)) (λt ht=>hsub t (zr _ ht)) t1.ne t2.ne hne
       simpa [ksQ] using this
      exact((List.filter_sublist.map _).map _).nodup z
     have ksA:ksQ d kd q'++ksQ d kd (wX pl [(ls,lo),(us,hi)])=ksQ d kd (q'++wX pl [(ls,lo),(us,hi)]):=by unfold ksQ;rw[zU]
     have esA:esQ q'++esQ (wX pl [(ls,lo),(us,hi)])=esQ (q'++wX pl [(ls,lo),(us,hi)]):=by unfold esQ;rw[zU]
     refine⟨_,_,⟨rfl,rfl⟩,d,hs,kd,pl,[(ls,lo),(us,hi)],rfl,hd1,hd2,hpl,okT,by simp,hn,hz,hk,?_⟩
     dsimp only;rw[ksA,esA]
     refine⟨hkk,yE ?_,λ_=>hash2,yI (q'++wX pl [(ls,lo),(us,hi)]),by rw[Zq];lia,rfl,_,acc,looks+1,_,_,_,_,rfl,R1,hle,rfl⟩
     have l1:(ksQ d kd q').length=q'.length:=zg ..;have l2:(ksQ d kd (wX pl [(ls,lo),(us,hi)])).length=(wX pl [(ls,lo),(us,hi)]).length:=zg ..;rw[l1,l2,<- zB];lia
   ·exact fin _ _ _ _ _ _ _ _ hF okq hlen (told (.inl w5))
  ·exact fin _ _ _ _ _ _ _ _ hF okq hlen (told (.inr (zX.mp w5)))
 simp[startD,nh,nb,no]
 refine⟨_,hs,rfl,hn,w5,⟨b,rfl,w5,?_⟩⟩
 rw[hpe];have kd0:∀(q:List Qe) (R':List (Int × Int)->List D->Nat->Prop),QOk d hs q->q.length<=2->R' (ksQ d kd (wX pl q)) (esQ (wX pl q)) n->WS [byN hs,.lst (esQ q),xn pl,vd kd] n R':=λq R' h1 h2 h3=>⟨d,hs,kd,pl,q,rfl,hd1,hd2,hpl,h1,h2,hn,hz,hk,h3⟩
 have none0:QOk d hs []:=⟨by simp,by simp[yZ],by simp[yZ]⟩
 cases o with
 |none=>
  simp
  exact kd0 [] _ none0 (by simp) (loop _ [] rfl rfl (λ_=>.none (ho1 rfl)) λ_=>rfl)
 | some tr =>
  have ni:qI (vt tr)=false:=by cases tr<;>rfl
  have nt:=vh tr;have tt:=ho2 tr rfl;simp[ni,nt]
  split
  ·rename_i h0
   exact kd0 [] _ none0 (by simp) (loop _ [] rfl (by simp[kJ,h0]) (λh=>by lia) λ_=>rfl)
  ·rename_i h0
   have ok1:QOk d hs [(hs,tr)]:=⟨λx hx=>by rw[zM.mp hx];exact tt,λt ht=>by simpa [yZ] using ht,by simpa [yZ] using hn⟩
   exact kd0 [(hs,tr)] _ ok1 (by simp) (loop _ _ rfl (by simp[kJ,h0]) (λ_=>.start hd1 hpl tt hn) λh=>absurd h h0)
abbrev KO:Stmt:=top 20
abbrev zS0:List Str:=["house","tree","box","kind","k"]
def zv1:FnScope zS0 q4 (xj KO):=⟨rfl,rfl,rfl,x6,rfl,x6,x6⟩
def WU:TF:=λds n R=>∃(d:Nat) (hs:List Thing) (o:Option Tr) (b:List VY) (kd:Option (List Int)) (k:Nat),ds=[wt d hs,(o.map vt).getD .non,vA b,vd kd,.int k]/\1<=d/\d<=1000/\b.length=d/\(hs.map λt=>t.1).Nodup/\hs.length<=60/\(∀p,kd=some p->p.length<=1000) /\
 (o=none->hs=[])/\(∀tr,o=some tr->TreeOf d hs tr)/\zt1 d kd hs/\∀(n':Nat) (q rs:List Qe) (acc:List Thing),Reach d kd (yB b) k (kJ o hs (yB b) k) n' q acc->(q=[]\/acc.length=k)->acc.length<=k->rs.Perm q->rs.Pairwise (LtQ d kd)->R (.tup [.tup (acc.map λt=>.int t.1),.int n',XR rs]) n
def zz1(F:Fun K "drawn" "drawn" KO f fd)(F_drawn_past:Fn P w K mg base "drawn_past" 7 6 KJ):FnOk P w K mg base CX0 8 f fd q4 (spD K 5 WU):=by
 refine Fun.okD F zv1 (λ_ _ _ s H E G Z hr=>(zZ (xY (wY F_drawn_past (hr.mono w6) rfl (zc zM4 (zc (zh 0) (zc (zh 1) (zc (zh 2) (zc (zh 3) (zc (zh 4) zm)))))))))) ?_
 rintro ds n R hl ⟨d,hs,o,b,kd,k,rfl,h⟩;have nh:=vP d hs;have nb:xZ (vA b)=true:=rfl
 have no:xZ ((o.map vt).getD .non)=true:=by cases o with |none=>rfl |some t=>exact vh t
 simp[startD,nh,nb,no];exact⟨d,hs,o,b,kd,k,rfl,h⟩
end
def Jl{a b:List Thing}(h:a.Perm b)(h1:1<=a.length):yJ a=yJ b:=by
 obtain⟨t,ht,e⟩:=vm h1
 obtain⟨u,hu,e2⟩:=vm (ts:=b) (by rw[<- h.length_eq];exact h1)
 have i1:=Zy (h.mem_iff.mpr hu);have i2:=Zy (h.mem_iff.mp ht);lia
def zm8{d:Nat}{kd:Option (List Int)}{a b:List Thing}(h:a.Perm b)(h1:1<=a.length):wI d kd a=wI d kd b:=by
 have i1:ZW d kd b<=ZW d kd a:=VC (λt ht=>h.mem_iff.mp ht) h1
 have i2:ZW d kd a<=ZW d kd b:=VC (λt ht=>h.mem_iff.mpr ht) (by rw[<- h.length_eq];exact h1)
 unfold wI
 rw[Jl h h1,show ZW d kd a=ZW d kd b by lia]
def ofN(hs:List Thing)(tr:Tr):List Thing:=hs.filter λt=>decide (t.1∈yD tr)
noncomputable def kT(d:Nat)(kd:Option (List Int))(hs:List Thing)(tr:Tr):Int × Int:=wI d kd (ofN hs tr)
def jg{hs:List Thing}(hn:(hs.map λt=>t.1).Nodup):hs.Nodup:=by
 rw[wc,xI] at hn;rw[wc];exact hn.imp λhne e=>hne (congrArg _ e)
def zu4{hs:List Thing}(hn:(hs.map λt=>t.1).Nodup){t u:Thing}(ht:t∈hs)(hu:u∈hs)(e:t.1=u.1):t=u:=by
 have h:=ZB ht hn;have h2:=ZB hu hn;rw[e,h2] at h;have h3:xF u=xF t:=zF h;obtain⟨a,p,w⟩:=t;obtain⟨b,q,v⟩:=u;unfold xF yG at h3;injection h3 with h3;injection h3 with x1 h3;injection h3 with x2 h3;injection h3 with x3 _;injection x1 with x1;injection x2 with x2;injection x3 with x3
 have x4:q=p:=by
  have inj:∀a b:List Int,a.map D.int=b.map D.int->a=b:=λa=>by
   induction a with
   |nil=>intro b h;cases b with |nil=>rfl |cons=>simp at h
   | cons x a ih =>
    intro b h
    cases b with
    |nil=>simp at h
    |cons y b=>
     simp only[zJ,List.cons.injEq,D.int.injEq] at h;rw[h.1,ih b h.2]
  exact inj q p x2
 have x1':b=a:=x1;have x3':v=w:=x3;rw[x1',x3',x4]
def TreeOf.ofN{d:Nat}{hs ts:List Thing}{tr:Tr}(h:TreeOf d ts tr)(hn:(hs.map λt=>t.1).Nodup)(hsub:∀t∈ts,t∈hs)(hnt:(ts.map λt=>t.1).Nodup):(ofN hs tr).Perm ts:=by
 refine(List.perm_ext_iff_of_nodup (List.filter_sublist.nodup (jg hn)) (jg hnt)).mpr λt=>?_;obtain⟨hp,_⟩:=h.names
 constructor
 ·intro ht;obtain⟨h1,h2⟩:=zx.mp ht;obtain⟨u,hu,e⟩:=zi.mp (hp.mem_iff.mp (of_decide_eq_true h2));rw[<- zu4 hn (hsub u hu) h1 e];exact hu
 ·intro ht;exact zx.mpr ⟨hsub t ht,xt (hp.mem_iff.mpr (zi.mpr ⟨t,ht,rfl⟩))⟩
def TreeOf.keyOf{d:Nat}{kd:Option (List Int)}{hs ts:List Thing}{tr:Tr}(h:TreeOf d ts tr)(hn:(hs.map λt=>t.1).Nodup)(hsub:∀t∈ts,t∈hs)(hnt:(ts.map λt=>t.1).Nodup):kT d kd hs tr=wI d kd ts:=by
 have p:=h.ofN hn hsub hnt
 exact zm8 p (by rw[p.length_eq];exact h.ne)
def kE(pl:List Pair):Tr->List Tr
 |.one x bd=>if yK bd pl=true then [] else [.one x bd]
 |.two ns bd l h=>if yK bd pl=true then [] else .two ns bd l h::(kE pl l++kE pl h)
noncomputable def vz(d:Nat)(kd:Option (List Int))(hs:List Thing)(pl:List Pair)(L:Int × Int):Tr->List Tr
 |.one x bd=>if yK bd pl=true then [] else if ltP L (kT d kd hs (.one x bd))=true then [.one x bd] else []
 |.two ns bd l h=>if yK bd pl=true then [] else if ltP L (kT d kd hs (.two ns bd l h))=true then [.two ns bd l h] else vz d kd hs pl L l++vz d kd hs pl L h
def Wv{pl:List Pair}{tr:Tr}(h:yK (jA tr) pl=true):kE pl tr=[]:=by
 cases tr<;>exact if_pos h
def Xz{d:Nat}{kd:Option (List Int)}{hs:List Thing}{L:Int × Int}{pl:List Pair}{tr:Tr}(h:yK (jA tr) pl=true):vz d kd hs pl L tr=[]:=by
 cases tr<;>(unfold vz;exact if_pos h)
def Jp{d:Nat}{kd:Option (List Int)}{hs:List Thing}{L:Int × Int}{pl:List Pair}{tr:Tr}(h:yK (jA tr) pl=false)(h2:ltP L (kT d kd hs tr)=true):vz d kd hs pl L tr=[tr]:=by
 have h':¬ yK (jA tr) pl=true:=by rw[h];simp
 cases tr with
 |one x bd=>unfold vz;exact(if_neg h').trans (if_pos h2)
 |two ns bd l hh=>unfold vz;exact(if_neg h').trans (if_pos h2)
theorem jk{α:Type}(f:Tr->List α){pl:List Pair}(hf:∀tr,yK (jA tr) pl=true->f tr=[]):∀q:List Qe,((wX pl q).flatMap λx=>f x.2)=q.flatMap λx=>f x.2
 |[]=>rfl
 | x :: q => by
  have ih:=jk f hf q;rw[wa]
  cases ha:yK (jA x.2) pl with
  |true=>
   have e:wX pl (x::q)=wX pl q:=by unfold wX;rw[xm (by simp[ha])]
   rw[e,ih,hf x.2 ha,we]
  |false=>
   have e:wX pl (x::q)=x::wX pl q:=by unfold wX;rw[xh (by simp[ha])]
   rw[e,wa,ih]
structure POk(d:Nat)(kd:Option (List Int))(hs:List Thing)(pl:List Pair)(k:Nat)(all:List Tr)(front:(Int × Int)->List Tr)(n:Nat)(q:List Qe)(acc:List Thing)(P:List Tr):Prop where
 len:P.length=n
 perm:(P++q.flatMap λx=>kE pl x.2).Perm all
 lo:∀p∈P,∀x∈q,ltP (wI d kd x.1) (kT d kd hs p)=false
 fin:acc.length=k->1<=k->∃t,acc.getLast?=some t/\(∀p∈P,ltP (wI d kd [t]) (kT d kd hs p)=false)/\∀x∈q,ltP (wI d kd [t]) (wI d kd x.1)=true
 frn:∀L,(∀p∈P,ltP L (kT d kd hs p)=false)->(q.flatMap λx=>vz d kd hs pl L x.2).Perm (front L)
def QOk.keyOf{d:Nat}{kd:Option (List Int)}{hs:List Thing}{q:List Qe}(h:QOk d hs q)(hn:(hs.map λt=>t.1).Nodup){x:Qe}(hx:x∈q):kT d kd hs x.2=wI d kd x.1:=by
 have hsl:x.1.Sublist (yZ q):=by
  clear h
  induction q with
  |nil=>simp at hx
  |cons y q ih=>
   rw[vn]
   rcases zj.mp hx with rfl |hx
   ·exact List.sublist_append_left ..
   ·exact(ih hx).trans (wK ..)
 exact(h.tree x hx).keyOf hn (λt ht=>h.sub t (hsl.mem ht)) ((hsl.map _).nodup h.nd)
def YG{d:Nat}{kd:Option (List Int)}{ls ts:List Thing}(h:∀t∈ls,t∈ts)(h1:1<=ls.length):ltP (wI d kd ls) (wI d kd ts)=false:=by
 cases e:ltP (wI d kd ls) (wI d kd ts) with
 |false=>rfl
 |true=>
  rw[kw] at e;have i1:ZW d kd ts<=ZW d kd ls:=VC h h1;obtain⟨t,ht,et⟩:=vm h1;have i2:yJ ts<=t.1:=Zy (h t ht);have e':ZW d kd ls<ZW d kd ts\/ZW d kd ls=ZW d kd ts/\yJ ls<yJ ts:=e;lia
def Reach.pok{d:Nat}{hs:List Thing}{kd:Option (List Int)}{pl:List Pair}{k n:Nat}{q0 q:List Qe}{acc:List Thing}(hd:1<=d)(hp:pl.length=d)(hn:(hs.map λt=>t.1).Nodup)(h0:DOk d hs kd pl q0 [])(h:Reach d kd pl k q0 n q acc) :
  ∃P,POk d kd hs pl k (q0.flatMap λx=>kE pl x.2) (λL=>q0.flatMap λx=>vz d kd hs pl L x.2) n q acc P:=by
 induction h with
 |start=>exact⟨[],rfl,by simp,by simp,λh1 h2=>by simp at h1;lia,λL _=>.refl _⟩
 | @leaf n q acc t bd hR hlt hx hm ih =>
  obtain⟨P,ok⟩:=ih;have D0:=hR.dok hd hp h0;have hk:=D0.ok.keyOf (kd:=kd) hn hx;have hpm:(([t],Tr.one t.1 bd)::ZC (λy:Qe=>wI d kd y.1) q (wI d kd [t])).Perm q:=qE (f:=λy:Qe=>wI d kd y.1) hx (D0.ok.keys kd);have okp:=D0.ok.perm hpm
  have hin:¬ yK bd pl=true:=by have:=D0.inb _ hx;show ¬ yK (jA (Tr.one t.1 bd)) pl=true;rw[this];simp
  generalize ZC (λy:Qe=>wI d kd y.1) q (wI d kd [t])=q' at *
  have hlast:∀x∈q',ltP (wI d kd [t]) (wI d kd x.1)=true:=λx hx'=>by
   refine Xn (hm x (hpm.mem_iff.mp (zk _ hx'))) ?_;have:=okp.heads;rw[zJ,xz] at this;exact λe=>this.1 (zi.mpr ⟨x,hx',e⟩)
  refine⟨P++[.one t.1 bd],by simp[ok.len],?_,λp hp' x hx'=>?_,λ_ _=>⟨t,by simp,λp hp'=>?_,hlast⟩,λL hL=>?_⟩
  ·refine List.Perm.trans ?_ ok.perm;rw[yz];refine List.Perm.append_left P ?_;refine List.Perm.trans ?_ (hpm.flatMap_right λx=>kE pl x.2);rw[wa,show kE pl ([t],Tr.one t.1 bd).2=[.one t.1 bd] from if_neg hin]
  ·rcases xf.mp hp' with hp' | hp'
   ·exact ok.lo p hp' x (hpm.mem_iff.mp (zk _ hx'))
   ·rw[zM.mp hp',show kT d kd hs (.one t.1 bd)=wI d kd [t] from hk];exact hm x (hpm.mem_iff.mp (zk _ hx'))
  ·rcases xf.mp hp' with hp' | hp'
   ·exact ok.lo p hp' _ hx
   ·rw[zM.mp hp',show kT d kd hs (.one t.1 bd)=wI d kd [t] from hk];exact qH _
  ·refine List.Perm.trans ?_ (ok.frn L λp hp' => hL p (xk _ hp'));refine List.Perm.trans ?_ (hpm.flatMap_right λx=>vz d kd hs pl L x.2)
   have e:vz d kd hs pl L (.one t.1 bd)=[]:=by
    unfold vz;rw[if_neg hin,if_neg]
    rw[hL (.one t.1 bd) (by simp)]
    simp
   rw[wa,show vz d kd hs pl L ([t],Tr.one t.1 bd).2=[] from e,we]
 | @opn n q acc ts ls us ns bd lo hi hR hlt hx hm h1 h2 h3 ih =>
  obtain⟨P,ok⟩:=ih;have D0:=hR.dok hd hp h0;have hk:=D0.ok.keyOf (kd:=kd) hn hx;have hpm:((ts,Tr.two ns bd lo hi)::ZC (λy:Qe=>wI d kd y.1) q (wI d kd ts)).Perm q:=qE (f:=λy:Qe=>wI d kd y.1) hx (D0.ok.keys kd)
  have hin:¬ yK bd pl=true:=by have:=D0.inb _ hx;show ¬ yK (jA (Tr.two ns bd lo hi)) pl=true;rw[this];simp
  generalize ZC (λy:Qe=>wI d kd y.1) q (wI d kd ts)=q' at *
  have sub:∀x∈wX pl [(ls,lo),(us,hi)],ltP (wI d kd x.1) (wI d kd ts)=false:=λx hx'=>by
   have:=(zx.mp hx').1;simp only[zj,zS,or_false] at this
   rcases this with rfl |rfl
   ·exact YG (λt ht=>h1.mem_iff.mp (xk _ ht)) h2.ne
   ·exact YG (λt ht=>h1.mem_iff.mp (zr _ ht)) h3.ne
  refine⟨P++[.two ns bd lo hi],by simp[ok.len],?_,λp hp' x hx'=>?_,λh _=>by lia,λL hL=>?_⟩
  ·refine List.Perm.trans ?_ ok.perm;rw[yz];refine List.Perm.append_left P ?_;refine List.Perm.trans ?_ (hpm.flatMap_right λx=>kE pl x.2);have e:kE pl (.two ns bd lo hi)=.two ns bd lo hi::(kE pl lo++kE pl hi):=if_neg hin;rw[wa,List.flatMap_append,jk _ (λtr=>Wv),show kE pl (ts,Tr.two ns bd lo hi).2=_ from e];simp only[wa,List.flatMap_nil,wM,List.cons_append,List.singleton_append];rw[we];exact List.Perm.cons _ List.perm_append_comm
  ·rcases xf.mp hp' with hp' | hp'
   ·rcases xf.mp hx' with hx' | hx'
    ·exact ok.lo p hp' x (hpm.mem_iff.mp (zk _ hx'))
    ·exact UN (ok.lo p hp' _ hx) (sub x hx')
   ·rw [zM.mp hp', show kT d kd hs (.two ns bd lo hi) = wI d kd ts from hk]
    rcases xf.mp hx' with hx' |hx'
    ·exact hm x (hpm.mem_iff.mp (zk _ hx'))
    ·exact sub x hx'
  ·refine List.Perm.trans ?_ (ok.frn L λp hp' => hL p (xk _ hp'));refine List.Perm.trans ?_ (hpm.flatMap_right λx=>vz d kd hs pl L x.2)
   have e:vz d kd hs pl L (.two ns bd lo hi)=vz d kd hs pl L lo++vz d kd hs pl L hi:=by
    conv=>lhs;unfold vz
    rw[if_neg hin,if_neg]
    rw[hL (.two ns bd lo hi) (by simp)]
    simp
   rw[wa,List.flatMap_append,jk _ (λtr=>Xz),show vz d kd hs pl L (ts,Tr.two ns bd lo hi).2=_ from e];simp only[wa,List.flatMap_nil,wM];exact List.perm_append_comm
def TreeOf.openK{d:Nat}{kd:Option (List Int)}{hs:List Thing}{pl:List Pair}(hn:(hs.map λt=>t.1).Nodup){ts:List Thing}{tr:Tr}(h:TreeOf d ts tr):(∀t∈ts,t∈hs)->(ts.map λt=>t.1).Nodup->∀y∈kE pl tr,ltP (kT d kd hs y) (wI d kd ts)=false:=by
 induction h with
 |@one t hl=>
  intro hsub hnt y hy;unfold kE at hy
  split at hy
  ·simp at hy
  ·rw[zM.mp hy,(TreeOf.one hl).keyOf hn hsub hnt];exact qH _
 | @two ts ls us ns lo hi p hp hs1 t1 t2 ih1 ih2 =>
  intro hsub hnt y hy;have hnp:((ls++us).map λt=>t.1).Nodup:=(p.map _).nodup_iff.mpr hnt;rw[zU,wG] at hnp;unfold kE at hy
  split at hy
  ·simp at hy
  ·rcases zj.mp hy with rfl | hy
   ·rw[(TreeOf.two p hp hs1 t1 t2).keyOf hn hsub hnt];exact qH _
   ·rcases xf.mp hy with hy | hy
    ·exact UN (YG (λt ht=>p.mem_iff.mp (xk _ ht)) t1.ne) (ih1 (λt ht=>hsub t (p.mem_iff.mp (xk _ ht))) hnp.1 y hy)
    ·exact UN (YG (λt ht=>p.mem_iff.mp (zr _ ht)) t2.ne) (ih2 (λt ht=>hsub t (p.mem_iff.mp (zr _ ht))) hnp.2.1 y hy)
def QOk.sub1{d:Nat}{hs:List Thing}{q:List Qe}(h:QOk d hs q){x:Qe}(hx:x∈q):(∀t∈x.1,t∈hs)/\(x.1.map λt=>t.1).Nodup:=by
 have hsl:x.1.Sublist (yZ q):=by
  clear h
  induction q with
  |nil=>simp at hx
  |cons y q ih=>
   rw[vn]
   rcases zj.mp hx with rfl |hx
   ·exact List.sublist_append_left ..
   ·exact(ih hx).trans (wK ..)
 exact⟨λt ht=>h.sub t (hsl.mem ht),(hsl.map _).nodup h.nd⟩
section
variable {d:Nat}{kd:Option (List Int)}{hs:List Thing}{pl:List Pair}{k n:Nat}{all:List Tr}{front:(Int × Int)->List Tr}{q:List Qe}{acc:List Thing}{P:List Tr}
def POk.looks0(h:POk d kd hs pl k all front n [] acc P):n=all.length:=by
 have:=h.perm.length_eq;rw[<- this,<- h.len];simp
def POk.looks1(hn:(hs.map λt=>t.1).Nodup)(ok:QOk d hs q)(h:POk d kd hs pl k all front n q acc P){t:Thing}(h1:∀p∈P,ltP (wI d kd [t]) (kT d kd hs p)=false)(h2:∀x∈q,ltP (wI d kd [t]) (wI d kd x.1)=true) :
  n=(all.filter λy=>!ltP (wI d kd [t]) (kT d kd hs y)).length:=by
 have e:=(h.perm.filter λy=>!ltP (wI d kd [t]) (kT d kd hs y)).length_eq
 rw[<- e,yX,zB,List.filter_eq_self.mpr λp hp=>by rw[h1 p hp];rfl,h.len]
 have z:((q.flatMap λx=>kE pl x.2).filter λy=>!ltP (wI d kd [t]) (kT d kd hs y))=[]:=List.filter_eq_nil_iff.mpr λy hy=>by
  obtain⟨x,hx,hy⟩:=List.mem_flatMap.mp hy;obtain⟨s1,s2⟩:=ok.sub1 hx;have i1:=(ok.tree x hx).openK (kd:=kd) (pl:=pl) hn s1 s2 y hy;have i2:=h2 x hx
  have i3:ltP (wI d kd [t]) (kT d kd hs y)=true:=by
   rw[kw] at i2 ⊢
   have i4:¬ ((kT d kd hs y).1<(wI d kd x.1).1\/((kT d kd hs y).1=(wI d kd x.1).1/\(kT d kd hs y).2<(wI d kd x.1).2)):=λz=>by rw[<- kw,i1] at z;cases z
   lia
  rw[i3];simp
 rw[z];simp
def POk.waits(hn:(hs.map λt=>t.1).Nodup)(D0:DOk d hs kd pl q acc)(h:POk d kd hs pl k all front n q acc P){t:Thing}(h1:∀p∈P,ltP (wI d kd [t]) (kT d kd hs p)=false)(h2:∀x∈q,ltP (wI d kd [t]) (wI d kd x.1)=true):(q.map λx=>x.2).Perm (front (wI d kd [t])):=by
 refine List.Perm.trans ?_ (h.frn _ h1)
 have e:∀l:List Qe,(∀x∈l,x∈q)->(l.map λx=>x.2)=l.flatMap λx=>vz d kd hs pl (wI d kd [t]) x.2:=λl=>by
  induction l with
  |nil=>intro _;rfl
  |cons x l ih=>
   intro hl
   rw[zJ,wa,ih λy hy=>hl y (zk _ hy),Jp (D0.inb x (hl x (by simp))) (by rw[D0.ok.keyOf hn (hl x (by simp))];exact h2 x (hl x (by simp)))]
   rfl
 rw[e q λx hx=>hx]
end
def belowP(p:Pair)(hi:Int):Bool:=match p.1 with |none=>false |some l=>decide (hi<l)
def QK(p:Pair)(lo:Int):Bool:=match p.2 with |none=>false |some g=>decide (g<lo)
def zF3(lo hi:Int)(q:Pair)(s:Nat):Bool:=if q=kU then true else if s=0 then belowP q hi else QK q lo
def zM6(bd pl:List Pair)(i s:Nat):Bool:=match bd[i]?,pl[i]? with
 |some (some a,some b),some q=>zF3 a b q s
 |_,_=>false
def zy4(bd pl:List Pair)(k:Nat):Bool:=zM6 bd pl (k/2) (k%2)
def JM(bd:List Pair):Prop:=∀(i:Nat) (b:Pair),bd[i]?=some b->∃lo hi:Int,b=(some lo,some hi)/\lo<=hi
def Vo{bd pl:List Pair}{i s:Nat}{lo hi:Int}{q:Pair}(h1:bd[i]?=some (some lo,some hi))(h2:pl[i]?=some q):zM6 bd pl i s=zF3 lo hi q s:=by unfold zM6;rw[h1,h2]
def Zr{pl:List Pair}(hs:yF pl=pl){i:Nat}{q:Pair}(h:pl[i]?=some q)(hc:crossedT q=true):q=kU:=by
 have ha:pl.any crossedT=true:=XQ.mpr ⟨i,q,h,hc⟩;rw[kg ha] at hs;rw[<- hs,xg] at h
 split at h
 ·exact(zF h).symm
 ·cases h
def XG{lo hi:Int}(hlh:lo<=hi){q:Pair}(hq:crossedT q=true->q=kU):crossedT (commonP (some lo,some hi) q)=true↔∃s:Nat,s<2/\zF3 lo hi q s=true:=by
 by_cases he:q=kU
 ·subst he
  refine⟨λ_=>⟨0,w6,by simp[zF3]⟩,λ_=>Wm _⟩
 ·have hq' : crossedT q = false := by
   cases h:crossedT q with
   |false=>rfl
   |true=>exact absurd (hq h) he
  have e:∀s:Nat,zF3 lo hi q s=if s=0 then belowP q hi else QK q lo:=λs=>by unfold zF3;rw[if_neg he]
  have e2:(∃s:Nat,s<2/\zF3 lo hi q s=true)↔(belowP q hi=true\/QK q lo=true):=by
   constructor
   ·rintro ⟨s, hs, h⟩;rw[e] at h
    split at h
    ·exact .inl h
    ·exact .inr h
   ·rintro (h | h)
    ·exact⟨0,w6,by rw[e];exact h⟩
    ·exact⟨1,w6,by rw[e];exact h⟩
  rw[e2];obtain⟨a,b⟩:=q
  rcases a with _ |a<;>rcases b with _ |b<;>simp[commonP,maxO,minO,crossedT,belowP,QK] at hq' ⊢<;>(try split)<;>(try split)<;>lia
def zs4{bd pl:List Pair}(hl:bd.length=pl.length)(h1:1<=bd.length)(hE:JM bd)(hs:yF pl=pl):yK bd pl=true↔∃k,k<2*pl.length/\zy4 bd pl k=true:=by
 rw[XO hl h1,XQ]
 constructor
 ·rintro ⟨i, c, hc, hx⟩;obtain⟨b,q,hb,hq,rfl⟩:=zd2 hc;obtain⟨lo,hi,rfl,hlh⟩:=hE i b hb;obtain⟨s,hs2,ho⟩:=(XG hlh (Zr hs hq)).mp hx;have hi':=(zq.mp hq).1
  refine⟨2*i+s,w5,?_⟩
  have e1:(2*i+s)/2=i:=w5
  have e2:(2*i+s)%2=s:=w5
  unfold zy4;rw[e1,e2,Vo hb hq];exact ho
 ·rintro ⟨k, hk, ho⟩
  have hi1:k/2<pl.length:=w5
  have hb:bd[k/2]?=some bd[k/2]:=zf w5
  have hq:pl[k/2]?=some pl[k/2]:=zf hi1;obtain⟨lo,hi,eb,hlh⟩:=hE _ _ hb;rw[eb] at hb;unfold zy4 at ho;rw[Vo hb hq] at ho
  exact⟨k/2,_,WL hb hq,(XG hlh (Zr hs hq)).mpr ⟨k%2,w5,ho⟩⟩
def zs6{bd pl:List Pair}(hl:bd.length=pl.length)(h1:1<=bd.length)(hE:JM bd)(hs:yF pl=pl):((List.range (2*pl.length)).map (zy4 bd pl)).any id=yK bd pl:=by
 rw[wf,zs4 hl h1 hE hs,yP]
 constructor
 ·rintro⟨b,hb,e⟩;obtain⟨k,hk,rfl⟩:=zi.mp hb;exact⟨k,ye.mp hk,e⟩
 ·rintro⟨k,hk,e⟩;exact⟨_,zi.mpr ⟨k,ye.mpr hk,rfl⟩,e⟩
def QD{d:Nat}{ts:List Thing}(h:1<=ts.length):JM (qP d (ts.map λt=>t.2.1)):=λi b hb=>by
 have hi:i<d:=by have:=(zq.mp hb).1;rw[kC] at this;exact this
 rw[zH9 ts hi] at hb;exact⟨_,_,(zF hb).symm,zO7 h⟩
def xy5:Option Tr->D
 |none=>.non
 |some t=>vt t
@[simp] theorem xl4(t:Option Tr):xZ (xy5 t)=true:=by
 cases t with
 |none=>rfl
 |some t=>exact vh t
def YF{ps:List Pair}{i:Nat}{q:Pair}{R:D->Prop}(h:ps[i]?=some q)(hR:R (xV q)):Yp (xn ps) (.int i) R:=by
 unfold xn;rw[zg5]
 exact⟨_,qh (by rw[zA,h];rfl),hR⟩
structure JPn(b:List VY)(n i:Nat)(rho:Rho)(m:Nat):Prop where
 e:m=n
 u:∀(k:Nat) s,k<i->b[k]?=some s->crossedT (Zb s)=false
 r:∃(x y z u:Option D),rho=[some (vA b),some (.own (((b.take i).map Zb).map xV)),x,y,z,u]
def WN{α β:Type}{f:α->β}{xs:List α}{i:Nat}{x:α}(h:xs[i]?=some x):(xs.take (i+1)).map f=(xs.take i).map f++[f x]:=by
 rw[xG,h];simp
section
variable {P:Program}{w:World}{K:W.Frag}{mg:Str->Option Value}{base:Heap}{f:Addr}{fd:FuncData}
abbrev qX:Stmt:=top 31
abbrev KB:List Str:=["_law_box_here","_law_pairs","_law_low","_law_high","_law_least","_law_greatest"]
def vD:FnScope KB ["_law_box_here"] (xj qX):=⟨rfl,rfl,rfl,x6,rfl,x6,x6⟩
def WQ:TF:=λds n Q=>∃b:List VY,ds=[vA b]/\1<=b.length/\b.length<=900/\Q (xn (yB b)) n
def zj6(T:Blt mg)(F:Fun K "_law_plain" "_law_plain" qX f fd):FnOk P w K mg base CX0 1 f fd ["_law_box_here"] (spD K 1 WQ):=by
 refine Fun.okD F vD (λ_ _ _ s H E G Z hr=>(zE (Vk (i:=1) vD.nd rfl (lo rfl) zm)
  (zE (jb (m:=6) PassesOwn.never rfl (vJ rfl (zh 0)) (vY (k:=2) rfl rfl (xR (xo (i:=2) vD.nd rfl (lo rfl) w6) (xR (xo (i:=3) vD.nd rfl (lo rfl) w6) vy)))
  (zE (yj (i:=4) vD.nd rfl (lo rfl) (KZ (wB qj qi (zh 2) vg (wT _)) vg (kc (wC xB wA (zh 2) zu (λ_ _=>rfl)) (yW XI Ju T.int zr8 (zc (zF1 (wC xB wA (zh 2) zu (λ_ _=>rfl))) zm)))))
  (zE (yj (i:=5) vD.nd rfl (lo rfl) (KZ (wB qj qi (zh 3) vg (wT _)) vg (jc (wC xB wA (zh 3) zu (λ_ _=>rfl)) (yW XI Ju T.int zr8 (zc (zF1 (wC xB wA (zh 3) zu (λ_ _=>rfl))) zm)))))
  (zE (vH (PWD.pt (qB (wB ZT ZP (zh 4) vg (wT _)) (qB (wB ZT ZP (zh 5) vg (wT _)) (qA (wB XY XU (zh 4) (zh 5) (wT _)))))) (zZ (xY (XW zM7 zJ8 (vf (zc (vf (zc zu (zc zu zm))) zm)) (wm wV qo T.len kW (zc (zh 0) zm))))) yS)
  (zZ (kj (i:=1) (zc (vf (zc (zh 4) (zc (zh 5) zm))) zm) rfl))))))
  (zZ (Za 1 (xY (yW wS vF T.tuple vG (zc (zh 1) zm)))))))) ?_
 generalize hS2:XT (sIf _ _ _) _=S2;generalize hS1:XT (JU 5 _) _=S1;rintro ds n Q hl ⟨b,rfl,hb1,hb2,q⟩;have nb:xZ (vA b)=true:=id rfl;simp[startD,nb]
 refine⟨b.map qg,.inr rfl,JPn b n,⟨rfl,λk s hk=>by lia,_,_,_,_,rfl⟩,?_,?_⟩
 ·rintro i d rho m e ⟨rfl, hu, x, y, z, u, rfl⟩;rw[zA] at e
  cases h:b[i]? with
  |none=>rw[h] at e;cases e
  | some s =>
   rw[h] at e;cases e;have hi:i<b.length:=(zq.mp h).1
   have hlen:(((b.take i).map Zb).map xV).length<sizeLine:=by
    rw[zg,zg,yc]
    exact lt_size w5
   have key:∀x y z u:Option D,crossedT (Zb s)=false->JPn b m (i+1) [some (vA b),some (.own (((b.take i).map Zb).map xV++[xV (Zb s)])),x,y,z,u] m:=λx y z u hc=>by
    refine⟨rfl,λk s' hk e=>?_,x,y,z,u,?_⟩
    ·by_cases hki : k = i
     ·subst hki;rw[h] at e;cases e;exact hc
     ·exact hu k s' w5 e
    ·rw[WN h,zU];rfl
   have bad:crossedT (Zb s)=true->Q (.tup (replicate b.length (.tup [.int 1,.int 0]))) m:=λhc=>by
    have ha:(b.map Zb).any crossedT=true:=yP.mpr ⟨_,zi.mpr ⟨s,zN h,rfl⟩,hc⟩;unfold yB at q;rw[kg ha,zg] at q;unfold xn at q;rw[List.map_replicate] at q;exact q
   have rep:∀R:D->Prop,R (.tup (replicate b.length (.tup [.int 1,.int 0])))->zG2 [vA b] λd2=>zg3 (.tup [.tup [.int 1,.int 0]]) d2 R:=λR hR=>by
    refine KS.mpr (zw4.mpr ⟨by simp,by rw[zg];lia,?_,?_⟩)
    ·rw[zg];exact yE (by simp;lia)
    ·rw [zg]
     have:((replicate ((b.length:Int).toNat) [D.tup [.int 1,.int 0]]).flatten)=replicate b.length (.tup [.int 1,.int 0]):=by
      rw[yA,List.flatten_replicate_singleton]
     rw[this];exact hR
   clear q hl;generalize ((b.take i).map Zb).map xV=acc at hlen key ⊢
   have run2:∀(F:EndsD) (x y:Option D) (l g:Option Int),F.nx=JPn b m (i+1)->F.rt=Q->Zb s=(l,g)->S2 F [some (vA b),some (.own acc),x,y,some (Wj l),some (Wj g)] m:=λF x y l g h1 h2 h3=>by
    subst hS2;rw[h3] at key bad
    rcases l with _ |l
    ·have ng : xZ (Wj g) = true := by cases g <;> rfl
     simp[nb,h1,ng];exact⟨hlen,key _ _ _ _ rfl⟩
    ·rcases g with _ | g
     ·simp[nb,h1];exact⟨hlen,key _ _ _ _ rfl⟩
     ·simp [nb, h1, h2]
      split
      ·rename_i hh;exact rep _ (bad (xt hh))
      ·rename_i hh;exact⟨hlen,key _ _ _ _ (zW hh)⟩
   have run1:∀(F:EndsD) (x u:Option D) (l:Option Int),F.nx=JPn b m (i+1)->F.rt=Q->UQ s.1=l->S1 F [some (vA b),some (.own acc),x,some (kR s.2),some (Wj l),u] m:=λF x u l h1 h2 h3=>by
    subst hS1
    have r2:=fun(g:Option Int) (e:Qo s.2=g)=>run2 F x (some (kR s.2)) l g h1 h2 (by unfold Zb;rw[h3,e])
    generalize s.2=t at r2 ⊢
    rcases t with _ |⟨c,s2⟩
    ·simp;exact r2 _ rfl
    ·cases s2<;>(simp;exact r2 _ rfl)
   have r1:=fun(F:EndsD) (x u:Option D) (l:Option Int) h1 h2 (e:UQ s.1=l)=>run1 F x u l h1 h2 e;have nt:=Xe s.2;unfold qg;generalize s.1=t at r1 ⊢;generalize kR s.2=eh at nt r1 ⊢;clear run1 run2 key bad rep
   rcases t with _ |⟨a,s1⟩
   ·simp[nb,nt];exact r1 _ _ _ _ rfl rfl rfl
   ·cases s1<;>(simp[nb,nt];exact r1 _ _ _ _ rfl rfl rfl)
 ·rintro rho m ⟨rfl, hu, x, y, z, u, rfl⟩;rw[zg,wy]
  have ha:¬ (b.map Zb).any crossedT=true:=λhc=>by
   obtain⟨k,p,e,hp⟩:=XQ.mp hc;rw[zA] at e
   cases h:b[k]? with
   |none=>rw[h] at e;cases e
   |some s=>
    rw[h] at e;cases e
    rw[hu k s (by rw[zg];exact(zq.mp h).1) h] at hp
    cases hp
  unfold yB at q;rw[vQ ha] at q;unfold xn at q;rw[zR] at q;simp;exact q
abbrev qy:Stmt:=top 32
abbrev VW:List Str:=["_law_edges","_law_plain_here","_law_i","_law_side","_law_end"]
def jG:FnScope VW q11 (xj qy):=⟨rfl,rfl,rfl,x6,rfl,x6,x6⟩
def YA:TF:=λds n Q=>∃(bd pl:List Pair) (k:Nat),ds=[xn bd,xn pl,.int ((k/2:Nat):Int),.int ((k%2:Nat):Int)]/\bd.length=pl.length/\k<2*pl.length/\JM bd/\Q (.bl (zy4 bd pl k)) n
def zk1(F:Fun K "_law_beyond" "_law_beyond" qy f fd):FnOk P w K mg base CX0 1 f fd q11 (spD K 4 YA):=by
  refine Fun.okD F jG (λ_ _ _ s H E G Z hr=>(zE (yj (i:=4) jG.nd rfl (lo rfl) (wC xB wA (wC xB wA (zh 1) (zh 2) (λ_ _=>rfl)) (zh 3) (λ_ _=>rfl)))
    (zE (vH (wB (zj2 hr) (zg1 rfl) (wC xB wA (zh 1) (zh 2) (λ_ _=>rfl)) (vf (zc zu (zc zu zm))) (wT _)) (zZ (xY XX)) yS)
    (zE (vH (wB qj qi (zh 4) vg (wT _)) (zZ (xY XX)) yS)
    (zZ (xY (wC xB wA (vN (zc (Yn zM8 zJ9 (wC xB wA (wC xB wA (zh 0) (zh 2) (λ_ _=>rfl)) zu (λ_ _=>rfl)) (zh 4) (wT _)) (zc (Yn XY XU (wC xB wA (wC xB wA (zh 0) (zh 2) (λ_ _=>rfl)) zu (λ_ _=>rfl)) (zh 4) (wT _)) zm))) (zh 3) (λ_ _=>rfl)))))))) ?_
  rintro ds n Q hl ⟨bd,pl,k,rfl,hlen,hk,hE,q⟩
  have hq:pl[k/2]?=some pl[k/2]:=zf w5
  have hb:bd[k/2]?=some bd[k/2]:=zf w5
  obtain⟨lo,hi,eb,_⟩:=hE _ _ hb;rw[eb] at hb;generalize pl[k/2]=pq at hq;have e1:(D.tup [.int 1,.int 0])=xV kU:=rfl
  have hs:k%2=0\/k%2=1:=w5
  unfold zy4 at q;rw[Vo hb hq] at q;generalize k/2=i at hb hq q ⊢;generalize k%2=s at hs q ⊢;clear hk eb hl;have ok1:=Qh pq 19;have ok2:=Qh kU 19;have ee:=zB8 pq kU;rw[<- e1] at ok2 ee;unfold zF3 at q;simp[startD];refine YF hq ?_;obtain⟨a,b⟩:=pq
  rcases hs with rfl |rfl <;> rcases a with _ |a <;> rcases b with _ |b <;>
    (simp [xV]
     refine YF hq ?_;simp[ok1,ok2,ee]
     split
     · rename_i h
       rw[if_pos h] at q;exact q
     · rename_i h
       rw[if_neg h] at q
       first
         |exact q
         | (refine YF hb ?_
            simp[xV];refine YF hb ?_;simp[xV]
            exact q))
def Kt{bd pl:List Pair}{k n:Nat}{Q:D->Nat->Prop}(hl:bd.length=pl.length)(hk:k<2*pl.length)(hE:JM bd)(q:Q (.bl (zy4 bd pl k)) n):YA [xn bd,xn pl,.int ((k/2:Nat):Int),.int ((k%2:Nat):Int)] n Q:=⟨bd,pl,k,rfl,hl,hk,hE,q⟩
def zi9{pl:List Pair}{k:D->Prop}(h:k (.int (pl.length:Int))):zG2 [xn pl] k:=by unfold xn;rw[KS,zg];exact h
abbrev qZ:Stmt:=top 33
abbrev jv:List Str:=["_law_edges","_law_plain_here"]
def Vb:FnScope jv q5 (xj qZ):=⟨rfl,rfl,rfl,x6,rfl,x6,x6⟩
def Xl:("_law_k" :: jv:List Str).Nodup:=x6
def Yz:TF:=λds n Q=>∃bd pl:List Pair,ds=[xn bd,xn pl]/\bd.length=pl.length/\1<=bd.length/\pl.length<=400/\JM bd/\yF pl=pl/\Q (.bl (yK bd pl)) n
def zj8(T:Blt mg)(F:Fun K "_law_apart" "_law_apart" qZ f fd)(Y_beyond:Fn P w K mg base "_law_beyond" 1 4 YA):FnOk P w K mg base CX0 2 f fd q5 (spD K 2 Yz):=by
 refine Fun.okD F Vb (λ_ _ _ s H E G Z hr=>(zZ (xY (wm (QB rfl) zH4 T.any zH7 (zc (vK (own:=["_law_k"]) (M:=jv) (vW (by rfl)) rfl (qC T.range (zc (Zt zu (wm wV qo T.len kW (zc (zh 1) zm))) zm)) (λ_ _ _ _=>(xo (i:=0) Xl rfl (lo rfl) w6)) (λ_ _ _ _=>ve) (λ_ _ _ _=>(wY Y_beyond (hr.mono w6) rfl (zc (zh 1) (zc (zh 2) (zc (Qd (zh 0) zu) (zc (jH (zh 0) zu) zm))))))) zm))))) ?_
 rintro ds n Q hl ⟨bd,pl,rfl,hlen,h1,hz,hE,hs,q⟩;simp[startD];refine zi9 ?_;simp
 have e:(2*(pl.length:Int)).toNat=2*pl.length:=w5
 refine⟨.inl ⟨w6,w6⟩,w5,w5,?_⟩
 rw[e,zv5]
 refine yY (λi:Nat=>D.int (i:Int)) (λk=>.bl (zy4 bd pl k)) (List.range (2*pl.length)) (by rw[length_range];exact yE w5) (λk hk R hR=>?_) ?_
 ·have hk' := ye.mp hk;simp
  exact⟨⟨w6,w6⟩,Kt hlen hk' hE hR⟩
 ·refine ⟨(List.range (2 * pl.length)).map (zy4 bd pl), by rw [zR]; rfl, ?_⟩
  rw[zs6 hlen h1 hE hs];exact q
abbrev jV:Stmt:=top 36
abbrev JJ:List Str:=["_law_found","_law_due"]
def Uo:FnScope JJ q6 (xj jV):=⟨rfl,rfl,rfl,x6,rfl,x6,x6⟩
def KH:TF:=λds n Q=>∃a:D,ds=[a,a]/\xZ a=true/\okE a 20=true/\xl3 a/\Q (.bl true) n
def zy7(T:Blt mg)(T3:Blt3 mg)(F:Fun K "_law_same" "_law_same" jV f fd):FnOk P w K mg base CX0 1 f fd q6 (spD K 2 KH):=by
 refine Fun.okD F Uo (λ_ _ _ s H E G Z hr=>(zZ (xY (zi7 (Yn (zj2 hr) (zg1 rfl) (zh 0) (zh 1) (wT _)) (zF0 (Yn (zj2 hr) (zg1 rfl) (wm (WJ hr) (Qt rfl) T3.repr zr6 (zc (zh 0) zm)) (wm (WJ hr) (Qt rfl) T3.repr zr6 (zc (zh 1) zm)) (wT _))))))) ?_;rintro ds n Q hl ⟨a,rfl,na,ok1,okr,q⟩;have es:eqD a a=true:=VI ok1;have ok2:∀x:Str,okE (.str x) 20=true:=λx=>rfl;have es2:∀x:Str,eqD (.str x) (.str x)=true:=λx=>VI (ok2 x);simp[startD,na,ok1,es,okr,ok2,es2];exact q
end
theorem zn7(x:Int):∀ns:List Int,inD (.int x) (ns.map D.int)=decide (x∈ns)
 |[]=>by simp[inD]
 |y::ns=>by
  have ih:=zn7 x ns;unfold inD at ih ⊢;rw[zJ,yC,ih]
  by_cases e:x=y
  ·subst e;simp[eqD]
  ·have e2:¬ y=x:=λz=>e z.symm;simp[eqD,e,e2]
def zD4(ns:List Int):(ns.map D.int).all XB=true:=by
 rw[wQ];intro d hd;obtain⟨x,_,rfl⟩:=zi.mp hd;rfl
def zO0{l:List Thing}(h:1<=l.length):zd1 (l.map λt=>0-t.2.2)=- Vx (l.map λt=>t.2.2):=by
 obtain⟨h1,h2⟩:=kn (vV (ns:=l.map λt=>t.2.2) (by rw[zg];exact h))
 obtain⟨u,hu,e⟩:=zi.mp h1
 refine(Vv (zi.mpr ⟨u,hu,by rw[<- e];lia⟩) λy hy=>?_).symm
 obtain⟨t,ht,rfl⟩:=zi.mp hy;have:=h2 t.2.2 (zi.mpr ⟨t,ht,rfl⟩);lia
def xe9(k:Int × Int):D:=.tup [.int k.1,.int k.2]
@[simp] theorem xl5(k:Int × Int):xZ (xe9 k)=true:=id rfl
theorem Vp(pl:List Pair):∀t:Tr,(kE pl t).length<=kK t
 |.one x bd=>by unfold kE kK;split<;>simp
 |.two ns bd l h=>by
  have:=Vp pl l;have:=Vp pl h;unfold kE kK
  split
  ·simp
  ·rw[zG,zB];lia
section
variable {P:Program}{w:World}{K:W.Frag}{mg:Str->Option Value}{base:Heap}{f:Addr}{fd:FuncData}
abbrev qW:Stmt:=top 34
abbrev jq:List Str:=["_law_edges","_law_place"]
def Va:FnScope jq q7 (xj qW):=⟨rfl,rfl,rfl,x6,rfl,x6,x6⟩
def kM:("_law_low" :: "_law_high" :: "_law_number_here" :: jq:List Str).Nodup:=x6
def WP:TF:=λds n Q=>∃(dd:D) (pl:List Int) (bd:List (Int × Int)),ds=[dd,yG pl]/\(dd=xn (bd.map KF)\/dd=.lst ((bd.map KF).map xV))/\pl.length<=1000/\Q (.int (kI bd pl)) n
def zj5(T:Blt mg)(T2:Blt2 mg)(F:Fun K "_law_steps" "_law_steps" qW f fd):FnOk P w K mg base CX0 1 f fd q7 (spD K 2 WP):=by
 refine Fun.okD F Va (λ_ _ _ s H E G Z hr=>(zZ (xY (wm (QA rfl) zH3 T2.sum zH6 (zc (vK (own:=["_law_low","_law_high","_law_number_here"]) (M:=jq) (vW (by rfl)) rfl (KY rfl T.zip (zc (zh 0) (zc (zh 1) zm))) (λ_ _ _ _=>(vY (k:=2) rfl rfl (xR (vY (k:=2) rfl rfl (xR (xo (i:=0) kM rfl (lo rfl) w6) (xR (xo (i:=1) kM rfl (lo rfl) w6) vy))) (xR (xo (i:=2) kM rfl (lo rfl) w6) vy)))) (λ_ _ _ _=>ve) (λ_ _ _ _=>(wm (Kk rfl) zq5 T.max WK (zc zu (zc (jc (zh 0) (zh 2)) (zc (jc (zh 2) (zh 1)) zm)))))) zm))))) ?_
 rintro ds n Q hl ⟨dd,pl,bd,rfl,hdd,hz,q⟩
 have ez:VZ ((bd.map KF).map xV) (pl.map D.int)=(bd.zip pl).map λz=>.tup [xV (KF z.1),.int z.2]:=by
  unfold VZ;rw[zR,List.zipWith_map,yH];rfl
 have nd:xZ dd=true:=by rcases hdd with rfl |rfl<;>rfl
 have np:xZ (yG pl)=true:=id rfl
 have kz:∀R:List D->Prop,R (VZ ((bd.map KF).map xV) (pl.map D.int))->zP4 [dd,yG pl] R:=λR h=>by
  rcases hdd with rfl |rfl
  ·exact(Ym (d1:=xn (bd.map KF)) (d2:=yG pl) rfl rfl).mpr h
  ·exact(Ym (d1:=.lst ((bd.map KF).map xV)) (d2:=yG pl) rfl rfl).mpr h
 simp[startD,nd,np];refine kz _ ?_;rw[ez]
 refine yY (λz:(Int × Int) × Int=>.tup [xV (KF z.1),.int z.2]) (λz=>.int (jB z.1 z.2)) (bd.zip pl) (zy (by rw[length_zip];lia) (yE (k:=1000) w5)) (λz hz R hR=>?_) ?_
 ·simp[xV,KF];exact hR
 ·have e : ((bd.zip pl).map λz : (Int × Int) × Int => D.int (jB z.1 z.2)) = ((bd.zip pl).map λz => jB z.1 z.2).map D.int := by
   rw[zR];rfl
  exact⟨(bd.zip pl).map (λz:(Int × Int) × Int=>jB z.1 z.2),by rw[e],q⟩
abbrev ZL:Stmt:=top 35
abbrev Ye:List Str:=["_law_house_here","_law_tree_here","_law_kind_here"]
def KM:FnScope Ye q8 (xj ZL):=⟨rfl,rfl,rfl,x6,rfl,x6,x6⟩
def qG:("_law_name" :: "_law_place" :: "_law_worth" :: Ye:List Str).Nodup:=x6
def JP:TF:=λds n Q=>∃(d:Nat) (hs ts:List Thing) (tr:Tr) (kd:Option (List Int)),ds=[wt d hs,vt tr,vd kd]/\(hs.map λt=>t.1).Nodup/\hs.length<=1000/\TreeOf d ts tr/\(∀t∈ts,t∈hs)/\(ts.map λt=>t.1).Nodup/\(∀pl,kd=some pl->pl.length<=1000)/\Q (xe9 (wI d kd ts)) n
def zN2(T:Blt mg)(F:Fun K "_law_key" "_law_key" ZL f fd)(Y_steps:Fn P w K mg base "_law_steps" 1 2 WP):FnOk P w K mg base CX0 2 f fd q8 (spD K 3 JP):=by
 refine Fun.okD F KM (λ_ _ _ s H E G Z hr=>(zE (vH (wB QY QS (wC xB wA (zh 2) zu (λ_ _=>rfl)) Uy (wT _)) (zZ (xY (vf (zc (wY Y_steps (hr.mono w6) rfl (zc (wC xB wA (zh 1) zu (λ_ _=>rfl)) (zc (wC xB wA (zh 2) zu (λ_ _=>rfl)) zm))) (zc (wC xB wA (wC xB wA (zh 1) zu (λ_ _=>rfl)) zu (λ_ _=>rfl)) zm))))) yS)
  (zZ (xY (vf (zc (wm (Kj rfl) zq4 T.min Ko (zc (vK (own:=["_law_name","_law_place","_law_worth"]) (M:=Ye) (vW (by rfl)) rfl (vJ rfl (wC xB wA (zh 0) zu (λ_ _=>rfl))) (λ_ _ _ _=>(vY (k:=3) rfl rfl (xR (xo (i:=0) qG rfl (lo rfl) w6) (xR (xo (i:=1) qG rfl (lo rfl) w6) (xR (xo (i:=2) qG rfl (lo rfl) w6) vy))))) (λ_ _ _ _=>(Vh (wB zj0 (xn8 (neg:=false)) (zh 0) (wC xB wA (zh 4) zu (λ_ _=>rfl)) (by with_unfolding_all rfl)))) (λ_ _ _ _=>(jc zu (zh 2)))) zm)) (zc (wC xB wA (wC xB wA (zh 1) zu (λ_ _=>rfl)) zu (λ_ _=>rfl)) zm))))))) ?_
 rintro ds n Q hl ⟨d,hs,ts,tr,kd,rfl,hn,hz,ht,hsub,hnt,hk,q⟩;obtain⟨ta,tb,et,na,nb⟩:=qK tr;obtain⟨r,hr1⟩:=ht.head
 have hd0:atI ((yD tr).map D.int) 0=some (.int (yJ ts)):=by rw[hr1];exact zo0
 have nh:=vP d hs;have ntr:=vh tr
 have r0:∀R:D->Prop,R (.tup ((yD tr).map D.int))->Yp (vt tr) (.int 0) R:=λR h=>by rw[et];exact⟨_,0,_,.inr (.inl rfl),rfl,rfl,h⟩
 have r1:∀R:D->Prop,R (xn (jA tr))->Yp (vt tr) (.int 1) R:=λR h=>by rw[et];exact⟨_,1,_,.inr (.inl rfl),rfl,rfl,h⟩
 have hh:∀R:D->Prop,R (.int (yJ ts))->Yp (.tup ((yD tr).map D.int)) (.int 0) R:=λR h=>⟨_,0,_,.inr (.inl rfl),rfl,hd0,h⟩;simp[startD,nh,ntr]
 cases kd with
 |some pl=>
  refine⟨_,0,_,.inr (.inl rfl),rfl,rfl,?_⟩;simp;refine r1 _ ⟨_,1,_,.inr (.inl rfl),rfl,rfl,?_⟩
  refine⟨_,pl,bdI d ts,rfl,.inl (by rw[ht.bd,zs0]),hk pl rfl,r0 _ (hh _ ?_)⟩
  exact q
 | none =>
  refine⟨_,0,_,.inr (.inl rfl),rfl,rfl,?_⟩;simp
  rw[if_neg w6]
  refine WE ?_;simp;have hp:=ht.ofN hn hsub hnt
  have h1:1<=(ofN hs tr).length:=by rw[hp.length_eq];exact ht.ne
  refine XH xF (λt=>decide (t.1∈yD tr)) (λt=>.int (0-t.2.2)) hs (yE hz) (λt ht R S h1 h2=>?_) ?_
  ·simp [xF, ntr];refine r0 _ ?_;refine⟨rfl,_,.inl rfl,zD4 _,?_⟩;rw[zn7];simp
   split
   ·rename_i h;have z:=h1 (xt h)
    rwa [Int.zero_sub] at z
   ·rename_i h;exact h2 (zW h)
  ·have e : ((hs.filter λt => decide (t.1 ∈ yD tr)).map λt => D.int (0 - t.2.2)) = ((ofN hs tr).map λt => 0 - t.2.2).map D.int := by rw [zR]; rfl
   rw[e]
   refine WB (by rw[zg];exact h1) (r0 _ (hh _ ?_))
   rw[zO0 h1,UK (hp.map λt=>t.2.2)];exact q
end
def ze9{p:Int × Int}{x:Int}(h1:jC p.1)(h2:jC p.2)(hx:za4 x):0<=jB p x/\jB p x<=200000000000000002/\zD7 1002 (jB p x):=by
 obtain⟨⟨a1,a2⟩,a,e,ha,ha1,ha2⟩:=h1;obtain⟨⟨b1,b2⟩,b,f,hb,hb1,hb2⟩:=h2;obtain⟨⟨c1,c2⟩,c,g,hc,hc1,hc2⟩:=hx;unfold jB;generalize p.1=u at *;generalize p.2=v at *
 refine⟨w5,w5,?_⟩
 have:max 0 (max (u-x) (x-v))=0\/max 0 (max (u-x) (x-v))=u-x\/max 0 (max (u-x) (x-v))=x-v:=by clear ha hb hc;lia
 rcases this with h |h |h
 ·rw[h];exact⟨0,0,w5,w5,w5⟩
 ·rw[h];exact⟨a-c,e-g,w5,w5,w5⟩
 ·rw[h];exact⟨c-b,g-f,w5,w5,w5⟩
theorem Wn:∀{bd:List (Int × Int)}{pl:List Int},(∀p∈bd,jC p.1/\jC p.2)->(∀x∈pl,za4 x)->0<=kI bd pl/\kI bd pl<=200000000000000002*bd.length/\zD7 (1002*bd.length) (kI bd pl)
 |[],pl,_,_=>⟨yV _,yV _,0,0,rfl,by simp,by simp⟩
 |p::bd,[],_,_=>by
  have e:kI (p::bd) []=0:=rfl;rw[e,zG]
  exact⟨w5,w5,0,0,w5,w5,w5⟩
 |p::bd,x::pl,h1,h2=>by
  obtain⟨i1,i2,a,e,h3,h4,h5⟩:=Wn (bd:=bd) (pl:=pl) (λq hq=>h1 q (zk _ hq)) λy hy=>h2 y (zk _ hy)
  obtain⟨s1,s2⟩:=h1 p (by simp)
  obtain⟨j1,j2,b,f,g3,g4,g5⟩:=ze9 s1 s2 (h2 x (by simp))
  rw[jO,zG]
  exact⟨w5,w5,a+b,e+f,w5,w5,w5⟩
def zA7{d:Nat}{kd:Option (List Int)}{ts:List Thing}(hd:d<=4)(h1:1<=ts.length)(hl:∀t∈ts,t.2.1.length=d/\(∀x∈t.2.1,jC x)/\jC t.2.2)(hk:∀pl,kd=some pl->∀x∈pl,za4 x):FormK (ZW d kd ts):=by
 cases kd with
 | some pl =>
  have hm:∀(i:Nat) (x:Int),i<d->x∈zc2 ts i->jC x:=λi x hi hx=>by
   rw[VM] at hx;obtain⟨t,ht,rfl⟩:=zi.mp hx;obtain⟨l1,l2,_⟩:=hl t ht
   rw[zf (show i<t.2.1.length by lia)]
   exact l2 _ (wz _)
  have h:=Wn (bd:=bdI d ts) (pl:=pl) (λp hp=>by
   unfold bdI at hp;obtain⟨i,hi,rfl⟩:=zi.mp hp;have hi':=ye.mp hi
   exact⟨hm i _ hi' (zl8 h1),hm i _ hi' (Jn h1)⟩) (hk pl rfl)
  rw[VN] at h;obtain⟨i1,i2,a,e,h3,h4,h5⟩:=h;show FormK (kI (bdI d ts) pl);generalize kI (bdI d ts) pl=s at *
  exact⟨⟨a,e,w5,w5,w5⟩,w5,w5⟩
 |none=>
  have a:=(kn (vV (ns:=ts.map λt=>t.2.2) (by rw[zg];exact h1))).1
  obtain⟨t,ht,e⟩:=zi.mp a;obtain⟨_,_,⟨i1,i2⟩,b,f,h3,h4,h5⟩:=hl t ht;show FormK (- Vx _);rw[<- e];generalize t.2.2=s at *
  exact⟨⟨-b,-f,w5,w5,w5⟩,w5,w5⟩
def zQ3{d:Nat}{hs:List Thing}{kd:Option (List Int)}(hg:GoodT d hs 2000)(hd:d<=4)(hk:∀pl,kd=some pl->∀x∈pl,za4 x):zt1 d kd hs:=λls us h1 h2 l1 l2 hne=>by
 have f:∀l:List Thing,(∀t∈l,t∈hs)->1<=l.length->FormK (ZW d kd l)/\0<=yJ l/\yJ l<2000:=λl hl h=>by
  obtain⟨t,ht,e⟩:=vm h;have g:=hg.each t (hl t ht)
  exact⟨zA7 hd h (λt ht=>(hg.each t (hl t ht)).2.2) hk,w5,w5⟩
 obtain⟨a1,a2,a3⟩:=f ls h1 l1;obtain⟨b1,b2,b3⟩:=f us h2 l2;exact zo1 a1 b1 a2 a3 b2 b3 hne
section
variable {P:Program}{w:World}{K:W.Frag}{mg:Str->Option Value}{base:Heap}{f:Addr}{fd:FuncData}
abbrev jY:Stmt:=top 27
abbrev Zm:List Str:=["_law_left_here","_law_house_here","_law_place"]
def Yj:FnScope Zm q1 (xj jY):=⟨rfl,rfl,rfl,x6,rfl,x6,x6⟩
def We:("_law_i" :: Zm:List Str).Nodup:=x6
def ze3:TF:=λds n Q=>∃(d:Nat) (ts:List Thing),ds=[.st,wt d ts]/\n=3/\d<=4/\GoodT d ts 2000/\ts.length<=30/\∀kd:Option (List Int),(∀pl,kd=some pl->pl.length=d/\∀x∈pl,za4 x)->Q (vd kd) 3
def zN4(T:Blt mg)(F:Fun K "_law_kind" "_law_kind" jY f fd)(Y_pick:Fn P w K mg base "_law_pick" 1 2 Zo)(Y_number:Fn P w K mg base "_law_number" 2 3 Zp):FnOk P w K mg base CX0 3 f fd q1 (spD K 2 ze3):=by
 refine Fun.okD F Yj (λ_ _ _ s H E G Z hr=>(zE (yj (i:=2) Yj.nd rfl (lo rfl) (yW wS vF T.tuple vG (zc (vK (own:=["_law_i"]) (M:=Zm) (vW (by rfl)) rfl (qC T.range (zc (wC xB wA (zh 1) zu (λ_ _=>rfl)) zm)) (λ_ _ _ _=>(xo (i:=0) We rfl (lo rfl) w6)) (λ_ _ _ _=>ve) (λ_ _ _ _=>(wY Y_number (hr.mono w6) rfl (zc (zh 1) (zc (zh 2) (zc (zh 0) zm)))))) zm)))
  (zZ (xY (wC xB wA (vN (zc (vf (zc Uy zm)) (zc (vf (zc Uy (zc (zh 2) zm))) (zc (vf (zc Uy (zc (zh 2) zm))) zm)))) (wY Y_pick (hr.mono w6) rfl (zc (zh 0) (zc zu zm))) (λ_ _=>rfl)))))) ?_
 rintro ds n Q hl ⟨d,ts,rfl,rfl,hd4,hg,hz,q⟩;have nh:=vP d ts;simp[startD,nh]
 refine zn8 ⟨d,rfl,w5,w5,?_⟩
 refine Ke (KQ 0 d) 3 (λ_ e=>∃x:Int,za4 x/\e=.int x) (by rw[ja];exact yE w5) (λj d2 e2 Q' hQ'=>?_) (λes hp=>?_)
 ·obtain⟨hj,rfl⟩:=YU e2;simp[nh];exact jf hj hg hz λx hx=>hQ' _ ⟨x,hx,rfl⟩
 ·have hlen := hp.length;rw[ja] at hlen;obtain⟨ps,rfl,hps⟩:=je hp;rw[zg] at hlen;simp
  refine wb w6 w6 λk g0 g1=>zE8 g0 (by simpa using g1) λdd hdd=>?_
  have hq:=q (some ps) λpl e=>by cases e;exact⟨w5,hps⟩
  simp only[zj,zS,or_false] at hdd
  rcases hdd with rfl |rfl |rfl
  ·exact q none λpl e=>by cases e
  ·exact hq
  ·exact hq
end
def jI(pl:List Pair):Option Tr->List Tr
 |none=>[]
 |some tr=>kE pl tr
def zz8(rs:List Thing)(k:Nat):Thing:=rs[k-1]?.getD (0,[],0)
noncomputable def zQ8(d:Nat)(kd:Option (List Int))(hs rs:List Thing)(k:Nat)(all:List Tr):Nat:=
 if rs.length<k then all.length else if 0<k then(all.filter λy=>!ltP (wI d kd [zz8 rs k]) (kT d kd hs y)).length else 0
noncomputable def zG6(d:Nat)(kd:Option (List Int))(hs:List Thing)(pl:List Pair)(L:Int × Int):Option Tr->List Tr
 |none=>[]
 |some tr=>vz d kd hs pl L tr
noncomputable def zd8(d:Nat)(kd:Option (List Int))(hs:List Thing)(pl:List Pair)(rs:List Thing)(k:Nat)(o:Option Tr):List (List Int):=
 if rs.length<k\/k=0 then [] else(zG6 d kd hs pl (wI d kd [zz8 rs k]) o).map yD
noncomputable def kN(d:Nat)(kd:Option (List Int))(hs:List Thing)(ns:List Int):Int × Int:=wI d kd (hs.filter λt=>decide (t.1∈ns))
def LtN(d:Nat)(kd:Option (List Int))(hs:List Thing)(a b:List Int):Prop:=ltP (kN d kd hs a) (kN d kd hs b)=true
section
variable {d:Nat}{hs:List Thing}{kd:Option (List Int)}{pl:List Pair}{k n':Nat}{o:Option Tr}{q ws:List Qe}{acc rs:List Thing}
def zC0(hd:1<=d)(hp:pl.length=d)(hn:(hs.map λt=>t.1).Nodup)(ho1:o=none->hs=[])(ho2:∀tr,o=some tr->TreeOf d hs tr)(hr:rs.Perm (ZA pl hs))(hu:rs.Pairwise (ltK d kd))(R:Reach d kd pl k (kJ o hs pl k) n' q acc)(hst:q=[]\/acc.length=k)(hle:acc.length<=k)(hw:ws.Perm q)(hs':ws.Pairwise (LtQ d kd)) :
  acc=rs.take k/\n'=zQ8 d kd hs rs k (jI pl o)/\(ws.map λx=>yD x.2).Perm (zd8 d kd hs pl rs k o)/\(ws.map λx=>yD x.2).Pairwise (LtN d kd hs):=by
 by_cases h0:k=0
 ·subst h0;obtain⟨e1,e2,e3⟩:=R.zero
  have e4:kJ o hs pl 0=[]:=by cases o with |none=>rfl |some tr=>exact(if_pos rfl:(if 0=0 then [] else wX pl [(hs,tr)])=[])
  rw[e4] at e2;subst e1 e2 e3;have e5:ws=[]:=hw.eq_nil;subst e5;refine⟨rfl,?_,?_,.nil⟩
  ·unfold zQ8;rw[if_neg w5,if_neg w5]
  ·unfold zd8;rw[if_pos (.inr rfl)];exact .refl _
 ·have D00 : DOk d hs kd pl (kJ o hs pl k) [] := by
   cases o with
   |none=>exact .none (ho1 rfl)
   |some tr=>
    show DOk d hs kd pl (if k=0 then [] else wX pl [(hs,tr)]) []
    rw[if_neg h0];exact .start hd hp (ho2 tr rfl) hn
  have D1:=R.dok hd hp D00;have hacc:=D1.told hn hr hu;obtain⟨P,ok⟩:=R.pok hd hp hn D00
  have eall:((kJ o hs pl k).flatMap λx=>kE pl x.2)=jI pl o:=by
   cases o with
   |none=>rfl
   |some tr=>
    show((if k=0 then [] else wX pl [(hs,tr)]).flatMap λx=>kE pl x.2)=kE pl tr
    rw[if_neg h0,jk _ (λtr=>Wv)];simp
  have efr:∀L,((kJ o hs pl k).flatMap λx=>vz d kd hs pl L x.2)=zG6 d kd hs pl L o:=λL=>by
   cases o with
   |none=>rfl
   |some tr=>
    show((if k=0 then [] else wX pl [(hs,tr)]).flatMap λx=>vz d kd hs pl L x.2)=vz d kd hs pl L tr
    rw[if_neg h0,jk _ (λtr=>Xz)];simp
  rw[eall] at ok;have hlen:=D1.perm.length_eq;rw[zB] at hlen;have hrl:=hr.length_eq
  have hsort:(ws.map λx=>yD x.2).Pairwise (LtN d kd hs):=by
   rw[xI];refine List.Pairwise.imp_of_mem (λ{a b} ha hb h=>?_) hs';have i1:kN d kd hs (yD a.2)=wI d kd a.1:=D1.ok.keyOf hn (hw.mem_iff.mp ha);have i2:kN d kd hs (yD b.2)=wI d kd b.1:=D1.ok.keyOf hn (hw.mem_iff.mp hb);unfold LtN;rw[i1,i2];exact h
  have hnil:q=[]->acc.length=rs.length:=λh=>by
   subst h;have:(ZA pl (yZ [])).length=0:=rfl;lia
  by_cases hk:rs.length<k
  ·have hq : q = [] := by
    rcases hst with h |h
    ·exact h
    ·lia
   have ha:=hnil hq;subst hq;have e5:ws=[]:=hw.eq_nil;subst e5;refine⟨?_,?_,?_,.nil⟩
   ·have e := hacc;rw[ha,wy] at e
    rw[e,yU w5]
   ·unfold zQ8;rw[if_pos hk];exact ok.looks0
   ·unfold zd8;rw[if_pos (.inl hk)];exact .refl _
  ·have hak : acc.length = k := by
    rcases hst with h |h
    ·have:=hnil h;lia
    ·exact h
   obtain⟨t,ht,f1,f2⟩:=ok.fin hak w5
   rw[hak] at hacc
   have et:t=zz8 rs k:=by
    rw[List.getLast?_eq_getElem?,hak,hacc,List.getElem?_take_of_lt w5] at ht
    unfold zz8;rw[ht];rfl
   subst et;refine⟨hacc,?_,?_,hsort⟩
   ·unfold zQ8
    rw[if_neg hk,if_pos w5]
    exact ok.looks1 hn D1.ok f1 f2
   ·unfold zd8
    rw[if_neg w5]
    have hwt:=ok.waits hn D1 f1 f2;rw[efr] at hwt;have z:=((hw.map λx=>x.2).trans hwt).map yD;rw[zR] at z;exact z
theorem Ug:∀{l m:List (List Int)},l.Perm m->l.Pairwise (LtN d kd hs)->m.Pairwise (LtN d kd hs)->l=m
 |[],m,p,_,_=>p.symm.eq_nil.symm
 |a::l,[],p,_,_=>p.eq_nil
 | a :: l, b :: m, p, h1, h2 => by
  obtain⟨s1,s2⟩:=xC.mp h1;obtain⟨u1,u2⟩:=xC.mp h2
  have e:a=b:=by
   rcases zj.mp (p.mem_iff.mp (zP (a:=a) (l:=l))) with e |ha
   ·exact e
   ·rcases zj.mp (p.mem_iff.mpr (zP (a := b) (l := m))) with e | hb
    ·exact e.symm
    ·have z:LtN d kd hs a a:=ji (s1 b hb) (u1 a ha);unfold LtN at z;rw[qH] at z;cases z
  subst e;rw[Ug p.cons_inv s2 u2]
end
noncomputable def XA(d:Nat)(kd:Option (List Int))(hs rs:List Thing)(k:Nat)(all:List Tr)(ns:List (List Int)):D:=.tup [.tup ((rs.map λt=>.int t.1).take k),.int (zQ8 d kd hs rs k all),.tup (ns.map λl=>.tup (l.map D.int))]
def zt9(ws:List Qe):XR ws=.tup ((ws.map λx=>yD x.2).map λl=>.tup (l.map D.int)):=by
 unfold XR;rw[zR];rfl
def zz4(l:List Int)(k:Nat):okE (.tup (l.map D.int)) (k+1)=true:=UE l k
def zk4{d:Nat}{kd:Option (List Int)}{hs rs:List Thing}{k:Nat}{all:List Tr}{ns:List (List Int)}:okE (XA d kd hs rs k all ns) 20=true:=Zd.mpr λe he=>by
 simp only[zj,zS,or_false] at he
 rcases he with rfl |rfl |rfl
 ·exact Zd.mpr λe he=>by
   obtain⟨t,_,rfl⟩:=zi.mp (List.mem_of_mem_take he);exact Ze
 ·exact Ze
 ·exact Zd.mpr λe he=>by
   obtain⟨l,_,rfl⟩:=zi.mp he;exact zz4 l 17
end K40
set_option maxHeartbeats 2000000
namespace K40
def vX(o:Option Tr):D:=(o.map vt).getD .non
def Zx(o:Option Tr):xZ (vX o)=true:=by cases o with |none=>rfl |some t=>exact vh t
def keepP(pl:List Pair):Option Tr->Bool
 |none=>false
 |some tr=>!yK (jA tr) pl
def zb3(pl:List Pair)(ls us:List Thing)(lo hi:Tr):(([some lo,some hi]:List (Option Tr)).filter (keepP pl)).map vX=esQ (wX pl [(ls,lo),(us,hi)]):=by
 unfold esQ wX
 cases h1:yK (jA lo) pl<;>cases h2:yK (jA hi) pl<;>simp[h1,h2,vX,keepP]
noncomputable def xI4(d:Nat)(kd:Option (List Int))(x:Qe):SRow:=⟨.n (ZW d kd x.1),yJ x.1,[]⟩
structure JLd(d:Nat)(kd:Option (List Int))(pl:List Pair)(k n:Nat)(q0:List Qe)(g0 g1 g2 g3:Option D)(m:Nat)(rho:Rho)(n':Nat):Prop where
 e:n'=n
 r:∃(q ws:List Qe) (acc:List Thing) (looks:Nat) (z:Option D),m=yI q/\ws.Perm q/\Reach d kd pl k q0 looks q acc/\acc.length<=k /\
  rho=[g0,g1,g2,g3,some (.int k),some (.lst (esQ ws)),some (.own (acc.map λt=>.int t.1)),some (.int looks),z]
def QOk.len60{d:Nat}{hs:List Thing}{q:List Qe}(ok:QOk d hs q)(hz:hs.length<=60):q.length<=60:=by
 have h1:=ok.heads
 have h2:(q.map λx=>yJ x.1).length<=(hs.map λt=>t.1).length:=h1.length_le_of_subset λa ha=>by
  obtain⟨x,hx,rfl⟩:=zi.mp ha;obtain⟨t,ht,e⟩:=vm (ok.tree x hx).ne;exact zi.mpr ⟨t,ok.sub t (vO.mpr ⟨x,hx,ht⟩),e⟩
 rw[zg,zg] at h2;lia
section
variable {P:Program}{w:World}{K:W.Frag}{mg:Str->Option Value}{base:Heap}{f:Addr}{fd:FuncData}
def Wo{d:Nat}{hs:List Thing}{kd:Option (List Int)}{ws:List Qe}{rho:Rho}{n:Nat}{R:D->Nat->Prop}(hn:(hs.map λt=>t.1).Nodup)(hz:hs.length<=60)(hk:∀p,kd=some p->p.length<=1000)(ok:QOk d hs ws)(h0:rho[0]?=some (some (wt d hs)))(h3:rho[3]?=some (some (vd kd)))
  (h:∀rs:List Qe,rs.Perm ws->rs.Pairwise (LtQ d kd)->R (.lst (esQ rs)) n):zn2 [3,0] (dFn 3 JP (JE (zC3 2) (JE (zC3 0) (JE (zC3 1) xg5)))) rho n R [.lst (esQ ws)]:=by
 have nh:=vP d hs
 refine YQ (λx:Qe=>vt x.2) (xI4 d kd) true [vd kd,wt d hs] ws ([],.one 0 []) (by have:=ok.len60 hz;lia) (λt ht=>rfl) ok.heads rfl (λi' j' e=>?_) (λx hx=>?_) λus hu hs'=>h us hu ?_
 ·rcases i' with _ | _ | i'
  ·cases e;exact⟨_,rfl,h3,za1 kd⟩
  ·cases e;exact⟨_,rfl,h0,nh⟩
  ·simp at e
 ·have nx := vh x.2;obtain⟨s1,s2⟩:=ok.sub1 hx;simp[nx,nh]
  exact⟨d,hs,x.1,x.2,kd,rfl,hn,w5,ok.tree x hx,s1,s2,hk,rfl,rfl⟩
 ·exact hs'.imp λ{a b} h=>zf6 h
abbrev vT:Stmt:=top 37
abbrev ju:List Str:=["_law_house_here","_law_tree_here","_law_plain_here","_law_kind_here","_law_k","_law_waits","_law_names","_law_looks","_law_one"]
def vE:FnScope ju q12 (xj vT):=⟨rfl,rfl,rfl,x6,rfl,x6,x6⟩
def Xk:("_law_part" :: ju:List Str).Nodup:=x6
def Xj:("_law_one" :: ["_law_house_here","_law_tree_here","_law_plain_here","_law_kind_here","_law_k","_law_waits","_law_names","_law_looks","_law_one'"]:List Str).Nodup:=x6
def WR:TF:=λds n R=>∃(d:Nat) (hs:List Thing) (o:Option Tr) (pl:List Pair) (kd:Option (List Int)) (k:Nat),ds=[wt d hs,vX o,xn pl,vd kd,.int k]/\1<=d/\d<=400/\pl.length=d/\yF pl=pl/\(hs.map λt=>t.1).Nodup/\hs.length<=60/\(∀p,kd=some p->p.length<=1000) /\
 (o=none->hs=[])/\(∀tr,o=some tr->TreeOf d hs tr)/\∀(n':Nat) (q rs:List Qe) (acc:List Thing),Reach d kd pl k (kJ o hs pl k) n' q acc->(q=[]\/acc.length=k)->acc.length<=k->rs.Perm q->rs.Pairwise (LtQ d kd)->R (.tup [.tup (acc.map λt=>.int t.1),.int n',XR rs]) n
def zj7{f c Pt:Addr}{fd:FuncData}(T:Blt mg)(F:Fun K "_law_drawn" "_law_drawn" vT f fd)(hns:W.nsIn K mainGlobals "_law_drawn" = some (some (.ref f)))(htb:W.tabIn K "_law_drawn" = some (c,Pt))(LB:LamBase base mg c Pt)(Y_apart:Fn P w K mg base "_law_apart" 2 2 Yz)(Y_key:Fn P w K mg base "_law_key" 2 3 JP):FnOk P w K mg base CX0 9 f fd q12 (spD K 5 WR):=by
 have TI:kX K Pt (("_law_drawn" ++ ".<locals>.") ++ "<lambda>"):=⟨"_law_drawn",by simp[ky],c,htb,rfl⟩
 refine Fun.okL F hns htb vE (λA0 outer s H E G Z hr=>(zE (zh6 (i:=5) (j:=6) (k:=7) rfl vE.nd rfl rfl rfl w6 w6 w6 rfl rfl rfl)
  (zE (vH (PWD.pt (qB (wB ZT ZP (zh 1) vg (wT _)) (qB (wB XY XU (zh 4) zu (wT _)) (qA (Vi (jZ (wY Y_apart (hr.mono w6) rfl (zc (wC xB wA (zh 1) zu (λ_ _=>rfl)) (zc (zh 2) zm))))))))) (zZ (kj (i:=5) (zc (zh 1) zm) rfl)) yS)
  (zE (Za 5 (Uu PassesOwn.never (PWD.pt (qB (wB (zF4 hr) (zK0 rfl) (zh 5) (vN zm) (wT _)) (qA (wB zM8 zJ9 (Xa (i:=6) T.len rfl) (zh 4) (wT _)))))
  (zE (yj (i:=5) vE.nd rfl (lo rfl) (ZS (N:=["_law_one","_law_kind_here","_law_house_here"]) (p := "_law_one") (clos:=[("_law_kind_here",s.heap.objs.size+3),("_law_house_here",s.heap.objs.size+1)]) (caps:=[3,0]) (k:=2) TI rfl T.sorted (hr.mono w5) (zc (zh 5) zm) LB (VA (by rfl) (Qv rfl)) (Caps.two rfl rfl rfl rfl rfl rfl) (λA1 f1 c1 s1 H1 G1 Z1 hr=>(wY Y_key (hr.mono w6) rfl (zc (zh 2) (zc (zh 0) (zc (zh 1) zm)))))))
  (zE (YC (i:=8) (j:=7) rfl vE.nd rfl rfl w6 rfl rfl (zc (wC xB wA (zh 5) zu (λ_ _=>rfl)) (zc (kc (zh 7) zu) zm)))
  (zE (yj (i:=5) vE.nd rfl (lo rfl) (XW zj3 zg2 (zi5 rfl (zh 5) (YD zu) YE) (vK (own:=["_law_part"]) (M:=ju) (vW (by rfl)) rfl (vJ rfl (zZ6 rfl (zh 8) (YD zu) YE)) (λ_ _ _ _=>(xo (i:=0) Xk rfl (lo rfl) w6)) (λ_ _ _ _=>(Vh (PWD.pt (qB (wB ZT ZP (zh 0) vg (wT _)) (qA (Vi (jZ (wY Y_apart (hr.mono w6) rfl (zc (wC xB wA (zh 0) zu (λ_ _=>rfl)) (zc (zh 3) zm)))))))))) (λ_ _ _ _=>(zh 0)))))
  (zZ (vH (wB qj qi (wC xB wA (zh 8) zu (λ_ _=>rfl)) vg (wT _)) (zZ (kj (i:=6) (zc (wC xB wA (wC xB wA (zh 8) zu (λ_ _=>rfl)) zu (λ_ _=>rfl)) zm) rfl)) yS)))))))
  (zE (yj (i:=5) vE.nd rfl (lo rfl) (ZS (N:=["_law_one","_law_kind_here","_law_house_here"]) (p := "_law_one") (clos:=[("_law_kind_here",s.heap.objs.size+3),("_law_house_here",s.heap.objs.size+1)]) (caps:=[3,0]) (k:=2) TI rfl T.sorted (hr.mono w5) (zc (zh 5) zm) LB (VA (by rfl) (Qv rfl)) (Caps.two rfl rfl rfl rfl rfl rfl) (λA1 f1 c1 s1 H1 G1 Z1 hr=>(wY Y_key (hr.mono w6) rfl (zc (zh 2) (zc (zh 0) (zc (zh 1) zm)))))))
  (zZ (Za 6 (xY (vf (zc (yW wS vF T.tuple vG (zc (zh 6) zm)) (zc (zh 7) (zc (yW wS vF T.tuple vG (zc (vK (own:=["_law_one"]) (M:=["_law_house_here","_law_tree_here","_law_plain_here","_law_kind_here","_law_k","_law_waits","_law_names","_law_looks","_law_one'"]) (vW (by rfl)) rfl (vJ rfl (zh 5)) (λ_ _ _ _=>(xo (i:=0) Xj rfl (lo rfl) w6)) (λ_ _ _ _=>ve) (λ_ _ _ _=>(wC xB wA (zh 0) zu (λ_ _=>rfl)))) zm)) zm)))))))))))) ?_
 generalize hP:XT (zU7 8 7 _) _=PX;generalize hS:zV3 6 _=Sr;generalize hFn:XT (JU 5 _) Sr=Fn;generalize hW:XT (zV3 5 _) _=Wl;rintro ds n R hl ⟨d,hs,o,pl,kd,k,rfl,hd1,hd2,hpl,hst,hn,hz,hk,ho1,ho2,hR⟩;have nh:=vP d hs;have no:=Zx o;have npl:xZ (xn pl)=true:=rfl
 have fin:∀(F:EndsD) (q ws:List Qe) (acc:List Thing) (looks:Nat) (z:Option D),F.rt=R->QOk d hs q->ws.Perm q->acc.length<=60->(∀rs:List Qe,rs.Perm q->rs.Pairwise (LtQ d kd)->R (.tup [.tup (acc.map λt=>.int t.1),.int looks,XR rs]) n) ->
   Fn F [some (wt d hs),some (vX o),some (xn pl),some (vd kd),some (.int k),some (.lst (esQ ws)),some (.own (acc.map λt=>.int t.1)),some (.int looks),z] n:=λF q ws acc looks z hF ok hw hal ht=>by
  subst hFn;have okw:=ok.perm hw;simp;refine Wo hn hz hk okw rfl rfl λrs p1 p2=>?_;subst hS;have hrl:=(okw.perm p1).len60 hz;simp[hF]
  refine yY (λx:Qe=>vt x.2) (λx=>.tup ((yD x.2).map D.int)) rs (yE w5) (λx hx R' hR'=>?_) ?_
  ·have nx:=vh x.2;obtain⟨ta,tb,et,na,nb⟩:=qK x.2;simp[nx];rw[et];exact⟨_,0,_,.inr (.inl rfl),rfl,rfl,hR'⟩
  ·simp;exact ht rs (p1.trans hw) p2
 have parts:∀(xs:List (Option Tr)) (a4 a5 a6 a7 a8:Option D) (Q:D->Nat->Prop),xs.length<=60->(∀tr,some tr∈xs->∃ts,TreeOf d ts tr)->Q (.lst ((xs.filter (keepP pl)).map vX)) n ->
   Kg 1 (zo5 0) (xz0 (Js (dOp zg4 (zC3 0) (dC D.non))) (xy9 (Js (dFn 2 Yz (JE (dOp Yp (zC3 0) (dC (D.int 1))) (JE (zC3 3) xg5)))))) (zC3 0) [some (wt d hs),some (vX o),some (xn pl),some (vd kd),a4,a5,a6,a7,a8] Q (xs.map vX) n:=λxs a4 a5 a6 a7 a8 Q hxl hx hQ=>by
  refine XH vX _ vX xs (yE w5) (λz hz R' S' g1 g2=>?_) hQ
  have nz:=Zx z
  cases z with
  |none=>
   simp[nz];rw[if_pos (show qI (vX none)=true from rfl)];exact g2 rfl
  | some tr =>
   obtain⟨ts,tt⟩:=hx tr hz
   have ni:qI (vX (some tr))=false:=by cases tr<;>rfl
   have hEn:JM (jA tr):=by rw[tt.bd];exact QD tt.ne
   have hbl:(jA tr).length=d:=by rw[tt.bd,kC]
   have r1:∀R:D->Prop,R (xn (jA tr))->Yp (vX (some tr)) (.int 1) R:=λR h=>by
    obtain⟨ta,tb,et,na,nb⟩:=qK tr;show Yp (vt tr) _ _;rw[et];exact⟨_,1,_,.inr (.inl rfl),rfl,rfl,h⟩
   simp[nz]
   rw[if_neg (by rw[ni];simp)]
   refine r1 _ ⟨jA tr,pl,rfl,w5,w5,w5,hEn,hst,?_⟩
   cases ha:yK (jA tr) pl with
   |true=>
    simp
    exact g2 (by simp[keepP,ha])
   |false=>
    simp
    exact g1 (by simp[keepP,ha])
 have loop:∀(F:EndsD) (q0:List Qe),F.rt=R->q0=kJ o hs pl k->(1<=k->DOk d hs kd pl q0 [])->(k=0->q0=[]) ->
   Wl F [some (wt d hs),some (vX o),some (xn pl),some (vd kd),some (.int k),some (.own (esQ q0)),some (.own []),some (.int 0),none] n:=λF q0 hF hq0 h1 h0=>by
  subst hW;simp;refine⟨JLd d kd pl k n q0 (some (wt d hs)) (some (vX o)) (some (xn pl)) (some (vd kd)),⟨yI q0,rfl,q0,q0,[],0,none,rfl,.refl _,.start,xJ _,rfl⟩,?_⟩;rintro m rho n' ⟨rfl,q,ws,acc,looks,z,rfl,hw,hRe,hle,rfl⟩;have hD:1<=k->DOk d hs kd pl q acc:=λh=>hRe.dok hd1 hpl (h1 h)
  have okq:QOk d hs q:=by
   by_cases e:k=0
   ·subst e;obtain⟨_,e2,_⟩:=hRe.zero
    rw[e2,h0 rfl];exact⟨by simp,by simp[yZ],by simp[yZ]⟩
   ·exact(hD w5).ok
  have hlen:acc.length<=60:=by
   by_cases e:k=0
   ·lia
   ·have h2 := (hD w5).perm.length_eq
    have h3:(ZA pl hs).length<=hs.length:=wN ..;rw[zB] at h2;lia
  have okw:QOk d hs ws:=okq.perm hw;have told:acc.length=k\/q=[]->∀rs:List Qe,rs.Perm q->rs.Pairwise (LtQ d kd)->R (.tup [.tup (acc.map λt=>.int t.1),.int looks,XR rs]) n':=λh rs p1 p2=>hR looks q rs acc (hq0 ▸ hRe) h.symm hle p1 p2;have hwl:=hw.length_eq;simp
  by_cases hwe:ws=[]
  ·have hqe : q = [] := by subst hwe; exact hw.symm.eq_nil
   rw[if_pos (by rw[hwe];rfl)]
   exact fin F q ws acc looks z hF okq hw hlen (told (.inr hqe))
  ·rw [if_neg (by intro e; exact hwe (by unfold esQ at e; exact List.map_eq_nil_iff.mp e))]
   by_cases hlt:acc.length<k
   ·rw [if_pos hlt]
    have D0:=hD w5
    refine Wo hn hz hk okw rfl rfl λrs p1 p2=>?_
    cases rs with
    |nil=>exact absurd p1.symm.eq_nil hwe
    | cons x r =>
     have p3:(x::r).Perm q:=p1.trans hw
     have hx:x∈q:=p3.mem_iff.mp (by simp)
     have hmin:∀y∈q,ltP (wI d kd y.1) (wI d kd x.1)=false:=λy hy=>by
      rcases zj.mp (p3.mem_iff.mpr hy) with rfl |hy
      ·exact qH _
      ·have h1 : ltP (wI d kd x.1) (wI d kd y.1) = true := (xC.mp p2).1 y hy
       cases c:ltP (wI d kd y.1) (wI d kd x.1) with
       |false=>rfl
       |true=>
        have:=ji h1 c;rw[qH] at this;cases this
     have hr:r.Perm (ZC (λy:Qe=>wI d kd y.1) q (wI d kd x.1)):=(p3.trans (qE (f:=λy:Qe=>wI d kd y.1) hx (okq.keys kd)).symm).cons_inv;have hrl:=p3.length_eq;have hql:=okq.len60 hz;rw[zG] at hrl
     have hsz:kK x.2+yI r=yI q:=by rw[<- qr p3];simp[yI]
     have cut1:VL (vt x.2::esQ r) (some 1) none=esQ r:=YJ (vt x.2::esQ r) 1 (by simp)
     have hrz:(esQ r).length<=60:=by unfold esQ;rw[zg];lia
     rw[show esQ (x::r)=vt x.2::esQ r from rfl];obtain⟨ts,tr⟩:=x;have tt:TreeOf d ts tr:=okq.tree _ hx;subst hP
     cases tt with
     |@one t ht=>
      have R1:=hRe.leaf hlt hx hmin;have nx:=vh (.one t.1 (qP d [t.2.1]));simp[nx];refine⟨_,rfl,?_⟩;dsimp only
      rw[show VL [D.tup [.int t.1],xn (qP d [t.2.1]),.non,.non] (some 2) none=[none,none].map vX from YJ _ 2 (by simp)]
      refine parts [none,none] _ _ _ _ _ _ (by simp) (λtr h=>by simp at h) ?_
      rw[cut1,show(([none,none]:List (Option Tr)).filter (keepP pl)).map vX=[] from rfl]
      refine⟨_,_,rfl,rfl,yE (by simp;lia),?_⟩
      refine⟨_,2,_,.inr (.inl rfl),rfl,rfl,?_⟩;simp
      refine⟨lt_size w5,_,0,_,.inr (.inl rfl),rfl,rfl,?_⟩
      refine⟨_,0,_,.inr (.inl rfl),rfl,rfl,?_⟩;have s1:kK (.one t.1 (qP d [t.2.1]))=1:=rfl;have hsz':1+yI r=yI q:=hsz
      refine⟨_,?_,rfl,_,r,acc++[t],looks+1,_,rfl,hr,R1,by rw[zB];simp;lia,by rw[zU];rfl⟩
      rw[<- qr hr];lia
     |@two ts ls us ns lo hi p hp hs1 t1 t2=>
      have R1:=hRe.opn hlt hx hmin p t1 t2;have nx:=vh (.two ns (qP d (ts.map λt=>t.2.1)) lo hi);simp[nx];refine⟨_,rfl,?_⟩;dsimp only
      rw[show VL [D.tup (ns.map D.int),xn (qP d (ts.map λt=>t.2.1)),vt lo,vt hi] (some 2) none=[some lo,some hi].map vX from YJ _ 2 (by simp)]
      refine parts [some lo,some hi] _ _ _ _ _ _ (by simp) (λtr h=>by simp at h;rcases h with rfl |rfl;exact⟨_,t1⟩;exact⟨_,t2⟩) ?_
      rw[cut1];rw[zb3 pl ls us lo hi];have kl:(wX pl [(ls,lo),(us,hi)]).length<=2:=wN ..
      have nl:qI (vt lo)=false:=by cases lo<;>rfl
      refine⟨_,_,rfl,rfl,yE (by unfold esQ;rw[zg,zg];lia),?_⟩
      refine⟨_,2,_,.inr (.inl rfl),rfl,rfl,?_⟩;have s1:kK (.two ns (qP d (ts.map λt=>t.2.1)) lo hi)=1+kK lo+kK hi:=rfl;have s2:yI (wX pl [(ls,lo),(us,hi)])<=yI [(ls,lo),(us,hi)]:=Wq yN
      have s3:yI [(ls,lo),(us,hi)]=kK lo+kK hi:=by simp[yI]
      have hsz':kK (.two ns (qP d (ts.map λt=>t.2.1)) lo hi)+yI r=yI q:=hsz;simp[nl]
      refine⟨_,?_,rfl,_,r++wX pl [(ls,lo),(us,hi)],acc,looks+1,_,rfl,hr.append_right _,R1,hle,by rw[show esQ (r++wX pl [(ls,lo),(us,hi)])=esQ r++esQ (wX pl [(ls,lo),(us,hi)]) from zU ..];rfl⟩
      rw[Zq,<- qr hr];lia
   ·rw [if_neg hlt]
    exact fin F q ws acc looks z hF okq hw hlen (told (.inl w5))
 simp[startD,nh,no]
 cases o with
 |none=>
  rw[if_pos (show qI (vX none)=true from rfl)];exact loop _ [] rfl rfl (λ_=>.none (ho1 rfl)) λ_=>rfl
 | some tr =>
  have ni:qI (vX (some tr))=false:=by cases tr<;>rfl
  have tt:=ho2 tr rfl
  have hEn:JM (jA tr):=by rw[tt.bd];exact QD tt.ne
  have hbl:(jA tr).length=d:=by rw[tt.bd,kC]
  have r1:∀R:D->Prop,R (xn (jA tr))->Yp (vX (some tr)) (.int 1) R:=λR h=>by
   obtain⟨ta,tb,et,na,nb⟩:=qK tr;show Yp (vt tr) _ _;rw[et];exact⟨_,1,_,.inr (.inl rfl),rfl,rfl,h⟩
  rw[if_neg (by rw[ni];simp)]
  by_cases hk0:0<k
  ·rw [if_pos hk0]
   refine r1 _ ⟨jA tr,pl,rfl,w5,w5,w5,hEn,hst,?_⟩
   have es:kJ (some tr) hs pl k=wX pl [(hs,tr)]:=(if_neg w5:(if k=0 then [] else wX pl [(hs,tr)])=_)
   have dk:=fun(_:1<=k)=>DOk.start (kd:=kd) hd1 hpl tt hn
   have k0:k=0->wX pl [(hs,tr)]=[]:=λh=>by lia
   have l1:=loop { nx:=λx n=>R D.non n,rt:=R } (wX pl [(hs,tr)]) rfl es.symm dk k0
   cases ha:yK (jA tr) pl with
   |true=>
    have e:wX pl [(hs,tr)]=[]:=by unfold wX;rw[xm (by simp[ha])];rfl
    rw[e] at l1;simp;exact l1
   |false=>
    have e:wX pl [(hs,tr)]=[(hs,tr)]:=by unfold wX;rw[xh (by simp[ha])];rfl
    rw[e] at l1;simp
    exact⟨lt_size w5,l1⟩
  ·rw [if_neg hk0]
   have e0:k=0:=w5
   exact loop _ [] rfl (if_pos e0:(if k=0 then [] else wX pl [(hs,tr)])=[]).symm (λh=>by lia) λ_=>rfl
end
theorem nodRs_le{c:Nat}:∀{ds:List D},(∀d∈ds,Vu d<=c)->jD ds<=c*ds.length
 |[],_=>by unfold jD;exact xJ _
 |d::ds,h=>by
  have h1:=h d (by simp)
  have h2:=nodRs_le (ds:=ds) λe he=>h e (zk _ he);unfold jD;rw[zG,Nat.mul_add];lia
def Jd{x:Int}{k:Nat}(h:x.natAbs<2^64):okR (.int x) k=true:=by
 unfold okR;refine xt ?_
 by_cases h0:x.natAbs=0
 ·rw[h0];decide
 ·rw [Nat.log2_lt h0]
  exact Nat.lt_trans h (Nat.pow_lt_pow_right w6 w6)
def VH{d:Nat}{kd:Option (List Int)}{pl:List Pair}{hs:List Thing}(hn:(hs.map λt=>t.1).Nodup):∃rs:List Thing,rs.Perm (ZA pl hs)/\rs.Pairwise (ltK d kd):=by
 have p:=List.mergeSort_perm (ZA pl hs) λa b=>!ltP (wI d kd [b]) (wI d kd [a])
 have s:=List.pairwise_mergeSort (le:=λa b=>!ltP (wI d kd [b]) (wI d kd [a])) (λa b c h1 h2=>by
   simp only[Bool.not_eq_true'] at h1 h2 ⊢
   exact UN h1 h2) (λa b=>by
   cases c:ltP (wI d kd [b]) (wI d kd [a]) with
   |false=>rfl
   | true =>
    cases e:ltP (wI d kd [a]) (wI d kd [b]) with
    |false=>rfl
    |true=>
     have:=ji c e;rw[qH] at this
     cases this) (ZA pl hs)
 refine⟨_,p,?_⟩;have hnd:((List.mergeSort (ZA pl hs) λa b=>!ltP (wI d kd [b]) (wI d kd [a])).map λt=>t.1).Nodup:=(p.map _).nodup_iff.mpr ((List.filter_sublist.map _).nodup hn);rw[wc,xI] at hnd;refine(s.and hnd).imp λ{a b} h=>?_
 have h1:ltP (wI d kd [b]) (wI d kd [a])=false:=by simpa using h.1
 refine Xn h1 ?_;show yJ [b]≠yJ [a];rw[jx,jx];exact Ne.symm h.2
structure TurnOk(d:Nat)(hs:List Thing)(o:Option Tr)(b:List VY)(kd:Option (List Int)):Prop where
 d1:1<=d
 d4:d<=4
 good:GoodT d hs 2000
 len:hs.length<=30
 h0:o=none->hs=[]
 h1:∀tr,o=some tr->TreeOf d hs tr
 box:b.length=d
 kind:∀pl,kd=some pl->pl.length=d/\∀x∈pl,za4 x
structure Fnd(d:Nat)(kd:Option (List Int))(hs rs:List Thing)(pl:List Pair)(k:Nat)(o:Option Tr)(ns:List (List Int)):Prop where
 perm:ns.Perm (zd8 d kd hs pl rs k o)
 up:ns.Pairwise (LtN d kd hs)
 len:ns.length<=60
 each:∀l∈ns,l.length<=30/\∀x∈l,0<=x/\x<2000
def Fnd.one{d:Nat}{kd:Option (List Int)}{hs rs:List Thing}{pl:List Pair}{k:Nat}{o:Option Tr}{ns ms:List (List Int)}(h:Fnd d kd hs rs pl k o ns)(g:Fnd d kd hs rs pl k o ms):ns=ms:=Ug (h.perm.trans g.perm.symm) h.up g.up
section
variable {d:Nat}{hs rs:List Thing}{o:Option Tr}{b:List VY}{kd:Option (List Int)}{k:Nat}
def TurnOk.told(h:TurnOk d hs o b kd)(hp:rs.Perm (ZA (yB b) hs))(hu:rs.Pairwise (ltK d kd)){n':Nat}{q ws:List Qe}{acc:List Thing}(r1:Reach d kd (yB b) k (kJ o hs (yB b) k) n' q acc)(r2:q=[]\/acc.length=k)(r3:acc.length<=k)(r4:ws.Perm q)(r5:ws.Pairwise (LtQ d kd)) :
  ∃ns,Fnd d kd hs rs (yB b) k o ns/\.tup [.tup (acc.map λt=>.int t.1),.int n',XR ws]=XA d kd hs rs k (jI (yB b) o) ns:=by
 have hpl:(yB b).length=d:=by rw[ZR];exact h.box
 obtain⟨e1,e2,e3,e4⟩:=zC0 h.d1 hpl h.good.nodup h.h0 h.h1 hp hu r1 r2 r3 r4 r5
 have ok:QOk d hs q:=by
  by_cases e:k=0
  ·subst e;obtain⟨_,e5,_⟩:=r1.zero
   have e6:kJ o hs (yB b) 0=[]:=by cases o with |none=>rfl |some tr=>exact(if_pos rfl:(if 0=0 then [] else wX (yB b) [(hs,tr)])=[])
   rw[e5,e6];exact⟨by simp,by simp[yZ],by simp[yZ]⟩
  ·refine (r1.dok h.d1 hpl ?_).ok
   cases o with
   |none=>exact .none (h.h0 rfl)
   |some tr=>
    show DOk d hs kd (yB b) (if k=0 then [] else wX (yB b) [(hs,tr)]) []
    rw[if_neg e];exact .start h.d1 hpl (h.h1 tr rfl) h.good.nodup
 have hz:=h.len;refine⟨_,⟨e3,e4,?_,λl hl=>?_⟩,?_⟩
 ·rw [zg]
  exact(ok.perm r4).len60 w5
 ·obtain ⟨x, hx, rfl⟩ := zi.mp hl;have hx':=r4.mem_iff.mp hx;obtain⟨s1,s2⟩:=ok.sub1 hx';obtain⟨p1,_⟩:=(ok.tree x hx').names;refine⟨?_,λy hy=>?_⟩
  ·rw[p1.length_eq,zg];have:=(jg s2).length_le_of_subset s1;lia
  ·obtain⟨t,ht,rfl⟩:=zi.mp (p1.mem_iff.mp hy);have:=h.good.each t (s1 t ht);exact⟨this.1,this.2.1⟩
 ·subst e1 e2;rw[zt9,map_take];rfl
def TurnOk.show(h:TurnOk d hs o b kd)(hp:rs.Perm (ZA (yB b) hs)){ns:List (List Int)}(f:Fnd d kd hs rs (yB b) k o ns):xl3 (XA d kd hs rs k (jI (yB b) o) ns):=by
 have hz:=h.len
 have hrl:rs.length<=30:=by
  have h1:(ZA (yB b) hs).length<=hs.length:=wN ..;have:=hp.length_eq;lia
 have ol:(jI (yB b) o).length<=60:=by
  cases o with
  |none=>exact xJ _
  |some tr=>
   have:=Vp (yB b) tr;have:=(h.h1 tr rfl).size;show(kE (yB b) tr).length<=60;lia
 have dl:zQ8 d kd hs rs k (jI (yB b) o)<=60:=by
  unfold zQ8
  split
  ·exact ol
  ·split
   ·exact zy (wN ..) ol
   ·lia
 refine .inr (.inr ⟨rfl,Vs.mpr λx hx=>?_,?_⟩)
 ·simp only [zj, zS, or_false] at hx
  rcases hx with rfl |rfl |rfl
  ·refine Vs.mpr λx hx => ?_;obtain⟨t,ht,rfl⟩:=zi.mp (List.mem_of_mem_take hx);have:=h.good.each t (zx.mp (hp.mem_iff.mp ht)).1
   exact Jd w5
  ·exact Jd w5
  ·refine Vs.mpr λx hx => ?_;obtain⟨l,hl,rfl⟩:=zi.mp hx;refine Vs.mpr λx hx=>?_;obtain⟨y,hy,rfl⟩:=zi.mp hx;have:=(f.each l hl).2 y hy
   exact Jd w5
 ·have e1 : Vu (.tup ((rs.map λt => D.int t.1).take k)) <= 31 := by
   have h1:=nodRs_le (c:=1) (ds:=(rs.map λt=>D.int t.1).take k) λx hx=>by
    obtain⟨t,ht,rfl⟩:=zi.mp (List.mem_of_mem_take hx);exact zn 1
   have h2:((rs.map λt=>D.int t.1).take k).length<=30:=by rw[yc,zg];lia
   show jD ((rs.map λt=>D.int t.1).take k)+1<=31;lia
  have e2:Vu (.tup (ns.map λl=>.tup (l.map D.int)))<=1861:=by
   have h1:=nodRs_le (c:=31) (ds:=ns.map λl=>D.tup (l.map D.int)) λx hx=>by
    obtain⟨l,hl,rfl⟩:=zi.mp hx
    have h3:=nodRs_le (c:=1) (ds:=l.map D.int) λx hx=>by
     obtain⟨y,hy,rfl⟩:=zi.mp hx;exact zn 1
    have:=(f.each l hl).1;rw[zg] at h3;show jD (l.map D.int)+1<=31;lia
   rw[zg] at h1;have:=f.len;show jD (ns.map λl=>D.tup (l.map D.int))+1<=1861;lia
  show jD [D.tup ((rs.map λt=>D.int t.1).take k),.int _,.tup (ns.map λl=>.tup (l.map D.int))]+1<=8000;show Vu (D.tup ((rs.map λt=>D.int t.1).take k))+(1+(Vu (.tup (ns.map λl=>.tup (l.map D.int)))+0))+1<=8000;lia
end
structure JLaw(ns:List Int)(i:Nat)(rho:Rho)(n:Nat):Prop where
 e:n=3
 r:∃a1 a2 a3 a4 a5 a6 a7 a8 a9 a10:Option D,rho=[some (ww ns),a1,a2,a3,a4,a5,a6,a7,a8,a9,a10]
structure JTn(hd:List (Option D))(i:Nat)(rho:Rho)(n:Nat):Prop where
 e:n=3
 r:∃b5 b6 b7 b8 b9 b10:Option D,rho=hd++[b5,b6,b7,b8,b9,b10]
structure JMn(hd:List (Option D))(i:Nat)(rho:Rho)(n:Nat):Prop where
 e:n=3
 r:∃c8 c9 c10:Option D,rho=hd++[c8,c9,c10]
structure JAg(hd:List (Option D))(i:Nat)(rho:Rho)(n:Nat):Prop where
 e:n=3
 r:∃c10:Option D,rho=hd++[c10]
section
variable {P:Program}{w:World}{K:W.Frag}{mg:Str->Option Value}{base:Heap}{f:Addr}{fd:FuncData}
abbrev Vc:Stmt:=top 38
abbrev xz2:List Str:=["_law_script","_law_k","_law_left_here","_law_house_here","_law_tree_here","_law_turn","_law_box_here","_law_kind_here","_law_many","_law_due","_law_again"]
def jE:FnScope xz2 ["_law_script"] (xj Vc):=⟨rfl,rfl,rfl,x6,rfl,x6,x6⟩
def xa8(T:Blt mg)(F:Fun K "law" "law" Vc f fd)(Y_left:Fn P w K mg base "_law_left" 1 2 ze2)(Y_pick:Fn P w K mg base "_law_pick" 1 2 Zo)(Y_house:Fn P w K mg base "_law_house" 2 1 KI)(Y_tree:Fn P w K mg base "_law_tree" 35 2 WO)(Y_box:Fn P w K mg base "_law_box" 3 2 zI6)(Y_kind:Fn P w K mg base "_law_kind" 3 2 ze3)(Y_plain:Fn P w K mg base "_law_plain" 1 1 WQ)(Y_same:Fn P w K mg base "_law_same" 1 2 KH)(Y_drawn:Fn P w K mg base "_law_drawn" 9 5 WR)(F_drawn:Fn P w K mg base "drawn" 8 5 WU) :
  FnOk P w K mg base CX0 36 f fd ["_law_script"] (Uf K):=by
 refine Fun.okLaw F jE 3 (λ_ _ _ s H E hr=>(zE (jb (m:=11) PassesOwn.never rfl (qC T.range (zc (wm (Kl rfl) zq6 T.max WK (zc zu (zc (wm (Ki rfl) zq3 T.min Ko (zc (wm wV qo T.len kW (zc (zh 0) zm)) (zc zu zm))) zm))) zm)) (xo (i:=1) jE.nd rfl (lo rfl) w6)
  (zw6 (i:=2) rfl jE.nd rfl (lo rfl) Y_left (hr.mono w6) rfl (zc (zh 0) (zc (zh 1) zm)) (λc Z H0=>(zE (yj (i:=3) jE.nd rfl (lo rfl) (wY Y_house (hr.mono w6) rfl (zc (zh 2) zm)))
  (zE (yj (i:=4) jE.nd rfl (lo rfl) (wY Y_tree (hr.mono w6) rfl (zc (zh 2) (zc (zh 3) zm))))
  (zZ (jb (m:=11) PassesOwn.never rfl (qC T.range (zc zu zm)) (xo (i:=5) jE.nd rfl (lo rfl) w6)
  (zE (YC (i:=6) (j:=7) rfl jE.nd rfl rfl w6 rfl rfl (zc (wY Y_box (hr.mono w6) rfl (zc (zh 2) (zc (zh 3) zm))) (zc (wY Y_kind (hr.mono w6) rfl (zc (zh 2) (zc (zh 3) zm))) zm)))
  (zZ (jb (m:=11) PassesOwn.never rfl (vJ rfl (vf (zc zu (zc zu (zc zu (zc (wY Y_pick (hr.mono w6) rfl (zc (zh 2) (zc (kc (wm wV qo T.len kW (zc (wC xB wA (zh 3) zu (λ_ _=>rfl)) zm)) zu) zm))) (zc (kc (wm wV qo T.len kW (zc (wC xB wA (zh 3) zu (λ_ _=>rfl)) zm)) zu) zm))))))) (xo (i:=8) jE.nd rfl (lo rfl) w6)
  (zE (yj (i:=9) jE.nd rfl (lo rfl) (wY Y_drawn (hr.mono w6) rfl (zc (zh 3) (zc (zh 4) (zc (wY Y_plain (hr.mono w6) rfl (zc (zh 6) zm)) (zc (zh 7) (zc (zh 8) zm)))))))
  (zZ (jb (m:=11) PassesOwn.never rfl (qC T.range (zc zu zm)) (xo (i:=10) jE.nd rfl (lo rfl) w6)
  (zZ (vH (Vi (jZ (wY Y_same (hr.mono w6) rfl (zc (wY F_drawn (hr.mono w6) rfl (zc (zh 3) (zc (zh 4) (zc (zh 6) (zc (zh 7) (zc (zh 8) zm)))))) (zc (zh 9) zm))))) (zZ (xY XX)) yS)))))))))))))))
  (zZ (xY XX)))) ?_
 generalize hM:XT (JU 9 _) _=MX;generalize hB:XT (zU7 6 7 _) _=BX;generalize hX:XT (JU 3 _) _=X;intro ns hns;have nsc:xZ (ww ns)=true:=id rfl
 have runM:∀(F:EndsD) (d:Nat) (hs:List Thing) (o:Option Tr) (b:List VY) (kd:Option (List Int)) (k:Nat) (a5 a9 a10:Option D),TurnOk d hs o b kd ->
   (∀c9 c10:Option D,F.nx [some (ww ns),none,some .st,some (wt d hs),some (vX o),a5,some (vA b),some (vd kd),some (.int k),c9,c10] 3) ->
   MX F [some (ww ns),none,some .st,some (wt d hs),some (vX o),a5,some (vA b),some (vd kd),some (.int k),a9,a10] 3:=λF d hs o b kd k a5 a9 a10 ht hF=>by
  subst hM;have nh:=vP d hs;have no:=Zx o;have nb:xZ (vA b)=true:=rfl;have d1:=ht.d1;have d4:=ht.d4;have hz:=ht.len;have hbl:=ht.box
  have hk2:∀p,kd=some p->p.length<=1000:=λp e=>by have:=(ht.kind p e).1;lia
  obtain⟨rs,p1,p2⟩:=VH (d:=d) (kd:=kd) (pl:=yB b) ht.good.nodup;simp[nh,no,nb]
  refine⟨b,rfl,w5,w5,?_⟩
  refine⟨d,hs,o,yB b,kd,k,rfl,d1,w5,by rw[ZR];exact hbl,Vl b,ht.good.nodup,w5,hk2,ht.h0,ht.h1,λn' q ws acc r1 r2 r3 r4 r5=>?_⟩
  obtain⟨nm,f1,e1⟩:=ht.told p1 p2 r1 r2 r3 r4 r5;rw[e1];have nf:xZ (XA d kd hs rs k (jI (yB b) o) nm)=true:=rfl;have okf:=ht.show p1 f1;have okf2:okE (XA d kd hs rs k (jI (yB b) o) nm) 20=true:=zk4
  have drw:∀R:D->Nat->Prop,R (XA d kd hs rs k (jI (yB b) o) nm) 3->WU [wt d hs,vX o,vA b,vd kd,.int k] 3 R:=λR hR=>
   ⟨d,hs,o,b,kd,k,rfl,d1,by lia,hbl,ht.good.nodup,by lia,hk2,ht.h0,ht.h1,zQ3 ht.good d4 λpl e=>(ht.kind pl e).2,λn' q ws acc r1 r2 r3 r4 r5=>by
    obtain⟨nm2,f2,e2⟩:=ht.told p1 p2 r1 r2 r3 r4 r5;rw[e2,f2.one f1]
    exact hR⟩
  generalize XA d kd hs rs k (jI (yB b) o) nm=fd at nf okf okf2 drw ⊢;refine⟨JAg [some (ww ns),none,some .st,some (wt d hs),some (vX o),a5,some (vA b),some (vd kd),some (.int k),some fd],⟨rfl,_,rfl⟩,?_,?_⟩
  ·rintro i dd rho n' e4 ⟨rfl,c10,rfl⟩;obtain⟨_,rfl⟩:=YU e4;simp[nh,no,nb,nf];refine drw _ ⟨fd,rfl,nf,okf2,okf,?_⟩;simp;exact⟨rfl,_,rfl⟩
  ·rintro rho n' ⟨rfl,c10,rfl⟩;exact hF _ _
 have runB:∀(F:EndsD) (d:Nat) (hs:List Thing) (o:Option Tr) (a5 b6 b7 b8 b9 b10:Option D),1<=d->d<=4->GoodT d hs 2000->hs.length<=30->(o=none->hs=[])->(∀tr,o=some tr->TreeOf d hs tr) ->
   (∀b6 b7 b8 b9 b10:Option D,F.nx [some (ww ns),none,some .st,some (wt d hs),some (vX o),a5,b6,b7,b8,b9,b10] 3) ->
   BX F [some (ww ns),none,some .st,some (wt d hs),some (vX o),a5,b6,b7,b8,b9,b10] 3:=λF d hs o a5 b6 b7 b8 b9 b10 hd1 hd4 hg hz ho1 ho2 hF=>by
  subst hB;have nh:=vP d hs;have no:=Zx o;simp[nh];refine⟨d,hs,rfl,rfl,hd4,hg,hz,λb hb hn=>?_⟩;refine⟨d,hs,rfl,rfl,hd4,hg,hz,λkd hk=>?_⟩;have nb:xZ (vA b)=true:=rfl;have ht:TurnOk d hs o b kd:=⟨hd1,hd4,hg,hz,ho1,ho2,hb,hk⟩;simp[nb,nh];refine WE ?_;simp
  refine wb w5 w5 λr g0 g1=>?_
  refine WE ?_;simp;refine⟨JMn [some (ww ns),none,some .st,some (wt d hs),some (vX o),a5,some (vA b),some (vd kd)],⟨rfl,_,_,_,rfl⟩,?_,?_⟩
  ·rintro i dd rho n' e4 ⟨rfl, c8, c9, c10, rfl⟩
   obtain⟨k,rfl⟩:∃k:Nat,dd=.int k:=by
    have hm:=zN e4;simp only[zj,zS,or_false] at hm;obtain⟨r',rfl⟩:=xE g0
    rcases hm with rfl |rfl |rfl |rfl |rfl
    ·exact⟨0,rfl⟩
    ·exact⟨1,rfl⟩
    ·exact⟨2,rfl⟩
    ·exact⟨r',rfl⟩
    ·exact⟨hs.length+3,by push_cast;rfl⟩
   simp;exact runM _ d hs o b kd k a5 c9 c10 ht λc9 c10=>⟨rfl,_,_,_,rfl⟩
  ·rintro rho n' ⟨rfl,c8,c9,c10,rfl⟩;exact hF _ _ _ _ _
 clear runM
 have runX:∀F:EndsD,(∀rho:Rho,rho.length=11->rho[0]?=some (some (ww ns))->F.nx rho 3)->X F [some (ww ns),none,some .st,none,none,none,none,none,none,none,none] 3:=λF hF=>by
  subst hX;simp;refine⟨rfl,rfl,λd hs hd1 hd4 hg hz=>?_⟩;have nh:=vP d hs;simp[nh]
  have TT:∀R:D->Nat->Prop,(∀o:Option Tr,(o=none->hs=[])->(∀tr,o=some tr->TreeOf d hs tr)->R (vX o) 3)->WO [.st,wt d hs] 3 R:=λR hR=>⟨d,hs,rfl,rfl,hd1,hd4,hg.u,w5,λh=>hR none (λ_=>h) λtr e=>(by cases e),λh tr g=>hR (some tr) (λe=>by cases e) λtr' e=>by cases e;exact g⟩
  refine TT _ λo ho1 ho2=>?_;have no:=Zx o;refine⟨JTn [some (ww ns),none,some .st,some (wt d hs),some (vX o)],⟨rfl,_,_,_,_,_,_,rfl⟩,?_,?_⟩
  ·rintro i dd rho n' e4 ⟨rfl,b5,b6,b7,b8,b9,b10,rfl⟩;obtain⟨_,rfl⟩:=YU e4;simp;exact runB _ d hs o _ b6 b7 b8 b9 b10 hd1 hd4 hg hz ho1 ho2 λb6 b7 b8 b9 b10=>⟨rfl,_,_,_,_,_,_,rfl⟩
  ·rintro rho n' ⟨rfl,b5,b6,b7,b8,b9,b10,rfl⟩;exact hF _ rfl rfl
 clear runB;simp[startD,nsc]
 refine⟨w5,w5,JLaw ns,⟨rfl,_,_,_,_,_,_,_,_,_,_,rfl⟩,?_,?_⟩
 ·rintro i d' rho m e ⟨rfl, a1, a2, a3, a4, a5, a6, a7, a8, a9, a10, rfl⟩;obtain⟨hi,rfl⟩:=YU e;simp
  refine zk9 ns (by simp) w6 rfl (i:Int) (by simp[nsc]) (λP P' h=>by simp[nsc];exact h _ _) ?_
  refine⟨ns,_,rfl,hns,w5,w5,λx y hx hy hy2=>⟨[x,y,0],rfl,rfl,by simp[hx,hy],by simp[hy2],?_⟩⟩
  simp[Ww,vZ]
  exact runX _ λrho h1 h2=>⟨rfl,h1,h2,rfl,by simp⟩
 ·rintro rho m ⟨rfl,a1,a2,a3,a4,a5,a6,a7,a8,a9,a10,rfl⟩;simp
end
end K40
set_option maxHeartbeats 1000000
namespace K40
def yT{α:Type}{us:List α}{c:Nat}(h:us.length=c+1):∃a r,us=a::r/\r.length=c:=by
 cases us with
 |nil=>cases h
 |cons a r=>exact⟨a,r,rfl,Nat.succ.inj h⟩
def zt2{fd:FuncData}{ps:List Str}{us:List Value}(h:us.length=1)(q:∀x0,bindArgs fd ⟨[x0],[]⟩=pure (ps.zip [x0])):bindArgs fd ⟨us,[]⟩=pure (ps.zip us):=by
 obtain⟨x0,u0,rfl,h0⟩:=yT h;obtain rfl:=zX.mp h0;exact q x0
def JO{fd:FuncData}{ps:List Str}{us:List Value}(h:us.length=2)(q:∀x0 x1,bindArgs fd ⟨[x0,x1],[]⟩=pure (ps.zip [x0,x1])):bindArgs fd ⟨us,[]⟩=pure (ps.zip us):=by
 obtain⟨x0,u0,rfl,h0⟩:=yT h;obtain⟨x1,u1,rfl,h1⟩:=yT h0;obtain rfl:=zX.mp h1;exact q x0 x1
def xm0{fd:FuncData}{ps:List Str}{us:List Value}(h:us.length=3)(q:∀x0 x1 x2,bindArgs fd ⟨[x0,x1,x2],[]⟩=pure (ps.zip [x0,x1,x2])):bindArgs fd ⟨us,[]⟩=pure (ps.zip us):=by
 obtain⟨x0,u0,rfl,h0⟩:=yT h;obtain⟨x1,u1,rfl,h1⟩:=yT h0;obtain⟨x2,u2,rfl,h2⟩:=yT h1;obtain rfl:=zX.mp h2;exact q x0 x1 x2
def xg9{fd:FuncData}{ps:List Str}{us:List Value}(h:us.length=4)(q:∀x0 x1 x2 x3,bindArgs fd ⟨[x0,x1,x2,x3],[]⟩=pure (ps.zip [x0,x1,x2,x3])):bindArgs fd ⟨us,[]⟩=pure (ps.zip us):=by
 obtain⟨x0,u0,rfl,h0⟩:=yT h;obtain⟨x1,u1,rfl,h1⟩:=yT h0;obtain⟨x2,u2,rfl,h2⟩:=yT h1;obtain⟨x3,u3,rfl,h3⟩:=yT h2;obtain rfl:=zX.mp h3;exact q x0 x1 x2 x3
def xz3{fd:FuncData}{ps:List Str}{us:List Value}(h:us.length=5)(q:∀x0 x1 x2 x3 x4,bindArgs fd ⟨[x0,x1,x2,x3,x4],[]⟩=pure (ps.zip [x0,x1,x2,x3,x4])):bindArgs fd ⟨us,[]⟩=pure (ps.zip us):=by
 obtain⟨x0,u0,rfl,h0⟩:=yT h;obtain⟨x1,u1,rfl,h1⟩:=yT h0;obtain⟨x2,u2,rfl,h2⟩:=yT h1;obtain⟨x3,u3,rfl,h3⟩:=yT h2;obtain⟨x4,u4,rfl,h4⟩:=yT h3;obtain rfl:=zX.mp h4;exact q x0 x1 x2 x3 x4
def xG9{fd:FuncData}{ps:List Str}{us:List Value}(h:us.length=6)(q:∀x0 x1 x2 x3 x4 x5,bindArgs fd ⟨[x0,x1,x2,x3,x4,x5],[]⟩=pure (ps.zip [x0,x1,x2,x3,x4,x5])):bindArgs fd ⟨us,[]⟩=pure (ps.zip us):=by
 obtain⟨x0,u0,rfl,h0⟩:=yT h;obtain⟨x1,u1,rfl,h1⟩:=yT h0;obtain⟨x2,u2,rfl,h2⟩:=yT h1;obtain⟨x3,u3,rfl,h3⟩:=yT h2;obtain⟨x4,u4,rfl,h4⟩:=yT h3;obtain⟨x5,u5,rfl,h5⟩:=yT h4;obtain rfl:=zX.mp h5;exact q x0 x1 x2 x3 x4 x5
structure Dn(K:W.Frag)(x:Str)(st:Stmt):Prop where
 ex:∃(f:Addr) (fd:FuncData),W.nsIn K mainGlobals x=some (some (.ref f))/\Fun K x x st f fd
def dn{K:W.Frag}{x:Str}{st:Stmt}{f:Addr}{oc:Value}{od an:Option Addr}{osl:Array (Option Value)}{kV doc pm cdv ct:Value}(a:W.nsIn K mainGlobals x=some (some (.ref f)))(l:K.lookup f=some ⟨oc,od,.func (W.fnOf x x (kB st) (vB st) (xj st) .none kV doc pm an cdv ct),osl⟩)(c:W.codeIn K cdv x=true)(k:W.keepIn K (.ref f)=true):Dn K x st:=⟨f,_,a,Qp (st:=st) l c k⟩
def Dn.fn{P:Program}{w:World}{K:W.Frag}{mg:Str->Option Value}{base h:Heap}{x:Str}{st:Stmt}{kk k:Nat}{t:TF}{ps:List Str}(d:Dn K x st)(X:K.In h)(G:h.Ns mainGlobals mg)(b:∀(kV doc pm:Value) (an:Option Addr) (cdv ct:Value) (us:List Value),us.length=ps.length->bindArgs (W.fnOf x x (kB st) (vB st) (xj st) .none kV doc pm an cdv ct) ⟨us,[]⟩=pure (ps.zip us))(ok:∀(f:Addr) (fd:FuncData),Fun K x x st f fd->mg x=some (.ref f)->W.keepIn K (.ref f)=true->Binds K fd ps []->FnOk P w K mg base CX0 kk f fd ps (spD K k t)):Fn P w K mg base x kk k t:=by
 obtain⟨f,fd,a,F⟩:=d.ex;have m:=W.mg_of X G a;have B:=F.binds b;exact⟨f,fd,ps,ok f fd F m F.kp B,m,F.kp,B⟩
def Dn.fnT{P:Program}{w:World}{K:W.Frag}{mg:Str->Option Value}{base h:Heap}{x:Str}{st:Stmt}{kk k:Nat}{t:TFT}{ps:List Str}(d:Dn K x st)(X:K.In h)(G:h.Ns mainGlobals mg)(b:∀(kV doc pm:Value) (an:Option Addr) (cdv ct:Value) (us:List Value),us.length=ps.length->bindArgs (W.fnOf x x (kB st) (vB st) (xj st) .none kV doc pm an cdv ct) ⟨us,[]⟩=pure (ps.zip us))(ok:∀(f:Addr) (fd:FuncData),Fun K x x st f fd->FnOk P w K mg base CX0 kk f fd ps (spT K k t)):FnT P w K mg base x kk k t:=by
 obtain⟨f,fd,a,F⟩:=d.ex;exact⟨⟨f,fd,ps,ok f fd F,W.mg_of X G a,F.kp,F.binds b⟩⟩
def all_mk{l:W.OpenLaw}{w:World}{K:W.Frag}{h:Heap}{mg:Str->Option Value}{fa f24 f32 f33:Addr}(X:K.In h)(G:h.Ns mainGlobals mg)(hfa:mg "law" = some (.ref fa))
  {od24 an24 od32 an32 od33 an33:Option Addr}{sl24 sl32 sl33:Array (Option Value)}{oc24 kV24 dc24 pm24 cd24 ct24 oc32 kV32 dc32 pm32 cd32 ct32 oc33 kV33 dc33 pm33 cd33 ct33:Value}
  (d0:Dn K "least_of" ZK)
  (d1:Dn K "greatest_of" qu)
  (d2:Dn K "pair_of" YT)
  (d3:Dn K "is_crossed" qS)
  (d4:Dn K "settled" YS)
  (d5:Dn K "plain_box" jR)
  (d6:Dn K "greater_of" qU)
  (d7:Dn K "lesser_of" jT)
  (d8:Dn K "common_pair" qv)
  (d9:Dn K "common" Ve)
  (d10:Dn K "lie_apart" jS)
  (d11:Dn K "things_by_name" ku)
  (d12:Dn K "steps_to" ZJ)
  (d13:Dn K "key_by" Vd)
  (d14:Dn K "keyed" KN)
  (d15:Dn K "drawn_past" qV)
  (d16:Dn K "drawn" KO)
  (d17:Dn K "_law_left" jX)
  (d18:Dn K "_law_pick" jW)
  (d19:Dn K "_law_house" qY)
  (d20:Dn K "_law_number" qw)
  (d21:Dn K "_law_box" ZM)
  (d22:Dn K "_law_kind" jY)
  (d23:Dn K "_law_bounds" qx)
  (a24:W.nsIn K mainGlobals "_law_grown" = some (some (.ref f24))) (l24:K.lookup f24=some ⟨oc24,od24,.func (W.fnOf "_law_grown" "_law_grown" (kB vS) (vB vS) (xj vS) .none kV24 dc24 pm24 an24 cd24 ct24),sl24⟩) (c24:W.codeIn K cd24 "_law_grown" = true) (k24:W.keepIn K (.ref f24)=true)
  (d25:Dn K "_law_tree" jU)
  (d26:Dn K "_law_plain" qX)
  (d27:Dn K "_law_beyond" qy)
  (d28:Dn K "_law_apart" qZ)
  (d29:Dn K "_law_steps" qW)
  (d30:Dn K "_law_key" ZL)
  (d31:Dn K "_law_same" jV)
  (a32:W.nsIn K mainGlobals "_law_drawn" = some (some (.ref f32))) (l32:K.lookup f32=some ⟨oc32,od32,.func (W.fnOf "_law_drawn" "_law_drawn" (kB vT) (vB vT) (xj vT) .none kV32 dc32 pm32 an32 cd32 ct32),sl32⟩) (c32:W.codeIn K cd32 "_law_drawn" = true) (k32:W.keepIn K (.ref f32)=true)
  (a33:W.nsIn K mainGlobals "law" = some (some (.ref f33))) (l33:K.lookup f33=some ⟨oc33,od33,.func (W.fnOf "law" "law" (kB Vc) (vB Vc) (xj Vc) .none kV33 dc33 pm33 an33 cd33 ct33),sl33⟩) (c33:W.codeIn K cd33 "law" = true) (k33:W.keepIn K (.ref f33)=true)
  {cc24 Pt24:Addr}{pc24:Value}{pd24:Option Addr}{pe24:Array (Option Value)}{vv24:Array Value} (le24:cd24=.ref cc24) (lk24:K.lookup cc24=some ⟨pc24,pd24,.fields vv24,pe24⟩) (lp24:vv24[11]?=some (.ref Pt24))
  {cc32 Pt32:Addr}{pc32:Value}{pd32:Option Addr}{pe32:Array (Option Value)}{vv32:Array Value} (le32:cd32=.ref cc32) (lk32:K.lookup cc32=some ⟨pc32,pd32,.fields vv32,pe32⟩) (lp32:vv32[11]?=some (.ref Pt32))
  {e0:Addr}{eo0:Option Addr}{en0:Nat}{et0 eu0:Tok}{es0:Array (Option Value)} (yy0:W.nsIn K mainGlobals "EMPTY_PAIR" = some (some (.ref e0))) (hh0:K.lookup e0=some ⟨.type "tuple",eo0,.seq #[.int 1 et0,.int 0 eu0] en0,es0⟩)
  (z0:W.nsIn K mainGlobals "len" = some none) (z1:W.nsIn K mainGlobals "abs" = some none) (z2:W.nsIn K mainGlobals "all" = some none) (z3:W.nsIn K mainGlobals "any" = some none) (z4:W.nsIn K mainGlobals "isinstance" = some none) (z5:W.nsIn K mainGlobals "int" = some none) (z6:W.nsIn K mainGlobals "bool" = some none) (z7:W.nsIn K mainGlobals "str" = some none) (z8:W.nsIn K mainGlobals "tuple" = some none) (z9:W.nsIn K mainGlobals "list" = some none) (z10:W.nsIn K mainGlobals "range" = some none) (z11:W.nsIn K mainGlobals "zip" = some none) (z12:W.nsIn K mainGlobals "enumerate" = some none) (z13:W.nsIn K mainGlobals "max" = some none) (z14:W.nsIn K mainGlobals "min" = some none) (z15:W.nsIn K mainGlobals "sorted" = some none) (z16:W.nsIn K mainGlobals "sum" = some none) (z17:W.nsIn K mainGlobals "repr" = some none) (z18:W.nsIn K mainGlobals "dict" = some none) :
  ∃fd:FuncData,(∀(s:Shared) (v:Value),BindsTo s fd ⟨[v],[]⟩ [("_law_script",v)])/\∀base:Heap,K.In base->base.Ns mainGlobals mg->base.NoDigits->KC K mg base->FnOk l.prog w K mg base CX0 36 fa fd ["_law_script"] (Uf K):=by
 have tb24:=zD9 a24 l24 le24 lk24 lp24;have tb32:=zD9 a32 l32 le32 lk32 lp32;have e:=hfa.symm.trans (W.mg_of X G a33);cases e;have T:Blt mg:=⟨W.mg_none_of X G z0,W.mg_none_of X G z1,W.mg_none_of X G z2,W.mg_none_of X G z3,W.mg_none_of X G z4,W.mg_none_of X G z5,W.mg_none_of X G z6,W.mg_none_of X G z7,W.mg_none_of X G z8,W.mg_none_of X G z9,W.mg_none_of X G z10,W.mg_none_of X G z11,W.mg_none_of X G z12,W.mg_none_of X G z13,W.mg_none_of X G z14,W.mg_none_of X G z15⟩;have T2:Blt2 mg:=⟨W.mg_none_of X G z16⟩;have T3:Blt3 mg:=⟨W.mg_none_of X G z17,W.mg_none_of X G z18⟩;have G_EMPTY_PAIR:xg8 K mg "EMPTY_PAIR" (.tup [.int 1,.int 0]):=zo4 (W.mg_of X G yy0) hh0;have U24:=Qp (st:=vS) l24 c24 k24;have U32:=Qp (st:=vT) l32 c32 k32;have U33:=Qp (st:=Vc) l33 c33 k33;refine⟨W.fnOf "law" "law" (kB Vc) (vB Vc) (xj Vc) .none kV33 dc33 pm33 an33 cd33 ct33,λs v=>.of_eq rfl,λbase _ _ ND LA=>?_⟩
 have LB24:=LA "_law_grown" (by simp[ky]) _ _ tb24
 have LB32:=LA "_law_drawn" (by simp[ky]) _ _ tb32
 have F_least_of:Fn l.prog w K mg base "least_of" 1 1 ZF:=d0.fn X G (ps:=["low"]) (λ_ _ _ _ _ _ _ h=>zt2 h λ_=>rfl) λ_ _ U M N B=>Jc U;have F_greatest_of:Fn l.prog w K mg base "greatest_of" 1 1 qp:=d1.fn X G (ps:=["high"]) (λ_ _ _ _ _ _ _ h=>zt2 h λ_=>rfl) λ_ _ U M N B=>XZ U;have F_pair_of:Fn l.prog w K mg base "pair_of" 2 1 YN:=d2.fn X G (ps:=["span"]) (λ_ _ _ _ _ _ _ h=>zt2 h λ_=>rfl) λ_ _ U M N B=>za0 U F_least_of F_greatest_of;have F_is_crossed:Fn l.prog w K mg base "is_crossed" 1 1 qa:=d3.fn X G (ps:=["pair"]) (λ_ _ _ _ _ _ _ h=>zt2 h λ_=>rfl) λ_ _ U M N B=>Vq U;have F_settled:Fn l.prog w K mg base "settled" 2 1 Zn:=d4.fn X G (ps:=["pairs"]) (λ_ _ _ _ _ _ _ h=>zt2 h λ_=>rfl) λ_ _ U M N B=>QZ T G_EMPTY_PAIR U F_is_crossed;have F_plain_box:Fn l.prog w K mg base "plain_box" 3 1 jL:=d5.fn X G (ps:=["box"]) (λ_ _ _ _ _ _ _ h=>zt2 h λ_=>rfl) λ_ _ U M N B=>UA U F_pair_of F_settled;have F_greater_of:Fn l.prog w K mg base "greater_of" 1 2 qQ:=d6.fn X G (ps:=q0) (λ_ _ _ _ _ _ _ h=>JO h λ_ _=>rfl) λ_ _ U M N B=>Vr T U;have F_lesser_of:Fn l.prog w K mg base "lesser_of" 1 2 jN:=d7.fn X G (ps:=q0) (λ_ _ _ _ _ _ _ h=>JO h λ_ _=>rfl) λ_ _ U M N B=>UC T U;have F_common_pair:Fn l.prog w K mg base "common_pair" 2 2 qq:=d8.fn X G (ps:=q0) (λ_ _ _ _ _ _ _ h=>JO h λ_ _=>rfl) λ_ _ U M N B=>Wa U F_greater_of F_lesser_of;have F_common:Fn l.prog w K mg base "common" 3 2 WV:=d9.fn X G (ps:=q0) (λ_ _ _ _ _ _ _ h=>JO h λ_ _=>rfl) λ_ _ U M N B=>zk0 T U F_settled F_common_pair;have F_lie_apart:Fn l.prog w K mg base "lie_apart" 4 2 jM:=d10.fn X G (ps:=q0) (λ_ _ _ _ _ _ _ h=>JO h λ_ _=>rfl) λ_ _ U M N B=>UB U F_is_crossed F_common;have F_things_by_name:Fn l.prog w K mg base "things_by_name" 1 1 zI4:=d11.fn X G (ps:=["house"]) (λ_ _ _ _ _ _ _ h=>zt2 h λ_=>rfl) λ_ _ U M N B=>xa6 T U;have F_steps_to:Fn l.prog w K mg base "steps_to" 1 2 ZE:=d12.fn X G (ps:=["place","limits"]) (λ_ _ _ _ _ _ _ h=>JO h λ_ _=>rfl) λ_ _ U M N B=>Jb T T2 U;have F_key_by:Fn l.prog w K mg base "key_by" 2 3 WT:=d13.fn X G (ps:=["by_name","tree","kind"]) (λ_ _ _ _ _ _ _ h=>xm0 h λ_ _ _=>rfl) λ_ _ U M N B=>zj9 T U F_steps_to;have F_keyed:FnT l.prog w K mg base "keyed" 6 4 WS:=d14.fnT X G (ps:=q3) (λ_ _ _ _ _ _ _ h=>xg9 h λ_ _ _ _=>rfl) λ_ _ U=>zy8 T U F_lie_apart F_key_by;have F_drawn_past:Fn l.prog w K mg base "drawn_past" 7 6 KJ:=d15.fn X G (ps:=q10) (λ_ _ _ _ _ _ _ h=>xG9 h λ_ _ _ _ _ _=>rfl) λ_ _ U M N B=>zz2 T U F_things_by_name F_plain_box F_keyed;have F_drawn:Fn l.prog w K mg base "drawn" 8 5 WU:=d16.fn X G (ps:=q4) (λ_ _ _ _ _ _ _ h=>xz3 h λ_ _ _ _ _=>rfl) λ_ _ U M N B=>zz1 U F_drawn_past;have Y_left:Fn l.prog w K mg base "_law_left" 1 2 ze2:=d17.fn X G (ps:=["_law_script","_law_k"]) (λ_ _ _ _ _ _ _ h=>JO h λ_ _=>rfl) λ_ _ U M N B=>zN3 T U;have Y_pick:Fn l.prog w K mg base "_law_pick" 1 2 Zo:=d18.fn X G (ps:=["_law_left_here","_law_many"]) (λ_ _ _ _ _ _ _ h=>JO h λ_ _=>rfl) λ_ _ U M N B=>zN1 U;have Y_house:Fn l.prog w K mg base "_law_house" 2 1 KI:=d19.fn X G (ps:=["_law_left_here"]) (λ_ _ _ _ _ _ _ h=>zt2 h λ_=>rfl) λ_ _ U M N B=>zy9 T U Y_pick;have Y_number:Fn l.prog w K mg base "_law_number" 2 3 Zp:=d20.fn X G (ps:=q9) (λ_ _ _ _ _ _ _ h=>xm0 h λ_ _ _=>rfl) λ_ _ U M N B=>zj4 T U Y_pick;have Y_box:Fn l.prog w K mg base "_law_box" 3 2 zI6:=d21.fn X G (ps:=q1) (λ_ _ _ _ _ _ _ h=>JO h λ_ _=>rfl) λ_ _ U M N B=>xa9 T U Y_pick Y_number;have Y_kind:Fn l.prog w K mg base "_law_kind" 3 2 ze3:=d22.fn X G (ps:=q1) (λ_ _ _ _ _ _ _ h=>JO h λ_ _=>rfl) λ_ _ U M N B=>zN4 T U Y_pick Y_number;have Y_bounds:Fn l.prog w K mg base "_law_bounds" 1 1 zI5:=d23.fn X G (ps:=["_law_things"]) (λ_ _ _ _ _ _ _ h=>zt2 h λ_=>rfl) λ_ _ U M N B=>xa7 T U;have Y_grown:Fn l.prog w K mg base "_law_grown" 34 4 (YO 30):=⟨_,_,_,(zz0 T U24 a24 tb24 LB24 (W.mg_of X G a24) k24 (U24.binds (ps:=q2) λ_ _ _ _ _ _ _ h=>xg9 h λ_ _ _ _=>rfl) Y_pick Y_bounds 30),W.mg_of X G a24,k24,(U24.binds (ps:=q2) λ_ _ _ _ _ _ _ h=>xg9 h λ_ _ _ _=>rfl)⟩;have Y_tree:Fn l.prog w K mg base "_law_tree" 35 2 WO:=d25.fn X G (ps:=q1) (λ_ _ _ _ _ _ _ h=>JO h λ_ _=>rfl) λ_ _ U M N B=>zy6 T U Y_grown;have Y_plain:Fn l.prog w K mg base "_law_plain" 1 1 WQ:=d26.fn X G (ps:=["_law_box_here"]) (λ_ _ _ _ _ _ _ h=>zt2 h λ_=>rfl) λ_ _ U M N B=>zj6 T U;have Y_beyond:Fn l.prog w K mg base "_law_beyond" 1 4 YA:=d27.fn X G (ps:=q11) (λ_ _ _ _ _ _ _ h=>xg9 h λ_ _ _ _=>rfl) λ_ _ U M N B=>zk1 U;have Y_apart:Fn l.prog w K mg base "_law_apart" 2 2 Yz:=d28.fn X G (ps:=q5) (λ_ _ _ _ _ _ _ h=>JO h λ_ _=>rfl) λ_ _ U M N B=>zj8 T U Y_beyond;have Y_steps:Fn l.prog w K mg base "_law_steps" 1 2 WP:=d29.fn X G (ps:=q7) (λ_ _ _ _ _ _ _ h=>JO h λ_ _=>rfl) λ_ _ U M N B=>zj5 T T2 U;have Y_key:Fn l.prog w K mg base "_law_key" 2 3 JP:=d30.fn X G (ps:=q8) (λ_ _ _ _ _ _ _ h=>xm0 h λ_ _ _=>rfl) λ_ _ U M N B=>zN2 T U Y_steps;have Y_same:Fn l.prog w K mg base "_law_same" 1 2 KH:=d31.fn X G (ps:=q6) (λ_ _ _ _ _ _ _ h=>JO h λ_ _=>rfl) λ_ _ U M N B=>zy7 T T3 U;have Y_drawn:Fn l.prog w K mg base "_law_drawn" 9 5 WR:=⟨_,_,_,zj7 T U32 a32 tb32 LB32 Y_apart Y_key,W.mg_of X G a32,k32,(U32.binds (ps:=q12) λ_ _ _ _ _ _ _ h=>xz3 h λ_ _ _ _ _=>rfl)⟩;exact xa8 T U33 Y_left Y_pick Y_house Y_tree Y_box Y_kind Y_plain Y_same Y_drawn F_drawn
def walk{l:W.OpenLaw}{q:Program}{loose:List Str}{XP:(Str->Option Value)->Heap->Prop}{YP:World->Heap->Prop}{d:DefRec}{K:Params->W.Frag}(hn:l.most=some 63)(hdf:d.params.defaults=[])
  (hY:∀(w:World) (h:Heap),YP w h->(K w.params).In h)
  (hrec:∀(w:World),∀y∈ky,∀c P,W.tabIn (K w.params) y=some (c,P)->∃d,(recsOf q).find? (λe=>e.name == y)=some d) (htn:∀w:World,ze1 (K w.params)=true) (hnt:∀w:World,W.noTabs (K w.params)=true)
  (F : ∀ (w : World) (mg : Str -> Option Value) (fa : Addr) (h : Heap), (K w.params).In h -> h.Ns mainGlobals mg -> mg d.name = some (.ref fa) ->
   ∃fd:FuncData,(∀(s:Shared) (u:Value),BindsTo s fd ⟨[u],[]⟩ [("_law_script",u)])/\∀base:Heap,(K w.params).In base->base.Ns mainGlobals mg->base.NoDigits->KC (K w.params) mg base->FnOk l.prog w (K w.params) mg base CX0 36 fa fd ["_law_script"] (Uf (K w.params))) :
  W.WalkO q loose XP YP l.row.toRowW d [] (λf vs=>PySem.call f vs):=
 L2.zt8 (n:=63) (k:=36) (x := "_law_script") (CX:=λ_=>CX0) (sp:=λw=>Uf (K w.params)) hn w6 hdf ⟨rfl,w6,w6,rfl⟩ hY hrec (λw=>zI3 (K w.params) (htn w)) hnt F (λ_ _ a ns hl hO hS hT=>⟨a,ns,rfl,hO,hS,hl,hT,λH h=>⟨rfl,h⟩⟩) λ_ _ _ _ _ z=>z
end K40
open PySem PySem.W PyProof.Rows
set_option maxRecDepth 100000 in
set_option maxHeartbeats 0 in
theorem PySem.Challenge.cw_boxlayers_k40_drawn_by_keys_holds : PySem.Challenge.rw_boxlayers_k40_drawn_by_keys.Holds := by
 w_on; o_law; refine holds_open (q:=K40H.view) (loose:=[]) (N:=10000) (XP:=XL K40H.view []) (Xt:=λs=>xlAt K40H.view [] s && recOk (RowW.records (OpenRow.toRowW (OpenLaw.row PySem.Challenge.rw_boxlayers_k40_drawn_by_keys))) s) (Yf:=Hook.obs K40H.hook) (Ya:=Hook.val K40H.hook) (YP:=Hook.says K40H.hook) K40H.left (Hook.of K40H.hook) (Hook.keeps K40H.hook) (λs e=>xl_of s (Bool.and_eq_true_iff.mp e).1) XL.keeps rfl rfl rfl (λs e=>recFacts_of (Bool.and_eq_true_iff.mp e).2) rfl (by first | assumption | decide +kernel) x6 ⟨rfl,rfl,rfl,rfl,rfl,x6⟩ ?_ ?_
 ·w_witness2
 k_fill
 refine K40.walk (l:=PySem.Challenge.rw_boxlayers_k40_drawn_by_keys) rfl rfl (λw h Y=>PySem.W.km_in_of Y) ?R ?U ?N ?F
 case R =>
  intro w y hy c P e
  have z:y = "_law_grown" \/ y = "_law_drawn" := by simpa [L2.ky] using hy
  rcases z with rfl | rfl
  ·exact⟨_,rfl⟩
  ·exact⟨_,rfl⟩
 case U =>
  intro w
  kernel_rfl
 case N =>
  intro w
  kernel_rfl
 case F =>
  intro w mg fa h KX G hmg;refine' K40.all_mk KX G hmg ?d0 ?d1 ?d2 ?d3 ?d4 ?d5 ?d6 ?d7 ?d8 ?d9 ?d10 ?d11 ?d12 ?d13 ?d14 ?d15 ?d16 ?d17 ?d18 ?d19 ?d20 ?d21 ?d22 ?d23 ?a24 ?l24 ?c24 ?k24 ?d25 ?d26 ?d27 ?d28 ?d29 ?d30 ?d31 ?a32 ?l32 ?c32 ?k32 ?a33 ?l33 ?c33 ?k33 ?le24 ?lk24 ?lp24 ?le32 ?lk32 ?lp32 ?yy0 ?hh0 ?z0 ?z1 ?z2 ?z3 ?z4 ?z5 ?z6 ?z7 ?z8 ?z9 ?z10 ?z11 ?z12 ?z13 ?z14 ?z15 ?z16 ?z17 ?z18
  (case a24=>k_is)
  (case l24=>k_is)
  (case c24=>k_is)
  (case k24=>k_is)
  (case a32=>k_is)
  (case l32=>k_is)
  (case c32=>k_is)
  (case k32=>k_is)
  (case a33=>k_is)
  (case l33=>k_is)
  (case c33=>k_is)
  (case k33=>k_is)
  (case le24=>rfl)
  (case lk24=>k_is)
  (case lp24=>rfl)
  (case le32=>rfl)
  (case lk32=>k_is)
  (case lp32=>rfl)
  (case yy0=>k_is)
  (case hh0=>k_is)
  (case z0=>k_is)
  (case z1=>k_is)
  (case z2=>k_is)
  (case z3=>k_is)
  (case z4=>k_is)
  (case z5=>k_is)
  (case z6=>k_is)
  (case z7=>k_is)
  (case z8=>k_is)
  (case z9=>k_is)
  (case z10=>k_is)
  (case z11=>k_is)
  (case z12=>k_is)
  (case z13=>k_is)
  (case z14=>k_is)
  (case z15=>k_is)
  (case z16=>k_is)
  (case z17=>k_is)
  (case z18=>k_is)
  all_goals (apply K40.dn;k_is;k_is;k_is;k_is)
end
#print axioms PySem.Challenge.cw_boxlayers_k40_drawn_by_keys_holds
