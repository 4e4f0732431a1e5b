import PyProof.Rows.All
import Wide.All
import OpenK.AllK
import Wide.FinOn
import Lean
import PyProof.EqAt
import PyProof.EqKinds
import PyProof.TupleCall
import PyProof.CompFree
import PyProof.ZipIter
import PyProof.Cells
import PyProof.Rows.CellsFrame
import PyProof.EnumMake
import PyProof.TupleIter
import PyProof.IsiPairs
import PyProof.IsiSeqPairs
import PyProof.IsiNone
import PyProof.ConsumeWalk
import PyProof.DictCompW
import PyProof.NeKinds
import PyProof.MinMaxWalk
import PyProof.Rows.SortRev
import KE.KIsAll
import KE.KDictOf
import PyProof.AttrMissHeap
import PyProof.CallFns
import KE.KLam
import KE.KSortKey
import PyProof.MaxThree
import KE.KDictList
import PyProof.DictRoadsH
import PyProof.DictUpdate
import PyProof.DictWalks
import PySem.Challenge.RW_boxlayers_k44_whole_looks_at_no_more
set_option Elab.async false
set_option linter.all false
namespace K44H
section
open PySem PySem.W PyProof.Rows
def top (i : Nat) : Stmt := PySem.Challenge.pw_boxlayers_k44_whole_looks_at_no_more.main.body.getD i (.Pass ⟨0, 0, 0, 0⟩)
noncomputable def view:Program:={ PySem.Challenge.pw_boxlayers_k44_whole_looks_at_no_more with main:={ PySem.Challenge.pw_boxlayers_k44_whole_looks_at_no_more.main with body:=[top 1,top 2,top 3,top 4,top 5,top 6,top 7,top 8,top 9,top 10,top 11,top 12,top 14,top 16,top 17,top 18,top 19,top 20,top 22,top 23,top 24,top 25,top 26,top 27,top 28,top 29,top 30,top 31,top 32,top 33,top 34,top 35,top 36,top 37,top 38,top 39,top 40,top 41,top 42] } }
local macro_rules | `(tactic| o_head (kmHook $k $a $e $t)) => `(tactic| (assumption; exact ($a, $t)))
set_option maxRecDepth 100000 in
set_option maxHeartbeats 0 in
noncomputable def hk : List Addr × List Addr := by
  refine (fun (_ : (OpenLaw.row PySem.Challenge.rw_boxlayers_k44_whole_looks_at_no_more).Holds → (OpenLaw.row PySem.Challenge.rw_boxlayers_k44_whole_looks_at_no_more).Holds) => ?a) (fun h => ?b)
  rotate_left
  k_head
noncomputable abbrev hook : Hook := kmHook hk.heap_1 hk.1 (fun _ => by kernel_rfl) hk.2
theorem four {u v a1 a2 a3 a4 a5 : Type} {o : Option u} {g : u → Option v} {A : v → a1} {B1 : v → a2} {B2 : v → a3} {C : v → a4} {E : v → a5} {a : a1} {b1 : a2} {b2 : a3} {c : a4} {e : a5} (h1 : o.map (fun x => (g x).map A) = some (some a)) (h2 : o.map (fun x => (g x).map fun s => (B1 s, B2 s)) = some (some (b1, b2))) (h3 : o.map (fun x => (g x).map C) = some (some c)) (h4 : o.map (fun x => (g x).map E) = some (some e)) : o.map (fun x => (g x).map fun s => ((A s, B1 s, B2 s, C s), E s)) = some (some ((a, b1, b2, c), e)) := by
  cases o with
  | none => cases h1
  | some x =>
    have k1 : (g x).map A = some a := Option.some.inj h1
    have k2 : ((g x).map fun s => (B1 s, B2 s)) = some (b1, b2) := Option.some.inj h2
    have k3 : (g x).map C = some c := Option.some.inj h3
    have k4 : (g x).map E = some e := Option.some.inj h4
    show some ((g x).map _) = _
    cases hg : g x with
    | none => rw [hg] at k1; cases k1
    | some s =>
      rw [hg] at k1 k2 k3 k4
      have m1 : A s = a := Option.some.inj k1
      have m2 : (B1 s, B2 s) = (b1, b2) := Option.some.inj k2
      have m3 : C s = c := Option.some.inj k3
      have m4 : E s = e := Option.some.inj k4
      have m5 : B1 s = b1 := (Prod.mk.inj m2).1
      have m6 : B2 s = b2 := (Prod.mk.inj m2).2
      subst m1 m3 m4 m5 m6
      rfl
set_option maxRecDepth 100000 in
set_option maxHeartbeats 0 in
theorem headFa (w : World) : (fencedOpening treeTable (OpenLaw.row PySem.Challenge.rw_boxlayers_k44_whole_looks_at_no_more).prog w 10000).map (fun a => (topFrom treeTable (OpenLaw.row PySem.Challenge.rw_boxlayers_k44_whole_looks_at_no_more).prog (w.withFollow "special-get-raises" false) 10000 a).map (fun s => (openSeen view [] (importedModules (OpenLaw.row PySem.Challenge.rw_boxlayers_k44_whole_looks_at_no_more).prog.main.body) (fun s => xlAt view [] s && recOk (RowW.records (OpenRow.toRowW (OpenLaw.row PySem.Challenge.rw_boxlayers_k44_whole_looks_at_no_more))) s) true s).1)) = some (some ((openGood view []).1)) := by kernel_rfl
set_option maxRecDepth 100000 in
set_option maxHeartbeats 0 in
theorem headFb (w : World) : (fencedOpening treeTable (OpenLaw.row PySem.Challenge.rw_boxlayers_k44_whole_looks_at_no_more).prog w 10000).map (fun a => (topFrom treeTable (OpenLaw.row PySem.Challenge.rw_boxlayers_k44_whole_looks_at_no_more).prog (w.withFollow "special-get-raises" false) 10000 a).map (fun s => ((openSeen view [] (importedModules (OpenLaw.row PySem.Challenge.rw_boxlayers_k44_whole_looks_at_no_more).prog.main.body) (fun s => xlAt view [] s && recOk (RowW.records (OpenRow.toRowW (OpenLaw.row PySem.Challenge.rw_boxlayers_k44_whole_looks_at_no_more))) s) true s).2.1, (openSeen view [] (importedModules (OpenLaw.row PySem.Challenge.rw_boxlayers_k44_whole_looks_at_no_more).prog.main.body) (fun s => xlAt view [] s && recOk (RowW.records (OpenRow.toRowW (OpenLaw.row PySem.Challenge.rw_boxlayers_k44_whole_looks_at_no_more))) s) true s).2.2.1))) = some (some (((openGood view []).2.1, (openGood view []).2.2.1))) := by kernel_rfl
set_option maxRecDepth 100000 in
set_option maxHeartbeats 0 in
theorem headFc (w : World) : (fencedOpening treeTable (OpenLaw.row PySem.Challenge.rw_boxlayers_k44_whole_looks_at_no_more).prog w 10000).map (fun a => (topFrom treeTable (OpenLaw.row PySem.Challenge.rw_boxlayers_k44_whole_looks_at_no_more).prog (w.withFollow "special-get-raises" false) 10000 a).map (fun s => (openSeen view [] (importedModules (OpenLaw.row PySem.Challenge.rw_boxlayers_k44_whole_looks_at_no_more).prog.main.body) (fun s => xlAt view [] s && recOk (RowW.records (OpenRow.toRowW (OpenLaw.row PySem.Challenge.rw_boxlayers_k44_whole_looks_at_no_more))) s) true s).2.2.2)) = some (some ((openGood view []).2.2.2)) := by kernel_rfl
set_option maxRecDepth 100000 in
set_option maxHeartbeats 0 in
theorem headFd (w : World) : (fencedOpening treeTable (OpenLaw.row PySem.Challenge.rw_boxlayers_k44_whole_looks_at_no_more).prog w 10000).map (fun a => (topFrom treeTable (OpenLaw.row PySem.Challenge.rw_boxlayers_k44_whole_looks_at_no_more).prog (w.withFollow "special-get-raises" false) 10000 a).map (fun s => Hook.obs hook s)) = some (some (Hook.val hook (w.withFollow "special-get-raises" false))) := by kernel_rfl
theorem headF (w : World) : (fencedOpening treeTable (OpenLaw.row PySem.Challenge.rw_boxlayers_k44_whole_looks_at_no_more).prog w 10000).map (fun a => (topFrom treeTable (OpenLaw.row PySem.Challenge.rw_boxlayers_k44_whole_looks_at_no_more).prog (w.withFollow "special-get-raises" false) 10000 a).map (fun s => ((openSeen view [] (importedModules (OpenLaw.row PySem.Challenge.rw_boxlayers_k44_whole_looks_at_no_more).prog.main.body) (fun s => xlAt view [] s && recOk (RowW.records (OpenRow.toRowW (OpenLaw.row PySem.Challenge.rw_boxlayers_k44_whole_looks_at_no_more))) s) true s), Hook.obs hook s))) = some (some ((openGood view []), Hook.val hook (w.withFollow "special-get-raises" false))) := four (headFa w) (headFb w) (headFc w) (headFd w)
set_option maxRecDepth 100000 in
set_option maxHeartbeats 0 in
theorem headTa (w : World) : (fencedOpening treeTable (OpenLaw.row PySem.Challenge.rw_boxlayers_k44_whole_looks_at_no_more).prog w 10000).map (fun a => (topFrom treeTable (OpenLaw.row PySem.Challenge.rw_boxlayers_k44_whole_looks_at_no_more).prog (w.withFollow "special-get-raises" true) 10000 a).map (fun s => (openSeen view [] (importedModules (OpenLaw.row PySem.Challenge.rw_boxlayers_k44_whole_looks_at_no_more).prog.main.body) (fun s => xlAt view [] s && recOk (RowW.records (OpenRow.toRowW (OpenLaw.row PySem.Challenge.rw_boxlayers_k44_whole_looks_at_no_more))) s) true s).1)) = some (some ((openGood view []).1)) := by kernel_rfl
set_option maxRecDepth 100000 in
set_option maxHeartbeats 0 in
theorem headTb (w : World) : (fencedOpening treeTable (OpenLaw.row PySem.Challenge.rw_boxlayers_k44_whole_looks_at_no_more).prog w 10000).map (fun a => (topFrom treeTable (OpenLaw.row PySem.Challenge.rw_boxlayers_k44_whole_looks_at_no_more).prog (w.withFollow "special-get-raises" true) 10000 a).map (fun s => ((openSeen view [] (importedModules (OpenLaw.row PySem.Challenge.rw_boxlayers_k44_whole_looks_at_no_more).prog.main.body) (fun s => xlAt view [] s && recOk (RowW.records (OpenRow.toRowW (OpenLaw.row PySem.Challenge.rw_boxlayers_k44_whole_looks_at_no_more))) s) true s).2.1, (openSeen view [] (importedModules (OpenLaw.row PySem.Challenge.rw_boxlayers_k44_whole_looks_at_no_more).prog.main.body) (fun s => xlAt view [] s && recOk (RowW.records (OpenRow.toRowW (OpenLaw.row PySem.Challenge.rw_boxlayers_k44_whole_looks_at_no_more))) s) true s).2.2.1))) = some (some (((openGood view []).2.1, (openGood view []).2.2.1))) := by kernel_rfl
set_option maxRecDepth 100000 in
set_option maxHeartbeats 0 in
theorem headTc (w : World) : (fencedOpening treeTable (OpenLaw.row PySem.Challenge.rw_boxlayers_k44_whole_looks_at_no_more).prog w 10000).map (fun a => (topFrom treeTable (OpenLaw.row PySem.Challenge.rw_boxlayers_k44_whole_looks_at_no_more).prog (w.withFollow "special-get-raises" true) 10000 a).map (fun s => (openSeen view [] (importedModules (OpenLaw.row PySem.Challenge.rw_boxlayers_k44_whole_looks_at_no_more).prog.main.body) (fun s => xlAt view [] s && recOk (RowW.records (OpenRow.toRowW (OpenLaw.row PySem.Challenge.rw_boxlayers_k44_whole_looks_at_no_more))) s) true s).2.2.2)) = some (some ((openGood view []).2.2.2)) := by kernel_rfl
set_option maxRecDepth 100000 in
set_option maxHeartbeats 0 in
theorem headTd (w : World) : (fencedOpening treeTable (OpenLaw.row PySem.Challenge.rw_boxlayers_k44_whole_looks_at_no_more).prog w 10000).map (fun a => (topFrom treeTable (OpenLaw.row PySem.Challenge.rw_boxlayers_k44_whole_looks_at_no_more).prog (w.withFollow "special-get-raises" true) 10000 a).map (fun s => Hook.obs hook s)) = some (some (Hook.val hook (w.withFollow "special-get-raises" true))) := by kernel_rfl
theorem headT (w : World) : (fencedOpening treeTable (OpenLaw.row PySem.Challenge.rw_boxlayers_k44_whole_looks_at_no_more).prog w 10000).map (fun a => (topFrom treeTable (OpenLaw.row PySem.Challenge.rw_boxlayers_k44_whole_looks_at_no_more).prog (w.withFollow "special-get-raises" true) 10000 a).map (fun s => ((openSeen view [] (importedModules (OpenLaw.row PySem.Challenge.rw_boxlayers_k44_whole_looks_at_no_more).prog.main.body) (fun s => xlAt view [] s && recOk (RowW.records (OpenRow.toRowW (OpenLaw.row PySem.Challenge.rw_boxlayers_k44_whole_looks_at_no_more))) s) true s), Hook.obs hook s))) = some (some ((openGood view []), Hook.val hook (w.withFollow "special-get-raises" true))) := four (headTa w) (headTb w) (headTc w) (headTd w)
theorem two_map {u v : Type} {o : Option u} {A B : u → v} {a b : v} (h1 : o.map A = some a) (h2 : o.map B = some b) : o.map (fun s => (A s, B s)) = some (a, b) := by
  cases o with
  | none => cases h1
  | some s => exact congrArg some (congr (congrArg Prod.mk (Option.some.inj h1)) (Option.some.inj h2))
theorem left : LeftO (OpenLaw.row PySem.Challenge.rw_boxlayers_k44_whole_looks_at_no_more).prog view [] (fun s => xlAt view [] s && recOk (RowW.records (OpenRow.toRowW (OpenLaw.row PySem.Challenge.rw_boxlayers_k44_whole_looks_at_no_more))) s) (Hook.obs hook) (Hook.val hook) 10000 := LeftO.of_split "special-get-raises" fun w => @two_map _ _ _ _ _ _ _ (headF w) (headT w)
end
end K44H
open PySem PySem.Spec PyProof.Rows
open List (of_mem_zip replicate map_nil all_cons forIn_nil forIn_cons zipIdx_cons take_left' filter_sublist nodup_nil length_range length_zip map_take sum_cons filter_map)
noncomputable section
set_option Elab.async false
set_option linter.all false
set_option maxRecDepth 100000
section
def xS:=@Array.getElem?_eq_getElem
def wI:=@Array.getElem?_eq_none
def yo:=@Array.getElem?_map
def yn:=@Array.getElem?_toList
def xX:=@Array.length_toList
def yO:=@Array.size_range
def yD:=@Array.toArray_toList
def zM:=@Bool.and_eq_true
def wj:=@Bool.eq_iff_iff
def zU:=@Bool.false_eq_true
def zy:=@Bool.false_ne_true
def ze:=@Heap.get?_push_of_some
def zq:=@Heap.get?_push_size
def wm:=@Heap.get?_update_other
def xN:=@Heap.get?_update_self
def zp:=@Heap.lt_size
def xU:=@Heap.size_push
def wU:=@Int.emod_lt_of_pos
def wC:=@Int.emod_nonneg
def xO:=@Int.eq_ofNat_of_zero_le
def yr:=@Int.le_refl
def yH:=@Int.toNat_natCast
def wT:=@List.all_eq_true
def yI:=@List.any_cons
def yN:=@List.any_eq_true
def yG:=@List.append_assoc
def wB:=@List.append_nil
def yC:=@List.drop_left'
def yL:=@List.filterMap_cons
def yW:=@List.filterMap_map
def ym:=@List.filter_append
def xp:=@List.filter_cons_of_neg
def xn:=@List.filter_cons_of_pos
def wA:=@List.find?_cons
def wb:=@List.flatMap_cons
def yF:=@List.flatten_cons
def zL:=@List.getD_eq_getElem?_getD
def xv:=@List.getElem?_append_left
def xk:=@List.getElem?_append_right
def yl:=@List.getElem?_drop
def zd:=@List.getElem?_eq_getElem
def zn:=@List.getElem?_eq_some_iff
def zt:=@List.getElem?_map
def yK:=@List.getElem?_range
def xi:=@List.getElem?_replicate
def zY:=@List.getElem?_set_ne
def zT:=@List.getElem?_set_self
def wl:=@List.getElem_mem
def zI:=@List.length_append
def zK:=@List.length_cons
def zX:=@List.length_eq_zero_iff
def yk:=@List.length_filter_le
def zg:=@List.length_map
def yX:=@List.length_nil
def xu:=@List.length_replicate
def yM:=@List.length_take
def wt:=@List.length_zipWith
def xB:=@List.lookup_cons
def al_List_lookup_cons_self:=@List.lookup_cons_self
def zS:=@List.map_append
def ye:=@List.map_congr_left
def zJ:=@List.map_cons
def zE:=@List.map_map
def yJ:=@List.map_zip_eq_zipWith
def zW:=@List.mem_append
def xj:=@List.mem_append_left
def zr:=@List.mem_append_right
def zi:=@List.mem_cons
def zm:=@List.mem_cons_of_mem
def xh:=@List.mem_cons_self
def zx:=@List.mem_filter
def zk:=@List.mem_map
def zP:=@List.mem_of_getElem?
def yj:=@List.mem_range
def zG:=@List.mem_singleton
def wg:=@List.nil_append
def wu:=@List.nodup_append
def xz:=@List.nodup_cons
def wH:=@List.nodup_iff_pairwise_ne
def zZ:=@List.not_mem_nil
def xM:=@List.pairwise_cons
def wN:=@List.pairwise_iff_getElem
def xG:=@List.pairwise_map
def wy:=@List.perm_append_comm
def wK:=@List.replicate_succ
def zw:=@List.size_toArray
def wM:=@List.sublist_append_right
def xC:=@List.take_add_one
def wF:=@List.take_length
def yU:=@List.take_of_length_le
def va:=@List.take_sublist
def xI:=@List.zipWith_cons_cons
def wf:=@List.zip_cons_cons
def yB:=@Nat.le_of_lt
def yh:=@Nat.le_of_not_lt
def zo:=@Nat.le_refl
def xq:=@Nat.le_succ
def zB:=@Nat.le_trans
def xm:=@Nat.lt_irrefl
def zQ:=@Nat.lt_of_lt_of_le
def xR:=@Nat.lt_succ_of_lt
def yA:=@Nat.mod_lt
def xJ:=@Nat.ne_of_gt
def zA:=@Nat.ne_of_lt
def wa:=@Nat.zero_le
def zF:=@Option.some.inj
def zN:=@decide_eq_false
def xo:=@decide_eq_true
def wJ:=@decide_eq_true_eq
def zb:=@wpAny_bind
def we:=@wpAny_callSpecial?_slot
def wS:=@wpAny_call_entry
def yz:=@wpAny_comprehension_free
def xQ:=@wpAny_dictEntries
def wV:=@wpAny_field
def xF:=@wpAny_holding
def yq:=@wpAny_letGo
def wE:=@wpAny_mono
def xZ:=@wpAny_newObj_type
def yx:=@wpAny_passesOwn
def zf:=@wpAny_pure
def yE:=@wpAny_pyIter_list
def yT:=@wpAny_rule
def wx:=@wpAny_seqItems
def yi:=@wpAny_setField_rec
def xY:=@wpAny_truthy_bool
def wQ:=@wpAny_typeNameOfWhole_keyiter
def yw:=@wpAny_typeNameOf_keyiter
def xy:=@wpS_bind
def ww:=@wpS_pure
end
def w5 {p:Prop}(h:p:=by lia):p:=h
def w6 {p:Prop}(h:p:=by decide):p:=h
def x6 {p:Prop}(h:p:=by decide +kernel):p:=h
local macro_rules|`(tactic|exists $t)=>`(tactic|with_unfolding_all exact $t)
namespace L2
abbrev Key:=Sum Int Str
def zc9:Key->Value->Bool
 |.inl k,v=>Value.isInt k v
 |.inr x,v=>Value.isStrOf x v
def xO7(w:World):Key->Int
 |.inl k=>hashInt k
 |.inr x=>hashStr w x
theorem vB:∀{k:Key}{v:Value},zc9 k v=true->(∃i t,k=Sum.inl i/\v=Value.int i t)\/(∃x t,k=Sum.inr x/\v=Value.str x t)
 |.inl i,v,h=>by
  obtain⟨t,e⟩:=Value.isInt_shape (k:=i) (v:=v) h;exact .inl ⟨i,t,rfl,e⟩
 |.inr x,v,h=>by
  obtain⟨t,e⟩:=Value.isStrOf_shape (x:=x) (v:=v) h;exact .inr ⟨x,t,rfl,e⟩
def zo1(i:Int)(t:Tok):zc9 (.inl i) (.int i t)=true:=by simp[zc9,Value.isInt]
def zo0(x:Str)(t:Tok):zc9 (.inr x) (.str x t)=true:=by simp[zc9,Value.isStrOf]
def xe5(a b:Int):decide ((Sum.inl a:Key)=Sum.inl b)=(a == b):=by
 by_cases e:a=b
 ·subst e;simp
 ·have h:¬ (Sum.inl a:Key)=Sum.inl b:=λq=>e (Sum.inl.inj q);rw[zN h];exact(beq_eq_false_iff_ne.mpr e).symm
def xe2(a b:Str):decide ((Sum.inr a:Key)=Sum.inr b)=decide (a=b):=by
 by_cases e:a=b
 ·subst e;simp
 ·have h:¬ (Sum.inr a:Key)=Sum.inr b:=λq=>e (Sum.inr.inj q);rw[zN h,zN e]
def xe4(a:Int)(b:Str):decide ((Sum.inl a:Key)=Sum.inr b)=false:=zN (λq=>nomatch q)
def xe3(a:Str)(b:Int):decide ((Sum.inr a:Key)=Sum.inl b)=false:=zN (λq=>nomatch q)
def yp(prog:Program)(w:World):PySem.KeyKind prog w Key where
 is:=zc9
 hash:=xO7 w
 inj:=λv a b ha hb=>by
  rcases vB ha with ⟨i,t,rfl,rfl⟩ |⟨x,t,rfl,rfl⟩
  ·rcases vB hb with ⟨j, u, rfl, e⟩ | ⟨y, u, rfl, e⟩
   ·injection e with e1 _;rw[e1]
   ·exact nomatch e
  ·rcases vB hb with ⟨j, u, rfl, e⟩ | ⟨y, u, rfl, e⟩
   ·exact nomatch e
   ·injection e with e1 _;rw[e1]
 byValue:=λk v h=>by
  rcases vB h with ⟨i,t,rfl,rfl⟩ |⟨x,t,rfl,rfl⟩<;>rfl
 pyHash:=λhv h=>by
  rcases vB hv with ⟨i,t,rfl,rfl⟩ |⟨x,t,rfl,rfl⟩
  ·exact wpAny_pyHash_int h
  ·exact wpAny_pyHash_str h
 eqBool:=λhu hv h=>by
  rcases vB hu with ⟨i,t,rfl,rfl⟩ |⟨x,t,rfl,rfl⟩
  ·rcases vB hv with ⟨j, u, rfl, rfl⟩ | ⟨y, u, rfl, rfl⟩
   ·rw[xe5] at h;exact wpAny_eqBool_int h
   ·rw[xe4] at h;exact SeqAt.EqAt.int_str i t y u _ _ _ _ h
  ·rcases vB hv with ⟨j, u, rfl, rfl⟩ | ⟨y, u, rfl, rfl⟩
   ·rw[xe3] at h;exact SeqAt.EqAt.str_int x t j u _ _ _ _ h
   ·rw[xe2] at h;exact wpAny_eqBool_str h
 «strs»:=λk x t v h=>by
  rcases vB h with ⟨i,u,rfl,e⟩ |⟨y,u,rfl,e⟩
  ·exact nomatch e
  ·injection e with e1 _;subst e1
   cases v<;>rfl
def Jo(prog:Program)(w:World)(i:Int)(t:Tok):(yp prog w).is (.inl i) (.int i t)=true:=zo1 i t
def Jn(prog:Program)(w:World)(x:Str)(t:Tok):(yp prog w).is (.inr x) (.str x t)=true:=zo0 x t
inductive V where
 |non |bl (b:Bool) |int (i:Int) |str (x:Str) |byt (b:Array UInt8) |flt (b:UInt64) |ref (a:Addr) |ty (n:String)
 deriving DecidableEq
def RelV:V->Value->Prop
 |.non,u=>u=Value.none
 |.bl b,u=>u=Value.bool b
 |.int i,u=>∃t,u=Value.int i t
 |.str x,u=>∃t,u=Value.str x t
 |.byt b,u=>∃t,u=Value.bytes b t
 |.flt b,u=>∃t,u=Value.float b t
 |.ref a,u=>u=Value.ref a
 |.ty n,u=>u=Value.type n
abbrev Vals:List V->List Value->Prop:=Paired RelV
def Vals.length{xs:List V}{us:List Value}(r:Vals xs us):xs.length=us.length:=Paired.length r
theorem Vals.get:∀{xs:List V}{us:List Value}{i:Nat}{x:V},Vals xs us->xs[i]?=some x->∃u,us[i]?=some u/\RelV x u
 |_,_,_,_,.nil,e=>by simp at e
 |_,_,0,_,.cons r _,e=>by simp at e;subst e;exact⟨_,rfl,r⟩
 |_,_,i+1,x,.cons _ t,e=>by
  obtain⟨u,h1,h2⟩:=Vals.get (i:=i) (x:=x) t (by simpa using e)
  exact⟨u,by simpa using h1,h2⟩
theorem Vals.set{x:V}{u:Value}(r:RelV x u):∀{xs:List V}{us:List Value} (i:Nat),Vals xs us->Vals (xs.set i x) (us.set i u)
 |_,_,_,.nil=>.nil
 |_,_,0,.cons _ t=>.cons r t
 |_,_,i+1,.cons q t=>.cons q (Vals.set r i t)
theorem Vals.append:∀{xs ys:List V}{us ws:List Value},Vals xs us->Vals ys ws->Vals (xs++ys) (us++ws)
 |_,_,_,_,.nil,s=>s
 |_,_,_,_,.cons r t,s=>.cons r (Vals.append t s)
theorem Vals.take:∀{xs:List V}{us:List Value} (n:Nat),Vals xs us->Vals (xs.take n) (us.take n)
 |_,_,0,_=>.nil
 |_,_,_+1,.nil=>.nil
 |_,_,n+1,.cons r t=>.cons r (Vals.take n t)
theorem Vals.drop:∀{xs:List V}{us:List Value} (n:Nat),Vals xs us->Vals (xs.drop n) (us.drop n)
 |_,_,0,r=>r
 |_,_,_+1,.nil=>.nil
 |_,_,n+1,.cons _ t=>Vals.drop n t
def RelO:Option V->Option Value->Prop
 |some v,some u=>RelV v u
 |none,none=>True
 |_,_=>False
def KV{κ:Type}:List (κ × V)->List (κ × Value)->Prop:=Paired fun(p:κ × V) (q:κ × Value)=>p.1=q.1/\RelV p.2 q.2
def kV:Key->V
 |.inl i=>.int i
 |.inr x=>.str x
inductive HO where
 /-- a list -/
 |lst (xs:List V)
 /-- a tuple (never changes) -/
 |tup (xs:List V)
 /-- a dict whose keys are ints and texts; one whose keys are tuples of ints and texts (the empty one is both) -/
 |dK (kvs:List (Key × V)) |dT (kvs:List (List Key × V))
 /-- a set of ints: its members, its size -/
 |set (S:Int->Bool) (n:Nat)
 /-- an instance of the class at C, its dict at dx, its attributes -/
 |ins (C dx:Addr) (fs:List (Str × V))
 /-- the dict of the instance at x -/
 |own (x:Addr)
 /-- the dict of an exception -/
 |xd (fs:List (Str × V))
 /-- a bound method, f of x -/
 |met (f x:Addr)
 /-- a range object lo, lo + 1, .. below hi -/
 |rng (lo hi:Int)
 /-- a thing that is known to the object (the script; a dict while a loop walks it): read, never written while it is so -/
 |frz (o:Obj) (u:HO)
 /-- a code object's table -/
 |tbl (ps:Array Value)
 /-- a code object's table: the code objects in it are known and stay -/
 |cot (q:Str)
 /-- any other thing, by what is true of its one object (a def of one's own: SetO a S n := HO.ext λh => ..) -/
 |ext (φ:Heap->Prop)
abbrev Hp:=Addr->Option HO
def upd(H:Hp)(a:Addr)(o:HO):Hp:=λb=>if b=a then some o else H b
def wZ{H:Hp}{a:Addr}{o:HO}:upd H a o a=some o:=by unfold upd;rw[if_pos rfl]
def xV{H:Hp}{a b:Addr}{o:HO}(h:b≠a):upd H a o b=H b:=by unfold upd;rw[if_neg h]
def yc{H:Hp}{a b:Addr}{o:HO}(h:H a=some o)(h':H b=none):a≠b:=by
 intro e;subst e;rw[h] at h';cases h'
def xj0(oc:Obj)(q:Str):Prop:=∃vs t,oc.data=.fields vs/\vs[1]?=some (.str q t)
inductive TabG(φ:Addr->Prop):List Value->Prop where
 |nil:TabG φ []
 |cons {i j:Int}{t u:Tok}{c:Addr}{r:List Value} (h:φ c) (g:TabG φ r):TabG φ (.int i t::.int j u::.ref c::r)
def TabG.imp{φ ψ:Addr->Prop}(f:∀c,φ c->ψ c){l:List Value}(g:TabG φ l):TabG ψ l:=by
 induction g with
 |nil=>exact .nil
 |cons h _ ih=>exact .cons (f _ h) ih
section
variable (P:Program) (w:World)
def ObjOk(H:Hp)(h:Heap)(a:Addr):HO->Prop
 |.lst xs=>xs.length<=sizeLine/\∃(its:List Value) (n:Nat),Vals xs its/\h.get? a=some { cls:=.type "list",data:=.seq its.toArray n }
 |.tup xs=>xs.length<=sizeLine/\∃its:List Value,Vals xs its/\IsTup h a its.toArray
 |.dK kvs=>kvs.length<=sizeLine/\(a == sysModules)=false/\∃vs,KV kvs vs/\h.DictOf (yp P w) a vs
 | .dT kvs => kvs.length <= sizeLine /\ (a == sysModules) = false /\ ∃ xs : List (List Key × Addr × Value),
   Paired (fun(p:List Key × V) (q:List Key × Addr × Value)=>p.1=q.1/\H q.2.1=some (.tup (p.1.map kV))/\RelV p.2 q.2.2) kvs xs /\
   ∃o es ep,h.get? a=some o/\o.ExactDict/\o.data=.dict es ep/\es.toList=xs.map (entryOfKey (tupleKind (yp P w)))/\(xs.map (·.1)).Nodup
 |.set S n=>h.SetOf (intKind P w) a S n
 | .ins C dx fs => H dx = some (.own a) /\ fs.length <= 1000 /\ dx ≠ a /\ h.get? a = some (W.instObj C dx) /\
   ∃mA,h.Ns1 dx mA/\(∀f,RelO (fs.lookup f) (mA f))/\PySem.Within mA (fs.map (·.1))
 |.own _=>∃o,h.get? a=some o
 |.xd fs=>∃mA,h.Ns1 a mA/\∀f,RelO (fs.lookup f) (mA f)
 |.rng lo hi=>∃t u v,h.get? a=some { cls:=.type "range",data:=.fields #[.int lo t,.int hi u,.int 1 v] }
 |.frz o u=>h.get? a=some o/\ObjOk H h a u
 |.tbl ps=>h.get? a=some { cls:=.none,data:=.fields ps }
 |.cot q=>∃ps:Array Value,h.get? a=some { cls:=.none,data:=.fields ps }/\TabG (λc=>∃oc,H c=some (.frz oc (.own 0))/\xj0 oc q) ps.toList
 |.met f x=>h.get? a=some (W.methodObj (.ref f) (.ref x))
 |.ext φ=>φ h/\(∃o,h.get? a=some o)/\∀h1 h2:Heap,φ h1->(∀o,h1.get? a=some o->h2.get? a=some o)->φ h2
def HOk(H:Hp)(h:Heap):Prop:=∀a o,H a=some o->ObjOk P w H h a o
end
section
variable {P:Program}{w:World}{H H':Hp}{h h':Heap}{a:Addr}{o:HO}
def ObjOk.lt(x:ObjOk P w H h a o):a<h.objs.size:=by
 cases o with
 |lst xs=>obtain⟨_,_,_,_,e⟩:=x;exact zp e
 |tup xs=>obtain⟨_,_,_,p⟩:=x;exact p.lt
 |dK kvs=>obtain⟨_,_,_,_,o,_,_,e,_⟩:=x;exact zp e
 |dT kvs=>obtain⟨_,_,_,_,o,_,_,e,_⟩:=x;exact zp e
 |set S n=>obtain⟨o,_,_,_,e,_⟩:=x;exact zp e
 |ins C dx fs=>obtain⟨_,_,_,e,_⟩:=x;exact zp e
 |own y=>obtain⟨_,e⟩:=x;exact zp e
 |xd fs=>obtain⟨_,⟨_,_,_,e,_⟩,_⟩:=x;exact zp e
 |rng lo hi=>obtain⟨_,_,_,e⟩:=x;exact zp e
 |frz ob u=>obtain⟨e,_⟩:=x;exact zp e
 |tbl ps=>exact zp (show h.get? a=some _ from x)
 |cot q=>obtain⟨ps,e,_⟩:=x;exact zp e
 |met f y=>exact zp (show h.get? a=some _ from x)
 |ext φ=>obtain⟨_,⟨_,e⟩,_⟩:=x;exact zp e
theorem Paired.mapP{α β:Type}{F G:α->β->Prop}:∀{l₁:List α}{l₂:List β},Paired F l₁ l₂->(∀a b,F a b->G a b)->Paired G l₁ l₂
 |_,_,.nil,_=>.nil
 |_,_,.cons r t,f=>.cons (f _ _ r) (Paired.mapP t f)
def ObjOk.stay(x:ObjOk P w H h a o)(k:∀b u,(b=a\/H b=some (.own a))->h.get? b=some u->h'.get? b=some u)
  (ho:∀b,H b=some (.own a)->H' b=some (.own a)) (ht:∀b xs,H b=some (.tup xs)->H' b=some (.tup xs)) (hz:∀b o u,H b=some (.frz o u)->H' b=some (.frz o u)):ObjOk P w H' h' a o:=by
 induction o with
 |lst xs=>obtain⟨z,its,n,r,e⟩:=x;exact⟨z,its,n,r,k _ _ (.inl rfl) e⟩
 |tup xs=>obtain⟨z,its,r,ob,e,c⟩:=x;exact⟨z,its,r,ob,k _ _ (.inl rfl) e,c⟩
 |dK kvs=>obtain⟨z,y,vs,r,ob,es,ep,e,c⟩:=x;exact⟨z,y,vs,r,ob,es,ep,k _ _ (.inl rfl) e,c⟩
 |dT kvs=>
  obtain⟨z,y,xs,r,ob,es,ep,e,c⟩:=x;exact⟨z,y,xs,Paired.mapP r λp q z=>⟨z.1,ht _ _ z.2.1,z.2.2⟩,ob,es,ep,k _ _ (.inl rfl) e,c⟩
 |set S n=>obtain⟨ob,es,ep,t,e,c⟩:=x;exact⟨ob,es,ep,t,k _ _ (.inl rfl) e,c⟩
 |ins C dx fs=>
  obtain⟨d,z,ne,e,mA,⟨od,es,ep,e2,c⟩,r⟩:=x;exact⟨ho _ d,z,ne,k _ _ (.inl rfl) e,mA,⟨od,es,ep,k _ _ (.inr d) e2,c⟩,r⟩
 |own y=>obtain⟨ob,e⟩:=x;exact⟨ob,k _ _ (.inl rfl) e⟩
 |xd fs=>obtain⟨mA,⟨od,es,ep,e,c⟩,r⟩:=x;exact⟨mA,⟨od,es,ep,k _ _ (.inl rfl) e,c⟩,r⟩
 |rng lo hi=>obtain⟨t,u,v,e⟩:=x;exact⟨t,u,v,k _ _ (.inl rfl) e⟩
 |frz ob u ih=>obtain⟨e,q⟩:=x;exact⟨k _ _ (.inl rfl) e,ih q⟩
 |cot q=>obtain⟨ps,e,g⟩:=x;exact⟨ps,k _ _ (.inl rfl) e,g.imp λc ⟨oc,z,i⟩=>⟨oc,hz _ _ _ z,i⟩⟩
 |tbl ps=>
  have e:h.get? a=some { cls:=.none,data:=.fields ps }:=x;show h'.get? a=some { cls:=.none,data:=.fields ps };exact k a _ (.inl rfl) e
 |met f y=>
  have e:h.get? a=some (W.methodObj (.ref f) (.ref y)):=x;show h'.get? a=some (W.methodObj (.ref f) (.ref y));exact k a _ (.inl rfl) e
 |ext φ=>obtain⟨p,⟨o,e⟩,st⟩:=x;exact⟨st _ _ p λo q=>k _ _ (.inl rfl) q,⟨o,k _ _ (.inl rfl) e⟩,st⟩
def HOk.lt(x:HOk P w H h)(e:H a=some o):a<h.objs.size:=(x a o e).lt
def HOk.fresh(x:HOk P w H h)(e:h.objs.size<=a):H a=none:=by
 cases q:H a with
 |none=>rfl
 |some u=>exact absurd (zQ (x.lt q) e) (xm _)
def HOk.kept(x:HOk P w H h)(k:∀b u,h.get? b=some u->h'.get? b=some u):HOk P w H h':=λa o e=>
 (x a o e).stay (λb u _ q=>k b u q) (λ_ q=>q) (λ_ _ q=>q) λ_ _ _ q=>q
def HOk.laid(x:HOk P w H h)(k:∀b u,h.get? b=some u->h'.get? b=some u)(hp:h.objs.size<=a)(new:ObjOk P w (upd H a o) h' a o):HOk P w (upd H a o) h':=λb u e=>by
 have hn:=x.fresh hp
 by_cases hb:b=a
 ·subst hb;rw[wZ] at e;cases e;exact new
 ·rw [xV hb] at e
  exact(x b u e).stay (λc v _ q=>k c v q) (λc q=>by rw[xV (yc q hn)];exact q) (λc xs q=>by rw[xV (yc q hn)];exact q) λc o u q=>by rw[xV (yc q hn)];exact q
end
def Rd(H:Hp)(a:Addr)(u:HO):Prop:=H a=some u\/∃o,H a=some (.frz o u)
def Rd.ok{P:Program}{w:World}{H:Hp}{h:Heap}{a:Addr}{u:HO}(r:Rd H a u)(x:HOk P w H h):ObjOk P w H h a u:=by
 rcases r with r |⟨o,r⟩
 ·exact x a u r
 ·obtain⟨_,q⟩:=x a _ r;exact q
def Mut:Option HO->Prop
 |some (.lst _)=>True
 |some (.dK _)=>True
 |some (.dT _)=>True
 |some (.set _ _)=>True
 |some (.ins _ _ _)=>True
 |some (.ext _)=>True
 |_=>False
section
variable {P:Program}{w:World}{H:Hp}{h h':Heap}{x e:Addr}{o':HO}
def HOk.write(ok:HOk P w H h)(mu:Mut (H x))(he:e=x\/H e=some (.own x))(k:∀b u,b≠e->h.get? b=some u->h'.get? b=some u)(heo:∃u,h'.get? e=some u)
  (new:ObjOk P w (upd H x o') h' x o'):HOk P w (upd H x o') h':=λb u q=>by
 have nown:∀c y,H c=some (.own y)->c≠x:=λc y r z=>by subst z;rw[r] at mu;exact mu
 have ntup:∀c xs,H c=some (.tup xs)->c≠x:=λc xs r z=>by subst z;rw[r] at mu;exact mu
 by_cases hb:b=x
 ·subst hb;rw[wZ] at q;cases q;exact new
 ·rw [xV hb] at q
  by_cases hbe:b=e
  ·have q' : H b = some (.own x) := by
    rcases he with z |z
    ·exact absurd (hbe.trans z) hb
    ·rw[hbe];exact z
   rw[q] at q';cases q';obtain⟨v,hv⟩:=heo
   exact⟨v,by rw[hbe];exact hv⟩
  ·refine (ok b u q).stay (λc v hc r => k c v ?_ r) (λc r => by rw [xV (nown c b r)]; exact r) (λc xs r => by rw [xV (ntup c xs r)]; exact r) λc o u r => by rw [xV (λz => by rw [<- z, r] at mu; exact mu)]; exact r
   rcases hc with rfl |hc
   ·exact hbe
   ·rintro rfl
    rcases he with z |z
    ·exact nown c b hc z
    ·rw[hc] at z;cases z;exact hb rfl
end
structure Un(fs ex:List Addr)(H H':Hp)(h h':Heap):Prop where
 keep:∀b o,h.get? b=some o->H b=none->b ∉ fs->b ∉ ex->h'.get? b=some o
 slot:∀b o,h.get? b=some o->H b=none->b∈fs->b ∉ ex->∃sl,h'.get? b=some { o with slots:=sl }
 free:∀b o,h.get? b=some o->H b=none->b ∉ ex->H' b=none
 there:∀b o,h.get? b=some o->b ∉ ex->∃o',h'.get? b=some o'
 tups:∀b xs,H b=some (.tup xs)->H' b=some (.tup xs)
 frzs:∀b o u,H b=some (.frz o u)->H' b=some (.frz o u)
 tbls:∀b ps,H b=some (.tbl ps)->∃more,H' b=some (.tbl (ps++more))
section
variable {fs fs' ex ex':List Addr}{H H1 H2:Hp}{h h1 h2 h':Heap}{a x e:Addr}{o:HO}
def Un.any(u:Un fs ex H H1 h h1){b:Addr}{ob:Obj}(q:h.get? b=some ob)(n:H b=none)(hx:b ∉ ex):∃sl,h1.get? b=some { ob with slots:=sl }:=by
 by_cases hb:b∈fs
 ·exact u.slot b ob q n hb hx
 ·exact⟨ob.slots,u.keep b ob q n hb hx⟩
def Un.kept(k:∀b u,h.get? b=some u->h'.get? b=some u):Un fs ex H H h h':=
 ⟨λb ob q _ _ _=>k b ob q,λb ob q _ _ _=>⟨ob.slots,k b ob q⟩,λ_ _ _ n _=>n,λb ob q _=>⟨ob,k b ob q⟩,λ_ _ q=>q,λ_ _ _ q=>q,λ_ ps q=>⟨#[],by rw[q];simp⟩⟩
def Un.refl:Un fs ex H H h h:=Un.kept λ_ _ q=>q
def Un.laid(k:∀b u,h.get? b=some u->h'.get? b=some u)(hp:h.objs.size<=a)(hn:H a=none):Un fs ex H (upd H a o) h h' where
 keep:=λb u q _ _ _=>k b u q
 slot:=λb u q _ _ _=>⟨u.slots,k b u q⟩
 free:=λb u q n _=>by rw[xV (zA (zQ (zp q) hp))];exact n
 there:=λb u q _=>⟨u,k b u q⟩
 tups:=λb xs q=>by rw[xV (yc q hn)];exact q
 frzs:=λb u xs q=>by rw[xV (yc q hn)];exact q
 tbls:=λb ps q=>⟨#[],by rw[xV (yc q hn),q];simp⟩
def Un.write(mu:Mut (H x))(he:e=x\/H e=some (.own x))(k:∀b u,b≠e->h.get? b=some u->h'.get? b=some u)(heo:∃u,h'.get? e=some u):Un fs ex H (upd H x o) h h':=by
 have hx:∀b,H b=none->b≠x:=λb n z=>by subst z;rw[n] at mu;exact mu
 have hb:∀b,H b=none->b≠e:=λb n z=>by
  subst z
  rcases he with r |r
  ·exact hx b n r
  ·rw[n] at r;cases r
 have hm:∀b u,H b=some u->¬ Mut (some u)->b≠x:=λb u q nm z=>by subst z;rw[q] at mu;exact nm mu
 refine⟨λb u q n _ _=>k b u (hb b n) q,λb u q n _ _=>⟨u.slots,k b u (hb b n) q⟩,λb u q n _=>by rw[xV (hx b n)];exact n,λb u q _=>?_,
  λb xs q=>by rw[xV (hm b _ q λz=>z)];exact q,λb u xs q=>by rw[xV (hm b _ q λz=>z)];exact q,λb ps q=>⟨#[],by rw[xV (hm b _ q λz=>z),q];simp⟩⟩
 by_cases hbe:b=e
 ·subst hbe;exact heo
 ·exact⟨u,k b u hbe q⟩
end
def trk(h:Heap)(H:Hp):List Addr:=(List.range h.objs.size).filter λa=>(H a).isSome
def zu4(h:Heap)(H:Hp):Heap:=W.hideAll h (trk h H)
def zo9(h:Heap)(H:Hp):(zu4 h H).objs.size=h.objs.size:=W.hideAll_size _ _
def zC7{h:Heap}{H:Hp}{b:Addr}{o:Obj}(e:h.get? b=some o)(n:H b=none):(zu4 h H).get? b=some o:=
 PySem.W.hideAll_get _ e λhm=>by
  have q:(H b).isSome=true:=(zx.mp hm).2;rw[n] at q;simp at q
def zP6{h:Heap}{H:Hp}{b:Addr}{o:Obj}(e:(zu4 h H).get? b=some o):h.get? b=some o/\H b=none:=by
 have e':h.get? b=some o:=W.of_hideAll (trk h H) e;refine⟨e',?_⟩
 cases q:H b with
 |none=>rfl
 |some x=>
  have hm:b∈trk h H:=zx.mpr ⟨yj.mpr (zp e'),by simp[q]⟩
  have z:(zu4 h H).get? b=none:=W.hideAll_none (trk h H) hm;rw[z] at e;cases e
def zT5(g h:Heap)(L:Addr):List (Addr × Obj):=(List.range h.objs.size).filterMap λa=>if a=L\/(g.get? a).isSome=true then none else(h.get? a).map λo=>(a,o)
def rest(g h:Heap)(L d:Addr):List (Addr × Obj):=(zT5 g h L).filter λp=>decide (p.1≠d)
structure Mod(K:W.Frag)(mg:Str->Option Value)(base:Heap):Prop where
 kin:K.In base
 glob:base.Ns mainGlobals mg
 blt:∃mb,base.Ns builtinsNs mb/\∀x:Str,x ≠ "__name__" -> mb x=bootBuiltins x
 nolimit:base.NoLimit
structure Cx where
 prog:Program
 w:World
 K:W.Frag
 mg:Str->Option Value
 base:Heap
 A:Around
 N:List Str
 s₀:Shared
 H₀:Hp
 env:Env
 outer:List Env
 stack:List Env
 ex:List Addr
 fn:Str->Bool
 calm:Bool
 pn:List (Addr × Obj)
 xe:Value->Shared->Prop
def frs(l:List Env):List Addr:=l.filterMap (·.frame)
abbrev Cx.fs(X:Cx):List Addr:=frs X.outer
def Vis(sc:Scope)(x:Str):Prop:=sc.names.lookup x=some .local\/sc.names.lookup x=some .cell\/sc.names.lookup x=some .free
def Loc(sc:Scope)(x:Str):Prop:=sc.names.lookup x=some .local\/sc.names.lookup x=some .cell
def xR0(env:Env)(h:Heap)(m:Str->Option Value)(x:Str)(u:Value):Prop:=
 (env.kindOf x=some .local/\m x=some u)\/((env.kindOf x=some .cell\/env.kindOf x=some .free)/\∃c,env.cells.lookup x=some c/\h.IsCell c (some u))
structure Cx.Ok(X:Cx):Prop where
 mod:Mod X.K X.mg X.base
 kind:X.env.scope.kind=.function
 glob:X.env.globals=mainGlobals
 blt:X.env.builtins=builtinsNs
 above:X.s₀.heap.objs.size<=X.env.locals
 inj:∀x y c,X.env.cells.lookup x=some c->X.env.cells.lookup y=some c->x=y
 has:∀x,(X.env.kindOf x=some .cell\/X.env.kindOf x=some .free)->∃c,X.env.cells.lookup x=some c
 cab:∀x c,X.fn x=true->X.env.cells.lookup x=some c->X.s₀.heap.objs.size<=c
 hd:X.calm=true->X.A.handled=none
 frames:X.A.frames=some X.stack
 stk:X.stack=X.outer\/(X.stack=X.env::X.outer/\X.env.frame=some X.env.locals)
 exf:∀b∈X.ex,b≠X.env.locals/\∀x c,X.env.cells.lookup x=some c->c≠b
 bs:∀b o,X.base.get? b=some o->X.s₀.heap.get? b=some o/\X.H₀ b=none
 bsz:X.base.objs.size<=X.s₀.heap.objs.size
 noex:∀b o,X.base.get? b=some o->b ∉ X.ex
 exfs:∀b∈X.ex,b ∉ X.fs
 funs:X.s₀.heap.FunFrames X.base X.outer
 frf:∀b∈X.fs,X.H₀ b=none
structure Inv(X:Cx)(pins:List (Addr × Obj))(σ:List (Option V))(H:Hp)(s:Shared):Prop where
 ok:X.Ok
 os:s.os=X.s₀.os
 bare:AllBare s.gens
 base:Un X.fs X.ex X.H₀ H X.s₀.heap s.heap
 loc:∃m,s.heap.Ns X.env.locals m/\∀(i:Nat) (x:Str) (v:V),X.N[i]?=some x->σ[i]?=some (some v)->Vis X.env.scope x->∃u,RelV v u/\xR0 X.env s.heap m x u
 cell:∀x c,X.env.cells.lookup x=some c->∃v,s.heap.IsCell c v
 free:H X.env.locals=none
 freeC:∀x c,X.env.cells.lookup x=some c->H c=none
 pin:∀p∈X.pn++pins,s.heap.get? p.1=some p.2/\H p.1=none/\p.1≠X.env.locals/\p.1 ∉ X.fs/\∀v,p.2.data≠.cell v
 hok:HOk X.prog X.w H s.heap
 len:σ.length=X.N.length
section
variable {X:Cx}{pins:List (Addr × Obj)}{σ:List (Option V)}{H H':Hp}{s:Shared}{h':Heap}
def Cx.Ok.nofr(ok:X.Ok){b:Addr}{o:Obj}(e:X.base.get? b=some o):b ∉ X.fs:=λhb=>by
 have:=(ok.funs.mem hb).1;rw[e] at this;cases this
def Inv.bs(I:Inv X pins σ H s):∀b o,X.base.get? b=some o->s.heap.get? b=some o/\H b=none:=λb o e=>
 ⟨I.base.keep b o (I.ok.bs b o e).1 (I.ok.bs b o e).2 (I.ok.nofr e) (I.ok.noex b o e),I.base.free b o (I.ok.bs b o e).1 (I.ok.bs b o e).2 (I.ok.noex b o e)⟩
def Inv.bk(I:Inv X pins σ H s):∀b o,X.base.get? b=some o->s.heap.get? b=some o:=λb o e=>(I.bs b o e).1
def Inv.mod(I:Inv X pins σ H s):Mod X.K X.mg X.base:=I.ok.mod
def Inv.kIn(I:Inv X pins σ H s):X.K.In s.heap:=I.ok.mod.kin.keeps I.bk
def Inv.nolimit(I:Inv X pins σ H s):s.heap.NoLimit:=I.ok.mod.nolimit.keeps I.bk
def Inv.lt(I:Inv X pins σ H s):X.env.locals<s.heap.objs.size:=let ⟨_,hn,_⟩:=I.loc;hn.lt
def Inv.sz(I:Inv X pins σ H s):X.s₀.heap.objs.size<=s.heap.objs.size:=zB I.ok.above (yB I.lt)
def Inv.nofs(I:Inv X pins σ H s){a:Addr}(h:s.heap.objs.size<=a):a ∉ X.fs:=λhb=>by
 obtain⟨_,o,ho,_⟩:=I.ok.funs.mem hb;exact absurd (zQ (zp ho) (zB I.sz h)) (xm _)
def Inv.cne(I:Inv X pins σ H s):∀x c,X.env.cells.lookup x=some c->c≠X.env.locals:=λx c e z=>by
 obtain⟨v,o,ho,hd⟩:=I.cell x c e;obtain⟨m,⟨o',es,ep,ho',hd',_⟩,_⟩:=I.loc;rw[z,ho'] at ho;cases ho;rw[hd'] at hd;cases hd
def Inv.funs(I:Inv X pins σ H s):s.heap.FunFrames X.base X.outer:=by
 have all:∀(l:List Env),(∀b∈frs l,b∈X.fs)->X.s₀.heap.FunFrames X.base l->s.heap.FunFrames X.base l:=by
  intro l
  induction l with
  |nil=>intro _ _;trivial
  |cons env r ih=>
   intro hs hl;obtain⟨hk,⟨L,o,hf,hn,ho,hd⟩,hr⟩:=hl
   have hL:L∈X.fs:=hs L (by unfold frs;rw[yL,hf];exact xh)
   obtain⟨sl,e⟩:=I.base.slot L o ho (I.ok.frf L hL) hL λz=>I.ok.exfs L z hL
   exact⟨hk,⟨L,_,hf,hn,e,hd⟩,ih (λb hb=>hs b (by unfold frs;rw[yL,hf];exact zm _ hb)) hr⟩
 exact all X.outer (λ_ hb=>hb) I.ok.funs
def Inv.stack(I:Inv X pins σ H s):s.heap.FunFrames X.base X.stack:=by
 rcases I.ok.stk with e |⟨e,hf⟩
 ·rw[e];exact I.funs
 ·rw [e];obtain⟨m,hn,_⟩:=I.loc
  refine .cons (by rw[I.ok.kind];decide) hf hn ?_ I.funs
  exact Heap.get?_none_of_le (zB I.ok.bsz I.ok.above)
def Inv.stkSub(I:Inv X pins σ H s):∀b∈frs X.stack,b∈X.env.locals::X.fs:=λb hb=>by
 rcases I.ok.stk with e |⟨e,hf⟩
 ·rw[e] at hb;exact zm _ hb
 ·rw[e] at hb;unfold frs at hb;rw[yL,hf] at hb;exact hb
def Inv.stkFree(I:Inv X pins σ H s):∀b∈frs X.stack,H b=none:=λb hb=>by
 rcases zi.mp (I.stkSub b hb) with e |hb
 ·rw[e];exact I.free
 ·obtain⟨_,o,ho,_⟩:=I.ok.funs.mem hb;exact I.base.free b o ho (I.ok.frf b hb) λz=>I.ok.exfs b z hb
def Inv.step{g':Array GenState}{t':Nat}{d':Drawn}{ch:List Addr}(I:Inv X pins σ H s)
  (hch:∀b∈ch,(b∈X.ex\/X.s₀.heap.objs.size<=b)/\b≠X.env.locals/\(∀x c,X.env.cells.lookup x=some c->c≠b)/\∀p∈X.pn++pins,p.1≠b)
  (keep:∀b o,b≠X.env.locals->b ∉ X.fs->b ∉ ch->s.heap.get? b=some o->H b=none->h'.get? b=some o)
  (slot:∀b o,b≠X.env.locals->b∈X.fs->b ∉ ch->s.heap.get? b=some o->H b=none->∃sl,h'.get? b=some { o with slots:=sl }) (free:∀b o,b ∉ ch->s.heap.get? b=some o->H b=none->H' b=none)
  (there:∀b o,b ∉ ch->s.heap.get? b=some o->∃o',h'.get? b=some o')
  (tups:∀b xs,H b=some (.tup xs)->H' b=some (.tup xs)) (frzs:∀b o u,H b=some (.frz o u)->H' b=some (.frz o u)) (tbls:∀b ps,H b=some (.tbl ps)->∃more,H' b=some (.tbl (ps++more)))
  (ns:∀m,s.heap.Ns X.env.locals m->h'.Ns X.env.locals m) (hok:HOk X.prog X.w H' h') (hg:AllBare g') :
  Inv X pins σ H' { s with heap:=h',gens:=g',drawn:=d',toks:=t' }:=by
 have neL:∀b o,X.s₀.heap.get? b=some o->b≠X.env.locals:=λb o e=>zA (zQ (zp e) I.ok.above)
 have neC:∀b o,X.s₀.heap.get? b=some o->b ∉ X.ex->b ∉ ch:=λb o e hx hb=>by
  rcases(hch b hb).1 with z |z
  ·exact hx z
  ·exact absurd (zQ (zp e) z) (xm _)
 have cellK:∀x c,X.env.cells.lookup x=some c->∀v,s.heap.IsCell c v->h'.IsCell c v:=λx c e v ⟨o,ho,hd⟩=>by
  have nch:c ∉ ch:=λz=>(hch c z).2.2.1 x c e rfl
  by_cases hc:c∈X.fs
  ·obtain⟨sl,q⟩:=slot c o (I.cne x c e) hc nch ho (I.freeC x c e);exact⟨_,q,hd⟩
  ·exact⟨o,keep c o (I.cne x c e) hc nch ho (I.freeC x c e),hd⟩
 refine⟨I.ok,I.os,hg,⟨λb o e n hb hx=>?_,λb o e n hb hx=>?_,λb o e n hx=>?_,λb o e hx=>?_,λb xs e=>tups b xs (I.base.tups b xs e),λb o xs e=>frzs b o xs (I.base.frzs b o xs e),λb ps e=>?_⟩,?_,λx c e=>?_,?_,λx c e=>?_,λp hp=>?_,hok,I.len⟩
 ·exact keep b o (neL b o e) hb (neC b o e hx) (I.base.keep b o e n hb hx) (I.base.free b o e n hx)
 ·obtain⟨sl,e1⟩:=I.base.slot b o e n hb hx;obtain⟨sl',e2⟩:=slot b _ (neL b o e) hb (neC b o e hx) e1 (I.base.free b o e n hx);exact⟨sl',e2⟩
 ·obtain⟨o',e1⟩:=I.base.there b o e hx;exact free b o' (neC b o e hx) e1 (I.base.free b o e n hx)
 ·obtain⟨o',e1⟩:=I.base.there b o e hx;exact there b o' (neC b o e hx) e1
 ·obtain ⟨m1, e1⟩ := I.base.tbls b ps e;obtain⟨m2,e2⟩:=tbls b _ e1
  exact⟨m1++m2,by rw[e2,Array.append_assoc]⟩
 ·obtain ⟨m, hn, hl⟩ := I.loc;refine⟨m,ns m hn,λi x v e1 e2 e3=>?_⟩;obtain⟨u,r,l⟩:=hl i x v e1 e2 e3;refine⟨u,r,?_⟩
  rcases l with l |⟨k,c,e,z⟩
  ·exact .inl l
  ·exact .inr ⟨k,c,e,cellK x c e _ z⟩
 ·obtain⟨v,z⟩:=I.cell x c e;exact⟨v,cellK x c e v z⟩
 ·obtain⟨m,⟨o,_,_,ho,_⟩,_⟩:=I.loc;exact free _ o (λz=>(hch _ z).2.1 rfl) ho I.free
 ·obtain⟨v,o,ho,hd⟩:=I.cell x c e;exact free c o (λz=>(hch c z).2.2.1 x c e rfl) ho (I.freeC x c e)
 ·obtain⟨e,n,ne,nf,d⟩:=I.pin p hp;have nch:p.1 ∉ ch:=λz=>(hch p.1 z).2.2.2 p hp rfl;exact⟨keep p.1 p.2 ne nf nch e n,free p.1 p.2 nch e n,ne,nf,d⟩
def Inv.un{t':Nat}(I:Inv X pins σ H s)(u:Un X.fs [] H H' s.heap h')(hok:HOk X.prog X.w H' h'):Inv X pins σ H' { s with heap:=h',toks:=t' }:=by
 obtain⟨m,⟨o,es,ep,ho,r⟩,_⟩:=id I.loc
 obtain⟨sl,hL⟩:=u.any ho I.free (by simp)
 exact I.step (g':=s.gens) (d':=s.drawn) (ch:=[]) (λ_ z=>nomatch z) (λb o _ hb _ e n=>u.keep b o e n hb (by simp)) (λb o _ hb _ e n=>u.slot b o e n hb (by simp)) (λb o _ e n=>u.free b o e n (by simp)) (λb o _ e=>u.there b o e (by simp)) u.tups u.frzs u.tbls (λm' hm=>by
  obtain⟨o',es',ep',ho',r'⟩:=hm;rw[ho] at ho';cases ho'
  exact⟨_,es',ep',hL,r'⟩) hok I.bare
def Inv.call{g':Array GenState}{t':Nat}{d':Drawn}{ch:List Addr}(I:Inv X pins σ H s)(u:Un (frs X.stack) ch H H' s.heap h')(hok:HOk X.prog X.w H' h')(hg:AllBare g')
  (hch:∀b∈ch,(b∈X.ex\/X.s₀.heap.objs.size<=b)/\b≠X.env.locals/\(∀x c,X.env.cells.lookup x=some c->c≠b)/\∀p∈X.pn++pins,p.1≠b) :
  Inv X pins σ H' { s with heap:=h',gens:=g',drawn:=d',toks:=t' }:=by
 obtain⟨m,⟨o,es,ep,ho,r⟩,_⟩:=id I.loc;obtain⟨sl,hL⟩:=u.any ho I.free λz=>(hch _ z).2.1 rfl
 exact I.step (ch:=ch) hch (λb o hL hb hc e n=>u.keep b o e n (λz=>(zi.mp (I.stkSub b z)).elim hL hb) hc) (λb o _ _ hc e n=>u.any e n hc) (λb o hc e n=>u.free b o e n hc) (λb o hc e=>u.there b o e hc) u.tups u.frzs u.tbls (λm' hm=>by
  obtain⟨o',es',ep',ho',r'⟩:=hm;rw[ho] at ho';cases ho'
  exact⟨_,es',ep',hL,r'⟩) hok hg
def Inv.turned{t':Nat}{it:Addr}(I:Inv X pins σ H s)(k:∀b o,b≠it->s.heap.get? b=some o->h'.get? b=some o)(hn:H it=none)(hL:it≠X.env.locals)
  (h1:it∈X.ex\/X.s₀.heap.objs.size<=it) (h2:∀x c,X.env.cells.lookup x=some c->c≠it) (h3:∀p∈X.pn++pins,p.1≠it):Inv X pins σ H { s with heap:=h',toks:=t' }:=by
 have nit:∀b u,H b=some u->b≠it:=λb u e z=>by rw[z,hn] at e;cases e
 refine I.step (g':=s.gens) (d':=s.drawn) (ch:=[it]) (λb hb=>?_) (λb o _ _ hc e _=>k b o (λz=>hc (by simp[z])) e) (λb o _ _ hc e _=>⟨o.slots,k b o (λz=>hc (by simp[z])) e⟩) (λ_ _ _ _ n=>n)
  (λb o hc e=>⟨o,k b o (λz=>hc (by simp[z])) e⟩) (λ_ _ e=>e) (λ_ _ _ e=>e) (λb ps e=>⟨#[],by rw[e];simp⟩) (λm hm=>?_) (λb u e=>?_) I.bare
 ·have e : b = it := by simpa using hb
  subst e;exact⟨h1,hL,h2,h3⟩
 ·obtain⟨o,es,ep,ho,r⟩:=hm;exact⟨o,es,ep,k _ o (Ne.symm hL) ho,r⟩
 ·refine (I.hok b u e).stay (λc v hc q => k c v ?_ q) (λ_ q => q) (λ_ _ q => q) λ_ _ _ q => q
  rcases hc with z |z
  ·rw[z];exact nit b u e
  ·exact nit c _ z
def Inv.tok(I:Inv X pins σ H s)(t:Nat):Inv X pins σ H { s with toks:=t }:=I.un (h':=s.heap) (t':=t) Un.refl I.hok
def Inv.kept{t':Nat}(I:Inv X pins σ H s)(k:∀b u,s.heap.get? b=some u->h'.get? b=some u):Inv X pins σ H { s with heap:=h',toks:=t' }:=I.un (Un.kept k) (I.hok.kept k)
def Inv.laid{a:Addr}{o:HO}{t':Nat}(I:Inv X pins σ H s)(k:∀b u,s.heap.get? b=some u->h'.get? b=some u)(hp:s.heap.objs.size<=a)(new:ObjOk X.prog X.w (upd H a o) h' a o) :
  Inv X pins σ (upd H a o) { s with heap:=h',toks:=t' }:=I.un (Un.laid k hp (I.hok.fresh hp)) (I.hok.laid k hp new)
def Inv.write{x e:Addr}{o:HO}{t':Nat}(I:Inv X pins σ H s)(mu:Mut (H x))(he:e=x\/H e=some (.own x))(k:∀b u,b≠e->s.heap.get? b=some u->h'.get? b=some u)(heo:∃u,h'.get? e=some u)
  (new:ObjOk X.prog X.w (upd H x o) h' x o):Inv X pins σ (upd H x o) { s with heap:=h',toks:=t' }:=I.un (Un.write mu he k heo) (I.hok.write mu he k heo new)
def Inv.weak{σ':List (Option V)}(I:Inv X pins σ H s)(hl:σ'.length=σ.length)(w:∀(i:Nat) v,σ'[i]?=some (some v)->σ[i]?=some (some v)):Inv X pins σ' H s:=
 ⟨I.ok,I.os,I.bare,I.base,let ⟨m,hn,hl'⟩:=I.loc;⟨m,hn,λi x v e1 e2 e3=>hl' i x v e1 (w i v e2) e3⟩,I.cell,I.free,I.freeC,I.pin,I.hok,hl.trans I.len⟩
def Inv.pins_of{pins':List (Addr × Obj)}(I:Inv X pins σ H s)(h:∀p∈pins',s.heap.get? p.1=some p.2/\H p.1=none/\p.1≠X.env.locals/\p.1 ∉ X.fs/\∀v,p.2.data≠.cell v):Inv X pins' σ H s:=
 ⟨I.ok,I.os,I.bare,I.base,I.loc,I.cell,I.free,I.freeC,λp hp=>(zW.mp hp).elim (λz=>I.pin p (xj _ z)) (h p),I.hok,I.len⟩
def Qs{N:List Str}(hN:N.Nodup){i j:Nat}{x:Str}(a:N[i]?=some x)(b:N[j]?=some x):i=j:=by
 obtain⟨h1,e1⟩:=zn.mp a;obtain⟨h2,e2⟩:=zn.mp b;exact(List.getElem_inj hN).mp (e1.trans e2.symm)
def Us{M:Model}{A:Around}{E:Value->Shared->Prop}{i:Nat}{x:Str}{v:V}{u:Value}{Q:Unit->Shared->Prop}(I:Inv X pins σ H s)(hN:X.N.Nodup)(hi:X.N[i]?=some x)(hx:Loc X.env.scope x)(r:RelV v u)
  (h:∀s',Inv X pins (σ.set i (some v)) H s'->(∃a,Heap.SameBut a s.heap s'.heap/\(a=X.env.locals\/X.env.cells.lookup x=some a))->Q () s') (hf:X.fn x=true\/X.env.scope.names.lookup x=some .local:=by first |exact .inl rfl |exact .inr rfl |assumption):wpAny M A (storeName X.env x u) Q E s:=by
 obtain⟨m,hn,hl⟩:=id I.loc
 have hcls:(X.env.scope.kind == .class||(X.env.scope.kind == .module&&X.env.locals != X.env.globals))=false:=by rw[I.ok.kind];rfl
 have hiσ:i<σ.length:=by rw[I.len];exact(zn.mp hi).1
 have cne:=I.cne
 have tracked:∀{a:Addr}{h':Heap},(∃o,s.heap.get? a=some o/\H a=none)->Heap.SameBut a s.heap h'->HOk X.prog X.w H h':=λ{a h'} ha hs b ob e=>by
  obtain⟨_,_,hfree⟩:=ha;refine(I.hok b ob e).stay (λc w' hc q=>(hs.2 c ?_).trans q) (λ_ q=>q) (λ_ _ q=>q) λ_ _ _ q=>q;rintro rfl
  rcases hc with rfl |hc
  ·rw[hfree] at e;cases e
  ·rw[hfree] at hc;cases hc
 rcases hx with hk |hk
 ·refine wpAny_storeName_local hk hn (λh' hn' hs => ?_) hcls;obtain⟨oL,_,_,hoL,_⟩:=id hn
  refine h _ ⟨I.ok,I.os,I.bare,⟨λb o e n hb hx=>?_,λb o e n hb hx=>?_,I.base.free,λb o e hx=>?_,I.base.tups,I.base.frzs,I.base.tbls⟩,⟨_,hn',λj y v' e1 e2 e3=>?_⟩,λy c e=>?_,I.free,I.freeC,λp hp=>?_,tracked ⟨oL,hoL,I.free⟩ hs,by simpa using I.len⟩ ⟨_,hs,.inl rfl⟩
  ·exact(hs.2 b (zA (zQ (zp e) I.ok.above))).trans (I.base.keep b o e n hb hx)
  ·obtain⟨sl,e1⟩:=I.base.slot b o e n hb hx;exact⟨sl,(hs.2 b (zA (zQ (zp e) I.ok.above))).trans e1⟩
  ·obtain⟨o',e1⟩:=I.base.there b o e hx;exact⟨o',(hs.2 b (zA (zQ (zp e) I.ok.above))).trans e1⟩
  ·by_cases hj : j = i
   ·subst hj;rw[hi] at e1;cases e1;rw[zT hiσ] at e2;cases e2
    exact⟨u,r,.inl ⟨hk,by simp⟩⟩
   ·rw [zY (Ne.symm hj)] at e2;obtain⟨u',r',q⟩:=hl j y v' e1 e2 e3;refine⟨u',r',?_⟩
    rcases q with ⟨k,e⟩ |⟨k,c,e,z⟩
    ·refine .inl ⟨k,?_⟩;have:y≠x:=λe=>hj (Qs hN e1 (e ▸ hi));simp[this,e]
    ·exact .inr ⟨k,c,e,z.sameBut hs (cne y c e)⟩
  ·obtain⟨w',z⟩:=I.cell y c e;exact⟨w',z.sameBut hs (cne y c e)⟩
  ·obtain⟨e,n,ne,nf,d⟩:=I.pin p hp;exact⟨(hs.2 p.1 ne).trans e,n,ne,nf,d⟩
 ·have hfn : X.fn x = true := by
   rcases hf with z |z
   ·exact z
   ·rw[z] at hk;cases hk
  obtain⟨c,hc⟩:=I.ok.has x (.inl hk);obtain⟨w',z⟩:=I.cell x c hc;refine wpAny_storeName_cell I.ok.kind hk hc z (λh' hc' hs=>?_);obtain⟨oc,hoc,hocd⟩:=id z
  refine h { s with heap:=h' } ⟨I.ok,I.os,I.bare,⟨λb o e n hb hx=>?_,λb o e n hb hx=>?_,I.base.free,λb o e hx=>?_,I.base.tups,I.base.frzs,I.base.tbls⟩,⟨m,hn.sameBut hs (Ne.symm (cne x c hc)),λj y v' e1 e2 e3=>?_⟩,λy c' e=>?_,I.free,I.freeC,λp hp=>?_,tracked ⟨oc,hoc,I.freeC x c hc⟩ hs,by simpa using I.len⟩ ⟨c,hs,.inr hc⟩
  ·exact(hs.2 b (zA (zQ (zp e) (I.ok.cab x c hfn hc)))).trans (I.base.keep b o e n hb hx)
  ·obtain⟨sl,e1⟩:=I.base.slot b o e n hb hx;exact⟨sl,(hs.2 b (zA (zQ (zp e) (I.ok.cab x c hfn hc)))).trans e1⟩
  ·obtain⟨o',e1⟩:=I.base.there b o e hx;exact⟨o',(hs.2 b (zA (zQ (zp e) (I.ok.cab x c hfn hc)))).trans e1⟩
  ·by_cases hj : j = i
   ·subst hj;rw[hi] at e1;cases e1;rw[zT hiσ] at e2;cases e2;exact⟨u,r,.inr ⟨.inl hk,c,hc,hc'⟩⟩
   ·rw [zY (Ne.symm hj)] at e2;obtain⟨u',r',q⟩:=hl j y v' e1 e2 e3;refine⟨u',r',?_⟩
    rcases q with q |⟨k,c',e,z'⟩
    ·exact .inl q
    ·refine .inr ⟨k,c',e,z'.sameBut hs ?_⟩;rintro rfl;exact hj (Qs hN e1 (I.ok.inj _ _ _ e hc ▸ hi))
  ·by_cases hcc : c' = c
   ·subst hcc;exact⟨_,hc'⟩
   ·obtain⟨w2,z2⟩:=I.cell y c' e;exact⟨w2,z2.sameBut hs hcc⟩
  ·obtain ⟨e, n, ne, nf, d⟩ := I.pin p hp;refine⟨(hs.2 p.1 ?_).trans e,n,ne,nf,d⟩;intro q;rw[q,hoc] at e;have q':oc=p.2:=zF e
   exact d w' (by rw[<- q'];exact hocd)
def Zr{M:Model}{A:Around}{E:Value->Shared->Prop}{i:Nat}{x:Str}{v:V}{u:Value}{Q:Unit->Shared->Prop}(I:Inv X pins σ H s)(hN:X.N.Nodup)(hi:X.N[i]?=some x)(hx:Loc X.env.scope x)(r:RelV v u)
  (h:∀s',Inv X pins (σ.set i (some v)) H s'->Q () s') (hf:X.fn x=true\/X.env.scope.names.lookup x=some .local:=by first |exact .inl rfl |exact .inr rfl |assumption):wpAny M A (storeName X.env x u) Q E s:=
 Us I hN hi hx r (λs' I' _=>h s' I') hf
def Inv.call'{s':Shared}{ch:List Addr}(I:Inv X pins σ H s)(ho:s'.os=s.os)(u:Un (frs X.stack) ch H H' s.heap s'.heap)(hok:HOk X.prog X.w H' s'.heap)(hg:AllBare s'.gens)
  (hch:∀b∈ch,(b∈X.ex\/X.s₀.heap.objs.size<=b)/\b≠X.env.locals/\(∀x c,X.env.cells.lookup x=some c->c≠b)/\∀p∈X.pn++pins,p.1≠b):Inv X pins σ H' s':=by
 obtain⟨h',g',d',t',o'⟩:=s';have e:o'=s.os:=ho;subst e;exact I.call (g':=g') (t':=t') (d':=d') u hok hg hch
end
abbrev XK:=Value->Option Addr->Hp->Prop
abbrev St:=List (Option V)
abbrev VK:=V->Hp->Prop
abbrev TE:=St->Hp->VK->Prop
abbrev TT:=St->Hp->(Bool->Hp->Prop)->Prop
abbrev TA:=St->Hp->(List V->Hp->Prop)->Prop
structure KP where
 nx:St->Hp->Prop
 rt:VK
 bk:St->Hp->Prop:=λ_ _=>False
 ct:St->Hp->Prop:=λ_ _=>False
abbrev TS:=KP->St->Hp->Prop
def EP(X:Cx)(pins:List (Addr × Obj))(σ:St)(Q:VK)(u:Value)(s':Shared):Prop:=∃v H',Inv X pins σ H' s'/\RelV v u/\Q v H'
def TP(X:Cx)(pins:List (Addr × Obj))(σ:St)(Q:Bool->Hp->Prop)(b:Bool)(s':Shared):Prop:=∃H',Inv X pins σ H' s'/\Q b H'
def AP(X:Cx)(pins:List (Addr × Obj))(σ:St)(Q:List V->Hp->Prop)(us:List Value)(s':Shared):Prop:=∃vs H',Inv X pins σ H' s'/\Vals vs us/\Q vs H'
def SP(X:Cx)(pins:List (Addr × Obj))(D:KP)(f:Flow)(s':Shared):Prop:=
 match f with
 |.next=>∃σ' H',Inv X pins σ' H' s'/\D.nx σ' H'
 |.brk=>∃σ' H',Inv X pins σ' H' s'/\D.bk σ' H'
 |.cont=>∃σ' H',Inv X pins σ' H' s'/\D.ct σ' H'
 |.ret u=>∃v σ' H',Inv X pins σ' H' s'/\RelV v u/\D.rt v H'
def PE(X:Cx)(e:Expr)(t:TE):Prop:=
 ∀(pins:List (Addr × Obj)) (s:Shared) (σ:St) (H:Hp) (Q:VK),Inv X pins σ H s->t σ H Q->wpAny (model X.prog X.w) X.A (eval e X.env) (EP X pins σ Q) X.xe s
def PT(X:Cx)(e:Expr)(t:TT):Prop:=
 ∀(pins:List (Addr × Obj)) (s:Shared) (σ:St) (H:Hp) (Q:Bool->Hp->Prop),Inv X pins σ H s->t σ H Q->wpAny (model X.prog X.w) X.A (isTrue e X.env (eval e X.env)) (TP X pins σ Q) X.xe s
def PW(X:Cx)(e:Expr)(t:TT):Prop:=
 ∀(whole:Sem Value) (pins:List (Addr × Obj)) (s:Shared) (σ:St) (H:Hp) (Q:Bool->Hp->Prop),Inv X pins σ H s->t σ H Q->wpAny (model X.prog X.w) X.A (isTrue e X.env whole) (TP X pins σ Q) X.xe s
def PW.pt{X:Cx}{e:Expr}{t:TT}(h:PW X e t):PT X e t:=h _
def PA(X:Cx)(es:List Expr)(t:TA):Prop:=
 ∀(pos:Pos) (pins:List (Addr × Obj)) (s:Shared) (σ:St) (H:Hp) (Q:List V->Hp->Prop),Inv X pins σ H s->t σ H Q->wpAny (model X.prog X.w) X.A (spliced (backTo pos (starEach es X.env))) (AP X pins σ Q) X.xe s
def PS(X:Cx)(st:Stmt)(t:TS):Prop:=
 ∀(pins:List (Addr × Obj)) (s:Shared) (σ:St) (H:Hp) (D:KP),Inv X pins σ H s->t D σ H->wpAny (model X.prog X.w) X.A (exec st X.env) (SP X pins D) X.xe s
def PSs(X:Cx)(st:List Stmt)(t:TS):Prop:=
 ∀(pins:List (Addr × Obj)) (s:Shared) (σ:St) (H:Hp) (D:KP),Inv X pins σ H s->t D σ H->wpAny (model X.prog X.w) X.A (execs st X.env) (SP X pins D) X.xe s
def thn{α:Type}{t:Sem α}{Q Q':α->Shared->Prop}{M:Model}{A:Around}{E:Value->Shared->Prop}{s:Shared}(h:wpAny M A t Q E s)(hQ:∀a s,Q a s->Q' a s):wpAny M A t Q' E s:=wE h hQ λ_ _ x=>x
section
variable {X:Cx}
def xB8(i:Nat):TE:=λσ H Q=>∃v,σ[i]?=some (some v)/\Q v H
def tC(v:V):TE:=λ_ H Q=>Q v H
def qN{i:Nat}{x:Str}{pos:Pos}(hN:X.N[i]?=some x)(hv:Vis X.env.scope x)(hd:(x == ("__debug__" : Str))=false:=by decide)(hcd:(x == ("__classdict__" : Str))=false:=by decide):PE X (.Name x pos) (xB8 i):=by
 intro pins s σ H Q I h;obtain⟨v,e,h⟩:=h;obtain⟨m,hn,hl⟩:=I.loc;obtain⟨u,r,l⟩:=hl i x v hN e hv;have fin:EP X pins σ Q u s:=⟨v,H,I,r,h⟩
 rcases l with ⟨hk,hm⟩ |⟨hk,c,hc,hcell⟩
 ·exact wpAny_Name (wpAny_loadName_local I.ok.kind hk hn hm fin) hd
 ·rcases hk with hk | hk
  ·exact wpAny_Name (wpAny_loadName_cell I.ok.kind hk hc hcell fin) hd
  ·exact wpAny_Name (wpAny_loadName_free I.ok.kind hk hc hcell fin hcd) hd
def Qn{i j pos}:PE X (.Constant (.int i) j pos) (tC (.int i)):=λ_ _ _ H _ I h=>wpAny_Constant_int ⟨.int i,H,I.tok _,⟨_,rfl⟩,h⟩
def xy5{b j pos}:PE X (.Constant (.bool b) j pos) (tC (.bl b)):=λ_ _ _ H _ I h=>Constant_bool ⟨.bl b,H,I,rfl,h⟩
def xb6{j pos}:PE X (.Constant .none j pos) (tC .non):=λ_ _ _ H _ I h=>Constant_none ⟨.non,H,I,rfl,h⟩
def xb3{x j pos}:PE X (.Constant (.str x) j pos) (tC (.str x)):=λ_ _ _ H _ I h=>Calls.Constant_str ⟨.str x,H,I.tok _,⟨_,rfl⟩,h⟩
def Gl(X:Cx)(x:Str):Prop:=X.env.kindOf x=some .globalImplicit
def zn3{E:Value->Shared->Prop}{pins:List (Addr × Obj)}{s:Shared}{σ:St}{H:Hp}{x:Str}{u:Value}{pos:Pos}{Q:Value->Shared->Prop}(I:Inv X pins σ H s)(hg:Gl X x)(hm:X.mg x=some u)(h:Q u s)
  (hd:(x == ("__debug__" : Str))=false:=by decide):wpAny (model X.prog X.w) X.A (eval (.Name x pos) X.env) Q E s:=
 Calls.Name_function_global I.ok.kind hg (Calls.loadGlobal_global (by rw[I.ok.glob];exact I.mod.glob.keeps I.bk) hm h) hd
def UZ{E:Value->Shared->Prop}{pins:List (Addr × Obj)}{s:Shared}{σ:St}{H:Hp}{x:Str}{u:Value}{pos:Pos}{Q:Value->Shared->Prop}(I:Inv X pins σ H s)(hg:Gl X x)(hm:X.mg x=none)(hv:bootBuiltins x=some u)(h:Q u s)
  (hn:x ≠ "__name__" := by decide) (hd:(x == ("__debug__" : Str))=false:=by decide):wpAny (model X.prog X.w) X.A (eval (.Name x pos) X.env) Q E s:=by
 obtain⟨mb,h1,h2⟩:=I.mod.blt
 exact Calls.Name_function_global I.ok.kind hg (Calls.loadGlobal_builtin (by rw[I.ok.glob];exact I.mod.glob.keeps I.bk) hm (by rw[I.ok.blt];exact h1.keeps I.bk) ((h2 x hn).trans hv) h) hd
def zN4{x:Str}{v:V}{u:Value}{pos:Pos}(hg:Gl X x)(hm:X.mg x=some u)(r:RelV v u)(hd:(x == ("__debug__" : Str))=false:=by decide):PE X (.Name x pos) (tC v):=
 λ_ _ _ H _ I h=>zn3 I hg hm ⟨v,H,I,r,h⟩ hd
variable {a b:Expr}{ta tb:TE}{pos:Pos}
def tB(t:TE):TT:=λσ H Q=>t σ H λx H1=>∃c,x=.bl c/\Q c H1
def xa5{e:Expr}{t:TE}(h:PE X e t)(he:∀whole,isTrue e X.env whole=(do let v <- whole;standAt e.pos;holding [v] (truthy v)):=by intro _;rfl):PT X e (tB t):=by
 intro pins s σ H Q I hw;refine isTrue_plain (thn (h pins s σ H _ I hw) λv s1 ⟨x,H1,I1,r1,q1⟩=>?_) (he _);obtain⟨d,rfl,q⟩:=q1;cases r1;exact xY ⟨H1,I1,q⟩
variable {tA tB':TT}{rest:List Expr}
def xK6(t u:TT):TT:=λσ H Q=>t σ H λc H1=>if c=true then u σ H1 Q else Q false H1
def tOr(t u:TT):TT:=λσ H Q=>t σ H λc H1=>if c=true then Q true H1 else u σ H1 Q
def xK0(t:TT):TT:=λσ H Q=>t σ H λc H1=>Q (!c) H1
def zM3(ha:PT X a tA):PW X (.BoolOp .And [a] pos) tA:=by
 intro wh pins s σ H Q I h;refine isTrue_and (thn (ha pins s σ H Q I h) λc s1 e=>?_)
 cases c with
 |true=>exact isTrue_and_nil e
 |false=>exact e
def xa2(ha:PT X a tA):PW X (.BoolOp .Or [a] pos) tA:=by
 intro wh pins s σ H Q I h;refine isTrue_or (thn (ha pins s σ H Q I h) λc s1 e=>?_)
 cases c with
 |false=>exact isTrue_or_nil e
 |true=>exact e
def xa3(ha:PT X a tA)(hb:PW X (.BoolOp .And (b::rest) pos) tB'):PW X (.BoolOp .And (a::b::rest) pos) (xK6 tA tB'):=by
 intro wh pins s σ H Q I h;refine isTrue_and (thn (ha pins s σ H _ I h) λc s1 ⟨H1,I1,q1⟩=>?_)
 cases c with
 |true=>exact hb wh pins s1 σ H1 Q I1 q1
 |false=>exact⟨H1,I1,q1⟩
def xx9(ha:PT X a tA)(hb:PW X (.BoolOp .Or (b::rest) pos) tB'):PW X (.BoolOp .Or (a::b::rest) pos) (tOr tA tB'):=by
 intro wh pins s σ H Q I h;refine isTrue_or (thn (ha pins s σ H _ I h) λc s1 ⟨H1,I1,q1⟩=>?_)
 cases c with
 |true=>exact⟨H1,I1,q1⟩
 |false=>exact hb wh pins s1 σ H1 Q I1 q1
def xa6(ha:PT X a tA):PT X (.UnaryOp .Not a pos) (xK0 tA):=by
 intro pins s σ H Q I h;exact isTrue_not (ha pins s σ H (λc H1=>Q (!c) H1) I h)
def xp0(ta tb:TE):TE:=λσ H Q=>ta σ H λx H1=>∃c,x=.bl c/\if c=true then tb σ H1 Q else Q (.bl false) H1
def xo3(ta:TE):TE:=λσ H Q=>ta σ H λx H1=>∃c,x=.bl c/\Q (.bl (!c)) H1
def xb4{op}{t:TE}(h:PE X a t):PE X (.BoolOp op [a] pos) t:=λpins s σ H Q I hw=>BoolOp_one (h pins s σ H Q I hw)
def xb7(ha:PE X a ta)(hb:PE X (.BoolOp .And (b::rest) pos) tb):PE X (.BoolOp .And (a::b::rest) pos) (xp0 ta tb):=by
 intro pins s σ H Q I h;refine BoolOp_and (thn (ha pins s σ H _ I h) λv s1 ⟨x,H1,I1,r1,q1⟩=>?_);obtain⟨c,rfl,q1⟩:=q1;cases r1;refine xY ?_
 cases c with
 |true=>exact hb pins s1 σ H1 Q I1 q1
 |false=>exact⟨.bl false,H1,I1,rfl,q1⟩
def xb5(ha:PE X a ta):PE X (.UnaryOp .Not a pos) (xo3 ta):=by
 intro pins s σ H Q I h;refine UnaryOp_ (thn (ha pins s σ H _ I h) λv s1 ⟨x,H1,I1,r1,q1⟩=>?_);obtain⟨c,rfl,q1⟩:=q1;cases r1;exact not_of (xY ⟨.bl (!c),H1,I1,rfl,q1⟩)
def tIf(t:TT)(ta tb:TE):TE:=λσ H Q=>t σ H λc H1=>if c=true then ta σ H1 Q else tb σ H1 Q
def zy8{c:Expr}(hc:PT X c tA)(ha:PE X a ta)(hb:PE X b tb):PE X (.IfExp c a b pos) (tIf tA ta tb):=by
 intro pins s σ H Q I h;refine wpAny_IfExp (thn (hc pins s σ H _ I h) λd s1 ⟨H1,I1,q1⟩=>?_)
 cases d with
 |true=>exact ha pins s1 σ H1 Q I1 q1
 |false=>exact hb pins s1 σ H1 Q I1 q1
end
def SqL(K:W.Frag)(H:Hp)(a:Addr)(xs:List V):Prop:=
 Rd H a (.lst xs) \/
  ∃(o:Obj) (its:Array Value) (n:Nat),K.lookup a=some o/\o.cls=.type "list" /\ o.dict=none/\o.data=.seq its n/\its.size<=sizeLine/\Vals xs its.toList
def SqT(K:W.Frag)(H:Hp)(a:Addr)(xs:List V):Prop:=
 Rd H a (.tup xs) \/
  ∃(o:Obj) (its:Array Value) (n:Nat),K.lookup a=some o/\o.cls=.type "tuple" /\ o.data=.seq its n/\its.size<=sizeLine/\Vals xs its.toList
def xQ9:Value->Option V
 |.none=>some .non
 |.bool b=>some (.bl b)
 |.int i _=>some (.int i)
 |.str x _=>some (.str x)
 |.bytes b _=>some (.byt b)
 |.float b _=>some (.flt b)
 |.ref a=>some (.ref a)
 |.type n=>some (.ty n)
 |_=>none
def RelV.abs{x:V}{u:Value}(r:RelV x u):xQ9 u=some x:=by
 cases x with
 |non=>cases r;rfl
 |bl _=>cases r;rfl
 |int _=>obtain⟨t,rfl⟩:=r;rfl
 |str _=>obtain⟨t,rfl⟩:=r;rfl
 |byt _=>obtain⟨t,rfl⟩:=r;rfl
 |flt _=>obtain⟨t,rfl⟩:=r;rfl
 |ref _=>cases r;rfl
 |ty _=>cases r;rfl
def RelV.inj{x y:V}{u:Value}(r:RelV x u)(q:RelV y u):x=y:=zF (r.abs.symm.trans q.abs)
theorem Vals.inj:∀{xs ys:List V}{us:List Value},Vals xs us->Vals ys us->xs=ys
 |_,_,_,.nil,.nil=>rfl
 |_,_,_,.cons r t,.cons r' t'=>by rw[r.inj r',Vals.inj t t']
section
variable {X:Cx}{pins:List (Addr × Obj)}{σ:St}{H:Hp}{s:Shared}{a:Addr}{xs ys:List V}
def SqL.of{K:W.Frag}(h:H a=some (.lst xs)):SqL K H a xs:=.inl (.inl h)
def Inv.list(I:Inv X pins σ H s)(h:SqL X.K H a xs):∃its:List Value,Vals xs its/\PlainL s.heap a its.toArray/\xs.length<=sizeLine:=by
 rcases h with h |⟨o,its,n,hk,hc,hd,hs,hz,r⟩
 ·obtain⟨z,its,n,r,e⟩:=h.ok I.hok;exact⟨its,r,⟨_,n,e,rfl,rfl,rfl⟩,z⟩
 ·refine ⟨its.toList, r, ⟨o, n, I.kIn a o hk, hc, hd, by simpa using hs⟩, ?_⟩
  have e:=r.length;simp only[xX] at e;lia
def Inv.tuple(I:Inv X pins σ H s)(h:SqT X.K H a xs):∃its:List Value,Vals xs its/\IsTup s.heap a its.toArray/\xs.length<=sizeLine:=by
 rcases h with h |⟨o,its,n,hk,hc,hs,hz,r⟩
 ·obtain⟨z,its,r,p⟩:=h.ok I.hok;exact⟨its,r,p,z⟩
 ·refine ⟨its.toList, r, ⟨o, I.kIn a o hk, hc, n, by simpa using hs⟩, ?_⟩
  have e:=r.length;simp only[xX] at e;lia
def Inv.list_inj(I:Inv X pins σ H s)(h:SqL X.K H a xs)(h':SqL X.K H a ys):xs=ys:=by
 obtain⟨its,r,⟨o,n,e,_,_,d⟩,_⟩:=I.list h;obtain⟨its',r',⟨o',n',e',_,_,d'⟩,_⟩:=I.list h';rw[e] at e';cases e';rw[d] at d';injection d' with d1 _
 have:its=its':=by simpa using congrArg Array.toList d1
 subst this;exact r.inj r'
def Inv.tuple_inj(I:Inv X pins σ H s)(h:SqT X.K H a xs)(h':SqT X.K H a ys):xs=ys:=by
 obtain⟨its,r,⟨o,e,_,n,d⟩,_⟩:=I.tuple h;obtain⟨its',r',⟨o',e',_,n',d'⟩,_⟩:=I.tuple h';rw[e] at e';cases e';rw[d] at d';injection d' with d1 _
 have:its=its':=by simpa using congrArg Array.toList d1
 subst this;exact r.inj r'
end
abbrev Cx.wish(X:Cx)(E:Value->Shared->Prop):Cx:={ X with xe:=E }
abbrev Cx.nox(X:Cx):Cx:=X.wish λ_ _=>False
def Cx.Ok.wish{X:Cx}(ok:X.Ok)(E:Value->Shared->Prop):(X.wish E).Ok:=
 ⟨ok.mod,ok.kind,ok.glob,ok.blt,ok.above,ok.inj,ok.has,ok.cab,ok.hd,ok.frames,ok.stk,ok.exf,ok.bs,ok.bsz,ok.noex,ok.exfs,ok.funs,ok.frf⟩
def Cx.Ok.unwish{X:Cx}{E:Value->Shared->Prop}(ok:(X.wish E).Ok):X.Ok:=
 ⟨ok.mod,ok.kind,ok.glob,ok.blt,ok.above,ok.inj,ok.has,ok.cab,ok.hd,ok.frames,ok.stk,ok.exf,ok.bs,ok.bsz,ok.noex,ok.exfs,ok.funs,ok.frf⟩
section
variable {X:Cx}{pins:List (Addr × Obj)}{σ:St}{H:Hp}{s:Shared}{E:Value->Shared->Prop}
def Inv.wish(I:Inv X pins σ H s)(E:Value->Shared->Prop):Inv (X.wish E) pins σ H s:=⟨I.ok.wish E,I.os,I.bare,I.base,I.loc,I.cell,I.free,I.freeC,I.pin,I.hok,I.len⟩
def Inv.unwish(I:Inv (X.wish E) pins σ H s):Inv X pins σ H s:=⟨I.ok.unwish,I.os,I.bare,I.base,I.loc,I.cell,I.free,I.freeC,I.pin,I.hok,I.len⟩
def SP.unwish{D:KP}{f:Flow}{s':Shared}(h:SP (X.wish E) pins D f s'):SP X pins D f s':=by
 cases f with
 |next=>obtain⟨σ',H',I,q⟩:=h;exact⟨σ',H',I.unwish,q⟩
 |brk=>obtain⟨σ',H',I,q⟩:=h;exact⟨σ',H',I.unwish,q⟩
 |cont=>obtain⟨σ',H',I,q⟩:=h;exact⟨σ',H',I.unwish,q⟩
 |ret u=>obtain⟨v,σ',H',I,r,q⟩:=h;exact⟨v,σ',H',I.unwish,r,q⟩
def PSs.nox{st:List Stmt}{t:TS}(h:PSs X.nox st t):PSs X st t:=λpins s σ H D I hw=>
 wE (h pins s σ H D (I.wish _) hw) (λ_ _ q=>q.unwish) λ_ _ z=>False.elim z
end
section
variable {X:Cx}{st:Stmt}{rest:List Stmt}{t u:TS}{e:Expr}{te:TE}{pos:Pos}
def xo4:TS:=λD σ H=>D.nx σ H
def xJ7(t u:TS):TS:=λD σ H=>t { D with nx:=u D } σ H
def zj0:PSs X [] xo4:=λ_ _ σ H _ I h=>wpAny_execs_nil ⟨σ,H,I,h⟩
def Vy(h1:PS X st t)(h2:PSs X rest u):PSs X (st::rest) (xJ7 t u):=by
 intro pins s σ H D I h;refine wpAny_execs_cons (thn (h1 pins s σ H { D with nx:=u D } I h) λf s1 q=>?_)
 cases f with
 |next=>
  obtain⟨σ',H',I',q⟩:=q;exact h2 pins s1 σ' H' D I' q
 |ret v=>exact q
 |brk=>exact q
 |cont=>exact q
def zM7(h1:PS X st t):PSs X [st] t:=by
 intro pins s σ H D I h;refine wpAny_execs_cons (thn (h1 pins s σ H D I h) λf s1 q=>?_)
 cases f with
 |next=>exact wpAny_execs_nil q
 |ret v=>exact q
 |brk=>exact q
 |cont=>exact q
def Inv.quiet{pins:List (Addr × Obj)}{σ:St}{H:Hp}{s:Shared}(I:Inv X pins σ H s):interactive X.env=false:=by simp[interactive,I.ok.kind]
def xo5(te:TE):TS:=λD σ H=>te σ H λ_ H1=>D.nx σ H1
def zj2(he:PE X e te)(hs:swapsWith e none pos.line X.env=pure false:=by rfl):PS X (.Expr e pos) (xo5 te):=by
 intro pins s σ H D I h;exact wpAny_Expr_any (thn (he pins s σ H _ I h) λv s1 ⟨x,H1,I1,r1,q1⟩=>⟨σ,H1,I1,q1⟩) I.quiet hs
def xJ8(te:TE):TS:=λD σ H=>te σ H D.rt
def zG1(he:PE X e te):PS X (.Return (some e) pos) (xJ8 te):=by
 intro pins s σ H D I h;exact wpAny_Return_some (thn (he pins s σ H _ I h) λv s1 ⟨x,H1,I1,r1,q1⟩=>⟨x,σ,H1,I1,r1,q1⟩)
def xK3(c:TT)(t u:TS):TS:=λD σ H=>c σ H λb H1=>if b=true then t D σ H1 else u D σ H1
def xy1{c:Expr}{a b:List Stmt}{tc:TT}(hc:PT X c tc)(ha:PSs X a t)(hb:PSs X b u):PS X (.If c a b pos) (xK3 tc t u):=by
 intro pins s σ H D I h;refine wpAny_If (thn (hc pins s σ H _ I h) λd s1 ⟨H1,I1,q1⟩=>?_)
 cases d with
 |true=>exact ha pins s1 σ H1 D I1 q1
 |false=>exact hb pins s1 σ H1 D I1 q1
end
abbrev TG:=V->St->Hp->(St->Hp->Prop)->Prop
abbrev TGs:=List V->St->Hp->(St->Hp->Prop)->Prop
def PG(X:Cx)(target:Expr)(t:TG):Prop:=
 ∀(pins:List (Addr × Obj)) (s:Shared) (σ:St) (H:Hp) (v:V) (u:Value) (Q:St->Hp->Prop),Inv X pins σ H s->RelV v u->t v σ H Q ->
  wpAny (model X.prog X.w) X.A (assign target X.env u) (λ_ s'=>∃σ' H',Inv X pins σ' H' s'/\Q σ' H') X.xe s
def PGs(X:Cx)(ts:List Expr)(t:TGs):Prop:=
 ∀(pins:List (Addr × Obj)) (s:Shared) (σ:St) (H:Hp) (vs:List V) (us:List Value) (Q:St->Hp->Prop),Inv X pins σ H s->Vals vs us->t vs σ H Q ->
  wpAny (model X.prog X.w) X.A (assignInOrder ((assignEach ts X.env).map (·.2)) us) (λ_ s'=>∃σ' H',Inv X pins σ' H' s'/\Q σ' H') X.xe s
abbrev xB4:=V->V->V->Hp->(Hp->Prop)->Prop
def xI8(X:Cx)(t:xB4):Prop:=
 ∀(pins:List (Addr × Obj)) (s:Shared) (σ:St) (H:Hp) (o i v:V) (ov iv u:Value) (Q:Hp->Prop),Inv X pins σ H s->RelV o ov->RelV i iv->RelV v u->t o i v H Q ->
  wpAny (model X.prog X.w) X.A (setItem ov iv u) (λ_ s'=>∃H',Inv X pins σ H' s'/\Q H') X.xe s
abbrev TIp:=V->V->Hp->VK->Prop
def PIp(X:Cx)(op:Operator)(t:TIp):Prop:=
 ∀(pins:List (Addr × Obj)) (s:Shared) (σ:St) (H:Hp) (x y:V) (v u:Value) (Q:VK),Inv X pins σ H s->RelV x v->RelV y u->t x y H Q ->
  wpAny (model X.prog X.w) X.A (inplaceOp op v u) (EP X pins σ Q) X.xe s
section
variable {X:Cx}{pos:Pos}
def zD1(i:Nat):TG:=λv σ H Q=>Q (σ.set i (some v)) H
def zN2{i:Nat}{x:Str}(hN:X.N.Nodup)(hi:X.N[i]?=some x)(hx:Loc X.env.scope x)(hf:X.fn x=true\/X.env.scope.names.lookup x=some .local:=by first |exact .inl rfl |exact .inr rfl |assumption):PG X (.Name x pos) (zD1 i):=by
 intro pins s σ H v u Q I r h;exact wpAny_assign_Name (Zr I hN hi hx r (λs' I'=>⟨_,H,I',h⟩) hf)
def xP6:TGs:=λvs σ H Q=>vs=[]/\Q σ H
def xA6(t:TG)(u:TGs):TGs:=λvs σ H Q=>∃v r,vs=v::r/\t v σ H λσ' H'=>u r σ' H' Q
def zN1:PGs X [] xP6:=by
 intro pins s σ H vs us Q I r h;obtain⟨e,h⟩:=h;subst e;cases r;exact assignInOrder_nil ⟨σ,H,I,h⟩
def zy6{e:Expr}{es:List Expr}{t:TG}{u:TGs}(h1:PG X e t)(h2:PGs X es u)
  (hs:(assignEach (e::es) X.env).map (·.2)=assign e X.env::(assignEach es X.env).map (·.2):=by rfl):PGs X (e::es) (xA6 t u):=by
 intro pins s σ H vs us Q I r h;obtain⟨v,vr,e1,h⟩:=h;subst e1
 cases r with
 |cons r rr=>
  rw[hs];refine assignInOrder_cons (thn (h1 pins s σ H _ _ _ I r h) λ_ s1 ⟨σ1,H1,I1,q1⟩=>?_);exact h2 pins s1 σ1 H1 _ _ Q I1 rr q1
def xP4(K:W.Frag)(n:Nat)(t:TGs):TG:=λv σ H Q=>∃a xs,v=.ref a/\SqT K H a xs/\xs.length=n/\t xs σ H Q
def xb1{es:List Expr}{k:Nat}{t:TGs}{n:Nat}(hc:X.calm=true)(h:PGs X es t)
  (hn:(assignEach es X.env).length=n:=by rfl) (hst:(assignEach es X.env).findIdx? (·.1)=none:=by rfl):PG X (.Tuple es k pos) (xP4 X.K n t):=by
 intro pins s σ H v u Q I r hw;obtain⟨a,xs,e1,hq,hl,hw⟩:=hw;subst e1;cases r;obtain⟨its,rv,ht,hz⟩:=I.tuple hq
 refine assign_Tuple_tuple (I.ok.hd hc) ht (by simp[hn,<- hl,rv.length]) hst λh' hx=>?_
 have I1:Inv X pins σ H { s with heap:=h' }:=I.kept (t':=s.toks) λb o e=>hx b o (zA (zp e)) e
 exact h pins _ σ H xs _ Q I1 (by simpa using rv) hw
def xP5(to ti:TE)(t:xB4):TG:=λv σ H Q=>to σ H λo H1=>ti σ H1 λi H2=>t o i v H2 λH3=>Q σ H3
def xb2{o i:Expr}{to ti:TE}{t:xB4}(ho:PE X o to)(hi:PE X i ti)(hs:xI8 X t)
  (ha : ∀ v, assign (.Subscript o i pos) X.env v = (do
   let ov <- holding [v] (eval o X.env)
   let iv <- holding [v,ov] (eval i X.env)
   standAt pos
   holding [v,ov,iv] (setItem ov iv v)
   release [v,ov,iv] []):=by intro _;rfl):PG X (.Subscript o i pos) (xP5 to ti t):=by
 intro pins s σ H v u Q I r h;rw[ha];refine zb (xF (thn (ho pins s σ H _ I h) λov s1 ⟨x,H1,I1,r1,q1⟩=>?_));refine zb (xF (thn (hi pins s1 σ H1 _ I1 q1) λiv s2 ⟨y,H2,I2,r2,q2⟩=>?_));refine zb (wpAny_standAt (zb (xF (thn (hs pins s2 σ H2 x y v ov iv u _ I2 r1 r2 r q2) λ_ s3 ⟨H3,I3,q3⟩=>?_))));exact wpAny_release ⟨σ,H3,I3,q3⟩
def xo9(te:TE)(g:TG):TS:=λD σ H=>te σ H λx H1=>g x σ H1 D.nx
def zj3{tg e:Expr}{te:TE}{g:TG}(he:PE X e te)(hg:PG X tg g)(hs:swapsWithSole [tg] e pos.line X.env=pure false:=by rfl)(hw:swappedStores [tg] e X.env=pure none:=by rfl)
  (h1:(assignEach [tg] X.env).map (·.2)=[assign tg X.env]:=by rfl):PS X (.Assign [tg] e pos) (xo9 te g):=by
 intro pins s σ H D I h;refine wpAny_Assign_stores (thn (he pins s σ H _ I h) λv s1 ⟨x,H1,I1,r1,q1⟩=>?_) hs hw;rw[h1];exact thn (hg pins s1 σ H1 x v _ I1 r1 q1) λ_ s2 q=>q
def Qh{i:Nat}{x:Str}{e:Expr}{te:TE}{pos':Pos}(hN:X.N.Nodup)(hi:X.N[i]?=some x)(hx:Loc X.env.scope x)(he:PE X e te)(hs:swapsWith e (some (.Name x pos')) pos.line X.env=pure false:=by rfl)(hf:X.fn x=true\/X.env.scope.names.lookup x=some .local:=by first |exact .inl rfl |exact .inr rfl |assumption) :
  PS X (.Assign [.Name x pos'] e pos) (xo9 te (zD1 i)):=by
 intro pins s σ H D I h;refine wpAny_Assign_Name (thn (he pins s σ H _ I h) λv s1 ⟨y,H1,I1,r1,q1⟩=>?_) hs;exact Zr I1 hN hi hx r1 (λs2 I2=>⟨_,H1,I2,q1⟩) hf
def xJ9(i j:Nat)(ta:TA):TS:=λD σ H=>ta σ H λvs H1=>∃v w,vs=[v,w]/\D.nx ((σ.set i (some v)).set j (some w)) H1
def zG2{i j:Nat}{x y:Str}{a b:Expr}{ta:TA}{px py pt:Pos}{kt k2 pt2}(hc:X.calm=true)(hN:X.N.Nodup)(hi:X.N[i]?=some x)(hj:X.N[j]?=some y)(hij:i≠j)
  (hx:X.env.scope.names.lookup x=some .local) (hy:X.env.scope.names.lookup y=some .local) (ha:PA X [a,b] ta)
  (hw:swappedStores [.Tuple [.Name x px,.Name y py] kt pt] (.Tuple [a,b] k2 pt2) X.env=pure (some [x,y]))
  (hs:swapsWithSole [.Tuple [.Name x px,.Name y py] kt pt] (.Tuple [a,b] k2 pt2) pos.line X.env=pure false:=by rfl) :
  PS X (.Assign [.Tuple [.Name x px,.Name y py] kt pt] (.Tuple [a,b] k2 pt2) pos) (xJ9 i j ta):=by
 intro pins s σ H D I h;rw[exec_Assign_arm];refine zb (wpAny_standAt ?_);rw[hs];refine zb (zf ?_)
 rw[if_neg w6]
 refine zb (Tuple_ (thn (ha _ pins s σ H _ I h) λus s1 ⟨vs,H1,I1,r1,q1⟩=>?_));obtain⟨v,w,e1,q1⟩:=q1;subst e1
 obtain⟨u1,u2,rfl,rv,rw'⟩:∃u1 u2,us=[u1,u2]/\RelV v u1/\RelV w u2:=by
  cases r1 with
  | cons p q =>
   cases q with
   |cons p' q'=>
    cases q';exact⟨_,_,rfl,p,p'⟩
 refine xZ ?_ (by show 2<=sizeLine;decide)
 have I2:Inv X pins σ H1 { s1 with heap:=s1.heap.push { cls:=.type "tuple",data:=.seq [u1,u2].toArray } }:=I1.kept (t':=s1.toks) λb o e=>ze _ e;rw[hw];refine zb (zf ?_)
 show wpAny (model X.prog X.w) X.A (do rule "assign.swapped-stores";let items <- unpackItems (.ref s1.heap.objs.size) 2 none;assignInOrder [λv=>bindName X.env y v,λv=>bindName X.env x v] items.reverse;pure Flow.next) _ _ _
 refine zb (yT (zb (unpackItems_tuple (items:=#[u1,u2]) (I.ok.hd hc) (IsTup.new s1.heap _) λh' hx'=>?_)));have I3:=I2.kept (h':=h') (t':=s1.toks) λb o e=>hx' b o (zA (zp e)) e;show wpAny _ _ (assignInOrder [λv=>bindName X.env y v,λv=>bindName X.env x v] [u2,u1] >>= λ_=>pure Flow.next) _ _ _;refine zb (assignInOrder_cons (wpAny_bindName (Zr I3 hN hj (.inl hy) rw' (λs2 I4=>?_) (.inr hy))));refine assignInOrder_cons (wpAny_bindName (Zr I4 hN hi (.inl hx) rv (λs3 I5=>assignInOrder_nil (zf ?_)) (.inr hx)));rw[List.set_comm _ _ (Ne.symm hij)] at I5;exact⟨_,H1,I5,q1⟩
def xK5(i:Nat)(te:TE)(ti:TIp):TS:=λD σ H=>∃x,σ[i]?=some (some x)/\te σ H λy H1=>ti x y H1 λz H2=>D.nx (σ.set i (some z)) H2
def xa8{i:Nat}{x:Str}{e:Expr}{te:TE}{op:Operator}{ti:TIp}{pos':Pos}(hN:X.N.Nodup)(hi:X.N[i]?=some x)(hx:Loc X.env.scope x)(he:PE X e te)(ho:PIp X op ti)(hf:X.fn x=true\/X.env.scope.names.lookup x=some .local:=by first |exact .inl rfl |exact .inr rfl |assumption) :
  PS X (.AugAssign (.Name x pos') op e pos) (xK5 i te ti):=by
 intro pins s σ H D I h;obtain⟨v,e1,h⟩:=h;obtain⟨m,hn,hl⟩:=I.loc
 have vis:Vis X.env.scope x:=by rcases hx with k |k;exact .inl k;exact .inr (.inl k)
 obtain⟨u,r,l⟩:=hl i x v hi e1 vis;refine wpAny_AugAssign_Name ?_
 have go:wpAny (model X.prog X.w) X.A (eval e X.env) (λw s₂=>wpAny (model X.prog X.w) X.A (inplaceOp op u w) (λr s₃=>wpAny (model X.prog X.w) X.A (storeName X.env x r) (λ_=>SP X pins D .next) X.xe s₃) X.xe s₂) X.xe s:=by
  refine thn (he pins s σ H _ I h) λw s1 ⟨y,H1,I1,r1,q1⟩=>?_;refine thn (ho pins s1 σ H1 v y u w _ I1 r r1 q1) λz s2 ⟨zv,H2,I2,r2,q2⟩=>?_;exact Zr I2 hN hi hx r2 (λs3 I3=>⟨_,H2,I3,q2⟩) hf
 rcases l with ⟨hk,hm⟩ |⟨hk,c,hc,hcell⟩
 ·exact wpAny_loadName_local I.ok.kind hk hn hm go
 ·rcases hk with hk | hk
  ·exact wpAny_loadName_cell I.ok.kind hk hc hcell go
  ·rcases hx with k | k
   ·have:X.env.scope.names.lookup x=some .free:=hk;rw[k] at this;cases this
   ·have:X.env.scope.names.lookup x=some .free:=hk;rw[k] at this;cases this
def ipI(f:Int->Int->Int):TIp:=λx y H Q=>∃i j,x=.int i/\y=.int j/\Q (.int (f i j)) H
def xg1:PIp X .Add (ipI λi j=>i+j):=by
 intro pins s σ H x y v u Q I r1 r2 h;obtain⟨i,j,e1,e2,q⟩:=h;subst e1;subst e2;obtain⟨t,rfl⟩:=r1;obtain⟨t',rfl⟩:=r2;exact iadd_int ⟨.int _,H,I.tok _,⟨_,rfl⟩,q⟩
def zV6(c:TT)(tb:TS):TS:=λD σ H=>∃W:Nat->St->Hp->Prop,(∃m,W m σ H)/\∀m σ H,W m σ H ->
 c σ H λb H1=>if b=true then ∃N:St->Hp->Prop,(∀σ' H',N σ' H'->∃m',m'<m/\W m' σ' H')/\tb { D with nx:=N,ct:=N,bk:=D.nx } σ H1 else D.nx σ H1
def zy5{c:Expr}{body:List Stmt}{tc:TT}{tb:TS}(hp:PassesOwn (model X.prog X.w) X.A X.env X.xe)(hc:PT X c tc)(hb:PSs X body tb):PS X (.While c body [] pos) (zV6 tc tb):=by
 intro pins s σ H D I h;obtain⟨W,⟨m0,w0⟩,turn⟩:=h;refine wpAny_While (codeAny_whileLoop (λn s'=>∃σ' H',Inv X pins σ' H' s'/\W n σ' H') ?_ m0 ⟨σ,H,I,w0⟩);rintro n s1 ⟨σ1,H1,I1,w1⟩;refine yx hp (thn (hc pins s1 σ1 H1 _ I1 (turn n σ1 H1 w1)) λb s2 ⟨H2,I2,q2⟩=>?_)
 cases b with
 | true =>
  obtain⟨N,hN,q2⟩:=q2;rw[if_pos rfl];refine yx hp (thn (hb pins s2 σ1 H2 _ I2 q2) λf s3 q3=>?_)
  cases f with
  |next=>
   obtain⟨σ3,H3,I3,n3⟩:=q3;obtain⟨m',hm,w3⟩:=hN σ3 H3 n3;exact⟨m',hm,σ3,H3,I3,w3⟩
  |cont=>
   obtain⟨σ3,H3,I3,n3⟩:=q3;obtain⟨m',hm,w3⟩:=hN σ3 H3 n3;exact⟨m',hm,σ3,H3,I3,w3⟩
  |brk=>exact q3
  |ret v=>exact q3
 |false=>
  rw[if_neg zy];exact wpAny_execs_nil ⟨σ1,H2,I2,q2⟩
end
structure It where
 go:Nat->Hp->Prop
 yld:Nat->Hp->V->Hp->Prop
 stop:Nat->Hp->Prop
def FpOk(X:Cx)(pins:List (Addr × Obj))(H:Hp)(b:Addr):Prop:=
 H b=none/\b≠X.env.locals/\b ∉ X.fs/\(b∈X.ex\/X.s₀.heap.objs.size<=b)/\(∀x c,X.env.cells.lookup x=some c->c≠b)/\∀p∈X.pn++pins,p.1≠b
def Inv.fpOk{X:Cx}{pins:List (Addr × Obj)}{σ:St}{H H':Hp}{s:Shared}{b:Addr}(I:Inv X pins σ H s)(hb:s.heap.objs.size<=b)(hn:H' b=none):FpOk X pins H' b:=by
 refine⟨hn,xJ (zQ I.lt hb),I.nofs hb,.inr (zB I.sz hb),λx c e z=>?_,λp hp z=>?_⟩
 ·obtain ⟨v, q⟩ := I.cell x c e
  exact absurd (zQ q.lt (by rw[z];exact hb)) (xm _)
 ·exact absurd (zQ (zp (I.pin p hp).1) (by rw[z];exact hb)) (xm _)
structure Turn(P:Program)(w:World)(K:W.Frag)(tg:Expr)(J:It)(fp:List Addr)(it:Addr)(tn:Nat->Heap->Prop):Prop where
 mem:it∈fp
 obj:∀i h,tn i h->∀b∈fp,∃o,h.get? b=some o/\∀v,o.data≠.cell v
 keep:∀i h h',tn i h->(∀b∈fp,∀o,h.get? b=some o->h'.get? b=some o)->tn i h'
 item:∀(X:Cx),X.prog=P->X.w=w->X.K=K->X.calm=true->∀(i:Nat) (pins:List (Addr × Obj)) (s:Shared) (σ:St) (H:Hp) (E:Value->Shared->Prop),Inv X pins σ H s->(∀b∈fp,FpOk X pins H b)->tn i s.heap->J.go i H ->
  wpAny (model P w) X.A (pyNext (.ref it)) (λr s1=>∃u,r=some u /\
   wpAny (model P w) X.A (letOwnedTupleGo tg (.ref it) u) (λ_ s2=>∃x H',Inv X pins σ H' s2/\RelV x u/\J.yld i H x H'/\tn (i+1) s2.heap/\∀b∈fp,H' b=none) E s1) E s
 done:∀(X:Cx),X.prog=P->X.w=w->X.K=K->X.calm=true->∀(i:Nat) (pins:List (Addr × Obj)) (s:Shared) (σ:St) (H:Hp) (E:Value->Shared->Prop),Inv X pins σ H s->(∀b∈fp,FpOk X pins H b)->tn i s.heap->J.stop i H ->
  wpAny (model P w) X.A (pyNext (.ref it)) (λr s1=>r=none/\Inv X pins σ H s1) E s
 self:∀(A:Around) (i:Nat) (s:Shared) (Q:Value->Shared->Prop) (E:Value->Shared->Prop),tn i s.heap->Q (.ref it) s->wpAny (model P w) A (pyIter (.ref it)) Q E s
abbrev TI:=St->Hp->(It->Hp->Prop)->Prop
def PIE(X:Cx)(pins:List (Addr × Obj))(σ:St)(tg:Expr)(R:It->Hp->Prop)(itv:Value)(s2:Shared):Prop:=
 ∃(it:Addr) (fp:List Addr) (tn:Nat->Heap->Prop) (J:It) (H':Hp),itv=.ref it/\Inv X pins σ H' s2/\Turn X.prog X.w X.K tg J fp it tn/\tn 0 s2.heap/\(∀b∈fp,FpOk X pins H' b)/\R J H'
def PI(X:Cx)(tg iter:Expr)(wi:TI):Prop:=
 ∀(pins:List (Addr × Obj)) (s:Shared) (σ:St) (H:Hp) (R:It->Hp->Prop),Inv X pins σ H s->wi σ H R ->
  wpAny (model X.prog X.w) X.A (eval iter X.env) (λv s1=>wpAny (model X.prog X.w) X.A (pyIter v) (PIE X pins σ tg R) X.xe s1) X.xe s
def zS3{M:Model}{A:Around}{E:Value->Shared->Prop}{s:Shared}{tg:Expr}{it:Addr}{u:Value}{o:Obj}{n:String}{vs:Array Value}{Q:Unit->Shared->Prop}(ho:s.heap.get? it=some o)(hc:o.cls=.type n)(hd:o.data=.fields vs)
    (hn:["enumerate","zip","dict_itemiterator","dict_reverseitemiterator","odict_iterator","itertools.zip_longest","itertools.pairwise"].contains n=false) (hQ:Q () s):wpAny M A (letOwnedTupleGo tg (.ref it) u) Q E s:=by
  unfold letOwnedTupleGo
  cases tg <;> first
    |exact zf hQ
    |(cases u<;>first
        |exact zf hQ
        | (refine zb (wpAny_load ho ?_)
           rw[hc,hd]
           show wpAny M A (if (["enumerate","zip","dict_itemiterator","dict_reverseitemiterator","odict_iterator","itertools.zip_longest","itertools.pairwise"].contains n&&vs[0]? == some (rawInt _))=true then _ else _) Q E s
           rw[if_neg (by intro h;rw[hn,Bool.false_and] at h;cases h)]
           exact zf hQ))
def Itl(K:W.Frag)(a:Addr):It:=
 ⟨λi H=>∃xs x,SqL K H a xs/\xs[i]?=some x,λi H x H'=>H'=H/\∀xs,SqL K H a xs->xs[i]?=some x,λi H=>∃xs,SqL K H a xs/\xs.length<=i⟩
def Itt(K:W.Frag)(a:Addr):It:=
 ⟨λi H=>∃xs x,SqT K H a xs/\xs[i]?=some x,λi H x H'=>H'=H/\∀xs,SqT K H a xs->xs[i]?=some x,λi H=>∃xs,SqT K H a xs/\xs.length<=i⟩
def Itr(lo:Int)(n:Nat):It:=⟨λi _=>i<n,λi H x H'=>H'=H/\x=.int (lo+i),λi _=>n<=i⟩
def zf5{P:Program}{w:World}{K:W.Frag}{tg:Expr}(a it:Addr):Turn P w K tg (Itl K a) [it] it (λi h=>h.IsListIter it a i) where
 mem:=by simp
 obj:=λi h st b hb=>by
  have e:b=it:=by simpa using hb
  subst e;obtain⟨o,e,c,d⟩:=st
  exact⟨o,e,λv z=>by rw[d] at z;cases z⟩
 keep:=λi h h' st k=>st.at λo e=>k it (by simp) o e
 item:=by
  intro X hP hw hK hc i pins s σ H E I hf st hg;subst hP hw hK;obtain⟨xs,x,hq,hx⟩:=hg;obtain⟨its,rv,p,hz⟩:=I.list hq;obtain⟨u,hu,ru⟩:=rv.get hx
  obtain⟨f0,f1,f2,f3,f4,f5⟩:=hf it (by simp)
  refine wpAny_pyNext_list_item st p.isList (x:=u) (by simpa using hu) λh' st' sb=>?_
  have I1:Inv X pins σ H { s with heap:=h' }:=I.turned (t':=s.toks) (λb o hb e=>(sb.2 b hb).trans e) f0 f1 f3 f4 f5;obtain⟨o,e,c,d⟩:=id st'
  exact⟨u,rfl,zS3 (s:={ s with heap:=h' }) e c d w6 ⟨x,H,I1,ru,⟨rfl,λys hy=>by rw[I.list_inj hy hq];exact hx⟩,st',λb hb=>(hf b hb).1⟩⟩
 done:=by
  intro X hP hw hK hc i pins s σ H E I hf st hg;subst hP hw hK;obtain⟨xs,hq,hx⟩:=hg;obtain⟨its,rv,p,hz⟩:=I.list hq
  obtain⟨f0,f1,f2,f3,f4,f5⟩:=hf it (by simp)
  have hl:=rv.length
  exact wpAny_pyNext_list_end (I.ok.hd hc) st p.isList (by simp;lia) λh' eb=>⟨rfl,I.turned (t':=s.toks) (λb o hb e=>eb b o hb e) f0 f1 f3 f4 f5⟩
 self:=λ_ _ _ _ _ st h=>wpAny_pyIter_listiter st h
def za0{P:Program}{w:World}{K:W.Frag}{tg:Expr}(a it:Addr):Turn P w K tg (Itt K a) [it] it (λi h=>h.IsTupleIter it a i) where
 mem:=by simp
 obj:=λi h st b hb=>by
  have e:b=it:=by simpa using hb
  subst e;obtain⟨o,e,c,d⟩:=st
  exact⟨o,e,λv z=>by rw[d] at z;cases z⟩
 keep:=λi h h' st k=>st.at λo e=>k it (by simp) o e
 item:=by
  intro X hP hw hK hc i pins s σ H E I hf st hg;subst hP hw hK;obtain⟨xs,x,hq,hx⟩:=hg;obtain⟨its,rv,p,hz⟩:=I.tuple hq;obtain⟨u,hu,ru⟩:=rv.get hx
  obtain⟨f0,f1,f2,f3,f4,f5⟩:=hf it (by simp)
  refine wpAny_pyNext_tuple_item st (show s.heap.IsTuple a its.toArray from p) (x:=u) (by simpa using hu) λh' st' sb=>?_
  have I1:Inv X pins σ H { s with heap:=h' }:=I.turned (t':=s.toks) (λb o hb e=>(sb.2 b hb).trans e) f0 f1 f3 f4 f5;obtain⟨o,e,c,d⟩:=id st'
  exact⟨u,rfl,zS3 (s:={ s with heap:=h' }) e c d w6 ⟨x,H,I1,ru,⟨rfl,λys hy=>by rw[I.tuple_inj hy hq];exact hx⟩,st',λb hb=>(hf b hb).1⟩⟩
 done:=by
  intro X hP hw hK hc i pins s σ H E I hf st hg;subst hP hw hK;obtain⟨xs,hq,hx⟩:=hg;obtain⟨its,rv,p,hz⟩:=I.tuple hq
  obtain⟨f0,f1,f2,f3,f4,f5⟩:=hf it (by simp)
  have hl:=rv.length
  exact wpAny_pyNext_tuple_end (I.ok.hd hc) st (show s.heap.IsTuple a its.toArray from p) (by simp;lia) λh' eb=>⟨rfl,I.turned (t':=s.toks) (λb o hb e=>eb b o hb e) f0 f1 f3 f4 f5⟩
 self:=λ_ _ _ _ _ st h=>wpAny_pyIter_tupleiter st h
def za1{P:Program}{w:World}{K:PySem.W.Frag}{tg:Expr}(it:Addr)(lo:Int)(n:Nat):Turn P w K tg (Itr lo n) [it] it (λi h=>IsRangeIter h it (lo+(i:Nat)*1) ((n:Int)-(i:Nat)) 1) where
 mem:=by simp
 obj:=λi h st b hb=>by
  have e:b=it:=by simpa using hb
  subst e
  exact⟨_,st,λv z=>by
   have z':Data.fields _=Data.cell v:=z
   cases z'⟩
 keep:=λi h h' st k=>k it (by simp) _ st
 item:=by
  intro X hP hw hK hc i pins s σ H E I hf st hg;subst hP hw hK
  obtain⟨f0,f1,f2,f3,f4,f5⟩:=hf it (by simp)
  have W:=Walks.range (prog:=X.prog) (w:=X.w) (I.ok.hd hc) it lo 1 n;refine W.item i s _ _ hg st λv h' tk hv st' kk=>?_;obtain⟨t,rfl⟩:=hv
  have I1:Inv X pins σ H { s with heap:=h',toks:=tk }:=I.turned (λb o hb e=>kk b o (by simpa using hb) e) f0 f1 f3 f4 f5
  refine⟨_,rfl,zS3 (s:={ s with heap:=h',toks:=tk }) (n := "range_iterator") st' rfl rfl w6 ⟨.int (lo+i),H,I1,⟨t,?_⟩,⟨rfl,rfl⟩,st',λb hb=>(hf b hb).1⟩⟩
  rw[Int.mul_one]
 done:=by
  intro X hP hw hK hc i pins s σ H E I hf st hg;subst hP hw hK
  obtain⟨f0,f1,f2,f3,f4,f5⟩:=hf it (by simp)
  exact wpAny_pyNext_range_end (I.ok.hd hc) st (by have:n<=i:=hg;lia) λh' eb=>⟨rfl,I.turned (t':=s.toks) (λb o hb e=>eb b o hb e) f0 f1 f3 f4 f5⟩
 self:=λ_ _ _ _ _ st h=>wpAny_pyIter_rangeiter st h
section
variable {X:Cx}{tg:Expr}
def zx3{pins:List (Addr × Obj)}{σ:St}{H:Hp}{s:Shared}{R:It->Hp->Prop}{E:Value->Shared->Prop}{lo hi:Int}{t u v:Tok}{tk:Nat}(I:Inv X pins σ H s)(h1:-(2^62)<=lo)(h2:lo<2^62)(h3:-(2^62)<=hi)(h4:hi<2^62)
  (q:R (Itr lo (hi-lo).toNat) H):wpAny (model X.prog X.w) X.A (pyIter (.ref s.heap.objs.size)) (PIE X pins σ tg R) E { s with heap:=s.heap.push { cls:=.type "range",data:=.fields #[.int lo t,.int hi u,.int 1 v] },toks:=tk }:=by
 refine wpAny_pyIter_range (IsRange.new ..) (small_one h1 h2 h3 h4) ?_;have I1:Inv X pins σ H { s with heap:=s.heap.push { cls:=.type "range",data:=.fields #[.int lo t,.int hi u,.int 1 v] },toks:=tk }:=I.kept λb o e=>ze _ e
 refine⟨(s.heap.push { cls:=.type "range",data:=.fields #[.int lo t,.int hi u,.int 1 v] }).objs.size,[(s.heap.push { cls:=.type "range",data:=.fields #[.int lo t,.int hi u,.int 1 v] }).objs.size],_,_,H,rfl,
  I1.kept (t':=tk) λb o e=>ze _ e,za1 _ lo (hi-lo).toNat,?_,λb hb=>?_,q⟩
 ·have e1 : lo + ((0 : Nat) : Int) * 1 = lo := by simp
  have e2:(((hi-lo).toNat:Nat):Int)-((0:Nat):Int)=Builtin.Range.rangeSize lo hi 1:=by rw[rangeSize_one];split<;>lia
  show IsRangeIter _ _ (lo+((0:Nat):Int)*1) ((((hi-lo).toNat:Nat):Int)-((0:Nat):Int)) 1;rw[e1,e2];exact zq _ rfl
 ·have e : b = (s.heap.push { cls := .type "range", data := .fields #[.int lo t, .int hi u, .int 1 v] }).objs.size := by simpa using hb
  subst e;exact I1.fpOk (zo _) (I1.hok.fresh (zo _))
def xA4(ta:TA):TI:=λσ H R=>ta σ H λvs H1=>∃j:Int,vs=[.int j]/\-(2^62)<=j/\j<2^62/\R (Itr 0 j.toNat) H1
def zj7{a:Expr}{ta:TA}{p pos:Pos}(hg:Gl X "range")(hm:X.mg "range" = none)(ha:PA X [a] ta)(hs:starEach [a] X.env=[(false,eval a X.env)]:=by rfl):PI X tg (.Call (.Name "range" p) [a] [] pos) (xA4 ta):=by
 intro pins s σ H R I h;refine Call_ (UZ I hg hm boot_range (PyProof.Rows.callWith_type1 (thn (ha pos pins s σ H _ I h) λus s1 ⟨vs,H1,I1,r1,q1⟩=>?_) hs rfl));obtain⟨j,e,q1,q2,q⟩:=q1;subst e
 cases r1 with
 |cons r rr=>
  cases rr;obtain⟨t,rfl⟩:=r
  exact call_range_1 (zx3 I1 w5 w5 q1 q2 (by simpa using q))
def xK4(wi:TI)(g:TG)(tb:TS):TS:=λD σ H=>wi σ H λJ H1=>∃W:Nat->Nat->St->Hp->Prop,(∃m,W 0 m σ H1)/\∀i m σ H,W i m σ H ->
 (J.stop i H/\D.nx σ H)\/(J.go i H/\∃N:St->Hp->Prop,(∀σ' H',N σ' H'->∃m',m'<m/\W (i+1) m' σ' H')/\∀x H',J.yld i H x H'->g x σ H' λσ2 H2=>tb { D with nx:=N,ct:=N,bk:=D.nx } σ2 H2)
def Xj(fp:List Addr)(h:Heap):List (Addr × Obj):=fp.filterMap λb=>(h.get? b).map λo=>(b,o)
def vU{fp:List Addr}{h:Heap}{b:Addr}{o:Obj}(hb:b∈fp)(e:h.get? b=some o):(b,o)∈Xj fp h:=List.mem_filterMap.mpr ⟨b,hb,by rw[e];rfl⟩
def zl7{fp:List Addr}{h:Heap}{p:Addr × Obj}(hp:p∈Xj fp h):p.1∈fp/\h.get? p.1=some p.2:=by
 obtain⟨b,hb,e⟩:=List.mem_filterMap.mp hp
 cases q:h.get? b with
 |none=>rw[q] at e;cases e
 |some o=>
  rw[q] at e;have e':(b,o)=p:=zF e;subst e';exact⟨hb,q⟩
def Inv.pinned{pins:List (Addr × Obj)}{σ:St}{H:Hp}{s:Shared}{fp:List Addr}(I:Inv X pins σ H s)(hf:∀b∈fp,FpOk X pins H b)(ho:∀b∈fp,∃o,s.heap.get? b=some o/\∀v,o.data≠.cell v):Inv X (pins++Xj fp s.heap) σ H s:=
 I.pins_of λp hp=>(zW.mp hp).elim (λz=>I.pin p (zr _ z)) λz=>by
  obtain⟨hb,e⟩:=zl7 z;obtain⟨f0,f1,f2,_⟩:=hf p.1 hb;obtain⟨o,e',d⟩:=ho p.1 hb;rw[e] at e';cases e';exact⟨e,f0,f1,f2,d⟩
def Inv.unpinned{pins pl:List (Addr × Obj)}{σ:St}{H:Hp}{s:Shared}(I:Inv X (pins++pl) σ H s):Inv X pins σ H s:=I.pins_of λp hp=>I.pin p (zr _ (xj _ hp))
def xa7{iter:Expr}{body:List Stmt}{wi:TI}{g:TG}{tb:TS}{pos:Pos}(hp:PassesOwn (model X.prog X.w) X.A X.env X.xe)(hc:X.calm=true)(hi:PI X tg iter wi)(hg:PG X tg g)(hb:PSs X body tb)
  (hs:∀x,foldedSetIterable iter X.env x=pure x:=by intro _;rfl):PS X (.For tg iter body [] pos) (xK4 wi g tb):=by
 intro pins s σ H D I h;refine wpAny_For (thn (hi pins s σ H _ I h) λv s1 h1=>thn h1 λitv s2 h2=>?_) hs;obtain⟨it,fp,tn,J,H2,e,I2,T,st2,f2,W,⟨m0,w0⟩,turn⟩:=h2;subst e;have stat:∀{H':Hp},(∀b∈fp,H' b=none)->∀b∈fp,FpOk X pins H' b:=λhn b hb=>⟨hn b hb,(f2 b hb).2⟩;refine codeAny_forLoop_any (λn s'=>∃i σ' H',Inv X pins σ' H' s'/\tn i s'.heap/\(∀b∈fp,H' b=none)/\W i n σ' H') ?_ m0 ⟨0,σ,H2,I2,st2,λb hb=>(f2 b hb).1,w0⟩;rintro n s3 ⟨i,σ3,H3,I3,st3,fr3,w3⟩
 rcases turn i n σ3 H3 w3 with ⟨stop,qn⟩ |⟨go,N,hN,step⟩
 ·refine yx hp (thn (T.done X rfl rfl rfl hc i pins s3 σ3 H3 X.xe I3 (stat fr3) st3 stop) λr s4 ⟨hr,I4⟩=>?_);subst hr;exact wpAny_execs_nil ⟨σ3,H3,I4,qn⟩
 ·refine yx hp (thn (T.item X rfl rfl rfl hc i pins s3 σ3 H3 X.xe I3 (stat fr3) st3 go) λr s4 ⟨u, hr, h4⟩ => ?_);subst hr;refine yx hp (thn h4 λ_ s5 ⟨x,H5,I5,r5,y5,st5,fr5⟩=>?_);have I5':=I5.pinned (stat fr5) (T.obj _ _ st5);refine yx hp (thn (hg _ s5 σ3 H5 x u _ I5' r5 (step x H5 y5)) λ_ s6 ⟨σ6,H6,I6,q6⟩=>?_);refine yx hp (thn (hb _ s6 σ6 H6 _ I6 q6) λf s7 q7=>?_)
  have again:∀{σ7:St}{H7:Hp},Inv X (pins++Xj fp s5.heap) σ7 H7 s7->N σ7 H7->∃m,m<n/\∃i σ' H',Inv X pins σ' H' s7/\tn i s7.heap/\(∀b∈fp,H' b=none)/\W i m σ' H':=λ{σ7 H7} I7 n7=>by
   obtain⟨m',hm,w7⟩:=hN σ7 H7 n7;refine⟨m',hm,i+1,σ7,H7,I7.unpinned,T.keep _ _ _ st5 λb hb o e=>(I7.pin (b,o) (zr _ (zr _ (vU hb e)))).1,λb hb=>?_,w7⟩;obtain⟨o,e,d⟩:=T.obj _ _ st5 b hb;exact(I7.pin (b,o) (zr _ (zr _ (vU hb e)))).2.1
  cases f with
  |next=>obtain⟨σ7,H7,I7,n7⟩:=q7;exact again I7 n7
  |cont=>obtain⟨σ7,H7,I7,n7⟩:=q7;exact again I7 n7
  |brk=>obtain⟨σ7,H7,I7,q7⟩:=q7;exact⟨σ7,H7,I7.unpinned,q7⟩
  |ret v=>obtain⟨x7,σ7,H7,I7,r7,q7⟩:=q7;exact⟨x7,σ7,H7,I7.unpinned,r7,q7⟩
end
abbrev R2:=V->V->Hp->VK->Prop
def OpR(X:Cx)(f:Value->Value->Sem Value)(r:R2):Prop:=
 ∀(pins:List (Addr × Obj)) (s:Shared) (σ:St) (H:Hp) (x y:V) (v u:Value) (Q:VK),Inv X pins σ H s->RelV x v->RelV y u->r x y H Q ->
  wpAny (model X.prog X.w) X.A (f v u) (EP X pins σ Q) X.xe s
def UnR(X:Cx)(f:Value->Sem Value)(r:V->Hp->VK->Prop):Prop:=
 ∀(pins:List (Addr × Obj)) (s:Shared) (σ:St) (H:Hp) (x:V) (v:Value) (Q:VK),Inv X pins σ H s->RelV x v->r x H Q ->
  wpAny (model X.prog X.w) X.A (f v) (EP X pins σ Q) X.xe s
def qo(X:Cx)(f:Value)(r:List V->Hp->VK->Prop):Prop:=
 ∀(pins:List (Addr × Obj)) (s:Shared) (σ:St) (H:Hp) (xs:List V) (us:List Value) (Q:VK),Inv X pins σ H s->Vals xs us->r xs H Q ->
  wpAny (model X.prog X.w) X.A (call f us) (EP X pins σ Q) X.xe s
def tOp(r:R2)(ta tb:TE):TE:=λσ H Q=>ta σ H λx H1=>tb σ H1 λy H2=>r x y H2 Q
def tUn(r:V->Hp->VK->Prop)(ta:TE):TE:=λσ H Q=>ta σ H λx H1=>r x H1 Q
def rI(C:Int->Int->Prop)(g:Int->Int->V):R2:=λx y H Q=>∃i j,x=.int i/\y=.int j/\C i j/\Q (g i j) H
def rI0(g:Int->Int->V):R2:=λx y H Q=>∃i j,x=.int i/\y=.int j/\Q (g i j) H
def rU(g:Int->V):V->Hp->VK->Prop:=λx H Q=>∃i,x=.int i/\Q (g i) H
section
variable {X:Cx}{a b c:Expr}{ta tb tc:TE}{pos:Pos}
def xB2(ha:PE X a ta)(hb:PE X b tb){pins:List (Addr × Obj)}{s:Shared}{σ:St}{H:Hp}{R:V->V->Hp->Prop}(I:Inv X pins σ H s)
  (h:ta σ H λx H1=>tb σ H1 λy H2=>R x y H2) {Q:Value->Shared->Prop}{f:Value->Value->Sem Value}
  (hf:∀v u s2 x y H2,Inv X pins σ H2 s2->RelV x v->RelV y u->R x y H2->wpAny (model X.prog X.w) X.A (f v u) Q X.xe s2) :
  wpAny (model X.prog X.w) X.A (eval a X.env) (λv s₁=>wpAny (model X.prog X.w) X.A (eval b X.env) (λu s₂=>wpAny (model X.prog X.w) X.A (f v u) Q X.xe s₂) X.xe s₁) X.xe s:=by
 refine thn (ha pins s σ H _ I h) λv s1 ⟨x,H1,I1,r1,q1⟩=>?_;refine thn (hb pins s1 σ H1 _ I1 q1) λu s2 ⟨y,H2,I2,r2,q2⟩=>?_;exact hf v u s2 x y H2 I2 r1 r2 q2
def xy3{op:Operator}{r:R2}(ho:OpR X (binaryOp op) r)(ha:PE X a ta)(hb:PE X b tb):PE X (.BinOp a op b pos) (tOp r ta tb):=by
 intro pins s σ H Q I h;exact wpAny_BinOp (xB2 ha hb I h λv u s2 x y H2 I2 rx ry q=>ho pins s2 σ H2 x y v u Q I2 rx ry q)
def xy2{op:UnaryOp}{r:V->Hp->VK->Prop}(ho:UnR X (unaryOp op) r)(ha:PE X a ta):PE X (.UnaryOp op a pos) (tUn r ta):=by
 intro pins s σ H Q I h;exact UnaryOp_ (thn (ha pins s σ H _ I h) λv s1 ⟨x,H1,I1,r1,q1⟩=>ho pins s1 σ H1 x v Q I1 r1 q1)
def opI{f:Value->Value->Sem Value}{C:Int->Int->Prop}{g:Int->Int->Int}
  (rule:∀(i j:Int) (t u:Tok) (s:Shared) (Q:Value->Shared->Prop) (E:Value->Shared->Prop),C i j->Q (.int (g i j) s.toks) { s with toks:=s.toks+1 }->wpAny (model X.prog X.w) X.A (f (.int i t) (.int j u)) Q E s) :
  OpR X f (rI C λi j=>.int (g i j)):=by
 intro pins s σ H x y v u Q I rx ry h;obtain⟨i,j,rfl,rfl,hc,q⟩:=h;obtain⟨t,rfl⟩:=rx;obtain⟨t',rfl⟩:=ry;exact rule i j t t' s _ _ hc ⟨.int (g i j),H,I.tok _,⟨_,rfl⟩,q⟩
def xH2{f:Value->Value->Sem Value}{g:Int->Int->Int}
  (rule:∀(i j:Int) (t u:Tok) (s:Shared) (Q:Value->Shared->Prop) (E:Value->Shared->Prop),Q (.int (g i j) s.toks) { s with toks:=s.toks+1 }->wpAny (model X.prog X.w) X.A (f (.int i t) (.int j u)) Q E s) :
  OpR X f (rI0 λi j=>.int (g i j)):=by
 intro pins s σ H x y v u Q I rx ry h;obtain⟨i,j,rfl,rfl,q⟩:=h;obtain⟨t,rfl⟩:=rx;obtain⟨t',rfl⟩:=ry;exact rule i j t t' s _ _ ⟨.int (g i j),H,I.tok _,⟨_,rfl⟩,q⟩
def xn5{f:Value->Value->Sem Value}{g:Int->Int->Bool}
  (rule:∀(i j:Int) (t u:Tok) (s:Shared) (Q:Value->Shared->Prop) (E:Value->Shared->Prop),Q (.bool (g i j)) s->wpAny (model X.prog X.w) X.A (f (.int i t) (.int j u)) Q E s) :
  OpR X f (rI0 λi j=>.bl (g i j)):=by
 intro pins s σ H x y v u Q I rx ry h;obtain⟨i,j,rfl,rfl,q⟩:=h;obtain⟨t,rfl⟩:=rx;obtain⟨t',rfl⟩:=ry;exact rule i j t t' s _ _ ⟨.bl (g i j),H,I,rfl,q⟩
def xJ2(i j:Int):Prop:=0<j/\j<1073741824
def xJ1(i j:Int):Prop:=0<=j/\j<=1000000/\i.natAbs<2^64
def CMul(i j:Int):Prop:=(-(2^64)<i/\i<2^64)\/(-(2^64)<j/\j<2^64)
def CMul.ok{i j:Int}(h:CMul i j):IntMulOk i j:=by
 rcases h with ⟨h1,h2⟩ |⟨h1,h2⟩
 ·exact .of_left (intBits_le_64 h1 h2)
 ·exact .of_right (intBits_le_64 h1 h2)
def xc8:OpR X (binaryOp .Add) (rI0 λi j=>.int (i+j)):=xH2 λ_ _ _ _ _ _ _ q=>add_int q
def xc3:OpR X (binaryOp .Sub) (rI0 λi j=>.int (i-j)):=xH2 λ_ _ _ _ _ _ _ q=>sub_int q
def xc5:OpR X (binaryOp .Mult) (rI CMul λi j=>.int (i*j)):=opI λ_ _ _ _ _ _ _ hc q=>mul_int q hc.ok
def zO5:OpR X (binaryOp .FloorDiv) (rI xJ2 λi j=>.int (i/j)):=opI λi j _ _ _ _ _ hc q=>by
 have h1:(0:Int)<j:=hc.1;have h2:j<1073741824:=hc.2
 exact floordiv_int w5 (by rw[Int.fdiv_eq_ediv_of_nonneg i w5];exact q) (.inl (PyProof.noPylong_small w5))
def xc6:OpR X (binaryOp .Mod) (rI (λ_ j=>0<j) λi j=>.int (i%j)):=opI λi j _ _ _ _ _ hc q=>by
 have h1:(0:Int)<j:=hc
 exact mod_int' w5 (by rw[Int.fmod_eq_emod_of_nonneg i w5];exact q)
def xc4:OpR X (binaryOp .Pow) (rI xJ1 λi j=>.int (i^j.toNat)):=opI λ_ _ _ _ _ _ _ hc q=>pow_int_small hc.1 hc.2.1 hc.2.2 q
def unI{f:Value->Sem Value}{g:Int->Int}
  (rule:∀(i:Int) (t:Tok) (s:Shared) (Q:Value->Shared->Prop) (E:Value->Shared->Prop),Q (.int (g i) s.toks) { s with toks:=s.toks+1 }->wpAny (model X.prog X.w) X.A (f (.int i t)) Q E s) :
  UnR X f (rU λi=>.int (g i)):=by
 intro pins s σ H x v Q I rx h;obtain⟨i,rfl,q⟩:=h;obtain⟨t,rfl⟩:=rx;exact rule i t s _ _ ⟨.int (g i),H,I.tok _,⟨_,rfl⟩,q⟩
def zV0:UnR X (unaryOp .USub) (rU λi=>.int (-i)):=unI λ_ _ _ _ _ q=>neg_int q
end
def xj3:V->V->Bool
 |.non,.non=>true |.non,.int _=>true |.int _,.non=>true |.non,.bl _=>true |.bl _,.non=>true |.non,.str _=>true |.str _,.non=>true
 |.int _,.int _=>true |.bl _,.bl _=>true |.str _,.str _=>true |.byt _,.byt _=>true
 |.int _,.str _=>true |.str _,.int _=>true |.bl _,.str _=>true |.str _,.bl _=>true
 |_,_=>false
def rEq:R2:=λx y H Q=>xj3 x y=true/\Q (.bl (decide (x=y))) H
def rNe:R2:=λx y H Q=>xj3 x y=true/\Q (.bl (!decide (x=y))) H
def zq6{i j:Int}:decide (V.int i=V.int j)=(i == j):=by
 rw[wj];simp
def zI8{i j:Bool}:decide (V.bl i=V.bl j)=(i == j):=by
 rw[wj];simp
def zq5{i j:Str}:decide (V.str i=V.str j)=(i == j):=by
 rw[wj];simp
def zq7{i j:Array UInt8}:decide (V.byt i=V.byt j)=(i.toList == j.toList):=by
 rw[wj];cases i;cases j;simp
section
variable {X:Cx}{a b c:Expr}{ta tb tc:TE}{pos:Pos}
def vc{pins:List (Addr × Obj)}{σ:St}{H:Hp}{s:Shared}{Q:VK}{k k':Bool}(I:Inv X pins σ H s)(q:Q (.bl k) H)(e:k=k'):EP X pins σ Q (.bool k') s:=by
 subst e;exact⟨.bl k,H,I,rfl,q⟩
def VE:OpR X (compareOp .Eq) rEq:=by
 intro pins s σ H x y v u Q I rx ry h;obtain⟨hs,q⟩:=h
 cases x with
 |non=>
  cases rx
  cases y with
  |non=>cases ry;exact PySem.EqNone.eq_none_none (vc I q (by simp))
  |bl j=>cases ry;exact PySem.EqNone.eq_none_bool (vc I q (by simp))
  |int j=>obtain⟨t',rfl⟩:=ry;exact PySem.EqNone.eq_none_int (vc I q (by simp))
  |str j=>obtain⟨t',rfl⟩:=ry;exact PySem.EqNone.eq_none_str (vc I q (by simp))
  |_=>exact absurd (show false=true from hs) zy
 |bl i=>
  cases rx
  cases y with
  |non=>cases ry;exact PySem.EqNone.eq_bool_none (vc I q (by simp))
  |bl j=>cases ry;exact eq_bool (vc I q zI8)
  |str j=>obtain⟨t',rfl⟩:=ry;exact PySem.EqMixed.eq_bool_str (vc I q (by simp))
  |_=>exact absurd (show false=true from hs) zy
 |int i=>
  obtain⟨t,rfl⟩:=rx
  cases y with
  |non=>cases ry;exact PySem.EqNone.eq_int_none (vc I q (by simp))
  |int j=>obtain⟨t',rfl⟩:=ry;exact eq_int (vc I q zq6)
  |str j=>obtain⟨t',rfl⟩:=ry;exact PySem.EqMixed.eq_int_str (vc I q (by simp))
  |_=>exact absurd (show false=true from hs) zy
 |str i=>
  obtain⟨t,rfl⟩:=rx
  cases y with
  |non=>cases ry;exact PySem.EqNone.eq_str_none (vc I q (by simp))
  |bl j=>cases ry;exact PySem.EqMixed.eq_str_bool (vc I q (by simp))
  |int j=>obtain⟨t',rfl⟩:=ry;exact PySem.EqMixed.eq_str_int (vc I q (by simp))
  |str j=>obtain⟨t',rfl⟩:=ry;exact eq_str (vc I q zq5)
  |_=>exact absurd (show false=true from hs) zy
 |byt i=>
  obtain⟨t,rfl⟩:=rx
  cases y with
  |byt j=>obtain⟨t',rfl⟩:=ry;exact W.eq_bytes (vc I q zq7)
  |_=>exact absurd (show false=true from hs) zy
 |_=>cases y<;>exact absurd (show false=true from hs) zy
def xy8:OpR X (compareOp .NotEq) rNe:=by
 intro pins s σ H x y v u Q I rx ry h;obtain⟨hs,q⟩:=h
 cases x with
 |non=>
  cases rx
  cases y with
  |non=>cases ry;exact PySem.EqNone.ne_none_none (vc I q (by simp))
  |bl j=>cases ry;exact PySem.EqNone.ne_none_bool (vc I q (by simp))
  |int j=>obtain⟨t',rfl⟩:=ry;exact PySem.EqNone.ne_none_int (vc I q (by simp))
  |str j=>obtain⟨t',rfl⟩:=ry;exact PySem.EqNone.ne_none_str (vc I q (by simp))
  |_=>exact absurd (show false=true from hs) zy
 |bl i=>
  cases rx
  cases y with
  |non=>cases ry;exact PySem.EqNone.ne_bool_none (vc I q (by simp))
  |bl j=>cases ry;exact ne_bool (vc I q (congrArg not zI8))
  |str j=>obtain⟨t',rfl⟩:=ry;exact PySem.EqMixed.ne_bool_str (vc I q (by simp))
  |_=>exact absurd (show false=true from hs) zy
 |int i=>
  obtain⟨t,rfl⟩:=rx
  cases y with
  |non=>cases ry;exact PySem.EqNone.ne_int_none (vc I q (by simp))
  |int j=>obtain⟨t',rfl⟩:=ry;exact ne_int (vc I q (congrArg not zq6))
  |str j=>obtain⟨t',rfl⟩:=ry;exact PySem.EqMixed.ne_int_str (vc I q (by simp))
  |_=>exact absurd (show false=true from hs) zy
 |str i=>
  obtain⟨t,rfl⟩:=rx
  cases y with
  |non=>cases ry;exact PySem.EqNone.ne_str_none (vc I q (by simp))
  |bl j=>cases ry;exact PySem.EqMixed.ne_str_bool (vc I q (by simp))
  |int j=>obtain⟨t',rfl⟩:=ry;exact PySem.EqMixed.ne_str_int (vc I q (by simp))
  |str j=>obtain⟨t',rfl⟩:=ry;exact ne_str (vc I q (congrArg not zq5))
  |_=>exact absurd (show false=true from hs) zy
 |byt i=>
  obtain⟨t,rfl⟩:=rx
  cases y with
  |byt j=>obtain⟨t',rfl⟩:=ry;exact W.ne_bytes (vc I q (congrArg not zq7))
  |_=>exact absurd (show false=true from hs) zy
 |_=>cases y<;>exact absurd (show false=true from hs) zy
def zz7:OpR X (compareOp .Lt) (rI0 λi j=>.bl (decide (i<j))):=xn5 λ_ _ _ _ _ _ _ q=>lt_int q
def xy9:OpR X (compareOp .LtE) (rI0 λi j=>.bl (decide (i<=j))):=xn5 λ_ _ _ _ _ _ _ q=>le_int q
def Xp:OpR X (compareOp .Gt) (rI0 λi j=>.bl (decide (j<i))):=xn5 λ_ _ _ _ _ _ _ q=>gt_int q
def xz0:OpR X (compareOp .GtE) (rI0 λi j=>.bl (decide (j<=i))):=xn5 λ_ _ _ _ _ _ _ q=>ge_int q
def qe:OpR X (compareOp .Is) (λx y H Q=>y=.non/\Q (.bl (decide (x=.non))) H):=by
 intro pins s σ H x y v u Q I rx ry h;obtain⟨rfl,q⟩:=h;cases ry;refine is_none_gen (vc I q ?_)
 cases x<;>first
  |(cases rx;rfl)
  |(obtain⟨t,rfl⟩:=rx;rfl)
def Zb:OpR X (compareOp .IsNot) (λx y H Q=>y=.non/\Q (.bl (!decide (x=.non))) H):=by
 intro pins s σ H x y v u Q I rx ry h;obtain⟨rfl,q⟩:=h;cases ry;refine isnot_none_gen (vc I q ?_)
 cases x<;>first
  |(cases rx;rfl)
  |(obtain⟨t,rfl⟩:=rx;rfl)
def wG(b:Expr){op:CmpOp}(h:op≠.In:=by decide)(h2:op≠.NotIn:=by decide):behindInMarks op b=false:=by
 have e1:(op == CmpOp.In)=false:=by cases op<;>first |rfl |exact absurd rfl h
 have e2:(op == CmpOp.NotIn)=false:=by cases op<;>first |rfl |exact absurd rfl h2
 cases b<;>simp[behindInMarks,e1,e2]
def zN8{op:CmpOp}{r:R2}(ho:OpR X (compareOp op) r)(ha:PE X a ta)(hb:PE X b tb)(hm:behindInMarks op b=false):PE X (.Compare a [op] [b] pos) (tOp r ta tb):=by
 intro pins s σ H Q I h;exact wpAny_Compare1 (xB2 ha hb I h λv u s2 x y H2 I2 rx ry q=>ho pins s2 σ H2 x y v u Q I2 rx ry q) hm
def zK5(t:TE):TT:=λσ H Q=>t σ H λx H'=>∃k,x=.bl k/\Q k H'
def zi9{op:CmpOp}{r:R2}(ho:OpR X (compareOp op) r)(ha:PE X a ta)(hb:PE X b tb)(hm:behindInMarks op b=false):PT X (.Compare a [op] [b] pos) (zK5 (tOp r ta tb)):=by
 intro pins s σ H Q I h
 refine wpAny_isTrue_Compare1 (thn (ha pins s σ H _ I h) λv s1 ⟨x,H1,I1,r1,q1⟩=>thn (hb pins s1 σ H1 _ I1 q1) λu s2 ⟨y,H2,I2,r2,q2⟩=>
  thn (ho pins s2 σ H2 x y v u _ I2 r1 r2 q2) λc s3 ⟨z,H3,I3,r3,k,e,q3⟩=>?_) hm
 subst e;cases r3;exact xY ⟨H3,I3,q3⟩
def zF4(r r':R2)(ta tb tc:TE):TE:=λσ H Q=>ta σ H λx H1=>tb σ H1 λy H2=>r x y H2 λz H3=>∃k,z=.bl k /\
 (if k=true then tc σ H3 λw' H4=>r' y w' H4 Q else Q (.bl false) H3)
def zx8{op op':CmpOp}{r r':R2}(ho:OpR X (compareOp op) r)(ho':OpR X (compareOp op') r')(ha:PE X a ta)(hb:PE X b tb)(hc:PE X c tc)
  (hm:lastMarks [op,op'] [b,c]=false:=by with_unfolding_all rfl):PT X (.Compare a [op,op'] [b,c] pos) (zK5 (zF4 r r' ta tb tc)):=by
 intro pins s σ H Q I h
 refine isTrue_chain (thn (ha pins s σ H _ I h) λv s1 ⟨x,H1,I1,r1,q1⟩=>test_link (thn (hb pins s1 σ H1 _ I1 q1) λu s2 ⟨y,H2,I2,r2,q2⟩=>
  thn (ho pins s2 σ H2 x y v u _ I2 r1 r2 q2) λd s3 ⟨z,H3,I3,r3,k,e,q3⟩=>?_)) hm
 subst e;cases r3;refine xY ?_
 cases k with
 |false=>
  obtain⟨k',e',q'⟩:=q3;cases e';exact ite_ff ⟨H3,I3,q'⟩
 |true=>
  refine ite_tt (test_last (thn (hc pins s3 σ H3 _ I3 q3) λw' s4 ⟨z',H4,I4,r4,q4⟩=>thn (ho' pins s4 σ H4 y z' u w' _ I4 r2 r4 q4) λd' s5 ⟨z2,H5,I5,r5,k2,e2,q5⟩=>?_));subst e2;cases r5;exact xY ⟨H5,I5,q5⟩
def WN:(sizeLine:Nat)<2^63:=by rw[sizeLine_eq];decide
def Wc{x:V}{us:List Value}(r:Vals [x] us):∃u,us=[u]/\RelV x u:=by
 cases r with
 |cons r1 r2=>cases r2;exact⟨_,rfl,r1⟩
def zJ9{x y:V}{us:List Value}(r:Vals [x,y] us):∃u w',us=[u,w']/\RelV x u/\RelV y w':=by
 cases r with
 |cons r1 r2=>
  cases r2 with
  |cons r3 r4=>cases r4;exact⟨_,_,rfl,r1,r3⟩
def QR:qo X (.builtin "abs") (λxs H Q=>∃i,xs=[.int i]/\Q (.int (if i<0 then -i else i)) H):=by
 intro pins s σ H xs us Q I r h;obtain⟨i,rfl,q⟩:=h;obtain⟨u,rfl,t,rfl⟩:=Wc r
 exact call_abs_int λu tk=>⟨.int (if i<0 then -i else i),H,I.tok _,⟨_,rfl⟩,q⟩
def Kt(hc:X.calm=true):qo X (.builtin "max") (λxs H Q=>∃i j,xs=[.int i,.int j]/\Q (.int (if j > i then j else i)) H):=by
 intro pins s σ H xs us Q I r h;obtain⟨i,j,rfl,q⟩:=h;obtain⟨u,w',rfl,⟨t,rfl⟩,⟨t',rfl⟩⟩:=zJ9 r;refine max_two_ints (I.ok.hd hc) λh' tk k=>⟨_,H,I.kept k,?_,q⟩
 by_cases hj:j > i
 ·rw[if_pos hj,if_pos hj];exact⟨_,rfl⟩
 ·rw[if_neg hj,if_neg hj];exact⟨_,rfl⟩
def Kq(hc:X.calm=true):qo X (.builtin "min") (λxs H Q=>∃i j,xs=[.int i,.int j]/\Q (.int (if j<i then j else i)) H):=by
 intro pins s σ H xs us Q I r h;obtain⟨i,j,rfl,q⟩:=h;obtain⟨u,w',rfl,⟨t,rfl⟩,⟨t',rfl⟩⟩:=zJ9 r;refine min_two_ints (I.ok.hd hc) λh' tk k=>⟨_,H,I.kept k,?_,q⟩
 by_cases hj:j<i
 ·rw[if_pos hj,if_pos hj];exact⟨_,rfl⟩
 ·rw[if_neg hj,if_neg hj];exact⟨_,rfl⟩
def XV:qo X (.type "int") (λxs H Q=>(∃i,xs=[.int i]/\Q (.int i) H)\/∃k,xs=[.bl k]/\Q (.int (if k then 1 else 0)) H):=by
 intro pins s σ H xs us Q I r h
 rcases h with ⟨i,rfl,q⟩ |⟨k,rfl,q⟩
 ·obtain⟨u,rfl,t,rfl⟩:=Wc r;exact call_int_int ⟨.int i,H,I,⟨_,rfl⟩,q⟩
 ·obtain ⟨u, rfl, r1⟩ := Wc r;cases r1
  exact call_int_bool ⟨.int (if k then 1 else 0),H,I.tok _,⟨_,rfl⟩,q⟩
end
section
variable {prog:Program}{w:World}{A:Around}{E:Value->Shared->Prop}{s:Shared}{K:W.Frag}{x dx C f:Addr}{mA:Str->Option Value}{name:Str}{v:Value}
end
def RelO.some_of{v:V}{o:Option Value}(r:RelO (some v) o):∃u,o=some u/\RelV v u:=by
 cases o with
 |none=>exact(show False from r).elim
 |some u=>exact⟨u,rfl,r⟩
section
variable {P:Program}{w:World}{H H':Hp}{h h':Heap}{a C dx:Addr}{fs fs':List (Str × V)}
end
section
variable {X:Cx}{pins:List (Addr × Obj)}{σ:St}{H:Hp}{s:Shared}{a C dx:Addr}{fs:List (Str × V)}{f:Str}{v:V}{A:Around}{E:Value->Shared->Prop}
end
section
variable {X:Cx}{o e value:Expr}{f:Str}{pos pos' tpos:Pos}{ta tv:TE}
end
section
variable {X:Cx}{pins:List (Addr × Obj)}{σ:St}{H:Hp}{s:Shared}{A:Around}{E:Value->Shared->Prop}{Q:Value->Shared->Prop}{c:Value}{b:Bool}
end
structure Room(k:Nat)(A:Around):Prop where
 hd:A.handled=none
 dp:A.depth+3*k+5<recursionLimit
 un:A.units+16*k+200<cLine
 gd:A.guards=some []
def Room.mono{j k:Nat}{A:Around}(r:Room k A)(h:j<=k):Room j A:=⟨r.hd,by have:=r.dp;lia,by have:=r.un;lia,r.gd⟩
def Room.deeper{k:Nat}{A:Around}(r:Room (k+1) A)(env:Env):Room k (A.deeper env):=
 ⟨r.hd,by have:=r.dp;show A.depth+1+3*k+5<_;lia,by have:=r.un;show A.units+3+16*k+200<_;lia,r.gd⟩
def Room.in1{k:Nat}{A:Around}(r:Room (k+1) A):Room k A.in1:=
 ⟨r.hd,by have:=r.dp;show A.depth+3*k+5<_;lia,by have:=r.un;show A.units+1+16*k+200<_;lia,r.gd⟩
def Room.depth{k:Nat}{A:Around}(r:Room k A):A.depth<recursionLimit:=by have:=r.dp;lia
def Room.units{k:Nat}{A:Around}(r:Room k A):A.units+64<cLine:=by have:=r.un;lia
def xK1:TA:=λ_ H Q=>Q [] H
def xo7(ta:TE)(tr:TA):TA:=λσ H Q=>ta σ H λx H1=>tr σ H1 λxs H2=>Q (x::xs) H2
section
variable {X:Cx}{e:Expr}{es:List Expr}{te:TE}{t:TA}{pos:Pos}
def WI:PA X [] xK1:=λ_ _ _ _ H Q I h=>Calls.spliced_nil ⟨[],H,I,.nil,h⟩
def ZV(ha:PE X e te)(hr:PA X es t)(hs:starEach (e::es) X.env=(false,eval e X.env)::starEach es X.env:=by rfl):PA X (e::es) (xo7 te t):=by
 intro pos pins s σ H Q I h;rw[hs];show wpAny _ _ (spliced ((false,eval e X.env)::backTo pos (starEach es X.env))) _ _ s;refine Calls.spliced_cons (thn (ha pins s σ H _ I h) λu s1 ⟨x,H1,I1,r1,q1⟩=>?_);exact thn (hr pos pins s1 σ H1 _ I1 q1) λus s2 ⟨xs,H2,I2,r2,q2⟩=>⟨x::xs,H2,I2,.cons r1 r2,q2⟩
def xJ6(t:TA):TE:=λσ H Q=>t σ H λxs H1=>xs.length<=sizeLine/\∀p,H1 p=none->Q (.ref p) (upd H1 p (.tup xs))
def xK2(t:TA):TE:=λσ H Q=>t σ H λxs H1=>xs.length<=sizeLine/\∀p,H1 p=none->Q (.ref p) (upd H1 p (.lst xs))
def zG4{x1}(h:PA X es t):PE X (.Tuple es x1 pos) (xJ6 t):=by
 intro pins s σ H Q I hq
 refine wpAny_Tuple_spliced (thn (h pos pins s σ H _ I hq) λus s1 ⟨xs,H1,I1,r,z,q⟩=>⟨by rw[<- r.length];exact z,?_⟩)
 have hf:H1 s1.heap.objs.size=none:=I1.hok.fresh (zo _);refine⟨.ref s1.heap.objs.size,upd H1 s1.heap.objs.size (.tup xs),I1.laid (t':=s1.toks) (λb u e=>ze _ e) (zo _) ?_,rfl,q _ hf⟩;exact⟨z,us,r,⟨_,zq _ rfl,rfl,_,rfl⟩⟩
def zj8(h:PA X es t):PE X (.List es pos) (xK2 t):=by
 intro pins s σ H Q I hq
 refine wpAny_List_spliced (thn (h pos pins s σ H _ I hq) λus s1 ⟨xs,H1,I1,r,z,q⟩=>⟨by rw[<- r.length];exact z,?_⟩)
 have hf:H1 s1.heap.objs.size=none:=I1.hok.fresh (zo _);refine⟨.ref s1.heap.objs.size,upd H1 s1.heap.objs.size (.lst xs),I1.laid (t':=s1.toks) (λb u e=>ze _ e) (zo _) ?_,rfl,q _ hf⟩;exact⟨z,us,0,r,zq _ rfl⟩
end
abbrev Sp:=List V->Hp->VK->XK->Prop
abbrev CXT:=List Env->Hp->Shared->XK->Value->Shared->Prop
structure Env0(P:Program)(w:World)(K:W.Frag)(mg:Str->Option Value)(base:Heap)(A:Around)(outer:List Env)(s:Shared)(H:Hp):Prop where
 frames:A.frames=some outer
 mod:Mod K mg base
 bs:∀b o,base.get? b=some o->s.heap.get? b=some o/\H b=none
 bsz:base.objs.size<=s.heap.objs.size
 funs:s.heap.FunFrames base outer
 frf:∀b∈frs outer,H b=none
 hok:HOk P w H s.heap
 bare:AllBare s.gens
def CE(outer:List Env)(P:Program)(w:World)(H:Hp)(s:Shared)(Q:VK)(u:Value)(s':Shared):Prop:=
 ∃v H',s'.os=s.os/\AllBare s'.gens/\Un (frs outer) [] H H' s.heap s'.heap/\HOk P w H' s'.heap/\RelV v u/\Q v H'
def CR(CX:CXT)(outer:List Env)(P:Program)(w:World)(H:Hp)(s:Shared)(Q:VK)(E:XK)(r:Result)(s':Shared):Prop:=
 match r with
 |.ok (.ret u)=>CE outer P w H s Q u s'
 |.ok _=>False
 |.error e=>CX outer H s E e s'
structure FnOk(P:Program)(w:World)(K:W.Frag)(mg:Str->Option Value)(base:Heap)(CX:CXT)(k:Nat)(f:Addr)(fd:FuncData)(ps:List Str)(sp:Sp):Prop where
 len:∀vs H Q E,sp vs H Q E->vs.length=ps.length
 run:∀(A:Around) (outer:List Env) (s:Shared) (H:Hp) (args:Args) (us:List Value) (vs:List V) (Q:VK) (E:XK),Room k A->Env0 P w K mg base A outer s H->BindsTo s fd args (ps.zip us)->Vals vs us->sp vs H Q E ->
  codeAny (model P w) A (.call (.ref f) args) (CR CX outer P w H s Q E) s
section
variable {X:Cx}{pins:List (Addr × Obj)}{σ:St}{H:Hp}{s s':Shared}
def Inv.env0(I:Inv X pins σ H s):Env0 X.prog X.w X.K X.mg X.base X.A X.stack s H:=
 ⟨I.ok.frames,I.ok.mod,I.bs,zB I.ok.bsz I.sz,I.stack,I.stkFree,I.hok,I.bare⟩
def Inv.after{Q:VK}{u:Value}(I:Inv X pins σ H s)(h:CE X.stack X.prog X.w H s Q u s'):EP X pins σ Q u s':=by
 obtain⟨v,H',os,bare,un,hok,r,q⟩:=h;obtain⟨hh,g,d,t,os'⟩:=s';obtain rfl:os'=s.os:=os
 exact⟨v,H',I.call (h':=hh) (g':=g) (d':=d) (t':=t) (ch:=[]) un hok bare (λb z=>absurd z (by simp)),r,q⟩
end
def xo8(sp:Sp)(dvs:List V)(E:XK)(t:TA):TE:=λσ H Q=>t σ H λvs H1=>sp (vs++dvs) H1 Q E
def Binds(K:W.Frag)(fd:FuncData)(ps:List Str)(ds:List Value):Prop:=
 ∀(s:Shared) (us:List Value),K.In s.heap->(us++ds).length=ps.length->BindsTo s fd ⟨us,[]⟩ (ps.zip (us++ds))
def Binds.all{K:W.Frag}{fd:FuncData}{ps:List Str}(h:∀us:List Value,us.length=ps.length->bindArgs fd ⟨us,[]⟩=pure (ps.zip us)):Binds K fd ps []:=λs us _ hl=>by
 rw[wB] at hl ⊢;exact .of_eq (h us hl)
def zu0(CX:CXT)(X:Cx)(E:XK):Prop:=∀(pins:List (Addr × Obj)) (σ:St) (H:Hp) (s:Shared) (e:Value) (s':Shared),Inv X pins σ H s->CX X.stack H s E e s'->X.xe e s'
section
variable {X:Cx}{CX:CXT}{k:Nat}{f C:Addr}{fd:FuncData}{ps:List Str}{sp:Sp}{dvs:List V}{ds:List Value}{E:XK}{x m:Str}{p pos apos:Pos}{e o:Expr}{es:List Expr}{ta:TE}{t:TA}
def zX3{pins:List (Addr × Obj)}{σ:St}{H:Hp}{s:Shared}{Q:VK}{us:List Value}{vs:List V}(F:FnOk X.prog X.w X.K X.mg X.base CX k f fd ps sp)(hr:Room k X.A)(hb:Binds X.K fd ps ds)(hd:Vals dvs ds)(hx:zu0 CX X E)
  (I:Inv X pins σ H s) (r:Vals vs us) (h:sp (vs++dvs) H Q E):wpAny (model X.prog X.w) X.A (call (.ref f) us) (EP X pins σ Q) X.xe s:=by
 have r2:Vals (vs++dvs) (us++ds):=r.append hd
 have hl:(us++ds).length=ps.length:=by rw[<- r2.length];exact F.len _ _ _ _ h
 refine wpAny_call (codeAny_mono (F.run X.A X.stack s H ⟨us,[]⟩ (us++ds) (vs++dvs) Q E hr I.env0 (hb s us I.kIn hl) r2 h) λr s' hq=>?_)
 cases r with
 |error e=>exact hx pins σ H s e s' I hq
 |ok fl=>
  cases fl with
  |ret u=>exact I.after hq
  |next=>exact False.elim hq
  |brk=>exact False.elim hq
  |cont=>exact False.elim hq
def VC(F:FnOk X.prog X.w X.K X.mg X.base CX k f fd ps sp)(hr:Room k X.A)(hg:Gl X x)(hm:X.mg x=some (.ref f))(hk:W.keepIn X.K (.ref f)=true)(hb:Binds X.K fd ps ds)(hd:Vals dvs ds)(hx:zu0 CX X E)
  (ha:PA X (e::es) t) (hdb:(x == ("__debug__" : Str))=false:=by decide) (he:starEach (e::es) X.env=(false,eval e X.env)::starEach es X.env:=by rfl) (hpl:(backTo pos (starEach es X.env)).any (·.1)=false:=by rfl) :
  PE X (.Call (.Name x p) (e::es) [] pos) (xo8 sp dvs E t):=by
 intro pins s σ H Q I h;refine wpAny_Call_Name_kw (zn3 I hg hm ?_ hdb);refine W.callWith_K (h₀:=X.base) I.ok.mod.kin hk (thn (ha pos pins s σ H _ I h) λus s1 ⟨vs,H1,I1,r,q⟩=>⟨I1.kIn,?_⟩) he hpl;exact zX3 F hr hb hd hx I1 r q
end
section
variable {X:Cx}{CX:CXT}{k:Nat}{f C:Addr}{fd:FuncData}{ps ks:List Str}{sp:Sp}{E:XK}{x m:Str}{p pos apos kpos:Pos}{e o:Expr}{es:List Expr}{kws:List Keyword}{te ta:TE}{t tk:TA}{nm:Option Str}
variable {g:List Value->List Value->List Value}{gV:List V->List V->List V}
end
structure FnScope(N P:List Str)(sc:Scope):Prop where
 kind:sc.kind=.function
 co:sc.isCoroutine=false
 gen:sc.isGenerator=false
 nd:N.Nodup
 pre:N.take P.length=P
 par:∀x∈P,sc.names.lookup x=some .local\/sc.names.lookup x=some .cell
 nofree:∀y∈sc.names,y.2≠.free
theorem Kx{kindOf:Str->Option NameKind}{x:Str}:∀{binds:List (Str × Value)}{m:Str->Option Value},(∀v,(x,v) ∉ binds)->bindL kindOf binds m x=m x
 |[],_,_=>rfl
 | (n, v) :: r, m, h => by
  unfold bindL;rw[Kx λw hw=>h w (zm _ hw)]
  split
  ·have : x ≠ n := by rintro rfl; exact h v xh
   simp[this]
  ·rfl
theorem Kz{kindOf:Str->Option NameKind}{x:Str}:∀{binds:List (Str × Value)}{m:Str->Option Value},(∀v,(x,v) ∉ binds)->bindC kindOf binds m x=m x
 |[],_,_=>rfl
 | (n, v) :: r, m, h => by
  unfold bindC;rw[Kz λw hw=>h w (zm _ hw)]
  split
  ·rfl
  ·have : x ≠ n := by rintro rfl; exact h v xh
   simp[this]
def Ky{kindOf:Str->Option NameKind}{x:Str}{v:Value}:∀{P:List Str}{vs:List Value}{i:Nat}{m:Str->Option Value},P.Nodup->P[i]?=some x->vs[i]?=some v->kindOf x=some .local ->
  bindL kindOf (P.zip vs) m x=some v
 |[],_,_,_,_,h,_,_=>by simp at h
 |_::_,[],_,_,_,_,h,_=>by simp at h
 |p::P,w::vs,0,m,nd,h1,h2,hk=>by
  simp at h1 h2;subst h1;subst h2;show bindL kindOf ((p,w)::P.zip vs) m p=_;unfold bindL;rw[Kx λv hv=>(xz.mp nd).1 (of_mem_zip hv).1,if_pos hk];simp
 |p::P,w::vs,i+1,m,nd,h1,h2,hk=>by
  show bindL kindOf ((p,w)::P.zip vs) m x=_;unfold bindL
  exact Ky (i:=i) (xz.mp nd).2 (by simpa using h1) (by simpa using h2) hk
def KB{kindOf:Str->Option NameKind}{x:Str}{v:Value}:∀{P:List Str}{vs:List Value}{i:Nat}{m:Str->Option Value},P.Nodup->P[i]?=some x->vs[i]?=some v->kindOf x≠some .local ->
  bindC kindOf (P.zip vs) m x=some v
 |[],_,_,_,_,h,_,_=>by simp at h
 |_::_,[],_,_,_,_,h,_=>by simp at h
 |p::P,w::vs,0,m,nd,h1,h2,hk=>by
  simp at h1 h2;subst h1;subst h2;show bindC kindOf ((p,w)::P.zip vs) m p=_;unfold bindC;rw[Kz λv hv=>(xz.mp nd).1 (of_mem_zip hv).1,if_neg hk];simp
 |p::P,w::vs,i+1,m,nd,h1,h2,hk=>by
  show bindC kindOf ((p,w)::P.zip vs) m x=_;unfold bindC
  exact KB (i:=i) (xz.mp nd).2 (by simpa using h1) (by simpa using h2) hk
def start(N:List Str)(vs:List V):St:=vs.map some++replicate (N.length-vs.length) none
def zu5(CX:CXT)(P:Program)(w:World)(K:W.Frag)(mg:Str->Option Value)(base:Heap)(N:List Str)(qual:Str)(scope:Scope)(f:Addr)(cd:Value)(A:Around)(outer:List Env)(s:Shared)(H:Hp)(E:XK):Cx where
 prog:=P
 w:=w
 K:=K
 mg:=mg
 base:=base
 A:=A.deeper (envOfC qual scope s.heap.objs.size f cd)
 N:=N
 s₀:=s
 H₀:=H
 env:=envOfC qual scope s.heap.objs.size f cd
 outer:=outer
 stack:=envOfC qual scope s.heap.objs.size f cd::outer
 ex:=[]
 calm:=true
 fn:=λ_=>true
 pn:=[]
 xe:=λe s'=>wpAny (model P w) (A.deeper (envOfC qual scope s.heap.objs.size f cd)) (leaving (envOfC qual scope s.heap.objs.size f cd) e) (λ_ s''=>CX outer H s E e s'') (λe' s''=>CX outer H s E e' s'') s'
def QO{sc:Scope}{n:Nat}{x:Str}(h:sc.names.lookup x=some .cell):∃c,(cellsFrom n sc.names []).lookup x=some c:=by
 have q:=W.cellsFrom_some sc.names n [] (.inl h);exact Option.isSome_iff_exists.mp q
def zo5{CX:CXT}{P:Program}{w:World}{K:W.Frag}{mg:Str->Option Value}{base:Heap}{N ps:List Str}{qual:Str}{scope:Scope}{f:Addr}{cd:Value}{A:Around}{outer:List Env}{s s1:Shared}{H:Hp}{E:XK}{us:List Value}{vs:List V}
  (S:FnScope N ps scope) (hd:A.handled=none) (e0:Env0 P w K mg base A outer s H) (hl:vs.length=ps.length) (r:Vals vs us)
  (x:InCallC s s.heap.objs.size (bindL (envOfC qual scope s.heap.objs.size f cd).kindOf (ps.zip us) λ_=>none) (cellsFrom (s.heap.objs.size+1) scope.names []) (bindC (envOfC qual scope s.heap.objs.size f cd).kindOf (ps.zip us) λ_=>none) s1) :
  Inv (zu5 CX P w K mg base N qual scope f cd A outer s H E) [] (start N vs) H s1:=by
 have hpl:ps.length<=N.length:=by have:=congrArg List.length S.pre;rw[yM] at this;lia
 obtain⟨h1,tk,rfl,hk⟩:=x.done
 have noA:∀b:Addr,b ∉ (zu5 CX P w K mg base N qual scope f cd A outer s H E).ex:=λb z=>absurd (show b∈([]:List Addr) from z) (by simp)
 refine⟨⟨e0.mod,S.kind,rfl,rfl,zo _,λy z c h1 h2=>?_,λy hy=>?_,λy c _ h=>?_,λ_=>hd,Around.frames_deeper e0.frames,.inr ⟨rfl,rfl⟩,λb z=>absurd z (noA b),e0.bs,e0.bsz,λb _ _=>noA b,λb z=>absurd z (noA b),e0.funs,e0.frf⟩,
  rfl,e0.bare,Un.kept hk,⟨_,x.toInCall.ns,λi y v h1 h2 h3=>?_⟩,λy c h=>⟨_,x.cell y c h⟩,e0.hok.fresh (zo _),λy c h=>?_,λp hp=>absurd (show p∈([]:List (Addr × Obj)) from hp) (by simp),e0.hok.kept hk,?_⟩
 ·exact name_of_addr x.apart (PySem.mem_of_lookup h1) (PySem.mem_of_lookup h2)
 ·have hy : scope.names.lookup y = some .cell \/ scope.names.lookup y = some .free := hy
  rcases hy with hy |hy
  ·exact QO hy
  ·exact absurd rfl (S.nofree _ (PySem.mem_of_lookup hy))
 ·exact yB (x.above y c (PySem.mem_of_lookup h))
 ·have hi : i < vs.length := by
   unfold start at h2
   by_cases hi:i<vs.length
   ·exact hi
   ·rw [xk (by simpa using hi)] at h2
    rw[xi] at h2
    split at h2<;>cases h2
  have ha:vs[i]?=some v:=by
   unfold start at h2
   rw[xv (by simpa using hi),zt] at h2
   cases e:vs[i]? with
   |none=>rw[e] at h2;cases h2
   |some a=>rw[e] at h2;cases h2;rfl
  obtain⟨u,hu,rv⟩:=r.get ha
  have hp:ps[i]?=some y:=by
   rw[<- S.pre,List.getElem?_take_of_lt w5];exact h1
  have ndP:ps.Nodup:=by rw[<- S.pre];exact S.nd.sublist (va _ _)
  refine⟨u,rv,?_⟩
  rcases S.par y (zP hp) with k |k
  ·exact .inl ⟨k,Ky ndP hp hu k⟩
  ·obtain ⟨c, e⟩ := QO (n := s.heap.objs.size + 1) k;refine .inr ⟨.inl k,c,e,?_⟩;have q:=x.cell y c e
   rw[KB ndP hp hu (by show scope.names.lookup y≠_;rw[k];decide)] at q
   exact q
 ·exact e0.hok.fresh (yB (x.above y c (PySem.mem_of_lookup h)))
 ·unfold start;show _=N.length;rw[zI,zg,xu];lia
def xh0{CX:CXT}{P:Program}{w:World}{K:W.Frag}{mg:Str->Option Value}{base:Heap}{k:Nat}{f:Addr}{name qual:Str}{params:Arguments}{body:List Stmt}{scope:Scope}{dV kV doc pm cdv ct oc:Value}{an od:Option Addr}
  {osl:Array (Option Value)}{N ps:List Str}{sp:Sp} (lk:K.lookup f=some ⟨oc,od,.func (W.fnOf name qual params body scope dV kV doc pm an cdv ct),osl⟩) (hcd:W.codeIn K cdv qual=true) (S:FnScope N ps scope)
  (len:∀vs H Q E,sp vs H Q E->vs.length=ps.length)
  (hbody : ∀ (A : Around) (outer : List Env) (s : Shared) (H : Hp) (vs : List V) (Q : VK) (E : XK), Room k (A.deeper (envOfC qual scope s.heap.objs.size f cdv)) -> sp vs H Q E ->
   ∃t,PSs (zu5 CX P w K mg base N qual scope f cdv A outer s H E) body t/\t { nx:=λ_ H'=>Q .non H',rt:=Q } (start N vs) H) :
  FnOk P w K mg base CX (k+1) f (W.fnOf name qual params body scope dV kV doc pm an cdv ct) ps sp:=by
 refine⟨len,λA outer s H args us vs Q E hr e0 hb r hsp=>?_⟩;have hl:=len _ _ _ _ hsp;have KX:K.In s.heap:=e0.mod.kin.keeps λb o e=>(e0.bs b o e).1;have lim:s.heap.NoLimit:=e0.mod.nolimit.keeps λb o e=>(e0.bs b o e).1
 have hkind:∀y∈ps.zip us,scope.names.lookup y.1=some .local\/(scope.names.lookup y.1=some .cell/\((cellsFrom (s.heap.objs.size+1) scope.names []).lookup y.1).isSome=true):=fun⟨n,v⟩ hy=>by
  rcases S.par n (of_mem_zip hy).1 with q |q
  ·exact .inl q
  ·exact .inr ⟨q,W.cellsFrom_some _ _ _ (.inl q)⟩
 refine codeAny_call_function hr.depth (KX _ _ lk) rfl S.co S.gen rfl (W.codeRec_of KX hcd) (hb _ _ _ _ ?_);refine wpAny_newFunctionEnv_cells S.kind hkind λenv he s1 x=>?_;subst he;refine⟨lim.keeps x.toInCall.keep,codeAny_func ?_⟩;obtain⟨t,ht,hq⟩:=hbody A outer s H vs Q E (hr.deeper _) hsp;have I:Inv (zu5 CX P w K mg base N qual scope f cdv A outer s H E) [] (start N vs) H s1:=zo5 S hr.hd e0 hl r x;refine wE (ht [] s1 (start N vs) H _ I hq) (λfl s' hs=>?_) λe s' hs=>hs
 have fin:∀{σ':St}{H':Hp}{v:V}{u:Value},Inv (zu5 CX P w K mg base N qual scope f cdv A outer s H E) [] σ' H' s'->RelV v u->Q v H'->CE outer P w H s Q u s':=
  λ{σ' H' v u} J rv q=>⟨v,H',J.os,J.bare,J.base,J.hok,rv,q⟩
 cases fl with
 |ret u=>
  obtain⟨v,σ',H',J,rv,q⟩:=hs;exact fin J rv q
 |next=>
  obtain⟨σ',H',J,q⟩:=hs;exact fin (v:=V.non) (u:=Value.none) J rfl q
 |brk=>
  obtain⟨_,_,_,q⟩:=hs;exact False.elim q
 |cont=>
  obtain⟨_,_,_,q⟩:=hs;exact False.elim q
section
variable {X:Cx}{x:Str}{p pos:Pos}{e:Expr}{es:List Expr}{t:TA}{id T:String}{r:List V->Hp->VK->Prop}
def tCB(r:List V->Hp->VK->Prop)(t:TA):TE:=λσ H Q=>t σ H λvs H1=>r vs H1 Q
def VB(hc:qo X (.builtin id) r)(hg:Gl X x)(hm:X.mg x=none)(hv:bootBuiltins x=some (.builtin id))(ha:PA X (e::es) t)(hn:x ≠ "__name__" := by decide)(hdb:(x == ("__debug__" : Str))=false:=by decide)
  (he:starEach (e::es) X.env=(false,eval e X.env)::starEach es X.env:=by rfl) (hpl:(backTo pos (starEach es X.env)).any (·.1)=false:=by rfl):PE X (.Call (.Name x p) (e::es) [] pos) (tCB r t):=by
 intro pins s σ H Q I h;refine wpAny_Call_Name_kw (UZ I hg hm hv ?_ hn hdb);exact PyProof.Rows.callWith_builtin1 (thn (ha pos pins s σ H _ I h) λus s1 ⟨vs,H1,I1,r1,q1⟩=>hc pins s1 σ H1 vs us Q I1 r1 q1) he hpl
def UF(hc:qo X (.type T) r)(hg:Gl X x)(hm:X.mg x=none)(hv:bootBuiltins x=some (.type T))(ha:PA X (e::es) t)(hn:x ≠ "__name__" := by decide)(hdb:(x == ("__debug__" : Str))=false:=by decide)
  (he:starEach (e::es) X.env=(false,eval e X.env)::starEach es X.env:=by rfl) (hpl:(backTo pos (starEach es X.env)).any (·.1)=false:=by rfl):PE X (.Call (.Name x p) (e::es) [] pos) (tCB r t):=by
 intro pins s σ H Q I h;refine wpAny_Call_Name_kw (UZ I hg hm hv ?_ hn hdb);exact PyProof.Rows.callWith_type1 (thn (ha pos pins s σ H _ I h) λus s1 ⟨vs,H1,I1,r1,q1⟩=>hc pins s1 σ H1 vs us Q I1 r1 q1) he hpl
end
end L2
namespace HT
open PySem PyProof.Rows
def kD:List Int->List Int->Bool
 |[],[]=>false
 |[],_::_=>true
 |_::_,[]=>false
 |x::xs,y::ys=>if x=y then kD xs ys else decide (x<y)
def kL(x y:Int)(xs ys:List Int):kD (x::xs) (y::ys)=if x=y then kD xs ys else decide (x<y):=rfl
def VN:kD [] []=false:=rfl
def Wr(y:Int)(ys:List Int):kD [] (y::ys)=true:=rfl
def Ws(x:Int)(xs:List Int):kD (x::xs) []=false:=rfl
def QD(A:Around)(s:Shared)(a:Int)(t:Tok)(c:Int)(u:Tok):∃e,SeqAt.EqAt A s (.int a t) (.int c u) e/\(e=true↔a=c):=
 ⟨(a == c),SeqAt.EqAt.int_int a t c u,by simp⟩
def zx1(A:Around)(s:Shared)(a:Int)(t:Tok)(c:Int)(u:Tok)(prog:Program)(w:World)(E:Value->Shared->Prop)(Q:Value->Shared->Prop)(h:Q (.bool (decide (a<c))) s) :
  wpAny (model prog w) A (richCompare .Lt (.int a t) (.int c u)) Q E s:=
 (PyProof.Rows.lt_int h:wpAny (model prog w) A (compareOp .Lt (.int a t) (.int c u)) Q E s)
section
open PySem.SeqAt
open PySem.AutoSeq1 (wpAny_loadPart')
open PySem.MeetsSeq PySem.MeetsSeq2 PySem.MeetsSeq3
def Va(l b:Addr)(items items2:Array Value)(n n2:Nat)(dd dd2:Option Addr)(sl sl2:Array (Option Value))(ns ms:List Int)(hi:IntsAre items.toList ns)(hj:IntsAre items2.toList ms) :
  Meets (Builtin.«tuple.__lt__» ⟨[.ref l,.ref b],[]⟩)
   (λ_ R s => s.heap.get? l = some { cls := .type "tuple", dict := dd, data := .seq items n, slots := sl } /\ s.heap.get? b = some { cls := .type "tuple", dict := dd2, data := .seq items2 n2, slots := sl2 } /\
    R (.ok (.ret (.bool (kD ns ms)))) s):=
 .of_wp λprog w A R s h=>by
  obtain⟨hp,g,d,tk,os⟩:=s;obtain⟨hl,hb,h⟩:=h;have f2:=AutoSeq1.sub_tuple_tuple
  have z1:items.size=ns.length:=by rw[<- hi.length];simp
  have z2:items2.size=ms.length:=by rw[<- hj.length];simp
  wp_walk using wpAny_loadPart' hl,wpAny_loadPart' hb,wpAny_forIn_list _ (λrest b s'=>b.1=none/\s'=⟨hp,g,d,tk,os⟩/\∃(vs ws:List Value) (ns' ms':List Int),rest=vs.zip ws /\
   IntsAre vs ns'/\IntsAre ws ms'/\ns'.length+items2.size=ms'.length+items.size/\R (.ok (.ret (.bool (kD ns' ms')))) ⟨hp,g,d,tk,os⟩) _
  case turn=>
   rintro⟨y,x⟩ rest b s' ⟨hb',rfl,vs,ws,ns',ms',hz,hvi,hwi,hlen,hR⟩
   cases hvi with
   |nil=>rw[List.zip_nil_left] at hz;cases hz
   | cons a t hvi' =>
    cases hwi with
    |nil=>rw[List.zip_nil_right] at hz;cases hz
    | cons c u hwi' =>
     rw[wf] at hz;injection hz with hyx hrest;injection hyx with hy hx;subst hy hx;rw[kL] at hR;simp only[zK] at hlen;obtain⟨e,he,hiff⟩:=QD A.in1 ⟨hp,g,d,tk,os⟩ a t c u;refine zb (he prog w _ _ ?_)
     cases e with
     |true=>
      rw[if_pos (hiff.mp rfl)] at hR
      wp_walk
      exact⟨rfl,rfl,_,_,_,_,hrest,hvi',hwi',w5,hR⟩
     |false=>
      rw[if_neg (λq=>absurd (hiff.mpr q) zy)] at hR;have hri:=zx1 A.in1 ⟨hp,g,d,tk,os⟩ a t c u prog w
      wp_walk using hri
      exact⟨_,rfl,by simpa using hR⟩
  case fin=>
   rintro⟨b1,b2⟩ s' ⟨hb',rfl,vs,ws,ns',ms',hz,hvi,hwi,hlen,hR⟩;simp only at hb';subst hb'
   have hv:kD ns' ms'=decide (items.size<items2.size):=by
    cases hvi with
    | nil =>
     cases hwi with
     |nil=>
      simp only[yX] at hlen;rw[VN]
      exact(zN w5).symm
     |cons c u hw=>
      simp only[yX,zK] at hlen;rw[Wr]
      exact(xo w5).symm
    | cons a t hv =>
     cases hwi with
     |nil=>
      simp only[yX,zK] at hlen;rw[Ws]
      exact(zN w5).symm
     |cons c u hw=>
      rw[wf] at hz;cases hz
   rw[hv] at hR
   wp_walk
   exact⟨_,rfl,by simpa [Builtin.Tuple.tupleCompareSizes] using hR⟩
  case h=>
   exact⟨rfl,rfl,items.toList,items2.toList,ns,ms,rfl,hi,hj,w5,h⟩
end
section
variable {prog:Program}{w:World}{A:Around}{E:Value->Shared->Prop}{s:Shared}
def WM{l b:Addr}{items items2:Array Value}{ns ms:List Int}{Q:Value->Shared->Prop}(hl:IsTup s.heap l items)(hb:IsTup s.heap b items2)(hi:IntsAre items.toList ns)(hj:IntsAre items2.toList ms)
  (hu:A.units<cLine) (h:Q (.bool (kD ns ms)) s):wpAny (model prog w) A (compareOp .Lt (.ref l) (.ref b)) Q E s:=by
 obtain⟨⟨cls,dd,data,sl⟩,ho,hc,n,hd⟩:=id hl;obtain⟨⟨cls2,dd2,data2,sl2⟩,ho2,hc2,n2,hd2⟩:=id hb;simp only at hc hd hc2 hd2;subst hc hd hc2 hd2
 exact richCompare_meets_room (op:=.Lt) ⟨_,ho,rfl⟩ ⟨_,ho2,rfl⟩ PySem.F.slot_tuple_lt PySem.F.entry_tuple_lt (PySem.F.args_tuple_lt_2 _ _) (Va l b items items2 n n2 dd dd2 sl sl2 ns ms hi hj)
  ⟨ho,ho2,show Value.bool (kD ns ms)≠Value.notImplemented/\Q (.bool (kD ns ms)) s from⟨(λx=>nomatch x),h⟩⟩ hu
def sIx(n d:Nat):Option Int->Nat
 |none=>d
 |some v=>if v<0 then(v+(n:Int)).toNat else min v.toNat n
def JZ(n d:Nat):sIx n d none=d:=rfl
def zh7(n d k:Nat):sIx n d (some (k:Int))=min k n:=by
 show(if (k:Int)<0 then((k:Int)+(n:Int)).toNat else min (k:Int).toNat n)=min k n
 rw[if_neg w5,yH]
end
end HT
namespace L2
abbrev TO:=St->Hp->(Option Int->Hp->Prop)->Prop
def PO(X:Cx)(e:Option Expr)(t:TO):Prop:=
 ∀(pins:List (Addr × Obj)) (s:Shared) (σ:St) (H:Hp) (Q:Option Int->Hp->Prop),Inv X pins σ H s->t σ H Q ->
  wpAny (model X.prog X.w) X.A (evalPart e X.env) (λu s'=>∃o H',Inv X pins σ H' s'/\IsPart u o/\Q o H') X.xe s
def zK7:TO:=λ_ H Q=>Q none H
def xo2(t:TE):TO:=λσ H Q=>t σ H λx H1=>∃i,x=.int i/\Q (some i) H1
def vV{ns:List Int}:∀{us:List Value},Vals (ns.map V.int) us->IntsAre us ns:=by
 induction ns with
 |nil=>intro us r;rw[map_nil] at r;cases r;exact .nil
 | cons n ns ih =>
  intro us r;rw[zJ] at r
  cases r with
  |cons r1 r2=>
   obtain⟨t,e⟩:=r1;subst e;exact .cons n t (ih r2)
section
variable {X:Cx}{e:Expr}{te:TE}{lo hi:Option Expr}{tl th:TO}{pos p2:Pos}
def zM9:PO X none zK7:=by
 intro pins s σ H Q I h;rw[evalPart_none];exact zf ⟨none,H,I,.none,h⟩
def zj5(h:PE X e te):PO X (some e) (xo2 te):=by
 intro pins s σ H Q I hw;rw[evalPart_some];refine thn (h pins s σ H _ I hw) λu s1 ⟨x,H1,I1,r1,q1⟩=>?_;obtain⟨i,rfl,q⟩:=q1;obtain⟨t,rfl⟩:=r1;exact⟨some i,H1,I1,.int i t,q⟩
def SlR(X:Cx)(r:V->Option Int->Option Int->Hp->VK->Prop):Prop:=
 ∀(pins:List (Addr × Obj)) (s:Shared) (σ:St) (H:Hp) (x:V) (v vl vu:Value) (lo hi:Option Int) (sl:Addr) (Q:VK),Inv X pins σ H s->RelV x v->s.heap.IsSliceOf sl vl vu .none->IsPart vl lo->IsPart vu hi->r x lo hi H Q ->
  ∃T id,typeLookup (.type T) "__getitem__" = pure (some (.builtin id))/\s.TypeIs v T/\wpAny (model X.prog X.w) X.A (getItem v (.ref sl)) (EP X pins σ Q) X.xe s
def tSl(r:V->Option Int->Option Int->Hp->VK->Prop)(te:TE)(tl th:TO):TE:=λσ H Q=>te σ H λx H1=>tl σ H1 λl H2=>th σ H2 λu H3=>r x l u H3 Q
def zy7{r:V->Option Int->Option Int->Hp->VK->Prop}(hr:SlR X r)(he:PE X e te)(hl:PO X lo tl)(hu:PO X hi th):PE X (.Subscript e (.Slice lo hi none p2) pos) (tSl r te tl th):=by
 intro pins s σ H Q I h;refine Subscript_ (thn (he pins s σ H _ I h) λv s1 ⟨x,H1,I1,r1,q1⟩=>?_);refine wpAny_Slice (thn (hl pins s1 σ H1 _ I1 q1) λvl s2 ⟨l,H2,I2,pl,q2⟩=>thn (hu pins s2 σ H2 _ I2 q2) λvu s3 ⟨u,H3,I3,pu,q3⟩=>?_);rw[evalPart_none];refine zf ?_;have I4:Inv X pins σ H3 { s3 with heap:=s3.heap.push { cls:=.type "slice",data:=.fields #[vl,vu,.none] } }:=I3.kept (t':=s3.toks) λb ob q=>ze _ q;obtain⟨T,id,hT,ht,hg⟩:=hr pins { s3 with heap:=s3.heap.push { cls:=.type "slice",data:=.fields #[vl,vu,.none] } } σ H3 x v vl vu l u s3.heap.objs.size Q I4 r1 (Heap.IsSliceOf.new ..) pl pu q3;show wpAny (model X.prog X.w) X.A (subscriptTail e (.Slice lo hi none p2) v (.ref s3.heap.objs.size)) (EP X pins σ Q) X.xe { s3 with heap:=s3.heap.push { cls:=.type "slice",data:=.fields #[vl,vu,.none] } }
 exact tail_any (ops:=[.ref s3.heap.objs.size,v]) ht hT hg (by with_unfolding_all rfl)
def zU7(xs:List V)(lo hi:Option Int):List V:=(xs.drop (HT.sIx xs.length 0 lo)).take (HT.sIx xs.length xs.length hi-HT.sIx xs.length 0 lo)
def Jz(xs:List V)(lo hi:Option Int):(zU7 xs lo hi).length<=xs.length:=by
 unfold zU7;rw[yM,List.length_drop];lia
end
def ixN(n:Nat)(i:Int):Option Nat:=if 0<=i then(if i<n then some i.toNat else none) else if -(n:Int)<=i then some (i+n).toNat else none
def atI{α:Type}(xs:List α)(i:Int):Option α:=(ixN xs.length i).bind λj=>xs[j]?
def zo3{n:Nat}{i:Int}{j:Nat}(h:ixN n i=some j):seqIndex? i n=some j/\j<n/\-(n:Int)<=i/\i<n:=by
 unfold ixN at h
 by_cases h0:0<=i
 ·rw [if_pos h0] at h
  by_cases h1:i<n
  ·rw [if_pos h1] at h;have e:i.toNat=j:=zF h
   exact⟨by rw[seqIndex_of h0 h1,e],w5,w5,h1⟩
  ·rw[if_neg h1] at h;cases h
 ·rw [if_neg h0] at h
  by_cases h1:-(n:Int)<=i
  ·rw [if_pos h1] at h;have e:(i+n).toNat=j:=zF h
   exact⟨by rw[seqIndex_neg w5 h1,e],w5,h1,w5⟩
  ·rw[if_neg h1] at h;cases h
def JH{α:Type}{xs:List α}{i:Int}{v:α}(h:atI xs i=some v):∃j,seqIndex? i xs.length=some j/\xs[j]?=some v/\j<xs.length/\-(xs.length:Int)<=i/\i<xs.length:=by
 unfold atI at h
 cases e:ixN xs.length i with
 |none=>rw[e] at h;cases h
 |some j=>
  rw[e] at h;obtain⟨h1,h2,h3,h4⟩:=zo3 e;exact⟨j,h1,h,h2,h3,h4⟩
def kX{α:Type}{xs:List α}{j:Nat}{v:α}(h:xs[j]?=some v):atI xs (j:Int)=some v:=by
 have hj:j<xs.length:=(zn.mp h).1
 have e:ixN xs.length (j:Int)=some j:=by
  unfold ixN
  rw[if_pos w5,if_pos w5];simp
 unfold atI;rw[e];exact h
def Ua(b:Expr):Prop:=∀o i,subscripted b false o i=operate [o,i] (getItem o i)
def IxR(X:Cx)(r:R2):Prop:=
 ∀(value slice:Expr) (pins:List (Addr × Obj)) (s:Shared) (σ:St) (H:Hp) (x y:V) (v u:Value) (Q:VK),Inv X pins σ H s->RelV x v->RelV y u->r x y H Q ->
  subscripted slice false v u=operate [v,u] (getItem v u)->wpAny (model X.prog X.w) X.A (subscriptTail value slice v u) (EP X pins σ Q) X.xe s
def MtR(X:Cx)(id:String)(r:V->List V->Hp->VK->Prop):Prop:=
 ∀(pins:List (Addr × Obj)) (s:Shared) (σ:St) (H:Hp) (x:V) (xs:List V) (v:Value) (us:List Value) (Q:VK),Inv X pins σ H s->RelV x v->Vals xs us->r x xs H Q ->
  wpAny (model X.prog X.w) X.A (call (.builtin id) (v::us)) (EP X pins σ Q) X.xe s
section
variable {X:Cx}{a b:Expr}{ta tb:TE}{pos:Pos}
def IxR.or{r r':R2}(h:IxR X r)(h':IxR X r'):IxR X (λx y H Q=>r x y H Q\/r' x y H Q):=by
 intro value slice pins s σ H x y v u Q I rx ry q hs
 rcases q with q |q
 ·exact h value slice pins s σ H x y v u Q I rx ry q hs
 ·exact h' value slice pins s σ H x y v u Q I rx ry q hs
def zN3{r:R2}(hr:IxR X r)(ha:PE X a ta)(hb:PE X b tb)(hs:Ua b):PE X (.Subscript a b pos) (tOp r ta tb):=by
 intro pins s σ H Q I h;exact Subscript_ (xB2 ha hb I h λv u s2 x y H2 I2 rx ry q=>hr a b pins s2 σ H2 x y v u Q I2 rx ry q (hs _ _))
def xC7(K:W.Frag):R2:=λx y H Q=>∃p xs i v,x=.ref p/\y=.int i/\SqL K H p xs/\atI xs i=some v/\Q v H
def xC5(K:W.Frag):R2:=λx y H Q=>∃p xs i v,x=.ref p/\y=.int i/\SqT K H p xs/\atI xs i=some v/\Q v H
def xC6:R2:=λx y H Q=>∃z i c,x=.str z/\y=.int i/\z.length<=sizeLine/\atI z.cps.toList i=some c/\Q (.str ⟨#[c]⟩) H
def Jt:IxR X (xC7 X.K):=by
 intro value slice pins s σ H x y v u Q I rx ry h hs;obtain⟨p,xs,i,z,rfl,rfl,hq,he,q⟩:=h;cases rx;obtain⟨t,rfl⟩:=ry;obtain⟨its,r,pl,hz⟩:=I.list hq;obtain⟨j,h1,h2,h3,h4,h5⟩:=JH he;obtain⟨w,ew,rw'⟩:=r.get h2;have hl:=r.length;have hn:=WN;have fin:EP X pins σ Q w s:=⟨z,H,I,rw',q⟩
 by_cases h0:0<=i
 ·have hj : i.toNat = j := by
   rw[seqIndex_of h0 h5] at h1;exact zF h1
  exact item_listR pl.isList h0 w5 (by rw[hj];simpa using ew) fin hs
 ·have hj : (i + (its.toArray.size : Int)).toNat = j := by
   rw[seqIndex_neg w5 h4] at h1
   rw[zw,<- hl];exact zF h1
  exact subscriptTail_builtinR (x:=w) pl.isList.typeIs slot_list_getitem.lookup
   (wpAny_getItem_list_neg (Q:=λr s'=>r=w/\EP X pins σ Q r s') pl.isList w5 (by rw[zw]<;>lia) w5 (by rw[hj];simpa using ew) ⟨rfl,fin⟩) hs
def xf8:IxR X (xC5 X.K):=by
 intro value slice pins s σ H x y v u Q I rx ry h hs;obtain⟨p,xs,i,z,rfl,rfl,hq,he,q⟩:=h;cases rx;obtain⟨t,rfl⟩:=ry;obtain⟨its,r,pl,hz⟩:=I.tuple hq;obtain⟨j,h1,h2,h3,h4,h5⟩:=JH he;obtain⟨w,ew,rw'⟩:=r.get h2;have hl:=r.length;have hn:=WN;have fin:EP X pins σ Q w s:=⟨z,H,I,rw',q⟩
 exact subscriptTail_builtinR (x:=w) pl.typeIs slot_tuple_getitem.lookup
  (getItem_tuple (j:=j) (Q:=λr s'=>r=w/\EP X pins σ Q r s') pl w5 w5 (by rw[zw,<- hl];exact h1) (by simpa using ew) ⟨rfl,fin⟩) hs
def xf9:IxR X xC6:=by
 intro value slice pins s σ H x y v u Q I rx ry h hs;obtain⟨z,i,c,rfl,rfl,hz,he,q⟩:=h;obtain⟨t,rfl⟩:=rx;obtain⟨t',rfl⟩:=ry;obtain⟨j,h1,h2,h3,h4,h5⟩:=JH he
 have hl:z.cps.toList.length=z.length:=by simp[Str.length]
 rw[hl] at h1 h4 h5;have hn:=WN
 exact tail_any (typeIs_str s z t) slot_str_getitem.lookup (getItem_str (c:=c) (by
  have e1:decide (i < -(2^63:Int))=false:=zN w5
  have e2:decide (i>=2^63)=false:=zN w5
  rw[e1,e2,Bool.or_false]) (by rw[h1];simpa using h2) ⟨.str ⟨#[c]⟩,H,I.tok _,⟨_,rfl⟩,q⟩) hs
def rIx(K:W.Frag):R2:=λx y H Q=>xC7 K x y H Q\/xC5 K x y H Q\/xC6 x y H Q
def xt:IxR X (rIx X.K):=Jt.or (xf8.or xf9)
def zc4(its:List Value)(n j:Nat)(u:Value):Obj.mapSeq (·.setIfInBounds j u) { cls:=.type "list",data:=.seq its.toArray n }={ cls:=.type "list",data:=.seq (its.set j u).toArray n }:=by
 simp[Obj.mapSeq]
def Inv.lst{pins:List (Addr × Obj)}{σ:St}{H:Hp}{s:Shared}{p:Addr}{xs:List V}(I:Inv X pins σ H s)(h:H p=some (.lst xs)) :
  ∃(its:List Value) (n:Nat),Vals xs its/\s.heap.get? p=some { cls:=.type "list",data:=.seq its.toArray n }/\xs.length<=sizeLine:=by
 obtain⟨z,its,n,r,e⟩:=I.hok p _ h;exact⟨its,n,r,e,z⟩
def Inv.lstUpd{pins:List (Addr × Obj)}{σ:St}{H:Hp}{s:Shared}{p:Addr}{xs ys:List V}{its its':List Value}{n n':Nat}{f:Obj->Obj}(I:Inv X pins σ H s)(h:H p=some (.lst xs))
  (ho:s.heap.get? p=some { cls:=.type "list",data:=.seq its.toArray n }) (hf:f { cls:=.type "list",data:=.seq its.toArray n }={ cls:=.type "list",data:=.seq its'.toArray n' }) (r:Vals ys its') (hz:ys.length<=sizeLine) (t:Nat) :
  Inv X pins σ (upd H p (.lst ys)) { s with heap:=s.heap.update p f,toks:=t }:=by
 have e:(s.heap.update p f).get? p=some { cls:=.type "list",data:=.seq its'.toArray n' }:=by
  rw[xN f ho (by rw[hf]<;>rfl),hf]
 refine I.write (x:=p) (e:=p) (by rw[h];trivial) (.inl rfl) (λb u hb q=>(wm _ _ (Ne.symm hb)).trans q) ⟨_,e⟩ ?_
 exact⟨hz,its',n',r,e⟩
def xq6:V->V->V->Hp->(Hp->Prop)->Prop:=λo i v H Q=>∃p xs k j,o=.ref p/\i=.int k/\H p=some (.lst xs)/\ixN xs.length k=some j/\Q (upd H p (.lst (xs.set j v)))
def zv7:xI8 X xq6:=by
 intro pins s σ H o i v ov iv u Q I ro ri rv h;obtain⟨p,xs,k,j,rfl,rfl,hp,hj,q⟩:=h;cases ro;obtain⟨t,rfl⟩:=ri;obtain⟨its,n,r,ho,hz⟩:=I.lst hp;obtain⟨h1,h2,h3,h4⟩:=zo3 hj;have hl:=r.length;have hn:=WN
 have I':Inv X pins σ (upd H p (.lst (xs.set j v))) { s with heap:=s.heap.update p (Obj.mapSeq (·.setIfInBounds j u)) }:=
  I.lstUpd hp ho (zc4 its n j u) (r.set rv j) (by rw[List.length_set];exact hz) s.toks
 by_cases h0:0<=k
 ·have hk : k.toNat = j := by
   rw[seqIndex_of h0 h4] at h1;exact zF h1
  exact W.ki_setAt ho h0 w5 (by rw[zw,<- hl];exact h4) (by rw[hk];exact⟨_,I',q⟩)
 ·have hk : (k + (its.toArray.size : Int)).toNat = j := by
   rw[seqIndex_neg w5 h3] at h1
   rw[zw,<- hl];exact zF h1
  exact W.ki_setBack ho w5 (by rw[zw,<- hl];exact h3) w5 (by rw[hk];exact⟨_,I',q⟩)
def Uv(lo hi:Option Int)(n:Nat):(sliceBounds lo hi none n).1=((HT.sIx n 0 lo:Nat):Int)/\(sliceBounds lo hi none n).2.1=((HT.sIx n n hi:Nat):Int)/\(sliceBounds lo hi none n).2.2=1:=by
 refine⟨?_,?_,rfl⟩
 ·cases lo with
  |none=>simp[sliceBounds,HT.sIx]
  |some i=>
   simp only[sliceBounds,HT.sIx,Option.getD_none,show(1:Int) > 0 by decide,if_true]
   by_cases h:i<0
   ·simp only[h,if_true]<;>lia
   ·simp only[h,if_false]<;>lia
 ·cases hi with
  |none=>simp[sliceBounds,HT.sIx]
  |some i=>
   simp only[sliceBounds,HT.sIx,Option.getD_none,show(1:Int) > 0 by decide,if_true]
   by_cases h:i<0
   ·simp only[h,if_true]<;>lia
   ·simp only[h,if_false]<;>lia
def Vl(its:List Value)(lo hi:Option Int):slicePick its.toArray lo hi none=((its.drop (HT.sIx its.length 0 lo)).take (HT.sIx its.length its.length hi-HT.sIx its.length 0 lo)).toArray:=by
 obtain⟨h1,h2,h3⟩:=Uv lo hi its.toArray.size;unfold slicePick;rw[h1,h2,h3]
 simp only[sliceRange_one,pick_run,zw]<;>rfl
def xL3(K:W.Frag):V->Option Int->Option Int->Hp->VK->Prop:=λx lo hi H Q=>∃a xs,x=.ref a/\SqL K H a xs/\∀p,H p=none->Q (.ref p) (upd H p (.lst (zU7 xs lo hi)))
def zK8:SlR X (xL3 X.K):=by
 intro pins s σ H x v vl vu lo hi sl Q I rx hs pl pu h;obtain⟨a,xs,rfl,hx,q⟩:=h;cases rx;obtain⟨its,r,ht,hz⟩:=I.list hx;have hlen:=r.length;refine⟨"list",_,slot_list_getitem.lookup,ht.isList.typeIs,?_⟩
 refine wpAny_getItem_list_slice ht.isList hs pl pu .none (by simp) ?_ (by rw[zw]<;>lia)
 rw[Vl,<- hlen];refine⟨.ref s.heap.objs.size,_,I.laid (t':=s.toks) (o:=.lst (zU7 xs lo hi)) (λb ob q=>ze _ q) (zo _) ?_,rfl,q _ (I.hok.fresh (zo _))⟩;exact⟨zB (Jz xs lo hi) hz,_,0,(r.drop (HT.sIx xs.length 0 lo)).take (HT.sIx xs.length xs.length hi-HT.sIx xs.length 0 lo),zq _ rfl⟩
def Ww:V->Bool
 |.non=>true
 |.bl _=>true
 |.int _=>true
 |.str _=>true
 |_=>false
def eqV:V->V->Bool
 |.non,.non=>true
 |.bl a,.bl b=>a == b
 |.bl a,.int b=>(if a then 1 else 0) == b
 |.int a,.bl b=>a == (if b then 1 else 0)
 |.int a,.int b=>a == b
 |.str a,.str b=>a == b
 |_,_=>false
def xh1{A:Around}{s:Shared}{y x:V}{u v:Value}(ry:RelV y u)(rx:RelV x v)(fy:Ww y=true)(fx:Ww x=true):SeqAt.EqAt A s u v (eqV y x):=by
 cases y with
 |non=>
  cases ry
  cases x with
  |non=>cases rx;exact SeqAt.EqAt.same _
  |bl b=>cases rx;exact SeqAt.EqAt.none_bool b
  |int b=>obtain⟨t,rfl⟩:=rx;exact SeqAt.EqAt.none_int b t
  |str b=>obtain⟨t,rfl⟩:=rx;exact SeqAt.EqAt.none_str b t
  |_=>exact absurd (show false=true from fx) zy
 |bl a=>
  cases ry
  cases x with
  |non=>cases rx;exact SeqAt.EqAt.bool_none a
  |bl b=>cases rx;exact SeqAt.EqAt.bool_bool a b
  |int b=>obtain⟨t,rfl⟩:=rx;exact SeqAt.EqAt.bool_int a b t
  |str b=>obtain⟨t,rfl⟩:=rx;exact SeqAt.EqAt.bool_str a b t
  |_=>exact absurd (show false=true from fx) zy
 |int a=>
  obtain⟨t',rfl⟩:=ry
  cases x with
  |non=>cases rx;exact SeqAt.EqAt.int_none a t'
  |bl b=>cases rx;exact SeqAt.EqAt.int_bool a t' b
  |int b=>obtain⟨t,rfl⟩:=rx;exact SeqAt.EqAt.int_int a t' b t
  |str b=>obtain⟨t,rfl⟩:=rx;exact SeqAt.EqAt.int_str a t' b t
  |_=>exact absurd (show false=true from fx) zy
 |str a=>
  obtain⟨t',rfl⟩:=ry
  cases x with
  |non=>cases rx;exact SeqAt.EqAt.str_none a t'
  |bl b=>cases rx;exact SeqAt.EqAt.str_bool a t' b
  |int b=>obtain⟨t,rfl⟩:=rx;exact SeqAt.EqAt.str_int a t' b t
  |str b=>obtain⟨t,rfl⟩:=rx;exact SeqAt.EqAt.str_str a t' b t
  |_=>exact absurd (show false=true from fx) zy
 |_=>exact absurd (show false=true from fy) zy
def eqU(x:V)(u:Value):Bool:=match u with
 |.none=>eqV .non x
 |.bool b=>eqV (.bl b) x
 |.int i _=>eqV (.int i) x
 |.str z _=>eqV (.str z) x
 |_=>false
def zI6{x y:V}{u:Value}(r:RelV y u)(f:Ww y=true):eqU x u=eqV y x:=by
 cases y with
 |non=>cases r;rfl
 |bl b=>cases r;rfl
 |int i=>obtain⟨t,rfl⟩:=r;rfl
 |str z=>obtain⟨t,rfl⟩:=r;rfl
 |_=>exact absurd (show false=true from f) zy
theorem JI{x:V}:∀{xs:List V}{us:List Value},Vals xs us->xs.all Ww=true->us.any (eqU x)=xs.any λy=>eqV y x
 |_,_,.nil,_=>rfl
 |y::xs,u::us,.cons r t,f=>by
  rw[all_cons,zM] at f;rw[yI,yI,zI6 r f.1,JI t f.2]
theorem VL{A:Around}{s:Shared}{x:V}{v:Value}(rx:RelV x v)(fx:Ww x=true):∀{xs:List V}{us:List Value},Vals xs us->xs.all Ww=true->∀u∈us,SeqAt.EqAt A s u v (eqU x u)
 |_,_,.nil,_=>λu hu=>by cases hu
 |y::xs,u::us,.cons r t,f=>λu' hu=>by
  rw[all_cons,zM] at f
  rcases zi.mp hu with rfl |hu
  ·rw[zI6 r f.1];exact xh1 r rx f.1 fx
  ·exact VL rx fx t f.2 u' hu
def inV(x:V)(xs:List V):Bool:=xs.any λy=>eqV y x
def rIn(K:W.Frag)(neg:Bool):R2:=λx y H Q=>∃p xs,y=.ref p/\(SqL K H p xs\/SqT K H p xs)/\Ww x=true/\xs.all Ww=true/\Q (.bl (if neg then !inV x xs else inV x xs)) H
def zk4:OpR X (compareOp .In) (rIn X.K false):=by
 intro pins s σ H x y v u Q I rx ry h;obtain⟨p,xs,rfl,hq,fx,fs,q⟩:=h;cases ry
 rcases hq with hq |hq
 ·obtain ⟨its, r, pl, hz⟩ := I.list hq
  refine SeqAt.in_listAt (eqU x) pl.isList (λw hw=>VL rx fx r fs w (by simpa using hw)) ⟨.bl _,H,I,rfl,?_⟩
  rw[show its.toArray.any (eqU x)=its.any (eqU x) by simp,JI r fs]
  exact q
 ·obtain ⟨its, r, pl, hz⟩ := I.tuple hq
  refine SeqAt.in_tupleAt (eqU x) pl (λw hw=>VL rx fx r fs w (by simpa using hw)) ⟨.bl _,H,I,rfl,?_⟩
  rw[show its.toArray.any (eqU x)=its.any (eqU x) by simp,JI r fs]
  exact q
def wD:qo X (.builtin "len") (λxs H Q=>∃p ys,xs=[.ref p]/\(SqL X.K H p ys\/SqT X.K H p ys)/\Q (.int ys.length) H):=by
 intro pins s σ H xs us Q I r h;obtain⟨p,ys,rfl,hq,q⟩:=h;obtain⟨u,rfl,rx⟩:=Wc r;cases rx;have hn:=WN
 rcases hq with hq |hq
 ·obtain ⟨its, r', pl, hz⟩ := I.list hq;have hlen:=r'.length
  exact Calls.call_len_list pl.isList (by simp only[zw]<;>lia) ⟨.int ys.length,H,I.tok _,⟨s.toks+1,by rw[zw,hlen]⟩,q⟩
 ·obtain ⟨its, r', pl, hz⟩ := I.tuple hq;have hlen:=r'.length
  exact len_tuple pl (by simp only[zw]<;>lia) ⟨.int ys.length,H,I.tok _,⟨s.toks+1,by rw[zw,hlen]⟩,q⟩
def Kv:qo X (.type "list") (λxs H Q=>∃p ys,xs=[.ref p]/\(SqL X.K H p ys\/SqT X.K H p ys)/\∀l,H l=none->Q (.ref l) (upd H l (.lst ys))):=by
 intro pins s σ H xs us Q I r h;obtain⟨p,ys,rfl,hq,q⟩:=h;obtain⟨u,rfl,rx⟩:=Wc r;cases rx
 have fin:∀(its:List Value),Vals ys its->ys.length<=sizeLine->∀(h':Heap) (c':Nat),(∀b o',s.heap.get? b=some o'->h'.get? b=some o') ->
   h'.get? s.heap.objs.size=some { cls:=.type "list",dict:=none,data:=.seq its.toArray c',slots:=#[] }->EP X pins σ Q (.ref s.heap.objs.size) { s with heap:=h' }:=λits r' hz h' c' kp e=>
  ⟨.ref s.heap.objs.size,_,I.laid (t':=s.toks) kp (zo _) (show ObjOk X.prog X.w _ h' _ (.lst ys) from⟨hz,its,c',r',e⟩),rfl,q _ (I.hok.fresh (zo _))⟩
 rcases hq with hq |hq
 ·obtain ⟨its, r', pl, hz⟩ := I.list hq;have hlen:=r'.length;obtain⟨o,ho,hc,n,hd⟩:=pl.isList
  exact call_list_seq p (.inl rfl) ho hc hd (λh' c' kp e=>fin its r' hz h' c' kp e) (by simp only[zw]<;>lia)
 ·obtain ⟨its, r', pl, hz⟩ := I.tuple hq;have hlen:=r'.length;obtain⟨o,ho,hc,n,hd⟩:=pl
  exact call_list_seq p (.inr rfl) ho hc hd (λh' c' kp e=>fin its r' hz h' c' kp e) (by simp only[zw]<;>lia)
def yv:qo X (.type "tuple") (λxs H Q=>∃p ys,xs=[.ref p]/\((SqL X.K H p ys/\∀l,H l=none->Q (.ref l) (upd H l (.tup ys)))\/(SqT X.K H p ys/\Q (.ref p) H))):=by
 intro pins s σ H xs us Q I r h;obtain⟨p,ys,rfl,h⟩:=h;obtain⟨u,rfl,rx⟩:=Wc r;cases rx
 rcases h with ⟨hq,q⟩ |⟨hq,q⟩
 ·obtain ⟨its, r', pl, hz⟩ := I.list hq;have hlen:=r'.length
  refine call_tuple_list pl.isList (λh' kp=>?_) (by simp only[zw]<;>lia)
  have I1:Inv X pins σ H { s with heap:=h' }:=I.kept (t':=s.toks) kp
  have I2:Inv X pins σ (upd H h'.objs.size (.tup ys)) { s with heap:=h'.push { cls:=.type "tuple",data:=.seq its.toArray } }:=
   I1.laid (t':=s.toks) (λb o e=>ze _ e) (zo _) (show ObjOk X.prog X.w _ _ _ (.tup ys) from⟨hz,its,r',IsTup.new _ _⟩)
  exact⟨.ref h'.objs.size,_,I2,rfl,q _ (I1.hok.fresh (zo _))⟩
 ·obtain⟨its,r',pl,hz⟩:=I.tuple hq;exact call_tuple_same pl ⟨.ref p,H,I,rfl,q⟩
def tyV(K:W.Frag)(T:String)(x:V)(H:Hp):Prop:=match x with
 |.str _=>T = "str"
 |.int _=>T = "int"
 | .ref p => (T = "list" /\ ∃ xs, SqL K H p xs) \/ (T = "tuple" /\ ∃ o, K.lookup p = some o /\ o.cls = .type "tuple" /\ o.dict = none) \/
   (T = "dict" /\ ((∃kvs,H p=some (.dK kvs))\/∃kvs,H p=some (.dT kvs)))\/(T = "set" /\ ∃S n,H p=some (.set S n))
 |_=>False
def zV1{pins:List (Addr × Obj)}{σ:St}{H:Hp}{s:Shared}{T:String}{x:V}{v:Value}(I:Inv X pins σ H s)(r:RelV x v)(ty:tyV X.K T x H) :
  s.TypeIs v T/\∀a,v=.ref a->∃ob,s.heap.get? a=some ob/\ob.dict=none:=by
 cases x with
 |str z=>
  obtain⟨t,rfl⟩:=r;cases(show T = "str" from ty)
  exact⟨typeIs_str s z t,λ_ e=>nomatch e⟩
 |int i=>
  obtain⟨t,rfl⟩:=r;cases(show T = "int" from ty)
  exact⟨typeIs_int s i t,λ_ e=>nomatch e⟩
 | ref p =>
  cases r
  rcases ty with ⟨rfl,xs,hq⟩ |⟨rfl,o,hk,hc,hd⟩ |⟨rfl,hk⟩ |⟨rfl,S,n,hk⟩
  ·obtain⟨its,_,pl,_⟩:=I.list hq;refine⟨pl.isList.typeIs,λa e=>?_⟩;cases e;obtain⟨o,n,e,c,hd,_⟩:=pl;exact⟨o,e,hd⟩
  ·refine⟨⟨o,I.kIn p o hk,hc⟩,λa e=>?_⟩;cases e;exact⟨o,I.kIn _ o hk,hd⟩
  ·have z : ∃ o, s.heap.get? p = some o /\ o.ExactDict := by
    rcases hk with ⟨kvs,hk⟩ |⟨kvs,hk⟩
    ·obtain⟨_,_,_,_,o,_,_,e,ex,_⟩:=I.hok p _ hk;exact⟨o,e,ex⟩
    ·obtain⟨_,_,_,_,o,_,_,e,ex,_⟩:=I.hok p _ hk;exact⟨o,e,ex⟩
   obtain⟨o,e,ex⟩:=z;refine⟨⟨o,e,ex.1⟩,λa e2=>?_⟩;cases e2;exact⟨o,e,ex.2.1⟩
  ·obtain⟨o,_,_,_,e,ex,_⟩:=I.hok p _ hk;refine⟨⟨o,e,ex.1⟩,λa e2=>?_⟩;cases e2;exact⟨o,e,ex.2.1⟩
 |_=>exact False.elim ty
def tBM(K:W.Frag)(T:String)(r:V->List V->Hp->VK->Prop)(to:TE)(t:TA):TE:=λσ H Q=>to σ H λx H1=>tyV K T x H1/\t σ H1 λxs H2=>r x xs H2 Q
variable {o e:Expr}{es:List Expr}{to:TE}{t:TA}{name:Str}{apos cpos:Pos}{T id:String}{r:V->List V->Hp->VK->Prop}
def xy4(pa:PlainAttrs T)(slot:Slot T name id)(hty:typeOf (.builtin id)=pure (.type "method_descriptor"))(hm:MtR X id r)(ho:PE X o to)(ha:PA X (e::es) t)
  (hbase:attributeBase o name X.env (eval o X.env)=eval o X.env:=by rfl)
  (hfew : ((backTo cpos (starEach (e :: es) X.env)).all (λx => !x.1) && (backToKw cpos (keywordEach [] X.env)).all (λx => x.1.isSome)
   && decide ((e::es).length+([]:List Keyword).length+(if ([]:List Keyword).isEmpty then 0 else 1)<30))=true:=by rfl)
  (hline:(apos.endLine == cpos.line)=true:=by rfl) (hs:starEach (e::es) X.env=(false,eval e X.env)::starEach es X.env:=by rfl) (hplain:(backTo cpos (starEach es X.env)).any (·.1)=false:=by rfl) :
  PE X (.Call (.Attribute o name apos) (e::es) [] cpos) (tBM X.K T r to t):=by
 intro pins s σ H Q I h;refine wpAny_Call_method_late hbase hfew hline rfl (thn (ho pins s σ H _ I h) λv s1 ⟨x,H1,I1,r1,ty,q1⟩=>?_);obtain⟨h1,h2⟩:=zV1 I1 r1 ty;refine⟨T,id,pa,slot,hty,h1,h2,?_⟩;have hA:=ha cpos pins s1 σ H1 _ I1 q1;rw[hs] at hA ⊢
 refine Calls.callWith_builtin (by show(false||(backTo cpos (starEach es X.env)).any (·.1))=false;rw[hplain]<;>rfl) (Calls.evalArgs_plain ?_)
 exact thn hA λus s2 ⟨vs,H2,I2,r2,q2⟩=>hm pins s2 σ H2 x vs v us Q I2 r1 r2 q2
end
def MtM(X:Cx)(id:String)(r:V->List V->Hp->VK->Prop):Prop:=
 ∀(pins:List (Addr × Obj)) (s:Shared) (σ:St) (H:Hp) (x:V) (xs:List V) (v:Value) (us:List Value) (Q:VK),Inv X pins σ H s->RelV x v->Vals xs us->r x xs H Q ->
  wpAny (model X.prog X.w) X.A (call (.builtin id) (v::us)) (EP X pins σ Q) X.xe s
theorem Vals.one:∀{x:V}{us:List Value},Vals [x] us->∃u,us=[u]/\RelV x u
 |_,_,.cons r .nil=>⟨_,rfl,r⟩
theorem Vals.rep{xs:List V}{us:List Value}(h:Vals xs us):∀k:Nat,Vals (replicate k xs).flatten (replicate k us).flatten
 |0=>.nil
 |k+1=>by
  rw[wK,wK,yF,yF];exact Vals.append h (Vals.rep h k)
def Kf(its:List Value):∀(k:Nat) (acc:List Value),
  List.foldl (λx1 x2=>x1++x2) acc.toArray (replicate k its.toArray)=(acc++(replicate k its).flatten).toArray
 |0,acc=>by simp
 | k + 1, acc => by
  have e:acc.toArray++its.toArray=(acc++its).toArray:=by simp
  have e2:(acc++its)++(replicate k its).flatten=acc++(replicate (k+1) its).flatten:=by
   rw[wK,yF,yG]
  rw[<- e2,<- Kf its k (acc++its),<- e,wK,List.foldl_cons]
section
variable {X:Cx}{pins:List (Addr × Obj)}{σ:St}{H:Hp}{s:Shared}{l b:Addr}{xs ys zs:List V}
def Inv.lset{its its':List Value}{n:Nat}{f:Array Value->Array Value}{t':Nat}(I:Inv X pins σ H s)(hH:H l=some (.lst xs))
  (e:s.heap.get? l=some { cls:=.type "list",data:=.seq its.toArray n }) (hf:f its.toArray=its'.toArray) (hv:Vals ys its') (hz:ys.length<=sizeLine) :
  Inv X pins σ (upd H l (.lst ys)) { s with heap:=s.heap.update l (Obj.mapSeq f),toks:=t' }:=by
 have q:=PySem.IsL.update e f;rw[hf] at q
 refine I.write (x:=l) (e:=l) (by rw[hH];exact trivial) (.inl rfl) (λb' u hb hu=>(wm s.heap (Obj.mapSeq f) (Ne.symm hb)).trans hu) ⟨_,q⟩ ?_
 exact⟨hz,its',_,hv,q⟩
def Inv.lnew{its:List Value}{t':Nat}(I:Inv X pins σ H s)(hv:Vals ys its)(hz:ys.length<=sizeLine) :
  Inv X pins σ (upd H s.heap.objs.size (.lst ys)) { s with heap:=s.heap.push { cls:=.type "list",data:=.seq its.toArray },toks:=t' }:=
 I.laid (λ_ _ q=>ze _ q) (zo _) ⟨hz,its,0,hv,zq _ rfl⟩
def Inv.fresh(I:Inv X pins σ H s):H s.heap.objs.size=none:=I.hok.fresh (zo _)
def Inv.lstM(I:Inv X pins σ H s)(hH:H l=some (.lst xs)):xs.length<=sizeLine/\∃(its:List Value) (n:Nat),Vals xs its/\xs.length=its.length/\s.heap.get? l=some { cls:=.type "list",data:=.seq its.toArray n }:=by
 obtain⟨z,its,n,r,e⟩:=I.hok l _ hH;exact⟨z,its,n,r,r.length,e⟩
end
section
variable {X:Cx}
def zM0:V->List V->Hp->VK->Prop:=λx vs H Q=>∃l xs y,x=.ref l/\vs=[y]/\H l=some (.lst xs)/\xs.length<sizeLine/\Q .non (upd H l (.lst (xs++[y])))
def zm4:MtM X "list.append" zM0:=by
 intro pins s σ H x vs v us Q I rx rv h;obtain⟨l,xs,y,rfl,rfl,hH,hz,q⟩:=h;cases rx;obtain⟨u,rfl,ru⟩:=rv.one;obtain⟨z,its,n,r,hl,e⟩:=I.lstM hH
 refine call_meets F.slot_list_append ⟨_,e,rfl⟩ F.entry_list_append (F.args_list_append_2 _ _) (PySem.list_append l its.toArray n u (by rw[zw];lia)) ⟨e,?_⟩
 refine⟨.non,_,I.lset (its':=its++[u]) hH e (by simp) (r.append (.cons ru .nil)) ?_,rfl,q⟩
 rw[zI,List.length_singleton];lia
def xD0:R2:=λx y H Q=>∃l b xs zs,x=.ref l/\y=.ref b/\H l=some (.lst xs)/\H b=some (.lst zs)/\xs.length+zs.length<=sizeLine/\∀p,H p=none->Q (.ref p) (upd H p (.lst (xs++zs)))
def Qq:OpR X (binaryOp .Add) xD0:=by
 intro pins s σ H x y v u Q I rx ry h;obtain⟨l,b,xs,zs,rfl,rfl,hH,hB,hz,q⟩:=h;cases rx;cases ry;obtain⟨z,its,n,r,hl,e⟩:=I.lstM hH;obtain⟨z2,its2,n2,r2,hl2,e2⟩:=I.lstM hB
 refine PySem.P.add_list e e2 ?_ (by rw[zw,zw];lia)
 have ea:its.toArray++its2.toArray=(its++its2).toArray:=by simp
 rw[ea]
 exact⟨.ref _,_,I.lnew (t':=s.toks) (r.append r2) (by rw[zI];lia),rfl,q _ I.fresh⟩
def zn2{α:Type}(xs:List α)(k:Nat):(replicate k xs).flatten.length=k*xs.length:=by
 induction k with
 |zero=>simp
 |succ k ih=>rw[wK,yF,zI,ih,Nat.succ_mul,Nat.add_comm]
end
section
variable {prog:Program}{w:World}{A:Around}{E:Value->Shared->Prop}{s:Shared}
end
section
variable {X:Cx}
end
end L2
namespace Att
open PySem PySem.W PySem.Calls PyProof.Rows
def XI{P:Params}{h:Heap}:∀(ns:List Int) (vs:List Value),WellAll P h vs (ns.map WData.int)->IntsAre vs ns:=by
 intro ns
 induction ns with
 |nil=>
  intro vs w;rw[map_nil] at w;cases w;exact .nil
 | cons n ns ih =>
  intro vs w;rw[zJ] at w
  cases w with
  |cons a b=>
   cases a;exact .cons _ _ (ih _ b)
def zh0{l:OpenLaw}{n:Nat}(hn:l.most=some n){P:Params}{h:Heap}{args:List WData}{vals:List Value}
  (hpre:l.row.toRowW.claim.pre args=true) (hwl:WellAll P h vals args) :
  ∃a vs ns,vals=[Value.ref a]/\args=[WData.list (ns.map WData.int)]/\h.get? a=some { cls:=.type "list",data:=.seq vs.toArray }/\IntsAre vs ns/\ns.length<=n:=by
 have hsh:WShape.hasAll [] args [.list .int]=true:=(pre_splitW hpre).1;have hc:l.pre.holds [] { args:=args }=true:=(pre_splitW hpre).2;obtain⟨d,r,rfl,h1,h2⟩:=hasAllW_cons hsh;obtain rfl:=hasAllW_nil h2;obtain⟨xs,rfl,h3⟩:=hasW_list h1;obtain⟨ns,rfl⟩:=items_int h3
 have hlen:ns.length<=n:=by
  unfold OpenLaw.pre at hc
  have h4:(WTm.not (.lt (.lit (.int (n:Int))) (.len (.arg 0)))).holds [] { args:=[.list (ns.map .int)] }=true:=by
   have h4:=(holds_andW hc).1;rw[hn] at h4;exact h4
  have h5:=condW_of h4 (w_not (w_lt w_lit (w_len_list (w_arg rfl))));rw[zg] at h5;refine yh λq=>?_
  have q':(n:Int)<((ns.length:Nat):Int):=w5
  first
   |(rw[xo q'] at h5;exact absurd h5 w6)
   |(simp at h5;lia)
 cases hwl with
 |cons w1 w2=>
  cases w2
  cases w1 with
  |list ho hall=>exact⟨_,_,ns,rfl,rfl,ho,XI ns _ hall,hlen⟩
def zj4(l:OpenLaw)(args:List WData):l.row.toRowW.claim.post args (.bool true) args=true:=
 postW_of (r:=l.row.toRowW) (X:=(true == true))
  (show WShape.has [] (.bool true) .bool=true by first |rfl |decide |simp[WShape.has,WShape.arms,WShape.armsAll])
  (show(WTm.eq .res (.lit (.bool true))).value [] { args:=args,res:=some (.bool true),after:=args }=some (.bool (true == true)) from w_eq_bool (w_res rfl) w_lit) rfl
def attach_call{l:OpenLaw}{n:Nat}{q:Program}{loose:List Str}{XP:(Str->Option Value)->Heap->Prop}{YP:World->Heap->Prop}{d:DefRec}
  (hn:l.most=some n) (hdf:d.params.defaults=[])
  (call : ∀ (w : World) (s₀ s₁ : Shared) (mg mb : Str -> Option Value) (fa : Addr) (o : Obj) (pm cd doc : Value) (a : Addr) (vs : List Value) (ns : List Int),
   Ground q loose [] XP w s₀ mg mb s₁.heap->YP w s₁.heap ->
   s₁.heap.get? fa=some o->o.data=.func (docDef d.name d.params d.body d.scope pm cd doc)->s₁.heap.CodeRec cd d.name->mg d.name=some (.ref fa) ->
   s₁.heap.get? a=some { cls:=.type "list",data:=.seq vs.toArray }->IntsAre vs ns->ns.length<=n->s₁.gens=#[] ->
   codeAny (model l.prog w) callerA (.call (.ref fa) ⟨[.ref a],[]⟩) (λr s'=>r=.ok (.ret (.bool true))/\OldK s₁.heap s'.heap/\s'.os=s₁.os/\AllBare s'.gens) s₁) :
  WalkO q loose XP YP l.row.toRowW d [] (λf vs=>PySem.call f vs):=by
 intro w s₀ s₁ mg mb G Y fa o pm cd doc dV kV ho hd hcd hD hmg hg args vals as hpre hlay hrd hwl hlo;obtain rfl:dV=.none:=Dflts.none hD hdf;obtain rfl:kV=.none:=Dflts.noKw hD;obtain⟨a,vs,ns,rfl,rfl,hobj,hints,hlen⟩:=zh0 hn hpre hwl;refine enter_call (codeAny_mono (call w s₀ s₁ mg mb fa o pm cd doc a vs ns G Y ho (fd_plain hd) hcd hmg hobj hints hlen hg) λr s' hq=>?_);obtain⟨rfl,h2,h3,h4⟩:=hq
 exact⟨.inl ⟨.bool true,.bool true,[],rfl,λ_=>rfl,.bool true,zj4 l _,λ_=>⟨List.Pairwise.nil,λ_ hm=>(nomatch hm)⟩⟩,h2,h3,h4⟩
section
variable {prog:Program}{w:World}{A:Around}{E:Value->Shared->Prop}{s:Shared}{K:Frag}
end
end Att
namespace L2
theorem Uo:∀{vs:List Value}{ns:List Int},IntsAre vs ns->Vals (ns.map V.int) vs
 |_,_,.nil=>.nil
 |_,_,.cons n t h=>.cons ⟨t,rfl⟩ (Uo h)
def kU(s:Stmt):Arguments:=match s with
 |.FunctionDef _ a _ _ _ _ _ _ _ _=>a
 |_=>{ posonlyargs:=[],args:=[],vararg:=none,kwonlyargs:=[],kw_defaults:=[],kwarg:=none,defaults:=[] }
def vN(s:Stmt):List Stmt:=match s with
 |.FunctionDef _ _ b _ _ _ _ _ _ _=>b
 |_=>[]
def xg(s:Stmt):Scope:=match s with
 |.FunctionDef _ _ _ _ _ _ sc _ _ _=>sc
 |_=>{ kind:=.function,names:=[],isGenerator:=false,isCoroutine:=false }
abbrev CX0:CXT:=λ_ _ _ _ _ _=>False
abbrev E0:XK:=λ_ _ _=>False
def zz5{X:Cx}:zu0 CX0 X E0:=λ_ _ _ _ _ _ _ h=>h.elim
structure Fun(K:W.Frag)(x qual:Str)(st:Stmt)(f:Addr)(fd:FuncData):Prop where
 ex:∃(oc:Value) (od:Option Addr) (kV doc pm:Value) (an:Option Addr) (cdv ct:Value) (osl:Array (Option Value)),
  fd=W.fnOf x qual (kU st) (vN st) (xg st) .none kV doc pm an cdv ct/\K.lookup f=some ⟨oc,od,.func fd,osl⟩/\W.codeIn K cdv qual=true
 kp:W.keepIn K (.ref f)=true
section
variable {P:Program}{w:World}{K:W.Frag}{mg:Str->Option Value}{base:Heap}
def Fun.ok{x qual:Str}{st:Stmt}{f:Addr}{fd:FuncData}{N ps:List Str}{k:Nat}{sp:Sp}(F:Fun K x qual st f fd)(S:FnScope N ps (xg st))(len:∀vs H Q E,sp vs H Q E->vs.length=ps.length)
  (hbody : ∀ (cdv : Value) (A : Around) (outer : List Env) (s : Shared) (H : Hp) (vs : List V) (Q : VK) (E : XK), Room k (A.deeper (envOfC qual (xg st) s.heap.objs.size f cdv)) -> sp vs H Q E ->
   ∃t,PSs (zu5 CX0 P w K mg base N qual (xg st) f cdv A outer s H E).nox (vN st) t/\t { nx:=λ_ H'=>Q .non H',rt:=Q } (start N vs) H):FnOk P w K mg base CX0 (k+1) f fd ps sp:=by
 obtain⟨oc,od,kV,doc,pm,an,cdv,ct,osl,rfl,lk,hcd⟩:=F.ex;refine xh0 lk hcd S len λA outer s H vs Q E hr hsp=>?_;obtain⟨t,h,q⟩:=hbody cdv A outer s H vs Q E hr hsp;exact⟨t,h.nox,q⟩
def Fun.binds{x qual:Str}{st:Stmt}{f:Addr}{fd:FuncData}{ps:List Str}(F:Fun K x qual st f fd)
  (h:∀(kV doc pm:Value) (an:Option Addr) (cdv ct:Value) (us:List Value),us.length=ps.length->bindArgs (W.fnOf x qual (kU st) (vN st) (xg st) .none kV doc pm an cdv ct) ⟨us,[]⟩=pure (ps.zip us)):Binds K fd ps []:=by
 obtain⟨oc,od,kV,doc,pm,an,cdv,ct,osl,rfl,lk,hcd⟩:=F.ex;exact .all (h kV doc pm an cdv ct)
def zp5{x qual:Str}{st:Stmt}{f:Addr}{oc:Value}{od an:Option Addr}{osl:Array (Option Value)}{kV doc pm cdv ct:Value}(l:K.lookup f=some ⟨oc,od,.func (W.fnOf x qual (kU st) (vN st) (xg st) .none kV doc pm an cdv ct),osl⟩)
  (c:W.codeIn K cdv qual=true) (k:W.keepIn K (.ref f)=true):Fun K x qual st f (W.fnOf x qual (kU st) (vN st) (xg st) .none kV doc pm an cdv ct):=⟨⟨oc,od,kV,doc,pm,an,cdv,ct,osl,rfl,l,c⟩,k⟩
end
def zS0{A:Around}{k:Nat}(hr:Room k A):A.units+1<cLine:=Nat.lt_of_le_of_lt (Nat.add_le_add_left (by decide:1<=64) _) hr.units
section
variable {X:Cx}
end
end L2
namespace L2
open PySem
def kY(env:Env):List (Str × NameKind)->List (Str × Addr)->List (Str × Addr)
 |[],acc=>acc
 |y::r,acc=>if y.2 == .free then kY env r ((y.1,(env.cells.lookup y.1).getD 0)::acc) else kY env r acc
def vI{env:Env}:∀(l:List (Str × NameKind)) (acc:List (Str × Addr)),(∀y∈l,y.2=.free->∃c,env.cells.lookup y.1=some c)->(∀x c,acc.lookup x=some c->env.cells.lookup x=some c) ->
  ∀x c,(kY env l acc).lookup x=some c->env.cells.lookup x=some c
 |[],acc,_,ha,x,c,h=>ha x c h
 | y :: r, acc, hf, ha, x, c, h => by
  unfold kY at h
  split at h
  ·rename_i hk
   have hk':y.2=.free:=by simpa using hk
   obtain⟨d,hd⟩:=hf y xh hk';refine vI r _ (λz hz=>hf z (zm _ hz)) (λz e hz=>?_) x c h;rw[xB] at hz
   cases hb:z == y.1 with
   |true=>
    rw[hb,hd] at hz
    have e2:z=y.1:=by simpa using hb
    have e3:d=e:=by simpa using hz
    rw[e2,hd,e3]
   |false=>rw[hb] at hz;exact ha z e hz
  ·exact vI r acc (λz hz=>hf z (zm _ hz)) ha x c h
theorem Yk{env:Env}{x:Str}:∀(l:List (Str × NameKind)) (acc:List (Str × Addr)),(∃c,acc.lookup x=some c)->∃c,(kY env l acc).lookup x=some c
 |[],acc,h=>h
 | y :: r, acc, h => by
  unfold kY
  split
  ·refine Yk r _ ?_;rw[xB]
   cases hb:x == y.1 with
   |true=>exact⟨_,rfl⟩
   |false=>exact h
  ·exact Yk r acc h
theorem ku{env:Env}{y:Str × NameKind}(hk:y.2=.free):∀(l:List (Str × NameKind)) (acc:List (Str × Addr)),y∈l->∃c,(kY env l acc).lookup y.1=some c
 |[],acc,h=>by simp at h
 | z :: r, acc, h => by
  unfold kY
  rcases zi.mp h with rfl |h
  ·rw [if_pos (by rw [hk]; rfl)]
   exact Yk r _ ⟨_,al_List_lookup_cons_self⟩
  ·split
   ·exact ku hk r _ h
   ·exact ku hk r _ h
def WW{env:Env}(f:Str × NameKind->List (Str × Addr)->Sem (ForInStep (List (Str × Addr))))
  (hf:∀y acc,f y acc=if y.2 == .free then(cellOf env y.1 >>= λc=>pure (.yield ((y.1,c)::acc))) else pure (.yield acc)) :
  ∀(l:List (Str × NameKind)) (acc:List (Str × Addr)),(∀y∈l,y.2=.free->∃c,env.cells.lookup y.1=some c)->forIn l acc f=(pure (kY env l acc):Sem _)
 |[],acc,_=>by rw[forIn_nil];rfl
 | y :: r, acc, h => by
  have ih:=λacc=>WW f hf r acc λz hz=>h z (zm _ hz);rw[forIn_cons,hf];unfold kY
  split
  ·rename_i hk
   obtain⟨c,hc⟩:=h y xh (by simpa using hk)
   have e:cellOf env y.1=pure c:=by unfold cellOf;rw[hc]
   rw[e,hc];exact ih _
  ·exact ih _
def YT{scope:Scope}{env:Env}(h:∀y∈scope.names,y.2=.free->∃c,env.cells.lookup y.1=some c):closureFor scope env=pure (kY env scope.names []):=by
 have e:=WW (env:=env) (λx cs=>match x with |(name,kind)=>if (kind == NameKind.free)=true then(do let c <- cellOf env name;pure (.yield ((name,c)::cs))) else pure (.yield cs)) (λy acc=>rfl) scope.names [] h
 have e2:closureFor scope env=((forIn scope.names [] (λx cs=>match x with |(name,kind)=>if (kind == NameKind.free)=true then(do let c <- cellOf env name;pure (ForInStep.yield ((name,c)::cs))) else pure (ForInStep.yield cs)):Sem (List (Str × Addr))) >>= λcs=>pure cs):=rfl
 rw[e2,e];rfl
def Yu{env:Env}{x:Str}:∀(l:List (Str × NameKind)),
  (l.map λ(n, k) => if (k == NameKind.free && env.scope.kind == .function && env.kindOf n == some .cell) then (n, NameKind.cell) else (n, k)).lookup x =
   (l.lookup x).map λk=>if (k == NameKind.free&&env.scope.kind == .function&&env.kindOf x == some .cell) then NameKind.cell else k
 |[]=>rfl
 | (n, k) :: r => by
  have ih:=@Yu env x r;rw[zJ]
  by_cases e:x=n
  ·subst e;dsimp only
   split
   ·rename_i h;rw[al_List_lookup_cons_self,al_List_lookup_cons_self,Option.map_some,if_pos h]
   ·rename_i h;rw[al_List_lookup_cons_self,al_List_lookup_cons_self,Option.map_some,if_neg h]
  ·have e' : (x == n) = false := by simpa using e
   dsimp only
   split
   ·rw[xB,e',xB,e'];exact ih
   ·rw[xB,e',xB,e'];exact ih
def QN:∀(l:List (Str × NameKind)) (h:Heap) (acc:List (Str × Addr)) (x:Str) (c:Addr),(cellsFrom h.objs.size l acc).lookup x=some c ->
  ((pushCells h l).IsCell c none/\h.objs.size<=c/\(x,NameKind.cell)∈l)\/acc.lookup x=some c
 |[],_,_,_,_,e=>.inr e
 | (n, k) :: r, h, acc, x, c, e => by
  unfold cellsFrom at e;unfold pushCells
  split at e
  ·rename_i hk
   have hk':k=.cell:=by simpa using hk
   rw[if_pos hk];have hz:(h.push { cls:=.type "cell",data:=.cell none }).objs.size=h.objs.size+1:=xU ..;rw[<- hz] at e
   rcases QN r (h.push { cls:=.type "cell",data:=.cell none }) _ x c e with ⟨a,b,d⟩ |q
   ·exact .inl ⟨a,by rw[hz] at b;lia,zm _ d⟩
   ·rw [xB] at q
    cases hb:x == n with
    |false=>rw[hb] at q;exact .inr q
    |true=>
     rw[hb] at q
     have e1:h.objs.size=c:=by simpa using q
     have e2:x=n:=by simpa using hb
     subst e1 e2
     refine .inl ⟨?_,zo _,by rw[hk'];exact xh⟩
     exact⟨_,pushCells_keeps _ _ _ _ (zq _ rfl),rfl⟩
  ·rename_i hk;rw[if_neg hk]
   rcases QN r h acc x c e with ⟨a,b,d⟩ |q
   ·exact .inl ⟨a,b,zm _ d⟩
   ·exact .inr q
def QL:∀(l:List (Str × NameKind)) (n:Nat) (acc:List (Str × Addr)),(∀x y c,acc.lookup x=some c->acc.lookup y=some c->x=y)->(∀x c,acc.lookup x=some c->c<n) ->
  ∀x y c,(cellsFrom n l acc).lookup x=some c->(cellsFrom n l acc).lookup y=some c->x=y
 |[],_,_,hi,_,x,y,c,e,e'=>hi x y c e e'
 | (m, k) :: r, n, acc, hi, hl, x, y, c, e, e' => by
  unfold cellsFrom at e e'
  have one:∀z d,((m,n)::acc).lookup z=some d->(z=m/\d=n)\/acc.lookup z=some d:=λz d q=>by
   rw[xB] at q
   cases hb:z == m with
   |true=>rw[hb] at q;exact .inl ⟨by simpa using hb,by simpa using q.symm⟩
   |false=>rw[hb] at q;exact .inr q
  split at e
  ·rename_i hk;rw[if_pos hk] at e';refine QL r (n+1) ((m,n)::acc) (λa b d q q'=>?_) (λa d q=>?_) x y c e e'
   ·rcases one a d q with ⟨a1, a2⟩ | a1 <;> rcases one b d q' with ⟨b1, b2⟩ | b1
    ·rw[a1,b1]
    ·exact absurd (hl b d b1) (by rw[a2];exact xm _)
    ·exact absurd (hl a d a1) (by rw[b2];exact xm _)
    ·exact hi a b d a1 b1
   ·rcases one a d q with ⟨_, a2⟩ | a1
    ·rw[a2];exact Nat.lt_succ_self _
    ·exact xR (hl a d a1)
  ·rename_i hk;rw[if_neg hk] at e';exact QL r n acc hi hl x y c e e'
theorem qK{x:Str}:∀(l:List (Str × NameKind)) (n:Nat) (acc:List (Str × Addr)),(∃c,acc.lookup x=some c)->∃c,(cellsFrom n l acc).lookup x=some c
 |[],_,_,h=>h
 | (m, k) :: r, n, acc, h => by
  unfold cellsFrom
  split
  ·refine qK r _ _ ?_;rw[xB]
   cases hb:x == m with
   |true=>exact⟨_,rfl⟩
   |false=>exact h
  ·exact qK r _ _ h
theorem QM{x:Str}:∀(l:List (Str × NameKind)) (n:Nat) (acc:List (Str × Addr)),(x,NameKind.cell)∈l->∃c,(cellsFrom n l acc).lookup x=some c
 |[],_,_,h=>by simp at h
 | (m, k) :: r, n, acc, h => by
  unfold cellsFrom
  rcases zi.mp h with e |h
  ·cases e;exact qK r _ _ ⟨_,al_List_lookup_cons_self⟩
  ·split
   ·exact QM r _ _ h
   ·exact QM r _ _ h
theorem zE4{x:Str}:∀(l:List (Str × NameKind)) (n:Nat) (acc:List (Str × Addr)) (lo:Nat),lo<=n->((x,NameKind.cell)∈l\/∀c,acc.lookup x=some c->lo<=c)->∀c,(cellsFrom n l acc).lookup x=some c->lo<=c
  | [], n, acc, lo, hn, h, c, e => by
    rcases h with h |h
    · simp at h
    · exact h c e
  | (m, k) :: r, n, acc, lo, hn, h, c, e => by
    unfold cellsFrom at e
    split at e
    · rename_i hk
      refine zE4 r (n+1) ((m,n)::acc) lo w5 ?_ c e
      rcases h with h |h
      · rcases zi.mp h with z | z
        · cases z
          refine .inr λd q=>?_;rw[al_List_lookup_cons_self] at q
          have:n=d:=by simpa using q
          lia
        · exact .inl z
      · refine .inr λd q => ?_
        rw[xB] at q
        cases hb:x == m with
        | true => rw [hb] at q; have : n = d := by simpa using q;
                  lia
        |false=>rw[hb] at q;exact h d q
    · rename_i hk
      refine zE4 r n acc lo hn ?_ c e
      rcases h with h |h
      · rcases zi.mp h with z | z
        · cases z;exact absurd rfl hk
        · exact .inl z
      · exact .inr h
section
variable {M:Model}{A:Around}{E:Value->Shared->Prop}{s:Shared}
def Ze{scope:Scope}{env:Env}{cl:List (Str × Addr)}{Q:Env->Shared->Prop}
  (h : Q (newEnv scope s.heap.objs.size env.globals (cellsFrom (s.heap.objs.size + 1) scope.names cl) env.qual none .none (some env) builtinsNs)
   { s with heap:=pushCells (s.heap.push { cls:=.type "dict",data:=.dict #[] }) scope.names }) :
  wpAny M A (newFunctionEnv scope env.globals cl [] env.qual none .none (some env)) Q E s:=by
 simp only[newFunctionEnv,Option.isSome_some,if_true];refine zb (wpAny_alloc ?_);refine zb (wpAny_layCells _ (λname kind cells=>?_) _ _ _ _ ?_)
 ·cases hkc:kind == NameKind.cell<;>simp[hkc]
 ·rw[List.forIn_nil];refine zb (zf (zf ?_));have hz:({ s with heap:=s.heap.push { cls:=.type "dict",data:=.dict #[] } }:Shared).heap.objs.size=s.heap.objs.size+1:=xU ..;rw[hz];exact h
end
abbrev zs6(ifs:List Expr)(env:Env):Sem Bool:=forIn ifs true λc r=>if r=true then do let ok <- isTrue c env (eval c env);pure (ForInStep.yield ok) else pure (ForInStep.yield r)
section
variable {prog:Program}{w:World}{A:Around}{R:Result->Shared->Prop}{s:Shared}
def zs1{elt target iter:Expr}{ifs:List Expr}{scope:Scope}{pos:Pos}{it acc:Value}{env:Env}(J:Nat->Shared->Prop)
  (turn : ∀ n s, J n s -> wpAny (model prog w) A (pyNext it) (λr s1 => match r with
   |none=>R (.ok .next) s1
   | some v => wpAny (model prog w) A (letOwnedTupleGo target it v) (λ_ s2 => wpAny (model prog w) A (assign target env v) (λ_ s3 => wpAny (model prog w) A (zs6 ifs env) (λok s4 =>
     if ok=true then wpAny (model prog w) A (eval elt env) (λx s5=>wpAny (model prog w) A (call (.builtin "list.append") [acc,x]) (λ_ s6=>∃m,m<n/\J m s6) (λ_ _=>False) s5) (λ_ _=>False) s4
     else ∃m,m<n/\J m s4) (λ_ _=>False) s3) (λ_ _=>False) s2) (λ_ _=>False) s1) (λ_ _=>False) s)
  (n:Nat) (h:J n s):codeAny (model prog w) A (.compLoop (.ListComp elt [⟨target,iter,ifs,0⟩] scope pos) 0 it acc env) R s:=by
 refine codeAny_loop rfl J (λn s hJ=>?_) n h
 show wpAny _ A ((compTurn (.ListComp elt [⟨target,iter,ifs,0⟩] scope pos) 0 it acc env).onRaise (λx=>do noteFrame x env;theTreesLotGoes x)) _ _ s
 refine wpAny_noted ?_;rw[compTurn_list]
 have up:∀{α:Type}{t:Sem α}{Q Q':α->Shared->Prop}{E:Value->Shared->Prop}{s:Shared},wpAny (model prog w) A t Q (λ_ _=>False) s->(∀a s,Q a s->Q' a s)->wpAny (model prog w) A t Q' E s:=
  λh f=>wE h f λ_ _ z=>False.elim z
 refine zb (wpAny_standAt (zb (up (turn n s hJ) λr s1 h1=>?_)))
 cases r with
 |none=>exact zf h1
 |some v=>
  refine zb (up h1 λ_ s2 h2=>?_);refine zb (up h2 λ_ s3 h3=>?_);refine zb (up h3 λok s4 h4=>?_)
  cases ok with
  |false=>exact zf ⟨rfl,h4⟩
  |true=>exact zb (zb (up h4 λx s5 h5=>zb (up h5 λ_ s6 h6=>zf (zf ⟨rfl,h6⟩))))
end
def WQ(b:Bool):String:=if b then "list_iterator" else "tuple_iterator"
def SeqIs(b:Bool)(h:Heap)(l:Addr)(xs:Array Value):Prop:=match b with |true=>h.IsList l xs |false=>h.IsTuple l xs
def IterIs(b:Bool)(h:Heap)(i l:Addr)(k:Nat):Prop:=match b with |true=>h.IsListIter i l k |false=>h.IsTupleIter i l k
def SeqIs.at{b:Bool}{h h':Heap}{l:Addr}{xs:Array Value}(x:SeqIs b h l xs)(hk:∀o,h.get? l=some o->h'.get? l=some o):SeqIs b h' l xs:=by
 cases b<;>(obtain⟨o,e,r⟩:=x;exact⟨o,hk o e,r⟩)
def IterIs.at{b:Bool}{h h':Heap}{i l:Addr}{k:Nat}(x:IterIs b h i l k)(hk:∀o,h.get? i=some o->h'.get? i=some o):IterIs b h' i l k:=by
 cases b<;>(obtain⟨o,e,r⟩:=x;exact⟨o,hk o e,r⟩)
def IterIs.obj{b:Bool}{h:Heap}{i l:Addr}{k:Nat}(x:IterIs b h i l k):∃o,h.get? i=some o/\o.cls=.type (WQ b)/\o.data=.fields #[.ref l,.int k 0]:=by
 cases b<;>exact x
def SeqIs.ne{b c:Bool}{h:Heap}{l i m:Addr}{k:Nat}{xs:Array Value}(x:SeqIs b h l xs)(y:IterIs c h i m k):l≠i:=by
 rintro rfl;obtain⟨o,e,hc,_⟩:=y.obj
 cases b<;>(obtain⟨o',e',hc',_⟩:=x;rw[e] at e';cases e';rw[hc] at hc';cases c<;>exact absurd (Value.type.inj hc') w6)
section
variable {prog:Program}{w:World}{A:Around}{E:Value->Shared->Prop}{s:Shared}
def WG{b:Bool}{l:Addr}{xs:Array Value}{Q:Value->Shared->Prop}(hl:SeqIs b s.heap l xs)
  (hQ:Q (.ref s.heap.objs.size) { s with heap:=s.heap.push { cls:=.type (WQ b),data:=.fields #[.ref l,.int 0 0] } }):wpAny (model prog w) A (pyIter (.ref l)) Q E s:=by
 cases b with
 |true=>exact yE hl hQ
 |false=>exact wpAny_pyIter_tuple hl hQ
def zb8{it l:Addr}{i:Nat}{items:Array Value}{x:Value}{Q:Value->Shared->Prop}(hit:s.heap.IsTupleIter it l i)(hl:s.heap.IsTuple l items)(hx:items[i]?=some x)
  (hQ:∀h',h'.IsTupleIter it l (i+1)->Heap.SameBut it s.heap h'->Q x { s with heap:=h' }):wpAny (model prog w) A (Builtin.SmallTypes.nextOf (.ref it)) Q E s:=by
 obtain⟨o,ho,hc,hd⟩:=id hit;obtain⟨ol,hol,_,nl,hdl⟩:=hl;unfold Builtin.SmallTypes.nextOf;refine zb (we (name:=Str.ofString "__next__") hit.typeIs F.slot_tuple_iterator_next (wS F.slot_tuple_iterator_next hit.typeIs F.entry_tuple_iterator_next ?_ (F.args_tuple_iterator_next_1 _)));show wpAny _ A.in1 (field (.ref it) 0 >>= _) _ _ s;refine zb (wV (x:=.ref l) ho hd rfl ?_)
 show wpAny _ A.in1 (if (Value.ref l == Value.none)=true then _ else _) _ _ s
 have nn:¬ ((Value.ref l == Value.none)=true):=zy;rw[if_neg nn];show wpAny _ A.in1 (field (.ref it) 1 >>= _) _ _ s;refine zb (wV (x:=.int i 0) ho hd rfl ?_);show wpAny _ A.in1 (seqItems? (.ref l) >>= _) _ _ s;refine zb (wx hol hdl ?_);simp only[hx,yH]
 refine zb (wpAny_setField ho hd (by simp) (zf ⟨x,rfl,zf (hQ _ ⟨_,xN _ ho (Obj.isFreed_of_fields (Obj.data_mapFields hd _)),(Obj.cls_mapFields ..).trans hc,?_⟩ (Heap.SameBut.update ..))⟩))
 rw[Obj.data_mapFields hd];simp[rawInt]
def Wm{it l:Addr}{i:Nat}{items:Array Value}{Q:Value->Shared->Prop}(hh:A.handled=none)(hit:s.heap.IsTupleIter it l i)(hl:s.heap.IsTuple l items)(hx:items[i]?=none)
  (hE:∀h' e,Heap.ExtBut it s.heap h'->(∃o,h'.get? e=some o/\o.cls=.type "StopIteration")->E (.ref e) { s with heap:=h' }):wpAny (model prog w) A (Builtin.SmallTypes.nextOf (.ref it)) Q E s:=by
 obtain⟨o,ho,hc,hd⟩:=id hit;obtain⟨ol,hol,_,nl,hdl⟩:=hl;unfold Builtin.SmallTypes.nextOf;refine zb (we (name:=Str.ofString "__next__") hit.typeIs F.slot_tuple_iterator_next (wS F.slot_tuple_iterator_next hit.typeIs F.entry_tuple_iterator_next ?_ (F.args_tuple_iterator_next_1 _)));show wpAny _ A.in1 (field (.ref it) 0 >>= _) _ _ s;refine zb (wV (x:=.ref l) ho hd rfl ?_)
 show wpAny _ A.in1 (if (Value.ref l == Value.none)=true then _ else _) _ _ s
 have nn:¬ ((Value.ref l == Value.none)=true):=zy;rw[if_neg nn];show wpAny _ A.in1 (field (.ref it) 1 >>= _) _ _ s;refine zb (wV (x:=.int i 0) ho hd rfl ?_);show wpAny _ A.in1 (seqItems? (.ref l) >>= _) _ _ s;refine zb (wx hol hdl ?_);simp only[hx,yH]
 refine zb (yT (zb (wpAny_setField ho hd (by simp) ?_)))
 show wpAny _ A.in1 (newExc (.type "StopIteration") [] >>= _) _ _ _;refine zb ?_;simp only[newExc,newTuple]
 refine zb (xZ ?_ (by size_fits))
 refine zb (m:=firstArgMember _ _) (wpAny_of_eq (a:=Value.none) (by simp only[firstArgMember];rfl) ?_)
 refine xZ ?_ (by size_fits)
 simp only[raiseNew];refine zb (wpAny_handled ?_);rw[show A.in1.handled=none from hh];refine zb (zf (wpAny_throw ?_));exact hE _ _ (((Heap.SameBut.update ..).extBut.push _).push _) ⟨_,zq _ rfl,rfl⟩
def ZY{b:Bool}{it l:Addr}{i:Nat}{items:Array Value}{x:Value}{Q:Value->Shared->Prop}(hit:IterIs b s.heap it l i)(hl:SeqIs b s.heap l items)(hx:items[i]?=some x)
  (hQ:∀h',IterIs b h' it l (i+1)->Heap.SameBut it s.heap h'->Q x { s with heap:=h' }):wpAny (model prog w) A (Builtin.SmallTypes.nextOf (.ref it)) Q E s:=by
 cases b with
 |true=>exact wpAny_nextOf_list_item hit hl hx hQ
 |false=>exact zb8 hit hl hx hQ
def jF{b:Bool}{it l:Addr}{i:Nat}{items:Array Value}{Q:Value->Shared->Prop}(hh:A.handled=none)(hit:IterIs b s.heap it l i)(hl:SeqIs b s.heap l items)(hx:items[i]?=none)
  (hE:∀h' e,Heap.ExtBut it s.heap h'->(∃o,h'.get? e=some o/\o.cls=.type "StopIteration")->E (.ref e) { s with heap:=h' }):wpAny (model prog w) A (Builtin.SmallTypes.nextOf (.ref it)) Q E s:=by
 cases b with
 |true=>exact wpAny_nextOf_list_end hh hit hl hx hE
 |false=>exact Wm hh hit hl hx hE
structure ZApart(z ti to i1 i2:Addr):Prop where
 a1:ti≠z
 a2:to≠z
 a3:i1≠z
 a4:i2≠z
 a5:ti≠to
 a6:ti≠i1
 a7:ti≠i2
 a8:to≠i1
 a9:to≠i2
 a10:i1≠i2
structure ZSt(b c:Bool)(z ti to i1 i2 l1 l2:Addr)(k:Nat)(h:Heap):Prop where
 z:IsZip h z ti to .none
 ti:IsPair h ti (.ref i1) (.ref i2)
 to:∃u v,IsPair h to u v
 i1:IterIs b h i1 l1 k
 i2:IterIs c h i2 l2 k
structure ZMid(b c:Bool)(z ti to i1 i2 l1 l2:Addr)(k:Nat)(T:Addr)(h:Heap):Prop where
 z:IsZip h z ti to (rawInt T)
 ti:IsPair h ti (.ref i1) (.ref i2)
 to:∃u v,IsPair h to u v
 i1:IterIs b h i1 l1 (k+1)
 i2:IterIs c h i2 l2 (k+1)
def ZSt.apartL{b c d:Bool}{z ti to i1 i2 l1 l2 l:Addr}{k:Nat}{h:Heap}{xs:Array Value}(x:ZSt b c z ti to i1 i2 l1 l2 k h)(hl:SeqIs d h l xs)(hto:l≠to):l≠z/\l≠i1/\l≠i2:=by
 refine⟨?_,hl.ne x.i1,hl.ne x.i2⟩;rintro rfl;have e:=x.z
 cases d<;>(obtain⟨o',e',hc',_⟩:=hl;rw[e] at e';cases e';exact absurd (Value.type.inj hc') w6)
def zu8{b c:Bool}{z ti to i1 i2 l1 l2:Addr}{k:Nat}{xs ys:Array Value}{x y:Value}{Q:Value->Shared->Prop}(D:ZApart z ti to i1 i2)(S:ZSt b c z ti to i1 i2 l1 l2 k s.heap)
  (hl1:SeqIs b s.heap l1 xs) (hl2:SeqIs c s.heap l2 ys) (n1:l1≠to) (n2:l2≠to) (hx:xs[k]?=some x) (hy:ys[k]?=some y)
  (hQ:∀h',ZMid b c z ti to i1 i2 l1 l2 k s.heap.objs.size h'->IsPair h' s.heap.objs.size x y->(∀d o,d≠z->d≠to->d≠i1->d≠i2->s.heap.get? d=some o->h'.get? d=some o)->Q (.ref s.heap.objs.size) { s with heap:=h' }) :
  wpAny (model prog w) A (Builtin.«zip.__next__» ⟨[.ref z],[]⟩) (λfin s'=>∃v,fin=.done (.ret v)/\Q v s') E s:=by
 obtain⟨m1,m2,m3⟩:=S.apartL hl1 n1;obtain⟨m4,m5,m6⟩:=S.apartL hl2 n2;obtain⟨hz,hTI,⟨u,v,hTO⟩,h1,h2⟩:=S;show wpAny _ A (field (.ref z) 2 >>= _) _ _ _;refine zb (wV (x:=.bool false) hz rfl rfl ?_);show wpAny _ A (field (.ref z) 3 >>= _) _ _ _;refine zb (wV (x:=.ref ti) hz rfl rfl ?_);refine zb (wx hTI rfl ?_);show wpAny _ A (Builtin.SmallTypes.ownedTupleIsFree (.ref z) >>= _) _ _ _;refine zb ?_;unfold Builtin.SmallTypes.ownedTupleIsFree;refine zb (wV (x:=.none) hz rfl rfl (zf ?_));simp only[if_true];refine zb (yT ?_);refine zb (wV (x:=.ref to) hz rfl rfl ?_)
 refine zb (yi hz (by simp) λg1 hz1 s1=>?_)
 replace hz1:IsZip g1 z ti to .ellipsis:=hz1
 refine zb ?_;simp only[forIn_cons,forIn_nil,zipIdx_cons,List.zipIdx_nil];refine zb (zb (wpAny_onRaise ?_));show wpAny _ A (Builtin.SmallTypes.nextOf (.ref i1) >>= _) _ _ _;refine zb (ZY (h1.at λo e=>s1.extBut _ _ D.a3 e) (hl1.at λo e=>s1.extBut _ _ m1 e) hx λg2 k1 s2=>zf ?_);have hTO2:IsPair g2 to u v:=s2.extBut _ _ D.a8 (s1.extBut _ _ D.a2 hTO);refine zb (wx hTO2 rfl ?_);refine zb (wpAny_updateSeq_pair hTO2 λg3 hTO3 s3=>?_)
 replace hTO3:IsPair g3 to x v:=hTO3
 refine zb (yq (zf ?_));refine zb (zb (wpAny_onRaise ?_));show wpAny _ A (Builtin.SmallTypes.nextOf (.ref i2) >>= _) _ _ _;refine zb (ZY (h2.at λo e=>s3.extBut _ _ D.a9.symm (s2.extBut _ _ D.a10.symm (s1.extBut _ _ D.a4 e))) (hl2.at λo e=>s3.extBut _ _ n2 (s2.extBut _ _ m5 (s1.extBut _ _ m4 e))) hy λg4 k2 s4=>zf ?_);have hTO4:IsPair g4 to x v:=s4.extBut _ _ D.a9 hTO3;refine zb (wx hTO4 rfl ?_);refine zb (wpAny_updateSeq_pair hTO4 λg5 hTO5 s5=>?_)
 replace hTO5:IsPair g5 to x y:=hTO5
 refine zb (yq (zf (zf ?_)));refine zb (wx hTO5 rfl ?_);refine zb (wpAny_newTuple ?_)
 have sz:g5.objs.size=s.heap.objs.size:=by rw[s5.1,s4.1,s3.1,s2.1,s1.1]
 have z5:IsZip g5 z ti to .ellipsis:=s5.extBut _ _ D.a2.symm (s4.extBut _ _ D.a4.symm (s3.extBut _ _ D.a2.symm (s2.extBut _ _ D.a3.symm hz1)));have kp:∀d o,d≠z->d≠to->d≠i1->d≠i2->s.heap.get? d=some o->g5.get? d=some o:=λd o d1 d2 d3 d4 e=>s5.extBut _ _ d2 (s4.extBut _ _ d4 (s3.extBut _ _ d2 (s2.extBut _ _ d3 (s1.extBut _ _ d1 e))));have j1:IterIs b g5 i1 l1 (k+1):=k1.at λo e=>s5.extBut _ _ D.a8.symm (s4.extBut _ _ D.a10 (s3.extBut _ _ D.a8.symm e));have j2:IterIs c g5 i2 l2 (k+1):=k2.at λo e=>s5.extBut _ _ D.a9.symm e;have zl:z<g5.objs.size:=zp z5;show wpAny _ A (Builtin.SmallTypes.ownedTupleHandOut (.ref z) (.ref g5.objs.size) >>= _) _ _ _;refine zb ?_;unfold Builtin.SmallTypes.ownedTupleHandOut;have z6:IsZip (g5.push { cls:=.type "tuple",data:=.seq #[x,y] }) z ti to .ellipsis:=ze _ z5
 refine zb (yi z6 (by simp) λg7 z7 s7=>?_)
 replace z7:IsZip g7 z ti to (rawInt g5.objs.size):=z7
 refine yi z7 (by simp) λg8 z8 s8=>?_
 replace z8:IsZip g8 z ti to (rawInt g5.objs.size):=z8
 have up:∀d o,d≠z->g5.get? d=some o->g8.get? d=some o:=λd o d1 e=>s8.extBut _ _ d1 (s7.extBut _ _ d1 (ze _ e));have T8:IsPair g8 g5.objs.size x y:=s8.extBut _ _ (xJ zl) (s7.extBut _ _ (xJ zl) (zq _ rfl));rw[sz] at z8 T8;refine zf ⟨_,rfl,?_⟩;show Q (.ref g5.objs.size) _;rw[sz];exact hQ g8 ⟨z8,up _ _ D.a1 (kp _ _ D.a1 D.a5 D.a6 D.a7 hTI),⟨_,_,up _ _ D.a2 hTO5⟩,j1.at λo e=>up _ o D.a3 e,j2.at λo e=>up _ o D.a4 e⟩ T8 λd o d1 d2 d3 d4 e=>up d o d1 (kp d o d1 d2 d3 d4 e)
def zu7{b c:Bool}{z ti to i1 i2 l1 l2:Addr}{k:Nat}{xs ys:Array Value}{Q:Fin->Shared->Prop}(hh:A.handled=none)(D:ZApart z ti to i1 i2)(S:ZSt b c z ti to i1 i2 l1 l2 k s.heap)
  (hl1:SeqIs b s.heap l1 xs) (hl2:SeqIs c s.heap l2 ys) (n1:l1≠to) (n2:l2≠to) (hend:xs[k]?=none\/ys[k]?=none)
  (hE:∀h' e,(∀d o,d≠z->d≠to->d≠i1->d≠i2->s.heap.get? d=some o->h'.get? d=some o)->(∃o,h'.get? e=some o/\o.cls=.type "StopIteration")->E (.ref e) { s with heap:=h' }) :
  wpAny (model prog w) A (Builtin.«zip.__next__» ⟨[.ref z],[]⟩) Q E s:=by
 obtain⟨m1,m2,m3⟩:=S.apartL hl1 n1;obtain⟨m4,m5,m6⟩:=S.apartL hl2 n2;obtain⟨hz,hTI,⟨u,v,hTO⟩,h1,h2⟩:=S;show wpAny _ A (field (.ref z) 2 >>= _) _ _ _;refine zb (wV (x:=.bool false) hz rfl rfl ?_);show wpAny _ A (field (.ref z) 3 >>= _) _ _ _;refine zb (wV (x:=.ref ti) hz rfl rfl ?_);refine zb (wx hTI rfl ?_);show wpAny _ A (Builtin.SmallTypes.ownedTupleIsFree (.ref z) >>= _) _ _ _;refine zb ?_;unfold Builtin.SmallTypes.ownedTupleIsFree;refine zb (wV (x:=.none) hz rfl rfl (zf ?_));simp only[if_true];refine zb (yT ?_);refine zb (wV (x:=.ref to) hz rfl rfl ?_)
 refine zb (yi hz (by simp) λg1 hz1 s1=>?_)
 replace hz1:IsZip g1 z ti to .ellipsis:=hz1
 refine zb ?_;simp only[forIn_cons,forIn_nil,zipIdx_cons,List.zipIdx_nil];refine zb (zb (wpAny_onRaise ?_));show wpAny _ A (Builtin.SmallTypes.nextOf (.ref i1) >>= _) _ _ _;have q1:IterIs b g1 i1 l1 k:=h1.at λo e=>s1.extBut _ _ D.a3 e;have q2:SeqIs b g1 l1 xs:=hl1.at λo e=>s1.extBut _ _ m1 e
 cases hx:xs[k]? with
 |none=>
  refine zb (jF hh q1 q2 hx λg2 e s2 he=>?_);obtain⟨oe,hoe,hce⟩:=he;have z2:IsZip g2 z ti to .ellipsis:=s2 _ _ D.a3.symm hz1
  have hez:e≠z:=λq=>by subst q;rw[z2] at hoe;cases hoe;exact absurd (Value.type.inj hce) w6
  exact yi z2 (by simp) λg3 _ s3=>hE g3 e (λd o d1 _ d3 _ q=>s3.extBut _ _ d1 (s2 _ _ d3 (s1.extBut _ _ d1 q))) ⟨oe,s3.extBut _ _ hez hoe,hce⟩
 | some x =>
  have hy:ys[k]?=none:=by
   rcases hend with h |h
   ·rw[hx] at h;cases h
   ·exact h
  refine zb (ZY q1 q2 hx λg2 k1 s2=>zf ?_);have hTO2:IsPair g2 to u v:=s2.extBut _ _ D.a8 (s1.extBut _ _ D.a2 hTO);refine zb (wx hTO2 rfl ?_);refine zb (wpAny_updateSeq_pair hTO2 λg3 hTO3 s3=>?_);refine zb (yq (zf ?_));refine zb (zb (wpAny_onRaise ?_));show wpAny _ A (Builtin.SmallTypes.nextOf (.ref i2) >>= _) _ _ _;refine zb (jF hh (h2.at λo e=>s3.extBut _ _ D.a9.symm (s2.extBut _ _ D.a10.symm (s1.extBut _ _ D.a4 e))) (hl2.at λo e=>s3.extBut _ _ n2 (s2.extBut _ _ m5 (s1.extBut _ _ m4 e))) hy λg4 e s4 he=>?_);obtain⟨oe,hoe,hce⟩:=he;have z4:IsZip g4 z ti to .ellipsis:=s4 _ _ D.a4.symm (s3.extBut _ _ D.a2.symm (s2.extBut _ _ D.a3.symm hz1))
  have hez:e≠z:=λq=>by subst q;rw[z4] at hoe;cases hoe;exact absurd (Value.type.inj hce) w6
  exact yi z4 (by simp) λg5 _ s5=>hE g5 e (λd o d1 d2 d3 d4 q=>s5.extBut _ _ d1 (s4 _ _ d4 (s3.extBut _ _ d2 (s2.extBut _ _ d3 (s1.extBut _ _ d1 q))))) ⟨oe,s5.extBut _ _ hez hoe,hce⟩
def zA9{b c:Bool}{z ti to i1 i2 l1 l2:Addr}{k:Nat}{xs ys:Array Value}{x y:Value}{Q:Option Value->Shared->Prop}(D:ZApart z ti to i1 i2)(S:ZSt b c z ti to i1 i2 l1 l2 k s.heap)
  (hl1:SeqIs b s.heap l1 xs) (hl2:SeqIs c s.heap l2 ys) (n1:l1≠to) (n2:l2≠to) (hx:xs[k]?=some x) (hy:ys[k]?=some y)
  (hQ:∀h',ZMid b c z ti to i1 i2 l1 l2 k s.heap.objs.size h'->IsPair h' s.heap.objs.size x y->(∀d o,d≠z->d≠to->d≠i1->d≠i2->s.heap.get? d=some o->h'.get? d=some o)->Q (some (.ref s.heap.objs.size)) { s with heap:=h' }) :
  wpAny (model prog w) A (pyNext (.ref z)) Q E s:=by
 have hT:s.TypeIs (.ref z) "zip" := ⟨_,S.z,rfl⟩;unfold pyNext
 exact zb (wpAny_attempt (we (name:=Str.ofString "__next__") hT F.slot_zip_next (wS F.slot_zip_next hT F.entry_zip_next
  (zu8 D S hl1 hl2 n1 n2 hx hy λh' a1 a2 a3=>zf (hQ h' a1 a2 a3)) (F.args_zip_next_1 _))))
def UO{b c:Bool}{z ti to i1 i2 l1 l2:Addr}{k:Nat}{xs ys:Array Value}{Q:Option Value->Shared->Prop}(hh:A.handled=none)(D:ZApart z ti to i1 i2)(S:ZSt b c z ti to i1 i2 l1 l2 k s.heap)
  (hl1:SeqIs b s.heap l1 xs) (hl2:SeqIs c s.heap l2 ys) (n1:l1≠to) (n2:l2≠to) (hend:xs[k]?=none\/ys[k]?=none)
  (hQ:∀h',(∀d o,d≠z->d≠to->d≠i1->d≠i2->s.heap.get? d=some o->h'.get? d=some o)->Q none { s with heap:=h' }):wpAny (model prog w) A (pyNext (.ref z)) Q E s:=by
 have hT:s.TypeIs (.ref z) "zip" := ⟨_,S.z,rfl⟩;unfold pyNext
 refine zb (wpAny_attempt (we (name:=Str.ofString "__next__") hT F.slot_zip_next (wS F.slot_zip_next hT F.entry_zip_next
  (zu7 hh D S hl1 hl2 n1 n2 hend λh' e hk he=>?_) (F.args_zip_next_1 _))))
 obtain⟨o,ho,hc⟩:=he;refine zb (wpAny_isInstance (T := "StopIteration") (b:=true) ⟨o,ho,hc⟩ isSubtype_stop (zf (hQ _ hk)))
def zh1(h:Heap)(b:Bool)(l:Addr):Heap:=h.push { cls:=.type (WQ b),data:=.fields #[.ref l,.int 0 0] }
def zh3(h:Heap)(b c:Bool)(l1 l2:Addr):Heap:=(zh1 (zh1 h b l1) c l2).push { cls:=.type "tuple",data:=.seq #[.ref h.objs.size,.ref (zh1 h b l1).objs.size] }
def zh4(h:Heap)(b c:Bool)(l1 l2:Addr):Heap:=(zh3 h b c l1 l2).push { cls:=.type "tuple",data:=.seq #[.none,.none] }
def zh5(h:Heap)(b c:Bool)(l1 l2:Addr):Heap:=(zh4 h b c l1 l2).push { cls:=.type "zip",data:=.fields #[.none,.bool false,.bool false,.ref (zh1 (zh1 h b l1) c l2).objs.size,.ref (zh3 h b c l1 l2).objs.size] }
end
def zm8(b c:Bool)(l1 l2:Addr)(xs ys:Array Value) :
  Meets (Builtin.«zip.__new__» ⟨[.type "zip",.ref l1,.ref l2],[]⟩) (λ_ R s=>SeqIs b s.heap l1 xs/\SeqIs c s.heap l2 ys /\
   R (.ok (.ret (.ref (zh4 s.heap b c l1 l2).objs.size))) { s with heap:=zh5 s.heap b c l1 l2 }):=
 .of_wp λprog w A R s h=>by
  obtain⟨hp,g,d,tk,os⟩:=s;obtain⟨hl1,hl2,h⟩:=h;have hsub:=sub_zip;have q1:SeqIs b (Shared.heap ⟨hp,g,d,tk,os⟩) l1 xs:=hl1;have q2:SeqIs c (Shared.heap ⟨hp.push { cls:=.type (WQ b),data:=.fields #[.ref l1,.int 0 0] },g,d,tk,os⟩) l2 ys:=hl2.at λo e=>ze _ e
  wp_walk using WG q1,WG q2
  exact⟨_,rfl,h⟩
section
variable {prog:Program}{w:World}{A:Around}{E:Value->Shared->Prop}{s:Shared}
def zE5{b c:Bool}{l1 l2:Addr}{xs ys:Array Value}{Q:Value->Shared->Prop}(hl1:SeqIs b s.heap l1 xs)(hl2:SeqIs c s.heap l2 ys)
  (h:∀h' z ti to i1 i2,ZApart z ti to i1 i2->ZSt b c z ti to i1 i2 l1 l2 0 h'->(∀d∈[z,ti,to,i1,i2],s.heap.objs.size<=d)->(∀d o,s.heap.get? d=some o->h'.get? d=some o)->Q (.ref z) { s with heap:=h' }) :
  wpAny (model prog w) A (call (.type "zip") [.ref l1,.ref l2]) Q E s:=by
 refine callType_new F.called_zip w6 (F.typeCall_zip_2 _ _) (F.newCall_zip_2 _ _) (λobj=>F.args_object_init_3 obj _ _) F.entry_zip_new (zm8 b c l1 l2 xs ys) ⟨hl1,hl2,?_⟩
 unfold zh5 zh4 zh3;generalize h1:zh1 s.heap b l1=g1;generalize h2:zh1 g1 c l2=g2
 have z1:g1.objs.size=s.heap.objs.size+1:=by rw[<- h1];exact xU ..
 have z2:g2.objs.size=s.heap.objs.size+2:=by rw[<- h2];exact(xU ..).trans (by rw[z1])
 generalize h3:g2.push { cls:=.type "tuple",data:=.seq #[.ref s.heap.objs.size,.ref g1.objs.size] }=g3
 have z3:g3.objs.size=s.heap.objs.size+3:=by rw[<- h3,xU,z2]
 generalize h4:g3.push { cls:=.type "tuple",data:=.seq #[.none,.none] }=g4
 have z4:g4.objs.size=s.heap.objs.size+4:=by rw[<- h4,xU,z3]
 have e1:g1.get? s.heap.objs.size=some { cls:=.type (WQ b),data:=.fields #[.ref l1,.int 0 0] }:=by rw[<- h1];exact zq _ rfl
 have e2:g2.get? g1.objs.size=some { cls:=.type (WQ c),data:=.fields #[.ref l2,.int 0 0] }:=by rw[<- h2];exact zq _ rfl
 have e3:g3.get? g2.objs.size=some { cls:=.type "tuple",data:=.seq #[.ref s.heap.objs.size,.ref g1.objs.size] }:=by rw[<- h3];exact zq _ rfl
 have e4:g4.get? g3.objs.size=some { cls:=.type "tuple",data:=.seq #[.none,.none] }:=by rw[<- h4];exact zq _ rfl
 have k1:∀d o,s.heap.get? d=some o->g1.get? d=some o:=λd o e=>by rw[<- h1];exact ze _ e
 have k2:∀d o,g1.get? d=some o->g2.get? d=some o:=λd o e=>by rw[<- h2];exact ze _ e
 have k3:∀d o,g2.get? d=some o->g3.get? d=some o:=λd o e=>by rw[<- h3];exact ze _ e
 have k4:∀d o,g3.get? d=some o->g4.get? d=some o:=λd o e=>by rw[<- h4];exact ze _ e
 show _/\_;refine⟨⟨_,zq _ rfl,rfl⟩,?_⟩;refine h _ g4.objs.size g2.objs.size g3.objs.size s.heap.objs.size g1.objs.size ⟨?_,?_,?_,?_,?_,?_,?_,?_,?_,?_⟩ ⟨zq _ rfl,ze _ (k4 _ _ e3),⟨_,_,ze _ e4⟩,?_,?_⟩ (λd hd=>?_) λd o e=>ze _ (k4 _ _ (k3 _ _ (k2 _ _ (k1 _ _ e))))
 ·rw[z2,z4];first |exact zA w5 |exact xJ w5
 ·rw[z3,z4];first |exact zA w5 |exact xJ w5
 ·rw[z4];first |exact zA w5 |exact xJ w5
 ·rw[z1,z4];first |exact zA w5 |exact xJ w5
 ·rw[z2,z3];first |exact zA w5 |exact xJ w5
 ·rw[z2];first |exact zA w5 |exact xJ w5
 ·rw[z2,z1];first |exact zA w5 |exact xJ w5
 ·rw[z3];first |exact zA w5 |exact xJ w5
 ·rw[z3,z1];first |exact zA w5 |exact xJ w5
 ·rw[z1];first |exact zA w5 |exact xJ w5
 ·cases b<;>exact⟨_,ze _ (k4 _ _ (k3 _ _ (k2 _ _ e1))),rfl,rfl⟩
 ·cases c<;>exact⟨_,ze _ (k4 _ _ (k3 _ _ e2)),rfl,rfl⟩
 ·simp only [zi, zZ, or_false] at hd
  rcases hd with rfl |rfl |rfl |rfl |rfl
  ·rw[z4];lia
  ·rw[z2];lia
  ·rw[z3];lia
  ·exact zo _
  ·rw[z1];lia
end
end L2
namespace L2
def Inv.track{X:Cx}{pins:List (Addr × Obj)}{σ:St}{H:Hp}{s:Shared}{a:Addr}{o:HO}(I:Inv X pins σ H s)(hn:H a=none)(hz:X.s₀.heap.objs.size<=a)(hL:a≠X.env.locals)
  (hc:∀x c,X.env.cells.lookup x=some c->c≠a) (hp:∀p∈X.pn++pins,p.1≠a) (new:ObjOk X.prog X.w (upd H a o) s.heap a o):Inv X pins σ (upd H a o) s:=by
 have nb:∀b u,H b=some u->b≠a:=λb u e=>yc e hn;refine⟨I.ok,I.os,I.bare,⟨I.base.keep,I.base.slot,λb u e n hx=>?_,I.base.there,λb xs e=>?_,λb u xs e=>?_,λb ps e=>?_⟩,I.loc,I.cell,?_,λx c e=>?_,λp hq=>?_,λb u e=>?_,I.len⟩
 ·rw[xV (zA (zQ (zp e) hz))];exact I.base.free b u e n hx
 ·have q:=I.base.tups b xs e;rw[xV (nb b _ q)];exact q
 ·have q:=I.base.frzs b u xs e;rw[xV (nb b _ q)];exact q
 ·obtain⟨m,q⟩:=I.base.tbls b ps e;exact⟨m,by rw[xV (nb b _ q)];exact q⟩
 ·rw[xV (Ne.symm hL)];exact I.free
 ·rw[xV (hc x c e)];exact I.freeC x c e
 ·obtain ⟨q1, q2, q3⟩ := I.pin p hq
  exact⟨q1,by rw[xV (hp p hq)];exact q2,q3⟩
 ·by_cases hb : b = a
  ·subst hb;rw[wZ] at e;cases e;exact new
  ·rw [xV hb] at e
   exact(I.hok b u e).stay (λ_ _ _ q=>q) (λc q=>by rw[xV (nb c _ q)];exact q) (λc xs q=>by rw[xV (nb c _ q)];exact q) λc o u q=>by rw[xV (nb c _ q)];exact q
structure CompOk(X:Cx)(scope:Scope)(M:List Str):Prop where
 kind:scope.kind=.function
 uniq:∀y∈scope.names,scope.names.lookup y.1=some y.2
 frees:∀y∈scope.names,y.2=.free->(X.env.kindOf y.1=some .cell\/X.env.kindOf y.1=some .free)
 shadow:∀x∈M,scope.names.lookup x≠some .local/\scope.names.lookup x≠some .cell
 same:∀(i:Nat) (x:Str),M[i]?=some x->scope.names.lookup x=some .free->X.N[i]?=some x
 mlen:M.length=X.N.length
def zs3(N M:List Str)(out sc:Scope):Bool:=
 (sc.kind == .function && sc.names.all (λy => sc.names.lookup y.1 == some y.2 && (y.2 != .free || (out.names.lookup y.1 == some .cell || out.names.lookup y.1 == some .free))) &&
  M.all (λx=>sc.names.lookup x != some .local&&sc.names.lookup x != some .cell))&&(M.length == N.length&&(M.zip N).all (λp=>sc.names.lookup p.1 != some .free||p.1 == p.2))
def vH{X:Cx}{sc:Scope}{M:List Str}(h:zs3 X.N M X.env.scope sc=true):CompOk X sc M:=by
 unfold zs3 at h;rw[zM,zM,zM,zM,wT,wT,wT] at h;obtain⟨⟨⟨h1,h2⟩,h3⟩,h4,h5⟩:=h
 have hl:M.length=X.N.length:=by simpa using h4
 refine⟨by simpa using h1,λy hy=>?_,λy hy hf=>?_,λx hx=>?_,λi x hi hf=>?_,hl⟩
 ·have := h2 y hy;rw[zM] at this
  simpa using this.1
 ·have := h2 y hy;rw[zM] at this;have q:=this.2;rw[hf] at q
  have q':(X.env.scope.names.lookup y.1 == some .cell||X.env.scope.names.lookup y.1 == some .free)=true:=by simpa using q
  rw[Bool.or_eq_true] at q'
  exact q'.imp (λz=>(show X.env.scope.names.lookup y.1=some .cell by simpa using z)) λz=>(show X.env.scope.names.lookup y.1=some .free by simpa using z)
 ·have := h3 x hx;rw[zM] at this
  exact⟨by simpa using this.1,by simpa using this.2⟩
 ·have hlt : i < X.N.length := by rw [<- hl]; exact (zn.mp hi).1
  have hn:X.N[i]?=some X.N[i]:=zd hlt
  have hz:(M.zip X.N)[i]?=some (x,X.N[i]):=by rw[List.getElem?_zip_eq_some];exact⟨hi,hn⟩
  have:=h5 _ (zP hz);rw[Bool.or_eq_true] at this
  rcases this with z |z
  ·rw[hf] at z;simp at z
  ·have e : x = X.N[i] := by simpa using z
   rw[hn,<- e]
def kg(X:Cx)(scope:Scope)(C:Addr):List (Str × Addr):=cellsFrom (C+1) scope.names (kY X.env scope.names [])
def wL(X:Cx)(scope:Scope)(own M:List Str)(C:Addr)(s2:Shared)(H2:Hp)(fp:List Addr):Cx where
 prog:=X.prog
 w:=X.w
 K:=X.K
 mg:=X.mg
 base:=X.base
 A:=X.A
 N:=own++M
 s₀:=s2
 H₀:=H2
 env:=compEnvC scope (kg X scope C) C X.env
 outer:=X.stack
 stack:=X.stack
 ex:=fp
 fn:=λx=>scope.names.lookup x == some .cell
 calm:=X.calm
 pn:=[]
 xe:=λ_ _=>False
def PTs(X:Cx)(ifs:List Expr)(t:TT):Prop:=
 ∀(pins:List (Addr × Obj)) (s:Shared) (σ:St) (H:Hp) (Q:Bool->Hp->Prop),Inv X pins σ H s->t σ H Q->wpAny (model X.prog X.w) X.A (zs6 ifs X.env) (TP X pins σ Q) X.xe s
def xJ5:TT:=λ_ H Q=>Q true H
def zM5{X:Cx}:PTs X [] xJ5:=λ_ _ _ H _ I h=>zf ⟨H,I,h⟩
def zM4{X:Cx}{c:Expr}{t:TT}(hc:PT X c t):PTs X [c] t:=by
 intro pins s σ H Q I h;show wpAny _ _ (forIn [c] true _) _ _ s;simp only[forIn_cons,forIn_nil,if_true];exact zb (zb (thn (hc pins s σ H Q I h) λb s' hb=>zf (zf hb)))
def zv6(wi:TI)(own:Nat)(g:TG)(tt:TT)(te:TE):TE:=λσ H Q=>wi σ H λJ H1=>∃W:Nat->Nat->List V->Hp->Prop,(∃m,W 0 m [] H1)/\∀i m acc H,W i m acc H ->
 (J.stop i H/\acc.length<=sizeLine/\∀D,H D=none->Q (.ref D) (upd H D (.lst acc))) \/
 (J.go i H /\ acc.length < sizeLine /\ ∀ x H', J.yld i H x H' -> g x (List.replicate own none ++ σ) H' λσ2 H2 => σ2.drop own = σ /\ tt σ2 H2 λc H3 =>
  if c=true then te σ2 H3 λv H4=>∃m',m'<m/\W (i+1) m' (acc++[v]) H4 else ∃m',m'<m/\W (i+1) m' acc H3)
section
variable {X:Cx}{scope:Scope}{own M:List Str}{pins:List (Addr × Obj)}{σ:St}{H2:Hp}{s2:Shared}{fp:List Addr}
def CompOk.cells(ok:CompOk X scope M)(I:Inv X pins σ H2 s2):∀y∈scope.names,y.2=.free->∃c,X.env.cells.lookup y.1=some c:=λy hy hf=>I.ok.has y.1 (ok.frees y hy hf)
def CompOk.kindIn(ok:CompOk X scope M){x:Str}{C:Addr}{k:NameKind}(h:(compEnvC scope (kg X scope C) C X.env).kindOf x=some k) :
  scope.names.lookup x=some k\/(k=.cell/\scope.names.lookup x=some .free):=by
 have h':(relabel scope X.env).names.lookup x=some k:=h;unfold relabel at h';rw[Yu] at h'
 cases e:scope.names.lookup x with
 |none=>rw[e] at h';simp at h'
 | some j =>
  rw[e,Option.map_some] at h';have h2:=zF h'
  split at h2
  ·rename_i hc
   have:j=.free:=by
    rw[zM,zM] at hc
    simpa using hc.1.1
   exact .inr ⟨h2.symm,by rw[this]⟩
  ·exact .inl (by rw[h2])
def CompOk.cellsFrom_old(ok:CompOk X scope M)(I:Inv X pins σ H2 s2){C:Addr}{x:Str}{c:Addr}(h:(kg X scope C).lookup x=some c)(hx:scope.names.lookup x≠some .cell):X.env.cells.lookup x=some c:=by
 have e0:∀(l:List (Str × NameKind)) (n:Nat) (acc:List (Str × Addr)),(x,NameKind.cell) ∉ l->(cellsFrom n l acc).lookup x=acc.lookup x:=by
  intro l
  induction l with
  |nil=>intro n acc _;rfl
  | cons y r ih =>
   intro n acc hy;obtain⟨m,k⟩:=y;unfold cellsFrom
   split
   ·rename_i hk
    have hk':k=.cell:=by simpa using hk
    rw[ih _ _ λz=>hy (zm _ z),xB]
    have:(x == m)=false:=by
     cases hb:x == m with
     |false=>rfl
     |true=>
      have e:x=m:=by simpa using hb
      exact absurd (by rw[hk',e];exact xh) hy
    rw[this]
   ·exact ih _ _ λz=>hy (zm _ z)
 unfold kg at h;rw[e0 _ _ _ λhm=>hx (ok.uniq _ hm)] at h
 exact vI scope.names [] (ok.cells I) (λ_ _ z=>by simp at z) x c h
def zC5(ok:CompOk X scope M)(hc:X.calm=true)(I:Inv X pins σ H2 s2)(hf:∀b∈fp,FpOk X pins H2 b/\b<s2.heap.objs.size){C:Addr}(hC:C=s2.heap.objs.size+1){h4:Heap}
  (hh:h4=pushCells ((s2.heap.push { cls:=.type "list",dict:=none,data:=.seq ([]:List Value).toArray }).push { cls:=.type "dict",data:=.dict #[] }) scope.names) :
  Inv (wL X scope own M C s2 H2 fp) [] (replicate own.length none++σ) H2 { s2 with heap:=h4 }:=by
 have zC:(s2.heap.push { cls:=.type "list",dict:=none,data:=.seq ([]:List Value).toArray }).objs.size=C:=by rw[xU,hC]
 have zC1:((s2.heap.push { cls:=.type "list",dict:=none,data:=.seq ([]:List Value).toArray }).push { cls:=.type "dict",data:=.dict #[] }).objs.size=C+1:=by rw[xU,zC]
 have keep:∀b o,s2.heap.get? b=some o->h4.get? b=some o:=λb o e=>by
  rw[hh];exact pushCells_keeps _ _ _ _ (ze _ (ze _ e))
 have cellOld:∀x c,X.env.cells.lookup x=some c->c<s2.heap.objs.size:=λx c e=>by obtain⟨v,q⟩:=I.cell x c e;exact q.lt
 have cellB:∀x c,(kg X scope C).lookup x=some c->(h4.IsCell c none/\C+1<=c/\scope.names.lookup x=some .cell)\/X.env.cells.lookup x=some c:=λx c e=>by
  by_cases hx:scope.names.lookup x=some .cell
  ·have e' := e;unfold kg at e';rw[<- zC1] at e'
   rcases QN _ _ _ x c e' with ⟨a,b,d⟩ |q
   ·exact .inl ⟨by rw[hh];exact a,by rw[zC1] at b;exact b,hx⟩
   ·exact .inr (vI scope.names [] (ok.cells I) (λ_ _ z=>by simp at z) x c q)
  ·exact .inr (ok.cellsFrom_old I e hx)
 have hNs:∃m,h4.Ns C m:=by
  have q:((s2.heap.push { cls:=.type "list",dict:=none,data:=.seq ([]:List Value).toArray }).push { cls:=.type "dict",data:=.dict #[] }).Ns C (λ_=>none):=by
   have:=Heap.Ns.new (s2.heap.push { cls:=.type "list",dict:=none,data:=.seq ([]:List Value).toArray }) (.type "dict");rw[zC] at this;exact this
  exact⟨_,q.keeps λb o e=>by rw[hh];exact pushCells_keeps _ _ _ _ e⟩
 have nfs:∀b∈fp,b ∉ frs X.stack:=λb hb hx=>by
  obtain⟨⟨_,f1,f2,_⟩,_⟩:=hf b hb
  rcases zi.mp (I.stkSub b hx) with e |e
  ·exact f1 e
  ·exact f2 e
 obtain⟨mC,hmC⟩:=hNs
 refine⟨⟨I.ok.mod,ok.kind,I.ok.glob,I.ok.blt,?_,?_,?_,?_,I.ok.hd,I.ok.frames,.inl rfl,?_,I.bs,?_,?_,nfs,I.stack,I.stkFree⟩,rfl,I.bare,Un.kept keep,⟨mC,hmC,?_⟩,?_,I.hok.fresh (by show s2.heap.objs.size<=C;rw[hC];exact xq _),?_,λp hp=>absurd (show p∈([]:List (Addr × Obj)) from hp) (by simp),I.hok.kept keep,?_⟩
 ·show s2.heap.objs.size<=C;rw[hC];exact xq _
 ·intro x y c h1 h2;refine QL scope.names (C+1) (kY X.env scope.names []) (λa b d p q=>?_) (λa d p=>?_) x y c h1 h2
  ·exact I.ok.inj a b d (vI scope.names [] (ok.cells I) (λ_ _ z=>by simp at z) a d p) (vI scope.names [] (ok.cells I) (λ_ _ z=>by simp at z) b d q)
  ·have := cellOld a d (vI scope.names [] (ok.cells I) (λ_ _ z => by simp at z) a d p)
   rw[hC];exact xR (xR this)
 ·intro x hx
  have go:∀k,(k=NameKind.cell\/k=NameKind.free)->(compEnvC scope (kg X scope C) C X.env).kindOf x=some k->∃c,(kg X scope C).lookup x=some c:=λk hk e=>by
   rcases ok.kindIn e with e |⟨_,e⟩
   ·rcases hk with rfl | rfl
    ·exact QM _ _ _ (PySem.mem_of_lookup e)
    ·exact qK _ _ _ (ku (y:=(x,.free)) rfl _ _ (PySem.mem_of_lookup e))
   ·exact qK _ _ _ (ku (y:=(x,.free)) rfl _ _ (PySem.mem_of_lookup e))
  rcases hx with e |e
  ·exact go _ (.inl rfl) e
  ·exact go _ (.inr rfl) e
 ·intro x c hx h
  have hx':scope.names.lookup x=some .cell:=by simpa [wL] using hx
  have:=zE4 (x:=x) scope.names (C+1) (kY X.env scope.names []) (C+1) (zo _) (.inl (PySem.mem_of_lookup hx')) c h;show s2.heap.objs.size<=c
  exact zB (by rw[hC];exact zB (xq _) (xq _)) this
 ·intro b hb;obtain⟨⟨_,_,_,_,f4,_⟩,f6⟩:=hf b hb;refine⟨?_,λx c h=>?_⟩
  ·show b≠C;rw[hC];exact zA (xR f6)
  ·rcases cellB x c h with ⟨_, q, _⟩ | q
   ·rw[hC] at q;exact xJ (zQ f6 (zB (zB (xq _) (xq _)) q))
   ·exact f4 x c q
 ·exact zB I.ok.bsz I.sz
 ·intro b o e hb;obtain⟨⟨_,_,_,f3,_⟩,_⟩:=hf b hb
  rcases f3 with z |z
  ·exact I.ok.noex b o e z
  ·exact absurd (zQ (zp (I.ok.bs b o e).1) z) (xm _)
 ·intro i x v h1 h2 h3;have h2':(replicate own.length (none:Option V)++σ)[i]?=some (some v):=h2
  have hi:own.length<=i:=by
   apply yh;intro hlt
   rw[xv (by simpa using hlt),xi] at h2'
   rw[if_pos hlt] at h2';cases h2'
  rw[xk (by simpa using hi),xu] at h2'
  have h1':(own++M)[i]?=some x:=h1;rw[xk hi] at h1';obtain⟨n1,n2⟩:=ok.shadow x (zP h1')
  have hfree:scope.names.lookup x=some .free/\((compEnvC scope (kg X scope C) C X.env).kindOf x=some .cell\/(compEnvC scope (kg X scope C) C X.env).kindOf x=some .free):=by
   rcases h3 with e |e |e
   ·rcases ok.kindIn (x := x) (C := C) e with q | ⟨q, _⟩
    ·exact absurd q n1
    ·cases q
   ·rcases ok.kindIn (x := x) (C := C) e with q | ⟨_, q⟩
    ·exact absurd q n2
    ·exact⟨q,.inl e⟩
   ·rcases ok.kindIn (x := x) (C := C) e with q | ⟨q, _⟩
    ·exact⟨q,.inr e⟩
    ·cases q
  obtain⟨hfr,hk⟩:=hfree;obtain⟨m,hn,hl⟩:=I.loc;have hkX:=ok.frees (x,.free) (PySem.mem_of_lookup hfr) rfl;have h1':=ok.same _ _ h1' hfr;obtain⟨u,ru,lk⟩:=hl (i-own.length) x v h1' h2' (hkX.elim (λz=>.inr (.inl z)) λz=>.inr (.inr z));refine⟨u,ru,.inr ⟨hk,?_⟩⟩
  rcases lk with ⟨k,_⟩ |⟨_,c,ec,ic⟩
  ·rcases hkX with z |z<;>(rw[k] at z;cases z)
  ·obtain ⟨c', e'⟩ : ∃ c', (kg X scope C).lookup x = some c' := qK _ _ _ (ku (y := (x, .free)) rfl _ _ (PySem.mem_of_lookup hfr));refine⟨c',e',?_⟩
   have:=ok.cellsFrom_old I e' (by rw[hfr];simp)
   have e2:some c=some c':=ec.symm.trans this;cases e2;exact ic.keeps keep
 ·intro x c h
  rcases cellB x c h with ⟨q,_⟩ |q
  ·exact⟨_,q⟩
  ·obtain⟨v,z⟩:=I.cell x c q;exact⟨v,z.keeps keep⟩
 ·intro x c h
  rcases cellB x c h with ⟨q,q2,_⟩ |q
  ·exact I.hok.fresh (by rw[hC] at q2;exact zB (zB (xq _) (xq _)) q2)
  ·exact I.freeC x c q
 ·show(List.replicate own.length (none:Option V)++σ).length=(own++M).length;rw[zI,zI,xu,I.len,ok.mlen]
end
section
variable {X:Cx}{scope:Scope}{own M:List Str}{pins:List (Addr × Obj)}{σ:St}{H2:Hp}{s2:Shared}{tg iter elt:Expr}{ifs:List Expr}{pos:Pos}{g:TG}{tt:TT}{te:TE}
def Ko(ok:CompOk X scope M)(hc:X.calm=true)(hg:∀C s2 H2 fp,PG (wL X scope own M C s2 H2 fp) tg g)(ht:∀C s2 H2 fp,PTs (wL X scope own M C s2 H2 fp) ifs tt)(he:∀C s2 H2 fp,PE (wL X scope own M C s2 H2 fp) elt te)
  (I2:Inv X pins σ H2 s2) {it:Addr}{fp:List Addr}{tn:Nat->Heap->Prop}{J:It} (T:Turn X.prog X.w X.K tg J fp it tn) (st2:tn 0 s2.heap) (f2:∀b∈fp,FpOk X pins H2 b)
  {W:Nat->Nat->List V->Hp->Prop} (w0:∃m,W 0 m [] H2) {Qf:V->Hp->Prop}
  (turn : ∀ i m acc H, W i m acc H -> (J.stop i H /\ acc.length <= sizeLine /\ ∀ D, H D = none -> Qf (.ref D) (upd H D (.lst acc))) \/
   (J.go i H /\ acc.length < sizeLine /\ ∀ x H', J.yld i H x H' -> g x (List.replicate own.length none ++ σ) H' λσ2 H2 => σ2.drop own.length = σ /\ tt σ2 H2 λc H3 =>
    if c=true then te σ2 H3 λv H4=>∃m',m'<m/\W (i+1) m' (acc++[v]) H4 else ∃m',m'<m/\W (i+1) m' acc H3))
  {RR:Value->Addr->Result->Shared->Prop}{E:Value->Shared->Prop}
  (fin:∀D C H' s' m,Inv X pins σ H' s'->Qf (.ref D) H'->s'.heap.Ns C m->H' C=none->C≠X.env.locals->X.s₀.heap.objs.size<=C->(∀x c,X.env.cells.lookup x=some c->c≠C)->(∀p∈X.pn++pins,p.1≠C)->RR (.ref D) C (.ok .next) s') :
  wpAny (model X.prog X.w) X.A (newList []) (λacc s3=>wpAny (model X.prog X.w) X.A (newFunctionEnv scope X.env.globals (kY X.env scope.names []) [] X.env.qual none .none (some X.env)) (λcenv s4=>
   codeAny (model X.prog X.w) X.A (.compStart (.ListComp elt [⟨tg,iter,ifs,0⟩] scope pos) 0 (.ref it) acc { cenv with scope:=relabel scope X.env }) (RR acc cenv.locals) s4) E s3) E s2:=by
 refine xZ (Ze ?_);have zC:(s2.heap.push { cls:=.type "list",dict:=none,data:=.seq ([]:List Value).toArray }).objs.size=s2.heap.objs.size+1:=xU ..;dsimp only;rw[zC];generalize hC:s2.heap.objs.size+1=C;generalize hh:pushCells ((s2.heap.push { cls:=.type "list",dict:=none,data:=.seq ([]:List Value).toArray }).push { cls:=.type "dict",data:=.dict #[] }) scope.names=h4
 have fpl:∀b∈fp,FpOk X pins H2 b/\b<s2.heap.objs.size:=λb hb=>by
  obtain⟨o,e,_⟩:=T.obj 0 _ st2 b hb;exact⟨f2 b hb,zp e⟩
 have I4:Inv (wL X scope own M C s2 H2 fp) [] (replicate own.length none++σ) H2 { s2 with heap:=h4 }:=zC5 ok hc I2 fpl hC.symm hh.symm;generalize hX:wL X scope own M C s2 H2 fp=X' at I4
 have keep4:∀b o,s2.heap.get? b=some o->h4.get? b=some o:=λb o e=>by
  rw[<- hh];exact pushCells_keeps _ _ _ _ (ze _ (ze _ e))
 have hD4:h4.get? s2.heap.objs.size=some { cls:=.type "list",dict:=none,data:=.seq ([]:List Value).toArray }:=by
  rw[<- hh];exact pushCells_keeps _ _ _ _ (ze _ (zq _ rfl))
 have st4:tn 0 h4:=T.keep _ _ _ st2 λb hb o e=>keep4 b o e
 have gg:PG X' tg g:=by rw[<- hX];exact hg C s2 H2 fp
 have gt:PTs X' ifs tt:=by rw[<- hX];exact ht C s2 H2 fp
 have ge:PE X' elt te:=by rw[<- hX];exact he C s2 H2 fp
 have xP:X'.prog=X.prog:=by rw[<- hX];rfl
 have xw:X'.w=X.w:=by rw[<- hX];rfl
 have xK:X'.K=X.K:=by rw[<- hX];rfl
 have xA:X'.A=X.A:=by rw[<- hX];rfl
 have xc:X'.calm=true:=by rw[<- hX];exact hc
 have xpn:X'.pn=[]:=by rw[<- hX];rfl
 have xs:X'.s₀=s2:=by rw[<- hX];rfl
 have xH:X'.H₀=H2:=by rw[<- hX];rfl
 have xL:X'.env.locals=C:=by rw[<- hX];rfl
 have xfs:X'.fs=frs X.stack:=by rw[<- hX];rfl
 have xex:X'.ex=fp:=by rw[<- hX];rfl
 have xe:X'.xe=λ_ _=>False:=by rw[<- hX];rfl
 have xenv:({ newEnv scope C X.env.globals (cellsFrom (C+1) scope.names (kY X.env scope.names [])) X.env.qual none .none (some X.env) builtinsNs with scope:=relabel scope X.env }:Env)=X'.env:=by rw[<- hX];rfl
 have Dlt:s2.heap.objs.size<C:=by rw[<- hC];exact Nat.lt_succ_self _
 have fpb:∀{pl:List (Addr × Obj)}{H:Hp},(∀b∈fp,H b=none)->(∀p∈pl,p.1 ∉ fp)->∀b∈fp,FpOk X' pl H b:=λ{pl H} hn hpl b hb=>by
  refine⟨hn b hb,?_,?_,.inl (by rw[xex];exact hb),λx c e=>(I4.ok.exf b (by rw[xex];exact hb)).2 x c e,λp hp z=>?_⟩
  ·exact(I4.ok.exf b (by rw[xex];exact hb)).1
  ·exact I4.ok.exfs b (by rw[xex];exact hb)
  ·rw [xpn, wg] at hp
   exact hpl p hp (by rw[z];exact hb)
 have Dfp:s2.heap.objs.size ∉ fp:=λz=>xm _ (fpl _ z).2;have DC:s2.heap.objs.size≠C:=zA Dlt
 have Dcell:∀x c,X'.env.cells.lookup x=some c->c≠s2.heap.objs.size:=λx c e z=>by
  obtain⟨v,o,q,hd⟩:=I4.cell x c e;rw[z] at q;have q':h4.get? s2.heap.objs.size=some o:=q;rw[hD4] at q';cases q';cases hd
 have Dfs:s2.heap.objs.size ∉ X'.fs:=λz=>by
  obtain⟨_,o,ho,_⟩:=I4.ok.funs.mem (by exact z)
  rw[xs] at ho;exact xm _ (zp ho)
 rw[xenv]
 have goal:∀s5:Shared,s5={ s2 with heap:=h4 }->codeAny (model X.prog X.w) X.A (.compLoop (.ListComp elt [⟨tg,iter,ifs,0⟩] scope pos) 0 (.ref it) (.ref s2.heap.objs.size) X'.env) (RR (.ref s2.heap.objs.size) C) s5:=by
  rintro s5 rfl;obtain⟨m0,w0⟩:=w0
  refine zs1 (λn s'=>∃i acc σ' H' its k,Inv X' [] σ' H' s'/\σ'.drop own.length=σ/\tn i s'.heap/\(∀b∈fp,H' b=none)/\H' s2.heap.objs.size=none /\
   s'.heap.get? s2.heap.objs.size=some { cls:=.type "list",data:=.seq (List.toArray its) k }/\Vals acc its/\W i n acc H') ?_ m0
   ⟨0,[],_,H2,[],0,I4,by simp,st4,λb hb=>(f2 b hb).1,I2.hok.fresh (zo _),hD4,.nil,w0⟩
  rintro n s3 ⟨i,acc,σ3,H3,its,k,I3,hσ,st3,fr3,hD,hDo,rv,w3⟩
  have pinD:∀{H:Hp}{s:Shared}{σ:St},Inv X' [] σ H s->H s2.heap.objs.size=none->s.heap.get? s2.heap.objs.size=some { cls:=.type "list",data:=.seq (List.toArray its) k } ->
    Inv X' [(s2.heap.objs.size,{ cls:=.type "list",data:=.seq (List.toArray its) k })] σ H s:=λ{H s σ} I hn ho=>I.pins_of λp hp=>by
   have e:p=(s2.heap.objs.size,{ cls:=.type "list",data:=.seq (List.toArray its) k }):=by simpa using hp
   subst e
   exact⟨ho,hn,by rw[xL];exact DC,Dfs,λv z=>by cases z⟩
  have plD:∀p∈[((s2.heap.objs.size,{ cls:=.type "list",data:=.seq (List.toArray its) k }):Addr × Obj)],p.1 ∉ fp:=λp hp=>by
   have e:p=(s2.heap.objs.size,{ cls:=.type "list",data:=.seq (List.toArray its) k }):=by simpa using hp
   subst e;exact Dfp
  have I3':=pinD I3 hD hDo
  rcases turn i n acc H3 w3 with ⟨stop,hsz,q⟩ |⟨go,hsz,step⟩
  ·have := T.done X' xP xw xK xc i _ s3 σ3 H3 (λ_ _ => False) I3' (fpb fr3 plD) st3 stop;rw[xA] at this;refine thn this λr s4 ⟨hr,I5⟩=>?_;subst hr
   have hDo5:=(I5.pin (s2.heap.objs.size,{ cls:=.type "list",data:=.seq (List.toArray its) k }) (by rw[xpn];simp)).1
   have un:Un (frs X.stack) fp H2 H3 s2.heap s4.heap:=by
    have:=I5.base;rw[xfs,xex,xH,xs] at this;exact this
   have os:s4.os=s2.os:=by rw[I5.os,xs]
   have hok:HOk X.prog X.w H3 s4.heap:=by have:=I5.hok;rw[xP,xw] at this;exact this
   have IX:Inv X pins σ H3 s4:=I2.call' os un hok I5.bare λb hb=>by
    obtain⟨_,f1,_,f3,f4,f5⟩:=f2 b hb;exact⟨f3,f1,f4,f5⟩
   have old:∀{b:Addr},s2.heap.objs.size<=b->(X.s₀.heap.objs.size<=b/\b≠X.env.locals/\(∀x c,X.env.cells.lookup x=some c->c≠b)/\∀p∈X.pn++pins,p.1≠b):=λ{b} hb=>by
    obtain⟨_,f1,_,f3,f4,f5⟩:=I2.fpOk (H':=λ_=>none) hb rfl;exact⟨zB I2.sz hb,f1,f4,f5⟩
   obtain⟨d1,d2,d3,d4⟩:=old (zo s2.heap.objs.size);obtain⟨c1,c2,c3,c4⟩:=old (b:=C) (yB Dlt);have IY:Inv X pins σ (upd H3 s2.heap.objs.size (.lst acc)) s4:=IX.track hD d1 d2 d3 d4 ⟨hsz,its,k,rv,hDo5⟩;obtain⟨m,hm,_⟩:=I5.loc;rw[xL] at hm
   have hCn:H3 C=none:=by have:=I5.free;rw[xL] at this;exact this
   exact fin _ C _ s4 m IY (q _ hD) hm (by rw[xV (Ne.symm DC)];exact hCn) c2 c1 c3 c4
  ·have := T.item X' xP xw xK xc i _ s3 σ3 H3 (λ_ _ => False) I3' (fpb fr3 plD) st3 go;rw[xA] at this;refine thn this λr s4 ⟨u,hr,h4⟩=>?_;subst hr;refine thn h4 λ_ s5 ⟨x,H5,I5,r5,y5,st5,fr5⟩=>?_
   have hσn:∀(j:Nat) v,(replicate own.length none++σ)[j]?=some (some v)->σ3[j]?=some (some v):=λj v e=>by
    by_cases hlt:j<own.length
    ·rw [xv (by simpa using hlt), xi, if_pos hlt] at e
     cases e
    ·have hle := yh hlt
     rw[xk (by simpa using hle),xu,<- hσ,yl] at e
     rw[show own.length+(j-own.length)=j by lia] at e
     exact e
   have hlen:(replicate own.length none++σ).length=σ3.length:=by
    have e1:σ3.length=X'.N.length:=I5.len;have e2:=I4.len;exact e2.trans e1.symm
   have I5w:Inv X' _ (replicate own.length none++σ) H5 s5:=I5.weak hlen hσn;have I5p:=I5w.pinned (fpb fr5 plD) (T.obj _ _ st5);have a1:=gg _ s5 _ H5 x u _ I5p r5 (step x H5 y5);rw[xP,xw,xA,xe] at a1;refine thn a1 λ_ s6 ⟨σ6,H6,I6,d6,q6⟩=>?_;have a2:=gt _ s6 σ6 H6 _ I6 q6;rw[xP,xw,xA,xe] at a2;refine thn a2 λb s7 ⟨H7,I7,q7⟩=>?_
   have pin7:∀{H:Hp}{s:Shared},Inv X' ([((s2.heap.objs.size,{ cls:=.type "list",data:=.seq (List.toArray its) k }):Addr × Obj)]++Xj fp s5.heap) σ6 H s ->
     (tn (i+1) s.heap/\(∀b∈fp,H b=none)/\H s2.heap.objs.size=none/\s.heap.get? s2.heap.objs.size=some { cls:=.type "list",data:=.seq (List.toArray its) k }/\Inv X' [] σ6 H s):=λ{H s} I=>by
    refine⟨T.keep _ _ _ st5 λb hb o e=>(I.pin (b,o) (zr _ (zr _ (vU hb e)))).1,λb hb=>?_,?_,?_,I.pins_of λp hp=>by simp at hp⟩
    ·obtain⟨o,e,d⟩:=T.obj _ _ st5 b hb;exact(I.pin (b,o) (zr _ (zr _ (vU hb e)))).2.1
    ·exact(I.pin (s2.heap.objs.size,{ cls:=.type "list",data:=.seq (List.toArray its) k }) (by rw[xpn];simp)).2.1
    ·exact(I.pin (s2.heap.objs.size,{ cls:=.type "list",data:=.seq (List.toArray its) k }) (by rw[xpn];simp)).1
   cases b with
   |false=>
    obtain⟨p1,p2,p3,p4,p5⟩:=pin7 I7;obtain⟨m',hm,w7⟩:=q7;exact⟨m',hm,i+1,acc,σ6,H7,its,k,p5,d6,p1,p2,p3,p4,rv,w7⟩
   |true=>
    rw[if_pos rfl] at q7 ⊢;have a3:=ge _ s7 σ6 H7 _ I7 q7;rw[xP,xw,xA,xe] at a3;refine thn a3 λy s8 ⟨v,H8,I8,r8,q8⟩=>?_;obtain⟨p1,p2,p3,p4,p5⟩:=pin7 I8;obtain⟨m',hm,w8⟩:=q8;have hl:=rv.length
    refine wpAny_list_append_plain (items:=List.toArray its) ⟨k,p4⟩ (λh' hpl hs=>?_) (by simp;lia)
    obtain⟨k',hpl⟩:=hpl
    have I9:Inv X' [] σ6 H8 { s8 with heap:=h' }:=p5.turned (t':=s8.toks) (λb o hb e=>hs.extBut b o hb e) p3 (by rw[xL];exact DC) (.inr (by rw[xs];exact zo _)) Dcell (λp hp=>by rw[xpn] at hp;simp at hp)
    refine⟨m',hm,i+1,acc++[v],σ6,H8,its++[y],k',I9,d6,T.keep _ _ _ p1 λb hb o e=>hs.extBut b o (λz=>Dfp (by rw[<- z];exact hb)) e,p2,p3,?_,rv.append (.cons r8 .nil),w8⟩
    rw[hpl];simp
 exact codeAny_compStart_list (goal _ rfl) (T.self _ 0 _ _ _ st4 (goal _ rfl))
def zN7{wi:TI}(ok:CompOk X scope M)(hc:X.calm=true)(hi:PI X tg iter wi)(hg:∀C s2 H2 fp,PG (wL X scope own M C s2 H2 fp) tg g)(ht:∀C s2 H2 fp,PTs (wL X scope own M C s2 H2 fp) ifs tt)
  (he:∀C s2 H2 fp,PE (wL X scope own M C s2 H2 fp) elt te) (hs:∀x,foldedSetIterable iter X.env x=pure x:=by intro _;rfl) :
  PE X (.ListComp elt [⟨tg,iter,ifs,0⟩] scope pos) (zv6 wi own.length g tt te):=by
 intro pins s σ H Q I h;rw[eval_ListComp]
 refine yz (use:=none) rfl hs (YT (ok.cells I)) ok.kind (λx hx hl=>by rw[ok.uniq x hx,hl]) ?_
 refine thn (hi pins s σ H _ I h) λv s1 h1=>thn h1 λitv s2 h2=>?_;obtain⟨it,fp,tn,J,H2,e,I2,T,st2,f2,W,w0,turn⟩:=h2;subst e;refine Ko (Qf:=Q) ok hc hg ht he I2 T st2 f2 w0 turn λD C H' s' m IY q hm hCn c2 c1 c3 c4=>⟨m,hm,λh' hs'=>?_⟩;exact⟨.ref D,H',IY.turned (t':=s'.toks) (λb o hb e=>hs'.extBut b o hb e) hCn c2 (.inr c1) c3 c4,rfl,q⟩
def za9{wi:TI}{i:Nat}{x:Str}{pos' spos:Pos}(hN:X.N.Nodup)(hix:X.N[i]?=some x)(hx:Loc X.env.scope x)(ok:CompOk X scope M)(hc:X.calm=true)(hi:PI X tg iter wi)(hg:∀C s2 H2 fp,PG (wL X scope own M C s2 H2 fp) tg g)
  (ht:∀C s2 H2 fp,PTs (wL X scope own M C s2 H2 fp) ifs tt) (he:∀C s2 H2 fp,PE (wL X scope own M C s2 H2 fp) elt te)
  (hsw:swapsWith (.ListComp elt [⟨tg,iter,ifs,0⟩] scope pos) (some (.Name x pos')) spos.line X.env=pure true:=by rfl) (hf:X.fn x=true\/X.env.scope.names.lookup x=some .local:=by first |exact .inl rfl |exact .inr rfl |assumption)
  (hs:∀x,foldedSetIterable iter X.env x=pure x:=by intro _;rfl):PS X (.Assign [.Name x pos'] (.ListComp elt [⟨tg,iter,ifs,0⟩] scope pos) spos) (xo9 (zv6 wi own.length g tt te) (zD1 i)):=by
 intro pins s σ H D I h;rw[exec_Assign_Name_used _ _ _ _ hsw];refine zb (wpAny_standAt (zb ?_))
 show wpAny _ _ (do let _ <- comprehension (.ListComp elt [⟨tg,iter,ifs,0⟩] scope pos) scope X.env _ (newList []) false (eval iter X.env) (some (assign (.Name x pos') X.env))) _ _ s
 refine zb (thn (yz (use:=some (assign (.Name x pos') X.env)) (Q:=λ_ s'=>SP X pins D .next s') rfl hs (YT (ok.cells I)) ok.kind (λx hx hl=>by rw[ok.uniq x hx,hl]) ?_)
  λ_ s' hq=>zf (zf hq))
 refine thn (hi pins s σ H _ I h) λv s1 h1=>thn h1 λitv s2 h2=>?_;obtain⟨it,fp,tn,J,H2,e,I2,T,st2,f2,W,w0,turn⟩:=h2;subst e;refine Ko (Qf:=λx H1=>zD1 i x σ H1 D.nx) ok hc hg ht he I2 T st2 f2 w0 turn λD' C H' s' m IY q hm hCn c2 c1 c3 c4=>?_;show wpAny _ _ (assign (.Name x pos') X.env (.ref D')) _ _ s';refine wpAny_assign_Name (Us IY hN hix hx (v:=.ref D') rfl (λs'' I'' ⟨a,hsb,ha⟩=>?_) hf)
 have hCa:C≠a:=by
  rcases ha with z |z
  ·rw[z];exact c2
  ·exact λe=>c3 x a z e.symm
 exact⟨m,hm.sameBut hsb hCa,λh' hs'=>⟨_,H',I''.turned (t':=s''.toks) (λb o hb e=>hs'.extBut b o hb e) hCn c2 (.inr c1) c3 c4,q⟩⟩
end
section
variable {X:Cx}{pins:List (Addr × Obj)}{σ:St}{H:Hp}{s:Shared}
def Inv.turnedL{t':Nat}{h':Heap}{ch:List Addr}(I:Inv X pins σ H s)(k:∀b o,b ∉ ch->s.heap.get? b=some o->h'.get? b=some o)(hf:∀b∈ch,FpOk X pins H b):Inv X pins σ H { s with heap:=h',toks:=t' }:=by
 have nit:∀b u,H b=some u->b ∉ ch:=λb u e z=>by rw[(hf b z).1] at e;cases e
 refine I.step (g':=s.gens) (d':=s.drawn) (ch:=ch) (λb hb=>?_) (λb o _ _ hc e _=>k b o hc e) (λb o _ _ hc e _=>⟨o.slots,k b o hc e⟩) (λ_ _ _ _ n=>n)
  (λb o hc e=>⟨o,k b o hc e⟩) (λ_ _ e=>e) (λ_ _ _ e=>e) (λb ps e=>⟨#[],by rw[e];simp⟩) (λm hm=>?_) (λb u e=>?_) I.bare
 ·obtain⟨_,f1,_,f3,f4,f5⟩:=hf b hb;exact⟨f3,f1,f4,f5⟩
 ·obtain⟨o,es,ep,ho,r⟩:=hm;exact⟨o,es,ep,k _ o (λz=>(hf _ z).2.1 rfl) ho,r⟩
 ·refine (I.hok b u e).stay (λc v hc q => k c v ?_ q) (λ_ q => q) (λ_ _ q => q) λ_ _ _ q => q
  rcases hc with z |z
  ·rw[z];exact nit b u e
  ·exact nit c _ z
def SqB(K:W.Frag)(b:Bool)(H:Hp)(a:Addr)(xs:List V):Prop:=match b with |true=>SqL K H a xs |false=>SqT K H a xs
def Inv.seqB{b:Bool}{a:Addr}{xs:List V}(I:Inv X pins σ H s)(h:SqB X.K b H a xs):∃its:List Value,Vals xs its/\SeqIs b s.heap a its.toArray:=by
 cases b with
 |true=>obtain⟨its,r,p,_⟩:=I.list h;exact⟨its,r,p.isList⟩
 |false=>obtain⟨its,r,p,_⟩:=I.tuple h;exact⟨its,r,p⟩
def Inv.seqB_inj{b:Bool}{a:Addr}{xs ys:List V}(I:Inv X pins σ H s)(h:SqB X.K b H a xs)(h':SqB X.K b H a ys):xs=ys:=by
 cases b with
 |true=>exact I.list_inj h h'
 |false=>exact I.tuple_inj h h'
def Inv.ne_fp{b:Bool}{a c:Addr}{xs:List V}(I:Inv X pins σ H s)(h:SqB X.K b H a xs)(hf:FpOk X pins H c):a≠c:=by
 have old:∀o,X.K.lookup a=some o->a≠c:=λo e z=>by
  have eb:=I.ok.mod.kin a o e;rw[z] at eb;obtain⟨_,_,_,f3,_⟩:=hf
  rcases f3 with q |q
  ·exact I.ok.noex c o eb q
  ·exact absurd (zQ (zp (I.ok.bs c o eb).1) q) (xm _)
 have trk:∀u,H a=some u->a≠c:=λu e=>yc e hf.1
 cases b with
 |true=>
  rcases h with (h |⟨o,h⟩) |⟨o,_,_,hk,_⟩
  ·exact trk _ h
  ·exact trk _ h
  ·exact old o hk
 |false=>
  rcases h with (h |⟨o,h⟩) |⟨o,_,_,hk,_⟩
  ·exact trk _ h
  ·exact trk _ h
  ·exact old o hk
def Itz(K:W.Frag)(b c:Bool)(l1 l2:Addr):It:=
  ⟨λi H=>∃xs ys x y,SqB K b H l1 xs/\SqB K c H l2 ys/\xs[i]?=some x/\ys[i]?=some y,
   λi H v H'=>∃T,H T=none/\v=.ref T/\∀xs ys,SqB K b H l1 xs->SqB K c H l2 ys->∃x y,xs[i]?=some x/\ys[i]?=some y/\H'=upd H T (.tup [x,y]),
   λi H=>∃xs ys,SqB K b H l1 xs/\SqB K c H l2 ys/\(xs.length<=i\/ys.length<=i)⟩
def newTup{T:Addr}{x y:V}{u v:Value}{s1:Shared}(I:Inv X pins σ H s)(I1:Inv X pins σ H s1)(hT:s.heap.objs.size<=T)(hn:H T=none)(ho:s1.heap.get? T=some { cls:=.type "tuple",data:=.seq #[u,v] })(rx:RelV x u)(ry:RelV y v) :
  Inv X pins σ (upd H T (.tup [x,y])) s1:=by
 obtain⟨_,f1,_,f3,f4,f5⟩:=I.fpOk (H':=H) hT hn
 exact I1.track hn (zB I.sz hT) f1 f4 f5 ⟨(by show 2<=sizeLine;decide),[u,v],.cons rx (.cons ry .nil),⟨_,ho,rfl,_,rfl⟩⟩
def zv2{P:Program}{w:World}{K:W.Frag}{es:List Expr}{kk:Nat}{ps:Pos}{b c:Bool}{z ti to i1 i2 l1 l2:Addr}(D:ZApart z ti to i1 i2) :
  Turn P w K (.Tuple es kk ps) (Itz K b c l1 l2) [z,ti,to,i1,i2] z (λi h=>ZSt b c z ti to i1 i2 l1 l2 i h) where
 mem:=by simp
 obj:=λi h st d hd=>by
  have nc:∀{o:Obj}{vs:Array Value},o.data=.fields vs->∀v,o.data≠.cell v:=λe v q=>by rw[e] at q;cases q
  simp only[zi,zZ,or_false] at hd
  rcases hd with rfl |rfl |rfl |rfl |rfl
  ·exact⟨_,st.z,λv q=>by cases q⟩
  ·exact⟨_,st.ti,λv q=>by cases q⟩
  ·obtain ⟨u, v, e⟩ := st.to
   exact⟨_,e,λv q=>by cases q⟩
  ·obtain⟨o,e,_,hd⟩:=st.i1.obj;exact⟨o,e,nc hd⟩
  ·obtain⟨o,e,_,hd⟩:=st.i2.obj;exact⟨o,e,nc hd⟩
 keep:=λi h h' st k=>by
  obtain⟨u,v,e⟩:=st.to
  exact⟨k z (by simp) _ st.z,k ti (by simp) _ st.ti,⟨u,v,k to (by simp) _ e⟩,st.i1.at λo q=>k i1 (by simp) o q,st.i2.at λo q=>k i2 (by simp) o q⟩
 item:=by
  intro X hP hw hK hc i pins s σ H E I hf st hg;subst hP hw hK;obtain⟨xs,ys,x,y,q1,q2,hx,hy⟩:=hg;obtain⟨is1,r1,p1⟩:=I.seqB q1;obtain⟨is2,r2,p2⟩:=I.seqB q2;obtain⟨u,hu,ru⟩:=r1.get hx;obtain⟨v,hv,rv⟩:=r2.get hy
  have hfto:=hf to (by simp)
  refine zA9 D st p1 p2 (I.ne_fp q1 hfto) (I.ne_fp q2 hfto) (x:=u) (y:=v) (by simpa using hu) (by simpa using hv) λh' M hT kp=>?_
  have lt:∀{d:Addr},d∈[z,ti,to,i1,i2]->s.heap.objs.size≠d:=λ{d} hd e=>by
   obtain⟨o,q⟩:∃o,s.heap.get? d=some o:=by
    simp only[zi,zZ,or_false] at hd
    rcases hd with rfl |rfl |rfl |rfl |rfl
    ·exact⟨_,st.z⟩
    ·exact⟨_,st.ti⟩
    ·obtain⟨u,v,e⟩:=st.to;exact⟨_,e⟩
    ·obtain⟨o,e,_⟩:=st.i1.obj;exact⟨o,e⟩
    ·obtain⟨o,e,_⟩:=st.i2.obj;exact⟨o,e⟩
   have:=zp q;rw[<- e] at this;exact xm _ this
  refine⟨_,rfl,wpAny_letOwnedTupleGo_zip (s:={ s with heap:=h' }) M.z λh'' z' sb=>?_⟩
  have kp2:∀d o,d ∉ [z,ti,to,i1,i2]->s.heap.get? d=some o->h''.get? d=some o:=λd o hd e=>by
   simp only[zi,zZ,or_false,not_or] at hd;exact sb.extBut _ _ hd.1 (kp d o hd.1 hd.2.2.1 hd.2.2.2.1 hd.2.2.2.2 e)
  have I1:Inv X pins σ H { s with heap:=h'' }:=I.turnedL (t':=s.toks) kp2 hf;have hn:H s.heap.objs.size=none:=I.hok.fresh (zo _)
  have I2:Inv X pins σ (upd H s.heap.objs.size (.tup [x,y])) { s with heap:=h'' }:=newTup I I1 (zo _) hn (sb.extBut _ _ (lt (by simp)) hT) ru rv
  obtain⟨u',v',eto⟩:=M.to
  refine⟨.ref s.heap.objs.size,_,I2,rfl,⟨_,hn,rfl,λxs' ys' e1 e2=>⟨x,y,by rw[I.seqB_inj e1 q1];exact hx,by rw[I.seqB_inj e2 q2];exact hy,rfl⟩⟩,?_,λd hd=>?_⟩
  ·exact⟨z',sb.extBut _ _ D.a1 M.ti,⟨u',v',sb.extBut _ _ D.a2 eto⟩,M.i1.at λo e=>sb.extBut _ _ D.a3 e,M.i2.at λo e=>sb.extBut _ _ D.a4 e⟩
  ·rw[xV (Ne.symm (lt hd))];exact(hf d hd).1
 done:=by
  intro X hP hw hK hc i pins s σ H E I hf st hg;subst hP hw hK;obtain⟨xs,ys,q1,q2,hx⟩:=hg;obtain⟨is1,r1,p1⟩:=I.seqB q1;obtain⟨is2,r2,p2⟩:=I.seqB q2
  have hfto:=hf to (by simp)
  have e1:=r1.length;have e2:=r2.length
  refine UO (I.ok.hd hc) D st p1 p2 (I.ne_fp q1 hfto) (I.ne_fp q2 hfto) (hx.imp (λz=>by simp;lia) λz=>by simp;lia) λh' kp=>⟨rfl,I.turnedL (t':=s.toks) (λd o hd e=>?_) hf⟩
  simp only[zi,zZ,or_false,not_or] at hd;exact kp d o hd.1 hd.2.2.1 hd.2.2.2.1 hd.2.2.2.2 e
 self:=λ_ _ _ _ _ st h=>wpAny_pyIter_zip st.z h
def xP2(K:W.Frag)(ta:TA):TI:=λσ H R=>ta σ H λvs H1=>∃b c l1 l2 xs ys,vs=[.ref l1,.ref l2]/\SqB K b H1 l1 xs/\SqB K c H1 l2 ys/\R (Itz K b c l1 l2) H1
def xb0{es:List Expr}{kk:Nat}{ps:Pos}{a b:Expr}{ta:TA}{p pos:Pos}(hg:Gl X "zip")(hm:X.mg "zip" = none)(ha:PA X [a,b] ta)(hs:starEach [a,b] X.env=[(false,eval a X.env),(false,eval b X.env)]:=by rfl)(hs2:starEach [b] X.env=[(false,eval b X.env)]:=by rfl) :
  PI X (.Tuple es kk ps) (.Call (.Name "zip" p) [a,b] [] pos) (xP2 X.K ta):=by
 intro pins s σ H R I h
 refine Call_ (UZ I hg hm boot_zip (PyProof.Rows.callWith_type1 (thn (ha pos pins s σ H _ I h) λus s1 ⟨vs,H1,I1,r1,q1⟩=>?_) (by rw[hs,hs2]) (by rw[hs2];rfl)))
 obtain⟨bb,cc,l1,l2,xs,ys,e,q1,q2,q⟩:=q1;subst e
 cases r1 with
 | cons r rr =>
  cases rr with
  |cons r' rr=>
   cases rr;cases r;cases r';obtain⟨is1,r1,p1⟩:=I1.seqB q1;obtain⟨is2,r2,p2⟩:=I1.seqB q2;refine zE5 p1 p2 λh' z ti to i1 i2 D S new kp=>wpAny_pyIter_zip S.z ?_;exact⟨z,[z,ti,to,i1,i2],_,_,H1,rfl,I1.kept (t':=s1.toks) kp,zv2 D,S,λd hd=>I1.fpOk (new d hd) (I1.hok.fresh (new d hd)),q⟩
def Vals.bools{us:List Value}:∀{bs:List Bool},Vals (bs.map V.bl) us->us=bs.map Value.bool:=by
 induction us with
 |nil=>intro bs h;cases bs with |nil=>rfl |cons=>cases h
 | cons u us ih =>
  intro bs h
  cases bs with
  |nil=>cases h
  | cons b bs =>
   cases h with
   |cons r t=>
    have e:u=Value.bool b:=r;rw[e,ih t];rfl
def zL4(bs:List Bool):((List.range bs.length).any λi=>(bs[i]?).getD false)=bs.any id:=by
 rw[wj,yN,yN]
 constructor
 ·rintro⟨i,hi,h⟩;have hi':=yj.mp hi;rw[zd hi'] at h;exact⟨_,wl hi',h⟩
 ·rintro ⟨b, hb, h⟩;obtain⟨i,hi,e⟩:=List.mem_iff_getElem.mp hb
  exact⟨i,yj.mpr hi,by rw[zd hi,e];exact h⟩
def Qr{h h':Heap}{o:Obj}(hk:∀b x,b ∉ [h.objs.size]->(h.push o).get? b=some x->h'.get? b=some x):∀b x,h.get? b=some x->h'.get? b=some x:=
 λb x e=>hk b x (λz=>absurd (zp e) (by rw[zG.mp z];exact xm _)) (ze _ e)
def QQ(hc:X.calm=true):qo X (.builtin "any") (λxs H Q=>∃(p:Addr) (bs:List Bool),xs=[.ref p]/\SqL X.K H p (bs.map V.bl)/\Q (.bl (bs.any id)) H):=by
 intro pins s σ H xs us Q I r h;obtain⟨p,bs,rfl,hq,q⟩:=h
 cases r with
 | cons r rr =>
  cases rr;cases r;obtain⟨its,rv,pl,_⟩:=I.list hq;have ei:=Vals.bools rv;subst ei;have hl:=pl.isList
  have hlt:p<s.heap.objs.size:=by obtain⟨_,e,_⟩:=hl;exact zp e
  refine call_any_walk (yE hl ⟨s.heap.objs.size,[s.heap.objs.size,p],[s.heap.objs.size],(bs.map Value.bool).toArray.size,_,_,λi=>(bs[i]?).getD false,rfl,
   Walks.list (A:=X.A.in1) (I.ok.hd hc) _ p (zA hlt) _,⟨⟨_,zq _ rfl,rfl,rfl⟩,hl.push _⟩,λi v s' Q' E' hP hQ=>?_,λh' tk hk=>?_⟩)
  ·have hP' : (bs.map Value.bool)[i]? = some v := by simpa using hP
   rw[zt] at hP'
   cases e:bs[i]? with
   |none=>rw[e] at hP';cases hP'
   |some b=>
    rw[e] at hP';have hQ':Q' ((bs[i]?).getD false) s':=hQ;rw[e] at hQ';cases hP';exact xY hQ'
  ·refine⟨.bl (bs.any id),H,I.kept (Qr hk),?_,q⟩;show Value.bool _=Value.bool _;rw[zw,zg,zL4]
def Wk:fillsNumberSlot (.type "tuple") "mul" = pure false:=
 PySem.fillsNumberSlot_seq (id := "tuple.__mul__") (r:=some (.builtin "tuple.__rmul__")) F.slot_tuple_mul.lookup x6 F.slot_tuple_rmul.lookup x6
def zL5:seqRepeat? (.type "tuple")=pure (some (.builtin "tuple.__mul__")):=by
 unfold seqRepeat?
 rw[PySem.seqSlot_of (T := "tuple") (name := "__mul__") (id := "tuple.__mul__") F.slot_tuple_mul.lookup x6,PySem.seqSlot_of (T := "tuple") (name := "__rmul__") (id := "tuple.__rmul__") F.slot_tuple_rmul.lookup x6]
 rfl
def zw5(a:Int)(t:Tok)(l:Addr)(o:Obj)(items:Array Value)(n:Nat) :
  Meets (Builtin.«int.__rmul__» ⟨[.int a t,.ref l],[]⟩) (λ_ R s=>s.heap.get? l=some o/\o.cls=.type "tuple" /\ o.data=.seq items n/\R (.ok (.ret Value.notImplemented)) s):=
 .of_wp λprog w A R s h=>by
  obtain⟨hp,g,d,tk,os⟩:=s;obtain⟨hl,hc,hd,h⟩:=h;obtain⟨c,dd,dt,sl⟩:=o
  replace hc:c=.type "tuple" := hc
  replace hd:dt=.seq items n:=hd
  subst hc hd
  wp_walk
  exact⟨_,rfl,h⟩
def zQ1(l:Addr)(o:Obj)(items:Array Value)(n:Nat)(k:Int)(t:Tok)(h1:¬ (decide (k < -(2^63))||decide (k>=2^63))=true)(he:items.isEmpty=false)(hk1:(k == 1)=false)(hk0:(decide (k<=0)||items.isEmpty)=false)
    (hcap:¬ (items.size:Int)*k > (2^63-1)/8) (htoo:¬ Builtin.Tuple.tupleTooMany ((items.size:Int)*k)=true) (hz:((replicate k.toNat items).foldl (·++·) #[]).size<=sizeLine) :
    Meets (Builtin.«tuple.__mul__» ⟨[.ref l,.int k t],[]⟩) (λ_ R s=>s.heap.get? l=some o/\o.cls=.type "tuple" /\ o.data=.seq items n /\
      R (.ok (.ret (.ref s.heap.objs.size))) { s with heap:=s.heap.push { cls:=.type "tuple",data:=.seq ((replicate k.toNat items).foldl (·++·) #[]) } }):=
  .of_wp λprog w A R s h=>by
    obtain⟨hp,g,d,tk,os⟩:=s;obtain⟨hl,hc,hd,h⟩:=h;obtain⟨c,dd,dt,sl⟩:=o
    replace hc:c=.type "tuple" := hc
    replace hd:dt=.seq items n:=hd
    subst hc hd
    wp_walk
    rw[if_neg h1]
    wp_walk
    rw[hk0,if_neg zy];dsimp only;rw[if_neg hcap,if_neg htoo];unfold Builtin.Tuple.tupleExact;refine zb (wpAny_newTuple ?_);exact zf ⟨_,rfl,h⟩
def zB2(l:Addr)(o:Obj)(items:Array Value)(n:Nat)(t:Tok) :
  Meets (Builtin.«tuple.__mul__» ⟨[.ref l,.int 1 t],[]⟩) (λ_ R s=>s.heap.get? l=some o/\o.cls=.type "tuple" /\ o.data=.seq items n/\R (.ok (.ret (.ref l))) s):=
 .of_wp λprog w A R s h=>by
  obtain⟨hp,g,d,tk,os⟩:=s;obtain⟨hl,hc,hd,h⟩:=h;obtain⟨c,dd,dt,sl⟩:=o
  replace hc:c=.type "tuple" := hc
  replace hd:dt=.seq items n:=hd
  subst hc hd
  wp_walk
  exact⟨_,rfl,h⟩
def zZ1(K:W.Frag):R2:=λx y H Q=>∃l k xs,x=.ref l/\y=.int k/\SqT K H l xs/\xs≠[]/\1<=k/\xs.length*k.toNat<=sizeLine /\
 (k=1->Q (.ref l) H)/\(k≠1->∀p,H p=none->Q (.ref p) (upd H p (.tup (replicate k.toNat xs).flatten)))
def zO4:OpR X (binaryOp .Mult) (zZ1 X.K):=by
 intro pins s σ H x y v u Q I rx ry h;obtain⟨l,k,xs,rfl,rfl,hq,hne,h1,hz,q1,q2⟩:=h;cases rx;obtain⟨t,rfl⟩:=ry;obtain⟨its,rv,⟨o,e,hc,n,hd⟩,_⟩:=I.tuple hq;have hlen:=rv.length
 have hpos:0<its.length:=by rw[<- hlen];exact List.length_pos_iff.mpr hne
 have tyT:s.TypeIs (.ref l) "tuple" := ⟨o,e,hc⟩
 refine wpAny_binaryOp_repeat_ref (T := "tuple") (U := "int") w6 tyT (λs'=>typeIs_int s' k t) Wk F.fills_int_mul F.slot_int_rmul zL5 F.slot_int_index.lookup
  (call_meets F.slot_int_rmul (typeIs_int s k t) F.entry_int_rmul (F.args_int_rmul_2 _ _) (zw5 k t l o its.toArray n) ⟨e,hc,hd,rfl,tyT,?_⟩)
 by_cases hk:k=1
 ·subst hk;exact call_meets F.slot_tuple_mul tyT F.entry_tuple_mul (F.args_tuple_mul_2 _ _) (zB2 l o its.toArray n t) ⟨e,hc,hd,⟨.ref l,H,I,rfl,q1 rfl⟩⟩
 ·have hk2 : (2 : Int) <= k := by lia
  have hnat:its.length*k.toNat<=sizeLine:=by rw[<- hlen];exact hz
  have hprod:((its.toArray.size:Nat):Int)*k=((its.length*k.toNat:Nat):Int):=by
   rw[zw,Int.natCast_mul,Int.toNat_of_nonneg w5]
  have hsl:(sizeLine:Int)=16777216:=w6
  have hb:((its.length*k.toNat:Nat):Int)<=16777216:=by rw[<- hsl];exact Int.ofNat_le.mpr hnat
  have hkle:k<=16777216:=by
   have:k.toNat<=its.length*k.toNat:=Nat.le_mul_of_pos_left _ hpos;lia
  have hnew:List.foldl (λx1 x2=>x1++x2) #[] (replicate k.toNat its.toArray)=(replicate k.toNat its).flatten.toArray:=by
   have:=Kf its k.toNat [];rw[wg] at this;exact this
  refine call_meets F.slot_tuple_mul tyT F.entry_tuple_mul (F.args_tuple_mul_2 _ _) (zQ1 l o its.toArray n k t ?_ ?_ ?_ ?_ ?_ ?_ ?_) ⟨e,hc,hd,?_⟩
  ·rw[Bool.or_eq_true,wJ,wJ];lia
  ·cases its with
   |nil=>simp at hpos
   |cons=>rfl
  ·simpa using hk
  ·rw [Bool.or_eq_false_iff]
   refine⟨zN w5,?_⟩
   cases its with
   |nil=>simp at hpos
   |cons=>rfl
  ·rw[hprod];lia
  ·unfold Builtin.Tuple.tupleTooMany;rw[hprod,wJ,hsl];lia
  ·rw[hnew,zw,zn2,Nat.mul_comm];exact hnat
  ·rw [hnew]
   refine⟨.ref _,_,I.laid (o:=.tup (replicate k.toNat xs).flatten) (t':=s.toks) (λ_ _ z=>ze _ z) (zo _) ⟨by rw[zn2,Nat.mul_comm];exact hz,_,rv.rep k.toNat,⟨_,zq _ rfl,rfl,_,rfl⟩⟩,rfl,q2 hk _ I.fresh⟩
end
section
variable (P:Program) (w:World)
end
section
variable {P:Program}{w:World}{H H':Hp}{h h':Heap}{a:Addr}{o:HO}
end
section
variable {P:Program}{w:World}{H:Hp}{h h':Heap}{x e:Addr}{o':HO}
end
section
variable {fs fs' ex ex':List Addr}{H H1 H2:Hp}{h h1 h2 h':Heap}{a x e:Addr}{o:HO}
end
section
variable {X:Cx}{pins:List (Addr × Obj)}{σ:List (Option V)}{H H':Hp}{s:Shared}{h':Heap}
end
section
variable {X:Cx}
variable {a b:Expr}{ta tb:TE}{pos:Pos}
variable {tA tB':TT}{rest:List Expr}
end
section
variable {X:Cx}{pins:List (Addr × Obj)}{σ:St}{H:Hp}{s:Shared}{a:Addr}{xs ys:List V}
end
section
variable {X:Cx}{pins:List (Addr × Obj)}{σ:St}{H:Hp}{s:Shared}{E:Value->Shared->Prop}
end
section
variable {X:Cx}{st:Stmt}{rest:List Stmt}{t u:TS}{e:Expr}{te:TE}{pos:Pos}
end
section
variable {X:Cx}{pos:Pos}
end
section
variable {X:Cx}{tg:Expr}
end
section
variable {X:Cx}{a b c:Expr}{ta tb tc:TE}{pos:Pos}
end
section
variable {prog:Program}{w:World}{A:Around}{E:Value->Shared->Prop}{s:Shared}{K:W.Frag}{x dx C f:Addr}{mA:Str->Option Value}{name:Str}{v:Value}
end
section
variable {P:Program}{w:World}{H H':Hp}{h h':Heap}{a C dx:Addr}{fs fs':List (Str × V)}
end
section
variable {X:Cx}{pins:List (Addr × Obj)}{σ:St}{H:Hp}{s:Shared}{a C dx:Addr}{fs:List (Str × V)}{f:Str}{v:V}{A:Around}{E:Value->Shared->Prop}
end
section
variable {X:Cx}{o e value:Expr}{f:Str}{pos pos' tpos:Pos}{ta tv:TE}
end
section
variable {X:Cx}{pins:List (Addr × Obj)}{σ:St}{H:Hp}{s:Shared}{A:Around}{E:Value->Shared->Prop}{Q:Value->Shared->Prop}{c:Value}{b:Bool}
end
section
variable {X:Cx}{e:Expr}{es:List Expr}{te:TE}{t:TA}{pos:Pos}
end
section
variable {X:Cx}{pins:List (Addr × Obj)}{σ:St}{H:Hp}{s s':Shared}
end
section
variable {X:Cx}{CX:CXT}{k:Nat}{f C:Addr}{fd:FuncData}{ps:List Str}{sp:Sp}{dvs:List V}{ds:List Value}{E:XK}{x m:Str}{p pos apos:Pos}{e o:Expr}{es:List Expr}{ta:TE}{t:TA}
end
section
variable {X:Cx}{CX:CXT}{k:Nat}{f C:Addr}{fd:FuncData}{ps ks:List Str}{sp:Sp}{E:XK}{x m:Str}{p pos apos kpos:Pos}{e o:Expr}{es:List Expr}{kws:List Keyword}{te ta:TE}{t tk:TA}{nm:Option Str}
variable {g:List Value->List Value->List Value}{gV:List V->List V->List V}
end
section
variable {X:Cx}{x:Str}{p pos:Pos}{e:Expr}{es:List Expr}{t:TA}{id T:String}{r:List V->Hp->VK->Prop}
end
section
variable {κ:Type} [DecidableEq κ]
def Yp(kvs:List (κ × V))(k:κ):Option V:=(kvs.find? λkv=>decide (kv.1=k)).map (·.2)
def za8(kvs:List (κ × V))(k:κ)(v:V):List (κ × V):=
 if (kvs.any λkv=>decide (kv.1=k))=true then kvs.map (λkv=>if kv.1=k then(kv.1,v) else kv) else kvs++[(k,v)]
def Wy(kvs:List (κ × V))(k:κ):List (κ × V):=kvs.filter λkv=>decide (kv.1≠k)
theorem YH{p:κ × V}{r:List (κ × V)}{k:κ}(e:p.1=k):Yp (p::r) k=some p.2:=by simp[Yp,wA,e]
theorem YI{p:κ × V}{r:List (κ × V)}{k:κ}(e:¬ p.1=k):Yp (p::r) k=Yp r k:=by simp[Yp,wA,e]
theorem JR(k:κ):∀kvs:List (κ × V),(kvs.any λkv=>decide (kv.1=k))=(Yp kvs k).isSome
 |[]=>rfl
 |p::r=>by
  rw[yI]
  by_cases e:p.1=k
  ·simp only[YH e,xo e,Bool.true_or,Option.isSome_some]
  ·rw[YI e,zN e,Bool.false_or];exact JR k r
theorem RelO.isSome_eq{o:Option V}{u:Option Value}(r:RelO o u):o.isSome=u.isSome:=by
 cases o with
 |none=>cases u with
  |none=>rfl
  |some _=>exact(show False from r).elim
 |some _=>cases u with
  |none=>exact(show False from r).elim
  |some _=>rfl
theorem KV.val{kvs:List (κ × V)}{vs:List (κ × Value)}(r:KV kvs vs)(k:κ):RelO (Yp kvs k) (valueAt vs k):=by
 unfold KV at r
 induction r with
 |nil=>exact True.intro
 | @cons p q ps qs h t ih =>
  obtain⟨h1,h2⟩:=h
  by_cases e:p.1=k
  ·have e' : q.1 = k := h1.symm.trans e
   have b:valueAt (q::qs) k=some q.2:=by simp[valueAt,wA,e']
   rw[YH e,b];exact h2
  ·have e' : ¬ q.1 = k := λz => e (h1.trans z)
   have b:valueAt (q::qs) k=valueAt qs k:=by simp[valueAt,wA,e']
   rw[YI e,b];exact ih
theorem KV.any{kvs:List (κ × V)}{vs:List (κ × Value)}(r:KV kvs vs)(k:κ):(kvs.any λkv=>decide (kv.1=k))=vs.any λkv=>decide (kv.1=k):=by
 unfold KV at r
 induction r with
 |nil=>rfl
 |cons h t ih=>rw[yI,yI,ih,h.1]
theorem KV.repl{kvs:List (κ × V)}{vs:List (κ × Value)}(r:KV kvs vs)(k:κ){y:V}{u:Value}(ry:RelV y u) :
  KV (kvs.map λkv=>if kv.1=k then(kv.1,y) else kv) (vs.map λkv=>if kv.1=k then(kv.1,u) else kv):=by
 unfold KV at r ⊢
 induction r with
 |nil=>exact .nil
 |@cons p q ps qs h t ih=>
  rw[zJ,zJ];refine .cons ?_ ih;obtain⟨h1,h2⟩:=h
  by_cases e:p.1=k
  ·rw[if_pos e,if_pos (h1.symm.trans e)];exact⟨h1,ry⟩
  ·rw[if_neg e,if_neg (λz=>e (h1.trans z))];exact⟨h1,h2⟩
theorem KV.put{kvs:List (κ × V)}{vs:List (κ × Value)}(r:KV kvs vs)(k:κ){y:V}{u:Value}(ry:RelV y u):KV (za8 kvs k y) (stored vs k u):=by
 unfold za8 stored;rw[r.any k]
 by_cases e:(vs.any λkv=>decide (kv.1=k))=true
 ·rw[if_pos e,if_pos e];exact r.repl k ry
 ·rw[if_neg e,if_neg e];exact Paired.snoc r ⟨rfl,ry⟩
theorem KV.length{kvs:List (κ × V)}{vs:List (κ × Value)}(r:KV kvs vs):kvs.length=vs.length:=Paired.length r
end
def zC4{P:Program}{w:World}{k:Key}{u:Value}(r:RelV (kV k) u):(yp P w).is k u=true:=by
 cases k with
 |inl i=>obtain⟨t,e⟩:=(show ∃t,u=Value.int i t from r);subst e;exact Jo P w i t
 |inr x=>obtain⟨t,e⟩:=(show ∃t,u=Value.str x t from r);subst e;exact Jn P w x t
theorem XH{P:Program}{w:World}:∀{ks:List Key}{us:List Value},Vals (ks.map kV) us->ItemsAre (yp P w) ks us
 |[],_,r=>by rw[map_nil] at r;cases r;exact .nil
 |k::ks,_,r=>by
  rw[zJ] at r
  cases r with
  |cons h t=>exact .cons (zC4 h) (XH t)
abbrev KT(H:Hp):List (List Key × V)->List (List Key × Addr × Value)->Prop:=Paired λp q=>p.1=q.1/\H q.2.1=some (.tup (p.1.map kV))/\RelV p.2 q.2.2
def KT.val{H:Hp}{kvs:List (List Key × V)}{xs:List (List Key × Addr × Value)}(r:KT H kvs xs)(k:List Key):RelO (Yp kvs k) ((atKey xs k).map (·.2)):=by
 induction r with
 |nil=>exact True.intro
 | @cons p q ps qs h t ih =>
  obtain⟨h1,_,h2⟩:=h
  by_cases e:p.1=k
  ·have e' : q.1 = k := h1.symm.trans e
   have b:atKey (q::qs) k=some q.2:=by simp[atKey,wA,e']
   rw[YH e,b];exact h2
  ·have e' : ¬ q.1 = k := λz => e (h1.trans z)
   have b:atKey (q::qs) k=atKey qs k:=by simp[atKey,wA,e']
   rw[YI e,b];exact ih
def KT.repl{H:Hp}{kvs:List (List Key × V)}{xs:List (List Key × Addr × Value)}(r:KT H kvs xs)(k:List Key){y:V}{u:Value}(ry:RelV y u) :
  KT H (kvs.map λkv=>if kv.1=k then(kv.1,y) else kv) (xs.map (putAt k u)):=by
 induction r with
 |nil=>exact .nil
 |@cons p q ps qs h t ih=>
  rw[zJ,zJ];refine .cons ?_ ih;obtain⟨h1,h2,h3⟩:=h;unfold putAt
  by_cases e:p.1=k
  ·rw[if_pos e,if_pos (h1.symm.trans e)];exact⟨h1,h2,ry⟩
  ·rw[if_neg e,if_neg (λz=>e (h1.trans z))];exact⟨h1,h2,h3⟩
def KT.put{H:Hp}{kvs:List (List Key × V)}{xs:List (List Key × Addr × Value)}(r:KT H kvs xs)(k:List Key){b:Addr}{y:V}{u:Value}(hb:H b=some (.tup (k.map kV)))(ry:RelV y u) :
  KT H (za8 kvs k y) (storedH xs k b u):=by
 have e:(kvs.any λkv=>decide (kv.1=k))=(atKey xs k).isSome:=by
  rw[JR,(r.val k).isSome_eq,Option.isSome_map]
 unfold za8 storedH;rw[e]
 by_cases q:(atKey xs k).isSome=true
 ·rw[if_pos q,if_pos q];exact r.repl k ry
 ·rw[if_neg q,if_neg q];exact Paired.snoc r ⟨rfl,hb,ry⟩
def KT.keeps{H H':Hp}{kvs:List (List Key × V)}{xs:List (List Key × Addr × Value)}(r:KT H kvs xs)(ht:∀b ys,H b=some (.tup ys)->H' b=some (.tup ys)):KT H' kvs xs:=
 Paired.mapP r λ_ _ z=>⟨z.1,ht _ _ z.2.1,z.2.2⟩
section
variable {P:Program}{w:World}{H:Hp}{h:Heap}{a:Addr}
def zX8{u:HO}(ok:HOk P w H h)(e:Rd H a u):ObjOk P w H h a u:=e.ok ok
def zD7{kvs:List (Key × V)}(ok:HOk P w H h)(e:Rd H a (.dK kvs)):kvs.length<=sizeLine/\(a == sysModules)=false/\∃vs,KV kvs vs/\h.DictOf (yp P w) a vs:=
 show ObjOk P w H h a (.dK kvs) from zX8 ok e
def Ka{ks:List Key}(ok:HOk P w H h)(e:H a=some (.tup (ks.map kV))):(tupleKind (yp P w)).is h ks a:=by
 obtain⟨_,its,r,o,h1,h2,n,h3⟩:=(show ObjOk P w H h a (.tup (ks.map kV)) from ok a _ e)
 exact⟨o,its.toArray,n,h1,h2,h3,by simpa using XH r⟩
def zq3{kvs:List (List Key × V)}(ok:HOk P w H h)(e:Rd H a (.dT kvs)):kvs.length<=sizeLine/\(a == sysModules)=false /\
  ∃xs,KT H kvs xs/\h.DictOfH (tupleKind (yp P w)) a xs:=by
 obtain⟨z,y,xs,r,o,es,ep,h1,h2,h3,h4,h5⟩:=(show ObjOk P w H h a (.dT kvs) from zX8 ok e);refine⟨z,y,xs,r,o,es,ep,h1,h2,h3,h4,λx hx=>?_,h5⟩
 have all:∀{l:List (List Key × V)}{m:List (List Key × Addr × Value)},KT H l m->∀x∈m,(tupleKind (yp P w)).is h x.1 x.2.1:=by
  intro l m q
  induction q with
  |nil=>intro x hx;exact nomatch hx
  | @cons p q ps qs hq t ih =>
   intro x hx
   rcases zi.mp hx with e |hx
   ·subst e
    exact Ka ok (by rw[<- hq.1];exact hq.2.1)
   ·exact ih x hx
 exact all r x hx
def zd3{kvs:List (List Key × V)}(ok:HOk P w H h)(e:H a=some (.dT kvs)):kvs.length<=sizeLine/\(a == sysModules)=false /\
  ∃xs,KT H kvs xs/\h.DictOfH (tupleKind (yp P w)) a xs:=zq3 ok (.inl e)
end
def DGet(H:Hp)(a:Addr)(y:V)(r:Option V):Prop:=
 (∃kvs k,Rd H a (.dK kvs)/\y=kV k/\r=Yp kvs k)\/∃kvs k b,Rd H a (.dT kvs)/\y=.ref b/\H b=some (.tup (k.map kV))/\r=Yp kvs k
def DGet.k{H:Hp}{a:Addr}{kvs:List (Key × V)}{k:Key}(e:H a=some (.dK kvs)):DGet H a (kV k) (Yp kvs k):=.inl ⟨kvs,k,.inl e,rfl,rfl⟩
section
variable {X:Cx}{pins:List (Addr × Obj)}{σ:St}{H:Hp}{s:Shared}{a:Addr}{y v:V}{u r:Value}{o:Option V}{A:Around}{E:Value->Shared->Prop}
def Inv.big(I:Inv X pins σ H s):sysModules<s.heap.objs.size:=by
 have h:mainGlobals<s.heap.objs.size:=(I.mod.glob.keeps I.bk).lt
 exact Nat.lt_trans w6 h
def zr0{Q:Value->Shared->Prop}(hu:A.units+1<cLine)(I:Inv X pins σ H s)(g:DGet H a y (some v))(ry:RelV y u)(h:∀w' s',Inv X pins σ H s'->RelV v w'->Q w' s') :
  wpAny (model X.prog X.w) A (getItem (.ref a) u) Q E s:=by
 rcases g with ⟨kvs,k,e,ey,l⟩ |⟨kvs,k,b,e,ey,eb,l⟩
 ·subst ey;obtain⟨z,hd,vs,rel,dd⟩:=zD7 I.hok e
  obtain⟨w',hw,rw'⟩:=RelO.some_of (v:=v) (o:=valueAt vs k) (by rw[l];exact rel.val k)
  exact wpAny_getItem_of (zC4 ry) dd.mapOf hw (h w' _ (I.tok _) rw')
 ·subst ey;cases(show u=Value.ref b from ry);obtain⟨z,hd,xs,rel,dd⟩:=zq3 I.hok e
  obtain⟨w',hw,rw'⟩:=RelO.some_of (v:=v) (o:=(atKey xs k).map (·.2)) (by rw[l];exact rel.val k)
  obtain⟨p,hp,hp2⟩:=Option.map_eq_some_iff.mp hw;refine wpAny_getItem_heap (tupleKind_room_in1 hu) (Ka I.hok eb) dd hp ?_;rw[hp2];exact h w' _ (I.tok _) rw'
def zS7{Q:Value->Shared->Prop}(hu:A.units+1<cLine)(I:Inv X pins σ H s)(g:DGet H a y o)(ry:RelV y u)(h:∀s',Inv X pins σ H s'->Q (.bool (!o.isSome)) s') :
  wpAny (model X.prog X.w) A (compareOp .NotIn u (.ref a)) Q E s:=by
 rcases g with ⟨kvs,k,e,ey,l⟩ |⟨kvs,k,b,e,ey,eb,l⟩
 ·subst ey;obtain⟨z,hd,vs,rel,dd⟩:=zD7 I.hok e;refine wpAny_notIn_of (zC4 ry) hd dd.mapOf ?_;rw[<- (rel.val k).isSome_eq,<- l];exact h _ (I.tok _)
 ·subst ey;cases(show u=Value.ref b from ry);obtain⟨z,hd,xs,rel,dd⟩:=zq3 I.hok e;refine wpAny_notIn_heap (tupleKind_room_in1 hu) (Ka I.hok eb) hd dd ?_;have q:=(rel.val k).isSome_eq;rw[Option.isSome_map] at q;rw[<- q,<- l];exact h _ (I.tok _)
def zq9{h':Heap}{t':Nat}{ob:HO}(I:Inv X pins σ H s)(mu:Mut (H a))(hs:Heap.SameBut a s.heap h')(he:∃q,h'.get? a=some q)(new:ObjOk X.prog X.w (upd H a ob) h' a ob) :
  Inv X pins σ (upd H a ob) { s with heap:=h',toks:=t' }:=
 I.write (x:=a) (e:=a) mu (.inl rfl) (λb q hb z=>(hs.2 b hb).trans z) he new
end
section
variable {X:Cx}{pins:List (Addr × Obj)}{σ:St}{H:Hp}{s:Shared}{a:Addr}{kvs:List (Key × V)}{k:Key}{u:Value}{A:Around}{E:Value->Shared->Prop}
end
def xi9(i:Expr):Prop:=∀ov iv,subscripted i false ov iv=operate [ov,iv] (getItem ov iv)
def zg6{prog:Program}{w:World}{A:Around}{E:Value->Shared->Prop}{s:Shared}{env:Env}{value slice:Expr}{pos:Pos}{T id:String}{Q:Value->Shared->Prop}
  (hl:typeLookup (.type T) "__getitem__" = pure (some (.builtin id))) (hs:xi9 slice)
  (h:wpAny (model prog w) A (eval value env) (λo s₁=>wpAny (model prog w) A (eval slice env) (λi s₂=>s₂.TypeIs o T/\wpAny (model prog w) A (getItem o i) Q E s₂) E s₁) E s) :
  wpAny (model prog w) A (eval (.Subscript value slice pos) env) Q E s:=by
 refine Subscript_ (wE h (λo s₁ h₁=>wE h₁ (λi s₂ h₂=>?_) λ_ _ x=>x) λ_ _ x=>x);obtain⟨hT,h₂⟩:=h₂;unfold subscriptTail;refine zb ?_;rw[getitemInPython_of_ne hT.not_modules];refine zb (wpAny_specialOf hT hl ?_)
 have fin:wpAny (model prog w) A (subscripted slice false o i) (λr s₃=>wpAny (model prog w) A (letTemporaryGo value o r >>= λ_=>pure r) Q E s₃) E s₂:=by
  rw[hs o i];exact wpAny_operating (wE h₂ (λr s₃ h₃=>zb (wpAny_letTemporaryGo (zf h₃))) λ_ _ x=>x)
 first
  |exact zf (zb fin)
  |exact zb (zf (zb fin))
  |exact zb fin
def Jw{X:Cx}{pins:List (Addr × Obj)}{σ:St}{H:Hp}{s:Shared}{a:Addr}{y:V}{o:Option V}(I:Inv X pins σ H s)(g:DGet H a y o):s.TypeIs (.ref a) "dict" := by
 rcases g with ⟨kvs,k,e,_,_⟩ |⟨kvs,k,b,e,_,_,_⟩
 ·obtain⟨_,_,vs,_,dd⟩:=zD7 I.hok e;exact dd.typeIs
 ·obtain⟨_,_,xs,_,dd⟩:=zq3 I.hok e;exact dd.typeIs
def xo6(td ty:TE):TE:=λσ H Q=>td σ H λx H1=>ty σ H1 λy H2=>∃a v,x=.ref a/\DGet H2 a y (some v)/\Q v H2
section
variable {X:Cx}{o i e value:Expr}{pos pos' tpos:Pos}{td ty tv:TE}
def zN5(hu:X.A.units+1<cLine)(ho:PE X o td)(hi:PE X i ty)(hs:xi9 i):PE X (.Subscript o i pos) (xo6 td ty):=by
 intro pins s σ H Q I h;refine zg6 PySem.F.slot_dict_getitem.lookup hs (thn (ho pins s σ H _ I h) λu s1 ⟨x,H1,I1,rx,q1⟩=>thn (hi pins s1 σ H1 _ I1 q1) λiv s2 ⟨y,H2,I2,ry,a,v,ex,g,q2⟩=>?_);subst ex;obtain rfl:u=Value.ref a:=rx;exact⟨Jw I2 g,zr0 hu I2 g ry λw' s3 I3 rw'=>⟨v,H2,I3,rw',q2⟩⟩
end
def VY{P:Program}{w:World}{H:Hp}(h:Heap)(hb:sysModules<h.objs.size):ObjOk P w H (h.push { cls:=.type "dict",data:=.dict #[] }) h.objs.size (.dK []):=
 ⟨wa _,beq_eq_false_iff_ne.mpr (Ne.symm (zA hb)),[],.nil,Heap.DictOf.new h⟩
section
variable {X:Cx}{pos:Pos}
end
structure M1(X:Cx)(o:Expr)(m:Str)(apos:Pos)(e:Expr)(cpos:Pos):Prop where
 base:attributeBase o m X.env (eval o X.env)=eval o X.env
 few:((backTo cpos (starEach [e] X.env)).all (λx=>!x.1)&&(backToKw cpos (keywordEach [] X.env)).all (λx=>x.1.isSome)
  && decide (([e]:List Expr).length+([]:List Keyword).length+(if ([]:List Keyword).isEmpty then 0 else 1)<30))=true
 line:(apos.endLine == cpos.line)=true
 trees:backTo cpos (starEach [e] X.env)=[(false,eval e X.env)]
def IsD(H:Hp)(a:Addr):Prop:=(∃kvs,Rd H a (.dK kvs))\/∃kvs,Rd H a (.dT kvs)
def zo4{X:Cx}{pins:List (Addr × Obj)}{σ:St}{H:Hp}{s:Shared}{a:Addr}(I:Inv X pins σ H s)(d:IsD H a) :
  s.TypeIs (.ref a) "dict" /\ (∀b,Value.ref a=.ref b->∃ob,s.heap.get? b=some ob/\ob.dict=none)/\(a == sysModules)=false:=by
 rcases d with ⟨kvs,e⟩ |⟨kvs,e⟩
 ·obtain⟨_,hd,vs,_,dd⟩:=zD7 I.hok e;refine⟨dd.typeIs,λb q=>?_,hd⟩;cases q;obtain⟨ob,_,_,h1,h2,_⟩:=dd;exact⟨ob,h1,h2.2.1⟩
 ·obtain⟨_,hd,xs,_,dd⟩:=zq3 I.hok e;refine⟨dd.typeIs,λb q=>?_,hd⟩;cases q;obtain⟨ob,_,_,h1,h2,_⟩:=dd;exact⟨ob,h1,h2.2.1⟩
section
variable {X:Cx}{pins:List (Addr × Obj)}{σ:St}{H:Hp}{s:Shared}{a:Addr}{y d:V}{u r:Value}{o:Option V}{A:Around}{E:Value->Shared->Prop}
end
section
variable {X:Cx}{o e f:Expr}{apos cpos:Pos}{td ty tx:TE}
end
section
variable {X:Cx}{pins:List (Addr × Obj)}{σ:St}{H:Hp}{s:Shared}{a:Addr}{kvs:List (Key × V)}{A:Around}{E:Value->Shared->Prop}
end
section
variable {X:Cx}{pins:List (Addr × Obj)}{σ:St}{H:Hp}{s:Shared}{a:Addr}{y:V}{u:Value}{A:Around}{E:Value->Shared->Prop}
end
end L2
namespace Att
open PySem PySem.W PySem.Calls PyProof.Rows
section
variable {prog:Program}{w:World}{A:Around}{E:Value->Shared->Prop}{s:Shared}{K:Frag}
end
end Att
namespace L2
section
variable {P:Program}{w:World}{K:W.Frag}{mg:Str->Option Value}{base:Heap}
end
section
variable {X:Cx}
end
section
variable {κ:Type} [DecidableEq κ]
end
section
variable {prog:Program}{w:World}{A:Around}{R:Result->Shared->Prop}{s:Shared}
def WV{kx vx target iter:Expr}{ifs:List Expr}{scope:Scope}{pos:Pos}{it:Value}{D:Addr}{env:Env}(J:Nat->Shared->Prop)
  (turn : ∀ n s, J n s -> wpAny (model prog w) A (pyNext it) (λr s1 => match r with
   |none=>R (.ok .next) s1
   | some v => wpAny (model prog w) A (letOwnedTupleGo target it v) (λ_ s2 => wpAny (model prog w) A (assign target env v) (λ_ s3 => wpAny (model prog w) A (zs6 ifs env) (λok s4 =>
     if ok=true then wpAny (model prog w) A (eval kx env) (λkv s5=>wpAny (model prog w) A (eval vx env) (λvv s6=>wpAny (model prog w) A (dictSet D kv vv) (λ_ s7=>∃m,m<n/\J m s7) (λ_ _=>False) s6) (λ_ _=>False) s5) (λ_ _=>False) s4
     else ∃m,m<n/\J m s4) (λ_ _=>False) s3) (λ_ _=>False) s2) (λ_ _=>False) s1) (λ_ _=>False) s)
  (n:Nat) (h:J n s):codeAny (model prog w) A (.compLoop (.DictComp kx vx [⟨target,iter,ifs,0⟩] scope pos) 0 it (.ref D) env) R s:=by
 refine codeAny_loop rfl J (λn s hJ=>?_) n h
 show wpAny _ A ((compTurn (.DictComp kx vx [⟨target,iter,ifs,0⟩] scope pos) 0 it (.ref D) env).onRaise (λx=>do noteFrame x env;theTreesLotGoes x)) _ _ s
 refine wpAny_noted ?_;rw[compTurn_dict]
 have up:∀{α:Type}{t:Sem α}{Q Q':α->Shared->Prop}{E:Value->Shared->Prop}{s:Shared},wpAny (model prog w) A t Q (λ_ _=>False) s->(∀a s,Q a s->Q' a s)->wpAny (model prog w) A t Q' E s:=
  λh f=>wE h f λ_ _ z=>False.elim z
 refine zb (wpAny_standAt (zb (up (turn n s hJ) λr s1 h1=>?_)))
 cases r with
 |none=>exact zf h1
 |some v=>
  refine zb (up h1 λ_ s2 h2=>?_);refine zb (up h2 λ_ s3 h3=>?_);refine zb (up h3 λok s4 h4=>?_)
  cases ok with
  |false=>exact zf ⟨rfl,h4⟩
  |true=>exact zb (zb (up h4 λkv s5 h5=>zb (xF (up h5 λvv s6 h6=>zb (wpAny_standAt (xF (up h6 λ_ s7 h7=>zf ⟨rfl,h7⟩)))))))
end
section
variable {X:Cx}{scope:Scope}{own M:List Str}{pins:List (Addr × Obj)}{σ:St}{H2:Hp}{s2:Shared}{fp:List Addr}
def Kc{o0:Obj}(ok:CompOk X scope M)(hc:X.calm=true)(I:Inv X pins σ H2 s2)(hf:∀b∈fp,FpOk X pins H2 b/\b<s2.heap.objs.size){C:Addr}(hC:C=s2.heap.objs.size+1){h4:Heap}
  (hh:h4=pushCells ((s2.heap.push o0).push { cls:=.type "dict",data:=.dict #[] }) scope.names) :
  Inv (wL X scope own M C s2 H2 fp) [] (replicate own.length none++σ) H2 { s2 with heap:=h4 }:=by
 have zC:(s2.heap.push o0).objs.size=C:=by rw[xU,hC]
 have zC1:((s2.heap.push o0).push { cls:=.type "dict",data:=.dict #[] }).objs.size=C+1:=by rw[xU,zC]
 have keep:∀b o,s2.heap.get? b=some o->h4.get? b=some o:=λb o e=>by
  rw[hh];exact pushCells_keeps _ _ _ _ (ze _ (ze _ e))
 have cellOld:∀x c,X.env.cells.lookup x=some c->c<s2.heap.objs.size:=λx c e=>by obtain⟨v,q⟩:=I.cell x c e;exact q.lt
 have cellB:∀x c,(kg X scope C).lookup x=some c->(h4.IsCell c none/\C+1<=c/\scope.names.lookup x=some .cell)\/X.env.cells.lookup x=some c:=λx c e=>by
  by_cases hx:scope.names.lookup x=some .cell
  ·have e' := e;unfold kg at e';rw[<- zC1] at e'
   rcases QN _ _ _ x c e' with ⟨a,b,d⟩ |q
   ·exact .inl ⟨by rw[hh];exact a,by rw[zC1] at b;exact b,hx⟩
   ·exact .inr (vI scope.names [] (ok.cells I) (λ_ _ z=>by simp at z) x c q)
  ·exact .inr (ok.cellsFrom_old I e hx)
 have hNs:∃m,h4.Ns C m:=by
  have q:((s2.heap.push o0).push { cls:=.type "dict",data:=.dict #[] }).Ns C (λ_=>none):=by
   have:=Heap.Ns.new (s2.heap.push o0) (.type "dict");rw[zC] at this;exact this
  exact⟨_,q.keeps λb o e=>by rw[hh];exact pushCells_keeps _ _ _ _ e⟩
 have nfs:∀b∈fp,b ∉ frs X.stack:=λb hb hx=>by
  obtain⟨⟨_,f1,f2,_⟩,_⟩:=hf b hb
  rcases zi.mp (I.stkSub b hx) with e |e
  ·exact f1 e
  ·exact f2 e
 obtain⟨mC,hmC⟩:=hNs
 refine⟨⟨I.ok.mod,ok.kind,I.ok.glob,I.ok.blt,?_,?_,?_,?_,I.ok.hd,I.ok.frames,.inl rfl,?_,I.bs,?_,?_,nfs,I.stack,I.stkFree⟩,rfl,I.bare,Un.kept keep,⟨mC,hmC,?_⟩,?_,I.hok.fresh (by show s2.heap.objs.size<=C;rw[hC];exact xq _),?_,λp hp=>absurd (show p∈([]:List (Addr × Obj)) from hp) (by simp),I.hok.kept keep,?_⟩
 ·show s2.heap.objs.size<=C;rw[hC];exact xq _
 ·intro x y c h1 h2;refine QL scope.names (C+1) (kY X.env scope.names []) (λa b d p q=>?_) (λa d p=>?_) x y c h1 h2
  ·exact I.ok.inj a b d (vI scope.names [] (ok.cells I) (λ_ _ z=>by simp at z) a d p) (vI scope.names [] (ok.cells I) (λ_ _ z=>by simp at z) b d q)
  ·have := cellOld a d (vI scope.names [] (ok.cells I) (λ_ _ z => by simp at z) a d p)
   rw[hC];exact xR (xR this)
 ·intro x hx
  have go:∀k,(k=NameKind.cell\/k=NameKind.free)->(compEnvC scope (kg X scope C) C X.env).kindOf x=some k->∃c,(kg X scope C).lookup x=some c:=λk hk e=>by
   rcases ok.kindIn e with e |⟨_,e⟩
   ·rcases hk with rfl | rfl
    ·exact QM _ _ _ (PySem.mem_of_lookup e)
    ·exact qK _ _ _ (ku (y:=(x,.free)) rfl _ _ (PySem.mem_of_lookup e))
   ·exact qK _ _ _ (ku (y:=(x,.free)) rfl _ _ (PySem.mem_of_lookup e))
  rcases hx with e |e
  ·exact go _ (.inl rfl) e
  ·exact go _ (.inr rfl) e
 ·intro x c hx h
  have hx':scope.names.lookup x=some .cell:=by simpa [wL] using hx
  have:=zE4 (x:=x) scope.names (C+1) (kY X.env scope.names []) (C+1) (zo _) (.inl (PySem.mem_of_lookup hx')) c h;show s2.heap.objs.size<=c
  exact zB (by rw[hC];exact zB (xq _) (xq _)) this
 ·intro b hb;obtain⟨⟨_,_,_,_,f4,_⟩,f6⟩:=hf b hb;refine⟨?_,λx c h=>?_⟩
  ·show b≠C;rw[hC];exact zA (xR f6)
  ·rcases cellB x c h with ⟨_, q, _⟩ | q
   ·rw[hC] at q;exact xJ (zQ f6 (zB (zB (xq _) (xq _)) q))
   ·exact f4 x c q
 ·exact zB I.ok.bsz I.sz
 ·intro b o e hb;obtain⟨⟨_,_,_,f3,_⟩,_⟩:=hf b hb
  rcases f3 with z |z
  ·exact I.ok.noex b o e z
  ·exact absurd (zQ (zp (I.ok.bs b o e).1) z) (xm _)
 ·intro i x v h1 h2 h3;have h2':(replicate own.length (none:Option V)++σ)[i]?=some (some v):=h2
  have hi:own.length<=i:=by
   apply yh;intro hlt
   rw[xv (by simpa using hlt),xi] at h2'
   rw[if_pos hlt] at h2';cases h2'
  rw[xk (by simpa using hi),xu] at h2'
  have h1':(own++M)[i]?=some x:=h1;rw[xk hi] at h1';obtain⟨n1,n2⟩:=ok.shadow x (zP h1')
  have hfree:scope.names.lookup x=some .free/\((compEnvC scope (kg X scope C) C X.env).kindOf x=some .cell\/(compEnvC scope (kg X scope C) C X.env).kindOf x=some .free):=by
   rcases h3 with e |e |e
   ·rcases ok.kindIn (x := x) (C := C) e with q | ⟨q, _⟩
    ·exact absurd q n1
    ·cases q
   ·rcases ok.kindIn (x := x) (C := C) e with q | ⟨_, q⟩
    ·exact absurd q n2
    ·exact⟨q,.inl e⟩
   ·rcases ok.kindIn (x := x) (C := C) e with q | ⟨q, _⟩
    ·exact⟨q,.inr e⟩
    ·cases q
  obtain⟨hfr,hk⟩:=hfree;obtain⟨m,hn,hl⟩:=I.loc;have hkX:=ok.frees (x,.free) (PySem.mem_of_lookup hfr) rfl;have h1':=ok.same _ _ h1' hfr;obtain⟨u,ru,lk⟩:=hl (i-own.length) x v h1' h2' (hkX.elim (λz=>.inr (.inl z)) λz=>.inr (.inr z));refine⟨u,ru,.inr ⟨hk,?_⟩⟩
  rcases lk with ⟨k,_⟩ |⟨_,c,ec,ic⟩
  ·rcases hkX with z |z<;>(rw[k] at z;cases z)
  ·obtain ⟨c', e'⟩ : ∃ c', (kg X scope C).lookup x = some c' := qK _ _ _ (ku (y := (x, .free)) rfl _ _ (PySem.mem_of_lookup hfr));refine⟨c',e',?_⟩
   have:=ok.cellsFrom_old I e' (by rw[hfr];simp)
   have e2:some c=some c':=ec.symm.trans this;cases e2;exact ic.keeps keep
 ·intro x c h
  rcases cellB x c h with ⟨q,_⟩ |q
  ·exact⟨_,q⟩
  ·obtain⟨v,z⟩:=I.cell x c q;exact⟨v,z.keeps keep⟩
 ·intro x c h
  rcases cellB x c h with ⟨q,q2,_⟩ |q
  ·exact I.hok.fresh (by rw[hC] at q2;exact zB (zB (xq _) (xq _)) q2)
  ·exact I.freeC x c q
 ·show(List.replicate own.length (none:Option V)++σ).length=(own++M).length;rw[zI,zI,xu,I.len,ok.mlen]
end
section
variable {X:Cx}{scope:Scope}{own M:List Str}{pins:List (Addr × Obj)}{σ:St}{H2:Hp}{s2:Shared}{tg iter kx vx:Expr}{ifs:List Expr}{pos:Pos}{g:TG}{tt:TT}{tk tv:TE}
def zd5(ok:CompOk X scope M)(hc:X.calm=true)(hg:∀C s2 H2 fp,PG (wL X scope own M C s2 H2 fp) tg g)(ht:∀C s2 H2 fp,PTs (wL X scope own M C s2 H2 fp) ifs tt)(hek:∀C s2 H2 fp,PE (wL X scope own M C s2 H2 fp) kx tk)(he:∀C s2 H2 fp,PE (wL X scope own M C s2 H2 fp) vx tv)
  (I2:Inv X pins σ H2 s2) {it:Addr}{fp:List Addr}{tn:Nat->Heap->Prop}{J:It} (T:Turn X.prog X.w X.K tg J fp it tn) (st2:tn 0 s2.heap) (f2:∀b∈fp,FpOk X pins H2 b)
  {W:Nat->Nat->List (Key × V)->Hp->Prop} (w0:∃m,W 0 m [] H2) {Qf:V->Hp->Prop}
  (turn : ∀ i m acc H, W i m acc H -> (J.stop i H /\ acc.length <= sizeLine /\ ∀ D, H D = none -> Qf (.ref D) (upd H D (.dK acc))) \/
   (J.go i H /\ acc.length < sizeLine /\ ∀ x H', J.yld i H x H' -> g x (List.replicate own.length none ++ σ) H' λσ2 H2 => σ2.drop own.length = σ /\ tt σ2 H2 λc H3 =>
    if c=true then tk σ2 H3 λy H4=>tv σ2 H4 λv H5=>∃k m',y=kV k/\m'<m/\W (i+1) m' (za8 acc k v) H5 else ∃m',m'<m/\W (i+1) m' acc H3))
  {RR:Value->Addr->Result->Shared->Prop}{E:Value->Shared->Prop}
  (fin:∀D C H' s' m,Inv X pins σ H' s'->Qf (.ref D) H'->s'.heap.Ns C m->H' C=none->C≠X.env.locals->X.s₀.heap.objs.size<=C->(∀x c,X.env.cells.lookup x=some c->c≠C)->(∀p∈X.pn++pins,p.1≠C)->RR (.ref D) C (.ok .next) s') :
  wpAny (model X.prog X.w) X.A newDict (λacc s3=>wpAny (model X.prog X.w) X.A (newFunctionEnv scope X.env.globals (kY X.env scope.names []) [] X.env.qual none .none (some X.env)) (λcenv s4=>
   codeAny (model X.prog X.w) X.A (.compStart (.DictComp kx vx [⟨tg,iter,ifs,0⟩] scope pos) 0 (.ref it) acc { cenv with scope:=relabel scope X.env }) (RR acc cenv.locals) s4) E s3) E s2:=by
 refine xZ (Ze ?_);have zC:(s2.heap.push { cls:=.type "dict",dict:=none,data:=.dict #[] }).objs.size=s2.heap.objs.size+1:=xU ..;dsimp only;rw[zC];generalize hC:s2.heap.objs.size+1=C;generalize hh:pushCells ((s2.heap.push { cls:=.type "dict",dict:=none,data:=.dict #[] }).push { cls:=.type "dict",data:=.dict #[] }) scope.names=h4
 have fpl:∀b∈fp,FpOk X pins H2 b/\b<s2.heap.objs.size:=λb hb=>by
  obtain⟨o,e,_⟩:=T.obj 0 _ st2 b hb;exact⟨f2 b hb,zp e⟩
 have I4:Inv (wL X scope own M C s2 H2 fp) [] (replicate own.length none++σ) H2 { s2 with heap:=h4 }:=Kc (o0:={ cls:=.type "dict",dict:=none,data:=.dict #[] }) ok hc I2 fpl hC.symm hh.symm;generalize hX:wL X scope own M C s2 H2 fp=X' at I4
 have keep4:∀b o,s2.heap.get? b=some o->h4.get? b=some o:=λb o e=>by
  rw[<- hh];exact pushCells_keeps _ _ _ _ (ze _ (ze _ e))
 have hD4:h4.get? s2.heap.objs.size=some { cls:=.type "dict",dict:=none,data:=.dict #[] }:=by
  rw[<- hh];exact pushCells_keeps _ _ _ _ (ze _ (zq _ rfl))
 have isD0:(({ cls:=.type "dict",dict:=none,data:=.dict #[] }:Obj)).IsDictOf (yp X.prog X.w) []:=by
  obtain⟨_,_,vs,r,o,es,ep,e,q⟩:=VY (P:=X.prog) (w:=X.w) (H:=H2) s2.heap I2.big;cases r
  rw[zq _ (by rfl)] at e
  cases e;exact⟨es,ep,q⟩
 have dsys:(s2.heap.objs.size == sysModules)=false:=(VY (P:=X.prog) (w:=X.w) (H:=H2) s2.heap I2.big).2.1;have st4:tn 0 h4:=T.keep _ _ _ st2 λb hb o e=>keep4 b o e
 have gg:PG X' tg g:=by rw[<- hX];exact hg C s2 H2 fp
 have gt:PTs X' ifs tt:=by rw[<- hX];exact ht C s2 H2 fp
 have gk:PE X' kx tk:=by rw[<- hX];exact hek C s2 H2 fp
 have ge:PE X' vx tv:=by rw[<- hX];exact he C s2 H2 fp
 have xP:X'.prog=X.prog:=by rw[<- hX];rfl
 have xw:X'.w=X.w:=by rw[<- hX];rfl
 have xK:X'.K=X.K:=by rw[<- hX];rfl
 have xA:X'.A=X.A:=by rw[<- hX];rfl
 have xc:X'.calm=true:=by rw[<- hX];exact hc
 have xpn:X'.pn=[]:=by rw[<- hX];rfl
 have xs:X'.s₀=s2:=by rw[<- hX];rfl
 have xH:X'.H₀=H2:=by rw[<- hX];rfl
 have xL:X'.env.locals=C:=by rw[<- hX];rfl
 have xfs:X'.fs=frs X.stack:=by rw[<- hX];rfl
 have xex:X'.ex=fp:=by rw[<- hX];rfl
 have xe:X'.xe=λ_ _=>False:=by rw[<- hX];rfl
 have xenv:({ newEnv scope C X.env.globals (cellsFrom (C+1) scope.names (kY X.env scope.names [])) X.env.qual none .none (some X.env) builtinsNs with scope:=relabel scope X.env }:Env)=X'.env:=by rw[<- hX];rfl
 have Dlt:s2.heap.objs.size<C:=by rw[<- hC];exact Nat.lt_succ_self _
 have fpb:∀{pl:List (Addr × Obj)}{H:Hp},(∀b∈fp,H b=none)->(∀p∈pl,p.1 ∉ fp)->∀b∈fp,FpOk X' pl H b:=λ{pl H} hn hpl b hb=>by
  refine⟨hn b hb,?_,?_,.inl (by rw[xex];exact hb),λx c e=>(I4.ok.exf b (by rw[xex];exact hb)).2 x c e,λp hp z=>?_⟩
  ·exact(I4.ok.exf b (by rw[xex];exact hb)).1
  ·exact I4.ok.exfs b (by rw[xex];exact hb)
  ·rw [xpn, wg] at hp
   exact hpl p hp (by rw[z];exact hb)
 have Dfp:s2.heap.objs.size ∉ fp:=λz=>xm _ (fpl _ z).2;have DC:s2.heap.objs.size≠C:=zA Dlt
 have Dcell:∀x c,X'.env.cells.lookup x=some c->c≠s2.heap.objs.size:=λx c e z=>by
  obtain⟨v,o,q,hd⟩:=I4.cell x c e;rw[z] at q;have q':h4.get? s2.heap.objs.size=some o:=q;rw[hD4] at q';cases q';cases hd
 have Dfs:s2.heap.objs.size ∉ X'.fs:=λz=>by
  obtain⟨_,o,ho,_⟩:=I4.ok.funs.mem (by exact z)
  rw[xs] at ho;exact xm _ (zp ho)
 rw[xenv]
 have goal:∀s5:Shared,s5={ s2 with heap:=h4 }->codeAny (model X.prog X.w) X.A (.compLoop (.DictComp kx vx [⟨tg,iter,ifs,0⟩] scope pos) 0 (.ref it) (.ref s2.heap.objs.size) X'.env) (RR (.ref s2.heap.objs.size) C) s5:=by
  rintro s5 rfl;obtain⟨m0,w0⟩:=w0
  refine WV (λn s'=>∃i acc σ' H' ob vs,Inv X' [] σ' H' s'/\σ'.drop own.length=σ/\tn i s'.heap/\(∀b∈fp,H' b=none)/\H' s2.heap.objs.size=none /\
   s'.heap.get? s2.heap.objs.size=some ob/\ob.IsDictOf (yp X.prog X.w) vs/\KV acc vs/\W i n acc H') ?_ m0
   ⟨0,[],_,H2,_,[],I4,by simp,st4,λb hb=>(f2 b hb).1,I2.hok.fresh (zo _),hD4,isD0,.nil,w0⟩
  rintro n s3 ⟨i,acc,σ3,H3,ob,vs,I3,hσ,st3,fr3,hD,hDo,isD,rv,w3⟩
  have noc:∀v,ob.data≠.cell v:=λv z=>by
   obtain⟨es,ep,_,e,_⟩:=isD;rw[e] at z;cases z
  have pinD:∀{H:Hp}{s:Shared}{σ:St},Inv X' [] σ H s->H s2.heap.objs.size=none->s.heap.get? s2.heap.objs.size=some ob ->
    Inv X' [(s2.heap.objs.size,ob)] σ H s:=λ{H s σ} I hn ho=>I.pins_of λp hp=>by
   have e:p=(s2.heap.objs.size,ob):=by simpa using hp
   subst e
   exact⟨ho,hn,by rw[xL];exact DC,Dfs,noc⟩
  have plD:∀p∈[((s2.heap.objs.size,ob):Addr × Obj)],p.1 ∉ fp:=λp hp=>by
   have e:p=(s2.heap.objs.size,ob):=by simpa using hp
   subst e;exact Dfp
  have I3':=pinD I3 hD hDo
  rcases turn i n acc H3 w3 with ⟨stop,hsz,q⟩ |⟨go,hsz,step⟩
  ·have := T.done X' xP xw xK xc i _ s3 σ3 H3 (λ_ _ => False) I3' (fpb fr3 plD) st3 stop;rw[xA] at this;refine thn this λr s4 ⟨hr,I5⟩=>?_;subst hr
   have hDo5:=(I5.pin (s2.heap.objs.size,ob) (by rw[xpn];simp)).1
   have un:Un (frs X.stack) fp H2 H3 s2.heap s4.heap:=by
    have:=I5.base;rw[xfs,xex,xH,xs] at this;exact this
   have os:s4.os=s2.os:=by rw[I5.os,xs]
   have hok:HOk X.prog X.w H3 s4.heap:=by have:=I5.hok;rw[xP,xw] at this;exact this
   have IX:Inv X pins σ H3 s4:=I2.call' os un hok I5.bare λb hb=>by
    obtain⟨_,f1,_,f3,f4,f5⟩:=f2 b hb;exact⟨f3,f1,f4,f5⟩
   have old:∀{b:Addr},s2.heap.objs.size<=b->(X.s₀.heap.objs.size<=b/\b≠X.env.locals/\(∀x c,X.env.cells.lookup x=some c->c≠b)/\∀p∈X.pn++pins,p.1≠b):=λ{b} hb=>by
    obtain⟨_,f1,_,f3,f4,f5⟩:=I2.fpOk (H':=λ_=>none) hb rfl;exact⟨zB I2.sz hb,f1,f4,f5⟩
   obtain⟨d1,d2,d3,d4⟩:=old (zo s2.heap.objs.size);obtain⟨c1,c2,c3,c4⟩:=old (b:=C) (yB Dlt)
   have IY:Inv X pins σ (upd H3 s2.heap.objs.size (.dK acc)) s4:=IX.track hD d1 d2 d3 d4 ⟨hsz,dsys,vs,rv,(let ⟨es,ep,r⟩:=isD;⟨ob,es,ep,hDo5,r⟩)⟩
   obtain⟨m,hm,_⟩:=I5.loc;rw[xL] at hm
   have hCn:H3 C=none:=by have:=I5.free;rw[xL] at this;exact this
   exact fin _ C _ s4 m IY (q _ hD) hm (by rw[xV (Ne.symm DC)];exact hCn) c2 c1 c3 c4
  ·have := T.item X' xP xw xK xc i _ s3 σ3 H3 (λ_ _ => False) I3' (fpb fr3 plD) st3 go;rw[xA] at this;refine thn this λr s4 ⟨u,hr,h4⟩=>?_;subst hr;refine thn h4 λ_ s5 ⟨x,H5,I5,r5,y5,st5,fr5⟩=>?_
   have hσn:∀(j:Nat) v,(replicate own.length none++σ)[j]?=some (some v)->σ3[j]?=some (some v):=λj v e=>by
    by_cases hlt:j<own.length
    ·rw [xv (by simpa using hlt), xi, if_pos hlt] at e
     cases e
    ·have hle := yh hlt
     rw[xk (by simpa using hle),xu,<- hσ,yl] at e
     rw[show own.length+(j-own.length)=j by lia] at e
     exact e
   have hlen:(replicate own.length none++σ).length=σ3.length:=by
    have e1:σ3.length=X'.N.length:=I5.len;have e2:=I4.len;exact e2.trans e1.symm
   have I5w:Inv X' _ (replicate own.length none++σ) H5 s5:=I5.weak hlen hσn;have I5p:=I5w.pinned (fpb fr5 plD) (T.obj _ _ st5);have a1:=gg _ s5 _ H5 x u _ I5p r5 (step x H5 y5);rw[xP,xw,xA,xe] at a1;refine thn a1 λ_ s6 ⟨σ6,H6,I6,d6,q6⟩=>?_;have a2:=gt _ s6 σ6 H6 _ I6 q6;rw[xP,xw,xA,xe] at a2;refine thn a2 λb s7 ⟨H7,I7,q7⟩=>?_
   have pin7:∀{H:Hp}{s:Shared},Inv X' ([((s2.heap.objs.size,ob):Addr × Obj)]++Xj fp s5.heap) σ6 H s ->
     (tn (i+1) s.heap/\(∀b∈fp,H b=none)/\H s2.heap.objs.size=none/\s.heap.get? s2.heap.objs.size=some ob/\Inv X' [] σ6 H s):=λ{H s} I=>by
    refine⟨T.keep _ _ _ st5 λb hb o e=>(I.pin (b,o) (zr _ (zr _ (vU hb e)))).1,λb hb=>?_,?_,?_,I.pins_of λp hp=>by simp at hp⟩
    ·obtain⟨o,e,d⟩:=T.obj _ _ st5 b hb;exact(I.pin (b,o) (zr _ (zr _ (vU hb e)))).2.1
    ·exact(I.pin (s2.heap.objs.size,ob) (by rw[xpn];simp)).2.1
    ·exact(I.pin (s2.heap.objs.size,ob) (by rw[xpn];simp)).1
   cases b with
   |false=>
    obtain⟨p1,p2,p3,p4,p5⟩:=pin7 I7;obtain⟨m',hm,w7⟩:=q7;exact⟨m',hm,i+1,acc,σ6,H7,ob,vs,p5,d6,p1,p2,p3,p4,isD,rv,w7⟩
   |true=>
    rw[if_pos rfl] at q7 ⊢;have a3:=gk _ s7 σ6 H7 _ I7 q7;rw[xP,xw,xA,xe] at a3;refine thn a3 λy s8 ⟨v,H8,I8,r8,q8⟩=>?_;have a4:=ge _ s8 σ6 H8 _ I8 q8;rw[xP,xw,xA,xe] at a4;refine thn a4 λy2 s9 ⟨v2,H9,I9,r9,q9⟩=>?_;obtain⟨p1,p2,p3,p4,p5⟩:=pin7 I9;obtain⟨kk,m',ek,hm,w8⟩:=q9;subst ek;have hl:=rv.length
    refine wpAny_dictSet_pairs (hsz:=by lia) (zC4 r8) (let ⟨es,ep,r⟩:=isD;⟨ob,es,ep,p4,r⟩) λh' dd' hs=>?_
    obtain⟨ob',es',ep',ho',isD'⟩:=dd'
    have I10:Inv X' [] σ6 H9 { s9 with heap:=h',toks:=s9.toks+1 }:=p5.turned (t':=s9.toks+1) (λb o hb e=>hs.extBut b o hb e) p3 (by rw[xL];exact DC) (.inr (by rw[xs];exact zo _)) Dcell (λp hp=>by rw[xpn] at hp;simp at hp)
    exact⟨m',hm,i+1,za8 acc kk v2,σ6,H9,ob',_,I10,d6,T.keep _ _ _ p1 λb hb o e=>hs.extBut b o (λz=>Dfp (by rw[<- z];exact hb)) e,p2,p3,ho',⟨es',ep',isD'⟩,rv.put kk r9,w8⟩
 exact codeAny_compStart_dict (goal _ rfl) (T.self _ 0 _ _ _ st4 (goal _ rfl))
def WU(kx vx:Expr)(gens:List Comprehension)(scope:Scope)(pos:Pos)(env:Env):eval (.DictComp kx vx gens scope pos) env=comprehension (.DictComp kx vx gens scope pos) scope env (firstIterPos gens pos) newDict (firstAsync gens) (firstIter gens env):=by
 first |rfl |(unfold eval;rfl) |(rw[eval];rfl) |rw[eval]
def zF3(wi:TI)(own:Nat)(g:TG)(tt:TT)(tk tv:TE):TE:=λσ H Q=>wi σ H λJ H1=>∃W:Nat->Nat->List (Key × V)->Hp->Prop,(∃m,W 0 m [] H1)/\∀i m acc H,W i m acc H ->
 (J.stop i H/\acc.length<=sizeLine/\∀D,H D=none->Q (.ref D) (upd H D (.dK acc))) \/
 (J.go i H /\ acc.length < sizeLine /\ ∀ x H', J.yld i H x H' -> g x (List.replicate own none ++ σ) H' λσ2 H2 => σ2.drop own = σ /\ tt σ2 H2 λc H3 =>
  if c=true then tk σ2 H3 λy H4=>tv σ2 H4 λv H5=>∃k m',y=kV k/\m'<m/\W (i+1) m' (za8 acc k v) H5 else ∃m',m'<m/\W (i+1) m' acc H3)
def zz2{wi:TI}(ok:CompOk X scope M)(hc:X.calm=true)(hi:PI X tg iter wi)(hg:∀C s2 H2 fp,PG (wL X scope own M C s2 H2 fp) tg g)(ht:∀C s2 H2 fp,PTs (wL X scope own M C s2 H2 fp) ifs tt)
  (hek:∀C s2 H2 fp,PE (wL X scope own M C s2 H2 fp) kx tk) (he:∀C s2 H2 fp,PE (wL X scope own M C s2 H2 fp) vx tv) (hs:∀x,foldedSetIterable iter X.env x=pure x:=by intro _;rfl) :
  PE X (.DictComp kx vx [⟨tg,iter,ifs,0⟩] scope pos) (zF3 wi own.length g tt tk tv):=by
 intro pins s σ H Q I h;rw[WU]
 refine yz (use:=none) rfl hs (YT (ok.cells I)) ok.kind (λx hx hl=>by rw[ok.uniq x hx,hl]) ?_
 refine thn (hi pins s σ H _ I h) λv s1 h1=>thn h1 λitv s2 h2=>?_;obtain⟨it,fp,tn,J,H2,e,I2,T,st2,f2,W,w0,turn⟩:=h2;subst e;refine zd5 (Qf:=Q) ok hc hg ht hek he I2 T st2 f2 w0 turn λD C H' s' m IY q hm hCn c2 c1 c3 c4=>⟨m,hm,λh' hs'=>?_⟩;exact⟨.ref D,H',IY.turned (t':=s'.toks) (λb o hb e=>hs'.extBut b o hb e) hCn c2 (.inr c1) c3 c4,rfl,q⟩
end
inductive D where
 |non |bl (b:Bool) |int (i:Int) |str (x:Str) |ty (n:String) |tup (ds:List D) |lst (ds:List D)
 /-- a list that is known and stays -/
 |fz (ds:List D)
 /-- the list that the drawing keeps -/
 |st
 /-- a list of the frame's own (in a slot alone) -/
 |own (ds:List D)
 /-- a dict of the frame's own (in a slot alone), its keys pairs of numbers -/
 |owT (ks:List (Int × Int)) (ds:List D)
 /-- a pair of numbers, a tuple that is tracked -/
 |prT (k:Int × Int)
 /-- a dict, whatever it holds -/
 |dic
 /-- a dict, known, that stays -/
 |dct (ks:List Key) (ds:List D)
def YC(ks:List Key)(xs:List V):List (Key × V):=List.zipWith (λk x=>(k,x)) ks xs
abbrev zS2:Hp:=λ_=>none
def SqZ(K:W.Frag)(Z:Addr->Prop)(H:Hp)(b:Bool)(a:Addr)(xs:List V):Prop:=
 match b with
 |true=>¬ Z a/\H a=some (.lst xs)
 |false=>(¬ Z a/\Rd H a (.tup xs))\/SqT K zS2 a xs
def SqF(K:W.Frag)(Z:Addr->Prop)(H:Hp)(a:Addr)(xs:List V):Prop:=(¬ Z a/\∃o,H a=some (.frz o (.lst xs)))\/SqL K zS2 a xs
mutual
def Rep(K:W.Frag)(G:Option Addr)(Z:Addr->Prop)(H:Hp):D->V->Prop
 |.non,v=>v=.non
 |.bl b,v=>v=.bl b
 |.int i,v=>v=.int i
 |.str x,v=>v=.str x
 |.ty n,v=>v=.ty n
 |.tup ds,v=>∃a xs,v=.ref a/\SqZ K Z H false a xs/\Reps K G Z H ds xs
 |.lst ds,v=>∃a xs,v=.ref a/\SqZ K Z H true a xs/\Reps K G Z H ds xs
 |.fz ds,v=>∃a xs,v=.ref a/\SqF K Z H a xs/\Reps K G Z H ds xs
 |.st,v=>∃a,G=some a/\v=.ref a
 |.own _,_=>False
 |.owT _ _,_=>False
 |.prT k,v=>∃b,v=.ref b/\¬ Z b/\H b=some (.tup [.int k.1,.int k.2])
 |.dic,v=>∃a kvs,v=.ref a/\¬ Z a/\H a=some (.dK kvs)
 |.dct ks ds,v=>∃a xs,v=.ref a/\(¬ Z a/\H a=some (.dK (YC ks xs)))/\Reps K G Z H ds xs
def Reps(K:W.Frag)(G:Option Addr)(Z:Addr->Prop)(H:Hp):List D->List V->Prop
 |[],vs=>vs=[]
 |d::ds,vs=>∃v r,vs=v::r/\Rep K G Z H d v/\Reps K G Z H ds r
end
section
variable {K:W.Frag}{G:Option Addr}{Z Z':Addr->Prop}{H H':Hp}
def SqT.anyH{a:Addr}{xs:List V}(h:SqT K zS2 a xs):SqT K H a xs:=by
 rcases h with (h |⟨o,h⟩) |h
 ·cases h
 ·cases h
 ·exact .inr h
def SqZ.sq{b:Bool}{a:Addr}{xs:List V}(h:SqZ K Z H b a xs):SqB K b H a xs:=by
 cases b with
 |true=>exact SqL.of h.2
 |false=>
  rcases h with ⟨_,h⟩ |h
  ·exact .inl h
  ·exact SqT.anyH h
def SqZ.mono{b:Bool}{a:Addr}{xs:List V}(h:SqZ K Z H b a xs)(hz:∀a,H a≠none->Z' a->Z a)(hf:∀a o,¬ Z a->H a=some o->H' a=some o):SqZ K Z' H' b a xs:=by
 cases b with
 |true=>exact⟨λz=>h.1 (hz a (by rw[h.2];simp) z),hf a _ h.1 h.2⟩
 | false =>
  rcases h with ⟨n,h⟩ |h
  ·refine .inl ⟨λz => n (hz a ?_ z), ?_⟩
   ·rcases h with h |⟨o,h⟩<;>(rw[h];simp)
   ·rcases h with h | ⟨o, h⟩
    ·exact .inl (hf a _ n h)
    ·exact .inr ⟨o,hf a _ n h⟩
  ·exact .inr h
mutual
theorem Rep.mono(hz:∀a,H a≠none->Z' a->Z a)(hf:∀a o,¬ Z a->H a=some o->H' a=some o):∀(d:D) (v:V),Rep K G Z H d v->Rep K G Z' H' d v
 |.non,v,h=>by unfold Rep at h ⊢;exact h
 |.bl b,v,h=>by unfold Rep at h ⊢;exact h
 |.int b,v,h=>by unfold Rep at h ⊢;exact h
 |.str b,v,h=>by unfold Rep at h ⊢;exact h
 |.ty b,v,h=>by unfold Rep at h ⊢;exact h
 |.st,v,h=>by unfold Rep at h ⊢;exact h
 |.own _,v,h=>by unfold Rep at h;exact h.elim
 |.owT _ _,v,h=>by unfold Rep at h;exact h.elim
 |.prT k,v,h=>by
  unfold Rep at h ⊢;obtain⟨b,e,n,q⟩:=h
  exact⟨b,e,λz=>n (hz b (by rw[q];simp) z),hf b _ n q⟩
 |.dic,v,h=>by
  unfold Rep at h ⊢;obtain⟨a,kvs,e,n,q⟩:=h
  exact⟨a,kvs,e,λz=>n (hz a (by rw[q];simp) z),hf a _ n q⟩
 |.dct ks ds,v,h=>by
  unfold Rep at h ⊢;obtain⟨a,xs,e,⟨n,q⟩,r⟩:=h
  exact⟨a,xs,e,⟨λz=>n (hz a (by rw[q];simp) z),hf a _ n q⟩,Reps.mono hz hf ds xs r⟩
 |.tup ds,v,h=>by
  unfold Rep at h ⊢;obtain⟨a,xs,e,q,r⟩:=h;exact⟨a,xs,e,q.mono hz hf,Reps.mono hz hf ds xs r⟩
 |.lst ds,v,h=>by
  unfold Rep at h ⊢;obtain⟨a,xs,e,q,r⟩:=h;exact⟨a,xs,e,q.mono hz hf,Reps.mono hz hf ds xs r⟩
 |.fz ds,v,h=>by
  unfold Rep at h ⊢;obtain⟨a,xs,e,q,r⟩:=h;refine⟨a,xs,e,?_,Reps.mono hz hf ds xs r⟩
  rcases q with ⟨n,o,q⟩ |q
  ·exact .inl ⟨λz=>n (hz a (by rw[q];simp) z),o,hf a _ n q⟩
  ·exact .inr q
theorem Reps.mono(hz:∀a,H a≠none->Z' a->Z a)(hf:∀a o,¬ Z a->H a=some o->H' a=some o):∀(ds:List D) (vs:List V),Reps K G Z H ds vs->Reps K G Z' H' ds vs
 |[],vs,h=>by unfold Reps at h ⊢;exact h
 |d::ds,vs,h=>by
  unfold Reps at h ⊢;obtain⟨v,r,e,q,t⟩:=h;exact⟨v,r,e,Rep.mono hz hf d v q,Reps.mono hz hf ds r t⟩
end
def Reps.nil:Reps K G Z H [] []:=by unfold Reps;rfl
def Reps.cons{d:D}{ds:List D}{v:V}{vs:List V}(h:Rep K G Z H d v)(t:Reps K G Z H ds vs):Reps K G Z H (d::ds) (v::vs):=by unfold Reps;exact⟨v,vs,rfl,h,t⟩
def Reps.inv{d:D}{ds:List D}{v:V}{vs:List V}(h:Reps K G Z H (d::ds) (v::vs)):Rep K G Z H d v/\Reps K G Z H ds vs:=by
 unfold Reps at h;obtain⟨v',r,e,q,t⟩:=h;cases e;exact⟨q,t⟩
def Reps.split{d:D}{ds:List D}{vs:List V}(h:Reps K G Z H (d::ds) vs):∃v r,vs=v::r/\Rep K G Z H d v/\Reps K G Z H ds r:=by unfold Reps at h;exact h
def Reps.nil_inv{vs:List V}(h:Reps K G Z H [] vs):vs=[]:=by unfold Reps at h;exact h
theorem Reps.length:∀{ds:List D}{vs:List V},Reps K G Z H ds vs->vs.length=ds.length
 |[],vs,h=>by rw[h.nil_inv];rfl
 |d::ds,vs,h=>by
  obtain⟨v,r,rfl,_,t⟩:=h.split;rw[zK,zK,Reps.length t]
theorem Reps.get:∀{ds:List D}{vs:List V}{i:Nat}{d:D},Reps K G Z H ds vs->ds[i]?=some d->∃v,vs[i]?=some v/\Rep K G Z H d v
 |[],vs,i,d,_,e=>by simp at e
 |c::ds,vs,0,d,h,e=>by
  obtain⟨v,r,rfl,q,t⟩:=h.split;simp at e;subst e;exact⟨v,rfl,q⟩
 |c::ds,vs,i+1,d,h,e=>by
  obtain⟨v,r,rfl,q,t⟩:=h.split
  obtain⟨u,e1,e2⟩:=Reps.get (i:=i) t (by simpa using e)
  exact⟨u,by simpa using e1,e2⟩
theorem Reps.append:∀{ds es:List D}{vs ws:List V},Reps K G Z H ds vs->Reps K G Z H es ws->Reps K G Z H (ds++es) (vs++ws)
 |[],es,vs,ws,h,h'=>by rw[h.nil_inv];exact h'
 |d::ds,es,vs,ws,h,h'=>by
  obtain⟨v,r,rfl,q,t⟩:=h.split;exact .cons q (Reps.append t h')
theorem Reps.drop:∀{ds:List D}{vs:List V} (n:Nat),Reps K G Z H ds vs->Reps K G Z H (ds.drop n) (vs.drop n)
 |ds,vs,0,h=>h
 |[],vs,n+1,h=>by rw[h.nil_inv];exact .nil
 |d::ds,vs,n+1,h=>by
  obtain⟨v,r,rfl,q,t⟩:=h.split;exact Reps.drop n t
theorem Reps.take:∀{ds:List D}{vs:List V} (n:Nat),Reps K G Z H ds vs->Reps K G Z H (ds.take n) (vs.take n)
 |ds,vs,0,h=>.nil
 |[],vs,n+1,h=>by rw[h.nil_inv];exact .nil
 |d::ds,vs,n+1,h=>by
  obtain⟨v,r,rfl,q,t⟩:=h.split;exact .cons q (Reps.take n t)
theorem Reps.flatRep{ds:List D}{vs:List V}(h:Reps K G Z H ds vs):∀k:Nat,Reps K G Z H (replicate k ds).flatten (replicate k vs).flatten
 |0=>.nil
 |k+1=>by
  rw[wK,wK,yF,yF];exact h.append (Reps.flatRep h k)
end
def kw:D->Bool
 |.non=>true |.bl _=>true |.int _=>true |.str _=>true |.ty _=>true |_=>false
def ofS:D->V
 |.bl b=>.bl b |.int i=>.int i |.str x=>.str x |.ty n=>.ty n |_=>.non
theorem Rep.ofS{K:W.Frag}{G:Option Addr}{Z:Addr->Prop}{H:Hp}:∀{d:D},kw d=true->Rep K G Z H d (ofS d)
 |.non,_=>by unfold Rep;rfl
 |.bl b,_=>by unfold Rep;rfl
 |.int b,_=>by unfold Rep;rfl
 |.str b,_=>by unfold Rep;rfl
 |.ty b,_=>by unfold Rep;rfl
 |.tup ds,h=>by simp[kw] at h
 |.lst ds,h=>by simp[kw] at h
 |.st,h=>by simp[kw] at h
 |.fz ds,h=>by simp[kw] at h
 |.own ds,h=>by simp[kw] at h
 |.owT _ _,h=>by simp[kw] at h
 |.prT _,h=>by simp[kw] at h
theorem Rep.toS{K:W.Frag}{G:Option Addr}{Z:Addr->Prop}{H:Hp}{v:V}:∀{d:D},kw d=true->Rep K G Z H d v->v=L2.ofS d
 |.non,_,h=>by unfold Rep at h;exact h
 |.bl b,_,h=>by unfold Rep at h;exact h
 |.int b,_,h=>by unfold Rep at h;exact h
 |.str b,_,h=>by unfold Rep at h;exact h
 |.ty b,_,h=>by unfold Rep at h;exact h
 |.tup ds,h,_=>by simp[kw] at h
 |.lst ds,h,_=>by simp[kw] at h
 |.st,h,_=>by simp[kw] at h
 |.fz ds,h,_=>by simp[kw] at h
 |.own ds,h,_=>by simp[kw] at h
 |.owT _ _,h,_=>by simp[kw] at h
 |.prT _,h,_=>by simp[kw] at h
def Rep.int_inv{K:W.Frag}{G:Option Addr}{Z:Addr->Prop}{H:Hp}{v:V}{i:Int}(h:Rep K G Z H (.int i) v):v=.int i:=by unfold Rep at h;exact h
def Rep.bl_inv{K:W.Frag}{G:Option Addr}{Z:Addr->Prop}{H:Hp}{v:V}{i:Bool}(h:Rep K G Z H (.bl i) v):v=.bl i:=by unfold Rep at h;exact h
def Rep.tup_inv{K:W.Frag}{G:Option Addr}{Z:Addr->Prop}{H:Hp}{v:V}{ds:List D}(h:Rep K G Z H (.tup ds) v):∃a xs,v=.ref a/\SqZ K Z H false a xs/\Reps K G Z H ds xs:=by unfold Rep at h;exact h
def Rep.lst_inv{K:W.Frag}{G:Option Addr}{Z:Addr->Prop}{H:Hp}{v:V}{ds:List D}(h:Rep K G Z H (.lst ds) v):∃a xs,v=.ref a/\SqZ K Z H true a xs/\Reps K G Z H ds xs:=by unfold Rep at h;exact h
def Rep.fz_inv{K:W.Frag}{G:Option Addr}{Z:Addr->Prop}{H:Hp}{v:V}{ds:List D}(h:Rep K G Z H (.fz ds) v):∃a xs,v=.ref a/\SqL K H a xs/\Reps K G Z H ds xs:=by
 unfold Rep at h;obtain⟨a,xs,e,q,r⟩:=h;refine⟨a,xs,e,?_,r⟩
 rcases q with ⟨_,o,q⟩ |q
 ·exact .inl (.inr ⟨o,q⟩)
 ·rcases q with (q | ⟨o, q⟩) | q
  ·cases q
  ·cases q
  ·exact .inr q
def Rep.tup_mk{K:W.Frag}{G:Option Addr}{Z:Addr->Prop}{H:Hp}{a:Addr}{xs:List V}{ds:List D}(q:SqZ K Z H false a xs)(r:Reps K G Z H ds xs):Rep K G Z H (.tup ds) (.ref a):=by unfold Rep;exact⟨a,xs,rfl,q,r⟩
def Rep.lst_mk{K:W.Frag}{G:Option Addr}{Z:Addr->Prop}{H:Hp}{a:Addr}{xs:List V}{ds:List D}(q:SqZ K Z H true a xs)(r:Reps K G Z H ds xs):Rep K G Z H (.lst ds) (.ref a):=by unfold Rep;exact⟨a,xs,rfl,q,r⟩
def zu6(G:Option Addr)(n:Nat)(H:Hp):Prop:=∀a,G=some a->∃(zs:List Int) (_ _:Nat),H a=some (.lst (zs.map V.int))/\zs.length=n/\(∀x∈zs,0<=x)/\∀x,zs[1]?=some x->x<2147483647
structure AC where
 K:W.Frag
 G:Option Addr
 Z0:Addr->Prop
 H0:Hp
abbrev Rho:=List (Option D)
def Zof(A:AC)(os:List (Nat × Addr)):Addr->Prop:=λa=>A.Z0 a\/∃p∈os,p.2=a
def kP(k:Int × Int):List Key:=[.inl k.1,.inl k.2]
def qk(ks:List (Int × Int))(xs:List V):List (List Key × V):=List.zipWith (λk x=>(kP k,x)) ks xs
def SlotR(A:AC)(os:List (Nat × Addr))(H:Hp)(i:Nat):D->V->Prop
 |.own ds,v=>∃a xs,v=.ref a/\(i,a)∈os/\H a=some (.lst xs)/\Reps A.K A.G (Zof A os) H ds xs
 |.owT ks ds,v=>∃a xs,v=.ref a/\(i,a)∈os/\H a=some (.dT (qk ks xs))/\ks.length=xs.length/\Reps A.K A.G (Zof A os) H ds xs
 |d,v=>Rep A.K A.G (Zof A os) H d v
def qi:List Str:=["_law_grown"]
def kZ(K:W.Frag)(P:Addr)(q:Str):Prop:=∃x∈qi,∃c,W.tabIn K x=some (c,P)/\q=(x ++ ".<locals>.") ++ "<lambda>"
def Hot(o:Option HO):Prop:=∃u,o=some u/\∀ys,u≠.tup ys
def Hot.ne{o:Option HO}(h:Hot o):o≠none:=by obtain⟨u,e,_⟩:=h;rw[e];simp
def Hot.lst{xs:List V}:Hot (some (.lst xs)):=⟨_,rfl,λ_ z=>by cases z⟩
def Hot.dT{xs:List (List Key × V)}:Hot (some (.dT xs)):=⟨_,rfl,λ_ z=>by cases z⟩
def Hot.of{o o':Option HO}(h:Hot o)(f:∀u,o=some u->o'=some u):Hot o':=let ⟨u,e,t⟩:=h;⟨u,f u e,t⟩
def ZOk(K:W.Frag)(G:Option Addr)(Z:Addr->Prop)(H:Hp):Prop:=(∀a,Z a->Hot (H a))/\∀P q,kZ K P q->H P=some (.cot q)/\G≠some P
structure AmO(A:AC)(os:List (Nat × Addr))(n:Nat)(rho:Rho)(sg:St)(H:Hp)(ds:List D)(vs:List V):Prop where
 len:rho.length=sg.length
 slot:∀i d,rho[i]?=some (some d)->∃v,sg[i]?=some (some v)/\SlotR A os H i d v
 pend:Reps A.K A.G (Zof A os) H ds vs
 nd:os.Pairwise λp q=>p.1≠q.1/\p.2≠q.2
 fresh:∀p∈os,A.H0 p.2=none/\¬ A.Z0 p.2/\Hot (H p.2)
 st:zu6 A.G n H
 gz:∀a,A.G=some a->A.Z0 a
 fr:∀a o,A.G≠some a->A.H0 a=some o->H a=some o
 z0:ZOk A.K A.G A.Z0 A.H0
def Am(A:AC)(n:Nat)(rho:Rho)(sg:St)(H:Hp)(ds:List D)(vs:List V):Prop:=∃os,AmO A os n rho sg H ds vs
section
variable {A:AC}{os:List (Nat × Addr)}{n:Nat}{rho:Rho}{sg:St}{H:Hp}{ds:List D}{vs:List V}{d:D}{v:V}
def AmO.zHot(I:AmO A os n rho sg H ds vs):∀a,Zof A os a->Hot (H a):=λa h=>by
 rcases h with h |⟨p,hp,rfl⟩
 ·by_cases e : A.G = some a
  ·obtain⟨x,y,z,q,_⟩:=I.st a e;rw[q];exact Hot.lst
  ·exact(I.z0.1 a h).of λo q=>I.fr a o e q
 ·exact(I.fresh p hp).2.2
def AmO.zH(I:AmO A os n rho sg H ds vs):∀a,Zof A os a->H a≠none:=λa h=>(I.zHot a h).ne
def AmO.zO(I:AmO A os n rho sg H ds vs):ZOk A.K A.G (Zof A os) H:=⟨I.zHot,λP q t=>⟨I.fr P _ (I.z0.2 P q t).2 (I.z0.2 P q t).1,(I.z0.2 P q t).2⟩⟩
def SlotR.mono{os':List (Nat × Addr)}{H':Hp}{i:Nat}(hz:∀a,H a≠none->Zof A os' a->Zof A os a)(hf:∀a o,¬ Zof A os a->H a=some o->H' a=some o)
  (ho:∀a xs,(i,a)∈os->H a=some xs->(i,a)∈os'/\H' a=some xs):∀(d:D) (v:V),SlotR A os H i d v->SlotR A os' H' i d v
 |.own ds,v,h=>by
  obtain⟨a,xs,e,m,q,r⟩:=h;obtain⟨m',q'⟩:=ho a _ m q;exact⟨a,xs,e,m',q',Reps.mono hz hf ds xs r⟩
 |.owT ks ds,v,h=>by
  obtain⟨a,xs,e,m,q,l,r⟩:=h;obtain⟨m',q'⟩:=ho a _ m q;exact⟨a,xs,e,m',q',l,Reps.mono hz hf ds xs r⟩
 |.non,v,h=>Rep.mono hz hf _ _ h
 |.bl _,v,h=>Rep.mono hz hf _ _ h
 |.int _,v,h=>Rep.mono hz hf _ _ h
 |.str _,v,h=>Rep.mono hz hf _ _ h
 |.ty _,v,h=>Rep.mono hz hf _ _ h
 |.tup _,v,h=>Rep.mono hz hf _ _ h
 |.lst _,v,h=>Rep.mono hz hf _ _ h
 |.st,v,h=>Rep.mono hz hf _ _ h
 |.fz _,v,h=>Rep.mono hz hf _ _ h
 |.dic,v,h=>Rep.mono hz hf _ _ h
 |.prT _,v,h=>Rep.mono hz hf _ _ h
 |.dct _ _,v,h=>Rep.mono hz hf _ _ h
def xT:D->Bool
 |.own _=>false
 |.owT _ _=>false
 |_=>true
theorem SlotR.rep{i:Nat}:∀{d:D}{v:V},xT d=true->SlotR A os H i d v->Rep A.K A.G (Zof A os) H d v
 |.own _,_,h,_=>by simp[xT] at h
 |.owT _ _,_,h,_=>by simp[xT] at h
 |.non,_,_,h=>h
 |.bl _,_,_,h=>h
 |.int _,_,_,h=>h
 |.str _,_,_,h=>h
 |.ty _,_,_,h=>h
 |.tup _,_,_,h=>h
 |.lst _,_,_,h=>h
 |.st,_,_,h=>h
 |.fz _,_,_,h=>h
 |.dic,_,_,h=>h
 |.prT _,_,_,h=>h
 |.dct _ _,_,_,h=>h
theorem SlotR.of{i:Nat}:∀{d:D}{v:V},Rep A.K A.G (Zof A os) H d v->SlotR A os H i d v
 |.own _,_,h=>by unfold Rep at h;exact h.elim
 |.owT _ _,_,h=>by unfold Rep at h;exact h.elim
 |.non,_,h=>h
 |.bl _,_,h=>h
 |.int _,_,h=>h
 |.str _,_,h=>h
 |.ty _,_,h=>h
 |.tup _,_,h=>h
 |.lst _,_,h=>h
 |.st,_,h=>h
 |.fz _,_,h=>h
 |.dic,_,h=>h
 |.prT _,_,h=>h
 |.dct _ _,_,h=>h
def AmO.push(I:AmO A os n rho sg H ds vs)(h:Rep A.K A.G (Zof A os) H d v):AmO A os n rho sg H (d::ds) (v::vs):=
 ⟨I.len,I.slot,.cons h I.pend,I.nd,I.fresh,I.st,I.gz,I.fr,I.z0⟩
def AmO.pends{es:List D}{ws:List V}(I:AmO A os n rho sg H ds vs)(h:Reps A.K A.G (Zof A os) H es ws):AmO A os n rho sg H es ws:=
 ⟨I.len,I.slot,h,I.nd,I.fresh,I.st,I.gz,I.fr,I.z0⟩
def AmO.pop(I:AmO A os n rho sg H (d::ds) (v::vs)):AmO A os n rho sg H ds vs/\Rep A.K A.G (Zof A os) H d v:=⟨I.pends I.pend.inv.2,I.pend.inv.1⟩
def AmO.grow{p:Addr}{o:HO}(I:AmO A os n rho sg H ds vs)(hp:H p=none):AmO A os n rho sg (upd H p o) ds vs:=by
 have hf:∀a u,H a=some u->upd H p o a=some u:=λa u e=>by rw[xV (yc e hp)];exact e
 refine⟨I.len,λi d e=>?_,Reps.mono (λ_ _ z=>z) (λa u _ e=>hf a u e) _ _ I.pend,I.nd,λq hq=>?_,λa e=>?_,I.gz,λa u h e=>hf a u (I.fr a u h e),I.z0⟩
 ·obtain⟨v,e1,e2⟩:=I.slot i d e;exact⟨v,e1,SlotR.mono (λ_ _ z=>z) (λa u _ e=>hf a u e) (λa xs m q=>⟨m,hf a _ q⟩) _ _ e2⟩
 ·obtain⟨f1,f2,f3⟩:=I.fresh q hq;exact⟨f1,f2,f3.of λu e=>hf _ _ e⟩
 ·obtain⟨x,y,z,q,r⟩:=I.st a e;exact⟨x,y,z,hf _ _ q,r⟩
def AmO.newTup{p:Addr}{es:List D}{xs:List V}(I:AmO A os n rho sg H ds vs)(r:Reps A.K A.G (Zof A os) H es xs)(hp:H p=none):AmO A os n rho sg (upd H p (.tup xs)) (.tup es::ds) (.ref p::vs):=by
 have g:=I.grow (o:=.tup xs) hp;refine g.push (.tup_mk (.inl ⟨λz=>I.zH p z hp,.inl wZ⟩) ?_)
 exact Reps.mono (λ_ _ z=>z) (λa u _ e=>by rw[xV (yc e hp)];exact e) _ _ r
def AmO.newLst{p:Addr}{es:List D}{xs:List V}(I:AmO A os n rho sg H ds vs)(r:Reps A.K A.G (Zof A os) H es xs)(hp:H p=none):AmO A os n rho sg (upd H p (.lst xs)) (.lst es::ds) (.ref p::vs):=by
 have g:=I.grow (o:=.lst xs) hp;refine g.push (.lst_mk ⟨λz=>I.zH p z hp,wZ⟩ ?_)
 exact Reps.mono (λ_ _ z=>z) (λa u _ e=>by rw[xV (yc e hp)];exact e) _ _ r
def AmO.set{i:Nat}(I:AmO A os n rho sg H (d::ds) (v::vs))(hi:i<rho.length):AmO A (os.filter λp=>decide (p.1≠i)) n (rho.set i (some d)) (sg.set i (some v)) H ds vs:=by
 obtain⟨J,hr⟩:=I.pop
 have sub:∀a,H a≠none->Zof A (os.filter λp=>decide (p.1≠i)) a->Zof A os a:=λa _ z=>by
  rcases z with z |⟨p,hp,e⟩
  ·exact .inl z
  ·exact .inr ⟨p,(zx.mp hp).1,e⟩
 refine⟨by simp[I.len],λj c e=>?_,Reps.mono sub (λ_ _ _ e=>e) _ _ J.pend,I.nd.filter _,λp hp=>I.fresh p (zx.mp hp).1,I.st,I.gz,I.fr,I.z0⟩
 by_cases hj:j=i
 ·subst hj;rw[zT hi] at e;cases e
  exact⟨v,zT (by rw[<- I.len];exact hi),SlotR.of (Rep.mono sub (λ_ _ _ e=>e) _ _ hr)⟩
 ·rw [zY (Ne.symm hj)] at e;obtain⟨u,e1,e2⟩:=I.slot j c e
  exact⟨u,by rw[zY (Ne.symm hj)];exact e1,SlotR.mono sub (λ_ _ _ e=>e) (λa xs m q=>⟨zx.mpr ⟨m,by simpa using hj⟩,q⟩) _ _ e2⟩
end
abbrev TD:=Rho->Nat->(D->Nat->Prop)->Prop
abbrev TBD:=Rho->Nat->(Bool->Nat->Prop)->Prop
abbrev TAD:=Rho->Nat->(List D->Nat->Prop)->Prop
def tOf(A:AC)(t:TD):TE:=λsg H Q=>∃rho n P ds vs,Am A n rho sg H ds vs/\t rho n P/\∀v H' n' d,Am A n' rho sg H' (d::ds) (v::vs)->P d n'->Q v H'
def za2(A:AC)(t:TBD):TT:=λsg H Q=>∃rho n P ds vs,Am A n rho sg H ds vs/\t rho n P/\∀b H' n',Am A n' rho sg H' ds vs->P b n'->Q b H'
def xB7(A:AC)(t:TAD):TA:=λsg H Q=>∃rho n P ds vs,Am A n rho sg H ds vs/\t rho n P/\∀ws H' n' es,Am A n' rho sg H' (es++ds) (ws++vs)->ws.length=es.length->P es n'->Q ws H'
@[irreducible] def PD(A:AC)(X:Cx)(e:Expr)(t:TD):Prop:=PE X e (tOf A t)
@[irreducible] def PTD(A:AC)(X:Cx)(e:Expr)(t:TBD):Prop:=PT X e (za2 A t)
@[irreducible] def PWD(A:AC)(X:Cx)(e:Expr)(t:TBD):Prop:=PW X e (za2 A t)
@[irreducible] def PAD(A:AC)(X:Cx)(es:List Expr)(t:TAD):Prop:=PA X es (xB7 A t)
def PE.imp{X:Cx}{e:Expr}{t t':TE}(h:PE X e t)(hi:∀sg H Q,t' sg H Q->t sg H Q):PE X e t':=λpins s sg H Q I q=>h pins s sg H Q I (hi _ _ _ q)
def PT.imp{X:Cx}{e:Expr}{t t':TT}(h:PT X e t)(hi:∀sg H Q,t' sg H Q->t sg H Q):PT X e t':=λpins s sg H Q I q=>h pins s sg H Q I (hi _ _ _ q)
def PW.imp{X:Cx}{e:Expr}{t t':TT}(h:PW X e t)(hi:∀sg H Q,t' sg H Q->t sg H Q):PW X e t':=λwh pins s sg H Q I q=>h wh pins s sg H Q I (hi _ _ _ q)
def PA.imp{X:Cx}{e:List Expr}{t t':TA}(h:PA X e t)(hi:∀sg H Q,t' sg H Q->t sg H Q):PA X e t':=λps pins s sg H Q I q=>h ps pins s sg H Q I (hi _ _ _ q)
def PS.imp{X:Cx}{e:Stmt}{t t':TS}(h:PS X e t)(hi:∀E sg H,t' E sg H->t E sg H):PS X e t':=λpins s sg H Q I q=>h pins s sg H Q I (hi _ _ _ q)
def PSs.imp{X:Cx}{e:List Stmt}{t t':TS}(h:PSs X e t)(hi:∀E sg H,t' E sg H->t E sg H):PSs X e t':=λpins s sg H Q I q=>h pins s sg H Q I (hi _ _ _ q)
section
variable {A:AC}{X:Cx}{a b c e:Expr}{es:List Expr}{ta tb tc:TD}{pos:Pos}
def atD(d:D)(k:D->Prop):Prop:=match d with
 |.own _=>False
 |.owT _ _=>False
 |.non=>k .non
 |.bl b=>k (.bl b)
 |.int b=>k (.int b)
 |.str b=>k (.str b)
 |.ty b=>k (.ty b)
 |.tup b=>k (.tup b)
 |.lst b=>k (.lst b)
 |.fz b=>k (.fz b)
 |.st=>k .st
 |.dic=>k .dic
 |.prT b=>k (.prT b)
 |.dct a b=>k (.dct a b)
def zt5{d:D}{k:D->Prop}(h:atD d k):xT d=true/\k d:=by
 cases d<;>first |exact⟨rfl,h⟩ |exact h.elim
def QT{d:D}{k:D->Prop}(h:xT d=true)(q:k d):atD d k:=by
 cases d<;>first |exact q |(simp[xT] at h;done)
def atV(o:Option (Option D))(k:D->Prop):Prop:=match o with |some (some d)=>atD d k |_=>False
def zT4{o:Option (Option D)}{k:D->Prop}(h:atV o k):∃d,o=some (some d)/\xT d=true/\k d:=by
 match o,h with
 |some (some d),h=>exact⟨d,rfl,zt5 h⟩
def xH9(i:Nat):TD:=λrho n P=>atV rho[i]? λd=>P d n
def dC(d:D):TD:=λ_ n P=>P d n
def zh(i:Nat){x:Str}(hN:X.N[i]?=some x:=by rfl)(hv:Vis X.env.scope x:=by first |exact Or.inl rfl |exact Or.inr (Or.inl rfl) |exact Or.inr (Or.inr rfl))(hd:(x == ("__debug__" : Str))=false:=by decide)
  (hcd:(x == ("__classdict__" : Str))=false:=by decide):PD A X (.Name x pos) (xH9 i):=by
 exists (qN hN hv hd hcd).imp λsg H Q h=>by
   obtain⟨rho,n,P,ds,vs,⟨os,I⟩,hh,hQ⟩:=h;obtain⟨d,e,hd,q⟩:=zT4 hh;obtain⟨v,e1,e2⟩:=I.slot i d e;exact⟨v,e1,hQ v H n d ⟨os,I.push (e2.rep hd)⟩ q⟩
def zE0{d:D}(hs:kw d=true){t:TE}(ht:∀sg H Q,Q (ofS d) H->t sg H Q)(h:PE X e t):PD A X e (dC d):=by
 exists h.imp λsg H Q q=>by
   obtain⟨rho,n,P,ds,vs,⟨os,I⟩,q,hQ⟩:=q;exact ht _ _ _ (hQ _ H n d ⟨os,I.push (Rep.ofS hs)⟩ q)
def zu{i:Int}{j:Nat}:PD A X (.Constant (.int i) j pos) (dC (.int i)):=by exists zE0 rfl (λ_ _ _ q=>q) Qn
def Zw{i:Bool}{j:Nat}:PD A X (.Constant (.bool i) j pos) (dC (.bl i)):=by exists zE0 rfl (λ_ _ _ q=>q) xy5
def ve{j:Nat}:PD A X (.Constant .none j pos) (dC .non):=by exists zE0 rfl (λ_ _ _ q=>q) xb6
def Xk{x:Str}{j:Nat}:PD A X (.Constant (.str x) j pos) (dC (.str x)):=by exists zE0 rfl (λ_ _ _ q=>q) xb3
abbrev RD2:=D->D->(D->Prop)->Prop
def kJ(A:AC)(r:R2)(rd:RD2):Prop:=
 ∀os n rho sg H ds vs d1 d2 v1 v2 (k:D->Prop) (Q:VK),AmO A os n rho sg H (d2::d1::ds) (v2::v1::vs)->rd d1 d2 k->(∀v H' d,Am A n rho sg H' (d::ds) (v::vs)->k d->Q v H')->r v1 v2 H Q
def dOp(rd:RD2)(ta tb:TD):TD:=λrho n P=>ta rho n λd1 n1=>tb rho n1 λd2 n2=>rd d1 d2 λd=>P d n2
def zd6(t:TD):TBD:=λrho n P=>t rho n λd n'=>∃b,d=.bl b/\P b n'
def Uq{r:R2}{rd:RD2}(hr:kJ A r rd){sg:St}{H:Hp}{Q:VK}(h:tOf A (dOp rd ta tb) sg H Q):tOp r (tOf A ta) (tOf A tb) sg H Q:=by
 obtain⟨rho,n,P,ds,vs,I,ht,hQ⟩:=h;exact⟨rho,n,_,ds,vs,I,ht,λv1 H1 n1 d1 I1 h1=>⟨rho,n1,_,d1::ds,v1::vs,I1,h1,λv2 H2 n2 d2 ⟨os2,I2⟩ h2=>hr _ _ _ _ _ _ _ _ _ _ _ _ Q I2 h2 λv H' d J k=>hQ v H' n2 d J k⟩⟩
def YL{t:TE}{td:TD}(h:∀sg H Q,tOf A td sg H Q->t sg H Q){sg:St}{H:Hp}{Q:Bool->Hp->Prop}(q:za2 A (zd6 td) sg H Q):zK5 t sg H Q:=by
 obtain⟨rho,n,P,ds,vs,I,ht,hQ⟩:=q;refine h _ _ _ ⟨rho,n,_,ds,vs,I,ht,λv H' n' d ⟨os,J⟩ k=>?_⟩;obtain⟨b,rfl,k⟩:=k;obtain⟨J1,r⟩:=J.pop;exact⟨b,r.bl_inv,hQ b H' n' ⟨os,J1⟩ k⟩
def Xl{op:Operator}{r:R2}{rd:RD2}(ho:OpR X (binaryOp op) r)(hr:kJ A r rd)(ha:PD A X a ta)(hb:PD A X b tb):PD A X (.BinOp a op b pos) (dOp rd ta tb):=by exists (xy3 ho ha hb).imp λ_ _ _=>Uq hr
def WH{op:CmpOp}{r:R2}{rd:RD2}(ho:OpR X (compareOp op) r)(hr:kJ A r rd)(ha:PD A X a ta)(hb:PD A X b tb)(hm:behindInMarks op b=false):PD A X (.Compare a [op] [b] pos) (dOp rd ta tb):=by exists (zN8 ho ha hb hm).imp λ_ _ _=>Uq hr
def xW{op:CmpOp}{r:R2}{rd:RD2}(ho:OpR X (compareOp op) r)(hr:kJ A r rd)(ha:PD A X a ta)(hb:PD A X b tb)(hm:behindInMarks op b=false):PTD A X (.Compare a [op] [b] pos) (zd6 (dOp rd ta tb)):=by
 exists 
   (zi9 ho ha hb hm).imp λ_ _ _=>YL λ_ _ _=>Uq hr
def wq{r:R2}{rd:RD2}(hi:IxR X r)(hr:kJ A r rd)(ha:PD A X a ta)(hb:PD A X b tb)(hs:Ua b):PD A X (.Subscript a b pos) (dOp rd ta tb):=by exists (zN3 hi ha hb hs).imp λ_ _ _=>Uq hr
def ZS(ha:PD A X a ta)(he:∀whole,isTrue a X.env whole=(do let v <- whole;standAt a.pos;holding [v] (truthy v)):=by intro _;rfl):PTD A X a (zd6 ta):=by exists (xa5 ha he).imp λ_ _ _=>YL λ_ _ _ q=>q
def rdI(C:Int->Int->Prop)(g:Int->Int->D):RD2:=λd1 d2 k=>match d1,d2 with |.int i,.int j=>C i j/\k (g i j) |_,_=>False
def zL8{C:Int->Int->Prop}{g:Int->Int->D}{d1 d2:D}{k:D->Prop}(h:rdI C g d1 d2 k):∃i j,d1=.int i/\d2=.int j/\C i j/\k (g i j):=by
 unfold rdI at h
 split at h
 ·exact⟨_,_,rfl,rfl,h⟩
 ·exact h.elim
def zx0(g:Int->Int->D):RD2:=λd1 d2 k=>match d1,d2 with |.int i,.int j=>k (g i j) |_,_=>False
def zw9{g:Int->Int->D}{d1 d2:D}{k:D->Prop}(h:zx0 g d1 d2 k):∃i j,d1=.int i/\d2=.int j/\k (g i j):=by
 unfold zx0 at h
 split at h
 ·exact⟨_,_,rfl,rfl,h⟩
 ·exact h.elim
def zw7{C:Int->Int->Prop}{g:Int->Int->V}{gd:Int->Int->D}(hs:∀i j,kw (gd i j)=true)(hg:∀i j,ofS (gd i j)=g i j):kJ A (rI C g) (rdI C gd):=by
 rintro os n rho sg H ds vs d1 d2 v1 v2 k Q I hh hQ;obtain⟨i,j,rfl,rfl,hc,q⟩:=zL8 hh;obtain⟨I1,r2⟩:=I.pop;obtain⟨I2,r1⟩:=I1.pop
 exact⟨i,j,r1.int_inv,r2.int_inv,hc,hQ _ H _ ⟨os,I2.push (by rw[<- hg];exact Rep.ofS (hs i j))⟩ q⟩
def UC{g:Int->Int->V}{gd:Int->Int->D}(hs:∀i j,kw (gd i j)=true)(hg:∀i j,ofS (gd i j)=g i j):kJ A (rI0 g) (zx0 gd):=by
 rintro os n rho sg H ds vs d1 d2 v1 v2 k Q I hh hQ;obtain⟨i,j,rfl,rfl,q⟩:=zw9 hh;obtain⟨I1,r2⟩:=I.pop;obtain⟨I2,r1⟩:=I1.pop
 exact⟨i,j,r1.int_inv,r2.int_inv,hQ _ H _ ⟨os,I2.push (by rw[<- hg];exact Rep.ofS (hs i j))⟩ q⟩
abbrev xQ8:TD->TD->TD:=dOp (zx0 λi j=>.int (i+j))
abbrev xP7:TD->TD->TD:=dOp (zx0 λi j=>.int (i-j))
abbrev xQ2:TD->TD->TD:=dOp (rdI CMul λi j=>.int (i*j))
abbrev xQ3:TD->TD->TD:=dOp (rdI (λ_ j=>0<j) λi j=>.int (i%j))
abbrev xQ7:TD->TD->TD:=dOp (rdI xJ2 λi j=>.int (i/j))
abbrev xQ1:TD->TD->TD:=dOp (rdI xJ1 λi j=>.int (i^j.toNat))
def kH(ha:PD A X a ta)(hb:PD A X b tb):PD A X (.BinOp a .Add b pos) (xQ8 ta tb):=by exists Xl xc8 (UC (λ_ _=>rfl) λ_ _=>rfl) ha hb
def qd(ha:PD A X a ta)(hb:PD A X b tb):PD A X (.BinOp a .Sub b pos) (xP7 ta tb):=by exists Xl xc3 (UC (λ_ _=>rfl) λ_ _=>rfl) ha hb
def Zv(ha:PD A X a ta)(hb:PD A X b tb):PD A X (.BinOp a .Mult b pos) (xQ2 ta tb):=by exists Xl xc5 (zw7 (λ_ _=>rfl) λ_ _=>rfl) ha hb
def jE(ha:PD A X a ta)(hb:PD A X b tb):PD A X (.BinOp a .Mod b pos) (xQ3 ta tb):=by exists Xl xc6 (zw7 (λ_ _=>rfl) λ_ _=>rfl) ha hb
def Qp(ha:PD A X a ta)(hb:PD A X b tb):PD A X (.BinOp a .FloorDiv b pos) (xQ7 ta tb):=by exists Xl zO5 (zw7 (λ_ _=>rfl) λ_ _=>rfl) ha hb
def UG(ha:PD A X a ta)(hb:PD A X b tb):PD A X (.BinOp a .Pow b pos) (xQ1 ta tb):=by exists Xl xc4 (zw7 (λ_ _=>rfl) λ_ _=>rfl) ha hb
abbrev xK9:RD2:=zx0 λi j=>.bl (decide (i<j))
abbrev xL1:RD2:=zx0 λi j=>.bl (decide (j<i))
abbrev xL2:RD2:=zx0 λi j=>.bl (decide (j<=i))
def zL7:kJ A (rI0 λi j=>.bl (decide (i<j))) xK9:=UC (g:=λi j=>.bl (decide (i<j))) (λ_ _=>rfl) λ_ _=>rfl
def Xe:kJ A (rI0 λi j=>.bl (decide (j<i))) xL1:=UC (g:=λi j=>.bl (decide (j<i))) (λ_ _=>rfl) λ_ _=>rfl
def xq2:kJ A (rI0 λi j=>.bl (decide (j<=i))) xL2:=UC (g:=λi j=>.bl (decide (j<=i))) (λ_ _=>rfl) λ_ _=>rfl
def zL9:RD2:=λd1 d2 k=>kw d1=true/\kw d2=true/\xj3 (ofS d1) (ofS d2)=true/\k (.bl (decide (ofS d1=ofS d2)))
def zY2:RD2:=λd1 d2 k=>kw d1=true/\kw d2=true/\xj3 (ofS d1) (ofS d2)=true/\k (.bl (!decide (ofS d1=ofS d2)))
def Vv:kJ A rEq zL9:=by
 rintro os n rho sg H ds vs d1 d2 v1 v2 k Q I ⟨h1,h2,h3,q⟩ hQ;obtain⟨I1,r2⟩:=I.pop;obtain⟨I2,r1⟩:=I1.pop;rw[r1.toS h1,r2.toS h2];exact⟨h3,hQ _ H _ ⟨os,I2.push (Rep.ofS rfl)⟩ q⟩
def xq0:kJ A rNe zY2:=by
 rintro os n rho sg H ds vs d1 d2 v1 v2 k Q I ⟨h1,h2,h3,q⟩ hQ;obtain⟨I1,r2⟩:=I.pop;obtain⟨I2,r1⟩:=I1.pop;rw[r1.toS h1,r2.toS h2];exact⟨h3,hQ _ H _ ⟨os,I2.push (Rep.ofS rfl)⟩ q⟩
def jg:D->Bool
 |.non=>true
 |_=>false
theorem Rep.non_iff{K:W.Frag}{G:Option Addr}{Z:Addr->Prop}{H:Hp}{v:V}:∀{d:D},Rep K G Z H d v->decide (v=.non)=jg d
 |.non,h=>by unfold Rep at h;rw[h];rfl
 |.bl b,h=>by unfold Rep at h;rw[h];rfl
 |.int b,h=>by unfold Rep at h;rw[h];rfl
 |.str b,h=>by unfold Rep at h;rw[h];rfl
 |.ty b,h=>by unfold Rep at h;rw[h];rfl
 |.st,h=>by unfold Rep at h;obtain⟨a,_,h⟩:=h;rw[h];rfl
 |.tup ds,h=>by obtain⟨a,xs,h,_⟩:=h.tup_inv;rw[h];rfl
 |.lst ds,h=>by obtain⟨a,xs,h,_⟩:=h.lst_inv;rw[h];rfl
 |.own ds,h=>by unfold Rep at h;exact h.elim
 |.owT _ _,h=>by unfold Rep at h;exact h.elim
 |.fz ds,h=>by obtain⟨a,xs,h,_⟩:=h.fz_inv;rw[h];rfl
 |.dic,h=>by unfold Rep at h;obtain⟨a,kvs,h,_⟩:=h;rw[h];rfl
 |.prT _,h=>by unfold Rep at h;obtain⟨a,h,_⟩:=h;rw[h];rfl
 |.dct _ _,h=>by unfold Rep at h;obtain⟨a,xs,h,_⟩:=h;rw[h];rfl
def zY4:RD2:=λd1 d2 k=>d2=.non/\k (.bl (jg d1))
def zF8:RD2:=λd1 d2 k=>d2=.non/\k (.bl (!jg d1))
def qc:kJ A (λx y H Q=>y=.non/\Q (.bl (decide (x=.non))) H) zY4:=by
 rintro os n rho sg H ds vs d1 d2 v1 v2 k Q I ⟨rfl,q⟩ hQ;obtain⟨I1,r2⟩:=I.pop;obtain⟨I2,r1⟩:=I1.pop;have e:v2=.non:=r2.toS rfl
 exact⟨e,by rw[r1.non_iff];exact hQ _ H _ ⟨os,I2.push (Rep.ofS (d:=.bl (jg d1)) rfl)⟩ q⟩
def jV:kJ A (λx y H Q=>y=.non/\Q (.bl (!decide (x=.non))) H) zF8:=by
 rintro os n rho sg H ds vs d1 d2 v1 v2 k Q I ⟨rfl,q⟩ hQ;obtain⟨I1,r2⟩:=I.pop;obtain⟨I2,r1⟩:=I1.pop;have e:v2=.non:=r2.toS rfl
 exact⟨e,by rw[r1.non_iff];exact hQ _ H _ ⟨os,I2.push (Rep.ofS (d:=.bl (!jg d1)) rfl)⟩ q⟩
def rdB(f:Bool->Bool->Bool):RD2:=λd1 d2 k=>match d1,d2 with |.bl c,.bl d=>k (.bl (f c d)) |_,_=>False
def Wf:RD2:=λd1 d2 k=>∃es i d,(d1=.lst es\/d1=.tup es\/d1=.fz es)/\d2=.int i/\atI es i=some d/\k d
def VZ{K:W.Frag}{G:Option Addr}{Z:Addr->Prop}{H:Hp}{es:List D}{xs:List V}{i:Int}{d:D}(h:Reps K G Z H es xs)(e:atI es i=some d):∃v,atI xs i=some v/\Rep K G Z H d v:=by
 unfold atI at e ⊢;rw[h.length]
 cases q:ixN es.length i with
 |none=>rw[q] at e;cases e
 |some j=>
  rw[q] at e;exact h.get (i:=j) e
def wo:kJ A (rIx A.K) Wf:=by
 rintro os n rho sg H ds vs d1 d2 v1 v2 k Q I ⟨es,i,d,h1,rfl,h2,q⟩ hQ;obtain⟨I1,r2⟩:=I.pop;obtain⟨I2,r1⟩:=I1.pop
 rcases h1 with rfl |rfl |rfl
 ·obtain⟨a,xs,e,sq,rs⟩:=r1.lst_inv;obtain⟨v,e1,rv⟩:=VZ rs h2;exact .inl ⟨a,xs,i,v,e,r2.int_inv,sq.sq,e1,hQ v H d ⟨os,I2.push rv⟩ q⟩
 ·obtain⟨a,xs,e,sq,rs⟩:=r1.tup_inv;obtain⟨v,e1,rv⟩:=VZ rs h2;exact .inr (.inl ⟨a,xs,i,v,e,r2.int_inv,sq.sq,e1,hQ v H d ⟨os,I2.push rv⟩ q⟩)
 ·obtain⟨a,xs,e,sq,rs⟩:=r1.fz_inv;obtain⟨v,e1,rv⟩:=VZ rs h2;exact .inl ⟨a,xs,i,v,e,r2.int_inv,sq,e1,hQ v H d ⟨os,I2.push rv⟩ q⟩
def zZ0:RD2:=λd1 d2 k=>∃es fs,d1=.lst es/\d2=.lst fs/\es.length+fs.length<=sizeLine/\k (.lst (es++fs))
def Qd:kJ A xD0 zZ0:=by
 rintro os n rho sg H ds vs d1 d2 v1 v2 k Q I ⟨es,fs,rfl,rfl,hz,q⟩ hQ;obtain⟨I1,r2⟩:=I.pop;obtain⟨I2,r1⟩:=I1.pop;obtain⟨a,xs,e,sq,rs⟩:=r1.lst_inv;obtain⟨b,ys,e',sq',rs'⟩:=r2.lst_inv
 exact⟨a,b,xs,ys,e,e',sq.2,sq'.2,by rw[rs.length,rs'.length];exact hz,λp hp=>hQ _ _ _ ⟨os,I2.newLst (rs.append rs') hp⟩ q⟩
def zi3:RD2:=λd1 d2 k=>∃es i,d1=.tup es/\d2=.int i/\es≠[]/\1<=i/\es.length*i.toNat<=sizeLine/\k (.tup (replicate i.toNat es).flatten)
def zL6:kJ A (zZ1 A.K) zi3:=by
 rintro os n rho sg H ds vs d1 d2 v1 v2 k Q I ⟨es,i,rfl,rfl,hne,h1,hz,q⟩ hQ;obtain⟨I1,r2⟩:=I.pop;obtain⟨I2,r1⟩:=I1.pop;have r1':=r1;obtain⟨a,xs,e,sq,rs⟩:=r1.tup_inv;have hl:=rs.length
 refine⟨a,i,xs,e,r2.int_inv,sq.sq,λz=>hne ?_,h1,by rw[hl];exact hz,λhi=>?_,λhi p hp=>?_⟩
 ·rw[z] at hl;exact zX.mp hl.symm
 ·subst hi
  have e1:(replicate (1:Int).toNat es).flatten=es:=by simp
  rw[e1] at q;rw[e] at r1';exact hQ _ H _ ⟨os,I2.push r1'⟩ q
 ·exact hQ _ _ _ ⟨os,I2.newTup (rs.flatRep i.toNat) hp⟩ q
def zk1(ha:PD A X a ta):PD A X (.UnaryOp .USub a pos) (λrho n P=>ta rho n λd n'=>∃i,d=.int i/\P (.int (-i)) n'):=by
 exists (xy2 zV0 ha).imp λsg H Q h=>by
   obtain⟨rho,n,P,ds,vs,I,ht,hQ⟩:=h;refine⟨rho,n,_,ds,vs,I,ht,λv H' n' d ⟨os,J⟩ k=>?_⟩;obtain⟨i,rfl,k⟩:=k;obtain⟨J1,r⟩:=J.pop;exact⟨i,r.int_inv,hQ _ H' n' _ ⟨os,J1.push (Rep.ofS (d:=.int (-i)) rfl)⟩ k⟩
variable {t u:TBD}{rest:List Expr}
def xI6(t u:TBD):TBD:=λrho n P=>t rho n λc n1=>if c=true then u rho n1 P else P false n1
def bOr(t u:TBD):TBD:=λrho n P=>t rho n λc n1=>if c=true then P true n1 else u rho n1 P
def xI5(t:TBD):TBD:=λrho n P=>t rho n λc n1=>P (!c) n1
def jr(ha:PTD A X a t):PWD A X (.BoolOp .And [a] pos) t:=by exists zM3 ha
def Xg(ha:PTD A X a t):PWD A X (.BoolOp .Or [a] pos) t:=by exists xa2 ha
def jW(ha:PTD A X a t)(hb:PWD A X (.BoolOp .And (b::rest) pos) u):PWD A X (.BoolOp .And (a::b::rest) pos) (xI6 t u):=by
 exists (xa3 ha hb).imp λsg H Q h=>by
   obtain⟨rho,n,P,ds,vs,I,ht,hQ⟩:=h;refine⟨rho,n,_,ds,vs,I,ht,λc H' n' J k=>?_⟩
   cases c with
   |true=>exact⟨rho,n',P,ds,vs,J,k,hQ⟩
   |false=>exact hQ _ _ _ J k
def UE(ha:PTD A X a t)(hb:PWD A X (.BoolOp .Or (b::rest) pos) u):PWD A X (.BoolOp .Or (a::b::rest) pos) (bOr t u):=by
 exists (xx9 ha hb).imp λsg H Q h=>by
   obtain⟨rho,n,P,ds,vs,I,ht,hQ⟩:=h;refine⟨rho,n,_,ds,vs,I,ht,λc H' n' J k=>?_⟩
   cases c with
   |false=>exact⟨rho,n',P,ds,vs,J,k,hQ⟩
   |true=>exact hQ _ _ _ J k
def PWD.pt(h:PWD A X e t):PTD A X e t:=by exists PW.pt h
def zM6(ha:PTD A X a t):PTD A X (.UnaryOp .Not a pos) (xI5 t):=by
 exists (xa6 ha).imp λsg H Q h=>by
   obtain⟨rho,n,P,ds,vs,I,ht,hQ⟩:=h;exact⟨rho,n,_,ds,vs,I,ht,λc H' n' J k=>hQ _ _ _ J k⟩
def xI4(ta tb:TD):TD:=λrho n P=>ta rho n λd n1=>∃c,d=.bl c/\if c=true then tb rho n1 P else P (.bl false) n1
def dOr(ta tb:TD):TD:=λrho n P=>ta rho n λd n1=>∃c,d=.bl c/\if c=true then P (.bl true) n1 else tb rho n1 P
def xI2(ta:TD):TD:=λrho n P=>ta rho n λd n1=>∃c,d=.bl c/\P (.bl (!c)) n1
def xb9{op:BoolOp}(h:PD A X a ta):PD A X (.BoolOp op [a] pos) ta:=by exists xb4 h
def zG7(ha:PD A X a ta)(hb:PD A X (.BoolOp .And (b::rest) pos) tb):PD A X (.BoolOp .And (a::b::rest) pos) (xI4 ta tb):=by
 exists (xb7 ha hb).imp λsg H Q h=>by
   obtain⟨rho,n,P,ds,vs,I,ht,hQ⟩:=h;refine⟨rho,n,_,ds,vs,I,ht,λv H' n' d ⟨os,J⟩ k=>?_⟩;obtain⟨c,rfl,k⟩:=k;obtain⟨J1,r⟩:=J.pop;refine⟨c,r.bl_inv,?_⟩
   cases c with
   |true=>exact⟨rho,n',P,ds,vs,⟨os,J1⟩,k,hQ⟩
   |false=>exact hQ _ _ _ _ ⟨os,J1.push (Rep.ofS (d:=.bl false) rfl)⟩ k
def zG6(ha:PD A X a ta):PD A X (.UnaryOp .Not a pos) (xI2 ta):=by
 exists (xb5 ha).imp λsg H Q h=>by
   obtain⟨rho,n,P,ds,vs,I,ht,hQ⟩:=h;refine⟨rho,n,_,ds,vs,I,ht,λv H' n' d ⟨os,J⟩ k=>?_⟩;obtain⟨c,rfl,k⟩:=k;obtain⟨J1,r⟩:=J.pop;exact⟨c,r.bl_inv,hQ _ _ _ _ ⟨os,J1.push (Rep.ofS (d:=.bl (!c)) rfl)⟩ k⟩
def dIf(t:TBD)(ta tb:TD):TD:=λrho n P=>t rho n λc n1=>if c=true then ta rho n1 P else tb rho n1 P
def Wh(hc:PTD A X c t)(ha:PD A X a ta)(hb:PD A X b tb):PD A X (.IfExp c a b pos) (dIf t ta tb):=by
 exists (zy8 hc ha hb).imp λsg H Q h=>by
   obtain⟨rho,n,P,ds,vs,I,ht,hQ⟩:=h;refine⟨rho,n,_,ds,vs,I,ht,λc H' n' J k=>?_⟩
   cases c with
   |true=>exact⟨rho,n',P,ds,vs,J,k,hQ⟩
   |false=>exact⟨rho,n',P,ds,vs,J,k,hQ⟩
variable {t1:TAD}
def xB3:TAD:=λ_ n P=>P [] n
def xi8(t:TD)(r:TAD):TAD:=λrho n P=>t rho n λd n1=>r rho n1 λds n2=>P (d::ds) n2
def zj:PAD A X [] xB3:=by
 exists WI.imp λsg H Q h=>by
   obtain⟨rho,n,P,ds,vs,I,ht,hQ⟩:=h;exact hQ [] H n [] I rfl ht
def zw6{K:W.Frag}{G:Option Addr}{Z:Addr->Prop}{H:Hp}{es ds:List D}{ws vs:List V}{d:D}{v:V}(h:Reps K G Z H (es++d::ds) (ws++v::vs))(hl:ws.length=es.length):Reps K G Z H (d::es++ds) (v::ws++vs):=by
 have h1:=h.take es.length;have h2:=h.drop es.length;rw[take_left' rfl,take_left' hl] at h1;rw[yC rfl,yC hl] at h2;obtain⟨r,t⟩:=h2.inv;exact .cons r (h1.append t)
def qf:Expr->Bool
 |.Starred ..=>true
 |_=>false
def sE{e:Expr}{es:List Expr}{env:Env}(h:qf e=false):starEach (e::es) env=(false,eval e env)::starEach es env:=by
 cases e<;>first |(simp[starEach];done) |(simp[qf] at h;done)
def zc(ha:PD A X a ta)(hr:PAD A X es t1)(hs:qf a=false:=by rfl):PAD A X (a::es) (xi8 ta t1):=by
 exists (ZV ha hr (sE hs)).imp λsg H Q h=>by
   obtain⟨rho,n,P,ds,vs,I,ht,hQ⟩:=h;refine⟨rho,n,_,ds,vs,I,ht,λv H' n' d J k=>⟨rho,n',_,d::ds,v::vs,J,k,λws H2 n2 es' ⟨os,J2⟩ hl k2=>?_⟩⟩
   exact hQ (v::ws) H2 n2 (d::es') ⟨os,J2.pends (zw6 J2.pend hl)⟩ (by rw[zK,zK,hl]) k2
def YM{K:W.Frag}{G:Option Addr}{Z:Addr->Prop}{H:Hp}{es ds:List D}{ws vs:List V}(h:Reps K G Z H (es++ds) (ws++vs))(hl:ws.length=es.length):Reps K G Z H es ws/\Reps K G Z H ds vs:=by
 have h1:=h.take es.length;have h2:=h.drop es.length;rw[take_left' rfl,take_left' hl] at h1;rw[yC rfl,yC hl] at h2;exact⟨h1,h2⟩
def xI0(t:TAD):TD:=λrho n P=>t rho n λds n1=>ds.length<=sizeLine/\P (.tup ds) n1
def xB0(t:TAD):TD:=λrho n P=>t rho n λds n1=>ds.length<=sizeLine/\P (.lst ds) n1
def yV{x1}(h:PAD A X es t1):PD A X (.Tuple es x1 pos) (xI0 t1):=by
 exists (zG4 h).imp λsg H Q h=>by
   obtain⟨rho,n,P,ds,vs,I,ht,hQ⟩:=h
   refine⟨rho,n,_,ds,vs,I,ht,λws H' n' es' ⟨os,J⟩ hl k=>⟨by rw[hl];exact k.1,λp hp=>?_⟩⟩
   obtain⟨q1,q2⟩:=YM J.pend hl;exact hQ _ _ n' _ ⟨os,(J.pends q2).newTup q1 hp⟩ k.2
def vM(h:PAD A X es t1):PD A X (.List es pos) (xB0 t1):=by
 exists (zj8 h).imp λsg H Q h=>by
   obtain⟨rho,n,P,ds,vs,I,ht,hQ⟩:=h
   refine⟨rho,n,_,ds,vs,I,ht,λws H' n' es' ⟨os,J⟩ hl k=>⟨by rw[hl];exact k.1,λp hp=>?_⟩⟩
   obtain⟨q1,q2⟩:=YM J.pend hl;exact hQ _ _ n' _ ⟨os,(J.pends q2).newLst q1 hp⟩ k.2
def vE(A:AC)(r:List V->Hp->VK->Prop)(rd:List D->(D->Prop)->Prop):Prop:=
 ∀os n rho sg H ds vs es ws (k:D->Prop) (Q:VK),AmO A os n rho sg H ds vs->Reps A.K A.G (Zof A os) H es ws->rd es k->(∀v H' d,Am A n rho sg H' (d::ds) (v::vs)->k d->Q v H')->r ws H Q
def zD9(rd:List D->(D->Prop)->Prop)(t:TAD):TD:=λrho n P=>t rho n λes n1=>rd es λd=>P d n1
def zF5{r:List V->Hp->VK->Prop}{rd:List D->(D->Prop)->Prop}(hr:vE A r rd){sg:St}{H:Hp}{Q:VK}(h:tOf A (zD9 rd t1) sg H Q):tCB r (xB7 A t1) sg H Q:=by
 obtain⟨rho,n,P,ds,vs,I,ht,hQ⟩:=h;refine⟨rho,n,_,ds,vs,I,ht,λws H' n' es' ⟨os,J⟩ hl k=>?_⟩;obtain⟨q1,q2⟩:=YM J.pend hl;exact hr _ _ _ _ _ _ _ _ _ _ Q (J.pends q2) q1 k λv H2 d J2 k2=>hQ v H2 n' d J2 k2
def wc{x:Str}{p:Pos}{id:String}{r:List V->Hp->VK->Prop}{rd:List D->(D->Prop)->Prop}(hc:qo X (.builtin id) r)(hr:vE A r rd)(hm:X.mg x=none)(hv:bootBuiltins x=some (.builtin id))(ha:PAD A X (e::es) t1)(hg:Gl X x:=by rfl)(hn:x ≠ "__name__" := by decide)(hdb:(x == ("__debug__" : Str))=false:=by decide)
  (he:starEach (e::es) X.env=(false,eval e X.env)::starEach es X.env:=by rfl) (hpl:(backTo pos (starEach es X.env)).any (·.1)=false:=by rfl):PD A X (.Call (.Name x p) (e::es) [] pos) (zD9 rd t1):=by
 exists 
   (VB hc hg hm hv ha hn hdb he hpl).imp λ_ _ _=>zF5 hr
def vf{x:Str}{p:Pos}{T:String}{r:List V->Hp->VK->Prop}{rd:List D->(D->Prop)->Prop}(hc:qo X (.type T) r)(hr:vE A r rd)(hm:X.mg x=none)(hv:bootBuiltins x=some (.type T))(ha:PAD A X (e::es) t1)(hg:Gl X x:=by rfl)(hn:x ≠ "__name__" := by decide)(hdb:(x == ("__debug__" : Str))=false:=by decide)
  (he:starEach (e::es) X.env=(false,eval e X.env)::starEach es X.env:=by rfl) (hpl:(backTo pos (starEach es X.env)).any (·.1)=false:=by rfl):PD A X (.Call (.Name x p) (e::es) [] pos) (zD9 rd t1):=by
 exists 
   (UF hc hg hm hv ha hn hdb he hpl).imp λ_ _ _=>zF5 hr
def qq{K:W.Frag}{G:Option Addr}{Z:Addr->Prop}{H:Hp}{d:D}{ws:List V}(h:Reps K G Z H [d] ws):∃v,ws=[v]/\Rep K G Z H d v:=by
 obtain⟨v,r,rfl,q,t⟩:=h.split;rw[t.nil_inv];exact⟨v,rfl,q⟩
def UB{K:W.Frag}{G:Option Addr}{Z:Addr->Prop}{H:Hp}{d d':D}{ws:List V}(h:Reps K G Z H [d,d'] ws):∃v v',ws=[v,v']/\Rep K G Z H d v/\Rep K G Z H d' v':=by
 obtain⟨v,r,rfl,q,t⟩:=h.split;obtain⟨v',rfl,q'⟩:=qq t;exact⟨v,v',rfl,q,q'⟩
def zI0:List D->(D->Prop)->Prop:=λes k=>∃fs,(es=[.lst fs]\/es=[.tup fs]\/es=[.fz fs])/\k (.int fs.length)
def xH8:List D->(D->Prop)->Prop:=λes k=>∃i,es=[.int i]/\k (.int (if i<0 then -i else i))
def xf7:List D->(D->Prop)->Prop:=λes k=>∃c,es=[.bl c]/\k (.int (if c then 1 else 0))
def xP0:List D->(D->Prop)->Prop:=λes k=>∃bs:List Bool,es=[.lst (bs.map D.bl)]/\k (.bl (bs.any id))
def zo2:List D->(D->Prop)->Prop:=λes k=>∃fs,(es=[.lst fs]\/es=[.tup fs])/\k (.tup fs)
def zR4:List D->(D->Prop)->Prop:=λes k=>∃fs,(es=[.lst fs]\/es=[.tup fs])/\k (.lst fs)
def kI:vE A (λxs H Q=>∃p ys,xs=[.ref p]/\(SqL A.K H p ys\/SqT A.K H p ys)/\Q (.int ys.length) H) zI0:=by
 rintro os n rho sg H ds vs es ws k Q I rs ⟨fs,h,q⟩ hQ
 rcases h with rfl |rfl |rfl
 ·obtain ⟨v, rfl, r⟩ := qq rs;obtain⟨a,xs,rfl,sq,rr⟩:=r.lst_inv
  exact⟨a,xs,rfl,.inl sq.sq,by rw[rr.length];exact hQ _ H _ ⟨os,I.push (Rep.ofS rfl)⟩ q⟩
 ·obtain ⟨v, rfl, r⟩ := qq rs;obtain⟨a,xs,rfl,sq,rr⟩:=r.tup_inv
  exact⟨a,xs,rfl,.inr sq.sq,by rw[rr.length];exact hQ _ H _ ⟨os,I.push (Rep.ofS rfl)⟩ q⟩
 ·obtain ⟨v, rfl, r⟩ := qq rs;obtain⟨a,xs,rfl,sq,rr⟩:=r.fz_inv
  exact⟨a,xs,rfl,.inl sq,by rw[rr.length];exact hQ _ H _ ⟨os,I.push (Rep.ofS rfl)⟩ q⟩
def zJ4:vE A (λxs H Q=>∃i,xs=[.int i]/\Q (.int (if i<0 then -i else i)) H) xH8:=by
 rintro os n rho sg H ds vs es ws k Q I rs ⟨i,rfl,q⟩ hQ;obtain⟨v,rfl,r⟩:=qq rs
 exact⟨i,by rw[r.int_inv],hQ _ H _ ⟨os,I.push (Rep.ofS rfl)⟩ q⟩
def JA:vE A (λxs H Q=>(∃i,xs=[.int i]/\Q (.int i) H)\/∃k,xs=[.bl k]/\Q (.int (if k then 1 else 0)) H) xf7:=by
 rintro os n rho sg H ds vs es ws k Q I rs ⟨i,rfl,q⟩ hQ;obtain⟨v,rfl,r⟩:=qq rs
 exact .inr ⟨i,by rw[r.bl_inv],hQ _ H _ ⟨os,I.push (Rep.ofS rfl)⟩ q⟩
theorem WF{K:W.Frag}{G:Option Addr}{Z:Addr->Prop}{H:Hp}:∀{bs:List Bool}{ws:List V},Reps K G Z H (bs.map D.bl) ws->ws=bs.map V.bl
 |[],ws,h=>h.nil_inv
 |b::bs,ws,h=>by
  obtain⟨v,r,rfl,q,t⟩:=h.split;rw[q.bl_inv,WF t];rfl
def zJ3:vE A (λxs H Q=>∃(p:Addr) (bs:List Bool),xs=[.ref p]/\SqL A.K H p (bs.map V.bl)/\Q (.bl (bs.any id)) H) xP0:=by
 rintro os n rho sg H ds vs es ws k Q I rs ⟨bs,rfl,q⟩ hQ;obtain⟨v,rfl,r⟩:=qq rs;obtain⟨a,xs,rfl,sq,rr⟩:=r.lst_inv;have e:=WF rr;subst e;exact⟨a,bs,rfl,sq.sq,hQ _ H _ ⟨os,I.push (Rep.ofS rfl)⟩ q⟩
def ka:vE A (λxs H Q=>∃p ys,xs=[.ref p]/\((SqL A.K H p ys/\∀l,H l=none->Q (.ref l) (upd H l (.tup ys)))\/(SqT A.K H p ys/\Q (.ref p) H))) zo2:=by
 rintro os n rho sg H ds vs es ws k Q I rs ⟨fs,h,q⟩ hQ
 rcases h with rfl |rfl
 ·obtain⟨v,rfl,r⟩:=qq rs;obtain⟨a,xs,rfl,sq,rr⟩:=r.lst_inv;exact⟨a,xs,rfl,.inl ⟨sq.sq,λl hl=>hQ _ _ _ ⟨os,I.newTup rr hl⟩ q⟩⟩
 ·obtain⟨v,rfl,r⟩:=qq rs;have r':=r;obtain⟨a,xs,rfl,sq,rr⟩:=r.tup_inv;exact⟨a,xs,rfl,.inr ⟨sq.sq,hQ _ _ _ ⟨os,I.push r'⟩ q⟩⟩
def zT0:vE A (λxs H Q=>∃p ys,xs=[.ref p]/\(SqL A.K H p ys\/SqT A.K H p ys)/\∀l,H l=none->Q (.ref l) (upd H l (.lst ys))) zR4:=by
 rintro os n rho sg H ds vs es ws k Q I rs ⟨fs,h,q⟩ hQ
 rcases h with rfl |rfl
 ·obtain⟨v,rfl,r⟩:=qq rs;obtain⟨a,xs,rfl,sq,rr⟩:=r.lst_inv;exact⟨a,xs,rfl,.inl sq.sq,λl hl=>hQ _ _ _ ⟨os,I.newLst rr hl⟩ q⟩
 ·obtain⟨v,rfl,r⟩:=qq rs;obtain⟨a,xs,rfl,sq,rr⟩:=r.tup_inv;exact⟨a,xs,rfl,.inr sq.sq,λl hl=>hQ _ _ _ ⟨os,I.newLst rr hl⟩ q⟩
def zR7(T:String):D->Bool
 |.bl _=>T == "bool" || T == "int"
 |.int _=>T == "int"
 |.str _=>T == "str"
 |.tup _=>T == "tuple"
 |.lst _=>T == "list"
 |_=>false
def VV:D->Bool
 |.non=>true |.bl _=>true |.int _=>true |.str _=>true |.tup _=>true |.lst _=>true |.dic=>true |_=>false
def zU6:List D->(D->Prop)->Prop:=λes k=>∃d T,es=[d,.ty T]/\(T = "bool" \/ T = "int" \/ T = "str" \/ T = "tuple" \/ T = "list")/\VV d=true/\k (.bl (zR7 T d))
end
section
variable {A:AC}{os:List (Nat × Addr)}{n:Nat}{rho:Rho}{sg:St}{H:Hp}{ds es:List D}{vs ws:List V}{d:D}{v:V}
def AmO.split(I:AmO A os n rho sg H (es++ds) (ws++vs))(hl:ws.length=es.length):AmO A os n rho sg H ds vs/\Reps A.K A.G (Zof A os) H es ws:=
 let ⟨q1,q2⟩:=YM I.pend hl
 ⟨I.pends q2,q1⟩
def AmO.join(I:AmO A os n rho sg H ds vs)(h:Reps A.K A.G (Zof A os) H es ws):AmO A os n rho sg H (es++ds) (ws++vs):=I.pends (h.append I.pend)
def AmO.under(I:AmO A os n rho sg H (d::(es++ds)) (v::(ws++vs)))(hl:ws.length=es.length):AmO A os n rho sg H (d::ds) (v::vs):=by
 obtain⟨J,r⟩:=I.pop;exact(J.split hl).1.push r
def AmO.front(m:Nat)(I:AmO A os n rho sg H ds vs):AmO A (os.map λp=>(p.1+m,p.2)) n (replicate m none++rho) (replicate m none++sg) H ds vs:=by
 have zz:∀a,Zof A (os.map λp=>(p.1+m,p.2)) a->Zof A os a:=λa z=>by
  rcases z with z |⟨p,hp,e⟩
  ·exact .inl z
  ·obtain⟨q,hq,rfl⟩:=zk.mp hp;exact .inr ⟨q,hq,e⟩
 refine⟨by simp[I.len],λi c e=>?_,Reps.mono (λa _ z=>zz a z) (λ_ _ _ e=>e) _ _ I.pend,?_,λp hp=>?_,I.st,I.gz,I.fr,I.z0⟩
 ·have hi : m <= i := by
   apply yh;intro hlt
   rw[xv (by simpa using hlt),xi,if_pos hlt] at e
   cases e
  rw[xk (by simpa using hi),xu] at e
  obtain⟨u,e1,e2⟩:=I.slot _ c e
  refine⟨u,by rw[xk (by simpa using hi),xu];exact e1,?_⟩
  have key:∀j,j+m=i->SlotR A os H j c u->SlotR A (os.map λp=>(p.1+m,p.2)) H i c u:=λj hj h=>by
   subst hj
   cases c with
   |own fs=>
    obtain⟨a,xs,q1,q2,q3,q4⟩:=h;exact⟨a,xs,q1,zk.mpr ⟨_,q2,rfl⟩,q3,Reps.mono (λa _ z=>zz a z) (λ_ _ _ e=>e) _ _ q4⟩
   |owT ks fs=>
    obtain⟨a,xs,q1,q2,q3,ql,q4⟩:=h;exact⟨a,xs,q1,zk.mpr ⟨_,q2,rfl⟩,q3,ql,Reps.mono (λa _ z=>zz a z) (λ_ _ _ e=>e) _ _ q4⟩
   |non=>exact Rep.mono (λa _ z=>zz a z) (λ_ _ _ e=>e) _ _ h
   |bl _=>exact Rep.mono (λa _ z=>zz a z) (λ_ _ _ e=>e) _ _ h
   |int _=>exact Rep.mono (λa _ z=>zz a z) (λ_ _ _ e=>e) _ _ h
   |str _=>exact Rep.mono (λa _ z=>zz a z) (λ_ _ _ e=>e) _ _ h
   |ty _=>exact Rep.mono (λa _ z=>zz a z) (λ_ _ _ e=>e) _ _ h
   |tup _=>exact Rep.mono (λa _ z=>zz a z) (λ_ _ _ e=>e) _ _ h
   |lst _=>exact Rep.mono (λa _ z=>zz a z) (λ_ _ _ e=>e) _ _ h
   |st=>exact Rep.mono (λa _ z=>zz a z) (λ_ _ _ e=>e) _ _ h
   |fz _=>exact Rep.mono (λa _ z=>zz a z) (λ_ _ _ e=>e) _ _ h
   |dic=>exact Rep.mono (λa _ z=>zz a z) (λ_ _ _ e=>e) _ _ h
   |prT _=>exact Rep.mono (λa _ z=>zz a z) (λ_ _ _ e=>e) _ _ h
   |dct _ _=>exact Rep.mono (λa _ z=>zz a z) (λ_ _ _ e=>e) _ _ h
  exact key (i-m) w5 e2
 ·rw [xG]
  exact I.nd.imp λ{p q} h=>⟨λz=>h.1 (by simpa using z),h.2⟩
 ·obtain⟨q,hq,rfl⟩:=zk.mp hp;exact I.fresh q hq
def AmO.back{m:Nat}{rho':Rho}{sg':St}(I:AmO A os n rho' sg' H ds vs)(h1:rho'.drop m=rho)(h2:sg'.drop m=sg):∃os',AmO A os' n rho sg H ds vs:=by
 refine⟨(os.filter λp=>decide (m<=p.1)).map λp=>(p.1-m,p.2),?_⟩
 have zz:∀a,Zof A ((os.filter λp=>decide (m<=p.1)).map λp=>(p.1-m,p.2)) a->Zof A os a:=λa z=>by
  rcases z with z |⟨p,hp,e⟩
  ·exact .inl z
  ·obtain⟨q,hq,rfl⟩:=zk.mp hp;exact .inr ⟨q,(zx.mp hq).1,e⟩
 subst h1 h2
 refine⟨by simp[I.len],λi c e=>?_,Reps.mono (λa _ z=>zz a z) (λ_ _ _ e=>e) _ _ I.pend,?_,λp hp=>?_,I.st,I.gz,I.fr,I.z0⟩
 ·rw [yl] at e;obtain⟨u,e1,e2⟩:=I.slot _ c e
  refine⟨u,by rw[yl];exact e1,?_⟩
  cases c with
  |own fs=>
   obtain⟨a,xs,q1,q2,q3,q4⟩:=e2
   exact⟨a,xs,q1,zk.mpr ⟨_,zx.mpr ⟨q2,by simp⟩,by simp⟩,q3,Reps.mono (λa _ z=>zz a z) (λ_ _ _ e=>e) _ _ q4⟩
  |owT ks fs=>
   obtain⟨a,xs,q1,q2,q3,ql,q4⟩:=e2
   exact⟨a,xs,q1,zk.mpr ⟨_,zx.mpr ⟨q2,by simp⟩,by simp⟩,q3,ql,Reps.mono (λa _ z=>zz a z) (λ_ _ _ e=>e) _ _ q4⟩
  |non=>exact Rep.mono (λa _ z=>zz a z) (λ_ _ _ e=>e) _ _ e2
  |bl _=>exact Rep.mono (λa _ z=>zz a z) (λ_ _ _ e=>e) _ _ e2
  |int _=>exact Rep.mono (λa _ z=>zz a z) (λ_ _ _ e=>e) _ _ e2
  |str _=>exact Rep.mono (λa _ z=>zz a z) (λ_ _ _ e=>e) _ _ e2
  |ty _=>exact Rep.mono (λa _ z=>zz a z) (λ_ _ _ e=>e) _ _ e2
  |tup _=>exact Rep.mono (λa _ z=>zz a z) (λ_ _ _ e=>e) _ _ e2
  |lst _=>exact Rep.mono (λa _ z=>zz a z) (λ_ _ _ e=>e) _ _ e2
  |st=>exact Rep.mono (λa _ z=>zz a z) (λ_ _ _ e=>e) _ _ e2
  |fz _=>exact Rep.mono (λa _ z=>zz a z) (λ_ _ _ e=>e) _ _ e2
  |dic=>exact Rep.mono (λa _ z=>zz a z) (λ_ _ _ e=>e) _ _ e2
  |prT _=>exact Rep.mono (λa _ z=>zz a z) (λ_ _ _ e=>e) _ _ e2
  |dct _ _=>exact Rep.mono (λa _ z=>zz a z) (λ_ _ _ e=>e) _ _ e2
 ·rw [xG, List.pairwise_filter];refine I.nd.imp λ{p q} h hp hq=>⟨λz=>h.1 ?_,h.2⟩
  have a1:m<=p.1:=by simpa using hp
  have a2:m<=q.1:=by simpa using hq
  have z':p.1-m=q.1-m:=z;lia
 ·obtain⟨q,hq,rfl⟩:=zk.mp hp;exact I.fresh q (zx.mp hq).1
end
abbrev TGD:=D->Rho->(Rho->Prop)->Prop
abbrev zE8:=List D->Rho->(Rho->Prop)->Prop
def gOf(A:AC)(m:Nat)(g:TGD):TG:=λv sg H Q=>∃rho n P d ds vs,Am A n rho sg H (d::ds) (v::vs)/\g d rho P/\∀rho' sg',Am A n rho' sg' H ds vs->sg'.drop m=sg.drop m->P rho'->Q sg' H
def xP3(A:AC)(m:Nat)(g:zE8):TGs:=λus sg H Q=>∃rho n P es ds vs,Am A n rho sg H (es++ds) (us++vs)/\us.length=es.length/\g es rho P/\∀rho' sg',Am A n rho' sg' H ds vs->sg'.drop m=sg.drop m->P rho'->Q sg' H
@[irreducible] def PGD(A:AC)(X:Cx)(m:Nat)(tg:Expr)(g:TGD):Prop:=PG X tg (gOf A m g)
@[irreducible] def xo0(A:AC)(X:Cx)(m:Nat)(tg:List Expr)(g:zE8):Prop:=PGs X tg (xP3 A m g)
def PG.imp{X:Cx}{tg:Expr}{g g':TG}(h:PG X tg g)(hi:∀v sg H Q,g' v sg H Q->g v sg H Q):PG X tg g':=λpins s sg H v u Q I r q=>h pins s sg H v u Q I r (hi _ _ _ _ q)
def PGs.imp{X:Cx}{tg:List Expr}{g g':TGs}(h:PGs X tg g)(hi:∀v sg H Q,g' v sg H Q->g v sg H Q):PGs X tg g':=λpins s sg H v u Q I r q=>h pins s sg H v u Q I r (hi _ _ _ _ q)
section
variable {A:AC}{X:Cx}{m:Nat}{pos:Pos}
def zI2(i:Nat):TGD:=λd rho P=>i<rho.length/\P (rho.set i (some d))
def zV{i:Nat}{x:Str}(hN:X.N.Nodup)(hi:X.N[i]?=some x)(hx:Loc X.env.scope x)(hm:i<m)(hf:X.fn x=true\/X.env.scope.names.lookup x=some .local:=by first |exact .inl rfl |exact .inr rfl |assumption):PGD A X m (.Name x pos) (zI2 i):=by
 exists 
   (zN2 hN hi hx hf).imp λv sg H Q h => by
    obtain⟨rho,n,P,d,ds,vs,⟨os,I⟩,⟨hl,k⟩,hQ⟩:=h;refine hQ (rho.set i (some d)) (sg.set i (some v)) ⟨_,I.set hl⟩ ?_ k;rw[List.drop_set_of_lt hm]
def xg9:zE8:=λes rho P=>es=[]/\P rho
def zI3(g:TGD)(gs:zE8):zE8:=λes rho P=>∃d r,es=d::r/\g d rho λrho'=>gs r rho' P
def yR:xo0 A X m [] xg9:=by
 exists zN1.imp λus sg H Q h=>by
   obtain⟨rho,n,P,es,ds,vs,I,hl,⟨rfl,k⟩,hQ⟩:=h;have e:us=[]:=zX.mp hl;subst e;exact⟨rfl,hQ rho sg I rfl k⟩
def xl{e:Expr}{es:List Expr}{g:TGD}{gs:zE8}(h1:PGD A X m e g)(h2:xo0 A X m es gs)(hs:(assignEach (e::es) X.env).map (·.2)=assign e X.env::(assignEach es X.env).map (·.2):=by rfl):xo0 A X m (e::es) (zI3 g gs):=by
 exists 
   (zy6 h1 h2 hs).imp λus sg H Q h => by
    obtain⟨rho,n,P,es',ds,vs,I,hl,⟨d,r,rfl,k⟩,hQ⟩:=h
    cases us with
    |nil=>simp at hl
    |cons u us=>
     refine⟨u,us,rfl,⟨rho,n,_,d,r++ds,us++vs,I,k,λrho' sg' I' e1 k'=>⟨rho',n,P,r,ds,vs,I',by simpa using hl,k',λrho2 sg2 I2 e2 k2=>hQ rho2 sg2 I2 (e2.trans e1) k2⟩⟩⟩
def xg8(k:Nat)(gs:zE8):TGD:=λd rho P=>∃es,d=.tup es/\es.length=k/\gs es rho P
def vp{es:List Expr}{k:Nat}{gs:zE8}{kt:Nat}(hK:X.K=A.K)(hc:X.calm=true)(h:xo0 A X m es gs)(hn:(assignEach es X.env).length=k:=by rfl)(hst:(assignEach es X.env).findIdx? (·.1)=none:=by rfl):PGD A X m (.Tuple es kt pos) (xg8 k gs):=by
 exists 
   (xb1 (n := k) hc h hn hst).imp λv sg H Q h => by
    obtain⟨rho,n,P,d,ds,vs,⟨os,I⟩,⟨fs,rfl,hl,q⟩,hQ⟩:=h;obtain⟨J,r⟩:=I.pop;obtain⟨a,xs,rfl,sq,rs⟩:=r.tup_inv;have hx:=rs.length;rw[hK]
    exact⟨a,xs,rfl,sq.sq,by rw[hx];exact hl,rho,n,P,fs,ds,vs,⟨os,J.join rs⟩,hx,q,hQ⟩
end
abbrev TID:=Rho->Nat->(List D->Nat->Prop)->Prop
def JIs(A:AC)(J:It)(es:List D)(ws:List V)(items:List D):Prop:=∀n rho sg H ds vs i,Am A n rho sg H (es++ds) (ws++vs) ->
 (∀d,items[i]?=some d->J.go i H/\∀x H',J.yld i H x H'->Am A n rho sg H' (d::(es++ds)) (x::(ws++vs)))/\(items.length<=i->J.stop i H)
def iOf(A:AC)(it:TID):TI:=λsg H R=>∃rho n P ds vs,Am A n rho sg H ds vs/\it rho n P/\∀J H' n' items es ws,Am A n' rho sg H' (es++ds) (ws++vs)->ws.length=es.length->JIs A J es ws items->P items n'->R J H'
@[irreducible] def PID(A:AC)(X:Cx)(tg iter:Expr)(it:TID):Prop:=PI X tg iter (iOf A it)
def PI.imp{X:Cx}{tg e:Expr}{t t':TI}(h:PI X tg e t)(hi:∀sg H Q,t' sg H Q->t sg H Q):PI X tg e t':=λpins s sg H Q I q=>h pins s sg H Q I (hi _ _ _ q)
section
variable {A:AC}{X:Cx}{tg a b:Expr}{ta tb:TD}{pos p:Pos}{t1:TAD}
def Je(lo:Int)(k:Nat):List D:=(List.range k).map fun(i:Nat)=>D.int (lo+(i:Int))
def xg4(t:TAD):TID:=λrho n P=>t rho n λes n1=>∃j:Int,es=[.int j]/\-(2^62)<=j/\j<2^62/\P (Je 0 j.toNat) n1
def zR6{lo:Int}{k:Nat}:JIs A (Itr lo k) [] [] (Je lo k):=λn2 rho2 sg2 H2 ds2 vs2 i ⟨os2,I2⟩=>by
 refine⟨λd e=>?_,λhi=>?_⟩
 ·unfold Je at e;rw[zt] at e
  cases q:(List.range k)[i]? with
  |none=>rw[q] at e;cases e
  |some j=>
   rw[q] at e;cases e;have hj:=zn.mp q;obtain⟨hlt,ej⟩:=hj;rw[List.getElem_range] at ej;subst ej
   refine⟨(show i<k by simpa using hlt),λx H3 y=>?_⟩
   obtain⟨e3,e4⟩:=y;subst e3 e4;exact⟨os2,I2.push (Rep.ofS (d:=.int (lo+i)) rfl)⟩
 ·unfold Je at hi
  exact(show k<=i by simpa using hi)
def qF(hm:X.mg "range" = none)(ha:PAD A X [a] t1)(hg:Gl X "range" := by rfl)(hs:starEach [a] X.env=[(false,eval a X.env)]:=by rfl):PID A X tg (.Call (.Name "range" p) [a] [] pos) (xg4 t1):=by
 exists 
   (zj7 hg hm ha hs).imp λsg H R h => by
    obtain⟨rho,n,P,ds,vs,I,ht,hQ⟩:=h;refine⟨rho,n,_,ds,vs,I,ht,λws H' n' es' ⟨os,J⟩ hl k=>?_⟩;obtain⟨j,rfl,h1,h2,k⟩:=k;obtain⟨J1,rs⟩:=J.split hl;obtain⟨v,rfl,r⟩:=qq rs
    exact⟨j,by rw[r.int_inv],h1,h2,hQ _ H' n' _ [] [] ⟨os,J1⟩ rfl zR6 k⟩
def YZ:D->Option (Bool × List D)
 |.lst es=>some (true,es)
 |.tup es=>some (false,es)
 |_=>none
theorem Rep.seq{K:W.Frag}{G:Option Addr}{Z:Addr->Prop}{H:Hp}{v:V}{b:Bool}{es:List D}:∀{d:D},YZ d=some (b,es)->Rep K G Z H d v->∃a xs,v=.ref a/\SqZ K Z H b a xs/\Reps K G Z H es xs
 |.lst fs,h,r=>by cases h;exact r.lst_inv
 |.tup fs,h,r=>by cases h;exact r.tup_inv
 |.non,h,_=>by cases h
 |.bl _,h,_=>by cases h
 |.int _,h,_=>by cases h
 |.str _,h,_=>by cases h
 |.ty _,h,_=>by cases h
 |.st,h,_=>by cases h
 |.own _,h,_=>by cases h
 |.owT _ _,h,_=>by cases h
 |.prT _,h,_=>by cases h
 |.fz _,h,_=>by cases h
def Uj(xs ys:List D):List D:=List.zipWith (λx y=>D.tup [x,y]) xs ys
def xg2(t:TAD):TID:=λrho n P=>t rho n λes n1=>∃d1 d2 b1 xs b2 ys,es=[d1,d2]/\YZ d1=some (b1,xs)/\YZ d2=some (b2,ys)/\P (Uj xs ys) n1
def zR5{d1 d2:D}{l1 l2:Addr}{b1 b2:Bool}{xs ys:List D}(h1:YZ d1=some (b1,xs))(h2:YZ d2=some (b2,ys)):JIs A (Itz A.K b1 b2 l1 l2) [d1,d2] [.ref l1,.ref l2] (Uj xs ys):=λn rho sg H ds vs i ⟨os,I⟩=>by
 obtain⟨I1,r1⟩:=AmO.pop (d:=d1) (v:=.ref l1) (ds:=d2::ds) (vs:=.ref l2::vs) I;obtain⟨I2,r2⟩:=I1.pop;obtain⟨a1,us,e1,sq1,rs1⟩:=r1.seq h1;obtain⟨a2,ws,e2,sq2,rs2⟩:=r2.seq h2;cases e1;cases e2;refine⟨λd e=>?_,λhi=>⟨us,ws,sq1.sq,sq2.sq,?_⟩⟩
 ·unfold Uj at e;rw[List.getElem?_zipWith] at e
  cases q1:xs[i]? with
  |none=>rw[q1] at e;cases e
  | some x =>
   cases q2:ys[i]? with
   |none=>rw[q1,q2] at e;cases e
   |some y=>
    rw[q1,q2] at e;cases e;obtain⟨u,eu,ru⟩:=rs1.get q1;obtain⟨w,ew,rw'⟩:=rs2.get q2;refine⟨⟨us,ws,u,w,sq1.sq,sq2.sq,eu,ew⟩,λv H3 yy=>?_⟩;obtain⟨T,hT,rfl,k⟩:=yy;obtain⟨u',w',eu',ew',rfl⟩:=k us ws sq1.sq sq2.sq;rw[eu] at eu';cases eu';rw[ew] at ew';cases ew';exact⟨os,I.newTup (.cons ru (.cons rw' .nil)) hT⟩
 ·rw[rs1.length,rs2.length];unfold Uj at hi;rw[wt] at hi;lia
def VA{es:List Expr}{kk:Nat}{ps:Pos}(hK:X.K=A.K)(hm:X.mg "zip" = none)(ha:PAD A X [a,b] t1)(hg:Gl X "zip" := by rfl)(hs:starEach [a,b] X.env=[(false,eval a X.env),(false,eval b X.env)]:=by rfl)(hs2:starEach [b] X.env=[(false,eval b X.env)]:=by rfl) :
  PID A X (.Tuple es kk ps) (.Call (.Name "zip" p) [a,b] [] pos) (xg2 t1):=by
 exists (xb0 hg hm ha hs hs2).imp λsg H R h=>by
   obtain⟨rho,n,P,ds,vs,I,ht,hQ⟩:=h;refine⟨rho,n,_,ds,vs,I,ht,λws H' n' es' ⟨os,J⟩ hl k=>?_⟩;obtain⟨d1,d2,b1,xs,b2,ys,rfl,h1,h2,k⟩:=k;obtain⟨J1,rs⟩:=J.split hl;obtain⟨v1,v2,rfl,r1,r2⟩:=UB rs;obtain⟨a1,us,rfl,sq1,rs1⟩:=r1.seq h1;obtain⟨a2,ws',rfl,sq2,rs2⟩:=r2.seq h2;rw[hK];exact⟨b1,b2,a1,a2,us,ws',rfl,sq1.sq,sq2.sq,hQ _ H' n' _ [d1,d2] [.ref a1,.ref a2] ⟨os,J⟩ rfl (zR5 h1 h2) k⟩
end
section
variable {A:AC}{X:Cx}{tg iter elt:Expr}{ifs:List Expr}{scope:Scope}{own M:List Str}{pos:Pos}{it:TID}{g:TGD}{tt:TBD}{te:TD}
def zd7(it:TID)(own:Nat)(g:TGD)(tt:TBD)(te:TD):TD:=λrho n P=>it rho n λitems n1=>items.length<=sizeLine/\∃J:Nat->List D->Nat->Prop,J 0 [] n1 /\
 (∀i d acc n,items[i]?=some d->J i acc n->g d (replicate own none++rho) λrho'=>rho'.drop own=rho/\tt rho' n λc n2=>if c=true then te rho' n2 λe n3=>J (i+1) (acc++[e]) n3 else J (i+1) acc n2) /\
 ∀acc n,J items.length acc n->P (.lst acc) n
def xi5:TBD:=λ_ n P=>P true n
def PTs.imp{X:Cx}{e:List Expr}{t t':TT}(h:PTs X e t)(hi:∀sg H Q,t' sg H Q->t sg H Q):PTs X e t':=by exists λpins s sg H Q I q=>h pins s sg H Q I (hi _ _ _ q)
def yQ{X:Cx}:PTs X [] (za2 A xi5):=by
 exists zM5.imp λsg H Q h=>by
   obtain⟨rho,n,P,ds,vs,I,ht,hQ⟩:=h;exact hQ true H n I ht
def zg4{sg:St}{H:Hp}{Q:VK}{m:Nat}{rho:Rho}{n:Nat}{P:D->Nat->Prop}{ds:List D}{vs:List V}(I:Am A n rho sg H ds vs)(ht:zd7 it m g tt te rho n P)
  (hQ:∀os n' H' fs xs p,AmO A os n' rho sg H' ds vs->Reps A.K A.G (Zof A os) H' fs xs->H' p=none->P (.lst fs) n'->Q (.ref p) (upd H' p (.lst xs))):zv6 (iOf A it) m (gOf A m g) (za2 A tt) (tOf A te) sg H Q:=by
 refine⟨rho,n,_,ds,vs,I,ht,λJ H' n' items es ws I1 hl hJ k=>?_⟩;obtain⟨hsz,W,w0,turn,fin⟩:=k
 refine⟨λi mm acc H=>mm=items.length-i/\i<=items.length/\acc.length<=i/\∃accD n,acc.length=accD.length/\Am A n rho sg H (es++(accD++ds)) (ws++(acc++vs))/\W i accD n,
  ⟨items.length,rfl,wa _,zo _,[],n',rfl,I1,w0⟩,?_⟩
 rintro i mm acc H3 ⟨rfl,hi,hai,accD,n3,hal,⟨os,I3⟩,w3⟩;obtain⟨j1,j2⟩:=hJ n3 rho sg H3 (accD++ds) (acc++vs) i ⟨os,I3⟩
 by_cases hlt:i<items.length
 ·refine .inr ⟨(j1 items[i] (by simp [hlt])).1, by lia, λx H4 y => ?_⟩
  obtain⟨os4,I4⟩:=(j1 items[i] (by simp[hlt])).2 x H4 y
  refine⟨replicate m none++rho,n3,_,items[i],es++(accD++ds),ws++(acc++vs),⟨_,I4.front m⟩,turn i items[i] accD n3 (by simp[hlt]) w3,λrho' sg' ⟨os5,I5⟩ e5 k5=>?_⟩
  obtain⟨k5,k6⟩:=k5
  have e6:sg'.drop m=sg:=by rw[e5,yC (by simp)]
  refine⟨e6,rho',n3,_,es++(accD++ds),ws++(acc++vs),⟨os5,I5⟩,k6,λc H6 n6 ⟨os6,I6⟩ k7=>?_⟩
  cases c with
  |false=>
   obtain⟨os7,I7⟩:=I6.back k5 e6
   exact⟨items.length-(i+1),w5,rfl,hlt,w5,accD,n6,hal,⟨os7,I7⟩,k7⟩
  |true=>
   rw[if_pos rfl] at k7 ⊢;refine⟨rho',n6,_,es++(accD++ds),ws++(acc++vs),⟨os6,I6⟩,k7,λv H8 n8 d ⟨os8,I8⟩ k8=>?_⟩;obtain⟨os9,I9⟩:=I8.back k5 e6;obtain⟨I10,rv⟩:=I9.pop;obtain⟨I11,r1⟩:=I10.split hl;obtain⟨I12,r2⟩:=I11.split hal
   refine⟨items.length-(i+1),w5,rfl,hlt,by rw[zI,List.length_singleton];lia,accD++[d],n8,by simp[hal],⟨os9,(I12.join (r2.append (.cons rv .nil))).join r1⟩,k8⟩
 ·have e : i = items.length := by lia
  subst e;refine .inl ⟨j2 (zo _),zB hai hsz,λD hD=>?_⟩;obtain⟨I4,r1⟩:=I3.split hl;obtain⟨I5,r2⟩:=I4.split hal;exact hQ os n3 _ accD acc D I5 r2 hD (fin accD n3 w3)
def JU{sg:St}{H:Hp}{Q:VK}{m:Nat}(h:tOf A (zd7 it m g tt te) sg H Q):zv6 (iOf A it) m (gOf A m g) (za2 A tt) (tOf A te) sg H Q:=by
 obtain⟨rho,n,P,ds,vs,I,ht,hQ⟩:=h;exact zg4 I ht λos n' H' fs xs p J r hp k=>hQ _ _ n' _ ⟨os,J.newLst r hp⟩ k
def vA(ok:CompOk X scope M)(hc:X.calm=true)(hi:PID A X tg iter it)(hg:∀C s2 H2 fp,PGD A (wL X scope own M C s2 H2 fp) own.length tg g)(ht:∀C s2 H2 fp,PTs (wL X scope own M C s2 H2 fp) ifs (za2 A tt))
  (he:∀C s2 H2 fp,PD A (wL X scope own M C s2 H2 fp) elt te) (hs:∀x,foldedSetIterable iter X.env x=pure x:=by intro _;rfl):PD A X (.ListComp elt [⟨tg,iter,ifs,0⟩] scope pos) (zd7 it own.length g tt te):=by
 exists 
   (zN7 ok hc hi hg ht he hs).imp λ_ _ _=>JU
end
structure EndsD where
 nx:Rho->Nat->Prop
 rt:D->Nat->Prop
 bk:Rho->Nat->Prop:=λ_ _=>False
 ct:Rho->Nat->Prop:=λ_ _=>False
abbrev TSD:=EndsD->Rho->Nat->Prop
structure EOk(A:AC)(E:KP)(F:EndsD)(ds:List D)(vs:List V):Prop where
 nx:∀rho n sg H,Am A n rho sg H ds vs->F.nx rho n->E.nx sg H
 rt:∀d n v rho sg H,Am A n rho sg H (d::ds) (v::vs)->F.rt d n->E.rt v H
 bk:∀rho n sg H,Am A n rho sg H ds vs->F.bk rho n->E.bk sg H
 ct:∀rho n sg H,Am A n rho sg H ds vs->F.ct rho n->E.ct sg H
def sOf(A:AC)(t:TSD):TS:=λE sg H=>∃rho n F ds vs,Am A n rho sg H ds vs/\t F rho n/\EOk A E F ds vs
@[irreducible] def PSD(A:AC)(X:Cx)(s:Stmt)(t:TSD):Prop:=PS X s (sOf A t)
@[irreducible] def ze0(A:AC)(X:Cx)(s:List Stmt)(t:TSD):Prop:=PSs X s (sOf A t)
section
variable {A:AC}{X:Cx}{st:Stmt}{rest:List Stmt}{t u:TSD}{e a b:Expr}{te:TD}{tc:TBD}{pos:Pos}
def zW9:TSD:=λF rho n=>F.nx rho n
def Vu(t u:TSD):TSD:=λF rho n=>t { F with nx:=u F } rho n
def wP:ze0 A X [] zW9:=by
 exists zj0.imp λE sg H h=>by
   obtain⟨rho,n,F,ds,vs,I,ht,ok⟩:=h;exact ok.nx _ _ _ _ I ht
def zD(h1:PSD A X st t)(h2:ze0 A X rest u):ze0 A X (st::rest) (Vu t u):=by
 exists (Vy h1 h2).imp λE sg H h=>by
   obtain⟨rho,n,F,ds,vs,I,ht,ok⟩:=h;exact⟨rho,n,{ F with nx:=u F },ds,vs,I,ht,⟨λrho' n' sg' H' I' k=>⟨rho',n',F,ds,vs,I',k,ok⟩,ok.rt,ok.bk,ok.ct⟩⟩
def zR(h1:PSD A X st t):ze0 A X [st] t:=by exists zM7 h1
def xC0(te:TD):TSD:=λF rho n=>te rho n F.rt
def xE(he:PD A X e te):PSD A X (.Return (some e) pos) (xC0 te):=by
 exists (zG1 he).imp λE sg H h=>by
   obtain⟨rho,n,F,ds,vs,I,ht,ok⟩:=h;exact⟨rho,n,_,ds,vs,I,ht,λv H' n' d I' k=>ok.rt _ _ _ _ _ _ I' k⟩
def sIf(c:TBD)(t u:TSD):TSD:=λF rho n=>c rho n λb n1=>if b=true then t F rho n1 else u F rho n1
def vn{c:Expr}{sa sb:List Stmt}(hc:PTD A X c tc)(ha:ze0 A X sa t)(hb:ze0 A X sb u):PSD A X (.If c sa sb pos) (sIf tc t u):=by
 exists (xy1 hc ha hb).imp λE sg H h=>by
   obtain⟨rho,n,F,ds,vs,I,ht,ok⟩:=h;refine⟨rho,n,_,ds,vs,I,ht,λc H' n' J k=>?_⟩
   cases c with
   |true=>exact⟨rho,n',F,ds,vs,J,k,ok⟩
   |false=>exact⟨rho,n',F,ds,vs,J,k,ok⟩
def JY(i:Nat)(te:TD):TSD:=λF rho n=>i<rho.length/\te rho n λd n1=>F.nx (rho.set i (some d)) n1
def yf{i:Nat}{x:Str}{pos':Pos}(hN:X.N.Nodup)(hi:X.N[i]?=some x)(hx:Loc X.env.scope x)(he:PD A X e te)(hs:swapsWith e (some (.Name x pos')) pos.line X.env=pure false:=by rfl)(hf:X.fn x=true\/X.env.scope.names.lookup x=some .local:=by first |exact .inl rfl |exact .inr rfl |assumption) :
  PSD A X (.Assign [.Name x pos'] e pos) (JY i te):=by
 exists (Qh hN hi hx he hs hf).imp λE sg H h=>by
   obtain⟨rho,n,F,ds,vs,I,⟨hl,ht⟩,ok⟩:=h;exact⟨rho,n,_,ds,vs,I,ht,λv H' n' d ⟨os,J⟩ k=>ok.nx _ _ _ _ ⟨_,J.set hl⟩ k⟩
def jY{i:Nat}{x:Str}{pos' spos:Pos}{tg iter elt:Expr}{ifs:List Expr}{scope:Scope}{own M:List Str}{it:TID}{g:TGD}{tt:TBD}(hN:X.N.Nodup)(hix:X.N[i]?=some x)(hx:Loc X.env.scope x)(ok:CompOk X scope M)(hc:X.calm=true)(hi:PID A X tg iter it)
  (hg:∀C s2 H2 fp,PGD A (wL X scope own M C s2 H2 fp) own.length tg g) (ht:∀C s2 H2 fp,PTs (wL X scope own M C s2 H2 fp) ifs (za2 A tt)) (he:∀C s2 H2 fp,PD A (wL X scope own M C s2 H2 fp) elt te)
  (hsw:swapsWith (.ListComp elt [⟨tg,iter,ifs,0⟩] scope pos) (some (.Name x pos')) spos.line X.env=pure true:=by rfl) (hf:X.fn x=true\/X.env.scope.names.lookup x=some .local:=by first |exact .inl rfl |exact .inr rfl |assumption)
  (hs:∀x,foldedSetIterable iter X.env x=pure x:=by intro _;rfl):PSD A X (.Assign [.Name x pos'] (.ListComp elt [⟨tg,iter,ifs,0⟩] scope pos) spos) (JY i (zd7 it own.length g tt te)):=by
 exists 
   (za9 hN hix hx ok hc hi hg ht he hsw hf hs).imp λE sg H h => by
    obtain⟨rho,n,F,ds,vs,I,⟨hl,ht⟩,ok⟩:=h;exact JU (A:=A) ⟨rho,n,_,ds,vs,I,ht,λv H' n' d ⟨os,J⟩ k=>ok.nx _ _ _ _ ⟨_,J.set hl⟩ k⟩
def xp2(te:TD)(g:TGD):TSD:=λF rho n=>te rho n λd n1=>g d rho λrho'=>F.nx rho' n1
def jX{tg:Expr}{g:TGD}{m:Nat}(he:PD A X e te)(hg:PGD A X m tg g)(hs:swapsWithSole [tg] e pos.line X.env=pure false:=by rfl)(hw:swappedStores [tg] e X.env=pure none:=by rfl)
  (h1:(assignEach [tg] X.env).map (·.2)=[assign tg X.env]:=by rfl):PSD A X (.Assign [tg] e pos) (xp2 te g):=by
 exists (zj3 he hg hs hw h1).imp λE sg H h=>by
   obtain⟨rho,n,F,ds,vs,I,ht,ok⟩:=h;exact⟨rho,n,_,ds,vs,I,ht,λv H' n' d J k=>⟨rho,n',_,d,ds,vs,J,k,λrho' sg' J' _ k'=>ok.nx _ _ _ _ J' k'⟩⟩
def xp5(i j:Nat)(t:TAD):TSD:=λF rho n=>i<rho.length/\j<rho.length/\t rho n λes n1=>∃d d',es=[d,d']/\F.nx ((rho.set i (some d)).set j (some d')) n1
def zM8{i j:Nat}{x y:Str}{ta:TAD}{px py pt:Pos}{kt k2 pt2}(hc:X.calm=true)(hN:X.N.Nodup)(hi:X.N[i]?=some x)(hj:X.N[j]?=some y)(hij:i≠j)
  (hx:X.env.scope.names.lookup x=some .local) (hy:X.env.scope.names.lookup y=some .local) (ha:PAD A X [a,b] ta)
  (hw:swappedStores [.Tuple [.Name x px,.Name y py] kt pt] (.Tuple [a,b] k2 pt2) X.env=pure (some [x,y]):=by rfl)
  (hs:swapsWithSole [.Tuple [.Name x px,.Name y py] kt pt] (.Tuple [a,b] k2 pt2) pos.line X.env=pure false:=by rfl) :
  PSD A X (.Assign [.Tuple [.Name x px,.Name y py] kt pt] (.Tuple [a,b] k2 pt2) pos) (xp5 i j ta):=by
 exists (zG2 hc hN hi hj hij hx hy ha hw hs).imp λE sg H h=>by
   obtain⟨rho,n,F,ds,vs,I,⟨hl,hl2,ht⟩,ok⟩:=h;refine⟨rho,n,_,ds,vs,I,ht,λws H' n' es ⟨os,J⟩ hlen k=>?_⟩;obtain⟨d,d',rfl,k⟩:=k;obtain⟨J1,rs⟩:=J.split hlen;obtain⟨v,v',rfl,r,r'⟩:=UB rs;refine⟨v,v',rfl,ok.nx _ _ _ _ ?_ k⟩;have J2:AmO A os n' rho sg H' (d::d'::ds) (v::v'::vs):=(J1.push r').push r
   exact⟨_,(J2.set hl).set (by simpa using hl2)⟩
def xC2(it:TID)(g:TGD)(tb:TSD):TSD:=λF rho n=>it rho n λitems n1=>∃J:Nat->Rho->Nat->Prop,J 0 rho n1 /\
 (∀i d rho n,items[i]?=some d->J i rho n->g d rho λrho'=>tb { F with nx:=J (i+1),ct:=J (i+1),bk:=F.nx } rho' n)/\∀rho n,J items.length rho n->F.nx rho n
def qh{tg iter:Expr}{body:List Stmt}{it:TID}{g:TGD}{tb:TSD}{m:Nat}(hp:PassesOwn (model X.prog X.w) X.A X.env X.xe)(hc:X.calm=true)(hi:PID A X tg iter it)(hg:PGD A X m tg g)(hb:ze0 A X body tb)
  (hs:∀x,foldedSetIterable iter X.env x=pure x:=by intro _;rfl):PSD A X (.For tg iter body [] pos) (xC2 it g tb):=by
 exists (xa7 hp hc hi hg hb hs).imp λE sg H h=>by
   obtain⟨rho,n,F,ds,vs,I,ht,ok⟩:=h;refine⟨rho,n,_,ds,vs,I,ht,λJ H' n' items es ws I1 hl hJ k=>?_⟩;obtain⟨W,w0,turn,fin⟩:=k;refine⟨λi mm sg H=>mm=items.length-i/\i<=items.length/\∃rho n,Am A n rho sg H (es++ds) (ws++vs)/\W i rho n,⟨items.length,rfl,wa _,rho,n',I1,w0⟩,?_⟩;rintro i mm sg3 H3 ⟨rfl,hi,rho3,n3,I3,w3⟩;obtain⟨j1,j2⟩:=hJ n3 rho3 sg3 H3 ds vs i I3
   by_cases hlt:i<items.length
   ·refine .inr ⟨(j1 items[i] (by simp [hlt])).1, λsg' H' => ∃ rho n, Am A n rho sg' H' (es ++ ds) (ws ++ vs) /\ W (i + 1) rho n, λsg' H' ⟨rho', n', I', w'⟩ => ⟨items.length - (i + 1), by lia, rfl, hlt, rho', n', I', w'⟩, λx H4 y => ?_⟩
    have I4:=(j1 items[i] (by simp[hlt])).2 x H4 y
    refine⟨rho3,n3,_,items[i],es++ds,ws++vs,I4,turn i items[i] rho3 n3 (by simp[hlt]) w3,λrho' sg' I5 _ k5=>⟨rho',n3,{ F with nx:=W (i+1),ct:=W (i+1),bk:=F.nx },es++ds,ws++vs,I5,k5,?_⟩⟩
    refine⟨λrho6 n6 sg6 H6 I6 k6=>⟨rho6,n6,I6,k6⟩,λd n6 v rho6 sg6 H6 ⟨os6,I6⟩ k6=>ok.rt _ _ _ _ _ _ ⟨os6,I6.under hl⟩ k6,λrho6 n6 sg6 H6 ⟨os6,I6⟩ k6=>ok.nx _ _ _ _ ⟨os6,(I6.split hl).1⟩ k6,λrho6 n6 sg6 H6 I6 k6=>⟨rho6,n6,I6,k6⟩⟩
   ·have e : i = items.length := by lia
    subst e;obtain⟨os,I3⟩:=I3;exact .inl ⟨j2 (zo _),ok.nx _ _ _ _ ⟨os,(I3.split hl).1⟩ (fin rho3 n3 w3)⟩
def xp7(te:TD):TSD:=λF rho n=>te rho n λ_ n1=>F.nx rho n1
def AmO.setOwn{os:List (Nat × Addr)}{n:Nat}{rho:Rho}{sg:St}{H:Hp}{ds es:List D}{vs xs:List V}{i:Nat}{p:Addr}(I:AmO A os n rho sg H ds vs)(hi:i<rho.length)(hp:H p=none)(r:Reps A.K A.G (Zof A os) H es xs) :
  ∃os',AmO A os' n (rho.set i (some (.own es))) (sg.set i (some (.ref p))) (upd H p (.lst xs)) ds vs:=by
 have hf:∀a u,H a=some u->upd H p (.lst xs) a=some u:=λa u e=>by rw[xV (yc e hp)];exact e
 refine⟨(i,p)::os.filter λq=>decide (q.1≠i),?_⟩
 have zz:∀a,H a≠none->Zof A ((i,p)::os.filter λq=>decide (q.1≠i)) a->Zof A os a:=λa ha z=>by
  rcases z with z |⟨q,hq,e⟩
  ·exact .inl z
  ·rcases zi.mp hq with rfl | hq
   ·exact absurd (by rw[<- e];exact hp) ha
   ·exact .inr ⟨q,(zx.mp hq).1,e⟩
 have h0:A.H0 p=none:=by
  cases q:A.H0 p with
  |none=>rfl
  |some o=>
   by_cases e:A.G=some p
   ·obtain⟨x,y,z,w,_⟩:=I.st p e;rw[w] at hp;cases hp
   ·have:=I.fr p o e q;rw[this] at hp;cases hp
 refine⟨by simp[I.len],λj c e=>?_,Reps.mono zz (λa u _ e=>hf a u e) _ _ I.pend,?_,λq hq=>?_,λa e=>?_,I.gz,λa u h e=>hf a u (I.fr a u h e),I.z0⟩
 ·by_cases hj : j = i
  ·subst hj;rw[zT hi] at e;cases e
   exact⟨.ref p,zT (by rw[<- I.len];exact hi),p,xs,rfl,xh,wZ,Reps.mono zz (λa u _ e=>hf a u e) _ _ r⟩
  ·rw [zY (Ne.symm hj)] at e;obtain⟨u,e1,e2⟩:=I.slot j c e
   exact⟨u,by rw[zY (Ne.symm hj)];exact e1,SlotR.mono zz (λa u _ e=>hf a u e) (λa ys m q=>⟨zm _ (zx.mpr ⟨m,by simpa using hj⟩),hf a _ q⟩) _ _ e2⟩
 ·refine xM.mpr ⟨λq hq => ?_, I.nd.filter _⟩;obtain⟨m1,m2⟩:=zx.mp hq
  refine⟨λz=>by simp[<- z] at m2,λz=>(I.fresh q m1).2.2.ne ?_⟩
  have z':p=q.2:=z;rw[<- z'];exact hp
 ·rcases zi.mp hq with rfl | hq
  ·exact⟨h0,λz=>(I.z0.1 p z).ne h0,by show Hot (upd H p _ p);rw[wZ];exact Hot.lst⟩
  ·obtain⟨f1,f2,f3⟩:=I.fresh q (zx.mp hq).1;exact⟨f1,f2,f3.of λu w=>hf _ _ w⟩
 ·obtain⟨x,y,z,q,rr⟩:=I.st a e;exact⟨x,y,z,hf _ _ q,rr⟩
def xp6(i:Nat)(t:TAD):TSD:=λF rho n=>i<rho.length/\t rho n λes n1=>es.length<=sizeLine/\F.nx (rho.set i (some (.own es))) n1
def Xi{i:Nat}{x:Str}{pos' pos2:Pos}{els:List Expr}{ta:TAD}(hN:X.N.Nodup)(hi:X.N[i]?=some x)(hx:Loc X.env.scope x)(ha:PAD A X els ta)(hf:X.fn x=true\/X.env.scope.names.lookup x=some .local:=by first |exact .inl rfl |exact .inr rfl |assumption)
  (hs:swapsWith (.List els pos2) (some (.Name x pos')) pos.line X.env=pure false:=by rfl):PSD A X (.Assign [.Name x pos'] (.List els pos2) pos) (xp6 i ta):=by
 exists (Qh hN hi hx (zj8 ha) hs hf).imp λE sg H h=>by
   obtain⟨rho,n,F,ds,vs,I,⟨hl,ht⟩,ok⟩:=h
   refine⟨rho,n,_,ds,vs,I,ht,λws H' n' es ⟨os,J⟩ hlen k=>⟨by rw[hlen];exact k.1,λp hp=>?_⟩⟩
   obtain⟨J1,rs⟩:=J.split hlen;exact ok.nx _ _ _ _ (J1.setOwn hl hp rs) k.2
def AmO.own{os:List (Nat × Addr)}{n:Nat}{rho:Rho}{sg:St}{H:Hp}{ds es es':List D}{vs xs':List V}{i:Nat}(I:AmO A os n rho sg H ds vs)(hi:rho[i]?=some (some (.own es))) :
  ∃a xs,sg[i]?=some (some (.ref a))/\H a=some (.lst xs)/\Reps A.K A.G (Zof A os) H es xs/\∀es' xs',Reps A.K A.G (Zof A os) H es' xs'->AmO A os n (rho.set i (some (.own es'))) sg (upd H a (.lst xs')) ds vs:=by
 obtain⟨v,e1,a,xs,rfl,hm,hH,rs⟩:=I.slot i _ hi;have hil:i<rho.length:=(zn.mp hi).1;have za:Zof A os a:=.inr ⟨_,hm,rfl⟩
 have hf:∀(xs':List V) b u,¬ Zof A os b->H b=some u->upd H a (.lst xs') b=some u:=λxs' b u nz e=>by
  rw[xV λz=>nz (by rw[z];exact za)];exact e
 have uniq:∀j,(j,a)∈os->j=i:=λj hj=>by
  by_cases hji:j=i
  ·exact hji
  ·have key : ∀ (l : List (Nat × Addr)), l.Pairwise (λp q => p.1 ≠ q.1 /\ p.2 ≠ q.2) -> (j, a) ∈ l -> (i, a) ∈ l -> False := by
    intro l
    induction l with
    |nil=>intro _ h;simp at h
    |cons c l ih=>
     intro hp h1 h2;obtain⟨p1,p2⟩:=xM.mp hp
     rcases zi.mp h1 with e1 |h1<;>rcases zi.mp h2 with e2 |h2
     ·rw[<- e2] at e1;exact hji (Prod.mk.inj e1).1
     ·exact(p1 _ h2).2 (by rw[<- e1])
     ·exact(p1 _ h1).2 (by rw[<- e2])
     ·exact ih p2 h1 h2
   exact(key os I.nd hj hm).elim
 obtain⟨fa1,fa2,fa3⟩:=I.fresh _ hm
 refine⟨a,xs,e1,hH,rs,λes' xs' r=>⟨by simp[I.len],λj c e=>?_,Reps.mono (λ_ _ z=>z) (hf xs') _ _ I.pend,I.nd,λq hq=>?_,λb e=>?_,I.gz,λb u h e=>?_,I.z0⟩⟩
 ·by_cases hj : j = i
  ·subst hj;rw[zT hil] at e;cases e;exact⟨.ref a,e1,a,xs',rfl,hm,wZ,Reps.mono (λ_ _ z=>z) (hf xs') _ _ r⟩
  ·rw [zY (Ne.symm hj)] at e;obtain⟨u,e2,e3⟩:=I.slot j c e
   exact⟨u,e2,SlotR.mono (λ_ _ z=>z) (hf xs') (λb ys m q=>⟨m,by rw[xV λz=>hj (uniq j (by rw[<- z];exact m))];exact q⟩) _ _ e3⟩
 ·obtain ⟨f1, f2, f3⟩ := I.fresh q hq;refine⟨f1,f2,?_⟩
  by_cases e:q.2=a
  ·rw[e,wZ];exact Hot.lst
  ·rw[xV e];exact f3
 ·obtain ⟨x, y, z, q, rr⟩ := I.st b e
  exact⟨x,y,z,by rw[xV λw=>fa2 (by rw[<- w];exact I.gz b e)];exact q,rr⟩
 ·rw [xV λw => by rw [w, fa1] at e; cases e]
  exact I.fr b u h e
def AmO.freeze{os:List (Nat × Addr)}{n:Nat}{rho:Rho}{sg:St}{H:Hp}{ds es:List D}{vs:List V}{i:Nat}(I:AmO A os n rho sg H ds vs)(hi:rho[i]?=some (some (.own es))):∃os',AmO A os' n (rho.set i (some (.lst es))) sg H ds vs:=by
 obtain⟨v,e1,a,xs,rfl,hm,hH,rs⟩:=I.slot i _ hi;have hil:i<rho.length:=(zn.mp hi).1;refine⟨os.filter λq=>decide (q.1≠i),?_⟩
 have sub:∀b,H b≠none->Zof A (os.filter λp=>decide (p.1≠i)) b->Zof A os b:=λb _ z=>by
  rcases z with z |⟨p,hp,e⟩
  ·exact .inl z
  ·exact .inr ⟨p,(zx.mp hp).1,e⟩
 have key:∀(l:List (Nat × Addr)),l.Pairwise (λp q=>p.1≠q.1/\p.2≠q.2)->(i,a)∈l->∀q∈l,q.2=a->q.1=i:=by
  intro l
  induction l with
  |nil=>intro _ h;simp at h
  |cons c l ih=>
   intro hp h1 q hq hqa;obtain⟨p1,p2⟩:=xM.mp hp
   rcases zi.mp h1 with e1 |h1<;>rcases zi.mp hq with e2 |h2
   ·rw[e2,<- e1]
   ·exact absurd (by rw[<- e1,hqa]) (p1 _ h2).2
   ·exact absurd (by rw[<- e2,hqa]) (p1 _ h1).2
   ·exact ih p2 h1 q h2 hqa
 refine⟨by simp[I.len],λj c e=>?_,Reps.mono sub (λ_ _ _ e=>e) _ _ I.pend,I.nd.filter _,λp hp=>I.fresh p (zx.mp hp).1,I.st,I.gz,I.fr,I.z0⟩
 by_cases hj:j=i
 ·subst hj;rw[zT hil] at e;cases e;refine⟨.ref a,e1,Rep.lst_mk ⟨λz=>?_,hH⟩ (Reps.mono sub (λ_ _ _ e=>e) _ _ rs)⟩
  rcases z with z |⟨p,hp,e⟩
  ·exact(I.fresh _ hm).2.1 z
  ·obtain⟨m1,m2⟩:=zx.mp hp;have:=key os I.nd hm p m1 e;simp[this] at m2
 ·rw [zY (Ne.symm hj)] at e;obtain⟨u,e2,e3⟩:=I.slot j c e
  exact⟨u,e2,SlotR.mono sub (λ_ _ _ e=>e) (λb ys m q=>⟨zx.mpr ⟨m,by simpa using hj⟩,q⟩) _ _ e3⟩
def xj4(i:Nat)(t:TSD):TSD:=λF rho n=>∃es,rho[i]?=some (some (.own es))/\t F (rho.set i (some (.lst es))) n
def ZT(i:Nat)(h:PSD A X st t):PSD A X st (xj4 i t):=by
 exists PS.imp h λE sg H q=>by
   obtain⟨rho,n,F,ds,vs,⟨os,I⟩,⟨es,hi,ht⟩,ok⟩:=q;exact⟨_,n,F,ds,vs,I.freeze hi,ht,ok⟩
end
section
variable {A:AC}{X:Cx}{e a b:Expr}{es:List Expr}{te ta tb:TD}{t1:TAD}{pos:Pos}
def Jd(i:Nat)(t:TAD):TSD:=λF rho n=>∃es,rho[i]?=some (some (.own es))/\es.length<sizeLine/\t rho n λds n1=>∃d,ds=[d]/\F.nx (rho.set i (some (.own (es++[d])))) n1
def kK{i:Nat}{x:Str}{px apos cpos:Pos}(ha:PAD A X [e] t1)(hK:X.K=A.K)(hN:X.N[i]?=some x:=by rfl)(hv:Vis X.env.scope x:=by first |exact Or.inl rfl |exact Or.inr (Or.inl rfl) |exact Or.inr (Or.inr rfl))(hd:(x == ("__debug__" : Str))=false:=by decide)
  (hcd:(x == ("__classdict__" : Str))=false:=by decide) (hbase:attributeBase (.Name x px) "append" X.env (eval (.Name x px) X.env)=eval (.Name x px) X.env:=by rfl)
  (hfew : ((backTo cpos (starEach [e] X.env)).all (λx => !x.1) && (backToKw cpos (keywordEach [] X.env)).all (λx => x.1.isSome)
   && decide ([e].length+([]:List Keyword).length+(if ([]:List Keyword).isEmpty then 0 else 1)<30))=true:=by rfl)
  (hline:(apos.endLine == cpos.line)=true:=by rfl) (hs:starEach [e] X.env=(false,eval e X.env)::starEach [] X.env:=by rfl) (hplain:(backTo cpos (starEach [] X.env)).any (·.1)=false:=by rfl)
  (hsw:swapsWith (.Call (.Attribute (.Name x px) "append" apos) [e] [] cpos) none pos.line X.env=pure false:=by rfl) :
  PSD A X (.Expr (.Call (.Attribute (.Name x px) "append" apos) [e] [] cpos) pos) (Jd i t1):=by
 exists 
   (zj2 (xy4 PySem.F.plainAttrs_list PySem.F.slot_list_append PySem.F.type_list_append zm4 (qN hN hv hd hcd) ha hbase hfew hline hs hplain) hsw).imp λE sg H h => by
    obtain⟨rho,n,F,ds,vs,⟨os,I⟩,⟨es,hi,hz,ht⟩,ok⟩:=h;obtain⟨a,xs,e1,hH,rs,_⟩:=I.own (es':=es) (xs':=[]) hi;refine⟨.ref a,e1,.inl ⟨rfl,xs,SqL.of hH⟩,rho,n,_,ds,vs,⟨os,I⟩,ht,λws H' n' fs ⟨os',J⟩ hl k=>?_⟩;obtain⟨d,rfl,k⟩:=k;obtain⟨J1,rs1⟩:=J.split hl;obtain⟨v,rfl,r⟩:=qq rs1;obtain⟨a',xs',e2,hH',rs',up⟩:=J1.own (es':=es) (xs':=[]) hi;rw[e1] at e2;cases e2
    exact⟨a,xs',v,rfl,rfl,hH',by rw[rs'.length];exact hz,ok.nx _ _ _ _ ⟨os',up _ _ (rs'.append (.cons r .nil))⟩ k⟩
def Za(o:Option (Option D))(p:List D->Prop):Prop:=∃es,o=some (some (.own es))/\p es
def zJ0(i:Nat)(tb:TD):TD:=λrho n P=>Za rho[i]? λes=>tb rho n λd n1=>∃j c,d=.int j/\atI es j=some c/\P c n1
def zz3{i:Nat}{x:Str}{px:Pos}(hb:PD A X b tb)(hpl:Ua b)(hN:X.N[i]?=some x:=by rfl)(hv:Vis X.env.scope x:=by first |exact Or.inl rfl |exact Or.inr (Or.inl rfl) |exact Or.inr (Or.inr rfl))(hd:(x == ("__debug__" : Str))=false:=by decide)
  (hcd:(x == ("__classdict__" : Str))=false:=by decide):PD A X (.Subscript (.Name x px) b pos) (zJ0 i tb):=by
 exists 
   (zN3 Jt (qN hN hv hd hcd) hb hpl).imp λsg H Q h => by
    obtain⟨rho,n,P,ds,vs,⟨os,I⟩,⟨es,hi,ht⟩,hQ⟩:=h;obtain⟨a,xs,e1,hH,rs,_⟩:=I.own (es':=es) (xs':=[]) hi;refine⟨.ref a,e1,rho,n,_,ds,vs,⟨os,I⟩,ht,λv H' n' d ⟨os',J⟩ k=>?_⟩;obtain⟨j,c,rfl,hc,k⟩:=k;obtain⟨J1,r⟩:=J.pop;obtain⟨a',xs',e2,hH',rs',_⟩:=J1.own (es':=es) (xs':=[]) hi;rw[e1] at e2;cases e2;obtain⟨w,e3,rw'⟩:=VZ rs' hc;exact⟨a,xs',j,w,rfl,r.int_inv,SqL.of hH',e3,hQ w H' n' c ⟨os',J1.push rw'⟩ k⟩
def zL1(i:Nat)(te tb:TD):TSD:=λF rho n=>Za rho[i]? λes=>te rho n λd n1=>tb rho n1 λd2 n2=>∃j m,d2=.int j/\ixN es.length j=some m/\F.nx (rho.set i (some (.own (es.set m d)))) n2
def xh8(i:Nat)(tb:TD):TD:=λrho n P=>rho[i]?=some (some .st)/\tb rho n λd n1=>∃j:Int,d=.int j/\0<=j/\j<n1/\∀z:Int,0<=z->(j=1->z<2147483647)->P (.int z) n1
def zI1{n:Nat}{i:Int}(h0:0<=i)(h1:i<n):ixN n i=some i.toNat:=by unfold ixN;rw[if_pos h0,if_pos h1]
def ja{i:Nat}{x:Str}{px:Pos}(hb:PD A X b tb)(hpl:Ua b)(hN:X.N[i]?=some x:=by rfl)(hv:Vis X.env.scope x:=by first |exact Or.inl rfl |exact Or.inr (Or.inl rfl) |exact Or.inr (Or.inr rfl))(hd:(x == ("__debug__" : Str))=false:=by decide)
  (hcd:(x == ("__classdict__" : Str))=false:=by decide):PD A X (.Subscript (.Name x px) b pos) (xh8 i tb):=by
 exists 
   (zN3 Jt (qN hN hv hd hcd) hb hpl).imp λsg H Q h => by
    obtain⟨rho,n,P,ds,vs,⟨os,I⟩,⟨hi,ht⟩,hQ⟩:=h;obtain⟨v,e1,e2⟩:=I.slot i _ hi
    obtain⟨a,ha,rfl⟩:∃a,A.G=some a/\v=.ref a:=by
     have e3:=SlotR.rep (d:=.st) rfl e2;unfold Rep at e3;exact e3
    refine⟨.ref a,e1,rho,n,_,ds,vs,⟨os,I⟩,ht,λw H' n' d ⟨os',J⟩ k=>?_⟩;obtain⟨j,rfl,h0,h3,k⟩:=k;obtain⟨J1,r⟩:=J.pop;obtain⟨zs,_,_,hH,p1,p2,p3⟩:=J1.st a ha;obtain⟨jn,rfl⟩:=xO h0
    have hjl:jn<zs.length:=w5
    have ej:zs[jn]?=some zs[jn]:=zd hjl
    refine⟨a,_,(jn:Int),.int zs[jn],rfl,r.int_inv,SqL.of hH,?_,hQ _ H' n' _ ⟨os',J1.push (Rep.ofS (d:=.int zs[jn]) rfl)⟩ (k zs[jn] (p2 _ (wl hjl)) λe=>p3 _ (by rw[<- ej];congr 1;lia))⟩
    unfold atI
    rw[zI1 w5 (by rw[zg];lia)]
    simp[hjl]
def zC6(zs:List Int)(j:Nat)(z:Int):(zs.map V.int).set j (.int z)=(zs.set j z).map V.int:=by rw[List.map_set]
def AmO.setSt{os:List (Nat × Addr)}{n:Nat}{rho:Rho}{sg:St}{H:Hp}{ds:List D}{vs:List V}{a:Addr}{zs:List Int}(I:AmO A os n rho sg H ds vs)(ha:A.G=some a)(h:zs.length=n/\(∀x∈zs,0<=x)/\∀x,zs[1]?=some x->x<2147483647) :
  AmO A os n rho sg (upd H a (.lst (zs.map V.int))) ds vs:=by
 have za:Zof A os a:=.inl (I.gz a ha)
 have hf:∀b u,¬ Zof A os b->H b=some u->upd H a (.lst (zs.map V.int)) b=some u:=λb u nz e=>by
  rw[xV λw=>nz (by rw[w];exact za)];exact e
 have no:∀p∈os,p.2≠a:=λp hp e=>(I.fresh p hp).2.1 (by rw[e];exact I.gz a ha)
 refine⟨I.len,λj c e=>?_,Reps.mono (λ_ _ w=>w) hf _ _ I.pend,I.nd,λq hq=>?_,λb e=>?_,I.gz,λb u h e=>?_,I.z0⟩
 ·obtain ⟨u, e1, e2⟩ := I.slot j c e
  exact⟨u,e1,SlotR.mono (λ_ _ w=>w) hf (λb ys m q=>⟨m,by rw[xV (no _ m)];exact q⟩) _ _ e2⟩
 ·obtain ⟨f1, f2, f3⟩ := I.fresh q hq
  exact⟨f1,f2,by rw[xV (no q hq)];exact f3⟩
 ·rw[ha] at e;cases e;exact⟨zs,0,0,wZ,h⟩
 ·rw [xV λw => h (by rw [w]; exact ha)]
  exact I.fr b u h e
def zF6(i:Nat)(te tb:TD):TSD:=λF rho n=>rho[i]?=some (some .st)/\te rho n λd n1=>tb rho n1 λd2 n2=>∃j z:Int,d=.int z/\d2=.int j/\0<=j/\j<n2/\0<=z/\(j=1->z<2147483647)/\F.nx rho n2
def Xh{i:Nat}{x:Str}{px ps:Pos}(he:PD A X e te)(hb:PD A X b tb)(hN:X.N[i]?=some x:=by rfl)(hv:Vis X.env.scope x:=by first |exact Or.inl rfl |exact Or.inr (Or.inl rfl) |exact Or.inr (Or.inr rfl))(hd:(x == ("__debug__" : Str))=false:=by decide)
  (hcd : (x == ("__classdict__" : Str)) = false := by decide) (ha : ∀ v, assign (.Subscript (.Name x px) b ps) X.env v = (do
   let ov <- holding [v] (eval (.Name x px) X.env)
   let iv <- holding [v,ov] (eval b X.env)
   standAt ps
   holding [v,ov,iv] (setItem ov iv v)
   release [v,ov,iv] []):=by intro _;rfl) (hs:swapsWithSole [.Subscript (.Name x px) b ps] e pos.line X.env=pure false:=by rfl) (hw:swappedStores [.Subscript (.Name x px) b ps] e X.env=pure none:=by rfl)
  (h1:(assignEach [.Subscript (.Name x px) b ps] X.env).map (·.2)=[assign (.Subscript (.Name x px) b ps) X.env]:=by rfl) :
  PSD A X (.Assign [.Subscript (.Name x px) b ps] e pos) (zF6 i te tb):=by
 exists 
   (zj3 he (xb2 (qN hN hv hd hcd) hb zv7 ha) hs hw h1).imp λE sg H h => by
    obtain⟨rho,n,F,ds,vs,⟨os,I⟩,⟨hi,ht⟩,ok⟩:=h;obtain⟨v,e1,e2⟩:=I.slot i _ hi
    obtain⟨a,hG,rfl⟩:∃a,A.G=some a/\v=.ref a:=by
     have e3:=SlotR.rep (d:=.st) rfl e2;unfold Rep at e3;exact e3
    refine⟨rho,n,_,ds,vs,⟨os,I⟩,ht,λv H' n' d J k=>⟨.ref a,e1,rho,n',_,d::ds,v::vs,J,k,λw H2 n2 d2 ⟨os2,J2⟩ k2=>?_⟩⟩;obtain⟨j,z,rfl,rfl,h0,h3,hz,h2,k2⟩:=k2;obtain⟨J3,r2⟩:=J2.pop;obtain⟨J4,r1⟩:=J3.pop;obtain⟨zs,_,_,hH,p1,p2,p3⟩:=J4.st a hG;rw[r1.int_inv,r2.int_inv];obtain⟨jn,rfl⟩:=xO h0
    have hjl:jn<zs.length:=w5
    refine⟨a,_,(jn:Int),jn,rfl,rfl,hH,by rw[zI1 w5 (by rw[zg];lia)];simp,?_⟩
    rw[zC6]
    refine ok.nx _ _ _ _ ⟨os2,J4.setSt hG ⟨by rw[List.length_set];exact p1,λx hx=>?_,λx hx=>?_⟩⟩ k2
    ·rcases List.mem_or_eq_of_mem_set hx with hx | rfl
     ·exact p2 x hx
     ·exact hz
    ·by_cases e : jn = 1
     ·subst e;rw[zT hjl] at hx;cases hx;exact h2 rfl
     ·rw[zY e] at hx;exact p3 x hx
def QG(es:List D)(lo hi:Option Int):List D:=(es.drop (HT.sIx es.length 0 lo)).take (HT.sIx es.length es.length hi-HT.sIx es.length 0 lo)
def Qb{K:W.Frag}{G:Option Addr}{Z:Addr->Prop}{H:Hp}{fs:List D}{xs:List V}(h:Reps K G Z H fs xs)(lo hi:Option Int):Reps K G Z H (QG fs lo hi) (zU7 xs lo hi):=by
 unfold QG zU7;rw[h.length];exact(h.drop _).take _
def xP9(lo hi:Option Int)(ta:TD):TD:=λrho n P=>ta rho n λd n1=>∃fs,(d=.lst fs\/d=.fz fs)/\P (.lst (QG fs lo hi)) n1
def xh2(es:List D):List D:=es.zipIdx.map λp=>.tup [.int (p.2:Nat),p.1]
def xg6(t:TAD):TID:=λrho n P=>t rho n λes n1=>∃fs,es=[.lst fs]/\P (xh2 fs) n1
end
abbrev TF:=List D->Nat->(D->Nat->Prop)->Prop
def spD(K:W.Frag)(k:Nat)(t:TF):Sp:=λvs H Q _=>∃(G:Option Addr) (Z:Addr->Prop) (n:Nat) (P:D->Nat->Prop) (ds:List D),ds.length=k/\Reps K G Z H ds vs/\zu6 G n H/\(∀a,G=some a->Z a)/\ZOk K G Z H/\t ds n P /\
 ∀v H' n' d,(∀a o,G≠some a->H a=some o->H' a=some o)->zu6 G n' H'->Rep K G Z H' d v->P d n'->Q v H'
def startD(N:List Str)(ds:List D):Rho:=ds.map some++replicate (N.length-ds.length) none
def jj{K:W.Frag}{G:Option Addr}{Z:Addr->Prop}{H:Hp}{N:List Str}{ds:List D}{vs:List V}{n:Nat}(rs:Reps K G Z H ds vs)(st:zu6 G n H)(gz:∀a,G=some a->Z a)(z0:ZOk K G Z H) :
  AmO ⟨K,G,Z,H⟩ [] n (startD N ds) (start N vs) H [] []:=by
 have hl:=rs.length
 have zz:∀a,Zof ⟨K,G,Z,H⟩ [] a->Z a:=λa z=>by
  rcases z with z |⟨p,hp,_⟩
  ·exact z
  ·simp at hp
 have rs':Reps K G (Zof ⟨K,G,Z,H⟩ []) H ds vs:=Reps.mono (λa _ z=>zz a z) (λ_ _ _ e=>e) _ _ rs
 refine⟨by simp[startD,start,hl],λi d e=>?_,.nil,.nil,λp hp=>by simp at hp,st,gz,λa o _ e=>e,z0⟩
 unfold startD at e
 by_cases hi:i<ds.length
 ·rw [xv (by simpa using hi), zt] at e
  cases q:ds[i]? with
  |none=>rw[q] at e;cases e
  |some c=>
   rw[q] at e;cases e;obtain⟨v,e1,r⟩:=rs'.get q;refine⟨v,?_,SlotR.of r⟩;unfold start
   rw[xv (by rw[zg,hl];exact hi),zt,e1]
   rfl
 ·rw [xk (by simpa using hi), xi] at e
  split at e<;>cases e
section
variable {P:Program}{w:World}{K:W.Frag}{mg:Str->Option Value}{base:Heap}
def Fun.okD{x qual:Str}{st:Stmt}{f:Addr}{fd:FuncData}{N ps:List Str}{k:Nat}{t:TF}{tb:TSD}(F:Fun K x qual st f fd)(S:FnScope N ps (xg st))
  (body : ∀ (cdv : Value) (A0 : Around) (outer : List Env) (s : Shared) (H : Hp) (E : XK) (G : Option Addr) (Z : Addr -> Prop), Room k (A0.deeper (envOfC qual (xg st) s.heap.objs.size f cdv)) ->
   ze0 ⟨K,G,Z,H⟩ (zu5 CX0 P w K mg base N qual (xg st) f cdv A0 outer s H E).nox (vN st) tb)
  (spec:∀ds n Q,ds.length=ps.length->t ds n Q->tb { nx:=λ_ n=>Q .non n,rt:=Q } (startD N ds) n):FnOk P w K mg base CX0 (k+1) f fd ps (spD K ps.length t):=by
 exists (by
   refine F.ok S (λvs H Q E h=>?_) (λcdv A0 outer s H vs Q E hr h=>?_)
   ·obtain⟨G,Z,n,R,ds,hl,rs,_⟩:=h;rw[rs.length];exact hl
   ·obtain ⟨G, Z, n, R, ds, hl, rs, hst, gz, z0, ht, hQ⟩ := h;refine⟨_,body cdv A0 outer s H E G Z hr,startD N ds,n,_,[],[],⟨[],jj rs hst gz z0⟩,spec ds n R hl ht,?_⟩;have zz:∀ (os:List (Nat × Addr)) a,Z a->Zof ⟨K,G,Z,H⟩ os a:=λos a z=>.inl z;refine⟨λrho' n' sg' H' ⟨os,I⟩ q=>?_,λd n' v rho' sg' H' ⟨os,I⟩ q=>?_,λ_ _ _ _ _ q=>q.elim,λ_ _ _ _ _ q=>q.elim⟩
    ·exact hQ .non H' n' .non I.fr I.st (Rep.ofS rfl) q
    ·exact hQ v H' n' d I.fr I.st (Rep.mono (λa _ z=>zz os a z) (λ_ _ _ e=>e) _ _ I.pop.2) q)
end
section
variable {A:AC}{X:Cx}{e:Expr}{es:List Expr}{t1:TAD}{pos p:Pos}
def dFn(k:Nat)(t:TF)(t1:TAD):TD:=λrho n P=>t1 rho n λes n1=>es.length=k/\t es n1 P
def AmO.called{os:List (Nat × Addr)}{n n':Nat}{rho:Rho}{sg:St}{H H':Hp}{ds:List D}{vs:List V}(I:AmO A os n rho sg H ds vs)(fr:∀a o,A.G≠some a->H a=some o->H' a=some o)(st:zu6 A.G n' H'):AmO A os n' rho sg H' ds vs:=by
 have hf:∀b u,¬ Zof A os b->H b=some u->H' b=some u:=λb u nz e=>fr b u (λz=>nz (.inl (I.gz b z))) e;have no:∀p∈os,A.G≠some p.2:=λp hp e=>(I.fresh p hp).2.1 (I.gz _ e);refine⟨I.len,λj c e=>?_,Reps.mono (λ_ _ w=>w) hf _ _ I.pend,I.nd,λq hq=>?_,st,I.gz,λb u h e=>fr b u h (I.fr b u h e),I.z0⟩
 ·obtain⟨u,e1,e2⟩:=I.slot j c e;exact⟨u,e1,SlotR.mono (λ_ _ w=>w) hf (λb ys m q=>⟨m,fr _ _ (no _ m) q⟩) _ _ e2⟩
 ·obtain⟨f1,f2,f3⟩:=I.fresh q hq;exact⟨f1,f2,f3.of λu z=>fr _ _ (no q hq) z⟩
def zO2{x:Str}{f:Addr}{fd:FuncData}{ps:List Str}{t:TF}{kk k:Nat}(F:FnOk X.prog X.w X.K X.mg X.base CX0 kk f fd ps (spD X.K k t))(hr:Room kk X.A)(hm:X.mg x=some (.ref f))(hk:W.keepIn X.K (.ref f)=true)(hb:Binds X.K fd ps [])(hK:X.K=A.K)
  (ha:PAD A X (e::es) t1) (hg:Gl X x:=by rfl) (hdb:(x == ("__debug__" : Str))=false:=by decide) (he:starEach (e::es) X.env=(false,eval e X.env)::starEach es X.env:=by rfl) (hpl:(backTo pos (starEach es X.env)).any (·.1)=false:=by rfl) :
  PD A X (.Call (.Name x p) (e::es) [] pos) (dFn k t t1):=by
 exists (VC F hr hg hm hk hb .nil zz5 ha hdb he hpl).imp λsg H Q h=>by
   obtain⟨rho,n,R,ds,vs,I,ht,hQ⟩:=h;refine⟨rho,n,_,ds,vs,I,ht,λws H' n' es' ⟨os,J⟩ hl k=>?_⟩;obtain⟨J1,rs⟩:=J.split hl;rw[wB,hK];refine⟨A.G,Zof A os,n',R,es',k.1,rs,J1.st,λa z=>.inl (J1.gz a z),J1.zO,k.2,λv H2 n2 d fr st r q=>hQ v H2 n2 d ⟨os,(J1.called fr st).push r⟩ q⟩
end
section
variable {A:AC}{X:Cx}{tg a:Expr}{ta:TD}{pos p:Pos}
def xA3(K:W.Frag)(tl:TE):TI:=λsg H R=>tl sg H λx H1=>∃l,x=.ref l/\(((∃xs,SqL K H1 l xs)/\R (Itl K l) H1)\/((∃xs,SqT K H1 l xs)/\R (Itt K l) H1))
def zN0{l:Expr}{tl:TE}(hl:PE X l tl):PI X tg l (xA3 X.K tl):=by
 intro pins s sg H R I h;refine thn (hl pins s sg H _ I h) λv s1 ⟨x,H1,I1,r1,q1⟩=>?_;obtain⟨c,e,q1⟩:=q1;subst e;cases r1
 have new:∀b∈[s1.heap.objs.size],FpOk X pins H1 b:=λb hb=>by
  obtain rfl:b=s1.heap.objs.size:=by simpa using hb
  exact I1.fpOk (zo _) (I1.hok.fresh (zo _))
 rcases q1 with ⟨⟨xs,hq⟩,q⟩ |⟨⟨xs,hq⟩,q⟩
 ·obtain⟨its,rv,pl,hz⟩:=I1.list hq;exact yE pl.isList ⟨s1.heap.objs.size,[s1.heap.objs.size],_,_,H1,rfl,I1.kept (t':=s1.toks) λb o e=>ze _ e,zf5 c _,⟨_,zq _ rfl,rfl,rfl⟩,new,q⟩
 ·obtain⟨its,rv,pl,hz⟩:=I1.tuple hq;exact wpAny_pyIter_tuple (show s1.heap.IsTuple c its.toArray from pl) ⟨s1.heap.objs.size,[s1.heap.objs.size],_,_,H1,rfl,I1.kept (t':=s1.toks) λb o e=>ze _ e,za0 c _,⟨_,zq _ rfl,rfl,rfl⟩,new,q⟩
def xg3(ta:TD):TID:=λrho n P=>ta rho n λd n1=>∃es,(d=.lst es\/d=.tup es)/\P es n1
def vo(hK:X.K=A.K)(ha:PD A X a ta):PID A X tg a (xg3 ta):=by
 exists (zN0 ha).imp λsg H R h=>by
   obtain⟨rho,n,P,ds,vs,I,ht,hQ⟩:=h;refine⟨rho,n,_,ds,vs,I,ht,λv H' n' d ⟨os,J⟩ k=>?_⟩;obtain⟨es,hd,k⟩:=k;have r:=J.pop.2;rw[hK]
   rcases hd with rfl |rfl
   ·obtain ⟨l, xs, rfl, sq, rs⟩ := r.lst_inv;refine⟨l,rfl,.inl ⟨⟨xs,sq.sq⟩,hQ _ H' n' es [.lst es] [.ref l] ⟨os,J⟩ rfl (λn2 rho2 sg2 H2 ds2 vs2 i ⟨os2,I2⟩=>?_) k⟩⟩;obtain⟨I3,r2⟩:=AmO.pop (d:=.lst es) (v:=.ref l) (ds:=ds2) (vs:=vs2) I2;obtain⟨l',xs2,e,sq2,rs2⟩:=r2.lst_inv;cases e
    refine⟨λd e=>?_,λhi=>⟨xs2,sq2.sq,by rw[rs2.length];exact hi⟩⟩
    obtain⟨v,e1,rv⟩:=rs2.get e;refine⟨⟨xs2,v,sq2.sq,e1⟩,λx H3 y=>?_⟩;obtain⟨e3,y⟩:=y;subst e3;have e4:=y xs2 sq2.sq;rw[e1] at e4;cases e4;exact⟨os2,I2.push rv⟩
   ·obtain ⟨l, xs, rfl, sq, rs⟩ := r.tup_inv;refine⟨l,rfl,.inr ⟨⟨xs,sq.sq⟩,hQ _ H' n' es [.tup es] [.ref l] ⟨os,J⟩ rfl (λn2 rho2 sg2 H2 ds2 vs2 i ⟨os2,I2⟩=>?_) k⟩⟩;obtain⟨I3,r2⟩:=AmO.pop (d:=.tup es) (v:=.ref l) (ds:=ds2) (vs:=vs2) I2;obtain⟨l',xs2,e,sq2,rs2⟩:=r2.tup_inv;cases e
    refine⟨λd e=>?_,λhi=>⟨xs2,sq2.sq,by rw[rs2.length];exact hi⟩⟩
    obtain⟨v,e1,rv⟩:=rs2.get e;refine⟨⟨xs2,v,sq2.sq,e1⟩,λx H3 y=>?_⟩;obtain⟨e3,y⟩:=y;subst e3;have e4:=y xs2 sq2.sq;rw[e1] at e4;cases e4;exact⟨os2,I2.push rv⟩
end
structure Fn(P:Program)(w:World)(K:W.Frag)(mg:Str->Option Value)(base:Heap)(x:Str)(kk k:Nat)(t:TF):Prop where
 ex:∃(f:Addr) (fd:FuncData) (ps:List Str),FnOk P w K mg base CX0 kk f fd ps (spD K k t)/\mg x=some (.ref f)/\W.keepIn K (.ref f)=true/\Binds K fd ps []
def wO{A:AC}{X:Cx}{e:Expr}{es:List Expr}{t1:TAD}{pos p:Pos}{x:Str}{t:TF}{kk k:Nat}(F:Fn X.prog X.w X.K X.mg X.base x kk k t)(hr:Room kk X.A)(hK:X.K=A.K)
  (ha:PAD A X (e::es) t1) (hg:Gl X x:=by rfl) (hdb:(x == ("__debug__" : Str))=false:=by decide) (he:starEach (e::es) X.env=(false,eval e X.env)::starEach es X.env:=by rfl) (hpl:(backTo pos (starEach es X.env)).any (·.1)=false:=by rfl) :
  PD A X (.Call (.Name x p) (e::es) [] pos) (dFn k t t1):=by
 exists (by
   obtain⟨f,fd,ps,h1,h2,h3,h4⟩:=F.ex
   exact zO2 h1 hr h2 h3 h4 hK ha hg hdb he hpl)
structure Blt(mg:Str->Option Value):Prop where
 len:mg "len" = none
 abs:mg "abs" = none
 all:mg "all" = none
 any:mg "any" = none
 isi:mg "isinstance" = none
 int:mg "int" = none
 bool:mg "bool" = none
 str:mg "str" = none
 tuple:mg "tuple" = none
 list:mg "list" = none
 range:mg "range" = none
 zip:mg "zip" = none
 enum:mg "enumerate" = none
 max:mg "max" = none
 min:mg "min" = none
 sorted:mg "sorted" = none
def kh:bootBuiltins "len" = some (.builtin "len"):=x6
def zJ7:bootBuiltins "abs" = some (.builtin "abs"):=x6
def zJ6:bootBuiltins "any" = some (.builtin "any"):=x6
def zs9:bootBuiltins "int" = some (.type "int"):=x6
def kc:bootBuiltins "tuple" = some (.type "tuple"):=x6
def zs8:bootBuiltins "list" = some (.type "list"):=x6
def isB(d:D)(p:Bool->Prop):Prop:=∃c,d=.bl c/\p c
@[simp] theorem xM7{b:Bool}{p:Bool->Prop}:isB (.bl b) p↔p b:=⟨fun⟨_,e,h⟩=>by cases e;exact h,λh=>⟨_,rfl,h⟩⟩
@[simp] theorem xs9{F rho n}:zW9 F rho n=F.nx rho n:=rfl
@[simp] theorem xD3{t u F rho n}:Vu t u F rho n=t { F with nx:=u F } rho n:=rfl
@[simp] theorem xD4{te F rho n}:xC0 te F rho n=te rho n F.rt:=rfl
@[simp] theorem xL6{c t u F rho n}:sIf c t u F rho n=c rho n λb n1=>if b=true then t F rho n1 else u F rho n1:=rfl
@[simp] theorem xD2{i te F rho n}:JY i te F rho n=(i<rho.length/\te rho n λd n1=>F.nx (rho.set i (some d)) n1):=rfl
@[simp] theorem xD1{te g F rho n}:xp2 te g F rho n=te rho n λd n1=>g d rho λrho'=>F.nx rho' n1:=rfl
@[simp] theorem xD7{i t F rho n}:xp6 i t F rho n=(i<rho.length/\t rho n λes n1=>es.length<=sizeLine/\F.nx (rho.set i (some (.own es))) n1):=rfl
@[simp] theorem xt0{te F rho n}:xp7 te F rho n=te rho n λ_ n1=>F.nx rho n1:=rfl
@[simp] theorem xD8{i t F rho n}:xj4 i t F rho n=∃es,rho[i]?=some (some (.own es))/\t F (rho.set i (some (.lst es))) n:=rfl
@[simp] theorem zZ4{i t F rho n}:Jd i t F rho n=∃es,rho[i]?=some (some (.own es))/\es.length<sizeLine/\t rho n λds n1=>∃d,ds=[d]/\F.nx (rho.set i (some (.own (es++[d])))) n1:=rfl
@[simp] theorem xm6{i d rho P}:zI2 i d rho P=(i<rho.length/\P (rho.set i (some d))):=rfl
@[simp] theorem xE6{i rho n P}:xH9 i rho n P=atV rho[i]? λd=>P d n:=rfl
@[simp] theorem xO0{d k}:atV (some (some d)) k=atD d k:=rfl
@[simp] theorem xH0{k}:atD .non k=k .non:=rfl
@[simp] theorem xG9{k b}:atD (.bl b) k=k (.bl b):=rfl
@[simp] theorem xG8{k b}:atD (.int b) k=k (.int b):=rfl
@[simp] theorem xG7{k b}:atD (.str b) k=k (.str b):=rfl
@[simp] theorem xG6{k b}:atD (.tup b) k=k (.tup b):=rfl
@[simp] theorem xG5{k b}:atD (.lst b) k=k (.lst b):=rfl
@[simp] theorem xG4{k b}:atD (.fz b) k=k (.fz b):=rfl
@[simp] theorem xG3{k}:atD .st k=k .st:=rfl
@[simp] theorem xG2{k a b}:atD (.dct a b) k=k (.dct a b):=rfl
@[simp] theorem xO1{d k}(h:xT d=true):atD d k=k d:=propext ⟨λz=>(zt5 z).2,QT h⟩
@[simp] theorem xR1{d rho n P}:dC d rho n P=P d n:=rfl
@[simp] theorem xN6{rd ta tb rho n P}:dOp rd ta tb rho n P=ta rho n λd1 n1=>tb rho n1 λd2 n2=>rd d1 d2 λd=>P d n2:=rfl
@[simp] theorem xx1{t rho n P}:zd6 t rho n P=t rho n λd n'=>isB d λb=>P b n':=rfl
@[simp] theorem xt7{d1 d2 k}:zY4 d1 d2 k=(d2=.non/\k (.bl (jg d1))):=rfl
@[simp] theorem xk3{d1 d2 k}:zF8 d1 d2 k=(d2=.non/\k (.bl (!jg d1))):=rfl
@[simp] theorem xG1{t u rho n P}:xI6 t u rho n P=t rho n λc n1=>if c=true then u rho n1 P else P false n1:=rfl
@[simp] theorem xN9{t u rho n P}:bOr t u rho n P=t rho n λc n1=>if c=true then P true n1 else u rho n1 P:=rfl
@[simp] theorem xG0{t rho n P}:xI5 t rho n P=t rho n λc n1=>P (!c) n1:=rfl
@[simp] theorem xF9{rho n P}:xi5 rho n P=P true n:=rfl
@[simp] theorem xF8{ta tb rho n P}:xI4 ta tb rho n P=ta rho n λd n1=>isB d λc=>if c=true then tb rho n1 P else P (.bl false) n1:=rfl
@[simp] theorem xN5{ta tb rho n P}:dOr ta tb rho n P=ta rho n λd n1=>isB d λc=>if c=true then P (.bl true) n1 else tb rho n1 P:=rfl
@[simp] theorem xF2{ta rho n P}:xI2 ta rho n P=ta rho n λd n1=>isB d λc=>P (.bl (!c)) n1:=rfl
@[simp] theorem xN7{t ta tb rho n P}:dIf t ta tb rho n P=t rho n λc n1=>if c=true then ta rho n1 P else tb rho n1 P:=rfl
@[simp] theorem xH1{rho n P}:xB3 rho n P=P [] n:=rfl
@[simp] theorem xx8{t r rho n P}:xi8 t r rho n P=t rho n λd n1=>r rho n1 λds n2=>P (d::ds) n2:=rfl
@[simp] theorem xE7{t rho n P}:xI0 t rho n P=t rho n λds n1=>ds.length<=sizeLine/\P (.tup ds) n1:=rfl
@[simp] theorem xF3{t rho n P}:xB0 t rho n P=t rho n λds n1=>ds.length<=sizeLine/\P (.lst ds) n1:=rfl
@[simp] theorem xx6{rd t rho n P}:zD9 rd t rho n P=t rho n λes n1=>rd es λd=>P d n1:=rfl
@[simp] theorem xN8{k t t1 rho n P}:dFn k t t1 rho n P=t1 rho n λes n1=>es.length=k/\t es n1 P:=rfl
@[simp] theorem xw6{ta rho n P}:xg3 ta rho n P=ta rho n λd n1=>∃es,(d=.lst es\/d=.tup es)/\P es n1:=rfl
@[simp] theorem xw7{t rho n P}:xg4 t rho n P=t rho n λes n1=>∃j:Int,es=[.int j]/\-(2^62)<=j/\j<2^62/\P (Je 0 j.toNat) n1:=rfl
@[simp] theorem xm5{t rho n P}:xg6 t rho n P=t rho n λes n1=>∃fs,es=[.lst fs]/\P (xh2 fs) n1:=rfl
@[simp] theorem xF0{lo hi ta rho n P}:xP9 lo hi ta rho n P=ta rho n λd n1=>∃fs,(d=.lst fs\/d=.fz fs)/\P (.lst (QG fs lo hi)) n1:=rfl
@[simp] theorem xw9{rho P}:xg9 [] rho P↔P rho:=⟨λh=>h.2,λh=>⟨rfl,h⟩⟩
@[simp] theorem xm7{g gs d r rho P}:zI3 g gs (d::r) rho P↔g d rho λrho'=>gs r rho' P:=⟨fun⟨_,_,e,h⟩=>by cases e;exact h,λh=>⟨_,_,rfl,h⟩⟩
@[simp] theorem xw8{k gs es rho P}:xg8 k gs (.tup es) rho P↔(es.length=k/\gs es rho P):=⟨fun⟨_,e,h⟩=>by cases e;exact h,λh=>⟨_,rfl,h⟩⟩
@[simp] theorem xL7{C g i j k}:rdI C g (.int i) (.int j) k=(C i j/\k (g i j)):=rfl
@[simp] theorem xE0{g i j k}:zx0 g (.int i) (.int j) k=k (g i j):=rfl
@[simp] theorem xL8{f c d k}:rdB f (.bl c) (.bl d) k=k (.bl (f c d)):=rfl
@[simp] theorem zM1{es i k}:Wf (.lst es) (.int i) k↔∃d,atI es i=some d/\k d:=⟨fun⟨_,_,d,e,e',h⟩=>by cases e' ;rcases e with e |e |e<;>cases e;exact⟨d,h⟩,fun⟨d,h⟩=>⟨_,_,d,.inl rfl,rfl,h⟩⟩
@[simp] theorem zi4{es i k}:Wf (.tup es) (.int i) k↔∃d,atI es i=some d/\k d:=⟨fun⟨_,_,d,e,e',h⟩=>by cases e' ;rcases e with e |e |e<;>cases e;exact⟨d,h⟩,fun⟨d,h⟩=>⟨_,_,d,.inr (.inl rfl),rfl,h⟩⟩
@[simp] theorem xt6{es i k}:Wf (.fz es) (.int i) k↔∃d,atI es i=some d/\k d:=⟨fun⟨_,_,d,e,e',h⟩=>by cases e' ;rcases e with e |e |e<;>cases e;exact⟨d,h⟩,fun⟨d,h⟩=>⟨_,_,d,.inr (.inr rfl),rfl,h⟩⟩
@[simp] theorem xu4{es fs k}:zZ0 (.lst es) (.lst fs) k↔(es.length+fs.length<=sizeLine/\k (.lst (es++fs))):=⟨fun⟨_,_,e,e',h⟩=>by cases e;cases e';exact h,λh=>⟨_,_,rfl,rfl,h⟩⟩
@[simp] theorem zx4{es i k}:zi3 (.tup es) (.int i) k↔(es≠[]/\1<=i/\es.length*i.toNat<=sizeLine/\k (.tup (replicate i.toNat es).flatten)):=⟨fun⟨_,_,e,e',h⟩=>by cases e;cases e';exact h,λh=>⟨_,_,rfl,rfl,h⟩⟩
def zb2(es:List D)(p:D->D->Prop):Prop:=∃d d',es=[d,d']/\p d d'
@[simp] theorem xu5{a b p}:zb2 [a,b] p↔p a b:=⟨fun⟨_,_,e,h⟩=>by cases e;exact h,λh=>⟨_,_,rfl,h⟩⟩
@[simp] theorem xD6{i j t F rho n}:xp5 i j t F rho n=(i<rho.length/\j<rho.length/\t rho n λes n1=>zb2 es λd d'=>F.nx ((rho.set i (some d)).set j (some d')) n1):=rfl
@[simp] theorem xt9{i j:Int}{k}:zL9 (.int i) (.int j) k↔k (.bl (decide (i=j))):=by
 have e:decide (ofS (.int i)=ofS (.int j))=decide (i=j):=by simp[ofS]
 unfold zL9;rw[e];exact⟨λh=>h.2.2.2,λh=>⟨rfl,rfl,rfl,h⟩⟩
@[simp] theorem xu0{i j:Bool}{k}:zL9 (.bl i) (.bl j) k↔k (.bl (decide (i=j))):=by
 have e:decide (ofS (.bl i)=ofS (.bl j))=decide (i=j):=by simp[ofS]
 unfold zL9;rw[e];exact⟨λh=>h.2.2.2,λh=>⟨rfl,rfl,rfl,h⟩⟩
@[simp] theorem xt4{i j:Int}{k}:zY2 (.int i) (.int j) k↔k (.bl (!decide (i=j))):=by
 have e:decide (ofS (.int i)=ofS (.int j))=decide (i=j):=by simp[ofS]
 unfold zY2;rw[e];exact⟨λh=>h.2.2.2,λh=>⟨rfl,rfl,rfl,h⟩⟩
@[simp] theorem xt5{i j:Bool}{k}:zY2 (.bl i) (.bl j) k↔k (.bl (!decide (i=j))):=by
 have e:decide (ofS (.bl i)=ofS (.bl j))=decide (i=j):=by simp[ofS]
 unfold zY2;rw[e];exact⟨λh=>h.2.2.2,λh=>⟨rfl,rfl,rfl,h⟩⟩
@[simp] theorem xv8{fs k}:zI0 [.lst fs] k↔k (.int fs.length):=⟨fun⟨_,e,h⟩=>by rcases e with e |e |e<;>cases e;exact h,λh=>⟨_,.inl rfl,h⟩⟩
@[simp] theorem Jg{fs k}:zI0 [.tup fs] k↔k (.int fs.length):=⟨fun⟨_,e,h⟩=>by rcases e with e |e |e<;>cases e;exact h,λh=>⟨_,.inr (.inl rfl),h⟩⟩
@[simp] theorem xv9{fs k}:zI0 [.fz fs] k↔k (.int fs.length):=⟨fun⟨_,e,h⟩=>by rcases e with e |e |e<;>cases e;exact h,λh=>⟨_,.inr (.inr rfl),h⟩⟩
@[simp] theorem xE2{i k}:xH8 [.int i] k↔k (.int (if i<0 then -i else i)):=⟨fun⟨_,e,h⟩=>by cases e;exact h,λh=>⟨_,rfl,h⟩⟩
@[simp] theorem xw2{i k}:xf7 [.bl i] k↔k (.int (if i then 1 else 0)):=⟨fun⟨_,e,h⟩=>by cases e;exact h,λh=>⟨_,rfl,h⟩⟩
@[simp] theorem zZ7{fs k}:zo2 [.lst fs] k↔k (.tup fs):=⟨fun⟨_,e,h⟩=>by rcases e with e |e<;>cases e;exact h,λh=>⟨_,.inl rfl,h⟩⟩
@[simp] theorem zZ6{fs k}:zo2 [.tup fs] k↔k (.tup fs):=⟨fun⟨_,e,h⟩=>by rcases e with e |e<;>cases e;exact h,λh=>⟨_,.inr rfl,h⟩⟩
@[simp] theorem xm1{fs k}:zR4 [.lst fs] k↔k (.lst fs):=⟨fun⟨_,e,h⟩=>by rcases e with e |e<;>cases e;exact h,λh=>⟨_,.inl rfl,h⟩⟩
@[simp] theorem xl9{fs k}:zR4 [.tup fs] k↔k (.lst fs):=⟨fun⟨_,e,h⟩=>by rcases e with e |e<;>cases e;exact h,λh=>⟨_,.inr rfl,h⟩⟩
@[simp] theorem xx2{i tb rho n P}:xh8 i tb rho n P=(rho[i]?=some (some .st)/\tb rho n λd n1=>∃j:Int,d=.int j/\0<=j/\j<n1/\∀z:Int,0<=z->(j=1->z<2147483647)->P (.int z) n1):=rfl
@[simp] theorem xj7{i te tb F rho n}:zF6 i te tb F rho n=(rho[i]?=some (some .st)/\te rho n λd n1=>tb rho n1 λd2 n2=>∃j z:Int,d=.int z/\d2=.int j/\0<=j/\j<n2/\0<=z/\(j=1->z<2147483647)/\F.nx rho n2):=rfl
@[simp] theorem xM6:xT .non=true:=rfl
@[simp] theorem xM5{b}:xT (.bl b)=true:=rfl
@[simp] theorem xM4{b}:xT (.int b)=true:=rfl
@[simp] theorem xM3{b}:xT (.str b)=true:=rfl
@[simp] theorem xM2{b}:xT (.tup b)=true:=rfl
@[simp] theorem xM1{b}:xT (.lst b)=true:=rfl
@[simp] theorem xM0:xT .st=true:=rfl
@[simp] theorem xL9{b}:xT (.fz b)=true:=rfl
@[simp] theorem xN3:jg .non=true:=rfl
@[simp] theorem xN2{b}:jg (.bl b)=false:=rfl
@[simp] theorem xN1{b}:jg (.int b)=false:=rfl
@[simp] theorem xN0{b}:jg (.str b)=false:=rfl
@[simp] theorem xM9{b}:jg (.tup b)=false:=rfl
@[simp] theorem xM8{b}:jg (.lst b)=false:=rfl
@[simp] theorem xL5{b}:YZ (.lst b)=some (true,b):=rfl
@[simp] theorem xL4{b}:YZ (.tup b)=some (false,b):=rfl
@[simp] theorem xr6:(0<=sizeLine)=True:=by simp
@[simp] theorem xr5:(1<=sizeLine)=True:=by simp[sizeLine]
@[simp] theorem xr4:(2<=sizeLine)=True:=by simp[sizeLine]
@[simp] theorem xr3:(3<=sizeLine)=True:=by simp[sizeLine]
@[simp] theorem xr2:(4<=sizeLine)=True:=by simp[sizeLine]
@[simp] theorem xr1:(5<=sizeLine)=True:=by simp[sizeLine]
@[simp] theorem xr0:(6<=sizeLine)=True:=by simp[sizeLine]
@[simp] theorem xq9:(7<=sizeLine)=True:=by simp[sizeLine]
def wX{k:Nat}(h:k<=1000:=by decide):k<=sizeLine:=zB h w6
def lt_size{k:Nat}(h:k<=1000:=by decide):k<sizeLine:=Nat.lt_of_le_of_lt h w6
def QI(own:Nat)(g:TGD)(tt:TBD)(te:TD)(rho:Rho)(P:D->Nat->Prop)(items:List D)(n1:Nat):Prop:=items.length<=sizeLine/\∃J:Nat->List D->Nat->Prop,J 0 [] n1 /\
 (∀i d acc n,items[i]?=some d->J i acc n->g d (replicate own none++rho) λrho'=>rho'.drop own=rho/\tt rho' n λc n2=>if c=true then te rho' n2 λe n3=>J (i+1) (acc++[e]) n3 else J (i+1) acc n2) /\
 ∀acc n,J items.length acc n->P (.lst acc) n
@[simp] theorem xx5{it own g tt te rho n P}:zd7 it own g tt te rho n P=it rho n (QI own g tt te rho P):=rfl
def xe1(g:TGD)(tb:TSD)(F:EndsD)(rho:Rho)(items:List D)(n1:Nat):Prop:=∃J:Nat->Rho->Nat->Prop,J 0 rho n1 /\
 (∀i d rho n,items[i]?=some d->J i rho n->g d rho λrho'=>tb { F with nx:=J (i+1),ct:=J (i+1),bk:=F.nx } rho' n)/\∀rho n,J items.length rho n->F.nx rho n
@[simp] theorem xD9{it g tb F rho n}:xC2 it g tb F rho n=it rho n (xe1 g tb F rho):=rfl
def zE2{it:TID}{own:Nat}{g:TGD}{te:TD}{rho:Rho}{n:Nat}{P:D->Nat->Prop}{α:Type}(enc:α->D)(f:α->D)(xs:List α)
  (hi:∀R,R (xs.map enc) n->it rho n R) (hz:xs.length<=sizeLine) (he:∀x∈xs,∀Q,Q (f x) n->g (enc x) (replicate own none++rho) λrho'=>rho'.drop own=rho/\te rho' n Q) (hP:P (.lst (xs.map f)) n):zd7 it own g xi5 te rho n P:=by
 refine hi _ ⟨by simpa using hz,λi acc n'=>n'=n/\acc=(xs.take i).map f,⟨rfl,rfl⟩,?_,?_⟩
 ·rintro i d acc n' e ⟨rfl, rfl⟩;rw[zt] at e
  cases q:xs[i]? with
  |none=>rw[q] at e;cases e
  |some x=>
   rw[q] at e;cases e;have hm:x∈xs:=zP q;refine he x hm (λe n3=>n3=n'/\(xs.take i).map f++[e]=(xs.take (i+1)).map f) ⟨rfl,?_⟩;rw[xC,q];simp
 ·rintro acc n' ⟨rfl,rfl⟩;rw[zg,wF];exact hP
def zt4{α:Type}{xs:List α}{i:Int}(h0:0<=i)(h1:i<xs.length):∃d,atI xs i=some d/\d∈xs:=by
 obtain⟨k,rfl⟩:=xO h0
 have hk:k<xs.length:=w5
 exact⟨xs[k],kX (by simp[hk]),wl hk⟩
@[simp] theorem xO4{α:Type}{a:α}{l:List α}:atI (a::l) 0=some a:=kX (j:=0) rfl
@[simp] theorem xO3{α:Type}{a b:α}{l:List α}:atI (a::b::l) 1=some b:=kX (j:=1) rfl
@[simp] theorem xO2{α:Type}{a b c:α}{l:List α}:atI (a::b::c::l) 2=some c:=kX (j:=2) rfl
@[simp] theorem xu6{es p}:Za (some (some (.own es))) p↔p es:=⟨fun⟨_,e,h⟩=>by cases e;exact h,λh=>⟨_,rfl,h⟩⟩
@[simp] theorem xn0{i tb rho n P}:zJ0 i tb rho n P=Za rho[i]? λes=>tb rho n λd n1=>∃j c,d=.int j/\atI es j=some c/\P c n1:=rfl
@[simp] theorem zZ2{i te tb F rho n}:zL1 i te tb F rho n=Za rho[i]? λes=>te rho n λd n1=>tb rho n1 λd2 n2=>∃j m,d2=.int j/\ixN es.length j=some m/\F.nx (rho.set i (some (.own (es.set m d)))) n2:=rfl
@[simp] theorem xE5:ixN 3 0=some 0:=rfl
@[simp] theorem xE4:ixN 3 1=some 1:=rfl
@[simp] theorem xE3:ixN 3 2=some 2:=rfl
def zE9(H:Hp):Prop:=∀b,H b=none\/(∃o xs,H b=some (.frz o (.lst xs)))\/∃q,H b=some (.cot q)
def Ut(K:W.Frag):Sp:=λvs H Q _=>∃(a:Addr) (ns:List Int),vs=[.ref a]/\zE9 H/\SqL K H a (ns.map V.int)/\ns.length<=63/\(∀P q,kZ K P q->H P=some (.cot q))/\∀H',(∀P q,H P=some (.cot q)->H' P=some (.cot q))->Q (.bl true) H'
def wv(ns:List Int):D:=.fz (ns.map D.int)
def vY(ns:List Int)(N:Nat):Rho:=some (wv ns)::replicate (N-1) none
def WJ(ns:List Int)(i N:Nat):Rho:=(vY ns N).set i (some .st)
theorem Zu{K:W.Frag}{G:Option Addr}{Z:Addr->Prop}{H:Hp}:∀{ns:List Int},Reps K G Z H (ns.map D.int) (ns.map V.int)
 |[]=>.nil
 |n::ns=>.cons (Rep.ofS (d:=.int n) rfl) Zu
theorem qE{K:W.Frag}{G:Option Addr}{Z:Addr->Prop}{H:Hp}:∀{ns:List Int}{xs:List V},Reps K G Z H (ns.map D.int) xs->xs=ns.map V.int
 |[],xs,h=>by unfold Reps at h;exact h
 |n::ns,xs,h=>by
  obtain⟨v,r,rfl,h1,h2⟩:=Reps.split h;rw[h1.int_inv,qE h2];rfl
section
variable {P:Program}{w:World}{K:W.Frag}{mg:Str->Option Value}{base:Heap}
def Fun.okLaw{x qual:Str}{st:Stmt}{f:Addr}{fd:FuncData}{N:List Str}{p:Str}{k:Nat}{t:TSD}(F:Fun K x qual st f fd)(S:FnScope N [p] (xg st))(n0:Nat)
  (body : ∀ (cdv : Value) (A0 : Around) (outer : List Env) (s : Shared) (H : Hp) (E : XK), Room k (A0.deeper (envOfC qual (xg st) s.heap.objs.size f cdv)) ->
   ze0 ⟨K,none,λ_=>False,H⟩ (zu5 CX0 P w K mg base N qual (xg st) f cdv A0 outer s H E).nox (vN st) t)
  (h1:∀(ns:List Int),ns.length<=63->t { nx:=λ_ _=>False,rt:=λd _=>d=.bl true } (startD N [wv ns]) n0):FnOk P w K mg base CX0 (k+1) f fd [p] (Ut K):=by
 exists (by
   refine F.ok S (λvs H Q E h=>?_) (λcdv A0 outer s H vs Q E hr h=>?_)
   ·obtain⟨a,ns,rfl,_⟩:=h;rfl
   ·obtain ⟨a, ns, rfl, hO, hS, hl, hT, k⟩ := h;refine⟨_,body cdv A0 outer s H E hr,?_⟩
    have rs:Reps K none (λ_=>False) H [wv ns] [.ref a]:=by
     refine .cons ?_ .nil;unfold wv Rep;refine⟨a,ns.map V.int,rfl,?_,Zu⟩
     rcases hS with (q |⟨o,q⟩) |q
     ·rcases hO a with z | ⟨o, xs, z⟩ | ⟨o, z⟩
      ·rw[z] at q;cases q
      ·rw[z] at q;cases q
      ·rw[z] at q;cases q
     ·exact .inl ⟨λz=>z,o,q⟩
     ·exact .inr (.inr q)
    refine⟨startD N [wv ns],n0,_,[],[],⟨[],jj rs (λb e=>by cases e) (λb e=>by cases e) ⟨λb e=>e.elim,λP q t=>⟨hT P q t,by simp⟩⟩⟩,h1 ns hl,?_⟩
    refine⟨λ_ _ _ _ _ q=>q.elim,λd n v rho2 sg2 H2 ⟨os2,I2⟩ q=>?_,λ_ _ _ _ _ q=>q.elim,λ_ _ _ _ _ q=>q.elim⟩;subst q;rw[I2.pop.2.bl_inv]
    exact k H2 λP q e=>I2.fr P _ (by simp) e)
end
def xC1(i:Nat)(t:TF)(t1:TAD)(t2:TSD):TSD:=λF rho n=>∃ns:List Int,i<rho.length/\i≠0/\rho[0]?=some (some (wv ns))/\t1 rho n λes n1=>∃j:Int,es=[wv ns,.int j]/\n1=n/\t es n λd n2=>∃zs:List Int,d=.lst (zs.map D.int)/\zs.length=n/\(∀x∈zs,0<=x)/\(∀x,zs[1]?=some x->x<2147483647) /\
 t2 { nx:=λrho' n'=>n'=n/\rho'.length=rho.length/\rho'[0]?=some (some (wv ns))/\F.nx (vY ns rho.length) n,rt:=λd n'=>n'=n/\kw d=true/\F.rt d n,bk:=λrho' n'=>n'=n/\rho'.length=rho.length/\rho'[0]?=some (some (wv ns))/\F.bk (vY ns rho.length) n,ct:=λrho' n'=>n'=n/\rho'.length=rho.length/\rho'[0]?=some (some (wv ns))/\F.ct (vY ns rho.length) n } (WJ ns i rho.length) n
@[simp] theorem zU2{ns:List Int}:xT (wv ns)=true:=rfl
@[simp] theorem zM2{ns:List Int}{k:D->Prop}:zI0 [wv ns] k↔k (.int ns.length):=by unfold wv;simp
def zm1{i:Nat}{t:TF}{t1:TAD}{t2:TSD}{F:EndsD}{rho:Rho}{n:Nat}(ns:List Int)(hi:i<rho.length)(h0:i≠0)(hr:rho[0]?=some (some (wv ns)))(j:Int)(ht:t1 rho n λes n1=>es=[wv ns,.int j]/\n1=n)
  (ht1:∀(P P':List D->Nat->Prop),(∀es n1,P es n1->P' es n1)->t1 rho n P->t1 rho n P')
  (h : t [wv ns, .int j] n λd n2 => ∃ zs : List Int, d = .lst (zs.map D.int) /\ zs.length = n /\ (∀ x ∈ zs, 0 <= x) /\ (∀ x, zs[1]? = some x -> x < 2147483647) /\
   t2 { nx:=λrho' n'=>n'=n/\rho'.length=rho.length/\rho'[0]?=some (some (wv ns))/\F.nx (vY ns rho.length) n,rt:=λd n'=>n'=n/\kw d=true/\F.rt d n,bk:=λrho' n'=>n'=n/\rho'.length=rho.length/\rho'[0]?=some (some (wv ns))/\F.bk (vY ns rho.length) n,ct:=λrho' n'=>n'=n/\rho'.length=rho.length/\rho'[0]?=some (some (wv ns))/\F.ct (vY ns rho.length) n } (WJ ns i rho.length) n):xC1 i t t1 t2 F rho n:=
 ⟨ns,hi,h0,hr,ht1 _ _ (λes n1 ⟨e1,e2⟩=>⟨j,e1,e2,by rw[e1];exact h⟩) ht⟩
section
variable {A:AC}{X:Cx}{e:Expr}{es:List Expr}{t1:TAD}{t2:TSD}{pos p:Pos}
def ZR{K:W.Frag}{G G':Option Addr}{Z Z':Addr->Prop}{H H':Hp}{ns:List Int}{v:V}(h:Rep K G Z H (wv ns) v)(hz:∀a o u,¬ Z a->H a=some (.frz o u)->¬ Z' a/\H' a=some (.frz o u)):Rep K G' Z' H' (wv ns) v:=by
 unfold wv Rep at h ⊢;obtain⟨a,xs,rfl,sq,rs⟩:=h
 refine⟨a,xs,rfl,?_,by rw[qE rs];exact Zu⟩
 rcases sq with ⟨nz,o,e⟩ |sq
 ·obtain⟨z1,z2⟩:=hz a o _ nz e;exact .inl ⟨z1,o,z2⟩
 ·exact .inr sq
def zx9{x g:Str}{i:Nat}{t:TF}{kk:Nat}{pos' spos:Pos}{rest:List Stmt}(hG:A.G=none)(hN:X.N.Nodup)(hi:X.N[i]?=some x)(hx:Loc X.env.scope x)(F:Fn X.prog X.w X.K X.mg X.base g kk 2 t)(hr:Room kk X.A)(hK:X.K=A.K)
  (ha:PAD A X (e::es) t1) (h2:∀(c:Addr) (Z:Addr->Prop) (H0:Hp),ze0 ⟨A.K,some c,Z,H0⟩ X rest t2) (hg:Gl X g:=by rfl) (hdb:(g == ("__debug__" : Str))=false:=by decide) (he:starEach (e::es) X.env=(false,eval e X.env)::starEach es X.env:=by rfl) (hpl:(backTo pos (starEach es X.env)).any (·.1)=false:=by rfl)
  (hs:swapsWith (.Call (.Name g p) (e::es) [] pos) (some (.Name x pos')) spos.line X.env=pure false:=by rfl) (hf:X.fn x=true\/X.env.scope.names.lookup x=some .local:=by first |exact .inl rfl |exact .inr rfl |assumption) :
  ze0 A X (.Assign [.Name x pos'] (.Call (.Name g p) (e::es) [] pos) spos::rest) (xC1 i t t1 t2):=by
 exists (by
   obtain⟨f,fd,ps,f1,f2,f3,f4⟩:=F.ex;have c1:=Qh (pos:=spos) hN hi hx (VC (p:=p) f1 hr hg f2 f3 f4 .nil zz5 ha hdb he hpl) hs hf
   have c2:PSs X rest (λE' sg' H'=>∃c Z H0,sOf ⟨A.K,some c,Z,H0⟩ t2 E' sg' H'):=λpins s' sg' H' D I q=>by
    obtain⟨c,Z,H0,q⟩:=q;exact h2 c Z H0 pins s' sg' H' D I q
   refine(Vy c1 c2).imp λE sg H h=>?_;obtain⟨rho,n,F,ds,vs,I,⟨ns,hi',h0,hr0,ht⟩,ok⟩:=h;refine⟨rho,n,_,ds,vs,I,ht,λws H' n' es' ⟨os',J⟩ hl k=>?_⟩;obtain⟨j,rfl,rfl,k⟩:=k;obtain⟨J1,rs⟩:=J.split hl;obtain⟨v1,v2,rfl,r1,r2⟩:=UB rs;have r1':Rep A.K none (λa=>Hot (H' a)/\¬ ∃o u,H' a=some (.frz o u)) H' (wv ns) v1:=ZR r1 λa o u _ e=>⟨λz=>z.2 ⟨o,u,e⟩,e⟩
   have r2':Rep A.K none (λa=>Hot (H' a)/\¬ ∃o u,H' a=some (.frz o u)) H' (.int j) v2:=by rw[r2.int_inv];exact Rep.ofS (d:=.int j) rfl
   rw[wB,hK]
   refine⟨none,λa=>Hot (H' a)/\¬ ∃o u,H' a=some (.frz o u),n',_,_,rfl,.cons r1' (.cons r2' .nil),λb e=>(by cases e),λb e=>(by cases e),⟨λb z=>z.1,λP q t=>⟨(J1.zO.2 P q t).1,by simp⟩⟩,k,λv H2 n2 d fr st r q=>?_⟩
   obtain⟨zs,rfl,q1,q2,q3,q⟩:=q;obtain⟨c,xs,rfl,sq,rr⟩:=r.lst_inv;rw[qE rr] at sq
   have hc:H' c=none:=by
    cases z:H' c with
    |none=>rfl
    |some o=>
     have z2:=fr c o (by simp) z
     rw[sq.2] at z2;cases z2
     exact absurd ⟨by rw[z];exact Hot.lst,fun⟨o,u,z3⟩=>by rw[z] at z3;cases z3⟩ sq.1
   have ne:∀{a:Addr}{o:HO},H' a=some o->a≠c:=λ{a o} e h=>by rw[h,hc] at e;cases e
   have back:∀{os:List (Nat × Addr)}{rho' rho2:Rho}{sg':St}{H3:Hp}{ds3:List D}{vs3:List V},AmO ⟨A.K,some c,λb=>Zof A os' b\/b=c,H2⟩ os n' rho' sg' H3 ds3 vs3->rho2.length=sg'.length->(∀j d,rho2[j]?=some (some d)->∃v,sg'[j]?=some (some v)/\Rep A.K A.G (Zof A []) H3 d v)->AmO A [] n' rho2 sg' H3 ds vs:=λ{os rho' rho2 sg' H3 ds3 vs3} I3 hl2 hs2=>by
    have keep:∀a o,H' a=some o->H3 a=some o:=λa o e=>I3.fr a o (λz=>ne e (zF z).symm) (fr a o (by simp) e)
    refine⟨hl2,λj d e=>?_,?_,.nil,λp hp=>(by simp at hp),λb e=>(by rw[hG] at e;cases e),J1.gz,λa o z e=>keep a o (J1.fr a o z e),J1.z0⟩
    ·obtain⟨v,e1,e2⟩:=hs2 j d e;exact⟨v,e1,SlotR.of e2⟩
    ·refine Reps.mono (λa _ z => ?_) (λa o _ e => keep a o e) _ _ J1.pend
     rcases z with z |⟨p,hp,_⟩
     ·exact .inl z
     ·simp at hp
   have scr:∀{os:List (Nat × Addr)}{rho':Rho}{sg':St}{H3:Hp}{ds3:List D}{vs3:List V},AmO ⟨A.K,some c,λb=>Zof A os' b\/b=c,H2⟩ os n' rho' sg' H3 ds3 vs3->rho'[0]?=some (some (wv ns))->rho.length=sg'.length->AmO A [] n' (vY ns rho.length) sg' H3 ds vs:=λ{os rho' sg' H3 ds3 vs3} I3 e0 hl3=>by
    refine back I3 (by rw[<- hl3];simp[vY];lia) λj d e=>?_
    unfold vY at e
    cases j with
    |zero=>
     cases e;obtain⟨v,e1,e2⟩:=I3.slot 0 _ e0;have e3:=SlotR.rep (d:=wv ns) rfl e2;refine⟨v,e1,ZR e3 λa o u nz e=>⟨λz=>nz ?_,e⟩⟩
     rcases z with z |⟨p,hp,_⟩
     ·exact .inl (.inl (.inl z))
     ·simp at hp
    |succ j=>
     rw[List.getElem?_cons_succ,xi] at e
     split at e<;>cases e
   have hl0:rho.length=sg.length:=J1.len;refine⟨c,λb=>Zof A os' b\/b=c,H2,WJ ns i rho.length,n',_,[],[],⟨[],?_⟩,q,?_⟩
   ·refine ⟨by simp [WJ, vY, hl0]; lia, λj d e => ?_, .nil, .nil, λp hp => by simp at hp, λb e => ?_, λb e => ?_, λb o _ e => e, ?_⟩
    ·unfold WJ at e
     by_cases hj:j=i
     ·subst hj
      rw[zT (by simp[vY];lia)] at e
      cases e
      exact⟨.ref c,zT w5,SlotR.of (by unfold Rep;exact⟨c,rfl,rfl⟩)⟩
     ·rw [zY (Ne.symm hj)] at e;unfold vY at e
      cases j with
      |zero=>
       cases e;obtain⟨v,e1,e2⟩:=J1.slot 0 _ hr0;have e3:=SlotR.rep (d:=wv ns) rfl e2
       refine⟨v,by rw[zY h0];exact e1,SlotR.of (ZR e3 λa o u nz e=>⟨λz=>?_,fr a _ (by simp) e⟩)⟩
       rcases z with (z |z) |⟨p,hp,_⟩
       ·exact nz z
       ·exact ne e z
       ·simp at hp
      |succ j=>
       rw[List.getElem?_cons_succ,xi] at e
       split at e<;>cases e
    ·cases e;exact⟨zs,0,0,sq.2,q1,q2,q3⟩
    ·exact .inr (zF e).symm
    ·refine ⟨λb e => ?_, λP q t => ⟨fr P _ (by simp) (J1.zO.2 P q t).1, λz => ne (J1.zO.2 P q t).1 (zF z).symm⟩⟩
     rcases e with e |e
     ·exact(J1.zHot b e).of λo z=>fr b o (by simp) z
     ·show Hot (H2 b);rw[e,sq.2];exact Hot.lst
   ·refine ⟨λrho3 n3 sg3 H3 ⟨os3, I3⟩ q => ?_, λd n3 v rho3 sg3 H3 ⟨os3, I3⟩ q => ?_, λrho3 n3 sg3 H3 ⟨os3, I3⟩ q => ?_, λrho3 n3 sg3 H3 ⟨os3, I3⟩ q => ?_⟩
    ·obtain ⟨rfl, l3, e3, q⟩ := q
     exact ok.nx _ _ _ _ ⟨[],scr I3 e3 (by rw[<- l3];exact I3.len)⟩ q
    ·obtain ⟨rfl, hd, q⟩ := q
     have I4:AmO A [] n3 (replicate sg3.length none) sg3 H3 ds vs:=back I3 (by simp) λj d e=>by
      rw[xi] at e
      split at e<;>cases e
     refine ok.rt _ _ _ _ _ _ ⟨[],I4.push ?_⟩ q;rw[I3.pop.2.toS hd];exact Rep.ofS hd
    ·obtain ⟨rfl, l3, e3, q⟩ := q
     exact ok.bk _ _ _ _ ⟨[],scr I3 e3 (by rw[<- l3];exact I3.len)⟩ q
    ·obtain ⟨rfl, l3, e3, q⟩ := q
     exact ok.ct _ _ _ _ ⟨[],scr I3 e3 (by rw[<- l3];exact I3.len)⟩ q)
end
end L2
namespace L2
open PySem PySem.Spec PyProof.Rows PySem.SeqAt
mutual
def eqD:D->D->Bool
 |.non,.non=>true
 |.bl a,.bl b=>a == b
 |.bl a,.int i=>(if a then 1 else 0) == i
 |.int i,.bl a=>i == (if a then 1 else 0)
 |.int i,.int j=>i == j
 |.str x,.str y=>x == y
 |.tup xs,.tup ys=>Yi xs ys
 |.lst xs,.lst ys=>Yi xs ys
 |_,_=>false
def Yi:List D->List D->Bool
 |[],[]=>true
 |x::xs,y::ys=>eqD x y&&Yi xs ys
 |_,_=>false
end
mutual
def okE:D->Nat->Bool
 |.non,_=>true
 |.bl _,_=>true
 |.int _,_=>true
 |.str _,_=>true
 |.tup ds,k=>match k with
  |0=>false
  |k+1=>UL ds k
 |.lst ds,k=>match k with
  |0=>false
  |k+1=>UL ds k
 |_,_=>false
def UL:List D->Nat->Bool
 |[],_=>true
 |d::ds,k=>okE d k&&UL ds k
end
theorem Zz:∀{ds:List D}{k i:Nat}{d:D},UL ds k=true->ds[i]?=some d->okE d k=true
 |[],k,i,d,_,e=>by simp at e
 |c::ds,k,0,d,h,e=>by
  simp at e;subst e;unfold UL at h;rw[zM] at h;exact h.1
 |c::ds,k,i+1,d,h,e=>by
  unfold UL at h;rw[zM] at h
  exact Zz (i:=i) h.2 (by simpa using e)
def eAt(xs ys:List D)(j:Nat):Bool:=match xs[j]?,ys[j]? with
 |some x,some y=>eqD x y
 |_,_=>true
def Wg(n:Nat)(e:Nat->Bool):(List.range (n+1)).all e=(e 0&&(List.range n).all λj=>e (j+1)):=by
 rw[List.range_succ_eq_map,all_cons,List.all_map];rfl
theorem YR:∀(xs ys:List D),((List.range (min xs.length ys.length)).all (eAt xs ys)&&xs.length == ys.length)=Yi xs ys
 |[],[]=>by unfold Yi;rfl
 |[],y::ys=>by unfold Yi;simp
 |x::xs,[]=>by unfold Yi;simp
 |x::xs,y::ys=>by
  have ih:=YR xs ys;unfold Yi;rw[<- ih]
  have e1:min (x::xs).length (y::ys).length=min xs.length ys.length+1:=by simp only[zK];lia
  rw[e1,Wg]
  have e2:((x::xs).length == (y::ys).length)=(xs.length == ys.length):=by simp
  rw[e2,Bool.and_assoc];rfl
def Ki{xs ys:List D}(h:xs.length=ys.length):(List.range xs.length).all (eAt xs ys)=Yi xs ys:=by
 rw[<- YR,h];simp
def zD4{xs ys:List D}(h:xs.length≠ys.length):Yi xs ys=false:=by
 rw[<- YR];simp[h]
theorem zq0:∀{xs ys:List D},xs.length=ys.length->(∀(j:Nat) (x y:D),xs[j]?=some x->ys[j]?=some y->eqD x y=true)->Yi xs ys=true
 |[],[],_,_=>by unfold Yi;rfl
 |[],y::ys,h,_=>by simp at h
 |x::xs,[],h,_=>by simp at h
 |x::xs,y::ys,h,q=>by
  unfold Yi
  rw[q 0 x y rfl rfl,zq0 (by simpa using h) λj a b ha hb=>q (j+1) a b (by simpa using ha) (by simpa using hb)]
  rfl
def Reps.get2{K:W.Frag}{G:Option Addr}{Z:Addr->Prop}{H:Hp}{ds:List D}{vs:List V}{i:Nat}{d:D}{v:V}(h:Reps K G Z H ds vs)(e:ds[i]?=some d)(e':vs[i]?=some v):Rep K G Z H d v:=by
 obtain⟨u,h1,h2⟩:=h.get e;rw[h1] at e';cases e';exact h2
section
variable {X:Cx}{pins:List (Addr × Obj)}{σ:St}{H:Hp}{s:Shared}{G:Option Addr}{Z:Addr->Prop}
def Qc(I:Inv X pins σ H s):∀(k:Nat) (d1 d2:D) (v:V),okE d1 k=true->okE d2 k=true->Rep X.K G Z H d1 v->Rep X.K G Z H d2 v->eqD d1 d2=true:=by
 intro k
 induction k with
 | zero =>
  intro d1 d2 v h1 h2 r1 r2
  cases d1<;>cases d2<;>first
   |(simp[okE] at h1;done) |(simp[okE] at h2;done)
   |(have e1:=r1.toS rfl;have e2:=r2.toS rfl;rw[e1] at e2;simp[ofS] at e2;done)
   |(have e1:=r1.toS rfl;have e2:=r2.toS rfl;rw[e1] at e2;simp[ofS] at e2;simp[eqD,e2])
 | succ k ih =>
  have seq:∀{ds es:List D}{xs:List V},UL ds k=true->UL es k=true->Reps X.K G Z H ds xs->Reps X.K G Z H es xs->Yi ds es=true:=λ{ds es xs} h1 h2 r1 r2=>by
   refine zq0 (r1.length.symm.trans r2.length) λj x y hx hy=>?_;obtain⟨u,hu,ru⟩:=r1.get hx;exact ih x y u (Zz h1 hx) (Zz h2 hy) ru (r2.get2 hy hu)
  intro d1 d2 v h1 h2 r1 r2
  cases d1<;>cases d2<;>try (first
   |(simp[okE] at h1;done) |(simp[okE] at h2;done)
   |(have e1:=r1.toS rfl;have e2:=r2.toS rfl;rw[e1] at e2;simp[ofS] at e2;done)
   |(have e1:=r1.toS rfl;have e2:=r2.toS rfl;rw[e1] at e2;simp[ofS] at e2;simp[eqD,e2];done)
   |(obtain⟨a,xs,e,_⟩:=r1.tup_inv;have e2:=r2.toS rfl;rw[e] at e2;simp[ofS] at e2;done)
   |(obtain⟨a,xs,e,_⟩:=r1.lst_inv;have e2:=r2.toS rfl;rw[e] at e2;simp[ofS] at e2;done)
   |(obtain⟨a,xs,e,_⟩:=r2.tup_inv;have e2:=r1.toS rfl;rw[e] at e2;simp[ofS] at e2;done)
   |(obtain⟨a,xs,e,_⟩:=r2.lst_inv;have e2:=r1.toS rfl;rw[e] at e2;simp[ofS] at e2;done))
  ·rename_i ds es;obtain⟨a,xs,e,sq,rs⟩:=r1.tup_inv;obtain⟨b,ys,e',sq',rs'⟩:=r2.tup_inv;rw[e] at e';cases e';have:=I.tuple_inj sq.sq sq'.sq;subst this;unfold eqD
   exact seq (by simpa [okE] using h1) (by simpa [okE] using h2) rs rs'
  ·rename_i ds es;obtain⟨a,xs,e,sq,rs⟩:=r1.tup_inv;obtain⟨b,ys,e',sq',rs'⟩:=r2.lst_inv;rw[e] at e';cases e';obtain⟨its,rv,pl,hz⟩:=I.tuple sq.sq;obtain⟨its',rv',pl',hz'⟩:=I.list sq'.sq;exact absurd rfl (ne_of_list_tuple pl'.isList (show s.heap.IsTuple a its.toArray from pl))
  ·rename_i ds es;obtain⟨a,xs,e,sq,rs⟩:=r1.lst_inv;obtain⟨b,ys,e',sq',rs'⟩:=r2.tup_inv;rw[e] at e';cases e';obtain⟨its,rv,pl,hz⟩:=I.list sq.sq;obtain⟨its',rv',pl',hz'⟩:=I.tuple sq'.sq;exact absurd rfl (ne_of_list_tuple pl.isList (show s.heap.IsTuple a its'.toArray from pl'))
  ·rename_i ds es;obtain⟨a,xs,e,sq,rs⟩:=r1.lst_inv;obtain⟨b,ys,e',sq',rs'⟩:=r2.lst_inv;rw[e] at e';cases e';have:=I.list_inj sq.sq sq'.sq;subst this;unfold eqD
   exact seq (by simpa [okE] using h1) (by simpa [okE] using h2) rs rs'
def rcC{A:Around}{s:Shared}{y x:Value}{b c:Bool}(h:RcAt A s y x b)(e:b=c):RcAt A s y x c:=e ▸ h
def rnC{A:Around}{s:Shared}{y x:Value}{b c:Bool}(h:RcNeAt A s y x b)(e:b=c):RcNeAt A s y x c:=e ▸ h
def eqC{A:Around}{s:Shared}{y x:Value}{b c:Bool}(h:EqAt A s y x b)(e:b=c):EqAt A s y x c:=e ▸ h
def E3(A:Around)(s:Shared)(u1 u2:Value)(b:Bool):Prop:=EqAt A s u1 u2 b/\RcAt A s u1 u2 b/\RcNeAt A s u1 u2 (!b)
def E3.cast{A:Around}{s:Shared}{y x:Value}{b c:Bool}(h:E3 A s y x b)(e:b=c):E3 A s y x c:=e ▸ h
def zt0:D->D->Bool
 |.tup _,.tup _=>true
 |.lst _,.lst _=>true
 |_,_=>false
def ShE(s:Shared):D->Value->Prop
 |.non,u=>u=.none
 |.bl x,u=>u=.bool x
 |.int x,u=>∃t,u=.int x t
 |.str x,u=>∃t,u=.str x t
 |.tup _,u=>∃a its,u=.ref a/\s.heap.IsTuple a its
 |.lst _,u=>∃a its,u=.ref a/\s.heap.IsList a its
 |_,_=>False
def shE(I:Inv X pins σ H s){k:Nat}{d:D}{v:V}{u:Value}(h:okE d k=true)(r:Rep X.K G Z H d v)(q:RelV v u):ShE s d u:=by
 cases d with
 |non=>have:=r.toS rfl;subst this;exact q
 |bl x=>have:=r.toS rfl;subst this;exact q
 |int x=>have:=r.toS rfl;subst this;exact q
 |str x=>have:=r.toS rfl;subst this;exact q
 |tup x=>
  obtain⟨a,xs,w,sq,_⟩:=r.tup_inv;subst w;obtain⟨its,_,pl,_⟩:=I.tuple sq.sq;exact⟨a,its.toArray,q,pl⟩
 |lst x=>
  obtain⟨a,xs,w,sq,_⟩:=r.lst_inv;subst w;obtain⟨its,_,pl,_⟩:=I.list sq.sq;exact⟨a,its.toArray,q,pl.isList⟩
 |_=>simp[okE] at h
section
local macro_rules
 | `(tactic|nomatch $n:ident,$t,*)=>do
  let f:=fun(p:Lean.Name)=>Lean.mkIdent (p++n.getId)
  let t:=t.getElems
  `(tactic|exact E3.cast ⟨$(f `EqAt) $t*,$(f `RcAt) $t*,$(f `RcNeAt) $t*⟩ (by unfold eqD;rfl))
def zI5(I:Inv X pins σ H s){k:Nat}{d1 d2:D}{v1 v2:V}{u1 u2:Value}{A:Around}(h1:okE d1 k=true)(h2:okE d2 k=true)(r1:Rep X.K G Z H d1 v1)(r2:Rep X.K G Z H d2 v2)(q1:RelV v1 u1)(q2:RelV v2 u2)
  (hu:A.units<cLine) (hb:zt0 d1 d2=false):E3 A s u1 u2 (eqD d1 d2):=by
 have g1:=shE I h1 r1 q1;have g2:=shE I h2 r2 q2;clear h1 h2 r1 r2 q1 q2
 cases d1 with
 |non=>
  cases g1
  cases d2 with
  |non=>cases g2;exact E3.cast ⟨EqAt.same _,RcAt.none_none,RcNeAt.none_none⟩ (by unfold eqD;rfl)
  |bl=>cases g2;nomatch none_bool,_
  |int=>obtain⟨_,rfl⟩:=g2;nomatch none_int,_,_
  |str=>obtain⟨_,rfl⟩:=g2;nomatch none_str,_,_
  |tup=>obtain⟨_,_,rfl,L⟩:=g2;nomatch none_tuple,L,hu
  |lst=>obtain⟨_,_,rfl,L⟩:=g2;nomatch none_list,L,hu
  |_=>exact g2.elim
 |bl x1=>
  cases g1
  cases d2 with
  |non=>cases g2;nomatch bool_none,_
  |bl=>cases g2;nomatch bool_bool,_,_
  |int=>obtain⟨_,rfl⟩:=g2;nomatch bool_int,_,_,_
  |str=>obtain⟨_,rfl⟩:=g2;nomatch bool_str,_,_,_
  |tup=>obtain⟨_,_,rfl,L⟩:=g2;nomatch bool_tuple,_,L,hu
  |lst=>obtain⟨_,_,rfl,L⟩:=g2;nomatch bool_list,_,L,hu
  |_=>exact g2.elim
 |int x1=>
  obtain⟨t1,rfl⟩:=g1
  cases d2 with
  |non=>cases g2;nomatch int_none,_,_
  |bl=>cases g2;nomatch int_bool,_,_,_
  |int=>obtain⟨_,rfl⟩:=g2;nomatch int_int,_,_,_,_
  |str=>obtain⟨_,rfl⟩:=g2;nomatch int_str,_,_,_,_
  |tup=>obtain⟨_,_,rfl,L⟩:=g2;nomatch int_tuple,_,_,L,hu
  |lst=>obtain⟨_,_,rfl,L⟩:=g2;nomatch int_list,_,_,L,hu
  |_=>exact g2.elim
 |str x1=>
  obtain⟨t1,rfl⟩:=g1
  cases d2 with
  |non=>cases g2;nomatch str_none,_,_
  |bl=>cases g2;nomatch str_bool,_,_,_
  |int=>obtain⟨_,rfl⟩:=g2;nomatch str_int,_,_,_,_
  |str=>obtain⟨_,rfl⟩:=g2;nomatch str_str,_,_,_,_
  |tup=>obtain⟨_,_,rfl,L⟩:=g2;nomatch str_tuple,_,_,L,hu
  |lst=>obtain⟨_,_,rfl,L⟩:=g2;nomatch str_list,_,_,L,hu
  |_=>exact g2.elim
 |tup x1=>
  obtain⟨a1,i1,rfl,L1⟩:=g1
  cases d2 with
  |non=>cases g2;nomatch tuple_none,L1,hu
  |bl=>cases g2;nomatch tuple_bool,_,L1,hu
  |int=>obtain⟨_,rfl⟩:=g2;nomatch tuple_int,_,_,L1,hu
  |str=>obtain⟨_,rfl⟩:=g2;nomatch tuple_str,_,_,L1,hu
  |tup=>cases hb
  |lst=>obtain⟨_,_,rfl,L⟩:=g2;nomatch tuple_list,L1,L,hu
  |_=>exact g2.elim
 |lst x1=>
  obtain⟨a1,i1,rfl,L1⟩:=g1
  cases d2 with
  |non=>cases g2;nomatch list_none,L1,hu
  |bl=>cases g2;nomatch list_bool,_,L1,hu
  |int=>obtain⟨_,rfl⟩:=g2;nomatch list_int,_,_,L1,hu
  |str=>obtain⟨_,rfl⟩:=g2;nomatch list_str,_,_,L1,hu
  |tup=>obtain⟨_,_,rfl,L⟩:=g2;nomatch list_tuple,L1,L,hu
  |lst=>cases hb
  |_=>exact g2.elim
 |_=>exact g1.elim
end
def QA(I:Inv X pins σ H s):∀(k:Nat) (d1 d2:D) (v1 v2:V) (u1 u2:Value) (A:Around),okE d1 k=true->okE d2 k=true->Rep X.K G Z H d1 v1->Rep X.K G Z H d2 v2->RelV v1 u1->RelV v2 u2 ->
  A.units+k<cLine->E3 A s u1 u2 (eqD d1 d2):=by
 intro k
 induction k with
 |zero=>
  intro d1 d2 v1 v2 u1 u2 A h1 h2 r1 r2 q1 q2 hu
  refine zI5 I h1 h2 r1 r2 q1 q2 w5 ?_
  cases d1<;>first |rfl |(simp[okE] at h1;done)
 | succ k ih =>
  intro d1 d2 v1 v2 u1 u2 A h1 h2 r1 r2 q1 q2 hu
  by_cases hb:zt0 d1 d2=false
  ·exact zI5 I h1 h2 r1 r2 q1 q2 w5 hb
  have items:∀{ds es:List D}{xs ys:List V}{its its':List Value},UL ds k=true->UL es k=true->Reps X.K G Z H ds xs->Reps X.K G Z H es ys->Vals xs its->Vals ys its' ->
    ∀(j:Nat) (l1:j<its.toArray.size) (l2:j<its'.toArray.size),EqAt A.in1 s its.toArray[j] its'.toArray[j] (eAt ds es j):=λ{ds es xs ys its its'} h1 h2 r1 r2 rv rv' j l1 l2=>by
   have l1':j<its.length:=by simpa using l1
   have l2':j<its'.length:=by simpa using l2
   have a1:j<ds.length:=by rw[<- r1.length,rv.length];exact l1'
   have a2:j<es.length:=by rw[<- r2.length,rv'.length];exact l2'
   have g1:ds[j]?=some ds[j]:=zd a1;have g2:es[j]?=some es[j]:=zd a2;obtain⟨w1,e1,p1⟩:=r1.get g1;obtain⟨w2,e2,p2⟩:=r2.get g2;obtain⟨z1,f1,t1⟩:=rv.get e1;obtain⟨z2,f2,t2⟩:=rv'.get e2
   have m1:its.toArray[j]=z1:=by
    have:its[j]?=some its[j]:=zd l1';rw[f1] at this
    simpa using (zF this).symm
   have m2:its'.toArray[j]=z2:=by
    have:its'[j]?=some its'[j]:=zd l2';rw[f2] at this
    simpa using (zF this).symm
   have e3:eAt ds es j=eqD ds[j] es[j]:=by unfold eAt;rw[g1,g2]
   rw[m1,m2,e3]
   exact(ih _ _ _ _ _ _ A.in1 (Zz h1 g1) (Zz h2 g2) p1 p2 t1 t2 (by show A.units+1+k<cLine;lia)).1
  cases d1 with
  | tup ds =>
   cases d2 with
   | tup es =>
    have s1:=r1;have s2:=r2;obtain⟨a,xs,e,sq,rs⟩:=r1.tup_inv;obtain⟨b,ys,e',sq',rs'⟩:=r2.tup_inv;subst e e';have c1:u1=.ref a:=q1;have c2:u2=.ref b:=q2;subst c1 c2;obtain⟨its,rv,pl,hz⟩:=I.tuple sq.sq;obtain⟨its',rv',pl',hz'⟩:=I.tuple sq'.sq
    have it:=items (by simpa [okE] using h1) (by simpa [okE] using h2) rs rs' rv rv'
    have n1:its.toArray.size=ds.length:=by rw[<- rs.length,rv.length];simp
    have n2:its'.toArray.size=es.length:=by rw[<- rs'.length,rv'.length];simp
    have ev:((List.range (min its.toArray.size its'.toArray.size)).all (eAt ds es)&&its.toArray.size == its'.toArray.size)=eqD (.tup ds) (.tup es):=by
     rw[n1,n2,YR];unfold eqD;rfl
    have R:=rcC (RcAt.tuples (A:=A) (show s.heap.IsTuple a its.toArray from pl) (show s.heap.IsTuple b its'.toArray from pl') w5 it) ev
    have N:=rnC (RcNeAt.tuples (A:=A) (show s.heap.IsTuple a its.toArray from pl) (show s.heap.IsTuple b its'.toArray from pl') w5 it) (congrArg (!·) ev)
    refine⟨?_,R,N⟩
    by_cases hab:a=b
    ·subst hab;exact eqC (EqAt.same _) (Qc I (k+1) _ _ _ h1 h2 s1 s2).symm
    ·exact .of_refs hab R
   |_=>exact absurd rfl hb
  | lst ds =>
   cases d2 with
   | lst es =>
    have s1:=r1;have s2:=r2;obtain⟨a,xs,e,sq,rs⟩:=r1.lst_inv;obtain⟨b,ys,e',sq',rs'⟩:=r2.lst_inv;subst e e';have c1:u1=.ref a:=q1;have c2:u2=.ref b:=q2;subst c1 c2;obtain⟨its,rv,pl,hz⟩:=I.list sq.sq;obtain⟨its',rv',pl',hz'⟩:=I.list sq'.sq
    have it:=items (by simpa [okE] using h1) (by simpa [okE] using h2) rs rs' rv rv'
    have n1:its.toArray.size=ds.length:=by rw[<- rs.length,rv.length];simp
    have n2:its'.toArray.size=es.length:=by rw[<- rs'.length,rv'.length];simp
    have R:RcAt A s (.ref a) (.ref b) (eqD (.lst ds) (.lst es))/\RcNeAt A s (.ref a) (.ref b) (!eqD (.lst ds) (.lst es)):=by
     by_cases hl:ds.length=es.length
     ·have ev : (List.range its.toArray.size).all (eAt ds es) = eqD (.lst ds) (.lst es) := by rw [n1, Ki hl]; unfold eqD; rfl
      exact⟨rcC (RcAt.lists (A:=A) pl.isList pl'.isList (by rw[n1,n2,hl]) w5 it) ev,rnC (RcNeAt.lists (A:=A) pl.isList pl'.isList (by rw[n1,n2,hl]) w5 it) (congrArg (!·) ev)⟩
     ·have ev : false = eqD (.lst ds) (.lst es) := by unfold eqD; exact (zD4 hl).symm
      have hs:(its.toArray.size != its'.toArray.size)=true:=by rw[n1,n2];simpa using hl
      exact⟨rcC (RcAt.lists_lengths (A:=A) pl.isList pl'.isList hs w5) ev,rnC (RcNeAt.lists_lengths (A:=A) pl.isList pl'.isList hs w5) (congrArg (!·) ev)⟩
    refine⟨?_,R⟩
    by_cases hab:a=b
    ·subst hab;exact eqC (EqAt.same _) (Qc I (k+1) _ _ _ h1 h2 s1 s2).symm
    ·exact .of_refs hab R.1
   |_=>exact absurd rfl hb
  |_=>exact absurd rfl hb
def EqV(X:Cx)(H:Hp)(x y:V)(b:Bool):Prop:=∀pins s σ v u,Inv X pins σ H s->RelV x v->RelV y u->∀A:Around,A.units+60<cLine->E3 A s v u b
def xC9(X:Cx):R2:=λx y H Q=>∃b,EqV X H x y b/\Q (.bl b) H
def xq7(X:Cx):R2:=λx y H Q=>∃b,EqV X H x y b/\Q (.bl (!b)) H
def zH1{n:Nat}(hr:Room n X.A):OpR X (compareOp .Eq) (xC9 X):=by
 intro pins s σ H x y v u Q I rx ry h;obtain⟨b,e,q⟩:=h
 exact(e pins s σ v u I rx ry X.A (by have:=hr.units;lia)).2.1 X.prog X.w X.xe _ ⟨.bl b,H,I,rfl,q⟩
def zH0{n:Nat}(hr:Room n X.A):OpR X (compareOp .NotEq) (xq7 X):=by
 intro pins s σ H x y v u Q I rx ry h;obtain⟨b,e,q⟩:=h
 exact(e pins s σ v u I rx ry X.A (by have:=hr.units;lia)).2.2 X.prog X.w X.xe _ ⟨.bl (!b),H,I,rfl,q⟩
def zY7:RD2:=λd1 d2 k=>okE d1 20=true/\okE d2 20=true/\k (.bl (eqD d1 d2))
def zY5:RD2:=λd1 d2 k=>okE d1 20=true/\okE d2 20=true/\k (.bl (!eqD d1 d2))
def zF7{A:AC}(hK:X.K=A.K):kJ A (xC9 X) zY7:=by
 rintro os n rho sg H ds vs d1 d2 v1 v2 k Q I ⟨h1,h2,q⟩ hQ;obtain⟨I1,r2⟩:=I.pop;obtain⟨I2,r1⟩:=I1.pop;rw[<- hK] at r1 r2
 exact⟨eqD d1 d2,λpins s σ v u J rx ry B hu=>QA J 20 d1 d2 v1 v2 v u B h1 h2 r1 r2 rx ry w5,hQ _ H _ ⟨os,I2.push (Rep.ofS rfl)⟩ q⟩
def zX6{A:AC}(hK:X.K=A.K):kJ A (xq7 X) zY5:=by
 rintro os n rho sg H ds vs d1 d2 v1 v2 k Q I ⟨h1,h2,q⟩ hQ;obtain⟨I1,r2⟩:=I.pop;obtain⟨I2,r1⟩:=I1.pop;rw[<- hK] at r1 r2
 exact⟨eqD d1 d2,λpins s σ v u J rx ry B hu=>QA J 20 d1 d2 v1 v2 v u B h1 h2 r1 r2 rx ry w5,hQ _ H _ ⟨os,I2.push (Rep.ofS rfl)⟩ q⟩
@[simp] theorem xu3{d1 d2 k}:zY7 d1 d2 k=(okE d1 20=true/\okE d2 20=true/\k (.bl (eqD d1 d2))):=rfl
@[simp] theorem xu2{d1 d2 k}:zY5 d1 d2 k=(okE d1 20=true/\okE d2 20=true/\k (.bl (!eqD d1 d2))):=rfl
end
end L2
namespace L2
section
variable {A:AC}{X:Cx}{e a b:Expr}{es:List Expr}{te ta tb:TD}{t1:TAD}{pos p:Pos}
def Jq(d:D)(p:List D->Prop):Prop:=∃fs,d=.lst fs/\p fs
@[simp] theorem xv0{fs p}:Jq (.lst fs) p↔p fs:=⟨fun⟨_,e,h⟩=>by cases e;exact h,λh=>⟨_,rfl,h⟩⟩
def xp3(i:Nat)(te:TD):TSD:=λF rho n=>i<rho.length/\te rho n λd n1=>Jq d λfs=>F.nx (rho.set i (some (.own fs))) n1
@[simp] theorem xs5{i te F rho n}:xp3 i te F rho n=(i<rho.length/\te rho n λd n1=>Jq d λfs=>F.nx (rho.set i (some (.own fs))) n1):=rfl
def zr2(i:Nat):TD:=λrho n P=>Za rho[i]? λes=>P (.int es.length) n
@[simp] theorem xa0{i rho n P}:zr2 i rho n P=Za rho[i]? λes=>P (.int es.length) n:=rfl
def UH{i:Nat}{x:Str}{px:Pos}(hm:X.mg "len" = none)(hK:X.K=A.K)(hN:X.N[i]?=some x:=by rfl)(hv:Vis X.env.scope x:=by first |exact Or.inl rfl |exact Or.inr (Or.inl rfl) |exact Or.inr (Or.inr rfl))(hd:(x == ("__debug__" : Str))=false:=by decide)
  (hcd:(x == ("__classdict__" : Str))=false:=by decide) (hg:Gl X "len" := by rfl)
  (he:starEach [.Name x px] X.env=(false,eval (.Name x px) X.env)::starEach [] X.env:=by rfl) (hpl:(backTo pos (starEach [] X.env)).any (·.1)=false:=by rfl):PD A X (.Call (.Name "len" p) [.Name x px] [] pos) (zr2 i):=by
 exists 
   (VB wD hg hm kh (ZV (qN hN hv hd hcd) WI he) w6 w6 he hpl).imp λsg H Q h => by
    obtain⟨rho,n,P,ds,vs,⟨os,I⟩,⟨es,hi,k⟩,hQ⟩:=h;obtain⟨a,xs,e1,hH,rs,_⟩:=I.own (es':=es) (xs':=[]) hi
    exact⟨.ref a,e1,a,xs,rfl,.inl (SqL.of hH),by rw[rs.length];exact hQ _ H n _ ⟨os,I.push (Rep.ofS (d:=.int es.length) rfl)⟩ k⟩
def xj1(K:W.Frag)(mg:Str->Option Value)(x:Str)(d:D):Prop:=∃v u,mg x=some u/\RelV v u/\∀G Z H,Rep K G Z H d v
def zO0{x:Str}{d:D}(h:xj1 X.K X.mg x d)(hK:X.K=A.K)(hg:Gl X x:=by rfl)(hd:(x == ("__debug__" : Str))=false:=by decide):PD A X (.Name x pos) (dC d):=by
 exists (by
   obtain⟨v,u,hm,r,hr⟩:=h;refine(zN4 hg hm r hd).imp λsg H Q q=>?_;obtain⟨rho,n,P,ds,vs,⟨os,I⟩,q,hQ⟩:=q
   exact hQ v H n d ⟨os,I.push (by rw[<- hK];exact hr _ _ _)⟩ q)
def zD0{K:W.Frag}{mg:Str->Option Value}{x:Str}{a:Addr}{o:Obj}{its:Array Value}{n:Nat}{ds:List D}{xs:List V}(hm:mg x=some (.ref a))(hk:K.lookup a=some o)(hc:o.cls=.type "tuple")(hd:o.data=.seq its n)(hz:its.size<=sizeLine)(hv:Vals xs its.toList)
  (hs:∀G Z H,Reps K G Z H ds xs):xj1 K mg x (.tup ds):=⟨.ref a,.ref a,hm,rfl,λG Z H=>.tup_mk (.inr (.inr ⟨o,its,n,hk,hc,hd,hz,hv⟩)) (hs G Z H)⟩
def FnOk.botK{P:Program}{w:World}{K:W.Frag}{mg:Str->Option Value}{base:Heap}{f:Addr}{fd:FuncData}{ps:List Str}{k L:Nat}{t:TF}(ht:∀ds n Q,¬ t ds n Q):FnOk P w K mg base CX0 L f fd ps (spD K k t):=by
 refine⟨λvs H Q E h=>?_,λA outer s H args us vs Q E _ _ _ _ h=>?_⟩
 ·obtain⟨G,Z,n,R,ds,hl,rs,hst,gz,z0,h,_⟩:=h;exact(ht _ _ _ h).elim
 ·obtain⟨G,Z,n,R,ds,hl,rs,hst,gz,z0,h,_⟩:=h;exact(ht _ _ _ h).elim
end
def yd{own:Nat}{g:TGD}{te:TD}{rho:Rho}{n:Nat}{P:D->Nat->Prop}{α:Type}(enc:α->D)(f:α->D)(xs:List α)
  (hz:xs.length<=sizeLine) (he:∀x∈xs,∀Q,Q (f x) n->g (enc x) (replicate own none++rho) λrho'=>rho'.drop own=rho/\te rho' n Q) (hP:P (.lst (xs.map f)) n):QI own g xi5 te rho P (xs.map enc) n:=
 zE2 (it:=λ_ n R=>R (xs.map enc) n) (rho:=rho) enc f xs (λR h=>h) hz he hP
def zi5{d:D}{T:String}{k:D->Prop}(hT:T = "bool" \/ T = "int" \/ T = "str" \/ T = "tuple" \/ T = "list"):zU6 [d,.ty T] k↔(VV d=true/\k (.bl (zR7 T d))):=
 ⟨fun⟨d',T',e,_,h1,h2⟩=>by cases e;exact⟨h1,h2⟩,λh=>⟨d,T,rfl,hT,h.1,h.2⟩⟩
@[simp] theorem zZ9{d:D}{k:D->Prop}:zU6 [d,.ty "bool"] k↔(VV d=true/\k (.bl (zR7 "bool" d))):=zi5 w6
@[simp] theorem xm3{d:D}{k:D->Prop}:zU6 [d,.ty "int"] k↔(VV d=true/\k (.bl (zR7 "int" d))):=zi5 w6
@[simp] theorem xm2{d:D}{k:D->Prop}:zU6 [d,.ty "str"] k↔(VV d=true/\k (.bl (zR7 "str" d))):=zi5 w6
@[simp] theorem zU3{d:D}{k:D->Prop}:zU6 [d,.ty "tuple"] k↔(VV d=true/\k (.bl (zR7 "tuple" d))):=zi5 w6
@[simp] theorem zZ8{d:D}{k:D->Prop}:zU6 [d,.ty "list"] k↔(VV d=true/\k (.bl (zR7 "list" d))):=zi5 w6
@[simp] theorem xt8{i j:Str}{k}:zL9 (.str i) (.str j) k↔k (.bl (decide (i=j))):=by
 have e:decide (ofS (.str i)=ofS (.str j))=decide (i=j):=by simp[ofS]
 unfold zL9;rw[e];exact⟨λh=>h.2.2.2,λh=>⟨rfl,rfl,rfl,h⟩⟩
theorem VH:∀{ds:List D}{k:Nat},UL ds k=true↔∀d∈ds,okE d k=true
 |[],k=>by unfold UL;simp
 |c::ds,k=>by
  unfold UL;rw[zM,VH];simp
def Zc{ds:List D}{k:Nat}:okE (.tup ds) (k+1)=true↔∀d∈ds,okE d k=true:=by
 have e:okE (.tup ds) (k+1)=UL ds k:=by rw[okE]
 rw[e,VH]
mutual
theorem QB:∀{d:D}{k:Nat},okE d k=true->eqD d d=true
 |.non,k,_=>by simp[eqD]
 |.bl b,k,_=>by simp[eqD]
 |.int b,k,_=>by simp[eqD]
 |.str b,k,_=>by simp[eqD]
 |.tup ds,0,h=>by simp[okE] at h
 |.tup ds,k+1,h=>by unfold eqD;unfold okE at h;exact XO h
 |.lst ds,0,h=>by simp[okE] at h
 |.lst ds,k+1,h=>by unfold eqD;unfold okE at h;exact XO h
 |.ty _,k,h=>by simp[okE] at h
 |.fz _,k,h=>by simp[okE] at h
 |.st,k,h=>by simp[okE] at h
 |.own _,k,h=>by simp[okE] at h
 |.owT _ _,k,h=>by simp[okE] at h
 |.prT _,k,h=>by simp[okE] at h
theorem XO:∀{ds:List D}{k:Nat},UL ds k=true->Yi ds ds=true
 |[],k,_=>by simp[Yi]
 |d::ds,k,h=>by
  unfold UL at h;rw[zM] at h;unfold Yi;rw[QB h.1,XO h.2];rfl
end
def zH8(es:List D)(k:List D->Prop):Prop:=∃d1 d2 b1 xs b2 ys,es=[d1,d2]/\YZ d1=some (b1,xs)/\YZ d2=some (b2,ys)/\k (Uj xs ys)
@[simp] theorem xw5{t:TAD}{rho n P}:xg2 t rho n P↔t rho n λes n1=>zH8 es λl=>P l n1:=Iff.rfl
def jD{d1 d2:D}{b1 b2 xs ys}{k:List D->Prop}(h1:YZ d1=some (b1,xs))(h2:YZ d2=some (b2,ys)):zH8 [d1,d2] k↔k (Uj xs ys):=by
 constructor
 ·rintro⟨_,_,_,_,_,_,e,e1,e2,h⟩;cases e;rw[h1] at e1;rw[h2] at e2;cases e1;cases e2;exact h
 ·intro h;exact⟨_,_,_,_,_,_,rfl,h1,h2,h⟩
@[simp] theorem xl3{xs ys}{k:List D->Prop}:zH8 [.tup xs,.tup ys] k↔k (Uj xs ys):=jD rfl rfl
@[simp] theorem xl4{xs ys}{k:List D->Prop}:zH8 [.tup xs,.lst ys] k↔k (Uj xs ys):=jD rfl rfl
@[simp] theorem xl5{xs ys}{k:List D->Prop}:zH8 [.lst xs,.tup ys] k↔k (Uj xs ys):=jD rfl rfl
@[simp] theorem xl6{xs ys}{k:List D->Prop}:zH8 [.lst xs,.lst ys] k↔k (Uj xs ys):=jD rfl rfl
def zp4{K:W.Frag}{mg:Str->Option Value}{x:Str}{a:Addr}{od:Option Addr}{n:Nat}{i j:Int}{t u:Tok}{sl}(hm:mg x=some (.ref a))(hk:K.lookup a=some ⟨.type "tuple",od,.seq #[.int i t,.int j u] n,sl⟩):xj1 K mg x (.tup [.int i,.int j]):=
 zD0 (xs:=[.int i,.int j]) hm hk rfl rfl (by simp[sizeLine]) (.cons ⟨_,rfl⟩ (.cons ⟨_,rfl⟩ .nil)) λG Z H=>by
  exact .cons (.ofS (d:=.int i) rfl) (.cons (.ofS (d:=.int j) rfl) .nil)
theorem XW(f:Nat->Int)(bt:Nat->Nat->Bool)(h:∀i j,bt i j=true↔f j<f i):∀k,argBest bt k<=k/\∀i,i<=k->f i<=f (argBest bt k)
 |0=>⟨zo _,λi hi=>by cases Nat.le_zero.mp hi;exact yr _⟩
 | k + 1 => by
  obtain⟨h1,h2⟩:=XW f bt h k;rw[argBest.eq_2]
  by_cases hb:bt (k+1) (argBest bt k)=true
  ·rw [if_pos hb];have hb':=(h _ _).mp hb;refine⟨zo _,λi hi=>?_⟩
   by_cases e:i=k+1
   ·subst e;exact yr _
   ·have:=h2 i w5;lia
  ·rw [if_neg hb];have hb':¬ f (argBest bt k)<f (k+1):=λz=>hb ((h _ _).mpr z)
   refine⟨w5,λi hi=>?_⟩
   by_cases e:i=k+1
   ·subst e;lia
   ·exact h2 i w5
def Vals.ints_at{ns:List Int}{us:List Value}(h:Vals (ns.map V.int) us){i:Nat}{v:Value}(e:us[i]?=some v):i<ns.length/\∃t,v=.int (ns[i]?.getD 0) t:=by
 have hl:us.length=ns.length:=by have:=h.length;simpa using this.symm
 have hi:i<ns.length:=by rw[<- hl];exact(zn.mp e).1
 refine⟨hi,?_⟩
 have e2:(ns.map V.int)[i]?=some (.int ns[i]):=by rw[zt,zd hi];rfl
 obtain⟨u,hu,r⟩:=h.get e2;rw[e] at hu;cases hu;obtain⟨t,rfl⟩:=r
 exact⟨t,by rw[zd hi];rfl⟩
section
variable {X:Cx}
def Ku(hc:X.calm=true):qo X (.builtin "max") (λxs H Q=>∃(p:Addr) (ns:List Int),xs=[.ref p]/\SqL X.K H p (ns.map V.int)/\0<ns.length/\∀M,M∈ns->(∀a∈ns,a<=M)->Q (.int M) H):=by
 intro pins s σ H xs us Q I r h;obtain⟨p,ns,rfl,hq,hn,q⟩:=h
 cases r with
 | cons r rr =>
  cases rr;cases r;obtain⟨its,rv,pl,_⟩:=I.list hq;have hl:=pl.isList
  have hlt:p<s.heap.objs.size:=by obtain⟨_,e,_⟩:=hl;exact zp e
  have hsz:its.length=ns.length:=by have:=rv.length;simpa using this.symm
  refine call_max_walk (yE hl ⟨s.heap.objs.size,[s.heap.objs.size,p],[s.heap.objs.size],its.toArray.size,_,_,λi j=>decide (ns[j]?.getD 0<ns[i]?.getD 0),rfl,
   Walks.list (A:=X.A.in1) (I.ok.hd hc) _ p (zA hlt) _,⟨⟨_,zq _ rfl,rfl,rfl⟩,hl.push _⟩,λb hb=>?_,?_,λi j vi vj s' Q' E' hi hj hQ=>?_,λv h' tk hP hk=>?_⟩)
  ·simp only [zi, zZ, or_false] at hb
   rcases hb with rfl |rfl
   ·simp[Heap.push]
   ·exact Nat.lt_trans hlt (by simp[Heap.push])
  ·rw[zw,hsz];exact hn
  ·have hi' : its[i]? = some vi := by simpa using hi
   have hj':its[j]?=some vj:=by simpa using hj
   obtain⟨_,ti,rfl⟩:=rv.ints_at hi';obtain⟨_,tj,rfl⟩:=rv.ints_at hj';exact(PyProof.Rows.gt_int hQ:wpAny (model X.prog X.w) X.A.in1 (compareOp .Gt _ _) Q' E' s')
  ·have hP' : its[argBest (λi j => decide (ns[j]?.getD 0 < ns[i]?.getD 0)) (its.toArray.size - 1)]? = some v := by simpa using hP
   obtain⟨hlt2,t,rfl⟩:=rv.ints_at hP'
   obtain⟨hb1,hb2⟩:=XW (λi=>ns[i]?.getD 0) (λi j=>decide (ns[j]?.getD 0<ns[i]?.getD 0)) (λi j=>by simp) (its.toArray.size-1)
   generalize argBest (λi j=>decide (ns[j]?.getD 0<ns[i]?.getD 0)) (its.toArray.size-1)=m at *;refine⟨.int (ns[m]?.getD 0),H,I.kept (Qr hk),⟨_,rfl⟩,q _ ?_ λa ha=>?_⟩
   ·rw[zd hlt2];exact wl hlt2
   ·obtain ⟨i, hi, rfl⟩ := List.mem_iff_getElem.mp ha
    have:=hb2 i (by rw[zw,hsz];lia)
    rw[zd hi] at this;exact this
def Kr(hc:X.calm=true):qo X (.builtin "min") (λxs H Q=>∃(p:Addr) (ns:List Int),xs=[.ref p]/\SqL X.K H p (ns.map V.int)/\0<ns.length/\∀M,M∈ns->(∀a∈ns,M<=a)->Q (.int M) H):=by
 intro pins s σ H xs us Q I r h;obtain⟨p,ns,rfl,hq,hn,q⟩:=h
 cases r with
 | cons r rr =>
  cases rr;cases r;obtain⟨its,rv,pl,_⟩:=I.list hq;have hl:=pl.isList
  have hlt:p<s.heap.objs.size:=by obtain⟨_,e,_⟩:=hl;exact zp e
  have hsz:its.length=ns.length:=by have:=rv.length;simpa using this.symm
  refine call_min_walk (yE hl ⟨s.heap.objs.size,[s.heap.objs.size,p],[s.heap.objs.size],its.toArray.size,_,_,λi j=>decide (ns[i]?.getD 0<ns[j]?.getD 0),rfl,
   Walks.list (A:=X.A.in1) (I.ok.hd hc) _ p (zA hlt) _,⟨⟨_,zq _ rfl,rfl,rfl⟩,hl.push _⟩,λb hb=>?_,?_,λi j vi vj s' Q' E' hi hj hQ=>?_,λv h' tk hP hk=>?_⟩)
  ·simp only [zi, zZ, or_false] at hb
   rcases hb with rfl |rfl
   ·simp[Heap.push]
   ·exact Nat.lt_trans hlt (by simp[Heap.push])
  ·rw[zw,hsz];exact hn
  ·have hi' : its[i]? = some vi := by simpa using hi
   have hj':its[j]?=some vj:=by simpa using hj
   obtain⟨_,ti,rfl⟩:=rv.ints_at hi';obtain⟨_,tj,rfl⟩:=rv.ints_at hj';exact(PyProof.Rows.lt_int hQ:wpAny (model X.prog X.w) X.A.in1 (compareOp .Lt _ _) Q' E' s')
  ·have hP' : its[argBest (λi j => decide (ns[i]?.getD 0 < ns[j]?.getD 0)) (its.toArray.size - 1)]? = some v := by simpa using hP
   obtain⟨hlt2,t,rfl⟩:=rv.ints_at hP'
   obtain⟨hb1,hb2⟩:=XW (λi=>- ns[i]?.getD 0) (λi j=>decide (ns[i]?.getD 0<ns[j]?.getD 0)) (λi j=>by simp) (its.toArray.size-1)
   generalize argBest (λi j=>decide (ns[i]?.getD 0<ns[j]?.getD 0)) (its.toArray.size-1)=m at *;refine⟨.int (ns[m]?.getD 0),H,I.kept (Qr hk),⟨_,rfl⟩,q _ ?_ λa ha=>?_⟩
   ·rw[zd hlt2];exact wl hlt2
   ·obtain ⟨i, hi, rfl⟩ := List.mem_iff_getElem.mp ha
    have:=hb2 i (by rw[zw,hsz];lia)
    rw[zd hi] at this;have e:(some ns[i]).getD 0=ns[i]:=rfl;rw[e] at this;lia
end
section
variable {A:AC}
theorem kn{K:W.Frag}{G:Option Addr}{Z:Addr->Prop}{H:Hp}:∀{bs:List Int}{ws:List V},Reps K G Z H (bs.map D.int) ws->ws=bs.map V.int
 |[],ws,h=>h.nil_inv
 |b::bs,ws,h=>by
  obtain⟨v,r,rfl,q,t⟩:=h.split;rw[q.int_inv,kn t];rfl
def xf4:List D->(D->Prop)->Prop:=λes k=>∃i j,es=[.int i,.int j]/\k (.int (if j > i then j else i))
def xf1:List D->(D->Prop)->Prop:=λes k=>∃i j,es=[.int i,.int j]/\k (.int (if j<i then j else i))
def xf5:List D->(D->Prop)->Prop:=λes k=>∃ns:List Int,es=[.lst (ns.map D.int)]/\0<ns.length/\∀M,M∈ns->(∀a∈ns,a<=M)->k (.int M)
def xf2:List D->(D->Prop)->Prop:=λes k=>∃ns:List Int,es=[.lst (ns.map D.int)]/\0<ns.length/\∀M,M∈ns->(∀a∈ns,M<=a)->k (.int M)
@[simp] theorem xv7{i j k}:xf4 [.int i,.int j] k↔k (.int (if j > i then j else i)):=⟨fun⟨_,_,e,h⟩=>by cases e;exact h,λh=>⟨_,_,rfl,h⟩⟩
@[simp] theorem xv5{i j k}:xf1 [.int i,.int j] k↔k (.int (if j<i then j else i)):=⟨fun⟨_,_,e,h⟩=>by cases e;exact h,λh=>⟨_,_,rfl,h⟩⟩
def zr9:vE A (λxs H Q=>∃i j,xs=[.int i,.int j]/\Q (.int (if j > i then j else i)) H) xf4:=by
 rintro os n rho sg H ds vs es ws k Q I rs ⟨i,j,rfl,q⟩ hQ;obtain⟨v,v',rfl,r,r'⟩:=UB rs
 exact⟨i,j,by rw[r.int_inv,r'.int_inv],hQ _ H _ ⟨os,I.push (Rep.ofS rfl)⟩ q⟩
def zr6:vE A (λxs H Q=>∃i j,xs=[.int i,.int j]/\Q (.int (if j<i then j else i)) H) xf1:=by
 rintro os n rho sg H ds vs es ws k Q I rs ⟨i,j,rfl,q⟩ hQ;obtain⟨v,v',rfl,r,r'⟩:=UB rs
 exact⟨i,j,by rw[r.int_inv,r'.int_inv],hQ _ H _ ⟨os,I.push (Rep.ofS rfl)⟩ q⟩
def zs0:vE A (λxs H Q=>∃(p:Addr) (ns:List Int),xs=[.ref p]/\SqL A.K H p (ns.map V.int)/\0<ns.length/\∀M,M∈ns->(∀a∈ns,a<=M)->Q (.int M) H) xf5:=by
 rintro os n rho sg H ds vs es ws k Q I rs ⟨ns,rfl,hn,q⟩ hQ;obtain⟨v,rfl,r⟩:=qq rs;obtain⟨a,xs,rfl,sq,rr⟩:=r.lst_inv;have e:=kn rr;subst e;exact⟨a,ns,rfl,sq.sq,hn,λM h1 h2=>hQ _ H _ ⟨os,I.push (Rep.ofS rfl)⟩ (q M h1 h2)⟩
def zr7:vE A (λxs H Q=>∃(p:Addr) (ns:List Int),xs=[.ref p]/\SqL A.K H p (ns.map V.int)/\0<ns.length/\∀M,M∈ns->(∀a∈ns,M<=a)->Q (.int M) H) xf2:=by
 rintro os n rho sg H ds vs es ws k Q I rs ⟨ns,rfl,hn,q⟩ hQ;obtain⟨v,rfl,r⟩:=qq rs;obtain⟨a,xs,rfl,sq,rr⟩:=r.lst_inv;have e:=kn rr;subst e;exact⟨a,ns,rfl,sq.sq,hn,λM h1 h2=>hQ _ H _ ⟨os,I.push (Rep.ofS rfl)⟩ (q M h1 h2)⟩
def WY:bootBuiltins "max" = some (.builtin "max"):=x6
def Kw:bootBuiltins "min" = some (.builtin "min"):=x6
end
def XT{own:Nat}{g:TGD}{tt:TBD}{te:TD}{rho:Rho}{n:Nat}{P:D->Nat->Prop}{α:Type}(enc:α->D)(keep:α->Bool)(f:α->D)(xs:List α)(hz:xs.length<=sizeLine)
  (he:∀x∈xs,∀(R:D->Nat->Prop) (S:Nat->Prop),(keep x=true->R (f x) n)->(keep x=false->S n)->g (enc x) (replicate own none++rho) λrho'=>rho'.drop own=rho/\tt rho' n λc n2=>if c=true then te rho' n2 R else S n2)
  (hP:P (.lst ((xs.filter keep).map f)) n):QI own g tt te rho P (xs.map enc) n:=by
 refine⟨by simpa using hz,λi acc n'=>n'=n/\acc=((xs.take i).filter keep).map f,⟨rfl,rfl⟩,?_,?_⟩
 ·rintro i d acc n' e ⟨rfl, rfl⟩;rw[zt] at e
  cases q:xs[i]? with
  |none=>rw[q] at e;cases e
  |some x=>
   rw[q] at e;cases e;have hm:x∈xs:=zP q
   have et:xs.take (i+1)=xs.take i++[x]:=by rw[xC,q];rfl
   refine he x hm (λe n3=>n3=n'/\((xs.take i).filter keep).map f++[e]=((xs.take (i+1)).filter keep).map f) (λn3=>n3=n'/\((xs.take i).filter keep).map f=((xs.take (i+1)).filter keep).map f) (λhk=>⟨rfl,?_⟩) (λhk=>⟨rfl,?_⟩)
   ·rw[et,ym];simp[hk]
   ·rw[et,ym];simp[hk]
 ·rintro acc n' ⟨rfl,rfl⟩;rw[zg,wF];exact hP
def zP5{ds:List D}{k:Nat}:okE (.lst ds) (k+1)=true↔∀d∈ds,okE d k=true:=by
 have e:okE (.lst ds) (k+1)=UL ds k:=by rw[okE]
 rw[e,VH]
def Zd{i:Int}{k:Nat}:okE (.int i) k=true:=by simp[okE]
section
variable {X:Cx}
end
section
variable {A:AC}
def zY8:RD2:=λd1 d2 k=>∃es fs,d1=.tup es/\d2=.tup fs/\es.length+fs.length<=sizeLine/\k (.tup (es++fs))
@[simp] theorem xk7{es fs k}:zY8 (.tup es) (.tup fs) k↔(es.length+fs.length<=sizeLine/\k (.tup (es++fs))):=⟨fun⟨_,_,e,e',h⟩=>by cases e;cases e';exact h,λh=>⟨_,_,rfl,rfl,h⟩⟩
end
section
variable {A:AC}{X:Cx}{a b c e:Expr}{es:List Expr}{te ta tb tc:TD}{t1:TAD}{pos p:Pos}
def Ye(d:D)(k:Int->Prop):Prop:=∃i,d=.int i/\k i
@[simp] theorem xw4{i:Int}{k}:Ye (.int i) k↔k i:=⟨fun⟨_,e,h⟩=>by cases e;exact h,λh=>⟨_,rfl,h⟩⟩
def zr4(f g:Int->Int->Bool)(ta tb tc:TD):TD:=λrho n P=>ta rho n λd1 n1=>tb rho n1 λd2 n2=>Ye d1 λi=>Ye d2 λj=>if f i j=true then tc rho n2 λd3 n3=>Ye d3 λk=>P (.bl (g j k)) n3 else P (.bl false) n2
@[simp] theorem xn4{f g ta tb tc rho n P}:zr4 f g ta tb tc rho n P=ta rho n λd1 n1=>tb rho n1 λd2 n2=>Ye d1 λi=>Ye d2 λj=>if f i j=true then tc rho n2 λd3 n3=>Ye d3 λk=>P (.bl (g j k)) n3 else P (.bl false) n2:=rfl
def xg5(t:TAD):TID:=λrho n P=>t rho n λes n1=>zb2 es λd1 d2=>Ye d1 λi=>Ye d2 λj=>(-(2^62)<=i/\i<2^62/\-(2^62)<=j/\j<2^62)/\P (Je i (j-i).toNat) n1
@[simp] theorem xm4{t rho n P}:xg5 t rho n P=t rho n λes n1=>zb2 es λd1 d2=>Ye d1 λi=>Ye d2 λj=>(-(2^62)<=i/\i<2^62/\-(2^62)<=j/\j<2^62)/\P (Je i (j-i).toNat) n1:=rfl
def zL2(i:Nat)(t:TAD):TSD:=λF rho n=>Za rho[i]? λes=>t rho n λds n1=>∃fs,ds=[.lst fs]/\es.length+fs.length<=sizeLine/\F.nx (rho.set i (some (.own (es++fs)))) n1
@[simp] theorem zZ3{i t F rho n}:zL2 i t F rho n=Za rho[i]? λes=>t rho n λds n1=>∃fs,ds=[.lst fs]/\es.length+fs.length<=sizeLine/\F.nx (rho.set i (some (.own (es++fs)))) n1:=rfl
end
theorem Yo:∀{us:List Value}{ns:List Int},IntsAre us ns->Vals (ns.map V.int) us
 |_,_,.nil=>.nil
 |_,_,.cons n t h=>.cons ⟨t,rfl⟩ (Yo h)
section
variable {X:Cx}{A:AC}
def JC:qo X (.builtin "sorted") (λxs H Q=>∃(p:Addr) (ns:List Int),xs=[.ref p]/\SqL X.K H p (ns.map V.int)/\ns.length<64/\∀ms:List Int,ms.Perm ns->ms.Pairwise (·<=·)->∀l,H l=none->Q (.ref l) (upd H l (.lst (ms.map V.int)))):=by
  intro pins s σ H xs us Q I r h;obtain⟨p,ns,rfl,hq,hn,q⟩:=h
  cases r with
  | cons r rr =>
    cases rr;cases r;obtain⟨its,rv,pl,_⟩:=I.list hq;have hl:=pl.isList
    have hsz:its.length=ns.length:=by have:=rv.length;simpa using this.symm
    refine sorted_ints hl (vV rv) w5 λout ms hi hp hs=>?_
    obtain⟨e,he⟩:=sortedAll_at s.heap its out;have hml:ms.length=ns.length:=hp.length_eq;have hf:H (s.heap.objs.size+1)=none:=I.hok.fresh (xq _);refine⟨.ref (s.heap.objs.size+1),_,I.laid (t':=s.toks) (o:=.lst (ms.map V.int)) (λb u e=>sortedAll_old e) (xq _) ?_,rfl,q ms hp hs _ hf⟩
    exact⟨by rw[zg];exact zB w5 (wX (k:=64) w5),out.toList,e,Yo hi,he⟩
def zR3:List D->(D->Prop)->Prop:=λes k=>∃ns:List Int,es=[.lst (ns.map D.int)]/\ns.length<64/\∀ms:List Int,ms.Perm ns->ms.Pairwise (·<=·)->k (.lst (ms.map D.int))
def zr5:vE A (λxs H Q=>∃(p:Addr) (ns:List Int),xs=[.ref p]/\SqL A.K H p (ns.map V.int)/\ns.length<64/\∀ms:List Int,ms.Perm ns->ms.Pairwise (·<=·)->∀l,H l=none->Q (.ref l) (upd H l (.lst (ms.map V.int)))) zR3:=by
  rintro os n rho sg H ds vs es ws k Q I rs ⟨ns,rfl,hn,q⟩ hQ;obtain⟨v,rfl,r⟩:=qq rs;obtain⟨a,xs,rfl,sq,rr⟩:=r.lst_inv;have e:=kn rr;subst e;exact⟨a,ns,rfl,sq.sq,hn,λms h1 h2 l hl=>hQ _ _ _ ⟨os,I.newLst Zu hl⟩ (q ms h1 h2)⟩
def ZF:bootBuiltins "sorted" = some (.builtin "sorted"):=x6
end
def JV{x y:Str}{px py pt:Pos}{kt k2 pt2}{a b:Expr}{env:Env}(hk:env.blockKind=.function)(hx:env.kindOf x=some .local)(hy:env.kindOf y=some .local)(hl:py.line=px.line)(hxy:x≠y)
  (hsa:qf a=false) (hsb:qf b=false) (hf:[a,b].all (foldedForSure 8)=false) (hc:[a,b].all (constantsAlone 8)=false) :
  swappedStores [.Tuple [.Name x px,.Name y py] kt pt] (.Tuple [a,b] k2 pt2) env=pure (some [x,y]):=by
 have e2:(y == x)=false:=beq_false_of_ne (Ne.symm hxy);have e:(Expr.Name x px).pos.line=px.line:=rfl;unfold swappedStores;simp[hk,hx,hy,hl,hf,hc,e,List.eraseDups,List.eraseDupsBy,List.eraseDupsBy.loop,e2];intro h
 exfalso
 rcases h with h |h
 ·cases a<;>first |(simp at h;done) |(simp[qf] at hsa;done)
 ·cases b<;>first |(simp at h;done) |(simp[qf] at hsb;done)
section
variable {A:AC}{X:Cx}{a b:Expr}{pos:Pos}
def Qg{i j:Nat}{x y:Str}{ta:TAD}{px py pt:Pos}{kt k2 pt2}(hc:X.calm=true)(hN:X.N.Nodup)(hi:X.N[i]?=some x)(hj:X.N[j]?=some y)(hij:i≠j)
  (hx:X.env.scope.names.lookup x=some .local) (hy:X.env.scope.names.lookup y=some .local) (ha:PAD A X [a,b] ta)
  (hk:X.env.blockKind=.function:=by rfl) (hl:py.line=px.line:=by rfl) (hxy:x≠y:=by decide) (hsa:qf a=false:=by rfl) (hsb:qf b=false:=by rfl) (hf:[a,b].all (foldedForSure 8)=false:=by decide +kernel) (hca:[a,b].all (constantsAlone 8)=false:=by decide +kernel) :
  PSD A X (.Assign [.Tuple [.Name x px,.Name y py] kt pt] (.Tuple [a,b] k2 pt2) pos) (xp5 i j ta):=by
 exists 
   zM8 hc hN hi hj hij hx hy ha (JV hk hx hy hl hxy hsa hsb hf hca) rfl
end
def Vx{A:AC}{X:Cx}{e:Expr}{t:TBD}(h:PTD A X e t):PTs X [e] (za2 A t):=by exists zM4 h
end L2
namespace L2
open PySem PySem.Spec PyProof.Rows HT
section
variable {prog:Program}{w:World}{A:Around}{E:Value->Shared->Prop}{s:Shared}
end
section
variable {X:Cx}
end
abbrev TOD:=Rho->Nat->(Option Int->Nat->Prop)->Prop
def oOf(A:AC)(t:TOD):TO:=λsg H Q=>∃rho n P ds vs,Am A n rho sg H ds vs/\t rho n P/\∀o H' n',Am A n' rho sg H' ds vs->P o n'->Q o H'
@[irreducible] def POD(A:AC)(X:Cx)(e:Option Expr)(t:TOD):Prop:=PO X e (oOf A t)
def PO.imp{X:Cx}{e:Option Expr}{t t':TO}(h:PO X e t)(hi:∀sg H Q,t' sg H Q->t sg H Q):PO X e t':=λpins s sg H Q I q=>h pins s sg H Q I (hi _ _ _ q)
section
variable {A:AC}{X:Cx}{a b c e:Expr}{es:List Expr}{te ta tb tc:TD}{t1:TAD}{pos p:Pos}
def xd4:TOD:=λ_ n P=>P none n
def xd3(t:TD):TOD:=λrho n P=>t rho n λd n1=>Ye d λi=>P (some i) n1
@[simp] theorem xu8{rho n P}:xd4 rho n P=P none n:=rfl
@[simp] theorem xu7{t rho n P}:xd3 t rho n P=t rho n λd n1=>Ye d λi=>P (some i) n1:=rfl
def Qj:POD A X none xd4:=by
 exists zM9.imp λsg H Q h=>by
   obtain⟨rho,n,P,ds,vs,I,h,hQ⟩:=h;exact hQ none H n I h
def Qi(h:PD A X e te):POD A X (some e) (xd3 te):=by
 exists (zj5 h).imp λsg H Q h=>by
   obtain⟨rho,n,P,ds,vs,I,h,hQ⟩:=h;refine⟨rho,n,_,ds,vs,I,h,λv H' n' d ⟨os,J⟩ k=>?_⟩;obtain⟨i,rfl,k⟩:=k;obtain⟨J1,r⟩:=J.pop;exact⟨i,r.int_inv,hQ _ H' n' ⟨os,J1⟩ k⟩
def KQ(d:D)(k:List D->Prop):Prop:=∃fs,d=.tup fs/\k fs
@[simp] theorem xq8{fs:List D}{k}:KQ (.tup fs) k↔k fs:=⟨fun⟨_,e,h⟩=>by cases e;exact h,λh=>⟨_,rfl,h⟩⟩
def xP8(ta:TD)(tl th:TOD):TD:=λrho n P=>ta rho n λd n1=>tl rho n1 λlo n2=>th rho n2 λhi n3=>KQ d λfs=>P (.tup (QG fs lo hi)) n3
@[simp] theorem xE9{ta tl th rho n P}:xP8 ta tl th rho n P=ta rho n λd n1=>tl rho n1 λlo n2=>th rho n2 λhi n3=>KQ d λfs=>P (.tup (QG fs lo hi)) n3:=rfl
def XN:D->Bool
 |.non=>true |.bl _=>true |.int _=>true |.str _=>true |_=>false
def inD(x:D)(es:List D):Bool:=es.any λy=>eqD y x
def zp8{K:W.Frag}{G:Option Addr}{Z:Addr->Prop}{H:Hp}{d:D}{v:V}(h:XN d=true)(r:Rep K G Z H d v):v=ofS d/\Ww v=true:=by
 cases d<;>first |(have e:=r.toS rfl;subst e;exact⟨rfl,rfl⟩) |(simp[XN] at h;done)
def xA7{x y:D}(hx:XN x=true)(hy:XN y=true):eqV (ofS y) (ofS x)=eqD y x:=by
 cases x<;>cases y<;>first |(simp[XN] at hx;done) |(simp[XN] at hy;done) |(simp[eqV,eqD,ofS];done) |(simp[eqV,eqD,ofS];rfl)
theorem zR8{K:W.Frag}{G:Option Addr}{Z:Addr->Prop}{H:Hp}{x:D}(hx:XN x=true):∀{es:List D}{vs:List V},es.all XN=true->Reps K G Z H es vs->inV (ofS x) vs=inD x es/\vs.all Ww=true
 |[],vs,_,r=>by rw[r.nil_inv];exact⟨rfl,rfl⟩
 |d::es,vs,h,r=>by
  rw[all_cons,zM] at h;obtain⟨v,w,rfl,q,t⟩:=r.split;obtain⟨e,f⟩:=zp8 h.1 q;obtain⟨e2,f2⟩:=zR8 hx h.2 t;subst e
  constructor
  ·unfold inV inD at e2 ⊢;rw[yI,yI,e2,xA7 hx h.1]
  ·rw[all_cons,f,f2];rfl
def xL0(neg:Bool):RD2:=λd1 d2 k=>XN d1=true/\∃es,(d2=.tup es\/d2=.lst es)/\es.all XN=true/\k (.bl (if neg then !inD d1 es else inD d1 es))
def xq1{neg:Bool}:kJ A (rIn A.K neg) (xL0 neg):=by
 rintro os n rho sg H ds vs d1 d2 v1 v2 k Q I ⟨h1,es,hd,hf,q⟩ hQ;obtain⟨I1,r2⟩:=I.pop;obtain⟨I2,r1⟩:=I1.pop;obtain⟨e1,f1⟩:=zp8 h1 r1;subst e1
 rcases hd with rfl |rfl
 ·obtain ⟨a, xs, e, sq, rs⟩ := r2.tup_inv;obtain⟨z1,z2⟩:=zR8 h1 hf rs
  exact⟨a,xs,e,.inr sq.sq,f1,z2,by rw[z1];exact hQ _ H _ ⟨os,I2.push (Rep.ofS rfl)⟩ q⟩
 ·obtain ⟨a, xs, e, sq, rs⟩ := r2.lst_inv;obtain⟨z1,z2⟩:=zR8 h1 hf rs
  exact⟨a,xs,e,.inl sq.sq,f1,z2,by rw[z1];exact hQ _ H _ ⟨os,I2.push (Rep.ofS rfl)⟩ q⟩
end
end L2
namespace L2
section
variable {A:AC}{X:Cx}{a b c e:Expr}{es:List Expr}{te ta tb tc:TD}{t1:TAD}{pos p:Pos}
def xi4{pins:List (Addr × Obj)}{σ:St}{H:Hp}{s:Shared}(I:Inv X pins σ H s):sysModules<s.heap.objs.size:=Nat.lt_trans w6 (I.mod.glob.keeps I.bk).lt
def xh7{P:Program}{w:World}{H:Hp}(h:Heap)(hb:sysModules<h.objs.size):ObjOk P w H (h.push { cls:=.type "dict",data:=.dict #[] }) h.objs.size (.dK []):=
 ⟨wa _,beq_eq_false_iff_ne.mpr (Ne.symm (zA hb)),[],.nil,Heap.DictOf.new h⟩
end
section
variable {A:AC}{X:Cx}
end
section
variable {A:AC}{X:Cx}{pos p:Pos}
def xQ6(t:TF):TD:=λ_ n P=>t [] n P
@[simp] theorem xF7{t rho n P}:xQ6 t rho n P=t [] n P:=rfl
end
section
variable {A:AC}{X:Cx}{a b e:Expr}{ta tb:TD}{pos p:Pos}
def zw1(i:Nat)(ta tb:TD):TSD:=λF rho n=>i<rho.length/\ta rho n λd1 n1=>tb rho n1 λd2 n2=>Jq d1 λes=>Jq d2 λfs=>es.length+fs.length<=sizeLine/\F.nx (rho.set i (some (.own (es++fs)))) n2
@[simp] theorem zU0{i ta tb F rho n}:zw1 i ta tb F rho n=(i<rho.length/\ta rho n λd1 n1=>tb rho n1 λd2 n2=>Jq d1 λes=>Jq d2 λfs=>es.length+fs.length<=sizeLine/\F.nx (rho.set i (some (.own (es++fs)))) n2):=rfl
def xO9:List D->(D->Prop)->Prop:=λes k=>∃i:Int,es=[.int i]/\i.natAbs.log2<1920/\k (.str (toString i))
@[simp] theorem xE1{i:Int}{k}:xO9 [.int i] k↔(i.natAbs.log2<1920/\k (.str (toString i))):=⟨fun⟨_,e,h⟩=>by cases e;exact h,λh=>⟨_,rfl,h⟩⟩
end
end L2
namespace L2
open PySem PySem.Spec PyProof.Rows HT
section
variable {prog:Program}{w:World}{A:Around}{E:Value->Shared->Prop}{s:Shared}
end
section
variable {X:Cx}{e:Expr}{te:TE}{pos p2:Pos}
end
section
variable {A:AC}{X:Cx}{a:Expr}{ta:TD}{pos p2 p3 p4:Pos}
def xQ0(ta:TD):TD:=λrho n P=>ta rho n λd n1=>KQ d λfs=>P (.tup fs.reverse) n1
@[simp] theorem xF1{ta rho n P}:xQ0 ta rho n P=ta rho n λd n1=>KQ d λfs=>P (.tup fs.reverse) n1:=rfl
end
end L2
namespace L2
open PySem PySem.Spec PyProof.Rows PySem.W PySem.Calls PySem.NumText
section
variable {A:AC}{X:Cx}{e:Expr}{te:TD}{pos:Pos}
def zh6(tc:TBD)(tb:TSD):TSD:=λF rho n=>∃J:Nat->Rho->Nat->Prop,(∃m,J m rho n)/\∀m rho n,J m rho n->tc rho n λb n1=>if b=true then tb { F with nx:=λrho' n'=>∃m',m'<m/\J m' rho' n',ct:=λrho' n'=>∃m',m'<m/\J m' rho' n',bk:=F.nx } rho n1 else F.nx rho n1
def zj1{c:Expr}{body:List Stmt}{tc:TBD}{tb:TSD}(hp:PassesOwn (model X.prog X.w) X.A X.env X.xe)(hc:PTD A X c tc)(hb:ze0 A X body tb):PSD A X (.While c body [] pos) (zh6 tc tb):=by
 exists (zy5 hp hc hb).imp λE sg H h=>by
   obtain⟨rho,n,F,ds,vs,I,⟨J,⟨m0,j0⟩,turn⟩,ok⟩:=h;refine⟨λm sg H=>∃rho n,Am A n rho sg H ds vs/\J m rho n,⟨m0,rho,n,I,j0⟩,?_⟩;rintro m sg1 H1 ⟨rho1,n1,I1,j1⟩;refine⟨rho1,n1,_,ds,vs,I1,turn m rho1 n1 j1,λb H2 n2 I2 k=>?_⟩
   cases b with
   |true=>
    rw[if_pos rfl] at k ⊢;refine⟨λsg' H'=>∃m',m'<m/\∃rho n,Am A n rho sg' H' ds vs/\J m' rho n,λsg' H' ⟨m',hm,q⟩=>⟨m',hm,q⟩,rho1,n2,_,ds,vs,I2,k,?_⟩;exact⟨λrho6 n6 sg6 H6 I6 ⟨m',hm,k6⟩=>⟨m',hm,rho6,n6,I6,k6⟩,λd n6 v rho6 sg6 H6 I6 k6=>ok.rt _ _ _ _ _ _ I6 k6,λrho6 n6 sg6 H6 I6 k6=>ok.nx _ _ _ _ I6 k6,λrho6 n6 sg6 H6 I6 ⟨m',hm,k6⟩=>⟨m',hm,rho6,n6,I6,k6⟩⟩
   |false=>
    rw[if_neg zy] at k ⊢;exact ok.nx _ _ _ _ I2 k
@[simp] theorem xj6{tc tb F rho n}:zh6 tc tb F rho n=∃J:Nat->Rho->Nat->Prop,(∃m,J m rho n)/\∀m rho n,J m rho n->tc rho n λb n1=>if b=true then tb { F with nx:=λrho' n'=>∃m',m'<m/\J m' rho' n',ct:=λrho' n'=>∃m',m'<m/\J m' rho' n',bk:=F.nx } rho n1 else F.nx rho n1:=rfl
def zX2(f:Int->Int->Int)(i:Nat)(te:TD):TSD:=λF rho n=>i<rho.length/\∃a:Int,rho[i]?=some (some (.int a))/\te rho n λd n1=>∃b:Int,d=.int b/\F.nx (rho.set i (some (.int (f a b)))) n1
def zy4{i:Nat}{x:Str}{op:Operator}{f:Int->Int->Int}{pos':Pos}(ho:PIp X op (ipI f))(hN:X.N.Nodup)(hi:X.N[i]?=some x)(hx:Loc X.env.scope x)(he:PD A X e te)(hf:X.fn x=true\/X.env.scope.names.lookup x=some .local:=by first |exact .inl rfl |exact .inr rfl |assumption) :
  PSD A X (.AugAssign (.Name x pos') op e pos) (zX2 f i te):=by
 exists (xa8 hN hi hx he ho hf).imp λE sg H h=>by
   obtain⟨rho,n,F,ds,vs,⟨os,I⟩,⟨hl,a,ha,ht⟩,ok⟩:=h;obtain⟨v,e1,e2⟩:=I.slot i _ ha;have e3:=SlotR.rep (d:=.int a) rfl e2;refine⟨v,e1,rho,n,_,ds,vs,⟨os,I⟩,ht,λw H' n' d ⟨os',J⟩ k=>?_⟩;obtain⟨b,rfl,k⟩:=k;obtain⟨J1,r⟩:=J.pop;refine⟨a,b,e3.int_inv,r.int_inv,ok.nx _ _ _ _ ⟨_,AmO.set (d:=.int (f a b)) (J1.push (Rep.ofS rfl)) hl⟩ k⟩
@[simp] theorem xt2{f i te F rho n}:zX2 f i te F rho n=(i<rho.length/\∃a:Int,rho[i]?=some (some (.int a))/\te rho n λd n1=>∃b:Int,d=.int b/\F.nx (rho.set i (some (.int (f a b)))) n1):=rfl
def zY9:RD2:=λd1 d2 k=>∃x y,d1=.str x/\d2=.str y/\x.length+y.length<=sizeLine/\k (.str (x++y))
@[simp] theorem xk8{x y k}:zY9 (.str x) (.str y) k↔(x.length+y.length<=sizeLine/\k (.str (x++y))):=⟨fun⟨_,_,e,e',h⟩=>by cases e;cases e';exact h,λh=>⟨_,_,rfl,rfl,h⟩⟩
def zY3:RD2:=λd1 d2 k=>∃x i,d1=.str x/\d2=.int i/\MulOk x i/\k (.str (Txt.mul x i))
@[simp] theorem xk4{x i k}:zY3 (.str x) (.int i) k↔(MulOk x i/\k (.str (Txt.mul x i))):=⟨fun⟨_,_,e,e',h⟩=>by cases e;cases e';exact h,λh=>⟨_,_,rfl,rfl,h⟩⟩
end
section
variable {A:AC}{X:Cx}
end
end L2
namespace L2
end L2
namespace L2
open PySem PySem.Spec PyProof.Rows PySem.W PySem.Calls
section
variable {X:Cx}{pos:Pos}
end
section
variable {A:AC}{X:Cx}{a b c:Expr}{pos:Pos}
def xp4(i j k:Nat)(t:TAD):TSD:=λF rho n=>i<rho.length/\j<rho.length/\k<rho.length/\t rho n λes n1=>∃d d' d2,es=[d,d',d2]/\F.nx (((rho.set k (some d2)).set j (some d')).set i (some d)) n1
@[simp] theorem xs8{i j k t F rho n}:xp4 i j k t F rho n=(i<rho.length/\j<rho.length/\k<rho.length/\t rho n λes n1=>∃d d' d2,es=[d,d',d2]/\F.nx (((rho.set k (some d2)).set j (some d')).set i (some d)) n1):=rfl
end
end L2
namespace L2.Srt
open PySem PyProof.Rows
def lab(ls:Array Nat)(i:Nat):Nat:=ls.getD i 0
structure Rule(prog:Program)(w:World)(A:Around)(s:Shared)(n:Nat)(item:Nat->Keyed)(kd:SortKind)(r:Nat->Nat->Bool):Prop where
 tot:∀a b,a<n->b<n->a≠b->r a b=!r b a
 tr:∀a b c,a<n->b<n->c<n->r a b=true->r b c=true->r a c=true
 cmp:∀a b,a<n->b<n->a≠b->∀(E:Value->Shared->Prop) (Q:Bool->Shared->Prop),Q (r a b) s->wpAny (model prog w) A (keyLt' kd (item a).1 (item b).1) Q E s
structure Now(n:Nat)(item:Nat->Keyed)(kd:SortKind)(ls:Array Nat)(t:SortSt):Prop where
 arr:arrOf t=ls.map item
 kd:kindOf t=kd
 ok:failedOf t=none
 pend:pendingOf t=#[]
 perm:ls.Perm (Array.range n)
def Up(r:Nat->Nat->Bool)(ls:Array Nat)(k:Nat):Prop:=∀i j,i<j->j<k->r (lab ls i) (lab ls j)=true
def xo1(r:Nat->Nat->Bool)(ls:Array Nat)(k:Nat):Prop:=∀i j,i<j->j<k->r (lab ls j) (lab ls i)=true
section
variable {n:Nat}{item:Nat->Keyed}{kd:SortKind}{r:Nat->Nat->Bool}{ls:Array Nat}{t:SortSt}
def Now.size(N:Now n item kd ls t):ls.size=n:=by rw[N.perm.size_eq,yO]
def Now.nodup(N:Now n item kd ls t):ls.toList.Nodup:=(Array.perm_iff_toList_perm.mp N.perm).nodup_iff.mpr (by rw[Array.toList_range];exact List.nodup_range)
def qj{i:Nat}(h:i<ls.size):ls[i]?=some (lab ls i):=by
 unfold lab;rw[Array.getD_eq_getD_getElem?,xS h];rfl
def Now.lt(N:Now n item kd ls t){i:Nat}(h:i<n):lab ls i<n:=by
 have e:=qj (ls:=ls) (i:=i) (by rw[N.size];exact h)
 have m:lab ls i∈ls:=Array.mem_of_getElem? e;have m2:lab ls i∈Array.range n:=(N.perm.mem_iff).mp m
 rwa [Array.mem_range] at m2
def Now.ne(N:Now n item kd ls t){i j:Nat}(hi:i<n)(hj:j<n)(h:i≠j):lab ls i≠lab ls j:=λe=>by
 have hi':i<ls.toList.length:=by rw[xX,N.size];exact hi
 have hj':j<ls.toList.length:=by rw[xX,N.size];exact hj
 have e1:=qj (ls:=ls) (i:=i) (by rw[N.size];exact hi)
 have e2:=qj (ls:=ls) (i:=j) (by rw[N.size];exact hj)
 rw[<- yn,zd hi'] at e1;rw[<- yn,zd hj'] at e2;have f:=wN.mp N.nodup
 rcases Nat.lt_or_gt_of_ne h with g |g
 ·exact f i j hi' hj' g (by rw[zF e1,zF e2,e])
 ·exact f j i hj' hi' g (by rw[zF e1,zF e2,e])
def jv{as:Array Nat}{k v:Nat}(h:as[k]?=some v):lab as k=v:=by
 unfold lab;rw[Array.getD_eq_getD_getElem?,h];rfl
def zs7{src d:Nat}(hs:src<ls.size)(hd:d<=src){k:Nat}(hk:k<ls.size):lab (bubble ls src d) k=if k=src-d then lab ls src else if src-d<k/\k<=src then lab ls (k-1) else lab ls k:=by
 refine jv ?_;rw[getElem?_bubble hs d hd k]
 split
 ·exact qj hs
 ·split
  ·exact qj w5
  ·exact qj hk
def zT2{src d:Nat}(hs:src<ls.size)(hd:d<=src):bubble (ls.map item) src d=(bubble ls src d).map item:=by
 refine Array.ext_getElem? λk=>?_
 rw[getElem?_bubble (by simpa using hs) d hd k]
 simp only[yo];rw[getElem?_bubble hs d hd k]
 split
 ·rfl
 ·split<;>rfl
def zm5{i j:Nat}(hj:j<=ls.size){k:Nat}(hk:k<ls.size):lab (mirror ls i j ((j-i)/2)) k=if i<=k/\k<j then lab ls (i+j-1-k) else lab ls k:=by
 refine jv ?_;rw[getElem?_mirror_all hj k]
 split
 ·exact qj w5
 ·exact qj hk
def zQ2{i j:Nat}(hj:j<=ls.size):mirror (ls.map item) i j ((j-i)/2)=(mirror ls i j ((j-i)/2)).map item:=by
 refine Array.ext_getElem? λk=>?_
 rw[getElem?_mirror_all (by simpa using hj) k]
 simp only[yo];rw[getElem?_mirror_all hj k]
 split<;>rfl
def Now.bub(N:Now n item kd ls t){src d:Nat}(hs:src<n)(hd:d<=src):Now n item kd (bubble ls src d) (setArr t (bubble (arrOf t) src d)):=
 ⟨by show bubble (arrOf t) src d=_;rw[N.arr];exact zT2 (by rw[N.size];exact hs) hd,N.kd,N.ok,N.pend,(bubble_perm _ _ _).trans N.perm⟩
def Now.mir(N:Now n item kd ls t){i j:Nat}(hj:j<=n):Now n item kd (mirror ls i j ((j-i)/2)) (setArr t (mirror (arrOf t) i j ((j-i)/2))):=
 ⟨by show mirror (arrOf t) i j _=_;rw[N.arr];exact zQ2 (by rw[N.size];exact hj),N.kd,N.ok,N.pend,(mirror_perm _ _ _ _).trans N.perm⟩
end
section
variable {prog:Program}{w:World}{A:Around}{E:Value->Shared->Prop}{s:Shared}{n:Nat}{item:Nat->Keyed}{kd:SortKind}{r:Nat->Nat->Bool}{ls:Array Nat}{t:SortSt}
def zt3(R:Rule prog w A s n item kd r)(N:Now n item kd ls t){i j:Nat}(hi:i<n)(hj:j<n)(hij:i≠j){Q:Option Bool->SortSt->Prop}(q:Q (some (r (lab ls i) (lab ls j))) t):wpS (model prog w) A E s (ltAt' i j) Q t:=by
 have gi:(arrOf t)[i]?=some (item (lab ls i)):=by rw[N.arr,yo,qj (by rw[N.size];exact hi)];rfl
 have gj:(arrOf t)[j]?=some (item (lab ls j)):=by rw[N.arr,yo,qj (by rw[N.size];exact hj)];rfl
 rw[ltAt'_eq];refine xy (wpS_get ?_);show wpS (model prog w) A E s (elem' (arrOf t) i >>= λx=>elem' (arrOf t) j >>= λy=>lt' x y) Q t;rw[elem'_eq,elem'_eq,gi,gj];refine xy (ww (xy (ww ?_)));rw[lt'_eq];refine xy (wpS_get (xy (wpS_lift (wpAny_attempt ?_))));rw[N.kd];exact R.cmp _ _ (N.lt hi) (N.lt hj) (N.ne hi hj hij) _ _ ⟨rfl,ww q⟩
def asc(R:Rule prog w A s n item kd r)(N:Now n item kd ls t){a:Nat}(h1:1<=a)(ha:a<=n)(U:Up r ls a){Q:AscSt->SortSt->Prop}(q:∀m,a<=m->m<=n->Up r ls m->(m<n->r (lab ls m) (lab ls (m-1))=true)->Q (none,m) t):wpS (model prog w) A E s (ascLoop a n) Q t:=by
 unfold ascLoop;refine wpS_forRange (λx c t'=>t'=t/\c=(none,x)/\Up r ls x) ?_ ?_ ⟨rfl,rfl,U⟩
 ·rintro x c t' hx hn ⟨e, e', V⟩;subst e e'
  refine xy (zt3 R N hn (by show x-1<n;lia) (by show x≠x-1;lia) ?_)
  cases z:r (lab ls x) (lab ls (x-1))
  ·refine ww ⟨rfl, rfl, λi j hij hj => ?_⟩
   by_cases hjx:j<x
   ·exact V i j hij hjx
   ·obtain rfl : j = x := by lia
    have up:r (lab ls (j-1)) (lab ls j)=true:=by rw[R.tot _ _ (N.lt w5) (N.lt hn) (N.ne w5 hn w5),z];rfl
    by_cases hi:i=j-1
    ·rw[hi];exact up
    ·exact R.tr _ _ _ (N.lt w5) (N.lt w5) (N.lt hn) (V i (j-1) w5 w5) up
  ·exact ww (q x hx w5 V λ_=>z)
 ·rintro c t' ⟨e, e', V⟩;subst e e'
  have:max a n=n:=w5
  rw[this] at V ⊢;exact q n ha (zo n) V λh=>absurd h (xm n)
def turned(R:Rule prog w A s n item kd r)(N:Now n item kd ls t){a:Nat}(h1:1<=a)(ha:a<=n)(V:xo1 r ls a){Q:Option Nat->SortSt->Prop}(q:∀m ls' t',1<=m->m<=n->Now n item kd ls' t'->Up r ls' m->Q (some m) t'):wpS (model prog w) A E s (tail3 a n) Q t:=by
 unfold tail3;refine xy (wpS_reverse ?_);have N':=N.mir (i:=0) ha;have hsz:=N.size
 refine xy (asc R N' h1 ha (λi j hij hj=>?_) λm h2 h3 U _=>ww (q m _ _ w5 h3 N' U))
 rw[zm5 w5 w5,zm5 w5 w5,if_pos w5,if_pos w5]
 exact V _ _ w5 w5
def zS4(R:Rule prog w A s n item kd r)(N:Now n item kd ls t){a:Nat}(h1:1<=a)(ha:a<=n)(V:xo1 r ls a){Q:DescSt->SortSt->Prop}(q:∀m,a<=m->m<=n->xo1 r ls m->Q (none,m,0) t):wpS (model prog w) A E s (descLoop a n) Q t:=by
 unfold descLoop;refine wpS_forRange (λx c t'=>t'=t/\c=(none,x,0)/\xo1 r ls x) ?_ ?_ ⟨rfl,rfl,V⟩
 ·rintro x c t' hx hn ⟨e, e', W⟩;subst e e'
  refine xy (zt3 R N hn (by show x-1<n;lia) (by show x≠x-1;lia) ?_)
  cases z:r (lab ls x) (lab ls (x-1))
  ·have up : r (lab ls (x - 1)) (lab ls x) = true := by rw [R.tot _ _ (N.lt w5) (N.lt hn) (N.ne w5 hn w5), z]; rfl
   refine xy (zt3 R N (by show x-1<n;lia) hn (by show x-1≠x;lia) ?_)
   rw[up]
   exact ww (q x hx w5 W)
  ·refine ww ⟨rfl, rfl, λi j hij hj => ?_⟩
   by_cases hjx:j<x
   ·exact W i j hij hjx
   ·obtain rfl : j = x := by lia
    by_cases hi:i=j-1
    ·rw[hi];exact z
    ·exact R.tr _ _ _ (N.lt hn) (N.lt w5) (N.lt w5) z (W i (j-1) w5 w5)
 ·rintro c t' ⟨e, e', W⟩;subst e e'
  have:max a n=n:=w5
  rw[this] at W ⊢;exact q n ha (zo n) W
def run(R:Rule prog w A s n item kd r)(N:Now n item kd ls t)(h1:1<=n){Q:Option Nat->SortSt->Prop}(q:∀m ls' t',1<=m->m<=n->Now n item kd ls' t'->Up r ls' m->Q (some m) t'):wpS (model prog w) A E s (countRun' 0 n) Q t:=by
 rw[countRun0_eq]
 refine xy (asc R N (zo 1) h1 (λi j hij hj=>by lia) λm h2 h3 U hm=>?_)
 show wpS (model prog w) A E s (if (m == n)=true then _ else if m > 1 then _ else _) Q t
 by_cases e:m=n
 ·rw [if_pos (by simpa using e)]
  exact ww (q m _ _ h2 h3 N U)
 ·rw [if_neg (by simpa using e)]
  by_cases g:m > 1
  ·rw [if_pos g]
   refine xy (zt3 R N w5 w5 w5 ?_)
   rw[U 0 (m-1) w5 w5]
   exact ww (q m _ _ h2 h3 N U)
  ·rw [if_neg g]
   obtain rfl:m=1:=w5
   unfold descPart;refine xy (wpS_lift (yT ⟨rfl,?_⟩))
   refine xy (zS4 R N w5 w5 (λi j hij hj=>?_) λk h4 h5 W=>?_)
   ·obtain ⟨rfl, rfl⟩ : i = 0 /\ j = 1 := by lia
    exact hm w5
   ·show wpS (model prog w) A E s (if 0 > 0 then _ else tail3 k n) Q t
    rw[if_neg (xm 0)]
    exact turned R N w5 h5 W q
def xy0(R:Rule prog w A s n item kd r)(N:Now n item kd ls t){m:Nat}(hm:m<=n)(U:Up r ls m){Q:Bool->SortSt->Prop}(q:∀ls' t',Now n item kd ls' t'->Up r ls' n->Q true t'):wpS (model prog w) A E s (binarySort' 0 n m) Q t:=by
 rw[binarySort'_eq];simp only[Nat.zero_add]
 refine xy (wpS_mono (wpS_forRange (λk c t'=>c=(none,())/\∃ls',Now n item kd ls' t'/\Up r ls' (min k n)) (Q:=λc t'=>c=(none,())/\∃ls',Now n item kd ls' t'/\Up r ls' n) ?_ ?_ ⟨rfl,ls,N,λi j hij hj=>U i j hij w5⟩) ?_)
 ·rintro k c t' hk hn ⟨rfl, ls', N', U'⟩
  have ek:min k n=k:=w5
  rw[ek] at U';have hsz:=N'.size
  refine xy (wpS_mono (wpS_forRange (λx c t2=>t2=t'/\∃l h,c=(none,l,h)/\l<=h/\h<=k/\h-l<=k-x/\(∀i,i<l->r (lab ls' i) (lab ls' k)=true)/\∀i,h<=i->i<k->r (lab ls' k) (lab ls' i)=true)
   (Q:=λc t2=>t2=t'/\∃l h,c=(none,l,h)/\l<=k/\(∀i,i<l->r (lab ls' i) (lab ls' k)=true)/\∀i,l<=i->i<k->r (lab ls' k) (lab ls' i)=true) ?_ ?_ ⟨rfl,0,k,rfl,w5,w5,w5,λi hi=>by lia,λi h1 h2=>by lia⟩) ?_)
  ·rintro x c t2 _ hx ⟨rfl, l, h, rfl, g1, g2, g3, g4, g5⟩;dsimp only
   by_cases hd:l>=h
   ·rw [if_pos hd]
    exact ww ⟨rfl,l,h,rfl,w5,g4,λi i1 i2=>g5 i w5 i2⟩
   ·rw [if_neg hd]
    refine xy (zt3 R N' hn w5 w5 ?_)
    cases z:r (lab ls' k) (lab ls' ((l+h)/2))
    ·have up : r (lab ls' ((l + h) / 2)) (lab ls' k) = true := by rw [R.tot _ _ (N'.lt w5) (N'.lt hn) (N'.ne w5 hn w5), z]; rfl
     refine ww ⟨rfl,(l+h)/2+1,h,rfl,w5,w5,w5,λi hi=>?_,g5⟩
     by_cases e:i=(l+h)/2
     ·rw[e];exact up
     ·exact R.tr _ _ _ (N'.lt w5) (N'.lt w5) (N'.lt hn) (U' i _ w5 w5) up
    ·refine ww ⟨rfl, l, (l + h) / 2, rfl, by lia, by lia, by lia, g4, λi i1 i2 => ?_⟩
     by_cases e:i=(l+h)/2
     ·rw[e];exact z
     ·exact R.tr _ _ _ (N'.lt hn) (N'.lt w5) (N'.lt w5) z (U' _ i w5 w5)
  ·rintro c t2 ⟨rfl, l, h, rfl, g1, g2, g3, g4, g5⟩
   exact⟨rfl,l,h,rfl,w5,g4,λi i1 i2=>g5 i w5 i2⟩
  ·rintro c t2 ⟨rfl, l, h, rfl, g1, g2, g3⟩;show wpS (model prog w) A E s (moveDown' k l >>= λ_=>pure (ForInStep.yield (none,()))) _ t2;rw[moveDown'_eq]
   refine xy (wpS_modify (ww ⟨rfl,_,N'.bub hn (d:=k-l) w5,?_⟩))
   have e2:min (k+1) n=k+1:=w5
   rw[e2];intro i j hij hj
   have el:k-(k-l)=l:=w5
   rw[zs7 w5 w5 w5,zs7 w5 w5 w5,el]
   by_cases c1:i=l
   ·rw [if_pos c1, if_neg w5, if_pos w5]
    exact g3 _ w5 w5
   ·rw [if_neg c1]
    by_cases c2:j=l
    ·rw [if_pos c2, if_neg w5]
     exact g2 _ w5
    ·rw [if_neg c2]
     split
     ·split
      ·exact U' _ _ w5 w5
      ·exfalso;lia
     ·split
      ·exact U' _ _ w5 w5
      ·exact U' _ _ w5 w5
 ·rintro c t' ⟨rfl, ls', N', U'⟩
  have:min (max (max m 1) n) n=n:=w5
  rw[this] at U';exact⟨rfl,ls',N',U'⟩
 ·rintro c t' ⟨rfl,ls',N',U'⟩;exact ww (q ls' t' N' U')
def all(R:Rule prog w A s n item kd r)(N:Now n item kd ls t)(h2:2<=n)(h64:n<64){Q:Unit->SortSt->Prop}(q:∀ls' t',arrOf t'=ls'.map item->failedOf t'=none->ls'.Perm (Array.range n)->Up r ls' n->Q () t'):wpS (model prog w) A E s sortRuns' Q t:=by
 rw[sortRuns'_eq];refine xy (wpS_get ?_)
 have esz:(arrOf t).size=n:=by rw[N.arr,Array.size_map,N.size]
 have emin:minRun' n n 0=n:=by
  cases n with
  |zero=>lia
  |succ f=>rw[minRun'_succ,if_pos h64]
 dsimp only;simp only[esz,emin]
 let Fin:SortSt->Prop:=λt'=>∃ls',arrOf t'=ls'.map item/\failedOf t'=none/\pendingOf t'=#[(0,n,0)]/\ls'.Perm (Array.range n)/\Up r ls' n
 have close:∀{ls':Array Nat}{t':SortSt},Now n item kd ls' t'->Up r ls' n->Fin (setPending t' ((pendingOf t').push (0,n,0))):=λ{ls' t'} N' U'=>⟨ls',N'.arr,N'.ok,by show(pendingOf t').push _=_;rw[N'.pend];rfl,N'.perm,U'⟩
 refine xy (wpS_mono (wpS_forRange (λx c t'=>(x=0/\c=(none,0)/\t'=t)\/(0<x/\c=(none,n)/\Fin t')) (Q:=λc t'=>c=(none,n)/\Fin t') ?_ ?_ (.inl ⟨rfl,rfl,rfl⟩)) ?_)
 ·rintro x c t' _ hx (⟨rfl, rfl, rfl⟩ | ⟨h0, rfl, F⟩)
  ·dsimp only
   rw[if_neg w5]
   simp only[Nat.sub_zero,Nat.min_self,Nat.zero_add]
   refine xy (run R N w5 λm ls2 t2 h1 hm N2 U2=>?_)
   dsimp only
   have rest:∀{ls3:Array Nat}{t3:SortSt},Now n item kd ls3 t3->Up r ls3 n->(pendingOf t3).back?=none:=λN3 _=>by rw[N3.pend];rfl
   by_cases c:m<n
   ·rw [if_pos c];refine xy (wpS_lift (yT ⟨rfl,?_⟩));refine xy (xy0 R N2 hm U2 λls3 t3 N3 U3=>?_);simp only[Bool.not_true,zU,if_false];refine xy (wpS_get ?_);rw[rest N3 U3]
    exact xy (wpS_modify (ww (.inr ⟨w5,rfl,close N3 U3⟩)))
   ·rw [if_neg c]
    obtain rfl:m=n:=w5
    refine xy (wpS_get ?_);rw[rest N2 U2]
    exact xy (wpS_modify (ww (.inr ⟨w5,rfl,close N2 U2⟩)))
  ·dsimp only;rw[if_pos (zo _)];exact ww ⟨rfl,F⟩
 ·rintro c t' (⟨h, _⟩ | ⟨_, h1, F⟩)
  ·lia
  ·exact⟨h1,F⟩
 ·rintro c t' ⟨rfl, ls', e1, e2, e3, e4, e5⟩;refine xy (wpS_mono (wpS_forRange (λ_ c t2=>t2=t'/\c=(none,())) (Q:=λc t2=>t2=t'/\c=(none,())) ?_ (λ_ _ h=>h) ⟨rfl,rfl⟩) ?_)
  ·rintro x c t2 _ _ ⟨rfl, rfl⟩;refine xy (wpS_get ?_)
   rw[if_pos (by rw[e3];exact zo 1)]
   exact ww ⟨rfl,rfl⟩
  ·rintro c t2 ⟨rfl,rfl⟩;exact ww (q ls' _ e1 e2 e4 e5)
end
abbrev Xn(vs:List Value):Nat->Keyed:=λi=>(vs.getD i .none,vs.getD i .none)
def Xf(vs:List Value):vs.toArray.zip vs.toArray=(Array.range vs.length).map (Xn vs):=by
 refine Array.ext_getElem? λk=>?_;rw[yo]
 by_cases h:k<vs.length
 ·have e1 : (Array.range vs.length)[k]? = some k := by rw [Array.getElem?_range, if_pos h]
  rw[e1]
  have e2:(vs.toArray.zip vs.toArray)[k]?=some (vs[k],vs[k]):=by
   rw[xS (by simpa using h)]
   simp
  rw[e2];simp[Xn,zL,h]
 ·rw [wI (by simp; lia), wI (by simp; lia)]
  rfl
section
variable {prog:Program}{w:World}{A:Around}{E:Value->Shared->Prop}{s:Shared}{r:Nat->Nat->Bool}{kd:SortKind}
abbrev XQ(h:Heap)(a:Addr)(vs:List Value):Heap:=((h.update a (Obj.mapSeq λ_=>#[])).push (seqObj "tuple" vs.toArray 0)).push (seqObj "list" #[] 0)
def zR9{a:Addr}{vs:List Value}{k:Nat}(at0:s.heap.get? a=some (seqObj "list" vs.toArray k))(h64:vs.length<64)
  (hk:2<=vs.length->∀(E:Value->Shared->Prop) (Q:SortKind->Shared->Prop),Q kd { s with heap:=XQ s.heap a vs }->wpAny (model prog w) A (keyKind' vs.toArray) Q E { s with heap:=XQ s.heap a vs })
  (hR:2<=vs.length->Rule prog w A { s with heap:=XQ s.heap a vs } vs.length (Xn vs) kd r) {Q:Fin->Shared->Prop}
  (q:∀ls:Array Nat,ls.Perm (Array.range vs.length)->Up r ls vs.length->Q (.done (.ret .none)) { s with heap:=sortedHeap s.heap a vs (ls.map λi=>vs.getD i .none) }) :
  wpAny (model prog w) A (Builtin.«list.sort» ⟨[.ref a],[]⟩) Q E s:=by
 have la:=zp at0;obtain⟨e1,at1⟩:∃e1,(s.heap.update a (Obj.mapSeq λ_=>#[])).get? a=some (seqObj "list" #[] e1):=⟨_,get?_update_seq at0 _⟩
 have at2:(XQ s.heap a vs).get? a=some (seqObj "list" #[] e1):=by
  have n1:a≠((s.heap.update a (Obj.mapSeq λ_=>#[])).push (seqObj "tuple" vs.toArray 0)).objs.size:=by rw[size_push',Heap.size_update];exact zA (xR la)
  have n2:a≠(s.heap.update a (Obj.mapSeq λ_=>#[])).objs.size:=by rw[Heap.size_update];exact zA la
  exact(Heap.get?_push_ne _ _ _ n1).trans ((Heap.get?_push_ne _ _ _ n2).trans at1)
 rw[list_sort_plain];refine zb (listItems_at at0 rfl ?_);refine zb (listUpdate_at at0 rfl (zb (seqEpoch_at at1 rfl ?_)));refine zb (wpAny_newTuple (zb (wpAny_newList (xF ?_))));show wpAny (model prog w) A _ Q E { s with heap:=XQ s.heap a vs };dsimp only
 have fin:∀(t:SortSt) (ls:Array Nat),arrOf t=ls.map (Xn vs)->failedOf t=none->ls.Perm (Array.range vs.length)->Up r ls vs.length ->
   wpAny (model prog w) A (do
    let touched:=(<- seqEpoch a) != e1
    Builtin.List.listUpdate (.ref a) λ_=>(arrOf t).map (·.2)
    if let some e:=failedOf t then rule "list.sort.comparison-raised";throw e
    if touched then rule "list.sort.modified";raiseError "ValueError" "list modified during sort"
    ret .none) Q E { s with heap:=XQ s.heap a vs }:=λt ls h1 h2 h3 h4=>by
  have ea:(arrOf t).map (·.2)=ls.map λi=>vs.getD i .none:=by rw[h1,Array.map_map];rfl
  have es:((arrOf t).map (·.2)).size<=64:=by rw[ea,Array.size_map,h3.size_eq,yO];lia
  refine zb (seqEpoch_at at2 rfl ?_)
  refine zb (listUpdate_at at2 rfl ?_ (hsz2:=by rw[sizeLine_eq];exact zB es w6))
  rw[h2,ea];simp only[bne_self_eq_false,zU,if_false];exact zf (q ls h3 h4)
 by_cases c:vs.toArray.size<2
 ·rw [if_pos c, if_pos c];refine zb (zf ?_);rw[StateT.run_pure];refine zb (zf (fin _ (Array.range vs.length) (Xf vs) rfl (Array.Perm.refl _) λi j hij hj=>?_))
  have:vs.length<2:=by simpa using c
  lia
 ·rw [if_neg c, if_neg c]
  have h2:2<=vs.length:=by simpa using c
  refine zb (hk h2 _ _ ?_);have N0:Now vs.length (Xn vs) kd (Array.range vs.length) (SortSt.mk' kd (vs.toArray.zip vs.toArray) #[] 7 none):=⟨Xf vs,rfl,rfl,rfl,Array.Perm.refl _⟩;refine zb (wE (all (hR h2) N0 h2 h64 (Q:=λ_ t=>∃ls:Array Nat,arrOf t=ls.map (Xn vs)/\failedOf t=none/\ls.Perm (Array.range vs.length)/\Up r ls vs.length) λls t a1 a2 a3 a4=>⟨ls,a1,a2,a3,a4⟩) ?_ λ_ _ e=>e);rintro⟨_,t⟩ s' ⟨rfl,ls,a1,a2,a3,a4⟩;exact fin t ls a1 a2 a3 a4
def zg8{l:Addr}{vs:List Value}(hl:s.heap.IsList l vs.toArray)(h64:vs.length<64)
    (hk:2<=vs.length->∀(h':Heap),(∀b o,s.heap.get? b=some o->h'.get? b=some o)->∀(B:Around),B.units<=A.units+3->∀(E:Value->Shared->Prop) (Q:SortKind->Shared->Prop),Q kd { s with heap:=h' }->wpAny (model prog w) B (keyKind' vs.toArray) Q E { s with heap:=h' })
    (hR:2<=vs.length->∀(h':Heap),(∀b o,s.heap.get? b=some o->h'.get? b=some o)->∀(B:Around),B.units<=A.units+3->Rule prog w B { s with heap:=h' } vs.length (Xn vs) kd r) {Q:Value->Shared->Prop}
    (q:∀ls:Array Nat,ls.Perm (Array.range vs.length)->Up r ls vs.length->Q (.ref (s.heap.objs.size+1)) { s with heap:=sortedAll s.heap vs (ls.map λi=>vs.getD i .none) }) :
    wpAny (model prog w) A (call (.builtin "sorted") [.ref l]) Q E s:=by
  refine Calls.call_function_entry kind_sorted plain_sorted entry_sorted (args_sorted1 _) ?_;unfold Builtin.«sorted»;refine zb (m:=checkCount "sorted" 1 1 _) (zf (zb (collect_list hl (zb (wpAny_newList ?_)))))
  have z1:((s.heap.push (seqObj "list" #[] 0)).update s.heap.objs.size (Obj.mapSeq (·++vs.toArray))).objs.size=s.heap.objs.size+1:=by rw[Heap.size_update,size_push']
  let h1:Heap:=((s.heap.push (seqObj "list" #[] 0)).update s.heap.objs.size (Obj.mapSeq (·++vs.toArray))).push (seqObj "list" vs.toArray 0)
  have at1:h1.get? (s.heap.objs.size+1)=some (seqObj "list" vs.toArray 0):=by rw[<- z1];exact zq _ rfl
  have old1:∀b o,s.heap.get? b=some o->h1.get? b=some o:=λb o e=>by
    have lb:=zp e;refine ze _ ?_;rw[Heap.get?_update_ne _ _ _ _ (zA lb)];exact ze _ e
  have old2:∀b o,s.heap.get? b=some o->(XQ h1 (s.heap.objs.size+1) vs).get? b=some o:=λb o e=>by
    have lb:=zp e;refine ze _ (ze _ ?_);rw[Heap.get?_update_ne _ _ _ _ (zA (xR lb))];exact old1 b o e
  have eH:∀out:Array Value,sortedHeap h1 (s.heap.objs.size+1) vs out=sortedAll s.heap vs out:=λ_=>rfl
  have body:∀B:Around,B.units<=A.units+3->∀(E:Value->Shared->Prop) (P:Fin->Shared->Prop),(∀ls:Array Nat,ls.Perm (Array.range vs.length)->Up r ls vs.length->P (.done (.ret .none)) { s with heap:=sortedAll s.heap vs (ls.map λi=>vs.getD i .none) }) ->
      wpAny (model prog w) B (Builtin.«list.sort» ⟨[.ref (s.heap.objs.size+1)],[]⟩) P E { s with heap:=h1 }:=λB hB E P p=>
    zR9 (s:={ s with heap:=h1 }) at1 h64 (λh2 E Q q=>hk h2 _ old2 B hB E Q q) (λh2=>hR h2 _ old2 B hB) λls a1 a2=>by
      show P _ { s with heap:=sortedHeap h1 (s.heap.objs.size+1) vs _ };rw[eH];exact p ls a1 a2
  show wpAny _ _ _ _ _ { s with heap:=h1 };rw[z1]
  clear_value h1
  refine zb (xF (wS slot_list_sort ⟨_,at1,rfl⟩ entry_list_sort (body _ ?_ _ _ λls a1 a2=>⟨_,rfl,zf ⟨_,rfl,q ls a1 a2⟩⟩) (args_list_sort _)));show A.units+1+1<=A.units+3;lia
end
end L2.Srt
namespace L2.Srt
open PySem PyProof.Rows PySem.SeqAt
section
variable {prog:Program}{w:World}{M:Model}{A:Around}{E:Value->Shared->Prop}{s:Shared}
theorem ze7{α β:Type}{f:α->Sem β}{g:α->β}:∀{l:List α}{Q:List β->Shared->Prop},(∀a∈l,∀Q:β->Shared->Prop,Q (g a) s->wpAny M A (f a) Q E s)->Q (l.map g) s->wpAny M A (l.mapM f) Q E s
 |[],Q,_,q=>by rw[List.mapM_nil];exact zf q
 |a::l,Q,h,q=>by
  rw[List.mapM_cons];refine zb (h a (xh ..) _ (zb (ze7 (λb hb=>h b (zm _ hb)) (zf q))))
def ze8{α β:Type}{f:α->Sem β}{g:α->β}{l:List α}{Q:Array β->Shared->Prop}(h:∀a∈l,∀Q:β->Shared->Prop,Q (g a) s->wpAny M A (f a) Q E s)(q:Q (l.map g).toArray s):wpAny M A (l.toArray.mapM f) Q E s:=by
 rw[List.mapM_toArray];show wpAny M A (List.toArray <$> l.mapM f) Q E s;rw[map_eq_pure_bind];exact zb (ze7 h (zf q))
def YD(v:Value):firstOfTuple' v=(do
  if (<- typeOf v) != .type "tuple" then return none
  return (<- Builtin.List.listItems v)[0]?):=rfl
def Tup(h:Heap)(v:Value)(p:Value)(rest:List Value):Prop:=∃a,v=.ref a/\IsTup h a (p::rest).toArray
def Tup.type{v p:Value}{rest:List Value}(t:Tup s.heap v p rest):s.TypeIs v "tuple" := by
 obtain⟨a,rfl,o,ho,hc,_⟩:=t;exact⟨o,ho,hc⟩
def Tup.items{v p:Value}{rest:List Value}(t:Tup s.heap v p rest){Q:Array Value->Shared->Prop}(q:Q (p::rest).toArray s):wpAny M A (Builtin.List.listItems v) Q E s:=by
 obtain⟨a,rfl,o,ho,hc,n,hd⟩:=t;exact listItems_at ho hd q
def XE{vs:List Value}{fst:Value->Value}{T:String}(h2:2<=vs.length)(ht:∀v∈vs,∃rest,Tup s.heap v (fst v) rest)(hT:∀v∈vs,s.TypeIs (fst v) T){Q:SortKind->Shared->Prop}(q:Q (tuples' (Value.type T != Value.type "tuple")) s):wpAny M A (keyKind' vs.toArray) Q E s:=by
  rw[keyKind'_eq];refine zb (ze8 (g:=λv=>some (fst v)) (λv hv Q q=>?_) ?_)
  · obtain ⟨rest, t⟩ := ht v hv
    rw[YD];refine zb (wpAny_typeOf t.type ?_)
    have e:(Value.type "tuple" != Value.type "tuple")=false:=by rfl
    rw[e];exact zb (t.items (zf q))
  · have e : (vs.map λv => some (fst v)).toArray.all (·.isSome) = true := by simp
    rw[if_pos e];refine zb (yT ?_)
    have e2:((vs.map λv=>some (fst v)).toArray.filterMap id)=(vs.map fst).toArray:=by
      simp[yW]
    rw[e2,oneTypeOnly'_eq];refine zb (zb (ze8 (g:=λ_=>Value.type T) (λv hv Q q=>?_) ?_))
    · obtain ⟨u, hu, rfl⟩ := zk.mp hv
      exact wpAny_typeOf (hT u hu) q
    · have e3 : ((vs.map fst).map λ_ => Value.type T).toArray[0]? = some (Value.type T) := by
        cases vs with
        |nil=>simp at h2
        |cons v vs=>simp
      have e4:(((vs.map fst).map λ_=>Value.type T).toArray.all (· == Value.type T))=true:=by
        simp only[List.all_toArray,List.all_map,wT];intro _ _;show(Value.type T == Value.type T)=true;simp
      rw[e3];dsimp only;rw[e4];exact zf (zf q)
def VT(f:Bool)(x y:Value):keyLt' (tuples' f) x y=(do
  let xs <- Builtin.List.listItems x
  let ys <- Builtin.List.listItems y
  for ((p,q),i) in (xs.toList.zip ys.toList).zipIdx do
   if !(<- eqBool p q) then return <- oneLt' (f&&i == 0) p q
  return xs.size<ys.size):=rfl
inductive Lex(A:Around)(s:Shared)(f:Bool)(b:Bool):Nat->List Value->List Value->Prop
 |alike {i:Nat}{p q:Value}{ps qs:List Value}:EqAt A s p q true->Lex A s f b (i+1) ps qs->Lex A s f b i (p::ps) (q::qs)
 |here {i:Nat}{p q:Value}{ps qs:List Value}:EqAt A s p q false->(∀(prog:Program) (w:World) (E:Value->Shared->Prop) (Q:Bool->Shared->Prop),Q b s->wpAny (model prog w) A (oneLt' (f&&i == 0) p q) Q E s)->Lex A s f b i (p::ps) (q::qs)
def Kb{f b:Bool}{x y p q:Value}{ps qs:List Value}(tx:Tup s.heap x p ps)(ty:Tup s.heap y q qs)(L:Lex A s f b 0 (p::ps) (q::qs)){Q:Bool->Shared->Prop}(h:Q b s):wpAny (model prog w) A (keyLt' (tuples' f) x y) Q E s:=by
 rw[VT];refine zb (tx.items (zb (ty.items ?_)))
 refine zb (wpAny_forIn_list _ (λrest c s'=>s'=s/\c.1=none/\∃i xs ys,rest=(xs.zip ys).zipIdx i/\Lex A s f b i xs ys) (λc s'=>s'=s/\c.1=some b) ?turn ?fin _ _ ⟨rfl,rfl,0,p::ps,q::qs,by simp,L⟩ |> λz=>wE z ?post λ_ _ e=>e)
 case turn=>
  rintro⟨⟨u,v⟩,k⟩ rest c s' ⟨rfl,hc,i,xs,ys,e,L⟩
  cases L with
  |alike he L=>
   rw[wf,zipIdx_cons] at e;injection e with e1 e2;injection e1 with e1 e3;injection e1 with e4 e5;subst e3 e4 e5;refine zb (he prog w _ _ ?_);simp only[Bool.not_true,zU,if_false];exact zf ⟨rfl,rfl,_,_,_,e2,L⟩
  |here he ho=>
   rw[wf,zipIdx_cons] at e;injection e with e1 e2;injection e1 with e1 e3;injection e1 with e4 e5;subst e3 e4 e5;refine zb (he prog w _ _ ?_);simp only[Bool.not_false,if_true];exact zb (ho prog w _ _ (zf ⟨rfl,rfl⟩))
 case fin=>
  rintro c s' ⟨_,_,i,xs,ys,e,L⟩
  cases L<;>(rw[wf,zipIdx_cons] at e;cases e)
 case post=>
  rintro c s' ⟨rfl,hc⟩;obtain⟨c1,c2⟩:=c;simp only at hc;subst hc;exact zf h
def Xr{i j:Int}{t u:Tok}{Q:Bool->Shared->Prop}(h:Q (decide (i<j)) s):wpAny (model prog w) A (oneLt' false (.int i t) (.int j u)) Q E s:=by
 rw[oneLt'_eq];simp only[zU,if_false];exact zb (show wpAny (model prog w) A (compareOp .Lt (.int i t) (.int j u)) _ _ _ from PyProof.Rows.lt_int (xY h))
def Xq{a b:Addr}{xs ys:Array Value}{ns ms:List Int}(ha:IsTup s.heap a xs)(hb:IsTup s.heap b ys)(hi:IntsAre xs.toList ns)(hj:IntsAre ys.toList ms)(hu:A.units<cLine){Q:Bool->Shared->Prop}(h:Q (HT.kD ns ms) s):wpAny (model prog w) A (oneLt' false (.ref a) (.ref b)) Q E s:=by
 rw[oneLt'_eq];simp only[zU,if_false];exact zb (show wpAny (model prog w) A (compareOp .Lt (.ref a) (.ref b)) _ _ _ from HT.WM ha hb hi hj hu (xY h))
def Zy(f:Bool){i j:Int}{t u:Tok}{Q:Bool->Shared->Prop}(h:Q (decide (i<j)) s):wpAny (model prog w) A (oneLt' f (.int i t) (.int j u)) Q E s:=by
 cases f with
 |true=>exact oneLt_int h
 |false=>exact Xr h
end
end L2.Srt
namespace L2
open PySem PySem.Spec PyProof.Rows PySem.SeqAt
def xI7(X:Cx)(H:Hp)(f:Bool)(y:V):Prop:=∀pins s σ v,Inv X pins σ H s->RelV y v->∃p rest,Srt.Tup s.heap v p rest/\s.TypeIs p (if f then "int" else "tuple")
def xJ0(X:Cx)(H:Hp)(f:Bool)(y z:V)(b:Bool):Prop:=∀pins s σ u v,Inv X pins σ H s->RelV y u->RelV z v->∀A:Around,A.units+60<cLine->∃p ps q qs,Srt.Tup s.heap u p ps/\Srt.Tup s.heap v q qs/\Srt.Lex A s f b 0 (p::ps) (q::qs)
def zF9(X:Cx):List V->Hp->VK->Prop:=λxs H Q=>∃(p:Addr) (ys:List V) (f:Bool) (r:Nat->Nat->Bool),xs=[.ref p]/\SqL X.K H p ys/\ys.length<64 /\
 (∀a b,a<ys.length->b<ys.length->a≠b->r a b=!r b a)/\(∀a b c,a<ys.length->b<ys.length->c<ys.length->r a b=true->r b c=true->r a c=true) /\
 (∀a,a<ys.length->xI7 X H f (ys.getD a .non))/\(∀a b,a<ys.length->b<ys.length->a≠b->xJ0 X H f (ys.getD a .non) (ys.getD b .non) (r a b)) /\
 ∀ls:Array Nat,ls.Perm (Array.range ys.length)->Srt.Up r ls ys.length->∀l,H l=none->Q (.ref l) (upd H l (.lst (ls.toList.map λi=>ys.getD i .non)))
def Vals.getD{xs:List V}{us:List Value}(h:Vals xs us){i:Nat}(hi:i<xs.length):RelV (xs.getD i .non) (us.getD i .none):=by
 obtain⟨u,e,r⟩:=h.get (zd hi);rw[zL,zL,e,zd hi];exact r
theorem YU{xs:List V}{us:List Value}(h:Vals xs us):∀{ls:List Nat},(∀i∈ls,i<xs.length)->Vals (ls.map λi=>xs.getD i .non) (ls.map λi=>us.getD i .none)
 |[],_=>.nil
 |i::ls,hl=>.cons (h.getD (hl i (xh ..))) (YU h λj hj=>hl j (zm _ hj))
section
variable {X:Cx}
def WX{n:Nat}(hr:Room n X.A):qo X (.builtin "sorted") (zF9 X):=by
 classical
 intro pins s σ H xs us Q I r h;obtain⟨p,ys,f,rr,rfl,hq,hn,tot,tr,row,cmp,q⟩:=h;obtain⟨u,rfl,hu⟩:=Wc r;have hu':u=.ref p:=hu;subst hu';obtain⟨its,rv,pl,_⟩:=I.list hq;have len:=rv.length;have un:=hr.un
 have ixd:∀v∈its,∃i,i<ys.length/\v=its.getD i .none:=λv hv=>by
  obtain⟨i,hi,e⟩:=List.getElem_of_mem hv
  exact⟨i,w5,by rw[zL,zd hi,e];rfl⟩
 refine Srt.zg8 (r:=rr) (kd:=tuples' f) pl.isList w5 (λh2 h' keep B hB E Q q=>?_) (λh2 h' keep B hB=>?_) (λls hp hU=>?_)
 ·have I' : Inv X pins σ H { s with heap := h' } := I.kept (t' := s.toks) keep
  have each:∀v∈its,∃p rest,Srt.Tup h' v p rest/\Shared.TypeIs { s with heap:=h' } p (if f then "int" else "tuple"):=λv hv=>by
   obtain⟨i,hi,rfl⟩:=ixd v hv;exact row i hi pins _ σ _ I' (rv.getD hi)
  refine Srt.XE (s:={ s with heap:=h' }) (T:=if f then "int" else "tuple") (fst:=λv=>if h:∃p rest,Srt.Tup h' v p rest/\Shared.TypeIs { s with heap:=h' } p (if f then "int" else "tuple") then h.choose else v) w5 (λv hv=>?_) (λv hv=>?_) ?_
  ·have e := each v hv;obtain⟨rest,t,_⟩:=e.choose_spec
   exact⟨rest,by rw[dif_pos e];exact t⟩
  ·have e := each v hv;obtain⟨rest,_,t⟩:=e.choose_spec
   show Shared.TypeIs _ (if h:_ then _ else _) _
   rw[dif_pos e];exact t
  ·cases f
   ·exact q
   ·exact q
 ·have I' : Inv X pins σ H { s with heap := h' } := I.kept (t' := s.toks) keep
  refine⟨λa b ha hb=>tot a b w5 w5,λa b c ha hb hc=>tr a b c w5 w5 w5,λa b ha hb hab E Q q=>?_⟩
  obtain⟨p1,ps,p2,qs,t1,t2,L⟩:=cmp a b w5 w5 hab pins _ σ _ _ I' (rv.getD w5) (rv.getD w5) B w5
  exact Srt.Kb t1 t2 L q
 ·obtain ⟨e, he⟩ := sortedAll_at s.heap its (ls.map λi => its.getD i .none);have hf:H (s.heap.objs.size+1)=none:=I.hok.fresh (xq _)
  have hls:∀i∈ls.toList,i<ys.length:=λi hi=>by
   have:=(hp.mem_iff).mp (Array.mem_toList_iff.mp hi);rw[Array.mem_range] at this;lia
  rw[<- len] at hp hU;refine⟨.ref (s.heap.objs.size+1),_,I.laid (t':=s.toks) (o:=.lst (ls.toList.map λi=>ys.getD i .non)) (λb u e=>sortedAll_old e) (xq _) ?_,rfl,q ls hp hU _ hf⟩;refine⟨?_,(ls.toList.map λi=>its.getD i .none),e,YU rv hls,?_⟩
  ·rw [zg, xX, hp.size_eq, yO]
   exact zB (yB hn) w6
  ·have ea : (ls.toList.map λi => its.getD i .none).toArray = ls.map λi => its.getD i .none := by rw [<- Array.toList_map, yD]
   rw[ea];exact he
end
inductive SKey where
 |n (i:Int) |t (ns:List Int)
 deriving DecidableEq
def SKey.d:SKey->D
 |.n i=>.int i
 |.t ns=>.tup (ns.map D.int)
def SKey.num:SKey->Bool
 |.n _=>true
 |.t _=>false
def SKey.lt:SKey->SKey->Bool
 |.n i,.n j=>decide (i<j)
 |.t ns,.t ms=>HT.kD ns ms
 |_,_=>false
structure SRow where
 key:SKey
 name:Int
 rest:List D
def SRow.d(x:SRow):D:=.tup (x.key.d::.int x.name::x.rest)
def SRow.lt(x y:SRow):Bool:=if x.key=y.key then decide (x.name<y.name) else x.key.lt y.key
theorem Qv:∀(xs ys:List Int),xs≠ys->HT.kD xs ys=!HT.kD ys xs
 |[],[],h=>absurd rfl h
 |[],y::ys,_=>rfl
 |x::xs,[],_=>rfl
 | x :: xs, y :: ys, h => by
  rw[HT.kL,HT.kL]
  by_cases e:x=y
  ·subst e;rw[if_pos rfl,if_pos rfl]
   exact Qv xs ys λz=>h (by rw[z])
  ·rw [if_neg e, if_neg (Ne.symm e)]
   by_cases l:x<y
   ·rw[xo l,zN w5];rfl
   ·rw[zN l,xo w5];rfl
theorem zn1:∀(xs:List Int),HT.kD xs xs=false
 |[]=>rfl
 |x::xs=>by rw[HT.kL,if_pos rfl];exact zn1 xs
theorem UX:∀(xs ys zs:List Int),HT.kD xs ys=true->HT.kD ys zs=true->HT.kD xs zs=true
 |[],[],_,h,_=>by cases h
 |[],_::_,[],_,h=>by cases h
 |[],_::_,_::_,_,_=>rfl
 |_::_,[],_,h,_=>by cases h
 |_::_,_::_,[],_,h=>by cases h
 | x :: xs, y :: ys, z :: zs, h1, h2 => by
  rw[HT.kL] at h1 h2 ⊢
  by_cases e1:x=y
  ·subst e1;rw[if_pos rfl] at h1
   by_cases e2:x=z
   ·subst e2;rw[if_pos rfl] at h2 ⊢;exact UX xs ys zs h1 h2
   ·rw[if_neg e2] at h2 ⊢;exact h2
  ·rw [if_neg e1] at h1;have l1:=of_decide_eq_true h1
   by_cases e2:y=z
   ·subst e2;rw[if_neg e1];exact h1
   ·rw [if_neg e2] at h2;have l2:=of_decide_eq_true h2
    rw[if_neg w5]
    exact xo w5
def SKey.lt_anti{x y:SKey}(hn:x.num=y.num)(h:x≠y):x.lt y=!y.lt x:=by
 cases x with
 | n i =>
  cases y with
  |n j=>
   have:i≠j:=λz=>h (by rw[z])
   simp only[SKey.lt]
   by_cases l:i<j
   ·rw[xo l,zN w5];rfl
   ·rw[zN l,xo w5];rfl
  |t ms=>cases hn
 |t ns=>
  cases y with
  |n j=>cases hn
  |t ms=>exact Qv ns ms λz=>h (by rw[z])
def SKey.lt_irr(x:SKey):x.lt x=false:=by
 cases x with
 |n i=>simp[SKey.lt]
 |t ns=>exact zn1 ns
def SKey.lt_trans{x y z:SKey}(h1:x.lt y=true)(h2:y.lt z=true):x.lt z=true:=by
 cases x<;>cases y<;>cases z<;>first
  |(cases h1;done) |(cases h2;done)
  |(simp only[SKey.lt,wJ] at h1 h2 ⊢;lia)
  |exact UX _ _ _ h1 h2
def SRow.lt_anti{x y:SRow}(hn:x.key.num=y.key.num)(h:x.name≠y.name):x.lt y=!y.lt x:=by
 unfold SRow.lt
 by_cases e:x.key=y.key
 ·rw [if_pos e, if_pos e.symm]
  by_cases l:x.name<y.name
  ·rw[xo l,zN w5];rfl
  ·rw[zN l,xo w5];rfl
 ·rw[if_neg e,if_neg (Ne.symm e)];exact SKey.lt_anti hn e
def SRow.lt_trans{x y z:SRow}(h1:x.lt y=true)(h2:y.lt z=true):x.lt z=true:=by
 unfold SRow.lt at *
 by_cases e1:x.key=y.key
 ·rw [if_pos e1] at h1
  by_cases e2:y.key=z.key
  ·rw[if_pos e2] at h2;rw[if_pos (e1.trans e2)];simp only[wJ] at *;lia
  ·rw [if_neg e2] at h2
   rw[if_neg (by rw[e1];exact e2),e1]
   exact h2
 ·rw [if_neg e1] at h1
  by_cases e2:y.key=z.key
  ·rw [if_neg (by rw [<- e2]; exact e1), <- e2]
   exact h1
  ·rw [if_neg e2] at h2;have h3:=SKey.lt_trans h1 h2
   by_cases e3:x.key=z.key
   ·rw[e3,SKey.lt_irr] at h3;cases h3
   ·rw[if_neg e3];exact h3
def Yt:SRow:=⟨.n 0,0,[]⟩
def xe8:List D->(D->Prop)->Prop:=λes k=>∃(rows:List SRow) (f:Bool),es=[.lst (rows.map SRow.d)]/\rows.length<64/\(∀x∈rows,x.key.num=f)/\(rows.map SRow.name).Nodup/\∀rows':List SRow,rows'.Perm rows->rows'.Pairwise (λx y=>x.lt y=true)->k (.lst (rows'.map SRow.d))
theorem Kh:∀(xs ys:List Int),Yi (xs.map D.int) (ys.map D.int)=decide (xs=ys)
 |[],[]=>by unfold Yi;rfl
 |[],y::ys=>by unfold Yi;simp
 |x::xs,[]=>by unfold Yi;simp
 |x::xs,y::ys=>by
  rw[zJ,zJ];unfold Yi;rw[Kh xs ys];unfold eqD
  by_cases e:x=y
  ·subst e;simp
  ·simp[e]
def zS5{x y:SKey}(h:x.num=y.num):eqD x.d y.d=decide (x=y):=by
 cases x with
 | n i =>
  cases y with
  |n j=>
   show eqD (.int i) (.int j)=_;unfold eqD
   by_cases e:i=j
   ·subst e;simp
   ·simp[e]
  |t ms=>cases h
 | t ns =>
  cases y with
  |n j=>cases h
  |t ms=>
   show eqD (.tup _) (.tup _)=_;unfold eqD;rw[Kh]
   by_cases e:ns=ms
   ·subst e;simp
   ·simp[e]
def zl6(x:SKey):okE x.d 20=true:=by
 cases x with
 |n i=>exact Zd
 |t ns=>
  refine(Zc (k:=19)).mpr λd hd=>?_;obtain⟨x,_,rfl⟩:=zk.mp hd;exact Zd
section
variable {X:Cx}{pins:List (Addr × Obj)}{σ:St}{H:Hp}{s:Shared}{G:Option Addr}{Z:Addr->Prop}
def zv1{a b:V}{xs:List V}{its:List Value}(h:Vals (a::b::xs) its):∃p q r,its=p::q::r/\RelV a p/\RelV b q:=by
 cases h with
 |cons h0 t=>
  cases t with
  |cons h1 t1=>exact⟨_,_,_,rfl,h0,h1⟩
structure RowAt(X:Cx)(G:Option Addr)(Z:Addr->Prop)(H:Hp)(s:Shared)(x:SRow)(u p:Value)(rest:List Value):Prop where
 tup:∃q,Srt.Tup s.heap u p (q::rest)/\∃t,q=.int x.name t
 key:∃z,Rep X.K G Z H x.key.d z/\RelV z p
def WD(I:Inv X pins σ H s){x:SRow}{v:V}{u:Value}(r:Rep X.K G Z H x.d v)(q:RelV v u):∃p rest,RowAt X G Z H s x u p rest:=by
 unfold SRow.d at r;obtain⟨a,xs,rfl,sq,rs⟩:=r.tup_inv;have e:u=.ref a:=q;subst e;obtain⟨its,rv,pl,_⟩:=I.tuple sq.sq;obtain⟨z0,xs1,rfl,r0,rs1⟩:=rs.split;obtain⟨z1,xs2,rfl,r1,rs2⟩:=rs1.split;have e1:=r1.int_inv;subst e1;obtain⟨p0,p1,its2,rfl,h0,t,rfl⟩:=zv1 rv;exact⟨p0,its2,⟨_,⟨a,rfl,pl⟩,t,rfl⟩,z0,r0,h0⟩
def Qa(I:Inv X pins σ H s){x:SRow}{u p:Value}{rest:List Value}(R:RowAt X G Z H s x u p rest):s.TypeIs p (if x.key.num then "int" else "tuple"):=by
 obtain⟨z,r,q⟩:=R.key
 cases h:x.key with
 |n i=>
  rw[h] at r;have e:z=.int i:=r.int_inv;subst e;obtain⟨t,rfl⟩:=q;exact typeIs_int s i t
 |t ns=>
  rw[h] at r;obtain⟨a,xs,rfl,sq,rs⟩:=Rep.tup_inv (show Rep X.K G Z H (.tup (ns.map D.int)) z from r);have e:p=.ref a:=q;subst e;obtain⟨its,rv,⟨o,ho,hc,_⟩,_⟩:=I.tuple sq.sq;exact⟨o,ho,hc⟩
def zh9(I:Inv X pins σ H s){x y:SRow}{u v p q:Value}{ps qs:List Value}(hn:x.key.num=y.key.num)(hd:x.name≠y.name)(R:RowAt X G Z H s x u p ps)(R':RowAt X G Z H s y v q qs){A:Around}(hu:A.units+60<cLine) :
  ∃p ps q qs,Srt.Tup s.heap u p ps/\Srt.Tup s.heap v q qs/\Srt.Lex A s x.key.num (x.lt y) 0 (p::ps) (q::qs):=by
 obtain⟨n1,t1,tk1,rfl⟩:=R.tup;obtain⟨n2,t2,tk2,rfl⟩:=R'.tup;obtain⟨z1,r1,q1⟩:=R.key;obtain⟨z2,r2,q2⟩:=R'.key
 have E:=(QA I 20 x.key.d y.key.d z1 z2 p q A (zl6 _) (zl6 _) r1 r2 q1 q2 w5).1
 rw[zS5 hn] at E;refine⟨p,_,q,_,t1,t2,?_⟩
 by_cases e:x.key=y.key
 ·rw [xo e] at E;refine .alike E (.here ?_ ?_)
  ·have := EqAt.int_int (A := A) (s := s) x.name tk1 y.name tk2
   have e2:(x.name == y.name)=false:=by simpa using hd
   rw[e2] at this;exact this
  ·intro prog w E Q h;unfold SRow.lt at h;rw[if_pos e] at h;exact Srt.Zy _ h
 ·rw [zN e] at E;refine .here E ?_;intro prog w E Q h;unfold SRow.lt at h;rw[if_neg e] at h
  cases hx:x.key with
  | n i =>
   cases hy:y.key with
   |n j=>
    rw[hx] at r1 h;rw[hy] at r2 h;have e1:z1=.int i:=r1.int_inv;have e2:z2=.int j:=r2.int_inv;subst e1 e2;obtain⟨a1,rfl⟩:=q1;obtain⟨a2,rfl⟩:=q2;exact Srt.Zy _ h
   |t ms=>rw[hx,hy] at hn;cases hn
  | t ns =>
   cases hy:y.key with
   |n j=>rw[hx,hy] at hn;cases hn
   |t ms=>
    rw[hx] at r1 h;rw[hy] at r2 h;obtain⟨a,xs,rfl,sq,rs⟩:=Rep.tup_inv (show Rep X.K G Z H (.tup (ns.map D.int)) z1 from r1);obtain⟨b,ys,rfl,sq',rs'⟩:=Rep.tup_inv (show Rep X.K G Z H (.tup (ms.map D.int)) z2 from r2);have e1:p=.ref a:=q1;have e2:q=.ref b:=q2;subst e1 e2;obtain⟨its,rv,pl,_⟩:=I.tuple sq.sq;obtain⟨its',rv',pl',_⟩:=I.tuple sq'.sq;rw[kn rs] at rv;rw[kn rs'] at rv';show wpAny _ _ (oneLt' (false&&_) _ _) _ _ _
    exact Srt.Xq pl pl' (vV rv) (vV rv') w5 h
end
def Reps.getD{K:W.Frag}{G:Option Addr}{Z:Addr->Prop}{H:Hp}{α:Type}{enc:α->D}{rows:List α}{a0:α}{xs:List V}(rs:Reps K G Z H (rows.map enc) xs){i:Nat}(hi:i<rows.length):Rep K G Z H (enc (rows.getD i a0)) (xs.getD i .non):=by
 obtain⟨v,e,r⟩:=rs.get (i:=i) (d:=enc rows[i]) (by rw[zt,zd hi];rfl)
 rw[zL,zL,e,zd hi];exact r
theorem Xd{K:W.Frag}{G:Option Addr}{Z:Addr->Prop}{H:Hp}{α:Type}{enc:α->D}{rows:List α}{a0:α}{xs:List V}(rs:Reps K G Z H (rows.map enc) xs):∀{ls:List Nat},(∀i∈ls,i<rows.length)->Reps K G Z H ((ls.map λi=>rows.getD i a0).map enc) (ls.map λi=>xs.getD i .non)
 |[],_=>.nil
 |i::ls,hl=>.cons (rs.getD (hl i (xh ..))) (Xd rs λj hj=>hl j (zm _ hj))
def UT{α:Type}(a0:α)(rows:List α):(List.range rows.length).map (λi=>rows.getD i a0)=rows:=by
 apply List.ext_getElem
 ·simp
 ·intro i h1 h2;simp[zL,h2]
def QH{A:AC}{X:Cx}(hK:X.K=A.K):vE A (zF9 X) xe8:=by
 rintro os n rho sg H ds vs es ws k Q I rs ⟨rows,f,rfl,hl,hf,hnd,q⟩ hQ;obtain⟨v,rfl,r⟩:=qq rs;obtain⟨a,xs,rfl,sq,rr⟩:=r.lst_inv
 have len:xs.length=rows.length:=by rw[rr.length,zg]
 have mem:∀i,i<rows.length->rows.getD i Yt∈rows:=λi hi=>by
  rw[zL,zd hi];exact wl hi
 have dist:∀i j,i<rows.length->j<rows.length->i≠j->(rows.getD i Yt).name≠(rows.getD j Yt).name:=λi j hi hj hij e=>by
  have g:∀i (hi:i<rows.length),(rows.map SRow.name)[i]'(by simpa using hi)=(rows.getD i Yt).name:=λi hi=>by
   rw[List.getElem_map,zL,zd hi];rfl
  have f:=wN.mp hnd
  rcases Nat.lt_or_gt_of_ne hij with l |l
  ·exact f i j (by simpa using hi) (by simpa using hj) l (by rw[g i hi,g j hj,e])
  ·exact f j i (by simpa using hj) (by simpa using hi) l (by rw[g i hi,g j hj,e])
 have num:∀i,i<rows.length->(rows.getD i Yt).key.num=f:=λi hi=>hf _ (mem i hi);rw[<- hK] at rr
 refine⟨a,xs,f,λi j=>(rows.getD i Yt).lt (rows.getD j Yt),rfl,by rw[hK];exact sq.sq,w5,λi j hi hj hij=>SRow.lt_anti (by rw[num i w5,num j w5]) (dist i j w5 w5 hij),λi j l _ _ _ h1 h2=>SRow.lt_trans h1 h2,λi hi=>?_,λi j hi hj hij=>?_,λls hp hU l hl'=>?_⟩
 ·intro pins s σ u J ru
  obtain⟨p,rest,R⟩:=WD J (rr.getD (enc:=SRow.d) (a0:=Yt) w5) ru
  obtain⟨z,t,_⟩:=R.tup;have ty:=Qa J R
  rw[num i w5] at ty
  exact⟨p,_,t,ty⟩
 ·intro pins s σ u v J ru rv B hB
  obtain⟨p,ps,R⟩:=WD J (rr.getD (enc:=SRow.d) (a0:=Yt) w5) ru
  obtain⟨p',ps',R'⟩:=WD J (rr.getD (enc:=SRow.d) (a0:=Yt) w5) rv
  have c:=zh9 J (by rw[num i w5,num j w5]) (dist i j w5 w5 hij) R R' hB
  rw[num i w5] at c
  exact c
 ·rw [len] at hp hU
  have hls:∀i∈ls.toList,i<rows.length:=λi hi=>by
   have:=(hp.mem_iff).mp (Array.mem_toList_iff.mp hi)
   rwa [Array.mem_range] at this
  have hsz:ls.size=rows.length:=by rw[hp.size_eq,yO]
  rw[hK] at rr;refine hQ _ _ _ ⟨os,I.newLst (Xd (a0:=Yt) rr hls) hl'⟩ (q _ ?_ ?_)
  ·have p1 : ls.toList.Perm (List.range rows.length) := by
    have:=Array.perm_iff_toList_perm.mp hp
    rwa [Array.toList_range] at this
   have p2:=p1.map λi=>rows.getD i Yt
   rwa [UT] at p2
  ·rw [xG, wN];intro i j hi hj hij
   have hi':i<ls.size:=by simpa using hi
   have hj':j<ls.size:=by simpa using hj
   have u:=hU i j hij w5
   have g:∀i (hi:i<ls.size),Srt.lab ls i=ls.toList[i]'(by simpa using hi):=λi hi=>by
    refine Srt.jv ?_
    rw[<- yn,zd (by simpa using hi)]
   rw[g i hi',g j hj'] at u;exact u
def QP{X:Cx}(hc:X.calm=true):qo X (.builtin "sum") (λxs H Q=>∃(p:Addr) (ns:List Int),xs=[.ref p]/\SqL X.K H p (ns.map V.int)/\Q (.int ns.sum) H):=by
 intro pins s σ H xs us Q I r h;obtain⟨p,ns,rfl,hq,q⟩:=h;obtain⟨u,rfl,hu⟩:=Wc r;have e:u=.ref p:=hu;subst e;obtain⟨its,rv,pl,_⟩:=I.list hq;have hi:=vV rv;obtain⟨ys,hys⟩:=hi.allInts.items;have hl:=pl.isList;rw[hys] at hl;refine sum_intListG (I.ok.hd hc) hl λh' tk t' hk=>?_;refine⟨.int ns.sum,H,I.kept hk,⟨t',?_⟩,q⟩
 rw[preSum_eq,yU (by simp)]
 have e2:=nums_intItems ys;rw[<- hys] at e2;rw[<- e2];show Value.int (numsOf its.toArray.toList).sum t'=_;rw[show its.toArray.toList=its from rfl,hi.numsOf]
def xO8:List D->(D->Prop)->Prop:=λes k=>∃ns:List Int,es=[.lst (ns.map D.int)]/\k (.int ns.sum)
def zJ2{A:AC}:vE A (λxs H Q=>∃(p:Addr) (ns:List Int),xs=[.ref p]/\SqL A.K H p (ns.map V.int)/\Q (.int ns.sum) H) xO8:=by
 rintro os n rho sg H ds vs es ws k Q I rs ⟨ns,rfl,q⟩ hQ;obtain⟨v,rfl,r⟩:=qq rs;obtain⟨a,xs,rfl,sq,rr⟩:=r.lst_inv;have e:=kn rr;subst e;exact⟨a,ns,rfl,sq.sq,hQ _ _ _ ⟨os,I.push (Rep.ofS (d:=.int ns.sum) rfl)⟩ q⟩
structure Blt2(mg:Str->Option Value):Prop where
 sum:mg "sum" = none
def zJ5:bootBuiltins "sum" = some (.builtin "sum"):=x6
section
variable {A:AC}{X:Cx}{a:Expr}{ta:TD}{pos:Pos}
def zm9(d:D)(k:List D->Prop):Prop:=∃fs,(d=.lst fs\/d=.fz fs)/\k fs
@[simp] theorem xv1{fs:List D}{k}:zm9 (.lst fs) k↔k fs:=⟨fun⟨_,e,h⟩=>by rcases e with e |e<;>cases e;exact h,λh=>⟨_,.inl rfl,h⟩⟩
def xI1(ta:TD)(tl th:TOD):TD:=λrho n P=>ta rho n λd n1=>tl rho n1 λlo n2=>th rho n2 λhi n3=>zm9 d λfs=>P (.lst (QG fs lo hi)) n3
@[simp] theorem xE8{ta tl th rho n P}:xI1 ta tl th rho n P=ta rho n λd n1=>tl rho n1 λlo n2=>th rho n2 λhi n3=>zm9 d λfs=>P (.lst (QG fs lo hi)) n3:=rfl
def zG5{le he:Option Expr}{tl th:TOD}{p2:Pos}(hK:X.K=A.K)(ha:PD A X a ta)(hl:POD A X le tl)(hh:POD A X he th):PD A X (.Subscript a (.Slice le he none p2) pos) (xI1 ta tl th):=by
 exists (zy7 zK8 ha hl hh).imp λsg H Q h=>by
   obtain⟨rho,n,P,ds,vs,I,ht,hQ⟩:=h;refine⟨rho,n,_,ds,vs,I,ht,λv H1 n1 d J1 h1=>⟨rho,n1,_,_,_,J1,h1,λlo H2 n2 J2 h2=>⟨rho,n2,_,_,_,J2,h2,λhi H3 n3 ⟨os,J3⟩ h3=>?_⟩⟩⟩;obtain⟨fs,hd,k⟩:=h3;obtain⟨J4,r⟩:=J3.pop;rw[hK]
   rcases hd with rfl |rfl
   ·obtain⟨l,xs,rfl,sq,rs⟩:=r.lst_inv;exact⟨l,xs,rfl,sq.sq,λp hp=>hQ _ _ n3 _ ⟨os,J4.newLst (Qb rs lo hi) hp⟩ k⟩
   ·obtain⟨l,xs,rfl,sq,rs⟩:=r.fz_inv;exact⟨l,xs,rfl,sq,λp hp=>hQ _ _ n3 _ ⟨os,J4.newLst (Qb rs lo hi) hp⟩ k⟩
def zr1(i:Nat):TD:=λrho n P=>∃es,rho[i]?=some (some (.own es))/\okE (.lst es) 20=true/\P (.bl (!Yi es [])) n
@[simp] theorem xm9{i rho n P}:zr1 i rho n P=∃es,rho[i]?=some (some (.own es))/\okE (.lst es) 20=true/\P (.bl (!Yi es [])) n:=rfl
def zg1{i:Nat}(hK:X.K=A.K){sg:St}{H:Hp}{Q:VK}(h:tOf A (zr1 i) sg H Q):tOp (xq7 X) (xB8 i) (tOf A (xB0 xB3)) sg H Q:=by
 obtain⟨rho,n,P,ds,vs,⟨os,I⟩,⟨es,hi,ok,q⟩,hQ⟩:=h;obtain⟨a,xs,e1,hH,rs,_⟩:=I.own (es':=es) (xs':=[]) hi;refine⟨.ref a,e1,rho,n,λd n1=>d=.lst []/\n1=n,ds,vs,⟨os,I⟩,⟨wa _,rfl,rfl⟩,λv2 H2 n2 d2 ⟨os2,J⟩ k=>?_⟩;obtain⟨rfl,rfl⟩:=k;obtain⟨J1,r2⟩:=J.pop;obtain⟨a',xs',e2,hH',rs',_⟩:=J1.own (es':=es) (xs':=[]) hi;rw[e1] at e2;cases e2;have no:∀b,H2 b≠none->False->Zof A os2 b:=λ_ _ z=>z.elim
 have rA:Rep X.K A.G (λ_=>False) H2 (.lst es) (.ref a):=by
  rw[hK];exact .lst_mk ⟨λz=>z,hH'⟩ (Reps.mono no (λ_ _ _ e=>e) _ _ rs')
 have rB:Rep X.K A.G (λ_=>False) H2 (.lst []) v2:=by
  rw[hK];exact Rep.mono no (λ_ _ _ e=>e) _ _ r2
 have ok0:okE (.lst []) 20=true:=by unfold okE;rfl
 refine⟨eqD (.lst es) (.lst []),λpins s σ v u J rx ry B hu=>QA J 20 _ _ _ _ v u B ok ok0 rA rB rx ry w5,?_⟩
 have eqe:eqD (.lst es) (.lst [])=Yi es []:=by unfold eqD;rfl
 rw[eqe];exact hQ _ H2 _ _ ⟨os2,J1.push (Rep.ofS (d:=.bl (!Yi es [])) rfl)⟩ q
def zi7{i:Nat}{x:Str}{px p2:Pos}{n:Nat}(hr:Room n X.A)(hK:X.K=A.K)(hN:X.N[i]?=some x:=by rfl)(hv:Vis X.env.scope x:=by first |exact Or.inl rfl |exact Or.inr (Or.inl rfl) |exact Or.inr (Or.inr rfl))(hd:(x == ("__debug__" : Str))=false:=by decide)
  (hcd:(x == ("__classdict__" : Str))=false:=by decide):PTD A X (.Compare (.Name x px) [.NotEq] [.List [] p2] pos) (zd6 (zr1 i)):=by exists (zi9 (zH0 hr) (qN hN hv hd hcd) (vM (A:=A) zj) (wG _)).imp λ_ _ _=>YL λ_ _ _=>zg1 hK
end
mutual
def xB6:D->PyData
 |.int i=>.int i
 |.tup ds=>.tuple (zV3 ds)
 |_=>.none
def zV3:List D->List PyData
 |[]=>[]
 |d::ds=>xB6 d::zV3 ds
end
mutual
def okS:D->Nat->Bool
 |.int i,_=>decide (i.natAbs.log2<1920)
 |.tup ds,k=>match k with
  |0=>false
  |k+1=>xH3 ds k
 |_,_=>false
def xH3:List D->Nat->Bool
 |[],_=>true
 |d::ds,k=>okS d k&&xH3 ds k
end
mutual
def zP7:D->Nat
 |.tup ds=>zH3 ds+1
 |_=>1
def zH3:List D->Nat
 |[]=>0
 |d::ds=>zP7 d+zH3 ds
end
def zW3(d:D):Str:=(xB6 d).shown
section
variable {X:Cx}{pins:List (Addr × Obj)}{σ:St}{H:Hp}{s:Shared}{G:Option Addr}{Z:Addr->Prop}
end
def xz5:List D->(D->Prop)->Prop:=λes k=>∃ds,es=[.tup ds]/\okS (.tup ds) 15=true/\zP7 (.tup ds)<=8000/\k (.str (zW3 (.tup ds)))
@[simp] theorem xv2{ds k}:xz5 [.tup ds] k↔(okS (.tup ds) 15=true/\zP7 (.tup ds)<=8000/\k (.str (zW3 (.tup ds)))):=⟨fun⟨_,e,h⟩=>by cases e;exact h,λh=>⟨_,rfl,h⟩⟩
end L2
namespace L2
section
variable {X:Cx}{A:AC}
def zY0:RD2:=λd1 d2 k=>∃es i,d1=.tup es/\d2=.int i/\es≠[]/\0<=i/\es.length*i.toNat<=sizeLine/\k (.tup (replicate i.toNat es).flatten)
@[simp] theorem xk1{es i k}:zY0 (.tup es) (.int i) k↔(es≠[]/\0<=i/\es.length*i.toNat<=sizeLine/\k (.tup (replicate i.toNat es).flatten)):=⟨fun⟨_,_,e,e',h⟩=>by cases e;cases e';exact h,λh=>⟨_,_,rfl,rfl,h⟩⟩
end
end L2
namespace L2.Srt
open PySem PyProof.Rows
section
variable {prog:Program}{w:World}{A:Around}{E:Value->Shared->Prop}{s:Shared}
end
end L2.Srt
namespace L2
section
variable {X:Cx}{A:AC}{pos:Pos}{e:Expr}{t1:TAD}
def zX0:TSD:=λ_ _ _=>False
@[simp] theorem xu9{F:EndsD}{rho:Rho}{n:Nat}:zX0 F rho n↔False:=Iff.rfl
end
section
variable {K:W.Frag}{G G':Option Addr}{Z:Addr->Prop}{H:Hp}
end
section
variable {A:AC}{X:Cx}{e:Expr}{es:List Expr}{t1:TAD}{t2:TSD}{pos p:Pos}
end
def zC9(ks:List Key)(k:Key):Bool:=ks.any λj=>decide (j=k)
def Vw(ks:List Key)(k:Key):List Key:=if zC9 ks k=true then ks else ks++[k]
def zi6{α:Type}(ks:List Key)(xs:List α)(k:Key)(x:α):List α:=if zC9 ks k=true then List.zipWith (λj y=>if j=k then x else y) ks xs else xs++[x]
theorem zn8:∀(ks:List Key) (xs:List V) (k:Key),ks.length=xs.length->((YC ks xs).any λkv=>decide (kv.1=k))=zC9 ks k
 |[],xs,k,_=>rfl
 |j::ks,[],k,h=>by simp at h
 |j::ks,x::xs,k,h=>by
  have ih:=zn8 ks xs k (by simpa using h)
  show(decide (j=k)||(YC ks xs).any _)=(decide (j=k)||zC9 ks k);rw[ih]
theorem zn7:∀(ks:List Key) (xs:List V) (k:Key) (v:V),(YC ks xs).map (λkv=>if kv.1=k then(kv.1,v) else kv)=YC ks (List.zipWith (λj y=>if j=k then v else y) ks xs)
 |[],xs,k,v=>by simp[YC]
 |j::ks,[],k,v=>by simp[YC]
 |j::ks,x::xs,k,v=>by
  have ih:=zn7 ks xs k v
  show(if j=k then(j,v) else(j,x))::(YC ks xs).map _=(j,if j=k then v else x)::YC ks _
  rw[ih]
  by_cases e:j=k<;>simp[e]
def zB8{ks:List Key}{xs:List V}(k:Key)(v:V)(h:ks.length=xs.length):YC ks xs++[(k,v)]=YC (ks++[k]) (xs++[v]):=by
 unfold YC;rw[List.zipWith_append h];rfl
def zQ9{ks:List Key}{xs:List V}(k:Key)(v:V)(h:ks.length=xs.length):za8 (YC ks xs) k v=YC (Vw ks k) (zi6 ks xs k v):=by
 unfold za8 Vw zi6;rw[zn8 ks xs k h]
 by_cases e:zC9 ks k=true
 ·rw[if_pos e,if_pos e,if_pos e,zn7]
 ·rw[if_neg e,if_neg e,if_neg e,zB8 k v h]
def Jh{α:Type}{ks:List Key}{xs:List α}(k:Key)(x:α)(h:ks.length=xs.length):(Vw ks k).length=(zi6 ks xs k x).length:=by
 unfold Vw zi6
 split
 ·rw[wt,<- h];lia
 ·simp[h]
def xa4{α:Type}{ks:List Key}{xs:List α}(k:Key)(x:α)(h:ks.length=xs.length):(Vw ks k).length<=ks.length+1:=by
 unfold Vw
 split<;>simp
section
variable {K:W.Frag}{G:Option Addr}{Z:Addr->Prop}{H:Hp}
theorem Reps.zipPut{d:D}{v:V}(r:Rep K G Z H d v)(k:Key):∀{ks:List Key}{es:List D}{xs:List V},Reps K G Z H es xs->Reps K G Z H (List.zipWith (λj y=>if j=k then d else y) ks es) (List.zipWith (λj y=>if j=k then v else y) ks xs)
 |[],es,xs,h=>.nil
 |j::ks,[],xs,h=>by rw[h.nil_inv];exact .nil
 |j::ks,e::es,xs,h=>by
  obtain⟨x,xr,rfl,q,t⟩:=h.split;have ih:=Reps.zipPut r k (ks:=ks) t
  show Reps K G Z H ((if j=k then d else e)::_) ((if j=k then v else x)::_)
  by_cases z:j=k
  ·rw[if_pos z,if_pos z];exact .cons r ih
  ·rw[if_neg z,if_neg z];exact .cons q ih
def Reps.put{d:D}{v:V}{ks:List Key}{es:List D}{xs:List V}(h:Reps K G Z H es xs)(r:Rep K G Z H d v)(k:Key):Reps K G Z H (zi6 ks es k d) (zi6 ks xs k v):=by
 unfold zi6
 split
 ·exact Reps.zipPut r k h
 ·exact h.append (.cons r .nil)
end
def keyOf:D->Option Key
 |.int i=>some (Sum.inl i)
 |.str x=>some (Sum.inr x)
 |_=>none
@[simp] theorem xe7{i:Int}:keyOf (.int i)=some (Sum.inl i):=rfl
@[simp] theorem xe6{i:Str}:keyOf (.str i)=some (Sum.inr i):=rfl
def XF{K:W.Frag}{G:Option Addr}{Z:Addr->Prop}{H:Hp}{d:D}{v:V}{k:Key}(h:Rep K G Z H d v)(e:keyOf d=some k):v=kV k:=by
 cases d with
 |int i=>cases e;exact h.int_inv
 |str i=>cases e;exact h.toS rfl
 |_=>simp[keyOf] at e
section
variable {A:AC}{X:Cx}{tg iter kx vx:Expr}{ifs:List Expr}{scope:Scope}{own M:List Str}{pos:Pos}{it:TID}{g:TGD}{tt:TBD}{tk tv:TD}
def zq8(own:Nat)(g:TGD)(tt:TBD)(tk tv:TD)(rho:Rho)(P:D->Nat->Prop)(items:List D)(n1:Nat):Prop:=items.length<=sizeLine/\∃J:Nat->List Key->List D->Nat->Prop,J 0 [] [] n1 /\
 (∀i d ks es n,items[i]?=some d->J i ks es n->g d (replicate own none++rho) λrho'=>rho'.drop own=rho/\tt rho' n λc n2=>if c=true then tk rho' n2 λdk n3=>tv rho' n3 λdv n4=>∃k,keyOf dk=some k/\J (i+1) (Vw ks k) (zi6 ks es k dv) n4 else J (i+1) ks es n2) /\
 ∀ks es n,J items.length ks es n->P (.dct ks es) n
def zr3(it:TID)(own:Nat)(g:TGD)(tt:TBD)(tk tv:TD):TD:=λrho n P=>it rho n (zq8 own g tt tk tv rho P)
@[simp] theorem xn2{it own g tt tk tv rho n P}:zr3 it own g tt tk tv rho n P=it rho n (zq8 own g tt tk tv rho P):=rfl
def AmO.newDct{os n rho sg H ds vs}{ks:List Key}{es:List D}{xs:List V}{p:Addr}(I:AmO A os n rho sg H ds vs)(r:Reps A.K A.G (Zof A os) H es xs)(hp:H p=none):AmO A os n rho sg (upd H p (.dK (YC ks xs))) (.dct ks es::ds) (.ref p::vs):=by
 have hf:∀a u,H a=some u->upd H p (.dK (YC ks xs)) a=some u:=λa u e=>by
  rw[xV λz=>by rw[z,hp] at e;cases e];exact e
 refine⟨I.len,λi d e=>?_,?_,I.nd,λq hq=>?_,λa e=>?_,I.gz,λa u h e=>hf a u (I.fr a u h e),I.z0⟩
 ·obtain⟨v,e1,e2⟩:=I.slot i d e;exact⟨v,e1,SlotR.mono (λ_ _ z=>z) (λa u _ e=>hf a u e) (λa xs m q=>⟨m,hf a _ q⟩) _ _ e2⟩
 ·refine .cons ?_ (Reps.mono (λ_ _ z=>z) (λa u _ e=>hf a u e) _ _ I.pend);unfold Rep;refine⟨p,xs,rfl,⟨λz=>?_,wZ⟩,Reps.mono (λ_ _ z=>z) (λa u _ e=>hf a u e) _ _ r⟩;exact absurd hp (I.zH p z)
 ·obtain⟨f1,f2,f3⟩:=I.fresh q hq;exact⟨f1,f2,f3.of λu e=>hf _ _ e⟩
 ·obtain⟨x,y,z,q,r⟩:=I.st a e;exact⟨x,y,z,hf _ _ q,r⟩
def zg2{sg:St}{H:Hp}{Q:VK}{m:Nat}(h:tOf A (zr3 it m g tt tk tv) sg H Q):zF3 (iOf A it) m (gOf A m g) (za2 A tt) (tOf A tk) (tOf A tv) sg H Q:=by
 obtain⟨rho,n,P,ds,vs,I,ht,hQ⟩:=h;refine⟨rho,n,_,ds,vs,I,ht,λJ H' n' items es ws I1 hl hJ k=>?_⟩;obtain⟨hsz,W,w0,turn,fin⟩:=k
 refine⟨λi mm acc H=>mm=items.length-i/\i<=items.length/\∃ks accD xs n,acc=YC ks xs/\ks.length=xs.length/\ks.length<=i/\xs.length=accD.length/\Am A n rho sg H (es++(accD++ds)) (ws++(xs++vs))/\W i ks accD n,
  ⟨items.length,rfl,wa _,[],[],[],n',rfl,rfl,zo _,rfl,I1,w0⟩,?_⟩
 rintro i mm acc H3 ⟨rfl,hi,ks,accD,xs,n3,rfl,hkl,hai,hal,⟨os,I3⟩,w3⟩
 have hlk:(YC ks xs).length=ks.length:=by unfold YC;rw[wt];lia
 obtain⟨j1,j2⟩:=hJ n3 rho sg H3 (accD++ds) (xs++vs) i ⟨os,I3⟩
 by_cases hlt:i<items.length
 ·refine .inr ⟨(j1 items[i] (by simp [hlt])).1, by lia, λx H4 y => ?_⟩
  obtain⟨os4,I4⟩:=(j1 items[i] (by simp[hlt])).2 x H4 y
  refine⟨replicate m none++rho,n3,_,items[i],es++(accD++ds),ws++(xs++vs),⟨_,I4.front m⟩,turn i items[i] ks accD n3 (by simp[hlt]) w3,λrho' sg' ⟨os5,I5⟩ e5 k5=>?_⟩
  obtain⟨k5,k6⟩:=k5
  have e6:sg'.drop m=sg:=by rw[e5,yC (by simp)]
  refine⟨e6,rho',n3,_,es++(accD++ds),ws++(xs++vs),⟨os5,I5⟩,k6,λc H6 n6 ⟨os6,I6⟩ k7=>?_⟩
  cases c with
  |false=>
   obtain⟨os7,I7⟩:=I6.back k5 e6
   exact⟨items.length-(i+1),w5,rfl,hlt,ks,accD,xs,n6,rfl,hkl,w5,hal,⟨os7,I7⟩,k7⟩
  |true=>
   rw[if_pos rfl] at k7 ⊢;refine⟨rho',n6,_,es++(accD++ds),ws++(xs++vs),⟨os6,I6⟩,k7,λvk H8 n8 dk I8 k8=>?_⟩;refine⟨rho',n8,_,dk::(es++(accD++ds)),vk::(ws++(xs++vs)),I8,k8,λv H9 n9 d ⟨os9,I9⟩ k9=>?_⟩;obtain⟨kk,ek,w9⟩:=k9;obtain⟨os10,I10⟩:=I9.back k5 e6;obtain⟨I11,rv⟩:=I10.pop;obtain⟨I12,rk⟩:=I11.pop;obtain⟨I13,r1⟩:=I12.split hl;obtain⟨I14,r2⟩:=I13.split hal
   refine⟨kk,items.length-(i+1),XF rk ek,w5,rfl,hlt,Vw ks kk,zi6 ks accD kk d,zi6 ks xs kk v,n9,zQ9 kk v hkl,Jh kk v hkl,?_,?_,⟨os10,(I14.join (r2.put rv kk)).join r1⟩,w9⟩
   ·have:=xa4 kk v hkl;lia
   ·rw[<- Jh kk v hkl,<- Jh kk d w5]
 ·have e : i = items.length := by lia
  subst e
  refine .inl ⟨j2 (zo _),w5,λD hD=>?_⟩
  obtain⟨I4,r1⟩:=I3.split hl;obtain⟨I5,r2⟩:=I4.split hal;exact hQ _ _ n3 _ ⟨os,I5.newDct r2 hD⟩ (fin ks accD n3 w3)
def zz4(ok:CompOk X scope M)(hc:X.calm=true)(hi:PID A X tg iter it)(hg:∀C s2 H2 fp,PGD A (wL X scope own M C s2 H2 fp) own.length tg g)(ht:∀C s2 H2 fp,PTs (wL X scope own M C s2 H2 fp) ifs (za2 A tt))
  (hk:∀C s2 H2 fp,PD A (wL X scope own M C s2 H2 fp) kx tk) (he:∀C s2 H2 fp,PD A (wL X scope own M C s2 H2 fp) vx tv) (hs:∀x,foldedSetIterable iter X.env x=pure x:=by intro _;rfl):PD A X (.DictComp kx vx [⟨tg,iter,ifs,0⟩] scope pos) (zr3 it own.length g tt tk tv):=by exists (zz2 ok hc hi hg ht hk he hs).imp λ_ _ _=>zg2
end
def atK:List Key->List D->Key->Option D
 |k::ks,d::ds,x=>if k=x then some d else atK ks ds x
 |_,_,_=>none
def JG{K:W.Frag}{G:Option Addr}{Z:Addr->Prop}{H:Hp}:∀{ks:List Key}{ds:List D}{xs:List V}{x:Key},Reps K G Z H ds xs ->
  (∀d,atK ks ds x=some d->∃v,Yp (YC ks xs) x=some v/\Rep K G Z H d v)/\(atK ks ds x=none->Yp (YC ks xs) x=none)
 |[],ds,xs,x,r=>⟨λd h=>by simp[atK] at h,λ_=>rfl⟩
 |k::ks,[],xs,x,r=>by rw[r.nil_inv];exact⟨λd h=>by simp[atK] at h,λ_=>rfl⟩
 | k :: ks, e :: ds, xs, x, r => by
  obtain⟨v,rs,rfl,q,t⟩:=r.split;obtain⟨i1,i2⟩:=JG (ks:=ks) (x:=x) t;unfold atK
  by_cases c:k=x
  ·rw [if_pos c]
   exact⟨λd h=>by cases h;exact⟨v,YH (p:=(k,v)) c,q⟩,λh=>by cases h⟩
  ·rw[if_neg c];have e2:Yp (YC (k::ks) (v::rs)) x=Yp (YC ks rs) x:=YI (p:=(k,v)) c;rw[e2];exact⟨i1,i2⟩
section
variable {A:AC}{X:Cx}{a b:Expr}{ta tb:TD}{pos:Pos}
def rDx:R2:=λx y H Q=>∃a v,x=.ref a/\DGet H a y (some v)/\Q v H
def xj5:RD2:=λd1 d2 k=>∃ks ds x d,d1=.dct ks ds/\keyOf d2=some x/\atK ks ds x=some d/\k d
@[simp] theorem xu1{ks ds x k}:xj5 (.dct ks ds) (.int x) k↔∃d,atK ks ds (Sum.inl x)=some d/\k d:=⟨fun⟨_,_,_,d,e,e',h⟩=>by cases e;cases e';exact⟨d,h⟩,fun⟨d,h⟩=>⟨_,_,_,d,rfl,rfl,h⟩⟩
def xq3:kJ A rDx xj5:=by
 rintro os n rho sg H ds vs d1 d2 v1 v2 k Q I ⟨ks,es,x,d,rfl,hk,hx,q⟩ hQ;obtain⟨I1,r2⟩:=I.pop;obtain⟨I2,r1⟩:=I1.pop;have e2:=XF r2 hk;subst e2;unfold Rep at r1;obtain⟨a,xs,rfl,⟨hz,hH⟩,rs⟩:=r1;obtain⟨v,hv,rv⟩:=(JG rs).1 d hx
 exact⟨a,v,rfl,by rw[<- hv];exact DGet.k hH,hQ _ _ _ ⟨os,I2.push rv⟩ q⟩
def xc1(hu:X.A.units+1<cLine)(ha:PD A X a ta)(hb:PD A X b tb)(hs:xi9 b):PD A X (.Subscript a b pos) (dOp xj5 ta tb):=by exists (zN5 hu ha hb hs).imp λ_ _ _=>Uq (r:=rDx) xq3
def xC8(neg:Bool):R2:=λy x H Q=>∃a o,x=.ref a/\DGet H a y o/\Q (.bl (o.isSome != neg)) H
def zk5(hu:X.A.units+1<cLine):OpR X (compareOp .NotIn) (xC8 true):=by
 intro pins s σ H x y v u Q I rx ry h;obtain⟨a,o,rfl,g,q⟩:=h;cases(show u=Value.ref a from ry)
 exact zS7 hu I g rx λs' I'=>⟨.bl (o.isSome != true),H,I',by simp;rfl,q⟩
def zY6(neg:Bool):RD2:=λd1 d2 k=>∃ks ds x,d2=.dct ks ds/\keyOf d1=some x/\k (.bl ((atK ks ds x).isSome != neg))
@[simp] theorem xk6{neg ks ds x k}:zY6 neg (.int x) (.dct ks ds) k↔k (.bl ((atK ks ds (Sum.inl x)).isSome != neg)):=⟨fun⟨_,_,_,e,e',h⟩=>by cases e;cases e';exact h,λh=>⟨_,_,_,rfl,rfl,h⟩⟩
def zX7{neg:Bool}:kJ A (xC8 neg) (zY6 neg):=by
 rintro os n rho sg H ds vs d1 d2 v1 v2 k Q I ⟨ks,es,x,rfl,hk,q⟩ hQ;obtain⟨I1,r2⟩:=I.pop;obtain⟨I2,r1⟩:=I1.pop;have e2:=XF r1 hk;subst e2;unfold Rep at r2;obtain⟨a,xs,rfl,⟨hz,hH⟩,rs⟩:=r2;obtain⟨g1,g2⟩:=JG (ks:=ks) (x:=x) rs;refine⟨a,Yp (YC ks xs) x,rfl,DGet.k hH,?_⟩
 have e3:(Yp (YC ks xs) x).isSome=(atK ks es x).isSome:=by
  cases e:atK ks es x with
  |none=>rw[g2 e];rfl
  |some d=>obtain⟨v,hv,_⟩:=g1 d e;rw[hv];rfl
 rw[e3];exact hQ _ _ _ ⟨os,I2.push (Rep.ofS (d:=.bl _) rfl)⟩ q
def xK8(i:Nat)(g:TGD):TSD:=λF rho n=>∃es d,rho[i]?=some (some (.own (es++[d])))/\g d (rho.set i (some (.own es))) λrho'=>F.nx rho' n
@[simp] theorem xD5{i g F rho n}:xK8 i g F rho n=∃es d,rho[i]?=some (some (.own (es++[d])))/\g d (rho.set i (some (.own es))) λrho'=>F.nx rho' n:=rfl
def xp8:TSD:=λF rho n=>F.ct rho n
@[simp] theorem xt1{F rho n}:xp8 F rho n=F.ct rho n:=rfl
def zW8(i:Nat)(tc:TBD)(t u:TAD):TSD:=λF rho n=>i<rho.length/\tc rho n λc n0=>if c=true then t rho n0 (λes n1=>es.length<=sizeLine/\F.nx (rho.set i (some (.own es))) n1) else u rho n0 λes n1=>es.length<=sizeLine/\F.nx (rho.set i (some (.own es))) n1
@[simp] theorem xj9{i tc t u F rho n}:zW8 i tc t u F rho n=(i<rho.length/\tc rho n λc n0=>if c=true then t rho n0 (λes n1=>es.length<=sizeLine/\F.nx (rho.set i (some (.own es))) n1) else u rho n0 λes n1=>es.length<=sizeLine/\F.nx (rho.set i (some (.own es))) n1):=rfl
end
section
variable {X:Cx}{A:AC}
def xg0:D->Bool
 |.tup _=>true
 |.lst _=>true
 |_=>false
def xA0:List D->(D->Prop)->Prop:=λes k=>∃d,es=[d,.tup [.ty "tuple",.ty "list"]]/\VV d=true/\k (.bl (xg0 d))
@[simp] theorem xw1{d k}:xA0 [d,.tup [.ty "tuple",.ty "list"]] k↔(VV d=true/\k (.bl (xg0 d))):=⟨fun⟨_,e,h⟩=>by cases e;exact h,λh=>⟨_,rfl,h⟩⟩
end
section
variable {A:AC}{X:Cx}{a b c:Expr}{ta tb tc:TD}{pos:Pos}
def zg5{f g:Int->Int->Bool}{sg:St}{H:Hp}{Q:VK}(h:tOf A (zr4 f g ta tb tc) sg H Q):zF4 (rI0 λi j=>.bl (f i j)) (rI0 λi j=>.bl (g i j)) (tOf A ta) (tOf A tb) (tOf A tc) sg H Q:=by
 obtain⟨rho,n,P,ds,vs,I,h,hQ⟩:=h;refine⟨rho,n,_,ds,vs,I,h,λv H1 n1 d1 I1 h1=>⟨rho,n1,_,_,_,I1,h1,λv2 H2 n2 d2 ⟨os2,I2⟩ h2=>?_⟩⟩;obtain⟨i,rfl,j,rfl,h2⟩:=h2;obtain⟨I3,r2⟩:=I2.pop;obtain⟨I4,r1⟩:=I3.pop;refine⟨i,j,r1.int_inv,r2.int_inv,f i j,rfl,?_⟩
 by_cases hf:f i j=true
 ·rw[if_pos hf] at h2 ⊢;refine⟨rho,n2,_,_,_,⟨os2,I4⟩,h2,λv3 H3 n3 d3 ⟨os3,I5⟩ h3=>?_⟩;obtain⟨k,rfl,h3⟩:=h3;obtain⟨I6,r3⟩:=I5.pop;exact⟨j,k,r2.int_inv,r3.int_inv,hQ _ H3 n3 _ ⟨os3,I6.push (Rep.ofS (d:=.bl (g j k)) rfl)⟩ h3⟩
 ·rw[if_neg hf] at h2 ⊢;exact hQ _ H2 n2 _ ⟨os2,I4.push (Rep.ofS (d:=.bl false) rfl)⟩ h2
def zi8{op op':CmpOp}{f g:Int->Int->Bool}(ho:OpR X (compareOp op) (rI0 λi j=>.bl (f i j)))(ho':OpR X (compareOp op') (rI0 λi j=>.bl (g i j)))(ha:PD A X a ta)(hb:PD A X b tb)(hc:PD A X c tc)
  (hm:lastMarks [op,op'] [b,c]=false:=by with_unfolding_all rfl):PTD A X (.Compare a [op,op'] [b,c] pos) (zd6 (zr4 f g ta tb tc)):=by exists (zx8 ho ho' ha hb hc hm).imp λ_ _ _=>YL λ_ _ _=>zg5
end
def Qt(rho:Rho):Bool:=rho.all λo=>match o with
 |some d=>xT d
 |none=>true
def zl9{rho:Rho}{i:Nat}{d:D}(h:Qt rho=true)(e:rho[i]?=some (some d)):xT d=true:=by
 have:=wT.mp h _ (zP e);exact this
def zW6(i j:Nat)(tb:TD):TSD:=λF rho n=>i<rho.length/\j<rho.length/\Qt rho=true/\tb rho n λd n1=>F.nx ((rho.set i (some (.own []))).set j (some d)) n1
@[simp] theorem xs7{i j tb F rho n}:zW6 i j tb F rho n=(i<rho.length/\j<rho.length/\Qt rho=true/\tb rho n λd n1=>F.nx ((rho.set i (some (.own []))).set j (some d)) n1):=rfl
section
variable {A:AC}{X:Cx}{b:Expr}{tb:TD}{pos:Pos}
def AmO.still{os n rho sg H ds vs}{H1:Hp}{Z:Addr->Prop}(I:AmO A os n rho sg H ds vs)(ho:Qt rho=true)(hH:∀a o,H a=some o->H1 a=some o)(hz:∀a,H a≠none->Z a->Zof A os a)(hz1:∀a,Z a->Hot (H1 a))(hg:∀a,A.G=some a->Z a) :
  AmO ⟨A.K,A.G,Z,H1⟩ [] n rho sg H1 [] []:=by
 have hz':∀a,H a≠none->Zof ⟨A.K,A.G,Z,H1⟩ [] a->Zof A os a:=λa h z=>by
  rcases z with z |⟨p,hp,_⟩
  ·exact hz a h z
  ·simp at hp
 refine⟨I.len,λi d e=>?_,.nil,.nil,λp hp=>by simp at hp,λa e=>?_,hg,λa o _ e=>e,⟨hz1,λP q t=>⟨hH P _ (I.zO.2 P q t).1,(I.zO.2 P q t).2⟩⟩⟩
 ·obtain ⟨v, e1, e2⟩ := I.slot i d e;have hd:=zl9 ho e;have r:=Rep.mono (K:=A.K) (G:=A.G) hz' (λa o _ e=>hH a o e) _ _ (e2.rep hd);refine⟨v,e1,?_⟩
  cases d<;>first |exact r |(simp[xT] at hd;done)
 ·obtain⟨zs,u1,u2,q,r⟩:=I.st a e;exact⟨zs,u1,u2,hH a _ q,r⟩
def AmO.setOwnX{os:List (Nat × Addr)}{n:Nat}{rho:Rho}{sg:St}{H:Hp}{ds es:List D}{vs xs:List V}{i:Nat}{p:Addr}(I:AmO A os n rho sg H ds vs)(hi:i<rho.length)(hp:H p=none)(r:Reps A.K A.G (Zof A os) H es xs) :
  AmO A ((i,p)::os.filter λq=>decide (q.1≠i)) n (rho.set i (some (.own es))) (sg.set i (some (.ref p))) (upd H p (.lst xs)) ds vs:=by
 have hf:∀a u,H a=some u->upd H p (.lst xs) a=some u:=λa u e=>by rw[xV (yc e hp)];exact e
 have zz:∀a,H a≠none->Zof A ((i,p)::os.filter λq=>decide (q.1≠i)) a->Zof A os a:=λa ha z=>by
  rcases z with z |⟨q,hq,e⟩
  ·exact .inl z
  ·rcases zi.mp hq with rfl | hq
   ·exact absurd (by rw[<- e];exact hp) ha
   ·exact .inr ⟨q,(zx.mp hq).1,e⟩
 have h0:A.H0 p=none:=by
  cases q:A.H0 p with
  |none=>rfl
  |some o=>
   by_cases e:A.G=some p
   ·obtain⟨x,y,z,w,_⟩:=I.st p e;rw[w] at hp;cases hp
   ·have:=I.fr p o e q;rw[this] at hp;cases hp
 refine⟨by simp[I.len],λj c e=>?_,Reps.mono zz (λa u _ e=>hf a u e) _ _ I.pend,?_,λq hq=>?_,λa e=>?_,I.gz,λa u h e=>hf a u (I.fr a u h e),I.z0⟩
 ·by_cases hj : j = i
  ·subst hj;rw[zT hi] at e;cases e
   exact⟨.ref p,zT (by rw[<- I.len];exact hi),p,xs,rfl,xh,wZ,Reps.mono zz (λa u _ e=>hf a u e) _ _ r⟩
  ·rw [zY (Ne.symm hj)] at e;obtain⟨u,e1,e2⟩:=I.slot j c e
   exact⟨u,by rw[zY (Ne.symm hj)];exact e1,SlotR.mono zz (λa u _ e=>hf a u e) (λa ys m q=>⟨zm _ (zx.mpr ⟨m,by simpa using hj⟩),hf a _ q⟩) _ _ e2⟩
 ·refine xM.mpr ⟨λq hq => ?_, I.nd.filter _⟩;obtain⟨m1,m2⟩:=zx.mp hq
  refine⟨λz=>by simp[<- z] at m2,λz=>(I.fresh q m1).2.2.ne ?_⟩
  have z':p=q.2:=z;rw[<- z'];exact hp
 ·rcases zi.mp hq with rfl | hq
  ·exact⟨h0,λz=>(I.z0.1 p z).ne h0,by show Hot (upd H p _ p);rw[wZ];exact Hot.lst⟩
  ·obtain⟨f1,f2,f3⟩:=I.fresh q (zx.mp hq).1;exact⟨f1,f2,f3.of λu w=>hf _ _ w⟩
 ·obtain⟨x,y,z,q,rr⟩:=I.st a e;exact⟨x,y,z,hf _ _ q,rr⟩
def zy3{i j:Nat}{x y:Str}{px py pt pl:Pos}{kt k2 pt2}(hc:X.calm=true)(hN:X.N.Nodup)(hi:X.N[i]?=some x)(hj:X.N[j]?=some y)(hij:i≠j)
  (hx:X.env.scope.names.lookup x=some .local) (hy:X.env.scope.names.lookup y=some .local) (hb:∀(Z:Addr->Prop) (H0:Hp),PD ⟨A.K,A.G,Z,H0⟩ X b tb)
  (hk:X.env.blockKind=.function:=by rfl) (hl:py.line=px.line:=by rfl) (hxy:x≠y:=by decide) (hsb:qf b=false:=by rfl) (hf:[Expr.List [] pl,b].all (foldedForSure 8)=false:=by decide +kernel) (hca:[Expr.List [] pl,b].all (constantsAlone 8)=false:=by decide +kernel) :
  PSD A X (.Assign [.Tuple [.Name x px,.Name y py] kt pt] (.Tuple [.List [] pl,b] k2 pt2) pos) (zW6 i j tb):=by
 exists (by
   have hb':PE X b (λsg H Q=>∃Z H0,tOf ⟨A.K,A.G,Z,H0⟩ tb sg H Q):=λpins s sg H Q I q=>by
    obtain⟨Z,H0,q⟩:=q;exact hb Z H0 pins s sg H Q I q
   refine(zG2 hc hN hi hj hij hx hy (ZV (zj8 WI) (ZV hb' WI (sE hsb)) (sE rfl)) (JV hk hx hy hl hxy rfl hsb hf hca) rfl).imp λE sg H h=>?_;obtain⟨rho,n,F,ds,vs,⟨os,I⟩,⟨hil,hjl,ho,ht⟩,ok⟩:=h;refine⟨wa _,λp hp=>?_⟩;have I1:=I.setOwnX (es:=[]) (xs:=[]) hil hp .nil
   have hH:∀a o,H a=some o->upd H p (.lst []) a=some o:=λa o e=>by rw[xV (yc e hp)];exact e
   refine⟨λa=>Zof A os a\/a=p,upd H p (.lst []),rho,n,_,[],[],⟨[],I.still ho hH (λa h z=>?_) (λa z=>?_) (λa e=>.inl (.inl (I.gz a e)))⟩,ht,λv H2 n2 d ⟨os2,J⟩ k=>?_⟩
   ·rcases z with z | rfl
    ·exact z
    ·exact absurd hp h
   ·rcases z with z | rfl
    ·exact(I.zHot a z).of λo e=>hH a o e
    ·rw[wZ];exact Hot.lst
   ·obtain ⟨J1, r⟩ := J.pop;have C:=I1.called (n':=n2) (H':=H2) (λa o g e=>J1.fr a o g e) J1.st
    refine⟨_,_,rfl,ok.nx _ _ _ _ ⟨_,(C.push (d:=d) (v:=v) ?_).set (by simpa using hjl)⟩ k⟩
    refine Rep.mono (K:=A.K) (G:=A.G) (λa h z=>?_) (λa o _ e=>e) _ _ r
    rcases z with z |⟨q,hq,e⟩
    ·exact .inl (.inl (.inl z))
    ·rcases zi.mp hq with rfl | hq
     ·exact .inl (.inr e.symm)
     ·exact .inl (.inl (.inr ⟨q,(zx.mp hq).1,e⟩)))
end
end L2
namespace L2
open PySem PySem.Spec PyProof.Rows PySem.SeqAt
section
variable {A:AC}{X:Cx}{a b c e:Expr}{ta tb tc te:TD}{pos:Pos}
def xC3(K:W.Frag):R2:=λx y H Q=>∃p q xs,x=.ref p/\y=.ref q/\SqT K H p xs/\SqT K H q []/\Q (.bl xs.isEmpty) H
def xc2{n:Nat}(hr:Room n X.A):OpR X (compareOp .Eq) (xC3 X.K):=by
 intro pins s σ H x y v u Q I rx ry h;obtain⟨p,q,xs,rfl,rfl,sq,sq',k⟩:=h;cases rx;cases ry;obtain⟨its,rv,pl,hz⟩:=I.tuple sq;obtain⟨its',rv',pl',hz'⟩:=I.tuple sq';cases rv';have hu:=hr.units
 have R:=RcAt.tuples (A:=X.A) (e:=λ_=>true) (show s.heap.IsTuple p its.toArray from pl) (show s.heap.IsTuple q #[] from pl') w5 (λj l1 l2=>absurd l2 (by simp))
 have ev:((List.range (min its.toArray.size (#[]:Array Value).size)).all (λ_=>true)&&its.toArray.size == (#[]:Array Value).size)=xs.isEmpty:=by
  have hl:=rv.length
  cases xs with
  |nil=>cases its with
   |nil=>rfl
   |cons _ _=>simp at hl
  |cons _ _=>cases its with
   |nil=>simp at hl
   |cons _ _=>simp
 exact(rcC R ev) X.prog X.w X.xe _ ⟨.bl xs.isEmpty,H,I,rfl,k⟩
def zX9:RD2:=λd1 d2 k=>KQ d1 λes=>d2=.tup []/\k (.bl es.isEmpty)
@[simp] theorem xt3{d1 d2 k}:zX9 d1 d2 k=KQ d1 λes=>d2=.tup []/\k (.bl es.isEmpty):=rfl
def zX4:kJ A (xC3 A.K) zX9:=by
 rintro os n rho sg H ds vs d1 d2 v1 v2 k Q I ⟨es,rfl,rfl,q⟩ hQ;obtain⟨I1,r2⟩:=I.pop;obtain⟨I2,r1⟩:=I1.pop;obtain⟨a,xs,rfl,sq,rs⟩:=r1.tup_inv;obtain⟨b,ys,rfl,sq',rs'⟩:=r2.tup_inv;have e:=rs'.nil_inv;subst e;have hl:=rs.length
 have ee:xs.isEmpty=es.isEmpty:=by cases xs<;>cases es<;>first |rfl |(simp at hl;done)
 exact⟨a,b,xs,rfl,rfl,sq.sq,sq'.sq,by rw[ee];exact hQ _ H _ ⟨os,I2.push (Rep.ofS rfl)⟩ q⟩
def zY1:RD2:=λd1 d2 k=>∃es i,d1=.lst es/\d2=.int i/\0<=i/\i<1000/\es.length*i.toNat<=sizeLine/\k (.lst (replicate i.toNat es).flatten)
@[simp] theorem xk2{es i k}:zY1 (.lst es) (.int i) k↔(0<=i/\i<1000/\es.length*i.toNat<=sizeLine/\k (.lst (replicate i.toNat es).flatten)):=⟨fun⟨_,_,e,e',h⟩=>by cases e;cases e';exact h,λh=>⟨_,_,rfl,rfl,h⟩⟩
def zT9(es:List D)(k:List D->Prop):Prop:=∃fs,(es=[.lst fs]\/es=[.tup fs])/\k fs
@[simp] theorem xr8{fs:List D}{k}:zT9 [.lst fs] k↔k fs:=⟨fun⟨_,e,h⟩=>by rcases e with e |e<;>cases e;exact h,λh=>⟨_,.inl rfl,h⟩⟩
@[simp] theorem xr7{fs:List D}{k}:zT9 [.tup fs] k↔k fs:=⟨fun⟨_,e,h⟩=>by rcases e with e |e<;>cases e;exact h,λh=>⟨_,.inr rfl,h⟩⟩
def zX1(i:Nat)(t:TAD):TSD:=λF rho n=>i<rho.length/\t rho n λes n1=>zT9 es λfs=>F.nx (rho.set i (some (.own fs))) n1
@[simp] theorem xk0{i t F rho n}:zX1 i t F rho n=(i<rho.length/\t rho n λes n1=>zT9 es λfs=>F.nx (rho.set i (some (.own fs))) n1):=rfl
end
mutual
def zV4:D->PyData
 |.bl b=>.bool b
 |.int i=>.int i
 |.str x=>.str x
 |.tup ds=>.tuple (zf7 ds)
 |.lst ds=>.list (zf7 ds)
 |_=>.none
def zf7:List D->List PyData
 |[]=>[]
 |d::ds=>zV4 d::zf7 ds
end
mutual
def okR:D->Nat->Bool
 |.non,_=>true
 |.bl _,_=>true
 |.int i,_=>decide (i.natAbs.log2<1920)
 |.str x,_=>decide ((reprText x).length<=2000)
 |.tup ds,k=>match k with
  |0=>false
  |k+1=>xz1 ds k
 |.lst ds,k=>match k with
  |0=>false
  |k+1=>xz1 ds k
 |_,_=>false
def xz1:List D->Nat->Bool
 |[],_=>true
 |d::ds,k=>okR d k&&xz1 ds k
end
mutual
def zU4:D->Nat
 |.tup ds=>zP8 ds+1
 |.lst ds=>zP8 ds+1
 |_=>1
def zP8:List D->Nat
 |[]=>0
 |d::ds=>zU4 d+zP8 ds
end
def zg9(d:D):Str:=(zV4 d).shown
section
variable {X:Cx}{pins:List (Addr × Obj)}{σ:St}{H:Hp}{s:Shared}{G:Option Addr}{Z:Addr->Prop}
end
def xz7:List D->(D->Prop)->Prop:=λes k=>∃d,es=[d]/\xg0 d=true/\okR d 15=true/\zU4 d<=8000/\k (.str (zg9 d))
@[simp] theorem xv4{d k}:xz7 [d] k↔(xg0 d=true/\okR d 15=true/\zU4 d<=8000/\k (.str (zg9 d))):=⟨fun⟨_,e,h⟩=>by cases e;exact h,λh=>⟨_,rfl,h⟩⟩
end L2
namespace L2
def zv8(es:List D)(e d:D)(k:List D->Prop):Prop:=∃j m,e=.int j/\ixN es.length j=some m/\k (es.set m d)
def zw2(i:Nat)(ta:TAD)(tb1 tb2:TD):TSD:=λF rho n=>Za rho[i]? λes=>ta rho n λcs n1=>zb2 cs λd1 d2=>tb1 rho n1 λe1 n2=>zv8 es e1 d1 λes1=>
 tb2 (rho.set i (some (.own es1))) n2 λe2 n3=>zv8 es1 e2 d2 λes2=>F.nx (rho.set i (some (.own es2))) n3
@[simp] theorem zU1{i ta tb1 tb2 F rho n}:zw2 i ta tb1 tb2 F rho n=Za rho[i]? λes=>ta rho n λcs n1=>zb2 cs λd1 d2=>tb1 rho n1 λe1 n2=>zv8 es e1 d1 λes1=>
 tb2 (rho.set i (some (.own es1))) n2 λe2 n3=>zv8 es1 e2 d2 λes2=>F.nx (rho.set i (some (.own es2))) n3:=rfl
section
variable {A:AC}{X:Cx}{a1 a2 b1 b2:Expr}{ta:TAD}{tb1 tb2:TD}{pos:Pos}
end
end L2
namespace PySem
open PySem.Sem (wp)
namespace F
end F
section
variable {prog:Program}{w:World}{K:Type} [DecidableEq K] {knd:KeyKind prog w K}{A:Around}{R:Result->Shared->Prop}
end
section
variable {prog:Program}{w:World}{K:Type} [DecidableEq K] {knd:KeyKind prog w K}{A:Around}{E:Value->Shared->Prop}{s:Shared}
end
end PySem
namespace L2
section
variable {X:Cx}{A:AC}
end
end L2
namespace L2
open PySem PySem.Spec PyProof.Rows PySem.SeqAt
section
variable {A:AC}{X:Cx}
def zV2(d:D)(k:List (List D)->Prop):Prop:=∃ess:List (List D),d=.tup (ess.map D.tup)/\k ess
def xq5:RD2:=λd1 d2 k=>d1=.tup []/\zV2 d2 λess=>k (.bl (ess.any List.isEmpty))
@[simp] theorem xk5{a b k}:xq5 (.tup []) (.tup [.tup a,.tup b]) k ↔ k (.bl (a.isEmpty || b.isEmpty)):=by
 constructor
 ·rintro ⟨_, ess, e, h⟩
  have:ess=[a,b]:=by
   have e':=D.tup.inj e
   match ess,e' with
   |[x,y],e'=>simp at e';rw[e'.1,e'.2]
   |[],e'=>simp at e'
   |[x],e'=>simp at e'
   |x::y::z::r,e'=>simp at e'
  subst this
  simpa using h
 ·intro h
  exact⟨rfl,[a,b],rfl,by simpa using h⟩
def zN6{pos:Pos}:PE X (.Dict [] [] pos) (λ_ H Q=>∀p,H p=none->Q (.ref p) (upd H p (.dK []))):=λpins s σ H Q I h=>
 wpAny_Dict_empty ⟨.ref s.heap.objs.size,_,I.laid (a:=s.heap.objs.size) (o:=.dK []) (t':=s.toks) (λ_ _ q=>ze _ q) (zo _) (xh7 s.heap (xi4 I)),rfl,h _ (I.hok.fresh (zo _))⟩
def zO1{pos:Pos}:PD A X (.Dict [] [] pos) (dC (.dct [] [])):=by
 exists zN6.imp λsg H Q h=>by
   obtain⟨rho,n,P,ds,vs,⟨os,I⟩,q,hQ⟩:=h;exact λp hp=>hQ _ _ n _ ⟨os,I.newDct (ks:=[]) (es:=[]) (xs:=[]) .nil hp⟩ q
end
mutual
def okN:D->Nat->Bool
 |.non,_=>true
 |.int i,_=>decide (i.natAbs.log2<20)
 |.tup ds,k=>match k with
  |0=>false
  |k+1=>xH5 ds k
 |_,_=>false
def xH5:List D->Nat->Bool
 |[],_=>true
 |d::ds,k=>okN d k&&xH5 ds k
end
def xz6:List D->(D->Prop)->Prop:=λes k=>∃ds,es=[.tup ds]/\okN (.tup ds) 20=true/\zU4 (.tup ds)<=400000/\k (.str (zg9 (.tup ds)))
@[simp] theorem xv3{ds k}:xz6 [.tup ds] k↔(okN (.tup ds) 20=true/\zU4 (.tup ds)<=400000/\k (.str (zg9 (.tup ds)))):=⟨fun⟨_,e,h⟩=>by cases e;exact h,λh=>⟨_,rfl,h⟩⟩
end L2
namespace L2
section
variable {A:AC}
def xA1:List D->(D->Prop)->Prop:=λes k=>∃i:Int,es=[.int i]/\k (.bl (i != 0))
@[simp] theorem xw3{i:Int}{k}:xA1 [.int i] k↔k (.bl (i != 0)):=⟨fun⟨_,e,h⟩=>by cases e;exact h,λh=>⟨_,rfl,h⟩⟩
end
section
variable {A:AC}{X:Cx}{pos:Pos}{m:Nat}
def xA5(k:Nat)(gs:zE8):TGD:=λd rho P=>∃es,d=.lst es/\es.length=k/\gs es rho P
@[simp] theorem xx0{k gs es rho P}:xA5 k gs (.lst es) rho P↔(es.length=k/\gs es rho P):=⟨fun⟨_,e,h⟩=>by cases e;exact h,λh=>⟨_,rfl,h⟩⟩
end
section
variable {A:AC}{X:Cx}
def zK9:D->Str
 |.non => "None"
 |d=>zg9 d
def xz2(d:D):Prop:=d=.non\/(xg0 d=true/\okR d 20=true/\zU4 d<=8000)
def xe9:List D->(D->Prop)->Prop:=λes k=>∃d,es=[d]/\xz2 d/\k (.str (zK9 d))
@[simp] theorem xl7{d k}:xe9 [d] k↔(xz2 d/\k (.str (zK9 d))):=⟨fun⟨_,e,h⟩=>by cases e;exact h,λh=>⟨_,rfl,h⟩⟩
end
def lo{sc:Scope}{x:Str}(h:(match sc.names.lookup x with |some .local=>true |some .cell=>true |_=>false)=true):Loc sc x:=by
 unfold Loc
 split at h
 ·exact .inl (by assumption)
 ·exact .inr (by assumption)
 ·cases h
end L2
namespace L2
open PySem PySem.Spec PyProof.Rows PySem.SeqAt
section
variable {A:AC}{X:Cx}
def zw8:RD2:=λd1 d2 k=>d1=.non/\∃ess:List (List D),d2=.lst (ess.map D.lst)/\k (.bl false)
@[simp] theorem xk9{a b k}:zw8 .non (.lst [.lst a,.lst b]) k↔k (.bl false):=⟨fun⟨_,_,_,h⟩=>h,λh=>⟨rfl,[a,b],rfl,h⟩⟩
def xz9:List D->(D->Prop)->Prop:=λes k=>∃ks ds,es=[.dct ks ds]/\ks.length=ds.length/\k (.int (ks.length:Int))
@[simp] theorem xw0{ks ds k}:xz9 [.dct ks ds] k↔(ks.length=ds.length/\k (.int (ks.length:Int))):=⟨fun⟨_,_,e,h⟩=>by cases e;exact h,λh=>⟨_,_,rfl,h⟩⟩
def xB1(te:TD):TD:=λrho n P=>te rho n λd n1=>∃x:Int,d=.int x/\P (.int ((Builtin.Int.intBits x:Nat):Int)) n1
@[simp] theorem xx7{te:TD}{rho:Rho}{n:Nat}{P:D->Nat->Prop}:xB1 te rho n P=te rho n λd n1=>∃x:Int,d=.int x/\P (.int ((Builtin.Int.intBits x:Nat):Int)) n1:=rfl
def xf6:List D->(D->Prop)->Prop:=λes k=>∃j:Int,es=[.int j]/\0<=j/\j<=1000/\k (.lst ((List.range j.toNat).map λi:Nat=>D.int (i:Int)))
@[simp] theorem xm0{j:Int}{k:D->Prop}:xf6 [.int j] k↔(0<=j/\j<=1000/\k (.lst ((List.range j.toNat).map λi:Nat=>D.int (i:Int)))):=⟨fun⟨_,e,h⟩=>by cases e;exact h,λh=>⟨_,rfl,h⟩⟩
end
end L2
namespace L2
structure LamScope(N:List Str)(p:Str)(scope:Scope)(cl:List (Str × Addr)):Prop where
 kind:scope.kind=.function
 co:scope.isCoroutine=false
 gen:scope.isGenerator=false
 nocell:∀x∈scope.names,x.2≠.cell
 head:N[0]?=some p
 par:scope.names.lookup p=some .local
 free:∀x,scope.names.lookup x=some .free->∃c,cl.lookup x=some c
 rest:∀i x,N[i+1]?=some x->scope.names.lookup x=some .free
def zc8(X:Cx)(A:Around)(N:List Str)(qual:Str)(scope:Scope)(f c':Addr)(cl:List (Str × Addr))(s:Shared)(H:Hp):Cx where
 prog:=X.prog
 w:=X.w
 K:=X.K
 mg:=X.mg
 base:=X.base
 A:=A.deeper (W.envX qual scope s.heap.objs.size f (.ref c') cl)
 N:=N
 s₀:=s
 H₀:=H
 env:=W.envX qual scope s.heap.objs.size f (.ref c') cl
 outer:=X.stack
 stack:=W.envX qual scope s.heap.objs.size f (.ref c') cl::X.stack
 ex:=[]
 fn:=λ_=>false
 calm:=true
 pn:=[]
 xe:=λ_ _=>False
section
variable {X:Cx}{pins:List (Addr × Obj)}{σ:St}{H:Hp}{s:Shared}{A:Around}{f c':Addr}{qual p:Str}{params:Arguments}{body:Expr}{scope:Scope}{cl:List (Str × Addr)}{pm ctv:Value}{N:List Str}{v:V}{u:Value}{cv:List V}
def zQ8{h1:Heap}{tk:Nat}(I:Inv X pins σ H s)(hA:A.frames=some X.stack)(hh:A.handled=none)(S:LamScope N p scope cl)(hN:N.length=cv.length+1)(r:RelV v u)
  (sub:∀x c,cl.lookup x=some c->X.env.cells.lookup x=some c)
  (cap:∀i x y,N[i+1]?=some x->cv[i]?=some y->∃c,cl.lookup x=some c/\∃u,RelV y u/\s.heap.IsCell c (some u))
  (hns:h1.Ns s.heap.objs.size (λy=>[(p,u)].reverse.lookup y)) (hk:∀b o,s.heap.get? b=some o->h1.get? b=some o) :
  Inv (zc8 X A N qual scope f c' cl s H) [] (some v::cv.map some) H { s with heap:=h1,toks:=tk }:=by
 have noA:∀b:Addr,b ∉ (zc8 X A N qual scope f c' cl s H).ex:=λb z=>absurd (show b∈([]:List Addr) from z) (by simp)
 refine⟨⟨I.mod,S.kind,rfl,rfl,zo _,λy z c h1 h2=>?_,λy hy=>?_,λy c z _=>?_,λ_=>hh,Around.frames_deeper hA,.inr ⟨rfl,rfl⟩,λb z=>absurd z (noA b),I.bs,zB I.ok.bsz I.sz,λb _ _=>noA b,λb z=>absurd z (noA b),I.stack,I.stkFree⟩,
  rfl,I.bare,Un.kept hk,⟨_,hns,λi y z e1 e2 e3=>?_⟩,λy c h=>?_,I.hok.fresh (zo _),λy c h=>I.freeC y c (sub y c h),λp hp=>absurd (show p∈([]:List (Addr × Obj)) from hp) (by simp),I.hok.kept hk,?_⟩
 ·exact I.ok.inj y z c (sub y c h1) (sub z c h2)
 ·have hy : scope.names.lookup y = some .cell \/ scope.names.lookup y = some .free := hy
  rcases hy with hy |hy
  ·exact absurd rfl (S.nocell _ (PySem.mem_of_lookup hy))
  ·exact S.free y hy
 ·cases(show false=true from z)
 ·cases i with
  |zero=>
   have e4:y=p:=by have:=e1.symm.trans S.head;exact zF this
   subst e4
   have e5:v=z:=by simpa using e2
   subst e5;refine⟨u,r,.inl ⟨S.par,?_⟩⟩;simp
  | succ i =>
   have e4:cv[i]?=some z:=by
    have:(cv.map some)[i]?=some (some z):=by simpa using e2
    rw[zt] at this
    cases q:cv[i]? with
    |none=>rw[q] at this;cases this
    |some a=>rw[q] at this;cases this;rfl
   obtain⟨c,e5,u',r',o,ho,hd⟩:=cap i y z e1 e4;exact⟨u',r',.inr ⟨.inr (S.rest i y e1),c,e5,o,hk _ _ ho,hd⟩⟩
 ·obtain⟨w',o,ho,hd⟩:=I.cell y c (sub y c h);exact⟨w',o,hk _ _ ho,hd⟩
 ·show(some v::cv.map some).length=N.length;rw[zK,zg,hN]
def zQ7{t:TE}{Q:VK}{E:Value->Shared->Prop}(I:Inv X pins σ H s)(hf:s.heap.get? f=some (W.kla_obj "<lambda>" qual params body scope cl pm c' ctv))(hcr:s.heap.CodeRec (.ref c') qual)
  (hA:A.frames=some X.stack) (hroom:A.depth<recursionLimit) (hh:A.handled=none) (S:LamScope N p scope cl) (hN:N.length=cv.length+1)
  (hb:bindArgs (W.kla_fn "<lambda>" qual params body scope cl pm (.ref c') ctv) ⟨[u],[]⟩=pure [(p,u)]) (r:RelV v u)
  (sub:∀x c,cl.lookup x=some c->X.env.cells.lookup x=some c)
  (cap:∀i x y,N[i+1]?=some x->cv[i]?=some y->∃c,cl.lookup x=some c/\∃u,RelV y u/\s.heap.IsCell c (some u))
  (hbody:PE (zc8 X A N qual scope f c' cl s H) body t) (ht:t (some v::cv.map some) H Q) :
  wpAny (model X.prog X.w) A (call (.ref f) [u]) (EP X pins σ λv H'=>Q v H'/\∀b o w,H b=some (.frz o w)->H' b=some (.frz o w)) E s:=by
 refine wpAny_call (codeAny_mono (R:=λr s'=>match r with |.ok (.ret u)=>CE X.stack X.prog X.w H s (λv H'=>Q v H'/\∀b o w,H b=some (.frz o w)->H' b=some (.frz o w)) u s' |_=>False) ?_ λr s' hq=>?_)
 ·refine W.kla_callFunE hroom hf rfl S.co S.gen rfl hcr ?_;rw[hb];refine zf (wpAny_newFunctionEnv S.nocell (λy hy=>?_) (λh1 hns hsb=>?_) S.kind)
  ·have : y = (p, u) := by simpa using hy
   rw[this];exact S.par
  ·have hk:∀b o,s.heap.get? b=some o->h1.get? b=some o:=λb o e=>hsb.extBut b o (zA (zp e)) (ze _ e);refine⟨I.nolimit.keeps hk,?_⟩;show codeAny _ _ (.expr body (W.envX qual scope s.heap.objs.size f (.ref c') cl)) _ _;have I2:Inv (zc8 X A N qual scope f c' cl s H) [] (some v::cv.map some) H { s with heap:=h1,toks:=s.toks+[(p,u)].length }:=zQ8 I hA hh S hN r sub cap hns hk;refine W.kla_codeExpr (wE (hbody [] _ _ H Q I2 ht) (λu' s' h=>?_) λ_ _ z=>z.elim);obtain⟨v',H',J,rv,q⟩:=h;exact⟨v',H',J.os,J.bare,J.base,J.hok,rv,q,J.base.frzs⟩
 ·cases r with
  |error e=>exact False.elim hq
  |ok fl=>
   cases fl with
   |ret u=>exact I.after hq
   |next=>exact False.elim hq
   |brk=>exact False.elim hq
   |cont=>exact False.elim hq
end
def Ur(sp:V->Hp->VK->Prop):List V->Hp->(List V->Hp->Prop)->Prop
 |[],H,Q=>Q [] H
 |v::vs,H,Q=>sp v H λk H'=>Ur sp vs H' λks H''=>Q (k::ks) H''
section
variable {X:Cx}{pins:List (Addr × Obj)}{σ:St}{H:Hp}{s:Shared}
def Inv.pin1{a:Addr}{o:Obj}(I:Inv X pins σ H s)(hf:FpOk X pins H a)(ho:s.heap.get? a=some o)(hc:∀v,o.data≠.cell v):Inv X ((a,o)::pins) σ H s:=by
 refine⟨I.ok,I.os,I.bare,I.base,I.loc,I.cell,I.free,I.freeC,λp hp=>?_,I.hok,I.len⟩
 rcases zW.mp hp with hp |hp
 ·exact I.pin p (xj _ hp)
 ·rcases zi.mp hp with rfl | hp
  ·exact⟨ho,hf.1,hf.2.1,hf.2.2.1,hc⟩
  ·exact I.pin p (zr _ hp)
def Inv.unpin{q:Addr × Obj}(I:Inv X (q::pins) σ H s):Inv X pins σ H s:=
 ⟨I.ok,I.os,I.bare,I.base,I.loc,I.cell,I.free,I.freeC,λp hp=>I.pin p (by
  rcases zW.mp hp with hp |hp
  ·exact xj _ hp
  ·exact zr _ (zm _ hp)),I.hok,I.len⟩
def FpOk.reH{b:Addr}{H':Hp}(h:FpOk X pins H b)(hn:H' b=none):FpOk X pins H' b:=⟨hn,h.2⟩
def FpOk.more{b:Addr}{q:Addr × Obj}(h:FpOk X pins H b)(hq:q.1≠b):FpOk X (q::pins) H b:=
 ⟨h.1,h.2.1,h.2.2.1,h.2.2.2.1,h.2.2.2.2.1,λp hp=>by
  rcases zW.mp hp with hp |hp
  ·exact h.2.2.2.2.2 p (xj _ hp)
  ·rcases zi.mp hp with rfl | hp
   ·exact hq
   ·exact h.2.2.2.2.2 p (zr _ hp)⟩
def Inv.pinAt{q:Addr × Obj}(I:Inv X pins σ H s)(h:q∈pins):s.heap.get? q.1=some q.2/\H q.1=none:=
 let z:=I.pin q (zr _ h);⟨z.1,z.2.1⟩
def UD(ks vs:List Value)(h:ks.length=vs.length):ks.toArray.zip vs.toArray=(Array.range vs.length).map λi=>(ks.getD i .none,vs.getD i .none):=by
 refine Array.ext_getElem? λk=>?_;rw[yo]
 by_cases hk:k<vs.length
 ·have e1 : (Array.range vs.length)[k]? = some k := by rw [Array.getElem?_range, if_pos hk]
  have hk':k<ks.length:=w5
  rw[e1]
  have e2:(ks.toArray.zip vs.toArray)[k]?=some (ks[k],vs[k]):=by
   rw[xS (by simp;lia)]
   simp
  rw[e2];simp[zL,hk,hk']
 ·rw [wI (by simp; lia), wI (by simp; lia)]
  rfl
def vS(X:Cx)(ys:List V)(Q:VK)(ks:List V)(H:Hp):Prop:=∃(fl:Bool) (r:Nat->Nat->Bool),ks.length=ys.length /\
 (∀a b,a<ys.length->b<ys.length->a≠b->r a b=!r b a)/\(∀a b c,a<ys.length->b<ys.length->c<ys.length->r a b=true->r b c=true->r a c=true) /\
 (∀a,a<ys.length->xI7 X H fl (ks.getD a .non))/\(∀a b,a<ys.length->b<ys.length->a≠b->xJ0 X H fl (ks.getD a .non) (ks.getD b .non) (r a b)) /\
 ∀ls:Array Nat,ls.Perm (Array.range ys.length)->Srt.Up r ls ys.length->∀l,H l=none->Q (.ref l) (upd H l (.lst (ls.toList.map λi=>ys.getD i .non)))
variable {A:Around}{E:Value->Shared->Prop}{a kS:Addr}{vs:List Value}{ys ks:List V}{kA:Array Value}{e e1:Nat}{Q:VK}
def zC0{st:SortSt}{ls:Array Nat}(I:Inv X pins σ H s)(hk:s.heap.get? kS=some (seqObj "list" kA e))(ha:s.heap.get? a=some (seqObj "list" #[] e1))(fk:FpOk X pins H kS)(fa:FpOk X pins H a)(hka:kS≠a)(hz0:X.s₀.heap.objs.size<=a)(hz:kA.size<=64)
  (rv:Vals ys vs) (h64:ys.length<64) (h1:arrOf st=ls.map λi=>(kA.toList.getD i .none,vs.getD i .none)) (h2:failedOf st=none) (h3:ls.Perm (Array.range ys.length)) (q:Q (.ref a) (upd H a (.lst (ls.toList.map λi=>ys.getD i .non)))) :
  wpAny (model X.prog X.w) A (ksk_tail a false e1 (.ref kS) st) (λr s'=>r=.done (.ret .none)/\∃H4,Inv X pins σ H4 s'/\Q (.ref a) H4) E s:=by
 have len:=rv.length
 have hsz:ls.size=ys.length:=by rw[h3.size_eq,yO]
 have hls:∀i∈ls.toList,i<ys.length:=λi hi=>by
  have:=(h3.mem_iff).mp (Array.mem_toList_iff.mp hi)
  rwa [Array.mem_range] at this
 have s1:=Heap.SameBut.update s.heap kS (Obj.mapSeq λ_=>(#[]:Array Value));have na1:(s.heap.update kS (Obj.mapSeq λ_=>(#[]:Array Value))).get? a=some (seqObj "list" #[] e1):=(s1.2 a hka.symm).trans ha
 have ea:(arrOf st).map (·.2)=ls.map λi=>vs.getD i .none:=by rw[h1,Array.map_map];rfl
 have es:((arrOf st).map (·.2)).size<=64:=by rw[ea,Array.size_map,hsz];lia
 unfold ksk_tail;dsimp only
 refine zb (listUpdate_at hk rfl ?_ (by rw[sizeLine_eq];lia) (wa _))
 refine zb (yq ?_);refine zb (seqEpoch_at na1 rfl ?_);simp only[zU,if_false]
 refine zb (listUpdate_at na1 rfl ?_ (wa _) (zB es (by rw[sizeLine_eq];lia)))
 rw[h2];simp only[bne_self_eq_false,zU,if_false];rw[ea];have s2:=Heap.SameBut.update (s.heap.update kS (Obj.mapSeq λ_=>(#[]:Array Value))) a (Obj.mapSeq λ_=>ls.map λi=>vs.getD i .none)
 obtain⟨c2,hc2⟩:∃c2,((s.heap.update kS (Obj.mapSeq λ_=>(#[]:Array Value))).update a (Obj.mapSeq λ_=>ls.map λi=>vs.getD i .none)).get? a=some (seqObj "list" (ls.map λi=>vs.getD i .none) c2):=
  ⟨_,get?_update_seq na1 λ_=>ls.map λi=>vs.getD i .none⟩
 refine zf ⟨rfl,_,?_,q⟩
 have J:=I.turnedL (t':=s.toks) (h':=(s.heap.update kS (Obj.mapSeq λ_=>(#[]:Array Value))).update a (Obj.mapSeq λ_=>ls.map λi=>vs.getD i .none)) (ch:=[kS,a]) (λb o hb z=>by
  have n1:b≠kS:=λz=>hb (by simp[z])
  have n2:b≠a:=λz=>hb (by simp[z])
  exact(s2.2 b n2).trans ((s1.2 b n1).trans z)) (λb hb=>by
  rcases zi.mp hb with rfl |hb
  ·exact fk
  ·rw[zG.mp hb];exact fa)
 refine J.track fa.1 hz0 fa.2.1 fa.2.2.2.2.1 fa.2.2.2.2.2 ⟨?_,(ls.toList.map λi=>vs.getD i .none),c2,YU rv hls,?_⟩
 ·rw [zg, xX, hsz]
  exact zB (yB h64) w6
 ·have ee : (ls.toList.map λi => vs.getD i .none).toArray = ls.map λi => vs.getD i .none := by rw [<- Array.toList_map, yD]
  rw[ee];exact hc2
def zR1(I:Inv X pins σ H s)(hk:s.heap.get? kS=some (seqObj "list" kA e))(ha:s.heap.get? a=some (seqObj "list" #[] e1))(fk:FpOk X pins H kS)(fa:FpOk X pins H a)(hka:kS≠a)(hz0:X.s₀.heap.objs.size<=a)
  (rv:Vals ys vs) (h64:ys.length<64) (rk:Vals ks kA.toList) (un:A.units+60<cLine) (fin:vS X ys Q ks H) :
  wpAny (model X.prog X.w) A (ksk_end a false vs.toArray e1 (.ref kS) kA) (λr s'=>r=.done (.ret .none)/\∃H4,Inv X pins σ H4 s'/\Q (.ref a) H4) E s:=by
 classical
 obtain⟨f,rr,hlen,tot,tr,row,cmp,q⟩:=fin;have len:=rv.length;have lenk:=rk.length
 have hz:kA.size<=64:=by rw[<- xX];lia
 have ezip:kA.zip vs.toArray=(Array.range vs.length).map λi=>(kA.toList.getD i .none,vs.getD i .none):=by
  have:=UD kA.toList vs w5
  rwa [yD] at this
 have fin2:∀(t:SortSt) (ls:Array Nat),arrOf t=ls.map (λi=>(kA.toList.getD i .none,vs.getD i .none))->failedOf t=none->ls.Perm (Array.range vs.length)->Srt.Up rr ls vs.length ->
   wpAny (model X.prog X.w) A (ksk_tail a false e1 (.ref kS) t) (λr s'=>r=.done (.ret .none)/\∃H4,Inv X pins σ H4 s'/\Q (.ref a) H4) E s:=λt ls a1 a2 a3 a4=>by
  rw[<- len] at a3 a4;exact zC0 I hk ha fk fa hka hz0 hz rv h64 a1 a2 a3 (q ls a3 a4 a fa.1)
 unfold ksk_end;dsimp only;simp only[zU,if_false]
 by_cases c:vs.toArray.size<2
 ·rw [if_pos c, if_pos c];refine zb (zf ?_);rw[StateT.run_pure];refine zb (zf (fin2 _ (Array.range vs.length) ezip rfl (Array.Perm.refl _) λi j hij hj=>?_))
  have:vs.length<2:=by simpa using c
  lia
 ·rw [if_neg c, if_neg c]
  have c2:2<=vs.length:=by simpa using c
  have ixd:∀v∈kA.toList,∃i,i<ys.length/\v=kA.toList.getD i .none:=λv hv=>by
   obtain⟨i,hi,e⟩:=List.getElem_of_mem hv
   exact⟨i,w5,by rw[zL,zd hi,e];rfl⟩
  have each:∀v∈kA.toList,∃p rest,Srt.Tup s.heap v p rest/\s.TypeIs p (if f then "int" else "tuple"):=λv hv=>by
   obtain⟨i,hi,rfl⟩:=ixd v hv
   exact row i hi pins _ σ _ I (rk.getD w5)
  have ek:kA=kA.toList.toArray:=by rw[yD]
  have kind:∀(E:Value->Shared->Prop) (Q:SortKind->Shared->Prop),Q (tuples' f) s->wpAny (model X.prog X.w) A (keyKind' kA) Q E s:=λE Q q=>by
   rw[ek]
   refine Srt.XE (s:=s) (T:=if f then "int" else "tuple") (fst:=λv=>if h:∃p rest,Srt.Tup s.heap v p rest/\s.TypeIs p (if f then "int" else "tuple") then h.choose else v) w5 (λv hv=>?_) (λv hv=>?_) ?_
   ·have e := each v hv;obtain⟨rest,t,_⟩:=e.choose_spec
    exact⟨rest,by rw[dif_pos e];exact t⟩
   ·have e := each v hv;obtain⟨rest,_,t⟩:=e.choose_spec
    show Shared.TypeIs _ (if h:_ then _ else _) _
    rw[dif_pos e];exact t
   ·cases f
    ·exact q
    ·exact q
  refine zb (kind _ _ ?_)
  have hR:Srt.Rule X.prog X.w A s vs.length (λi=>(kA.toList.getD i .none,vs.getD i .none)) (tuples' f) rr:=by
   refine⟨λa b ha hb=>tot a b w5 w5,λa b c ha hb hc=>tr a b c w5 w5 w5,λa b ha hb hab E Q q=>?_⟩
   obtain⟨p1,ps,p2,qs,t1,t2,L⟩:=cmp a b w5 w5 hab pins _ σ _ _ I (rk.getD w5) (rk.getD w5) A un
   exact Srt.Kb t1 t2 L q
  have N0:Srt.Now vs.length (λi=>(kA.toList.getD i .none,vs.getD i .none)) (tuples' f) (Array.range vs.length) (SortSt.mk' (tuples' f) (kA.zip vs.toArray) #[] 7 none):=⟨ezip,rfl,rfl,rfl,Array.Perm.refl _⟩
  refine zb (wE (Srt.all hR N0 c2 w5 (Q:=λ_ t=>∃ls:Array Nat,arrOf t=ls.map (λi=>(kA.toList.getD i .none,vs.getD i .none))/\failedOf t=none/\ls.Perm (Array.range vs.length)/\Srt.Up rr ls vs.length) λls t a1 a2 a3 a4=>⟨ls,a1,a2,a3,a4⟩) ?_ λ_ _ e=>e)
  rintro⟨_,t⟩ s' ⟨rfl,ls,a1,a2,a3,a4⟩;exact fin2 t ls a1 a2 a3 a4
def zC2{f:Value}{sp:V->Hp->VK->Prop}{Ok:Hp->Prop}(I:Inv X pins σ H s)(hk:s.heap.get? kS=some (seqObj "list" #[] 0))(ha:s.heap.get? a=some (seqObj "list" #[] e1))(fk:FpOk X pins H kS)(fa:FpOk X pins H a)(hka:kS≠a)(hz0:X.s₀.heap.objs.size<=a)
  (rv:Vals ys vs) (h64:ys.length<64) (un:A.units+60<cLine) (ok:Ok H)
  (turn:∀(pins':List (Addr × Obj)) (s':Shared) (H':Hp) (y:V) (v:Value) (Q:VK),(∀p∈pins,p∈pins')->Inv X pins' σ H' s'->Ok H'->RelV y v->sp y H' Q->wpAny (model X.prog X.w) A (call f [v]) (EP X pins' σ λk H2=>Q k H2/\Ok H2) (λ_ _=>False) s')
  (fin:Ur sp ys H (vS X ys Q)) :
  wpAny (model X.prog X.w) A (ksk_rest a f false vs.toArray e1 (.ref kS)) (λr s'=>r=.done (.ret .none)/\∃H4,Inv X pins σ H4 s'/\Q (.ref a) H4) E s:=by
 have len:=rv.length;have fk':FpOk X ((a,seqObj "list" #[] e1)::pins) H kS:=fk.more (Ne.symm hka)
 have nc:∀(xs:Array Value) (n:Nat) (v:Option Value),(seqObj "list" xs n).data≠.cell v:=λ_ _ _ z=>by cases z
 unfold ksk_rest;refine zb (yT ?_)
 first
  |rw[List.forIn_toArray]
  |(rw[<- Array.forIn_toList];simp only[List.toList_toArray])
  |rw[<- Array.forIn_toList]
 refine zb (ksk_fold (λi s'=>∃H' kA e ks,Inv X ((kS,seqObj "list" kA e)::(a,seqObj "list" #[] e1)::pins) σ H' s'/\Ok H'/\Vals ks kA.toList/\ks.length=i/\Ur sp (ys.drop i) H' λrest H3=>vS X ys Q (ks++rest) H3) vs 0 s
  ⟨H,#[],0,[],(I.pin1 fa ha (nc _ _)).pin1 fk' hk (nc _ _),ok,.nil,rfl,by simpa using fin⟩ ?step ?done)
 case step=>
  rintro j x s' hx ⟨H',kA,e,ks,I',ok',rk,lk,tk⟩;simp only[Nat.zero_add] at lk tk ⊢;have hj:j<vs.length:=(zn.mp hx).1
  have hj':j<ys.length:=w5
  have ey:ys[j]?=some ys[j]:=zd hj';obtain⟨u,eu,ry⟩:=rv.get ey;have exu:u=x:=zF (eu.symm.trans hx);subst exu;rw[List.drop_eq_getElem_cons hj'] at tk
  have hzk:kA.size<=64:=by rw[<- xX,<- rk.length];lia
  refine zb (wpAny_attempt (wE (turn _ s' H' ys[j] u _ (λp hp=>zm _ (zm _ hp)) I' ok' ry tk) (λv s'' he=>?_) λ_ _ hF=>hF.elim));obtain⟨k,H2,I2,rk2,tk2,ok2⟩:=he
  try dsimp only
  have nk:=I2.pinAt (q:=(kS,seqObj "list" kA e)) (.head _);have na:=I2.pinAt (q:=(a,seqObj "list" #[] e1)) (.tail _ (.head _));have s1:=Heap.SameBut.update s''.heap kS (Obj.mapSeq (·.push v));obtain⟨c2,hc2⟩:∃c2,(s''.heap.update kS (Obj.mapSeq (·.push v))).get? kS=some (seqObj "list" (kA.push v) c2):=⟨_,get?_update_seq nk.1 (·.push v)⟩
  have ea:(kA.push v).toList=kA.toList++[v]:=by simp
  refine zb (listUpdate_at nk.1 rfl ?_ (by rw[sizeLine_eq];lia) (zB (Nat.le_of_eq (Array.size_push ..)) (by rw[sizeLine_eq];lia)))
  have f2:FpOk X ((a,seqObj "list" #[] e1)::pins) H2 kS:=fk'.reH nk.2;have I3:=I2.unpin.turned (t':=s''.toks) (h':=s''.heap.update kS (Obj.mapSeq (·.push v))) (it:=kS) (λb o hb z=>(s1.2 b hb).trans z) nk.2 f2.2.1 f2.2.2.2.1 f2.2.2.2.2.1 f2.2.2.2.2.2
  refine zf ⟨rfl,H2,kA.push v,c2,ks++[k],I3.pin1 f2 hc2 (nc _ _),ok2,by rw[ea];exact rk.append (.cons rk2 .nil),by rw[zI,lk];rfl,?_⟩
  have e9:(λrest H3=>vS X ys Q (ks++[k]++rest) H3)=λrest H3=>vS X ys Q (ks++k::rest) H3:=by funext rest H3;rw[yG];rfl
  rw[e9];exact tk2
 case done=>
  rintro s' ⟨H',kA,e,ks,I',ok',rk,lk,tk⟩;rw[Nat.zero_add,<- len,List.drop_length] at tk;have tk:vS X ys Q (ks++[]) H':=tk;rw[wB] at tk;have nk:=I'.pinAt (q:=(kS,seqObj "list" kA e)) (.head _);have na:=I'.pinAt (q:=(a,seqObj "list" #[] e1)) (.tail _ (.head _))
  try dsimp only
  refine zb (listItems_at nk.1 rfl ?_);exact zR1 I'.unpin.unpin nk.1 na.1 (fk.reH nk.2) (fa.reH na.2) hka hz0 rv h64 rk un tk
def zB9{f:Value}{sp:V->Hp->VK->Prop}{Ok:Hp->Prop}{n0:Nat}(I:Inv X pins σ H s)(ha:s.heap.get? a=some (seqObj "list" vs.toArray n0))(fa:FpOk X pins H a)(hz0:X.s₀.heap.objs.size<=a)
  (rv:Vals ys vs) (h64:ys.length<64) (un:A.units+60<cLine) (ok:Ok H)
  (turn:∀(pins':List (Addr × Obj)) (s':Shared) (H':Hp) (y:V) (v:Value) (Q:VK),(∀p∈pins,p∈pins')->Inv X pins' σ H' s'->Ok H'->RelV y v->sp y H' Q->wpAny (model X.prog X.w) A (call f [v]) (EP X pins' σ λk H2=>Q k H2/\Ok H2) (λ_ _=>False) s')
  (fin:Ur sp ys H (vS X ys Q)) :
  wpAny (model X.prog X.w) A (ksk_tree a f false) (λr s'=>r=.done (.ret .none)/\∃H4,Inv X pins σ H4 s'/\Q (.ref a) H4) E s:=by
 have len:=rv.length;have la:=zp ha;have s1:=Heap.SameBut.update s.heap a (Obj.mapSeq λ_=>(#[]:Array Value));obtain⟨e1,at1⟩:∃e1,(s.heap.update a (Obj.mapSeq λ_=>(#[]:Array Value))).get? a=some (seqObj "list" #[] e1):=⟨_,get?_update_seq ha λ_=>#[]⟩;have I1:=I.turned (t':=s.toks) (h':=s.heap.update a (Obj.mapSeq λ_=>(#[]:Array Value))) (it:=a) (λb o hb z=>(s1.2 b hb).trans z) fa.1 fa.2.1 fa.2.2.2.1 fa.2.2.2.2.1 fa.2.2.2.2.2;have keep:∀b o,(s.heap.update a (Obj.mapSeq λ_=>(#[]:Array Value))).get? b=some o->(((s.heap.update a (Obj.mapSeq λ_=>(#[]:Array Value))).push (seqObj "tuple" vs.toArray 0)).push (seqObj "list" #[] 0)).get? b=some o:=λb o z=>ze _ (ze _ z);have I2:=I1.kept (t':=s.toks) keep
 have hkS:((s.heap.update a (Obj.mapSeq λ_=>(#[]:Array Value))).push (seqObj "tuple" vs.toArray 0)).objs.size=s.heap.objs.size+1:=by rw[size_push',Heap.size_update]
 have hs0:(s.heap.update a (Obj.mapSeq λ_=>(#[]:Array Value))).objs.size<=((s.heap.update a (Obj.mapSeq λ_=>(#[]:Array Value))).push (seqObj "tuple" vs.toArray 0)).objs.size:=by rw[size_push'];lia
 unfold ksk_tree;refine zb (listItems_at ha rfl ?_)
 refine zb (listUpdate_at ha rfl ?_ (by rw[zw,sizeLine_eq];lia) (wa _))
 refine zb (seqEpoch_at at1 rfl ?_)
 refine zb (wpAny_newTuple ?_ (by show vs.length<=_;rw[sizeLine_eq];lia))
 refine zb (wpAny_newList ?_ (wa _));refine xF ?_
 exact zC2 (s:={ s with heap:=((s.heap.update a (Obj.mapSeq λ_=>(#[]:Array Value))).push (seqObj "tuple" vs.toArray 0)).push (seqObj "list" #[] 0) }) (kS:=((s.heap.update a (Obj.mapSeq λ_=>(#[]:Array Value))).push (seqObj "tuple" vs.toArray 0)).objs.size)
  I2 (zq _ rfl) (keep _ _ at1) (I1.fpOk hs0 (I1.hok.fresh hs0)) fa (by rw[hkS];exact xJ (xR la)) hz0 rv h64 un ok turn fin
end
def TabG.trip{φ:Addr->Prop}{l:List Value}(g:TabG φ l):TriplesOk l:=by
 induction g with
 |nil=>exact True.intro
 |cons _ _ ih=>exact ih
def TabG.among{φ:Addr->Prop}{pos:Pos}{l:List Value}(g:TabG φ l){v:Value}(e:codeAmong pos l=some v):∃c,v=.ref c/\φ c:=by
 induction g with
 |nil=>cases e
 |cons h _ ih=>
  unfold codeAmong at e
  split at e
  ·cases e;exact⟨_,rfl,h⟩
  ·exact ih e
def TabG.snoc{φ:Addr->Prop}{l:List Value}(g:TabG φ l){i j:Int}{t u:Tok}{c:Addr}(h:φ c):TabG φ (l++[.int i t,.int j u,.ref c]):=by
 induction g with
 |nil=>exact .cons h .nil
 |cons h' _ ih=>exact .cons h' ih
structure LamBase(base:Heap)(mg:Str->Option Value)(c P:Addr):Prop where
 hd:W.CodeHd base c P
 bm:∃bm ob,mg "__builtins__" = some (.ref bm)/\bm≠builtinsNs/\base.get? bm=some ob/\ob.cls=.type "module" /\ ob.dict=some builtinsNs/\ob.data=.plain
def OneMore(H H2:Hp):Prop:=H2=H\/∃c o,H c=none/\H2=upd H c o
def OneMore.keep{H H2:Hp}(h:OneMore H H2):∀b o,H b=some o->H2 b=some o:=λb o e=>by
 rcases h with rfl |⟨c,u,hn,rfl⟩
 ·exact e
 ·rw[xV (yc e hn)];exact e
section
variable {X:Cx}{pins:List (Addr × Obj)}{σ:St}{H:Hp}{s:Shared}{c P:Addr}{q p:Str}{params:Arguments}{body:Expr}{scope:Scope}{clos:List (Str × Addr)}{pos lpos:Pos}
def zB6{Q:Value->Shared->Prop}{E:Value->Shared->Prop}(I:Inv X pins σ H s)(hc:X.env.code=.ref c)(L:LamBase X.base X.mg c P)(hP:H P=some (.cot q))(hq:X.env.qual ++ "<lambda>" = q)
  (hcl:closureFor scope X.env=pure clos) (hdef:defaultsOf params X.env=([],[]))
  (h:∀(f c':Addr) (oc:Obj) (ctv:Value) (H2:Hp) (s2:Shared),OneMore H H2->Inv X ((f,W.kla_obj "<lambda>" q params body scope clos ((X.mg "__name__").getD .none) c' ctv)::pins) σ H2 s2->H2 c'=some (.frz oc (.own 0))->xj0 oc q->Q (.ref f) s2) :
  wpAny (model X.prog X.w) X.A (eval (.Lambda params body scope lpos) X.env) Q E s:=by
 refine W.kla_eval hdef ?_;rw[hq];obtain⟨ps,ho,g⟩:=I.hok P _ hP;obtain⟨bm,ob,b1,b2,b3,b4,b5,b6⟩:=L.bm
 have nb:∀b o,X.base.get? b=some o->b≠P:=λb o e z=>by
  have:=(I.bs b o e).2;rw[z,hP] at this;cases this
 have hgP:mainGlobals≠P:=by
  obtain⟨o,es,ep,e,_⟩:=I.mod.glob;exact nb _ _ e
 have hbG:bm≠mainGlobals:=λz=>by
  obtain⟨o,es,ep,e,hd,_⟩:=I.mod.glob;rw[z,e] at b3;cases b3;rw[hd] at b6;cases b6
 have hB:s.heap.BuiltinsAt X.mg P:=⟨bm,ob,b1,b2,hbG,nb _ _ b3,I.bk _ _ b3,b4,b5,b6⟩
 have nc:∀(c':Addr) (ctv:Value) (v:Option Value),(W.kla_obj "<lambda>" q params body scope clos ((X.mg "__name__").getD .none) c' ctv).data≠.cell v:=λ_ _ _ z=>by cases z
 cases hf:codeAmong lpos ps.toList with
 |some cv=>
  obtain⟨c',rfl,oc,e1,e2⟩:=g.among hf;refine W.kla_makeFunctionHit (mg:=X.mg) hcl I.ok.glob (I.mod.glob.keeps I.bk) hc (L.hd.keeps I.bk) ho g.trip hf hB λctv h' tk hk hsz=>?_;have I2:=I.kept (t':=tk) (h':=h'.push (W.kla_obj "<lambda>" q params body scope clos ((X.mg "__name__").getD .none) c' ctv)) λb o e=>ze _ (hk b o e);exact h _ c' oc ctv H _ (.inl rfl) (I2.pin1 (I.fpOk hsz (I.hok.fresh hsz)) (zq _ rfl) (nc _ _)) e1 e2
 | none =>
  refine W.kla_makeFunction (mg:=X.mg) hcl I.ok.glob (I.mod.glob.keeps I.bk) hc (L.hd.keeps I.bk) ho g.trip hf hgP hB λc' ctv h' tk hx hge hlt hrec htb=>?_;obtain⟨c2,oc,vs,t,ec,hoc,hd,hv⟩:=hrec;cases ec;have hn:H c'=none:=I.hok.fresh hge;have hsz:s.heap.objs.size<=h'.objs.size:=zB hge (yB hlt)
  have nP:∀b,H b=none->b≠P:=λb e z=>by rw[z,hP] at e;cases e
  have kp:∀b o,b≠P->s.heap.get? b=some o->(h'.push (W.kla_obj "<lambda>" q params body scope clos ((X.mg "__name__").getD .none) c' ctv)).get? b=some o:=λb o hb e=>ze _ (hx b o hb e);have cP:c'≠P:=nP c' hn
  have up:∀b u,H b=some u->upd H c' (.frz oc (.own 0)) b=some u:=λb u e=>by rw[xV (yc e hn)];exact e
  have U:Un X.fs [] H (upd H c' (.frz oc (.own 0))) s.heap (h'.push (W.kla_obj "<lambda>" q params body scope clos ((X.mg "__name__").getD .none) c' ctv)):=by
   refine⟨λb o e n _ _=>kp b o (nP b n) e,λb o e n _ _=>⟨o.slots,kp b o (nP b n) e⟩,λb o e n _=>?_,λb o e _=>?_,λb xs e=>up b _ e,λb o u e=>up b _ e,λb ps e=>⟨#[],by rw[up b _ e];simp⟩⟩
   ·rw[xV (zA (zQ (zp e) hge))];exact n
   ·by_cases hb : b = P
    ·exact⟨_,ze _ (hb ▸ htb)⟩
    ·exact⟨o,kp b o hb e⟩
  have hok:HOk X.prog X.w (upd H c' (.frz oc (.own 0))) (h'.push (W.kla_obj "<lambda>" q params body scope clos ((X.mg "__name__").getD .none) c' ctv)):=λb u e=>by
   by_cases hb:b=c'
   ·subst hb;rw[wZ] at e;cases e;exact⟨ze _ hoc,oc,ze _ hoc⟩
   ·rw [xV hb] at e
    by_cases hbP:b=P
    ·subst hbP;rw[hP] at e;cases e;refine⟨_,ze _ htb,?_⟩;rw[Array.toList_append];exact(g.imp λd ⟨oc,z,i⟩=>⟨oc,up _ _ z,i⟩).snoc ⟨oc,wZ,vs,t,hd,hv⟩
    ·refine (I.hok b u e).stay (λd v hd z => kp d v ?_ z) (λd z => up d _ z) (λd xs z => up d _ z) λd o u z => up d _ z
     rcases hd with rfl |hd
     ·exact hbP
     ·intro z;rw[z,hP] at hd;cases hd
  have I2:=I.un (t':=tk) U hok
  have hfn:upd H c' (.frz oc (.own 0)) h'.objs.size=none:=by rw[xV (xJ hlt)];exact I.hok.fresh hsz
  exact h _ c' oc ctv _ _ (.inr ⟨c',_,hn,rfl⟩) (I2.pin1 (I.fpOk hsz hfn) (zq _ rfl) (nc _ _)) wZ ⟨vs,t,hd,hv⟩
def SqL.keep{K:W.Frag}{H H2:Hp}{a:Addr}{xs:List V}(h:SqL K H a xs)(k:∀b o,H b=some o->H2 b=some o):SqL K H2 a xs:=by
 rcases h with (h |⟨o,h⟩) |h
 ·exact .inl (.inl (k _ _ h))
 ·exact .inl (.inr ⟨o,k _ _ h⟩)
 ·exact .inr h
structure Caps(X:Cx)(N:List Str)(clos:List (Str × Addr))(caps:List Nat):Prop where
 len:N.length=caps.length+1
 at_:∀i x,N[i+1]?=some x->X.env.kindOf x=some .cell/\∃j,caps[i]?=some j/\X.N[j]?=some x
 sub:∀x c,clos.lookup x=some c->X.env.cells.lookup x=some c
 has:∀i x,N[i+1]?=some x->∃c,clos.lookup x=some c
def zV7(X:Cx)(P:Addr)(q:Str)(caps:List Nat)(tb:Hp->TE)(t1:TA):TE:=λσ H Q=>t1 σ H λvs H1=>∃(p0:Addr) (ys cv:List V),vs=[.ref p0]/\SqL X.K H1 p0 ys/\ys.length<64/\H1 P=some (.cot q) /\
 cv.length=caps.length/\(∀(i j:Nat),caps[i]?=some j->∃y,cv[i]?=some y/\σ[j]?=some (some y))/\∀H2,OneMore H1 H2->Ur (λy H' Q'=>tb H' (some y::cv.map some) H' Q') ys H2 (vS X ys Q)
def zb0{e:Expr}{t1:TA}{tb:Hp->TE}{N:List Str}{caps:List Nat}{k:Nat}{np kp:Pos}(hg:Gl X "sorted")(hm:X.mg "sorted" = none)(ha:PA X [e] t1)(hr:Room (k+3) X.A)
    (hc:X.env.code=.ref c) (L:LamBase X.base X.mg c P) (hq:X.env.qual ++ "<lambda>" = q) (hcl:closureFor scope X.env=pure clos) (hdef:defaultsOf params X.env=([],[]))
    (S:LamScope N p scope clos) (C:Caps X N clos caps) (hb:∀(u pm ctv:Value) (c':Addr),bindArgs (W.kla_fn "<lambda>" q params body scope clos pm (.ref c') ctv) ⟨[u],[]⟩=pure [(p,u)])
    (hbody:∀(A:Around) (f c':Addr) (s:Shared) (H:Hp),Room k (A.deeper (W.envX q scope s.heap.objs.size f (.ref c') clos))->PE (zc8 X A N q scope f c' clos s H) body (tb H))
    (he:starEach [e] X.env=(false,eval e X.env)::starEach [] X.env:=by rfl) (hpl:(backTo pos (starEach [e] X.env)).any (·.1)=false:=by rfl) :
    PE X (.Call (.Name "sorted" np) [e] [⟨some "key",.Lambda params body scope lpos,kp⟩] pos) (zV7 X P q caps tb t1):=by
  intro pins s σ H Q I h
  refine wpAny_Call_Name_kw (UZ I hg hm ZF ?_ w6 w6)
  refine callWith_kw (env:=X.env) (e:=e) (rest:=[]) (thn (ha pos pins s σ H _ I h) λus s1 ⟨vs,H1,I1,r1,q1⟩=>?_) (by rw[he];rfl) hpl rfl rfl
  obtain⟨p0,ys,cv,rfl,hS,h64,hP,hcv,hcap,hk⟩:=q1;refine kws_cons (zB6 I1 hc L hP hq hcl hdef λf c' oc ctv H2 s2 hH I2 hoc hcod=>kws_nil ?_)
  cases r1 with
  | cons r rr =>
    cases rr;cases r;obtain⟨its,rv,pl,_⟩:=I2.list (hS.keep hH.keep);have hl:=pl.isList;have len:=rv.length;have fin:=hk H2 hH;have room:Room (k+1) X.A.in1.in1:=hr.in1.in1;show wpAny _ _ (call (.builtin "sorted") [.ref p0] [(Str.ofString "key",.ref f)]) _ _ _;refine call_function_entry_kw kind_sorted plain_sorted entry_sorted (ksk_s1 _ _) ?_;unfold Builtin.«sorted»;refine zb (m:=checkCount "sorted" 1 1 _) (zf ?_)
    refine zb (collect_list hl ?_ (by rw[sizeLine_eq];lia))
    refine zb (wpAny_newList ?_ (by rw[sizeLine_eq];lia))
    have hsz:((s2.heap.push (seqObj "list" #[] 0)).update s2.heap.objs.size (Obj.mapSeq (·++its.toArray))).objs.size=s2.heap.objs.size+1:=by rw[Heap.size_update,size_push']
    have hoL:(((s2.heap.push (seqObj "list" #[] 0)).update s2.heap.objs.size (Obj.mapSeq (·++its.toArray))).push (seqObj "list" its.toArray 0)).get? (s2.heap.objs.size+1)=some (seqObj "list" its.toArray 0):=by
      rw[<- hsz];exact zq _ rfl
    have keep:∀b o,s2.heap.get? b=some o->(((s2.heap.push (seqObj "list" #[] 0)).update s2.heap.objs.size (Obj.mapSeq (·++its.toArray))).push (seqObj "list" its.toArray 0)).get? b=some o:=λb o q=>by
      have hlt:b<s2.heap.objs.size:=zp q
      rw[Heap.get?_push_ne _ _ _ (by rw[hsz];exact zA (xR hlt)),Heap.get?_update_ne _ _ _ _ (zA hlt),Heap.get?_push_ne _ _ _ (zA hlt)]
      exact q
    have I3:=I2.kept (t':=s2.toks) keep;have fa:=I2.fpOk (H':=H2) (b:=s2.heap.objs.size+1) (xq _) (I2.hok.fresh (xq _));show wpAny _ _ _ _ _ { s2 with heap:=((s2.heap.push (seqObj "list" #[] 0)).update s2.heap.objs.size (Obj.mapSeq (·++its.toArray))).push (seqObj "list" its.toArray 0) };rw[hsz];refine zb (xF (wpAny_call_entry_kw slot_list_sort ⟨_,hoL,rfl⟩ entry_list_sort ?body (ksk_l1 _ _)))
    case body=>
      show wpAny (model X.prog X.w) X.A.in1.in1 (Builtin.«list.sort» ⟨[.ref (s2.heap.objs.size+1)],[(Str.ofString "key",.ref f)]⟩) _ _ _;rw[ksk_t1]
      refine wE (zB9 (Ok:=λH'=>H' c'=some (.frz oc (.own 0))) I3 hoL fa (zB I2.sz (xq _)) rv h64 (by have:=room.un;lia) hoc (λpins' s' H' y v Q' hsub I' ok' ry ht=>?_) fin) (λr s' hq=>?_) λ_ _ z=>z
      · have hcr : s'.heap.CodeRec (.ref c') q := by
          obtain⟨z1,_⟩:=I'.hok c' _ ok';obtain⟨vs,t,d1,d2⟩:=hcod;exact⟨c',oc,vs,t,rfl,z1,d1,d2⟩
        refine thn (zQ7 (cv:=cv) I' (I'.pinAt (hsub _ (.head _))).1 hcr I'.ok.frames room.depth room.hd S (by rw[C.len,hcv]) (hb _ _ _ _) ry C.sub (λi x y e1 e2=>?_) (hbody _ _ _ _ _ (room.deeper _)) ht) λu s3 hz=>?_
        · obtain ⟨hkind, j, e3, e4⟩ := C.at_ i x e1
          obtain⟨y',e5,e6⟩:=hcap i j e3;have e7:y'=y:=zF (e5.symm.trans e2);subst e7;obtain⟨cc,e8⟩:=C.has i x e1;obtain⟨m,_,lk⟩:=I'.loc;obtain⟨u',r',l⟩:=lk j x y' e4 e6 (.inr (.inl hkind))
          rcases l with ⟨l,_⟩ |⟨_,c3,e9,z⟩
          · rw[hkind] at l;cases l
          · have e10 := C.sub x cc e8
            rw[e9] at e10;cases e10;exact⟨_,e8,u',r',z⟩
        · obtain ⟨v2, H3, I4, rv2, q2, fz⟩ := hz
          exact⟨v2,H3,I4,rv2,q2,fz _ _ _ ok'⟩
      · obtain ⟨rfl, H4, I4, q4⟩ := hq
        exact⟨_,rfl,zf ⟨_,rfl,.ref (s2.heap.objs.size+1),H4,I4.unpin,rfl,q4⟩⟩
end
def zI9(caps:List Nat)(tb:TD)(t1:TAD):TD:=λrho n R=>t1 rho n λes n1=>∃(rows:List D) (keys:List SRow) (fl:Bool) (cs:List D),es=[.lst rows]/\rows.length<64/\keys.length=rows.length/\(∀x∈keys,x.key.num=fl)/\(keys.map SRow.name).Nodup /\
 cs.length=caps.length/\(∀(i j:Nat),caps[i]?=some j->∃d,cs[i]?=some d/\rho[j]?=some (some d)/\xT d=true)/\(∀(i:Nat) (d:D) (x:SRow),rows[i]?=some d->keys[i]?=some x->tb (some d::cs.map some) n1 λe n2=>e=x.d/\n2=n1) /\
 ∀ls:List Nat,ls.Perm (List.range rows.length)->(ls.map λi=>keys.getD i Yt).Pairwise (λx y=>x.lt y=true)->R (.lst (ls.map λi=>rows.getD i .non)) n1
section
variable {A:AC}{X:Cx}{os:List (Nat × Addr)}{n:Nat}{rho:Rho}{sg:St}{H:Hp}{ds:List D}{vs:List V}
def Kp(I:AmO A os n rho sg H ds vs):∀(caps:List Nat) (cs:List D),cs.length=caps.length->(∀(i j:Nat),caps[i]?=some j->∃d,cs[i]?=some d/\rho[j]?=some (some d)/\xT d=true) ->
  ∃cv:List V,Reps A.K A.G (Zof A os) H cs cv/\∀(i j:Nat),caps[i]?=some j->∃y,cv[i]?=some y/\sg[j]?=some (some y)
 |[],[],_,_=>⟨[],.nil,λi j e=>by simp at e⟩
 |[],_::_,h,_=>by simp at h
 |_::_,[],h,_=>by simp at h
 | j :: caps, c :: cs, h, hc => by
  obtain⟨d,e1,e2,e3⟩:=hc 0 j rfl
  have e4:c=d:=by simpa using e1
  subst e4;obtain⟨v,e5,e6⟩:=I.slot j c e2
  obtain⟨cv,r,hv⟩:=Kp I caps cs (by simpa using h) λi j e=>by
   obtain⟨d,z1,z2⟩:=hc (i+1) j (by simpa using e)
   exact⟨d,by simpa using z1,z2⟩
  refine⟨v::cv,.cons (e6.rep e3) r,λi k e=>?_⟩
  cases i with
  |zero=>
   have e7:j=k:=by simpa using e
   subst e7;exact⟨v,rfl,e5⟩
  |succ i=>
   obtain⟨y,z1,z2⟩:=hv i k (by simpa using e)
   exact⟨y,by simpa using z1,z2⟩
def zK6{K:W.Frag}{G:Option Addr}{Z:Addr->Prop}{tb:TD}{d:D}{cs:List D}{v:V}{cv:List V}{Q:VK}{P:D->Nat->Prop}(rs:Reps K G Z H (d::cs) (v::cv))(st:zu6 G n H)(gz:∀a,G=some a->Z a)(z0:ZOk K G Z H)
  (ht:tb (some d::cs.map some) n P) (hQ:∀v' H' n' d',(∀a o,G≠some a->H a=some o->H' a=some o)->zu6 G n' H'->Rep K G Z H' d' v'->P d' n'->Q v' H'):tOf ⟨K,G,Z,H⟩ tb (some v::cv.map some) H Q:=by
 have S:=jj (N:=replicate (d::cs).length "") rs st gz z0
 have e1:startD (replicate (d::cs).length "") (d::cs)=some d::cs.map some:=by unfold startD;simp
 have hl:=rs.length
 have e2:start (replicate (d::cs).length "") (v::cv)=some v::cv.map some:=by unfold start;simp at hl;simp[hl]
 rw[e1,e2] at S;refine⟨_,n,P,[],[],⟨[],S⟩,ht,λv' H' n' d' ⟨os2,J⟩ hp=>hQ v' H' n' d' J.fr J.st (Rep.mono (λa _ z=>.inl z) (λ_ _ _ e=>e) _ _ J.pop.2) hp⟩
def zH6{N2:Nat}{tb:TD}{cs:List D}{cv:List V}{ys:List V}{Q:VK}(hK:X.K=A.K) :
  ∀(rows:List D) (xs:List V) (keys:List SRow) (done:List SRow) (dv:List V) (H:Hp),keys.length=rows.length->AmO A os n rho sg H ds vs->Reps A.K A.G (Zof A os) H rows xs->Reps A.K A.G (Zof A os) H cs cv->Reps A.K A.G (Zof A os) H (done.map SRow.d) dv ->
   (∀(i:Nat) (d:D) (x:SRow),rows[i]?=some d->keys[i]?=some x->tb (some d::cs.map some) n λe n2=>e=x.d/\n2=n) ->
   (∀(kv:List V) (H3:Hp),(∀a o,A.G≠some a->H a=some o->H3 a=some o)->AmO A os n rho sg H3 ds vs->Reps A.K A.G (Zof A os) H3 ((done++keys).map SRow.d) (dv++kv)->vS X ys Q (dv++kv) H3) ->
   Ur (λy H' Q'=>(∃G Z,tOf ⟨X.K,G,Z,H'⟩ tb (some y::cv.map some) H' Q')) xs H λrest H3=>vS X ys Q (dv++rest) H3
 |[],xs,[],done,dv,H,_,I,rr,rc,rd,_,fin=>by
  rw[rr.nil_inv];show vS X ys Q (dv++[]) H
  exact fin [] H (λ_ _ _ e=>e) I (by simpa using rd)
 |[],xs,_::_,done,dv,H,hl,_,_,_,_,_,_=>by simp at hl
 |_::_,xs,[],done,dv,H,hl,_,_,_,_,_,_=>by simp at hl
 | d :: rows, xs, k :: keys, done, dv, H, hl, I, rr, rc, rd, htb, fin => by
  obtain⟨v,xs',rfl,r0,rr'⟩:=rr.split;show ∃G Z,tOf ⟨X.K,G,Z,H⟩ tb (some v::cv.map some) H λkk H'=>Ur _ xs' H' λks H''=>vS X ys Q (dv++kk::ks) H'';refine⟨A.G,Zof A os,?_⟩
  suffices z:tOf ⟨A.K,A.G,Zof A os,H⟩ tb (some v::cv.map some) H (λkk H'=>Ur (λy H' Q'=>(∃G Z,tOf ⟨X.K,G,Z,H'⟩ tb (some y::cv.map some) H' Q')) xs' H' λks H''=>vS X ys Q (dv++kk::ks) H'') by
   rw[<- hK] at z;exact z
  refine zK6 (.cons r0 rc) I.st (λa z=>.inl (I.gz a z)) I.zO (htb 0 d k rfl rfl) λv' H' n' d' fr st r ⟨e1,e2⟩=>?_;subst e1;have st':zu6 A.G n H':=e2 ▸ st;have I':=I.called fr st';have mono:∀{es:List D}{ws:List V},Reps A.K A.G (Zof A os) H es ws->Reps A.K A.G (Zof A os) H' es ws:=λh=>Reps.mono (λ_ _ z=>z) (λb u nz e=>fr b u (λz=>nz (.inl (I.gz b z))) e) _ _ h
  have rd':Reps A.K A.G (Zof A os) H' ((done++[k]).map SRow.d) (dv++[v']):=by
   rw[zS];exact(mono rd).append (.cons r .nil)
  have key:=zH6 (N2:=N2) (ys:=ys) (Q:=Q) hK rows xs' keys (done++[k]) (dv++[v']) H' (by simpa using hl) I' (mono rr') (mono rc) rd' (λi d x e1 e2=>htb (i+1) d x (by simpa using e1) (by simpa using e2)) λkv H3 fr3 I3 r3=>by
   have:=fin (v'::kv) H3 (λa o g e=>fr3 a o g (fr a o g e)) I3 (by simpa using r3)
   simpa using this
  have e9:(λrest H3=>vS X ys Q (dv++[v']++rest) H3)=λks H''=>vS X ys Q (dv++v'::ks) H'':=by funext rest H3;rw[yG];rfl
  rw[e9] at key;exact key
variable {e body:Expr}{t1:TAD}{tb:TD}{N:List Str}{caps:List Nat}{k:Nat}{np kp pos lpos:Pos}{c P:Addr}{q p:Str}{params:Arguments}{scope:Scope}{clos:List (Str × Addr)}
def zb1(ti:kZ A.K P q)(hK:X.K=A.K)(hm:X.mg "sorted" = none)(hr:Room (k+3) X.A)(ha:PAD A X [e] t1)(L:LamBase X.base X.mg c P)(S:LamScope N p scope clos)(C:Caps X N clos caps)
  (hbody:∀(A1:Around) (f c':Addr) (s:Shared) (H:Hp) (G:Option Addr) (Z:Addr->Prop),Room k (A1.deeper (W.envX q scope s.heap.objs.size f (.ref c') clos))->PD ⟨X.K,G,Z,H⟩ (zc8 X A1 N q scope f c' clos s H) body tb)
  (hq:X.env.qual ++ "<lambda>" = q:=by rfl) (hc:X.env.code=.ref c:=by rfl) (hcl:closureFor scope X.env=pure clos:=by rfl) (hdef:defaultsOf params X.env=([],[]):=by rfl)
  (hb:∀(u pm ctv:Value) (c':Addr),bindArgs (W.kla_fn "<lambda>" q params body scope clos pm (.ref c') ctv) ⟨[u],[]⟩=pure [(p,u)]:=by intros;rfl) (hg:Gl X "sorted" := by rfl)
  (he:starEach [e] X.env=(false,eval e X.env)::starEach [] X.env:=by rfl) (hpl:(backTo pos (starEach [e] X.env)).any (·.1)=false:=by rfl) :
  PD A X (.Call (.Name "sorted" np) [e] [⟨some "key",.Lambda params body scope lpos,kp⟩] pos) (zI9 caps tb t1):=by
 exists (zb0 (tb:=λH' σ' H'' Q'=>∃G Z,tOf ⟨X.K,G,Z,H'⟩ tb σ' H'' Q') hg hm ha hr hc L hq hcl hdef S C hb (λA1 f c' s H hr pins s1 σ1 H1 Q I h=>by
    obtain⟨G,Z,h⟩:=h
    exact hbody A1 f c' s H G Z hr pins s1 σ1 H1 Q I h) he hpl).imp λsg H Q h=>by
   obtain⟨rho,n,R,ds,vs,I,ht,hQ⟩:=h;refine⟨rho,n,_,ds,vs,I,ht,λws H' n' es' ⟨os,J⟩ hl k=>?_⟩;obtain⟨rows,keys,fl,cs,rfl,h64,hlk,hnum,hnd,hcs,hcap,htb,hfin⟩:=k;obtain⟨J1,rs⟩:=J.split hl;obtain⟨v,rfl,r⟩:=qq rs;obtain⟨a,xs,rfl,sq,rr⟩:=r.lst_inv;have len:xs.length=rows.length:=rr.length;obtain⟨cv,rc,hcv⟩:=Kp J1 caps cs hcs hcap
   refine⟨a,xs,cv,rfl,by rw[hK];exact sq.sq,w5,(J1.zO.2 P q ti).1,by rw[rc.length];exact hcs,hcv,λH2 hH2=>?_⟩
   have kp2:=hH2.keep
   have J2:AmO A os n' rho sg H2 ds vs:=by
    rcases hH2 with rfl |⟨c2,o2,hn2,rfl⟩
    ·exact J1
    ·exact J1.grow hn2
   have mono:∀{es:List D}{ws:List V},Reps A.K A.G (Zof A os) H' es ws->Reps A.K A.G (Zof A os) H2 es ws:=λh=>Reps.mono (λ_ _ z=>z) (λb u _ e=>kp2 b u e) _ _ h;refine zH6 (N2:=0) hK rows xs keys [] [] H2 hlk J2 (mono rr) (mono rc) .nil htb λkv H3 fr I3 rk=>?_;rw[wg] at rk ⊢;have rr3:Reps A.K A.G (Zof A os) H3 rows xs:=Reps.mono (λ_ _ z=>z) (λb u nz e=>fr b u (λz=>nz (.inl (J2.gz b z))) e) _ _ (mono rr);rw[wg,<- hK] at rk
   have lenk:kv.length=keys.length:=by rw[rk.length,zg]
   have mem:∀i,i<keys.length->keys.getD i Yt∈keys:=λi hi=>by
    rw[zL,zd hi];exact wl hi
   have dist:∀i j,i<keys.length->j<keys.length->i≠j->(keys.getD i Yt).name≠(keys.getD j Yt).name:=λi j hi hj hij e=>by
    have g:∀i (hi:i<keys.length),(keys.map SRow.name)[i]'(by simpa using hi)=(keys.getD i Yt).name:=λi hi=>by
     rw[List.getElem_map,zL,zd hi];rfl
    have f:=wN.mp hnd
    rcases Nat.lt_or_gt_of_ne hij with l |l
    ·exact f i j (by simpa using hi) (by simpa using hj) l (by rw[g i hi,g j hj,e])
    ·exact f j i (by simpa using hj) (by simpa using hi) l (by rw[g i hi,g j hj,e])
   have num:∀i,i<keys.length->(keys.getD i Yt).key.num=fl:=λi hi=>hnum _ (mem i hi)
   refine⟨fl,λi j=>(keys.getD i Yt).lt (keys.getD j Yt),w5,λi j hi hj hij=>SRow.lt_anti (by rw[num i w5,num j w5]) (dist i j w5 w5 hij),λi j l _ _ _ h1 h2=>SRow.lt_trans h1 h2,λi hi=>?_,λi j hi hj hij=>?_,λls hp hU l hl'=>?_⟩
   ·intro pins s σ u J ru
    obtain⟨p,rest,R⟩:=WD J (rk.getD (enc:=SRow.d) (a0:=Yt) w5) ru
    obtain⟨z,t,_⟩:=R.tup;have ty:=Qa J R
    rw[num i w5] at ty
    exact⟨p,_,t,ty⟩
   ·intro pins s σ u v J ru rv B hB
    obtain⟨p,ps,R⟩:=WD J (rk.getD (enc:=SRow.d) (a0:=Yt) w5) ru
    obtain⟨p',ps',R'⟩:=WD J (rk.getD (enc:=SRow.d) (a0:=Yt) w5) rv
    have c:=zh9 J (by rw[num i w5,num j w5]) (dist i j w5 w5 hij) R R' hB
    rw[num i w5] at c
    exact c
   ·rw [len] at hp hU
    have hls:∀i∈ls.toList,i<rows.length:=λi hi=>by
     have:=(hp.mem_iff).mp (Array.mem_toList_iff.mp hi)
     rwa [Array.mem_range] at this
    have hsz:ls.size=rows.length:=by rw[hp.size_eq,yO]
    have rp:Reps A.K A.G (Zof A os) H3 ((ls.toList.map λi=>rows.getD i .non).map id) (ls.toList.map λi=>xs.getD i .non):=Xd (enc:=id) (a0:=.non) (by rw[List.map_id];exact rr3) hls
    rw[List.map_id] at rp;refine hQ _ _ _ _ ⟨os,I3.newLst rp hl'⟩ (hfin ls.toList ?_ ?_)
    ·have := Array.perm_iff_toList_perm.mp hp
     rwa [Array.toList_range] at this
    ·rw [xG, wN];intro i j hi hj hij
     have hi':i<ls.size:=by simpa using hi
     have hj':j<ls.size:=by simpa using hj
     have u:=hU i j hij w5
     have g:∀i (hi:i<ls.size),Srt.lab ls i=ls.toList[i]'(by simpa using hi):=λi hi=>by
      refine Srt.jv ?_
      rw[<- yn,zd (by simpa using hi)]
     rw[g i hi',g j hj'] at u;exact u
end
section
variable {P:Program}{w:World}{K:W.Frag}{mg:Str->Option Value}{base:Heap}
def JB{x qual:Str}{st:Stmt}{f c Pt:Addr}{oc:Value}{od an:Option Addr}{osl:Array (Option Value)}{kV doc pm cdv ct:Value}(lk:K.lookup f=some ⟨oc,od,.func (W.fnOf x qual (kU st) (vN st) (xg st) .none kV doc pm an cdv ct),osl⟩)
  (hn:W.nsIn K mainGlobals x=some (some (.ref f))) (ht:W.tabIn K x=some (c,Pt)):cdv=.ref c:=by
 unfold W.tabIn at ht;rw[hn] at ht;simp only[lk] at ht
 split at ht
 ·split at ht
  ·split at ht
   ·cases ht;first |rfl |assumption
   ·cases ht
  ·cases ht
 ·cases ht
def Fun.okL{x qual:Str}{st:Stmt}{f c Pt:Addr}{fd:FuncData}{N ps:List Str}{k:Nat}{t:TF}{tb:TSD}(F:Fun K x qual st f fd)(hn:W.nsIn K mainGlobals x=some (some (.ref f)))(ht:W.tabIn K x=some (c,Pt))(S:FnScope N ps (xg st))
  (body : ∀ (A0 : Around) (outer : List Env) (s : Shared) (H : Hp) (E : XK) (G : Option Addr) (Z : Addr -> Prop), Room k (A0.deeper (envOfC qual (xg st) s.heap.objs.size f (.ref c))) ->
   ze0 ⟨K,G,Z,H⟩ (zu5 CX0 P w K mg base N qual (xg st) f (.ref c) A0 outer s H E).nox (vN st) tb)
  (spec:∀ds n Q,ds.length=ps.length->t ds n Q->tb { nx:=λ_ n=>Q .non n,rt:=Q } (startD N ds) n):FnOk P w K mg base CX0 (k+1) f fd ps (spD K ps.length t):=by
 exists (by
   obtain⟨oc,od,kV,doc,pm,an,cdv,ct,osl,rfl,lk,hcd⟩:=F.ex;have e:=JB lk hn ht;subst e;refine xh0 lk hcd S (λvs H Q E h=>?_) λA0 outer s H vs Q E hr h=>?_
   ·obtain⟨G,Z,n,R,ds,hl,rs,_⟩:=h;rw[rs.length];exact hl
   ·obtain ⟨G, Z, n, R, ds, hl, rs, hst, gz, z0, ht, hQ⟩ := h;refine⟨_,PSs.nox (body A0 outer s H E G Z hr),startD N ds,n,_,[],[],⟨[],jj rs hst gz z0⟩,spec ds n R hl ht,?_⟩;have zz:∀ (os:List (Nat × Addr)) a,Z a->Zof ⟨K,G,Z,H⟩ os a:=λos a z=>.inl z;refine⟨λrho' n' sg' H' ⟨os,I⟩ q=>?_,λd n' v rho' sg' H' ⟨os,I⟩ q=>?_,λ_ _ _ _ _ q=>q.elim,λ_ _ _ _ _ q=>q.elim⟩
    ·exact hQ .non H' n' .non I.fr I.st (Rep.ofS rfl) q
    ·exact hQ v H' n' d I.fr I.st (Rep.mono (λa _ z=>zz os a z) (λ_ _ _ e=>e) _ _ I.pop.2) q)
end
abbrev KL(K:W.Frag)(mg:Str->Option Value)(base:Heap):Prop:=∀x∈qi,∀c P,W.tabIn K x=some (c,P)->LamBase base mg c P
def zn4{P:Program}{w:World}{K:W.Frag}{mg mb:Str->Option Value}{CX:CXT}{k:Nat}{fa a:Addr}{fd:FuncData}{x:Str}{sp:Sp}{s₁:Shared}{vs:List Value}{ns:List Int}
  (KX:K.In s₁.heap) (hns:s₁.heap.Ns mainGlobals mg) (hb:s₁.heap.Ns builtinsNs mb) (hbb:∀x:Str,x ≠ "__name__" -> mb x=bootBuiltins x) (hlim:s₁.heap.NoLimit) (hdig:s₁.heap.NoDigits) (hg:s₁.gens=#[])
  (hT:∀x∈qi,∀c P,W.tabIn K x=some (c,P)->W.CodeHd s₁.heap c P/\s₁.heap.get? P=some (W.tabObj #[])) (hu:∀P q q',kZ K P q->kZ K P q'->q=q') (hnt:W.noTabs K=true)
  (hbm:∃bm ob,mg "__builtins__" = some (.ref bm)/\bm≠builtinsNs/\s₁.heap.get? bm=some ob/\ob.cls=.type "module" /\ ob.dict=some builtinsNs/\ob.data=.plain)
  (ha:s₁.heap.get? a=some { cls:=.type "list",data:=.seq vs.toArray }) (hi:IntsAre vs ns) (hl:ns.length<=sizeLine) (hr:Room k callerA)
  (F:∀base:Heap,K.In base->base.Ns mainGlobals mg->base.NoDigits->KL K mg base->FnOk P w K mg base CX k fa fd [x] sp) (hbind:∀(s:Shared) (u:Value),BindsTo s fd ⟨[u],[]⟩ [(x,u)])
  (hsp:∀H:Hp,zE9 H->SqL K H a (ns.map V.int)->(∀P q,kZ K P q->H P=some (.cot q))->sp [.ref a] H (λv H'=>v=.bl true/\∀P q,H P=some (.cot q)->H' P=some (.cot q)) λ_ _ _=>False)
  (hCX:∀H e s',CX [] H s₁ (λ_ _ _=>False) e s'->False) :
  codeAny (model P w) callerA (.call (.ref fa) ⟨[.ref a],[]⟩) (λr s'=>r=.ok (.ret (.bool true))/\OldK s₁.heap s'.heap/\s'.os=s₁.os/\AllBare s'.gens) s₁:=by
 classical
 have rv:=Uo hi;have lenV:=hi.length;have tabAt:∀{b:Addr},(∃q,kZ K b q)->∃c,W.CodeHd s₁.heap c b/\s₁.heap.get? b=some (W.tabObj #[]):=λ{b} ⟨q,x,hx,c,e,_⟩=>⟨c,hT x hx c b e⟩
 have core:∀H:Hp,(∀b,(H b=none)\/(b=a/\∃o xs,H b=some (.frz o (.lst xs)))\/∃q,kZ K b q/\H b=some (.cot q))->(∀P q,kZ K P q->H P=some (.cot q))->SqL K H a (ns.map V.int)->HOk P w H s₁.heap->(H a≠none->K.lookup a=none) ->
   codeAny (model P w) callerA (.call (.ref fa) ⟨[.ref a],[]⟩) (λr s'=>r=.ok (.ret (.bool true))/\OldK s₁.heap s'.heap/\s'.os=s₁.os/\AllBare s'.gens) s₁:=by
  intro H hO hTH hS hok hK;have base_of:∀{b:Addr}{o:Obj},s₁.heap.get? b=some o->H b=none->(zu4 s₁.heap H).get? b=some o:=λe n=>zC7 e n
  have noA:∀{b:Addr}{o:Obj},s₁.heap.get? b=some o->o.cls≠.type "list" -> o≠W.tabObj #[]->H b=none:=λ{b o} e d1 d2=>by
   rcases hO b with z |⟨rfl,_⟩ |⟨q,t,_⟩
   ·exact z
   ·rw[ha] at e;cases e;exact absurd rfl d1
   ·obtain⟨c,_,e2⟩:=tabAt ⟨q,t⟩;rw[e2] at e;cases e;exact absurd rfl d2
  have noD:∀{b:Addr}{o:Obj}{es:Array DictEntry}{ep:Nat},s₁.heap.get? b=some o->o.data=.dict es ep->H b=none:=λ{b o es ep} e d=>by
   rcases hO b with z |⟨rfl,_⟩ |⟨q,t,_⟩
   ·exact z
   ·rw[ha] at e;cases e;have d':Data.seq vs.toArray _=Data.dict es ep:=d;cases d'
   ·obtain⟨c,_,e2⟩:=tabAt ⟨q,t⟩;rw[e2] at e;cases e;have d':Data.fields #[]=Data.dict es ep:=d;cases d'
  have nsK:∀{b:Addr}{m:Str->Option Value},s₁.heap.Ns b m->(zu4 s₁.heap H).Ns b m:=λ{b m} ⟨o,es,ep,e,d,r⟩=>⟨o,es,ep,base_of e (noD e d),d,r⟩
  have hKb:K.In (zu4 s₁.heap H):=λb o e=>base_of (KX b o e) (by
   rcases hO b with z |⟨rfl,o',xs,z⟩ |⟨q,t,z⟩
   ·exact z
   ·rw[hK (by rw[z];simp)] at e;cases e
   ·obtain ⟨c, _, e2⟩ := tabAt ⟨q, t⟩;rw[KX b o e] at e2;cases e2;have h2:=wT.mp hnt (b,_) (W.mem_of_lookupK e)
    exact absurd (show false=true from h2) zy)
  have hM:Mod K mg (zu4 s₁.heap H):=⟨hKb,nsK hns,⟨mb,nsK hb,hbb⟩,let ⟨mc,h1,h2⟩:=hlim;⟨mc,nsK h1,h2⟩⟩
  have e0:Env0 P w K mg (zu4 s₁.heap H) callerA [] s₁ H:=⟨rfl,hM,λb o e=>zP6 e,Nat.le_of_eq (zo9 _ _),trivial,λb hb=>absurd (show b∈([]:List Addr) from hb) (by simp),hok,.of_eq hg⟩
  have hLA:KL K mg (zu4 s₁.heap H):=λy hy c Pt e=>by
   obtain⟨⟨o,vs,file,tf,flags,tg,inF,text,tt,e1,r1,r2,r3,r4,r5,r6,r7,r8,hne⟩,_⟩:=hT y hy c Pt e;obtain⟨bm,ob,b1,b2,b3,b4,b5,b6⟩:=hbm
   refine⟨⟨o,vs,file,tf,flags,tg,inF,text,tt,base_of e1 (noA e1 (by rw[r1];decide) (λz=>by rw[z] at r1;cases r1)),r1,r2,r3,r4,r5,r6,r7,r8,hne⟩,bm,ob,b1,b2,base_of b3 (noA b3 (by rw[b4];decide) (λz=>by rw[z] at b4;cases b4)),b4,b5,b6⟩
  have hOC:zE9 H:=λb=>by
   rcases hO b with z |⟨_,z⟩ |⟨q,_,z⟩
   ·exact .inl z
   ·exact .inr (.inl z)
   ·exact .inr (.inr ⟨q,z⟩)
  refine codeAny_mono ((F _ hKb (nsK hns) (let ⟨mc,h1,h2⟩:=hdig;⟨mc,nsK h1,h2⟩) hLA).run callerA [] s₁ H ⟨[.ref a],[]⟩ [.ref a] [.ref a] _ _ hr e0 (hbind s₁ (.ref a)) (.cons rfl .nil) (hsp H hOC hS hTH)) λr s' h=>?_
  cases r with
  |error e=>exact(hCX H e s' h).elim
  | ok fl =>
   cases fl with
   |next=>exact False.elim h
   |brk=>exact False.elim h
   |cont=>exact False.elim h
   | ret u =>
    obtain⟨v,H',os,bare,un,hok',r',q,qT⟩:=h;have q':v=.bl true:=q;subst q';obtain rfl:u=Value.bool true:=r'
    have old:∀b o,s₁.heap.get? b=some o->asItWas s₁.heap s'.heap b o:=λb o e=>by
     rcases hO b with z |⟨_,ob,xs,z⟩ |⟨q,t,z⟩
     ·exact .inl (un.keep b o e z (by intro z;exact absurd (show b∈([]:List Addr) from z) (by simp)) (by simp))
     ·have z2:=un.frzs b ob _ z;obtain⟨e1,_⟩:=hok b _ z;obtain⟨e2,_⟩:=hok' b _ z2;rw[e] at e1;cases e1;exact .inl e2
     ·obtain ⟨c, hc, e2⟩ := tabAt ⟨q, t⟩;obtain⟨ps,e3,_⟩:=hok' b _ (qT b q z);have e4:=e2;rw[e] at e4;cases e4
      exact .inr (.inl ⟨(hc.tab e2).isCodeTable,rfl,#[],ps,rfl,by rw[Array.empty_append];exact e3⟩)
    refine⟨rfl,⟨old,λb o e=>?_⟩,os,bare⟩
    exact un.there b o e (by simp)
 have ta:∀q,¬ kZ K a q:=λq t=>by
  obtain⟨c,_,e2⟩:=tabAt ⟨q,t⟩;rw[ha] at e2;cases e2
 let HT:Hp:=λb=>if h:∃q,kZ K b q then some (.cot h.choose) else none
 have HTpos:∀b q,kZ K b q->HT b=some (.cot q):=λb q t=>by
  have h:∃q,kZ K b q:=⟨q,t⟩
  show(if h:∃q,kZ K b q then some (HO.cot h.choose) else none)=_
  rw[dif_pos h,hu b _ q h.choose_spec t]
 have HTany:∀b,HT b=none\/∃q,kZ K b q/\HT b=some (.cot q):=λb=>by
  by_cases h:∃q,kZ K b q
  ·obtain⟨q,t⟩:=h;exact .inr ⟨q,t,HTpos b q t⟩
  ·exact .inl (dif_neg h)
 have HTa:HT a=none:=by
  rcases HTany a with z |⟨q,t,_⟩
  ·exact z
  ·exact absurd t (ta q)
 have HTok:∀b u,HT b=some u->∃q,u=.cot q/\s₁.heap.get? b=some (W.tabObj #[]):=λb u e=>by
  rcases HTany b with z |⟨q,t,z⟩
  ·rw[e] at z;cases z
  ·rw[e] at z;cases z;obtain⟨c,_,e2⟩:=tabAt ⟨q,t⟩;exact⟨q,rfl,e2⟩
 cases hk:K.lookup a with
 | some o =>
  have e:=KX a o hk;rw[ha] at e;cases e
  refine core HT (λb=>?_) HTpos (.inr ⟨_,vs.toArray,_,hk,rfl,rfl,rfl,by rw[zw,lenV];exact hl,by simpa using rv⟩) (λb u z=>?_) λz=>absurd HTa z
  ·rcases HTany b with z | z
   ·exact .inl z
   ·exact .inr (.inr z)
  ·obtain⟨q,rfl,e⟩:=HTok b u z;exact⟨#[],e,.nil⟩
 | none =>
  refine core (upd HT a (.frz { cls:=.type "list",data:=.seq vs.toArray } (.lst (ns.map V.int)))) (λb=>?_) (λb q t=>?_) (.inl (.inr ⟨{ cls:=.type "list",data:=.seq vs.toArray },wZ⟩)) (λb u z=>?_) λ_=>hk
  ·by_cases hb : b = a
   ·subst hb;exact .inr (.inl ⟨rfl,_,_,wZ⟩)
   ·rw [xV hb]
    rcases HTany b with z |z
    ·exact .inl z
    ·exact .inr (.inr z)
  ·rw[xV (fun(z:b=a)=>ta q (by rw[<- z];exact t))];exact HTpos b q t
  ·by_cases hb : b = a
   ·subst hb;rw[wZ] at z;cases z
    exact⟨ha,by rw[zg];exact hl,vs,_,rv,ha⟩
   ·rw[xV hb] at z;obtain⟨q,rfl,e⟩:=HTok b u z;exact⟨#[],e,.nil⟩
def zu9{l:W.OpenLaw}{n k:Nat}{q:Program}{loose:List Str}{XP:(Str->Option Value)->Heap->Prop}{YP:World->Heap->Prop}{d:DefRec}{K:Params->W.Frag}{CX:World->CXT}{sp:World->Sp}{x:Str}
  (hn:l.most=some n) (hn2:n<=sizeLine) (hdf:d.params.defaults=[]) (hr:Room k callerA)
  (hY:∀(w:World) (h:Heap),YP w h->(K w.params).In h)
  (hrec:∀(w:World),∀y∈qi,∀c P,W.tabIn (K w.params) y=some (c,P)->∃d,(recsOf q).find? (λe=>e.name == y)=some d) (hu:∀(w:World) P q q',kZ (K w.params) P q->kZ (K w.params) P q'->q=q') (hnt:∀w:World,W.noTabs (K w.params)=true)
  (F : ∀ (w : World) (mg : Str -> Option Value) (fa : Addr) (h : Heap), (K w.params).In h -> h.Ns mainGlobals mg -> mg d.name = some (.ref fa) ->
   ∃fd:FuncData,(∀(s:Shared) (u:Value),BindsTo s fd ⟨[u],[]⟩ [(x,u)]) /\
    ∀base:Heap,(K w.params).In base->base.Ns mainGlobals mg->base.NoDigits->KL (K w.params) mg base->FnOk l.prog w (K w.params) mg base (CX w) k fa fd [x] (sp w))
  (hsp:∀(w:World) (H:Hp) (a:Addr) (ns:List Int),ns.length<=n->zE9 H->SqL (K w.params) H a (ns.map V.int)->(∀P q,kZ (K w.params) P q->H P=some (.cot q))->sp w [.ref a] H (λv H'=>v=.bl true/\∀P q,H P=some (.cot q)->H' P=some (.cot q)) λ_ _ _=>False)
  (hCX:∀(w:World) (H:Hp) (s:Shared) (e:Value) (s':Shared),CX w [] H s (λ_ _ _=>False) e s'->False) :
  W.WalkO q loose XP YP l.row.toRowW d [] (λf vs=>PySem.call f vs):=by
 refine Att.attach_call hn hdf λw s₀ s₁ mg mb fa o pm cd doc a vs ns G Y ho hd hcd hmg hobj hints hlen hg=>?_;have KX:=hY w _ Y;obtain⟨fd,hb,hF⟩:=F w mg fa _ KX G.T.g hmg
 exact zn4 KX G.T.g G.T.b G.T.builtins G.T.nolimit G.T.nodigits hg (λy hy c P e=>let ⟨d,hr⟩:=hrec w y hy c P e;W.tab_of G.T KX hr e) (hu w) (hnt w) G.T.bmain hobj hints (zB hlen hn2) hr hF hb (λH hO hS hT=>hsp w H a ns hlen hO hS hT) λH e s'=>hCX w H s₁ e s'
def evL{α:Type}:List α->List α
 |[]=>[]
 |[x]=>[x]
 |x::_::r=>x::evL r
def odL{α:Type}:List α->List α
 |[]=>[]
 |[_]=>[]
 |_::y::r=>y::odL r
def Zj{α:Type}(o:Bool)(l:List α):List α:=if o then odL l else evL l
theorem zp9:∀l:List Value,((List.range ((l.length+1)/2)).map λk=>2*k).filterMap (λi=>l[i]?)=evL l
 |[]=>rfl
 |[x]=>by simp[evL,List.range_succ]
 |x::y::r=>by
  have e:((x::y::r).length+1)/2=(r.length+1)/2+1:=by simp only[zK];lia
  rw[e,List.range_succ_eq_map,zJ,yL];show x::_=x::evL r;rw[<- zp9 r,zE,yW,yW];rfl
theorem zl8:∀l:List Value,((List.range (l.length/2)).map λk=>2*k+1).filterMap (λi=>l[i]?)=odL l
 |[]=>rfl
 |[x]=>by simp[odL]
 |x::y::r=>by
  have e:(x::y::r).length/2=r.length/2+1:=by simp only[zK];lia
  rw[e,List.range_succ_eq_map,zJ,yL];show y::_=y::odL r;rw[<- zl8 r,zE,yW,yW];rfl
def zp2(o:Bool)(l:List Value):slicePick l.toArray (if o then some 1 else none) none (some 2)=(Zj o l).toArray:=by
 unfold slicePick
 cases o with
 | false =>
  show((sliceRange 0 (l.toArray.size:Int) 2).filterMap λi=>l.toArray[i]?).toArray=(evL l).toArray;rw[<- zp9 l]
  congr 1
  have e:sliceRange 0 (l.toArray.size:Int) 2=(List.range ((l.length+1)/2)).map λk=>2*k:=by
   unfold sliceRange;simp only[zw]
   have c:(if (2:Int) > 0 then(if (0:Int)<(l.length:Int) then((l.length:Int)-0+2-1)/2 else 0) else(if (0:Int) > (l.length:Int) then(0-(l.length:Int)-2-1)/(-2) else 0)).toNat=(l.length+1)/2:=by
    rw[if_pos w6]
    split<;>lia
   rw[c]
   exact ye λk _=>by lia
  rw[e];simp
 | true =>
  show((sliceRange (max 0 (min (1:Int) (l.toArray.size:Int))) (l.toArray.size:Int) 2).filterMap λi=>l.toArray[i]?).toArray=(odL l).toArray;rw[<- zl8 l]
  congr 1
  have e:sliceRange (max 0 (min (1:Int) (l.toArray.size:Int))) (l.toArray.size:Int) 2=(List.range (l.length/2)).map λk=>2*k+1:=by
   by_cases h0:l.length=0
   ·have:l=[]:=zX.mp h0;subst this;rfl
   ·have em : max 0 (min (1 : Int) (l.toArray.size : Int)) = 1 := by simp only [zw]; lia
    rw[em];unfold sliceRange;simp only[zw]
    have c:(if (2:Int) > 0 then(if (1:Int)<(l.length:Int) then((l.length:Int)-1+2-1)/2 else 0) else(if (1:Int) > (l.length:Int) then(1-(l.length:Int)-2-1)/(-2) else 0)).toNat=l.length/2:=by
     rw[if_pos w6]
     split<;>lia
    rw[c]
    exact ye λk _=>by lia
  rw[e];simp
theorem YQ{α:Type}(o:Bool):∀l:List α,(Zj o l).length<=l.length
 |[]=>by cases o<;>simp[Zj,evL,odL]
 |[x]=>by cases o<;>simp[Zj,evL,odL]
 |x::y::r=>by
  have:=YQ o r
  cases o with
  |false=>show(x::evL r).length<=_;have h:(evL r).length<=r.length:=this;simp only[zK];lia
  |true=>show(y::odL r).length<=_;have h:(odL r).length<=r.length:=this;simp only[zK];lia
theorem Ke{α:Type}:∀l:List α,(odL l++evL l).Perm l
 |[]=>.nil
 |[x]=>.refl _
 |x::y::r=>by
  show((y::odL r)++(x::evL r)).Perm (x::y::r);refine List.perm_middle.trans (.cons x ?_);exact .cons y (Ke r)
theorem VX{α β:Type}(f:α->β)(o:Bool):∀l:List α,Zj o (l.map f)=(Zj o l).map f
 |[]=>by cases o<;>rfl
 |[x]=>by cases o<;>rfl
 |x::y::r=>by
  have:=VX f o r
  cases o with
  |false=>show f x::evL (r.map f)=_;have h:evL (r.map f)=(evL r).map f:=this;rw[h];rfl
  |true=>show f y::odL (r.map f)=_;have h:odL (r.map f)=(odL r).map f:=this;rw[h];rfl
theorem Vals.half(o:Bool):∀{xs:List V}{us:List Value},Vals xs us->Vals (Zj o xs) (Zj o us)
 |_,_,.nil=>by cases o<;>exact .nil
 |_,_,.cons r .nil=>by
  cases o
  ·exact .cons r .nil
  ·exact .nil
 |_,_,.cons r (.cons r2 t)=>by
  have:=Vals.half o t;cases o
  ·exact .cons r this
  ·exact .cons r2 this
theorem Reps.half{K:W.Frag}{G:Option Addr}{Z:Addr->Prop}{H:Hp}(o:Bool):∀{ds:List D}{vs:List V},Reps K G Z H ds vs->Reps K G Z H (Zj o ds) (Zj o vs)
 |[],vs,h=>by rw[h.nil_inv];cases o<;>exact .nil
 |[d],vs,h=>by
  obtain⟨v,r,rfl,q,t⟩:=h.split;rw[t.nil_inv];cases o
  ·exact .cons q .nil
  ·exact .nil
 |d::d2::ds,vs,h=>by
  obtain⟨v,r,rfl,q,t⟩:=h.split;obtain⟨v2,r2,rfl,q2,t2⟩:=t.split;have:=Reps.half o t2;cases o
  ·exact .cons q this
  ·exact .cons q2 this
section
variable {X:Cx}{e st:Expr}{te:TE}{lo:Option Expr}{pos p2:Pos}
def zV8(K:W.Frag)(o:Bool)(te:TE):TE:=λσ H Q=>te σ H λx H1=>∃a xs,x=.ref a/\SqL K H1 a xs/\∀p,H1 p=none->Q (.ref p) (upd H1 p (.lst (Zj o xs)))
def zj9{o:Bool}(he:PE X e te)(hlo:PO X lo λ_ H Q=>Q (if o then some 1 else none) H)(hst:PE X st λ_ H Q=>Q (.int 2) H):PE X (.Subscript e (.Slice lo none (some st) p2) pos) (zV8 X.K o te):=by
 intro pins s σ H Q I h;refine Subscript_ (thn (he pins s σ H _ I h) λv s1 ⟨x,H1,I1,r1,q1⟩=>?_);obtain⟨a,xs,rfl,hx,q1⟩:=q1
 refine wpAny_Slice (thn (hlo pins s1 σ H1 (λo' H2=>o'=(if o then some 1 else none)/\H2=H1) I1 ⟨rfl,rfl⟩) λvl s2 ⟨l,H2,I2,pl,el,eH⟩=>?_)
 subst el eH;rw[evalPart_none];refine zf ?_;rw[evalPart_some];refine thn (hst pins s2 σ H2 (λy H3=>y=.int 2/\H3=H2) I2 ⟨rfl,rfl⟩) λu s3 ⟨y,H3,I3,ry,ey,eH⟩=>?_;subst ey eH;obtain⟨tk,rfl⟩:=ry;cases r1;have I4:Inv X pins σ H3 { s3 with heap:=s3.heap.push { cls:=.type "slice",data:=.fields #[vl,.none,.int 2 tk] } }:=I3.kept (t':=s3.toks) λb ob q=>ze _ q;obtain⟨its,r,ht,hz⟩:=I4.list hx;have hlen:=r.length
 refine tail_any (ops:=[.ref a,.ref s3.heap.objs.size]) ht.isList.typeIs slot_list_getitem.lookup (wpAny_getItem_list_slice ht.isList (Heap.IsSliceOf.new ..) pl .none (.int 2 tk) (by simp) ?_ (by rw[zw]<;>lia)) (by with_unfolding_all rfl)
 rw[zp2];refine⟨.ref _,_,I4.laid (t':=s3.toks) (o:=.lst (Zj o xs)) (λb ob q=>ze _ q) (zo _) ?_,rfl,q1 _ (I4.hok.fresh (zo _))⟩;exact⟨zB (YQ o xs) hz,Zj o its,0,r.half o,zq _ rfl⟩
def Ks(hc:X.calm=true):qo X (.builtin "max") (λxs H Q=>∃i j l,xs=[.int i,.int j,.int l]/\Q (.int (max (max i j) l)) H):=by
 intro pins s σ H xs us Q I r h;obtain⟨i,j,l,rfl,q⟩:=h
 cases r with
 | cons r1 r2 =>
  obtain⟨u,w',rfl,⟨t',rfl⟩,⟨t'',rfl⟩⟩:=zJ9 r2;obtain⟨t,rfl⟩:=r1;refine max_three_ints (I.ok.hd hc) λh' tk k=>⟨_,H,I.kept k,?_,q⟩
  by_cases h1:j > i
  ·rw [if_pos h1]
   by_cases h2:l > j
   ·rw[if_pos h2];exact⟨_,congrArg (λz=>Value.int z _) w5⟩
   ·rw[if_neg h2];exact⟨_,congrArg (λz=>Value.int z _) w5⟩
  ·rw [if_neg h1]
   by_cases h2:l > i
   ·rw[if_pos h2];exact⟨_,congrArg (λz=>Value.int z _) w5⟩
   ·rw[if_neg h2];exact⟨_,congrArg (λz=>Value.int z _) w5⟩
end
section
variable {A:AC}{X:Cx}{a:Expr}{ta:TD}{pos p2 p3 p4:Pos}
def zD8(o:Bool)(ta:TD):TD:=λrho n P=>ta rho n λd n1=>zm9 d λfs=>P (.lst (Zj o fs)) n1
@[simp] theorem xx4{o ta rho n P}:zD8 o ta rho n P=ta rho n λd n1=>zm9 d λfs=>P (.lst (Zj o fs)) n1:=rfl
def zp3{o:Bool}(hK:X.K=A.K){sg:St}{H:Hp}{Q:VK}(h:tOf A (zD8 o ta) sg H Q):zV8 X.K o (tOf A ta) sg H Q:=by
 obtain⟨rho,n,P,ds,vs,I,ht,hQ⟩:=h;refine⟨rho,n,_,ds,vs,I,ht,λv H1 n1 d ⟨os,J⟩ k=>?_⟩;obtain⟨fs,hd,k⟩:=k;obtain⟨J1,r⟩:=J.pop;rw[hK]
 rcases hd with rfl |rfl
 ·obtain⟨l,xs,rfl,sq,rs⟩:=r.lst_inv;exact⟨l,xs,rfl,sq.sq,λp hp=>hQ _ _ n1 _ ⟨os,J1.newLst (rs.half o) hp⟩ k⟩
 ·obtain⟨l,xs,rfl,sq,rs⟩:=r.fz_inv;exact⟨l,xs,rfl,sq,λp hp=>hQ _ _ n1 _ ⟨os,J1.newLst (rs.half o) hp⟩ k⟩
def xy7{j:Nat}(hK:X.K=A.K)(ha:PD A X a ta):PD A X (.Subscript a (.Slice none none (some (.Constant (.int 2) j p3)) p2) pos) (zD8 false ta):=by exists (zj9 (o:=false) ha (λpins s σ H Q I q=>by rw[evalPart_none];exact zf ⟨none,H,I,.none,q⟩) Qn).imp λsg H Q h=>zp3 hK h
def xy6{i j:Nat}(hK:X.K=A.K)(ha:PD A X a ta):PD A X (.Subscript a (.Slice (some (.Constant (.int 1) i p4)) none (some (.Constant (.int 2) j p3)) p2) pos) (zD8 true ta):=by exists (zj9 (o:=true) ha (λpins s σ H Q I q=>zj5 Qn pins s σ H Q I ⟨1,rfl,q⟩) Qn).imp λsg H Q h=>zp3 hK h
def xf3:List D->(D->Prop)->Prop:=λes k=>∃i j l,es=[.int i,.int j,.int l]/\k (.int (max (max i j) l))
@[simp] theorem xv6{i j l k}:xf3 [.int i,.int j,.int l] k↔k (.int (max (max i j) l)):=⟨fun⟨_,_,_,e,h⟩=>by cases e;exact h,λh=>⟨_,_,_,rfl,h⟩⟩
def zr8:vE A (λxs H Q=>∃i j l,xs=[.int i,.int j,.int l]/\Q (.int (max (max i j) l)) H) xf3:=by
 rintro os n rho sg H ds vs es ws k Q I rs ⟨i,j,l,rfl,q⟩ hQ;obtain⟨v,r,rfl,r1,r2⟩:=rs.split;obtain⟨v',v'',rfl,r',r''⟩:=UB r2
 exact⟨i,j,l,by rw[r1.int_inv,r'.int_inv,r''.int_inv],hQ _ H _ ⟨os,I.push (Rep.ofS rfl)⟩ q⟩
def zH9(caps:List Nat)(tb:TD)(rho:Rho)(n1:Nat)(R:D->Nat->Prop)(es:List D):Prop:=∃(rows:List D) (keys:List SRow) (fl:Bool) (cs:List D),es=[.lst rows]/\rows.length<64/\keys.length=rows.length/\(∀x∈keys,x.key.num=fl)/\(keys.map SRow.name).Nodup /\
 cs.length=caps.length/\(∀(i j:Nat),caps[i]?=some j->∃d,cs[i]?=some d/\rho[j]?=some (some d)/\xT d=true)/\(∀(i:Nat) (d:D) (x:SRow),rows[i]?=some d->keys[i]?=some x->tb (some d::cs.map some) n1 λe n2=>e=x.d/\n2=n1) /\
 ∀ls:List Nat,ls.Perm (List.range rows.length)->(ls.map λi=>keys.getD i Yt).Pairwise (λx y=>x.lt y=true)->R (.lst (ls.map λi=>rows.getD i .non)) n1
@[simp] theorem xm8{caps tb t1 rho n R}:zI9 caps tb t1 rho n R=t1 rho n λes n1=>zH9 caps tb rho n1 R es:=rfl
def KW{α:Type}{caps:List Nat}{tb:TD}{rho:Rho}{n:Nat}{R:D->Nat->Prop}(enc:α->D)(key:α->SRow)(fl:Bool)(cs:List D)(ts:List α)(a0:α)(h64:ts.length<64)(hn:∀t∈ts,(key t).key.num=fl)(hnd:(ts.map λt=>(key t).name).Nodup)(hcs:cs.length=caps.length)
  (hcap:∀(i j:Nat),caps[i]?=some j->∃d,cs[i]?=some d/\rho[j]?=some (some d)/\xT d=true) (htb:∀t∈ts,tb (some (enc t)::cs.map some) n λe n2=>e=(key t).d/\n2=n)
  (fin:∀us:List α,us.Perm ts->us.Pairwise (λa b=>(key a).lt (key b)=true)->R (.lst (us.map enc)) n):zH9 caps tb rho n R [.lst (ts.map enc)]:=by
 refine⟨ts.map enc,ts.map key,fl,cs,rfl,by rw[zg];exact h64,by rw[zg,zg],λx hx=>?_,by rw[zE];exact hnd,hcs,hcap,λi d x e1 e2=>?_,λls hp hs=>?_⟩
 ·obtain⟨t,ht,rfl⟩:=zk.mp hx;exact hn t ht
 ·rw [zt] at e1 e2
  cases et:ts[i]? with
  |none=>rw[et] at e1;cases e1
  |some t=>
   rw[et] at e1 e2;cases e1;cases e2;exact htb t (zP et)
 ·rw [zg] at hp;have hls:∀ i∈ls,i<ts.length:=λi hi=>yj.mp (hp.mem_iff.mp hi)
  have g:∀{β:Type} (f:α->β) (b0:β) (i:Nat),i<ts.length->(ts.map f).getD i b0=f (ts.getD i a0):=λf b0 i hi=>by
   rw[zL,zL,zt,zd hi];rfl
  have e1:(ls.map λi=>(ts.map enc).getD i .non)=(ls.map λi=>ts.getD i a0).map enc:=by
   rw[zE];exact ye λi hi=>g enc .non i (hls i hi)
  have e2:(ls.map λi=>(ts.map key).getD i Yt)=(ls.map λi=>ts.getD i a0).map key:=by
   rw[zE];exact ye λi hi=>g key Yt i (hls i hi)
  rw[e2,xG] at hs;rw[e1];refine fin _ ?_ hs;have p2:=hp.map λi=>ts.getD i a0
  rwa [UT] at p2
end
def zH5(N:List Str)(p:Str)(sc:Scope):Bool:=
 ((sc.kind == .function&&(!sc.isCoroutine&&!sc.isGenerator))&&sc.names.all (λz=>z.2 != .cell&&(z.2 != .free||(N.drop 1).contains z.1)))&&((N[0]? == some p&&sc.names.lookup p == some .local)&&(N.drop 1).all (λx=>sc.names.lookup x == some .free))
def zB7{N:List Str}{p:Str}{sc:Scope}{clos:List (Str × Addr)}(h:zH5 N p sc=true)(hc:∀x∈N.drop 1,∃c,clos.lookup x=some c):LamScope N p sc clos:=by
 unfold zH5 at h;simp only[zM,Bool.or_eq_true,wT,beq_iff_eq,bne_iff_ne,Bool.not_eq_true',List.contains_iff_mem] at h;obtain⟨⟨⟨h1,h2,h3⟩,h4⟩,⟨h5,h6⟩,h7⟩:=h;refine⟨h1,h2,h3,λx hx=>(h4 x hx).1,h5,h6,λx hx=>?_,λi x e=>?_⟩
 ·rcases (h4 _ (PySem.mem_of_lookup hx)).2 with z | z
  ·exact absurd rfl z
  ·exact hc x z
 ·refine h7 x ?_
  exact zP (l:=N.drop 1) (i:=i) (by rw[yl];rw[Nat.add_comm];exact e)
def Caps.one{X:Cx}{p y:Str}{a:Addr}{j:Nat}(hk:X.env.kindOf y=some .cell)(hj:X.N[j]?=some y)(hc:X.env.cells.lookup y=some a):Caps X [p,y] [(y,a)] [j]:=by
 refine⟨rfl,λi x e=>?_,λx c e=>?_,λi x e=>?_⟩
 ·cases i with
  |zero=>cases e;exact⟨hk,j,rfl,hj⟩
  |succ i=>simp at e
 ·rw [xB] at e
  split at e
  ·rename_i h;cases e;rw[eq_of_beq h];exact hc
  ·cases e
 ·cases i with
  |zero=>cases e;exact⟨a,by rw[xB,beq_self_eq_true]⟩
  |succ i=>simp at e
def zE3{p y:Str}{a:Addr}:∀x∈[p,y].drop 1,∃c,[(y,a)].lookup x=some c:=λx hx=>by
 have e:x=y:=by simpa using hx
 subst e
 exact⟨a,by rw[xB,beq_self_eq_true]⟩
def zV5{K:W.Frag}{x:Str}{f c P:Addr}{o1 p1:Value}{o2 p2:Option Addr}{o4 p4:Array (Option Value)}{fd:FuncData}{vv:Array Value}(a:W.nsIn K mainGlobals x=some (some (.ref f)))(l:K.lookup f=some ⟨o1,o2,.func fd,o4⟩)(le:fd.code=.ref c)(lc:K.lookup c=some ⟨p1,p2,.fields vv,p4⟩)(lp:vv[11]?=some (.ref P)) :
  W.tabIn K x=some (c,P):=by
 unfold W.tabIn;rw[a];simp only[l,le,lc,lp]
def zK1(K:W.Frag)(P:Addr)(q q':Str)(h:kZ K P q)(h':kZ K P q'):q=q':=by
 obtain⟨x,hx,c,_,rfl⟩:=h;obtain⟨y,hy,c',_,rfl⟩:=h'
 have e1:x = "_law_grown" := by simpa [qi] using hx
 have e2:y = "_law_grown" := by simpa [qi] using hy
 rw[e1,e2]
section
variable {prog:Program}{w:World}{A:Around}{R:Result->Shared->Prop}{s:Shared}{elt tg1 it1 tg2 it2:Expr}{ifs1 ifs2:List Expr}{scope:Scope}{pos:Pos}{it acc:Value}{env:Env}
end
section
variable {X':Cx}{P5:List (Addr × Obj)}{σ6:St}{H8:Hp}{s8:Shared}{elt tg1 it1 tg2 it2:Expr}{ifs1 ifs2:List Expr}{scope:Scope}{pos:Pos}{g2:TG}{tt2:TT}{te:TE}
end
section
variable {X:Cx}{scope:Scope}{own M:List Str}{pins:List (Addr × Obj)}{σ:St}{H2:Hp}{s2:Shared}{elt tg1 it1 tg2 it2:Expr}{ifs1 ifs2:List Expr}{pos:Pos}{g1 g2:TG}{tt1 tt2:TT}{te:TE}{wi2:TI}
end
def ZC:Rho->Rho->Prop
 |[],[]=>True
 |none::r,_::r'=>ZC r r'
 |some d::r,o::r'=>o=some d/\ZC r r'
 |_,_=>False
@[simp] theorem xl2:ZC [] []=True:=rfl
@[simp] theorem xl1{o:Option D}{r r':Rho}:ZC (none::r) (o::r')=ZC r r':=rfl
@[simp] theorem xl0{d:D}{o:Option D}{r r':Rho}:ZC (some d::r) (o::r')=(o=some d/\ZC r r'):=rfl
@[simp] theorem XG:∀r:Rho,ZC r r
 |[]=>True.intro
 |none::r=>XG r
 |some d::r=>⟨rfl,XG r⟩
def xP1(g2:TGD)(tt2:TBD)(te:TD)(rho2:Rho)(acc:List D)(R:List D->Nat->Prop)(items2:List D)(n:Nat):Prop:=∃J2:Nat->List D->Nat->Prop,J2 0 acc n /\
 (∀i d acc n,items2[i]?=some d->J2 i acc n->acc.length<sizeLine/\g2 d rho2 λrho3=>ZC rho2 rho3/\tt2 rho3 n λc n2=>if c=true then te rho3 n2 λe n3=>J2 (i+1) (acc++[e]) n3 else J2 (i+1) acc n2) /\
 ∀acc n,J2 items2.length acc n->R acc n
def zs2(own:Nat)(g1:TGD)(tt1:TBD)(it2:TID)(g2:TGD)(tt2:TBD)(te:TD)(rho:Rho)(P:D->Nat->Prop)(items:List D)(n1:Nat):Prop:=∃J:Nat->List D->Nat->Prop,J 0 [] n1 /\
 (∀i d acc n,items[i]?=some d->J i acc n->g1 d (replicate own none++rho) λrho2=>rho2.drop own=rho/\tt1 rho2 n λc n2=>if c=true then it2 rho2 n2 (xP1 g2 tt2 te rho2 acc (J (i+1))) else J (i+1) acc n2) /\
 ∀acc n,J items.length acc n->acc.length<=sizeLine/\P (.lst acc) n
def xi0(it:TID)(own:Nat)(g1:TGD)(tt1:TBD)(it2:TID)(g2:TGD)(tt2:TBD)(te:TD):TD:=λrho n P=>it rho n (zs2 own g1 tt1 it2 g2 tt2 te rho P)
@[simp] theorem xn3{it own g1 tt1 it2 g2 tt2 te rho n P}:xi0 it own g1 tt1 it2 g2 tt2 te rho n P=it rho n (zs2 own g1 tt1 it2 g2 tt2 te rho P):=rfl
section
variable {A:AC}{X:Cx}{elt tg1 it1 tg2 it2:Expr}{ifs1 ifs2:List Expr}{scope:Scope}{own M:List Str}{pos:Pos}{i1 i2:TID}{g1 g2:TGD}{tt1 tt2:TBD}{te:TD}
end
section
variable {X:Cx}
end
def zS8(te:TD):TD:=λrho n P=>te rho n λd n1=>∃(bs:List Bool) (j:Nat),d=.lst (bs.map D.bl)/\bs[j]?=some true/\(∀m,m<j->bs[m]?=some false)/\bs.length<=1000/\P (.int j) n1
@[simp] theorem xa1{te rho n P}:zS8 te rho n P=te rho n λd n1=>∃(bs:List Bool) (j:Nat),d=.lst (bs.map D.bl)/\bs[j]?=some true/\(∀m,m<j->bs[m]?=some false)/\bs.length<=1000/\P (.int j) n1:=rfl
section
variable {A:AC}{X:Cx}
end
section
variable {A:AC}{X:Cx}{e:Expr}{t1:TAD}{pos:Pos}
def zL3(i j:Nat)(t:TAD):TSD:=λF rho n=>Za rho[i]? λes=>Za rho[j]? λfs=>i≠j/\es.length<sizeLine/\t rho n λds n1=>∃(k:Nat) (d:D),ds=[.int k]/\k<1000000/\fs[k]?=some d/\F.nx ((rho.set j (some (.own (fs.eraseIdx k)))).set i (some (.own (es++[d])))) n1
@[simp] theorem zZ5{i j t F rho n}:zL3 i j t F rho n=Za rho[i]? λes=>Za rho[j]? λfs=>i≠j/\es.length<sizeLine/\t rho n λds n1=>∃(k:Nat) (d:D),ds=[.int k]/\k<1000000/\fs[k]?=some d/\F.nx ((rho.set j (some (.own (fs.eraseIdx k)))).set i (some (.own (es++[d])))) n1:=rfl
def zW7(i j:Nat)(t:TAD):TSD:=λF rho n=>i<rho.length/\j<rho.length/\t rho n λds n1=>zT9 ds λfs=>F.nx ((rho.set i (some (.own fs))).set j (some (.own []))) n1
@[simp] theorem xj8{i j t F rho n}:zW7 i j t F rho n=(i<rho.length/\j<rho.length/\t rho n λds n1=>zT9 ds λfs=>F.nx ((rho.set i (some (.own fs))).set j (some (.own []))) n1):=rfl
end
section
variable {A:AC}{X:Cx}
def zW2:D->Str
 |.int i=>toString i
 |d=>zK9 d
def xH4(d:D):Prop:=(∃i:Int,d=.int i/\i.natAbs.log2<1920)\/xz2 d
def xf0:List D->(D->Prop)->Prop:=λes k=>∃d,es=[d]/\xH4 d/\k (.str (zW2 d))
@[simp] theorem xl8{d k}:xf0 [d] k↔(xH4 d/\k (.str (zW2 d))):=⟨fun⟨_,e,h⟩=>by cases e;exact h,λh=>⟨_,rfl,h⟩⟩
end
def atS:List Str->List D->Str->Option D
 |k::ks,d::ds,x=>if k=x then some d else atS ks ds x
 |_,_,_=>none
section
variable {X:Cx}{A:AC}{a b:Expr}{ta tb:TD}{pos p:Pos}{g:Str}{ks:List Str}{ds:List D}
def xQ5(ks:List Str)(ds:List D)(ta:TD):TD:=λrho n P=>ta rho n λd n1=>∃x,d=.str x/\P (.bl (atS ks ds x).isSome) n1
@[simp] theorem xF6{ta:TD}{rho:Rho}{n:Nat}{P:D->Nat->Prop}:xQ5 ks ds ta rho n P=ta rho n λd n1=>∃x,d=.str x/\P (.bl (atS ks ds x).isSome) n1:=rfl
def xQ4(ks:List Str)(ds:List D)(tb:TD):TD:=λrho n P=>tb rho n λd n1=>∃x d',d=.str x/\atS ks ds x=some d'/\P d' n1
@[simp] theorem xF5{tb:TD}{rho:Rho}{n:Nat}{P:D->Nat->Prop}:xQ4 ks ds tb rho n P=tb rho n λd n1=>∃x d',d=.str x/\atS ks ds x=some d'/\P d' n1:=rfl
end
section
variable {prog:Program}{w:World}{A:Around}{E:Value->Shared->Prop}{s:Shared}
end
section
variable {X:Cx}
end
section
variable {A:AC}
end
theorem UU{α β:Type}(f:α->β):∀(l:List α) (j:Nat),(l.eraseIdx j).map f=(l.map f).eraseIdx j
 |[],_=>rfl
 |_::_,0=>rfl
 |x::l,j+1=>congrArg (f x::·) (UU f l j)
section
variable {κ:Type} [DecidableEq κ]
def XR(xs:List (κ × Addr × Value))(k:κ):List (κ × Addr × Value):=xs.filter λx=>decide (x.1≠k)
theorem QE:∀{xs:List (κ × Addr × Value)}{k:κ},k ∉ xs.map (·.1)->XR xs k=xs
 |[],_,_=>rfl
 |x::xs,k,h=>by
  have h1:x.1≠k:=λe=>h (by simp[e])
  have h2:XR xs k=xs:=QE λz=>h (zm _ z);show List.filter _ (x::xs)=_
  rw[xn (by simpa using h1)]
  exact congrArg _ h2
theorem Kk:∀{xs:List (κ × Addr × Value)}{k:κ}{p:Addr × Value}{j:Nat},(xs.map (·.1)).Nodup->xs[j]?=some (k,p)->xs.eraseIdx j=XR xs k
 |[],_,_,_,_,h=>by simp at h
 |x::xs,k,p,0,hn,h=>by
  have e:x=(k,p):=by simpa using h
  subst e;have hn':=xz.mp hn;show xs=List.filter _ ((k,p)::xs)
  rw[xp (by simp)]
  exact(QE hn'.1).symm
 |x::xs,k,p,j+1,hn,h=>by
  have h':xs[j]?=some (k,p):=by simpa using h
  have hn':=xz.mp hn;have hx:x.1≠k:=λe=>hn'.1 (zk.mpr ⟨(k,p),zP h',e.symm⟩);show x::xs.eraseIdx j=List.filter _ (x::xs)
  rw[xn (by simpa using hx)]
  exact congrArg _ (Kk hn'.2 h')
theorem KD:∀{xs:List (κ × Addr × Value)}{k:κ}{p:Addr × Value},atKey xs k=some p->∃j:Nat,xs[j]?=some (k,p)
 |[],_,_,h=>by simp[atKey] at h
 | x :: xs, k, p, h => by
  by_cases e:x.1=k
  ·refine⟨0,?_⟩;simp[atKey,wA,e] at h;simp[<- h,<- e]
  ·obtain ⟨j, hj⟩ := KD (xs := xs) (k := k) (p := p) (by simpa [atKey, wA, e] using h)
   exact⟨j+1,by simpa using hj⟩
variable {prog:Program}{w:World}{knd:HeapKind prog w κ}{A:Around}{E:Value->Shared->Prop}{s:Shared}{d a:Addr}{k:κ}{xs:List (κ × Addr × Value)}{p:Addr × Value}
theorem zv5{Q:Option DictEntry->Shared->Prop}(hu:knd.room A)(hkey:knd.is s.heap k a)(hm:s.heap.DictOfH knd d xs)(hp:atKey xs k=some p)(hsz:xs.length<=sizeLine)
  (hQ:∀h',h'.DictOfH knd d (XR xs k)->Heap.SameBut d s.heap h'->Q (some ⟨knd.hash k,.ref p.1,p.2⟩) { s with heap:=h',toks:=s.toks+knd.draws k }):wpAny (model prog w) A (Builtin.Dict.takeOut d (.ref a)) Q E s:=by
 obtain⟨o,es,ep,ho,hc,hdat,hent,his,hn⟩:=hm;unfold Builtin.Dict.takeOut;refine xF (zb (knd.pyHash hu hkey (zb (wpAny_dictFind_heap (s:={ s with toks:=s.toks+knd.draws k }) hu hkey ho hdat hent his hn (λhno=>?_) λj q hj=>?_))))
 ·rw[atKey_none_of_get hno] at hp;cases hp
 ·have eq : q = p := by rw [atKey_of_get hn hj] at hp; exact zF hp
  subst eq
  have e1:es[j]?=some ⟨knd.hash k,.ref q.1,q.2⟩:=by rw[entry_at hent j,hj];rfl
  refine zb (xQ (s:={ s with toks:=s.toks+knd.draws k }) ho hdat ?_);rw[e1]
  have e2:es.size<=sizeLine:=by rw[size_of_entries hent];exact hsz
  have e3:(es.eraseIdxIfInBounds j).toList=(XR xs k).map (entryOfKey knd):=by
   rw[<- Kk hn hj,UU,<- hent];obtain⟨l⟩:=es;simp
  have e4:((XR xs k).map (·.1)).Nodup:=hn.sublist (List.Sublist.map _ filter_sublist);refine zb (wpAny_updateDictKeys (hz:=e2) (s:={ s with toks:=s.toks+knd.draws k }) ho hdat (zf (hQ _ ⟨_,_,ep+1,xN _ ho (Obj.isFreed_of_dict (Obj.data_mapDictKeys hdat _)),hc.mapDictKeys _,Obj.data_mapDictKeys hdat _,e3,λx hx=>?_,e4⟩ (Heap.SameBut.update ..))));exact knd.keeps (his x (zx.mp hx).1) ho hdat (Heap.SameBut.update ..)
theorem xO5(hu:knd.room A.in1)(hkey:knd.is s.heap k a)(hm:s.heap.DictOfH knd d xs)(hp:atKey xs k=some p)(hsz:xs.length<=sizeLine){Q:Value->Shared->Prop}
  (hQ:∀h' t',h'.DictOfH knd d (XR xs k)->Heap.SameBut d s.heap h'->Q p.2 { s with heap:=h',toks:=t' }):wpAny (model prog w) A (call (.builtin "dict.pop") [.ref d,.ref a]) Q E s:=by
 refine call_meetsIn PySem.F.slot_dict_pop hm.typeIs PySem.F.entry_dict_pop (PySem.F.args_dict_pop_2 _ _) (S:=λB R s'=>s'=s/\B=A/\∀h',h'.DictOfH knd d (XR xs k)->Heap.SameBut d s.heap h'->R (.ok (.ret p.2)) { s with heap:=h',toks:=s.toks+knd.draws k }) (.of_wp ?_) ⟨rfl,rfl,λh' h1 h2=>hQ h' _ h1 h2⟩;rintro B R s' ⟨rfl,rfl,h⟩;obtain⟨o,es,ep,ho,hc,hdat,hent,his,hn⟩:=id hm;obtain⟨j,hj⟩:=KD hp
 have hne:es.isEmpty=false:=by
  have:=size_of_entries hent;have hjl:j<xs.length:=(zn.mp hj).1
  cases es with
  |mk l=>cases l with
   |nil=>simp at this;lia
   |cons _ _=>rfl
 unfold Builtin.«dict.pop» Builtin.Dict.keyAndDefault;refine zb (zb (wpAny_notOrdered_dict hm.typeIs ?_));show wpAny _ _ (pure (d,Value.ref a,none)) _ _ _;refine zf ?_;have hk0:(keyPart (Value.ref a)).isSome=false:=rfl;simp only[hk0,zU,if_false];refine zb (xQ ho hdat (zb (zf ?_)));rw[hne];simp only[zU,if_false];refine zb (zv5 hu hkey hm hp hsz λh' h1 h2=>?_);simp only[Option.isNone_some,zU,if_false];exact zb (yq (zf ⟨p.2,rfl,h h' h1 h2⟩))
def kf(xs ys:List (κ × Addr × Value)):List (κ × Addr × Value):=ys.foldl (λz y=>storedH z y.1 y.2.1 y.2.2) xs
theorem Jp{xs ys:List (κ × Addr × Value)}{i:Nat}{y:κ × Addr × Value}(e:ys[i]?=some y):kf xs (ys.take (i+1))=storedH (kf xs (ys.take i)) y.1 y.2.1 y.2.2:=by
 unfold kf;rw[xC,e,List.foldl_append];rfl
theorem za4(xs:List (κ × Addr × Value))(k:κ)(a:Addr)(v:Value):(storedH xs k a v).length<=xs.length+1:=by
 unfold storedH
 split
 ·simp
 ·simp
theorem XA:∀(ys xs:List (κ × Addr × Value)),(kf xs ys).length<=xs.length+ys.length
 |[],xs=>zo _
 |y::ys,xs=>by
  have h1:=XA ys (storedH xs y.1 y.2.1 y.2.2);have h2:=za4 xs y.1 y.2.1 y.2.2;have h3:kf xs (y::ys)=kf (storedH xs y.1 y.2.1 y.2.2) ys:=rfl;rw[h3,zK];lia
theorem QS{xs:List (κ × Addr × Value)}{k:κ}(h:k ∉ xs.map (·.1)):atKey xs k=none:=
 atKey_none_of_get λj p e=>h (zk.mpr ⟨(k,p),zP e,rfl⟩)
theorem WL:∀(ys xs:List (κ × Addr × Value)),((xs++ys).map (·.1)).Nodup->kf xs ys=xs++ys
 |[],xs,_=>by simp[kf]
 | y :: ys, xs, hn => by
  have h0:y.1 ∉ xs.map (·.1):=by
   rw[zS,wu] at hn
   exact λm=>hn.2.2 _ m _ (by simp) rfl
  have h3:kf xs (y::ys)=kf (storedH xs y.1 y.2.1 y.2.2) ys:=rfl
  rw[h3,storedH_new (QS h0),WL ys (xs++[(y.1,y.2.1,y.2.2)]) (by simpa using hn)]
  simp
theorem WT{α:Type}(f:α->Int)(c:Int):∀(l:List α),(l.map f).Nodup->(l.filter λx=>f x == c).length<=1
 |[],_=>by simp
 | x :: l, h => by
  obtain⟨h1,h2⟩:=xz.mp h
  by_cases e:f x=c
  ·have z : (l.filter λx => f x == c) = [] := by
    rw[List.filter_eq_nil_iff];intro y hy t;exact h1 (zk.mpr ⟨y,hy,(eq_of_beq t).trans e.symm⟩)
   rw[xn (by simpa using e),z]
   simp
  ·rw [xp (by simpa using e)]
   exact WT f c l h2
variable {prog:Program}{w:World}{knd:HeapKind prog w κ}{A:Around}{E:Value->Shared->Prop}{s:Shared}{d o a:Addr}{k:κ}{v:Value}{xs ys:List (κ × Addr × Value)}
theorem za6{Q:Unit->Shared->Prop}(hu:knd.room A)(hkey:knd.is s.heap k a)(hm:s.heap.DictOfH knd d xs)(hsz:xs.length<=sizeLine)
  (hQ:∀h',h'.DictOfH knd d (storedH xs k a v)->Heap.SameBut d s.heap h'->Q () { s with heap:=h' }):wpAny (model prog w) A (dictSetHashed d (.ref a) (knd.hash k) v) Q E s:=by
 obtain⟨ob,es,ep,ho,hc,hdat,hent,his,hn⟩:=hm;unfold dictSetHashed;refine xF (zb (wpAny_dictFind_heap hu hkey ho hdat hent his hn (λhno=>?_) λj q hj=>?_))
 ·have e0 := storedH_new (atKey_none_of_get hno) a v
  have e1:es.size<=sizeLine:=by rw[size_of_entries hent];exact hsz
  refine zb (yT (wpAny_updateDictKeys (hz:=e1) ho hdat (hQ _ ⟨_,_,ep+1,xN _ ho (Obj.isFreed_of_dict (Obj.data_mapDictKeys hdat _)),hc.mapDictKeys _,Obj.data_mapDictKeys hdat _,?_,λx hx=>?_,?_⟩ (Heap.SameBut.update ..))))
  ·rw[e0];simp[hent,entryOfKey]
  ·rw [e0] at hx
   rcases zW.mp hx with m |m
   ·exact knd.keeps (his x m) ho hdat (Heap.SameBut.update ..)
   ·cases zG.mp m;exact knd.keeps hkey ho hdat (Heap.SameBut.update ..)
  ·rw [e0, zS, wu]
   refine⟨hn,by simp,λx hx y hy=>?_⟩
   have hy':y=k:=by simpa using hy
   subst hy';exact λz=>not_mem_keys_of_get hno (z ▸ hx)
 ·have e0 := storedH_old (atKey_of_get hn hj) a v;refine zb (yT (zb (wpAny_updateDict ho hdat (wpAny_point (hQ _ ⟨_,_,ep,xN _ ho (Obj.isFreed_of_dict (Obj.data_mapDict hdat _)),hc.mapDict _,Obj.data_mapDict hdat _,?_,λx hx=>?_,?_⟩ (Heap.SameBut.update ..))))))
  ·rw [e0];have t:=modify_map_putAt (entryOfKey knd) (λe:DictEntry=>{ e with val:=v }) k v (λ_ _=>rfl) hn hj;rw[<- hent] at t;cases es
   simpa using t
  ·rw [e0] at hx;obtain⟨y,hy,rfl⟩:=zk.mp hx;unfold putAt
   split
   ·exact knd.keeps (his y hy) ho hdat (Heap.SameBut.update ..)
   ·exact knd.keeps (his y hy) ho hdat (Heap.SameBut.update ..)
  ·rw[e0,keys_map_putAt];exact hn
theorem zp7{nm:String}{ob:Obj}{es:Array DictEntry}{ep:Nat}{Q:Array DictEntry->Shared->Prop}(ho:s.heap.get? o=some ob)(hdat:ob.data=.dict es ep)(hent:es.toList=ys.map (entryOfKey knd))
  (hty:∀y∈ys,s.TypeIs (.ref y.2.1) "tuple") (hh:(ys.map λy=>knd.hash y.1).Nodup) (hQ:Q es s):wpAny (model prog w) A (Builtin.Dict.entriesForEmpty nm o) Q E s:=by
 unfold Builtin.Dict.entriesForEmpty;refine zb (xQ ho hdat (zb ?_));rw[<- Array.forIn_toList];refine wpAny_forIn_list _ (λrest _ s'=>s'=s/\∃l,es.toList=l++rest) _ ?_ ?_ _ _ ⟨rfl,[],rfl⟩
 ·rintro e rest b s' ⟨rfl, l, el⟩
  have hm:e∈es.toList:=by rw[el];simp
  rw[hent] at hm;obtain⟨y,hy,rfl⟩:=zk.mp hm
  have one:(es.filter (·.hash == (entryOfKey knd y).hash)).size<=1:=by
   have t:=WT (λe:DictEntry=>e.hash) (entryOfKey knd y).hash es.toList (by rw[hent,zE];exact hh)
   rw[<- xX,Array.toList_filter];exact t
  show wpAny _ _ (Builtin.Dict.quietEq (.ref y.2.1) >>= _) _ _ _;refine zb ?_;unfold Builtin.Dict.quietEq;refine zb (wpAny_specialOf (hty y hy) PySem.F.slot_tuple_eq.lookup (zf ?_))
  rw[if_pos w6,if_neg w5]
  exact zf ⟨rfl,l++[entryOfKey knd y],by rw[el];simp⟩
 ·rintro b s' ⟨rfl,_⟩;exact zf hQ
theorem zc3{nm:String}{Q:Unit->Shared->Prop}(hu:knd.room A)(hdo:d≠o)(hoS:(o == sysModules)=false)(hd:s.heap.DictOfH knd d xs)(ho:s.heap.DictOfH knd o ys)
  (hty:∀y∈ys,s.TypeIs (.ref y.2.1) "tuple") (hh:xs=[]->(ys.map λy=>knd.hash y.1).Nodup) (hsz:xs.length+ys.length<=sizeLine)
  (hQ:∀h',h'.DictOfH knd d (kf xs ys)->Heap.SameBut d s.heap h'->Q () { s with heap:=h' }):wpAny (model prog w) A (Builtin.Dict.mergeDict nm d o) Q E s:=by
 obtain⟨od,esd,epd,hod,hcd,hdd,hed,hid,hnd⟩:=id hd;obtain⟨oo,eso,epo,hoo,hco,hdo',heo,hio,hno⟩:=id ho;have hlen:eso.size=ys.length:=size_of_entries heo;have walk:∀(i:Nat) (h':Heap),i<=ys.length->h'.DictOfH knd d (kf xs (ys.take i))->Heap.SameBut d s.heap h'->h'.get? o=some oo:=λi h' _ _ sb=>(sb.2 o (Ne.symm hdo)).trans hoo;unfold Builtin.Dict.mergeDict
 rw[if_neg (by simpa using hdo)]
 unfold Builtin.Dict.showsAll
 rw[if_neg (by rw[hoS];exact zy)]
 refine zb (zf (zb (xQ hoo hdo' ?_)));dsimp only
 split
 case' isTrue=>
  refine zb (xQ hod hdd ?_)
  split
  case isTrue hemp=>
   have hx:xs=[]:=by
    have e0:=size_of_entries hed;rw[Array.isEmpty_iff.mp hemp] at e0;exact zX.mp e0.symm
   refine zb (zp7 hoo hdo' heo hty (hh hx) ?_)
   rw[hx,WL ys [] (by simpa using hno)] at hQ
   split
   ·have hz : eso.size <= sizeLine + 1 := by lia
    refine zb (wpAny_updateDictKeysTo hod hdd (zf (hQ _ ⟨_,_,epd+1,xN _ hod (Obj.isFreed_of_dict (Obj.data_mapDictKeys hdd _)),hcd.mapDictKeys _,Obj.data_mapDictKeys hdd _,by simpa using heo,λx hm=>?_,by simpa using hno⟩ (Heap.SameBut.update ..))) hz)
    exact knd.keeps (hio x (by simpa using hm)) hod hdd (Heap.SameBut.update ..)
   ·rename_i hne
    have h0:eso=#[]:=Array.isEmpty_iff.mp (by simpa using hne)
    have hy:ys=[]:=zX.mp (by rw[<- hlen,h0];rfl)
    rw[hy] at hQ;rw[hx] at hd;exact zf (hQ _ hd (Heap.SameBut.refl _ _))
 all_goals
  refine zb (wpAny_dictEpoch hoo hdo' (zb (xQ hoo hdo' (zb ?_))));rw[Std.Legacy.Range.forIn_eq_forIn_range'];simp only[Std.Legacy.Range.size,Nat.sub_zero,Nat.add_sub_cancel,Nat.div_one]
  refine wpAny_forIn_list _ (λrest _ s'=>∃h' i,s'={ s with heap:=h' }/\rest=List.range' i (ys.length-i)/\i<=ys.length/\h'.DictOfH knd d (kf xs (ys.take i))/\Heap.SameBut d s.heap h') _ ?_ ?_ _ _ ⟨s.heap,0,rfl,by rw[hlen];rfl,wa _,by simpa [kf] using hd,Heap.SameBut.refl _ _⟩
  ·rintro x rest b s' ⟨h', i, rfl, hr, hi, hd', hs'⟩
   have hlt:i<ys.length:=by
    rcases Nat.lt_or_ge i ys.length with h |h
    ·exact h
    ·rw[Nat.sub_eq_zero_of_le h] at hr;exact nomatch hr
   have e0:ys.length-i=(ys.length-(i+1))+1:=w5
   rw[e0,List.range'_succ] at hr;injection hr with hr1 hr2;subst hr1 hr2;have hoo':=walk x h' hi hd' hs';obtain⟨y,hy⟩:∃y,ys[x]?=some y:=⟨ys[x],zd hlt⟩;refine zb (xQ hoo' hdo' ?_);rw[entry_at heo x,hy];have hmem:y∈ys:=zP hy;have hkey:knd.is h' y.1 y.2.1:=knd.keeps (hio y hmem) hod hdd hs'
   have hm:(kf xs (ys.take x)).length<=sizeLine:=by
    have q:=XA (ys.take x) xs;rw[yM] at q;lia
   refine zb (xF (za6 (s:={ s with heap:=h' }) hu hkey hd' hm λh2 hd2 hs2=>?_));have hoo2:h2.get? o=some oo:=(hs2.2 o (Ne.symm hdo)).trans hoo';refine zb (wpAny_dictEpoch (s:={ s with heap:=h2 }) hoo2 hdo' ?_)
   rw[if_neg (by simp)]
   exact zf ⟨h2,x+1,rfl,rfl,hlt,by rw[Jp hy];exact hd2,hs'.trans hs2⟩
  ·rintro b s' ⟨h', i, rfl, hr, hi, hd', hs'⟩
   have hin:i=ys.length:=by
    rcases Nat.lt_or_ge i ys.length with h |h
    ·rw[show ys.length-i=(ys.length-(i+1))+1 by lia,List.range'_succ] at hr;exact nomatch hr
    ·exact Nat.le_antisymm hi h
   subst hin;rw[wF] at hd';exact zf (hQ h' hd' hs')
theorem zK0{Q:Value->Shared->Prop}(hu:knd.room A.in1)(hdo:d≠o)(hoS:(o == sysModules)=false)(hd:s.heap.DictOfH knd d xs)(ho:s.heap.DictOfH knd o ys)
  (hty:∀y∈ys,s.TypeIs (.ref y.2.1) "tuple") (hh:xs=[]->(ys.map λy=>knd.hash y.1).Nodup) (hsz:xs.length+ys.length<=sizeLine)
  (hQ:∀h',h'.DictOfH knd d (kf xs ys)->Heap.SameBut d s.heap h'->Q .none { s with heap:=h' }):wpAny (model prog w) A (call (.builtin "dict.update") [.ref d,.ref o]) Q E s:=by
 refine call_meetsIn PySem.F.slot_dict_update hd.typeIs PySem.F.entry_dict_update (PySem.F.args_dict_update_2 _ _) (S:=λB R s'=>s'=s/\B=A/\∀h',h'.DictOfH knd d (kf xs ys)->Heap.SameBut d s.heap h'->R (.ok (.ret .none)) { s with heap:=h' }) (.of_wp ?_) ⟨rfl,rfl,λh' h1 h2=>hQ h' h1 h2⟩;rintro B R s' ⟨rfl,rfl,h⟩;unfold Builtin.«dict.update» Builtin.Dict.selfAndRest;refine zb (zb (wpAny_notOrdered_dict hd.typeIs ?_));show wpAny _ _ (pure (d,[Value.ref o])) _ _ s';refine zf ?_;show wpAny _ _ (Builtin.Dict.updateFrom "dict.update" d (.ref o) [] .none) _ _ s';unfold Builtin.Dict.updateFrom;refine zb (wpAny_typeOf ho.typeIs ?_)
 rw[if_neg w6]
 refine zb ?_;unfold Builtin.Dict.merge;refine zb ?_;unfold Builtin.Dict.readDirectly;refine zb (wpAny_isInstance ho.typeIs isSubtype_dict_dict ?_);simp only[Bool.not_true,zU,if_false];refine zb (wpAny_specialOf ho.typeIs F.slot_dict_iter.lookup (zf ?_));simp only[beq_self_eq_true,if_true];refine zb (zf (zc3 hu hdo hoS hd ho hty hh hsz λh' h1 h2=>?_));show wpAny _ _ (Builtin.Dict.addKeywords d [] >>= _) _ _ _;exact zb (zf (zf ⟨.none,rfl,h h' h1 h2⟩))
end
def KT.drop{H:Hp}{kvs:List (List Key × V)}{xs:List (List Key × Addr × Value)}(r:KT H kvs xs)(k:List Key):KT H (Wy kvs k) (XR xs k):=by
 induction r with
 |nil=>exact .nil
 | @cons p q ps qs hq t ih =>
  by_cases e:p.1=k
  ·have e' : q.1 = k := hq.1 ▸ e;unfold Wy XR
   rw[xp (by simpa using e),xp (by simpa using e')]
   exact ih
  ·have e' : ¬ q.1 = k := hq.1 ▸ e;unfold Wy XR
   rw[xn (by simpa using e),xn (by simpa using e')]
   exact .cons hq ih
def zI7{P:Program}{w:World}{H':Hp}{h':Heap}{a:Addr}{kvs:List (List Key × V)}{xs:List (List Key × Addr × Value)}(z:kvs.length<=sizeLine)(hd:(a == sysModules)=false)(rel:KT H' kvs xs)(dd:h'.DictOfH (tupleKind (yp P w)) a xs) :
  ObjOk P w H' h' a (.dT kvs):=let ⟨o,es,ep,h1,h2,h3,h4,_,h5⟩:=dd;⟨z,hd,xs,rel,o,es,ep,h1,h2,h3,h4,h5⟩
section
variable {X:Cx}{pins:List (Addr × Obj)}{σ:St}{H:Hp}{s:Shared}{a b:Addr}{A:Around}{E:Value->Shared->Prop}{kvs more:List (List Key × V)}{k:List Key}{v:V}
def KT.over{ob:HO}(e:H a=some (.dT kvs)){l:List (List Key × V)}{xs:List (List Key × Addr × Value)}(r:KT H l xs):KT (upd H a ob) l xs:=
 r.keeps λc ys q=>by rw[xV (λz=>by rw[z,e] at q;cases q)];exact q
def zH7(I:Inv X pins σ H s)(h:SqT X.K H b (k.map kV)):(tupleKind (yp X.prog X.w)).is s.heap k b:=by
 obtain⟨its,r,⟨o,h1,h2,n,h3⟩,_⟩:=I.tuple h
 exact⟨o,its.toArray,n,h1,h2,h3,by simpa using XH r⟩
def xh6{Q:Value->Shared->Prop}(hu:A.units+1<cLine)(I:Inv X pins σ H s)(e:H a=some (.dT kvs))(eb:SqT X.K H b (k.map kV))(l:Yp kvs k=some v)
  (h:∀w' s',Inv X pins σ (upd H a (.dT (Wy kvs k))) s'->RelV v w'->Q w' s'):wpAny (model X.prog X.w) A (call (.builtin "dict.pop") [.ref a,.ref b]) Q E s:=by
 obtain⟨z,hd,xs,rel,dd⟩:=zd3 I.hok e
 obtain⟨w',hw,rw'⟩:=RelO.some_of (v:=v) (o:=(atKey xs k).map (·.2)) (by rw[<- l];exact rel.val k)
 obtain⟨p,hp,rfl⟩:=Option.map_eq_some_iff.mp hw
 refine xO5 (tupleKind_room_in1 hu) (zH7 I eb) dd hp (by rw[<- rel.length];exact z) λh' t' d' hs=>h _ _ ?_ rw'
 have he:∃q,h'.get? a=some q:=let ⟨q,_,_,hq,_⟩:=d';⟨q,hq⟩
 exact zq9 I (by rw[e];exact True.intro) hs he (zI7 (zB (yk _ _) z) hd ((rel.drop k).over e) d')
def KT.mem{l:List (List Key × V)}{xs:List (List Key × Addr × Value)}(r:KT H l xs):∀x∈xs,∃ks,H x.2.1=some (.tup ks):=by
 induction r with
 |nil=>intro x hx;cases hx
 |@cons p q ps qs hq t ih=>
  intro x hx
  rcases zi.mp hx with e |hx
  ·subst e;exact⟨_,hq.2.1⟩
  ·exact ih x hx
def Yw(kvs more:List (List Key × V)):List (List Key × V):=more.foldl (λacc kv=>za8 acc kv.1 kv.2) kvs
def KT.merge{more:List (List Key × V)}{ys:List (List Key × Addr × Value)}(r:KT H more ys):∀{kvs:List (List Key × V)}{xs:List (List Key × Addr × Value)},KT H kvs xs->KT H (Yw kvs more) (kf xs ys):=by
 induction r with
 |nil=>exact λq=>q
 |@cons p q ps qs hq t ih=>
  intro kvs xs r';obtain⟨k,v⟩:=p;obtain⟨k',b,u⟩:=q;obtain⟨rfl,h2,h3⟩:=hq;exact ih (r'.put k h2 h3)
def KT.keys{l:List (List Key × V)}{xs:List (List Key × Addr × Value)}(r:KT H l xs):l.map (·.1)=xs.map (·.1):=by
 induction r with
 |nil=>rfl
 |@cons p q ps qs hq t ih=>rw[zJ,zJ,ih,hq.1]
def zq2{Q:Value->Shared->Prop}(hu:A.units+1<cLine)(I:Inv X pins σ H s)(e:H a=some (.dT kvs))(eb:H b=some (.dT more))(hab:a≠b)(hz:kvs.length+more.length<=sizeLine)
  (hh:kvs=[]->(more.map λkv=>(tupleKind (yp X.prog X.w)).hash kv.1).Nodup) (h:∀s',Inv X pins σ (upd H a (.dT (Yw kvs more))) s'->Q .none s'):wpAny (model X.prog X.w) A (call (.builtin "dict.update") [.ref a,.ref b]) Q E s:=by
 obtain⟨z,hd,xs,rel,dd⟩:=zd3 I.hok e;obtain⟨z2,hd2,ys,rel2,dd2⟩:=zd3 I.hok eb
 refine zK0 (tupleKind_room_in1 hu) hab hd2 dd dd2 (λy hy=>?_) (λq=>?_) (by rw[<- rel.length,<- rel2.length];exact hz) λh' d' hs=>h _ ?_
 ·obtain⟨ks,hk⟩:=rel2.mem y hy;obtain⟨_,its,_,o,h1,h2,_⟩:=(show ObjOk X.prog X.w H s.heap y.2.1 (.tup ks) from I.hok _ _ hk);exact⟨o,h1,h2⟩
 ·have e0 : kvs = [] := zX.mp (by rw [rel.length, q]; rfl)
  have t:=hh e0
  have k1:(more.map λkv=>(tupleKind (yp X.prog X.w)).hash kv.1)=(more.map (·.1)).map (tupleKind (yp X.prog X.w)).hash:=by simp
  have k2:(ys.map λkv=>(tupleKind (yp X.prog X.w)).hash kv.1)=(ys.map (·.1)).map (tupleKind (yp X.prog X.w)).hash:=by simp
  rw[k1,rel2.keys,<- k2] at t;exact t
 ·have he : ∃ q, h'.get? a = some q := let ⟨q, _, _, hq, _⟩ := d'; ⟨q, hq⟩
  have r3:=rel2.merge rel
  refine zq9 I (by rw[e];exact True.intro) hs he (zI7 ?_ hd (r3.over e) d')
  rw[r3.length];have q:=XA ys xs;rw[<- rel.length,<- rel2.length] at q;lia
def zW0(K:W.Frag)(td ty:TE):TE:=λσ H Q=>td σ H λx H1=>∃a,x=.ref a/\IsD H1 a/\ty σ H1 λy H2=>∃kvs k b v,H2 a=some (.dT kvs)/\y=.ref b/\SqT K H2 b (k.map kV)/\Yp kvs k=some v/\Q v (upd H2 a (.dT (Wy kvs k)))
def zz0{o e:Expr}{apos cpos:Pos}{td ty:TE}(hu:X.A.units+1<cLine)(ho:PE X o td)(he:PE X e ty)(m:M1 X o "pop" apos e cpos):PE X (.Call (.Attribute o "pop" apos) [e] [] cpos) (zW0 X.K td ty):=by
 intro pins s σ H Q I h;refine wpAny_Call_method m.base m.few m.line PySem.F.plainAttrs_dict PySem.F.slot_dict_pop PySem.F.type_dict_pop (thn (ho pins s σ H _ I h) λu s1 ⟨x,H1,I1,rx,a,ex,d,q1⟩=>?_);subst ex;cases(show u=Value.ref a from rx);obtain⟨t1,t2,_⟩:=zo4 I1 d;refine⟨t1,t2,?_⟩;rw[m.trees];refine Calls.callWith_builtin rfl (Calls.evalArgs_plain (Calls.spliced_cons (thn (he pins s1 σ H1 _ I1 q1) λiv s2 ⟨y,H2,I2,ry,kvs,k,b,v,ea,ey,sq,l,q2⟩=>Calls.spliced_nil ?_)));subst ey;cases(show iv=Value.ref b from ry);exact xh6 hu I2 ea sq l λw' s3 I3 rw'=>⟨v,_,I3,rw',q2⟩
def zV9(P:Program)(w:World)(td ty:TE):TE:=λσ H Q=>td σ H λx H1=>∃a,x=.ref a/\IsD H1 a/\ty σ H1 λy H2=>∃kvs more b,H2 a=some (.dT kvs)/\y=.ref b/\a≠b/\H2 b=some (.dT more)/\kvs.length+more.length<=sizeLine /\
 (kvs=[]->(more.map λkv=>(tupleKind (yp P w)).hash kv.1).Nodup)/\Q .non (upd H2 a (.dT (Yw kvs more)))
def zy9{o e:Expr}{apos cpos:Pos}{td ty:TE}(hu:X.A.units+1<cLine)(ho:PE X o td)(he:PE X e ty)(m:M1 X o "update" apos e cpos):PE X (.Call (.Attribute o "update" apos) [e] [] cpos) (zV9 X.prog X.w td ty):=by
 intro pins s σ H Q I h;refine wpAny_Call_method m.base m.few m.line PySem.F.plainAttrs_dict PySem.F.slot_dict_update PySem.F.type_dict_update (thn (ho pins s σ H _ I h) λu s1 ⟨x,H1,I1,rx,a,ex,d,q1⟩=>?_);subst ex;cases(show u=Value.ref a from rx);obtain⟨t1,t2,_⟩:=zo4 I1 d;refine⟨t1,t2,?_⟩;rw[m.trees];refine Calls.callWith_builtin rfl (Calls.evalArgs_plain (Calls.spliced_cons (thn (he pins s1 σ H1 _ I1 q1) λiv s2 ⟨y,H2,I2,ry,kvs,more,b,ea,ey,hab,eb,hz,hh,q2⟩=>Calls.spliced_nil ?_)));subst ey;cases(show iv=Value.ref b from ry);exact zq2 hu I2 ea eb hab hz hh λs3 I3=>⟨.non,_,I3,rfl,q2⟩
end
def atP{α:Type}:List (Int × Int)->List α->Int × Int->Option α
 |k::ks,e::es,x=>if k=x then some e else atP ks es x
 |_,_,_=>none
def YE(ks:List (Int × Int))(x:Int × Int):List (Int × Int):=ks.filter λk=>decide (k≠x)
def dropE{α:Type}:List (Int × Int)->List α->Int × Int->List α
 |k::ks,e::es,x=>if k=x then dropE ks es x else e::dropE ks es x
 |_,_,_=>[]
def Qx{x y:Int × Int}(h:kP x=kP y):x=y:=by
 obtain⟨a,b⟩:=x;obtain⟨c,d⟩:=y;unfold kP at h;injection h with h1 h2;injection h2 with h2 _;injection h1 with h1;injection h2 with h2;simp only at h1 h2;rw[h1,h2]
theorem JE:∀(ks:List (Int × Int)) (xs:List V) (x:Int × Int),Yp (qk ks xs) (kP x)=atP ks xs x
 |[],_,_=>by simp[qk,Yp,atP]
 |_::_,[],_=>by simp[qk,Yp,atP]
 |k::ks,y::xs,x=>by
  have ih:=JE ks xs x
  by_cases e:k=x
  ·subst e;simp[qk,Yp,atP]
  ·have e':¬ kP k=kP x:=λz=>e (Qx z);simp only[qk,xI,Yp,wA,zN e',atP,if_neg e];exact ih
theorem Kj:∀(ks:List (Int × Int)) (xs:List V) (x:Int × Int),Wy (qk ks xs) (kP x)=qk (YE ks x) (dropE ks xs x)
 |[],_,_=>by simp[qk,Wy,YE]
 |_::_,[],_=>by simp[qk,Wy,dropE]
 | k :: ks, y :: xs, x => by
  have ih:=Kj ks xs x
  by_cases e:k=x
  ·have e' : kP k = kP x := congrArg kP e;simp only[qk,xI,Wy,YE,dropE,if_pos e]
   rw[xp (by simpa using e'),xp (by simpa using e)]
   exact ih
  ·have e' : ¬ kP k = kP x := λz => e (Qx z);simp only[qk,xI,Wy,YE,dropE,if_neg e]
   rw[xn (by simpa using e'),xn (by simpa using e),xI]
   exact congrArg _ ih
theorem Km{α:Type}:∀(ks:List (Int × Int)) (xs:List α) (x:Int × Int),ks.length=xs.length->(YE ks x).length=(dropE ks xs x).length
  |[],[],_,_=>rfl
  | k :: ks, y :: xs, x, h => by
    have ih:=Km ks xs x (by simpa using h)
    by_cases e:k=x
    · simp only [YE, dropE, if_pos e]
      rw[xp (by simpa using e)]
      exact ih
    · simp only [YE, dropE, if_neg e]
      rw[xn (by simpa using e),zK,zK]
      exact congrArg (·+1) ih
section
variable {K:W.Frag}{G:Option Addr}{Z:Addr->Prop}{H:Hp}
theorem Reps.dropE:∀{ks:List (Int × Int)}{es:List D}{xs:List V} (x:Int × Int),Reps K G Z H es xs->Reps K G Z H (L2.dropE ks es x) (L2.dropE ks xs x)
 |[],es,xs,x,h=>by
  cases es<;>cases xs<;>exact .nil
 |k::ks,[],xs,x,h=>by rw[h.nil_inv];exact .nil
 |k::ks,e::es,xs,x,h=>by
  obtain⟨v,r,rfl,q,t⟩:=h.split;have ih:=Reps.dropE (ks:=ks) x t
  by_cases c:k=x
  ·simp only[L2.dropE,if_pos c];exact ih
  ·simp only[L2.dropE,if_neg c];exact .cons q ih
theorem Reps.atP:∀{ks:List (Int × Int)}{es:List D}{xs:List V}{x:Int × Int}{d:D},Reps K G Z H es xs->L2.atP ks es x=some d->∃v,L2.atP ks xs x=some v/\Rep K G Z H d v
 |[],es,xs,x,d,_,e=>by simp[L2.atP] at e
 |k::ks,[],xs,x,d,_,e=>by simp[L2.atP] at e
 |k::ks,c::es,xs,x,d,h,e=>by
  obtain⟨v,r,rfl,q,t⟩:=h.split
  by_cases z:k=x
  ·simp only[L2.atP,if_pos z] at e ⊢;cases e;exact⟨v,rfl,q⟩
  ·simp only[L2.atP,if_neg z] at e ⊢;exact Reps.atP t e
end
section
variable {A:AC}{os:List (Nat × Addr)}{n:Nat}{rho:Rho}{sg:St}{H:Hp}{ds es:List D}{vs:List V}{i:Nat}{ks:List (Int × Int)}
def AmO.ownT(I:AmO A os n rho sg H ds vs)(hi:rho[i]?=some (some (.owT ks es))) :
  ∃a xs,sg[i]?=some (some (.ref a))/\H a=some (.dT (qk ks xs))/\ks.length=xs.length/\Reps A.K A.G (Zof A os) H es xs /\
   ∀ks' es' xs',ks'.length=xs'.length->Reps A.K A.G (Zof A os) H es' xs'->AmO A os n (rho.set i (some (.owT ks' es'))) sg (upd H a (.dT (qk ks' xs'))) ds vs:=by
 obtain⟨v,e1,a,xs,rfl,hm,hH,hl,rs⟩:=I.slot i _ hi;have hil:i<rho.length:=(zn.mp hi).1;have za:Zof A os a:=.inr ⟨_,hm,rfl⟩
 have hf:∀(o:HO) b u,¬ Zof A os b->H b=some u->upd H a o b=some u:=λo b u nz e=>by
  rw[xV λz=>nz (by rw[z];exact za)];exact e
 have uniq:∀j,(j,a)∈os->j=i:=λj hj=>by
  by_cases hji:j=i
  ·exact hji
  ·have key : ∀ (l : List (Nat × Addr)), l.Pairwise (λp q => p.1 ≠ q.1 /\ p.2 ≠ q.2) -> (j, a) ∈ l -> (i, a) ∈ l -> False := by
    intro l
    induction l with
    |nil=>intro _ h;simp at h
    |cons c l ih=>
     intro hp h1 h2;obtain⟨p1,p2⟩:=xM.mp hp
     rcases zi.mp h1 with e1 |h1<;>rcases zi.mp h2 with e2 |h2
     ·rw[<- e2] at e1;exact hji (Prod.mk.inj e1).1
     ·exact(p1 _ h2).2 (by rw[<- e1])
     ·exact(p1 _ h1).2 (by rw[<- e2])
     ·exact ih p2 h1 h2
   exact(key os I.nd hj hm).elim
 obtain⟨fa1,fa2,fa3⟩:=I.fresh _ hm
 refine⟨a,xs,e1,hH,hl,rs,λks' es' xs' hl' r=>⟨by simp[I.len],λj c e=>?_,Reps.mono (λ_ _ z=>z) (hf _) _ _ I.pend,I.nd,λq hq=>?_,λb e=>?_,I.gz,λb u h e=>?_,I.z0⟩⟩
 ·by_cases hj : j = i
  ·subst hj;rw[zT hil] at e;cases e;exact⟨.ref a,e1,a,xs',rfl,hm,wZ,hl',Reps.mono (λ_ _ z=>z) (hf _) _ _ r⟩
  ·rw [zY (Ne.symm hj)] at e;obtain⟨u,e2,e3⟩:=I.slot j c e
   exact⟨u,e2,SlotR.mono (λ_ _ z=>z) (hf _) (λb ys m q=>⟨m,by rw[xV λz=>hj (uniq j (by rw[<- z];exact m))];exact q⟩) _ _ e3⟩
 ·obtain ⟨f1, f2, f3⟩ := I.fresh q hq;refine⟨f1,f2,?_⟩
  by_cases e:q.2=a
  ·rw[e,wZ];exact Hot.dT
  ·rw[xV e];exact f3
 ·obtain ⟨x, y, z, q, rr⟩ := I.st b e
  exact⟨x,y,z,by rw[xV λw=>fa2 (by rw[<- w];exact I.gz b e)];exact q,rr⟩
 ·rw [xV λw => by rw [w, fa1] at e; cases e]
  exact I.fr b u h e
end
theorem Qw:∀{ks:List (Int × Int)}{xs ys:List V},ks.length=xs.length->ks.length=ys.length->qk ks xs=qk ks ys->xs=ys
 |[],[],[],_,_,_=>rfl
 |k::ks,x::xs,y::ys,h1,h2,h=>by
  simp only[qk,xI] at h;injection h with h3 h4;injection h3 with _ h3
  rw[h3,Qw (by simpa using h1) (by simpa using h2) h4]
section
variable {A:AC}{X:Cx}{e:Expr}{te:TD}{pos:Pos}
def Xm{K:W.Frag}{G:Option Addr}{Z:Addr->Prop}{H:Hp}{v:V}{k:Int × Int}(r:Rep K G Z H (.tup [.int k.1,.int k.2]) v):∃b,v=.ref b/\SqT K H b ((kP k).map kV):=by
 obtain⟨b,ys,rfl,sq,rs⟩:=r.tup_inv;obtain⟨u1,u2,rfl,r1,r2⟩:=UB rs;rw[r1.int_inv,r2.int_inv] at sq;exact⟨b,rfl,sq.sq⟩
def zL0(i:Nat)(te:TD)(g:TGD):TSD:=λF rho n=>∃ks es,rho[i]?=some (some (.owT ks es))/\te rho n λd n1=>∃(k:Int × Int) (c:D),d=.tup [.int k.1,.int k.2]/\atP ks es k=some c /\
 g c (rho.set i (some (.owT (YE ks k) (dropE ks es k)))) λrho'=>F.nx rho' n1
@[simp] theorem xs6{i te g F rho n}:zL0 i te g F rho n=∃ks es,rho[i]?=some (some (.owT ks es))/\te rho n λd n1=>∃(k:Int × Int) (c:D),d=.tup [.int k.1,.int k.2]/\atP ks es k=some c /\
 g c (rho.set i (some (.owT (YE ks k) (dropE ks es k)))) λrho'=>F.nx rho' n1:=rfl
def zy2{i m l:Nat}{x:Str}{tg:Expr}{g:TGD}{px apos cpos:Pos}(hr:Room l X.A)(hK:X.K=A.K)(he:PD A X e te)(hg:PGD A X m tg g)(hN:X.N[i]?=some x:=by rfl)(hv:Vis X.env.scope x:=by first |exact Or.inl rfl |exact Or.inr (Or.inl rfl) |exact Or.inr (Or.inr rfl))(hd:(x == ("__debug__" : Str))=false:=by decide)
  (hcd:(x == ("__classdict__" : Str))=false:=by decide) (mm:M1 X (.Name x px) "pop" apos e cpos:=by exact⟨rfl,rfl,rfl,rfl⟩)
  (hs:swapsWithSole [tg] (.Call (.Attribute (.Name x px) "pop" apos) [e] [] cpos) pos.line X.env=pure false:=by rfl) (hw:swappedStores [tg] (.Call (.Attribute (.Name x px) "pop" apos) [e] [] cpos) X.env=pure none:=by rfl)
  (h1:(assignEach [tg] X.env).map (·.2)=[assign tg X.env]:=by rfl):PSD A X (.Assign [tg] (.Call (.Attribute (.Name x px) "pop" apos) [e] [] cpos) pos) (zL0 i te g):=by
 exists (zj3 (zz0 (by have:=hr.un;lia) (qN hN hv hd hcd) he mm) hg hs hw h1).imp λE sg H h=>by
   obtain⟨rho,n,F,ds,vs,⟨os,I⟩,⟨ks,es,hi,ht⟩,ok⟩:=h;obtain⟨a,xs,e1,hH,hl,rs,_⟩:=I.ownT hi;refine⟨.ref a,e1,a,rfl,.inr ⟨_,.inl hH⟩,rho,n,_,ds,vs,⟨os,I⟩,ht,λv H' n' d ⟨os',J⟩ k=>?_⟩;obtain⟨k,c,rfl,hc,k2⟩:=k;obtain⟨J1,r⟩:=J.pop;obtain⟨a',xs',e2,hH',hl',rs',_⟩:=J1.ownT hi;rw[e1] at e2;cases e2;obtain⟨b,rfl,sq⟩:=Xm r;obtain⟨w,hw',rw'⟩:=rs'.atP hc
   refine⟨qk ks xs',kP k,b,w,hH',rfl,by rw[hK];exact sq,by rw[JE];exact hw',?_⟩
   obtain⟨a3,xs3,e3,hH3,hl3,rs3,up⟩:=(J1.push rw').ownT hi;rw[e1] at e3;cases e3;rw[hH'] at hH3
   have hx:xs'=xs3:=Qw hl' hl3 (by injection hH3 with z;injection z)
   subst hx;rw[Kj];exact⟨_,n',_,c,ds,vs,⟨os',up _ _ _ (Km _ _ _ hl') (rs3.dropE k)⟩,k2,λrho' sg' J' _ k'=>ok.nx _ _ _ _ J' k'⟩
end
section
variable {prog:Program}{w:World}{A:Around}{E:Value->Shared->Prop}{s:Shared}{it d:Addr}{i ep:Nat}{od:Obj}{es:Array DictEntry}
def zG8:Builtin.Dict_items.ownsTuple "dict_keyiterator" = false:=w6
def zb7{Q:Option Value->Shared->Prop}(hit:s.heap.IsKeyIter it d i es.size ep)(hod:s.heap.get? d=some od)(hdd:od.data=.dict es ep)(hi:i<es.size)
  (hQ:∀h',h'.IsKeyIter it d (i+1) es.size ep->Heap.SameBut it s.heap h'->Q (some es[i].key) { s with heap:=h' }):wpAny (model prog w) A (pyNext (.ref it)) Q E s:=by
 obtain⟨o,ho,hc,hf⟩:=id hit
 have up:(s.heap.update it (Obj.mapFields (·.setIfInBounds 1 (rawInt ((i:Int)+1))))).IsKeyIter it d (i+1) es.size ep:=⟨_,xN _ ho (Obj.isFreed_of_fields (Obj.data_mapFields hf _)),(Obj.cls_mapFields ..).trans hc,by rw[Obj.data_mapFields hf];simp[rawInt]⟩
 unfold pyNext;refine zb (wpAny_attempt (we (name:=Str.ofString "__next__") hit.typeIs F.slot_dict_keyiterator_next (wS F.slot_dict_keyiterator_next hit.typeIs F.entry_dict_keyiterator_next (zb (zf (zb (zb ?_)))) (F.args_dict_keyiterator_next_1 _))))
 first |refine zb (wQ hit.typeIs (zf (zb (wpAny_fieldsOf ho hf ?_)))) |refine zb (yw hit.typeIs (zf (zb (wpAny_fieldsOf ho hf ?_))))
 simp only[zG8,zU,if_false]
 show wpAny _ _ (if (Value.ref d == Value.none)=true then _ else _) _ _ s
 rw[if_neg (show ¬ ((Value.ref d == Value.none)=true) from λz=>zy z)];refine zb (zf (zb (xQ hod hdd ?_)))
 rw[if_neg (by simp)];refine zb (zf (zb (wpAny_dictEpoch hod hdd ?_)))
 rw[if_neg (by simp)];refine zf ?_
 simp only[show ¬ ((i:Int)<0) by lia,if_false,yH,xS hi]
 refine zb ?_
 first |refine zb (wQ hit.typeIs (zf (zb (wpAny_isOneOf_keyiter hit.typeIs ?_)))) |refine zb (yw hit.typeIs (zf (zb (wpAny_isOneOf_keyiter hit.typeIs ?_))))
 show wpAny _ _ (setField (.ref it) 1 (rawInt ((i:Int)+1)) >>= _) _ _ s
 refine zb (wpAny_setField ho hf (by simp) (zb (xF (zb (wpAny_isOneOf_keyiter (s:={ s with heap:=s.heap.update it (Obj.mapFields (·.setIfInBounds 1 (rawInt ((i:Int)+1)))) }) up.typeIs ?_)))))
 exact zf (zf ⟨_,rfl,zf (hQ _ up (Heap.SameBut.update ..))⟩)
def zm0{Q:Option Value->Shared->Prop}(hh:A.handled=none)(hit:s.heap.IsKeyIter it d es.size es.size ep)(hod:s.heap.get? d=some od)(hdd:od.data=.dict es ep)
  (hQ:∀h',Heap.ExtBut it s.heap h'->Q none { s with heap:=h' }):wpAny (model prog w) A (pyNext (.ref it)) Q E s:=by
 obtain⟨o,ho,hc,hf⟩:=id hit;unfold pyNext;refine zb (wpAny_attempt (we (name:=Str.ofString "__next__") hit.typeIs F.slot_dict_keyiterator_next (wS F.slot_dict_keyiterator_next hit.typeIs F.entry_dict_keyiterator_next (zb (zf (zb (zb ?_)))) (F.args_dict_keyiterator_next_1 _))))
 first |refine zb (wQ hit.typeIs (zf (zb (wpAny_fieldsOf ho hf ?_)))) |refine zb (yw hit.typeIs (zf (zb (wpAny_fieldsOf ho hf ?_))))
 simp only[zG8,zU,if_false]
 show wpAny _ _ (if (Value.ref d == Value.none)=true then _ else _) _ _ s
 rw[if_neg (show ¬ ((Value.ref d == Value.none)=true) from λz=>zy z)];refine zb (zf (zb (xQ hod hdd ?_)))
 rw[if_neg (by simp)];refine zb (zf (zb (wpAny_dictEpoch hod hdd ?_)))
 rw[if_neg (by simp)];refine zf ?_
 simp only[show ¬ ((es.size:Int)<0) by lia,if_false,yH,wI (zo es.size)]
 refine zb ?_
 first |refine zb (wQ hit.typeIs (zf ?_)) |refine zb (yw hit.typeIs (zf ?_))
 show wpAny _ _ (setField (.ref it) 0 .none >>= _) _ _ s
 refine zb (wpAny_setField ho hf (by simp) ?_)
 show wpAny _ _ (newExc (.type "StopIteration") [] >>= _) _ _ _;simp only[newExc,newTuple]
 refine zb (zb (xZ (zb (m:=firstArgMember _ _) (wpAny_of_eq (a:=Value.none) (by first |rfl |(simp only[firstArgMember];rfl)) (xZ ?_ (by size_fits)))) (by size_fits)))
 simp only[raiseNew];refine zb (wpAny_handled ?_);rw[show A.in1.handled=none from hh];refine zb (zf (wpAny_throw ?_));exact zb (wpAny_isInstance (T := "StopIteration") (b:=true) ⟨_,zq _ rfl,rfl⟩ isSubtype_stop (zf (hQ _ (((Heap.SameBut.update ..).extBut.push _).push _))))
end
def EntAt(h:Heap)(d:Addr)(es:Array DictEntry)(ep:Nat):Prop:=∃o,h.get? d=some o/\o.ExactDict/\o.data=.dict es ep
section
variable {prog:Program}{w:World}{A:Around}{E:Value->Shared->Prop}{s:Shared}{d:Addr}{ep:Nat}{es:Array DictEntry}
def EntAt.at{h h':Heap}(x:EntAt h d es ep)(hk:∀o,h.get? d=some o->h'.get? d=some o):EntAt h' d es ep:=let ⟨o,ho,r⟩:=x;⟨o,hk o ho,r⟩
def EntAt.typeIs(x:EntAt s.heap d es ep):s.TypeIs (.ref d) "dict" := let ⟨o,ho,hc,_⟩:=x;⟨o,ho,hc.1⟩
def zU8(hh:A.handled=none)(I d:Addr)(hne:d≠I)(es:Array DictEntry)(ep:Nat) :
  Walks prog w A I [I,d] [I] es.size (λi v=>∃x,es[i]?=some x/\v=x.key) (λi h=>h.IsKeyIter I d i es.size ep/\EntAt h d es ep) where
 sub:=λb hb=>by simp at hb;simp[hb]
 frame:=λ_ _ _ st hk=>⟨st.1.at λo e=>hk I (by simp) o e,st.2.at λo e=>hk d (by simp) o e⟩
 item:=λi s Q E hi st hQ=>by
  obtain⟨o,ho,hc,hd⟩:=id st.2
  exact zb7 st.1 ho hd hi λh' hit' hs'=>hQ _ h' s.toks ⟨es[i],xS hi,rfl⟩ ⟨hit',st.2.at λo e=>hs'.extBut d o hne e⟩ λb o hb e=>hs'.extBut b o (λh=>hb (by simp[h])) e
 done:=λs Q E st hQ=>by
  obtain⟨o,ho,hc,hd⟩:=id st.2
  exact zm0 hh st.1 ho hd λh' he'=>hQ h' s.toks λb o hb e=>he' b o (λh=>hb (by simp[h])) e
 self:=λ_ _ _ _ st hQ=>wpAny_pyIter_keyiter st.1 hQ
def xA2{Q:Value->Shared->Prop}(hd:(d == sysModules)=false)(hm:EntAt s.heap d es ep)
  (hQ:Q (.ref s.heap.objs.size) { s with heap:=s.heap.push { cls:=.type "dict_keyiterator",data:=.fields #[.ref d,.int 0 0,.int es.size 0,.int ep 0] } }):wpAny (model prog w) A (pyIter (.ref d)) Q E s:=by
 obtain⟨o,ho,hc,hdat⟩:=id hm;refine wpAny_pyIter_slot hm.typeIs F.slot_dict_iter (wS F.slot_dict_iter hm.typeIs F.entry_dict_iter ?_ (F.args_dict_iter_1 _));unfold Builtin.«dict.__iter__» Builtin.Dict.dictSlotNone;refine zb (zb (wpAny_notOrdered_dict hm.typeIs ?_));show wpAny _ _ (pure (Value.ref d)) _ _ s;refine zf ?_;show wpAny _ _ (Builtin.Dict.showsAll d >>= _) _ _ s;unfold Builtin.Dict.showsAll
 rw[if_neg (by rw[hd];exact zy)]
 refine zb (zf (zb (xQ ho hdat (zb (wpAny_dictEpoch ho hdat (zb (xZ (zf ⟨_,rfl,"dict_keyiterator",_,⟨_,zq _ rfl,rfl⟩,F.slot_dict_keyiterator_next.lookup,?_⟩))))))))
 simpa [rawInt] using hQ
def xK7(lo:(d == sysModules)=false):W.KdlSrc prog w "dict" d d es.size (λi v=>∃x,es[i]?=some x/\v=x.key) (λh=>EntAt h d es ep) where
 type:=λ_ hm=>hm.typeIs
 there:=λ_ hm=>let ⟨_,ho,_⟩:=hm;⟨zp ho,zp ho⟩
 keep:=λ_ _ hm hk=>hm.at λo e=>hk d (.inl rfl) o e
 notList:=w6
 notTuple:=w6
 hint:=λ_ _ _ _ hm hq=>W.kdl_hint_dict hm.typeIs hq
 iter:=λ_ _ hh hm=>⟨_,_,(λ_ _ hq=>xA2 lo hm hq),zU8 hh _ d (zA (let ⟨_,ho,_⟩:=hm;zp ho)) es ep,⟨⟨_,zq _ rfl,rfl,rfl⟩,hm.at λo e=>ze _ e⟩⟩
end
def KeyAts(H:Hp):List (List Key × V)->List Addr->Prop:=Paired λp b=>H b=some (.tup (p.1.map kV))
def KT.ats{H:Hp}{kvs:List (List Key × V)}{xs:List (List Key × Addr × Value)}(r:KT H kvs xs):KeyAts H kvs (xs.map (·.2.1)):=by
 induction r with
 |nil=>exact .nil
 |@cons p q ps qs hq t ih=>exact .cons hq.2.1 ih
theorem Um:∀(bs:List Addr),Vals (bs.map V.ref) (bs.map Value.ref)
 |[]=>.nil
 |b::bs=>.cons rfl (Um bs)
section
variable {X:Cx}{A:AC}{pos p:Pos}
def JD(hh:X.A.handled=none):qo X (.type "list") (λxs H Q=>∃a kvs,xs=[.ref a]/\H a=some (.dT kvs)/\∀l bs,H l=none->KeyAts H kvs bs->Q (.ref l) (upd H l (.lst (bs.map V.ref)))):=by
 intro pins s σ H xs us Q I r h;obtain⟨a,kvs,rfl,e,q⟩:=h;obtain⟨u,rfl,rx⟩:=Wc r;cases rx;obtain⟨z,hd,ys,rel,dd⟩:=zd3 I.hok e;obtain⟨o,es,ep,ho,hc,hdat,hent,his,hn⟩:=dd;have hsz:es.size=ys.length:=size_of_entries hent;have hl:=rel.length
 refine W.kdl_call (xK7 (es:=es) (ep:=ep) hd) hh ⟨o,ho,hc,hdat⟩ (by rw[hsz,<- hl];exact z) λh' tk acc c' hk hS hacc=>?_
 have hacc2:acc.toList=(ys.map (·.2.1)).map Value.ref:=by
  refine List.ext_getElem? λj=>?_;rw[yn]
  rcases Nat.lt_or_ge j acc.size with hj |hj
  ·obtain ⟨x, hx, hv⟩ := hacc.2 j acc[j] (xS hj);rw[xS hj,hv];rw[entry_at hent j] at hx
   cases hy:ys[j]? with
   |none=>rw[hy] at hx;cases hx
   |some y=>
    rw[hy] at hx;cases hx;simp[hy,entryOfKey]
  ·rw[wI hj,List.getElem?_eq_none (by rw[hacc.1,hsz] at hj;simpa using hj)]
 refine⟨.ref s.heap.objs.size,_,I.laid (t':=tk) (o:=.lst ((ys.map (·.2.1)).map V.ref)) hk (zo _) ?_,rfl,q _ _ (I.hok.fresh (zo _)) rel.ats⟩
 exact⟨by simp only[zg];rw[<- hl];exact z,acc.toList,c',by rw[hacc2];exact Um _,by rw[yD];exact hS⟩
theorem KeyAts.reps{K:W.Frag}{G:Option Addr}{Z:Addr->Prop}{H:Hp}(hz:∀b ys,H b=some (.tup ys)->¬ Z b):∀{ks:List (Int × Int)}{xs:List V}{bs:List Addr},ks.length=xs.length->KeyAts H (qk ks xs) bs->Reps K G Z H (ks.map λk=>.tup [.int k.1,.int k.2]) (bs.map V.ref)
 |[],[],bs,_,h=>by
  unfold KeyAts qk at h;cases h;exact .nil
 | k :: ks, x :: xs, bs, hl, h => by
  unfold KeyAts qk at h;rw[xI] at h
  cases h with
  |@cons _ b _ bs' h1 h2=>
   refine .cons (.tup_mk (.inl ⟨hz b _ h1,.inl h1⟩) ?_) (KeyAts.reps hz (by simpa using hl) h2)
   exact .cons (Rep.ofS (d:=.int k.1) rfl) (.cons (Rep.ofS (d:=.int k.2) rfl) .nil)
def zJ1(i:Nat):TD:=λrho n P=>∃ks es,rho[i]?=some (some (.owT ks es))/\P (.lst (ks.map λk=>.tup [.int k.1,.int k.2])) n
@[simp] theorem xn1{i rho n P}:zJ1 i rho n P=∃ks es,rho[i]?=some (some (.owT ks es))/\P (.lst (ks.map λk=>.tup [.int k.1,.int k.2])) n:=rfl
def AmO.tupZ{os:List (Nat × Addr)}{n:Nat}{rho:Rho}{sg:St}{H:Hp}{ds:List D}{vs:List V}(I:AmO A os n rho sg H ds vs):∀b ys,H b=some (.tup ys)->¬ Zof A os b:=λb ys e z=>by
 obtain⟨u,e',t⟩:=I.zHot b z;rw[e] at e';cases e';exact t ys rfl
def Qo{i l:Nat}{x:Str}{px:Pos}(hr:Room l X.A)(hm:X.mg "list" = none)(hN:X.N[i]?=some x:=by rfl)(hv:Vis X.env.scope x:=by first |exact Or.inl rfl |exact Or.inr (Or.inl rfl) |exact Or.inr (Or.inr rfl))(hd:(x == ("__debug__" : Str))=false:=by decide)
  (hcd:(x == ("__classdict__" : Str))=false:=by decide) (hg:Gl X "list" := by rfl)
  (he:starEach [.Name x px] X.env=(false,eval (.Name x px) X.env)::starEach [] X.env:=by rfl) (hpl:(backTo pos (starEach [] X.env)).any (·.1)=false:=by rfl):PD A X (.Call (.Name "list" p) [.Name x px] [] pos) (zJ1 i):=by
 exists (UF (JD hr.hd) hg hm zs8 (ZV (qN hN hv hd hcd) WI he) w6 w6 he hpl).imp λsg H Q h=>by
   obtain⟨rho,n,P,ds,vs,⟨os,I⟩,⟨ks,es,hi,k⟩,hQ⟩:=h;obtain⟨a,xs,e1,hH,hl,rs,_⟩:=I.ownT hi;exact⟨.ref a,e1,a,_,rfl,hH,λl bs hl' hb=>hQ _ _ n _ ⟨os,I.newLst (hb.reps I.tupZ hl) hl'⟩ k⟩
def xO6{w:World}{prog:Program}{B:Around}{E:Value->Shared->Prop}{s:Shared}{d:Addr}{es:Array DictEntry}{ep:Nat}{Q:Value->Shared->Prop}(hd:(d == sysModules)=false)(hm:EntAt s.heap d es ep)(hfit:(es.size:Int)<2^63)
  (h:Q (.int es.size (s.toks+1)) { s with toks:=s.toks+1+1 }):wpAny (model prog w) B (call (.builtin "len") [.ref d]) Q E s:=by
 refine Calls.call_function_entry kind_len plain_len entry_len (args_len1 _) ?_;obtain⟨o,ho,hc,hdat⟩:=id hm;unfold Builtin.«len»
 refine zb (m:=oneArg "len" _) (zf (zb (m:=callSpecial? (.ref d) (Str.ofString "__len__")) (we (name:=Str.ofString "__len__") hm.typeIs F.slot_dict_len
  (call_meetsIn F.slot_dict_len hm.typeIs F.entry_dict_len (F.args_dict_len_1 _) (S:=λ_ R s'=>s'=s/\R (.ok (.ret (.int es.size s.toks))) { s with toks:=s.toks+1 }) (.of_wp ?_) ⟨rfl,?_⟩))))
 ·rintro C R s' ⟨rfl,q⟩;show wpAny _ _ (dictSize d >>= _) _ _ s';unfold dictSize;refine zb (zb (xQ ho hdat (zf ?_)));show wpAny _ _ (Builtin.Dict.pendingCount d >>= _) _ _ s';refine zb (wpAny_pendingCount_other hd (wpAny_ret_mkInt ?_));rw[Nat.add_zero];exact q
 ·show wpAny _ _ _ _ _ { s with toks := s.toks + 1 };refine zb (xF (zf (zb (yq ?_))))
  show wpAny _ _ (if ((es.size:Nat):Int)<0 then _ else _) _ _ _
  rw[if_neg w5]
  show wpAny _ _ (if ((es.size:Nat):Int)>=2^63 then _ else _) _ _ _
  rw[if_neg w5]
  exact zb (wpAny_mkInt (zf ⟨_,rfl,h⟩))
def zd9:qo X (.builtin "len") (λxs H Q=>∃a kvs,xs=[.ref a]/\H a=some (.dT kvs)/\Q (.int kvs.length) H):=by
 intro pins s σ H xs us Q I r h;obtain⟨a,kvs,rfl,e,q⟩:=h;obtain⟨u,rfl,rx⟩:=Wc r;cases rx;obtain⟨z,hd,ys,rel,o,es,ep,ho,hc,hdat,hent,his,hn⟩:=zd3 I.hok e
 have hsz:es.size=kvs.length:=by rw[size_of_entries hent,rel.length]
 have hn:=WN
 exact xO6 hd ⟨o,ho,hc,hdat⟩ w5 ⟨.int kvs.length,H,I.tok _,⟨s.toks+1,by rw[hsz]⟩,q⟩
def xh9(i:Nat):TD:=λrho n P=>∃ks es,rho[i]?=some (some (.owT ks es))/\P (.int ks.length) n
@[simp] theorem xx3{i rho n P}:xh9 i rho n P=∃ks es,rho[i]?=some (some (.owT ks es))/\P (.int ks.length) n:=rfl
def VQ{ks:List (Int × Int)}{xs:List V}(h:ks.length=xs.length):(qk ks xs).length=ks.length:=by simp[qk,h]
def zN9{i:Nat}{x:Str}{px:Pos}(hm:X.mg "len" = none)(hN:X.N[i]?=some x:=by rfl)(hv:Vis X.env.scope x:=by first |exact Or.inl rfl |exact Or.inr (Or.inl rfl) |exact Or.inr (Or.inr rfl))(hd:(x == ("__debug__" : Str))=false:=by decide)
  (hcd:(x == ("__classdict__" : Str))=false:=by decide) (hg:Gl X "len" := by rfl)
  (he:starEach [.Name x px] X.env=(false,eval (.Name x px) X.env)::starEach [] X.env:=by rfl) (hpl:(backTo pos (starEach [] X.env)).any (·.1)=false:=by rfl):PD A X (.Call (.Name "len" p) [.Name x px] [] pos) (xh9 i):=by
 exists (VB zd9 hg hm kh (ZV (qN hN hv hd hcd) WI he) w6 w6 he hpl).imp λsg H Q h=>by
   obtain⟨rho,n,P,ds,vs,⟨os,I⟩,⟨ks,es,hi,k⟩,hQ⟩:=h;obtain⟨a,xs,e1,hH,hl,rs,_⟩:=I.ownT hi
   exact⟨.ref a,e1,a,_,rfl,hH,by rw[VQ hl];exact hQ _ H n _ ⟨os,I.push (Rep.ofS (d:=.int ks.length) rfl)⟩ k⟩
end
section
variable {X:Cx}{pins:List (Addr × Obj)}{σ:St}{H:Hp}{s:Shared}{a b:Addr}{B:Around}{E:Value->Shared->Prop}{kvs:List (List Key × V)}{k:List Key}{v:V}
def zd4{Q:Value->Shared->Prop}(hu:B.units+1<cLine)(I:Inv X pins σ H s)(e:H a=some (.dT kvs))(eb:SqT X.K H b (k.map kV))(l:Yp kvs k=some v)
  (h:∀w' s',Inv X pins σ H s'->RelV v w'->Q w' s'):wpAny (model X.prog X.w) B (getItem (.ref a) (.ref b)) Q E s:=by
 obtain⟨z,hd,xs,rel,dd⟩:=zd3 I.hok e
 obtain⟨w',hw,rw'⟩:=RelO.some_of (v:=v) (o:=(atKey xs k).map (·.2)) (by rw[<- l];exact rel.val k)
 obtain⟨p,hp,rfl⟩:=Option.map_eq_some_iff.mp hw;exact wpAny_getItem_heap (tupleKind_room_in1 hu) (zH7 I eb) dd hp (h _ _ (I.tok _) rw')
def zW1(K:W.Frag)(td ty:TE):TE:=λσ H Q=>td σ H λx H1=>ty σ H1 λy H2=>∃a b kvs k v,x=.ref a/\y=.ref b/\H2 a=some (.dT kvs)/\SqT K H2 b (k.map kV)/\Yp kvs k=some v/\Q v H2
def zz1{o i:Expr}{td ty:TE}{pos:Pos}(hu:X.A.units+1<cLine)(ho:PE X o td)(hi:PE X i ty)(hs:xi9 i):PE X (.Subscript o i pos) (zW1 X.K td ty):=by
 intro pins s σ H Q I h;refine zg6 PySem.F.slot_dict_getitem.lookup hs (thn (ho pins s σ H _ I h) λu s1 ⟨x,H1,I1,rx,q1⟩=>thn (hi pins s1 σ H1 _ I1 q1) λiv s2 ⟨y,H2,I2,ry,a,b,kvs,k,v,ex,ey,e,sq,l,q2⟩=>?_);subst ex ey;cases(show u=Value.ref a from rx);cases(show iv=Value.ref b from ry);exact⟨(zo4 I2 (.inr ⟨_,.inl e⟩)).1,zd4 hu I2 e sq l λw' s3 I3 rw'=>⟨v,H2,I3,rw',q2⟩⟩
end
section
variable {A:AC}{X:Cx}{b:Expr}{tb:TD}{pos:Pos}
def xI3(i:Nat)(tb:TD):TD:=λrho n P=>∃ks es,rho[i]?=some (some (.owT ks es))/\tb rho n λd n1=>∃(k:Int × Int) (c:D),d=.tup [.int k.1,.int k.2]/\atP ks es k=some c/\P c n1
@[simp] theorem xF4{i tb rho n P}:xI3 i tb rho n P=∃ks es,rho[i]?=some (some (.owT ks es))/\tb rho n λd n1=>∃(k:Int × Int) (c:D),d=.tup [.int k.1,.int k.2]/\atP ks es k=some c/\P c n1:=rfl
def xc0{i l:Nat}{x:Str}{px:Pos}(hr:Room l X.A)(hK:X.K=A.K)(hb:PD A X b tb)(hs:xi9 b)(hN:X.N[i]?=some x:=by rfl)(hv:Vis X.env.scope x:=by first |exact Or.inl rfl |exact Or.inr (Or.inl rfl) |exact Or.inr (Or.inr rfl))(hd:(x == ("__debug__" : Str))=false:=by decide)
  (hcd:(x == ("__classdict__" : Str))=false:=by decide):PD A X (.Subscript (.Name x px) b pos) (xI3 i tb):=by
 exists (zz1 (by have:=hr.un;lia) (qN hN hv hd hcd) hb hs).imp λsg H Q h=>by
   obtain⟨rho,n,P,ds,vs,⟨os,I⟩,⟨ks,es,hi,ht⟩,hQ⟩:=h;obtain⟨a,xs,e1,hH,hl,rs,_⟩:=I.ownT hi;refine⟨.ref a,e1,rho,n,_,ds,vs,⟨os,I⟩,ht,λv H' n' d ⟨os',J⟩ k=>?_⟩;obtain⟨k,c,rfl,hc,k2⟩:=k;obtain⟨J1,r⟩:=J.pop;obtain⟨a',xs',e2,hH',hl',rs',_⟩:=J1.ownT hi;rw[e1] at e2;cases e2;obtain⟨b',rfl,sq⟩:=Xm r;obtain⟨w,hw',rw'⟩:=rs'.atP hc
   exact⟨a,b',_,kP k,w,rfl,rfl,hH',by rw[hK];exact sq,by rw[JE];exact hw',hQ w H' n' c ⟨os',J1.push rw'⟩ k2⟩
end
abbrev TFT:=List D->Nat->(List (Int × Int)->List D->Nat->Prop)->Prop
def spT(K:W.Frag)(k:Nat)(t:TFT):Sp:=λvs H Q _=>∃(G:Option Addr) (Z:Addr->Prop) (n:Nat) (P:List (Int × Int)->List D->Nat->Prop) (ds:List D),ds.length=k/\Reps K G Z H ds vs/\zu6 G n H/\(∀a,G=some a->Z a)/\ZOk K G Z H/\t ds n P /\
 ∀p H' n' ks es xs,(∀a o,G≠some a->H a=some o->H' a=some o)->zu6 G n' H'->H' p=none->ks.length=xs.length->Reps K G Z H' es xs->P ks es n'->Q (.ref p) (upd H' p (.dT (qk ks xs)))
structure FnT(P:Program)(w:World)(K:W.Frag)(mg:Str->Option Value)(base:Heap)(x:Str)(kk k:Nat)(t:TFT):Prop where
 ex:∃f fd ps,FnOk P w K mg base CX0 kk f fd ps (spT K k t)/\mg x=some (.ref f)/\W.keepIn K (.ref f)=true/\Binds K fd ps []
section
variable {A:AC}{X:Cx}{e:Expr}{es:List Expr}{t1:TAD}{pos p pos2:Pos}
def AmO.setOwnT{os:List (Nat × Addr)}{n:Nat}{rho:Rho}{sg:St}{H:Hp}{ds es:List D}{vs xs:List V}{i:Nat}{p:Addr}{ks:List (Int × Int)}(I:AmO A os n rho sg H ds vs)(hi:i<rho.length)(hp:H p=none)(hl:ks.length=xs.length)(r:Reps A.K A.G (Zof A os) H es xs) :
  ∃os',AmO A os' n (rho.set i (some (.owT ks es))) (sg.set i (some (.ref p))) (upd H p (.dT (qk ks xs))) ds vs:=by
 have hf:∀a u,H a=some u->upd H p (.dT (qk ks xs)) a=some u:=λa u e=>by rw[xV (yc e hp)];exact e
 refine⟨(i,p)::os.filter λq=>decide (q.1≠i),?_⟩
 have zz:∀a,H a≠none->Zof A ((i,p)::os.filter λq=>decide (q.1≠i)) a->Zof A os a:=λa ha z=>by
  rcases z with z |⟨q,hq,e⟩
  ·exact .inl z
  ·rcases zi.mp hq with rfl | hq
   ·exact absurd (by rw[<- e];exact hp) ha
   ·exact .inr ⟨q,(zx.mp hq).1,e⟩
 have h0:A.H0 p=none:=by
  cases q:A.H0 p with
  |none=>rfl
  |some o=>
   by_cases e:A.G=some p
   ·obtain⟨x,y,z,w,_⟩:=I.st p e;rw[w] at hp;cases hp
   ·have:=I.fr p o e q;rw[this] at hp;cases hp
 refine⟨by simp[I.len],λj c e=>?_,Reps.mono zz (λa u _ e=>hf a u e) _ _ I.pend,?_,λq hq=>?_,λa e=>?_,I.gz,λa u h e=>hf a u (I.fr a u h e),I.z0⟩
 ·by_cases hj : j = i
  ·subst hj;rw[zT hi] at e;cases e
   exact⟨.ref p,zT (by rw[<- I.len];exact hi),p,xs,rfl,xh,wZ,hl,Reps.mono zz (λa u _ e=>hf a u e) _ _ r⟩
  ·rw [zY (Ne.symm hj)] at e;obtain⟨u,e1,e2⟩:=I.slot j c e
   exact⟨u,by rw[zY (Ne.symm hj)];exact e1,SlotR.mono zz (λa u _ e=>hf a u e) (λa ys m q=>⟨zm _ (zx.mpr ⟨m,by simpa using hj⟩),hf a _ q⟩) _ _ e2⟩
 ·refine xM.mpr ⟨λq hq => ?_, I.nd.filter _⟩;obtain⟨m1,m2⟩:=zx.mp hq
  refine⟨λz=>by simp[<- z] at m2,λz=>(I.fresh q m1).2.2.ne ?_⟩
  have z':p=q.2:=z;rw[<- z'];exact hp
 ·rcases zi.mp hq with rfl | hq
  ·exact⟨h0,λz=>(I.z0.1 p z).ne h0,by show Hot (upd H p _ p);rw[wZ];exact Hot.dT⟩
  ·obtain⟨f1,f2,f3⟩:=I.fresh q (zx.mp hq).1;exact⟨f1,f2,f3.of λu w=>hf _ _ w⟩
 ·obtain⟨x,y,z,q,rr⟩:=I.st a e;exact⟨x,y,z,hf _ _ q,rr⟩
def zW5(i k:Nat)(t:TFT)(t1:TAD):TSD:=λF rho n=>i<rho.length/\t1 rho n λes n1=>es.length=k/\t es n1 λks vs n2=>F.nx (rho.set i (some (.owT ks vs))) n2
@[simp] theorem xs0{i k t t1 F rho n}:zW5 i k t t1 F rho n=(i<rho.length/\t1 rho n λes n1=>es.length=k/\t es n1 λks vs n2=>F.nx (rho.set i (some (.owT ks vs))) n2):=rfl
def zy1{i kk k:Nat}{x y:Str}{pos':Pos}{t:TFT}(F:FnT X.prog X.w X.K X.mg X.base y kk k t)(hr:Room kk X.A)(hK:X.K=A.K)(hN:X.N.Nodup)(hi:X.N[i]?=some x)(hx:Loc X.env.scope x)(ha:PAD A X (e::es) t1)(hg:Gl X y:=by rfl)(hdb:(y == ("__debug__" : Str))=false:=by decide)
  (he:starEach (e::es) X.env=(false,eval e X.env)::starEach es X.env:=by rfl) (hpl:(backTo pos (starEach es X.env)).any (·.1)=false:=by rfl) (hf:X.fn x=true\/X.env.scope.names.lookup x=some .local:=by first |exact .inl rfl |exact .inr rfl |assumption)
  (hs:swapsWith (.Call (.Name y p) (e::es) [] pos) (some (.Name x pos')) pos2.line X.env=pure false:=by rfl):PSD A X (.Assign [.Name x pos'] (.Call (.Name y p) (e::es) [] pos) pos2) (zW5 i k t t1):=by
 obtain⟨f,fd,ps,F,hm,hk,hb⟩:=F.ex
 exists (Qh hN hi hx (VC F hr hg hm hk hb .nil zz5 ha hdb he hpl) hs hf).imp λE sg H h=>by
   obtain⟨rho,n,R,ds,vs,I,⟨hl,ht⟩,ok⟩:=h;refine⟨rho,n,_,ds,vs,I,ht,λws H' n' es' ⟨os,J⟩ hle k=>?_⟩;obtain⟨J1,rs⟩:=J.split hle;rw[wB,hK];exact⟨A.G,Zof A os,n',_,es',k.1,rs,J1.st,λa z=>.inl (J1.gz a z),J1.zO,k.2,λp H2 n2 ks es2 xs fr st hp hlx r q=>ok.nx _ _ _ _ ((J1.called fr st).setOwnT hl hp hlx r) q⟩
end
def Wv(k:Int × Int):Int:=reduceHash (Builtin.Tuple.tupleHashOf [hashInt k.1,hashInt k.2])
def zC8{P:Program}{w:World}(k:Int × Int):(tupleKind (yp P w)).hash (kP k)=Wv k:=rfl
theorem Zi:∀{ks ks2:List (Int × Int)}{xs xs2:List V},ks.length=xs.length->qk (ks++ks2) (xs++xs2)=qk ks xs++qk ks2 xs2
 |[],_,[],_,_=>rfl
 |k::ks,ks2,x::xs,xs2,h=>by
  have ih:=Zi (ks:=ks) (ks2:=ks2) (xs:=xs) (xs2:=xs2) (by simpa using h)
  simp only[qk,List.cons_append,xI] at ih ⊢;rw[ih]
theorem XD:∀{ks:List (Int × Int)}{xs:List V},ks.length=xs.length->(qk ks xs).map (·.1)=ks.map kP
 |[],[],_=>rfl
 |k::ks,x::xs,h=>by
  have ih:=XD (ks:=ks) (xs:=xs) (by simpa using h)
  simp only[qk,xI,zJ] at ih ⊢;rw[ih]
def zx5{kvs:List (List Key × V)}{k:List Key}{v:V}(h:k ∉ kvs.map (·.1)):za8 kvs k v=kvs++[(k,v)]:=by
 unfold za8;rw[if_neg];intro z;obtain⟨x,hx,e⟩:=yN.mp z
 exact h (zk.mpr ⟨x,hx,by simpa using e⟩)
theorem WK:∀(more kvs:List (List Key × V)),((kvs++more).map (·.1)).Nodup->Yw kvs more=kvs++more
 |[],kvs,_=>by simp[Yw]
 | m :: more, kvs, h => by
  have h0:m.1 ∉ kvs.map (·.1):=by
   rw[zS,wu] at h
   exact λz=>h.2.2 _ z _ (by simp) rfl
  have e:Yw kvs (m::more)=Yw (za8 kvs m.1 m.2) more:=rfl
  rw[e,zx5 h0,WK more (kvs++[(m.1,m.2)]) (by simpa using h)]
  simp
def zA8{ks:List (Int × Int)}(h:ks.Nodup):(ks.map kP).Nodup:=by
 induction ks with
 |nil=>exact nodup_nil
 |cons k ks ih=>
  obtain⟨h1,h2⟩:=xz.mp h;refine xz.mpr ⟨λz=>?_,ih h2⟩;obtain⟨y,hy,e⟩:=zk.mp z;exact h1 (Qx e ▸ hy)
def zQ3{α β γ:Type}(f:α->γ)(l:List (α × β)):(l.map λx=>f x.1)=(l.map (·.1)).map f:=by simp
def zQ4{α β γ:Type}(f:β->γ)(g:α->β)(h:α->γ)(e:∀x,f (g x)=h x)(l:List α):(l.map g).map f=l.map h:=by
 induction l with
 |nil=>rfl
 |cons x l ih=>rw[zJ,zJ,zJ,ih,e]
def xg7{P:Program}{w:World}{ks:List (Int × Int)}{xs:List V}(h:ks.length=xs.length):((qk ks xs).map λkv=>(tupleKind (yp P w)).hash kv.1)=ks.map Wv:=by
 rw[zQ3 (tupleKind (yp P w)).hash (qk ks xs),XD h];exact zQ4 _ _ _ zC8 ks
def zc2{ks ks2:List (Int × Int)}{xs xs2:List V}(nd:(ks++ks2).Nodup)(h:ks.length=xs.length)(h2:ks2.length=xs2.length):Yw (qk ks xs) (qk ks2 xs2)=qk (ks++ks2) (xs++xs2):=by
 rw[WK _ _ (by rw[<- Zi h,XD (by rw[zI,zI,h,h2])];exact zA8 nd),Zi h]
section
variable {A:AC}{X:Cx}{e:Expr}{es:List Expr}{t1:TAD}{pos p pos2:Pos}
def zW4(i k:Nat)(t:TFT)(t1:TAD):TSD:=λF rho n=>∃ks es,rho[i]?=some (some (.owT ks es))/\t1 rho n λas n1=>as.length=k/\t as n1 λks2 es2 n2=>(ks++ks2).Nodup/\ks.length+ks2.length<=sizeLine/\(ks=[]->(ks2.map Wv).Nodup) /\
 F.nx (rho.set i (some (.owT (ks++ks2) (es++es2)))) n2
@[simp] theorem xr9{i k t t1 F rho n}:zW4 i k t t1 F rho n=∃ks es,rho[i]?=some (some (.owT ks es))/\t1 rho n λas n1=>as.length=k/\t as n1 λks2 es2 n2=>(ks++ks2).Nodup/\ks.length+ks2.length<=sizeLine/\(ks=[]->(ks2.map Wv).Nodup) /\
 F.nx (rho.set i (some (.owT (ks++ks2) (es++es2)))) n2:=rfl
def zy0{i kk k:Nat}{x y:Str}{px apos cpos cp:Pos}{t:TFT}(F:FnT X.prog X.w X.K X.mg X.base y kk k t)(hr:Room kk X.A)(hK:X.K=A.K)(ha:PAD A X (e::es) t1)(hN:X.N[i]?=some x:=by rfl)(hv:Vis X.env.scope x:=by first |exact Or.inl rfl |exact Or.inr (Or.inl rfl) |exact Or.inr (Or.inr rfl))
  (hd:(x == ("__debug__" : Str))=false:=by decide) (hcd:(x == ("__classdict__" : Str))=false:=by decide) (hg:Gl X y:=by rfl) (hdb:(y == ("__debug__" : Str))=false:=by decide)
  (he:starEach (e::es) X.env=(false,eval e X.env)::starEach es X.env:=by rfl) (hpl:(backTo cp (starEach es X.env)).any (·.1)=false:=by rfl)
  (mm:M1 X (.Name x px) "update" apos (.Call (.Name y p) (e::es) [] cp) cpos:=by exact⟨rfl,rfl,rfl,rfl⟩)
  (hsw:swapsWith (.Call (.Attribute (.Name x px) "update" apos) [.Call (.Name y p) (e::es) [] cp] [] cpos) none pos.line X.env=pure false:=by rfl) :
  PSD A X (.Expr (.Call (.Attribute (.Name x px) "update" apos) [.Call (.Name y p) (e::es) [] cp] [] cpos) pos) (zW4 i k t t1):=by
 obtain⟨f,fd,ps,F,hm,hk,hb⟩:=F.ex
 exists (zj2 (zy9 (by have:=hr.un;lia) (qN hN hv hd hcd) (VC F hr hg hm hk hb .nil zz5 ha hdb he hpl) mm) hsw).imp λE sg H h=>by
   obtain⟨rho,n,R,ds,vs,⟨os,I⟩,⟨ks,es,hi,ht⟩,ok⟩:=h;obtain⟨a,xs,e1,hH,hl,rs,_⟩:=I.ownT hi;refine⟨.ref a,e1,a,rfl,.inr ⟨_,.inl hH⟩,rho,n,_,ds,vs,⟨os,I⟩,ht,λws H' n' es' ⟨os',J⟩ hle k=>?_⟩;obtain⟨J1,rs'⟩:=J.split hle;rw[wB,hK];refine⟨A.G,Zof A os',n',_,es',k.1,rs',J1.st,λa z=>.inl (J1.gz a z),J1.zO,k.2,λp H2 n2 ks2 es2 xs2 fr st hp hlx r q=>?_⟩;obtain⟨nd,hz,hh,q⟩:=q;have J2:=J1.called fr st;obtain⟨a4,xs4,e4,hH4,_⟩:=J2.ownT hi;obtain⟨a3,xs3,e3,hH3,hl3,rs3,up⟩:=(J2.grow (o:=.dT (qk ks2 xs2)) hp).ownT hi;rw[e1] at e3 e4;cases e3;cases e4
   have hap:a≠p:=λz=>by rw[z,hp] at hH4;cases hH4
   have z1:=VQ hl3;have z2:=VQ hlx
   refine⟨qk ks xs3,qk ks2 xs2,p,hH3,rfl,hap,wZ,by rw[z1,z2];exact hz,λe0=>?_,?_⟩
   ·have e5 : ks = [] := zX.mp (by rw [<- z1, e0]; rfl)
    rw[xg7 hlx];exact hh e5
   ·rw [zc2 nd hl3 hlx]
    refine ok.nx _ _ _ _ ⟨os',up (ks++ks2) (es++es2) (xs3++xs2) (by rw[zI,zI,hl3,hlx]) (rs3.append ?_)⟩ q
    exact Reps.mono (λ_ _ z=>z) (λa u _ e=>by rw[xV (yc e hp)];exact e) _ _ r
end
def zT6(acc:List (List Key × Addr × V)):List (List Key × V):=acc.map λx=>(x.1,x.2.2)
def xI9(P:Program)(w:World)(ob:Obj)(xs:List (List Key × Addr × Value)):Prop:=ob.ExactDict/\∃es ep,ob.data=.dict es ep/\es.toList=xs.map (entryOfKey (tupleKind (yp P w)))/\(xs.map (·.1)).Nodup
abbrev KA:List (List Key × Addr × V)->List (List Key × Addr × Value)->Prop:=Paired λp q=>p.1=q.1/\p.2.1=q.2.1/\RelV p.2.2 q.2.2
def KA.kt{H:Hp}{acc:List (List Key × Addr × V)}{xs:List (List Key × Addr × Value)}(r:KA acc xs):(∀x∈acc,H x.2.1=some (.tup (x.1.map kV)))->KT H (zT6 acc) xs:=by
 induction r with
 |nil=>exact λ_=>.nil
 |@cons p q ps qs hq t ih=>exact λh=>.cons ⟨hq.1,by rw[<- hq.2.1];exact h p xh,hq.2.2⟩ (ih λx hx=>h x (zm _ hx))
def KA.back{acc:List (List Key × Addr × V)}{xs:List (List Key × Addr × Value)}(r:KA acc xs):∀x∈xs,∃p∈acc,p.1=x.1/\p.2.1=x.2.1:=by
 induction r with
 |nil=>intro x hx;cases hx
 |@cons p q ps qs hq t ih=>
  intro x hx
  rcases zi.mp hx with e |hx
  ·subst e;exact⟨p,xh,hq.1,hq.2.1⟩
  ·obtain⟨p',h1,h2⟩:=ih x hx;exact⟨p',zm _ h1,h2⟩
def KA.keys{acc:List (List Key × Addr × V)}{xs:List (List Key × Addr × Value)}(r:KA acc xs):acc.map (·.1)=xs.map (·.1):=by
 induction r with
 |nil=>rfl
 |@cons p q ps qs hq t ih=>rw[zJ,zJ,ih,hq.1]
def KA.put{acc:List (List Key × Addr × V)}{xs:List (List Key × Addr × Value)}(r:KA acc xs)(k:List Key)(b:Addr){v:V}{u:Value}(h:RelV v u):KA (acc++[(k,b,v)]) (xs++[(k,b,u)]):=by
 induction r with
 |nil=>exact .cons ⟨rfl,rfl,h⟩ .nil
 |@cons p q ps qs hq t ih=>exact .cons hq ih
section
variable {X:Cx}{scope:Scope}{own M:List Str}{pins:List (Addr × Obj)}{σ:St}{H2:Hp}{s2:Shared}{tg iter kx vx:Expr}{ifs:List Expr}{pos:Pos}{g:TG}{tt:TT}{tk tv:TE}
def Jx(ok:CompOk X scope M)(hun:X.A.units<cLine)(hc:X.calm=true)(hg:∀C s2 H2 fp,PG (wL X scope own M C s2 H2 fp) tg g)(ht:∀C s2 H2 fp,PTs (wL X scope own M C s2 H2 fp) ifs tt)(hek:∀C s2 H2 fp,PE (wL X scope own M C s2 H2 fp) kx tk)(he:∀C s2 H2 fp,PE (wL X scope own M C s2 H2 fp) vx tv)
  (I2:Inv X pins σ H2 s2) {it:Addr}{fp:List Addr}{tn:Nat->Heap->Prop}{J:It} (T:Turn X.prog X.w X.K tg J fp it tn) (st2:tn 0 s2.heap) (f2:∀b∈fp,FpOk X pins H2 b)
  {W:Nat->Nat->List (List Key × Addr × V)->Hp->Prop} (w0:∃m,W 0 m [] H2) (wk:∀i m acc H,W i m acc H->∀x∈acc,H x.2.1=some (.tup (x.1.map kV))) {Qf:V->Hp->Prop}
  (turn : ∀ i m acc H, W i m acc H -> (J.stop i H /\ acc.length <= sizeLine /\ ∀ D, H D = none -> Qf (.ref D) (upd H D (.dT (zT6 acc)))) \/
   (J.go i H /\ acc.length < sizeLine /\ ∀ x H', J.yld i H x H' -> g x (List.replicate own.length none ++ σ) H' λσ2 H2 => σ2.drop own.length = σ /\ tt σ2 H2 λc H3 =>
    if c=true then tk σ2 H3 λy H4=>tv σ2 H4 λv H5=>∃k b m',y=.ref b/\k ∉ acc.map (·.1)/\m'<m/\W (i+1) m' (acc++[(k,b,v)]) H5 else ∃m',m'<m/\W (i+1) m' acc H3))
  {RR:Value->Addr->Result->Shared->Prop}{E:Value->Shared->Prop}
  (fin:∀D C H' s' m,Inv X pins σ H' s'->Qf (.ref D) H'->s'.heap.Ns C m->H' C=none->C≠X.env.locals->X.s₀.heap.objs.size<=C->(∀x c,X.env.cells.lookup x=some c->c≠C)->(∀p∈X.pn++pins,p.1≠C)->RR (.ref D) C (.ok .next) s') :
  wpAny (model X.prog X.w) X.A newDict (λacc s3=>wpAny (model X.prog X.w) X.A (newFunctionEnv scope X.env.globals (kY X.env scope.names []) [] X.env.qual none .none (some X.env)) (λcenv s4=>
   codeAny (model X.prog X.w) X.A (.compStart (.DictComp kx vx [⟨tg,iter,ifs,0⟩] scope pos) 0 (.ref it) acc { cenv with scope:=relabel scope X.env }) (RR acc cenv.locals) s4) E s3) E s2:=by
 refine xZ (Ze ?_);have zC:(s2.heap.push { cls:=.type "dict",dict:=none,data:=.dict #[] }).objs.size=s2.heap.objs.size+1:=xU ..;dsimp only;rw[zC];generalize hC:s2.heap.objs.size+1=C;generalize hh:pushCells ((s2.heap.push { cls:=.type "dict",dict:=none,data:=.dict #[] }).push { cls:=.type "dict",data:=.dict #[] }) scope.names=h4
 have fpl:∀b∈fp,FpOk X pins H2 b/\b<s2.heap.objs.size:=λb hb=>by
  obtain⟨o,e,_⟩:=T.obj 0 _ st2 b hb;exact⟨f2 b hb,zp e⟩
 have I4:Inv (wL X scope own M C s2 H2 fp) [] (replicate own.length none++σ) H2 { s2 with heap:=h4 }:=Kc (o0:={ cls:=.type "dict",dict:=none,data:=.dict #[] }) ok hc I2 fpl hC.symm hh.symm;generalize hX:wL X scope own M C s2 H2 fp=X' at I4
 have keep4:∀b o,s2.heap.get? b=some o->h4.get? b=some o:=λb o e=>by
  rw[<- hh];exact pushCells_keeps _ _ _ _ (ze _ (ze _ e))
 have hD4:h4.get? s2.heap.objs.size=some { cls:=.type "dict",dict:=none,data:=.dict #[] }:=by
  rw[<- hh];exact pushCells_keeps _ _ _ _ (ze _ (zq _ rfl))
 have isD0:xI9 X.prog X.w { cls:=.type "dict",dict:=none,data:=.dict #[] } []:=⟨⟨rfl,rfl,rfl⟩,#[],0,rfl,rfl,nodup_nil⟩;have dsys:(s2.heap.objs.size == sysModules)=false:=(VY (P:=X.prog) (w:=X.w) (H:=H2) s2.heap I2.big).2.1;have st4:tn 0 h4:=T.keep _ _ _ st2 λb hb o e=>keep4 b o e
 have gg:PG X' tg g:=by rw[<- hX];exact hg C s2 H2 fp
 have gt:PTs X' ifs tt:=by rw[<- hX];exact ht C s2 H2 fp
 have gk:PE X' kx tk:=by rw[<- hX];exact hek C s2 H2 fp
 have ge:PE X' vx tv:=by rw[<- hX];exact he C s2 H2 fp
 have xP:X'.prog=X.prog:=by rw[<- hX];rfl
 have xw:X'.w=X.w:=by rw[<- hX];rfl
 have xK:X'.K=X.K:=by rw[<- hX];rfl
 have xA:X'.A=X.A:=by rw[<- hX];rfl
 have xc:X'.calm=true:=by rw[<- hX];exact hc
 have xpn:X'.pn=[]:=by rw[<- hX];rfl
 have xs:X'.s₀=s2:=by rw[<- hX];rfl
 have xH:X'.H₀=H2:=by rw[<- hX];rfl
 have xL:X'.env.locals=C:=by rw[<- hX];rfl
 have xfs:X'.fs=frs X.stack:=by rw[<- hX];rfl
 have xex:X'.ex=fp:=by rw[<- hX];rfl
 have xe:X'.xe=λ_ _=>False:=by rw[<- hX];rfl
 have xenv:({ newEnv scope C X.env.globals (cellsFrom (C+1) scope.names (kY X.env scope.names [])) X.env.qual none .none (some X.env) builtinsNs with scope:=relabel scope X.env }:Env)=X'.env:=by rw[<- hX];rfl
 have Dlt:s2.heap.objs.size<C:=by rw[<- hC];exact Nat.lt_succ_self _
 have fpb:∀{pl:List (Addr × Obj)}{H:Hp},(∀b∈fp,H b=none)->(∀p∈pl,p.1 ∉ fp)->∀b∈fp,FpOk X' pl H b:=λ{pl H} hn hpl b hb=>by
  refine⟨hn b hb,?_,?_,.inl (by rw[xex];exact hb),λx c e=>(I4.ok.exf b (by rw[xex];exact hb)).2 x c e,λp hp z=>?_⟩
  ·exact(I4.ok.exf b (by rw[xex];exact hb)).1
  ·exact I4.ok.exfs b (by rw[xex];exact hb)
  ·rw [xpn, wg] at hp
   exact hpl p hp (by rw[z];exact hb)
 have Dfp:s2.heap.objs.size ∉ fp:=λz=>xm _ (fpl _ z).2;have DC:s2.heap.objs.size≠C:=zA Dlt
 have Dcell:∀x c,X'.env.cells.lookup x=some c->c≠s2.heap.objs.size:=λx c e z=>by
  obtain⟨v,o,q,hd⟩:=I4.cell x c e;rw[z] at q;have q':h4.get? s2.heap.objs.size=some o:=q;rw[hD4] at q';cases q';cases hd
 have Dfs:s2.heap.objs.size ∉ X'.fs:=λz=>by
  obtain⟨_,o,ho,_⟩:=I4.ok.funs.mem (by exact z)
  rw[xs] at ho;exact xm _ (zp ho)
 rw[xenv]
 have goal:∀s5:Shared,s5={ s2 with heap:=h4 }->codeAny (model X.prog X.w) X.A (.compLoop (.DictComp kx vx [⟨tg,iter,ifs,0⟩] scope pos) 0 (.ref it) (.ref s2.heap.objs.size) X'.env) (RR (.ref s2.heap.objs.size) C) s5:=by
  rintro s5 rfl;obtain⟨m0,w0⟩:=w0
  refine WV (λn s'=>∃i acc σ' H' ob vs,Inv X' [] σ' H' s'/\σ'.drop own.length=σ/\tn i s'.heap/\(∀b∈fp,H' b=none)/\H' s2.heap.objs.size=none /\
   s'.heap.get? s2.heap.objs.size=some ob/\xI9 X.prog X.w ob vs/\KA acc vs/\W i n acc H') ?_ m0
   ⟨0,[],_,H2,_,[],I4,by simp,st4,λb hb=>(f2 b hb).1,I2.hok.fresh (zo _),hD4,isD0,.nil,w0⟩
  rintro n s3 ⟨i,acc,σ3,H3,ob,vs,I3,hσ,st3,fr3,hD,hDo,isD,rv,w3⟩
  have noc:∀v,ob.data≠.cell v:=λv z=>by
   obtain⟨_,es,ep,e,_⟩:=isD;rw[e] at z;cases z
  have pinD:∀{H:Hp}{s:Shared}{σ:St},Inv X' [] σ H s->H s2.heap.objs.size=none->s.heap.get? s2.heap.objs.size=some ob ->
    Inv X' [(s2.heap.objs.size,ob)] σ H s:=λ{H s σ} I hn ho=>I.pins_of λp hp=>by
   have e:p=(s2.heap.objs.size,ob):=by simpa using hp
   subst e
   exact⟨ho,hn,by rw[xL];exact DC,Dfs,noc⟩
  have plD:∀p∈[((s2.heap.objs.size,ob):Addr × Obj)],p.1 ∉ fp:=λp hp=>by
   have e:p=(s2.heap.objs.size,ob):=by simpa using hp
   subst e;exact Dfp
  have I3':=pinD I3 hD hDo
  rcases turn i n acc H3 w3 with ⟨stop,hsz,q⟩ |⟨go,hsz,step⟩
  ·have := T.done X' xP xw xK xc i _ s3 σ3 H3 (λ_ _ => False) I3' (fpb fr3 plD) st3 stop;rw[xA] at this;refine thn this λr s4 ⟨hr,I5⟩=>?_;subst hr
   have hDo5:=(I5.pin (s2.heap.objs.size,ob) (by rw[xpn];simp)).1
   have un:Un (frs X.stack) fp H2 H3 s2.heap s4.heap:=by
    have:=I5.base;rw[xfs,xex,xH,xs] at this;exact this
   have os:s4.os=s2.os:=by rw[I5.os,xs]
   have hok:HOk X.prog X.w H3 s4.heap:=by have:=I5.hok;rw[xP,xw] at this;exact this
   have IX:Inv X pins σ H3 s4:=I2.call' os un hok I5.bare λb hb=>by
    obtain⟨_,f1,_,f3,f4,f5⟩:=f2 b hb;exact⟨f3,f1,f4,f5⟩
   have old:∀{b:Addr},s2.heap.objs.size<=b->(X.s₀.heap.objs.size<=b/\b≠X.env.locals/\(∀x c,X.env.cells.lookup x=some c->c≠b)/\∀p∈X.pn++pins,p.1≠b):=λ{b} hb=>by
    obtain⟨_,f1,_,f3,f4,f5⟩:=I2.fpOk (H':=λ_=>none) hb rfl;exact⟨zB I2.sz hb,f1,f4,f5⟩
   obtain⟨d1,d2,d3,d4⟩:=old (zo s2.heap.objs.size);obtain⟨c1,c2,c3,c4⟩:=old (b:=C) (yB Dlt)
   have IY:Inv X pins σ (upd H3 s2.heap.objs.size (.dT (zT6 acc))) s4:=IX.track hD d1 d2 d3 d4 ⟨by unfold zT6;rw[zg];exact hsz,dsys,vs,rv.kt λx hx=>by rw[xV (λz=>by have:=wk i n acc H3 w3 x hx;rw[z,hD] at this;cases this)];exact wk i n acc H3 w3 x hx,(let ⟨hc,es,ep,h1,h2,h3⟩:=isD;⟨ob,es,ep,hDo5,hc,h1,h2,h3⟩)⟩
   obtain⟨m,hm,_⟩:=I5.loc;rw[xL] at hm
   have hCn:H3 C=none:=by have:=I5.free;rw[xL] at this;exact this
   exact fin _ C _ s4 m IY (q _ hD) hm (by rw[xV (Ne.symm DC)];exact hCn) c2 c1 c3 c4
  ·have := T.item X' xP xw xK xc i _ s3 σ3 H3 (λ_ _ => False) I3' (fpb fr3 plD) st3 go;rw[xA] at this;refine thn this λr s4 ⟨u,hr,h4⟩=>?_;subst hr;refine thn h4 λ_ s5 ⟨x,H5,I5,r5,y5,st5,fr5⟩=>?_
   have hσn:∀(j:Nat) v,(replicate own.length none++σ)[j]?=some (some v)->σ3[j]?=some (some v):=λj v e=>by
    by_cases hlt:j<own.length
    ·rw [xv (by simpa using hlt), xi, if_pos hlt] at e
     cases e
    ·have hle := yh hlt
     rw[xk (by simpa using hle),xu,<- hσ,yl] at e
     rw[show own.length+(j-own.length)=j by lia] at e
     exact e
   have hlen:(replicate own.length none++σ).length=σ3.length:=by
    have e1:σ3.length=X'.N.length:=I5.len;have e2:=I4.len;exact e2.trans e1.symm
   have I5w:Inv X' _ (replicate own.length none++σ) H5 s5:=I5.weak hlen hσn;have I5p:=I5w.pinned (fpb fr5 plD) (T.obj _ _ st5);have a1:=gg _ s5 _ H5 x u _ I5p r5 (step x H5 y5);rw[xP,xw,xA,xe] at a1;refine thn a1 λ_ s6 ⟨σ6,H6,I6,d6,q6⟩=>?_;have a2:=gt _ s6 σ6 H6 _ I6 q6;rw[xP,xw,xA,xe] at a2;refine thn a2 λb s7 ⟨H7,I7,q7⟩=>?_
   have pin7:∀{H:Hp}{s:Shared},Inv X' ([((s2.heap.objs.size,ob):Addr × Obj)]++Xj fp s5.heap) σ6 H s ->
     (tn (i+1) s.heap/\(∀b∈fp,H b=none)/\H s2.heap.objs.size=none/\s.heap.get? s2.heap.objs.size=some ob/\Inv X' [] σ6 H s):=λ{H s} I=>by
    refine⟨T.keep _ _ _ st5 λb hb o e=>(I.pin (b,o) (zr _ (zr _ (vU hb e)))).1,λb hb=>?_,?_,?_,I.pins_of λp hp=>by simp at hp⟩
    ·obtain⟨o,e,d⟩:=T.obj _ _ st5 b hb;exact(I.pin (b,o) (zr _ (zr _ (vU hb e)))).2.1
    ·exact(I.pin (s2.heap.objs.size,ob) (by rw[xpn];simp)).2.1
    ·exact(I.pin (s2.heap.objs.size,ob) (by rw[xpn];simp)).1
   cases b with
   |false=>
    obtain⟨p1,p2,p3,p4,p5⟩:=pin7 I7;obtain⟨m',hm,w7⟩:=q7;exact⟨m',hm,i+1,acc,σ6,H7,ob,vs,p5,d6,p1,p2,p3,p4,isD,rv,w7⟩
   | true =>
    rw[if_pos rfl] at q7 ⊢;have a3:=gk _ s7 σ6 H7 _ I7 q7;rw[xP,xw,xA,xe] at a3;refine thn a3 λy s8 ⟨v,H8,I8,r8,q8⟩=>?_;have a4:=ge _ s8 σ6 H8 _ I8 q8;rw[xP,xw,xA,xe] at a4;refine thn a4 λy2 s9 ⟨v2,H9,I9,r9,q9⟩=>?_;obtain⟨p1,p2,p3,p4,p5⟩:=pin7 I9;obtain⟨kk,kb,m',ek,hnew,hm,w8⟩:=q9;subst ek;cases(show y=Value.ref kb from r8);have hl:=rv.length;obtain⟨hc,es,ep,h1,h2,h3⟩:=isD;have tup:∀x∈acc++[(kk,kb,v2)],H9 x.2.1=some (.tup (x.1.map kV)):=wk _ _ _ _ w8
    have okH:HOk X.prog X.w H9 s9.heap:=by have:=I9.hok;rw[xP,xw] at this;exact this
    have his:∀x∈vs,(tupleKind (yp X.prog X.w)).is s9.heap x.1 x.2.1:=λx hx=>by
     obtain⟨p,hp,e1,e2⟩:=rv.back x hx;have:=tup p (xj _ hp);rw[e1,e2] at this;exact Ka okH this
    have hkb:(tupleKind (yp X.prog X.w)).is s9.heap kk kb:=Ka okH (tup (kk,kb,v2) (by simp))
    refine wpAny_dictSet_heap (hsz:=by lia) (knd:=tupleKind (yp X.prog X.w)) (by show X.A.units<cLine;exact hun) hkb ⟨ob,es,ep,p4,hc,h1,h2,his,h3⟩ λh' dd' hs=>?_
    obtain⟨ob',es',ep',ho',hc',hd',he',hi',hn'⟩:=dd'
    have no:atKey vs kk=none:=QS (by rw[<- rv.keys];exact hnew)
    rw[storedH_new no] at he' hi' hn'
    have I10:Inv X' [] σ6 H9 { s9 with heap:=h',toks:=s9.toks+(tupleKind (yp X.prog X.w)).draws kk }:=p5.turned (t':=s9.toks+(tupleKind (yp X.prog X.w)).draws kk) (λb o hb e=>hs.extBut b o hb e) p3 (by rw[xL];exact DC) (.inr (by rw[xs];exact zo _)) Dcell (λp hp=>by rw[xpn] at hp;simp at hp)
    exact⟨m',hm,i+1,acc++[(kk,kb,v2)],σ6,H9,ob',_,I10,d6,T.keep _ _ _ p1 λb hb o e=>hs.extBut b o (λz=>Dfp (by rw[<- z];exact hb)) e,p2,p3,ho',⟨hc',es',ep',hd',he',hn'⟩,rv.put kk kb r9,w8⟩
 exact codeAny_compStart_dict (goal _ rfl) (T.self _ 0 _ _ _ st4 (goal _ rfl))
def zg3(wi:TI)(own:Nat)(g:TG)(tt:TT)(tk tv:TE):TE:=λσ H Q=>wi σ H λJ H1=>∃W:Nat->Nat->List (List Key × Addr × V)->Hp->Prop,(∃m,W 0 m [] H1)/\(∀i m acc H,W i m acc H->∀x∈acc,H x.2.1=some (.tup (x.1.map kV)))/\∀i m acc H,W i m acc H ->
 (J.stop i H/\acc.length<=sizeLine/\∀D,H D=none->Q (.ref D) (upd H D (.dT (zT6 acc)))) \/
 (J.go i H /\ acc.length < sizeLine /\ ∀ x H', J.yld i H x H' -> g x (List.replicate own none ++ σ) H' λσ2 H2 => σ2.drop own = σ /\ tt σ2 H2 λc H3 =>
  if c=true then tk σ2 H3 λy H4=>tv σ2 H4 λv H5=>∃k b m',y=.ref b/\k ∉ acc.map (·.1)/\m'<m/\W (i+1) m' (acc++[(k,b,v)]) H5 else ∃m',m'<m/\W (i+1) m' acc H3)
def zk0{wi:TI}(ok:CompOk X scope M)(hun:X.A.units<cLine)(hc:X.calm=true)(hi:PI X tg iter wi)(hg:∀C s2 H2 fp,PG (wL X scope own M C s2 H2 fp) tg g)(ht:∀C s2 H2 fp,PTs (wL X scope own M C s2 H2 fp) ifs tt)
  (hek:∀C s2 H2 fp,PE (wL X scope own M C s2 H2 fp) kx tk) (he:∀C s2 H2 fp,PE (wL X scope own M C s2 H2 fp) vx tv) (hs:∀x,foldedSetIterable iter X.env x=pure x:=by intro _;rfl) :
  PE X (.DictComp kx vx [⟨tg,iter,ifs,0⟩] scope pos) (zg3 wi own.length g tt tk tv):=by
 intro pins s σ H Q I h;rw[WU]
 refine yz (use:=none) rfl hs (YT (ok.cells I)) ok.kind (λx hx hl=>by rw[ok.uniq x hx,hl]) ?_
 refine thn (hi pins s σ H _ I h) λv s1 h1=>thn h1 λitv s2 h2=>?_;obtain⟨it,fp,tn,J,H2,e,I2,T,st2,f2,W,w0,wk,turn⟩:=h2;subst e;refine Jx (Qf:=Q) ok hun hc hg ht hek he I2 T st2 f2 w0 wk turn λD C H' s' m IY q hm hCn c2 c1 c3 c4=>⟨m,hm,λh' hs'=>?_⟩;exact⟨.ref D,H',IY.turned (t':=s'.toks) (λb o hb e=>hs'.extBut b o hb e) hCn c2 (.inr c1) c3 c4,rfl,q⟩
end
abbrev TDT:=Rho->Nat->(List (Int × Int)->List D->Nat->Prop)->Prop
def xB9(A:AC)(t:TDT):TE:=λsg H Q=>∃rho n P ds vs,Am A n rho sg H ds vs/\t rho n P /\
 ∀p H' n' ks es xs os,AmO A os n' rho sg H' ds vs->Reps A.K A.G (Zof A os) H' es xs->H' p=none->ks.length=xs.length->P ks es n'->Q (.ref p) (upd H' p (.dT (qk ks xs)))
@[irreducible] def PDT(A:AC)(X:Cx)(e:Expr)(t:TDT):Prop:=PE X e (xB9 A t)
def QX:List (Int × Int)->List Addr->List V->List (List Key × Addr × V)
 |k::ks,b::bs,x::xs=>(kP k,b,x)::QX ks bs xs
 |_,_,_=>[]
theorem QV:∀{ks:List (Int × Int)}{bs:List Addr}{xs:List V},ks.length=bs.length->ks.length=xs.length->(QX ks bs xs).length=ks.length
 |[],[],[],_,_=>rfl
 |k::ks,b::bs,x::xs,h1,h2=>by
  show(QX ks bs xs).length+1=ks.length+1
  rw[QV (by simpa using h1) (by simpa using h2)]
theorem KG:∀{ks:List (Int × Int)}{bs:List Addr}{xs:List V},ks.length=bs.length->ks.length=xs.length->(QX ks bs xs).map (·.1)=ks.map kP
 |[],[],[],_,_=>rfl
 |k::ks,b::bs,x::xs,h1,h2=>by
  show kP k::(QX ks bs xs).map (·.1)=kP k::ks.map kP
  rw[KG (by simpa using h1) (by simpa using h2)]
theorem QW:∀{ks:List (Int × Int)}{bs:List Addr}{xs:List V},ks.length=bs.length->ks.length=xs.length->zT6 (QX ks bs xs)=qk ks xs
 |[],[],[],_,_=>rfl
 |k::ks,b::bs,x::xs,h1,h2=>by
  show(kP k,x)::zT6 (QX ks bs xs)=(kP k,x)::qk ks xs
  rw[QW (by simpa using h1) (by simpa using h2)]
theorem KF:∀{ks:List (Int × Int)}{bs:List Addr}{xs:List V} (k:Int × Int) (b:Addr) (x:V),ks.length=bs.length->ks.length=xs.length->QX (ks++[k]) (bs++[b]) (xs++[x])=QX ks bs xs++[(kP k,b,x)]
 |[],[],[],_,_,_,_,_=>rfl
 |k'::ks,b'::bs,x'::xs,k,b,x,h1,h2=>by
  show(kP k',b',x')::QX (ks++[k]) (bs++[b]) (xs++[x])=(kP k',b',x')::(QX ks bs xs++[(kP k,b,x)])
  rw[KF k b x (by simpa using h1) (by simpa using h2)]
def Rep.prT_inv{K:W.Frag}{G:Option Addr}{Z:Addr->Prop}{H:Hp}{v:V}{k:Int × Int}(h:Rep K G Z H (.prT k) v):∃b,v=.ref b/\¬ Z b/\H b=some (.tup [.int k.1,.int k.2]):=by unfold Rep at h;exact h
theorem QU{K:W.Frag}{G:Option Addr}{Z:Addr->Prop}{H:Hp}:∀{ks:List (Int × Int)}{bs:List Addr}{xs:List V},Reps K G Z H (ks.map D.prT) (bs.map V.ref)->∀x∈QX ks bs xs,H x.2.1=some (.tup (x.1.map kV))
 |[],_,_,_,x,hx=>by cases hx
 |_::_,[],_,_,x,hx=>by cases hx
 |_::_,_::_,[],_,x,hx=>by cases hx
 |k::ks,b::bs,y::xs,r,x,hx=>by
  obtain⟨v,r',e,q,t⟩:=Reps.split r;rw[zJ] at e;cases e
  rcases zi.mp hx with e |hx
  ·subst e;obtain⟨b',e,_,h⟩:=q.prT_inv;cases e;exact h
  ·exact QU t x hx
def QF(own:Nat)(g:TGD)(tt:TBD)(tk tv:TD)(rho:Rho)(P:List (Int × Int)->List D->Nat->Prop)(items:List D)(n1:Nat):Prop:=items.length<=sizeLine/\∃J:Nat->List (Int × Int)->List D->Nat->Prop,J 0 [] [] n1 /\
 (∀i d ks es n,items[i]?=some d->J i ks es n->g d (replicate own none++rho) λrho'=>rho'.drop own=rho/\tt rho' n λc n2=>if c=true then tk rho' n2 λdk n3=>tv rho' n3 λdv n4=>∃k,dk=.prT k/\k ∉ ks/\J (i+1) (ks++[k]) (es++[dv]) n4 else J (i+1) ks es n2) /\
 ∀ks es n,J items.length ks es n->P ks es n
def Jy(it:TID)(own:Nat)(g:TGD)(tt:TBD)(tk tv:TD):TDT:=λrho n P=>it rho n (QF own g tt tk tv rho P)
section
variable {A:AC}{X:Cx}{it:TID}{g:TGD}{tt:TBD}{tk tv:TD}{tg iter kx vx:Expr}{ifs:List Expr}{scope:Scope}{own M:List Str}{pos:Pos}
def za3{sg:St}{H:Hp}{Q:VK}{m:Nat}(h:xB9 A (Jy it m g tt tk tv) sg H Q):zg3 (iOf A it) m (gOf A m g) (za2 A tt) (tOf A tk) (tOf A tv) sg H Q:=by
 obtain⟨rho,n,P,ds,vs,I,ht,hQ⟩:=h;refine⟨rho,n,_,ds,vs,I,ht,λJ H' n' items es ws I1 hl hJ k=>?_⟩;obtain⟨hsz,W,w0,turn,fin⟩:=k
 refine⟨λi mm acc H=>mm=items.length-i/\i<=items.length/\∃ks bs accD xs n,acc=QX ks bs xs/\ks.length=bs.length/\ks.length=xs.length/\ks.length<=i/\xs.length=accD.length/\Am A n rho sg H (es++(ks.map D.prT++(accD++ds))) (ws++(bs.map V.ref++(xs++vs)))/\W i ks accD n,
  ⟨items.length,rfl,wa _,[],[],[],[],n',rfl,rfl,rfl,zo _,rfl,I1,w0⟩,?_,?_⟩
 ·rintro i mm acc H3 ⟨rfl, hi, ks, bs, accD, xs, n3, rfl, hkb, hkl, hai, hal, ⟨os, I3⟩, w3⟩ x hx;obtain⟨I4,r1⟩:=I3.split hl
  obtain⟨I5,r2⟩:=I4.split (by simpa using hkb.symm)
  exact QU r2 x hx
 rintro i mm acc H3 ⟨rfl,hi,ks,bs,accD,xs,n3,rfl,hkb,hkl,hai,hal,⟨os,I3⟩,w3⟩;have hlk:(QX ks bs xs).length=ks.length:=QV hkb hkl
 have hlb:(bs.map V.ref).length=(ks.map D.prT).length:=by simpa using hkb.symm
 obtain⟨j1,j2⟩:=hJ n3 rho sg H3 (ks.map D.prT++(accD++ds)) (bs.map V.ref++(xs++vs)) i ⟨os,I3⟩
 by_cases hlt:i<items.length
 ·refine .inr ⟨(j1 items[i] (by simp [hlt])).1, by lia, λx H4 y => ?_⟩
  obtain⟨os4,I4⟩:=(j1 items[i] (by simp[hlt])).2 x H4 y
  refine⟨replicate m none++rho,n3,_,items[i],_,_,⟨_,I4.front m⟩,turn i items[i] ks accD n3 (by simp[hlt]) w3,λrho' sg' ⟨os5,I5⟩ e5 k5=>?_⟩
  obtain⟨k5,k6⟩:=k5
  have e6:sg'.drop m=sg:=by rw[e5,yC (by simp)]
  refine⟨e6,rho',n3,_,_,_,⟨os5,I5⟩,k6,λc H6 n6 ⟨os6,I6⟩ k7=>?_⟩
  cases c with
  |false=>
   obtain⟨os7,I7⟩:=I6.back k5 e6
   exact⟨items.length-(i+1),w5,rfl,hlt,ks,bs,accD,xs,n6,rfl,hkb,hkl,w5,hal,⟨os7,I7⟩,k7⟩
  | true =>
   rw[if_pos rfl] at k7 ⊢;refine⟨rho',n6,_,_,_,⟨os6,I6⟩,k7,λvk H8 n8 dk I8 k8=>?_⟩;refine⟨rho',n8,_,_,_,I8,k8,λv H9 n9 d ⟨os9,I9⟩ k9=>?_⟩;obtain⟨kk,rfl,hnew,w9⟩:=k9;obtain⟨os10,I10⟩:=I9.back k5 e6;obtain⟨I11,rv⟩:=I10.pop;obtain⟨I12,rk⟩:=I11.pop;obtain⟨I13,r1⟩:=I12.split hl;obtain⟨I14,r2⟩:=I13.split hlb;obtain⟨I15,r3⟩:=I14.split hal;obtain⟨b,rfl,_⟩:=rk.prT_inv
   refine⟨kP kk,b,items.length-(i+1),rfl,?_,w5,rfl,hlt,ks++[kk],bs++[b],accD++[d],xs++[v],n9,(KF kk b v hkb hkl).symm,by simp[hkb],by simp[hkl],by simp;lia,by simp[hal],⟨os10,?_⟩,w9⟩
   ·rw[KG hkb hkl];intro z;obtain⟨y,hy,e⟩:=zk.mp z;exact hnew (Qx e ▸ hy)
   ·have rk2 : Reps A.K A.G (Zof A os10) H9 ((ks ++ [kk]).map D.prT) ((bs ++ [b]).map V.ref) := by
     rw[zS,zS];exact r2.append (.cons rk .nil)
    exact((I15.join (r3.append (.cons rv .nil))).join rk2).join r1
 ·have e : i = items.length := by lia
  subst e
  refine .inl ⟨j2 (zo _),w5,λp hp=>?_⟩
  obtain⟨I4,r1⟩:=I3.split hl;obtain⟨I5,r2⟩:=I4.split hlb;obtain⟨I6,r3⟩:=I5.split hal;rw[QW hkb hkl];exact hQ p H3 n3 ks accD xs os I6 r3 hp hkl (fin ks accD n3 w3)
def zk2{l:Nat}(hr:Room l X.A)(ok:CompOk X scope M)(hc:X.calm=true)(hi:PID A X tg iter it)(hg:∀C s2 H2 fp,PGD A (wL X scope own M C s2 H2 fp) own.length tg g)(ht:∀C s2 H2 fp,PTs (wL X scope own M C s2 H2 fp) ifs (za2 A tt))
  (hk:∀C s2 H2 fp,PD A (wL X scope own M C s2 H2 fp) kx tk) (he:∀C s2 H2 fp,PD A (wL X scope own M C s2 H2 fp) vx tv) (hs:∀x,foldedSetIterable iter X.env x=pure x:=by intro _;rfl):PDT A X (.DictComp kx vx [⟨tg,iter,ifs,0⟩] scope pos) (Jy it own.length g tt tk tv):=by exists (zk0 ok (by have:=hr.un;lia) hc hi hg ht hk he hs).imp λ_ _ _=>za3
end
section
variable {A:AC}{X:Cx}{es:List Expr}{t1:TAD}{pos:Pos}
def dPr(t:TAD):TD:=λrho n P=>t rho n λds n1=>∃k:Int × Int,ds=[.int k.1,.int k.2]/\P (.prT k) n1
@[simp] theorem xN4{t rho n P}:dPr t rho n P=t rho n λds n1=>∃k:Int × Int,ds=[.int k.1,.int k.2]/\P (.prT k) n1:=rfl
def xb8{x1}(h:PAD A X es t1):PD A X (.Tuple es x1 pos) (dPr t1):=by
 exists (zG4 h).imp λsg H Q h=>by
   obtain⟨rho,n,P,ds,vs,I,ht,hQ⟩:=h;refine⟨rho,n,_,ds,vs,I,ht,λws H' n' es' ⟨os,J⟩ hl k=>?_⟩;obtain⟨k,rfl,q⟩:=k;obtain⟨J1,rs⟩:=J.split hl;obtain⟨v1,v2,rfl,r1,r2⟩:=UB rs;have e1:=r1.int_inv;have e2:=r2.int_inv;subst e1 e2
   refine⟨wX (show 2<=1000 by decide),λp hp=>hQ _ _ n' _ ⟨os,(J1.grow hp).push ?_⟩ q⟩
   unfold Rep;exact⟨p,rfl,λz=>J1.zH p z hp,wZ⟩
end
section
variable {P:Program}{w:World}{K:W.Frag}{mg:Str->Option Value}{base:Heap}
def Fun.okT{x qual:Str}{st:Stmt}{f:Addr}{fd:FuncData}{N ps:List Str}{k:Nat}{t:TFT}{tb:TDT}{e:Expr}{pos:Pos}(F:Fun K x qual st f fd)(S:FnScope N ps (xg st))(hb:vN st=[.Return (some e) pos])
  (body : ∀ (cdv : Value) (A0 : Around) (outer : List Env) (s : Shared) (H : Hp) (E : XK) (G : Option Addr) (Z : Addr -> Prop), Room k (A0.deeper (envOfC qual (xg st) s.heap.objs.size f cdv)) ->
   PDT ⟨K,G,Z,H⟩ (zu5 CX0 P w K mg base N qual (xg st) f cdv A0 outer s H E).nox e tb)
  (spec:∀ds n Q,ds.length=ps.length->t ds n Q->tb (startD N ds) n Q):FnOk P w K mg base CX0 (k+1) f fd ps (spT K ps.length t):=by
 exists (by
   refine F.ok S (λvs H Q E h=>?_) (λcdv A0 outer s H vs Q E hr h=>?_)
   ·obtain⟨G,Z,n,R,ds,hl,rs,_⟩:=h;rw[rs.length];exact hl
   ·obtain ⟨G, Z, n, R, ds, hl, rs, hst, gz, z0, ht, hQ⟩ := h;rw[hb];refine⟨_,Vy (zG1 (body cdv A0 outer s H E G Z hr)) zj0,startD N ds,n,R,[],[],⟨[],jj rs hst gz z0⟩,spec ds n R hl ht,λp H' n' ks es xs os I r hp hlx q=>?_⟩
    exact hQ p H' n' ks es xs I.fr I.st hp hlx (Reps.mono (λa _ z=>.inl z) (λ_ _ _ e=>e) _ _ r) q)
end
section
variable {prog:Program}{w:World}{A:Around}{R:Result->Shared->Prop}{I:Addr}{fp wr:List Addr}{n:Nat}{P:Nat->Value->Prop}{St:Nat->Heap->Prop}
def zT8(prog:Program)(w:World)(A:Around)(P:Nat->Value->Prop)(St:Nat->Heap->Prop)(bt:Nat->Nat->Bool):Prop:=
 ∀t i j vi vj (s:Shared) (Q:Value->Shared->Prop) (E:Value->Shared->Prop),St t s.heap->P i vi->P j vj->Q (.bool (bt i j)) s->wpAny (model prog w) A (richCompare .Lt vi vj) Q E s
def Walks.more{bs:List Addr}{Ok:Heap->Prop}(W:Walks prog w A I fp wr n P St)(hb:∀b∈bs,b ∉ wr)(hk:∀h h',Ok h->(∀b∈bs,∀o,h.get? b=some o->h'.get? b=some o)->Ok h'):Walks prog w A I (fp++bs) wr n P (λi h=>St i h/\Ok h) where
 sub:=λb h=>xj _ (W.sub b h)
 frame:=λi h h' st k=>⟨W.frame i h h' st.1 λb m o e=>k b (xj _ m) o e,hk h h' st.2 λb m o e=>k b (zr _ m) o e⟩
 item:=λi s Q E hi st hQ=>W.item i s Q E hi st.1 λv h' tk hP st' k=>hQ v h' tk hP ⟨st',hk _ _ st.2 λb m o e=>k b o (hb b m) e⟩ k
 done:=λs Q E st hQ=>W.done s Q E st.1 hQ
 self:=λi s Q E st hQ=>W.self i s Q E st.1 hQ
def zm7(W:Walks prog w A.in1 I fp wr n P St)(bt:Nat->Nat->Bool)(hcmp:zT8 prog w A.in1 P St bt)(S:Addr)(hSf:S ∉ fp):∀(k j:Nat) (s:Shared) (vb:Value) (c:Nat),n-(j+1)=k->j+1<=n->St (j+1) s.heap->P (argBest bt j) vb ->
  s.heap.get? S=some (seqObj "list" #[vb,vb] c)->(∀v h' tk,P (argBest bt (n-1)) v->(∀b o,b ∉ wr->b≠S->s.heap.get? b=some o->h'.get? b=some o)->R (.ok (.ret v)) { s with heap:=h',toks:=tk }) ->
  codeAny (model prog w) A (.builtin "min.loop" ⟨[.ref I,.none,.ref S],[]⟩) R s:=by
 have hSw:S ∉ wr:=λh=>hSf (W.sub _ h)
 have nm:(toString "min" ++ toString ".loop" : String) = "min.loop" := by decide
 intro k
 induction k with
 |zero=>
  intro j s vb c hk hj hst hPb hS hR
  have hin:j+1=n:=w5
  refine codeAny_builtin F.entry_min_loop ?_;rw[Around.under_plainId F.plain_min_loop _];refine zb (m:=seqItems? (.ref S)) (wx hS rfl (zb (m:=tryCatch (pyNext (.ref I)) _) (wpAny_tryCatch (W.done s _ _ (hin ▸ hst) λh' tk hk'=>?_))));have hS':=hk' S _ hSw hS
  refine zb (m:=updateSeq S (λ_=>#[])) (wpAny_updateSeq hS' rfl (zb (yq (zf (hR vb _ tk (by rw[<- hin];exact hPb) λb o hbw hbS e=>(wm _ _ (Ne.symm hbS)).trans (hk' b o hbw e))))))
 | succ k ih =>
  intro j s vb c hk hj hst hPb hS hR
  have hlt:j+1<n:=w5
  refine codeAny_builtin F.entry_min_loop ?_;rw[Around.under_plainId F.plain_min_loop _];refine zb (m:=seqItems? (.ref S)) (wx hS rfl (zb (m:=tryCatch (pyNext (.ref I)) _) (wpAny_tryCatch (W.item (j+1) s _ _ hlt hst λv h' tk hP hst' hk'=>?_))));have hS':=hk' S _ hSw hS;refine zb (m:=tryCatch (holding [v,v] (richCompare .Lt v vb >>= _)) _) (wpAny_tryCatch (xF (zb (hcmp (j+1+1) (j+1) (argBest bt j) v vb _ _ _ hst' hP hPb (zb (xF (xY (zb (yq (zf ?_))))))))))
  cases hb:bt (j+1) (argBest bt j) with
  |true=>
   simp only[if_true];refine zb (wpAny_updateSeq hS' rfl (zb (yq ?_)));rw[nm]
   refine zf ⟨plainId_quiet F.plain_min_loop _,ih (j+1) _ v _ w5 hlt (W.frame _ _ _ hst' λb hbf o e=>(wm _ _ (λh:S=b=>hSf (by rw[h];exact hbf))).trans e) (by simp only[argBest,hb,if_true];exact hP) (xN _ hS' rfl) λv' h'' tk'' hP' hk''=>?_⟩
   exact hR v' h'' tk'' hP' λb o hbw hbS e=>hk'' b o hbw hbS ((wm _ _ (Ne.symm hbS)).trans (hk' b o hbw e))
  |false=>
   simp only[zU,if_false];refine zb (yq ?_);rw[nm]
   refine zf ⟨plainId_quiet F.plain_min_loop _,ih (j+1) _ vb c w5 hlt hst' (by simp only[argBest,hb,zU,if_false];exact hPb) hS' λv' h'' tk'' hP' hk''=>?_⟩
   exact hR v' h'' tk'' hP' λb o hbw hbS e=>hk'' b o hbw hbS (hk' b o hbw e)
def zc1(W:Walks prog w A.in1 I fp wr n P St)(bt:Nat->Nat->Bool)(hcmp:zT8 prog w A.in1 P St bt)(S:Addr)(hSf:S ∉ fp)(hn:0<n){s:Shared}{c:Nat}(hst:St 0 s.heap)(hS:s.heap.get? S=some (seqObj "list" #[] c))
  (hR:∀v h' tk,P (argBest bt (n-1)) v->(∀b o,b ∉ wr->b≠S->s.heap.get? b=some o->h'.get? b=some o)->R (.ok (.ret v)) { s with heap:=h',toks:=tk }):codeAny (model prog w) A (.builtin "min.loop" ⟨[.ref I,.none,.ref S],[]⟩) R s:=by
 have hSw:S ∉ wr:=λh=>hSf (W.sub _ h)
 have nm:(toString "min" ++ toString ".loop" : String) = "min.loop" := by decide
 refine codeAny_builtin F.entry_min_loop ?_;rw[Around.under_plainId F.plain_min_loop _];refine zb (m:=seqItems? (.ref S)) (wx hS rfl (zb (m:=tryCatch (pyNext (.ref I)) _) (wpAny_tryCatch (W.item 0 s _ _ hn hst λv h' tk hP hst' hk'=>?_))));have hS':=hk' S _ hSw hS;refine zb (m:=updateSeq S (λ_=>#[v,v])) (wpAny_updateSeq hS' rfl ?_);rw[nm]
 refine zf ⟨plainId_quiet F.plain_min_loop _,zm7 W bt hcmp S hSf _ 0 _ v _ rfl hn (W.frame _ _ _ hst' λb hbf o e=>(wm _ _ (λh:S=b=>hSf (by rw[h];exact hbf))).trans e) hP (xN _ hS' rfl) λv' h'' tk'' hP' hk''=>?_⟩
 exact hR v' h'' tk'' hP' λb o hbw hbS e=>hk'' b o hbw hbS ((wm _ _ (Ne.symm hbS)).trans (hk' b o hbw e))
def zm6{E:Value->Shared->Prop}{s:Shared}{x:Value}{Q:Value->Shared->Prop}
  (h : wpAny (model prog w) A.in1 (pyIter x) (λit s₂ => ∃ I fp wr n P St bt, it = .ref I /\ Walks prog w A.in1 I fp wr n P St /\ St 0 s₂.heap /\ (∀ b ∈ fp, b < s₂.heap.objs.size) /\ 0 < n /\ zT8 prog w A.in1 P St bt /\
   ∀v h' tk,P (argBest bt (n-1)) v->(∀b o,b ∉ wr->s₂.heap.get? b=some o->h'.get? b=some o)->Q v { s₂ with heap:=h',toks:=tk }) E s):wpAny (model prog w) A (call (.builtin "min") [x]) Q E s:=by
 have nm:(toString "min" ++ toString ".loop" : String) = "min.loop" := by decide
 refine call_function_tree F.kind_min F.plain_min F.entry_min (F.args_min1 _) ?_;refine zb (m:=Builtin.Builtins.bindParams "min" ["key","default"] 0 ⟨[],[]⟩) (wpAny_of_eq (show Builtin.Builtins.bindParams "min" ["key","default"] 0 ⟨[],[]⟩=pure [none,none] from rfl) (zb (zf (zb (wE h (λit s₂ h₂=>?_) λ_ _ e=>e)))));obtain⟨I,fp,wr,n,P,St,bt,rfl,W,hst,hfp,hn,hcmp,hQ⟩:=h₂;refine zb (xZ ?_);rw[nm];refine zf ⟨plainId_quiet F.plain_min_loop _,zc1 W bt hcmp s₂.heap.objs.size (λhm=>xm _ (hfp _ hm)) hn (W.frame _ _ _ hst λb _ o e=>ze _ e) (zq _ rfl) λv h' tk hP hk=>?_⟩;exact hQ v h' tk hP λb o hbw e=>hk b o hbw (zA (zp e)) (ze _ e)
end
def ltP(a b:Int × Int):Bool:=HT.kD [a.1,a.2] [b.1,b.2]
def kC{a b:Int × Int}:ltP a b=true↔a.1<b.1\/(a.1=b.1/\a.2<b.2):=by
 unfold ltP HT.kD HT.kD HT.kD
 by_cases h:a.1=b.1
 ·by_cases h2 : a.2 = b.2
  ·simp[h,h2]
  ·simp[h,h2]
 ·simp[h]
def Yb(a:Int × Int):ltP a a=false:=by
 cases h:ltP a a with
 |false=>rfl
 |true=>rw[kC] at h;lia
def XB{a b c:Int × Int}(h1:ltP a b=true)(h2:ltP b c=true):ltP a c=true:=by
 rw[kC] at *;lia
theorem XZ{bt:Nat->Nat->Bool}(hi:∀a,bt a a=false)(ht:∀a b c,bt a b=true->bt b c=true->bt a c=true):∀k,argBest bt k<=k/\∀i,i<=k->bt i (argBest bt k)=false
 |0=>⟨zo _,λi h=>by
  have e:i=0:=w5
  subst e;exact hi 0⟩
 | k + 1 => by
  obtain⟨h1,h2⟩:=XZ hi ht k
  cases hb:bt (k+1) (argBest bt k) with
  | true =>
   have e:argBest bt (k+1)=k+1:=by simp only[argBest,hb,if_true]
   rw[e];refine⟨zo _,λi h=>?_⟩
   by_cases hk:i=k+1
   ·subst hk;exact hi _
   ·cases hc : bt i (k + 1) with
    |false=>rfl
    |true=>
     have z:=ht _ _ _ hc hb
     rw[h2 i w5] at z
     cases z
  |false=>
   have e:argBest bt (k+1)=argBest bt k:=by simp only[argBest,hb,zU,if_false]
   rw[e]
   refine⟨w5,λi h=>?_⟩
   by_cases hk:i=k+1
   ·subst hk;exact hb
   ·exact h2 i w5
section
variable {X:Cx}{A:AC}
def Ub(h:Heap)(ks:List (Int × Int))(bs:List Addr):Prop:=∀(i:Nat) (k:Int × Int) (b:Addr),ks[i]?=some k->bs[i]?=some b->∃its:List Value,IsTup h b its.toArray/\Vals [.int k.1,.int k.2] its
def zs5(hc:X.calm=true)(hu:X.A.units+1<cLine):qo X (.builtin "min") (λxs H Q=>∃(p:Addr) (ks:List (Int × Int)) (bs:List Addr),xs=[.ref p]/\SqL X.K H p (bs.map V.ref)/\0<ks.length/\bs.length=ks.length /\
  (∀(i:Nat) (k:Int × Int) (b:Addr),ks[i]?=some k->bs[i]?=some b->SqT X.K H b [.int k.1,.int k.2])/\∀(j:Nat) (k:Int × Int) (b:Addr),ks[j]?=some k->bs[j]?=some b->(∀k'∈ks,ltP k' k=false)->Q (.ref b) H):=by
 intro pins s σ H xs us Q I r h;obtain⟨p,ks,bs,rfl,hq,hn,hlen,htup,q⟩:=h
 cases r with
 | cons r rr =>
  cases rr;cases r;obtain⟨its,rv,pl,_⟩:=I.list hq;have hl:=pl.isList
  have hlt:p<s.heap.objs.size:=by obtain⟨_,e,_⟩:=hl;exact zp e
  have hsz:its.length=bs.length:=by have:=rv.length;simpa using this.symm
  have hat:∀(i:Nat) (v:Value),its[i]?=some v->∃b,bs[i]?=some b/\v=.ref b:=λi v e=>by
   have hi:i<bs.length:=by rw[<- hsz];exact(zn.mp e).1
   obtain⟨u,e1,e2⟩:=rv.get (i:=i) (x:=V.ref bs[i]) (by simp[hi])
   rw[e] at e1;cases e1;exact⟨bs[i],zd hi,e2⟩
  have ok0:Ub s.heap ks bs:=λi k b e1 e2=>by
   obtain⟨its2,r2,p2,_⟩:=I.tuple (htup i k b e1 e2);exact⟨its2,p2,r2⟩
  have keepP:∀{h h':Heap},Ub h ks bs->(∀b∈bs,∀o,h.get? b=some o->h'.get? b=some o)->Ub h' ks bs:=λ{h h'} ok kp i k b e1 e2=>by
   obtain⟨its2,⟨o,ho,t⟩,r2⟩:=ok i k b e1 e2;exact⟨its2,⟨o,kp b (zP e2) o ho,t⟩,r2⟩
  have bsz:∀b∈bs,b<s.heap.objs.size:=λb hb=>by
   obtain⟨i,hi⟩:=List.mem_iff_getElem?.mp hb
   have hi':i<ks.length:=by rw[<- hlen];exact(zn.mp hi).1
   obtain⟨_,⟨o,ho,_⟩,_⟩:=ok0 i ks[i] b (zd hi') hi;exact zp ho
  refine zm6 (yE hl ⟨s.heap.objs.size,[s.heap.objs.size,p]++bs,[s.heap.objs.size],its.toArray.size,_,_,λi j=>ltP (ks[i]?.getD (0,0)) (ks[j]?.getD (0,0)),rfl,
   Walks.more (bs:=bs) (Ok:=λh=>Ub h ks bs) (Walks.list (A:=X.A.in1) (I.ok.hd hc) _ p (zA hlt) _) (λb hb z=>by rw[zG.mp z] at hb;exact xm _ (bsz _ hb)) (λh h' ok kp=>keepP ok kp),
   ⟨⟨⟨_,zq _ rfl,rfl,rfl⟩,hl.push _⟩,keepP ok0 λb _ o e=>ze _ e⟩,λb hb=>?_,?_,λt i j vi vj s' Q' E' st hi hj hQ=>?_,λv h' tk hP hk=>?_⟩)
  ·rcases zW.mp hb with hb | hb
   ·simp only [zi, zZ, or_false] at hb
    rcases hb with rfl |rfl
    ·simp[Heap.push]
    ·exact Nat.lt_trans hlt (by simp[Heap.push])
   ·exact Nat.lt_trans (bsz b hb) (by simp[Heap.push])
  ·rw[zw,hsz,hlen];exact hn
  ·obtain ⟨b1, e1, rfl⟩ := hat i vi (by simpa using hi)
   obtain⟨b2,e2,rfl⟩:=hat j vj (by simpa using hj)
   have h1:i<ks.length:=by rw[<- hlen];exact(zn.mp e1).1
   have h2:j<ks.length:=by rw[<- hlen];exact(zn.mp e2).1
   obtain⟨i1,p1,r1⟩:=st.2 i ks[i] b1 (zd h1) e1;obtain⟨i2,p2,r2⟩:=st.2 j ks[j] b2 (zd h2) e2;dsimp only at hQ;rw[zd h1,zd h2] at hQ;exact(HT.WM (ns:=[ks[i].1,ks[i].2]) (ms:=[ks[j].1,ks[j].2]) p1 p2 (vV r1) (vV r2) hu hQ:wpAny (model X.prog X.w) X.A.in1 (compareOp .Lt _ _) Q' E' s')
  ·obtain ⟨m1, m2⟩ := XZ (bt := λi j => ltP (ks[i]?.getD (0, 0)) (ks[j]?.getD (0, 0))) (λa => Yb _) (λa b c x y => XB x y) (its.toArray.size - 1)
   obtain⟨b,e1,rfl⟩:=hat _ v (by simpa using hP)
   generalize argBest (λi j=>ltP (ks[i]?.getD (0,0)) (ks[j]?.getD (0,0))) (its.toArray.size-1)=m at *
   have h1:m<ks.length:=by rw[<- hlen];exact(zn.mp e1).1
   refine⟨.ref b,H,I.kept (Qr hk),rfl,q m ks[m] b (zd h1) e1 λk' hk'=>?_⟩;obtain⟨i,hi,rfl⟩:=List.mem_iff_getElem.mp hk'
   have z:=m2 i (by rw[zw,hsz,hlen];lia)
   rw[zd hi,zd h1] at z;exact z
def WE{K:W.Frag}{G:Option Addr}{Z:Addr->Prop}{H:Hp}:∀{ks:List (Int × Int)}{xs:List V},Reps K G Z H (ks.map λk=>.tup [.int k.1,.int k.2]) xs->∃bs:List Addr,xs=bs.map V.ref/\bs.length=ks.length /\
  ∀(i:Nat) (k:Int × Int) (b:Addr),ks[i]?=some k->bs[i]?=some b->Rep K G Z H (.tup [.int k.1,.int k.2]) (.ref b)
 |[],xs,h=>⟨[],h.nil_inv,rfl,λi k b e _=>by simp at e⟩
 | k :: ks, xs, h => by
  obtain⟨v,r,rfl,q,t⟩:=Reps.split h;obtain⟨bs,rfl,hl,hb⟩:=WE t;obtain⟨b,ys,rfl,sq,rs⟩:=q.tup_inv
  refine⟨b::bs,rfl,by rw[zK,zK,hl],λi k' b' e1 e2=>?_⟩
  cases i with
  |zero=>
   rw[List.getElem?_cons_zero] at e1 e2;cases e1;cases e2;exact .tup_mk sq rs
  |succ i=>
   rw[List.getElem?_cons_succ] at e1 e2;exact hb i k' b' e1 e2
def xz8:List D->(D->Prop)->Prop:=λes k=>∃ks:List (Int × Int),es=[.lst (ks.map λk=>.tup [.int k.1,.int k.2])]/\0<ks.length/\∀m∈ks,(∀k'∈ks,ltP k' m=false)->k (.tup [.int m.1,.int m.2])
def zS9:vE A (λxs H Q=>∃(p:Addr) (ks:List (Int × Int)) (bs:List Addr),xs=[.ref p]/\SqL A.K H p (bs.map V.ref)/\0<ks.length/\bs.length=ks.length /\
  (∀(i:Nat) (k:Int × Int) (b:Addr),ks[i]?=some k->bs[i]?=some b->SqT A.K H b [.int k.1,.int k.2])/\∀(j:Nat) (k:Int × Int) (b:Addr),ks[j]?=some k->bs[j]?=some b->(∀k'∈ks,ltP k' k=false)->Q (.ref b) H) xz8:=by
 rintro os n rho sg H ds vs es ws k Q I rs ⟨ks,rfl,hn,q⟩ hQ;obtain⟨v,rfl,r⟩:=qq rs;obtain⟨a,xs,rfl,sq,rr⟩:=r.lst_inv;obtain⟨bs,rfl,hl,hb⟩:=WE rr;refine⟨a,ks,bs,rfl,sq.sq,hn,hl,λi k b e1 e2=>?_,λj k b e1 e2 hm=>hQ _ _ _ ⟨os,I.push (hb j k b e1 e2)⟩ (q k (zP e1) hm)⟩;obtain⟨b',e,sq'⟩:=Xm (hb i k b e1 e2);cases e;exact sq'
end
def KN(x:Nat):Nat:=(x*2147483648)%18446744073709551616+x/8589934592
def zi0{x:Nat}(h:x<18446744073709551616):KN x<18446744073709551616:=by
 unfold KN;lia
def zw3{x y:Nat}(hx:x<18446744073709551616)(hy:y<18446744073709551616)(h:KN x=KN y):x=y:=by
 unfold KN at h;have e1:(x*2147483648)%18446744073709551616=(x%8589934592)*2147483648:=Nat.mul_mod_mul_right 2147483648 x 8589934592;have e2:(y*2147483648)%18446744073709551616=(y%8589934592)*2147483648:=Nat.mul_mod_mul_right 2147483648 y 8589934592;rw[e1,e2] at h
 have h1:x/8589934592<2147483648:=w5
 have h2:y/8589934592<2147483648:=w5
 generalize hq:x/8589934592=q at *;generalize hq':y/8589934592=q' at *;generalize hr:x%8589934592=r at *;generalize hr':y%8589934592=r' at *
 have hxx:x=8589934592*q+r:=w5
 have hyy:y=8589934592*q'+r':=w5
 omega
def zm3{a b:Nat}(ha:a<18446744073709551616)(hb:b<18446744073709551616)(h:a*11400714785074694791%18446744073709551616=b*11400714785074694791%18446744073709551616):a=b:=by
 have key:∀c,c<18446744073709551616->(c*11400714785074694791%18446744073709551616)*614540362697595703%18446744073709551616=c:=λc hc=>by
  rw[Nat.mod_mul_mod,Nat.mul_assoc]
  have e:11400714785074694791*614540362697595703=18446744073709551616*(11400714785074694791*614540362697595703/18446744073709551616)+1:=w6
  rw[e,Nat.mul_add,Nat.mul_one,<- Nat.mul_assoc,Nat.mul_comm c,Nat.mul_assoc,Nat.mul_add_mod];exact Nat.mod_eq_of_lt hc
 rw[<- key a ha,<- key b hb,h]
def je(acc h:Nat):Nat:=KN ((acc+h*14029467366897019727)%18446744073709551616)*11400714785074694791%18446744073709551616
def VP(acc h:Nat):je acc h<18446744073709551616:=yA _ w6
def zn5{a b h g:Nat}(e:je a h=je b g):(a+h*14029467366897019727)%18446744073709551616=(b+g*14029467366897019727)%18446744073709551616:=
 zw3 (yA _ w6) (yA _ w6) (zm3 (zi0 (yA _ w6)) (zi0 (yA _ w6)) e)
def zB5(m p1 p2 q31 q33:Nat)(a h:Nat):Nat:=(((a+h*p2)%m*q31)%m+(a+h*p2)%m/q33)*p1%m
def zd2(m q63:Nat)(a:Nat):Int:=if a == m-1 then 1546275796 else if a<q63 then a else(a:Int)-m
def xB5(m p1 p2 p5 q31 q33 q63 x:Nat)(hs:List Int):Int:=zd2 m q63 ((hs.foldl (λa h=>zB5 m p1 p2 q31 q33 a (h%(m:Int)).toNat) p5+(hs.length ^^^ (p5 ^^^ x)))%m)
def zv4(m p1 p2 p5 q31 q33 q63 x:Nat)(h g:Int):xB5 m p1 p2 p5 q31 q33 q63 x [h,g]=zd2 m q63 ((zB5 m p1 p2 q31 q33 (zB5 m p1 p2 q31 q33 p5 (h%(m:Int)).toNat) (g%(m:Int)).toNat+(2 ^^^ (p5 ^^^ x)))%m):=rfl
def zv3(hs:List Int):Builtin.Tuple.tupleHashOf hs=xB5 (2^64) 11400714785074694791 14029467366897019727 2870177450012600261 (2^31) (2^33) (2^63) 3527539 hs:=rfl
def zn6(a h:Nat):zB5 18446744073709551616 11400714785074694791 14029467366897019727 2147483648 8589934592 a h=je a h:=rfl
def zF2(h g:Int):Builtin.Tuple.tupleHashOf [h,g]=zd2 18446744073709551616 9223372036854775808 ((je (je 2870177450012600261 (h%18446744073709551616).toNat) (g%18446744073709551616).toNat+2870177450013471924)%18446744073709551616):=by
 rw[zv3,zv4,<- zn6,<- zn6]
 have e1:(2^64:Nat)=18446744073709551616:=w6
 have e2:(2^31:Nat)=2147483648:=w6
 have e3:(2^33:Nat)=8589934592:=w6
 have e4:(2^63:Nat)=9223372036854775808:=w6
 rw[e1,e2,e3,e4]
 have e5:((18446744073709551616:Nat):Int)=18446744073709551616:=w6
 have e6:2 ^^^ (2870177450012600261 ^^^ 3527539)=2870177450013471924:=w6
 rw[e5,e6]
def zD3{a b:Nat}(ha:a<18446744073709551616)(hb:b<18446744073709551616)(h:zd2 18446744073709551616 9223372036854775808 a=zd2 18446744073709551616 9223372036854775808 b):a=b\/a=18446744073709551615\/b=18446744073709551615:=by
 unfold zd2 at h
 by_cases h1:a=18446744073709551615
 ·exact .inr (.inl h1)
 ·by_cases h2 : b = 18446744073709551615
  ·exact .inr (.inr h2)
  ·have n1 : (a == 18446744073709551616 - 1) = false := by simpa using h1
   have n2:(b == 18446744073709551616-1)=false:=by simpa using h2
   rw[n1,n2] at h;simp only[zU,if_false] at h
   split at h<;>split at h<;>lia
def Mid(h:Int):Prop:=-1000000000000000000<h/\h<1000000000000000000
def zi1{x:Nat}(hx:x<18446744073709551616):KN x=(x%8589934592)*2147483648+x/8589934592:=by
 unfold KN;rw[show(x*2147483648)%18446744073709551616=(x%8589934592)*2147483648 from Nat.mul_mod_mul_right 2147483648 x 8589934592]
def zc7{x y:Nat}(hx:x<18446744073709551616)(hy:y<18446744073709551616){r:Int}(h0:0<=r)(h1:r<18446744073709551616)(h:∃k:Int,(KN x:Int)-KN y=r+18446744073709551616*k) :
  ∃c1 c2:Int,(c1=0\/c1=1)/\(c2=0\/c2=1)/\∃k:Int,(x:Int)-y=8589934592*(r%2147483648)+r/2147483648+c1-8589934592*c2+18446744073709551616*k:=by
 obtain⟨k,h⟩:=h;rw[zi1 hx,zi1 hy] at h
 have hr:r=2147483648*(r/2147483648)+r%2147483648:=w5
 have r1:0<=r%2147483648/\r%2147483648<2147483648:=w5
 have r2:0<=r/2147483648/\r/2147483648<8589934592:=w5
 generalize r/2147483648=B at *;generalize r%2147483648=A at *
 have ex:(x:Int)=8589934592*(x/8589934592:Nat)+(x%8589934592:Nat):=w5
 have ey:(y:Int)=8589934592*(y/8589934592:Nat)+(y%8589934592:Nat):=w5
 have x1:x/8589934592<2147483648:=w5
 have y1:y/8589934592<2147483648:=w5
 have x2:x%8589934592<8589934592:=w5
 have y2:y%8589934592<8589934592:=w5
 generalize x/8589934592=xa at *;generalize y/8589934592=ya at *;generalize x%8589934592=xb at *;generalize y%8589934592=yb at *
 have e:(xb:Int)*2147483648+xa-(yb*2147483648+ya)=2147483648*B+A+18446744073709551616*k:=w5
 obtain⟨u,hu⟩:∃u:Int,(xa:Int)-ya-A=2147483648*u:=⟨B+8589934592*k-(xb-yb),w5⟩
 have hu2:u=0\/u=-1:=w5
 have hb:(xb:Int)-yb=B+8589934592*k-u:=w5
 have hk2:k=0\/k=-1:=w5
 exact⟨-u,-k,w5,w5,u,w5⟩
def ZZ(N M:Nat):∃q:Int,(N:Int)=M*q+((N%M:Nat):Int):=⟨((N/M:Nat):Int),by
 have:=Nat.div_add_mod N M
 rw[<- Int.natCast_mul,<- Int.natCast_add,this]⟩
def zB3{a b n m M p1 p2:Nat}(h:(a*p1%M+n*p2)%M=(b*p1%M+m*p2)%M):∃k:Int,((a:Int)-b)*p1=((m:Int)-n)*p2+M*k:=by
 obtain⟨q3,e3⟩:=ZZ (a*p1) M;obtain⟨q4,e4⟩:=ZZ (b*p1) M;obtain⟨q5,e5⟩:=ZZ (a*p1%M+n*p2) M;obtain⟨q6,e6⟩:=ZZ (b*p1%M+m*p2) M;rw[h] at e5;simp only[Int.natCast_add,Int.natCast_mul] at e3 e4 e5 e6;generalize ((a*p1%M:Nat):Int)=ra at *;generalize ((b*p1%M:Nat):Int)=rb at *;generalize (((b*p1%M+m*p2)%M:Nat):Int)=rc at *
 exact⟨q3-q4+q5-q6,by grind⟩
def zo6{d p M k t i q:Int}(h:d*p=t+M*k)(hi:i*p=M*q+1):∃k,d=t*i+M*k:=⟨i*k-q*d,by grind⟩
def zR0{p5 g h p2 M:Nat}{z k:Int}(e:(((p5+g*p2)%M:Nat):Int)-((p5+h*p2)%M:Nat)=z+M*k):∃k:Int,((g:Int)-h)*p2=z+M*k:=by
 obtain⟨q3,e3⟩:=ZZ (p5+g*p2) M;obtain⟨q4,e4⟩:=ZZ (p5+h*p2) M;simp only[Int.natCast_add,Int.natCast_mul] at e3 e4;generalize (((p5+g*p2)%M:Nat):Int)=ra at *;generalize (((p5+h*p2)%M:Nat):Int)=rb at *
 exact⟨k+q3-q4,by grind⟩
def zf1{d z M k:Int}(h:d=z+M*k):d%M=z%M:=by rw[h,Int.add_mul_emod_self_left]
def xi6(t:Int):Int:=(t*14029467366897019727*614540362697595703)%18446744073709551616
def YF(t c1 c2:Int):Int:=((8589934592*(xi6 t%2147483648)+xi6 t/2147483648+c1-8589934592*c2)*839798700976720815)%18446744073709551616
def XC{g h n m:Nat}(e:je (je 2870177450012600261 g) n=je (je 2870177450012600261 h) m):∃c1 c2:Int,(c1=0\/c1=1)/\(c2=0\/c2=1)/\((g:Int)-h)%18446744073709551616=YF ((m:Int)-n) c1 c2:=by
 have e1:=zn5 e;obtain⟨k,e2⟩:=zB3 (a:=KN ((2870177450012600261+g*14029467366897019727)%18446744073709551616)) (b:=KN ((2870177450012600261+h*14029467366897019727)%18446744073709551616)) (n:=n) (m:=m) (M:=18446744073709551616) (p1:=11400714785074694791) (p2:=14029467366897019727) e1
 obtain⟨k2,e3⟩:=zo6 (i:=614540362697595703) (q:=379806830464837242) e2 w6
 have e4:=zf1 e3
 have r0:0<=xi6 ((m:Int)-n)/\xi6 ((m:Int)-n)<18446744073709551616:=⟨wC _ w6,wU _ w6⟩
 obtain⟨c1,c2,hc1,hc2,k3,e5⟩:=zc7 (yA _ w6) (yA _ w6) r0.1 r0.2 ⟨_,by
  have z:=Int.emod_add_mul_ediv ((KN ((2870177450012600261+g*14029467366897019727)%18446744073709551616):Int)-KN ((2870177450012600261+h*14029467366897019727)%18446744073709551616)) 18446744073709551616;rw[show(KN ((2870177450012600261+g*14029467366897019727)%18446744073709551616)-KN ((2870177450012600261+h*14029467366897019727)%18446744073709551616):Int)%18446744073709551616=xi6 ((m:Int)-n) from e4] at z
  exact z.symm⟩
 obtain⟨k4,e6⟩:=zR0 (M:=18446744073709551616) e5
 obtain⟨k5,e7⟩:=zo6 (i:=839798700976720815) (q:=638699622168397319) e6 w6
 exact⟨c1,c2,hc1,hc2,zf1 e7⟩
def xp1(e:Int):Int:=if e<9223372036854775808 then e else e-18446744073709551616
def okC(e:Int):Bool:=decide (20000<(xp1 (e%18446744073709551616)+10000)%1000000000000000)
def xi3(k:Nat):Bool:=okC (YF k 0 0)&&okC (YF k 0 1)&&okC (YF k 1 0)&&okC (YF k 1 1)
def xi2(k:Nat):Bool:=okC (YF (-k) 0 0+926380684836714815)&&okC (YF (-k) 0 1+926380684836714815)&&okC (YF (-k) 1 0+926380684836714815)&&okC (YF (-k) 1 1+926380684836714815)
def xi7(f:Nat->Bool):Nat->Bool
 |0=>true
 |n+1=>f n&&xi7 f n
theorem JJ{f:Nat->Bool}:∀{n k:Nat},xi7 f n=true->k<n->f k=true
 |0,k,_,h=>by lia
 |n+1,k,e,h=>by
  unfold xi7 at e;rw[zM] at e
  by_cases hk:k=n
  ·rw[hk];exact e.1
  ·exact JJ e.2 w5
def zP4:xi7 (λk=>xi3 (k+1)) 2000=true:=x6
def zP3:xi7 xi2 2000=true:=x6
def Jf{k:Int}(h:Mid k):rawHash k=if k=-1 then -2 else k:=by
 obtain⟨h1,h2⟩:=h
 have e:((k.natAbs:Nat):Int)%((2^61-1:Nat):Int)=(k.natAbs:Int):=Int.emod_eq_of_lt w5 w5
 unfold rawHash;rw[e];dsimp only
 have e2:(if k<0 then -(k.natAbs:Int) else(k.natAbs:Int))=k:=by split<;>lia
 rw[e2]
 by_cases hk:k=-1
 ·rw[if_pos (by simpa using hk),if_pos hk]
 ·rw[if_neg (by simpa using hk),if_neg hk]
def XJ{k:Int}(h:Mid k):hashInt k=if k=-1 then -2 else k:=by
 unfold hashInt;rw[Jf h]
 by_cases hk:k=-1
 ·rw[if_pos hk];rfl
 ·rw[if_neg hk,if_neg (by simpa using hk)]
def zi2{a:Nat}(ha:a<18446744073709551616):reduceHash (zd2 18446744073709551616 9223372036854775808 a)=zd2 18446744073709551616 9223372036854775808 a:=by
 have b:-9223372036854775808<=zd2 18446744073709551616 9223372036854775808 a/\zd2 18446744073709551616 9223372036854775808 a<9223372036854775808/\zd2 18446744073709551616 9223372036854775808 a≠-1:=by
  unfold zd2
  by_cases h1:a=18446744073709551615
  ·rw[if_pos (by simpa using h1)];decide
  ·rw [if_neg (by simpa using h1)]
   split<;>lia
 generalize zd2 18446744073709551616 9223372036854775808 a=x at b;unfold reduceHash
 have e1:(decide (-(2^63:Int)<=x)&&decide (x<2^63))=true:=by
  rw[zM,wJ,wJ];lia
 rw[if_pos e1,if_neg (by simpa using b.2.2)]
def FormK(k:Int):Prop:=(∃a e:Int,k=1000000000000000*a+e/\-4500<=e/\e<=4500)/\-900000000000000000<k/\k<900000000000000000
def zp6{h E a e:Int}(h1:h=1000000000000000*a+e)(h2:-10000<=e)(h3:e<=10000)(h4:-9000000000000000000<h)(h5:h<9000000000000000000)(hE:h%18446744073709551616=E%18446744073709551616)(ok:okC E=true):False:=by
 have o:=of_decide_eq_true ok;rw[<- hE] at o
 have e1:xp1 (h%18446744073709551616)=h:=by unfold xp1;split<;>lia
 rw[e1] at o;lia
def zB4{a b:Nat}(ha:a<18446744073709551616)(hb:b<18446744073709551616)(h:(a+2870177450013471924)%18446744073709551616=(b+2870177450013471924)%18446744073709551616):a=b:=w5
def FormK.hash{k:Int}(h:FormK k):∃a e:Int,hashInt k=1000000000000000*a+e/\-4501<=e/\e<=4501/\-900000000000000001<hashInt k/\hashInt k<900000000000000001:=by
 obtain⟨⟨a,e,h1,h2,h3⟩,h4,h5⟩:=h
 rw[XJ ⟨w5,w5⟩]
 by_cases hk:k=-1
 ·rw [if_pos hk]
  exact⟨0,-2,w5,w5,w5,w5,w5⟩
 ·rw [if_neg hk]
  exact⟨a,e,h1,w5,w5,w5,w5⟩
def UR{n:Int}(h0:0<=n)(h1:n<2000):(((hashInt n)%18446744073709551616).toNat:Int)=n:=by
 rw[XJ ⟨w5,w5⟩,if_neg w5]
 lia
def zs4{g h:Nat}{t:Nat}{x y:Int}(hx:(g:Int)=x%18446744073709551616)(hy:(h:Int)=y%18446744073709551616){c1 c2:Int}(hc1:c1=0\/c1=1)(hc2:c2=0\/c2=1)(e:((g:Int)-h)%18446744073709551616=YF ((t+1:Nat):Int) c1 c2)(ht:t<2000)
  {a b ea eb:Int} (h1:x=1000000000000000*a+ea) (h2:-4501<=ea) (h3:ea<=4501) (h4:-900000000000000001<x) (h5:x<900000000000000001) (g1:y=1000000000000000*b+eb) (g2:-4501<=eb) (g3:eb<=4501) (g4:-900000000000000001<y) (g5:y<900000000000000001):False:=by
 have o:=JJ zP4 ht;unfold xi3 at o;simp only[zM] at o;obtain⟨⟨⟨o1,o2⟩,o3⟩,o4⟩:=o
 have ok:okC (YF ((t+1:Nat):Int) c1 c2)=true:=by
  rcases hc1 with rfl |rfl<;>rcases hc2 with rfl |rfl
  ·exact o1
  ·exact o2
  ·exact o3
  ·exact o4
 refine zp6 (h:=x-y) (a:=a-b) (e:=ea-eb) w5 w5 w5 w5 w5 ?_ ok
 rw[<- e,hx,hy];lia
def zp1{k l n m:Int}(hk:FormK k)(hl:FormK l)(n0:0<=n)(n1:n<2000)(m0:0<=m)(m1:m<2000)(hne:n≠m):Wv (k,n)≠Wv (l,m):=λe=>by
 obtain⟨a,ea,h1,h2,h3,h4,h5⟩:=hk.hash;obtain⟨b,eb,g1,g2,g3,g4,g5⟩:=hl.hash;have e':reduceHash (Builtin.Tuple.tupleHashOf [hashInt k,hashInt n])=reduceHash (Builtin.Tuple.tupleHashOf [hashInt l,hashInt m]):=e
 rw[zF2,zF2,zi2 (yA _ w6),zi2 (yA _ w6)] at e'
 have en:=UR n0 n1;have em:=UR m0 m1
 have ek:((((hashInt k)%18446744073709551616).toNat:Nat):Int)=hashInt k%18446744073709551616:=Int.toNat_of_nonneg (wC _ w6)
 have el:((((hashInt l)%18446744073709551616).toNat:Nat):Int)=hashInt l%18446744073709551616:=Int.toNat_of_nonneg (wC _ w6)
 generalize (hashInt n%18446744073709551616).toNat=n' at *;generalize (hashInt m%18446744073709551616).toNat=m' at *;generalize (hashInt k%18446744073709551616).toNat=k' at *;generalize (hashInt l%18446744073709551616).toNat=l' at *
 have odd:∀(g nn:Nat) (x:Int) (a ea:Int),(g:Int)=x%18446744073709551616->nn<2000->x=1000000000000000*a+ea->-4501<=ea->ea<=4501->-900000000000000001<x->x<900000000000000001->(je (je 2870177450012600261 g) nn+2870177450013471924)%18446744073709551616=18446744073709551615->False:=λg nn x a ea hx hn i1 i2 i3 i4 i5 z=>by
  have z1:je (je 2870177450012600261 g) nn=15576566623696079691:=by
   have:=VP (je 2870177450012600261 g) nn;lia
  have z2:je (je 2870177450012600261 926380684836714815) 0=15576566623696079691:=x6
  obtain⟨c1,c2,hc1,hc2,z3⟩:=XC (z1.trans z2.symm);have o:=JJ zP3 hn;unfold xi2 at o;simp only[zM] at o;obtain⟨⟨⟨o1,o2⟩,o3⟩,o4⟩:=o
  have et:((0:Nat):Int)-(nn:Int)=-(nn:Int):=w5
  rw[et] at z3
  have ok:okC (YF (-(nn:Int)) c1 c2+926380684836714815)=true:=by
   rcases hc1 with rfl |rfl<;>rcases hc2 with rfl |rfl
   ·exact o1
   ·exact o2
   ·exact o3
   ·exact o4
  refine zp6 i1 w5 w5 w5 w5 ?_ ok
  rw[<- z3,<- hx]
  have:((926380684836714815:Nat):Int)=926380684836714815:=w6
  rw[this];lia
 rcases zD3 (yA _ w6) (yA _ w6) e' with z |z |z
 ·have z1 := zB4 (VP ..) (VP ..) z
  rcases Int.lt_or_gt_of_ne hne with hlt |hgt
  ·obtain ⟨c1, c2, hc1, hc2, z3⟩ := XC z1
   obtain⟨t,ht⟩:∃t:Nat,(m':Int)-n'=((t+1:Nat):Int):=⟨(m-n-1).toNat,w5⟩
   rw[ht] at z3
   exact zs4 ek el hc1 hc2 z3 w5 h1 h2 h3 h4 h5 g1 g2 g3 g4 g5
  ·obtain ⟨c1, c2, hc1, hc2, z3⟩ := XC z1.symm
   obtain⟨t,ht⟩:∃t:Nat,(n':Int)-m'=((t+1:Nat):Int):=⟨(n-m-1).toNat,w5⟩
   rw[ht] at z3
   exact zs4 el ek hc1 hc2 z3 w5 g1 g2 g3 g4 g5 h1 h2 h3 h4 h5
 ·exact odd k' n' _ a ea ek w5 h1 h2 h3 h4 h5 z
 ·exact odd l' m' _ b eb el w5 g1 g2 g3 g4 g5 z
end L2
namespace HT
def ZA(ns ms:List Int):Bool:=!kD ms ns
def VO:ZA [] []=true:=rfl
def Wt{c:Int}{ms:List Int}:ZA [] (c::ms)=true:=rfl
def Wu{a:Int}{ns:List Int}:ZA (a::ns) []=false:=rfl
def zc5{a c:Int}{ns ms:List Int}:ZA (a::ns) (c::ms)=if a=c then ZA ns ms else decide (a<=c):=by
 unfold ZA;rw[kL]
 by_cases h:a=c
 ·rw[if_pos h.symm,if_pos h]
 ·rw [if_neg (Ne.symm h), if_neg h]
  by_cases l:c<a
  ·rw[xo l,zN w5];rfl
  ·rw[zN l,xo w5];rfl
def zx2(A:Around)(s:Shared)(a:Int)(t:Tok)(c:Int)(u:Tok)(prog:Program)(w:World)(E:Value->Shared->Prop)(Q:Value->Shared->Prop)(h:Q (.bool (decide (a<=c))) s) :
  wpAny (model prog w) A (richCompare .LtE (.int a t) (.int c u)) Q E s:=
 (PyProof.Rows.le_int h:wpAny (model prog w) A (compareOp .LtE (.int a t) (.int c u)) Q E s)
section
open PySem.SeqAt
open PySem.AutoSeq1 (wpAny_loadPart')
open PySem.MeetsSeq PySem.MeetsSeq2 PySem.MeetsSeq3
def Vb(l b:Addr)(items items2:Array Value)(n n2:Nat)(dd dd2:Option Addr)(sl sl2:Array (Option Value))(ns ms:List Int)(hi:IntsAre items.toList ns)(hj:IntsAre items2.toList ms) :
  Meets (Builtin.«tuple.__le__» ⟨[.ref l,.ref b],[]⟩)
   (λ_ R s => s.heap.get? l = some { cls := .type "tuple", dict := dd, data := .seq items n, slots := sl } /\ s.heap.get? b = some { cls := .type "tuple", dict := dd2, data := .seq items2 n2, slots := sl2 } /\
    R (.ok (.ret (.bool (ZA ns ms)))) s):=
 .of_wp λprog w A R s h=>by
  obtain⟨hp,g,d,tk,os⟩:=s;obtain⟨hl,hb,h⟩:=h;have f2:=AutoSeq1.sub_tuple_tuple
  have z1:items.size=ns.length:=by rw[<- hi.length];simp
  have z2:items2.size=ms.length:=by rw[<- hj.length];simp
  wp_walk using wpAny_loadPart' hl,wpAny_loadPart' hb,wpAny_forIn_list _ (λrest b s'=>b.1=none/\s'=⟨hp,g,d,tk,os⟩/\∃(vs ws:List Value) (ns' ms':List Int),rest=vs.zip ws /\
   IntsAre vs ns'/\IntsAre ws ms'/\ns'.length+items2.size=ms'.length+items.size/\R (.ok (.ret (.bool (ZA ns' ms')))) ⟨hp,g,d,tk,os⟩) _
  case turn=>
   rintro⟨y,x⟩ rest b s' ⟨hb',rfl,vs,ws,ns',ms',hz,hvi,hwi,hlen,hR⟩
   cases hvi with
   |nil=>rw[List.zip_nil_left] at hz;cases hz
   | cons a t hvi' =>
    cases hwi with
    |nil=>rw[List.zip_nil_right] at hz;cases hz
    | cons c u hwi' =>
     rw[wf] at hz;injection hz with hyx hrest;injection hyx with hy hx;subst hy hx;rw[zc5] at hR;simp only[zK] at hlen;obtain⟨e,he,hiff⟩:=QD A.in1 ⟨hp,g,d,tk,os⟩ a t c u;refine zb (he prog w _ _ ?_)
     cases e with
     |true=>
      rw[if_pos (hiff.mp rfl)] at hR
      wp_walk
      exact⟨rfl,rfl,_,_,_,_,hrest,hvi',hwi',w5,hR⟩
     |false=>
      rw[if_neg (λq=>absurd (hiff.mpr q) zy)] at hR;have hri:=zx2 A.in1 ⟨hp,g,d,tk,os⟩ a t c u prog w
      wp_walk using hri
      exact⟨_,rfl,by simpa using hR⟩
  case fin=>
   rintro⟨b1,b2⟩ s' ⟨hb',rfl,vs,ws,ns',ms',hz,hvi,hwi,hlen,hR⟩;simp only at hb';subst hb'
   have hv:ZA ns' ms'=decide (items.size<=items2.size):=by
    cases hvi with
    | nil =>
     cases hwi with
     |nil=>
      simp only[yX] at hlen;rw[VO]
      exact(xo w5).symm
     |cons c u hw=>
      simp only[yX,zK] at hlen;rw[Wt]
      exact(xo w5).symm
    | cons a t hv =>
     cases hwi with
     |nil=>
      simp only[yX,zK] at hlen;rw[Wu]
      exact(zN w5).symm
     |cons c u hw=>
      rw[wf] at hz;cases hz
   rw[hv] at hR
   wp_walk
   exact⟨_,rfl,by simpa [Builtin.Tuple.tupleCompareSizes] using hR⟩
  case h=>
   exact⟨rfl,rfl,items.toList,items2.toList,ns,ms,rfl,hi,hj,w5,h⟩
end
section
variable {prog:Program}{w:World}{A:Around}{E:Value->Shared->Prop}{s:Shared}
def zc6{l b:Addr}{items items2:Array Value}{ns ms:List Int}{Q:Value->Shared->Prop}(hl:IsTup s.heap l items)(hb:IsTup s.heap b items2)(hi:IntsAre items.toList ns)(hj:IntsAre items2.toList ms)
  (hu:A.units<cLine) (h:Q (.bool (ZA ns ms)) s):wpAny (model prog w) A (compareOp .LtE (.ref l) (.ref b)) Q E s:=by
 obtain⟨⟨cls,dd,data,sl⟩,ho,hc,n,hd⟩:=id hl;obtain⟨⟨cls2,dd2,data2,sl2⟩,ho2,hc2,n2,hd2⟩:=id hb;simp only at hc hd hc2 hd2;subst hc hd hc2 hd2
 exact richCompare_meets_room (op:=.LtE) ⟨_,ho,rfl⟩ ⟨_,ho2,rfl⟩ PySem.F.slot_tuple_le PySem.F.entry_tuple_le (PySem.F.args_tuple_le_2 _ _) (Vb l b items items2 n n2 dd dd2 sl sl2 ns ms hi hj)
  ⟨ho,ho2,show Value.bool (ZA ns ms)≠Value.notImplemented/\Q (.bool (ZA ns ms)) s from⟨(λx=>nomatch x),h⟩⟩ hu
end
end HT
namespace L2
section
variable {X:Cx}{A:AC}
def xC4(K:W.Frag):R2:=λx y H Q=>∃a b ns ms,x=.ref a/\y=.ref b/\SqT K H a (ns.map V.int)/\SqT K H b (ms.map V.int)/\Q (.bl (HT.ZA ns ms)) H
def xc7{n:Nat}(hr:Room n X.A):OpR X (compareOp .LtE) (xC4 X.K):=by
 intro pins s σ H x y v u Q I rx ry h;obtain⟨a,b,ns,ms,rfl,rfl,ha,hb,q⟩:=h;cases rx;cases ry;obtain⟨its,r1,p1,_⟩:=I.tuple ha;obtain⟨its2,r2,p2,_⟩:=I.tuple hb
 exact HT.zc6 p1 p2 (vV r1) (vV r2) (by have:=hr.units;lia) ⟨.bl (HT.ZA ns ms),H,I,rfl,q⟩
def xq4:RD2:=λd1 d2 k=>∃a b:Int × Int,d1=.tup [.int a.1,.int a.2]/\d2=.tup [.int b.1,.int b.2]/\k (.bl (!ltP b a))
def zX5(hK:X.K=A.K):kJ A (xC4 X.K) xq4:=by
 rintro os n rho sg H ds vs d1 d2 v1 v2 k Q I ⟨a,b,rfl,rfl,q⟩ hQ;obtain⟨I1,r2⟩:=I.pop;obtain⟨I2,r1⟩:=I1.pop;obtain⟨x,rfl,s1⟩:=Xm r1;obtain⟨y,rfl,s2⟩:=Xm r2
 exact⟨x,y,[a.1,a.2],[b.1,b.2],rfl,rfl,by rw[hK];exact s1,by rw[hK];exact s2,hQ _ H _ ⟨os,I2.push (Rep.ofS rfl)⟩ q⟩
end
end L2
set_option maxHeartbeats 1000000
open L2
namespace K44
abbrev q0:List Str:=["one","other"]
abbrev q1:List Str:=["_law_left_here","_law_house_here"]
abbrev q2:List Str:=["_law_edges","_law_plain_here"]
abbrev q3:List Str:=["_law_left_here","_law_d","_law_things","_law_turn"]
abbrev q4:List Str:=["_law_tree_here","_law_plain_here"]
abbrev q5:List Str:=["_law_tree_here"]
abbrev q6:List Str:=["by_name","trees","plain","kind"]
abbrev q7:List Str:=["house","tree","box","kind","k"]
abbrev q8:List Str:=["_law_plain_here","_law_place"]
abbrev q9:List Str:=["_law_edges","_law_place"]
abbrev q10:List Str:=["_law_house_here","_law_tree_here","_law_kind_here"]
abbrev q11:List Str:=["_law_left_here","_law_house_here","_law_i"]
abbrev q12:List Str:=["gone","house","tree","box","kind","k"]
abbrev q13:List Str:=["_law_edges","_law_plain_here","_law_i","_law_side"]
abbrev q14:List Str:=["_law_house_here","_law_plain_here","_law_kind_here"]
abbrev q15:List Str:=["_law_house_here","_law_kind_here","_law_name"]
def top(i:Nat):Stmt:=PySem.Challenge.pw_boxlayers_k44_whole_looks_at_no_more.main.body.getD i (.Pass ⟨0,0,0,0⟩)
abbrev End:=Option (Int × Bool)
abbrev WA:=End × End
def kR:End->D
 |none=>.non
 |some (n,s)=>.tup [.int n,.bl s]
def Wx:Option Int->D
 |none=>.non
 |some i=>.int i
def qm(s:WA):D:=.tup [kR s.1,kR s.2]
def vG(b:List WA):D:=.tup (b.map qm)
def wY(p:List Int):D:=.tup (p.map D.int)
def UY:End->Option Int
 |none=>none
 |some (n,s)=>some (if s then n else n+1)
def Qz:End->Option Int
 |none=>none
 |some (n,s)=>some (if s then n else n-1)
def liesT(lo hi:Option Int)(x:Int):Bool:=(match lo with |none=>true |some l=>decide (l<=x))&&(match hi with |none=>true |some g=>decide (x<=g))
@[simp] theorem xn9:kR none=.non:=rfl
@[simp] theorem xn8{n:Int}{s:Bool}:kR (some (n,s))=.tup [.int n,.bl s]:=rfl
def Xu(e:End):xT (kR e)=true:=by rcases e with _ |⟨n,s⟩<;>rfl
section
variable {P:Program}{w:World}{K:W.Frag}{mg:Str->Option Value}{base:Heap}{f:Addr}{fd:FuncData}
abbrev ZO:Stmt:=top 2
abbrev ze1:List Str:=["low","number","shut"]
def jM:FnScope ze1 ["low"] (xg ZO):=⟨rfl,rfl,rfl,x6,rfl,x6,x6⟩
def ZK:TF:=λds n Q=>∃e:End,ds=[kR e]/\Q (Wx (UY e)) n
def Jk(F:Fun K "least_of" "least_of" ZO f fd):FnOk P w K mg base CX0 1 f fd ["low"] (spD K 1 ZK):=by
 refine Fun.okD F jM (λ_ _ _ s H E G Z hr=>(zD (vn (xW qe qc (zh 0) ve (wG _)) (zR (xE ve)) wP)
  (zD (jX (m:=3) (zh 0) (vp (k:=2) rfl rfl (xl (zV (i:=1) jM.nd rfl (lo rfl) w6) (xl (zV (i:=2) jM.nd rfl (lo rfl) w6) yR))))
  (zR (xE (Wh (ZS (zh 2)) (zh 1) (kH (zh 1) zu))))))) ?_
 rintro ds n Q hl ⟨e,rfl,q⟩
 rcases e with _ |⟨m,s⟩
 ·simp[startD,kR];exact q
 ·cases s<;>(simp[startD,kR];exact q)
abbrev qw:Stmt:=top 3
abbrev Ud:List Str:=["high","number","shut"]
def qg:FnScope Ud ["high"] (xg qw):=⟨rfl,rfl,rfl,x6,rfl,x6,x6⟩
def qt:TF:=λds n Q=>∃e:End,ds=[kR e]/\Q (Wx (Qz e)) n
def Wi(F:Fun K "greatest_of" "greatest_of" qw f fd):FnOk P w K mg base CX0 1 f fd ["high"] (spD K 1 qt):=by
 refine Fun.okD F qg (λ_ _ _ s H E G Z hr=>(zD (vn (xW qe qc (zh 0) ve (wG _)) (zR (xE ve)) wP)
  (zD (jX (m:=3) (zh 0) (vp (k:=2) rfl rfl (xl (zV (i:=1) qg.nd rfl (lo rfl) w6) (xl (zV (i:=2) qg.nd rfl (lo rfl) w6) yR))))
  (zR (xE (Wh (ZS (zh 2)) (zh 1) (qd (zh 1) zu))))))) ?_
 rintro ds n Q hl ⟨e,rfl,q⟩
 rcases e with _ |⟨m,s⟩
 ·simp[startD,kR];exact q
 ·cases s<;>(simp[startD,kR];exact q)
abbrev Xb:Stmt:=top 4
abbrev zu1:List Str:=["span","low","high"]
def ZM:FnScope zu1 ["span"] (xg Xb):=⟨rfl,rfl,rfl,x6,rfl,x6,x6⟩
def YV:TF:=λds n Q=>∃s:WA,ds=[qm s]/\Q (.tup [Wx (UY s.1),Wx (Qz s.2)]) n
def zb5(F:Fun K "pair_of" "pair_of" Xb f fd)(F_least_of:Fn P w K mg base "least_of" 1 1 ZK)(F_greatest_of:Fn P w K mg base "greatest_of" 1 1 qt):FnOk P w K mg base CX0 2 f fd ["span"] (spD K 1 YV):=by
 refine Fun.okD F ZM (λ_ _ _ s H E G Z hr=>(zD (jX (m:=3) (zh 0) (vp (k:=2) rfl rfl (xl (zV (i:=1) ZM.nd rfl (lo rfl) w6) (xl (zV (i:=2) ZM.nd rfl (lo rfl) w6) yR))))
  (zR (xE (yV (zc (wO F_least_of (hr.mono w6) rfl (zc (zh 1) zj)) (zc (wO F_greatest_of (hr.mono w6) rfl (zc (zh 2) zj)) zj))))))) ?_
 rintro ds n Q hl ⟨s,rfl,q⟩;simp[startD,qm,Xu];exact⟨s.1,rfl,s.2,rfl,q⟩
end
def zG3{es:List D}{k:Int}{R:D->Prop}(h0:0<=k)(h1:k<es.length)(h:∀d∈es,R d):Wf (.lst es) (.int k) R:=by
 obtain⟨d,e,m⟩:=zt4 h0 h1;exact zM1.mpr ⟨d,e,h d m⟩
def zj6{js:List Int}{k:Int}{R:D->Prop}(lo hi:Int)(h0:0<=k)(h1:k<js.length)(hb:∀j∈js,lo<=j/\j<=hi)(h:∀j:Int,lo<=j->j<=hi->R (.int j)):Wf (.lst (js.map D.int)) (.int k) R:=by
 refine zG3 h0 (by simpa using h1) λd hd=>?_
 obtain⟨j,hj,rfl⟩:=zk.mp hd;exact h j (hb j hj).1 (hb j hj).2
def qZ(c:Nat):(Je 0 c).length=c:=by unfold Je;rw[zg,length_range]
def Xc{c i:Nat}{d:D}(h:(Je 0 c)[i]?=some d):i<c/\d=.int (i:Int):=by
 have hi:i<c:=by have:=(zn.mp h).1;rw[qZ] at this;exact this
 refine⟨hi,?_⟩;unfold Je at h;rw[zt,yK hi] at h;have:=zF h;rw[<- this];simp
def Kn{own:Nat}{g:TGD}{te:TD}{rho:Rho}{P:D->Nat->Prop}(items:List D)(n1:Nat)(Good:D->D->Prop)(hz:items.length<=sizeLine)
  (he:∀(i:Nat) (d:D),items[i]?=some d->∀Q:D->Nat->Prop,(∀e,Good d e->Q e n1)->g d (replicate own none++rho) λrho'=>rho'.drop own=rho/\te rho' n1 Q)
  (hP:∀es,Paired Good items es->P (.lst es) n1):QI own g xi5 te rho P items n1:=by
 refine⟨hz,λi acc n=>Paired Good (items.take i) acc/\n=n1,⟨.nil,rfl⟩,?_,?_⟩
 ·rintro i d acc n e ⟨h1,rfl⟩;refine he i d e (λe n3=>Paired Good (items.take (i+1)) (acc++[e])/\n3=n) λc hg=>⟨?_,rfl⟩;rw[xC,e];exact Paired.snoc h1 hg
 ·rintro acc n ⟨h1,rfl⟩;rw[wF] at h1;exact hP acc h1
section
variable {P:Program}{w:World}{K:W.Frag}{mg:Str->Option Value}{base:Heap}{f:Addr}{fd:FuncData}
abbrev jS:Stmt:=top 22
abbrev JP:List Str:=["_law_script","_law_k","_law_cell","_law_digits"]
def qb:FnScope JP ["_law_script","_law_k"] (xg jS):=⟨rfl,rfl,rfl,x6,rfl,x6,x6⟩
def zf9:TF:=λds n Q=>∃(ns:List Int) (j:Int),ds=[wv ns,.int j]/\ns.length<=63/\0<=j/\j<1000/\∀x y:Int,0<=x->0<=y->y<2147483647->Q (.lst [.int x,.int y,.int 0]) n
def zP1(T:Blt mg)(F:Fun K "_law_left" "_law_left" jS f fd):FnOk P w K mg base CX0 1 f fd ["_law_script","_law_k"] (spD K 2 zf9):=by
 refine Fun.okD F qb (λ_ _ _ s H E G Z hr=>(zD (yf (i:=2) qb.nd rfl (lo rfl) zu)
  (zD (vn (xW Xp Xe (wc wD kI T.len kh (zc (zh 0) zj)) zu (wG _)) (zR (yf (i:=2) qb.nd rfl (lo rfl) (wq xt wo (zh 0) (jE (zh 1) (wc wD kI T.len kh (zc (zh 0) zj))) (λ_ _=>rfl)))) wP)
  (zD (yf (i:=3) qb.nd rfl (lo rfl) (Zv (jE (wc QR zJ4 T.abs zJ7 (zc (zh 2) zj)) (UG zu zu)) (vf XV JA T.int zs9 (zc (WH xz0 xq2 (wc QR zJ4 T.abs zJ7 (zc (zh 2) zj)) (UG zu zu) (wG _)) zj))))
  (zR (xE (vM (zc (zh 3) (zc (jE (Zv (kH (kH (jE (zh 2) zu) (Zv (Zv zu (zh 1)) (zh 1))) zu) zu) zu) (zc zu zj)))))))))) ?_
 rintro ds n Q hl ⟨ns,j,rfl,hns,hj0,hj1,q⟩;have cm:∀{i j:Int},(-(2^64)<i/\i<2^64)->CMul i j:=λh=>.inl h;have cm':∀{i j:Int},(-(2^64)<j/\j<2^64)->CMul i j:=λh=>.inr h
 have h7:0<=7919*j*j:=Int.mul_nonneg w5 hj0
 have h8:7919*j*j<=7919*j*1000:=Int.mul_le_mul_of_nonneg_left w5 w5
 generalize hS:Vu (JY 3 _) _=S
 have cont:∀(x:Int) (F:EndsD),F.rt=Q->S F [some (wv ns),some (.int j),some (.int x),none] n:=λx F hF=>by
  subst hS;simp[hF]
  have ab:0<=(if x<0 then -x else x):=by split<;>lia
  have b1:∀c:Prop,[Decidable c]->(0:Int)<=(if c then 1 else 0)/\(if c then 1 else 0)<(2:Int):=λc _=>by split<;>lia
  refine⟨⟨w6,w6,w6⟩,⟨w6,w6,w6⟩,cm' ⟨?_,?_⟩,cm ⟨w6,w6⟩,cm ⟨w5,w5⟩,cm' ⟨w6,w6⟩,q _ _ (Int.mul_nonneg (wC _ w6) (b1 _).1) (wC _ w6) (wU _ w6)⟩
  ·have:=(b1 (1000000000000000000<=if x<0 then -x else x)).1;lia
  ·have:=(b1 (1000000000000000000<=if x<0 then -x else x)).2;lia
 simp[startD,wv]
 split
 ·rename_i h
  refine⟨w5,?_⟩
  obtain⟨d,e,m⟩:=zt4 (xs:=ns.map D.int) (i:=j%ns.length) (wC _ w5) (by simpa using wU j w5)
  obtain⟨x,_,rfl⟩:=zk.mp m;exact⟨_,e,cont x _ rfl⟩
 ·exact cont 0 _ rfl
abbrev jR:Stmt:=top 23
abbrev JO:List Str:=["_law_left_here","_law_many","_law_digit"]
def Yr:FnScope JO ["_law_left_here","_law_many"] (xg jR):=⟨rfl,rfl,rfl,x6,rfl,x6,x6⟩
def Yq:TF:=λds n Q=>∃m:Int,ds=[.st,.int m]/\n=3/\0<m/\m<10000000/\∀k:Int,0<=k->k<m->Q (.int k) n
def zO9(F:Fun K "_law_pick" "_law_pick" jR f fd):FnOk P w K mg base CX0 1 f fd ["_law_left_here","_law_many"] (spD K 2 Yq):=by
 refine Fun.okD F Yr (λ_ _ _ s H E G Z hr=>(zD (vn (xW Xp Xe (ja (i:=0) zu (λ_ _=>rfl)) zu (wG _)) (zD (yf (i:=2) Yr.nd rfl (lo rfl) (jE (ja (i:=0) zu (λ_ _=>rfl)) (zh 1)))
  (zD (Xh (i:=0) (Qp (ja (i:=0) zu (λ_ _=>rfl)) (zh 1)) zu)
  (zR (xE (zh 2))))) wP)
  (zD (Xh (i:=0) (kH (ja (i:=0) zu (λ_ _=>rfl)) zu) zu)
  (zD (Xh (i:=0) (jE (kH (kH (Zv (ja (i:=0) zu (λ_ _=>rfl)) zu) zu) (ja (i:=0) zu (λ_ _=>rfl))) zu) zu)
  (zR (xE (jE (Qp (jE (Zv (ja (i:=0) zu (λ_ _=>rfl)) (ja (i:=0) zu (λ_ _=>rfl))) zu) zu) (zh 1)))))))) ?_
 rintro ds n Q hl ⟨m,rfl,rfl,hm,hm2,q⟩;have cm:∀{i j:Int},(-(2^64)<i/\i<2^64)->CMul i j:=λh=>.inl h;simp[startD];intro z0 h0
 split
 ·intro z hz
  exact⟨hm,λz1 hz1=>⟨⟨hm,w5⟩,Int.ediv_nonneg hz1 w5,q _ (wC _ w5) (wU _ hm)⟩⟩
 ·intro z hz
  refine⟨w5,λy hy hy2=>⟨cm ⟨w5,w5⟩,λx hx=>⟨wC _ w6,wU _ w6,λy hy hy2 z1 h1 h1'=>⟨cm ⟨w5,w5⟩,⟨w6,w6⟩,hm,q _ (wC _ w5) (wU _ hm)⟩⟩⟩⟩
def wn{m:Int}{Q:D->Nat->Prop}(h0:0<m)(h1:m<10000000)(h:∀k:Int,0<=k->k<m->Q (.int k) 3):Yq [.st,.int m] 3 Q:=⟨m,rfl,rfl,h0,h1,h⟩
end
abbrev Thing:=Int × List Int × Int
def xD(t:Thing):D:=.tup [.int t.1,wY t.2.1,.int t.2.2]
def wz(d:Nat)(ts:List Thing):D:=.tup [.int d,.tup (ts.map xD)]
def zF0(m x:Int):Prop:=∃a e:Int,x=1000000000000000*a+e/\-m<=e/\e<=m
def jy(x:Int):Prop:=(-100000000000000000<=x/\x<=100000000000000000)/\zF0 500 x
def zb9(x:Int):Prop:=(-100000000000000002<=x/\x<=100000000000000002)/\zF0 502 x
structure GoodT(d:Nat)(ts:List Thing)(top:Int):Prop where
 each:∀t∈ts,0<=t.1/\t.1<top/\t.2.1.length=d/\(∀x∈t.2.1,jy x)/\jy t.2.2
 up:ts.Pairwise λa b=>a.1<b.1
def GoodT.nil(d:Nat)(top:Int):GoodT d [] top:=⟨by simp,.nil⟩
def GoodT.snoc{d:Nat}{ts:List Thing}{x top:Int}(h:GoodT d ts x)(hx:0<=x)(ht:x<top){p:List Int}(hp:p.length=d)(hs:∀x∈p,jy x){y:Int}(hy:jy y):GoodT d (ts++[(x,p,y)]) top:=by
 refine⟨λt hm=>?_,?_⟩
 ·rcases zW.mp hm with hm | hm
  ·have := h.each t hm
   exact⟨this.1,w5,this.2.2⟩
  ·rw[zG.mp hm];exact⟨hx,ht,hp,hs,hy⟩
 ·rw [List.pairwise_append]
  refine⟨h.up,by simp,λa ha b hb=>?_⟩
  rw[zG.mp hb];exact(h.each a ha).2.1
def GoodT.more{d:Nat}{ts:List Thing}{x top:Int}(h:GoodT d ts x)(ht:x<=top):GoodT d ts top:=⟨λt hm=>by have:=h.each t hm;exact⟨this.1,w5,this.2.2⟩,h.up⟩
def GoodT.nodup{d:Nat}{ts:List Thing}{x:Int}(h:GoodT d ts x):(ts.map λt=>t.1).Nodup:=xG.mpr (h.up.imp λ{a b} h=>by lia)
theorem jb{S:Int->Prop}:∀{l es:List D},Paired (λ_ e=>∃x:Int,S x/\e=.int x) l es->∃xs:List Int,es=xs.map D.int/\∀x∈xs,S x
 |_,_,.nil=>⟨[],rfl,by simp⟩
 |_,_,.cons r t=>by
  obtain⟨x,hx,rfl⟩:=r;obtain⟨xs,rfl,h⟩:=jb t
  exact⟨x::xs,rfl,λy hy=>by rcases zi.mp hy with rfl |hy;exact hx;exact h y hy⟩
def KH(s:Int):Prop:=s=1\/s=3\/s=1000000000000000
def zm2{a s:Int}(h1:-40<=a)(h2:a<=40)(hs:KH s):jy (a*s):=by
 rcases hs with rfl |rfl |rfl
 ·exact⟨⟨w5,w5⟩,0,a,w5,w5,w5⟩
 ·exact⟨⟨w5,w5⟩,0,a*3,w5,w5,w5⟩
 ·exact⟨⟨w5,w5⟩,a,0,w5,w5,w5⟩
def xa9{js:List Int}{k:Int}{R:D->Prop}(h0:0<=k)(h1:k<js.length)(h:∀j∈js,R (.int j)):Wf (.lst (js.map D.int)) (.int k) R:=by
 refine zG3 h0 (by simpa using h1) λd hd=>?_
 obtain⟨j,hj,rfl⟩:=zk.mp hd;exact h j hj
def UM(p:List Int)(k:Nat):okE (wY p) (k+1)=true:=Zc.mpr λd hd=>by
 obtain⟨x,_,rfl⟩:=zk.mp hd;exact Zd
def zl5(t:Thing)(k:Nat):okE (xD t) (k+2)=true:=by
 refine Zc.mpr λd hd=>?_;simp only[zi,zZ,or_false] at hd
 rcases hd with rfl |rfl |rfl
 ·exact Zd
 ·exact UM _ _
 ·exact Zd
def Jl(ts:List Thing):okE (.lst (ts.map xD)) 20=true:=zP5.mpr λd hd=>by
 obtain⟨t,_,rfl⟩:=zk.mp hd;exact zl5 t 17
def zo8{d:Nat}{ts:List Thing}{R:D->Prop}(h:R (.int d)):Wf (wz d ts) (.int 0) R:=⟨_,0,_,.inr (.inl rfl),rfl,rfl,h⟩
def WS{d:Nat}{ts:List Thing}{R:D->Prop}(h:R (.tup (ts.map xD))):Wf (wz d ts) (.int 1) R:=⟨_,1,_,.inr (.inl rfl),rfl,rfl,h⟩
def vL(d:Nat)(ts:List Thing):xT (wz d ts)=true:=id rfl
structure JHs(d:Nat)(wd sc:Int)(i:Nat)(rho:Rho)(n:Nat):Prop where
 e:n=3
 r:∃(ts:List Thing) (x:Int) (a b c:Option D),ts.length=i/\0<=x/\x<=2+41*i/\GoodT d ts x/\rho=[some .st,some (.int d),some (.int wd),some (.int sc),some (.own (ts.map xD)),some (.int x),a,b,c]
section
variable {P:Program}{w:World}{K:W.Frag}{mg:Str->Option Value}{base:Heap}{f:Addr}{fd:FuncData}
abbrev qX:Stmt:=top 24
abbrev jo:List Str:=["_law_left_here","_law_d","_law_wide","_law_scale","_law_things","_law_name","_law_k","_law_place","_law_far"]
def yP:FnScope jo ["_law_left_here"] (xg qX):=⟨rfl,rfl,rfl,x6,rfl,x6,x6⟩
def Xx:("_law_i" :: jo:List Str).Nodup:=x6
def KS:TF:=λds n Q=>ds=[.st]/\n=3/\∀(d:Nat) (ts:List Thing),1<=d->d<=4->GoodT d ts 2000->ts.length<=30->Q (wz d ts) 3
def zA3(T:Blt mg)(F:Fun K "_law_house" "_law_house" qX f fd)(Y_pick:Fn P w K mg base "_law_pick" 1 2 Yq):FnOk P w K mg base CX0 2 f fd ["_law_left_here"] (spD K 1 KS):=by
 refine Fun.okD F yP (λ_ _ _ s H E G Z hr=>(zD (yf (i:=1) yP.nd rfl (lo rfl) (wq xt wo (vM (zc zu (zc zu (zc zu (zc zu (zc zu (zc zu zj))))))) (wO Y_pick (hr.mono w6) rfl (zc (zh 0) (zc zu zj))) (λ_ _=>rfl)))
  (zD (jX (m:=9) (yV (zc (wq xt wo (vM (zc zu (zc zu (zc zu (zc zu (zc zu (zc zu zj))))))) (wO Y_pick (hr.mono w6) rfl (zc (zh 0) (zc zu zj))) (λ_ _=>rfl)) (zc (wq xt wo (vM (zc zu (zc zu (zc zu (zc (UG zu zu) zj))))) (wO Y_pick (hr.mono w6) rfl (zc (zh 0) (zc zu zj))) (λ_ _=>rfl)) zj))) (vp (k:=2) rfl rfl (xl (zV (i:=2) yP.nd rfl (lo rfl) w6) (xl (zV (i:=3) yP.nd rfl (lo rfl) w6) yR))))
  (zD (zy3 (i:=4) (j:=5) rfl yP.nd rfl rfl w6 rfl rfl (λZ1 H1=>(wO Y_pick (hr.mono w6) rfl (zc (zh 0) (zc zu zj)))))
  (zD (qh (m:=9) PassesOwn.never rfl (qF T.range (zc (wq xt wo (vM (zc zu (zc zu (zc zu (zc zu (zc zu (zc zu (zc zu (zc zu (zc zu (zc zu zj))))))))))) (wO Y_pick (hr.mono w6) rfl (zc (zh 0) (zc zu zj))) (λ_ _=>rfl)) zj)) (zV (i:=6) yP.nd rfl (lo rfl) w6)
  (zD (yf (i:=7) yP.nd rfl (lo rfl) (vf yv ka T.tuple kc (zc (vA (own:=["_law_i"]) (M:=jo) (vH (by rfl)) rfl (qF T.range (zc (zh 1) zj)) (λ_ _ _ _=>(zV (i:=0) Xx rfl (lo rfl) w6)) (λ_ _ _ _=>yQ) (λ_ _ _ _=>(Zv (qd (wO Y_pick (hr.mono w6) rfl (zc (zh 1) (zc (kH (Zv zu (zh 3)) zu) zj))) (zh 3)) (zh 4)))) zj)))
  (zD (vn (PWD.pt (jW (zi7 (i:=4) hr rfl) (jr (xW VE Vv (wO Y_pick (hr.mono w6) rfl (zc (zh 0) (zc zu zj))) zu (wG _))))) (zR (yf (i:=7) yP.nd rfl (lo rfl) (wq xt wo (zz3 (i:=4) (wO Y_pick (hr.mono w6) rfl (zc (zh 0) (zc (UH (i:=4) T.len rfl) zj))) (λ_ _=>rfl)) zu (λ_ _=>rfl)))) wP)
  (zD (yf (i:=8) yP.nd rfl (lo rfl) (wq xt wo (vM (zc (UG zu zu) (zc (zk1 (UG zu zu)) zj))) (wO Y_pick (hr.mono w6) rfl (zc (zh 0) (zc zu zj))) (λ_ _=>rfl)))
  (zD (kK (i:=4) (zc (yV (zc (zh 5) (zc (zh 7) (zc (wq xt wo (vM (zc (qd (wO Y_pick (hr.mono w6) rfl (zc (zh 0) (zc zu zj))) zu) (zc (qd (wO Y_pick (hr.mono w6) rfl (zc (zh 0) (zc zu zj))) zu) (zc (zh 8) zj)))) (wO Y_pick (hr.mono w6) rfl (zc (zh 0) (zc zu zj))) (λ_ _=>rfl)) zj)))) zj) rfl)
  (zR (yf (i:=5) yP.nd rfl (lo rfl) (kH (kH (zh 5) zu) (wq xt wo (vM (zc zu (zc zu (zc zu (zc zu (zc zu zj)))))) (wO Y_pick (hr.mono w6) rfl (zc (zh 0) (zc zu zj))) (λ_ _=>rfl))))))))))
  (zR (ZT 4 (xE (yV (zc (zh 1) (zc (vf yv ka T.tuple kc (zc (zh 4) zj)) zj))))))))))) ?_
 rintro ds n Q hl ⟨rfl,rfl,q⟩;simp[startD]
 refine wn w6 w6 λk h0 h1=>zj6 (js:=[1,2,2,3,3,4]) 1 4 h0 (by simpa using h1) w6 λdd hd1 hd4=>?_
 obtain⟨d,rfl⟩:=xO (show 0<=dd by lia)
 refine wn w6 w6 λk2 h2 h3=>zj6 (js:=[1,2,3,5,9,40]) 1 40 h2 (by simpa using h3) w6 λwd hw1 hw2=>⟨⟨w6,w6,w6⟩,?_⟩
 refine wn w6 w6 λk3 h4 h5=>xa9 (js:=[1,1,3,1000000000000000]) h4 (by simpa using h5) λsc hsm=>⟨rfl,?_⟩
 have hsc:KH sc:=by
  simp only[zi,zZ,or_false] at hsm;unfold KH;lia
 have hs1:1<=sc:=by unfold KH at hsc;lia
 have hs2:sc<=1000000000000000:=by unfold KH at hsc;lia
 refine wn w6 w6 λx0 hx00 hx01=>⟨wX w6,?_⟩
 refine wn w6 w6 λk4 h6 h7=>zj6 (js:=[0,1,2,3,4,6,8,12,20,30]) 0 30 h6 (by simpa using h7) w6 λc hc0 hc1=>?_
 refine⟨c,rfl,w5,w5,JHs d wd sc,⟨rfl,[],x0,none,none,none,rfl,hx00,w5,GoodT.nil d _,rfl⟩,?_,?_⟩
 ·rintro i d' rho n' e ⟨rfl, ts, x, u, v, z, hlt, hx0, hx1, hg, rfl⟩;obtain⟨hi,rfl⟩:=Xc e;generalize hS:Vu (JY 8 _) _=S
  have cont:∀(p:List Int) (F:EndsD),F.nx=JHs d wd sc (i+1)->p.length=d->(∀y∈p,jy y) ->
    S F [some .st,some (.int d),some (.int wd),some (.int sc),some (.own (ts.map xD)),some (.int x),some (.int i),some (wY p),z] 3:=λp F hF hp hps=>by
   subst hS;have np:xT (wY p)=true:=id rfl;simp[np,hF]
   refine⟨⟨w6,w6,w6⟩,wn w6 w6 λj1 g0 g1=>xa9 (js:=[100000000000000000,-100000000000000000]) g0 (by simpa using g1) λfr hfm=>⟨lt_size w5,?_⟩⟩
   refine wn w6 w6 λw1 g2 g3=>?_
   simp
   refine wn w6 w6 λw2 g4 g5=>?_
   simp
   refine wn w6 w6 λw3 g6 g7=>?_
   have hpk:∀R:D->Prop,(∀y:Int,jy y->R (.int y))->Wf (.lst [.int (w1-2),.int (w2-500),.int fr]) (.int w3) R:=λR hR=>zG3 g6 (by simpa using g7) λdd hdd=>by
    simp only[zi,zZ,or_false] at hdd
    rcases hdd with rfl |rfl |rfl
    ·exact hR _ ⟨⟨w5,w5⟩,0,w1-2,w5,w5,w5⟩
    ·exact hR _ ⟨⟨w5,w5⟩,0,w2-500,w5,w5,w5⟩
    ·simp only [zi, zZ, or_false] at hfm
     rcases hfm with rfl |rfl
     ·exact hR _ ⟨⟨w6,w6⟩,100,0,w6,w6,w6⟩
     ·exact hR _ ⟨⟨w6,w6⟩,-100,0,w6,w6,w6⟩
   refine hpk _ λy hy=>?_
   refine wn w6 w6 λw4 g8 g9=>zj6 (js:=[0,0,1,7,40]) 0 40 g8 (by simpa using g9) w6 λm hm0 hm1=>?_
   simp
   exact⟨rfl,ts++[(x,p,y)],x+1+m,_,_,_,by simp[hlt],w5,w5,hg.snoc hx0 w5 hp hps hy,by rw[zS];rfl⟩
  simp
  refine⟨w5,Kn (Je 0 d) 3 (λ_ e=>∃x:Int,jy x/\e=.int x) (by rw[qZ];exact wX w5) (λj d2 e2 Q' hQ'=>?_) (λes hp=>?_)⟩
  ·simp
   refine⟨.inl ⟨w6,w6⟩,wn w5 w5 λk g0 g1=>?_⟩
   simp
   exact⟨.inl ⟨w5,w5⟩,hQ' _ ⟨_,zm2 w5 w5 hsc,rfl⟩⟩
  ·have hlen := hp.length;rw[qZ] at hlen;obtain⟨ps,rfl,hps⟩:=jb hp;rw[zg] at hlen;simp;refine⟨Jl ts,?_⟩
   split
   ·exact cont ps _ rfl w5 hps
   ·rename_i hne
    have hpos:0<ts.length:=by
     cases ts with
     |nil=>exact absurd rfl hne
     |cons t r=>simp
    refine wn w6 w6 λk g0 g1=>?_
    simp
    split
    ·refine wn w5 w5 λk4 g5 g6 => ?_
     obtain⟨y,ey,my⟩:=zt4 (xs:=ts.map xD) (i:=k4) g5 (by simp;lia)
     obtain⟨⟨y1,p1,w1⟩,ht',rfl⟩:=zk.mp my;have he:=hg.each _ ht';refine⟨_,rfl,_,ey,?_⟩;refine⟨_,_,wY p1,.inr (.inl rfl),rfl,rfl,?_⟩;exact cont p1 _ rfl he.2.2.1 he.2.2.2.1
    ·exact cont ps _ rfl w5 hps
 ·rintro rho n' ⟨rfl, ts, x, u, v, z, hlt, hx0, hx1, hg, rfl⟩;rw[qZ] at hlt hx1;simp
  exact q d ts w5 w5 (hg.more w5) w5
abbrev qA:Stmt:=top 25
abbrev qM:List Str:=["_law_left_here","_law_house_here","_law_i","_law_numbers"]
def jB:FnScope qM q11 (xg qA):=⟨rfl,rfl,rfl,x6,rfl,x6,x6⟩
def Yz:("_law_thing" :: qM:List Str).Nodup:=x6
def Zp:TF:=λds n Q=>∃(d i:Nat) (ts:List Thing),ds=[.st,wz d ts,.int i]/\n=3/\i<d/\GoodT d ts 2000/\ts.length<=30/\∀x:Int,zb9 x->Q (.int x) 3
def zk8(T:Blt mg)(F:Fun K "_law_number" "_law_number" qA f fd)(Y_pick:Fn P w K mg base "_law_pick" 1 2 Yq):FnOk P w K mg base CX0 2 f fd q11 (spD K 3 Zp):=by
 refine Fun.okD F jB (λ_ _ _ s H E G Z hr=>(zD (yf (i:=3) jB.nd rfl (lo rfl) (Xl Qq Qd (vA (own:=["_law_thing"]) (M:=qM) (vH (by rfl)) rfl (vo rfl (wq xt wo (zh 1) zu (λ_ _=>rfl))) (λ_ _ _ _=>(zV (i:=0) Yz rfl (lo rfl) w6)) (λ_ _ _ _=>yQ) (λ_ _ _ _=>(wq xt wo (wq xt wo (zh 0) zu (λ_ _=>rfl)) (zh 3) (λ_ _=>rfl)))) (vM (zc zu zj))))
  (zR (xE (kH (wq xt wo (zh 3) (wO Y_pick (hr.mono w6) rfl (zc (zh 0) (zc (wc wD kI T.len kh (zc (zh 3) zj)) zj))) (λ_ _=>rfl)) (wq xt wo (vM (zc zu (zc zu (zc zu (zc zu (zc (zk1 zu) (zc zu zj))))))) (wO Y_pick (hr.mono w6) rfl (zc (zh 0) (zc zu zj))) (λ_ _=>rfl))))))) ?_
 rintro ds n Q hl ⟨d,i,ts,rfl,rfl,hi,hg,hz,q⟩;have nh:=vL d ts;simp[startD,nh];refine WS ?_;simp
 refine yd xD (λt=>.int (t.2.1[i]?.getD 0)) ts (wX w5) (λt ht R hR=>?_) ?_
 ·have nt : xT (xD t) = true := id rfl;have he:=hg.each t ht;simp[nt];refine⟨_,1,_,.inr (.inl rfl),rfl,rfl,?_⟩
  exact⟨_,_,_,.inr (.inl rfl),rfl,kX (by rw[zt,zd w5];rfl),by simpa [zd (show i<t.2.1.length by lia)] using hR⟩
 ·simp
  refine⟨wX w5,wn w5 w5 λk h0 h1=>zG3 h0 (by simpa using h1) λdd hdd=>?_⟩
  obtain⟨x,hx,rfl⟩:∃x:Int,jy x/\dd=.int x:=by
   rcases zW.mp hdd with h |h
   ·obtain ⟨t, ht, rfl⟩ := zk.mp h;have he:=hg.each t ht;refine⟨_,?_,rfl⟩
    rw[zd (show i<t.2.1.length by lia)]
    exact he.2.2.2.1 _ (wl _)
   ·rw[zG.mp h];exact⟨0,⟨⟨w6,w6⟩,0,0,w6,w6,w6⟩,rfl⟩
  refine wn w6 w6 λk2 h2 h3=>zj6 (js:=[0,0,0,1,-1,2]) (-1) 2 h2 (by simpa using h3) w6 λm hm0 hm1=>?_
  simp;obtain⟨⟨hx1,hx2⟩,fa,fe,hf1,hf2,hf3⟩:=hx
  exact q _ ⟨⟨w5,w5⟩,fa,fe+m,w5,w5,w5⟩
def jc{d i:Nat}{ts:List Thing}{Q:D->Nat->Prop}(hi:i<d)(hg:GoodT d ts 2000)(hz:ts.length<=30)(h:∀x:Int,zb9 x->Q (.int x) 3):Zp [.st,wz d ts,.int i] 3 Q:=⟨d,i,ts,rfl,rfl,hi,hg,hz,h⟩
def zQ0(e:End):Prop:=∀x s,e=some (x,s)->zb9 x
def xd9(b:List WA):Prop:=∀s∈b,zQ0 s.1/\zQ0 s.2
structure JBx(d:Nat)(ts:List Thing)(i:Nat)(rho:Rho)(n:Nat):Prop where
 e:n=3
 r:∃(b:List WA) (u v y z:Option D),b.length=i/\xd9 b/\rho=[some .st,some (wz d ts),some (.own (b.map qm)),u,v,y,z]
abbrev ZQ:Stmt:=top 26
abbrev ze2:List Str:=["_law_left_here","_law_house_here","_law_spans","_law_i","_law_one","_law_other","_law_low"]
def kj:FnScope ze2 q1 (xg ZQ):=⟨rfl,rfl,rfl,x6,rfl,x6,x6⟩
def zK4:TF:=λds n Q=>∃(d:Nat) (ts:List Thing),ds=[.st,wz d ts]/\n=3/\d<=4/\GoodT d ts 2000/\ts.length<=30/\∀b:List WA,b.length=d->xd9 b->Q (vG b) 3
def Ql{x k:Int}{R:D->Prop}(hx:zb9 x)(h0:0<=k)(h1:k<4)(h:∀e:End,zQ0 e->R (kR e)):Wf (.lst [.non,.tup [.int x,.bl true],.tup [.int x,.bl false],.tup [.int x,.bl true]]) (.int k) R:=
 zG3 h0 (by simpa using h1) λdd hdd=>by
  simp only[zi,zZ,or_false] at hdd
  rcases hdd with rfl |rfl |rfl |rfl
  ·exact h none λx s e=>by cases e
  ·exact h (some (x,true)) λx s e=>by cases e;exact hx
  ·exact h (some (x,false)) λx s e=>by cases e;exact hx
  ·exact h (some (x,true)) λx s e=>by cases e;exact hx
def xd2(T:Blt mg)(F:Fun K "_law_box" "_law_box" ZQ f fd)(Y_pick:Fn P w K mg base "_law_pick" 1 2 Yq)(Y_number:Fn P w K mg base "_law_number" 2 3 Zp):FnOk P w K mg base CX0 3 f fd q1 (spD K 2 zK4):=by
 refine Fun.okD F kj (λ_ _ _ s H E G Z hr=>(zD (Xi (i:=2) kj.nd rfl (lo rfl) zj)
  (zD (qh (m:=7) PassesOwn.never rfl (qF T.range (zc (wq xt wo (zh 1) zu (λ_ _=>rfl)) zj)) (zV (i:=3) kj.nd rfl (lo rfl) w6)
  (zD (Qg (i:=4) (j:=5) rfl kj.nd rfl rfl w6 rfl rfl (zc (wO Y_number (hr.mono w6) rfl (zc (zh 0) (zc (zh 1) (zc (zh 3) zj)))) (zc (wO Y_number (hr.mono w6) rfl (zc (zh 0) (zc (zh 1) (zc (zh 3) zj)))) zj)))
  (zD (vn (PWD.pt (jW (xW Xp Xe (zh 4) (zh 5) (wG _)) (jr (xW Xp Xe (wO Y_pick (hr.mono w6) rfl (zc (zh 0) (zc zu zj))) zu (wG _))))) (zR (Qg (i:=4) (j:=5) rfl kj.nd rfl rfl w6 rfl rfl (zc (zh 5) (zc (zh 4) zj)))) wP)
  (zD (yf (i:=6) kj.nd rfl (lo rfl) (wq xt wo (vM (zc ve (zc (yV (zc (zh 4) (zc Zw zj))) (zc (yV (zc (zh 4) (zc Zw zj))) (zc (yV (zc (zh 4) (zc Zw zj))) zj))))) (wO Y_pick (hr.mono w6) rfl (zc (zh 0) (zc zu zj))) (λ_ _=>rfl)))
  (zR (kK (i:=2) (zc (yV (zc (zh 6) (zc (wq xt wo (vM (zc ve (zc (yV (zc (zh 5) (zc Zw zj))) (zc (yV (zc (zh 5) (zc Zw zj))) (zc (yV (zc (zh 5) (zc Zw zj))) zj))))) (wO Y_pick (hr.mono w6) rfl (zc (zh 0) (zc zu zj))) (λ_ _=>rfl)) zj))) zj) rfl))))))
  (zR (ZT 2 (xE (vf yv ka T.tuple kc (zc (zh 2) zj)))))))) ?_
 rintro ds n Q hl ⟨d,ts,rfl,rfl,hd4,hg,hz,q⟩;have nh:=vL d ts;simp[startD,nh];refine zo8 ?_
 refine⟨d,rfl,w5,w5,JBx d ts,⟨rfl,[],none,none,none,none,rfl,λs hs=>by simp at hs,rfl⟩,?_,?_⟩
 ·rintro i d' rho n' e ⟨rfl, b, u, v, y, z, hb, hn, rfl⟩;obtain⟨hi,rfl⟩:=Xc e
  replace hi:i<d:=by simpa using hi
  generalize hS:Vu (JY 6 _) _=S
  have cont:∀(x1 x2:Int) (F:EndsD),F.nx=JBx d ts (i+1)->zb9 x1->zb9 x2 ->
    S F [some .st,some (wz d ts),some (.own (b.map qm)),some (.int i),some (.int x1),some (.int x2),z] 3:=λx1 x2 F hF h1 h2=>by
   subst hS;simp[hF]
   refine wn w6 w6 λk g0 g1=>Ql h1 g0 g1 λe1 n1=>?_
   have no1:=Xu e1;simp[no1]
   refine⟨lt_size w5,wn w6 w6 λk g0 g1=>Ql h2 g0 g1 λe2 n2=>?_⟩
   refine⟨rfl,b++[(e1,e2)],_,_,_,_,by simp[hb],λs hs=>?_,by rw[zS];rfl⟩
   rcases zW.mp hs with h |h
   ·exact hn s h
   ·rw[zG.mp h];exact⟨n1,n2⟩
  simp[nh];refine jc hi hg hz λx1 hx1=>?_;refine jc hi hg hz λx2 hx2=>?_;simp
  split
  ·refine wn w6 w6 λk g0 g1 => ?_
   simp
   split
   ·exact cont x2 x1 _ rfl hx2 hx1
   ·exact cont x1 x2 _ rfl hx1 hx2
  ·exact cont x1 x2 _ rfl hx1 hx2
 ·rintro rho n' ⟨rfl, b, u, v, y, z, hb, hn, rfl⟩;rw[qZ] at hb;simp
  exact q b (by simpa using hb) hn
end
abbrev Pair:=Option Int × Option Int
def xx(p:Pair):D:=.tup [Wx p.1,Wx p.2]
def xf(ps:List Pair):D:=.tup (ps.map xx)
def crossedT:Pair->Bool
 |(some l,some g)=>decide (g<l)
 |_=>false
def emptyP:Pair:=(some 1,some 0)
def yt(ps:List Pair):List Pair:=if ps.any crossedT then ps.map (λ_=>emptyP) else ps
def jZ(s:WA):Pair:=(UY s.1,Qz s.2)
def wR(b:List WA):List Pair:=yt (b.map jZ)
@[simp] theorem xh4:Wx none=.non:=rfl
@[simp] theorem xh3{i:Int}:Wx (some i)=.int i:=rfl
section
variable {P:Program}{w:World}{K:W.Frag}{mg:Str->Option Value}{base:Heap}{f:Addr}{fd:FuncData}
abbrev qR:Stmt:=top 5
abbrev KI:List Str:=["pair","least","greatest"]
def qv:FnScope KI ["pair"] (xg qR):=⟨rfl,rfl,rfl,x6,rfl,x6,x6⟩
def qa:TF:=λds n Q=>∃p:Pair,ds=[xx p]/\Q (.bl (crossedT p)) n
def VF(F:Fun K "is_crossed" "is_crossed" qR f fd):FnOk P w K mg base CX0 1 f fd ["pair"] (spD K 1 qa):=by
 refine Fun.okD F qv (λ_ _ _ s H E G Z hr=>(zD (jX (m:=3) (zh 0) (vp (k:=2) rfl rfl (xl (zV (i:=1) qv.nd rfl (lo rfl) w6) (xl (zV (i:=2) qv.nd rfl (lo rfl) w6) yR))))
  (zR (xE (zG7 (WH Zb jV (zh 1) ve (wG _)) (zG7 (WH Zb jV (zh 2) ve (wG _)) (xb9 (WH Xp Xe (zh 1) (zh 2) (wG _))))))))) ?_
 rintro ds n Q hl ⟨⟨lo,hi⟩,rfl,q⟩
 rcases lo with _ |lo<;>rcases hi with _ |hi<;>simp[startD,xx]<;>exact q
abbrev Xa:Stmt:=top 6
abbrev jk:List Str:=["pairs"]
def za7:FnScope jk ["pairs"] (xg Xa):=⟨rfl,rfl,rfl,x6,rfl,x6,x6⟩
def UQ:("pair" :: jk:List Str).Nodup:=x6
def UP:("pair" :: jk:List Str).Nodup:=x6
def Zo:TF:=λds n Q=>∃(ps:List Pair) (d:D),ds=[d]/\(d=.lst (ps.map xx)\/d=xf ps)/\ps.length<=1000/\Q (xf (yt ps)) n
def zb4(T:Blt mg)(G_EMPTY_PAIR:xj1 K mg "EMPTY_PAIR" (.tup [.int 1,.int 0]))(F:Fun K "settled" "settled" Xa f fd)(F_is_crossed:Fn P w K mg base "is_crossed" 1 1 qa):FnOk P w K mg base CX0 2 f fd ["pairs"] (spD K 1 Zo):=by
 refine Fun.okD F za7 (λ_ _ _ s H E G Z hr=>(zD (vn (ZS (wc (QQ rfl) zJ3 T.any zJ6 (zc (vA (own:=["pair"]) (M:=jk) (vH (by rfl)) rfl (vo rfl (zh 0)) (λ_ _ _ _=>(zV (i:=0) UQ rfl (lo rfl) w6)) (λ_ _ _ _=>yQ) (λ_ _ _ _=>(wO F_is_crossed (hr.mono w6) rfl (zc (zh 0) zj)))) zj))) (zR (xE (vf yv ka T.tuple kc (zc (vA (own:=["pair"]) (M:=jk) (vH (by rfl)) rfl (vo rfl (zh 0)) (λ_ _ _ _=>(zV (i:=0) UP rfl (lo rfl) w6)) (λ_ _ _ _=>yQ) (λ_ _ _ _=>(zO0 G_EMPTY_PAIR rfl))) zj)))) wP)
  (zR (xE (vf yv ka T.tuple kc (zc (zh 0) zj)))))) ?_
 rintro ds n Q hl ⟨ps,d,rfl,hd,hz,q⟩
 have hno:xT d=true:=by rcases hd with rfl |rfl<;>rfl
 have hsz:ps.length<=sizeLine:=wX hz;have hit:∀R:List D->Prop,R (ps.map xx)->∃es,(d=.lst es\/d=.tup es)/\R es:=λR h=>⟨_,hd,h⟩;simp[startD,hno];refine hit _ (yd xx (λp=>.bl (crossedT p)) ps hsz (λx hx R hR=>?_) ?_)
 ·simp[xx];exact⟨x,rfl,hR⟩
 ·refine ⟨ps.map crossedT, by rw [zE]; rfl, ?_⟩
  simp;unfold yt at q
  by_cases h:ps.any crossedT
  ·simp only [h, if_true];rw[if_pos h] at q;refine hit _ (yd xx (λp=>.tup [.int 1,.int 0]) ps hsz (λx hx R hR=>?_) ?_)
   ·simp;exact hR
   ·simp
    have e:xf (ps.map λ_=>emptyP)=.tup (ps.map λ_=>.tup [.int 1,.int 0]):=by unfold xf;rw[zE];rfl
    rw[e] at q
    simpa using q
  ·rw [if_neg h] at q;simp only[h]
   rcases hd with rfl |rfl
   ·simp;exact q
   ·unfold xf;simp;exact q
abbrev jN:Stmt:=top 7
abbrev Zk:List Str:=["box"]
def Uw:FnScope Zk ["box"] (xg jN):=⟨rfl,rfl,rfl,x6,rfl,x6,x6⟩
def Wn:("span" :: Zk:List Str).Nodup:=x6
def jH:TF:=λds n Q=>∃b:List WA,ds=[vG b]/\b.length<=1000/\Q (xf (wR b)) n
def UI(F:Fun K "plain_box" "plain_box" jN f fd)(F_pair_of:Fn P w K mg base "pair_of" 2 1 YV)(F_settled:Fn P w K mg base "settled" 2 1 Zo):FnOk P w K mg base CX0 3 f fd ["box"] (spD K 1 jH):=by
 refine Fun.okD F Uw (λ_ _ _ s H E G Z hr=>(zR (xE (wO F_settled (hr.mono w6) rfl (zc (vA (own:=["span"]) (M:=Zk) (vH (by rfl)) rfl (vo rfl (zh 0)) (λ_ _ _ _=>(zV (i:=0) Wn rfl (lo rfl) w6)) (λ_ _ _ _=>yQ) (λ_ _ _ _=>(wO F_pair_of (hr.mono w6) rfl (zc (zh 0) zj)))) zj))))) ?_
 rintro ds n Q hl ⟨b,rfl,hz,q⟩;have nb:xT (vG b)=true:=rfl;simp[startD,nb];refine⟨b.map qm,.inr rfl,yd qm (λs=>xx (jZ s)) b (wX hz) (λx hx R hR=>?_) ?_⟩
 ·simp[qm];exact⟨x,rfl,hR⟩
 ·exact⟨b.map jZ,_,rfl,.inl (by rw[zE];rfl),by simpa using hz,q⟩
end
def maxO:Option Int->Option Int->Option Int
 |none,o=>o
 |some a,none=>some a
 |some a,some b=>some (if b > a then b else a)
def minO:Option Int->Option Int->Option Int
 |none,o=>o
 |some a,none=>some a
 |some a,some b=>some (if b<a then b else a)
def commonP(p q:Pair):Pair:=(maxO p.1 q.1,minO p.2 q.2)
def ko(ps qs:List Pair):List Pair:=yt (List.zipWith commonP ps qs)
def vd(ps qs:List Pair):Bool:=match ko ps qs with |[]=>false |p::_=>crossedT p
def jG(ps qs:List Pair):Bool:=decide (ko ps qs=ps)
def ZH(ps:List Pair)(p:List Int):Bool:=(List.zipWith (λq x=>liesT q.1 q.2 x) ps p).all id
theorem zt9{α β:Type}{f:α->β->Bool}:∀{l:List α}{r:List β},(List.zipWith f l r).all id=true↔∀(i:Nat) a b,l[i]?=some a->r[i]?=some b->f a b=true
 |[],r=>by simp
 |a::l,[]=>by simp
 | a :: l, b :: r => by
  have ih:=zt9 (f:=f) (l:=l) (r:=r);simp only[xI,all_cons,zM,ih]
  constructor
  ·rintro ⟨h1, h2⟩ i x y hx hy
   cases i with
   |zero=>simp at hx hy;subst hx;subst hy;exact h1
   |succ i=>exact h2 i x y (by simpa using hx) (by simpa using hy)
  ·intro h
   exact⟨h 0 a b rfl rfl,λi x y hx hy=>h (i+1) x y (by simpa using hx) (by simpa using hy)⟩
def Wb{α:Type}{f:α->Bool}{l:List α}:l.any f=true↔∃(i:Nat) (a:α),l[i]?=some a/\f a=true:=by
 rw[yN]
 constructor
 ·rintro⟨x,hx,h⟩;obtain⟨i,hi⟩:=List.mem_iff_getElem?.mp hx;exact⟨i,x,hi,h⟩
 ·rintro⟨i,a,hi,h⟩;exact⟨a,zP hi,h⟩
def jL(ps:List Pair):(yt ps).length=ps.length:=by unfold yt;split<;>simp
def zd8{ps qs:List Pair}(h:ps.length=qs.length):(ko ps qs).length=ps.length:=by unfold ko;rw[jL,wt];lia
def vR{ps:List Pair}(h:¬ ps.any crossedT=true):yt ps=ps:=by unfold yt;rw[if_neg h]
def ki{ps:List Pair}(h:ps.any crossedT=true):yt ps=replicate ps.length emptyP:=by
 unfold yt;rw[if_pos h,<- List.map_const']
def zq1{k:Nat}(h:1<=k):(replicate k emptyP).any crossedT=true:=Wb.mpr ⟨0,emptyP,by rw[xi];simp;lia,w6⟩
def Vn(ps:List Pair):yt (yt ps)=yt ps:=by
 by_cases h:ps.any crossedT=true
 ·rw [ki h]
  by_cases h2:(replicate ps.length emptyP).any crossedT=true
  ·rw[ki h2,xu]
  ·rw[vR h2]
 ·rw[vR h,vR h]
def UW{q:Pair}{x:Int}(h:liesT q.1 q.2 x=true):crossedT q=false:=by
 obtain⟨lo,hi⟩:=q
 rcases lo with _ |l<;>rcases hi with _ |g<;>simp[liesT,crossedT] at h ⊢
 lia
def Zh(p q:Pair)(x:Int):liesT (commonP p q).1 (commonP p q).2 x=(liesT p.1 p.2 x&&liesT q.1 q.2 x):=by
 obtain⟨a,b⟩:=p;obtain⟨c,d⟩:=q
 have h1:∀l g:Int,decide ((if g > l then g else l)<=x)=(decide (l<=x)&&decide (g<=x)):=λl g=>by
  rw[wj];split<;>simp<;>lia
 have h2:∀l g:Int,decide (x<=(if g<l then g else l))=(decide (x<=l)&&decide (x<=g)):=λl g=>by
  rw[wj];split<;>simp<;>lia
 rcases a with _ |a<;>rcases b with _ |b<;>rcases c with _ |c<;>rcases d with _ |d<;>simp only[commonP,liesT,maxO,minO,h1,h2] <;>
  (rw[wj];simp<;>try lia)
def ze6{ps qs:List Pair}{i:Nat}{c:Pair}(h:(List.zipWith commonP ps qs)[i]?=some c):∃p q,ps[i]?=some p/\qs[i]?=some q/\c=commonP p q:=by
 rw[List.getElem?_zipWith] at h
 cases hp:ps[i]? with
 |none=>rw[hp] at h;simp at h
 |some p=>
  cases hq:qs[i]? with
  |none=>rw[hp,hq] at h;simp at h
  |some q=>rw[hp,hq] at h;exact⟨p,q,rfl,rfl,(by simpa using h.symm)⟩
def WZ{ps qs:List Pair}{i:Nat}{p q:Pair}(hp:ps[i]?=some p)(hq:qs[i]?=some q):(List.zipWith commonP ps qs)[i]?=some (commonP p q):=by
 rw[List.getElem?_zipWith,hp,hq]
def XY{α β:Type}{l:List α}{r:List β}(h:l.length=r.length){i:Nat}{a:α}(e:l[i]?=some a):∃b,r[i]?=some b:=by
 have hi:=(zn.mp e).1
 exact⟨r[i],zd w5⟩
def jh{ps:List Pair}{p:List Int}:ZH ps p=true↔∀(i:Nat) (q:Pair) (x:Int),ps[i]?=some q->p[i]?=some x->liesT q.1 q.2 x=true:=zt9
def qJ{ps:List Pair}{p:List Int}(hl:ps.length=p.length)(h:ZH ps p=true):¬ ps.any crossedT=true:=by
 intro hc;obtain⟨i,q,hq,hc⟩:=Wb.mp hc;obtain⟨x,hx⟩:=XY hl hq;have:=UW (jh.mp h i q x hq hx);rw[hc] at this;cases this
def Ju{ps:List Pair}{p:List Int}(hl:ps.length=p.length)(h1:1<=p.length):ZH (yt ps) p=ZH ps p:=by
 by_cases hc:ps.any crossedT=true
 ·have e1 : ZH ps p = false := by
   cases h:ZH ps p with
   |false=>rfl
   |true=>exact(qJ hl h hc).elim
  have e2:ZH (yt ps) p=false:=by
   cases h:ZH (yt ps) p with
   |false=>rfl
   |true=>
    refine(qJ (by rw[jL];exact hl) h ?_).elim
    rw[ki hc]
    exact zq1 w5
  rw[e1,e2]
 ·rw[vR hc]
def Qy{ps qs:List Pair}{p:List Int}(h1:ps.length=p.length)(h2:qs.length=p.length):ZH (List.zipWith commonP ps qs) p=(ZH ps p&&ZH qs p):=by
 rw[wj,zM,jh,jh,jh]
 constructor
 ·intro h;refine⟨λi q x hq hx=>?_,λi q x hq hx=>?_⟩
  ·obtain⟨q2,hq2⟩:=XY (h1.trans h2.symm) hq;have:=h i _ x (WZ hq hq2) hx;rw[Zh,zM] at this;exact this.1
  ·obtain⟨q2,hq2⟩:=XY (h2.trans h1.symm) hq;have:=h i _ x (WZ hq2 hq) hx;rw[Zh,zM] at this;exact this.2
 ·rintro⟨ha,hb⟩ i q x hq hx;obtain⟨q1,q2,e1,e2,rfl⟩:=ze6 hq;rw[Zh,ha i q1 x e1 hx,hb i q2 x e2 hx];rfl
def zd1{ps qs:List Pair}{p:List Int}(h1:ps.length=p.length)(h2:qs.length=p.length)(h:1<=p.length):ZH (ko ps qs) p=(ZH ps p&&ZH qs p):=by
 unfold ko
 rw[Ju (by rw[wt];lia) h,Qy h1 h2]
def Wa{ps qs:List Pair}(hl:ps.length=qs.length)(h1:1<=ps.length):vd ps qs=(List.zipWith commonP ps qs).any crossedT:=by
 unfold vd ko
 by_cases hc:(List.zipWith commonP ps qs).any crossedT=true
 ·rw [ki hc, hc]
  obtain⟨k,hk⟩:∃k,(List.zipWith commonP ps qs).length=k+1:=⟨ps.length-1,by rw[wt];lia⟩
  rw[hk];rfl
 ·rw [vR hc]
  cases hz:List.zipWith commonP ps qs with
  |nil=>rfl
  | cons c r =>
   rw[hz] at hc;show crossedT c=(c::r).any crossedT
   cases h:crossedT c with
   |false=>
    cases h2:(c::r).any crossedT with
    |false=>rfl
    |true=>exact(hc h2).elim
   |true=>exact(hc (by simp[h])).elim
def zt7{ps qs:List Pair}{p:List Int}(h1:ps.length=p.length)(h2:qs.length=p.length)(h:1<=p.length)(ha:ZH ps p=true)(hb:ZH qs p=true):vd ps qs=false:=by
 rw[Wa w5 w5]
 have:ZH (List.zipWith commonP ps qs) p=true:=by rw[Qy h1 h2,ha,hb];rfl
 have:=qJ (by rw[wt];lia) this
 cases hz:(List.zipWith commonP ps qs).any crossedT with
 |false=>rfl
 |true=>exact(this hz).elim
def zf0{bs qs:List Pair}(hl:bs.length=qs.length)(h:∀(i:Nat) b q,bs[i]?=some b->qs[i]?=some q->commonP b q=b)(hc:¬ bs.any crossedT=true):ko bs qs=bs:=by
 have e:List.zipWith commonP bs qs=bs:=by
  apply List.ext_getElem?;intro i;rw[List.getElem?_zipWith]
  cases hb:bs[i]? with
  |none=>simp
  |some b=>
   obtain⟨q,hq⟩:=XY hl hb;rw[hq];simp[h i b q hb hq]
 unfold ko;rw[e,vR hc]
def Wz(q:Pair):crossedT (commonP q emptyP)=true:=by
 obtain⟨a,b⟩:=q
 rcases a with _ |a<;>rcases b with _ |b<;>simp[commonP,maxO,minO,crossedT,emptyP]<;>(try split)<;>(try split)<;>lia
def ze9{ps qs:List Pair}(h:ko ps qs=ps):jG ps qs=true:=by unfold jG;exact xo h
def Vz(b:List WA):yt (wR b)=wR b:=Vn _
def xz3(o:Option Int)(k:Nat):okE (Wx o) k=true:=by cases o<;>simp[okE]
def YN(p:Pair)(k:Nat):okE (xx p) (k+1)=true:=Zc.mpr λd hd=>by
 simp only[zi,zZ,or_false] at hd
 rcases hd with rfl |rfl<;>exact xz3 _ _
def xA8(a b:Option Int):eqD (Wx a) (Wx b)=decide (a=b):=by
 rcases a with _ |a<;>rcases b with _ |b<;>simp[eqD]
 rfl
def QC(p q:Pair):eqD (xx p) (xx q)=decide (p=q):=by
 obtain⟨a,b⟩:=p;obtain⟨c,d⟩:=q;unfold xx;simp only[eqD,Yi,xA8,Bool.and_true];rw[wj];simp
section
variable {P:Program}{w:World}{K:W.Frag}{mg:Str->Option Value}{base:Heap}{f:Addr}{fd:FuncData}
abbrev qS:Stmt:=top 8
abbrev KJ:List Str:=["one","other"]
def Vo:FnScope KJ q0 (xg qS):=⟨rfl,rfl,rfl,x6,rfl,x6,x6⟩
def qP:TF:=λds n Q=>∃a b:Option Int,ds=[Wx a,Wx b]/\Q (Wx (maxO a b)) n
def VG(T:Blt mg)(F:Fun K "greater_of" "greater_of" qS f fd):FnOk P w K mg base CX0 1 f fd q0 (spD K 2 qP):=by
 refine Fun.okD F Vo (λ_ _ _ s H E G Z hr=>(zD (vn (PWD.pt (UE (xW qe qc (zh 0) ve (wG _)) (Xg (xW qe qc (zh 1) ve (wG _))))) (zR (xE (Wh (xW qe qc (zh 0) ve (wG _)) (zh 1) (zh 0)))) wP)
  (zR (xE (wc (Kt rfl) zr9 T.max WY (zc (zh 0) (zc (zh 1) zj))))))) ?_
 rintro ds n Q hl ⟨a,b,rfl,q⟩
 rcases a with _ |a<;>rcases b with _ |b<;>simp[startD]<;>exact q
abbrev jP:Stmt:=top 9
abbrev JL:List Str:=["one","other"]
def Uy:FnScope JL q0 (xg jP):=⟨rfl,rfl,rfl,x6,rfl,x6,x6⟩
def jJ:TF:=λds n Q=>∃a b:Option Int,ds=[Wx a,Wx b]/\Q (Wx (minO a b)) n
def UK(T:Blt mg)(F:Fun K "lesser_of" "lesser_of" jP f fd):FnOk P w K mg base CX0 1 f fd q0 (spD K 2 jJ):=by
 refine Fun.okD F Uy (λ_ _ _ s H E G Z hr=>(zD (vn (PWD.pt (UE (xW qe qc (zh 0) ve (wG _)) (Xg (xW qe qc (zh 1) ve (wG _))))) (zR (xE (Wh (xW qe qc (zh 0) ve (wG _)) (zh 1) (zh 0)))) wP)
  (zR (xE (wc (Kq rfl) zr6 T.min Kw (zc (zh 0) (zc (zh 1) zj))))))) ?_
 rintro ds n Q hl ⟨a,b,rfl,q⟩
 rcases a with _ |a<;>rcases b with _ |b<;>simp[startD]<;>exact q
abbrev qx:Stmt:=top 10
abbrev Ue:List Str:=["one","other"]
def Wd:FnScope Ue q0 (xg qx):=⟨rfl,rfl,rfl,x6,rfl,x6,x6⟩
def qu:TF:=λds n Q=>∃p q:Pair,ds=[xx p,xx q]/\Q (xx (commonP p q)) n
def Wj(F:Fun K "common_pair" "common_pair" qx f fd)(F_greater_of:Fn P w K mg base "greater_of" 1 2 qP)(F_lesser_of:Fn P w K mg base "lesser_of" 1 2 jJ):FnOk P w K mg base CX0 2 f fd q0 (spD K 2 qu):=by
 refine Fun.okD F Wd (λ_ _ _ s H E G Z hr=>(zR (xE (yV (zc (wO F_greater_of (hr.mono w6) rfl (zc (wq xt wo (zh 0) zu (λ_ _=>rfl)) (zc (wq xt wo (zh 1) zu (λ_ _=>rfl)) zj))) (zc (wO F_lesser_of (hr.mono w6) rfl (zc (wq xt wo (zh 0) zu (λ_ _=>rfl)) (zc (wq xt wo (zh 1) zu (λ_ _=>rfl)) zj))) zj)))))) ?_
 rintro ds n Q hl ⟨p,p',rfl,q⟩;simp[startD,xx];refine⟨p.1,p'.1,rfl,?_⟩;simp;refine⟨p.2,p'.2,rfl,?_⟩;simp;exact q
def zF1(b:List Pair)(p:List Pair):Uj (b.map xx) (p.map xx)=(b.zip p).map λx=>.tup [xx x.1,xx x.2]:=by
 unfold Uj;rw[List.zipWith_map,yJ];rfl
abbrev Vt:Stmt:=top 11
abbrev Uf:List Str:=["one","other"]
def zh2:FnScope Uf q0 (xg Vt):=⟨rfl,rfl,rfl,x6,rfl,x6,x6⟩
def Xw:("mine" :: "yours" :: Uf:List Str).Nodup:=x6
def Vk:TF:=λds n Q=>∃ps qs:List Pair,ds=[xf ps,xf qs]/\ps.length<=1000/\Q (xf (ko ps qs)) n
def zl3(T:Blt mg)(F:Fun K "common" "common" Vt f fd)(F_settled:Fn P w K mg base "settled" 2 1 Zo)(F_common_pair:Fn P w K mg base "common_pair" 2 2 qu):FnOk P w K mg base CX0 3 f fd q0 (spD K 2 Vk):=by
 refine Fun.okD F zh2 (λ_ _ _ s H E G Z hr=>(zR (xE (wO F_settled (hr.mono w6) rfl (zc (vA (own:=["mine","yours"]) (M:=Uf) (vH (by rfl)) rfl (VA rfl T.zip (zc (zh 0) (zc (zh 1) zj))) (λ_ _ _ _=>(vp (k:=2) rfl rfl (xl (zV (i:=0) Xw rfl (lo rfl) w6) (xl (zV (i:=1) Xw rfl (lo rfl) w6) yR)))) (λ_ _ _ _=>yQ) (λ_ _ _ _=>(wO F_common_pair (hr.mono w6) rfl (zc (zh 0) (zc (zh 1) zj))))) zj))))) ?_
 rintro ds n Q hl ⟨ps,qs,rfl,hz,q⟩;have n1:xT (xf ps)=true:=rfl;have n2:xT (xf qs)=true:=rfl;simp[startD,n1,n2];refine(jD (d1:=xf ps) (d2:=xf qs) rfl rfl).mpr ?_;rw[zF1]
 refine yd (λx=>.tup [xx x.1,xx x.2]) (λx:Pair × Pair=>xx (commonP x.1 x.2)) (ps.zip qs) (zB (by rw[length_zip];lia) (wX (k:=1000) w5)) (λx hx R hR=>?_) ?_
 ·have n3:xT (xx x.1)=true:=rfl;have n4:xT (xx x.2)=true:=rfl;simp[n3,n4];exact⟨x.1,x.2,rfl,hR⟩
 ·refine ⟨List.zipWith commonP ps qs, _, rfl, .inl ?_, by rw [wt]; lia, q⟩
  have e:List.zipWith commonP ps qs=(ps.zip qs).map λx=>commonP x.1 x.2:=by rw[yJ];rfl
  rw[e,zE];rfl
abbrev jO:Stmt:=top 12
abbrev JK:List Str:=["one","other"]
def Ux:FnScope JK q0 (xg jO):=⟨rfl,rfl,rfl,x6,rfl,x6,x6⟩
def jI:TF:=λds n Q=>∃ps qs:List Pair,ds=[xf ps,xf qs]/\1<=ps.length/\ps.length=qs.length/\ps.length<=1000/\Q (.bl (vd ps qs)) n
def UJ(F:Fun K "lie_apart" "lie_apart" jO f fd)(F_is_crossed:Fn P w K mg base "is_crossed" 1 1 qa)(F_common:Fn P w K mg base "common" 3 2 Vk):FnOk P w K mg base CX0 4 f fd q0 (spD K 2 jI):=by
 refine Fun.okD F Ux (λ_ _ _ s H E G Z hr=>(zR (xE (wO F_is_crossed (hr.mono w6) rfl (zc (wq xt wo (wO F_common (hr.mono w6) rfl (zc (zh 0) (zc (zh 1) zj))) zu (λ_ _=>rfl)) zj))))) ?_
 rintro ds n Q hl ⟨ps,qs,rfl,h1,h2,hz,q⟩;have n1:xT (xf ps)=true:=rfl;have n2:xT (xf qs)=true:=rfl;simp[startD,n1,n2];refine⟨ps,qs,rfl,hz,?_⟩;have hl2:=zd8 h2;unfold vd at q
 cases hc:ko ps qs with
 |nil=>rw[hc] at hl2;simp at hl2;lia
 |cons c r=>
  rw[hc] at q;simp[xf];exact⟨c,rfl,q⟩
def Uk(qs:List (List Int))(i:Nat):List Int:=qs.map λq=>q[i]?.getD 0
def zw4(m:Nat):Je 0 m=(List.range m).map λi=>.int (i:Int):=by unfold Je;simp
theorem qr:∀{ns:List Int},0<ns.length->∃M,M∈ns/\∀a∈ns,M<=a
 |[x],_=>⟨x,by simp,by simp⟩
 |x::y::r,_=>by
  obtain⟨M,h1,h2⟩:=qr (ns:=y::r) (by simp)
  by_cases h:x<=M
  ·exact⟨x,by simp,λa ha=>by rcases zi.mp ha with rfl |ha;exact yr _;have:=h2 a ha;lia⟩
  ·exact⟨M,zm _ h1,λa ha=>by rcases zi.mp ha with rfl |ha;lia;exact h2 a ha⟩
theorem vW:∀{ns:List Int},0<ns.length->∃M,M∈ns/\∀a∈ns,a<=M
 |[x],_=>⟨x,by simp,by simp⟩
 |x::y::r,_=>by
  obtain⟨M,h1,h2⟩:=vW (ns:=y::r) (by simp)
  by_cases h:M<=x
  ·exact⟨x,by simp,λa ha=>by rcases zi.mp ha with rfl |ha;exact yr _;have:=h2 a ha;lia⟩
  ·exact⟨M,zm _ h1,λa ha=>by rcases zi.mp ha with rfl |ha;lia;exact h2 a ha⟩
open Classical in
noncomputable def ze3(ns:List Int):Int:=if h:∃M,M∈ns/\∀a∈ns,M<=a then choose h else 0
open Classical in
noncomputable def Wq(ns:List Int):Int:=if h:∃M,M∈ns/\∀a∈ns,a<=M then choose h else 0
def jd{ns:List Int}(h:∃M,M∈ns/\∀a∈ns,M<=a):ze3 ns∈ns/\∀a∈ns,ze3 ns<=a:=by unfold ze3;rw[dif_pos h];exact Classical.choose_spec h
def kr{ns:List Int}(h:∃M,M∈ns/\∀a∈ns,a<=M):Wq ns∈ns/\∀a∈ns,a<=Wq ns:=by unfold Wq;rw[dif_pos h];exact Classical.choose_spec h
def VJ{ns:List Int}{M:Int}(h1:M∈ns)(h2:∀a∈ns,M<=a):M=ze3 ns:=by
 obtain⟨h3,h4⟩:=jd ⟨M,h1,h2⟩;have:=h2 _ h3;have:=h4 _ h1;lia
def VM{ns:List Int}{M:Int}(h1:M∈ns)(h2:∀a∈ns,a<=M):M=Wq ns:=by
 obtain⟨h3,h4⟩:=kr ⟨M,h1,h2⟩;have:=h2 _ h3;have:=h4 _ h1;lia
def WO{ns:List Int}{k:D->Prop}(h:0<ns.length)(q:k (.int (ze3 ns))):xf2 [.lst (ns.map D.int)] k:=⟨ns,rfl,h,λM h1 h2=>by rw[VJ h1 h2];exact q⟩
def WP{ns:List Int}{k:D->Prop}(h:0<ns.length)(q:k (.int (Wq ns))):xf5 [.lst (ns.map D.int)] k:=⟨ns,rfl,h,λM h1 h2=>by rw[VM h1 h2];exact q⟩
end
def zE1(xs:List D)(b:Nat)(hb:b<=xs.length):QG xs (some (b:Int)) none=xs.drop b:=by
 unfold QG
 rw[HT.zh7,HT.JZ,Nat.min_eq_left hb,yU (by rw[List.length_drop];lia)]
def xi1(xs:List D)(e:Nat)(he:e<=xs.length):QG xs none (some (e:Int))=xs.take e:=by
 unfold QG;rw[HT.zh7,HT.JZ,Nat.min_eq_left he,List.drop_zero,Nat.sub_zero]
def Qm{α β:Type}{f:α->β}:∀{l:List β}{ts:List α},l.Perm (ts.map f)->∃rs:List α,rs.Perm ts/\l=rs.map f:=by
 intro l ts h;generalize hm:ts.map f=m at h
 induction h generalizing ts with
 |nil=>
  cases ts with
  |nil=>exact⟨[],.nil,rfl⟩
  |cons _ _=>simp at hm
 | cons x p ih =>
  cases ts with
  |nil=>simp at hm
  |cons a ts=>
   obtain⟨e1,e2⟩:=List.cons.inj hm;obtain⟨rs,h1,rfl⟩:=ih e2
   exact⟨a::rs,h1.cons a,by rw[<- e1];rfl⟩
 | swap x y l =>
  cases ts with
  |nil=>simp at hm
  | cons a ts =>
   cases ts with
   |nil=>simp at hm
   |cons b ts=>
    obtain⟨e1,e2⟩:=List.cons.inj hm;obtain⟨e3,e4⟩:=List.cons.inj e2
    exact⟨b::a::ts,.swap a b ts,by rw[<- e1,<- e3,<- e4];rfl⟩
 |trans p q ih1 ih2=>
  obtain⟨r2,h2,rfl⟩:=ih2 hm;obtain⟨r1,h1,rfl⟩:=ih1 rfl;exact⟨r1,h1.trans h2,rfl⟩
structure GoodU(d:Nat)(ts:List Thing):Prop where
 each:∀t∈ts,t.2.1.length=d
 nd:(ts.map λt=>t.1).Nodup
def GoodT.u{d:Nat}{ts:List Thing}{x:Int}(h:GoodT d ts x):GoodU d ts:=⟨λt ht=>(h.each t ht).2.2.1,h.nodup⟩
def GoodU.perm{d:Nat}{ts rs:List Thing}(h:GoodU d ts)(p:rs.Perm ts):GoodU d rs:=⟨λt ht=>h.each t (p.mem_iff.mp ht),(p.map _).nodup_iff.mpr h.nd⟩
def GoodU.sub{d:Nat}{ts rs:List Thing}(h:GoodU d ts)(p:rs.Sublist ts):GoodU d rs:=⟨λt ht=>h.each t (p.mem ht),(p.map _).nodup h.nd⟩
def kO(t:Thing):Key:=Sum.inl t.1
def byN(ts:List Thing):D:=.dct (ts.map kO) (ts.map xD)
@[simp] theorem xH6(ts:List Thing):xT (byN ts)=true:=id rfl
theorem Yg:∀{ts:List Thing}{x:Int},x ∉ ts.map (λt=>t.1)->zC9 (ts.map kO) (Sum.inl x)=false
 |[],x,_=>rfl
 |t::ts,x,h=>by
  have h1:¬ t.1=x:=λe=>h (by simp[e])
  have ih:=Yg (ts:=ts) (x:=x) λz=>h (zm _ z);show(decide (kO t=Sum.inl x)||zC9 (ts.map kO) (Sum.inl x))=false;rw[ih,Bool.or_false];exact zN λe=>h1 (Sum.inl.inj e)
theorem ZG:∀{ts:List Thing}{t:Thing},t∈ts->(ts.map λt=>t.1).Nodup->atK (ts.map kO) (ts.map xD) (Sum.inl t.1)=some (xD t)
 |[],t,h,_=>by simp at h
 | s :: ts, t, h, hn => by
  have hn':=xz.mp hn
  show(if kO s=Sum.inl t.1 then some (xD s) else atK (ts.map kO) (ts.map xD) (Sum.inl t.1))=_
  rcases zi.mp h with rfl |h
  ·exact if_pos rfl
  ·have : ¬ kO s = Sum.inl t.1 := λe => by
    have e':s.1=t.1:=Sum.inl.inj e;exact hn'.1 (zk.mpr ⟨t,h,e'.symm⟩)
   rw[if_neg this];exact ZG h hn'.2
def xe0(ts:List Thing):D:=.tup (ts.map λt=>.int t.1)
@[simp] theorem xd8(ts:List Thing):xT (xe0 ts)=true:=id rfl
@[simp] theorem xd7(ps:List Pair):xT (xf ps)=true:=id rfl
@[simp] theorem xd6(p:List Int):xT (wY p)=true:=id rfl
@[simp] theorem xd5(t:Thing):xT (xD t)=true:=id rfl
noncomputable def Zn(d:Nat)(qs:List (List Int)):List Pair:=(List.range d).map λi=>(some (ze3 (Uk qs i)),some (Wq (Uk qs i)))
inductive Tr where
 |one (name:Int) (bd:List Pair)
 |two (ns:List Int) (bd:List Pair) (low high:Tr)
def vC:Tr->D
 |.one x bd=>.tup [.tup [.int x],xf bd,.non,.non]
 |.two ns bd l h=>.tup [.tup (ns.map D.int),xf bd,vC l,vC h]
def vt(t:Tr):xT (vC t)=true:=by cases t<;>rfl
section
variable {P:Program}{w:World}{K:W.Frag}{mg:Str->Option Value}{base:Heap}{f:Addr}{fd:FuncData}
abbrev ky:Stmt:=top 14
abbrev kE:List Str:=["house"]
def ZL:FnScope kE ["house"] (xg ky):=⟨rfl,rfl,rfl,x6,rfl,x6,x6⟩
def Zf:("thing" :: kE:List Str).Nodup:=x6
def zK2:TF:=λds n Q=>∃(dd:D) (ts:List Thing),ds=[.tup [dd,.tup (ts.map xD)]]/\(ts.map λt=>t.1).Nodup/\ts.length<=1000/\Q (byN ts) n
def xc9(T:Blt mg)(F:Fun K "things_by_name" "things_by_name" ky f fd):FnOk P w K mg base CX0 1 f fd ["house"] (spD K 1 zK2):=by
 refine Fun.okD F ZL (λ_ _ _ s H E G Z hr=>(zR (xE (zz4 (own:=["thing"]) (M:=kE) (vH (by rfl)) rfl (vo rfl (wq xt wo (zh 0) zu (λ_ _=>rfl))) (λ_ _ _ _=>(zV (i:=0) Zf rfl (lo rfl) w6)) (λ_ _ _ _=>yQ) (λ_ _ _ _=>(wq xt wo (zh 0) zu (λ_ _=>rfl))) (λ_ _ _ _=>(zh 0)))))) ?_
 rintro ds n Q hl ⟨dd,ts,rfl,hn,hz,q⟩;have e1:atI [dd,D.tup (ts.map xD)] 1=some (D.tup (ts.map xD)):=rfl;simp[startD,e1]
 refine⟨by rw[zg];exact wX hz,λi ks es n'=>n'=n/\ks=(ts.take i).map kO/\es=(ts.take i).map xD,⟨rfl,rfl,rfl⟩,?_,?_⟩
 ·rintro i d ks es n' e ⟨rfl, rfl, rfl⟩;rw[zt] at e
  cases et:ts[i]? with
  |none=>rw[et] at e;cases e
  | some t =>
   rw[et] at e;cases e;have nt:xT (xD t)=true:=rfl;simp[nt];have e2:∀R:D->Prop,R (.int t.1)->Wf (xD t) (.int 0) R:=λR h=>⟨_,_,_,.inr (.inl rfl),rfl,rfl,h⟩;refine e2 _ ?_;refine⟨_,rfl,?_,?_⟩
   ·have hk : zC9 ((ts.take i).map kO) (Sum.inl t.1) = false := Yg λhm => by
     have h3:(ts.take i++[t]).Sublist ts:=by
      have:ts.take i++[t]=ts.take (i+1):=by rw[xC,et];rfl
      rw[this];exact va ..
     have h4:=(h3.map λt=>t.1).nodup hn;rw[zS,wu] at h4
     exact h4.2.2 _ hm _ (by simp) rfl
    unfold Vw;rw[map_take] at hk
    rw[if_neg (by rw[hk];simp),xC,zt,et];rfl
   ·have hk : zC9 ((ts.take i).map kO) (Sum.inl t.1) = false := Yg λhm => by
     have h3:(ts.take i++[t]).Sublist ts:=by
      have:ts.take i++[t]=ts.take (i+1):=by rw[xC,et];rfl
      rw[this];exact va ..
     have h4:=(h3.map λt=>t.1).nodup hn;rw[zS,wu] at h4
     exact h4.2.2 _ hm _ (by simp) rfl
    unfold zi6;rw[map_take] at hk
    rw[if_neg (by rw[hk];simp),xC,zt,et];rfl
 ·rintro ks es n' ⟨rfl,rfl,rfl⟩;rw[zg,wF];exact q
end
inductive TreeOf(d:Nat):List Thing->Tr->Prop where
  |one {t:Thing}:t.2.1.length=d->TreeOf d [t] (.one t.1 (Zn d [t.2.1]))
  |two {ts ls hs:List Thing}{ns:List Int}{low high:Tr}:(ls++hs).Perm ts->ns.Perm (ts.map λt=>t.1)->ns.Pairwise (·<=·)->TreeOf d ls low->TreeOf d hs high->TreeOf d ts (.two ns (Zn d (ts.map λt=>t.2.1)) low high)
def TreeOf.ne{d:Nat}{ts:List Thing}{tr:Tr}(h:TreeOf d ts tr):1<=ts.length:=by
 induction h with
 |one=>simp
 |two p _ _ _ _ h1 h2=>have:=p.length_eq;rw[zI] at this;lia
def TreeOf.lens{d:Nat}{ts:List Thing}{tr:Tr}(h:TreeOf d ts tr):∀t∈ts,t.2.1.length=d:=by
 induction h with
 |one h=>intro t ht;rw[zG.mp ht];exact h
 |two p _ _ _ _ h1 h2=>
  intro t ht
  rcases zW.mp (p.mem_iff.mpr ht) with h |h
  ·exact h1 t h
  ·exact h2 t h
def YG:Tr->List Pair
 |.one _ bd=>bd
 |.two _ bd _ _=>bd
def yg:Tr->List Int
 |.one x _=>[x]
 |.two ns _ _ _=>ns
def TreeOf.bd{d:Nat}{ts:List Thing}{tr:Tr}(h:TreeOf d ts tr):YG tr=Zn d (ts.map λt=>t.2.1):=by cases h<;>rfl
def QK(ts:List Thing)(i:Nat):List Int:=Uk (ts.map λt=>t.2.1) i
def XU(ts:List Thing)(i:Nat):QK ts i=ts.map λt=>t.2.1[i]?.getD 0:=by unfold QK Uk;rw[zE];rfl
noncomputable def loN(ts:List Thing)(i:Nat):Int:=ze3 (QK ts i)
noncomputable def hiN(ts:List Thing)(i:Nat):Int:=Wq (QK ts i)
def zJ8{d i:Nat}(ts:List Thing)(hi:i<d):(Zn d (ts.map λt=>t.2.1))[i]?=some (some (loN ts i),some (hiN ts i)):=by
 unfold Zn;rw[zt,yK hi];rfl
def kW(d:Nat)(qs:List (List Int)):(Zn d qs).length=d:=by unfold Zn;rw[zg,length_range]
def YS{ts:List Thing}{i:Nat}(h:1<=ts.length):0<(QK ts i).length:=by rw[XU,zg];exact h
def zn0{ts:List Thing}{i:Nat}(h:1<=ts.length){x:Int}(hx:x∈QK ts i):loN ts i<=x:=(jd (qr (YS h))).2 x hx
def zH4{ts:List Thing}{i:Nat}(h:1<=ts.length){x:Int}(hx:x∈QK ts i):x<=hiN ts i:=(kr (vW (YS h))).2 x hx
def Jr{ts:List Thing}{i:Nat}(h:1<=ts.length):loN ts i∈QK ts i:=(jd (qr (YS h))).1
def VW{ts:List Thing}{i:Nat}(h:1<=ts.length):hiN ts i∈QK ts i:=(kr (vW (YS h))).1
def zQ6{ts:List Thing}{i:Nat}(h:1<=ts.length):loN ts i<=hiN ts i:=zn0 h (VW h)
def QJ{ls ts:List Thing}{i:Nat}(h:∀t∈ls,t∈ts){x:Int}(hx:x∈QK ls i):x∈QK ts i:=by
 rw[XU] at hx ⊢;obtain⟨t,ht,e⟩:=zk.mp hx;exact zk.mpr ⟨t,h t ht,e⟩
def zQ5{ls ts:List Thing}{i:Nat}(h:∀t∈ls,t∈ts)(h1:1<=ls.length)(h2:1<=ts.length):loN ts i<=loN ls i/\hiN ls i<=hiN ts i:=
 ⟨zn0 h2 (QJ h (Jr h1)),zH4 h2 (QJ h (VW h1))⟩
def xz4(bd pl:List Pair):Str:=if vd bd pl=true then "out" else if jG bd pl=true then "in" else "cut"
def qp:Tr->Nat
 |.one _ _=>1
 |.two _ _ low high=>1+qp low+qp high
def ZE:Tr->Nat
 |.one _ _=>0
 |.two _ _ low high=>1+max (ZE low) (ZE high)
def TreeOf.size{d:Nat}{ts:List Thing}{tr:Tr}(h:TreeOf d ts tr):qp tr+1=2*ts.length:=by
 induction h with
 |one=>rfl
 |two p _ _ _ _ h1 h2=>have:=p.length_eq;rw[zI] at this;unfold qp;lia
def zO6{d:Nat}(hd:1<=d){p:List Int}(hp:p.length=d){pl:List Pair}(hl:pl.length=d):xz4 (Zn d [p]) pl ≠ "cut" := by
 unfold xz4
 by_cases ha:vd (Zn d [p]) pl=true
 ·rw[if_pos ha];decide
 ·rw [if_neg ha]
  have hw:jG (Zn d [p]) pl=true:=by
   rw[Wa (by rw[kW,hl]) (by rw[kW];exact hd)] at ha
   have pt:∀(i:Nat) (b:Pair),(Zn d [p])[i]?=some b->∃x:Int,b=(some x,some x):=λi b hb=>by
    unfold Zn at hb;rw[zt] at hb
    by_cases hi:i<d
    ·rw [yK hi] at hb;have e1:Uk [p] i=[p[i]?.getD 0]:=rfl
     have m1:ze3 (Uk [p] i)=p[i]?.getD 0:=(VJ (ns:=Uk [p] i) (by rw[e1];simp) (by rw[e1];simp)).symm
     have m2:Wq (Uk [p] i)=p[i]?.getD 0:=(VM (ns:=Uk [p] i) (by rw[e1];simp) (by rw[e1];simp)).symm
     refine⟨p[i]?.getD 0,?_⟩;rw[<- zF hb];show(some (ze3 (Uk [p] i)),some (Wq (Uk [p] i)))=_;rw[m1,m2]
    ·rw[List.getElem?_eq_none (by simp;lia)] at hb;cases hb
   refine ze9 (zf0 (by rw[kW,hl]) (λi b q hb hq=>?_) λhc=>?_)
   ·obtain ⟨x, rfl⟩ := pt i b hb
    have hnc:crossedT (commonP (some x,some x) q)=false:=by
     cases hcr:crossedT (commonP (some x,some x) q) with
     |false=>rfl
     |true=>exact absurd (Wb.mpr ⟨i,_,WZ hb hq,hcr⟩) ha
    obtain⟨a,b⟩:=q
    cases a with
    | none => cases b with
     |none=>rfl
     |some g=>
      simp[commonP,maxO,minO,crossedT] at hnc ⊢
      by_cases hg:g<x
      ·rw[if_pos hg] at hnc;lia
      ·exact λh=>absurd h hg
    | some l => cases b with
     |none=>
      simp[commonP,maxO,minO,crossedT] at hnc ⊢
      by_cases hg:x<l
      ·rw[if_pos hg] at hnc;lia
      ·exact λh=>absurd h hg
     | some g =>
      simp[commonP,maxO,minO,crossedT] at hnc ⊢
      constructor
      ·by_cases hg : x < l
       ·rw [if_pos hg] at hnc
        by_cases hg2:g<x
        ·rw[if_pos hg2] at hnc;lia
        ·rw[if_neg hg2] at hnc;lia
       ·exact λh=>absurd h hg
      ·by_cases hg2 : g < x
       ·rw [if_pos hg2] at hnc
        by_cases hg:x<l
        ·rw[if_pos hg] at hnc;lia
        ·rw[if_neg hg] at hnc;lia
       ·exact λh=>absurd h hg2
   ·obtain⟨i,b,hb,hcr⟩:=Wb.mp hc;obtain⟨x,rfl⟩:=pt i b hb;simp[crossedT] at hcr
  rw[if_pos hw];decide
def ZD(t:Tr):∃a b,vC t=.tup [.tup ((yg t).map D.int),xf (YG t),a,b]/\xT a=true/\xT b=true:=by
 cases t with
 |one x bd=>exact⟨_,_,rfl,rfl,rfl⟩
 |two ns bd l h=>exact⟨_,_,rfl,vt l,vt h⟩
def ZU(b:List WA):(wR b).length=b.length:=by unfold wR;rw[jL,zg]
section
variable {P:Program}{w:World}{K:W.Frag}{mg:Str->Option Value}{base:Heap}{f:Addr}{fd:FuncData}
end
def xH7(i:Nat)(t:Thing):SRow:=⟨.n (t.2.1[i]?.getD 0),t.1,[]⟩
structure JBd(d:Nat)(ts:List Thing)(i:Nat)(rho:Rho)(n:Nat)(n0:Nat):Prop where
 e:n=n0
 r:∃(u v:Option D),rho=[some (.lst (ts.map xD)),some (.lst (ts.map λt=>wY t.2.1)),some (.own (((Zn d (ts.map λt=>t.2.1)).map xx).take i)),u,v]
section
variable {P:Program}{w:World}{K:W.Frag}{mg:Str->Option Value}{base:Heap}{f:Addr}{fd:FuncData}
abbrev qC:Stmt:=top 28
abbrev ke:List Str:=["_law_things","_law_places","_law_edges","_law_i","_law_numbers"]
def vQ:FnScope ke ["_law_things"] (xg qC):=⟨rfl,rfl,rfl,x6,rfl,x6,x6⟩
def YB:("_law_thing" :: ke:List Str).Nodup:=x6
def YA:("_law_place" :: ke:List Str).Nodup:=x6
def zK3:TF:=λds n Q=>∃(d:Nat) (ts:List Thing),ds=[.lst (ts.map xD)]/\d<=4/\(∀t∈ts,t.2.1.length=d)/\1<=ts.length/\ts.length<=60/\Q (xf (Zn d (ts.map λt=>t.2.1))) n
def xd0(T:Blt mg)(F:Fun K "_law_bounds" "_law_bounds" qC f fd):FnOk P w K mg base CX0 1 f fd ["_law_things"] (spD K 1 zK3):=by
 refine Fun.okD F vQ (λ_ _ _ s H E G Z hr=>(zD (jY (i:=1) vQ.nd rfl (lo rfl) (own:=["_law_thing"]) (M:=ke) (vH (by rfl)) rfl (vo rfl (zh 0)) (λ_ _ _ _=>(zV (i:=0) YB rfl (lo rfl) w6)) (λ_ _ _ _=>yQ) (λ_ _ _ _=>(wq xt wo (zh 0) zu (λ_ _=>rfl))))
  (zD (Xi (i:=2) vQ.nd rfl (lo rfl) zj)
  (zD (qh (m:=5) PassesOwn.never rfl (qF T.range (zc (wc wD kI T.len kh (zc (wq xt wo (zh 1) zu (λ_ _=>rfl)) zj)) zj)) (zV (i:=3) vQ.nd rfl (lo rfl) w6)
  (zD (jY (i:=4) vQ.nd rfl (lo rfl) (own:=["_law_place"]) (M:=ke) (vH (by rfl)) rfl (vo rfl (zh 1)) (λ_ _ _ _=>(zV (i:=0) YA rfl (lo rfl) w6)) (λ_ _ _ _=>yQ) (λ_ _ _ _=>(wq xt wo (zh 0) (zh 4) (λ_ _=>rfl))))
  (zR (kK (i:=2) (zc (yV (zc (wc (Kr rfl) zr7 T.min Kw (zc (zh 4) zj)) (zc (wc (Ku rfl) zs0 T.max WY (zc (zh 4) zj)) zj))) zj) rfl))))
  (zR (ZT 2 (xE (vf yv ka T.tuple kc (zc (zh 2) zj))))))))) ?_
 rintro ds n Q hl ⟨d,ts,rfl,hd,hlen,h1,h60,q⟩;generalize hR:Vu (xp6 2 _) _=Rr;simp[startD]
 refine yd xD (λt=>wY t.2.1) ts (wX w5) (λt ht R hR=>?_) ?_
 ·simp;exact⟨_,1,_,.inr (.inl rfl),rfl,rfl,hR⟩
 ·subst hR;simp
  obtain⟨t0,r0,e0⟩:∃t0 r0,ts=t0::r0:=by cases ts with |nil=>simp at h1 |cons a b=>exact⟨a,b,rfl⟩
  have m0:t0∈ts:=by rw[e0];simp
  have hk:∀k:D->Prop,k (.int d)->zI0 [wY t0.2.1] k:=λk h=>by unfold wY;rw[Jg,zg,hlen t0 m0];exact h
  refine⟨wY t0.2.1,kX (j:=0) (by rw[e0];rfl),hk _ ⟨d,rfl,w5,w5,?_⟩⟩
  refine⟨λi rho n'=>JBd d ts i rho n' n,⟨rfl,none,none,rfl⟩,?_,?_⟩
  ·rintro i d' rho n' e ⟨rfl, u, v, rfl⟩;obtain⟨hi,rfl⟩:=Xc e
   replace hi:i<d:=by simpa using hi
   have ec:(ts.map λt=>D.int (t.2.1[i]?.getD 0))=(Uk (ts.map λt=>t.2.1) i).map D.int:=by unfold Uk;rw[zE,zE];rfl
   have hc:0<(Uk (ts.map λt=>t.2.1) i).length:=by unfold Uk;rw[zg,zg];exact h1
   have hb:(Zn d (ts.map λt=>t.2.1))[i]?=some (some (ze3 (Uk (ts.map λt=>t.2.1) i)),some (Wq (Uk (ts.map λt=>t.2.1) i))):=by unfold Zn;rw[zt,yK hi];rfl
   generalize hS:Jd 2 _=S;simp
   refine yd (λt:Thing=>wY t.2.1) (λt=>.int (t.2.1[i]?.getD 0)) ts (wX w5) (λt ht R hR=>?_) ?_
   ·simp;unfold wY;rw[zi4];refine⟨.int (t.2.1[i]?.getD 0),kX ?_,hR⟩
    rw[zt,zd (by rw[hlen t ht];exact hi)]
    rfl
   ·rw [ec];subst hS;simp
    refine⟨lt_size (by rw[kW];lia),WO hc (WP hc ⟨rfl,some (.int i),some (.lst ((Uk (ts.map λt=>t.2.1) i).map D.int)),?_⟩)⟩
    rw[xC,zt,hb];rfl
  ·rintro rho n' ⟨rfl, u, v, rfl⟩;rw[qZ];simp
   rw[yU (by rw[zg,kW];exact zo _)]
   exact q
abbrev vT:Stmt:=top 29
abbrev jp:List Str:=["_law_left_here","_law_d","_law_things","_law_turn","_law_names","_law_i","_law_row","_law_cut","_law_low"]
def vz:FnScope jp q3 (xg vT):=⟨rfl,rfl,rfl,x6,rfl,x6,x6⟩
def Xy:("_law_thing" :: jp:List Str).Nodup:=x6
def YY:Nat->TF
 |0=>λ_ _ _=>False
 |j+1=>λds n Q=>∃(d:Nat) (ts:List Thing) (k:Int),ds=[.st,.int d,.lst (ts.map xD),.int k]/\n=3/\1<=d/\d<=4/\GoodU d ts/\1<=ts.length/\ts.length<=60/\ts.length<=j+1/\∀tr:Tr,TreeOf d ts tr->Q (vC tr) n
def zA4{f c Pt:Addr}{fd:FuncData}(T:Blt mg)(F:Fun K "_law_grown" "_law_grown" vT f fd)(hns:W.nsIn K mainGlobals "_law_grown" = some (some (.ref f)))(htb:W.tabIn K "_law_grown" = some (c,Pt))(LB:LamBase base mg c Pt)(hm:mg "_law_grown" = some (.ref f))(hk:W.keepIn K (.ref f)=true)(hb:Binds K fd ["_law_left_here","_law_d","_law_things","_law_turn"] [])(Y_pick:Fn P w K mg base "_law_pick" 1 2 Yq)(Y_bounds:Fn P w K mg base "_law_bounds" 1 1 zK3):∀j:Nat,FnOk P w K mg base CX0 (j+4) f fd q3 (spD K 4 (YY j)):=by
  intro j
  induction j with
  |zero=>exact FnOk.botK λds n Q h=>h
  | succ j ih =>
    have Y_grown:Fn P w K mg base "_law_grown" (j+4) 4 (YY j):=⟨f,fd,_,ih,hm,hk,hb⟩
    have TI:kZ K Pt (("_law_grown" ++ ".<locals>.") ++ "<lambda>"):=⟨"_law_grown",by simp[qi],c,htb,rfl⟩
    refine Fun.okL F hns htb vz (λA0 outer s H E G Z hr=>(zD (yf (i:=4) vz.nd rfl (lo rfl) (vf yv ka T.tuple kc (zc (wc JC zr5 T.sorted ZF (zc (vA (own:=["_law_thing"]) (M:=jp) (vH (by rfl)) rfl (vo rfl (zh 2)) (λ_ _ _ _=>(zV (i:=0) Xy rfl (lo rfl) w6)) (λ_ _ _ _=>yQ) (λ_ _ _ _=>(wq xt wo (zh 0) zu (λ_ _=>rfl)))) zj)) zj)))
    (zD (vn (xW VE Vv (wc wD kI T.len kh (zc (zh 2) zj)) zu (wG _)) (zR (xE (yV (zc (zh 4) (zc (wO Y_bounds (hr.mono w5) rfl (zc (zh 2) zj)) (zc ve (zc ve zj))))))) wP)
    (zD (yf (i:=5) vz.nd rfl (lo rfl) (wq xt wo (vM (zc (jE (zh 3) (zh 1)) (zc (wO Y_pick (hr.mono w5) rfl (zc (zh 0) (zc (zh 1) zj))) zj))) (wO Y_pick (hr.mono w5) rfl (zc (zh 0) (zc zu zj))) (λ_ _=>rfl)))
    (zD (yf (i:=6) vz.nd rfl (lo rfl) (zb1 (N:=["_law_thing","_law_i"]) (p := "_law_thing") (clos:=[("_law_i",s.heap.objs.size+1)]) (caps:=[5]) (k:=0) TI rfl T.sorted (hr.mono w5) (zc (zh 2) zj) LB (zB7 (by rfl) zE3) (Caps.one rfl rfl rfl) (λA1 f1 c1 s1 H1 G1 Z1 hr=>(yV (zc (wq xt wo (wq xt wo (zh 0) zu (λ_ _=>rfl)) (zh 1) (λ_ _=>rfl)) (zc (wq xt wo (zh 0) zu (λ_ _=>rfl)) zj))))))
    (zD (vn (xW VE Vv (wO Y_pick (hr.mono w5) rfl (zc (zh 0) (zc zu zj))) zu (wG _)) (zR (yf (i:=6) vz.nd rfl (lo rfl) (Xl Qq Qd (xy6 rfl (zh 6)) (xy7 rfl (zh 6))))) wP)
    (zD (yf (i:=7) vz.nd rfl (lo rfl) (wq xt wo (vM (zc (Qp (kH (wc wD kI T.len kh (zc (zh 6) zj)) zu) zu) (zc (kH zu (wO Y_pick (hr.mono w5) rfl (zc (zh 0) (zc (qd (wc wD kI T.len kh (zc (zh 6) zj)) zu) zj)))) zj))) (wO Y_pick (hr.mono w5) rfl (zc (zh 0) (zc zu zj))) (λ_ _=>rfl)))
    (zD (yf (i:=8) vz.nd rfl (lo rfl) (wO Y_grown hr rfl (zc (zh 0) (zc (zh 1) (zc (zG5 rfl (zh 6) Qj (Qi (zh 7))) (zc (kH (zh 3) zu) zj))))))
    (zR (xE (yV (zc (zh 4) (zc (wO Y_bounds (hr.mono w5) rfl (zc (zh 2) zj)) (zc (zh 8) (zc (wO Y_grown hr rfl (zc (zh 0) (zc (zh 1) (zc (zG5 rfl (zh 6) (Qi (zh 7)) Qj) (zc (kH (zh 3) zu) zj))))) zj))))))))))))))) ?_
    rintro ds n Q hl ⟨d,ts,kt,rfl,rfl,hd1,hd,hg,h1,h60,hj,q⟩
    have nmE:(ts.map λt=>D.int t.1)=(ts.map λt=>t.1).map D.int:=by rw[zE];rfl
    generalize hR:Vu (JY 5 _) _=Rr
    have main:∀(F:EndsD) (ns:List Int),F.rt=Q->2<=ts.length->ns.Perm (ts.map λt=>t.1)->ns.Pairwise (·<=·) ->
        Rr F [some .st,some (.int d),some (.lst (ts.map xD)),some (.int kt),some (.tup (ns.map D.int)),none,none,none,none] 3:=λF ns hF h2 hp hs=>by
      subst hR;generalize hR6:Vu (JY 6 _) _=R6;simp
      refine⟨hd1,wn w5 w5 λk1 g0 g1=>wn w6 w6 λk2 g2 g3=>?_⟩
      have hpk:∀R:D->Prop,(∀i:Nat,i<d->R (.int i))->Wf (.lst [.int (kt%d),.int k1]) (.int k2) R:=λR hR=>zG3 g2 (by simpa using g3) λdd hdd=>by
        simp only[zi,zZ,or_false] at hdd
        have e0:0<=kt%(d:Int):=wC _ w5
        have e1:kt%(d:Int)<d:=wU _ w5
        rcases hdd with rfl |rfl
        · obtain ⟨i, e⟩ := xO e0
          rw[e]
          exact hR i w5
        · obtain ⟨i, e⟩ := xO g0
          rw[e]
          exact hR i w5
      refine hpk _ λi hi=>?_;subst hR6;generalize hR7:Vu (sIf _ _ _) _=R7
      have rest:∀(F:EndsD) (us:List Thing),F.rt=Q->us.Perm ts->R7 F [some .st,some (.int d),some (.lst (ts.map xD)),some (.int kt),some (.tup (ns.map D.int)),some (.int i),some (.lst (us.map xD)),none,none] 3:=λF us hF hu=>by
        subst hR7;generalize hR8:Vu (JY 7 _) _=R8
        have rest2:∀(F:EndsD) (us:List Thing),F.rt=Q->us.Perm ts->R8 F [some .st,some (.int d),some (.lst (ts.map xD)),some (.int kt),some (.tup (ns.map D.int)),some (.int i),some (.lst (us.map xD)),none,none] 3:=λF us hF hu=>by
          subst hR8;have hul:=hu.length_eq;generalize hR9:Vu (JY 8 _) _=R9;simp
          refine⟨⟨w6,w6⟩,wn w5 w5 λk1 g0 g1=>?_⟩
          simp
          refine wn w6 w6 λk2 g2 g3=>?_
          have hpk:∀R:D->Prop,(∀m:Nat,1<=m->m<ts.length->R (.int m))->Wf (.lst [.int (((us.length:Int)+1)/2),.int (1+k1)]) (.int k2) R:=λR hR=>zG3 g2 (by simpa using g3) λdd hdd=>by
            simp only[zi,zZ,or_false] at hdd
            rcases hdd with rfl |rfl
            · obtain ⟨m, e⟩ := xO (show 0 <= ((us.length : Int) + 1) / 2 by lia)
              rw[e]
              exact hR m w5 w5
            · obtain ⟨m, e⟩ := xO (show 0 <= 1 + k1 by lia)
              rw[e]
              exact hR m w5 w5
          refine hpk _ λm hm1 hm2=>?_;subst hR9
          have hcut1:QG (us.map xD) none (some (m:Int))=(us.take m).map xD:=by rw[xi1 _ _ (by rw[zg];lia),map_take]
          have hcut2:QG (us.map xD) (some (m:Int)) none=(us.drop m).map xD:=by rw[zE1 _ _ (by rw[zg];lia),List.map_drop]
          have gu:=hg.perm hu
          have part:∀(vs:List Thing) (R:D->Nat->Prop),vs.Sublist us->1<=vs.length->vs.length<ts.length->(∀tr,TreeOf d vs tr->R (vC tr) 3)->YY j [.st,.int d,.lst (vs.map xD),.int (kt+1)] 3 R:=λvs R hv h3 h4 hR=>by
            cases j with
            |zero=>lia
            |succ j=>exact⟨d,vs,kt+1,rfl,rfl,hd1,hd,gu.sub hv,h3,w5,w5,hR⟩
          have lt:(us.take m).length=m:=by rw[yM];lia
          have ld:(us.drop m).length=ts.length-m:=by rw[List.length_drop];lia
          simp;rw[hcut1]
          refine part _ _ (va ..) w5 w5 λlow hlow=>?_
          simp[vt];refine⟨d,ts,rfl,hd,hg.each,h1,h60,?_⟩;rw[hcut2]
          refine part _ _ (List.drop_sublist ..) w5 w5 λhigh hhigh=>?_
          rw[hF]
          exact q _ (.two (by rw[List.take_append_drop];exact hu) hp hs hlow hhigh)
        simp
        refine wn w6 w6 λk g0 g1=>?_
        simp
        split
        · rw [VX, VX, <- zS]
          have ul:=hu.length_eq;refine⟨wX ?_,rest2 F _ hF ((Ke us).trans hu)⟩;have z1:=YQ true us;have z2:=YQ false us;simp only[zg];lia
        · exact rest2 F us hF hu
      simp
      refine KW xD (xH7 i) true [.int i] ts (0,[],0) w5 (λt ht=>rfl) hg.nd rfl (λi' j' e=>?_) (λt ht=>?_) λus hu _=>rest _ us hF hu
      · cases i' with
        |zero=>cases e;exact⟨_,rfl,rfl,rfl⟩
        |succ i'=>simp at e
      · simp
        have hil:i<t.2.1.length:=by rw[hg.each t ht];exact hi
        refine⟨_,1,_,.inr (.inl rfl),rfl,rfl,?_⟩
        refine⟨_,_,_,.inr (.inl rfl),rfl,kX (by rw[zt,zd hil];rfl),?_⟩
        refine⟨_,0,_,.inr (.inl rfl),rfl,rfl,?_⟩;unfold xH7;rw[zd hil];rfl
    simp[startD]
    refine yd xD (λt=>.int t.1) ts (wX w5) (λt ht R hR=>?_) ?_
    · simp
      exact⟨_,0,_,.inr (.inl rfl),rfl,rfl,hR⟩
    · rw [nmE]
      refine⟨ts.map λt=>t.1,rfl,by simp;lia,λns hp hs'=>?_⟩
      simp
      split
      · rename_i h2
        have h2':ts.length=1:=w5
        obtain⟨t,rfl⟩:=List.length_eq_one_iff.mp h2'
        have e1:ns=[t.1]:=by simpa using hp
        subst e1
        refine⟨d,[t],rfl,hd,hg.each,by simp,by simp,?_⟩
        exact q _ (.one (hg.each t (by simp)))
      · rename_i h2
        exact main _ ns rfl w5 hp hs'
abbrev jQ:Stmt:=top 30
abbrev JN:List Str:=["_law_left_here","_law_house_here"]
def Uz:FnScope JN q1 (xg jQ):=⟨rfl,rfl,rfl,x6,rfl,x6,x6⟩
def Ve:TF:=λds n Q=>∃(d:Nat) (ts:List Thing),ds=[.st,wz d ts]/\n=3/\1<=d/\d<=4/\GoodU d ts/\ts.length<=30/\(ts=[]->Q .non 3)/\(ts≠[]->∀tr:Tr,TreeOf d ts tr->Q (vC tr) 3)
def zA0(T:Blt mg)(F:Fun K "_law_tree" "_law_tree" jQ f fd)(Y_grown:Fn P w K mg base "_law_grown" 34 4 (YY 30)):FnOk P w K mg base CX0 35 f fd q1 (spD K 2 Ve):=by
 refine Fun.okD F Uz (λ_ _ _ s H E G Z hr=>(zD (vn (xW (xc2 hr) zX4 (wq xt wo (zh 1) zu (λ_ _=>rfl)) (yV zj) (wG _)) (zR (xE ve)) wP)
  (zR (xE (wO Y_grown (hr.mono w6) rfl (zc (zh 0) (zc (wq xt wo (zh 1) zu (λ_ _=>rfl)) (zc (vf Kv zT0 T.list zs8 (zc (wq xt wo (zh 1) zu (λ_ _=>rfl)) zj)) (zc zu zj))))))))) ?_
 rintro ds n Q hl ⟨d,ts,rfl,rfl,h1,hd,hg,hz,q0,q1⟩;have nh:=vL d ts;simp[startD,nh];refine WS ?_;simp
 split
 ·rename_i h;exact q0 h
 ·rename_i h
  have hlen:1<=ts.length:=by
   cases ts with
   |nil=>exact absurd rfl h
   |cons a b=>simp
  refine zo8 (WS ?_);simp
  exact⟨d,ts,0,rfl,rfl,h1,hd,hg,hlen,w5,w5,q1 h⟩
end
def jx(p:Int × Int)(x:Int):Int:=max 0 (max (p.1-x) (x-p.2))
def kq(bd:List (Int × Int))(pl:List Int):Int:=((bd.zip pl).map λz=>jx z.1 z.2).sum
def jK(p:Int × Int)(bd:List (Int × Int))(x:Int)(pl:List Int):kq (p::bd) (x::pl)=jx p x+kq bd pl:=by
 show(((p,x)::bd.zip pl).map λz=>jx z.1 z.2).sum=_;rw[zJ,sum_cons];rfl
theorem JX:∀(bd ce:List (Int × Int)) (pl:List Int),bd.length=ce.length->(∀(i:Nat) p q,bd[i]?=some p->ce[i]?=some q->p.1<=q.1/\q.2<=p.2)->kq bd pl<=kq ce pl
 |[],[],pl,_,_=>yr _
 |p::bd,q::ce,[],_,_=>by
  have e1:kq (p::bd) []=0:=rfl;have e2:kq (q::ce) []=0:=rfl;rw[e1,e2];exact yr _
 |p::bd,q::ce,x::pl,hl,h=>by
  have ih:=JX bd ce pl (by simpa using hl) λi a b ha hb=>h (i+1) a b (by simpa using ha) (by simpa using hb)
  obtain⟨h1,h2⟩:=h 0 p q rfl rfl;rw[jK,jK];unfold jx;lia
noncomputable def bdI(d:Nat)(ts:List Thing):List (Int × Int):=(List.range d).map λi=>(loN ts i,hiN ts i)
def KO(p:Int × Int):Pair:=(some p.1,some p.2)
def XX(d:Nat)(ts:List Thing):(bdI d ts).length=d:=by unfold bdI;rw[zg,length_range]
def zt2{d i:Nat}(ts:List Thing)(hi:i<d):(bdI d ts)[i]?=some (loN ts i,hiN ts i):=by
 unfold bdI;rw[zt,yK hi];rfl
def zt1(d:Nat)(ts:List Thing):Zn d (ts.map λt=>t.2.1)=(bdI d ts).map KO:=by
 unfold Zn bdI;rw[zE];rfl
noncomputable def Yd(d:Nat)(kd:Option (List Int))(ts:List Thing):Int:=match kd with
 |some pl=>kq (bdI d ts) pl
 |none=>- Wq (ts.map λt=>t.2.2)
noncomputable def yY(ts:List Thing):Int:=ze3 (ts.map λt=>t.1)
noncomputable def wW(d:Nat)(kd:Option (List Int))(ts:List Thing):Int × Int:=(Yd d kd ts,yY ts)
def vD{ts:List Thing}(h:1<=ts.length):∃t∈ts,t.1=yY ts:=by
 have:=(jd (qr (ns:=ts.map λt=>t.1) (by rw[zg];exact h))).1
 obtain⟨t,ht,e⟩:=zk.mp this;exact⟨t,ht,e⟩
def ZB{ts:List Thing}{t:Thing}(h:t∈ts):yY ts<=t.1:=
 (jd (qr (ns:=ts.map λt=>t.1) (by rw[zg];exact List.length_pos_of_mem h))).2 _ (zk.mpr ⟨t,h,rfl⟩)
def VR{d:Nat}{kd:Option (List Int)}{ls ts:List Thing}(h:∀t∈ls,t∈ts)(h1:1<=ls.length):Yd d kd ts<=Yd d kd ls:=by
 obtain⟨t0,ht0⟩:=List.exists_mem_of_length_pos h1;have h2:1<=ts.length:=List.length_pos_of_mem (h t0 ht0)
 cases kd with
 |some pl=>
  refine JX _ _ _ (by rw[XX,XX]) λi p q hp hq=>?_
  have hi:i<d:=by have:=(zn.mp hp).1;rw[XX] at this;exact this
  rw[zt2 ts hi] at hp;rw[zt2 ls hi] at hq;cases hp;cases hq;exact zQ5 h h1 h2
 |none=>
  have a:=(kr (vW (ns:=ls.map λt=>t.2.2) (by rw[zg];exact h1))).1
  have b:=(kr (vW (ns:=ts.map λt=>t.2.2) (by rw[zg];exact h2))).2
  obtain⟨t,ht,e⟩:=zk.mp a;have:=b t.2.2 (zk.mpr ⟨t,h t ht,rfl⟩);show-Wq _<=- Wq _;lia
def zR2{d:Nat}{kd:Option (List Int)}{t:Thing}{ts:List Thing}(h:t∈ts):ltP (wW d kd [t]) (wW d kd ts)=false:=by
 cases e:ltP (wW d kd [t]) (wW d kd ts) with
 |false=>rfl
 | true =>
  rw[kC] at e
  have h1:Yd d kd ts<=Yd d kd [t]:=VR (λu hu=>by rw[zG.mp hu];exact h) (by simp)
  have h2:yY ts<=t.1:=ZB h
  have h3:yY [t]=t.1:=by
   obtain⟨u,hu,e⟩:=vD (ts:=[t]) (by simp)
   rw[<- e,zG.mp hu]
  have e':Yd d kd [t]<Yd d kd ts\/Yd d kd [t]=Yd d kd ts/\yY [t]<yY ts:=e;lia
def Yc(t:Thing):yY [t]=t.1:=by
 obtain⟨u,hu,e⟩:=vD (ts:=[t]) (by simp)
 rw[<- e,zG.mp hu]
def UV{a b:Int × Int}(h1:ltP a b=false)(h2:a.2≠b.2):ltP b a=true:=by
 rw[kC]
 have:¬ (a.1<b.1\/(a.1=b.1/\a.2<b.2)):=λz=>by rw[<- kC,h1] at z;cases z
 lia
def Qu{a b c:Int × Int}(h1:ltP b a=false)(h2:ltP c b=false):ltP c a=false:=by
 cases e:ltP c a with
 |false=>rfl
 |true=>
  have i1:¬ (b.1<a.1\/(b.1=a.1/\b.2<a.2)):=λz=>by rw[<- kC,h1] at z;cases z
  have i2:¬ (c.1<b.1\/(c.1=b.1/\c.2<b.2)):=λz=>by rw[<- kC,h2] at z;cases z
  rw[kC] at e;lia
def TreeOf.names{d:Nat}{ts:List Thing}{tr:Tr}(h:TreeOf d ts tr):(yg tr).Perm (ts.map λt=>t.1)/\(yg tr).Pairwise (·<=·):=by
  cases h with
  |one h=>exact⟨.refl _,by simp[yg]⟩
  |two p hp hs _ _=>exact⟨hp,hs⟩
def TreeOf.head{d:Nat}{ts:List Thing}{tr:Tr}(h:TreeOf d ts tr):∃r,yg tr=yY ts::r:=by
 obtain⟨hp,hs⟩:=h.names
 cases hn:yg tr with
 |nil=>
  rw[hn] at hp;have:=h.ne;have:=hp.length_eq;simp at this;lia
 | cons a r =>
  refine⟨r,?_⟩;rw[hn] at hp hs
  have:a=yY ts:=VJ (hp.mem_iff.mp (by simp)) λb hb=>by
   rcases zi.mp (hp.mem_iff.mpr hb) with rfl |hb
   ·exact yr _
   ·exact(xM.mp hs).1 b hb
  rw[this]
def US{a b:List Int}(p:a.Perm b):Wq a=Wq b:=by
 cases ha:a with
 |nil=>
  rw[ha] at p;rw[List.nil_perm.mp p]
 |cons x r=>
  rw[<- ha]
  have h0:0<a.length:=by rw[ha];simp
  obtain⟨m1,m2⟩:=kr (vW h0);exact VM (p.mem_iff.mp m1) λy hy=>m2 y (p.mem_iff.mpr hy)
abbrev Qe:=List Thing × Tr
def vg(pl:List Pair)(q:List Qe):List Qe:=q.filter λx=>!vd (YG x.2) pl
def vh(q:List Qe):List Thing:=q.flatMap λx=>x.1
structure QOk(d:Nat)(hs:List Thing)(q:List Qe):Prop where
 tree:∀x∈q,TreeOf d x.1 x.2
 sub:∀t∈vh q,t∈hs
 nd:((vh q).map λt=>t.1).Nodup
def vZ{q:List Qe}{t:Thing}:t∈vh q↔∃x∈q,t∈x.1:=by unfold vh;exact List.mem_flatMap
def vw(x:Qe)(q:List Qe):vh (x::q)=x.1++vh q:=by unfold vh;rw[wb]
def ji(p q:List Qe):vh (p++q)=vh p++vh q:=by unfold vh;rw[List.flatMap_append]
def jw{p q:List Qe}(h:p.Perm q):(vh p).Perm (vh q):=h.flatMap_right _
def QOk.perm{d:Nat}{hs:List Thing}{p q:List Qe}(h:QOk d hs q)(e:p.Perm q):QOk d hs p:=
 ⟨λx hx=>h.tree x (e.mem_iff.mp hx),λt ht=>h.sub t ((jw e).mem_iff.mp ht),((jw e).map _).nodup_iff.mpr h.nd⟩
def QOk.sublist{d:Nat}{hs:List Thing}{p q:List Qe}(h:QOk d hs q)(e:p.Sublist q):QOk d hs p:=by
 have hf:(vh p).Sublist (vh q):=by
  clear h
  induction e with
  |slnil=>exact .refl _
  |cons x _ ih=>rw[vw];exact ih.trans (wM ..)
  |cons_cons x _ ih=>rw[vw,vw];exact(List.Sublist.refl _).append ih
 exact⟨λx hx=>h.tree x (e.mem hx),λt ht=>h.sub t (hf.mem ht),(hf.map _).nodup h.nd⟩
def QOk.tail{d:Nat}{hs:List Thing}{x:Qe}{q:List Qe}(h:QOk d hs (x::q)):QOk d hs q:=h.sublist (List.sublist_cons_self ..)
def QOk.apartN{d:Nat}{hs:List Thing}{x:Qe}{q:List Qe}(h:QOk d hs (x::q)){t u:Thing}(ht:t∈x.1)(hu:u∈vh q):t.1≠u.1:=by
 have:=h.nd;rw[vw,zS,wu] at this;exact this.2.2 _ (zk.mpr ⟨t,ht,rfl⟩) _ (zk.mpr ⟨u,hu,rfl⟩)
theorem QOk.heads{d:Nat}{hs:List Thing}:∀{q:List Qe},QOk d hs q->(q.map λx=>yY x.1).Nodup
 |[],_=>nodup_nil
 |x::q,h=>by
  refine xz.mpr ⟨λz=>?_,QOk.heads h.tail⟩;obtain⟨y,hy,e⟩:=zk.mp z
  obtain⟨t,ht,e1⟩:=vD (h.tree x (by simp)).ne
  obtain⟨u,hu,e2⟩:=vD (h.tree y (by simp[hy])).ne
  exact h.apartN ht (vZ.mpr ⟨y,hy,hu⟩) (by rw[e1,e2];exact e.symm)
def UN{α β γ:Type}{f:α->β}{g:α->γ}{l:List α}(hg:∀a b,f a=f b->g a=g b)(h:(l.map g).Nodup):(l.map f).Nodup:=by
 rw[wH,xG] at h ⊢;exact h.imp λhne e=>hne (hg _ _ e)
def QOk.keys{d:Nat}{hs:List Thing}{q:List Qe}(kd:Option (List Int))(h:QOk d hs q):(q.map λx=>wW d kd x.1).Nodup:=
 UN (g:=λx:Qe=>yY x.1) (λa b e=>congrArg Prod.snd e) h.heads
theorem JF{α β:Type}{f:α->Int × Int}{g:α->β}:∀{q:List α}{x:α},x∈q->(q.map f).Nodup->atP (q.map f) (q.map g) (f x)=some (g x)
 |[],x,h,_=>by simp at h
 |y::q,x,h,hn=>by
  obtain⟨h1,h2⟩:=xz.mp hn
  show(if f y=f x then some (g y) else atP (q.map f) (q.map g) (f x))=_
  rcases zi.mp h with rfl |h
  ·exact if_pos rfl
  ·rw[if_neg λe=>h1 (zk.mpr ⟨x,h,e.symm⟩)];exact JF h h2
def ZW{α:Type}(f:α->Int × Int)(q:List α)(k:Int × Int):List α:=q.filter λy=>decide (f y≠k)
def zq4{α:Type}(f:α->Int × Int)(q:List α)(k:Int × Int):YE (q.map f) k=(ZW f q k).map f:=by
 unfold YE ZW;rw[filter_map];rfl
theorem Kl{α β:Type}(f:α->Int × Int)(g:α->β)(k:Int × Int):∀q:List α,dropE (q.map f) (q.map g) k=(ZW f q k).map g
 |[]=>rfl
 | y :: q => by
  have ih:=Kl f g k q
  show(if f y=k then dropE (q.map f) (q.map g) k else g y::dropE (q.map f) (q.map g) k)=_
  by_cases e:f y=k
  ·rw [if_pos e, ih];unfold ZW
   rw[xp (by simpa using e)]
  ·rw [if_neg e, ih];unfold ZW
   rw[xn (by simpa using e),zJ]
theorem jt{α:Type}{f:α->Int × Int}:∀{q:List α}{x:α},x∈q->(q.map f).Nodup->(x::ZW f q (f x)).Perm q
 |[],x,h,_=>by simp at h
 | y :: q, x, h, hn => by
  obtain⟨h1,h2⟩:=xz.mp hn;unfold ZW
  rcases zi.mp h with rfl |h
  ·rw[xp (by simp),List.filter_eq_self.mpr λz hz=>by
    simp only[ne_eq,decide_not,Bool.not_eq_eq_eq_not,Bool.not_true,decide_eq_false_iff_not]
    exact λe=>h1 (zk.mpr ⟨z,hz,e⟩)]
  ·have e : f y ≠ f x := λe => h1 (zk.mpr ⟨x, h, e.symm⟩)
   rw[xn (by simpa using e)]
   exact(List.Perm.swap y x _).trans ((jt h h2).cons y)
def Qk{d:Nat}{ts:List Thing}(hl:∀t∈ts,t.2.1.length=d){t:Thing}(ht:t∈ts):ZH (Zn d (ts.map λt=>t.2.1)) t.2.1=true:=by
 have hne:1<=ts.length:=List.length_pos_of_mem ht;refine jh.mpr λi q x hq hx=>?_
 have hi:i<d:=by have:=(zn.mp hq).1;rw[kW] at this;exact this
 rw[zJ8 ts hi] at hq;cases hq
 have hm:x∈QK ts i:=by rw[XU];exact zk.mpr ⟨t,ht,by rw[hx];rfl⟩
 have:=zn0 (i:=i) hne hm;have:=zH4 (i:=i) hne hm;simp[liesT];lia
def TreeOf.apart{d:Nat}{ts:List Thing}{tr:Tr}(h:TreeOf d ts tr)(hd:1<=d){pl:List Pair}(hp:pl.length=d)(ha:vd (YG tr) pl=true):(ts.filter λt=>ZH pl t.2.1)=[]:=by
 rw[List.filter_eq_nil_iff];intro t ht hf;have hl:=h.lens;rw[h.bd] at ha
 have:=zt7 (ps:=Zn d (ts.map λt=>t.2.1)) (qs:=pl) (p:=t.2.1) (by rw[kW,hl t ht]) (by rw[hp,hl t ht]) (by rw[hl t ht];exact hd) (Qk hl ht) hf
 rw[ha] at this;cases this
def zz8{d:Nat}{t:Thing}(ht:t.2.1.length=d)(hd:1<=d){pl:List Pair}(hp:pl.length=d)(ha:vd (Zn d [t.2.1]) pl=false):ZH pl t.2.1=true:=by
 have nc:=zO6 hd ht hp;unfold xz4 at nc;rw[ha] at nc;simp only[zU,if_false] at nc
 have hw:jG (Zn d [t.2.1]) pl=true:=by
  cases h:jG (Zn d [t.2.1]) pl with
  |true=>rfl
  |false=>rw[h] at nc;simp at nc
 have e:ko (Zn d [t.2.1]) pl=Zn d [t.2.1]:=of_decide_eq_true (by unfold jG at hw;exact hw)
 have:=zd1 (ps:=Zn d [t.2.1]) (qs:=pl) (p:=t.2.1) (by rw[kW,ht]) (by rw[hp,ht]) (by rw[ht];exact hd)
 have z:=Qk (d:=d) (ts:=[t]) (λu hu=>by rw[zG.mp hu];exact ht) (t:=t) (by simp)
 rw[e,show ZH (Zn d [t.2.1]) t.2.1=true from z,Bool.true_and] at this;exact this.symm
def jz(pl:List Pair)(ts:List Thing):List Thing:=ts.filter λt=>ZH pl t.2.1
def kQ(pl:List Pair)(a b:List Thing):jz pl (a++b)=jz pl a++jz pl b:=ym ..
def Kg{pl:List Pair}{a b:List Thing}(h:a.Perm b):(jz pl a).Perm (jz pl b):=h.filter _
def ltK(d:Nat)(kd:Option (List Int))(a b:Thing):Prop:=ltP (wW d kd [a]) (wW d kd [b])=true
structure DOk(d:Nat)(hs:List Thing)(kd:Option (List Int))(pl:List Pair)(q:List Qe)(acc:List Thing):Prop where
 ok:QOk d hs q
 inb:∀x∈q,vd (YG x.2) pl=false
 perm:(acc++jz pl (vh q)).Perm (jz pl hs)
 up:acc.Pairwise (ltK d kd)
 below:∀a∈acc,∀t∈vh q,ltK d kd a t
theorem VU{d:Nat}{hs:List Thing}{pl:List Pair}(hd:1<=d)(hp:pl.length=d):∀{q:List Qe},(∀x∈q,TreeOf d x.1 x.2)->jz pl (vh (vg pl q))=jz pl (vh q)
 |[],_=>rfl
 | x :: q, h => by
  have ih:=VU (hs:=hs) hd hp (q:=q) λy hy=>h y (zm _ hy);rw[vw,kQ]
  cases ha:vd (YG x.2) pl with
  |true=>
   have e:vg pl (x::q)=vg pl q:=by unfold vg;rw[xp (by simp[ha])]
   have z:jz pl x.1=[]:=(h x (by simp)).apart hd hp ha
   rw[e,ih,z,wg]
  |false=>
   have e:vg pl (x::q)=x::vg pl q:=by unfold vg;rw[xn (by simp[ha])]
   rw[e,vw,kQ,ih]
section
variable {d:Nat}{hs:List Thing}{kd:Option (List Int)}{pl:List Pair}{q:List Qe}{acc:List Thing}
def DOk.start{tr:Tr}(hd:1<=d)(hp:pl.length=d)(h:TreeOf d hs tr)(hn:(hs.map λt=>t.1).Nodup):DOk d hs kd pl (vg pl [(hs,tr)]) []:=by
 have ok:QOk d hs [(hs,tr)]:=⟨λx hx=>by rw[zG.mp hx];exact h,λt ht=>by simpa [vh] using ht,by simpa [vh] using hn⟩
 refine⟨ok.sublist filter_sublist,λx hx=>by simpa using (zx.mp hx).2,?_,.nil,by simp⟩
 rw[wg,VU (hs:=hs) hd hp ok.tree];simp[vh]
def DOk.none(h:hs=[]):DOk d hs kd pl [] []:=by
 subst h
 exact⟨⟨by simp,by simp[vh],by simp[vh]⟩,by simp,by simp[jz,vh],.nil,by simp⟩
def DOk.leaf{t:Thing}{tr:Tr}(hd:1<=d)(hp:pl.length=d)(h:DOk d hs kd pl q acc)(hx:([t],tr)∈q)(hm:∀y∈q,ltP (wW d kd y.1) (wW d kd [t])=false) :
  DOk d hs kd pl (ZW (λy:Qe=>wW d kd y.1) q (wW d kd [t])) (acc++[t]):=by
 have hpm:(([t],tr)::ZW (λy:Qe=>wW d kd y.1) q (wW d kd [t])).Perm q:=jt (f:=λy:Qe=>wW d kd y.1) hx (h.ok.keys kd);have ok1:=h.ok.perm hpm;have tt:=h.ok.tree _ hx
 have hl:t.2.1.length=d:=tt.lens t (by simp)
 have hf:ZH pl t.2.1=true:=zz8 hl hd hp (by have:=h.inb _ hx;rw[tt.bd] at this;exact this)
 have hflat:=jw hpm;rw[vw] at hflat;generalize ZW (λy:Qe=>wW d kd y.1) q (wW d kd [t])=q' at *;refine⟨ok1.tail,λx hx'=>h.inb x (hpm.mem_iff.mp (zm _ hx')),?_,?_,λa ha u hu=>?_⟩
 ·refine List.Perm.trans ?_ h.perm;rw[yG];refine List.Perm.append_left acc ?_;refine List.Perm.trans ?_ (Kg hflat);rw[kQ]
  have e:jz pl [t]=[t]:=by simp[jz,hf]
  show([t]++jz pl (vh q')).Perm (jz pl [t]++jz pl (vh q'));rw[e]
 ·rw [List.pairwise_append]
  refine⟨h.up,by simp,λa ha b hb=>?_⟩
  rw[zG.mp hb]
  exact h.below a ha t (vZ.mpr ⟨_,hx,by simp⟩)
 ·have hu' : u ∈ vh q := hflat.mem_iff.mp (zr _ hu)
  rcases zW.mp ha with ha |ha
  ·exact h.below a ha u hu'
  ·rw [zG.mp ha];obtain⟨y,hy,hyu⟩:=vZ.mp hu;have i1:=hm y (hpm.mem_iff.mp (zm _ hy));have i2:=zR2 (d:=d) (kd:=kd) hyu;refine UV (Qu i1 i2) ?_;show yY [u]≠yY [t];rw[Yc,Yc]
   exact λe=>ok1.apartN (t:=t) (by simp) hu e.symm
def DOk.open{ts ls us:List Thing}{tr lo hi:Tr}(hd:1<=d)(hp:pl.length=d)(h:DOk d hs kd pl q acc)(hx:(ts,tr)∈q)(h1:(ls++us).Perm ts)(h2:TreeOf d ls lo)(h3:TreeOf d us hi) :
  DOk d hs kd pl (ZW (λy:Qe=>wW d kd y.1) q (wW d kd ts)++vg pl [(ls,lo),(us,hi)]) acc/\QOk d hs (ZW (λy:Qe=>wW d kd y.1) q (wW d kd ts)++[(ls,lo),(us,hi)]):=by
 have hpm:((ts,tr)::ZW (λy:Qe=>wW d kd y.1) q (wW d kd ts)).Perm q:=jt (f:=λy:Qe=>wW d kd y.1) hx (h.ok.keys kd);have ok1:=h.ok.perm hpm;have hflat:=jw hpm;rw[vw] at hflat;generalize ZW (λy:Qe=>wW d kd y.1) q (wW d kd ts)=q' at *
 have e0:vh [(ls,lo),(us,hi)]=ls++us:=by simp[vh]
 have hfl:(vh (q'++[(ls,lo),(us,hi)])).Perm (vh q):=by
  rw[ji,e0];exact((List.Perm.append_left _ h1).trans wy).trans hflat
 have okB:QOk d hs (q'++[(ls,lo),(us,hi)]):=⟨λx hx'=>by
   rcases zW.mp hx' with hx' |hx'
   ·exact ok1.tree x (zm _ hx')
   ·simp only [zi, zZ, or_false] at hx'
    rcases hx' with rfl |rfl
    ·exact h2
    ·exact h3,λt ht=>h.ok.sub t (hfl.mem_iff.mp ht),(hfl.map _).nodup_iff.mpr h.ok.nd⟩
 have hsl:(q'++vg pl [(ls,lo),(us,hi)]).Sublist (q'++[(ls,lo),(us,hi)]):=(List.Sublist.refl _).append filter_sublist;refine⟨⟨okB.sublist hsl,λx hx'=>?_,?_,h.up,λa ha t ht=>?_⟩,okB⟩
 ·rcases zW.mp hx' with hx' | hx'
  ·exact h.inb x (hpm.mem_iff.mp (zm _ hx'))
  ·simpa using (zx.mp hx').2
 ·refine List.Perm.trans (List.Perm.append_left acc ?_) h.perm;rw[ji,kQ,VU (hs:=hs) hd hp (λx hx'=>okB.tree x (zr _ hx')),<- kQ,<- ji];exact Kg hfl
 ·refine h.below a ha t (hfl.mem_iff.mp ?_);obtain⟨x,hx',ht'⟩:=vZ.mp ht;exact vZ.mpr ⟨x,hsl.mem hx',ht'⟩
def DOk.told(hn:(hs.map λt=>t.1).Nodup)(h:DOk d hs kd pl q acc){all:List Thing}(ha:all.Perm (jz pl hs))(hs':all.Pairwise (ltK d kd)):acc=all.take acc.length:=by
 have irr:∀a,¬ ltK d kd a a:=λa z=>by unfold ltK at z;rw[Yb] at z;cases z
 have tr:∀a b c,ltK d kd a b->ltK d kd b c->ltK d kd a c:=λa b c=>XB
 have key:∀(acc all rest:List Thing),(acc++rest).Perm all->all.Pairwise (ltK d kd)->acc.Pairwise (ltK d kd)->(∀a∈acc,∀t∈rest,ltK d kd a t)->acc=all.take acc.length:=by
  intro acc
  induction acc with
  |nil=>intro all rest _ _ _ _;rfl
  | cons a acc ih =>
   intro all rest hp hs hu hb
   cases all with
   |nil=>exact absurd hp.length_eq (by simp)
   | cons b all =>
    obtain⟨s1,s2⟩:=xM.mp hs;obtain⟨u1,u2⟩:=xM.mp hu
    have e:a=b:=by
     have hb':b∈a::(acc++rest):=hp.mem_iff.mpr (by simp)
     have ha':a∈b::all:=hp.mem_iff.mp (by simp)
     rcases zi.mp hb' with e |hb'
     ·exact e.symm
     ·rcases zi.mp ha' with e | ha'
      ·exact e
      ·have i1 := s1 a ha'
       have i2:ltK d kd a b:=by
        rcases zW.mp hb' with z |z
        ·exact u1 b z
        ·exact hb a (by simp) b z
       exact absurd (tr _ _ _ i1 i2) (irr b)
    subst e;rw[zK,List.take_succ_cons,<- ih all rest (List.Perm.cons_inv hp) s2 u2 λx hx t ht=>hb x (zm _ hx) t ht]
 exact key acc all (jz pl (vh q)) (h.perm.trans ha.symm) hs' h.up λa ha' t ht=>h.below a ha' t (zx.mp ht).1
end
def vm:Option (List Int)->D
 |some pl=>.tup [.str "near",wY pl]
 |none=>.tup [.str "best"]
@[simp] theorem zU5(k:Option (List Int)):xT (vm k)=true:=by cases k<;>rfl
def wOf(hs:List Thing)(x:Int):Int:=((hs.find? λt=>t.1 == x).map λt=>t.2.2).getD 0
theorem zf3:∀{hs:List Thing}{t:Thing},t∈hs->(hs.map λt=>t.1).Nodup->wOf hs t.1=t.2.2
 |[],t,h,_=>by simp at h
 | s :: hs, t, h, hn => by
  have hn':=xz.mp hn;unfold wOf;rw[wA]
  rcases zi.mp h with rfl |h
  ·rw[beq_self_eq_true];rfl
  ·have ne : (s.1 == t.1) = false := by
    rw[beq_eq_false_iff_ne];intro e;exact hn'.1 (zk.mpr ⟨t,h,e.symm⟩)
   rw[ne];exact zf3 h hn'.2
def xh5{hs:List Thing}(hn:(hs.map λt=>t.1).Nodup){t:Thing}(ht:t∈hs){R:D->Prop}(h:R (xD t)):xj5 (byN hs) (.int t.1) R:=by
 unfold byN;refine⟨_,_,Sum.inl t.1,xD t,rfl,rfl,ZG ht hn,h⟩
theorem JW:∀(bd:List (Int × Int)) (pl:List Int),((pl.zip bd).map λz=>max (z.2.1-z.1) (max 0 (z.1-z.2.2)))=(bd.zip pl).map λz=>jx z.1 z.2
 |[],pl=>by simp
 |_::_,[]=>by simp
 |p::bd,x::pl=>by
  rw[wf,wf,zJ,zJ,JW bd pl]
  congr 1
  unfold jx;show max (p.1-x) (max 0 (x-p.2))=max 0 (max (p.1-x) (x-p.2));lia
def zp0{a:Int}{r:List Int}:atI ((a::r).map D.int) 0=some (.int a):=kX (j:=0) rfl
section
variable {P:Program}{w:World}{K:W.Frag}{mg:Str->Option Value}{base:Heap}{f:Addr}{fd:FuncData}
abbrev ZN:Stmt:=top 16
abbrev Yl:List Str:=["place","limits"]
def KZ:FnScope Yl ["place","limits"] (xg ZN):=⟨rfl,rfl,rfl,x6,rfl,x6,x6⟩
def qG:("number" :: "least" :: "greatest" :: Yl:List Str).Nodup:=x6
def ZJ:TF:=λds n Q=>∃(pl:List Int) (bd:List (Int × Int)),ds=[wY pl,xf (bd.map KO)]/\pl.length<=1000/\Q (.int (kq bd pl)) n
def Jj(T:Blt mg)(T2:Blt2 mg)(F:Fun K "steps_to" "steps_to" ZN f fd):FnOk P w K mg base CX0 1 f fd ["place","limits"] (spD K 2 ZJ):=by
 refine Fun.okD F KZ (λ_ _ _ s H E G Z hr=>(zR (xE (wc (QP rfl) zJ2 T2.sum zJ5 (zc (vA (own:=["number","least","greatest"]) (M:=Yl) (vH (by rfl)) rfl (VA rfl T.zip (zc (zh 0) (zc (zh 1) zj))) (λ_ _ _ _=>(vp (k:=2) rfl rfl (xl (zV (i:=0) qG rfl (lo rfl) w6) (xl (vp (k:=2) rfl rfl (xl (zV (i:=1) qG rfl (lo rfl) w6) (xl (zV (i:=2) qG rfl (lo rfl) w6) yR))) yR)))) (λ_ _ _ _=>yQ) (λ_ _ _ _=>(wc (Ks rfl) zr8 T.max WY (zc (qd (zh 1) (zh 0)) (zc zu (zc (qd (zh 0) (zh 2)) zj)))))) zj))))) ?_
 rintro ds n Q hl ⟨pl,bd,rfl,hz,q⟩
 have ez:Uj (pl.map D.int) ((bd.map KO).map xx)=(pl.zip bd).map λz=>.tup [.int z.1,xx (KO z.2)]:=by
  unfold Uj;rw[zE,List.zipWith_map,yJ];rfl
 simp[startD];refine(jD (d1:=wY pl) (d2:=xf (bd.map KO)) rfl rfl).mpr ?_;rw[ez]
 refine yd (λz:Int × (Int × Int)=>.tup [.int z.1,xx (KO z.2)]) (λz=>.int (max (z.2.1-z.1) (max 0 (z.1-z.2.2)))) (pl.zip bd) (zB (by rw[length_zip];lia) (wX (k:=1000) w5)) (λz hz R hR=>?_) ?_
 ·simp[xx,KO];exact hR
 ·have e : ((pl.zip bd).map λz => D.int (max (z.2.1 - z.1) (max 0 (z.1 - z.2.2)))) = ((bd.zip pl).map λz => jx z.1 z.2).map D.int := by
   rw[<- JW,zE];rfl
  exact⟨(bd.zip pl).map (λz:(Int × Int) × Int=>jx z.1 z.2),by rw[e],q⟩
abbrev Vs:Stmt:=top 17
abbrev Uc:List Str:=["by_name","tree","kind","names","limits","low","high"]
def qQ:FnScope Uc ["by_name","tree","kind"] (xg Vs):=⟨rfl,rfl,rfl,x6,rfl,x6,x6⟩
def Jm:("name" :: Uc:List Str).Nodup:=x6
def Vi:TF:=λds n Q=>∃(d:Nat) (hs ts:List Thing) (tr:Tr) (kd:Option (List Int)),ds=[byN hs,vC tr,vm kd]/\(hs.map λt=>t.1).Nodup/\TreeOf d ts tr/\(∀t∈ts,t∈hs)/\ts.length<=1000/\(∀pl,kd=some pl->pl.length<=1000)/\Q (.prT (wW d kd ts)) n
def zl2(T:Blt mg)(F:Fun K "key_by" "key_by" Vs f fd)(F_steps_to:Fn P w K mg base "steps_to" 1 2 ZJ):FnOk P w K mg base CX0 2 f fd ["by_name","tree","kind"] (spD K 3 Vi):=by
 refine Fun.okD F qQ (λ_ _ _ s H E G Z hr=>(zD (jX (m:=7) (zh 1) (vp (k:=4) rfl rfl (xl (zV (i:=3) qQ.nd rfl (lo rfl) w6) (xl (zV (i:=4) qQ.nd rfl (lo rfl) w6) (xl (zV (i:=5) qQ.nd rfl (lo rfl) w6) (xl (zV (i:=6) qQ.nd rfl (lo rfl) w6) yR))))))
  (zD (vn (xW VE Vv (wq xt wo (zh 2) zu (λ_ _=>rfl)) Xk (wG _)) (zR (xE (xb8 (zc (wO F_steps_to (hr.mono w6) rfl (zc (wq xt wo (zh 2) zu (λ_ _=>rfl)) (zc (zh 4) zj))) (zc (wq xt wo (zh 3) zu (λ_ _=>rfl)) zj))))) wP)
  (zR (xE (xb8 (zc (zk1 (wc (Ku rfl) zs0 T.max WY (zc (vA (own:=["name"]) (M:=Uc) (vH (by rfl)) rfl (vo rfl (zh 3)) (λ_ _ _ _=>(zV (i:=0) Jm rfl (lo rfl) w6)) (λ_ _ _ _=>yQ) (λ_ _ _ _=>(wq xt wo (xc1 (zS0 hr) (zh 1) (zh 0) (λ_ _=>rfl)) zu (λ_ _=>rfl)))) zj))) (zc (wq xt wo (zh 3) zu (λ_ _=>rfl)) zj)))))))) ?_
 rintro ds n Q hl ⟨d,hs,ts,tr,kd,rfl,hn,ht,hsub,hz,hk,q⟩;obtain⟨ta,tb,et,na,nb⟩:=ZD tr;obtain⟨r,hr1⟩:=ht.head;obtain⟨hnp,_⟩:=ht.names
 have hd0:atI ((yg tr).map D.int) 0=some (.int (yY ts)):=by rw[hr1];exact zp0
 rw[et];simp[startD,na,nb]
 cases kd with
 |some pl=>
  refine⟨_,0,_,.inr (.inl rfl),rfl,rfl,?_⟩;simp;refine⟨_,1,_,.inr (.inl rfl),rfl,rfl,?_⟩
  refine⟨pl,bdI d ts,by rw[ht.bd,zt1],hk pl rfl,?_⟩
  exact⟨_,hd0,(wW d (some pl) ts).1,(wW d (some pl) ts).2,⟨rfl,rfl⟩,q⟩
 | none =>
  refine⟨_,0,_,.inr (.inl rfl),rfl,rfl,?_⟩;simp
  rw[if_neg w6]
  refine yd D.int (λx=>.int (wOf hs x)) (yg tr) (wX (by rw[hnp.length_eq,zg];lia)) (λx hx R hR=>?_) ?_
  ·obtain⟨u,hu,rfl⟩:=zk.mp (hnp.mem_iff.mp hx);simp;refine xh5 hn (hsub u hu) ?_;refine⟨_,2,_,.inr (.inl rfl),rfl,rfl,?_⟩;rw[zf3 (hsub u hu) hn] at hR;exact hR
  ·have e : ((yg tr).map λx => D.int (wOf hs x)) = ((yg tr).map (wOf hs)).map D.int := by rw [zE]; rfl
   have e2:Wq ((yg tr).map (wOf hs))=Wq (ts.map λt=>t.2.2):=by
    refine(US (hnp.map (wOf hs))).trans ?_;rw[zE]
    congr 1
    exact ye λt ht=>zf3 (hsub t ht) hn
   rw[e]
   refine WP (by rw[zg,hr1];simp) ?_
   rw[e2];simp;exact⟨_,hd0,(wW d none ts).1,(wW d none ts).2,⟨rfl,rfl⟩,q⟩
end
noncomputable def ksQ(d:Nat)(kd:Option (List Int))(q:List Qe):List (Int × Int):=q.map λx=>wW d kd x.1
def esQ(q:List Qe):List D:=q.map λx=>vC x.2
def zd0{pl:List Pair}{q:List Qe}{i:Nat}{x:Qe}(h:q[i]?=some x):vg pl (q.take (i+1))=vg pl (q.take i)++(if vd (YG x.2) pl=true then [] else [x]):=by
 unfold vg;rw[xC,h,ym]
 congr 1
 show List.filter _ [x]=_
 cases ha:vd (YG x.2) pl<;>simp[ha]
inductive Reach(d:Nat)(kd:Option (List Int))(pl:List Pair)(k:Nat)(q0:List Qe):Nat->List Qe->List Thing->Prop where
 |start:Reach d kd pl k q0 0 q0 []
 |leaf {n:Nat}{q:List Qe}{acc:List Thing}{t:Thing}{bd:List Pair}:Reach d kd pl k q0 n q acc->acc.length<k->([t],Tr.one t.1 bd)∈q->(∀y∈q,ltP (wW d kd y.1) (wW d kd [t])=false)->Reach d kd pl k q0 (n+1) (ZW (λy:Qe=>wW d kd y.1) q (wW d kd [t])) (acc++[t])
 | opn {n : Nat} {q : List Qe} {acc ts ls us : List Thing} {ns : List Int} {bd : List Pair} {lo hi : Tr} : Reach d kd pl k q0 n q acc -> acc.length < k -> (ts, Tr.two ns bd lo hi) ∈ q -> (∀ y ∈ q, ltP (wW d kd y.1) (wW d kd ts) = false) -> (ls ++ us).Perm ts -> TreeOf d ls lo -> TreeOf d us hi ->
   Reach d kd pl k q0 (n+1) (ZW (λy:Qe=>wW d kd y.1) q (wW d kd ts)++vg pl [(ls,lo),(us,hi)]) acc
def Reach.dok{d:Nat}{hs:List Thing}{kd:Option (List Int)}{pl:List Pair}{k n:Nat}{q0 q:List Qe}{acc:List Thing}(hd:1<=d)(hp:pl.length=d)(h0:DOk d hs kd pl q0 [])(h:Reach d kd pl k q0 n q acc):DOk d hs kd pl q acc:=by
 induction h with
 |start=>exact h0
 |leaf _ _ hx hm ih=>exact ih.leaf hd hp hx hm
 |opn _ _ hx hm h1 h2 h3 ih=>exact(ih.open hd hp hx h1 h2 h3).1
def jA(o:Option Tr)(hs:List Thing)(pl:List Pair)(k:Nat):List Qe:=match o with
 |none=>[]
 |some tr=>if k=0 then [] else vg pl [(hs,tr)]
def Reach.zero{d:Nat}{kd:Option (List Int)}{pl:List Pair}{n:Nat}{q0 q:List Qe}{acc:List Thing}(h:Reach d kd pl 0 q0 n q acc):n=0/\q=q0/\acc=[]:=by
 cases h with
 |start=>exact⟨rfl,rfl,rfl⟩
 |leaf _ h=>lia
 |opn _ h=>lia
def LtQ(d:Nat)(kd:Option (List Int))(a b:Qe):Prop:=ltP (wW d kd a.1) (wW d kd b.1)=true
def QZ(rs:List Qe):D:=.tup (rs.map λx=>.tup ((yg x.2).map D.int))
def zu3(d:Nat)(kd:Option (List Int))(hs:List Thing):Prop:=∀ls us:List Thing,(∀t∈ls,t∈hs)->(∀t∈us,t∈hs)->1<=ls.length->1<=us.length->yY ls≠yY us->Wv (wW d kd ls)≠Wv (wW d kd us)
def zh8{a b:Int}{x y:Int}{r r':List D}(h:SRow.lt ⟨.n a,x,r⟩ ⟨.n b,y,r'⟩=true):ltP (a,x) (b,y)=true:=by
 unfold SRow.lt at h;rw[kC]
 by_cases e:a=b
 ·subst e;simp at h;exact .inr ⟨rfl,h⟩
 ·simp only[SKey.n.injEq,e,if_false,SKey.lt,wJ] at h;exact .inl h
def vF(q:List Qe):Nat:=(q.map λx=>qp x.2).sum
def KY{p q:List Qe}(h:p.Perm q):vF p=vF q:=by
 unfold vF
 induction h with
 |nil=>rfl
 |cons x _ ih=>simp only[zJ,sum_cons,ih]
 |swap x y l=>simp only[zJ,sum_cons];lia
 |trans _ _ h1 h2=>exact h1.trans h2
def Vm(p q:List Qe):vF (p++q)=vF p+vF q:=by unfold vF;rw[zS,List.sum_append]
def za5{p q:List Qe}(h:p.Sublist q):vF p<=vF q:=by
 induction h with
 |slnil=>exact zo _
 |cons x _ ih=>simp[vF] at ih ⊢;lia
 |cons_cons x _ ih=>simp[vF] at ih ⊢;lia
section
variable {P:Program}{w:World}{K:W.Frag}{mg:Str->Option Value}{base:Heap}{f:Addr}{fd:FuncData}
abbrev Jb:Stmt:=top 18
abbrev JM:List Str:=["by_name","trees","plain","kind"]
def zv9:FnScope JM q6 (xg Jb):=⟨rfl,rfl,rfl,x6,rfl,x6,x6⟩
def zc0:("tree" :: JM:List Str).Nodup:=x6
def Vh:TFT:=λds n R=>∃(d:Nat) (hs:List Thing) (kd:Option (List Int)) (pl:List Pair) (q:List Qe),ds=[byN hs,.lst (esQ q),xf pl,vm kd]/\1<=d/\d<=1000/\pl.length=d/\QOk d hs q/\q.length<=2/\(hs.map λt=>t.1).Nodup/\hs.length<=60/\(∀p,kd=some p->p.length<=1000) /\
 R (ksQ d kd (vg pl q)) (esQ (vg pl q)) n
def QOk.len{d:Nat}{hs:List Thing}{q:List Qe}(h:QOk d hs q)(hz:hs.length<=60){x:Qe}(hx:x∈q):x.1.length<=1000:=by
 have h1:(x.1.map λt=>t.1).Nodup:=by
  have hs':x.1.Sublist (vh q):=by
   clear h
   induction q with
   |nil=>simp at hx
   |cons y q ih=>
    rw[vw]
    rcases zi.mp hx with rfl |hx
    ·exact List.sublist_append_left ..
    ·exact(ih hx).trans (wM ..)
  exact(hs'.map _).nodup h.nd
 have h2:x.1.Nodup:=by
  rw[wH,xG] at h1;rw[wH];exact h1.imp λhne e=>hne (congrArg _ e)
 have:=h2.length_le_of_subset (l₂:=hs) λt ht=>h.sub t (vZ.mpr ⟨x,hx,ht⟩);lia
def zA2(T:Blt mg)(F:Fun K "keyed" "keyed" Jb f fd)(F_lie_apart:Fn P w K mg base "lie_apart" 4 2 jI)(F_key_by:Fn P w K mg base "key_by" 2 3 Vi):FnOk P w K mg base CX0 6 f fd q6 (spT K 4 Vh):=by
 refine Fun.okT (k:=5) F zv9 rfl (λ_ _ _ s H E G Z hr=>(zk2 hr (own:=["tree"]) (M:=JM) (vH (by rfl)) rfl (vo rfl (zh 1)) (λ_ _ _ _=>(zV (i:=0) zc0 rfl (lo rfl) w6)) (λ_ _ _ _=>(Vx (zM6 (ZS (wO F_lie_apart (hr.mono w6) rfl (zc (wq xt wo (zh 0) zu (λ_ _=>rfl)) (zc (zh 3) zj))))))) (λ_ _ _ _=>(wO F_key_by (hr.mono w6) rfl (zc (zh 1) (zc (zh 0) (zc (zh 4) zj))))) (λ_ _ _ _=>(zh 0)))) ?_
 rintro ds n R hl ⟨d,hs,kd,pl,q,rfl,hd1,hd2,hpl,ok,hq2,hn,hz,hk,hR⟩;simp[startD,Jy,QF];have hlq:(esQ q).length=q.length:=zg ..
 refine⟨wX w5,λi ks es n'=>n'=n/\ks=ksQ d kd (vg pl (q.take i))/\es=esQ (vg pl (q.take i)),⟨rfl,rfl,rfl⟩,?_,?_⟩
 ·rintro i dd ks es n' e ⟨rfl, rfl, rfl⟩;unfold esQ at e;rw[zt] at e
  cases hx:q[i]? with
  |none=>rw[hx] at e;cases e
  | some x =>
   rw[hx] at e;cases e;have hm:x∈q:=zP hx;have tt:=ok.tree x hm;obtain⟨ta,tb,et,na,nb⟩:=ZD x.2;have nx:=vt x.2
   have hbl:(YG x.2).length=d:=by rw[tt.bd,kW]
   have hix:∀R:D->Prop,R (xf (YG x.2))->Wf (vC x.2) (.int 1) R:=λR h=>by
    rw[et];exact⟨_,1,_,.inr (.inl rfl),rfl,rfl,h⟩
   have hsub:(x.1++vh (q.take i)).Perm (vh (q.take i)++x.1):=wy;have okt:QOk d hs (q.take (i+1)):=ok.sublist (va ..)
   have hnew:wW d kd x.1 ∉ ksQ d kd (vg pl (q.take i)):=λz=>by
    obtain⟨y,hy,e⟩:=zk.mp z;have:=okt.keys kd;rw[xC,hx,zS,wu] at this
    exact this.2.2 _ (zk.mpr ⟨y,(zx.mp hy).1,rfl⟩) _ (zk.mpr ⟨x,by simp,rfl⟩) e
   have hkt:=zd0 (pl:=pl) hx
   refine QT nx (hix _ ⟨YG x.2,pl,rfl,w5,w5,w5,?_⟩)
   simp
   cases ha:vd (YG x.2) pl with
   |true=>
    rw[ha,if_pos rfl,wB] at hkt;rw[hkt];simp
   |false=>
    rw[ha,if_neg (by simp)] at hkt
    simp;refine QT nx ⟨d,hs,x.1,x.2,kd,rfl,hn,tt,λt ht=>ok.sub t (vZ.mpr ⟨x,hm,ht⟩),ok.len hz hm,hk,?_⟩;refine QT nx ⟨(wW d kd x.1).1,(wW d kd x.1).2,rfl,hnew,?_⟩;refine⟨rfl,?_,?_⟩
    ·rw[hkt];unfold ksQ;rw[zS];rfl
    ·rw[hkt];unfold esQ;rw[zS];rfl
 ·rintro ks es n' ⟨rfl,rfl,rfl⟩;rw[hlq,wF];exact hR
abbrev qU:Stmt:=top 19
abbrev jl:List Str:=["gone","house","tree","box","kind","k","by_name","plain","names","looks","waiting","part_names","limits","low","high"]
def yu:FnScope jl q12 (xg qU):=⟨rfl,rfl,rfl,x6,rfl,x6,x6⟩
def Xv:("key" :: jl:List Str).Nodup:=x6
def KU:TF:=λds n R=>∃(d:Nat) (hs:List Thing) (o:Option Tr) (b:List WA) (kd:Option (List Int)) (k:Nat),ds=[.dct [] [],wz d hs,(o.map vC).getD .non,vG b,vm kd,.int k]/\1<=d/\d<=1000/\b.length=d/\(hs.map λt=>t.1).Nodup/\hs.length<=60/\(∀p,kd=some p->p.length<=1000) /\
 (o=none->hs=[])/\(∀tr,o=some tr->TreeOf d hs tr)/\zu3 d kd hs/\∀(n':Nat) (q rs:List Qe) (acc:List Thing),Reach d kd (wR b) k (jA o hs (wR b) k) n' q acc->(q=[]\/acc.length=k)->acc.length<=k->rs.Perm q->rs.Pairwise (LtQ d kd)->R (.tup [.tup (acc.map λt=>.int t.1),.int n',QZ rs]) n
structure JDr(d:Nat)(hs:List Thing)(kd:Option (List Int))(pl:List Pair)(k n:Nat)(q0:List Qe)(g0 g1 g2 g3 g4 g6 g7:Option D)(m:Nat)(rho:Rho)(n':Nat):Prop where
 e:n'=n
 r:∃(q:List Qe) (acc:List Thing) (looks:Nat) (z1 z2 z3 z4:Option D),m=vF q/\Reach d kd pl k q0 looks q acc/\acc.length<=k /\
  rho=[g0,g1,g2,g3,g4,some (.int k),g6,g7,some (.own (acc.map λt=>.int t.1)),some (.int looks),some (.owT (ksQ d kd q) (esQ q)),z1,z2,z3,z4]
def zA6(T:Blt mg)(F:Fun K "drawn_past" "drawn_past" qU f fd)(F_things_by_name:Fn P w K mg base "things_by_name" 1 1 zK2)(F_plain_box:Fn P w K mg base "plain_box" 3 1 jH)(F_keyed:FnT P w K mg base "keyed" 6 4 Vh):FnOk P w K mg base CX0 7 f fd q12 (spD K 6 KU):=by
 refine Fun.okD F yu (λ_ _ _ s H E G Z hr=>(zD (yf (i:=6) yu.nd rfl (lo rfl) (wO F_things_by_name (hr.mono w6) rfl (zc (zh 1) zj)))
  (zD (yf (i:=7) yu.nd rfl (lo rfl) (wO F_plain_box (hr.mono w6) rfl (zc (zh 3) zj)))
  (zD (Xi (i:=8) yu.nd rfl (lo rfl) zj)
  (zD (yf (i:=9) yu.nd rfl (lo rfl) zu)
  (zD (zy1 (i:=10) F_keyed (hr.mono w6) rfl yu.nd rfl (lo rfl) (zc (zh 6) (zc (Wh (PWD.pt (UE (xW qe qc (zh 2) ve (wG _)) (Xg (xW VE Vv (zh 5) zu (wG _))))) (vM zj) (vM (zc (zh 2) zj))) (zc (zh 7) (zc (zh 4) zj)))))
  (zD (zj1 PassesOwn.never (PWD.pt (jW (xW Xp Xe (zN9 (i:=10) T.len) zu (wG _)) (jr (xW zz7 zL7 (UH (i:=8) T.len rfl) (zh 5) (wG _)))))
  (zD (zy2 (i:=10) (m:=15) hr rfl (wc (zs5 rfl (zS0 hr)) zS9 T.min Kw (zc (Qo (i:=10) hr T.list) zj)) (vp (k:=4) rfl rfl (xl (zV (i:=11) yu.nd rfl (lo rfl) w6) (xl (zV (i:=12) yu.nd rfl (lo rfl) w6) (xl (zV (i:=13) yu.nd rfl (lo rfl) w6) (xl (zV (i:=14) yu.nd rfl (lo rfl) w6) yR))))))
  (zD (zy4 xg1 (i:=9) yu.nd rfl (lo rfl) zu)
  (zR (vn (xW Xp Xe (wc wD kI T.len kh (zc (zh 11) zj)) zu (wG _)) (zR (zy0 (i:=10) F_keyed (hr.mono w6) rfl (zc (zh 6) (zc (vM (zc (zh 13) (zc (zh 14) zj))) (zc (zh 7) (zc (zh 4) zj)))))) (zR (vn (xW (zk5 (zS0 hr)) zX7 (wq xt wo (zh 11) zu (λ_ _=>rfl)) (zh 0) (by with_unfolding_all rfl)) (zR (kK (i:=8) (zc (wq xt wo (zh 11) zu (λ_ _=>rfl)) zj) rfl)) wP)))))))
  (zR (ZT 8 (xE (yV (zc (vf yv ka T.tuple kc (zc (zh 8) zj)) (zc (zh 9) (zc (vf yv ka T.tuple kc (zc (vA (own:=["key"]) (M:=jl) (vH (by rfl)) rfl (vo rfl (wc (WX hr) (QH rfl) T.sorted ZF (zc (Qo (i:=10) hr T.list) zj))) (λ_ _ _ _=>(zV (i:=0) Xv rfl (lo rfl) w6)) (λ_ _ _ _=>yQ) (λ_ _ _ _=>(wq xt wo (xc0 (i:=11) hr rfl (zh 0) (λ_ _=>rfl)) zu (λ_ _=>rfl)))) zj)) zj)))))))))))))) ?_
 generalize hB:Vu (zL0 10 _ _) _=B;generalize hS:xj4 8 _=Sr;generalize hW:Vu (zh6 _ _) _=Wl;rintro ds n R hl ⟨d,hs,o,b,kd,k,rfl,hd1,hd2,hb,hn,hz,hk,ho1,ho2,hH,hR⟩;have nh:=vL d hs;have nb:xT (vG b)=true:=rfl
 have no:xT ((o.map vC).getD .non)=true:=by cases o with |none=>rfl |some t=>exact vt t
 have hpl:(wR b).length=d:=by rw[ZU];exact hb
 generalize hpe:wR b=pl at *
 have fin:∀(F:EndsD) (q:List Qe) (acc:List Thing) (looks:Nat) (z1 z2 z3 z4:Option D),F.rt=R->QOk d hs q->acc.length<=60->(∀rs:List Qe,rs.Perm q->rs.Pairwise (LtQ d kd)->R (.tup [.tup (acc.map λt=>.int t.1),.int looks,QZ rs]) n) ->
   Sr F [some (.dct [] []),some (wz d hs),some ((o.map vC).getD .non),some (vG b),some (vm kd),some (.int k),some (byN hs),some (xf pl),some (.own (acc.map λt=>.int t.1)),some (.int looks),some (.owT (ksQ d kd q) (esQ q)),z1,z2,z3,z4] n:=λF q acc looks z1 z2 z3 z4 hF ok hal ht=>by
  subst hS
  have hql:q.length<=60:=by
   have h1:=ok.heads
   have h2:(q.map λx=>yY x.1).length<=(hs.map λt=>t.1).length:=h1.length_le_of_subset λa ha=>by
    obtain⟨x,hx,rfl⟩:=zk.mp ha;obtain⟨t,ht,e⟩:=vD (ok.tree x hx).ne;exact zk.mpr ⟨t,ok.sub t (vZ.mpr ⟨x,hx,ht⟩),e⟩
   rw[zg,zg] at h2;lia
  simp[hF]
  refine⟨q.map λx=>⟨.n (Yd d kd x.1),yY x.1,[]⟩,true,?_,by rw[zg];lia,?_,?_,λrows hp hs'=>⟨_,.inl rfl,?_⟩⟩
  ·unfold ksQ;rw[zE,zE];rfl
  ·intro x hx;obtain⟨_,_,rfl⟩:=zk.mp hx;rfl
  ·rw[zE];exact ok.heads
  ·obtain ⟨rs, hrp, rfl⟩ := Qm hp;rw[zE]
   refine yd (SRow.d∘λx:Qe=>(⟨.n (Yd d kd x.1),yY x.1,[]⟩:SRow)) (λx=>.tup ((yg x.2).map D.int)) rs (wX (by rw[hrp.length_eq];lia)) (λx hx R' hR'=>?_) ?_
   ·have e:(SRow.d∘λx:Qe=>(⟨.n (Yd d kd x.1),yY x.1,[]⟩:SRow)) x=.tup [.int (wW d kd x.1).1,.int (wW d kd x.1).2]:=rfl;have hat:=JF (f:=λx:Qe=>wW d kd x.1) (g:=λx=>vC x.2) (hrp.mem_iff.mp hx) (ok.keys kd);obtain⟨ta,tb,et,na,nb2⟩:=ZD x.2;rw[e];simp;refine⟨_,_,⟨rfl,rfl⟩,_,_,⟨rfl,rfl⟩,_,hat,?_⟩;show Wf (vC x.2) _ _;rw[et];exact⟨_,0,_,.inr (.inl rfl),rfl,rfl,hR'⟩
   ·simp;refine ht rs hrp ?_;rw[xG] at hs';exact hs'.imp λ{a b} h=>zh8 h
 have loop:∀(F:EndsD) (q0:List Qe),F.rt=R->q0=jA o hs pl k->(1<=k->DOk d hs kd pl q0 [])->(k=0->q0=[]) ->
   Wl F [some (.dct [] []),some (wz d hs),some ((o.map vC).getD .non),some (vG b),some (vm kd),some (.int k),some (byN hs),some (xf pl),some (.own []),some (.int 0),some (.owT (ksQ d kd q0) (esQ q0)),none,none,none,none] n:=λF q0 hF hq0 h1 h0=>by
  subst hW;simp;refine⟨JDr d hs kd pl k n q0 _ _ _ _ _ _ _,⟨vF q0,rfl,q0,[],0,none,none,none,none,rfl,.start,wa _,rfl⟩,?_⟩;rintro m rho n' ⟨rfl,q,acc,looks,z1,z2,z3,z4,rfl,hRe,hle,rfl⟩;have hD:1<=k->DOk d hs kd pl q acc:=λh=>hRe.dok hd1 hpl (h1 h)
  have okq:QOk d hs q:=by
   by_cases e:k=0
   ·subst e;obtain⟨_,e2,_⟩:=hRe.zero
    rw[e2,h0 rfl];exact⟨by simp,by simp[vh],by simp[vh]⟩
   ·exact(hD w5).ok
  have hlen:acc.length<=60:=by
   by_cases e:k=0
   ·lia
   ·have h2 := (hD w5).perm.length_eq
    have h3:(jz pl hs).length<=hs.length:=yk ..;rw[zI] at h2;lia
  have kl:(ksQ d kd q).length=q.length:=zg ..;have told:acc.length=k\/q=[]->∀rs:List Qe,rs.Perm q->rs.Pairwise (LtQ d kd)->R (.tup [.tup (acc.map λt=>.int t.1),.int looks,QZ rs]) n':=λh rs p1 p2=>hR looks q rs acc (hq0 ▸ hRe) h.symm hle p1 p2;simp;rw[kl]
  split
  ·rename_i hpos
   split
   ·rename_i hlt
    have D0:=hD w5
    have hlt':acc.length<k:=hlt;subst hB;simp
    refine⟨ksQ d kd q,_,⟨rfl,rfl⟩,ksQ d kd q,rfl,by rw[kl];exact hpos,λmk hmk hmin=>?_⟩
    obtain⟨⟨ts,tr⟩,hx,rfl⟩:=zk.mp hmk;have tt:TreeOf d ts tr:=okq.tree _ hx;have hat:atP (ksQ d kd q) (esQ q) (wW d kd ts)=some (vC tr):=JF (f:=λx:Qe=>wW d kd x.1) (g:=λx=>vC x.2) hx (okq.keys kd);have hdk:YE (ksQ d kd q) (wW d kd ts)=ksQ d kd (ZW (λy:Qe=>wW d kd y.1) q (wW d kd ts)):=zq4 ..;have hde:dropE (ksQ d kd q) (esQ q) (wW d kd ts)=esQ (ZW (λy:Qe=>wW d kd y.1) q (wW d kd ts)):=Kl ..;have hmin':∀y∈q,ltP (wW d kd y.1) (wW d kd ts)=false:=λy hy=>hmin _ (zk.mpr ⟨y,hy,rfl⟩);have hsz:vF ((ts,tr)::ZW (λy:Qe=>wW d kd y.1) q (wW d kd ts))=vF q:=KY (jt (f:=λy:Qe=>wW d kd y.1) hx (okq.keys kd))
    have hsz:qp tr+vF (ZW (λy:Qe=>wW d kd y.1) q (wW d kd ts))=vF q:=by rw[<- hsz];simp[vF]
    have leaf:∀t bd,ts=[t]->tr=.one t.1 bd->Reach d kd pl k q0 (looks+1) (ZW (λy:Qe=>wW d kd y.1) q (wW d kd ts)) (acc++[t]):=λt bd e e2=>by subst e e2;exact hRe.leaf hlt' hx hmin'
    have opR:∀ns bd lo hi ls us,tr=.two ns bd lo hi->(ls++us).Perm ts->TreeOf d ls lo->TreeOf d us hi->Reach d kd pl k q0 (looks+1) (ZW (λy:Qe=>wW d kd y.1) q (wW d kd ts)++vg pl [(ls,lo),(us,hi)]) acc:=λns bd lo hi ls us e a1 a2 a3=>by subst e;exact hRe.opn hlt' hx hmin' a1 a2 a3
    have opn:=fun(ls us:List Thing) (lo hi:Tr) h1 h2 h3=>D0.open (ls:=ls) (us:=us) (lo:=lo) (hi:=hi) hd1 hpl hx h1 h2 h3;refine⟨(wW d kd ts).1,(wW d kd ts).2,rfl,vC tr,hat,?_⟩;rw[show((wW d kd ts).1,(wW d kd ts).2)=wW d kd ts from rfl,hdk,hde];generalize ZW (λy:Qe=>wW d kd y.1) q (wW d kd ts)=q' at *
    cases tt with
    |@one t ht=>
     have D1:=leaf t _ rfl rfl
     have h6:acc.length<sizeLine:=lt_size w5
     simp[vC];rw[if_pos (show atK [] [] (Sum.inl t.1)=(none:Option D) from rfl)];have s1:qp (.one t.1 (Zn d [t.2.1]))=1:=rfl
     exact⟨h6,vF q',w5,rfl,q',acc++[t],looks+1,_,_,_,_,rfl,D1,by rw[zI];simp;lia,by rw[zS];rfl⟩
    | @two ts ls us ns lo hi p hp hs1 t1 t2 =>
     obtain⟨D1,okB⟩:=opn ls us lo hi p t1 t2;have R1:=opR _ _ lo hi ls us rfl p t1 t2;have nl:=vt lo;have nh2:=vt hi
     have hns:ns.length=ts.length:=by rw[hp.length_eq,zg]
     have h2:1<ns.length:=by
      have:=t1.ne;have:=t2.ne;have:=p.length_eq;rw[zI] at this;lia
     simp[vC,nl,nh2]
     rw[if_pos w5]
     have okK:QOk d hs (q'++vg pl [(ls,lo),(us,hi)]):=D1.ok;have okT:QOk d hs [(ls,lo),(us,hi)]:=okB.sublist (wM ..);have s1:qp (.two ns (Zn d (ts.map λt=>t.2.1)) lo hi)=1+qp lo+qp hi:=rfl;have s2:vF (vg pl [(ls,lo),(us,hi)])<=vF [(ls,lo),(us,hi)]:=za5 filter_sublist
     have s3:vF [(ls,lo),(us,hi)]=qp lo+qp hi:=by simp[vF]
     have hkk:=okK.keys kd
     have hlenK:(q'++vg pl [(ls,lo),(us,hi)]).length<=60:=by
      have h3:=okK.heads
      have h4:((q'++vg pl [(ls,lo),(us,hi)]).map λx=>yY x.1).length<=(hs.map λt=>t.1).length:=h3.length_le_of_subset λa ha=>by
       obtain⟨x,hx,rfl⟩:=zk.mp ha;obtain⟨t,ht,e⟩:=vD (okK.tree x hx).ne;exact zk.mpr ⟨t,okK.sub t (vZ.mpr ⟨x,hx,ht⟩),e⟩
      rw[zg,zg] at h4;lia
     have hash2:((ksQ d kd (vg pl [(ls,lo),(us,hi)])).map Wv).Nodup:=by
      have z:((ksQ d kd [(ls,lo),(us,hi)]).map Wv).Nodup:=by
       have hsub:∀t∈ls++us,t∈hs:=λt ht=>okT.sub t (by simpa [vh] using ht)
       have hne:yY ls≠yY us:=by
        have:=okT.heads
        simpa using this
       have:=hH ls us (λt ht=>hsub t (xj _ ht)) (λt ht=>hsub t (zr _ ht)) t1.ne t2.ne hne
       simpa [ksQ] using this
      exact((List.filter_sublist.map _).map _).nodup z
     have ksA:ksQ d kd q'++ksQ d kd (vg pl [(ls,lo),(us,hi)])=ksQ d kd (q'++vg pl [(ls,lo),(us,hi)]):=by unfold ksQ;rw[zS]
     have esA:esQ q'++esQ (vg pl [(ls,lo),(us,hi)])=esQ (q'++vg pl [(ls,lo),(us,hi)]):=by unfold esQ;rw[zS]
     refine⟨_,_,⟨rfl,rfl⟩,d,hs,kd,pl,[(ls,lo),(us,hi)],rfl,hd1,hd2,hpl,okT,by simp,hn,hz,hk,?_⟩
     dsimp only;rw[ksA,esA]
     refine⟨hkk,wX ?_,λ_=>hash2,vF (q'++vg pl [(ls,lo),(us,hi)]),by rw[Vm];lia,rfl,_,acc,looks+1,_,_,_,_,rfl,R1,hle,rfl⟩
     have l1:(ksQ d kd q').length=q'.length:=zg ..;have l2:(ksQ d kd (vg pl [(ls,lo),(us,hi)])).length=(vg pl [(ls,lo),(us,hi)]).length:=zg ..;rw[l1,l2,<- zI];lia
   ·exact fin _ _ _ _ _ _ _ _ hF okq hlen (told (.inl w5))
  ·exact fin _ _ _ _ _ _ _ _ hF okq hlen (told (.inr (zX.mp w5)))
 simp[startD,nh,nb,no]
 refine⟨_,hs,rfl,hn,w5,⟨b,rfl,w5,?_⟩⟩
 rw[hpe];have kd0:∀(q:List Qe) (R':List (Int × Int)->List D->Nat->Prop),QOk d hs q->q.length<=2->R' (ksQ d kd (vg pl q)) (esQ (vg pl q)) n->Vh [byN hs,.lst (esQ q),xf pl,vm kd] n R':=λq R' h1 h2 h3=>⟨d,hs,kd,pl,q,rfl,hd1,hd2,hpl,h1,h2,hn,hz,hk,h3⟩
 have none0:QOk d hs []:=⟨by simp,by simp[vh],by simp[vh]⟩
 cases o with
 |none=>
  simp
  exact kd0 [] _ none0 (by simp) (loop _ [] rfl rfl (λ_=>.none (ho1 rfl)) λ_=>rfl)
 | some tr =>
  have ni:jg (vC tr)=false:=by cases tr<;>rfl
  have nt:=vt tr;have tt:=ho2 tr rfl;simp[ni,nt]
  split
  ·rename_i h0
   exact kd0 [] _ none0 (by simp) (loop _ [] rfl (by simp[jA,h0]) (λh=>by lia) λ_=>rfl)
  ·rename_i h0
   have ok1:QOk d hs [(hs,tr)]:=⟨λx hx=>by rw[zG.mp hx];exact tt,λt ht=>by simpa [vh] using ht,by simpa [vh] using hn⟩
   exact kd0 [(hs,tr)] _ ok1 (by simp) (loop _ _ rfl (by simp[jA,h0]) (λ_=>.start hd1 hpl tt hn) λh=>absurd h h0)
abbrev Jc:Stmt:=top 20
abbrev zT7:List Str:=["house","tree","box","kind","k"]
def zw0:FnScope zT7 q7 (xg Jc):=⟨rfl,rfl,rfl,x6,rfl,x6,x6⟩
def Vj:TF:=λds n R=>∃(d:Nat) (hs:List Thing) (o:Option Tr) (b:List WA) (kd:Option (List Int)) (k:Nat),ds=[wz d hs,(o.map vC).getD .non,vG b,vm kd,.int k]/\1<=d/\d<=1000/\b.length=d/\(hs.map λt=>t.1).Nodup/\hs.length<=60/\(∀p,kd=some p->p.length<=1000) /\
 (o=none->hs=[])/\(∀tr,o=some tr->TreeOf d hs tr)/\zu3 d kd hs/\∀(n':Nat) (q rs:List Qe) (acc:List Thing),Reach d kd (wR b) k (jA o hs (wR b) k) n' q acc->(q=[]\/acc.length=k)->acc.length<=k->rs.Perm q->rs.Pairwise (LtQ d kd)->R (.tup [.tup (acc.map λt=>.int t.1),.int n',QZ rs]) n
def zA5(F:Fun K "drawn" "drawn" Jc f fd)(F_drawn_past:Fn P w K mg base "drawn_past" 7 6 KU):FnOk P w K mg base CX0 8 f fd q7 (spD K 5 Vj):=by
 refine Fun.okD F zw0 (λ_ _ _ s H E G Z hr=>(zR (xE (wO F_drawn_past (hr.mono w6) rfl (zc zO1 (zc (zh 0) (zc (zh 1) (zc (zh 2) (zc (zh 3) (zc (zh 4) zj)))))))))) ?_
 rintro ds n R hl ⟨d,hs,o,b,kd,k,rfl,h⟩;have nh:=vL d hs;have nb:xT (vG b)=true:=rfl
 have no:xT ((o.map vC).getD .non)=true:=by cases o with |none=>rfl |some t=>exact vt t
 simp[startD,nh,nb,no];exact⟨d,hs,o,b,kd,k,rfl,h⟩
end
def Js{a b:List Thing}(h:a.Perm b)(h1:1<=a.length):yY a=yY b:=by
 obtain⟨t,ht,e⟩:=vD h1
 obtain⟨u,hu,e2⟩:=vD (ts:=b) (by rw[<- h.length_eq];exact h1)
 have i1:=ZB (h.mem_iff.mpr hu);have i2:=ZB (h.mem_iff.mp ht);lia
def zn9{d:Nat}{kd:Option (List Int)}{a b:List Thing}(h:a.Perm b)(h1:1<=a.length):wW d kd a=wW d kd b:=by
 have i1:Yd d kd b<=Yd d kd a:=VR (λt ht=>h.mem_iff.mp ht) h1
 have i2:Yd d kd a<=Yd d kd b:=VR (λt ht=>h.mem_iff.mpr ht) (by rw[<- h.length_eq];exact h1)
 unfold wW
 rw[Js h h1,show Yd d kd a=Yd d kd b by lia]
def ofN(hs:List Thing)(tr:Tr):List Thing:=hs.filter λt=>decide (t.1∈yg tr)
noncomputable def kT(d:Nat)(kd:Option (List Int))(hs:List Thing)(tr:Tr):Int × Int:=wW d kd (ofN hs tr)
def Yv{hs:List Thing}(hn:(hs.map λt=>t.1).Nodup):hs.Nodup:=by
 rw[wH,xG] at hn;rw[wH];exact hn.imp λhne e=>hne (congrArg _ e)
def JS{hs:List Thing}(hn:(hs.map λt=>t.1).Nodup){t u:Thing}(ht:t∈hs)(hu:u∈hs)(e:t.1=u.1):t=u:=by
 have h:=ZG ht hn;have h2:=ZG hu hn;rw[e,h2] at h;have h3:xD u=xD t:=zF h;obtain⟨a,p,w⟩:=t;obtain⟨b,q,v⟩:=u;unfold xD wY at h3;injection h3 with h3;injection h3 with x1 h3;injection h3 with x2 h3;injection h3 with x3 _;injection x1 with x1;injection x2 with x2;injection x3 with x3
 have x4:q=p:=by
  have inj:∀a b:List Int,a.map D.int=b.map D.int->a=b:=λa=>by
   induction a with
   |nil=>intro b h;cases b with |nil=>rfl |cons=>simp at h
   | cons x a ih =>
    intro b h
    cases b with
    |nil=>simp at h
    |cons y b=>
     simp only[zJ,List.cons.injEq,D.int.injEq] at h;rw[h.1,ih b h.2]
  exact inj q p x2
 have x1':b=a:=x1;have x3':v=w:=x3;rw[x1',x3',x4]
def TreeOf.ofN{d:Nat}{hs ts:List Thing}{tr:Tr}(h:TreeOf d ts tr)(hn:(hs.map λt=>t.1).Nodup)(hsub:∀t∈ts,t∈hs)(hnt:(ts.map λt=>t.1).Nodup):(ofN hs tr).Perm ts:=by
 refine(List.perm_ext_iff_of_nodup (List.filter_sublist.nodup (Yv hn)) (Yv hnt)).mpr λt=>?_;obtain⟨hp,_⟩:=h.names
 constructor
 ·intro ht;obtain⟨h1,h2⟩:=zx.mp ht;obtain⟨u,hu,e⟩:=zk.mp (hp.mem_iff.mp (of_decide_eq_true h2));rw[<- JS hn (hsub u hu) h1 e];exact hu
 ·intro ht;exact zx.mpr ⟨hsub t ht,xo (hp.mem_iff.mpr (zk.mpr ⟨t,ht,rfl⟩))⟩
def TreeOf.keyOf{d:Nat}{kd:Option (List Int)}{hs ts:List Thing}{tr:Tr}(h:TreeOf d ts tr)(hn:(hs.map λt=>t.1).Nodup)(hsub:∀t∈ts,t∈hs)(hnt:(ts.map λt=>t.1).Nodup):kT d kd hs tr=wW d kd ts:=by
 have p:=h.ofN hn hsub hnt
 exact zn9 p (by rw[p.length_eq];exact h.ne)
def vq(pl:List Pair):Tr->List Tr
 |.one x bd=>if vd bd pl=true then [] else [.one x bd]
 |.two ns bd l h=>if vd bd pl=true then [] else .two ns bd l h::(vq pl l++vq pl h)
noncomputable def yZ(d:Nat)(kd:Option (List Int))(hs:List Thing)(pl:List Pair)(L:Int × Int):Tr->List Tr
 |.one x bd=>if vd bd pl=true then [] else if ltP L (kT d kd hs (.one x bd))=true then [.one x bd] else []
 |.two ns bd l h=>if vd bd pl=true then [] else if ltP L (kT d kd hs (.two ns bd l h))=true then [.two ns bd l h] else yZ d kd hs pl L l++yZ d kd hs pl L h
def ZX{pl:List Pair}{tr:Tr}(h:vd (YG tr) pl=true):vq pl tr=[]:=by
 cases tr<;>exact if_pos h
def XM{d:Nat}{kd:Option (List Int)}{hs:List Thing}{L:Int × Int}{pl:List Pair}{tr:Tr}(h:vd (YG tr) pl=true):yZ d kd hs pl L tr=[]:=by
 cases tr<;>(unfold yZ;exact if_pos h)
def Jv{d:Nat}{kd:Option (List Int)}{hs:List Thing}{L:Int × Int}{pl:List Pair}{tr:Tr}(h:vd (YG tr) pl=false)(h2:ltP L (kT d kd hs tr)=true):yZ d kd hs pl L tr=[tr]:=by
 have h':¬ vd (YG tr) pl=true:=by rw[h];simp
 cases tr with
 |one x bd=>unfold yZ;exact(if_neg h').trans (if_pos h2)
 |two ns bd l hh=>unfold yZ;exact(if_neg h').trans (if_pos h2)
theorem jf{α:Type}(f:Tr->List α){pl:List Pair}(hf:∀tr,vd (YG tr) pl=true->f tr=[]):∀q:List Qe,((vg pl q).flatMap λx=>f x.2)=q.flatMap λx=>f x.2
 |[]=>rfl
 | x :: q => by
  have ih:=jf f hf q;rw[wb]
  cases ha:vd (YG x.2) pl with
  |true=>
   have e:vg pl (x::q)=vg pl q:=by unfold vg;rw[xp (by simp[ha])]
   rw[e,ih,hf x.2 ha,wg]
  |false=>
   have e:vg pl (x::q)=x::vg pl q:=by unfold vg;rw[xn (by simp[ha])]
   rw[e,wb,ih]
structure POk(d:Nat)(kd:Option (List Int))(hs:List Thing)(pl:List Pair)(k:Nat)(all:List Tr)(front:(Int × Int)->List Tr)(n:Nat)(q:List Qe)(acc:List Thing)(P:List Tr):Prop where
 len:P.length=n
 perm:(P++q.flatMap λx=>vq pl x.2).Perm all
 lo:∀p∈P,∀x∈q,ltP (wW d kd x.1) (kT d kd hs p)=false
 fin:acc.length=k->1<=k->∃t,acc.getLast?=some t/\(∀p∈P,ltP (wW d kd [t]) (kT d kd hs p)=false)/\∀x∈q,ltP (wW d kd [t]) (wW d kd x.1)=true
 frn:∀L,(∀p∈P,ltP L (kT d kd hs p)=false)->(q.flatMap λx=>yZ d kd hs pl L x.2).Perm (front L)
def QOk.keyOf{d:Nat}{kd:Option (List Int)}{hs:List Thing}{q:List Qe}(h:QOk d hs q)(hn:(hs.map λt=>t.1).Nodup){x:Qe}(hx:x∈q):kT d kd hs x.2=wW d kd x.1:=by
 have hsl:x.1.Sublist (vh q):=by
  clear h
  induction q with
  |nil=>simp at hx
  |cons y q ih=>
   rw[vw]
   rcases zi.mp hx with rfl |hx
   ·exact List.sublist_append_left ..
   ·exact(ih hx).trans (wM ..)
 exact(h.tree x hx).keyOf hn (λt ht=>h.sub t (hsl.mem ht)) ((hsl.map _).nodup h.nd)
def YO{d:Nat}{kd:Option (List Int)}{ls ts:List Thing}(h:∀t∈ls,t∈ts)(h1:1<=ls.length):ltP (wW d kd ls) (wW d kd ts)=false:=by
 cases e:ltP (wW d kd ls) (wW d kd ts) with
 |false=>rfl
 |true=>
  rw[kC] at e;have i1:Yd d kd ts<=Yd d kd ls:=VR h h1;obtain⟨t,ht,et⟩:=vD h1;have i2:yY ts<=t.1:=ZB (h t ht);have e':Yd d kd ls<Yd d kd ts\/Yd d kd ls=Yd d kd ts/\yY ls<yY ts:=e;lia
def Reach.pok{d:Nat}{hs:List Thing}{kd:Option (List Int)}{pl:List Pair}{k n:Nat}{q0 q:List Qe}{acc:List Thing}(hd:1<=d)(hp:pl.length=d)(hn:(hs.map λt=>t.1).Nodup)(h0:DOk d hs kd pl q0 [])(h:Reach d kd pl k q0 n q acc) :
  ∃P,POk d kd hs pl k (q0.flatMap λx=>vq pl x.2) (λL=>q0.flatMap λx=>yZ d kd hs pl L x.2) n q acc P:=by
 induction h with
 |start=>exact⟨[],rfl,by simp,by simp,λh1 h2=>by simp at h1;lia,λL _=>.refl _⟩
 | @leaf n q acc t bd hR hlt hx hm ih =>
  obtain⟨P,ok⟩:=ih;have D0:=hR.dok hd hp h0;have hk:=D0.ok.keyOf (kd:=kd) hn hx;have hpm:(([t],Tr.one t.1 bd)::ZW (λy:Qe=>wW d kd y.1) q (wW d kd [t])).Perm q:=jt (f:=λy:Qe=>wW d kd y.1) hx (D0.ok.keys kd);have okp:=D0.ok.perm hpm
  have hin:¬ vd bd pl=true:=by have:=D0.inb _ hx;show ¬ vd (YG (Tr.one t.1 bd)) pl=true;rw[this];simp
  generalize ZW (λy:Qe=>wW d kd y.1) q (wW d kd [t])=q' at *
  have hlast:∀x∈q',ltP (wW d kd [t]) (wW d kd x.1)=true:=λx hx'=>by
   refine UV (hm x (hpm.mem_iff.mp (zm _ hx'))) ?_;have:=okp.heads;rw[zJ,xz] at this;exact λe=>this.1 (zk.mpr ⟨x,hx',e⟩)
  refine⟨P++[.one t.1 bd],by simp[ok.len],?_,λp hp' x hx'=>?_,λ_ _=>⟨t,by simp,λp hp'=>?_,hlast⟩,λL hL=>?_⟩
  ·refine List.Perm.trans ?_ ok.perm;rw[yG];refine List.Perm.append_left P ?_;refine List.Perm.trans ?_ (hpm.flatMap_right λx=>vq pl x.2);rw[wb,show vq pl ([t],Tr.one t.1 bd).2=[.one t.1 bd] from if_neg hin]
  ·rcases zW.mp hp' with hp' | hp'
   ·exact ok.lo p hp' x (hpm.mem_iff.mp (zm _ hx'))
   ·rw[zG.mp hp',show kT d kd hs (.one t.1 bd)=wW d kd [t] from hk];exact hm x (hpm.mem_iff.mp (zm _ hx'))
  ·rcases zW.mp hp' with hp' | hp'
   ·exact ok.lo p hp' _ hx
   ·rw[zG.mp hp',show kT d kd hs (.one t.1 bd)=wW d kd [t] from hk];exact Yb _
  ·refine List.Perm.trans ?_ (ok.frn L λp hp' => hL p (xj _ hp'));refine List.Perm.trans ?_ (hpm.flatMap_right λx=>yZ d kd hs pl L x.2)
   have e:yZ d kd hs pl L (.one t.1 bd)=[]:=by
    unfold yZ;rw[if_neg hin,if_neg]
    rw[hL (.one t.1 bd) (by simp)]
    simp
   rw[wb,show yZ d kd hs pl L ([t],Tr.one t.1 bd).2=[] from e,wg]
 | @opn n q acc ts ls us ns bd lo hi hR hlt hx hm h1 h2 h3 ih =>
  obtain⟨P,ok⟩:=ih;have D0:=hR.dok hd hp h0;have hk:=D0.ok.keyOf (kd:=kd) hn hx;have hpm:((ts,Tr.two ns bd lo hi)::ZW (λy:Qe=>wW d kd y.1) q (wW d kd ts)).Perm q:=jt (f:=λy:Qe=>wW d kd y.1) hx (D0.ok.keys kd)
  have hin:¬ vd bd pl=true:=by have:=D0.inb _ hx;show ¬ vd (YG (Tr.two ns bd lo hi)) pl=true;rw[this];simp
  generalize ZW (λy:Qe=>wW d kd y.1) q (wW d kd ts)=q' at *
  have sub:∀x∈vg pl [(ls,lo),(us,hi)],ltP (wW d kd x.1) (wW d kd ts)=false:=λx hx'=>by
   have:=(zx.mp hx').1;simp only[zi,zZ,or_false] at this
   rcases this with rfl |rfl
   ·exact YO (λt ht=>h1.mem_iff.mp (xj _ ht)) h2.ne
   ·exact YO (λt ht=>h1.mem_iff.mp (zr _ ht)) h3.ne
  refine⟨P++[.two ns bd lo hi],by simp[ok.len],?_,λp hp' x hx'=>?_,λh _=>by lia,λL hL=>?_⟩
  ·refine List.Perm.trans ?_ ok.perm;rw[yG];refine List.Perm.append_left P ?_;refine List.Perm.trans ?_ (hpm.flatMap_right λx=>vq pl x.2);have e:vq pl (.two ns bd lo hi)=.two ns bd lo hi::(vq pl lo++vq pl hi):=if_neg hin;rw[wb,List.flatMap_append,jf _ (λtr=>ZX),show vq pl (ts,Tr.two ns bd lo hi).2=_ from e];simp only[wb,List.flatMap_nil,wB,List.cons_append,List.singleton_append];rw[wg];exact List.Perm.cons _ wy
  ·rcases zW.mp hp' with hp' | hp'
   ·rcases zW.mp hx' with hx' | hx'
    ·exact ok.lo p hp' x (hpm.mem_iff.mp (zm _ hx'))
    ·exact Qu (ok.lo p hp' _ hx) (sub x hx')
   ·rw [zG.mp hp', show kT d kd hs (.two ns bd lo hi) = wW d kd ts from hk]
    rcases zW.mp hx' with hx' |hx'
    ·exact hm x (hpm.mem_iff.mp (zm _ hx'))
    ·exact sub x hx'
  ·refine List.Perm.trans ?_ (ok.frn L λp hp' => hL p (xj _ hp'));refine List.Perm.trans ?_ (hpm.flatMap_right λx=>yZ d kd hs pl L x.2)
   have e:yZ d kd hs pl L (.two ns bd lo hi)=yZ d kd hs pl L lo++yZ d kd hs pl L hi:=by
    conv=>lhs;unfold yZ
    rw[if_neg hin,if_neg]
    rw[hL (.two ns bd lo hi) (by simp)]
    simp
   rw[wb,List.flatMap_append,jf _ (λtr=>XM),show yZ d kd hs pl L (ts,Tr.two ns bd lo hi).2=_ from e];simp only[wb,List.flatMap_nil,wB];exact wy
def TreeOf.openK{d:Nat}{kd:Option (List Int)}{hs:List Thing}{pl:List Pair}(hn:(hs.map λt=>t.1).Nodup){ts:List Thing}{tr:Tr}(h:TreeOf d ts tr):(∀t∈ts,t∈hs)->(ts.map λt=>t.1).Nodup->∀y∈vq pl tr,ltP (kT d kd hs y) (wW d kd ts)=false:=by
 induction h with
 |@one t hl=>
  intro hsub hnt y hy;unfold vq at hy
  split at hy
  ·simp at hy
  ·rw[zG.mp hy,(TreeOf.one hl).keyOf hn hsub hnt];exact Yb _
 | @two ts ls us ns lo hi p hp hs1 t1 t2 ih1 ih2 =>
  intro hsub hnt y hy;have hnp:((ls++us).map λt=>t.1).Nodup:=(p.map _).nodup_iff.mpr hnt;rw[zS,wu] at hnp;unfold vq at hy
  split at hy
  ·simp at hy
  ·rcases zi.mp hy with rfl | hy
   ·rw[(TreeOf.two p hp hs1 t1 t2).keyOf hn hsub hnt];exact Yb _
   ·rcases zW.mp hy with hy | hy
    ·exact Qu (YO (λt ht=>p.mem_iff.mp (xj _ ht)) t1.ne) (ih1 (λt ht=>hsub t (p.mem_iff.mp (xj _ ht))) hnp.1 y hy)
    ·exact Qu (YO (λt ht=>p.mem_iff.mp (zr _ ht)) t2.ne) (ih2 (λt ht=>hsub t (p.mem_iff.mp (zr _ ht))) hnp.2.1 y hy)
def QOk.sub1{d:Nat}{hs:List Thing}{q:List Qe}(h:QOk d hs q){x:Qe}(hx:x∈q):(∀t∈x.1,t∈hs)/\(x.1.map λt=>t.1).Nodup:=by
 have hsl:x.1.Sublist (vh q):=by
  clear h
  induction q with
  |nil=>simp at hx
  |cons y q ih=>
   rw[vw]
   rcases zi.mp hx with rfl |hx
   ·exact List.sublist_append_left ..
   ·exact(ih hx).trans (wM ..)
 exact⟨λt ht=>h.sub t (hsl.mem ht),(hsl.map _).nodup h.nd⟩
section
variable {d:Nat}{kd:Option (List Int)}{hs:List Thing}{pl:List Pair}{k n:Nat}{all:List Tr}{front:(Int × Int)->List Tr}{q:List Qe}{acc:List Thing}{P:List Tr}
def POk.looks0(h:POk d kd hs pl k all front n [] acc P):n=all.length:=by
 have:=h.perm.length_eq;rw[<- this,<- h.len];simp
def POk.looks1(hn:(hs.map λt=>t.1).Nodup)(ok:QOk d hs q)(h:POk d kd hs pl k all front n q acc P){t:Thing}(h1:∀p∈P,ltP (wW d kd [t]) (kT d kd hs p)=false)(h2:∀x∈q,ltP (wW d kd [t]) (wW d kd x.1)=true) :
  n=(all.filter λy=>!ltP (wW d kd [t]) (kT d kd hs y)).length:=by
 have e:=(h.perm.filter λy=>!ltP (wW d kd [t]) (kT d kd hs y)).length_eq
 rw[<- e,ym,zI,List.filter_eq_self.mpr λp hp=>by rw[h1 p hp];rfl,h.len]
 have z:((q.flatMap λx=>vq pl x.2).filter λy=>!ltP (wW d kd [t]) (kT d kd hs y))=[]:=List.filter_eq_nil_iff.mpr λy hy=>by
  obtain⟨x,hx,hy⟩:=List.mem_flatMap.mp hy;obtain⟨s1,s2⟩:=ok.sub1 hx;have i1:=(ok.tree x hx).openK (kd:=kd) (pl:=pl) hn s1 s2 y hy;have i2:=h2 x hx
  have i3:ltP (wW d kd [t]) (kT d kd hs y)=true:=by
   rw[kC] at i2 ⊢
   have i4:¬ ((kT d kd hs y).1<(wW d kd x.1).1\/((kT d kd hs y).1=(wW d kd x.1).1/\(kT d kd hs y).2<(wW d kd x.1).2)):=λz=>by rw[<- kC,i1] at z;cases z
   lia
  rw[i3];simp
 rw[z];simp
def POk.waits(hn:(hs.map λt=>t.1).Nodup)(D0:DOk d hs kd pl q acc)(h:POk d kd hs pl k all front n q acc P){t:Thing}(h1:∀p∈P,ltP (wW d kd [t]) (kT d kd hs p)=false)(h2:∀x∈q,ltP (wW d kd [t]) (wW d kd x.1)=true):(q.map λx=>x.2).Perm (front (wW d kd [t])):=by
 refine List.Perm.trans ?_ (h.frn _ h1)
 have e:∀l:List Qe,(∀x∈l,x∈q)->(l.map λx=>x.2)=l.flatMap λx=>yZ d kd hs pl (wW d kd [t]) x.2:=λl=>by
  induction l with
  |nil=>intro _;rfl
  |cons x l ih=>
   intro hl
   rw[zJ,wb,ih λy hy=>hl y (zm _ hy),Jv (D0.inb x (hl x (by simp))) (by rw[D0.ok.keyOf hn (hl x (by simp))];exact h2 x (hl x (by simp)))]
   rfl
 rw[e q λx hx=>hx]
end
def vX:Tr->Tr
 |.one x bd=>.one x bd
 |.two ns bd l h=>.two ns bd (vX h) (vX l)
def WB(t:Tr):yg (vX t)=yg t:=by cases t<;>rfl
def zf6(d:Nat)(kd:Option (List Int))(hs:List Thing)(t:Tr):kT d kd hs (vX t)=kT d kd hs t:=by unfold kT ofN;rw[WB]
def TreeOf.turn{d:Nat}{ts:List Thing}{tr:Tr}(h:TreeOf d ts tr):TreeOf d ts (vX tr):=by
 induction h with
 |one h=>exact .one h
 |two p hp hs _ _ h1 h2=>exact .two (wy.trans p) hp hs h2 h1
theorem Xo(pl:List Pair):∀t:Tr,(vq pl (vX t)).Perm ((vq pl t).map vX)
 |.one x bd=>by
  show(vq pl (.one x bd)).Perm ((vq pl (.one x bd)).map vX);unfold vq
  split
  ·exact .refl _
  ·exact .refl _
 |.two ns bd l h=>by
  have i1:=Xo pl l;have i2:=Xo pl h;show(vq pl (.two ns bd (vX h) (vX l))).Perm ((vq pl (.two ns bd l h)).map vX);unfold vq
  split
  ·exact .refl _
  ·rw[zJ,zS];exact List.Perm.cons _ ((i2.append i1).trans wy)
theorem Yh(d:Nat)(kd:Option (List Int))(hs:List Thing)(pl:List Pair)(L:Int × Int):∀t:Tr,(yZ d kd hs pl L (vX t)).Perm ((yZ d kd hs pl L t).map vX)
 | .one x bd => by
  show(yZ d kd hs pl L (.one x bd)).Perm ((yZ d kd hs pl L (.one x bd)).map vX);unfold yZ
  split
  ·exact .refl _
  ·split
   ·exact .refl _
   ·exact .refl _
 | .two ns bd l h => by
  have i1:=Yh d kd hs pl L l;have i2:=Yh d kd hs pl L h;have e:kT d kd hs (.two ns bd (vX h) (vX l))=kT d kd hs (.two ns bd l h):=zf6 d kd hs (.two ns bd l h);show(yZ d kd hs pl L (.two ns bd (vX h) (vX l))).Perm ((yZ d kd hs pl L (.two ns bd l h)).map vX)
  conv=>lhs;unfold yZ
  conv=>rhs;unfold yZ
  rw[e]
  split
  ·exact .refl _
  ·split
   ·exact .refl _
   ·rw[zS];exact(i2.append i1).trans wy
def belowP(p:Pair)(hi:Int):Bool:=match p.1 with |none=>false |some l=>decide (hi<l)
def QY(p:Pair)(lo:Int):Bool:=match p.2 with |none=>false |some g=>decide (g<lo)
def zG9(lo hi:Int)(q:Pair)(s:Nat):Bool:=if q=emptyP then true else if s=0 then belowP q hi else QY q lo
def zO3(bd pl:List Pair)(i s:Nat):Bool:=match bd[i]?,pl[i]? with
 |some (some a,some b),some q=>zG9 a b q s
 |_,_=>false
def zz6(bd pl:List Pair)(k:Nat):Bool:=zO3 bd pl (k/2) (k%2)
def KP(bd:List Pair):Prop:=∀(i:Nat) (b:Pair),bd[i]?=some b->∃lo hi:Int,b=(some lo,some hi)/\lo<=hi
def VD{bd pl:List Pair}{i s:Nat}{lo hi:Int}{q:Pair}(h1:bd[i]?=some (some lo,some hi))(h2:pl[i]?=some q):zO3 bd pl i s=zG9 lo hi q s:=by unfold zO3;rw[h1,h2]
def Zs{pl:List Pair}(hs:yt pl=pl){i:Nat}{q:Pair}(h:pl[i]?=some q)(hc:crossedT q=true):q=emptyP:=by
 have ha:pl.any crossedT=true:=Wb.mpr ⟨i,q,h,hc⟩;rw[ki ha] at hs;rw[<- hs,xi] at h
 split at h
 ·exact(zF h).symm
 ·cases h
def XS{lo hi:Int}(hlh:lo<=hi){q:Pair}(hq:crossedT q=true->q=emptyP):crossedT (commonP (some lo,some hi) q)=true↔∃s:Nat,s<2/\zG9 lo hi q s=true:=by
 by_cases he:q=emptyP
 ·subst he
  refine⟨λ_=>⟨0,w6,by simp[zG9]⟩,λ_=>Wz _⟩
 ·have hq' : crossedT q = false := by
   cases h:crossedT q with
   |false=>rfl
   |true=>exact absurd (hq h) he
  have e:∀s:Nat,zG9 lo hi q s=if s=0 then belowP q hi else QY q lo:=λs=>by unfold zG9;rw[if_neg he]
  have e2:(∃s:Nat,s<2/\zG9 lo hi q s=true)↔(belowP q hi=true\/QY q lo=true):=by
   constructor
   ·rintro ⟨s, hs, h⟩;rw[e] at h
    split at h
    ·exact .inl h
    ·exact .inr h
   ·rintro (h | h)
    ·exact⟨0,w6,by rw[e];exact h⟩
    ·exact⟨1,w6,by rw[e];exact h⟩
  rw[e2];obtain⟨a,b⟩:=q
  rcases a with _ |a<;>rcases b with _ |b<;>simp[commonP,maxO,minO,crossedT,belowP,QY] at hq' ⊢<;>(try split)<;>(try split)<;>lia
def zt6{bd pl:List Pair}(hl:bd.length=pl.length)(h1:1<=bd.length)(hE:KP bd)(hs:yt pl=pl):vd bd pl=true↔∃k,k<2*pl.length/\zz6 bd pl k=true:=by
 rw[Wa hl h1,Wb]
 constructor
 ·rintro ⟨i, c, hc, hx⟩;obtain⟨b,q,hb,hq,rfl⟩:=ze6 hc;obtain⟨lo,hi,rfl,hlh⟩:=hE i b hb;obtain⟨s,hs2,ho⟩:=(XS hlh (Zs hs hq)).mp hx;have hi':=(zn.mp hq).1
  refine⟨2*i+s,w5,?_⟩
  have e1:(2*i+s)/2=i:=w5
  have e2:(2*i+s)%2=s:=w5
  unfold zz6;rw[e1,e2,VD hb hq];exact ho
 ·rintro ⟨k, hk, ho⟩
  have hi1:k/2<pl.length:=w5
  have hb:bd[k/2]?=some bd[k/2]:=zd w5
  have hq:pl[k/2]?=some pl[k/2]:=zd hi1;obtain⟨lo,hi,eb,hlh⟩:=hE _ _ hb;rw[eb] at hb;unfold zz6 at ho;rw[VD hb hq] at ho
  exact⟨k/2,_,WZ hb hq,(XS hlh (Zs hs hq)).mpr ⟨k%2,w5,ho⟩⟩
def zt8{bd pl:List Pair}(hl:bd.length=pl.length)(h1:1<=bd.length)(hE:KP bd)(hs:yt pl=pl):((List.range (2*pl.length)).map (zz6 bd pl)).any id=vd bd pl:=by
 rw[wj,zt6 hl h1 hE hs,yN]
 constructor
 ·rintro⟨b,hb,e⟩;obtain⟨k,hk,rfl⟩:=zk.mp hb;exact⟨k,yj.mp hk,e⟩
 ·rintro⟨k,hk,e⟩;exact⟨_,zk.mpr ⟨k,yj.mpr hk,rfl⟩,e⟩
def ze4(lo hi:Int)(q:Pair):Bool:=(match q.1 with |none=>true |some a=>decide (a<=lo))&&(match q.2 with |none=>true |some b=>decide (hi<=b))
def zE6{d:Nat}{ts:List Thing}(h:1<=ts.length):KP (Zn d (ts.map λt=>t.2.1)):=λi b hb=>by
 have hi:i<d:=by have:=(zn.mp hb).1;rw[kW] at this;exact this
 rw[zJ8 ts hi] at hb;exact⟨_,_,(zF hb).symm,zQ6 h⟩
def TreeOf.deep{d:Nat}{ts:List Thing}{tr:Tr}(h:TreeOf d ts tr):ZE tr<ts.length:=by
 induction h with
 |one=>exact Nat.zero_lt_one
 |@two ts ls hs ns low high p _ _ h1 h2 i1 i2=>
  have:=p.length_eq;rw[zI] at this;show 1+max (ZE low) (ZE high)<ts.length;lia
def xA9:Option Tr->D
 |none=>.non
 |some t=>vC t
@[simp] theorem xn6(t:Option Tr):xT (xA9 t)=true:=by
 cases t with
 |none=>rfl
 |some t=>exact vt t
def Zx{ps:List Pair}{i:Nat}{q:Pair}{R:D->Prop}(h:ps[i]?=some q)(hR:R (xx q)):Wf (xf ps) (.int i) R:=by
 unfold xf;rw[zi4]
 exact⟨_,kX (by rw[zt,h];rfl),hR⟩
structure JPn(b:List WA)(n i:Nat)(rho:Rho)(m:Nat):Prop where
 e:m=n
 u:∀(k:Nat) s,k<i->b[k]?=some s->crossedT (jZ s)=false
 r:∃(x y z u:Option D),rho=[some (vG b),some (.own (((b.take i).map jZ).map xx)),x,y,z,u]
def Vc{α β:Type}{f:α->β}{xs:List α}{i:Nat}{x:α}(h:xs[i]?=some x):(xs.take (i+1)).map f=(xs.take i).map f++[f x]:=by
 rw[xC,h];simp
structure JIn(dd:D)(bd pl:List Pair)(n i:Nat)(rho:Rho)(m:Nat):Prop where
 e:m=n
 u:∀(k:Nat) lo hi q,k<i->bd[k]?=some (some lo,some hi)->pl[k]?=some q->ze4 lo hi q=true
 r:∃(x y z u:Option D),rho=[some dd,some (xf pl),x,y,z,u]
section
variable {P:Program}{w:World}{K:W.Frag}{mg:Str->Option Value}{base:Heap}{f:Addr}{fd:FuncData}
abbrev qW:Stmt:=top 31
abbrev KK:List Str:=["_law_box_here","_law_pairs","_law_low","_law_high","_law_least","_law_greatest"]
def vK:FnScope KK ["_law_box_here"] (xg qW):=⟨rfl,rfl,rfl,x6,rfl,x6,x6⟩
def Vf:TF:=λds n Q=>∃b:List WA,ds=[vG b]/\1<=b.length/\b.length<=900/\Q (xf (wR b)) n
def zl0(T:Blt mg)(F:Fun K "_law_plain" "_law_plain" qW f fd):FnOk P w K mg base CX0 1 f fd ["_law_box_here"] (spD K 1 Vf):=by
 refine Fun.okD F vK (λ_ _ _ s H E G Z hr=>(zD (Xi (i:=1) vK.nd rfl (lo rfl) zj)
  (zD (qh (m:=6) PassesOwn.never rfl (vo rfl (zh 0)) (vp (k:=2) rfl rfl (xl (zV (i:=2) vK.nd rfl (lo rfl) w6) (xl (zV (i:=3) vK.nd rfl (lo rfl) w6) yR)))
  (zD (yf (i:=4) vK.nd rfl (lo rfl) (Wh (xW qe qc (zh 2) ve (wG _)) ve (kH (wq xt wo (zh 2) zu (λ_ _=>rfl)) (vf XV JA T.int zs9 (zc (zG6 (wq xt wo (zh 2) zu (λ_ _=>rfl))) zj)))))
  (zD (yf (i:=5) vK.nd rfl (lo rfl) (Wh (xW qe qc (zh 3) ve (wG _)) ve (qd (wq xt wo (zh 3) zu (λ_ _=>rfl)) (vf XV JA T.int zs9 (zc (zG6 (wq xt wo (zh 3) zu (λ_ _=>rfl))) zj)))))
  (zD (vn (PWD.pt (jW (xW Zb jV (zh 4) ve (wG _)) (jW (xW Zb jV (zh 5) ve (wG _)) (jr (xW Xp Xe (zh 4) (zh 5) (wG _)))))) (zR (xE (Xl zO4 zL6 (yV (zc (yV (zc zu (zc zu zj))) zj)) (wc wD kI T.len kh (zc (zh 0) zj))))) wP)
  (zR (kK (i:=1) (zc (yV (zc (zh 4) (zc (zh 5) zj))) zj) rfl))))))
  (zR (ZT 1 (xE (vf yv ka T.tuple kc (zc (zh 1) zj)))))))) ?_
 generalize hS2:Vu (sIf _ _ _) _=S2;generalize hS1:Vu (JY 5 _) _=S1;rintro ds n Q hl ⟨b,rfl,hb1,hb2,q⟩;have nb:xT (vG b)=true:=id rfl;simp[startD,nb]
 refine⟨b.map qm,.inr rfl,JPn b n,⟨rfl,λk s hk=>by lia,_,_,_,_,rfl⟩,?_,?_⟩
 ·rintro i d rho m e ⟨rfl, hu, x, y, z, u, rfl⟩;rw[zt] at e
  cases h:b[i]? with
  |none=>rw[h] at e;cases e
  | some s =>
   rw[h] at e;cases e;have hi:i<b.length:=(zn.mp h).1
   have hlen:(((b.take i).map jZ).map xx).length<sizeLine:=by
    rw[zg,zg,yM]
    exact lt_size w5
   have key:∀x y z u:Option D,crossedT (jZ s)=false->JPn b m (i+1) [some (vG b),some (.own (((b.take i).map jZ).map xx++[xx (jZ s)])),x,y,z,u] m:=λx y z u hc=>by
    refine⟨rfl,λk s' hk e=>?_,x,y,z,u,?_⟩
    ·by_cases hki : k = i
     ·subst hki;rw[h] at e;cases e;exact hc
     ·exact hu k s' w5 e
    ·rw[Vc h,zS];rfl
   have bad:crossedT (jZ s)=true->Q (.tup (replicate b.length (.tup [.int 1,.int 0]))) m:=λhc=>by
    have ha:(b.map jZ).any crossedT=true:=yN.mpr ⟨_,zk.mpr ⟨s,zP h,rfl⟩,hc⟩;unfold wR at q;rw[ki ha,zg] at q;unfold xf at q;rw[List.map_replicate] at q;exact q
   have rep:∀R:D->Prop,R (.tup (replicate b.length (.tup [.int 1,.int 0])))->zI0 [vG b] λd2=>zi3 (.tup [.tup [.int 1,.int 0]]) d2 R:=λR hR=>by
    refine Jg.mpr (zx4.mpr ⟨by simp,by rw[zg];lia,?_,?_⟩)
    ·rw[zg];exact wX (by simp;lia)
    ·rw [zg]
     have:((replicate ((b.length:Int).toNat) [D.tup [.int 1,.int 0]]).flatten)=replicate b.length (.tup [.int 1,.int 0]):=by
      rw[yH,List.flatten_replicate_singleton]
     rw[this];exact hR
   clear q hl;generalize ((b.take i).map jZ).map xx=acc at hlen key ⊢
   have run2:∀(F:EndsD) (x y:Option D) (l g:Option Int),F.nx=JPn b m (i+1)->F.rt=Q->jZ s=(l,g)->S2 F [some (vG b),some (.own acc),x,y,some (Wx l),some (Wx g)] m:=λF x y l g h1 h2 h3=>by
    subst hS2;rw[h3] at key bad
    rcases l with _ |l
    ·have ng : xT (Wx g) = true := by cases g <;> rfl
     simp[nb,h1,ng];exact⟨hlen,key _ _ _ _ rfl⟩
    ·rcases g with _ | g
     ·simp[nb,h1];exact⟨hlen,key _ _ _ _ rfl⟩
     ·simp [nb, h1, h2]
      split
      ·rename_i hh;exact rep _ (bad (xo hh))
      ·rename_i hh;exact⟨hlen,key _ _ _ _ (zN hh)⟩
   have run1:∀(F:EndsD) (x u:Option D) (l:Option Int),F.nx=JPn b m (i+1)->F.rt=Q->UY s.1=l->S1 F [some (vG b),some (.own acc),x,some (kR s.2),some (Wx l),u] m:=λF x u l h1 h2 h3=>by
    subst hS1
    have r2:=fun(g:Option Int) (e:Qz s.2=g)=>run2 F x (some (kR s.2)) l g h1 h2 (by unfold jZ;rw[h3,e])
    generalize s.2=t at r2 ⊢
    rcases t with _ |⟨c,s2⟩
    ·simp;exact r2 _ rfl
    ·cases s2<;>(simp;exact r2 _ rfl)
   have r1:=fun(F:EndsD) (x u:Option D) (l:Option Int) h1 h2 (e:UY s.1=l)=>run1 F x u l h1 h2 e;have nt:=Xu s.2;unfold qm;generalize s.1=t at r1 ⊢;generalize kR s.2=eh at nt r1 ⊢;clear run1 run2 key bad rep
   rcases t with _ |⟨a,s1⟩
   ·simp[nb,nt];exact r1 _ _ _ _ rfl rfl rfl
   ·cases s1<;>(simp[nb,nt];exact r1 _ _ _ _ rfl rfl rfl)
 ·rintro rho m ⟨rfl, hu, x, y, z, u, rfl⟩;rw[zg,wF]
  have ha:¬ (b.map jZ).any crossedT=true:=λhc=>by
   obtain⟨k,p,e,hp⟩:=Wb.mp hc;rw[zt] at e
   cases h:b[k]? with
   |none=>rw[h] at e;cases e
   |some s=>
    rw[h] at e;cases e
    rw[hu k s (by rw[zg];exact(zn.mp h).1) h] at hp
    cases hp
  unfold wR at q;rw[vR ha] at q;unfold xf at q;rw[zE] at q;simp;exact q
abbrev qD:Stmt:=top 32
abbrev Ui:List Str:=["_law_edges","_law_plain_here","_law_i","_law_side","_law_end"]
def jC:FnScope Ui q13 (xg qD):=⟨rfl,rfl,rfl,x6,rfl,x6,x6⟩
def YK:TF:=λds n Q=>∃(bd pl:List Pair) (k:Nat),ds=[xf bd,xf pl,.int ((k/2:Nat):Int),.int ((k%2:Nat):Int)]/\bd.length=pl.length/\k<2*pl.length/\KP bd/\Q (.bl (zz6 bd pl k)) n
def zl4(F:Fun K "_law_beyond" "_law_beyond" qD f fd):FnOk P w K mg base CX0 1 f fd q13 (spD K 4 YK):=by
  refine Fun.okD F jC (λ_ _ _ s H E G Z hr=>(zD (yf (i:=4) jC.nd rfl (lo rfl) (wq xt wo (wq xt wo (zh 1) (zh 2) (λ_ _=>rfl)) (zh 3) (λ_ _=>rfl)))
    (zD (vn (xW (zH1 hr) (zF7 rfl) (wq xt wo (zh 1) (zh 2) (λ_ _=>rfl)) (yV (zc zu (zc zu zj))) (wG _)) (zR (xE Zw)) wP)
    (zD (vn (xW qe qc (zh 4) ve (wG _)) (zR (xE Zw)) wP)
    (zR (xE (wq xt wo (vM (zc (WH zz7 zL7 (wq xt wo (wq xt wo (zh 0) (zh 2) (λ_ _=>rfl)) zu (λ_ _=>rfl)) (zh 4) (wG _)) (zc (WH Xp Xe (wq xt wo (wq xt wo (zh 0) (zh 2) (λ_ _=>rfl)) zu (λ_ _=>rfl)) (zh 4) (wG _)) zj))) (zh 3) (λ_ _=>rfl)))))))) ?_
  rintro ds n Q hl ⟨bd,pl,k,rfl,hlen,hk,hE,q⟩
  have hq:pl[k/2]?=some pl[k/2]:=zd w5
  have hb:bd[k/2]?=some bd[k/2]:=zd w5
  obtain⟨lo,hi,eb,_⟩:=hE _ _ hb;rw[eb] at hb;generalize pl[k/2]=pq at hq;have e1:(D.tup [.int 1,.int 0])=xx emptyP:=rfl
  have hs:k%2=0\/k%2=1:=w5
  unfold zz6 at q;rw[VD hb hq] at q;generalize k/2=i at hb hq q ⊢;generalize k%2=s at hs q ⊢;clear hk eb hl;have ok1:=YN pq 19;have ok2:=YN emptyP 19;have ee:=QC pq emptyP;rw[<- e1] at ok2 ee;unfold zG9 at q;simp[startD];refine Zx hq ?_;obtain⟨a,b⟩:=pq
  rcases hs with rfl |rfl <;> rcases a with _ |a <;> rcases b with _ |b <;>
    (simp [xx]
     refine Zx hq ?_;simp[ok1,ok2,ee]
     split
     · rename_i h
       rw[if_pos h] at q;exact q
     · rename_i h
       rw[if_neg h] at q
       first
         |exact q
         | (refine Zx hb ?_
            simp[xx];refine Zx hb ?_;simp[xx]
            exact q))
def KC{bd pl:List Pair}{k n:Nat}{Q:D->Nat->Prop}(hl:bd.length=pl.length)(hk:k<2*pl.length)(hE:KP bd)(q:Q (.bl (zz6 bd pl k)) n):YK [xf bd,xf pl,.int ((k/2:Nat):Int),.int ((k%2:Nat):Int)] n Q:=⟨bd,pl,k,rfl,hl,hk,hE,q⟩
def zk3{pl:List Pair}{k:D->Prop}(h:k (.int (pl.length:Int))):zI0 [xf pl] k:=by unfold xf;rw[Jg,zg];exact h
abbrev qY:Stmt:=top 33
abbrev jq:List Str:=["_law_edges","_law_plain_here"]
def Vq:FnScope jq q2 (xg qY):=⟨rfl,rfl,rfl,x6,rfl,x6,x6⟩
def Xz:("_law_k" :: jq:List Str).Nodup:=x6
def Vg:TF:=λds n Q=>∃bd pl:List Pair,ds=[xf bd,xf pl]/\bd.length=pl.length/\1<=bd.length/\pl.length<=400/\KP bd/\yt pl=pl/\Q (.bl (vd bd pl)) n
def zl1(T:Blt mg)(F:Fun K "_law_apart" "_law_apart" qY f fd)(Y_beyond:Fn P w K mg base "_law_beyond" 1 4 YK):FnOk P w K mg base CX0 2 f fd q2 (spD K 2 Vg):=by
 refine Fun.okD F Vq (λ_ _ _ s H E G Z hr=>(zR (xE (wc (QQ rfl) zJ3 T.any zJ6 (zc (vA (own:=["_law_k"]) (M:=jq) (vH (by rfl)) rfl (qF T.range (zc (Zv zu (wc wD kI T.len kh (zc (zh 1) zj))) zj)) (λ_ _ _ _=>(zV (i:=0) Xz rfl (lo rfl) w6)) (λ_ _ _ _=>yQ) (λ_ _ _ _=>(wO Y_beyond (hr.mono w6) rfl (zc (zh 1) (zc (zh 2) (zc (Qp (zh 0) zu) (zc (jE (zh 0) zu) zj))))))) zj))))) ?_
 rintro ds n Q hl ⟨bd,pl,rfl,hlen,h1,hz,hE,hs,q⟩;simp[startD];refine zk3 ?_;simp
 have e:(2*(pl.length:Int)).toNat=2*pl.length:=w5
 refine⟨.inl ⟨w6,w6⟩,w5,w5,?_⟩
 rw[e,zw4]
 refine yd (λi:Nat=>D.int (i:Int)) (λk=>.bl (zz6 bd pl k)) (List.range (2*pl.length)) (by rw[length_range];exact wX w5) (λk hk R hR=>?_) ?_
 ·have hk' := yj.mp hk;simp
  exact⟨⟨w6,w6⟩,KC hlen hk' hE hR⟩
 ·refine ⟨(List.range (2 * pl.length)).map (zz6 bd pl), by rw [zE]; rfl, ?_⟩
  rw[zt8 hlen h1 hE hs];exact q
def JQ(bd pl:List Pair):Prop:=pl[0]?≠some emptyP/\∀(i:Nat) lo hi q,bd[i]?=some (some lo,some hi)->pl[i]?=some q->ze4 lo hi q=true
abbrev qB:Stmt:=top 34
abbrev Uh:List Str:=["_law_edges","_law_plain_here","_law_low","_law_high","_law_least","_law_greatest"]
def vP:FnScope Uh q2 (xg qB):=⟨rfl,rfl,rfl,x6,rfl,x6,x6⟩
def YX:TF:=λds n Q=>∃(dd:D) (bd pl:List Pair),ds=[dd,xf pl]/\(dd=xf bd\/dd=.lst (bd.map xx))/\bd.length=pl.length/\1<=bd.length/\pl.length<=400/\KP bd/\(JQ bd pl->Q (.bl true) n)/\(¬ JQ bd pl->Q (.bl false) n)
def zb6(T:Blt mg)(F:Fun K "_law_inside" "_law_inside" qB f fd):FnOk P w K mg base CX0 1 f fd q2 (spD K 2 YX):=by
 refine Fun.okD F vP (λ_ _ _ s H E G Z hr=>(zD (vn (xW (zH1 hr) (zF7 rfl) (wq xt wo (zh 1) zu (λ_ _=>rfl)) (yV (zc zu (zc zu zj))) (wG _)) (zR (xE Zw)) wP)
  (zD (qh (m:=6) PassesOwn.never rfl (VA rfl T.zip (zc (zh 0) (zc (zh 1) zj))) (vp (k:=2) rfl rfl (xl (vp (k:=2) rfl rfl (xl (zV (i:=2) vP.nd rfl (lo rfl) w6) (xl (zV (i:=3) vP.nd rfl (lo rfl) w6) yR))) (xl (vp (k:=2) rfl rfl (xl (zV (i:=4) vP.nd rfl (lo rfl) w6) (xl (zV (i:=5) vP.nd rfl (lo rfl) w6) yR))) yR)))
  (zR (vn (PWD.pt (UE (PWD.pt (jW (xW Zb jV (zh 4) ve (wG _)) (jr (xW zz7 zL7 (zh 2) (zh 4) (wG _))))) (Xg (PWD.pt (jW (xW Zb jV (zh 5) ve (wG _)) (jr (xW Xp Xe (zh 3) (zh 5) (wG _)))))))) (zR (xE Zw)) wP)))
  (zR (xE Zw))))) ?_
 rintro ds n Q hl ⟨dd,bd,pl,rfl,hdd,hlen,h1,hz,hE,hy,hn⟩
 have ndd:xT dd=true:=by rcases hdd with rfl |rfl<;>rfl
 have hq0:pl[0]?=some pl[0]:=zd w5
 have e1:(D.tup [.int 1,.int 0])=xx emptyP:=rfl
 have hzip:∀R:List D->Prop,R (Uj (bd.map xx) (pl.map xx))->zH8 [dd,xf pl] R:=λR h=>by
  rcases hdd with rfl |rfl
  ·exact(jD (d1:=xf bd) (d2:=xf pl) rfl rfl).mpr h
  ·exact(jD (d1:=.lst (bd.map xx)) (d2:=xf pl) rfl rfl).mpr h
 simp[startD,ndd];refine Zx (i:=0) hq0 ?_;rw[e1,QC];refine⟨YN _ 19,YN _ 19,?_⟩
 by_cases hne:pl[0]=emptyP
 ·rw [xo hne];simp
  exact hn λI=>I.1 (by rw[hq0,hne])
 rw[zN hne]
 have hne':pl[0]?≠some emptyP:=λe=>hne (by rw[hq0] at e;exact zF e)
 simp;refine hzip _ ?_;rw[zF1]
 refine⟨JIn dd bd pl n,⟨rfl,λk lo hi q hk=>by lia,_,_,_,_,rfl⟩,?_,?_⟩
 ·rintro i d rho m e ⟨rfl, hu, x, y, z, u, rfl⟩;rw[zt] at e
  cases h:(bd.zip pl)[i]? with
  |none=>rw[h] at e;cases e
  | some c =>
   rw[h] at e;cases e;obtain⟨bp,q0⟩:=c;obtain⟨h2,h3⟩:=List.getElem?_zip_eq_some.mp h;obtain⟨lo,hi,rfl,hlh⟩:=hE i _ h2
   have key:∀x y z u:Option D,ze4 lo hi q0=true->JIn dd bd pl m (i+1) [some dd,some (xf pl),x,y,z,u] m:=λx y z u hc=>by
    refine⟨rfl,λk lo' hi' q' hk g1 g2=>?_,x,y,z,u,rfl⟩
    by_cases hki:k=i
    ·subst hki;rw[h2] at g1;rw[h3] at g2;cases g1;cases g2;exact hc
    ·exact hu k lo' hi' q' w5 g1 g2
   have bad:ze4 lo hi q0=false->Q (.bl false) m:=λhb=>hn λI=>by rw[I.2 i lo hi q0 h2 h3] at hb;cases hb
   clear hy hn hzip;obtain⟨a,b⟩:=q0
   rcases a with _ |a<;>rcases b with _ |b
   ·simp[xx];exact key _ _ _ _ rfl
   ·simp [xx]
    split
    ·rename_i hh
     exact bad (by simp[ze4];lia)
    ·rename_i hh
     exact key _ _ _ _ (by simp[ze4];lia)
   ·simp [xx]
    split
    ·rename_i hh
     exact bad (by simp[ze4];lia)
    ·rename_i hh
     exact key _ _ _ _ (by simp[ze4];lia)
   ·simp [xx]
    split
    ·rename_i hh
     exact bad (by simp[ze4];lia)
    ·split
     ·rename_i hh
      exact bad (by simp[ze4];lia)
     ·exact key _ _ _ _ (by simp[ze4];lia)
 ·rintro rho m ⟨rfl, hu, x, y, z, u, rfl⟩;simp
  exact hy ⟨hne',λk lo hi q' g1 g2=>hu k lo hi q' (by
   rw[zg,length_zip];have a1:=(zn.mp g1).1
   lia) g1 g2⟩
end
def Kd(x:Int)(q:Pair):ze4 x x q=liesT q.1 q.2 x:=by
 obtain⟨a,b⟩:=q
 rcases a with _ |a<;>rcases b with _ |b<;>rfl
def zx7(p:List Int):List Pair:=p.map λx=>(some x,some x)
def zG0{p:List Int}{i:Nat}{x:Int}(h:p[i]?=some x):(zx7 p)[i]?=some (some x,some x):=by unfold zx7;rw[zt,h];rfl
def zx6(p:List Int):KP (zx7 p):=λi b hb=>by
 unfold zx7 at hb;rw[zt] at hb
 cases h:p[i]? with
 |none=>rw[h] at hb;cases hb
 |some x=>rw[h] at hb;cases hb;exact⟨x,x,rfl,yr _⟩
def WR{p:List Int}{pl:List Pair}(hl:p.length=pl.length)(h1:1<=p.length):JQ (zx7 p) pl↔ZH pl p=true:=by
 constructor
 ·intro I;refine jh.mpr λi q x hq hx=>?_;rw[<- Kd];exact I.2 i x x q (zG0 hx) hq
 ·intro h;refine⟨λe=>?_,λi lo hi q hb hq=>?_⟩
  ·have hx:p[0]?=some p[0]:=zd h1;have z:=jh.mp h 0 _ _ e hx;simp[emptyP,liesT] at z;lia
  ·obtain⟨x,hx⟩:=XY (r:=p) hl.symm hq;rw[zG0 hx] at hb;cases hb;rw[Kd];exact jh.mp h i q _ hq hx
section
variable {P:Program}{w:World}{K:W.Frag}{mg:Str->Option Value}{base:Heap}{f:Addr}{fd:FuncData}
abbrev jU:Stmt:=top 35
abbrev Zm:List Str:=["_law_plain_here","_law_place"]
def UA:FnScope Zm q8 (xg jU):=⟨rfl,rfl,rfl,x6,rfl,x6,x6⟩
def Wp:("_law_number_here" :: Zm:List Str).Nodup:=x6
def KR:TF:=λds n Q=>∃(pl:List Pair) (p:List Int),ds=[xf pl,wY p]/\p.length=pl.length/\1<=p.length/\p.length<=400/\Q (.bl (ZH pl p)) n
def zA1(F:Fun K "_law_fits" "_law_fits" jU f fd)(Y_inside:Fn P w K mg base "_law_inside" 1 2 YX):FnOk P w K mg base CX0 2 f fd q8 (spD K 2 KR):=by
 refine Fun.okD F UA (λ_ _ _ s H E G Z hr=>(zR (xE (wO Y_inside (hr.mono w6) rfl (zc (vA (own:=["_law_number_here"]) (M:=Zm) (vH (by rfl)) rfl (vo rfl (zh 1)) (λ_ _ _ _=>(zV (i:=0) Wp rfl (lo rfl) w6)) (λ_ _ _ _=>yQ) (λ_ _ _ _=>(yV (zc (zh 0) (zc (zh 0) zj))))) (zc (zh 0) zj)))))) ?_
 rintro ds n Q hl ⟨pl,p,rfl,hlen,h1,hz,q⟩;have np:xT (wY p)=true:=id rfl;simp[startD,np]
 refine⟨p.map D.int,.inr rfl,yd D.int (λx=>xx (some x,some x)) p (wX w5) (λx hx R hR=>?_) ?_⟩
 ·simp;exact hR
 ·refine ⟨_, zx7 p, pl, rfl, .inr (by unfold zx7; rw [zE]; rfl), by unfold zx7; rw [zg]; exact hlen, by unfold zx7; rw [zg]; exact h1, by lia, zx6 p, λI => ?_, λI => ?_⟩
  ·rw[(WR hlen h1).mp I] at q;exact q
  ·cases c : ZH pl p with
   |true=>exact absurd ((WR hlen h1).mpr c) I
   |false=>rw[c] at q;exact q
end
theorem zo7(x:Int):∀ns:List Int,inD (.int x) (ns.map D.int)=decide (x∈ns)
 |[]=>by simp[inD]
 |y::ns=>by
  have ih:=zo7 x ns;unfold inD at ih ⊢;rw[zJ,yI,ih]
  by_cases e:x=y
  ·subst e;simp[eqD]
  ·have e2:¬ y=x:=λz=>e z.symm;simp[eqD,e,e2]
def zE7(ns:List Int):(ns.map D.int).all XN=true:=by
 rw[wT];intro d hd;obtain⟨x,_,rfl⟩:=zk.mp hd;rfl
def zP9{l:List Thing}(h:1<=l.length):ze3 (l.map λt=>0-t.2.2)=- Wq (l.map λt=>t.2.2):=by
 obtain⟨h1,h2⟩:=kr (vW (ns:=l.map λt=>t.2.2) (by rw[zg];exact h))
 obtain⟨u,hu,e⟩:=zk.mp h1
 refine(VJ (zk.mpr ⟨u,hu,by rw[<- e];lia⟩) λy hy=>?_).symm
 obtain⟨t,ht,rfl⟩:=zk.mp hy;have:=h2 t.2.2 (zk.mpr ⟨t,ht,rfl⟩);lia
def Yj(k:Int × Int):D:=.tup [.int k.1,.int k.2]
@[simp] theorem xn7(k:Int × Int):xT (Yj k)=true:=id rfl
theorem ju(pl:List Pair):∀t:Tr,(vq pl t).length<=qp t
 |.one x bd=>by unfold vq qp;split<;>simp
 |.two ns bd l h=>by
  have:=ju pl l;have:=ju pl h;unfold vq qp
  split
  ·simp
  ·rw[zK,zI];lia
section
variable {P:Program}{w:World}{K:W.Frag}{mg:Str->Option Value}{base:Heap}{f:Addr}{fd:FuncData}
abbrev qV:Stmt:=top 36
abbrev jm:List Str:=["_law_edges","_law_place"]
def Vp:FnScope jm q9 (xg qV):=⟨rfl,rfl,rfl,x6,rfl,x6,x6⟩
def kM:("_law_low" :: "_law_high" :: "_law_number_here" :: jm:List Str).Nodup:=x6
def Zq:TF:=λds n Q=>∃(dd:D) (pl:List Int) (bd:List (Int × Int)),ds=[dd,wY pl]/\(dd=xf (bd.map KO)\/dd=.lst ((bd.map KO).map xx))/\pl.length<=1000/\Q (.int (kq bd pl)) n
def zk9(T:Blt mg)(T2:Blt2 mg)(F:Fun K "_law_steps" "_law_steps" qV f fd):FnOk P w K mg base CX0 1 f fd q9 (spD K 2 Zq):=by
 refine Fun.okD F Vp (λ_ _ _ s H E G Z hr=>(zR (xE (wc (QP rfl) zJ2 T2.sum zJ5 (zc (vA (own:=["_law_low","_law_high","_law_number_here"]) (M:=jm) (vH (by rfl)) rfl (VA rfl T.zip (zc (zh 0) (zc (zh 1) zj))) (λ_ _ _ _=>(vp (k:=2) rfl rfl (xl (vp (k:=2) rfl rfl (xl (zV (i:=0) kM rfl (lo rfl) w6) (xl (zV (i:=1) kM rfl (lo rfl) w6) yR))) (xl (zV (i:=2) kM rfl (lo rfl) w6) yR)))) (λ_ _ _ _=>yQ) (λ_ _ _ _=>(wc (Ks rfl) zr8 T.max WY (zc zu (zc (qd (zh 0) (zh 2)) (zc (qd (zh 2) (zh 1)) zj)))))) zj))))) ?_
 rintro ds n Q hl ⟨dd,pl,bd,rfl,hdd,hz,q⟩
 have ez:Uj ((bd.map KO).map xx) (pl.map D.int)=(bd.zip pl).map λz=>.tup [xx (KO z.1),.int z.2]:=by
  unfold Uj;rw[zE,List.zipWith_map,yJ];rfl
 have nd:xT dd=true:=by rcases hdd with rfl |rfl<;>rfl
 have np:xT (wY pl)=true:=id rfl
 have kz:∀R:List D->Prop,R (Uj ((bd.map KO).map xx) (pl.map D.int))->zH8 [dd,wY pl] R:=λR h=>by
  rcases hdd with rfl |rfl
  ·exact(jD (d1:=xf (bd.map KO)) (d2:=wY pl) rfl rfl).mpr h
  ·exact(jD (d1:=.lst ((bd.map KO).map xx)) (d2:=wY pl) rfl rfl).mpr h
 simp[startD,nd,np];refine kz _ ?_;rw[ez]
 refine yd (λz:(Int × Int) × Int=>.tup [xx (KO z.1),.int z.2]) (λz=>.int (jx z.1 z.2)) (bd.zip pl) (zB (by rw[length_zip];lia) (wX (k:=1000) w5)) (λz hz R hR=>?_) ?_
 ·simp[xx,KO];exact hR
 ·have e : ((bd.zip pl).map λz : (Int × Int) × Int => D.int (jx z.1 z.2)) = ((bd.zip pl).map λz => jx z.1 z.2).map D.int := by
   rw[zE];rfl
  exact⟨(bd.zip pl).map (λz:(Int × Int) × Int=>jx z.1 z.2),by rw[e],q⟩
abbrev ZP:Stmt:=top 37
abbrev Yn:List Str:=["_law_house_here","_law_tree_here","_law_kind_here"]
def Ja:FnScope Yn q10 (xg ZP):=⟨rfl,rfl,rfl,x6,rfl,x6,x6⟩
def qH:("_law_name" :: "_law_place" :: "_law_worth" :: Yn:List Str).Nodup:=x6
def zf8:TF:=λds n Q=>∃(d:Nat) (hs ts:List Thing) (tr:Tr) (kd:Option (List Int)),ds=[wz d hs,vC tr,vm kd]/\(hs.map λt=>t.1).Nodup/\hs.length<=1000/\TreeOf d ts tr/\(∀t∈ts,t∈hs)/\(ts.map λt=>t.1).Nodup/\(∀pl,kd=some pl->pl.length<=1000)/\Q (Yj (wW d kd ts)) n
def zP0(T:Blt mg)(F:Fun K "_law_key" "_law_key" ZP f fd)(Y_steps:Fn P w K mg base "_law_steps" 1 2 Zq):FnOk P w K mg base CX0 2 f fd q10 (spD K 3 zf8):=by
 refine Fun.okD F Ja (λ_ _ _ s H E G Z hr=>(zD (vn (xW VE Vv (wq xt wo (zh 2) zu (λ_ _=>rfl)) Xk (wG _)) (zR (xE (yV (zc (wO Y_steps (hr.mono w6) rfl (zc (wq xt wo (zh 1) zu (λ_ _=>rfl)) (zc (wq xt wo (zh 2) zu (λ_ _=>rfl)) zj))) (zc (wq xt wo (wq xt wo (zh 1) zu (λ_ _=>rfl)) zu (λ_ _=>rfl)) zj))))) wP)
  (zR (xE (yV (zc (wc (Kr rfl) zr7 T.min Kw (zc (vA (own:=["_law_name","_law_place","_law_worth"]) (M:=Yn) (vH (by rfl)) rfl (vo rfl (wq xt wo (zh 0) zu (λ_ _=>rfl))) (λ_ _ _ _=>(vp (k:=3) rfl rfl (xl (zV (i:=0) qH rfl (lo rfl) w6) (xl (zV (i:=1) qH rfl (lo rfl) w6) (xl (zV (i:=2) qH rfl (lo rfl) w6) yR))))) (λ_ _ _ _=>(Vx (xW zk4 (xq1 (neg:=false)) (zh 0) (wq xt wo (zh 4) zu (λ_ _=>rfl)) (by with_unfolding_all rfl)))) (λ_ _ _ _=>(qd zu (zh 2)))) zj)) (zc (wq xt wo (wq xt wo (zh 1) zu (λ_ _=>rfl)) zu (λ_ _=>rfl)) zj))))))) ?_
 rintro ds n Q hl ⟨d,hs,ts,tr,kd,rfl,hn,hz,ht,hsub,hnt,hk,q⟩;obtain⟨ta,tb,et,na,nb⟩:=ZD tr;obtain⟨r,hr1⟩:=ht.head
 have hd0:atI ((yg tr).map D.int) 0=some (.int (yY ts)):=by rw[hr1];exact zp0
 have nh:=vL d hs;have ntr:=vt tr
 have r0:∀R:D->Prop,R (.tup ((yg tr).map D.int))->Wf (vC tr) (.int 0) R:=λR h=>by rw[et];exact⟨_,0,_,.inr (.inl rfl),rfl,rfl,h⟩
 have r1:∀R:D->Prop,R (xf (YG tr))->Wf (vC tr) (.int 1) R:=λR h=>by rw[et];exact⟨_,1,_,.inr (.inl rfl),rfl,rfl,h⟩
 have hh:∀R:D->Prop,R (.int (yY ts))->Wf (.tup ((yg tr).map D.int)) (.int 0) R:=λR h=>⟨_,0,_,.inr (.inl rfl),rfl,hd0,h⟩;simp[startD,nh,ntr]
 cases kd with
 |some pl=>
  refine⟨_,0,_,.inr (.inl rfl),rfl,rfl,?_⟩;simp;refine r1 _ ⟨_,1,_,.inr (.inl rfl),rfl,rfl,?_⟩
  refine⟨_,pl,bdI d ts,rfl,.inl (by rw[ht.bd,zt1]),hk pl rfl,r0 _ (hh _ ?_)⟩
  exact q
 | none =>
  refine⟨_,0,_,.inr (.inl rfl),rfl,rfl,?_⟩;simp
  rw[if_neg w6]
  refine WS ?_;simp;have hp:=ht.ofN hn hsub hnt
  have h1:1<=(ofN hs tr).length:=by rw[hp.length_eq];exact ht.ne
  refine XT xD (λt=>decide (t.1∈yg tr)) (λt=>.int (0-t.2.2)) hs (wX hz) (λt ht R S h1 h2=>?_) ?_
  ·simp [xD, ntr];refine r0 _ ?_;refine⟨rfl,_,.inl rfl,zE7 _,?_⟩;rw[zo7];simp
   split
   ·rename_i h;have z:=h1 (xo h)
    rwa [Int.zero_sub] at z
   ·rename_i h;exact h2 (zN h)
  ·have e : ((hs.filter λt => decide (t.1 ∈ yg tr)).map λt => D.int (0 - t.2.2)) = ((ofN hs tr).map λt => 0 - t.2.2).map D.int := by rw [zE]; rfl
   rw[e]
   refine WO (by rw[zg];exact h1) (r0 _ (hh _ ?_))
   rw[zP9 h1,US (hp.map λt=>t.2.2)];exact q
abbrev km:Stmt:=top 40
abbrev Ym:List Str:=["_law_tree_here","_law_plain_here"]
def Zt:FnScope Ym q4 (xg km):=⟨rfl,rfl,rfl,x6,rfl,x6,x6⟩
def YW:Nat->TF
 |0=>λ_ _ _=>False
 |j+1=>λds n Q=>∃(d:Nat) (o:Option Tr) (pl:List Pair),ds=[(o.map vC).getD .non,xf pl]/\1<=d/\d<=400/\pl.length=d/\yt pl=pl/\(∀tr,o=some tr->∃ts,TreeOf d ts tr)/\(∀tr,o=some tr->ZE tr+1<=j/\qp tr<=1000)/\Q (.lst ((match o with |none=>[] |some tr=>vq pl tr).map vC)) n
def zz9(F:Fun K "_law_open_trees" "_law_open_trees" km f fd)(hm:mg "_law_open_trees" = some (.ref f))(hk:W.keepIn K (.ref f)=true)(hb:Binds K fd ["_law_tree_here","_law_plain_here"] [])(Y_apart:Fn P w K mg base "_law_apart" 2 2 Vg):∀j:Nat,FnOk P w K mg base CX0 (j+3) f fd q4 (spD K 2 (YW j)):=by
 intro j
 induction j with
 |zero=>exact FnOk.botK λds n Q h=>h
 | succ j ih =>
  have Y_open_trees:Fn P w K mg base "_law_open_trees" (j+3) 2 (YW j):=⟨f,fd,_,ih,hm,hk,hb⟩
  refine Fun.okD F Zt (λ_ _ _ s H E G Z hr=>(zD (vn (PWD.pt (UE (xW qe qc (zh 0) ve (wG _)) (Xg (ZS (wO Y_apart (hr.mono w5) rfl (zc (wq xt wo (zh 0) zu (λ_ _=>rfl)) (zc (zh 1) zj))))))) (zR (xE (vM zj))) wP)
  (zR (xE (Xl Qq Qd (Xl Qq Qd (vM (zc (zh 0) zj)) (wO Y_open_trees hr rfl (zc (wq xt wo (zh 0) zu (λ_ _=>rfl)) (zc (zh 1) zj)))) (wO Y_open_trees hr rfl (zc (wq xt wo (zh 0) zu (λ_ _=>rfl)) (zc (zh 1) zj)))))))) ?_
  rintro ds n Q hl ⟨d,o,pl,rfl,hd1,hd2,hpl,hst,ho,hdp,q⟩
  cases o with
  |none=>
   simp[startD];exact q
  | some tr =>
   have ntr:=vt tr
   have ni:jg (vC tr)=false:=by cases tr<;>rfl
   obtain⟨ts,tt⟩:=ho tr rfl;obtain⟨hdj,hsz⟩:=hdp tr rfl
   have hEn:KP (YG tr):=by rw[tt.bd];exact zE6 tt.ne
   have hbl:(YG tr).length=d:=by rw[tt.bd,kW]
   have r1:∀R:D->Prop,R (xf (YG tr))->Wf (vC tr) (.int 1) R:=λR h=>by
    obtain⟨ta,tb,et,na,nb⟩:=ZD tr;rw[et];exact⟨_,1,_,.inr (.inl rfl),rfl,rfl,h⟩
   have q':Q (.lst ((vq pl tr).map vC)) n:=q;simp[startD,ntr,ni]
   refine r1 _ ⟨YG tr,pl,rfl,w5,w5,w5,hEn,hst,?_⟩
   simp
   split
   ·rename_i ha;rw[ZX ha] at q';exact q'
   ·rename_i ha
    cases tr with
    |one x bd=>
     obtain⟨i,rfl⟩:∃i,j=i+1:=⟨j-1,w5⟩
     have e:vq pl (.one x bd)=[.one x bd]:=if_neg ha;rw[e] at q';refine⟨_,2,_,.inr (.inl rfl),rfl,rfl,?_⟩
     refine⟨d,none,pl,rfl,hd1,hd2,hpl,hst,λtr e=>(by cases e),λtr e=>(by cases e),?_⟩
     refine⟨_,_,rfl,rfl,wX (by simp),?_⟩
     refine⟨_,3,_,.inr (.inl rfl),rfl,rfl,?_⟩
     refine⟨d,none,pl,rfl,hd1,hd2,hpl,hst,λtr e=>(by cases e),λtr e=>(by cases e),?_⟩
     exact⟨_,_,rfl,rfl,wX (by simp),q'⟩
    |two ns bd lo hi=>
     obtain⟨i,rfl⟩:∃i,j=i+1:=⟨j-1,w5⟩
     obtain⟨ls,us,t1,t2⟩:∃ls us,TreeOf d ls lo/\TreeOf d us hi:=by cases tt with |two _ _ _ a b=>exact⟨_,_,a,b⟩
     have hdj':1+max (ZE lo) (ZE hi)+1<=i+1:=hdj;have hsz':1+qp lo+qp hi<=1000:=hsz;have l1:=ju pl lo;have l2:=ju pl hi;have e:vq pl (.two ns bd lo hi)=.two ns bd lo hi::(vq pl lo++vq pl hi):=if_neg ha;rw[e] at q';refine⟨_,2,_,.inr (.inl rfl),rfl,rfl,?_⟩
     refine⟨d,some lo,pl,rfl,hd1,hd2,hpl,hst,λtr e=>(by cases e;exact⟨_,t1⟩),λtr e=>(by cases e;exact⟨w5,w5⟩),?_⟩
     refine⟨_,_,rfl,rfl,wX (by simp;lia),?_⟩
     refine⟨_,3,_,.inr (.inl rfl),rfl,rfl,?_⟩
     refine⟨d,some hi,pl,rfl,hd1,hd2,hpl,hst,λtr e=>(by cases e;exact⟨_,t2⟩),λtr e=>(by cases e;exact⟨w5,w5⟩),?_⟩
     refine⟨_,_,rfl,rfl,wX (by simp;lia),?_⟩
     simpa using q'
abbrev qy:Stmt:=top 41
abbrev Ug:List Str:=["_law_tree_here"]
def We:FnScope Ug q5 (xg qy):=⟨rfl,rfl,rfl,x6,rfl,x6,x6⟩
def YJ:Nat->TF
 |0=>λ_ _ _=>False
 |j+1=>λds n Q=>∃tr:Tr,ds=[vC tr]/\ZE tr+1<=j+1/\Q (vC (vX tr)) n
def zk6(F:Fun K "_law_turned" "_law_turned" qy f fd)(hm:mg "_law_turned" = some (.ref f))(hk:W.keepIn K (.ref f)=true)(hb:Binds K fd ["_law_tree_here"] []):∀j:Nat,FnOk P w K mg base CX0 (j+1) f fd q5 (spD K 1 (YJ j)):=by
 intro j
 induction j with
 |zero=>exact FnOk.botK λds n Q h=>h
 | succ j ih =>
  have Y_turned:Fn P w K mg base "_law_turned" (j+1) 1 (YJ j):=⟨f,fd,_,ih,hm,hk,hb⟩
  refine Fun.okD F We (λ_ _ _ s H E G Z hr=>(zD (vn (xW qe qc (wq xt wo (zh 0) zu (λ_ _=>rfl)) ve (wG _)) (zR (xE (zh 0))) wP)
  (zR (xE (yV (zc (wq xt wo (zh 0) zu (λ_ _=>rfl)) (zc (wq xt wo (zh 0) zu (λ_ _=>rfl)) (zc (wO Y_turned hr rfl (zc (wq xt wo (zh 0) zu (λ_ _=>rfl)) zj)) (zc (wO Y_turned hr rfl (zc (wq xt wo (zh 0) zu (λ_ _=>rfl)) zj)) zj))))))))) ?_
  rintro ds n Q hl ⟨tr,rfl,hdj,q⟩
  cases tr with
  |one x bd=>
   have n1:=vt (.one x bd);simp[startD,n1];refine⟨_,2,_,.inr (.inl rfl),rfl,rfl,?_⟩;simp;exact q
  |two ns bd lo hi=>
   have n1:=vt (.two ns bd lo hi)
   have nl:jg (vC lo)=false:=by cases lo<;>rfl
   have hdj':1+max (ZE lo) (ZE hi)+1<=j+1:=hdj
   obtain⟨i,rfl⟩:∃i,j=i+1:=⟨j-1,w5⟩
   simp[startD,n1];refine⟨_,2,_,.inr (.inl rfl),rfl,rfl,?_⟩;simp[nl];refine⟨_,0,_,.inr (.inl rfl),rfl,rfl,?_⟩;refine⟨_,1,_,.inr (.inl rfl),rfl,rfl,?_⟩;refine⟨_,3,_,.inr (.inl rfl),rfl,rfl,?_⟩
   refine⟨hi,rfl,w5,?_⟩
   refine⟨_,2,_,.inr (.inl rfl),rfl,rfl,?_⟩
   exact⟨lo,rfl,w5,q⟩
end
def zg7{p:Int × Int}{x:Int}(h1:jy p.1)(h2:jy p.2)(hx:zb9 x):0<=jx p x/\jx p x<=200000000000000002/\zF0 1002 (jx p x):=by
 obtain⟨⟨a1,a2⟩,a,e,ha,ha1,ha2⟩:=h1;obtain⟨⟨b1,b2⟩,b,f,hb,hb1,hb2⟩:=h2;obtain⟨⟨c1,c2⟩,c,g,hc,hc1,hc2⟩:=hx;unfold jx;generalize p.1=u at *;generalize p.2=v at *
 refine⟨w5,w5,?_⟩
 have:max 0 (max (u-x) (x-v))=0\/max 0 (max (u-x) (x-v))=u-x\/max 0 (max (u-x) (x-v))=x-v:=by clear ha hb hc;lia
 rcases this with h |h |h
 ·rw[h];exact⟨0,0,w5,w5,w5⟩
 ·rw[h];exact⟨a-c,e-g,w5,w5,w5⟩
 ·rw[h];exact⟨c-b,g-f,w5,w5,w5⟩
theorem WC:∀{bd:List (Int × Int)}{pl:List Int},(∀p∈bd,jy p.1/\jy p.2)->(∀x∈pl,zb9 x)->0<=kq bd pl/\kq bd pl<=200000000000000002*bd.length/\zF0 (1002*bd.length) (kq bd pl)
 |[],pl,_,_=>⟨yr _,yr _,0,0,rfl,by simp,by simp⟩
 |p::bd,[],_,_=>by
  have e:kq (p::bd) []=0:=rfl;rw[e,zK]
  exact⟨w5,w5,0,0,w5,w5,w5⟩
 |p::bd,x::pl,h1,h2=>by
  obtain⟨i1,i2,a,e,h3,h4,h5⟩:=WC (bd:=bd) (pl:=pl) (λq hq=>h1 q (zm _ hq)) λy hy=>h2 y (zm _ hy)
  obtain⟨s1,s2⟩:=h1 p (by simp)
  obtain⟨j1,j2,b,f,g3,g4,g5⟩:=zg7 s1 s2 (h2 x (by simp))
  rw[jK,zK]
  exact⟨w5,w5,a+b,e+f,w5,w5,w5⟩
def zC3{d:Nat}{kd:Option (List Int)}{ts:List Thing}(hd:d<=4)(h1:1<=ts.length)(hl:∀t∈ts,t.2.1.length=d/\(∀x∈t.2.1,jy x)/\jy t.2.2)(hk:∀pl,kd=some pl->∀x∈pl,zb9 x):FormK (Yd d kd ts):=by
 cases kd with
 | some pl =>
  have hm:∀(i:Nat) (x:Int),i<d->x∈QK ts i->jy x:=λi x hi hx=>by
   rw[XU] at hx;obtain⟨t,ht,rfl⟩:=zk.mp hx;obtain⟨l1,l2,_⟩:=hl t ht
   rw[zd (show i<t.2.1.length by lia)]
   exact l2 _ (wl _)
  have h:=WC (bd:=bdI d ts) (pl:=pl) (λp hp=>by
   unfold bdI at hp;obtain⟨i,hi,rfl⟩:=zk.mp hp;have hi':=yj.mp hi
   exact⟨hm i _ hi' (Jr h1),hm i _ hi' (VW h1)⟩) (hk pl rfl)
  rw[XX] at h;obtain⟨i1,i2,a,e,h3,h4,h5⟩:=h;show FormK (kq (bdI d ts) pl);generalize kq (bdI d ts) pl=s at *
  exact⟨⟨a,e,w5,w5,w5⟩,w5,w5⟩
 |none=>
  have a:=(kr (vW (ns:=ts.map λt=>t.2.2) (by rw[zg];exact h1))).1
  obtain⟨t,ht,e⟩:=zk.mp a;obtain⟨_,_,⟨i1,i2⟩,b,f,h3,h4,h5⟩:=hl t ht;show FormK (- Wq _);rw[<- e];generalize t.2.2=s at *
  exact⟨⟨-b,-f,w5,w5,w5⟩,w5,w5⟩
def zS1{d:Nat}{hs:List Thing}{kd:Option (List Int)}(hg:GoodT d hs 2000)(hd:d<=4)(hk:∀pl,kd=some pl->∀x∈pl,zb9 x):zu3 d kd hs:=λls us h1 h2 l1 l2 hne=>by
 have f:∀l:List Thing,(∀t∈l,t∈hs)->1<=l.length->FormK (Yd d kd l)/\0<=yY l/\yY l<2000:=λl hl h=>by
  obtain⟨t,ht,e⟩:=vD h;have g:=hg.each t (hl t ht)
  exact⟨zC3 hd h (λt ht=>(hg.each t (hl t ht)).2.2) hk,w5,w5⟩
 obtain⟨a1,a2,a3⟩:=f ls h1 l1;obtain⟨b1,b2,b3⟩:=f us h2 l2;exact zp1 a1 b1 a2 a3 b2 b3 hne
def ptI(p:List Int):List (Int × Int):=p.map λx=>(x,x)
def zH2(kd:Option (List Int))(t:Thing):Int:=match kd with
 |some pl=>kq (ptI t.2.1) pl
 |none=>0-t.2.2
def zT1{t:Thing}{i:Nat}:QK [t] i=[t.2.1[i]?.getD 0]:=by rw[XU];rfl
def zT3{d:Nat}{t:Thing}(hl:t.2.1.length=d):bdI d [t]=ptI t.2.1:=by
 refine List.ext_getElem? λi=>?_
 by_cases hi:i<d
 ·rw [zt2 [t] hi];unfold ptI
  rw[zt,zd (show i<t.2.1.length by lia)]
  have e1:=Jr (ts:=[t]) (i:=i) (by simp)
  have e2:=VW (ts:=[t]) (i:=i) (by simp)
  rw[zT1,zG,zd (show i<t.2.1.length by lia)] at e1 e2
  rw[e1,e2];rfl
 ·rw[List.getElem?_eq_none (by rw[XX];lia),List.getElem?_eq_none (by unfold ptI;rw[zg];lia)]
def zO7{d:Nat}{kd:Option (List Int)}{t:Thing}(hl:t.2.1.length=d):Yd d kd [t]=zH2 kd t:=by
 cases kd with
 |some pl=>
  show kq (bdI d [t]) pl=_;rw[zT3 hl];rfl
 | none =>
  have e:t.2.2=Wq ([t].map λt:Thing=>t.2.2):=VM (by simp) λa ha=>by
   rw[show [t].map (λt:Thing=>t.2.2)=[t.2.2] from rfl,zG] at ha;lia
  show-Wq _=0-t.2.2;rw[<- e];lia
def VS{d:Nat}{kd:Option (List Int)}{t:Thing}(hl:t.2.1.length=d):wW d kd [t]=(zH2 kd t,t.1):=by
 unfold wW;rw[zO7 hl,Yc]
def xp9(kd:Option (List Int))(t:Thing):SRow:=⟨.n (zH2 kd t),t.1,[]⟩
def zD2{pl:List Pair}{ts:List Thing}{i:Nat}{t:Thing}(h:ts[i]?=some t):jz pl (ts.take (i+1))=jz pl (ts.take i)++(if ZH pl t.2.1=true then [t] else []):=by
 unfold jz;rw[xC,h,ym]
 congr 1
 show List.filter _ [t]=_
 cases ha:ZH pl t.2.1<;>simp[ha]
structure JRk(d:Nat)(hs:List Thing)(pl:List Pair)(kd:Option (List Int))(n i:Nat)(rho:Rho)(m:Nat):Prop where
 e:m=n
 r:∃a b c:Option D,rho=[some (wz d hs),some (xf pl),some (vm kd),some (.own ((jz pl (hs.take i)).map λt=>Yj (zH2 kd t,t.1))),a,b,c]
structure JTk(d:Nat)(hs:List Thing)(kd:Option (List Int))(x:Int)(n i:Nat)(rho:Rho)(m:Nat):Prop where
 e:m=n
 u:∀(k:Nat) t,k<i->hs[k]?=some t->t.1≠x
 r:∃a b c:Option D,rho=[some (wz d hs),some (vm kd),some (.int x),a,b,c]
section
variable {P:Program}{w:World}{K:W.Frag}{mg:Str->Option Value}{base:Heap}{f:Addr}{fd:FuncData}
abbrev jT:Stmt:=top 27
abbrev Zl:List Str:=["_law_left_here","_law_house_here","_law_place"]
def Ys:FnScope Zl q1 (xg jT):=⟨rfl,rfl,rfl,x6,rfl,x6,x6⟩
def Wo:("_law_i" :: Zl:List Str).Nodup:=x6
def zg0:TF:=λds n Q=>∃(d:Nat) (ts:List Thing),ds=[.st,wz d ts]/\n=3/\d<=4/\GoodT d ts 2000/\ts.length<=30/\∀kd:Option (List Int),(∀pl,kd=some pl->pl.length=d/\∀x∈pl,zb9 x)->Q (vm kd) 3
def zP2(T:Blt mg)(F:Fun K "_law_kind" "_law_kind" jT f fd)(Y_pick:Fn P w K mg base "_law_pick" 1 2 Yq)(Y_number:Fn P w K mg base "_law_number" 2 3 Zp):FnOk P w K mg base CX0 3 f fd q1 (spD K 2 zg0):=by
 refine Fun.okD F Ys (λ_ _ _ s H E G Z hr=>(zD (yf (i:=2) Ys.nd rfl (lo rfl) (vf yv ka T.tuple kc (zc (vA (own:=["_law_i"]) (M:=Zl) (vH (by rfl)) rfl (qF T.range (zc (wq xt wo (zh 1) zu (λ_ _=>rfl)) zj)) (λ_ _ _ _=>(zV (i:=0) Wo rfl (lo rfl) w6)) (λ_ _ _ _=>yQ) (λ_ _ _ _=>(wO Y_number (hr.mono w6) rfl (zc (zh 1) (zc (zh 2) (zc (zh 0) zj)))))) zj)))
  (zR (xE (wq xt wo (vM (zc (yV (zc Xk zj)) (zc (yV (zc Xk (zc (zh 2) zj))) (zc (yV (zc Xk (zc (zh 2) zj))) zj)))) (wO Y_pick (hr.mono w6) rfl (zc (zh 0) (zc zu zj))) (λ_ _=>rfl)))))) ?_
 rintro ds n Q hl ⟨d,ts,rfl,rfl,hd4,hg,hz,q⟩;have nh:=vL d ts;simp[startD,nh]
 refine zo8 ⟨d,rfl,w5,w5,?_⟩
 refine Kn (Je 0 d) 3 (λ_ e=>∃x:Int,zb9 x/\e=.int x) (by rw[qZ];exact wX w5) (λj d2 e2 Q' hQ'=>?_) (λes hp=>?_)
 ·obtain⟨hj,rfl⟩:=Xc e2;simp[nh];exact jc hj hg hz λx hx=>hQ' _ ⟨x,hx,rfl⟩
 ·have hlen := hp.length;rw[qZ] at hlen;obtain⟨ps,rfl,hps⟩:=jb hp;rw[zg] at hlen;simp
  refine wn w6 w6 λk g0 g1=>zG3 g0 (by simpa using g1) λdd hdd=>?_
  have hq:=q (some ps) λpl e=>by cases e;exact⟨w5,hps⟩
  simp only[zi,zZ,or_false] at hdd
  rcases hdd with rfl |rfl |rfl
  ·exact q none λpl e=>by cases e
  ·exact hq
  ·exact hq
abbrev qz:Stmt:=top 38
abbrev qL:List Str:=["_law_house_here","_law_plain_here","_law_kind_here","_law_keys","_law_name","_law_place","_law_worth"]
def vO:FnScope qL q14 (xg qz):=⟨rfl,rfl,rfl,x6,rfl,x6,x6⟩
def Yy:("_law_one" :: qL:List Str).Nodup:=x6
def qO:("_law_far" :: "_law_name" :: ["_law_house_here","_law_plain_here","_law_kind_here","_law_keys","_law_name'","_law_place","_law_worth"]:List Str).Nodup:=x6
def Vd:TF:=λds n Q=>∃(d:Nat) (hs:List Thing) (pl:List Pair) (kd:Option (List Int)),ds=[wz d hs,xf pl,vm kd]/\1<=d/\d<=400/\pl.length=d/\(∀t∈hs,t.2.1.length=d)/\(hs.map λt=>t.1).Nodup/\hs.length<=60/\(∀p,kd=some p->p.length<=1000)/\∀rs:List Thing,rs.Perm (jz pl hs)->rs.Pairwise (ltK d kd)->Q (.lst (rs.map λt=>.int t.1)) n
def zk7(T:Blt mg)(F:Fun K "_law_ranked" "_law_ranked" qz f fd)(Y_fits:Fn P w K mg base "_law_fits" 2 2 KR)(Y_steps:Fn P w K mg base "_law_steps" 1 2 Zq):FnOk P w K mg base CX0 3 f fd q14 (spD K 3 Vd):=by
 refine Fun.okD F vO (λ_ _ _ s H E G Z hr=>(zD (Xi (i:=3) vO.nd rfl (lo rfl) zj)
  (zD (qh (m:=7) PassesOwn.never rfl (vo rfl (wq xt wo (zh 0) zu (λ_ _=>rfl))) (vp (k:=3) rfl rfl (xl (zV (i:=4) vO.nd rfl (lo rfl) w6) (xl (zV (i:=5) vO.nd rfl (lo rfl) w6) (xl (zV (i:=6) vO.nd rfl (lo rfl) w6) yR))))
  (zR (vn (ZS (wO Y_fits (hr.mono w6) rfl (zc (zh 1) (zc (zh 5) zj)))) (zR (kK (i:=3) (zc (yV (zc (Wh (xW VE Vv (wq xt wo (zh 2) zu (λ_ _=>rfl)) Xk (wG _)) (qd zu (zh 6)) (wO Y_steps (hr.mono w6) rfl (zc (vA (own:=["_law_one"]) (M:=qL) (vH (by rfl)) rfl (vo rfl (zh 5)) (λ_ _ _ _=>(zV (i:=0) Yy rfl (lo rfl) w6)) (λ_ _ _ _=>yQ) (λ_ _ _ _=>(yV (zc (zh 0) (zc (zh 0) zj))))) (zc (wq xt wo (zh 2) zu (λ_ _=>rfl)) zj)))) (zc (zh 4) zj))) zj) rfl)) wP)))
  (zR (ZT 3 (xE (vA (own:=["_law_far","_law_name"]) (M:=["_law_house_here","_law_plain_here","_law_kind_here","_law_keys","_law_name'","_law_place","_law_worth"]) (vH (by rfl)) rfl (vo rfl (wc (WX hr) (QH rfl) T.sorted ZF (zc (zh 3) zj))) (λ_ _ _ _=>(vp (k:=2) rfl rfl (xl (zV (i:=0) qO rfl (lo rfl) w6) (xl (zV (i:=1) qO rfl (lo rfl) w6) yR)))) (λ_ _ _ _=>yQ) (λ_ _ _ _=>(zh 1))))))))) ?_
 generalize hS:xj4 3 _=Sr;rintro ds n Q hl ⟨d,hs,pl,kd,rfl,hd1,hd2,hpl,hln,hn,hz,hk,q⟩;have nh:=vL d hs;simp[startD,nh];refine WS ?_;simp;refine⟨JRk d hs pl kd n,⟨rfl,_,_,_,rfl⟩,?_,?_⟩
 ·rintro i dd rho m e ⟨rfl, a, b, c, rfl⟩;clear hS;rw[zt] at e
  cases ht:hs[i]? with
  |none=>rw[ht] at e;cases e
  | some t =>
   rw[ht] at e;cases e;have hm:=zP ht;have hi:i<hs.length:=(zn.mp ht).1;have htl:=hln t hm;have np:xT (wY t.2.1)=true:=id rfl;have hft:=zD2 (pl:=pl) ht
   have hsz:(jz pl (hs.take i)).length<sizeLine:=by
    have h1:(jz pl (hs.take i)).length<=(hs.take i).length:=yk ..;rw[yM] at h1
    exact lt_size w5
   simp[xD,np]
   refine⟨pl,t.2.1,rfl,w5,w5,w5,?_⟩
   simp
   split
   ·rename_i hf;rw[if_pos hf] at hft;refine⟨hsz,?_⟩
    have fin:∀x:Int,x=zH2 kd t->JRk d hs pl kd m (i+1) [some (wz d hs),some (xf pl),some (vm kd),some (.own ((jz pl (hs.take i)).map (λt=>Yj (zH2 kd t,t.1))++[.tup [.int x,.int t.1]])),some (.int t.1),some (wY t.2.1),some (.int t.2.2)] m:=λx hx=>by subst hx;exact⟨rfl,_,_,_,by rw[hft,zS];rfl⟩
    cases kd with
    | some p =>
     refine⟨_,0,_,.inr (.inl rfl),rfl,rfl,?_⟩;simp
     rw[if_neg w6]
     refine⟨t.2.1.map D.int,.inr rfl,yd D.int (λx=>xx (some x,some x)) t.2.1 (wX w5) (λx hx R hR=>?_) ?_⟩
     ·simp;exact hR
     ·refine ⟨_, 1, _, .inr (.inl rfl), rfl, rfl, ?_⟩
      refine⟨_,p,ptI t.2.1,rfl,.inr (by unfold ptI;rw[zE,zE];rfl),hk p rfl,?_⟩
      exact fin _ rfl
    |none=>
     refine⟨_,0,_,.inr (.inl rfl),rfl,rfl,?_⟩;simp;exact fin _ (Int.zero_sub _).symm
   ·rename_i hf;rw[if_neg hf,wB] at hft
    exact⟨rfl,_,_,_,by rw[hft]⟩
 ·rintro rho m ⟨rfl, a, b, c, rfl⟩;subst hS;rw[zg,wF];have hfl:(jz pl hs).length<=hs.length:=yk ..;simp
  refine⟨(jz pl hs).map (xp9 kd),true,by rw[zE];rfl,by rw[zg];lia,λx hx=>?_,?_,λrows hp hs'=>⟨_,.inl rfl,?_⟩⟩
  ·obtain⟨_,_,rfl⟩:=zk.mp hx;rfl
  ·rw[zE];exact(List.filter_sublist.map _).nodup hn
  ·obtain ⟨rs, hrp, rfl⟩ := Qm hp;rw[zE]
   refine yd (SRow.d∘xp9 kd) (λt=>.int t.1) rs (wX (by rw[hrp.length_eq];lia)) (λt ht R hR=>?_) ?_
   ·have e:(SRow.d∘xp9 kd) t=.tup [.int (zH2 kd t),.int t.1]:=rfl;rw[e];simp;exact hR
   ·refine q rs hrp ?_;rw[xG] at hs';refine List.Pairwise.imp_of_mem (λ{a b} ha hb h=>?_) hs';have la:=hln a (zx.mp (hrp.mem_iff.mp ha)).1;have lb:=hln b (zx.mp (hrp.mem_iff.mp hb)).1;unfold ltK;rw[VS la,VS lb];exact zh8 h
abbrev kB:Stmt:=top 39
abbrev kF:List Str:=["_law_house_here","_law_kind_here","_law_name","_law_own","_law_place","_law_worth"]
def vJ:FnScope kF q15 (xg kB):=⟨rfl,rfl,rfl,x6,rfl,x6,x6⟩
def Zg:("_law_one" :: kF:List Str).Nodup:=x6
def JT:TF:=λds n Q=>∃(d:Nat) (hs:List Thing) (kd:Option (List Int)) (t:Thing),ds=[wz d hs,vm kd,.int t.1]/\t∈hs/\d<=400/\t.2.1.length=d/\(hs.map λt=>t.1).Nodup/\(∀p,kd=some p->p.length<=1000)/\Q (Yj (wW d kd [t])) n
def zO8(T:Blt mg)(F:Fun K "_law_thing_key" "_law_thing_key" kB f fd)(Y_steps:Fn P w K mg base "_law_steps" 1 2 Zq):FnOk P w K mg base CX0 2 f fd q15 (spD K 3 JT):=by
 refine Fun.okD F vJ (λ_ _ _ s H E G Z hr=>(zD (qh (m:=6) PassesOwn.never rfl (vo rfl (wq xt wo (zh 0) zu (λ_ _=>rfl))) (vp (k:=3) rfl rfl (xl (zV (i:=3) vJ.nd rfl (lo rfl) w6) (xl (zV (i:=4) vJ.nd rfl (lo rfl) w6) (xl (zV (i:=5) vJ.nd rfl (lo rfl) w6) yR))))
  (zR (vn (xW VE Vv (zh 3) (zh 2) (wG _)) (zR (xE (yV (zc (Wh (xW VE Vv (wq xt wo (zh 1) zu (λ_ _=>rfl)) Xk (wG _)) (qd zu (zh 5)) (wO Y_steps (hr.mono w6) rfl (zc (vA (own:=["_law_one"]) (M:=kF) (vH (by rfl)) rfl (vo rfl (zh 4)) (λ_ _ _ _=>(zV (i:=0) Zg rfl (lo rfl) w6)) (λ_ _ _ _=>yQ) (λ_ _ _ _=>(yV (zc (zh 0) (zc (zh 0) zj))))) (zc (wq xt wo (zh 1) zu (λ_ _=>rfl)) zj)))) (zc (zh 3) zj))))) wP)))
  (zR (xE ve)))) ?_
 rintro ds n Q hl ⟨d,hs,kd,t,rfl,htm,hd2,htl,hn,hk,q⟩;rw[VS htl] at q;have nh:=vL d hs;simp[startD,nh];refine WS ?_;simp
 refine⟨JTk d hs kd t.1 n,⟨rfl,λk t h=>by lia,_,_,_,rfl⟩,?_,?_⟩
 ·rintro i dd rho m e ⟨rfl, hu, a, b, c, rfl⟩;rw[zt] at e
  cases ht:hs[i]? with
  |none=>rw[ht] at e;cases e
  | some u =>
   rw[ht] at e;cases e;have hm:=zP ht;have np:xT (wY u.2.1)=true:=id rfl;simp[xD,np]
   split
   ·rename_i he;have he':u=t:=JS hn hm htm he;subst he'
    cases kd with
    | some p =>
     refine⟨_,0,_,.inr (.inl rfl),rfl,rfl,?_⟩;simp
     rw[if_neg w6]
     refine⟨u.2.1.map D.int,.inr rfl,yd D.int (λx=>xx (some x,some x)) u.2.1 (wX w5) (λx hx R hR=>?_) ?_⟩
     ·simp;exact hR
     ·refine ⟨_, 1, _, .inr (.inl rfl), rfl, rfl, ?_⟩
      exact⟨_,p,ptI u.2.1,rfl,.inr (by unfold ptI;rw[zE,zE];rfl),hk p rfl,q⟩
    |none=>
     refine⟨_,0,_,.inr (.inl rfl),rfl,rfl,?_⟩;simp
     have e:zH2 none u=- u.2.2:=by show 0-u.2.2=_;lia
     rw[e] at q;exact q
   ·rename_i he;refine⟨rfl,λk v hk hv=>?_,_,_,_,rfl⟩
    by_cases e:k=i
    ·subst e;rw[ht] at hv;cases hv;exact he
    ·exact hu k v w5 hv
 ·rintro rho m ⟨rfl, hu, a, b, c, rfl⟩
  exfalso
  obtain⟨k,hk,e⟩:=List.getElem_of_mem htm
  exact hu k t (by rw[zg];exact hk) (by rw[zd hk,e]) rfl
end
def vy(pl:List Pair):Option Tr->List Tr
 |none=>[]
 |some tr=>vq pl tr
def qI(rs:List Thing)(k:Nat):Thing:=rs[k-1]?.getD (0,[],0)
noncomputable def ze5(d:Nat)(kd:Option (List Int))(hs rs:List Thing)(k:Nat)(all:List Tr):Nat:=
 if rs.length<k then all.length else if 0<k then(all.filter λy=>!ltP (wW d kd [qI rs k]) (kT d kd hs y)).length else 0
noncomputable def zI4(d:Nat)(kd:Option (List Int))(hs:List Thing)(pl:List Pair)(L:Int × Int):Option Tr->List Tr
 |none=>[]
 |some tr=>yZ d kd hs pl L tr
noncomputable def Ul(d:Nat)(kd:Option (List Int))(hs:List Thing)(pl:List Pair)(rs:List Thing)(k:Nat)(o:Option Tr):List (List Int):=
 if rs.length<k\/k=0 then [] else(zI4 d kd hs pl (wW d kd [qI rs k]) o).map yg
noncomputable def kN(d:Nat)(kd:Option (List Int))(hs:List Thing)(ns:List Int):Int × Int:=wW d kd (hs.filter λt=>decide (t.1∈ns))
def LtN(d:Nat)(kd:Option (List Int))(hs:List Thing)(a b:List Int):Prop:=ltP (kN d kd hs a) (kN d kd hs b)=true
section
variable {d:Nat}{hs:List Thing}{kd:Option (List Int)}{pl:List Pair}{k n':Nat}{o:Option Tr}{q ws:List Qe}{acc rs:List Thing}
def zD6(hd:1<=d)(hp:pl.length=d)(hn:(hs.map λt=>t.1).Nodup)(ho1:o=none->hs=[])(ho2:∀tr,o=some tr->TreeOf d hs tr)(hr:rs.Perm (jz pl hs))(hu:rs.Pairwise (ltK d kd))(R:Reach d kd pl k (jA o hs pl k) n' q acc)(hst:q=[]\/acc.length=k)(hle:acc.length<=k)(hw:ws.Perm q)(hs':ws.Pairwise (LtQ d kd)) :
  acc=rs.take k/\n'=ze5 d kd hs rs k (vy pl o)/\(ws.map λx=>yg x.2).Perm (Ul d kd hs pl rs k o)/\(ws.map λx=>yg x.2).Pairwise (LtN d kd hs):=by
 by_cases h0:k=0
 ·subst h0;obtain⟨e1,e2,e3⟩:=R.zero
  have e4:jA o hs pl 0=[]:=by cases o with |none=>rfl |some tr=>exact(if_pos rfl:(if 0=0 then [] else vg pl [(hs,tr)])=[])
  rw[e4] at e2;subst e1 e2 e3;have e5:ws=[]:=hw.eq_nil;subst e5;refine⟨rfl,?_,?_,.nil⟩
  ·unfold ze5;rw[if_neg w5,if_neg w5]
  ·unfold Ul;rw[if_pos (.inr rfl)];exact .refl _
 ·have D00 : DOk d hs kd pl (jA o hs pl k) [] := by
   cases o with
   |none=>exact .none (ho1 rfl)
   |some tr=>
    show DOk d hs kd pl (if k=0 then [] else vg pl [(hs,tr)]) []
    rw[if_neg h0];exact .start hd hp (ho2 tr rfl) hn
  have D1:=R.dok hd hp D00;have hacc:=D1.told hn hr hu;obtain⟨P,ok⟩:=R.pok hd hp hn D00
  have eall:((jA o hs pl k).flatMap λx=>vq pl x.2)=vy pl o:=by
   cases o with
   |none=>rfl
   |some tr=>
    show((if k=0 then [] else vg pl [(hs,tr)]).flatMap λx=>vq pl x.2)=vq pl tr
    rw[if_neg h0,jf _ (λtr=>ZX)];simp
  have efr:∀L,((jA o hs pl k).flatMap λx=>yZ d kd hs pl L x.2)=zI4 d kd hs pl L o:=λL=>by
   cases o with
   |none=>rfl
   |some tr=>
    show((if k=0 then [] else vg pl [(hs,tr)]).flatMap λx=>yZ d kd hs pl L x.2)=yZ d kd hs pl L tr
    rw[if_neg h0,jf _ (λtr=>XM)];simp
  rw[eall] at ok;have hlen:=D1.perm.length_eq;rw[zI] at hlen;have hrl:=hr.length_eq
  have hsort:(ws.map λx=>yg x.2).Pairwise (LtN d kd hs):=by
   rw[xG];refine List.Pairwise.imp_of_mem (λ{a b} ha hb h=>?_) hs';have i1:kN d kd hs (yg a.2)=wW d kd a.1:=D1.ok.keyOf hn (hw.mem_iff.mp ha);have i2:kN d kd hs (yg b.2)=wW d kd b.1:=D1.ok.keyOf hn (hw.mem_iff.mp hb);unfold LtN;rw[i1,i2];exact h
  have hnil:q=[]->acc.length=rs.length:=λh=>by
   subst h;have:(jz pl (vh [])).length=0:=rfl;lia
  by_cases hk:rs.length<k
  ·have hq : q = [] := by
    rcases hst with h |h
    ·exact h
    ·lia
   have ha:=hnil hq;subst hq;have e5:ws=[]:=hw.eq_nil;subst e5;refine⟨?_,?_,?_,.nil⟩
   ·have e := hacc;rw[ha,wF] at e
    rw[e,yU w5]
   ·unfold ze5;rw[if_pos hk];exact ok.looks0
   ·unfold Ul;rw[if_pos (.inl hk)];exact .refl _
  ·have hak : acc.length = k := by
    rcases hst with h |h
    ·have:=hnil h;lia
    ·exact h
   obtain⟨t,ht,f1,f2⟩:=ok.fin hak w5
   rw[hak] at hacc
   have et:t=qI rs k:=by
    rw[List.getLast?_eq_getElem?,hak,hacc,List.getElem?_take_of_lt w5] at ht
    unfold qI;rw[ht];rfl
   subst et;refine⟨hacc,?_,?_,hsort⟩
   ·unfold ze5
    rw[if_neg hk,if_pos w5]
    exact ok.looks1 hn D1.ok f1 f2
   ·unfold Ul
    rw[if_neg w5]
    have hwt:=ok.waits hn D1 f1 f2;rw[efr] at hwt;have z:=((hw.map λx=>x.2).trans hwt).map yg;rw[zE] at z;exact z
def zb3:(vy pl (o.map vX)).Perm ((vy pl o).map vX):=by
 cases o with
 |none=>exact .refl _
 |some tr=>exact Xo pl tr
def zD5:ze5 d kd hs rs k (vy pl (o.map vX))=ze5 d kd hs rs k (vy pl o):=by
 have p:=zb3 (pl:=pl) (o:=o);unfold ze5;rw[p.length_eq,zg,(p.filter _).length_eq,filter_map,zg]
 have e:((λy=>!ltP (wW d kd [qI rs k]) (kT d kd hs y))∘vX)=λy=>!ltP (wW d kd [qI rs k]) (kT d kd hs y):=by
  funext y
  show(!ltP (wW d kd [qI rs k]) (kT d kd hs (vX y)))=_;rw[zf6]
 rw[e]
def zf2:(Ul d kd hs pl rs k (o.map vX)).Perm (Ul d kd hs pl rs k o):=by
 unfold Ul
 split
 ·exact .refl _
 ·have e : ∀ l : List Tr, (l.map vX).map yg = l.map yg := λl => by
   rw[zE];exact ye λt _=>WB t
  cases o with
  |none=>exact .refl _
  |some tr=>
   have z:=(Yh d kd hs pl (wW d kd [qI rs k]) tr).map yg;rw[e] at z;exact z
theorem Uu:∀{l m:List (List Int)},l.Perm m->l.Pairwise (LtN d kd hs)->m.Pairwise (LtN d kd hs)->l=m
 |[],m,p,_,_=>p.symm.eq_nil.symm
 |a::l,[],p,_,_=>p.eq_nil
 | a :: l, b :: m, p, h1, h2 => by
  obtain⟨s1,s2⟩:=xM.mp h1;obtain⟨u1,u2⟩:=xM.mp h2
  have e:a=b:=by
   rcases zi.mp (p.mem_iff.mp (xh (a:=a) (l:=l))) with e |ha
   ·exact e
   ·rcases zi.mp (p.mem_iff.mpr (xh (a := b) (l := m))) with e | hb
    ·exact e.symm
    ·have z:LtN d kd hs a a:=XB (s1 b hb) (u1 a ha);unfold LtN at z;rw[Yb] at z;cases z
  subst e;rw[Uu p.cons_inv s2 u2]
end
noncomputable def Yx(d:Nat)(kd:Option (List Int))(hs rs:List Thing)(k:Nat)(all:List Tr)(ns:List (List Int)):D:=.tup [.tup ((rs.map λt=>.int t.1).take k),.int (ze5 d kd hs rs k all),.tup (ns.map λl=>.tup (l.map D.int))]
def zv0(ws:List Qe):QZ ws=.tup ((ws.map λx=>yg x.2).map λl=>.tup (l.map D.int)):=by
 unfold QZ;rw[zE];rfl
def zA7(l:List Int)(k:Nat):okE (.tup (l.map D.int)) (k+1)=true:=UM l k
def Xs{d:Nat}{kd:Option (List Int)}{hs rs:List Thing}{k:Nat}{all:List Tr}{ns:List (List Int)}:okE (Yx d kd hs rs k all ns) 20=true:=Zc.mpr λe he=>by
 simp only[zi,zZ,or_false] at he
 rcases he with rfl |rfl |rfl
 ·exact Zc.mpr λe he=>by
   obtain⟨t,_,rfl⟩:=zk.mp (List.mem_of_mem_take he);exact Zd
 ·exact Zd
 ·exact Zc.mpr λe he=>by
   obtain⟨l,_,rfl⟩:=zk.mp he;exact zA7 l 17
def zS6{d:Nat}{kd:Option (List Int)}{hs rs:List Thing}{k:Nat}{all:List Tr}:ze5 d kd hs rs k all=if rs.length<k then all.length else if 0<k then((all.map λy=>kT d kd hs y).filter λp=>!ltP (wW d kd [qI rs k]) p).length else 0:=by
 unfold ze5;rw[filter_map,zg];rfl
end K44
set_option maxHeartbeats 2000000
namespace K44
def TreeOf.opens{d:Nat}{hs:List Thing}{pl:List Pair}{ts:List Thing}{tr:Tr}(h:TreeOf d ts tr):(∀t∈ts,t∈hs)->(ts.map λt=>t.1).Nodup->∀y∈vq pl tr,∃us,TreeOf d us y/\(∀t∈us,t∈hs)/\(us.map λt=>t.1).Nodup:=by
 induction h with
 |@one t hl=>
  intro hsub hnt y hy;unfold vq at hy
  split at hy
  ·simp at hy
  ·rw[zG.mp hy];exact⟨_,.one hl,hsub,hnt⟩
 | @two ts ls us ns lo hi p hp hs1 t1 t2 ih1 ih2 =>
  intro hsub hnt y hy;have hnp:((ls++us).map λt=>t.1).Nodup:=(p.map _).nodup_iff.mpr hnt;rw[zS,wu] at hnp;unfold vq at hy
  split at hy
  ·simp at hy
  ·rcases zi.mp hy with rfl | hy
   ·exact⟨_,.two p hp hs1 t1 t2,hsub,hnt⟩
   ·rcases zW.mp hy with hy | hy
    ·exact ih1 (λt ht=>hsub t (p.mem_iff.mp (xj _ ht))) hnp.1 y hy
    ·exact ih2 (λt ht=>hsub t (p.mem_iff.mp (zr _ ht))) hnp.2.1 y hy
structure JLaw(ns:List Int)(i:Nat)(rho:Rho)(n:Nat):Prop where
 e:n=3
 r:∃a1 a2 a3 a4 a5 a6 a7 a8 a9 a10 a11 a12 a13 a14:Option D,rho=[some (wv ns),a1,a2,a3,a4,a5,a6,a7,a8,a9,a10,a11,a12,a13,a14]
structure JTn(hd:List (Option D))(i:Nat)(rho:Rho)(n:Nat):Prop where
 e:n=3
 r:∃b5 b6 b7 b8 b9 b10 b11 b12 b13 b14:Option D,rho=hd++[b5,b6,b7,b8,b9,b10,b11,b12,b13,b14]
structure JMn(hd:List (Option D))(i:Nat)(rho:Rho)(n:Nat):Prop where
 e:n=3
 r:∃c11 c12 c13 c14:Option D,rho=hd++[c11,c12,c13,c14]
def ZI(o:Option Tr):D:=(o.map vC).getD .non
def VI(o:Option Tr):xT (ZI o)=true:=by cases o with |none=>rfl |some t=>exact vt t
def Ji{j d n:Nat}{o:Option Tr}{pl:List Pair}{Q:D->Nat->Prop}(hd1:1<=d)(hd2:d<=400)(hpl:pl.length=d)(hst:yt pl=pl)(ho:∀tr,o=some tr->∃ts,TreeOf d ts tr)(hdp:∀tr,o=some tr->ZE tr+1<=j/\qp tr<=1000)(q:Q (.lst ((vy pl o).map vC)) n):YW (j+1) [ZI o,xf pl] n Q:=by
 cases o with
 |none=>exact⟨d,none,pl,rfl,hd1,hd2,hpl,hst,ho,hdp,q⟩
 |some tr=>exact⟨d,some tr,pl,rfl,hd1,hd2,hpl,hst,ho,hdp,q⟩
structure TurnOk(d:Nat)(hs:List Thing)(o:Option Tr)(b:List WA)(kd:Option (List Int))(rs:List Thing):Prop where
 d1:1<=d
 d4:d<=4
 good:GoodT d hs 2000
 len:hs.length<=30
 h0:o=none->hs=[]
 h1:∀tr,o=some tr->TreeOf d hs tr
 box:b.length=d
 kind:∀pl,kd=some pl->pl.length=d/\∀x∈pl,zb9 x
 perm:rs.Perm (jz (wR b) hs)
 up:rs.Pairwise (ltK d kd)
def TurnOk.drawn{d:Nat}{hs rs:List Thing}{o:Option Tr}{b:List WA}{kd:Option (List Int)}{k:Nat}{R:D->Nat->Prop}(h:TurnOk d hs o b kd rs)(hR:∀ns:List (List Int),ns.Perm (Ul d kd hs (wR b) rs k o)->ns.Pairwise (LtN d kd hs)->R (Yx d kd hs rs k (vy (wR b) o) ns) 3):Vj [wz d hs,ZI o,vG b,vm kd,.int k] 3 R:=by
 have d4:=h.d4;have hz:=h.len
 refine⟨d,hs,o,b,kd,k,rfl,h.d1,w5,h.box,h.good.nodup,w5,λp e=>by have:=(h.kind p e).1;lia,h.h0,h.h1,zS1 h.good h.d4 λpl e=>(h.kind pl e).2,λn' q ws acc r1 r2 r3 r4 r5=>?_⟩
 obtain⟨e1,e2,e3,e4⟩:=zD6 h.d1 (by rw[ZU];exact h.box) h.good.nodup h.h0 h.h1 h.perm h.up r1 r2 r3 r4 r5
 subst e1 e2;rw[zv0,map_take];exact hR _ e3 e4
def TurnOk.turn{d:Nat}{hs rs:List Thing}{o:Option Tr}{b:List WA}{kd:Option (List Int)}(h:TurnOk d hs o b kd rs):TurnOk d hs (o.map vX) b kd rs:=
 ⟨h.d1,h.d4,h.good,h.len,λe=>h.h0 (by cases o with |none=>rfl |some t=>cases e),λtr e=>by cases o with |none=>cases e |some t=>cases e;exact(h.h1 t rfl).turn,h.box,h.kind,h.perm,h.up⟩
def TurnOk.last{d:Nat}{hs rs:List Thing}{o:Option Tr}{b:List WA}{kd:Option (List Int)}{k:Nat}{n:Nat}{R:D->Nat->Prop}(h:TurnOk d hs o b kd rs)(h1:0<k)(h2:k<=rs.length)(hR:R (Yj (wW d kd [qI rs k])) n):atI (rs.map λt=>D.int t.1) ((k:Int)-1)=some (.int (qI rs k).1)/\JT [wz d hs,vm kd,.int (qI rs k).1] n R:=by
 have e:rs[k-1]?=some rs[k-1]:=zd w5
 have el:qI rs k=rs[k-1]:=by unfold qI;rw[e];rfl
 have hm:qI rs k∈hs:=by
  rw[el]
  exact(zx.mp (h.perm.mem_iff.mp (wl (by lia:k-1<rs.length)))).1
 have d4:=h.d4
 refine⟨?_,d,hs,kd,qI rs k,rfl,hm,w5,(h.good.each _ hm).2.2.1,h.good.nodup,λp e=>by have:=(h.kind p e).1;lia,hR⟩
 have z:((k:Int)-1)=((k-1:Nat):Int):=w5
 rw[z];refine kX ?_;rw[zt,e,el];rfl
section
variable {P:Program}{w:World}{K:W.Frag}{mg:Str->Option Value}{base:Heap}{f:Addr}{fd:FuncData}
abbrev Vr:Stmt:=top 42
abbrev zu2:List Str:=["_law_script","_law_k","_law_left_here","_law_house_here","_law_tree_here","_law_turn","_law_box_here","_law_kind_here","_law_plain_here","_law_keys","_law_names","_law_many","_law_due","_law_last","_law_found"]
def kG:FnScope zu2 ["_law_script"] (xg Vr):=⟨rfl,rfl,rfl,x6,rfl,x6,x6⟩
def zB1:("_law_one" :: zu2:List Str).Nodup:=x6
def zB0:("_law_one" :: zu2:List Str).Nodup:=x6
def xd1(T:Blt mg)(F:Fun K "law" "law" Vr f fd)(Y_left:Fn P w K mg base "_law_left" 1 2 zf9)(Y_house:Fn P w K mg base "_law_house" 2 1 KS)(Y_tree:Fn P w K mg base "_law_tree" 35 2 Ve)(Y_box:Fn P w K mg base "_law_box" 3 2 zK4)(Y_kind:Fn P w K mg base "_law_kind" 3 2 zg0)(Y_plain:Fn P w K mg base "_law_plain" 1 1 Vf)(Y_open_trees:Fn P w K mg base "_law_open_trees" 34 2 (YW 31))(Y_key:Fn P w K mg base "_law_key" 2 3 zf8)(Y_ranked:Fn P w K mg base "_law_ranked" 3 3 Vd)(Y_thing_key:Fn P w K mg base "_law_thing_key" 2 3 JT)(Y_turned:Fn P w K mg base "_law_turned" 31 1 (YJ 30))(F_drawn:Fn P w K mg base "drawn" 8 5 Vj) :
  FnOk P w K mg base CX0 36 f fd ["_law_script"] (Ut K):=by
 refine Fun.okLaw F kG 3 (λ_ _ _ s H E hr=>(zD (qh (m:=15) PassesOwn.never rfl (qF T.range (zc (wc (Kt rfl) zr9 T.max WY (zc zu (zc (wc (Kq rfl) zr6 T.min Kw (zc (wc wD kI T.len kh (zc (zh 0) zj)) (zc zu zj))) zj))) zj)) (zV (i:=1) kG.nd rfl (lo rfl) w6)
  (zx9 (i:=2) rfl kG.nd rfl (lo rfl) Y_left (hr.mono w6) rfl (zc (zh 0) (zc (zh 1) zj)) (λc Z H0=>(zD (yf (i:=3) kG.nd rfl (lo rfl) (wO Y_house (hr.mono w6) rfl (zc (zh 2) zj)))
  (zD (yf (i:=4) kG.nd rfl (lo rfl) (wO Y_tree (hr.mono w6) rfl (zc (zh 2) (zc (zh 3) zj))))
  (zR (qh (m:=15) PassesOwn.never rfl (qF T.range (zc zu zj)) (zV (i:=5) kG.nd rfl (lo rfl) w6)
  (zD (jX (m:=15) (yV (zc (wO Y_box (hr.mono w6) rfl (zc (zh 2) (zc (zh 3) zj))) (zc (wO Y_kind (hr.mono w6) rfl (zc (zh 2) (zc (zh 3) zj))) zj))) (vp (k:=2) rfl rfl (xl (zV (i:=6) kG.nd rfl (lo rfl) w6) (xl (zV (i:=7) kG.nd rfl (lo rfl) w6) yR))))
  (zD (yf (i:=8) kG.nd rfl (lo rfl) (wO Y_plain (hr.mono w6) rfl (zc (zh 6) zj)))
  (zD (jY (i:=9) kG.nd rfl (lo rfl) (own:=["_law_one"]) (M:=zu2) (vH (by rfl)) rfl (vo rfl (wO Y_open_trees (hr.mono w6) rfl (zc (zh 4) (zc (zh 8) zj)))) (λ_ _ _ _=>(zV (i:=0) zB1 rfl (lo rfl) w6)) (λ_ _ _ _=>yQ) (λ_ _ _ _=>(wO Y_key (hr.mono w6) rfl (zc (zh 4) (zc (zh 0) (zc (zh 8) zj))))))
  (zD (yf (i:=10) kG.nd rfl (lo rfl) (wO Y_ranked (hr.mono w6) rfl (zc (zh 3) (zc (zh 8) (zc (zh 7) zj)))))
  (zR (qh (m:=15) PassesOwn.never rfl (qF T.range (zc (kH (wc wD kI T.len kh (zc (zh 10) zj)) zu) zj)) (zV (i:=11) kG.nd rfl (lo rfl) w6)
  (zD (yf (i:=12) kG.nd rfl (lo rfl) (Wh (xW Xp Xe (zh 11) (wc wD kI T.len kh (zc (zh 10) zj)) (wG _)) (wc wD kI T.len kh (zc (zh 9) zj)) zu))
  (zD (vn (zi8 zz7 xy9 zu (zh 11) (wc wD kI T.len kh (zc (zh 10) zj))) (zD (yf (i:=13) kG.nd rfl (lo rfl) (wO Y_thing_key (hr.mono w6) rfl (zc (zh 3) (zc (zh 7) (zc (wq xt wo (zh 10) (qd (zh 11) zu) (λ_ _=>rfl)) zj)))))
  (zR (yf (i:=12) kG.nd rfl (lo rfl) (wc wD kI T.len kh (zc (vA (own:=["_law_one"]) (M:=zu2) (vH (by rfl)) rfl (vo rfl (zh 9)) (λ_ _ _ _=>(zV (i:=0) zB0 rfl (lo rfl) w6)) (λ_ _ _ _=>(Vx (xW (xc7 hr) (zX5 rfl) (zh 0) (zh 14) (wG _)))) (λ_ _ _ _=>(zh 0))) zj))))) wP)
  (zD (yf (i:=14) kG.nd rfl (lo rfl) (wO F_drawn (hr.mono w6) rfl (zc (zh 3) (zc (zh 4) (zc (zh 6) (zc (zh 7) (zc (zh 11) zj)))))))
  (zD (vn (xW xy8 xq0 (wq xt wo (zh 14) zu (λ_ _=>rfl)) (zh 12) (wG _)) (zR (xE Zw)) wP)
  (zR (vn (xW Zb jV (zh 4) ve (wG _)) (zR (vn (xW (zH0 hr) (zX6 rfl) (wO F_drawn (hr.mono w6) rfl (zc (zh 3) (zc (wO Y_turned (hr.mono w6) rfl (zc (zh 4) zj)) (zc (zh 6) (zc (zh 7) (zc (zh 11) zj)))))) (zh 14) (wG _)) (zR (xE Zw)) wP)) wP)))))))))))))))))))
  (zR (xE Zw)))) ?_
 generalize hE:Vu (JY 14 _) _=EX;generalize hM:Vu (JY 12 _) _=MX;generalize hB:Vu (xp2 _ _) _=BX;generalize hX:Vu (JY 3 _) _=X;intro ns hns;have nsc:xT (wv ns)=true:=id rfl
 have runE:∀(F:EndsD) (d:Nat) (hs rs:List Thing) (o:Option Tr) (b:List WA) (kd:Option (List Int)) (k:Nat) (a5 a8 a9 a10 a13:Option D) (a14:Option D),TurnOk d hs o b kd rs ->
   (∀c14:Option D,F.nx [some (wv ns),none,some .st,some (wz d hs),some (ZI o),a5,some (vG b),some (vm kd),a8,a9,a10,some (.int k),some (.int (ze5 d kd hs rs k (vy (wR b) o))),a13,c14] 3) ->
   EX F [some (wv ns),none,some .st,some (wz d hs),some (ZI o),a5,some (vG b),some (vm kd),a8,a9,a10,some (.int k),some (.int (ze5 d kd hs rs k (vy (wR b) o))),a13,a14] 3:=λF d hs rs o b kd k a5 a8 a9 a10 a13 a14 ht hF=>by
  subst hE;have nh:=vL d hs;have no:=VI o;have nb:xT (vG b)=true:=rfl;simp[nh,no,nb];refine ht.drawn λws w1 w2=>?_;unfold Yx;simp
  cases o with
  |none=>exact hF _
  |some tr=>
   have ni:jg (ZI (some tr))=false:=by cases tr<;>rfl
   rw[if_neg (by rw[ni];simp)]
   have dp:=(ht.h1 tr rfl).deep;have hz:=ht.len
   refine⟨tr,rfl,show ZE tr+1<=29+1 by lia,?_⟩
   refine(TurnOk.turn ht).drawn λws2 w3 w4=>?_;have e1:ws2=ws:=Uu (w3.trans (zf2.trans w1.symm)) w4 w2;subst e1;have e2:=zD5 (d:=d) (kd:=kd) (hs:=hs) (rs:=rs) (k:=k) (pl:=wR b) (o:=some tr)
   have key:Yx d kd hs rs k (vy (wR b) (Option.map vX (some tr))) ws2=Yx d kd hs rs k (vy (wR b) (some tr)) ws2:=by unfold Yx;rw[e2]
   have z:eqD (Yx d kd hs rs k (vy (wR b) (Option.map vX (some tr))) ws2) (Yx d kd hs rs k (vy (wR b) (some tr)) ws2)=true:=by rw[key];exact QB Xs
   simp;refine⟨Xs,Xs (all:=vy (wR b) (some tr)),?_⟩
   split
   ·exact hF _
   ·rename_i h;exact absurd z h
 have runM:∀(F:EndsD) (d:Nat) (hs rs:List Thing) (o:Option Tr) (b:List WA) (kd:Option (List Int)) (k:Nat) (a5 a12 a13 a14:Option D),TurnOk d hs o b kd rs ->
   (∀c12 c13 c14:Option D,F.nx [some (wv ns),none,some .st,some (wz d hs),some (ZI o),a5,some (vG b),some (vm kd),some (xf (wR b)),some (.lst ((vy (wR b) o).map λy=>Yj (kT d kd hs y))),some (.lst (rs.map λt=>.int t.1)),some (.int k),c12,c13,c14] 3) ->
   MX F [some (wv ns),none,some .st,some (wz d hs),some (ZI o),a5,some (vG b),some (vm kd),some (xf (wR b)),some (.lst ((vy (wR b) o).map λy=>Yj (kT d kd hs y))),some (.lst (rs.map λt=>.int t.1)),some (.int k),a12,a13,a14] 3:=λF d hs rs o b kd k a5 a12 a13 a14 ht hF=>by
  subst hM;have nh:=vL d hs;have dl:=zS6 (d:=d) (kd:=kd) (hs:=hs) (rs:=rs) (k:=k) (all:=vy (wR b) o);have rE:=λa13 a14=>runE F d hs rs o b kd k a5 (some (xf (wR b))) (some (.lst ((vy (wR b) o).map λy=>Yj (kT d kd hs y)))) (some (.lst (rs.map λt=>.int t.1))) a13 a14 ht λc14=>hF _ _ _;clear runE;simp[nh]
  by_cases h1:rs.length<k
  ·rw [dl, if_pos h1] at rE
   rw[if_pos h1,if_pos w5,if_neg w5]
   exact rE _ _
  ·rw [if_neg h1] at dl ⊢
   by_cases h2:0<k
   ·rw [if_pos h2] at dl ⊢
    rw[if_pos w5]
    refine⟨_,(ht.last (n:=3) (R:=λ_ _=>True) h2 w5 True.intro).1,(ht.last h2 w5 ?_).2⟩
    have ol:(vy (wR b) o).length<=60:=by
     cases o with
     |none=>exact wa _
     |some tr=>
      have:=ju (wR b) tr;have:=(ht.h1 tr rfl).size;have:=ht.len;show(vq (wR b) tr).length<=60;lia
    refine XT (λy=>Yj (kT d kd hs y)) (λy=>!ltP (wW d kd [qI rs k]) (kT d kd hs y)) (λy=>Yj (kT d kd hs y)) (vy (wR b) o) (wX w5) (λy hy R S g1 g2=>?_) ?_
    ·simp;refine⟨kT d kd hs y,wW d kd [qI rs k],rfl,rfl,?_⟩;simp
     cases c:ltP (wW d kd [qI rs k]) (kT d kd hs y) with
     |true=>simpa using g2 (by rw[c];rfl)
     |false=>simpa using g1 (by rw[c];rfl)
    ·rw[List.filter_map,zg] at dl;rw[dl] at rE;simp;exact rE _ _
   ·rw[if_neg h2] at dl ⊢;rw[dl] at rE;exact rE _ _
 clear runE
 have runB:∀(F:EndsD) (d:Nat) (hs:List Thing) (o:Option Tr) (a5 b6 b7 b8 b9 b10 b11 b12 b13 b14:Option D),1<=d->d<=4->GoodT d hs 2000->hs.length<=30->(o=none->hs=[])->(∀tr,o=some tr->TreeOf d hs tr) ->
   (∀b6 b7 b8 b9 b10 b11 b12 b13 b14:Option D,F.nx [some (wv ns),none,some .st,some (wz d hs),some (ZI o),a5,b6,b7,b8,b9,b10,b11,b12,b13,b14] 3) ->
   BX F [some (wv ns),none,some .st,some (wz d hs),some (ZI o),a5,b6,b7,b8,b9,b10,b11,b12,b13,b14] 3:=λF d hs o a5 b6 b7 b8 b9 b10 b11 b12 b13 b14 hd1 hd4 hg hz ho1 ho2 hF=>by
  subst hB;have nh:=vL d hs;have no:=VI o;simp[nh];refine⟨d,hs,rfl,rfl,hd4,hg,hz,λb hb hn=>?_⟩;refine⟨d,hs,rfl,rfl,hd4,hg,hz,λkd hk=>?_⟩;have nb:xT (vG b)=true:=rfl;simp[nb]
  refine⟨b,rfl,w5,w5,?_⟩
  have np:xT (xf (wR b))=true:=rfl
  have hpl:(wR b).length=d:=by rw[ZU];exact hb
  simp[np,no]
  have dp:∀tr,o=some tr->ZE tr+1<=30/\qp tr<=1000:=λtr e=>by
   have:=(ho2 tr e).deep;have:=(ho2 tr e).size;lia
  refine Ji hd1 w5 hpl (Vz b) (λtr e=>⟨_,ho2 tr e⟩) dp ?_
  have ol:(vy (wR b) o).length<=60:=by
   cases o with
   |none=>exact wa _
   |some tr=>
    have:=ju (wR b) tr;have:=(ho2 tr rfl).size;show(vq (wR b) tr).length<=60;lia
  have hop:∀y∈vy (wR b) o,∃us,TreeOf d us y/\(∀t∈us,t∈hs)/\(us.map λt=>t.1).Nodup:=λy hy=>by
   cases o with
   |none=>exact absurd hy (by simp[vy])
   |some tr=>exact(ho2 tr rfl).opens (λt ht=>ht) hg.nodup y hy
  have hk2:∀p,kd=some p->p.length<=1000:=λp e=>by have:=(hk p e).1;lia
  refine⟨_,.inl rfl,yd vC (λy=>Yj (kT d kd hs y)) (vy (wR b) o) (wX w5) (λy hy R hR=>?_) ?_⟩
  ·obtain ⟨us, u1, u2, u3⟩ := hop y hy;have ny:=vt y;simp[ny,nh]
   refine⟨d,hs,us,y,kd,rfl,hg.nodup,w5,u1,u2,u3,hk2,?_⟩
   rw[<- u1.keyOf hg.nodup u2 u3];exact hR
  ·refine ⟨d, hs, wR b, kd, rfl, hd1, by lia, hpl, λt ht => (hg.each t ht).2.2.1, hg.nodup, by lia, hk2, λrs p1 p2 => ?_⟩
   have ht:TurnOk d hs o b kd rs:=⟨hd1,hd4,hg,hz,ho1,ho2,hb,hk,p1,p2⟩
   have hrl:rs.length<=30:=by
    have h1:(jz (wR b) hs).length<=hs.length:=yk ..;have:=p1.length_eq;lia
   simp
   refine⟨w5,w5,JMn [some (wv ns),none,some .st,some (wz d hs),some (ZI o),a5,some (vG b),some (vm kd),some (xf (wR b)),some (.lst ((vy (wR b) o).map λy=>Yj (kT d kd hs y))),some (.lst (rs.map λt=>.int t.1))],⟨rfl,_,_,_,_,rfl⟩,?_,?_⟩
   ·rintro k dd rho n' e4 ⟨rfl, c11, c12, c13, c14, rfl⟩
    have e5:dd=.int (k:Int):=by
     have hk:((rs.length:Int)+2).toNat=rs.length+2:=w5
     rw[hk] at e4;exact(Xc e4).2
    subst e5;simp;exact runM _ d hs rs o b kd k a5 c12 c13 c14 ht λc12 c13 c14=>⟨rfl,_,_,_,_,rfl⟩
   ·rintro rho n' ⟨rfl,c11,c12,c13,c14,rfl⟩;exact hF _ _ _ _ _ _ _ _ _
 clear runM
 have runX:∀F:EndsD,(∀rho:Rho,rho.length=15->rho[0]?=some (some (wv ns))->F.nx rho 3)->X F [some (wv ns),none,some .st,none,none,none,none,none,none,none,none,none,none,none,none] 3:=λF hF=>by
  subst hX;simp;refine⟨rfl,rfl,λd hs hd1 hd4 hg hz=>?_⟩;have nh:=vL d hs;simp[nh]
  have TT:∀R:D->Nat->Prop,(∀o:Option Tr,(o=none->hs=[])->(∀tr,o=some tr->TreeOf d hs tr)->R (ZI o) 3)->Ve [.st,wz d hs] 3 R:=λR hR=>⟨d,hs,rfl,rfl,hd1,hd4,hg.u,w5,λh=>hR none (λ_=>h) λtr e=>(by cases e),λh tr g=>hR (some tr) (λe=>by cases e) λtr' e=>by cases e;exact g⟩
  refine TT _ λo ho1 ho2=>?_;have no:=VI o;refine⟨JTn [some (wv ns),none,some .st,some (wz d hs),some (ZI o)],⟨rfl,_,_,_,_,_,_,_,_,_,_,rfl⟩,?_,?_⟩
  ·rintro i dd rho n' e4 ⟨rfl,b5,b6,b7,b8,b9,b10,b11,b12,b13,b14,rfl⟩;obtain⟨_,rfl⟩:=Xc e4;simp;exact runB _ d hs o _ b6 b7 b8 b9 b10 b11 b12 b13 b14 hd1 hd4 hg hz ho1 ho2 λb6 b7 b8 b9 b10 b11 b12 b13 b14=>⟨rfl,_,_,_,_,_,_,_,_,_,_,rfl⟩
  ·rintro rho n' ⟨rfl,b5,b6,b7,b8,b9,b10,b11,b12,b13,b14,rfl⟩;exact hF _ rfl rfl
 clear runB;simp[startD,nsc]
 refine⟨w5,w5,JLaw ns,⟨rfl,_,_,_,_,_,_,_,_,_,_,_,_,_,_,rfl⟩,?_,?_⟩
 ·rintro i d' rho m e ⟨rfl, a1, a2, a3, a4, a5, a6, a7, a8, a9, a10, a11, a12, a13, a14, rfl⟩;obtain⟨hi,rfl⟩:=Xc e;simp
  refine zm1 ns (by simp) w6 rfl (i:Int) (by simp[nsc]) (λP P' h=>by simp[nsc];exact h _ _) ?_
  refine⟨ns,_,rfl,hns,w5,w5,λx y hx hy hy2=>⟨[x,y,0],rfl,rfl,by simp[hx,hy],by simp[hy2],?_⟩⟩
  simp[WJ,vY]
  exact runX _ λrho h1 h2=>⟨rfl,h1,h2,rfl,by simp⟩
 ·rintro rho m ⟨rfl,a1,a2,a3,a4,a5,a6,a7,a8,a9,a10,a11,a12,a13,a14,rfl⟩;simp
end
end K44
set_option maxHeartbeats 1000000
namespace K44
def yS{α:Type}{us:List α}{c:Nat}(h:us.length=c+1):∃a r,us=a::r/\r.length=c:=by
 cases us with
 |nil=>cases h
 |cons a r=>exact⟨a,r,rfl,Nat.succ.inj h⟩
def zf4{fd:FuncData}{ps:List Str}{us:List Value}(h:us.length=1)(q:∀x0,bindArgs fd ⟨[x0],[]⟩=pure (ps.zip [x0])):bindArgs fd ⟨us,[]⟩=pure (ps.zip us):=by
 obtain⟨x0,u0,rfl,h0⟩:=yS h;obtain rfl:=zX.mp h0;exact q x0
def KM{fd:FuncData}{ps:List Str}{us:List Value}(h:us.length=2)(q:∀x0 x1,bindArgs fd ⟨[x0,x1],[]⟩=pure (ps.zip [x0,x1])):bindArgs fd ⟨us,[]⟩=pure (ps.zip us):=by
 obtain⟨x0,u0,rfl,h0⟩:=yS h;obtain⟨x1,u1,rfl,h1⟩:=yS h0;obtain rfl:=zX.mp h1;exact q x0 x1
def zU9{fd:FuncData}{ps:List Str}{us:List Value}(h:us.length=3)(q:∀x0 x1 x2,bindArgs fd ⟨[x0,x1,x2],[]⟩=pure (ps.zip [x0,x1,x2])):bindArgs fd ⟨us,[]⟩=pure (ps.zip us):=by
 obtain⟨x0,u0,rfl,h0⟩:=yS h;obtain⟨x1,u1,rfl,h1⟩:=yS h0;obtain⟨x2,u2,rfl,h2⟩:=yS h1;obtain rfl:=zX.mp h2;exact q x0 x1 x2
def xj2{fd:FuncData}{ps:List Str}{us:List Value}(h:us.length=4)(q:∀x0 x1 x2 x3,bindArgs fd ⟨[x0,x1,x2,x3],[]⟩=pure (ps.zip [x0,x1,x2,x3])):bindArgs fd ⟨us,[]⟩=pure (ps.zip us):=by
 obtain⟨x0,u0,rfl,h0⟩:=yS h;obtain⟨x1,u1,rfl,h1⟩:=yS h0;obtain⟨x2,u2,rfl,h2⟩:=yS h1;obtain⟨x3,u3,rfl,h3⟩:=yS h2;obtain rfl:=zX.mp h3;exact q x0 x1 x2 x3
def xJ4{fd:FuncData}{ps:List Str}{us:List Value}(h:us.length=5)(q:∀x0 x1 x2 x3 x4,bindArgs fd ⟨[x0,x1,x2,x3,x4],[]⟩=pure (ps.zip [x0,x1,x2,x3,x4])):bindArgs fd ⟨us,[]⟩=pure (ps.zip us):=by
 obtain⟨x0,u0,rfl,h0⟩:=yS h;obtain⟨x1,u1,rfl,h1⟩:=yS h0;obtain⟨x2,u2,rfl,h2⟩:=yS h1;obtain⟨x3,u3,rfl,h3⟩:=yS h2;obtain⟨x4,u4,rfl,h4⟩:=yS h3;obtain rfl:=zX.mp h4;exact q x0 x1 x2 x3 x4
def xJ3{fd:FuncData}{ps:List Str}{us:List Value}(h:us.length=6)(q:∀x0 x1 x2 x3 x4 x5,bindArgs fd ⟨[x0,x1,x2,x3,x4,x5],[]⟩=pure (ps.zip [x0,x1,x2,x3,x4,x5])):bindArgs fd ⟨us,[]⟩=pure (ps.zip us):=by
 obtain⟨x0,u0,rfl,h0⟩:=yS h;obtain⟨x1,u1,rfl,h1⟩:=yS h0;obtain⟨x2,u2,rfl,h2⟩:=yS h1;obtain⟨x3,u3,rfl,h3⟩:=yS h2;obtain⟨x4,u4,rfl,h4⟩:=yS h3;obtain⟨x5,u5,rfl,h5⟩:=yS h4;obtain rfl:=zX.mp h5;exact q x0 x1 x2 x3 x4 x5
structure Dn(K:W.Frag)(x:Str)(st:Stmt):Prop where
 ex:∃(f:Addr) (fd:FuncData),W.nsIn K mainGlobals x=some (some (.ref f))/\Fun K x x st f fd
def dn{K:W.Frag}{x:Str}{st:Stmt}{f:Addr}{oc:Value}{od an:Option Addr}{osl:Array (Option Value)}{kV doc pm cdv ct:Value}(a:W.nsIn K mainGlobals x=some (some (.ref f)))(l:K.lookup f=some ⟨oc,od,.func (W.fnOf x x (kU st) (vN st) (xg st) .none kV doc pm an cdv ct),osl⟩)(c:W.codeIn K cdv x=true)(k:W.keepIn K (.ref f)=true):Dn K x st:=⟨f,_,a,zp5 (st:=st) l c k⟩
def Dn.fn{P:Program}{w:World}{K:W.Frag}{mg:Str->Option Value}{base h:Heap}{x:Str}{st:Stmt}{kk k:Nat}{t:TF}{ps:List Str}(d:Dn K x st)(X:K.In h)(G:h.Ns mainGlobals mg)(b:∀(kV doc pm:Value) (an:Option Addr) (cdv ct:Value) (us:List Value),us.length=ps.length->bindArgs (W.fnOf x x (kU st) (vN st) (xg st) .none kV doc pm an cdv ct) ⟨us,[]⟩=pure (ps.zip us))(ok:∀(f:Addr) (fd:FuncData),Fun K x x st f fd->mg x=some (.ref f)->W.keepIn K (.ref f)=true->Binds K fd ps []->FnOk P w K mg base CX0 kk f fd ps (spD K k t)):Fn P w K mg base x kk k t:=by
 obtain⟨f,fd,a,F⟩:=d.ex;have m:=W.mg_of X G a;have B:=F.binds b;exact⟨f,fd,ps,ok f fd F m F.kp B,m,F.kp,B⟩
def Dn.fnT{P:Program}{w:World}{K:W.Frag}{mg:Str->Option Value}{base h:Heap}{x:Str}{st:Stmt}{kk k:Nat}{t:TFT}{ps:List Str}(d:Dn K x st)(X:K.In h)(G:h.Ns mainGlobals mg)(b:∀(kV doc pm:Value) (an:Option Addr) (cdv ct:Value) (us:List Value),us.length=ps.length->bindArgs (W.fnOf x x (kU st) (vN st) (xg st) .none kV doc pm an cdv ct) ⟨us,[]⟩=pure (ps.zip us))(ok:∀(f:Addr) (fd:FuncData),Fun K x x st f fd->FnOk P w K mg base CX0 kk f fd ps (spT K k t)):FnT P w K mg base x kk k t:=by
 obtain⟨f,fd,a,F⟩:=d.ex;exact⟨⟨f,fd,ps,ok f fd F,W.mg_of X G a,F.kp,F.binds b⟩⟩
def all_mk{l:W.OpenLaw}{w:World}{K:W.Frag}{h:Heap}{mg:Str->Option Value}{fa f24 f37:Addr}(X:K.In h)(G:h.Ns mainGlobals mg)(hfa:mg "law" = some (.ref fa))
  {od24 an24 od37 an37:Option Addr}{sl24 sl37:Array (Option Value)}{oc24 kV24 dc24 pm24 cd24 ct24 oc37 kV37 dc37 pm37 cd37 ct37:Value}
  (d0:Dn K "least_of" ZO)
  (d1:Dn K "greatest_of" qw)
  (d2:Dn K "pair_of" Xb)
  (d3:Dn K "is_crossed" qR)
  (d4:Dn K "settled" Xa)
  (d5:Dn K "plain_box" jN)
  (d6:Dn K "greater_of" qS)
  (d7:Dn K "lesser_of" jP)
  (d8:Dn K "common_pair" qx)
  (d9:Dn K "common" Vt)
  (d10:Dn K "lie_apart" jO)
  (d11:Dn K "things_by_name" ky)
  (d12:Dn K "steps_to" ZN)
  (d13:Dn K "key_by" Vs)
  (d14:Dn K "keyed" Jb)
  (d15:Dn K "drawn_past" qU)
  (d16:Dn K "drawn" Jc)
  (d17:Dn K "_law_left" jS)
  (d18:Dn K "_law_pick" jR)
  (d19:Dn K "_law_house" qX)
  (d20:Dn K "_law_number" qA)
  (d21:Dn K "_law_box" ZQ)
  (d22:Dn K "_law_kind" jT)
  (d23:Dn K "_law_bounds" qC)
  (a24:W.nsIn K mainGlobals "_law_grown" = some (some (.ref f24))) (l24:K.lookup f24=some ⟨oc24,od24,.func (W.fnOf "_law_grown" "_law_grown" (kU vT) (vN vT) (xg vT) .none kV24 dc24 pm24 an24 cd24 ct24),sl24⟩) (c24:W.codeIn K cd24 "_law_grown" = true) (k24:W.keepIn K (.ref f24)=true)
  (d25:Dn K "_law_tree" jQ)
  (d26:Dn K "_law_plain" qW)
  (d27:Dn K "_law_beyond" qD)
  (d28:Dn K "_law_apart" qY)
  (d29:Dn K "_law_inside" qB)
  (d30:Dn K "_law_fits" jU)
  (d31:Dn K "_law_steps" qV)
  (d32:Dn K "_law_key" ZP)
  (d33:Dn K "_law_ranked" qz)
  (d34:Dn K "_law_thing_key" kB)
  (d35:Dn K "_law_open_trees" km)
  (d36:Dn K "_law_turned" qy)
  (a37:W.nsIn K mainGlobals "law" = some (some (.ref f37))) (l37:K.lookup f37=some ⟨oc37,od37,.func (W.fnOf "law" "law" (kU Vr) (vN Vr) (xg Vr) .none kV37 dc37 pm37 an37 cd37 ct37),sl37⟩) (c37:W.codeIn K cd37 "law" = true) (k37:W.keepIn K (.ref f37)=true)
  {cc24 Pt24:Addr}{pc24:Value}{pd24:Option Addr}{pe24:Array (Option Value)}{vv24:Array Value} (le24:cd24=.ref cc24) (lk24:K.lookup cc24=some ⟨pc24,pd24,.fields vv24,pe24⟩) (lp24:vv24[11]?=some (.ref Pt24))
  {e0:Addr}{eo0:Option Addr}{en0:Nat}{et0 eu0:Tok}{es0:Array (Option Value)} (yy0:W.nsIn K mainGlobals "EMPTY_PAIR" = some (some (.ref e0))) (hh0:K.lookup e0=some ⟨.type "tuple",eo0,.seq #[.int 1 et0,.int 0 eu0] en0,es0⟩)
  (z0:W.nsIn K mainGlobals "len" = some none) (z1:W.nsIn K mainGlobals "abs" = some none) (z2:W.nsIn K mainGlobals "all" = some none) (z3:W.nsIn K mainGlobals "any" = some none) (z4:W.nsIn K mainGlobals "isinstance" = some none) (z5:W.nsIn K mainGlobals "int" = some none) (z6:W.nsIn K mainGlobals "bool" = some none) (z7:W.nsIn K mainGlobals "str" = some none) (z8:W.nsIn K mainGlobals "tuple" = some none) (z9:W.nsIn K mainGlobals "list" = some none) (z10:W.nsIn K mainGlobals "range" = some none) (z11:W.nsIn K mainGlobals "zip" = some none) (z12:W.nsIn K mainGlobals "enumerate" = some none) (z13:W.nsIn K mainGlobals "max" = some none) (z14:W.nsIn K mainGlobals "min" = some none) (z15:W.nsIn K mainGlobals "sorted" = some none) (z16:W.nsIn K mainGlobals "sum" = some none) :
  ∃fd:FuncData,(∀(s:Shared) (v:Value),BindsTo s fd ⟨[v],[]⟩ [("_law_script",v)])/\∀base:Heap,K.In base->base.Ns mainGlobals mg->base.NoDigits->KL K mg base->FnOk l.prog w K mg base CX0 36 fa fd ["_law_script"] (Ut K):=by
 have tb24:=zV5 a24 l24 le24 lk24 lp24;have e:=hfa.symm.trans (W.mg_of X G a37);cases e;have T:Blt mg:=⟨W.mg_none_of X G z0,W.mg_none_of X G z1,W.mg_none_of X G z2,W.mg_none_of X G z3,W.mg_none_of X G z4,W.mg_none_of X G z5,W.mg_none_of X G z6,W.mg_none_of X G z7,W.mg_none_of X G z8,W.mg_none_of X G z9,W.mg_none_of X G z10,W.mg_none_of X G z11,W.mg_none_of X G z12,W.mg_none_of X G z13,W.mg_none_of X G z14,W.mg_none_of X G z15⟩;have T2:Blt2 mg:=⟨W.mg_none_of X G z16⟩;have G_EMPTY_PAIR:xj1 K mg "EMPTY_PAIR" (.tup [.int 1,.int 0]):=zp4 (W.mg_of X G yy0) hh0;have U24:=zp5 (st:=vT) l24 c24 k24;have U37:=zp5 (st:=Vr) l37 c37 k37;refine⟨W.fnOf "law" "law" (kU Vr) (vN Vr) (xg Vr) .none kV37 dc37 pm37 an37 cd37 ct37,λs v=>.of_eq rfl,λbase _ _ ND LA=>?_⟩
 have LB24:=LA "_law_grown" (by simp[qi]) _ _ tb24
 have F_least_of:Fn l.prog w K mg base "least_of" 1 1 ZK:=d0.fn X G (ps:=["low"]) (λ_ _ _ _ _ _ _ h=>zf4 h λ_=>rfl) λ_ _ U M N B=>Jk U;have F_greatest_of:Fn l.prog w K mg base "greatest_of" 1 1 qt:=d1.fn X G (ps:=["high"]) (λ_ _ _ _ _ _ _ h=>zf4 h λ_=>rfl) λ_ _ U M N B=>Wi U;have F_pair_of:Fn l.prog w K mg base "pair_of" 2 1 YV:=d2.fn X G (ps:=["span"]) (λ_ _ _ _ _ _ _ h=>zf4 h λ_=>rfl) λ_ _ U M N B=>zb5 U F_least_of F_greatest_of;have F_is_crossed:Fn l.prog w K mg base "is_crossed" 1 1 qa:=d3.fn X G (ps:=["pair"]) (λ_ _ _ _ _ _ _ h=>zf4 h λ_=>rfl) λ_ _ U M N B=>VF U;have F_settled:Fn l.prog w K mg base "settled" 2 1 Zo:=d4.fn X G (ps:=["pairs"]) (λ_ _ _ _ _ _ _ h=>zf4 h λ_=>rfl) λ_ _ U M N B=>zb4 T G_EMPTY_PAIR U F_is_crossed;have F_plain_box:Fn l.prog w K mg base "plain_box" 3 1 jH:=d5.fn X G (ps:=["box"]) (λ_ _ _ _ _ _ _ h=>zf4 h λ_=>rfl) λ_ _ U M N B=>UI U F_pair_of F_settled;have F_greater_of:Fn l.prog w K mg base "greater_of" 1 2 qP:=d6.fn X G (ps:=q0) (λ_ _ _ _ _ _ _ h=>KM h λ_ _=>rfl) λ_ _ U M N B=>VG T U;have F_lesser_of:Fn l.prog w K mg base "lesser_of" 1 2 jJ:=d7.fn X G (ps:=q0) (λ_ _ _ _ _ _ _ h=>KM h λ_ _=>rfl) λ_ _ U M N B=>UK T U;have F_common_pair:Fn l.prog w K mg base "common_pair" 2 2 qu:=d8.fn X G (ps:=q0) (λ_ _ _ _ _ _ _ h=>KM h λ_ _=>rfl) λ_ _ U M N B=>Wj U F_greater_of F_lesser_of;have F_common:Fn l.prog w K mg base "common" 3 2 Vk:=d9.fn X G (ps:=q0) (λ_ _ _ _ _ _ _ h=>KM h λ_ _=>rfl) λ_ _ U M N B=>zl3 T U F_settled F_common_pair;have F_lie_apart:Fn l.prog w K mg base "lie_apart" 4 2 jI:=d10.fn X G (ps:=q0) (λ_ _ _ _ _ _ _ h=>KM h λ_ _=>rfl) λ_ _ U M N B=>UJ U F_is_crossed F_common;have F_things_by_name:Fn l.prog w K mg base "things_by_name" 1 1 zK2:=d11.fn X G (ps:=["house"]) (λ_ _ _ _ _ _ _ h=>zf4 h λ_=>rfl) λ_ _ U M N B=>xc9 T U;have F_steps_to:Fn l.prog w K mg base "steps_to" 1 2 ZJ:=d12.fn X G (ps:=["place","limits"]) (λ_ _ _ _ _ _ _ h=>KM h λ_ _=>rfl) λ_ _ U M N B=>Jj T T2 U;have F_key_by:Fn l.prog w K mg base "key_by" 2 3 Vi:=d13.fn X G (ps:=["by_name","tree","kind"]) (λ_ _ _ _ _ _ _ h=>zU9 h λ_ _ _=>rfl) λ_ _ U M N B=>zl2 T U F_steps_to;have F_keyed:FnT l.prog w K mg base "keyed" 6 4 Vh:=d14.fnT X G (ps:=q6) (λ_ _ _ _ _ _ _ h=>xj2 h λ_ _ _ _=>rfl) λ_ _ U=>zA2 T U F_lie_apart F_key_by;have F_drawn_past:Fn l.prog w K mg base "drawn_past" 7 6 KU:=d15.fn X G (ps:=q12) (λ_ _ _ _ _ _ _ h=>xJ3 h λ_ _ _ _ _ _=>rfl) λ_ _ U M N B=>zA6 T U F_things_by_name F_plain_box F_keyed;have F_drawn:Fn l.prog w K mg base "drawn" 8 5 Vj:=d16.fn X G (ps:=q7) (λ_ _ _ _ _ _ _ h=>xJ4 h λ_ _ _ _ _=>rfl) λ_ _ U M N B=>zA5 U F_drawn_past;have Y_left:Fn l.prog w K mg base "_law_left" 1 2 zf9:=d17.fn X G (ps:=["_law_script","_law_k"]) (λ_ _ _ _ _ _ _ h=>KM h λ_ _=>rfl) λ_ _ U M N B=>zP1 T U;have Y_pick:Fn l.prog w K mg base "_law_pick" 1 2 Yq:=d18.fn X G (ps:=["_law_left_here","_law_many"]) (λ_ _ _ _ _ _ _ h=>KM h λ_ _=>rfl) λ_ _ U M N B=>zO9 U;have Y_house:Fn l.prog w K mg base "_law_house" 2 1 KS:=d19.fn X G (ps:=["_law_left_here"]) (λ_ _ _ _ _ _ _ h=>zf4 h λ_=>rfl) λ_ _ U M N B=>zA3 T U Y_pick;have Y_number:Fn l.prog w K mg base "_law_number" 2 3 Zp:=d20.fn X G (ps:=q11) (λ_ _ _ _ _ _ _ h=>zU9 h λ_ _ _=>rfl) λ_ _ U M N B=>zk8 T U Y_pick;have Y_box:Fn l.prog w K mg base "_law_box" 3 2 zK4:=d21.fn X G (ps:=q1) (λ_ _ _ _ _ _ _ h=>KM h λ_ _=>rfl) λ_ _ U M N B=>xd2 T U Y_pick Y_number;have Y_kind:Fn l.prog w K mg base "_law_kind" 3 2 zg0:=d22.fn X G (ps:=q1) (λ_ _ _ _ _ _ _ h=>KM h λ_ _=>rfl) λ_ _ U M N B=>zP2 T U Y_pick Y_number;have Y_bounds:Fn l.prog w K mg base "_law_bounds" 1 1 zK3:=d23.fn X G (ps:=["_law_things"]) (λ_ _ _ _ _ _ _ h=>zf4 h λ_=>rfl) λ_ _ U M N B=>xd0 T U;have Y_grown:Fn l.prog w K mg base "_law_grown" 34 4 (YY 30):=⟨_,_,_,(zA4 T U24 a24 tb24 LB24 (W.mg_of X G a24) k24 (U24.binds (ps:=q3) λ_ _ _ _ _ _ _ h=>xj2 h λ_ _ _ _=>rfl) Y_pick Y_bounds 30),W.mg_of X G a24,k24,(U24.binds (ps:=q3) λ_ _ _ _ _ _ _ h=>xj2 h λ_ _ _ _=>rfl)⟩;have Y_tree:Fn l.prog w K mg base "_law_tree" 35 2 Ve:=d25.fn X G (ps:=q1) (λ_ _ _ _ _ _ _ h=>KM h λ_ _=>rfl) λ_ _ U M N B=>zA0 T U Y_grown;have Y_plain:Fn l.prog w K mg base "_law_plain" 1 1 Vf:=d26.fn X G (ps:=["_law_box_here"]) (λ_ _ _ _ _ _ _ h=>zf4 h λ_=>rfl) λ_ _ U M N B=>zl0 T U;have Y_beyond:Fn l.prog w K mg base "_law_beyond" 1 4 YK:=d27.fn X G (ps:=q13) (λ_ _ _ _ _ _ _ h=>xj2 h λ_ _ _ _=>rfl) λ_ _ U M N B=>zl4 U;have Y_apart:Fn l.prog w K mg base "_law_apart" 2 2 Vg:=d28.fn X G (ps:=q2) (λ_ _ _ _ _ _ _ h=>KM h λ_ _=>rfl) λ_ _ U M N B=>zl1 T U Y_beyond;have Y_inside:Fn l.prog w K mg base "_law_inside" 1 2 YX:=d29.fn X G (ps:=q2) (λ_ _ _ _ _ _ _ h=>KM h λ_ _=>rfl) λ_ _ U M N B=>zb6 T U;have Y_fits:Fn l.prog w K mg base "_law_fits" 2 2 KR:=d30.fn X G (ps:=q8) (λ_ _ _ _ _ _ _ h=>KM h λ_ _=>rfl) λ_ _ U M N B=>zA1 U Y_inside;have Y_steps:Fn l.prog w K mg base "_law_steps" 1 2 Zq:=d31.fn X G (ps:=q9) (λ_ _ _ _ _ _ _ h=>KM h λ_ _=>rfl) λ_ _ U M N B=>zk9 T T2 U;have Y_key:Fn l.prog w K mg base "_law_key" 2 3 zf8:=d32.fn X G (ps:=q10) (λ_ _ _ _ _ _ _ h=>zU9 h λ_ _ _=>rfl) λ_ _ U M N B=>zP0 T U Y_steps;have Y_ranked:Fn l.prog w K mg base "_law_ranked" 3 3 Vd:=d33.fn X G (ps:=q14) (λ_ _ _ _ _ _ _ h=>zU9 h λ_ _ _=>rfl) λ_ _ U M N B=>zk7 T U Y_fits Y_steps;have Y_thing_key:Fn l.prog w K mg base "_law_thing_key" 2 3 JT:=d34.fn X G (ps:=q15) (λ_ _ _ _ _ _ _ h=>zU9 h λ_ _ _=>rfl) λ_ _ U M N B=>zO8 T U Y_steps;have Y_open_trees:Fn l.prog w K mg base "_law_open_trees" 34 2 (YW 31):=d35.fn X G (ps:=q4) (λ_ _ _ _ _ _ _ h=>KM h λ_ _=>rfl) λ_ _ U M N B=>(zz9 U M N B Y_apart 31);have Y_turned:Fn l.prog w K mg base "_law_turned" 31 1 (YJ 30):=d36.fn X G (ps:=q5) (λ_ _ _ _ _ _ _ h=>zf4 h λ_=>rfl) λ_ _ U M N B=>(zk6 U M N B 30);exact xd1 T U37 Y_left Y_house Y_tree Y_box Y_kind Y_plain Y_open_trees Y_key Y_ranked Y_thing_key Y_turned F_drawn
def walk{l:W.OpenLaw}{q:Program}{loose:List Str}{XP:(Str->Option Value)->Heap->Prop}{YP:World->Heap->Prop}{d:DefRec}{K:Params->W.Frag}(hn:l.most=some 63)(hdf:d.params.defaults=[])
  (hY:∀(w:World) (h:Heap),YP w h->(K w.params).In h)
  (hrec:∀(w:World),∀y∈qi,∀c P,W.tabIn (K w.params) y=some (c,P)->∃d,(recsOf q).find? (λe=>e.name == y)=some d) (hnt:∀w:World,W.noTabs (K w.params)=true)
  (F : ∀ (w : World) (mg : Str -> Option Value) (fa : Addr) (h : Heap), (K w.params).In h -> h.Ns mainGlobals mg -> mg d.name = some (.ref fa) ->
   ∃fd:FuncData,(∀(s:Shared) (u:Value),BindsTo s fd ⟨[u],[]⟩ [("_law_script",u)])/\∀base:Heap,(K w.params).In base->base.Ns mainGlobals mg->base.NoDigits->KL (K w.params) mg base->FnOk l.prog w (K w.params) mg base CX0 36 fa fd ["_law_script"] (Ut (K w.params))) :
  W.WalkO q loose XP YP l.row.toRowW d [] (λf vs=>PySem.call f vs):=
 L2.zu9 (n:=63) (k:=36) (x := "_law_script") (CX:=λ_=>CX0) (sp:=λw=>Ut (K w.params)) hn w6 hdf ⟨rfl,w6,w6,rfl⟩ hY hrec (λw=>zK1 (K w.params)) hnt F (λ_ _ a ns hl hO hS hT=>⟨a,ns,rfl,hO,hS,hl,hT,λH h=>⟨rfl,h⟩⟩) λ_ _ _ _ _ z=>z
end K44
open PySem PySem.W PyProof.Rows
set_option maxRecDepth 100000 in
set_option maxHeartbeats 0 in
theorem PySem.Challenge.cw_boxlayers_k44_whole_looks_at_no_more_holds : PySem.Challenge.rw_boxlayers_k44_whole_looks_at_no_more.Holds := by
 w_on; o_law; refine holds_open (q:=K44H.view) (loose:=[]) (N:=10000) (XP:=XL K44H.view []) (Xt:=λs=>xlAt K44H.view [] s && recOk (RowW.records (OpenRow.toRowW (OpenLaw.row PySem.Challenge.rw_boxlayers_k44_whole_looks_at_no_more))) s) (Yf:=Hook.obs K44H.hook) (Ya:=Hook.val K44H.hook) (YP:=Hook.says K44H.hook) K44H.left (Hook.of K44H.hook) (Hook.keeps K44H.hook) (λs e=>xl_of s (Bool.and_eq_true_iff.mp e).1) XL.keeps rfl rfl rfl (λs e=>recFacts_of (Bool.and_eq_true_iff.mp e).2) rfl (by first | assumption | decide +kernel) x6 ⟨rfl,rfl,rfl,rfl,rfl,x6⟩ ?_ ?_
 ·w_witness2
 k_fill
 refine K44.walk (l:=PySem.Challenge.rw_boxlayers_k44_whole_looks_at_no_more) rfl rfl (λw h Y=>PySem.W.km_in_of Y) ?R ?N ?F
 case R =>
  intro w y hy c P e
  have z:y = "_law_grown" := by simpa [L2.qi] using hy
  subst z;exact⟨_,rfl⟩
 case N =>
  intro w
  kernel_rfl
 case F =>
  intro w mg fa h KX G hmg;refine' K44.all_mk KX G hmg ?d0 ?d1 ?d2 ?d3 ?d4 ?d5 ?d6 ?d7 ?d8 ?d9 ?d10 ?d11 ?d12 ?d13 ?d14 ?d15 ?d16 ?d17 ?d18 ?d19 ?d20 ?d21 ?d22 ?d23 ?a24 ?l24 ?c24 ?k24 ?d25 ?d26 ?d27 ?d28 ?d29 ?d30 ?d31 ?d32 ?d33 ?d34 ?d35 ?d36 ?a37 ?l37 ?c37 ?k37 ?le24 ?lk24 ?lp24 ?yy0 ?hh0 ?z0 ?z1 ?z2 ?z3 ?z4 ?z5 ?z6 ?z7 ?z8 ?z9 ?z10 ?z11 ?z12 ?z13 ?z14 ?z15 ?z16
  (case a24=>k_is)
  (case l24=>k_is)
  (case c24=>k_is)
  (case k24=>k_is)
  (case a37=>k_is)
  (case l37=>k_is)
  (case c37=>k_is)
  (case k37=>k_is)
  (case le24=>rfl)
  (case lk24=>k_is)
  (case lp24=>rfl)
  (case yy0=>k_is)
  (case hh0=>k_is)
  (case z0=>k_is)
  (case z1=>k_is)
  (case z2=>k_is)
  (case z3=>k_is)
  (case z4=>k_is)
  (case z5=>k_is)
  (case z6=>k_is)
  (case z7=>k_is)
  (case z8=>k_is)
  (case z9=>k_is)
  (case z10=>k_is)
  (case z11=>k_is)
  (case z12=>k_is)
  (case z13=>k_is)
  (case z14=>k_is)
  (case z15=>k_is)
  (case z16=>k_is)
  all_goals (apply K44.dn;k_is;k_is;k_is;k_is)
end
#print axioms PySem.Challenge.cw_boxlayers_k44_whole_looks_at_no_more_holds
