import PyProof.Rows.All
import Wide.All
import OpenK.AllK
import Wide.FinOn
import Lean
import PyProof.EqAt
import PyProof.EqKinds
import PyProof.TupleCall
import PyProof.CompFree
import PyProof.ZipIter
import PyProof.Cells
import PyProof.Rows.CellsFrame
import PyProof.EnumMake
import PyProof.TupleIter
import PyProof.IsiPairs
import PyProof.IsiSeqPairs
import PyProof.IsiNone
import PyProof.ConsumeWalk
import PyProof.DictCompW
import PyProof.NeKinds
import PyProof.MinMaxWalk
import PyProof.Rows.SortRev
import KE.KIsAll
import KE.KDictOf
import PyProof.AttrMissHeap
import PyProof.CallFns
import KE.KDictList
import PySem.Challenge.RW_boxlayers_k60_comings_alone
set_option Elab.async false
set_option linter.all false
namespace K60H
section
open PySem PySem.W PyProof.Rows
def top (i : Nat) : Stmt := PySem.Challenge.pw_boxlayers_k60_comings_alone.main.body.getD i (.Pass ⟨0, 0, 0, 0⟩)
noncomputable def view:Program:={ PySem.Challenge.pw_boxlayers_k60_comings_alone with main:={ PySem.Challenge.pw_boxlayers_k60_comings_alone.main with body:=[top 0,top 2,top 4,top 5,top 6,top 8,top 10,top 11,top 12,top 14,top 15,top 16,top 17,top 19,top 20,top 21,top 22,top 24,top 25,top 26,top 27,top 28,top 29,top 30,top 31,top 32] } }
local macro_rules | `(tactic| o_head (kHook $k $a $e)) => `(tactic| (assumption; exact ($a, [])))
set_option maxRecDepth 100000 in
set_option maxHeartbeats 0 in
noncomputable def hk : List Addr × List Addr := by
  refine (fun (_ : (OpenLaw.row PySem.Challenge.rw_boxlayers_k60_comings_alone).Holds → (OpenLaw.row PySem.Challenge.rw_boxlayers_k60_comings_alone).Holds) => ?a) (fun h => ?b)
  rotate_left
  k_head
noncomputable abbrev hook : Hook := kHook hk.heap_1 hk.1 (fun _ => by kernel_rfl)
theorem four {u v a1 a2 a3 a4 a5 : Type} {o : Option u} {g : u → Option v} {A : v → a1} {B1 : v → a2} {B2 : v → a3} {C : v → a4} {E : v → a5} {a : a1} {b1 : a2} {b2 : a3} {c : a4} {e : a5} (h1 : o.map (fun x => (g x).map A) = some (some a)) (h2 : o.map (fun x => (g x).map fun s => (B1 s, B2 s)) = some (some (b1, b2))) (h3 : o.map (fun x => (g x).map C) = some (some c)) (h4 : o.map (fun x => (g x).map E) = some (some e)) : o.map (fun x => (g x).map fun s => ((A s, B1 s, B2 s, C s), E s)) = some (some ((a, b1, b2, c), e)) := by
  cases o with
  | none => cases h1
  | some x =>
    have k1 : (g x).map A = some a := Option.some.inj h1
    have k2 : ((g x).map fun s => (B1 s, B2 s)) = some (b1, b2) := Option.some.inj h2
    have k3 : (g x).map C = some c := Option.some.inj h3
    have k4 : (g x).map E = some e := Option.some.inj h4
    show some ((g x).map _) = _
    cases hg : g x with
    | none => rw [hg] at k1; cases k1
    | some s =>
      rw [hg] at k1 k2 k3 k4
      have m1 : A s = a := Option.some.inj k1
      have m2 : (B1 s, B2 s) = (b1, b2) := Option.some.inj k2
      have m3 : C s = c := Option.some.inj k3
      have m4 : E s = e := Option.some.inj k4
      have m5 : B1 s = b1 := (Prod.mk.inj m2).1
      have m6 : B2 s = b2 := (Prod.mk.inj m2).2
      subst m1 m3 m4 m5 m6
      rfl
set_option maxRecDepth 100000 in
set_option maxHeartbeats 0 in
theorem headFa (w : World) : (fencedOpening treeTable (OpenLaw.row PySem.Challenge.rw_boxlayers_k60_comings_alone).prog w 10000).map (fun a => (topFrom treeTable (OpenLaw.row PySem.Challenge.rw_boxlayers_k60_comings_alone).prog (w.withFollow "special-get-raises" false) 10000 a).map (fun s => (openSeen view [] (importedModules (OpenLaw.row PySem.Challenge.rw_boxlayers_k60_comings_alone).prog.main.body) (fun s => xlAt view [] s && recOk (RowW.records (OpenRow.toRowW (OpenLaw.row PySem.Challenge.rw_boxlayers_k60_comings_alone))) s) true s).1)) = some (some ((openGood view []).1)) := by kernel_rfl
set_option maxRecDepth 100000 in
set_option maxHeartbeats 0 in
theorem headFb (w : World) : (fencedOpening treeTable (OpenLaw.row PySem.Challenge.rw_boxlayers_k60_comings_alone).prog w 10000).map (fun a => (topFrom treeTable (OpenLaw.row PySem.Challenge.rw_boxlayers_k60_comings_alone).prog (w.withFollow "special-get-raises" false) 10000 a).map (fun s => ((openSeen view [] (importedModules (OpenLaw.row PySem.Challenge.rw_boxlayers_k60_comings_alone).prog.main.body) (fun s => xlAt view [] s && recOk (RowW.records (OpenRow.toRowW (OpenLaw.row PySem.Challenge.rw_boxlayers_k60_comings_alone))) s) true s).2.1, (openSeen view [] (importedModules (OpenLaw.row PySem.Challenge.rw_boxlayers_k60_comings_alone).prog.main.body) (fun s => xlAt view [] s && recOk (RowW.records (OpenRow.toRowW (OpenLaw.row PySem.Challenge.rw_boxlayers_k60_comings_alone))) s) true s).2.2.1))) = some (some (((openGood view []).2.1, (openGood view []).2.2.1))) := by kernel_rfl
set_option maxRecDepth 100000 in
set_option maxHeartbeats 0 in
theorem headFc (w : World) : (fencedOpening treeTable (OpenLaw.row PySem.Challenge.rw_boxlayers_k60_comings_alone).prog w 10000).map (fun a => (topFrom treeTable (OpenLaw.row PySem.Challenge.rw_boxlayers_k60_comings_alone).prog (w.withFollow "special-get-raises" false) 10000 a).map (fun s => (openSeen view [] (importedModules (OpenLaw.row PySem.Challenge.rw_boxlayers_k60_comings_alone).prog.main.body) (fun s => xlAt view [] s && recOk (RowW.records (OpenRow.toRowW (OpenLaw.row PySem.Challenge.rw_boxlayers_k60_comings_alone))) s) true s).2.2.2)) = some (some ((openGood view []).2.2.2)) := by kernel_rfl
set_option maxRecDepth 100000 in
set_option maxHeartbeats 0 in
theorem headFd (w : World) : (fencedOpening treeTable (OpenLaw.row PySem.Challenge.rw_boxlayers_k60_comings_alone).prog w 10000).map (fun a => (topFrom treeTable (OpenLaw.row PySem.Challenge.rw_boxlayers_k60_comings_alone).prog (w.withFollow "special-get-raises" false) 10000 a).map (fun s => Hook.obs hook s)) = some (some (Hook.val hook (w.withFollow "special-get-raises" false))) := by kernel_rfl
theorem headF (w : World) : (fencedOpening treeTable (OpenLaw.row PySem.Challenge.rw_boxlayers_k60_comings_alone).prog w 10000).map (fun a => (topFrom treeTable (OpenLaw.row PySem.Challenge.rw_boxlayers_k60_comings_alone).prog (w.withFollow "special-get-raises" false) 10000 a).map (fun s => ((openSeen view [] (importedModules (OpenLaw.row PySem.Challenge.rw_boxlayers_k60_comings_alone).prog.main.body) (fun s => xlAt view [] s && recOk (RowW.records (OpenRow.toRowW (OpenLaw.row PySem.Challenge.rw_boxlayers_k60_comings_alone))) s) true s), Hook.obs hook s))) = some (some ((openGood view []), Hook.val hook (w.withFollow "special-get-raises" false))) := four (headFa w) (headFb w) (headFc w) (headFd w)
set_option maxRecDepth 100000 in
set_option maxHeartbeats 0 in
theorem headTa (w : World) : (fencedOpening treeTable (OpenLaw.row PySem.Challenge.rw_boxlayers_k60_comings_alone).prog w 10000).map (fun a => (topFrom treeTable (OpenLaw.row PySem.Challenge.rw_boxlayers_k60_comings_alone).prog (w.withFollow "special-get-raises" true) 10000 a).map (fun s => (openSeen view [] (importedModules (OpenLaw.row PySem.Challenge.rw_boxlayers_k60_comings_alone).prog.main.body) (fun s => xlAt view [] s && recOk (RowW.records (OpenRow.toRowW (OpenLaw.row PySem.Challenge.rw_boxlayers_k60_comings_alone))) s) true s).1)) = some (some ((openGood view []).1)) := by kernel_rfl
set_option maxRecDepth 100000 in
set_option maxHeartbeats 0 in
theorem headTb (w : World) : (fencedOpening treeTable (OpenLaw.row PySem.Challenge.rw_boxlayers_k60_comings_alone).prog w 10000).map (fun a => (topFrom treeTable (OpenLaw.row PySem.Challenge.rw_boxlayers_k60_comings_alone).prog (w.withFollow "special-get-raises" true) 10000 a).map (fun s => ((openSeen view [] (importedModules (OpenLaw.row PySem.Challenge.rw_boxlayers_k60_comings_alone).prog.main.body) (fun s => xlAt view [] s && recOk (RowW.records (OpenRow.toRowW (OpenLaw.row PySem.Challenge.rw_boxlayers_k60_comings_alone))) s) true s).2.1, (openSeen view [] (importedModules (OpenLaw.row PySem.Challenge.rw_boxlayers_k60_comings_alone).prog.main.body) (fun s => xlAt view [] s && recOk (RowW.records (OpenRow.toRowW (OpenLaw.row PySem.Challenge.rw_boxlayers_k60_comings_alone))) s) true s).2.2.1))) = some (some (((openGood view []).2.1, (openGood view []).2.2.1))) := by kernel_rfl
set_option maxRecDepth 100000 in
set_option maxHeartbeats 0 in
theorem headTc (w : World) : (fencedOpening treeTable (OpenLaw.row PySem.Challenge.rw_boxlayers_k60_comings_alone).prog w 10000).map (fun a => (topFrom treeTable (OpenLaw.row PySem.Challenge.rw_boxlayers_k60_comings_alone).prog (w.withFollow "special-get-raises" true) 10000 a).map (fun s => (openSeen view [] (importedModules (OpenLaw.row PySem.Challenge.rw_boxlayers_k60_comings_alone).prog.main.body) (fun s => xlAt view [] s && recOk (RowW.records (OpenRow.toRowW (OpenLaw.row PySem.Challenge.rw_boxlayers_k60_comings_alone))) s) true s).2.2.2)) = some (some ((openGood view []).2.2.2)) := by kernel_rfl
set_option maxRecDepth 100000 in
set_option maxHeartbeats 0 in
theorem headTd (w : World) : (fencedOpening treeTable (OpenLaw.row PySem.Challenge.rw_boxlayers_k60_comings_alone).prog w 10000).map (fun a => (topFrom treeTable (OpenLaw.row PySem.Challenge.rw_boxlayers_k60_comings_alone).prog (w.withFollow "special-get-raises" true) 10000 a).map (fun s => Hook.obs hook s)) = some (some (Hook.val hook (w.withFollow "special-get-raises" true))) := by kernel_rfl
theorem headT (w : World) : (fencedOpening treeTable (OpenLaw.row PySem.Challenge.rw_boxlayers_k60_comings_alone).prog w 10000).map (fun a => (topFrom treeTable (OpenLaw.row PySem.Challenge.rw_boxlayers_k60_comings_alone).prog (w.withFollow "special-get-raises" true) 10000 a).map (fun s => ((openSeen view [] (importedModules (OpenLaw.row PySem.Challenge.rw_boxlayers_k60_comings_alone).prog.main.body) (fun s => xlAt view [] s && recOk (RowW.records (OpenRow.toRowW (OpenLaw.row PySem.Challenge.rw_boxlayers_k60_comings_alone))) s) true s), Hook.obs hook s))) = some (some ((openGood view []), Hook.val hook (w.withFollow "special-get-raises" true))) := four (headTa w) (headTb w) (headTc w) (headTd w)
theorem two_map {u v : Type} {o : Option u} {A B : u → v} {a b : v} (h1 : o.map A = some a) (h2 : o.map B = some b) : o.map (fun s => (A s, B s)) = some (a, b) := by
  cases o with
  | none => cases h1
  | some s => exact congrArg some (congr (congrArg Prod.mk (Option.some.inj h1)) (Option.some.inj h2))
theorem left : LeftO (OpenLaw.row PySem.Challenge.rw_boxlayers_k60_comings_alone).prog view [] (fun s => xlAt view [] s && recOk (RowW.records (OpenRow.toRowW (OpenLaw.row PySem.Challenge.rw_boxlayers_k60_comings_alone))) s) (Hook.obs hook) (Hook.val hook) 10000 := LeftO.of_split "special-get-raises" fun w => @two_map _ _ _ _ _ _ _ (headF w) (headT w)
end
end K60H
open PySem PySem.Spec PyProof.Rows
open List (of_mem_zip replicate take_sublist filterMap_map length_set reverse_cons foldl_cons forIn_nil all_eq_true any_cons filter_cons take_left' getElem_mem drop_drop reverse_reverse zipIdx_cons map_drop map_congr_left flatMap_cons)
noncomputable section
set_option Elab.async false
set_option linter.all false
set_option maxRecDepth 100000
section
def wL:=@Array.getD_eq_getD_getElem?
def wz:=@Array.getElem?_eq_getElem
def wO:=@Array.getElem?_eq_none
def zG:=@Array.getElem?_toList
def zg:=@Array.length_toList
def xO:=@Array.map_append
def xu:=@Array.map_extract
def xN:=@Array.perm_iff_toList_perm
def wE:=@Array.size_extract
def zI:=@Array.size_map
def wU:=@Array.size_range
def zR:=@Array.toList_append
def xY:=@Array.toList_extract
def yE:=@Array.toList_push
def yv:=@Array.toList_range
def xB:=@Bool.and_eq_true
def xR:=@Bool.false_eq_true
def zQ:=@Bool.false_ne_true
def ze:=@Heap.get?_push_of_some
def zD:=@Heap.get?_push_size
def zA:=@Heap.lt_size
def wl:=@Heap.size_push
def yz:=@Int.emod_nonneg
def wI:=@Int.eq_ofNat_of_zero_le
def wj:=@List.append_assoc
def xX:=@List.append_nil
def wY:=@List.drop_eq_getElem_cons
def yg:=@List.drop_left'
def wX:=@List.drop_zero
def wB:=@List.eq_nil_of_length_eq_zero
def xG:=@List.extract_eq_take_drop
def wN:=@List.filterMap_cons
def wH:=@List.filter_cons_of_neg
def yk:=@List.filter_cons_of_pos
def we:=@List.filter_sublist
def yx:=@List.find?_cons
def yi:=@List.flatten_cons
def xb:=@List.getD_eq_getElem?_getD
def xg:=@List.getElem?_append_left
def zT:=@List.getElem?_append_right
def xQ:=@List.getElem?_drop
def zj:=@List.getElem?_eq_getElem
def zP:=@List.getElem?_eq_some_iff
def zB:=@List.getElem?_map
def xE:=@List.getElem?_replicate
def xz:=@List.getElem?_set_ne
def xi:=@List.getElem?_set_self
def yu:=@List.getElem?_take
def zm:=@List.length_append
def zu:=@List.length_cons
def wq:=@List.length_drop
def wn:=@List.length_eq_zero_iff
def zn:=@List.length_map
def wK:=@List.length_nil
def yD:=@List.length_range
def xv:=@List.length_replicate
def xm:=@List.length_take
def xU:=@List.lookup_cons
def al_List_lookup_cons_self:=@List.lookup_cons_self
def xS:=@List.map_append
def zy:=@List.map_cons
def xh:=@List.map_map
def xT:=@List.map_nil
def yj:=@List.map_take
def zN:=@List.mem_append
def xf:=@List.mem_append_left
def zr:=@List.mem_append_right
def zh:=@List.mem_cons
def zk:=@List.mem_cons_of_mem
def zo:=@List.mem_cons_self
def zL:=@List.mem_filter
def wT:=@List.mem_flatMap
def zK:=@List.mem_map
def zO:=@List.mem_map_of_mem
def wo:=@List.mem_of_getElem?
def yn:=@List.mem_range
def wc:=@List.mem_reverse
def zW:=@List.mem_singleton
def xt:=@List.nil_append
def xI:=@List.nodup_append
def xn:=@List.nodup_cons
def wb:=@List.not_mem_nil
def xW:=@List.pairwise_cons
def xF:=@List.pairwise_iff_getElem
def xV:=@List.pairwise_map
def wW:=@List.pairwise_reverse
def wd:=@List.replicate_succ
def wM:=@List.reverse_append
def yh:=@List.reverse_perm
def zt:=@List.size_toArray
def xq:=@List.take_add_one
def wA:=@List.take_append_drop
def wD:=@List.take_length
def wa:=@List.take_of_length_le
def yt:=@List.zip_cons_cons
def xJ:=@Nat.dvd_of_mod_eq_zero
def yr:=@Nat.le_of_eq
def xM:=@Nat.le_of_lt
def wS:=@Nat.le_of_not_lt
def zd:=@Nat.le_refl
def xl:=@Nat.le_succ
def zw:=@Nat.le_trans
def xD:=@Nat.lt_irrefl
def yq:=@Nat.lt_of_le_of_lt
def wm:=@Nat.lt_of_le_of_ne
def zS:=@Nat.lt_of_lt_of_le
def yC:=@Nat.lt_of_succ_lt
def wg:=@Nat.lt_succ_of_lt
def ym:=@Nat.lt_succ_self
def wR:=@Nat.mul_assoc
def xa:=@Nat.ne_of_lt
def xy:=@Nat.pow_succ
def wZ:=@Nat.zero_le
def wv:=@Option.map_eq_some_iff
def zF:=@Option.some.inj
def zU:=@decide_eq_false
def xC:=@decide_eq_true
def wJ:=@decide_eq_true_eq
def yp:=@wpAny_Call_Name_kw
def zb:=@wpAny_bind
def yf:=@wpAny_comprehension_free
def wF:=@wpAny_holding
def ye:=@wpAny_mono
def wf:=@wpAny_newObj_type
def yd:=@wpAny_passesOwn
def zf:=@wpAny_pure
def yc:=@wpAny_rule
def wk:=@wpAny_standAt
def zl:=@wpS_bind
def wu:=@wpS_forRange
def yo:=@wpS_modify
def yA:=@wpS_mono
def zJ:=@wpS_pure
end
def w5 {p:Prop}(h:p:=by lia):p:=h
def w6 {p:Prop}(h:p:=by decide):p:=h
def x4 {p:Prop}(h:p:=by decide +kernel):p:=h
local macro_rules|`(tactic|exists $t)=>`(tactic|with_unfolding_all exact $t)
namespace L2
abbrev Key:=Sum Int Str
def JC:Key->Value->Bool
 |.inl k,v=>Value.isInt k v
 |.inr x,v=>Value.isStrOf x v
def xB7(w:World):Key->Int
 |.inl k=>hashInt k
 |.inr x=>hashStr w x
theorem yO:∀{k:Key}{v:Value},JC k v=true->(∃i t,k=Sum.inl i/\v=Value.int i t)\/(∃x t,k=Sum.inr x/\v=Value.str x t)
 |.inl i,v,h=>by
  obtain⟨t,e⟩:=Value.isInt_shape (k:=i) (v:=v) h;exact .inl ⟨i,t,rfl,e⟩
 |.inr x,v,h=>by
  obtain⟨t,e⟩:=Value.isStrOf_shape (x:=x) (v:=v) h;exact .inr ⟨x,t,rfl,e⟩
def zd2(i:Int)(t:Tok):JC (.inl i) (.int i t)=true:=by simp[JC,Value.isInt]
def zd1(x:Str)(t:Tok):JC (.inr x) (.str x t)=true:=by simp[JC,Value.isStrOf]
def zR1(a b:Int):decide ((Sum.inl a:Key)=Sum.inl b)=(a == b):=by
 by_cases e:a=b
 ·subst e;simp
 ·have h:¬ (Sum.inl a:Key)=Sum.inl b:=λq=>e (Sum.inl.inj q);rw[zU h];exact(beq_eq_false_iff_ne.mpr e).symm
def zQ8(a b:Str):decide ((Sum.inr a:Key)=Sum.inr b)=decide (a=b):=by
 by_cases e:a=b
 ·subst e;simp
 ·have h:¬ (Sum.inr a:Key)=Sum.inr b:=λq=>e (Sum.inr.inj q);rw[zU h,zU e]
def zR0(a:Int)(b:Str):decide ((Sum.inl a:Key)=Sum.inr b)=false:=zU (λq=>nomatch q)
def zQ9(a:Str)(b:Int):decide ((Sum.inr a:Key)=Sum.inl b)=false:=zU (λq=>nomatch q)
def yY(prog:Program)(w:World):PySem.KeyKind prog w Key where
 is:=JC
 hash:=xB7 w
 inj:=λv a b ha hb=>by
  rcases yO ha with ⟨i,t,rfl,rfl⟩ |⟨x,t,rfl,rfl⟩
  ·rcases yO hb with ⟨j, u, rfl, e⟩ | ⟨y, u, rfl, e⟩
   ·injection e with e1 _;rw[e1]
   ·exact nomatch e
  ·rcases yO hb with ⟨j, u, rfl, e⟩ | ⟨y, u, rfl, e⟩
   ·exact nomatch e
   ·injection e with e1 _;rw[e1]
 byValue:=λk v h=>by
  rcases yO h with ⟨i,t,rfl,rfl⟩ |⟨x,t,rfl,rfl⟩<;>rfl
 pyHash:=λhv h=>by
  rcases yO hv with ⟨i,t,rfl,rfl⟩ |⟨x,t,rfl,rfl⟩
  ·exact wpAny_pyHash_int h
  ·exact wpAny_pyHash_str h
 eqBool:=λhu hv h=>by
  rcases yO hu with ⟨i,t,rfl,rfl⟩ |⟨x,t,rfl,rfl⟩
  ·rcases yO hv with ⟨j, u, rfl, rfl⟩ | ⟨y, u, rfl, rfl⟩
   ·rw[zR1] at h;exact wpAny_eqBool_int h
   ·rw[zR0] at h;exact SeqAt.EqAt.int_str i t y u _ _ _ _ h
  ·rcases yO hv with ⟨j, u, rfl, rfl⟩ | ⟨y, u, rfl, rfl⟩
   ·rw[zQ9] at h;exact SeqAt.EqAt.str_int x t j u _ _ _ _ h
   ·rw[zQ8] at h;exact wpAny_eqBool_str h
 «strs»:=λk x t v h=>by
  rcases yO h with ⟨i,u,rfl,e⟩ |⟨y,u,rfl,e⟩
  ·exact nomatch e
  ·injection e with e1 _;subst e1
   cases v<;>rfl
def Ug(prog:Program)(w:World)(i:Int)(t:Tok):(yY prog w).is (.inl i) (.int i t)=true:=zd2 i t
def Uf(prog:Program)(w:World)(x:Str)(t:Tok):(yY prog w).is (.inr x) (.str x t)=true:=zd1 x t
inductive V where
 |non |bl (b:Bool) |int (i:Int) |str (x:Str) |byt (b:Array UInt8) |flt (b:UInt64) |ref (a:Addr) |ty (n:String)
 deriving DecidableEq
def RelV:V->Value->Prop
 |.non,u=>u=Value.none
 |.bl b,u=>u=Value.bool b
 |.int i,u=>∃t,u=Value.int i t
 |.str x,u=>∃t,u=Value.str x t
 |.byt b,u=>∃t,u=Value.bytes b t
 |.flt b,u=>∃t,u=Value.float b t
 |.ref a,u=>u=Value.ref a
 |.ty n,u=>u=Value.type n
abbrev Vals:List V->List Value->Prop:=Paired RelV
def Vals.length{xs:List V}{us:List Value}(r:Vals xs us):xs.length=us.length:=Paired.length r
theorem Vals.get:∀{xs:List V}{us:List Value}{i:Nat}{x:V},Vals xs us->xs[i]?=some x->∃u,us[i]?=some u/\RelV x u
 |_,_,_,_,.nil,e=>by simp at e
 |_,_,0,_,.cons r _,e=>by simp at e;subst e;exact⟨_,rfl,r⟩
 |_,_,i+1,x,.cons _ t,e=>by
  obtain⟨u,h1,h2⟩:=Vals.get (i:=i) (x:=x) t (by simpa using e)
  exact⟨u,by simpa using h1,h2⟩
theorem Vals.set{x:V}{u:Value}(r:RelV x u):∀{xs:List V}{us:List Value} (i:Nat),Vals xs us->Vals (xs.set i x) (us.set i u)
 |_,_,_,.nil=>.nil
 |_,_,0,.cons _ t=>.cons r t
 |_,_,i+1,.cons q t=>.cons q (Vals.set r i t)
theorem Vals.append:∀{xs ys:List V}{us ws:List Value},Vals xs us->Vals ys ws->Vals (xs++ys) (us++ws)
 |_,_,_,_,.nil,s=>s
 |_,_,_,_,.cons r t,s=>.cons r (Vals.append t s)
theorem Vals.take:∀{xs:List V}{us:List Value} (n:Nat),Vals xs us->Vals (xs.take n) (us.take n)
 |_,_,0,_=>.nil
 |_,_,_+1,.nil=>.nil
 |_,_,n+1,.cons r t=>.cons r (Vals.take n t)
theorem Vals.drop:∀{xs:List V}{us:List Value} (n:Nat),Vals xs us->Vals (xs.drop n) (us.drop n)
 |_,_,0,r=>r
 |_,_,_+1,.nil=>.nil
 |_,_,n+1,.cons _ t=>Vals.drop n t
def RelO:Option V->Option Value->Prop
 |some v,some u=>RelV v u
 |none,none=>True
 |_,_=>False
def KV{κ:Type}:List (κ × V)->List (κ × Value)->Prop:=Paired fun(p:κ × V) (q:κ × Value)=>p.1=q.1/\RelV p.2 q.2
def kV:Key->V
 |.inl i=>.int i
 |.inr x=>.str x
inductive HO where
 /-- a list -/
 |lst (xs:List V)
 /-- a tuple (never changes) -/
 |tup (xs:List V)
 /-- a dict whose keys are ints and texts; one whose keys are tuples of ints and texts (the empty one is both) -/
 |dK (kvs:List (Key × V)) |dT (kvs:List (List Key × V))
 /-- a set of ints: its members, its size -/
 |set (S:Int->Bool) (n:Nat)
 /-- an instance of the class at C, its dict at dx, its attributes -/
 |ins (C dx:Addr) (fs:List (Str × V))
 /-- the dict of the instance at x -/
 |own (x:Addr)
 /-- the dict of an exception -/
 |xd (fs:List (Str × V))
 /-- a bound method, f of x -/
 |met (f x:Addr)
 /-- a range object lo, lo + 1, .. below hi -/
 |rng (lo hi:Int)
 /-- a thing that is known to the object (the script; a dict while a loop walks it): read, never written while it is so -/
 |frz (o:Obj) (u:HO)
 /-- a code object's table -/
 |tbl (ps:Array Value)
 /-- any other thing, by what is true of its one object (a def of one's own: SetO a S n := HO.ext λh => ..) -/
 |ext (φ:Heap->Prop)
abbrev Hp:=Addr->Option HO
def upd(H:Hp)(a:Addr)(o:HO):Hp:=λb=>if b=a then some o else H b
def yH{H:Hp}{a:Addr}{o:HO}:upd H a o a=some o:=by unfold upd;rw[if_pos rfl]
def wr{H:Hp}{a b:Addr}{o:HO}(h:b≠a):upd H a o b=H b:=by unfold upd;rw[if_neg h]
def xm6{H:Hp}{a b:Addr}{o u:HO}(h:H a=some o)(h':H b=some u)(d:o≠u):a≠b:=by
 intro e;subst e;rw[h] at h';exact d (zF h')
def yV{H:Hp}{a b:Addr}{o:HO}(h:H a=some o)(h':H b=none):a≠b:=by
 intro e;subst e;rw[h] at h';cases h'
section
variable (P:Program) (w:World)
def ObjOk(H:Hp)(h:Heap)(a:Addr):HO->Prop
 |.lst xs=>xs.length<=sizeLine/\∃(its:List Value) (n:Nat),Vals xs its/\h.get? a=some { cls:=.type "list",data:=.seq its.toArray n }
 |.tup xs=>xs.length<=sizeLine/\∃its:List Value,Vals xs its/\IsTup h a its.toArray
 |.dK kvs=>kvs.length<=sizeLine/\(a == sysModules)=false/\∃vs,KV kvs vs/\h.DictOf (yY P w) a vs
 | .dT kvs => kvs.length <= sizeLine /\ (a == sysModules) = false /\ ∃ xs : List (List Key × Addr × Value),
   Paired (fun(p:List Key × V) (q:List Key × Addr × Value)=>p.1=q.1/\H q.2.1=some (.tup (p.1.map kV))/\RelV p.2 q.2.2) kvs xs /\
   ∃o es ep,h.get? a=some o/\o.ExactDict/\o.data=.dict es ep/\es.toList=xs.map (entryOfKey (tupleKind (yY P w)))/\(xs.map (·.1)).Nodup
 |.set S n=>h.SetOf (intKind P w) a S n
 | .ins C dx fs => H dx = some (.own a) /\ fs.length <= 1000 /\ dx ≠ a /\ h.get? a = some (W.instObj C dx) /\
   ∃mA,h.Ns1 dx mA/\(∀f,RelO (fs.lookup f) (mA f))/\PySem.Within mA (fs.map (·.1))
 |.own _=>∃o,h.get? a=some o
 |.xd fs=>∃mA,h.Ns1 a mA/\∀f,RelO (fs.lookup f) (mA f)
 |.rng lo hi=>∃t u v,h.get? a=some { cls:=.type "range",data:=.fields #[.int lo t,.int hi u,.int 1 v] }
 |.frz o u=>h.get? a=some o/\ObjOk H h a u
 |.tbl ps=>h.get? a=some { cls:=.none,data:=.fields ps }
 |.met f x=>h.get? a=some (W.methodObj (.ref f) (.ref x))
 |.ext φ=>φ h/\(∃o,h.get? a=some o)/\∀h1 h2:Heap,φ h1->(∀o,h1.get? a=some o->h2.get? a=some o)->φ h2
def HOk(H:Hp)(h:Heap):Prop:=∀a o,H a=some o->ObjOk P w H h a o
end
section
variable {P:Program}{w:World}{H H':Hp}{h h':Heap}{a:Addr}{o:HO}
def ObjOk.lt(x:ObjOk P w H h a o):a<h.objs.size:=by
 cases o with
 |lst xs=>obtain⟨_,_,_,_,e⟩:=x;exact zA e
 |tup xs=>obtain⟨_,_,_,p⟩:=x;exact p.lt
 |dK kvs=>obtain⟨_,_,_,_,o,_,_,e,_⟩:=x;exact zA e
 |dT kvs=>obtain⟨_,_,_,_,o,_,_,e,_⟩:=x;exact zA e
 |set S n=>obtain⟨o,_,_,_,e,_⟩:=x;exact zA e
 |ins C dx fs=>obtain⟨_,_,_,e,_⟩:=x;exact zA e
 |own y=>obtain⟨_,e⟩:=x;exact zA e
 |xd fs=>obtain⟨_,⟨_,_,_,e,_⟩,_⟩:=x;exact zA e
 |rng lo hi=>obtain⟨_,_,_,e⟩:=x;exact zA e
 |frz ob u=>obtain⟨e,_⟩:=x;exact zA e
 |tbl ps=>exact zA (show h.get? a=some _ from x)
 |met f y=>exact zA (show h.get? a=some _ from x)
 |ext φ=>obtain⟨_,⟨_,e⟩,_⟩:=x;exact zA e
theorem Paired.mapP{α β:Type}{F G:α->β->Prop}:∀{l₁:List α}{l₂:List β},Paired F l₁ l₂->(∀a b,F a b->G a b)->Paired G l₁ l₂
 |_,_,.nil,_=>.nil
 |_,_,.cons r t,f=>.cons (f _ _ r) (Paired.mapP t f)
def ObjOk.stay(x:ObjOk P w H h a o)(k:∀b u,(b=a\/H b=some (.own a))->h.get? b=some u->h'.get? b=some u)
  (ho:∀b,H b=some (.own a)->H' b=some (.own a)) (ht:∀b xs,H b=some (.tup xs)->H' b=some (.tup xs)):ObjOk P w H' h' a o:=by
 induction o with
 |lst xs=>obtain⟨z,its,n,r,e⟩:=x;exact⟨z,its,n,r,k _ _ (.inl rfl) e⟩
 |tup xs=>obtain⟨z,its,r,ob,e,c⟩:=x;exact⟨z,its,r,ob,k _ _ (.inl rfl) e,c⟩
 |dK kvs=>obtain⟨z,y,vs,r,ob,es,ep,e,c⟩:=x;exact⟨z,y,vs,r,ob,es,ep,k _ _ (.inl rfl) e,c⟩
 |dT kvs=>
  obtain⟨z,y,xs,r,ob,es,ep,e,c⟩:=x;exact⟨z,y,xs,Paired.mapP r λp q z=>⟨z.1,ht _ _ z.2.1,z.2.2⟩,ob,es,ep,k _ _ (.inl rfl) e,c⟩
 |set S n=>obtain⟨ob,es,ep,t,e,c⟩:=x;exact⟨ob,es,ep,t,k _ _ (.inl rfl) e,c⟩
 |ins C dx fs=>
  obtain⟨d,z,ne,e,mA,⟨od,es,ep,e2,c⟩,r⟩:=x;exact⟨ho _ d,z,ne,k _ _ (.inl rfl) e,mA,⟨od,es,ep,k _ _ (.inr d) e2,c⟩,r⟩
 |own y=>obtain⟨ob,e⟩:=x;exact⟨ob,k _ _ (.inl rfl) e⟩
 |xd fs=>obtain⟨mA,⟨od,es,ep,e,c⟩,r⟩:=x;exact⟨mA,⟨od,es,ep,k _ _ (.inl rfl) e,c⟩,r⟩
 |rng lo hi=>obtain⟨t,u,v,e⟩:=x;exact⟨t,u,v,k _ _ (.inl rfl) e⟩
 |frz ob u ih=>obtain⟨e,q⟩:=x;exact⟨k _ _ (.inl rfl) e,ih q⟩
 |tbl ps=>
  have e:h.get? a=some { cls:=.none,data:=.fields ps }:=x;show h'.get? a=some { cls:=.none,data:=.fields ps };exact k a _ (.inl rfl) e
 |met f y=>
  have e:h.get? a=some (W.methodObj (.ref f) (.ref y)):=x;show h'.get? a=some (W.methodObj (.ref f) (.ref y));exact k a _ (.inl rfl) e
 |ext φ=>obtain⟨p,⟨o,e⟩,st⟩:=x;exact⟨st _ _ p λo q=>k _ _ (.inl rfl) q,⟨o,k _ _ (.inl rfl) e⟩,st⟩
def HOk.lt(x:HOk P w H h)(e:H a=some o):a<h.objs.size:=(x a o e).lt
def HOk.fresh(x:HOk P w H h)(e:h.objs.size<=a):H a=none:=by
 cases q:H a with
 |none=>rfl
 |some u=>exact absurd (zS (x.lt q) e) (xD _)
def HOk.kept(x:HOk P w H h)(k:∀b u,h.get? b=some u->h'.get? b=some u):HOk P w H h':=λa o e=>
 (x a o e).stay (λb u _ q=>k b u q) (λ_ q=>q) λ_ _ q=>q
def HOk.laid(x:HOk P w H h)(k:∀b u,h.get? b=some u->h'.get? b=some u)(hp:h.objs.size<=a)(new:ObjOk P w (upd H a o) h' a o):HOk P w (upd H a o) h':=λb u e=>by
 have hn:=x.fresh hp
 by_cases hb:b=a
 ·subst hb;rw[yH] at e;cases e;exact new
 ·rw [wr hb] at e
  exact(x b u e).stay (λc v _ q=>k c v q) (λc q=>by rw[wr (yV q hn)];exact q) λc xs q=>by rw[wr (yV q hn)];exact q
end
def Rd(H:Hp)(a:Addr)(u:HO):Prop:=H a=some u\/∃o,H a=some (.frz o u)
def Rd.ok{P:Program}{w:World}{H:Hp}{h:Heap}{a:Addr}{u:HO}(r:Rd H a u)(x:HOk P w H h):ObjOk P w H h a u:=by
 rcases r with r |⟨o,r⟩
 ·exact x a u r
 ·obtain⟨_,q⟩:=x a _ r;exact q
def Mut:Option HO->Prop
 |some (.lst _)=>True
 |some (.dK _)=>True
 |some (.dT _)=>True
 |some (.set _ _)=>True
 |some (.ins _ _ _)=>True
 |some (.ext _)=>True
 |_=>False
section
variable {P:Program}{w:World}{H:Hp}{h h':Heap}{x e:Addr}{o':HO}
def HOk.write(ok:HOk P w H h)(mu:Mut (H x))(he:e=x\/H e=some (.own x))(k:∀b u,b≠e->h.get? b=some u->h'.get? b=some u)(heo:∃u,h'.get? e=some u)
  (new:ObjOk P w (upd H x o') h' x o'):HOk P w (upd H x o') h':=λb u q=>by
 have nown:∀c y,H c=some (.own y)->c≠x:=λc y r z=>by subst z;rw[r] at mu;exact mu
 have ntup:∀c xs,H c=some (.tup xs)->c≠x:=λc xs r z=>by subst z;rw[r] at mu;exact mu
 by_cases hb:b=x
 ·subst hb;rw[yH] at q;cases q;exact new
 ·rw [wr hb] at q
  by_cases hbe:b=e
  ·have q' : H b = some (.own x) := by
    rcases he with z |z
    ·exact absurd (hbe.trans z) hb
    ·rw[hbe];exact z
   rw[q] at q';cases q';obtain⟨v,hv⟩:=heo
   exact⟨v,by rw[hbe];exact hv⟩
  ·refine (ok b u q).stay (λc v hc r => k c v ?_ r) (λc r => by rw [wr (nown c b r)]; exact r) λc xs r => by rw [wr (ntup c xs r)]; exact r
   rcases hc with rfl |hc
   ·exact hbe
   ·rintro rfl
    rcases he with z |z
    ·exact nown c b hc z
    ·rw[hc] at z;cases z;exact hb rfl
end
structure Un(fs ex:List Addr)(H H':Hp)(h h':Heap):Prop where
 keep:∀b o,h.get? b=some o->H b=none->b ∉ fs->b ∉ ex->h'.get? b=some o
 slot:∀b o,h.get? b=some o->H b=none->b∈fs->b ∉ ex->∃sl,h'.get? b=some { o with slots:=sl }
 free:∀b o,h.get? b=some o->H b=none->b ∉ ex->H' b=none
 there:∀b o,h.get? b=some o->b ∉ ex->∃o',h'.get? b=some o'
 tups:∀b xs,H b=some (.tup xs)->H' b=some (.tup xs)
 frzs:∀b o u,H b=some (.frz o u)->H' b=some (.frz o u)
 tbls:∀b ps,H b=some (.tbl ps)->∃more,H' b=some (.tbl (ps++more))
section
variable {fs fs' ex ex':List Addr}{H H1 H2:Hp}{h h1 h2 h':Heap}{a x e:Addr}{o:HO}
def Un.any(u:Un fs ex H H1 h h1){b:Addr}{ob:Obj}(q:h.get? b=some ob)(n:H b=none)(hx:b ∉ ex):∃sl,h1.get? b=some { ob with slots:=sl }:=by
 by_cases hb:b∈fs
 ·exact u.slot b ob q n hb hx
 ·exact⟨ob.slots,u.keep b ob q n hb hx⟩
def Un.kept(k:∀b u,h.get? b=some u->h'.get? b=some u):Un fs ex H H h h':=
 ⟨λb ob q _ _ _=>k b ob q,λb ob q _ _ _=>⟨ob.slots,k b ob q⟩,λ_ _ _ n _=>n,λb ob q _=>⟨ob,k b ob q⟩,λ_ _ q=>q,λ_ _ _ q=>q,λ_ ps q=>⟨#[],by rw[q];simp⟩⟩
def Un.refl:Un fs ex H H h h:=Un.kept λ_ _ q=>q
def Un.laid(k:∀b u,h.get? b=some u->h'.get? b=some u)(hp:h.objs.size<=a)(hn:H a=none):Un fs ex H (upd H a o) h h' where
 keep:=λb u q _ _ _=>k b u q
 slot:=λb u q _ _ _=>⟨u.slots,k b u q⟩
 free:=λb u q n _=>by rw[wr (xa (zS (zA q) hp))];exact n
 there:=λb u q _=>⟨u,k b u q⟩
 tups:=λb xs q=>by rw[wr (yV q hn)];exact q
 frzs:=λb u xs q=>by rw[wr (yV q hn)];exact q
 tbls:=λb ps q=>⟨#[],by rw[wr (yV q hn),q];simp⟩
def Un.write(mu:Mut (H x))(he:e=x\/H e=some (.own x))(k:∀b u,b≠e->h.get? b=some u->h'.get? b=some u)(heo:∃u,h'.get? e=some u):Un fs ex H (upd H x o) h h':=by
 have hx:∀b,H b=none->b≠x:=λb n z=>by subst z;rw[n] at mu;exact mu
 have hb:∀b,H b=none->b≠e:=λb n z=>by
  subst z
  rcases he with r |r
  ·exact hx b n r
  ·rw[n] at r;cases r
 have hm:∀b u,H b=some u->¬ Mut (some u)->b≠x:=λb u q nm z=>by subst z;rw[q] at mu;exact nm mu
 refine⟨λb u q n _ _=>k b u (hb b n) q,λb u q n _ _=>⟨u.slots,k b u (hb b n) q⟩,λb u q n _=>by rw[wr (hx b n)];exact n,λb u q _=>?_,
  λb xs q=>by rw[wr (hm b _ q λz=>z)];exact q,λb u xs q=>by rw[wr (hm b _ q λz=>z)];exact q,λb ps q=>⟨#[],by rw[wr (hm b _ q λz=>z),q];simp⟩⟩
 by_cases hbe:b=e
 ·subst hbe;exact heo
 ·exact⟨u,k b u hbe q⟩
end
def trk(h:Heap)(H:Hp):List Addr:=(List.range h.objs.size).filter λa=>(H a).isSome
def zp8(h:Heap)(H:Hp):Heap:=W.hideAll h (trk h H)
def ze4(h:Heap)(H:Hp):(zp8 h H).objs.size=h.objs.size:=W.hideAll_size _ _
def zp7{h:Heap}{H:Hp}{b:Addr}{o:Obj}(e:h.get? b=some o)(n:H b=none):(zp8 h H).get? b=some o:=
 PySem.W.hideAll_get _ e λhm=>by
  have q:(H b).isSome=true:=(zL.mp hm).2;rw[n] at q;simp at q
def zE0{h:Heap}{H:Hp}{b:Addr}{o:Obj}(e:(zp8 h H).get? b=some o):h.get? b=some o/\H b=none:=by
 have e':h.get? b=some o:=W.of_hideAll (trk h H) e;refine⟨e',?_⟩
 cases q:H b with
 |none=>rfl
 |some x=>
  have hm:b∈trk h H:=zL.mpr ⟨yn.mpr (zA e'),by simp[q]⟩
  have z:(zp8 h H).get? b=none:=W.hideAll_none (trk h H) hm;rw[z] at e;cases e
def zH9(g h:Heap)(L:Addr):List (Addr × Obj):=(List.range h.objs.size).filterMap λa=>if a=L\/(g.get? a).isSome=true then none else(h.get? a).map λo=>(a,o)
def rest(g h:Heap)(L d:Addr):List (Addr × Obj):=(zH9 g h L).filter λp=>decide (p.1≠d)
structure Mod(K:W.Frag)(mg:Str->Option Value)(base:Heap):Prop where
 kin:K.In base
 glob:base.Ns mainGlobals mg
 blt:∃mb,base.Ns builtinsNs mb/\∀x:Str,x ≠ "__name__" -> mb x=bootBuiltins x
 nolimit:base.NoLimit
structure Cx where
 prog:Program
 w:World
 K:W.Frag
 mg:Str->Option Value
 base:Heap
 A:Around
 N:List Str
 s₀:Shared
 H₀:Hp
 env:Env
 outer:List Env
 stack:List Env
 ex:List Addr
 fn:Str->Bool
 calm:Bool
 pn:List (Addr × Obj)
 xe:Value->Shared->Prop
def frs(l:List Env):List Addr:=l.filterMap (·.frame)
abbrev Cx.fs(X:Cx):List Addr:=frs X.outer
def Vis(sc:Scope)(x:Str):Prop:=sc.names.lookup x=some .local\/sc.names.lookup x=some .cell\/sc.names.lookup x=some .free
def Loc(sc:Scope)(x:Str):Prop:=sc.names.lookup x=some .local\/sc.names.lookup x=some .cell
def xD8(env:Env)(h:Heap)(m:Str->Option Value)(x:Str)(u:Value):Prop:=
 (env.kindOf x=some .local/\m x=some u)\/((env.kindOf x=some .cell\/env.kindOf x=some .free)/\∃c,env.cells.lookup x=some c/\h.IsCell c (some u))
structure Cx.Ok(X:Cx):Prop where
 mod:Mod X.K X.mg X.base
 kind:X.env.scope.kind=.function
 glob:X.env.globals=mainGlobals
 blt:X.env.builtins=builtinsNs
 above:X.s₀.heap.objs.size<=X.env.locals
 inj:∀x y c,X.env.cells.lookup x=some c->X.env.cells.lookup y=some c->x=y
 has:∀x,(X.env.kindOf x=some .cell\/X.env.kindOf x=some .free)->∃c,X.env.cells.lookup x=some c
 cab:∀x c,X.fn x=true->X.env.cells.lookup x=some c->X.s₀.heap.objs.size<=c
 hd:X.calm=true->X.A.handled=none
 frames:X.A.frames=some X.stack
 stk:X.stack=X.outer\/(X.stack=X.env::X.outer/\X.env.frame=some X.env.locals)
 exf:∀b∈X.ex,b≠X.env.locals/\∀x c,X.env.cells.lookup x=some c->c≠b
 bs:∀b o,X.base.get? b=some o->X.s₀.heap.get? b=some o/\X.H₀ b=none
 bsz:X.base.objs.size<=X.s₀.heap.objs.size
 noex:∀b o,X.base.get? b=some o->b ∉ X.ex
 exfs:∀b∈X.ex,b ∉ X.fs
 funs:X.s₀.heap.FunFrames X.base X.outer
 frf:∀b∈X.fs,X.H₀ b=none
structure Inv(X:Cx)(pins:List (Addr × Obj))(σ:List (Option V))(H:Hp)(s:Shared):Prop where
 ok:X.Ok
 os:s.os=X.s₀.os
 bare:AllBare s.gens
 base:Un X.fs X.ex X.H₀ H X.s₀.heap s.heap
 loc:∃m,s.heap.Ns X.env.locals m/\∀(i:Nat) (x:Str) (v:V),X.N[i]?=some x->σ[i]?=some (some v)->Vis X.env.scope x->∃u,RelV v u/\xD8 X.env s.heap m x u
 cell:∀x c,X.env.cells.lookup x=some c->∃v,s.heap.IsCell c v
 free:H X.env.locals=none
 freeC:∀x c,X.env.cells.lookup x=some c->H c=none
 pin:∀p∈X.pn++pins,s.heap.get? p.1=some p.2/\H p.1=none/\p.1≠X.env.locals/\p.1 ∉ X.fs/\∀v,p.2.data≠.cell v
 hok:HOk X.prog X.w H s.heap
 len:σ.length=X.N.length
section
variable {X:Cx}{pins:List (Addr × Obj)}{σ:List (Option V)}{H H':Hp}{s:Shared}{h':Heap}
def Cx.Ok.nofr(ok:X.Ok){b:Addr}{o:Obj}(e:X.base.get? b=some o):b ∉ X.fs:=λhb=>by
 have:=(ok.funs.mem hb).1;rw[e] at this;cases this
def Inv.bs(I:Inv X pins σ H s):∀b o,X.base.get? b=some o->s.heap.get? b=some o/\H b=none:=λb o e=>
 ⟨I.base.keep b o (I.ok.bs b o e).1 (I.ok.bs b o e).2 (I.ok.nofr e) (I.ok.noex b o e),I.base.free b o (I.ok.bs b o e).1 (I.ok.bs b o e).2 (I.ok.noex b o e)⟩
def Inv.bk(I:Inv X pins σ H s):∀b o,X.base.get? b=some o->s.heap.get? b=some o:=λb o e=>(I.bs b o e).1
def Inv.mod(I:Inv X pins σ H s):Mod X.K X.mg X.base:=I.ok.mod
def Inv.kIn(I:Inv X pins σ H s):X.K.In s.heap:=I.ok.mod.kin.keeps I.bk
def Inv.lt(I:Inv X pins σ H s):X.env.locals<s.heap.objs.size:=let ⟨_,hn,_⟩:=I.loc;hn.lt
def Inv.sz(I:Inv X pins σ H s):X.s₀.heap.objs.size<=s.heap.objs.size:=zw I.ok.above (xM I.lt)
def Inv.nofs(I:Inv X pins σ H s){a:Addr}(h:s.heap.objs.size<=a):a ∉ X.fs:=λhb=>by
 obtain⟨_,o,ho,_⟩:=I.ok.funs.mem hb;exact absurd (zS (zA ho) (zw I.sz h)) (xD _)
def Inv.cne(I:Inv X pins σ H s):∀x c,X.env.cells.lookup x=some c->c≠X.env.locals:=λx c e z=>by
 obtain⟨v,o,ho,hd⟩:=I.cell x c e;obtain⟨m,⟨o',es,ep,ho',hd',_⟩,_⟩:=I.loc;rw[z,ho'] at ho;cases ho;rw[hd'] at hd;cases hd
def Inv.funs(I:Inv X pins σ H s):s.heap.FunFrames X.base X.outer:=by
 have all:∀(l:List Env),(∀b∈frs l,b∈X.fs)->X.s₀.heap.FunFrames X.base l->s.heap.FunFrames X.base l:=by
  intro l
  induction l with
  |nil=>intro _ _;trivial
  |cons env r ih=>
   intro hs hl;obtain⟨hk,⟨L,o,hf,hn,ho,hd⟩,hr⟩:=hl
   have hL:L∈X.fs:=hs L (by unfold frs;rw[wN,hf];exact zo)
   obtain⟨sl,e⟩:=I.base.slot L o ho (I.ok.frf L hL) hL λz=>I.ok.exfs L z hL
   exact⟨hk,⟨L,_,hf,hn,e,hd⟩,ih (λb hb=>hs b (by unfold frs;rw[wN,hf];exact zk _ hb)) hr⟩
 exact all X.outer (λ_ hb=>hb) I.ok.funs
def Inv.stack(I:Inv X pins σ H s):s.heap.FunFrames X.base X.stack:=by
 rcases I.ok.stk with e |⟨e,hf⟩
 ·rw[e];exact I.funs
 ·rw [e];obtain⟨m,hn,_⟩:=I.loc
  refine .cons (by rw[I.ok.kind];decide) hf hn ?_ I.funs
  exact Heap.get?_none_of_le (zw I.ok.bsz I.ok.above)
def Inv.stkSub(I:Inv X pins σ H s):∀b∈frs X.stack,b∈X.env.locals::X.fs:=λb hb=>by
 rcases I.ok.stk with e |⟨e,hf⟩
 ·rw[e] at hb;exact zk _ hb
 ·rw[e] at hb;unfold frs at hb;rw[wN,hf] at hb;exact hb
def Inv.stkFree(I:Inv X pins σ H s):∀b∈frs X.stack,H b=none:=λb hb=>by
 rcases zh.mp (I.stkSub b hb) with e |hb
 ·rw[e];exact I.free
 ·obtain⟨_,o,ho,_⟩:=I.ok.funs.mem hb;exact I.base.free b o ho (I.ok.frf b hb) λz=>I.ok.exfs b z hb
def Inv.step{g':Array GenState}{t':Nat}{d':Drawn}{ch:List Addr}(I:Inv X pins σ H s)
  (hch:∀b∈ch,(b∈X.ex\/X.s₀.heap.objs.size<=b)/\b≠X.env.locals/\(∀x c,X.env.cells.lookup x=some c->c≠b)/\∀p∈X.pn++pins,p.1≠b)
  (keep:∀b o,b≠X.env.locals->b ∉ X.fs->b ∉ ch->s.heap.get? b=some o->H b=none->h'.get? b=some o)
  (slot:∀b o,b≠X.env.locals->b∈X.fs->b ∉ ch->s.heap.get? b=some o->H b=none->∃sl,h'.get? b=some { o with slots:=sl }) (free:∀b o,b ∉ ch->s.heap.get? b=some o->H b=none->H' b=none)
  (there:∀b o,b ∉ ch->s.heap.get? b=some o->∃o',h'.get? b=some o')
  (tups:∀b xs,H b=some (.tup xs)->H' b=some (.tup xs)) (frzs:∀b o u,H b=some (.frz o u)->H' b=some (.frz o u)) (tbls:∀b ps,H b=some (.tbl ps)->∃more,H' b=some (.tbl (ps++more)))
  (ns:∀m,s.heap.Ns X.env.locals m->h'.Ns X.env.locals m) (hok:HOk X.prog X.w H' h') (hg:AllBare g') :
  Inv X pins σ H' { s with heap:=h',gens:=g',drawn:=d',toks:=t' }:=by
 have neL:∀b o,X.s₀.heap.get? b=some o->b≠X.env.locals:=λb o e=>xa (zS (zA e) I.ok.above)
 have neC:∀b o,X.s₀.heap.get? b=some o->b ∉ X.ex->b ∉ ch:=λb o e hx hb=>by
  rcases(hch b hb).1 with z |z
  ·exact hx z
  ·exact absurd (zS (zA e) z) (xD _)
 have cellK:∀x c,X.env.cells.lookup x=some c->∀v,s.heap.IsCell c v->h'.IsCell c v:=λx c e v ⟨o,ho,hd⟩=>by
  have nch:c ∉ ch:=λz=>(hch c z).2.2.1 x c e rfl
  by_cases hc:c∈X.fs
  ·obtain⟨sl,q⟩:=slot c o (I.cne x c e) hc nch ho (I.freeC x c e);exact⟨_,q,hd⟩
  ·exact⟨o,keep c o (I.cne x c e) hc nch ho (I.freeC x c e),hd⟩
 refine⟨I.ok,I.os,hg,⟨λb o e n hb hx=>?_,λb o e n hb hx=>?_,λb o e n hx=>?_,λb o e hx=>?_,λb xs e=>tups b xs (I.base.tups b xs e),λb o xs e=>frzs b o xs (I.base.frzs b o xs e),λb ps e=>?_⟩,?_,λx c e=>?_,?_,λx c e=>?_,λp hp=>?_,hok,I.len⟩
 ·exact keep b o (neL b o e) hb (neC b o e hx) (I.base.keep b o e n hb hx) (I.base.free b o e n hx)
 ·obtain⟨sl,e1⟩:=I.base.slot b o e n hb hx;obtain⟨sl',e2⟩:=slot b _ (neL b o e) hb (neC b o e hx) e1 (I.base.free b o e n hx);exact⟨sl',e2⟩
 ·obtain⟨o',e1⟩:=I.base.there b o e hx;exact free b o' (neC b o e hx) e1 (I.base.free b o e n hx)
 ·obtain⟨o',e1⟩:=I.base.there b o e hx;exact there b o' (neC b o e hx) e1
 ·obtain ⟨m1, e1⟩ := I.base.tbls b ps e;obtain⟨m2,e2⟩:=tbls b _ e1
  exact⟨m1++m2,by rw[e2,Array.append_assoc]⟩
 ·obtain ⟨m, hn, hl⟩ := I.loc;refine⟨m,ns m hn,λi x v e1 e2 e3=>?_⟩;obtain⟨u,r,l⟩:=hl i x v e1 e2 e3;refine⟨u,r,?_⟩
  rcases l with l |⟨k,c,e,z⟩
  ·exact .inl l
  ·exact .inr ⟨k,c,e,cellK x c e _ z⟩
 ·obtain⟨v,z⟩:=I.cell x c e;exact⟨v,cellK x c e v z⟩
 ·obtain⟨m,⟨o,_,_,ho,_⟩,_⟩:=I.loc;exact free _ o (λz=>(hch _ z).2.1 rfl) ho I.free
 ·obtain⟨v,o,ho,hd⟩:=I.cell x c e;exact free c o (λz=>(hch c z).2.2.1 x c e rfl) ho (I.freeC x c e)
 ·obtain⟨e,n,ne,nf,d⟩:=I.pin p hp;have nch:p.1 ∉ ch:=λz=>(hch p.1 z).2.2.2 p hp rfl;exact⟨keep p.1 p.2 ne nf nch e n,free p.1 p.2 nch e n,ne,nf,d⟩
def Inv.un{t':Nat}(I:Inv X pins σ H s)(u:Un X.fs [] H H' s.heap h')(hok:HOk X.prog X.w H' h'):Inv X pins σ H' { s with heap:=h',toks:=t' }:=by
 obtain⟨m,⟨o,es,ep,ho,r⟩,_⟩:=id I.loc
 obtain⟨sl,hL⟩:=u.any ho I.free (by simp)
 exact I.step (g':=s.gens) (d':=s.drawn) (ch:=[]) (λ_ z=>nomatch z) (λb o _ hb _ e n=>u.keep b o e n hb (by simp)) (λb o _ hb _ e n=>u.slot b o e n hb (by simp)) (λb o _ e n=>u.free b o e n (by simp)) (λb o _ e=>u.there b o e (by simp)) u.tups u.frzs u.tbls (λm' hm=>by
  obtain⟨o',es',ep',ho',r'⟩:=hm;rw[ho] at ho';cases ho'
  exact⟨_,es',ep',hL,r'⟩) hok I.bare
def Inv.call{g':Array GenState}{t':Nat}{d':Drawn}{ch:List Addr}(I:Inv X pins σ H s)(u:Un (frs X.stack) ch H H' s.heap h')(hok:HOk X.prog X.w H' h')(hg:AllBare g')
  (hch:∀b∈ch,(b∈X.ex\/X.s₀.heap.objs.size<=b)/\b≠X.env.locals/\(∀x c,X.env.cells.lookup x=some c->c≠b)/\∀p∈X.pn++pins,p.1≠b) :
  Inv X pins σ H' { s with heap:=h',gens:=g',drawn:=d',toks:=t' }:=by
 obtain⟨m,⟨o,es,ep,ho,r⟩,_⟩:=id I.loc;obtain⟨sl,hL⟩:=u.any ho I.free λz=>(hch _ z).2.1 rfl
 exact I.step (ch:=ch) hch (λb o hL hb hc e n=>u.keep b o e n (λz=>(zh.mp (I.stkSub b z)).elim hL hb) hc) (λb o _ _ hc e n=>u.any e n hc) (λb o hc e n=>u.free b o e n hc) (λb o hc e=>u.there b o e hc) u.tups u.frzs u.tbls (λm' hm=>by
  obtain⟨o',es',ep',ho',r'⟩:=hm;rw[ho] at ho';cases ho'
  exact⟨_,es',ep',hL,r'⟩) hok hg
def Inv.turned{t':Nat}{it:Addr}(I:Inv X pins σ H s)(k:∀b o,b≠it->s.heap.get? b=some o->h'.get? b=some o)(hn:H it=none)(hL:it≠X.env.locals)
  (h1:it∈X.ex\/X.s₀.heap.objs.size<=it) (h2:∀x c,X.env.cells.lookup x=some c->c≠it) (h3:∀p∈X.pn++pins,p.1≠it):Inv X pins σ H { s with heap:=h',toks:=t' }:=by
 have nit:∀b u,H b=some u->b≠it:=λb u e z=>by rw[z,hn] at e;cases e
 refine I.step (g':=s.gens) (d':=s.drawn) (ch:=[it]) (λb hb=>?_) (λb o _ _ hc e _=>k b o (λz=>hc (by simp[z])) e) (λb o _ _ hc e _=>⟨o.slots,k b o (λz=>hc (by simp[z])) e⟩) (λ_ _ _ _ n=>n)
  (λb o hc e=>⟨o,k b o (λz=>hc (by simp[z])) e⟩) (λ_ _ e=>e) (λ_ _ _ e=>e) (λb ps e=>⟨#[],by rw[e];simp⟩) (λm hm=>?_) (λb u e=>?_) I.bare
 ·have e : b = it := by simpa using hb
  subst e;exact⟨h1,hL,h2,h3⟩
 ·obtain⟨o,es,ep,ho,r⟩:=hm;exact⟨o,es,ep,k _ o (Ne.symm hL) ho,r⟩
 ·refine (I.hok b u e).stay (λc v hc q => k c v ?_ q) (λ_ q => q) λ_ _ q => q
  rcases hc with z |z
  ·rw[z];exact nit b u e
  ·exact nit c _ z
def Inv.tok(I:Inv X pins σ H s)(t:Nat):Inv X pins σ H { s with toks:=t }:=I.un (h':=s.heap) (t':=t) Un.refl I.hok
def Inv.kept{t':Nat}(I:Inv X pins σ H s)(k:∀b u,s.heap.get? b=some u->h'.get? b=some u):Inv X pins σ H { s with heap:=h',toks:=t' }:=I.un (Un.kept k) (I.hok.kept k)
def Inv.laid{a:Addr}{o:HO}{t':Nat}(I:Inv X pins σ H s)(k:∀b u,s.heap.get? b=some u->h'.get? b=some u)(hp:s.heap.objs.size<=a)(new:ObjOk X.prog X.w (upd H a o) h' a o) :
  Inv X pins σ (upd H a o) { s with heap:=h',toks:=t' }:=I.un (Un.laid k hp (I.hok.fresh hp)) (I.hok.laid k hp new)
def Inv.write{x e:Addr}{o:HO}{t':Nat}(I:Inv X pins σ H s)(mu:Mut (H x))(he:e=x\/H e=some (.own x))(k:∀b u,b≠e->s.heap.get? b=some u->h'.get? b=some u)(heo:∃u,h'.get? e=some u)
  (new:ObjOk X.prog X.w (upd H x o) h' x o):Inv X pins σ (upd H x o) { s with heap:=h',toks:=t' }:=I.un (Un.write mu he k heo) (I.hok.write mu he k heo new)
def Inv.weak{σ':List (Option V)}(I:Inv X pins σ H s)(hl:σ'.length=σ.length)(w:∀(i:Nat) v,σ'[i]?=some (some v)->σ[i]?=some (some v)):Inv X pins σ' H s:=
 ⟨I.ok,I.os,I.bare,I.base,let ⟨m,hn,hl'⟩:=I.loc;⟨m,hn,λi x v e1 e2 e3=>hl' i x v e1 (w i v e2) e3⟩,I.cell,I.free,I.freeC,I.pin,I.hok,hl.trans I.len⟩
def Inv.pins_of{pins':List (Addr × Obj)}(I:Inv X pins σ H s)(h:∀p∈pins',s.heap.get? p.1=some p.2/\H p.1=none/\p.1≠X.env.locals/\p.1 ∉ X.fs/\∀v,p.2.data≠.cell v):Inv X pins' σ H s:=
 ⟨I.ok,I.os,I.bare,I.base,I.loc,I.cell,I.free,I.freeC,λp hp=>(zN.mp hp).elim (λz=>I.pin p (xf _ z)) (h p),I.hok,I.len⟩
def Kv{N:List Str}(hN:N.Nodup){i j:Nat}{x:Str}(a:N[i]?=some x)(b:N[j]?=some x):i=j:=by
 obtain⟨h1,e1⟩:=zP.mp a;obtain⟨h2,e2⟩:=zP.mp b;exact(List.getElem_inj hN).mp (e1.trans e2.symm)
def We{M:Model}{A:Around}{E:Value->Shared->Prop}{i:Nat}{x:Str}{v:V}{u:Value}{Q:Unit->Shared->Prop}(I:Inv X pins σ H s)(hN:X.N.Nodup)(hi:X.N[i]?=some x)(hx:Loc X.env.scope x)(r:RelV v u)
  (h:∀s',Inv X pins (σ.set i (some v)) H s'->(∃a,Heap.SameBut a s.heap s'.heap/\(a=X.env.locals\/X.env.cells.lookup x=some a))->Q () s') (hf:X.fn x=true\/X.env.scope.names.lookup x=some .local:=by first |exact .inl rfl |exact .inr rfl |assumption):wpAny M A (storeName X.env x u) Q E s:=by
 obtain⟨m,hn,hl⟩:=id I.loc
 have hcls:(X.env.scope.kind == .class||(X.env.scope.kind == .module&&X.env.locals != X.env.globals))=false:=by rw[I.ok.kind];rfl
 have hiσ:i<σ.length:=by rw[I.len];exact(zP.mp hi).1
 have cne:=I.cne
 have tracked:∀{a:Addr}{h':Heap},(∃o,s.heap.get? a=some o/\H a=none)->Heap.SameBut a s.heap h'->HOk X.prog X.w H h':=λ{a h'} ha hs b ob e=>by
  obtain⟨_,_,hfree⟩:=ha;refine(I.hok b ob e).stay (λc w' hc q=>(hs.2 c ?_).trans q) (λ_ q=>q) λ_ _ q=>q;rintro rfl
  rcases hc with rfl |hc
  ·rw[hfree] at e;cases e
  ·rw[hfree] at hc;cases hc
 rcases hx with hk |hk
 ·refine wpAny_storeName_local hk hn (λh' hn' hs => ?_) hcls;obtain⟨oL,_,_,hoL,_⟩:=id hn
  refine h _ ⟨I.ok,I.os,I.bare,⟨λb o e n hb hx=>?_,λb o e n hb hx=>?_,I.base.free,λb o e hx=>?_,I.base.tups,I.base.frzs,I.base.tbls⟩,⟨_,hn',λj y v' e1 e2 e3=>?_⟩,λy c e=>?_,I.free,I.freeC,λp hp=>?_,tracked ⟨oL,hoL,I.free⟩ hs,by simpa using I.len⟩ ⟨_,hs,.inl rfl⟩
  ·exact(hs.2 b (xa (zS (zA e) I.ok.above))).trans (I.base.keep b o e n hb hx)
  ·obtain⟨sl,e1⟩:=I.base.slot b o e n hb hx;exact⟨sl,(hs.2 b (xa (zS (zA e) I.ok.above))).trans e1⟩
  ·obtain⟨o',e1⟩:=I.base.there b o e hx;exact⟨o',(hs.2 b (xa (zS (zA e) I.ok.above))).trans e1⟩
  ·by_cases hj : j = i
   ·subst hj;rw[hi] at e1;cases e1;rw[xi hiσ] at e2;cases e2
    exact⟨u,r,.inl ⟨hk,by simp⟩⟩
   ·rw [xz (Ne.symm hj)] at e2;obtain⟨u',r',q⟩:=hl j y v' e1 e2 e3;refine⟨u',r',?_⟩
    rcases q with ⟨k,e⟩ |⟨k,c,e,z⟩
    ·refine .inl ⟨k,?_⟩;have:y≠x:=λe=>hj (Kv hN e1 (e ▸ hi));simp[this,e]
    ·exact .inr ⟨k,c,e,z.sameBut hs (cne y c e)⟩
  ·obtain⟨w',z⟩:=I.cell y c e;exact⟨w',z.sameBut hs (cne y c e)⟩
  ·obtain⟨e,n,ne,nf,d⟩:=I.pin p hp;exact⟨(hs.2 p.1 ne).trans e,n,ne,nf,d⟩
 ·have hfn : X.fn x = true := by
   rcases hf with z |z
   ·exact z
   ·rw[z] at hk;cases hk
  obtain⟨c,hc⟩:=I.ok.has x (.inl hk);obtain⟨w',z⟩:=I.cell x c hc;refine wpAny_storeName_cell I.ok.kind hk hc z (λh' hc' hs=>?_);obtain⟨oc,hoc,hocd⟩:=id z
  refine h { s with heap:=h' } ⟨I.ok,I.os,I.bare,⟨λb o e n hb hx=>?_,λb o e n hb hx=>?_,I.base.free,λb o e hx=>?_,I.base.tups,I.base.frzs,I.base.tbls⟩,⟨m,hn.sameBut hs (Ne.symm (cne x c hc)),λj y v' e1 e2 e3=>?_⟩,λy c' e=>?_,I.free,I.freeC,λp hp=>?_,tracked ⟨oc,hoc,I.freeC x c hc⟩ hs,by simpa using I.len⟩ ⟨c,hs,.inr hc⟩
  ·exact(hs.2 b (xa (zS (zA e) (I.ok.cab x c hfn hc)))).trans (I.base.keep b o e n hb hx)
  ·obtain⟨sl,e1⟩:=I.base.slot b o e n hb hx;exact⟨sl,(hs.2 b (xa (zS (zA e) (I.ok.cab x c hfn hc)))).trans e1⟩
  ·obtain⟨o',e1⟩:=I.base.there b o e hx;exact⟨o',(hs.2 b (xa (zS (zA e) (I.ok.cab x c hfn hc)))).trans e1⟩
  ·by_cases hj : j = i
   ·subst hj;rw[hi] at e1;cases e1;rw[xi hiσ] at e2;cases e2;exact⟨u,r,.inr ⟨.inl hk,c,hc,hc'⟩⟩
   ·rw [xz (Ne.symm hj)] at e2;obtain⟨u',r',q⟩:=hl j y v' e1 e2 e3;refine⟨u',r',?_⟩
    rcases q with q |⟨k,c',e,z'⟩
    ·exact .inl q
    ·refine .inr ⟨k,c',e,z'.sameBut hs ?_⟩;rintro rfl;exact hj (Kv hN e1 (I.ok.inj _ _ _ e hc ▸ hi))
  ·by_cases hcc : c' = c
   ·subst hcc;exact⟨_,hc'⟩
   ·obtain⟨w2,z2⟩:=I.cell y c' e;exact⟨w2,z2.sameBut hs hcc⟩
  ·obtain ⟨e, n, ne, nf, d⟩ := I.pin p hp;refine⟨(hs.2 p.1 ?_).trans e,n,ne,nf,d⟩;intro q;rw[q,hoc] at e;have q':oc=p.2:=zF e
   exact d w' (by rw[<- q'];exact hocd)
def kE{M:Model}{A:Around}{E:Value->Shared->Prop}{i:Nat}{x:Str}{v:V}{u:Value}{Q:Unit->Shared->Prop}(I:Inv X pins σ H s)(hN:X.N.Nodup)(hi:X.N[i]?=some x)(hx:Loc X.env.scope x)(r:RelV v u)
  (h:∀s',Inv X pins (σ.set i (some v)) H s'->Q () s') (hf:X.fn x=true\/X.env.scope.names.lookup x=some .local:=by first |exact .inl rfl |exact .inr rfl |assumption):wpAny M A (storeName X.env x u) Q E s:=
 We I hN hi hx r (λs' I' _=>h s' I') hf
def Inv.call'{s':Shared}{ch:List Addr}(I:Inv X pins σ H s)(ho:s'.os=s.os)(u:Un (frs X.stack) ch H H' s.heap s'.heap)(hok:HOk X.prog X.w H' s'.heap)(hg:AllBare s'.gens)
  (hch:∀b∈ch,(b∈X.ex\/X.s₀.heap.objs.size<=b)/\b≠X.env.locals/\(∀x c,X.env.cells.lookup x=some c->c≠b)/\∀p∈X.pn++pins,p.1≠b):Inv X pins σ H' s':=by
 obtain⟨h',g',d',t',o'⟩:=s';have e:o'=s.os:=ho;subst e;exact I.call (g':=g') (t':=t') (d':=d') u hok hg hch
end
abbrev XK:=Value->Option Addr->Hp->Prop
abbrev St:=List (Option V)
abbrev VK:=V->Hp->Prop
abbrev TE:=St->Hp->VK->Prop
abbrev TT:=St->Hp->(Bool->Hp->Prop)->Prop
abbrev TA:=St->Hp->(List V->Hp->Prop)->Prop
structure Ends where
 nx:St->Hp->Prop
 rt:VK
 bk:St->Hp->Prop:=λ_ _=>False
 ct:St->Hp->Prop:=λ_ _=>False
abbrev TS:=Ends->St->Hp->Prop
def EP(X:Cx)(pins:List (Addr × Obj))(σ:St)(Q:VK)(u:Value)(s':Shared):Prop:=∃v H',Inv X pins σ H' s'/\RelV v u/\Q v H'
def TP(X:Cx)(pins:List (Addr × Obj))(σ:St)(Q:Bool->Hp->Prop)(b:Bool)(s':Shared):Prop:=∃H',Inv X pins σ H' s'/\Q b H'
def AP(X:Cx)(pins:List (Addr × Obj))(σ:St)(Q:List V->Hp->Prop)(us:List Value)(s':Shared):Prop:=∃vs H',Inv X pins σ H' s'/\Vals vs us/\Q vs H'
def SP(X:Cx)(pins:List (Addr × Obj))(D:Ends)(f:Flow)(s':Shared):Prop:=
 match f with
 |.next=>∃σ' H',Inv X pins σ' H' s'/\D.nx σ' H'
 |.brk=>∃σ' H',Inv X pins σ' H' s'/\D.bk σ' H'
 |.cont=>∃σ' H',Inv X pins σ' H' s'/\D.ct σ' H'
 |.ret u=>∃v σ' H',Inv X pins σ' H' s'/\RelV v u/\D.rt v H'
def PE(X:Cx)(e:Expr)(t:TE):Prop:=
 ∀(pins:List (Addr × Obj)) (s:Shared) (σ:St) (H:Hp) (Q:VK),Inv X pins σ H s->t σ H Q->wpAny (model X.prog X.w) X.A (eval e X.env) (EP X pins σ Q) X.xe s
def PT(X:Cx)(e:Expr)(t:TT):Prop:=
 ∀(pins:List (Addr × Obj)) (s:Shared) (σ:St) (H:Hp) (Q:Bool->Hp->Prop),Inv X pins σ H s->t σ H Q->wpAny (model X.prog X.w) X.A (isTrue e X.env (eval e X.env)) (TP X pins σ Q) X.xe s
def PW(X:Cx)(e:Expr)(t:TT):Prop:=
 ∀(whole:Sem Value) (pins:List (Addr × Obj)) (s:Shared) (σ:St) (H:Hp) (Q:Bool->Hp->Prop),Inv X pins σ H s->t σ H Q->wpAny (model X.prog X.w) X.A (isTrue e X.env whole) (TP X pins σ Q) X.xe s
def PW.pt{X:Cx}{e:Expr}{t:TT}(h:PW X e t):PT X e t:=h _
def PA(X:Cx)(es:List Expr)(t:TA):Prop:=
 ∀(pos:Pos) (pins:List (Addr × Obj)) (s:Shared) (σ:St) (H:Hp) (Q:List V->Hp->Prop),Inv X pins σ H s->t σ H Q->wpAny (model X.prog X.w) X.A (spliced (backTo pos (starEach es X.env))) (AP X pins σ Q) X.xe s
def PS(X:Cx)(st:Stmt)(t:TS):Prop:=
 ∀(pins:List (Addr × Obj)) (s:Shared) (σ:St) (H:Hp) (D:Ends),Inv X pins σ H s->t D σ H->wpAny (model X.prog X.w) X.A (exec st X.env) (SP X pins D) X.xe s
def PSs(X:Cx)(st:List Stmt)(t:TS):Prop:=
 ∀(pins:List (Addr × Obj)) (s:Shared) (σ:St) (H:Hp) (D:Ends),Inv X pins σ H s->t D σ H->wpAny (model X.prog X.w) X.A (execs st X.env) (SP X pins D) X.xe s
def thn{α:Type}{t:Sem α}{Q Q':α->Shared->Prop}{M:Model}{A:Around}{E:Value->Shared->Prop}{s:Shared}(h:wpAny M A t Q E s)(hQ:∀a s,Q a s->Q' a s):wpAny M A t Q' E s:=ye h hQ λ_ _ x=>x
section
variable {X:Cx}
def xw5(i:Nat):TE:=λσ H Q=>∃v,σ[i]?=some (some v)/\Q v H
def tC(v:V):TE:=λ_ H Q=>Q v H
def Kn{i:Nat}{x:Str}{pos:Pos}(hN:X.N[i]?=some x)(hv:Vis X.env.scope x)(hd:(x == ("__debug__" : Str))=false:=by decide)(hcd:(x == ("__classdict__" : Str))=false:=by decide):PE X (.Name x pos) (xw5 i):=by
 intro pins s σ H Q I h;obtain⟨v,e,h⟩:=h;obtain⟨m,hn,hl⟩:=I.loc;obtain⟨u,r,l⟩:=hl i x v hN e hv;have fin:EP X pins σ Q u s:=⟨v,H,I,r,h⟩
 rcases l with ⟨hk,hm⟩ |⟨hk,c,hc,hcell⟩
 ·exact wpAny_Name (wpAny_loadName_local I.ok.kind hk hn hm fin) hd
 ·rcases hk with hk | hk
  ·exact wpAny_Name (wpAny_loadName_cell I.ok.kind hk hc hcell fin) hd
  ·exact wpAny_Name (wpAny_loadName_free I.ok.kind hk hc hcell fin hcd) hd
def zt9{i j pos}:PE X (.Constant (.int i) j pos) (tC (.int i)):=λ_ _ _ H _ I h=>wpAny_Constant_int ⟨.int i,H,I.tok _,⟨_,rfl⟩,h⟩
def xl7{b j pos}:PE X (.Constant (.bool b) j pos) (tC (.bl b)):=λ_ _ _ H _ I h=>Constant_bool ⟨.bl b,H,I,rfl,h⟩
def zO7{j pos}:PE X (.Constant .none j pos) (tC .non):=λ_ _ _ H _ I h=>Constant_none ⟨.non,H,I,rfl,h⟩
def zO6{x j pos}:PE X (.Constant (.str x) j pos) (tC (.str x)):=λ_ _ _ H _ I h=>Calls.Constant_str ⟨.str x,H,I.tok _,⟨_,rfl⟩,h⟩
def Gl(X:Cx)(x:Str):Prop:=X.env.kindOf x=some .globalImplicit
def zc3{E:Value->Shared->Prop}{pins:List (Addr × Obj)}{s:Shared}{σ:St}{H:Hp}{x:Str}{u:Value}{pos:Pos}{Q:Value->Shared->Prop}(I:Inv X pins σ H s)(hg:Gl X x)(hm:X.mg x=some u)(h:Q u s)
  (hd:(x == ("__debug__" : Str))=false:=by decide):wpAny (model X.prog X.w) X.A (eval (.Name x pos) X.env) Q E s:=
 Calls.Name_function_global I.ok.kind hg (Calls.loadGlobal_global (by rw[I.ok.glob];exact I.mod.glob.keeps I.bk) hm h) hd
def WQ{E:Value->Shared->Prop}{pins:List (Addr × Obj)}{s:Shared}{σ:St}{H:Hp}{x:Str}{u:Value}{pos:Pos}{Q:Value->Shared->Prop}(I:Inv X pins σ H s)(hg:Gl X x)(hm:X.mg x=none)(hv:bootBuiltins x=some u)(h:Q u s)
  (hn:x ≠ "__name__" := by decide) (hd:(x == ("__debug__" : Str))=false:=by decide):wpAny (model X.prog X.w) X.A (eval (.Name x pos) X.env) Q E s:=by
 obtain⟨mb,h1,h2⟩:=I.mod.blt
 exact Calls.Name_function_global I.ok.kind hg (Calls.loadGlobal_builtin (by rw[I.ok.glob];exact I.mod.glob.keeps I.bk) hm (by rw[I.ok.blt];exact h1.keeps I.bk) ((h2 x hn).trans hv) h) hd
variable {a b:Expr}{ta tb:TE}{pos:Pos}
def tB(t:TE):TT:=λσ H Q=>t σ H λx H1=>∃c,x=.bl c/\Q c H1
def zN6{e:Expr}{t:TE}(h:PE X e t)(he:∀whole,isTrue e X.env whole=(do let v <- whole;standAt e.pos;holding [v] (truthy v)):=by intro _;rfl):PT X e (tB t):=by
 intro pins s σ H Q I hw;refine isTrue_plain (thn (h pins s σ H _ I hw) λv s1 ⟨x,H1,I1,r1,q1⟩=>?_) (he _);obtain⟨d,rfl,q⟩:=q1;cases r1;exact wpAny_truthy_bool ⟨H1,I1,q⟩
variable {tA tB':TT}{rest:List Expr}
def xx6(t u:TT):TT:=λσ H Q=>t σ H λc H1=>if c=true then u σ H1 Q else Q false H1
def tOr(t u:TT):TT:=λσ H Q=>t σ H λc H1=>if c=true then Q true H1 else u σ H1 Q
def zz6(ha:PT X a tA):PW X (.BoolOp .And [a] pos) tA:=by
 intro wh pins s σ H Q I h;refine isTrue_and (thn (ha pins s σ H Q I h) λc s1 e=>?_)
 cases c with
 |true=>exact isTrue_and_nil e
 |false=>exact e
def zN3(ha:PT X a tA):PW X (.BoolOp .Or [a] pos) tA:=by
 intro wh pins s σ H Q I h;refine isTrue_or (thn (ha pins s σ H Q I h) λc s1 e=>?_)
 cases c with
 |false=>exact isTrue_or_nil e
 |true=>exact e
def zN4(ha:PT X a tA)(hb:PW X (.BoolOp .And (b::rest) pos) tB'):PW X (.BoolOp .And (a::b::rest) pos) (xx6 tA tB'):=by
 intro wh pins s σ H Q I h;refine isTrue_and (thn (ha pins s σ H _ I h) λc s1 ⟨H1,I1,q1⟩=>?_)
 cases c with
 |true=>exact hb wh pins s1 σ H1 Q I1 q1
 |false=>exact⟨H1,I1,q1⟩
def xl2(ha:PT X a tA)(hb:PW X (.BoolOp .Or (b::rest) pos) tB'):PW X (.BoolOp .Or (a::b::rest) pos) (tOr tA tB'):=by
 intro wh pins s σ H Q I h;refine isTrue_or (thn (ha pins s σ H _ I h) λc s1 ⟨H1,I1,q1⟩=>?_)
 cases c with
 |true=>exact⟨H1,I1,q1⟩
 |false=>exact hb wh pins s1 σ H1 Q I1 q1
def tIf(t:TT)(ta tb:TE):TE:=λσ H Q=>t σ H λc H1=>if c=true then ta σ H1 Q else tb σ H1 Q
def zm9{c:Expr}(hc:PT X c tA)(ha:PE X a ta)(hb:PE X b tb):PE X (.IfExp c a b pos) (tIf tA ta tb):=by
 intro pins s σ H Q I h;refine wpAny_IfExp (thn (hc pins s σ H _ I h) λd s1 ⟨H1,I1,q1⟩=>?_)
 cases d with
 |true=>exact ha pins s1 σ H1 Q I1 q1
 |false=>exact hb pins s1 σ H1 Q I1 q1
end
def SqL(K:W.Frag)(H:Hp)(a:Addr)(xs:List V):Prop:=
 Rd H a (.lst xs) \/
  ∃(o:Obj) (its:Array Value) (n:Nat),K.lookup a=some o/\o.cls=.type "list" /\ o.dict=none/\o.data=.seq its n/\its.size<=sizeLine/\Vals xs its.toList
def SqT(K:W.Frag)(H:Hp)(a:Addr)(xs:List V):Prop:=
 Rd H a (.tup xs) \/
  ∃(o:Obj) (its:Array Value) (n:Nat),K.lookup a=some o/\o.cls=.type "tuple" /\ o.data=.seq its n/\its.size<=sizeLine/\Vals xs its.toList
def xD6:Value->Option V
 |.none=>some .non
 |.bool b=>some (.bl b)
 |.int i _=>some (.int i)
 |.str x _=>some (.str x)
 |.bytes b _=>some (.byt b)
 |.float b _=>some (.flt b)
 |.ref a=>some (.ref a)
 |.type n=>some (.ty n)
 |_=>none
def RelV.abs{x:V}{u:Value}(r:RelV x u):xD6 u=some x:=by
 cases x with
 |non=>cases r;rfl
 |bl _=>cases r;rfl
 |int _=>obtain⟨t,rfl⟩:=r;rfl
 |str _=>obtain⟨t,rfl⟩:=r;rfl
 |byt _=>obtain⟨t,rfl⟩:=r;rfl
 |flt _=>obtain⟨t,rfl⟩:=r;rfl
 |ref _=>cases r;rfl
 |ty _=>cases r;rfl
def RelV.inj{x y:V}{u:Value}(r:RelV x u)(q:RelV y u):x=y:=zF (r.abs.symm.trans q.abs)
theorem Vals.inj:∀{xs ys:List V}{us:List Value},Vals xs us->Vals ys us->xs=ys
 |_,_,_,.nil,.nil=>rfl
 |_,_,_,.cons r t,.cons r' t'=>by rw[r.inj r',Vals.inj t t']
section
variable {X:Cx}{pins:List (Addr × Obj)}{σ:St}{H:Hp}{s:Shared}{a:Addr}{xs ys:List V}
def SqL.of{K:W.Frag}(h:H a=some (.lst xs)):SqL K H a xs:=.inl (.inl h)
def Inv.list(I:Inv X pins σ H s)(h:SqL X.K H a xs):∃its:List Value,Vals xs its/\PlainL s.heap a its.toArray/\xs.length<=sizeLine:=by
 rcases h with h |⟨o,its,n,hk,hc,hd,hs,hz,r⟩
 ·obtain⟨z,its,n,r,e⟩:=h.ok I.hok;exact⟨its,r,⟨_,n,e,rfl,rfl,rfl⟩,z⟩
 ·refine ⟨its.toList, r, ⟨o, n, I.kIn a o hk, hc, hd, by simpa using hs⟩, ?_⟩
  have e:=r.length;simp only[zg] at e;lia
def Inv.tuple(I:Inv X pins σ H s)(h:SqT X.K H a xs):∃its:List Value,Vals xs its/\IsTup s.heap a its.toArray/\xs.length<=sizeLine:=by
 rcases h with h |⟨o,its,n,hk,hc,hs,hz,r⟩
 ·obtain⟨z,its,r,p⟩:=h.ok I.hok;exact⟨its,r,p,z⟩
 ·refine ⟨its.toList, r, ⟨o, I.kIn a o hk, hc, n, by simpa using hs⟩, ?_⟩
  have e:=r.length;simp only[zg] at e;lia
def Inv.list_inj(I:Inv X pins σ H s)(h:SqL X.K H a xs)(h':SqL X.K H a ys):xs=ys:=by
 obtain⟨its,r,⟨o,n,e,_,_,d⟩,_⟩:=I.list h;obtain⟨its',r',⟨o',n',e',_,_,d'⟩,_⟩:=I.list h';rw[e] at e';cases e';rw[d] at d';injection d' with d1 _
 have:its=its':=by simpa using congrArg Array.toList d1
 subst this;exact r.inj r'
def Inv.tuple_inj(I:Inv X pins σ H s)(h:SqT X.K H a xs)(h':SqT X.K H a ys):xs=ys:=by
 obtain⟨its,r,⟨o,e,_,n,d⟩,_⟩:=I.tuple h;obtain⟨its',r',⟨o',e',_,n',d'⟩,_⟩:=I.tuple h';rw[e] at e';cases e';rw[d] at d';injection d' with d1 _
 have:its=its':=by simpa using congrArg Array.toList d1
 subst this;exact r.inj r'
end
abbrev Cx.wish(X:Cx)(E:Value->Shared->Prop):Cx:={ X with xe:=E }
abbrev Cx.nox(X:Cx):Cx:=X.wish λ_ _=>False
def Cx.Ok.wish{X:Cx}(ok:X.Ok)(E:Value->Shared->Prop):(X.wish E).Ok:=
 ⟨ok.mod,ok.kind,ok.glob,ok.blt,ok.above,ok.inj,ok.has,ok.cab,ok.hd,ok.frames,ok.stk,ok.exf,ok.bs,ok.bsz,ok.noex,ok.exfs,ok.funs,ok.frf⟩
def Cx.Ok.unwish{X:Cx}{E:Value->Shared->Prop}(ok:(X.wish E).Ok):X.Ok:=
 ⟨ok.mod,ok.kind,ok.glob,ok.blt,ok.above,ok.inj,ok.has,ok.cab,ok.hd,ok.frames,ok.stk,ok.exf,ok.bs,ok.bsz,ok.noex,ok.exfs,ok.funs,ok.frf⟩
section
variable {X:Cx}{pins:List (Addr × Obj)}{σ:St}{H:Hp}{s:Shared}{E:Value->Shared->Prop}
def Inv.wish(I:Inv X pins σ H s)(E:Value->Shared->Prop):Inv (X.wish E) pins σ H s:=⟨I.ok.wish E,I.os,I.bare,I.base,I.loc,I.cell,I.free,I.freeC,I.pin,I.hok,I.len⟩
def Inv.unwish(I:Inv (X.wish E) pins σ H s):Inv X pins σ H s:=⟨I.ok.unwish,I.os,I.bare,I.base,I.loc,I.cell,I.free,I.freeC,I.pin,I.hok,I.len⟩
def SP.unwish{D:Ends}{f:Flow}{s':Shared}(h:SP (X.wish E) pins D f s'):SP X pins D f s':=by
 cases f with
 |next=>obtain⟨σ',H',I,q⟩:=h;exact⟨σ',H',I.unwish,q⟩
 |brk=>obtain⟨σ',H',I,q⟩:=h;exact⟨σ',H',I.unwish,q⟩
 |cont=>obtain⟨σ',H',I,q⟩:=h;exact⟨σ',H',I.unwish,q⟩
 |ret u=>obtain⟨v,σ',H',I,r,q⟩:=h;exact⟨v,σ',H',I.unwish,r,q⟩
def PSs.nox{st:List Stmt}{t:TS}(h:PSs X.nox st t):PSs X st t:=λpins s σ H D I hw=>
 ye (h pins s σ H D (I.wish _) hw) (λ_ _ q=>q.unwish) λ_ _ z=>False.elim z
end
section
variable {X:Cx}{st:Stmt}{rest:List Stmt}{t u:TS}{e:Expr}{te:TE}{pos:Pos}
def xb3:TS:=λD σ H=>D.nx σ H
def xw7(t u:TS):TS:=λD σ H=>t { D with nx:=u D } σ H
def zA1:PSs X [] xb3:=λ_ _ σ H _ I h=>wpAny_execs_nil ⟨σ,H,I,h⟩
def Kj(h1:PS X st t)(h2:PSs X rest u):PSs X (st::rest) (xw7 t u):=by
 intro pins s σ H D I h;refine wpAny_execs_cons (thn (h1 pins s σ H { D with nx:=u D } I h) λf s1 q=>?_)
 cases f with
 |next=>
  obtain⟨σ',H',I',q⟩:=q;exact h2 pins s1 σ' H' D I' q
 |ret v=>exact q
 |brk=>exact q
 |cont=>exact q
def zA0(h1:PS X st t):PSs X [st] t:=by
 intro pins s σ H D I h;refine wpAny_execs_cons (thn (h1 pins s σ H D I h) λf s1 q=>?_)
 cases f with
 |next=>exact wpAny_execs_nil q
 |ret v=>exact q
 |brk=>exact q
 |cont=>exact q
def xb7:TS:=λD σ H=>D.ct σ H
def VO:PS X (.Continue pos) xb7:=λ_ _ σ H _ I h=>wpAny_Continue ⟨σ,H,I,h⟩
def Inv.quiet{pins:List (Addr × Obj)}{σ:St}{H:Hp}{s:Shared}(I:Inv X pins σ H s):interactive X.env=false:=by simp[interactive,I.ok.kind]
def xb5(te:TE):TS:=λD σ H=>te σ H λ_ H1=>D.nx σ H1
def QR(he:PE X e te)(hs:swapsWith e none pos.line X.env=pure false:=by rfl):PS X (.Expr e pos) (xb5 te):=by
 intro pins s σ H D I h;exact wpAny_Expr_any (thn (he pins s σ H _ I h) λv s1 ⟨x,H1,I1,r1,q1⟩=>⟨σ,H1,I1,q1⟩) I.quiet hs
def xw8(te:TE):TS:=λD σ H=>te σ H D.rt
def zN7(he:PE X e te):PS X (.Return (some e) pos) (xw8 te):=by
 intro pins s σ H D I h;exact wpAny_Return_some (thn (he pins s σ H _ I h) λv s1 ⟨x,H1,I1,r1,q1⟩=>⟨x,σ,H1,I1,r1,q1⟩)
def xx1(c:TT)(t u:TS):TS:=λD σ H=>c σ H λb H1=>if b=true then t D σ H1 else u D σ H1
def xl4{c:Expr}{a b:List Stmt}{tc:TT}(hc:PT X c tc)(ha:PSs X a t)(hb:PSs X b u):PS X (.If c a b pos) (xx1 tc t u):=by
 intro pins s σ H D I h;refine wpAny_If (thn (hc pins s σ H _ I h) λd s1 ⟨H1,I1,q1⟩=>?_)
 cases d with
 |true=>exact ha pins s1 σ H1 D I1 q1
 |false=>exact hb pins s1 σ H1 D I1 q1
end
abbrev TG:=V->St->Hp->(St->Hp->Prop)->Prop
abbrev TGs:=List V->St->Hp->(St->Hp->Prop)->Prop
def PG(X:Cx)(target:Expr)(t:TG):Prop:=
 ∀(pins:List (Addr × Obj)) (s:Shared) (σ:St) (H:Hp) (v:V) (u:Value) (Q:St->Hp->Prop),Inv X pins σ H s->RelV v u->t v σ H Q ->
  wpAny (model X.prog X.w) X.A (assign target X.env u) (λ_ s'=>∃σ' H',Inv X pins σ' H' s'/\Q σ' H') X.xe s
def PGs(X:Cx)(ts:List Expr)(t:TGs):Prop:=
 ∀(pins:List (Addr × Obj)) (s:Shared) (σ:St) (H:Hp) (vs:List V) (us:List Value) (Q:St->Hp->Prop),Inv X pins σ H s->Vals vs us->t vs σ H Q ->
  wpAny (model X.prog X.w) X.A (assignInOrder ((assignEach ts X.env).map (·.2)) us) (λ_ s'=>∃σ' H',Inv X pins σ' H' s'/\Q σ' H') X.xe s
abbrev xo8:=V->V->V->Hp->(Hp->Prop)->Prop
def xw0(X:Cx)(t:xo8):Prop:=
 ∀(pins:List (Addr × Obj)) (s:Shared) (σ:St) (H:Hp) (o i v:V) (ov iv u:Value) (Q:Hp->Prop),Inv X pins σ H s->RelV o ov->RelV i iv->RelV v u->t o i v H Q ->
  wpAny (model X.prog X.w) X.A (setItem ov iv u) (λ_ s'=>∃H',Inv X pins σ H' s'/\Q H') X.xe s
abbrev TIp:=V->V->Hp->VK->Prop
def PIp(X:Cx)(op:Operator)(t:TIp):Prop:=
 ∀(pins:List (Addr × Obj)) (s:Shared) (σ:St) (H:Hp) (x y:V) (v u:Value) (Q:VK),Inv X pins σ H s->RelV x v->RelV y u->t x y H Q ->
  wpAny (model X.prog X.w) X.A (inplaceOp op v u) (EP X pins σ Q) X.xe s
section
variable {X:Cx}{pos:Pos}
def zq1(i:Nat):TG:=λv σ H Q=>Q (σ.set i (some v)) H
def zB7{i:Nat}{x:Str}(hN:X.N.Nodup)(hi:X.N[i]?=some x)(hx:Loc X.env.scope x)(hf:X.fn x=true\/X.env.scope.names.lookup x=some .local:=by first |exact .inl rfl |exact .inr rfl |assumption):PG X (.Name x pos) (zq1 i):=by
 intro pins s σ H v u Q I r h;exact wpAny_assign_Name (kE I hN hi hx r (λs' I'=>⟨_,H,I',h⟩) hf)
def xC4:TGs:=λvs σ H Q=>vs=[]/\Q σ H
def xo0(t:TG)(u:TGs):TGs:=λvs σ H Q=>∃v r,vs=v::r/\t v σ H λσ' H'=>u r σ' H' Q
def zB6:PGs X [] xC4:=by
 intro pins s σ H vs us Q I r h;obtain⟨e,h⟩:=h;subst e;cases r;exact assignInOrder_nil ⟨σ,H,I,h⟩
def zm6{e:Expr}{es:List Expr}{t:TG}{u:TGs}(h1:PG X e t)(h2:PGs X es u)
  (hs:(assignEach (e::es) X.env).map (·.2)=assign e X.env::(assignEach es X.env).map (·.2):=by rfl):PGs X (e::es) (xo0 t u):=by
 intro pins s σ H vs us Q I r h;obtain⟨v,vr,e1,h⟩:=h;subst e1
 cases r with
 |cons r rr=>
  rw[hs];refine assignInOrder_cons (thn (h1 pins s σ H _ _ _ I r h) λ_ s1 ⟨σ1,H1,I1,q1⟩=>?_);exact h2 pins s1 σ1 H1 _ _ Q I1 rr q1
def xC2(K:W.Frag)(n:Nat)(t:TGs):TG:=λv σ H Q=>∃a xs,v=.ref a/\SqT K H a xs/\xs.length=n/\t xs σ H Q
def zO2{es:List Expr}{k:Nat}{t:TGs}{n:Nat}(hc:X.calm=true)(h:PGs X es t)
  (hn:(assignEach es X.env).length=n:=by rfl) (hst:(assignEach es X.env).findIdx? (·.1)=none:=by rfl):PG X (.Tuple es k pos) (xC2 X.K n t):=by
 intro pins s σ H v u Q I r hw;obtain⟨a,xs,e1,hq,hl,hw⟩:=hw;subst e1;cases r;obtain⟨its,rv,ht,hz⟩:=I.tuple hq
 refine assign_Tuple_tuple (I.ok.hd hc) ht (by simp[hn,<- hl,rv.length]) hst λh' hx=>?_
 have I1:Inv X pins σ H { s with heap:=h' }:=I.kept (t':=s.toks) λb o e=>hx b o (xa (zA e)) e
 exact h pins _ σ H xs _ Q I1 (by simpa using rv) hw
def xC3(to ti:TE)(t:xo8):TG:=λv σ H Q=>to σ H λo H1=>ti σ H1 λi H2=>t o i v H2 λH3=>Q σ H3
def zO3{o i:Expr}{to ti:TE}{t:xo8}(ho:PE X o to)(hi:PE X i ti)(hs:xw0 X t)
  (ha : ∀ v, assign (.Subscript o i pos) X.env v = (do
   let ov <- holding [v] (eval o X.env)
   let iv <- holding [v,ov] (eval i X.env)
   standAt pos
   holding [v,ov,iv] (setItem ov iv v)
   release [v,ov,iv] []):=by intro _;rfl):PG X (.Subscript o i pos) (xC3 to ti t):=by
 intro pins s σ H v u Q I r h;rw[ha];refine zb (wF (thn (ho pins s σ H _ I h) λov s1 ⟨x,H1,I1,r1,q1⟩=>?_));refine zb (wF (thn (hi pins s1 σ H1 _ I1 q1) λiv s2 ⟨y,H2,I2,r2,q2⟩=>?_));refine zb (wk (zb (wF (thn (hs pins s2 σ H2 x y v ov iv u _ I2 r1 r2 r q2) λ_ s3 ⟨H3,I3,q3⟩=>?_))));exact wpAny_release ⟨σ,H3,I3,q3⟩
def xc0(te:TE)(g:TG):TS:=λD σ H=>te σ H λx H1=>g x σ H1 D.nx
def zt7{tg e:Expr}{te:TE}{g:TG}(he:PE X e te)(hg:PG X tg g)(hs:swapsWithSole [tg] e pos.line X.env=pure false:=by rfl)(hw:swappedStores [tg] e X.env=pure none:=by rfl)
  (h1:(assignEach [tg] X.env).map (·.2)=[assign tg X.env]:=by rfl):PS X (.Assign [tg] e pos) (xc0 te g):=by
 intro pins s σ H D I h;refine wpAny_Assign_stores (thn (he pins s σ H _ I h) λv s1 ⟨x,H1,I1,r1,q1⟩=>?_) hs hw;rw[h1];exact thn (hg pins s1 σ H1 x v _ I1 r1 q1) λ_ s2 q=>q
def QP{i:Nat}{x:Str}{e:Expr}{te:TE}{pos':Pos}(hN:X.N.Nodup)(hi:X.N[i]?=some x)(hx:Loc X.env.scope x)(he:PE X e te)(hs:swapsWith e (some (.Name x pos')) pos.line X.env=pure false:=by rfl)(hf:X.fn x=true\/X.env.scope.names.lookup x=some .local:=by first |exact .inl rfl |exact .inr rfl |assumption) :
  PS X (.Assign [.Name x pos'] e pos) (xc0 te (zq1 i)):=by
 intro pins s σ H D I h;refine wpAny_Assign_Name (thn (he pins s σ H _ I h) λv s1 ⟨y,H1,I1,r1,q1⟩=>?_) hs;exact kE I1 hN hi hx r1 (λs2 I2=>⟨_,H1,I2,q1⟩) hf
def xw9(i j:Nat)(ta:TA):TS:=λD σ H=>ta σ H λvs H1=>∃v w,vs=[v,w]/\D.nx ((σ.set i (some v)).set j (some w)) H1
def zN8{i j:Nat}{x y:Str}{a b:Expr}{ta:TA}{px py pt:Pos}{kt k2 pt2}(hc:X.calm=true)(hN:X.N.Nodup)(hi:X.N[i]?=some x)(hj:X.N[j]?=some y)(hij:i≠j)
  (hx:X.env.scope.names.lookup x=some .local) (hy:X.env.scope.names.lookup y=some .local) (ha:PA X [a,b] ta)
  (hw:swappedStores [.Tuple [.Name x px,.Name y py] kt pt] (.Tuple [a,b] k2 pt2) X.env=pure (some [x,y]))
  (hs:swapsWithSole [.Tuple [.Name x px,.Name y py] kt pt] (.Tuple [a,b] k2 pt2) pos.line X.env=pure false:=by rfl) :
  PS X (.Assign [.Tuple [.Name x px,.Name y py] kt pt] (.Tuple [a,b] k2 pt2) pos) (xw9 i j ta):=by
 intro pins s σ H D I h;rw[exec_Assign_arm];refine zb (wk ?_);rw[hs];refine zb (zf ?_)
 rw[if_neg w6]
 refine zb (Tuple_ (thn (ha _ pins s σ H _ I h) λus s1 ⟨vs,H1,I1,r1,q1⟩=>?_));obtain⟨v,w,e1,q1⟩:=q1;subst e1
 obtain⟨u1,u2,rfl,rv,rw'⟩:∃u1 u2,us=[u1,u2]/\RelV v u1/\RelV w u2:=by
  cases r1 with
  | cons p q =>
   cases q with
   |cons p' q'=>
    cases q';exact⟨_,_,rfl,p,p'⟩
 refine wf ?_ (by show 2<=sizeLine;decide)
 have I2:Inv X pins σ H1 { s1 with heap:=s1.heap.push { cls:=.type "tuple",data:=.seq [u1,u2].toArray } }:=I1.kept (t':=s1.toks) λb o e=>ze _ e;rw[hw];refine zb (zf ?_)
 show wpAny (model X.prog X.w) X.A (do rule "assign.swapped-stores";let items <- unpackItems (.ref s1.heap.objs.size) 2 none;assignInOrder [λv=>bindName X.env y v,λv=>bindName X.env x v] items.reverse;pure Flow.next) _ _ _
 refine zb (yc (zb (unpackItems_tuple (items:=#[u1,u2]) (I.ok.hd hc) (IsTup.new s1.heap _) λh' hx'=>?_)));have I3:=I2.kept (h':=h') (t':=s1.toks) λb o e=>hx' b o (xa (zA e)) e;show wpAny _ _ (assignInOrder [λv=>bindName X.env y v,λv=>bindName X.env x v] [u2,u1] >>= λ_=>pure Flow.next) _ _ _;refine zb (assignInOrder_cons (wpAny_bindName (kE I3 hN hj (.inl hy) rw' (λs2 I4=>?_) (.inr hy))));refine assignInOrder_cons (wpAny_bindName (kE I4 hN hi (.inl hx) rv (λs3 I5=>assignInOrder_nil (zf ?_)) (.inr hx)));rw[List.set_comm _ _ (Ne.symm hij)] at I5;exact⟨_,H1,I5,q1⟩
def xx5(i:Nat)(te:TE)(ti:TIp):TS:=λD σ H=>∃x,σ[i]?=some (some x)/\te σ H λy H1=>ti x y H1 λz H2=>D.nx (σ.set i (some z)) H2
def zO1{i:Nat}{x:Str}{e:Expr}{te:TE}{op:Operator}{ti:TIp}{pos':Pos}(hN:X.N.Nodup)(hi:X.N[i]?=some x)(hx:Loc X.env.scope x)(he:PE X e te)(ho:PIp X op ti)(hf:X.fn x=true\/X.env.scope.names.lookup x=some .local:=by first |exact .inl rfl |exact .inr rfl |assumption) :
  PS X (.AugAssign (.Name x pos') op e pos) (xx5 i te ti):=by
 intro pins s σ H D I h;obtain⟨v,e1,h⟩:=h;obtain⟨m,hn,hl⟩:=I.loc
 have vis:Vis X.env.scope x:=by rcases hx with k |k;exact .inl k;exact .inr (.inl k)
 obtain⟨u,r,l⟩:=hl i x v hi e1 vis;refine wpAny_AugAssign_Name ?_
 have go:wpAny (model X.prog X.w) X.A (eval e X.env) (λw s₂=>wpAny (model X.prog X.w) X.A (inplaceOp op u w) (λr s₃=>wpAny (model X.prog X.w) X.A (storeName X.env x r) (λ_=>SP X pins D .next) X.xe s₃) X.xe s₂) X.xe s:=by
  refine thn (he pins s σ H _ I h) λw s1 ⟨y,H1,I1,r1,q1⟩=>?_;refine thn (ho pins s1 σ H1 v y u w _ I1 r r1 q1) λz s2 ⟨zv,H2,I2,r2,q2⟩=>?_;exact kE I2 hN hi hx r2 (λs3 I3=>⟨_,H2,I3,q2⟩) hf
 rcases l with ⟨hk,hm⟩ |⟨hk,c,hc,hcell⟩
 ·exact wpAny_loadName_local I.ok.kind hk hn hm go
 ·rcases hk with hk | hk
  ·exact wpAny_loadName_cell I.ok.kind hk hc hcell go
  ·rcases hx with k | k
   ·have:X.env.scope.names.lookup x=some .free:=hk;rw[k] at this;cases this
   ·have:X.env.scope.names.lookup x=some .free:=hk;rw[k] at this;cases this
def ipI(f:Int->Int->Int):TIp:=λx y H Q=>∃i j,x=.int i/\y=.int j/\Q (.int (f i j)) H
def zS8:PIp X .Add (ipI λi j=>i+j):=by
 intro pins s σ H x y v u Q I r1 r2 h;obtain⟨i,j,e1,e2,q⟩:=h;subst e1;subst e2;obtain⟨t,rfl⟩:=r1;obtain⟨t',rfl⟩:=r2;exact iadd_int ⟨.int _,H,I.tok _,⟨_,rfl⟩,q⟩
def zK0(c:TT)(tb:TS):TS:=λD σ H=>∃W:Nat->St->Hp->Prop,(∃m,W m σ H)/\∀m σ H,W m σ H ->
 c σ H λb H1=>if b=true then ∃N:St->Hp->Prop,(∀σ' H',N σ' H'->∃m',m'<m/\W m' σ' H')/\tb { D with nx:=N,ct:=N,bk:=D.nx } σ H1 else D.nx σ H1
def zm3{c:Expr}{body:List Stmt}{tc:TT}{tb:TS}(hp:PassesOwn (model X.prog X.w) X.A X.env X.xe)(hc:PT X c tc)(hb:PSs X body tb):PS X (.While c body [] pos) (zK0 tc tb):=by
 intro pins s σ H D I h;obtain⟨W,⟨m0,w0⟩,turn⟩:=h;refine wpAny_While (codeAny_whileLoop (λn s'=>∃σ' H',Inv X pins σ' H' s'/\W n σ' H') ?_ m0 ⟨σ,H,I,w0⟩);rintro n s1 ⟨σ1,H1,I1,w1⟩;refine yd hp (thn (hc pins s1 σ1 H1 _ I1 (turn n σ1 H1 w1)) λb s2 ⟨H2,I2,q2⟩=>?_)
 cases b with
 | true =>
  obtain⟨N,hN,q2⟩:=q2;rw[if_pos rfl];refine yd hp (thn (hb pins s2 σ1 H2 _ I2 q2) λf s3 q3=>?_)
  cases f with
  |next=>
   obtain⟨σ3,H3,I3,n3⟩:=q3;obtain⟨m',hm,w3⟩:=hN σ3 H3 n3;exact⟨m',hm,σ3,H3,I3,w3⟩
  |cont=>
   obtain⟨σ3,H3,I3,n3⟩:=q3;obtain⟨m',hm,w3⟩:=hN σ3 H3 n3;exact⟨m',hm,σ3,H3,I3,w3⟩
  |brk=>exact q3
  |ret v=>exact q3
 |false=>
  rw[if_neg zQ];exact wpAny_execs_nil ⟨σ1,H2,I2,q2⟩
end
structure It where
 go:Nat->Hp->Prop
 yld:Nat->Hp->V->Hp->Prop
 stop:Nat->Hp->Prop
def FpOk(X:Cx)(pins:List (Addr × Obj))(H:Hp)(b:Addr):Prop:=
 H b=none/\b≠X.env.locals/\b ∉ X.fs/\(b∈X.ex\/X.s₀.heap.objs.size<=b)/\(∀x c,X.env.cells.lookup x=some c->c≠b)/\∀p∈X.pn++pins,p.1≠b
def Inv.fpOk{X:Cx}{pins:List (Addr × Obj)}{σ:St}{H H':Hp}{s:Shared}{b:Addr}(I:Inv X pins σ H s)(hb:s.heap.objs.size<=b)(hn:H' b=none):FpOk X pins H' b:=by
 refine⟨hn,Nat.ne_of_gt (zS I.lt hb),I.nofs hb,.inr (zw I.sz hb),λx c e z=>?_,λp hp z=>?_⟩
 ·obtain ⟨v, q⟩ := I.cell x c e
  exact absurd (zS q.lt (by rw[z];exact hb)) (xD _)
 ·exact absurd (zS (zA (I.pin p hp).1) (by rw[z];exact hb)) (xD _)
structure Turn(P:Program)(w:World)(K:W.Frag)(tg:Expr)(J:It)(fp:List Addr)(it:Addr)(tn:Nat->Heap->Prop):Prop where
 mem:it∈fp
 obj:∀i h,tn i h->∀b∈fp,∃o,h.get? b=some o/\∀v,o.data≠.cell v
 keep:∀i h h',tn i h->(∀b∈fp,∀o,h.get? b=some o->h'.get? b=some o)->tn i h'
 item:∀(X:Cx),X.prog=P->X.w=w->X.K=K->X.calm=true->∀(i:Nat) (pins:List (Addr × Obj)) (s:Shared) (σ:St) (H:Hp) (E:Value->Shared->Prop),Inv X pins σ H s->(∀b∈fp,FpOk X pins H b)->tn i s.heap->J.go i H ->
  wpAny (model P w) X.A (pyNext (.ref it)) (λr s1=>∃u,r=some u /\
   wpAny (model P w) X.A (letOwnedTupleGo tg (.ref it) u) (λ_ s2=>∃x H',Inv X pins σ H' s2/\RelV x u/\J.yld i H x H'/\tn (i+1) s2.heap/\∀b∈fp,H' b=none) E s1) E s
 done:∀(X:Cx),X.prog=P->X.w=w->X.K=K->X.calm=true->∀(i:Nat) (pins:List (Addr × Obj)) (s:Shared) (σ:St) (H:Hp) (E:Value->Shared->Prop),Inv X pins σ H s->(∀b∈fp,FpOk X pins H b)->tn i s.heap->J.stop i H ->
  wpAny (model P w) X.A (pyNext (.ref it)) (λr s1=>r=none/\Inv X pins σ H s1) E s
 self:∀(A:Around) (i:Nat) (s:Shared) (Q:Value->Shared->Prop) (E:Value->Shared->Prop),tn i s.heap->Q (.ref it) s->wpAny (model P w) A (pyIter (.ref it)) Q E s
abbrev TI:=St->Hp->(It->Hp->Prop)->Prop
def PIE(X:Cx)(pins:List (Addr × Obj))(σ:St)(tg:Expr)(R:It->Hp->Prop)(itv:Value)(s2:Shared):Prop:=
 ∃(it:Addr) (fp:List Addr) (tn:Nat->Heap->Prop) (J:It) (H':Hp),itv=.ref it/\Inv X pins σ H' s2/\Turn X.prog X.w X.K tg J fp it tn/\tn 0 s2.heap/\(∀b∈fp,FpOk X pins H' b)/\R J H'
def PI(X:Cx)(tg iter:Expr)(wi:TI):Prop:=
 ∀(pins:List (Addr × Obj)) (s:Shared) (σ:St) (H:Hp) (R:It->Hp->Prop),Inv X pins σ H s->wi σ H R ->
  wpAny (model X.prog X.w) X.A (eval iter X.env) (λv s1=>wpAny (model X.prog X.w) X.A (pyIter v) (PIE X pins σ tg R) X.xe s1) X.xe s
def zG3{M:Model}{A:Around}{E:Value->Shared->Prop}{s:Shared}{tg:Expr}{it:Addr}{u:Value}{o:Obj}{n:String}{vs:Array Value}{Q:Unit->Shared->Prop}(ho:s.heap.get? it=some o)(hc:o.cls=.type n)(hd:o.data=.fields vs)
    (hn:["enumerate","zip","dict_itemiterator","dict_reverseitemiterator","odict_iterator","itertools.zip_longest","itertools.pairwise"].contains n=false) (hQ:Q () s):wpAny M A (letOwnedTupleGo tg (.ref it) u) Q E s:=by
  unfold letOwnedTupleGo
  cases tg <;> first
    |exact zf hQ
    |(cases u<;>first
        |exact zf hQ
        | (refine zb (wpAny_load ho ?_)
           rw[hc,hd]
           show wpAny M A (if (["enumerate","zip","dict_itemiterator","dict_reverseitemiterator","odict_iterator","itertools.zip_longest","itertools.pairwise"].contains n&&vs[0]? == some (rawInt _))=true then _ else _) Q E s
           rw[if_neg (by intro h;rw[hn,Bool.false_and] at h;cases h)]
           exact zf hQ))
def Itl(K:W.Frag)(a:Addr):It:=
 ⟨λi H=>∃xs x,SqL K H a xs/\xs[i]?=some x,λi H x H'=>H'=H/\∀xs,SqL K H a xs->xs[i]?=some x,λi H=>∃xs,SqL K H a xs/\xs.length<=i⟩
def Itt(K:W.Frag)(a:Addr):It:=
 ⟨λi H=>∃xs x,SqT K H a xs/\xs[i]?=some x,λi H x H'=>H'=H/\∀xs,SqT K H a xs->xs[i]?=some x,λi H=>∃xs,SqT K H a xs/\xs.length<=i⟩
def Itr(lo:Int)(n:Nat):It:=⟨λi _=>i<n,λi H x H'=>H'=H/\x=.int (lo+i),λi _=>n<=i⟩
def Qe{P:Program}{w:World}{K:W.Frag}{tg:Expr}(a it:Addr):Turn P w K tg (Itl K a) [it] it (λi h=>h.IsListIter it a i) where
 mem:=by simp
 obj:=λi h st b hb=>by
  have e:b=it:=by simpa using hb
  subst e;obtain⟨o,e,c,d⟩:=st
  exact⟨o,e,λv z=>by rw[d] at z;cases z⟩
 keep:=λi h h' st k=>st.at λo e=>k it (by simp) o e
 item:=by
  intro X hP hw hK hc i pins s σ H E I hf st hg;subst hP hw hK;obtain⟨xs,x,hq,hx⟩:=hg;obtain⟨its,rv,p,hz⟩:=I.list hq;obtain⟨u,hu,ru⟩:=rv.get hx
  obtain⟨f0,f1,f2,f3,f4,f5⟩:=hf it (by simp)
  refine wpAny_pyNext_list_item st p.isList (x:=u) (by simpa using hu) λh' st' sb=>?_
  have I1:Inv X pins σ H { s with heap:=h' }:=I.turned (t':=s.toks) (λb o hb e=>(sb.2 b hb).trans e) f0 f1 f3 f4 f5;obtain⟨o,e,c,d⟩:=id st'
  exact⟨u,rfl,zG3 (s:={ s with heap:=h' }) e c d w6 ⟨x,H,I1,ru,⟨rfl,λys hy=>by rw[I.list_inj hy hq];exact hx⟩,st',λb hb=>(hf b hb).1⟩⟩
 done:=by
  intro X hP hw hK hc i pins s σ H E I hf st hg;subst hP hw hK;obtain⟨xs,hq,hx⟩:=hg;obtain⟨its,rv,p,hz⟩:=I.list hq
  obtain⟨f0,f1,f2,f3,f4,f5⟩:=hf it (by simp)
  have hl:=rv.length
  exact wpAny_pyNext_list_end (I.ok.hd hc) st p.isList (by simp;lia) λh' eb=>⟨rfl,I.turned (t':=s.toks) (λb o hb e=>eb b o hb e) f0 f1 f3 f4 f5⟩
 self:=λ_ _ _ _ _ st h=>wpAny_pyIter_listiter st h
def Jf{P:Program}{w:World}{K:W.Frag}{tg:Expr}(a it:Addr):Turn P w K tg (Itt K a) [it] it (λi h=>h.IsTupleIter it a i) where
 mem:=by simp
 obj:=λi h st b hb=>by
  have e:b=it:=by simpa using hb
  subst e;obtain⟨o,e,c,d⟩:=st
  exact⟨o,e,λv z=>by rw[d] at z;cases z⟩
 keep:=λi h h' st k=>st.at λo e=>k it (by simp) o e
 item:=by
  intro X hP hw hK hc i pins s σ H E I hf st hg;subst hP hw hK;obtain⟨xs,x,hq,hx⟩:=hg;obtain⟨its,rv,p,hz⟩:=I.tuple hq;obtain⟨u,hu,ru⟩:=rv.get hx
  obtain⟨f0,f1,f2,f3,f4,f5⟩:=hf it (by simp)
  refine wpAny_pyNext_tuple_item st (show s.heap.IsTuple a its.toArray from p) (x:=u) (by simpa using hu) λh' st' sb=>?_
  have I1:Inv X pins σ H { s with heap:=h' }:=I.turned (t':=s.toks) (λb o hb e=>(sb.2 b hb).trans e) f0 f1 f3 f4 f5;obtain⟨o,e,c,d⟩:=id st'
  exact⟨u,rfl,zG3 (s:={ s with heap:=h' }) e c d w6 ⟨x,H,I1,ru,⟨rfl,λys hy=>by rw[I.tuple_inj hy hq];exact hx⟩,st',λb hb=>(hf b hb).1⟩⟩
 done:=by
  intro X hP hw hK hc i pins s σ H E I hf st hg;subst hP hw hK;obtain⟨xs,hq,hx⟩:=hg;obtain⟨its,rv,p,hz⟩:=I.tuple hq
  obtain⟨f0,f1,f2,f3,f4,f5⟩:=hf it (by simp)
  have hl:=rv.length
  exact wpAny_pyNext_tuple_end (I.ok.hd hc) st (show s.heap.IsTuple a its.toArray from p) (by simp;lia) λh' eb=>⟨rfl,I.turned (t':=s.toks) (λb o hb e=>eb b o hb e) f0 f1 f3 f4 f5⟩
 self:=λ_ _ _ _ _ st h=>wpAny_pyIter_tupleiter st h
def Jg{P:Program}{w:World}{K:PySem.W.Frag}{tg:Expr}(it:Addr)(lo:Int)(n:Nat):Turn P w K tg (Itr lo n) [it] it (λi h=>IsRangeIter h it (lo+(i:Nat)*1) ((n:Int)-(i:Nat)) 1) where
 mem:=by simp
 obj:=λi h st b hb=>by
  have e:b=it:=by simpa using hb
  subst e
  exact⟨_,st,λv z=>by
   have z':Data.fields _=Data.cell v:=z
   cases z'⟩
 keep:=λi h h' st k=>k it (by simp) _ st
 item:=by
  intro X hP hw hK hc i pins s σ H E I hf st hg;subst hP hw hK
  obtain⟨f0,f1,f2,f3,f4,f5⟩:=hf it (by simp)
  have W:=Walks.range (prog:=X.prog) (w:=X.w) (I.ok.hd hc) it lo 1 n;refine W.item i s _ _ hg st λv h' tk hv st' kk=>?_;obtain⟨t,rfl⟩:=hv
  have I1:Inv X pins σ H { s with heap:=h',toks:=tk }:=I.turned (λb o hb e=>kk b o (by simpa using hb) e) f0 f1 f3 f4 f5
  refine⟨_,rfl,zG3 (s:={ s with heap:=h',toks:=tk }) (n := "range_iterator") st' rfl rfl w6 ⟨.int (lo+i),H,I1,⟨t,?_⟩,⟨rfl,rfl⟩,st',λb hb=>(hf b hb).1⟩⟩
  rw[Int.mul_one]
 done:=by
  intro X hP hw hK hc i pins s σ H E I hf st hg;subst hP hw hK
  obtain⟨f0,f1,f2,f3,f4,f5⟩:=hf it (by simp)
  exact wpAny_pyNext_range_end (I.ok.hd hc) st (by have:n<=i:=hg;lia) λh' eb=>⟨rfl,I.turned (t':=s.toks) (λb o hb e=>eb b o hb e) f0 f1 f3 f4 f5⟩
 self:=λ_ _ _ _ _ st h=>wpAny_pyIter_rangeiter st h
section
variable {X:Cx}{tg:Expr}
def zl8{pins:List (Addr × Obj)}{σ:St}{H:Hp}{s:Shared}{R:It->Hp->Prop}{E:Value->Shared->Prop}{lo hi:Int}{t u v:Tok}{tk:Nat}(I:Inv X pins σ H s)(h1:-(2^62)<=lo)(h2:lo<2^62)(h3:-(2^62)<=hi)(h4:hi<2^62)
  (q:R (Itr lo (hi-lo).toNat) H):wpAny (model X.prog X.w) X.A (pyIter (.ref s.heap.objs.size)) (PIE X pins σ tg R) E { s with heap:=s.heap.push { cls:=.type "range",data:=.fields #[.int lo t,.int hi u,.int 1 v] },toks:=tk }:=by
 refine wpAny_pyIter_range (IsRange.new ..) (small_one h1 h2 h3 h4) ?_;have I1:Inv X pins σ H { s with heap:=s.heap.push { cls:=.type "range",data:=.fields #[.int lo t,.int hi u,.int 1 v] },toks:=tk }:=I.kept λb o e=>ze _ e
 refine⟨(s.heap.push { cls:=.type "range",data:=.fields #[.int lo t,.int hi u,.int 1 v] }).objs.size,[(s.heap.push { cls:=.type "range",data:=.fields #[.int lo t,.int hi u,.int 1 v] }).objs.size],_,_,H,rfl,
  I1.kept (t':=tk) λb o e=>ze _ e,Jg _ lo (hi-lo).toNat,?_,λb hb=>?_,q⟩
 ·have e1 : lo + ((0 : Nat) : Int) * 1 = lo := by simp
  have e2:(((hi-lo).toNat:Nat):Int)-((0:Nat):Int)=Builtin.Range.rangeSize lo hi 1:=by rw[rangeSize_one];split<;>lia
  show IsRangeIter _ _ (lo+((0:Nat):Int)*1) ((((hi-lo).toNat:Nat):Int)-((0:Nat):Int)) 1;rw[e1,e2];exact zD _ rfl
 ·have e : b = (s.heap.push { cls := .type "range", data := .fields #[.int lo t, .int hi u, .int 1 v] }).objs.size := by simpa using hb
  subst e;exact I1.fpOk (zd _) (I1.hok.fresh (zd _))
def xn7(ta:TA):TI:=λσ H R=>ta σ H λvs H1=>∃j:Int,vs=[.int j]/\-(2^62)<=j/\j<2^62/\R (Itr 0 j.toNat) H1
def QV{a:Expr}{ta:TA}{p pos:Pos}(hg:Gl X "range")(hm:X.mg "range" = none)(ha:PA X [a] ta)(hs:starEach [a] X.env=[(false,eval a X.env)]:=by rfl):PI X tg (.Call (.Name "range" p) [a] [] pos) (xn7 ta):=by
 intro pins s σ H R I h;refine Call_ (WQ I hg hm boot_range (PyProof.Rows.callWith_type1 (thn (ha pos pins s σ H _ I h) λus s1 ⟨vs,H1,I1,r1,q1⟩=>?_) hs rfl));obtain⟨j,e,q1,q2,q⟩:=q1;subst e
 cases r1 with
 |cons r rr=>
  cases rr;obtain⟨t,rfl⟩:=r
  exact call_range_1 (zl8 I1 w5 w5 q1 q2 (by simpa using q))
def xx2(wi:TI)(g:TG)(tb:TS):TS:=λD σ H=>wi σ H λJ H1=>∃W:Nat->Nat->St->Hp->Prop,(∃m,W 0 m σ H1)/\∀i m σ H,W i m σ H ->
 (J.stop i H/\D.nx σ H)\/(J.go i H/\∃N:St->Hp->Prop,(∀σ' H',N σ' H'->∃m',m'<m/\W (i+1) m' σ' H')/\∀x H',J.yld i H x H'->g x σ H' λσ2 H2=>tb { D with nx:=N,ct:=N,bk:=D.nx } σ2 H2)
def qu(fp:List Addr)(h:Heap):List (Addr × Obj):=fp.filterMap λb=>(h.get? b).map λo=>(b,o)
def yW{fp:List Addr}{h:Heap}{b:Addr}{o:Obj}(hb:b∈fp)(e:h.get? b=some o):(b,o)∈qu fp h:=List.mem_filterMap.mpr ⟨b,hb,by rw[e];rfl⟩
def WH{fp:List Addr}{h:Heap}{p:Addr × Obj}(hp:p∈qu fp h):p.1∈fp/\h.get? p.1=some p.2:=by
 obtain⟨b,hb,e⟩:=List.mem_filterMap.mp hp
 cases q:h.get? b with
 |none=>rw[q] at e;cases e
 |some o=>
  rw[q] at e;have e':(b,o)=p:=zF e;subst e';exact⟨hb,q⟩
def Inv.pinned{pins:List (Addr × Obj)}{σ:St}{H:Hp}{s:Shared}{fp:List Addr}(I:Inv X pins σ H s)(hf:∀b∈fp,FpOk X pins H b)(ho:∀b∈fp,∃o,s.heap.get? b=some o/\∀v,o.data≠.cell v):Inv X (pins++qu fp s.heap) σ H s:=
 I.pins_of λp hp=>(zN.mp hp).elim (λz=>I.pin p (zr _ z)) λz=>by
  obtain⟨hb,e⟩:=WH z;obtain⟨f0,f1,f2,_⟩:=hf p.1 hb;obtain⟨o,e',d⟩:=ho p.1 hb;rw[e] at e';cases e';exact⟨e,f0,f1,f2,d⟩
def Inv.unpinned{pins pl:List (Addr × Obj)}{σ:St}{H:Hp}{s:Shared}(I:Inv X (pins++pl) σ H s):Inv X pins σ H s:=I.pins_of λp hp=>I.pin p (zr _ (xf _ hp))
def zN9{iter:Expr}{body:List Stmt}{wi:TI}{g:TG}{tb:TS}{pos:Pos}(hp:PassesOwn (model X.prog X.w) X.A X.env X.xe)(hc:X.calm=true)(hi:PI X tg iter wi)(hg:PG X tg g)(hb:PSs X body tb)
  (hs:∀x,foldedSetIterable iter X.env x=pure x:=by intro _;rfl):PS X (.For tg iter body [] pos) (xx2 wi g tb):=by
 intro pins s σ H D I h;refine wpAny_For (thn (hi pins s σ H _ I h) λv s1 h1=>thn h1 λitv s2 h2=>?_) hs;obtain⟨it,fp,tn,J,H2,e,I2,T,st2,f2,W,⟨m0,w0⟩,turn⟩:=h2;subst e;have stat:∀{H':Hp},(∀b∈fp,H' b=none)->∀b∈fp,FpOk X pins H' b:=λhn b hb=>⟨hn b hb,(f2 b hb).2⟩;refine codeAny_forLoop_any (λn s'=>∃i σ' H',Inv X pins σ' H' s'/\tn i s'.heap/\(∀b∈fp,H' b=none)/\W i n σ' H') ?_ m0 ⟨0,σ,H2,I2,st2,λb hb=>(f2 b hb).1,w0⟩;rintro n s3 ⟨i,σ3,H3,I3,st3,fr3,w3⟩
 rcases turn i n σ3 H3 w3 with ⟨stop,qn⟩ |⟨go,N,hN,step⟩
 ·refine yd hp (thn (T.done X rfl rfl rfl hc i pins s3 σ3 H3 X.xe I3 (stat fr3) st3 stop) λr s4 ⟨hr,I4⟩=>?_);subst hr;exact wpAny_execs_nil ⟨σ3,H3,I4,qn⟩
 ·refine yd hp (thn (T.item X rfl rfl rfl hc i pins s3 σ3 H3 X.xe I3 (stat fr3) st3 go) λr s4 ⟨u, hr, h4⟩ => ?_);subst hr;refine yd hp (thn h4 λ_ s5 ⟨x,H5,I5,r5,y5,st5,fr5⟩=>?_);have I5':=I5.pinned (stat fr5) (T.obj _ _ st5);refine yd hp (thn (hg _ s5 σ3 H5 x u _ I5' r5 (step x H5 y5)) λ_ s6 ⟨σ6,H6,I6,q6⟩=>?_);refine yd hp (thn (hb _ s6 σ6 H6 _ I6 q6) λf s7 q7=>?_)
  have again:∀{σ7:St}{H7:Hp},Inv X (pins++qu fp s5.heap) σ7 H7 s7->N σ7 H7->∃m,m<n/\∃i σ' H',Inv X pins σ' H' s7/\tn i s7.heap/\(∀b∈fp,H' b=none)/\W i m σ' H':=λ{σ7 H7} I7 n7=>by
   obtain⟨m',hm,w7⟩:=hN σ7 H7 n7;refine⟨m',hm,i+1,σ7,H7,I7.unpinned,T.keep _ _ _ st5 λb hb o e=>(I7.pin (b,o) (zr _ (zr _ (yW hb e)))).1,λb hb=>?_,w7⟩;obtain⟨o,e,d⟩:=T.obj _ _ st5 b hb;exact(I7.pin (b,o) (zr _ (zr _ (yW hb e)))).2.1
  cases f with
  |next=>obtain⟨σ7,H7,I7,n7⟩:=q7;exact again I7 n7
  |cont=>obtain⟨σ7,H7,I7,n7⟩:=q7;exact again I7 n7
  |brk=>obtain⟨σ7,H7,I7,q7⟩:=q7;exact⟨σ7,H7,I7.unpinned,q7⟩
  |ret v=>obtain⟨x7,σ7,H7,I7,r7,q7⟩:=q7;exact⟨x7,σ7,H7,I7.unpinned,r7,q7⟩
end
abbrev R2:=V->V->Hp->VK->Prop
def OpR(X:Cx)(f:Value->Value->Sem Value)(r:R2):Prop:=
 ∀(pins:List (Addr × Obj)) (s:Shared) (σ:St) (H:Hp) (x y:V) (v u:Value) (Q:VK),Inv X pins σ H s->RelV x v->RelV y u->r x y H Q ->
  wpAny (model X.prog X.w) X.A (f v u) (EP X pins σ Q) X.xe s
def UnR(X:Cx)(f:Value->Sem Value)(r:V->Hp->VK->Prop):Prop:=
 ∀(pins:List (Addr × Obj)) (s:Shared) (σ:St) (H:Hp) (x:V) (v:Value) (Q:VK),Inv X pins σ H s->RelV x v->r x H Q ->
  wpAny (model X.prog X.w) X.A (f v) (EP X pins σ Q) X.xe s
def qw(X:Cx)(f:Value)(r:List V->Hp->VK->Prop):Prop:=
 ∀(pins:List (Addr × Obj)) (s:Shared) (σ:St) (H:Hp) (xs:List V) (us:List Value) (Q:VK),Inv X pins σ H s->Vals xs us->r xs H Q ->
  wpAny (model X.prog X.w) X.A (call f us) (EP X pins σ Q) X.xe s
def tOp(r:R2)(ta tb:TE):TE:=λσ H Q=>ta σ H λx H1=>tb σ H1 λy H2=>r x y H2 Q
def tUn(r:V->Hp->VK->Prop)(ta:TE):TE:=λσ H Q=>ta σ H λx H1=>r x H1 Q
def rI(C:Int->Int->Prop)(g:Int->Int->V):R2:=λx y H Q=>∃i j,x=.int i/\y=.int j/\C i j/\Q (g i j) H
def rI0(g:Int->Int->V):R2:=λx y H Q=>∃i j,x=.int i/\y=.int j/\Q (g i j) H
def rU(g:Int->V):V->Hp->VK->Prop:=λx H Q=>∃i,x=.int i/\Q (g i) H
section
variable {X:Cx}{a b c:Expr}{ta tb tc:TE}{pos:Pos}
def xo6(ha:PE X a ta)(hb:PE X b tb){pins:List (Addr × Obj)}{s:Shared}{σ:St}{H:Hp}{R:V->V->Hp->Prop}(I:Inv X pins σ H s)
  (h:ta σ H λx H1=>tb σ H1 λy H2=>R x y H2) {Q:Value->Shared->Prop}{f:Value->Value->Sem Value}
  (hf:∀v u s2 x y H2,Inv X pins σ H2 s2->RelV x v->RelV y u->R x y H2->wpAny (model X.prog X.w) X.A (f v u) Q X.xe s2) :
  wpAny (model X.prog X.w) X.A (eval a X.env) (λv s₁=>wpAny (model X.prog X.w) X.A (eval b X.env) (λu s₂=>wpAny (model X.prog X.w) X.A (f v u) Q X.xe s₂) X.xe s₁) X.xe s:=by
 refine thn (ha pins s σ H _ I h) λv s1 ⟨x,H1,I1,r1,q1⟩=>?_;refine thn (hb pins s1 σ H1 _ I1 q1) λu s2 ⟨y,H2,I2,r2,q2⟩=>?_;exact hf v u s2 x y H2 I2 r1 r2 q2
def xl5{op:Operator}{r:R2}(ho:OpR X (binaryOp op) r)(ha:PE X a ta)(hb:PE X b tb):PE X (.BinOp a op b pos) (tOp r ta tb):=by
 intro pins s σ H Q I h;exact wpAny_BinOp (xo6 ha hb I h λv u s2 x y H2 I2 rx ry q=>ho pins s2 σ H2 x y v u Q I2 rx ry q)
def zO4{op:UnaryOp}{r:V->Hp->VK->Prop}(ho:UnR X (unaryOp op) r)(ha:PE X a ta):PE X (.UnaryOp op a pos) (tUn r ta):=by
 intro pins s σ H Q I h;exact UnaryOp_ (thn (ha pins s σ H _ I h) λv s1 ⟨x,H1,I1,r1,q1⟩=>ho pins s1 σ H1 x v Q I1 r1 q1)
def opI{f:Value->Value->Sem Value}{C:Int->Int->Prop}{g:Int->Int->Int}
  (rule:∀(i j:Int) (t u:Tok) (s:Shared) (Q:Value->Shared->Prop) (E:Value->Shared->Prop),C i j->Q (.int (g i j) s.toks) { s with toks:=s.toks+1 }->wpAny (model X.prog X.w) X.A (f (.int i t) (.int j u)) Q E s) :
  OpR X f (rI C λi j=>.int (g i j)):=by
 intro pins s σ H x y v u Q I rx ry h;obtain⟨i,j,rfl,rfl,hc,q⟩:=h;obtain⟨t,rfl⟩:=rx;obtain⟨t',rfl⟩:=ry;exact rule i j t t' s _ _ hc ⟨.int (g i j),H,I.tok _,⟨_,rfl⟩,q⟩
def xu6{f:Value->Value->Sem Value}{g:Int->Int->Int}
  (rule:∀(i j:Int) (t u:Tok) (s:Shared) (Q:Value->Shared->Prop) (E:Value->Shared->Prop),Q (.int (g i j) s.toks) { s with toks:=s.toks+1 }->wpAny (model X.prog X.w) X.A (f (.int i t) (.int j u)) Q E s) :
  OpR X f (rI0 λi j=>.int (g i j)):=by
 intro pins s σ H x y v u Q I rx ry h;obtain⟨i,j,rfl,rfl,q⟩:=h;obtain⟨t,rfl⟩:=rx;obtain⟨t',rfl⟩:=ry;exact rule i j t t' s _ _ ⟨.int (g i j),H,I.tok _,⟨_,rfl⟩,q⟩
def xm2{f:Value->Value->Sem Value}{g:Int->Int->Bool}
  (rule:∀(i j:Int) (t u:Tok) (s:Shared) (Q:Value->Shared->Prop) (E:Value->Shared->Prop),Q (.bool (g i j)) s->wpAny (model X.prog X.w) X.A (f (.int i t) (.int j u)) Q E s) :
  OpR X f (rI0 λi j=>.bl (g i j)):=by
 intro pins s σ H x y v u Q I rx ry h;obtain⟨i,j,rfl,rfl,q⟩:=h;obtain⟨t,rfl⟩:=rx;obtain⟨t',rfl⟩:=ry;exact rule i j t t' s _ _ ⟨.bl (g i j),H,I,rfl,q⟩
def xw3(i j:Int):Prop:=0<j/\j<1073741824
def xw2(i j:Int):Prop:=0<=j/\j<=1000000/\i.natAbs<2^64
def CMul(i j:Int):Prop:=(-(2^64)<i/\i<2^64)\/(-(2^64)<j/\j<2^64)
def CMul.ok{i j:Int}(h:CMul i j):IntMulOk i j:=by
 rcases h with ⟨h1,h2⟩ |⟨h1,h2⟩
 ·exact .of_left (intBits_le_64 h1 h2)
 ·exact .of_right (intBits_le_64 h1 h2)
def zP8:OpR X (binaryOp .Add) (rI0 λi j=>.int (i+j)):=xu6 λ_ _ _ _ _ _ _ q=>add_int q
def zP3:OpR X (binaryOp .Sub) (rI0 λi j=>.int (i-j)):=xu6 λ_ _ _ _ _ _ _ q=>sub_int q
def zP5:OpR X (binaryOp .Mult) (rI CMul λi j=>.int (i*j)):=opI λ_ _ _ _ _ _ _ hc q=>mul_int q hc.ok
def zD0:OpR X (binaryOp .FloorDiv) (rI xw3 λi j=>.int (i/j)):=opI λi j _ _ _ _ _ hc q=>by
 have h1:(0:Int)<j:=hc.1;have h2:j<1073741824:=hc.2
 exact floordiv_int w5 (by rw[Int.fdiv_eq_ediv_of_nonneg i w5];exact q) (.inl (PyProof.noPylong_small w5))
def zP6:OpR X (binaryOp .Mod) (rI (λ_ j=>0<j) λi j=>.int (i%j)):=opI λi j _ _ _ _ _ hc q=>by
 have h1:(0:Int)<j:=hc
 exact mod_int' w5 (by rw[Int.fmod_eq_emod_of_nonneg i w5];exact q)
def zP4:OpR X (binaryOp .Pow) (rI xw2 λi j=>.int (i^j.toNat)):=opI λ_ _ _ _ _ _ _ hc q=>pow_int_small hc.1 hc.2.1 hc.2.2 q
def unI{f:Value->Sem Value}{g:Int->Int}
  (rule:∀(i:Int) (t:Tok) (s:Shared) (Q:Value->Shared->Prop) (E:Value->Shared->Prop),Q (.int (g i) s.toks) { s with toks:=s.toks+1 }->wpAny (model X.prog X.w) X.A (f (.int i t)) Q E s) :
  UnR X f (rU λi=>.int (g i)):=by
 intro pins s σ H x v Q I rx h;obtain⟨i,rfl,q⟩:=h;obtain⟨t,rfl⟩:=rx;exact rule i t s _ _ ⟨.int (g i),H,I.tok _,⟨_,rfl⟩,q⟩
def zs3:UnR X (unaryOp .USub) (rU λi=>.int (-i)):=unI λ_ _ _ _ _ q=>neg_int q
end
def zV9:V->V->Bool
 |.non,.non=>true |.non,.int _=>true |.int _,.non=>true |.non,.bl _=>true |.bl _,.non=>true |.non,.str _=>true |.str _,.non=>true
 |.int _,.int _=>true |.bl _,.bl _=>true |.str _,.str _=>true |.byt _,.byt _=>true
 |.int _,.str _=>true |.str _,.int _=>true |.bl _,.str _=>true |.str _,.bl _=>true
 |_,_=>false
def rEq:R2:=λx y H Q=>zV9 x y=true/\Q (.bl (decide (x=y))) H
def rNe:R2:=λx y H Q=>zV9 x y=true/\Q (.bl (!decide (x=y))) H
def zf4{i j:Int}:decide (V.int i=V.int j)=(i == j):=by
 rw[Bool.eq_iff_iff];simp
def zv8{i j:Bool}:decide (V.bl i=V.bl j)=(i == j):=by
 rw[Bool.eq_iff_iff];simp
def zf3{i j:Str}:decide (V.str i=V.str j)=(i == j):=by
 rw[Bool.eq_iff_iff];simp
def zf5{i j:Array UInt8}:decide (V.byt i=V.byt j)=(i.toList == j.toList):=by
 rw[Bool.eq_iff_iff];cases i;cases j;simp
section
variable {X:Cx}{a b c:Expr}{ta tb tc:TE}{pos:Pos}
def yI{pins:List (Addr × Obj)}{σ:St}{H:Hp}{s:Shared}{Q:VK}{k k':Bool}(I:Inv X pins σ H s)(q:Q (.bl k) H)(e:k=k'):EP X pins σ Q (.bool k') s:=by
 subst e;exact⟨.bl k,H,I,rfl,q⟩
def VW:OpR X (compareOp .Eq) rEq:=by
 intro pins s σ H x y v u Q I rx ry h;obtain⟨hs,q⟩:=h
 cases x with
 |non=>
  cases rx
  cases y with
  |non=>cases ry;exact PySem.EqNone.eq_none_none (yI I q (by simp))
  |bl j=>cases ry;exact PySem.EqNone.eq_none_bool (yI I q (by simp))
  |int j=>obtain⟨t',rfl⟩:=ry;exact PySem.EqNone.eq_none_int (yI I q (by simp))
  |str j=>obtain⟨t',rfl⟩:=ry;exact PySem.EqNone.eq_none_str (yI I q (by simp))
  |_=>exact absurd (show false=true from hs) zQ
 |bl i=>
  cases rx
  cases y with
  |non=>cases ry;exact PySem.EqNone.eq_bool_none (yI I q (by simp))
  |bl j=>cases ry;exact eq_bool (yI I q zv8)
  |str j=>obtain⟨t',rfl⟩:=ry;exact PySem.EqMixed.eq_bool_str (yI I q (by simp))
  |_=>exact absurd (show false=true from hs) zQ
 |int i=>
  obtain⟨t,rfl⟩:=rx
  cases y with
  |non=>cases ry;exact PySem.EqNone.eq_int_none (yI I q (by simp))
  |int j=>obtain⟨t',rfl⟩:=ry;exact eq_int (yI I q zf4)
  |str j=>obtain⟨t',rfl⟩:=ry;exact PySem.EqMixed.eq_int_str (yI I q (by simp))
  |_=>exact absurd (show false=true from hs) zQ
 |str i=>
  obtain⟨t,rfl⟩:=rx
  cases y with
  |non=>cases ry;exact PySem.EqNone.eq_str_none (yI I q (by simp))
  |bl j=>cases ry;exact PySem.EqMixed.eq_str_bool (yI I q (by simp))
  |int j=>obtain⟨t',rfl⟩:=ry;exact PySem.EqMixed.eq_str_int (yI I q (by simp))
  |str j=>obtain⟨t',rfl⟩:=ry;exact eq_str (yI I q zf3)
  |_=>exact absurd (show false=true from hs) zQ
 |byt i=>
  obtain⟨t,rfl⟩:=rx
  cases y with
  |byt j=>obtain⟨t',rfl⟩:=ry;exact W.eq_bytes (yI I q zf5)
  |_=>exact absurd (show false=true from hs) zQ
 |_=>cases y<;>exact absurd (show false=true from hs) zQ
def xl9:OpR X (compareOp .NotEq) rNe:=by
 intro pins s σ H x y v u Q I rx ry h;obtain⟨hs,q⟩:=h
 cases x with
 |non=>
  cases rx
  cases y with
  |non=>cases ry;exact PySem.EqNone.ne_none_none (yI I q (by simp))
  |bl j=>cases ry;exact PySem.EqNone.ne_none_bool (yI I q (by simp))
  |int j=>obtain⟨t',rfl⟩:=ry;exact PySem.EqNone.ne_none_int (yI I q (by simp))
  |str j=>obtain⟨t',rfl⟩:=ry;exact PySem.EqNone.ne_none_str (yI I q (by simp))
  |_=>exact absurd (show false=true from hs) zQ
 |bl i=>
  cases rx
  cases y with
  |non=>cases ry;exact PySem.EqNone.ne_bool_none (yI I q (by simp))
  |bl j=>cases ry;exact ne_bool (yI I q (congrArg not zv8))
  |str j=>obtain⟨t',rfl⟩:=ry;exact PySem.EqMixed.ne_bool_str (yI I q (by simp))
  |_=>exact absurd (show false=true from hs) zQ
 |int i=>
  obtain⟨t,rfl⟩:=rx
  cases y with
  |non=>cases ry;exact PySem.EqNone.ne_int_none (yI I q (by simp))
  |int j=>obtain⟨t',rfl⟩:=ry;exact ne_int (yI I q (congrArg not zf4))
  |str j=>obtain⟨t',rfl⟩:=ry;exact PySem.EqMixed.ne_int_str (yI I q (by simp))
  |_=>exact absurd (show false=true from hs) zQ
 |str i=>
  obtain⟨t,rfl⟩:=rx
  cases y with
  |non=>cases ry;exact PySem.EqNone.ne_str_none (yI I q (by simp))
  |bl j=>cases ry;exact PySem.EqMixed.ne_str_bool (yI I q (by simp))
  |int j=>obtain⟨t',rfl⟩:=ry;exact PySem.EqMixed.ne_str_int (yI I q (by simp))
  |str j=>obtain⟨t',rfl⟩:=ry;exact ne_str (yI I q (congrArg not zf3))
  |_=>exact absurd (show false=true from hs) zQ
 |byt i=>
  obtain⟨t,rfl⟩:=rx
  cases y with
  |byt j=>obtain⟨t',rfl⟩:=ry;exact W.ne_bytes (yI I q (congrArg not zf5))
  |_=>exact absurd (show false=true from hs) zQ
 |_=>cases y<;>exact absurd (show false=true from hs) zQ
def xm0:OpR X (compareOp .Lt) (rI0 λi j=>.bl (decide (i<j))):=xm2 λ_ _ _ _ _ _ _ q=>lt_int q
def VV:OpR X (compareOp .Gt) (rI0 λi j=>.bl (decide (j<i))):=xm2 λ_ _ _ _ _ _ _ q=>gt_int q
def xm1:OpR X (compareOp .GtE) (rI0 λi j=>.bl (decide (j<=i))):=xm2 λ_ _ _ _ _ _ _ q=>ge_int q
def vb(b:Expr){op:CmpOp}(h:op≠.In:=by decide)(h2:op≠.NotIn:=by decide):behindInMarks op b=false:=by
 have e1:(op == CmpOp.In)=false:=by cases op<;>first |rfl |exact absurd rfl h
 have e2:(op == CmpOp.NotIn)=false:=by cases op<;>first |rfl |exact absurd rfl h2
 cases b<;>simp[behindInMarks,e1,e2]
def QX{op:CmpOp}{r:R2}(ho:OpR X (compareOp op) r)(ha:PE X a ta)(hb:PE X b tb)(hm:behindInMarks op b=false):PE X (.Compare a [op] [b] pos) (tOp r ta tb):=by
 intro pins s σ H Q I h;exact wpAny_Compare1 (xo6 ha hb I h λv u s2 x y H2 I2 rx ry q=>ho pins s2 σ H2 x y v u Q I2 rx ry q) hm
def zK1(t:TE):TT:=λσ H Q=>t σ H λx H'=>∃k,x=.bl k/\Q k H'
def VM{op:CmpOp}{r:R2}(ho:OpR X (compareOp op) r)(ha:PE X a ta)(hb:PE X b tb)(hm:behindInMarks op b=false):PT X (.Compare a [op] [b] pos) (zK1 (tOp r ta tb)):=by
 intro pins s σ H Q I h
 refine wpAny_isTrue_Compare1 (thn (ha pins s σ H _ I h) λv s1 ⟨x,H1,I1,r1,q1⟩=>thn (hb pins s1 σ H1 _ I1 q1) λu s2 ⟨y,H2,I2,r2,q2⟩=>
  thn (ho pins s2 σ H2 x y v u _ I2 r1 r2 q2) λc s3 ⟨z,H3,I3,r3,k,e,q3⟩=>?_) hm
 subst e;cases r3;exact wpAny_truthy_bool ⟨H3,I3,q3⟩
def WO:(sizeLine:Nat)<2^63:=by rw[sizeLine_eq];decide
def Js:OpR X (binaryOp .Add) (λx y H Q=>∃i j,x=.str i/\y=.str j/\i.length+j.length<=sizeLine/\Q (.str (i++j)) H):=by
 intro pins s σ H x y v u Q I rx ry h;obtain⟨i,j,rfl,rfl,hz,q⟩:=h;obtain⟨t,rfl⟩:=rx;obtain⟨t',rfl⟩:=ry;exact add_str (λt' tk=>⟨.str (i++j),H,I.tok _,⟨_,rfl⟩,q⟩) hz
def YC{x:V}{us:List Value}(r:Vals [x] us):∃u,us=[u]/\RelV x u:=by
 cases r with
 |cons r1 r2=>cases r2;exact⟨_,rfl,r1⟩
def zJ4{x y:V}{us:List Value}(r:Vals [x,y] us):∃u w',us=[u,w']/\RelV x u/\RelV y w':=by
 cases r with
 |cons r1 r2=>
  cases r2 with
  |cons r3 r4=>cases r4;exact⟨_,_,rfl,r1,r3⟩
def KW:qw X (.builtin "abs") (λxs H Q=>∃i,xs=[.int i]/\Q (.int (if i<0 then -i else i)) H):=by
 intro pins s σ H xs us Q I r h;obtain⟨i,rfl,q⟩:=h;obtain⟨u,rfl,t,rfl⟩:=YC r
 exact call_abs_int λu tk=>⟨.int (if i<0 then -i else i),H,I.tok _,⟨_,rfl⟩,q⟩
def Vg(hc:X.calm=true):qw X (.builtin "max") (λxs H Q=>∃i j,xs=[.int i,.int j]/\Q (.int (if j > i then j else i)) H):=by
 intro pins s σ H xs us Q I r h;obtain⟨i,j,rfl,q⟩:=h;obtain⟨u,w',rfl,⟨t,rfl⟩,⟨t',rfl⟩⟩:=zJ4 r;refine max_two_ints (I.ok.hd hc) λh' tk k=>⟨_,H,I.kept k,?_,q⟩
 by_cases hj:j > i
 ·rw[if_pos hj,if_pos hj];exact⟨_,rfl⟩
 ·rw[if_neg hj,if_neg hj];exact⟨_,rfl⟩
def Vf(hc:X.calm=true):qw X (.builtin "min") (λxs H Q=>∃i j,xs=[.int i,.int j]/\Q (.int (if j<i then j else i)) H):=by
 intro pins s σ H xs us Q I r h;obtain⟨i,j,rfl,q⟩:=h;obtain⟨u,w',rfl,⟨t,rfl⟩,⟨t',rfl⟩⟩:=zJ4 r;refine min_two_ints (I.ok.hd hc) λh' tk k=>⟨_,H,I.kept k,?_,q⟩
 by_cases hj:j<i
 ·rw[if_pos hj,if_pos hj];exact⟨_,rfl⟩
 ·rw[if_neg hj,if_neg hj];exact⟨_,rfl⟩
def Vj:qw X (.type "int") (λxs H Q=>(∃i,xs=[.int i]/\Q (.int i) H)\/∃k,xs=[.bl k]/\Q (.int (if k then 1 else 0)) H):=by
 intro pins s σ H xs us Q I r h
 rcases h with ⟨i,rfl,q⟩ |⟨k,rfl,q⟩
 ·obtain⟨u,rfl,t,rfl⟩:=YC r;exact call_int_int ⟨.int i,H,I,⟨_,rfl⟩,q⟩
 ·obtain ⟨u, rfl, r1⟩ := YC r;cases r1
  exact call_int_bool ⟨.int (if k then 1 else 0),H,I.tok _,⟨_,rfl⟩,q⟩
end
structure ObjM(h:Heap)(x dx C:Addr)(mA:Str->Option Value):Prop where
 obj:h.get? x=some (W.instObj C dx)
 ns:h.Ns1 dx mA
 ne:dx≠x
def zc0{h:Heap}{dx:Addr}{mA:Str->Option Value}(n:h.Ns1 dx mA):∃od,h.get? dx=some od/\∀name,W.lookIn name od=some (mA name):=by
 obtain⟨o,es,ep,ho,hd,hk,_,hm⟩:=n;refine⟨o,ho,λname=>?_⟩;have e:=hm name;unfold nsFind findBy at e;rw[<- Array.find?_toList] at e;unfold W.lookIn;rw[hd];dsimp only
 split
 ·rename_i y q;rw[q] at e;exact congrArg some e
 ·rename_i q;rw[q] at e
  have a:es.toList.any (·.refKey)=false:=by
   rw[List.any_eq_false];intro y hy;obtain⟨z,t,hkey⟩:=hk y (Array.mem_toList_iff.mp hy);simp[DictEntry.refKey,hkey]
  have a':¬ es.toList.any (·.refKey)=true:=by rw[a];exact zQ
  rw[if_neg a'];exact congrArg some e
def ObjM.look{h:Heap}{x dx C:Addr}{mA:Str->Option Value}(I:ObjM h x dx C mA):∃od,W.InstAt h x (W.instObj C dx) C (some od)/\∀name,W.lookIn name od=some (mA name):=
 let ⟨od,ho,hl⟩:=zc0 I.ns
 ⟨od,⟨I.obj,rfl,rfl,ho⟩,hl⟩
section
variable {prog:Program}{w:World}{A:Around}{E:Value->Shared->Prop}{s:Shared}{K:W.Frag}{x dx C f:Addr}{mA:Str->Option Value}{name:Str}{v:Value}
def zG4{expr:Bool}{Q:Value->Shared->Prop}(X:K.In s.heap)(I:ObjM s.heap x dx C mA)(hg:W.plainGet K C name=true)(hh:W.hasDictIn K C=true)
  (ha:W.findIn K (.ref C) name=some none) (hv:mA name=some v) (hv':W.handedIn v=true) (h:Q v { s with toks:=s.toks+1 }) :
  wpAny (model prog w) A (getAttr (.ref x) name expr) Q E s:=by
 obtain⟨od,J,hl⟩:=I.look
 exact W.get_value X J (W.plainGet_of hg).1 (W.findObj_own hh ha rfl (by rw[hl,hv])) hv' h
def zq0{pl:Sem Bool}{Q:Value × List Value->Shared->Prop}(X:K.In s.heap)(I:ObjM s.heap x dx C mA)(hg:W.plainGet K C name=true)
  (hf:W.findIn K (.ref C) name=some (some (.ref f))) (ht:W.isFn K (.ref f)=true) (hv:mA name=none) (h:Q (.ref f,[.ref x]) s) :
  wpAny (model prog w) A (getMethod (.ref x) name pl) Q E s:=by
 obtain⟨od,J,hl⟩:=I.look
 exact W.method_fn X J (W.plainGet_of hg).1 (W.plainGet_of hg).2 hf (beq_iff_eq.mp ht) (by show(W.lookIn name od).map (·.isSome)=some false;rw[hl,hv];rfl) h
def zx5{ns:List Str}{Q:Unit->Shared->Prop}(X:K.In s.heap)(I:ObjM s.heap x dx C mA)
  (hs:W.findIn K (.ref C) "__setattr__" = some (some (.builtin "object.__setattr__"))) (hp:W.plainOver K C=true) (ht:W.takerIn K C name=some none) (hh:W.hasDictIn K C=true)
  (hw:PySem.Within mA ns) (hsz:ns.length<=sizeLine)
  (h:∀h',ObjM h' x dx C (λy=>if y=name then some v else mA y)->Heap.SameBut dx s.heap h'->Q () { s with heap:=h',toks:=s.toks+2 }) :
  wpAny (model prog w) A (setAttr (.ref x) name v) Q E s:=by
 obtain⟨od,J,hl⟩:=I.look;refine W.set_plain X J hs (W.osa_open (s:={ s with toks:=s.toks+1 }) (r:=none) X J hp ht λb=>?_);obtain⟨cd,hc,hd'⟩:=W.any_some hh;have hx:s.heap.get? x=some ⟨.ref C,some dx,.plain,#[]⟩:=I.obj;refine zb (zf (zb (zb (wpAny_loadPart hx (zb (W.Looks.here (s:={ s with toks:=s.toks+1 }) (W.looks_clsIn X hc) ?_))))));rw[hd'];refine zf (a:=some dx) (zb (zf (zb ?_)));refine wpAny_nsSet1 (s:={ s with toks:=s.toks+1 }) I.ns λh' hn2 hs2=>?_;obtain⟨oD,esD,epD,hoD,hdD,hcD⟩:=hn2.count (PySem.Within.cons name v hw)
 refine zb (wpAny_lookBehind hoD (by rw[hdD];exact pastItsLine_dict (zw hcD (by rw[zu];lia))) ?_)
 exact zf (h _ ⟨(hs2.2 _ (Ne.symm I.ne)).trans I.obj,hn2,I.ne⟩ hs2)
def zp1{R:Result->Shared->Prop}{vs:List Value}{kw:List (Str × Value)}(X:K.In s.heap)(hm:W.makesIn K C=true)
  (hi:W.findIn K (.ref C) "__init__" = some (some (.ref f))) (hf:W.typeIn K (.ref f)=some (.type "function"))
  (h : codeAny (model prog w) (A.under (.builtin "type.__call__" ⟨.ref C :: vs, kw⟩)) (.call (.ref f) ⟨.ref (s.heap.objs.size + 1) :: vs, kw⟩) (W.InitBack (s.heap.objs.size + 1) R)
   { s with heap:=(s.heap.push W.emptyDict).push (W.instObj C s.heap.objs.size) }) :
  codeAny (model prog w) A (.call (.ref C) ⟨vs,kw⟩) R s:=by
 obtain⟨hh,g,d,t,os⟩:=s;exact W.make_core (W.makes_of X hm) (W.looks_findIn X hi) (λself=>W.bind_fn X self hf) (.inl rfl) h
end
def YF(f:Str)(v:V):List (Str × V)->List (Str × V)
 |[]=>[(f,v)]
 |(g,x)::r=>if g=f then(g,v)::r else(g,x)::YF f v r
theorem Yg(f g:Str)(v:V):∀fs:List (Str × V),(YF f v fs).lookup g=if g=f then some v else fs.lookup g
 |[]=>by
  show List.lookup g [(f,v)]=_
  by_cases h:g=f
  ·have hb:(g == f)=true:=beq_iff_eq.mpr h;simp only[List.lookup,hb,if_pos h]
  ·have hb:(g == f)=false:=beq_eq_false_iff_ne.mpr h;simp only[List.lookup,hb,if_neg h]
 | (k, x) :: r => by
  have ih:=Yg f g v r
  rw[show YF f v ((k,x)::r)=(if k=f then(k,v)::r else(k,x)::YF f v r) from rfl]
  by_cases hk:k=f
  ·rw [if_pos hk]
   by_cases h:g=k
   ·have hb:(g == k)=true:=beq_iff_eq.mpr h;simp only[List.lookup,hb,if_pos (h.trans hk)]
   ·have hb:(g == k)=false:=beq_eq_false_iff_ne.mpr h;simp only[List.lookup,hb,if_neg (λe:g=f=>h (e.trans hk.symm))]
  ·rw [if_neg hk]
   by_cases h:g=k
   ·have hb:(g == k)=true:=beq_iff_eq.mpr h;simp only[List.lookup,hb,if_neg (λe:g=f=>hk (h.symm.trans e))]
   ·have hb:(g == k)=false:=beq_eq_false_iff_ne.mpr h;simp only[List.lookup,hb];exact ih
theorem Yl(f:Str)(v:V):∀fs:List (Str × V),f∈(YF f v fs).map (·.1)/\∀g,g∈fs.map (·.1)->g∈(YF f v fs).map (·.1)
 |[]=>⟨by simp[YF],λg h=>by simp at h⟩
 | (k, x) :: r => by
  obtain⟨i1,i2⟩:=Yl f v r
  rw[show YF f v ((k,x)::r)=(if k=f then(k,v)::r else(k,x)::YF f v r) from rfl]
  by_cases hk:k=f
  ·rw [if_pos hk];subst hk
   exact⟨by simp,λg h=>by simpa using h⟩
  ·rw [if_neg hk];refine⟨?_,λg h=>?_⟩
   ·rw[zy];exact zk _ i1
   ·rw [zy] at h ⊢
    rcases zh.mp h with e |e
    ·exact zh.mpr (.inl e)
    ·exact zk _ (i2 g e)
theorem Yi(f:Str)(v:V):∀fs:List (Str × V),(YF f v fs).length<=fs.length+1
 |[]=>by simp[YF]
 |(k,x)::r=>by
  have ih:=Yi f v r
  rw[show YF f v ((k,x)::r)=(if k=f then(k,v)::r else(k,x)::YF f v r) from rfl]
  by_cases hk:k=f
  ·rw[if_pos hk,zu,zu];lia
  ·rw[if_neg hk,zu,zu];lia
def RelO.some_of{v:V}{o:Option Value}(r:RelO (some v) o):∃u,o=some u/\RelV v u:=by
 cases o with
 |none=>exact(show False from r).elim
 |some u=>exact⟨u,rfl,r⟩
def RelO.none_of{o:Option Value}(r:RelO none o):o=none:=by
 cases o with
 |none=>rfl
 |some u=>exact(show False from r).elim
def ze5{v:V}{u:Value}(r:RelV v u):W.handedIn u=true:=by
 cases v with
 |non=>cases(show u=Value.none from r);rfl
 |bl b=>cases(show u=Value.bool b from r);rfl
 |int i=>obtain⟨t,e⟩:=(show ∃t,u=Value.int i t from r);cases e;rfl
 |str x=>obtain⟨t,e⟩:=(show ∃t,u=Value.str x t from r);cases e;rfl
 |byt b=>obtain⟨t,e⟩:=(show ∃t,u=Value.bytes b t from r);cases e;rfl
 |flt b=>obtain⟨t,e⟩:=(show ∃t,u=Value.float b t from r);cases e;rfl
 |ref a=>cases(show u=Value.ref a from r);rfl
 |ty n=>cases(show u=Value.type n from r);rfl
section
variable {P:Program}{w:World}{H H':Hp}{h h':Heap}{a C dx:Addr}{fs fs':List (Str × V)}
def Ur(hok:HOk P w H h)(e:H a=some (.ins C dx fs)):∃mA,ObjM h a dx C mA/\(∀f,RelO (fs.lookup f) (mA f))/\PySem.Within mA (fs.map (·.1))/\fs.length<=1000/\H dx=some (.own a):=by
 obtain⟨d,z,ne,ob,mA,n,r,q⟩:=(show ObjOk P w H h a (.ins C dx fs) from hok a _ e);exact⟨mA,⟨ob,n,ne⟩,r,q,z,d⟩
end
structure Cls(K:W.Frag)(C:Addr):Prop where
 pg:W.plainGet K C Str.empty=true
 hd:W.hasDictIn K C=true
 po:W.plainOver K C=true
 sa:W.findIn K (.ref C) "__setattr__" = some (some (.builtin "object.__setattr__"))
def Cls.get{K:W.Frag}{C:Addr}(c:Cls K C)(f:Str):W.plainGet K C f=true:=c.pg
def NoAttr(K:W.Frag)(C:Addr)(f:Str):Prop:=W.findIn K (.ref C) f=some none
def NoAttr.taker{K:W.Frag}{C:Addr}{f:Str}(n:NoAttr K C f):W.takerIn K C f=some none:=by
 unfold W.takerIn;rw[show W.findIn K (.ref C) f=some none from n];rfl
structure Meth(K:W.Frag)(C:Addr)(m:Str)(f:Addr):Prop where
 at_:W.findIn K (.ref C) m=some (some (.ref f))
 fn:W.isFn K (.ref f)=true
 kp:W.keepIn K (.ref f)=true
section
variable {X:Cx}{pins:List (Addr × Obj)}{σ:St}{H:Hp}{s:Shared}{a C dx:Addr}{fs:List (Str × V)}{f:Str}{v:V}{A:Around}{E:Value->Shared->Prop}
def Xe{b:Bool}{Q:Value->Shared->Prop}(I:Inv X pins σ H s)(e:H a=some (.ins C dx fs))(c:Cls X.K C)(n:NoAttr X.K C f)(l:fs.lookup f=some v)
  (h:∀u s',Inv X pins σ H s'->RelV v u->Q u s'):wpAny (model X.prog X.w) A (getAttr (.ref a) f b) Q E s:=by
 obtain⟨mA,O,r,_,_,_⟩:=Ur I.hok e
 obtain⟨u,hu,ru⟩:=RelO.some_of (v:=v) (o:=mA f) (by rw[<- l];exact r f)
 exact zG4 I.kIn O (c.get f) c.hd n hu (ze5 ru) (h u _ (I.tok _) ru)
def Xd{m:Str}{g:Addr}{pl:Sem Bool}{Q:Value × List Value->Shared->Prop}(I:Inv X pins σ H s)(e:H a=some (.ins C dx fs))(c:Cls X.K C)(k:Meth X.K C m g)(l:fs.lookup m=none)
  (h:Q (.ref g,[.ref a]) s):wpAny (model X.prog X.w) A (getMethod (.ref a) m pl) Q E s:=by
 obtain⟨mA,O,r,_,_,_⟩:=Ur I.hok e
 have hn:mA m=none:=RelO.none_of (by rw[<- l];exact r m)
 exact zq0 I.kIn O (c.get m) k.at_ k.fn hn h
def YW{y:V}{u:Value}{Q:Unit->Shared->Prop}(I:Inv X pins σ H s)(e:H a=some (.ins C dx fs))(c:Cls X.K C)(n:NoAttr X.K C f)(hl:fs.length<1000)(ry:RelV y u)
  (h:∀s',Inv X pins σ (upd H a (.ins C dx (YF f y fs))) s'->Q () s'):wpAny (model X.prog X.w) A (setAttr (.ref a) f u) Q E s:=by
 obtain⟨mA,O,r,wi,_,ho⟩:=Ur I.hok e
 have hz:(fs.map (·.1)).length<=sizeLine:=by rw[zn,sizeLine_eq];lia
 refine zx5 I.kIn O c.sa c.po n.taker c.hd wi hz λh' O' sb=>h _ ?_
 have hd:∃o,h'.get? dx=some o:=let ⟨o,_,_,e',_⟩:=O'.ns;⟨o,e'⟩
 refine I.write (x:=a) (e:=dx) (by rw[e];exact True.intro) (.inr ho) (λb q hb z=>(sb.2 b hb).trans z) hd ?_
 refine⟨by rw[wr O.ne];exact ho,?_,O.ne,O'.obj,_,O'.ns,λg=>?_,λg hg=>?_⟩
 ·have:=Yi f y fs;lia
 ·show RelO ((YF f y fs).lookup g) (if g = f then some u else mA g)
  rw[Yg]
  by_cases q:g=f
  ·rw[if_pos q,if_pos q];exact ry
  ·rw[if_neg q,if_neg q];exact r g
 ·by_cases q : g = f
  ·rw[q];exact(Yl f y fs).1
  ·refine (Yl f y fs).2 g (wi g λz => hg ?_)
   show(if g=f then some u else mA g)=none
   rw[if_neg q];exact z
def Inv.made(I:Inv X pins σ H s):Inv X pins σ (upd (upd H s.heap.objs.size (.own (s.heap.objs.size+1))) (s.heap.objs.size+1) (.ins C s.heap.objs.size []))
  { s with heap:=(s.heap.push W.emptyDict).push (W.instObj C s.heap.objs.size) }:=by
 have e1:(s.heap.push W.emptyDict).get? s.heap.objs.size=some W.emptyDict:=zD s.heap rfl
 have e2:((s.heap.push W.emptyDict).push (W.instObj C s.heap.objs.size)).get? (s.heap.objs.size+1)=some (W.instObj C s.heap.objs.size):=by
  have:=zD (s.heap.push W.emptyDict) (o:=W.instObj C s.heap.objs.size) rfl
  rwa [wl] at this
 have e3:(s.heap.push W.emptyDict).Ns s.heap.objs.size (λ_=>none):=⟨W.emptyDict,#[],_,e1,rfl,(λe he=>absurd he (by simp)),λ_=>rfl⟩
 have I1:=I.laid (a:=s.heap.objs.size) (o:=.own (s.heap.objs.size+1)) (h':=s.heap.push W.emptyDict) (t':=s.toks) (λb u q=>ze _ q) (zd _) ⟨_,e1⟩;refine I1.laid (a:=s.heap.objs.size+1) (o:=.ins C s.heap.objs.size []) (t':=s.toks) (λb u q=>ze _ q) (yr (wl _ _)) ?_;have ne:s.heap.objs.size≠s.heap.objs.size+1:=xa (ym _)
 refine⟨by rw[wr ne,yH],wZ _,ne,e2,λ_=>none,(Heap.Ns1.of_empty e3).at λo q=>ze _ q,λ_=>True.intro,λy hy=>absurd rfl hy⟩
def zH7{prog:Program}{w:World}{env:Env}{e:Expr}{f:Str}{pos:Pos}{s:Shared}{Q:Value->Shared->Prop}(hb:attributeBase e f env (eval e env)=eval e env)
  (h:wpAny (model prog w) A (eval e env) (λo s₁=>wpAny (model prog w) A (getAttr o f true) Q E s₁) E s):wpAny (model prog w) A (eval (.Attribute e f pos) env) Q E s:=
 Attribute_any_ h (by rw[arm_eval_Attribute,hb])
end
def xx3(K:W.Frag)(ta:TE)(f:Str):TE:=λσ H Q=>ta σ H λx H1=>∃a C dx fs v,x=.ref a/\H1 a=some (.ins C dx fs)/\Cls K C/\NoAttr K C f/\fs.lookup f=some v/\Q v H1
def xx8(K:W.Frag)(ta tv:TE)(f:Str):TS:=λD σ H=>tv σ H λy H1=>ta σ H1 λx H2=>∃a C dx fs,x=.ref a/\H2 a=some (.ins C dx fs)/\Cls K C/\NoAttr K C f/\fs.length<1000 /\
 D.nx σ (upd H2 a (.ins C dx (YF f y fs)))
def xw1(X:Cx)(op:Operator)(rd:V->V->Hp->VK->Prop):Prop:=
 ∀(pins:List (Addr × Obj)) (s:Shared) (σ:St) (H:Hp) (x y:V) (u v:Value) (Q:VK),Inv X pins σ H s->RelV x u->RelV y v->rd x y H Q->wpAny (model X.prog X.w) X.A (inplaceOp op u v) (EP X pins σ Q) X.xe s
def zx7(K:W.Frag)(ta tv:TE)(rd:V->V->Hp->VK->Prop)(f:Str):TS:=λD σ H=>ta σ H λx H1=>∃a C dx fs v,x=.ref a/\H1 a=some (.ins C dx fs)/\Cls K C/\NoAttr K C f/\fs.lookup f=some v /\
 tv σ H1 λy H2=>rd v y H2 λz H3=>∃dx' fs',H3 a=some (.ins C dx' fs')/\fs'.length<1000/\D.nx σ (upd H3 a (.ins C dx' (YF f z fs')))
section
variable {X:Cx}{o e value:Expr}{f:Str}{pos pos' tpos:Pos}{ta tv:TE}
def zO9(he:PE X e ta)(hb:attributeBase e f X.env (eval e X.env)=eval e X.env):PE X (.Attribute e f pos) (xx3 X.K ta f):=by
 intro pins s σ H Q I h;refine zH7 hb (thn (he pins s σ H _ I h) λu s1 ⟨x,H1,I1,rx,a,C,dx,fs,v,ex,ea,c,n,l,q⟩=>?_);subst ex;obtain rfl:u=Value.ref a:=rx;exact Xe I1 ea c n l λu' s2 I2 ru=>⟨v,H1,I2,ru,q⟩
def zO0(ha:PE X o ta)(hv:PE X value tv)(hs:swapsWith value (some (.Attribute o f pos')) pos.line X.env=pure false):PS X (.Assign [.Attribute o f pos'] value pos) (xx8 X.K ta tv f):=by
 intro pins s σ H D I h;refine plainObj_wpAny_Assign_Attribute (thn (hv pins s σ H _ I h) λu s1 ⟨y,H1,I1,ry,q⟩=>thn (ha pins s1 σ H1 _ I1 q) λov s2 ⟨x,H2,I2,rx,a,C,dx,fs,ex,ea,c,n,l,q2⟩=>?_) hs;subst ex;obtain rfl:ov=Value.ref a:=rx;exact YW I2 ea c n l ry λs3 I3=>⟨σ,_,I3,q2⟩
def QQ{op:Operator}{rd:V->V->Hp->VK->Prop}(ha:PE X o ta)(hv:PE X value tv)(hop:xw1 X op rd):PS X (.AugAssign (.Attribute o f tpos) op value pos) (zx7 X.K ta tv rd f):=by
 intro pins s σ H D I h;refine wpAny_AugAssign_AttributeAny (thn (ha pins s σ H _ I h) λov s1 ⟨x,H1,I1,rx,a,C,dx,fs,v,ex,ea,c,n,l,q⟩=>?_);subst ex;obtain rfl:ov=Value.ref a:=rx;refine Xe I1 ea c n l λu s2 I2 ru=>thn (hv pins s2 σ H1 _ I2 q) λw3 s3 ⟨y,H2,I3,ry,q3⟩=>thn (hop pins s3 σ H2 v y u w3 _ I3 ru ry q3) λw4 s4 ⟨z,H3,I4,rz,dx',fs',ea',l',q4⟩=>?_;exact YW I4 ea' c n l' rz λs5 I5=>⟨σ,_,I5,q4⟩
def xy3:V->V->Hp->VK->Prop:=λx y H Q=>∃i j,x=.int i/\y=.int j/\Q (.int (i+j)) H
def zS9:xw1 X .Add xy3:=by
 rintro pins s σ H x y u v Q I rx ry ⟨i,j,rfl,rfl,q⟩;obtain⟨t,rfl⟩:=(show ∃t,u=Value.int i t from rx);obtain⟨t',rfl⟩:=(show ∃t',v=Value.int j t' from ry);exact PyProof.Rows.iadd_int ⟨.int (i+j),H,I.tok _,⟨_,rfl⟩,q⟩
end
section
variable {X:Cx}{pins:List (Addr × Obj)}{σ:St}{H:Hp}{s:Shared}{A:Around}{E:Value->Shared->Prop}{Q:Value->Shared->Prop}{c:Value}{b:Bool}
end
structure Room(k:Nat)(A:Around):Prop where
 hd:A.handled=none
 dp:A.depth+3*k+5<recursionLimit
 un:A.units+16*k+200<cLine
 gd:A.guards=some []
def Room.mono{j k:Nat}{A:Around}(r:Room k A)(h:j<=k):Room j A:=⟨r.hd,by have:=r.dp;lia,by have:=r.un;lia,r.gd⟩
def Room.deeper{k:Nat}{A:Around}(r:Room (k+1) A)(env:Env):Room k (A.deeper env):=
 ⟨r.hd,by have:=r.dp;show A.depth+1+3*k+5<_;lia,by have:=r.un;show A.units+3+16*k+200<_;lia,r.gd⟩
def JA{A:Around}{C:Addr}{us:List Value}{kw:List (Str × Value)}:(A.under (.builtin "type.__call__" ⟨.ref C::us,kw⟩)).depth=A.depth+1:=by
 first |rfl |simp[Around.under,Code.weight,Code.isCreation,Code.isGuard,Code.isCaller,Code.frames,Code.isFrame,guardIds]
def Jz{A:Around}{C:Addr}{us:List Value}{kw:List (Str × Value)}:(A.under (.builtin "type.__call__" ⟨.ref C::us,kw⟩)).units=A.units+1:=by
 first |rfl |simp[Around.under,Code.cUnits,Code.frames,Code.isFrame]
def Uj{A:Around}{C:Addr}{us:List Value}{kw:List (Str × Value)}:(A.under (.builtin "type.__call__" ⟨.ref C::us,kw⟩)).guards=A.guards:=by
 first |rfl |simp[Around.under,Code.guards,Code.isGuard,guardIds,pushGuards]
def Room.make{k:Nat}{A:Around}(r:Room (k+1) A)(C:Addr)(us:List Value)(kw:List (Str × Value)):Room k (A.under (.builtin "type.__call__" ⟨.ref C::us,kw⟩)):=
 ⟨r.hd,by have:=r.dp;rw[JA];lia,by have:=r.un;rw[Jz];lia,by rw[Uj];exact r.gd⟩
def Room.depth{k:Nat}{A:Around}(r:Room k A):A.depth<recursionLimit:=by have:=r.dp;lia
def Room.units{k:Nat}{A:Around}(r:Room k A):A.units+64<cLine:=by have:=r.un;lia
def xp2:TA:=λ_ H Q=>Q [] H
def xb8(ta:TE)(tr:TA):TA:=λσ H Q=>ta σ H λx H1=>tr σ H1 λxs H2=>Q (x::xs) H2
section
variable {X:Cx}{e:Expr}{es:List Expr}{te:TE}{t:TA}{pos:Pos}
def zP2:PA X [] xp2:=λ_ _ _ _ H Q I h=>Calls.spliced_nil ⟨[],H,I,.nil,h⟩
def zC6(ha:PE X e te)(hr:PA X es t)(hs:starEach (e::es) X.env=(false,eval e X.env)::starEach es X.env:=by rfl):PA X (e::es) (xb8 te t):=by
 intro pos pins s σ H Q I h;rw[hs];show wpAny _ _ (spliced ((false,eval e X.env)::backTo pos (starEach es X.env))) _ _ s;refine Calls.spliced_cons (thn (ha pins s σ H _ I h) λu s1 ⟨x,H1,I1,r1,q1⟩=>?_);exact thn (hr pos pins s1 σ H1 _ I1 q1) λus s2 ⟨xs,H2,I2,r2,q2⟩=>⟨x::xs,H2,I2,.cons r1 r2,q2⟩
def xw6(t:TA):TE:=λσ H Q=>t σ H λxs H1=>xs.length<=sizeLine/\∀p,H1 p=none->Q (.ref p) (upd H1 p (.tup xs))
def xx0(t:TA):TE:=λσ H Q=>t σ H λxs H1=>xs.length<=sizeLine/\∀p,H1 p=none->Q (.ref p) (upd H1 p (.lst xs))
def zO5{x1}(h:PA X es t):PE X (.Tuple es x1 pos) (xw6 t):=by
 intro pins s σ H Q I hq
 refine wpAny_Tuple_spliced (thn (h pos pins s σ H _ I hq) λus s1 ⟨xs,H1,I1,r,z,q⟩=>⟨by rw[<- r.length];exact z,?_⟩)
 have hf:H1 s1.heap.objs.size=none:=I1.hok.fresh (zd _);refine⟨.ref s1.heap.objs.size,upd H1 s1.heap.objs.size (.tup xs),I1.laid (t':=s1.toks) (λb u e=>ze _ e) (zd _) ?_,rfl,q _ hf⟩;exact⟨z,us,r,⟨_,zD _ rfl,rfl,_,rfl⟩⟩
def zt8(h:PA X es t):PE X (.List es pos) (xx0 t):=by
 intro pins s σ H Q I hq
 refine wpAny_List_spliced (thn (h pos pins s σ H _ I hq) λus s1 ⟨xs,H1,I1,r,z,q⟩=>⟨by rw[<- r.length];exact z,?_⟩)
 have hf:H1 s1.heap.objs.size=none:=I1.hok.fresh (zd _);refine⟨.ref s1.heap.objs.size,upd H1 s1.heap.objs.size (.lst xs),I1.laid (t':=s1.toks) (λb u e=>ze _ e) (zd _) ?_,rfl,q _ hf⟩;exact⟨z,us,0,r,zD _ rfl⟩
end
abbrev Sp:=List V->Hp->VK->XK->Prop
abbrev CXT:=List Env->Hp->Shared->XK->Value->Shared->Prop
structure Env0(P:Program)(w:World)(K:W.Frag)(mg:Str->Option Value)(base:Heap)(A:Around)(outer:List Env)(s:Shared)(H:Hp):Prop where
 frames:A.frames=some outer
 mod:Mod K mg base
 bs:∀b o,base.get? b=some o->s.heap.get? b=some o/\H b=none
 bsz:base.objs.size<=s.heap.objs.size
 funs:s.heap.FunFrames base outer
 frf:∀b∈frs outer,H b=none
 hok:HOk P w H s.heap
 bare:AllBare s.gens
def CE(outer:List Env)(P:Program)(w:World)(H:Hp)(s:Shared)(Q:VK)(u:Value)(s':Shared):Prop:=
 ∃v H',s'.os=s.os/\AllBare s'.gens/\Un (frs outer) [] H H' s.heap s'.heap/\HOk P w H' s'.heap/\RelV v u/\Q v H'
def CR(CX:CXT)(outer:List Env)(P:Program)(w:World)(H:Hp)(s:Shared)(Q:VK)(E:XK)(r:Result)(s':Shared):Prop:=
 match r with
 |.ok (.ret u)=>CE outer P w H s Q u s'
 |.ok _=>False
 |.error e=>CX outer H s E e s'
structure FnOk(P:Program)(w:World)(K:W.Frag)(mg:Str->Option Value)(base:Heap)(CX:CXT)(k:Nat)(f:Addr)(fd:FuncData)(ps:List Str)(sp:Sp):Prop where
 len:∀vs H Q E,sp vs H Q E->vs.length=ps.length
 run:∀(A:Around) (outer:List Env) (s:Shared) (H:Hp) (args:Args) (us:List Value) (vs:List V) (Q:VK) (E:XK),Room k A->Env0 P w K mg base A outer s H->BindsTo s fd args (ps.zip us)->Vals vs us->sp vs H Q E ->
  codeAny (model P w) A (.call (.ref f) args) (CR CX outer P w H s Q E) s
def Env0.make{P:Program}{w:World}{K:W.Frag}{mg:Str->Option Value}{base:Heap}{A:Around}{outer:List Env}{s:Shared}{H:Hp}(e:Env0 P w K mg base A outer s H)(C:Addr)(us:List Value)(kw:List (Str × Value)) :
  Env0 P w K mg base (A.under (.builtin "type.__call__" ⟨.ref C::us,kw⟩)) outer s H:=⟨by first |exact e.frames |(simpa [Around.under,Code.envs,Code.isFrame,pushEnvs] using e.frames),e.mod,e.bs,e.bsz,e.funs,e.frf,e.hok,e.bare⟩
section
variable {X:Cx}{pins:List (Addr × Obj)}{σ:St}{H:Hp}{s s':Shared}
def Inv.env0(I:Inv X pins σ H s):Env0 X.prog X.w X.K X.mg X.base X.A X.stack s H:=
 ⟨I.ok.frames,I.ok.mod,I.bs,zw I.ok.bsz I.sz,I.stack,I.stkFree,I.hok,I.bare⟩
def Inv.after{Q:VK}{u:Value}(I:Inv X pins σ H s)(h:CE X.stack X.prog X.w H s Q u s'):EP X pins σ Q u s':=by
 obtain⟨v,H',os,bare,un,hok,r,q⟩:=h;obtain⟨hh,g,d,t,os'⟩:=s';obtain rfl:os'=s.os:=os
 exact⟨v,H',I.call (h':=hh) (g':=g) (d':=d) (t':=t) (ch:=[]) un hok bare (λb z=>absurd z (by simp)),r,q⟩
end
def xb9(sp:Sp)(dvs:List V)(E:XK)(t:TA):TE:=λσ H Q=>t σ H λvs H1=>sp (vs++dvs) H1 Q E
def zx1(C:Addr)(m:Str)(sp:Sp)(dvs:List V)(E:XK)(ta:TE)(t:TA):TE:=λσ H Q=>ta σ H λx H1=>∃a dx fs,x=.ref a/\H1 a=some (.ins C dx fs)/\fs.lookup m=none /\
 t σ H1 λvs H2=>sp (x::(vs++dvs)) H2 Q E
def xb4(C:Addr)(sp:Sp)(dvs:List V)(E:XK)(t:TA):TE:=λσ H Q=>t σ H λvs H1=>∀x dx,H1 x=none->H1 dx=none->dx≠x ->
 sp (.ref x::(vs++dvs)) (upd (upd H1 dx (.own x)) x (.ins C dx [])) (λv H2=>v=.non/\Q (.ref x) H2) E
def Binds(K:W.Frag)(fd:FuncData)(ps:List Str)(ds:List Value):Prop:=
 ∀(s:Shared) (us:List Value),K.In s.heap->(us++ds).length=ps.length->BindsTo s fd ⟨us,[]⟩ (ps.zip (us++ds))
def Binds.all{K:W.Frag}{fd:FuncData}{ps:List Str}(h:∀us:List Value,us.length=ps.length->bindArgs fd ⟨us,[]⟩=pure (ps.zip us)):Binds K fd ps []:=λs us _ hl=>by
 rw[xX] at hl ⊢;exact .of_eq (h us hl)
def YA(CX:CXT)(X:Cx)(E:XK):Prop:=∀(pins:List (Addr × Obj)) (σ:St) (H:Hp) (s:Shared) (e:Value) (s':Shared),Inv X pins σ H s->CX X.stack H s E e s'->X.xe e s'
section
variable {X:Cx}{CX:CXT}{k:Nat}{f C:Addr}{fd:FuncData}{ps:List Str}{sp:Sp}{dvs:List V}{ds:List Value}{E:XK}{x m:Str}{p pos apos:Pos}{e o:Expr}{es:List Expr}{ta:TE}{t:TA}
def Qz{pins:List (Addr × Obj)}{σ:St}{H:Hp}{s:Shared}{Q:VK}{us:List Value}{vs:List V}(F:FnOk X.prog X.w X.K X.mg X.base CX k f fd ps sp)(hr:Room k X.A)(hb:Binds X.K fd ps ds)(hd:Vals dvs ds)(hx:YA CX X E)
  (I:Inv X pins σ H s) (r:Vals vs us) (h:sp (vs++dvs) H Q E):wpAny (model X.prog X.w) X.A (call (.ref f) us) (EP X pins σ Q) X.xe s:=by
 have r2:Vals (vs++dvs) (us++ds):=r.append hd
 have hl:(us++ds).length=ps.length:=by rw[<- r2.length];exact F.len _ _ _ _ h
 refine wpAny_call (codeAny_mono (F.run X.A X.stack s H ⟨us,[]⟩ (us++ds) (vs++dvs) Q E hr I.env0 (hb s us I.kIn hl) r2 h) λr s' hq=>?_)
 cases r with
 |error e=>exact hx pins σ H s e s' I hq
 |ok fl=>
  cases fl with
  |ret u=>exact I.after hq
  |next=>exact False.elim hq
  |brk=>exact False.elim hq
  |cont=>exact False.elim hq
def QY(F:FnOk X.prog X.w X.K X.mg X.base CX k f fd ps sp)(hr:Room k X.A)(hg:Gl X x)(hm:X.mg x=some (.ref f))(hk:W.keepIn X.K (.ref f)=true)(hb:Binds X.K fd ps ds)(hd:Vals dvs ds)(hx:YA CX X E)
  (ha:PA X (e::es) t) (hdb:(x == ("__debug__" : Str))=false:=by decide) (he:starEach (e::es) X.env=(false,eval e X.env)::starEach es X.env:=by rfl) (hpl:(backTo pos (starEach es X.env)).any (·.1)=false:=by rfl) :
  PE X (.Call (.Name x p) (e::es) [] pos) (xb9 sp dvs E t):=by
 intro pins s σ H Q I h;refine yp (zc3 I hg hm ?_ hdb);refine W.callWith_K (h₀:=X.base) I.ok.mod.kin hk (thn (ha pos pins s σ H _ I h) λus s1 ⟨vs,H1,I1,r,q⟩=>⟨I1.kIn,?_⟩) he hpl;exact Qz F hr hb hd hx I1 r q
def zB9{pl:Sem Bool}(he:PE X o ta)(c:Cls X.K C)(hm:Meth X.K C m f)(F:FnOk X.prog X.w X.K X.mg X.base CX k f fd ps sp)(hr:Room k X.A)(hb:Binds X.K fd ps ds)(hd:Vals dvs ds)(hx:YA CX X E)(ha:PA X (e::es) t)
  (hst:starEach (e::es) X.env=(false,eval e X.env)::starEach es X.env:=by rfl) (hpl:(backTo pos (starEach es X.env)).any (·.1)=false:=by rfl)
  (ht : eval (.Call (.Attribute o m apos) (e :: es) [] pos) X.env = (do
   let ov <- eval o X.env
   standAt apos.atName
   let (f,first) <- holding [ov] (getMethod ov m pl)
   callWith pos f first (backTo pos (starEach (e::es) X.env)) (backToKw pos (keywordEach [] X.env))):=by rfl) :
  PE X (.Call (.Attribute o m apos) (e::es) [] pos) (zx1 C m sp dvs E ta t):=by
 intro pins s σ H Q I h;refine W.methodCall_KW (pl:=pl) (thn (he pins s σ H _ I h) λu s1 ⟨x,H1,I1,rx,a,dx,fs,ex,ea,l,q⟩=>?_) ht;subst ex;obtain rfl:u=Value.ref a:=rx;refine Xd I1 ea c hm l ?_
 refine W.callWith_K (first:=[.ref a]) (h₀:=X.base) I.ok.mod.kin hm.kp (thn (ha pos pins s1 σ H1 _ I1 q) λus s2 ⟨vs,H2,I2,r,q2⟩=>⟨I2.kIn,?_⟩) hst hpl
 exact Qz (us:=.ref a::us) (vs:=.ref a::vs) F hr hb hd hx I2 (.cons rfl r) q2
def zm8{pl:Sem Bool}(he:PE X o ta)(c:Cls X.K C)(hm:Meth X.K C m f)(F:FnOk X.prog X.w X.K X.mg X.base CX k f fd ps sp)(hr:Room k X.A)(hb:Binds X.K fd ps ds)(hd:Vals dvs ds)(hx:YA CX X E)
  (ht : eval (.Call (.Attribute o m apos) [] [] pos) X.env = (do
   let ov <- eval o X.env
   standAt apos.atName
   let (f,first) <- holding [ov] (getMethod ov m pl)
   callWith pos f first (backTo pos (starEach [] X.env)) (backToKw pos (keywordEach [] X.env))):=by rfl) :
  PE X (.Call (.Attribute o m apos) [] [] pos) (zx1 C m sp dvs E ta xp2):=by
 intro pins s σ H Q I h;refine W.methodCall_KW (pl:=pl) (thn (he pins s σ H _ I h) λu s1 ⟨x,H1,I1,rx,a,dx,fs,ex,ea,l,q⟩=>?_) ht;subst ex;obtain rfl:u=Value.ref a:=rx;refine Xd I1 ea c hm l ?_
 exact W.callWith_K0 (first:=[.ref a]) I1.kIn hm.kp (Qz (us:=[.ref a]) (vs:=[.ref a]) F hr hb hd hx I1 (.cons rfl .nil) q)
structure Mk(K:W.Frag)(C f:Addr):Prop where
 makes:W.makesIn K C=true
 init:W.findIn K (.ref C) "__init__" = some (some (.ref f))
 fn:W.isFn K (.ref f)=true
 kp:W.keepIn K (.ref C)=true
def zk6{pins:List (Addr × Obj)}{σ:St}{H:Hp}{s:Shared}{Q:VK}{us:List Value}{vs:List V}(M:Mk X.K C f)(F:FnOk X.prog X.w X.K X.mg X.base CX k f fd ps sp)(hr:Room (k+1) X.A)(hb:Binds X.K fd ps ds)(hd:Vals dvs ds)
  (hx:YA CX X E) (I:Inv X pins σ H s) (r:Vals vs us)
  (h:∀x dx,H x=none->H dx=none->dx≠x->sp (.ref x::(vs++dvs)) (upd (upd H dx (.own x)) x (.ins C dx [])) (λv H2=>v=.non/\Q (.ref x) H2) E) :
  wpAny (model X.prog X.w) X.A (call (.ref C) us) (EP X pins σ Q) X.xe s:=by
 have hq:=h (s.heap.objs.size+1) s.heap.objs.size (I.hok.fresh (xl _)) (I.hok.fresh (zd _)) (xa (ym _));have I2:=Inv.made (C:=C) I;have r2:Vals (V.ref (s.heap.objs.size+1)::(vs++dvs)) (Value.ref (s.heap.objs.size+1)::(us++ds)):=.cons rfl (r.append hd)
 have hl:(Value.ref (s.heap.objs.size+1)::us++ds).length=ps.length:=by
  have e:=r2.length;rw[F.len _ _ _ _ hq] at e;exact e.symm
 refine wpAny_call (zp1 (f:=f) I.kIn M.makes M.init (beq_iff_eq.mp M.fn) (codeAny_mono (F.run _ X.stack _ _ ⟨Value.ref (s.heap.objs.size+1)::us,[]⟩ (Value.ref (s.heap.objs.size+1)::(us++ds)) _ _ E (hr.make C us [])
  (I2.env0.make C us []) (hb _ (Value.ref (s.heap.objs.size+1)::us) I2.kIn hl) r2 hq) λr s' hq'=>?_))
 cases r with
 |error e=>exact hx pins σ _ _ e s' I2 hq'
 | ok fl =>
  cases fl with
  |ret u=>
   obtain⟨v,H',I3,rv,ev,q3⟩:=I2.after hq';subst ev;exact⟨rv,⟨V.ref (s.heap.objs.size+1),H',I3,rfl,q3⟩⟩
  |next=>exact False.elim hq'
  |brk=>exact False.elim hq'
  |cont=>exact False.elim hq'
def zC0(M:Mk X.K C f)(F:FnOk X.prog X.w X.K X.mg X.base CX k f fd ps sp)(hr:Room (k+1) X.A)(hg:Gl X x)(hm:X.mg x=some (.ref C))(hb:Binds X.K fd ps ds)(hd:Vals dvs ds)(hx:YA CX X E)
  (ha:PA X (e::es) t) (hdb:(x == ("__debug__" : Str))=false:=by decide) (he:starEach (e::es) X.env=(false,eval e X.env)::starEach es X.env:=by rfl) (hpl:(backTo pos (starEach es X.env)).any (·.1)=false:=by rfl) :
  PE X (.Call (.Name x p) (e::es) [] pos) (xb4 C sp dvs E t):=by
 intro pins s σ H Q I h;refine yp (zc3 I hg hm ?_ hdb);refine W.callWith_K (h₀:=X.base) I.ok.mod.kin M.kp (thn (ha pos pins s σ H _ I h) λus s1 ⟨vs,H1,I1,r,q⟩=>⟨I1.kIn,?_⟩) he hpl;exact zk6 M F hr hb hd hx I1 r q
end
section
variable {X:Cx}{CX:CXT}{k:Nat}{f C:Addr}{fd:FuncData}{ps ks:List Str}{sp:Sp}{E:XK}{x m:Str}{p pos apos kpos:Pos}{e o:Expr}{es:List Expr}{kws:List Keyword}{te ta:TE}{t tk:TA}{nm:Option Str}
variable {g:List Value->List Value->List Value}{gV:List V->List V->List V}
end
structure FnScope(N P:List Str)(sc:Scope):Prop where
 kind:sc.kind=.function
 co:sc.isCoroutine=false
 gen:sc.isGenerator=false
 nd:N.Nodup
 pre:N.take P.length=P
 par:∀x∈P,sc.names.lookup x=some .local\/sc.names.lookup x=some .cell
 nofree:∀y∈sc.names,y.2≠.free
theorem Vk{kindOf:Str->Option NameKind}{x:Str}:∀{binds:List (Str × Value)}{m:Str->Option Value},(∀v,(x,v) ∉ binds)->bindL kindOf binds m x=m x
 |[],_,_=>rfl
 | (n, v) :: r, m, h => by
  unfold bindL;rw[Vk λw hw=>h w (zk _ hw)]
  split
  ·have : x ≠ n := by rintro rfl; exact h v zo
   simp[this]
  ·rfl
theorem Vm{kindOf:Str->Option NameKind}{x:Str}:∀{binds:List (Str × Value)}{m:Str->Option Value},(∀v,(x,v) ∉ binds)->bindC kindOf binds m x=m x
 |[],_,_=>rfl
 | (n, v) :: r, m, h => by
  unfold bindC;rw[Vm λw hw=>h w (zk _ hw)]
  split
  ·rfl
  ·have : x ≠ n := by rintro rfl; exact h v zo
   simp[this]
def Vl{kindOf:Str->Option NameKind}{x:Str}{v:Value}:∀{P:List Str}{vs:List Value}{i:Nat}{m:Str->Option Value},P.Nodup->P[i]?=some x->vs[i]?=some v->kindOf x=some .local ->
  bindL kindOf (P.zip vs) m x=some v
 |[],_,_,_,_,h,_,_=>by simp at h
 |_::_,[],_,_,_,_,h,_=>by simp at h
 |p::P,w::vs,0,m,nd,h1,h2,hk=>by
  simp at h1 h2;subst h1;subst h2;show bindL kindOf ((p,w)::P.zip vs) m p=_;unfold bindL;rw[Vk λv hv=>(xn.mp nd).1 (of_mem_zip hv).1,if_pos hk];simp
 |p::P,w::vs,i+1,m,nd,h1,h2,hk=>by
  show bindL kindOf ((p,w)::P.zip vs) m x=_;unfold bindL
  exact Vl (i:=i) (xn.mp nd).2 (by simpa using h1) (by simpa using h2) hk
def Vo{kindOf:Str->Option NameKind}{x:Str}{v:Value}:∀{P:List Str}{vs:List Value}{i:Nat}{m:Str->Option Value},P.Nodup->P[i]?=some x->vs[i]?=some v->kindOf x≠some .local ->
  bindC kindOf (P.zip vs) m x=some v
 |[],_,_,_,_,h,_,_=>by simp at h
 |_::_,[],_,_,_,_,h,_=>by simp at h
 |p::P,w::vs,0,m,nd,h1,h2,hk=>by
  simp at h1 h2;subst h1;subst h2;show bindC kindOf ((p,w)::P.zip vs) m p=_;unfold bindC;rw[Vm λv hv=>(xn.mp nd).1 (of_mem_zip hv).1,if_neg hk];simp
 |p::P,w::vs,i+1,m,nd,h1,h2,hk=>by
  show bindC kindOf ((p,w)::P.zip vs) m x=_;unfold bindC
  exact Vo (i:=i) (xn.mp nd).2 (by simpa using h1) (by simpa using h2) hk
def ZI(N:List Str)(vs:List V):St:=vs.map some++replicate (N.length-vs.length) none
def zw2(CX:CXT)(P:Program)(w:World)(K:W.Frag)(mg:Str->Option Value)(base:Heap)(N:List Str)(qual:Str)(scope:Scope)(f:Addr)(cd:Value)(A:Around)(outer:List Env)(s:Shared)(H:Hp)(E:XK):Cx where
 prog:=P
 w:=w
 K:=K
 mg:=mg
 base:=base
 A:=A.deeper (envOfC qual scope s.heap.objs.size f cd)
 N:=N
 s₀:=s
 H₀:=H
 env:=envOfC qual scope s.heap.objs.size f cd
 outer:=outer
 stack:=envOfC qual scope s.heap.objs.size f cd::outer
 ex:=[]
 calm:=true
 fn:=λ_=>true
 pn:=[]
 xe:=λe s'=>wpAny (model P w) (A.deeper (envOfC qual scope s.heap.objs.size f cd)) (leaving (envOfC qual scope s.heap.objs.size f cd) e) (λ_ s''=>CX outer H s E e s'') (λe' s''=>CX outer H s E e' s'') s'
def KU{sc:Scope}{n:Nat}{x:Str}(h:sc.names.lookup x=some .cell):∃c,(cellsFrom n sc.names []).lookup x=some c:=by
 have q:=W.cellsFrom_some sc.names n [] (.inl h);exact Option.isSome_iff_exists.mp q
def zd8{CX:CXT}{P:Program}{w:World}{K:W.Frag}{mg:Str->Option Value}{base:Heap}{N ps:List Str}{qual:Str}{scope:Scope}{f:Addr}{cd:Value}{A:Around}{outer:List Env}{s s1:Shared}{H:Hp}{E:XK}{us:List Value}{vs:List V}
  (S:FnScope N ps scope) (hd:A.handled=none) (e0:Env0 P w K mg base A outer s H) (hl:vs.length=ps.length) (r:Vals vs us)
  (x:InCallC s s.heap.objs.size (bindL (envOfC qual scope s.heap.objs.size f cd).kindOf (ps.zip us) λ_=>none) (cellsFrom (s.heap.objs.size+1) scope.names []) (bindC (envOfC qual scope s.heap.objs.size f cd).kindOf (ps.zip us) λ_=>none) s1) :
  Inv (zw2 CX P w K mg base N qual scope f cd A outer s H E) [] (ZI N vs) H s1:=by
 have hpl:ps.length<=N.length:=by have:=congrArg List.length S.pre;rw[xm] at this;lia
 obtain⟨h1,tk,rfl,hk⟩:=x.done
 have noA:∀b:Addr,b ∉ (zw2 CX P w K mg base N qual scope f cd A outer s H E).ex:=λb z=>absurd (show b∈([]:List Addr) from z) (by simp)
 refine⟨⟨e0.mod,S.kind,rfl,rfl,zd _,λy z c h1 h2=>?_,λy hy=>?_,λy c _ h=>?_,λ_=>hd,Around.frames_deeper e0.frames,.inr ⟨rfl,rfl⟩,λb z=>absurd z (noA b),e0.bs,e0.bsz,λb _ _=>noA b,λb z=>absurd z (noA b),e0.funs,e0.frf⟩,
  rfl,e0.bare,Un.kept hk,⟨_,x.toInCall.ns,λi y v h1 h2 h3=>?_⟩,λy c h=>⟨_,x.cell y c h⟩,e0.hok.fresh (zd _),λy c h=>?_,λp hp=>absurd (show p∈([]:List (Addr × Obj)) from hp) (by simp),e0.hok.kept hk,?_⟩
 ·exact name_of_addr x.apart (PySem.mem_of_lookup h1) (PySem.mem_of_lookup h2)
 ·have hy : scope.names.lookup y = some .cell \/ scope.names.lookup y = some .free := hy
  rcases hy with hy |hy
  ·exact KU hy
  ·exact absurd rfl (S.nofree _ (PySem.mem_of_lookup hy))
 ·exact xM (x.above y c (PySem.mem_of_lookup h))
 ·have hi : i < vs.length := by
   unfold ZI at h2
   by_cases hi:i<vs.length
   ·exact hi
   ·rw [zT (by simpa using hi)] at h2
    rw[xE] at h2
    split at h2<;>cases h2
  have ha:vs[i]?=some v:=by
   unfold ZI at h2
   rw[xg (by simpa using hi),zB] at h2
   cases e:vs[i]? with
   |none=>rw[e] at h2;cases h2
   |some a=>rw[e] at h2;cases h2;rfl
  obtain⟨u,hu,rv⟩:=r.get ha
  have hp:ps[i]?=some y:=by
   rw[<- S.pre,List.getElem?_take_of_lt w5];exact h1
  have ndP:ps.Nodup:=by rw[<- S.pre];exact S.nd.sublist (take_sublist _ _)
  refine⟨u,rv,?_⟩
  rcases S.par y (wo hp) with k |k
  ·exact .inl ⟨k,Vl ndP hp hu k⟩
  ·obtain ⟨c, e⟩ := KU (n := s.heap.objs.size + 1) k;refine .inr ⟨.inl k,c,e,?_⟩;have q:=x.cell y c e
   rw[Vo ndP hp hu (by show scope.names.lookup y≠_;rw[k];decide)] at q
   exact q
 ·exact e0.hok.fresh (xM (x.above y c (PySem.mem_of_lookup h)))
 ·unfold ZI;show _=N.length;rw[zm,zn,xv];lia
def xo1{CX:CXT}{P:Program}{w:World}{K:W.Frag}{mg:Str->Option Value}{base:Heap}{k:Nat}{f:Addr}{name qual:Str}{params:Arguments}{body:List Stmt}{scope:Scope}{dV kV doc pm cdv ct oc:Value}{an od:Option Addr}
  {osl:Array (Option Value)}{N ps:List Str}{sp:Sp} (lk:K.lookup f=some ⟨oc,od,.func (W.fnOf name qual params body scope dV kV doc pm an cdv ct),osl⟩) (hcd:W.codeIn K cdv qual=true) (S:FnScope N ps scope)
  (len:∀vs H Q E,sp vs H Q E->vs.length=ps.length)
  (hbody : ∀ (A : Around) (outer : List Env) (s : Shared) (H : Hp) (vs : List V) (Q : VK) (E : XK), Room k (A.deeper (envOfC qual scope s.heap.objs.size f cdv)) -> sp vs H Q E ->
   ∃t,PSs (zw2 CX P w K mg base N qual scope f cdv A outer s H E) body t/\t { nx:=λ_ H'=>Q .non H',rt:=Q } (ZI N vs) H) :
  FnOk P w K mg base CX (k+1) f (W.fnOf name qual params body scope dV kV doc pm an cdv ct) ps sp:=by
 refine⟨len,λA outer s H args us vs Q E hr e0 hb r hsp=>?_⟩;have hl:=len _ _ _ _ hsp;have KX:K.In s.heap:=e0.mod.kin.keeps λb o e=>(e0.bs b o e).1;have lim:s.heap.NoLimit:=e0.mod.nolimit.keeps λb o e=>(e0.bs b o e).1
 have hkind:∀y∈ps.zip us,scope.names.lookup y.1=some .local\/(scope.names.lookup y.1=some .cell/\((cellsFrom (s.heap.objs.size+1) scope.names []).lookup y.1).isSome=true):=fun⟨n,v⟩ hy=>by
  rcases S.par n (of_mem_zip hy).1 with q |q
  ·exact .inl q
  ·exact .inr ⟨q,W.cellsFrom_some _ _ _ (.inl q)⟩
 refine codeAny_call_function hr.depth (KX _ _ lk) rfl S.co S.gen rfl (W.codeRec_of KX hcd) (hb _ _ _ _ ?_);refine wpAny_newFunctionEnv_cells S.kind hkind λenv he s1 x=>?_;subst he;refine⟨lim.keeps x.toInCall.keep,codeAny_func ?_⟩;obtain⟨t,ht,hq⟩:=hbody A outer s H vs Q E (hr.deeper _) hsp;have I:Inv (zw2 CX P w K mg base N qual scope f cdv A outer s H E) [] (ZI N vs) H s1:=zd8 S hr.hd e0 hl r x;refine ye (ht [] s1 (ZI N vs) H _ I hq) (λfl s' hs=>?_) λe s' hs=>hs
 have fin:∀{σ':St}{H':Hp}{v:V}{u:Value},Inv (zw2 CX P w K mg base N qual scope f cdv A outer s H E) [] σ' H' s'->RelV v u->Q v H'->CE outer P w H s Q u s':=
  λ{σ' H' v u} J rv q=>⟨v,H',J.os,J.bare,J.base,J.hok,rv,q⟩
 cases fl with
 |ret u=>
  obtain⟨v,σ',H',J,rv,q⟩:=hs;exact fin J rv q
 |next=>
  obtain⟨σ',H',J,q⟩:=hs;exact fin (v:=V.non) (u:=Value.none) J rfl q
 |brk=>
  obtain⟨_,_,_,q⟩:=hs;exact False.elim q
 |cont=>
  obtain⟨_,_,_,q⟩:=hs;exact False.elim q
section
variable {X:Cx}{x:Str}{p pos:Pos}{e:Expr}{es:List Expr}{t:TA}{id T:String}{r:List V->Hp->VK->Prop}
def tCB(r:List V->Hp->VK->Prop)(t:TA):TE:=λσ H Q=>t σ H λvs H1=>r vs H1 Q
def Kq(hc:qw X (.builtin id) r)(hg:Gl X x)(hm:X.mg x=none)(hv:bootBuiltins x=some (.builtin id))(ha:PA X (e::es) t)(hn:x ≠ "__name__" := by decide)(hdb:(x == ("__debug__" : Str))=false:=by decide)
  (he:starEach (e::es) X.env=(false,eval e X.env)::starEach es X.env:=by rfl) (hpl:(backTo pos (starEach es X.env)).any (·.1)=false:=by rfl):PE X (.Call (.Name x p) (e::es) [] pos) (tCB r t):=by
 intro pins s σ H Q I h;refine yp (WQ I hg hm hv ?_ hn hdb);exact PyProof.Rows.callWith_builtin1 (thn (ha pos pins s σ H _ I h) λus s1 ⟨vs,H1,I1,r1,q1⟩=>hc pins s1 σ H1 vs us Q I1 r1 q1) he hpl
def WC(hc:qw X (.type T) r)(hg:Gl X x)(hm:X.mg x=none)(hv:bootBuiltins x=some (.type T))(ha:PA X (e::es) t)(hn:x ≠ "__name__" := by decide)(hdb:(x == ("__debug__" : Str))=false:=by decide)
  (he:starEach (e::es) X.env=(false,eval e X.env)::starEach es X.env:=by rfl) (hpl:(backTo pos (starEach es X.env)).any (·.1)=false:=by rfl):PE X (.Call (.Name x p) (e::es) [] pos) (tCB r t):=by
 intro pins s σ H Q I h;refine yp (WQ I hg hm hv ?_ hn hdb);exact PyProof.Rows.callWith_type1 (thn (ha pos pins s σ H _ I h) λus s1 ⟨vs,H1,I1,r1,q1⟩=>hc pins s1 σ H1 vs us Q I1 r1 q1) he hpl
end
end L2
namespace HT
open PySem PyProof.Rows
def kW:List Int->List Int->Bool
 |[],[]=>false
 |[],_::_=>true
 |_::_,[]=>false
 |x::xs,y::ys=>if x=y then kW xs ys else decide (x<y)
def kU(x y:Int)(xs ys:List Int):kW (x::xs) (y::ys)=if x=y then kW xs ys else decide (x<y):=rfl
def XM:kW [] []=false:=rfl
def YL(y:Int)(ys:List Int):kW [] (y::ys)=true:=rfl
def YM(x:Int)(xs:List Int):kW (x::xs) []=false:=rfl
def zq5(A:Around)(s:Shared)(a:Int)(t:Tok)(c:Int)(u:Tok):∃e,SeqAt.EqAt A s (.int a t) (.int c u) e/\(e=true↔a=c):=
 ⟨(a == c),SeqAt.EqAt.int_int a t c u,by simp⟩
def zl6(A:Around)(s:Shared)(a:Int)(t:Tok)(c:Int)(u:Tok)(prog:Program)(w:World)(E:Value->Shared->Prop)(Q:Value->Shared->Prop)(h:Q (.bool (decide (a<c))) s) :
  wpAny (model prog w) A (richCompare .Lt (.int a t) (.int c u)) Q E s:=
 (PyProof.Rows.lt_int h:wpAny (model prog w) A (compareOp .Lt (.int a t) (.int c u)) Q E s)
section
open PySem.SeqAt
open PySem.AutoSeq1 (wpAny_loadPart')
open PySem.MeetsSeq PySem.MeetsSeq2 PySem.MeetsSeq3
def Xj(l b:Addr)(items items2:Array Value)(n n2:Nat)(dd dd2:Option Addr)(sl sl2:Array (Option Value))(ns ms:List Int)(hi:IntsAre items.toList ns)(hj:IntsAre items2.toList ms) :
  Meets (Builtin.«tuple.__lt__» ⟨[.ref l,.ref b],[]⟩)
   (λ_ R s => s.heap.get? l = some { cls := .type "tuple", dict := dd, data := .seq items n, slots := sl } /\ s.heap.get? b = some { cls := .type "tuple", dict := dd2, data := .seq items2 n2, slots := sl2 } /\
    R (.ok (.ret (.bool (kW ns ms)))) s):=
 .of_wp λprog w A R s h=>by
  obtain⟨hp,g,d,tk,os⟩:=s;obtain⟨hl,hb,h⟩:=h;have f2:=AutoSeq1.sub_tuple_tuple
  have z1:items.size=ns.length:=by rw[<- hi.length];simp
  have z2:items2.size=ms.length:=by rw[<- hj.length];simp
  wp_walk using wpAny_loadPart' hl,wpAny_loadPart' hb,wpAny_forIn_list _ (λrest b s'=>b.1=none/\s'=⟨hp,g,d,tk,os⟩/\∃(vs ws:List Value) (ns' ms':List Int),rest=vs.zip ws /\
   IntsAre vs ns'/\IntsAre ws ms'/\ns'.length+items2.size=ms'.length+items.size/\R (.ok (.ret (.bool (kW ns' ms')))) ⟨hp,g,d,tk,os⟩) _
  case turn=>
   rintro⟨y,x⟩ rest b s' ⟨hb',rfl,vs,ws,ns',ms',hz,hvi,hwi,hlen,hR⟩
   cases hvi with
   |nil=>rw[List.zip_nil_left] at hz;cases hz
   | cons a t hvi' =>
    cases hwi with
    |nil=>rw[List.zip_nil_right] at hz;cases hz
    | cons c u hwi' =>
     rw[yt] at hz;injection hz with hyx hrest;injection hyx with hy hx;subst hy hx;rw[kU] at hR;simp only[zu] at hlen;obtain⟨e,he,hiff⟩:=zq5 A.in1 ⟨hp,g,d,tk,os⟩ a t c u;refine zb (he prog w _ _ ?_)
     cases e with
     |true=>
      rw[if_pos (hiff.mp rfl)] at hR
      wp_walk
      exact⟨rfl,rfl,_,_,_,_,hrest,hvi',hwi',w5,hR⟩
     |false=>
      rw[if_neg (λq=>absurd (hiff.mpr q) zQ)] at hR;have hri:=zl6 A.in1 ⟨hp,g,d,tk,os⟩ a t c u prog w
      wp_walk using hri
      exact⟨_,rfl,by simpa using hR⟩
  case fin=>
   rintro⟨b1,b2⟩ s' ⟨hb',rfl,vs,ws,ns',ms',hz,hvi,hwi,hlen,hR⟩;simp only at hb';subst hb'
   have hv:kW ns' ms'=decide (items.size<items2.size):=by
    cases hvi with
    | nil =>
     cases hwi with
     |nil=>
      simp only[wK] at hlen;rw[XM]
      exact(zU w5).symm
     |cons c u hw=>
      simp only[wK,zu] at hlen;rw[YL]
      exact(xC w5).symm
    | cons a t hv =>
     cases hwi with
     |nil=>
      simp only[wK,zu] at hlen;rw[YM]
      exact(zU w5).symm
     |cons c u hw=>
      rw[yt] at hz;cases hz
   rw[hv] at hR
   wp_walk
   exact⟨_,rfl,by simpa [Builtin.Tuple.tupleCompareSizes] using hR⟩
  case h=>
   exact⟨rfl,rfl,items.toList,items2.toList,ns,ms,rfl,hi,hj,w5,h⟩
end
section
variable {prog:Program}{w:World}{A:Around}{E:Value->Shared->Prop}{s:Shared}
def JB{l b:Addr}{items items2:Array Value}{ns ms:List Int}{Q:Value->Shared->Prop}(hl:IsTup s.heap l items)(hb:IsTup s.heap b items2)(hi:IntsAre items.toList ns)(hj:IntsAre items2.toList ms)
  (hu:A.units<cLine) (h:Q (.bool (kW ns ms)) s):wpAny (model prog w) A (compareOp .Lt (.ref l) (.ref b)) Q E s:=by
 obtain⟨⟨cls,dd,data,sl⟩,ho,hc,n,hd⟩:=id hl;obtain⟨⟨cls2,dd2,data2,sl2⟩,ho2,hc2,n2,hd2⟩:=id hb;simp only at hc hd hc2 hd2;subst hc hd hc2 hd2
 exact richCompare_meets_room (op:=.Lt) ⟨_,ho,rfl⟩ ⟨_,ho2,rfl⟩ PySem.F.slot_tuple_lt PySem.F.entry_tuple_lt (PySem.F.args_tuple_lt_2 _ _) (Xj l b items items2 n n2 dd dd2 sl sl2 ns ms hi hj)
  ⟨ho,ho2,show Value.bool (kW ns ms)≠Value.notImplemented/\Q (.bool (kW ns ms)) s from⟨(λx=>nomatch x),h⟩⟩ hu
def zH4{t b:Addr}{vs ws:List Value}{Q:Value->Shared->Prop}(ht:IsTup s.heap t vs.toArray)(hb:IsTup s.heap b ws.toArray)(hv:vs≠[])
  (h1:ws=[]->Q (.ref t) s) (h2:ws≠[]->Q (.ref s.heap.objs.size) { s with heap:=s.heap.push { cls:=.type "tuple",data:=.seq (vs++ws).toArray } })
  (hsz:vs.length+ws.length<=sizeLine):wpAny (model prog w) A (binaryOp .Add (.ref t) (.ref b)) Q E s:=by
 obtain⟨⟨cls,dd,data,sl⟩,ho,hc,n,hd⟩:=id ht;obtain⟨⟨cls2,dd2,data2,sl2⟩,ho2,hc2,n2,hd2⟩:=id hb;simp only at hc hd hc2 hd2;subst hc hd hc2 hd2
 have e:vs.toArray++ws.toArray=(vs++ws).toArray:=by simp
 by_cases hw:ws=[]
 ·exact concat_meets ⟨_,ho,rfl⟩ ⟨_,ho2,rfl⟩ noFill_tuple_add seq_tuple_add PySem.F.slot_tuple_add PySem.F.entry_tuple_add (PySem.F.args_tuple_add_2 _ _)
   (tuple_addW1 t b vs.toArray ws.toArray n n2 dd dd2 sl sl2 (by simpa using hv) (by simp[hw])) ⟨ho,ho2,h1 hw⟩
 ·refine concat_meets ⟨_, ho, rfl⟩ ⟨_, ho2, rfl⟩ noFill_tuple_add seq_tuple_add PySem.F.slot_tuple_add PySem.F.entry_tuple_add (PySem.F.args_tuple_add_2 _ _)
   (tuple_addW2 t b vs.toArray ws.toArray n n2 dd dd2 sl sl2 (by simpa using hv) (by simpa using hw) (by rw[zt,zt];exact hsz)) ⟨ho,ho2,?_⟩
  rw[e];exact h2 hw
def sIx(n d:Nat):Option Int->Nat
 |none=>d
 |some v=>if v<0 then(v+(n:Int)).toNat else min v.toNat n
def Zv(n d:Nat):sIx n d none=d:=rfl
def Qx(n d k:Nat):sIx n d (some (k:Int))=min k n:=by
 show(if (k:Int)<0 then((k:Int)+(n:Int)).toNat else min (k:Int).toNat n)=min k n
 rw[if_neg w5,Int.toNat_natCast]
def zL3(n d:Nat)(hd:d<=n)(o:Option Int):sIx n d o<=n:=by
 cases o with
 |none=>exact hd
 |some v=>
  show(if v<0 then(v+(n:Int)).toNat else min v.toNat n)<=n
  by_cases hv:v<0
  ·rw[if_pos hv];lia
  ·rw[if_neg hv];exact Nat.min_le_right _ _
def zh3(v:Int)(n d:Nat):(if v<0 then max (v+(n:Int)) 0 else min v (n:Int))=((sIx n d (some v):Nat):Int):=by
 show(if v<0 then max (v+(n:Int)) 0 else min v (n:Int))=(((if v<0 then(v+(n:Int)).toNat else min v.toNat n):Nat):Int)
 by_cases hv:v<0
 ·simp only[if_pos hv];lia
 ·simp only[if_neg hv];lia
def JR(lo hi:Option Int)(n:Nat):Builtin.Slice.sliceAdjust lo hi 1 (n:Int)=(((sIx n 0 lo:Nat):Int),((sIx n n hi:Nat):Int)):=by
 have h1:¬ ((1:Int)<0):=w5
 unfold Builtin.Slice.sliceAdjust;simp only[h1,if_false];refine Prod.ext ?_ ?_
 ·cases lo with
  |none=>rfl
  |some v=>exact zh3 v n 0
 ·cases hi with
  |none=>rfl
  |some v=>exact zh3 v n n
def Jn(i j:Nat):Builtin.Slice.slicePlaces (i:Int) (j:Int) 1=j-i:=by
 unfold Builtin.Slice.slicePlaces
 have h1:(1:Int) > 0:=w5
 simp only[h1,if_true,Int.ediv_one]
 split<;>lia
def YV{v:Value}{o:Option Int}{Q:Option Int->Shared->Prop}(p:IsPart v o)(h:Q o s):wpAny (model prog w) A (Builtin.Slice.slicePartIndex v) Q E s:=by
 cases p with
 |none=>exact slicePart_none h
 |int i t=>exact slicePart_int h
def qr{sl:Addr}{vl vu:Value}{lo hi:Option Int}{n:Nat}{Q:Int × Int × Nat->Shared->Prop}(hs:s.heap.IsSliceOf sl vl vu .none)(pl:IsPart vl lo)(pu:IsPart vu hi)
  (h:Q (((sIx n 0 lo:Nat):Int),1,sIx n n hi-sIx n 0 lo) s):wpAny (model prog w) A (Builtin.Slice.sliceApplied (.ref sl) (pure (n:Int))) Q E s:=by
 obtain⟨os,hos,hcs,hds⟩:=id hs;unfold Builtin.Slice.sliceApplied Builtin.Slice.sliceFields;refine zb (zb (wpAny_field hos hds (x:=vl) rfl (zb (wpAny_field hos hds (x:=vu) rfl (zb (wpAny_field hos hds (x:=.none) rfl (zf ?_)))))));refine zb (slicePart_none ?_)
 show wpAny _ _ (if ((1:Int) == 0)=true then _ else _) _ _ s
 rw[if_neg w6]
 refine zb (YV pl (zb (YV pu (zb (zf ?_)))))
 show wpAny _ _ (match Builtin.Slice.sliceAdjust lo hi 1 (n:Int) with |(lo,hi)=>pure (lo,(1:Int),Builtin.Slice.slicePlaces lo hi 1)) _ _ s
 rw[JR lo hi n];show wpAny _ _ (pure (((sIx n 0 lo:Nat):Int),(1:Int),Builtin.Slice.slicePlaces ((sIx n 0 lo:Nat):Int) ((sIx n n hi:Nat):Int) 1)) _ _ s;rw[Jn];exact zf h
def Km(xs:Array Value)(i k:Nat):((List.range k).filterMap fun(m:Nat)=>xs[((i:Int)+(m:Int)*1).toNat]?).toArray=((xs.toList.drop i).take k).toArray:=by
 have e:(fun(m:Nat)=>xs[((i:Int)+(m:Int)*1).toNat]?)=λm=>xs[i+m]?:=by
  funext m
  have:((i:Int)+(m:Int)*1).toNat=i+m:=w5
  rw[this]
 rw[e];have:=pick_run xs i k;rw[filterMap_map] at this;have e2:((λx=>xs[x]?)∘λx=>i+x)=λm=>xs[i+m]?:=rfl;rw[e2] at this;rw[this]
def Zf{t sl:Addr}{items:Array Value}{vl vu:Value}{lo hi:Option Int}{Q:Value->Shared->Prop}(ht:IsTup s.heap t items)(hs:s.heap.IsSliceOf sl vl vu .none)(pl:IsPart vl lo)(pu:IsPart vu hi)
  (hw:¬ (sIx items.size 0 lo=0/\sIx items.size items.size hi=items.size))
  (h:Q (.ref s.heap.objs.size) { s with heap:=s.heap.push { cls:=.type "tuple",data:=.seq ((items.toList.drop (sIx items.size 0 lo)).take (sIx items.size items.size hi-sIx items.size 0 lo)).toArray } })
  (hsz:items.size<=sizeLine):wpAny (model prog w) A (getItem (.ref t) (.ref sl)) Q E s:=by
 have htake:sizeOk (.seq ((items.toList.drop (sIx items.size 0 lo)).take (sIx items.size items.size hi-sIx items.size 0 lo)).toArray):=by
  show((items.toList.drop (sIx items.size 0 lo)).take (sIx items.size items.size hi-sIx items.size 0 lo)).toArray.size<=sizeLine;rw[zt,xm,wq,zg];lia
 have hj:sIx items.size items.size hi<=items.size:=zL3 _ _ (zd _) hi;obtain⟨os,hos,hcs,hds⟩:=id hs;have hTs:s.TypeIs (.ref sl) "slice" := ⟨os,hos,hcs⟩;unfold getItem
 try with_reducible refine wF ?_
 first |refine zb (zf ?_) |skip
 refine zb (wpAny_sequenceKey ht.typeIs w6 ?_)
 refine zb (wpAny_callSpecial?_slot (name:=Str.ofString "__getitem__") ht.typeIs PyProof.Rows.slot_tuple_getitem
  (wpAny_call_entry PyProof.Rows.slot_tuple_getitem ht.typeIs entry_tuple_getitem ?_ (args_tuple_getitem _ _)))
 show wpAny _ _ (Builtin.Tuple.tupleItemsOf (.ref t) >>= _) _ _ s;refine zb (tupleItemsOf_ ht ?_);refine zb (wpAny_typeOf hTs ?_)
 rw[if_pos w6]
 refine zb (qr hs pl pu ?_)
 have hno:¬ ((((sIx items.size 0 lo:Nat):Int) == 0&&(1:Int) == 1&&(sIx items.size items.size hi-sIx items.size 0 lo) == items.size)=true):=by
  intro q;rw[xB,xB] at q;have q1:((sIx items.size 0 lo:Nat):Int)=0:=eq_of_beq q.1.1;have q2:sIx items.size items.size hi-sIx items.size 0 lo=items.size:=eq_of_beq q.2
  exact hw ⟨w5,w5⟩
 show wpAny _ _ (if (((sIx items.size 0 lo:Nat):Int) == 0&&(1:Int) == 1&&(sIx items.size items.size hi-sIx items.size 0 lo) == items.size)=true then _ else _) _ _ s
 rw[if_neg hno,Km]
 first
  |exact zb (m:=Builtin.Tuple.tupleExact _) (wf (zf ⟨_,rfl,zf h⟩) htake)
  |exact zb (m:=Builtin.Tuple.tupleExact _) (wf (zb (zf (zf ⟨_,rfl,zf h⟩))) htake)
  |exact zb (zb (m:=Builtin.Tuple.tupleExact _) (wf (zf (zf ⟨_,rfl,zf h⟩)) htake))
  |exact zb (zb (m:=Builtin.Tuple.tupleExact _) (wf (zf ⟨_,rfl,zf h⟩) htake))
end
end HT
namespace L2
abbrev TO:=St->Hp->(Option Int->Hp->Prop)->Prop
def PO(X:Cx)(e:Option Expr)(t:TO):Prop:=
 ∀(pins:List (Addr × Obj)) (s:Shared) (σ:St) (H:Hp) (Q:Option Int->Hp->Prop),Inv X pins σ H s->t σ H Q ->
  wpAny (model X.prog X.w) X.A (evalPart e X.env) (λu s'=>∃o H',Inv X pins σ H' s'/\IsPart u o/\Q o H') X.xe s
def zx0:TO:=λ_ H Q=>Q none H
def xb1(t:TE):TO:=λσ H Q=>t σ H λx H1=>∃i,x=.int i/\Q (some i) H1
def qO{ns:List Int}:∀{us:List Value},Vals (ns.map V.int) us->IntsAre us ns:=by
 induction ns with
 |nil=>intro us r;rw[xT] at r;cases r;exact .nil
 | cons n ns ih =>
  intro us r;rw[zy] at r
  cases r with
  |cons r1 r2=>
   obtain⟨t,e⟩:=r1;subst e;exact .cons n t (ih r2)
section
variable {X:Cx}{e:Expr}{te:TE}{lo hi:Option Expr}{tl th:TO}{pos p2:Pos}
def zB1:PO X none zx0:=by
 intro pins s σ H Q I h;rw[evalPart_none];exact zf ⟨none,H,I,.none,h⟩
def zB0(h:PE X e te):PO X (some e) (xb1 te):=by
 intro pins s σ H Q I hw;rw[evalPart_some];refine thn (h pins s σ H _ I hw) λu s1 ⟨x,H1,I1,r1,q1⟩=>?_;obtain⟨i,rfl,q⟩:=q1;obtain⟨t,rfl⟩:=r1;exact⟨some i,H1,I1,.int i t,q⟩
def SlR(X:Cx)(r:V->Option Int->Option Int->Hp->VK->Prop):Prop:=
 ∀(pins:List (Addr × Obj)) (s:Shared) (σ:St) (H:Hp) (x:V) (v vl vu:Value) (lo hi:Option Int) (sl:Addr) (Q:VK),Inv X pins σ H s->RelV x v->s.heap.IsSliceOf sl vl vu .none->IsPart vl lo->IsPart vu hi->r x lo hi H Q ->
  ∃T id,typeLookup (.type T) "__getitem__" = pure (some (.builtin id))/\s.TypeIs v T/\wpAny (model X.prog X.w) X.A (getItem v (.ref sl)) (EP X pins σ Q) X.xe s
def tSl(r:V->Option Int->Option Int->Hp->VK->Prop)(te:TE)(tl th:TO):TE:=λσ H Q=>te σ H λx H1=>tl σ H1 λl H2=>th σ H2 λu H3=>r x l u H3 Q
def Ko{r:V->Option Int->Option Int->Hp->VK->Prop}(hr:SlR X r)(he:PE X e te)(hl:PO X lo tl)(hu:PO X hi th):PE X (.Subscript e (.Slice lo hi none p2) pos) (tSl r te tl th):=by
 intro pins s σ H Q I h;refine Subscript_ (thn (he pins s σ H _ I h) λv s1 ⟨x,H1,I1,r1,q1⟩=>?_);refine wpAny_Slice (thn (hl pins s1 σ H1 _ I1 q1) λvl s2 ⟨l,H2,I2,pl,q2⟩=>thn (hu pins s2 σ H2 _ I2 q2) λvu s3 ⟨u,H3,I3,pu,q3⟩=>?_);rw[evalPart_none];refine zf ?_;have I4:Inv X pins σ H3 { s3 with heap:=s3.heap.push { cls:=.type "slice",data:=.fields #[vl,vu,.none] } }:=I3.kept (t':=s3.toks) λb ob q=>ze _ q;obtain⟨T,id,hT,ht,hg⟩:=hr pins { s3 with heap:=s3.heap.push { cls:=.type "slice",data:=.fields #[vl,vu,.none] } } σ H3 x v vl vu l u s3.heap.objs.size Q I4 r1 (Heap.IsSliceOf.new ..) pl pu q3;show wpAny (model X.prog X.w) X.A (subscriptTail e (.Slice lo hi none p2) v (.ref s3.heap.objs.size)) (EP X pins σ Q) X.xe { s3 with heap:=s3.heap.push { cls:=.type "slice",data:=.fields #[vl,vu,.none] } }
 exact tail_any (ops:=[.ref s3.heap.objs.size,v]) ht hT hg (by with_unfolding_all rfl)
def zr7(xs:List V)(lo hi:Option Int):List V:=(xs.drop (HT.sIx xs.length 0 lo)).take (HT.sIx xs.length xs.length hi-HT.sIx xs.length 0 lo)
def Yt(xs:List V)(lo hi:Option Int):(zr7 xs lo hi).length<=xs.length:=by
 unfold zr7;rw[xm,wq];lia
def xy1(K:W.Frag):V->Option Int->Option Int->Hp->VK->Prop:=λx lo hi H Q=>∃a xs,x=.ref a/\SqT K H a xs /\
 ¬ (HT.sIx xs.length 0 lo=0/\HT.sIx xs.length xs.length hi=xs.length)/\∀p,H p=none->Q (.ref p) (upd H p (.tup (zr7 xs lo hi)))
def zK5:SlR X (xy1 X.K):=by
 intro pins s σ H x v vl vu lo hi sl Q I rx hs pl pu h;obtain⟨a,xs,rfl,hx,hw,q⟩:=h;cases rx;obtain⟨its,r,ht,hz⟩:=I.tuple hx
 have hlen:its.toArray.size=xs.length:=by rw[zt];exact r.length.symm
 refine⟨"tuple",_,PyProof.Rows.slot_tuple_getitem.lookup,ht.typeIs,?_⟩
 refine HT.Zf ht hs pl pu (by rw[hlen];exact hw) ?_ (by rw[hlen];exact hz)
 rw[hlen];refine⟨.ref s.heap.objs.size,_,I.laid (t':=s.toks) (o:=.tup (zr7 xs lo hi)) (λb ob q=>ze _ q) (zd _) ?_,rfl,q _ (I.hok.fresh (zd _))⟩;exact⟨zw (Yt xs lo hi) hz,_,(r.drop (HT.sIx xs.length 0 lo)).take (HT.sIx xs.length xs.length hi-HT.sIx xs.length 0 lo),IsTup.new _ _⟩
def xe1(K:W.Frag):R2:=λx y H Q=>∃a b xs ys,x=.ref a/\y=.ref b/\SqT K H a xs/\SqT K H b ys/\xs≠[]/\xs.length+ys.length<=sizeLine /\
 (ys=[]->Q (.ref a) H)/\(ys≠[]->∀p,H p=none->Q (.ref p) (upd H p (.tup (xs++ys))))
def Vals.nil_iff{xs:List V}{us:List Value}(r:Vals xs us):us=[]↔xs=[]:=by
 cases r with
 |nil=>simp
 |cons _ _=>simp
def zD1:OpR X (binaryOp .Add) (xe1 X.K):=by
 intro pins s σ H x y v u Q I rx ry h;obtain⟨a,b,xs,ys,rfl,rfl,ha,hb,hx,hz,q1,q2⟩:=h;cases rx;cases ry;obtain⟨its,r1,p1,_⟩:=I.tuple ha;obtain⟨its2,r2,p2,_⟩:=I.tuple hb
 refine HT.zH4 p1 p2 (λz=>hx (r1.nil_iff.mp z)) (λz=>⟨.ref a,H,I,rfl,q1 (r2.nil_iff.mp z)⟩) (λz=>?_) (by rw[<- r1.length,<- r2.length];exact hz)
 refine⟨.ref s.heap.objs.size,_,I.laid (t':=s.toks) (o:=.tup (xs++ys)) (λb ob q=>ze _ q) (zd _) ?_,rfl,q2 (λw=>z (r2.nil_iff.mpr w)) _ (I.hok.fresh (zd _))⟩
 exact⟨by rw[zm];exact hz,_,r1.append r2,IsTup.new _ _⟩
end
def ixN(n:Nat)(i:Int):Option Nat:=if 0<=i then(if i<n then some i.toNat else none) else if -(n:Int)<=i then some (i+n).toNat else none
def atI{α:Type}(xs:List α)(i:Int):Option α:=(ixN xs.length i).bind λj=>xs[j]?
def zd7{n:Nat}{i:Int}{j:Nat}(h:ixN n i=some j):seqIndex? i n=some j/\j<n/\-(n:Int)<=i/\i<n:=by
 unfold ixN at h
 by_cases h0:0<=i
 ·rw [if_pos h0] at h
  by_cases h1:i<n
  ·rw [if_pos h1] at h;have e:i.toNat=j:=zF h
   exact⟨by rw[seqIndex_of h0 h1,e],w5,w5,h1⟩
  ·rw[if_neg h1] at h;cases h
 ·rw [if_neg h0] at h
  by_cases h1:-(n:Int)<=i
  ·rw [if_pos h1] at h;have e:(i+n).toNat=j:=zF h
   exact⟨by rw[seqIndex_neg w5 h1,e],w5,h1,w5⟩
  ·rw[if_neg h1] at h;cases h
def UG{α:Type}{xs:List α}{i:Int}{v:α}(h:atI xs i=some v):∃j,seqIndex? i xs.length=some j/\xs[j]?=some v/\j<xs.length/\-(xs.length:Int)<=i/\i<xs.length:=by
 unfold atI at h
 cases e:ixN xs.length i with
 |none=>rw[e] at h;cases h
 |some j=>
  rw[e] at h;obtain⟨h1,h2,h3,h4⟩:=zd7 e;exact⟨j,h1,h,h2,h3,h4⟩
def Yz{α:Type}{xs:List α}{j:Nat}{v:α}(h:xs[j]?=some v):atI xs (j:Int)=some v:=by
 have hj:j<xs.length:=(zP.mp h).1
 have e:ixN xs.length (j:Int)=some j:=by
  unfold ixN
  rw[if_pos w5,if_pos w5];simp
 unfold atI;rw[e];exact h
def UI(b:Expr):Prop:=∀o i,subscripted b false o i=operate [o,i] (getItem o i)
def IxR(X:Cx)(r:R2):Prop:=
 ∀(value slice:Expr) (pins:List (Addr × Obj)) (s:Shared) (σ:St) (H:Hp) (x y:V) (v u:Value) (Q:VK),Inv X pins σ H s->RelV x v->RelV y u->r x y H Q ->
  subscripted slice false v u=operate [v,u] (getItem v u)->wpAny (model X.prog X.w) X.A (subscriptTail value slice v u) (EP X pins σ Q) X.xe s
def MtR(X:Cx)(id:String)(r:V->List V->Hp->VK->Prop):Prop:=
 ∀(pins:List (Addr × Obj)) (s:Shared) (σ:St) (H:Hp) (x:V) (xs:List V) (v:Value) (us:List Value) (Q:VK),Inv X pins σ H s->RelV x v->Vals xs us->r x xs H Q ->
  wpAny (model X.prog X.w) X.A (call (.builtin id) (v::us)) (EP X pins σ Q) X.xe s
section
variable {X:Cx}{a b:Expr}{ta tb:TE}{pos:Pos}
def IxR.or{r r':R2}(h:IxR X r)(h':IxR X r'):IxR X (λx y H Q=>r x y H Q\/r' x y H Q):=by
 intro value slice pins s σ H x y v u Q I rx ry q hs
 rcases q with q |q
 ·exact h value slice pins s σ H x y v u Q I rx ry q hs
 ·exact h' value slice pins s σ H x y v u Q I rx ry q hs
def zO8{r:R2}(hr:IxR X r)(ha:PE X a ta)(hb:PE X b tb)(hs:UI b):PE X (.Subscript a b pos) (tOp r ta tb):=by
 intro pins s σ H Q I h;exact Subscript_ (xo6 ha hb I h λv u s2 x y H2 I2 rx ry q=>hr a b pins s2 σ H2 x y v u Q I2 rx ry q (hs _ _))
def xq0(K:W.Frag):R2:=λx y H Q=>∃p xs i v,x=.ref p/\y=.int i/\SqL K H p xs/\atI xs i=some v/\Q v H
def xp8(K:W.Frag):R2:=λx y H Q=>∃p xs i v,x=.ref p/\y=.int i/\SqT K H p xs/\atI xs i=some v/\Q v H
def xp9:R2:=λx y H Q=>∃z i c,x=.str z/\y=.int i/\z.length<=sizeLine/\atI z.cps.toList i=some c/\Q (.str ⟨#[c]⟩) H
def zd6:IxR X (xq0 X.K):=by
 intro value slice pins s σ H x y v u Q I rx ry h hs;obtain⟨p,xs,i,z,rfl,rfl,hq,he,q⟩:=h;cases rx;obtain⟨t,rfl⟩:=ry;obtain⟨its,r,pl,hz⟩:=I.list hq;obtain⟨j,h1,h2,h3,h4,h5⟩:=UG he;obtain⟨w,ew,rw'⟩:=r.get h2;have hl:=r.length;have hn:=WO;have fin:EP X pins σ Q w s:=⟨z,H,I,rw',q⟩
 by_cases h0:0<=i
 ·have hj : i.toNat = j := by
   rw[seqIndex_of h0 h5] at h1;exact zF h1
  exact item_listR pl.isList h0 w5 (by rw[hj];simpa using ew) fin hs
 ·have hj : (i + (its.toArray.size : Int)).toNat = j := by
   rw[seqIndex_neg w5 h4] at h1
   rw[zt,<- hl];exact zF h1
  exact subscriptTail_builtinR (x:=w) pl.isList.typeIs slot_list_getitem.lookup
   (wpAny_getItem_list_neg (Q:=λr s'=>r=w/\EP X pins σ Q r s') pl.isList w5 (by rw[zt]<;>lia) w5 (by rw[hj];simpa using ew) ⟨rfl,fin⟩) hs
def zS4:IxR X (xp8 X.K):=by
 intro value slice pins s σ H x y v u Q I rx ry h hs;obtain⟨p,xs,i,z,rfl,rfl,hq,he,q⟩:=h;cases rx;obtain⟨t,rfl⟩:=ry;obtain⟨its,r,pl,hz⟩:=I.tuple hq;obtain⟨j,h1,h2,h3,h4,h5⟩:=UG he;obtain⟨w,ew,rw'⟩:=r.get h2;have hl:=r.length;have hn:=WO;have fin:EP X pins σ Q w s:=⟨z,H,I,rw',q⟩
 exact subscriptTail_builtinR (x:=w) pl.typeIs slot_tuple_getitem.lookup
  (getItem_tuple (j:=j) (Q:=λr s'=>r=w/\EP X pins σ Q r s') pl w5 w5 (by rw[zt,<- hl];exact h1) (by simpa using ew) ⟨rfl,fin⟩) hs
def zS5:IxR X xp9:=by
 intro value slice pins s σ H x y v u Q I rx ry h hs;obtain⟨z,i,c,rfl,rfl,hz,he,q⟩:=h;obtain⟨t,rfl⟩:=rx;obtain⟨t',rfl⟩:=ry;obtain⟨j,h1,h2,h3,h4,h5⟩:=UG he
 have hl:z.cps.toList.length=z.length:=by simp[Str.length]
 rw[hl] at h1 h4 h5;have hn:=WO
 exact tail_any (typeIs_str s z t) slot_str_getitem.lookup (getItem_str (c:=c) (by
  have e1:decide (i < -(2^63:Int))=false:=zU w5
  have e2:decide (i>=2^63)=false:=zU w5
  rw[e1,e2,Bool.or_false]) (by rw[h1];simpa using h2) ⟨.str ⟨#[c]⟩,H,I.tok _,⟨_,rfl⟩,q⟩) hs
def rIx(K:W.Frag):R2:=λx y H Q=>xq0 K x y H Q\/xp8 K x y H Q\/xp9 x y H Q
def kX:IxR X (rIx X.K):=zd6.or (zS4.or zS5)
def Jy(its:List Value)(n j:Nat)(u:Value):Obj.mapSeq (·.setIfInBounds j u) { cls:=.type "list",data:=.seq its.toArray n }={ cls:=.type "list",data:=.seq (its.set j u).toArray n }:=by
 simp[Obj.mapSeq]
def Inv.lst{pins:List (Addr × Obj)}{σ:St}{H:Hp}{s:Shared}{p:Addr}{xs:List V}(I:Inv X pins σ H s)(h:H p=some (.lst xs)) :
  ∃(its:List Value) (n:Nat),Vals xs its/\s.heap.get? p=some { cls:=.type "list",data:=.seq its.toArray n }/\xs.length<=sizeLine:=by
 obtain⟨z,its,n,r,e⟩:=I.hok p _ h;exact⟨its,n,r,e,z⟩
def Inv.lstUpd{pins:List (Addr × Obj)}{σ:St}{H:Hp}{s:Shared}{p:Addr}{xs ys:List V}{its its':List Value}{n n':Nat}{f:Obj->Obj}(I:Inv X pins σ H s)(h:H p=some (.lst xs))
  (ho:s.heap.get? p=some { cls:=.type "list",data:=.seq its.toArray n }) (hf:f { cls:=.type "list",data:=.seq its.toArray n }={ cls:=.type "list",data:=.seq its'.toArray n' }) (r:Vals ys its') (hz:ys.length<=sizeLine) (t:Nat) :
  Inv X pins σ (upd H p (.lst ys)) { s with heap:=s.heap.update p f,toks:=t }:=by
 have e:(s.heap.update p f).get? p=some { cls:=.type "list",data:=.seq its'.toArray n' }:=by
  rw[Heap.get?_update_self f ho (by rw[hf]<;>rfl),hf]
 refine I.write (x:=p) (e:=p) (by rw[h];trivial) (.inl rfl) (λb u hb q=>(Heap.get?_update_other _ _ (Ne.symm hb)).trans q) ⟨_,e⟩ ?_
 exact⟨hz,its',n',r,e⟩
def xd9:V->V->V->Hp->(Hp->Prop)->Prop:=λo i v H Q=>∃p xs k j,o=.ref p/\i=.int k/\H p=some (.lst xs)/\ixN xs.length k=some j/\Q (upd H p (.lst (xs.set j v)))
def zk1:xw0 X xd9:=by
 intro pins s σ H o i v ov iv u Q I ro ri rv h;obtain⟨p,xs,k,j,rfl,rfl,hp,hj,q⟩:=h;cases ro;obtain⟨t,rfl⟩:=ri;obtain⟨its,n,r,ho,hz⟩:=I.lst hp;obtain⟨h1,h2,h3,h4⟩:=zd7 hj;have hl:=r.length;have hn:=WO
 have I':Inv X pins σ (upd H p (.lst (xs.set j v))) { s with heap:=s.heap.update p (Obj.mapSeq (·.setIfInBounds j u)) }:=
  I.lstUpd hp ho (Jy its n j u) (r.set rv j) (by rw[length_set];exact hz) s.toks
 by_cases h0:0<=k
 ·have hk : k.toNat = j := by
   rw[seqIndex_of h0 h4] at h1;exact zF h1
  exact W.ki_setAt ho h0 w5 (by rw[zt,<- hl];exact h4) (by rw[hk];exact⟨_,I',q⟩)
 ·have hk : (k + (its.toArray.size : Int)).toNat = j := by
   rw[seqIndex_neg w5 h3] at h1
   rw[zt,<- hl];exact zF h1
  exact W.ki_setBack ho w5 (by rw[zt,<- hl];exact h3) w5 (by rw[hk];exact⟨_,I',q⟩)
def Wi(lo hi:Option Int)(n:Nat):(sliceBounds lo hi none n).1=((HT.sIx n 0 lo:Nat):Int)/\(sliceBounds lo hi none n).2.1=((HT.sIx n n hi:Nat):Int)/\(sliceBounds lo hi none n).2.2=1:=by
 refine⟨?_,?_,rfl⟩
 ·cases lo with
  |none=>simp[sliceBounds,HT.sIx]
  |some i=>
   simp only[sliceBounds,HT.sIx,Option.getD_none,show(1:Int) > 0 by decide,if_true]
   by_cases h:i<0
   ·simp only[h,if_true]<;>lia
   ·simp only[h,if_false]<;>lia
 ·cases hi with
  |none=>simp[sliceBounds,HT.sIx]
  |some i=>
   simp only[sliceBounds,HT.sIx,Option.getD_none,show(1:Int) > 0 by decide,if_true]
   by_cases h:i<0
   ·simp only[h,if_true]<;>lia
   ·simp only[h,if_false]<;>lia
def Xn(its:List Value)(lo hi:Option Int):slicePick its.toArray lo hi none=((its.drop (HT.sIx its.length 0 lo)).take (HT.sIx its.length its.length hi-HT.sIx its.length 0 lo)).toArray:=by
 obtain⟨h1,h2,h3⟩:=Wi lo hi its.toArray.size;unfold slicePick;rw[h1,h2,h3]
 simp only[sliceRange_one,pick_run,zt]<;>rfl
def xy2(K:W.Frag):V->Option Int->Option Int->Hp->VK->Prop:=λx lo hi H Q=>∃a xs,x=.ref a/\SqL K H a xs/\∀p,H p=none->Q (.ref p) (upd H p (.lst (zr7 xs lo hi)))
def zx4:SlR X (xy2 X.K):=by
 intro pins s σ H x v vl vu lo hi sl Q I rx hs pl pu h;obtain⟨a,xs,rfl,hx,q⟩:=h;cases rx;obtain⟨its,r,ht,hz⟩:=I.list hx;have hlen:=r.length;refine⟨"list",_,slot_list_getitem.lookup,ht.isList.typeIs,?_⟩
 refine wpAny_getItem_list_slice ht.isList hs pl pu .none (by simp) ?_ (by rw[zt]<;>lia)
 rw[Xn,<- hlen];refine⟨.ref s.heap.objs.size,_,I.laid (t':=s.toks) (o:=.lst (zr7 xs lo hi)) (λb ob q=>ze _ q) (zd _) ?_,rfl,q _ (I.hok.fresh (zd _))⟩;exact⟨zw (Yt xs lo hi) hz,_,0,(r.drop (HT.sIx xs.length 0 lo)).take (HT.sIx xs.length xs.length hi-HT.sIx xs.length 0 lo),zD _ rfl⟩
def wV:qw X (.builtin "len") (λxs H Q=>∃p ys,xs=[.ref p]/\(SqL X.K H p ys\/SqT X.K H p ys)/\Q (.int ys.length) H):=by
 intro pins s σ H xs us Q I r h;obtain⟨p,ys,rfl,hq,q⟩:=h;obtain⟨u,rfl,rx⟩:=YC r;cases rx;have hn:=WO
 rcases hq with hq |hq
 ·obtain ⟨its, r', pl, hz⟩ := I.list hq;have hlen:=r'.length
  exact Calls.call_len_list pl.isList (by simp only[zt]<;>lia) ⟨.int ys.length,H,I.tok _,⟨s.toks+1,by rw[zt,hlen]⟩,q⟩
 ·obtain ⟨its, r', pl, hz⟩ := I.tuple hq;have hlen:=r'.length
  exact len_tuple pl (by simp only[zt]<;>lia) ⟨.int ys.length,H,I.tok _,⟨s.toks+1,by rw[zt,hlen]⟩,q⟩
def Vi:qw X (.type "list") (λxs H Q=>∃p ys,xs=[.ref p]/\(SqL X.K H p ys\/SqT X.K H p ys)/\∀l,H l=none->Q (.ref l) (upd H l (.lst ys))):=by
 intro pins s σ H xs us Q I r h;obtain⟨p,ys,rfl,hq,q⟩:=h;obtain⟨u,rfl,rx⟩:=YC r;cases rx
 have fin:∀(its:List Value),Vals ys its->ys.length<=sizeLine->∀(h':Heap) (c':Nat),(∀b o',s.heap.get? b=some o'->h'.get? b=some o') ->
   h'.get? s.heap.objs.size=some { cls:=.type "list",dict:=none,data:=.seq its.toArray c',slots:=#[] }->EP X pins σ Q (.ref s.heap.objs.size) { s with heap:=h' }:=λits r' hz h' c' kp e=>
  ⟨.ref s.heap.objs.size,_,I.laid (t':=s.toks) kp (zd _) (show ObjOk X.prog X.w _ h' _ (.lst ys) from⟨hz,its,c',r',e⟩),rfl,q _ (I.hok.fresh (zd _))⟩
 rcases hq with hq |hq
 ·obtain ⟨its, r', pl, hz⟩ := I.list hq;have hlen:=r'.length;obtain⟨o,ho,hc,n,hd⟩:=pl.isList
  exact call_list_seq p (.inl rfl) ho hc hd (λh' c' kp e=>fin its r' hz h' c' kp e) (by simp only[zt]<;>lia)
 ·obtain ⟨its, r', pl, hz⟩ := I.tuple hq;have hlen:=r'.length;obtain⟨o,ho,hc,n,hd⟩:=pl
  exact call_list_seq p (.inr rfl) ho hc hd (λh' c' kp e=>fin its r' hz h' c' kp e) (by simp only[zt]<;>lia)
def wQ:qw X (.type "tuple") (λxs H Q=>∃p ys,xs=[.ref p]/\((SqL X.K H p ys/\∀l,H l=none->Q (.ref l) (upd H l (.tup ys)))\/(SqT X.K H p ys/\Q (.ref p) H))):=by
 intro pins s σ H xs us Q I r h;obtain⟨p,ys,rfl,h⟩:=h;obtain⟨u,rfl,rx⟩:=YC r;cases rx
 rcases h with ⟨hq,q⟩ |⟨hq,q⟩
 ·obtain ⟨its, r', pl, hz⟩ := I.list hq;have hlen:=r'.length
  refine call_tuple_list pl.isList (λh' kp=>?_) (by simp only[zt]<;>lia)
  have I1:Inv X pins σ H { s with heap:=h' }:=I.kept (t':=s.toks) kp
  have I2:Inv X pins σ (upd H h'.objs.size (.tup ys)) { s with heap:=h'.push { cls:=.type "tuple",data:=.seq its.toArray } }:=
   I1.laid (t':=s.toks) (λb o e=>ze _ e) (zd _) (show ObjOk X.prog X.w _ _ _ (.tup ys) from⟨hz,its,r',IsTup.new _ _⟩)
  exact⟨.ref h'.objs.size,_,I2,rfl,q _ (I1.hok.fresh (zd _))⟩
 ·obtain⟨its,r',pl,hz⟩:=I.tuple hq;exact call_tuple_same pl ⟨.ref p,H,I,rfl,q⟩
def tyV(K:W.Frag)(T:String)(x:V)(H:Hp):Prop:=match x with
 |.str _=>T = "str"
 |.int _=>T = "int"
 | .ref p => (T = "list" /\ ∃ xs, SqL K H p xs) \/ (T = "tuple" /\ ∃ o, K.lookup p = some o /\ o.cls = .type "tuple" /\ o.dict = none) \/
   (T = "dict" /\ ((∃kvs,H p=some (.dK kvs))\/∃kvs,H p=some (.dT kvs)))\/(T = "set" /\ ∃S n,H p=some (.set S n))
 |_=>False
def zs4{pins:List (Addr × Obj)}{σ:St}{H:Hp}{s:Shared}{T:String}{x:V}{v:Value}(I:Inv X pins σ H s)(r:RelV x v)(ty:tyV X.K T x H) :
  s.TypeIs v T/\∀a,v=.ref a->∃ob,s.heap.get? a=some ob/\ob.dict=none:=by
 cases x with
 |str z=>
  obtain⟨t,rfl⟩:=r;cases(show T = "str" from ty)
  exact⟨typeIs_str s z t,λ_ e=>nomatch e⟩
 |int i=>
  obtain⟨t,rfl⟩:=r;cases(show T = "int" from ty)
  exact⟨typeIs_int s i t,λ_ e=>nomatch e⟩
 | ref p =>
  cases r
  rcases ty with ⟨rfl,xs,hq⟩ |⟨rfl,o,hk,hc,hd⟩ |⟨rfl,hk⟩ |⟨rfl,S,n,hk⟩
  ·obtain⟨its,_,pl,_⟩:=I.list hq;refine⟨pl.isList.typeIs,λa e=>?_⟩;cases e;obtain⟨o,n,e,c,hd,_⟩:=pl;exact⟨o,e,hd⟩
  ·refine⟨⟨o,I.kIn p o hk,hc⟩,λa e=>?_⟩;cases e;exact⟨o,I.kIn _ o hk,hd⟩
  ·have z : ∃ o, s.heap.get? p = some o /\ o.ExactDict := by
    rcases hk with ⟨kvs,hk⟩ |⟨kvs,hk⟩
    ·obtain⟨_,_,_,_,o,_,_,e,ex,_⟩:=I.hok p _ hk;exact⟨o,e,ex⟩
    ·obtain⟨_,_,_,_,o,_,_,e,ex,_⟩:=I.hok p _ hk;exact⟨o,e,ex⟩
   obtain⟨o,e,ex⟩:=z;refine⟨⟨o,e,ex.1⟩,λa e2=>?_⟩;cases e2;exact⟨o,e,ex.2.1⟩
  ·obtain⟨o,_,_,_,e,ex,_⟩:=I.hok p _ hk;refine⟨⟨o,e,ex.1⟩,λa e2=>?_⟩;cases e2;exact⟨o,e,ex.2.1⟩
 |_=>exact False.elim ty
def xx4(K:W.Frag)(T:String)(r:V->List V->Hp->VK->Prop)(to:TE):TE:=λσ H Q=>to σ H λx H1=>tyV K T x H1/\r x [] H1 Q
def tBM(K:W.Frag)(T:String)(r:V->List V->Hp->VK->Prop)(to:TE)(t:TA):TE:=λσ H Q=>to σ H λx H1=>tyV K T x H1/\t σ H1 λxs H2=>r x xs H2 Q
variable {o e:Expr}{es:List Expr}{to:TE}{t:TA}{name:Str}{apos cpos:Pos}{T id:String}{r:V->List V->Hp->VK->Prop}
def zP0(pa:PlainAttrs T)(slot:Slot T name id)(hty:typeOf (.builtin id)=pure (.type "method_descriptor"))(hm:MtR X id r)(ho:PE X o to)
  (hbase:attributeBase o name X.env (eval o X.env)=eval o X.env:=by rfl) (hline:(apos.endLine == cpos.line)=true:=by rfl):PE X (.Call (.Attribute o name apos) [] [] cpos) (xx4 X.K T r to):=by
 intro pins s σ H Q I h;refine wpAny_Call_method0_late hbase hline (thn (ho pins s σ H _ I h) λv s1 ⟨x,H1,I1,r1,ty,q1⟩=>?_);obtain⟨h1,h2⟩:=zs4 I1 r1 ty;exact⟨T,id,pa,slot,hty,h1,h2,Calls.callWith_builtin rfl (PySem.evalArgs_none (hm pins s1 σ H1 x [] v [] Q I1 r1 .nil q1))⟩
def xl6(pa:PlainAttrs T)(slot:Slot T name id)(hty:typeOf (.builtin id)=pure (.type "method_descriptor"))(hm:MtR X id r)(ho:PE X o to)(ha:PA X (e::es) t)
  (hbase:attributeBase o name X.env (eval o X.env)=eval o X.env:=by rfl)
  (hfew : ((backTo cpos (starEach (e :: es) X.env)).all (λx => !x.1) && (backToKw cpos (keywordEach [] X.env)).all (λx => x.1.isSome)
   && decide ((e::es).length+([]:List Keyword).length+(if ([]:List Keyword).isEmpty then 0 else 1)<30))=true:=by rfl)
  (hline:(apos.endLine == cpos.line)=true:=by rfl) (hs:starEach (e::es) X.env=(false,eval e X.env)::starEach es X.env:=by rfl) (hplain:(backTo cpos (starEach es X.env)).any (·.1)=false:=by rfl) :
  PE X (.Call (.Attribute o name apos) (e::es) [] cpos) (tBM X.K T r to t):=by
 intro pins s σ H Q I h;refine wpAny_Call_method_late hbase hfew hline rfl (thn (ho pins s σ H _ I h) λv s1 ⟨x,H1,I1,r1,ty,q1⟩=>?_);obtain⟨h1,h2⟩:=zs4 I1 r1 ty;refine⟨T,id,pa,slot,hty,h1,h2,?_⟩;have hA:=ha cpos pins s1 σ H1 _ I1 q1;rw[hs] at hA ⊢
 refine Calls.callWith_builtin (by show(false||(backTo cpos (starEach es X.env)).any (·.1))=false;rw[hplain]<;>rfl) (Calls.evalArgs_plain ?_)
 exact thn hA λus s2 ⟨vs,H2,I2,r2,q2⟩=>hm pins s2 σ H2 x vs v us Q I2 r1 r2 q2
end
def MtM(X:Cx)(id:String)(r:V->List V->Hp->VK->Prop):Prop:=
 ∀(pins:List (Addr × Obj)) (s:Shared) (σ:St) (H:Hp) (x:V) (xs:List V) (v:Value) (us:List Value) (Q:VK),Inv X pins σ H s->RelV x v->Vals xs us->r x xs H Q ->
  wpAny (model X.prog X.w) X.A (call (.builtin id) (v::us)) (EP X pins σ Q) X.xe s
theorem Vals.one:∀{x:V}{us:List Value},Vals [x] us->∃u,us=[u]/\RelV x u
 |_,_,.cons r .nil=>⟨_,rfl,r⟩
def Vals.reverse{xs:List V}{us:List Value}(h:Vals xs us):Vals xs.reverse us.reverse:=by
 induction h with
 |nil=>exact .nil
 |cons r t ih=>rw[reverse_cons,reverse_cons];exact Vals.append ih (.cons r .nil)
theorem Vals.rep{xs:List V}{us:List Value}(h:Vals xs us):∀k:Nat,Vals (replicate k xs).flatten (replicate k us).flatten
 |0=>.nil
 |k+1=>by
  rw[wd,wd,yi,yi];exact Vals.append h (Vals.rep h k)
def WY(its:List Value):∀(k:Nat) (acc:List Value),
  List.foldl (λx1 x2=>x1++x2) acc.toArray (replicate k its.toArray)=(acc++(replicate k its).flatten).toArray
 |0,acc=>by simp
 | k + 1, acc => by
  have e:acc.toArray++its.toArray=(acc++its).toArray:=by simp
  have e2:(acc++its)++(replicate k its).flatten=acc++(replicate (k+1) its).flatten:=by
   rw[wd,yi,wj]
  rw[<- e2,<- WY its k (acc++its),<- e,wd,foldl_cons]
section
variable {X:Cx}{pins:List (Addr × Obj)}{σ:St}{H:Hp}{s:Shared}{l b:Addr}{xs ys zs:List V}
def Inv.lset{its its':List Value}{n:Nat}{f:Array Value->Array Value}{t':Nat}(I:Inv X pins σ H s)(hH:H l=some (.lst xs))
  (e:s.heap.get? l=some { cls:=.type "list",data:=.seq its.toArray n }) (hf:f its.toArray=its'.toArray) (hv:Vals ys its') (hz:ys.length<=sizeLine) :
  Inv X pins σ (upd H l (.lst ys)) { s with heap:=s.heap.update l (Obj.mapSeq f),toks:=t' }:=by
 have q:=PySem.IsL.update e f;rw[hf] at q
 refine I.write (x:=l) (e:=l) (by rw[hH];exact trivial) (.inl rfl) (λb' u hb hu=>(Heap.get?_update_other s.heap (Obj.mapSeq f) (Ne.symm hb)).trans hu) ⟨_,q⟩ ?_
 exact⟨hz,its',_,hv,q⟩
def Inv.lnew{its:List Value}{t':Nat}(I:Inv X pins σ H s)(hv:Vals ys its)(hz:ys.length<=sizeLine) :
  Inv X pins σ (upd H s.heap.objs.size (.lst ys)) { s with heap:=s.heap.push { cls:=.type "list",data:=.seq its.toArray },toks:=t' }:=
 I.laid (λ_ _ q=>ze _ q) (zd _) ⟨hz,its,0,hv,zD _ rfl⟩
def Inv.fresh(I:Inv X pins σ H s):H s.heap.objs.size=none:=I.hok.fresh (zd _)
def Inv.lstM(I:Inv X pins σ H s)(hH:H l=some (.lst xs)):xs.length<=sizeLine/\∃(its:List Value) (n:Nat),Vals xs its/\xs.length=its.length/\s.heap.get? l=some { cls:=.type "list",data:=.seq its.toArray n }:=by
 obtain⟨z,its,n,r,e⟩:=I.hok l _ hH;exact⟨z,its,n,r,r.length,e⟩
end
section
variable {X:Cx}
def zz1:V->List V->Hp->VK->Prop:=λx vs H Q=>∃l xs y,x=.ref l/\vs=[y]/\H l=some (.lst xs)/\xs.length<sizeLine/\Q .non (upd H l (.lst (xs++[y])))
def zb3:MtM X "list.append" zz1:=by
 intro pins s σ H x vs v us Q I rx rv h;obtain⟨l,xs,y,rfl,rfl,hH,hz,q⟩:=h;cases rx;obtain⟨u,rfl,ru⟩:=rv.one;obtain⟨z,its,n,r,hl,e⟩:=I.lstM hH
 refine call_meets F.slot_list_append ⟨_,e,rfl⟩ F.entry_list_append (F.args_list_append_2 _ _) (PySem.list_append l its.toArray n u (by rw[zt];lia)) ⟨e,?_⟩
 refine⟨.non,_,I.lset (its':=its++[u]) hH e (by simp) (r.append (.cons ru .nil)) ?_,rfl,q⟩
 rw[zm,List.length_singleton];lia
def xq3:R2:=λx y H Q=>∃l b xs zs,x=.ref l/\y=.ref b/\H l=some (.lst xs)/\H b=some (.lst zs)/\xs.length+zs.length<=sizeLine/\∀p,H p=none->Q (.ref p) (upd H p (.lst (xs++zs)))
def zP7:OpR X (binaryOp .Add) xq3:=by
 intro pins s σ H x y v u Q I rx ry h;obtain⟨l,b,xs,zs,rfl,rfl,hH,hB,hz,q⟩:=h;cases rx;cases ry;obtain⟨z,its,n,r,hl,e⟩:=I.lstM hH;obtain⟨z2,its2,n2,r2,hl2,e2⟩:=I.lstM hB
 refine PySem.P.add_list e e2 ?_ (by rw[zt,zt];lia)
 have ea:its.toArray++its2.toArray=(its++its2).toArray:=by simp
 rw[ea]
 exact⟨.ref _,_,I.lnew (t':=s.toks) (r.append r2) (by rw[zm];lia),rfl,q _ I.fresh⟩
def zc2{α:Type}(xs:List α)(k:Nat):(replicate k xs).flatten.length=k*xs.length:=by
 induction k with
 |zero=>simp
 |succ k ih=>rw[wd,yi,zm,ih,Nat.succ_mul,Nat.add_comm]
end
section
variable {prog:Program}{w:World}{A:Around}{E:Value->Shared->Prop}{s:Shared}
end
section
variable {X:Cx}
end
end L2
namespace Att
open PySem PySem.W PySem.Calls PyProof.Rows
def Yo{P:Params}{h:Heap}:∀(ns:List Int) (vs:List Value),WellAll P h vs (ns.map WData.int)->IntsAre vs ns:=by
 intro ns
 induction ns with
 |nil=>
  intro vs w;rw[xT] at w;cases w;exact .nil
 | cons n ns ih =>
  intro vs w;rw[zy] at w
  cases w with
  |cons a b=>
   cases a;exact .cons _ _ (ih _ b)
def Qw{l:OpenLaw}{n:Nat}(hn:l.most=some n){P:Params}{h:Heap}{args:List WData}{vals:List Value}
  (hpre:l.row.toRowW.claim.pre args=true) (hwl:WellAll P h vals args) :
  ∃a vs ns,vals=[Value.ref a]/\args=[WData.list (ns.map WData.int)]/\h.get? a=some { cls:=.type "list",data:=.seq vs.toArray }/\IntsAre vs ns/\ns.length<=n:=by
 have hsh:WShape.hasAll [] args [.list .int]=true:=(pre_splitW hpre).1;have hc:l.pre.holds [] { args:=args }=true:=(pre_splitW hpre).2;obtain⟨d,r,rfl,h1,h2⟩:=hasAllW_cons hsh;obtain rfl:=hasAllW_nil h2;obtain⟨xs,rfl,h3⟩:=hasW_list h1;obtain⟨ns,rfl⟩:=items_int h3
 have hlen:ns.length<=n:=by
  unfold OpenLaw.pre at hc
  have h4:(WTm.not (.lt (.lit (.int (n:Int))) (.len (.arg 0)))).holds [] { args:=[.list (ns.map .int)] }=true:=by
   have h4:=(holds_andW hc).1;rw[hn] at h4;exact h4
  have h5:=condW_of h4 (w_not (w_lt w_lit (w_len_list (w_arg rfl))));rw[zn] at h5;refine wS λq=>?_
  have q':(n:Int)<((ns.length:Nat):Int):=w5
  first
   |(rw[xC q'] at h5;exact absurd h5 w6)
   |(simp at h5;lia)
 cases hwl with
 |cons w1 w2=>
  cases w2
  cases w1 with
  |list ho hall=>exact⟨_,_,ns,rfl,rfl,ho,Yo ns _ hall,hlen⟩
def QS(l:OpenLaw)(args:List WData):l.row.toRowW.claim.post args (.bool true) args=true:=
 postW_of (r:=l.row.toRowW) (X:=(true == true))
  (show WShape.has [] (.bool true) .bool=true by first |rfl |decide |simp[WShape.has,WShape.arms,WShape.armsAll])
  (show(WTm.eq .res (.lit (.bool true))).value [] { args:=args,res:=some (.bool true),after:=args }=some (.bool (true == true)) from w_eq_bool (w_res rfl) w_lit) rfl
def attach_call{l:OpenLaw}{n:Nat}{q:Program}{loose:List Str}{XP:(Str->Option Value)->Heap->Prop}{YP:World->Heap->Prop}{d:DefRec}
  (hn:l.most=some n) (hdf:d.params.defaults=[])
  (call : ∀ (w : World) (s₀ s₁ : Shared) (mg mb : Str -> Option Value) (fa : Addr) (o : Obj) (pm cd doc : Value) (a : Addr) (vs : List Value) (ns : List Int),
   Ground q loose [] XP w s₀ mg mb s₁.heap->YP w s₁.heap ->
   s₁.heap.get? fa=some o->o.data=.func (docDef d.name d.params d.body d.scope pm cd doc)->s₁.heap.CodeRec cd d.name->mg d.name=some (.ref fa) ->
   s₁.heap.get? a=some { cls:=.type "list",data:=.seq vs.toArray }->IntsAre vs ns->ns.length<=n->s₁.gens=#[] ->
   codeAny (model l.prog w) callerA (.call (.ref fa) ⟨[.ref a],[]⟩) (λr s'=>r=.ok (.ret (.bool true))/\OldK s₁.heap s'.heap/\s'.os=s₁.os/\AllBare s'.gens) s₁) :
  WalkO q loose XP YP l.row.toRowW d [] (λf vs=>PySem.call f vs):=by
 intro w s₀ s₁ mg mb G Y fa o pm cd doc dV kV ho hd hcd hD hmg hg args vals as hpre hlay hrd hwl hlo;obtain rfl:dV=.none:=Dflts.none hD hdf;obtain rfl:kV=.none:=Dflts.noKw hD;obtain⟨a,vs,ns,rfl,rfl,hobj,hints,hlen⟩:=Qw hn hpre hwl;refine enter_call (codeAny_mono (call w s₀ s₁ mg mb fa o pm cd doc a vs ns G Y ho (fd_plain hd) hcd hmg hobj hints hlen hg) λr s' hq=>?_);obtain⟨rfl,h2,h3,h4⟩:=hq
 exact⟨.inl ⟨.bool true,.bool true,[],rfl,λ_=>rfl,.bool true,QS l _,λ_=>⟨List.Pairwise.nil,λ_ hm=>(nomatch hm)⟩⟩,h2,h3,h4⟩
section
variable {prog:Program}{w:World}{A:Around}{E:Value->Shared->Prop}{s:Shared}{K:Frag}
end
end Att
namespace L2
theorem Wa:∀{vs:List Value}{ns:List Int},IntsAre vs ns->Vals (ns.map V.int) vs
 |_,_,.nil=>.nil
 |_,_,.cons n t h=>.cons ⟨t,rfl⟩ (Wa h)
def xa6(H:Hp):Prop:=∀b,H b=none\/∃o xs,H b=some (.frz o (.lst xs))
def vS(s:Stmt)(j:Nat):Stmt:=match s with
 |.ClassDef _ _ _ body _ _ _ _ _ _ _=>body.getD j (.Pass ⟨0,0,0,0⟩)
 |_=>.Pass ⟨0,0,0,0⟩
def kz(s:Stmt):Arguments:=match s with
 |.FunctionDef _ a _ _ _ _ _ _ _ _=>a
 |_=>{ posonlyargs:=[],args:=[],vararg:=none,kwonlyargs:=[],kw_defaults:=[],kwarg:=none,defaults:=[] }
def vB(s:Stmt):List Stmt:=match s with
 |.FunctionDef _ _ b _ _ _ _ _ _ _=>b
 |_=>[]
def xo(s:Stmt):Scope:=match s with
 |.FunctionDef _ _ _ _ _ _ sc _ _ _=>sc
 |_=>{ kind:=.function,names:=[],isGenerator:=false,isCoroutine:=false }
abbrev CX0:CXT:=λ_ _ _ _ _ _=>False
abbrev E0:XK:=λ_ _ _=>False
def za5{X:Cx}:YA CX0 X E0:=λ_ _ _ _ _ _ _ h=>h.elim
structure Fun(K:W.Frag)(x qual:Str)(st:Stmt)(f:Addr)(fd:FuncData):Prop where
 ex:∃(oc:Value) (od:Option Addr) (kV doc pm:Value) (an:Option Addr) (cdv ct:Value) (osl:Array (Option Value)),
  fd=W.fnOf x qual (kz st) (vB st) (xo st) .none kV doc pm an cdv ct/\K.lookup f=some ⟨oc,od,.func fd,osl⟩/\W.codeIn K cdv qual=true
 kp:W.keepIn K (.ref f)=true
section
variable {P:Program}{w:World}{K:W.Frag}{mg:Str->Option Value}{base:Heap}
def Fun.ok{x qual:Str}{st:Stmt}{f:Addr}{fd:FuncData}{N ps:List Str}{k:Nat}{sp:Sp}(F:Fun K x qual st f fd)(S:FnScope N ps (xo st))(len:∀vs H Q E,sp vs H Q E->vs.length=ps.length)
  (hbody : ∀ (cdv : Value) (A : Around) (outer : List Env) (s : Shared) (H : Hp) (vs : List V) (Q : VK) (E : XK), Room k (A.deeper (envOfC qual (xo st) s.heap.objs.size f cdv)) -> sp vs H Q E ->
   ∃t,PSs (zw2 CX0 P w K mg base N qual (xo st) f cdv A outer s H E).nox (vB st) t/\t { nx:=λ_ H'=>Q .non H',rt:=Q } (ZI N vs) H):FnOk P w K mg base CX0 (k+1) f fd ps sp:=by
 obtain⟨oc,od,kV,doc,pm,an,cdv,ct,osl,rfl,lk,hcd⟩:=F.ex;refine xo1 lk hcd S len λA outer s H vs Q E hr hsp=>?_;obtain⟨t,h,q⟩:=hbody cdv A outer s H vs Q E hr hsp;exact⟨t,h.nox,q⟩
def Fun.binds{x qual:Str}{st:Stmt}{f:Addr}{fd:FuncData}{ps:List Str}(F:Fun K x qual st f fd)
  (h:∀(kV doc pm:Value) (an:Option Addr) (cdv ct:Value) (us:List Value),us.length=ps.length->bindArgs (W.fnOf x qual (kz st) (vB st) (xo st) .none kV doc pm an cdv ct) ⟨us,[]⟩=pure (ps.zip us)):Binds K fd ps []:=by
 obtain⟨oc,od,kV,doc,pm,an,cdv,ct,osl,rfl,lk,hcd⟩:=F.ex;exact .all (h kV doc pm an cdv ct)
def ze8{x qual:Str}{st:Stmt}{f:Addr}{oc:Value}{od an:Option Addr}{osl:Array (Option Value)}{kV doc pm cdv ct:Value}(l:K.lookup f=some ⟨oc,od,.func (W.fnOf x qual (kz st) (vB st) (xo st) .none kV doc pm an cdv ct),osl⟩)
  (c:W.codeIn K cdv qual=true) (k:W.keepIn K (.ref f)=true):Fun K x qual st f (W.fnOf x qual (kz st) (vB st) (xo st) .none kV doc pm an cdv ct):=⟨⟨oc,od,kV,doc,pm,an,cdv,ct,osl,rfl,l,c⟩,k⟩
end
def Zc{A:Around}{k:Nat}(hr:Room k A):A.units+1<cLine:=yq (Nat.add_le_add_left (by decide:1<=64) _) hr.units
section
variable {X:Cx}
end
def Same(H H':Hp):Prop:=∀b o,H b=some o->H' b=some o
end L2
namespace L2
open PySem
def kD(env:Env):List (Str × NameKind)->List (Str × Addr)->List (Str × Addr)
 |[],acc=>acc
 |y::r,acc=>if y.2 == .free then kD env r ((y.1,(env.cells.lookup y.1).getD 0)::acc) else kD env r acc
def vc{env:Env}:∀(l:List (Str × NameKind)) (acc:List (Str × Addr)),(∀y∈l,y.2=.free->∃c,env.cells.lookup y.1=some c)->(∀x c,acc.lookup x=some c->env.cells.lookup x=some c) ->
  ∀x c,(kD env l acc).lookup x=some c->env.cells.lookup x=some c
 |[],acc,_,ha,x,c,h=>ha x c h
 | y :: r, acc, hf, ha, x, c, h => by
  unfold kD at h
  split at h
  ·rename_i hk
   have hk':y.2=.free:=by simpa using hk
   obtain⟨d,hd⟩:=hf y zo hk';refine vc r _ (λz hz=>hf z (zk _ hz)) (λz e hz=>?_) x c h;rw[xU] at hz
   cases hb:z == y.1 with
   |true=>
    rw[hb,hd] at hz
    have e2:z=y.1:=by simpa using hb
    have e3:d=e:=by simpa using hz
    rw[e2,hd,e3]
   |false=>rw[hb] at hz;exact ha z e hz
  ·exact vc r acc (λz hz=>hf z (zk _ hz)) ha x c h
theorem Zh{env:Env}{x:Str}:∀(l:List (Str × NameKind)) (acc:List (Str × Addr)),(∃c,acc.lookup x=some c)->∃c,(kD env l acc).lookup x=some c
 |[],acc,h=>h
 | y :: r, acc, h => by
  unfold kD
  split
  ·refine Zh r _ ?_;rw[xU]
   cases hb:x == y.1 with
   |true=>exact⟨_,rfl⟩
   |false=>exact h
  ·exact Zh r acc h
theorem vM{env:Env}{y:Str × NameKind}(hk:y.2=.free):∀(l:List (Str × NameKind)) (acc:List (Str × Addr)),y∈l->∃c,(kD env l acc).lookup y.1=some c
 |[],acc,h=>by simp at h
 | z :: r, acc, h => by
  unfold kD
  rcases zh.mp h with rfl |h
  ·rw [if_pos (by rw [hk]; rfl)]
   exact Zh r _ ⟨_,al_List_lookup_cons_self⟩
  ·split
   ·exact vM hk r _ h
   ·exact vM hk r _ h
def Xg{env:Env}(f:Str × NameKind->List (Str × Addr)->Sem (ForInStep (List (Str × Addr))))
  (hf:∀y acc,f y acc=if y.2 == .free then(cellOf env y.1 >>= λc=>pure (.yield ((y.1,c)::acc))) else pure (.yield acc)) :
  ∀(l:List (Str × NameKind)) (acc:List (Str × Addr)),(∀y∈l,y.2=.free->∃c,env.cells.lookup y.1=some c)->forIn l acc f=(pure (kD env l acc):Sem _)
 |[],acc,_=>by rw[forIn_nil];rfl
 | y :: r, acc, h => by
  have ih:=λacc=>Xg f hf r acc λz hz=>h z (zk _ hz);rw[List.forIn_cons,hf];unfold kD
  split
  ·rename_i hk
   obtain⟨c,hc⟩:=h y zo (by simpa using hk)
   have e:cellOf env y.1=pure c:=by unfold cellOf;rw[hc]
   rw[e,hc];exact ih _
  ·exact ih _
def ZC{scope:Scope}{env:Env}(h:∀y∈scope.names,y.2=.free->∃c,env.cells.lookup y.1=some c):closureFor scope env=pure (kD env scope.names []):=by
 have e:=Xg (env:=env) (λx cs=>match x with |(name,kind)=>if (kind == NameKind.free)=true then(do let c <- cellOf env name;pure (.yield ((name,c)::cs))) else pure (.yield cs)) (λy acc=>rfl) scope.names [] h
 have e2:closureFor scope env=((forIn scope.names [] (λx cs=>match x with |(name,kind)=>if (kind == NameKind.free)=true then(do let c <- cellOf env name;pure (ForInStep.yield ((name,c)::cs))) else pure (ForInStep.yield cs)):Sem (List (Str × Addr))) >>= λcs=>pure cs):=rfl
 rw[e2,e];rfl
def Zm{env:Env}{x:Str}:∀(l:List (Str × NameKind)),
  (l.map λ(n, k) => if (k == NameKind.free && env.scope.kind == .function && env.kindOf n == some .cell) then (n, NameKind.cell) else (n, k)).lookup x =
   (l.lookup x).map λk=>if (k == NameKind.free&&env.scope.kind == .function&&env.kindOf x == some .cell) then NameKind.cell else k
 |[]=>rfl
 | (n, k) :: r => by
  have ih:=@Zm env x r;rw[zy]
  by_cases e:x=n
  ·subst e;dsimp only
   split
   ·rename_i h;rw[al_List_lookup_cons_self,al_List_lookup_cons_self,Option.map_some,if_pos h]
   ·rename_i h;rw[al_List_lookup_cons_self,al_List_lookup_cons_self,Option.map_some,if_neg h]
  ·have e' : (x == n) = false := by simpa using e
   dsimp only
   split
   ·rw[xU,e',xU,e'];exact ih
   ·rw[xU,e',xU,e'];exact ih
def KS:∀(l:List (Str × NameKind)) (h:Heap) (acc:List (Str × Addr)) (x:Str) (c:Addr),(cellsFrom h.objs.size l acc).lookup x=some c ->
  ((pushCells h l).IsCell c none/\h.objs.size<=c/\(x,NameKind.cell)∈l)\/acc.lookup x=some c
 |[],_,_,_,_,e=>.inr e
 | (n, k) :: r, h, acc, x, c, e => by
  unfold cellsFrom at e;unfold pushCells
  split at e
  ·rename_i hk
   have hk':k=.cell:=by simpa using hk
   rw[if_pos hk];have hz:(h.push { cls:=.type "cell",data:=.cell none }).objs.size=h.objs.size+1:=wl ..;rw[<- hz] at e
   rcases KS r (h.push { cls:=.type "cell",data:=.cell none }) _ x c e with ⟨a,b,d⟩ |q
   ·exact .inl ⟨a,by rw[hz] at b;lia,zk _ d⟩
   ·rw [xU] at q
    cases hb:x == n with
    |false=>rw[hb] at q;exact .inr q
    |true=>
     rw[hb] at q
     have e1:h.objs.size=c:=by simpa using q
     have e2:x=n:=by simpa using hb
     subst e1 e2
     refine .inl ⟨?_,zd _,by rw[hk'];exact zo⟩
     exact⟨_,pushCells_keeps _ _ _ _ (zD _ rfl),rfl⟩
  ·rename_i hk;rw[if_neg hk]
   rcases KS r h acc x c e with ⟨a,b,d⟩ |q
   ·exact .inl ⟨a,b,zk _ d⟩
   ·exact .inr q
def KQ:∀(l:List (Str × NameKind)) (n:Nat) (acc:List (Str × Addr)),(∀x y c,acc.lookup x=some c->acc.lookup y=some c->x=y)->(∀x c,acc.lookup x=some c->c<n) ->
  ∀x y c,(cellsFrom n l acc).lookup x=some c->(cellsFrom n l acc).lookup y=some c->x=y
 |[],_,_,hi,_,x,y,c,e,e'=>hi x y c e e'
 | (m, k) :: r, n, acc, hi, hl, x, y, c, e, e' => by
  unfold cellsFrom at e e'
  have one:∀z d,((m,n)::acc).lookup z=some d->(z=m/\d=n)\/acc.lookup z=some d:=λz d q=>by
   rw[xU] at q
   cases hb:z == m with
   |true=>rw[hb] at q;exact .inl ⟨by simpa using hb,by simpa using q.symm⟩
   |false=>rw[hb] at q;exact .inr q
  split at e
  ·rename_i hk;rw[if_pos hk] at e';refine KQ r (n+1) ((m,n)::acc) (λa b d q q'=>?_) (λa d q=>?_) x y c e e'
   ·rcases one a d q with ⟨a1, a2⟩ | a1 <;> rcases one b d q' with ⟨b1, b2⟩ | b1
    ·rw[a1,b1]
    ·exact absurd (hl b d b1) (by rw[a2];exact xD _)
    ·exact absurd (hl a d a1) (by rw[b2];exact xD _)
    ·exact hi a b d a1 b1
   ·rcases one a d q with ⟨_, a2⟩ | a1
    ·rw[a2];exact ym _
    ·exact wg (hl a d a1)
  ·rename_i hk;rw[if_neg hk] at e';exact KQ r n acc hi hl x y c e e'
theorem qm{x:Str}:∀(l:List (Str × NameKind)) (n:Nat) (acc:List (Str × Addr)),(∃c,acc.lookup x=some c)->∃c,(cellsFrom n l acc).lookup x=some c
 |[],_,_,h=>h
 | (m, k) :: r, n, acc, h => by
  unfold cellsFrom
  split
  ·refine qm r _ _ ?_;rw[xU]
   cases hb:x == m with
   |true=>exact⟨_,rfl⟩
   |false=>exact h
  ·exact qm r _ _ h
theorem KR{x:Str}:∀(l:List (Str × NameKind)) (n:Nat) (acc:List (Str × Addr)),(x,NameKind.cell)∈l->∃c,(cellsFrom n l acc).lookup x=some c
 |[],_,_,h=>by simp at h
 | (m, k) :: r, n, acc, h => by
  unfold cellsFrom
  rcases zh.mp h with e |h
  ·cases e;exact qm r _ _ ⟨_,al_List_lookup_cons_self⟩
  ·split
   ·exact KR r _ _ h
   ·exact KR r _ _ h
theorem zs0{x:Str}:∀(l:List (Str × NameKind)) (n:Nat) (acc:List (Str × Addr)) (lo:Nat),lo<=n->((x,NameKind.cell)∈l\/∀c,acc.lookup x=some c->lo<=c)->∀c,(cellsFrom n l acc).lookup x=some c->lo<=c
  | [], n, acc, lo, hn, h, c, e => by
    rcases h with h |h
    · simp at h
    · exact h c e
  | (m, k) :: r, n, acc, lo, hn, h, c, e => by
    unfold cellsFrom at e
    split at e
    · rename_i hk
      refine zs0 r (n+1) ((m,n)::acc) lo w5 ?_ c e
      rcases h with h |h
      · rcases zh.mp h with z | z
        · cases z
          refine .inr λd q=>?_;rw[al_List_lookup_cons_self] at q
          have:n=d:=by simpa using q
          lia
        · exact .inl z
      · refine .inr λd q => ?_
        rw[xU] at q
        cases hb:x == m with
        | true => rw [hb] at q; have : n = d := by simpa using q;
                  lia
        |false=>rw[hb] at q;exact h d q
    · rename_i hk
      refine zs0 r n acc lo hn ?_ c e
      rcases h with h |h
      · rcases zh.mp h with z | z
        · cases z;exact absurd rfl hk
        · exact .inl z
      · exact .inr h
section
variable {M:Model}{A:Around}{E:Value->Shared->Prop}{s:Shared}
def jg{scope:Scope}{env:Env}{cl:List (Str × Addr)}{Q:Env->Shared->Prop}
  (h : Q (newEnv scope s.heap.objs.size env.globals (cellsFrom (s.heap.objs.size + 1) scope.names cl) env.qual none .none (some env) builtinsNs)
   { s with heap:=pushCells (s.heap.push { cls:=.type "dict",data:=.dict #[] }) scope.names }) :
  wpAny M A (newFunctionEnv scope env.globals cl [] env.qual none .none (some env)) Q E s:=by
 simp only[newFunctionEnv,Option.isSome_some,if_true];refine zb (wpAny_alloc ?_);refine zb (wpAny_layCells _ (λname kind cells=>?_) _ _ _ _ ?_)
 ·cases hkc:kind == NameKind.cell<;>simp[hkc]
 ·rw[List.forIn_nil];refine zb (zf (zf ?_));have hz:({ s with heap:=s.heap.push { cls:=.type "dict",data:=.dict #[] } }:Shared).heap.objs.size=s.heap.objs.size+1:=wl ..;rw[hz];exact h
end
abbrev Yw(ifs:List Expr)(env:Env):Sem Bool:=forIn ifs true λc r=>if r=true then do let ok <- isTrue c env (eval c env);pure (ForInStep.yield ok) else pure (ForInStep.yield r)
section
variable {prog:Program}{w:World}{A:Around}{R:Result->Shared->Prop}{s:Shared}
def zg9{elt target iter:Expr}{ifs:List Expr}{scope:Scope}{pos:Pos}{it acc:Value}{env:Env}(J:Nat->Shared->Prop)
  (turn : ∀ n s, J n s -> wpAny (model prog w) A (pyNext it) (λr s1 => match r with
   |none=>R (.ok .next) s1
   | some v => wpAny (model prog w) A (letOwnedTupleGo target it v) (λ_ s2 => wpAny (model prog w) A (assign target env v) (λ_ s3 => wpAny (model prog w) A (Yw ifs env) (λok s4 =>
     if ok=true then wpAny (model prog w) A (eval elt env) (λx s5=>wpAny (model prog w) A (call (.builtin "list.append") [acc,x]) (λ_ s6=>∃m,m<n/\J m s6) (λ_ _=>False) s5) (λ_ _=>False) s4
     else ∃m,m<n/\J m s4) (λ_ _=>False) s3) (λ_ _=>False) s2) (λ_ _=>False) s1) (λ_ _=>False) s)
  (n:Nat) (h:J n s):codeAny (model prog w) A (.compLoop (.ListComp elt [⟨target,iter,ifs,0⟩] scope pos) 0 it acc env) R s:=by
 refine codeAny_loop rfl J (λn s hJ=>?_) n h
 show wpAny _ A ((compTurn (.ListComp elt [⟨target,iter,ifs,0⟩] scope pos) 0 it acc env).onRaise (λx=>do noteFrame x env;theTreesLotGoes x)) _ _ s
 refine wpAny_noted ?_;rw[compTurn_list]
 have up:∀{α:Type}{t:Sem α}{Q Q':α->Shared->Prop}{E:Value->Shared->Prop}{s:Shared},wpAny (model prog w) A t Q (λ_ _=>False) s->(∀a s,Q a s->Q' a s)->wpAny (model prog w) A t Q' E s:=
  λh f=>ye h f λ_ _ z=>False.elim z
 refine zb (wk (zb (up (turn n s hJ) λr s1 h1=>?_)))
 cases r with
 |none=>exact zf h1
 |some v=>
  refine zb (up h1 λ_ s2 h2=>?_);refine zb (up h2 λ_ s3 h3=>?_);refine zb (up h3 λok s4 h4=>?_)
  cases ok with
  |false=>exact zf ⟨rfl,h4⟩
  |true=>exact zb (zb (up h4 λx s5 h5=>zb (up h5 λ_ s6 h6=>zf (zf ⟨rfl,h6⟩))))
end
section
variable {prog:Program}{w:World}{A:Around}{E:Value->Shared->Prop}{s:Shared}
end
end L2
namespace L2
def Inv.track{X:Cx}{pins:List (Addr × Obj)}{σ:St}{H:Hp}{s:Shared}{a:Addr}{o:HO}(I:Inv X pins σ H s)(hn:H a=none)(hz:X.s₀.heap.objs.size<=a)(hL:a≠X.env.locals)
  (hc:∀x c,X.env.cells.lookup x=some c->c≠a) (hp:∀p∈X.pn++pins,p.1≠a) (new:ObjOk X.prog X.w (upd H a o) s.heap a o):Inv X pins σ (upd H a o) s:=by
 have nb:∀b u,H b=some u->b≠a:=λb u e=>yV e hn;refine⟨I.ok,I.os,I.bare,⟨I.base.keep,I.base.slot,λb u e n hx=>?_,I.base.there,λb xs e=>?_,λb u xs e=>?_,λb ps e=>?_⟩,I.loc,I.cell,?_,λx c e=>?_,λp hq=>?_,λb u e=>?_,I.len⟩
 ·rw[wr (xa (zS (zA e) hz))];exact I.base.free b u e n hx
 ·have q:=I.base.tups b xs e;rw[wr (nb b _ q)];exact q
 ·have q:=I.base.frzs b u xs e;rw[wr (nb b _ q)];exact q
 ·obtain⟨m,q⟩:=I.base.tbls b ps e;exact⟨m,by rw[wr (nb b _ q)];exact q⟩
 ·rw[wr (Ne.symm hL)];exact I.free
 ·rw[wr (hc x c e)];exact I.freeC x c e
 ·obtain ⟨q1, q2, q3⟩ := I.pin p hq
  exact⟨q1,by rw[wr (hp p hq)];exact q2,q3⟩
 ·by_cases hb : b = a
  ·subst hb;rw[yH] at e;cases e;exact new
  ·rw [wr hb] at e
   exact(I.hok b u e).stay (λ_ _ _ q=>q) (λc q=>by rw[wr (nb c _ q)];exact q) λc xs q=>by rw[wr (nb c _ q)];exact q
structure CompOk(X:Cx)(scope:Scope)(M:List Str):Prop where
 kind:scope.kind=.function
 uniq:∀y∈scope.names,scope.names.lookup y.1=some y.2
 frees:∀y∈scope.names,y.2=.free->(X.env.kindOf y.1=some .cell\/X.env.kindOf y.1=some .free)
 shadow:∀x∈M,scope.names.lookup x≠some .local/\scope.names.lookup x≠some .cell
 same:∀(i:Nat) (x:Str),M[i]?=some x->scope.names.lookup x=some .free->X.N[i]?=some x
 mlen:M.length=X.N.length
def zh2(N M:List Str)(out sc:Scope):Bool:=
 (sc.kind == .function && sc.names.all (λy => sc.names.lookup y.1 == some y.2 && (y.2 != .free || (out.names.lookup y.1 == some .cell || out.names.lookup y.1 == some .free))) &&
  M.all (λx=>sc.names.lookup x != some .local&&sc.names.lookup x != some .cell))&&(M.length == N.length&&(M.zip N).all (λp=>sc.names.lookup p.1 != some .free||p.1 == p.2))
def vW{X:Cx}{sc:Scope}{M:List Str}(h:zh2 X.N M X.env.scope sc=true):CompOk X sc M:=by
 unfold zh2 at h;rw[xB,xB,xB,xB,all_eq_true,all_eq_true,all_eq_true] at h;obtain⟨⟨⟨h1,h2⟩,h3⟩,h4,h5⟩:=h
 have hl:M.length=X.N.length:=by simpa using h4
 refine⟨by simpa using h1,λy hy=>?_,λy hy hf=>?_,λx hx=>?_,λi x hi hf=>?_,hl⟩
 ·have := h2 y hy;rw[xB] at this
  simpa using this.1
 ·have := h2 y hy;rw[xB] at this;have q:=this.2;rw[hf] at q
  have q':(X.env.scope.names.lookup y.1 == some .cell||X.env.scope.names.lookup y.1 == some .free)=true:=by simpa using q
  rw[Bool.or_eq_true] at q'
  exact q'.imp (λz=>(show X.env.scope.names.lookup y.1=some .cell by simpa using z)) λz=>(show X.env.scope.names.lookup y.1=some .free by simpa using z)
 ·have := h3 x hx;rw[xB] at this
  exact⟨by simpa using this.1,by simpa using this.2⟩
 ·have hlt : i < X.N.length := by rw [<- hl]; exact (zP.mp hi).1
  have hn:X.N[i]?=some X.N[i]:=zj hlt
  have hz:(M.zip X.N)[i]?=some (x,X.N[i]):=by rw[List.getElem?_zip_eq_some];exact⟨hi,hn⟩
  have:=h5 _ (wo hz);rw[Bool.or_eq_true] at this
  rcases this with z |z
  ·rw[hf] at z;simp at z
  ·have e : x = X.N[i] := by simpa using z
   rw[hn,<- e]
def vE(X:Cx)(scope:Scope)(C:Addr):List (Str × Addr):=cellsFrom (C+1) scope.names (kD X.env scope.names [])
def xZ(X:Cx)(scope:Scope)(own M:List Str)(C:Addr)(s2:Shared)(H2:Hp)(fp:List Addr):Cx where
 prog:=X.prog
 w:=X.w
 K:=X.K
 mg:=X.mg
 base:=X.base
 A:=X.A
 N:=own++M
 s₀:=s2
 H₀:=H2
 env:=compEnvC scope (vE X scope C) C X.env
 outer:=X.stack
 stack:=X.stack
 ex:=fp
 fn:=λx=>scope.names.lookup x == some .cell
 calm:=X.calm
 pn:=[]
 xe:=λ_ _=>False
def PTs(X:Cx)(ifs:List Expr)(t:TT):Prop:=
 ∀(pins:List (Addr × Obj)) (s:Shared) (σ:St) (H:Hp) (Q:Bool->Hp->Prop),Inv X pins σ H s->t σ H Q->wpAny (model X.prog X.w) X.A (Yw ifs X.env) (TP X pins σ Q) X.xe s
def xw4:TT:=λ_ H Q=>Q true H
def zz8{X:Cx}:PTs X [] xw4:=λ_ _ _ H _ I h=>zf ⟨H,I,h⟩
def zz7{X:Cx}{c:Expr}{t:TT}(hc:PT X c t):PTs X [c] t:=by
 intro pins s σ H Q I h;show wpAny _ _ (forIn [c] true _) _ _ s;simp only[List.forIn_cons,forIn_nil,if_true];exact zb (zb (thn (hc pins s σ H Q I h) λb s' hb=>zf (zf hb)))
def zj7(wi:TI)(own:Nat)(g:TG)(tt:TT)(te:TE):TE:=λσ H Q=>wi σ H λJ H1=>∃W:Nat->Nat->List V->Hp->Prop,(∃m,W 0 m [] H1)/\∀i m acc H,W i m acc H ->
 (J.stop i H/\acc.length<=sizeLine/\∀D,H D=none->Q (.ref D) (upd H D (.lst acc))) \/
 (J.go i H /\ acc.length < sizeLine /\ ∀ x H', J.yld i H x H' -> g x (List.replicate own none ++ σ) H' λσ2 H2 => σ2.drop own = σ /\ tt σ2 H2 λc H3 =>
  if c=true then te σ2 H3 λv H4=>∃m',m'<m/\W (i+1) m' (acc++[v]) H4 else ∃m',m'<m/\W (i+1) m' acc H3)
section
variable {X:Cx}{scope:Scope}{own M:List Str}{pins:List (Addr × Obj)}{σ:St}{H2:Hp}{s2:Shared}{fp:List Addr}
def CompOk.cells(ok:CompOk X scope M)(I:Inv X pins σ H2 s2):∀y∈scope.names,y.2=.free->∃c,X.env.cells.lookup y.1=some c:=λy hy hf=>I.ok.has y.1 (ok.frees y hy hf)
def CompOk.kindIn(ok:CompOk X scope M){x:Str}{C:Addr}{k:NameKind}(h:(compEnvC scope (vE X scope C) C X.env).kindOf x=some k) :
  scope.names.lookup x=some k\/(k=.cell/\scope.names.lookup x=some .free):=by
 have h':(relabel scope X.env).names.lookup x=some k:=h;unfold relabel at h';rw[Zm] at h'
 cases e:scope.names.lookup x with
 |none=>rw[e] at h';simp at h'
 | some j =>
  rw[e,Option.map_some] at h';have h2:=zF h'
  split at h2
  ·rename_i hc
   have:j=.free:=by
    rw[xB,xB] at hc
    simpa using hc.1.1
   exact .inr ⟨h2.symm,by rw[this]⟩
  ·exact .inl (by rw[h2])
def CompOk.cellsFrom_old(ok:CompOk X scope M)(I:Inv X pins σ H2 s2){C:Addr}{x:Str}{c:Addr}(h:(vE X scope C).lookup x=some c)(hx:scope.names.lookup x≠some .cell):X.env.cells.lookup x=some c:=by
 have e0:∀(l:List (Str × NameKind)) (n:Nat) (acc:List (Str × Addr)),(x,NameKind.cell) ∉ l->(cellsFrom n l acc).lookup x=acc.lookup x:=by
  intro l
  induction l with
  |nil=>intro n acc _;rfl
  | cons y r ih =>
   intro n acc hy;obtain⟨m,k⟩:=y;unfold cellsFrom
   split
   ·rename_i hk
    have hk':k=.cell:=by simpa using hk
    rw[ih _ _ λz=>hy (zk _ z),xU]
    have:(x == m)=false:=by
     cases hb:x == m with
     |false=>rfl
     |true=>
      have e:x=m:=by simpa using hb
      exact absurd (by rw[hk',e];exact zo) hy
    rw[this]
   ·exact ih _ _ λz=>hy (zk _ z)
 unfold vE at h;rw[e0 _ _ _ λhm=>hx (ok.uniq _ hm)] at h
 exact vc scope.names [] (ok.cells I) (λ_ _ z=>by simp at z) x c h
def Kz(ok:CompOk X scope M)(hc:X.calm=true)(I:Inv X pins σ H2 s2)(hf:∀b∈fp,FpOk X pins H2 b/\b<s2.heap.objs.size){C:Addr}(hC:C=s2.heap.objs.size+1){h4:Heap}
  (hh:h4=pushCells ((s2.heap.push { cls:=.type "list",dict:=none,data:=.seq ([]:List Value).toArray }).push { cls:=.type "dict",data:=.dict #[] }) scope.names) :
  Inv (xZ X scope own M C s2 H2 fp) [] (replicate own.length none++σ) H2 { s2 with heap:=h4 }:=by
 have zC:(s2.heap.push { cls:=.type "list",dict:=none,data:=.seq ([]:List Value).toArray }).objs.size=C:=by rw[wl,hC]
 have zC1:((s2.heap.push { cls:=.type "list",dict:=none,data:=.seq ([]:List Value).toArray }).push { cls:=.type "dict",data:=.dict #[] }).objs.size=C+1:=by rw[wl,zC]
 have keep:∀b o,s2.heap.get? b=some o->h4.get? b=some o:=λb o e=>by
  rw[hh];exact pushCells_keeps _ _ _ _ (ze _ (ze _ e))
 have cellOld:∀x c,X.env.cells.lookup x=some c->c<s2.heap.objs.size:=λx c e=>by obtain⟨v,q⟩:=I.cell x c e;exact q.lt
 have cellB:∀x c,(vE X scope C).lookup x=some c->(h4.IsCell c none/\C+1<=c/\scope.names.lookup x=some .cell)\/X.env.cells.lookup x=some c:=λx c e=>by
  by_cases hx:scope.names.lookup x=some .cell
  ·have e' := e;unfold vE at e';rw[<- zC1] at e'
   rcases KS _ _ _ x c e' with ⟨a,b,d⟩ |q
   ·exact .inl ⟨by rw[hh];exact a,by rw[zC1] at b;exact b,hx⟩
   ·exact .inr (vc scope.names [] (ok.cells I) (λ_ _ z=>by simp at z) x c q)
  ·exact .inr (ok.cellsFrom_old I e hx)
 have hNs:∃m,h4.Ns C m:=by
  have q:((s2.heap.push { cls:=.type "list",dict:=none,data:=.seq ([]:List Value).toArray }).push { cls:=.type "dict",data:=.dict #[] }).Ns C (λ_=>none):=by
   have:=Heap.Ns.new (s2.heap.push { cls:=.type "list",dict:=none,data:=.seq ([]:List Value).toArray }) (.type "dict");rw[zC] at this;exact this
  exact⟨_,q.keeps λb o e=>by rw[hh];exact pushCells_keeps _ _ _ _ e⟩
 have nfs:∀b∈fp,b ∉ frs X.stack:=λb hb hx=>by
  obtain⟨⟨_,f1,f2,_⟩,_⟩:=hf b hb
  rcases zh.mp (I.stkSub b hx) with e |e
  ·exact f1 e
  ·exact f2 e
 obtain⟨mC,hmC⟩:=hNs
 refine⟨⟨I.ok.mod,ok.kind,I.ok.glob,I.ok.blt,?_,?_,?_,?_,I.ok.hd,I.ok.frames,.inl rfl,?_,I.bs,?_,?_,nfs,I.stack,I.stkFree⟩,rfl,I.bare,Un.kept keep,⟨mC,hmC,?_⟩,?_,I.hok.fresh (by show s2.heap.objs.size<=C;rw[hC];exact xl _),?_,λp hp=>absurd (show p∈([]:List (Addr × Obj)) from hp) (by simp),I.hok.kept keep,?_⟩
 ·show s2.heap.objs.size<=C;rw[hC];exact xl _
 ·intro x y c h1 h2;refine KQ scope.names (C+1) (kD X.env scope.names []) (λa b d p q=>?_) (λa d p=>?_) x y c h1 h2
  ·exact I.ok.inj a b d (vc scope.names [] (ok.cells I) (λ_ _ z=>by simp at z) a d p) (vc scope.names [] (ok.cells I) (λ_ _ z=>by simp at z) b d q)
  ·have := cellOld a d (vc scope.names [] (ok.cells I) (λ_ _ z => by simp at z) a d p)
   rw[hC];exact wg (wg this)
 ·intro x hx
  have go:∀k,(k=NameKind.cell\/k=NameKind.free)->(compEnvC scope (vE X scope C) C X.env).kindOf x=some k->∃c,(vE X scope C).lookup x=some c:=λk hk e=>by
   rcases ok.kindIn e with e |⟨_,e⟩
   ·rcases hk with rfl | rfl
    ·exact KR _ _ _ (PySem.mem_of_lookup e)
    ·exact qm _ _ _ (vM (y:=(x,.free)) rfl _ _ (PySem.mem_of_lookup e))
   ·exact qm _ _ _ (vM (y:=(x,.free)) rfl _ _ (PySem.mem_of_lookup e))
  rcases hx with e |e
  ·exact go _ (.inl rfl) e
  ·exact go _ (.inr rfl) e
 ·intro x c hx h
  have hx':scope.names.lookup x=some .cell:=by simpa [xZ] using hx
  have:=zs0 (x:=x) scope.names (C+1) (kD X.env scope.names []) (C+1) (zd _) (.inl (PySem.mem_of_lookup hx')) c h;show s2.heap.objs.size<=c
  exact zw (by rw[hC];exact zw (xl _) (xl _)) this
 ·intro b hb;obtain⟨⟨_,_,_,_,f4,_⟩,f6⟩:=hf b hb;refine⟨?_,λx c h=>?_⟩
  ·show b≠C;rw[hC];exact xa (wg f6)
  ·rcases cellB x c h with ⟨_, q, _⟩ | q
   ·rw[hC] at q;exact Nat.ne_of_gt (zS f6 (zw (zw (xl _) (xl _)) q))
   ·exact f4 x c q
 ·exact zw I.ok.bsz I.sz
 ·intro b o e hb;obtain⟨⟨_,_,_,f3,_⟩,_⟩:=hf b hb
  rcases f3 with z |z
  ·exact I.ok.noex b o e z
  ·exact absurd (zS (zA (I.ok.bs b o e).1) z) (xD _)
 ·intro i x v h1 h2 h3;have h2':(replicate own.length (none:Option V)++σ)[i]?=some (some v):=h2
  have hi:own.length<=i:=by
   apply wS;intro hlt
   rw[xg (by simpa using hlt),xE] at h2'
   rw[if_pos hlt] at h2';cases h2'
  rw[zT (by simpa using hi),xv] at h2'
  have h1':(own++M)[i]?=some x:=h1;rw[zT hi] at h1';obtain⟨n1,n2⟩:=ok.shadow x (wo h1')
  have hfree:scope.names.lookup x=some .free/\((compEnvC scope (vE X scope C) C X.env).kindOf x=some .cell\/(compEnvC scope (vE X scope C) C X.env).kindOf x=some .free):=by
   rcases h3 with e |e |e
   ·rcases ok.kindIn (x := x) (C := C) e with q | ⟨q, _⟩
    ·exact absurd q n1
    ·cases q
   ·rcases ok.kindIn (x := x) (C := C) e with q | ⟨_, q⟩
    ·exact absurd q n2
    ·exact⟨q,.inl e⟩
   ·rcases ok.kindIn (x := x) (C := C) e with q | ⟨q, _⟩
    ·exact⟨q,.inr e⟩
    ·cases q
  obtain⟨hfr,hk⟩:=hfree;obtain⟨m,hn,hl⟩:=I.loc;have hkX:=ok.frees (x,.free) (PySem.mem_of_lookup hfr) rfl;have h1':=ok.same _ _ h1' hfr;obtain⟨u,ru,lk⟩:=hl (i-own.length) x v h1' h2' (hkX.elim (λz=>.inr (.inl z)) λz=>.inr (.inr z));refine⟨u,ru,.inr ⟨hk,?_⟩⟩
  rcases lk with ⟨k,_⟩ |⟨_,c,ec,ic⟩
  ·rcases hkX with z |z<;>(rw[k] at z;cases z)
  ·obtain ⟨c', e'⟩ : ∃ c', (vE X scope C).lookup x = some c' := qm _ _ _ (vM (y := (x, .free)) rfl _ _ (PySem.mem_of_lookup hfr));refine⟨c',e',?_⟩
   have:=ok.cellsFrom_old I e' (by rw[hfr];simp)
   have e2:some c=some c':=ec.symm.trans this;cases e2;exact ic.keeps keep
 ·intro x c h
  rcases cellB x c h with ⟨q,_⟩ |q
  ·exact⟨_,q⟩
  ·obtain⟨v,z⟩:=I.cell x c q;exact⟨v,z.keeps keep⟩
 ·intro x c h
  rcases cellB x c h with ⟨q,q2,_⟩ |q
  ·exact I.hok.fresh (by rw[hC] at q2;exact zw (zw (xl _) (xl _)) q2)
  ·exact I.freeC x c q
 ·show(List.replicate own.length (none:Option V)++σ).length=(own++M).length;rw[zm,zm,xv,I.len,ok.mlen]
end
section
variable {X:Cx}{scope:Scope}{own M:List Str}{pins:List (Addr × Obj)}{σ:St}{H2:Hp}{s2:Shared}{tg iter elt:Expr}{ifs:List Expr}{pos:Pos}{g:TG}{tt:TT}{te:TE}
def Vc(ok:CompOk X scope M)(hc:X.calm=true)(hg:∀C s2 H2 fp,PG (xZ X scope own M C s2 H2 fp) tg g)(ht:∀C s2 H2 fp,PTs (xZ X scope own M C s2 H2 fp) ifs tt)(he:∀C s2 H2 fp,PE (xZ X scope own M C s2 H2 fp) elt te)
  (I2:Inv X pins σ H2 s2) {it:Addr}{fp:List Addr}{tn:Nat->Heap->Prop}{J:It} (T:Turn X.prog X.w X.K tg J fp it tn) (st2:tn 0 s2.heap) (f2:∀b∈fp,FpOk X pins H2 b)
  {W:Nat->Nat->List V->Hp->Prop} (w0:∃m,W 0 m [] H2) {Qf:V->Hp->Prop}
  (turn : ∀ i m acc H, W i m acc H -> (J.stop i H /\ acc.length <= sizeLine /\ ∀ D, H D = none -> Qf (.ref D) (upd H D (.lst acc))) \/
   (J.go i H /\ acc.length < sizeLine /\ ∀ x H', J.yld i H x H' -> g x (List.replicate own.length none ++ σ) H' λσ2 H2 => σ2.drop own.length = σ /\ tt σ2 H2 λc H3 =>
    if c=true then te σ2 H3 λv H4=>∃m',m'<m/\W (i+1) m' (acc++[v]) H4 else ∃m',m'<m/\W (i+1) m' acc H3))
  {RR:Value->Addr->Result->Shared->Prop}{E:Value->Shared->Prop}
  (fin:∀D C H' s' m,Inv X pins σ H' s'->Qf (.ref D) H'->s'.heap.Ns C m->H' C=none->C≠X.env.locals->X.s₀.heap.objs.size<=C->(∀x c,X.env.cells.lookup x=some c->c≠C)->(∀p∈X.pn++pins,p.1≠C)->RR (.ref D) C (.ok .next) s') :
  wpAny (model X.prog X.w) X.A (newList []) (λacc s3=>wpAny (model X.prog X.w) X.A (newFunctionEnv scope X.env.globals (kD X.env scope.names []) [] X.env.qual none .none (some X.env)) (λcenv s4=>
   codeAny (model X.prog X.w) X.A (.compStart (.ListComp elt [⟨tg,iter,ifs,0⟩] scope pos) 0 (.ref it) acc { cenv with scope:=relabel scope X.env }) (RR acc cenv.locals) s4) E s3) E s2:=by
 refine wf (jg ?_);have zC:(s2.heap.push { cls:=.type "list",dict:=none,data:=.seq ([]:List Value).toArray }).objs.size=s2.heap.objs.size+1:=wl ..;dsimp only;rw[zC];generalize hC:s2.heap.objs.size+1=C;generalize hh:pushCells ((s2.heap.push { cls:=.type "list",dict:=none,data:=.seq ([]:List Value).toArray }).push { cls:=.type "dict",data:=.dict #[] }) scope.names=h4
 have fpl:∀b∈fp,FpOk X pins H2 b/\b<s2.heap.objs.size:=λb hb=>by
  obtain⟨o,e,_⟩:=T.obj 0 _ st2 b hb;exact⟨f2 b hb,zA e⟩
 have I4:Inv (xZ X scope own M C s2 H2 fp) [] (replicate own.length none++σ) H2 { s2 with heap:=h4 }:=Kz ok hc I2 fpl hC.symm hh.symm;generalize hX:xZ X scope own M C s2 H2 fp=X' at I4
 have keep4:∀b o,s2.heap.get? b=some o->h4.get? b=some o:=λb o e=>by
  rw[<- hh];exact pushCells_keeps _ _ _ _ (ze _ (ze _ e))
 have hD4:h4.get? s2.heap.objs.size=some { cls:=.type "list",dict:=none,data:=.seq ([]:List Value).toArray }:=by
  rw[<- hh];exact pushCells_keeps _ _ _ _ (ze _ (zD _ rfl))
 have st4:tn 0 h4:=T.keep _ _ _ st2 λb hb o e=>keep4 b o e
 have gg:PG X' tg g:=by rw[<- hX];exact hg C s2 H2 fp
 have gt:PTs X' ifs tt:=by rw[<- hX];exact ht C s2 H2 fp
 have ge:PE X' elt te:=by rw[<- hX];exact he C s2 H2 fp
 have xP:X'.prog=X.prog:=by rw[<- hX];rfl
 have xw:X'.w=X.w:=by rw[<- hX];rfl
 have xK:X'.K=X.K:=by rw[<- hX];rfl
 have xA:X'.A=X.A:=by rw[<- hX];rfl
 have xc:X'.calm=true:=by rw[<- hX];exact hc
 have xpn:X'.pn=[]:=by rw[<- hX];rfl
 have xs:X'.s₀=s2:=by rw[<- hX];rfl
 have xH:X'.H₀=H2:=by rw[<- hX];rfl
 have xL:X'.env.locals=C:=by rw[<- hX];rfl
 have xfs:X'.fs=frs X.stack:=by rw[<- hX];rfl
 have xex:X'.ex=fp:=by rw[<- hX];rfl
 have xe:X'.xe=λ_ _=>False:=by rw[<- hX];rfl
 have xenv:({ newEnv scope C X.env.globals (cellsFrom (C+1) scope.names (kD X.env scope.names [])) X.env.qual none .none (some X.env) builtinsNs with scope:=relabel scope X.env }:Env)=X'.env:=by rw[<- hX];rfl
 have Dlt:s2.heap.objs.size<C:=by rw[<- hC];exact ym _
 have fpb:∀{pl:List (Addr × Obj)}{H:Hp},(∀b∈fp,H b=none)->(∀p∈pl,p.1 ∉ fp)->∀b∈fp,FpOk X' pl H b:=λ{pl H} hn hpl b hb=>by
  refine⟨hn b hb,?_,?_,.inl (by rw[xex];exact hb),λx c e=>(I4.ok.exf b (by rw[xex];exact hb)).2 x c e,λp hp z=>?_⟩
  ·exact(I4.ok.exf b (by rw[xex];exact hb)).1
  ·exact I4.ok.exfs b (by rw[xex];exact hb)
  ·rw [xpn, xt] at hp
   exact hpl p hp (by rw[z];exact hb)
 have Dfp:s2.heap.objs.size ∉ fp:=λz=>xD _ (fpl _ z).2;have DC:s2.heap.objs.size≠C:=xa Dlt
 have Dcell:∀x c,X'.env.cells.lookup x=some c->c≠s2.heap.objs.size:=λx c e z=>by
  obtain⟨v,o,q,hd⟩:=I4.cell x c e;rw[z] at q;have q':h4.get? s2.heap.objs.size=some o:=q;rw[hD4] at q';cases q';cases hd
 have Dfs:s2.heap.objs.size ∉ X'.fs:=λz=>by
  obtain⟨_,o,ho,_⟩:=I4.ok.funs.mem (by exact z)
  rw[xs] at ho;exact xD _ (zA ho)
 rw[xenv]
 have goal:∀s5:Shared,s5={ s2 with heap:=h4 }->codeAny (model X.prog X.w) X.A (.compLoop (.ListComp elt [⟨tg,iter,ifs,0⟩] scope pos) 0 (.ref it) (.ref s2.heap.objs.size) X'.env) (RR (.ref s2.heap.objs.size) C) s5:=by
  rintro s5 rfl;obtain⟨m0,w0⟩:=w0
  refine zg9 (λn s'=>∃i acc σ' H' its k,Inv X' [] σ' H' s'/\σ'.drop own.length=σ/\tn i s'.heap/\(∀b∈fp,H' b=none)/\H' s2.heap.objs.size=none /\
   s'.heap.get? s2.heap.objs.size=some { cls:=.type "list",data:=.seq (List.toArray its) k }/\Vals acc its/\W i n acc H') ?_ m0
   ⟨0,[],_,H2,[],0,I4,by simp,st4,λb hb=>(f2 b hb).1,I2.hok.fresh (zd _),hD4,.nil,w0⟩
  rintro n s3 ⟨i,acc,σ3,H3,its,k,I3,hσ,st3,fr3,hD,hDo,rv,w3⟩
  have pinD:∀{H:Hp}{s:Shared}{σ:St},Inv X' [] σ H s->H s2.heap.objs.size=none->s.heap.get? s2.heap.objs.size=some { cls:=.type "list",data:=.seq (List.toArray its) k } ->
    Inv X' [(s2.heap.objs.size,{ cls:=.type "list",data:=.seq (List.toArray its) k })] σ H s:=λ{H s σ} I hn ho=>I.pins_of λp hp=>by
   have e:p=(s2.heap.objs.size,{ cls:=.type "list",data:=.seq (List.toArray its) k }):=by simpa using hp
   subst e
   exact⟨ho,hn,by rw[xL];exact DC,Dfs,λv z=>by cases z⟩
  have plD:∀p∈[((s2.heap.objs.size,{ cls:=.type "list",data:=.seq (List.toArray its) k }):Addr × Obj)],p.1 ∉ fp:=λp hp=>by
   have e:p=(s2.heap.objs.size,{ cls:=.type "list",data:=.seq (List.toArray its) k }):=by simpa using hp
   subst e;exact Dfp
  have I3':=pinD I3 hD hDo
  rcases turn i n acc H3 w3 with ⟨stop,hsz,q⟩ |⟨go,hsz,step⟩
  ·have := T.done X' xP xw xK xc i _ s3 σ3 H3 (λ_ _ => False) I3' (fpb fr3 plD) st3 stop;rw[xA] at this;refine thn this λr s4 ⟨hr,I5⟩=>?_;subst hr
   have hDo5:=(I5.pin (s2.heap.objs.size,{ cls:=.type "list",data:=.seq (List.toArray its) k }) (by rw[xpn];simp)).1
   have un:Un (frs X.stack) fp H2 H3 s2.heap s4.heap:=by
    have:=I5.base;rw[xfs,xex,xH,xs] at this;exact this
   have os:s4.os=s2.os:=by rw[I5.os,xs]
   have hok:HOk X.prog X.w H3 s4.heap:=by have:=I5.hok;rw[xP,xw] at this;exact this
   have IX:Inv X pins σ H3 s4:=I2.call' os un hok I5.bare λb hb=>by
    obtain⟨_,f1,_,f3,f4,f5⟩:=f2 b hb;exact⟨f3,f1,f4,f5⟩
   have old:∀{b:Addr},s2.heap.objs.size<=b->(X.s₀.heap.objs.size<=b/\b≠X.env.locals/\(∀x c,X.env.cells.lookup x=some c->c≠b)/\∀p∈X.pn++pins,p.1≠b):=λ{b} hb=>by
    obtain⟨_,f1,_,f3,f4,f5⟩:=I2.fpOk (H':=λ_=>none) hb rfl;exact⟨zw I2.sz hb,f1,f4,f5⟩
   obtain⟨d1,d2,d3,d4⟩:=old (zd s2.heap.objs.size);obtain⟨c1,c2,c3,c4⟩:=old (b:=C) (xM Dlt);have IY:Inv X pins σ (upd H3 s2.heap.objs.size (.lst acc)) s4:=IX.track hD d1 d2 d3 d4 ⟨hsz,its,k,rv,hDo5⟩;obtain⟨m,hm,_⟩:=I5.loc;rw[xL] at hm
   have hCn:H3 C=none:=by have:=I5.free;rw[xL] at this;exact this
   exact fin _ C _ s4 m IY (q _ hD) hm (by rw[wr (Ne.symm DC)];exact hCn) c2 c1 c3 c4
  ·have := T.item X' xP xw xK xc i _ s3 σ3 H3 (λ_ _ => False) I3' (fpb fr3 plD) st3 go;rw[xA] at this;refine thn this λr s4 ⟨u,hr,h4⟩=>?_;subst hr;refine thn h4 λ_ s5 ⟨x,H5,I5,r5,y5,st5,fr5⟩=>?_
   have hσn:∀(j:Nat) v,(replicate own.length none++σ)[j]?=some (some v)->σ3[j]?=some (some v):=λj v e=>by
    by_cases hlt:j<own.length
    ·rw [xg (by simpa using hlt), xE, if_pos hlt] at e
     cases e
    ·have hle := wS hlt
     rw[zT (by simpa using hle),xv,<- hσ,xQ] at e
     rw[show own.length+(j-own.length)=j by lia] at e
     exact e
   have hlen:(replicate own.length none++σ).length=σ3.length:=by
    have e1:σ3.length=X'.N.length:=I5.len;have e2:=I4.len;exact e2.trans e1.symm
   have I5w:Inv X' _ (replicate own.length none++σ) H5 s5:=I5.weak hlen hσn;have I5p:=I5w.pinned (fpb fr5 plD) (T.obj _ _ st5);have a1:=gg _ s5 _ H5 x u _ I5p r5 (step x H5 y5);rw[xP,xw,xA,xe] at a1;refine thn a1 λ_ s6 ⟨σ6,H6,I6,d6,q6⟩=>?_;have a2:=gt _ s6 σ6 H6 _ I6 q6;rw[xP,xw,xA,xe] at a2;refine thn a2 λb s7 ⟨H7,I7,q7⟩=>?_
   have pin7:∀{H:Hp}{s:Shared},Inv X' ([((s2.heap.objs.size,{ cls:=.type "list",data:=.seq (List.toArray its) k }):Addr × Obj)]++qu fp s5.heap) σ6 H s ->
     (tn (i+1) s.heap/\(∀b∈fp,H b=none)/\H s2.heap.objs.size=none/\s.heap.get? s2.heap.objs.size=some { cls:=.type "list",data:=.seq (List.toArray its) k }/\Inv X' [] σ6 H s):=λ{H s} I=>by
    refine⟨T.keep _ _ _ st5 λb hb o e=>(I.pin (b,o) (zr _ (zr _ (yW hb e)))).1,λb hb=>?_,?_,?_,I.pins_of λp hp=>by simp at hp⟩
    ·obtain⟨o,e,d⟩:=T.obj _ _ st5 b hb;exact(I.pin (b,o) (zr _ (zr _ (yW hb e)))).2.1
    ·exact(I.pin (s2.heap.objs.size,{ cls:=.type "list",data:=.seq (List.toArray its) k }) (by rw[xpn];simp)).2.1
    ·exact(I.pin (s2.heap.objs.size,{ cls:=.type "list",data:=.seq (List.toArray its) k }) (by rw[xpn];simp)).1
   cases b with
   |false=>
    obtain⟨p1,p2,p3,p4,p5⟩:=pin7 I7;obtain⟨m',hm,w7⟩:=q7;exact⟨m',hm,i+1,acc,σ6,H7,its,k,p5,d6,p1,p2,p3,p4,rv,w7⟩
   |true=>
    rw[if_pos rfl] at q7 ⊢;have a3:=ge _ s7 σ6 H7 _ I7 q7;rw[xP,xw,xA,xe] at a3;refine thn a3 λy s8 ⟨v,H8,I8,r8,q8⟩=>?_;obtain⟨p1,p2,p3,p4,p5⟩:=pin7 I8;obtain⟨m',hm,w8⟩:=q8;have hl:=rv.length
    refine wpAny_list_append_plain (items:=List.toArray its) ⟨k,p4⟩ (λh' hpl hs=>?_) (by simp;lia)
    obtain⟨k',hpl⟩:=hpl
    have I9:Inv X' [] σ6 H8 { s8 with heap:=h' }:=p5.turned (t':=s8.toks) (λb o hb e=>hs.extBut b o hb e) p3 (by rw[xL];exact DC) (.inr (by rw[xs];exact zd _)) Dcell (λp hp=>by rw[xpn] at hp;simp at hp)
    refine⟨m',hm,i+1,acc++[v],σ6,H8,its++[y],k',I9,d6,T.keep _ _ _ p1 λb hb o e=>hs.extBut b o (λz=>Dfp (by rw[<- z];exact hb)) e,p2,p3,?_,rv.append (.cons r8 .nil),w8⟩
    rw[hpl];simp
 exact codeAny_compStart_list (goal _ rfl) (T.self _ 0 _ _ _ st4 (goal _ rfl))
def zC2{wi:TI}(ok:CompOk X scope M)(hc:X.calm=true)(hi:PI X tg iter wi)(hg:∀C s2 H2 fp,PG (xZ X scope own M C s2 H2 fp) tg g)(ht:∀C s2 H2 fp,PTs (xZ X scope own M C s2 H2 fp) ifs tt)
  (he:∀C s2 H2 fp,PE (xZ X scope own M C s2 H2 fp) elt te) (hs:∀x,foldedSetIterable iter X.env x=pure x:=by intro _;rfl) :
  PE X (.ListComp elt [⟨tg,iter,ifs,0⟩] scope pos) (zj7 wi own.length g tt te):=by
 intro pins s σ H Q I h;rw[eval_ListComp]
 refine yf (use:=none) rfl hs (ZC (ok.cells I)) ok.kind (λx hx hl=>by rw[ok.uniq x hx,hl]) ?_
 refine thn (hi pins s σ H _ I h) λv s1 h1=>thn h1 λitv s2 h2=>?_;obtain⟨it,fp,tn,J,H2,e,I2,T,st2,f2,W,w0,turn⟩:=h2;subst e;refine Vc (Qf:=Q) ok hc hg ht he I2 T st2 f2 w0 turn λD C H' s' m IY q hm hCn c2 c1 c3 c4=>⟨m,hm,λh' hs'=>?_⟩;exact⟨.ref D,H',IY.turned (t':=s'.toks) (λb o hb e=>hs'.extBut b o hb e) hCn c2 (.inr c1) c3 c4,rfl,q⟩
def Jm{wi:TI}{i:Nat}{x:Str}{pos' spos:Pos}(hN:X.N.Nodup)(hix:X.N[i]?=some x)(hx:Loc X.env.scope x)(ok:CompOk X scope M)(hc:X.calm=true)(hi:PI X tg iter wi)(hg:∀C s2 H2 fp,PG (xZ X scope own M C s2 H2 fp) tg g)
  (ht:∀C s2 H2 fp,PTs (xZ X scope own M C s2 H2 fp) ifs tt) (he:∀C s2 H2 fp,PE (xZ X scope own M C s2 H2 fp) elt te)
  (hsw:swapsWith (.ListComp elt [⟨tg,iter,ifs,0⟩] scope pos) (some (.Name x pos')) spos.line X.env=pure true:=by rfl) (hf:X.fn x=true\/X.env.scope.names.lookup x=some .local:=by first |exact .inl rfl |exact .inr rfl |assumption)
  (hs:∀x,foldedSetIterable iter X.env x=pure x:=by intro _;rfl):PS X (.Assign [.Name x pos'] (.ListComp elt [⟨tg,iter,ifs,0⟩] scope pos) spos) (xc0 (zj7 wi own.length g tt te) (zq1 i)):=by
 intro pins s σ H D I h;rw[exec_Assign_Name_used _ _ _ _ hsw];refine zb (wk (zb ?_))
 show wpAny _ _ (do let _ <- comprehension (.ListComp elt [⟨tg,iter,ifs,0⟩] scope pos) scope X.env _ (newList []) false (eval iter X.env) (some (assign (.Name x pos') X.env))) _ _ s
 refine zb (thn (yf (use:=some (assign (.Name x pos') X.env)) (Q:=λ_ s'=>SP X pins D .next s') rfl hs (ZC (ok.cells I)) ok.kind (λx hx hl=>by rw[ok.uniq x hx,hl]) ?_)
  λ_ s' hq=>zf (zf hq))
 refine thn (hi pins s σ H _ I h) λv s1 h1=>thn h1 λitv s2 h2=>?_;obtain⟨it,fp,tn,J,H2,e,I2,T,st2,f2,W,w0,turn⟩:=h2;subst e;refine Vc (Qf:=λx H1=>zq1 i x σ H1 D.nx) ok hc hg ht he I2 T st2 f2 w0 turn λD' C H' s' m IY q hm hCn c2 c1 c3 c4=>?_;show wpAny _ _ (assign (.Name x pos') X.env (.ref D')) _ _ s';refine wpAny_assign_Name (We IY hN hix hx (v:=.ref D') rfl (λs'' I'' ⟨a,hsb,ha⟩=>?_) hf)
 have hCa:C≠a:=by
  rcases ha with z |z
  ·rw[z];exact c2
  ·exact λe=>c3 x a z e.symm
 exact⟨m,hm.sameBut hsb hCa,λh' hs'=>⟨_,H',I''.turned (t':=s''.toks) (λb o hb e=>hs'.extBut b o hb e) hCn c2 (.inr c1) c3 c4,q⟩⟩
end
section
variable {X:Cx}{pins:List (Addr × Obj)}{σ:St}{H:Hp}{s:Shared}
def Inv.turnedL{t':Nat}{h':Heap}{ch:List Addr}(I:Inv X pins σ H s)(k:∀b o,b ∉ ch->s.heap.get? b=some o->h'.get? b=some o)(hf:∀b∈ch,FpOk X pins H b):Inv X pins σ H { s with heap:=h',toks:=t' }:=by
 have nit:∀b u,H b=some u->b ∉ ch:=λb u e z=>by rw[(hf b z).1] at e;cases e
 refine I.step (g':=s.gens) (d':=s.drawn) (ch:=ch) (λb hb=>?_) (λb o _ _ hc e _=>k b o hc e) (λb o _ _ hc e _=>⟨o.slots,k b o hc e⟩) (λ_ _ _ _ n=>n)
  (λb o hc e=>⟨o,k b o hc e⟩) (λ_ _ e=>e) (λ_ _ _ e=>e) (λb ps e=>⟨#[],by rw[e];simp⟩) (λm hm=>?_) (λb u e=>?_) I.bare
 ·obtain⟨_,f1,_,f3,f4,f5⟩:=hf b hb;exact⟨f3,f1,f4,f5⟩
 ·obtain⟨o,es,ep,ho,r⟩:=hm;exact⟨o,es,ep,k _ o (λz=>(hf _ z).2.1 rfl) ho,r⟩
 ·refine (I.hok b u e).stay (λc v hc q => k c v ?_ q) (λ_ q => q) λ_ _ q => q
  rcases hc with z |z
  ·rw[z];exact nit b u e
  ·exact nit c _ z
def SqB(K:W.Frag)(b:Bool)(H:Hp)(a:Addr)(xs:List V):Prop:=match b with |true=>SqL K H a xs |false=>SqT K H a xs
def newTup{T:Addr}{x y:V}{u v:Value}{s1:Shared}(I:Inv X pins σ H s)(I1:Inv X pins σ H s1)(hT:s.heap.objs.size<=T)(hn:H T=none)(ho:s1.heap.get? T=some { cls:=.type "tuple",data:=.seq #[u,v] })(rx:RelV x u)(ry:RelV y v) :
  Inv X pins σ (upd H T (.tup [x,y])) s1:=by
 obtain⟨_,f1,_,f3,f4,f5⟩:=I.fpOk (H':=H) hT hn
 exact I1.track hn (zw I.sz hT) f1 f4 f5 ⟨(by show 2<=sizeLine;decide),[u,v],.cons rx (.cons ry .nil),⟨_,ho,rfl,_,rfl⟩⟩
def Ite(K:W.Frag)(l:Addr):It:=
  ⟨λi H=>∃xs x,SqL K H l xs/\xs[i]?=some x,
   λi H v H'=>∃T,H T=none/\v=.ref T/\∀xs,SqL K H l xs->∃x,xs[i]?=some x/\H'=upd H T (.tup [.int i,x]),
   λi H=>∃xs,SqL K H l xs/\xs.length<=i⟩
def Qg{P:Program}{w:World}{K:W.Frag}{es:List Expr}{kk:Nat}{ps:Pos}{e it l:Addr}(D:e≠it) :
  Turn P w K (.Tuple es kk ps) (Ite K l) [e,it] e (λi h=>(∃old,IsEnum h e it i old)/\h.IsListIter it l i) where
 mem:=by simp
 obj:=λi h st d hd=>by
  simp only[zh,wb,or_false] at hd
  rcases hd with rfl |rfl
  ·obtain ⟨old, q⟩ := st.1
   exact⟨_,q,λv q=>by cases q⟩
  ·obtain ⟨o, q, _, hd⟩ := st.2
   exact⟨o,q,λv z=>by rw[hd] at z;cases z⟩
 keep:=λi h h' st k=>by
  obtain⟨old,q⟩:=st.1
  exact⟨⟨old,k e (by simp) _ q⟩,st.2.at λo q=>k it (by simp) o q⟩
 item:=by
  intro X hP hw hK hc i pins s σ H E I hf st hg;subst hP hw hK;obtain⟨xs,x,q1,hx⟩:=hg;obtain⟨is1,r1,p1,_⟩:=I.list q1;obtain⟨u,hu,ru⟩:=r1.get hx;obtain⟨old,he⟩:=st.1
  refine wpAny_pyNext_enum_item he st.2 p1.isList (x:=u) (by simpa using hu) D λh' ho hit' hT hsz kp=>?_
  have lt:∀{d:Addr},d∈[e,it]->s.heap.objs.size≠d:=λ{d} hd z=>by
   obtain⟨o,q⟩:∃o,s.heap.get? d=some o:=by
    simp only[zh,wb,or_false] at hd
    rcases hd with rfl |rfl
    ·exact⟨_,he⟩
    ·obtain⟨o,q,_⟩:=st.2;exact⟨o,q⟩
   have:=zA q;rw[<- z] at this;exact xD _ this
  refine⟨_,rfl,wpAny_letOwnedTupleGo_enum (s:={ s with heap:=h',toks:=s.toks+1 }) ho λh'' he' sb=>?_⟩
  have kp2:∀d o,d ∉ [e,it]->s.heap.get? d=some o->h''.get? d=some o:=λd o hd q=>by
   simp only[zh,wb,or_false,not_or] at hd;exact sb.extBut _ _ hd.1 (kp d o hd.1 hd.2 q)
  have I1:Inv X pins σ H { s with heap:=h'',toks:=s.toks+1 }:=I.turnedL kp2 hf;have hn:H s.heap.objs.size=none:=I.hok.fresh (zd _)
  have I2:Inv X pins σ (upd H s.heap.objs.size (.tup [.int i,x])) { s with heap:=h'',toks:=s.toks+1 }:=newTup I I1 (zd _) hn (sb.extBut _ _ (lt (by simp)) hT) ⟨_,rfl⟩ ru
  refine⟨.ref s.heap.objs.size,_,I2,rfl,⟨_,hn,rfl,λxs' e1=>⟨x,by rw[I.list_inj e1 q1];exact hx,rfl⟩⟩,⟨⟨u,by simpa using he'⟩,hit'.extBut sb.extBut (Ne.symm D)⟩,λd hd=>?_⟩
  rw[wr (Ne.symm (lt hd))];exact(hf d hd).1
 done:=by
  intro X hP hw hK hc i pins s σ H E I hf st hg;subst hP hw hK;obtain⟨xs,q1,hx⟩:=hg;obtain⟨is1,r1,p1,_⟩:=I.list q1;obtain⟨old,he⟩:=st.1;have e1:=r1.length
  refine wpAny_pyNext_enum_end (I.ok.hd hc) he st.2 p1.isList (by simp;lia) λh' kp=>⟨rfl,I.turnedL (t':=s.toks) (λd o hd e=>?_) hf⟩
  simp only[zh,wb,or_false,not_or] at hd;exact kp d o hd.2 e
 self:=λ_ _ _ _ _ st h=>by
  obtain⟨old,q⟩:=st.1;exact wpAny_pyIter_enum q h
def xn8(K:W.Frag)(ta:TA):TI:=λσ H R=>ta σ H λvs H1=>∃l xs,vs=[.ref l]/\SqL K H1 l xs/\R (Ite K l) H1
def zB5{es:List Expr}{kk:Nat}{ps:Pos}{a:Expr}{ta:TA}{p pos:Pos}(hg:Gl X "enumerate")(hm:X.mg "enumerate" = none)(ha:PA X [a] ta)(hs:starEach [a] X.env=[(false,eval a X.env)]:=by rfl) :
  PI X (.Tuple es kk ps) (.Call (.Name "enumerate" p) [a] [] pos) (xn8 X.K ta):=by
 intro pins s σ H R I h
 refine Call_ (WQ I hg hm (show bootBuiltins "enumerate" = some (.type "enumerate") by decide +kernel) (PyProof.Rows.callWith_type1 (thn (ha pos pins s σ H _ I h) λus s1 ⟨vs,H1,I1,r1,q1⟩=>?_) hs rfl))
 obtain⟨l,xs,e,q1,q⟩:=q1;subst e
 cases r1 with
 | cons r rr =>
  cases rr;cases r;obtain⟨is1,r1,p1,_⟩:=I1.list q1;refine call_enumerate_list p1.isList λh' he hit hsz kp=>wpAny_pyIter_enum he ?_;refine⟨s1.heap.objs.size+1,[s1.heap.objs.size+1,s1.heap.objs.size],_,_,H1,rfl,I1.kept (t':=s1.toks) kp,Qg (Nat.succ_ne_self _),⟨⟨_,he⟩,hit⟩,λd hd=>?_,q⟩
  have hd':s1.heap.objs.size<=d:=by
   simp only[zh,wb,or_false] at hd
   rcases hd with rfl |rfl
   ·exact xl _
   ·exact zd _
  exact I1.fpOk hd' (I1.hok.fresh hd')
def zu5{h h':Heap}{o:Obj}(hk:∀b x,b ∉ [h.objs.size]->(h.push o).get? b=some x->h'.get? b=some x):∀b x,h.get? b=some x->h'.get? b=some x:=
 λb x e=>hk b x (λz=>absurd (zA e) (by rw[zW.mp z];exact xD _)) (ze _ e)
def YG:fillsNumberSlot (.type "tuple") "mul" = pure false:=
 PySem.fillsNumberSlot_seq (id := "tuple.__mul__") (r:=some (.builtin "tuple.__rmul__")) F.slot_tuple_mul.lookup x4 F.slot_tuple_rmul.lookup x4
def zy2:seqRepeat? (.type "tuple")=pure (some (.builtin "tuple.__mul__")):=by
 unfold seqRepeat?
 rw[PySem.seqSlot_of (T := "tuple") (name := "__mul__") (id := "tuple.__mul__") F.slot_tuple_mul.lookup x4,PySem.seqSlot_of (T := "tuple") (name := "__rmul__") (id := "tuple.__rmul__") F.slot_tuple_rmul.lookup x4]
 rfl
def zk8(a:Int)(t:Tok)(l:Addr)(o:Obj)(items:Array Value)(n:Nat) :
  Meets (Builtin.«int.__rmul__» ⟨[.int a t,.ref l],[]⟩) (λ_ R s=>s.heap.get? l=some o/\o.cls=.type "tuple" /\ o.data=.seq items n/\R (.ok (.ret Value.notImplemented)) s):=
 .of_wp λprog w A R s h=>by
  obtain⟨hp,g,d,tk,os⟩:=s;obtain⟨hl,hc,hd,h⟩:=h;obtain⟨c,dd,dt,sl⟩:=o
  replace hc:c=.type "tuple" := hc
  replace hd:dt=.seq items n:=hd
  subst hc hd
  wp_walk
  exact⟨_,rfl,h⟩
def zE4(l:Addr)(o:Obj)(items:Array Value)(n:Nat)(k:Int)(t:Tok)(h1:¬ (decide (k < -(2^63))||decide (k>=2^63))=true)(he:items.isEmpty=false)(hk1:(k == 1)=false)(hk0:(decide (k<=0)||items.isEmpty)=false)
    (hcap:¬ (items.size:Int)*k > (2^63-1)/8) (htoo:¬ Builtin.Tuple.tupleTooMany ((items.size:Int)*k)=true) (hz:((replicate k.toNat items).foldl (·++·) #[]).size<=sizeLine) :
    Meets (Builtin.«tuple.__mul__» ⟨[.ref l,.int k t],[]⟩) (λ_ R s=>s.heap.get? l=some o/\o.cls=.type "tuple" /\ o.data=.seq items n /\
      R (.ok (.ret (.ref s.heap.objs.size))) { s with heap:=s.heap.push { cls:=.type "tuple",data:=.seq ((replicate k.toNat items).foldl (·++·) #[]) } }):=
  .of_wp λprog w A R s h=>by
    obtain⟨hp,g,d,tk,os⟩:=s;obtain⟨hl,hc,hd,h⟩:=h;obtain⟨c,dd,dt,sl⟩:=o
    replace hc:c=.type "tuple" := hc
    replace hd:dt=.seq items n:=hd
    subst hc hd
    wp_walk
    rw[if_neg h1]
    wp_walk
    rw[hk0,if_neg zQ];dsimp only;rw[if_neg hcap,if_neg htoo];unfold Builtin.Tuple.tupleExact;refine zb (wpAny_newTuple ?_);exact zf ⟨_,rfl,h⟩
def zp0(l:Addr)(o:Obj)(items:Array Value)(n:Nat)(t:Tok) :
  Meets (Builtin.«tuple.__mul__» ⟨[.ref l,.int 1 t],[]⟩) (λ_ R s=>s.heap.get? l=some o/\o.cls=.type "tuple" /\ o.data=.seq items n/\R (.ok (.ret (.ref l))) s):=
 .of_wp λprog w A R s h=>by
  obtain⟨hp,g,d,tk,os⟩:=s;obtain⟨hl,hc,hd,h⟩:=h;obtain⟨c,dd,dt,sl⟩:=o
  replace hc:c=.type "tuple" := hc
  replace hd:dt=.seq items n:=hd
  subst hc hd
  wp_walk
  exact⟨_,rfl,h⟩
def zM5(K:W.Frag):R2:=λx y H Q=>∃l k xs,x=.ref l/\y=.int k/\SqT K H l xs/\xs≠[]/\1<=k/\xs.length*k.toNat<=sizeLine /\
 (k=1->Q (.ref l) H)/\(k≠1->∀p,H p=none->Q (.ref p) (upd H p (.tup (replicate k.toNat xs).flatten)))
def zC8:OpR X (binaryOp .Mult) (zM5 X.K):=by
 intro pins s σ H x y v u Q I rx ry h;obtain⟨l,k,xs,rfl,rfl,hq,hne,h1,hz,q1,q2⟩:=h;cases rx;obtain⟨t,rfl⟩:=ry;obtain⟨its,rv,⟨o,e,hc,n,hd⟩,_⟩:=I.tuple hq;have hlen:=rv.length
 have hpos:0<its.length:=by rw[<- hlen];exact List.length_pos_iff.mpr hne
 have tyT:s.TypeIs (.ref l) "tuple" := ⟨o,e,hc⟩
 refine wpAny_binaryOp_repeat_ref (T := "tuple") (U := "int") w6 tyT (λs'=>typeIs_int s' k t) YG F.fills_int_mul F.slot_int_rmul zy2 F.slot_int_index.lookup
  (call_meets F.slot_int_rmul (typeIs_int s k t) F.entry_int_rmul (F.args_int_rmul_2 _ _) (zk8 k t l o its.toArray n) ⟨e,hc,hd,rfl,tyT,?_⟩)
 by_cases hk:k=1
 ·subst hk;exact call_meets F.slot_tuple_mul tyT F.entry_tuple_mul (F.args_tuple_mul_2 _ _) (zp0 l o its.toArray n t) ⟨e,hc,hd,⟨.ref l,H,I,rfl,q1 rfl⟩⟩
 ·have hk2 : (2 : Int) <= k := by lia
  have hnat:its.length*k.toNat<=sizeLine:=by rw[<- hlen];exact hz
  have hprod:((its.toArray.size:Nat):Int)*k=((its.length*k.toNat:Nat):Int):=by
   rw[zt,Int.natCast_mul,Int.toNat_of_nonneg w5]
  have hsl:(sizeLine:Int)=16777216:=w6
  have hb:((its.length*k.toNat:Nat):Int)<=16777216:=by rw[<- hsl];exact Int.ofNat_le.mpr hnat
  have hkle:k<=16777216:=by
   have:k.toNat<=its.length*k.toNat:=Nat.le_mul_of_pos_left _ hpos;lia
  have hnew:List.foldl (λx1 x2=>x1++x2) #[] (replicate k.toNat its.toArray)=(replicate k.toNat its).flatten.toArray:=by
   have:=WY its k.toNat [];rw[xt] at this;exact this
  refine call_meets F.slot_tuple_mul tyT F.entry_tuple_mul (F.args_tuple_mul_2 _ _) (zE4 l o its.toArray n k t ?_ ?_ ?_ ?_ ?_ ?_ ?_) ⟨e,hc,hd,?_⟩
  ·rw[Bool.or_eq_true,wJ,wJ];lia
  ·cases its with
   |nil=>simp at hpos
   |cons=>rfl
  ·simpa using hk
  ·rw [Bool.or_eq_false_iff]
   refine⟨zU w5,?_⟩
   cases its with
   |nil=>simp at hpos
   |cons=>rfl
  ·rw[hprod];lia
  ·unfold Builtin.Tuple.tupleTooMany;rw[hprod,wJ,hsl];lia
  ·rw[hnew,zt,zc2,Nat.mul_comm];exact hnat
  ·rw [hnew]
   refine⟨.ref _,_,I.laid (o:=.tup (replicate k.toNat xs).flatten) (t':=s.toks) (λ_ _ z=>ze _ z) (zd _) ⟨by rw[zc2,Nat.mul_comm];exact hz,_,rv.rep k.toNat,⟨_,zD _ rfl,rfl,_,rfl⟩⟩,rfl,q2 hk _ I.fresh⟩
end
section
variable (P:Program) (w:World)
end
section
variable {P:Program}{w:World}{H H':Hp}{h h':Heap}{a:Addr}{o:HO}
end
section
variable {P:Program}{w:World}{H:Hp}{h h':Heap}{x e:Addr}{o':HO}
end
section
variable {fs fs' ex ex':List Addr}{H H1 H2:Hp}{h h1 h2 h':Heap}{a x e:Addr}{o:HO}
end
section
variable {X:Cx}{pins:List (Addr × Obj)}{σ:List (Option V)}{H H':Hp}{s:Shared}{h':Heap}
end
section
variable {X:Cx}
variable {a b:Expr}{ta tb:TE}{pos:Pos}
variable {tA tB':TT}{rest:List Expr}
end
section
variable {X:Cx}{pins:List (Addr × Obj)}{σ:St}{H:Hp}{s:Shared}{a:Addr}{xs ys:List V}
end
section
variable {X:Cx}{pins:List (Addr × Obj)}{σ:St}{H:Hp}{s:Shared}{E:Value->Shared->Prop}
end
section
variable {X:Cx}{st:Stmt}{rest:List Stmt}{t u:TS}{e:Expr}{te:TE}{pos:Pos}
end
section
variable {X:Cx}{pos:Pos}
end
section
variable {X:Cx}{tg:Expr}
end
section
variable {X:Cx}{a b c:Expr}{ta tb tc:TE}{pos:Pos}
end
section
variable {prog:Program}{w:World}{A:Around}{E:Value->Shared->Prop}{s:Shared}{K:W.Frag}{x dx C f:Addr}{mA:Str->Option Value}{name:Str}{v:Value}
end
section
variable {P:Program}{w:World}{H H':Hp}{h h':Heap}{a C dx:Addr}{fs fs':List (Str × V)}
end
section
variable {X:Cx}{pins:List (Addr × Obj)}{σ:St}{H:Hp}{s:Shared}{a C dx:Addr}{fs:List (Str × V)}{f:Str}{v:V}{A:Around}{E:Value->Shared->Prop}
end
section
variable {X:Cx}{o e value:Expr}{f:Str}{pos pos' tpos:Pos}{ta tv:TE}
end
section
variable {X:Cx}{pins:List (Addr × Obj)}{σ:St}{H:Hp}{s:Shared}{A:Around}{E:Value->Shared->Prop}{Q:Value->Shared->Prop}{c:Value}{b:Bool}
end
section
variable {X:Cx}{e:Expr}{es:List Expr}{te:TE}{t:TA}{pos:Pos}
end
section
variable {X:Cx}{pins:List (Addr × Obj)}{σ:St}{H:Hp}{s s':Shared}
end
section
variable {X:Cx}{CX:CXT}{k:Nat}{f C:Addr}{fd:FuncData}{ps:List Str}{sp:Sp}{dvs:List V}{ds:List Value}{E:XK}{x m:Str}{p pos apos:Pos}{e o:Expr}{es:List Expr}{ta:TE}{t:TA}
end
section
variable {X:Cx}{CX:CXT}{k:Nat}{f C:Addr}{fd:FuncData}{ps ks:List Str}{sp:Sp}{E:XK}{x m:Str}{p pos apos kpos:Pos}{e o:Expr}{es:List Expr}{kws:List Keyword}{te ta:TE}{t tk:TA}{nm:Option Str}
variable {g:List Value->List Value->List Value}{gV:List V->List V->List V}
end
section
variable {X:Cx}{x:Str}{p pos:Pos}{e:Expr}{es:List Expr}{t:TA}{id T:String}{r:List V->Hp->VK->Prop}
end
section
variable {κ:Type} [DecidableEq κ]
def YD(kvs:List (κ × V))(k:κ):Option V:=(kvs.find? λkv=>decide (kv.1=k)).map (·.2)
def Xx(kvs:List (κ × V))(k:κ)(v:V):List (κ × V):=
 if (kvs.any λkv=>decide (kv.1=k))=true then kvs.map (λkv=>if kv.1=k then(kv.1,v) else kv) else kvs++[(k,v)]
def Zg(kvs:List (κ × V))(k:κ):List (κ × V):=kvs.filter λkv=>decide (kv.1≠k)
theorem jt{p:κ × V}{r:List (κ × V)}{k:κ}(e:p.1=k):YD (p::r) k=some p.2:=by simp[YD,yx,e]
theorem ju{p:κ × V}{r:List (κ × V)}{k:κ}(e:¬ p.1=k):YD (p::r) k=YD r k:=by simp[YD,yx,e]
theorem Xi(k:κ):∀kvs:List (κ × V),(kvs.any λkv=>decide (kv.1=k))=(YD kvs k).isSome
 |[]=>rfl
 |p::r=>by
  rw[any_cons]
  by_cases e:p.1=k
  ·simp only[jt e,xC e,Bool.true_or,Option.isSome_some]
  ·rw[ju e,zU e,Bool.false_or];exact Xi k r
theorem Yh(kvs:List (κ × V))(k:κ)(v:V):(Xx kvs k v).length<=kvs.length+1:=by
 unfold Xx
 split
 ·rw[zn];lia
 ·rw[zm,zu,wK];lia
theorem RelO.isSome_eq{o:Option V}{u:Option Value}(r:RelO o u):o.isSome=u.isSome:=by
 cases o with
 |none=>cases u with
  |none=>rfl
  |some _=>exact(show False from r).elim
 |some _=>cases u with
  |none=>exact(show False from r).elim
  |some _=>rfl
theorem KV.val{kvs:List (κ × V)}{vs:List (κ × Value)}(r:KV kvs vs)(k:κ):RelO (YD kvs k) (valueAt vs k):=by
 unfold KV at r
 induction r with
 |nil=>exact True.intro
 | @cons p q ps qs h t ih =>
  obtain⟨h1,h2⟩:=h
  by_cases e:p.1=k
  ·have e' : q.1 = k := h1.symm.trans e
   have b:valueAt (q::qs) k=some q.2:=by simp[valueAt,yx,e']
   rw[jt e,b];exact h2
  ·have e' : ¬ q.1 = k := λz => e (h1.trans z)
   have b:valueAt (q::qs) k=valueAt qs k:=by simp[valueAt,yx,e']
   rw[ju e,b];exact ih
theorem KV.any{kvs:List (κ × V)}{vs:List (κ × Value)}(r:KV kvs vs)(k:κ):(kvs.any λkv=>decide (kv.1=k))=vs.any λkv=>decide (kv.1=k):=by
 unfold KV at r
 induction r with
 |nil=>rfl
 |cons h t ih=>rw[any_cons,any_cons,ih,h.1]
theorem KV.repl{kvs:List (κ × V)}{vs:List (κ × Value)}(r:KV kvs vs)(k:κ){y:V}{u:Value}(ry:RelV y u) :
  KV (kvs.map λkv=>if kv.1=k then(kv.1,y) else kv) (vs.map λkv=>if kv.1=k then(kv.1,u) else kv):=by
 unfold KV at r ⊢
 induction r with
 |nil=>exact .nil
 |@cons p q ps qs h t ih=>
  rw[zy,zy];refine .cons ?_ ih;obtain⟨h1,h2⟩:=h
  by_cases e:p.1=k
  ·rw[if_pos e,if_pos (h1.symm.trans e)];exact⟨h1,ry⟩
  ·rw[if_neg e,if_neg (λz=>e (h1.trans z))];exact⟨h1,h2⟩
theorem KV.put{kvs:List (κ × V)}{vs:List (κ × Value)}(r:KV kvs vs)(k:κ){y:V}{u:Value}(ry:RelV y u):KV (Xx kvs k y) (stored vs k u):=by
 unfold Xx stored;rw[r.any k]
 by_cases e:(vs.any λkv=>decide (kv.1=k))=true
 ·rw[if_pos e,if_pos e];exact r.repl k ry
 ·rw[if_neg e,if_neg e];exact Paired.snoc r ⟨rfl,ry⟩
theorem KV.drop{kvs:List (κ × V)}{vs:List (κ × Value)}(r:KV kvs vs)(k:κ):KV (Zg kvs k) (without vs k):=by
 unfold KV at r ⊢;unfold Zg without
 induction r with
 |nil=>exact .nil
 | @cons p q ps qs h t ih =>
  obtain⟨h1,h2⟩:=h;rw[filter_cons,filter_cons]
  by_cases e:p.1=k
  ·have a : ¬ decide (p.1 ≠ k) = true := by simp [e]
   have b:¬ decide (q.1≠k)=true:=by simp[h1.symm.trans e]
   rw[if_neg a,if_neg b];exact ih
  ·have e' : ¬ q.1 = k := λz => e (h1.trans z)
   have a:decide (p.1≠k)=true:=by simp[e]
   have b:decide (q.1≠k)=true:=by simp[e']
   rw[if_pos a,if_pos b];exact .cons ⟨h1,h2⟩ ih
theorem KV.length{kvs:List (κ × V)}{vs:List (κ × Value)}(r:KV kvs vs):kvs.length=vs.length:=Paired.length r
theorem zr3(kvs:List (κ × V))(k:κ):(Zg kvs k).length<=kvs.length:=List.length_filter_le _ _
end
def Uo{P:Program}{w:World}{k:Key}{u:Value}(r:RelV (kV k) u):(yY P w).is k u=true:=by
 cases k with
 |inl i=>obtain⟨t,e⟩:=(show ∃t,u=Value.int i t from r);subst e;exact Ug P w i t
 |inr x=>obtain⟨t,e⟩:=(show ∃t,u=Value.str x t from r);subst e;exact Uf P w x t
theorem WT{P:Program}{w:World}:∀{ks:List Key}{us:List Value},Vals (ks.map kV) us->ItemsAre (yY P w) ks us
 |[],_,r=>by rw[xT] at r;cases r;exact .nil
 |k::ks,_,r=>by
  rw[zy] at r
  cases r with
  |cons h t=>exact .cons (Uo h) (WT t)
abbrev KT(H:Hp):List (List Key × V)->List (List Key × Addr × Value)->Prop:=Paired λp q=>p.1=q.1/\H q.2.1=some (.tup (p.1.map kV))/\RelV p.2 q.2.2
def KT.val{H:Hp}{kvs:List (List Key × V)}{xs:List (List Key × Addr × Value)}(r:KT H kvs xs)(k:List Key):RelO (YD kvs k) ((atKey xs k).map (·.2)):=by
 induction r with
 |nil=>exact True.intro
 | @cons p q ps qs h t ih =>
  obtain⟨h1,_,h2⟩:=h
  by_cases e:p.1=k
  ·have e' : q.1 = k := h1.symm.trans e
   have b:atKey (q::qs) k=some q.2:=by simp[atKey,yx,e']
   rw[jt e,b];exact h2
  ·have e' : ¬ q.1 = k := λz => e (h1.trans z)
   have b:atKey (q::qs) k=atKey qs k:=by simp[atKey,yx,e']
   rw[ju e,b];exact ih
def KT.repl{H:Hp}{kvs:List (List Key × V)}{xs:List (List Key × Addr × Value)}(r:KT H kvs xs)(k:List Key){y:V}{u:Value}(ry:RelV y u) :
  KT H (kvs.map λkv=>if kv.1=k then(kv.1,y) else kv) (xs.map (putAt k u)):=by
 induction r with
 |nil=>exact .nil
 |@cons p q ps qs h t ih=>
  rw[zy,zy];refine .cons ?_ ih;obtain⟨h1,h2,h3⟩:=h;unfold putAt
  by_cases e:p.1=k
  ·rw[if_pos e,if_pos (h1.symm.trans e)];exact⟨h1,h2,ry⟩
  ·rw[if_neg e,if_neg (λz=>e (h1.trans z))];exact⟨h1,h2,h3⟩
def KT.put{H:Hp}{kvs:List (List Key × V)}{xs:List (List Key × Addr × Value)}(r:KT H kvs xs)(k:List Key){b:Addr}{y:V}{u:Value}(hb:H b=some (.tup (k.map kV)))(ry:RelV y u) :
  KT H (Xx kvs k y) (storedH xs k b u):=by
 have e:(kvs.any λkv=>decide (kv.1=k))=(atKey xs k).isSome:=by
  rw[Xi,(r.val k).isSome_eq,Option.isSome_map]
 unfold Xx storedH;rw[e]
 by_cases q:(atKey xs k).isSome=true
 ·rw[if_pos q,if_pos q];exact r.repl k ry
 ·rw[if_neg q,if_neg q];exact Paired.snoc r ⟨rfl,hb,ry⟩
def KT.keeps{H H':Hp}{kvs:List (List Key × V)}{xs:List (List Key × Addr × Value)}(r:KT H kvs xs)(ht:∀b ys,H b=some (.tup ys)->H' b=some (.tup ys)):KT H' kvs xs:=
 Paired.mapP r λ_ _ z=>⟨z.1,ht _ _ z.2.1,z.2.2⟩
section
variable {P:Program}{w:World}{H:Hp}{h:Heap}{a:Addr}
def zL8{u:HO}(ok:HOk P w H h)(e:Rd H a u):ObjOk P w H h a u:=e.ok ok
def Uu{kvs:List (Key × V)}(ok:HOk P w H h)(e:Rd H a (.dK kvs)):kvs.length<=sizeLine/\(a == sysModules)=false/\∃vs,KV kvs vs/\h.DictOf (yY P w) a vs:=
 show ObjOk P w H h a (.dK kvs) from zL8 ok e
def zG7{kvs:List (Key × V)}(ok:HOk P w H h)(e:H a=some (.dK kvs)):kvs.length<=sizeLine/\(a == sysModules)=false/\∃vs,KV kvs vs/\h.DictOf (yY P w) a vs:=Uu ok (.inl e)
def WR{ks:List Key}(ok:HOk P w H h)(e:H a=some (.tup (ks.map kV))):(tupleKind (yY P w)).is h ks a:=by
 obtain⟨_,its,r,o,h1,h2,n,h3⟩:=(show ObjOk P w H h a (.tup (ks.map kV)) from ok a _ e)
 exact⟨o,its.toArray,n,h1,h2,h3,by simpa using WT r⟩
def JI{kvs:List (List Key × V)}(ok:HOk P w H h)(e:Rd H a (.dT kvs)):kvs.length<=sizeLine/\(a == sysModules)=false /\
  ∃xs,KT H kvs xs/\h.DictOfH (tupleKind (yY P w)) a xs:=by
 obtain⟨z,y,xs,r,o,es,ep,h1,h2,h3,h4,h5⟩:=(show ObjOk P w H h a (.dT kvs) from zL8 ok e);refine⟨z,y,xs,r,o,es,ep,h1,h2,h3,h4,λx hx=>?_,h5⟩
 have all:∀{l:List (List Key × V)}{m:List (List Key × Addr × Value)},KT H l m->∀x∈m,(tupleKind (yY P w)).is h x.1 x.2.1:=by
  intro l m q
  induction q with
  |nil=>intro x hx;exact nomatch hx
  | @cons p q ps qs hq t ih =>
   intro x hx
   rcases zh.mp hx with e |hx
   ·subst e
    exact WR ok (by rw[<- hq.1];exact hq.2.1)
   ·exact ih x hx
 exact all r x hx
def xo2{kvs:List (List Key × V)}(ok:HOk P w H h)(e:H a=some (.dT kvs)):kvs.length<=sizeLine/\(a == sysModules)=false /\
  ∃xs,KT H kvs xs/\h.DictOfH (tupleKind (yY P w)) a xs:=JI ok (.inl e)
end
def DGet(H:Hp)(a:Addr)(y:V)(r:Option V):Prop:=
 (∃kvs k,Rd H a (.dK kvs)/\y=kV k/\r=YD kvs k)\/∃kvs k b,Rd H a (.dT kvs)/\y=.ref b/\H b=some (.tup (k.map kV))/\r=YD kvs k
def DPut(H:Hp)(a:Addr)(y v:V)(H':Hp):Prop:=
 (∃kvs k,H a=some (.dK kvs)/\y=kV k/\kvs.length<sizeLine/\H'=upd H a (.dK (Xx kvs k v))) \/
 ∃kvs k b,H a=some (.dT kvs)/\y=.ref b/\H b=some (.tup (k.map kV))/\kvs.length<sizeLine/\H'=upd H a (.dT (Xx kvs k v))
def DGet.k{H:Hp}{a:Addr}{kvs:List (Key × V)}{k:Key}(e:H a=some (.dK kvs)):DGet H a (kV k) (YD kvs k):=.inl ⟨kvs,k,.inl e,rfl,rfl⟩
def DPut.k{H:Hp}{a:Addr}{kvs:List (Key × V)}{k:Key}{v:V}(e:H a=some (.dK kvs))(hl:kvs.length<sizeLine):DPut H a (kV k) v (upd H a (.dK (Xx kvs k v))):=.inl ⟨kvs,k,e,rfl,hl,rfl⟩
section
variable {X:Cx}{pins:List (Addr × Obj)}{σ:St}{H:Hp}{s:Shared}{a:Addr}{y v:V}{u r:Value}{o:Option V}{A:Around}{E:Value->Shared->Prop}
def Inv.big(I:Inv X pins σ H s):sysModules<s.heap.objs.size:=by
 have h:mainGlobals<s.heap.objs.size:=(I.mod.glob.keeps I.bk).lt
 exact Nat.lt_trans w6 h
def zg0{Q:Value->Shared->Prop}(hu:A.units+1<cLine)(I:Inv X pins σ H s)(g:DGet H a y (some v))(ry:RelV y u)(h:∀w' s',Inv X pins σ H s'->RelV v w'->Q w' s') :
  wpAny (model X.prog X.w) A (getItem (.ref a) u) Q E s:=by
 rcases g with ⟨kvs,k,e,ey,l⟩ |⟨kvs,k,b,e,ey,eb,l⟩
 ·subst ey;obtain⟨z,hd,vs,rel,dd⟩:=Uu I.hok e
  obtain⟨w',hw,rw'⟩:=RelO.some_of (v:=v) (o:=valueAt vs k) (by rw[l];exact rel.val k)
  exact wpAny_getItem_of (Uo ry) dd.mapOf hw (h w' _ (I.tok _) rw')
 ·subst ey;cases(show u=Value.ref b from ry);obtain⟨z,hd,xs,rel,dd⟩:=JI I.hok e
  obtain⟨w',hw,rw'⟩:=RelO.some_of (v:=v) (o:=(atKey xs k).map (·.2)) (by rw[l];exact rel.val k)
  obtain⟨p,hp,hp2⟩:=wv.mp hw;refine wpAny_getItem_heap (tupleKind_room_in1 hu) (WR I.hok eb) dd hp ?_;rw[hp2];exact h w' _ (I.tok _) rw'
def xC5{Q:Value->Shared->Prop}(hu:A.units+1<cLine)(I:Inv X pins σ H s)(g:DGet H a y o)(ry:RelV y u)(h:∀s',Inv X pins σ H s'->Q (.bool o.isSome) s') :
  wpAny (model X.prog X.w) A (compareOp .In u (.ref a)) Q E s:=by
 rcases g with ⟨kvs,k,e,ey,l⟩ |⟨kvs,k,b,e,ey,eb,l⟩
 ·subst ey;obtain⟨z,hd,vs,rel,dd⟩:=Uu I.hok e;refine wpAny_in_of (Uo ry) hd dd.mapOf ?_;rw[<- (rel.val k).isSome_eq,<- l];exact h _ (I.tok _)
 ·subst ey;cases(show u=Value.ref b from ry);obtain⟨z,hd,xs,rel,dd⟩:=JI I.hok e;refine wpAny_in_heap (tupleKind_room_in1 hu) (WR I.hok eb) hd dd ?_;have q:=(rel.val k).isSome_eq;rw[Option.isSome_map] at q;rw[<- q,<- l];exact h _ (I.tok _)
def zG8{Q:Value->Shared->Prop}(hu:A.units+1<cLine)(I:Inv X pins σ H s)(g:DGet H a y o)(ry:RelV y u)(h:∀s',Inv X pins σ H s'->Q (.bool (!o.isSome)) s') :
  wpAny (model X.prog X.w) A (compareOp .NotIn u (.ref a)) Q E s:=by
 rcases g with ⟨kvs,k,e,ey,l⟩ |⟨kvs,k,b,e,ey,eb,l⟩
 ·subst ey;obtain⟨z,hd,vs,rel,dd⟩:=Uu I.hok e;refine wpAny_notIn_of (Uo ry) hd dd.mapOf ?_;rw[<- (rel.val k).isSome_eq,<- l];exact h _ (I.tok _)
 ·subst ey;cases(show u=Value.ref b from ry);obtain⟨z,hd,xs,rel,dd⟩:=JI I.hok e;refine wpAny_notIn_heap (tupleKind_room_in1 hu) (WR I.hok eb) hd dd ?_;have q:=(rel.val k).isSome_eq;rw[Option.isSome_map] at q;rw[<- q,<- l];exact h _ (I.tok _)
def Uw{h':Heap}{t':Nat}{ob:HO}(I:Inv X pins σ H s)(mu:Mut (H a))(hs:Heap.SameBut a s.heap h')(he:∃q,h'.get? a=some q)(new:ObjOk X.prog X.w (upd H a ob) h' a ob) :
  Inv X pins σ (upd H a ob) { s with heap:=h',toks:=t' }:=
 I.write (x:=a) (e:=a) mu (.inl rfl) (λb q hb z=>(hs.2 b hb).trans z) he new
def zv7{P:Program}{w:World}{H':Hp}{h':Heap}{kvs:List (Key × V)}{vs:List (Key × Value)}(z:kvs.length<=sizeLine)(hd:(a == sysModules)=false)(rel:KV kvs vs)(dd:h'.DictOf (yY P w) a vs) :
  ObjOk P w H' h' a (.dK kvs):=⟨z,hd,vs,rel,dd⟩
def zf9{H':Hp}{Q:Unit->Shared->Prop}(hu:A.units+1<cLine)(I:Inv X pins σ H s)(g:DPut H a y v H')(ry:RelV y u)(rv:RelV v r)(h:∀s',Inv X pins σ H' s'->Q () s') :
  wpAny (model X.prog X.w) A (setItem (.ref a) u r) Q E s:=by
 rcases g with ⟨kvs,k,e,ey,l,eH⟩ |⟨kvs,k,b,e,ey,eb,l,eH⟩
 ·subst ey eH;obtain⟨z,hd,vs,rel,dd⟩:=zG7 I.hok e
  have hz:vs.length<=sizeLine:=by rw[<- rel.length];exact z
  have hl:(Xx kvs k v).length<=sizeLine:=by have:=Yh kvs k v;lia
  refine wpAny_setItem_pairs (hsz:=hz) (Uo ry) dd λh' dd' hs=>h _ ?_
  have he:∃q,h'.get? a=some q:=let ⟨q,_,_,hq,_⟩:=dd';⟨q,hq⟩
  exact Uw I (by rw[e];exact True.intro) hs he (zv7 hl hd (rel.put k rv) dd')
 ·subst ey eH;cases(show u=Value.ref b from ry);obtain⟨z,hd,xs,rel,dd⟩:=xo2 I.hok e
  have hz:xs.length<=sizeLine:=by rw[<- Paired.length rel];exact z
  have hl:(Xx kvs k v).length<=sizeLine:=by have:=Yh kvs k v;lia
  refine wpAny_setItem_heap (hsz:=hz) (tupleKind_room_in1 hu) (WR I.hok eb) dd λh' dd' hs=>h _ ?_;obtain⟨q,es,ep,hq,h2,h3,h4,_,h5⟩:=dd'
  refine Uw I (by rw[e];exact True.intro) hs ⟨q,hq⟩ ⟨hl,hd,_,(rel.put k eb rv).keeps λc ys ec=>?_,q,es,ep,hq,h2,h3,h4,h5⟩
  rw[wr (xm6 ec e (λz=>nomatch z))]
  exact ec
end
section
variable {X:Cx}{pins:List (Addr × Obj)}{σ:St}{H:Hp}{s:Shared}{a:Addr}{kvs:List (Key × V)}{k:Key}{u:Value}{A:Around}{E:Value->Shared->Prop}
def xo3{v:V}{more:List Value}{Q:Value->Shared->Prop}(I:Inv X pins σ H s)(e:H a=some (.dK kvs))(ry:RelV (kV k) u)(l:YD kvs k=some v)(hm:more=[]\/∃x,more=[x])
  (h:∀w' s',Inv X pins σ (upd H a (.dK (Zg kvs k))) s'->RelV v w'->Q w' s'):wpAny (model X.prog X.w) A (call (.builtin "dict.pop") (.ref a::u::more)) Q E s:=by
 obtain⟨z,hd,vs,rel,dd⟩:=zG7 I.hok e
 obtain⟨w',hw,rw'⟩:=RelO.some_of (v:=v) (o:=valueAt vs k) (by rw[<- l];exact rel.val k)
 have hp:(keyPart u).isSome=true:=by
  cases k with
  |inl i=>obtain⟨t,q⟩:=(show ∃t,u=Value.int i t from ry);subst q;rfl
  |inr x=>obtain⟨t,q⟩:=(show ∃t,u=Value.str x t from ry);subst q;rfl
 have ha:argsOk "dict.pop" ⟨.ref a::u::more,[]⟩:=by
  rcases hm with q |⟨x,q⟩
  ·subst q;exact PySem.F.args_dict_pop_2 _ _
  ·subst q;exact PySem.F.args_dict_pop_3 _ _ _
 refine call_meetsIn PySem.F.slot_dict_pop dd.typeIs PySem.F.entry_dict_pop ha (meets_dict_pop_there (yY X.prog X.w) a (Uo ry) more hm hp)
  ⟨vs,w',dd,by rw[<- rel.length];exact z,hw,λh' dd' hs=>h w' _ ?_ rw'⟩
 have he:∃q,h'.get? a=some q:=let ⟨q,_,_,hq,_⟩:=dd';⟨q,hq⟩
 exact Uw I (by rw[e];exact True.intro) hs he (zv7 (zw (zr3 kvs k) z) hd (rel.drop k) dd')
def xo4{Q:Value->Shared->Prop}(I:Inv X pins σ H s)(e:Rd H a (.dK kvs))(h:∀t s',Inv X pins σ H s'->Q (.int kvs.length t) s'):wpAny (model X.prog X.w) A (call (.builtin "len") [.ref a]) Q E s:=by
 obtain⟨z,hd,vs,rel,dd⟩:=Uu I.hok e
 refine call_len_dict hd dd (by rw[<- rel.length];rw[sizeLine_eq] at z;lia) ?_
 rw[<- rel.length];exact h _ _ (I.tok _)
end
def xa7(i:Expr):Prop:=∀ov iv,subscripted i false ov iv=operate [ov,iv] (getItem ov iv)
def zx2{prog:Program}{w:World}{A:Around}{E:Value->Shared->Prop}{s:Shared}{env:Env}{value slice:Expr}{pos:Pos}{T id:String}{Q:Value->Shared->Prop}
  (hl:typeLookup (.type T) "__getitem__" = pure (some (.builtin id))) (hs:xa7 slice)
  (h:wpAny (model prog w) A (eval value env) (λo s₁=>wpAny (model prog w) A (eval slice env) (λi s₂=>s₂.TypeIs o T/\wpAny (model prog w) A (getItem o i) Q E s₂) E s₁) E s) :
  wpAny (model prog w) A (eval (.Subscript value slice pos) env) Q E s:=by
 refine Subscript_ (ye h (λo s₁ h₁=>ye h₁ (λi s₂ h₂=>?_) λ_ _ x=>x) λ_ _ x=>x);obtain⟨hT,h₂⟩:=h₂;unfold subscriptTail;refine zb ?_;rw[getitemInPython_of_ne hT.not_modules];refine zb (wpAny_specialOf hT hl ?_)
 have fin:wpAny (model prog w) A (subscripted slice false o i) (λr s₃=>wpAny (model prog w) A (letTemporaryGo value o r >>= λ_=>pure r) Q E s₃) E s₂:=by
  rw[hs o i];exact wpAny_operating (ye h₂ (λr s₃ h₃=>zb (wpAny_letTemporaryGo (zf h₃))) λ_ _ x=>x)
 first
  |exact zf (zb fin)
  |exact zb (zf (zb fin))
  |exact zb fin
def Uv{X:Cx}{pins:List (Addr × Obj)}{σ:St}{H:Hp}{s:Shared}{a:Addr}{y:V}{o:Option V}(I:Inv X pins σ H s)(g:DGet H a y o):s.TypeIs (.ref a) "dict" := by
 rcases g with ⟨kvs,k,e,_,_⟩ |⟨kvs,k,b,e,_,_,_⟩
 ·obtain⟨_,_,vs,_,dd⟩:=Uu I.hok e;exact dd.typeIs
 ·obtain⟨_,_,xs,_,dd⟩:=JI I.hok e;exact dd.typeIs
def xb6(td ty:TE):TE:=λσ H Q=>td σ H λx H1=>ty σ H1 λy H2=>∃a v,x=.ref a/\DGet H2 a y (some v)/\Q v H2
def xc6(td ty tv:TE):TS:=λD σ H=>tv σ H λv H1=>td σ H1 λx H2=>ty σ H2 λy H3=>∃a H4,x=.ref a/\DPut H3 a y v H4/\D.nx σ H4
section
variable {X:Cx}{o i e value:Expr}{pos pos' tpos:Pos}{td ty tv:TE}
def QW(hu:X.A.units+1<cLine)(ho:PE X o td)(hi:PE X i ty)(hs:xa7 i):PE X (.Subscript o i pos) (xb6 td ty):=by
 intro pins s σ H Q I h;refine zx2 PySem.F.slot_dict_getitem.lookup hs (thn (ho pins s σ H _ I h) λu s1 ⟨x,H1,I1,rx,q1⟩=>thn (hi pins s1 σ H1 _ I1 q1) λiv s2 ⟨y,H2,I2,ry,a,v,ex,g,q2⟩=>?_);subst ex;obtain rfl:u=Value.ref a:=rx;exact⟨Uv I2 g,zg0 hu I2 g ry λw' s3 I3 rw'=>⟨v,H2,I3,rw',q2⟩⟩
def zA7(hu:X.A.units+1<cLine)(ho:PE X o td)(hi:PE X i ty)(hv:PE X value tv)(hs:swapsWith value (some (.Subscript o i pos')) pos.line X.env=pure false) :
  PS X (.Assign [.Subscript o i pos'] value pos) (xc6 td ty tv):=by
 intro pins s σ H D I h;refine wpAny_Assign_Subscript (thn (hv pins s σ H _ I h) λr s1 ⟨v,H1,I1,rv,q1⟩=>thn (ho pins s1 σ H1 _ I1 q1) λu s2 ⟨x,H2,I2,rx,q2⟩=>thn (hi pins s2 σ H2 _ I2 q2) λiv s3 ⟨y,H3,I3,ry,a,H4,ex,g,q3⟩=>?_) hs;subst ex;obtain rfl:u=Value.ref a:=rx;exact zf9 hu I3 g ry rv λs4 I4=>⟨σ,H4,I4,q3⟩
end
def XT{P:Program}{w:World}{H:Hp}(h:Heap)(hb:sysModules<h.objs.size):ObjOk P w H (h.push { cls:=.type "dict",data:=.dict #[] }) h.objs.size (.dK []):=
 ⟨wZ _,beq_eq_false_iff_ne.mpr (Ne.symm (xa hb)),[],.nil,Heap.DictOf.new h⟩
def zK4:TE:=λ_ H Q=>∀p,H p=none->Q (.ref p) (upd H p (.dK []))
section
variable {X:Cx}{pos:Pos}
def zn1:PE X (.Dict [] [] pos) zK4:=λpins s σ H Q I h=>
 wpAny_Dict_empty ⟨.ref s.heap.objs.size,_,I.laid (a:=s.heap.objs.size) (o:=.dK []) (t':=s.toks) (λ_ _ q=>ze _ q) (zd _) (XT s.heap I.big),rfl,h _ (I.hok.fresh (zd _))⟩
end
structure M1(X:Cx)(o:Expr)(m:Str)(apos:Pos)(e:Expr)(cpos:Pos):Prop where
 base:attributeBase o m X.env (eval o X.env)=eval o X.env
 few:((backTo cpos (starEach [e] X.env)).all (λx=>!x.1)&&(backToKw cpos (keywordEach [] X.env)).all (λx=>x.1.isSome)
  && decide (([e]:List Expr).length+([]:List Keyword).length+(if ([]:List Keyword).isEmpty then 0 else 1)<30))=true
 line:(apos.endLine == cpos.line)=true
 trees:backTo cpos (starEach [e] X.env)=[(false,eval e X.env)]
def IsD(H:Hp)(a:Addr):Prop:=(∃kvs,Rd H a (.dK kvs))\/∃kvs,Rd H a (.dT kvs)
def zS7{X:Cx}{pins:List (Addr × Obj)}{σ:St}{H:Hp}{s:Shared}{a:Addr}(I:Inv X pins σ H s)(d:IsD H a) :
  s.TypeIs (.ref a) "dict" /\ (∀b,Value.ref a=.ref b->∃ob,s.heap.get? b=some ob/\ob.dict=none)/\(a == sysModules)=false:=by
 rcases d with ⟨kvs,e⟩ |⟨kvs,e⟩
 ·obtain⟨_,hd,vs,_,dd⟩:=Uu I.hok e;refine⟨dd.typeIs,λb q=>?_,hd⟩;cases q;obtain⟨ob,_,_,h1,h2,_⟩:=dd;exact⟨ob,h1,h2.2.1⟩
 ·obtain⟨_,hd,xs,_,dd⟩:=JI I.hok e;refine⟨dd.typeIs,λb q=>?_,hd⟩;cases q;obtain⟨ob,_,_,h1,h2,_⟩:=dd;exact⟨ob,h1,h2.2.1⟩
section
variable {X:Cx}{pins:List (Addr × Obj)}{σ:St}{H:Hp}{s:Shared}{a:Addr}{y d:V}{u r:Value}{o:Option V}{A:Around}{E:Value->Shared->Prop}
end
def zK3(td ty:TE):TE:=λσ H Q=>td σ H λx H1=>∃a,x=.ref a/\IsD H1 a/\ty σ H1 λy H2=>∃kvs k v,H2 a=some (.dK kvs)/\y=kV k/\YD kvs k=some v/\Q v (upd H2 a (.dK (Zg kvs k)))
section
variable {X:Cx}{o e f:Expr}{apos cpos:Pos}{td ty tx:TE}
def zn0(ho:PE X o td)(he:PE X e ty)(m:M1 X o "pop" apos e cpos):PE X (.Call (.Attribute o "pop" apos) [e] [] cpos) (zK3 td ty):=by
 intro pins s σ H Q I h;refine wpAny_Call_method m.base m.few m.line PySem.F.plainAttrs_dict PySem.F.slot_dict_pop PySem.F.type_dict_pop (thn (ho pins s σ H _ I h) λu s1 ⟨x,H1,I1,rx,a,ex,d,q1⟩=>?_);subst ex;obtain rfl:u=Value.ref a:=rx;obtain⟨t1,t2,_⟩:=zS7 I1 d;refine⟨t1,t2,?_⟩;rw[m.trees];refine Calls.callWith_builtin rfl (Calls.evalArgs_plain (Calls.spliced_cons (thn (he pins s1 σ H1 _ I1 q1) λiv s2 ⟨y,H2,I2,ry,kvs,k,v,ea,ey,l,q2⟩=>Calls.spliced_nil ?_)));subst ey;exact xo3 I2 ea ry l (.inl rfl) λw' s3 I3 rw'=>⟨v,_,I3,rw',q2⟩
end
section
variable {X:Cx}{pins:List (Addr × Obj)}{σ:St}{H:Hp}{s:Shared}{a:Addr}{kvs:List (Key × V)}{A:Around}{E:Value->Shared->Prop}
end
section
variable {X:Cx}{pins:List (Addr × Obj)}{σ:St}{H:Hp}{s:Shared}{a:Addr}{y:V}{u:Value}{A:Around}{E:Value->Shared->Prop}
end
end L2
namespace Att
open PySem PySem.W PySem.Calls PyProof.Rows
section
variable {prog:Program}{w:World}{A:Around}{E:Value->Shared->Prop}{s:Shared}{K:Frag}
end
end Att
namespace L2
section
variable {P:Program}{w:World}{K:W.Frag}{mg:Str->Option Value}{base:Heap}
end
section
variable {X:Cx}
def zh7:qw X (.builtin "len") (λxs H Q=>∃a kvs,xs=[V.ref a]/\H a=some (.dK kvs)/\Q (.int kvs.length) H):=by
 intro pins s σ H xs us Q I r h;obtain⟨a,kvs,rfl,ha,q⟩:=h;obtain⟨u,rfl,ru⟩:=YC r;cases ru;exact xo4 I (.inl ha) λt s' I'=>⟨.int kvs.length,H,I',⟨t,rfl⟩,q⟩
end
section
variable {κ:Type} [DecidableEq κ]
theorem zf1{p:κ × V}{r:List (κ × V)}{k:κ}(e:p.1=k):Zg (p::r) k=Zg r k:=by
 unfold Zg
 rw[filter_cons,if_neg (by simp[e])]
theorem zf2{p:κ × V}{r:List (κ × V)}{k:κ}(e:¬ p.1=k):Zg (p::r) k=p::Zg r k:=by
 unfold Zg
 rw[filter_cons,if_pos (by simp[e])]
end
section
variable {prog:Program}{w:World}{A:Around}{R:Result->Shared->Prop}{s:Shared}
def JJ{kx vx target iter:Expr}{ifs:List Expr}{scope:Scope}{pos:Pos}{it:Value}{D:Addr}{env:Env}(J:Nat->Shared->Prop)
  (turn : ∀ n s, J n s -> wpAny (model prog w) A (pyNext it) (λr s1 => match r with
   |none=>R (.ok .next) s1
   | some v => wpAny (model prog w) A (letOwnedTupleGo target it v) (λ_ s2 => wpAny (model prog w) A (assign target env v) (λ_ s3 => wpAny (model prog w) A (Yw ifs env) (λok s4 =>
     if ok=true then wpAny (model prog w) A (eval kx env) (λkv s5=>wpAny (model prog w) A (eval vx env) (λvv s6=>wpAny (model prog w) A (dictSet D kv vv) (λ_ s7=>∃m,m<n/\J m s7) (λ_ _=>False) s6) (λ_ _=>False) s5) (λ_ _=>False) s4
     else ∃m,m<n/\J m s4) (λ_ _=>False) s3) (λ_ _=>False) s2) (λ_ _=>False) s1) (λ_ _=>False) s)
  (n:Nat) (h:J n s):codeAny (model prog w) A (.compLoop (.DictComp kx vx [⟨target,iter,ifs,0⟩] scope pos) 0 it (.ref D) env) R s:=by
 refine codeAny_loop rfl J (λn s hJ=>?_) n h
 show wpAny _ A ((compTurn (.DictComp kx vx [⟨target,iter,ifs,0⟩] scope pos) 0 it (.ref D) env).onRaise (λx=>do noteFrame x env;theTreesLotGoes x)) _ _ s
 refine wpAny_noted ?_;rw[compTurn_dict]
 have up:∀{α:Type}{t:Sem α}{Q Q':α->Shared->Prop}{E:Value->Shared->Prop}{s:Shared},wpAny (model prog w) A t Q (λ_ _=>False) s->(∀a s,Q a s->Q' a s)->wpAny (model prog w) A t Q' E s:=
  λh f=>ye h f λ_ _ z=>False.elim z
 refine zb (wk (zb (up (turn n s hJ) λr s1 h1=>?_)))
 cases r with
 |none=>exact zf h1
 |some v=>
  refine zb (up h1 λ_ s2 h2=>?_);refine zb (up h2 λ_ s3 h3=>?_);refine zb (up h3 λok s4 h4=>?_)
  cases ok with
  |false=>exact zf ⟨rfl,h4⟩
  |true=>exact zb (zb (up h4 λkv s5 h5=>zb (wF (up h5 λvv s6 h6=>zb (wk (wF (up h6 λ_ s7 h7=>zf ⟨rfl,h7⟩)))))))
end
section
variable {X:Cx}{scope:Scope}{own M:List Str}{pins:List (Addr × Obj)}{σ:St}{H2:Hp}{s2:Shared}{fp:List Addr}
def zd9{o0:Obj}(ok:CompOk X scope M)(hc:X.calm=true)(I:Inv X pins σ H2 s2)(hf:∀b∈fp,FpOk X pins H2 b/\b<s2.heap.objs.size){C:Addr}(hC:C=s2.heap.objs.size+1){h4:Heap}
  (hh:h4=pushCells ((s2.heap.push o0).push { cls:=.type "dict",data:=.dict #[] }) scope.names) :
  Inv (xZ X scope own M C s2 H2 fp) [] (replicate own.length none++σ) H2 { s2 with heap:=h4 }:=by
 have zC:(s2.heap.push o0).objs.size=C:=by rw[wl,hC]
 have zC1:((s2.heap.push o0).push { cls:=.type "dict",data:=.dict #[] }).objs.size=C+1:=by rw[wl,zC]
 have keep:∀b o,s2.heap.get? b=some o->h4.get? b=some o:=λb o e=>by
  rw[hh];exact pushCells_keeps _ _ _ _ (ze _ (ze _ e))
 have cellOld:∀x c,X.env.cells.lookup x=some c->c<s2.heap.objs.size:=λx c e=>by obtain⟨v,q⟩:=I.cell x c e;exact q.lt
 have cellB:∀x c,(vE X scope C).lookup x=some c->(h4.IsCell c none/\C+1<=c/\scope.names.lookup x=some .cell)\/X.env.cells.lookup x=some c:=λx c e=>by
  by_cases hx:scope.names.lookup x=some .cell
  ·have e' := e;unfold vE at e';rw[<- zC1] at e'
   rcases KS _ _ _ x c e' with ⟨a,b,d⟩ |q
   ·exact .inl ⟨by rw[hh];exact a,by rw[zC1] at b;exact b,hx⟩
   ·exact .inr (vc scope.names [] (ok.cells I) (λ_ _ z=>by simp at z) x c q)
  ·exact .inr (ok.cellsFrom_old I e hx)
 have hNs:∃m,h4.Ns C m:=by
  have q:((s2.heap.push o0).push { cls:=.type "dict",data:=.dict #[] }).Ns C (λ_=>none):=by
   have:=Heap.Ns.new (s2.heap.push o0) (.type "dict");rw[zC] at this;exact this
  exact⟨_,q.keeps λb o e=>by rw[hh];exact pushCells_keeps _ _ _ _ e⟩
 have nfs:∀b∈fp,b ∉ frs X.stack:=λb hb hx=>by
  obtain⟨⟨_,f1,f2,_⟩,_⟩:=hf b hb
  rcases zh.mp (I.stkSub b hx) with e |e
  ·exact f1 e
  ·exact f2 e
 obtain⟨mC,hmC⟩:=hNs
 refine⟨⟨I.ok.mod,ok.kind,I.ok.glob,I.ok.blt,?_,?_,?_,?_,I.ok.hd,I.ok.frames,.inl rfl,?_,I.bs,?_,?_,nfs,I.stack,I.stkFree⟩,rfl,I.bare,Un.kept keep,⟨mC,hmC,?_⟩,?_,I.hok.fresh (by show s2.heap.objs.size<=C;rw[hC];exact xl _),?_,λp hp=>absurd (show p∈([]:List (Addr × Obj)) from hp) (by simp),I.hok.kept keep,?_⟩
 ·show s2.heap.objs.size<=C;rw[hC];exact xl _
 ·intro x y c h1 h2;refine KQ scope.names (C+1) (kD X.env scope.names []) (λa b d p q=>?_) (λa d p=>?_) x y c h1 h2
  ·exact I.ok.inj a b d (vc scope.names [] (ok.cells I) (λ_ _ z=>by simp at z) a d p) (vc scope.names [] (ok.cells I) (λ_ _ z=>by simp at z) b d q)
  ·have := cellOld a d (vc scope.names [] (ok.cells I) (λ_ _ z => by simp at z) a d p)
   rw[hC];exact wg (wg this)
 ·intro x hx
  have go:∀k,(k=NameKind.cell\/k=NameKind.free)->(compEnvC scope (vE X scope C) C X.env).kindOf x=some k->∃c,(vE X scope C).lookup x=some c:=λk hk e=>by
   rcases ok.kindIn e with e |⟨_,e⟩
   ·rcases hk with rfl | rfl
    ·exact KR _ _ _ (PySem.mem_of_lookup e)
    ·exact qm _ _ _ (vM (y:=(x,.free)) rfl _ _ (PySem.mem_of_lookup e))
   ·exact qm _ _ _ (vM (y:=(x,.free)) rfl _ _ (PySem.mem_of_lookup e))
  rcases hx with e |e
  ·exact go _ (.inl rfl) e
  ·exact go _ (.inr rfl) e
 ·intro x c hx h
  have hx':scope.names.lookup x=some .cell:=by simpa [xZ] using hx
  have:=zs0 (x:=x) scope.names (C+1) (kD X.env scope.names []) (C+1) (zd _) (.inl (PySem.mem_of_lookup hx')) c h;show s2.heap.objs.size<=c
  exact zw (by rw[hC];exact zw (xl _) (xl _)) this
 ·intro b hb;obtain⟨⟨_,_,_,_,f4,_⟩,f6⟩:=hf b hb;refine⟨?_,λx c h=>?_⟩
  ·show b≠C;rw[hC];exact xa (wg f6)
  ·rcases cellB x c h with ⟨_, q, _⟩ | q
   ·rw[hC] at q;exact Nat.ne_of_gt (zS f6 (zw (zw (xl _) (xl _)) q))
   ·exact f4 x c q
 ·exact zw I.ok.bsz I.sz
 ·intro b o e hb;obtain⟨⟨_,_,_,f3,_⟩,_⟩:=hf b hb
  rcases f3 with z |z
  ·exact I.ok.noex b o e z
  ·exact absurd (zS (zA (I.ok.bs b o e).1) z) (xD _)
 ·intro i x v h1 h2 h3;have h2':(replicate own.length (none:Option V)++σ)[i]?=some (some v):=h2
  have hi:own.length<=i:=by
   apply wS;intro hlt
   rw[xg (by simpa using hlt),xE] at h2'
   rw[if_pos hlt] at h2';cases h2'
  rw[zT (by simpa using hi),xv] at h2'
  have h1':(own++M)[i]?=some x:=h1;rw[zT hi] at h1';obtain⟨n1,n2⟩:=ok.shadow x (wo h1')
  have hfree:scope.names.lookup x=some .free/\((compEnvC scope (vE X scope C) C X.env).kindOf x=some .cell\/(compEnvC scope (vE X scope C) C X.env).kindOf x=some .free):=by
   rcases h3 with e |e |e
   ·rcases ok.kindIn (x := x) (C := C) e with q | ⟨q, _⟩
    ·exact absurd q n1
    ·cases q
   ·rcases ok.kindIn (x := x) (C := C) e with q | ⟨_, q⟩
    ·exact absurd q n2
    ·exact⟨q,.inl e⟩
   ·rcases ok.kindIn (x := x) (C := C) e with q | ⟨q, _⟩
    ·exact⟨q,.inr e⟩
    ·cases q
  obtain⟨hfr,hk⟩:=hfree;obtain⟨m,hn,hl⟩:=I.loc;have hkX:=ok.frees (x,.free) (PySem.mem_of_lookup hfr) rfl;have h1':=ok.same _ _ h1' hfr;obtain⟨u,ru,lk⟩:=hl (i-own.length) x v h1' h2' (hkX.elim (λz=>.inr (.inl z)) λz=>.inr (.inr z));refine⟨u,ru,.inr ⟨hk,?_⟩⟩
  rcases lk with ⟨k,_⟩ |⟨_,c,ec,ic⟩
  ·rcases hkX with z |z<;>(rw[k] at z;cases z)
  ·obtain ⟨c', e'⟩ : ∃ c', (vE X scope C).lookup x = some c' := qm _ _ _ (vM (y := (x, .free)) rfl _ _ (PySem.mem_of_lookup hfr));refine⟨c',e',?_⟩
   have:=ok.cellsFrom_old I e' (by rw[hfr];simp)
   have e2:some c=some c':=ec.symm.trans this;cases e2;exact ic.keeps keep
 ·intro x c h
  rcases cellB x c h with ⟨q,_⟩ |q
  ·exact⟨_,q⟩
  ·obtain⟨v,z⟩:=I.cell x c q;exact⟨v,z.keeps keep⟩
 ·intro x c h
  rcases cellB x c h with ⟨q,q2,_⟩ |q
  ·exact I.hok.fresh (by rw[hC] at q2;exact zw (zw (xl _) (xl _)) q2)
  ·exact I.freeC x c q
 ·show(List.replicate own.length (none:Option V)++σ).length=(own++M).length;rw[zm,zm,xv,I.len,ok.mlen]
end
section
variable {X:Cx}{scope:Scope}{own M:List Str}{pins:List (Addr × Obj)}{σ:St}{H2:Hp}{s2:Shared}{tg iter kx vx:Expr}{ifs:List Expr}{pos:Pos}{g:TG}{tt:TT}{tk tv:TE}
def JK(ok:CompOk X scope M)(hc:X.calm=true)(hg:∀C s2 H2 fp,PG (xZ X scope own M C s2 H2 fp) tg g)(ht:∀C s2 H2 fp,PTs (xZ X scope own M C s2 H2 fp) ifs tt)(hek:∀C s2 H2 fp,PE (xZ X scope own M C s2 H2 fp) kx tk)(he:∀C s2 H2 fp,PE (xZ X scope own M C s2 H2 fp) vx tv)
  (I2:Inv X pins σ H2 s2) {it:Addr}{fp:List Addr}{tn:Nat->Heap->Prop}{J:It} (T:Turn X.prog X.w X.K tg J fp it tn) (st2:tn 0 s2.heap) (f2:∀b∈fp,FpOk X pins H2 b)
  {W:Nat->Nat->List (Key × V)->Hp->Prop} (w0:∃m,W 0 m [] H2) {Qf:V->Hp->Prop}
  (turn : ∀ i m acc H, W i m acc H -> (J.stop i H /\ acc.length <= sizeLine /\ ∀ D, H D = none -> Qf (.ref D) (upd H D (.dK acc))) \/
   (J.go i H /\ acc.length < sizeLine /\ ∀ x H', J.yld i H x H' -> g x (List.replicate own.length none ++ σ) H' λσ2 H2 => σ2.drop own.length = σ /\ tt σ2 H2 λc H3 =>
    if c=true then tk σ2 H3 λy H4=>tv σ2 H4 λv H5=>∃k m',y=kV k/\m'<m/\W (i+1) m' (Xx acc k v) H5 else ∃m',m'<m/\W (i+1) m' acc H3))
  {RR:Value->Addr->Result->Shared->Prop}{E:Value->Shared->Prop}
  (fin:∀D C H' s' m,Inv X pins σ H' s'->Qf (.ref D) H'->s'.heap.Ns C m->H' C=none->C≠X.env.locals->X.s₀.heap.objs.size<=C->(∀x c,X.env.cells.lookup x=some c->c≠C)->(∀p∈X.pn++pins,p.1≠C)->RR (.ref D) C (.ok .next) s') :
  wpAny (model X.prog X.w) X.A newDict (λacc s3=>wpAny (model X.prog X.w) X.A (newFunctionEnv scope X.env.globals (kD X.env scope.names []) [] X.env.qual none .none (some X.env)) (λcenv s4=>
   codeAny (model X.prog X.w) X.A (.compStart (.DictComp kx vx [⟨tg,iter,ifs,0⟩] scope pos) 0 (.ref it) acc { cenv with scope:=relabel scope X.env }) (RR acc cenv.locals) s4) E s3) E s2:=by
 refine wf (jg ?_);have zC:(s2.heap.push { cls:=.type "dict",dict:=none,data:=.dict #[] }).objs.size=s2.heap.objs.size+1:=wl ..;dsimp only;rw[zC];generalize hC:s2.heap.objs.size+1=C;generalize hh:pushCells ((s2.heap.push { cls:=.type "dict",dict:=none,data:=.dict #[] }).push { cls:=.type "dict",data:=.dict #[] }) scope.names=h4
 have fpl:∀b∈fp,FpOk X pins H2 b/\b<s2.heap.objs.size:=λb hb=>by
  obtain⟨o,e,_⟩:=T.obj 0 _ st2 b hb;exact⟨f2 b hb,zA e⟩
 have I4:Inv (xZ X scope own M C s2 H2 fp) [] (replicate own.length none++σ) H2 { s2 with heap:=h4 }:=zd9 (o0:={ cls:=.type "dict",dict:=none,data:=.dict #[] }) ok hc I2 fpl hC.symm hh.symm;generalize hX:xZ X scope own M C s2 H2 fp=X' at I4
 have keep4:∀b o,s2.heap.get? b=some o->h4.get? b=some o:=λb o e=>by
  rw[<- hh];exact pushCells_keeps _ _ _ _ (ze _ (ze _ e))
 have hD4:h4.get? s2.heap.objs.size=some { cls:=.type "dict",dict:=none,data:=.dict #[] }:=by
  rw[<- hh];exact pushCells_keeps _ _ _ _ (ze _ (zD _ rfl))
 have isD0:(({ cls:=.type "dict",dict:=none,data:=.dict #[] }:Obj)).IsDictOf (yY X.prog X.w) []:=by
  obtain⟨_,_,vs,r,o,es,ep,e,q⟩:=XT (P:=X.prog) (w:=X.w) (H:=H2) s2.heap I2.big;cases r
  rw[zD _ (by rfl)] at e
  cases e;exact⟨es,ep,q⟩
 have dsys:(s2.heap.objs.size == sysModules)=false:=(XT (P:=X.prog) (w:=X.w) (H:=H2) s2.heap I2.big).2.1;have st4:tn 0 h4:=T.keep _ _ _ st2 λb hb o e=>keep4 b o e
 have gg:PG X' tg g:=by rw[<- hX];exact hg C s2 H2 fp
 have gt:PTs X' ifs tt:=by rw[<- hX];exact ht C s2 H2 fp
 have gk:PE X' kx tk:=by rw[<- hX];exact hek C s2 H2 fp
 have ge:PE X' vx tv:=by rw[<- hX];exact he C s2 H2 fp
 have xP:X'.prog=X.prog:=by rw[<- hX];rfl
 have xw:X'.w=X.w:=by rw[<- hX];rfl
 have xK:X'.K=X.K:=by rw[<- hX];rfl
 have xA:X'.A=X.A:=by rw[<- hX];rfl
 have xc:X'.calm=true:=by rw[<- hX];exact hc
 have xpn:X'.pn=[]:=by rw[<- hX];rfl
 have xs:X'.s₀=s2:=by rw[<- hX];rfl
 have xH:X'.H₀=H2:=by rw[<- hX];rfl
 have xL:X'.env.locals=C:=by rw[<- hX];rfl
 have xfs:X'.fs=frs X.stack:=by rw[<- hX];rfl
 have xex:X'.ex=fp:=by rw[<- hX];rfl
 have xe:X'.xe=λ_ _=>False:=by rw[<- hX];rfl
 have xenv:({ newEnv scope C X.env.globals (cellsFrom (C+1) scope.names (kD X.env scope.names [])) X.env.qual none .none (some X.env) builtinsNs with scope:=relabel scope X.env }:Env)=X'.env:=by rw[<- hX];rfl
 have Dlt:s2.heap.objs.size<C:=by rw[<- hC];exact ym _
 have fpb:∀{pl:List (Addr × Obj)}{H:Hp},(∀b∈fp,H b=none)->(∀p∈pl,p.1 ∉ fp)->∀b∈fp,FpOk X' pl H b:=λ{pl H} hn hpl b hb=>by
  refine⟨hn b hb,?_,?_,.inl (by rw[xex];exact hb),λx c e=>(I4.ok.exf b (by rw[xex];exact hb)).2 x c e,λp hp z=>?_⟩
  ·exact(I4.ok.exf b (by rw[xex];exact hb)).1
  ·exact I4.ok.exfs b (by rw[xex];exact hb)
  ·rw [xpn, xt] at hp
   exact hpl p hp (by rw[z];exact hb)
 have Dfp:s2.heap.objs.size ∉ fp:=λz=>xD _ (fpl _ z).2;have DC:s2.heap.objs.size≠C:=xa Dlt
 have Dcell:∀x c,X'.env.cells.lookup x=some c->c≠s2.heap.objs.size:=λx c e z=>by
  obtain⟨v,o,q,hd⟩:=I4.cell x c e;rw[z] at q;have q':h4.get? s2.heap.objs.size=some o:=q;rw[hD4] at q';cases q';cases hd
 have Dfs:s2.heap.objs.size ∉ X'.fs:=λz=>by
  obtain⟨_,o,ho,_⟩:=I4.ok.funs.mem (by exact z)
  rw[xs] at ho;exact xD _ (zA ho)
 rw[xenv]
 have goal:∀s5:Shared,s5={ s2 with heap:=h4 }->codeAny (model X.prog X.w) X.A (.compLoop (.DictComp kx vx [⟨tg,iter,ifs,0⟩] scope pos) 0 (.ref it) (.ref s2.heap.objs.size) X'.env) (RR (.ref s2.heap.objs.size) C) s5:=by
  rintro s5 rfl;obtain⟨m0,w0⟩:=w0
  refine JJ (λn s'=>∃i acc σ' H' ob vs,Inv X' [] σ' H' s'/\σ'.drop own.length=σ/\tn i s'.heap/\(∀b∈fp,H' b=none)/\H' s2.heap.objs.size=none /\
   s'.heap.get? s2.heap.objs.size=some ob/\ob.IsDictOf (yY X.prog X.w) vs/\KV acc vs/\W i n acc H') ?_ m0
   ⟨0,[],_,H2,_,[],I4,by simp,st4,λb hb=>(f2 b hb).1,I2.hok.fresh (zd _),hD4,isD0,.nil,w0⟩
  rintro n s3 ⟨i,acc,σ3,H3,ob,vs,I3,hσ,st3,fr3,hD,hDo,isD,rv,w3⟩
  have noc:∀v,ob.data≠.cell v:=λv z=>by
   obtain⟨es,ep,_,e,_⟩:=isD;rw[e] at z;cases z
  have pinD:∀{H:Hp}{s:Shared}{σ:St},Inv X' [] σ H s->H s2.heap.objs.size=none->s.heap.get? s2.heap.objs.size=some ob ->
    Inv X' [(s2.heap.objs.size,ob)] σ H s:=λ{H s σ} I hn ho=>I.pins_of λp hp=>by
   have e:p=(s2.heap.objs.size,ob):=by simpa using hp
   subst e
   exact⟨ho,hn,by rw[xL];exact DC,Dfs,noc⟩
  have plD:∀p∈[((s2.heap.objs.size,ob):Addr × Obj)],p.1 ∉ fp:=λp hp=>by
   have e:p=(s2.heap.objs.size,ob):=by simpa using hp
   subst e;exact Dfp
  have I3':=pinD I3 hD hDo
  rcases turn i n acc H3 w3 with ⟨stop,hsz,q⟩ |⟨go,hsz,step⟩
  ·have := T.done X' xP xw xK xc i _ s3 σ3 H3 (λ_ _ => False) I3' (fpb fr3 plD) st3 stop;rw[xA] at this;refine thn this λr s4 ⟨hr,I5⟩=>?_;subst hr
   have hDo5:=(I5.pin (s2.heap.objs.size,ob) (by rw[xpn];simp)).1
   have un:Un (frs X.stack) fp H2 H3 s2.heap s4.heap:=by
    have:=I5.base;rw[xfs,xex,xH,xs] at this;exact this
   have os:s4.os=s2.os:=by rw[I5.os,xs]
   have hok:HOk X.prog X.w H3 s4.heap:=by have:=I5.hok;rw[xP,xw] at this;exact this
   have IX:Inv X pins σ H3 s4:=I2.call' os un hok I5.bare λb hb=>by
    obtain⟨_,f1,_,f3,f4,f5⟩:=f2 b hb;exact⟨f3,f1,f4,f5⟩
   have old:∀{b:Addr},s2.heap.objs.size<=b->(X.s₀.heap.objs.size<=b/\b≠X.env.locals/\(∀x c,X.env.cells.lookup x=some c->c≠b)/\∀p∈X.pn++pins,p.1≠b):=λ{b} hb=>by
    obtain⟨_,f1,_,f3,f4,f5⟩:=I2.fpOk (H':=λ_=>none) hb rfl;exact⟨zw I2.sz hb,f1,f4,f5⟩
   obtain⟨d1,d2,d3,d4⟩:=old (zd s2.heap.objs.size);obtain⟨c1,c2,c3,c4⟩:=old (b:=C) (xM Dlt)
   have IY:Inv X pins σ (upd H3 s2.heap.objs.size (.dK acc)) s4:=IX.track hD d1 d2 d3 d4 ⟨hsz,dsys,vs,rv,(let ⟨es,ep,r⟩:=isD;⟨ob,es,ep,hDo5,r⟩)⟩
   obtain⟨m,hm,_⟩:=I5.loc;rw[xL] at hm
   have hCn:H3 C=none:=by have:=I5.free;rw[xL] at this;exact this
   exact fin _ C _ s4 m IY (q _ hD) hm (by rw[wr (Ne.symm DC)];exact hCn) c2 c1 c3 c4
  ·have := T.item X' xP xw xK xc i _ s3 σ3 H3 (λ_ _ => False) I3' (fpb fr3 plD) st3 go;rw[xA] at this;refine thn this λr s4 ⟨u,hr,h4⟩=>?_;subst hr;refine thn h4 λ_ s5 ⟨x,H5,I5,r5,y5,st5,fr5⟩=>?_
   have hσn:∀(j:Nat) v,(replicate own.length none++σ)[j]?=some (some v)->σ3[j]?=some (some v):=λj v e=>by
    by_cases hlt:j<own.length
    ·rw [xg (by simpa using hlt), xE, if_pos hlt] at e
     cases e
    ·have hle := wS hlt
     rw[zT (by simpa using hle),xv,<- hσ,xQ] at e
     rw[show own.length+(j-own.length)=j by lia] at e
     exact e
   have hlen:(replicate own.length none++σ).length=σ3.length:=by
    have e1:σ3.length=X'.N.length:=I5.len;have e2:=I4.len;exact e2.trans e1.symm
   have I5w:Inv X' _ (replicate own.length none++σ) H5 s5:=I5.weak hlen hσn;have I5p:=I5w.pinned (fpb fr5 plD) (T.obj _ _ st5);have a1:=gg _ s5 _ H5 x u _ I5p r5 (step x H5 y5);rw[xP,xw,xA,xe] at a1;refine thn a1 λ_ s6 ⟨σ6,H6,I6,d6,q6⟩=>?_;have a2:=gt _ s6 σ6 H6 _ I6 q6;rw[xP,xw,xA,xe] at a2;refine thn a2 λb s7 ⟨H7,I7,q7⟩=>?_
   have pin7:∀{H:Hp}{s:Shared},Inv X' ([((s2.heap.objs.size,ob):Addr × Obj)]++qu fp s5.heap) σ6 H s ->
     (tn (i+1) s.heap/\(∀b∈fp,H b=none)/\H s2.heap.objs.size=none/\s.heap.get? s2.heap.objs.size=some ob/\Inv X' [] σ6 H s):=λ{H s} I=>by
    refine⟨T.keep _ _ _ st5 λb hb o e=>(I.pin (b,o) (zr _ (zr _ (yW hb e)))).1,λb hb=>?_,?_,?_,I.pins_of λp hp=>by simp at hp⟩
    ·obtain⟨o,e,d⟩:=T.obj _ _ st5 b hb;exact(I.pin (b,o) (zr _ (zr _ (yW hb e)))).2.1
    ·exact(I.pin (s2.heap.objs.size,ob) (by rw[xpn];simp)).2.1
    ·exact(I.pin (s2.heap.objs.size,ob) (by rw[xpn];simp)).1
   cases b with
   |false=>
    obtain⟨p1,p2,p3,p4,p5⟩:=pin7 I7;obtain⟨m',hm,w7⟩:=q7;exact⟨m',hm,i+1,acc,σ6,H7,ob,vs,p5,d6,p1,p2,p3,p4,isD,rv,w7⟩
   |true=>
    rw[if_pos rfl] at q7 ⊢;have a3:=gk _ s7 σ6 H7 _ I7 q7;rw[xP,xw,xA,xe] at a3;refine thn a3 λy s8 ⟨v,H8,I8,r8,q8⟩=>?_;have a4:=ge _ s8 σ6 H8 _ I8 q8;rw[xP,xw,xA,xe] at a4;refine thn a4 λy2 s9 ⟨v2,H9,I9,r9,q9⟩=>?_;obtain⟨p1,p2,p3,p4,p5⟩:=pin7 I9;obtain⟨kk,m',ek,hm,w8⟩:=q9;subst ek;have hl:=rv.length
    refine wpAny_dictSet_pairs (hsz:=by lia) (Uo r8) (let ⟨es,ep,r⟩:=isD;⟨ob,es,ep,p4,r⟩) λh' dd' hs=>?_
    obtain⟨ob',es',ep',ho',isD'⟩:=dd'
    have I10:Inv X' [] σ6 H9 { s9 with heap:=h',toks:=s9.toks+1 }:=p5.turned (t':=s9.toks+1) (λb o hb e=>hs.extBut b o hb e) p3 (by rw[xL];exact DC) (.inr (by rw[xs];exact zd _)) Dcell (λp hp=>by rw[xpn] at hp;simp at hp)
    exact⟨m',hm,i+1,Xx acc kk v2,σ6,H9,ob',_,I10,d6,T.keep _ _ _ p1 λb hb o e=>hs.extBut b o (λz=>Dfp (by rw[<- z];exact hb)) e,p2,p3,ho',⟨es',ep',isD'⟩,rv.put kk r9,w8⟩
 exact codeAny_compStart_dict (goal _ rfl) (T.self _ 0 _ _ _ st4 (goal _ rfl))
def JH(kx vx:Expr)(gens:List Comprehension)(scope:Scope)(pos:Pos)(env:Env):eval (.DictComp kx vx gens scope pos) env=comprehension (.DictComp kx vx gens scope pos) scope env (firstIterPos gens pos) newDict (firstAsync gens) (firstIter gens env):=by
 first |rfl |(unfold eval;rfl) |(rw[eval];rfl) |rw[eval]
def zs5(wi:TI)(own:Nat)(g:TG)(tt:TT)(tk tv:TE):TE:=λσ H Q=>wi σ H λJ H1=>∃W:Nat->Nat->List (Key × V)->Hp->Prop,(∃m,W 0 m [] H1)/\∀i m acc H,W i m acc H ->
 (J.stop i H/\acc.length<=sizeLine/\∀D,H D=none->Q (.ref D) (upd H D (.dK acc))) \/
 (J.go i H /\ acc.length < sizeLine /\ ∀ x H', J.yld i H x H' -> g x (List.replicate own none ++ σ) H' λσ2 H2 => σ2.drop own = σ /\ tt σ2 H2 λc H3 =>
  if c=true then tk σ2 H3 λy H4=>tv σ2 H4 λv H5=>∃k m',y=kV k/\m'<m/\W (i+1) m' (Xx acc k v) H5 else ∃m',m'<m/\W (i+1) m' acc H3)
def zn2{wi:TI}(ok:CompOk X scope M)(hc:X.calm=true)(hi:PI X tg iter wi)(hg:∀C s2 H2 fp,PG (xZ X scope own M C s2 H2 fp) tg g)(ht:∀C s2 H2 fp,PTs (xZ X scope own M C s2 H2 fp) ifs tt)
  (hek:∀C s2 H2 fp,PE (xZ X scope own M C s2 H2 fp) kx tk) (he:∀C s2 H2 fp,PE (xZ X scope own M C s2 H2 fp) vx tv) (hs:∀x,foldedSetIterable iter X.env x=pure x:=by intro _;rfl) :
  PE X (.DictComp kx vx [⟨tg,iter,ifs,0⟩] scope pos) (zs5 wi own.length g tt tk tv):=by
 intro pins s σ H Q I h;rw[JH]
 refine yf (use:=none) rfl hs (ZC (ok.cells I)) ok.kind (λx hx hl=>by rw[ok.uniq x hx,hl]) ?_
 refine thn (hi pins s σ H _ I h) λv s1 h1=>thn h1 λitv s2 h2=>?_;obtain⟨it,fp,tn,J,H2,e,I2,T,st2,f2,W,w0,turn⟩:=h2;subst e;refine JK (Qf:=Q) ok hc hg ht hek he I2 T st2 f2 w0 turn λD C H' s' m IY q hm hCn c2 c1 c3 c4=>⟨m,hm,λh' hs'=>?_⟩;exact⟨.ref D,H',IY.turned (t':=s'.toks) (λb o hb e=>hs'.extBut b o hb e) hCn c2 (.inr c1) c3 c4,rfl,q⟩
end
inductive D where
 |non |bl (b:Bool) |int (i:Int) |str (x:Str) |ty (n:String) |tup (ds:List D) |lst (ds:List D)
 /-- a list that is known and stays -/
 |fz (ds:List D)
 /-- the list that the drawing keeps -/
 |st
 /-- a list of the frame's own (in a slot alone) -/
 |own (ds:List D)
 /-- a dict, whatever it holds -/
 |dic
 /-- a dict, known, that stays -/
 |dct (ks:List Key) (ds:List D)
 /-- a cell: a thing that changes and is shared -/
 |rf (a:Addr)
def Yk(ks:List Key)(xs:List V):List (Key × V):=List.zipWith (λk x=>(k,x)) ks xs
abbrev zG2:Hp:=λ_=>none
def SqZ(K:W.Frag)(Z:Addr->Prop)(H:Hp)(b:Bool)(a:Addr)(xs:List V):Prop:=
 match b with
 |true=>¬ Z a/\H a=some (.lst xs)
 |false=>(¬ Z a/\Rd H a (.tup xs))\/SqT K zG2 a xs
def SqF(K:W.Frag)(Z:Addr->Prop)(H:Hp)(a:Addr)(xs:List V):Prop:=(¬ Z a/\∃o,H a=some (.frz o (.lst xs)))\/SqL K zG2 a xs
mutual
def Rep(K:W.Frag)(G:Option Addr)(Z:Addr->Prop)(H:Hp):D->V->Prop
 |.non,v=>v=.non
 |.bl b,v=>v=.bl b
 |.int i,v=>v=.int i
 |.str x,v=>v=.str x
 |.ty n,v=>v=.ty n
 |.tup ds,v=>∃a xs,v=.ref a/\SqZ K Z H false a xs/\Reps K G Z H ds xs
 |.lst ds,v=>∃a xs,v=.ref a/\SqZ K Z H true a xs/\Reps K G Z H ds xs
 |.fz ds,v=>∃a xs,v=.ref a/\SqF K Z H a xs/\Reps K G Z H ds xs
 |.st,v=>∃a,G=some a/\v=.ref a
 |.own _,_=>False
 |.dic,v=>∃a kvs,v=.ref a/\¬ Z a/\H a=some (.dK kvs)
 |.dct ks ds,v=>∃a xs,v=.ref a/\(¬ Z a/\H a=some (.dK (Yk ks xs)))/\Reps K G Z H ds xs
 |.rf a,v=>v=.ref a
def Reps(K:W.Frag)(G:Option Addr)(Z:Addr->Prop)(H:Hp):List D->List V->Prop
 |[],vs=>vs=[]
 |d::ds,vs=>∃v r,vs=v::r/\Rep K G Z H d v/\Reps K G Z H ds r
end
section
variable {K:W.Frag}{G:Option Addr}{Z Z':Addr->Prop}{H H':Hp}
def SqT.anyH{a:Addr}{xs:List V}(h:SqT K zG2 a xs):SqT K H a xs:=by
 rcases h with (h |⟨o,h⟩) |h
 ·cases h
 ·cases h
 ·exact .inr h
def SqZ.sq{b:Bool}{a:Addr}{xs:List V}(h:SqZ K Z H b a xs):SqB K b H a xs:=by
 cases b with
 |true=>exact SqL.of h.2
 |false=>
  rcases h with ⟨_,h⟩ |h
  ·exact .inl h
  ·exact SqT.anyH h
def SqZ.mono{b:Bool}{a:Addr}{xs:List V}(h:SqZ K Z H b a xs)(hz:∀a,H a≠none->Z' a->Z a)(hf:∀a o,¬ Z a->H a=some o->H' a=some o):SqZ K Z' H' b a xs:=by
 cases b with
 |true=>exact⟨λz=>h.1 (hz a (by rw[h.2];simp) z),hf a _ h.1 h.2⟩
 | false =>
  rcases h with ⟨n,h⟩ |h
  ·refine .inl ⟨λz => n (hz a ?_ z), ?_⟩
   ·rcases h with h |⟨o,h⟩<;>(rw[h];simp)
   ·rcases h with h | ⟨o, h⟩
    ·exact .inl (hf a _ n h)
    ·exact .inr ⟨o,hf a _ n h⟩
  ·exact .inr h
mutual
theorem Rep.mono(hz:∀a,H a≠none->Z' a->Z a)(hf:∀a o,¬ Z a->H a=some o->H' a=some o):∀(d:D) (v:V),Rep K G Z H d v->Rep K G Z' H' d v
 |.non,v,h=>by unfold Rep at h ⊢;exact h
 |.bl b,v,h=>by unfold Rep at h ⊢;exact h
 |.int b,v,h=>by unfold Rep at h ⊢;exact h
 |.str b,v,h=>by unfold Rep at h ⊢;exact h
 |.ty b,v,h=>by unfold Rep at h ⊢;exact h
 |.st,v,h=>by unfold Rep at h ⊢;exact h
 |.own _,v,h=>by unfold Rep at h;exact h.elim
 |.dic,v,h=>by
  unfold Rep at h ⊢;obtain⟨a,kvs,e,n,q⟩:=h
  exact⟨a,kvs,e,λz=>n (hz a (by rw[q];simp) z),hf a _ n q⟩
 |.dct ks ds,v,h=>by
  unfold Rep at h ⊢;obtain⟨a,xs,e,⟨n,q⟩,r⟩:=h
  exact⟨a,xs,e,⟨λz=>n (hz a (by rw[q];simp) z),hf a _ n q⟩,Reps.mono hz hf ds xs r⟩
 |.rf b,v,h=>by unfold Rep at h ⊢;exact h
 |.tup ds,v,h=>by
  unfold Rep at h ⊢;obtain⟨a,xs,e,q,r⟩:=h;exact⟨a,xs,e,q.mono hz hf,Reps.mono hz hf ds xs r⟩
 |.lst ds,v,h=>by
  unfold Rep at h ⊢;obtain⟨a,xs,e,q,r⟩:=h;exact⟨a,xs,e,q.mono hz hf,Reps.mono hz hf ds xs r⟩
 |.fz ds,v,h=>by
  unfold Rep at h ⊢;obtain⟨a,xs,e,q,r⟩:=h;refine⟨a,xs,e,?_,Reps.mono hz hf ds xs r⟩
  rcases q with ⟨n,o,q⟩ |q
  ·exact .inl ⟨λz=>n (hz a (by rw[q];simp) z),o,hf a _ n q⟩
  ·exact .inr q
theorem Reps.mono(hz:∀a,H a≠none->Z' a->Z a)(hf:∀a o,¬ Z a->H a=some o->H' a=some o):∀(ds:List D) (vs:List V),Reps K G Z H ds vs->Reps K G Z' H' ds vs
 |[],vs,h=>by unfold Reps at h ⊢;exact h
 |d::ds,vs,h=>by
  unfold Reps at h ⊢;obtain⟨v,r,e,q,t⟩:=h;exact⟨v,r,e,Rep.mono hz hf d v q,Reps.mono hz hf ds r t⟩
end
def Reps.nil:Reps K G Z H [] []:=by unfold Reps;rfl
def Reps.cons{d:D}{ds:List D}{v:V}{vs:List V}(h:Rep K G Z H d v)(t:Reps K G Z H ds vs):Reps K G Z H (d::ds) (v::vs):=by unfold Reps;exact⟨v,vs,rfl,h,t⟩
def Reps.inv{d:D}{ds:List D}{v:V}{vs:List V}(h:Reps K G Z H (d::ds) (v::vs)):Rep K G Z H d v/\Reps K G Z H ds vs:=by
 unfold Reps at h;obtain⟨v',r,e,q,t⟩:=h;cases e;exact⟨q,t⟩
def Reps.split{d:D}{ds:List D}{vs:List V}(h:Reps K G Z H (d::ds) vs):∃v r,vs=v::r/\Rep K G Z H d v/\Reps K G Z H ds r:=by unfold Reps at h;exact h
def Reps.nil_inv{vs:List V}(h:Reps K G Z H [] vs):vs=[]:=by unfold Reps at h;exact h
theorem Reps.length:∀{ds:List D}{vs:List V},Reps K G Z H ds vs->vs.length=ds.length
 |[],vs,h=>by rw[h.nil_inv];rfl
 |d::ds,vs,h=>by
  obtain⟨v,r,rfl,_,t⟩:=h.split;rw[zu,zu,Reps.length t]
theorem Reps.get:∀{ds:List D}{vs:List V}{i:Nat}{d:D},Reps K G Z H ds vs->ds[i]?=some d->∃v,vs[i]?=some v/\Rep K G Z H d v
 |[],vs,i,d,_,e=>by simp at e
 |c::ds,vs,0,d,h,e=>by
  obtain⟨v,r,rfl,q,t⟩:=h.split;simp at e;subst e;exact⟨v,rfl,q⟩
 |c::ds,vs,i+1,d,h,e=>by
  obtain⟨v,r,rfl,q,t⟩:=h.split
  obtain⟨u,e1,e2⟩:=Reps.get (i:=i) t (by simpa using e)
  exact⟨u,by simpa using e1,e2⟩
theorem Reps.append:∀{ds es:List D}{vs ws:List V},Reps K G Z H ds vs->Reps K G Z H es ws->Reps K G Z H (ds++es) (vs++ws)
 |[],es,vs,ws,h,h'=>by rw[h.nil_inv];exact h'
 |d::ds,es,vs,ws,h,h'=>by
  obtain⟨v,r,rfl,q,t⟩:=h.split;exact .cons q (Reps.append t h')
theorem Reps.drop:∀{ds:List D}{vs:List V} (n:Nat),Reps K G Z H ds vs->Reps K G Z H (ds.drop n) (vs.drop n)
 |ds,vs,0,h=>h
 |[],vs,n+1,h=>by rw[h.nil_inv];exact .nil
 |d::ds,vs,n+1,h=>by
  obtain⟨v,r,rfl,q,t⟩:=h.split;exact Reps.drop n t
theorem Reps.take:∀{ds:List D}{vs:List V} (n:Nat),Reps K G Z H ds vs->Reps K G Z H (ds.take n) (vs.take n)
 |ds,vs,0,h=>.nil
 |[],vs,n+1,h=>by rw[h.nil_inv];exact .nil
 |d::ds,vs,n+1,h=>by
  obtain⟨v,r,rfl,q,t⟩:=h.split;exact .cons q (Reps.take n t)
theorem Reps.flatRep{ds:List D}{vs:List V}(h:Reps K G Z H ds vs):∀k:Nat,Reps K G Z H (replicate k ds).flatten (replicate k vs).flatten
 |0=>.nil
 |k+1=>by
  rw[wd,wd,yi,yi];exact h.append (Reps.flatRep h k)
end
def kJ:D->Bool
 |.non=>true |.bl _=>true |.int _=>true |.str _=>true |.ty _=>true |_=>false
def ofS:D->V
 |.bl b=>.bl b |.int i=>.int i |.str x=>.str x |.ty n=>.ty n |_=>.non
theorem Rep.ofS{K:W.Frag}{G:Option Addr}{Z:Addr->Prop}{H:Hp}:∀{d:D},kJ d=true->Rep K G Z H d (ofS d)
 |.non,_=>by unfold Rep;rfl
 |.bl b,_=>by unfold Rep;rfl
 |.int b,_=>by unfold Rep;rfl
 |.str b,_=>by unfold Rep;rfl
 |.ty b,_=>by unfold Rep;rfl
 |.tup ds,h=>by simp[kJ] at h
 |.lst ds,h=>by simp[kJ] at h
 |.st,h=>by simp[kJ] at h
 |.fz ds,h=>by simp[kJ] at h
 |.own ds,h=>by simp[kJ] at h
theorem Rep.toS{K:W.Frag}{G:Option Addr}{Z:Addr->Prop}{H:Hp}{v:V}:∀{d:D},kJ d=true->Rep K G Z H d v->v=L2.ofS d
 |.non,_,h=>by unfold Rep at h;exact h
 |.bl b,_,h=>by unfold Rep at h;exact h
 |.int b,_,h=>by unfold Rep at h;exact h
 |.str b,_,h=>by unfold Rep at h;exact h
 |.ty b,_,h=>by unfold Rep at h;exact h
 |.tup ds,h,_=>by simp[kJ] at h
 |.lst ds,h,_=>by simp[kJ] at h
 |.st,h,_=>by simp[kJ] at h
 |.fz ds,h,_=>by simp[kJ] at h
 |.own ds,h,_=>by simp[kJ] at h
def Rep.int_inv{K:W.Frag}{G:Option Addr}{Z:Addr->Prop}{H:Hp}{v:V}{i:Int}(h:Rep K G Z H (.int i) v):v=.int i:=by unfold Rep at h;exact h
def Rep.bl_inv{K:W.Frag}{G:Option Addr}{Z:Addr->Prop}{H:Hp}{v:V}{i:Bool}(h:Rep K G Z H (.bl i) v):v=.bl i:=by unfold Rep at h;exact h
def Rep.tup_inv{K:W.Frag}{G:Option Addr}{Z:Addr->Prop}{H:Hp}{v:V}{ds:List D}(h:Rep K G Z H (.tup ds) v):∃a xs,v=.ref a/\SqZ K Z H false a xs/\Reps K G Z H ds xs:=by unfold Rep at h;exact h
def Rep.lst_inv{K:W.Frag}{G:Option Addr}{Z:Addr->Prop}{H:Hp}{v:V}{ds:List D}(h:Rep K G Z H (.lst ds) v):∃a xs,v=.ref a/\SqZ K Z H true a xs/\Reps K G Z H ds xs:=by unfold Rep at h;exact h
def Rep.fz_inv{K:W.Frag}{G:Option Addr}{Z:Addr->Prop}{H:Hp}{v:V}{ds:List D}(h:Rep K G Z H (.fz ds) v):∃a xs,v=.ref a/\SqL K H a xs/\Reps K G Z H ds xs:=by
 unfold Rep at h;obtain⟨a,xs,e,q,r⟩:=h;refine⟨a,xs,e,?_,r⟩
 rcases q with ⟨_,o,q⟩ |q
 ·exact .inl (.inr ⟨o,q⟩)
 ·rcases q with (q | ⟨o, q⟩) | q
  ·cases q
  ·cases q
  ·exact .inr q
def Rep.tup_mk{K:W.Frag}{G:Option Addr}{Z:Addr->Prop}{H:Hp}{a:Addr}{xs:List V}{ds:List D}(q:SqZ K Z H false a xs)(r:Reps K G Z H ds xs):Rep K G Z H (.tup ds) (.ref a):=by unfold Rep;exact⟨a,xs,rfl,q,r⟩
def Rep.lst_mk{K:W.Frag}{G:Option Addr}{Z:Addr->Prop}{H:Hp}{a:Addr}{xs:List V}{ds:List D}(q:SqZ K Z H true a xs)(r:Reps K G Z H ds xs):Rep K G Z H (.lst ds) (.ref a):=by unfold Rep;exact⟨a,xs,rfl,q,r⟩
def ZB:List Nat->Nat
 |[]=>0
 |x::xs=>2^x*(2*ZB xs+1)
theorem Qb:∀{a b x y:Nat},2^a*(2*x+1)=2^b*(2*y+1)->a=b/\x=y
 |0,0,x,y,h=>by simp at h;exact⟨rfl,w5⟩
 |0,b+1,x,y,h=>by
  rw[xy,Nat.mul_comm (2^b) 2,wR] at h;generalize 2^b*(2*y+1)=c at h;lia
 |a+1,0,x,y,h=>by
  rw[xy,Nat.mul_comm (2^a) 2,wR] at h;generalize 2^a*(2*x+1)=c at h;lia
 |a+1,b+1,x,y,h=>by
  rw[xy,Nat.mul_comm (2^a) 2,wR,xy,Nat.mul_comm (2^b) 2,wR] at h
  obtain⟨e1,e2⟩:=Qb (a:=a) (b:=b) (x:=x) (y:=y) w5
  exact⟨w5,e2⟩
def KK{x:Nat}{xs:List Nat}:ZB (x::xs)≠0:=Nat.mul_ne_zero (Nat.ne_of_gt (Nat.pow_pos w5)) w5
theorem vf:∀{a b:List Nat},ZB a=ZB b->a=b
 |[],[],_=>rfl
 |[],y::ys,h=>absurd h.symm KK
 |x::xs,[],h=>absurd h KK
 |x::xs,y::ys,h=>by
  obtain⟨e1,e2⟩:=Qb (show 2^x*(2*ZB xs+1)=2^y*(2*ZB ys+1) from h);rw[e1,vf e2]
def zT8(i:Int):Nat:=if i<0 then 2*i.natAbs+1 else 2*i.natAbs
def KL{i j:Int}(h:zT8 i=zT8 j):i=j:=by unfold zT8 at h;split at h<;>split at h<;>lia
theorem XJ{α β:Type}{f:α->β}(hf:∀{x y},f x=f y->x=y):∀{a b:List α},a.map f=b.map f->a=b
 |[],[],_=>rfl
 |[],y::ys,h=>by simp at h
 |x::xs,[],h=>by simp at h
 |x::xs,y::ys,h=>by
  rw[zy,zy] at h;obtain⟨h1,h2⟩:=List.cons.inj h;rw[hf h1,XJ hf h2]
mutual
def plD:D->Bool
 |.non=>true
 |.bl _=>true
 |.int _=>true
 |.rf _=>true
 |.tup ds=>jH ds
 |.lst ds=>jH ds
 |_=>false
def jH:List D->Bool
 |[]=>true
 |d::ds=>plD d&&jH ds
end
mutual
def zq9:D->List Nat
 |.bl b=>[1,if b then 1 else 0]
 |.int i=>[2,zT8 i]
 |.rf a=>[3,a]
 |.tup ds=>[4,ZB (YQ ds)]
 |.lst ds=>[5,ZB (YQ ds)]
 |_=>[0]
def YQ:List D->List Nat
 |[]=>[]
 |d::ds=>ZB (zq9 d)::YQ ds
end
mutual
theorem zq8:∀(d e:D),plD d=true->plD e=true->zq9 d=zq9 e->d=e
 |.non,e,_,h,q=>by cases e<;>simp[plD,zq9] at h q ⊢
 |.bl b,e,_,h,q=>by
  cases e<;>simp[plD,zq9] at h q ⊢
  rename_i c
  cases b<;>cases c<;>simp at q ⊢
 |.int i,e,_,h,q=>by
  cases e<;>simp[plD,zq9] at h q ⊢
  exact KL q
 |.rf a,e,_,h,q=>by
  cases e<;>simp[plD,zq9] at h q ⊢
  exact q
 |.tup ds,e,h',h,q=>by
  cases e<;>simp[plD,zq9] at h' h q ⊢
  exact qI _ _ h' h (vf q)
 |.lst ds,e,h',h,q=>by
  cases e<;>simp[plD,zq9] at h' h q ⊢
  exact qI _ _ h' h (vf q)
 |.str _,_,h,_,_=>by simp[plD] at h
 |.ty _,_,h,_,_=>by simp[plD] at h
 |.fz _,_,h,_,_=>by simp[plD] at h
 |.st,_,h,_,_=>by simp[plD] at h
 |.own _,_,h,_,_=>by simp[plD] at h
 |.dic,_,h,_,_=>by simp[plD] at h
 |.dct _ _,_,h,_,_=>by simp[plD] at h
theorem qI:∀(ds es:List D),jH ds=true->jH es=true->YQ ds=YQ es->ds=es
 |[],[],_,_,_=>rfl
 |[],e::es,_,_,q=>by simp[YQ] at q
 |d::ds,[],_,_,q=>by simp[YQ] at q
 |d::ds,e::es,h',h,q=>by
  simp[YQ,jH] at h' h q;rw[zq8 d e h'.1 h.1 (vf q.1),qI ds es h'.2 h.2 q.2]
end
inductive Cell where
 /-- a dict with whole numbers as keys -/
 |dic (kv:List (Int × D))
 /-- an instance of the class at C: its attributes -/
 |ins (C:Addr) (fs:List (Str × D))
def plC:Cell->Bool
 |.dic kv=>jH (kv.map (·.2))
 |.ins _ fs=>jH (fs.map (·.2))
def zr1:Cell->List Nat
 |.dic kv=>[0,ZB ((kv.map (·.1)).map zT8),ZB (YQ (kv.map (·.2)))]
 |.ins C fs=>[1,C,ZB ((fs.map (·.1)).map λs=>ZB s.cps.toList),ZB (YQ (fs.map (·.2)))]
def zq7{x y:Str}(h:ZB x.cps.toList=ZB y.cps.toList):x=y:=by
 obtain⟨x⟩:=x;obtain⟨y⟩:=y;have:=vf h;simp only[Str.mk.injEq];exact Array.toList_inj.mp this
theorem XD{α β:Type}:∀{l r:List (α × β)},l.map (·.1)=r.map (·.1)->l.map (·.2)=r.map (·.2)->l=r
 |[],[],_,_=>rfl
 |[],_::_,h,_=>by simp at h
 |_::_,[],h,_=>by simp at h
 |p::l,q::r,h,g=>by
  simp only[zy,List.cons.injEq] at h g;rw[XD h.2 g.2,Prod.ext h.1 g.1]
theorem zr0:∀{c e:Cell},plC c=true->plC e=true->zr1 c=zr1 e->c=e
 |.dic kv,.dic kv',h,h',q=>by
  simp only[zr1,List.cons.injEq,true_and,and_true] at q;rw[XD (XJ (λh=>KL h) (vf q.1)) (qI _ _ h h' (vf q.2))]
 |.dic _,.ins _ _,_,_,q=>by simp[zr1] at q
 |.ins _ _,.dic _,_,_,q=>by simp[zr1] at q
 |.ins C fs,.ins C' fs',h,h',q=>by
  simp only[zr1,List.cons.injEq,true_and,and_true] at q;rw[q.1,XD (XJ (λh=>zq7 h) (vf q.2.1)) (qI _ _ h h' (vf q.2.2))]
abbrev Wd:=Nat × List (Addr × Cell)
def plW(w:Wd):Prop:=∀p∈w.2,plC p.2=true
@[irreducible] def zj1(w:Wd):Nat:=64+ZB [w.1,ZB (w.2.map λp=>ZB [p.1,ZB (zr1 p.2)])]
def zG6(w:Wd):64<=zj1 w:=by unfold zj1;lia
def zq6:∀{v w:Wd},plW v->plW w->zj1 v=zj1 w->v=w:=λ{v w} hv hw h=>by
 unfold zj1 at h;obtain⟨k,l⟩:=v;obtain⟨k',l'⟩:=w;have h1:=vf (Nat.add_left_cancel h);simp only[List.cons.injEq,and_true] at h1
 have key:∀{l l':List (Addr × Cell)},(∀p∈l,plC p.2=true)->(∀p∈l',plC p.2=true)->(l.map λp=>ZB [p.1,ZB (zr1 p.2)])=l'.map (λp=>ZB [p.1,ZB (zr1 p.2)])->l=l':=by
  intro l
  induction l with
  |nil=>intro l' _ _ h;cases l'<;>simp at h ⊢
  | cons p l ih =>
   intro l' h1 h2 h
   cases l' with
   |nil=>simp at h
   |cons p' l'=>
    simp only[zy,List.cons.injEq] at h;have e:=vf h.1;simp only[List.cons.injEq,and_true] at e;have e2:=zr0 (h1 p zo) (h2 p' zo) (vf e.2);rw[ih (λq hq=>h1 q (zk _ hq)) (λq hq=>h2 q (zk _ hq)) h.2,Prod.ext e.1 e2]
 exact Prod.ext h1.1 (key hv hw (vf h1.2))
open Classical in
noncomputable def JV(n:Nat):Wd:=if h:∃w,plW w/\zj1 w=n then Classical.choose h else(n,[])
def zr4{w:Wd}(h:plW w):JV (zj1 w)=w:=by
 have g:∃v,plW v/\zj1 v=zj1 w:=⟨w,h,rfl⟩;unfold JV;rw[dif_pos g];exact zq6 (Classical.choose_spec g).1 h (Classical.choose_spec g).2
def zf6(n:Nat):plW (JV n):=by
 unfold JV
 split
 ·rename_i g;exact(Classical.choose_spec g).1
 ·intro p hp;simp at hp
def zf7{n:Nat}(h:n<64):JV n=(n,[]):=by
 unfold JV;rw[dif_neg];rintro⟨w,_,rfl⟩;have:=zG6 w;lia
noncomputable def kOf(n:Nat):Nat:=(JV n).1
noncomputable def xp(n:Nat)(a:Addr):Option Cell:=(JV n).2.lookup a
noncomputable def UB(n:Nat):List Addr:=(JV n).2.map (·.1)
noncomputable def vN(n:Nat)(a:Addr)(c:Cell):Nat:=zj1 (kOf n,(a,c)::(JV n).2)
def zd5{n:Nat}(h:n<64):kOf n=n:=by unfold kOf;rw[zf7 h]
@[simp] theorem zF5:kOf 2=2:=zd5 w6
@[simp] theorem xB9:kOf 3=3:=zd5 w6
def kZ{n:Nat}{a:Addr}(h:n<64):xp n a=none:=by unfold xp;rw[zf7 h];rfl
def KN{n:Nat}{a:Addr}{c:Cell}(h:plC c=true):JV (vN n a c)=(kOf n,(a,c)::(JV n).2):=zr4 λp hp=>by
 rcases zh.mp hp with rfl |hp
 ·exact h
 ·exact zf6 n p hp
def ql{n:Nat}{a:Addr}{c:Cell}(h:plC c=true):kOf (vN n a c)=kOf n:=by unfold kOf;rw[KN h];rfl
def vJ{n:Nat}{a b:Addr}{c:Cell}(h:plC c=true):xp (vN n a c) b=if b=a then some c else xp n b:=by
 unfold xp;rw[KN h]
 by_cases e:b=a
 ·subst e;simp
 ·rw[if_neg e];simp[List.lookup,beq_eq_false_iff_ne.mpr e]
def UA{n:Nat}{a:Addr}(h:xp n a≠none):a∈UB n:=by
 unfold xp at h;unfold UB
 have key:∀l:List (Addr × Cell),l.lookup a≠none->a∈l.map (·.1):=by
  intro l
  induction l with
  |nil=>intro h;exact absurd rfl h
  |cons p l ih=>
   intro h;rw[zy]
   by_cases e:a=p.1
   ·rw[e];exact zo
   ·exact zk _ (ih (by simpa [List.lookup,beq_eq_false_iff_ne.mpr e] using h))
 exact key _ h
def KvR(K:W.Frag)(Z:Addr->Prop)(H:Hp):List (Int × D)->List (Key × V)->Prop
 |[],[]=>True
 |p::l,q::r=>q.1=.inl p.1/\Rep K none Z H p.2 q.2/\KvR K Z H l r
 |_,_=>False
def FsR(K:W.Frag)(Z:Addr->Prop)(H:Hp):List (Str × D)->List (Str × V)->Prop
 |[],[]=>True
 |p::l,q::r=>q.1=p.1/\Rep K none Z H p.2 q.2/\FsR K Z H l r
 |_,_=>False
theorem KvR.mono{K:W.Frag}{Z Z':Addr->Prop}{H H':Hp}(hz:∀a,H a≠none->Z' a->Z a)(hf:∀a o,¬ Z a->H a=some o->H' a=some o):∀{l:List (Int × D)}{r:List (Key × V)},KvR K Z H l r->KvR K Z' H' l r
 |[],[],_=>trivial
 |_::_,_::_,h=>⟨h.1,Rep.mono hz hf _ _ h.2.1,KvR.mono hz hf h.2.2⟩
theorem FsR.mono{K:W.Frag}{Z Z':Addr->Prop}{H H':Hp}(hz:∀a,H a≠none->Z' a->Z a)(hf:∀a o,¬ Z a->H a=some o->H' a=some o):∀{l:List (Str × D)}{r:List (Str × V)},FsR K Z H l r->FsR K Z' H' l r
 |[],[],_=>trivial
 |_::_,_::_,h=>⟨h.1,Rep.mono hz hf _ _ h.2.1,FsR.mono hz hf h.2.2⟩
def CellR(K:W.Frag)(Z:Addr->Prop)(H:Hp)(a:Addr):Cell->Prop
 |.dic kv=>∃kvs,H a=some (.dK kvs)/\KvR K Z H kv kvs
 |.ins C fs=>∃dx gs,H a=some (.ins C dx gs)/\FsR K Z H fs gs
def CellR.ne{K:W.Frag}{Z:Addr->Prop}{H:Hp}{a:Addr}{c:Cell}(h:CellR K Z H a c):H a≠none:=by
 cases c with
 |dic kv=>obtain⟨xs,h,_⟩:=h;rw[h];simp
 |ins C fs=>obtain⟨dx,xs,h,_⟩:=h;rw[h];simp
def CellR.mono{K:W.Frag}{Z Z':Addr->Prop}{H H':Hp}{a:Addr}{c:Cell}(h:CellR K Z H a c)(hz:∀a,H a≠none->Z' a->Z a)(hf:∀a o,¬ Z a->H a=some o->H' a=some o)(hc:∀o,H a=some o->H' a=some o):CellR K Z' H' a c:=by
 cases c with
 |dic kv=>obtain⟨xs,h,r⟩:=h;exact⟨xs,hc _ h,r.mono hz hf⟩
 |ins C fs=>obtain⟨dx,xs,h,r⟩:=h;exact⟨dx,xs,hc _ h,r.mono hz hf⟩
def StOk(K:W.Frag)(Z C:Addr->Prop)(G:Option Addr)(n:Nat)(H:Hp):Prop:=
 (∀a,G=some a->∃(zs:List Int) (_ _:Nat),H a=some (.lst (zs.map V.int))/\zs.length=kOf n/\(∀x∈zs,0<=x)/\∀x,zs[1]?=some x->x<2147483647) /\
 ∀a c,xp n a=some c->C a/\G≠some a/\CellR K Z H a c
def StOk.monoC{K:W.Frag}{Z Z' C C':Addr->Prop}{G:Option Addr}{n:Nat}{H H':Hp}(h:StOk K Z C G n H)(hz:∀a,H a≠none->Z' a->Z a)(hf:∀a o,¬ Z a->H a=some o->H' a=some o)(hg:∀a o,G=some a->H a=some o->H' a=some o)
  (hC:∀a,xp n a≠none->C a->C' a) (hc:∀a o,xp n a≠none->H a=some o->H' a=some o):StOk K Z' C' G n H':=
 ⟨λa e=>by
  obtain⟨zs,u,v,q,r⟩:=h.1 a e
  exact⟨zs,u,v,hg a _ e q,r⟩,λa c e=>by
  obtain⟨q1,q2,q3⟩:=h.2 a c e
  have ne:xp n a≠none:=by rw[e];simp
  exact⟨hC a ne q1,q2,q3.mono hz hf λo=>hc a o ne⟩⟩
def StOk.mono{K:W.Frag}{Z Z' C C':Addr->Prop}{G:Option Addr}{n:Nat}{H H':Hp}(h:StOk K Z C G n H)(hz:∀a,H a≠none->Z' a->Z a)(hf:∀a o,¬ Z a->H a=some o->H' a=some o)(hg:∀a o,G=some a->H a=some o->H' a=some o)
  (hC:∀a,xp n a≠none->C a->C' a) (hc:∀a o,C a->H a=some o->H' a=some o):StOk K Z' C' G n H':=
 h.monoC hz hf hg hC λa o ne e=>by
  cases q:xp n a with
  |none=>exact absurd q ne
  |some c=>exact hc a o (h.2 a c q).1 e
structure AC where
 K:W.Frag
 G:Option Addr
 Z0:Addr->Prop
 H0:Hp
abbrev Rho:=List (Option D)
def Zof(A:AC)(os:List (Nat × Addr)):Addr->Prop:=λa=>A.Z0 a\/∃p∈os,p.2=a
def SlotR(A:AC)(os:List (Nat × Addr))(H:Hp)(i:Nat):D->V->Prop
 |.own ds,v=>∃a xs,v=.ref a/\(i,a)∈os/\H a=some (.lst xs)/\Reps A.K A.G (Zof A os) H ds xs
 |d,v=>Rep A.K A.G (Zof A os) H d v
def Cof(A:AC)(os:List (Nat × Addr))(m:Nat):Addr->Prop:=λa=>(A.Z0 a/\A.H0 a=none)\/∃p∈os,p.2=a/\m<=p.1
structure AmO(A:AC)(os:List (Nat × Addr))(n:Nat)(rho:Rho)(sg:St)(H:Hp)(ds:List D)(vs:List V):Prop where
 len:rho.length=sg.length
 slot:∀i d,rho[i]?=some (some d)->∃v,sg[i]?=some (some v)/\SlotR A os H i d v
 pend:Reps A.K A.G (Zof A os) H ds vs
 nd:os.Pairwise λp q=>p.1≠q.1/\p.2≠q.2
 fresh:∀p∈os,A.H0 p.2=none/\¬ A.Z0 p.2/\H p.2≠none
 st:StOk A.K (Zof A os) (Cof A os rho.length) A.G n H
 gz:∀a,A.G=some a->A.Z0 a
 fr:∀a o,A.G≠some a->A.H0 a=some o->H a=some o
 z0:∀a,A.Z0 a->A.H0 a≠none\/xp n a≠none
def Am(A:AC)(n:Nat)(rho:Rho)(sg:St)(H:Hp)(ds:List D)(vs:List V):Prop:=∃os,AmO A os n rho sg H ds vs
section
variable {A:AC}{os:List (Nat × Addr)}{n:Nat}{rho:Rho}{sg:St}{H:Hp}{ds:List D}{vs:List V}{d:D}{v:V}
def AmO.zH(I:AmO A os n rho sg H ds vs):∀a,Zof A os a->H a≠none:=λa h=>by
 rcases h with h |⟨p,hp,rfl⟩
 ·by_cases e : A.G = some a
  ·obtain⟨x,y,z,q,_⟩:=I.st.1 a e;rw[q];simp
  ·rcases I.z0 a h with z | z
   ·cases q : A.H0 a with
    |none=>exact absurd q z
    |some o=>rw[I.fr a o e q];simp
   ·cases q : xp n a with
    |none=>exact absurd q z
    |some c=>exact(I.st.2 a c q).2.2.ne
 ·exact(I.fresh p hp).2.2
def AmO.noOwn(I:AmO A os n rho sg H ds vs){i:Nat}{a:Addr}(hi:i<rho.length)(hm:(i,a)∈os):xp n a=none:=by
 cases q:xp n a with
 |none=>rfl
 | some c =>
  exfalso
  rcases(I.st.2 a c q).1 with ⟨z,_⟩ |⟨p,hp,e,hl⟩
  ·exact(I.fresh _ hm).2.1 z
  ·have key : ∀ (l : List (Nat × Addr)), l.Pairwise (λp q => p.1 ≠ q.1 /\ p.2 ≠ q.2) -> (i, a) ∈ l -> ∀ q ∈ l, q.2 = a -> q.1 = i := by
    intro l
    induction l with
    |nil=>intro _ h;simp at h
    |cons c l ih=>
     intro hp h1 q hq hqa;obtain⟨p1,p2⟩:=xW.mp hp
     rcases zh.mp h1 with e1 |h1<;>rcases zh.mp hq with e2 |h2
     ·rw[e2,<- e1]
     ·exact absurd (by rw[<- e1,hqa]) (p1 _ h2).2
     ·exact absurd (by rw[<- e2,hqa]) (p1 _ h1).2
     ·exact ih p2 h1 q h2 hqa
   have:=key os I.nd hm p hp e;lia
def SlotR.mono{os':List (Nat × Addr)}{H':Hp}{i:Nat}(hz:∀a,H a≠none->Zof A os' a->Zof A os a)(hf:∀a o,¬ Zof A os a->H a=some o->H' a=some o)
  (ho:∀a xs,(i,a)∈os->H a=some (.lst xs)->(i,a)∈os'/\H' a=some (.lst xs)):∀(d:D) (v:V),SlotR A os H i d v->SlotR A os' H' i d v
 |.own ds,v,h=>by
  obtain⟨a,xs,e,m,q,r⟩:=h;obtain⟨m',q'⟩:=ho a xs m q;exact⟨a,xs,e,m',q',Reps.mono hz hf ds xs r⟩
 |.non,v,h=>Rep.mono hz hf _ _ h
 |.bl _,v,h=>Rep.mono hz hf _ _ h
 |.int _,v,h=>Rep.mono hz hf _ _ h
 |.str _,v,h=>Rep.mono hz hf _ _ h
 |.ty _,v,h=>Rep.mono hz hf _ _ h
 |.tup _,v,h=>Rep.mono hz hf _ _ h
 |.lst _,v,h=>Rep.mono hz hf _ _ h
 |.st,v,h=>Rep.mono hz hf _ _ h
 |.fz _,v,h=>Rep.mono hz hf _ _ h
 |.dic,v,h=>Rep.mono hz hf _ _ h
 |.dct _ _,v,h=>Rep.mono hz hf _ _ h
 |.rf _,v,h=>Rep.mono hz hf _ _ h
def yL:D->Bool
 |.own _=>false
 |_=>true
theorem SlotR.rep{i:Nat}:∀{d:D}{v:V},yL d=true->SlotR A os H i d v->Rep A.K A.G (Zof A os) H d v
 |.own _,_,h,_=>by simp[yL] at h
 |.non,_,_,h=>h
 |.bl _,_,_,h=>h
 |.int _,_,_,h=>h
 |.str _,_,_,h=>h
 |.ty _,_,_,h=>h
 |.tup _,_,_,h=>h
 |.lst _,_,_,h=>h
 |.st,_,_,h=>h
 |.fz _,_,_,h=>h
 |.dic,_,_,h=>h
 |.dct _ _,_,_,h=>h
 |.rf _,_,_,h=>h
theorem SlotR.of{i:Nat}:∀{d:D}{v:V},Rep A.K A.G (Zof A os) H d v->SlotR A os H i d v
 |.own _,_,h=>by unfold Rep at h;exact h.elim
 |.non,_,h=>h
 |.bl _,_,h=>h
 |.int _,_,h=>h
 |.str _,_,h=>h
 |.ty _,_,h=>h
 |.tup _,_,h=>h
 |.lst _,_,h=>h
 |.st,_,h=>h
 |.fz _,_,h=>h
 |.dic,_,h=>h
 |.dct _ _,_,h=>h
 |.rf _,_,h=>h
def AmO.push(I:AmO A os n rho sg H ds vs)(h:Rep A.K A.G (Zof A os) H d v):AmO A os n rho sg H (d::ds) (v::vs):=
 ⟨I.len,I.slot,.cons h I.pend,I.nd,I.fresh,I.st,I.gz,I.fr,I.z0⟩
def AmO.pends{es:List D}{ws:List V}(I:AmO A os n rho sg H ds vs)(h:Reps A.K A.G (Zof A os) H es ws):AmO A os n rho sg H es ws:=
 ⟨I.len,I.slot,h,I.nd,I.fresh,I.st,I.gz,I.fr,I.z0⟩
def AmO.pop(I:AmO A os n rho sg H (d::ds) (v::vs)):AmO A os n rho sg H ds vs/\Rep A.K A.G (Zof A os) H d v:=⟨I.pends I.pend.inv.2,I.pend.inv.1⟩
def AmO.grow{p:Addr}{o:HO}(I:AmO A os n rho sg H ds vs)(hp:H p=none):AmO A os n rho sg (upd H p o) ds vs:=by
 have hf:∀a u,H a=some u->upd H p o a=some u:=λa u e=>by rw[wr (yV e hp)];exact e
 refine⟨I.len,λi d e=>?_,Reps.mono (λ_ _ z=>z) (λa u _ e=>hf a u e) _ _ I.pend,I.nd,λq hq=>?_,I.st.mono (λ_ _ z=>z) (λa u _ e=>hf a u e) (λa u _ e=>hf a u e) (λ_ _ z=>z) (λa u _ e=>hf a u e),I.gz,λa u h e=>hf a u (I.fr a u h e),I.z0⟩
 ·obtain⟨v,e1,e2⟩:=I.slot i d e;exact⟨v,e1,SlotR.mono (λ_ _ z=>z) (λa u _ e=>hf a u e) (λa xs m q=>⟨m,hf a _ q⟩) _ _ e2⟩
 ·obtain ⟨f1, f2, f3⟩ := I.fresh q hq;refine⟨f1,f2,?_⟩
  cases e:H q.2 with
  |none=>exact absurd e f3
  |some u=>rw[hf _ _ e];simp
def AmO.newTup{p:Addr}{es:List D}{xs:List V}(I:AmO A os n rho sg H ds vs)(r:Reps A.K A.G (Zof A os) H es xs)(hp:H p=none):AmO A os n rho sg (upd H p (.tup xs)) (.tup es::ds) (.ref p::vs):=by
 have g:=I.grow (o:=.tup xs) hp;refine g.push (.tup_mk (.inl ⟨λz=>I.zH p z hp,.inl yH⟩) ?_)
 exact Reps.mono (λ_ _ z=>z) (λa u _ e=>by rw[wr (yV e hp)];exact e) _ _ r
def AmO.newLst{p:Addr}{es:List D}{xs:List V}(I:AmO A os n rho sg H ds vs)(r:Reps A.K A.G (Zof A os) H es xs)(hp:H p=none):AmO A os n rho sg (upd H p (.lst xs)) (.lst es::ds) (.ref p::vs):=by
 have g:=I.grow (o:=.lst xs) hp;refine g.push (.lst_mk ⟨λz=>I.zH p z hp,yH⟩ ?_)
 exact Reps.mono (λ_ _ z=>z) (λa u _ e=>by rw[wr (yV e hp)];exact e) _ _ r
def Cof.filter{i:Nat}{a:Addr}{x:Option D}(hi:i<rho.length)(z:Cof A os rho.length a):Cof A (os.filter λp=>decide (p.1≠i)) (rho.set i x).length a:=by
 rw[length_set]
 rcases z with z |⟨p,hp,e,hl⟩
 ·exact .inl z
 ·exact .inr ⟨p,zL.mpr ⟨hp,by simp;lia⟩,e,hl⟩
def AmO.set{i:Nat}(I:AmO A os n rho sg H (d::ds) (v::vs))(hi:i<rho.length):AmO A (os.filter λp=>decide (p.1≠i)) n (rho.set i (some d)) (sg.set i (some v)) H ds vs:=by
 obtain⟨J,hr⟩:=I.pop
 have sub:∀a,H a≠none->Zof A (os.filter λp=>decide (p.1≠i)) a->Zof A os a:=λa _ z=>by
  rcases z with z |⟨p,hp,e⟩
  ·exact .inl z
  ·exact .inr ⟨p,(zL.mp hp).1,e⟩
 refine⟨by simp[I.len],λj c e=>?_,Reps.mono sub (λ_ _ _ e=>e) _ _ J.pend,I.nd.filter _,λp hp=>I.fresh p (zL.mp hp).1,I.st.mono sub (λ_ _ _ e=>e) (λ_ _ _ e=>e) (λa _ z=>Cof.filter hi z) (λ_ _ _ e=>e),I.gz,I.fr,I.z0⟩
 by_cases hj:j=i
 ·subst hj;rw[xi hi] at e;cases e
  exact⟨v,xi (by rw[<- I.len];exact hi),SlotR.of (Rep.mono sub (λ_ _ _ e=>e) _ _ hr)⟩
 ·rw [xz (Ne.symm hj)] at e;obtain⟨u,e1,e2⟩:=I.slot j c e
  exact⟨u,by rw[xz (Ne.symm hj)];exact e1,SlotR.mono sub (λ_ _ _ e=>e) (λa xs m q=>⟨zL.mpr ⟨m,by simpa using hj⟩,q⟩) _ _ e2⟩
end
abbrev TD:=Rho->Nat->(D->Nat->Prop)->Prop
abbrev TBD:=Rho->Nat->(Bool->Nat->Prop)->Prop
abbrev TAD:=Rho->Nat->(List D->Nat->Prop)->Prop
def tOf(A:AC)(t:TD):TE:=λsg H Q=>∃rho n P ds vs,Am A n rho sg H ds vs/\t rho n P/\∀v H' n' d,Am A n' rho sg H' (d::ds) (v::vs)->P d n'->Q v H'
def Vt(A:AC)(t:TBD):TT:=λsg H Q=>∃rho n P ds vs,Am A n rho sg H ds vs/\t rho n P/\∀b H' n',Am A n' rho sg H' ds vs->P b n'->Q b H'
def xa9(A:AC)(t:TAD):TA:=λsg H Q=>∃rho n P ds vs,Am A n rho sg H ds vs/\t rho n P/\∀ws H' n' es,Am A n' rho sg H' (es++ds) (ws++vs)->ws.length=es.length->P es n'->Q ws H'
@[irreducible] def PD(A:AC)(X:Cx)(e:Expr)(t:TD):Prop:=PE X e (tOf A t)
@[irreducible] def PTD(A:AC)(X:Cx)(e:Expr)(t:TBD):Prop:=PT X e (Vt A t)
@[irreducible] def PWD(A:AC)(X:Cx)(e:Expr)(t:TBD):Prop:=PW X e (Vt A t)
@[irreducible] def PAD(A:AC)(X:Cx)(es:List Expr)(t:TAD):Prop:=PA X es (xa9 A t)
def PE.imp{X:Cx}{e:Expr}{t t':TE}(h:PE X e t)(hi:∀sg H Q,t' sg H Q->t sg H Q):PE X e t':=λpins s sg H Q I q=>h pins s sg H Q I (hi _ _ _ q)
def PT.imp{X:Cx}{e:Expr}{t t':TT}(h:PT X e t)(hi:∀sg H Q,t' sg H Q->t sg H Q):PT X e t':=λpins s sg H Q I q=>h pins s sg H Q I (hi _ _ _ q)
def PW.imp{X:Cx}{e:Expr}{t t':TT}(h:PW X e t)(hi:∀sg H Q,t' sg H Q->t sg H Q):PW X e t':=λwh pins s sg H Q I q=>h wh pins s sg H Q I (hi _ _ _ q)
def PA.imp{X:Cx}{e:List Expr}{t t':TA}(h:PA X e t)(hi:∀sg H Q,t' sg H Q->t sg H Q):PA X e t':=λps pins s sg H Q I q=>h ps pins s sg H Q I (hi _ _ _ q)
def PS.imp{X:Cx}{e:Stmt}{t t':TS}(h:PS X e t)(hi:∀E sg H,t' E sg H->t E sg H):PS X e t':=λpins s sg H Q I q=>h pins s sg H Q I (hi _ _ _ q)
def PSs.imp{X:Cx}{e:List Stmt}{t t':TS}(h:PSs X e t)(hi:∀E sg H,t' E sg H->t E sg H):PSs X e t':=λpins s sg H Q I q=>h pins s sg H Q I (hi _ _ _ q)
section
variable {A:AC}{X:Cx}{a b c e:Expr}{es:List Expr}{ta tb tc:TD}{pos:Pos}
def atD(d:D)(k:D->Prop):Prop:=match d with
 |.own _=>False
 |.non=>k .non
 |.bl b=>k (.bl b)
 |.int b=>k (.int b)
 |.str b=>k (.str b)
 |.ty b=>k (.ty b)
 |.tup b=>k (.tup b)
 |.lst b=>k (.lst b)
 |.fz b=>k (.fz b)
 |.st=>k .st
 |.dic=>k .dic
 |.dct a b=>k (.dct a b)
 |.rf a=>k (.rf a)
def zi5{d:D}{k:D->Prop}(h:atD d k):yL d=true/\k d:=by
 cases d<;>first |exact⟨rfl,h⟩ |exact h.elim
def zV4{d:D}{k:D->Prop}(h:yL d=true)(q:k d):atD d k:=by
 cases d<;>first |exact q |(simp[yL] at h;done)
def atV(o:Option (Option D))(k:D->Prop):Prop:=match o with |some (some d)=>atD d k |_=>False
def zH8{o:Option (Option D)}{k:D->Prop}(h:atV o k):∃d,o=some (some d)/\yL d=true/\k d:=by
 match o,h with
 |some (some d),h=>exact⟨d,rfl,zi5 h⟩
def JW(i:Nat):TD:=λrho n P=>atV rho[i]? λd=>P d n
def dC(d:D):TD:=λ_ n P=>P d n
def zq(i:Nat){x:Str}(hN:X.N[i]?=some x:=by rfl)(hv:Vis X.env.scope x:=by first |exact Or.inl rfl |exact Or.inr (Or.inl rfl) |exact Or.inr (Or.inr rfl))(hd:(x == ("__debug__" : Str))=false:=by decide)
  (hcd:(x == ("__classdict__" : Str))=false:=by decide):PD A X (.Name x pos) (JW i):=by
 exists (Kn hN hv hd hcd).imp λsg H Q h=>by
   obtain⟨rho,n,P,ds,vs,⟨os,I⟩,hh,hQ⟩:=h;obtain⟨d,e,hd,q⟩:=zH8 hh;obtain⟨v,e1,e2⟩:=I.slot i d e;exact⟨v,e1,hQ v H n d ⟨os,I.push (e2.rep hd)⟩ q⟩
def zr5{d:D}(hs:kJ d=true){t:TE}(ht:∀sg H Q,Q (ofS d) H->t sg H Q)(h:PE X e t):PD A X e (dC d):=by
 exists h.imp λsg H Q q=>by
   obtain⟨rho,n,P,ds,vs,⟨os,I⟩,q,hQ⟩:=q;exact ht _ _ _ (hQ _ H n d ⟨os,I.push (Rep.ofS hs)⟩ q)
def zZ{i:Int}{j:Nat}:PD A X (.Constant (.int i) j pos) (dC (.int i)):=by exists zr5 rfl (λ_ _ _ q=>q) zt9
def Jq{i:Bool}{j:Nat}:PD A X (.Constant (.bool i) j pos) (dC (.bl i)):=by exists zr5 rfl (λ_ _ _ q=>q) xl7
def za0{j:Nat}:PD A X (.Constant .none j pos) (dC .non):=by exists zr5 rfl (λ_ _ _ q=>q) zO7
def zu0{x:Str}{j:Nat}:PD A X (.Constant (.str x) j pos) (dC (.str x)):=by exists zr5 rfl (λ_ _ _ q=>q) zO6
abbrev RD2:=D->D->(D->Prop)->Prop
def kN(A:AC)(r:R2)(rd:RD2):Prop:=
 ∀os n rho sg H ds vs d1 d2 v1 v2 (k:D->Prop) (Q:VK),AmO A os n rho sg H (d2::d1::ds) (v2::v1::vs)->rd d1 d2 k->(∀v H' d,Am A n rho sg H' (d::ds) (v::vs)->k d->Q v H')->r v1 v2 H Q
def dOp(rd:RD2)(ta tb:TD):TD:=λrho n P=>ta rho n λd1 n1=>tb rho n1 λd2 n2=>rd d1 d2 λd=>P d n2
def YR(t:TD):TBD:=λrho n P=>t rho n λd n'=>∃b,d=.bl b/\P b n'
def Wc{r:R2}{rd:RD2}(hr:kN A r rd){sg:St}{H:Hp}{Q:VK}(h:tOf A (dOp rd ta tb) sg H Q):tOp r (tOf A ta) (tOf A tb) sg H Q:=by
 obtain⟨rho,n,P,ds,vs,I,ht,hQ⟩:=h;exact⟨rho,n,_,ds,vs,I,ht,λv1 H1 n1 d1 I1 h1=>⟨rho,n1,_,d1::ds,v1::vs,I1,h1,λv2 H2 n2 d2 ⟨os2,I2⟩ h2=>hr _ _ _ _ _ _ _ _ _ _ _ _ Q I2 h2 λv H' d J k=>hQ v H' n2 d J k⟩⟩
def Zu{t:TE}{td:TD}(h:∀sg H Q,tOf A td sg H Q->t sg H Q){sg:St}{H:Hp}{Q:Bool->Hp->Prop}(q:Vt A (YR td) sg H Q):zK1 t sg H Q:=by
 obtain⟨rho,n,P,ds,vs,I,ht,hQ⟩:=q;refine h _ _ _ ⟨rho,n,_,ds,vs,I,ht,λv H' n' d ⟨os,J⟩ k=>?_⟩;obtain⟨b,rfl,k⟩:=k;obtain⟨J1,r⟩:=J.pop;exact⟨b,r.bl_inv,hQ b H' n' ⟨os,J1⟩ k⟩
def ZV{op:Operator}{r:R2}{rd:RD2}(ho:OpR X (binaryOp op) r)(hr:kN A r rd)(ha:PD A X a ta)(hb:PD A X b tb):PD A X (.BinOp a op b pos) (dOp rd ta tb):=by exists (xl5 ho ha hb).imp λ_ _ _=>Wc hr
def za3{op:CmpOp}{r:R2}{rd:RD2}(ho:OpR X (compareOp op) r)(hr:kN A r rd)(ha:PD A X a ta)(hb:PD A X b tb)(hm:behindInMarks op b=false):PD A X (.Compare a [op] [b] pos) (dOp rd ta tb):=by exists (QX ho ha hb hm).imp λ_ _ _=>Wc hr
def yQ{op:CmpOp}{r:R2}{rd:RD2}(ho:OpR X (compareOp op) r)(hr:kN A r rd)(ha:PD A X a ta)(hb:PD A X b tb)(hm:behindInMarks op b=false):PTD A X (.Compare a [op] [b] pos) (YR (dOp rd ta tb)):=by
 exists 
   (VM ho ha hb hm).imp λ_ _ _=>Zu λ_ _ _=>Wc hr
def jX{r:R2}{rd:RD2}(hi:IxR X r)(hr:kN A r rd)(ha:PD A X a ta)(hb:PD A X b tb)(hs:UI b):PD A X (.Subscript a b pos) (dOp rd ta tb):=by exists (zO8 hi ha hb hs).imp λ_ _ _=>Wc hr
def zz9(ha:PD A X a ta)(he:∀whole,isTrue a X.env whole=(do let v <- whole;standAt a.pos;holding [v] (truthy v)):=by intro _;rfl):PTD A X a (YR ta):=by exists (zN6 ha he).imp λ_ _ _=>Zu λ_ _ _ q=>q
def rdI(C:Int->Int->Prop)(g:Int->Int->D):RD2:=λd1 d2 k=>match d1,d2 with |.int i,.int j=>C i j/\k (g i j) |_,_=>False
def zy8{C:Int->Int->Prop}{g:Int->Int->D}{d1 d2:D}{k:D->Prop}(h:rdI C g d1 d2 k):∃i j,d1=.int i/\d2=.int j/\C i j/\k (g i j):=by
 unfold rdI at h
 split at h
 ·exact⟨_,_,rfl,rfl,h⟩
 ·exact h.elim
def zl4(g:Int->Int->D):RD2:=λd1 d2 k=>match d1,d2 with |.int i,.int j=>k (g i j) |_,_=>False
def zl3{g:Int->Int->D}{d1 d2:D}{k:D->Prop}(h:zl4 g d1 d2 k):∃i j,d1=.int i/\d2=.int j/\k (g i j):=by
 unfold zl4 at h
 split at h
 ·exact⟨_,_,rfl,rfl,h⟩
 ·exact h.elim
def zl1{C:Int->Int->Prop}{g:Int->Int->V}{gd:Int->Int->D}(hs:∀i j,kJ (gd i j)=true)(hg:∀i j,ofS (gd i j)=g i j):kN A (rI C g) (rdI C gd):=by
 rintro os n rho sg H ds vs d1 d2 v1 v2 k Q I hh hQ;obtain⟨i,j,rfl,rfl,hc,q⟩:=zy8 hh;obtain⟨I1,r2⟩:=I.pop;obtain⟨I2,r1⟩:=I1.pop
 exact⟨i,j,r1.int_inv,r2.int_inv,hc,hQ _ H _ ⟨os,I2.push (by rw[<- hg];exact Rep.ofS (hs i j))⟩ q⟩
def Wv{g:Int->Int->V}{gd:Int->Int->D}(hs:∀i j,kJ (gd i j)=true)(hg:∀i j,ofS (gd i j)=g i j):kN A (rI0 g) (zl4 gd):=by
 rintro os n rho sg H ds vs d1 d2 v1 v2 k Q I hh hQ;obtain⟨i,j,rfl,rfl,q⟩:=zl3 hh;obtain⟨I1,r2⟩:=I.pop;obtain⟨I2,r1⟩:=I1.pop
 exact⟨i,j,r1.int_inv,r2.int_inv,hQ _ H _ ⟨os,I2.push (by rw[<- hg];exact Rep.ofS (hs i j))⟩ q⟩
abbrev xD4:TD->TD->TD:=dOp (zl4 λi j=>.int (i+j))
abbrev xC6:TD->TD->TD:=dOp (zl4 λi j=>.int (i-j))
abbrev xv6:TD->TD->TD:=dOp (rdI CMul λi j=>.int (i*j))
abbrev xv7:TD->TD->TD:=dOp (rdI (λ_ j=>0<j) λi j=>.int (i%j))
abbrev xD2:TD->TD->TD:=dOp (rdI xw3 λi j=>.int (i/j))
abbrev xC9:TD->TD->TD:=dOp (rdI xw2 λi j=>.int (i^j.toNat))
def kj(ha:PD A X a ta)(hb:PD A X b tb):PD A X (.BinOp a .Add b pos) (xD4 ta tb):=by exists ZV zP8 (Wv (λ_ _=>rfl) λ_ _=>rfl) ha hb
def YY(ha:PD A X a ta)(hb:PD A X b tb):PD A X (.BinOp a .Sub b pos) (xC6 ta tb):=by exists ZV zP3 (Wv (λ_ _=>rfl) λ_ _=>rfl) ha hb
def qv(ha:PD A X a ta)(hb:PD A X b tb):PD A X (.BinOp a .Mult b pos) (xv6 ta tb):=by exists ZV zP5 (zl1 (λ_ _=>rfl) λ_ _=>rfl) ha hb
def kH(ha:PD A X a ta)(hb:PD A X b tb):PD A X (.BinOp a .Mod b pos) (xv7 ta tb):=by exists ZV zP6 (zl1 (λ_ _=>rfl) λ_ _=>rfl) ha hb
def za2(ha:PD A X a ta)(hb:PD A X b tb):PD A X (.BinOp a .FloorDiv b pos) (xD2 ta tb):=by exists ZV zD0 (zl1 (λ_ _=>rfl) λ_ _=>rfl) ha hb
def WD(ha:PD A X a ta)(hb:PD A X b tb):PD A X (.BinOp a .Pow b pos) (xC9 ta tb):=by exists ZV zP4 (zl1 (λ_ _=>rfl) λ_ _=>rfl) ha hb
abbrev xx9:RD2:=zl4 λi j=>.bl (decide (i<j))
abbrev xd5:RD2:=zl4 λi j=>.bl (decide (j<i))
abbrev xy0:RD2:=zl4 λi j=>.bl (decide (j<=i))
def xc9:kN A (rI0 λi j=>.bl (decide (i<j))) xx9:=Wv (g:=λi j=>.bl (decide (i<j))) (λ_ _=>rfl) λ_ _=>rfl
def VI:kN A (rI0 λi j=>.bl (decide (j<i))) xd5:=Wv (g:=λi j=>.bl (decide (j<i))) (λ_ _=>rfl) λ_ _=>rfl
def xd0:kN A (rI0 λi j=>.bl (decide (j<=i))) xy0:=Wv (g:=λi j=>.bl (decide (j<=i))) (λ_ _=>rfl) λ_ _=>rfl
def zy9:RD2:=λd1 d2 k=>kJ d1=true/\kJ d2=true/\zV9 (ofS d1) (ofS d2)=true/\k (.bl (decide (ofS d1=ofS d2)))
def zM2:RD2:=λd1 d2 k=>kJ d1=true/\kJ d2=true/\zV9 (ofS d1) (ofS d2)=true/\k (.bl (!decide (ofS d1=ofS d2)))
def VJ:kN A rEq zy9:=by
 rintro os n rho sg H ds vs d1 d2 v1 v2 k Q I ⟨h1,h2,h3,q⟩ hQ;obtain⟨I1,r2⟩:=I.pop;obtain⟨I2,r1⟩:=I1.pop;rw[r1.toS h1,r2.toS h2];exact⟨h3,hQ _ H _ ⟨os,I2.push (Rep.ofS rfl)⟩ q⟩
def xc8:kN A rNe zM2:=by
 rintro os n rho sg H ds vs d1 d2 v1 v2 k Q I ⟨h1,h2,h3,q⟩ hQ;obtain⟨I1,r2⟩:=I.pop;obtain⟨I2,r1⟩:=I1.pop;rw[r1.toS h1,r2.toS h2];exact⟨h3,hQ _ H _ ⟨os,I2.push (Rep.ofS rfl)⟩ q⟩
def YN:D->Bool
 |.non=>true
 |_=>false
def xd3:RD2:=λd1 d2 k=>d2=.non/\k (.bl (YN d1))
def zM1:RD2:=λd1 d2 k=>d2=.non/\k (.bl (!YN d1))
def rdB(f:Bool->Bool->Bool):RD2:=λd1 d2 k=>match d1,d2 with |.bl c,.bl d=>k (.bl (f c d)) |_,_=>False
def zI2:RD2:=λd1 d2 k=>∃es i d,(d1=.lst es\/d1=.tup es\/d1=.fz es)/\d2=.int i/\atI es i=some d/\k d
def UF{K:W.Frag}{G:Option Addr}{Z:Addr->Prop}{H:Hp}{es:List D}{xs:List V}{i:Int}{d:D}(h:Reps K G Z H es xs)(e:atI es i=some d):∃v,atI xs i=some v/\Rep K G Z H d v:=by
 unfold atI at e ⊢;rw[h.length]
 cases q:ixN es.length i with
 |none=>rw[q] at e;cases e
 |some j=>
  rw[q] at e;exact h.get (i:=j) e
def jU:kN A (rIx A.K) zI2:=by
 rintro os n rho sg H ds vs d1 d2 v1 v2 k Q I ⟨es,i,d,h1,rfl,h2,q⟩ hQ;obtain⟨I1,r2⟩:=I.pop;obtain⟨I2,r1⟩:=I1.pop
 rcases h1 with rfl |rfl |rfl
 ·obtain⟨a,xs,e,sq,rs⟩:=r1.lst_inv;obtain⟨v,e1,rv⟩:=UF rs h2;exact .inl ⟨a,xs,i,v,e,r2.int_inv,sq.sq,e1,hQ v H d ⟨os,I2.push rv⟩ q⟩
 ·obtain⟨a,xs,e,sq,rs⟩:=r1.tup_inv;obtain⟨v,e1,rv⟩:=UF rs h2;exact .inr (.inl ⟨a,xs,i,v,e,r2.int_inv,sq.sq,e1,hQ v H d ⟨os,I2.push rv⟩ q⟩)
 ·obtain⟨a,xs,e,sq,rs⟩:=r1.fz_inv;obtain⟨v,e1,rv⟩:=UF rs h2;exact .inl ⟨a,xs,i,v,e,r2.int_inv,sq,e1,hQ v H d ⟨os,I2.push rv⟩ q⟩
def zM4:RD2:=λd1 d2 k=>∃es fs,d1=.lst es/\d2=.lst fs/\es.length+fs.length<=sizeLine/\k (.lst (es++fs))
def zL7:kN A xq3 zM4:=by
 rintro os n rho sg H ds vs d1 d2 v1 v2 k Q I ⟨es,fs,rfl,rfl,hz,q⟩ hQ;obtain⟨I1,r2⟩:=I.pop;obtain⟨I2,r1⟩:=I1.pop;obtain⟨a,xs,e,sq,rs⟩:=r1.lst_inv;obtain⟨b,ys,e',sq',rs'⟩:=r2.lst_inv
 exact⟨a,b,xs,ys,e,e',sq.2,sq'.2,by rw[rs.length,rs'.length];exact hz,λp hp=>hQ _ _ _ ⟨os,I2.newLst (rs.append rs') hp⟩ q⟩
def zt2:RD2:=λd1 d2 k=>∃es i,d1=.tup es/\d2=.int i/\es≠[]/\1<=i/\es.length*i.toNat<=sizeLine/\k (.tup (replicate i.toNat es).flatten)
def zy4:kN A (zM5 A.K) zt2:=by
 rintro os n rho sg H ds vs d1 d2 v1 v2 k Q I ⟨es,i,rfl,rfl,hne,h1,hz,q⟩ hQ;obtain⟨I1,r2⟩:=I.pop;obtain⟨I2,r1⟩:=I1.pop;have r1':=r1;obtain⟨a,xs,e,sq,rs⟩:=r1.tup_inv;have hl:=rs.length
 refine⟨a,i,xs,e,r2.int_inv,sq.sq,λz=>hne ?_,h1,by rw[hl];exact hz,λhi=>?_,λhi p hp=>?_⟩
 ·rw[z] at hl;exact wn.mp hl.symm
 ·subst hi
  have e1:(replicate (1:Int).toNat es).flatten=es:=by simp
  rw[e1] at q;rw[e] at r1';exact hQ _ H _ ⟨os,I2.push r1'⟩ q
 ·exact hQ _ _ _ ⟨os,I2.newTup (rs.flatRep i.toNat) hp⟩ q
def za1(ha:PD A X a ta):PD A X (.UnaryOp .USub a pos) (λrho n P=>ta rho n λd n'=>∃i,d=.int i/\P (.int (-i)) n'):=by
 exists (zO4 zs3 ha).imp λsg H Q h=>by
   obtain⟨rho,n,P,ds,vs,I,ht,hQ⟩:=h;refine⟨rho,n,_,ds,vs,I,ht,λv H' n' d ⟨os,J⟩ k=>?_⟩;obtain⟨i,rfl,k⟩:=k;obtain⟨J1,r⟩:=J.pop;exact⟨i,r.int_inv,hQ _ H' n' _ ⟨os,J1.push (Rep.ofS (d:=.int (-i)) rfl)⟩ k⟩
variable {t u:TBD}{rest:List Expr}
def xv9(t u:TBD):TBD:=λrho n P=>t rho n λc n1=>if c=true then u rho n1 P else P false n1
def bOr(t u:TBD):TBD:=λrho n P=>t rho n λc n1=>if c=true then P true n1 else u rho n1 P
def xD5(t:TBD):TBD:=λrho n P=>t rho n λc n1=>P (!c) n1
def zl9(ha:PTD A X a t):PWD A X (.BoolOp .And [a] pos) t:=by exists zz6 ha
def VL(ha:PTD A X a t):PWD A X (.BoolOp .Or [a] pos) t:=by exists zN3 ha
def zz5(ha:PTD A X a t)(hb:PWD A X (.BoolOp .And (b::rest) pos) u):PWD A X (.BoolOp .And (a::b::rest) pos) (xv9 t u):=by
 exists (zN4 ha hb).imp λsg H Q h=>by
   obtain⟨rho,n,P,ds,vs,I,ht,hQ⟩:=h;refine⟨rho,n,_,ds,vs,I,ht,λc H' n' J k=>?_⟩
   cases c with
   |true=>exact⟨rho,n',P,ds,vs,J,k,hQ⟩
   |false=>exact hQ _ _ _ J k
def Kh(ha:PTD A X a t)(hb:PWD A X (.BoolOp .Or (b::rest) pos) u):PWD A X (.BoolOp .Or (a::b::rest) pos) (bOr t u):=by
 exists (xl2 ha hb).imp λsg H Q h=>by
   obtain⟨rho,n,P,ds,vs,I,ht,hQ⟩:=h;refine⟨rho,n,_,ds,vs,I,ht,λc H' n' J k=>?_⟩
   cases c with
   |false=>exact⟨rho,n',P,ds,vs,J,k,hQ⟩
   |true=>exact hQ _ _ _ J k
def PWD.pt(h:PWD A X e t):PTD A X e t:=by exists PW.pt h
def xD3(ta tb:TD):TD:=λrho n P=>ta rho n λd n1=>∃c,d=.bl c/\if c=true then tb rho n1 P else P (.bl false) n1
def dOr(ta tb:TD):TD:=λrho n P=>ta rho n λd n1=>∃c,d=.bl c/\if c=true then P (.bl true) n1 else tb rho n1 P
def xD0(ta:TD):TD:=λrho n P=>ta rho n λd n1=>∃c,d=.bl c/\P (.bl (!c)) n1
def dIf(t:TBD)(ta tb:TD):TD:=λrho n P=>t rho n λc n1=>if c=true then ta rho n1 P else tb rho n1 P
def xl8(hc:PTD A X c t)(ha:PD A X a ta)(hb:PD A X b tb):PD A X (.IfExp c a b pos) (dIf t ta tb):=by
 exists (zm9 hc ha hb).imp λsg H Q h=>by
   obtain⟨rho,n,P,ds,vs,I,ht,hQ⟩:=h;refine⟨rho,n,_,ds,vs,I,ht,λc H' n' J k=>?_⟩
   cases c with
   |true=>exact⟨rho,n',P,ds,vs,J,k,hQ⟩
   |false=>exact⟨rho,n',P,ds,vs,J,k,hQ⟩
variable {t1:TAD}
def zi7:TAD:=λ_ n P=>P [] n
def UH(t:TD)(r:TAD):TAD:=λrho n P=>t rho n λd n1=>r rho n1 λds n2=>P (d::ds) n2
def zE:PAD A X [] zi7:=by
 exists zP2.imp λsg H Q h=>by
   obtain⟨rho,n,P,ds,vs,I,ht,hQ⟩:=h;exact hQ [] H n [] I rfl ht
def zl0{K:W.Frag}{G:Option Addr}{Z:Addr->Prop}{H:Hp}{es ds:List D}{ws vs:List V}{d:D}{v:V}(h:Reps K G Z H (es++d::ds) (ws++v::vs))(hl:ws.length=es.length):Reps K G Z H (d::es++ds) (v::ws++vs):=by
 have h1:=h.take es.length;have h2:=h.drop es.length;rw[take_left' rfl,take_left' hl] at h1;rw[yg rfl,yg hl] at h2;obtain⟨r,t⟩:=h2.inv;exact .cons r (h1.append t)
def yX:Expr->Bool
 |.Starred ..=>true
 |_=>false
def sE{e:Expr}{es:List Expr}{env:Env}(h:yX e=false):starEach (e::es) env=(false,eval e env)::starEach es env:=by
 cases e<;>first |(simp[starEach];done) |(simp[yX] at h;done)
def zc(ha:PD A X a ta)(hr:PAD A X es t1)(hs:yX a=false:=by rfl):PAD A X (a::es) (UH ta t1):=by
 exists (zC6 ha hr (sE hs)).imp λsg H Q h=>by
   obtain⟨rho,n,P,ds,vs,I,ht,hQ⟩:=h;refine⟨rho,n,_,ds,vs,I,ht,λv H' n' d J k=>⟨rho,n',_,d::ds,v::vs,J,k,λws H2 n2 es' ⟨os,J2⟩ hl k2=>?_⟩⟩
   exact hQ (v::ws) H2 n2 (d::es') ⟨os,J2.pends (zl0 J2.pend hl)⟩ (by rw[zu,zu,hl]) k2
def Zw{K:W.Frag}{G:Option Addr}{Z:Addr->Prop}{H:Hp}{es ds:List D}{ws vs:List V}(h:Reps K G Z H (es++ds) (ws++vs))(hl:ws.length=es.length):Reps K G Z H es ws/\Reps K G Z H ds vs:=by
 have h1:=h.take es.length;have h2:=h.drop es.length;rw[take_left' rfl,take_left' hl] at h1;rw[yg rfl,yg hl] at h2;exact⟨h1,h2⟩
def zU0(t:TAD):TD:=λrho n P=>t rho n λds n1=>ds.length<=sizeLine/\P (.tup ds) n1
def xv8(t:TAD):TD:=λrho n P=>t rho n λds n1=>ds.length<=sizeLine/\P (.lst ds) n1
def kS{x1}(h:PAD A X es t1):PD A X (.Tuple es x1 pos) (zU0 t1):=by
 exists (zO5 h).imp λsg H Q h=>by
   obtain⟨rho,n,P,ds,vs,I,ht,hQ⟩:=h
   refine⟨rho,n,_,ds,vs,I,ht,λws H' n' es' ⟨os,J⟩ hl k=>⟨by rw[hl];exact k.1,λp hp=>?_⟩⟩
   obtain⟨q1,q2⟩:=Zw J.pend hl;exact hQ _ _ n' _ ⟨os,(J.pends q2).newTup q1 hp⟩ k.2
def Zo(h:PAD A X es t1):PD A X (.List es pos) (xv8 t1):=by
 exists (zt8 h).imp λsg H Q h=>by
   obtain⟨rho,n,P,ds,vs,I,ht,hQ⟩:=h
   refine⟨rho,n,_,ds,vs,I,ht,λws H' n' es' ⟨os,J⟩ hl k=>⟨by rw[hl];exact k.1,λp hp=>?_⟩⟩
   obtain⟨q1,q2⟩:=Zw J.pend hl;exact hQ _ _ n' _ ⟨os,(J.pends q2).newLst q1 hp⟩ k.2
def vd(A:AC)(r:List V->Hp->VK->Prop)(rd:List D->(D->Prop)->Prop):Prop:=
 ∀os n rho sg H ds vs es ws (k:D->Prop) (Q:VK),AmO A os n rho sg H ds vs->Reps A.K A.G (Zof A os) H es ws->rd es k->(∀v H' d,Am A n rho sg H' (d::ds) (v::vs)->k d->Q v H')->r ws H Q
def zg3(rd:List D->(D->Prop)->Prop)(t:TAD):TD:=λrho n P=>t rho n λes n1=>rd es λd=>P d n1
def Qp{r:List V->Hp->VK->Prop}{rd:List D->(D->Prop)->Prop}(hr:vd A r rd){sg:St}{H:Hp}{Q:VK}(h:tOf A (zg3 rd t1) sg H Q):tCB r (xa9 A t1) sg H Q:=by
 obtain⟨rho,n,P,ds,vs,I,ht,hQ⟩:=h;refine⟨rho,n,_,ds,vs,I,ht,λws H' n' es' ⟨os,J⟩ hl k=>?_⟩;obtain⟨q1,q2⟩:=Zw J.pend hl;exact hr _ _ _ _ _ _ _ _ _ _ Q (J.pends q2) q1 k λv H2 d J2 k2=>hQ v H2 n' d J2 k2
def wP{x:Str}{p:Pos}{id:String}{r:List V->Hp->VK->Prop}{rd:List D->(D->Prop)->Prop}(hc:qw X (.builtin id) r)(hr:vd A r rd)(hm:X.mg x=none)(hv:bootBuiltins x=some (.builtin id))(ha:PAD A X (e::es) t1)(hg:Gl X x:=by rfl)(hn:x ≠ "__name__" := by decide)(hdb:(x == ("__debug__" : Str))=false:=by decide)
  (he:starEach (e::es) X.env=(false,eval e X.env)::starEach es X.env:=by rfl) (hpl:(backTo pos (starEach es X.env)).any (·.1)=false:=by rfl):PD A X (.Call (.Name x p) (e::es) [] pos) (zg3 rd t1):=by
 exists 
   (Kq hc hg hm hv ha hn hdb he hpl).imp λ_ _ _=>Qp hr
def yB{x:Str}{p:Pos}{T:String}{r:List V->Hp->VK->Prop}{rd:List D->(D->Prop)->Prop}(hc:qw X (.type T) r)(hr:vd A r rd)(hm:X.mg x=none)(hv:bootBuiltins x=some (.type T))(ha:PAD A X (e::es) t1)(hg:Gl X x:=by rfl)(hn:x ≠ "__name__" := by decide)(hdb:(x == ("__debug__" : Str))=false:=by decide)
  (he:starEach (e::es) X.env=(false,eval e X.env)::starEach es X.env:=by rfl) (hpl:(backTo pos (starEach es X.env)).any (·.1)=false:=by rfl):PD A X (.Call (.Name x p) (e::es) [] pos) (zg3 rd t1):=by
 exists 
   (WC hc hg hm hv ha hn hdb he hpl).imp λ_ _ _=>Qp hr
def kC{K:W.Frag}{G:Option Addr}{Z:Addr->Prop}{H:Hp}{d:D}{ws:List V}(h:Reps K G Z H [d] ws):∃v,ws=[v]/\Rep K G Z H d v:=by
 obtain⟨v,r,rfl,q,t⟩:=h.split;rw[t.nil_inv];exact⟨v,rfl,q⟩
def QB{K:W.Frag}{G:Option Addr}{Z:Addr->Prop}{H:Hp}{d d':D}{ws:List V}(h:Reps K G Z H [d,d'] ws):∃v v',ws=[v,v']/\Rep K G Z H d v/\Rep K G Z H d' v':=by
 obtain⟨v,r,rfl,q,t⟩:=h.split;obtain⟨v',rfl,q'⟩:=kC t;exact⟨v,v',rfl,q,q'⟩
def zF7:List D->(D->Prop)->Prop:=λes k=>∃fs,(es=[.lst fs]\/es=[.tup fs]\/es=[.fz fs])/\k (.int fs.length)
def xv3:List D->(D->Prop)->Prop:=λes k=>∃i,es=[.int i]/\k (.int (if i<0 then -i else i))
def zS2:List D->(D->Prop)->Prop:=λes k=>∃c,es=[.bl c]/\k (.int (if c then 1 else 0))
def zd4:List D->(D->Prop)->Prop:=λes k=>∃fs,(es=[.lst fs]\/es=[.tup fs])/\k (.tup fs)
def zF6:List D->(D->Prop)->Prop:=λes k=>∃fs,(es=[.lst fs]\/es=[.tup fs])/\k (.lst fs)
def kY:vd A (λxs H Q=>∃p ys,xs=[.ref p]/\(SqL A.K H p ys\/SqT A.K H p ys)/\Q (.int ys.length) H) zF7:=by
 rintro os n rho sg H ds vs es ws k Q I rs ⟨fs,h,q⟩ hQ
 rcases h with rfl |rfl |rfl
 ·obtain ⟨v, rfl, r⟩ := kC rs;obtain⟨a,xs,rfl,sq,rr⟩:=r.lst_inv
  exact⟨a,xs,rfl,.inl sq.sq,by rw[rr.length];exact hQ _ H _ ⟨os,I.push (Rep.ofS rfl)⟩ q⟩
 ·obtain ⟨v, rfl, r⟩ := kC rs;obtain⟨a,xs,rfl,sq,rr⟩:=r.tup_inv
  exact⟨a,xs,rfl,.inr sq.sq,by rw[rr.length];exact hQ _ H _ ⟨os,I.push (Rep.ofS rfl)⟩ q⟩
 ·obtain ⟨v, rfl, r⟩ := kC rs;obtain⟨a,xs,rfl,sq,rr⟩:=r.fz_inv
  exact⟨a,xs,rfl,.inl sq,by rw[rr.length];exact hQ _ H _ ⟨os,I.push (Rep.ofS rfl)⟩ q⟩
def zw3:vd A (λxs H Q=>∃i,xs=[.int i]/\Q (.int (if i<0 then -i else i)) H) xv3:=by
 rintro os n rho sg H ds vs es ws k Q I rs ⟨i,rfl,q⟩ hQ;obtain⟨v,rfl,r⟩:=kC rs
 exact⟨i,by rw[r.int_inv],hQ _ H _ ⟨os,I.push (Rep.ofS rfl)⟩ q⟩
def zg8:vd A (λxs H Q=>(∃i,xs=[.int i]/\Q (.int i) H)\/∃k,xs=[.bl k]/\Q (.int (if k then 1 else 0)) H) zS2:=by
 rintro os n rho sg H ds vs es ws k Q I rs ⟨i,rfl,q⟩ hQ;obtain⟨v,rfl,r⟩:=kC rs
 exact .inr ⟨i,by rw[r.bl_inv],hQ _ H _ ⟨os,I.push (Rep.ofS rfl)⟩ q⟩
def vn:vd A (λxs H Q=>∃p ys,xs=[.ref p]/\((SqL A.K H p ys/\∀l,H l=none->Q (.ref l) (upd H l (.tup ys)))\/(SqT A.K H p ys/\Q (.ref p) H))) zd4:=by
 rintro os n rho sg H ds vs es ws k Q I rs ⟨fs,h,q⟩ hQ
 rcases h with rfl |rfl
 ·obtain⟨v,rfl,r⟩:=kC rs;obtain⟨a,xs,rfl,sq,rr⟩:=r.lst_inv;exact⟨a,xs,rfl,.inl ⟨sq.sq,λl hl=>hQ _ _ _ ⟨os,I.newTup rr hl⟩ q⟩⟩
 ·obtain⟨v,rfl,r⟩:=kC rs;have r':=r;obtain⟨a,xs,rfl,sq,rr⟩:=r.tup_inv;exact⟨a,xs,rfl,.inr ⟨sq.sq,hQ _ _ _ ⟨os,I.push r'⟩ q⟩⟩
def zH2:vd A (λxs H Q=>∃p ys,xs=[.ref p]/\(SqL A.K H p ys\/SqT A.K H p ys)/\∀l,H l=none->Q (.ref l) (upd H l (.lst ys))) zF6:=by
 rintro os n rho sg H ds vs es ws k Q I rs ⟨fs,h,q⟩ hQ
 rcases h with rfl |rfl
 ·obtain⟨v,rfl,r⟩:=kC rs;obtain⟨a,xs,rfl,sq,rr⟩:=r.lst_inv;exact⟨a,xs,rfl,.inl sq.sq,λl hl=>hQ _ _ _ ⟨os,I.newLst rr hl⟩ q⟩
 ·obtain⟨v,rfl,r⟩:=kC rs;obtain⟨a,xs,rfl,sq,rr⟩:=r.tup_inv;exact⟨a,xs,rfl,.inr sq.sq,λl hl=>hQ _ _ _ ⟨os,I.newLst rr hl⟩ q⟩
def zG0(T:String):D->Bool
 |.bl _=>T == "bool" || T == "int"
 |.int _=>T == "int"
 |.str _=>T == "str"
 |.tup _=>T == "tuple"
 |.lst _=>T == "list"
 |_=>false
def XQ:D->Bool
 |.non=>true |.bl _=>true |.int _=>true |.str _=>true |.tup _=>true |.lst _=>true |.dic=>true |_=>false
def zJ1:List D->(D->Prop)->Prop:=λes k=>∃d T,es=[d,.ty T]/\(T = "bool" \/ T = "int" \/ T = "str" \/ T = "tuple" \/ T = "list")/\XQ d=true/\k (.bl (zG0 T d))
end
section
variable {A:AC}{os:List (Nat × Addr)}{n:Nat}{rho:Rho}{sg:St}{H:Hp}{ds es:List D}{vs ws:List V}{d:D}{v:V}
def AmO.split(I:AmO A os n rho sg H (es++ds) (ws++vs))(hl:ws.length=es.length):AmO A os n rho sg H ds vs/\Reps A.K A.G (Zof A os) H es ws:=
 let ⟨q1,q2⟩:=Zw I.pend hl
 ⟨I.pends q2,q1⟩
def AmO.join(I:AmO A os n rho sg H ds vs)(h:Reps A.K A.G (Zof A os) H es ws):AmO A os n rho sg H (es++ds) (ws++vs):=I.pends (h.append I.pend)
def AmO.under(I:AmO A os n rho sg H (d::(es++ds)) (v::(ws++vs)))(hl:ws.length=es.length):AmO A os n rho sg H (d::ds) (v::vs):=by
 obtain⟨J,r⟩:=I.pop;exact(J.split hl).1.push r
def AmO.front(m:Nat)(I:AmO A os n rho sg H ds vs):AmO A (os.map λp=>(p.1+m,p.2)) n (replicate m none++rho) (replicate m none++sg) H ds vs:=by
 have zz:∀a,Zof A (os.map λp=>(p.1+m,p.2)) a->Zof A os a:=λa z=>by
  rcases z with z |⟨p,hp,e⟩
  ·exact .inl z
  ·obtain⟨q,hq,rfl⟩:=zK.mp hp;exact .inr ⟨q,hq,e⟩
 refine⟨by simp[I.len],λi c e=>?_,Reps.mono (λa _ z=>zz a z) (λ_ _ _ e=>e) _ _ I.pend,?_,λp hp=>?_,I.st.mono (λa _ z=>zz a z) (λ_ _ _ e=>e) (λ_ _ _ e=>e) (λa _ z=>?_) (λ_ _ _ e=>e),I.gz,I.fr,I.z0⟩
 ·have hi : m <= i := by
   apply wS;intro hlt
   rw[xg (by simpa using hlt),xE,if_pos hlt] at e
   cases e
  rw[zT (by simpa using hi),xv] at e
  obtain⟨u,e1,e2⟩:=I.slot _ c e
  refine⟨u,by rw[zT (by simpa using hi),xv];exact e1,?_⟩
  have key:∀j,j+m=i->SlotR A os H j c u->SlotR A (os.map λp=>(p.1+m,p.2)) H i c u:=λj hj h=>by
   subst hj
   cases c with
   |own fs=>
    obtain⟨a,xs,q1,q2,q3,q4⟩:=h;exact⟨a,xs,q1,zK.mpr ⟨_,q2,rfl⟩,q3,Reps.mono (λa _ z=>zz a z) (λ_ _ _ e=>e) _ _ q4⟩
   |non=>exact Rep.mono (λa _ z=>zz a z) (λ_ _ _ e=>e) _ _ h
   |bl _=>exact Rep.mono (λa _ z=>zz a z) (λ_ _ _ e=>e) _ _ h
   |int _=>exact Rep.mono (λa _ z=>zz a z) (λ_ _ _ e=>e) _ _ h
   |str _=>exact Rep.mono (λa _ z=>zz a z) (λ_ _ _ e=>e) _ _ h
   |ty _=>exact Rep.mono (λa _ z=>zz a z) (λ_ _ _ e=>e) _ _ h
   |tup _=>exact Rep.mono (λa _ z=>zz a z) (λ_ _ _ e=>e) _ _ h
   |lst _=>exact Rep.mono (λa _ z=>zz a z) (λ_ _ _ e=>e) _ _ h
   |st=>exact Rep.mono (λa _ z=>zz a z) (λ_ _ _ e=>e) _ _ h
   |fz _=>exact Rep.mono (λa _ z=>zz a z) (λ_ _ _ e=>e) _ _ h
   |dic=>exact Rep.mono (λa _ z=>zz a z) (λ_ _ _ e=>e) _ _ h
   |dct _ _=>exact Rep.mono (λa _ z=>zz a z) (λ_ _ _ e=>e) _ _ h
   |rf _=>exact Rep.mono (λa _ z=>zz a z) (λ_ _ _ e=>e) _ _ h
  exact key (i-m) w5 e2
 ·rw [xV]
  exact I.nd.imp λ{p q} h=>⟨λz=>h.1 (by simpa using z),h.2⟩
 ·obtain⟨q,hq,rfl⟩:=zK.mp hp;exact I.fresh q hq
 ·rcases z with z | ⟨p, hp, e, hl⟩
  ·exact .inl z
  ·exact .inr ⟨_,zO hp,e,by simp;lia⟩
def AmO.backX{m:Nat}{rho':Rho}{sg':St}(I:AmO A os n rho' sg' H ds vs)(h1:rho'.drop m=rho)(h2:sg'.drop m=sg)(hm:m<=rho'.length):∃os',AmO A os' n rho sg H ds vs:=by
 refine⟨(os.filter λp=>decide (m<=p.1)).map λp=>(p.1-m,p.2),?_⟩
 have zz:∀a,Zof A ((os.filter λp=>decide (m<=p.1)).map λp=>(p.1-m,p.2)) a->Zof A os a:=λa z=>by
  rcases z with z |⟨p,hp,e⟩
  ·exact .inl z
  ·obtain⟨q,hq,rfl⟩:=zK.mp hp;exact .inr ⟨q,(zL.mp hq).1,e⟩
 subst h1 h2
 refine⟨by simp[I.len],λi c e=>?_,Reps.mono (λa _ z=>zz a z) (λ_ _ _ e=>e) _ _ I.pend,?_,λp hp=>?_,I.st.mono (λa _ z=>zz a z) (λ_ _ _ e=>e) (λ_ _ _ e=>e) (λa _ z=>?_) (λ_ _ _ e=>e),I.gz,I.fr,I.z0⟩
 ·rw [xQ] at e;obtain⟨u,e1,e2⟩:=I.slot _ c e
  refine⟨u,by rw[xQ];exact e1,?_⟩
  cases c with
  |own fs=>
   obtain⟨a,xs,q1,q2,q3,q4⟩:=e2
   exact⟨a,xs,q1,zK.mpr ⟨_,zL.mpr ⟨q2,by simp⟩,by simp⟩,q3,Reps.mono (λa _ z=>zz a z) (λ_ _ _ e=>e) _ _ q4⟩
  |non=>exact Rep.mono (λa _ z=>zz a z) (λ_ _ _ e=>e) _ _ e2
  |bl _=>exact Rep.mono (λa _ z=>zz a z) (λ_ _ _ e=>e) _ _ e2
  |int _=>exact Rep.mono (λa _ z=>zz a z) (λ_ _ _ e=>e) _ _ e2
  |str _=>exact Rep.mono (λa _ z=>zz a z) (λ_ _ _ e=>e) _ _ e2
  |ty _=>exact Rep.mono (λa _ z=>zz a z) (λ_ _ _ e=>e) _ _ e2
  |tup _=>exact Rep.mono (λa _ z=>zz a z) (λ_ _ _ e=>e) _ _ e2
  |lst _=>exact Rep.mono (λa _ z=>zz a z) (λ_ _ _ e=>e) _ _ e2
  |st=>exact Rep.mono (λa _ z=>zz a z) (λ_ _ _ e=>e) _ _ e2
  |fz _=>exact Rep.mono (λa _ z=>zz a z) (λ_ _ _ e=>e) _ _ e2
  |dic=>exact Rep.mono (λa _ z=>zz a z) (λ_ _ _ e=>e) _ _ e2
  |dct _ _=>exact Rep.mono (λa _ z=>zz a z) (λ_ _ _ e=>e) _ _ e2
  |rf _=>exact Rep.mono (λa _ z=>zz a z) (λ_ _ _ e=>e) _ _ e2
 ·rw [xV, List.pairwise_filter];refine I.nd.imp λ{p q} h hp hq=>⟨λz=>h.1 ?_,h.2⟩
  have a1:m<=p.1:=by simpa using hp
  have a2:m<=q.1:=by simpa using hq
  have z':p.1-m=q.1-m:=z;lia
 ·obtain⟨q,hq,rfl⟩:=zK.mp hp;exact I.fresh q (zL.mp hq).1
 ·rcases z with z | ⟨p, hp, e, hl⟩
  ·exact .inl z
  ·exact .inr ⟨_,zO (zL.mpr ⟨hp,by simpa using zw hm hl⟩),e,by simp;lia⟩
def AmO.back{m:Nat}{rho':Rho}{sg':St}(I:AmO A os n rho' sg' H ds vs)(h1:rho'.drop m=rho)(h2:sg'.drop m=sg):∃os',AmO A os' n rho sg H ds vs:=by
 by_cases hm:m<=rho'.length
 ·exact I.backX h1 h2 hm
 ·have e1 : rho = [] := by rw [<- h1]; exact List.drop_of_length_le w5
  have e2:sg=[]:=by rw[<- h2];exact List.drop_of_length_le (by have:=I.len;lia)
  subst e1 e2
  refine⟨os,rfl,λi c e=>by simp at e,I.pend,I.nd,I.fresh,I.st.mono (λ_ _ z=>z) (λ_ _ _ e=>e) (λ_ _ _ e=>e) (λa _ z=>?_) (λ_ _ _ e=>e),I.gz,I.fr,I.z0⟩
  rcases z with z |⟨p,hp,e,_⟩
  ·exact .inl z
  ·exact .inr ⟨p,hp,e,wZ _⟩
end
abbrev TGD:=D->Rho->(Rho->Prop)->Prop
abbrev zs1:=List D->Rho->(Rho->Prop)->Prop
def gOf(A:AC)(m:Nat)(g:TGD):TG:=λv sg H Q=>∃rho n P d ds vs,Am A n rho sg H (d::ds) (v::vs)/\g d rho P/\∀rho' sg',Am A n rho' sg' H ds vs->sg'.drop m=sg.drop m->P rho'->Q sg' H
def xC1(A:AC)(m:Nat)(g:zs1):TGs:=λus sg H Q=>∃rho n P es ds vs,Am A n rho sg H (es++ds) (us++vs)/\us.length=es.length/\g es rho P/\∀rho' sg',Am A n rho' sg' H ds vs->sg'.drop m=sg.drop m->P rho'->Q sg' H
@[irreducible] def PGD(A:AC)(X:Cx)(m:Nat)(tg:Expr)(g:TGD):Prop:=PG X tg (gOf A m g)
@[irreducible] def xa5(A:AC)(X:Cx)(m:Nat)(tg:List Expr)(g:zs1):Prop:=PGs X tg (xC1 A m g)
def PG.imp{X:Cx}{tg:Expr}{g g':TG}(h:PG X tg g)(hi:∀v sg H Q,g' v sg H Q->g v sg H Q):PG X tg g':=λpins s sg H v u Q I r q=>h pins s sg H v u Q I r (hi _ _ _ _ q)
def PGs.imp{X:Cx}{tg:List Expr}{g g':TGs}(h:PGs X tg g)(hi:∀v sg H Q,g' v sg H Q->g v sg H Q):PGs X tg g':=λpins s sg H v u Q I r q=>h pins s sg H v u Q I r (hi _ _ _ _ q)
section
variable {A:AC}{X:Cx}{m:Nat}{pos:Pos}
def KG(i:Nat):TGD:=λd rho P=>i<rho.length/\P (rho.set i (some d))
def wy{i:Nat}{x:Str}(hN:X.N.Nodup)(hi:X.N[i]?=some x)(hx:Loc X.env.scope x)(hm:i<m)(hf:X.fn x=true\/X.env.scope.names.lookup x=some .local:=by first |exact .inl rfl |exact .inr rfl |assumption):PGD A X m (.Name x pos) (KG i):=by
 exists 
   (zB7 hN hi hx hf).imp λv sg H Q h => by
    obtain⟨rho,n,P,d,ds,vs,⟨os,I⟩,⟨hl,k⟩,hQ⟩:=h;refine hQ (rho.set i (some d)) (sg.set i (some v)) ⟨_,I.set hl⟩ ?_ k;rw[List.drop_set_of_lt hm]
def zT5:zs1:=λes rho P=>es=[]/\P rho
def zv3(g:TGD)(gs:zs1):zs1:=λes rho P=>∃d r,es=d::r/\g d rho λrho'=>gs r rho' P
def jC:xa5 A X m [] zT5:=by
 exists zB6.imp λus sg H Q h=>by
   obtain⟨rho,n,P,es,ds,vs,I,hl,⟨rfl,k⟩,hQ⟩:=h;have e:us=[]:=wn.mp hl;subst e;exact⟨rfl,hQ rho sg I rfl k⟩
def yU{e:Expr}{es:List Expr}{g:TGD}{gs:zs1}(h1:PGD A X m e g)(h2:xa5 A X m es gs)(hs:(assignEach (e::es) X.env).map (·.2)=assign e X.env::(assignEach es X.env).map (·.2):=by rfl):xa5 A X m (e::es) (zv3 g gs):=by
 exists 
   (zm6 h1 h2 hs).imp λus sg H Q h => by
    obtain⟨rho,n,P,es',ds,vs,I,hl,⟨d,r,rfl,k⟩,hQ⟩:=h
    cases us with
    |nil=>simp at hl
    |cons u us=>
     refine⟨u,us,rfl,⟨rho,n,_,d,r++ds,us++vs,I,k,λrho' sg' I' e1 k'=>⟨rho',n,P,r,ds,vs,I',by simpa using hl,k',λrho2 sg2 I2 e2 k2=>hQ rho2 sg2 I2 (e2.trans e1) k2⟩⟩⟩
def zT4(k:Nat)(gs:zs1):TGD:=λd rho P=>∃es,d=.tup es/\es.length=k/\gs es rho P
def ZU{es:List Expr}{k:Nat}{gs:zs1}{kt:Nat}(hK:X.K=A.K)(hc:X.calm=true)(h:xa5 A X m es gs)(hn:(assignEach es X.env).length=k:=by rfl)(hst:(assignEach es X.env).findIdx? (·.1)=none:=by rfl):PGD A X m (.Tuple es kt pos) (zT4 k gs):=by
 exists 
   (zO2 (n := k) hc h hn hst).imp λv sg H Q h => by
    obtain⟨rho,n,P,d,ds,vs,⟨os,I⟩,⟨fs,rfl,hl,q⟩,hQ⟩:=h;obtain⟨J,r⟩:=I.pop;obtain⟨a,xs,rfl,sq,rs⟩:=r.tup_inv;have hx:=rs.length;rw[hK]
    exact⟨a,xs,rfl,sq.sq,by rw[hx];exact hl,rho,n,P,fs,ds,vs,⟨os,J.join rs⟩,hx,q,hQ⟩
end
abbrev TID:=Rho->Nat->(List D->Nat->Prop)->Prop
def JIs(A:AC)(J:It)(es:List D)(ws:List V)(items:List D):Prop:=∀n rho sg H ds vs i,Am A n rho sg H (es++ds) (ws++vs) ->
 (∀d,items[i]?=some d->J.go i H/\∀x H',J.yld i H x H'->Am A n rho sg H' (d::(es++ds)) (x::(ws++vs)))/\(items.length<=i->J.stop i H)
def iOf(A:AC)(it:TID):TI:=λsg H R=>∃rho n P ds vs,Am A n rho sg H ds vs/\it rho n P/\∀J H' n' items es ws,Am A n' rho sg H' (es++ds) (ws++vs)->ws.length=es.length->JIs A J es ws items->P items n'->R J H'
@[irreducible] def PID(A:AC)(X:Cx)(tg iter:Expr)(it:TID):Prop:=PI X tg iter (iOf A it)
def PI.imp{X:Cx}{tg e:Expr}{t t':TI}(h:PI X tg e t)(hi:∀sg H Q,t' sg H Q->t sg H Q):PI X tg e t':=λpins s sg H Q I q=>h pins s sg H Q I (hi _ _ _ q)
section
variable {A:AC}{X:Cx}{tg a b:Expr}{ta tb:TD}{pos p:Pos}{t1:TAD}
def VG(lo:Int)(k:Nat):List D:=(List.range k).map fun(i:Nat)=>D.int (lo+(i:Int))
def zT1(t:TAD):TID:=λrho n P=>t rho n λes n1=>∃j:Int,es=[.int j]/\-(2^62)<=j/\j<2^62/\P (VG 0 j.toNat) n1
def zF8{lo:Int}{k:Nat}:JIs A (Itr lo k) [] [] (VG lo k):=λn2 rho2 sg2 H2 ds2 vs2 i ⟨os2,I2⟩=>by
 refine⟨λd e=>?_,λhi=>?_⟩
 ·unfold VG at e;rw[zB] at e
  cases q:(List.range k)[i]? with
  |none=>rw[q] at e;cases e
  |some j=>
   rw[q] at e;cases e;have hj:=zP.mp q;obtain⟨hlt,ej⟩:=hj;rw[List.getElem_range] at ej;subst ej
   refine⟨(show i<k by simpa using hlt),λx H3 y=>?_⟩
   obtain⟨e3,e4⟩:=y;subst e3 e4;exact⟨os2,I2.push (Rep.ofS (d:=.int (lo+i)) rfl)⟩
 ·unfold VG at hi
  exact(show k<=i by simpa using hi)
def XB(hm:X.mg "range" = none)(ha:PAD A X [a] t1)(hg:Gl X "range" := by rfl)(hs:starEach [a] X.env=[(false,eval a X.env)]:=by rfl):PID A X tg (.Call (.Name "range" p) [a] [] pos) (zT1 t1):=by
 exists 
   (QV hg hm ha hs).imp λsg H R h => by
    obtain⟨rho,n,P,ds,vs,I,ht,hQ⟩:=h;refine⟨rho,n,_,ds,vs,I,ht,λws H' n' es' ⟨os,J⟩ hl k=>?_⟩;obtain⟨j,rfl,h1,h2,k⟩:=k;obtain⟨J1,rs⟩:=J.split hl;obtain⟨v,rfl,r⟩:=kC rs
    exact⟨j,by rw[r.int_inv],h1,h2,hQ _ H' n' _ [] [] ⟨os,J1⟩ rfl zF8 k⟩
def Wk:D->Option (Bool × List D)
 |.lst es=>some (true,es)
 |.tup es=>some (false,es)
 |_=>none
def zw6(xs ys:List D):List D:=List.zipWith (λx y=>D.tup [x,y]) xs ys
def xn5(t:TAD):TID:=λrho n P=>t rho n λes n1=>∃d1 d2 b1 xs b2 ys,es=[d1,d2]/\Wk d1=some (b1,xs)/\Wk d2=some (b2,ys)/\P (zw6 xs ys) n1
end
section
variable {A:AC}{X:Cx}{tg iter elt:Expr}{ifs:List Expr}{scope:Scope}{own M:List Str}{pos:Pos}{it:TID}{g:TGD}{tt:TBD}{te:TD}
def JL(it:TID)(own:Nat)(g:TGD)(tt:TBD)(te:TD):TD:=λrho n P=>it rho n λitems n1=>items.length<=sizeLine/\∃J:Nat->List D->Nat->Prop,J 0 [] n1 /\
 (∀i d acc n,items[i]?=some d->J i acc n->g d (replicate own none++rho) λrho'=>rho'.drop own=rho/\tt rho' n λc n2=>if c=true then te rho' n2 λe n3=>J (i+1) (acc++[e]) n3 else J (i+1) acc n2) /\
 ∀acc n,J items.length acc n->P (.lst acc) n
def zJ3:TBD:=λ_ n P=>P true n
def PTs.imp{X:Cx}{e:List Expr}{t t':TT}(h:PTs X e t)(hi:∀sg H Q,t' sg H Q->t sg H Q):PTs X e t':=by exists λpins s sg H Q I q=>h pins s sg H Q I (hi _ _ _ q)
def yP{X:Cx}:PTs X [] (Vt A zJ3):=by
 exists zz8.imp λsg H Q h=>by
   obtain⟨rho,n,P,ds,vs,I,ht,hQ⟩:=h;exact hQ true H n I ht
def Qn{sg:St}{H:Hp}{Q:VK}{m:Nat}{rho:Rho}{n:Nat}{P:D->Nat->Prop}{ds:List D}{vs:List V}(I:Am A n rho sg H ds vs)(ht:JL it m g tt te rho n P)
  (hQ:∀os n' H' fs xs p,AmO A os n' rho sg H' ds vs->Reps A.K A.G (Zof A os) H' fs xs->H' p=none->P (.lst fs) n'->Q (.ref p) (upd H' p (.lst xs))):zj7 (iOf A it) m (gOf A m g) (Vt A tt) (tOf A te) sg H Q:=by
 refine⟨rho,n,_,ds,vs,I,ht,λJ H' n' items es ws I1 hl hJ k=>?_⟩;obtain⟨hsz,W,w0,turn,fin⟩:=k
 refine⟨λi mm acc H=>mm=items.length-i/\i<=items.length/\acc.length<=i/\∃accD n,acc.length=accD.length/\Am A n rho sg H (es++(accD++ds)) (ws++(acc++vs))/\W i accD n,
  ⟨items.length,rfl,wZ _,zd _,[],n',rfl,I1,w0⟩,?_⟩
 rintro i mm acc H3 ⟨rfl,hi,hai,accD,n3,hal,⟨os,I3⟩,w3⟩;obtain⟨j1,j2⟩:=hJ n3 rho sg H3 (accD++ds) (acc++vs) i ⟨os,I3⟩
 by_cases hlt:i<items.length
 ·refine .inr ⟨(j1 items[i] (by simp [hlt])).1, by lia, λx H4 y => ?_⟩
  obtain⟨os4,I4⟩:=(j1 items[i] (by simp[hlt])).2 x H4 y
  refine⟨replicate m none++rho,n3,_,items[i],es++(accD++ds),ws++(acc++vs),⟨_,I4.front m⟩,turn i items[i] accD n3 (by simp[hlt]) w3,λrho' sg' ⟨os5,I5⟩ e5 k5=>?_⟩
  obtain⟨k5,k6⟩:=k5
  have e6:sg'.drop m=sg:=by rw[e5,yg (by simp)]
  refine⟨e6,rho',n3,_,es++(accD++ds),ws++(acc++vs),⟨os5,I5⟩,k6,λc H6 n6 ⟨os6,I6⟩ k7=>?_⟩
  cases c with
  |false=>
   obtain⟨os7,I7⟩:=I6.back k5 e6
   exact⟨items.length-(i+1),w5,rfl,hlt,w5,accD,n6,hal,⟨os7,I7⟩,k7⟩
  |true=>
   rw[if_pos rfl] at k7 ⊢;refine⟨rho',n6,_,es++(accD++ds),ws++(acc++vs),⟨os6,I6⟩,k7,λv H8 n8 d ⟨os8,I8⟩ k8=>?_⟩;obtain⟨os9,I9⟩:=I8.back k5 e6;obtain⟨I10,rv⟩:=I9.pop;obtain⟨I11,r1⟩:=I10.split hl;obtain⟨I12,r2⟩:=I11.split hal
   refine⟨items.length-(i+1),w5,rfl,hlt,by rw[zm,List.length_singleton];lia,accD++[d],n8,by simp[hal],⟨os9,(I12.join (r2.append (.cons rv .nil))).join r1⟩,k8⟩
 ·have e : i = items.length := by lia
  subst e;refine .inl ⟨j2 (zd _),zw hai hsz,λD hD=>?_⟩;obtain⟨I4,r1⟩:=I3.split hl;obtain⟨I5,r2⟩:=I4.split hal;exact hQ os n3 _ accD acc D I5 r2 hD (fin accD n3 w3)
def UW{sg:St}{H:Hp}{Q:VK}{m:Nat}(h:tOf A (JL it m g tt te) sg H Q):zj7 (iOf A it) m (gOf A m g) (Vt A tt) (tOf A te) sg H Q:=by
 obtain⟨rho,n,P,ds,vs,I,ht,hQ⟩:=h;exact Qn I ht λos n' H' fs xs p J r hp k=>hQ _ _ n' _ ⟨os,J.newLst r hp⟩ k
def kh(ok:CompOk X scope M)(hc:X.calm=true)(hi:PID A X tg iter it)(hg:∀C s2 H2 fp,PGD A (xZ X scope own M C s2 H2 fp) own.length tg g)(ht:∀C s2 H2 fp,PTs (xZ X scope own M C s2 H2 fp) ifs (Vt A tt))
  (he:∀C s2 H2 fp,PD A (xZ X scope own M C s2 H2 fp) elt te) (hs:∀x,foldedSetIterable iter X.env x=pure x:=by intro _;rfl):PD A X (.ListComp elt [⟨tg,iter,ifs,0⟩] scope pos) (JL it own.length g tt te):=by
 exists 
   (zC2 ok hc hi hg ht he hs).imp λ_ _ _=>UW
end
structure EndsD where
 nx:Rho->Nat->Prop
 rt:D->Nat->Prop
 bk:Rho->Nat->Prop:=λ_ _=>False
 ct:Rho->Nat->Prop:=λ_ _=>False
abbrev TSD:=EndsD->Rho->Nat->Prop
structure EOk(A:AC)(E:Ends)(F:EndsD)(ds:List D)(vs:List V):Prop where
 nx:∀rho n sg H,Am A n rho sg H ds vs->F.nx rho n->E.nx sg H
 rt:∀d n v rho sg H,Am A n rho sg H (d::ds) (v::vs)->F.rt d n->E.rt v H
 bk:∀rho n sg H,Am A n rho sg H ds vs->F.bk rho n->E.bk sg H
 ct:∀rho n sg H,Am A n rho sg H ds vs->F.ct rho n->E.ct sg H
def sOf(A:AC)(t:TSD):TS:=λE sg H=>∃rho n F ds vs,Am A n rho sg H ds vs/\t F rho n/\EOk A E F ds vs
@[irreducible] def PSD(A:AC)(X:Cx)(s:Stmt)(t:TSD):Prop:=PS X s (sOf A t)
@[irreducible] def JX(A:AC)(X:Cx)(s:List Stmt)(t:TSD):Prop:=PSs X s (sOf A t)
section
variable {A:AC}{X:Cx}{st:Stmt}{rest:List Stmt}{t u:TSD}{e a b:Expr}{te:TD}{tc:TBD}{pos:Pos}
def zk5:TSD:=λF rho n=>F.nx rho n
def zW0(t u:TSD):TSD:=λF rho n=>t { F with nx:=u F } rho n
def yS:JX A X [] zk5:=by
 exists zA1.imp λE sg H h=>by
   obtain⟨rho,n,F,ds,vs,I,ht,ok⟩:=h;exact ok.nx _ _ _ _ I ht
def zV(h1:PSD A X st t)(h2:JX A X rest u):JX A X (st::rest) (zW0 t u):=by
 exists (Kj h1 h2).imp λE sg H h=>by
   obtain⟨rho,n,F,ds,vs,I,ht,ok⟩:=h;exact⟨rho,n,{ F with nx:=u F },ds,vs,I,ht,⟨λrho' n' sg' H' I' k=>⟨rho',n',F,ds,vs,I',k,ok⟩,ok.rt,ok.bk,ok.ct⟩⟩
def xk(h1:PSD A X st t):JX A X [st] t:=by exists zA0 h1
def xc4(te:TD):TSD:=λF rho n=>te rho n F.rt
def wG(he:PD A X e te):PSD A X (.Return (some e) pos) (xc4 te):=by
 exists (zN7 he).imp λE sg H h=>by
   obtain⟨rho,n,F,ds,vs,I,ht,ok⟩:=h;exact⟨rho,n,_,ds,vs,I,ht,λv H' n' d I' k=>ok.rt _ _ _ _ _ _ I' k⟩
def sIf(c:TBD)(t u:TSD):TSD:=λF rho n=>c rho n λb n1=>if b=true then t F rho n1 else u F rho n1
def kf{c:Expr}{sa sb:List Stmt}(hc:PTD A X c tc)(ha:JX A X sa t)(hb:JX A X sb u):PSD A X (.If c sa sb pos) (sIf tc t u):=by
 exists (xl4 hc ha hb).imp λE sg H h=>by
   obtain⟨rho,n,F,ds,vs,I,ht,ok⟩:=h;refine⟨rho,n,_,ds,vs,I,ht,λc H' n' J k=>?_⟩
   cases c with
   |true=>exact⟨rho,n',F,ds,vs,J,k,ok⟩
   |false=>exact⟨rho,n',F,ds,vs,J,k,ok⟩
def xc3(i:Nat)(te:TD):TSD:=λF rho n=>i<rho.length/\te rho n λd n1=>F.nx (rho.set i (some d)) n1
def yJ{i:Nat}{x:Str}{pos':Pos}(hN:X.N.Nodup)(hi:X.N[i]?=some x)(hx:Loc X.env.scope x)(he:PD A X e te)(hs:swapsWith e (some (.Name x pos')) pos.line X.env=pure false:=by rfl)(hf:X.fn x=true\/X.env.scope.names.lookup x=some .local:=by first |exact .inl rfl |exact .inr rfl |assumption) :
  PSD A X (.Assign [.Name x pos'] e pos) (xc3 i te):=by
 exists (QP hN hi hx he hs hf).imp λE sg H h=>by
   obtain⟨rho,n,F,ds,vs,I,⟨hl,ht⟩,ok⟩:=h;exact⟨rho,n,_,ds,vs,I,ht,λv H' n' d ⟨os,J⟩ k=>ok.nx _ _ _ _ ⟨_,J.set hl⟩ k⟩
def jf{i:Nat}{x:Str}{pos' spos:Pos}{tg iter elt:Expr}{ifs:List Expr}{scope:Scope}{own M:List Str}{it:TID}{g:TGD}{tt:TBD}(hN:X.N.Nodup)(hix:X.N[i]?=some x)(hx:Loc X.env.scope x)(ok:CompOk X scope M)(hc:X.calm=true)(hi:PID A X tg iter it)
  (hg:∀C s2 H2 fp,PGD A (xZ X scope own M C s2 H2 fp) own.length tg g) (ht:∀C s2 H2 fp,PTs (xZ X scope own M C s2 H2 fp) ifs (Vt A tt)) (he:∀C s2 H2 fp,PD A (xZ X scope own M C s2 H2 fp) elt te)
  (hsw:swapsWith (.ListComp elt [⟨tg,iter,ifs,0⟩] scope pos) (some (.Name x pos')) spos.line X.env=pure true:=by rfl) (hf:X.fn x=true\/X.env.scope.names.lookup x=some .local:=by first |exact .inl rfl |exact .inr rfl |assumption)
  (hs:∀x,foldedSetIterable iter X.env x=pure x:=by intro _;rfl):PSD A X (.Assign [.Name x pos'] (.ListComp elt [⟨tg,iter,ifs,0⟩] scope pos) spos) (xc3 i (JL it own.length g tt te)):=by
 exists 
   (Jm hN hix hx ok hc hi hg ht he hsw hf hs).imp λE sg H h => by
    obtain⟨rho,n,F,ds,vs,I,⟨hl,ht⟩,ok⟩:=h;exact UW (A:=A) ⟨rho,n,_,ds,vs,I,ht,λv H' n' d ⟨os,J⟩ k=>ok.nx _ _ _ _ ⟨_,J.set hl⟩ k⟩
def xp4(te:TD)(g:TGD):TSD:=λF rho n=>te rho n λd n1=>g d rho λrho'=>F.nx rho' n1
def zA2{tg:Expr}{g:TGD}{m:Nat}(he:PD A X e te)(hg:PGD A X m tg g)(hs:swapsWithSole [tg] e pos.line X.env=pure false:=by rfl)(hw:swappedStores [tg] e X.env=pure none:=by rfl)
  (h1:(assignEach [tg] X.env).map (·.2)=[assign tg X.env]:=by rfl):PSD A X (.Assign [tg] e pos) (xp4 te g):=by
 exists (zt7 he hg hs hw h1).imp λE sg H h=>by
   obtain⟨rho,n,F,ds,vs,I,ht,ok⟩:=h;exact⟨rho,n,_,ds,vs,I,ht,λv H' n' d J k=>⟨rho,n',_,d,ds,vs,J,k,λrho' sg' J' _ k'=>ok.nx _ _ _ _ J' k'⟩⟩
def zW1(i j:Nat)(t:TAD):TSD:=λF rho n=>i<rho.length/\j<rho.length/\t rho n λes n1=>∃d d',es=[d,d']/\F.nx ((rho.set i (some d)).set j (some d')) n1
def zA3{i j:Nat}{x y:Str}{ta:TAD}{px py pt:Pos}{kt k2 pt2}(hc:X.calm=true)(hN:X.N.Nodup)(hi:X.N[i]?=some x)(hj:X.N[j]?=some y)(hij:i≠j)
  (hx:X.env.scope.names.lookup x=some .local) (hy:X.env.scope.names.lookup y=some .local) (ha:PAD A X [a,b] ta)
  (hw:swappedStores [.Tuple [.Name x px,.Name y py] kt pt] (.Tuple [a,b] k2 pt2) X.env=pure (some [x,y]):=by rfl)
  (hs:swapsWithSole [.Tuple [.Name x px,.Name y py] kt pt] (.Tuple [a,b] k2 pt2) pos.line X.env=pure false:=by rfl) :
  PSD A X (.Assign [.Tuple [.Name x px,.Name y py] kt pt] (.Tuple [a,b] k2 pt2) pos) (zW1 i j ta):=by
 exists (zN8 hc hN hi hj hij hx hy ha hw hs).imp λE sg H h=>by
   obtain⟨rho,n,F,ds,vs,I,⟨hl,hl2,ht⟩,ok⟩:=h;refine⟨rho,n,_,ds,vs,I,ht,λws H' n' es ⟨os,J⟩ hlen k=>?_⟩;obtain⟨d,d',rfl,k⟩:=k;obtain⟨J1,rs⟩:=J.split hlen;obtain⟨v,v',rfl,r,r'⟩:=QB rs;refine⟨v,v',rfl,ok.nx _ _ _ _ ?_ k⟩;have J2:AmO A os n' rho sg H' (d::d'::ds) (v::v'::vs):=(J1.push r').push r
   exact⟨_,(J2.set hl).set (by simpa using hl2)⟩
def xp7(it:TID)(g:TGD)(tb:TSD):TSD:=λF rho n=>it rho n λitems n1=>∃J:Nat->Rho->Nat->Prop,J 0 rho n1 /\
 (∀i d rho n,items[i]?=some d->J i rho n->g d rho λrho'=>tb { F with nx:=J (i+1),ct:=J (i+1),bk:=F.nx } rho' n)/\∀rho n,J items.length rho n->F.nx rho n
def XA{tg iter:Expr}{body:List Stmt}{it:TID}{g:TGD}{tb:TSD}{m:Nat}(hp:PassesOwn (model X.prog X.w) X.A X.env X.xe)(hc:X.calm=true)(hi:PID A X tg iter it)(hg:PGD A X m tg g)(hb:JX A X body tb)
  (hs:∀x,foldedSetIterable iter X.env x=pure x:=by intro _;rfl):PSD A X (.For tg iter body [] pos) (xp7 it g tb):=by
 exists (zN9 hp hc hi hg hb hs).imp λE sg H h=>by
   obtain⟨rho,n,F,ds,vs,I,ht,ok⟩:=h;refine⟨rho,n,_,ds,vs,I,ht,λJ H' n' items es ws I1 hl hJ k=>?_⟩;obtain⟨W,w0,turn,fin⟩:=k;refine⟨λi mm sg H=>mm=items.length-i/\i<=items.length/\∃rho n,Am A n rho sg H (es++ds) (ws++vs)/\W i rho n,⟨items.length,rfl,wZ _,rho,n',I1,w0⟩,?_⟩;rintro i mm sg3 H3 ⟨rfl,hi,rho3,n3,I3,w3⟩;obtain⟨j1,j2⟩:=hJ n3 rho3 sg3 H3 ds vs i I3
   by_cases hlt:i<items.length
   ·refine .inr ⟨(j1 items[i] (by simp [hlt])).1, λsg' H' => ∃ rho n, Am A n rho sg' H' (es ++ ds) (ws ++ vs) /\ W (i + 1) rho n, λsg' H' ⟨rho', n', I', w'⟩ => ⟨items.length - (i + 1), by lia, rfl, hlt, rho', n', I', w'⟩, λx H4 y => ?_⟩
    have I4:=(j1 items[i] (by simp[hlt])).2 x H4 y
    refine⟨rho3,n3,_,items[i],es++ds,ws++vs,I4,turn i items[i] rho3 n3 (by simp[hlt]) w3,λrho' sg' I5 _ k5=>⟨rho',n3,{ F with nx:=W (i+1),ct:=W (i+1),bk:=F.nx },es++ds,ws++vs,I5,k5,?_⟩⟩
    refine⟨λrho6 n6 sg6 H6 I6 k6=>⟨rho6,n6,I6,k6⟩,λd n6 v rho6 sg6 H6 ⟨os6,I6⟩ k6=>ok.rt _ _ _ _ _ _ ⟨os6,I6.under hl⟩ k6,λrho6 n6 sg6 H6 ⟨os6,I6⟩ k6=>ok.nx _ _ _ _ ⟨os6,(I6.split hl).1⟩ k6,λrho6 n6 sg6 H6 I6 k6=>⟨rho6,n6,I6,k6⟩⟩
   ·have e : i = items.length := by lia
    subst e;obtain⟨os,I3⟩:=I3;exact .inl ⟨j2 (zd _),ok.nx _ _ _ _ ⟨os,(I3.split hl).1⟩ (fin rho3 n3 w3)⟩
def zx9(te:TD):TSD:=λF rho n=>te rho n λ_ n1=>F.nx rho n1
def jz(he:PD A X e te)(hs:swapsWith e none pos.line X.env=pure false:=by rfl):PSD A X (.Expr e pos) (zx9 te):=by
 exists (QR he hs).imp λE sg H h=>by
   obtain⟨rho,n,F,ds,vs,I,ht,ok⟩:=h;exact⟨rho,n,_,ds,vs,I,ht,λv H' n' d ⟨os,J⟩ k=>ok.nx _ _ _ _ ⟨os,J.pop.1⟩ k⟩
def Cof.cons{A:AC}{os:List (Nat × Addr)}{m:Nat}{q:Nat × Addr}{a:Addr}(z:Cof A os m a):Cof A (q::os) m a:=by
 rcases z with z |⟨p,hp,e⟩
 ·exact .inl z
 ·exact .inr ⟨p,zk _ hp,e⟩
def AmO.setOwn{os:List (Nat × Addr)}{n:Nat}{rho:Rho}{sg:St}{H:Hp}{ds es:List D}{vs xs:List V}{i:Nat}{p:Addr}(I:AmO A os n rho sg H ds vs)(hi:i<rho.length)(hp:H p=none)(r:Reps A.K A.G (Zof A os) H es xs) :
  ∃os',AmO A os' n (rho.set i (some (.own es))) (sg.set i (some (.ref p))) (upd H p (.lst xs)) ds vs:=by
 have hf:∀a u,H a=some u->upd H p (.lst xs) a=some u:=λa u e=>by rw[wr (yV e hp)];exact e
 refine⟨(i,p)::os.filter λq=>decide (q.1≠i),?_⟩
 have zz:∀a,H a≠none->Zof A ((i,p)::os.filter λq=>decide (q.1≠i)) a->Zof A os a:=λa ha z=>by
  rcases z with z |⟨q,hq,e⟩
  ·exact .inl z
  ·rcases zh.mp hq with rfl | hq
   ·exact absurd (by rw[<- e];exact hp) ha
   ·exact .inr ⟨q,(zL.mp hq).1,e⟩
 have h0:A.H0 p=none:=by
  cases q:A.H0 p with
  |none=>rfl
  |some o=>
   by_cases e:A.G=some p
   ·obtain⟨x,y,z,w,_⟩:=I.st.1 p e;rw[w] at hp;cases hp
   ·have:=I.fr p o e q;rw[this] at hp;cases hp
 refine⟨by simp[I.len],λj c e=>?_,Reps.mono zz (λa u _ e=>hf a u e) _ _ I.pend,?_,λq hq=>?_,I.st.mono zz (λa u _ e=>hf a u e) (λa u _ e=>hf a u e) (λa _ z=>Cof.cons (Cof.filter hi z)) (λa u _ e=>hf a u e),I.gz,λa u h e=>hf a u (I.fr a u h e),I.z0⟩
 ·by_cases hj : j = i
  ·subst hj;rw[xi hi] at e;cases e
   exact⟨.ref p,xi (by rw[<- I.len];exact hi),p,xs,rfl,zo,yH,Reps.mono zz (λa u _ e=>hf a u e) _ _ r⟩
  ·rw [xz (Ne.symm hj)] at e;obtain⟨u,e1,e2⟩:=I.slot j c e
   exact⟨u,by rw[xz (Ne.symm hj)];exact e1,SlotR.mono zz (λa u _ e=>hf a u e) (λa ys m q=>⟨zk _ (zL.mpr ⟨m,by simpa using hj⟩),hf a _ q⟩) _ _ e2⟩
 ·refine xW.mpr ⟨λq hq => ?_, I.nd.filter _⟩;obtain⟨m1,m2⟩:=zL.mp hq
  refine⟨λz=>by simp[<- z] at m2,λz=>(I.fresh q m1).2.2 ?_⟩
  have z':p=q.2:=z;rw[<- z'];exact hp
 ·rcases zh.mp hq with rfl | hq
  ·exact⟨h0,λz=>I.zH p (.inl z) hp,by show upd H p _ p≠none;rw[yH];simp⟩
  ·obtain ⟨f1, f2, f3⟩ := I.fresh q (zL.mp hq).1;refine⟨f1,f2,?_⟩
   cases w:H q.2 with
   |none=>exact absurd w f3
   |some u=>rw[hf _ _ w];simp
def xp5(i:Nat)(t:TAD):TSD:=λF rho n=>i<rho.length/\t rho n λes n1=>es.length<=sizeLine/\F.nx (rho.set i (some (.own es))) n1
def zA4{i:Nat}{x:Str}{pos' pos2:Pos}{els:List Expr}{ta:TAD}(hN:X.N.Nodup)(hi:X.N[i]?=some x)(hx:Loc X.env.scope x)(ha:PAD A X els ta)(hf:X.fn x=true\/X.env.scope.names.lookup x=some .local:=by first |exact .inl rfl |exact .inr rfl |assumption)
  (hs:swapsWith (.List els pos2) (some (.Name x pos')) pos.line X.env=pure false:=by rfl):PSD A X (.Assign [.Name x pos'] (.List els pos2) pos) (xp5 i ta):=by
 exists (QP hN hi hx (zt8 ha) hs hf).imp λE sg H h=>by
   obtain⟨rho,n,F,ds,vs,I,⟨hl,ht⟩,ok⟩:=h
   refine⟨rho,n,_,ds,vs,I,ht,λws H' n' es ⟨os,J⟩ hlen k=>⟨by rw[hlen];exact k.1,λp hp=>?_⟩⟩
   obtain⟨J1,rs⟩:=J.split hlen;exact ok.nx _ _ _ _ (J1.setOwn hl hp rs) k.2
def AmO.own{os:List (Nat × Addr)}{n:Nat}{rho:Rho}{sg:St}{H:Hp}{ds es es':List D}{vs xs':List V}{i:Nat}(I:AmO A os n rho sg H ds vs)(hi:rho[i]?=some (some (.own es))) :
  ∃a xs,sg[i]?=some (some (.ref a))/\H a=some (.lst xs)/\Reps A.K A.G (Zof A os) H es xs/\∀es' xs',Reps A.K A.G (Zof A os) H es' xs'->AmO A os n (rho.set i (some (.own es'))) sg (upd H a (.lst xs')) ds vs:=by
 obtain⟨v,e1,a,xs,rfl,hm,hH,rs⟩:=I.slot i _ hi;have hil:i<rho.length:=(zP.mp hi).1;have za:Zof A os a:=.inr ⟨_,hm,rfl⟩
 have hf:∀(xs':List V) b u,¬ Zof A os b->H b=some u->upd H a (.lst xs') b=some u:=λxs' b u nz e=>by
  rw[wr λz=>nz (by rw[z];exact za)];exact e
 have uniq:∀j,(j,a)∈os->j=i:=λj hj=>by
  by_cases hji:j=i
  ·exact hji
  ·have key : ∀ (l : List (Nat × Addr)), l.Pairwise (λp q => p.1 ≠ q.1 /\ p.2 ≠ q.2) -> (j, a) ∈ l -> (i, a) ∈ l -> False := by
    intro l
    induction l with
    |nil=>intro _ h;simp at h
    |cons c l ih=>
     intro hp h1 h2;obtain⟨p1,p2⟩:=xW.mp hp
     rcases zh.mp h1 with e1 |h1<;>rcases zh.mp h2 with e2 |h2
     ·rw[<- e2] at e1;exact hji (Prod.mk.inj e1).1
     ·exact(p1 _ h2).2 (by rw[<- e1])
     ·exact(p1 _ h1).2 (by rw[<- e2])
     ·exact ih p2 h1 h2
   exact(key os I.nd hj hm).elim
 obtain⟨fa1,fa2,fa3⟩:=I.fresh _ hm
 refine⟨a,xs,e1,hH,rs,λes' xs' r=>⟨by simp[I.len],λj c e=>?_,Reps.mono (λ_ _ z=>z) (hf xs') _ _ I.pend,I.nd,λq hq=>?_,I.st.monoC (λ_ _ z=>z) (hf xs') (λc u g e=>by rw[wr λw=>fa2 (by rw[<- w];exact I.gz c g)];exact e) (λ_ _ z=>by rw[length_set];exact z) (λc u q e=>by rw[wr λw=>q (by rw[w];exact I.noOwn hil hm)];exact e),I.gz,λb u h e=>?_,I.z0⟩⟩
 ·by_cases hj : j = i
  ·subst hj;rw[xi hil] at e;cases e;exact⟨.ref a,e1,a,xs',rfl,hm,yH,Reps.mono (λ_ _ z=>z) (hf xs') _ _ r⟩
  ·rw [xz (Ne.symm hj)] at e;obtain⟨u,e2,e3⟩:=I.slot j c e
   exact⟨u,e2,SlotR.mono (λ_ _ z=>z) (hf xs') (λb ys m q=>⟨m,by rw[wr λz=>hj (uniq j (by rw[<- z];exact m))];exact q⟩) _ _ e3⟩
 ·obtain ⟨f1, f2, f3⟩ := I.fresh q hq;refine⟨f1,f2,?_⟩
  by_cases e:q.2=a
  ·rw[e,yH];simp
  ·rw[wr e];exact f3
 ·rw [wr λw => by rw [w, fa1] at e; cases e]
  exact I.fr b u h e
def AmO.freeze{os:List (Nat × Addr)}{n:Nat}{rho:Rho}{sg:St}{H:Hp}{ds es:List D}{vs:List V}{i:Nat}(I:AmO A os n rho sg H ds vs)(hi:rho[i]?=some (some (.own es))):∃os',AmO A os' n (rho.set i (some (.lst es))) sg H ds vs:=by
 obtain⟨v,e1,a,xs,rfl,hm,hH,rs⟩:=I.slot i _ hi;have hil:i<rho.length:=(zP.mp hi).1;refine⟨os.filter λq=>decide (q.1≠i),?_⟩
 have sub:∀b,H b≠none->Zof A (os.filter λp=>decide (p.1≠i)) b->Zof A os b:=λb _ z=>by
  rcases z with z |⟨p,hp,e⟩
  ·exact .inl z
  ·exact .inr ⟨p,(zL.mp hp).1,e⟩
 have key:∀(l:List (Nat × Addr)),l.Pairwise (λp q=>p.1≠q.1/\p.2≠q.2)->(i,a)∈l->∀q∈l,q.2=a->q.1=i:=by
  intro l
  induction l with
  |nil=>intro _ h;simp at h
  |cons c l ih=>
   intro hp h1 q hq hqa;obtain⟨p1,p2⟩:=xW.mp hp
   rcases zh.mp h1 with e1 |h1<;>rcases zh.mp hq with e2 |h2
   ·rw[e2,<- e1]
   ·exact absurd (by rw[<- e1,hqa]) (p1 _ h2).2
   ·exact absurd (by rw[<- e2,hqa]) (p1 _ h1).2
   ·exact ih p2 h1 q h2 hqa
 refine⟨by simp[I.len],λj c e=>?_,Reps.mono sub (λ_ _ _ e=>e) _ _ I.pend,I.nd.filter _,λp hp=>I.fresh p (zL.mp hp).1,I.st.mono sub (λ_ _ _ e=>e) (λ_ _ _ e=>e) (λa _ z=>Cof.filter hil z) (λ_ _ _ e=>e),I.gz,I.fr,I.z0⟩
 by_cases hj:j=i
 ·subst hj;rw[xi hil] at e;cases e;refine⟨.ref a,e1,Rep.lst_mk ⟨λz=>?_,hH⟩ (Reps.mono sub (λ_ _ _ e=>e) _ _ rs)⟩
  rcases z with z |⟨p,hp,e⟩
  ·exact(I.fresh _ hm).2.1 z
  ·obtain⟨m1,m2⟩:=zL.mp hp;have:=key os I.nd hm p m1 e;simp[this] at m2
 ·rw [xz (Ne.symm hj)] at e;obtain⟨u,e2,e3⟩:=I.slot j c e
  exact⟨u,e2,SlotR.mono sub (λ_ _ _ e=>e) (λb ys m q=>⟨zL.mpr ⟨m,by simpa using hj⟩,q⟩) _ _ e3⟩
def xp6(i:Nat)(t:TSD):TSD:=λF rho n=>∃es,rho[i]?=some (some (.own es))/\t F (rho.set i (some (.lst es))) n
def zA5(i:Nat)(h:PSD A X st t):PSD A X st (xp6 i t):=by
 exists PS.imp h λE sg H q=>by
   obtain⟨rho,n,F,ds,vs,⟨os,I⟩,⟨es,hi,ht⟩,ok⟩:=q;exact⟨_,n,F,ds,vs,I.freeze hi,ht,ok⟩
end
section
variable {A:AC}{X:Cx}{e a b:Expr}{es:List Expr}{te ta tb:TD}{t1:TAD}{pos:Pos}
def Qy(i:Nat)(t:TAD):TSD:=λF rho n=>∃es,rho[i]?=some (some (.own es))/\es.length<sizeLine/\t rho n λds n1=>∃d,ds=[d]/\F.nx (rho.set i (some (.own (es++[d])))) n1
def Jl{i:Nat}{x:Str}{px apos cpos:Pos}(ha:PAD A X [e] t1)(hK:X.K=A.K)(hN:X.N[i]?=some x:=by rfl)(hv:Vis X.env.scope x:=by first |exact Or.inl rfl |exact Or.inr (Or.inl rfl) |exact Or.inr (Or.inr rfl))(hd:(x == ("__debug__" : Str))=false:=by decide)
  (hcd:(x == ("__classdict__" : Str))=false:=by decide) (hbase:attributeBase (.Name x px) "append" X.env (eval (.Name x px) X.env)=eval (.Name x px) X.env:=by rfl)
  (hfew : ((backTo cpos (starEach [e] X.env)).all (λx => !x.1) && (backToKw cpos (keywordEach [] X.env)).all (λx => x.1.isSome)
   && decide ([e].length+([]:List Keyword).length+(if ([]:List Keyword).isEmpty then 0 else 1)<30))=true:=by rfl)
  (hline:(apos.endLine == cpos.line)=true:=by rfl) (hs:starEach [e] X.env=(false,eval e X.env)::starEach [] X.env:=by rfl) (hplain:(backTo cpos (starEach [] X.env)).any (·.1)=false:=by rfl)
  (hsw:swapsWith (.Call (.Attribute (.Name x px) "append" apos) [e] [] cpos) none pos.line X.env=pure false:=by rfl) :
  PSD A X (.Expr (.Call (.Attribute (.Name x px) "append" apos) [e] [] cpos) pos) (Qy i t1):=by
 exists 
   (QR (xl6 PySem.F.plainAttrs_list PySem.F.slot_list_append PySem.F.type_list_append zb3 (Kn hN hv hd hcd) ha hbase hfew hline hs hplain) hsw).imp λE sg H h => by
    obtain⟨rho,n,F,ds,vs,⟨os,I⟩,⟨es,hi,hz,ht⟩,ok⟩:=h;obtain⟨a,xs,e1,hH,rs,_⟩:=I.own (es':=es) (xs':=[]) hi;refine⟨.ref a,e1,.inl ⟨rfl,xs,SqL.of hH⟩,rho,n,_,ds,vs,⟨os,I⟩,ht,λws H' n' fs ⟨os',J⟩ hl k=>?_⟩;obtain⟨d,rfl,k⟩:=k;obtain⟨J1,rs1⟩:=J.split hl;obtain⟨v,rfl,r⟩:=kC rs1;obtain⟨a',xs',e2,hH',rs',up⟩:=J1.own (es':=es) (xs':=[]) hi;rw[e1] at e2;cases e2
    exact⟨a,xs',v,rfl,rfl,hH',by rw[rs'.length];exact hz,ok.nx _ _ _ _ ⟨os',up _ _ (rs'.append (.cons r .nil))⟩ k⟩
def ZX(o:Option (Option D))(p:List D->Prop):Prop:=∃es,o=some (some (.own es))/\p es
def zU5(i:Nat)(tb:TD):TD:=λrho n P=>ZX rho[i]? λes=>tb rho n λd n1=>∃j c,d=.int j/\atI es j=some c/\P c n1
def zx6(i:Nat)(te tb:TD):TSD:=λF rho n=>ZX rho[i]? λes=>te rho n λd n1=>tb rho n1 λd2 n2=>∃j m,d2=.int j/\ixN es.length j=some m/\F.nx (rho.set i (some (.own (es.set m d)))) n2
def zU1(i:Nat)(tb:TD):TD:=λrho n P=>rho[i]?=some (some .st)/\tb rho n λd n1=>∃j:Int,d=.int j/\0<=j/\j<kOf n1/\∀z:Int,0<=z->(j=1->z<2147483647)->P (.int z) n1
def zv1{n:Nat}{i:Int}(h0:0<=i)(h1:i<n):ixN n i=some i.toNat:=by unfold ixN;rw[if_pos h0,if_pos h1]
def jW{i:Nat}{x:Str}{px:Pos}(hb:PD A X b tb)(hpl:UI b)(hN:X.N[i]?=some x:=by rfl)(hv:Vis X.env.scope x:=by first |exact Or.inl rfl |exact Or.inr (Or.inl rfl) |exact Or.inr (Or.inr rfl))(hd:(x == ("__debug__" : Str))=false:=by decide)
  (hcd:(x == ("__classdict__" : Str))=false:=by decide):PD A X (.Subscript (.Name x px) b pos) (zU1 i tb):=by
 exists 
   (zO8 zd6 (Kn hN hv hd hcd) hb hpl).imp λsg H Q h => by
    obtain⟨rho,n,P,ds,vs,⟨os,I⟩,⟨hi,ht⟩,hQ⟩:=h;obtain⟨v,e1,e2⟩:=I.slot i _ hi
    obtain⟨a,ha,rfl⟩:∃a,A.G=some a/\v=.ref a:=by
     have e3:=SlotR.rep (d:=.st) rfl e2;unfold Rep at e3;exact e3
    refine⟨.ref a,e1,rho,n,_,ds,vs,⟨os,I⟩,ht,λw H' n' d ⟨os',J⟩ k=>?_⟩;obtain⟨j,rfl,h0,h3,k⟩:=k;obtain⟨J1,r⟩:=J.pop;obtain⟨zs,_,_,hH,p1,p2,p3⟩:=J1.st.1 a ha;obtain⟨jn,rfl⟩:=wI h0
    have hjl:jn<zs.length:=w5
    have ej:zs[jn]?=some zs[jn]:=zj hjl
    refine⟨a,_,(jn:Int),.int zs[jn],rfl,r.int_inv,SqL.of hH,?_,hQ _ H' n' _ ⟨os',J1.push (Rep.ofS (d:=.int zs[jn]) rfl)⟩ (k zs[jn] (p2 _ (getElem_mem hjl)) λe=>p3 _ (by rw[<- ej];congr 1;lia))⟩
    unfold atI
    rw[zv1 w5 (by rw[zn];lia)]
    simp[hjl]
def zp6(zs:List Int)(j:Nat)(z:Int):(zs.map V.int).set j (.int z)=(zs.set j z).map V.int:=by rw[List.map_set]
def AmO.setSt{os:List (Nat × Addr)}{n:Nat}{rho:Rho}{sg:St}{H:Hp}{ds:List D}{vs:List V}{a:Addr}{zs:List Int}(I:AmO A os n rho sg H ds vs)(ha:A.G=some a)(h:zs.length=kOf n/\(∀x∈zs,0<=x)/\∀x,zs[1]?=some x->x<2147483647) :
  AmO A os n rho sg (upd H a (.lst (zs.map V.int))) ds vs:=by
 have za:Zof A os a:=.inl (I.gz a ha)
 have hf:∀b u,¬ Zof A os b->H b=some u->upd H a (.lst (zs.map V.int)) b=some u:=λb u nz e=>by
  rw[wr λw=>nz (by rw[w];exact za)];exact e
 have no:∀p∈os,p.2≠a:=λp hp e=>(I.fresh p hp).2.1 (by rw[e];exact I.gz a ha)
 refine⟨I.len,λj c e=>?_,Reps.mono (λ_ _ w=>w) hf _ _ I.pend,I.nd,λq hq=>?_,⟨λb e=>?_,λb c e=>?_⟩,I.gz,λb u h e=>?_,I.z0⟩
 ·obtain ⟨u, e1, e2⟩ := I.slot j c e
  exact⟨u,e1,SlotR.mono (λ_ _ w=>w) hf (λb ys m q=>⟨m,by rw[wr (no _ m)];exact q⟩) _ _ e2⟩
 ·obtain ⟨f1, f2, f3⟩ := I.fresh q hq
  exact⟨f1,f2,by rw[wr (no q hq)];exact f3⟩
 ·rw[ha] at e;cases e;exact⟨zs,0,0,yH,h⟩
 ·obtain ⟨q1, q2, q3⟩ := I.st.2 b c e
  exact⟨q1,q2,q3.mono (λ_ _ w=>w) hf λu e=>by rw[wr λw=>q2 (by rw[w];exact ha)];exact e⟩
 ·rw [wr λw => h (by rw [w]; exact ha)]
  exact I.fr b u h e
def zs9(i:Nat)(te tb:TD):TSD:=λF rho n=>rho[i]?=some (some .st)/\te rho n λd n1=>tb rho n1 λd2 n2=>∃j z:Int,d=.int z/\d2=.int j/\0<=j/\j<kOf n2/\0<=z/\(j=1->z<2147483647)/\F.nx rho n2
def Wx{i:Nat}{x:Str}{px ps:Pos}(he:PD A X e te)(hb:PD A X b tb)(hN:X.N[i]?=some x:=by rfl)(hv:Vis X.env.scope x:=by first |exact Or.inl rfl |exact Or.inr (Or.inl rfl) |exact Or.inr (Or.inr rfl))(hd:(x == ("__debug__" : Str))=false:=by decide)
  (hcd : (x == ("__classdict__" : Str)) = false := by decide) (ha : ∀ v, assign (.Subscript (.Name x px) b ps) X.env v = (do
   let ov <- holding [v] (eval (.Name x px) X.env)
   let iv <- holding [v,ov] (eval b X.env)
   standAt ps
   holding [v,ov,iv] (setItem ov iv v)
   release [v,ov,iv] []):=by intro _;rfl) (hs:swapsWithSole [.Subscript (.Name x px) b ps] e pos.line X.env=pure false:=by rfl) (hw:swappedStores [.Subscript (.Name x px) b ps] e X.env=pure none:=by rfl)
  (h1:(assignEach [.Subscript (.Name x px) b ps] X.env).map (·.2)=[assign (.Subscript (.Name x px) b ps) X.env]:=by rfl) :
  PSD A X (.Assign [.Subscript (.Name x px) b ps] e pos) (zs9 i te tb):=by
 exists 
   (zt7 he (zO3 (Kn hN hv hd hcd) hb zk1 ha) hs hw h1).imp λE sg H h => by
    obtain⟨rho,n,F,ds,vs,⟨os,I⟩,⟨hi,ht⟩,ok⟩:=h;obtain⟨v,e1,e2⟩:=I.slot i _ hi
    obtain⟨a,hG,rfl⟩:∃a,A.G=some a/\v=.ref a:=by
     have e3:=SlotR.rep (d:=.st) rfl e2;unfold Rep at e3;exact e3
    refine⟨rho,n,_,ds,vs,⟨os,I⟩,ht,λv H' n' d J k=>⟨.ref a,e1,rho,n',_,d::ds,v::vs,J,k,λw H2 n2 d2 ⟨os2,J2⟩ k2=>?_⟩⟩;obtain⟨j,z,rfl,rfl,h0,h3,hz,h2,k2⟩:=k2;obtain⟨J3,r2⟩:=J2.pop;obtain⟨J4,r1⟩:=J3.pop;obtain⟨zs,_,_,hH,p1,p2,p3⟩:=J4.st.1 a hG;rw[r1.int_inv,r2.int_inv];obtain⟨jn,rfl⟩:=wI h0
    have hjl:jn<zs.length:=w5
    refine⟨a,_,(jn:Int),jn,rfl,rfl,hH,by rw[zv1 w5 (by rw[zn];lia)];simp,?_⟩
    rw[zp6]
    refine ok.nx _ _ _ _ ⟨os2,J4.setSt hG ⟨by rw[length_set];exact p1,λx hx=>?_,λx hx=>?_⟩⟩ k2
    ·rcases List.mem_or_eq_of_mem_set hx with hx | rfl
     ·exact p2 x hx
     ·exact hz
    ·by_cases e : jn = 1
     ·subst e;rw[xi hjl] at hx;cases hx;exact h2 rfl
     ·rw[xz e] at hx;exact p3 x hx
def Yu(es:List D)(lo hi:Option Int):List D:=(es.drop (HT.sIx es.length 0 lo)).take (HT.sIx es.length es.length hi-HT.sIx es.length 0 lo)
def Xv{K:W.Frag}{G:Option Addr}{Z:Addr->Prop}{H:Hp}{fs:List D}{xs:List V}(h:Reps K G Z H fs xs)(lo hi:Option Int):Reps K G Z H (Yu fs lo hi) (zr7 xs lo hi):=by
 unfold Yu zr7;rw[h.length];exact(h.drop _).take _
def xC7(lo hi:Option Int)(ta:TD):TD:=λrho n P=>ta rho n λd n1=>∃fs,(d=.lst fs\/d=.fz fs)/\P (.lst (Yu fs lo hi)) n1
def Vb(es:List D):List D:=es.zipIdx.map λp=>.tup [.int (p.2:Nat),p.1]
def zv2(t:TAD):TID:=λrho n P=>t rho n λes n1=>∃fs,es=[.lst fs]/\P (Vb fs) n1
def zm4{ts:List Expr}{kk:Nat}{p ps:Pos}(hK:X.K=A.K)(hm:X.mg "enumerate" = none)(ha:PAD A X [a] t1)(hg:Gl X "enumerate" := by rfl)(hs:starEach [a] X.env=[(false,eval a X.env)]:=by rfl) :
  PID A X (.Tuple ts kk ps) (.Call (.Name "enumerate" p) [a] [] pos) (zv2 t1):=by
 exists (zB5 hg hm ha hs).imp λsg H R h=>by
   obtain⟨rho,n,P,ds,vs,I,ht,hQ⟩:=h;refine⟨rho,n,_,ds,vs,I,ht,λws H' n' es' ⟨os,J⟩ hl k=>?_⟩;obtain⟨fs,rfl,k⟩:=k;obtain⟨J1,rs⟩:=J.split hl;obtain⟨v,rfl,r⟩:=kC rs;obtain⟨l,xs,rfl,sq,rs1⟩:=r.lst_inv;rw[hK];refine⟨l,xs,rfl,sq.sq,hQ _ H' n' _ [.lst fs] [.ref l] ⟨os,J⟩ rfl (λn2 rho2 sg2 H2 ds2 vs2 i ⟨os2,I2⟩=>?_) k⟩;obtain⟨I3,r2⟩:=AmO.pop (d:=.lst fs) (v:=.ref l) (ds:=ds2) (vs:=vs2) I2;obtain⟨l',xs2,e,sq2,rs2⟩:=r2.lst_inv;cases e
   refine⟨λd e=>?_,λhi=>⟨xs2,sq2.sq,by rw[rs2.length];simpa [Vb] using hi⟩⟩
   unfold Vb at e;rw[zB,List.getElem?_zipIdx] at e
   cases q:fs[i]? with
   |none=>rw[q] at e;cases e
   |some c=>
    rw[q] at e;simp at e;subst e;obtain⟨w,e1,rv⟩:=rs2.get q;refine⟨⟨xs2,w,sq2.sq,e1⟩,λx H3 y=>?_⟩;obtain⟨T,hT,rfl,y⟩:=y;obtain⟨w',e2,rfl⟩:=y xs2 sq2.sq;rw[e1] at e2;cases e2;exact⟨os2,I2.newTup (.cons (Rep.ofS (d:=.int i) rfl) (.cons rv .nil)) hT⟩
end
abbrev TF:=List D->Nat->(D->Nat->Prop)->Prop
noncomputable def WV(n:Nat)(H:Hp):Hp:=λa=>match xp n a with |none=>H a |some _=>none
def Zd{n:Nat}{H:Hp}{a:Addr}(h:xp n a=none):WV n H a=H a:=by unfold WV;rw[h]
def Yp{n:Nat}{H:Hp}{a:Addr}(h:xp n a≠none):WV n H a=none:=by
 unfold WV
 cases q:xp n a with
 |none=>exact absurd q h
 |some c=>rfl
def ze3{n:Nat}{H:Hp}{a:Addr}{o:HO}(h:WV n H a=some o):xp n a=none/\H a=some o:=by
 by_cases q:xp n a=none
 ·rw[Zd q] at h;exact⟨q,h⟩
 ·rw[Yp q] at h;cases h
abbrev Xh(Z:Addr->Prop)(n:Nat):Addr->Prop:=λa=>Z a\/xp n a≠none
structure Grown(n n':Nat)(H:Hp):Prop where
 new:∀a,xp n' a≠none->xp n a≠none\/H a=none
 old:∀a,xp n a≠none->xp n' a≠none
def spD(K:W.Frag)(k:Nat)(t:TF):Sp:=λvs H Q _=>∃(G:Option Addr) (Z:Addr->Prop) (n:Nat) (P:D->Nat->Prop) (ds:List D),ds.length=k/\Reps K G Z H ds vs/\StOk K Z Z G n H/\(∀a,G=some a->Z a)/\(∀a,Z a->H a≠none)/\t ds n P /\
 ∀v H' n' d,(∀a o,G≠some a->xp n a=none->H a=some o->H' a=some o)->StOk K (Xh Z n') (Xh Z n') G n' H'->Grown n n' H->Rep K G (Xh Z n') H' d v->P d n'->Q v H'
def ya(N:List Str)(ds:List D):Rho:=ds.map some++replicate (N.length-ds.length) none
def AmO.ended{K:W.Frag}{G:Option Addr}{Z:Addr->Prop}{H H':Hp}{os:List (Nat × Addr)}{n n':Nat}{rho':Rho}{sg':St}{ds:List D}{vs:List V}(I:AmO ⟨K,G,Z,WV n H⟩ os n' rho' sg' H' ds vs)(st:StOk K Z Z G n H)(z0:∀a,Z a->H a≠none) :
  (∀a o,G≠some a->xp n a=none->H a=some o->H' a=some o)/\StOk K (Xh Z n') (Xh Z n') G n' H'/\Grown n n' H/\∀a,Xh Z n' a->Zof ⟨K,G,Z,WV n H⟩ os a:=by
 have r4:∀a,Xh Z n' a->Zof ⟨K,G,Z,WV n H⟩ os a:=λa z=>by
  rcases z with z |z
  ·exact .inl z
  ·cases q : xp n' a with
   |none=>exact absurd q z
   |some c=>
    rcases(I.st.2 a c q).1 with z |⟨p,hp,e,_⟩
    ·exact .inl z.1
    ·exact .inr ⟨p,hp,e⟩
 have cz:∀a,xp n a≠none->Z a:=λa z=>by
  cases q:xp n a with
  |none=>exact absurd q z
  |some c=>exact(st.2 a c q).1
 refine⟨λa o g c e=>I.fr a o g (by show WV n H a=some o;rw[Zd c];exact e),I.st.mono (λa _ z=>r4 a z) (λ_ _ _ e=>e) (λ_ _ _ e=>e) (λa c _=>.inr c) (λ_ _ _ e=>e),⟨λa z=>?_,λa z=>?_⟩,r4⟩
 ·cases q : xp n' a with
  |none=>exact absurd q z
  | some c =>
   rcases(I.st.2 a c q).1 with ⟨z,h⟩ |⟨p,hp,e,_⟩
   ·by_cases w : xp n a = none
    ·have h:WV n H a=none:=h;rw[Zd w] at h;exact .inr h
    ·exact .inl w
   ·have h : WV n H p.2 = none := (I.fresh p hp).1;rw[e] at h
    by_cases w:xp n a=none
    ·rw[Zd w] at h;exact .inr h
    ·exact .inl w
 ·rcases I.z0 a (cz a z) with h | h
  ·exact absurd (Yp z) h
  ·exact h
def Vp{K:W.Frag}{G:Option Addr}{Z:Addr->Prop}{H:Hp}{N:List Str}{ds:List D}{vs:List V}{n:Nat}(rs:Reps K G Z H ds vs)(st:StOk K Z Z G n H)(gz:∀a,G=some a->Z a)(z0:∀a,Z a->H a≠none) :
  AmO ⟨K,G,Z,WV n H⟩ [] n (ya N ds) (ZI N vs) H [] []:=by
 have hl:=rs.length
 have zz:∀a,Zof ⟨K,G,Z,WV n H⟩ [] a->Z a:=λa z=>by
  rcases z with z |⟨p,hp,_⟩
  ·exact z
  ·simp at hp
 have rs':Reps K G (Zof ⟨K,G,Z,WV n H⟩ []) H ds vs:=Reps.mono (λa _ z=>zz a z) (λ_ _ _ e=>e) _ _ rs
 refine⟨by simp[ya,ZI,hl],λi d e=>?_,.nil,.nil,λp hp=>by simp at hp,st.mono (λa _ z=>zz a z) (λ_ _ _ e=>e) (λ_ _ _ e=>e) (λa c z=>.inl ⟨z,Yp c⟩) (λ_ _ _ e=>e),gz,λa o _ e=>(ze3 e).2,λa z=>?_⟩
 rotate_left
 ·by_cases q : xp n a = none
  ·exact .inl (by show WV n H a≠none;rw[Zd q];exact z0 a z)
  ·exact .inr q
 unfold ya at e
 by_cases hi:i<ds.length
 ·rw [xg (by simpa using hi), zB] at e
  cases q:ds[i]? with
  |none=>rw[q] at e;cases e
  |some c=>
   rw[q] at e;cases e;obtain⟨v,e1,r⟩:=rs'.get q;refine⟨v,?_,SlotR.of r⟩;unfold ZI
   rw[xg (by rw[zn,hl];exact hi),zB,e1]
   rfl
 ·rw [zT (by simpa using hi), xE] at e
  split at e<;>cases e
section
variable {P:Program}{w:World}{K:W.Frag}{mg:Str->Option Value}{base:Heap}
def Fun.okD{x qual:Str}{st:Stmt}{f:Addr}{fd:FuncData}{N ps:List Str}{k:Nat}{t:TF}{tb:TSD}(F:Fun K x qual st f fd)(S:FnScope N ps (xo st))
  (body : ∀ (cdv : Value) (A0 : Around) (outer : List Env) (s : Shared) (H : Hp) (E : XK) (G : Option Addr) (Z : Addr -> Prop) (n : Nat), Room k (A0.deeper (envOfC qual (xo st) s.heap.objs.size f cdv)) ->
   JX ⟨K,G,Z,WV n H⟩ (zw2 CX0 P w K mg base N qual (xo st) f cdv A0 outer s H E).nox (vB st) tb)
  (spec:∀ds n Q,ds.length=ps.length->t ds n Q->tb { nx:=λ_ n=>Q .non n,rt:=Q } (ya N ds) n):FnOk P w K mg base CX0 (k+1) f fd ps (spD K ps.length t):=by
 exists (by
   refine F.ok S (λvs H Q E h=>?_) (λcdv A0 outer s H vs Q E hr h=>?_)
   ·obtain⟨G,Z,n,R,ds,hl,rs,_⟩:=h;rw[rs.length];exact hl
   ·obtain ⟨G, Z, n, R, ds, hl, rs, hst, gz, z0, ht, hQ⟩ := h;refine⟨_,body cdv A0 outer s H E G Z n hr,ya N ds,n,_,[],[],⟨[],Vp rs hst gz z0⟩,spec ds n R hl ht,?_⟩;refine⟨λrho' n' sg' H' ⟨os,I⟩ q=>?_,λd n' v rho' sg' H' ⟨os,I⟩ q=>?_,λ_ _ _ _ _ q=>q.elim,λ_ _ _ _ _ q=>q.elim⟩
    ·obtain⟨r1,r2,r3,_⟩:=I.ended hst z0;exact hQ .non H' n' .non r1 r2 r3 (Rep.ofS rfl) q
    ·obtain ⟨r1, r2, r3, r4⟩ := I.ended hst z0
     exact hQ v H' n' d r1 r2 r3 (Rep.mono (λa _ z=>r4 a z) (λ_ _ _ e=>e) _ _ I.pop.2) q)
end
section
variable {A:AC}{X:Cx}{e:Expr}{es:List Expr}{t1:TAD}{pos p:Pos}
def dFn(k:Nat)(t:TF)(t1:TAD):TD:=λrho n P=>t1 rho n λes n1=>es.length=k/\t es n1 P
theorem za6(New:Addr->Prop):∀(l:List Addr) (os:List (Nat × Addr)) (m:Nat),os.Pairwise (λp q=>p.1≠q.1/\p.2≠q.2)->∃ex:List (Nat × Addr),(ex++os).Pairwise (λp q=>p.1≠q.1/\p.2≠q.2)/\(∀p∈ex,m<=p.1/\p.2∈l/\New p.2)/\∀a∈l,New a->∃p∈ex++os,p.2=a
 |[],os,m,h=>⟨[],h,λp hp=>by simp at hp,λa ha=>by simp at ha⟩
 | a :: l, os, m, h => by
  obtain⟨ex,h1,h2,h3⟩:=za6 New l os m h
  by_cases c:New a/\¬ ∃p∈ex++os,p.2=a
  ·have big : ∃ k, m <= k /\ ∀ p ∈ ex ++ os, p.1 < k := by
    have:∀l:List (Nat × Addr),∃k,m<=k/\∀p∈l,p.1<k:=by
     intro l
     induction l with
     |nil=>exact⟨m,zd _,λp hp=>by simp at hp⟩
     |cons p l ih=>
      obtain⟨k,k1,k2⟩:=ih
      refine⟨max k (p.1+1),w5,λq hq=>?_⟩
      rcases zh.mp hq with rfl |hq
      ·lia
      ·have:=k2 q hq;lia
    exact this _
   obtain⟨k,k1,k2⟩:=big;refine⟨(k,a)::ex,xW.mpr ⟨λp hp=>⟨Nat.ne_of_gt (k2 p hp),λz=>c.2 ⟨p,hp,z.symm⟩⟩,h1⟩,λp hp=>?_,λb hb hn=>?_⟩
   ·rcases zh.mp hp with rfl | hp
    ·exact⟨k1,zo,c.1⟩
    ·obtain⟨q1,q2,q3⟩:=h2 p hp;exact⟨q1,zk _ q2,q3⟩
   ·rcases zh.mp hb with rfl | hb
    ·exact⟨_,zo,rfl⟩
    ·obtain⟨p,hp,e⟩:=h3 b hb hn;exact⟨p,zk _ hp,e⟩
  ·refine ⟨ex, h1, λp hp => ?_, λb hb hn => ?_⟩
   ·obtain⟨q1,q2,q3⟩:=h2 p hp;exact⟨q1,zk _ q2,q3⟩
   ·rcases zh.mp hb with rfl | hb
    ·exact Classical.byContradiction λz=>c ⟨hn,z⟩
    ·exact h3 b hb hn
def AmO.stZ{os:List (Nat × Addr)}{n:Nat}{rho:Rho}{sg:St}{H:Hp}{ds:List D}{vs:List V}(I:AmO A os n rho sg H ds vs):StOk A.K (Zof A os) (Zof A os) A.G n H:=
 I.st.mono (λ_ _ z=>z) (λ_ _ _ e=>e) (λ_ _ _ e=>e) (λa _ z=>by
  rcases z with z |⟨p,hp,e,_⟩
  ·exact .inl z.1
  ·exact .inr ⟨p,hp,e⟩) (λ_ _ _ e=>e)
def AmO.calledX{os:List (Nat × Addr)}{n n':Nat}{rho:Rho}{sg:St}{H H':Hp}{ds:List D}{vs:List V}(I:AmO A os n rho sg H ds vs)(fr:∀a o,A.G≠some a->xp n a=none->H a=some o->H' a=some o)(st:StOk A.K (Xh (Zof A os) n') (Xh (Zof A os) n') A.G n' H')
  (gw:Grown n n' H):∃os',AmO A os' n' rho sg H' ds vs/\∀a,Zof A os' a->Xh (Zof A os) n' a:=by
 obtain⟨ex,e1,e2,e3⟩:=za6 (λa=>xp n' a≠none/\H a=none) (UB n') os rho.length I.nd
 have hz:∀a,Zof A (ex++os) a->Xh (Zof A os) n' a:=λa z=>by
  rcases z with z |⟨p,hp,rfl⟩
  ·exact .inl (.inl z)
  ·rcases zN.mp hp with hp | hp
   ·exact .inr (e2 p hp).2.2.1
   ·exact .inl (.inr ⟨p,hp,rfl⟩)
 have hz2:∀a,H a≠none->Zof A (ex++os) a->Zof A os a:=λa h z=>by
  rcases z with z |⟨p,hp,rfl⟩
  ·exact .inl z
  ·rcases zN.mp hp with hp | hp
   ·exact absurd (e2 p hp).2.2.2 h
   ·exact .inr ⟨p,hp,rfl⟩
 have zi:∀a,Zof A os a->Zof A (ex++os) a:=λa z=>by
  rcases z with z |⟨p,hp,e⟩
  ·exact .inl z
  ·exact .inr ⟨p,zr _ hp,e⟩
 have cz:∀a,xp n a≠none->Zof A os a:=λa h=>by
  cases q:xp n a with
  |none=>exact absurd q h
  |some c=>
   rcases(I.st.2 a c q).1 with z |⟨p,hp,e,_⟩
   ·exact .inl z.1
   ·exact .inr ⟨p,hp,e⟩
 have hf:∀b u,¬ Zof A os b->H b=some u->H' b=some u:=λb u nz e=>fr b u (λz=>nz (.inl (I.gz b z))) (Classical.byContradiction λz=>nz (cz b z)) e;have no:∀p∈os,A.G≠some p.2:=λp hp e=>(I.fresh p hp).2.1 (I.gz _ e)
 have h0:∀a,H a=none->A.H0 a=none:=λa h=>by
  cases q:A.H0 a with
  |none=>rfl
  |some o=>
   by_cases e:A.G=some a
   ·obtain⟨x,y,z,w,_⟩:=I.st.1 a e;rw[w] at h;cases h
   ·rw[I.fr a o e q] at h;cases h
 have hne:∀a,Zof A os a->H' a≠none:=λa z=>by
  by_cases c:xp n a=none
  ·by_cases g : A.G = some a
   ·obtain⟨x,y,z,w,_⟩:=st.1 a g;rw[w];simp
   ·cases q : H a with
    |none=>exact absurd q (I.zH a z)
    |some u=>rw[fr a u g c q];simp
  ·have := gw.old a c
   cases q:xp n' a with
   |none=>exact absurd q this
   |some c=>exact(st.2 a c q).2.2.ne
 refine⟨ex++os,⟨I.len,λj c e=>?_,Reps.mono hz2 hf _ _ I.pend,e1,λq hq=>?_,?_,I.gz,λb u h e=>?_,λa z=>?_⟩,hz⟩
 ·obtain⟨u,e1,e2⟩:=I.slot j c e;have hj:j<rho.length:=(zP.mp e).1;exact⟨u,e1,SlotR.mono hz2 hf (λb ys m q=>⟨zr _ m,fr _ _ (no _ m) (I.noOwn hj m) q⟩) _ _ e2⟩
 ·rcases zN.mp hq with hq | hq
  ·obtain ⟨_, _, q1, q2⟩ := e2 q hq;refine⟨h0 _ q2,λz=>I.zH _ (.inl z) q2,?_⟩
   cases q:xp n' q.2 with
   |none=>exact absurd q q1
   |some c=>exact(st.2 _ c q).2.2.ne
  ·obtain⟨f1,f2,f3⟩:=I.fresh q hq;exact⟨f1,f2,hne _ (.inr ⟨q,hq,rfl⟩)⟩
 ·refine st.mono (λa _ z => hz a z) (λ_ _ _ e => e) (λ_ _ _ e => e) (λa c z => ?_) (λ_ _ _ e => e)
  rcases gw.new a c with z |z
  ·cases q2 : xp n a with
   |none=>exact absurd q2 z
   |some c2=>
    rcases(I.st.2 a c2 q2).1 with y |⟨p,hp,e,hl⟩
    ·exact .inl y
    ·exact .inr ⟨p,zr _ hp,e,hl⟩
  ·obtain ⟨p, hp, e⟩ := e3 a (UA c) ⟨c, z⟩
   rcases zN.mp hp with hp' |hp'
   ·exact .inr ⟨p,hp,e,(e2 p hp').1⟩
   ·exact absurd (by rw[e];exact z) (I.fresh p hp').2.2
 ·by_cases c : xp n b = none
  ·exact fr b u h c (I.fr b u h e)
  ·exfalso
   cases q:xp n b with
   |none=>exact c q
   |some c2=>
    rcases(I.st.2 b c2 q).1 with y |⟨p,hp,e',_⟩
    ·rw[y.2] at e;cases e
    ·rw[<- e',(I.fresh p hp).1] at e;cases e
 ·rcases I.z0 a z with z | z
  ·exact .inl z
  ·exact .inr (gw.old a z)
def AmO.called{os:List (Nat × Addr)}{n n':Nat}{rho:Rho}{sg:St}{H H':Hp}{ds:List D}{vs:List V}{d:D}{v:V}(I:AmO A os n rho sg H ds vs)(fr:∀a o,A.G≠some a->xp n a=none->H a=some o->H' a=some o)(st:StOk A.K (Xh (Zof A os) n') (Xh (Zof A os) n') A.G n' H')(gw:Grown n n' H)
  (r:Rep A.K A.G (Xh (Zof A os) n') H' d v):Am A n' rho sg H' (d::ds) (v::vs):=by
 obtain⟨os',J,hz⟩:=I.calledX fr st gw;exact⟨os',J.push (Rep.mono (λa _ z=>hz a z) (λ_ _ _ e=>e) _ _ r)⟩
def zC5{x:Str}{f:Addr}{fd:FuncData}{ps:List Str}{t:TF}{kk k:Nat}(F:FnOk X.prog X.w X.K X.mg X.base CX0 kk f fd ps (spD X.K k t))(hr:Room kk X.A)(hm:X.mg x=some (.ref f))(hk:W.keepIn X.K (.ref f)=true)(hb:Binds X.K fd ps [])(hK:X.K=A.K)
  (ha:PAD A X (e::es) t1) (hg:Gl X x:=by rfl) (hdb:(x == ("__debug__" : Str))=false:=by decide) (he:starEach (e::es) X.env=(false,eval e X.env)::starEach es X.env:=by rfl) (hpl:(backTo pos (starEach es X.env)).any (·.1)=false:=by rfl) :
  PD A X (.Call (.Name x p) (e::es) [] pos) (dFn k t t1):=by
 exists (QY F hr hg hm hk hb .nil za5 ha hdb he hpl).imp λsg H Q h=>by
   obtain⟨rho,n,R,ds,vs,I,ht,hQ⟩:=h;refine⟨rho,n,_,ds,vs,I,ht,λws H' n' es' ⟨os,J⟩ hl k=>?_⟩;obtain⟨J1,rs⟩:=J.split hl;rw[xX,hK];refine⟨A.G,Zof A os,n',R,es',k.1,rs,J1.stZ,λa z=>.inl (J1.gz a z),J1.zH,k.2,λv H2 n2 d fr st nw r q=>hQ v H2 n2 d (J1.called fr st nw r) q⟩
end
section
variable {A:AC}{X:Cx}{tg a:Expr}{ta:TD}{pos p:Pos}
def xn6(K:W.Frag)(tl:TE):TI:=λsg H R=>tl sg H λx H1=>∃l,x=.ref l/\(((∃xs,SqL K H1 l xs)/\R (Itl K l) H1)\/((∃xs,SqT K H1 l xs)/\R (Itt K l) H1))
def zB4{l:Expr}{tl:TE}(hl:PE X l tl):PI X tg l (xn6 X.K tl):=by
 intro pins s sg H R I h;refine thn (hl pins s sg H _ I h) λv s1 ⟨x,H1,I1,r1,q1⟩=>?_;obtain⟨c,e,q1⟩:=q1;subst e;cases r1
 have new:∀b∈[s1.heap.objs.size],FpOk X pins H1 b:=λb hb=>by
  obtain rfl:b=s1.heap.objs.size:=by simpa using hb
  exact I1.fpOk (zd _) (I1.hok.fresh (zd _))
 rcases q1 with ⟨⟨xs,hq⟩,q⟩ |⟨⟨xs,hq⟩,q⟩
 ·obtain⟨its,rv,pl,hz⟩:=I1.list hq;exact wpAny_pyIter_list pl.isList ⟨s1.heap.objs.size,[s1.heap.objs.size],_,_,H1,rfl,I1.kept (t':=s1.toks) λb o e=>ze _ e,Qe c _,⟨_,zD _ rfl,rfl,rfl⟩,new,q⟩
 ·obtain⟨its,rv,pl,hz⟩:=I1.tuple hq;exact wpAny_pyIter_tuple (show s1.heap.IsTuple c its.toArray from pl) ⟨s1.heap.objs.size,[s1.heap.objs.size],_,_,H1,rfl,I1.kept (t':=s1.toks) λb o e=>ze _ e,Jf c _,⟨_,zD _ rfl,rfl,rfl⟩,new,q⟩
def zT0(ta:TD):TID:=λrho n P=>ta rho n λd n1=>∃es,(d=.lst es\/d=.tup es)/\P es n1
def vg(hK:X.K=A.K)(ha:PD A X a ta):PID A X tg a (zT0 ta):=by
 exists (zB4 ha).imp λsg H R h=>by
   obtain⟨rho,n,P,ds,vs,I,ht,hQ⟩:=h;refine⟨rho,n,_,ds,vs,I,ht,λv H' n' d ⟨os,J⟩ k=>?_⟩;obtain⟨es,hd,k⟩:=k;have r:=J.pop.2;rw[hK]
   rcases hd with rfl |rfl
   ·obtain ⟨l, xs, rfl, sq, rs⟩ := r.lst_inv;refine⟨l,rfl,.inl ⟨⟨xs,sq.sq⟩,hQ _ H' n' es [.lst es] [.ref l] ⟨os,J⟩ rfl (λn2 rho2 sg2 H2 ds2 vs2 i ⟨os2,I2⟩=>?_) k⟩⟩;obtain⟨I3,r2⟩:=AmO.pop (d:=.lst es) (v:=.ref l) (ds:=ds2) (vs:=vs2) I2;obtain⟨l',xs2,e,sq2,rs2⟩:=r2.lst_inv;cases e
    refine⟨λd e=>?_,λhi=>⟨xs2,sq2.sq,by rw[rs2.length];exact hi⟩⟩
    obtain⟨v,e1,rv⟩:=rs2.get e;refine⟨⟨xs2,v,sq2.sq,e1⟩,λx H3 y=>?_⟩;obtain⟨e3,y⟩:=y;subst e3;have e4:=y xs2 sq2.sq;rw[e1] at e4;cases e4;exact⟨os2,I2.push rv⟩
   ·obtain ⟨l, xs, rfl, sq, rs⟩ := r.tup_inv;refine⟨l,rfl,.inr ⟨⟨xs,sq.sq⟩,hQ _ H' n' es [.tup es] [.ref l] ⟨os,J⟩ rfl (λn2 rho2 sg2 H2 ds2 vs2 i ⟨os2,I2⟩=>?_) k⟩⟩;obtain⟨I3,r2⟩:=AmO.pop (d:=.tup es) (v:=.ref l) (ds:=ds2) (vs:=vs2) I2;obtain⟨l',xs2,e,sq2,rs2⟩:=r2.tup_inv;cases e
    refine⟨λd e=>?_,λhi=>⟨xs2,sq2.sq,by rw[rs2.length];exact hi⟩⟩
    obtain⟨v,e1,rv⟩:=rs2.get e;refine⟨⟨xs2,v,sq2.sq,e1⟩,λx H3 y=>?_⟩;obtain⟨e3,y⟩:=y;subst e3;have e4:=y xs2 sq2.sq;rw[e1] at e4;cases e4;exact⟨os2,I2.push rv⟩
end
structure Fn(P:Program)(w:World)(K:W.Frag)(mg:Str->Option Value)(base:Heap)(x:Str)(kk k:Nat)(t:TF):Prop where
 ex:∃(f:Addr) (fd:FuncData) (ps:List Str),FnOk P w K mg base CX0 kk f fd ps (spD K k t)/\mg x=some (.ref f)/\W.keepIn K (.ref f)=true/\Binds K fd ps []
def vp{A:AC}{X:Cx}{e:Expr}{es:List Expr}{t1:TAD}{pos p:Pos}{x:Str}{t:TF}{kk k:Nat}(F:Fn X.prog X.w X.K X.mg X.base x kk k t)(hr:Room kk X.A)(hK:X.K=A.K)
  (ha:PAD A X (e::es) t1) (hg:Gl X x:=by rfl) (hdb:(x == ("__debug__" : Str))=false:=by decide) (he:starEach (e::es) X.env=(false,eval e X.env)::starEach es X.env:=by rfl) (hpl:(backTo pos (starEach es X.env)).any (·.1)=false:=by rfl) :
  PD A X (.Call (.Name x p) (e::es) [] pos) (dFn k t t1):=by
 exists (by
   obtain⟨f,fd,ps,h1,h2,h3,h4⟩:=F.ex
   exact zC5 h1 hr h2 h3 h4 hK ha hg hdb he hpl)
structure Blt(mg:Str->Option Value):Prop where
 len:mg "len" = none
 abs:mg "abs" = none
 all:mg "all" = none
 any:mg "any" = none
 isi:mg "isinstance" = none
 int:mg "int" = none
 bool:mg "bool" = none
 str:mg "str" = none
 tuple:mg "tuple" = none
 list:mg "list" = none
 range:mg "range" = none
 zip:mg "zip" = none
 enum:mg "enumerate" = none
 max:mg "max" = none
 min:mg "min" = none
 sorted:mg "sorted" = none
def qa:bootBuiltins "len" = some (.builtin "len"):=x4
def zw4:bootBuiltins "abs" = some (.builtin "abs"):=x4
def zi1:bootBuiltins "int" = some (.type "int"):=x4
def vo:bootBuiltins "tuple" = some (.type "tuple"):=x4
def zi0:bootBuiltins "list" = some (.type "list"):=x4
def isB(d:D)(p:Bool->Prop):Prop:=∃c,d=.bl c/\p c
@[simp] theorem xz9{b:Bool}{p:Bool->Prop}:isB (.bl b) p↔p b:=⟨fun⟨_,e,h⟩=>by cases e;exact h,λh=>⟨_,rfl,h⟩⟩
@[simp] theorem xf6{F rho n}:zk5 F rho n=F.nx rho n:=rfl
@[simp] theorem xq6{t u F rho n}:zW0 t u F rho n=t { F with nx:=u F } rho n:=rfl
@[simp] theorem xq7{te F rho n}:xc4 te F rho n=te rho n F.rt:=rfl
@[simp] theorem xy6{c t u F rho n}:sIf c t u F rho n=c rho n λb n1=>if b=true then t F rho n1 else u F rho n1:=rfl
@[simp] theorem xq5{i te F rho n}:xc3 i te F rho n=(i<rho.length/\te rho n λd n1=>F.nx (rho.set i (some d)) n1):=rfl
@[simp] theorem xq4{te g F rho n}:xp4 te g F rho n=te rho n λd n1=>g d rho λrho'=>F.nx rho' n1:=rfl
@[simp] theorem xr0{i t F rho n}:xp5 i t F rho n=(i<rho.length/\t rho n λes n1=>es.length<=sizeLine/\F.nx (rho.set i (some (.own es))) n1):=rfl
@[simp] theorem xf8{te F rho n}:zx9 te F rho n=te rho n λ_ n1=>F.nx rho n1:=rfl
@[simp] theorem xr1{i t F rho n}:xp6 i t F rho n=∃es,rho[i]?=some (some (.own es))/\t F (rho.set i (some (.lst es))) n:=rfl
@[simp] theorem zM8{i t F rho n}:Qy i t F rho n=∃es,rho[i]?=some (some (.own es))/\es.length<sizeLine/\t rho n λds n1=>∃d,ds=[d]/\F.nx (rho.set i (some (.own (es++[d])))) n1:=rfl
@[simp] theorem zZ1{i d rho P}:KG i d rho P=(i<rho.length/\P (rho.set i (some d))):=rfl
@[simp] theorem xr9{i rho n P}:JW i rho n P=atV rho[i]? λd=>P d n:=rfl
@[simp] theorem xB1{d k}:atV (some (some d)) k=atD d k:=rfl
@[simp] theorem xu4{k}:atD .non k=k .non:=rfl
@[simp] theorem xu3{k b}:atD (.bl b) k=k (.bl b):=rfl
@[simp] theorem xu2{k b}:atD (.int b) k=k (.int b):=rfl
@[simp] theorem xu1{k b}:atD (.str b) k=k (.str b):=rfl
@[simp] theorem xu0{k b}:atD (.tup b) k=k (.tup b):=rfl
@[simp] theorem xt9{k b}:atD (.lst b) k=k (.lst b):=rfl
@[simp] theorem xt8{k b}:atD (.fz b) k=k (.fz b):=rfl
@[simp] theorem xt7{k}:atD .st k=k .st:=rfl
@[simp] theorem xt6{k a b}:atD (.dct a b) k=k (.dct a b):=rfl
@[simp] theorem xB2{d k}(h:yL d=true):atD d k=k d:=propext ⟨λz=>(zi5 z).2,zV4 h⟩
@[simp] theorem xE0{d rho n P}:dC d rho n P=P d n:=rfl
@[simp] theorem xA7{rd ta tb rho n P}:dOp rd ta tb rho n P=ta rho n λd1 n1=>tb rho n1 λd2 n2=>rd d1 d2 λd=>P d n2:=rfl
@[simp] theorem xj9{t rho n P}:YR t rho n P=t rho n λd n'=>isB d λb=>P b n':=rfl
@[simp] theorem xg5{d1 d2 k}:xd3 d1 d2 k=(d2=.non/\k (.bl (YN d1))):=rfl
@[simp] theorem zW9{d1 d2 k}:zM1 d1 d2 k=(d2=.non/\k (.bl (!YN d1))):=rfl
@[simp] theorem xt4{t u rho n P}:xv9 t u rho n P=t rho n λc n1=>if c=true then u rho n1 P else P false n1:=rfl
@[simp] theorem xB0{t u rho n P}:bOr t u rho n P=t rho n λc n1=>if c=true then P true n1 else u rho n1 P:=rfl
@[simp] theorem xt3{t rho n P}:xD5 t rho n P=t rho n λc n1=>P (!c) n1:=rfl
@[simp] theorem xt2{rho n P}:zJ3 rho n P=P true n:=rfl
@[simp] theorem xt1{ta tb rho n P}:xD3 ta tb rho n P=ta rho n λd n1=>isB d λc=>if c=true then tb rho n1 P else P (.bl false) n1:=rfl
@[simp] theorem xA6{ta tb rho n P}:dOr ta tb rho n P=ta rho n λd n1=>isB d λc=>if c=true then P (.bl true) n1 else tb rho n1 P:=rfl
@[simp] theorem xs7{ta rho n P}:xD0 ta rho n P=ta rho n λd n1=>isB d λc=>P (.bl (!c)) n1:=rfl
@[simp] theorem xA8{t ta tb rho n P}:dIf t ta tb rho n P=t rho n λc n1=>if c=true then ta rho n1 P else tb rho n1 P:=rfl
@[simp] theorem xu5{rho n P}:zi7 rho n P=P [] n:=rfl
@[simp] theorem xl1{t r rho n P}:UH t r rho n P=t rho n λd n1=>r rho n1 λds n2=>P (d::ds) n2:=rfl
@[simp] theorem xs0{t rho n P}:zU0 t rho n P=t rho n λds n1=>ds.length<=sizeLine/\P (.tup ds) n1:=rfl
@[simp] theorem xs8{t rho n P}:xv8 t rho n P=t rho n λds n1=>ds.length<=sizeLine/\P (.lst ds) n1:=rfl
@[simp] theorem xk9{rd t rho n P}:zg3 rd t rho n P=t rho n λes n1=>rd es λd=>P d n1:=rfl
@[simp] theorem xA9{k t t1 rho n P}:dFn k t t1 rho n P=t1 rho n λes n1=>es.length=k/\t es n1 P:=rfl
@[simp] theorem xj4{ta rho n P}:zT0 ta rho n P=ta rho n λd n1=>∃es,(d=.lst es\/d=.tup es)/\P es n1:=rfl
@[simp] theorem xj5{t rho n P}:zT1 t rho n P=t rho n λes n1=>∃j:Int,es=[.int j]/\-(2^62)<=j/\j<2^62/\P (VG 0 j.toNat) n1:=rfl
@[simp] theorem zZ0{t rho n P}:zv2 t rho n P=t rho n λes n1=>∃fs,es=[.lst fs]/\P (Vb fs) n1:=rfl
@[simp] theorem xs5{lo hi ta rho n P}:xC7 lo hi ta rho n P=ta rho n λd n1=>∃fs,(d=.lst fs\/d=.fz fs)/\P (.lst (Yu fs lo hi)) n1:=rfl
@[simp] theorem xj7{rho P}:zT5 [] rho P↔P rho:=⟨λh=>h.2,λh=>⟨rfl,h⟩⟩
@[simp] theorem zZ2{g gs d r rho P}:zv3 g gs (d::r) rho P↔g d rho λrho'=>gs r rho' P:=⟨fun⟨_,_,e,h⟩=>by cases e;exact h,λh=>⟨_,_,rfl,h⟩⟩
@[simp] theorem xj6{k gs es rho P}:zT4 k gs (.tup es) rho P↔(es.length=k/\gs es rho P):=⟨fun⟨_,e,h⟩=>by cases e;exact h,λh=>⟨_,rfl,h⟩⟩
@[simp] theorem xy7{C g i j k}:rdI C g (.int i) (.int j) k=(C i j/\k (g i j)):=rfl
@[simp] theorem QF{g i j k}:zl4 g (.int i) (.int j) k=k (g i j):=rfl
@[simp] theorem xy8{f c d k}:rdB f (.bl c) (.bl d) k=k (.bl (f c d)):=rfl
@[simp] theorem zz3{es i k}:zI2 (.lst es) (.int i) k↔∃d,atI es i=some d/\k d:=⟨fun⟨_,_,d,e,e',h⟩=>by cases e' ;rcases e with e |e |e<;>cases e;exact⟨d,h⟩,fun⟨d,h⟩=>⟨_,_,d,.inl rfl,rfl,h⟩⟩
@[simp] theorem zz2{es i k}:zI2 (.tup es) (.int i) k↔∃d,atI es i=some d/\k d:=⟨fun⟨_,_,d,e,e',h⟩=>by cases e' ;rcases e with e |e |e<;>cases e;exact⟨d,h⟩,fun⟨d,h⟩=>⟨_,_,d,.inr (.inl rfl),rfl,h⟩⟩
@[simp] theorem xg4{es i k}:zI2 (.fz es) (.int i) k↔∃d,atI es i=some d/\k d:=⟨fun⟨_,_,d,e,e',h⟩=>by cases e' ;rcases e with e |e |e<;>cases e;exact⟨d,h⟩,fun⟨d,h⟩=>⟨_,_,d,.inr (.inr rfl),rfl,h⟩⟩
@[simp] theorem xh1{es fs k}:zM4 (.lst es) (.lst fs) k↔(es.length+fs.length<=sizeLine/\k (.lst (es++fs))):=⟨fun⟨_,_,e,e',h⟩=>by cases e;cases e';exact h,λh=>⟨_,_,rfl,rfl,h⟩⟩
@[simp] theorem zW7{es i k}:zt2 (.tup es) (.int i) k↔(es≠[]/\1<=i/\es.length*i.toNat<=sizeLine/\k (.tup (replicate i.toNat es).flatten)):=⟨fun⟨_,_,e,e',h⟩=>by cases e;cases e';exact h,λh=>⟨_,_,rfl,rfl,h⟩⟩
def Jr(es:List D)(p:D->D->Prop):Prop:=∃d d',es=[d,d']/\p d d'
@[simp] theorem xh2{a b p}:Jr [a,b] p↔p a b:=⟨fun⟨_,_,e,h⟩=>by cases e;exact h,λh=>⟨_,_,rfl,h⟩⟩
@[simp] theorem xq9{i j t F rho n}:zW1 i j t F rho n=(i<rho.length/\j<rho.length/\t rho n λes n1=>Jr es λd d'=>F.nx ((rho.set i (some d)).set j (some d')) n1):=rfl
@[simp] theorem xg7{i j:Int}{k}:zy9 (.int i) (.int j) k↔k (.bl (decide (i=j))):=by
 have e:decide (ofS (.int i)=ofS (.int j))=decide (i=j):=by simp[ofS]
 unfold zy9;rw[e];exact⟨λh=>h.2.2.2,λh=>⟨rfl,rfl,rfl,h⟩⟩
@[simp] theorem xg8{i j:Bool}{k}:zy9 (.bl i) (.bl j) k↔k (.bl (decide (i=j))):=by
 have e:decide (ofS (.bl i)=ofS (.bl j))=decide (i=j):=by simp[ofS]
 unfold zy9;rw[e];exact⟨λh=>h.2.2.2,λh=>⟨rfl,rfl,rfl,h⟩⟩
@[simp] theorem xg2{i j:Int}{k}:zM2 (.int i) (.int j) k↔k (.bl (!decide (i=j))):=by
 have e:decide (ofS (.int i)=ofS (.int j))=decide (i=j):=by simp[ofS]
 unfold zM2;rw[e];exact⟨λh=>h.2.2.2,λh=>⟨rfl,rfl,rfl,h⟩⟩
@[simp] theorem xg3{i j:Bool}{k}:zM2 (.bl i) (.bl j) k↔k (.bl (!decide (i=j))):=by
 have e:decide (ofS (.bl i)=ofS (.bl j))=decide (i=j):=by simp[ofS]
 unfold zM2;rw[e];exact⟨λh=>h.2.2.2,λh=>⟨rfl,rfl,rfl,h⟩⟩
@[simp] theorem xi6{fs k}:zF7 [.lst fs] k↔k (.int fs.length):=⟨fun⟨_,e,h⟩=>by rcases e with e |e |e<;>cases e;exact h,λh=>⟨_,.inl rfl,h⟩⟩
@[simp] theorem QI{fs k}:zF7 [.tup fs] k↔k (.int fs.length):=⟨fun⟨_,e,h⟩=>by rcases e with e |e |e<;>cases e;exact h,λh=>⟨_,.inr (.inl rfl),h⟩⟩
@[simp] theorem xi7{fs k}:zF7 [.fz fs] k↔k (.int fs.length):=⟨fun⟨_,e,h⟩=>by rcases e with e |e |e<;>cases e;exact h,λh=>⟨_,.inr (.inr rfl),h⟩⟩
@[simp] theorem xr5{i k}:xv3 [.int i] k↔k (.int (if i<0 then -i else i)):=⟨fun⟨_,e,h⟩=>by cases e;exact h,λh=>⟨_,rfl,h⟩⟩
@[simp] theorem xj0{i k}:zS2 [.bl i] k↔k (.int (if i then 1 else 0)):=⟨fun⟨_,e,h⟩=>by cases e;exact h,λh=>⟨_,rfl,h⟩⟩
@[simp] theorem kR{fs k}:zd4 [.lst fs] k↔k (.tup fs):=⟨fun⟨_,e,h⟩=>by rcases e with e |e<;>cases e;exact h,λh=>⟨_,.inl rfl,h⟩⟩
@[simp] theorem zM9{fs k}:zd4 [.tup fs] k↔k (.tup fs):=⟨fun⟨_,e,h⟩=>by rcases e with e |e<;>cases e;exact h,λh=>⟨_,.inr rfl,h⟩⟩
@[simp] theorem zY6{fs k}:zF6 [.lst fs] k↔k (.lst fs):=⟨fun⟨_,e,h⟩=>by rcases e with e |e<;>cases e;exact h,λh=>⟨_,.inl rfl,h⟩⟩
@[simp] theorem zY4{fs k}:zF6 [.tup fs] k↔k (.lst fs):=⟨fun⟨_,e,h⟩=>by rcases e with e |e<;>cases e;exact h,λh=>⟨_,.inr rfl,h⟩⟩
@[simp] theorem xk0{i tb rho n P}:zU1 i tb rho n P=(rho[i]?=some (some .st)/\tb rho n λd n1=>∃j:Int,d=.int j/\0<=j/\j<kOf n1/\∀z:Int,0<=z->(j=1->z<2147483647)->P (.int z) n1):=rfl
@[simp] theorem zW3{i te tb F rho n}:zs9 i te tb F rho n=(rho[i]?=some (some .st)/\te rho n λd n1=>tb rho n1 λd2 n2=>∃j z:Int,d=.int z/\d2=.int j/\0<=j/\j<kOf n2/\0<=z/\(j=1->z<2147483647)/\F.nx rho n2):=rfl
@[simp] theorem xz7:yL .non=true:=rfl
@[simp] theorem xz6{b}:yL (.bl b)=true:=rfl
@[simp] theorem xz5{b}:yL (.int b)=true:=rfl
@[simp] theorem xz4{b}:yL (.str b)=true:=rfl
@[simp] theorem xz3{b}:yL (.tup b)=true:=rfl
@[simp] theorem xz2{b}:yL (.lst b)=true:=rfl
@[simp] theorem xt5{a k}:atD (.rf a) k=k (.rf a):=rfl
@[simp] theorem xy9{a}:yL (.rf a)=true:=rfl
@[simp] theorem xz1:yL .st=true:=rfl
@[simp] theorem xz0{b}:yL (.fz b)=true:=rfl
@[simp] theorem xA5:YN .non=true:=rfl
@[simp] theorem xA4{b}:YN (.bl b)=false:=rfl
@[simp] theorem xA3{b}:YN (.int b)=false:=rfl
@[simp] theorem xA2{b}:YN (.str b)=false:=rfl
@[simp] theorem xA1{b}:YN (.tup b)=false:=rfl
@[simp] theorem xA0{b}:YN (.lst b)=false:=rfl
@[simp] theorem xy5{b}:Wk (.lst b)=some (true,b):=rfl
@[simp] theorem xy4{b}:Wk (.tup b)=some (false,b):=rfl
@[simp] theorem xe9:(0<=sizeLine)=True:=by simp
@[simp] theorem xe8:(1<=sizeLine)=True:=by simp[sizeLine]
@[simp] theorem xe7:(2<=sizeLine)=True:=by simp[sizeLine]
@[simp] theorem xe6:(3<=sizeLine)=True:=by simp[sizeLine]
@[simp] theorem xe5:(4<=sizeLine)=True:=by simp[sizeLine]
@[simp] theorem xe4:(5<=sizeLine)=True:=by simp[sizeLine]
@[simp] theorem xe3:(6<=sizeLine)=True:=by simp[sizeLine]
@[simp] theorem xe2:(7<=sizeLine)=True:=by simp[sizeLine]
def yN{k:Nat}(h:k<=1000:=by decide):k<=sizeLine:=zw h w6
def lt_size{k:Nat}(h:k<=1000:=by decide):k<sizeLine:=yq h w6
def Vd(own:Nat)(g:TGD)(tt:TBD)(te:TD)(rho:Rho)(P:D->Nat->Prop)(items:List D)(n1:Nat):Prop:=items.length<=sizeLine/\∃J:Nat->List D->Nat->Prop,J 0 [] n1 /\
 (∀i d acc n,items[i]?=some d->J i acc n->g d (replicate own none++rho) λrho'=>rho'.drop own=rho/\tt rho' n λc n2=>if c=true then te rho' n2 λe n3=>J (i+1) (acc++[e]) n3 else J (i+1) acc n2) /\
 ∀acc n,J items.length acc n->P (.lst acc) n
@[simp] theorem xk8{it own g tt te rho n P}:JL it own g tt te rho n P=it rho n (Vd own g tt te rho P):=rfl
def zu9(g:TGD)(tb:TSD)(F:EndsD)(rho:Rho)(items:List D)(n1:Nat):Prop:=∃J:Nat->Rho->Nat->Prop,J 0 rho n1 /\
 (∀i d rho n,items[i]?=some d->J i rho n->g d rho λrho'=>tb { F with nx:=J (i+1),ct:=J (i+1),bk:=F.nx } rho' n)/\∀rho n,J items.length rho n->F.nx rho n
@[simp] theorem xr2{it g tb F rho n}:xp7 it g tb F rho n=it rho n (zu9 g tb F rho):=rfl
def zr9{it:TID}{own:Nat}{g:TGD}{te:TD}{rho:Rho}{n:Nat}{P:D->Nat->Prop}{α:Type}(enc:α->D)(f:α->D)(xs:List α)
  (hi:∀R,R (xs.map enc) n->it rho n R) (hz:xs.length<=sizeLine) (he:∀x∈xs,∀Q,Q (f x) n->g (enc x) (replicate own none++rho) λrho'=>rho'.drop own=rho/\te rho' n Q) (hP:P (.lst (xs.map f)) n):JL it own g zJ3 te rho n P:=by
 refine hi _ ⟨by simpa using hz,λi acc n'=>n'=n/\acc=(xs.take i).map f,⟨rfl,rfl⟩,?_,?_⟩
 ·rintro i d acc n' e ⟨rfl, rfl⟩;rw[zB] at e
  cases q:xs[i]? with
  |none=>rw[q] at e;cases e
  |some x=>
   rw[q] at e;cases e;have hm:x∈xs:=wo q;refine he x hm (λe n3=>n3=n'/\(xs.take i).map f++[e]=(xs.take (i+1)).map f) ⟨rfl,?_⟩;rw[xq,q];simp
 ·rintro acc n' ⟨rfl,rfl⟩;rw[zn,wD];exact hP
def zw5{α:Type}{xs:List α}{i:Int}(h0:0<=i)(h1:i<xs.length):∃d,atI xs i=some d/\d∈xs:=by
 obtain⟨k,rfl⟩:=wI h0
 have hk:k<xs.length:=w5
 exact⟨xs[k],Yz (by simp[hk]),getElem_mem hk⟩
@[simp] theorem xB5{α:Type}{a:α}{l:List α}:atI (a::l) 0=some a:=Yz (j:=0) rfl
@[simp] theorem xB4{α:Type}{a b:α}{l:List α}:atI (a::b::l) 1=some b:=Yz (j:=1) rfl
@[simp] theorem xB3{α:Type}{a b c:α}{l:List α}:atI (a::b::c::l) 2=some c:=Yz (j:=2) rfl
@[simp] theorem xh3{es p}:ZX (some (some (.own es))) p↔p es:=⟨fun⟨_,e,h⟩=>by cases e;exact h,λh=>⟨_,rfl,h⟩⟩
@[simp] theorem zZ5{i tb rho n P}:zU5 i tb rho n P=ZX rho[i]? λes=>tb rho n λd n1=>∃j c,d=.int j/\atI es j=some c/\P c n1:=rfl
@[simp] theorem zM6{i te tb F rho n}:zx6 i te tb F rho n=ZX rho[i]? λes=>te rho n λd n1=>tb rho n1 λd2 n2=>∃j m,d2=.int j/\ixN es.length j=some m/\F.nx (rho.set i (some (.own (es.set m d)))) n2:=rfl
@[simp] theorem xr8:ixN 3 0=some 0:=rfl
@[simp] theorem xr7:ixN 3 1=some 1:=rfl
@[simp] theorem xr6:ixN 3 2=some 2:=rfl
def Wg(K:W.Frag):Sp:=λvs H Q _=>∃(a:Addr) (ns:List Int),vs=[.ref a]/\xa6 H/\SqL K H a (ns.map V.int)/\ns.length<=63/\∀H',Q (.bl true) H'
def wC(ns:List Int):D:=.fz (ns.map D.int)
theorem kQ{K:W.Frag}{G:Option Addr}{Z:Addr->Prop}{H:Hp}:∀{ns:List Int},Reps K G Z H (ns.map D.int) (ns.map V.int)
 |[]=>.nil
 |n::ns=>.cons (Rep.ofS (d:=.int n) rfl) kQ
theorem qe{K:W.Frag}{G:Option Addr}{Z:Addr->Prop}{H:Hp}:∀{ns:List Int}{xs:List V},Reps K G Z H (ns.map D.int) xs->xs=ns.map V.int
 |[],xs,h=>by unfold Reps at h;exact h
 |n::ns,xs,h=>by
  obtain⟨v,r,rfl,h1,h2⟩:=Reps.split h;rw[h1.int_inv,qe h2];rfl
section
variable {P:Program}{w:World}{K:W.Frag}{mg:Str->Option Value}{base:Heap}
def Fun.okLaw{x qual:Str}{st:Stmt}{f:Addr}{fd:FuncData}{N:List Str}{p:Str}{k:Nat}{t:TSD}(F:Fun K x qual st f fd)(S:FnScope N [p] (xo st))(n0:Nat)
  (body : ∀ (cdv : Value) (A0 : Around) (outer : List Env) (s : Shared) (H : Hp) (E : XK), Room k (A0.deeper (envOfC qual (xo st) s.heap.objs.size f cdv)) ->
   JX ⟨K,none,λ_=>False,H⟩ (zw2 CX0 P w K mg base N qual (xo st) f cdv A0 outer s H E).nox (vB st) t)
  (h1:∀(ns:List Int),ns.length<=63->t { nx:=λ_ _=>False,rt:=λd _=>d=.bl true } (ya N [wC ns]) n0) (h64:n0<64:=by decide):FnOk P w K mg base CX0 (k+1) f fd [p] (Wg K):=by
 exists (by
   refine F.ok S (λvs H Q E h=>?_) (λcdv A0 outer s H vs Q E hr h=>?_)
   ·obtain⟨a,ns,rfl,_⟩:=h;rfl
   ·obtain ⟨a, ns, rfl, hO, hS, hl, k⟩ := h;refine⟨_,body cdv A0 outer s H E hr,?_⟩
    have rs:Reps K none (λ_=>False) H [wC ns] [.ref a]:=by
     refine .cons ?_ .nil;unfold wC Rep;refine⟨a,ns.map V.int,rfl,?_,kQ⟩
     rcases hS with (q |⟨o,q⟩) |q
     ·rcases hO a with z | ⟨o, xs, z⟩
      ·rw[z] at q;cases q
      ·rw[z] at q;cases q
     ·exact .inl ⟨λz=>z,o,q⟩
     ·exact .inr (.inr q)
    have S0:=Vp (N:=N) (n:=n0) rs ⟨λb e=>(by cases e),λa c e=>(by rw[kZ h64] at e;cases e)⟩ (λb e=>by cases e) (λb e=>e.elim)
    have eh:WV n0 H=H:=funext λa=>Zd (kZ h64);rw[eh] at S0;refine⟨ya N [wC ns],n0,_,[],[],⟨[],S0⟩,h1 ns hl,?_⟩;refine⟨λ_ _ _ _ _ q=>q.elim,λd n v rho2 sg2 H2 ⟨os2,I2⟩ q=>?_,λ_ _ _ _ _ q=>q.elim,λ_ _ _ _ _ q=>q.elim⟩;subst q;rw[I2.pop.2.bl_inv]
    exact k H2)
end
@[simp] theorem zI6{ns:List Int}:yL (wC ns)=true:=rfl
@[simp] theorem zz4{ns:List Int}{k:D->Prop}:zF7 [wC ns] k↔k (.int ns.length):=by unfold wC;simp
def Jk{K:W.Frag}{G G':Option Addr}{Z Z':Addr->Prop}{H H':Hp}{ns:List Int}{v:V}(h:Rep K G Z H (wC ns) v)(hz:∀a o u,¬ Z a->H a=some (.frz o u)->¬ Z' a/\H' a=some (.frz o u)):Rep K G' Z' H' (wC ns) v:=by
 unfold wC Rep at h ⊢;obtain⟨a,xs,rfl,sq,rs⟩:=h
 refine⟨a,xs,rfl,?_,by rw[qe rs];exact kQ⟩
 rcases sq with ⟨nz,o,e⟩ |sq
 ·obtain⟨z1,z2⟩:=hz a o _ nz e;exact .inl ⟨z1,o,z2⟩
 ·exact .inr sq
end L2
namespace L2
open PySem PySem.Spec PyProof.Rows PySem.SeqAt
mutual
def eqD:D->D->Bool
 |.non,.non=>true
 |.bl a,.bl b=>a == b
 |.bl a,.int i=>(if a then 1 else 0) == i
 |.int i,.bl a=>i == (if a then 1 else 0)
 |.int i,.int j=>i == j
 |.str x,.str y=>x == y
 |.tup xs,.tup ys=>jI xs ys
 |.lst xs,.lst ys=>jI xs ys
 |_,_=>false
def jI:List D->List D->Bool
 |[],[]=>true
 |x::xs,y::ys=>eqD x y&&jI xs ys
 |_,_=>false
end
mutual
def okE:D->Nat->Bool
 |.non,_=>true
 |.bl _,_=>true
 |.int _,_=>true
 |.str _,_=>true
 |.tup ds,k=>match k with
  |0=>false
  |k+1=>Yb ds k
 |.lst ds,k=>match k with
  |0=>false
  |k+1=>Yb ds k
 |_,_=>false
def Yb:List D->Nat->Bool
 |[],_=>true
 |d::ds,k=>okE d k&&Yb ds k
end
theorem jE:∀{ds:List D}{k i:Nat}{d:D},Yb ds k=true->ds[i]?=some d->okE d k=true
 |[],k,i,d,_,e=>by simp at e
 |c::ds,k,0,d,h,e=>by
  simp at e;subst e;unfold Yb at h;rw[xB] at h;exact h.1
 |c::ds,k,i+1,d,h,e=>by
  unfold Yb at h;rw[xB] at h
  exact jE (i:=i) h.2 (by simpa using e)
def eAt(xs ys:List D)(j:Nat):Bool:=match xs[j]?,ys[j]? with
 |some x,some y=>eqD x y
 |_,_=>true
def YE(n:Nat)(e:Nat->Bool):(List.range (n+1)).all e=(e 0&&(List.range n).all λj=>e (j+1)):=by
 rw[List.range_succ_eq_map,List.all_cons,List.all_map];rfl
theorem ZA:∀(xs ys:List D),((List.range (min xs.length ys.length)).all (eAt xs ys)&&xs.length == ys.length)=jI xs ys
 |[],[]=>by unfold jI;rfl
 |[],y::ys=>by unfold jI;simp
 |x::xs,[]=>by unfold jI;simp
 |x::xs,y::ys=>by
  have ih:=ZA xs ys;unfold jI;rw[<- ih]
  have e1:min (x::xs).length (y::ys).length=min xs.length ys.length+1:=by simp only[zu];lia
  rw[e1,YE]
  have e2:((x::xs).length == (y::ys).length)=(xs.length == ys.length):=by simp
  rw[e2,Bool.and_assoc];rfl
def Va{xs ys:List D}(h:xs.length=ys.length):(List.range xs.length).all (eAt xs ys)=jI xs ys:=by
 rw[<- ZA,h];simp
def zq4{xs ys:List D}(h:xs.length≠ys.length):jI xs ys=false:=by
 rw[<- ZA];simp[h]
theorem zf0:∀{xs ys:List D},xs.length=ys.length->(∀(j:Nat) (x y:D),xs[j]?=some x->ys[j]?=some y->eqD x y=true)->jI xs ys=true
 |[],[],_,_=>by unfold jI;rfl
 |[],y::ys,h,_=>by simp at h
 |x::xs,[],h,_=>by simp at h
 |x::xs,y::ys,h,q=>by
  unfold jI
  rw[q 0 x y rfl rfl,zf0 (by simpa using h) λj a b ha hb=>q (j+1) a b (by simpa using ha) (by simpa using hb)]
  rfl
def Reps.get2{K:W.Frag}{G:Option Addr}{Z:Addr->Prop}{H:Hp}{ds:List D}{vs:List V}{i:Nat}{d:D}{v:V}(h:Reps K G Z H ds vs)(e:ds[i]?=some d)(e':vs[i]?=some v):Rep K G Z H d v:=by
 obtain⟨u,h1,h2⟩:=h.get e;rw[h1] at e';cases e';exact h2
section
variable {X:Cx}{pins:List (Addr × Obj)}{σ:St}{H:Hp}{s:Shared}{G:Option Addr}{Z:Addr->Prop}
def Kb(I:Inv X pins σ H s):∀(k:Nat) (d1 d2:D) (v:V),okE d1 k=true->okE d2 k=true->Rep X.K G Z H d1 v->Rep X.K G Z H d2 v->eqD d1 d2=true:=by
 intro k
 induction k with
 | zero =>
  intro d1 d2 v h1 h2 r1 r2
  cases d1<;>cases d2<;>first
   |(simp[okE] at h1;done) |(simp[okE] at h2;done)
   |(have e1:=r1.toS rfl;have e2:=r2.toS rfl;rw[e1] at e2;simp[ofS] at e2;done)
   |(have e1:=r1.toS rfl;have e2:=r2.toS rfl;rw[e1] at e2;simp[ofS] at e2;simp[eqD,e2])
 | succ k ih =>
  have seq:∀{ds es:List D}{xs:List V},Yb ds k=true->Yb es k=true->Reps X.K G Z H ds xs->Reps X.K G Z H es xs->jI ds es=true:=λ{ds es xs} h1 h2 r1 r2=>by
   refine zf0 (r1.length.symm.trans r2.length) λj x y hx hy=>?_;obtain⟨u,hu,ru⟩:=r1.get hx;exact ih x y u (jE h1 hx) (jE h2 hy) ru (r2.get2 hy hu)
  intro d1 d2 v h1 h2 r1 r2
  cases d1<;>cases d2<;>try (first
   |(simp[okE] at h1;done) |(simp[okE] at h2;done)
   |(have e1:=r1.toS rfl;have e2:=r2.toS rfl;rw[e1] at e2;simp[ofS] at e2;done)
   |(have e1:=r1.toS rfl;have e2:=r2.toS rfl;rw[e1] at e2;simp[ofS] at e2;simp[eqD,e2];done)
   |(obtain⟨a,xs,e,_⟩:=r1.tup_inv;have e2:=r2.toS rfl;rw[e] at e2;simp[ofS] at e2;done)
   |(obtain⟨a,xs,e,_⟩:=r1.lst_inv;have e2:=r2.toS rfl;rw[e] at e2;simp[ofS] at e2;done)
   |(obtain⟨a,xs,e,_⟩:=r2.tup_inv;have e2:=r1.toS rfl;rw[e] at e2;simp[ofS] at e2;done)
   |(obtain⟨a,xs,e,_⟩:=r2.lst_inv;have e2:=r1.toS rfl;rw[e] at e2;simp[ofS] at e2;done))
  ·rename_i ds es;obtain⟨a,xs,e,sq,rs⟩:=r1.tup_inv;obtain⟨b,ys,e',sq',rs'⟩:=r2.tup_inv;rw[e] at e';cases e';have:=I.tuple_inj sq.sq sq'.sq;subst this;unfold eqD
   exact seq (by simpa [okE] using h1) (by simpa [okE] using h2) rs rs'
  ·rename_i ds es;obtain⟨a,xs,e,sq,rs⟩:=r1.tup_inv;obtain⟨b,ys,e',sq',rs'⟩:=r2.lst_inv;rw[e] at e';cases e';obtain⟨its,rv,pl,hz⟩:=I.tuple sq.sq;obtain⟨its',rv',pl',hz'⟩:=I.list sq'.sq;exact absurd rfl (ne_of_list_tuple pl'.isList (show s.heap.IsTuple a its.toArray from pl))
  ·rename_i ds es;obtain⟨a,xs,e,sq,rs⟩:=r1.lst_inv;obtain⟨b,ys,e',sq',rs'⟩:=r2.tup_inv;rw[e] at e';cases e';obtain⟨its,rv,pl,hz⟩:=I.list sq.sq;obtain⟨its',rv',pl',hz'⟩:=I.tuple sq'.sq;exact absurd rfl (ne_of_list_tuple pl.isList (show s.heap.IsTuple a its'.toArray from pl'))
  ·rename_i ds es;obtain⟨a,xs,e,sq,rs⟩:=r1.lst_inv;obtain⟨b,ys,e',sq',rs'⟩:=r2.lst_inv;rw[e] at e';cases e';have:=I.list_inj sq.sq sq'.sq;subst this;unfold eqD
   exact seq (by simpa [okE] using h1) (by simpa [okE] using h2) rs rs'
def rcC{A:Around}{s:Shared}{y x:Value}{b c:Bool}(h:RcAt A s y x b)(e:b=c):RcAt A s y x c:=e ▸ h
def rnC{A:Around}{s:Shared}{y x:Value}{b c:Bool}(h:RcNeAt A s y x b)(e:b=c):RcNeAt A s y x c:=e ▸ h
def eqC{A:Around}{s:Shared}{y x:Value}{b c:Bool}(h:EqAt A s y x b)(e:b=c):EqAt A s y x c:=e ▸ h
def E3(A:Around)(s:Shared)(u1 u2:Value)(b:Bool):Prop:=EqAt A s u1 u2 b/\RcAt A s u1 u2 b/\RcNeAt A s u1 u2 (!b)
def E3.cast{A:Around}{s:Shared}{y x:Value}{b c:Bool}(h:E3 A s y x b)(e:b=c):E3 A s y x c:=e ▸ h
def zi3:D->D->Bool
 |.tup _,.tup _=>true
 |.lst _,.lst _=>true
 |_,_=>false
def ShE(s:Shared):D->Value->Prop
 |.non,u=>u=.none
 |.bl x,u=>u=.bool x
 |.int x,u=>∃t,u=.int x t
 |.str x,u=>∃t,u=.str x t
 |.tup _,u=>∃a its,u=.ref a/\s.heap.IsTuple a its
 |.lst _,u=>∃a its,u=.ref a/\s.heap.IsList a its
 |_,_=>False
def shE(I:Inv X pins σ H s){k:Nat}{d:D}{v:V}{u:Value}(h:okE d k=true)(r:Rep X.K G Z H d v)(q:RelV v u):ShE s d u:=by
 cases d with
 |non=>have:=r.toS rfl;subst this;exact q
 |bl x=>have:=r.toS rfl;subst this;exact q
 |int x=>have:=r.toS rfl;subst this;exact q
 |str x=>have:=r.toS rfl;subst this;exact q
 |tup x=>
  obtain⟨a,xs,w,sq,_⟩:=r.tup_inv;subst w;obtain⟨its,_,pl,_⟩:=I.tuple sq.sq;exact⟨a,its.toArray,q,pl⟩
 |lst x=>
  obtain⟨a,xs,w,sq,_⟩:=r.lst_inv;subst w;obtain⟨its,_,pl,_⟩:=I.list sq.sq;exact⟨a,its.toArray,q,pl.isList⟩
 |_=>simp[okE] at h
section
local macro_rules
 | `(tactic|nomatch $n:ident,$t,*)=>do
  let f:=fun(p:Lean.Name)=>Lean.mkIdent (p++n.getId)
  let t:=t.getElems
  `(tactic|exact E3.cast ⟨$(f `EqAt) $t*,$(f `RcAt) $t*,$(f `RcNeAt) $t*⟩ (by unfold eqD;rfl))
def zv4(I:Inv X pins σ H s){k:Nat}{d1 d2:D}{v1 v2:V}{u1 u2:Value}{A:Around}(h1:okE d1 k=true)(h2:okE d2 k=true)(r1:Rep X.K G Z H d1 v1)(r2:Rep X.K G Z H d2 v2)(q1:RelV v1 u1)(q2:RelV v2 u2)
  (hu:A.units<cLine) (hb:zi3 d1 d2=false):E3 A s u1 u2 (eqD d1 d2):=by
 have g1:=shE I h1 r1 q1;have g2:=shE I h2 r2 q2;clear h1 h2 r1 r2 q1 q2
 cases d1 with
 |non=>
  cases g1
  cases d2 with
  |non=>cases g2;exact E3.cast ⟨EqAt.same _,RcAt.none_none,RcNeAt.none_none⟩ (by unfold eqD;rfl)
  |bl=>cases g2;nomatch none_bool,_
  |int=>obtain⟨_,rfl⟩:=g2;nomatch none_int,_,_
  |str=>obtain⟨_,rfl⟩:=g2;nomatch none_str,_,_
  |tup=>obtain⟨_,_,rfl,L⟩:=g2;nomatch none_tuple,L,hu
  |lst=>obtain⟨_,_,rfl,L⟩:=g2;nomatch none_list,L,hu
  |_=>exact g2.elim
 |bl x1=>
  cases g1
  cases d2 with
  |non=>cases g2;nomatch bool_none,_
  |bl=>cases g2;nomatch bool_bool,_,_
  |int=>obtain⟨_,rfl⟩:=g2;nomatch bool_int,_,_,_
  |str=>obtain⟨_,rfl⟩:=g2;nomatch bool_str,_,_,_
  |tup=>obtain⟨_,_,rfl,L⟩:=g2;nomatch bool_tuple,_,L,hu
  |lst=>obtain⟨_,_,rfl,L⟩:=g2;nomatch bool_list,_,L,hu
  |_=>exact g2.elim
 |int x1=>
  obtain⟨t1,rfl⟩:=g1
  cases d2 with
  |non=>cases g2;nomatch int_none,_,_
  |bl=>cases g2;nomatch int_bool,_,_,_
  |int=>obtain⟨_,rfl⟩:=g2;nomatch int_int,_,_,_,_
  |str=>obtain⟨_,rfl⟩:=g2;nomatch int_str,_,_,_,_
  |tup=>obtain⟨_,_,rfl,L⟩:=g2;nomatch int_tuple,_,_,L,hu
  |lst=>obtain⟨_,_,rfl,L⟩:=g2;nomatch int_list,_,_,L,hu
  |_=>exact g2.elim
 |str x1=>
  obtain⟨t1,rfl⟩:=g1
  cases d2 with
  |non=>cases g2;nomatch str_none,_,_
  |bl=>cases g2;nomatch str_bool,_,_,_
  |int=>obtain⟨_,rfl⟩:=g2;nomatch str_int,_,_,_,_
  |str=>obtain⟨_,rfl⟩:=g2;nomatch str_str,_,_,_,_
  |tup=>obtain⟨_,_,rfl,L⟩:=g2;nomatch str_tuple,_,_,L,hu
  |lst=>obtain⟨_,_,rfl,L⟩:=g2;nomatch str_list,_,_,L,hu
  |_=>exact g2.elim
 |tup x1=>
  obtain⟨a1,i1,rfl,L1⟩:=g1
  cases d2 with
  |non=>cases g2;nomatch tuple_none,L1,hu
  |bl=>cases g2;nomatch tuple_bool,_,L1,hu
  |int=>obtain⟨_,rfl⟩:=g2;nomatch tuple_int,_,_,L1,hu
  |str=>obtain⟨_,rfl⟩:=g2;nomatch tuple_str,_,_,L1,hu
  |tup=>cases hb
  |lst=>obtain⟨_,_,rfl,L⟩:=g2;nomatch tuple_list,L1,L,hu
  |_=>exact g2.elim
 |lst x1=>
  obtain⟨a1,i1,rfl,L1⟩:=g1
  cases d2 with
  |non=>cases g2;nomatch list_none,L1,hu
  |bl=>cases g2;nomatch list_bool,_,L1,hu
  |int=>obtain⟨_,rfl⟩:=g2;nomatch list_int,_,_,L1,hu
  |str=>obtain⟨_,rfl⟩:=g2;nomatch list_str,_,_,L1,hu
  |tup=>obtain⟨_,_,rfl,L⟩:=g2;nomatch list_tuple,L1,L,hu
  |lst=>cases hb
  |_=>exact g2.elim
 |_=>exact g1.elim
end
def ze9(I:Inv X pins σ H s):∀(k:Nat) (d1 d2:D) (v1 v2:V) (u1 u2:Value) (A:Around),okE d1 k=true->okE d2 k=true->Rep X.K G Z H d1 v1->Rep X.K G Z H d2 v2->RelV v1 u1->RelV v2 u2 ->
  A.units+k<cLine->E3 A s u1 u2 (eqD d1 d2):=by
 intro k
 induction k with
 |zero=>
  intro d1 d2 v1 v2 u1 u2 A h1 h2 r1 r2 q1 q2 hu
  refine zv4 I h1 h2 r1 r2 q1 q2 w5 ?_
  cases d1<;>first |rfl |(simp[okE] at h1;done)
 | succ k ih =>
  intro d1 d2 v1 v2 u1 u2 A h1 h2 r1 r2 q1 q2 hu
  by_cases hb:zi3 d1 d2=false
  ·exact zv4 I h1 h2 r1 r2 q1 q2 w5 hb
  have items:∀{ds es:List D}{xs ys:List V}{its its':List Value},Yb ds k=true->Yb es k=true->Reps X.K G Z H ds xs->Reps X.K G Z H es ys->Vals xs its->Vals ys its' ->
    ∀(j:Nat) (l1:j<its.toArray.size) (l2:j<its'.toArray.size),EqAt A.in1 s its.toArray[j] its'.toArray[j] (eAt ds es j):=λ{ds es xs ys its its'} h1 h2 r1 r2 rv rv' j l1 l2=>by
   have l1':j<its.length:=by simpa using l1
   have l2':j<its'.length:=by simpa using l2
   have a1:j<ds.length:=by rw[<- r1.length,rv.length];exact l1'
   have a2:j<es.length:=by rw[<- r2.length,rv'.length];exact l2'
   have g1:ds[j]?=some ds[j]:=zj a1;have g2:es[j]?=some es[j]:=zj a2;obtain⟨w1,e1,p1⟩:=r1.get g1;obtain⟨w2,e2,p2⟩:=r2.get g2;obtain⟨z1,f1,t1⟩:=rv.get e1;obtain⟨z2,f2,t2⟩:=rv'.get e2
   have m1:its.toArray[j]=z1:=by
    have:its[j]?=some its[j]:=zj l1';rw[f1] at this
    simpa using (zF this).symm
   have m2:its'.toArray[j]=z2:=by
    have:its'[j]?=some its'[j]:=zj l2';rw[f2] at this
    simpa using (zF this).symm
   have e3:eAt ds es j=eqD ds[j] es[j]:=by unfold eAt;rw[g1,g2]
   rw[m1,m2,e3]
   exact(ih _ _ _ _ _ _ A.in1 (jE h1 g1) (jE h2 g2) p1 p2 t1 t2 (by show A.units+1+k<cLine;lia)).1
  cases d1 with
  | tup ds =>
   cases d2 with
   | tup es =>
    have s1:=r1;have s2:=r2;obtain⟨a,xs,e,sq,rs⟩:=r1.tup_inv;obtain⟨b,ys,e',sq',rs'⟩:=r2.tup_inv;subst e e';have c1:u1=.ref a:=q1;have c2:u2=.ref b:=q2;subst c1 c2;obtain⟨its,rv,pl,hz⟩:=I.tuple sq.sq;obtain⟨its',rv',pl',hz'⟩:=I.tuple sq'.sq
    have it:=items (by simpa [okE] using h1) (by simpa [okE] using h2) rs rs' rv rv'
    have n1:its.toArray.size=ds.length:=by rw[<- rs.length,rv.length];simp
    have n2:its'.toArray.size=es.length:=by rw[<- rs'.length,rv'.length];simp
    have ev:((List.range (min its.toArray.size its'.toArray.size)).all (eAt ds es)&&its.toArray.size == its'.toArray.size)=eqD (.tup ds) (.tup es):=by
     rw[n1,n2,ZA];unfold eqD;rfl
    have R:=rcC (RcAt.tuples (A:=A) (show s.heap.IsTuple a its.toArray from pl) (show s.heap.IsTuple b its'.toArray from pl') w5 it) ev
    have N:=rnC (RcNeAt.tuples (A:=A) (show s.heap.IsTuple a its.toArray from pl) (show s.heap.IsTuple b its'.toArray from pl') w5 it) (congrArg (!·) ev)
    refine⟨?_,R,N⟩
    by_cases hab:a=b
    ·subst hab;exact eqC (EqAt.same _) (Kb I (k+1) _ _ _ h1 h2 s1 s2).symm
    ·exact .of_refs hab R
   |_=>exact absurd rfl hb
  | lst ds =>
   cases d2 with
   | lst es =>
    have s1:=r1;have s2:=r2;obtain⟨a,xs,e,sq,rs⟩:=r1.lst_inv;obtain⟨b,ys,e',sq',rs'⟩:=r2.lst_inv;subst e e';have c1:u1=.ref a:=q1;have c2:u2=.ref b:=q2;subst c1 c2;obtain⟨its,rv,pl,hz⟩:=I.list sq.sq;obtain⟨its',rv',pl',hz'⟩:=I.list sq'.sq
    have it:=items (by simpa [okE] using h1) (by simpa [okE] using h2) rs rs' rv rv'
    have n1:its.toArray.size=ds.length:=by rw[<- rs.length,rv.length];simp
    have n2:its'.toArray.size=es.length:=by rw[<- rs'.length,rv'.length];simp
    have R:RcAt A s (.ref a) (.ref b) (eqD (.lst ds) (.lst es))/\RcNeAt A s (.ref a) (.ref b) (!eqD (.lst ds) (.lst es)):=by
     by_cases hl:ds.length=es.length
     ·have ev : (List.range its.toArray.size).all (eAt ds es) = eqD (.lst ds) (.lst es) := by rw [n1, Va hl]; unfold eqD; rfl
      exact⟨rcC (RcAt.lists (A:=A) pl.isList pl'.isList (by rw[n1,n2,hl]) w5 it) ev,rnC (RcNeAt.lists (A:=A) pl.isList pl'.isList (by rw[n1,n2,hl]) w5 it) (congrArg (!·) ev)⟩
     ·have ev : false = eqD (.lst ds) (.lst es) := by unfold eqD; exact (zq4 hl).symm
      have hs:(its.toArray.size != its'.toArray.size)=true:=by rw[n1,n2];simpa using hl
      exact⟨rcC (RcAt.lists_lengths (A:=A) pl.isList pl'.isList hs w5) ev,rnC (RcNeAt.lists_lengths (A:=A) pl.isList pl'.isList hs w5) (congrArg (!·) ev)⟩
    refine⟨?_,R⟩
    by_cases hab:a=b
    ·subst hab;exact eqC (EqAt.same _) (Kb I (k+1) _ _ _ h1 h2 s1 s2).symm
    ·exact .of_refs hab R.1
   |_=>exact absurd rfl hb
  |_=>exact absurd rfl hb
def EqV(X:Cx)(H:Hp)(x y:V)(b:Bool):Prop:=∀pins s σ v u,Inv X pins σ H s->RelV x v->RelV y u->∀A:Around,A.units+60<cLine->E3 A s v u b
def xq2(X:Cx):R2:=λx y H Q=>∃b,EqV X H x y b/\Q (.bl b) H
def xq1(X:Cx):R2:=λx y H Q=>∃b,EqV X H x y b/\Q (.bl (!b)) H
def zu4{n:Nat}(hr:Room n X.A):OpR X (compareOp .Eq) (xq2 X):=by
 intro pins s σ H x y v u Q I rx ry h;obtain⟨b,e,q⟩:=h
 exact(e pins s σ v u I rx ry X.A (by have:=hr.units;lia)).2.1 X.prog X.w X.xe _ ⟨.bl b,H,I,rfl,q⟩
def Ku{n:Nat}(hr:Room n X.A):OpR X (compareOp .NotEq) (xq1 X):=by
 intro pins s σ H x y v u Q I rx ry h;obtain⟨b,e,q⟩:=h
 exact(e pins s σ v u I rx ry X.A (by have:=hr.units;lia)).2.2 X.prog X.w X.xe _ ⟨.bl (!b),H,I,rfl,q⟩
def zM3:RD2:=λd1 d2 k=>okE d1 20=true/\okE d2 20=true/\k (.bl (eqD d1 d2))
def zl5:RD2:=λd1 d2 k=>okE d1 20=true/\okE d2 20=true/\k (.bl (!eqD d1 d2))
def zt1{A:AC}(hK:X.K=A.K):kN A (xq2 X) zM3:=by
 rintro os n rho sg H ds vs d1 d2 v1 v2 k Q I ⟨h1,h2,q⟩ hQ;obtain⟨I1,r2⟩:=I.pop;obtain⟨I2,r1⟩:=I1.pop;rw[<- hK] at r1 r2
 exact⟨eqD d1 d2,λpins s σ v u J rx ry B hu=>ze9 J 20 d1 d2 v1 v2 v u B h1 h2 r1 r2 rx ry w5,hQ _ H _ ⟨os,I2.push (Rep.ofS rfl)⟩ q⟩
def Kc{A:AC}(hK:X.K=A.K):kN A (xq1 X) zl5:=by
 rintro os n rho sg H ds vs d1 d2 v1 v2 k Q I ⟨h1,h2,q⟩ hQ;obtain⟨I1,r2⟩:=I.pop;obtain⟨I2,r1⟩:=I1.pop;rw[<- hK] at r1 r2
 exact⟨eqD d1 d2,λpins s σ v u J rx ry B hu=>ze9 J 20 d1 d2 v1 v2 v u B h1 h2 r1 r2 rx ry w5,hQ _ H _ ⟨os,I2.push (Rep.ofS rfl)⟩ q⟩
@[simp] theorem xh0{d1 d2 k}:zM3 d1 d2 k=(okE d1 20=true/\okE d2 20=true/\k (.bl (eqD d1 d2))):=rfl
@[simp] theorem xg9{d1 d2 k}:zl5 d1 d2 k=(okE d1 20=true/\okE d2 20=true/\k (.bl (!eqD d1 d2))):=rfl
end
end L2
namespace L2
section
variable {A:AC}{X:Cx}{e a b:Expr}{es:List Expr}{te ta tb:TD}{t1:TAD}{pos p:Pos}
def Uk(d:D)(p:List D->Prop):Prop:=∃fs,d=.lst fs/\p fs
@[simp] theorem xh8{fs p}:Uk (.lst fs) p↔p fs:=⟨fun⟨_,e,h⟩=>by cases e;exact h,λh=>⟨_,rfl,h⟩⟩
def xc2(i:Nat)(te:TD):TSD:=λF rho n=>i<rho.length/\te rho n λd n1=>Uk d λfs=>F.nx (rho.set i (some (.own fs))) n1
@[simp] theorem xf2{i te F rho n}:xc2 i te F rho n=(i<rho.length/\te rho n λd n1=>Uk d λfs=>F.nx (rho.set i (some (.own fs))) n1):=rfl
def zG9(i:Nat):TD:=λrho n P=>ZX rho[i]? λes=>P (.int es.length) n
@[simp] theorem zN2{i rho n P}:zG9 i rho n P=ZX rho[i]? λes=>P (.int es.length) n:=rfl
def FnOk.botK{P:Program}{w:World}{K:W.Frag}{mg:Str->Option Value}{base:Heap}{f:Addr}{fd:FuncData}{ps:List Str}{k L:Nat}{t:TF}(ht:∀ds n Q,¬ t ds n Q):FnOk P w K mg base CX0 L f fd ps (spD K k t):=by
 refine⟨λvs H Q E h=>?_,λA outer s H args us vs Q E _ _ _ _ h=>?_⟩
 ·obtain⟨G,Z,n,R,ds,hl,rs,hst,gz,z0,h,_⟩:=h;exact(ht _ _ _ h).elim
 ·obtain⟨G,Z,n,R,ds,hl,rs,hst,gz,z0,h,_⟩:=h;exact(ht _ _ _ h).elim
end
def yK{own:Nat}{g:TGD}{te:TD}{rho:Rho}{n:Nat}{P:D->Nat->Prop}{α:Type}(enc:α->D)(f:α->D)(xs:List α)
  (hz:xs.length<=sizeLine) (he:∀x∈xs,∀Q,Q (f x) n->g (enc x) (replicate own none++rho) λrho'=>rho'.drop own=rho/\te rho' n Q) (hP:P (.lst (xs.map f)) n):Vd own g zJ3 te rho P (xs.map enc) n:=
 zr9 (it:=λ_ n R=>R (xs.map enc) n) (rho:=rho) enc f xs (λR h=>h) hz he hP
def QJ{d:D}{T:String}{k:D->Prop}(hT:T = "bool" \/ T = "int" \/ T = "str" \/ T = "tuple" \/ T = "list"):zJ1 [d,.ty T] k↔(XQ d=true/\k (.bl (zG0 T d))):=
 ⟨fun⟨d',T',e,_,h1,h2⟩=>by cases e;exact⟨h1,h2⟩,λh=>⟨d,T,rfl,hT,h.1,h.2⟩⟩
@[simp] theorem zN1{d:D}{k:D->Prop}:zJ1 [d,.ty "bool"] k↔(XQ d=true/\k (.bl (zG0 "bool" d))):=QJ w6
@[simp] theorem zY8{d:D}{k:D->Prop}:zJ1 [d,.ty "int"] k↔(XQ d=true/\k (.bl (zG0 "int" d))):=QJ w6
@[simp] theorem zY7{d:D}{k:D->Prop}:zJ1 [d,.ty "str"] k↔(XQ d=true/\k (.bl (zG0 "str" d))):=QJ w6
@[simp] theorem zI7{d:D}{k:D->Prop}:zJ1 [d,.ty "tuple"] k↔(XQ d=true/\k (.bl (zG0 "tuple" d))):=QJ w6
@[simp] theorem zN0{d:D}{k:D->Prop}:zJ1 [d,.ty "list"] k↔(XQ d=true/\k (.bl (zG0 "list" d))):=QJ w6
@[simp] theorem xg6{i j:Str}{k}:zy9 (.str i) (.str j) k↔k (.bl (decide (i=j))):=by
 have e:decide (ofS (.str i)=ofS (.str j))=decide (i=j):=by simp[ofS]
 unfold zy9;rw[e];exact⟨λh=>h.2.2.2,λh=>⟨rfl,rfl,rfl,h⟩⟩
theorem okEs_iff:∀{ds:List D}{k:Nat},Yb ds k=true↔∀d∈ds,okE d k=true
 |[],k=>by unfold Yb;simp
 |c::ds,k=>by
  unfold Yb;rw[xB,okEs_iff];simp
def okE_tup{ds:List D}{k:Nat}:okE (.tup ds) (k+1)=true↔∀d∈ds,okE d k=true:=by
 have e:okE (.tup ds) (k+1)=Yb ds k:=by rw[okE]
 rw[e,okEs_iff]
def zJ0(es:List D)(k:List D->Prop):Prop:=∃d1 d2 b1 xs b2 ys,es=[d1,d2]/\Wk d1=some (b1,xs)/\Wk d2=some (b2,ys)/\k (zw6 xs ys)
@[simp] theorem xj3{t:TAD}{rho n P}:xn5 t rho n P↔t rho n λes n1=>zJ0 es λl=>P l n1:=Iff.rfl
def Kg{d1 d2:D}{b1 b2 xs ys}{k:List D->Prop}(h1:Wk d1=some (b1,xs))(h2:Wk d2=some (b2,ys)):zJ0 [d1,d2] k↔k (zw6 xs ys):=by
 constructor
 ·rintro⟨_,_,_,_,_,_,e,e1,e2,h⟩;cases e;rw[h1] at e1;rw[h2] at e2;cases e1;cases e2;exact h
 ·intro h;exact⟨_,_,_,_,_,_,rfl,h1,h2,h⟩
@[simp] theorem zX9{xs ys}{k:List D->Prop}:zJ0 [.tup xs,.tup ys] k↔k (zw6 xs ys):=Kg rfl rfl
@[simp] theorem zY0{xs ys}{k:List D->Prop}:zJ0 [.tup xs,.lst ys] k↔k (zw6 xs ys):=Kg rfl rfl
@[simp] theorem zY1{xs ys}{k:List D->Prop}:zJ0 [.lst xs,.tup ys] k↔k (zw6 xs ys):=Kg rfl rfl
@[simp] theorem zY2{xs ys}{k:List D->Prop}:zJ0 [.lst xs,.lst ys] k↔k (zw6 xs ys):=Kg rfl rfl
theorem Yx(f:Nat->Int)(bt:Nat->Nat->Bool)(h:∀i j,bt i j=true↔f j<f i):∀k,argBest bt k<=k/\∀i,i<=k->f i<=f (argBest bt k)
 |0=>⟨zd _,λi hi=>by cases Nat.le_zero.mp hi;exact Int.le_refl _⟩
 | k + 1 => by
  obtain⟨h1,h2⟩:=Yx f bt h k;rw[argBest.eq_2]
  by_cases hb:bt (k+1) (argBest bt k)=true
  ·rw [if_pos hb];have hb':=(h _ _).mp hb;refine⟨zd _,λi hi=>?_⟩
   by_cases e:i=k+1
   ·subst e;exact Int.le_refl _
   ·have:=h2 i w5;lia
  ·rw [if_neg hb];have hb':¬ f (argBest bt k)<f (k+1):=λz=>hb ((h _ _).mpr z)
   refine⟨w5,λi hi=>?_⟩
   by_cases e:i=k+1
   ·subst e;lia
   ·exact h2 i w5
def Vals.ints_at{ns:List Int}{us:List Value}(h:Vals (ns.map V.int) us){i:Nat}{v:Value}(e:us[i]?=some v):i<ns.length/\∃t,v=.int (ns[i]?.getD 0) t:=by
 have hl:us.length=ns.length:=by have:=h.length;simpa using this.symm
 have hi:i<ns.length:=by rw[<- hl];exact(zP.mp e).1
 refine⟨hi,?_⟩
 have e2:(ns.map V.int)[i]?=some (.int ns[i]):=by rw[zB,zj hi];rfl
 obtain⟨u,hu,r⟩:=h.get e2;rw[e] at hu;cases hu;obtain⟨t,rfl⟩:=r
 exact⟨t,by rw[zj hi];rfl⟩
section
variable {X:Cx}
def zh5(hc:X.calm=true):qw X (.builtin "max") (λxs H Q=>∃(p:Addr) (ns:List Int),xs=[.ref p]/\SqL X.K H p (ns.map V.int)/\0<ns.length/\∀M,M∈ns->(∀a∈ns,a<=M)->Q (.int M) H):=by
 intro pins s σ H xs us Q I r h;obtain⟨p,ns,rfl,hq,hn,q⟩:=h
 cases r with
 | cons r rr =>
  cases rr;cases r;obtain⟨its,rv,pl,_⟩:=I.list hq;have hl:=pl.isList
  have hlt:p<s.heap.objs.size:=by obtain⟨_,e,_⟩:=hl;exact zA e
  have hsz:its.length=ns.length:=by have:=rv.length;simpa using this.symm
  refine call_max_walk (wpAny_pyIter_list hl ⟨s.heap.objs.size,[s.heap.objs.size,p],[s.heap.objs.size],its.toArray.size,_,_,λi j=>decide (ns[j]?.getD 0<ns[i]?.getD 0),rfl,
   Walks.list (A:=X.A.in1) (I.ok.hd hc) _ p (xa hlt) _,⟨⟨_,zD _ rfl,rfl,rfl⟩,hl.push _⟩,λb hb=>?_,?_,λi j vi vj s' Q' E' hi hj hQ=>?_,λv h' tk hP hk=>?_⟩)
  ·simp only [zh, wb, or_false] at hb
   rcases hb with rfl |rfl
   ·simp[Heap.push]
   ·exact Nat.lt_trans hlt (by simp[Heap.push])
  ·rw[zt,hsz];exact hn
  ·have hi' : its[i]? = some vi := by simpa using hi
   have hj':its[j]?=some vj:=by simpa using hj
   obtain⟨_,ti,rfl⟩:=rv.ints_at hi';obtain⟨_,tj,rfl⟩:=rv.ints_at hj';exact(PyProof.Rows.gt_int hQ:wpAny (model X.prog X.w) X.A.in1 (compareOp .Gt _ _) Q' E' s')
  ·have hP' : its[argBest (λi j => decide (ns[j]?.getD 0 < ns[i]?.getD 0)) (its.toArray.size - 1)]? = some v := by simpa using hP
   obtain⟨hlt2,t,rfl⟩:=rv.ints_at hP'
   obtain⟨hb1,hb2⟩:=Yx (λi=>ns[i]?.getD 0) (λi j=>decide (ns[j]?.getD 0<ns[i]?.getD 0)) (λi j=>by simp) (its.toArray.size-1)
   generalize argBest (λi j=>decide (ns[j]?.getD 0<ns[i]?.getD 0)) (its.toArray.size-1)=m at *;refine⟨.int (ns[m]?.getD 0),H,I.kept (zu5 hk),⟨_,rfl⟩,q _ ?_ λa ha=>?_⟩
   ·rw[zj hlt2];exact getElem_mem hlt2
   ·obtain ⟨i, hi, rfl⟩ := List.mem_iff_getElem.mp ha
    have:=hb2 i (by rw[zt,hsz];lia)
    rw[zj hi] at this;exact this
def zh4(hc:X.calm=true):qw X (.builtin "min") (λxs H Q=>∃(p:Addr) (ns:List Int),xs=[.ref p]/\SqL X.K H p (ns.map V.int)/\0<ns.length/\∀M,M∈ns->(∀a∈ns,M<=a)->Q (.int M) H):=by
 intro pins s σ H xs us Q I r h;obtain⟨p,ns,rfl,hq,hn,q⟩:=h
 cases r with
 | cons r rr =>
  cases rr;cases r;obtain⟨its,rv,pl,_⟩:=I.list hq;have hl:=pl.isList
  have hlt:p<s.heap.objs.size:=by obtain⟨_,e,_⟩:=hl;exact zA e
  have hsz:its.length=ns.length:=by have:=rv.length;simpa using this.symm
  refine call_min_walk (wpAny_pyIter_list hl ⟨s.heap.objs.size,[s.heap.objs.size,p],[s.heap.objs.size],its.toArray.size,_,_,λi j=>decide (ns[i]?.getD 0<ns[j]?.getD 0),rfl,
   Walks.list (A:=X.A.in1) (I.ok.hd hc) _ p (xa hlt) _,⟨⟨_,zD _ rfl,rfl,rfl⟩,hl.push _⟩,λb hb=>?_,?_,λi j vi vj s' Q' E' hi hj hQ=>?_,λv h' tk hP hk=>?_⟩)
  ·simp only [zh, wb, or_false] at hb
   rcases hb with rfl |rfl
   ·simp[Heap.push]
   ·exact Nat.lt_trans hlt (by simp[Heap.push])
  ·rw[zt,hsz];exact hn
  ·have hi' : its[i]? = some vi := by simpa using hi
   have hj':its[j]?=some vj:=by simpa using hj
   obtain⟨_,ti,rfl⟩:=rv.ints_at hi';obtain⟨_,tj,rfl⟩:=rv.ints_at hj';exact(PyProof.Rows.lt_int hQ:wpAny (model X.prog X.w) X.A.in1 (compareOp .Lt _ _) Q' E' s')
  ·have hP' : its[argBest (λi j => decide (ns[i]?.getD 0 < ns[j]?.getD 0)) (its.toArray.size - 1)]? = some v := by simpa using hP
   obtain⟨hlt2,t,rfl⟩:=rv.ints_at hP'
   obtain⟨hb1,hb2⟩:=Yx (λi=>- ns[i]?.getD 0) (λi j=>decide (ns[i]?.getD 0<ns[j]?.getD 0)) (λi j=>by simp) (its.toArray.size-1)
   generalize argBest (λi j=>decide (ns[i]?.getD 0<ns[j]?.getD 0)) (its.toArray.size-1)=m at *;refine⟨.int (ns[m]?.getD 0),H,I.kept (zu5 hk),⟨_,rfl⟩,q _ ?_ λa ha=>?_⟩
   ·rw[zj hlt2];exact getElem_mem hlt2
   ·obtain ⟨i, hi, rfl⟩ := List.mem_iff_getElem.mp ha
    have:=hb2 i (by rw[zt,hsz];lia)
    rw[zj hi] at this;have e:(some ns[i]).getD 0=ns[i]:=rfl;rw[e] at this;lia
end
section
variable {A:AC}
theorem vG{K:W.Frag}{G:Option Addr}{Z:Addr->Prop}{H:Hp}:∀{bs:List Int}{ws:List V},Reps K G Z H (bs.map D.int) ws->ws=bs.map V.int
 |[],ws,h=>h.nil_inv
 |b::bs,ws,h=>by
  obtain⟨v,r,rfl,q,t⟩:=h.split;rw[q.int_inv,vG t];rfl
def zR9:List D->(D->Prop)->Prop:=λes k=>∃i j,es=[.int i,.int j]/\k (.int (if j > i then j else i))
def zR7:List D->(D->Prop)->Prop:=λes k=>∃i j,es=[.int i,.int j]/\k (.int (if j<i then j else i))
def zS0:List D->(D->Prop)->Prop:=λes k=>∃ns:List Int,es=[.lst (ns.map D.int)]/\0<ns.length/\∀M,M∈ns->(∀a∈ns,a<=M)->k (.int M)
def zR8:List D->(D->Prop)->Prop:=λes k=>∃ns:List Int,es=[.lst (ns.map D.int)]/\0<ns.length/\∀M,M∈ns->(∀a∈ns,M<=a)->k (.int M)
@[simp] theorem xi5{i j k}:zR9 [.int i,.int j] k↔k (.int (if j > i then j else i)):=⟨fun⟨_,_,e,h⟩=>by cases e;exact h,λh=>⟨_,_,rfl,h⟩⟩
@[simp] theorem xi4{i j k}:zR7 [.int i,.int j] k↔k (.int (if j<i then j else i)):=⟨fun⟨_,_,e,h⟩=>by cases e;exact h,λh=>⟨_,_,rfl,h⟩⟩
def zg7:vd A (λxs H Q=>∃i j,xs=[.int i,.int j]/\Q (.int (if j > i then j else i)) H) zR9:=by
 rintro os n rho sg H ds vs es ws k Q I rs ⟨i,j,rfl,q⟩ hQ;obtain⟨v,v',rfl,r,r'⟩:=QB rs
 exact⟨i,j,by rw[r.int_inv,r'.int_inv],hQ _ H _ ⟨os,I.push (Rep.ofS rfl)⟩ q⟩
def zg6:vd A (λxs H Q=>∃i j,xs=[.int i,.int j]/\Q (.int (if j<i then j else i)) H) zR7:=by
 rintro os n rho sg H ds vs es ws k Q I rs ⟨i,j,rfl,q⟩ hQ;obtain⟨v,v',rfl,r,r'⟩:=QB rs
 exact⟨i,j,by rw[r.int_inv,r'.int_inv],hQ _ H _ ⟨os,I.push (Rep.ofS rfl)⟩ q⟩
def zH1:vd A (λxs H Q=>∃(p:Addr) (ns:List Int),xs=[.ref p]/\SqL A.K H p (ns.map V.int)/\0<ns.length/\∀M,M∈ns->(∀a∈ns,a<=M)->Q (.int M) H) zS0:=by
 rintro os n rho sg H ds vs es ws k Q I rs ⟨ns,rfl,hn,q⟩ hQ;obtain⟨v,rfl,r⟩:=kC rs;obtain⟨a,xs,rfl,sq,rr⟩:=r.lst_inv;have e:=vG rr;subst e;exact⟨a,ns,rfl,sq.sq,hn,λM h1 h2=>hQ _ H _ ⟨os,I.push (Rep.ofS rfl)⟩ (q M h1 h2)⟩
def zH0:vd A (λxs H Q=>∃(p:Addr) (ns:List Int),xs=[.ref p]/\SqL A.K H p (ns.map V.int)/\0<ns.length/\∀M,M∈ns->(∀a∈ns,M<=a)->Q (.int M) H) zR8:=by
 rintro os n rho sg H ds vs es ws k Q I rs ⟨ns,rfl,hn,q⟩ hQ;obtain⟨v,rfl,r⟩:=kC rs;obtain⟨a,xs,rfl,sq,rr⟩:=r.lst_inv;have e:=vG rr;subst e;exact⟨a,ns,rfl,sq.sq,hn,λM h1 h2=>hQ _ H _ ⟨os,I.push (Rep.ofS rfl)⟩ (q M h1 h2)⟩
def zh9:bootBuiltins "max" = some (.builtin "max"):=x4
def zh8:bootBuiltins "min" = some (.builtin "min"):=x4
end
def Uy{own:Nat}{g:TGD}{tt:TBD}{te:TD}{rho:Rho}{n:Nat}{P:D->Nat->Prop}{α:Type}(enc:α->D)(keep:α->Bool)(f:α->D)(xs:List α)(hz:xs.length<=sizeLine)
  (he:∀x∈xs,∀(R:D->Nat->Prop) (S:Nat->Prop),(keep x=true->R (f x) n)->(keep x=false->S n)->g (enc x) (replicate own none++rho) λrho'=>rho'.drop own=rho/\tt rho' n λc n2=>if c=true then te rho' n2 R else S n2)
  (hP:P (.lst ((xs.filter keep).map f)) n):Vd own g tt te rho P (xs.map enc) n:=by
 refine⟨by simpa using hz,λi acc n'=>n'=n/\acc=((xs.take i).filter keep).map f,⟨rfl,rfl⟩,?_,?_⟩
 ·rintro i d acc n' e ⟨rfl, rfl⟩;rw[zB] at e
  cases q:xs[i]? with
  |none=>rw[q] at e;cases e
  |some x=>
   rw[q] at e;cases e;have hm:x∈xs:=wo q
   have et:xs.take (i+1)=xs.take i++[x]:=by rw[xq,q];rfl
   refine he x hm (λe n3=>n3=n'/\((xs.take i).filter keep).map f++[e]=((xs.take (i+1)).filter keep).map f) (λn3=>n3=n'/\((xs.take i).filter keep).map f=((xs.take (i+1)).filter keep).map f) (λhk=>⟨rfl,?_⟩) (λhk=>⟨rfl,?_⟩)
   ·rw[et,List.filter_append];simp[hk]
   ·rw[et,List.filter_append];simp[hk]
 ·rintro acc n' ⟨rfl,rfl⟩;rw[zn,wD];exact hP
def okE_lst{ds:List D}{k:Nat}:okE (.lst ds) (k+1)=true↔∀d∈ds,okE d k=true:=by
 have e:okE (.lst ds) (k+1)=Yb ds k:=by rw[okE]
 rw[e,okEs_iff]
def zb1{i:Int}{k:Nat}:okE (.int i) k=true:=by simp[okE]
def zt6(K:W.Frag):R2:=λx y H Q=>∃a b xs ys,x=.ref a/\y=.ref b/\SqT K H a xs/\SqT K H b ys/\xs.length+ys.length<=sizeLine /\
 (xs=[]->Q (.ref b) H)/\(xs≠[]->ys=[]->Q (.ref a) H)/\(xs≠[]->ys≠[]->∀p,H p=none->Q (.ref p) (upd H p (.tup (xs++ys))))
section
variable {X:Cx}
def zn7:OpR X (binaryOp .Add) (zt6 X.K):=by
 intro pins s σ H x y v u Q I rx ry h;obtain⟨a,b,xs,ys,rfl,rfl,ha,hb,hz,q0,q1,q2⟩:=h
 by_cases hx:xs=[]
 ·cases rx;cases ry;obtain⟨its,r1,p1,_⟩:=I.tuple ha;obtain⟨its2,r2,p2,_⟩:=I.tuple hb;have hi:its=[]:=r1.nil_iff.mpr hx;obtain⟨⟨cls,dd,data,sl⟩,ho,hc,n,hd⟩:=id p1;obtain⟨⟨cls2,dd2,data2,sl2⟩,ho2,hc2,n2,hd2⟩:=id p2;simp only at hc hd hc2 hd2;subst hc hd hc2 hd2
  exact PySem.concat_meets ⟨_,ho,rfl⟩ ⟨_,ho2,rfl⟩ PySem.noFill_tuple_add PySem.seq_tuple_add PySem.F.slot_tuple_add PySem.F.entry_tuple_add (PySem.F.args_tuple_add_2 _ _)
   (tuple_addW0 a b its.toArray its2.toArray n n2 dd dd2 sl sl2 (by simp[hi])) ⟨ho,ho2,⟨.ref b,H,I,rfl,q0 hx⟩⟩
 ·exact zD1 pins s σ H _ _ v u Q I rx ry ⟨a,b,xs,ys,rfl,rfl,ha,hb,hx,hz,q1 hx,q2 hx⟩
end
section
variable {A:AC}
def zt4:RD2:=λd1 d2 k=>∃es fs,d1=.tup es/\d2=.tup fs/\es.length+fs.length<=sizeLine/\k (.tup (es++fs))
@[simp] theorem zX3{es fs k}:zt4 (.tup es) (.tup fs) k↔(es.length+fs.length<=sizeLine/\k (.tup (es++fs))):=⟨fun⟨_,_,e,e',h⟩=>by cases e;cases e';exact h,λh=>⟨_,_,rfl,rfl,h⟩⟩
def zy6:kN A (zt6 A.K) zt4:=by
 rintro os n rho sg H ds vs d1 d2 v1 v2 k Q I ⟨es,fs,rfl,rfl,hz,q⟩ hQ;obtain⟨I1,r2⟩:=I.pop;obtain⟨I2,r1⟩:=I1.pop;have r1':=r1;have r2':=r2;obtain⟨a,xs,e,sq,rs⟩:=r1.tup_inv;obtain⟨b,ys,e',sq',rs'⟩:=r2.tup_inv;subst e e'
 refine⟨a,b,xs,ys,rfl,rfl,sq.sq,sq'.sq,by rw[rs.length,rs'.length];exact hz,λhx=>?_,λhx hy=>?_,λhx hy p hp=>?_⟩
 ·have he : es = [] := by have := rs.length; rw [hx] at this; exact wB this.symm
  subst he;exact hQ _ H _ ⟨os,I2.push r2'⟩ q
 ·have he : fs = [] := by have := rs'.length; rw [hy] at this; exact wB this.symm
  subst he;rw[xX] at q;exact hQ _ H _ ⟨os,I2.push r1'⟩ q
 ·exact hQ _ _ _ ⟨os,I2.newTup (rs.append rs') hp⟩ q
end
section
variable {A:AC}{X:Cx}{a b c e:Expr}{es:List Expr}{te ta tb tc:TD}{t1:TAD}{pos p:Pos}
def Zb(d:D)(k:Int->Prop):Prop:=∃i,d=.int i/\k i
@[simp] theorem xj2{i:Int}{k}:Zb (.int i) k↔k i:=⟨fun⟨_,e,h⟩=>by cases e;exact h,λh=>⟨_,rfl,h⟩⟩
def zV1(f g:Int->Int->Bool)(ta tb tc:TD):TD:=λrho n P=>ta rho n λd1 n1=>tb rho n1 λd2 n2=>Zb d1 λi=>Zb d2 λj=>if f i j=true then tc rho n2 λd3 n3=>Zb d3 λk=>P (.bl (g j k)) n3 else P (.bl false) n2
@[simp] theorem xa1{f g ta tb tc rho n P}:zV1 f g ta tb tc rho n P=ta rho n λd1 n1=>tb rho n1 λd2 n2=>Zb d1 λi=>Zb d2 λj=>if f i j=true then tc rho n2 λd3 n3=>Zb d3 λk=>P (.bl (g j k)) n3 else P (.bl false) n2:=rfl
def zT2(t:TAD):TID:=λrho n P=>t rho n λes n1=>Jr es λd1 d2=>Zb d1 λi=>Zb d2 λj=>(-(2^62)<=i/\i<2^62/\-(2^62)<=j/\j<2^62)/\P (VG i (j-i).toNat) n1
@[simp] theorem zY9{t rho n P}:zT2 t rho n P=t rho n λes n1=>Jr es λd1 d2=>Zb d1 λi=>Zb d2 λj=>(-(2^62)<=i/\i<2^62/\-(2^62)<=j/\j<2^62)/\P (VG i (j-i).toNat) n1:=rfl
def zx8(i:Nat)(t:TAD):TSD:=λF rho n=>ZX rho[i]? λes=>t rho n λds n1=>∃fs,ds=[.lst fs]/\es.length+fs.length<=sizeLine/\F.nx (rho.set i (some (.own (es++fs)))) n1
@[simp] theorem zM7{i t F rho n}:zx8 i t F rho n=ZX rho[i]? λes=>t rho n λds n1=>∃fs,ds=[.lst fs]/\es.length+fs.length<=sizeLine/\F.nx (rho.set i (some (.own (es++fs)))) n1:=rfl
end
theorem qx:∀{us:List Value}{ns:List Int},IntsAre us ns->Vals (ns.map V.int) us
 |_,_,.nil=>.nil
 |_,_,.cons n t h=>.cons ⟨t,rfl⟩ (qx h)
section
variable {X:Cx}{A:AC}
def qJ:bootBuiltins "sorted" = some (.builtin "sorted"):=x4
end
def zj9{x y:Str}{px py pt:Pos}{kt k2 pt2}{a b:Expr}{env:Env}(hk:env.blockKind=.function)(hx:env.kindOf x=some .local)(hy:env.kindOf y=some .local)(hl:py.line=px.line)(hxy:x≠y)
  (hsa:yX a=false) (hsb:yX b=false) (hf:[a,b].all (foldedForSure 8)=false) (hc:[a,b].all (constantsAlone 8)=false) :
  swappedStores [.Tuple [.Name x px,.Name y py] kt pt] (.Tuple [a,b] k2 pt2) env=pure (some [x,y]):=by
 have e2:(y == x)=false:=beq_false_of_ne (Ne.symm hxy);have e:(Expr.Name x px).pos.line=px.line:=rfl;unfold swappedStores;simp[hk,hx,hy,hl,hf,hc,e,List.eraseDups,List.eraseDupsBy,List.eraseDupsBy.loop,e2];intro h
 exfalso
 rcases h with h |h
 ·cases a<;>first |(simp at h;done) |(simp[yX] at hsa;done)
 ·cases b<;>first |(simp at h;done) |(simp[yX] at hsb;done)
section
variable {A:AC}{X:Cx}{a b:Expr}{pos:Pos}
def Kk{i j:Nat}{x y:Str}{ta:TAD}{px py pt:Pos}{kt k2 pt2}(hc:X.calm=true)(hN:X.N.Nodup)(hi:X.N[i]?=some x)(hj:X.N[j]?=some y)(hij:i≠j)
  (hx:X.env.scope.names.lookup x=some .local) (hy:X.env.scope.names.lookup y=some .local) (ha:PAD A X [a,b] ta)
  (hk:X.env.blockKind=.function:=by rfl) (hl:py.line=px.line:=by rfl) (hxy:x≠y:=by decide) (hsa:yX a=false:=by rfl) (hsb:yX b=false:=by rfl) (hf:[a,b].all (foldedForSure 8)=false:=by decide +kernel) (hca:[a,b].all (constantsAlone 8)=false:=by decide +kernel) :
  PSD A X (.Assign [.Tuple [.Name x px,.Name y py] kt pt] (.Tuple [a,b] k2 pt2) pos) (zW1 i j ta):=by
 exists 
   zA3 hc hN hi hj hij hx hy ha (zj9 hk hx hy hl hxy hsa hsb hf hca) rfl
end
def zm0{A:AC}{X:Cx}{e:Expr}{t:TBD}(h:PTD A X e t):PTs X [e] (Vt A t):=by exists zz7 h
end L2
namespace L2
open PySem PySem.Spec PyProof.Rows HT
section
variable {prog:Program}{w:World}{A:Around}{E:Value->Shared->Prop}{s:Shared}
def jk{t sl:Addr}{items:Array Value}{vl vu:Value}{lo hi:Option Int}{Q:Value->Shared->Prop}(ht:IsTup s.heap t items)(hs:s.heap.IsSliceOf sl vl vu .none)(pl:IsPart vl lo)(pu:IsPart vu hi)
  (h1:sIx items.size 0 lo=0) (h2:sIx items.size items.size hi=items.size) (h:Q (.ref t) s):wpAny (model prog w) A (getItem (.ref t) (.ref sl)) Q E s:=by
 obtain⟨os,hos,hcs,hds⟩:=id hs;have hTs:s.TypeIs (.ref sl) "slice" := ⟨os,hos,hcs⟩;unfold getItem
 try with_reducible refine wF ?_
 first |refine zb (zf ?_) |skip
 refine zb (wpAny_sequenceKey ht.typeIs w6 ?_)
 refine zb (wpAny_callSpecial?_slot (name:=Str.ofString "__getitem__") ht.typeIs PyProof.Rows.slot_tuple_getitem
  (wpAny_call_entry PyProof.Rows.slot_tuple_getitem ht.typeIs entry_tuple_getitem ?_ (args_tuple_getitem _ _)))
 show wpAny _ _ (Builtin.Tuple.tupleItemsOf (.ref t) >>= _) _ _ s;refine zb (tupleItemsOf_ ht ?_);refine zb (wpAny_typeOf hTs ?_)
 rw[if_pos w6]
 refine zb (qr hs pl pu ?_)
 have hyes:((((sIx items.size 0 lo:Nat):Int) == 0&&(1:Int) == 1&&(sIx items.size items.size hi-sIx items.size 0 lo) == items.size)=true):=by
  rw[h1,h2];simp
 show wpAny _ _ (if (((sIx items.size 0 lo:Nat):Int) == 0&&(1:Int) == 1&&(sIx items.size items.size hi-sIx items.size 0 lo) == items.size)=true then _ else _) _ _ s
 rw[if_pos hyes];obtain⟨⟨cls,dd,data,sl'⟩,ho,hc,n,hd⟩:=id ht;simp only at hc hd;subst hc hd;unfold Builtin.Tuple.tupleIsExact;obtain⟨hp,g,d,tk,os'⟩:=s
 wp_walk
 exact⟨_,rfl,zf h⟩
end
section
variable {X:Cx}
def xd8(K:W.Frag):V->Option Int->Option Int->Hp->VK->Prop:=λx lo hi H Q=>∃a xs,x=.ref a/\SqT K H a xs /\
 ((HT.sIx xs.length 0 lo=0/\HT.sIx xs.length xs.length hi=xs.length)->Q (.ref a) H)/\(¬ (HT.sIx xs.length 0 lo=0/\HT.sIx xs.length xs.length hi=xs.length)->∀p,H p=none->Q (.ref p) (upd H p (.tup (zr7 xs lo hi))))
def zx3:SlR X (xd8 X.K):=by
 intro pins s σ H x v vl vu lo hi sl Q I rx hs pl pu h;obtain⟨a,xs,rfl,hx,q1,q2⟩:=h
 by_cases hw:HT.sIx xs.length 0 lo=0/\HT.sIx xs.length xs.length hi=xs.length
 ·cases rx;obtain⟨its,r,ht,hz⟩:=I.tuple hx
  have hlen:its.toArray.size=xs.length:=by rw[zt];exact r.length.symm
  refine⟨"tuple",_,PyProof.Rows.slot_tuple_getitem.lookup,ht.typeIs,?_⟩
  exact jk ht hs pl pu (by rw[hlen];exact hw.1) (by rw[hlen];exact hw.2) ⟨.ref a,H,I,rfl,q1 hw⟩
 ·exact zK5 pins s σ H (.ref a) v vl vu lo hi sl Q I rx hs pl pu ⟨a,xs,rfl,hx,hw,q2 hw⟩
end
abbrev TOD:=Rho->Nat->(Option Int->Nat->Prop)->Prop
def oOf(A:AC)(t:TOD):TO:=λsg H Q=>∃rho n P ds vs,Am A n rho sg H ds vs/\t rho n P/\∀o H' n',Am A n' rho sg H' ds vs->P o n'->Q o H'
@[irreducible] def POD(A:AC)(X:Cx)(e:Option Expr)(t:TOD):Prop:=PO X e (oOf A t)
def PO.imp{X:Cx}{e:Option Expr}{t t':TO}(h:PO X e t)(hi:∀sg H Q,t' sg H Q->t sg H Q):PO X e t':=λpins s sg H Q I q=>h pins s sg H Q I (hi _ _ _ q)
section
variable {A:AC}{X:Cx}{a b c e:Expr}{es:List Expr}{te ta tb tc:TD}{t1:TAD}{pos p:Pos}
def zQ3:TOD:=λ_ n P=>P none n
def zQ2(t:TD):TOD:=λrho n P=>t rho n λd n1=>Zb d λi=>P (some i) n1
@[simp] theorem xh6{rho n P}:zQ3 rho n P=P none n:=rfl
@[simp] theorem xh5{t rho n P}:zQ2 t rho n P=t rho n λd n1=>Zb d λi=>P (some i) n1:=rfl
def qg:POD A X none zQ3:=by
 exists zB1.imp λsg H Q h=>by
   obtain⟨rho,n,P,ds,vs,I,h,hQ⟩:=h;exact hQ none H n I h
def qf(h:PD A X e te):POD A X (some e) (zQ2 te):=by
 exists (zB0 h).imp λsg H Q h=>by
   obtain⟨rho,n,P,ds,vs,I,h,hQ⟩:=h;refine⟨rho,n,_,ds,vs,I,h,λv H' n' d ⟨os,J⟩ k=>?_⟩;obtain⟨i,rfl,k⟩:=k;obtain⟨J1,r⟩:=J.pop;exact⟨i,r.int_inv,hQ _ H' n' ⟨os,J1⟩ k⟩
def Vs(d:D)(k:List D->Prop):Prop:=∃fs,d=.tup fs/\k fs
@[simp] theorem QE{fs:List D}{k}:Vs (.tup fs) k↔k fs:=⟨fun⟨_,e,h⟩=>by cases e;exact h,λh=>⟨_,rfl,h⟩⟩
def xv5(ta:TD)(tl th:TOD):TD:=λrho n P=>ta rho n λd n1=>tl rho n1 λlo n2=>th rho n2 λhi n3=>Vs d λfs=>P (.tup (Yu fs lo hi)) n3
@[simp] theorem xs4{ta tl th rho n P}:xv5 ta tl th rho n P=ta rho n λd n1=>tl rho n1 λlo n2=>th rho n2 λhi n3=>Vs d λfs=>P (.tup (Yu fs lo hi)) n3:=rfl
def zg4{fs:List D}{lo hi:Option Int}(h:HT.sIx fs.length 0 lo=0/\HT.sIx fs.length fs.length hi=fs.length):Yu fs lo hi=fs:=by
 unfold Yu;rw[h.1,h.2,wX,Nat.sub_zero,wD]
def Kr{le he:Option Expr}{tl th:TOD}{p2:Pos}(hK:X.K=A.K)(ha:PD A X a ta)(hl:POD A X le tl)(hh:POD A X he th):PD A X (.Subscript a (.Slice le he none p2) pos) (xv5 ta tl th):=by
 exists (Ko zx3 ha hl hh).imp λsg H Q h=>by
   obtain⟨rho,n,P,ds,vs,I,ht,hQ⟩:=h;refine⟨rho,n,_,ds,vs,I,ht,λv H1 n1 d J1 h1=>⟨rho,n1,_,_,_,J1,h1,λlo H2 n2 J2 h2=>⟨rho,n2,_,_,_,J2,h2,λhi H3 n3 ⟨os,J3⟩ h3=>?_⟩⟩⟩;obtain⟨fs,rfl,k⟩:=h3;obtain⟨J4,r⟩:=J3.pop;have r':=r;obtain⟨l,xs,rfl,sq,rs⟩:=r.tup_inv;rw[hK];have hlen:xs.length=fs.length:=rs.length;refine⟨l,xs,rfl,sq.sq,λhw=>?_,λhw p hp=>hQ _ _ n3 _ ⟨os,J4.newTup (Xv rs lo hi) hp⟩ k⟩;rw[hlen] at hw;rw[zg4 hw] at k;exact hQ _ H3 n3 _ ⟨os,J4.push r'⟩ k
end
end L2
namespace L2
section
variable {A:AC}{X:Cx}{a b c e:Expr}{es:List Expr}{te ta tb tc:TD}{t1:TAD}{pos p:Pos}
end
section
variable {A:AC}{X:Cx}
end
section
variable {A:AC}{X:Cx}{pos p:Pos}
def xD1(t:TF):TD:=λ_ n P=>t [] n P
@[simp] theorem xt0{t rho n P}:xD1 t rho n P=t [] n P:=rfl
end
section
variable {A:AC}{X:Cx}{a b e:Expr}{ta tb:TD}{pos p:Pos}
def zk3(i:Nat)(ta tb:TD):TSD:=λF rho n=>i<rho.length/\ta rho n λd1 n1=>tb rho n1 λd2 n2=>Uk d1 λes=>Uk d2 λfs=>es.length+fs.length<=sizeLine/\F.nx (rho.set i (some (.own (es++fs)))) n2
@[simp] theorem zI3{i ta tb F rho n}:zk3 i ta tb F rho n=(i<rho.length/\ta rho n λd1 n1=>tb rho n1 λd2 n2=>Uk d1 λes=>Uk d2 λfs=>es.length+fs.length<=sizeLine/\F.nx (rho.set i (some (.own (es++fs)))) n2):=rfl
def xB8:List D->(D->Prop)->Prop:=λes k=>∃i:Int,es=[.int i]/\i.natAbs.log2<1920/\k (.str (toString i))
@[simp] theorem xr4{i:Int}{k}:xB8 [.int i] k↔(i.natAbs.log2<1920/\k (.str (toString i))):=⟨fun⟨_,e,h⟩=>by cases e;exact h,λh=>⟨_,rfl,h⟩⟩
end
end L2
namespace L2
open PySem PySem.Spec PyProof.Rows HT
section
variable {prog:Program}{w:World}{A:Around}{E:Value->Shared->Prop}{s:Shared}
theorem KI{f g:Nat->Option Value}:∀{l:List Nat},(∀x∈l,f x=g x)->l.filterMap f=l.filterMap g
 |[],_=>rfl
 |a::l,h=>by
  rw[wN,wN,h a (zo ..),KI λx hx=>h x (zk _ hx)]
def zm5(xs:Array Value):((List.range xs.size).filterMap fun(m:Nat)=>xs[((xs.size:Int)-1+(m:Int)*(-1)).toNat]?).toArray=xs.toList.reverse.toArray:=by
 have h:=Km xs.toList.reverse.toArray 0 xs.size
 have e:(List.range xs.size).filterMap (fun(m:Nat)=>xs[((xs.size:Int)-1+(m:Int)*(-1)).toNat]?)=(List.range xs.size).filterMap (fun(m:Nat)=>xs.toList.reverse.toArray[((0:Nat)+(m:Int)*1).toNat]?):=by
  refine KI λm hm=>?_;have hm':=yn.mp hm
  have e1:((xs.size:Int)-1+(m:Int)*(-1)).toNat=xs.size-1-m:=w5
  have e2:(((0:Nat):Int)+(m:Int)*1).toNat=m:=w5
  rw[e1,e2];simp only[List.getElem?_toArray]
  rw[List.getElem?_reverse (by simpa using hm')]
  simp
 rw[e,h]
 congr 1
 rw[wX]
 exact wa (by simp)
end
section
variable {X:Cx}{e:Expr}{te:TE}{pos p2:Pos}
end
section
variable {A:AC}{X:Cx}{a:Expr}{ta:TD}{pos p2 p3 p4:Pos}
theorem Reps.reverse{K:W.Frag}{G:Option Addr}{Z:Addr->Prop}{H:Hp}:∀{ds:List D}{vs:List V},Reps K G Z H ds vs->Reps K G Z H ds.reverse vs.reverse
 |[],vs,h=>by rw[h.nil_inv];exact .nil
 |d::ds,vs,h=>by
  obtain⟨v,r,rfl,q,t⟩:=h.split;rw[reverse_cons,reverse_cons];exact(Reps.reverse t).append (.cons q .nil)
def xC8(ta:TD):TD:=λrho n P=>ta rho n λd n1=>Vs d λfs=>P (.tup fs.reverse) n1
@[simp] theorem xs6{ta rho n P}:xC8 ta rho n P=ta rho n λd n1=>Vs d λfs=>P (.tup fs.reverse) n1:=rfl
end
end L2
namespace L2
open PySem PySem.Spec PyProof.Rows PySem.W PySem.Calls PySem.NumText
section
variable {A:AC}{X:Cx}{e:Expr}{te:TD}{pos:Pos}
def zs8(tc:TBD)(tb:TSD):TSD:=λF rho n=>∃J:Nat->Rho->Nat->Prop,(∃m,J m rho n)/\∀m rho n,J m rho n->tc rho n λb n1=>if b=true then tb { F with nx:=λrho' n'=>∃m',m'<m/\J m' rho' n',ct:=λrho' n'=>∃m',m'<m/\J m' rho' n',bk:=F.nx } rho n1 else F.nx rho n1
def ZR{c:Expr}{body:List Stmt}{tc:TBD}{tb:TSD}(hp:PassesOwn (model X.prog X.w) X.A X.env X.xe)(hc:PTD A X c tc)(hb:JX A X body tb):PSD A X (.While c body [] pos) (zs8 tc tb):=by
 exists (zm3 hp hc hb).imp λE sg H h=>by
   obtain⟨rho,n,F,ds,vs,I,⟨J,⟨m0,j0⟩,turn⟩,ok⟩:=h;refine⟨λm sg H=>∃rho n,Am A n rho sg H ds vs/\J m rho n,⟨m0,rho,n,I,j0⟩,?_⟩;rintro m sg1 H1 ⟨rho1,n1,I1,j1⟩;refine⟨rho1,n1,_,ds,vs,I1,turn m rho1 n1 j1,λb H2 n2 I2 k=>?_⟩
   cases b with
   |true=>
    rw[if_pos rfl] at k ⊢;refine⟨λsg' H'=>∃m',m'<m/\∃rho n,Am A n rho sg' H' ds vs/\J m' rho n,λsg' H' ⟨m',hm,q⟩=>⟨m',hm,q⟩,rho1,n2,_,ds,vs,I2,k,?_⟩;exact⟨λrho6 n6 sg6 H6 I6 ⟨m',hm,k6⟩=>⟨m',hm,rho6,n6,I6,k6⟩,λd n6 v rho6 sg6 H6 I6 k6=>ok.rt _ _ _ _ _ _ I6 k6,λrho6 n6 sg6 H6 I6 k6=>ok.nx _ _ _ _ I6 k6,λrho6 n6 sg6 H6 I6 ⟨m',hm,k6⟩=>⟨m',hm,rho6,n6,I6,k6⟩⟩
   |false=>
    rw[if_neg zQ] at k ⊢;exact ok.nx _ _ _ _ I2 k
@[simp] theorem zW2{tc tb F rho n}:zs8 tc tb F rho n=∃J:Nat->Rho->Nat->Prop,(∃m,J m rho n)/\∀m rho n,J m rho n->tc rho n λb n1=>if b=true then tb { F with nx:=λrho' n'=>∃m',m'<m/\J m' rho' n',ct:=λrho' n'=>∃m',m'<m/\J m' rho' n',bk:=F.nx } rho n1 else F.nx rho n1:=rfl
def zL5(f:Int->Int->Int)(i:Nat)(te:TD):TSD:=λF rho n=>i<rho.length/\∃a:Int,rho[i]?=some (some (.int a))/\te rho n λd n1=>∃b:Int,d=.int b/\F.nx (rho.set i (some (.int (f a b)))) n1
def zm2{i:Nat}{x:Str}{op:Operator}{f:Int->Int->Int}{pos':Pos}(ho:PIp X op (ipI f))(hN:X.N.Nodup)(hi:X.N[i]?=some x)(hx:Loc X.env.scope x)(he:PD A X e te)(hf:X.fn x=true\/X.env.scope.names.lookup x=some .local:=by first |exact .inl rfl |exact .inr rfl |assumption) :
  PSD A X (.AugAssign (.Name x pos') op e pos) (zL5 f i te):=by
 exists (zO1 hN hi hx he ho hf).imp λE sg H h=>by
   obtain⟨rho,n,F,ds,vs,⟨os,I⟩,⟨hl,a,ha,ht⟩,ok⟩:=h;obtain⟨v,e1,e2⟩:=I.slot i _ ha;have e3:=SlotR.rep (d:=.int a) rfl e2;refine⟨v,e1,rho,n,_,ds,vs,⟨os,I⟩,ht,λw H' n' d ⟨os',J⟩ k=>?_⟩;obtain⟨b,rfl,k⟩:=k;obtain⟨J1,r⟩:=J.pop;refine⟨a,b,e3.int_inv,r.int_inv,ok.nx _ _ _ _ ⟨_,AmO.set (d:=.int (f a b)) (J1.push (Rep.ofS rfl)) hl⟩ k⟩
@[simp] theorem xg0{f i te F rho n}:zL5 f i te F rho n=(i<rho.length/\∃a:Int,rho[i]?=some (some (.int a))/\te rho n λd n1=>∃b:Int,d=.int b/\F.nx (rho.set i (some (.int (f a b)))) n1):=rfl
def zt5:RD2:=λd1 d2 k=>∃x y,d1=.str x/\d2=.str y/\x.length+y.length<=sizeLine/\k (.str (x++y))
def zy7:kN A (λx y H Q=>∃i j,x=.str i/\y=.str j/\i.length+j.length<=sizeLine/\Q (.str (i++j)) H) zt5:=by
 rintro os n rho sg H ds vs d1 d2 v1 v2 k Q I ⟨x,y,rfl,rfl,hz,q⟩ hQ;obtain⟨I1,r2⟩:=I.pop;obtain⟨I2,r1⟩:=I1.pop;exact⟨x,y,r1.toS rfl,r2.toS rfl,hz,hQ _ H _ ⟨os,I2.push (Rep.ofS rfl)⟩ q⟩
@[simp] theorem zX4{x y k}:zt5 (.str x) (.str y) k↔(x.length+y.length<=sizeLine/\k (.str (x++y))):=⟨fun⟨_,_,e,e',h⟩=>by cases e;cases e';exact h,λh=>⟨_,_,rfl,rfl,h⟩⟩
def zC9:OpR X (binaryOp .Mult) (λx y H Q=>∃i n,x=.str i/\y=.int n/\MulOk i n/\Q (.str (Txt.mul i n)) H):=by
 intro pins s σ H x y v u Q I rx ry h;obtain⟨i,n,rfl,rfl,hz,q⟩:=h;obtain⟨t,rfl⟩:=rx;obtain⟨t',rfl⟩:=ry;exact SB.mul hz λt' k=>⟨.str (Txt.mul i n),H,I.tok _,⟨_,rfl⟩,q⟩
def zt3:RD2:=λd1 d2 k=>∃x i,d1=.str x/\d2=.int i/\MulOk x i/\k (.str (Txt.mul x i))
def zy5:kN A (λx y H Q=>∃i n,x=.str i/\y=.int n/\MulOk i n/\Q (.str (Txt.mul i n)) H) zt3:=by
 rintro os n rho sg H ds vs d1 d2 v1 v2 k Q I ⟨x,y,rfl,rfl,hz,q⟩ hQ;obtain⟨I1,r2⟩:=I.pop;obtain⟨I2,r1⟩:=I1.pop;exact⟨x,y,r1.toS rfl,r2.toS rfl,hz,hQ _ H _ ⟨os,I2.push (Rep.ofS rfl)⟩ q⟩
@[simp] theorem zX0{x i k}:zt3 (.str x) (.int i) k↔(MulOk x i/\k (.str (Txt.mul x i))):=⟨fun⟨_,_,e,e',h⟩=>by cases e;cases e';exact h,λh=>⟨_,_,rfl,rfl,h⟩⟩
end
def zw7{M:Model}{A:Around}{E:Value->Shared->Prop}{s:Shared}{Q:Value->Shared->Prop}{v:Value}{text:List Nat}{n:Int}
    (hs:¬ (text.takeWhile (· != 0)).length<=640) (hr:(int_private% "readNumeral") 4300 10 (text.takeWhile (· != 0))=(int_private% "Numeral.value") n)
    (ha:((text.takeWhile (· != 0)).length == text.length)=true) (hn:s.heap.NoDigits) (h:Q (.int n s.toks) { s with toks:=s.toks+1 }) :
    wpAny M A ((int_private% "intFromText") v text 10) Q E s:=by
  obtain⟨mc,hns,hnone⟩:=hn;obtain⟨hp,g,d,tk,os⟩:=s
  have hi:∀{Q:Nat->Shared->Prop},Q 4300 ⟨hp,g,d,tk,os⟩->wpAny M A Builtin.intMaxStrDigits Q E ⟨hp,g,d,tk,os⟩:=λ{Q} q=>by
    unfold Builtin.intMaxStrDigits;refine zb (wpAny_nsGet hns ?_);rw[hnone];exact zf q
  repeat (any_goals (first
    |assumption
    |(with_reducible refine wpAny_ite_false (zU hs) ?_)
    |(with_reducible refine wpAny_ite_true (xC ha) ?_)
    |(with_reducible refine hi ?_)
    |wp_step))
  all_goals (try rw[hr])
  all_goals (try dsimp only)
  repeat (any_goals (first
    |assumption
    |(with_reducible refine wpAny_ite_true (xC ha) ?_)
    |wp_step))
set_option maxHeartbeats 4000000 in
def Jx{x:PySem.Str}{u:Tok}{n:Int}(hs:¬ (numSeenOf x).length<=640)(hl:x.length<=sizeLine)(hn:PySem.intText? x=some n):Meets (Builtin.«int.__new__» ⟨[.type "int",.str x u],[]⟩) (λA R s=>s.heap.NoDigits/\R (.ok (.ret (.int n s.toks))) { s with toks:=s.toks+1 }):=by
 intro prog w A R s h;obtain⟨hd,h⟩:=h;obtain⟨hp,g,d,tk,os⟩:=s;have f1:=F.conv_sub_int;have f2:=F.madeHere_int;have f3:=KIN.str_int;have f4:=KIN.str_idx;have f5:=KIN.str_trunc;have f6:typeOf (.str x u)=pure (.type "str"):=rfl
 have hr:(int_private% "readNumeral") 4300 10 (numSeenOf x)=(int_private% "Numeral.value") n/\((numSeenOf x).length == (numTextOf x).length)=true:=by
  rcases read4300 x hl with ⟨m,h1,h2,h3⟩ |⟨h1,_⟩
  ·rw[hn] at h1;injection h1 with h1;subst h1;exact⟨h3,h2⟩
  ·rw[hn] at h1;cases h1
 have hk:=KIN.Hid.mk (And.intro hs (And.intro hr hd));clear hs hr hl hn hd
 repeat (any_goals (first
  |assumption
  |((with_reducible show wpAny _ _ ((int_private% "intFromText") _ _ _) _ _ _);refine zw7 hk.out.1 hk.out.2.1.1 hk.out.2.1.2 hk.out.2.2 ?_)
  |wp_step))
def zh6{prog:Program}{w:World}{A:Around}{E:Value->Shared->Prop}{s:Shared}{Q:Value->Shared->Prop}{x:PySem.Str}{t:Tok}{n:Int}(hs:¬ (numSeenOf x).length<=640)(hl:x.length<=sizeLine)(hn:PySem.intText? x=some n)(hd:s.heap.NoDigits)(h:Q (.int n s.toks) { s with toks:=s.toks+1 }):wpAny (model prog w) A (call (.type "int") [.str x t]) Q E s:=
 call_int_1 (Jx hs hl hn) ⟨hd,rfl,h⟩
section
variable {A:AC}{X:Cx}
def XV(hd:X.base.NoDigits):qw X (.type "int") (λxs H Q=>∃x n,xs=[.str x]/\¬ (numSeenOf x).length<=640/\x.length<=sizeLine/\PySem.intText? x=some n/\Q (.int n) H):=by
 intro pins s σ H xs us Q I r h;obtain⟨x,n,rfl,h1,h2,h3,q⟩:=h;obtain⟨u,rfl,t,rfl⟩:=YC r;exact zh6 h1 h2 h3 (hd.keeps I.bk) ⟨.int n,H,I.tok _,⟨_,rfl⟩,q⟩
def xn3:List D->(D->Prop)->Prop:=λes k=>∃x n,es=[.str x]/\¬ (numSeenOf x).length<=640/\x.length<=sizeLine/\PySem.intText? x=some n/\k (.int n)
def zH3:vd A (λxs H Q=>∃x n,xs=[.str x]/\¬ (numSeenOf x).length<=640/\x.length<=sizeLine/\PySem.intText? x=some n/\Q (.int n) H) xn3:=by
 rintro os n rho sg H ds vs es ws k Q I rs ⟨x,m,rfl,h1,h2,h3,q⟩ hQ;obtain⟨v,rfl,r⟩:=kC rs
 exact⟨x,m,by rw[r.toS rfl];rfl,h1,h2,h3,hQ _ H _ ⟨os,I.push (Rep.ofS rfl)⟩ q⟩
end
theorem KH:∀(k:Nat) (a:Array Nat),((replicate k #[48]).foldl (·++·) a).toList=a.toList++replicate k 48
  |0,a=>by simp
  | k + 1, a => by
    rw[wd,foldl_cons,KH k,zR,wj];rfl
def Yv(k:Int)(h:1<k):(Str.ofString "1" ++ Txt.mul (Str.ofString "0") k).cps.toList=49::replicate k.toNat 48:=by
 have e:(Str.ofString "0").cps=#[48]:=x4
 have e1:(Str.ofString "1").cps=#[49]:=x4
 have el:(Str.ofString "0").length=1:=x4
 unfold Txt.mul
 rw[if_neg w5,if_neg (by simp[el];lia)]
 show((Str.ofString "1").cps++_).toList=_;rw[e1,zR,e,KH];rfl
def Uq(k:Int)(h:700<k)(h2:k<4200):∃m:Int,0<m/\¬ (numSeenOf (Str.ofString "1" ++ Txt.mul (Str.ofString "0") k)).length<=640/\(Str.ofString "1" ++ Txt.mul (Str.ofString "0") k).length<=sizeLine/\PySem.intText? (Str.ofString "1" ++ Txt.mul (Str.ofString "0") k)=some m:=by
 have ec:=Yv k w5
 generalize hx:Str.ofString "1" ++ Txt.mul (Str.ofString "0") k=x at *
 have hl:x.length=k.toNat+1:=by
  have:x.cps.toList.length=x.length:=zg;rw[<- this,ec];simp
 have hd:NumText.AllDigits x.cps.toList:=λc hc=>by
  rw[ec] at hc
  rcases zh.mp hc with rfl |hc
  ·lia
  ·rw[(List.mem_replicate.mp hc).2];lia
 refine⟨(NumText.digitsVal x.cps.toList:Nat),?_,?_,?_,intText_digits hd (by rw[ec];simp) w5⟩
 ·rw [ec]
  have:=NumText.digitsVal_pos (c:=49) (cs:=replicate k.toNat 48) w6
  lia
 ·rw[(numText_signs λc hc=>Or.inr (hd c hc)).2,ec];simp;lia
 ·rw[hl,sizeLine_eq];lia
def WJ(k:Int)(h:1<k)(h2:k<10000):MulOk (Str.ofString "0") k:=by
 have el:(Str.ofString "0").length=1:=x4
 refine⟨by simp;lia,λ_ _=>?_,λ_ _=>?_⟩
 ·rw [el]
  have:1<=(2^63-1:Int)/k:=(Int.le_ediv_iff_mul_le w5).mpr w5
  intro z;exact absurd z (Int.not_lt.mpr this)
 ·rw [el];unfold Builtin.Str.tooLong
  exact zU (by rw[sizeLine_eq];lia)
end L2
namespace L2
def zc4{P:Program}{w:World}{K:W.Frag}{mg mb:Str->Option Value}{CX:CXT}{k:Nat}{fa a:Addr}{fd:FuncData}{x:Str}{sp:Sp}{s₁:Shared}{vs:List Value}{ns:List Int}
  (KX:K.In s₁.heap) (hns:s₁.heap.Ns mainGlobals mg) (hb:s₁.heap.Ns builtinsNs mb) (hbb:∀x:Str,x ≠ "__name__" -> mb x=bootBuiltins x) (hlim:s₁.heap.NoLimit) (hdig:s₁.heap.NoDigits) (hg:s₁.gens=#[])
  (ha:s₁.heap.get? a=some { cls:=.type "list",data:=.seq vs.toArray }) (hi:IntsAre vs ns) (hl:ns.length<=sizeLine) (hr:Room k callerA)
  (F:∀base:Heap,K.In base->base.Ns mainGlobals mg->base.NoDigits->FnOk P w K mg base CX k fa fd [x] sp) (hbind:∀(s:Shared) (u:Value),BindsTo s fd ⟨[u],[]⟩ [(x,u)])
  (hsp:∀H:Hp,xa6 H->SqL K H a (ns.map V.int)->sp [.ref a] H (λv _=>v=.bl true) λ_ _ _=>False)
  (hCX:∀H e s',CX [] H s₁ (λ_ _ _=>False) e s'->False) :
  codeAny (model P w) callerA (.call (.ref fa) ⟨[.ref a],[]⟩) (λr s'=>r=.ok (.ret (.bool true))/\OldK s₁.heap s'.heap/\s'.os=s₁.os/\AllBare s'.gens) s₁:=by
 have rv:=Wa hi;have lenV:=hi.length
 have core:∀H:Hp,xa6 H->SqL K H a (ns.map V.int)->HOk P w H s₁.heap->(∀b,H b≠none->b=a)->(H a≠none->K.lookup a=none) ->
   codeAny (model P w) callerA (.call (.ref fa) ⟨[.ref a],[]⟩) (λr s'=>r=.ok (.ret (.bool true))/\OldK s₁.heap s'.heap/\s'.os=s₁.os/\AllBare s'.gens) s₁:=by
  intro H hO hS hok hA hK;have base_of:∀{b:Addr}{o:Obj},s₁.heap.get? b=some o->H b=none->(zp8 s₁.heap H).get? b=some o:=λe n=>zp7 e n
  have noA:∀{b:Addr}{o:Obj}{es:Array DictEntry}{ep:Nat},s₁.heap.get? b=some o->o.data=.dict es ep->H b=none:=λ{b o es ep} e d=>by
   cases q:H b with
   |none=>rfl
   |some u=>
    have e':b=a:=hA b (by rw[q];simp)
    subst e';rw[ha] at e;cases e;have d':Data.seq vs.toArray _=Data.dict es ep:=d;cases d'
  have nsK:∀{b:Addr}{m:Str->Option Value},s₁.heap.Ns b m->(zp8 s₁.heap H).Ns b m:=λ{b m} ⟨o,es,ep,e,d,r⟩=>⟨o,es,ep,base_of e (noA e d),d,r⟩
  have hKb:K.In (zp8 s₁.heap H):=λb o e=>base_of (KX b o e) (by
   cases q:H b with
   |none=>rfl
   |some u=>
    have e':b=a:=hA b (by rw[q];simp)
    subst e'
    rw[hK (by rw[q];simp)] at e;cases e)
  have hM:Mod K mg (zp8 s₁.heap H):=⟨hKb,nsK hns,⟨mb,nsK hb,hbb⟩,let ⟨mc,h1,h2⟩:=hlim;⟨mc,nsK h1,h2⟩⟩
  have e0:Env0 P w K mg (zp8 s₁.heap H) callerA [] s₁ H:=⟨rfl,hM,λb o e=>zE0 e,yr (ze4 _ _),trivial,λb hb=>absurd (show b∈([]:List Addr) from hb) (by simp),hok,.of_eq hg⟩
  refine codeAny_mono ((F _ hKb (nsK hns) (let ⟨mc,h1,h2⟩:=hdig;⟨mc,nsK h1,h2⟩)).run callerA [] s₁ H ⟨[.ref a],[]⟩ [.ref a] [.ref a] _ _ hr e0 (hbind s₁ (.ref a)) (.cons rfl .nil) (hsp H hO hS)) λr s' h=>?_
  cases r with
  |error e=>exact(hCX H e s' h).elim
  | ok fl =>
   cases fl with
   |next=>exact False.elim h
   |brk=>exact False.elim h
   |cont=>exact False.elim h
   | ret u =>
    obtain⟨v,H',os,bare,un,hok',r',q⟩:=h;have q':v=.bl true:=q;subst q';obtain rfl:u=Value.bool true:=r';refine⟨rfl,OldK.of_keep λb o e=>?_,os,bare⟩
    cases q:H b with
    |none=>exact un.keep b o e q (by intro z;exact absurd (show b∈([]:List Addr) from z) (by simp)) (by simp)
    |some u=>
     rcases hO b with z |⟨ob,xs,z⟩
     ·rw[q] at z;cases z
     ·have z2:=un.frzs b ob _ z;obtain⟨e1,_⟩:=hok b _ z;obtain⟨e2,_⟩:=hok' b _ z2;rw[e] at e1;cases e1;exact e2
 cases hk:K.lookup a with
 |some o=>
  have e:=KX a o hk;rw[ha] at e;cases e
  refine core (λ_=>none) (λ_=>.inl rfl) (.inr ⟨_,vs.toArray,_,hk,rfl,rfl,rfl,by rw[zt,lenV];exact hl,by simpa using rv⟩) (λb u z=>by have z':(none:Option HO)=some u:=z;cases z') (λb z=>absurd rfl z) λz=>absurd rfl z
 | none =>
  refine core (λb=>if b=a then some (.frz { cls:=.type "list",data:=.seq vs.toArray } (.lst (ns.map V.int))) else none) (λb=>?_) (.inl (.inr ⟨{ cls:=.type "list",data:=.seq vs.toArray },if_pos rfl⟩)) (λb u z=>?_) (λb z=>?_) λ_=>hk
  ·by_cases hb : b = a
   ·exact .inr ⟨_,_,if_pos hb⟩
   ·exact .inl (if_neg hb)
  ·by_cases hb : b = a
   ·have z' := (if_pos hb).symm.trans z;cases z';subst hb
    exact⟨ha,by rw[zn];exact hl,vs,_,rv,ha⟩
   ·have z':=(if_neg hb).symm.trans z;cases z'
  ·by_cases hb : b = a
   ·exact hb
   ·exact absurd (if_neg hb) z
def zj4{l:W.OpenLaw}{n k:Nat}{q:Program}{loose:List Str}{XP:(Str->Option Value)->Heap->Prop}{YP:World->Heap->Prop}{d:DefRec}{K:Params->W.Frag}{CX:World->CXT}{sp:World->Sp}{x:Str}
  (hn:l.most=some n) (hn2:n<=sizeLine) (hdf:d.params.defaults=[]) (hr:Room k callerA)
  (hY:∀(w:World) (h:Heap),YP w h->(K w.params).In h)
  (F : ∀ (w : World) (mg : Str -> Option Value) (fa : Addr) (h : Heap), (K w.params).In h -> h.Ns mainGlobals mg -> mg d.name = some (.ref fa) ->
   ∃fd:FuncData,(∀(s:Shared) (u:Value),BindsTo s fd ⟨[u],[]⟩ [(x,u)]) /\
    ∀base:Heap,(K w.params).In base->base.Ns mainGlobals mg->base.NoDigits->FnOk l.prog w (K w.params) mg base (CX w) k fa fd [x] (sp w))
  (hsp:∀(w:World) (H:Hp) (a:Addr) (ns:List Int),ns.length<=n->xa6 H->SqL (K w.params) H a (ns.map V.int)->sp w [.ref a] H (λv _=>v=.bl true) λ_ _ _=>False)
  (hCX:∀(w:World) (H:Hp) (s:Shared) (e:Value) (s':Shared),CX w [] H s (λ_ _ _=>False) e s'->False) :
  W.WalkO q loose XP YP l.row.toRowW d [] (λf vs=>PySem.call f vs):=by
 refine Att.attach_call hn hdf λw s₀ s₁ mg mb fa o pm cd doc a vs ns G Y ho hd hcd hmg hobj hints hlen hg=>?_;have KX:=hY w _ Y;obtain⟨fd,hb,hF⟩:=F w mg fa _ KX G.T.g hmg;exact zc4 KX G.T.g G.T.b G.T.builtins G.T.nolimit G.T.nodigits hg hobj hints (zw hlen hn2) hr hF hb (λH hO hS=>hsp w H a ns hlen hO hS) λH e s'=>hCX w H s₁ e s'
end L2
namespace L2
open PySem PySem.Spec PyProof.Rows PySem.W PySem.Calls
def zj8{x y z:Str}{px py pz pt:Pos}{kt k2 pt2}{a b c:Expr}{env:Env}(hk:env.blockKind=.function)(hx:env.kindOf x=some .local)(hy:env.kindOf y=some .local)(hz:env.kindOf z=some .local)(hl:py.line=px.line)(hl2:pz.line=px.line)(hxy:x≠y)(hxz:x≠z)(hyz:y≠z)
  (hsa:yX a=false) (hsb:yX b=false) (hsc:yX c=false) (hf:[a,b,c].all (foldedForSure 8)=false) (hc:[a,b,c].all (constantsAlone 8)=false) :
  swappedStores [.Tuple [.Name x px,.Name y py,.Name z pz] kt pt] (.Tuple [a,b,c] k2 pt2) env=pure (some [x,y,z]):=by
 have e2:(y == x)=false:=beq_false_of_ne (Ne.symm hxy);have e3:(z == x)=false:=beq_false_of_ne (Ne.symm hxz);have e4:(z == y)=false:=beq_false_of_ne (Ne.symm hyz);have e:(Expr.Name x px).pos.line=px.line:=rfl;unfold swappedStores;simp[hk,hx,hy,hz,hl,hl2,hf,hc,e,List.eraseDups,List.eraseDupsBy,List.eraseDupsBy.loop,e2,e3,e4];intro h
 exfalso
 rcases h with h |h |h
 ·cases a<;>first |(simp at h;done) |(simp[yX] at hsa;done)
 ·cases b<;>first |(simp at h;done) |(simp[yX] at hsb;done)
 ·cases c<;>first |(simp at h;done) |(simp[yX] at hsc;done)
section
variable {X:Cx}{pos:Pos}
def xb2(i j k:Nat)(ta:TA):TS:=λD σ H=>ta σ H λvs H1=>∃u v w,vs=[u,v,w]/\D.nx (((σ.set k (some w)).set j (some v)).set i (some u)) H1
def zA6{i j k:Nat}{x y z:Str}{a b c:Expr}{ta:TA}{px py pz pt:Pos}{kt k2 pt2}(hc:X.calm=true)(hN:X.N.Nodup)(hi:X.N[i]?=some x)(hj:X.N[j]?=some y)(hk:X.N[k]?=some z)
  (hx:X.env.scope.names.lookup x=some .local) (hy:X.env.scope.names.lookup y=some .local) (hz:X.env.scope.names.lookup z=some .local) (ha:PA X [a,b,c] ta)
  (hw:swappedStores [.Tuple [.Name x px,.Name y py,.Name z pz] kt pt] (.Tuple [a,b,c] k2 pt2) X.env=pure (some [x,y,z]))
  (hs:swapsWithSole [.Tuple [.Name x px,.Name y py,.Name z pz] kt pt] (.Tuple [a,b,c] k2 pt2) pos.line X.env=pure false:=by rfl) :
  PS X (.Assign [.Tuple [.Name x px,.Name y py,.Name z pz] kt pt] (.Tuple [a,b,c] k2 pt2) pos) (xb2 i j k ta):=by
 intro pins s σ H D I h;rw[exec_Assign_arm];refine zb (wk ?_);rw[hs];refine zb (zf ?_)
 rw[if_neg w6]
 refine zb (Tuple_ (thn (ha _ pins s σ H _ I h) λus s1 ⟨vs,H1,I1,r1,q1⟩=>?_));obtain⟨t,v,w,e1,q1⟩:=q1;subst e1
 obtain⟨u0,u1,u2,rfl,rt,rv,rw'⟩:∃u0 u1 u2,us=[u0,u1,u2]/\RelV t u0/\RelV v u1/\RelV w u2:=by
  cases r1 with
  | cons p q =>
   cases q with
   | cons p' q' =>
    cases q' with
    |cons p2 q2=>
     cases q2;exact⟨_,_,_,rfl,p,p',p2⟩
 refine wf ?_ (by show 3<=sizeLine;decide)
 have I2:Inv X pins σ H1 { s1 with heap:=s1.heap.push { cls:=.type "tuple",data:=.seq [u0,u1,u2].toArray } }:=I1.kept (t':=s1.toks) λb o e=>ze _ e;rw[hw];refine zb (zf ?_)
 show wpAny (model X.prog X.w) X.A (do rule "assign.swapped-stores";let items <- unpackItems (.ref s1.heap.objs.size) 3 none;assignInOrder [λv=>bindName X.env z v,λv=>bindName X.env y v,λv=>bindName X.env x v] items.reverse;pure Flow.next) _ _ _
 refine zb (yc (zb (unpackItems_tuple (items:=#[u0,u1,u2]) (I.ok.hd hc) (IsTup.new s1.heap _) λh' hx'=>?_)));have I3:=I2.kept (h':=h') (t':=s1.toks) λb o e=>hx' b o (xa (zA e)) e;show wpAny _ _ (assignInOrder [λv=>bindName X.env z v,λv=>bindName X.env y v,λv=>bindName X.env x v] [u2,u1,u0] >>= λ_=>pure Flow.next) _ _ _;refine zb (assignInOrder_cons (wpAny_bindName (kE I3 hN hk (.inl hz) rw' (λs2 I4=>?_) (.inr hz))));refine assignInOrder_cons (wpAny_bindName (kE I4 hN hj (.inl hy) rv (λs3 I5=>?_) (.inr hy)));refine assignInOrder_cons (wpAny_bindName (kE I5 hN hi (.inl hx) rt (λs4 I6=>assignInOrder_nil (zf ?_)) (.inr hx)));exact⟨_,H1,I6,q1⟩
end
section
variable {A:AC}{X:Cx}{a b c:Expr}{pos:Pos}
def zK9(i j k:Nat)(t:TAD):TSD:=λF rho n=>i<rho.length/\j<rho.length/\k<rho.length/\t rho n λes n1=>∃d d' d2,es=[d,d',d2]/\F.nx (((rho.set k (some d2)).set j (some d')).set i (some d)) n1
@[simp] theorem xf5{i j k t F rho n}:zK9 i j k t F rho n=(i<rho.length/\j<rho.length/\k<rho.length/\t rho n λes n1=>∃d d' d2,es=[d,d',d2]/\F.nx (((rho.set k (some d2)).set j (some d')).set i (some d)) n1):=rfl
def QO{i j k:Nat}{x y z:Str}{ta:TAD}{px py pz pt:Pos}{kt k2 pt2}(hc:X.calm=true)(hN:X.N.Nodup)(hi:X.N[i]?=some x)(hj:X.N[j]?=some y)(hk3:X.N[k]?=some z)
  (hx:X.env.scope.names.lookup x=some .local) (hy:X.env.scope.names.lookup y=some .local) (hz:X.env.scope.names.lookup z=some .local) (ha:PAD A X [a,b,c] ta)
  (hk:X.env.blockKind=.function:=by rfl) (hl:py.line=px.line:=by rfl) (hl2:pz.line=px.line:=by rfl) (hxy:x≠y:=by decide) (hxz:x≠z:=by decide) (hyz:y≠z:=by decide) (hsa:yX a=false:=by rfl) (hsb:yX b=false:=by rfl) (hsc:yX c=false:=by rfl) (hf:[a,b,c].all (foldedForSure 8)=false:=by decide +kernel) (hca:[a,b,c].all (constantsAlone 8)=false:=by decide +kernel) :
  PSD A X (.Assign [.Tuple [.Name x px,.Name y py,.Name z pz] kt pt] (.Tuple [a,b,c] k2 pt2) pos) (zK9 i j k ta):=by
 exists (zA6 hc hN hi hj hk3 hx hy hz ha (zj8 hk hx hy hz hl hl2 hxy hxz hyz hsa hsb hsc hf hca)).imp λE sg H h=>by
   obtain⟨rho,n,F,ds,vs,I,⟨hl,hl2,hl3,ht⟩,ok⟩:=h;refine⟨rho,n,_,ds,vs,I,ht,λws H' n' es ⟨os,J⟩ hlen k=>?_⟩;obtain⟨d,d',d2,rfl,k⟩:=k;obtain⟨J1,rs⟩:=J.split hlen;obtain⟨v1,r1,rfl,q1,rs⟩:=rs.split;obtain⟨v2,v3,rfl,q2,q3⟩:=QB rs;refine⟨v1,v2,v3,rfl,ok.nx _ _ _ _ ?_ k⟩;have J2:AmO A os n' rho sg H' (d2::d'::d::ds) (v3::v2::v1::vs):=((J1.push q1).push q2).push q3
   exact⟨_,((J2.set hl3).set (by simpa using hl2)).set (by simpa using hl)⟩
end
end L2
namespace L2.Srt
open PySem PyProof.Rows
def lab(ls:Array Nat)(i:Nat):Nat:=ls.getD i 0
structure Rule(prog:Program)(w:World)(A:Around)(s:Shared)(n:Nat)(item:Nat->Keyed)(kd:SortKind)(r:Nat->Nat->Bool):Prop where
 tot:∀a b,a<n->b<n->a≠b->r a b=!r b a
 tr:∀a b c,a<n->b<n->c<n->r a b=true->r b c=true->r a c=true
 cmp:∀a b,a<n->b<n->a≠b->∀(E:Value->Shared->Prop) (Q:Bool->Shared->Prop),Q (r a b) s->wpAny (model prog w) A (keyLt' kd (item a).1 (item b).1) Q E s
def Up(r:Nat->Nat->Bool)(ls:Array Nat)(k:Nat):Prop:=∀i j,i<j->j<k->r (lab ls i) (lab ls j)=true
section
variable {n:Nat}{item:Nat->Keyed}{kd:SortKind}{r:Nat->Nat->Bool}{ls:Array Nat}{t:SortSt}
def yG{i:Nat}(h:i<ls.size):ls[i]?=some (lab ls i):=by
 unfold lab;rw[wL,wz h];rfl
def vI{as:Array Nat}{k v:Nat}(h:as[k]?=some v):lab as k=v:=by
 unfold lab;rw[wL,h];rfl
def UD{src d:Nat}(hs:src<ls.size)(hd:d<=src){k:Nat}(hk:k<ls.size):lab (bubble ls src d) k=if k=src-d then lab ls src else if src-d<k/\k<=src then lab ls (k-1) else lab ls k:=by
 refine vI ?_;rw[getElem?_bubble hs d hd k]
 split
 ·exact yG hs
 ·split
  ·exact yG w5
  ·exact yG hk
def zH5{src d:Nat}(hs:src<ls.size)(hd:d<=src):bubble (ls.map item) src d=(bubble ls src d).map item:=by
 refine Array.ext_getElem? λk=>?_
 rw[getElem?_bubble (by simpa using hs) d hd k]
 simp only[Array.getElem?_map];rw[getElem?_bubble hs d hd k]
 split
 ·rfl
 ·split<;>rfl
def qE{i j:Nat}(hj:j<=ls.size){k:Nat}(hk:k<ls.size):lab (mirror ls i j ((j-i)/2)) k=if i<=k/\k<j then lab ls (i+j-1-k) else lab ls k:=by
 refine vI ?_;rw[getElem?_mirror_all hj k]
 split
 ·exact yG w5
 ·exact yG hk
def zE7{i j:Nat}(hj:j<=ls.size):mirror (ls.map item) i j ((j-i)/2)=(mirror ls i j ((j-i)/2)).map item:=by
 refine Array.ext_getElem? λk=>?_
 rw[getElem?_mirror_all (by simpa using hj) k]
 simp only[Array.getElem?_map];rw[getElem?_mirror_all hj k]
 split<;>rfl
end
def qG:Bool->Keyed->Array Keyed->Nat->Nat->Nat->StateT SortSt Sem (Option Nat):=sortPriv% PySem.Builtin.gallop
def vz:Nat->StateT SortSt Sem Unit:=sortPriv% PySem.Builtin.setMinGallop
def XH:Array Keyed->Array Keyed->StateT SortSt Sem (Array Keyed):=sortPriv% PySem.Builtin.mergeLo
def XI:Array Keyed->Array Keyed->StateT SortSt Sem (Array Keyed):=sortPriv% PySem.Builtin.mergeHi
abbrev UX(st:SortSt)(g:Nat):SortSt:=SortSt.mk' (kindOf st) (arrOf st) (pendingOf st) g (failedOf st)
def vm(g:Nat):vz g=modify λs=>UX s g:=rfl
def qo(left:Bool)(key:Keyed)(arr:Array Keyed)(base i:Nat):StateT SortSt Sem (Option Bool):=do
 let x <- elem' arr (base+i)
 if left then lt' x key else return (<- lt' key x).map (!·)
def JG(left:Bool)(key:Keyed)(arr:Array Keyed)(base n hint:Nat):qG left key arr base n hint=(do
 let mut lastofs:=0
 let mut ofs:=1
 let mut lo:=0
 let mut hi:=0
 let some right <- qo left key arr base hint |return none
 if right then
  let maxofs:=n-hint
  for _ in [0:n] do
   if ofs>=maxofs then break
   let some more <- qo left key arr base (hint+ofs) |return none
   if !more then break
   lastofs:=ofs
   ofs:=2*ofs+1
  lo:=hint+lastofs+1
  hi:=hint+min ofs maxofs
 else
  let maxofs:=hint+1
  for _ in [0:n] do
   if ofs>=maxofs then break
   let some found <- qo left key arr base (hint-ofs) |return none
   if found then break
   lastofs:=ofs
   ofs:=2*ofs+1
  lo:=hint+1-min ofs maxofs
  hi:=hint-lastofs
 for _ in [0:n] do
  if lo>=hi then break
  let m:=lo+(hi-lo)/2
  let some more <- qo left key arr base m |return none
  if more then lo:=m+1 else hi:=m
 return some hi):=rfl
def Ui(i:Nat):mergeAt' i=(do
 let s <- get
 let (some (sa,na,power),some (sb,nb,_)):=((pendingOf s)[i]?,(pendingOf s)[i+1]?) |unsupported "internal:list.sort.pending"
 set (setPending s (((pendingOf s).setIfInBounds i (sa,na+nb,power)).eraseIdxIfInBounds (i+1)))
 let some k <- qG false (<- elem' (arrOf s) sb) (arrOf s) sa na 0 |return false
 let (sa,na):=(sa+k,na-k)
 if na == 0 then return true
 let some nb <- qG true (<- elem' (arrOf s) (sa+na-1)) (arrOf s) sb nb (nb-1) |return false
 if nb == 0 then return true
 let x:=(arrOf s).extract sa sb
 let y:=(arrOf s).extract sb (sb+nb)
 let merged <- if na<=nb then XH x y else XI x y
 modify λs=>setArr s (merged.toList.zipIdx.foldl (λa (p,j)=>a.setIfInBounds (sa+j) p) (arrOf s))
 return (failedOf (<- get)).isNone):=rfl
def zV7(left:Bool)(key:Keyed)(arr:Array Keyed)(base n lo0 hi0:Nat):StateT SortSt Sem (Option Nat):=do
 let mut lo:=lo0
 let mut hi:=hi0
 for _ in [0:n] do
  if lo>=hi then break
  let m:=lo+(hi-lo)/2
  let some more <- qo left key arr base m |return none
  if more then lo:=m+1 else hi:=m
 return some hi
def Vu(lo n0 nrem:Nat):StateT SortSt Sem (Option Nat):=do
 let mut n:=n0
 reverseSlice' lo (lo+n)
 for _ in [n:nrem] do
  let some smaller <- ltAt' (lo+n) (lo+n-1) |return none
  if smaller then break
  n:=n+1
 return some n
def XU(lo n0 nrem:Nat):StateT SortSt Sem (Option Nat):=do
 let mut n:=n0
 rule "list.sort.descending-run"
 n:=n+1
 let mut neq:=0
 for _ in [n:nrem] do
  let some smaller <- ltAt' (lo+n) (lo+n-1) |return none
  if smaller then
   if neq > 0 then reverseSlice' (lo+n-(neq+1)) (lo+n)
   neq:=0
  else
   let some larger <- ltAt' (lo+n-1) (lo+n) |return none
   if larger then break
   neq:=neq+1
  n:=n+1
 if neq > 0 then reverseSlice' (lo+n-(neq+1)) (lo+n)
 reverseSlice' lo (lo+n)
 for _ in [n:nrem] do
  let some smaller <- ltAt' (lo+n) (lo+n-1) |return none
  if smaller then break
  n:=n+1
 return some n
section
variable {prog:Program}{w:World}{A:Around}{E:Value->Shared->Prop}{s:Shared}{t:SortSt}
section
variable {left:Bool}{key:Keyed}{arr:Array Keyed}{base m hint:Nat}{by':Nat->Bool}
def Qt{lo hi:Nat}(hm:hi<=m)(hlo:lo<=hi)
  (hby:∀i,i<m->∀Q:Option Bool->SortSt->Prop,Q (some (by' i)) t->wpS (model prog w) A E s (qo left key arr base i) Q t)
  (anti:∀i j,i<=j->j<m->by' j=true->by' i=true) (no:∀i j,i<=j->j<m->by' i=false->by' j=false)
  (h1:∀i,i<lo->by' i=true) (h2:∀i,hi<=i->i<m->by' i=false) {Q:Option Nat->SortSt->Prop}
  (q:∀k,k<=m->(∀i,i<k->by' i=true)->(∀i,k<=i->i<m->by' i=false)->Q (some k) t) :
  wpS (model prog w) A E s (zV7 left key arr base m lo hi) Q t:=by
 unfold zV7
 refine zl (yA (wu (λx c t'=>t'=t/\∃l h,c=(none,l,h)/\l<=h/\h<=m/\h-l<=m-x/\(∀i,i<l->by' i=true)/\∀i,h<=i->i<m->by' i=false)
  (Q:=λc t'=>t'=t/\∃l,c=(none,l,l)/\l<=m/\(∀i,i<l->by' i=true)/\∀i,l<=i->i<m->by' i=false) ?_ ?_ ⟨rfl,lo,hi,rfl,hlo,hm,w5,h1,h2⟩) ?_)
 ·rintro x c t' _ hx ⟨rfl, l, h, rfl, g1, g2, g3, g4, g5⟩;dsimp only
  split
  ·rename_i hd
   obtain rfl:l=h:=w5
   exact zJ ⟨rfl,l,rfl,g2,g4,g5⟩
  ·rename_i hd
   refine zl (hby _ w5 _ ?_)
   cases z:by' (l+(h-l)/2)
   ·exact zJ ⟨rfl,l,_,rfl,w5,w5,w5,g4,λi i1 i2=>no _ i i1 i2 z⟩
   ·exact zJ ⟨rfl,_,h,rfl,w5,w5,w5,λi i1=>anti i _ w5 w5 z,g5⟩
 ·rintro c t' ⟨rfl, l, h, rfl, g1, g2, g3, g4, g5⟩
  obtain rfl:l=h:=w5
  exact⟨rfl,l,rfl,g2,g4,g5⟩
 ·rintro c t' ⟨rfl,l,rfl,g1,g2,g3⟩;exact zJ (q l g1 g2 g3)
def gal(h:hint<m)
  (hby:∀i,i<m->∀Q:Option Bool->SortSt->Prop,Q (some (by' i)) t->wpS (model prog w) A E s (qo left key arr base i) Q t)
  (anti:∀i j,i<=j->j<m->by' j=true->by' i=true) {Q:Option Nat->SortSt->Prop}
  (q:∀k,k<=m->(∀i,i<k->by' i=true)->(∀i,k<=i->i<m->by' i=false)->Q (some k) t) :
  wpS (model prog w) A E s (qG left key arr base m hint) Q t:=by
 rw[JG];refine zl (hby hint h _ ?_)
 have no:∀i j,i<=j->j<m->by' i=false->by' j=false:=λi j h1 h2 h3=>by
  cases z:by' j with
  |false=>rfl
  |true=>rw[anti i j h1 h2 z] at h3;cases h3
 cases z:by' hint
 ·simp only [xR, if_false]
  refine zl (yA (wu (λx c t'=>t'=t/\∃la ofs,c=(none,la,ofs)/\la<ofs/\x+1<=ofs/\la<=hint/\by' (hint-la)=false)
   (Q:=λc t'=>t'=t/\∃la ofs,c=(none,la,ofs)/\la<ofs/\la<=hint/\by' (hint-la)=false/\(ofs<=hint->by' (hint-ofs)=true)) ?_ ?_ ⟨rfl,0,1,rfl,w5,w5,w5,z⟩) ?_)
  ·rintro x c t' _ hx ⟨rfl, la, ofs, rfl, g1, g2, g3, g4⟩;dsimp only
   split
   ·exact zJ ⟨rfl,la,ofs,rfl,g1,g3,g4,λh=>by lia⟩
   ·rename_i hd
    refine zl (hby _ w5 _ ?_)
    cases z2:by' (hint-ofs)
    ·exact zJ ⟨rfl,ofs,_,rfl,w5,w5,w5,z2⟩
    ·exact zJ ⟨rfl,la,ofs,rfl,g1,g3,g4,λ_=>z2⟩
  ·rintro c t' ⟨rfl, la, ofs, rfl, g1, g2, g3, g4⟩
   exact⟨rfl,la,ofs,rfl,g1,g3,g4,λh=>by lia⟩
  ·rintro c t' ⟨rfl, la, ofs, rfl, g1, g3, g4, g5⟩;show wpS (model prog w) A E s (zV7 left key arr base m (hint+1-min ofs (hint+1)) (hint-la)) Q t'
   refine Qt w5 w5 hby anti no (λi hi=>?_) (λi i1 i2=>no _ i i1 i2 g4) q
   exact anti i (hint-ofs) w5 w5 (g5 w5)
 ·simp only [if_true]
  refine zl (yA (wu (λx c t'=>t'=t/\∃la ofs,c=(none,la,ofs)/\la<ofs/\x+1<=ofs/\hint+la<m/\by' (hint+la)=true)
   (Q:=λc t'=>t'=t/\∃la ofs,c=(none,la,ofs)/\la<ofs/\hint+la<m/\by' (hint+la)=true/\(hint+ofs<m->by' (hint+ofs)=false)) ?_ ?_ ⟨rfl,0,1,rfl,w5,w5,w5,z⟩) ?_)
  ·rintro x c t' _ hx ⟨rfl, la, ofs, rfl, g1, g2, g3, g4⟩;dsimp only
   split
   ·exact zJ ⟨rfl,la,ofs,rfl,g1,g3,g4,λh=>by lia⟩
   ·rename_i hd
    refine zl (hby _ w5 _ ?_)
    cases z2:by' (hint+ofs)
    ·exact zJ ⟨rfl,la,ofs,rfl,g1,g3,g4,λ_=>z2⟩
    ·exact zJ ⟨rfl,ofs,_,rfl,w5,w5,w5,z2⟩
  ·rintro c t' ⟨rfl, la, ofs, rfl, g1, g2, g3, g4⟩
   exact⟨rfl,la,ofs,rfl,g1,g3,g4,λh=>by lia⟩
  ·rintro c t' ⟨rfl, la, ofs, rfl, g1, g3, g4, g5⟩;show wpS (model prog w) A E s (zV7 left key arr base m (hint+la+1) (hint+min ofs (m-hint))) Q t'
   refine Qt w5 w5 hby anti no (λi hi=>anti i _ w5 w5 g4) (λi i1 i2=>?_) q
   exact no (hint+ofs) i w5 i2 (g5 w5)
end
end
structure WRule(prog:Program)(w:World)(A:Around)(s:Shared)(n:Nat)(item:Nat->Keyed)(kd:SortKind)(r:Nat->Nat->Bool):Prop where
 asy:∀a b,a<n->b<n->r a b=true->r b a=false
 tr:∀a b c,a<n->b<n->c<n->r b a=false->r c b=false->r c a=false
 cmp:∀a b,a<n->b<n->a≠b->∀(E:Value->Shared->Prop) (Q:Bool->Shared->Prop),Q (r a b) s->wpAny (model prog w) A (keyLt' kd (item a).1 (item b).1) Q E s
structure MI(le:Nat->Nat->Prop)(all O la lb:List Nat):Prop where
 perm:(O++(la++lb)).Perm all
 up:O.Pairwise le
 a:∀o∈O,∀x∈la,le o x
 b:∀o∈O,∀y∈lb,le o y
 sa:la.Pairwise le
 sb:lb.Pairwise le
variable {le:Nat->Nat->Prop}{all O la lb u:List Nat}
def MI.takeA(h:MI le all O (u++la) lb)(hu:∀x∈u,∀y∈lb,le x y):MI le all (O++u) la lb:=by
 have s1:=List.pairwise_append.mp h.sa
 refine⟨by simpa [wj] using h.perm,List.pairwise_append.mpr ⟨h.up,s1.1,λo ho x hx=>h.a o ho x (by simp[hx])⟩,λo ho x hx=>?_,λo ho y hy=>?_,s1.2.1,h.sb⟩
 ·rcases zN.mp ho with ho | ho
  ·exact h.a o ho x (by simp[hx])
  ·exact s1.2.2 o ho x hx
 ·rcases zN.mp ho with ho | ho
  ·exact h.b o ho y hy
  ·exact hu o ho y hy
def MI.swap(h:MI le all O la lb):MI le all O lb la:=⟨((List.perm_append_comm).append_left O).trans h.perm,h.up,h.b,h.a,h.sb,h.sa⟩
def MI.takeB(h:MI le all O la (u++lb))(hu:∀x∈u,∀y∈la,le x y):MI le all (O++u) la lb:=(h.swap.takeA hu).swap
def MI.endA(h:MI le all O la lb)(hu:∀x∈la,∀y∈lb,le x y):(O++la++lb).Perm all/\(O++la++lb).Pairwise le:=by
 have h1:MI le all (O++la) [] lb:=MI.takeA (by rw[xX];exact h) hu
 exact⟨by simpa using h1.perm,List.pairwise_append.mpr ⟨h1.up,h1.sb,h1.b⟩⟩
def MI.endB(h:MI le all O la lb)(hu:∀x∈lb,∀y∈la,le x y):(O++lb++la).Perm all/\(O++lb++la).Pairwise le:=h.swap.endA hu
section
variable {prog:Program}{w:World}{A:Around}{E:Value->Shared->Prop}{s:Shared}{t:SortSt}{n:Nat}{item:Nat->Keyed}{kd:SortKind}{r:Nat->Nat->Bool}
def WN(R:WRule prog w A s n item kd r)(hk:kindOf t=kd){a b:Nat}(ha:a<n)(hb:b<n)(h:a≠b){Q:Option Bool->SortSt->Prop}(q:Q (some (r a b)) t):wpS (model prog w) A E s (lt' (item a) (item b)) Q t:=by
 rw[lt'_eq];refine zl (wpS_get (zl (wpS_lift (wpAny_attempt ?_))));rw[hk];exact R.cmp a b ha hb h _ _ ⟨rfl,zJ q⟩
def yb{ks:Array Nat}{i:Nat}(h:i<ks.size){Q:Keyed->SortSt->Prop}(q:Q (item (lab ks i)) t):wpS (model prog w) A E s (elem' (ks.map item) i) Q t:=by
 rw[elem'_eq,Array.getElem?_map,yG h];exact zJ q
def byd(R:WRule prog w A s n item kd r)(hk:kindOf t=kd){ks:Array Nat}{left:Bool}{c base i:Nat}(hc:c<n)(hi:base+i<ks.size)(hl:lab ks (base+i)<n)(hn:c≠lab ks (base+i)){Q:Option Bool->SortSt->Prop}
  (q:Q (some (if left then r (lab ks (base+i)) c else !r c (lab ks (base+i)))) t):wpS (model prog w) A E s (qo left (item c) (ks.map item) base i) Q t:=by
 unfold qo;refine zl (yb hi ?_);cases left
 ·simp only[xR,if_false] at q ⊢;exact zl (WN R hk hc hl hn (zJ q))
 ·simp only[if_true] at q ⊢;exact WN R hk hl hc (λe=>hn e.symm) q
structure Same(t t':SortSt):Prop where
 arr:arrOf t'=arrOf t
 kd:kindOf t'=kindOf t
 pend:pendingOf t'=pendingOf t
 ok:failedOf t'=failedOf t
def Same.rfl':Same t t:=⟨rfl,rfl,rfl,rfl⟩
def Same.gal{t':SortSt}(h:Same t t')(g:Nat):Same t (UX t' g):=⟨h.arr,h.kd,h.pend,h.ok⟩
structure Two(n:Nat)(r:Nat->Nat->Bool)(la lb:Array Nat):Prop where
 an:∀x∈la.toList,x<n
 bn:∀x∈lb.toList,x<n
 un:∀x∈la.toList,∀y∈lb.toList,x≠y
 au:la.toList.Pairwise λx y=>r y x=false
 bu:lb.toList.Pairwise λx y=>r y x=false
structure ML(item:Nat->Keyed)(r:Nat->Nat->Bool)(la lb:Array Nat)(out:Array Keyed)(ia ib:Nat):Prop where
 o:∃O:Array Nat,out=O.map item/\MI (λx y=>r y x=false) (la.toList++lb.toList) O.toList (la.toList.drop ia) (lb.toList.drop ib)
def Good(item:Nat->Keyed)(r:Nat->Nat->Bool)(la lb:Array Nat)(out:Array Keyed):Prop:=∃M:Array Nat,out=M.map item/\M.toList.Perm (la.toList++lb.toList)/\M.toList.Pairwise λx y=>r y x=false
def qk{ks:Array Nat}{k x:Nat}:x∈ks.toList.drop k↔∃i,k<=i/\i<ks.size/\x=lab ks i:=by
 rw[List.mem_iff_getElem?]
 constructor
 ·rintro ⟨i, h⟩;rw[xQ,zG] at h
  have hi:k+i<ks.size:=by
   rcases Nat.lt_or_ge (k+i) ks.size with g |g
   ·exact g
   ·rw[wO g] at h;cases h
  rw[yG hi] at h
  exact⟨k+i,w5,hi,(zF h).symm⟩
 ·rintro ⟨i, h1, h2, rfl⟩
  exact⟨i-k,by rw[xQ,zG,show k+(i-k)=i by lia,yG h2]⟩
def kM{ks:Array Nat}{i:Nat}(h:i<ks.size):lab ks i∈ks.toList:=by
 have:=qk.mpr ⟨i,wZ _,h,rfl⟩
 rwa [wX] at this
def Zn{ks:Array Nat}(h:ks.toList.Pairwise λx y=>r y x=false){i j:Nat}(hij:i<j)(hj:j<ks.size):r (lab ks j) (lab ks i)=false:=by
 have hi':i<ks.toList.length:=by rw[zg];lia
 have hj':j<ks.toList.length:=by rw[zg];exact hj
 have:=xF.mp h i j hi' hj' hij
 have e1:=yG (ls:=ks) (i:=i) w5
 have e2:=yG (ls:=ks) hj;rw[<- zG,zj hi'] at e1;rw[<- zG,zj hj'] at e2;rw[<- zF e1,<- zF e2];exact this
def Xf{ks:Array Nat}{i k:Nat}(h:i+k<=ks.size):ks.toList.drop i=(ks.extract i (i+k)).toList++ks.toList.drop (i+k):=by
 rw[xY,xG,show i+k-i=k by lia,<- drop_drop,wA]
def KM{ks:Array Nat}{i:Nat}(h:i<ks.size):ks.toList.drop i=[lab ks i]++ks.toList.drop (i+1):=by
 have hi':i<ks.toList.length:=by rw[zg];exact h
 have e1:=yG (ls:=ks) h;rw[<- zG,zj hi'] at e1;rw[wY hi',zF e1];rfl
def zb6{ks:Array Nat}{i k x:Nat}(h:i+k<=ks.size)(hx:x∈(ks.extract i (i+k)).toList):∃j,j<k/\x=lab ks (i+j):=by
 rw[xY,xG,show i+k-i=k by lia,List.mem_iff_getElem?] at hx
 obtain⟨j,hj⟩:=hx;rw[yu] at hj
 split at hj
 ·rename_i g
  rw[xQ,zG,yG w5] at hj
  exact⟨j,g,(zF hj).symm⟩
 ·cases hj
section
variable {la lb:Array Nat}{out:Array Keyed}{ia ib:Nat}
def Two.al(T:Two n r la lb){i:Nat}(h:i<la.size):lab la i<n:=T.an _ (kM h)
def Two.bl(T:Two n r la lb){i:Nat}(h:i<lb.size):lab lb i<n:=T.bn _ (kM h)
def Two.ne(T:Two n r la lb){i j:Nat}(h:i<la.size)(g:j<lb.size):lab la i≠lab lb j:=T.un _ (kM h) _ (kM g)
def Two.symm(T:Two n r la lb):Two n r lb la:=⟨T.bn,T.an,λx hx y hy e=>T.un y hy x hx e.symm,T.bu,T.au⟩
def Two.hd(R:WRule prog w A s n item kd r)(T:Two n r la lb){c:Nat}(hc:c<n)(h:ia<la.size)(g:r (lab la ia) c=false):∀x∈la.toList.drop ia,r x c=false:=λx hx=>by
 obtain⟨i,h1,h2,rfl⟩:=qk.mp hx
 by_cases e:i=ia
 ·rw[e];exact g
 ·exact R.tr _ _ _ hc (T.al h) (T.al h2) g (Zn T.au w5 h2)
def ML.pushA(M:ML item r la lb out ia ib)(h:ia<la.size)(g:∀y∈lb.toList.drop ib,r y (lab la ia)=false):ML item r la lb (out.push (item (lab la ia))) (ia+1) ib:=by
 obtain⟨O,rfl,m⟩:=M.o;rw[KM h] at m
 refine⟨O.push (lab la ia),by rw[Array.map_push],?_⟩
 rw[yE]
 exact m.takeA λx hx y hy=>by rw[zW.mp hx];exact g y hy
def ML.pushB(M:ML item r la lb out ia ib)(h:ib<lb.size)(g:∀y∈la.toList.drop ia,r y (lab lb ib)=false):ML item r la lb (out.push (item (lab lb ib))) ia (ib+1):=by
 obtain⟨O,rfl,m⟩:=M.o;rw[KM h] at m
 refine⟨O.push (lab lb ib),by rw[Array.map_push],?_⟩
 rw[yE]
 exact m.takeB λx hx y hy=>by rw[zW.mp hx];exact g y hy
def ML.addA(M:ML item r la lb out ia ib){k:Nat}(h:ia+k<=la.size)(g:∀j,j<k->∀y∈lb.toList.drop ib,r y (lab la (ia+j))=false):ML item r la lb (out++(la.map item).extract ia (ia+k)) (ia+k) ib:=by
 obtain⟨O,rfl,m⟩:=M.o;rw[Xf h] at m
 refine⟨O++la.extract ia (ia+k),by rw[xO,xu],?_⟩
 rw[zR]
 exact m.takeA λx hx y hy=>by obtain⟨j,hj,rfl⟩:=zb6 h hx;exact g j hj y hy
def ML.addB(M:ML item r la lb out ia ib){k:Nat}(h:ib+k<=lb.size)(g:∀j,j<k->∀y∈la.toList.drop ia,r y (lab lb (ib+j))=false):ML item r la lb (out++(lb.map item).extract ib (ib+k)) ia (ib+k):=by
 obtain⟨O,rfl,m⟩:=M.o;rw[Xf h] at m
 refine⟨O++lb.extract ib (ib+k),by rw[xO,xu],?_⟩
 rw[zR]
 exact m.takeB λx hx y hy=>by obtain⟨j,hj,rfl⟩:=zb6 h hx;exact g j hj y hy
def qH{ks:Array Nat}{i:Nat}:(ks.extract i ks.size).toList=ks.toList.drop i:=by
 rw[xY,xG]
 exact wa (by rw[wq,zg];exact zd _)
def ML.done(M:ML item r la lb out ia ib)(g:∀x∈la.toList.drop ia,∀y∈lb.toList.drop ib,r y x=false):Good item r la lb (out++(la.map item).extract ia la.size++(lb.map item).extract ib lb.size):=by
 obtain⟨O,rfl,m⟩:=M.o;obtain⟨p1,p2⟩:=m.endA g
 refine⟨O++la.extract ia la.size++lb.extract ib lb.size,by rw[xO,xO,xu,xu],?_,?_⟩
 ·rw[zR,zR,qH,qH];exact p1
 ·rw[zR,zR,qH,qH];exact p2
def ML.last(M:ML item r la lb out ia ib)(g:∀x∈lb.toList.drop ib,∀y∈la.toList.drop ia,r y x=false):Good item r la lb (out++(lb.map item).extract ib lb.size++(la.map item).extract ia la.size):=by
 obtain⟨O,rfl,m⟩:=M.o;obtain⟨p1,p2⟩:=m.endB g
 refine⟨O++lb.extract ib lb.size++la.extract ia la.size,by rw[xO,xO,xu,xu],?_,?_⟩
 ·rw[zR,zR,qH,qH];exact p1
 ·rw[zR,zR,qH,qH];exact p2
def ML.doneB(M:ML item r la lb out ia ib)(h:lb.size<=ib):Good item r la lb (out++(la.map item).extract ia la.size++(lb.map item).extract ib lb.size):=
 M.done λx _ y hy=>by obtain⟨i,h1,h2,_⟩:=qk.mp hy;lia
def ML.doneA(M:ML item r la lb out ia ib)(h:la.size<=ia):Good item r la lb (out++(la.map item).extract ia la.size++(lb.map item).extract ib lb.size):=
 M.done λx hx y _=>by obtain⟨i,h1,h2,_⟩:=qk.mp hx;lia
def ML.lastA(R:WRule prog w A s n item kd r)(T:Two n r la lb)(h2:∀y∈lb.toList,r y (lab la (la.size-1))=true)(M:ML item r la lb out ia ib)(h:ia+1=la.size):Good item r la lb (out++(lb.map item).extract ib lb.size++(la.map item).extract ia la.size):=
 M.last λx hx y hy=>by
  obtain⟨i,i1,i2,rfl⟩:=qk.mp hx;obtain⟨j,j1,j2,rfl⟩:=qk.mp hy
  obtain rfl:j=la.size-1:=w5
  exact R.asy _ _ (T.bl i2) (T.al j2) (h2 _ (kM i2))
end
end
end L2.Srt
set_option maxHeartbeats 1000000
namespace L2.Srt
open PySem PyProof.Rows
abbrev Sn(γ:Type):=Option (Array Keyed) × γ
abbrev SM:=StateT SortSt Sem
abbrev Fn(γ:Type):=ForInStep (Sn γ)
abbrev Tn:=Array Keyed × Nat × Nat × Nat × Nat
abbrev Un:=Array Keyed × Nat × Nat × Nat × Nat × Nat
abbrev Vn:=Array Keyed × Nat × Nat × Nat
def Zs{γ:Type}(o:Array Keyed)(x:γ):SM (Fn γ):=(pure (ForInStep.done (some o,x)):SM _)
def zH6{γ:Type}(x:γ):SM (Fn γ):=(pure (ForInStep.done (none,x)):SM _)
def zo8{γ:Type}(x:γ):SM (Fn γ):=(pure (ForInStep.yield (none,x)):SM _)
section
variable (a b:Array Keyed)
def eA(o:Array Keyed)(i j:Nat):Array Keyed:=o++a.extract i++b.extract j
def eB(o:Array Keyed)(i j:Nat):Array Keyed:=o++b.extract j++a.extract i
def l1a(g c d:Nat)(o:Array Keyed)(i j:Nat):SM (Fn Tn):=if (i+1 == a.size)=true then Zs (eB a b o i j) (o,i,j,c,d) else if c>=g then zH6 (o,i,j,c,d) else zo8 (o,i,j,c,d)
def l1b(g c d:Nat)(o:Array Keyed)(i j:Nat):SM (Fn Tn):=if (j == b.size)=true then Zs (eA a b o i j) (o,i,j,c,d) else if d>=g then zH6 (o,i,j,c,d) else zo8 (o,i,j,c,d)
def l1(g c d:Nat)(o:Array Keyed)(i j:Nat):SM (Fn Tn):=elem' b j >>= λy=>elem' a i >>= λx=>lt' y x >>= λw=>match w with
 |some w=>if w=true then elem' b j >>= λz=>l1b a b g 0 (d+1) (o.push z) i (j+1) else elem' a i >>= λz=>l1a a b g (c+1) 0 (o.push z) (i+1) j
 |_=>Zs (eA a b o i j) (o,i,j,c,d)
def l4(g c d:Nat)(o:Array Keyed)(i j:Nat):SM (Fn Un):=elem' a i >>= λx=>if (i+1+1 == a.size)=true then Zs (eB a b (o.push x) (i+1) j) (o.push x,i+1,j,g,c,d)
 else if (decide (c<7)&&decide (d<7))=true then zH6 (o.push x,i+1,j,g,c,d) else zo8 (o.push x,i+1,j,g,c,d)
def l3b(g c d k:Nat)(o:Array Keyed)(i j:Nat):SM (Fn Un):=if k > 0 then
  if (j+k == b.size)=true then Zs (eA a b (o++b.extract j (j+k)) i (j+k)) (o++b.extract j (j+k),i,j+k,g,c,k) else l4 a b g c k (o++b.extract j (j+k)) i (j+k)
 else l4 a b g c k o i j
def l3(g c d:Nat)(o:Array Keyed)(i j:Nat):SM (Fn Un):=elem' b j >>= λy=>if (j+1 == b.size)=true then Zs (eA a b (o.push y) i (j+1)) (o.push y,i,j+1,g,c,d)
 else elem' a i >>= λx=>qG true x b (j+1) (b.size-(j+1)) 0 >>= λk=>match k with
  |some k=>l3b a b g c d k (o.push y) i (j+1)
  |_=>Zs (eA a b (o.push y) i (j+1)) (o.push y,i,j+1,g,c,d)
def l2b(g d k:Nat)(o:Array Keyed)(i j:Nat):SM (Fn Un):=if k > 0 then
  if (i+k+1 == a.size)=true then Zs (eB a b (o++a.extract i (i+k)) (i+k) j) (o++a.extract i (i+k),i+k,j,g,k,d)
  else if (i+k == a.size)=true then Zs (eA a b (o++a.extract i (i+k)) (i+k) j) (o++a.extract i (i+k),i+k,j,g,k,d)
  else l3 a b g k d (o++a.extract i (i+k)) (i+k) j
 else l3 a b g k d o i j
def l2(c d:Nat)(o:Array Keyed)(i j g:Nat):SM (Fn Un):=vz g >>= λ_=>elem' b j >>= λy=>qG false y a i (a.size-i) 0 >>= λk=>match k with
 |some k=>l2b a b g d k o i j
 |_=>Zs (eA a b o i j) (o,i,j,g,c,d)
def l2u(u:Un):SM (Fn Un):=if u.2.2.2.1 > 1 then l2 a b u.2.2.2.2.1 u.2.2.2.2.2 u.1 u.2.1 u.2.2.1 (u.2.2.2.1-1) else l2 a b u.2.2.2.2.1 u.2.2.2.2.2 u.1 u.2.1 u.2.2.1 u.2.2.2.1
def l5(s:Sn Un):SM (Fn Vn):=match s.1 with
 |some r=>Zs r (s.2.1,s.2.2.1,s.2.2.2.1,s.2.2.2.2.1)
 |none=>vz (s.2.2.2.2.1+1) >>= λ_=>zo8 (s.2.1,s.2.2.1,s.2.2.2.1,s.2.2.2.2.1+1)
def l6(g:Nat)(s:Sn Tn):SM (Fn Vn):=match s.1 with
 |some r=>Zs r (s.2.1,s.2.2.1,s.2.2.2.1,g)
 |none=>(rule "list.sort.gallop" : SM Unit) >>= λ_=>forIn [0:a.size+b.size] ((none,s.2.1,s.2.2.1,s.2.2.2.1,g+1,s.2.2.2.2.1,s.2.2.2.2.2):Sn Un) (λ_ u=>l2u a b u.2) >>= λu=>l5 u
def l1t(g:Nat)(s:Tn):SM (Fn Tn):=l1 a b g s.2.2.2.1 s.2.2.2.2 s.1 s.2.1 s.2.2.1
def l7(v:Vn):SM (Fn Vn):=forIn [0:a.size+b.size] ((none,v.1,v.2.1,v.2.2.1,0,0):Sn Tn) (λ_ s=>l1t a b v.2.2.2 s.2) >>= λs=>l6 a b v.2.2.2 s
def zI9{γ:Type}(v:Sn γ):SM (Array Keyed):=match v.1 with
 |some r=>pure r
 |none=>unsupported "internal:list.sort.merge-bound"
def l8:SM (Array Keyed):=(rule "list.sort.merge-lo" : SM Unit) >>= λ_=>elem' b 0 >>= λy=>if (1 == b.size)=true then pure (eA a b #[y] 0 1)
 else if (0+1 == a.size)=true then pure (eB a b #[y] 0 1)
 else get >>= λst=>forIn [0:a.size+b.size] ((none,#[y],0,1,gallopOf st):Sn Vn) (λ_ v=>l7 a b v.2) >>= λv=>zI9 v
theorem WK:XH a b=l8 a b:=by
 show bind _ _=bind _ _
 congr 1;funext x;dsimp only
 congr 1;funext y
 by_cases e:(1 == b.size)=true
 ·rw[if_pos e,if_pos e];rfl
 rw[if_neg e,if_neg e]
 by_cases e1:(0+1 == a.size)=true
 ·rw[if_pos e1,if_pos e1];rfl
 rw[if_neg e1,if_neg e1]
 congr 1;funext st
 congr 1
 ·congr 1
  funext x v
  unfold l7
  congr 1
  funext s
  unfold l6;cases s.1
  ·dsimp only
   congr 1;funext x
   congr 1
   funext u
   unfold l5
   cases u.1<;>rfl
  ·rfl
 ·funext v
  unfold zI9
  cases v.1<;>rfl
end
section
variable {prog:Program}{w:World}{A:Around}{E:Value->Shared->Prop}{s:Shared}{t u:SortSt}{n:Nat}{item:Nat->Keyed}{kd:SortKind}{r:Nat->Nat->Bool}{la lb:Array Nat}{N c d g i j k:Nat}{o:Array Keyed}
def wx{α:Type}{c:Prop}[Decidable c]{m1 m2:StateT SortSt Sem α}{Q:α->SortSt->Prop}(h1:c->wpS (model prog w) A E s m1 Q t)(h2:¬c->wpS (model prog w) A E s m2 Q t):wpS (model prog w) A E s (if c then m1 else m2) Q t:=by
 by_cases h:c
 ·rw[if_pos h];exact h1 h
 ·rw[if_neg h];exact h2 h
def yZ{a b:Nat}(h:(a == b)=true):a=b:=by simpa using h
def vq{a b:Nat}(h:¬(a == b)=true):a≠b:=by simpa using h
def Same.tr{v:SortSt}(h:Same t u)(g:Same u v):Same t v:=⟨g.arr.trans h.arr,g.kd.trans h.kd,g.pend.trans h.pend,g.ok.trans h.ok⟩
section
variable {γ:Type}{P:Nat->γ->Prop}{G:Array Keyed->Prop}{b:Prop}
structure Lq(P:Nat->γ->Prop)(G:Array Keyed->Prop)(b:Prop)(Q:ForInStep (Sn γ)->SortSt->Prop)(N:Nat)(t:SortSt):Prop where
 ok:∀o x u,Same t u->G o->Q (.done (some o,x)) u
 dn:b->∀x u N',Same t u->P N' x->N'<N->Q (.done (none,x)) u
 nx:∀x u N',Same t u->P N' x->N'<N->Q (.yield (none,x)) u
def Le(P:Nat->γ->Prop)(G:Array Keyed->Prop)(b:Prop)(N:Nat)(v:Sn γ):Prop:=(∃o,v.1=some o/\G o)\/b/\v.1=none/\∃N'<N,P N' v.2
def vD{Q:ForInStep (Sn γ)->SortSt->Prop}{x:γ}(q:Lq P G b Q N t)(S:Same t u)(h:G o):wpS (model prog w) A E s (Zs o x) Q u:=zJ (q.ok _ _ _ S h)
def Jb{Q:ForInStep (Sn γ)->SortSt->Prop}{x:γ}{N':Nat}{c:Prop}[Decidable c](q:Lq P G True Q N t)(S:Same t u)(h:P N' x)(hN:N'<N):wpS (model prog w) A E s (if c then zH6 x else zo8 x) Q u:=
 wx (λ_=>zJ (q.dn trivial _ _ _ S h hN)) λ_=>zJ (q.nx _ _ _ S h hN)
def jZ(b:Prop){m:Nat}{f:γ->SM (Fn γ)}{v:γ}{Q:Sn γ->SortSt->Prop}(hP:∀N x,P N x->1<=N)(hm:N<m)(hv:P N v)
  (hf:∀v u Q N',Same t u->P N' v->N'<=N->Lq P G b Q N' u->wpS (model prog w) A E s (f v) Q u) (ne:∀v u,Same t u->Le P G b N v->Q v u) :
  wpS (model prog w) A E s (forIn [0:m] ((none,v):Sn γ) λ_ v=>f v.2) Q t:=by
 refine yA (wu (λx v u=>Same t u/\v.1=none/\∃N',N'+x<=N/\P N' v.2) (Q:=λv u=>Same t u/\Le P G b N v) ?_ ?_ ⟨.rfl',rfl,N,zd _,hv⟩) λv u h=>ne v u h.1 h.2
 ·rintro x v u _ hx ⟨S, _, N', hN', h⟩
  have e1:N'<=N:=w5
  have e3:∀y,y<N'->y+(x+1)<=N:=λy h=>by lia
  exact hf v.2 u _ N' S h e1 ⟨λo x u' h G=>⟨S.tr h,.inl ⟨o,rfl,G⟩⟩,λhb x u' N2 h p hl=>⟨S.tr h,.inr ⟨hb,rfl,N2,zS hl e1,p⟩⟩,λx u' N2 h p hl=>⟨S.tr h,rfl,N2,e3 _ hl,p⟩⟩
 ·rintro v u ⟨S, _, N', hN', h⟩;have:=hP _ _ h
  exfalso;lia
end
structure Lo(prog:Program)(w:World)(A:Around)(s:Shared)(n:Nat)(item:Nat->Keyed)(kd:SortKind)(r:Nat->Nat->Bool)(la lb:Array Nat):Prop where
 R:WRule prog w A s n item kd r
 T:Two n r la lb
 h1:r (lab lb 0) (lab la 0)=true
 h2:∀y∈lb.toList,r y (lab la (la.size-1))=true
structure PL(item:Nat->Keyed)(r:Nat->Nat->Bool)(la lb:Array Nat)(N:Nat)(o:Array Keyed)(i j:Nat):Prop where
 M:ML item r la lb o i j
 hi:i+1<la.size
 hj:j<lb.size
 hN:la.size-i+(lb.size-j)<=N
abbrev PLx{β:Type}(item:Nat->Keyed)(r:Nat->Nat->Bool)(la lb:Array Nat)(N:Nat)(x:Array Keyed × Nat × Nat × β):Prop:=PL item r la lb N x.1 x.2.1 x.2.2.1
abbrev QL{β:Type}(item:Nat->Keyed)(r:Nat->Nat->Bool)(la lb:Array Nat)(b:Prop)(Q:ForInStep (Sn (Array Keyed × Nat × Nat × β))->SortSt->Prop)(N:Nat)(t:SortSt):Prop:=Lq (PLx item r la lb) (Good item r la lb) b Q N t
def PL.pos{β:Type}(N:Nat)(x:Array Keyed × Nat × Nat × β)(h:PLx item r la lb N x):1<=N:=by have:=h.hN;have:=h.hi;lia
def PL.i0(p:PL item r la lb N o i j):i<la.size:=yC p.hi
def ML.eA(M:ML item r la lb o i j)(h:lb.size<=j\/la.size<=i):Good item r la lb (eA (la.map item) (lb.map item) o i j):=by
 unfold Srt.eA;rw[zI,zI];exact h.elim M.doneB M.doneA
variable (L:Lo prog w A s n item kd r la lb)
include L
theorem Lo.fa(hi:i<la.size)(hj:j<lb.size)(g:r (lab lb j) (lab la i)=false):∀y∈lb.toList.drop j,r y (lab la i)=false:=L.T.symm.hd L.R (L.T.al hi) hj g
theorem Lo.fb(hi:i<la.size)(hj:j<lb.size)(g:r (lab lb j) (lab la i)=true):∀y∈la.toList.drop i,r y (lab lb j)=false:=L.T.hd L.R (L.T.bl hj) hi (L.R.asy _ _ (L.T.bl hj) (L.T.al hi) g)
theorem Lo.eB(M:ML item r la lb o i j)(h:i+1=la.size):Good item r la lb (eB (la.map item) (lb.map item) o i j):=by
 unfold Srt.eB;rw[zI,zI];exact M.lastA L.R L.T L.h2 h
section
variable {Q:ForInStep (Sn Tn)->SortSt->Prop}
theorem Lo.l1(hk:kindOf t=kd)(q:QL item r la lb True Q N t)(p:PL item r la lb N o i j):wpS (model prog w) A E s (l1 (la.map item) (lb.map item) g c d o i j) Q t:=by
 obtain⟨M,hi,hj,hN⟩:=p;have hi0:=yC hi;refine zl (yb hj (zl (yb hi0 (zl (WN L.R hk (L.T.bl hj) (L.T.al hi0) (λe=>L.T.ne hi0 hj e.symm) ?_)))));cases z:r (lab lb j) (lab la i)
 ·refine zl (yb hi0 (wx (λe => vD q .rfl' (L.eB (M.pushA hi0 (L.fa hi0 hj z)) ?_)) λe => Jb q .rfl' (N' := la.size - (i + 1) + (lb.size - j)) ⟨M.pushA hi0 (L.fa hi0 hj z), ?_, hj, zd _⟩ ?_))
  ·rw[zI] at e;exact yZ e
  ·rw[zI] at e;have:=vq e;exact wm hi this
  ·lia
 ·refine zl (yb hj (wx (λe => vD q .rfl' ((M.pushB hj (L.fb hi0 hj z)).eA (.inl ?_))) λe => Jb q .rfl' (N' := la.size - i + (lb.size - (j + 1))) ⟨M.pushB hj (L.fb hi0 hj z), hi, ?_, zd _⟩ ?_))
  ·rw[zI] at e;exact yr (yZ e).symm
  ·rw[zI] at e;exact wm hj (vq e)
  ·lia
end
section
variable {Q:ForInStep (Sn Un)->SortSt->Prop} (q:QL item r la lb True Q N t) (S:Same t u)
include q S
theorem Lo.l4(p:PL item r la lb N o i j)(z:r (lab lb j) (lab la i)=false):wpS (model prog w) A E s (l4 (la.map item) (lb.map item) g c d o i j) Q u:=by
 obtain⟨M,hi,hj,hN⟩:=p;have hi0:=yC hi;refine zl (yb hi0 ?_);have M1:=M.pushA hi0 (L.fa hi0 hj z);rw[zI]
 exact wx (λe=>vD q S (L.eB M1 (yZ e))) λe=>Jb q S (N':=la.size-(i+1)+(lb.size-j)) ⟨M1,wm hi (vq e),hj,zd _⟩ w5
theorem Lo.l3b(p:PL item r la lb N o i j)(hk:k<=lb.size-j)(g5:∀i',i'<k->r (lab lb (j+i')) (lab la i)=true)(g6:∀i',k<=i'->i'<lb.size-j->r (lab lb (j+i')) (lab la i)=false) :
  wpS (model prog w) A E s (l3b (la.map item) (lb.map item) g c d k o i j) Q u:=by
 obtain⟨M,hi,hj,hN⟩:=p
 refine wx (λ_=>?_) λ_=>L.l4 q S ⟨M,hi,hj,hN⟩ (g6 0 w5 w5)
 have hk':j+k<=lb.size:=w5
 have M1:=M.addB hk' λi' h=>L.fb (yC hi) (j:=j+i') w5 (g5 i' h)
 rw[zI];refine wx (λe=>vD q S (M1.eA (.inl (yr (yZ e).symm)))) λe=>?_;have hj':j+k<lb.size:=wm hk' (vq e)
 exact L.l4 q S ⟨M1,hi,hj',w5⟩ (g6 k (zd _) w5)
theorem Lo.l3(hk:kindOf t=kd)(p:PL item r la lb N o i j)(z:r (lab lb j) (lab la i)=true):wpS (model prog w) A E s (l3 (la.map item) (lb.map item) g c d o i j) Q u:=by
 obtain⟨M,hi,hj,hN⟩:=p;have hi0:=yC hi;refine zl (yb hj ?_);have M1:=M.pushB hj (L.fb hi0 hj z);rw[zI];refine wx (λe=>vD q S (M1.eA (.inl (yr (yZ e).symm)))) λe=>?_;have hj':j+1<lb.size:=wm hj (vq e)
 refine zl (yb hi0 (zl (gal (m:=lb.size-(j+1)) (by':=λi'=>r (lab lb (j+1+i')) (lab la i)) (Nat.sub_pos_of_lt hj') (λi' h Q qq=>?_) (λi' j' h1 h2 hb=>?_) λk h g5 g6=>L.l3b q S ⟨M1,hi,hj',w5⟩ h g5 g6)))
 ·exact byd L.R (S.kd.trans hk) (L.T.al hi0) w5 (L.T.bl w5) (L.T.ne hi0 w5) (by simpa using qq)
 ·by_cases e : i' = j'
  ·rw[e];exact hb
  ·cases z : r (lab lb (j + 1 + i')) (lab la i) with
   |true=>rfl
   |false=>exact absurd hb (by rw[L.R.tr _ _ _ (L.T.al hi0) (L.T.bl (i:=j+1+i') w5) (L.T.bl (i:=j+1+j') w5) z (Zn L.T.bu w5 w5)];exact zQ)
theorem Lo.l2b(hk:kindOf t=kd)(p:PL item r la lb N o i j)(hk':k<=la.size-i)(g1:∀i',i'<k->r (lab lb j) (lab la (i+i'))=false)(g2:∀i',k<=i'->i'<la.size-i->r (lab lb j) (lab la (i+i'))=true) :
  wpS (model prog w) A E s (l2b (la.map item) (lb.map item) g d k o i j) Q u:=by
 obtain⟨M,hi,hj,hN⟩:=p
 refine wx (λ_=>?_) λ_=>L.l3 q S hk ⟨M,hi,hj,hN⟩ (g2 0 w5 w5)
 have hk2:i+k<=la.size:=w5
 have M1:=M.addA hk2 λi' h=>L.fa (i:=i+i') w5 hj (g1 i' h)
 rw[zI];refine wx (λe=>vD q S (L.eB M1 (yZ e))) λe=>wx (λe=>vD q S (M1.eA (.inr (yr (yZ e).symm)))) λe2=>?_
 have h3:i+k+1<la.size:=by have:=vq e;have:=vq e2;lia
 exact L.l3 q S hk ⟨M1,h3,hj,w5⟩ (g2 k (zd _) w5)
theorem Lo.l2(hk:kindOf t=kd)(p:PL item r la lb N o i j):wpS (model prog w) A E s (l2 (la.map item) (lb.map item) c d o i j g) Q u:=by
 have hi:=p.i0;have hj:=p.hj;unfold Srt.l2;rw[vm,zI];refine zl (yo ?_);have S4:=S.gal g;generalize UX u g=u at S4 ⊢
 refine zl (yb hj (zl (gal (m:=la.size-i) (by':=λi'=>!r (lab lb j) (lab la (i+i'))) (Nat.sub_pos_of_lt hi) (λi' h Q qq=>?_) (λi' j' h1 h2 hb=>?_) λk h g5 g6=>L.l2b q S4 hk p h (λi' h=>by simpa using g5 i' h) λi' h h'=>by simpa using g6 i' h h')))
 ·exact byd L.R (S4.kd.trans hk) (L.T.bl hj) w5 (L.T.al w5) (λe=>L.T.ne w5 hj e.symm) (by simpa using qq)
 ·by_cases e : i' = j'
  ·rw[e];exact hb
  ·show (!r (lab lb j) (lab la (i + i'))) = true
   rw[L.R.tr _ _ _ (L.T.al (i:=i+i') w5) (L.T.al (i:=i+j') w5) (L.T.bl hj) (Zn L.T.au w5 w5) (by simpa using hb)];rfl
end
theorem Lo.l7{b:Prop}{Q:ForInStep (Sn Vn)->SortSt->Prop}{v:Vn}(hk:kindOf t=kd)(q:QL item r la lb b Q N t)(p:PLx item r la lb N v)(hN:N<la.size+lb.size):wpS (model prog w) A E s (l7 (la.map item) (lb.map item) v) Q t:=by
 unfold Srt.l7;rw[zI,zI];refine zl (jZ (P:=PLx item r la lb) (G:=Good item r la lb) True PL.pos hN p (λv u Q N' S h _ q'=>L.l1 (S.kd.trans hk) q' h) λv u S h=>?_);unfold l6
 rcases h with ⟨o,e,G⟩ |⟨_,e,N',h,h'⟩
 ·rw[e];exact vD q S G
 rw[e,zI,zI];refine zl (wpS_lift (yc ⟨rfl,zl (jZ (P:=PLx item r la lb) (G:=Good item r la lb) True PL.pos (Nat.lt_trans h hN) h' (λv u' Q N' S' h' _ q'=>?_) λv u' S' h2=>?_)⟩))
 ·have hk':=(S.tr S').kd.trans hk;exact wx (λ_=>L.l2 q' .rfl' hk' h') λ_=>L.l2 q' .rfl' hk' h'
 ·unfold l5
  rcases h2 with ⟨o,e,G⟩ |⟨_,e,N2,h2,h3⟩
  ·rw[e];exact vD q (S.tr S') G
  ·rw[e,vm];exact zl (yo (zJ (q.nx _ _ _ ((S.tr S').gal _) h3 (Nat.lt_trans h2 h))))
theorem mlo(hk:kindOf t=kd)(ha:1<=la.size)(hb:1<=lb.size){Q:Array Keyed->SortSt->Prop}(q:∀out t',Same t t'->Good item r la lb out->Q out t'):wpS (model prog w) A E s (XH (la.map item) (lb.map item)) Q t:=by
 rw[WK];unfold l8;refine zl (wpS_lift (yc ⟨rfl,zl (yb hb ?_)⟩));rw[zI,zI]
 have M0:ML item r la lb #[] 0 0:=⟨#[],by simp,by
  simp only[wX]
  exact⟨List.Perm.refl _,.nil,by simp,by simp,L.T.au,L.T.bu⟩⟩
 have M1:=M0.pushB hb (L.fb ha hb L.h1);change ML item r la lb #[item (lab lb 0)] 0 1 at M1;generalize #[item (lab lb 0)]=o at M1 ⊢;refine wx (λe=>zJ (q _ _ .rfl' (M1.eA (.inl (yr (yZ e).symm))))) λe=>?_;refine wx (λe=>zJ (q _ _ .rfl' (L.eB M1 (yZ e)))) λe1=>?_;have i2:1<lb.size:=wm hb (vq e)
 have hN:la.size-0+(lb.size-1)<la.size+lb.size:=w5
 refine zl (wpS_get (zl (jZ (P:=PLx item r la lb) (G:=Good item r la lb) False PL.pos hN ⟨M1,wm ha (vq e1),i2,zd _⟩ (λv u Q N' S h h' q'=>L.l7 (S.kd.trans hk) q' h (yq h' hN)) λv u S h=>?_)))
 rcases h with ⟨o,e,G⟩ |⟨f,_⟩
 ·unfold zI9;rw[e];exact zJ (q _ _ S G)
 ·exact f.elim
end
section
variable (a b:Array Keyed)
abbrev Th:=Nat × Nat × Array Keyed × Nat × Nat
abbrev Uh:=Nat × Nat × Array Keyed × Nat × Nat × Nat
abbrev Vh:=Nat × Nat × Array Keyed × Nat
def hA(o:Array Keyed)(i j:Nat):Array Keyed:=a.extract 0 i++b.extract 0 j++o.reverse
def hB(o:Array Keyed)(i j:Nat):Array Keyed:=b.extract 0 j++a.extract 0 i++o.reverse
def h1(g c d:Nat)(o:Array Keyed)(i j:Nat):SM (Fn Th):=elem' b (j-1) >>= λy=>elem' a (i-1) >>= λx=>lt' y x >>= λw=>match w with
 |some w=>if w=true then elem' a (i-1) >>= λz=>if (i-1 == 0)=true then Zs (hA a b (o.push z) (i-1) j) (i-1,j,o.push z,c+1,0) else if c+1>=g then zH6 (i-1,j,o.push z,c+1,0) else zo8 (i-1,j,o.push z,c+1,0)
  else elem' b (j-1) >>= λz=>if (j-1 == 1)=true then Zs (hB a b (o.push z) i (j-1)) (i,j-1,o.push z,0,d+1) else if d+1>=g then zH6 (i,j-1,o.push z,0,d+1) else zo8 (i,j-1,o.push z,0,d+1)
 |_=>Zs (hA a b o i j) (i,j,o,c,d)
def h4(g c d:Nat)(o:Array Keyed)(i j:Nat):SM (Fn Uh):=elem' a (i-1) >>= λx=>if (i-1 == 0)=true then Zs (hA a b (o.push x) (i-1) j) (i-1,j,o.push x,g,c,d)
 else if (decide (c<7)&&decide (d<7))=true then zH6 (i-1,j,o.push x,g,c,d) else zo8 (i-1,j,o.push x,g,c,d)
def h3b(g c k:Nat)(o:Array Keyed)(i j:Nat):SM (Fn Uh):=if j-k > 0 then
  if (k == 1)=true then Zs (hB a b (o++(b.extract k j).reverse) i k) (i,k,o++(b.extract k j).reverse,g,c,j-k)
  else if (k == 0)=true then Zs (hA a b (o++(b.extract k j).reverse) i k) (i,k,o++(b.extract k j).reverse,g,c,j-k) else h4 a b g c (j-k) (o++(b.extract k j).reverse) i k
 else h4 a b g c (j-k) o i j
def h3(g c d:Nat)(o:Array Keyed)(i j:Nat):SM (Fn Uh):=elem' b (j-1) >>= λy=>if (j-1 == 1)=true then Zs (hB a b (o.push y) i (j-1)) (i,j-1,o.push y,g,c,d)
 else elem' a (i-1) >>= λx=>qG true x b 0 (j-1) (j-1-1) >>= λk=>match k with
  |some k=>h3b a b g c k (o.push y) i (j-1)
  |_=>Zs (hA a b (o.push y) i (j-1)) (i,j-1,o.push y,g,c,d)
def h2b(g d k:Nat)(o:Array Keyed)(i j:Nat):SM (Fn Uh):=if i-k > 0 then
  if (k == 0)=true then Zs (hA a b (o++(a.extract k i).reverse) k j) (k,j,o++(a.extract k i).reverse,g,i-k,d) else h3 a b g (i-k) d (o++(a.extract k i).reverse) k j
 else h3 a b g (i-k) d o i j
def h2(c d:Nat)(o:Array Keyed)(i j g:Nat):SM (Fn Uh):=vz g >>= λ_=>elem' b (j-1) >>= λy=>qG false y a 0 i (i-1) >>= λk=>match k with
 |some k=>h2b a b g d k o i j
 |_=>Zs (hA a b o i j) (i,j,o,g,c,d)
def h2u(u:Uh):SM (Fn Uh):=if u.2.2.2.1 > 1 then h2 a b u.2.2.2.2.1 u.2.2.2.2.2 u.2.2.1 u.1 u.2.1 (u.2.2.2.1-1) else h2 a b u.2.2.2.2.1 u.2.2.2.2.2 u.2.2.1 u.1 u.2.1 u.2.2.2.1
def h5(s:Sn Uh):SM (Fn Vh):=match s.1 with
 |some r=>Zs r (s.2.1,s.2.2.1,s.2.2.2.1,s.2.2.2.2.1)
 |none=>vz (s.2.2.2.2.1+1) >>= λ_=>zo8 (s.2.1,s.2.2.1,s.2.2.2.1,s.2.2.2.2.1+1)
def h6(g:Nat)(s:Sn Th):SM (Fn Vh):=match s.1 with
 |some r=>Zs r (s.2.1,s.2.2.1,s.2.2.2.1,g)
 |none=>(rule "list.sort.gallop" : SM Unit) >>= λ_=>forIn [0:a.size+b.size] ((none,s.2.1,s.2.2.1,s.2.2.2.1,g+1,s.2.2.2.2.1,s.2.2.2.2.2):Sn Uh) (λ_ u=>h2u a b u.2) >>= λu=>h5 u
def h1t(g:Nat)(s:Th):SM (Fn Th):=h1 a b g s.2.2.2.1 s.2.2.2.2 s.2.2.1 s.1 s.2.1
def h7(v:Vh):SM (Fn Vh):=forIn [0:a.size+b.size] ((none,v.1,v.2.1,v.2.2.1,0,0):Sn Th) (λ_ s=>h1t a b v.2.2.2 s.2) >>= λs=>h6 a b v.2.2.2 s
def h8:SM (Array Keyed):=(rule "list.sort.merge-hi" : SM Unit) >>= λ_=>elem' a (a.size-1) >>= λy=>if (a.size-1 == 0)=true then pure (hA a b #[y] (a.size-1) b.size)
 else if (b.size == 1)=true then pure (hB a b #[y] (a.size-1) b.size)
 else get >>= λst=>forIn [0:a.size+b.size] ((none,a.size-1,b.size,#[y],gallopOf st):Sn Vh) (λ_ v=>h7 a b v.2) >>= λv=>zI9 v
theorem WL:XI a b=h8 a b:=by
 show bind _ _=bind _ _
 congr 1;funext x;dsimp only
 congr 1;funext y
 by_cases e:(a.size-1 == 0)=true
 ·rw[if_pos e,if_pos e];rfl
 rw[if_neg e,if_neg e]
 by_cases e1:(b.size == 1)=true
 ·rw[if_pos e1,if_pos e1];rfl
 rw[if_neg e1,if_neg e1]
 congr 1;funext st
 congr 1
 ·congr 1
  funext x v
  unfold h7
  congr 1
  funext s
  unfold h6;cases s.1
  ·dsimp only
   congr 1;funext x
   congr 1
   funext u
   unfold h5
   cases u.1<;>rfl
  ·rfl
 ·funext v
  unfold zI9
  cases v.1<;>rfl
end
section
variable {prog:Program}{w:World}{A:Around}{E:Value->Shared->Prop}{s:Shared}{t:SortSt}{n:Nat}{u:SortSt}{item:Nat->Keyed}{kd:SortKind}{r:Nat->Nat->Bool}
structure MH(item:Nat->Keyed)(r:Nat->Nat->Bool)(la lb:Array Nat)(out:Array Keyed)(na nb:Nat):Prop where
 o:∃O:Array Nat,out=O.map item/\MI (λx y=>r x y=false) (la.toList++lb.toList) O.toList (la.toList.take na).reverse (lb.toList.take nb).reverse
def kI{ks:Array Nat}{k x:Nat}(hk:k<=ks.size):x∈ks.toList.take k↔∃i,i<k/\x=lab ks i:=by
 rw[List.mem_iff_getElem?]
 constructor
 ·rintro ⟨i, h⟩;rw[yu] at h
  split at h
  ·rename_i g
   rw[zG,yG w5] at h
   exact⟨i,g,(zF h).symm⟩
  ·cases h
 ·rintro ⟨i, h1, rfl⟩
  exact⟨i,by rw[yu,if_pos h1,zG,yG w5]⟩
def US{ks:Array Nat}{k:Nat}(h1:1<=k)(hk:k<=ks.size):(ks.toList.take k).reverse=[lab ks (k-1)]++(ks.toList.take (k-1)).reverse:=by
 obtain⟨m,rfl⟩:∃m,k=m+1:=⟨k-1,w5⟩
 rw[Nat.add_sub_cancel,xq,zG,yG w5,wM]
 rfl
def UT{ks:Array Nat}{j k:Nat}(h:j<=k):(ks.toList.take k).reverse=(ks.extract j k).reverse.toList++(ks.toList.take j).reverse:=by
 rw[Array.toList_reverse,xY,xG,<- wM]
 have e:(ks.toList.take k).take j=ks.toList.take j:=by rw[List.take_take,Nat.min_eq_left h]
 rw[<- List.drop_take,<- e,wA]
def zb7{ks:Array Nat}{j k x:Nat}(hk:k<=ks.size)(hx:x∈(ks.extract j k).reverse.toList):∃i,j<=i/\i<k/\x=lab ks i:=by
 rw[Array.toList_reverse,wc,xY,xG,<- List.drop_take,List.mem_iff_getElem?] at hx;obtain⟨i,hi⟩:=hx;rw[xQ,yu] at hi
 split at hi
 ·rename_i g
  rw[zG,yG w5] at hi
  exact⟨j+i,w5,g,(zF hi).symm⟩
 ·cases hi
section
variable {la lb:Array Nat}{out:Array Keyed}{na nb:Nat}
def Two.hh(R:WRule prog w A s n item kd r)(T:Two n r la lb){c m:Nat}(hc:c<n)(h:m<la.size)(g:r c (lab la m)=false):∀i,i<=m->r c (lab la i)=false:=λi hi=>by
 by_cases e:i=m
 ·rw[e];exact g
 ·exact R.tr _ _ _ (T.al w5) (T.al h) hc (Zn T.au w5 h) g
def MH.pushA(M:MH item r la lb out na nb)(h:1<=na)(ha:na<=la.size)(hb:nb<=lb.size)(g:∀j,j<nb->r (lab la (na-1)) (lab lb j)=false):MH item r la lb (out.push (item (lab la (na-1)))) (na-1) nb:=by
 obtain⟨O,rfl,m⟩:=M.o;rw[US h ha] at m
 refine⟨O.push (lab la (na-1)),by rw[Array.map_push],?_⟩
 rw[yE]
 exact m.takeA λx hx y hy=>by
  obtain⟨j,hj,rfl⟩:=(kI hb).mp (wc.mp hy);rw[zW.mp hx];exact g j hj
def MH.pushB(M:MH item r la lb out na nb)(h:1<=nb)(ha:na<=la.size)(hb:nb<=lb.size)(g:∀j,j<na->r (lab lb (nb-1)) (lab la j)=false):MH item r la lb (out.push (item (lab lb (nb-1)))) na (nb-1):=by
 obtain⟨O,rfl,m⟩:=M.o;rw[US h hb] at m
 refine⟨O.push (lab lb (nb-1)),by rw[Array.map_push],?_⟩
 rw[yE]
 exact m.takeB λx hx y hy=>by
  obtain⟨j,hj,rfl⟩:=(kI ha).mp (wc.mp hy);rw[zW.mp hx];exact g j hj
def MH.addA(M:MH item r la lb out na nb){k:Nat}(h:k<=na)(ha:na<=la.size)(hb:nb<=lb.size)(g:∀i,k<=i->i<na->∀j,j<nb->r (lab la i) (lab lb j)=false):MH item r la lb (out++((la.map item).extract k na).reverse) k nb:=by
 obtain⟨O,rfl,m⟩:=M.o;rw[UT h] at m
 refine⟨O++(la.extract k na).reverse,by rw[xO,Array.map_reverse,xu],?_⟩
 rw[zR]
 exact m.takeA λx hx y hy=>by
  obtain⟨j,hj,rfl⟩:=(kI hb).mp (wc.mp hy);obtain⟨i,i1,i2,rfl⟩:=zb7 ha hx;exact g i i1 i2 j hj
def MH.addB(M:MH item r la lb out na nb){k:Nat}(h:k<=nb)(ha:na<=la.size)(hb:nb<=lb.size)(g:∀i,k<=i->i<nb->∀j,j<na->r (lab lb i) (lab la j)=false):MH item r la lb (out++((lb.map item).extract k nb).reverse) na k:=by
 obtain⟨O,rfl,m⟩:=M.o;rw[UT h] at m
 refine⟨O++(lb.extract k nb).reverse,by rw[xO,Array.map_reverse,xu],?_⟩
 rw[zR]
 exact m.takeB λx hx y hy=>by
  obtain⟨j,hj,rfl⟩:=(kI ha).mp (wc.mp hy);obtain⟨i,i1,i2,rfl⟩:=zb7 hb hx;exact g i i1 i2 j hj
def XS{ks:Array Nat}{i:Nat}:(ks.extract 0 i).toList=ks.toList.take i:=by
 rw[xY,xG,wX,Nat.sub_zero]
def MH.done(M:MH item r la lb out na nb)(ha:na<=la.size)(hb:nb<=lb.size)(g:∀i,i<nb->∀j,j<na->r (lab lb i) (lab la j)=false):Good item r la lb ((la.map item).extract 0 na++(lb.map item).extract 0 nb++out.reverse):=by
 obtain⟨O,rfl,m⟩:=M.o
 obtain⟨p1,p2⟩:=m.endB λx hx y hy=>by
  obtain⟨i,hi,rfl⟩:=(kI hb).mp (wc.mp hx);obtain⟨j,hj,rfl⟩:=(kI ha).mp (wc.mp hy);exact g i hi j hj
 have e:(la.extract 0 na++lb.extract 0 nb++O.reverse).toList=(O.toList++(lb.toList.take nb).reverse++(la.toList.take na).reverse).reverse:=by
  rw[zR,zR,XS,XS,Array.toList_reverse,wM,wM,reverse_reverse,reverse_reverse,wj]
 refine⟨la.extract 0 na++lb.extract 0 nb++O.reverse,by rw[xO,xO,xu,xu,Array.map_reverse],?_,?_⟩
 ·rw[e];exact(yh _).trans p1
 ·rw[e,wW];exact p2
def MH.first(M:MH item r la lb out na nb)(ha:na<=la.size)(hb:nb<=lb.size)(g:∀j,j<na->∀i,i<nb->r (lab la j) (lab lb i)=false):Good item r la lb ((lb.map item).extract 0 nb++(la.map item).extract 0 na++out.reverse):=by
 obtain⟨O,rfl,m⟩:=M.o
 obtain⟨p1,p2⟩:=m.endA λx hx y hy=>by
  obtain⟨i,hi,rfl⟩:=(kI ha).mp (wc.mp hx);obtain⟨j,hj,rfl⟩:=(kI hb).mp (wc.mp hy);exact g i hi j hj
 have e:(lb.extract 0 nb++la.extract 0 na++O.reverse).toList=(O.toList++(la.toList.take na).reverse++(lb.toList.take nb).reverse).reverse:=by
  rw[zR,zR,XS,XS,Array.toList_reverse,wM,wM,reverse_reverse,reverse_reverse,wj]
 refine⟨lb.extract 0 nb++la.extract 0 na++O.reverse,by rw[xO,xO,xu,xu,Array.map_reverse],?_,?_⟩
 ·rw[e];exact(yh _).trans p1
 ·rw[e,wW];exact p2
end
section
variable {N c d g i j k:Nat}{o:Array Keyed}{la lb:Array Nat}
structure PH(item:Nat->Keyed)(r:Nat->Nat->Bool)(la lb:Array Nat)(N:Nat)(o:Array Keyed)(i j:Nat):Prop where
 M:MH item r la lb o i j
 i1:1<=i
 i2:i<=la.size
 j1:2<=j
 j2:j<=lb.size
 hN:i+j<=N
abbrev PHx{β:Type}(item:Nat->Keyed)(r:Nat->Nat->Bool)(la lb:Array Nat)(N:Nat)(x:Nat × Nat × Array Keyed × β):Prop:=PH item r la lb N x.2.2.1 x.1 x.2.1
abbrev QH{β:Type}(item:Nat->Keyed)(r:Nat->Nat->Bool)(la lb:Array Nat)(b:Prop)(Q:Fn (Nat × Nat × Array Keyed × β)->SortSt->Prop)(N:Nat)(t:SortSt):Prop:=Lq (PHx item r la lb) (Good item r la lb) b Q N t
def PH.pos{β:Type}(N:Nat)(x:Nat × Nat × Array Keyed × β)(h:PHx item r la lb N x):1<=N:=zw h.i1 (zw (Nat.le_add_right _ _) h.hN)
def Qq{i m:Nat}(h:1<=i)(h':i<=m):i-1<m:=w5
def zk0{j:Nat}(h:2<=j):1<=j:=w5
def xc1{i:Nat}(h:1<=i)(e:¬(i-1 == 0)=true):1<=i-1:=by have:=vq e;lia
def xp3{j:Nat}(h:2<=j)(e:¬(j-1 == 1)=true):2<=j-1:=by have:=vq e;lia
def lt3{m i:Nat}(h:1<=i)(hm:m<i):m<i-1+1:=w5
variable (L:Lo prog w A s n item kd r la lb)
include L
theorem Lo.hA(hi:i<la.size)(hj:j<lb.size)(g:r (lab lb j) (lab la i)=true):∀m,m<j+1->r (lab la i) (lab lb m)=false:=λm hm=>L.T.symm.hh L.R (L.T.al hi) hj (L.R.asy _ _ (L.T.bl hj) (L.T.al hi) g) m (Nat.le_of_lt_succ hm)
theorem Lo.hB(hi:i<la.size)(hj:j<lb.size)(g:r (lab lb j) (lab la i)=false):∀m,m<i+1->r (lab lb j) (lab la m)=false:=λm hm=>L.T.hh L.R (L.T.bl hj) hi g m (Nat.le_of_lt_succ hm)
theorem Lo.fst(M:MH item r la lb o i j)(hi:i<=la.size)(hb:1<=lb.size)(hj:j=1):Good item r la lb (Srt.hB (la.map item) (lb.map item) o i j):=M.first hi w5 λj' hj' i' hi'=>by
 obtain rfl:i'=0:=w5
 have z:r (lab la 0) (lab lb 0)=false:=L.R.asy _ _ (L.T.bl hb) (L.T.al w5) L.h1
 by_cases e:j'=0
 ·rw[e];exact z
 ·exact L.R.tr _ _ _ (L.T.bl hb) (L.T.al (i:=0) w5) (L.T.al w5) z (Zn L.T.au w5 w5)
omit L in
theorem MH.don(M:MH item r la lb o i j)(hi:i<=la.size)(hj:j<=lb.size)(h:i=0\/j=0):Good item r la lb (Srt.hA (la.map item) (lb.map item) o i j):=M.done hi hj λi' hi' j' hj'=>by lia
theorem Lo.pA(p:PH item r la lb N o i j)(z:r (lab lb (j-1)) (lab la (i-1))=true):MH item r la lb (o.push (item (lab la (i-1)))) (i-1) j:=p.M.pushA p.i1 p.i2 p.j2 λm hm=>L.hA (Qq p.i1 p.i2) (Qq (zk0 p.j1) p.j2) z m (lt3 (zk0 p.j1) hm)
theorem Lo.pB(p:PH item r la lb N o i j)(z:∀m,m<i->r (lab lb (j-1)) (lab la m)=false):MH item r la lb (o.push (item (lab lb (j-1)))) i (j-1):=p.M.pushB (zk0 p.j1) p.i2 p.j2 z
theorem Lo.h1'{Q:Fn Th->SortSt->Prop}(hk:kindOf t=kd)(q:QH item r la lb True Q N t)(p:PH item r la lb N o i j):wpS (model prog w) A E s (Srt.h1 (la.map item) (lb.map item) g c d o i j) Q t:=by
 have hi:=Qq p.i1 p.i2;have hj:=Qq (zk0 p.j1) p.j2;have hN:=p.hN;have i1:=p.i1;have j1:=p.j1;refine zl (yb hj (zl (yb hi (zl (WN L.R hk (L.T.bl hj) (L.T.al hi) (λe=>L.T.ne hi hj e.symm) ?_)))));cases z:r (lab lb (j-1)) (lab la (i-1))
 ·have M := L.pB p λm hm => L.hB hi hj z m (lt3 i1 hm)
  exact zl (yb hj (wx (λe=>vD q .rfl' (L.fst M p.i2 (zw (zk0 j1) p.j2) (yZ e))) λe=>Jb q .rfl' (N':=i+(j-1)) ⟨M,i1,p.i2,xp3 j1 e,xM hj,zd _⟩ w5))
 ·have M := L.pA p z
  exact zl (yb hi (wx (λe=>vD q .rfl' (M.don (xM hi) p.j2 (.inl (yZ e)))) λe=>Jb q .rfl' (N':=i-1+j) ⟨M,xc1 i1 e,xM hi,j1,p.j2,zd _⟩ w5))
section
variable {Q:Fn Uh->SortSt->Prop} (q:QH item r la lb True Q N t) (S:Same t u)
include q S
theorem Lo.h4(M:MH item r la lb o i j)(i1:1<=i)(i2:i<=la.size)(j1:2<=j)(j2:j<=lb.size)(hN:i+j<=N)(z:∀m,m<j->r (lab la (i-1)) (lab lb m)=false):wpS (model prog w) A E s (h4 (la.map item) (lb.map item) g c d o i j) Q u:=by
 have hi:=Qq i1 i2;have M1:=M.pushA i1 i2 j2 z
 exact zl (yb hi (wx (λe=>vD q S (M1.don (xM hi) j2 (.inl (yZ e)))) λe=>Jb q S (N':=i-1+j) ⟨M1,xc1 i1 e,xM hi,j1,j2,zd _⟩ w5))
theorem Lo.h3b(p:PH item r la lb N o i j)(hk:k<=j)(g5:∀m,m<k->r (lab lb m) (lab la (i-1))=true)(g6:∀m,k<=m->m<j->r (lab lb m) (lab la (i-1))=false) :
  wpS (model prog w) A E s (h3b (la.map item) (lb.map item) g c k o i j) Q u:=by
 obtain⟨M,i1,i2,j1,j2,hN⟩:=p;have hi:=Qq i1 i2
 have z:∀m,m<k->r (lab la (i-1)) (lab lb m)=false:=λm hm=>L.R.asy _ _ (L.T.bl w5) (L.T.al hi) (g5 m hm)
 refine wx (λ_=>?_) λe=>?_
 ·have M1 := M.addB hk i2 j2 λm m1 m2 x hx => L.hB hi w5 (g6 m m1 m2) x (lt3 i1 hx)
  have kb:k<=lb.size:=zw hk j2
  exact wx (λe=>vD q S (L.fst M1 i2 w5 (yZ e))) λe=>wx (λe=>vD q S (M1.don i2 kb (.inr (yZ e)))) λe'=>L.h4 q S M1 i1 i2 (by have:=vq e;have:=vq e';lia) kb w5 z
 ·obtain rfl : k = j := by lia
  exact L.h4 q S M i1 i2 j1 j2 hN z
theorem Lo.h3(hk:kindOf t=kd)(p:PH item r la lb N o i j)(z:∀m,m<i->r (lab lb (j-1)) (lab la m)=false):wpS (model prog w) A E s (h3 (la.map item) (lb.map item) g c d o i j) Q u:=by
 have hi:=Qq p.i1 p.i2;have hj:=Qq (zk0 p.j1) p.j2;have M1:=L.pB p z;obtain⟨M,i1,i2,j1,j2,hN⟩:=p
 refine zl (yb hj (wx (λe=>vD q S (L.fst M1 i2 w5 (yZ e))) λe=>?_))
 have j1':=xp3 j1 e
 refine zl (yb hi (zl (gal (m:=j-1) (by':=λm=>r (lab lb (0+m)) (lab la (i-1))) w5 (λm h Q qq=>?_) (λm x h1 h2 hb=>?_) λk h g5 g6=>L.h3b q S ⟨M1,i1,i2,j1',xM hj,w5⟩ h (λm h=>by have:=g5 m h;rwa [Nat.zero_add] at this) λm h h'=>by have:=g6 m h h';rwa [Nat.zero_add] at this)))
 ·exact byd L.R (S.kd.trans hk) (L.T.al hi) w5 (L.T.bl w5) (L.T.ne hi w5) (by simpa using qq)
 ·by_cases e : m = x
  ·rw[e];exact hb
  ·cases z : r (lab lb (0 + m)) (lab la (i - 1)) with
   |true=>rfl
   |false=>exact absurd hb (by rw[L.R.tr _ _ _ (L.T.al hi) (L.T.bl (i:=0+m) w5) (L.T.bl (i:=0+x) w5) z (Zn L.T.bu w5 w5)];exact zQ)
theorem Lo.h2b(hk:kindOf t=kd)(p:PH item r la lb N o i j)(hk':k<=i)(g1:∀m,m<k->r (lab lb (j-1)) (lab la m)=false)(g2:∀m,k<=m->m<i->r (lab lb (j-1)) (lab la m)=true):wpS (model prog w) A E s (h2b (la.map item) (lb.map item) g d k o i j) Q u:=by
 refine wx (λ_=>?_) λe=>?_
 ·obtain ⟨M, i1, i2, j1, j2, hN⟩ := p;have hj:=Qq (zk0 j1) j2
  have M1:=M.addA hk' i2 j2 λm m1 m2 x hx=>L.hA w5 hj (g2 m m1 m2) x (lt3 (zk0 j1) hx)
  have ka:=zw hk' i2
  exact wx (λe=>vD q S (M1.don ka j2 (.inl (yZ e)))) λe=>L.h3 q S hk ⟨M1,Nat.pos_of_ne_zero (vq e),ka,j1,j2,w5⟩ g1
 ·obtain rfl : k = i := by lia
  exact L.h3 q S hk p g1
theorem Lo.h2'(hk:kindOf t=kd)(p:PH item r la lb N o i j):wpS (model prog w) A E s (Srt.h2 (la.map item) (lb.map item) c d o i j g) Q u:=by
 have hj:=Qq (zk0 p.j1) p.j2;have i1:=p.i1;have i2:=p.i2;unfold Srt.h2;rw[vm];refine zl (yo ?_);have S4:=S.gal g;generalize UX u g=u at S4 ⊢
 refine zl (yb hj (zl (gal (m:=i) (by':=λm=>!r (lab lb (j-1)) (lab la (0+m))) w5 (λm h Q qq=>?_) (λm x h1 h2 hb=>?_) λk h g5 g6=>L.h2b q S4 hk p h (λm h=>by have:=g5 m h;rw[Nat.zero_add] at this;simpa using this) λm h h'=>by have:=g6 m h h';rw[Nat.zero_add] at this;simpa using this)))
 ·exact byd L.R (S4.kd.trans hk) (L.T.bl hj) w5 (L.T.al w5) (λe=>L.T.ne w5 hj e.symm) (by simpa using qq)
 ·by_cases e : m = x
  ·rw[e];exact hb
  ·show (!r (lab lb (j - 1)) (lab la (0 + m))) = true
   rw[L.R.tr _ _ _ (L.T.al (i:=0+m) w5) (L.T.al (i:=0+x) w5) (L.T.bl hj) (Zn L.T.au w5 w5) (by simpa using hb)];rfl
end
theorem Lo.h7{b:Prop}{Q:Fn Vh->SortSt->Prop}{v:Vh}(hk:kindOf t=kd)(q:QH item r la lb b Q N t)(p:PHx item r la lb N v)(hN:N<la.size+lb.size):wpS (model prog w) A E s (h7 (la.map item) (lb.map item) v) Q t:=by
 unfold Srt.h7;rw[zI,zI];refine zl (jZ (P:=PHx item r la lb) (G:=Good item r la lb) True PH.pos hN p (λv u Q N' S h _ q'=>L.h1' (S.kd.trans hk) q' h) λv u S h=>?_);unfold h6
 rcases h with ⟨o,e,G⟩ |⟨_,e,N',h,h'⟩
 ·rw[e];exact vD q S G
 rw[e,zI,zI];refine zl (wpS_lift (yc ⟨rfl,zl (jZ (P:=PHx item r la lb) (G:=Good item r la lb) True PH.pos (Nat.lt_trans h hN) h' (λv u' Q N' S' h' _ q'=>?_) λv u' S' h2=>?_)⟩))
 ·have hk':=(S.tr S').kd.trans hk;exact wx (λ_=>L.h2' q' .rfl' hk' h') λ_=>L.h2' q' .rfl' hk' h'
 ·unfold h5
  rcases h2 with ⟨o,e,G⟩ |⟨_,e,N2,h2,h3⟩
  ·rw[e];exact vD q (S.tr S') G
  ·rw[e,vm];exact zl (yo (zJ (q.nx _ _ _ ((S.tr S').gal _) h3 (Nat.lt_trans h2 h))))
theorem mhi(hk:kindOf t=kd)(ha:1<=la.size)(hb:1<=lb.size){Q:Array Keyed->SortSt->Prop}(q:∀out t',Same t t'->Good item r la lb out->Q out t'):wpS (model prog w) A E s (XI (la.map item) (lb.map item)) Q t:=by
 rw[WL];unfold h8;rw[zI,zI];have hl:la.size-1<la.size:=Qq ha (zd _);refine zl (wpS_lift (yc ⟨rfl,zl (yb hl ?_)⟩))
 have M0:MH item r la lb #[] la.size lb.size:=⟨#[],by simp,by
  have e1:la.toList.take la.size=la.toList:=wa (by rw[zg];exact zd _)
  have e2:lb.toList.take lb.size=lb.toList:=wa (by rw[zg];exact zd _)
  rw[e1,e2]
  exact⟨by simpa using (yh _).append (yh _),.nil,by simp,by simp,wW.mpr L.T.au,wW.mpr L.T.bu⟩⟩
 have M1:=M0.pushA ha (zd _) (zd _) λj hj=>L.R.asy _ _ (L.T.bl hj) (L.T.al hl) (L.h2 _ (kM hj));change MH item r la lb #[item (lab la (la.size-1))] (la.size-1) lb.size at M1;generalize #[item (lab la (la.size-1))]=o at M1 ⊢;refine wx (λe=>zJ (q _ _ .rfl' (M1.don (xM hl) (zd _) (.inl (yZ e))))) λe=>wx (λe=>zJ (q _ _ .rfl' (L.fst M1 (xM hl) hb (yZ e)))) λe1=>?_;have hN:la.size-1+lb.size<la.size+lb.size:=Nat.add_lt_add_right hl _;refine zl (wpS_get (zl (jZ (P:=PHx item r la lb) (G:=Good item r la lb) False PH.pos hN ⟨M1,xc1 ha e,xM hl,wm hb (λz=>vq e1 z.symm),zd _,zd _⟩ (λv u Q N' S h h' q'=>L.h7 (S.kd.trans hk) q' h (yq h' hN)) λv u S h=>?_)))
 rcases h with ⟨o,e,G⟩ |⟨f,_⟩
 ·unfold zI9;rw[e];exact zJ (q _ _ S G)
 ·exact f.elim
end
end
theorem Ki{α:Type}:∀(l:List α) (arr:Array α) (sa k:Nat),sa+k+l.length<=arr.size->((l.zipIdx k).foldl (λa (p:α × Nat)=>a.setIfInBounds (sa+p.2) p.1) arr).toList=arr.toList.take (sa+k)++l++arr.toList.drop (sa+k+l.length)
 |[],arr,sa,k,h=>by simp
 | x :: l, arr, sa, k, h => by
  rw[zu] at h
  have hi:sa+k<arr.toList.length:=by rw[zg];lia
  rw[zipIdx_cons,foldl_cons,Ki l _ sa (k+1) (by rw[Array.size_setIfInBounds];lia),Array.toList_setIfInBounds]
  have e1:(arr.toList.set (sa+k) x).take (sa+(k+1))=arr.toList.take (sa+k)++[x]:=by
   rw[<- Nat.add_assoc,xq,List.take_set_of_le (zd _),xi hi];rfl
  have e2:(arr.toList.set (sa+k) x).drop (sa+(k+1)+l.length)=arr.toList.drop (sa+k+(l.length+1)):=by
   rw[List.drop_set_of_lt w5]
   congr 1;lia
  rw[e1,e2,zu];simp
def zw8{M:Model}{A:Around}{E:Value->Shared->Prop}{s:Shared}{σ:Type}{st':σ}{Q:PUnit->σ->Prop}{st:σ}(h:Q ⟨⟩ st'):wpS M A E s (set st':StateT σ Sem PUnit) Q st:=by
 unfold wpS;rw[StateT.run_set];exact zf ⟨rfl,h⟩
structure Nw(n:Nat)(item:Nat->Keyed)(kd:SortKind)(ls:Array Nat)(t:SortSt):Prop where
 arr:arrOf t=ls.map item
 kd:kindOf t=kd
 ok:failedOf t=none
 perm:ls.Perm (Array.range n)
def Seg(r:Nat->Nat->Bool)(ls:Array Nat)(s m:Nat):Prop:=∀i j,s<=i->i<j->j<s+m->r (lab ls j) (lab ls i)=false
section
variable {n:Nat}{item:Nat->Keyed}{kd:SortKind}{r:Nat->Nat->Bool}{ls:Array Nat}{t:SortSt}
def jV(h:ls.Perm (Array.range n)):ls.toList.Nodup:=(xN.mp h).nodup_iff.mpr (by rw[yv];exact List.nodup_range)
def Nw.size(N:Nw n item kd ls t):ls.size=n:=by rw[N.perm.size_eq,wU]
def XC(h:ls.Perm (Array.range n)){x:Nat}(hx:x∈ls.toList):x<n:=by
 have:=((xN.mp h).mem_iff).mp hx
 rwa [yv,yn] at this
def Nw.lt(N:Nw n item kd ls t){i:Nat}(h:i<n):lab ls i<n:=XC N.perm (kM (by rw[N.size];exact h))
def zE3(h:ls.toList.Nodup){i j:Nat}(hij:i<j)(hj:j<ls.size):lab ls i≠lab ls j:=by
 have hi':i<ls.toList.length:=by rw[zg];lia
 have hj':j<ls.toList.length:=by rw[zg];exact hj
 have:=xF.mp h i j hi' hj' hij
 have e1:=yG (ls:=ls) (i:=i) w5
 have e2:=yG (ls:=ls) hj;rw[<- zG,zj hi'] at e1;rw[<- zG,zj hj'] at e2;rw[<- zF e1,<- zF e2];exact this
def Nw.ne(N:Nw n item kd ls t){i j:Nat}(hi:i<n)(hj:j<n)(h:i≠j):lab ls i≠lab ls j:=by
 have:=N.size
 rcases Nat.lt_or_gt_of_ne h with g |g
 ·exact zE3 (jV N.perm) g w5
 ·exact(zE3 (jV N.perm) g w5).symm
def Yj{a b i:Nat}(h:b<=ls.size)(hi:a+i<b):lab (ls.extract a b) i=lab ls (a+i):=by
 refine vI ?_
 rw[Array.getElem?_extract,if_pos w5,yG w5]
def qj{a b x:Nat}(h:b<=ls.size)(hx:x∈(ls.extract a b).toList):∃i,a<=i/\i<b/\x=lab ls i:=by
 have hx':x∈(ls.extract a b).toList.drop 0:=by rwa [wX]
 obtain⟨i,_,h2,rfl⟩:=qk.mp hx';rw[wE] at h2
 exact⟨a+i,w5,w5,Yj h w5⟩
def zs7{a b:Nat}(h:b<=ls.size)(S:Seg r ls a (b-a)):(ls.extract a b).toList.Pairwise λx y=>r y x=false:=by
 refine xF.mpr λi j hi hj hij=>?_;rw[zg,wE] at hi hj
 have e:∀k (hk:k<(ls.extract a b).toList.length),(ls.extract a b).toList[k]=lab ls (a+k):=λk hk=>by
  rw[zg] at hk;have e1:=yG (ls:=ls.extract a b) hk
  rw[<- zG,zj (by rw[zg];exact hk)] at e1
  rw[zF e1,Yj h (by rw[wE] at hk;lia)]
 rw[e,e]
 exact S _ _ w5 w5 w5
end
section
variable {prog:Program}{w:World}{A:Around}{E:Value->Shared->Prop}{s:Shared}{t:SortSt}{n:Nat}{item:Nat->Keyed}{kd:SortKind}{r:Nat->Nat->Bool}{ls:Array Nat}
def back{a b c:Nat}{M:Array Nat}(N:Nw n item kd ls t)(hab:a<=b)(hbc:b<=c)(hc:c<=n)(p:M.toList.Perm ((ls.extract a b).toList++(ls.extract b c).toList)) :
  ∃ls':Array Nat,(((M.map item).toList.zipIdx.foldl (λx (y:Keyed × Nat)=>x.setIfInBounds (a+y.2) y.1) (ls.map item))=ls'.map item)/\ls'.Perm (Array.range n)/\(∀k,k<a\/c<=k->lab ls' k=lab ls k)/\∀i,a<=i->i<c->lab ls' i=lab M (i-a):=by
 have hs:=N.size
 have hM:M.size=c-a:=by
  have:=p.length_eq;rw[zg,zm,zg,zg,wE,wE] at this;lia
 have el:((ls.toList.take a++M.toList++ls.toList.drop c).toArray).size=ls.size:=by
  rw[zt,zm,zm,xm,wq,zg,zg];lia
 refine⟨(ls.toList.take a++M.toList++ls.toList.drop c).toArray,?_,?_,?_,?_⟩
 ·apply Array.ext'
  rw[Ki _ _ a 0 (by rw[zg,zI,zI];lia)]
  simp only[Nat.add_zero,zg,zI,Array.toList_map,hM,xS,yj,map_drop,List.map_toArray]
  congr 2
  rw[zn,zg];lia
 ·refine xN.mpr ?_;refine List.Perm.trans ?_ (xN.mp N.perm)
  have e:ls.toList=ls.toList.take a++((ls.extract a b).toList++(ls.extract b c).toList)++ls.toList.drop c:=by
   rw[xY,xY,xG,xG]
   have e1:(ls.toList.drop a).take (b-a)++(ls.toList.drop b).take (c-b)=(ls.toList.drop a).take (c-a):=by
    rw[show c-a=(b-a)+(c-b) by lia,List.take_add,drop_drop,show a+(b-a)=b by lia]
   rw[e1,wj]
   conv=>lhs;rw[<- wA a ls.toList]
   congr 1
   conv=>lhs;rw[<- wA (c-a) (ls.toList.drop a)]
   rw[drop_drop,show a+(c-a)=c by lia]
  conv=>rhs;rw[e]
  exact(p.append_left _).append_right _
 ·intro k hk
  rcases Nat.lt_or_ge k ls.size with hk2 |hk2
  ·refine vI ?_;rw[<- yG hk2,List.getElem?_toArray]
   rcases hk with hk |hk
   ·rw[wj,xg (by rw[xm,zg];lia),yu,if_pos hk,zG]
   ·rw [zT (by rw [zm, xm, zg, zg]; lia), xQ, zG]
    congr 1
    rw[zm,xm,zg,zg];lia
  ·have e1 : lab ls k = 0 := by unfold lab; rw [wL, wO hk2]; rfl
   rw[e1];unfold lab;rw[wL,wO (by rw[el];exact hk2)];rfl
 ·intro i h1 h2;refine vI ?_
  rw[<- yG w5,List.getElem?_toArray,xg (by rw[zm,xm,zg,zg];lia),zT (by rw[xm,zg];lia),zG]
  congr 1
  rw[xm,zg];lia
def mat(R:WRule prog w A s n item kd r)(N:Nw n item kd ls t){i sa na p sb nb p2:Nat}(hp:(pendingOf t)[i]?=some (sa,na,p))(hq:(pendingOf t)[i+1]?=some (sb,nb,p2))(hsb:sb=sa+na)(h1:1<=na)(h2:1<=nb)(hn:sb+nb<=n)(SA:Seg r ls sa na)(SB:Seg r ls sb nb)
  {Q:Bool->SortSt->Prop} (q:∀ls' t',Nw n item kd ls' t'->pendingOf t'=((pendingOf t).setIfInBounds i (sa,na+nb,p)).eraseIdxIfInBounds (i+1)->(∀k,k<sa\/sb+nb<=k->lab ls' k=lab ls k)->Seg r ls' sa (na+nb)->Q true t'):wpS (model prog w) A E s (mergeAt' i) Q t:=by
 have hs:=N.size;rw[Ui];refine zl (wpS_get ?_);rw[hp,hq];dsimp only;refine zl (zw8 ?_);have N1:Nw n item kd ls (setPending t (((pendingOf t).setIfInBounds i (sa,na+nb,p)).eraseIdxIfInBounds (i+1))):=⟨N.arr,N.kd,N.ok,N.perm⟩;have P1:pendingOf (setPending t (((pendingOf t).setIfInBounds i (sa,na+nb,p)).eraseIdxIfInBounds (i+1)))=((pendingOf t).setIfInBounds i (sa,na+nb,p)).eraseIdxIfInBounds (i+1):=rfl;rw[N.arr];generalize ((pendingOf t).setIfInBounds i (sa,na+nb,p)).eraseIdxIfInBounds (i+1)=pend at P1 N1 q ⊢;generalize setPending t pend=t1 at P1 N1 ⊢;have le3:∀{x y z:Nat},x<n->y<n->z<n->r (lab ls y) (lab ls x)=false->r (lab ls z) (lab ls y)=false->r (lab ls z) (lab ls x)=false:=λhx hy hz=>R.tr _ _ _ (N.lt hx) (N.lt hy) (N.lt hz)
 refine zl (yb w5 ?_)
 refine zl (gal (m:=na) (by':=λi=>!r (lab ls sb) (lab ls (sa+i))) w5 (λi hi Q qq=>byd R N1.kd (N.lt w5) w5 (N.lt w5) (N.ne w5 w5 w5) (by simpa using qq)) ?_ λk hk g1 g2=>?_)
 ·intro i j hij hj hb
  by_cases e:i=j
  ·rw[e];exact hb
  ·have hb' : r (lab ls sb) (lab ls (sa + j)) = false := by simpa using hb
   have:=le3 w5 w5 w5 (SA (sa+i) (sa+j) w5 w5 w5) hb'
   show(!r (lab ls sb) (lab ls (sa+i)))=true;rw[this];rfl
 have F1:∀i j,sa<=i->i<sa+k->sb<=j->j<sb+nb->r (lab ls j) (lab ls i)=false:=λi j a1 a2 b1 b2=>by
  have z:r (lab ls sb) (lab ls i)=false:=by
   have:=g1 (i-sa) w5
   rw[show sa+(i-sa)=i by lia] at this
   simpa using this
  by_cases e:j=sb
  ·rw[e];exact z
  ·exact le3 w5 w5 w5 z (SB sb j w5 w5 b2)
 dsimp only;refine wx (λe=>zJ (q ls t1 N1 P1 (λ_ _=>rfl) λi j a1 a2 a3=>?_)) (λe=>?_)
 ·have ek : k = na := by simp at e; lia
  by_cases c1:j<sb
  ·exact SA i j a1 a2 w5
  ·by_cases c2 : i < sb
   ·exact F1 i j a1 w5 w5 w5
   ·exact SB i j w5 a2 w5
 have hk':k<na:=by simp at e;lia
 have g2':r (lab ls sb) (lab ls (sa+k))=true:=by simpa using g2 k (zd _) hk'
 have el:sa+k+(na-k)-1=sb-1:=w5
 rw[el]
 refine zl (yb w5 ?_)
 refine zl (gal (m:=nb) (by':=λi=>r (lab ls (sb+i)) (lab ls (sb-1))) w5 (λi hi Q qq=>byd R N1.kd (N.lt w5) w5 (N.lt w5) (N.ne w5 w5 w5) (by simpa using qq)) ?_ λm hm g3 g4=>?_)
 ·intro i j hij hj hb
  by_cases e:i=j
  ·rw[e];exact hb
  ·cases z : r (lab ls (sb + i)) (lab ls (sb - 1)) with
   |true=>rfl
   |false=>
    have:=le3 w5 w5 w5 z (SB (sb+i) (sb+j) w5 w5 w5)
    rw[this] at hb;cases hb
 have F3:∀i j,sa<=i->i<sb->sb+m<=j->j<sb+nb->r (lab ls j) (lab ls i)=false:=λi j a1 a2 b1 b2=>by
  have z:r (lab ls j) (lab ls (sb-1))=false:=by
   have:=g4 (j-sb) w5 w5
   rwa [show sb+(j-sb)=j by lia] at this
  by_cases e:i=sb-1
  ·rw[e];exact z
  ·exact le3 w5 w5 w5 (SA i (sb-1) a1 w5 w5) z
 dsimp only;refine wx (λe=>zJ (q ls t1 N1 P1 (λ_ _=>rfl) λi j a1 a2 a3=>?_)) (λe=>?_)
 ·have ek : m = 0 := by simpa using e
  by_cases c1:j<sb
  ·exact SA i j a1 a2 w5
  ·by_cases c2 : i < sb
   ·exact F3 i j a1 w5 w5 w5
   ·exact SB i j w5 a2 w5
 have hm':1<=m:=by simp at e;lia
 have eX:(ls.map item).extract (sa+k) sb=(ls.extract (sa+k) sb).map item:=by rw[xu]
 have eY:(ls.map item).extract sb (sb+m)=(ls.extract sb (sb+m)).map item:=by rw[xu]
 rw[eX,eY]
 have zX:(ls.extract (sa+k) sb).size=sb-(sa+k):=by rw[wE];lia
 have zY:(ls.extract sb (sb+m)).size=m:=by rw[wE];lia
 have T:Two n r (ls.extract (sa+k) sb) (ls.extract sb (sb+m)):=by
  refine⟨λx hx=>?_,λx hx=>?_,λx hx y hy=>?_,zs7 w5 λi j a b c=>SA i j w5 b w5,zs7 w5 λi j a b c=>SB i j w5 b w5⟩
  ·obtain⟨i,_,h2,rfl⟩:=qj w5 hx;exact N.lt w5
  ·obtain⟨i,_,h2,rfl⟩:=qj w5 hx;exact N.lt w5
  ·obtain ⟨i, _, h2, rfl⟩ := qj w5 hx
   obtain⟨j,h3,h4,rfl⟩:=qj w5 hy
   exact N.ne w5 w5 w5
 have c1:r (lab (ls.extract sb (sb+m)) 0) (lab (ls.extract (sa+k) sb) 0)=true:=by
  rw[Yj w5 w5,Yj w5 w5]
  exact g2'
 have c2:∀y∈(ls.extract sb (sb+m)).toList,r y (lab (ls.extract (sa+k) sb) ((ls.extract (sa+k) sb).size-1))=true:=λy hy=>by
  obtain⟨j,h3,h4,rfl⟩:=qj w5 hy
  rw[zX,Yj w5 w5,show sa+k+(sb-(sa+k)-1)=sb-1 by lia]
  have:=g3 (j-sb) w5
  rwa [show sb+(j-sb)=j by lia] at this
 have fin:∀out t2,Same t1 t2->Good item r (ls.extract (sa+k) sb) (ls.extract sb (sb+m)) out->wpS (model prog w) A E s (do
   modify λs=>setArr s (out.toList.zipIdx.foldl (λa (p,j)=>a.setIfInBounds (sa+k+j) p) (arrOf s))
   return (failedOf (<- get)).isNone) Q t2:=λout t2 S ⟨M,eM,pM,uM⟩=>by
  refine zl (yo (zl (wpS_get ?_)))
  have ef:(failedOf (setArr t2 (out.toList.zipIdx.foldl (λa (p,j)=>a.setIfInBounds (sa+k+j) p) (arrOf t2)))).isNone=true:=by
   show(failedOf t2).isNone=true;rw[S.ok,N1.ok];rfl
  rw[ef]
  obtain⟨ls',b1,b2,b3,b4⟩:=back (a:=sa+k) (b:=sb) (c:=sb+m) N w5 w5 w5 pM
  refine zJ (q ls' _ ⟨?_,S.kd.trans N1.kd,S.ok.trans N1.ok,b2⟩ (S.pend.trans P1) (λk' hk'=>b3 k' w5) λi j a1 a2 a3=>?_)
  ·show out.toList.zipIdx.foldl (λa (p,j)=>a.setIfInBounds (sa+k+j) p) (arrOf t2)=_;rw[S.arr,N1.arr,eM];exact b1
  ·have zM : M.size = sb + m - (sa + k) := by
    have:=pM.length_eq;rw[zg,zm,zg,zg,zX,zY] at this;lia
   have inM:∀i,sa+k<=i->i<sb+m->∃i',sa+k<=i'/\i'<sb+m/\lab ls' i=lab ls i':=λi x1 x2=>by
    rw[b4 i x1 x2]
    have:lab M (i-(sa+k))∈(ls.extract (sa+k) sb).toList++(ls.extract sb (sb+m)).toList:=pM.mem_iff.mp (kM w5)
    rcases zN.mp this with h |h
    ·obtain⟨i',y1,y2,e⟩:=qj w5 h;exact⟨i',y1,w5,e⟩
    ·obtain⟨i',y1,y2,e⟩:=qj w5 h;exact⟨i',w5,y2,e⟩
   by_cases ci:i<sa+k
   ·rw [b3 i (.inl ci)]
    by_cases cj:j<sa+k
    ·rw [b3 j (.inl cj)]
     exact SA i j a1 a2 w5
    ·by_cases cj2 : j < sb + m
     ·obtain ⟨j', y1, y2, e⟩ := inM j w5 cj2
      rw[e]
      by_cases c3:j'<sb
      ·exact SA i j' a1 w5 w5
      ·exact F1 i j' a1 ci w5 w5
     ·rw [b3 j (.inr w5)]
      exact F1 i j a1 ci w5 w5
   ·by_cases ci2 : i < sb + m
    ·by_cases cj2 : j < sb + m
     ·rw [b4 i w5 ci2, b4 j w5 cj2]
      exact Zn uM w5 w5
     ·rw [b3 j (.inr w5)]
      obtain⟨i',y1,y2,e⟩:=inM i w5 ci2
      rw[e]
      by_cases c3:i'<sb
      ·exact F3 i' j w5 c3 w5 w5
      ·exact SB i' j w5 w5 w5
    ·rw [b3 i (.inr w5), b3 j (.inr w5)]
     exact SB i j w5 a2 w5
 refine wx (λe=>?_) (λe=>?_)
 ·exact zl (mlo ⟨R,T,c1,c2⟩ N1.kd w5 w5 fin)
 ·exact zl (mhi ⟨R,T,c1,c2⟩ N1.kd w5 w5 fin)
end
section
variable {n:Nat}{item:Nat->Keyed}{kd:SortKind}{r:Nat->Nat->Bool}{ls:Array Nat}{t:SortSt}
def Nw.mir(N:Nw n item kd ls t){i j:Nat}(hj:j<=n):Nw n item kd (mirror ls i j ((j-i)/2)) (setArr t (mirror (arrOf t) i j ((j-i)/2))):=
 ⟨by show mirror (arrOf t) i j _=_;rw[N.arr];exact zE7 (by rw[N.size];exact hj),N.kd,N.ok,(mirror_perm _ _ _ _).trans N.perm⟩
def Nw.bub(N:Nw n item kd ls t){src d:Nat}(hs:src<n)(hd:d<=src):Nw n item kd (bubble ls src d) (setArr t (bubble (arrOf t) src d)):=
 ⟨by show bubble (arrOf t) src d=_;rw[N.arr];exact zH5 (by rw[N.size];exact hs) hd,N.kd,N.ok,(bubble_perm _ _ _).trans N.perm⟩
structure Kp(lo:Nat)(ls:Array Nat)(t:SortSt)(ls':Array Nat)(t':SortSt):Prop where
 p:pendingOf t'=pendingOf t
 l:∀k,k<lo->lab ls' k=lab ls k
def Dn(r:Nat->Nat->Bool)(ls:Array Nat)(s m:Nat):Prop:=∀i j,s<=i->i<j->j<s+m->r (lab ls i) (lab ls j)=false
def Eqb(r:Nat->Nat->Bool)(ls:Array Nat)(a b:Nat):Prop:=∀i j,a<=i->i<b->a<=j->j<b->r (lab ls i) (lab ls j)=false
def Xa{a b k:Nat}(hb:b<=ls.size)(hk:k<ls.size):∃k',lab (mirror ls a b ((b-a)/2)) k=lab ls k'/\(a<=k/\k<b->a<=k'/\k'<b)/\(¬(a<=k/\k<b)->k'=k):=by
 by_cases h:a<=k/\k<b
 ·exact⟨a+b-1-k,by rw[qE hb hk,if_pos h],λ_=>by lia,λg=>absurd h g⟩
 ·exact⟨k,by rw[qE hb hk,if_neg h],λg=>absurd g h,λ_=>rfl⟩
def zv6{lo x e:Nat}(hx:lo+x<=ls.size)(D:Dn r ls lo x)(he:e+1<=x)(Q:Eqb r ls (lo+x-(e+1)) (lo+x)):Dn r (mirror ls (lo+x-(e+1)) (lo+x) ((lo+x-(lo+x-(e+1)))/2)) lo x:=λi j h1 h2 h3=>by
 obtain⟨i',e1,f1,f2⟩:=Xa (ls:=ls) (a:=lo+x-(e+1)) (b:=lo+x) (k:=i) hx w5
 obtain⟨j',e2,g1,g2⟩:=Xa (ls:=ls) (a:=lo+x-(e+1)) (b:=lo+x) (k:=j) hx w5
 rw[e1,e2]
 by_cases c1:lo+x-(e+1)<=i/\i<lo+x
 ·have := f1 c1
  have:=g1 w5
  exact Q _ _ w5 w5 w5 w5
 ·have c3 := f2 c1
  by_cases c2:lo+x-(e+1)<=j/\j<lo+x
  ·have := g1 c2
   exact D _ _ w5 w5 w5
  ·have := g2 c2
   exact D _ _ w5 w5 w5
end
section
variable {prog:Program}{w:World}{A:Around}{E:Value->Shared->Prop}{s:Shared}{n:Nat}{item:Nat->Keyed}{kd:SortKind}{r:Nat->Nat->Bool}{ls:Array Nat}{t:SortSt}
def zV3(R:WRule prog w A s n item kd r)(N:Nw n item kd ls t){i j:Nat}(hi:i<n)(hj:j<n)(hij:i≠j){Q:Option Bool->SortSt->Prop}(q:Q (some (r (lab ls i) (lab ls j))) t):wpS (model prog w) A E s (ltAt' i j) Q t:=by
 have hs:=N.size;rw[ltAt'_eq];refine zl (wpS_get ?_);dsimp only;rw[N.arr]
 exact zl (yb w5 (zl (yb w5 (WN R N.kd (N.lt hi) (N.lt hj) (N.ne hi hj hij) q))))
def WRule.irr(R:WRule prog w A s n item kd r){a:Nat}(h:a<n):r a a=false:=by
 cases z:r a a with
 |false=>rfl
 |true=>have:=R.asy a a h h z;rw[z] at this;exact this
def zk9{i j:Nat}{Q:Unit->SortSt->Prop}(q:Q () (setArr t (mirror (arrOf t) i j ((j-i)/2)))):wpS (model prog w) A E s (reverseSlice' i j) Q t:=by
 rw[reverseSlice'_eq];exact yo q
def zV5(R:WRule prog w A s n item kd r)(N:Nw n item kd ls t){lo a nrem:Nat}(h1:1<=a)(ha:a<=nrem)(hn:lo+nrem<=n)(U:Seg r ls lo a){x:Nat}(hx:x<nrem)(hax:a<=x)(V:Seg r ls lo x){Q:Option Bool->SortSt->Prop}
  (q1:r (lab ls (lo+x)) (lab ls (lo+x-1))=true->Q (some true) t) (q2:Seg r ls lo (x+1)->Q (some false) t):wpS (model prog w) A E s (ltAt' (lo+x) (lo+x-1)) Q t:=by
 refine zV3 R N w5 w5 w5 ?_
 cases z:r (lab ls (lo+x)) (lab ls (lo+x-1)) with
 |true=>exact q1 z
 | false =>
  refine q2 λi j i1 i2 i3=>?_
  by_cases hj:j<lo+x
  ·exact V i j i1 i2 hj
  ·obtain rfl : j = lo + x := by lia
   by_cases hi:i=lo+x-1
   ·rw[hi];exact z
   ·exact R.tr _ _ _ (N.lt w5) (N.lt (i:=lo+x-1) w5) (N.lt w5) (V i (lo+x-1) i1 w5 w5) z
def zJ8(R:WRule prog w A s n item kd r)(N:Nw n item kd ls t){lo a nrem:Nat}(h1:1<=a)(ha:a<=nrem)(hn:lo+nrem<=n)(D:Dn r ls lo a){Q:Option Nat->SortSt->Prop}
  (q:∀m ls' t',1<=m->m<=nrem->Nw n item kd ls' t'->Kp lo ls t ls' t'->Seg r ls' lo m->Q (some m) t'):wpS (model prog w) A E s (Vu lo a nrem) Q t:=by
 have hs:=N.size;unfold Vu;refine zl (zk9 ?_)
 have N':=N.mir (i:=lo) (j:=lo+a) w5
 have K':Kp lo ls t (mirror ls lo (lo+a) ((lo+a-lo)/2)) (setArr t (mirror (arrOf t) lo (lo+a) ((lo+a-lo)/2))):=⟨rfl,λk hk=>by rw[qE w5 w5,if_neg w5]⟩
 have U:Seg r (mirror ls lo (lo+a) ((lo+a-lo)/2)) lo a:=λi j i1 i2 i3=>by
  rw[qE w5 w5,qE w5 w5,if_pos w5,if_pos w5]
  exact D _ _ w5 w5 w5
 generalize mirror ls lo (lo+a) ((lo+a-lo)/2)=ls' at N' K' U;generalize setArr t (mirror (arrOf t) lo (lo+a) ((lo+a-lo)/2))=t' at N' K' ⊢;refine zl (yA (wu (λx c t2=>t2=t'/\c=(none,x)/\Seg r ls' lo x) (Q:=λc t2=>t2=t'/\∃m,c=(none,m)/\a<=m/\m<=nrem/\Seg r ls' lo m) ?_ ?_ ⟨rfl,rfl,U⟩) ?_)
 ·rintro x c t2 hx hxn ⟨rfl, rfl, V⟩;dsimp only
  exact zl (zV5 R N' h1 ha hn U hxn hx V (λ_=>zJ ⟨rfl,x,rfl,hx,w5,V⟩) (λV'=>zJ ⟨rfl,rfl,V'⟩))
 ·rintro c t2 ⟨rfl, rfl, V⟩
  rw[show max a nrem=nrem by lia] at V ⊢
  exact⟨rfl,nrem,rfl,ha,zd _,V⟩
 ·rintro c t2 ⟨rfl, m, rfl, m1, m2, V⟩
  exact zJ (q m ls' t2 w5 m2 N' K' V)
def zT9(R:WRule prog w A s n item kd r)(N:Nw n item kd ls t){lo a nrem:Nat}(h1:1<=a)(ha:a<nrem)(hn:lo+nrem<=n)(D:Dn r ls lo (a+1)){Q:Option Nat->SortSt->Prop}
  (q:∀m ls' t',1<=m->m<=nrem->Nw n item kd ls' t'->Kp lo ls t ls' t'->Seg r ls' lo m->Q (some m) t'):wpS (model prog w) A E s (XU lo a nrem) Q t:=by
 have hs:=N.size;unfold XU;refine zl (wpS_lift (yc ⟨rfl,?_⟩))
 refine zl (yA (wu (λx c t2=>∃(ls2:Array Nat) (e:Nat),c=(none,x,e)/\Nw n item kd ls2 t2/\Kp lo ls t ls2 t2/\Dn r ls2 lo x/\e+1<=x/\Eqb r ls2 (lo+x-(e+1)) (lo+x))
  (Q:=λc t2=>∃(ls2:Array Nat) (x e:Nat),c=(none,x,e)/\1<=x/\x<=nrem/\Nw n item kd ls2 t2/\Kp lo ls t ls2 t2/\Dn r ls2 lo x/\e+1<=x/\Eqb r ls2 (lo+x-(e+1)) (lo+x)) ?_ ?_ ⟨ls,0,rfl,N,⟨rfl,λ_ _=>rfl⟩,D,w5,?_⟩) ?_)
 ·rintro x c t2 hx hxn ⟨ls2, e, rfl, N2, K2, D2, he, Q2⟩;have hs2:=N2.size;dsimp only
  have one:∀(l3:Array Nat) (t3:SortSt),Nw n item kd l3 t3->Eqb r l3 (lo+(x+1)-(0+1)) (lo+(x+1)):=λl3 t3 N3 i j i1 i2 j1 j2=>by
   obtain⟨rfl,rfl⟩:i=lo+x/\j=lo+x:=w5
   exact R.irr (N3.lt w5)
  refine zl (zV3 R N2 w5 w5 w5 ?_)
  cases z:r (lab ls2 (lo+x)) (lab ls2 (lo+x-1)) with
  | true =>
   simp only[if_true]
   have below:∀p,lo<=p->p<lo+x->r (lab ls2 p) (lab ls2 (lo+x))=false:=λp p1 p2=>by
    have z':=R.asy _ _ (N2.lt w5) (N2.lt w5) z
    by_cases ep:p=lo+x-1
    ·rw[ep];exact z'
    ·exact R.tr _ _ _ (N2.lt w5) (N2.lt (i:=lo+x-1) w5) (N2.lt w5) z' (D2 p (lo+x-1) p1 w5 w5)
   refine wx (λh0=>?_) (λh0=>?_)
   ·refine zl (zk9 (zJ ?_))
    have N3:=N2.mir (i:=lo+x-(e+1)) (j:=lo+x) w5
    refine⟨_,0,rfl,N3,⟨K2.p,λk hk=>?_⟩,λi j i1 i2 i3=>?_,w5,one _ _ N3⟩
    ·rw[qE w5 w5,if_neg w5];exact K2.l k hk
    ·by_cases hj : j < lo + x
     ·exact zv6 w5 D2 he Q2 i j i1 i2 hj
     ·obtain rfl : j = lo + x := by lia
      obtain⟨i',e1,f1,f2⟩:=Xa (ls:=ls2) (a:=lo+x-(e+1)) (b:=lo+x) (k:=i) w5 w5
      obtain⟨j',e2,g1,g2⟩:=Xa (ls:=ls2) (a:=lo+x-(e+1)) (b:=lo+x) (k:=lo+x) w5 w5
      rw[e1,e2,g2 w5]
      by_cases c1:lo+x-(e+1)<=i/\i<lo+x
      ·have := f1 c1
       exact below i' w5 w5
      ·rw[f2 c1];exact below i i1 w5
   ·refine zJ ⟨ls2, 0, rfl, N2, K2, λi j i1 i2 i3 => ?_, by lia, one _ _ N2⟩
    by_cases hj:j<lo+x
    ·exact D2 i j i1 i2 hj
    ·obtain rfl : j = lo + x := by lia
     exact below i i1 w5
  | false =>
   simp only[xR,if_false]
   refine zl (zV3 R N2 w5 w5 w5 ?_)
   cases z2:r (lab ls2 (lo+x-1)) (lab ls2 (lo+x)) with
   |true=>exact zJ ⟨ls2,x,e,rfl,w5,w5,N2,K2,D2,he,Q2⟩
   | false =>
    have up:∀p,lo+x-(e+1)<=p->p<lo+x->r (lab ls2 p) (lab ls2 (lo+x))=false/\r (lab ls2 (lo+x)) (lab ls2 p)=false:=λp p1 p2=>by
     have y1:=Q2 p (lo+x-1) p1 p2 w5 w5
     have y2:=Q2 (lo+x-1) p w5 w5 p1 p2
     exact⟨R.tr _ _ _ (N2.lt w5) (N2.lt (i:=lo+x-1) w5) (N2.lt w5) z2 y1,R.tr _ _ _ (N2.lt w5) (N2.lt (i:=lo+x-1) w5) (N2.lt w5) y2 z⟩
    refine zJ ⟨ls2,e+1,rfl,N2,K2,λi j i1 i2 i3=>?_,w5,λi j i1 i2 j1 j2=>?_⟩
    ·by_cases hj : j < lo + x
     ·exact D2 i j i1 i2 hj
     ·obtain rfl : j = lo + x := by lia
      by_cases hi:i=lo+x-1
      ·rw[hi];exact z2
      ·exact R.tr _ _ _ (N2.lt w5) (N2.lt (i:=lo+x-1) w5) (N2.lt w5) z2 (D2 i (lo+x-1) i1 w5 w5)
    ·by_cases c1 : i = lo + x
     ·by_cases c2 : j = lo + x
      ·rw[c1,c2];exact R.irr (N2.lt w5)
      ·rw[c1];exact(up j w5 w5).2
     ·by_cases c2 : j = lo + x
      ·rw[c2];exact(up i w5 w5).1
      ·exact Q2 i j w5 w5 w5 w5
 ·rintro c t2 ⟨ls2, e, rfl, N2, K2, D2, he, Q2⟩
  rw[show max (a+1) nrem=nrem by lia] at D2 he Q2 ⊢
  exact⟨ls2,nrem,e,rfl,w5,zd _,N2,K2,D2,he,Q2⟩
 ·intro i j i1 i2 j1 j2
  obtain⟨rfl,rfl⟩:i=lo+a/\j=lo+a:=w5
  exact R.irr (N.lt w5)
 ·rintro c t2 ⟨ls2, x, e, rfl, x1, x2, N2, K2, D2, he, Q2⟩;have hs2:=N2.size;dsimp only
  have goon:∀(l3:Array Nat) (t3:SortSt),Nw n item kd l3 t3->Kp lo ls t l3 t3->Dn r l3 lo x->wpS (model prog w) A E s (Vu lo x nrem) Q t3:=λl3 t3 N3 K3 D3=>
   zJ8 R N3 x1 x2 hn D3 λm ls' t' m1 m2 N' K' S'=>q m ls' t' m1 m2 N' ⟨K'.p.trans K3.p,λk hk=>(K'.l k hk).trans (K3.l k hk)⟩ S'
  refine wx (λh0=>?_) (λh0=>goon ls2 t2 N2 K2 D2);refine zl (zk9 ?_)
  refine goon _ _ (N2.mir w5) ⟨K2.p,λk hk=>?_⟩ (zv6 w5 D2 he Q2)
  rw[qE w5 w5,if_neg w5];exact K2.l k hk
def xc7(R:WRule prog w A s n item kd r)(N:Nw n item kd ls t){lo nrem:Nat}(h1:1<=nrem)(hn:lo+nrem<=n){Q:Option Nat->SortSt->Prop}
  (q:∀m ls' t',1<=m->m<=nrem->Nw n item kd ls' t'->Kp lo ls t ls' t'->Seg r ls' lo m->Q (some m) t'):wpS (model prog w) A E s (countRun' lo nrem) Q t:=by
 have hs:=N.size;rw[countRun'_eq]
 have U:Seg r ls lo 1:=λi j a b c=>by lia
 refine zl (yA (wu (λx c t2=>t2=t/\c=(none,x)/\Seg r ls lo x) (Q:=λc t2=>t2=t/\∃m,c=(none,m)/\1<=m/\m<=nrem/\Seg r ls lo m/\(m<nrem->r (lab ls (lo+m)) (lab ls (lo+m-1))=true)) ?_ ?_ ⟨rfl,rfl,U⟩) ?_)
 ·rintro x c t2 hx hxn ⟨rfl, rfl, V⟩;dsimp only
  exact zl (zV5 R N (zd _) h1 hn U hxn hx V (λz=>zJ ⟨rfl,x,rfl,hx,w5,V,λ_=>z⟩) (λV'=>zJ ⟨rfl,rfl,V'⟩))
 ·rintro c t2 ⟨rfl, rfl, V⟩
  rw[show max 1 nrem=nrem by lia] at V ⊢
  exact⟨rfl,nrem,rfl,h1,zd _,V,λh=>by lia⟩
 ·rintro c t2 ⟨rfl, m, rfl, m1, m2, V, z⟩;dsimp only;have K0:Kp lo ls t2 ls t2:=⟨rfl,λ_ _=>rfl⟩;refine wx (λe=>zJ (q m ls t2 m1 m2 N K0 V)) (λe=>?_)
  have hm:m<nrem:=by simp at e;lia
  have z:=z hm
  have z':=R.asy _ _ (N.lt w5) (N.lt w5) z
  have low:∀(l3:Array Nat) (t3:SortSt),Nw n item kd l3 t3->Kp lo ls t2 l3 t3->Dn r l3 lo (m+1)->wpS (model prog w) A E s (XU lo m nrem) Q t3:=λl3 t3 N3 K3 D3=>
   zT9 R N3 m1 hm hn D3 λm ls' t' m1 m2 N' K' S'=>q m ls' t' m1 m2 N' ⟨K'.p.trans K3.p,λk hk=>(K'.l k hk).trans (K3.l k hk)⟩ S'
  refine wx (λg=>?_) (λg=>?_)
  ·refine zl (zV3 R N w5 w5 w5 ?_)
   cases z2:r (lab ls lo) (lab ls (lo+m-1)) with
   |true=>exact zJ (q m ls t2 m1 m2 N K0 V)
   | false =>
    simp only[xR,if_false];refine zl (zk9 ?_)
    have ge:∀p,lo<=p->p<lo+m->r (lab ls lo) (lab ls p)=false:=λp p1 p2=>by
     by_cases ep:p=lo+m-1
     ·rw[ep];exact z2
     ·exact R.tr _ _ _ (N.lt w5) (N.lt (i:=lo+m-1) w5) (N.lt w5) (V p (lo+m-1) p1 w5 w5) z2
    have Q2:Eqb r ls lo (lo+m):=λi j i1 i2 j1 j2=>by
     rcases Nat.lt_trichotomy i j with c |c |c
     ·by_cases ei : i = lo
      ·rw[ei];exact ge j j1 j2
      ·exact R.tr _ _ _ (N.lt w5) (N.lt (i:=lo) w5) (N.lt w5) (ge j j1 j2) (V lo i w5 w5 i2)
     ·rw[c];exact R.irr (N.lt w5)
     ·exact V j i j1 c i2
    have below:∀p,lo<=p->p<lo+m->r (lab ls p) (lab ls (lo+m))=false:=λp p1 p2=>
     R.tr _ _ _ (N.lt w5) (N.lt (i:=lo+m-1) w5) (N.lt w5) z' (Q2 p (lo+m-1) p1 p2 w5 w5)
    refine low _ _ (N.mir w5) ⟨rfl,λk hk=>?_⟩ λi j i1 i2 i3=>?_
    ·rw[qE w5 w5,if_neg w5]
    ·obtain ⟨i', e1, f1, f2⟩ := Xa (ls := ls) (a := lo) (b := lo + m) (k := i) w5 w5
     obtain⟨j',e2,g1,g2⟩:=Xa (ls:=ls) (a:=lo) (b:=lo+m) (k:=j) w5 w5
     rw[e1,e2]
     have fi:=f1 w5
     by_cases c2:j<lo+m
     ·have gj := g1 w5
      exact Q2 _ _ w5 w5 w5 w5
     ·rw [g2 w5, show j = lo + m by lia]
      exact below i' w5 w5
  ·obtain rfl : m = 1 := by lia
   refine low ls t2 N K0 λi j i1 i2 i3=>?_
   obtain⟨rfl,rfl⟩:i=lo/\j=lo+1:=w5
   exact z'
def xl3(R:WRule prog w A s n item kd r)(N:Nw n item kd ls t){lo m f:Nat}(hm:m<=f)(hf:lo+f<=n)(U:Seg r ls lo m){Q:Bool->SortSt->Prop}(q:∀ls' t',Nw n item kd ls' t'->Kp lo ls t ls' t'->Seg r ls' lo f->Q true t'):wpS (model prog w) A E s (binarySort' lo f m) Q t:=by
 rw[binarySort'_eq];refine zl (yA (wu (λk c t'=>c=(none,())/\∃ls',Nw n item kd ls' t'/\Kp lo ls t ls' t'/\Seg r ls' lo (min k f)) (Q:=λc t'=>c=(none,())/\∃ls',Nw n item kd ls' t'/\Kp lo ls t ls' t'/\Seg r ls' lo f) ?_ ?_ ⟨rfl,ls,N,⟨rfl,λ_ _=>rfl⟩,λi j i1 i2 i3=>?_⟩) ?_)
 ·rintro k c t' hk hkn ⟨rfl, ls', N', K', U'⟩
  rw[show min k f=k by lia] at U'
  have hsz:=N'.size
  refine zl (yA (wu (λx c t2=>t2=t'/\∃l h,c=(none,l,h)/\l<=h/\h<=k/\h-l<=k-x/\(∀i,i<l->r (lab ls' (lo+k)) (lab ls' (lo+i))=false)/\∀i,h<=i->i<k->r (lab ls' (lo+i)) (lab ls' (lo+k))=false)
   (Q:=λc t2=>t2=t'/\∃l h,c=(none,l,h)/\l<=k/\(∀i,i<l->r (lab ls' (lo+k)) (lab ls' (lo+i))=false)/\∀i,l<=i->i<k->r (lab ls' (lo+i)) (lab ls' (lo+k))=false) ?_ ?_ ⟨rfl,0,k,rfl,w5,w5,w5,λi hi=>by lia,λi h1 h2=>by lia⟩) ?_)
  ·rintro x c t2 _ hx ⟨rfl, l, h, rfl, g1, g2, g3, g4, g5⟩;dsimp only
   refine wx (λhd=>zJ ⟨rfl,l,h,rfl,w5,g4,λi i1 i2=>g5 i w5 i2⟩) (λhd=>?_)
   refine zl (zV3 R N' w5 w5 w5 ?_)
   cases z:r (lab ls' (lo+k)) (lab ls' (lo+(l+h)/2))
   ·refine zJ ⟨rfl, (l + h) / 2 + 1, h, rfl, by lia, by lia, by lia, λi hi => ?_, g5⟩
    by_cases e:i=(l+h)/2
    ·rw[e];exact z
    ·exact R.tr _ _ _ (N'.lt w5) (N'.lt (i:=lo+(l+h)/2) w5) (N'.lt w5) (U' (lo+i) (lo+(l+h)/2) w5 w5 w5) z
   ·have z' := R.asy _ _ (N'.lt w5) (N'.lt w5) z
    refine zJ ⟨rfl,l,(l+h)/2,rfl,w5,w5,w5,g4,λi i1 i2=>?_⟩
    by_cases e:i=(l+h)/2
    ·rw[e];exact z'
    ·exact R.tr _ _ _ (N'.lt w5) (N'.lt (i:=lo+(l+h)/2) w5) (N'.lt w5) z' (U' (lo+(l+h)/2) (lo+i) w5 w5 w5)
  ·rintro c t2 ⟨rfl, l, h, rfl, g1, g2, g3, g4, g5⟩
   exact⟨rfl,l,h,rfl,w5,g4,λi i1 i2=>g5 i w5 i2⟩
  ·rintro c t2 ⟨rfl, l, h, rfl, g1, g2, g3⟩;show wpS (model prog w) A E s (moveDown' (lo+k) (lo+l) >>= λ_=>pure (ForInStep.yield (none,()))) _ t2;rw[moveDown'_eq]
   refine zl (yo (zJ ⟨rfl,_,N'.bub (src:=lo+k) (d:=lo+k-(lo+l)) w5 w5,⟨K'.p,λp hp=>?_⟩,?_⟩))
   ·rw [UD w5 w5 w5, if_neg w5, if_neg w5]
    exact K'.l p hp
   ·rw [show min (k + 1) f = k + 1 by lia]
    intro i j i1 hij hj
    have el:lo+k-(lo+k-(lo+l))=lo+l:=w5
    have F2:∀i,lo<=i->i<lo+l->r (lab ls' (lo+k)) (lab ls' i)=false:=λi i1 i2=>by
     have:=g2 (i-lo) w5
     rwa [show lo+(i-lo)=i by lia] at this
    have F3:∀i,lo+l<=i->i<lo+k->r (lab ls' i) (lab ls' (lo+k))=false:=λi i1 i2=>by
     have:=g3 (i-lo) w5 w5
     rwa [show lo+(i-lo)=i by lia] at this
    rw[UD w5 w5 w5,UD w5 w5 w5,el]
    by_cases c1:i=lo+l
    ·rw [if_neg (show ¬ j = lo + l by lia), if_pos (show lo + l < j /\ j <= lo + k by lia), if_pos c1]
     exact F3 _ w5 w5
    ·rw [if_neg c1]
     by_cases c2:j=lo+l
     ·rw [if_pos c2, if_neg (show ¬ (lo + l < i /\ i <= lo + k) by lia)]
      exact F2 _ i1 w5
     ·rw [if_neg c2]
      by_cases c3:lo+l<i/\i<=lo+k
      ·rw [if_pos c3, if_pos (show lo + l < j /\ j <= lo + k by lia)]
       exact U' _ _ w5 w5 w5
      ·rw [if_neg c3]
       by_cases c4:lo+l<j/\j<=lo+k
       ·rw[if_pos c4];exact U' _ _ w5 w5 w5
       ·rw[if_neg c4];exact U' _ _ w5 w5 w5
 ·rintro c t' ⟨rfl, ls', N', K', U'⟩
  rw[show min (max (max m 1) f) f=f by lia] at U'
  exact⟨rfl,ls',N',K',U'⟩
 ·exact U i j i1 i2 w5
 ·rintro c t' ⟨rfl,ls',N',K',U'⟩;exact zJ (q ls' t' N' K' U')
end
def Ch(r:Nat->Nat->Bool)(ls:Array Nat):Nat->List (Nat × Nat)->Nat->Prop
 |a,[],b=>a=b
 |a,(s,m)::rest,b=>s=a/\1<=m/\Seg r ls s m/\Ch r ls (a+m) rest b
def prs(p:Array (Nat × Nat × Nat)):List (Nat × Nat):=p.toList.map λx=>(x.1,x.2.1)
section
variable {r:Nat->Nat->Bool}{ls ls':Array Nat}
theorem Ch.len:∀{l:List (Nat × Nat)}{a b:Nat},Ch r ls a l b->a+l.length<=b
 |[],a,b,h=>by rw[show a=b from h];exact zd _
 |(s,m)::l,a,b,h=>by have:=h.2.2.2.len;have:=h.2.1;rw[zu];lia
theorem Ch.split:∀{l1 l2:List (Nat × Nat)}{a b:Nat},Ch r ls a (l1++l2) b->∃c,Ch r ls a l1 c/\Ch r ls c l2 b
 |[],l2,a,b,h=>⟨a,rfl,h⟩
 |(s,m)::l1,l2,a,b,h=>by
  obtain⟨c,h1,h2⟩:=h.2.2.2.split;exact⟨c,⟨h.1,h.2.1,h.2.2.1,h1⟩,h2⟩
theorem Ch.join:∀{l1 l2:List (Nat × Nat)}{a b c:Nat},Ch r ls a l1 c->Ch r ls c l2 b->Ch r ls a (l1++l2) b
 |[],l2,a,b,c,h,g=>by rw[show a=c from h];exact g
 |(s,m)::l1,l2,a,b,c,h,g=>⟨h.1,h.2.1,h.2.2.1,h.2.2.2.join g⟩
def Seg.same{s m:Nat}(h:Seg r ls s m)(e:∀k,s<=k->k<s+m->lab ls' k=lab ls k):Seg r ls' s m:=λi j i1 i2 i3=>by
 rw[e i i1 w5,e j w5 i3];exact h i j i1 i2 i3
theorem Ch.same:∀{l:List (Nat × Nat)}{a b:Nat},Ch r ls a l b->(∀k,a<=k->k<b->lab ls' k=lab ls k)->Ch r ls' a l b
 |[],a,b,h,_=>h
 |(s,m)::l,a,b,h,e=>by
  have z:=h.2.2.2.len;have hsa:=h.1
  exact⟨h.1,h.2.1,h.2.2.1.same λk k1 k2=>e k w5 w5,h.2.2.2.same λk k1 k2=>e k w5 k2⟩
end
section
variable {prog:Program}{w:World}{A:Around}{E:Value->Shared->Prop}{s:Shared}{n:Nat}{item:Nat->Keyed}{kd:SortKind}{r:Nat->Nat->Bool}{ls:Array Nat}{t:SortSt}
def zu8(R:WRule prog w A s n item kd r)(N:Nw n item kd ls t){lo i:Nat}(hlo:lo<=n)(C:Ch r ls 0 (prs (pendingOf t)) lo)(hi:i+1<(pendingOf t).size){Q:Bool->SortSt->Prop}
  (q:∀ls' t',Nw n item kd ls' t'->Ch r ls' 0 (prs (pendingOf t')) lo->(pendingOf t').size+1=(pendingOf t).size->(∀k,lo<=k->lab ls' k=lab ls k)->Q true t'):wpS (model prog w) A E s (mergeAt' i) Q t:=by
 have hl:(pendingOf t).toList.length=(pendingOf t).size:=zg
 have e1:(pendingOf t).toList=(pendingOf t).toList.take i++(pendingOf t)[i]::(pendingOf t)[i+1]::(pendingOf t).toList.drop (i+2):=by
  conv=>lhs;rw[<- wA i (pendingOf t).toList]
  congr 1
  rw[wY w5,wY w5]
  simp
 rcases ha:(pendingOf t)[i] with ⟨sa,na,p⟩;rcases hb:(pendingOf t)[i+1] with ⟨sb,nb,p2⟩;rw[ha,hb] at e1;have C':=C;unfold prs at C';rw[e1,xS] at C';obtain⟨c,c1,c2⟩:=C'.split;obtain⟨rfl,na1,sga,c3⟩:=c2;obtain⟨rfl,nb1,sgb,c4⟩:=c3;dsimp only at na1 nb1 sga sgb c4;have z4:=c4.len
 refine mat R N (by rw[wz w5,ha]) (by rw[wz w5,hb]) rfl na1 nb1 w5 sga sgb λls' t' N' P' S' G'=>?_
 have e2:(pendingOf t').toList=(pendingOf t).toList.take i++(sa,na+nb,p)::(pendingOf t).toList.drop (i+2):=by
  rw[P',Array.toList_eraseIdxIfInBounds,Array.toList_setIfInBounds]
  have hti:((pendingOf t).toList.take i).length=i:=by rw[xm];lia
  generalize (pendingOf t).toList.take i=l1 at e1 hti ⊢;generalize (pendingOf t).toList.drop (i+2)=l2 at e1 ⊢
  rw[e1,List.set_append_right _ _ w5,hti,Nat.sub_self,List.set_cons_zero,List.eraseIdx_append_of_length_le w5,hti,Nat.add_sub_cancel_left]
  rfl
 have hsz:(pendingOf t').size+1=(pendingOf t).size:=by
  rw[<- zg,e2,zm,zu,xm,wq];lia
 refine q ls' t' N' ?_ hsz λk hk=>S' k (.inr (zw w5 hk))
 unfold prs;rw[e2,xS];refine Ch.join (c1.same λk k1 k2=>S' k (.inl k2)) ⟨rfl,zw na1 (Nat.le_add_right ..),G',?_⟩;rw[<- Nat.add_assoc];exact c4.same λk k1 k2=>S' k (.inr k1)
def zF9{c:Prop}[Decidable c]{x:Nat}:(if c then x-1 else x)<=x:=by split<;>lia
def zA8{p:Array (Nat × Nat × Nat)}{i g:Nat}:prs (p.modify i λx=>(x.1,x.2.1,g))=prs p:=by
 unfold prs;rw[Array.toList_modify];refine List.ext_getElem? λk=>?_;rw[zB,zB,List.getElem?_modify]
 cases p.toList[k]? with
 |none=>rfl
 |some x=>by_cases h:i=k<;>simp[h]
def xo7(R:WRule prog w A s n item kd r)(N:Nw n item kd ls t)(hp:pendingOf t=#[])(h2:2<=n){Q:Unit->SortSt->Prop}(q:∀ls' t',arrOf t'=ls'.map item->failedOf t'=none->ls'.Perm (Array.range n)->Seg r ls' 0 n->Q () t'):wpS (model prog w) A E s sortRuns' Q t:=by
 rw[sortRuns'_eq];refine zl (wpS_get ?_)
 have esz:(arrOf t).size=n:=by rw[N.arr,zI,N.size]
 dsimp only;simp only[esz];generalize minRun' n n 0=mr
 refine zl (yA (wu (λx c t'=>∃(ls':Array Nat) (lo:Nat),c=(none,lo)/\Nw n item kd ls' t'/\Ch r ls' 0 (prs (pendingOf t')) lo/\lo<=n/\x<=lo) (Q:=λc t'=>∃ls':Array Nat,c=(none,n)/\Nw n item kd ls' t'/\Ch r ls' 0 (prs (pendingOf t')) n) ?_ ?_ ⟨ls,0,rfl,N,?_,w5,w5⟩) ?_)
 ·rintro x c t' _ hx ⟨ls1, lo, rfl, N1, C1, l1, l2⟩;dsimp only;refine wx (λe=>?_) (λe=>?_)
  ·obtain rfl : lo = n := by lia
   exact zJ ⟨ls1,rfl,N1,C1⟩
  ·refine zl (xc7 R N1 w5 w5 λm ls2 t2 m1 m2 N2 K2 S2 => ?_)
   dsimp only
   have C2:Ch r ls2 0 (prs (pendingOf t2)) lo:=by rw[K2.p];exact C1.same λk _ hk=>K2.l k hk
   have close:∀(m:Nat) (l3:Array Nat) (t3:SortSt),1<=m->m<=n-lo->Nw n item kd l3 t3->Ch r l3 0 (prs (pendingOf t3)) lo->Seg r l3 lo m ->
     ∃(l':Array Nat) (lo':Nat),((none,lo+m):Option Unit × Nat)=(none,lo')/\Nw n item kd l' (setPending t3 ((pendingOf t3).push (lo,m,0)))/\Ch r l' 0 (prs (pendingOf (setPending t3 ((pendingOf t3).push (lo,m,0))))) lo'/\lo'<=n/\x+1<=lo':=λm l3 t3 m1 m2 N3 C3 S3=>by
    refine⟨l3,lo+m,rfl,⟨N3.arr,N3.kd,N3.ok,N3.perm⟩,?_,w5,w5⟩
    show Ch r l3 0 (prs ((pendingOf t3).push (lo,m,0))) (lo+m);unfold prs at C3 ⊢;rw[yE,xS];exact C3.join ⟨rfl,m1,S3,rfl⟩
   have step:∀(pw:Nat) (m:Nat) (l3:Array Nat) (t3:SortSt),Nw n item kd l3 t3->Ch r l3 0 (prs (pendingOf t3)) lo->Seg r l3 lo m->lo+m<=n->∀(i:Nat) (Q:Bool->SortSt->Prop),i+1<(pendingOf t3).size->(∀l4 t4,Nw n item kd l4 t4->Ch r l4 0 (prs (pendingOf t4)) lo->Seg r l4 lo m->Q true t4)->wpS (model prog w) A E s (mergeAt' i) Q t3:=λpw m l3 t3 N3 C3 S3 hm i Q hi hQ=>
    zu8 R N3 l1 C3 hi λl4 t4 N4 C4 _ K4=>hQ l4 t4 N4 C4 (S3.same λk k1 _=>K4 k k1)
   refine wx (λg=>zl (wpS_lift (yc ⟨rfl,zl (xl3 R N2 w5 w5 S2 λl3 t3 N3 K3 S3=>?_)⟩))) (λg=>?_)
   case' refine_1=>
    simp only[Bool.not_true,xR,if_false]
    have C3:Ch r l3 0 (prs (pendingOf t3)) lo:=by rw[K3.p];exact C2.same λk _ hk=>K3.l k hk
    have m3:1<=min (n-lo) mr:=w5
    have m4:min (n-lo) mr<=n-lo:=Nat.min_le_left ..;generalize min (n-lo) mr=f at m3 m4 S3 ⊢;clear N2 K2 S2 C2 K3
   case' refine_2=>
    have N3:=N2;have C3:=C2;have S3:=S2;have m3:=m1;have m4:=m2;clear N2 K2 S2 C2;generalize ls2=l3 at *;generalize t2=t3 at *;generalize m=f at *
   all_goals
    refine zl (wpS_get ?_)
    cases hbk:(pendingOf t3).back? with
    |none=>exact zl (yo (zJ (close f l3 t3 m3 m4 N3 C3 S3)))
    | some y =>
     obtain⟨s1,n1,p1⟩:=y;dsimp only;generalize power' n (2*s1+n1) (2*s1+n1+n1+f) n=pw;refine zl (yA (wu (λx c t4=>c=(none,())/\∃l4,Nw n item kd l4 t4/\Ch r l4 0 (prs (pendingOf t4)) lo/\Seg r l4 lo f) (Q:=λc t4=>c=(none,())/\∃l4,Nw n item kd l4 t4/\Ch r l4 0 (prs (pendingOf t4)) lo/\Seg r l4 lo f) ?_ (λ_ _ h=>h) ⟨rfl,l3,N3,C3,S3⟩) ?_)
     ·rintro x c t4 _ _ ⟨rfl, l4, N4, C4, S4⟩;refine zl (wpS_get ?_)
      by_cases hsz:(pendingOf t4).size > 1
      ·rw [if_pos hsz, wz w5]
       rcases(pendingOf t4)[(pendingOf t4).size-2] with ⟨a,b,older⟩;dsimp only;refine wx (λ_=>zJ ⟨rfl,l4,N4,C4,S4⟩) (λ_=>?_)
       refine zl (step pw f l4 t4 N4 C4 S4 w5 _ _ w5 λl5 t5 N5 C5 S5=>?_)
       exact zJ ⟨rfl,l5,N5,C5,S5⟩
      ·rw[if_neg hsz];exact zJ ⟨rfl,l4,N4,C4,S4⟩
     ·rintro c t4 ⟨rfl,l4,N4,C4,S4⟩;dsimp only;refine zl (yo (zl (yo (zJ (close f l4 _ m3 m4 ⟨N4.arr,N4.kd,N4.ok,N4.perm⟩ ?_ S4)))));show Ch r l4 0 (prs ((pendingOf t4).modify ((pendingOf t4).size-1) λx=>(x.1,x.2.1,pw))) lo;rw[zA8];exact C4
 ·rintro c t' ⟨ls1, lo, rfl, N1, C1, l1, l2⟩
  obtain rfl:lo=n:=w5
  exact⟨ls1,rfl,N1,C1⟩
 ·rw[hp];rfl
 ·rintro c t' ⟨ls1, rfl, N1, C1⟩;dsimp only;have z0:=C1.len
  have zp:∀t2:SortSt,(prs (pendingOf t2)).length=(pendingOf t2).size:=λt2=>by unfold prs;rw[zn,zg]
  rw[zp] at z0
  refine zl (yA (wu (λx c t2=>c=(none,())/\∃l2,Nw n item kd l2 t2/\Ch r l2 0 (prs (pendingOf t2)) n/\(pendingOf t2).size+x<=n) (Q:=λc t2=>c=(none,())/\∃l2,Nw n item kd l2 t2/\Ch r l2 0 (prs (pendingOf t2)) n/\(pendingOf t2).size<=1) ?_ ?_ ⟨rfl,ls1,N1,C1,w5⟩) ?_)
  ·rintro x c t2 _ hx ⟨rfl, l2, N2, C2, zx⟩;refine zl (wpS_get ?_);refine wx (λh=>zJ ⟨rfl,l2,N2,C2,h⟩) (λh=>?_)
   refine zl (zu8 R N2 (zd _) C2 ?_ λl3 t3 N3 C3 z3 _=>zJ ⟨rfl,l3,N3,C3,w5⟩)
   exact yq (Nat.add_le_add_right zF9 1) w5
  ·rintro c t2 ⟨rfl, l2, N2, C2, zx⟩
   exact⟨rfl,l2,N2,C2,w5⟩
  ·rintro c t2 ⟨rfl, l2, N2, C2, zx⟩;rw[<- zp] at zx;refine zJ (q l2 t2 N2.arr N2.ok N2.perm ?_)
   revert C2 zx
   generalize prs (pendingOf t2)=l;intro C2 zx
   match l,zx with
   |[],_=>exact absurd (show 0=n from C2) w5
   |[(s1,m1)],_=>
    obtain⟨rfl,_,S,e⟩:=C2;have e:0+m1=n:=e;rw[Nat.zero_add] at e;rw[<- e];exact S
def Rule.weak(R:Rule prog w A s n item kd r):WRule prog w A s n item kd λa b=>!decide (a=b)&&r a b where
 asy:=λa b ha hb h=>by
  by_cases e:a=b
  ·simp[e] at h
  ·have e':¬ b=a:=λz=>e z.symm;simp[e] at h;have:=R.tot b a hb ha e';rw[h] at this;simp[this]
 tr:=λa b c ha hb hc h1 h2=>by
  by_cases e1:b=a
  ·rw[e1] at h2;exact h2
  ·by_cases e2 : c = b
   ·rw[e2];exact h1
   ·by_cases e3 : c = a
    ·simp[e3]
    ·simp [e1] at h1;simp[e2] at h2;simp[e3];have g1:=R.tot b a hb ha e1;have g2:=R.tot c b hc hb e2;have g3:=R.tot c a hc ha e3;rw[h1] at g1;rw[h2] at g2
     have g4:=R.tr a b c ha hb hc (by simpa using g1.symm) (by simpa using g2.symm)
     rw[g3,g4];rfl
 cmp:=λa b ha hb h E Q q=>R.cmp a b ha hb h E Q (by simpa [h] using q)
end
abbrev jD(vs:List Value):Nat->Keyed:=λi=>(vs.getD i .none,vs.getD i .none)
def ZQ(vs:List Value):vs.toArray.zip vs.toArray=(Array.range vs.length).map (jD vs):=by
 refine Array.ext_getElem? λk=>?_;rw[Array.getElem?_map]
 by_cases h:k<vs.length
 ·have e1 : (Array.range vs.length)[k]? = some k := by rw [Array.getElem?_range, if_pos h]
  rw[e1]
  have e2:(vs.toArray.zip vs.toArray)[k]?=some (vs[k],vs[k]):=by
   rw[wz (by simpa using h)]
   simp
  rw[e2];simp[jD,xb,h]
 ·rw [wO (by simp; lia), wO (by simp; lia)]
  rfl
section
variable {prog:Program}{w:World}{A:Around}{E:Value->Shared->Prop}{s:Shared}{r:Nat->Nat->Bool}{kd:SortKind}
abbrev Ys(h:Heap)(a:Addr)(vs:List Value):Heap:=((h.update a (Obj.mapSeq λ_=>#[])).push (seqObj "tuple" vs.toArray 0)).push (seqObj "list" #[] 0)
def zG1{a:Addr}{vs:List Value}{k:Nat}(at0:s.heap.get? a=some (seqObj "list" vs.toArray k))(h64:vs.length<2000)
  (hk:2<=vs.length->∀(E:Value->Shared->Prop) (Q:SortKind->Shared->Prop),Q kd { s with heap:=Ys s.heap a vs }->wpAny (model prog w) A (keyKind' vs.toArray) Q E { s with heap:=Ys s.heap a vs })
  (hR:2<=vs.length->WRule prog w A { s with heap:=Ys s.heap a vs } vs.length (jD vs) kd r) {Q:Fin->Shared->Prop}
  (q:∀ls:Array Nat,ls.Perm (Array.range vs.length)->Seg r ls 0 vs.length->Q (.done (.ret .none)) { s with heap:=sortedHeap s.heap a vs (ls.map λi=>vs.getD i .none) }) :
  wpAny (model prog w) A (Builtin.«list.sort» ⟨[.ref a],[]⟩) Q E s:=by
 have la:=zA at0;obtain⟨e1,at1⟩:∃e1,(s.heap.update a (Obj.mapSeq λ_=>#[])).get? a=some (seqObj "list" #[] e1):=⟨_,get?_update_seq at0 _⟩
 have at2:(Ys s.heap a vs).get? a=some (seqObj "list" #[] e1):=by
  have n1:a≠((s.heap.update a (Obj.mapSeq λ_=>#[])).push (seqObj "tuple" vs.toArray 0)).objs.size:=by rw[size_push',Heap.size_update];exact xa (wg la)
  have n2:a≠(s.heap.update a (Obj.mapSeq λ_=>#[])).objs.size:=by rw[Heap.size_update];exact xa la
  exact(Heap.get?_push_ne _ _ _ n1).trans ((Heap.get?_push_ne _ _ _ n2).trans at1)
 rw[list_sort_plain];refine zb (listItems_at at0 rfl ?_);refine zb (listUpdate_at at0 rfl (zb (seqEpoch_at at1 rfl ?_)));refine zb (wpAny_newTuple (zb (wpAny_newList (wF ?_))));show wpAny (model prog w) A _ Q E { s with heap:=Ys s.heap a vs };dsimp only
 have fin:∀(t:SortSt) (ls:Array Nat),arrOf t=ls.map (jD vs)->failedOf t=none->ls.Perm (Array.range vs.length)->Seg r ls 0 vs.length ->
   wpAny (model prog w) A (do
    let touched:=(<- seqEpoch a) != e1
    Builtin.List.listUpdate (.ref a) λ_=>(arrOf t).map (·.2)
    if let some e:=failedOf t then rule "list.sort.comparison-raised";throw e
    if touched then rule "list.sort.modified";raiseError "ValueError" "list modified during sort"
    ret .none) Q E { s with heap:=Ys s.heap a vs }:=λt ls h1 h2 h3 h4=>by
  have ea:(arrOf t).map (·.2)=ls.map λi=>vs.getD i .none:=by rw[h1,Array.map_map];rfl
  have es:((arrOf t).map (·.2)).size<=2000:=by rw[ea,zI,h3.size_eq,wU];lia
  refine zb (seqEpoch_at at2 rfl ?_)
  refine zb (listUpdate_at at2 rfl ?_ (hsz2:=by rw[sizeLine_eq];exact zw es w6))
  rw[h2,ea];simp only[bne_self_eq_false,xR,if_false];exact zf (q ls h3 h4)
 by_cases c:vs.toArray.size<2
 ·rw [if_pos c, if_pos c];refine zb (zf ?_);rw[StateT.run_pure];refine zb (zf (fin _ (Array.range vs.length) (ZQ vs) rfl (Array.Perm.refl _) λi j i1 hij hj=>?_))
  have:vs.length<2:=by simpa using c
  lia
 ·rw [if_neg c, if_neg c]
  have h2:2<=vs.length:=by simpa using c
  refine zb (hk h2 _ _ ?_);have N0:Nw vs.length (jD vs) kd (Array.range vs.length) (SortSt.mk' kd (vs.toArray.zip vs.toArray) #[] 7 none):=⟨ZQ vs,rfl,rfl,Array.Perm.refl _⟩;refine zb (ye (xo7 (hR h2) N0 rfl h2 (Q:=λ_ t=>∃ls:Array Nat,arrOf t=ls.map (jD vs)/\failedOf t=none/\ls.Perm (Array.range vs.length)/\Seg r ls 0 vs.length) λls t a1 a2 a3 a4=>⟨ls,a1,a2,a3,a4⟩) ?_ λ_ _ e=>e);rintro⟨_,t⟩ s' ⟨rfl,ls,a1,a2,a3,a4⟩;exact fin t ls a1 a2 a3 a4
def Col(prog:Program)(w:World)(s:Shared)(l:Addr)(vs:List Value):Prop:=∀(B:Around) (E:Value->Shared->Prop) (Q:List Value->Shared->Prop),vs.length<=sizeLine->Q vs { s with heap:=(s.heap.push (seqObj "list" #[] 0)).update s.heap.objs.size (Obj.mapSeq (·++vs.toArray)) }->wpAny (model prog w) B (collect (.ref l)) Q E s
def YU{l:Addr}{vs:List Value}(hc:Col prog w s l vs)(h64:vs.length<2000)
    (hk:2<=vs.length->∀(h':Heap),(∀b o,s.heap.get? b=some o->h'.get? b=some o)->∀(B:Around),B.units<=A.units+3->∀(E:Value->Shared->Prop) (Q:SortKind->Shared->Prop),Q kd { s with heap:=h' }->wpAny (model prog w) B (keyKind' vs.toArray) Q E { s with heap:=h' })
    (hR:2<=vs.length->∀(h':Heap),(∀b o,s.heap.get? b=some o->h'.get? b=some o)->∀(B:Around),B.units<=A.units+3->WRule prog w B { s with heap:=h' } vs.length (jD vs) kd r) {Q:Value->Shared->Prop}
    (q:∀ls:Array Nat,ls.Perm (Array.range vs.length)->Seg r ls 0 vs.length->Q (.ref (s.heap.objs.size+1)) { s with heap:=sortedAll s.heap vs (ls.map λi=>vs.getD i .none) }) :
    wpAny (model prog w) A (call (.builtin "sorted") [.ref l]) Q E s:=by
  refine Calls.call_function_entry kind_sorted plain_sorted entry_sorted (args_sorted1 _) ?_;unfold Builtin.«sorted»
  refine zb (m:=checkCount "sorted" 1 1 _) (zf (zb (hc _ _ _ (zw (xM h64) (by rw[sizeLine_eq];decide)) (zb (wpAny_newList ?_)))))
  have z1:((s.heap.push (seqObj "list" #[] 0)).update s.heap.objs.size (Obj.mapSeq (·++vs.toArray))).objs.size=s.heap.objs.size+1:=by rw[Heap.size_update,size_push']
  let h1:Heap:=((s.heap.push (seqObj "list" #[] 0)).update s.heap.objs.size (Obj.mapSeq (·++vs.toArray))).push (seqObj "list" vs.toArray 0)
  have at1:h1.get? (s.heap.objs.size+1)=some (seqObj "list" vs.toArray 0):=by rw[<- z1];exact zD _ rfl
  have old1:∀b o,s.heap.get? b=some o->h1.get? b=some o:=λb o e=>by
    have lb:=zA e;refine ze _ ?_;rw[Heap.get?_update_ne _ _ _ _ (xa lb)];exact ze _ e
  have old2:∀b o,s.heap.get? b=some o->(Ys h1 (s.heap.objs.size+1) vs).get? b=some o:=λb o e=>by
    have lb:=zA e;refine ze _ (ze _ ?_);rw[Heap.get?_update_ne _ _ _ _ (xa (wg lb))];exact old1 b o e
  have eH:∀out:Array Value,sortedHeap h1 (s.heap.objs.size+1) vs out=sortedAll s.heap vs out:=λ_=>rfl
  have body:∀B:Around,B.units<=A.units+3->∀(E:Value->Shared->Prop) (P:Fin->Shared->Prop),(∀ls:Array Nat,ls.Perm (Array.range vs.length)->Seg r ls 0 vs.length->P (.done (.ret .none)) { s with heap:=sortedAll s.heap vs (ls.map λi=>vs.getD i .none) }) ->
      wpAny (model prog w) B (Builtin.«list.sort» ⟨[.ref (s.heap.objs.size+1)],[]⟩) P E { s with heap:=h1 }:=λB hB E P p=>
    zG1 (s:={ s with heap:=h1 }) at1 h64 (λh2 E Q q=>hk h2 _ old2 B hB E Q q) (λh2=>hR h2 _ old2 B hB) λls a1 a2=>by
      show P _ { s with heap:=sortedHeap h1 (s.heap.objs.size+1) vs _ };rw[eH];exact p ls a1 a2
  show wpAny _ _ _ _ _ { s with heap:=h1 };rw[z1]
  clear_value h1
  refine zb (wF (wpAny_call_entry slot_list_sort ⟨_,at1,rfl⟩ entry_list_sort (body _ ?_ _ _ λls a1 a2=>⟨_,rfl,zf ⟨_,rfl,q ls a1 a2⟩⟩) (args_list_sort _)));show A.units+1+1<=A.units+3;lia
def Ji{l:Addr}{vs:List Value}(hl:s.heap.IsList l vs.toArray)(h64:vs.length<2000)
  (hk:2<=vs.length->∀(h':Heap),(∀b o,s.heap.get? b=some o->h'.get? b=some o)->∀(B:Around),B.units<=A.units+3->∀(E:Value->Shared->Prop) (Q:SortKind->Shared->Prop),Q kd { s with heap:=h' }->wpAny (model prog w) B (keyKind' vs.toArray) Q E { s with heap:=h' })
  (hR:2<=vs.length->∀(h':Heap),(∀b o,s.heap.get? b=some o->h'.get? b=some o)->∀(B:Around),B.units<=A.units+3->WRule prog w B { s with heap:=h' } vs.length (jD vs) kd r) {Q:Value->Shared->Prop}
  (q:∀ls:Array Nat,ls.Perm (Array.range vs.length)->Seg r ls 0 vs.length->Q (.ref (s.heap.objs.size+1)) { s with heap:=sortedAll s.heap vs (ls.map λi=>vs.getD i .none) }) :
  wpAny (model prog w) A (call (.builtin "sorted") [.ref l]) Q E s:=YU (λ_ _ _ hz h=>collect_list hl h hz) h64 hk hR q
def Qu{l:Addr}{vs:List Value}(hl:s.heap.IsList l vs.toArray)(h64:vs.length<2000)
  (hk:2<=vs.length->∀(h':Heap),(∀b o,s.heap.get? b=some o->h'.get? b=some o)->∀(B:Around),B.units<=A.units+3->∀(E:Value->Shared->Prop) (Q:SortKind->Shared->Prop),Q kd { s with heap:=h' }->wpAny (model prog w) B (keyKind' vs.toArray) Q E { s with heap:=h' })
  (hR:2<=vs.length->∀(h':Heap),(∀b o,s.heap.get? b=some o->h'.get? b=some o)->∀(B:Around),B.units<=A.units+3->Rule prog w B { s with heap:=h' } vs.length (jD vs) kd r) {Q:Value->Shared->Prop}
  (q:∀ls:Array Nat,ls.Perm (Array.range vs.length)->Up r ls vs.length->Q (.ref (s.heap.objs.size+1)) { s with heap:=sortedAll s.heap vs (ls.map λi=>vs.getD i .none) }) :
  wpAny (model prog w) A (call (.builtin "sorted") [.ref l]) Q E s:=
 Ji hl h64 hk (λh2 h' o B hB=>(hR h2 h' o B hB).weak) λls h4 h5=>q ls h4 λi j hij hj=>by
  have R:=hR w5 s.heap (λ_ _ e=>e) A w5
  have hs:ls.size=vs.length:=by rw[h4.size_eq,wU]
  have hne:lab ls i≠lab ls j:=zE3 (jV h4) hij w5
  have z:=h5 i j w5 hij w5
  have hne':¬ lab ls j=lab ls i:=λe=>hne e.symm;simp[hne'] at z
  rw[R.tot _ _ (XC h4 (kM w5)) (XC h4 (kM w5)) hne,z];rfl
end
end L2.Srt
namespace L2
open PySem PySem.Spec PyProof.Rows PySem.SeqAt
theorem ints_at:∀{vs:List Value}{ns:List Int},IntsAre vs ns->∀{i:Nat},i<vs.length->∃t,vs.getD i .none=.int (ns.getD i 0) t
 |_,_,.cons n t h,0,_=>⟨t,rfl⟩
 |_,_,.cons n t h,i+1,hi=>by
  obtain⟨u,e⟩:=ints_at h (i:=i) (by simpa using hi)
  exact⟨u,by simpa using e⟩
theorem KA:∀{vs:List Value}{ns:List Int},IntsAre vs ns->vs.length=ns.length
 |_,_,.nil=>rfl
 |_,_,.cons n t h=>by simp[KA h]
theorem WU{vs:List Value}{ns:List Int}(h:IntsAre vs ns):∀{ls:List Nat},(∀i∈ls,i<vs.length)->IntsAre (ls.map λi=>vs.getD i .none) (ls.map λi=>ns.getD i 0)
 |[],_=>.nil
 |i::ls,hl=>by
  obtain⟨t,e⟩:=ints_at h (hl i (zo ..));rw[zy,zy,e];exact .cons _ t (WU h λj hj=>hl j (zk _ hj))
theorem zc9:∀{vs:List Value}{ns:List Int},IntsAre vs ns->2<=vs.length->keyKind' vs.toArray=pure oneType'
 |_::_::_,_,h,_=>keyKind_ints h
 |[],_,_,h=>by simp at h
 |[_],_,_,h=>by simp at h
section
variable {prog:Program}{w:World}{A:Around}{E:Value->Shared->Prop}{s:Shared}
def Wh{l:Addr}{vs:List Value}{ns:List Int}{Q:Value->Shared->Prop}(hl:Srt.Col prog w s l vs)(hI:IntsAre vs ns)(h9:vs.length<2000)
    (h:∀(out:Array Value) (ns':List Int),IntsAre out.toList ns'->ns'.Perm ns->ns'.Pairwise (·<=·)->Q (.ref (s.heap.objs.size+1)) { s with heap:=sortedAll s.heap vs out }) :
    wpAny (model prog w) A (call (.builtin "sorted") [.ref l]) Q E s:=by
  have len:=KA hI;refine Srt.YU (kd:=oneType') (r:=λa b=>decide (ns.getD a 0<ns.getD b 0)) hl h9 (λh2 h' o B hB E Q q=>?_) (λh2 h' o B hB=>⟨λa b _ _ z=>?_,λa b c _ _ _ z1 z2=>?_,λa b ha hb _ E Q q=>?_⟩) λls hp hs=>?_
  · rw [zc9 hI h2]
    exact zf q
  · simp at z ⊢;lia
  · simp at z1 z2 ⊢;lia
  · obtain ⟨t, e1⟩ := ints_at hI ha
    obtain⟨u,e2⟩:=ints_at hI hb;show wpAny (model prog w) B (keyLt' oneType' (vs.getD a .none) (vs.getD b .none)) Q E _;rw[e1,e2,keyLt'_oneType];exact oneLt_int q
  · have hm : ∀ i ∈ ls.toList, i < vs.length := λi hi => Srt.XC hp hi
    have hsz:ls.size=vs.length:=by rw[hp.size_eq,wU]
    refine h _ (ls.toList.map λi=>ns.getD i 0) (by rw[Array.toList_map];exact WU hI hm) ?_ ?_
    · have e : (List.range vs.length).map (λi => ns.getD i 0) = ns := by
        refine List.ext_getElem (by simp[len]) λi h1 h2=>?_
        rw[List.getElem_map,List.getElem_range,xb,zj h2];rfl
      have:=(xN.mp hp).map λi=>ns.getD i 0;rw[yv,e] at this;exact this
    · rw [xV]
      refine xF.mpr λi j hi hj hij=>?_;rw[zg] at hi hj
      have z:=hs i j w5 hij w5
      have ei:=Srt.yG (ls:=ls) hi;have ej:=Srt.yG (ls:=ls) hj
      rw[<- zG,zj (by rw[zg];exact hi)] at ei
      rw[<- zG,zj (by rw[zg];exact hj)] at ej
      rw[zF ei,zF ej];simp at z;exact z
end
section
variable {X:Cx}{A:AC}
end
end L2
namespace L2.Srt
open PySem PyProof.Rows PySem.SeqAt
section
variable {prog:Program}{w:World}{M:Model}{A:Around}{E:Value->Shared->Prop}{s:Shared}
theorem JY{α β:Type}{f:α->Sem β}{g:α->β}:∀{l:List α}{Q:List β->Shared->Prop},(∀a∈l,∀Q:β->Shared->Prop,Q (g a) s->wpAny M A (f a) Q E s)->Q (l.map g) s->wpAny M A (l.mapM f) Q E s
 |[],Q,_,q=>by rw[List.mapM_nil];exact zf q
 |a::l,Q,h,q=>by
  rw[List.mapM_cons];refine zb (h a (zo ..) _ (zb (JY (λb hb=>h b (zk _ hb)) (zf q))))
def JZ{α β:Type}{f:α->Sem β}{g:α->β}{l:List α}{Q:Array β->Shared->Prop}(h:∀a∈l,∀Q:β->Shared->Prop,Q (g a) s->wpAny M A (f a) Q E s)(q:Q (l.map g).toArray s):wpAny M A (l.toArray.mapM f) Q E s:=by
 rw[List.mapM_toArray];show wpAny M A (List.toArray <$> l.mapM f) Q E s;rw[map_eq_pure_bind];exact zb (JY h (zf q))
def Zr(v:Value):firstOfTuple' v=(do
  if (<- typeOf v) != .type "tuple" then return none
  return (<- Builtin.List.listItems v)[0]?):=rfl
def Tup(h:Heap)(v:Value)(p:Value)(rest:List Value):Prop:=∃a,v=.ref a/\IsTup h a (p::rest).toArray
def Tup.type{v p:Value}{rest:List Value}(t:Tup s.heap v p rest):s.TypeIs v "tuple" := by
 obtain⟨a,rfl,o,ho,hc,_⟩:=t;exact⟨o,ho,hc⟩
def Tup.items{v p:Value}{rest:List Value}(t:Tup s.heap v p rest){Q:Array Value->Shared->Prop}(q:Q (p::rest).toArray s):wpAny M A (Builtin.List.listItems v) Q E s:=by
 obtain⟨a,rfl,o,ho,hc,n,hd⟩:=t;exact listItems_at ho hd q
def Ul{vs:List Value}{fst:Value->Value}{T:String}(h2:2<=vs.length)(ht:∀v∈vs,∃rest,Tup s.heap v (fst v) rest)(hT:∀v∈vs,s.TypeIs (fst v) T){Q:SortKind->Shared->Prop}(q:Q (tuples' (Value.type T != Value.type "tuple")) s):wpAny M A (keyKind' vs.toArray) Q E s:=by
  rw[keyKind'_eq];refine zb (JZ (g:=λv=>some (fst v)) (λv hv Q q=>?_) ?_)
  · obtain ⟨rest, t⟩ := ht v hv
    rw[Zr];refine zb (wpAny_typeOf t.type ?_)
    have e:(Value.type "tuple" != Value.type "tuple")=false:=by rfl
    rw[e];exact zb (t.items (zf q))
  · have e : (vs.map λv => some (fst v)).toArray.all (·.isSome) = true := by simp
    rw[if_pos e];refine zb (yc ?_)
    have e2:((vs.map λv=>some (fst v)).toArray.filterMap id)=(vs.map fst).toArray:=by
      simp[filterMap_map]
    rw[e2,oneTypeOnly'_eq];refine zb (zb (JZ (g:=λ_=>Value.type T) (λv hv Q q=>?_) ?_))
    · obtain ⟨u, hu, rfl⟩ := zK.mp hv
      exact wpAny_typeOf (hT u hu) q
    · have e3 : ((vs.map fst).map λ_ => Value.type T).toArray[0]? = some (Value.type T) := by
        cases vs with
        |nil=>simp at h2
        |cons v vs=>simp
      have e4:(((vs.map fst).map λ_=>Value.type T).toArray.all (· == Value.type T))=true:=by
        simp only[List.all_toArray,List.all_map,all_eq_true];intro _ _;show(Value.type T == Value.type T)=true;simp
      rw[e3];dsimp only;rw[e4];exact zf (zf q)
def XN(f:Bool)(x y:Value):keyLt' (tuples' f) x y=(do
  let xs <- Builtin.List.listItems x
  let ys <- Builtin.List.listItems y
  for ((p,q),i) in (xs.toList.zip ys.toList).zipIdx do
   if !(<- eqBool p q) then return <- oneLt' (f&&i == 0) p q
  return xs.size<ys.size):=rfl
inductive Lex(A:Around)(s:Shared)(f:Bool)(b:Bool):Nat->List Value->List Value->Prop
 |alike {i:Nat}{p q:Value}{ps qs:List Value}:EqAt A s p q true->Lex A s f b (i+1) ps qs->Lex A s f b i (p::ps) (q::qs)
 |here {i:Nat}{p q:Value}{ps qs:List Value}:EqAt A s p q false->(∀(prog:Program) (w:World) (E:Value->Shared->Prop) (Q:Bool->Shared->Prop),Q b s->wpAny (model prog w) A (oneLt' (f&&i == 0) p q) Q E s)->Lex A s f b i (p::ps) (q::qs)
def zd0{f b:Bool}{x y p q:Value}{ps qs:List Value}(tx:Tup s.heap x p ps)(ty:Tup s.heap y q qs)(L:Lex A s f b 0 (p::ps) (q::qs)){Q:Bool->Shared->Prop}(h:Q b s):wpAny (model prog w) A (keyLt' (tuples' f) x y) Q E s:=by
 rw[XN];refine zb (tx.items (zb (ty.items ?_)))
 refine zb (wpAny_forIn_list _ (λrest c s'=>s'=s/\c.1=none/\∃i xs ys,rest=(xs.zip ys).zipIdx i/\Lex A s f b i xs ys) (λc s'=>s'=s/\c.1=some b) ?turn ?fin _ _ ⟨rfl,rfl,0,p::ps,q::qs,by simp,L⟩ |> λz=>ye z ?post λ_ _ e=>e)
 case turn=>
  rintro⟨⟨u,v⟩,k⟩ rest c s' ⟨rfl,hc,i,xs,ys,e,L⟩
  cases L with
  |alike he L=>
   rw[yt,zipIdx_cons] at e;injection e with e1 e2;injection e1 with e1 e3;injection e1 with e4 e5;subst e3 e4 e5;refine zb (he prog w _ _ ?_);simp only[Bool.not_true,xR,if_false];exact zf ⟨rfl,rfl,_,_,_,e2,L⟩
  |here he ho=>
   rw[yt,zipIdx_cons] at e;injection e with e1 e2;injection e1 with e1 e3;injection e1 with e4 e5;subst e3 e4 e5;refine zb (he prog w _ _ ?_);simp only[Bool.not_false,if_true];exact zb (ho prog w _ _ (zf ⟨rfl,rfl⟩))
 case fin=>
  rintro c s' ⟨_,_,i,xs,ys,e,L⟩
  cases L<;>(rw[yt,zipIdx_cons] at e;cases e)
 case post=>
  rintro c s' ⟨rfl,hc⟩;obtain⟨c1,c2⟩:=c;simp only at hc;subst hc;exact zf h
def ZZ{i j:Int}{t u:Tok}{Q:Bool->Shared->Prop}(h:Q (decide (i<j)) s):wpAny (model prog w) A (oneLt' false (.int i t) (.int j u)) Q E s:=by
 rw[oneLt'_eq];simp only[xR,if_false];exact zb (show wpAny (model prog w) A (compareOp .Lt (.int i t) (.int j u)) _ _ _ from PyProof.Rows.lt_int (wpAny_truthy_bool h))
def ZY{a b:Addr}{xs ys:Array Value}{ns ms:List Int}(ha:IsTup s.heap a xs)(hb:IsTup s.heap b ys)(hi:IntsAre xs.toList ns)(hj:IntsAre ys.toList ms)(hu:A.units<cLine){Q:Bool->Shared->Prop}(h:Q (HT.kW ns ms) s):wpAny (model prog w) A (oneLt' false (.ref a) (.ref b)) Q E s:=by
 rw[oneLt'_eq];simp only[xR,if_false];exact zb (show wpAny (model prog w) A (compareOp .Lt (.ref a) (.ref b)) _ _ _ from HT.JB ha hb hi hj hu (wpAny_truthy_bool h))
def qh(f:Bool){i j:Int}{t u:Tok}{Q:Bool->Shared->Prop}(h:Q (decide (i<j)) s):wpAny (model prog w) A (oneLt' f (.int i t) (.int j u)) Q E s:=by
 cases f with
 |true=>exact oneLt_int h
 |false=>exact ZZ h
end
end L2.Srt
namespace L2
open PySem PySem.Spec PyProof.Rows PySem.SeqAt
def xD7(X:Cx)(H:Hp)(f:Bool)(y:V):Prop:=∀pins s σ v,Inv X pins σ H s->RelV y v->∃p rest,Srt.Tup s.heap v p rest/\s.TypeIs p (if f then "int" else "tuple")
def xD9(X:Cx)(H:Hp)(f:Bool)(y z:V)(b:Bool):Prop:=∀pins s σ u v,Inv X pins σ H s->RelV y u->RelV z v->∀A:Around,A.units+60<cLine->∃p ps q qs,Srt.Tup s.heap u p ps/\Srt.Tup s.heap v q qs/\Srt.Lex A s f b 0 (p::ps) (q::qs)
def QD(X:Cx):List V->Hp->VK->Prop:=λxs H Q=>∃(p:Addr) (ys:List V) (f:Bool) (r:Nat->Nat->Bool),xs=[.ref p]/\SqL X.K H p ys/\ys.length<900 /\
 (∀a b,a<ys.length->b<ys.length->a≠b->r a b=!r b a)/\(∀a b c,a<ys.length->b<ys.length->c<ys.length->r a b=true->r b c=true->r a c=true) /\
 (∀a,a<ys.length->xD7 X H f (ys.getD a .non))/\(∀a b,a<ys.length->b<ys.length->a≠b->xD9 X H f (ys.getD a .non) (ys.getD b .non) (r a b)) /\
 ∀ls:Array Nat,ls.Perm (Array.range ys.length)->Srt.Up r ls ys.length->∀l,H l=none->Q (.ref l) (upd H l (.lst (ls.toList.map λi=>ys.getD i .non)))
def Vals.getD{xs:List V}{us:List Value}(h:Vals xs us){i:Nat}(hi:i<xs.length):RelV (xs.getD i .non) (us.getD i .none):=by
 obtain⟨u,e,r⟩:=h.get (zj hi);rw[xb,xb,e,zj hi];exact r
theorem XZ{xs:List V}{us:List Value}(h:Vals xs us):∀{ls:List Nat},(∀i∈ls,i<xs.length)->Vals (ls.map λi=>xs.getD i .non) (ls.map λi=>us.getD i .none)
 |[],_=>.nil
 |i::ls,hl=>.cons (h.getD (hl i (zo ..))) (XZ h λj hj=>hl j (zk _ hj))
section
variable {X:Cx}
def Zi{n:Nat}(hr:Room n X.A):qw X (.builtin "sorted") (QD X):=by
 classical
 intro pins s σ H xs us Q I r h;obtain⟨p,ys,f,rr,rfl,hq,hn,tot,tr,row,cmp,q⟩:=h;obtain⟨u,rfl,hu⟩:=YC r;have hu':u=.ref p:=hu;subst hu';obtain⟨its,rv,pl,_⟩:=I.list hq;have len:=rv.length;have un:=hr.un
 have ixd:∀v∈its,∃i,i<ys.length/\v=its.getD i .none:=λv hv=>by
  obtain⟨i,hi,e⟩:=List.getElem_of_mem hv
  exact⟨i,w5,by rw[xb,zj hi,e];rfl⟩
 refine Srt.Qu (r:=rr) (kd:=tuples' f) pl.isList w5 (λh2 h' keep B hB E Q q=>?_) (λh2 h' keep B hB=>?_) (λls hp hU=>?_)
 ·have I' : Inv X pins σ H { s with heap := h' } := I.kept (t' := s.toks) keep
  have each:∀v∈its,∃p rest,Srt.Tup h' v p rest/\Shared.TypeIs { s with heap:=h' } p (if f then "int" else "tuple"):=λv hv=>by
   obtain⟨i,hi,rfl⟩:=ixd v hv;exact row i hi pins _ σ _ I' (rv.getD hi)
  refine Srt.Ul (s:={ s with heap:=h' }) (T:=if f then "int" else "tuple") (fst:=λv=>if h:∃p rest,Srt.Tup h' v p rest/\Shared.TypeIs { s with heap:=h' } p (if f then "int" else "tuple") then h.choose else v) w5 (λv hv=>?_) (λv hv=>?_) ?_
  ·have e := each v hv;obtain⟨rest,t,_⟩:=e.choose_spec
   exact⟨rest,by rw[dif_pos e];exact t⟩
  ·have e := each v hv;obtain⟨rest,_,t⟩:=e.choose_spec
   show Shared.TypeIs _ (if h:_ then _ else _) _
   rw[dif_pos e];exact t
  ·cases f
   ·exact q
   ·exact q
 ·have I' : Inv X pins σ H { s with heap := h' } := I.kept (t' := s.toks) keep
  refine⟨λa b ha hb=>tot a b w5 w5,λa b c ha hb hc=>tr a b c w5 w5 w5,λa b ha hb hab E Q q=>?_⟩
  obtain⟨p1,ps,p2,qs,t1,t2,L⟩:=cmp a b w5 w5 hab pins _ σ _ _ I' (rv.getD w5) (rv.getD w5) B w5
  exact Srt.zd0 t1 t2 L q
 ·obtain ⟨e, he⟩ := sortedAll_at s.heap its (ls.map λi => its.getD i .none);have hf:H (s.heap.objs.size+1)=none:=I.hok.fresh (xl _)
  have hls:∀i∈ls.toList,i<ys.length:=λi hi=>by
   have:=(hp.mem_iff).mp (Array.mem_toList_iff.mp hi);rw[Array.mem_range] at this;lia
  rw[<- len] at hp hU;refine⟨.ref (s.heap.objs.size+1),_,I.laid (t':=s.toks) (o:=.lst (ls.toList.map λi=>ys.getD i .non)) (λb u e=>sortedAll_old e) (xl _) ?_,rfl,q ls hp hU _ hf⟩;refine⟨?_,(ls.toList.map λi=>its.getD i .none),e,XZ rv hls,?_⟩
  ·rw [zn, zg, hp.size_eq, wU]
   exact zw (xM hn) w6
  ·have ea : (ls.toList.map λi => its.getD i .none).toArray = ls.map λi => its.getD i .none := by rw [<- Array.toList_map, Array.toArray_toList]
   rw[ea];exact he
end
inductive SKey where
 |n (i:Int) |t (ns:List Int)
 deriving DecidableEq
def SKey.d:SKey->D
 |.n i=>.int i
 |.t ns=>.tup (ns.map D.int)
def SKey.num:SKey->Bool
 |.n _=>true
 |.t _=>false
def SKey.lt:SKey->SKey->Bool
 |.n i,.n j=>decide (i<j)
 |.t ns,.t ms=>HT.kW ns ms
 |_,_=>false
structure SRow where
 key:SKey
 name:Int
 rest:List D
def SRow.d(x:SRow):D:=.tup (x.key.d::.int x.name::x.rest)
def SRow.lt(x y:SRow):Bool:=if x.key=y.key then decide (x.name<y.name) else x.key.lt y.key
theorem Kx:∀(xs ys:List Int),xs≠ys->HT.kW xs ys=!HT.kW ys xs
 |[],[],h=>absurd rfl h
 |[],y::ys,_=>rfl
 |x::xs,[],_=>rfl
 | x :: xs, y :: ys, h => by
  rw[HT.kU,HT.kU]
  by_cases e:x=y
  ·subst e;rw[if_pos rfl,if_pos rfl]
   exact Kx xs ys λz=>h (by rw[z])
  ·rw [if_neg e, if_neg (Ne.symm e)]
   by_cases l:x<y
   ·rw[xC l,zU w5];rfl
   ·rw[zU l,xC w5];rfl
theorem zc1:∀(xs:List Int),HT.kW xs xs=false
 |[]=>rfl
 |x::xs=>by rw[HT.kU,if_pos rfl];exact zc1 xs
theorem WP:∀(xs ys zs:List Int),HT.kW xs ys=true->HT.kW ys zs=true->HT.kW xs zs=true
 |[],[],_,h,_=>by cases h
 |[],_::_,[],_,h=>by cases h
 |[],_::_,_::_,_,_=>rfl
 |_::_,[],_,h,_=>by cases h
 |_::_,_::_,[],_,h=>by cases h
 | x :: xs, y :: ys, z :: zs, h1, h2 => by
  rw[HT.kU] at h1 h2 ⊢
  by_cases e1:x=y
  ·subst e1;rw[if_pos rfl] at h1
   by_cases e2:x=z
   ·subst e2;rw[if_pos rfl] at h2 ⊢;exact WP xs ys zs h1 h2
   ·rw[if_neg e2] at h2 ⊢;exact h2
  ·rw [if_neg e1] at h1;have l1:=of_decide_eq_true h1
   by_cases e2:y=z
   ·subst e2;rw[if_neg e1];exact h1
   ·rw [if_neg e2] at h2;have l2:=of_decide_eq_true h2
    rw[if_neg w5]
    exact xC w5
def SKey.lt_anti{x y:SKey}(hn:x.num=y.num)(h:x≠y):x.lt y=!y.lt x:=by
 cases x with
 | n i =>
  cases y with
  |n j=>
   have:i≠j:=λz=>h (by rw[z])
   simp only[SKey.lt]
   by_cases l:i<j
   ·rw[xC l,zU w5];rfl
   ·rw[zU l,xC w5];rfl
  |t ms=>cases hn
 |t ns=>
  cases y with
  |n j=>cases hn
  |t ms=>exact Kx ns ms λz=>h (by rw[z])
def SKey.lt_irr(x:SKey):x.lt x=false:=by
 cases x with
 |n i=>simp[SKey.lt]
 |t ns=>exact zc1 ns
def SKey.lt_trans{x y z:SKey}(h1:x.lt y=true)(h2:y.lt z=true):x.lt z=true:=by
 cases x<;>cases y<;>cases z<;>first
  |(cases h1;done) |(cases h2;done)
  |(simp only[SKey.lt,wJ] at h1 h2 ⊢;lia)
  |exact WP _ _ _ h1 h2
def SRow.lt_anti{x y:SRow}(hn:x.key.num=y.key.num)(h:x.name≠y.name):x.lt y=!y.lt x:=by
 unfold SRow.lt
 by_cases e:x.key=y.key
 ·rw [if_pos e, if_pos e.symm]
  by_cases l:x.name<y.name
  ·rw[xC l,zU w5];rfl
  ·rw[zU l,xC w5];rfl
 ·rw[if_neg e,if_neg (Ne.symm e)];exact SKey.lt_anti hn e
def SRow.lt_trans{x y z:SRow}(h1:x.lt y=true)(h2:y.lt z=true):x.lt z=true:=by
 unfold SRow.lt at *
 by_cases e1:x.key=y.key
 ·rw [if_pos e1] at h1
  by_cases e2:y.key=z.key
  ·rw[if_pos e2] at h2;rw[if_pos (e1.trans e2)];simp only[wJ] at *;lia
  ·rw [if_neg e2] at h2
   rw[if_neg (by rw[e1];exact e2),e1]
   exact h2
 ·rw [if_neg e1] at h1
  by_cases e2:y.key=z.key
  ·rw [if_neg (by rw [<- e2]; exact e1), <- e2]
   exact h1
  ·rw [if_neg e2] at h2;have h3:=SKey.lt_trans h1 h2
   by_cases e3:x.key=z.key
   ·rw[e3,SKey.lt_irr] at h3;cases h3
   ·rw[if_neg e3];exact h3
def JU:SRow:=⟨.n 0,0,[]⟩
def zR4:List D->(D->Prop)->Prop:=λes k=>∃(rows:List SRow) (f:Bool),es=[.lst (rows.map SRow.d)]/\rows.length<900/\(∀x∈rows,x.key.num=f)/\(rows.map SRow.name).Nodup/\∀rows':List SRow,rows'.Perm rows->rows'.Pairwise (λx y=>x.lt y=true)->k (.lst (rows'.map SRow.d))
theorem WZ:∀(xs ys:List Int),jI (xs.map D.int) (ys.map D.int)=decide (xs=ys)
 |[],[]=>by unfold jI;rfl
 |[],y::ys=>by unfold jI;simp
 |x::xs,[]=>by unfold jI;simp
 |x::xs,y::ys=>by
  rw[zy,zy];unfold jI;rw[WZ xs ys];unfold eqD
  by_cases e:x=y
  ·subst e;simp
  ·simp[e]
def zG5{x y:SKey}(h:x.num=y.num):eqD x.d y.d=decide (x=y):=by
 cases x with
 | n i =>
  cases y with
  |n j=>
   show eqD (.int i) (.int j)=_;unfold eqD
   by_cases e:i=j
   ·subst e;simp
   ·simp[e]
  |t ms=>cases h
 | t ns =>
  cases y with
  |n j=>cases h
  |t ms=>
   show eqD (.tup _) (.tup _)=_;unfold eqD;rw[WZ]
   by_cases e:ns=ms
   ·subst e;simp
   ·simp[e]
def zb0(x:SKey):okE x.d 20=true:=by
 cases x with
 |n i=>exact zb1
 |t ns=>
  refine(okE_tup (k:=19)).mpr λd hd=>?_;obtain⟨x,_,rfl⟩:=zK.mp hd;exact zb1
section
variable {X:Cx}{pins:List (Addr × Obj)}{σ:St}{H:Hp}{s:Shared}{G:Option Addr}{Z:Addr->Prop}
def zj5{a b:V}{xs:List V}{its:List Value}(h:Vals (a::b::xs) its):∃p q r,its=p::q::r/\RelV a p/\RelV b q:=by
 cases h with
 |cons h0 t=>
  cases t with
  |cons h1 t1=>exact⟨_,_,_,rfl,h0,h1⟩
structure RowAt(X:Cx)(G:Option Addr)(Z:Addr->Prop)(H:Hp)(s:Shared)(x:SRow)(u p:Value)(rest:List Value):Prop where
 tup:∃q,Srt.Tup s.heap u p (q::rest)/\∃t,q=.int x.name t
 key:∃z,Rep X.K G Z H x.key.d z/\RelV z p
def QA(I:Inv X pins σ H s){x:SRow}{v:V}{u:Value}(r:Rep X.K G Z H x.d v)(q:RelV v u):∃p rest,RowAt X G Z H s x u p rest:=by
 unfold SRow.d at r;obtain⟨a,xs,rfl,sq,rs⟩:=r.tup_inv;have e:u=.ref a:=q;subst e;obtain⟨its,rv,pl,_⟩:=I.tuple sq.sq;obtain⟨z0,xs1,rfl,r0,rs1⟩:=rs.split;obtain⟨z1,xs2,rfl,r1,rs2⟩:=rs1.split;have e1:=r1.int_inv;subst e1;obtain⟨p0,p1,its2,rfl,h0,t,rfl⟩:=zj5 rv;exact⟨p0,its2,⟨_,⟨a,rfl,pl⟩,t,rfl⟩,z0,r0,h0⟩
def zk7(I:Inv X pins σ H s){x:SRow}{u p:Value}{rest:List Value}(R:RowAt X G Z H s x u p rest):s.TypeIs p (if x.key.num then "int" else "tuple"):=by
 obtain⟨z,r,q⟩:=R.key
 cases h:x.key with
 |n i=>
  rw[h] at r;have e:z=.int i:=r.int_inv;subst e;obtain⟨t,rfl⟩:=q;exact typeIs_int s i t
 |t ns=>
  rw[h] at r;obtain⟨a,xs,rfl,sq,rs⟩:=Rep.tup_inv (show Rep X.K G Z H (.tup (ns.map D.int)) z from r);have e:p=.ref a:=q;subst e;obtain⟨its,rv,⟨o,ho,hc,_⟩,_⟩:=I.tuple sq.sq;exact⟨o,ho,hc⟩
def zy1(I:Inv X pins σ H s){x y:SRow}{u v p q:Value}{ps qs:List Value}(hn:x.key.num=y.key.num)(hd:x.name≠y.name)(R:RowAt X G Z H s x u p ps)(R':RowAt X G Z H s y v q qs){A:Around}(hu:A.units+60<cLine) :
  ∃p ps q qs,Srt.Tup s.heap u p ps/\Srt.Tup s.heap v q qs/\Srt.Lex A s x.key.num (x.lt y) 0 (p::ps) (q::qs):=by
 obtain⟨n1,t1,tk1,rfl⟩:=R.tup;obtain⟨n2,t2,tk2,rfl⟩:=R'.tup;obtain⟨z1,r1,q1⟩:=R.key;obtain⟨z2,r2,q2⟩:=R'.key
 have E:=(ze9 I 20 x.key.d y.key.d z1 z2 p q A (zb0 _) (zb0 _) r1 r2 q1 q2 w5).1
 rw[zG5 hn] at E;refine⟨p,_,q,_,t1,t2,?_⟩
 by_cases e:x.key=y.key
 ·rw [xC e] at E;refine .alike E (.here ?_ ?_)
  ·have := EqAt.int_int (A := A) (s := s) x.name tk1 y.name tk2
   have e2:(x.name == y.name)=false:=by simpa using hd
   rw[e2] at this;exact this
  ·intro prog w E Q h;unfold SRow.lt at h;rw[if_pos e] at h;exact Srt.qh _ h
 ·rw [zU e] at E;refine .here E ?_;intro prog w E Q h;unfold SRow.lt at h;rw[if_neg e] at h
  cases hx:x.key with
  | n i =>
   cases hy:y.key with
   |n j=>
    rw[hx] at r1 h;rw[hy] at r2 h;have e1:z1=.int i:=r1.int_inv;have e2:z2=.int j:=r2.int_inv;subst e1 e2;obtain⟨a1,rfl⟩:=q1;obtain⟨a2,rfl⟩:=q2;exact Srt.qh _ h
   |t ms=>rw[hx,hy] at hn;cases hn
  | t ns =>
   cases hy:y.key with
   |n j=>rw[hx,hy] at hn;cases hn
   |t ms=>
    rw[hx] at r1 h;rw[hy] at r2 h;obtain⟨a,xs,rfl,sq,rs⟩:=Rep.tup_inv (show Rep X.K G Z H (.tup (ns.map D.int)) z1 from r1);obtain⟨b,ys,rfl,sq',rs'⟩:=Rep.tup_inv (show Rep X.K G Z H (.tup (ms.map D.int)) z2 from r2);have e1:p=.ref a:=q1;have e2:q=.ref b:=q2;subst e1 e2;obtain⟨its,rv,pl,_⟩:=I.tuple sq.sq;obtain⟨its',rv',pl',_⟩:=I.tuple sq'.sq;rw[vG rs] at rv;rw[vG rs'] at rv';show wpAny _ _ (oneLt' (false&&_) _ _) _ _ _
    exact Srt.ZY pl pl' (qO rv) (qO rv') w5 h
end
def Reps.getD{K:W.Frag}{G:Option Addr}{Z:Addr->Prop}{H:Hp}{α:Type}{enc:α->D}{rows:List α}{a0:α}{xs:List V}(rs:Reps K G Z H (rows.map enc) xs){i:Nat}(hi:i<rows.length):Rep K G Z H (enc (rows.getD i a0)) (xs.getD i .non):=by
 obtain⟨v,e,r⟩:=rs.get (i:=i) (d:=enc rows[i]) (by rw[zB,zj hi];rfl)
 rw[xb,xb,e,zj hi];exact r
theorem ZP{K:W.Frag}{G:Option Addr}{Z:Addr->Prop}{H:Hp}{α:Type}{enc:α->D}{rows:List α}{a0:α}{xs:List V}(rs:Reps K G Z H (rows.map enc) xs):∀{ls:List Nat},(∀i∈ls,i<rows.length)->Reps K G Z H ((ls.map λi=>rows.getD i a0).map enc) (ls.map λi=>xs.getD i .non)
 |[],_=>.nil
 |i::ls,hl=>.cons (rs.getD (hl i (zo ..))) (ZP rs λj hj=>hl j (zk _ hj))
def WM{α:Type}(a0:α)(rows:List α):(List.range rows.length).map (λi=>rows.getD i a0)=rows:=by
 apply List.ext_getElem
 ·simp
 ·intro i h1 h2;simp[xb,h2]
def zr8{A:AC}{X:Cx}(hK:X.K=A.K):vd A (QD X) zR4:=by
 rintro os n rho sg H ds vs es ws k Q I rs ⟨rows,f,rfl,hl,hf,hnd,q⟩ hQ;obtain⟨v,rfl,r⟩:=kC rs;obtain⟨a,xs,rfl,sq,rr⟩:=r.lst_inv
 have len:xs.length=rows.length:=by rw[rr.length,zn]
 have mem:∀i,i<rows.length->rows.getD i JU∈rows:=λi hi=>by
  rw[xb,zj hi];exact getElem_mem hi
 have dist:∀i j,i<rows.length->j<rows.length->i≠j->(rows.getD i JU).name≠(rows.getD j JU).name:=λi j hi hj hij e=>by
  have g:∀i (hi:i<rows.length),(rows.map SRow.name)[i]'(by simpa using hi)=(rows.getD i JU).name:=λi hi=>by
   rw[List.getElem_map,xb,zj hi];rfl
  have f:=xF.mp hnd
  rcases Nat.lt_or_gt_of_ne hij with l |l
  ·exact f i j (by simpa using hi) (by simpa using hj) l (by rw[g i hi,g j hj,e])
  ·exact f j i (by simpa using hj) (by simpa using hi) l (by rw[g i hi,g j hj,e])
 have num:∀i,i<rows.length->(rows.getD i JU).key.num=f:=λi hi=>hf _ (mem i hi);rw[<- hK] at rr
 refine⟨a,xs,f,λi j=>(rows.getD i JU).lt (rows.getD j JU),rfl,by rw[hK];exact sq.sq,w5,λi j hi hj hij=>SRow.lt_anti (by rw[num i w5,num j w5]) (dist i j w5 w5 hij),λi j l _ _ _ h1 h2=>SRow.lt_trans h1 h2,λi hi=>?_,λi j hi hj hij=>?_,λls hp hU l hl'=>?_⟩
 ·intro pins s σ u J ru
  obtain⟨p,rest,R⟩:=QA J (rr.getD (enc:=SRow.d) (a0:=JU) w5) ru
  obtain⟨z,t,_⟩:=R.tup;have ty:=zk7 J R
  rw[num i w5] at ty
  exact⟨p,_,t,ty⟩
 ·intro pins s σ u v J ru rv B hB
  obtain⟨p,ps,R⟩:=QA J (rr.getD (enc:=SRow.d) (a0:=JU) w5) ru
  obtain⟨p',ps',R'⟩:=QA J (rr.getD (enc:=SRow.d) (a0:=JU) w5) rv
  have c:=zy1 J (by rw[num i w5,num j w5]) (dist i j w5 w5 hij) R R' hB
  rw[num i w5] at c
  exact c
 ·rw [len] at hp hU
  have hls:∀i∈ls.toList,i<rows.length:=λi hi=>by
   have:=(hp.mem_iff).mp (Array.mem_toList_iff.mp hi)
   rwa [Array.mem_range] at this
  have hsz:ls.size=rows.length:=by rw[hp.size_eq,wU]
  rw[hK] at rr;refine hQ _ _ _ ⟨os,I.newLst (ZP (a0:=JU) rr hls) hl'⟩ (q _ ?_ ?_)
  ·have p1 : ls.toList.Perm (List.range rows.length) := by
    have:=xN.mp hp
    rwa [yv] at this
   have p2:=p1.map λi=>rows.getD i JU
   rwa [WM] at p2
  ·rw [xV, xF];intro i j hi hj hij
   have hi':i<ls.size:=by simpa using hi
   have hj':j<ls.size:=by simpa using hj
   have u:=hU i j hij w5
   have g:∀i (hi:i<ls.size),Srt.lab ls i=ls.toList[i]'(by simpa using hi):=λi hi=>by
    refine Srt.vI ?_
    rw[<- zG,zj (by simpa using hi)]
   rw[g i hi',g j hj'] at u;exact u
section
variable {A:AC}{X:Cx}{a:Expr}{ta:TD}{pos:Pos}
def zb9(d:D)(k:List D->Prop):Prop:=∃fs,(d=.lst fs\/d=.fz fs)/\k fs
@[simp] theorem xh9{fs:List D}{k}:zb9 (.lst fs) k↔k fs:=⟨fun⟨_,e,h⟩=>by rcases e with e |e<;>cases e;exact h,λh=>⟨_,.inl rfl,h⟩⟩
def xv4(ta:TD)(tl th:TOD):TD:=λrho n P=>ta rho n λd n1=>tl rho n1 λlo n2=>th rho n2 λhi n3=>zb9 d λfs=>P (.lst (Yu fs lo hi)) n3
@[simp] theorem xs3{ta tl th rho n P}:xv4 ta tl th rho n P=ta rho n λd n1=>tl rho n1 λlo n2=>th rho n2 λhi n3=>zb9 d λfs=>P (.lst (Yu fs lo hi)) n3:=rfl
def QZ{le he:Option Expr}{tl th:TOD}{p2:Pos}(hK:X.K=A.K)(ha:PD A X a ta)(hl:POD A X le tl)(hh:POD A X he th):PD A X (.Subscript a (.Slice le he none p2) pos) (xv4 ta tl th):=by
 exists (Ko zx4 ha hl hh).imp λsg H Q h=>by
   obtain⟨rho,n,P,ds,vs,I,ht,hQ⟩:=h;refine⟨rho,n,_,ds,vs,I,ht,λv H1 n1 d J1 h1=>⟨rho,n1,_,_,_,J1,h1,λlo H2 n2 J2 h2=>⟨rho,n2,_,_,_,J2,h2,λhi H3 n3 ⟨os,J3⟩ h3=>?_⟩⟩⟩;obtain⟨fs,hd,k⟩:=h3;obtain⟨J4,r⟩:=J3.pop;rw[hK]
   rcases hd with rfl |rfl
   ·obtain⟨l,xs,rfl,sq,rs⟩:=r.lst_inv;exact⟨l,xs,rfl,sq.sq,λp hp=>hQ _ _ n3 _ ⟨os,J4.newLst (Xv rs lo hi) hp⟩ k⟩
   ·obtain⟨l,xs,rfl,sq,rs⟩:=r.fz_inv;exact⟨l,xs,rfl,sq,λp hp=>hQ _ _ n3 _ ⟨os,J4.newLst (Xv rs lo hi) hp⟩ k⟩
def zU4(i:Nat):TD:=λrho n P=>∃es,rho[i]?=some (some (.own es))/\okE (.lst es) 20=true/\P (.bl (!jI es [])) n
@[simp] theorem zZ4{i rho n P}:zU4 i rho n P=∃es,rho[i]?=some (some (.own es))/\okE (.lst es) 20=true/\P (.bl (!jI es [])) n:=rfl
end
mutual
def xp1:D->PyData
 |.int i=>.int i
 |.tup ds=>.tuple (zJ6 ds)
 |_=>.none
def zJ6:List D->List PyData
 |[]=>[]
 |d::ds=>xp1 d::zJ6 ds
end
mutual
def okS:D->Nat->Bool
 |.int i,_=>decide (i.natAbs.log2<1920)
 |.tup ds,k=>match k with
  |0=>false
  |k+1=>xu7 ds k
 |_,_=>false
def xu7:List D->Nat->Bool
 |[],_=>true
 |d::ds,k=>okS d k&&xu7 ds k
end
mutual
def zE1:D->Nat
 |.tup ds=>zu6 ds+1
 |_=>1
def zu6:List D->Nat
 |[]=>0
 |d::ds=>zE1 d+zu6 ds
end
def zK7(d:D):Str:=(xp1 d).shown
section
variable {X:Cx}{pins:List (Addr × Obj)}{σ:St}{H:Hp}{s:Shared}{G:Option Addr}{Z:Addr->Prop}
end
def xm8:List D->(D->Prop)->Prop:=λes k=>∃ds,es=[.tup ds]/\okS (.tup ds) 15=true/\zE1 (.tup ds)<=8000/\k (.str (zK7 (.tup ds)))
@[simp] theorem xi1{ds k}:xm8 [.tup ds] k↔(okS (.tup ds) 15=true/\zE1 (.tup ds)<=8000/\k (.str (zK7 (.tup ds)))):=⟨fun⟨_,e,h⟩=>by cases e;exact h,λh=>⟨_,rfl,h⟩⟩
end L2
namespace L2
section
variable {X:Cx}{A:AC}
def zL9:RD2:=λd1 d2 k=>∃es i,d1=.tup es/\d2=.int i/\es≠[]/\0<=i/\es.length*i.toNat<=sizeLine/\k (.tup (replicate i.toNat es).flatten)
@[simp] theorem zW6{es i k}:zL9 (.tup es) (.int i) k↔(es≠[]/\0<=i/\es.length*i.toNat<=sizeLine/\k (.tup (replicate i.toNat es).flatten)):=⟨fun⟨_,_,e,e',h⟩=>by cases e;cases e';exact h,λh=>⟨_,_,rfl,rfl,h⟩⟩
end
end L2
namespace L2.Srt
open PySem PyProof.Rows
section
variable {prog:Program}{w:World}{A:Around}{E:Value->Shared->Prop}{s:Shared}
def Uz{l:Addr}{vs:List Value}{Q:List Value->Shared->Prop}(hl:IsTup s.heap l vs.toArray)
    (h:Q vs { s with heap:=(s.heap.push (seqObj "list" #[] 0)).update s.heap.objs.size (Obj.mapSeq (·++vs.toArray)) }) (hsz:vs.length<=sizeLine) :
    wpAny (model prog w) A (collect (.ref l)) Q E s:=by
  obtain⟨o,ho,hc,n,hd⟩:=id hl;unfold collect;refine zb (wpAny_runValue (codeAny_builtin entry_proto_collect' ?_))
  show wpAny _ _ (do again (.builtin "list.__iadd__" ⟨[<- newList [],.ref l],[]⟩)) _ _ s
  refine zb (wpAny_newList (zf ⟨Code.quiet_builtin _ x4,codeAny_builtin entry_list_iadd' ?_⟩))
  show wpAny _ _ (Builtin.List.listExtendWith (.ref s.heap.objs.size) (.ref l) (.ref s.heap.objs.size)) _ _ { s with heap:=s.heap.push (seqObj "list" #[] 0) };unfold Builtin.List.listExtendWith;have ho':(s.heap.push (seqObj "list" #[] 0)).get? l=some o:=ze _ ho;refine zb (wpAny_typeOf (T := "tuple") ⟨o,ho',hc⟩ ?_)
  have ht:(Value.type "tuple" == Value.type "tuple")=true:=by rfl
  rw[if_pos (by rw[ht];simp)]
  refine zb (listItems_at ho' hd ?_);refine zb (listItems_at (xs:=#[]) (n:=0) (zD _ rfl) rfl ?_)
  rw[if_neg (by simp)]
  refine zb (listUpdate_at (xs:=#[]) (n:=0) (zD _ rfl) rfl ?_ (wZ _) (by show(#[]++vs.toArray).size<=sizeLine+1;simp only[Array.size_append,zt,wK];lia))
  refine zf ?_
  show wpAny (model prog w) A (do
      let o <- load s.heap.objs.size
      match o.data with
      |.seq xs _=>pure xs.toList
      |_=>unsupported "internal:collect") Q E { s with heap:=(s.heap.push (seqObj "list" #[] 0)).update s.heap.objs.size (Obj.mapSeq (·++vs.toArray)) }
  refine zb (wpAny_load (get?_update_seq (zD _ rfl) _) ?_);show wpAny _ _ (pure ((#[]:Array Value)++vs.toArray).toList) Q E _
  rw[show((#[]:Array Value)++vs.toArray).toList=vs by simp]
  exact zf h
end
end L2.Srt
namespace L2
section
variable {X:Cx}{A:AC}{pos:Pos}{e:Expr}{t1:TAD}
def Kf(X:Cx):List V->Hp->VK->Prop:=λxs H Q=>∃(p:Addr) (ns:List Int),xs=[.ref p]/\SqL X.K H p (ns.map V.int)/\ns.length<64/\∀ms:List Int,ms.Perm ns->ms.Pairwise (·>=·)->∀l,H l=none->Q (.ref l) (upd H l (.lst (ms.map V.int)))
def Ky:List D->(D->Prop)->Prop:=λes k=>∃ns:List Int,es=[.lst (ns.map D.int)]/\ns.length<64/\∀ms:List Int,ms.Perm ns->ms.Pairwise (·>=·)->k (.lst (ms.map D.int))
def JN(hK:X.K=A.K):vd A (Kf X) Ky:=by
 rintro os n rho sg H ds vs es ws k Q I rs ⟨ns,rfl,hn,q⟩ hQ;obtain⟨v,rfl,r⟩:=kC rs;obtain⟨a,xs,rfl,sq,rr⟩:=r.lst_inv;have e:=vG rr;subst e
 exact⟨a,ns,rfl,by rw[hK];exact sq.sq,hn,λms h1 h2 l hl=>hQ _ _ _ ⟨os,I.newLst kQ hl⟩ (q ms h1 h2)⟩
def Jo{t:TA}{p kp cp:Pos}{j:Nat}(hg:Gl X "sorted")(hm:X.mg "sorted" = none)(ha:PA X [e] t)(he:starEach [e] X.env=(false,eval e X.env)::starEach [] X.env:=by rfl)(hpl:(backTo pos (starEach [e] X.env)).any (·.1)=false:=by rfl) :
  PE X (.Call (.Name "sorted" p) [e] [⟨some "reverse",.Constant (.bool true) j cp,kp⟩] pos) (tCB (Kf X) t):=by
 intro pins s σ H Q I h
 refine yp (WQ I hg hm qJ ?_ w6 w6)
 refine callWith_kw (env:=X.env) (e:=e) (rest:=[]) (thn (ha pos pins s σ H _ I h) λus s1 ⟨vs,H1,I1,r1,q1⟩=>?_) (by rw[he];rfl) hpl rfl rfl
 refine kws_cons (Constant_bool (kws_nil ?_));obtain⟨a,ns,rfl,hq,hn,q⟩:=q1
 cases r1 with
 |cons r rr=>
  cases rr;cases r;obtain⟨its,rv,pl,_⟩:=I1.list hq;have hl:=pl.isList
  have hsz:its.length=ns.length:=by have:=rv.length;simpa using this.symm
  refine sorted_ints_rev (b:=true) hl (qO rv) w5 λout ms hi hp hs=>?_
  obtain⟨e,he⟩:=sortedAll_at s1.heap its out;have hml:ms.length=ns.length:=hp.length_eq;have hf:H1 (s1.heap.objs.size+1)=none:=I1.hok.fresh (xl _);refine⟨.ref (s1.heap.objs.size+1),_,I1.laid (t':=s1.toks) (o:=.lst (ms.map V.int)) (λb u e=>sortedAll_old e) (xl _) ?_,rfl,q ms hp hs _ hf⟩
  exact⟨by rw[zn];exact zw w5 (yN (k:=64) w5),out.toList,e,qx hi,he⟩
def Jp{p kp cp:Pos}{j:Nat}(hK:X.K=A.K)(hm:X.mg "sorted" = none)(ha:PAD A X [e] t1)(hg:Gl X "sorted" := by rfl)(he:starEach [e] X.env=(false,eval e X.env)::starEach [] X.env:=by rfl)(hpl:(backTo pos (starEach [e] X.env)).any (·.1)=false:=by rfl) :
  PD A X (.Call (.Name "sorted" p) [e] [⟨some "reverse",.Constant (.bool true) j cp,kp⟩] pos) (zg3 Ky t1):=by
 exists 
   (Jo hg hm ha he hpl).imp λ_ _ _=>Qp (JN hK)
def zt0:TSD:=λ_ _ _=>False
def Wy{st:Stmt}:PSD A X st zt0:=by
 exists λpins s σ H E I h=>by
   obtain⟨rho,n,F,ds,vs,J,ht,ok⟩:=h;exact False.elim ht
@[simp] theorem xh7{F:EndsD}{rho:Rho}{n:Nat}:zt0 F rho n↔False:=Iff.rfl
end
mutual
def YZ:D->Bool
 |.st=>false
 |.own _=>false
 |.tup ds=>jY ds
 |.lst ds=>jY ds
 |.fz ds=>jY ds
 |.dct _ ds=>jY ds
 |_=>true
def jY:List D->Bool
 |[]=>true
 |d::ds=>YZ d&&jY ds
end
theorem WI:∀{ds:List D},jY ds=true↔∀d∈ds,YZ d=true
 |[]=>by simp[jY]
 |d::ds=>by simp[jY,WI (ds:=ds)]
def Kw{d:D}(h:YZ d=true):yL d=true:=by
 cases d<;>first |rfl |(simp[YZ] at h;done)
section
variable {K:W.Frag}{G G':Option Addr}{Z:Addr->Prop}{H:Hp}
mutual
theorem Rep.reG:∀(d:D) (v:V),YZ d=true->Rep K G Z H d v->Rep K G' Z H d v
 |.st,v,hn,h=>by simp[YZ] at hn
 |.own _,v,hn,h=>by simp[YZ] at hn
 |.tup ds,v,hn,h=>by
  unfold Rep at h ⊢;obtain⟨a,xs,e,q,r⟩:=h
  exact⟨a,xs,e,q,Reps.reG ds xs (by simpa [YZ] using hn) r⟩
 |.lst ds,v,hn,h=>by
  unfold Rep at h ⊢;obtain⟨a,xs,e,q,r⟩:=h
  exact⟨a,xs,e,q,Reps.reG ds xs (by simpa [YZ] using hn) r⟩
 |.fz ds,v,hn,h=>by
  unfold Rep at h ⊢;obtain⟨a,xs,e,q,r⟩:=h
  exact⟨a,xs,e,q,Reps.reG ds xs (by simpa [YZ] using hn) r⟩
 |.non,v,hn,h=>by unfold Rep at h ⊢;exact h
 |.bl b,v,hn,h=>by unfold Rep at h ⊢;exact h
 |.int b,v,hn,h=>by unfold Rep at h ⊢;exact h
 |.str b,v,hn,h=>by unfold Rep at h ⊢;exact h
 |.ty b,v,hn,h=>by unfold Rep at h ⊢;exact h
 |.dic,v,hn,h=>by unfold Rep at h ⊢;exact h
 |.dct ks ds,v,hn,h=>by
  unfold Rep at h ⊢;obtain⟨a,xs,e,q,r⟩:=h
  exact⟨a,xs,e,q,Reps.reG ds xs (by simpa [YZ] using hn) r⟩
 |.rf a,v,hn,h=>by unfold Rep at h ⊢;exact h
theorem Reps.reG:∀(ds:List D) (vs:List V),jY ds=true->Reps K G Z H ds vs->Reps K G' Z H ds vs
 |[],vs,hn,h=>by unfold Reps at h ⊢;exact h
 |d::ds,vs,hn,h=>by
  unfold Reps at h ⊢;obtain⟨v,r,e,q,t⟩:=h
  have hn':YZ d=true/\jY ds=true:=by simpa [jY] using hn
  exact⟨v,r,e,Rep.reG d v hn'.1 q,Reps.reG ds r hn'.2 t⟩
end
end
def Yn:Option D->Option D
 |some d=>if YZ d=true then some d else none
 |none=>none
def zd3{d:D}(h:YZ d=true):Yn (some d)=some d:=by show(if YZ d=true then some d else none)=_;rw[if_pos h]
def vh(rho:Rho):Rho:=rho.map Yn
def Xc{rho:Rho}{j:Nat}{d:D}(h:(vh rho)[j]?=some (some d)):rho[j]?=some (some d)/\YZ d=true:=by
 unfold vh at h;rw[zB] at h
 cases q:rho[j]? with
 |none=>rw[q] at h;cases h
 | some o =>
  rw[q] at h
  cases o with
  |none=>cases h
  |some c=>
   have h':(if YZ c=true then some c else none)=some d:=zF h
   by_cases hc:YZ c=true
   ·rw[if_pos hc] at h';cases h';exact⟨rfl,hc⟩
   ·rw[if_neg hc] at h';cases h'
def zL1(i:Nat)(t:TF)(t1:TAD)(t2:TSD):TSD:=λF rho n=>∃ns:List Int,i<rho.length/\n<64/\t1 rho n λes n1=>∃j:Int,es=[wC ns,.int j]/\n1=n/\t es n λd n2=>∃zs:List Int,d=.lst (zs.map D.int)/\zs.length=n/\(∀x∈zs,0<=x)/\(∀x,zs[1]?=some x->x<2147483647) /\
 t2 { nx:=λrho' _=>F.nx (vh rho') n,rt:=λd _=>kJ d=true/\F.rt d n,bk:=λrho' _=>F.bk (vh rho') n,ct:=λrho' _=>F.ct (vh rho') n } ((vh rho).set i (some .st)) n
def Jw{i:Nat}{t:TF}{t1:TAD}{t2:TSD}{F:EndsD}{rho:Rho}{n:Nat}(ns:List Int)(hi:i<rho.length)(j:Int)(ht:t1 rho n λes n1=>es=[wC ns,.int j]/\n1=n)
  (ht1:∀(P P':List D->Nat->Prop),(∀es n1,P es n1->P' es n1)->t1 rho n P->t1 rho n P')
  (h : t [wC ns, .int j] n λd n2 => ∃ zs : List Int, d = .lst (zs.map D.int) /\ zs.length = n /\ (∀ x ∈ zs, 0 <= x) /\ (∀ x, zs[1]? = some x -> x < 2147483647) /\
   t2 { nx:=λrho' _=>F.nx (vh rho') n,rt:=λd _=>kJ d=true/\F.rt d n,bk:=λrho' _=>F.bk (vh rho') n,ct:=λrho' _=>F.ct (vh rho') n } ((vh rho).set i (some .st)) n) (h64:n<64:=by decide):zL1 i t t1 t2 F rho n:=
 ⟨ns,hi,h64,ht1 _ _ (λes n1 ⟨e1,e2⟩=>⟨j,e1,e2,by rw[e1];exact h⟩) ht⟩
section
variable {A:AC}{X:Cx}{e:Expr}{es:List Expr}{t1:TAD}{t2:TSD}{pos p:Pos}
def QN{x g:Str}{i:Nat}{t:TF}{kk:Nat}{pos' spos:Pos}{rest:List Stmt}(hG:A.G=none)(hN:X.N.Nodup)(hi:X.N[i]?=some x)(hx:Loc X.env.scope x)(F:Fn X.prog X.w X.K X.mg X.base g kk 2 t)(hr:Room kk X.A)(hK:X.K=A.K)
  (ha:PAD A X (e::es) t1) (h2:∀(c:Addr) (Z:Addr->Prop) (H0:Hp),JX ⟨A.K,some c,Z,H0⟩ X rest t2) (hg:Gl X g:=by rfl) (hdb:(g == ("__debug__" : Str))=false:=by decide) (he:starEach (e::es) X.env=(false,eval e X.env)::starEach es X.env:=by rfl) (hpl:(backTo pos (starEach es X.env)).any (·.1)=false:=by rfl)
  (hs:swapsWith (.Call (.Name g p) (e::es) [] pos) (some (.Name x pos')) spos.line X.env=pure false:=by rfl) (hf:X.fn x=true\/X.env.scope.names.lookup x=some .local:=by first |exact .inl rfl |exact .inr rfl |assumption) :
  JX A X (.Assign [.Name x pos'] (.Call (.Name g p) (e::es) [] pos) spos::rest) (zL1 i t t1 t2):=by
 exists (by
   obtain⟨f,fd,ps,f1,f2,f3,f4⟩:=F.ex;have c1:=QP (pos:=spos) hN hi hx (QY (p:=p) f1 hr hg f2 f3 f4 .nil za5 ha hdb he hpl) hs hf
   have c2:PSs X rest (λE' sg' H'=>∃c Z H0,sOf ⟨A.K,some c,Z,H0⟩ t2 E' sg' H'):=λpins s' sg' H' D I q=>by
    obtain⟨c,Z,H0,q⟩:=q;exact h2 c Z H0 pins s' sg' H' D I q
   refine(Kj c1 c2).imp λE sg H h=>?_;obtain⟨rho,n,F,ds,vs,I,⟨ns,hi',h64,ht⟩,ok⟩:=h;refine⟨rho,n,_,ds,vs,I,ht,λws H' n' es' ⟨os',J⟩ hl k=>?_⟩;obtain⟨j,rfl,rfl,k⟩:=k;obtain⟨J1,rs⟩:=J.split hl;obtain⟨v1,v2,rfl,r1,r2⟩:=QB rs;have r1':Rep A.K none (λa=>H' a≠none/\¬ ∃o u,H' a=some (.frz o u)) H' (wC ns) v1:=Jk r1 λa o u _ e=>⟨λz=>z.2 ⟨o,u,e⟩,e⟩
   have r2':Rep A.K none (λa=>H' a≠none/\¬ ∃o u,H' a=some (.frz o u)) H' (.int j) v2:=by rw[r2.int_inv];exact Rep.ofS (d:=.int j) rfl
   rw[xX,hK]
   refine⟨none,λa=>H' a≠none/\¬ ∃o u,H' a=some (.frz o u),n',_,_,rfl,.cons r1' (.cons r2' .nil),⟨λb e=>(by cases e),λa c e=>(by rw[kZ h64] at e;cases e)⟩,λb e=>(by cases e),λb z=>z.1,k,λv H2 n2 d fr st gw r q=>?_⟩
   have fr:∀a o,none≠some a->H' a=some o->H2 a=some o:=λa o g=>fr a o g (kZ h64);obtain⟨zs,rfl,q1,q2,q3,q⟩:=q;obtain⟨c,xs,rfl,sq,rr⟩:=r.lst_inv;rw[qe rr] at sq
   have hc:H' c=none:=by
    cases z:H' c with
    |none=>rfl
    |some o=>
     have z2:=fr c o (by simp) z
     rw[sq.2] at z2;cases z2
     exact absurd ⟨by rw[z];simp,fun⟨o,u,z3⟩=>by rw[z] at z3;cases z3⟩ λz=>sq.1 (.inl z)
   have ne:∀{a:Addr}{o:HO},H' a=some o->a≠c:=λ{a o} e h=>by rw[h,hc] at e;cases e
   have back:∀{m:Nat}{os:List (Nat × Addr)}{rho' rho2:Rho}{sg':St}{H3:Hp}{ds3:List D}{vs3:List V},AmO ⟨A.K,some c,λb=>Zof A os' b\/b=c,H2⟩ os m rho' sg' H3 ds3 vs3->rho2.length=sg'.length->(∀j d,rho2[j]?=some (some d)->∃v,sg'[j]?=some (some v)/\Rep A.K A.G (Zof A []) H3 d v)->AmO A [] n' rho2 sg' H3 ds vs:=λ{m os rho' rho2 sg' H3 ds3 vs3} I3 hl2 hs2=>by
    have keep:∀a o,H' a=some o->H3 a=some o:=λa o e=>I3.fr a o (λz=>ne e (zF z).symm) (fr a o (by simp) e)
    refine⟨hl2,λj d e=>?_,?_,.nil,λp hp=>(by simp at hp),⟨λb e=>(by rw[hG] at e;cases e),λa c e=>(by rw[kZ h64] at e;cases e)⟩,J1.gz,λa o z e=>keep a o (J1.fr a o z e),J1.z0⟩
    ·obtain⟨v,e1,e2⟩:=hs2 j d e;exact⟨v,e1,SlotR.of e2⟩
    ·refine Reps.mono (λa _ z => ?_) (λa o _ e => keep a o e) _ _ J1.pend
     rcases z with z |⟨p,hp,_⟩
     ·exact .inl z
     ·simp at hp
   have scr:∀{m:Nat}{os:List (Nat × Addr)}{rho':Rho}{sg':St}{H3:Hp}{ds3:List D}{vs3:List V},AmO ⟨A.K,some c,λb=>Zof A os' b\/b=c,H2⟩ os m rho' sg' H3 ds3 vs3->AmO A [] n' (vh rho') sg' H3 ds vs:=λ{m os rho' sg' H3 ds3 vs3} I3=>by
    refine back I3 (by unfold vh;rw[zn];exact I3.len) λj d e=>?_
    obtain⟨e,hn⟩:=Xc e;obtain⟨v,e1,e2⟩:=I3.slot j d e;have e3:=SlotR.rep (Kw hn) e2;refine⟨v,e1,Rep.reG d v hn (Rep.mono (λa _ z=>?_) (λa o _ e=>e) d v e3)⟩
    rcases z with z |⟨p,hp,_⟩
    ·exact .inl (.inl (.inl z))
    ·simp at hp
   have hl0:rho.length=sg.length:=J1.len;refine⟨c,λb=>Zof A os' b\/b=c,H2,(vh rho).set i (some .st),n',_,[],[],⟨[],?_⟩,q,?_⟩
   ·refine ⟨by simp [vh, hl0], λj d e => ?_, .nil, .nil, λp hp => by simp at hp, ⟨λb e => ?_, λa c e => (by rw [kZ h64] at e; cases e)⟩, λb e => ?_, λb o _ e => e, λb e => .inl ?_⟩
    ·by_cases hj : j = i
     ·subst hj
      rw[xi (by simp[vh];lia)] at e
      cases e
      exact⟨.ref c,xi w5,SlotR.of (by unfold Rep;exact⟨c,rfl,rfl⟩)⟩
     ·rw [xz (Ne.symm hj)] at e;obtain⟨e,hn⟩:=Xc e;obtain⟨v,e1,e2⟩:=J1.slot j d e;have e3:=SlotR.rep (Kw hn) e2
      refine⟨v,by rw[xz (Ne.symm hj)];exact e1,SlotR.of (Rep.reG d v hn (Rep.mono (λa ha z=>?_) (λa o _ e=>fr a _ (by simp) e) d v e3))⟩
      rcases z with (z |z) |⟨p,hp,_⟩
      ·exact z
      ·exact absurd (z ▸ hc) ha
      ·simp at hp
    ·cases e
     exact⟨zs,0,0,sq.2,by rw[zd5 h64];exact q1,q2,q3⟩
    ·exact .inr (zF e).symm
    ·rcases e with e | e
     ·have := J1.zH b e
      cases z:H' b with
      |none=>exact absurd z this
      |some o=>
       show H2 b≠none
       rw[fr b o (by simp) z];simp
     ·show H2 b≠none;rw[e,sq.2];simp
   ·refine ⟨λrho3 n3 sg3 H3 ⟨os3, I3⟩ q => ?_, λd n3 v rho3 sg3 H3 ⟨os3, I3⟩ q => ?_, λrho3 n3 sg3 H3 ⟨os3, I3⟩ q => ?_, λrho3 n3 sg3 H3 ⟨os3, I3⟩ q => ?_⟩
    ·skip
     exact ok.nx _ _ _ _ ⟨[],scr I3⟩ q
    ·obtain ⟨hd, q⟩ := q
     have I4:AmO A [] n' (replicate sg3.length none) sg3 H3 ds vs:=back I3 (by simp) λj d e=>by
      rw[xE] at e
      split at e<;>cases e
     refine ok.rt _ _ _ _ _ _ ⟨[],I4.push ?_⟩ q;rw[I3.pop.2.toS hd];exact Rep.ofS hd
    ·skip
     exact ok.bk _ _ _ _ ⟨[],scr I3⟩ q
    ·skip
     exact ok.ct _ _ _ _ ⟨[],scr I3⟩ q)
end
def zp9(ks:List Key)(k:Key):Bool:=ks.any λj=>decide (j=k)
def Xw(ks:List Key)(k:Key):List Key:=if zp9 ks k=true then ks else ks++[k]
def QK{α:Type}(ks:List Key)(xs:List α)(k:Key)(x:α):List α:=if zp9 ks k=true then List.zipWith (λj y=>if j=k then x else y) ks xs else xs++[x]
theorem zc7:∀(ks:List Key) (xs:List V) (k:Key),ks.length=xs.length->((Yk ks xs).any λkv=>decide (kv.1=k))=zp9 ks k
 |[],xs,k,_=>rfl
 |j::ks,[],k,h=>by simp at h
 |j::ks,x::xs,k,h=>by
  have ih:=zc7 ks xs k (by simpa using h)
  show(decide (j=k)||(Yk ks xs).any _)=(decide (j=k)||zp9 ks k);rw[ih]
theorem zc6:∀(ks:List Key) (xs:List V) (k:Key) (v:V),(Yk ks xs).map (λkv=>if kv.1=k then(kv.1,v) else kv)=Yk ks (List.zipWith (λj y=>if j=k then v else y) ks xs)
 |[],xs,k,v=>by simp[Yk]
 |j::ks,[],k,v=>by simp[Yk]
 |j::ks,x::xs,k,v=>by
  have ih:=zc6 ks xs k v
  show(if j=k then(j,v) else(j,x))::(Yk ks xs).map _=(j,if j=k then v else x)::Yk ks _
  rw[ih]
  by_cases e:j=k<;>simp[e]
def zp3{ks:List Key}{xs:List V}(k:Key)(v:V)(h:ks.length=xs.length):Yk ks xs++[(k,v)]=Yk (ks++[k]) (xs++[v]):=by
 unfold Yk;rw[List.zipWith_append h];rfl
def zF4{ks:List Key}{xs:List V}(k:Key)(v:V)(h:ks.length=xs.length):Xx (Yk ks xs) k v=Yk (Xw ks k) (QK ks xs k v):=by
 unfold Xx Xw QK;rw[zc7 ks xs k h]
 by_cases e:zp9 ks k=true
 ·rw[if_pos e,if_pos e,if_pos e,zc6]
 ·rw[if_neg e,if_neg e,if_neg e,zp3 k v h]
def put_len{α:Type}{ks:List Key}{xs:List α}(k:Key)(x:α)(h:ks.length=xs.length):(Xw ks k).length=(QK ks xs k x).length:=by
 unfold Xw QK
 split
 ·rw[List.length_zipWith,<- h];lia
 ·simp[h]
def zN5{α:Type}{ks:List Key}{xs:List α}(k:Key)(x:α)(h:ks.length=xs.length):(Xw ks k).length<=ks.length+1:=by
 unfold Xw
 split<;>simp
section
variable {K:W.Frag}{G:Option Addr}{Z:Addr->Prop}{H:Hp}
theorem Reps.zipPut{d:D}{v:V}(r:Rep K G Z H d v)(k:Key):∀{ks:List Key}{es:List D}{xs:List V},Reps K G Z H es xs->Reps K G Z H (List.zipWith (λj y=>if j=k then d else y) ks es) (List.zipWith (λj y=>if j=k then v else y) ks xs)
 |[],es,xs,h=>.nil
 |j::ks,[],xs,h=>by rw[h.nil_inv];exact .nil
 |j::ks,e::es,xs,h=>by
  obtain⟨x,xr,rfl,q,t⟩:=h.split;have ih:=Reps.zipPut r k (ks:=ks) t
  show Reps K G Z H ((if j=k then d else e)::_) ((if j=k then v else x)::_)
  by_cases z:j=k
  ·rw[if_pos z,if_pos z];exact .cons r ih
  ·rw[if_neg z,if_neg z];exact .cons q ih
def Reps.put{d:D}{v:V}{ks:List Key}{es:List D}{xs:List V}(h:Reps K G Z H es xs)(r:Rep K G Z H d v)(k:Key):Reps K G Z H (QK ks es k d) (QK ks xs k v):=by
 unfold QK
 split
 ·exact Reps.zipPut r k h
 ·exact h.append (.cons r .nil)
end
def Um:D->Option Key
 |.int i=>some (Sum.inl i)
 |.str x=>some (Sum.inr x)
 |_=>none
@[simp] theorem zR3{i:Int}:Um (.int i)=some (Sum.inl i):=rfl
@[simp] theorem zR2{i:Str}:Um (.str i)=some (Sum.inr i):=rfl
def WS{K:W.Frag}{G:Option Addr}{Z:Addr->Prop}{H:Hp}{d:D}{v:V}{k:Key}(h:Rep K G Z H d v)(e:Um d=some k):v=kV k:=by
 cases d with
 |int i=>cases e;exact h.int_inv
 |str i=>cases e;exact h.toS rfl
 |_=>simp[Um] at e
section
variable {A:AC}{X:Cx}{tg iter kx vx:Expr}{ifs:List Expr}{scope:Scope}{own M:List Str}{pos:Pos}{it:TID}{g:TGD}{tt:TBD}{tk tv:TD}
def zf8(own:Nat)(g:TGD)(tt:TBD)(tk tv:TD)(rho:Rho)(P:D->Nat->Prop)(items:List D)(n1:Nat):Prop:=items.length<=sizeLine/\∃J:Nat->List Key->List D->Nat->Prop,J 0 [] [] n1 /\
 (∀i d ks es n,items[i]?=some d->J i ks es n->g d (replicate own none++rho) λrho'=>rho'.drop own=rho/\tt rho' n λc n2=>if c=true then tk rho' n2 λdk n3=>tv rho' n3 λdv n4=>∃k,Um dk=some k/\J (i+1) (Xw ks k) (QK ks es k dv) n4 else J (i+1) ks es n2) /\
 ∀ks es n,J items.length ks es n->P (.dct ks es) n
def zg1(it:TID)(own:Nat)(g:TGD)(tt:TBD)(tk tv:TD):TD:=λrho n P=>it rho n (zf8 own g tt tk tv rho P)
@[simp] theorem zZ9{it own g tt tk tv rho n P}:zg1 it own g tt tk tv rho n P=it rho n (zf8 own g tt tk tv rho P):=rfl
def AmO.newDct{os n rho sg H ds vs}{ks:List Key}{es:List D}{xs:List V}{p:Addr}(I:AmO A os n rho sg H ds vs)(r:Reps A.K A.G (Zof A os) H es xs)(hp:H p=none):AmO A os n rho sg (upd H p (.dK (Yk ks xs))) (.dct ks es::ds) (.ref p::vs):=by
 have hf:∀a u,H a=some u->upd H p (.dK (Yk ks xs)) a=some u:=λa u e=>by
  rw[wr λz=>by rw[z,hp] at e;cases e];exact e
 refine⟨I.len,λi d e=>?_,?_,I.nd,λq hq=>?_,I.st.mono (λ_ _ z=>z) (λa u _ e=>hf a u e) (λa u _ e=>hf a u e) (λ_ _ z=>z) (λa u _ e=>hf a u e),I.gz,λa u h e=>hf a u (I.fr a u h e),I.z0⟩
 ·obtain⟨v,e1,e2⟩:=I.slot i d e;exact⟨v,e1,SlotR.mono (λ_ _ z=>z) (λa u _ e=>hf a u e) (λa xs m q=>⟨m,hf a _ q⟩) _ _ e2⟩
 ·refine .cons ?_ (Reps.mono (λ_ _ z=>z) (λa u _ e=>hf a u e) _ _ I.pend);unfold Rep;refine⟨p,xs,rfl,⟨λz=>?_,yH⟩,Reps.mono (λ_ _ z=>z) (λa u _ e=>hf a u e) _ _ r⟩;exact absurd hp (I.zH p z)
 ·obtain ⟨f1, f2, f3⟩ := I.fresh q hq;refine⟨f1,f2,?_⟩
  cases e:H q.2 with
  |none=>exact absurd e f3
  |some u=>rw[hf _ _ e];simp
def Qm{sg:St}{H:Hp}{Q:VK}{m:Nat}(h:tOf A (zg1 it m g tt tk tv) sg H Q):zs5 (iOf A it) m (gOf A m g) (Vt A tt) (tOf A tk) (tOf A tv) sg H Q:=by
 obtain⟨rho,n,P,ds,vs,I,ht,hQ⟩:=h;refine⟨rho,n,_,ds,vs,I,ht,λJ H' n' items es ws I1 hl hJ k=>?_⟩;obtain⟨hsz,W,w0,turn,fin⟩:=k
 refine⟨λi mm acc H=>mm=items.length-i/\i<=items.length/\∃ks accD xs n,acc=Yk ks xs/\ks.length=xs.length/\ks.length<=i/\xs.length=accD.length/\Am A n rho sg H (es++(accD++ds)) (ws++(xs++vs))/\W i ks accD n,
  ⟨items.length,rfl,wZ _,[],[],[],n',rfl,rfl,zd _,rfl,I1,w0⟩,?_⟩
 rintro i mm acc H3 ⟨rfl,hi,ks,accD,xs,n3,rfl,hkl,hai,hal,⟨os,I3⟩,w3⟩
 have hlk:(Yk ks xs).length=ks.length:=by unfold Yk;rw[List.length_zipWith];lia
 obtain⟨j1,j2⟩:=hJ n3 rho sg H3 (accD++ds) (xs++vs) i ⟨os,I3⟩
 by_cases hlt:i<items.length
 ·refine .inr ⟨(j1 items[i] (by simp [hlt])).1, by lia, λx H4 y => ?_⟩
  obtain⟨os4,I4⟩:=(j1 items[i] (by simp[hlt])).2 x H4 y
  refine⟨replicate m none++rho,n3,_,items[i],es++(accD++ds),ws++(xs++vs),⟨_,I4.front m⟩,turn i items[i] ks accD n3 (by simp[hlt]) w3,λrho' sg' ⟨os5,I5⟩ e5 k5=>?_⟩
  obtain⟨k5,k6⟩:=k5
  have e6:sg'.drop m=sg:=by rw[e5,yg (by simp)]
  refine⟨e6,rho',n3,_,es++(accD++ds),ws++(xs++vs),⟨os5,I5⟩,k6,λc H6 n6 ⟨os6,I6⟩ k7=>?_⟩
  cases c with
  |false=>
   obtain⟨os7,I7⟩:=I6.back k5 e6
   exact⟨items.length-(i+1),w5,rfl,hlt,ks,accD,xs,n6,rfl,hkl,w5,hal,⟨os7,I7⟩,k7⟩
  |true=>
   rw[if_pos rfl] at k7 ⊢;refine⟨rho',n6,_,es++(accD++ds),ws++(xs++vs),⟨os6,I6⟩,k7,λvk H8 n8 dk I8 k8=>?_⟩;refine⟨rho',n8,_,dk::(es++(accD++ds)),vk::(ws++(xs++vs)),I8,k8,λv H9 n9 d ⟨os9,I9⟩ k9=>?_⟩;obtain⟨kk,ek,w9⟩:=k9;obtain⟨os10,I10⟩:=I9.back k5 e6;obtain⟨I11,rv⟩:=I10.pop;obtain⟨I12,rk⟩:=I11.pop;obtain⟨I13,r1⟩:=I12.split hl;obtain⟨I14,r2⟩:=I13.split hal
   refine⟨kk,items.length-(i+1),WS rk ek,w5,rfl,hlt,Xw ks kk,QK ks accD kk d,QK ks xs kk v,n9,zF4 kk v hkl,put_len kk v hkl,?_,?_,⟨os10,(I14.join (r2.put rv kk)).join r1⟩,w9⟩
   ·have:=zN5 kk v hkl;lia
   ·rw[<- put_len kk v hkl,<- put_len kk d w5]
 ·have e : i = items.length := by lia
  subst e
  refine .inl ⟨j2 (zd _),w5,λD hD=>?_⟩
  obtain⟨I4,r1⟩:=I3.split hl;obtain⟨I5,r2⟩:=I4.split hal;exact hQ _ _ n3 _ ⟨os,I5.newDct r2 hD⟩ (fin ks accD n3 w3)
def zn5(ok:CompOk X scope M)(hc:X.calm=true)(hi:PID A X tg iter it)(hg:∀C s2 H2 fp,PGD A (xZ X scope own M C s2 H2 fp) own.length tg g)(ht:∀C s2 H2 fp,PTs (xZ X scope own M C s2 H2 fp) ifs (Vt A tt))
  (hk:∀C s2 H2 fp,PD A (xZ X scope own M C s2 H2 fp) kx tk) (he:∀C s2 H2 fp,PD A (xZ X scope own M C s2 H2 fp) vx tv) (hs:∀x,foldedSetIterable iter X.env x=pure x:=by intro _;rfl):PD A X (.DictComp kx vx [⟨tg,iter,ifs,0⟩] scope pos) (zg1 it own.length g tt tk tv):=by exists (zn2 ok hc hi hg ht hk he hs).imp λ_ _ _=>Qm
end
def atK:List Key->List D->Key->Option D
 |k::ks,d::ds,x=>if k=x then some d else atK ks ds x
 |_,_,_=>none
def zi4{K:W.Frag}{G:Option Addr}{Z:Addr->Prop}{H:Hp}:∀{ks:List Key}{ds:List D}{xs:List V}{x:Key},Reps K G Z H ds xs ->
  (∀d,atK ks ds x=some d->∃v,YD (Yk ks xs) x=some v/\Rep K G Z H d v)/\(atK ks ds x=none->YD (Yk ks xs) x=none)
 |[],ds,xs,x,r=>⟨λd h=>by simp[atK] at h,λ_=>rfl⟩
 |k::ks,[],xs,x,r=>by rw[r.nil_inv];exact⟨λd h=>by simp[atK] at h,λ_=>rfl⟩
 | k :: ks, e :: ds, xs, x, r => by
  obtain⟨v,rs,rfl,q,t⟩:=r.split;obtain⟨i1,i2⟩:=zi4 (ks:=ks) (x:=x) t;unfold atK
  by_cases c:k=x
  ·rw [if_pos c]
   exact⟨λd h=>by cases h;exact⟨v,jt (p:=(k,v)) c,q⟩,λh=>by cases h⟩
  ·rw[if_neg c];have e2:YD (Yk (k::ks) (v::rs)) x=YD (Yk ks rs) x:=ju (p:=(k,v)) c;rw[e2];exact⟨i1,i2⟩
section
variable {A:AC}{X:Cx}{a b:Expr}{ta tb:TD}{pos:Pos}
def rDx:R2:=λx y H Q=>∃a v,x=.ref a/\DGet H a y (some v)/\Q v H
def xd6:RD2:=λd1 d2 k=>∃ks ds x d,d1=.dct ks ds/\Um d2=some x/\atK ks ds x=some d/\k d
@[simp] theorem QG{ks ds x k}:xd6 (.dct ks ds) (.int x) k↔∃d,atK ks ds (Sum.inl x)=some d/\k d:=⟨fun⟨_,_,_,d,e,e',h⟩=>by cases e;cases e';exact⟨d,h⟩,fun⟨d,h⟩=>⟨_,_,_,d,rfl,rfl,h⟩⟩
def xd1:kN A rDx xd6:=by
 rintro os n rho sg H ds vs d1 d2 v1 v2 k Q I ⟨ks,es,x,d,rfl,hk,hx,q⟩ hQ;obtain⟨I1,r2⟩:=I.pop;obtain⟨I2,r1⟩:=I1.pop;have e2:=WS r2 hk;subst e2;unfold Rep at r1;obtain⟨a,xs,rfl,⟨hz,hH⟩,rs⟩:=r1;obtain⟨v,hv,rv⟩:=(zi4 rs).1 d hx
 exact⟨a,v,rfl,by rw[<- hv];exact DGet.k hH,hQ _ _ _ ⟨os,I2.push rv⟩ q⟩
def zu1(hu:X.A.units+1<cLine)(ha:PD A X a ta)(hb:PD A X b tb)(hs:xa7 b):PD A X (.Subscript a b pos) (dOp xd6 ta tb):=by exists (QW hu ha hb hs).imp λ_ _ _=>Wc (r:=rDx) xd1
def xe0(neg:Bool):R2:=λy x H Q=>∃a o,x=.ref a/\DGet H a y o/\Q (.bl (o.isSome != neg)) H
def zu3(hu:X.A.units+1<cLine):OpR X (compareOp .In) (xe0 false):=by
 intro pins s σ H x y v u Q I rx ry h;obtain⟨a,o,rfl,g,q⟩:=h;cases(show u=Value.ref a from ry)
 exact xC5 hu I g rx λs' I'=>⟨.bl (o.isSome != false),H,I',by simp;rfl,q⟩
def za7(hu:X.A.units+1<cLine):OpR X (compareOp .NotIn) (xe0 true):=by
 intro pins s σ H x y v u Q I rx ry h;obtain⟨a,o,rfl,g,q⟩:=h;cases(show u=Value.ref a from ry)
 exact zG8 hu I g rx λs' I'=>⟨.bl (o.isSome != true),H,I',by simp;rfl,q⟩
def xd7(neg:Bool):RD2:=λd1 d2 k=>∃ks ds x,d2=.dct ks ds/\Um d1=some x/\k (.bl ((atK ks ds x).isSome != neg))
@[simp] theorem zX2{neg ks ds x k}:xd7 neg (.int x) (.dct ks ds) k↔k (.bl ((atK ks ds (Sum.inl x)).isSome != neg)):=⟨fun⟨_,_,_,e,e',h⟩=>by cases e;cases e';exact h,λh=>⟨_,_,_,rfl,rfl,h⟩⟩
def xx7(i:Nat)(g:TGD):TSD:=λF rho n=>∃es d,rho[i]?=some (some (.own (es++[d])))/\g d (rho.set i (some (.own es))) λrho'=>F.nx rho' n
@[simp] theorem xq8{i g F rho n}:xx7 i g F rho n=∃es d,rho[i]?=some (some (.own (es++[d])))/\g d (rho.set i (some (.own es))) λrho'=>F.nx rho' n:=rfl
def zy0:TSD:=λF rho n=>F.ct rho n
@[simp] theorem xf9{F rho n}:zy0 F rho n=F.ct rho n:=rfl
def zm1:PSD A X (.Continue pos) zy0:=by
 exists VO.imp λE sg H h=>by
   obtain⟨rho,n,F,ds,vs,I,ht,ok⟩:=h;exact ok.ct _ _ _ _ I ht
def zL0(i:Nat)(tc:TBD)(t u:TAD):TSD:=λF rho n=>i<rho.length/\tc rho n λc n0=>if c=true then t rho n0 (λes n1=>es.length<=sizeLine/\F.nx (rho.set i (some (.own es))) n1) else u rho n0 λes n1=>es.length<=sizeLine/\F.nx (rho.set i (some (.own es))) n1
@[simp] theorem zW4{i tc t u F rho n}:zL0 i tc t u F rho n=(i<rho.length/\tc rho n λc n0=>if c=true then t rho n0 (λes n1=>es.length<=sizeLine/\F.nx (rho.set i (some (.own es))) n1) else u rho n0 λes n1=>es.length<=sizeLine/\F.nx (rho.set i (some (.own es))) n1):=rfl
end
section
variable {X:Cx}{A:AC}
def zS6:D->Bool
 |.tup _=>true
 |.lst _=>true
 |_=>false
def xn2:List D->(D->Prop)->Prop:=λes k=>∃d,es=[d,.tup [.ty "tuple",.ty "list"]]/\XQ d=true/\k (.bl (zS6 d))
@[simp] theorem xi9{d k}:xn2 [d,.tup [.ty "tuple",.ty "list"]] k↔(XQ d=true/\k (.bl (zS6 d))):=⟨fun⟨_,e,h⟩=>by cases e;exact h,λh=>⟨_,rfl,h⟩⟩
end
section
variable {A:AC}{X:Cx}{a b c:Expr}{ta tb tc:TD}{pos:Pos}
end
def zu7(rho:Rho):Bool:=rho.all λo=>match o with
 |some d=>yL d
 |none=>true
def xc5(i j:Nat)(tb:TD):TSD:=λF rho n=>i<rho.length/\j<rho.length/\zu7 rho=true/\n<64/\tb rho n λd n1=>n1<64/\F.nx ((rho.set i (some (.own []))).set j (some d)) n1
@[simp] theorem xf4{i j tb F rho n}:xc5 i j tb F rho n=(i<rho.length/\j<rho.length/\zu7 rho=true/\n<64/\tb rho n λd n1=>n1<64/\F.nx ((rho.set i (some (.own []))).set j (some d)) n1):=rfl
section
variable {A:AC}{X:Cx}{b:Expr}{tb:TD}{pos:Pos}
end
end L2
namespace L2
open PySem PySem.Spec PyProof.Rows PySem.SeqAt
section
variable {A:AC}{X:Cx}{a b c e:Expr}{ta tb tc te:TD}{pos:Pos}
def xd2:RD2:=λd1 d2 k=>Vs d1 λes=>d2=.tup []/\k (.bl es.isEmpty)
@[simp] theorem xg1{d1 d2 k}:xd2 d1 d2 k=Vs d1 λes=>d2=.tup []/\k (.bl es.isEmpty):=rfl
def zM0:RD2:=λd1 d2 k=>∃es i,d1=.lst es/\d2=.int i/\0<=i/\i<1000/\es.length*i.toNat<=sizeLine/\k (.lst (replicate i.toNat es).flatten)
@[simp] theorem zW8{es i k}:zM0 (.lst es) (.int i) k↔(0<=i/\i<1000/\es.length*i.toNat<=sizeLine/\k (.lst (replicate i.toNat es).flatten)):=⟨fun⟨_,_,e,e',h⟩=>by cases e;cases e';exact h,λh=>⟨_,_,rfl,rfl,h⟩⟩
def zV8(es:List D)(k:List D->Prop):Prop:=∃fs,(es=[.lst fs]\/es=[.tup fs])/\k fs
@[simp] theorem xf1{fs:List D}{k}:zV8 [.lst fs] k↔k fs:=⟨fun⟨_,e,h⟩=>by rcases e with e |e<;>cases e;exact h,λh=>⟨_,.inl rfl,h⟩⟩
@[simp] theorem xf0{fs:List D}{k}:zV8 [.tup fs] k↔k fs:=⟨fun⟨_,e,h⟩=>by rcases e with e |e<;>cases e;exact h,λh=>⟨_,.inr rfl,h⟩⟩
def zL2(i:Nat)(t:TAD):TSD:=λF rho n=>i<rho.length/\t rho n λes n1=>zV8 es λfs=>F.nx (rho.set i (some (.own fs))) n1
@[simp] theorem zW5{i t F rho n}:zL2 i t F rho n=(i<rho.length/\t rho n λes n1=>zV8 es λfs=>F.nx (rho.set i (some (.own fs))) n1):=rfl
end
mutual
def zJ7:D->PyData
 |.bl b=>.bool b
 |.int i=>.int i
 |.str x=>.str x
 |.tup ds=>.tuple (Qh ds)
 |.lst ds=>.list (Qh ds)
 |_=>.none
def Qh:List D->List PyData
 |[]=>[]
 |d::ds=>zJ7 d::Qh ds
end
mutual
def okR:D->Nat->Bool
 |.non,_=>true
 |.bl _,_=>true
 |.int i,_=>decide (i.natAbs.log2<1920)
 |.str x,_=>decide ((reprText x).length<=2000)
 |.tup ds,k=>match k with
  |0=>false
  |k+1=>xm5 ds k
 |.lst ds,k=>match k with
  |0=>false
  |k+1=>xm5 ds k
 |_,_=>false
def xm5:List D->Nat->Bool
 |[],_=>true
 |d::ds,k=>okR d k&&xm5 ds k
end
mutual
def zI8:D->Nat
 |.tup ds=>zE2 ds+1
 |.lst ds=>zE2 ds+1
 |_=>1
def zE2:List D->Nat
 |[]=>0
 |d::ds=>zI8 d+zE2 ds
end
def Qv(d:D):Str:=(zJ7 d).shown
section
variable {X:Cx}{pins:List (Addr × Obj)}{σ:St}{H:Hp}{s:Shared}{G:Option Addr}{Z:Addr->Prop}
end
def xn0:List D->(D->Prop)->Prop:=λes k=>∃d,es=[d]/\zS6 d=true/\okR d 15=true/\zI8 d<=8000/\k (.str (Qv d))
@[simp] theorem xi3{d k}:xn0 [d] k↔(zS6 d=true/\okR d 15=true/\zI8 d<=8000/\k (.str (Qv d))):=⟨fun⟨_,e,h⟩=>by cases e;exact h,λh=>⟨_,rfl,h⟩⟩
end L2
namespace L2
def zk2(es:List D)(e d:D)(k:List D->Prop):Prop:=∃j m,e=.int j/\ixN es.length j=some m/\k (es.set m d)
def zk4(i:Nat)(ta:TAD)(tb1 tb2:TD):TSD:=λF rho n=>ZX rho[i]? λes=>ta rho n λcs n1=>Jr cs λd1 d2=>tb1 rho n1 λe1 n2=>zk2 es e1 d1 λes1=>
 tb2 (rho.set i (some (.own es1))) n2 λe2 n3=>zk2 es1 e2 d2 λes2=>F.nx (rho.set i (some (.own es2))) n3
@[simp] theorem zI4{i ta tb1 tb2 F rho n}:zk4 i ta tb1 tb2 F rho n=ZX rho[i]? λes=>ta rho n λcs n1=>Jr cs λd1 d2=>tb1 rho n1 λe1 n2=>zk2 es e1 d1 λes1=>
 tb2 (rho.set i (some (.own es1))) n2 λe2 n3=>zk2 es1 e2 d2 λes2=>F.nx (rho.set i (some (.own es2))) n3:=rfl
section
variable {A:AC}{X:Cx}{a1 a2 b1 b2:Expr}{ta:TAD}{tb1 tb2:TD}{pos:Pos}
end
end L2
namespace PySem
open PySem.Sem (wp)
namespace F
end F
section
variable {prog:Program}{w:World}{K:Type} [DecidableEq K] {knd:KeyKind prog w K}{A:Around}{R:Result->Shared->Prop}
end
section
variable {prog:Program}{w:World}{K:Type} [DecidableEq K] {knd:KeyKind prog w K}{A:Around}{E:Value->Shared->Prop}{s:Shared}
end
end PySem
namespace L2
section
variable {X:Cx}{A:AC}
end
end L2
namespace L2
open PySem PySem.Spec PyProof.Rows PySem.SeqAt
section
variable {A:AC}{X:Cx}
def zJ5(d:D)(k:List (List D)->Prop):Prop:=∃ess:List (List D),d=.tup (ess.map D.tup)/\k ess
def xd4:RD2:=λd1 d2 k=>d1=.tup []/\zJ5 d2 λess=>k (.bl (ess.any List.isEmpty))
@[simp] theorem zX1{a b k}:xd4 (.tup []) (.tup [.tup a,.tup b]) k ↔ k (.bl (a.isEmpty || b.isEmpty)):=by
 constructor
 ·rintro ⟨_, ess, e, h⟩
  have:ess=[a,b]:=by
   have e':=D.tup.inj e
   match ess,e' with
   |[x,y],e'=>simp at e';rw[e'.1,e'.2]
   |[],e'=>simp at e'
   |[x],e'=>simp at e'
   |x::y::z::r,e'=>simp at e'
  subst this
  simpa using h
 ·intro h
  exact⟨rfl,[a,b],rfl,by simpa using h⟩
end
mutual
def okN:D->Nat->Bool
 |.non,_=>true
 |.int i,_=>decide (i.natAbs.log2<20)
 |.tup ds,k=>match k with
  |0=>false
  |k+1=>xu9 ds k
 |_,_=>false
def xu9:List D->Nat->Bool
 |[],_=>true
 |d::ds,k=>okN d k&&xu9 ds k
end
def xm9:List D->(D->Prop)->Prop:=λes k=>∃ds,es=[.tup ds]/\okN (.tup ds) 20=true/\zI8 (.tup ds)<=400000/\k (.str (Qv (.tup ds)))
@[simp] theorem xi2{ds k}:xm9 [.tup ds] k↔(okN (.tup ds) 20=true/\zI8 (.tup ds)<=400000/\k (.str (Qv (.tup ds)))):=⟨fun⟨_,e,h⟩=>by cases e;exact h,λh=>⟨_,rfl,h⟩⟩
end L2
namespace L2
section
variable {A:AC}
def xn4:List D->(D->Prop)->Prop:=λes k=>∃i:Int,es=[.int i]/\k (.bl (i != 0))
@[simp] theorem xj1{i:Int}{k}:xn4 [.int i] k↔k (.bl (i != 0)):=⟨fun⟨_,e,h⟩=>by cases e;exact h,λh=>⟨_,rfl,h⟩⟩
end
section
variable {A:AC}{X:Cx}{pos:Pos}{m:Nat}
def xn9(k:Nat)(gs:zs1):TGD:=λd rho P=>∃es,d=.lst es/\es.length=k/\gs es rho P
@[simp] theorem xj8{k gs es rho P}:xn9 k gs (.lst es) rho P↔(es.length=k/\gs es rho P):=⟨fun⟨_,e,h⟩=>by cases e;exact h,λh=>⟨_,rfl,h⟩⟩
end
section
variable {A:AC}{X:Cx}
def zK6:D->Str
 |.non => "None"
 |d=>Qv d
def xu8(d:D):Prop:=d=.non\/(zS6 d=true/\okR d 20=true/\zI8 d<=8000)
def zR6:List D->(D->Prop)->Prop:=λes k=>∃d,es=[d]/\xu8 d/\k (.str (zK6 d))
@[simp] theorem zY3{d k}:zR6 [d] k↔(xu8 d/\k (.str (zK6 d))):=⟨fun⟨_,e,h⟩=>by cases e;exact h,λh=>⟨_,rfl,h⟩⟩
end
def lo{sc:Scope}{x:Str}(h:(match sc.names.lookup x with |some .local=>true |some .cell=>true |_=>false)=true):Loc sc x:=by
 unfold Loc
 split at h
 ·exact .inl (by assumption)
 ·exact .inr (by assumption)
 ·cases h
end L2
namespace L2
open PySem PySem.Spec PyProof.Rows PySem.SeqAt
section
variable {A:AC}{X:Cx}
def zl2:RD2:=λd1 d2 k=>d1=.non/\∃ess:List (List D),d2=.lst (ess.map D.lst)/\k (.bl false)
@[simp] theorem zX5{a b k}:zl2 .non (.lst [.lst a,.lst b]) k↔k (.bl false):=⟨fun⟨_,_,_,h⟩=>h,λh=>⟨rfl,[a,b],rfl,h⟩⟩
def xn1:List D->(D->Prop)->Prop:=λes k=>∃ks ds,es=[.dct ks ds]/\ks.length=ds.length/\k (.int (ks.length:Int))
@[simp] theorem xi8{ks ds k}:xn1 [.dct ks ds] k↔(ks.length=ds.length/\k (.int (ks.length:Int))):=⟨fun⟨_,_,e,h⟩=>by cases e;exact h,λh=>⟨_,_,rfl,h⟩⟩
def zV2(te:TD):TD:=λrho n P=>te rho n λd n1=>∃x:Int,d=.int x/\P (.int ((Builtin.Int.intBits x:Nat):Int)) n1
@[simp] theorem xl0{te:TD}{rho:Rho}{n:Nat}{P:D->Nat->Prop}:zV2 te rho n P=te rho n λd n1=>∃x:Int,d=.int x/\P (.int ((Builtin.Int.intBits x:Nat):Int)) n1:=rfl
def zE5:MtR X "int.bit_length" (λx vs H Q=>∃z,x=.int z/\vs=[]/\Q (.int ((Builtin.Int.intBits z:Nat):Int)) H):=by
 intro pins s σ H x vs v us Q I rx rv h;obtain⟨z,rfl,rfl,q⟩:=h;obtain⟨t,rfl⟩:=rx;cases rv;exact PySem.call_gives PySem.F.slot_int_bit_length (typeIs_int _ _ _) PySem.F.entry_int_bit_length (PySem.F.args_int_bit_length_1 _) (PySem.AutoIntG2.int_bit_length_int_0 z t) ⟨.int _,H,I.tok _,⟨_,rfl⟩,q⟩
def za4{o:Expr}{te:TD}{apos cpos:Pos}(ho:PD A X o te)(hbase:attributeBase o "bit_length" X.env (eval o X.env)=eval o X.env:=by rfl)(hline:(apos.endLine == cpos.line)=true:=by rfl):PD A X (.Call (.Attribute o "bit_length" apos) [] [] cpos) (zV2 te):=by
 exists (zP0 PySem.F.plainAttrs_int PySem.F.slot_int_bit_length PySem.F.type_int_bit_length zE5 ho hbase hline).imp λsg H Q h=>by
   obtain⟨rho,n,P,ds',vs,I,ht,hQ⟩:=h;refine⟨rho,n,_,ds',vs,I,ht,λv H' n' d J k=>?_⟩;obtain⟨x,rfl,k⟩:=k;obtain⟨os,J⟩:=J;obtain⟨J1,r⟩:=J.pop;have e:=r.toS rfl;subst e;exact⟨rfl,x,rfl,rfl,hQ _ _ _ _ ⟨os,J1.push (Rep.ofS rfl)⟩ k⟩
def zS1:List D->(D->Prop)->Prop:=λes k=>∃j:Int,es=[.int j]/\0<=j/\j<=1000/\k (.lst ((List.range j.toNat).map λi:Nat=>D.int (i:Int)))
@[simp] theorem zY5{j:Int}{k:D->Prop}:zS1 [.int j] k↔(0<=j/\j<=1000/\k (.lst ((List.range j.toNat).map λi:Nat=>D.int (i:Int)))):=⟨fun⟨_,e,h⟩=>by cases e;exact h,λh=>⟨_,rfl,h⟩⟩
end
end L2
namespace L2
mutual
theorem jB:∀d:D,plD d=true->YZ d=true
 |.non,_=>rfl
 |.bl _,_=>rfl
 |.int _,_=>rfl
 |.rf _,_=>rfl
 |.tup ds,h=>ZT ds h
 |.lst ds,h=>ZT ds h
 |.str _,h=>by simp[plD] at h
 |.ty _,h=>by simp[plD] at h
 |.fz _,h=>by simp[plD] at h
 |.st,h=>by simp[plD] at h
 |.own _,h=>by simp[plD] at h
 |.dic,h=>by simp[plD] at h
 |.dct _ _,h=>by simp[plD] at h
theorem ZT:∀ds:List D,jH ds=true->jY ds=true
 |[],_=>rfl
 |d::ds,h=>by
  have h':plD d=true/\jH ds=true:=by simpa [jH] using h
  simp[jY,jB d h'.1,ZT ds h'.2]
end
theorem yT:∀{ds:List D},jH ds=true↔∀d∈ds,plD d=true
 |[]=>by simp[jH]
 |d::ds=>by simp[jH,yT (ds:=ds)]
section
variable {A:AC}{os:List (Nat × Addr)}{n:Nat}{rho:Rho}{sg:St}{H:Hp}{ds:List D}{vs:List V}{a:Addr}{c:Cell}{o:HO}
def AmO.cell(I:AmO A os n rho sg H ds vs)(h:xp n a=some c):A.G≠some a/\Zof A os a/\CellR A.K (Zof A os) H a c:=by
 obtain⟨h1,h2,h3⟩:=I.st.2 a c h;refine⟨h2,?_,h3⟩
 rcases h1 with z |⟨p,hp,e,_⟩
 ·exact .inl z.1
 ·exact .inr ⟨p,hp,e⟩
def Wok(A:AC)(os:List (Nat × Addr))(n:Nat)(H:Hp)(a:Addr):Prop:=A.G≠some a/\((Zof A os a/\xp n a≠none)\/H a=none)
def AmO.wok(I:AmO A os n rho sg H ds vs)(h:xp n a=some c):Wok A os n H a:=⟨(I.cell h).1,.inl ⟨(I.cell h).2.1,by rw[h];simp⟩⟩
def AmO.wokNew(I:AmO A os n rho sg H ds vs)(h:H a=none):Wok A os n H a:=by
 refine⟨λe=>?_,.inr h⟩;obtain⟨x,y,z,w,_⟩:=I.st.1 a e;rw[w] at h;cases h
def AmO.noCell(I:AmO A os n rho sg H ds vs)(h:H a=none):xp n a=none:=by
 cases q:xp n a with
 |none=>rfl
 |some c=>exact absurd h (I.cell q).2.2.ne
def Wok.z(w:Wok A os n H a)(hp:plC c=true)(I:AmO A os n rho sg H ds vs):∀b,H b≠none->Xh (Zof A os) (vN n a c) b->Zof A os b:=λb hb z=>by
 rcases z with z |z
 ·exact z
 ·rw [vJ hp] at z
  by_cases e:b=a
  ·rcases w.2 with y | y
   ·rw[e];exact y.1
   ·rw[e] at hb;exact absurd y hb
  ·rw [if_neg e] at z
   cases q:xp n b with
   |none=>exact absurd q z
   |some c=>exact(I.cell q).2.1
def Wok.f(w:Wok A os n H a):∀b u,¬ Zof A os b->H b=some u->upd H a o b=some u:=λb u nz e=>by
 refine(wr λz=>?_).trans e
 rcases w.2 with y |y
 ·exact nz (by rw[z];exact y.1)
 ·rw[z,y] at e;cases e
def Wok.rep(w:Wok A os n H a)(hp:plC c=true)(I:AmO A os n rho sg H ds vs){d:D}{v:V}(hs:plD d=true)(r:Rep A.K A.G (Zof A os) H d v):Rep A.K none (Xh (Zof A os) (vN n a c)) (upd H a o) d v:=
 Rep.mono (w.z hp I) w.f _ _ (Rep.reG _ _ (jB _ hs) r)
def Wok.kv(w:Wok A os n H a)(hp:plC c=true)(I:AmO A os n rho sg H ds vs){l:List (Int × D)}{r:List (Key × V)}(h:KvR A.K (Zof A os) H l r):KvR A.K (Xh (Zof A os) (vN n a c)) (upd H a o) l r:=h.mono (w.z hp I) w.f
def Wok.fs(w:Wok A os n H a)(hp:plC c=true)(I:AmO A os n rho sg H ds vs){l:List (Str × D)}{r:List (Str × V)}(h:FsR A.K (Zof A os) H l r):FsR A.K (Xh (Zof A os) (vN n a c)) (upd H a o) l r:=h.mono (w.z hp I) w.f
def AmO.wrote(I:AmO A os n rho sg H ds vs)(w:Wok A os n H a)(hp:plC c=true)(hc:CellR A.K (Xh (Zof A os) (vN n a c)) (upd H a o) a c) :
  ∃os',AmO A os' (vN n a c) rho sg (upd H a o) ds vs/\∀b,Zof A os' b->Xh (Zof A os) (vN n a c) b:=by
 refine I.calledX (λb u g cn e=>?_) ⟨λb e=>?_,λb c' e=>?_⟩ ⟨λb h=>?_,λb h=>?_⟩
 ·refine (wr λz => ?_).trans e
  rcases w.2 with y |y
  ·exact y.2 (by rw[<- z];exact cn)
  ·rw[z,y] at e;cases e
 ·obtain ⟨zs, u, v, q, r⟩ := I.st.1 b e
  exact⟨zs,u,v,by rw[wr λz=>w.1 (by rw[<- z];exact e)];exact q,by rw[ql hp];exact r⟩
 ·have ne : xp (vN n a c) b ≠ none := by rw [e]; simp
  rw[vJ hp] at e
  by_cases q:b=a
  ·rw [if_pos q] at e;cases e
   exact⟨.inr ne,by rw[q];exact w.1,by rw[q];exact hc⟩
  ·rw [if_neg q] at e;obtain⟨h1,h2,h3⟩:=I.cell e
   exact⟨.inl h2,h1,h3.mono (w.z hp I) w.f λo' e'=>by rw[wr q];exact e'⟩
 ·rw [vJ hp] at h
  by_cases q:b=a
  ·rcases w.2 with y | y
   ·exact .inl (by rw[q];exact y.2)
   ·exact .inr (by rw[q];exact y)
  ·rw[if_neg q] at h;exact .inl h
 ·rw [vJ hp]
  by_cases q:b=a
  ·rw[if_pos q];simp
  ·rw[if_neg q];exact h
end
def vy{α:Type}(k:Int):List (Int × α)->Option α
 |[]=>none
 |p::l=>if p.1=k then some p.2 else vy k l
def vV{α:Type}(k:Int)(x:α)(l:List (Int × α)):List (Int × α):=if (vy k l).isSome=true then l.map λp=>if p.1=k then(p.1,x) else p else l++[(k,x)]
def ky{α:Type}(k:Int)(l:List (Int × α)):List (Int × α):=l.filter λp=>decide (p.1≠k)
def qF{α:Type}(f:Str):List (Str × α)->Option α
 |[]=>none
 |p::l=>if p.1=f then some p.2 else qF f l
def Xy{α:Type}(f:Str)(x:α):List (Str × α)->List (Str × α)
 |[]=>[(f,x)]
 |p::l=>if p.1=f then(f,x)::l else p::Xy f x l
section
variable {K:W.Frag}{G:Option Addr}{Z:Addr->Prop}{H:Hp}{d:D}{v:V}
def KB{a b:Int}(h:¬ a=b):¬ (Sum.inl a:Key)=Sum.inl b:=λe=>h (Sum.inl.inj e)
theorem KvR.get:∀{l:List (Int × D)}{r:List (Key × V)}{k:Int},KvR K Z H l r->(∀d,vy k l=some d->∃v,YD r (.inl k)=some v/\Rep K none Z H d v)/\(vy k l=none->YD r (.inl k)=none)
 |[],[],k,_=>⟨λd h=>by simp[vy] at h,λ_=>rfl⟩
 | p :: l, q :: r, k, h => by
  obtain⟨h1,h2,h3⟩:=h;obtain⟨i1,i2⟩:=KvR.get (k:=k) h3;unfold vy
  by_cases e:p.1=k
  ·rw [if_pos e, jt (by rw [h1, e])]
   exact⟨λd h=>by cases h;exact⟨_,rfl,h2⟩,λh=>by cases h⟩
  ·rw [if_neg e, ju (by rw [h1]; exact KB e)]
   exact⟨i1,i2⟩
theorem KvR.length:∀{l:List (Int × D)}{r:List (Key × V)},KvR K Z H l r->r.length=l.length
 |[],[],_=>rfl
 |_::_,_::_,h=>by rw[zu,zu,KvR.length h.2.2]
def KvR.has:∀{l:List (Int × D)}{r:List (Key × V)}{k:Int},KvR K Z H l r->(YD r (.inl k)).isSome=(vy k l).isSome:=λ{l r k} h=>by
 obtain⟨i1,i2⟩:=h.get (k:=k)
 cases e:vy k l with
 |none=>rw[i2 e];rfl
 |some d=>obtain⟨v,hv,_⟩:=i1 d e;rw[hv];rfl
def ze1{a b:Int}:(Sum.inl a:Key)=Sum.inl b↔a=b:=⟨λe=>Sum.inl.inj e,λe=>by rw[e]⟩
theorem KvR.snoc(rv:Rep K none Z H d v){k:Int}:∀{l:List (Int × D)}{r:List (Key × V)},KvR K Z H l r->KvR K Z H (l++[(k,d)]) (r++[(.inl k,v)])
 |[],[],_=>⟨rfl,rv,trivial⟩
 |_::_,_::_,h=>⟨h.1,h.2.1,KvR.snoc rv h.2.2⟩
theorem KvR.repl(rv:Rep K none Z H d v){k:Int}:∀{l:List (Int × D)}{r:List (Key × V)},KvR K Z H l r->KvR K Z H (l.map λp=>if p.1=k then(p.1,d) else p) (r.map λkv=>if kv.1=(.inl k:Key) then(kv.1,v) else kv)
 |[],[],_=>trivial
 |p::l,q::r,h=>by
  rw[zy,zy]
  refine⟨?_,?_,KvR.repl rv h.2.2⟩<;>rw[h.1]<;>by_cases c:p.1=k
  ·rw[if_pos c,if_pos (ze1.mpr c)]
  ·rw[if_neg c,if_neg (KB c)];exact h.1
  ·rw[if_pos c,if_pos (ze1.mpr c)];exact rv
  ·rw[if_neg c,if_neg (KB c)];exact h.2.1
def KvR.put{l:List (Int × D)}{r:List (Key × V)}{k:Int}(h:KvR K Z H l r)(rv:Rep K none Z H d v):KvR K Z H (vV k d l) (Xx r (.inl k) v):=by
 unfold Xx vV;rw[Xi,h.has]
 cases(vy k l).isSome with
 |true=>rw[if_pos rfl,if_pos rfl];exact h.repl rv
 |false=>rw[if_neg zQ,if_neg zQ];exact h.snoc rv
theorem KvR.drop{k:Int}:∀{l:List (Int × D)}{r:List (Key × V)},KvR K Z H l r->KvR K Z H (ky k l) (Zg r (.inl k))
 |[],[],_=>trivial
 | p :: l, q :: r, h => by
  by_cases c:p.1=k
  ·rw [show ky k (p :: l) = ky k l from wH (by simpa using c), zf1 (by rw [h.1, c])]
   exact KvR.drop h.2.2
  ·rw [show ky k (p :: l) = p :: ky k l from yk (by simpa using c), zf2 (by rw [h.1]; exact KB c)]
   exact⟨h.1,h.2.1,KvR.drop h.2.2⟩
theorem FsR.get:∀{l:List (Str × D)}{r:List (Str × V)}{f:Str},FsR K Z H l r->(∀d,qF f l=some d->∃v,r.lookup f=some v/\Rep K none Z H d v)/\(qF f l=none->r.lookup f=none)
 |[],[],f,_=>⟨λd h=>by simp[qF] at h,λ_=>rfl⟩
 | p :: l, q :: r, f, h => by
  obtain⟨h1,h2,h3⟩:=h;obtain⟨i1,i2⟩:=FsR.get (f:=f) h3;obtain⟨q1,q2⟩:=q;have h1:q1=p.1:=h1;subst h1;unfold qF
  by_cases e:p.1=f
  ·rw [if_pos e]
   exact⟨λd h=>by cases h;exact⟨q2,by rw[List.lookup,beq_iff_eq.mpr e.symm],h2⟩,λh=>by cases h⟩
  ·rw[if_neg e];have hb:(f == p.1)=false:=beq_eq_false_iff_ne.mpr λz=>e z.symm;rw[List.lookup,hb];exact⟨i1,i2⟩
theorem FsR.put:∀{l:List (Str × D)}{r:List (Str × V)}{f:Str},FsR K Z H l r->Rep K none Z H d v->FsR K Z H (Xy f d l) (YF f v r)
 |[],[],f,_,rv=>⟨rfl,rv,trivial⟩
 |p::l,q::r,f,h,rv=>by
  obtain⟨h1,h2,h3⟩:=h;obtain⟨q1,q2⟩:=q;have h1:q1=p.1:=h1;subst h1;unfold Xy YF
  by_cases e:p.1=f
  ·rw[if_pos e,if_pos e];exact⟨e,rv,h3⟩
  ·rw[if_neg e,if_neg e];exact⟨rfl,h2,FsR.put h3 rv⟩
theorem FsR.length:∀{l:List (Str × D)}{r:List (Str × V)},FsR K Z H l r->r.length=l.length
 |[],[],_=>rfl
 |_::_,_::_,h=>by rw[zu,zu,FsR.length h.2.2]
end
theorem zv0:∀{l:List (Addr × Cell)}{a:Addr}{c:Cell},l.lookup a=some c->(a,c)∈l
 |[],_,_,h=>by simp at h
 | p :: l, a, c, h => by
  obtain⟨b,e⟩:=p
  by_cases q:a=b
  ·subst q;simp at h;rw[h];exact zo
  ·refine zk _ (zv0 ?_)
   simpa [List.lookup,beq_eq_false_iff_ne.mpr q] using h
def vC{n:Nat}{a:Addr}{c:Cell}(h:xp n a=some c):plC c=true:=zf6 n (a,c) (zv0 h)
theorem KD{α:Type}{k:Int}:∀{l:List (Int × α)}{x:α},vy k l=some x->(k,x)∈l
 |[],_,h=>by simp[vy] at h
 |p::l,x,h=>by
  unfold vy at h
  by_cases c:p.1=k
  ·rw[if_pos c] at h;cases h;rw[<- c];exact zo
  ·rw[if_neg c] at h;exact zk _ (KD h)
theorem KF{α:Type}{f:Str}:∀{l:List (Str × α)}{x:α},qF f l=some x->(f,x)∈l
 |[],_,h=>by simp[qF] at h
 |p::l,x,h=>by
  unfold qF at h
  by_cases c:p.1=f
  ·rw[if_pos c] at h;cases h;rw[<- c];exact zo
  ·rw[if_neg c] at h;exact zk _ (KF h)
def QU{n:Nat}{a:Addr}{kv:List (Int × D)}{k:Int}{x:D}(h:xp n a=some (.dic kv))(e:vy k kv=some x):plD x=true:=
 yT.mp (show jH (kv.map (·.2))=true from vC h) x (zO (KD e))
def zB3{n:Nat}{a C:Addr}{fs:List (Str × D)}{f:Str}{x:D}(h:xp n a=some (.ins C fs))(e:qF f fs=some x):plD x=true:=
 yT.mp (show jH (fs.map (·.2))=true from vC h) x (zO (KF e))
def VP{kv:List (Int × D)}{k:Int}{d:D}(h:plC (.dic kv)=true)(hd:plD d=true):plC (.dic (vV k d kv))=true:=by
 refine yT.mpr λx hx=>?_;have h':=yT.mp (show jH (kv.map (·.2))=true from h);obtain⟨p,hp,rfl⟩:=zK.mp hx;unfold vV at hp
 split at hp
 ·obtain ⟨q, hq, rfl⟩ := zK.mp hp
  by_cases c:q.1=k
  ·rw[if_pos c];exact hd
  ·rw[if_neg c];exact h' _ (zO hq)
 ·rcases zN.mp hp with hp | hp
  ·exact h' _ (zO hp)
  ·rw[zW.mp hp];exact hd
def Kl{kv:List (Int × D)}{k:Int}(h:plC (.dic kv)=true):plC (.dic (ky k kv))=true:=by
 refine yT.mpr λx hx=>?_;obtain⟨p,hp,rfl⟩:=zK.mp hx;exact yT.mp (show jH (kv.map (·.2))=true from h) _ (zO (zL.mp hp).1)
def QT{C:Addr}{f:Str}{d:D}(hd:plD d=true):∀{fs:List (Str × D)},plC (.ins C fs)=true->plC (.ins C (Xy f d fs))=true:=λ{fs} h=>by
 refine yT.mpr ?_;have h':=yT.mp (show jH (fs.map (·.2))=true from h);clear h
 induction fs with
 |nil=>intro x hx;rw[zW.mp hx];exact hd
 | cons p fs ih =>
  intro x hx;obtain⟨q,hq,rfl⟩:=zK.mp hx;unfold Xy at hq
  split at hq
  ·rcases zh.mp hq with rfl | hq
   ·exact hd
   ·exact h' _ (zO (zk _ hq))
  ·rcases zh.mp hq with rfl | hq
   ·exact h' _ (zO zo)
   ·exact ih (λx hx=>h' x (by rw[zy];exact zk _ hx)) _ (zO hq)
def Wu(d:D)(k:Addr->Prop):Prop:=∃a,d=.rf a/\k a
@[simp] theorem xr3{a k}:Wu (.rf a) k↔k a:=⟨fun⟨_,e,h⟩=>by cases e;exact h,λh=>⟨_,rfl,h⟩⟩
def Za(d:D)(k:Int->Prop):Prop:=∃i,d=.int i/\k i
@[simp] theorem xi0{i k}:Za (.int i) k↔k i:=⟨fun⟨_,e,h⟩=>by cases e;exact h,λh=>⟨_,rfl,h⟩⟩
def Zq(C:Addr)(n:Nat)(a:Addr)(k:List (Str × D)->Prop):Prop:=∃fs,xp n a=some (.ins C fs)/\k fs
def jl(n:Nat)(a:Addr)(k:List (Int × D)->Prop):Prop:=∃kv,xp n a=some (.dic kv)/\k kv
def xx{C n a fs k}(h:xp n a=some (.ins C fs))(q:k fs):Zq C n a k:=⟨fs,h,q⟩
def yw{n a kv k}(h:xp n a=some (.dic kv))(q:k kv):jl n a k:=⟨kv,h,q⟩
def XF{α:Type}(o:Option α)(k:α->Prop):Prop:=∃x,o=some x/\k x
@[simp] theorem xh4{α:Type}{x:α}{k:α->Prop}:XF (some x) k↔k x:=⟨fun⟨_,e,h⟩=>by cases e;exact h,λh=>⟨_,rfl,h⟩⟩
section
variable {A:AC}{X:Cx}{C:Addr}{a b e:Expr}{ta tb te:TD}{t1:TAD}{es:List Expr}{pos pos' p:Pos}{f:Str}
def Rep.rf_inv{K:W.Frag}{G:Option Addr}{Z:Addr->Prop}{H:Hp}{v:V}{a:Addr}(h:Rep K G Z H (.rf a) v):v=.ref a:=by unfold Rep at h;exact h
def Rep.rf_mk{K:W.Frag}{G:Option Addr}{Z:Addr->Prop}{H:Hp}{a:Addr}:Rep K G Z H (.rf a) (.ref a):=by unfold Rep;rfl
def zU6:TD:=λ_ n P=>∀a,xp n a=none->P (.rf a) (vN n a (.dic []))
def VS:PD A X (.Dict [] [] pos) zU6:=by
 exists zn1.imp λsg H Q h=>by
   obtain⟨rho,n,P,ds,vs,⟨os,I⟩,k,hQ⟩:=h;intro p hp;obtain⟨os',J,_⟩:=I.wrote (o:=.dK []) (I.wokNew hp) (c:=.dic []) rfl ⟨[],yH,trivial⟩;exact hQ _ _ _ _ ⟨os',J.push Rep.rf_mk⟩ (k p (I.noCell hp))
def zU9(C:Addr)(f:Str)(t:TD):TD:=λrho n P=>t rho n λd n'=>Wu d λa=>Zq C n' a λfs=>XF (qF f fs) λx=>P x n'
def yF(c:Cls X.K C)(na:NoAttr X.K C f)(ha:PD A X a ta)(hb:attributeBase a f X.env (eval a X.env)=eval a X.env:=by rfl):PD A X (.Attribute a f pos) (zU9 C f ta):=by
 exists (zO9 ha hb).imp λsg H Q h=>by
   obtain⟨rho,n,P,ds,vs,I,ht,hQ⟩:=h;refine⟨rho,n,_,ds,vs,I,ht,λv H' n' d ⟨os,J⟩ k=>?_⟩;obtain⟨q,rfl,fs,hc,x,hx,k⟩:=k;obtain⟨J1,r⟩:=J.pop;obtain⟨_,_,dx,gs,hp,hf⟩:=J1.cell hc;obtain⟨u,hu,ru⟩:=hf.get.1 x hx;exact⟨q,C,dx,gs,u,r.rf_inv,hp,c,na,hu,hQ u H' n' x ⟨os,J1.push (Rep.reG _ _ (jB _ (zB3 hc hx)) ru)⟩ k⟩
def zL4(C:Addr)(f:Str)(ta te:TD):TSD:=λF rho n=>te rho n λd n1=>ta rho n1 λx n2=>Wu x λa=>Zq C n2 a λfs=>plD d=true/\fs.length<1000/\F.nx rho (vN n2 a (.ins C (Xy f d fs)))
def kG(c:Cls X.K C)(na:NoAttr X.K C f)(ha:PD A X a ta)(he:PD A X e te)(hs:swapsWith e (some (.Attribute a f pos')) pos.line X.env=pure false:=by rfl):PSD A X (.Assign [.Attribute a f pos'] e pos) (zL4 C f ta te):=by
 exists (zO0 ha he hs).imp λE sg H h=>by
   obtain⟨rho,n,F,ds,vs,I,ht,ok⟩:=h;refine⟨rho,n,_,ds,vs,I,ht,λv H' n' d J k=>⟨rho,n',_,d::ds,v::vs,J,k,λv2 H2 n2 x ⟨os,J2⟩ k2=>?_⟩⟩;obtain⟨q,rfl,fs,hc,hd,hl,k2⟩:=k2;obtain⟨J3,r2⟩:=J2.pop;obtain⟨J4,r1⟩:=J3.pop;obtain⟨_,_,dx,gs,hp,hf⟩:=J4.cell hc;have w:=J4.wok hc;have pl:=QT (C:=C) (f:=f) hd (vC hc)
   refine⟨q,C,dx,gs,r2.rf_inv,hp,c,na,by rw[hf.length];exact hl,?_⟩
   obtain⟨os',J5,_⟩:=J4.wrote (o:=.ins C dx (YF f v gs)) w pl ⟨dx,_,yH,(w.fs pl J4 hf).put (w.rep pl J4 hd r1)⟩;exact ok.nx _ _ _ _ ⟨os',J5⟩ k2
def UY(C:Addr)(f:Str)(ta te:TD):TSD:=λF rho n=>ta rho n λx n1=>Wu x λa=>Zq C n1 a λfs=>XF (qF f fs) λy=>Za y λi=>te rho n1 λd n2=>Za d λj=>Zq C n2 a λfs2=>fs2.length<1000/\F.nx rho (vN n2 a (.ins C (Xy f (.int (i+j)) fs2)))
def VN(c:Cls X.K C)(na:NoAttr X.K C f)(ha:PD A X a ta)(he:PD A X e te):PSD A X (.AugAssign (.Attribute a f pos') .Add e pos) (UY C f ta te):=by
 exists (QQ ha he zS9).imp λE sg H h=>by
   obtain⟨rho,n,F,ds,vs,I,ht,ok⟩:=h;refine⟨rho,n,_,ds,vs,I,ht,λv H' n' d ⟨os,J⟩ k=>?_⟩;obtain⟨q,rfl,fs,hc,_,hx,i,rfl,k⟩:=k;obtain⟨J1,r⟩:=J.pop;obtain⟨_,_,dx,gs,hp,hf⟩:=J1.cell hc;obtain⟨u,hu,ru⟩:=hf.get.1 _ hx;refine⟨q,C,dx,gs,u,r.rf_inv,hp,c,na,hu,rho,n',_,ds,vs,⟨os,J1⟩,k,λv2 H2 n2 d2 ⟨os2,J2⟩ k2=>?_⟩;obtain⟨j,rfl,fs2,hc2,hl,k2⟩:=k2;obtain⟨J3,r2⟩:=J2.pop;obtain⟨_,_,dx2,gs2,hp2,hf2⟩:=J3.cell hc2;have w:=J3.wok hc2;have pl:=QT (C:=C) (f:=f) (d:=.int (i+j)) rfl (vC hc2)
   refine⟨i,j,ru.int_inv,r2.int_inv,dx2,gs2,hp2,by rw[hf2.length];exact hl,?_⟩
   obtain⟨os',J5,_⟩:=J3.wrote (o:=.ins C dx2 (YF f (.int (i+j)) gs2)) w pl ⟨dx2,_,yH,(w.fs pl J3 hf2).put (Rep.ofS (d:=.int (i+j)) rfl)⟩;exact ok.nx _ _ _ _ ⟨os',J5⟩ k2
structure MthC(P:Program)(w:World)(K:W.Frag)(mg:Str->Option Value)(base:Heap)(C:Addr)(m:Str)(kk k:Nat)(t:TF):Prop where
 ex:∃(g:Addr) (fd:FuncData) (ps:List Str),FnOk P w K mg base CX0 kk g fd ps (spD K (k+1) t)/\Meth K C m g/\Cls K C/\Binds K fd ps []
def Zp(C:Addr)(m:Str)(k:Nat)(t:TF)(ta:TD)(t1:TAD):TD:=λrho n P=>ta rho n λd n1=>Wu d λa=>Zq C n1 a λfs=>qF m fs=none/\t1 rho n1 λes n2=>es.length=k/\t (.rf a::es) n2 P
def zF0{m:Str}{k:Nat}{t:TF}(hK:X.K=A.K){sg:St}{H:Hp}{Q:VK}(h:tOf A (Zp C m k t ta t1) sg H Q):zx1 C m (spD X.K (k+1) t) [] E0 (tOf A ta) (xa9 A t1) sg H Q:=by
 obtain⟨rho,n,R,ds,vs,I,ht,hQ⟩:=h;refine⟨rho,n,_,ds,vs,I,ht,λv H' n' d ⟨os,J⟩ k=>?_⟩;obtain⟨q,rfl,fs,hc,hn,k⟩:=k;obtain⟨J1,r⟩:=J.pop;obtain⟨_,_,dx,gs,hp,hf⟩:=J1.cell hc;cases r.rf_inv;refine⟨q,dx,gs,rfl,hp,hf.get.2 hn,rho,n',_,ds,vs,⟨os,J1⟩,k,λws H2 n2 es2 ⟨os2,J2⟩ hl2 k2=>?_⟩;obtain⟨J3,rs2⟩:=J2.split hl2;rw[xX,hK]
 exact⟨A.G,Zof A os2,n2,R,.rf q::es2,by rw[zu,k2.1],.cons Rep.rf_mk rs2,J3.stZ,λa z=>.inl (J3.gz a z),J3.zH,k2.2,λv H3 n3 d fr st gw r q=>hQ v H3 n3 d (J3.called fr st gw r) q⟩
def qN{m:Str}{kk k:Nat}{t:TF}{b:Expr}{apos:Pos}{pl:Sem Bool}(M:MthC X.prog X.w X.K X.mg X.base C m kk k t)(hr:Room kk X.A)(hK:X.K=A.K)(ha:PD A X a ta)(h1:PAD A X (b::es) t1)
  (hst:starEach (b::es) X.env=(false,eval b X.env)::starEach es X.env:=by rfl) (hpl:(backTo pos (starEach es X.env)).any (·.1)=false:=by rfl)
  (ht : eval (.Call (.Attribute a m apos) (b :: es) [] pos) X.env = (do
   let ov <- eval a X.env
   standAt apos.atName
   let (f,first) <- holding [ov] (getMethod ov m pl)
   callWith pos f first (backTo pos (starEach (b::es) X.env)) (backToKw pos (keywordEach [] X.env))):=by rfl) :
  PD A X (.Call (.Attribute a m apos) (b::es) [] pos) (Zp C m k t ta t1):=by
 obtain⟨g,fd,ps,F,hm,c,hb⟩:=M.ex
 exists (zB9 (pl:=pl) ha c hm F hr hb .nil za5 h1 hst hpl ht).imp λsg H Q h=>zF0 hK h
def vA{m:Str}{kk:Nat}{t:TF}{apos:Pos}{pl:Sem Bool}(M:MthC X.prog X.w X.K X.mg X.base C m kk 0 t)(hr:Room kk X.A)(hK:X.K=A.K)(ha:PD A X a ta)
  (ht : eval (.Call (.Attribute a m apos) [] [] pos) X.env = (do
   let ov <- eval a X.env
   standAt apos.atName
   let (f,first) <- holding [ov] (getMethod ov m pl)
   callWith pos f first (backTo pos (starEach [] X.env)) (backToKw pos (keywordEach [] X.env))):=by rfl) :
  PD A X (.Call (.Attribute a m apos) [] [] pos) (Zp C m 0 t ta zi7):=by
 obtain⟨g,fd,ps,F,hm,c,hb⟩:=M.ex
 exists (zm8 (pl:=pl) ha c hm F hr hb .nil za5 ht).imp λsg H Q h=>by
   obtain⟨rho,n,R,ds,vs,I,ht,hQ⟩:=h;refine⟨rho,n,_,ds,vs,I,ht,λv H' n' d ⟨os,J⟩ k=>?_⟩;obtain⟨q,rfl,fs,hc,hn,k⟩:=k;obtain⟨J1,r⟩:=J.pop;obtain⟨_,_,dx,gs,hp,hf⟩:=J1.cell hc;cases r.rf_inv;refine⟨q,dx,gs,rfl,hp,hf.get.2 hn,?_⟩;have z:spD A.K (0+1) t (.ref q::([]++[])) H' Q E0:=⟨A.G,Zof A os,n',R,[.rf q],rfl,.cons Rep.rf_mk .nil,J1.stZ,λa z=>.inl (J1.gz a z),J1.zH,k.2,λv H3 n3 d fr st gw r q=>hQ v H3 n3 d (J1.called fr st gw r) q⟩;rw[hK];exact z
structure MkeC(P:Program)(w:World)(K:W.Frag)(mg:Str->Option Value)(base:Heap)(C:Addr)(x:Str)(kk k:Nat)(t:TF):Prop where
 ex:∃(f:Addr) (fd:FuncData) (ps:List Str),FnOk P w K mg base CX0 kk f fd ps (spD K (k+1) t)/\Mk K C f/\mg x=some (.ref C)/\Binds K fd ps []
def zw0(C:Addr)(k:Nat)(t:TF)(t1:TAD):TD:=λrho n P=>t1 rho n λes n1=>es.length=k/\∀a,xp n1 a=none->t (.rf a::es) (vN n1 a (.ins C [])) λd n2=>d=.non/\P (.rf a) n2
def Ks{x:Str}{kk k:Nat}{t:TF}(M:MkeC X.prog X.w X.K X.mg X.base C x kk k t)(hr:Room (kk+1) X.A)(hK:X.K=A.K)(ha:PAD A X (e::es) t1)(hg:Gl X x:=by rfl)(hdb:(x == ("__debug__" : Str))=false:=by decide)
  (he:starEach (e::es) X.env=(false,eval e X.env)::starEach es X.env:=by rfl) (hpl:(backTo pos (starEach es X.env)).any (·.1)=false:=by rfl):PD A X (.Call (.Name x p) (e::es) [] pos) (zw0 C k t t1):=by
 obtain⟨f,fd,ps,F,M,hm,hb⟩:=M.ex
 exists (zC0 M F hr hg hm hb .nil za5 ha hdb he hpl).imp λsg H Q h=>by
   obtain⟨rho,n,R,ds,vs,I,ht,hQ⟩:=h;refine⟨rho,n,_,ds,vs,I,ht,λws H1 n1 es1 ⟨os,J⟩ hl k=>?_⟩;intro x dx nx ndx nxd;rw[xX,hK];have J1:=J.grow (o:=.own x) ndx
   have nx1:upd H1 dx (.own x) x=none:=by rw[wr (Ne.symm nxd)];exact nx
   obtain⟨os',J2,_⟩:=J1.wrote (o:=.ins C dx []) (J1.wokNew nx1) (c:=.ins C []) rfl ⟨dx,[],yH,trivial⟩;obtain⟨J3,rs⟩:=J2.split hl
   refine⟨A.G,Zof A os',vN n1 x (.ins C []),_,.rf x::es1,by rw[zu,k.1],.cons Rep.rf_mk rs,J3.stZ,λa z=>.inl (J3.gz a z),J3.zH,k.2 x (J.noCell nx),λv H3 n3 d fr st gw r q=>?_⟩
   obtain⟨rfl,q⟩:=q;exact⟨r.toS rfl,hQ _ H3 n3 _ (J3.called fr st gw Rep.rf_mk) q⟩
def zV0(ta tb:TD):TD:=λrho n P=>ta rho n λd1 n1=>tb rho n1 λd2 n2=>Wu d1 λa=>Za d2 λk=>jl n2 a λkv=>XF (vy k kv) λx=>P x n2
def VT(hu:X.A.units+1<cLine)(ha:PD A X a ta)(hb:PD A X b tb)(hs:xa7 b):PD A X (.Subscript a b pos) (zV0 ta tb):=by
 exists (QW hu ha hb hs).imp λsg H Q h=>by
   obtain⟨rho,n,P,ds,vs,I,ht,hQ⟩:=h;refine⟨rho,n,_,ds,vs,I,ht,λv H' n' d J k=>⟨rho,n',_,d::ds,v::vs,J,k,λv2 H2 n2 x ⟨os,J2⟩ k2=>?_⟩⟩;obtain⟨q,rfl,j,rfl,kv,hc,y,hy,k2⟩:=k2;obtain⟨J3,r2⟩:=J2.pop;obtain⟨J4,r1⟩:=J3.pop;obtain⟨_,_,kvs,hp,hf⟩:=J4.cell hc;obtain⟨u,hu,ru⟩:=hf.get.1 y hy;rw[r1.rf_inv,r2.int_inv]
   exact⟨q,u,rfl,by rw[<- hu];exact DGet.k (k:=.inl j) hp,hQ u H2 n2 y ⟨os,J4.push (Rep.reG _ _ (jB _ (QU hc hy)) ru)⟩ k2⟩
def zU8(neg:Bool)(ta tb:TD):TD:=λrho n P=>ta rho n λd1 n1=>tb rho n1 λd2 n2=>Za d1 λk=>Wu d2 λa=>jl n2 a λkv=>P (.bl ((vy k kv).isSome != neg)) n2
def ze2{neg:Bool}{sg:St}{H:Hp}{Q:VK}(h:tOf A (zU8 neg ta tb) sg H Q):tOp (xe0 neg) (tOf A ta) (tOf A tb) sg H Q:=by
 obtain⟨rho,n,P,ds,vs,I,ht,hQ⟩:=h;refine⟨rho,n,_,ds,vs,I,ht,λv H' n' d J k=>⟨rho,n',_,d::ds,v::vs,J,k,λv2 H2 n2 x ⟨os,J2⟩ k2=>?_⟩⟩;obtain⟨j,rfl,q,rfl,kv,hc,k2⟩:=k2;obtain⟨J3,r2⟩:=J2.pop;obtain⟨J4,r1⟩:=J3.pop;obtain⟨_,_,kvs,hp,hf⟩:=J4.cell hc;rw[r2.rf_inv,r1.int_inv];refine⟨q,YD kvs (.inl j),rfl,DGet.k (k:=.inl j) hp,?_⟩;rw[hf.has];exact hQ _ H2 n2 _ ⟨os,J4.push (Rep.ofS (d:=.bl _) rfl)⟩ k2
def zP1(hu:X.A.units+1<cLine)(ha:PD A X a ta)(hb:PD A X b tb)(hm:behindInMarks .In b=false):PD A X (.Compare a [.In] [b] pos) (zU8 false ta tb):=by exists (QX (zu3 hu) ha hb hm).imp λ_ _ _=>ze2
def QM(hu:X.A.units+1<cLine)(ha:PD A X a ta)(hb:PD A X b tb)(hm:behindInMarks .In b=false):PTD A X (.Compare a [.In] [b] pos) (YR (zU8 false ta tb)):=by exists (VM (zu3 hu) ha hb hm).imp λ_ _ _=>Zu λ_ _ _=>ze2
def YX(hu:X.A.units+1<cLine)(ha:PD A X a ta)(hb:PD A X b tb)(hm:behindInMarks .NotIn b=false):PTD A X (.Compare a [.NotIn] [b] pos) (YR (zU8 true ta tb)):=by exists (VM (za7 hu) ha hb hm).imp λ_ _ _=>Zu λ_ _ _=>ze2
def zK8(ta tb te:TD):TSD:=λF rho n=>te rho n λd n1=>ta rho n1 λx n2=>tb rho n2 λy n3=>Wu x λa=>Za y λk=>jl n3 a λkv=>plD d=true/\kv.length<sizeLine/\F.nx rho (vN n3 a (.dic (vV k d kv)))
def Xz(hu:X.A.units+1<cLine)(ha:PD A X a ta)(hb:PD A X b tb)(he:PD A X e te)(hs:swapsWith e (some (.Subscript a b pos')) pos.line X.env=pure false:=by rfl):PSD A X (.Assign [.Subscript a b pos'] e pos) (zK8 ta tb te):=by
 exists (zA7 hu ha hb he hs).imp λE sg H h=>by
   obtain⟨rho,n,F,ds,vs,I,ht,ok⟩:=h;refine⟨rho,n,_,ds,vs,I,ht,λv H' n' d J k=>⟨rho,n',_,d::ds,v::vs,J,k,λv2 H2 n2 x J2 k2=>⟨rho,n2,_,x::d::ds,v2::v::vs,J2,k2,λv3 H3 n3 y ⟨os,J3⟩ k3=>?_⟩⟩⟩;obtain⟨q,rfl,k,rfl,kv,hc,hd,hl,k3⟩:=k3;obtain⟨J4,r3⟩:=J3.pop;obtain⟨J5,r2⟩:=J4.pop;obtain⟨J6,r1⟩:=J5.pop;obtain⟨_,_,kvs,hp,hf⟩:=J6.cell hc;have w:=J6.wok hc;have pl:=VP (k:=k) (vC hc) hd;rw[r2.rf_inv,r3.int_inv]
   refine⟨q,_,rfl,DPut.k (k:=.inl k) hp (by rw[hf.length];exact hl),?_⟩
   obtain⟨os',J7,_⟩:=J6.wrote (o:=.dK (Xx kvs (.inl k) v)) w pl ⟨_,yH,(w.kv pl J6 hf).put (w.rep pl J6 hd r1)⟩;exact ok.nx _ _ _ _ ⟨os',J7⟩ k3
def zU3(ta tb:TD):TD:=λrho n P=>ta rho n λd1 n1=>Wu d1 λa=>jl n1 a λ_=>tb rho n1 λd2 n2=>Za d2 λk=>jl n2 a λkv=>XF (vy k kv) λx=>P x (vN n2 a (.dic (ky k kv)))
def VR{apos:Pos}(ha:PD A X a ta)(hb:PD A X b tb)(m:M1 X a "pop" apos b pos):PD A X (.Call (.Attribute a "pop" apos) [b] [] pos) (zU3 ta tb):=by
 exists (zn0 ha hb m).imp λsg H Q h=>by
   obtain⟨rho,n,P,ds,vs,I,ht,hQ⟩:=h;refine⟨rho,n,_,ds,vs,I,ht,λv H' n' d ⟨os,J⟩ k=>?_⟩;obtain⟨q,rfl,kv0,hc,k⟩:=k;obtain⟨J1,r⟩:=J.pop;obtain⟨_,_,kvs,hp,_⟩:=J1.cell hc;refine⟨q,r.rf_inv,.inl ⟨kvs,.inl hp⟩,rho,n',_,ds,vs,⟨os,J1⟩,k,λv2 H2 n2 d2 ⟨os2,J2⟩ k2=>?_⟩;obtain⟨k,rfl,kv,hc2,x,hx,k2⟩:=k2;obtain⟨J3,r2⟩:=J2.pop;obtain⟨_,_,kvs2,hp2,hf2⟩:=J3.cell hc2;obtain⟨u,hu,ru⟩:=hf2.get.1 x hx;have w:=J3.wok hc2;have pl:=Kl (k:=k) (vC hc2);have px:=QU hc2 hx;have J4:=J3.push (Rep.reG (G':=A.G) _ _ (jB _ px) ru);obtain⟨os',J5,_⟩:=J4.wrote (o:=.dK (Zg kvs2 (.inl k))) (J4.wok hc2) pl ⟨_,yH,((J4.wok hc2).kv pl J4 hf2).drop⟩;exact⟨kvs2,.inl k,u,hp2,r2.int_inv,hu,hQ u _ _ x ⟨os',J5⟩ k2⟩
def zU7(t:TAD):TD:=λrho n P=>t rho n λes n1=>∃a,es=[.rf a]/\jl n1 a λkv=>P (.int (kv.length:Int)) n1
def zC4{np:Pos}(hm:X.mg "len" = none)(ha:PAD A X [a] t1)(hg:Gl X "len" := by rfl)
  (he:starEach [a] X.env=(false,eval a X.env)::starEach [] X.env:=by rfl) (hpl:(backTo pos (starEach [] X.env)).any (·.1)=false:=by rfl):PD A X (.Call (.Name "len" np) [a] [] pos) (zU7 t1):=by
 exists (Kq zh7 hg hm rfl ha w6 w6 he hpl).imp λsg H Q h=>by
   obtain⟨rho,n,P,ds,vs,I,ht,hQ⟩:=h;refine⟨rho,n,_,ds,vs,I,ht,λws H' n' es' ⟨os,J⟩ hl k=>?_⟩;obtain⟨q,rfl,kv,hc,k⟩:=k;obtain⟨J1,rs⟩:=J.split hl;obtain⟨v,rfl,r⟩:=kC rs;obtain⟨_,_,kvs,hp,hf⟩:=J1.cell hc;cases r.rf_inv
   exact⟨q,kvs,rfl,hp,by rw[hf.length];exact hQ _ H' n' _ ⟨os,J1.push (Rep.ofS (d:=.int _) rfl)⟩ k⟩
end
@[simp] theorem xk3{rho n P}:zU6 rho n P=∀a,xp n a=none->P (.rf a) (vN n a (.dic [])):=rfl
@[simp] theorem xk6{C f t rho n P}:zU9 C f t rho n P=t rho n λd n'=>Wu d λa=>Zq C n' a λfs=>XF (qF f fs) λx=>P x n':=rfl
@[simp] theorem xf7{C f ta te F rho n}:zL4 C f ta te F rho n=te rho n λd n1=>ta rho n1 λx n2=>Wu x λa=>Zq C n2 a λfs=>plD d=true/\fs.length<1000/\F.nx rho (vN n2 a (.ins C (Xy f d fs))):=rfl
@[simp] theorem zI5{C f ta te F rho n}:UY C f ta te F rho n=ta rho n λx n1=>Wu x λa=>Zq C n1 a λfs=>XF (qF f fs) λy=>Za y λi=>te rho n1 λd n2=>Za d λj=>Zq C n2 a λfs2=>fs2.length<1000/\F.nx rho (vN n2 a (.ins C (Xy f (.int (i+j)) fs2))):=rfl
@[simp] theorem zZ6{C m k t ta t1 rho n P}:Zp C m k t ta t1 rho n P=ta rho n λd n1=>Wu d λa=>Zq C n1 a λfs=>qF m fs=none/\t1 rho n1 λes n2=>es.length=k/\t (.rf a::es) n2 P:=rfl
@[simp] theorem zZ7{C k t t1 rho n P}:zw0 C k t t1 rho n P=t1 rho n λes n1=>es.length=k/\∀a,xp n1 a=none->t (.rf a::es) (vN n1 a (.ins C [])) λd n2=>d=.non/\P (.rf a) n2:=rfl
@[simp] theorem xk7{ta tb rho n P}:zV0 ta tb rho n P=ta rho n λd1 n1=>tb rho n1 λd2 n2=>Wu d1 λa=>Za d2 λk=>jl n2 a λkv=>XF (vy k kv) λx=>P x n2:=rfl
@[simp] theorem xs9{neg ta tb rho n P}:zU8 neg ta tb rho n P=ta rho n λd1 n1=>tb rho n1 λd2 n2=>Za d1 λk=>Wu d2 λa=>jl n2 a λkv=>P (.bl ((vy k kv).isSome != neg)) n2:=rfl
@[simp] theorem xf3{ta tb te F rho n}:zK8 ta tb te F rho n=te rho n λd n1=>ta rho n1 λx n2=>tb rho n2 λy n3=>Wu x λa=>Za y λk=>jl n3 a λkv=>plD d=true/\kv.length<sizeLine/\F.nx rho (vN n3 a (.dic (vV k d kv))):=rfl
@[simp] theorem xk2{ta tb rho n P}:zU3 ta tb rho n P=ta rho n λd1 n1=>Wu d1 λa=>jl n1 a λ_=>tb rho n1 λd2 n2=>Za d2 λk=>jl n2 a λkv=>XF (vy k kv) λx=>P x (vN n2 a (.dic (ky k kv))):=rfl
@[simp] theorem xk4{t rho n P}:zU7 t rho n P=t rho n λes n1=>∃a,es=[.rf a]/\jl n1 a λkv=>P (.int (kv.length:Int)) n1:=rfl
structure OnlyC(n n':Nat)(l:List Addr):Prop where
 k:kOf n'=kOf n
 o:∀b,b ∉ l->xp n' b=xp n b
def OnlyC.rfl'{n:Nat}{l:List Addr}:OnlyC n n l:=⟨rfl,λ_ _=>rfl⟩
def OnlyC.trans{n n1 n2:Nat}{l r:List Addr}(h:OnlyC n n1 l)(g:OnlyC n1 n2 r):OnlyC n n2 (l++r):=⟨g.k.trans h.k,λb hb=>(g.o b λz=>hb (zr _ z)).trans (h.o b λz=>hb (xf _ z))⟩
def OnlyC.mono{n n1:Nat}{l r:List Addr}(h:OnlyC n n1 l)(s:∀a∈l,a∈r):OnlyC n n1 r:=⟨h.k,λb hb=>h.o b λz=>hb (s b z)⟩
def OnlyC.set{n:Nat}{a:Addr}{c:Cell}(h:plC c=true):OnlyC n (vN n a c) [a]:=⟨ql h,λb hb=>by rw[vJ h,if_neg (by simpa using hb)]⟩
def yl{n:Nat}{a:Addr}{c:Cell}(h:plC c=true):xp (vN n a c) a=some c:=by rw[vJ h,if_pos rfl]
def kA{n:Nat}{a b:Addr}{c:Cell}(h:plC c=true)(hb:b≠a):xp (vN n a c) b=xp n b:=by rw[vJ h,if_neg hb]
def evL{α:Type}:List α->List α
 |[]=>[]
 |[x]=>[x]
 |x::_::r=>x::evL r
def odL{α:Type}:List α->List α
 |[]=>[]
 |[_]=>[]
 |_::y::r=>y::odL r
def zT3{α:Type}(o:Bool)(l:List α):List α:=if o then odL l else evL l
section
variable {X:Cx}{e st:Expr}{te:TE}{lo:Option Expr}{pos p2:Pos}
end
section
variable {A:AC}{X:Cx}{a:Expr}{ta:TD}{pos p2 p3 p4:Pos}
def xo5(o:Bool)(ta:TD):TD:=λrho n P=>ta rho n λd n1=>zb9 d λfs=>P (.lst (zT3 o fs)) n1
@[simp] theorem xk5{o ta rho n P}:xo5 o ta rho n P=ta rho n λd n1=>zb9 d λfs=>P (.lst (zT3 o fs)) n1:=rfl
end
def Ka(l:List Value):slicePick l.toArray none none (some (-1))=l.reverse.toArray:=by
 unfold slicePick;show((sliceRange ((l.toArray.size:Int)-1) (-1) (-1)).filterMap λi=>l.toArray[i]?).toArray=l.reverse.toArray
 have e:sliceRange ((l.toArray.size:Int)-1) (-1) (-1)=(List.range l.length).map fun(k:Nat)=>((l.length:Int)-1+(k:Int)*(-1)).toNat:=by
  unfold sliceRange;simp only[zt]
  have c:(if (-1:Int) > 0 then(if (l.length:Int)-1 < -1 then(-1-((l.length:Int)-1)+-1-1)/ -1 else 0) else(if (l.length:Int)-1 > -1 then((l.length:Int)-1 - -1 - -1-1)/(- -1) else 0)).toNat=l.length:=by
   rw[if_neg w6]
   simp only[Int.neg_neg,Int.ediv_one]
   split<;>lia
  rw[c]
  exact map_congr_left λk _=>by rw[Int.mul_comm]
 rw[e,filterMap_map];have:=zm5 l.toArray;simp only[zt] at this;exact this
section
variable {X:Cx}{e:Expr}{te:TE}{pos p2:Pos}
def xb0(K:W.Frag)(te:TE):TE:=λσ H Q=>te σ H λx H1=>∃a xs,x=.ref a/\SqL K H1 a xs/\∀p,H1 p=none->Q (.ref p) (upd H1 p (.lst xs.reverse))
def zB8{st:Expr}(he:PE X e te)(hst:PE X st λ_ H Q=>Q (.int (-1)) H):PE X (.Subscript e (.Slice none none (some st) p2) pos) (xb0 X.K te):=by
 intro pins s σ H Q I h;refine Subscript_ (thn (he pins s σ H _ I h) λv s1 ⟨x,H1,I1,r1,q1⟩=>?_);obtain⟨a,xs,rfl,hx,q1⟩:=q1;refine wpAny_Slice ?_;rw[evalPart_none];refine zf (zf ?_);rw[evalPart_some];refine thn (hst pins s1 σ H1 (λy H2=>y=.int (-1)/\H2=H1) I1 ⟨rfl,rfl⟩) λu s3 ⟨y,H3,I3,ry,ey,eH⟩=>?_;subst ey eH;obtain⟨tk,rfl⟩:=ry;cases r1;have I4:Inv X pins σ H3 { s3 with heap:=s3.heap.push { cls:=.type "slice",data:=.fields #[.none,.none,.int (-1) tk] } }:=I3.kept (t':=s3.toks) λb ob q=>ze _ q;obtain⟨its,r,ht,hz⟩:=I4.list hx;have hlen:=r.length
 refine tail_any (ops:=[.ref a,.ref s3.heap.objs.size]) ht.isList.typeIs slot_list_getitem.lookup (wpAny_getItem_list_slice ht.isList (Heap.IsSliceOf.new ..) .none .none (.int (-1) tk) (by simp) ?_ (by rw[zt]<;>lia)) (by with_unfolding_all rfl)
 rw[Ka];refine⟨.ref _,_,I4.laid (t':=s3.toks) (o:=.lst xs.reverse) (λb ob q=>ze _ q) (zd _) ?_,rfl,q1 _ (I4.hok.fresh (zd _))⟩
 exact⟨by rw[List.length_reverse];exact hz,its.reverse,0,r.reverse,zD _ rfl⟩
end
section
variable {A:AC}{X:Cx}{a:Expr}{ta:TD}{pos p2 p3 p4:Pos}
def lAt(d:D)(k:List D->Prop):Prop:=match d with |.lst es=>k es |_=>False
@[simp] theorem xz8{es:List D}{k:List D->Prop}:lAt (.lst es) k=k es:=rfl
def zc5{d:D}{k:List D->Prop}(h:lAt d k):∃es,d=.lst es/\k es:=by
 cases d<;>first |exact⟨_,rfl,h⟩ |exact h.elim
def zU2(ta:TD):TD:=λrho n P=>ta rho n λd n1=>lAt d λfs=>P (.lst fs.reverse) n1
@[simp] theorem xk1{rho:Rho}{n:Nat}{P:D->Nat->Prop}:zU2 ta rho n P=ta rho n λd n1=>lAt d λfs=>P (.lst fs.reverse) n1:=rfl
def zC3{j:Nat}(hK:X.K=A.K)(ha:PD A X a ta):PD A X (.Subscript a (.Slice none none (some (.UnaryOp .USub (.Constant (.int 1) j p4) p3)) p2) pos) (zU2 ta):=by
 exists (zB8 ha ((zO4 zs3 zt9).imp λsg H Q q=>⟨1,rfl,q⟩)).imp λsg H Q h=>by
   obtain⟨rho,n,P,ds,vs,I,ht,hQ⟩:=h;refine⟨rho,n,_,ds,vs,I,ht,λv H1 n1 d ⟨os,J⟩ k=>?_⟩;obtain⟨fs,rfl,k⟩:=zc5 k;obtain⟨J1,r⟩:=J.pop;obtain⟨l,xs,rfl,sq,rs⟩:=r.lst_inv;rw[hK];exact⟨l,xs,rfl,sq.sq,λp hp=>hQ _ _ n1 _ ⟨os,J1.newLst rs.reverse hp⟩ k⟩
end
end L2
namespace L2
open PySem PySem.Spec PyProof.Rows PySem.SeqAt
abbrev NRow:=Int × List D
def NRow.d(x:NRow):D:=.tup (.int x.1::x.2)
def zR5:List D->(D->Prop)->Prop:=λes k=>∃rows:List NRow,es=[.lst (rows.map NRow.d)]/\rows.length<900/\(rows.map (·.1)).Nodup/\∀rows':List NRow,rows'.Perm rows->rows'.Pairwise (λx y=>x.1<y.1)->k (.lst (rows'.map NRow.d))
def Ua{X:Cx}{pins:List (Addr × Obj)}{σ:St}{H:Hp}{s:Shared}{G:Option Addr}{Z:Addr->Prop}(I:Inv X pins σ H s){x:NRow}{v:V}{u:Value}(r:Rep X.K G Z H x.d v)(q:RelV v u):∃t rest,Srt.Tup s.heap u (.int x.1 t) rest:=by
 unfold NRow.d at r;obtain⟨a,xs,rfl,sq,rs⟩:=r.tup_inv;have e:u=.ref a:=q;subst e;obtain⟨its,rv,pl,_⟩:=I.tuple sq.sq;obtain⟨z0,xs1,rfl,r0,_⟩:=rs.split;have e1:=r0.int_inv;subst e1
 cases rv with
 |cons h0 t0=>
  obtain⟨t,rfl⟩:=h0;exact⟨t,_,a,rfl,pl⟩
def KP{A:AC}{X:Cx}(hK:X.K=A.K):vd A (QD X) zR5:=by
 rintro os n rho sg H ds vs es ws k Q I rs ⟨rows,rfl,hl,hnd,q⟩ hQ;obtain⟨v,rfl,r⟩:=kC rs;obtain⟨a,xs,rfl,sq,rr⟩:=r.lst_inv
 have len:xs.length=rows.length:=by rw[rr.length,zn]
 have dist:∀i j,i<rows.length->j<rows.length->i≠j->(rows.getD i (0,[])).1≠(rows.getD j (0,[])).1:=λi j hi hj hij e=>by
  have g:∀i (hi:i<rows.length),(rows.map (·.1))[i]'(by simpa using hi)=(rows.getD i (0,[])).1:=λi hi=>by
   rw[List.getElem_map,xb,zj hi];rfl
  have f:=xF.mp hnd
  rcases Nat.lt_or_gt_of_ne hij with l |l
  ·exact f i j (by simpa using hi) (by simpa using hj) l (by rw[g i hi,g j hj,e])
  ·exact f j i (by simpa using hj) (by simpa using hi) l (by rw[g i hi,g j hj,e])
 rw[<- hK] at rr
 refine⟨a,xs,true,λi j=>decide ((rows.getD i (0,[])).1<(rows.getD j (0,[])).1),rfl,by rw[hK];exact sq.sq,w5,λi j hi hj hij=>?_,λi j l _ _ _ h1 h2=>?_,λi hi=>?_,λi j hi hj hij=>?_,λls hp hU l hl'=>?_⟩
 ·have := dist i j w5 w5 hij
  dsimp only
  by_cases c:(rows.getD i (0,[])).1<(rows.getD j (0,[])).1
  ·rw[xC c,zU w5];rfl
  ·rw[zU c,xC w5];rfl
 ·have h1 := of_decide_eq_true h1;have h2:=of_decide_eq_true h2
  exact xC w5
 ·intro pins s σ u J ru
  obtain⟨t,rest,T⟩:=Ua J (rr.getD (enc:=NRow.d) (a0:=(0,[])) w5) ru
  exact⟨_,_,T,typeIs_int s _ t⟩
 ·intro pins s σ u v J ru rv B hB
  obtain⟨t,ps,T⟩:=Ua J (rr.getD (enc:=NRow.d) (a0:=(0,[])) (i:=i) w5) ru
  obtain⟨t',ps',T'⟩:=Ua J (rr.getD (enc:=NRow.d) (a0:=(0,[])) (i:=j) w5) rv
  refine⟨_,_,_,_,T,T',.here ?_ ?_⟩
  ·have := EqAt.int_int (A := B) (s := s) (rows.getD i (0, [])).1 t (rows.getD j (0, [])).1 t'
   have e2:((rows.getD i (0,[])).1 == (rows.getD j (0,[])).1)=false:=by simpa using dist i j w5 w5 hij
   rw[e2] at this;exact this
  ·intro prog w E Q h;exact Srt.qh _ h
 ·rw [len] at hp hU
  have hls:∀i∈ls.toList,i<rows.length:=λi hi=>by
   have:=(hp.mem_iff).mp (Array.mem_toList_iff.mp hi)
   rwa [Array.mem_range] at this
  have hsz:ls.size=rows.length:=by rw[hp.size_eq,wU]
  rw[hK] at rr;refine hQ _ _ _ ⟨os,I.newLst (ZP (a0:=((0,[]):NRow)) rr hls) hl'⟩ (q _ ?_ ?_)
  ·have p1 : ls.toList.Perm (List.range rows.length) := by
    have:=xN.mp hp
    rwa [yv] at this
   have p2:=p1.map λi=>rows.getD i (0,[])
   rwa [WM] at p2
  ·rw [xV, xF];intro i j hi hj hij
   have hi':i<ls.size:=by simpa using hi
   have hj':j<ls.size:=by simpa using hj
   have u:=hU i j hij w5
   have g:∀i (hi:i<ls.size),Srt.lab ls i=ls.toList[i]'(by simpa using hi):=λi hi=>by
    refine Srt.vI ?_
    rw[<- zG,zj (by simpa using hi)]
   rw[g i hi',g j hj'] at u;exact of_decide_eq_true u
section
variable {X:Cx}{A:AC}
def Ke(X:Cx):List V->Hp->VK->Prop:=λxs H Q=>∃(p:Addr) (ns:List Int),xs=[.ref p]/\SqT X.K H p (ns.map V.int)/\ns.length<2000/\∀ms:List Int,ms.Perm ns->ms.Pairwise (·<=·)->∀l,H l=none->Q (.ref l) (upd H l (.lst (ms.map V.int)))
def Ve:qw X (.builtin "sorted") (Ke X):=by
 intro pins s σ H xs us Q I r h;obtain⟨p,ns,rfl,hq,hn,q⟩:=h
 cases r with
 |cons r rr=>
  cases rr;cases r;obtain⟨its,rv,pl,_⟩:=I.tuple hq
  have hsz:its.length=ns.length:=by have:=rv.length;simpa using this.symm
  refine Wh (λ_ _ _ hz h=>Srt.Uz pl h hz) (qO rv) w5 λout ms hi hp hs=>?_
  obtain⟨e,he⟩:=sortedAll_at s.heap its out;have hml:ms.length=ns.length:=hp.length_eq;have hf:H (s.heap.objs.size+1)=none:=I.hok.fresh (xl _);refine⟨.ref (s.heap.objs.size+1),_,I.laid (t':=s.toks) (o:=.lst (ms.map V.int)) (λb u e=>sortedAll_old e) (xl _) ?_,rfl,q ms hp hs _ hf⟩
  exact⟨by rw[zn];exact zw (show ms.length<=2000 by lia) w6,out.toList,e,qx hi,he⟩
def zp4:List D->(D->Prop)->Prop:=λes k=>∃ns:List Int,es=[.tup (ns.map D.int)]/\ns.length<2000/\∀ms:List Int,ms.Perm ns->ms.Pairwise (·<=·)->k (.lst (ms.map D.int))
def JM(hK:X.K=A.K):vd A (Ke X) zp4:=by
 rintro os n rho sg H ds vs es ws k Q I rs ⟨ns,rfl,hn,q⟩ hQ;obtain⟨v,rfl,r⟩:=kC rs;obtain⟨a,xs,rfl,sq,rr⟩:=r.tup_inv;have e:=vG rr;subst e;rw[hK.symm] at sq;exact⟨a,ns,rfl,sq.sq,hn,λms h1 h2 l hl=>hQ _ _ _ ⟨os,I.newLst kQ hl⟩ (q ms h1 h2)⟩
end
end L2
namespace L2
theorem Qa:∀{xs:List V}{us:List Value},us.length=xs.length->(∀(j:Nat) (u:Value),us[j]?=some u->∃x,xs[j]?=some x/\RelV x u)->Vals xs us
 |[],[],_,_=>.nil
 |x::xs,u::us,hl,h=>by
  obtain⟨y,e,r⟩:=h 0 u rfl;cases e
  exact .cons r (Qa (by simpa using hl) λj v e=>h (j+1) v e)
def zE6{P:Program}{w:World}{k:Key}{v:Value}(h:(yY P w).is k v=true):RelV (kV k) v:=by
 rcases yO (k:=k) (v:=v) h with ⟨i,t,rfl,rfl⟩ |⟨x,t,rfl,rfl⟩
 ·exact⟨t,rfl⟩
 ·exact⟨t,rfl⟩
theorem zc8{κ:Type}:∀{a:List (κ × V)}{b:List (κ × Value)},KV a b->b.map (·.1)=a.map (·.1)
 |[],_,h=>by cases h;rfl
 |p::a,_,h=>by
  cases h with
  |@cons _ q _ qs h1 h2=>rw[zy,zy,h1.1,zc8 h2]
section
variable {X:Cx}{A:AC}{pos p:Pos}
def UC(hh:X.A.handled=none):qw X (.type "list") (λxs H Q=>∃a kvs,xs=[.ref a]/\H a=some (.dK kvs)/\∀l,H l=none->Q (.ref l) (upd H l (.lst (kvs.map λp=>kV p.1)))):=by
 intro pins s σ H xs us Q I r h;obtain⟨a,kvs,rfl,e,q⟩:=h;obtain⟨u,rfl,rx⟩:=YC r;cases rx;obtain⟨z,hd,vs,rel,dd⟩:=zG7 I.hok e;obtain⟨o,es,ep,dd⟩:=dd;have hl:=rel.length;have ek:=zc8 rel
 refine W.kdl_call (W.kdl_dict (knd:=yY _ _) (kvs:=vs) (ep:=ep) hd) hh ⟨o,es,dd⟩ (by rw[<- hl];exact z) λh' tk acc c' hk hS hacc=>?_
 have hv:Vals (kvs.map λp=>kV p.1) acc.toList:=by
  refine Qa (by rw[zg,hacc.1,zn,<- hl]) λj u hj=>?_
  rw[zG] at hj;obtain⟨k,x,hx,hi⟩:=hacc.2 j u hj
  have e1:(vs.map (·.1))[j]?=some k:=by rw[zB,hx];rfl
  rw[ek,zB] at e1;obtain⟨y,hy,rfl⟩:=wv.mp e1
  exact⟨kV y.1,by rw[zB,hy];rfl,zE6 hi⟩
 refine⟨.ref s.heap.objs.size,_,I.laid (t':=tk) (o:=.lst (kvs.map λp=>kV p.1)) hk (zd _) ?_,rfl,q _ (I.hok.fresh (zd _))⟩
 exact⟨by rw[zn];exact z,acc.toList,c',hv,by rw[Array.toArray_toList];exact hS⟩
theorem KvR.keys{K:W.Frag}{Z:Addr->Prop}{H:Hp}:∀{l:List (Int × D)}{r:List (Key × V)},KvR K Z H l r->(r.map λp=>kV p.1)=(l.map λp=>V.int p.1)
 |[],[],_=>rfl
 |p::l,q::r,h=>by rw[zy,zy,KvR.keys h.2.2,h.1];rfl
def zw1(t:TAD):TD:=λrho n P=>t rho n λes n1=>∃a,es=[.rf a]/\jl n1 a λkv=>P (.lst (kv.map λp=>.int p.1)) n1
@[simp] theorem zZ8{t rho n P}:zw1 t rho n P=t rho n λes n1=>∃a,es=[.rf a]/\jl n1 a λkv=>P (.lst (kv.map λp=>.int p.1)) n1:=rfl
def Kt{l:Nat}{a:Expr}{t1:TAD}(hr:Room l X.A)(hm:X.mg "list" = none)(ha:PAD A X [a] t1)(hg:Gl X "list" := by rfl)
  (he:starEach [a] X.env=(false,eval a X.env)::starEach [] X.env:=by rfl) (hpl:(backTo pos (starEach [] X.env)).any (·.1)=false:=by rfl):PD A X (.Call (.Name "list" p) [a] [] pos) (zw1 t1):=by
 exists (WC (UC hr.hd) hg hm zi0 ha w6 w6 he hpl).imp λsg H Q h=>by
   obtain⟨rho,n,P,ds,vs,I,ht,hQ⟩:=h;refine⟨rho,n,_,ds,vs,I,ht,λws H' n' es' ⟨os,J⟩ hl k=>?_⟩;obtain⟨q,rfl,kv,hc,k⟩:=k;obtain⟨J1,rs⟩:=J.split hl;obtain⟨v,rfl,r⟩:=kC rs;obtain⟨_,_,kvs,hp,hf⟩:=J1.cell hc;cases r.rf_inv;refine⟨q,kvs,rfl,hp,λl hl'=>hQ _ _ n' _ ⟨os,?_⟩ k⟩;rw[hf.keys];refine J1.newLst ?_ hl'
   have e1:(kv.map λp=>D.int p.1)=(kv.map (·.1)).map D.int:=by rw[xh];rfl
   have e2:(kv.map λp=>V.int p.1)=(kv.map (·.1)).map V.int:=by rw[xh];rfl
   rw[e1,e2];exact kQ
end
section
variable {X:Cx}{pins:List (Addr × Obj)}{σ:St}{H:Hp}{s:Shared}
def Inv.pin1{a:Addr}{o:Obj}(I:Inv X pins σ H s)(hf:FpOk X pins H a)(ho:s.heap.get? a=some o)(hc:∀v,o.data≠.cell v):Inv X ((a,o)::pins) σ H s:=by
 refine⟨I.ok,I.os,I.bare,I.base,I.loc,I.cell,I.free,I.freeC,λp hp=>?_,I.hok,I.len⟩
 rcases zN.mp hp with hp |hp
 ·exact I.pin p (xf _ hp)
 ·rcases zh.mp hp with rfl | hp
  ·exact⟨ho,hf.1,hf.2.1,hf.2.2.1,hc⟩
  ·exact I.pin p (zr _ hp)
def Inv.unpin{q:Addr × Obj}(I:Inv X (q::pins) σ H s):Inv X pins σ H s:=
 ⟨I.ok,I.os,I.bare,I.base,I.loc,I.cell,I.free,I.freeC,λp hp=>I.pin p (by
  rcases zN.mp hp with hp |hp
  ·exact xf _ hp
  ·exact zr _ (zk _ hp)),I.hok,I.len⟩
def FpOk.reH{b:Addr}{H':Hp}(h:FpOk X pins H b)(hn:H' b=none):FpOk X pins H' b:=⟨hn,h.2⟩
def FpOk.more{b:Addr}{q:Addr × Obj}(h:FpOk X pins H b)(hq:q.1≠b):FpOk X (q::pins) H b:=
 ⟨h.1,h.2.1,h.2.2.1,h.2.2.2.1,h.2.2.2.2.1,λp hp=>by
  rcases zN.mp hp with hp |hp
  ·exact h.2.2.2.2.2 p (xf _ hp)
  ·rcases zh.mp hp with rfl | hp
   ·exact hq
   ·exact h.2.2.2.2.2 p (zr _ hp)⟩
def Inv.pinAt{q:Addr × Obj}(I:Inv X pins σ H s)(h:q∈pins):s.heap.get? q.1=some q.2/\H q.1=none:=
 let z:=I.pin q (zr _ h);⟨z.1,z.2.1⟩
end
abbrev YT(elt tg1 it1:Expr)(ifs1:List Expr)(tg2 it2:Expr)(ifs2:List Expr)(scope:Scope)(pos:Pos):Expr:=.ListComp elt [⟨tg1,it1,ifs1,0⟩,⟨tg2,it2,ifs2,0⟩] scope pos
def Qd(elt tg1 it1:Expr)(ifs1:List Expr)(tg2 it2:Expr)(ifs2:List Expr)(scope:Scope)(pos:Pos)(it acc:Value)(env:Env) :
  compTurn (YT elt tg1 it1 ifs1 tg2 it2 ifs2 scope pos) 0 it acc env=(do
   standAt it1.pos
   match <- pyNext it with
   |none=>pure (.done .next)
   | some v =>
    letOwnedTupleGo tg1 it v
    assign tg1 env v
    let ok <- Yw ifs1 env
    if ok then
     let x <- eval it2 env
     standAt it2.pos
     let x <- foldedSetIterable it2 env x
     let _ <- runOwn (.compStart (YT elt tg1 it1 ifs1 tg2 it2 ifs2 scope pos) 1 (<- holding [x] (pyIter x)) acc env) env
    again (.compLoop (YT elt tg1 it1 ifs1 tg2 it2 ifs2 scope pos) 0 it acc env)):=by rfl
def Qc(elt tg1 it1:Expr)(ifs1:List Expr)(tg2 it2:Expr)(ifs2:List Expr)(scope:Scope)(pos:Pos)(it acc:Value)(env:Env) :
  compTurn (YT elt tg1 it1 ifs1 tg2 it2 ifs2 scope pos) 1 it acc env=(do
   standAt it2.pos
   match <- pyNext it with
   |none=>pure (.done .next)
   | some v =>
    letOwnedTupleGo tg2 it v
    assign tg2 env v
    let ok <- Yw ifs2 env
    if ok then
     (do let _ <- call (.builtin "list.append") [acc,<- eval elt env])
    again (.compLoop (YT elt tg1 it1 ifs1 tg2 it2 ifs2 scope pos) 1 it acc env)):=by rfl
section
variable {prog:Program}{w:World}{A:Around}{R:Result->Shared->Prop}{s:Shared}{elt tg1 it1 tg2 it2:Expr}{ifs1 ifs2:List Expr}{scope:Scope}{pos:Pos}{it acc:Value}{env:Env}
def upF{α:Type}{t:Sem α}{Q Q':α->Shared->Prop}{E:Value->Shared->Prop}{s:Shared}(h:wpAny (model prog w) A t Q (λ_ _=>False) s)(f:∀a s,Q a s->Q' a s):wpAny (model prog w) A t Q' E s:=ye h f λ_ _ z=>False.elim z
def JP(J:Nat->Shared->Prop)(hs:∀x,foldedSetIterable it2 env x=pure x)
  (turn : ∀ n s, J n s -> wpAny (model prog w) A (pyNext it) (λr s1 => match r with
   |none=>R (.ok .next) s1
   | some v => wpAny (model prog w) A (letOwnedTupleGo tg1 it v) (λ_ s2 => wpAny (model prog w) A (assign tg1 env v) (λ_ s3 => wpAny (model prog w) A (Yw ifs1 env) (λok s4 =>
     if ok=true then wpAny (model prog w) A (eval it2 env) (λx s5=>wpAny (model prog w) A (pyIter x) (λitv s6=>codeAny (model prog w) A (.compStart (YT elt tg1 it1 ifs1 tg2 it2 ifs2 scope pos) 1 itv acc env) (λr s7=>(∃f,r=.ok f)/\∃m,m<n/\J m s7) s6) (λ_ _=>False) s5) (λ_ _=>False) s4
     else ∃m,m<n/\J m s4) (λ_ _=>False) s3) (λ_ _=>False) s2) (λ_ _=>False) s1) (λ_ _=>False) s)
  (n:Nat) (h:J n s):codeAny (model prog w) A (.compLoop (YT elt tg1 it1 ifs1 tg2 it2 ifs2 scope pos) 0 it acc env) R s:=by
 refine codeAny_loop rfl J (λn s hJ=>?_) n h
 show wpAny _ A ((compTurn (YT elt tg1 it1 ifs1 tg2 it2 ifs2 scope pos) 0 it acc env).onRaise (λx=>do noteFrame x env;theTreesLotGoes x)) _ _ s
 refine wpAny_noted ?_;rw[Qd];refine zb (wk (zb (upF (turn n s hJ) λr s1 h1=>?_)))
 cases r with
 |none=>exact zf h1
 | some v =>
  refine zb (upF h1 λ_ s2 h2=>?_);refine zb (upF h2 λ_ s3 h3=>?_);refine zb (upF h3 λok s4 h4=>?_)
  cases ok with
  |false=>exact zf ⟨rfl,h4⟩
  |true=>
   refine zb (upF h4 λx s5 h5=>?_);refine zb (wk (zb (wpAny_of_eq (hs x) ?_)));refine zb (wF (upF h5 λitv s6 h6=>?_));refine zb (wpAny_runOwn (codeAny_mono (show codeAny (model prog w) (A.mark none) _ _ _ from h6) λr s7 h7=>?_));obtain⟨⟨f,rfl⟩,h7⟩:=h7;exact zf ⟨rfl,h7⟩
def JO(J:Nat->Shared->Prop)
  (turn : ∀ n s, J n s -> wpAny (model prog w) A (pyNext it) (λr s1 => match r with
   |none=>R (.ok .next) s1
   | some v => wpAny (model prog w) A (letOwnedTupleGo tg2 it v) (λ_ s2 => wpAny (model prog w) A (assign tg2 env v) (λ_ s3 => wpAny (model prog w) A (Yw ifs2 env) (λok s4 =>
     if ok=true then wpAny (model prog w) A (eval elt env) (λx s5=>wpAny (model prog w) A (call (.builtin "list.append") [acc,x]) (λ_ s6=>∃m,m<n/\J m s6) (λ_ _=>False) s5) (λ_ _=>False) s4
     else ∃m,m<n/\J m s4) (λ_ _=>False) s3) (λ_ _=>False) s2) (λ_ _=>False) s1) (λ_ _=>False) s)
  (n:Nat) (h:J n s):codeAny (model prog w) A (.compLoop (YT elt tg1 it1 ifs1 tg2 it2 ifs2 scope pos) 1 it acc env) R s:=by
 refine codeAny_loop rfl J (λn s hJ=>?_) n h
 show wpAny _ A ((compTurn (YT elt tg1 it1 ifs1 tg2 it2 ifs2 scope pos) 1 it acc env).onRaise (λx=>do noteFrame x env;theTreesLotGoes x)) _ _ s
 refine wpAny_noted ?_;rw[Qc];refine zb (wk (zb (upF (turn n s hJ) λr s1 h1=>?_)))
 cases r with
 |none=>exact zf h1
 |some v=>
  refine zb (upF h1 λ_ s2 h2=>?_);refine zb (upF h2 λ_ s3 h3=>?_);refine zb (upF h3 λok s4 h4=>?_)
  cases ok with
  |false=>exact zf ⟨rfl,h4⟩
  |true=>exact zb (zb (upF h4 λx s5 h5=>zb (upF h5 λ_ s6 h6=>zf (zf ⟨rfl,h6⟩))))
def Wf{d:Nat}(hd:d=0\/d=1)
  (h0:codeAny (model prog w) A (.compLoop (YT elt tg1 it1 ifs1 tg2 it2 ifs2 scope pos) d it acc env) R s)
  (h:wpAny (model prog w) A (pyIter it) (λit' s'=>codeAny (model prog w) A (.compLoop (YT elt tg1 it1 ifs1 tg2 it2 ifs2 scope pos) d it' acc env) R s') (λ_ _=>False) s) :
  codeAny (model prog w) A (.compStart (YT elt tg1 it1 ifs1 tg2 it2 ifs2 scope pos) d it acc env) R s:=by
 refine codeAny_of_tree ?_
 show wpAny _ _ ((compStart (YT elt tg1 it1 ifs1 tg2 it2 ifs2 scope pos) d it acc env).onRaise (λx=>do noteFrame x env;standAt theWindowsPlace)) _ _ s
 refine wpAny_notedAt ?_;unfold compStart
 rcases hd with rfl |rfl
 ·show wpAny _ _ (ask >>= _) _ _ s;refine zb (wpAny_askSetting (wpAny_ite ?_))
  split
  ·first
    |exact zb (zf (zf ⟨rfl,h0⟩))
    |exact zf ⟨rfl,h0⟩
  ·refine zb (yc ?_);show wpAny _ _ (standAt it1.pos >>= _) _ _ s;exact zb (wk (zb (upF h λit' s' h'=>zf ⟨rfl,h'⟩)))
 ·show wpAny _ _ (ask >>= _) _ _ s;refine zb (wpAny_askSetting (wpAny_ite ?_))
  split
  ·first
    |exact zb (zf (zf ⟨rfl,h0⟩))
    |exact zf ⟨rfl,h0⟩
  ·refine zb (yc ?_);show wpAny _ _ (standAt it2.pos >>= _) _ _ s;exact zb (wk (zb (upF h λit' s' h'=>zf ⟨rfl,h'⟩)))
end
def Vr(σ σ':St):Prop:=∀(j:Nat) (v:V),σ[j]?=some (some v)->σ'[j]?=some (some v)
section
variable {X':Cx}{P5:List (Addr × Obj)}{σ6:St}{H8:Hp}{s8:Shared}{elt tg1 it1 tg2 it2:Expr}{ifs1 ifs2:List Expr}{scope:Scope}{pos:Pos}{g2:TG}{tt2:TT}{te:TE}
def UR(J2:It)(g2:TG)(tt2:TT)(te:TE)(Qs:List V->St->Hp->Prop)(W2:Nat->Nat->List V->St->Hp->Prop):Prop:=∀i n acc σ H,W2 i n acc σ H ->
 (J2.stop i H /\ Qs acc σ H) \/ (J2.go i H /\ acc.length < sizeLine /\ ∀ y H6, J2.yld i H y H6 -> g2 y σ H6 λσ3 H7 => tt2 σ3 H7 λc H8 =>
  if c=true then te σ3 H8 λv H9=>∃n',n'<n/\W2 (i+1) n' (acc++[v]) σ3 H9 else ∃n',n'<n/\W2 (i+1) n' acc σ3 H8)
def JF(xc:X'.calm=true)(xe:X'.xe=λ_ _=>False)(gg:PG X' tg2 g2)(gt:PTs X' ifs2 tt2)(ge:PE X' elt te){D:Addr}{its:List Value}{k:Nat}{acc:List V}(I:Inv X' P5 σ6 H8 s8)(hD:H8 D=none)(hDo:s8.heap.get? D=some { cls:=.type "list",data:=.seq its.toArray k })(rv:Vals acc its)
  (dL:D≠X'.env.locals) (dF:D ∉ X'.fs) (dS:D∈X'.ex\/X'.s₀.heap.objs.size<=D) (dC:∀x c,X'.env.cells.lookup x=some c->c≠D) (dP:∀p∈X'.pn++P5,p.1≠D)
  {it:Addr}{fp:List Addr}{tn:Nat->Heap->Prop}{J2:It} (T:Turn X'.prog X'.w X'.K tg2 J2 fp it tn) (st:tn 0 s8.heap) (f:∀b∈fp,FpOk X' P5 H8 b) (Dfp:D ∉ fp) {W2:Nat->Nat->List V->St->Hp->Prop} (w0:∃n,W2 0 n acc σ6 H8) {Qs:List V->St->Hp->Prop} (turns:UR J2 g2 tt2 te Qs W2) :
  codeAny (model X'.prog X'.w) X'.A (.compLoop (YT elt tg1 it1 ifs1 tg2 it2 ifs2 scope pos) 1 (.ref it) (.ref D) X'.env)
   (λr s'=>(∃f,r=.ok f)/\∃σ' acc2 its' k' H',Inv X' P5 σ' H' s'/\H' D=none/\s'.heap.get? D=some { cls:=.type "list",data:=.seq (List.toArray its') k' }/\Vals acc2 its'/\Qs acc2 σ' H') s8:=by
 obtain⟨n0,w0⟩:=w0
 refine JO (λn s'=>∃i acc σ' H' its k,Inv X' P5 σ' H' s'/\tn i s'.heap/\(∀b∈fp,H' b=none)/\H' D=none /\
   s'.heap.get? D=some { cls:=.type "list",data:=.seq (List.toArray its) k }/\Vals acc its/\W2 i n acc σ' H') ?_ n0 ⟨0,acc,σ6,H8,its,k,I,st,λb hb=>(f b hb).1,hD,hDo,rv,w0⟩
 rintro n s3 ⟨i,acc,σ3,H3,its,k,I3,st3,fr3,hD,hDo,rv,w3⟩
 have nc:∀(xs:Array Value) (m:Nat) (v:Option Value),({ cls:=.type "list",data:=.seq xs m }:Obj).data≠.cell v:=λ_ _ _ z=>by cases z
 have fD:FpOk X' P5 H3 D:=⟨hD,dL,dF,dS,dC,dP⟩;have I3':=I3.pin1 fD hDo (nc _ _)
 have ff:∀{H:Hp},(∀b∈fp,H b=none)->∀b∈fp,FpOk X' ((D,{ cls:=.type "list",data:=.seq (List.toArray its) k })::P5) H b:=λ{H} hn b hb=>((f b hb).reH (hn b hb)).more fun(z:D=b)=>Dfp (by rw[z];exact hb)
 rcases turns i n acc σ3 H3 w3 with ⟨stop,q⟩ |⟨go,hsz,step⟩
 ·refine thn (T.done X' rfl rfl rfl xc i _ s3 σ3 H3 (λ_ _=>False) I3' (ff fr3) st3 stop) λr s4 ⟨hr,I5⟩=>?_;subst hr;exact⟨⟨_,rfl⟩,σ3,acc,its,k,H3,I5.unpin,hD,(I5.pinAt (.head _)).1,rv,q⟩
 ·refine thn (T.item X' rfl rfl rfl xc i _ s3 σ3 H3 (λ_ _ => False) I3' (ff fr3) st3 go) λr s4 ⟨u, hr, h4⟩ => ?_;subst hr;refine thn h4 λ_ s5 ⟨y,H5,I5,r5,y5,st5,fr5⟩=>?_;have I5p:=I5.pinned (ff fr5) (T.obj _ _ st5);have a1:=gg _ s5 _ H5 y u _ I5p r5 (step y H5 y5);rw[xe] at a1;refine thn a1 λ_ s6 ⟨σ7,H6,I6,q6⟩=>?_;have a2:=gt _ s6 σ7 H6 _ I6 q6;rw[xe] at a2;refine thn a2 λb s7 ⟨H7,I7,q7⟩=>?_
  have back:∀{H:Hp}{s:Shared},Inv X' (((D,{ cls:=.type "list",data:=.seq (List.toArray its) k })::P5)++qu fp s5.heap) σ7 H s ->
    (tn (i+1) s.heap/\(∀b∈fp,H b=none)/\H D=none/\s.heap.get? D=some { cls:=.type "list",data:=.seq (List.toArray its) k }/\Inv X' P5 σ7 H s):=λ{H s} I=>by
   refine⟨T.keep _ _ _ st5 λb hb o e=>(I.pinAt (zr _ (yW hb e))).1,λb hb=>?_,(I.pinAt (q:=(D,_)) (xf _ (.head _))).2,(I.pinAt (q:=(D,_)) (xf _ (.head _))).1,I.pins_of λp hp=>?_⟩
   ·obtain⟨o,e,d⟩:=T.obj _ _ st5 b hb;exact(I.pinAt (q:=(b,o)) (zr _ (yW hb e))).2
   ·exact I.pin p (zr _ (xf _ (.tail _ hp)))
  cases b with
  |false=>
   obtain⟨p1,p2,p3,p4,p5⟩:=back I7;obtain⟨m',hm,w7⟩:=q7;exact⟨m',hm,i+1,acc,σ7,H7,its,k,p5,p1,p2,p3,p4,rv,w7⟩
  |true=>
   rw[if_pos rfl] at q7 ⊢;have a3:=ge _ s7 σ7 H7 _ I7 q7;rw[xe] at a3;refine thn a3 λz s8 ⟨v,H8,I8,r8,q8⟩=>?_;obtain⟨p1,p2,p3,p4,p5⟩:=back I8;obtain⟨m',hm,w8⟩:=q8;have hl:=rv.length
   refine wpAny_list_append_plain (items:=List.toArray its) ⟨k,p4⟩ (λh' hpl hs=>?_) (by simp;lia)
   obtain⟨k',hpl⟩:=hpl;have I9:Inv X' P5 σ7 H8 { s8 with heap:=h' }:=p5.turned (t':=s8.toks) (λb o hb e=>hs.extBut b o hb e) p3 dL dS dC dP
   refine⟨m',hm,i+1,acc++[v],σ7,H8,its++[z],k',I9,T.keep _ _ _ p1 λb hb o e=>hs.extBut b o (λz=>Dfp (by rw[<- z];exact hb)) e,p2,p3,?_,rv.append (.cons r8 .nil),w8⟩
   rw[hpl];simp
end
def zs6(wi:TI)(own:Nat)(g1:TG)(tt1:TT)(wi2:TI)(g2:TG)(tt2:TT)(te:TE):TE:=λσ H Q=>wi σ H λJ H1=>∃W:Nat->Nat->List V->Hp->Prop,(∃m,W 0 m [] H1)/\∀i m acc H,W i m acc H ->
 (J.stop i H/\acc.length<=sizeLine/\∀D,H D=none->Q (.ref D) (upd H D (.lst acc))) \/
 (J.go i H /\ ∀ x H', J.yld i H x H' -> g1 x (List.replicate own none ++ σ) H' λσ2 H2 => Vr (List.replicate own none ++ σ) σ2 /\ tt1 σ2 H2 λc H3 =>
  if c=true then wi2 σ2 H3 λJ2 H4=>∃W2:Nat->Nat->List V->St->Hp->Prop,(∃n,W2 0 n acc σ2 H4)/\UR J2 g2 tt2 te (λacc2 σ5 H5=>Vr (replicate own none++σ) σ5/\∃m',m'<m/\W (i+1) m' acc2 H5) W2
  else ∃m',m'<m/\W (i+1) m' acc H3)
section
variable {X:Cx}{scope:Scope}{own M:List Str}{pins:List (Addr × Obj)}{σ:St}{H2:Hp}{s2:Shared}{elt tg1 it1 tg2 it2:Expr}{ifs1 ifs2:List Expr}{pos:Pos}{g1 g2:TG}{tt1 tt2:TT}{te:TE}{wi2:TI}
def JQ(ok:CompOk X scope M)(hc:X.calm=true)(hg:∀C s2 H2 fp,PG (xZ X scope own M C s2 H2 fp) tg1 g1)(ht:∀C s2 H2 fp,PTs (xZ X scope own M C s2 H2 fp) ifs1 tt1)(hi2:∀C s2 H2 fp,PI (xZ X scope own M C s2 H2 fp) tg2 it2 wi2)
  (hg2:∀C s2 H2 fp,PG (xZ X scope own M C s2 H2 fp) tg2 g2) (ht2:∀C s2 H2 fp,PTs (xZ X scope own M C s2 H2 fp) ifs2 tt2) (he:∀C s2 H2 fp,PE (xZ X scope own M C s2 H2 fp) elt te) (hs2:∀C s2 H2 fp x,foldedSetIterable it2 (xZ X scope own M C s2 H2 fp).env x=pure x)
  (I2:Inv X pins σ H2 s2) {it:Addr}{fp:List Addr}{tn:Nat->Heap->Prop}{J:It} (T:Turn X.prog X.w X.K tg1 J fp it tn) (st2:tn 0 s2.heap) (f2:∀b∈fp,FpOk X pins H2 b)
  {W:Nat->Nat->List V->Hp->Prop} (w0:∃m,W 0 m [] H2) {Qf:V->Hp->Prop}
  (turn : ∀ i m acc H, W i m acc H -> (J.stop i H /\ acc.length <= sizeLine /\ ∀ D, H D = none -> Qf (.ref D) (upd H D (.lst acc))) \/
   (J.go i H /\ ∀ x H', J.yld i H x H' -> g1 x (List.replicate own.length none ++ σ) H' λσ2 H2 => Vr (List.replicate own.length none ++ σ) σ2 /\ tt1 σ2 H2 λc H3 =>
    if c=true then wi2 σ2 H3 λJ2 H4=>∃W2:Nat->Nat->List V->St->Hp->Prop,(∃n,W2 0 n acc σ2 H4)/\UR J2 g2 tt2 te (λacc2 σ5 H5=>Vr (replicate own.length none++σ) σ5/\∃m',m'<m/\W (i+1) m' acc2 H5) W2
    else ∃m',m'<m/\W (i+1) m' acc H3))
  {RR:Value->Addr->Result->Shared->Prop}{E:Value->Shared->Prop}
  (fin:∀D C H' s' m,Inv X pins σ H' s'->Qf (.ref D) H'->s'.heap.Ns C m->H' C=none->C≠X.env.locals->X.s₀.heap.objs.size<=C->(∀x c,X.env.cells.lookup x=some c->c≠C)->(∀p∈X.pn++pins,p.1≠C)->RR (.ref D) C (.ok .next) s') :
  wpAny (model X.prog X.w) X.A (newList []) (λacc s3=>wpAny (model X.prog X.w) X.A (newFunctionEnv scope X.env.globals (kD X.env scope.names []) [] X.env.qual none .none (some X.env)) (λcenv s4=>
   codeAny (model X.prog X.w) X.A (.compStart (YT elt tg1 it1 ifs1 tg2 it2 ifs2 scope pos) 0 (.ref it) acc { cenv with scope:=relabel scope X.env }) (RR acc cenv.locals) s4) E s3) E s2:=by
 refine wf (jg ?_);have zC:(s2.heap.push { cls:=.type "list",dict:=none,data:=.seq ([]:List Value).toArray }).objs.size=s2.heap.objs.size+1:=wl ..;dsimp only;rw[zC];generalize hC:s2.heap.objs.size+1=C;generalize hh:pushCells ((s2.heap.push { cls:=.type "list",dict:=none,data:=.seq ([]:List Value).toArray }).push { cls:=.type "dict",data:=.dict #[] }) scope.names=h4
 have fpl:∀b∈fp,FpOk X pins H2 b/\b<s2.heap.objs.size:=λb hb=>by
  obtain⟨o,e,_⟩:=T.obj 0 _ st2 b hb;exact⟨f2 b hb,zA e⟩
 have I4:Inv (xZ X scope own M C s2 H2 fp) [] (replicate own.length none++σ) H2 { s2 with heap:=h4 }:=Kz ok hc I2 fpl hC.symm hh.symm;generalize hX:xZ X scope own M C s2 H2 fp=X' at I4
 have keep4:∀b o,s2.heap.get? b=some o->h4.get? b=some o:=λb o e=>by
  rw[<- hh];exact pushCells_keeps _ _ _ _ (ze _ (ze _ e))
 have hD4:h4.get? s2.heap.objs.size=some { cls:=.type "list",dict:=none,data:=.seq ([]:List Value).toArray }:=by
  rw[<- hh];exact pushCells_keeps _ _ _ _ (ze _ (zD _ rfl))
 have st4:tn 0 h4:=T.keep _ _ _ st2 λb hb o e=>keep4 b o e
 have gg:PG X' tg1 g1:=by rw[<- hX];exact hg C s2 H2 fp
 have gt:PTs X' ifs1 tt1:=by rw[<- hX];exact ht C s2 H2 fp
 have gi:PI X' tg2 it2 wi2:=by rw[<- hX];exact hi2 C s2 H2 fp
 have gg2:PG X' tg2 g2:=by rw[<- hX];exact hg2 C s2 H2 fp
 have gt2:PTs X' ifs2 tt2:=by rw[<- hX];exact ht2 C s2 H2 fp
 have ge:PE X' elt te:=by rw[<- hX];exact he C s2 H2 fp
 have gs:∀x,foldedSetIterable it2 X'.env x=pure x:=by rw[<- hX];exact hs2 C s2 H2 fp
 have xP:X'.prog=X.prog:=by rw[<- hX];rfl
 have xw:X'.w=X.w:=by rw[<- hX];rfl
 have xK:X'.K=X.K:=by rw[<- hX];rfl
 have xA:X'.A=X.A:=by rw[<- hX];rfl
 have xc:X'.calm=true:=by rw[<- hX];exact hc
 have xpn:X'.pn=[]:=by rw[<- hX];rfl
 have xs:X'.s₀=s2:=by rw[<- hX];rfl
 have xH:X'.H₀=H2:=by rw[<- hX];rfl
 have xL:X'.env.locals=C:=by rw[<- hX];rfl
 have xfs:X'.fs=frs X.stack:=by rw[<- hX];rfl
 have xex:X'.ex=fp:=by rw[<- hX];rfl
 have xe:X'.xe=λ_ _=>False:=by rw[<- hX];rfl
 have xenv:({ newEnv scope C X.env.globals (cellsFrom (C+1) scope.names (kD X.env scope.names [])) X.env.qual none .none (some X.env) builtinsNs with scope:=relabel scope X.env }:Env)=X'.env:=by rw[<- hX];rfl
 have Dlt:s2.heap.objs.size<C:=by rw[<- hC];exact ym _
 have fpb:∀{pl:List (Addr × Obj)}{H:Hp},(∀b∈fp,H b=none)->(∀p∈pl,p.1 ∉ fp)->∀b∈fp,FpOk X' pl H b:=λ{pl H} hn hpl b hb=>by
  refine⟨hn b hb,(I4.ok.exf b (by rw[xex];exact hb)).1,I4.ok.exfs b (by rw[xex];exact hb),.inl (by rw[xex];exact hb),λx c e=>(I4.ok.exf b (by rw[xex];exact hb)).2 x c e,λp hp z=>?_⟩
  rw[xpn,xt] at hp
  exact hpl p hp (by rw[z];exact hb)
 have Dfp:s2.heap.objs.size ∉ fp:=λz=>xD _ (fpl _ z).2;have DC:s2.heap.objs.size≠C:=xa Dlt
 have Dcell:∀x c,X'.env.cells.lookup x=some c->c≠s2.heap.objs.size:=λx c e z=>by
  obtain⟨v,o,q,hd⟩:=I4.cell x c e;rw[z] at q;have q':h4.get? s2.heap.objs.size=some o:=q;rw[hD4] at q';cases q';cases hd
 have Dfs:s2.heap.objs.size ∉ X'.fs:=λz=>by
  obtain⟨_,o,ho,_⟩:=I4.ok.funs.mem (by exact z)
  rw[xs] at ho;exact xD _ (zA ho)
 have nc:∀(xs:Array Value) (m:Nat) (v:Option Value),({ cls:=.type "list",data:=.seq xs m }:Obj).data≠.cell v:=λ_ _ _ z=>by cases z
 have dL:s2.heap.objs.size≠X'.env.locals:=by rw[xL];exact DC
 have dS:s2.heap.objs.size∈X'.ex\/X'.s₀.heap.objs.size<=s2.heap.objs.size:=.inr (by rw[xs];exact zd _)
 rw[xenv]
 have goal:∀s5:Shared,s5={ s2 with heap:=h4 }->codeAny (model X.prog X.w) X.A (.compLoop (YT elt tg1 it1 ifs1 tg2 it2 ifs2 scope pos) 0 (.ref it) (.ref s2.heap.objs.size) X'.env) (RR (.ref s2.heap.objs.size) C) s5:=by
  rintro s5 rfl;obtain⟨m0,w0⟩:=w0
  refine JP (λn s'=>∃i acc σ' H' its k,Inv X' [] σ' H' s'/\Vr (replicate own.length none++σ) σ'/\tn i s'.heap/\(∀b∈fp,H' b=none)/\H' s2.heap.objs.size=none /\
   s'.heap.get? s2.heap.objs.size=some { cls:=.type "list",data:=.seq (List.toArray its) k }/\Vals acc its/\W i n acc H') gs ?_ m0
   ⟨0,[],_,H2,[],0,I4,(λ_ _ e=>e),st4,λb hb=>(f2 b hb).1,I2.hok.fresh (zd _),hD4,.nil,w0⟩
  rintro n s3 ⟨i,acc,σ3,H3,its,k,I3,hσ,st3,fr3,hD,hDo,rv,w3⟩
  have fD:∀{H:Hp},H s2.heap.objs.size=none->FpOk X' [] H s2.heap.objs.size:=λhn=>⟨hn,dL,Dfs,dS,Dcell,λp hp=>by rw[xpn] at hp;simp at hp⟩
  have plD:∀p∈[((s2.heap.objs.size,{ cls:=.type "list",data:=.seq (List.toArray its) k }):Addr × Obj)],p.1 ∉ fp:=λp hp=>by
   have e:p=(s2.heap.objs.size,{ cls:=.type "list",data:=.seq (List.toArray its) k }):=by simpa using hp
   subst e;exact Dfp
  have I3':=I3.pin1 (fD hD) hDo (nc _ _)
  rcases turn i n acc H3 w3 with ⟨stop,hsz,q⟩ |⟨go,step⟩
  ·have := T.done X' xP xw xK xc i _ s3 σ3 H3 (λ_ _ => False) I3' (fpb fr3 plD) st3 stop;rw[xA] at this;refine thn this λr s4 ⟨hr,I5⟩=>?_;subst hr;have hDo5:=(I5.pinAt (.head _)).1
   have un:Un (frs X.stack) fp H2 H3 s2.heap s4.heap:=by
    have:=I5.base;rw[xfs,xex,xH,xs] at this;exact this
   have os:s4.os=s2.os:=by rw[I5.os,xs]
   have hok:HOk X.prog X.w H3 s4.heap:=by have:=I5.hok;rw[xP,xw] at this;exact this
   have IX:Inv X pins σ H3 s4:=I2.call' os un hok I5.bare λb hb=>by
    obtain⟨_,f1,_,f3,f4,f5⟩:=f2 b hb;exact⟨f3,f1,f4,f5⟩
   have old:∀{b:Addr},s2.heap.objs.size<=b->(X.s₀.heap.objs.size<=b/\b≠X.env.locals/\(∀x c,X.env.cells.lookup x=some c->c≠b)/\∀p∈X.pn++pins,p.1≠b):=λ{b} hb=>by
    obtain⟨_,f1,_,f3,f4,f5⟩:=I2.fpOk (H':=λ_=>none) hb rfl;exact⟨zw I2.sz hb,f1,f4,f5⟩
   obtain⟨d1,d2,d3,d4⟩:=old (zd s2.heap.objs.size);obtain⟨c1,c2,c3,c4⟩:=old (b:=C) (xM Dlt);have IY:Inv X pins σ (upd H3 s2.heap.objs.size (.lst acc)) s4:=IX.track hD d1 d2 d3 d4 ⟨hsz,its,k,rv,hDo5⟩;obtain⟨m,hm,_⟩:=I5.loc;rw[xL] at hm
   have hCn:H3 C=none:=by have:=I5.free;rw[xL] at this;exact this
   exact fin _ C _ s4 m IY (q _ hD) hm (by rw[wr (Ne.symm DC)];exact hCn) c2 c1 c3 c4
  ·have := T.item X' xP xw xK xc i _ s3 σ3 H3 (λ_ _ => False) I3' (fpb fr3 plD) st3 go;rw[xA] at this;refine thn this λr s4 ⟨u,hr,h4⟩=>?_;subst hr;refine thn h4 λ_ s5 ⟨x,H5,I5,r5,y5,st5,fr5⟩=>?_;have I5w:=I5.weak (σ':=replicate own.length none++σ) (I4.len.trans I5.len.symm) hσ;have I5p:=I5w.pinned (fpb fr5 plD) (T.obj _ _ st5);have a1:=gg _ s5 _ H5 x u _ I5p r5 (step x H5 y5);rw[xP,xw,xA,xe] at a1;refine thn a1 λ_ s6 ⟨σ6,H6,I6,d6,q6⟩=>?_;have a2:=gt _ s6 σ6 H6 _ I6 q6;rw[xP,xw,xA,xe] at a2;refine thn a2 λb s7 ⟨H7,I7,q7⟩=>?_
   have outer:∀{H:Hp}{s:Shared}{σ7:St},Inv X' (qu fp s5.heap) σ7 H s->(tn (i+1) s.heap/\(∀b∈fp,H b=none)/\Inv X' [] σ7 H s):=λ{H s σ7} I=>by
    refine⟨T.keep _ _ _ st5 λb hb o e=>(I.pinAt (yW hb e)).1,λb hb=>?_,I.pins_of λp hp=>by simp at hp⟩
    obtain⟨o,e,d⟩:=T.obj _ _ st5 b hb;exact(I.pinAt (q:=(b,o)) (yW hb e)).2
   have drop1:∀{H:Hp}{s:Shared}{σ7:St},Inv X' ([((s2.heap.objs.size,{ cls:=.type "list",data:=.seq (List.toArray its) k }):Addr × Obj)]++qu fp s5.heap) σ7 H s->Inv X' (qu fp s5.heap) σ7 H s/\H s2.heap.objs.size=none/\s.heap.get? s2.heap.objs.size=some { cls:=.type "list",data:=.seq (List.toArray its) k }:=λ{H s σ7} I=>
    ⟨I.pins_of λp hp=>I.pin p (zr _ (zr _ hp)),(I.pinAt (q:=(s2.heap.objs.size,_)) (xf _ (.head _))).2,(I.pinAt (q:=(s2.heap.objs.size,_)) (xf _ (.head _))).1⟩
   cases b with
   |false=>
    obtain⟨e1,e2,e3⟩:=drop1 I7;obtain⟨p1,p2,p5⟩:=outer e1;obtain⟨m',hm,w7⟩:=q7;exact⟨m',hm,i+1,acc,σ6,H7,its,k,p5,d6,p1,p2,e2,e3,rv,w7⟩
   | true =>
    rw[if_pos rfl] at q7 ⊢;have a3:=gi _ s7 σ6 H7 _ I7 q7;rw[xP,xw,xA,xe] at a3;refine thn a3 λv s8 h8=>thn h8 λitv s9 h9=>?_;obtain⟨it2a,fp2,tn2,J2,H9,e9,I9,T2,st9,f9,W2,w9,turns9⟩:=h9;subst e9;obtain⟨e1,e2,e3⟩:=drop1 I9;have D2:s2.heap.objs.size ∉ fp2:=λz=>(f9 _ z).2.2.2.2.2 (s2.heap.objs.size,_) (zr _ (xf _ (.head _))) rfl
    have f9':∀b∈fp2,FpOk X' (qu fp s5.heap) H9 b:=λb hb=>by
     obtain⟨z1,z2,z3,z4,z5,z6⟩:=f9 b hb;refine⟨z1,z2,z3,z4,z5,λp hp=>z6 p ?_⟩
     rcases zN.mp hp with hp |hp
     ·exact xf _ hp
     ·exact zr _ (zr _ hp)
    have dP:∀p∈X'.pn++qu fp s5.heap,p.1≠s2.heap.objs.size:=λp hp z=>by
     rw[xpn,xt] at hp
     exact Dfp (by rw[<- z];exact(WH hp).1)
    have run:=JF (tg1:=tg1) (it1:=it1) (it2:=it2) (ifs1:=ifs1) (scope:=scope) (pos:=pos) xc xe gg2 gt2 ge e1 e2 e3 rv dL Dfs dS Dcell dP T2 st9 f9' D2 w9 turns9;rw[xP,xw,xA] at run
    have run2:codeAny (model X.prog X.w) X.A (.compLoop (YT elt tg1 it1 ifs1 tg2 it2 ifs2 scope pos) 1 (.ref it2a) (.ref s2.heap.objs.size) X'.env) (λr s7=>(∃f,r=.ok f)/\∃m,m<n/\∃i acc σ' H' its k,Inv X' [] σ' H' s7/\Vr (replicate own.length none++σ) σ'/\tn i s7.heap/\(∀b∈fp,H' b=none)/\H' s2.heap.objs.size=none /\
      s7.heap.get? s2.heap.objs.size=some { cls:=.type "list",data:=.seq (List.toArray its) k }/\Vals acc its/\W i m acc H') s9:=codeAny_mono run λr s' hq=>by
     obtain⟨hr,σ',acc2,its',k',H',I',k2,k3,k4,k1,m',hm,w'⟩:=hq;obtain⟨p1,p2,p5⟩:=outer I';exact⟨hr,m',hm,i+1,acc2,σ',H',its',k',p5,k1,p1,p2,k2,k3,k4,w'⟩
    refine Wf (.inr rfl) run2 ?_
    have self:=T2.self X.A 0 s9 (λit' s'=>codeAny (model X.prog X.w) X.A (.compLoop (YT elt tg1 it1 ifs1 tg2 it2 ifs2 scope pos) 1 it' (.ref s2.heap.objs.size) X'.env) (λr s7=>(∃f,r=.ok f)/\∃m,m<n/\∃i acc σ' H' its k,Inv X' [] σ' H' s7/\Vr (replicate own.length none++σ) σ'/\tn i s7.heap/\(∀b∈fp,H' b=none)/\H' s2.heap.objs.size=none /\
      s7.heap.get? s2.heap.objs.size=some { cls:=.type "list",data:=.seq (List.toArray its) k }/\Vals acc its/\W i m acc H') s') (λ_ _=>False) st9 run2
    rw[xP,xw] at self;exact self
 exact Wf (.inl rfl) (goal _ rfl) (T.self _ 0 _ _ _ st4 (goal _ rfl))
def zn3{wi:TI}(ok:CompOk X scope M)(hc:X.calm=true)(hi:PI X tg1 it1 wi)(hg:∀C s2 H2 fp,PG (xZ X scope own M C s2 H2 fp) tg1 g1)(ht:∀C s2 H2 fp,PTs (xZ X scope own M C s2 H2 fp) ifs1 tt1)(hi2:∀C s2 H2 fp,PI (xZ X scope own M C s2 H2 fp) tg2 it2 wi2)
  (hg2:∀C s2 H2 fp,PG (xZ X scope own M C s2 H2 fp) tg2 g2) (ht2:∀C s2 H2 fp,PTs (xZ X scope own M C s2 H2 fp) ifs2 tt2) (he:∀C s2 H2 fp,PE (xZ X scope own M C s2 H2 fp) elt te)
  (hs:∀x,foldedSetIterable it1 X.env x=pure x:=by intro _;rfl) (hs2:∀C s2 H2 fp x,foldedSetIterable it2 (xZ X scope own M C s2 H2 fp).env x=pure x:=by intros;rfl) :
  PE X (YT elt tg1 it1 ifs1 tg2 it2 ifs2 scope pos) (zs6 wi own.length g1 tt1 wi2 g2 tt2 te):=by
 intro pins s σ H Q I h;rw[eval_ListComp]
 refine yf (use:=none) rfl hs (ZC (ok.cells I)) ok.kind (λx hx hl=>by rw[ok.uniq x hx,hl]) ?_
 refine thn (hi pins s σ H _ I h) λv s1 h1=>thn h1 λitv s2 h2=>?_;obtain⟨it,fp,tn,J,H2,e,I2,T,st2,f2,W,w0,turn⟩:=h2;subst e;refine JQ (Qf:=Q) ok hc hg ht hi2 hg2 ht2 he hs2 I2 T st2 f2 w0 turn λD C H' s' m IY q hm hCn c2 c1 c3 c4=>⟨m,hm,λh' hs'=>?_⟩;exact⟨.ref D,H',IY.turned (t':=s'.toks) (λb o hb e=>hs'.extBut b o hb e) hCn c2 (.inr c1) c3 c4,rfl,q⟩
end
def keepsD:Rho->Rho->Prop
 |[],[]=>True
 |none::r,_::r'=>keepsD r r'
 |some d::r,o::r'=>o=some d/\keepsD r r'
 |_,_=>False
@[simp] theorem zX8:keepsD [] []=True:=rfl
@[simp] theorem zX7{o:Option D}{r r':Rho}:keepsD (none::r) (o::r')=keepsD r r':=rfl
@[simp] theorem zX6{d:D}{o:Option D}{r r':Rho}:keepsD (some d::r) (o::r')=(o=some d/\keepsD r r'):=rfl
theorem keepsD.at:∀{r r':Rho},keepsD r r'->r.length=r'.length/\∀(i:Nat) (d:D),r[i]?=some (some d)->r'[i]?=some (some d)
  |[],[],_=>⟨rfl,λi d e=>by simp at e⟩
  | none :: r, o :: r', h => by
    have h':keepsD r r':=h;obtain⟨h1,h2⟩:=h'.at
    refine⟨by simp[h1],λi d e=>?_⟩
    cases i with
    |zero=>simp at e
    |succ i=>simpa using h2 i d (by simpa using e)
  | some c :: r, o :: r', h => by
    have h':o=some c/\keepsD r r':=h;obtain⟨h1,h2⟩:=h'.2.at
    refine⟨by simp[h1],λi d e=>?_⟩
    cases i with
    | zero => have e' : c = d := by simpa using e
              subst e';rw[h'.1];rfl
    |succ i=>simpa using h2 i d (by simpa using e)
  |[],_::_,h=>h.elim
  |none::_,[],h=>h.elim
  |some _::_,[],h=>h.elim
@[simp] theorem Ym:∀r:Rho,keepsD r r
 |[]=>True.intro
 |none::r=>Ym r
 |some d::r=>⟨rfl,Ym r⟩
def AmO.weakR{A:AC}{os:List (Nat × Addr)}{n:Nat}{rho rho':Rho}{sg:St}{H:Hp}{ds:List D}{vs:List V}(I:AmO A os n rho' sg H ds vs)(k:keepsD rho rho'):AmO A os n rho sg H ds vs:=
 ⟨k.at.1.trans I.len,λi d e=>I.slot i d (k.at.2 i d e),I.pend,I.nd,I.fresh,(k.at.1 ▸ I.st),I.gz,I.fr,I.z0⟩
def Xb{m:Nat}{sg sg2:St}(h:sg2.drop m=sg):Vr (replicate m none++sg) sg2:=by
 intro j v e
 by_cases hj:j<m
 ·rw [xg (by simpa using hj), xE, if_pos hj] at e
  cases e
 ·rw [zT (by simpa using wS hj), xv, <- h, xQ] at e
  rw[show m+(j-m)=j by lia] at e
  exact e
def xC0(g2:TGD)(tt2:TBD)(te:TD)(rho2:Rho)(acc:List D)(R:List D->Nat->Prop)(items2:List D)(n:Nat):Prop:=∃J2:Nat->List D->Nat->Prop,J2 0 acc n /\
 (∀i d acc n,items2[i]?=some d->J2 i acc n->acc.length<sizeLine/\g2 d rho2 λrho3=>keepsD rho2 rho3/\tt2 rho3 n λc n2=>if c=true then te rho3 n2 λe n3=>J2 (i+1) (acc++[e]) n3 else J2 (i+1) acc n2) /\
 ∀acc n,J2 items2.length acc n->R acc n
def zh1(own:Nat)(g1:TGD)(tt1:TBD)(it2:TID)(g2:TGD)(tt2:TBD)(te:TD)(rho:Rho)(P:D->Nat->Prop)(items:List D)(n1:Nat):Prop:=∃J:Nat->List D->Nat->Prop,J 0 [] n1 /\
 (∀i d acc n,items[i]?=some d->J i acc n->g1 d (replicate own none++rho) λrho2=>rho2.drop own=rho/\tt1 rho2 n λc n2=>if c=true then it2 rho2 n2 (xC0 g2 tt2 te rho2 acc (J (i+1))) else J (i+1) acc n2) /\
 ∀acc n,J items.length acc n->acc.length<=sizeLine/\P (.lst acc) n
def zg2(it:TID)(own:Nat)(g1:TGD)(tt1:TBD)(it2:TID)(g2:TGD)(tt2:TBD)(te:TD):TD:=λrho n P=>it rho n (zh1 own g1 tt1 it2 g2 tt2 te rho P)
@[simp] theorem xa0{it own g1 tt1 it2 g2 tt2 te rho n P}:zg2 it own g1 tt1 it2 g2 tt2 te rho n P=it rho n (zh1 own g1 tt1 it2 g2 tt2 te rho P):=rfl
section
variable {A:AC}{X:Cx}{elt tg1 it1 tg2 it2:Expr}{ifs1 ifs2:List Expr}{scope:Scope}{own M:List Str}{pos:Pos}{i1 i2:TID}{g1 g2:TGD}{tt1 tt2:TBD}{te:TD}
def Qo{sg:St}{H:Hp}{Q:VK}{m:Nat}(h:tOf A (zg2 i1 m g1 tt1 i2 g2 tt2 te) sg H Q):zs6 (iOf A i1) m (gOf A m g1) (Vt A tt1) (iOf A i2) (gOf A m g2) (Vt A tt2) (tOf A te) sg H Q:=by
 obtain⟨rho,n,P,ds,vs,I,ht,hQ⟩:=h;refine⟨rho,n,_,ds,vs,I,ht,λJ H' n' items es ws I1 hl hJ k=>?_⟩;obtain⟨W,w0,turn,fin⟩:=k;refine⟨λi mm acc H=>mm=items.length-i/\i<=items.length/\∃accD n,acc.length=accD.length/\Am A n rho sg H (es++(accD++ds)) (ws++(acc++vs))/\W i accD n,⟨items.length,rfl,wZ _,[],n',rfl,I1,w0⟩,?_⟩;rintro i mm acc H3 ⟨rfl,hi,accD,n3,hal,⟨os,I3⟩,w3⟩;obtain⟨j1,j2⟩:=hJ n3 rho sg H3 (accD++ds) (acc++vs) i ⟨os,I3⟩
 by_cases hlt:i<items.length
 ·refine .inr ⟨(j1 items[i] (by simp [hlt])).1, λx H4 y => ?_⟩
  obtain⟨os4,I4⟩:=(j1 items[i] (by simp[hlt])).2 x H4 y
  refine⟨replicate m none++rho,n3,_,items[i],es++(accD++ds),ws++(acc++vs),⟨_,I4.front m⟩,turn i items[i] accD n3 (by simp[hlt]) w3,λrho2 sg2 ⟨os5,I5⟩ e5 k5=>?_⟩
  obtain⟨k5,k6⟩:=k5
  have e6:sg2.drop m=sg:=by rw[e5,yg (by simp)]
  refine⟨Xb e6,rho2,n3,_,es++(accD++ds),ws++(acc++vs),⟨os5,I5⟩,k6,λc H6 n6 ⟨os6,I6⟩ k7=>?_⟩
  cases c with
  |false=>
   obtain⟨os7,I7⟩:=I6.back k5 e6
   exact⟨items.length-(i+1),w5,rfl,hlt,accD,n6,hal,⟨os7,I7⟩,k7⟩
  | true =>
   rw[if_pos rfl] at k7 ⊢;refine⟨rho2,n6,_,es++(accD++ds),ws++(acc++vs),⟨os6,I6⟩,k7,λJ2 H7 n7 items2 es2 ws2 I7 hl2 hJ2 k8=>?_⟩;obtain⟨V,v0,vturn,vfin⟩:=k8;refine⟨λi2 nn acc2 σ5 H=>nn=items2.length-i2/\i2<=items2.length/\σ5.drop m=sg/\∃accD2 n,acc2.length=accD2.length/\Am A n rho2 σ5 H (es2++(es++(accD2++ds))) (ws2++(ws++(acc2++vs)))/\V i2 accD2 n,⟨items2.length,rfl,wZ _,e6,accD,n7,hal,I7,v0⟩,?_⟩;rintro i2 nn acc2 σ5 H8 ⟨rfl,hi2,s5d,accD2,n8,hal2,⟨os8,I8⟩,w8⟩;obtain⟨q1,q2⟩:=hJ2 n8 rho2 σ5 H8 (es++(accD2++ds)) (ws++(acc2++vs)) i2 ⟨os8,I8⟩
   by_cases hlt2:i2<items2.length
   ·obtain ⟨t1, t2⟩ := vturn i2 items2[i2] accD2 n8 (by simp [hlt2]) w8
    refine .inr ⟨(q1 items2[i2] (by simp[hlt2])).1,by rw[hal2];exact t1,λy H9 yy=>?_⟩
    obtain⟨os9,I9⟩:=(q1 items2[i2] (by simp[hlt2])).2 y H9 yy
    refine⟨rho2,n8,_,items2[i2],es2++(es++(accD2++ds)),ws2++(ws++(acc2++vs)),⟨os9,I9⟩,t2,λrho3 sg3 ⟨os10,I10⟩ e10 k10=>?_⟩;obtain⟨k10,k11⟩:=k10;refine⟨rho3,n8,_,es2++(es++(accD2++ds)),ws2++(ws++(acc2++vs)),⟨os10,I10⟩,k11,λc H11 n11 ⟨os11,I11⟩ k12=>?_⟩
    cases c with
    |false=>exact⟨items2.length-(i2+1),w5,rfl,hlt2,e10.trans s5d,accD2,n11,hal2,⟨os11,I11.weakR k10⟩,k12⟩
    |true=>
     rw[if_pos rfl] at k12 ⊢;refine⟨rho3,n11,_,es2++(es++(accD2++ds)),ws2++(ws++(acc2++vs)),⟨os11,I11⟩,k12,λv H12 n12 d ⟨os12,I12⟩ k13=>?_⟩;obtain⟨I13,rv⟩:=I12.pop;obtain⟨I14,r1⟩:=I13.split hl2;obtain⟨I15,r2⟩:=I14.split hl;obtain⟨I16,r3⟩:=I15.split hal2
     exact⟨items2.length-(i2+1),w5,rfl,hlt2,e10.trans s5d,accD2++[d],n12,by simp[hal2],⟨os12,(((I16.join (r3.append (.cons rv .nil))).join r2).join r1).weakR k10⟩,k13⟩
   ·have e : i2 = items2.length := by lia
    subst e;obtain⟨I9,_⟩:=I8.split hl2;obtain⟨os10,I10⟩:=I9.back k5 s5d
    exact .inl ⟨q2 (zd _),Xb s5d,items.length-(i+1),w5,rfl,hlt,accD2,n8,hal2,⟨os10,I10⟩,vfin accD2 n8 w8⟩
 ·have e : i = items.length := by lia
  subst e;obtain⟨f1,f2⟩:=fin accD n3 w3
  refine .inl ⟨j2 (zd _),by rw[hal];exact f1,λD hD=>?_⟩
  obtain⟨I4,r1⟩:=I3.split hl;obtain⟨I5,r2⟩:=I4.split hal;exact hQ _ _ n3 _ ⟨os,I5.newLst r2 hD⟩ f2
def zn6(ok:CompOk X scope M)(hc:X.calm=true)(hi:PID A X tg1 it1 i1)(hg:∀C s2 H2 fp,PGD A (xZ X scope own M C s2 H2 fp) own.length tg1 g1)(ht:∀C s2 H2 fp,PTs (xZ X scope own M C s2 H2 fp) ifs1 (Vt A tt1))
  (hi2:∀C s2 H2 fp,PID A (xZ X scope own M C s2 H2 fp) tg2 it2 i2) (hg2:∀C s2 H2 fp,PGD A (xZ X scope own M C s2 H2 fp) own.length tg2 g2) (ht2:∀C s2 H2 fp,PTs (xZ X scope own M C s2 H2 fp) ifs2 (Vt A tt2))
  (he:∀C s2 H2 fp,PD A (xZ X scope own M C s2 H2 fp) elt te) (hs:∀x,foldedSetIterable it1 X.env x=pure x:=by intro _;rfl) (hs2:∀C s2 H2 fp x,foldedSetIterable it2 (xZ X scope own M C s2 H2 fp).env x=pure x:=by intros;rfl) :
  PD A X (.ListComp elt [⟨tg1,it1,ifs1,0⟩,⟨tg2,it2,ifs2,0⟩] scope pos) (zg2 i1 own.length g1 tt1 i2 g2 tt2 te):=by exists (zn3 ok hc hi hg ht hi2 hg2 ht2 he hs hs2).imp λ_ _ _=>Qo
end
theorem Ja:∀l:List Value,(List.range l.length).filterMap (λi=>l[i]?)=l
 |[]=>rfl
 |x::r=>by
  rw[zu,List.range_succ_eq_map,wN];show x::_=x::r;rw[filterMap_map];exact congrArg (x::·) (Ja r)
def zq2(l:List Value):slicePick l.toArray none none (some 1)=l.toArray:=by
 unfold slicePick;show((sliceRange 0 (l.toArray.size:Int) 1).filterMap λi=>l.toArray[i]?).toArray=l.toArray
 have e:sliceRange 0 (l.toArray.size:Int) 1=List.range l.length:=by
  unfold sliceRange;simp only[zt]
  have c:(if (1:Int) > 0 then(if (0:Int)<(l.length:Int) then((l.length:Int)-0+1-1)/1 else 0) else(if (0:Int) > (l.length:Int) then(0-(l.length:Int)-1-1)/(-1) else 0)).toNat=l.length:=by
   rw[if_pos w6]
   split<;>lia
  rw[c];refine(map_congr_left λk _=>?_).trans (List.map_id _);show(0+1*(k:Int)).toNat=k;lia
 rw[e];have:=Ja l;simp only[List.getElem?_toArray];rw[this]
def Jh(b:Bool):Int:=if b then -1 else 1
def VA{α:Type}(b:Bool)(l:List α):List α:=if b then l.reverse else l
def Qr(b:Bool)(l:List Value):slicePick l.toArray none none (some (Jh b))=(VA b l).toArray:=by
 cases b with
 |true=>exact Ka l
 |false=>exact zq2 l
section
variable {X:Cx}{e st:Expr}{te ts:TE}{pos p2:Pos}
def zK2(K:W.Frag)(te ts:TE):TE:=λσ H Q=>te σ H λx H1=>ts σ H1 λy H3=>∃(b:Bool) (a:Addr) (xs:List V),y=.int (Jh b)/\x=.ref a/\SqL K H3 a xs/\∀p,H3 p=none->Q (.ref p) (upd H3 p (.lst (VA b xs)))
def zm7(he:PE X e te)(hst:PE X st ts):PE X (.Subscript e (.Slice none none (some st) p2) pos) (zK2 X.K te ts):=by
 intro pins s σ H Q I h;refine Subscript_ (thn (he pins s σ H _ I h) λv s1 ⟨x,H1,I1,r1,q1⟩=>?_);refine wpAny_Slice ?_;rw[evalPart_none];refine zf (zf ?_);rw[evalPart_some];refine thn (hst pins s1 σ H1 _ I1 q1) λu s3 ⟨y,H3,I3,ry,q3⟩=>?_;obtain⟨b,a,xs,rfl,rfl,hx,q3⟩:=q3;obtain⟨tk,rfl⟩:=ry;cases r1;have I4:Inv X pins σ H3 { s3 with heap:=s3.heap.push { cls:=.type "slice",data:=.fields #[.none,.none,.int (Jh b) tk] } }:=I3.kept (t':=s3.toks) λb ob q=>ze _ q;obtain⟨its,r,ht,hz⟩:=I4.list hx;have hlen:=r.length
 refine tail_any (ops:=[.ref a,.ref s3.heap.objs.size]) ht.isList.typeIs slot_list_getitem.lookup (wpAny_getItem_list_slice ht.isList (Heap.IsSliceOf.new ..) .none .none (.int (Jh b) tk) (by cases b<;>decide) ?_ (by rw[zt]<;>lia)) (by with_unfolding_all rfl)
 rw[Qr];refine⟨.ref _,_,I4.laid (t':=s3.toks) (o:=.lst (VA b xs)) (λb ob q=>ze _ q) (zd _) ?_,rfl,q3 _ (I4.hok.fresh (zd _))⟩
 cases b with
 |true=>exact⟨by show xs.reverse.length<=_;rw[List.length_reverse];exact hz,its.reverse,0,r.reverse,zD _ rfl⟩
 |false=>exact⟨hz,its,0,r,zD _ rfl⟩
end
section
variable {A:AC}{X:Cx}{a e:Expr}{ta te:TD}{pos p2:Pos}
def zv9(ta te:TD):TD:=λrho n P=>ta rho n λd n1=>te rho n1 λy n2=>∃b:Bool,y=.int (Jh b)/\lAt d λfs=>P (.lst (VA b fs)) n2
@[simp] theorem zZ3{rho:Rho}{n:Nat}{P:D->Nat->Prop}:zv9 ta te rho n P=ta rho n λd n1=>te rho n1 λy n2=>∃b:Bool,y=.int (Jh b)/\lAt d λfs=>P (.lst (VA b fs)) n2:=rfl
def zn4(hK:X.K=A.K)(ha:PD A X a ta)(he:PD A X e te):PD A X (.Subscript a (.Slice none none (some e) p2) pos) (zv9 ta te):=by
 exists (zm7 ha he).imp λsg H Q h=>by
   obtain⟨rho,n,P,ds,vs,I,ht,hQ⟩:=h;refine⟨rho,n,_,ds,vs,I,ht,λv H1 n1 d J k=>⟨rho,n1,_,d::ds,v::vs,J,k,λv2 H2 n2 y ⟨os,J2⟩ k2=>?_⟩⟩;obtain⟨b,rfl,k2⟩:=k2;obtain⟨fs,rfl,k2⟩:=zc5 k2;obtain⟨J3,r2⟩:=J2.pop;obtain⟨J4,r1⟩:=J3.pop;obtain⟨l,xs,rfl,sq,rs⟩:=r1.lst_inv;rw[hK];refine⟨b,l,xs,r2.int_inv,rfl,sq.sq,λp hp=>hQ _ _ n2 _ ⟨os,J4.newLst (es:=VA b fs) ?_ hp⟩ k2⟩
   cases b with
   |true=>exact rs.reverse
   |false=>exact rs
end
end L2
open L2
namespace K60
abbrev q0:List Str:=["self"]
abbrev q1:List Str:=["house"]
abbrev q2:List Str:=["_law_script","_law_k"]
abbrev q3:List Str:=["self","rank"]
abbrev q4:List Str:=["by_name","names","i"]
abbrev q5:List Str:=["by_name","names"]
abbrev q6:List Str:=["d","by_name","names","i"]
abbrev q7:List Str:=["self","d","things"]
abbrev q8:List Str:=["self","rank","things"]
abbrev q9:List Str:=["_law_left_here","_law_some"]
abbrev q10:List Str:=["_law_left_here","_law_name","_law_d","_law_near"]
def top(i:Nat):Stmt:=PySem.Challenge.pw_boxlayers_k60_comings_alone.main.body.getD i (.Pass ⟨0,0,0,0⟩)
abbrev End:=Option (Int × Bool)
def zv5:End->D
 |none=>.non
 |some (n,s)=>.tup [.int n,.bl s]
def xa4:Option Int->D
 |none=>.non
 |some i=>.int i
def yM(p:List Int):D:=.tup (p.map D.int)
@[simp] theorem xa3:zv5 none=.non:=rfl
@[simp] theorem xa2{n:Int}{s:Bool}:zv5 (some (n,s))=.tup [.int n,.bl s]:=rfl
section
variable {P:Program}{w:World}{K:W.Frag}{mg:Str->Option Value}{base:Heap}{f:Addr}{fd:FuncData}
end
def xB6{es:List D}{k:Int}{R:D->Prop}(h0:0<=k)(h1:k<es.length)(h:∀d∈es,R d):zI2 (.lst es) (.int k) R:=by
 obtain⟨d,e,m⟩:=zw5 h0 h1;exact zz3.mpr ⟨d,e,h d m⟩
def VF(c:Nat):(VG 0 c).length=c:=by unfold VG;rw[zn,yD]
def zL6{c i:Nat}{d:D}(h:(VG 0 c)[i]?=some d):i<c/\d=.int (i:Int):=by
 have hi:i<c:=by have:=(zP.mp h).1;rw[VF] at this;exact this
 refine⟨hi,?_⟩;unfold VG at h;rw[zB,List.getElem?_range hi] at h;have:=zF h;rw[<- this];simp
def zh0{own:Nat}{g:TGD}{te:TD}{rho:Rho}{P:D->Nat->Prop}(items:List D)(n1:Nat)(Good:D->D->Prop)(hz:items.length<=sizeLine)
  (he:∀(i:Nat) (d:D),items[i]?=some d->∀Q:D->Nat->Prop,(∀e,Good d e->Q e n1)->g d (replicate own none++rho) λrho'=>rho'.drop own=rho/\te rho' n1 Q)
  (hP:∀es,Paired Good items es->P (.lst es) n1):Vd own g zJ3 te rho P items n1:=by
 refine⟨hz,λi acc n=>Paired Good (items.take i) acc/\n=n1,⟨.nil,rfl⟩,?_,?_⟩
 ·rintro i d acc n e ⟨h1,rfl⟩;refine he i d e (λe n3=>Paired Good (items.take (i+1)) (acc++[e])/\n3=n) λc hg=>⟨?_,rfl⟩;rw[xq,e];exact Paired.snoc h1 hg
 ·rintro acc n ⟨h1,rfl⟩;rw[wD] at h1;exact hP acc h1
section
variable {P:Program}{w:World}{K:W.Frag}{mg:Str->Option Value}{base:Heap}{f:Addr}{fd:FuncData}
abbrev kK:Stmt:=top 24
abbrev YS:List Str:=["_law_script","_law_k"]
def ZJ:FnScope YS q2 (xo kK):=⟨rfl,rfl,rfl,x4,rfl,x4,x4⟩
def ZG:TF:=λds n Q=>∃(ns:List Int) (j:Int),ds=[wC ns,.int j]/\0<=j/\∀x:Int,Q (.int x) n
def Ju(T:Blt mg)(F:Fun K "_law_cell_at" "_law_cell_at" kK f fd):FnOk P w K mg base CX0 1 f fd q2 (spD K 2 ZG):=by
 refine Fun.okD F ZJ (λcdv A0 outer s H E G Z _ hr=>(zV (kf (yQ xm0 xc9 (zq 1) (wP wV kY T.len qa (zc (zq 0) zE)) (vb _)) (xk (wG (jX kX jU (zq 0) (zq 1) (λ_ _=>rfl)))) yS)
  (xk (wG zZ)))) ?_
 rintro ds n Q hl ⟨ns,j,rfl,hj,q⟩;simp[ya,wC]
 split
 ·rename_i h
  obtain⟨d,e,m⟩:=zw5 (xs:=ns.map D.int) hj (by simpa using h)
  obtain⟨x,_,rfl⟩:=zK.mp m;exact⟨_,e,q x⟩
 ·exact q 0
abbrev qY:Stmt:=top 25
abbrev UM:List Str:=["_law_script","_law_k","_law_cell","_law_seed"]
def qy:FnScope UM q2 (xo qY):=⟨rfl,rfl,rfl,x4,rfl,x4,x4⟩
def Qj:TF:=λds n Q=>∃(ns:List Int) (j:Int),ds=[wC ns,.int j]/\ns.length<=63/\0<=j/\j<1000/\∀x y:Int,0<=x->0<=y->y<2147483647->Q (.lst [.int x,.int y]) n
def zD7(T:Blt mg)(ND:base.NoDigits)(F:Fun K "_law_left" "_law_left" qY f fd)(Y_cell_at:Fn P w K mg base "_law_cell_at" 1 2 ZG):FnOk P w K mg base CX0 2 f fd q2 (spD K 2 Qj):=by
 refine Fun.okD F qy (λcdv A0 outer s H E G Z _ hr=>(zV (yJ (i:=2) qy.nd rfl (lo rfl) (vp Y_cell_at (hr.mono w6) rfl (zc (zq 0) (zc (kH (zq 1) (wP (Vg rfl) zg7 T.max zh9 (zc zZ (zc (wP wV kY T.len qa (zc (zq 0) zE)) zE)))) zE))))
  (zV (yJ (i:=3) qy.nd rfl (lo rfl) (kH (qv (kj (kj (kH (zq 2) zZ) (qv (qv zZ (zq 1)) (zq 1))) zZ) zZ) zZ))
  (xk (wG (Zo (zc (kH (qv (wP KW zw3 T.abs zw4 (zc (zq 2) zE)) (yB Vj zg8 T.int zi1 (zc (za3 xm1 xd0 (wP KW zw3 T.abs zw4 (zc (zq 2) zE)) (WD zZ zZ) (vb _)) zE))) (yB (XV ND) zH3 T.int zi1 (zc (ZV Js zy7 zu0 (ZV zC9 zy5 zu0 zZ)) zE))) (zc (zq 3) zE)))))))) ?_
 rintro ds n Q hl ⟨ns,j,rfl,hns,hj0,hj1,q⟩;have cm:∀{i j:Int},(-(2^64)<i/\i<2^64)->CMul i j:=λh=>.inl h;have cm':∀{i j:Int},(-(2^64)<j/\j<2^64)->CMul i j:=λh=>.inr h
 obtain⟨big,hb0,hb1,hb2,hb3⟩:=Uq 2000 w6 w6
 have hlen:(Str.ofString "1").length+(Txt.mul (Str.ofString "0") 2000).length<=sizeLine:=by
  have ec:=Yv 2000 w6
  have e1:(Str.ofString "1").length=1:=x4
  have e2:(Str.ofString "1" ++ Txt.mul (Str.ofString "0") 2000).cps.toList.length=(Str.ofString "1").cps.toList.length+(Txt.mul (Str.ofString "0") 2000).cps.toList.length:=by
   rw[<- zm,<- zR];rfl
  rw[ec,zu,xv] at e2;have e3:∀x:Str,x.cps.toList.length=x.length:=λx=>zg;rw[e3,e3] at e2;rw[sizeLine_eq];lia
 simp[ya,wC]
 refine⟨by split<;>lia,ns,_,rfl,yz _ (by split<;>lia),λx=>?_⟩
 have h7:0<=7919*j*j:=Int.mul_nonneg w5 hj0
 have h8:7919*j*j<=7919*j*1000:=Int.mul_le_mul_of_nonneg_left w5 w5
 simp
 refine⟨cm ⟨w6,w6⟩,cm ⟨w5,w5⟩,cm' ⟨w6,w6⟩,⟨w6,w6,w6⟩,cm' ⟨by(repeat' split)<;>decide,by(repeat' split)<;>decide⟩,WJ 2000 w6 w6,hlen,?_⟩
 refine⟨_,big,rfl,hb1,hb2,hb3,?_⟩;simp
 exact⟨hb0,q _ _ (yz _ w5) (yz _ w6) (Int.emod_lt_of_pos _ w6)⟩
abbrev qX:Stmt:=top 26
abbrev UL:List Str:=["_law_left_here","_law_many","_law_digit"]
def Zk:FnScope UL ["_law_left_here","_law_many"] (xo qX):=⟨rfl,rfl,rfl,x4,rfl,x4,x4⟩
def ZF:TF:=λds n Q=>∃m:Int,ds=[.st,.int m]/\kOf n=2/\0<m/\m<10000000/\∀k:Int,0<=k->k<m->Q (.int k) n
def zD4(F:Fun K "_law_pick" "_law_pick" qX f fd):FnOk P w K mg base CX0 1 f fd ["_law_left_here","_law_many"] (spD K 2 ZF):=by
 refine Fun.okD F Zk (λcdv A0 outer s H E G Z _ hr=>(zV (kf (yQ VV VI (jW (i:=0) zZ (λ_ _=>rfl)) zZ (vb _)) (zV (yJ (i:=2) Zk.nd rfl (lo rfl) (kH (jW (i:=0) zZ (λ_ _=>rfl)) (zq 1)))
  (zV (Wx (i:=0) (za2 (jW (i:=0) zZ (λ_ _=>rfl)) (zq 1)) zZ)
  (xk (wG (zq 2))))) yS)
  (zV (Wx (i:=0) (kH (kj (qv (jW (i:=0) zZ (λ_ _=>rfl)) zZ) zZ) zZ) zZ)
  (xk (wG (kH (kH (qv (jW (i:=0) zZ (λ_ _=>rfl)) (jW (i:=0) zZ (λ_ _=>rfl))) zZ) (zq 1))))))) ?_
 rintro ds n Q hl ⟨m,rfl,hn,hm,hm2,q⟩;have cm:∀{i j:Int},(-(2^64)<i/\i<2^64)->CMul i j:=λh=>.inl h;simp[ya,hn];intro z0 h0
 split
 ·intro z hz
  exact⟨hm,λz1 hz1=>⟨⟨hm,w5⟩,Int.ediv_nonneg hz1 w5,q _ (yz _ w5) (Int.emod_lt_of_pos _ hm)⟩⟩
 ·intro z hz hz2
  exact⟨cm ⟨w5,w5⟩,yz _ w6,Int.emod_lt_of_pos _ w6,λy hy hy2 z1 h1 h1'=>⟨cm ⟨w5,w5⟩,hm,q _ (yz _ w5) (Int.emod_lt_of_pos _ hm)⟩⟩
def vt{m:Int}{n:Nat}{Q:D->Nat->Prop}(hn:kOf n=2)(h0:0<m)(h1:m<10000000)(h:∀k:Int,0<=k->k<m->Q (.int k) n):ZF [.st,.int m] n Q:=⟨m,rfl,hn,h0,h1,h⟩
end
abbrev Thing:=Int × List Int × Int
def xj(t:Thing):D:=.tup [.int t.1,yM t.2.1,.int t.2.2]
abbrev zI0:=Option Int × Option Int
def Ut(p:zI0):D:=.tup [xa4 p.1,xa4 p.2]
def vX(ps:List zI0):D:=.tup (ps.map Ut)
@[simp] theorem zT7:xa4 none=.non:=rfl
@[simp] theorem zT6{i:Int}:xa4 (some i)=.int i:=rfl
def zj2(qs:List (List Int))(i:Nat):List Int:=qs.map λq=>q[i]?.getD 0
def UZ(m:Nat):VG 0 m=(List.range m).map λi=>.int (i:Int):=by unfold VG;simp
open Classical in
noncomputable def zE9(ns:List Int):Int:=if h:∃M,M∈ns/\∀a∈ns,M<=a then choose h else 0
open Classical in
noncomputable def zF2(ns:List Int):Int:=if h:∃M,M∈ns/\∀a∈ns,a<=M then choose h else 0
def zb4{ns:List Int}(h:∃M,M∈ns/\∀a∈ns,M<=a):zE9 ns∈ns/\∀a∈ns,zE9 ns<=a:=by unfold zE9;rw[dif_pos h];exact Classical.choose_spec h
def zb8{ns:List Int}(h:∃M,M∈ns/\∀a∈ns,a<=M):zF2 ns∈ns/\∀a∈ns,a<=zF2 ns:=by unfold zF2;rw[dif_pos h];exact Classical.choose_spec h
def zE8{ns:List Int}{M:Int}(h1:M∈ns)(h2:∀a∈ns,M<=a):M=zE9 ns:=by
 obtain⟨h3,h4⟩:=zb4 ⟨M,h1,h2⟩;have:=h2 _ h3;have:=h4 _ h1;lia
def zF1{ns:List Int}{M:Int}(h1:M∈ns)(h2:∀a∈ns,a<=M):M=zF2 ns:=by
 obtain⟨h3,h4⟩:=zb8 ⟨M,h1,h2⟩;have:=h2 _ h3;have:=h4 _ h1;lia
def JD{ns:List Int}{k:D->Prop}(h:0<ns.length)(q:k (.int (zE9 ns))):zR8 [.lst (ns.map D.int)] k:=⟨ns,rfl,h,λM h1 h2=>by rw[zE8 h1 h2];exact q⟩
def JE{ns:List Int}{k:D->Prop}(h:0<ns.length)(q:k (.int (zF2 ns))):zS0 [.lst (ns.map D.int)] k:=⟨ns,rfl,h,λM h1 h2=>by rw[zF1 h1 h2];exact q⟩
theorem jw{α:Type}{lt:α->α->Prop}(irr:∀a,¬ lt a a)(tr:∀a b c,lt a b->lt b c->lt a c):∀{l1 l2:List α},l1.Perm l2->l1.Pairwise lt->l2.Pairwise lt->l1=l2
 |[],l2,p,_,_=>(List.nil_perm.mp p).symm
 |a::l1,[],p,_,_=>by simp at p
 | a :: l1, b :: l2, p, h1, h2 => by
  have ha:a∈b::l2:=p.mem_iff.mp (zo ..);have hb:b∈a::l1:=p.mem_iff.mpr (zo ..)
  have e:a=b:=by
   rcases zh.mp ha with h |h
   ·exact h
   ·rcases zh.mp hb with h' | h'
    ·exact h'.symm
    ·exact absurd (tr _ _ _ ((xW.mp h1).1 b h') ((xW.mp h2).1 a h)) (irr a)
  subst e;rw[jw irr tr (List.perm_cons _ |>.mp p) (xW.mp h1).2 (xW.mp h2).2]
def rot(i:Nat)(p:List Int):List Int:=p.drop i++p.take i
def VE(i:Nat)(t:Thing):SRow:=⟨.t (rot i t.2.1),t.1,[]⟩
def KO(xs:List D)(b:Nat)(hb:b<=xs.length):Yu xs (some (b:Int)) none=xs.drop b:=by
 unfold Yu
 rw[HT.Qx,HT.Zv,Nat.min_eq_left hb,wa (by rw[wq];lia)]
def zg5(xs:List D)(e:Nat)(he:e<=xs.length):Yu xs none (some (e:Int))=xs.take e:=by
 unfold Yu;rw[HT.Qx,HT.Zv,Nat.min_eq_left he,wX,Nat.sub_zero]
def Zx{α β:Type}{f:α->β}:∀{l:List β}{ts:List α},l.Perm (ts.map f)->∃rs:List α,rs.Perm ts/\l=rs.map f:=by
 intro l ts h;generalize hm:ts.map f=m at h
 induction h generalizing ts with
 |nil=>
  cases ts with
  |nil=>exact⟨[],.nil,rfl⟩
  |cons _ _=>simp at hm
 | cons x p ih =>
  cases ts with
  |nil=>simp at hm
  |cons a ts=>
   obtain⟨e1,e2⟩:=List.cons.inj hm;obtain⟨rs,h1,rfl⟩:=ih e2
   exact⟨a::rs,h1.cons a,by rw[<- e1];rfl⟩
 | swap x y l =>
  cases ts with
  |nil=>simp at hm
  | cons a ts =>
   cases ts with
   |nil=>simp at hm
   |cons b ts=>
    obtain⟨e1,e2⟩:=List.cons.inj hm;obtain⟨e3,e4⟩:=List.cons.inj e2
    exact⟨b::a::ts,.swap a b ts,by rw[<- e1,<- e3,<- e4];rfl⟩
 |trans p q ih1 ih2=>
  obtain⟨r2,h2,rfl⟩:=ih2 hm;obtain⟨r1,h1,rfl⟩:=ih1 rfl;exact⟨r1,h1.trans h2,rfl⟩
structure OrdT(i:Nat)(ts rs:List Thing):Prop where
 perm:rs.Perm ts
 up:rs.Pairwise λa b=>(VE i a).lt (VE i b)=true
structure GoodU(d:Nat)(ts:List Thing):Prop where
 each:∀t∈ts,t.2.1.length=d
 nd:(ts.map λt=>t.1).Nodup
def GoodU.perm{d:Nat}{ts rs:List Thing}(h:GoodU d ts)(p:rs.Perm ts):GoodU d rs:=⟨λt ht=>h.each t (p.mem_iff.mp ht),(p.map _).nodup_iff.mpr h.nd⟩
def GoodU.sub{d:Nat}{ts rs:List Thing}(h:GoodU d ts)(p:rs.Sublist ts):GoodU d rs:=⟨λt ht=>h.each t (p.mem ht),(p.map _).nodup h.nd⟩
def kn(t:Thing):Key:=Sum.inl t.1
def byN(ts:List Thing):D:=.dct (ts.map kn) (ts.map xj)
@[simp] theorem xv0(ts:List Thing):yL (byN ts)=true:=id rfl
theorem Ze:∀{ts:List Thing}{x:Int},x ∉ ts.map (λt=>t.1)->zp9 (ts.map kn) (Sum.inl x)=false
 |[],x,_=>rfl
 |t::ts,x,h=>by
  have h1:¬ t.1=x:=λe=>h (by simp[e])
  have ih:=Ze (ts:=ts) (x:=x) λz=>h (zk _ z);show(decide (kn t=Sum.inl x)||zp9 (ts.map kn) (Sum.inl x))=false;rw[ih,Bool.or_false];exact zU λe=>h1 (Sum.inl.inj e)
theorem Yy:∀{ts:List Thing}{t:Thing},t∈ts->(ts.map λt=>t.1).Nodup->atK (ts.map kn) (ts.map xj) (Sum.inl t.1)=some (xj t)
 |[],t,h,_=>by simp at h
 | s :: ts, t, h, hn => by
  have hn':=xn.mp hn
  show(if kn s=Sum.inl t.1 then some (xj s) else atK (ts.map kn) (ts.map xj) (Sum.inl t.1))=_
  rcases zh.mp h with rfl |h
  ·exact if_pos rfl
  ·have : ¬ kn s = Sum.inl t.1 := λe => by
    have e':s.1=t.1:=Sum.inl.inj e;exact hn'.1 (zK.mpr ⟨t,h,e'.symm⟩)
   rw[if_neg this];exact Yy h hn'.2
def kT(ts:List Thing):D:=.tup (ts.map λt=>.int t.1)
@[simp] theorem zQ7(ts:List Thing):yL (kT ts)=true:=id rfl
@[simp] theorem zQ6(ps:List zI0):yL (vX ps)=true:=id rfl
@[simp] theorem zQ5(p:List Int):yL (yM p)=true:=id rfl
@[simp] theorem zQ4(t:Thing):yL (xj t)=true:=id rfl
noncomputable def zJ2(d:Nat)(qs:List (List Int)):List zI0:=(List.range d).map λi=>(some (zE9 (zj2 qs i)),some (zF2 (zj2 qs i)))
inductive Tr where
 |one (name:Int) (bd:List zI0)
 |two (ns:List Int) (bd:List zI0) (low high:Tr)
def YO:Tr->D
 |.one x bd=>.tup [.tup [.int x],vX bd,.non,.non]
 |.two ns bd l h=>.tup [.tup (ns.map D.int),vX bd,YO l,YO h]
inductive Turned(d:Nat):Nat->List Thing->Tr->Prop where
  |one {i:Nat}{t:Thing}:Turned d i [t] (.one t.1 (zJ2 d [t.2.1]))
  |two {i:Nat}{ts rs:List Thing}{ns:List Int}{low high:Tr}:2<=ts.length->ns.Perm (ts.map λt=>t.1)->ns.Pairwise (·<=·)->OrdT i ts rs->Turned d ((i+1)%d) (rs.take ((ts.length+1)/2)) low->Turned d ((i+1)%d) (rs.drop ((ts.length+1)/2)) high ->
      Turned d i ts (.two ns (zJ2 d (ts.map λt=>t.2.1)) low high)
section
variable {P:Program}{w:World}{K:W.Frag}{mg:Str->Option Value}{base:Heap}{f:Addr}{fd:FuncData}
abbrev vP:Stmt:=top 8
abbrev vT:List Str:=["house"]
def jN:FnScope vT q1 (xo vP):=⟨rfl,rfl,rfl,x4,rfl,x4,x4⟩
def jh:("thing" :: vT:List Str).Nodup:=x4
def zw9:TF:=λds n Q=>∃(dd:D) (ts:List Thing),ds=[.tup [dd,.tup (ts.map xj)]]/\(ts.map λt=>t.1).Nodup/\ts.length<=1000/\Q (byN ts) n
def zP9(T:Blt mg)(F:Fun K "things_by_name" "things_by_name" vP f fd):FnOk P w K mg base CX0 1 f fd q1 (spD K 1 zw9):=by
 refine Fun.okD F jN (λcdv A0 outer s H E G Z _ hr=>(xk (wG (zn5 (own:=["thing"]) (M:=vT) (vW (by rfl)) rfl (vg rfl (jX kX jU (zq 0) zZ (λ_ _=>rfl))) (λ_ _ _ _=>(wy (i:=0) jh rfl (lo rfl) w6)) (λ_ _ _ _=>yP) (λ_ _ _ _=>(jX kX jU (zq 0) zZ (λ_ _=>rfl))) (λ_ _ _ _=>(zq 0)))))) ?_
 rintro ds n Q hl ⟨dd,ts,rfl,hn,hz,q⟩;have e1:atI [dd,D.tup (ts.map xj)] 1=some (D.tup (ts.map xj)):=rfl;simp[ya,e1]
 refine⟨by rw[zn];exact yN hz,λi ks es n'=>n'=n/\ks=(ts.take i).map kn/\es=(ts.take i).map xj,⟨rfl,rfl,rfl⟩,?_,?_⟩
 ·rintro i d ks es n' e ⟨rfl, rfl, rfl⟩;rw[zB] at e
  cases et:ts[i]? with
  |none=>rw[et] at e;cases e
  | some t =>
   rw[et] at e;cases e;have nt:yL (xj t)=true:=rfl;simp[nt];have e2:∀R:D->Prop,R (.int t.1)->zI2 (xj t) (.int 0) R:=λR h=>⟨_,_,_,.inr (.inl rfl),rfl,rfl,h⟩;refine e2 _ ?_;refine⟨_,rfl,?_,?_⟩
   ·have hk : zp9 ((ts.take i).map kn) (Sum.inl t.1) = false := Ze λhm => by
     have h3:(ts.take i++[t]).Sublist ts:=by
      have:ts.take i++[t]=ts.take (i+1):=by rw[xq,et];rfl
      rw[this];exact take_sublist ..
     have h4:=(h3.map λt=>t.1).nodup hn;rw[xS,xI] at h4
     exact h4.2.2 _ hm _ (by simp) rfl
    unfold Xw;rw[yj] at hk
    rw[if_neg (by rw[hk];simp),xq,zB,et];rfl
   ·have hk : zp9 ((ts.take i).map kn) (Sum.inl t.1) = false := Ze λhm => by
     have h3:(ts.take i++[t]).Sublist ts:=by
      have:ts.take i++[t]=ts.take (i+1):=by rw[xq,et];rfl
      rw[this];exact take_sublist ..
     have h4:=(h3.map λt=>t.1).nodup hn;rw[xS,xI] at h4
     exact h4.2.2 _ hm _ (by simp) rfl
    unfold QK;rw[yj] at hk
    rw[if_neg (by rw[hk];simp),xq,zB,et];rfl
 ·rintro ks es n' ⟨rfl,rfl,rfl⟩;rw[zn,wD];exact q
abbrev jR:Stmt:=top 10
abbrev qb:List Str:=["things","i"]
def VC:FnScope qb ["things","i"] (xo jR):=⟨rfl,rfl,rfl,x4,rfl,x4,x4⟩
def qi:("name" :: "place" :: "worth" :: qb:List Str).Nodup:=x4
def jF:("turned" :: "name" :: qb:List Str).Nodup:=x4
def jK:TF:=λds n Q=>∃(i d:Nat) (ts:List Thing) (dd:D),ds=[dd,.int i]/\(dd=.lst (ts.map xj)\/dd=.tup (ts.map xj))/\i<d/\d<=4/\GoodU d ts/\ts.length<500/\∀rs:List Thing,OrdT i ts rs->Q (kT rs) n
def VX(T:Blt mg)(F:Fun K "names_by" "names_by" jR f fd):FnOk P w K mg base CX0 1 f fd ["things","i"] (spD K 2 jK):=by
 refine Fun.okD F VC (λcdv A0 outer s H E G Z _ hr=>(xk (wG (yB wQ vn T.tuple vo (zc (kh (own:=["turned","name"]) (M:=qb) (vW (by rfl)) rfl (vg rfl (wP (Zi hr) (zr8 rfl) T.sorted qJ (zc (kh (own:=["name","place","worth"]) (M:=qb) (vW (by rfl)) rfl (vg rfl (zq 0)) (λ_ _ _ _=>(ZU (k:=3) rfl rfl (yU (wy (i:=0) qi rfl (lo rfl) w6) (yU (wy (i:=1) qi rfl (lo rfl) w6) (yU (wy (i:=2) qi rfl (lo rfl) w6) jC))))) (λ_ _ _ _=>yP) (λ_ _ _ _=>(kS (zc (ZV zn7 zy6 (Kr rfl (zq 1) (qf (zq 4)) qg) (Kr rfl (zq 1) qg (qf (zq 4)))) (zc (zq 0) zE))))) zE))) (λ_ _ _ _=>(ZU (k:=2) rfl rfl (yU (wy (i:=0) jF rfl (lo rfl) w6) (yU (wy (i:=1) jF rfl (lo rfl) w6) jC)))) (λ_ _ _ _=>yP) (λ_ _ _ _=>(zq 1))) zE))))) ?_
 rintro ds n Q hl ⟨i,d,ts,dd,rfl,hdd,hi,hd,hg,hz,q⟩
 have ndd:yL dd=true:=by rcases hdd with rfl |rfl<;>rfl
 simp[ya,ndd];refine⟨_,hdd,?_⟩
 refine yK xj (λt=>(VE i t).d) ts (yN w5) (λt ht R hR=>?_) ?_
 ·have he := hg.each t ht;obtain⟨x,p,y⟩:=t;have hp:p.length=d:=he
  have c1:=KO (p.map D.int) i (by rw[zn];lia)
  have c2:=zg5 (p.map D.int) i (by rw[zn];lia)
  simp[xj,yM,c1,c2]
  refine⟨yN w5,?_⟩
  have e:(VE i (x,p,y)).d=D.tup [D.tup (List.drop i (List.map D.int p)++List.take i (List.map D.int p)),D.int x]:=by
   show D.tup [D.tup ((rot i p).map D.int),D.int x]=_;unfold rot;rw[xS,map_drop,yj]
  rw[<- e];exact hR
 ·refine ⟨ts.map (VE i), false, by rw [xh]; rfl, by rw [zn]; lia, ?_, ?_, λrows hp hs => ⟨_, .inl rfl, ?_⟩⟩
  ·intro x hx;obtain⟨t,_,rfl⟩:=zK.mp hx;rfl
  ·rw[xh];exact hg.nd
  ·have hlen : rows.length = ts.length := by rw [hp.length_eq, zn]
   obtain⟨rs,hrp,rfl⟩:=Zx hp;rw[zn] at hlen;rw[xh]
   refine yK (SRow.d∘VE i) (λt:Thing=>.int t.1) rs (yN w5) (λt ht R hR=>?_) ?_
   ·have e:(SRow.d∘VE i) t=.tup [.tup ((rot i t.2.1).map D.int),.int t.1]:=rfl;rw[e];simp;exact hR
   ·simp
    exact q rs ⟨hrp,by rw[xV] at hs;exact hs⟩
abbrev vQ:Stmt:=top 11
abbrev vU:List Str:=["by_name","names","i"]
def jO:FnScope vU q4 (xo vQ):=⟨rfl,rfl,rfl,x4,rfl,x4,x4⟩
def ji:("name" :: vU:List Str).Nodup:=x4
def jL:TF:=λds n Q=>∃(i d:Nat) (hs ts:List Thing),ds=[byN hs,kT ts,.int i]/\i<d/\d<=4/\(hs.map λt=>t.1).Nodup/\(∀t∈ts,t∈hs)/\GoodU d ts/\ts.length<500/\∀rs:List Thing,OrdT i ts rs->Q (kT rs) n
def VY(F:Fun K "names_in_order" "names_in_order" vQ f fd)(F_names_by:Fn P w K mg base "names_by" 1 2 jK):FnOk P w K mg base CX0 2 f fd q4 (spD K 3 jL):=by
 refine Fun.okD F jO (λcdv A0 outer s H E G Z _ hr=>(xk (wG (vp F_names_by (hr.mono w6) rfl (zc (kh (own:=["name"]) (M:=vU) (vW (by rfl)) rfl (vg rfl (zq 1)) (λ_ _ _ _=>(wy (i:=0) ji rfl (lo rfl) w6)) (λ_ _ _ _=>yP) (λ_ _ _ _=>(zu1 (Zc hr) (zq 1) (zq 0) (λ_ _=>rfl)))) (zc (zq 2) zE)))))) ?_
 rintro ds n Q hl ⟨i,d,hs,ts,rfl,hi,hd,hn,hsub,hg,hz,q⟩;simp[ya];refine⟨_,.inr rfl,?_⟩
 refine yK (λt:Thing=>.int t.1) xj ts (yN w5) (λt ht R hR=>?_) ?_
 ·simp;unfold byN;rw[QG];exact⟨_,Yy (hsub t ht) hn,hR⟩
 ·exact⟨i,d,ts,_,rfl,.inl rfl,hi,hd,hg,hz,q⟩
abbrev qU:Stmt:=top 12
abbrev UK:List Str:=["count"]
def Wl:FnScope UK ["count"] (xo qU):=⟨rfl,rfl,rfl,x4,rfl,x4,x4⟩
def qQ:TF:=λds n Q=>∃c:Nat,ds=[.int c]/\Q (.int (((c+1)/2:Nat):Int)) n
def WE(F:Fun K "halved_up" "halved_up" qU f fd):FnOk P w K mg base CX0 1 f fd ["count"] (spD K 1 qQ):=by
 refine Fun.okD F Wl (λcdv A0 outer s H E G Z _ hr=>(xk (wG (za2 (kj (zq 0) zZ) zZ)))) ?_;rintro ds n Q hl ⟨c,rfl,q⟩
 have e:((c:Int)+1)/2=((c+1)/2:Nat):=w5
 simp[ya]
 exact⟨⟨w6,w6⟩,by rw[e];exact q⟩
abbrev Xu:Stmt:=top 2
abbrev qp:List Str:=["places","columns"]
def Wn:FnScope qp ["places"] (xo Xu):=⟨rfl,rfl,rfl,x4,rfl,x4,x4⟩
def Ue:("i" :: qp:List Str).Nodup:=x4
def Ud:("place" :: ("i" :: qp):List Str).Nodup:=x4
def Uc:("column" :: qp:List Str).Nodup:=x4
def ZH:TF:=λds n Q=>∃(qs:List (List Int)) (d:Nat),ds=[.lst (qs.map yM)]/\1<=qs.length/\qs.length<=1000/\d<=1000/\(∀q∈qs,q.length=d)/\Q (vX (zJ2 d qs)) n
def Jv(T:Blt mg)(F:Fun K "bounds" "bounds" Xu f fd):FnOk P w K mg base CX0 1 f fd ["places"] (spD K 1 ZH):=by
 refine Fun.okD F Wn (λcdv A0 outer s H E G Z _ hr=>(zV (jf (i:=1) Wn.nd rfl (lo rfl) (own:=["i"]) (M:=qp) (vW (by rfl)) rfl (XB T.range (zc (wP wV kY T.len qa (zc (jX kX jU (zq 0) zZ (λ_ _=>rfl)) zE)) zE)) (λ_ _ _ _=>(wy (i:=0) Ue rfl (lo rfl) w6)) (λ_ _ _ _=>yP) (λ_ _ _ _=>(kh (own:=["place"]) (M:=("i" :: qp)) (vW (by rfl)) rfl (vg rfl (zq 1)) (λ_ _ _ _=>(wy (i:=0) Ud rfl (lo rfl) w6)) (λ_ _ _ _=>yP) (λ_ _ _ _=>(jX kX jU (zq 0) (zq 1) (λ_ _=>rfl))))))
  (xk (wG (yB wQ vn T.tuple vo (zc (kh (own:=["column"]) (M:=qp) (vW (by rfl)) rfl (vg rfl (zq 1)) (λ_ _ _ _=>(wy (i:=0) Uc rfl (lo rfl) w6)) (λ_ _ _ _=>yP) (λ_ _ _ _=>(kS (zc (wP (zh4 rfl) zH0 T.min zh8 (zc (zq 0) zE)) (zc (wP (zh5 rfl) zH1 T.max zh9 (zc (zq 0) zE)) zE))))) zE)))))) ?_
 rintro ds n Q hl ⟨qs,d,rfl,h1,h2,hd,hq,q⟩
 obtain⟨q0,r0,rfl⟩:∃q0 r0,qs=q0::r0:=by cases qs with |nil=>simp at h1 |cons q0 r0=>exact⟨q0,r0,rfl⟩
 have hl0:q0.length=d:=hq q0 (zo ..)
 have hk:∀k:D->Prop,k (.int d)->zF7 [yM q0] k:=λk h=>by unfold yM;rw[QI,zn,hl0];exact h
 simp[ya];refine hk _ ?_;simp
 refine⟨w5,?_⟩
 rw[UZ]
 refine yK (λi:Nat=>D.int (i:Int)) (λi=>.lst ((zj2 (q0::r0) i).map D.int)) (List.range d) (by rw[yD];exact yN hd) (λi hi R hR=>?_) ?_
 ·have hi' : i < d := yn.mp hi;simp;rw[<- zy (f:=yM)]
  have e:(zj2 (q0::r0) i).map D.int=(q0::r0).map λq=>.int (q[i]?.getD 0):=by unfold zj2;rw[xh];rfl
  refine yK yM (λq=>.int (q[i]?.getD 0)) (q0::r0) (yN h2) (λq hqm R2 hR2=>?_) ?_
  ·have nq : yL (yM q) = true := rfl
   have hq1:i<q.length:=by rw[hq q hqm];exact hi'
   simp[nq];unfold yM;rw[zz2];refine⟨.int (q[i]?.getD 0),Yz ?_,hR2⟩;rw[zB,zj hq1];rfl
  ·rw[<- e];exact hR
 ·simp
  refine yK (λi=>.lst ((zj2 (q0::r0) i).map D.int)) (λi=>Ut (some (zE9 (zj2 (q0::r0) i)),some (zF2 (zj2 (q0::r0) i)))) (List.range d) (by rw[yD];exact yN hd) (λi hi R hR=>?_) ?_
  ·have hc : 0 < (zj2 (q0 :: r0) i).length := by unfold zj2; rw [zn]; exact h1
   simp;exact JD hc (JE hc hR)
  ·have z:=q;unfold vX zJ2 at z;rw[xh] at z;exact kR.mpr z
abbrev qV:Stmt:=top 14
abbrev jm:List Str:=["by_name","names"]
def Wm:FnScope jm q5 (xo qV):=⟨rfl,rfl,rfl,x4,rfl,x4,x4⟩
def YH:("name" :: jm:List Str).Nodup:=x4
def qR:TF:=λds n Q=>∃(d:Nat) (hs ts:List Thing),ds=[byN hs,kT ts]/\d<=4/\(hs.map λt=>t.1).Nodup/\(∀t∈ts,t∈hs)/\(∀t∈ts,t.2.1.length=d)/\1<=ts.length/\ts.length<500/\Q (vX (zJ2 d (ts.map λt=>t.2.1))) n
def WF(F:Fun K "bounds_of" "bounds_of" qV f fd)(F_bounds:Fn P w K mg base "bounds" 1 1 ZH):FnOk P w K mg base CX0 2 f fd q5 (spD K 2 qR):=by
 refine Fun.okD F Wm (λcdv A0 outer s H E G Z _ hr=>(xk (wG (vp F_bounds (hr.mono w6) rfl (zc (kh (own:=["name"]) (M:=jm) (vW (by rfl)) rfl (vg rfl (zq 1)) (λ_ _ _ _=>(wy (i:=0) YH rfl (lo rfl) w6)) (λ_ _ _ _=>yP) (λ_ _ _ _=>(jX kX jU (zu1 (Zc hr) (zq 1) (zq 0) (λ_ _=>rfl)) zZ (λ_ _=>rfl)))) zE))))) ?_
 rintro ds n Q hl ⟨d,hs,ts,rfl,hd,hn,hsub,hlen,h1,hz,q⟩;simp[ya];refine⟨_,.inr rfl,?_⟩
 refine yK (λt:Thing=>.int t.1) (λt=>yM t.2.1) ts (yN w5) (λt ht R hR=>?_) ?_
 ·simp;unfold byN;rw[QG];exact⟨_,Yy (hsub t ht) hn,⟨_,_,_,.inr (.inl rfl),rfl,rfl,hR⟩⟩
 ·refine ⟨ts.map λt => t.2.1, d, by rw [xh]; rfl, by simpa using h1, by simp; lia, by lia, λp hp => ?_, q⟩
  obtain⟨t,ht,rfl⟩:=zK.mp hp;exact hlen t ht
abbrev ZK:Stmt:=top 15
abbrev zi8:List Str:=["d","by_name","names","i","rising","limits","ordered","half","turn"]
def vY:FnScope zi8 q6 (xo ZK):=⟨rfl,rfl,rfl,x4,rfl,x4,x4⟩
def Wb:Nat->TF
 |0=>λ_ _ _=>False
 |j+1=>λds n Q=>∃(d i:Nat) (hs ts:List Thing),ds=[.int d,byN hs,kT ts,.int i]/\i<d/\d<=4/\(hs.map λt=>t.1).Nodup/\(∀t∈ts,t∈hs)/\GoodU d ts/\1<=ts.length/\ts.length<500/\ts.length<=2^j/\∀tr,Turned d i ts tr->Q (YO tr) n
def zD2(T:Blt mg)(F:Fun K "tree_of" "tree_of" ZK f fd)(hm:mg "tree_of" = some (.ref f))(hk:W.keepIn K (.ref f)=true)(hb:Binds K fd ["d","by_name","names","i"] [])(F_bounds_of:Fn P w K mg base "bounds_of" 2 2 qR)(F_names_in_order:Fn P w K mg base "names_in_order" 2 3 jL)(F_halved_up:Fn P w K mg base "halved_up" 1 1 qQ):∀j:Nat,FnOk P w K mg base CX0 (j+2) f fd q6 (spD K 4 (Wb j)):=by
 intro j
 induction j with
 |zero=>exact FnOk.botK λds n Q h=>h
 | succ j ih =>
  have F_tree_of:Fn P w K mg base "tree_of" (j+2) 4 (Wb j):=⟨f,fd,_,ih,hm,hk,hb⟩
  refine Fun.okD F vY (λcdv A0 outer s H E G Z _ hr=>(zV (yJ (i:=4) vY.nd rfl (lo rfl) (yB wQ vn T.tuple vo (zc (wP Ve (JM rfl) T.sorted qJ (zc (zq 2) zE)) zE)))
  (zV (yJ (i:=5) vY.nd rfl (lo rfl) (vp F_bounds_of (hr.mono w5) rfl (zc (zq 1) (zc (zq 2) zE))))
  (zV (kf (yQ VW VJ (wP wV kY T.len qa (zc (zq 2) zE)) zZ (vb _)) (xk (wG (kS (zc (zq 4) (zc (zq 5) (zc za0 (zc za0 zE))))))) yS)
  (zV (yJ (i:=6) vY.nd rfl (lo rfl) (vp F_names_in_order (hr.mono w5) rfl (zc (zq 1) (zc (zq 2) (zc (zq 3) zE)))))
  (zV (yJ (i:=7) vY.nd rfl (lo rfl) (vp F_halved_up (hr.mono w5) rfl (zc (wP wV kY T.len qa (zc (zq 2) zE)) zE)))
  (zV (yJ (i:=8) vY.nd rfl (lo rfl) (kH (kj (zq 3) zZ) (zq 0)))
  (xk (wG (kS (zc (zq 4) (zc (zq 5) (zc (vp F_tree_of hr rfl (zc (zq 0) (zc (zq 1) (zc (Kr rfl (zq 6) qg (qf (zq 7))) (zc (zq 8) zE))))) (zc (vp F_tree_of hr rfl (zc (zq 0) (zc (zq 1) (zc (Kr rfl (zq 6) (qf (zq 7)) qg) (zc (zq 8) zE))))) zE)))))))))))))) ?_
  rintro ds n Q hl ⟨d,i,hs,ts,rfl,hi,hd,hn,hsub,hg,h1,hz,hj,q⟩
  have nmE:kT ts=.tup ((ts.map λt=>t.1).map D.int):=by unfold kT;rw[xh];rfl
  have kl:∀k:D->Prop,k (.int (ts.length:Int))->zF7 [kT ts] k:=λk h=>by unfold kT;rw[QI,zn];exact h
  simp[ya]
  refine⟨ts.map λt=>t.1,congrArg (λx=>[x]) nmE,by rw[zn];lia,λns hp hs'=>?_⟩
  simp;refine⟨d,hs,ts,rfl,hd,hn,hsub,hg.each,h1,hz,?_⟩;have np:yL (vX (zJ2 d (ts.map λt=>t.2.1)))=true:=rfl;simp;refine kl _ ?_;simp
  split
  ·rename_i h2
   have h2':ts.length=1:=w5
   obtain⟨t,rfl⟩:=List.length_eq_one_iff.mp h2'
   have e1:ns=[t.1]:=by simpa using hp
   subst e1;simp;exact q _ .one
  ·rename_i h2
   have h2':2<=ts.length:=w5
   refine⟨i,d,hs,ts,rfl,hi,hd,hn,hsub,hg,hz,λrs ho=>?_⟩;have hrl:rs.length=ts.length:=ho.perm.length_eq;simp;refine kl _ ⟨ts.length,rfl,?_⟩;simp[np]
   refine⟨w5,?_⟩
   cases j with
   |zero=>simp at hj;lia
   | succ j =>
    have et:((i:Int)+1)%(d:Int)=(((i+1)%d:Nat):Int):=by simp
    have hcut1:Yu (rs.map λt=>D.int t.1) none (some (((ts.length+1)/2:Nat):Int))=(rs.take ((ts.length+1)/2)).map λt=>D.int t.1:=by rw[zg5 _ _ (by rw[zn];lia),yj]
    have hcut2:Yu (rs.map λt=>D.int t.1) (some (((ts.length+1)/2:Nat):Int)) none=(rs.drop ((ts.length+1)/2)).map λt=>D.int t.1:=by rw[KO _ _ (by rw[zn];lia),map_drop]
    have gr:=hg.perm ho.perm
    have pw:2^(j+1)=2*2^j:=by rw[xy];lia
    have part:∀(us:List Thing) (n:Nat) (R:D->Nat->Prop),us.Sublist rs->1<=us.length->us.length<=(ts.length+1)/2->(∀tr,Turned d ((i+1)%d) us tr->R (YO tr) n)->Wb (j+1) [.int d,byN hs,kT us,.int (((i+1)%d:Nat):Int)] n R:=λus n R hu h3 h4 hR=>
     ⟨d,(i+1)%d,hs,us,rfl,Nat.mod_lt _ w5,hd,hn,λt ht=>hsub t (ho.perm.mem_iff.mp (hu.mem ht)),gr.sub hu,h3,w5,w5,hR⟩
    have eh:((ts.length:Int)+1)/2=(((ts.length+1)/2:Nat):Int):=w5
    unfold kT;rw[QE,eh,et,hcut1]
    refine part _ _ _ (take_sublist ..) (by rw[xm];lia) (by rw[xm];lia) λlow hlow=>?_
    rw[QE,hcut2]
    refine part _ _ _ (List.drop_sublist ..) (by rw[wq];lia) (by rw[wq];lia) λhigh hhigh=>?_
    exact q _ (.two h2' hp hs' ho hlow hhigh)
abbrev qW:Stmt:=top 16
abbrev jo:List Str:=["house"]
def Wo:FnScope jo q1 (xo qW):=⟨rfl,rfl,rfl,x4,rfl,x4,x4⟩
def kL:("name" :: "place" :: "worth" :: jo:List Str).Nodup:=x4
def qS:TF:=λds n Q=>∃(dd:D) (ts:List Thing),ds=[.tup [dd,.tup (ts.map xj)]]/\ts.length<=1000/\Q (kT ts) n
def WG(T:Blt mg)(F:Fun K "all_names" "all_names" qW f fd):FnOk P w K mg base CX0 1 f fd q1 (spD K 1 qS):=by
 refine Fun.okD F Wo (λcdv A0 outer s H E G Z _ hr=>(xk (wG (yB wQ vn T.tuple vo (zc (kh (own:=["name","place","worth"]) (M:=jo) (vW (by rfl)) rfl (vg rfl (jX kX jU (zq 0) zZ (λ_ _=>rfl))) (λ_ _ _ _=>(ZU (k:=3) rfl rfl (yU (wy (i:=0) kL rfl (lo rfl) w6) (yU (wy (i:=1) kL rfl (lo rfl) w6) (yU (wy (i:=2) kL rfl (lo rfl) w6) jC))))) (λ_ _ _ _=>yP) (λ_ _ _ _=>(zq 0))) zE))))) ?_
 rintro ds n Q hl ⟨dd,ts,rfl,hz,q⟩;have e1:atI [dd,D.tup (ts.map xj)] 1=some (D.tup (ts.map xj)):=rfl;simp[ya,e1];refine yK xj (λt=>.int t.1) ts (yN hz) (λt ht R hR=>?_) ?_
 ·simp[xj];exact hR
 ·exact kR.mpr q
abbrev VD:Stmt:=top 17
abbrev zI1:List Str:=["house","d","things"]
def Xo:FnScope zI1 q1 (xo VD):=⟨rfl,rfl,rfl,x4,rfl,x4,x4⟩
def Vv:TF:=λds n Q=>∃(d:Nat) (ts:List Thing),ds=[.tup [.int d,.tup (ts.map xj)]]/\1<=d/\d<=4/\GoodU d ts/\ts.length<500/\(ts=[]->Q .non n)/\(ts≠[]->∀tr,Turned d 0 ts tr->Q (YO tr) n)
def zn8(T:Blt mg)(F:Fun K "turns" "turns" VD f fd)(F_tree_of:Fn P w K mg base "tree_of" 12 4 (Wb 10))(F_things_by_name:Fn P w K mg base "things_by_name" 1 1 zw9)(F_all_names:Fn P w K mg base "all_names" 1 1 qS):FnOk P w K mg base CX0 13 f fd q1 (spD K 1 Vv):=by
 refine Fun.okD F Xo (λcdv A0 outer s H E G Z _ hr=>(zV (zA2 (m:=3) (zq 0) (ZU (k:=2) rfl rfl (yU (wy (i:=1) Xo.nd rfl (lo rfl) w6) (yU (wy (i:=2) Xo.nd rfl (lo rfl) w6) jC))))
  (zV (kf (yQ VW VJ (wP wV kY T.len qa (zc (zq 2) zE)) zZ (vb _)) (xk (wG za0)) yS)
  (xk (wG (vp F_tree_of (hr.mono w6) rfl (zc (zq 1) (zc (vp F_things_by_name (hr.mono w6) rfl (zc (zq 0) zE)) (zc (vp F_all_names (hr.mono w6) rfl (zc (zq 0) zE)) (zc zZ zE)))))))))) ?_
 rintro ds n Q hl ⟨d,ts,rfl,h1,hd,hg,hz,q0,q1⟩;simp[ya]
 split
 ·rename_i h;exact q0 h
 ·rename_i h
  refine⟨_,ts,rfl,hg.nd,w5,?_⟩
  simp
  refine⟨_,ts,rfl,w5,?_⟩
  have hlen:1<=ts.length:=by
   cases ts with
   |nil=>exact absurd rfl h
   |cons a b=>simp
  exact⟨d,0,ts,ts,rfl,w5,hd,hg.nd,λt ht=>ht,hg,hlen,hz,by show ts.length<=512;lia,q1 h⟩
end
structure Pt where
 r:Nat
 a:Addr
 g:Addr
 ts:List Thing
 gs:List (Int × D)
def pF(ts:List Thing)(h tr:D)(g:Addr):List (Str × D):=[("things",.lst (ts.map xj)),("held",h),("tree",tr),("gone",.rf g)]
def zu2(gs:List (Int × D))(t:Thing):Bool:=(vy t.1 gs).isNone
def Pt.left(p:Pt):List Thing:=p.ts.filter (zu2 p.gs)
structure PartAt(CP:Addr)(n:Nat)(p:Pt):Prop where
 i:∃h tr,xp n p.a=some (.ins CP (pF p.ts h tr p.g))
 g:xp n p.g=some (.dic p.gs)
@[simp] theorem ne1:(("things" : Str) = "held")=False:=eq_false x4
@[simp] theorem ne2:(("things" : Str) = "tree")=False:=eq_false x4
@[simp] theorem ne3:(("things" : Str) = "gone")=False:=eq_false x4
@[simp] theorem ne4:(("held" : Str) = "tree")=False:=eq_false x4
@[simp] theorem ne5:(("held" : Str) = "gone")=False:=eq_false x4
@[simp] theorem ne6:(("tree" : Str) = "gone")=False:=eq_false x4
@[simp] theorem ne7:(("things" : Str) = "left")=False:=eq_false x4
@[simp] theorem ne8:(("held" : Str) = "left")=False:=eq_false x4
@[simp] theorem ne9:(("tree" : Str) = "left")=False:=eq_false x4
@[simp] theorem xE1:(("gone" : Str) = "left")=False:=eq_false x4
def ZW{ts h tr g}:qF "things" (pF ts h tr g)=some (.lst (ts.map xj)):=by simp[pF,qF]
def XE{ts h tr g}:qF "gone" (pF ts h tr g)=some (.rf g):=by simp[pF,qF]
def VU{ts h tr g}:qF "left" (pF ts h tr g)=none:=by simp[pF,qF]
def VQ(t:Thing):plD (xj t)=true:=by
 have e:jH (t.2.1.map D.int)=true:=yT.mpr λd hd=>by obtain⟨x,_,rfl⟩:=zK.mp hd;rfl
 simp[xj,yM,plD,jH,e]
def Wz(ts:List Thing):jH (ts.map xj)=true:=yT.mpr λd hd=>by obtain⟨x,_,rfl⟩:=zK.mp hd;exact VQ x
def ZS(ps:List zI0):plD (vX ps)=true:=by
 have e:jH (ps.map Ut)=true:=yT.mpr λd hd=>by
  obtain⟨⟨x,y⟩,_,rfl⟩:=zK.mp hd
  cases x<;>cases y<;>rfl
 simpa [vX,plD] using e
theorem jA:∀t:Tr,plD (YO t)=true
 |.one x bd=>by simp[YO,plD,jH,ZS]
 |.two ns bd l h=>by
  have e:jH (ns.map D.int)=true:=yT.mpr λd hd=>by obtain⟨x,_,rfl⟩:=zK.mp hd;rfl
  simp[YO,plD,jH,ZS,jA l,jA h,e]
def WA{C:Addr}{fs:List (Str × D)}(h:∀d∈fs.map (·.2),plD d=true):plC (.ins C fs)=true:=yT.mpr h
def _root_.L2.OnlyC.setTo{n n1:Nat}{l:List Addr}{a:Addr}{c:Cell}(h:OnlyC n n1 l)(pl:plC c=true)(m:a∈l):OnlyC n (vN n1 a c) l:=(h.trans (OnlyC.set (n:=n1) (a:=a) pl)).mono λb hb=>by
 rcases zN.mp hb with hb |hb
 ·exact hb
 ·rw[zW.mp hb];exact m
section
variable {P:Program}{w:World}{K:W.Frag}{mg:Str->Option Value}{base:Heap}{CP:Addr}
abbrev jb:Stmt:=vS (top 21) 0
abbrev UN:List Str:=["self","d","things"]
def Wq:FnScope UN q7 (xo jb):=⟨rfl,rfl,rfl,x4,rfl,x4,x4⟩
def Vy(CP:Addr):TF:=λds n Q=>∃(a:Addr) (d:Nat) (ts:List Thing),ds=[.rf a,.int d,.lst (ts.map xj)]/\xp n a=some (.ins CP [])/\1<=d/\d<=4/\GoodU d ts/\1<=ts.length/\ts.length<500 /\
 ∀g h tr n',g≠a->xp n g=none->OnlyC n n' [a,g]->xp n' a=some (.ins CP (pF ts h tr g))->xp n' g=some (.dic [])->Q .non n'
def zo3(T:Blt mg)(CL_Part:Cls K CP)(NA_things:NoAttr K CP "things")(NA_held:NoAttr K CP "held")(NA_tree:NoAttr K CP "tree")(NA_gone:NoAttr K CP "gone")(F:Fun K "__init__" "Part.__init__" jb f fd)(F_turns:Fn P w K mg base "turns" 13 1 Vv):FnOk P w K mg base CX0 14 f fd q7 (spD K 3 (Vy CP)):=by
 refine Fun.okD F Wq (λcdv A0 outer s H E G Z _ hr=>(zV (kG CL_Part NA_things (zq 0) (zq 2))
  (zV (kG CL_Part NA_held (zq 0) (kS (zc (zq 1) (zc (yB wQ vn T.tuple vo (zc (wP (Zi hr) (KP rfl) T.sorted qJ (zc (zq 2) zE)) zE)) zE))))
  (zV (kG CL_Part NA_tree (zq 0) (vp F_turns (hr.mono w6) rfl (zc (yF CL_Part NA_held (zq 0)) zE)))
  (xk (kG CL_Part NA_gone (zq 0) VS)))))) ?_
 rintro ds n Q hl ⟨a,d,ts,rfl,hc,hd1,hd4,hg,h1,hz,q⟩
 have pt:plD (.lst (ts.map xj))=true:=by simpa [plD] using Wz ts
 have p1:plC (.ins CP [("things",.lst (ts.map xj))])=true:=WA (by simpa using pt)
 simp[ya]
 refine xx hc ⟨pt,by simp,?_⟩
 simp[Xy];have o1:=OnlyC.rfl'.setTo (n:=n) (l:=[a]) (a:=a) p1 (zo ..);have c1:=yl (n:=n) (a:=a) p1;generalize vN n a _=n1 at o1 c1 ⊢
 refine⟨ts.map λt=>(t.1,[yM t.2.1,.int t.2.2]),by rw[xh];rfl,by rw[zn];lia,by rw[xh];exact hg.nd,λrows hp hs=>?_⟩
 obtain⟨rs,hrp,rfl⟩:=Zx hp;have pr:jH (rs.map xj)=true:=Wz rs
 have ph:plD (.tup [.int d,.tup (rs.map xj)])=true:=by simp[plD,jH,pr]
 have eR:(rs.map λt=>(t.1,[yM t.2.1,D.int t.2.2])).map NRow.d=rs.map xj:=by rw[xh];rfl
 rw[eR];refine kR.mpr ?_
 refine xx c1 ⟨ph,by simp,?_⟩
 simp[Xy]
 have p2:plC (.ins CP [("things",.lst (ts.map xj)),("held",.tup [.int d,.tup (rs.map xj)])])=true:=WA (by simpa using ⟨pt,ph⟩)
 have o2:=o1.setTo (a:=a) p2 (zo ..);have c2:=yl (n:=n1) (a:=a) p2;generalize vN n1 a _=n2 at o2 c2 ⊢;refine xx c2 ?_;simp[qF];have hrl:rs.length=ts.length:=hrp.length_eq
 refine⟨d,rs,rfl,hd1,hd4,hg.perm hrp,w5,λe=>by rw[e] at hrl;simp at hrl;lia,λ_ tr _=>?_⟩
 have p3:plC (.ins CP [("things",.lst (ts.map xj)),("held",.tup [.int d,.tup (rs.map xj)]),("tree",YO tr)])=true:=WA (by simpa using ⟨pt,ph,jA tr⟩)
 refine xx c2 ⟨jA tr,by simp,?_⟩
 simp[Xy];have o3:=o2.setTo (a:=a) p3 (zo ..);have c3:=yl (n:=n2) (a:=a) p3;generalize vN n2 a _=n3 at o3 c3 ⊢;intro g hgn
 have ga:g≠a:=λe=>by rw[e,c3] at hgn;cases hgn
 have p4:plC (.dic [])=true:=rfl
 have o4:=(o3.mono (r:=[a,g]) (by simp)).setTo (a:=g) p4 (by simp)
 have c4:=(kA (n:=n3) (a:=g) (b:=a) p4 (Ne.symm ga)).trans c3;have g4:=yl (n:=n3) (a:=g) p4;generalize vN n3 g _=n4 at o4 c4 g4 ⊢
 refine xx c4 ⟨rfl,by simp,?_⟩
 simp[Xy]
 have p5:plC (.ins CP (pF ts (.tup [.int d,.tup (rs.map xj)]) (YO tr) g))=true:=WA (by simpa [pF] using ⟨pt,ph,jA tr,rfl⟩)
 exact q g _ _ _ ga (by rw[<- hgn];exact(o3.o g (by simpa using ga)).symm) (o4.setTo p5 (by simp)) (yl p5) ((kA p5 ga).trans g4)
abbrev ja:Stmt:=vS (top 21) 1
abbrev jp:List Str:=["self"]
def Wp:FnScope jp q0 (xo ja):=⟨rfl,rfl,rfl,x4,rfl,x4,x4⟩
def YK:("thing" :: jp:List Str).Nodup:=x4
def ZE(CP:Addr):TF:=λds n Q=>∃p:Pt,ds=[.rf p.a]/\PartAt CP n p/\p.ts.length<=1000/\Q (.lst (p.left.map xj)) n
def zo2(T:Blt mg)(CL_Part:Cls K CP)(NA_things:NoAttr K CP "things")(NA_gone:NoAttr K CP "gone")(F:Fun K "left" "Part.left" ja f fd):FnOk P w K mg base CX0 1 f fd q0 (spD K 1 (ZE CP)):=by
 refine Fun.okD F Wp (λcdv A0 outer s H E G Z _ hr=>(xk (wG (kh (own:=["thing"]) (M:=jp) (vW (by rfl)) rfl (vg rfl (yF CL_Part NA_things (zq 0))) (λ_ _ _ _=>(wy (i:=0) YK rfl (lo rfl) w6)) (λ_ _ _ _=>(zm0 (YX (Zc hr) (jX kX jU (zq 0) zZ (λ_ _=>rfl)) (yF CL_Part NA_gone (zq 1)) (by with_unfolding_all rfl)))) (λ_ _ _ _=>(zq 0)))))) ?_
 rintro ds n Q hl ⟨p,rfl,⟨⟨h,tr,hc⟩,hgc⟩,hz,q⟩;simp[ya];refine xx hc ?_;rw[ZW];simp;refine Uy xj (zu2 p.gs) xj p.ts (yN hz) (λt ht R S hR hS=>?_) q;have hR':zu2 p.gs t=true->R (.tup [.int t.1,yM t.2.1,.int t.2.2]) n:=hR;simp[xj];refine xx hc ?_;rw[XE];simp;refine yw hgc ?_;unfold zu2 at hR' hS
 split
 ·rename_i e;rw[e] at hR';exact hR' rfl
 ·rename_i e;exact hS (by cases q:vy t.1 p.gs with |none=>exact absurd q e |some x=>rfl)
end
theorem WW{α:Type}{k y:Int}{x:α}:∀{l:List (Int × α)},vy y (l++[(k,x)])=match vy y l with |some d=>some d |none=>if k=y then some x else none
 |[]=>rfl
 |p::l=>by
  show(if p.1=y then some p.2 else vy y (l++[(k,x)]))=match (if p.1=y then some p.2 else vy y l) with |some d=>some d |none=>if k=y then some x else none
  by_cases e:p.1=y
  ·rw[if_pos e,if_pos e]
  ·rw[if_neg e,if_neg e];exact WW
theorem WX{α:Type}{k y:Int}{x:α}:∀{l:List (Int × α)},vy y (l.map λp=>if p.1=k then(p.1,x) else p)=if y=k then(vy y l).map λ_=>x else vy y l
 |[]=>by simp[vy]
 |p::l=>by
  have ih:=WX (k:=k) (y:=y) (x:=x) (l:=l);rw[zy];unfold vy;rw[ih]
  by_cases e:p.1=k<;>by_cases e2:p.1=y
  ·simp[e,show y=k by lia]
  ·simp[e,show ¬ k=y by lia,show ¬ y=k by lia]
  ·simp[e,e2,show ¬ y=k by lia]
  ·by_cases e3:y=k<;>simp[e,e2,e3,show ¬ p.1=k from e]
def KC{α:Type}{k y:Int}{x:α}{l:List (Int × α)}:vy y (vV k x l)=if y=k then some x else vy y l:=by
 unfold vV
 split
 ·rename_i h;rw[WX]
  by_cases e:y=k
  ·subst e;obtain⟨d,hd⟩:=Option.isSome_iff_exists.mp h;rw[if_pos rfl,if_pos rfl,hd];rfl
  ·rw[if_neg e,if_neg e]
 ·rename_i h;rw[WW]
  by_cases e:y=k
  ·subst e
   have hn:vy y l=none:=by cases q:vy y l with |none=>rfl |some d=>rw[q] at h;exact absurd rfl h
   rw[hn,if_pos rfl]
  ·rw [if_neg e]
   cases vy y l with
   |some d=>rfl
   |none=>exact if_neg λh=>e h.symm
def put_len{α:Type}{k:Int}{x:α}{l:List (Int × α)}:(vV k x l).length<=l.length+1:=by unfold vV;split<;>simp
theorem Yq{α:Type}{k y:Int}:∀{l:List (Int × α)},vy y (ky k l)=if y=k then none else vy y l
 |[]=>by simp[ky,vy]
 | p :: l => by
  have ih:=Yq (k:=k) (y:=y) (l:=l)
  by_cases e:p.1=k
  ·rw [show ky k (p :: l) = ky k l from wH (by simpa using e), ih]
   by_cases e2:y=k
   ·rw[if_pos e2,if_pos e2]
   ·rw[if_neg e2,if_neg e2];exact(if_neg w5).symm
  ·rw [show ky k (p :: l) = p :: ky k l from yk (by simpa using e)]
   show(if p.1=y then some p.2 else vy y (ky k l))=if y=k then none else(if p.1=y then some p.2 else vy y l)
   rw[ih]
   by_cases e2:y=k
   ·rw[if_pos e2,if_pos e2];exact if_neg w5
   ·rw[if_neg e2,if_neg e2]
def zr2{α:Type}{k:Int}{l:List (Int × α)}:(ky k l).length<=l.length:=List.length_filter_le ..
def names(ps:List Pt):List Int:=ps.flatMap λp=>p.left.map (·.1)
def yR(ps:List Pt):Nat:=(ps.map λp=>2^p.r).sum
def wt(R:Nat)(p:Pt):Nat:=p.left.length*(R-p.r)+p.gs.length*(1+R)
def wts(R:Nat)(ps:List Pt):Nat:=(ps.map (wt R)).sum
def brT(ps:List Pt):List (Int × D):=ps.map λp=>((p.r:Int),.rf p.a)
def off(r:Nat)(ps:List Pt):List Pt:=ps.filter λp=>decide (p.r≠r)
theorem va:∀{ps:List Pt}{p:Pt},p∈ps->(ps.map (·.r)).Nodup->ps.Perm (p::off p.r ps)
 | q :: ps, p, h, hn => by
  rw[zy] at hn;have hn':=xn.mp hn
  rcases zh.mp h with rfl |h
  ·have e : off p.r (p :: ps) = off p.r ps := wH (by simp)
   have e2:off p.r ps=ps:=List.filter_eq_self.mpr λq hq=>by
    simp only[wJ];exact λz=>hn'.1 (z ▸ zO hq)
   rw[e,e2]
  ·have ne : q.r ≠ p.r := λz => hn'.1 (z ▸ zO h)
   have e:off p.r (q::ps)=q::off p.r ps:=yk (by simpa using ne)
   rw[e];exact((va h hn'.2).cons q).trans (.swap p q _)
def vF{ps qs:List Pt}(h:ps.Perm qs):yR ps=yR qs:=(h.map _).sum_nat
def jq{R:Nat}{ps qs:List Pt}(h:ps.Perm qs):wts R ps=wts R qs:=(h.map _).sum_nat
def vw{ps qs:List Pt}(h:ps.Perm qs):(names ps).Perm (names qs):=List.Perm.flatMap_right _ h
def ve{p:Pt}{ps:List Pt}:yR (p::ps)=2^p.r+yR ps:=by simp[yR]
def jr{R:Nat}{p:Pt}{ps:List Pt}:wts R (p::ps)=wt R p+wts R ps:=by simp[wts]
def vH{p:Pt}{ps:List Pt}:names (p::ps)=p.left.map (·.1)++names ps:=rfl
theorem kO:∀{ps:List Pt}{p:Pt},p∈ps->2^p.r<=yR ps
 |q::ps,p,h=>by
  rw[ve]
  rcases zh.mp h with rfl |h
  ·exact Nat.le_add_right ..
  ·exact zw (kO h) (Nat.le_add_left ..)
theorem Wj:∀{ps:List Pt},ps.length<=yR ps
 |[]=>by simp
 |p::ps=>by
  have:=Wj (ps:=ps);have:=Nat.one_le_two_pow (n:=p.r);rw[ve,zu];lia
theorem XW:∀{ps:List Pt}{i:Nat},(∃p∈ps,p.r=i/\vy (i:Int) (brT ps)=some (.rf p.a))\/(vy (i:Int) (brT ps)=none/\∀p∈ps,p.r≠i)
 |[],i=>.inr ⟨rfl,by simp⟩
 | q :: ps, i => by
  by_cases e:q.r=i
  ·refine .inl ⟨q, zo, e, ?_⟩
   show(if (q.r:Int)=i then some (D.rf q.a) else _)=_
   rw[if_pos w5]
  ·have e2 : vy (i : Int) (brT (q :: ps)) = vy (i : Int) (brT ps) := by
    show(if (q.r:Int)=i then some (D.rf q.a) else vy (i:Int) (brT ps))=_
    rw[if_neg w5]
   rw[e2]
   rcases XW (ps:=ps) (i:=i) with ⟨p,hp,h1,h2⟩ |⟨h1,h2⟩
   ·exact .inl ⟨p,zk _ hp,h1,h2⟩
   ·refine .inr ⟨h1, λp hp => ?_⟩
    rcases zh.mp hp with rfl |hp
    ·exact e
    ·exact h2 p hp
def KY{ps:List Pt}{p:Pt}(hn:(ps.map (·.r)).Nodup)(h:p∈ps):vy (p.r:Int) (brT ps)=some (.rf p.a):=by
 rcases XW (ps:=ps) (i:=p.r) with ⟨q,hq,h1,h2⟩ |⟨_,h2⟩
 ·have e : q = p := by
   have hp:=(va h hn)
   rcases zh.mp (hp.mem_iff.mp hq) with e |e
   ·exact e
   ·have:=(zL.mp e).2;simp[h1] at this
  rw[h2,e]
 ·exact absurd rfl (h2 p h)
def UE{ps:List Pt}{r:Nat}:ky (r:Int) (brT ps)=brT (off r ps):=by
 unfold ky brT off;rw[List.filter_map]
 congr 1
 refine List.filter_congr λp _=>?_;show decide ((p.r:Int)≠r)=decide (p.r≠r)
 exact decide_eq_decide.mpr ⟨λh z=>h (by rw[z]),λh z=>h w5⟩
def zi2{ps:List Pt}{p:Pt}(h:∀q∈ps,q.r≠p.r):vV (p.r:Int) (.rf p.a) (brT ps)=brT (ps++[p]):=by
 have e:vy (p.r:Int) (brT ps)=none:=by
  rcases XW (ps:=ps) (i:=p.r) with ⟨q,hq,h1,_⟩ |⟨h1,_⟩
  ·exact absurd h1 (h q hq)
  ·exact h1
 unfold vV;rw[e];show brT ps++[_]=_;unfold brT;rw[xS];rfl
structure Tran(d:Nat)(ps:List Pt)(T:List Thing)(rd:List (Int × D)):Prop where
 rn:(ps.map (·.r)).Nodup
 gu:∀p∈ps,GoodU d p.ts/\p.ts.length<=2^p.r
 gl:∀p∈ps,p.gs.length+p.left.length=p.ts.length
 al:(T.map (·.1)++names ps).Nodup
 dT:∀t∈T,t.2.1.length=d
 rk:∀p∈ps,∀t∈p.left,vy t.1 rd=some (.int (p.r:Int))
 kr:∀x,(vy x rd).isSome=true->x∈T.map (·.1)++names ps
def kq{ps:List Pt}{r:Nat}{p:Pt}(h:p∈off r ps):p∈ps/\p.r≠r:=by
 have:=zL.mp h
 exact⟨this.1,by simpa using this.2⟩
def zp2{p:Pt}{t:Thing}(h:t∈p.left):t∈p.ts:=(zL.mp h).1
def jG{ps:List Pt}{p:Pt}(hp:p∈ps)(hn:(ps.map (·.r)).Nodup)(T:List Thing):(T.map (·.1)++names ps).Perm ((p.left++T).map (·.1)++names (off p.r ps)):=by
 rw[xS];refine((vw (va hp hn)).append_left _).trans ?_;rw[vH,<- wj];exact(List.perm_append_comm).append_right _
def Tran.pop{d:Nat}{ps:List Pt}{T:List Thing}{rk:List (Int × D)}(h:Tran d ps T rk){p:Pt}(hp:p∈ps):Tran d (off p.r ps) (p.left++T) rk:=by
 have np:=jG hp h.rn T;refine⟨?_,λq hq=>h.gu q (kq hq).1,λq hq=>h.gl q (kq hq).1,np.nodup_iff.mp h.al,λt ht=>?_,λq hq=>h.rk q (kq hq).1,λx hx=>np.mem_iff.mp (h.kr x hx)⟩
 ·exact((we ..).map _).nodup h.rn
 ·rcases zN.mp ht with ht | ht
  ·exact(h.gu p hp).1.each t (zp2 ht)
  ·exact h.dT t ht
def kF(d:Nat)(br ro:Addr)(m:Nat):List (Str × D):=[("d",.int (d:Int)),("by_rank",.rf br),("rank_of",.rf ro),("so_many_made",.int (m:Int))]
def zj3(k br ro:Addr)(ps:List Pt):List Addr:=k::br::ro::ps.flatMap λp=>[p.a,p.g]
structure KAt(CP CK:Addr)(d n:Nat)(k br ro:Addr)(m:Nat)(ps:List Pt)(rk:List (Int × D)):Prop where
 i:xp n k=some (.ins CK (kF d br ro m))
 b:xp n br=some (.dic (brT ps))
 o:xp n ro=some (.dic rk)
 p:∀q∈ps,PartAt CP n q
 nd:(zj3 k br ro ps).Nodup
def PartAt.only{CP:Addr}{n n':Nat}{l:List Addr}{p:Pt}(h:PartAt CP n p)(o:OnlyC n n' l)(ha:p.a ∉ l)(hg:p.g ∉ l):PartAt CP n' p:=by
 obtain⟨⟨x,y,e⟩,e2⟩:=h;exact⟨⟨x,y,(o.o _ ha).trans e⟩,(o.o _ hg).trans e2⟩
def zi6{k br ro:Addr}{ps:List Pt}{p:Pt}(h:p∈ps):p.a∈ps.flatMap (λp=>[p.a,p.g])/\p.g∈ps.flatMap λp=>[p.a,p.g]:=
 ⟨wT.mpr ⟨p,h,by simp⟩,wT.mpr ⟨p,h,by simp⟩⟩
def zq3{ps qs:List Pt}(h:qs.Sublist ps):(qs.flatMap λp=>[p.a,p.g]).Sublist (ps.flatMap λp=>[p.a,p.g]):=by
 induction h with
 |slnil=>exact List.Sublist.refl _
 |cons p _ ih=>rw[flatMap_cons];exact ih.trans (List.sublist_append_right ..)
 |cons_cons p _ ih=>rw[flatMap_cons,flatMap_cons];exact(List.Sublist.refl _).append ih
section
variable {CP CK:Addr}{d n n':Nat}{k br ro:Addr}{m:Nat}{ps:List Pt}{rk:List (Int × D)}
def KAt.apart(h:KAt CP CK d n k br ro m ps rk):k≠br/\k≠ro/\br≠ro/\∀p∈ps,p.a≠k/\p.a≠br/\p.a≠ro/\p.g≠k/\p.g≠br/\p.g≠ro:=by
 have nd:=h.nd;unfold zj3 at nd;obtain⟨n1,nd⟩:=xn.mp nd;obtain⟨n2,nd⟩:=xn.mp nd;obtain⟨n3,nd⟩:=xn.mp nd;simp only[zh,not_or] at n1 n2;refine⟨n1.1,n1.2.1,n2.1,λp hp=>?_⟩;obtain⟨z1,z2⟩:=zi6 (k:=k) (br:=br) (ro:=ro) hp;exact⟨λe=>n1.2.2 (e ▸ z1),λe=>n2.2 (e ▸ z1),λe=>n3 (e ▸ z1),λe=>n1.2.2 (e ▸ z2),λe=>n2.2 (e ▸ z2),λe=>n3 (e ▸ z2)⟩
def WB:plC (.dic (brT ps))=true:=yT.mpr λx hd=>by
 unfold brT at hd;rw[xh] at hd;obtain⟨p,_,rfl⟩:=zK.mp hd;rfl
def KAt.pop(h:KAt CP CK d n k br ro m ps rk)(r:Nat):KAt CP CK d (vN n br (.dic (ky (r:Int) (brT ps)))) k br ro m (off r ps) rk:=by
 obtain⟨a1,a2,a3,a4⟩:=h.apart;rw[UE];have pl:=WB (ps:=off r ps);have o:=OnlyC.set (n:=n) (a:=br) pl
 refine⟨(o.o _ (by simpa using a1)).trans h.i,yl pl,(o.o _ (by simpa using Ne.symm a3)).trans h.o,λq hq=>?_,?_⟩
 ·obtain ⟨b1, b2, b3, b4, b5, b6⟩ := a4 q (kq hq).1
  exact(h.p q (kq hq).1).only o (by simpa using b2) (by simpa using b5)
 ·refine List.Sublist.nodup ?_ h.nd;exact(((zq3 (we ..)).cons₂ _).cons₂ _).cons₂ _
def KAt.kOfPop(r:Nat):kOf (vN n br (.dic (ky (r:Int) (brT ps))))=kOf n:=by rw[UE];exact ql WB
def KAt.part(h:KAt CP CK d n k br ro m ps rk){p:Pt}{q:Pt}(hq:PartAt CP n q)(r:Nat)(hb:q.a≠br/\q.g≠br):PartAt CP (vN n br (.dic (ky (r:Int) (brT ps)))) q:=by
 rw[UE]
 exact hq.only (OnlyC.set WB) (by simpa using hb.1) (by simpa using hb.2)
def KAt.put(h:KAt CP CK d n k br ro m ps rk){p:Pt}(o:OnlyC n n' [p.a,p.g])(ha:xp n p.a=none)(hg:xp n p.g=none)(hag:p.g≠p.a)(hp:PartAt CP n' p)(hr:∀q∈ps,q.r≠p.r):xp n' br=some (.dic (brT ps))/\KAt CP CK d (vN n' br (.dic (vV (p.r:Int) (.rf p.a) (brT ps)))) k br ro m (ps++[p]) rk:=by
 obtain⟨a1,a2,a3,a4⟩:=h.apart
 have nk:∀x c,xp n x=some c->x ∉ [p.a,p.g]:=by
  intro x c e hx
  rcases zh.mp hx with hx |hx
  ·rw[hx,ha] at e;cases e
  ·rw[zW.mp hx,hg] at e;cases e
 have kk:=nk k _ h.i;have kb:=nk br _ h.b;have ko:=nk ro _ h.o;have hb:xp n' br=some (.dic (brT ps)):=(o.o _ kb).trans h.b;refine⟨hb,?_⟩;rw[zi2 hr];have pl:=WB (ps:=ps++[p]);have o2:=OnlyC.set (n:=n') (a:=br) pl;simp only[zh,wb,or_false,not_or] at kk kb ko
 have np:∀q∈ps,q.a ∉ [p.a,p.g]/\q.g ∉ [p.a,p.g]:=λq hq=>by
  obtain⟨⟨x,y,e⟩,e2⟩:=h.p q hq;exact⟨nk _ _ e,nk _ _ e2⟩
 refine⟨(o2.o _ (by simpa using a1)).trans ((o.o _ (by simpa using kk)).trans h.i),yl pl,(o2.o _ (by simpa using Ne.symm a3)).trans ((o.o _ (by simpa using ko)).trans h.o),λq hq=>?_,?_⟩
 ·rcases zN.mp hq with hq | hq
  ·obtain ⟨b1, b2, b3, b4, b5, b6⟩ := a4 q hq
   exact((h.p q hq).only o (np q hq).1 (np q hq).2).only o2 (by simpa using b2) (by simpa using b5)
  ·rw [zW.mp hq]
   exact hp.only o2 (by simpa using Ne.symm kb.1) (by simpa using Ne.symm kb.2)
 ·have e : zj3 k br ro (ps ++ [p]) = zj3 k br ro ps ++ [p.a, p.g] := by simp [zj3]
  rw[e,xI]
  refine⟨h.nd,by simpa using Ne.symm hag,λx hx y hy z=>?_⟩
  subst z;unfold zj3 at hx
  rcases zh.mp hx with rfl |hx
  ·exact absurd hy (by simpa using kk)
  ·rcases zh.mp hx with rfl | hx
   ·exact absurd hy (by simpa using kb)
   ·rcases zh.mp hx with rfl | hx
    ·exact absurd hy (by simpa using ko)
    ·obtain ⟨q, hq, hx⟩ := wT.mp hx
     rcases zh.mp hx with rfl |hx
     ·exact absurd hy (np q hq).1
     ·rw[zW.mp hx] at hy;exact absurd hy (np q hq).2
def zB2{m:Nat}:plC (.ins CK (kF d br ro m))=true:=WA (by simp[kF,plD])
def KAt.made(h:KAt CP CK d n k br ro m ps rk)(m':Nat):KAt CP CK d (vN n k (.ins CK (kF d br ro m'))) k br ro m' ps rk:=by
 obtain⟨a1,a2,a3,a4⟩:=h.apart;have o:=OnlyC.set (n:=n) (a:=k) (zB2 (CK:=CK) (d:=d) (br:=br) (ro:=ro) (m:=m'))
 refine⟨yl zB2,(o.o _ (by simpa using Ne.symm a1)).trans h.b,(o.o _ (by simpa using Ne.symm a2)).trans h.o,λq hq=>?_,h.nd⟩
 obtain⟨b1,b2,b3,b4,b5,b6⟩:=a4 q hq
 exact(h.p q hq).only o (by simpa using b1) (by simpa using b4)
def KAt.rank(h:KAt CP CK d n k br ro m ps rk){rk':List (Int × D)}(pl:plC (.dic rk')=true):KAt CP CK d (vN n ro (.dic rk')) k br ro m ps rk':=by
 obtain⟨a1,a2,a3,a4⟩:=h.apart;have o:=OnlyC.set (n:=n) (a:=ro) pl
 refine⟨(o.o _ (by simpa using a2)).trans h.i,(o.o _ (by simpa using a3)).trans h.b,yl pl,λq hq=>?_,h.nd⟩
 obtain⟨b1,b2,b3,b4,b5,b6⟩:=a4 q hq
 exact(h.p q hq).only o (by simpa using b3) (by simpa using b6)
def VH(r:Nat)(gs:List (Int × D))(ps:List Pt):List Pt:=ps.map λq=>if q.r=r then { q with gs:=gs } else q
def zy3{r:Nat}{gs:List (Int × D)}:brT (VH r gs ps)=brT ps:=by
 unfold brT VH;rw[xh];refine map_congr_left λp _=>?_
 show(((if p.r=r then { p with gs:=gs } else p).r:Int),D.rf (if p.r=r then { p with gs:=gs } else p).a)=_
 split<;>rfl
def QC{r:Nat}{gs:List (Int × D)}:zj3 k br ro (VH r gs ps)=zj3 k br ro ps:=by
 unfold zj3 VH;rw[List.flatMap_map]
 congr 3
 refine congrArg (λf=>List.flatMap f ps) (funext λp=>?_)
 split<;>rfl
def KAt.gone(h:KAt CP CK d n k br ro m ps rk)(hn:(ps.map (·.r)).Nodup){p:Pt}(hp:p∈ps){gs:List (Int × D)}(pl:plC (.dic gs)=true):KAt CP CK d (vN n p.g (.dic gs)) k br ro m (VH p.r gs ps) rk:=by
 obtain⟨a1,a2,a3,a4⟩:=h.apart;have o:=OnlyC.set (n:=n) (a:=p.g) pl;obtain⟨b1,b2,b3,b4,b5,b6⟩:=a4 p hp
 refine⟨(o.o _ (by simpa using Ne.symm b4)).trans h.i,?_,(o.o _ (by simpa using Ne.symm b6)).trans h.o,λq hq=>?_,by rw[QC];exact h.nd⟩
 ·rw[zy3];exact(o.o _ (by simpa using Ne.symm b5)).trans h.b
 ·obtain ⟨q0, hq0, rfl⟩ := zK.mp hq
  have nd:([p.a,p.g]++(off p.r ps).flatMap λp=>[p.a,p.g]).Nodup:=by
   have:=(List.Perm.flatMap_right (λp:Pt=>[p.a,p.g]) (va hp hn)).nodup_iff.mp (xn.mp (xn.mp (xn.mp h.nd).2).2).2
   rwa [flatMap_cons] at this
  rw[xI] at nd
  split
  ·rename_i e
   have e2:q0=p:=by
    rcases zh.mp ((va hp hn).mem_iff.mp hq0) with e |e2
    ·exact e
    ·exact absurd e (kq e2).2
   subst e2;obtain⟨⟨x,y,e3⟩,_⟩:=h.p q0 hp
   have ne:q0.a≠q0.g:=λz=>(xn.mp nd.1).1 (by simp[z])
   exact⟨⟨x,y,(o.o _ (by simpa using ne)).trans e3⟩,yl pl⟩
  ·rename_i e
   have m:q0∈off p.r ps:=zL.mpr ⟨hq0,by simpa using e⟩
   obtain⟨z1,z2⟩:=zi6 (k:=k) (br:=br) (ro:=ro) m
   exact(h.p q0 hq0).only o (by simpa using λz=>nd.2.2 p.g (by simp) _ z1 z.symm) (by simpa using λz=>nd.2.2 p.g (by simp) _ z2 z.symm)
end
@[simp] theorem nk1:(("d" : Str) = "by_rank")=False:=eq_false x4
@[simp] theorem nk2:(("d" : Str) = "rank_of")=False:=eq_false x4
@[simp] theorem nk3:(("d" : Str) = "so_many_made")=False:=eq_false x4
@[simp] theorem nk4:(("by_rank" : Str) = "rank_of")=False:=eq_false x4
@[simp] theorem nk5:(("by_rank" : Str) = "so_many_made")=False:=eq_false x4
@[simp] theorem nk6:(("rank_of" : Str) = "so_many_made")=False:=eq_false x4
def xv2{d br ro m}:qF "d" (kF d br ro m)=some (.int (d:Int)):=by simp[kF,qF]
def XO{d br ro m}:qF "by_rank" (kF d br ro m)=some (.rf br):=by simp[kF,qF]
def zp5{d br ro m}:qF "rank_of" (kF d br ro m)=some (.rf ro):=by simp[kF,qF]
def xv1{d br ro m}:qF "so_many_made" (kF d br ro m)=some (.int (m:Int)):=by simp[kF,qF]
def zS3{d br ro m m'}:Xy "so_many_made" (.int ((m':Nat):Int)) (kF d br ro m)=kF d br ro m':=by simp[kF,Xy]
def ku{f:Str}(h:f ≠ "d" /\ f ≠ "by_rank" /\ f ≠ "rank_of" /\ f ≠ "so_many_made" := by decide +kernel){d br ro m}:qF f (kF d br ro m)=none:=by
 simp[kF,qF,Ne.symm h.1,Ne.symm h.2.1,Ne.symm h.2.2.1,Ne.symm h.2.2.2]
def jT(f:Nat)(T:List Thing)(rk:List (Int × D)):List (Int × D):=T.foldl (λr t=>vV t.1 (.int (f:Int)) r) rk
theorem ZO{f:Nat}{y:Int}:∀{T:List Thing}{rk:List (Int × D)},vy y (jT f T rk)=if y∈T.map (·.1) then some (.int (f:Int)) else vy y rk
 |[],rk=>by simp[jT]
 | t :: T, rk => by
  show vy y (jT f T (vV t.1 (.int (f:Int)) rk))=_;rw[ZO,KC]
  by_cases h:y∈T.map (·.1)
  ·rw[if_pos h,if_pos (by rw[zy];exact zk _ h)]
  ·rw [if_neg h]
   by_cases e:y=t.1
   ·rw[if_pos e,if_pos (by rw[zy,e];exact zo)]
   ·rw[if_neg e,if_neg (by rw[zy,zh,not_or];exact⟨e,h⟩)]
theorem ZN{f:Nat}:∀{T:List Thing}{rk:List (Int × D)},(jT f T rk).length<=rk.length+T.length
 |[],rk=>by simp[jT]
 |t::T,rk=>by
  have h:=ZN (f:=f) (T:=T) (rk:=vV t.1 (.int (f:Int)) rk);have:=put_len (k:=t.1) (x:=D.int (f:Int)) (l:=rk);show(jT f T (vV t.1 (.int (f:Int)) rk)).length<=_;rw[zu];lia
def Zy{p:Pt}(hg:p.gs=[]):p.left=p.ts:=by
 unfold Pt.left;rw[hg];exact List.filter_eq_self.mpr λt _=>rfl
def names_snoc{ps:List Pt}{p:Pt}:names (ps++[p])=names ps++p.left.map (·.1):=by unfold names;rw[List.flatMap_append];simp
def Tran.put{d:Nat}{ps:List Pt}{T:List Thing}{rk:List (Int × D)}(h:Tran d ps T rk){p:Pt}(hr:∀q∈ps,q.r≠p.r)(ht:p.ts=T)(hg:p.gs=[])(hz:T.length<=2^p.r):Tran d (ps++[p]) [] (jT p.r T rk):=by
 have hl:p.left=T:=(Zy hg).trans ht
 have nm:names (ps++[p])=names ps++T.map (·.1):=by rw[names_snoc,hl]
 have al:=h.al;rw[xI] at al
 refine⟨?_,λq hq=>?_,λq hq=>?_,?_,λt ht=>by simp at ht,λq hq t htq=>?_,λx hx=>?_⟩
 ·rw [xS, xI]
  refine⟨h.rn,by simp,λx hx y hy z=>?_⟩
  obtain⟨q,hq,rfl⟩:=zK.mp hx;simp at hy;exact hr q hq (z.trans hy)
 ·rcases zN.mp hq with hq | hq
  ·exact h.gu q hq
  ·rw[zW.mp hq,ht];exact⟨⟨h.dT,al.1⟩,hz⟩
 ·rcases zN.mp hq with hq | hq
  ·exact h.gl q hq
  ·rw[zW.mp hq,hl,ht,hg];simp
 ·rw[xT,xt,nm,xI];exact⟨al.2.1,al.1,λx hx y hy z=>al.2.2 y hy x hx z.symm⟩
 ·rw [ZO]
  rcases zN.mp hq with hq |hq
  ·rw[if_neg λz=>al.2.2 _ z _ (wT.mpr ⟨q,hq,zO htq⟩) rfl];exact h.rk q hq t htq
  ·rw[zW.mp hq] at htq ⊢;rw[hl] at htq;rw[if_pos (zO htq)]
 ·rw [ZO] at hx;rw[xT,xt,nm]
  by_cases e:x∈T.map (·.1)
  ·exact zr _ e
  ·rw [if_neg e] at hx
   rcases zN.mp (h.kr x hx) with z |z
   ·exact absurd z e
   ·exact xf _ z
def Tran.perm{d:Nat}{ps qs:List Pt}{T:List Thing}{rk:List (Int × D)}(h:Tran d ps T rk)(pm:ps.Perm qs):Tran d qs T rk:=
 ⟨(pm.map _).nodup_iff.mp h.rn,λp hp=>h.gu p (pm.mem_iff.mpr hp),λp hp=>h.gl p (pm.mem_iff.mpr hp),((vw pm).append_left _).nodup_iff.mp h.al,h.dT,λp hp=>h.rk p (pm.mem_iff.mpr hp),λx hx=>((vw pm).append_left _).mem_iff.mp (h.kr x hx)⟩
def jy{ps:List Pt}{p:Pt}{gs:List (Int × D)}(hp:p∈ps)(hn:(ps.map (·.r)).Nodup):(VH p.r gs ps).Perm ({ p with gs:=gs }::off p.r ps):=by
 have h:=(va hp hn).map (λq:Pt=>if q.r=p.r then { q with gs:=gs } else q)
 rw[zy,if_pos rfl] at h
 have e:(off p.r ps).map (λq:Pt=>if q.r=p.r then { q with gs:=gs } else q)=off p.r ps:=by
  refine(map_congr_left λq hq=>if_neg (kq hq).2).trans ?_;exact List.map_id _
 rw[e] at h;exact h
theorem Zz:∀{l:List Thing}{t:Thing},t∈l->(l.map (·.1)).Nodup->(l.filter λu=>decide (u.1≠t.1)).length+1=l.length
 | u :: l, t, h, hn => by
  rw[zy] at hn;have hn':=xn.mp hn
  rcases zh.mp h with rfl |h
  ·rw [wH (by simp), List.filter_eq_self.mpr λv hv => by
    simp only[wJ]
    exact λz=>hn'.1 (z ▸ zO hv)]
   rfl
  ·have ne : u.1 ≠ t.1 := λz => hn'.1 (z ▸ zO h)
   rw[yk (by simpa using ne),zu,Zz h hn'.2,zu]
def zb5{ps:List Pt}{x:Int}(h:x∈names ps):∃p∈ps,∃t∈p.left,t.1=x:=by
 obtain⟨p,hp,h⟩:=wT.mp h;obtain⟨t,ht,e⟩:=zK.mp h;exact⟨p,hp,t,ht,e⟩
def XR{p:Pt}{t:Thing}(ht:t∈p.left):vy t.1 p.gs=none/\vV t.1 (D.bl true) p.gs=p.gs++[(t.1,D.bl true)]/\({ p with gs:=vV t.1 (D.bl true) p.gs }:Pt).left=p.left.filter λu=>decide (u.1≠t.1):=by
 have h:=(zL.mp ht).2;unfold zu2 at h
 have e:vy t.1 p.gs=none:=by cases q:vy t.1 p.gs with |none=>rfl |some d=>rw[q] at h;cases h
 refine⟨e,by unfold vV;rw[e];rfl,?_⟩
 show p.ts.filter (zu2 (vV t.1 (D.bl true) p.gs))=(p.ts.filter (zu2 p.gs)).filter _;rw[List.filter_filter];refine List.filter_congr λu _=>?_;unfold zu2;rw[KC]
 by_cases c:u.1=t.1
 ·rw[if_pos c];simp[c]
 ·rw[if_neg c];simp[c]
def Tran.go{d:Nat}{ps:List Pt}{rk:List (Int × D)}(h:Tran d ps [] rk){p:Pt}{t:Thing}(hp:p∈ps)(ht:t∈p.left) :
  Tran d (VH p.r (vV t.1 (D.bl true) p.gs) ps) [] (ky t.1 rk)/\(∀y,y∈names (VH p.r (vV t.1 (D.bl true) p.gs) ps)↔y∈names ps/\y≠t.1)/\yR (VH p.r (vV t.1 (D.bl true) p.gs) ps)=yR ps /\
  ∀R,wts R (VH p.r (vV t.1 (D.bl true) p.gs) ps)<=wts R ps+(1+R):=by
 have pm:=va hp h.rn;have pr:=jy (gs:=vV t.1 (D.bl true) p.gs) hp h.rn;obtain⟨g1,g2,g3⟩:=XR ht;have al:=h.al;rw[xT,xt] at al;have al2:=(vw pm).nodup_iff.mp al;rw[vH,xI] at al2;have ll:=Zz ht al2.1
 have nm:∀y,y∈names ({ p with gs:=vV t.1 (D.bl true) p.gs }::off p.r ps)↔y∈names ps/\y≠t.1:=λy=>by
  rw[(vw pm).mem_iff,vH,vH,g3,zN,zN]
  constructor
  ·rintro (z | z)
   ·obtain ⟨u, hu, rfl⟩ := zK.mp z;have:=zL.mp hu
    exact⟨.inl (zO this.1),by simpa using this.2⟩
   ·exact⟨.inr z,λe=>al2.2.2 _ (zO ht) _ z e.symm⟩
  ·rintro ⟨z | z, ne⟩
   ·obtain ⟨u, hu, rfl⟩ := zK.mp z
    exact .inl (zO (zL.mpr ⟨hu,by simpa using ne⟩))
   ·exact .inr z
 refine⟨Tran.perm ?_ pr.symm,λy=>(vw pr).mem_iff.trans (nm y),?_,λR=>?_⟩
 ·have h2 := h.perm pm
  refine⟨h2.rn,λq hq=>?_,λq hq=>?_,?_,λt ht=>by simp at ht,λq hq u hu=>?_,λx hx=>?_⟩
  ·rcases zh.mp hq with rfl | hq
   ·exact h.gu p hp
   ·exact h2.gu q (zk _ hq)
  ·rcases zh.mp hq with rfl | hq
   ·have:=h.gl p hp;rw[g3];show(vV t.1 (D.bl true) p.gs).length+_=p.ts.length;rw[g2,zm];simp only[zu,wK];lia
   ·exact h2.gl q (zk _ hq)
  ·rw[xT,xt,vH,g3,xI];exact⟨((we ..).map _).nodup al2.1,al2.2.1,λa ha b hb=>al2.2.2 a (((we ..).map _).mem ha) b hb⟩
  ·have hy : u.1 ∈ names ({ p with gs := vV t.1 (D.bl true) p.gs } :: off p.r ps) := wT.mpr ⟨q, hq, zO hu⟩;rw[Yq,if_neg ((nm _).mp hy).2]
   rcases zh.mp hq with rfl |hq
   ·rw[g3] at hu;exact h.rk p hp u (zL.mp hu).1
   ·exact h.rk q (kq hq).1 u hu
  ·rw [Yq] at hx
   by_cases e:x=t.1
   ·rw[if_pos e] at hx;cases hx
   ·rw[if_neg e] at hx;rw[xT,xt];exact(nm x).mpr ⟨h.kr x hx,e⟩
 ·rw[vF pr,vF pm,ve,ve]
 ·rw [jq pr, jq pm, jr, jr]
  have e:wt R { p with gs:=vV t.1 (D.bl true) p.gs }=(p.left.filter λu=>decide (u.1≠t.1)).length*(R-p.r)+(p.gs.length+1)*(1+R):=by
   unfold wt;rw[g3];show _+(vV t.1 (D.bl true) p.gs).length*(1+R)=_;rw[g2,zm];rfl
  have e2:(p.left.filter λu=>decide (u.1≠t.1)).length*(R-p.r)<=p.left.length*(R-p.r):=Nat.mul_le_mul_right _ w5
  have e3:(p.gs.length+1)*(1+R)=p.gs.length*(1+R)+(1+R):=Nat.succ_mul ..;rw[e,e3];unfold wt;lia
def zz0{a b R:Nat}(h:b+2^a<2^(R+1)):a<=R:=by
 have:2^a<2^(R+1):=w5
 have:=(Nat.pow_lt_pow_iff_right (by decide:1<2)).mp this
 lia
inductive PutM:List Pt->Nat->List Thing->List Pt->List Thing->Prop where
 |stop {ps:List Pt}{s:Nat}{T:List Thing}{a g:Addr}:(∀q∈ps,q.r≠s)->PutM ps s T (ps++[⟨s,a,g,T,[]⟩]) T
 |step {ps:List Pt}{p:Pt}{T:List Thing}{ps':List Pt}{L:List Thing}:p∈ps->PutM (off p.r ps) (p.r+1) (p.left++T) ps' L->PutM ps p.r T ps' L
structure JPut(CP CK:Addr)(d:Nat)(k br ro:Addr)(m n:Nat)(rk:List (Int × D))(ps0:List Pt)(T0:List Thing)(s:Nat)(mm:Nat)(rho:Rho)(n':Nat):Prop where
 hk:kOf n'=kOf n
 he:∃(i:Nat) (T:List Thing) (ps:List Pt),mm=ps.length/\rho=[some (.rf k),some (.int (i:Int)),some (.lst (T.map xj)),none]/\KAt CP CK d n' k br ro m ps rk/\Tran d ps T rk/\1<=T.length/\T.length<=2^i/\yR ps+2^i=yR ps0+2^s /\
  ∀ps' L,PutM ps i T ps' L->PutM ps0 s T0 ps' L
structure JRk(CP CK:Addr)(d:Nat)(k br ro:Addr)(m n f:Nat)(rk:List (Int × D))(ps:List Pt)(T:List Thing)(i:Nat)(rho:Rho)(n':Nat):Prop where
 hk:kOf n'=kOf n
 he:∃z:Option D,rho=[some (.rf k),some (.int (f:Int)),some (.lst (T.map xj)),z]
 ha:KAt CP CK d n' k br ro m ps (jT f (T.take i) rk)
def PutM.size{ps:List Pt}{s:Nat}{T:List Thing}{ps':List Pt}{L:List Thing}(h:PutM ps s T ps' L)(hn:(ps.map (·.r)).Nodup):yR ps'=yR ps+2^s:=by
 induction h with
 |stop _=>unfold yR;simp
 |@step ps p T ps' L hp _ ih=>
  have e:=(vF (va hp hn)).trans ve;rw[ih (((we ..).map _).nodup hn),e,xy];lia
def PutM.names{ps:List Pt}{s:Nat}{T:List Thing}{ps':List Pt}{L:List Thing}(h:PutM ps s T ps' L)(hn:(ps.map (·.r)).Nodup):∀x,x∈names ps'↔x∈T.map (·.1)++names ps:=by
 induction h with
 |stop _=>intro x;rw[names_snoc,Zy rfl];exact List.perm_append_comm.mem_iff
 |@step ps p T ps' L hp _ ih=>intro x;rw[ih (((we ..).map _).nodup hn) x];exact(jG hp hn T).mem_iff.symm
def PutM.cost{ps:List Pt}{s:Nat}{T:List Thing}{ps':List Pt}{L:List Thing}(h:PutM ps s T ps' L)(hn:(ps.map (·.r)).Nodup){R:Nat}(hR:yR ps+2^s<2^(R+1)):L.length+wts R ps'<=wts R ps+T.length*(1+R-s):=by
 induction h with
 | @stop ps s T a g _ =>
  have hs:s<=R:=zz0 hR
  have e2:wts R (ps++[⟨s,a,g,T,[]⟩])=wts R ps+T.length*(R-s):=by unfold wts wt;simp[Zy]
  have e3:T.length*(1+R-s)=T.length+T.length*(R-s):=by
   rw[show 1+R-s=(R-s)+1 by lia,Nat.mul_succ];lia
  lia
 |@step ps p T ps' L hp _ ih=>
  have pm:=va hp hn;have e1:yR ps=2^p.r+yR (off p.r ps):=(vF pm).trans ve
  have h0:=ih (((we ..).map _).nodup hn) (by rw[xy];lia)
  have e3:wts R ps=wt R p+wts R (off p.r ps):=(jq pm).trans jr;unfold wt at e3
  rw[show 1+R-(p.r+1)=R-p.r by lia,zm,Nat.add_mul] at h0
  have e5:T.length*(R-p.r)<=T.length*(1+R-p.r):=Nat.mul_le_mul_left _ w5
  lia
section
variable {P:Program}{w:World}{K:W.Frag}{mg:Str->Option Value}{base:Heap}{CP CK:Addr}
abbrev jd:Stmt:=vS (top 22) 0
abbrev UP:List Str:=["self","d"]
def Ws:FnScope UP ["self","d"] (xo jd):=⟨rfl,rfl,rfl,x4,rfl,x4,x4⟩
def Vz(CK:Addr):TF:=λds n Q=>∃(k:Addr) (d:Nat),ds=[.rf k,.int (d:Int)]/\xp n k=some (.ins CK [])/\∀n' br ro,(∀CP,KAt CP CK d n' k br ro 0 [] [])->kOf n'=kOf n->Q .non n'
def zo5(CL_Kept:Cls K CK)(NA_d:NoAttr K CK "d")(NA_by_rank:NoAttr K CK "by_rank")(NA_rank_of:NoAttr K CK "rank_of")(NA_so_many_made:NoAttr K CK "so_many_made")(F:Fun K "__init__" "Kept.__init__" jd f fd):FnOk P w K mg base CX0 1 f fd ["self","d"] (spD K 2 (Vz CK)):=by
 refine Fun.okD F Ws (λcdv A0 outer s H E G Z _ hr=>(zV (kG CL_Kept NA_d (zq 0) (zq 1))
  (zV (kG CL_Kept NA_by_rank (zq 0) VS)
  (zV (kG CL_Kept NA_rank_of (zq 0) VS)
  (xk (kG CL_Kept NA_so_many_made (zq 0) zZ)))))) ?_
 rintro ds n Q hl ⟨k,d,rfl,hc,q⟩;simp[ya]
 refine xx hc ⟨rfl,by simp,?_⟩
 simp[Xy];have p1:plC (.ins CK [("d",.int (d:Int))])=true:=rfl;have o1:=OnlyC.set (n:=n) (a:=k) p1;have c1:=yl (n:=n) (a:=k) p1;have k1:=o1.k;generalize vN n k _=n1 at o1 c1 k1 ⊢;intro br hbn
 have bk:br≠k:=λe=>by rw[e,c1] at hbn;cases hbn
 have p2:plC (.dic [])=true:=rfl;have k2:=(OnlyC.set (n:=n1) (a:=br) p2).k.trans k1;have c2:=(kA (n:=n1) (a:=br) (b:=k) p2 (Ne.symm bk)).trans c1;have b2:=yl (n:=n1) (a:=br) p2;generalize vN n1 br _=n2 at k2 c2 b2 ⊢
 refine xx c2 ⟨rfl,by simp,?_⟩
 simp[Xy];have p3:plC (.ins CK [("d",.int (d:Int)),("by_rank",.rf br)])=true:=rfl;have k3:=(OnlyC.set (n:=n2) (a:=k) p3).k.trans k2;have c3:=yl (n:=n2) (a:=k) p3;have b3:=(kA (n:=n2) (a:=k) (b:=br) p3 bk).trans b2;generalize vN n2 k _=n3 at k3 c3 b3 ⊢;intro ro hrn
 have rk:ro≠k:=λe=>by rw[e,c3] at hrn;cases hrn
 have rb:ro≠br:=λe=>by rw[e,b3] at hrn;cases hrn
 have k4:=(OnlyC.set (n:=n3) (a:=ro) p2).k.trans k3;have c4:=(kA (n:=n3) (a:=ro) (b:=k) p2 (Ne.symm rk)).trans c3;have b4:=(kA (n:=n3) (a:=ro) (b:=br) p2 (Ne.symm rb)).trans b3;have r4:=yl (n:=n3) (a:=ro) p2;generalize vN n3 ro _=n4 at k4 c4 b4 r4 ⊢
 refine xx c4 ⟨rfl,by simp,?_⟩
 simp[Xy];have p5:plC (.ins CK [("d",.int (d:Int)),("by_rank",.rf br),("rank_of",.rf ro)])=true:=rfl;have k5:=(OnlyC.set (n:=n4) (a:=k) p5).k.trans k4;have c5:=yl (n:=n4) (a:=k) p5;have b5:=(kA (n:=n4) (a:=k) (b:=br) p5 bk).trans b4;have r5:=(kA (n:=n4) (a:=k) (b:=ro) p5 rk).trans r4;generalize vN n4 k _=n5 at k5 c5 b5 r5 ⊢
 refine xx c5 ⟨rfl,by simp,?_⟩
 simp[Xy];have p6:plC (.ins CK (kF d br ro 0))=true:=rfl
 refine q _ br ro (λCP=>⟨yl p6,(kA p6 bk).trans b5,(kA p6 rk).trans r5,λq hq=>by simp at hq,?_⟩) ((OnlyC.set (n:=n5) (a:=k) p6).k.trans k5)
 simpa [zj3] using ⟨⟨Ne.symm bk,Ne.symm rk⟩,Ne.symm rb⟩
abbrev qd:Stmt:=vS (top 22) 1
abbrev XY:List Str:=["self","rank","things","thing"]
def vK:FnScope XY q8 (xo qd):=⟨rfl,rfl,rfl,x4,rfl,x4,x4⟩
def Xl(CP CK:Addr):TF:=λds n Q=>∃(d:Nat) (k br ro:Addr) (m:Nat) (ps:List Pt) (rk:List (Int × D)) (s:Nat) (T:List Thing),ds=[.rf k,.int (s:Int),.lst (T.map xj)]/\1<=d/\d<=4/\KAt CP CK d n k br ro m ps rk/\Tran d ps T rk/\1<=T.length/\T.length<=2^s/\yR ps+2^s<500/\rk.length<=m/\m<=100000 /\
 ∀n' ps' rk' L,KAt CP CK d n' k br ro (m+L.length) ps' rk'->kOf n'=kOf n->Tran d ps' [] rk'->rk'.length<=m+L.length->PutM ps s T ps' L->Q .non n'
def zo1(T:Blt mg)(CL_Kept:Cls K CK)(NA_d:NoAttr K CK "d")(NA_by_rank:NoAttr K CK "by_rank")(NA_rank_of:NoAttr K CK "rank_of")(NA_so_many_made:NoAttr K CK "so_many_made")(F:Fun K "put_in" "Kept.put_in" qd f fd)(M_left:MthC P w K mg base CP "left" 1 0 (ZE CP))(MK_Part:MkeC P w K mg base CP "Part" 14 2 (Vy CP)):FnOk P w K mg base CX0 16 f fd q8 (spD K 3 (Xl CP CK)):=by
 refine Fun.okD F vK (λcdv A0 outer s H E G Z _ hr=>(zV (ZR PassesOwn.never (QM (Zc hr) (zq 1) (yF CL_Kept NA_by_rank (zq 0)) (by with_unfolding_all rfl))
  (zV (yJ (i:=2) vK.nd rfl (lo rfl) (ZV zP7 zL7 (vA M_left (hr.mono w6) rfl (VR (yF CL_Kept NA_by_rank (zq 0)) (zq 1) ⟨rfl,rfl,rfl,rfl⟩)) (zq 2)))
  (xk (zm2 zS8 (i:=1) vK.nd rfl (lo rfl) zZ))))
  (zV (Xz (Zc hr) (yF CL_Kept NA_by_rank (zq 0)) (zq 1) (Ks MK_Part (hr.mono w6) rfl (zc (yF CL_Kept NA_d (zq 0)) (zc (zq 2) zE))))
  (zV (VN CL_Kept NA_so_many_made (zq 0) (wP wV kY T.len qa (zc (zq 2) zE)))
  (xk (XA (m:=4) PassesOwn.never rfl (vg rfl (zq 2)) (wy (i:=3) vK.nd rfl (lo rfl) w6)
  (xk (Xz (Zc hr) (yF CL_Kept NA_rank_of (zq 0)) (jX kX jU (zq 3) zZ (λ_ _=>rfl)) (zq 1))))))))) ?_
 rintro ds n Q hl ⟨d,k,br,ro,m,ps0,rk,s,T0,rfl,hd1,hd4,hk,ht,h1,hs,hz,hrk,hm,q⟩;simp[ya];refine⟨JPut CP CK d k br ro m n rk ps0 T0 s,⟨_,rfl,s,T0,ps0,rfl,rfl,hk,ht,h1,hs,rfl,λ_ _ h=>h⟩,?_⟩;rintro mm rho n1 ⟨hkn,i,T,ps,rfl,rfl,hk,ht,h1,hi,hsz,hP⟩;simp;refine xx hk.i ?_;rw[XO];simp;refine yw hk.b ?_;obtain⟨a1,a2,a3,a4⟩:=hk.apart
 rcases XW (ps:=ps) (i:=i) with ⟨p,hp,rfl,hg⟩ |⟨hg,hno⟩
 ·rw [hg];simp;refine xx hk.i ?_;rw[XO];simp;refine yw hk.b (yw hk.b ?_);rw[hg];simp;obtain⟨b1,b2,b3,b4,b5,b6⟩:=a4 p hp;have kp:=hk.pop p.r;have pa:=hk.part (p:=p) (hk.p p hp) p.r ⟨b2,b5⟩;have k2:=(KAt.kOfPop (n:=n1) (br:=br) (ps:=ps) p.r).trans hkn;generalize vN n1 br _=n2 at kp pa k2 ⊢;obtain⟨⟨h,tr,ei⟩,eg⟩:=pa;have l1:=(ht.gu p hp).2;have l2:p.left.length<=p.ts.length:=List.length_filter_le ..;have l3:=kO hp
  refine xx ei ⟨VU,p,rfl,⟨⟨h,tr,ei⟩,eg⟩,w5,?_⟩
  simp;have pm:=va hp ht.rn;have e1:yR ps=2^p.r+yR (off p.r ps):=(vF pm).trans ve
  have e2:2^(p.r+1)=2*2^p.r:=by rw[xy];lia
  refine⟨yN w5,(off p.r ps).length,by rw[pm.length_eq];simp,k2,p.r+1,p.left++T,off p.r ps,rfl,by simp,kp,ht.pop hp,by rw[zm];lia,by rw[zm];lia,w5,λps' L h=>hP ps' L (.step hp h)⟩
 ·rw [hg];simp
  have lT:2^i<500:=w5
  refine xx hk.i ?_;rw[xv2];simp;intro a han
  have gT:GoodU d T:=⟨ht.dT,by have:=ht.al;rw[xI] at this;exact this.1⟩
  have pl0:plC (.ins CP [])=true:=rfl
  refine⟨a,d,T,rfl,yl pl0,hd1,hd4,gT,h1,w5,λg h tr n2 hga hgn o hca hcg=>⟨rfl,?_⟩⟩
  have hgn1:xp n1 g=none:=by rw[<- hgn];exact(kA pl0 hga).symm
  have o1:OnlyC n1 n2 [a,g]:=((OnlyC.set (n:=n1) (a:=a) pl0).trans o).mono λb hb=>by
   rcases zN.mp hb with hb |hb
   ·rw[zW.mp hb];exact zo
   ·exact hb
  obtain⟨hb2,kp⟩:=hk.put (p:=⟨i,a,g,T,[]⟩) o1 han hgn1 hga ⟨⟨h,tr,hca⟩,hcg⟩ hno
  have ki:=(o1.o k (by
   intro z
   rcases zh.mp z with z |z
   ·rw[<- z,hk.i] at han;cases han
   ·rw[<- zW.mp z,hk.i] at hgn1;cases hgn1)).trans hk.i
  have k2:kOf n2=kOf n:=o1.k.trans hkn;refine xx ki ?_;rw[XO];simp
  have lb:(brT ps).length<=yR ps:=by unfold brT;rw[zn];exact Wj
  refine yw hb2 ⟨rfl,lt_size w5,?_⟩
  have k3:kOf (vN n2 br (.dic (vV (i:Int) (.rf a) (brT ps))))=kOf n:=by
   rw[zi2 (p:=⟨i,a,g,T,[]⟩) hno];exact(ql WB).trans k2
  generalize vN n2 br _=n3 at kp k3 ⊢;refine xx kp.i ?_;rw[xv1];simp
  refine xx kp.i ⟨by simp[kF],?_⟩
  rw[show(m:Int)+(T.length:Int)=((m+T.length:Nat):Int) by simp,zS3]
  have km:=kp.made (m+T.length);have k4:=(ql (n:=n3) (a:=k) (zB2 (CK:=CK) (d:=d) (br:=br) (ro:=ro) (m:=m+T.length))).trans k3;generalize vN n3 k _=n4 at km k4 ⊢;refine⟨JRk CP CK d k br ro (m+T.length) n i rk (ps++[⟨i,a,g,T,[]⟩]) T,⟨k4,⟨_,rfl⟩,km⟩,?_,?_⟩
  ·rintro j d rho n5 ej ⟨k5, ⟨z, rfl⟩, ka⟩
   have hj:j<T.length:=by have:=(zP.mp ej).1;rwa [zn] at this
   rw[zB] at ej;obtain⟨t,et,rfl⟩:=wv.mp ej;simp[xj];refine xx ka.i ?_;rw[zp5];simp;have lk:=ZN (f:=i) (T:=T.take j) (rk:=rk);rw[xm] at lk
   have pl:plC (.dic (jT i (T.take (j+1)) rk))=true:=by
    rw[xq,et];unfold jT;rw[List.foldl_append];exact VP (vC ka.o) rfl
   have kr:=ka.rank pl;have k6:=(ql (n:=n5) (a:=ro) pl).trans k5
   have e:jT i (T.take (j+1)) rk=vV t.1 (.int (i:Int)) (jT i (T.take j) rk):=by
    rw[xq,et];unfold jT;rw[List.foldl_append];rfl
   refine yw ka.o ⟨rfl,by rw[sizeLine_eq];lia,?_⟩
   rw[<- e];exact⟨k6,⟨_,rfl⟩,kr⟩
  ·rintro rho n5 ⟨k5, ⟨z, rfl⟩, ka⟩;rw[zn,wD] at ka;have lk:=ZN (f:=i) (T:=T) (rk:=rk)
   exact q n5 _ _ T ka k5 (ht.put (p:=⟨i,a,g,T,[]⟩) hno rfl rfl hi) w5 (hP _ _ (.stop hno))
end
def KZ(c:Nat):Builtin.Int.intBits (c:Int)=if c=0 then 0 else Nat.log2 c+1:=by
 unfold Builtin.Int.intBits
 by_cases h:c=0
 ·subst h;rfl
 ·rw[if_neg (by simp only[beq_iff_eq];lia),if_neg h];rfl
def Ww(c:Nat):Nat:=if c-1=0 then 0 else Nat.log2 (c-1)+1
def zl7{c:Nat}(h:1<=c):c<=2^Ww c:=by
 unfold Ww
 split
 ·simp;lia
 ·have:=Nat.lt_log2_self (n:=c-1);lia
def Kd{c:Nat}(h:1<=c):2^Ww c<2*c:=by
 unfold Ww
 split
 ·simp;lia
 ·rename_i h0;have:=Nat.log2_self_le h0;rw[xy];lia
def lg(c:Nat):Nat:=if c=0 then 0 else Nat.log2 c
def zF3{c:Nat}:c<2^(lg c+1):=by
 unfold lg
 split
 ·rename_i h;subst h;decide
 ·exact Nat.lt_log2_self
def XG(c g:Nat):Nat:=(c+g)*(1+lg c)
def AnewM(ps:List Pt)(p:Pt)(ps':List Pt)(L:List Thing):Prop:=(p.left=[]/\ps'=off p.r ps/\L=[])\/(p.left≠[]/\PutM (off p.r ps) (Ww p.left.length) p.left ps' L)
def AnewM.all{d:Nat}{ps:List Pt}{p:Pt}{ps':List Pt}{L:List Thing}{rk:List (Int × D)}(h:AnewM ps p ps' L)(ht:Tran d ps [] rk)(hp:p∈ps)(h2:2*p.left.length<p.ts.length) :
  yR ps'<=yR ps/\(∀x,x∈names ps'↔x∈names ps)/\∀R,yR ps<2^(R+1)->L.length+wts R ps'<=wts R ps:=by
 have pm:=va hp ht.rn;have e1:yR ps=2^p.r+yR (off p.r ps):=(vF pm).trans ve;have nm:=jG hp ht.rn [];rw[xX,xT,xt] at nm;have gl:=ht.gl p hp;have l1:=(ht.gu p hp).2;have ww:∀R,wts R ps=wt R p+wts R (off p.r ps):=λR=>(jq pm).trans jr;have ho:((off p.r ps).map (·.r)).Nodup:=((we ..).map _).nodup ht.rn
 rcases h with ⟨e0,rfl,rfl⟩ |⟨e0,h⟩
 ·rw [e0] at nm
  exact⟨w5,λx=>nm.mem_iff.symm,λR _=>by have:=ww R;simp;lia⟩
 ·have hl : 1 <= p.left.length := by
   cases q:p.left with
   |nil=>exact absurd q e0
   |cons a b=>simp
  have r2:=Kd hl
  refine⟨by rw[h.size ho];lia,λx=>(h.names ho x).trans nm.mem_iff.symm,λR hR=>?_⟩
  have c:=h.cost ho (R:=R) w5
  have g9:=ww R;unfold wt at g9
  have g10:p.left.length*(1+R-Ww p.left.length)<=p.gs.length*(1+R):=Nat.mul_le_mul w5 w5
  lia
def GoM(ps:List Pt)(x:Int)(ps':List Pt)(L:List Thing):Prop:=∃p t,p∈ps/\t∈p.left/\t.1=x /\
 ((2*(p.gs.length+1)<=p.ts.length/\ps'=VH p.r (vV x (D.bl true) p.gs) ps/\L=[])\/(p.ts.length<2*(p.gs.length+1)/\AnewM (VH p.r (vV x (D.bl true) p.gs) ps) { p with gs:=vV x (D.bl true) p.gs } ps' L))
def ze7{d:Nat}{ps:List Pt}{p:Pt}{t:Thing}{rk:List (Int × D)}(ht:Tran d ps [] rk)(hp:p∈ps)(htp:t∈p.left)(h0:p.ts.length<2*(p.gs.length+1)) :
  ({ p with gs:=vV t.1 (D.bl true) p.gs }:Pt)∈VH p.r (vV t.1 (D.bl true) p.gs) ps/\2*({ p with gs:=vV t.1 (D.bl true) p.gs }:Pt).left.length<p.ts.length:=by
 have pr:=jy (gs:=vV t.1 (D.bl true) p.gs) hp ht.rn;obtain⟨g1,g2,g3⟩:=XR htp;have gl:=ht.gl p hp;have al:=ht.al;rw[xT,xt] at al;have al2:=(vw (va hp ht.rn)).nodup_iff.mp al;rw[vH,xI] at al2;have ll:=Zz htp al2.1
 exact⟨pr.mem_iff.mpr zo,by rw[g3];lia⟩
def GoM.all{d:Nat}{ps:List Pt}{x:Int}{ps':List Pt}{L:List Thing}{rk:List (Int × D)}(h:GoM ps x ps' L)(ht:Tran d ps [] rk) :
  yR ps'<=yR ps/\(∀y,y∈names ps'↔y∈names ps/\y≠x)/\∀R,yR ps<2^(R+1)->L.length+wts R ps'<=wts R ps+(1+R):=by
 obtain⟨p,t,hp,htp,rfl,h⟩:=h;obtain⟨tg1,tg2,tg3,tg4⟩:=ht.go hp htp
 rcases h with ⟨_,rfl,rfl⟩ |⟨h0,h⟩
 ·exact⟨yr tg3,tg2,λR _=>by have:=tg4 R;simp;lia⟩
 ·obtain ⟨hp1, h2⟩ := ze7 ht hp htp h0;obtain⟨a1,a2,a3⟩:=h.all tg1 hp1 h2
  exact⟨w5,λy=>(a2 y).trans (tg2 y),λR hR=>by have:=a3 R w5;have:=tg4 R;lia⟩
section
variable {P:Program}{w:World}{K:W.Frag}{mg:Str->Option Value}{base:Heap}{CP CK:Addr}
abbrev jQ:Stmt:=top 19
abbrev JS:List Str:=["many"]
def VB:FnScope JS ["many"] (xo jQ):=⟨rfl,rfl,rfl,x4,rfl,x4,x4⟩
def ZD:TF:=λds n Q=>∃c:Nat,ds=[.int (c:Int)]/\1<=c/\Q (.int (Ww c:Int)) n
def Jt(F:Fun K "rank_for" "rank_for" jQ f fd):FnOk P w K mg base CX0 1 f fd ["many"] (spD K 1 ZD):=by
 refine Fun.okD F VB (λcdv A0 outer s H E G Z _ hr=>(xk (wG (za4 (YY (zq 0) zZ))))) ?_;rintro ds n Q hl ⟨c,rfl,hc,q⟩;simp[ya]
 rw[show(c:Int)-1=((c-1:Nat):Int) by lia,KZ]
 exact q
abbrev qT:Stmt:=top 20
abbrev UJ:List Str:=["comings","goings","greatest"]
def Zj:FnScope UJ ["comings","goings"] (xo qT):=⟨rfl,rfl,rfl,x4,rfl,x4,x4⟩
def UU:TF:=λds n Q=>∃c g:Nat,ds=[.int (c:Int),.int (g:Int)]/\c<1000/\g<1000/\Q (.int (XG c g:Int)) n
def zD5(F:Fun K "most_made" "most_made" qT f fd):FnOk P w K mg base CX0 1 f fd ["comings","goings"] (spD K 2 UU):=by
 refine Fun.okD F Zj (λcdv A0 outer s H E G Z _ hr=>(zV (yJ (i:=2) Zj.nd rfl (lo rfl) (xl8 (yQ VW VJ (zq 0) zZ (vb _)) zZ (YY (za4 (zq 0)) zZ)))
  (xk (wG (qv (kj (zq 0) (zq 1)) (kj zZ (zq 2))))))) ?_
 rintro ds n Q hl ⟨c,g,rfl,hc,hg,q⟩;have cm:∀{i j:Int},(-(2^64)<i/\i<2^64)->CMul i j:=λh=>.inl h;simp[ya,KZ]
 split
 ·rename_i h
  refine⟨cm ⟨w5,w5⟩,?_⟩
  rw[show((c:Int)+(g:Int))=((XG c g:Nat):Int) by unfold XG lg;rw[if_pos h];simp]
  exact q
 ·rename_i h
  refine⟨cm ⟨w5,w5⟩,?_⟩
  rw[show((c:Int)+(g:Int))*(1+(((Nat.log2 c+1:Nat):Int)-1))=((XG c g:Nat):Int) by
   unfold XG lg
   rw[if_neg h,show 1+(((Nat.log2 c+1:Nat):Int)-1)=((1+Nat.log2 c:Nat):Int) by lia]
   simp]
  exact q
abbrev vR:Stmt:=vS (top 22) 4
abbrev Zt:List Str:=["self","rank","things"]
def kP:FnScope Zt q3 (xo vR):=⟨rfl,rfl,rfl,x4,rfl,x4,x4⟩
def Ql(CP CK:Addr):TF:=λds n Q=>∃(d:Nat) (k br ro:Addr) (m:Nat) (ps:List Pt) (rk:List (Int × D)) (p:Pt),ds=[.rf k,.int (p.r:Int)]/\1<=d/\d<=4/\KAt CP CK d n k br ro m ps rk/\Tran d ps [] rk/\p∈ps/\2*p.left.length<p.ts.length/\yR ps<500/\rk.length<=m/\m<=100000 /\
 ∀n' ps' rk' L,KAt CP CK d n' k br ro (m+L.length) ps' rk'->kOf n'=kOf n->Tran d ps' [] rk'->rk'.length<=m+L.length->AnewM ps p ps' L->Q .non n'
def zD9(T:Blt mg)(CL_Kept:Cls K CK)(NA_by_rank:NoAttr K CK "by_rank")(F:Fun K "make_anew" "Kept.make_anew" vR f fd)(M_left:MthC P w K mg base CP "left" 1 0 (ZE CP))(M_put_in:MthC P w K mg base CK "put_in" 16 2 (Xl CP CK))(F_rank_for:Fn P w K mg base "rank_for" 1 1 ZD):FnOk P w K mg base CX0 17 f fd q3 (spD K 2 (Ql CP CK)):=by
 refine Fun.okD F kP (λcdv A0 outer s H E G Z _ hr=>(zV (yJ (i:=2) kP.nd rfl (lo rfl) (vA M_left (hr.mono w6) rfl (VR (yF CL_Kept NA_by_rank (zq 0)) (zq 1) ⟨rfl,rfl,rfl,rfl⟩)))
  (xk (kf (yQ VV VI (wP wV kY T.len qa (zc (zq 2) zE)) zZ (vb _)) (xk (jz (qN M_put_in (hr.mono w6) rfl (zq 0) (zc (vp F_rank_for (hr.mono w6) rfl (zc (wP wV kY T.len qa (zc (zq 2) zE)) zE)) (zc (zq 2) zE))))) yS)))) ?_
 rintro ds n Q hl ⟨d,k,br,ro,m,ps,rk,p,rfl,hd1,hd4,hk,ht,hp,h2,hz,hrk,hm,q⟩;simp[ya];obtain⟨a1,a2,a3,a4⟩:=hk.apart;obtain⟨b1,b2,b3,b4,b5,b6⟩:=a4 p hp;refine xx hk.i ?_;rw[XO];simp;refine yw hk.b (yw hk.b ?_);rw[KY ht.rn hp];simp;have kp:=hk.pop p.r;have pa:=hk.part (p:=p) (hk.p p hp) p.r ⟨b2,b5⟩;have k2:=KAt.kOfPop (n:=n) (br:=br) (ps:=ps) p.r;generalize vN n br _=n2 at kp pa k2 ⊢;obtain⟨⟨h,tr,ei⟩,eg⟩:=pa;have l1:=(ht.gu p hp).2;have l3:=kO hp;have pm:=va hp ht.rn;have e1:yR ps=2^p.r+yR (off p.r ps):=(vF pm).trans ve;have tp:=ht.pop hp;rw[xX] at tp;have nm:=jG hp ht.rn [];rw[xX,xT,xt] at nm;have gl:=ht.gl p hp;have ww:∀R,wts R ps=wt R p+wts R (off p.r ps):=λR=>(jq pm).trans jr
 refine xx ei ⟨VU,p,rfl,⟨⟨h,tr,ei⟩,eg⟩,w5,?_⟩
 simp
 split
 ·rename_i h0
  have r1:=zl7 (c:=p.left.length) w5
  have r2:=Kd (c:=p.left.length) w5
  exact xx kp.i ⟨ku,_,rfl,w5,d,k,br,ro,m,off p.r ps,rk,Ww p.left.length,p.left,rfl,hd1,hd4,kp,tp,w5,r1,w5,hrk,hm,λn' ps' rk' L g1 g2 g3 g4 g5=>q n' ps' rk' L g1 (g2.trans k2) g3 g4 (.inr ⟨λe=>by rw[e] at h0;simp at h0,g5⟩)⟩
 ·rename_i h0
  have e0:p.left=[]:=wB w5
  rw[e0] at tp;exact q n2 (off p.r ps) rk [] kp k2 tp hrk (.inl ⟨e0,rfl,rfl⟩)
abbrev je:Stmt:=vS (top 22) 2
abbrev UQ:List Str:=["self","thing"]
def Wt:FnScope UQ ["self","thing"] (xo je):=⟨rfl,rfl,rfl,x4,rfl,x4,x4⟩
def Qk(CP CK:Addr):TF:=λds n Q=>∃(d:Nat) (k br ro:Addr) (m:Nat) (ps:List Pt) (rk:List (Int × D)) (t:Thing),ds=[.rf k,xj t]/\1<=d/\d<=4/\KAt CP CK d n k br ro m ps rk/\Tran d ps [] rk/\t.1 ∉ names ps/\t.2.1.length=d/\yR ps+1<500/\rk.length<=m/\m<=100000 /\
 ∀n' ps' rk' L,KAt CP CK d n' k br ro (m+L.length) ps' rk'->kOf n'=kOf n->Tran d ps' [] rk'->rk'.length<=m+L.length->PutM ps 0 [t] ps' L->Q .non n'
def zD8(CL_Kept:Cls K CK)(NA_rank_of:NoAttr K CK "rank_of")(F:Fun K "come" "Kept.come" je f fd)(M_put_in:MthC P w K mg base CK "put_in" 16 2 (Xl CP CK)):FnOk P w K mg base CX0 17 f fd ["self","thing"] (spD K 2 (Qk CP CK)):=by
 refine Fun.okD F Wt (λcdv A0 outer s H E G Z _ hr=>(zV (kf (QM (Zc hr) (jX kX jU (zq 1) zZ (λ_ _=>rfl)) (yF CL_Kept NA_rank_of (zq 0)) (by with_unfolding_all rfl)) (xk Wy) yS)
  (xk (jz (qN M_put_in (hr.mono w6) rfl (zq 0) (zc zZ (zc (Zo (zc (zq 1) zE)) zE))))))) ?_
 rintro ds n Q hl ⟨d,k,br,ro,m,ps,rk,t,rfl,hd1,hd4,hk,ht,hn,hd,hz,hrk,hm,q⟩
 have e:vy t.1 rk=none:=by
  cases z:vy t.1 rk with
  |none=>rfl
  |some d=>exact absurd (ht.kr t.1 (by rw[z];rfl)) (by rw[xT,xt];exact hn)
 simp[ya,xj];refine xx hk.i ?_;rw[zp5];simp;refine yw hk.o ?_;rw[e];simp
 refine xx hk.i ⟨ku,d,k,br,ro,m,ps,rk,0,[t],rfl,hd1,hd4,hk,?_,by simp,by simp,by simpa using hz,hrk,hm,q⟩
 exact⟨ht.rn,ht.gu,ht.gl,xn.mpr ⟨hn,ht.al⟩,λu hu=>by rw[zW.mp hu];exact hd,ht.rk,λx hx=>zk _ (ht.kr x hx)⟩
abbrev ZM:Stmt:=vS (top 22) 3
abbrev zj0:List Str:=["self","name","rank","part"]
def jP:FnScope zj0 ["self","name"] (xo ZM):=⟨rfl,rfl,rfl,x4,rfl,x4,x4⟩
def zV6(CP CK:Addr):TF:=λds n Q=>∃(d:Nat) (k br ro:Addr) (m:Nat) (ps:List Pt) (rk:List (Int × D)) (x:Int),ds=[.rf k,.int x]/\1<=d/\d<=4/\KAt CP CK d n k br ro m ps rk/\Tran d ps [] rk/\x∈names ps/\yR ps<500/\rk.length<=m/\m<=100000 /\
 ∀n' ps' rk' L,KAt CP CK d n' k br ro (m+L.length) ps' rk'->kOf n'=kOf n->Tran d ps' [] rk'->rk'.length<=m+L.length->GoM ps x ps' L->Q .non n'
def xm4(T:Blt mg)(CL_Kept:Cls K CK)(CL_Part:Cls K CP)(NA_things:NoAttr K CP "things")(NA_gone:NoAttr K CP "gone")(NA_by_rank:NoAttr K CK "by_rank")(NA_rank_of:NoAttr K CK "rank_of")(F:Fun K "go" "Kept.go" ZM f fd)(M_make_anew:MthC P w K mg base CK "make_anew" 17 1 (Ql CP CK)):FnOk P w K mg base CX0 18 f fd ["self","name"] (spD K 2 (zV6 CP CK)):=by
 refine Fun.okD F jP (λcdv A0 outer s H E G Z _ hr=>(zV (kf (YX (Zc hr) (zq 1) (yF CL_Kept NA_rank_of (zq 0)) (by with_unfolding_all rfl)) (xk Wy) yS)
  (zV (yJ (i:=2) jP.nd rfl (lo rfl) (VR (yF CL_Kept NA_rank_of (zq 0)) (zq 1) ⟨rfl,rfl,rfl,rfl⟩))
  (zV (yJ (i:=3) jP.nd rfl (lo rfl) (VT (Zc hr) (yF CL_Kept NA_by_rank (zq 0)) (zq 2) (λ_ _=>rfl)))
  (zV (Xz (Zc hr) (yF CL_Part NA_gone (zq 3)) (zq 1) Jq)
  (xk (kf (yQ VV VI (qv zZ (zC4 T.len (zc (yF CL_Part NA_gone (zq 3)) zE))) (wP wV kY T.len qa (zc (yF CL_Part NA_things (zq 3)) zE)) (vb _)) (xk (jz (qN M_make_anew (hr.mono w6) rfl (zq 0) (zc (zq 2) zE)))) yS))))))) ?_
 rintro ds n Q hl ⟨d,k,br,ro,m,ps,rk,x,rfl,hd1,hd4,hk,ht,hx,hz,hrk,hm,q⟩;obtain⟨p,hp,t,htp,rfl⟩:=zb5 hx;have e:=ht.rk p hp t htp;simp[ya];refine xx hk.i ?_;rw[zp5];simp;refine yw hk.o ?_;rw[e];simp;refine xx hk.i ?_;rw[zp5];simp;refine yw hk.o (yw hk.o ?_);rw[e];simp;have pl:=Kl (k:=t.1) (vC hk.o);have kr:=hk.rank pl;have k1:=ql (n:=n) (a:=ro) pl;generalize vN n ro _=n1 at kr k1 ⊢;refine xx kr.i ?_;rw[XO];simp;refine yw kr.b ?_;rw[KY ht.rn hp];simp;obtain⟨⟨h,tr,ei⟩,eg⟩:=kr.p p hp;obtain⟨tg1,tg2,tg3,tg4⟩:=ht.go hp htp;have pr:=jy (gs:=vV t.1 (D.bl true) p.gs) hp ht.rn;obtain⟨g1,g2,g3⟩:=XR htp;have gl:=ht.gl p hp;have l1:=(ht.gu p hp).2;have l3:=kO hp;have al:=ht.al;rw[xT,xt] at al;have al2:=(vw (va hp ht.rn)).nodup_iff.mp al;rw[vH,xI] at al2;have ll:=Zz htp al2.1;refine xx ei ?_;rw[XE];simp;have pl2:=VP (k:=t.1) (d:=.bl true) (vC eg) rfl;have kg:=kr.gone ht.rn hp pl2;have k2:=(ql (n:=n1) (a:=p.g) pl2).trans k1
 refine yw eg ⟨rfl,yN w5,?_⟩
 have hp1:({ p with gs:=vV t.1 (D.bl true) p.gs }:Pt)∈VH p.r (vV t.1 (D.bl true) p.gs) ps:=pr.mem_iff.mpr zo;generalize vN n1 p.g _=n2 at kg k2 ⊢;obtain⟨⟨h',tr',ei'⟩,eg'⟩:=kg.p _ hp1;refine xx ei' ?_;rw[XE];simp
 have g4:(vV t.1 (D.bl true) p.gs).length=p.gs.length+1:=by rw[g2,zm];rfl
 refine yw eg' ⟨.inl ⟨w6,w6⟩,xx ei' ?_⟩
 rw[ZW];simp;have drk:(ky t.1 rk).length<=m:=zw zr2 hrk
 split
 ·rename_i h0
  have h1:p.ts.length<2*(p.gs.length+1):=w5
  exact xx kg.i ⟨ku,d,k,br,ro,m,_,_,{ p with gs:=vV t.1 (D.bl true) p.gs },rfl,hd1,hd4,kg,tg1,hp1,(ze7 ht hp htp h1).2,by rw[tg3];exact hz,drk,hm,λn' ps' rk' L f1 f2 f3 f4 f5=>q n' ps' rk' L f1 (f2.trans k2) f3 f4 ⟨p,t,hp,htp,rfl,.inr ⟨h1,f5⟩⟩⟩
 ·rename_i h0
  exact q n2 _ _ [] kg k2 tg1 drk ⟨p,t,hp,htp,rfl,.inl ⟨w5,rfl,rfl⟩⟩
abbrev jc:Stmt:=vS (top 22) 8
abbrev UO:List Str:=["self"]
def Wr:FnScope UO q0 (xo jc):=⟨rfl,rfl,rfl,x4,rfl,x4,x4⟩
def UV(CP CK:Addr):TF:=λds n Q=>∃(d:Nat) (k br ro:Addr) (m:Nat) (ps:List Pt) (rk:List (Int × D)),ds=[.rf k]/\KAt CP CK d n k br ro m ps rk/\Q (.int (m:Int)) n
def zD6(CL_Kept:Cls K CK)(NA_so_many_made:NoAttr K CK "so_many_made")(F:Fun K "made" "Kept.made" jc f fd):FnOk P w K mg base CX0 1 f fd q0 (spD K 1 (UV CP CK)):=by
 refine Fun.okD F Wr (λcdv A0 outer s H E G Z _ hr=>(xk (wG (yF CL_Kept NA_so_many_made (zq 0))))) ?_;rintro ds n Q hl ⟨d,k,br,ro,m,ps,rk,rfl,hk,q⟩;simp[ya];refine xx hk.i ?_;rw[xv1];simp;exact q
end
def zC7{f:Str}(h:f ≠ "things" /\ f ≠ "held" /\ f ≠ "tree" /\ f ≠ "gone" := by decide +kernel){ts h' tr g}:qF f (pF ts h' tr g)=none:=by
 simp[pF,qF,Ne.symm h.1,Ne.symm h.2.1,Ne.symm h.2.2.1,Ne.symm h.2.2.2]
def Xk(p:Pt):D:=.tup [.int (p.r:Int),.tup (p.ts.map λt=>.int t.1),.tup (p.ts.map λt=>.bl (vy t.1 p.gs).isSome)]
section
variable {P:Program}{w:World}{K:W.Frag}{mg:Str->Option Value}{base:Heap}{CP CK:Addr}
abbrev qZ:Stmt:=vS (top 21) 2
abbrev kB:List Str:=["self","rank","names"]
def Zl:FnScope kB q3 (xo qZ):=⟨rfl,rfl,rfl,x4,rfl,x4,x4⟩
def YJ:("thing" :: kB:List Str).Nodup:=x4
def YI:("name" :: kB:List Str).Nodup:=x4
def Qi(CP:Addr):TF:=λds n Q=>∃p:Pt,ds=[.rf p.a,.int (p.r:Int)]/\PartAt CP n p/\p.ts.length<=1000/\Q (Xk p) n
def zD3(T:Blt mg)(CL_Part:Cls K CP)(NA_things:NoAttr K CP "things")(NA_gone:NoAttr K CP "gone")(F:Fun K "told" "Part.told" qZ f fd):FnOk P w K mg base CX0 1 f fd q3 (spD K 2 (Qi CP)):=by
 refine Fun.okD F Zl (λcdv A0 outer s H E G Z _ hr=>(zV (jf (i:=2) Zl.nd rfl (lo rfl) (own:=["thing"]) (M:=kB) (vW (by rfl)) rfl (vg rfl (yF CL_Part NA_things (zq 0))) (λ_ _ _ _=>(wy (i:=0) YJ rfl (lo rfl) w6)) (λ_ _ _ _=>yP) (λ_ _ _ _=>(jX kX jU (zq 0) zZ (λ_ _=>rfl))))
  (xk (wG (kS (zc (zq 1) (zc (yB wQ vn T.tuple vo (zc (zq 2) zE)) (zc (yB wQ vn T.tuple vo (zc (kh (own:=["name"]) (M:=kB) (vW (by rfl)) rfl (vg rfl (zq 2)) (λ_ _ _ _=>(wy (i:=0) YI rfl (lo rfl) w6)) (λ_ _ _ _=>yP) (λ_ _ _ _=>(zP1 (Zc hr) (zq 0) (yF CL_Part NA_gone (zq 1)) (by with_unfolding_all rfl)))) zE)) zE)))))))) ?_
 rintro ds n Q hl ⟨p,rfl,⟨⟨h,tr,hc⟩,hgc⟩,hz,q⟩;simp[ya];refine xx hc ?_;rw[ZW];simp;refine yK xj (λt=>.int t.1) p.ts (yN hz) (λt ht R hR=>?_) ?_
 ·simp[xj];exact hR
 ·simp;refine yK (λt:Thing=>D.int t.1) (λt=>.bl (vy t.1 p.gs).isSome) p.ts (yN hz) (λt ht R hR=>?_) ?_
  ·simp;refine xx hc ?_;rw[XE];simp;refine yw hgc ?_
   simpa using hR
  ·exact kR.mpr q
abbrev qA:Stmt:=vS (top 22) 6
abbrev Vq:List Str:=["self"]
def Xp:FnScope Vq q0 (xo qA):=⟨rfl,rfl,rfl,x4,rfl,x4,x4⟩
def Vx(CP CK:Addr):TF:=λds n Q=>∃(d:Nat) (k br ro:Addr) (m:Nat) (ps:List Pt) (rk:List (Int × D)),ds=[.rf k]/\KAt CP CK d n k br ro m ps rk/\ps.length<64/\∀qs:List Pt,qs.Perm ps->qs.Pairwise (λp q=>q.r<=p.r)->Q (.lst (qs.map λp=>.int (p.r:Int))) n
def zo0(T:Blt mg)(CL_Kept:Cls K CK)(NA_by_rank:NoAttr K CK "by_rank")(F:Fun K "ranks" "Kept.ranks" qA f fd):FnOk P w K mg base CX0 1 f fd q0 (spD K 1 (Vx CP CK)):=by
 refine Fun.okD F Xp (λcdv A0 outer s H E G Z _ hr=>(xk (wG (Jp rfl T.sorted (zc (Kt hr T.list (zc (yF CL_Kept NA_by_rank (zq 0)) zE)) zE))))) ?_;rintro ds n Q hl ⟨d,k,br,ro,m,ps,rk,rfl,hk,hz,q⟩;simp[ya];refine xx hk.i ?_;rw[XO];simp;refine yw hk.b ?_
 refine⟨ps.map λp=>(p.r:Int),?_,by rw[zn];exact hz,λms hp hs=>?_⟩
 ·unfold brT;rw[xh,xh];rfl
 ·obtain ⟨qs, hq, rfl⟩ := Zx hp;rw[xV] at hs;rw[xh]
  exact q qs hq (hs.imp λh=>by lia)
abbrev qB:Stmt:=vS (top 22) 7
abbrev qL:List Str:=["self"]
def Xq:FnScope qL q0 (xo qB):=⟨rfl,rfl,rfl,x4,rfl,x4,x4⟩
def Ye:("rank" :: qL:List Str).Nodup:=x4
def jJ(CP CK:Addr):TF:=λds n Q=>∃(d:Nat) (k br ro:Addr) (m:Nat) (ps:List Pt) (rk:List (Int × D)),ds=[.rf k]/\KAt CP CK d n k br ro m ps rk/\(ps.map (·.r)).Nodup/\(∀p∈ps,p.ts.length<=1000)/\ps.length<64/\∀qs:List Pt,qs.Perm ps->qs.Pairwise (λp q=>q.r<=p.r)->Q (.tup (qs.map Xk)) n
def zo4(T:Blt mg)(CL_Kept:Cls K CK)(NA_by_rank:NoAttr K CK "by_rank")(F:Fun K "parts" "Kept.parts" qB f fd)(M_told:MthC P w K mg base CP "told" 1 1 (Qi CP))(M_ranks:MthC P w K mg base CK "ranks" 1 0 (Vx CP CK)):FnOk P w K mg base CX0 2 f fd q0 (spD K 1 (jJ CP CK)):=by
 refine Fun.okD F Xq (λcdv A0 outer s H E G Z _ hr=>(xk (wG (yB wQ vn T.tuple vo (zc (kh (own:=["rank"]) (M:=qL) (vW (by rfl)) rfl (vg rfl (vA M_ranks (hr.mono w6) rfl (zq 0))) (λ_ _ _ _=>(wy (i:=0) Ye rfl (lo rfl) w6)) (λ_ _ _ _=>yP) (λ_ _ _ _=>(qN M_told (hr.mono w6) rfl (VT (Zc hr) (yF CL_Kept NA_by_rank (zq 1)) (zq 0) (λ_ _=>rfl)) (zc (zq 0) zE)))) zE))))) ?_
 rintro ds n Q hl ⟨d,k,br,ro,m,ps,rk,rfl,hk,hn,hts,hz,q⟩;simp[ya];refine xx hk.i ⟨ku,d,k,br,ro,m,ps,rk,rfl,hk,hz,λqs hp hs=>?_⟩;have hql:=hp.length_eq;refine⟨_,.inl rfl,?_⟩
 refine yK (λp:Pt=>D.int (p.r:Int)) Xk qs (yN w5) (λp hpq R hR=>?_) ?_
 ·have hm:p∈ps:=hp.mem_iff.mp hpq;simp;refine xx hk.i ?_;rw[XO];simp;refine yw hk.b ?_;rw[KY hn hm];simp;obtain⟨⟨x,y,e⟩,e2⟩:=hk.p p hm;exact xx e ⟨zC7,p,rfl,⟨⟨x,y,e⟩,e2⟩,hts p hm,hR⟩
 ·exact kR.mpr (q qs hp hs)
abbrev qC:Stmt:=vS (top 22) 5
abbrev qM:List Str:=["self"]
def Xr:FnScope qM q0 (xo qC):=⟨rfl,rfl,rfl,x4,rfl,x4,x4⟩
def qD:("rank" :: "thing" :: qM:List Str).Nodup:=x4
def jv(CP CK:Addr):TF:=λds n Q=>∃(d:Nat) (k br ro:Addr) (m:Nat) (ps:List Pt) (rk:List (Int × D)),ds=[.rf k]/\KAt CP CK d n k br ro m ps rk/\Tran d ps [] rk/\yR ps<500/\(ps.flatMap Pt.left).length<900 /\
 ∀rs:List Thing,rs.Perm (ps.flatMap Pt.left)->rs.Pairwise (λs t=>s.1<t.1)->Q (.tup [.int (d:Int),.tup (rs.map xj)]) n
structure JHs(ps:List Pt)(n:Nat)(i:Nat)(acc:List D)(n':Nat):Prop where
 hn:n'=n
 he:acc=((ps.take i).flatMap Pt.left).map xj
def za9(T:Blt mg)(CL_Kept:Cls K CK)(NA_d:NoAttr K CK "d")(NA_by_rank:NoAttr K CK "by_rank")(F:Fun K "house" "Kept.house" qC f fd)(M_left:MthC P w K mg base CP "left" 1 0 (ZE CP)):FnOk P w K mg base CX0 2 f fd q0 (spD K 1 (jv CP CK)):=by
 refine Fun.okD F Xr (λcdv A0 outer s H E G Z _ hr=>(xk (wG (kS (zc (yF CL_Kept NA_d (zq 0)) (zc (yB wQ vn T.tuple vo (zc (wP (Zi hr) (KP rfl) T.sorted qJ (zc (zn6 (own:=["rank","thing"]) (M:=qM) (vW (by rfl)) rfl (vg rfl (Kt hr T.list (zc (yF CL_Kept NA_by_rank (zq 0)) zE))) (λ_ _ _ _=>(wy (i:=0) qD rfl (lo rfl) w6)) (λ_ _ _ _=>yP) (λ_ _ _ _=>(vg rfl (vA M_left (hr.mono w6) rfl (VT (Zc hr) (yF CL_Kept NA_by_rank (zq 2)) (zq 0) (λ_ _=>rfl))))) (λ_ _ _ _=>(wy (i:=1) qD rfl (lo rfl) w6)) (λ_ _ _ _=>yP) (λ_ _ _ _=>(zq 1))) zE)) zE)) zE)))))) ?_
 rintro ds n Q hl ⟨d,k,br,ro,m,ps,rk,rfl,hk,ht,hz,hz2,q⟩;simp[ya];refine xx hk.i ?_;rw[xv2];simp;refine xx hk.i ?_;rw[XO];simp;refine yw hk.b ?_;refine⟨JHs ps n,⟨rfl,rfl⟩,?_,?_⟩
 ·rintro i d' acc n' e ⟨rfl, rfl⟩;unfold brT at e;rw[xh,zB] at e;obtain⟨p,ep,rfl⟩:=wv.mp e;have hp:p∈ps:=wo ep;obtain⟨⟨x,y,e1⟩,e2⟩:=hk.p p hp;have ls:=(ht.gu p hp).2;have l3:=kO hp
  have tk:(ps.take (i+1)).flatMap Pt.left=(ps.take i).flatMap Pt.left++p.left:=by rw[xq,ep,List.flatMap_append];simp
  have lt:((ps.take (i+1)).flatMap Pt.left).length<=(ps.flatMap Pt.left).length:=by
   have e3:ps.flatMap Pt.left=(ps.take (i+1)).flatMap Pt.left++(ps.drop (i+1)).flatMap Pt.left:=by rw[<- List.flatMap_append,wA]
   rw[e3,zm];lia
  rw[tk,zm] at lt;simp;refine xx hk.i ?_;rw[XO];simp;refine yw hk.b ?_;rw[KY ht.rn hp];simp
  refine xx e1 ⟨VU,p,rfl,⟨⟨x,y,e1⟩,e2⟩,w5,?_⟩
  simp
  refine⟨λj acc n2=>n2=n'/\acc=((ps.take i).flatMap Pt.left++p.left.take j).map xj,⟨rfl,by simp⟩,?_,?_⟩
  ·rintro j d2 acc n2 e3 ⟨rfl, rfl⟩;rw[zB] at e3;obtain⟨t,et,rfl⟩:=wv.mp e3;have hj:j<p.left.length:=(zP.mp et).1
   refine⟨lt_size (by rw[zn,zm,xm];lia),?_⟩
   simp[keepsD];rw[xq,zB,et];rfl
  ·rintro acc n2 ⟨rfl,rfl⟩;refine⟨rfl,?_⟩;rw[zn,wD,tk]
 ·rintro acc n' ⟨rfl, rfl⟩
  have lb:(List.map (λp:Int × D=>D.int p.fst) (brT ps)).length=ps.length:=by unfold brT;rw[zn,zn]
  rw[lb,wD]
  refine⟨yN (by rw[zn];lia),?_⟩
  have nd:((ps.flatMap Pt.left).map (·.1)).Nodup:=by
   have al:=ht.al;rw[xT,xt] at al;rw[List.map_flatMap];exact al
  refine⟨(ps.flatMap Pt.left).map λt=>(t.1,[yM t.2.1,.int t.2.2]),by rw[xh];rfl,by rw[zn];exact hz2,by rw[xh];exact nd,λrows hp hs=>?_⟩
  obtain⟨rs,hrp,rfl⟩:=Zx hp
  have eR:(rs.map λt=>(t.1,[yM t.2.1,D.int t.2.2])).map NRow.d=rs.map xj:=by rw[xh];rfl
  rw[eR];rw[xV] at hs;exact kR.mpr (q rs hrp hs)
end
theorem ze0:∀{items es:List D},Paired (λ_ e=>∃i:Int,e=D.int i) items es->∃js:List Int,es=js.map D.int/\js.length=items.length
 |[],_,h=>by cases h;exact⟨[],rfl,rfl⟩
 | x :: items, _, h => by
  cases h with
  |@cons _ e _ es h1 h2=>
   obtain⟨i,rfl⟩:=h1;obtain⟨js,rfl,hl⟩:=ze0 h2
   exact⟨i::js,rfl,by rw[zu,hl,zu]⟩
structure JGr(m n:Nat)(mm:Nat)(rho:Rho)(n':Nat):Prop where
 hn:n'=n
 he:∃j:Nat,mm=m-j/\m%2^j=0/\j<m/\rho=[some (.int (m:Int)),some (.int ((2^j:Nat):Int))]
section
variable {P:Program}{w:World}{K:W.Frag}{mg:Str->Option Value}{base:Heap}{CP CK:Addr}
abbrev ZL:Stmt:=top 27
abbrev zi9:List Str:=["_law_left_here","_law_some"]
def Jj:FnScope zi9 q9 (xo ZL):=⟨rfl,rfl,rfl,x4,rfl,x4,x4⟩
def zJ9:TF:=λds n Q=>∃js:List Int,ds=[.st,.lst (js.map D.int)]/\kOf n=2/\1<=js.length/\js.length<=1000/\∀j∈js,Q (.int j) n
def xm3(T:Blt mg)(F:Fun K "_law_of" "_law_of" ZL f fd)(Y_pick:Fn P w K mg base "_law_pick" 1 2 ZF):FnOk P w K mg base CX0 2 f fd q9 (spD K 2 zJ9):=by
 refine Fun.okD F Jj (λcdv A0 outer s H E G Z _ hr=>(xk (wG (jX kX jU (zq 1) (vp Y_pick (hr.mono w6) rfl (zc (zq 0) (zc (wP wV kY T.len qa (zc (zq 1) zE)) zE))) (λ_ _=>rfl))))) ?_
 rintro ds n Q hl ⟨js,rfl,hn,h1,h2,q⟩;simp[ya]
 refine vt hn w5 w5 λk0 hk0 hk1=>?_
 refine xB6 hk0 (by simpa using hk1) λd hd=>?_
 obtain⟨j,hj,rfl⟩:=zK.mp hd;exact q j hj
abbrev qc:Stmt:=top 28
abbrev XX:List Str:=["_law_left_here","_law_near","_law_some"]
def qP:FnScope XX ["_law_left_here","_law_near"] (xo qc):=⟨rfl,rfl,rfl,x4,rfl,x4,x4⟩
def Xm:TF:=λds n Q=>∃b:Bool,ds=[.st,.bl b]/\kOf n=2/\∀x:Int,Q (.int x) n
def za8(F:Fun K "_law_number" "_law_number" qc f fd)(Y_pick:Fn P w K mg base "_law_pick" 1 2 ZF)(Y_of:Fn P w K mg base "_law_of" 2 2 zJ9):FnOk P w K mg base CX0 3 f fd ["_law_left_here","_law_near"] (spD K 2 Xm):=by
 refine Fun.okD F qP (λcdv A0 outer s H E G Z _ hr=>(zV (kf (zz9 (zq 1)) (xk (wG (vp Y_pick (hr.mono w6) rfl (zc (zq 0) (zc zZ zE))))) yS)
  (zV (yJ (i:=2) qP.nd rfl (lo rfl) (Zo (zc (YY (vp Y_pick (hr.mono w6) rfl (zc (zq 0) (zc zZ zE))) zZ) (zc (vp Y_pick (hr.mono w6) rfl (zc (zq 0) (zc zZ zE))) (zc (kj (WD zZ zZ) (vp Y_pick (hr.mono w6) rfl (zc (zq 0) (zc zZ zE)))) (zc (YY zZ (WD zZ zZ)) (zc zZ zE)))))))
  (xk (wG (vp Y_of (hr.mono w6) rfl (zc (zq 0) (zc (zq 2) zE)))))))) ?_
 rintro ds n Q hl ⟨b,rfl,hn,q⟩;simp[ya]
 split
 ·exact vt hn w6 w6 λx _ _=>q x
 ·refine vt hn w6 w6 λx1 h1 _ => ?_
  rw[QF]
  refine vt hn w6 w6 λx2 h2 _=>⟨⟨w6,w6,w6⟩,vt hn w6 w6 λx3 h3 _=>?_⟩
  rw[QF]
  exact⟨⟨w6,w6,w6⟩,[x1-3,x2,100000000000000000+x3,-100000000000000000,7],rfl,hn,by simp,by simp,λj _=>q j⟩
abbrev qz:Stmt:=top 29
abbrev qK:List Str:=["_law_left_here","_law_name","_law_d","_law_near","_law_place"]
def jx:FnScope qK q10 (xo qz):=⟨rfl,rfl,rfl,x4,rfl,x4,x4⟩
def Yd:("_law_i" :: qK:List Str).Nodup:=x4
def Vw:TF:=λds n Q=>∃(x:Int) (d:Nat) (b:Bool),ds=[.st,.int x,.int (d:Int),.bl b]/\kOf n=2/\d<=4/\∀(p:List Int) (z:Int),p.length=d->Q (xj (x,p,z)) n
def zn9(T:Blt mg)(F:Fun K "_law_thing" "_law_thing" qz f fd)(Y_pick:Fn P w K mg base "_law_pick" 1 2 ZF)(Y_of:Fn P w K mg base "_law_of" 2 2 zJ9)(Y_number:Fn P w K mg base "_law_number" 3 2 Xm):FnOk P w K mg base CX0 4 f fd q10 (spD K 4 Vw):=by
 refine Fun.okD F jx (λcdv A0 outer s H E G Z _ hr=>(zV (yJ (i:=4) jx.nd rfl (lo rfl) (yB wQ vn T.tuple vo (zc (kh (own:=["_law_i"]) (M:=qK) (vW (by rfl)) rfl (XB T.range (zc (zq 2) zE)) (λ_ _ _ _=>(wy (i:=0) Yd rfl (lo rfl) w6)) (λ_ _ _ _=>yP) (λ_ _ _ _=>(vp Y_number (hr.mono w6) rfl (zc (zq 1) (zc (zq 4) zE))))) zE)))
  (xk (wG (kS (zc (zq 1) (zc (zq 4) (zc (vp Y_of (hr.mono w6) rfl (zc (zq 0) (zc (Zo (zc (YY (vp Y_pick (hr.mono w6) rfl (zc (zq 0) (zc zZ zE))) zZ) (zc (vp Y_pick (hr.mono w6) rfl (zc (zq 0) (zc (WD zZ zZ) zE))) (zc (YY zZ (WD zZ zZ)) (zc zZ (zc zZ zE)))))) zE))) zE)))))))) ?_
 rintro ds n Q hl ⟨x,d,b,rfl,hn,hd,q⟩;simp[ya]
 refine⟨w5,?_⟩
 refine zh0 (VG 0 d) n (λ_ e=>∃i:Int,e=.int i) (yN (by rw[VF];lia)) (λi e he R hR=>?_) λes hes=>?_
 ·simp;exact⟨b,rfl,hn,λy=>hR _ ⟨y,rfl⟩⟩
 ·obtain ⟨js, rfl, hj⟩ := ze0 hes;rw[VF] at hj;simp
  refine vt hn w6 w6 λx1 h1 _=>?_
  rw[QF]
  refine⟨⟨w6,w6,w6⟩,vt hn w6 w6 λx2 h2 _=>⟨⟨w6,w6,w6⟩,[x1-2,x2,-100000000000000000,3,0],rfl,hn,by simp,by simp,λz _=>?_⟩⟩
  exact q js z hj
abbrev ke:Stmt:=top 31
abbrev YB:List Str:=["_law_number_here","_law_power"]
def vO:FnScope YB ["_law_number_here"] (xo ke):=⟨rfl,rfl,rfl,x4,rfl,x4,x4⟩
def jM:TF:=λds n Q=>∃m:Nat,ds=[.int (m:Int)]/\1<=m/\m<=1000/\∀j:Nat,m%2^j=0->m%2^(j+1)≠0->Q (.int ((2^j:Nat):Int)) n
def VZ(F:Fun K "_law_greatest" "_law_greatest" ke f fd):FnOk P w K mg base CX0 1 f fd ["_law_number_here"] (spD K 1 jM):=by
 refine Fun.okD F vO (λcdv A0 outer s H E G Z _ hr=>(zV (yJ (i:=1) vO.nd rfl (lo rfl) zZ)
  (zV (ZR PassesOwn.never (yQ VW VJ (kH (zq 0) (qv zZ (zq 1))) zZ (vb _))
  (xk (yJ (i:=1) vO.nd rfl (lo rfl) (qv zZ (zq 1)))))
  (xk (wG (zq 1)))))) ?_
 rintro ds n Q hl ⟨m,rfl,h1,hm,q⟩;simp[ya]
 refine⟨JGr m n,⟨_,rfl,0,rfl,by simp[Nat.mod_one],w5,rfl⟩,?_⟩
 rintro mm rho n1 ⟨rfl,j,rfl,hj,hjm,rfl⟩;have cm:∀{i j:Int},(-(2^64)<i/\i<2^64)->CMul i j:=λh=>.inl h
 have ep:(2:Int)*2^j=((2^(j+1):Nat):Int):=by rw[xy];simp;lia
 have p0:0<2^(j+1):=Nat.pow_pos w5
 simp;rw[ep]
 refine⟨cm ⟨w6,w6⟩,w5,?_⟩
 split
 ·rename_i h
  have h':m%2^(j+1)=0:=w5
  have hd:=Nat.le_of_dvd w5 (xJ h')
  have:=Nat.lt_two_pow_self (n:=j+1)
  exact⟨cm ⟨w6,w6⟩,m-(j+1),w5,rfl,j+1,rfl,h',w5,rfl⟩
 ·rename_i h
  have:=q j hj λe=>h (by rw[<- Int.natCast_emod,e];rfl)
  simpa using this
end
inductive Bin:Nat->List Pt->List Thing->Prop where
 |nil {r:Nat}:Bin r [] []
 |skip {r:Nat}{ps:List Pt}{xs:List Thing}:Bin (r+1) ps xs->Bin r ps xs
 |one {r:Nat}{p:Pt}{ps:List Pt}{xs:List Thing}:Bin (r+1) ps xs->p.r=r->p.gs=[]->p.ts.length=2^r->Bin r (p::ps) (xs++p.ts)
def Bin.ge{r:Nat}{ps:List Pt}{xs:List Thing}(h:Bin r ps xs):∀p∈ps,r<=p.r:=by
 induction h with
 |nil=>intro p hp;simp at hp
 |skip _ ih=>intro p hp;have:=ih p hp;lia
 |one _ e _ _ ih=>
  intro p hp
  rcases zh.mp hp with rfl |hp
  ·lia
  ·have:=ih p hp;lia
def Bin.mod{r:Nat}{ps:List Pt}{xs:List Thing}(h:Bin r ps xs):xs.length%2^r=0:=by
 induction h with
 |nil=>simp
 |@skip r ps xs _ ih=>
  rw[xy] at ih;obtain⟨c,hc⟩:=xJ ih;rw[hc,wR];exact Nat.mul_mod_right _ _
 |@one r p ps xs _ _ _ hl ih=>
  rw[xy] at ih;obtain⟨c,hc⟩:=xJ ih;rw[zm,hc,hl,wR];simp
def Bin.rn{r:Nat}{ps:List Pt}{xs:List Thing}(h:Bin r ps xs):(ps.map (·.r)).Nodup:=by
 induction h with
 |nil=>simp
 |skip _ ih=>exact ih
 |@one r p ps xs hb e _ _ ih=>
  rw[zy];refine xn.mpr ⟨λhm=>?_,ih⟩;obtain⟨q,hq,eq⟩:=zK.mp hm;have:=hb.ge q hq;lia
def PutM.perm{ps:List Pt}{s:Nat}{T:List Thing}{ps':List Pt}{L:List Thing}(h:PutM ps s T ps' L):∀{qs:List Pt},ps.Perm qs->∃qs',ps'.Perm qs'/\PutM qs s T qs' L:=by
 induction h with
 |@stop ps s T a g hno=>exact λpm=>⟨_,pm.append_right _,.stop λq hq=>hno q (pm.mem_iff.mpr hq)⟩
 |@step ps p T ps' L hp _ ih=>
  intro qs pm;obtain⟨qs',h1,h2⟩:=ih (pm.filter _);exact⟨qs',h1,.step (pm.mem_iff.mp hp) h2⟩
def zo7{r:Nat}{ps:List Pt}(h:∀p∈ps,p.r≠r):off r ps=ps:=List.filter_eq_self.mpr λp hp=>by simpa using h p hp
def Bin.put{r:Nat}{ps:List Pt}{xs:List Thing}(h:Bin r ps xs):∀{T:List Thing}{ps':List Pt}{L:List Thing},T.length=2^r->PutM ps r T ps' L->∃qs,ps'.Perm qs/\Bin r qs (xs++T)/\∃f,L.length=2^f/\(xs.length+T.length)%2^f=0/\(xs.length+T.length)%2^(f+1)≠0:=by
 induction h with
 |@nil r=>
  intro T ps' L hT hp
  have p0:0<2^r:=Nat.pow_pos w5
  cases hp with
  | stop _ => exact ⟨_, .refl _, Bin.one .nil rfl rfl hT, r, hT, by simp [hT], by
    rw[hT,wK,Nat.zero_add,Nat.mod_eq_of_lt (by rw[xy];lia)];lia⟩
  |step h _=>simp at h
 | @skip r ps xs hb ih =>
  intro T ps' L hT hp;have hge:=hb.ge
  cases hp with
  | @stop _ _ _ a g _ =>
   have hm:=hb.mod;refine⟨⟨r,a,g,T,[]⟩::ps,List.perm_append_comm,Bin.one hb rfl rfl hT,r,hT,?_,?_⟩
   ·obtain⟨c,hc⟩:=xJ hm;rw[hc,hT,xy,wR];simp
   ·obtain ⟨c, hc⟩ := xJ hm
    rw[hc,hT,Nat.mul_add_mod,Nat.mod_eq_of_lt (by rw[xy];have:=Nat.one_le_two_pow (n:=r);lia)]
    exact Nat.ne_of_gt (Nat.pow_pos w5)
  |@step _ p _ _ _ h _=>have:=hge p h;lia
 | @one r p ps xs hb e hg hl ih =>
  intro T ps' L hT hp;have hge:=hb.ge;generalize hr:r=r0 at hp
  cases hp with
  |@stop _ _ _ a g hno=>exact absurd (e.trans hr) (hno p zo)
  | @step _ q _ _ _ h hp' =>
   have eq:q=p:=by
    rcases zh.mp h with z |z
    ·exact z
    ·have:=hge q z;lia
   subst eq
   have eo:off q.r (q::ps)=ps:=by
    show List.filter _ (q::ps)=ps
    rw[wH (by simp)]
    exact zo7 λp hp=>by have:=hge p hp;lia
   rw[eo,Zy hg] at hp'
   have hp2:PutM ps (r+1) (q.ts++T) ps' L:=by rw[hr];exact hp'
   obtain⟨qs,h1,h2,f,h3,h4,h5⟩:=ih (by rw[zm,hl,hT,xy];lia) hp2
   rw[<- wj] at h2;rw[zm] at h4 h5
   exact⟨qs,h1,by rw[hr] at h2;exact .skip h2,f,h3,by rw[zm];rw[<- Nat.add_assoc] at h4;exact h4,by rw[zm];rw[<- Nat.add_assoc] at h5;exact h5⟩
theorem okEs_iff:∀{ds:List D}{k:Nat},Yb ds k=true↔∀d∈ds,okE d k=true
 |[],k=>by simp[Yb]
 |d::ds,k=>by simp[Yb,okEs_iff (ds:=ds)]
def okE_tup{ds:List D}{k:Nat}:okE (.tup ds) (k+1)=true↔∀d∈ds,okE d k=true:=by
 show Yb ds k=true↔_;exact okEs_iff
def okE_lst{ds:List D}{k:Nat}:okE (.lst ds) (k+1)=true↔∀d∈ds,okE d k=true:=by
 show Yb ds k=true↔_;exact okEs_iff
def zo6(p:Pt)(k:Nat):okE (Xk p) (k+2)=true:=by
 refine okE_tup.mpr λd hd=>?_;simp only[zh,wb,or_false] at hd
 rcases hd with rfl |rfl |rfl
 ·rfl
 ·refine okE_tup.mpr λd hd=>?_;obtain⟨x,_,rfl⟩:=zK.mp hd;rfl
 ·refine okE_tup.mpr λd hd=>?_;obtain⟨x,_,rfl⟩:=zK.mp hd;rfl
def Yc(ps:List Pt):okE (.tup (ps.map Xk)) 20=true:=okE_tup.mpr λd hd=>by
 obtain⟨p,_,rfl⟩:=zK.mp hd;exact zo6 p 17
mutual
theorem KJ:∀(d:D) (k:Nat),okE d k=true->eqD d d=true
 |.non,_,_=>rfl
 |.bl b,_,_=>by simp[eqD]
 |.int i,_,_=>by simp[eqD]
 |.str s,_,_=>by simp[eqD]
 |.tup ds,0,h=>by simp[okE] at h
 |.tup ds,k+1,h=>by
  show jI ds ds=true;exact Yr ds k h
 |.lst ds,0,h=>by simp[okE] at h
 |.lst ds,k+1,h=>by
  show jI ds ds=true;exact Yr ds k h
 |.ty _,_,h=>by simp[okE] at h
 |.fz _,_,h=>by simp[okE] at h
 |.st,_,h=>by simp[okE] at h
 |.own _,_,h=>by simp[okE] at h
 |.dic,_,h=>by simp[okE] at h
 |.dct _ _,_,h=>by simp[okE] at h
 |.rf _,_,h=>by simp[okE] at h
theorem Yr:∀(ds:List D) (k:Nat),Yb ds k=true->jI ds ds=true
 |[],_,_=>rfl
 |d::ds,k,h=>by
  have h':okE d k=true/\Yb ds k=true:=by simpa [Yb] using h
  simp[jI,KJ d k h'.1,Yr ds k h'.2]
end
def Bin.no{r:Nat}{ps:List Pt}{xs:List Thing}(h:Bin r ps xs):xs=[]->ps=[]:=by
 induction h with
 |nil=>exact λ_=>rfl
 |skip _ ih=>exact ih
 |@one r p ps xs _ _ _ hl _=>
  intro e
  have:(xs++p.ts).length=0:=by rw[e];rfl
  rw[zm,hl] at this;have:=Nat.one_le_two_pow (n:=r);lia
def zr6(xs:List D)(e:Nat)(h1:1<=e)(he:e<=xs.length):Yu xs (some (-(e:Int))) none=xs.drop (xs.length-e):=by
 have hs:HT.sIx xs.length 0 (some (-(e:Int)))=xs.length-e:=by
  show(if (-(e:Int))<0 then(-(e:Int)+(xs.length:Int)).toNat else min (-(e:Int)).toNat xs.length)=_
  rw[if_pos w5];lia
 unfold Yu
 rw[hs,HT.Zv,wa (by rw[wq];lia)]
def Ux(xs:List D)(e:Nat)(h1:1<=e)(he:e<=xs.length):Yu xs none (some (-(e:Int)))=xs.take (xs.length-e):=by
 have hs:HT.sIx xs.length xs.length (some (-(e:Int)))=xs.length-e:=by
  show(if (-(e:Int))<0 then(-(e:Int)+(xs.length:Int)).toNat else min (-(e:Int)).toNat xs.length)=_
  rw[if_pos w5];lia
 unfold Yu;rw[hs,HT.Zv,wX,Nat.sub_zero]
def zA9{r m:Nat}(h:m%2^r=0)(h0:m≠0)(h3:m<=300):2^r<=m/\r<9:=by
 have h1:=Nat.le_of_dvd w5 (xJ h)
 refine⟨h1,?_⟩
 have h2:2^r<2^9:=w5
 exact(Nat.pow_lt_pow_iff_right (by decide:1<2)).mp h2
structure JDue(ps:List Pt)(n:Nat)(mm:Nat)(rho:Rho)(n':Nat):Prop where
 hn:n'=n
 he:∃(r:Nat) (a:D) (done ps2:List Pt) (ys:List Thing),mm=10-r/\done.length<=r/\ps=done++ps2/\Bin r ps2 ys/\ys.length<=300/\rho=[some a,some (.own (done.map Xk)),some (.int (r:Int)),some (.int ((2^r:Nat):Int)),some (.lst (ys.map λt=>.int t.1))]
section
variable {P:Program}{w:World}{K:W.Frag}{mg:Str->Option Value}{base:Heap}{CP CK:Addr}
abbrev jS:Stmt:=top 30
abbrev JT:List Str:=["_law_names","_law_found","_law_rank","_law_power","_law_rest"]
def vZ:FnScope JT ["_law_names"] (xo jS):=⟨rfl,rfl,rfl,x4,rfl,x4,x4⟩
def zj6:TF:=λds n Q=>∃(ps:List Pt) (xs:List Thing),ds=[.lst (xs.map λt=>.int t.1)]/\Bin 0 ps xs/\xs.length<=300/\Q (.tup (ps.reverse.map Xk)) n
def zQ1(T:Blt mg)(F:Fun K "_law_due" "_law_due" jS f fd):FnOk P w K mg base CX0 1 f fd ["_law_names"] (spD K 1 zj6):=by
 refine Fun.okD F vZ (λcdv A0 outer s H E G Z _ hr=>(zV (zA4 (i:=1) vZ.nd rfl (lo rfl) zE)
  (zV (QO (i:=2) (j:=3) (k:=4) rfl vZ.nd rfl rfl rfl rfl rfl rfl (zc zZ (zc zZ (zc (yB Vi zH2 T.list zi0 (zc (zq 0) zE)) zE))))
  (zV (ZR PassesOwn.never (yQ (Ku hr) (Kc rfl) (zq 4) (Zo zE) (vb _))
  (zV (kf (yQ VW VJ (kH (za2 (wP wV kY T.len qa (zc (zq 4) zE)) (zq 3)) zZ) zZ (vb _)) (zV (Jl (i:=1) (zc (kS (zc (zq 2) (zc (yB wQ vn T.tuple vo (zc (QZ rfl (zq 4) (qf (za1 (zq 3))) qg) zE)) (zc (ZV zC8 zy4 (kS (zc Jq zE)) (zq 3)) zE)))) zE) rfl)
  (xk (yJ (i:=4) vZ.nd rfl (lo rfl) (QZ rfl (zq 4) qg (qf (za1 (zq 3))))))) yS)
  (xk (Kk (i:=2) (j:=3) rfl vZ.nd rfl rfl w6 rfl rfl (zc (kj (zq 2) zZ) (zc (qv zZ (zq 3)) zE))))))
  (xk (zA5 1 (wG (yB wQ vn T.tuple vo (zc (zC3 rfl (zq 1)) zE))))))))) ?_
 rintro ds n Q hl ⟨ps,xs,rfl,hb,hx,q⟩;simp[ya]
 refine⟨_,_,_,⟨rfl,rfl,rfl⟩,JDue ps n,⟨_,rfl,0,_,[],ps,xs,rfl,by simp,rfl,hb,hx,rfl⟩,?_⟩
 rintro mm rho n1 ⟨rfl,r,a,done,ps2,ys,rfl,hdl,rfl,hb,hy,rfl⟩
 have okr:okE (.lst (ys.map λt=>D.int t.1)) 20=true:=okE_lst.mpr λd hd=>by
  obtain⟨x,_,rfl⟩:=zK.mp hd;rfl
 have hm:=hb.mod
 have p0:0<2^r:=Nat.pow_pos w5
 simp[okr];refine⟨rfl,?_⟩
 by_cases hys:ys=[]
 ·have e := hb.no hys;subst hys e;simp[eqD,jI];rw[xX,List.map_reverse] at q
  simpa using q
 ·have hl0 : ys.length ≠ 0 := λe => hys (wB e);obtain⟨h2r,hr9⟩:=zA9 hm hl0 hy
  have ne:eqD (.lst (ys.map λt=>D.int t.1)) (.lst [])=false:=by
   cases ys with
   |nil=>exact absurd rfl hys
   |cons a b=>rfl
  rw[ne];have cm:∀{i j:Int},(-(2^64)<i/\i<2^64)->CMul i j:=λh=>.inl h
  have ep:((2^r:Nat):Int)=2^r:=by simp
  have ep2:(2:Int)*2^r=((2^(r+1):Nat):Int):=by rw[xy];simp;lia
  have er:(r:Int)+1=((r+1:Nat):Int):=by simp
  have pb:2^r<=300:=w5
  rw[<- ep,ep2] at *;simp only[xR,if_false]
  refine⟨⟨w5,w5⟩,?_⟩
  cases hb with
  |nil=>exact absurd rfl hys
  | @skip _ _ _ hb =>
   have hm2:=hb.mod;obtain⟨c,hc⟩:=xJ hm2
   have hno:¬ ((ys.length:Int)/((2^r:Nat):Int)%2=1):=by
    rw[hc,xy,wR,<- Int.natCast_ediv,Nat.mul_div_cancel_left _ p0];lia
   rw[if_neg hno]
   exact⟨cm ⟨w6,w6⟩,10-(r+1),w5,rfl,r+1,_,done,ps2,ys,rfl,w5,rfl,hb,hy,by rw[er]⟩
  | @one _ p ps3 zs hb e g hl =>
   subst e;have hm2:=hb.mod;obtain⟨c,hc⟩:=xJ hm2
   have hln:(zs++p.ts).length=2^p.r*(2*c+1):=by rw[zm,hc,hl,xy,wR,Nat.mul_add];lia
   have hyes:(((zs++p.ts).length:Int)/((2^p.r:Nat):Int)%2=1):=by
    rw[hln,<- Int.natCast_ediv,Nat.mul_div_cancel_left _ p0];lia
   rw[if_pos hyes]
   have hla:(zs++p.ts).length=zs.length+2^p.r:=by rw[zm,hl]
   have lm:((zs++p.ts).map λt=>D.int t.1).length=zs.length+2^p.r:=by rw[zn,hla]
   have k1:Yu ((zs++p.ts).map λt=>D.int t.1) (some (-((2^p.r:Nat):Int))) none=p.ts.map λt=>D.int t.1:=by
    rw[zr6 _ _ w5 w5,lm,Nat.add_sub_cancel,<- map_drop,List.drop_left]
   have k2:Yu ((zs++p.ts).map λt=>D.int t.1) none (some (-((2^p.r:Nat):Int)))=zs.map λt=>D.int t.1:=by
    rw[Ux _ _ w5 w5,lm,Nat.add_sub_cancel,<- yj,List.take_left]
   rw[k1,k2]
   have et:Xk p=.tup [.int (p.r:Int),.tup (p.ts.map λt=>.int t.1),.tup (replicate (((2^p.r:Nat):Int)).toNat (.bl false))]:=by
    unfold Xk;rw[Int.toNat_natCast,<- hl,<- List.map_const']
    congr 3
    rw[g];rfl
   have hsl:((2^p.r:Nat):Int)<=sizeLine:=by rw[sizeLine_eq];lia
   rw[er,<- et]
   refine⟨lt_size w5,w5,hsl,cm ⟨w6,w6⟩,10-(p.r+1),w5,rfl,p.r+1,a,done++[p],ps3,zs,rfl,by rw[zm];simp;exact hdl,by simp,hb,w5,?_⟩
   rw[xS];rfl
end
def xm7{c:Nat}:lg c<=c:=by
 unfold lg
 split
 ·lia
 ·rename_i h;have:=Nat.log2_self_le h;have:=Nat.lt_two_pow_self (n:=Nat.log2 c);lia
def Je{n a b:Nat}(ha:n%2^a=0)(ha':n%2^(a+1)≠0)(hb:n%2^b=0)(hb':n%2^(b+1)≠0):a=b:=by
 have key:∀{a b:Nat},n%2^(a+1)≠0->n%2^b=0->b<=a:=λ{a b} h1 h2=>by
  by_cases h:b<=a
  ·exact h
  ·exact absurd (Nat.mod_eq_zero_of_dvd (Nat.dvd_trans (Nat.pow_dvd_pow 2 w5) (xJ h2))) h1
 have:=key ha' hb;have:=key hb' ha;lia
def zs2(ps:List Pt):Prop:=∀p∈ps,2*p.gs.length<=p.ts.length/\1<=p.ts.length
def PutM.half{ps:List Pt}{s:Nat}{T:List Thing}{ps':List Pt}{L:List Thing}(h:PutM ps s T ps' L):zs2 ps->1<=T.length->zs2 ps':=by
 induction h with
 |@stop ps s T a g _=>
  intro hh hT p hp
  rcases zN.mp hp with hp |hp
  ·exact hh p hp
  ·rw[zW.mp hp];exact⟨by simp,hT⟩
 |@step ps p T ps' L _ _ ih=>
  intro hh hT
  exact ih (λq hq=>hh q (kq hq).1) (by rw[zm];lia)
def GoM.half{d:Nat}{ps:List Pt}{x:Int}{ps':List Pt}{L:List Thing}{rk:List (Int × D)}(h:GoM ps x ps' L)(ht:Tran d ps [] rk)(hh:zs2 ps):zs2 ps':=by
 obtain⟨p,t,hp,htp,rfl,h⟩:=h;obtain⟨g1,g2,g3⟩:=XR htp;have pr:=jy (gs:=vV t.1 (D.bl true) p.gs) hp ht.rn
 have gl:(vV t.1 (D.bl true) p.gs).length=p.gs.length+1:=by rw[g2,zm];rfl
 have ho:zs2 (off p.r ps):=λq hq=>hh q (kq hq).1
 rcases h with ⟨h0,rfl,rfl⟩ |⟨h0,h⟩
 ·intro q hq
  rcases zh.mp (pr.mem_iff.mp hq) with rfl |hq
  ·exact⟨by show 2*(vV t.1 (D.bl true) p.gs).length<=p.ts.length;lia,(hh p hp).2⟩
  ·exact ho q hq
 ·have ho2 : zs2 (off p.r (VH p.r (vV t.1 (D.bl true) p.gs) ps)) := λq hq => by
   obtain⟨h1,h2⟩:=kq hq
   rcases zh.mp (pr.mem_iff.mp h1) with rfl |h1
   ·exact absurd rfl h2
   ·exact ho q h1
  rcases h with ⟨_,rfl,_⟩ |⟨h1,h⟩
  ·exact ho2
  ·exact h.half ho2 (by
    cases q:({ p with gs:=vV t.1 (D.bl true) p.gs }:Pt).left with
    |nil=>exact absurd q h1
    |cons a b=>simp)
def ze6{d:Nat}{ps:List Pt}{rk:List (Int × D)}(ht:Tran d ps [] rk)(hh:zs2 ps)(h:∀x,x ∉ names ps):ps=[]:=by
 cases ps with
 |nil=>rfl
 | cons p ps =>
  have e:p.left=[]:=by
   cases q:p.left with
   |nil=>rfl
   |cons t l=>exact absurd (wT.mpr ⟨p,zo,zO (by rw[q];exact zo)⟩) (h t.1)
  have h1:=ht.gl p zo;have h2:=hh p zo;rw[e] at h1;simp at h1;lia
def nmI(i:Nat):Int:=((7*i%311:Nat):Int)
def nmL(m:Nat):List Int:=(List.range m).map nmI
def zb2{i j:Nat}(hi:i<311)(hj:j<311)(h:nmI i=nmI j):i=j:=by unfold nmI at h;lia
def Us{ps qs:List Pt}(hn:(ps.map (·.r)).Nodup)(hp:qs.Perm ps)(hs:qs.Pairwise λp q=>q.r<=p.r)(hb:ps.Pairwise λp q=>p.r<q.r):qs=ps.reverse:=by
 have hn2:(qs.map (·.r)).Nodup:=(hp.map _).nodup_iff.mpr hn
 have hs2:qs.Pairwise λp q=>q.r<p.r:=by
  rw[List.Nodup,xV] at hn2
  exact(hs.and hn2).imp λh=>by lia
 exact jw (lt:=λp q:Pt=>q.r<p.r) (λa h=>by lia) (λa b c h1 h2=>by lia) (hp.trans (yh _).symm) hs2 (wW.mpr hb)
def Bin.up{r:Nat}{ps:List Pt}{xs:List Thing}(h:Bin r ps xs):ps.Pairwise λp q=>p.r<q.r:=by
 induction h with
 |nil=>exact .nil
 |skip _ ih=>exact ih
 |@one r p ps xs hb e _ _ ih=>exact .cons (λq hq=>by have:=hb.ge q hq;lia) ih
def Bin.few{r:Nat}{ps:List Pt}{xs:List Thing}(h:Bin r ps xs):ps≠[]->2^(r+ps.length-1)<=xs.length:=by
 induction h with
 |nil=>exact λh=>absurd rfl h
 |@skip r ps xs _ ih=>
  intro h
  exact zw (Nat.pow_le_pow_right w5 w5) (ih h)
 | @one r p ps xs _ _ _ hl ih =>
  intro _;rw[zm,zu]
  by_cases h:ps=[]
  ·subst h
   rw[show r+(([]:List Pt).length+1)-1=r by simp,hl];lia
  ·have := ih h
   rw[show r+(ps.length+1)-1=r+1+ps.length-1 by lia];lia
structure JCo(CP CK k br ro:Addr)(d many:Nat)(a0 a1:Option D)(i:Nat)(rho:Rho)(n':Nat):Prop where
 hk:kOf n'=2
 he:∃(m:Nat) (ps qs:List Pt) (xs:List Thing) (rk:List (Int × D)) (z z1:Option D),rho=[a0,a1,some .st,some (.int (d:Int)),some (.int (many:Int)),some (.lst ((nmL many).map D.int)),some (.rf k),some (.int (m:Int)),z,z1]/\KAt CP CK d n' k br ro m ps rk/\Tran d ps [] rk/\rk.length<=m/\ps.Perm qs/\Bin 0 qs xs/\xs.map (·.1)=(nmL many).take i/\xs.length=i/\yR ps<=i/\zs2 ps /\
  (∀R,i<2^(R+1)->m+wts R ps<=i*(1+R))/\∀x,x∈names ps↔x∈(nmL many).take i
structure JGo(CP CK k br ro:Addr)(d many:Nat)(l:List Int)(a0 a1:Option D)(i:Nat)(rho:Rho)(n':Nat):Prop where
 hk:kOf n'=2
 he:∃(m:Nat) (ps:List Pt) (rk:List (Int × D)) (a7 z z1:Option D),rho=[a0,a1,some .st,some (.int (d:Int)),some (.int (many:Int)),some (.lst ((nmL many).map D.int)),some (.rf k),a7,z,z1]/\KAt CP CK d n' k br ro m ps rk/\Tran d ps [] rk/\rk.length<=m/\yR ps<=many/\zs2 ps /\
  (∀R,many<2^(R+1)->m+wts R ps<=(many+i)*(1+R))/\∀x,x∈names ps↔x∈l.drop i
def Ub(ns:List Int):YZ (wC ns)=true:=WI.mpr λe he=>by
 obtain⟨x,_,rfl⟩:=zK.mp he;rfl
structure JOut(ns:List Int)(n:Nat)(i:Nat)(rho:Rho)(n':Nat):Prop where
 hn:n'=n
 he:∃a b c d e f g h j,rho=[some (wC ns),a,b,c,d,e,f,g,h,j]
section
variable {P:Program}{w:World}{K:W.Frag}{mg:Str->Option Value}{base:Heap}{CP CK:Addr}
abbrev Xs:Stmt:=top 32
abbrev xo9:List Str:=["_law_script","_law_k","_law_left_here","_law_d","_law_many","_law_names","_law_kept","_law_made","_law_m","_law_name"]
def qt:FnScope xo9 ["_law_script"] (xo Xs):=⟨rfl,rfl,rfl,x4,rfl,x4,x4⟩
def zo9:("_law_name" :: ["_law_script","_law_k","_law_left_here","_law_d","_law_many","_law_names","_law_kept","_law_made","_law_m","_law_name'"]:List Str).Nodup:=x4
def zQ0(T:Blt mg)(F:Fun K "law" "law" Xs f fd)(MK_Kept:MkeC P w K mg base CK "Kept" 1 1 (Vz CK))(M_come:MthC P w K mg base CK "come" 17 1 (Qk CP CK))(M_go:MthC P w K mg base CK "go" 18 1 (zV6 CP CK))(M_made:MthC P w K mg base CK "made" 1 0 (UV CP CK))(M_parts:MthC P w K mg base CK "parts" 2 0 (jJ CP CK))(M_house:MthC P w K mg base CK "house" 2 0 (jv CP CK))(Y_left:Fn P w K mg base "_law_left" 2 2 Qj)(Y_pick:Fn P w K mg base "_law_pick" 1 2 ZF)(Y_of:Fn P w K mg base "_law_of" 2 2 zJ9)(Y_thing:Fn P w K mg base "_law_thing" 4 4 Vw)(Y_due:Fn P w K mg base "_law_due" 1 1 zj6)(Y_greatest:Fn P w K mg base "_law_greatest" 1 1 jM)(F_most_made:Fn P w K mg base "most_made" 1 2 UU):FnOk P w K mg base CX0 20 f fd ["_law_script"] (Wg K):=by
 refine Fun.okLaw F qt 2 (λ_ _ _ s H E hr=>(zV (XA (m:=10) PassesOwn.never rfl (XB T.range (zc (wP (Vg rfl) zg7 T.max zh9 (zc zZ (zc (wP (Vf rfl) zg6 T.min zh8 (zc zZ (zc (wP wV kY T.len qa (zc (zq 0) zE)) zE))) zE))) zE)) (wy (i:=1) qt.nd rfl (lo rfl) w6)
  (QN (i:=2) rfl qt.nd rfl (lo rfl) Y_left (hr.mono w6) rfl (zc (zq 0) (zc (zq 1) zE)) (λc Z H0=>(zV (yJ (i:=3) qt.nd rfl (lo rfl) (kj zZ (vp Y_pick (hr.mono w6) rfl (zc (zq 2) (zc zZ zE)))))
  (zV (yJ (i:=4) qt.nd rfl (lo rfl) (vp Y_of (hr.mono w6) rfl (zc (zq 2) (zc (Zo (zc zZ (zc zZ (zc zZ (zc zZ (zc zZ (zc zZ (zc zZ (zc zZ (zc (jX kX jU (Zo (zc zZ (zc zZ zE))) (yB Vj zg8 T.int zi1 (zc (za3 VV VI (zq 3) zZ (vb _)) zE)) (λ_ _=>rfl)) zE)))))))))) zE))))
  (zV (kf (yQ VW VJ (zq 3) zZ (vb _)) (xk (yJ (i:=4) qt.nd rfl (lo rfl) (wP (Vf rfl) zg6 T.min zh8 (zc zZ (zc (zq 4) zE))))) yS)
  (zV (jf (i:=5) qt.nd rfl (lo rfl) (own:=["_law_name"]) (M:=["_law_script","_law_k","_law_left_here","_law_d","_law_many","_law_names","_law_kept","_law_made","_law_m","_law_name'"]) (vW (by rfl)) rfl (XB T.range (zc (zq 4) zE)) (λ_ _ _ _=>(wy (i:=0) zo9 rfl (lo rfl) w6)) (λ_ _ _ _=>yP) (λ_ _ _ _=>(kH (qv zZ (zq 0)) zZ)))
  (zV (Kk (i:=6) (j:=7) rfl qt.nd rfl rfl w6 rfl rfl (zc (Ks MK_Kept (hr.mono w6) rfl (zc (zq 3) zE)) (zc zZ zE)))
  (zV (XA (m:=10) PassesOwn.never rfl (zm4 rfl T.enum (zc (zq 5) zE)) (ZU (k:=2) rfl rfl (yU (wy (i:=8) qt.nd rfl (lo rfl) w6) (yU (wy (i:=9) qt.nd rfl (lo rfl) w6) jC)))
  (zV (jz (qN M_come (hr.mono w6) rfl (zq 6) (zc (vp Y_thing (hr.mono w6) rfl (zc (zq 2) (zc (zq 9) (zc (zq 3) (zc (za3 VW VJ (kH (zq 8) zZ) zZ (vb _)) zE))))) zE)))
  (zV (yJ (i:=7) qt.nd rfl (lo rfl) (kj (zq 7) (vp Y_greatest (hr.mono w6) rfl (zc (kj (zq 8) zZ) zE))))
  (zV (kf (PWD.pt (Kh (yQ xl9 xc8 (vA M_made (hr.mono w6) rfl (zq 6)) (zq 7) (vb _)) (VL (yQ VV VI (zq 7) (vp F_most_made (hr.mono w6) rfl (zc (kj (zq 8) zZ) (zc zZ zE))) (vb _))))) (xk (wG Jq)) yS)
  (xk (kf (PWD.pt (zz5 (PWD.pt (Kh (yQ (zu4 hr) (zt1 rfl) (kH (zq 8) zZ) zZ (vb _)) (VL (yQ (zu4 hr) (zt1 rfl) (kj (zq 8) zZ) (zq 4) (vb _))))) (zl9 (yQ (Ku hr) (Kc rfl) (vA M_parts (hr.mono w6) rfl (zq 6)) (vp Y_due (hr.mono w6) rfl (zc (QZ rfl (zq 5) qg (qf (kj (zq 8) zZ))) zE)) (vb _))))) (xk (wG Jq)) yS))))))
  (zV (kf (yQ VV VI (zq 4) zZ (vb _)) (xk zm1) yS)
  (zV (XA (m:=10) PassesOwn.never rfl (vg rfl (zn4 rfl (zq 5) (vp Y_of (hr.mono w6) rfl (zc (zq 2) (zc (Zo (zc zZ (zc (za1 zZ) zE))) zE))))) (wy (i:=9) qt.nd rfl (lo rfl) w6)
  (xk (jz (qN M_go (hr.mono w6) rfl (zq 6) (zc (zq 9) zE)))))
  (xk (kf (PWD.pt (Kh (yQ (Ku hr) (Kc rfl) (vA M_parts (hr.mono w6) rfl (zq 6)) (kS zE) (vb _)) (Kh (yQ (Ku hr) (Kc rfl) (vA M_house (hr.mono w6) rfl (zq 6)) (kS (zc (zq 3) (zc (kS zE) zE))) (vb _)) (VL (yQ VV VI (vA M_made (hr.mono w6) rfl (zq 6)) (vp F_most_made (hr.mono w6) rfl (zc (zq 4) (zc (zq 4) zE))) (vb _)))))) (xk (wG Jq)) yS)))))))))))))
  (xk (wG Jq)))) ?_
 intro ns hns;have nsc:yL (wC ns)=true:=id rfl;simp[ya,nsc]
 generalize hJ:(if 1<if (ns.length:Int)<3 then(ns.length:Int) else 3 then if (ns.length:Int)<3 then(ns.length:Int) else 3 else 1)=J
 have hJ1:1<=J/\J<=3:=by rw[<- hJ];split<;>(try split)<;>lia
 clear hJ
 refine⟨w5,w5,JOut ns 2,⟨rfl,_,_,_,_,_,_,_,_,_,rfl⟩,?_,?_⟩
 ·rintro i d' rho m e ⟨rfl, a, b, c, d1, e1, f1, g1, h1, j1, rfl⟩;obtain⟨hi,rfl⟩:=zL6 e;simp
  refine Jw ns (by simp) (i:Int) (by simp[nsc]) (λP P' h=>by simp[nsc];exact h _ _) ?_
  refine⟨ns,_,rfl,hns,w5,w5,λx y hx hy hy2=>⟨[x,y],rfl,rfl,by simp[hx,hy],by simp[hy2],?_⟩⟩
  have hs:Yn (some (wC ns))=some (wC ns):=zd3 (Ub ns);generalize hBX:zW0 (zW1 6 7 _) _=BX;simp[vh,hs];generalize Yn (some (D.int (i:Int)))=k1;generalize Yn c=k2;generalize Yn d1=k3;generalize Yn e1=k4;generalize Yn f1=k5;generalize Yn g1=k6;generalize Yn h1=k7;generalize Yn j1=k8
  refine vt zF5 w6 w6 λk0 hk0 hk0'=>?_
  obtain⟨d,hd⟩:=wI (show 0<=1+k0 by lia)
  have hd1:1<=d:=w5
  have hd4:d<=4:=w5
  simp;rw[hd]
  have run:∀(FE:EndsD) (many:Nat),many<=290->(∀(b1 b2 b3 b4 b5 b6 b7 b8 b9:Option D) (n':Nat),FE.nx [some (wC ns),b1,b2,b3,b4,b5,b6,b7,b8,b9] n')->(∀(b1 b2 b3 b4 b5 b6 b7 b8 b9:Option D) (n':Nat),FE.ct [some (wC ns),b1,b2,b3,b4,b5,b6,b7,b8,b9] n') ->
    Vd 1 (KG 0) zJ3 (xv7 (xv6 (dC (D.int 7)) (JW 0)) (dC (D.int 311))) [some (wC ns),k1,some D.st,some (D.int (d:Int)),some (D.int (many:Int)),k4,k5,k6,k7,k8]
     (λd_6 n1=>BX FE [some (wC ns),k1,some D.st,some (D.int (d:Int)),some (D.int (many:Int)),some d_6,k5,k6,k7,k8] n1) (VG 0 many) 2:=λFE many hmany hnx hct=>by
   rw[UZ]
   refine yK (λi:Nat=>D.int (i:Int)) (λi=>.int (nmI i)) (List.range many) (yN (by rw[yD];lia)) (λi hi R hR=>?_) ?_
   ·have hR' : R (.int (7 * (i : Int) % 311)) 2 := by have := hR; unfold nmI at this; simpa using this
    simp
    exact⟨.inl ⟨w6,w6⟩,hR'⟩
   ·rw [show ((List.range many).map λi => D.int (nmI i)) = (nmL many).map D.int by unfold nmL; rw [xh]; rfl]
    subst hBX;generalize hG:zW0 (sIf (YR (dOp xd5 (JW 4) (dC (D.int 200)))) zy0 zk5) _=G;simp;intro a ha;have pl0:plC (.ins CK [])=true:=rfl;refine⟨a,d,rfl,yl pl0,λn1 br ro hK hk0=>⟨rfl,?_⟩⟩;have hk:kOf n1=2:=hk0.trans ((ql pl0).trans zF5)
    have lN:(nmL many).length=many:=by unfold nmL;rw[zn,yD]
    have hK':=hK CP
    refine⟨JCo CP CK a br ro d many (some (wC ns)) k1,⟨hk,0,[],[],[],[],k7,k8,rfl,hK',⟨by simp,by simp,by simp,by simp[names],by simp,by simp,λx hx=>by simp[vy] at hx⟩,by simp,.refl _,.nil,rfl,rfl,by simp[yR],λp hp=>by simp at hp,λR _=>by simp[wts],λx=>by simp[names]⟩,?_,?_⟩
    ·rintro j dd rho n2 ej ⟨hk2, m, ps, qs, xs, rk, z, z1, rfl, hA, ht, hrk, hpq, hB, hxn, hxl, hsz, hH, hR, hnm⟩
     have hj:j<many:=by
      have h:=(zP.mp ej).1;unfold Vb at h
      simpa [lN] using h
     have eN:(nmL many)[j]?=some (nmI j):=by unfold nmL;rw[zB,List.getElem?_range hj];rfl
     have ed:dd=.tup [.int (j:Int),.int (nmI j)]:=by
      unfold Vb at ej;rw[zB,List.getElem?_zipIdx,zB,eN] at ej
      simpa using ej.symm
     subst ed;clear ej
     have tk:(nmL many).take (j+1)=(nmL many).take j++[nmI j]:=by rw[xq,eN];rfl
     have nin:nmI j ∉ names ps:=λhm=>by
      have h:=(hnm _).mp hm;unfold nmL at h;rw[<- yj,List.take_range] at h;obtain⟨i2,hi2,e2⟩:=zK.mp h;have h3:=yn.mp hi2
      have:=zb2 (i:=i2) (j:=j) w5 w5 e2
      lia
     have hm:m<=100000:=by
      have h1:=hR (lg j) zF3;have h2:lg j<=j:=xm7
      have h3:j*(1+lg j)<=290*(1+290):=Nat.mul_le_mul w5 w5
      lia
     simp;refine xx hA.i ⟨ku,?_⟩;refine⟨nmI j,d,_,rfl,hk2,hd4,λpl z9 hpl=>?_⟩
     refine⟨d,a,br,ro,m,ps,rk,(nmI j,pl,z9),rfl,hd1,hd4,hA,ht,nin,hpl,w5,hrk,hm,λn3 ps' rk' L g1 g2 g3 g4 gM=>?_⟩
     have g5:=gM.size ht.rn;have g6:=λR h=>gM.cost ht.rn (R:=R) h;have g7:=gM.names ht.rn;simp only[Nat.pow_zero,zu,wK,Nat.zero_add,Nat.one_mul,Nat.sub_zero] at g5 g6;obtain⟨qs0,hp0,hM0⟩:=gM.perm hpq;obtain⟨qs',hp1,hB',ff,hL,hmo,hmo2⟩:=hB.put (T:=[(nmI j,pl,z9)]) rfl hM0;have hpq':ps'.Perm qs':=hp0.trans hp1
     have hxn':(xs++[(nmI j,pl,z9)]).map (·.1)=(nmL many).take (j+1):=by rw[xS,hxn,tk];rfl
     have hxl':(xs++[(nmI j,pl,z9)]).length=j+1:=by rw[zm,hxl];rfl
     have hR':∀R,j+1<2^(R+1)->m+L.length+wts R ps'<=(j+1)*(1+R):=λR h=>by
      have a1:=hR R w5
      have a2:=g6 R w5
      rw[Nat.succ_mul];lia
     have h7:=hR' (lg (j+1)) zF3
     have h8:m+L.length<=XG (j+1) 0:=by unfold XG;rw[Nat.add_zero];lia
     simp
     rw[show(j:Int)+1=((j+1:Nat):Int) by simp]
     refine⟨j+1,rfl,w5,w5,λjj hj1 hj2=>?_⟩
     have ejj:2^jj=L.length:=by
      rw[hxl] at hmo hmo2;rw[Je hj1 hj2 hmo hmo2,hL]
     rw[ejj];simp
     rw[show(m:Int)+(L.length:Int)=((m+L.length:Nat):Int) by simp]
     refine xx g1.i ⟨ku,d,a,br,ro,_,ps',rk',rfl,g1,?_⟩;simp
     refine⟨j+1,0,rfl,w5,w5,?_⟩
     simp
     rw[if_neg w5]
     have nxt:JCo CP CK a br ro d many (some (wC ns)) k1 (j+1) [some (wC ns),k1,some D.st,some (D.int (d:Int)),some (D.int (many:Int)),some (D.lst ((nmL many).map D.int)),some (D.rf a),some (D.int ((m:Int)+(L.length:Int))),some (D.int (j:Int)),some (D.int (nmI j))] n3:=
      ⟨g2.trans hk2,m+L.length,ps',qs',xs++[(nmI j,pl,z9)],rk',_,_,by rw[Int.natCast_add],g1,g3,g4,hpq',hB',hxn',hxl',by lia,gM.half hH (by simp),hR',λx=>by
       rw[g7 x,tk,zN,zN,hnm x];simp only[zy,xT]
       exact Or.comm⟩
     have blk:Zq CK n3 a λfs=>qF "parts" fs=none/\jJ CP CK [D.rf a] n3 λd1 n1=>zj6 [D.lst (Yu ((nmL many).map D.int) none (some ((j:Int)+1)))] n1 λd2 n2=>okE d1 20=true/\okE d2 20=true/\if eqD d1 d2=true then JCo CP CK a br ro d many (some (wC ns)) k1 (j+1) [some (wC ns),k1,some D.st,some (D.int (d:Int)),some (D.int (many:Int)),some (D.lst ((nmL many).map D.int)),some (D.rf a),some (D.int ((m:Int)+(L.length:Int))),some (D.int (j:Int)),some (D.int (nmI j))] n2 else FE.rt (D.bl false) n2:=by
      have l64:ps'.length<64:=by
       rw[hpq'.length_eq]
       by_cases h:qs'=[]
       ·rw[h];decide
       ·have h2 := hB'.few h;rw[hxl'] at h2
        have h3:2^(0+qs'.length-1)<2^9:=w5
        have:=(Nat.pow_lt_pow_iff_right (by decide:1<2)).mp h3
        lia
      refine xx g1.i ⟨ku,d,a,br,ro,_,ps',rk',rfl,g1,g3.rn,λp hp=>by have:=(g3.gu p hp).2;have:=kO hp;lia,l64,λrs hrs hfall=>?_⟩
      have ers:=Us hB'.rn (hrs.trans hpq') hfall hB'.up;subst ers
      rw[show(j:Int)+1=((j+1:Nat):Int) by simp,zg5 _ _ (by rw[zn,lN];lia),<- yj,<- hxn']
      refine⟨qs',xs++[(nmI j,pl,z9)],by rw[xh];rfl,hB',w5,Yc _,Yc _,?_⟩
      rw[if_pos (KJ _ 20 (Yc _))];exact nxt
     refine⟨rfl,rfl,?_⟩
     split
     ·exact blk
     ·refine ⟨rfl, rfl, ?_⟩
      split
      ·exact blk
      ·exact nxt
    ·rintro rho n2 ⟨hk2, m, ps, qs, xs, rk, z, z1, rfl, hA, ht, hrk, hpq, hB, hxn, hxl, hsz, hH, hR, hnm⟩;subst hG;simp
     have lz:(Vb ((nmL many).map D.int)).length=many:=by unfold Vb;simp[lN]
     rw[lz] at hxn hxl hsz hR hnm
     have tkm:(nmL many).take many=nmL many:=wa w5
     rw[tkm] at hxn hnm
     split
     ·exact hct _ _ _ _ _ _ _ _ _ _
     ·refine ⟨[1, -1], rfl, hk2, by simp, by simp, λst hst => ?_⟩
      have going:∀(F2:EndsD) (l:List Int),(∀x,x∈l↔x∈nmL many)->l.Nodup->l.length=many->(∀(b1 b2 b3 b4 b5 b6 b7 b8 b9:Option D) (n':Nat),F2.nx [some (wC ns),b1,b2,b3,b4,b5,b6,b7,b8,b9] n') ->
        zu9 (KG 9) (zx9 (Zp CK (Str.ofString "go") 1 (zV6 CP CK) (JW 6) (UH (JW 9) zi7)))
         { nx:=sIf (bOr (YR (dOp zl5 (Zp CK (Str.ofString "parts") 0 (jJ CP CK) (JW 6) zi7) (zU0 zi7))) (bOr (YR (dOp zl5 (Zp CK (Str.ofString "house") 0 (jv CP CK) (JW 6) zi7) (zU0 (UH (JW 3) (UH (zU0 zi7) zi7))))) (YR (dOp xd5 (Zp CK (Str.ofString "made") 0 (UV CP CK) (JW 6) zi7) (dFn 2 UU (UH (JW 4) (UH (JW 4) zi7))))))) (xc4 (dC (D.bl false))) zk5 F2,rt:=F2.rt,bk:=F2.bk,ct:=F2.ct }
         [some (wC ns),k1,some D.st,some (D.int (d:Int)),some (D.int (many:Int)),some (D.lst ((nmL many).map D.int)),some (D.rf a),some (D.int (m:Int)),z,z1] (l.map D.int) n2:=λF2 l hl hln hll hF2=>by
       refine⟨JGo CP CK a br ro d many l (some (wC ns)) k1,⟨hk2,m,ps,rk,_,z,z1,rfl,hA,ht,hrk,hsz,hH,λR h=>hR R h,λx=>by rw[hnm x,<- hl x];rfl⟩,?_,?_⟩
       ·rintro j2 dd rho n3 ej ⟨hk3, m3, ps3, rk3, b7, z3, z13, rfl, hA3, ht3, hrk3, hsz3, hH3, hR3, hnm3⟩;rw[zB] at ej;obtain⟨x,ex,rfl⟩:=wv.mp ej;have hj2:j2<l.length:=(zP.mp ex).1
        have dr:l.drop j2=x::l.drop (j2+1):=by
         rw[wY hj2]
         congr 1
         rw[zj hj2] at ex;exact zF ex
        have nx:x ∉ l.drop (j2+1):=by
         have h:=(List.drop_sublist j2 l).nodup hln;rw[dr] at h;exact(xn.mp h).1
        have hm3:m3<=100000:=by
         have h1:=hR3 8 w5
         lia
        simp
        refine xx hA3.i ⟨ku,d,a,br,ro,m3,ps3,rk3,x,rfl,hd1,hd4,hA3,ht3,(hnm3 x).mpr (by rw[dr];exact zo),w5,hrk3,hm3,λn4 ps' rk' L g1 g2 g3 g4 gM=>?_⟩
        obtain⟨q5,q7,q6⟩:=gM.all ht3
        refine⟨g2.trans hk3,m3+L.length,ps',rk',_,_,_,rfl,g1,g3,g4,w5,gM.half ht3 hH3,λR h=>?_,λy=>?_⟩
        ·have a1 := hR3 R h
         have a2:=q6 R w5
         rw[<- Nat.add_assoc,Nat.succ_mul];lia
        ·rw [q7 y, hnm3 y, dr, zh]
         constructor
         ·rintro ⟨h1 | h1, h2⟩
          ·exact absurd h1 h2
          ·exact h1
         ·intro h1;exact⟨.inr h1,λe=>nx (e ▸ h1)⟩
       ·rintro rho n3 ⟨hk3, m3, ps3, rk3, b7, z3, z13, rfl, hA3, ht3, hrk3, hsz3, hH3, hR3, hnm3⟩
        rw[zn,hll,List.drop_of_length_le w5] at hnm3
        have e0:ps3=[]:=ze6 ht3 hH3 λx hx=>by have:=(hnm3 x).mp hx;simp at this
        subst e0;simp
        have par:∀R:D->Nat->Prop,R (.tup []) n3->jJ CP CK [.rf a] n3 R:=λR h=>⟨d,a,br,ro,m3,[],rk3,rfl,hA3,by simp,by simp,by simp,λqs hq _=>by rw[List.perm_nil.mp hq];exact h⟩
        have hou:∀R:D->Nat->Prop,R (.tup [.int (d:Int),.tup []]) n3->jv CP CK [.rf a] n3 R:=λR h=>⟨d,a,br,ro,m3,[],rk3,rfl,hA3,ht3,by simp[yR],by simp,λrs hq _=>by rw[List.perm_nil.mp hq];exact h⟩
        refine xx hA3.i ⟨ku,par _ ⟨rfl,rfl,?_⟩⟩
        rw[if_pos (by simp[eqD,jI])]
        refine xx hA3.i ⟨ku,hou _ ⟨rfl,rfl,?_⟩⟩
        rw[if_pos (by simp[eqD,jI])]
        refine xx hA3.i ⟨ku,d,a,br,ro,m3,[],rk3,rfl,hA3,many,many,rfl,w5,w5,?_⟩
        have h1:=hR3 (lg many) zF3
        have h2:m3<=XG many many:=by
         unfold XG;rw[zn,hll] at h1;lia
        simp
        rw[if_neg w5]
        exact hF2 _ _ _ _ _ _ _ _ _ _
      have hNn:(nmL many).Nodup:=by
       unfold nmL;rw[List.Nodup,xV];refine List.Pairwise.imp_of_mem ?_ List.nodup_range;intro x y hx hy hne e
       exact hne (zb2 (by have:=yn.mp hx;lia) (by have:=yn.mp hy;lia) e)
      simp only[zh,wb,or_false] at hst
      rcases hst with rfl |rfl
      ·exact .inl ⟨rfl,going FE (nmL many) (λ_=>Iff.rfl) hNn lN hnx⟩
      ·refine .inr ⟨rfl, ?_⟩;rw[show VA true ((nmL many).map D.int)=((nmL many).reverse).map D.int from(List.map_reverse ..).symm]
       exact going FE (nmL many).reverse (λ_=>wc) ((yh _).nodup_iff.mpr hNn) (by rw[List.length_reverse,lN]) hnx
  obtain⟨v,hv,hv0,hv1⟩:∃v:Int,atI [D.int 290,D.int 60] (if 1<(d:Int) then 1 else 0)=some (.int v)/\0<=v/\v<=290:=by
   split
   ·exact⟨60,rfl,w6,w6⟩
   ·exact⟨290,rfl,w6,w6⟩
  refine⟨_,hv,yN w6,[0,1,2,7,16,33,60,200,v],rfl,zF5,by simp,by simp,λmn hmn=>?_⟩
  obtain⟨many,rfl⟩:=wI (show 0<=mn by simp at hmn;lia)
  have hmany:many<=290:=by simp at hmn;lia
  simp
  split
  ·obtain ⟨m2, hm2, hm3⟩ : ∃ m2 : Nat, m2 <= 290 /\ (if (many : Int) < 60 then (many : Int) else 60) = (m2 : Int) := by
    split
    ·exact⟨many,hmany,rfl⟩
    ·exact⟨60,w6,rfl⟩
   rw[hm3]
   refine⟨w5,w5,run _ m2 hm2 ?_ ?_⟩
   ·intros;exact⟨rfl,_,_,_,_,_,_,_,_,_,by rw[zy,hs];rfl⟩
   ·intros;exact⟨rfl,_,_,_,_,_,_,_,_,_,by rw[zy,hs];rfl⟩
  ·refine ⟨w5, run _ many hmany ?_ ?_⟩
   ·intros;exact⟨rfl,_,_,_,_,_,_,_,_,_,by rw[zy,hs];rfl⟩
   ·intros;exact⟨rfl,_,_,_,_,_,_,_,_,_,by rw[zy,hs];rfl⟩
 ·rintro rho n' ⟨rfl,a,b,c,d1,e1,f1,g1,h1,j1,rfl⟩;simp
end
def vL{α:Type}{us:List α}{c:Nat}(h:us.length=c+1):∃a r,us=a::r/\r.length=c:=by
 cases us with
 |nil=>cases h
 |cons a r=>exact⟨a,r,rfl,Nat.succ.inj h⟩
def Jd{fd:FuncData}{ps:List Str}{us:List Value}(h:us.length=1)(q:∀x0,bindArgs fd ⟨[x0],[]⟩=pure (ps.zip [x0])):bindArgs fd ⟨us,[]⟩=pure (ps.zip us):=by
 obtain⟨x0,u0,rfl,h0⟩:=vL h;obtain rfl:=wn.mp h0;exact q x0
def Jc{fd:FuncData}{ps:List Str}{us:List Value}(h:us.length=2)(q:∀x0 x1,bindArgs fd ⟨[x0,x1],[]⟩=pure (ps.zip [x0,x1])):bindArgs fd ⟨us,[]⟩=pure (ps.zip us):=by
 obtain⟨x0,u0,rfl,h0⟩:=vL h;obtain⟨x1,u1,rfl,h1⟩:=vL h0;obtain rfl:=wn.mp h1;exact q x0 x1
def xa8{fd:FuncData}{ps:List Str}{us:List Value}(h:us.length=3)(q:∀x0 x1 x2,bindArgs fd ⟨[x0,x1,x2],[]⟩=pure (ps.zip [x0,x1,x2])):bindArgs fd ⟨us,[]⟩=pure (ps.zip us):=by
 obtain⟨x0,u0,rfl,h0⟩:=vL h;obtain⟨x1,u1,rfl,h1⟩:=vL h0;obtain⟨x2,u2,rfl,h2⟩:=vL h1;obtain rfl:=wn.mp h2;exact q x0 x1 x2
def xp0{fd:FuncData}{ps:List Str}{us:List Value}(h:us.length=4)(q:∀x0 x1 x2 x3,bindArgs fd ⟨[x0,x1,x2,x3],[]⟩=pure (ps.zip [x0,x1,x2,x3])):bindArgs fd ⟨us,[]⟩=pure (ps.zip us):=by
 obtain⟨x0,u0,rfl,h0⟩:=vL h;obtain⟨x1,u1,rfl,h1⟩:=vL h0;obtain⟨x2,u2,rfl,h2⟩:=vL h1;obtain⟨x3,u3,rfl,h3⟩:=vL h2;obtain rfl:=wn.mp h3;exact q x0 x1 x2 x3
structure Dn(K:W.Frag)(x:Str)(st:Stmt):Prop where
 ex:∃(f:Addr) (fd:FuncData),W.nsIn K mainGlobals x=some (some (.ref f))/\Fun K x x st f fd
def dn{K:W.Frag}{x:Str}{st:Stmt}{f:Addr}{oc:Value}{od an:Option Addr}{osl:Array (Option Value)}{kV doc pm cdv ct:Value}(a:W.nsIn K mainGlobals x=some (some (.ref f)))(l:K.lookup f=some ⟨oc,od,.func (W.fnOf x x (kz st) (vB st) (xo st) .none kV doc pm an cdv ct),osl⟩)(c:W.codeIn K cdv x=true)(k:W.keepIn K (.ref f)=true):Dn K x st:=⟨f,_,a,ze8 (st:=st) l c k⟩
def Dn.fn{P:Program}{w:World}{K:W.Frag}{mg:Str->Option Value}{base h:Heap}{x:Str}{st:Stmt}{kk k:Nat}{t:TF}{ps:List Str}(d:Dn K x st)(X:K.In h)(G:h.Ns mainGlobals mg)(b:∀(kV doc pm:Value) (an:Option Addr) (cdv ct:Value) (us:List Value),us.length=ps.length->bindArgs (W.fnOf x x (kz st) (vB st) (xo st) .none kV doc pm an cdv ct) ⟨us,[]⟩=pure (ps.zip us))(ok:∀(f:Addr) (fd:FuncData),Fun K x x st f fd->mg x=some (.ref f)->W.keepIn K (.ref f)=true->Binds K fd ps []->FnOk P w K mg base CX0 kk f fd ps (spD K k t)):Fn P w K mg base x kk k t:=by
 obtain⟨f,fd,a,F⟩:=d.ex;have m:=W.mg_of X G a;have B:=F.binds b;exact⟨f,fd,ps,ok f fd F m F.kp B,m,F.kp,B⟩
structure Dm(K:W.Frag)(C:Addr)(m qual:Str)(st:Stmt):Prop where
 ex:∃(f:Addr) (fd:FuncData),Meth K C m f/\Fun K m qual st f fd
def dm{K:W.Frag}{C:Addr}{m qual:Str}{st:Stmt}{f:Addr}{oc:Value}{od an:Option Addr}{osl:Array (Option Value)}{kV doc pm cdv ct:Value}(a:W.findIn K (.ref C) m=some (some (.ref f)))(i:W.isFn K (.ref f)=true)(l:K.lookup f=some ⟨oc,od,.func (W.fnOf m qual (kz st) (vB st) (xo st) .none kV doc pm an cdv ct),osl⟩)(c:W.codeIn K cdv qual=true)(k:W.keepIn K (.ref f)=true):Dm K C m qual st:=⟨f,_,⟨a,i,k⟩,ze8 (st:=st) l c k⟩
def Dm.mth{P:Program}{w:World}{K:W.Frag}{mg:Str->Option Value}{base:Heap}{C:Addr}{m qual:Str}{st:Stmt}{kk k:Nat}{t:TF}{ps:List Str}(d:Dm K C m qual st)(c:Cls K C)(b:∀(kV doc pm:Value) (an:Option Addr) (cdv ct:Value) (us:List Value),us.length=ps.length->bindArgs (W.fnOf m qual (kz st) (vB st) (xo st) .none kV doc pm an cdv ct) ⟨us,[]⟩=pure (ps.zip us))(ok:∀(f:Addr) (fd:FuncData),Fun K m qual st f fd->FnOk P w K mg base CX0 kk f fd ps (spD K (k+1) t)):MthC P w K mg base C m kk k t:=by
 obtain⟨f,fd,M,F⟩:=d.ex;exact⟨f,fd,ps,ok f fd F,M,c,F.binds b⟩
def Dm.mke{P:Program}{w:World}{K:W.Frag}{mg:Str->Option Value}{base:Heap}{C:Addr}{x qual:Str}{st:Stmt}{kk k:Nat}{t:TF}{ps:List Str}(d:Dm K C "__init__" qual st)(mk:W.makesIn K C=true)(kc:W.keepIn K (.ref C)=true)(hm:mg x=some (.ref C))(b:∀(kV doc pm:Value) (an:Option Addr) (cdv ct:Value) (us:List Value),us.length=ps.length->bindArgs (W.fnOf "__init__" qual (kz st) (vB st) (xo st) .none kV doc pm an cdv ct) ⟨us,[]⟩=pure (ps.zip us))(ok:∀(f:Addr) (fd:FuncData),Fun K "__init__" qual st f fd->FnOk P w K mg base CX0 kk f fd ps (spD K (k+1) t)):MkeC P w K mg base C x kk k t:=by
 obtain⟨f,fd,M,F⟩:=d.ex;exact⟨f,fd,ps,ok f fd F,⟨mk,M.at_,M.fn,kc⟩,hm,F.binds b⟩
def all_mk{l:W.OpenLaw}{w:World}{K:W.Frag}{h:Heap}{mg:Str->Option Value}{fa f31:Addr}(X:K.In h)(G:h.Ns mainGlobals mg)(hfa:mg "law" = some (.ref fa))
  {od31 an31:Option Addr}{sl31:Array (Option Value)}{oc31 kV31 dc31 pm31 cd31 ct31:Value}
  {C_Part:Addr}
  {C_Kept:Addr}
  (d0:Dn K "things_by_name" vP)
  (d1:Dn K "names_by" jR)
  (d2:Dn K "names_in_order" vQ)
  (d3:Dn K "halved_up" qU)
  (d4:Dn K "bounds" Xu)
  (d5:Dn K "bounds_of" qV)
  (d6:Dn K "tree_of" ZK)
  (d7:Dn K "all_names" qW)
  (d8:Dn K "turns" VD)
  (d9:Dn K "rank_for" jQ)
  (d10:Dn K "most_made" qT)
  (d11:Dm K C_Part "__init__" "Part.__init__" jb)
  (d12:Dm K C_Part "left" "Part.left" ja)
  (d13:Dm K C_Kept "__init__" "Kept.__init__" jd)
  (d14:Dm K C_Kept "put_in" "Kept.put_in" qd)
  (d15:Dm K C_Kept "make_anew" "Kept.make_anew" vR)
  (d16:Dm K C_Kept "come" "Kept.come" je)
  (d17:Dm K C_Kept "go" "Kept.go" ZM)
  (d18:Dm K C_Kept "made" "Kept.made" jc)
  (d19:Dm K C_Part "told" "Part.told" qZ)
  (d20:Dm K C_Kept "ranks" "Kept.ranks" qA)
  (d21:Dm K C_Kept "parts" "Kept.parts" qB)
  (d22:Dm K C_Kept "house" "Kept.house" qC)
  (d23:Dn K "_law_cell_at" kK)
  (d24:Dn K "_law_left" qY)
  (d25:Dn K "_law_pick" qX)
  (d26:Dn K "_law_of" ZL)
  (d27:Dn K "_law_number" qc)
  (d28:Dn K "_law_thing" qz)
  (d29:Dn K "_law_due" jS)
  (d30:Dn K "_law_greatest" ke)
  (a31:W.nsIn K mainGlobals "law" = some (some (.ref f31))) (l31:K.lookup f31=some ⟨oc31,od31,.func (W.fnOf "law" "law" (kz Xs) (vB Xs) (xo Xs) .none kV31 dc31 pm31 an31 cd31 ct31),sl31⟩) (c31:W.codeIn K cd31 "law" = true) (k31:W.keepIn K (.ref f31)=true)
  (cn0:W.nsIn K mainGlobals "Part" = some (some (.ref C_Part)))
  (cn1:W.nsIn K mainGlobals "Kept" = some (some (.ref C_Kept)))
  (xh_pgP:W.plainGet K C_Part Str.empty=true)
  (xh_hdP:W.hasDictIn K C_Part=true)
  (xh_poP:W.plainOver K C_Part=true)
  (xh_saP:W.findIn K (.ref C_Part) "__setattr__" = some (some (.builtin "object.__setattr__")))
  (xh_mkPart:W.makesIn K C_Part=true)
  (xh_kcPart:W.keepIn K (.ref C_Part)=true)
  (xh_ptg:W.findIn K (.ref C_Part) "things" = some none)
  (xh_phd:W.findIn K (.ref C_Part) "held" = some none)
  (xh_ptr:W.findIn K (.ref C_Part) "tree" = some none)
  (xh_pgn:W.findIn K (.ref C_Part) "gone" = some none)
  (xh_pgK:W.plainGet K C_Kept Str.empty=true)
  (xh_hdK:W.hasDictIn K C_Kept=true)
  (xh_poK:W.plainOver K C_Kept=true)
  (xh_saK:W.findIn K (.ref C_Kept) "__setattr__" = some (some (.builtin "object.__setattr__")))
  (xh_mkKept:W.makesIn K C_Kept=true)
  (xh_kcKept:W.keepIn K (.ref C_Kept)=true)
  (xh_kd:W.findIn K (.ref C_Kept) "d" = some none)
  (xh_kb:W.findIn K (.ref C_Kept) "by_rank" = some none)
  (xh_kr:W.findIn K (.ref C_Kept) "rank_of" = some none)
  (xh_km:W.findIn K (.ref C_Kept) "so_many_made" = some none)
  (z0:W.nsIn K mainGlobals "len" = some none) (z1:W.nsIn K mainGlobals "abs" = some none) (z2:W.nsIn K mainGlobals "all" = some none) (z3:W.nsIn K mainGlobals "any" = some none) (z4:W.nsIn K mainGlobals "isinstance" = some none) (z5:W.nsIn K mainGlobals "int" = some none) (z6:W.nsIn K mainGlobals "bool" = some none) (z7:W.nsIn K mainGlobals "str" = some none) (z8:W.nsIn K mainGlobals "tuple" = some none) (z9:W.nsIn K mainGlobals "list" = some none) (z10:W.nsIn K mainGlobals "range" = some none) (z11:W.nsIn K mainGlobals "zip" = some none) (z12:W.nsIn K mainGlobals "enumerate" = some none) (z13:W.nsIn K mainGlobals "max" = some none) (z14:W.nsIn K mainGlobals "min" = some none) (z15:W.nsIn K mainGlobals "sorted" = some none) :
  ∃fd:FuncData,(∀(s:Shared) (v:Value),BindsTo s fd ⟨[v],[]⟩ [("_law_script",v)])/\∀base:Heap,K.In base->base.Ns mainGlobals mg->base.NoDigits->FnOk l.prog w K mg base CX0 20 fa fd ["_law_script"] (Wg K):=by
 have e:=hfa.symm.trans (W.mg_of X G a31);cases e;have T:Blt mg:=⟨W.mg_none_of X G z0,W.mg_none_of X G z1,W.mg_none_of X G z2,W.mg_none_of X G z3,W.mg_none_of X G z4,W.mg_none_of X G z5,W.mg_none_of X G z6,W.mg_none_of X G z7,W.mg_none_of X G z8,W.mg_none_of X G z9,W.mg_none_of X G z10,W.mg_none_of X G z11,W.mg_none_of X G z12,W.mg_none_of X G z13,W.mg_none_of X G z14,W.mg_none_of X G z15⟩;have CX_Part:=W.mg_of X G cn0;have CX_Kept:=W.mg_of X G cn1;have CL_Part:Cls K C_Part:=⟨xh_pgP,xh_hdP,xh_poP,xh_saP⟩;have CL_Kept:Cls K C_Kept:=⟨xh_pgK,xh_hdK,xh_poK,xh_saK⟩;have NA_things:NoAttr K C_Part "things" := xh_ptg;have NA_held:NoAttr K C_Part "held" := xh_phd;have NA_tree:NoAttr K C_Part "tree" := xh_ptr;have NA_gone:NoAttr K C_Part "gone" := xh_pgn;have NA_d:NoAttr K C_Kept "d" := xh_kd;have NA_by_rank:NoAttr K C_Kept "by_rank" := xh_kb;have NA_rank_of:NoAttr K C_Kept "rank_of" := xh_kr;have NA_so_many_made:NoAttr K C_Kept "so_many_made" := xh_km;have U31:=ze8 (st:=Xs) l31 c31 k31;refine⟨W.fnOf "law" "law" (kz Xs) (vB Xs) (xo Xs) .none kV31 dc31 pm31 an31 cd31 ct31,λs v=>.of_eq rfl,λbase _ _ ND=>?_⟩;have F_things_by_name:Fn l.prog w K mg base "things_by_name" 1 1 zw9:=d0.fn X G (ps:=q1) (λ_ _ _ _ _ _ _ h=>Jd h λ_=>rfl) λ_ _ U M N B=>zP9 T U;have F_names_by:Fn l.prog w K mg base "names_by" 1 2 jK:=d1.fn X G (ps:=["things","i"]) (λ_ _ _ _ _ _ _ h=>Jc h λ_ _=>rfl) λ_ _ U M N B=>VX T U;have F_names_in_order:Fn l.prog w K mg base "names_in_order" 2 3 jL:=d2.fn X G (ps:=q4) (λ_ _ _ _ _ _ _ h=>xa8 h λ_ _ _=>rfl) λ_ _ U M N B=>VY U F_names_by;have F_halved_up:Fn l.prog w K mg base "halved_up" 1 1 qQ:=d3.fn X G (ps:=["count"]) (λ_ _ _ _ _ _ _ h=>Jd h λ_=>rfl) λ_ _ U M N B=>WE U;have F_bounds:Fn l.prog w K mg base "bounds" 1 1 ZH:=d4.fn X G (ps:=["places"]) (λ_ _ _ _ _ _ _ h=>Jd h λ_=>rfl) λ_ _ U M N B=>Jv T U;have F_bounds_of:Fn l.prog w K mg base "bounds_of" 2 2 qR:=d5.fn X G (ps:=q5) (λ_ _ _ _ _ _ _ h=>Jc h λ_ _=>rfl) λ_ _ U M N B=>WF U F_bounds;have F_tree_of:Fn l.prog w K mg base "tree_of" 12 4 (Wb 10):=d6.fn X G (ps:=q6) (λ_ _ _ _ _ _ _ h=>xp0 h λ_ _ _ _=>rfl) λ_ _ U M N B=>zD2 T U M N B F_bounds_of F_names_in_order F_halved_up 10;have F_all_names:Fn l.prog w K mg base "all_names" 1 1 qS:=d7.fn X G (ps:=q1) (λ_ _ _ _ _ _ _ h=>Jd h λ_=>rfl) λ_ _ U M N B=>WG T U;have F_turns:Fn l.prog w K mg base "turns" 13 1 Vv:=d8.fn X G (ps:=q1) (λ_ _ _ _ _ _ _ h=>Jd h λ_=>rfl) λ_ _ U M N B=>zn8 T U F_tree_of F_things_by_name F_all_names;have F_rank_for:Fn l.prog w K mg base "rank_for" 1 1 ZD:=d9.fn X G (ps:=["many"]) (λ_ _ _ _ _ _ _ h=>Jd h λ_=>rfl) λ_ _ U M N B=>Jt U;have F_most_made:Fn l.prog w K mg base "most_made" 1 2 UU:=d10.fn X G (ps:=["comings","goings"]) (λ_ _ _ _ _ _ _ h=>Jc h λ_ _=>rfl) λ_ _ U M N B=>zD5 U;have MK_Part:MkeC l.prog w K mg base C_Part "Part" 14 2 (Vy C_Part):=d11.mke xh_mkPart xh_kcPart CX_Part (ps:=q7) (λ_ _ _ _ _ _ _ h=>xa8 h λ_ _ _=>rfl) λ_ _ U=>zo3 T CL_Part NA_things NA_held NA_tree NA_gone U F_turns;have M_left:MthC l.prog w K mg base C_Part "left" 1 0 (ZE C_Part):=d12.mth CL_Part (ps:=q0) (λ_ _ _ _ _ _ _ h=>Jd h λ_=>rfl) λ_ _ U=>zo2 T CL_Part NA_things NA_gone U;have MK_Kept:MkeC l.prog w K mg base C_Kept "Kept" 1 1 (Vz C_Kept):=d13.mke xh_mkKept xh_kcKept CX_Kept (ps:=["self","d"]) (λ_ _ _ _ _ _ _ h=>Jc h λ_ _=>rfl) λ_ _ U=>zo5 CL_Kept NA_d NA_by_rank NA_rank_of NA_so_many_made U;have M_put_in:MthC l.prog w K mg base C_Kept "put_in" 16 2 (Xl C_Part C_Kept):=d14.mth CL_Kept (ps:=q8) (λ_ _ _ _ _ _ _ h=>xa8 h λ_ _ _=>rfl) λ_ _ U=>zo1 T CL_Kept NA_d NA_by_rank NA_rank_of NA_so_many_made U M_left MK_Part;have M_make_anew:MthC l.prog w K mg base C_Kept "make_anew" 17 1 (Ql C_Part C_Kept):=d15.mth CL_Kept (ps:=q3) (λ_ _ _ _ _ _ _ h=>Jc h λ_ _=>rfl) λ_ _ U=>zD9 T CL_Kept NA_by_rank U M_left M_put_in F_rank_for;have M_come:MthC l.prog w K mg base C_Kept "come" 17 1 (Qk C_Part C_Kept):=d16.mth CL_Kept (ps:=["self","thing"]) (λ_ _ _ _ _ _ _ h=>Jc h λ_ _=>rfl) λ_ _ U=>zD8 CL_Kept NA_rank_of U M_put_in;have M_go:MthC l.prog w K mg base C_Kept "go" 18 1 (zV6 C_Part C_Kept):=d17.mth CL_Kept (ps:=["self","name"]) (λ_ _ _ _ _ _ _ h=>Jc h λ_ _=>rfl) λ_ _ U=>xm4 T CL_Kept CL_Part NA_things NA_gone NA_by_rank NA_rank_of U M_make_anew;have M_made:MthC l.prog w K mg base C_Kept "made" 1 0 (UV C_Part C_Kept):=d18.mth CL_Kept (ps:=q0) (λ_ _ _ _ _ _ _ h=>Jd h λ_=>rfl) λ_ _ U=>zD6 CL_Kept NA_so_many_made U;have M_told:MthC l.prog w K mg base C_Part "told" 1 1 (Qi C_Part):=d19.mth CL_Part (ps:=q3) (λ_ _ _ _ _ _ _ h=>Jc h λ_ _=>rfl) λ_ _ U=>zD3 T CL_Part NA_things NA_gone U;have M_ranks:MthC l.prog w K mg base C_Kept "ranks" 1 0 (Vx C_Part C_Kept):=d20.mth CL_Kept (ps:=q0) (λ_ _ _ _ _ _ _ h=>Jd h λ_=>rfl) λ_ _ U=>zo0 T CL_Kept NA_by_rank U;have M_parts:MthC l.prog w K mg base C_Kept "parts" 2 0 (jJ C_Part C_Kept):=d21.mth CL_Kept (ps:=q0) (λ_ _ _ _ _ _ _ h=>Jd h λ_=>rfl) λ_ _ U=>zo4 T CL_Kept NA_by_rank U M_told M_ranks;have M_house:MthC l.prog w K mg base C_Kept "house" 2 0 (jv C_Part C_Kept):=d22.mth CL_Kept (ps:=q0) (λ_ _ _ _ _ _ _ h=>Jd h λ_=>rfl) λ_ _ U=>za9 T CL_Kept NA_d NA_by_rank U M_left;have Y_cell_at:Fn l.prog w K mg base "_law_cell_at" 1 2 ZG:=d23.fn X G (ps:=q2) (λ_ _ _ _ _ _ _ h=>Jc h λ_ _=>rfl) λ_ _ U M N B=>Ju T U;have Y_left:Fn l.prog w K mg base "_law_left" 2 2 Qj:=d24.fn X G (ps:=q2) (λ_ _ _ _ _ _ _ h=>Jc h λ_ _=>rfl) λ_ _ U M N B=>zD7 T ND U Y_cell_at;have Y_pick:Fn l.prog w K mg base "_law_pick" 1 2 ZF:=d25.fn X G (ps:=["_law_left_here","_law_many"]) (λ_ _ _ _ _ _ _ h=>Jc h λ_ _=>rfl) λ_ _ U M N B=>zD4 U;have Y_of:Fn l.prog w K mg base "_law_of" 2 2 zJ9:=d26.fn X G (ps:=q9) (λ_ _ _ _ _ _ _ h=>Jc h λ_ _=>rfl) λ_ _ U M N B=>xm3 T U Y_pick;have Y_number:Fn l.prog w K mg base "_law_number" 3 2 Xm:=d27.fn X G (ps:=["_law_left_here","_law_near"]) (λ_ _ _ _ _ _ _ h=>Jc h λ_ _=>rfl) λ_ _ U M N B=>za8 U Y_pick Y_of;have Y_thing:Fn l.prog w K mg base "_law_thing" 4 4 Vw:=d28.fn X G (ps:=q10) (λ_ _ _ _ _ _ _ h=>xp0 h λ_ _ _ _=>rfl) λ_ _ U M N B=>zn9 T U Y_pick Y_of Y_number;have Y_due:Fn l.prog w K mg base "_law_due" 1 1 zj6:=d29.fn X G (ps:=["_law_names"]) (λ_ _ _ _ _ _ _ h=>Jd h λ_=>rfl) λ_ _ U M N B=>zQ1 T U;have Y_greatest:Fn l.prog w K mg base "_law_greatest" 1 1 jM:=d30.fn X G (ps:=["_law_number_here"]) (λ_ _ _ _ _ _ _ h=>Jd h λ_=>rfl) λ_ _ U M N B=>VZ U;exact zQ0 T U31 MK_Kept M_come M_go M_made M_parts M_house Y_left Y_pick Y_of Y_thing Y_due Y_greatest F_most_made
def walk{l:W.OpenLaw}{q:Program}{loose:List Str}{XP:(Str->Option Value)->Heap->Prop}{YP:World->Heap->Prop}{d:DefRec}{K:Params->W.Frag}(hn:l.most=some 63)(hdf:d.params.defaults=[])
  (hY:∀(w:World) (h:Heap),YP w h->(K w.params).In h)
  (F : ∀ (w : World) (mg : Str -> Option Value) (fa : Addr) (h : Heap), (K w.params).In h -> h.Ns mainGlobals mg -> mg d.name = some (.ref fa) ->
   ∃fd:FuncData,(∀(s:Shared) (u:Value),BindsTo s fd ⟨[u],[]⟩ [("_law_script",u)])/\∀base:Heap,(K w.params).In base->base.Ns mainGlobals mg->base.NoDigits->FnOk l.prog w (K w.params) mg base CX0 20 fa fd ["_law_script"] (Wg (K w.params))) :
  W.WalkO q loose XP YP l.row.toRowW d [] (λf vs=>PySem.call f vs):=
 L2.zj4 (n:=63) (k:=20) (x := "_law_script") (CX:=λ_=>CX0) (sp:=λw=>Wg (K w.params)) hn w6 hdf ⟨rfl,w6,w6,rfl⟩ hY F (λ_ _ a ns hl hO hS=>⟨a,ns,rfl,hO,hS,hl,λ_=>rfl⟩) λ_ _ _ _ _ z=>z
end K60
open PySem PySem.W PyProof.Rows
set_option maxRecDepth 100000 in
set_option maxHeartbeats 0 in
theorem PySem.Challenge.cw_boxlayers_k60_comings_alone_holds : PySem.Challenge.rw_boxlayers_k60_comings_alone.Holds := by
 w_on; refine holds_law (by kernel_rfl) fun said => ?_; refine holds_open (q:=K60H.view) (loose:=[]) (N:=10000) (XP:=XL K60H.view []) (Xt:=λs=>xlAt K60H.view [] s && recOk (RowW.records (OpenRow.toRowW (OpenLaw.row PySem.Challenge.rw_boxlayers_k60_comings_alone))) s) (Yf:=Hook.obs K60H.hook) (Ya:=Hook.val K60H.hook) (YP:=Hook.says K60H.hook) K60H.left (Hook.of K60H.hook) (Hook.keeps K60H.hook) (λs e=>xl_of s (Bool.and_eq_true_iff.mp e).1) XL.keeps rfl rfl rfl (λs e=>recFacts_of (Bool.and_eq_true_iff.mp e).2) rfl (by first | assumption | decide +kernel) x4 ⟨rfl,rfl,rfl,rfl,rfl,x4⟩ ?_ ?_
 ·w_witness2
 k_fill
 refine K60.walk (l:=PySem.Challenge.rw_boxlayers_k60_comings_alone) rfl rfl (λw h Y=>PySem.W.kIn_of Y) ?F
 case F =>
  intro w mg fa h KX G hmg;refine' K60.all_mk KX G hmg ?d0 ?d1 ?d2 ?d3 ?d4 ?d5 ?d6 ?d7 ?d8 ?d9 ?d10 ?d11 ?d12 ?d13 ?d14 ?d15 ?d16 ?d17 ?d18 ?d19 ?d20 ?d21 ?d22 ?d23 ?d24 ?d25 ?d26 ?d27 ?d28 ?d29 ?d30 ?a31 ?l31 ?c31 ?k31 ?cn0 ?cn1 ?xh_pgP ?xh_hdP ?xh_poP ?xh_saP ?xh_mkPart ?xh_kcPart ?xh_ptg ?xh_phd ?xh_ptr ?xh_pgn ?xh_pgK ?xh_hdK ?xh_poK ?xh_saK ?xh_mkKept ?xh_kcKept ?xh_kd ?xh_kb ?xh_kr ?xh_km ?z0 ?z1 ?z2 ?z3 ?z4 ?z5 ?z6 ?z7 ?z8 ?z9 ?z10 ?z11 ?z12 ?z13 ?z14 ?z15
  (case a31=>k_is)
  (case l31=>k_is)
  (case c31=>k_is)
  (case k31=>k_is)
  (case cn0=>k_is)
  (case cn1=>k_is)
  (case xh_pgP=>(first | k_is | rfl | kernel_rfl))
  (case xh_hdP=>(first | k_is | rfl | kernel_rfl))
  (case xh_poP=>(first | k_is | rfl | kernel_rfl))
  (case xh_saP=>(first | k_is | rfl | kernel_rfl))
  (case xh_mkPart=>(first | k_is | rfl | kernel_rfl))
  (case xh_kcPart=>(first | k_is | rfl | kernel_rfl))
  (case xh_ptg=>(first | k_is | rfl | kernel_rfl))
  (case xh_phd=>(first | k_is | rfl | kernel_rfl))
  (case xh_ptr=>(first | k_is | rfl | kernel_rfl))
  (case xh_pgn=>(first | k_is | rfl | kernel_rfl))
  (case xh_pgK=>(first | k_is | rfl | kernel_rfl))
  (case xh_hdK=>(first | k_is | rfl | kernel_rfl))
  (case xh_poK=>(first | k_is | rfl | kernel_rfl))
  (case xh_saK=>(first | k_is | rfl | kernel_rfl))
  (case xh_mkKept=>(first | k_is | rfl | kernel_rfl))
  (case xh_kcKept=>(first | k_is | rfl | kernel_rfl))
  (case xh_kd=>(first | k_is | rfl | kernel_rfl))
  (case xh_kb=>(first | k_is | rfl | kernel_rfl))
  (case xh_kr=>(first | k_is | rfl | kernel_rfl))
  (case xh_km=>(first | k_is | rfl | kernel_rfl))
  (case z0=>k_is)
  (case z1=>k_is)
  (case z2=>k_is)
  (case z3=>k_is)
  (case z4=>k_is)
  (case z5=>k_is)
  (case z6=>k_is)
  (case z7=>k_is)
  (case z8=>k_is)
  (case z9=>k_is)
  (case z10=>k_is)
  (case z11=>k_is)
  (case z12=>k_is)
  (case z13=>k_is)
  (case z14=>k_is)
  (case z15=>k_is)
  all_goals first | (apply K60.dn;k_is;k_is;k_is;k_is) | (apply K60.dm;k_is;k_is;k_is;k_is;k_is)
end
#print axioms PySem.Challenge.cw_boxlayers_k60_comings_alone_holds
