import PyProof.Rows.All
import Wide.All
import OpenK.AllK
import Wide.FinOn
import Lean
import PyProof.EqAt
import PyProof.EqKinds
import PyProof.TupleCall
import PyProof.CompFree
import PyProof.ZipIter
import PyProof.Cells
import PyProof.Rows.CellsFrame
import PyProof.EnumMake
import PyProof.TupleIter
import PyProof.IsiPairs
import PyProof.IsiSeqPairs
import PyProof.IsiNone
import PyProof.ConsumeWalk
import PyProof.DictCompW
import PyProof.NeKinds
import PyProof.MinMaxWalk
import PyProof.Rows.SortRev
import KE.KIsAll
import KE.KDictOf
import PyProof.AttrMissHeap
import PyProof.CallFns
import PySem.Challenge.RW_boxlayers_k55_made_below_the_most
set_option Elab.async false
set_option linter.all false
namespace K55H
section
open PySem PySem.W PyProof.Rows
def top (i : Nat) : Stmt := PySem.Challenge.pw_boxlayers_k55_made_below_the_most.main.body.getD i (.Pass ⟨0, 0, 0, 0⟩)
noncomputable def view:Program:={ PySem.Challenge.pw_boxlayers_k55_made_below_the_most with main:={ PySem.Challenge.pw_boxlayers_k55_made_below_the_most.main with body:=[top 0,top 2,top 4,top 5,top 6,top 8,top 10,top 11,top 12,top 14,top 15,top 16,top 17,top 19,top 20,top 21,top 22,top 24,top 25,top 26,top 27,top 28,top 29,top 30] } }
local macro_rules | `(tactic| o_head (kHook $k $a $e)) => `(tactic| (assumption; exact ($a, [])))
set_option maxRecDepth 100000 in
set_option maxHeartbeats 0 in
noncomputable def hk : List Addr × List Addr := by
  refine (fun (_ : (OpenLaw.row PySem.Challenge.rw_boxlayers_k55_made_below_the_most).Holds → (OpenLaw.row PySem.Challenge.rw_boxlayers_k55_made_below_the_most).Holds) => ?a) (fun h => ?b)
  rotate_left
  k_head
noncomputable abbrev hook : Hook := kHook hk.heap_1 hk.1 (fun _ => by kernel_rfl)
theorem four {u v a1 a2 a3 a4 a5 : Type} {o : Option u} {g : u → Option v} {A : v → a1} {B1 : v → a2} {B2 : v → a3} {C : v → a4} {E : v → a5} {a : a1} {b1 : a2} {b2 : a3} {c : a4} {e : a5} (h1 : o.map (fun x => (g x).map A) = some (some a)) (h2 : o.map (fun x => (g x).map fun s => (B1 s, B2 s)) = some (some (b1, b2))) (h3 : o.map (fun x => (g x).map C) = some (some c)) (h4 : o.map (fun x => (g x).map E) = some (some e)) : o.map (fun x => (g x).map fun s => ((A s, B1 s, B2 s, C s), E s)) = some (some ((a, b1, b2, c), e)) := by
  cases o with
  | none => cases h1
  | some x =>
    have k1 : (g x).map A = some a := Option.some.inj h1
    have k2 : ((g x).map fun s => (B1 s, B2 s)) = some (b1, b2) := Option.some.inj h2
    have k3 : (g x).map C = some c := Option.some.inj h3
    have k4 : (g x).map E = some e := Option.some.inj h4
    show some ((g x).map _) = _
    cases hg : g x with
    | none => rw [hg] at k1; cases k1
    | some s =>
      rw [hg] at k1 k2 k3 k4
      have m1 : A s = a := Option.some.inj k1
      have m2 : (B1 s, B2 s) = (b1, b2) := Option.some.inj k2
      have m3 : C s = c := Option.some.inj k3
      have m4 : E s = e := Option.some.inj k4
      have m5 : B1 s = b1 := (Prod.mk.inj m2).1
      have m6 : B2 s = b2 := (Prod.mk.inj m2).2
      subst m1 m3 m4 m5 m6
      rfl
set_option maxRecDepth 100000 in
set_option maxHeartbeats 0 in
theorem headFa (w : World) : (fencedOpening treeTable (OpenLaw.row PySem.Challenge.rw_boxlayers_k55_made_below_the_most).prog w 10000).map (fun a => (topFrom treeTable (OpenLaw.row PySem.Challenge.rw_boxlayers_k55_made_below_the_most).prog (w.withFollow "special-get-raises" false) 10000 a).map (fun s => (openSeen view [] (importedModules (OpenLaw.row PySem.Challenge.rw_boxlayers_k55_made_below_the_most).prog.main.body) (fun s => xlAt view [] s && recOk (RowW.records (OpenRow.toRowW (OpenLaw.row PySem.Challenge.rw_boxlayers_k55_made_below_the_most))) s) true s).1)) = some (some ((openGood view []).1)) := by kernel_rfl
set_option maxRecDepth 100000 in
set_option maxHeartbeats 0 in
theorem headFb (w : World) : (fencedOpening treeTable (OpenLaw.row PySem.Challenge.rw_boxlayers_k55_made_below_the_most).prog w 10000).map (fun a => (topFrom treeTable (OpenLaw.row PySem.Challenge.rw_boxlayers_k55_made_below_the_most).prog (w.withFollow "special-get-raises" false) 10000 a).map (fun s => ((openSeen view [] (importedModules (OpenLaw.row PySem.Challenge.rw_boxlayers_k55_made_below_the_most).prog.main.body) (fun s => xlAt view [] s && recOk (RowW.records (OpenRow.toRowW (OpenLaw.row PySem.Challenge.rw_boxlayers_k55_made_below_the_most))) s) true s).2.1, (openSeen view [] (importedModules (OpenLaw.row PySem.Challenge.rw_boxlayers_k55_made_below_the_most).prog.main.body) (fun s => xlAt view [] s && recOk (RowW.records (OpenRow.toRowW (OpenLaw.row PySem.Challenge.rw_boxlayers_k55_made_below_the_most))) s) true s).2.2.1))) = some (some (((openGood view []).2.1, (openGood view []).2.2.1))) := by kernel_rfl
set_option maxRecDepth 100000 in
set_option maxHeartbeats 0 in
theorem headFc (w : World) : (fencedOpening treeTable (OpenLaw.row PySem.Challenge.rw_boxlayers_k55_made_below_the_most).prog w 10000).map (fun a => (topFrom treeTable (OpenLaw.row PySem.Challenge.rw_boxlayers_k55_made_below_the_most).prog (w.withFollow "special-get-raises" false) 10000 a).map (fun s => (openSeen view [] (importedModules (OpenLaw.row PySem.Challenge.rw_boxlayers_k55_made_below_the_most).prog.main.body) (fun s => xlAt view [] s && recOk (RowW.records (OpenRow.toRowW (OpenLaw.row PySem.Challenge.rw_boxlayers_k55_made_below_the_most))) s) true s).2.2.2)) = some (some ((openGood view []).2.2.2)) := by kernel_rfl
set_option maxRecDepth 100000 in
set_option maxHeartbeats 0 in
theorem headFd (w : World) : (fencedOpening treeTable (OpenLaw.row PySem.Challenge.rw_boxlayers_k55_made_below_the_most).prog w 10000).map (fun a => (topFrom treeTable (OpenLaw.row PySem.Challenge.rw_boxlayers_k55_made_below_the_most).prog (w.withFollow "special-get-raises" false) 10000 a).map (fun s => Hook.obs hook s)) = some (some (Hook.val hook (w.withFollow "special-get-raises" false))) := by kernel_rfl
theorem headF (w : World) : (fencedOpening treeTable (OpenLaw.row PySem.Challenge.rw_boxlayers_k55_made_below_the_most).prog w 10000).map (fun a => (topFrom treeTable (OpenLaw.row PySem.Challenge.rw_boxlayers_k55_made_below_the_most).prog (w.withFollow "special-get-raises" false) 10000 a).map (fun s => ((openSeen view [] (importedModules (OpenLaw.row PySem.Challenge.rw_boxlayers_k55_made_below_the_most).prog.main.body) (fun s => xlAt view [] s && recOk (RowW.records (OpenRow.toRowW (OpenLaw.row PySem.Challenge.rw_boxlayers_k55_made_below_the_most))) s) true s), Hook.obs hook s))) = some (some ((openGood view []), Hook.val hook (w.withFollow "special-get-raises" false))) := four (headFa w) (headFb w) (headFc w) (headFd w)
set_option maxRecDepth 100000 in
set_option maxHeartbeats 0 in
theorem headTa (w : World) : (fencedOpening treeTable (OpenLaw.row PySem.Challenge.rw_boxlayers_k55_made_below_the_most).prog w 10000).map (fun a => (topFrom treeTable (OpenLaw.row PySem.Challenge.rw_boxlayers_k55_made_below_the_most).prog (w.withFollow "special-get-raises" true) 10000 a).map (fun s => (openSeen view [] (importedModules (OpenLaw.row PySem.Challenge.rw_boxlayers_k55_made_below_the_most).prog.main.body) (fun s => xlAt view [] s && recOk (RowW.records (OpenRow.toRowW (OpenLaw.row PySem.Challenge.rw_boxlayers_k55_made_below_the_most))) s) true s).1)) = some (some ((openGood view []).1)) := by kernel_rfl
set_option maxRecDepth 100000 in
set_option maxHeartbeats 0 in
theorem headTb (w : World) : (fencedOpening treeTable (OpenLaw.row PySem.Challenge.rw_boxlayers_k55_made_below_the_most).prog w 10000).map (fun a => (topFrom treeTable (OpenLaw.row PySem.Challenge.rw_boxlayers_k55_made_below_the_most).prog (w.withFollow "special-get-raises" true) 10000 a).map (fun s => ((openSeen view [] (importedModules (OpenLaw.row PySem.Challenge.rw_boxlayers_k55_made_below_the_most).prog.main.body) (fun s => xlAt view [] s && recOk (RowW.records (OpenRow.toRowW (OpenLaw.row PySem.Challenge.rw_boxlayers_k55_made_below_the_most))) s) true s).2.1, (openSeen view [] (importedModules (OpenLaw.row PySem.Challenge.rw_boxlayers_k55_made_below_the_most).prog.main.body) (fun s => xlAt view [] s && recOk (RowW.records (OpenRow.toRowW (OpenLaw.row PySem.Challenge.rw_boxlayers_k55_made_below_the_most))) s) true s).2.2.1))) = some (some (((openGood view []).2.1, (openGood view []).2.2.1))) := by kernel_rfl
set_option maxRecDepth 100000 in
set_option maxHeartbeats 0 in
theorem headTc (w : World) : (fencedOpening treeTable (OpenLaw.row PySem.Challenge.rw_boxlayers_k55_made_below_the_most).prog w 10000).map (fun a => (topFrom treeTable (OpenLaw.row PySem.Challenge.rw_boxlayers_k55_made_below_the_most).prog (w.withFollow "special-get-raises" true) 10000 a).map (fun s => (openSeen view [] (importedModules (OpenLaw.row PySem.Challenge.rw_boxlayers_k55_made_below_the_most).prog.main.body) (fun s => xlAt view [] s && recOk (RowW.records (OpenRow.toRowW (OpenLaw.row PySem.Challenge.rw_boxlayers_k55_made_below_the_most))) s) true s).2.2.2)) = some (some ((openGood view []).2.2.2)) := by kernel_rfl
set_option maxRecDepth 100000 in
set_option maxHeartbeats 0 in
theorem headTd (w : World) : (fencedOpening treeTable (OpenLaw.row PySem.Challenge.rw_boxlayers_k55_made_below_the_most).prog w 10000).map (fun a => (topFrom treeTable (OpenLaw.row PySem.Challenge.rw_boxlayers_k55_made_below_the_most).prog (w.withFollow "special-get-raises" true) 10000 a).map (fun s => Hook.obs hook s)) = some (some (Hook.val hook (w.withFollow "special-get-raises" true))) := by kernel_rfl
theorem headT (w : World) : (fencedOpening treeTable (OpenLaw.row PySem.Challenge.rw_boxlayers_k55_made_below_the_most).prog w 10000).map (fun a => (topFrom treeTable (OpenLaw.row PySem.Challenge.rw_boxlayers_k55_made_below_the_most).prog (w.withFollow "special-get-raises" true) 10000 a).map (fun s => ((openSeen view [] (importedModules (OpenLaw.row PySem.Challenge.rw_boxlayers_k55_made_below_the_most).prog.main.body) (fun s => xlAt view [] s && recOk (RowW.records (OpenRow.toRowW (OpenLaw.row PySem.Challenge.rw_boxlayers_k55_made_below_the_most))) s) true s), Hook.obs hook s))) = some (some ((openGood view []), Hook.val hook (w.withFollow "special-get-raises" true))) := four (headTa w) (headTb w) (headTc w) (headTd w)
theorem two_map {u v : Type} {o : Option u} {A B : u → v} {a b : v} (h1 : o.map A = some a) (h2 : o.map B = some b) : o.map (fun s => (A s, B s)) = some (a, b) := by
  cases o with
  | none => cases h1
  | some s => exact congrArg some (congr (congrArg Prod.mk (Option.some.inj h1)) (Option.some.inj h2))
theorem left : LeftO (OpenLaw.row PySem.Challenge.rw_boxlayers_k55_made_below_the_most).prog view [] (fun s => xlAt view [] s && recOk (RowW.records (OpenRow.toRowW (OpenLaw.row PySem.Challenge.rw_boxlayers_k55_made_below_the_most))) s) (Hook.obs hook) (Hook.val hook) 10000 := LeftO.of_split "special-get-raises" fun w => @two_map _ _ _ _ _ _ _ (headF w) (headT w)
end
end K55H
noncomputable section
set_option Elab.async false
set_option linter.all false
set_option maxRecDepth 100000
namespace L2
open PySem PySem.Spec PyProof.Rows
abbrev Key:=Sum Int Str
def keyIs:Key -> Value -> Bool
 | .inl k,v=>Value.isInt k v
 | .inr x,v=>Value.isStrOf x v
def keyH (w:World):Key -> Int
 | .inl k=>hashInt k
 | .inr x=>hashStr w x
theorem keyIs_shape:∀ {k:Key} {v:Value},keyIs k v = true -> (∃ i t,k = Sum.inl i /\ v = Value.int i t) \/ (∃ x t,k = Sum.inr x /\ v = Value.str x t)
 | .inl i,v,h=>by
  obtain ⟨t,e⟩:=Value.isInt_shape (k:=i) (v:=v) h
  exact .inl ⟨i,t,rfl,e⟩
 | .inr x,v,h=>by
  obtain ⟨t,e⟩:=Value.isStrOf_shape (x:=x) (v:=v) h
  exact .inr ⟨x,t,rfl,e⟩
theorem keyIs_int (i:Int) (t:Tok):keyIs (.inl i) (.int i t) = true:=by simp [keyIs,Value.isInt]
theorem keyIs_str (x:Str) (t:Tok):keyIs (.inr x) (.str x t) = true:=by simp [keyIs,Value.isStrOf]
theorem key_ll (a b:Int):decide ((Sum.inl a:Key) = Sum.inl b) = (a == b):=by
 by_cases e:a = b
 ·subst e; simp
 ·have h : ¬ (Sum.inl a : Key) = Sum.inl b := fun q => e (Sum.inl.inj q)
  rw [decide_eq_false h]
  exact (beq_eq_false_iff_ne.mpr e).symm
theorem key_rr (a b:Str):decide ((Sum.inr a:Key) = Sum.inr b) = decide (a = b):=by
 by_cases e:a = b
 ·subst e; simp
 ·have h : ¬ (Sum.inr a : Key) = Sum.inr b := fun q => e (Sum.inr.inj q)
  rw [decide_eq_false h,decide_eq_false e]
theorem key_lr (a:Int) (b:Str):decide ((Sum.inl a:Key) = Sum.inr b) = false:=decide_eq_false (fun q=>nomatch q)
theorem key_rl (a:Str) (b:Int):decide ((Sum.inr a:Key) = Sum.inl b) = false:=decide_eq_false (fun q=>nomatch q)
def mixKind (prog:Program) (w:World):PySem.KeyKind prog w Key where
 is:=keyIs
 hash:=keyH w
 inj:=fun v a b ha hb=>by
  rcases keyIs_shape ha with ⟨i,t,rfl,rfl⟩ | ⟨x,t,rfl,rfl⟩
  ·rcases keyIs_shape hb with ⟨j, u, rfl, e⟩ | ⟨y, u, rfl, e⟩
   ·injection e with e1 _; rw [e1]
   ·exact nomatch e
  ·rcases keyIs_shape hb with ⟨j, u, rfl, e⟩ | ⟨y, u, rfl, e⟩
   ·exact nomatch e
   ·injection e with e1 _; rw [e1]
 byValue:=fun k v h=>by
  rcases keyIs_shape h with ⟨i,t,rfl,rfl⟩ | ⟨x,t,rfl,rfl⟩ <;> rfl
 pyHash:=fun hv h=>by
  rcases keyIs_shape hv with ⟨i,t,rfl,rfl⟩ | ⟨x,t,rfl,rfl⟩
  ·exact wpAny_pyHash_int h
  ·exact wpAny_pyHash_str h
 eqBool:=fun hu hv h=>by
  rcases keyIs_shape hu with ⟨i,t,rfl,rfl⟩ | ⟨x,t,rfl,rfl⟩
  ·rcases keyIs_shape hv with ⟨j, u, rfl, rfl⟩ | ⟨y, u, rfl, rfl⟩
   ·rw [key_ll] at h; exact wpAny_eqBool_int h
   ·rw [key_lr] at h; exact SeqAt.EqAt.int_str i t y u _ _ _ _ h
  ·rcases keyIs_shape hv with ⟨j, u, rfl, rfl⟩ | ⟨y, u, rfl, rfl⟩
   ·rw [key_rl] at h; exact SeqAt.EqAt.str_int x t j u _ _ _ _ h
   ·rw [key_rr] at h; exact wpAny_eqBool_str h
 «strs»:=fun k x t v h=>by
  rcases keyIs_shape h with ⟨i,u,rfl,e⟩ | ⟨y,u,rfl,e⟩
  ·exact nomatch e
  ·injection e with e1 _
   subst e1
   cases v <;> rfl
theorem mixKind_int (prog:Program) (w:World) (i:Int) (t:Tok):(mixKind prog w).is (.inl i) (.int i t) = true:=keyIs_int i t
theorem mixKind_str (prog:Program) (w:World) (x:Str) (t:Tok):(mixKind prog w).is (.inr x) (.str x t) = true:=keyIs_str x t
end L2
namespace L2
open PySem PySem.Spec PyProof.Rows
inductive V where
 | non | bl (b:Bool) | int (i:Int) | str (x:Str) | byt (b:Array UInt8) | flt (b:UInt64) | ref (a:Addr) | ty (n:String)
 deriving DecidableEq
def RelV:V -> Value -> Prop
 | .non,u=>u = Value.none
 | .bl b,u=>u = Value.bool b
 | .int i,u=>∃ t,u = Value.int i t
 | .str x,u=>∃ t,u = Value.str x t
 | .byt b,u=>∃ t,u = Value.bytes b t
 | .flt b,u=>∃ t,u = Value.float b t
 | .ref a,u=>u = Value.ref a
 | .ty n,u=>u = Value.type n
abbrev Vals:List V -> List Value -> Prop:=Paired RelV
theorem Vals.length {xs:List V} {us:List Value} (r:Vals xs us):xs.length = us.length:=Paired.length r
theorem Vals.get:∀ {xs:List V} {us:List Value} {i:Nat} {x:V},Vals xs us -> xs[i]? = some x -> ∃ u,us[i]? = some u /\ RelV x u
 | _,_,_,_,.nil,e=>by simp at e
 | _,_,0,_,.cons r _,e=>by simp at e; subst e; exact ⟨_,rfl,r⟩
 | _,_,i + 1,x,.cons _ t,e=>by
  obtain ⟨u,h1,h2⟩:=Vals.get (i:=i) (x:=x) t (by simpa using e)
  exact ⟨u,by simpa using h1,h2⟩
theorem Vals.set {x:V} {u:Value} (r:RelV x u):∀ {xs:List V} {us:List Value} (i:Nat),Vals xs us -> Vals (xs.set i x) (us.set i u)
 | _,_,_,.nil=>.nil
 | _,_,0,.cons _ t=>.cons r t
 | _,_,i + 1,.cons q t=>.cons q (Vals.set r i t)
theorem Vals.append:∀ {xs ys:List V} {us ws:List Value},Vals xs us -> Vals ys ws -> Vals (xs ++ ys) (us ++ ws)
 | _,_,_,_,.nil,s=>s
 | _,_,_,_,.cons r t,s=>.cons r (Vals.append t s)
theorem Vals.take:∀ {xs:List V} {us:List Value} (n:Nat),Vals xs us -> Vals (xs.take n) (us.take n)
 | _,_,0,_=>.nil
 | _,_,_ + 1,.nil=>.nil
 | _,_,n + 1,.cons r t=>.cons r (Vals.take n t)
theorem Vals.drop:∀ {xs:List V} {us:List Value} (n:Nat),Vals xs us -> Vals (xs.drop n) (us.drop n)
 | _,_,0,r=>r
 | _,_,_ + 1,.nil=>.nil
 | _,_,n + 1,.cons _ t=>Vals.drop n t
def RelO:Option V -> Option Value -> Prop
 | some v,some u=>RelV v u
 | none,none=>True
 | _,_=>False
def KV {κ:Type}:List (κ × V) -> List (κ × Value) -> Prop:=Paired fun (p:κ × V) (q:κ × Value)=>p.1 = q.1 /\ RelV p.2 q.2
def kV:Key -> V
 | .inl i=>.int i
 | .inr x=>.str x
inductive HO where
 /-- a list -/
 | lst (xs:List V)
 /-- a tuple (never changes) -/
 | tup (xs:List V)
 /-- a dict whose keys are ints and texts; one whose keys are tuples of ints and texts (the empty one is both) -/
 | dK (kvs:List (Key × V)) | dT (kvs:List (List Key × V))
 /-- a set of ints: its members, its size -/
 | set (S:Int -> Bool) (n:Nat)
 /-- an instance of the class at C, its dict at dx, its attributes -/
 | ins (C dx:Addr) (fs:List (Str × V))
 /-- the dict of the instance at x -/
 | own (x:Addr)
 /-- the dict of an exception -/
 | xd (fs:List (Str × V))
 /-- a bound method, f of x -/
 | met (f x:Addr)
 /-- a range object lo, lo + 1, .. below hi -/
 | rng (lo hi:Int)
 /-- a thing that is known to the object (the script; a dict while a loop walks it): read, never written while it is so -/
 | frz (o:Obj) (u:HO)
 /-- a code object's table -/
 | tbl (ps:Array Value)
 /-- any other thing, by what is true of its one object (a def of one's own: SetO a S n := HO.ext fun h => ..) -/
 | ext (φ:Heap -> Prop)
abbrev Hp:=Addr -> Option HO
def upd (H:Hp) (a:Addr) (o:HO):Hp:=fun b=>if b = a then some o else H b
theorem upd_same {H:Hp} {a:Addr} {o:HO}:upd H a o a = some o:=by unfold upd; rw [if_pos rfl]
theorem upd_ne {H:Hp} {a b:Addr} {o:HO} (h:b ≠ a):upd H a o b = H b:=by unfold upd; rw [if_neg h]
theorem ne_of {H:Hp} {a b:Addr} {o u:HO} (h:H a = some o) (h':H b = some u) (d:o ≠ u):a ≠ b:=by
 intro e; subst e; rw [h] at h'; exact d (Option.some.inj h')
theorem ne_of_none {H:Hp} {a b:Addr} {o:HO} (h:H a = some o) (h':H b = none):a ≠ b:=by
 intro e; subst e; rw [h] at h'; cases h'
section
variable (P:Program) (w:World)
def ObjOk (H:Hp) (h:Heap) (a:Addr):HO -> Prop
 | .lst xs=>xs.length <= sizeLine /\ ∃ (its:List Value) (n:Nat),Vals xs its /\ h.get? a = some { cls:=.type "list",data:=.seq its.toArray n }
 | .tup xs=>xs.length <= sizeLine /\ ∃ its:List Value,Vals xs its /\ IsTup h a its.toArray
 | .dK kvs=>kvs.length <= sizeLine /\ (a == sysModules) = false /\ ∃ vs,KV kvs vs /\ h.DictOf (mixKind P w) a vs
 | .dT kvs => kvs.length <= sizeLine /\ (a == sysModules) = false /\ ∃ xs : List (List Key × Addr × Value),
   Paired (fun (p:List Key × V) (q:List Key × Addr × Value)=>p.1 = q.1 /\ H q.2.1 = some (.tup (p.1.map kV)) /\ RelV p.2 q.2.2) kvs xs /\
   ∃ o es ep,h.get? a = some o /\ o.ExactDict /\ o.data = .dict es ep /\ es.toList = xs.map (entryOfKey (tupleKind (mixKind P w))) /\ (xs.map (·.1)).Nodup
 | .set S n=>h.SetOf (intKind P w) a S n
 | .ins C dx fs => H dx = some (.own a) /\ fs.length <= 1000 /\ dx ≠ a /\ h.get? a = some (PySem.W.instObj C dx) /\
   ∃ mA,h.Ns1 dx mA /\ (∀ f,RelO (fs.lookup f) (mA f)) /\ PySem.Within mA (fs.map (·.1))
 | .own _=>∃ o,h.get? a = some o
 | .xd fs=>∃ mA,h.Ns1 a mA /\ ∀ f,RelO (fs.lookup f) (mA f)
 | .rng lo hi=>∃ t u v,h.get? a = some { cls:=.type "range",data:=.fields #[.int lo t,.int hi u,.int 1 v] }
 | .frz o u=>h.get? a = some o /\ ObjOk H h a u
 | .tbl ps=>h.get? a = some { cls:=.none,data:=.fields ps }
 | .met f x=>h.get? a = some (PySem.W.methodObj (.ref f) (.ref x))
 | .ext φ=>φ h /\ (∃ o,h.get? a = some o) /\ ∀ h1 h2:Heap,φ h1 -> (∀ o,h1.get? a = some o -> h2.get? a = some o) -> φ h2
def HOk (H:Hp) (h:Heap):Prop:=∀ a o,H a = some o -> ObjOk P w H h a o
end
section
variable {P:Program} {w:World} {H H':Hp} {h h':Heap} {a:Addr} {o:HO}
theorem ObjOk.lt (x:ObjOk P w H h a o):a < h.objs.size:=by
 cases o with
 | lst xs=>obtain ⟨_,_,_,_,e⟩:=x; exact Heap.lt_size e
 | tup xs=>obtain ⟨_,_,_,p⟩:=x; exact p.lt
 | dK kvs=>obtain ⟨_,_,_,_,o,_,_,e,_⟩:=x; exact Heap.lt_size e
 | dT kvs=>obtain ⟨_,_,_,_,o,_,_,e,_⟩:=x; exact Heap.lt_size e
 | set S n=>obtain ⟨o,_,_,_,e,_⟩:=x; exact Heap.lt_size e
 | ins C dx fs=>obtain ⟨_,_,_,e,_⟩:=x; exact Heap.lt_size e
 | own y=>obtain ⟨_,e⟩:=x; exact Heap.lt_size e
 | xd fs=>obtain ⟨_,⟨_,_,_,e,_⟩,_⟩:=x; exact Heap.lt_size e
 | rng lo hi=>obtain ⟨_,_,_,e⟩:=x; exact Heap.lt_size e
 | frz ob u=>obtain ⟨e,_⟩:=x; exact Heap.lt_size e
 | tbl ps=>exact Heap.lt_size (show h.get? a = some _ from x)
 | met f y=>exact Heap.lt_size (show h.get? a = some _ from x)
 | ext φ=>obtain ⟨_,⟨_,e⟩,_⟩:=x; exact Heap.lt_size e
theorem Paired.mapP {α β:Type} {F G:α -> β -> Prop}:∀ {l₁:List α} {l₂:List β},Paired F l₁ l₂ -> (∀ a b,F a b -> G a b) -> Paired G l₁ l₂
 | _,_,.nil,_=>.nil
 | _,_,.cons r t,f=>.cons (f _ _ r) (Paired.mapP t f)
theorem ObjOk.stay (x:ObjOk P w H h a o) (k:∀ b u,(b = a \/ H b = some (.own a)) -> h.get? b = some u -> h'.get? b = some u)
  (ho:∀ b,H b = some (.own a) -> H' b = some (.own a)) (ht:∀ b xs,H b = some (.tup xs) -> H' b = some (.tup xs)):ObjOk P w H' h' a o:=by
 induction o with
 | lst xs=>obtain ⟨z,its,n,r,e⟩:=x; exact ⟨z,its,n,r,k _ _ (.inl rfl) e⟩
 | tup xs=>obtain ⟨z,its,r,ob,e,c⟩:=x; exact ⟨z,its,r,ob,k _ _ (.inl rfl) e,c⟩
 | dK kvs=>obtain ⟨z,y,vs,r,ob,es,ep,e,c⟩:=x; exact ⟨z,y,vs,r,ob,es,ep,k _ _ (.inl rfl) e,c⟩
 | dT kvs =>
  obtain ⟨z,y,xs,r,ob,es,ep,e,c⟩:=x
  exact ⟨z,y,xs,Paired.mapP r fun p q z=>⟨z.1,ht _ _ z.2.1,z.2.2⟩,ob,es,ep,k _ _ (.inl rfl) e,c⟩
 | set S n=>obtain ⟨ob,es,ep,t,e,c⟩:=x; exact ⟨ob,es,ep,t,k _ _ (.inl rfl) e,c⟩
 | ins C dx fs =>
  obtain ⟨d,z,ne,e,mA,⟨od,es,ep,e2,c⟩,r⟩:=x
  exact ⟨ho _ d,z,ne,k _ _ (.inl rfl) e,mA,⟨od,es,ep,k _ _ (.inr d) e2,c⟩,r⟩
 | own y=>obtain ⟨ob,e⟩:=x; exact ⟨ob,k _ _ (.inl rfl) e⟩
 | xd fs=>obtain ⟨mA,⟨od,es,ep,e,c⟩,r⟩:=x; exact ⟨mA,⟨od,es,ep,k _ _ (.inl rfl) e,c⟩,r⟩
 | rng lo hi=>obtain ⟨t,u,v,e⟩:=x; exact ⟨t,u,v,k _ _ (.inl rfl) e⟩
 | frz ob u ih=>obtain ⟨e,q⟩:=x; exact ⟨k _ _ (.inl rfl) e,ih q⟩
 | tbl ps =>
  have e:h.get? a = some { cls:=.none,data:=.fields ps }:=x
  show h'.get? a = some { cls:=.none,data:=.fields ps }
  exact k a _ (.inl rfl) e
 | met f y =>
  have e:h.get? a = some (PySem.W.methodObj (.ref f) (.ref y)):=x
  show h'.get? a = some (PySem.W.methodObj (.ref f) (.ref y))
  exact k a _ (.inl rfl) e
 | ext φ=>obtain ⟨p,⟨o,e⟩,st⟩:=x; exact ⟨st _ _ p fun o q=>k _ _ (.inl rfl) q,⟨o,k _ _ (.inl rfl) e⟩,st⟩
theorem HOk.lt (x:HOk P w H h) (e:H a = some o):a < h.objs.size:=(x a o e).lt
theorem HOk.fresh (x:HOk P w H h) (e:h.objs.size <= a):H a = none:=by
 cases q:H a with
 | none=>rfl
 | some u=>exact absurd (Nat.lt_of_lt_of_le (x.lt q) e) (Nat.lt_irrefl _)
theorem HOk.kept (x:HOk P w H h) (k:∀ b u,h.get? b = some u -> h'.get? b = some u):HOk P w H h':=fun a o e =>
 (x a o e).stay (fun b u _ q=>k b u q) (fun _ q=>q) fun _ _ q=>q
theorem HOk.laid (x:HOk P w H h) (k:∀ b u,h.get? b = some u -> h'.get? b = some u) (hp:h.objs.size <= a) (new:ObjOk P w (upd H a o) h' a o):HOk P w (upd H a o) h':=fun b u e=>by
 have hn:=x.fresh hp
 by_cases hb:b = a
 ·subst hb; rw [upd_same] at e; cases e; exact new
 ·rw [upd_ne hb] at e
  exact (x b u e).stay (fun c v _ q=>k c v q) (fun c q=>by rw [upd_ne (ne_of_none q hn)]; exact q) fun c xs q=>by rw [upd_ne (ne_of_none q hn)]; exact q
end
def Rd (H:Hp) (a:Addr) (u:HO):Prop:=H a = some u \/ ∃ o,H a = some (.frz o u)
theorem Rd.ok {P:Program} {w:World} {H:Hp} {h:Heap} {a:Addr} {u:HO} (r:Rd H a u) (x:HOk P w H h):ObjOk P w H h a u:=by
 rcases r with r | ⟨o,r⟩
 ·exact x a u r
 ·obtain ⟨_, q⟩ := x a _ r
  exact q
def Mut:Option HO -> Prop
 | some (.lst _)=>True
 | some (.dK _)=>True
 | some (.dT _)=>True
 | some (.set _ _)=>True
 | some (.ins _ _ _)=>True
 | some (.ext _)=>True
 | _=>False
section
variable {P:Program} {w:World} {H:Hp} {h h':Heap} {x e:Addr} {o':HO}
theorem HOk.write (ok:HOk P w H h) (mu:Mut (H x)) (he:e = x \/ H e = some (.own x)) (k:∀ b u,b ≠ e -> h.get? b = some u -> h'.get? b = some u) (heo:∃ u,h'.get? e = some u)
  (new:ObjOk P w (upd H x o') h' x o'):HOk P w (upd H x o') h':=fun b u q=>by
 have nown:∀ c y,H c = some (.own y) -> c ≠ x:=fun c y r z=>by subst z; rw [r] at mu; exact mu
 have ntup:∀ c xs,H c = some (.tup xs) -> c ≠ x:=fun c xs r z=>by subst z; rw [r] at mu; exact mu
 by_cases hb:b = x
 ·subst hb; rw [upd_same] at q; cases q; exact new
 ·rw [upd_ne hb] at q
  by_cases hbe:b = e
  ·have q' : H b = some (.own x) := by
    rcases he with z | z
    ·exact absurd (hbe.trans z) hb
    ·rw [hbe]; exact z
   rw [q] at q'; cases q'
   obtain ⟨v,hv⟩:=heo
   exact ⟨v,by rw [hbe]; exact hv⟩
  ·refine (ok b u q).stay (fun c v hc r => k c v ?_ r) (fun c r => by rw [upd_ne (nown c b r)]; exact r) fun c xs r => by rw [upd_ne (ntup c xs r)]; exact r
   rcases hc with rfl | hc
   ·exact hbe
   ·rintro rfl
    rcases he with z | z
    ·exact nown c b hc z
    ·rw [hc] at z; cases z; exact hb rfl
end
structure Un (fs ex:List Addr) (H H':Hp) (h h':Heap):Prop where
 keep:∀ b o,h.get? b = some o -> H b = none -> b ∉ fs -> b ∉ ex -> h'.get? b = some o
 slot:∀ b o,h.get? b = some o -> H b = none -> b ∈ fs -> b ∉ ex -> ∃ sl,h'.get? b = some { o with slots:=sl }
 free:∀ b o,h.get? b = some o -> H b = none -> b ∉ ex -> H' b = none
 there:∀ b o,h.get? b = some o -> b ∉ ex -> ∃ o',h'.get? b = some o'
 tups:∀ b xs,H b = some (.tup xs) -> H' b = some (.tup xs)
 frzs:∀ b o u,H b = some (.frz o u) -> H' b = some (.frz o u)
 tbls:∀ b ps,H b = some (.tbl ps) -> ∃ more,H' b = some (.tbl (ps ++ more))
section
variable {fs fs' ex ex':List Addr} {H H1 H2:Hp} {h h1 h2 h':Heap} {a x e:Addr} {o:HO}
theorem Un.any (u:Un fs ex H H1 h h1) {b:Addr} {ob:Obj} (q:h.get? b = some ob) (n:H b = none) (hx:b ∉ ex):∃ sl,h1.get? b = some { ob with slots:=sl }:=by
 by_cases hb:b ∈ fs
 ·exact u.slot b ob q n hb hx
 ·exact ⟨ob.slots,u.keep b ob q n hb hx⟩
theorem Un.kept (k:∀ b u,h.get? b = some u -> h'.get? b = some u):Un fs ex H H h h' :=
 ⟨fun b ob q _ _ _=>k b ob q,fun b ob q _ _ _=>⟨ob.slots,k b ob q⟩,fun _ _ _ n _=>n,fun b ob q _=>⟨ob,k b ob q⟩,fun _ _ q=>q,fun _ _ _ q=>q,fun _ ps q=>⟨#[],by rw [q]; simp⟩⟩
theorem Un.refl:Un fs ex H H h h:=Un.kept fun _ _ q=>q
theorem Un.laid (k:∀ b u,h.get? b = some u -> h'.get? b = some u) (hp:h.objs.size <= a) (hn:H a = none):Un fs ex H (upd H a o) h h' where
 keep:=fun b u q _ _ _=>k b u q
 slot:=fun b u q _ _ _=>⟨u.slots,k b u q⟩
 free:=fun b u q n _=>by rw [upd_ne (Nat.ne_of_lt (Nat.lt_of_lt_of_le (Heap.lt_size q) hp))]; exact n
 there:=fun b u q _=>⟨u,k b u q⟩
 tups:=fun b xs q=>by rw [upd_ne (ne_of_none q hn)]; exact q
 frzs:=fun b u xs q=>by rw [upd_ne (ne_of_none q hn)]; exact q
 tbls:=fun b ps q=>⟨#[],by rw [upd_ne (ne_of_none q hn),q]; simp⟩
theorem Un.write (mu:Mut (H x)) (he:e = x \/ H e = some (.own x)) (k:∀ b u,b ≠ e -> h.get? b = some u -> h'.get? b = some u) (heo:∃ u,h'.get? e = some u):Un fs ex H (upd H x o) h h':=by
 have hx:∀ b,H b = none -> b ≠ x:=fun b n z=>by subst z; rw [n] at mu; exact mu
 have hb:∀ b,H b = none -> b ≠ e:=fun b n z=>by
  subst z
  rcases he with r | r
  ·exact hx b n r
  ·rw [n] at r; cases r
 have hm:∀ b u,H b = some u -> ¬ Mut (some u) -> b ≠ x:=fun b u q nm z=>by subst z; rw [q] at mu; exact nm mu
 refine ⟨fun b u q n _ _=>k b u (hb b n) q,fun b u q n _ _=>⟨u.slots,k b u (hb b n) q⟩,fun b u q n _=>by rw [upd_ne (hx b n)]; exact n,fun b u q _=>?_,
  fun b xs q=>by rw [upd_ne (hm b _ q fun z=>z)]; exact q,fun b u xs q=>by rw [upd_ne (hm b _ q fun z=>z)]; exact q,fun b ps q=>⟨#[],by rw [upd_ne (hm b _ q fun z=>z),q]; simp⟩⟩
 by_cases hbe:b = e
 ·subst hbe; exact heo
 ·exact ⟨u,k b u hbe q⟩
end
def trk (h:Heap) (H:Hp):List Addr:=(List.range h.objs.size).filter fun a=>(H a).isSome
def hidT (h:Heap) (H:Hp):Heap:=PySem.W.hideAll h (trk h H)
theorem hidT_size (h:Heap) (H:Hp):(hidT h H).objs.size = h.objs.size:=PySem.W.hideAll_size _ _
theorem hidT_get {h:Heap} {H:Hp} {b:Addr} {o:Obj} (e:h.get? b = some o) (n:H b = none):(hidT h H).get? b = some o :=
 PySem.W.hideAll_get _ e fun hm=>by
  have q:(H b).isSome = true:=(List.mem_filter.mp hm).2
  rw [n] at q; simp at q
theorem of_hidT {h:Heap} {H:Hp} {b:Addr} {o:Obj} (e:(hidT h H).get? b = some o):h.get? b = some o /\ H b = none:=by
 have e':h.get? b = some o:=PySem.W.of_hideAll (trk h H) e
 refine ⟨e',?_⟩
 cases q:H b with
 | none=>rfl
 | some x =>
  have hm:b ∈ trk h H:=List.mem_filter.mpr ⟨List.mem_range.mpr (Heap.lt_size e'),by simp [q]⟩
  have z:(hidT h H).get? b = none:=PySem.W.hideAll_none (trk h H) hm
  rw [z] at e; cases e
def allNews (g h:Heap) (L:Addr):List (Addr × Obj):=(List.range h.objs.size).filterMap fun a=>if a = L \/ (g.get? a).isSome = true then none else (h.get? a).map fun o=>(a,o)
def rest (g h:Heap) (L d:Addr):List (Addr × Obj):=(allNews g h L).filter fun p=>decide (p.1 ≠ d)
end L2
namespace L2
open PySem PySem.Spec PyProof.Rows
structure Mod (K:PySem.W.Frag) (mg:Str -> Option Value) (base:Heap):Prop where
 kin:K.In base
 glob:base.Ns mainGlobals mg
 blt:∃ mb,base.Ns builtinsNs mb /\ ∀ x:Str,x ≠ "__name__" -> mb x = bootBuiltins x
 nolimit:base.NoLimit
structure Cx where
 prog:Program
 w:World
 K:PySem.W.Frag
 mg:Str -> Option Value
 base:Heap
 A:Around
 N:List Str
 s₀:Shared
 H₀:Hp
 env:Env
 outer:List Env
 stack:List Env
 ex:List Addr
 fn:Str -> Bool
 calm:Bool
 pn:List (Addr × Obj)
 xe:Value -> Shared -> Prop
def frs (l:List Env):List Addr:=l.filterMap (·.frame)
abbrev Cx.fs (X:Cx):List Addr:=frs X.outer
def Vis (sc:Scope) (x:Str):Prop:=sc.names.lookup x = some .local \/ sc.names.lookup x = some .cell \/ sc.names.lookup x = some .free
def Loc (sc:Scope) (x:Str):Prop:=sc.names.lookup x = some .local \/ sc.names.lookup x = some .cell
def Look (env:Env) (h:Heap) (m:Str -> Option Value) (x:Str) (u:Value):Prop :=
 (env.kindOf x = some .local /\ m x = some u) \/ ((env.kindOf x = some .cell \/ env.kindOf x = some .free) /\ ∃ c,env.cells.lookup x = some c /\ h.IsCell c (some u))
structure Cx.Ok (X:Cx):Prop where
 mod:Mod X.K X.mg X.base
 kind:X.env.scope.kind = .function
 glob:X.env.globals = mainGlobals
 blt:X.env.builtins = builtinsNs
 above:X.s₀.heap.objs.size <= X.env.locals
 inj:∀ x y c,X.env.cells.lookup x = some c -> X.env.cells.lookup y = some c -> x = y
 has:∀ x,(X.env.kindOf x = some .cell \/ X.env.kindOf x = some .free) -> ∃ c,X.env.cells.lookup x = some c
 cab:∀ x c,X.fn x = true -> X.env.cells.lookup x = some c -> X.s₀.heap.objs.size <= c
 hd:X.calm = true -> X.A.handled = none
 frames:X.A.frames = some X.stack
 stk:X.stack = X.outer \/ (X.stack = X.env :: X.outer /\ X.env.frame = some X.env.locals)
 exf:∀ b ∈ X.ex,b ≠ X.env.locals /\ ∀ x c,X.env.cells.lookup x = some c -> c ≠ b
 bs:∀ b o,X.base.get? b = some o -> X.s₀.heap.get? b = some o /\ X.H₀ b = none
 bsz:X.base.objs.size <= X.s₀.heap.objs.size
 noex:∀ b o,X.base.get? b = some o -> b ∉ X.ex
 exfs:∀ b ∈ X.ex,b ∉ X.fs
 funs:X.s₀.heap.FunFrames X.base X.outer
 frf:∀ b ∈ X.fs,X.H₀ b = none
structure Inv (X:Cx) (pins:List (Addr × Obj)) (σ:List (Option V)) (H:Hp) (s:Shared):Prop where
 ok:X.Ok
 os:s.os = X.s₀.os
 bare:AllBare s.gens
 base:Un X.fs X.ex X.H₀ H X.s₀.heap s.heap
 loc:∃ m,s.heap.Ns X.env.locals m /\ ∀ (i:Nat) (x:Str) (v:V),X.N[i]? = some x -> σ[i]? = some (some v) -> Vis X.env.scope x -> ∃ u,RelV v u /\ Look X.env s.heap m x u
 cell:∀ x c,X.env.cells.lookup x = some c -> ∃ v,s.heap.IsCell c v
 free:H X.env.locals = none
 freeC:∀ x c,X.env.cells.lookup x = some c -> H c = none
 pin:∀ p ∈ X.pn ++ pins,s.heap.get? p.1 = some p.2 /\ H p.1 = none /\ p.1 ≠ X.env.locals /\ p.1 ∉ X.fs /\ ∀ v,p.2.data ≠ .cell v
 hok:HOk X.prog X.w H s.heap
 len:σ.length = X.N.length
section
variable {X:Cx} {pins:List (Addr × Obj)} {σ:List (Option V)} {H H':Hp} {s:Shared} {h':Heap}
theorem Cx.Ok.nofr (ok:X.Ok) {b:Addr} {o:Obj} (e:X.base.get? b = some o):b ∉ X.fs:=fun hb=>by
 have:=(ok.funs.mem hb).1
 rw [e] at this; cases this
theorem Inv.bs (I:Inv X pins σ H s):∀ b o,X.base.get? b = some o -> s.heap.get? b = some o /\ H b = none:=fun b o e =>
 ⟨I.base.keep b o (I.ok.bs b o e).1 (I.ok.bs b o e).2 (I.ok.nofr e) (I.ok.noex b o e),I.base.free b o (I.ok.bs b o e).1 (I.ok.bs b o e).2 (I.ok.noex b o e)⟩
theorem Inv.bk (I:Inv X pins σ H s):∀ b o,X.base.get? b = some o -> s.heap.get? b = some o:=fun b o e=>(I.bs b o e).1
theorem Inv.mod (I:Inv X pins σ H s):Mod X.K X.mg X.base:=I.ok.mod
theorem Inv.kIn (I:Inv X pins σ H s):X.K.In s.heap:=I.ok.mod.kin.keeps I.bk
theorem Inv.lt (I:Inv X pins σ H s):X.env.locals < s.heap.objs.size:=let ⟨_,hn,_⟩:=I.loc; hn.lt
theorem Inv.sz (I:Inv X pins σ H s):X.s₀.heap.objs.size <= s.heap.objs.size:=Nat.le_trans I.ok.above (Nat.le_of_lt I.lt)
theorem Inv.nofs (I:Inv X pins σ H s) {a:Addr} (h:s.heap.objs.size <= a):a ∉ X.fs:=fun hb=>by
 obtain ⟨_,o,ho,_⟩:=I.ok.funs.mem hb
 exact absurd (Nat.lt_of_lt_of_le (Heap.lt_size ho) (Nat.le_trans I.sz h)) (Nat.lt_irrefl _)
theorem Inv.cne (I:Inv X pins σ H s):∀ x c,X.env.cells.lookup x = some c -> c ≠ X.env.locals:=fun x c e z=>by
 obtain ⟨v,o,ho,hd⟩:=I.cell x c e
 obtain ⟨m,⟨o',es,ep,ho',hd',_⟩,_⟩:=I.loc
 rw [z,ho'] at ho; cases ho; rw [hd'] at hd; cases hd
theorem Inv.funs (I:Inv X pins σ H s):s.heap.FunFrames X.base X.outer:=by
 have all:∀ (l:List Env),(∀ b ∈ frs l,b ∈ X.fs) -> X.s₀.heap.FunFrames X.base l -> s.heap.FunFrames X.base l:=by
  intro l
  induction l with
  | nil=>intro _ _; trivial
  | cons env r ih =>
   intro hs hl
   obtain ⟨hk,⟨L,o,hf,hn,ho,hd⟩,hr⟩:=hl
   have hL:L ∈ X.fs:=hs L (by unfold frs; rw [List.filterMap_cons,hf]; exact List.mem_cons_self)
   obtain ⟨sl,e⟩:=I.base.slot L o ho (I.ok.frf L hL) hL fun z=>I.ok.exfs L z hL
   exact ⟨hk,⟨L,_,hf,hn,e,hd⟩,ih (fun b hb=>hs b (by unfold frs; rw [List.filterMap_cons,hf]; exact List.mem_cons_of_mem _ hb)) hr⟩
 exact all X.outer (fun _ hb=>hb) I.ok.funs
theorem Inv.stack (I:Inv X pins σ H s):s.heap.FunFrames X.base X.stack:=by
 rcases I.ok.stk with e | ⟨e,hf⟩
 ·rw [e]; exact I.funs
 ·rw [e]
  obtain ⟨m,hn,_⟩:=I.loc
  refine .cons (by rw [I.ok.kind]; decide) hf hn ?_ I.funs
  exact Heap.get?_none_of_le (Nat.le_trans I.ok.bsz I.ok.above)
theorem Inv.stkSub (I:Inv X pins σ H s):∀ b ∈ frs X.stack,b ∈ X.env.locals :: X.fs:=fun b hb=>by
 rcases I.ok.stk with e | ⟨e,hf⟩
 ·rw [e] at hb; exact List.mem_cons_of_mem _ hb
 ·rw [e] at hb
  unfold frs at hb
  rw [List.filterMap_cons,hf] at hb
  exact hb
theorem Inv.stkFree (I:Inv X pins σ H s):∀ b ∈ frs X.stack,H b = none:=fun b hb=>by
 rcases List.mem_cons.mp (I.stkSub b hb) with e | hb
 ·rw [e]; exact I.free
 ·obtain ⟨_, o, ho, _⟩ := I.ok.funs.mem hb
  exact I.base.free b o ho (I.ok.frf b hb) fun z=>I.ok.exfs b z hb
theorem Inv.step {g':Array GenState} {t':Nat} {d':Drawn} {ch:List Addr} (I:Inv X pins σ H s)
  (hch:∀ b ∈ ch,(b ∈ X.ex \/ X.s₀.heap.objs.size <= b) /\ b ≠ X.env.locals /\ (∀ x c,X.env.cells.lookup x = some c -> c ≠ b) /\ ∀ p ∈ X.pn ++ pins,p.1 ≠ b)
  (keep:∀ b o,b ≠ X.env.locals -> b ∉ X.fs -> b ∉ ch -> s.heap.get? b = some o -> H b = none -> h'.get? b = some o)
  (slot:∀ b o,b ≠ X.env.locals -> b ∈ X.fs -> b ∉ ch -> s.heap.get? b = some o -> H b = none -> ∃ sl,h'.get? b = some { o with slots:=sl }) (free:∀ b o,b ∉ ch -> s.heap.get? b = some o -> H b = none -> H' b = none)
  (there:∀ b o,b ∉ ch -> s.heap.get? b = some o -> ∃ o',h'.get? b = some o')
  (tups:∀ b xs,H b = some (.tup xs) -> H' b = some (.tup xs)) (frzs:∀ b o u,H b = some (.frz o u) -> H' b = some (.frz o u)) (tbls:∀ b ps,H b = some (.tbl ps) -> ∃ more,H' b = some (.tbl (ps ++ more)))
  (ns:∀ m,s.heap.Ns X.env.locals m -> h'.Ns X.env.locals m) (hok:HOk X.prog X.w H' h') (hg:AllBare g') :
  Inv X pins σ H' { s with heap:=h',gens:=g',drawn:=d',toks:=t' }:=by
 have neL:∀ b o,X.s₀.heap.get? b = some o -> b ≠ X.env.locals:=fun b o e=>Nat.ne_of_lt (Nat.lt_of_lt_of_le (Heap.lt_size e) I.ok.above)
 have neC:∀ b o,X.s₀.heap.get? b = some o -> b ∉ X.ex -> b ∉ ch:=fun b o e hx hb=>by
  rcases (hch b hb).1 with z | z
  ·exact hx z
  ·exact absurd (Nat.lt_of_lt_of_le (Heap.lt_size e) z) (Nat.lt_irrefl _)
 have cellK:∀ x c,X.env.cells.lookup x = some c -> ∀ v,s.heap.IsCell c v -> h'.IsCell c v:=fun x c e v ⟨o,ho,hd⟩=>by
  have nch:c ∉ ch:=fun z=>(hch c z).2.2.1 x c e rfl
  by_cases hc:c ∈ X.fs
  ·obtain ⟨sl, q⟩ := slot c o (I.cne x c e) hc nch ho (I.freeC x c e)
   exact ⟨_,q,hd⟩
  ·exact ⟨o,keep c o (I.cne x c e) hc nch ho (I.freeC x c e),hd⟩
 refine ⟨I.ok,I.os,hg,⟨fun b o e n hb hx=>?_,fun b o e n hb hx=>?_,fun b o e n hx=>?_,fun b o e hx=>?_,fun b xs e=>tups b xs (I.base.tups b xs e),fun b o xs e=>frzs b o xs (I.base.frzs b o xs e),fun b ps e=>?_⟩,?_,fun x c e=>?_,?_,fun x c e=>?_,fun p hp=>?_,hok,I.len⟩
 ·exact keep b o (neL b o e) hb (neC b o e hx) (I.base.keep b o e n hb hx) (I.base.free b o e n hx)
 ·obtain ⟨sl, e1⟩ := I.base.slot b o e n hb hx
  obtain ⟨sl',e2⟩:=slot b _ (neL b o e) hb (neC b o e hx) e1 (I.base.free b o e n hx)
  exact ⟨sl',e2⟩
 ·obtain ⟨o', e1⟩ := I.base.there b o e hx
  exact free b o' (neC b o e hx) e1 (I.base.free b o e n hx)
 ·obtain ⟨o', e1⟩ := I.base.there b o e hx
  exact there b o' (neC b o e hx) e1
 ·obtain ⟨m1, e1⟩ := I.base.tbls b ps e
  obtain ⟨m2,e2⟩:=tbls b _ e1
  exact ⟨m1 ++ m2,by rw [e2,Array.append_assoc]⟩
 ·obtain ⟨m, hn, hl⟩ := I.loc
  refine ⟨m,ns m hn,fun i x v e1 e2 e3=>?_⟩
  obtain ⟨u,r,l⟩:=hl i x v e1 e2 e3
  refine ⟨u,r,?_⟩
  rcases l with l | ⟨k,c,e,z⟩
  ·exact .inl l
  ·exact .inr ⟨k,c,e,cellK x c e _ z⟩
 ·obtain ⟨v, z⟩ := I.cell x c e
  exact ⟨v,cellK x c e v z⟩
 ·obtain ⟨m, ⟨o, _, _, ho, _⟩, _⟩ := I.loc
  exact free _ o (fun z=>(hch _ z).2.1 rfl) ho I.free
 ·obtain ⟨v, o, ho, hd⟩ := I.cell x c e
  exact free c o (fun z=>(hch c z).2.2.1 x c e rfl) ho (I.freeC x c e)
 ·obtain ⟨e, n, ne, nf, d⟩ := I.pin p hp
  have nch:p.1 ∉ ch:=fun z=>(hch p.1 z).2.2.2 p hp rfl
  exact ⟨keep p.1 p.2 ne nf nch e n,free p.1 p.2 nch e n,ne,nf,d⟩
theorem Inv.un {t':Nat} (I:Inv X pins σ H s) (u:Un X.fs [] H H' s.heap h') (hok:HOk X.prog X.w H' h'):Inv X pins σ H' { s with heap:=h',toks:=t' }:=by
 obtain ⟨m,⟨o,es,ep,ho,r⟩,_⟩:=id I.loc
 obtain ⟨sl,hL⟩:=u.any ho I.free (by simp)
 exact I.step (g':=s.gens) (d':=s.drawn) (ch:=[]) (fun _ z=>nomatch z) (fun b o _ hb _ e n=>u.keep b o e n hb (by simp)) (fun b o _ hb _ e n=>u.slot b o e n hb (by simp)) (fun b o _ e n=>u.free b o e n (by simp)) (fun b o _ e=>u.there b o e (by simp)) u.tups u.frzs u.tbls (fun m' hm=>by
  obtain ⟨o',es',ep',ho',r'⟩:=hm
  rw [ho] at ho'; cases ho'
  exact ⟨_,es',ep',hL,r'⟩) hok I.bare
theorem Inv.call {g':Array GenState} {t':Nat} {d':Drawn} {ch:List Addr} (I:Inv X pins σ H s) (u:Un (frs X.stack) ch H H' s.heap h') (hok:HOk X.prog X.w H' h') (hg:AllBare g')
  (hch:∀ b ∈ ch,(b ∈ X.ex \/ X.s₀.heap.objs.size <= b) /\ b ≠ X.env.locals /\ (∀ x c,X.env.cells.lookup x = some c -> c ≠ b) /\ ∀ p ∈ X.pn ++ pins,p.1 ≠ b) :
  Inv X pins σ H' { s with heap:=h',gens:=g',drawn:=d',toks:=t' }:=by
 obtain ⟨m,⟨o,es,ep,ho,r⟩,_⟩:=id I.loc
 obtain ⟨sl,hL⟩:=u.any ho I.free fun z=>(hch _ z).2.1 rfl
 exact I.step (ch:=ch) hch (fun b o hL hb hc e n=>u.keep b o e n (fun z=>(List.mem_cons.mp (I.stkSub b z)).elim hL hb) hc) (fun b o _ _ hc e n=>u.any e n hc) (fun b o hc e n=>u.free b o e n hc) (fun b o hc e=>u.there b o e hc) u.tups u.frzs u.tbls (fun m' hm=>by
  obtain ⟨o',es',ep',ho',r'⟩:=hm
  rw [ho] at ho'; cases ho'
  exact ⟨_,es',ep',hL,r'⟩) hok hg
theorem Inv.turned {t':Nat} {it:Addr} (I:Inv X pins σ H s) (k:∀ b o,b ≠ it -> s.heap.get? b = some o -> h'.get? b = some o) (hn:H it = none) (hL:it ≠ X.env.locals)
  (h1:it ∈ X.ex \/ X.s₀.heap.objs.size <= it) (h2:∀ x c,X.env.cells.lookup x = some c -> c ≠ it) (h3:∀ p ∈ X.pn ++ pins,p.1 ≠ it):Inv X pins σ H { s with heap:=h',toks:=t' }:=by
 have nit:∀ b u,H b = some u -> b ≠ it:=fun b u e z=>by rw [z,hn] at e; cases e
 refine I.step (g':=s.gens) (d':=s.drawn) (ch:=[it]) (fun b hb=>?_) (fun b o _ _ hc e _=>k b o (fun z=>hc (by simp [z])) e) (fun b o _ _ hc e _=>⟨o.slots,k b o (fun z=>hc (by simp [z])) e⟩) (fun _ _ _ _ n=>n)
  (fun b o hc e=>⟨o,k b o (fun z=>hc (by simp [z])) e⟩) (fun _ _ e=>e) (fun _ _ _ e=>e) (fun b ps e=>⟨#[],by rw [e]; simp⟩) (fun m hm=>?_) (fun b u e=>?_) I.bare
 ·have e : b = it := by simpa using hb
  subst e
  exact ⟨h1,hL,h2,h3⟩
 ·obtain ⟨o, es, ep, ho, r⟩ := hm
  exact ⟨o,es,ep,k _ o (Ne.symm hL) ho,r⟩
 ·refine (I.hok b u e).stay (fun c v hc q => k c v ?_ q) (fun _ q => q) fun _ _ q => q
  rcases hc with z | z
  ·rw [z]; exact nit b u e
  ·exact nit c _ z
theorem Inv.tok (I:Inv X pins σ H s) (t:Nat):Inv X pins σ H { s with toks:=t }:=I.un (h':=s.heap) (t':=t) Un.refl I.hok
theorem Inv.kept {t':Nat} (I:Inv X pins σ H s) (k:∀ b u,s.heap.get? b = some u -> h'.get? b = some u):Inv X pins σ H { s with heap:=h',toks:=t' }:=I.un (Un.kept k) (I.hok.kept k)
theorem Inv.laid {a:Addr} {o:HO} {t':Nat} (I:Inv X pins σ H s) (k:∀ b u,s.heap.get? b = some u -> h'.get? b = some u) (hp:s.heap.objs.size <= a) (new:ObjOk X.prog X.w (upd H a o) h' a o) :
  Inv X pins σ (upd H a o) { s with heap:=h',toks:=t' }:=I.un (Un.laid k hp (I.hok.fresh hp)) (I.hok.laid k hp new)
theorem Inv.write {x e:Addr} {o:HO} {t':Nat} (I:Inv X pins σ H s) (mu:Mut (H x)) (he:e = x \/ H e = some (.own x)) (k:∀ b u,b ≠ e -> s.heap.get? b = some u -> h'.get? b = some u) (heo:∃ u,h'.get? e = some u)
  (new:ObjOk X.prog X.w (upd H x o) h' x o):Inv X pins σ (upd H x o) { s with heap:=h',toks:=t' }:=I.un (Un.write mu he k heo) (I.hok.write mu he k heo new)
theorem Inv.weak {σ':List (Option V)} (I:Inv X pins σ H s) (hl:σ'.length = σ.length) (w:∀ (i:Nat) v,σ'[i]? = some (some v) -> σ[i]? = some (some v)):Inv X pins σ' H s :=
 ⟨I.ok,I.os,I.bare,I.base,let ⟨m,hn,hl'⟩:=I.loc; ⟨m,hn,fun i x v e1 e2 e3=>hl' i x v e1 (w i v e2) e3⟩,I.cell,I.free,I.freeC,I.pin,I.hok,hl.trans I.len⟩
theorem Inv.pins_of {pins':List (Addr × Obj)} (I:Inv X pins σ H s) (h:∀ p ∈ pins',s.heap.get? p.1 = some p.2 /\ H p.1 = none /\ p.1 ≠ X.env.locals /\ p.1 ∉ X.fs /\ ∀ v,p.2.data ≠ .cell v):Inv X pins' σ H s :=
 ⟨I.ok,I.os,I.bare,I.base,I.loc,I.cell,I.free,I.freeC,fun p hp=>(List.mem_append.mp hp).elim (fun z=>I.pin p (List.mem_append_left _ z)) (h p),I.hok,I.len⟩
theorem nodup_ix {N:List Str} (hN:N.Nodup) {i j:Nat} {x:Str} (a:N[i]? = some x) (b:N[j]? = some x):i = j:=by
 obtain ⟨h1,e1⟩:=List.getElem?_eq_some_iff.mp a
 obtain ⟨h2,e2⟩:=List.getElem?_eq_some_iff.mp b
 exact (List.getElem_inj hN).mp (e1.trans e2.symm)
theorem store_ok2 {M:Model} {A:Around} {E:Value -> Shared -> Prop} {i:Nat} {x:Str} {v:V} {u:Value} {Q:Unit -> Shared -> Prop} (I:Inv X pins σ H s) (hN:X.N.Nodup) (hi:X.N[i]? = some x) (hx:Loc X.env.scope x) (r:RelV v u)
  (h:∀ s',Inv X pins (σ.set i (some v)) H s' -> (∃ a,Heap.SameBut a s.heap s'.heap /\ (a = X.env.locals \/ X.env.cells.lookup x = some a)) -> Q () s') (hf:X.fn x = true \/ X.env.scope.names.lookup x = some .local:=by first | exact .inl rfl | exact .inr rfl | assumption):wpAny M A (storeName X.env x u) Q E s:=by
 obtain ⟨m,hn,hl⟩:=id I.loc
 have hcls:(X.env.scope.kind == .class || (X.env.scope.kind == .module && X.env.locals != X.env.globals)) = false:=by rw [I.ok.kind]; rfl
 have hiσ:i < σ.length:=by rw [I.len]; exact (List.getElem?_eq_some_iff.mp hi).1
 have cne:=I.cne
 have tracked:∀ {a:Addr} {h':Heap},(∃ o,s.heap.get? a = some o /\ H a = none) -> Heap.SameBut a s.heap h' -> HOk X.prog X.w H h':=fun {a h'} ha hs b ob e=>by
  obtain ⟨_,_,hfree⟩:=ha
  refine (I.hok b ob e).stay (fun c w' hc q=>(hs.2 c ?_).trans q) (fun _ q=>q) fun _ _ q=>q
  rintro rfl
  rcases hc with rfl | hc
  ·rw [hfree] at e; cases e
  ·rw [hfree] at hc; cases hc
 rcases hx with hk | hk
 ·refine wpAny_storeName_local hk hn (fun h' hn' hs => ?_) hcls
  obtain ⟨oL,_,_,hoL,_⟩:=id hn
  refine h _ ⟨I.ok,I.os,I.bare,⟨fun b o e n hb hx=>?_,fun b o e n hb hx=>?_,I.base.free,fun b o e hx=>?_,I.base.tups,I.base.frzs,I.base.tbls⟩,⟨_,hn',fun j y v' e1 e2 e3=>?_⟩,fun y c e=>?_,I.free,I.freeC,fun p hp=>?_,tracked ⟨oL,hoL,I.free⟩ hs,by simpa using I.len⟩ ⟨_,hs,.inl rfl⟩
  ·exact (hs.2 b (Nat.ne_of_lt (Nat.lt_of_lt_of_le (Heap.lt_size e) I.ok.above))).trans (I.base.keep b o e n hb hx)
  ·obtain ⟨sl, e1⟩ := I.base.slot b o e n hb hx
   exact ⟨sl,(hs.2 b (Nat.ne_of_lt (Nat.lt_of_lt_of_le (Heap.lt_size e) I.ok.above))).trans e1⟩
  ·obtain ⟨o', e1⟩ := I.base.there b o e hx
   exact ⟨o',(hs.2 b (Nat.ne_of_lt (Nat.lt_of_lt_of_le (Heap.lt_size e) I.ok.above))).trans e1⟩
  ·by_cases hj : j = i
   ·subst hj
    rw [hi] at e1; cases e1
    rw [List.getElem?_set_self hiσ] at e2
    cases e2
    exact ⟨u,r,.inl ⟨hk,by simp⟩⟩
   ·rw [List.getElem?_set_ne (Ne.symm hj)] at e2
    obtain ⟨u',r',q⟩:=hl j y v' e1 e2 e3
    refine ⟨u',r',?_⟩
    rcases q with ⟨k,e⟩ | ⟨k,c,e,z⟩
    ·refine .inl ⟨k, ?_⟩
     have:y ≠ x:=fun e=>hj (nodup_ix hN e1 (e ▸ hi))
     simp [this,e]
    ·exact .inr ⟨k,c,e,z.sameBut hs (cne y c e)⟩
  ·obtain ⟨w', z⟩ := I.cell y c e
   exact ⟨w',z.sameBut hs (cne y c e)⟩
  ·obtain ⟨e, n, ne, nf, d⟩ := I.pin p hp
   exact ⟨(hs.2 p.1 ne).trans e,n,ne,nf,d⟩
 ·have hfn : X.fn x = true := by
   rcases hf with z | z
   ·exact z
   ·rw [z] at hk; cases hk
  obtain ⟨c,hc⟩:=I.ok.has x (.inl hk)
  obtain ⟨w',z⟩:=I.cell x c hc
  refine wpAny_storeName_cell I.ok.kind hk hc z (fun h' hc' hs=>?_)
  obtain ⟨oc,hoc,hocd⟩:=id z
  refine h { s with heap:=h' } ⟨I.ok,I.os,I.bare,⟨fun b o e n hb hx=>?_,fun b o e n hb hx=>?_,I.base.free,fun b o e hx=>?_,I.base.tups,I.base.frzs,I.base.tbls⟩,⟨m,hn.sameBut hs (Ne.symm (cne x c hc)),fun j y v' e1 e2 e3=>?_⟩,fun y c' e=>?_,I.free,I.freeC,fun p hp=>?_,tracked ⟨oc,hoc,I.freeC x c hc⟩ hs,by simpa using I.len⟩ ⟨c,hs,.inr hc⟩
  ·exact (hs.2 b (Nat.ne_of_lt (Nat.lt_of_lt_of_le (Heap.lt_size e) (I.ok.cab x c hfn hc)))).trans (I.base.keep b o e n hb hx)
  ·obtain ⟨sl, e1⟩ := I.base.slot b o e n hb hx
   exact ⟨sl,(hs.2 b (Nat.ne_of_lt (Nat.lt_of_lt_of_le (Heap.lt_size e) (I.ok.cab x c hfn hc)))).trans e1⟩
  ·obtain ⟨o', e1⟩ := I.base.there b o e hx
   exact ⟨o',(hs.2 b (Nat.ne_of_lt (Nat.lt_of_lt_of_le (Heap.lt_size e) (I.ok.cab x c hfn hc)))).trans e1⟩
  ·by_cases hj : j = i
   ·subst hj
    rw [hi] at e1; cases e1
    rw [List.getElem?_set_self hiσ] at e2
    cases e2
    exact ⟨u,r,.inr ⟨.inl hk,c,hc,hc'⟩⟩
   ·rw [List.getElem?_set_ne (Ne.symm hj)] at e2
    obtain ⟨u',r',q⟩:=hl j y v' e1 e2 e3
    refine ⟨u',r',?_⟩
    rcases q with q | ⟨k,c',e,z'⟩
    ·exact .inl q
    ·refine .inr ⟨k, c', e, z'.sameBut hs ?_⟩
     rintro rfl
     exact hj (nodup_ix hN e1 (I.ok.inj _ _ _ e hc ▸ hi))
  ·by_cases hcc : c' = c
   ·subst hcc; exact ⟨_,hc'⟩
   ·obtain ⟨w2, z2⟩ := I.cell y c' e
    exact ⟨w2,z2.sameBut hs hcc⟩
  ·obtain ⟨e, n, ne, nf, d⟩ := I.pin p hp
   refine ⟨(hs.2 p.1 ?_).trans e,n,ne,nf,d⟩
   intro q
   rw [q,hoc] at e
   have q':oc = p.2:=Option.some.inj e
   exact d w' (by rw [<- q']; exact hocd)
theorem store_ok {M:Model} {A:Around} {E:Value -> Shared -> Prop} {i:Nat} {x:Str} {v:V} {u:Value} {Q:Unit -> Shared -> Prop} (I:Inv X pins σ H s) (hN:X.N.Nodup) (hi:X.N[i]? = some x) (hx:Loc X.env.scope x) (r:RelV v u)
  (h:∀ s',Inv X pins (σ.set i (some v)) H s' -> Q () s') (hf:X.fn x = true \/ X.env.scope.names.lookup x = some .local:=by first | exact .inl rfl | exact .inr rfl | assumption):wpAny M A (storeName X.env x u) Q E s :=
 store_ok2 I hN hi hx r (fun s' I' _=>h s' I') hf
theorem Inv.call' {s':Shared} {ch:List Addr} (I:Inv X pins σ H s) (ho:s'.os = s.os) (u:Un (frs X.stack) ch H H' s.heap s'.heap) (hok:HOk X.prog X.w H' s'.heap) (hg:AllBare s'.gens)
  (hch:∀ b ∈ ch,(b ∈ X.ex \/ X.s₀.heap.objs.size <= b) /\ b ≠ X.env.locals /\ (∀ x c,X.env.cells.lookup x = some c -> c ≠ b) /\ ∀ p ∈ X.pn ++ pins,p.1 ≠ b):Inv X pins σ H' s':=by
 obtain ⟨h',g',d',t',o'⟩:=s'
 have e:o' = s.os:=ho
 subst e
 exact I.call (g':=g') (t':=t') (d':=d') u hok hg hch
end
abbrev XK:=Value -> Option Addr -> Hp -> Prop
abbrev St:=List (Option V)
abbrev VK:=V -> Hp -> Prop
abbrev TE:=St -> Hp -> VK -> Prop
abbrev TT:=St -> Hp -> (Bool -> Hp -> Prop) -> Prop
abbrev TA:=St -> Hp -> (List V -> Hp -> Prop) -> Prop
structure Ends where
 nx:St -> Hp -> Prop
 rt:VK
 bk:St -> Hp -> Prop:=fun _ _=>False
 ct:St -> Hp -> Prop:=fun _ _=>False
abbrev TS:=Ends -> St -> Hp -> Prop
def EP (X:Cx) (pins:List (Addr × Obj)) (σ:St) (Q:VK) (u:Value) (s':Shared):Prop:=∃ v H',Inv X pins σ H' s' /\ RelV v u /\ Q v H'
def TP (X:Cx) (pins:List (Addr × Obj)) (σ:St) (Q:Bool -> Hp -> Prop) (b:Bool) (s':Shared):Prop:=∃ H',Inv X pins σ H' s' /\ Q b H'
def AP (X:Cx) (pins:List (Addr × Obj)) (σ:St) (Q:List V -> Hp -> Prop) (us:List Value) (s':Shared):Prop:=∃ vs H',Inv X pins σ H' s' /\ Vals vs us /\ Q vs H'
def SP (X:Cx) (pins:List (Addr × Obj)) (D:Ends) (f:Flow) (s':Shared):Prop :=
 match f with
 | .next=>∃ σ' H',Inv X pins σ' H' s' /\ D.nx σ' H'
 | .brk=>∃ σ' H',Inv X pins σ' H' s' /\ D.bk σ' H'
 | .cont=>∃ σ' H',Inv X pins σ' H' s' /\ D.ct σ' H'
 | .ret u=>∃ v σ' H',Inv X pins σ' H' s' /\ RelV v u /\ D.rt v H'
def PE (X:Cx) (e:Expr) (t:TE):Prop :=
 ∀ (pins:List (Addr × Obj)) (s:Shared) (σ:St) (H:Hp) (Q:VK),Inv X pins σ H s -> t σ H Q -> wpAny (model X.prog X.w) X.A (eval e X.env) (EP X pins σ Q) X.xe s
def PT (X:Cx) (e:Expr) (t:TT):Prop :=
 ∀ (pins:List (Addr × Obj)) (s:Shared) (σ:St) (H:Hp) (Q:Bool -> Hp -> Prop),Inv X pins σ H s -> t σ H Q -> wpAny (model X.prog X.w) X.A (isTrue e X.env (eval e X.env)) (TP X pins σ Q) X.xe s
def PW (X:Cx) (e:Expr) (t:TT):Prop :=
 ∀ (whole:Sem Value) (pins:List (Addr × Obj)) (s:Shared) (σ:St) (H:Hp) (Q:Bool -> Hp -> Prop),Inv X pins σ H s -> t σ H Q -> wpAny (model X.prog X.w) X.A (isTrue e X.env whole) (TP X pins σ Q) X.xe s
theorem PW.pt {X:Cx} {e:Expr} {t:TT} (h:PW X e t):PT X e t:=h _
def PA (X:Cx) (es:List Expr) (t:TA):Prop :=
 ∀ (pos:Pos) (pins:List (Addr × Obj)) (s:Shared) (σ:St) (H:Hp) (Q:List V -> Hp -> Prop),Inv X pins σ H s -> t σ H Q -> wpAny (model X.prog X.w) X.A (spliced (backTo pos (starEach es X.env))) (AP X pins σ Q) X.xe s
def PS (X:Cx) (st:Stmt) (t:TS):Prop :=
 ∀ (pins:List (Addr × Obj)) (s:Shared) (σ:St) (H:Hp) (D:Ends),Inv X pins σ H s -> t D σ H -> wpAny (model X.prog X.w) X.A (exec st X.env) (SP X pins D) X.xe s
def PSs (X:Cx) (st:List Stmt) (t:TS):Prop :=
 ∀ (pins:List (Addr × Obj)) (s:Shared) (σ:St) (H:Hp) (D:Ends),Inv X pins σ H s -> t D σ H -> wpAny (model X.prog X.w) X.A (execs st X.env) (SP X pins D) X.xe s
theorem thn {α:Type} {t:Sem α} {Q Q':α -> Shared -> Prop} {M:Model} {A:Around} {E:Value -> Shared -> Prop} {s:Shared} (h:wpAny M A t Q E s) (hQ:∀ a s,Q a s -> Q' a s):wpAny M A t Q' E s:=wpAny_mono h hQ fun _ _ x=>x
end L2
namespace L2
open PySem PySem.Spec PyProof.Rows
section
variable {X:Cx}
def tVar (i:Nat):TE:=fun σ H Q=>∃ v,σ[i]? = some (some v) /\ Q v H
def tC (v:V):TE:=fun _ H Q=>Q v H
theorem pe_var {i:Nat} {x:Str} {pos:Pos} (hN:X.N[i]? = some x) (hv:Vis X.env.scope x) (hd:(x == ("__debug__" : Str)) = false:=by decide) (hcd:(x == ("__classdict__" : Str)) = false:=by decide):PE X (.Name x pos) (tVar i):=by
 intro pins s σ H Q I h
 obtain ⟨v,e,h⟩:=h
 obtain ⟨m,hn,hl⟩:=I.loc
 obtain ⟨u,r,l⟩:=hl i x v hN e hv
 have fin:EP X pins σ Q u s:=⟨v,H,I,r,h⟩
 rcases l with ⟨hk,hm⟩ | ⟨hk,c,hc,hcell⟩
 ·exact wpAny_Name (wpAny_loadName_local I.ok.kind hk hn hm fin) hd
 ·rcases hk with hk | hk
  ·exact wpAny_Name (wpAny_loadName_cell I.ok.kind hk hc hcell fin) hd
  ·exact wpAny_Name (wpAny_loadName_free I.ok.kind hk hc hcell fin hcd) hd
theorem pe_int {i j pos}:PE X (.Constant (.int i) j pos) (tC (.int i)):=fun _ _ _ H _ I h=>wpAny_Constant_int ⟨.int i,H,I.tok _,⟨_,rfl⟩,h⟩
theorem pe_bl {b j pos}:PE X (.Constant (.bool b) j pos) (tC (.bl b)):=fun _ _ _ H _ I h=>Constant_bool ⟨.bl b,H,I,rfl,h⟩
theorem pe_non {j pos}:PE X (.Constant .none j pos) (tC .non):=fun _ _ _ H _ I h=>Constant_none ⟨.non,H,I,rfl,h⟩
theorem pe_str {x j pos}:PE X (.Constant (.str x) j pos) (tC (.str x)):=fun _ _ _ H _ I h=>Calls.Constant_str ⟨.str x,H,I.tok _,⟨_,rfl⟩,h⟩
def Gl (X:Cx) (x:Str):Prop:=X.env.kindOf x = some .globalImplicit
theorem ld_glob {E:Value -> Shared -> Prop} {pins:List (Addr × Obj)} {s:Shared} {σ:St} {H:Hp} {x:Str} {u:Value} {pos:Pos} {Q:Value -> Shared -> Prop} (I:Inv X pins σ H s) (hg:Gl X x) (hm:X.mg x = some u) (h:Q u s)
  (hd:(x == ("__debug__" : Str)) = false:=by decide):wpAny (model X.prog X.w) X.A (eval (.Name x pos) X.env) Q E s :=
 Calls.Name_function_global I.ok.kind hg (Calls.loadGlobal_global (by rw [I.ok.glob]; exact I.mod.glob.keeps I.bk) hm h) hd
theorem ld_blt {E:Value -> Shared -> Prop} {pins:List (Addr × Obj)} {s:Shared} {σ:St} {H:Hp} {x:Str} {u:Value} {pos:Pos} {Q:Value -> Shared -> Prop} (I:Inv X pins σ H s) (hg:Gl X x) (hm:X.mg x = none) (hv:bootBuiltins x = some u) (h:Q u s)
  (hn:x ≠ "__name__" := by decide) (hd:(x == ("__debug__" : Str)) = false:=by decide):wpAny (model X.prog X.w) X.A (eval (.Name x pos) X.env) Q E s:=by
 obtain ⟨mb,h1,h2⟩:=I.mod.blt
 exact Calls.Name_function_global I.ok.kind hg (Calls.loadGlobal_builtin (by rw [I.ok.glob]; exact I.mod.glob.keeps I.bk) hm (by rw [I.ok.blt]; exact h1.keeps I.bk) ((h2 x hn).trans hv) h) hd
variable {a b:Expr} {ta tb:TE} {pos:Pos}
variable {tA tB':TT} {rest:List Expr}
def tOr (t u:TT):TT:=fun σ H Q=>t σ H fun c H1=>if c = true then Q true H1 else u σ H1 Q
theorem pw_or1 (ha:PT X a tA):PW X (.BoolOp .Or [a] pos) tA:=by
 intro wh pins s σ H Q I h
 refine isTrue_or (thn (ha pins s σ H Q I h) fun c s1 e=>?_)
 cases c with
 | false=>exact isTrue_or_nil e
 | true=>exact e
theorem pw_or (ha:PT X a tA) (hb:PW X (.BoolOp .Or (b :: rest) pos) tB'):PW X (.BoolOp .Or (a :: b :: rest) pos) (tOr tA tB'):=by
 intro wh pins s σ H Q I h
 refine isTrue_or (thn (ha pins s σ H _ I h) fun c s1 ⟨H1,I1,q1⟩=>?_)
 cases c with
 | true=>exact ⟨H1,I1,q1⟩
 | false=>exact hb wh pins s1 σ H1 Q I1 q1
def tIf (t:TT) (ta tb:TE):TE:=fun σ H Q=>t σ H fun c H1=>if c = true then ta σ H1 Q else tb σ H1 Q
theorem pe_ifExp {c:Expr} (hc:PT X c tA) (ha:PE X a ta) (hb:PE X b tb):PE X (.IfExp c a b pos) (tIf tA ta tb):=by
 intro pins s σ H Q I h
 refine wpAny_IfExp (thn (hc pins s σ H _ I h) fun d s1 ⟨H1,I1,q1⟩=>?_)
 cases d with
 | true=>exact ha pins s1 σ H1 Q I1 q1
 | false=>exact hb pins s1 σ H1 Q I1 q1
end
end L2
namespace L2
open PySem PySem.Spec PyProof.Rows
def SqL (K:PySem.W.Frag) (H:Hp) (a:Addr) (xs:List V):Prop :=
 Rd H a (.lst xs) \/
  ∃ (o:Obj) (its:Array Value) (n:Nat),K.lookup a = some o /\ o.cls = .type "list" /\ o.dict = none /\ o.data = .seq its n /\ its.size <= sizeLine /\ Vals xs its.toList
def SqT (K:PySem.W.Frag) (H:Hp) (a:Addr) (xs:List V):Prop :=
 Rd H a (.tup xs) \/
  ∃ (o:Obj) (its:Array Value) (n:Nat),K.lookup a = some o /\ o.cls = .type "tuple" /\ o.data = .seq its n /\ its.size <= sizeLine /\ Vals xs its.toList
def absV:Value -> Option V
 | .none=>some .non
 | .bool b=>some (.bl b)
 | .int i _=>some (.int i)
 | .str x _=>some (.str x)
 | .bytes b _=>some (.byt b)
 | .float b _=>some (.flt b)
 | .ref a=>some (.ref a)
 | .type n=>some (.ty n)
 | _=>none
theorem RelV.abs {x:V} {u:Value} (r:RelV x u):absV u = some x:=by
 cases x with
 | non=>cases r; rfl
 | bl _=>cases r; rfl
 | int _=>obtain ⟨t,rfl⟩:=r; rfl
 | str _=>obtain ⟨t,rfl⟩:=r; rfl
 | byt _=>obtain ⟨t,rfl⟩:=r; rfl
 | flt _=>obtain ⟨t,rfl⟩:=r; rfl
 | ref _=>cases r; rfl
 | ty _=>cases r; rfl
theorem RelV.inj {x y:V} {u:Value} (r:RelV x u) (q:RelV y u):x = y:=Option.some.inj (r.abs.symm.trans q.abs)
theorem Vals.inj:∀ {xs ys:List V} {us:List Value},Vals xs us -> Vals ys us -> xs = ys
 | _,_,_,.nil,.nil=>rfl
 | _,_,_,.cons r t,.cons r' t'=>by rw [r.inj r',Vals.inj t t']
section
variable {X:Cx} {pins:List (Addr × Obj)} {σ:St} {H:Hp} {s:Shared} {a:Addr} {xs ys:List V}
theorem SqL.of {K:PySem.W.Frag} (h:H a = some (.lst xs)):SqL K H a xs:=.inl (.inl h)
theorem Inv.list (I:Inv X pins σ H s) (h:SqL X.K H a xs):∃ its:List Value,Vals xs its /\ PlainL s.heap a its.toArray /\ xs.length <= sizeLine:=by
 rcases h with h | ⟨o,its,n,hk,hc,hd,hs,hz,r⟩
 ·obtain ⟨z, its, n, r, e⟩ := h.ok I.hok
  exact ⟨its,r,⟨_,n,e,rfl,rfl,rfl⟩,z⟩
 ·refine ⟨its.toList, r, ⟨o, n, I.kIn a o hk, hc, hd, by simpa using hs⟩, ?_⟩
  have e:=r.length
  simp only [Array.length_toList] at e
  lia
theorem Inv.tuple (I:Inv X pins σ H s) (h:SqT X.K H a xs):∃ its:List Value,Vals xs its /\ IsTup s.heap a its.toArray /\ xs.length <= sizeLine:=by
 rcases h with h | ⟨o,its,n,hk,hc,hs,hz,r⟩
 ·obtain ⟨z, its, r, p⟩ := h.ok I.hok
  exact ⟨its,r,p,z⟩
 ·refine ⟨its.toList, r, ⟨o, I.kIn a o hk, hc, n, by simpa using hs⟩, ?_⟩
  have e:=r.length
  simp only [Array.length_toList] at e
  lia
theorem Inv.list_inj (I:Inv X pins σ H s) (h:SqL X.K H a xs) (h':SqL X.K H a ys):xs = ys:=by
 obtain ⟨its,r,⟨o,n,e,_,_,d⟩,_⟩:=I.list h
 obtain ⟨its',r',⟨o',n',e',_,_,d'⟩,_⟩:=I.list h'
 rw [e] at e'; cases e'
 rw [d] at d'
 injection d' with d1 _
 have:its = its':=by simpa using congrArg Array.toList d1
 subst this
 exact r.inj r'
theorem Inv.tuple_inj (I:Inv X pins σ H s) (h:SqT X.K H a xs) (h':SqT X.K H a ys):xs = ys:=by
 obtain ⟨its,r,⟨o,e,_,n,d⟩,_⟩:=I.tuple h
 obtain ⟨its',r',⟨o',e',_,n',d'⟩,_⟩:=I.tuple h'
 rw [e] at e'; cases e'
 rw [d] at d'
 injection d' with d1 _
 have:its = its':=by simpa using congrArg Array.toList d1
 subst this
 exact r.inj r'
end
abbrev Cx.wish (X:Cx) (E:Value -> Shared -> Prop):Cx:={ X with xe:=E }
abbrev Cx.nox (X:Cx):Cx:=X.wish fun _ _=>False
theorem Cx.Ok.wish {X:Cx} (ok:X.Ok) (E:Value -> Shared -> Prop):(X.wish E).Ok :=
 ⟨ok.mod,ok.kind,ok.glob,ok.blt,ok.above,ok.inj,ok.has,ok.cab,ok.hd,ok.frames,ok.stk,ok.exf,ok.bs,ok.bsz,ok.noex,ok.exfs,ok.funs,ok.frf⟩
theorem Cx.Ok.unwish {X:Cx} {E:Value -> Shared -> Prop} (ok:(X.wish E).Ok):X.Ok :=
 ⟨ok.mod,ok.kind,ok.glob,ok.blt,ok.above,ok.inj,ok.has,ok.cab,ok.hd,ok.frames,ok.stk,ok.exf,ok.bs,ok.bsz,ok.noex,ok.exfs,ok.funs,ok.frf⟩
section
variable {X:Cx} {pins:List (Addr × Obj)} {σ:St} {H:Hp} {s:Shared} {E:Value -> Shared -> Prop}
theorem Inv.wish (I:Inv X pins σ H s) (E:Value -> Shared -> Prop):Inv (X.wish E) pins σ H s:=⟨I.ok.wish E,I.os,I.bare,I.base,I.loc,I.cell,I.free,I.freeC,I.pin,I.hok,I.len⟩
theorem Inv.unwish (I:Inv (X.wish E) pins σ H s):Inv X pins σ H s:=⟨I.ok.unwish,I.os,I.bare,I.base,I.loc,I.cell,I.free,I.freeC,I.pin,I.hok,I.len⟩
theorem SP.unwish {D:Ends} {f:Flow} {s':Shared} (h:SP (X.wish E) pins D f s'):SP X pins D f s':=by
 cases f with
 | next=>obtain ⟨σ',H',I,q⟩:=h; exact ⟨σ',H',I.unwish,q⟩
 | brk=>obtain ⟨σ',H',I,q⟩:=h; exact ⟨σ',H',I.unwish,q⟩
 | cont=>obtain ⟨σ',H',I,q⟩:=h; exact ⟨σ',H',I.unwish,q⟩
 | ret u=>obtain ⟨v,σ',H',I,r,q⟩:=h; exact ⟨v,σ',H',I.unwish,r,q⟩
theorem PSs.nox {st:List Stmt} {t:TS} (h:PSs X.nox st t):PSs X st t:=fun pins s σ H D I hw =>
 wpAny_mono (h pins s σ H D (I.wish _) hw) (fun _ _ q=>q.unwish) fun _ _ z=>False.elim z
end
section
variable {X:Cx} {st:Stmt} {rest:List Stmt} {t u:TS} {e:Expr} {te:TE} {pos:Pos}
def tNext:TS:=fun D σ H=>D.nx σ H
def tSeq (t u:TS):TS:=fun D σ H=>t { D with nx:=u D } σ H
theorem pss_nil:PSs X [] tNext:=fun _ _ σ H _ I h=>wpAny_execs_nil ⟨σ,H,I,h⟩
theorem pss_cons (h1:PS X st t) (h2:PSs X rest u):PSs X (st :: rest) (tSeq t u):=by
 intro pins s σ H D I h
 refine wpAny_execs_cons (thn (h1 pins s σ H { D with nx:=u D } I h) fun f s1 q=>?_)
 cases f with
 | next =>
  obtain ⟨σ',H',I',q⟩:=q
  exact h2 pins s1 σ' H' D I' q
 | ret v=>exact q
 | brk=>exact q
 | cont=>exact q
theorem pss_one (h1:PS X st t):PSs X [st] t:=by
 intro pins s σ H D I h
 refine wpAny_execs_cons (thn (h1 pins s σ H D I h) fun f s1 q=>?_)
 cases f with
 | next=>exact wpAny_execs_nil q
 | ret v=>exact q
 | brk=>exact q
 | cont=>exact q
theorem Inv.quiet {pins:List (Addr × Obj)} {σ:St} {H:Hp} {s:Shared} (I:Inv X pins σ H s):interactive X.env = false:=by simp [interactive,I.ok.kind]
def tDrop (te:TE):TS:=fun D σ H=>te σ H fun _ H1=>D.nx σ H1
theorem ps_expr (he:PE X e te) (hs:swapsWith e none pos.line X.env = pure false:=by rfl):PS X (.Expr e pos) (tDrop te):=by
 intro pins s σ H D I h
 exact wpAny_Expr_any (thn (he pins s σ H _ I h) fun v s1 ⟨x,H1,I1,r1,q1⟩=>⟨σ,H1,I1,q1⟩) I.quiet hs
def tRet (te:TE):TS:=fun D σ H=>te σ H D.rt
theorem ps_ret (he:PE X e te):PS X (.Return (some e) pos) (tRet te):=by
 intro pins s σ H D I h
 exact wpAny_Return_some (thn (he pins s σ H _ I h) fun v s1 ⟨x,H1,I1,r1,q1⟩=>⟨x,σ,H1,I1,r1,q1⟩)
def tIfS (c:TT) (t u:TS):TS:=fun D σ H=>c σ H fun b H1=>if b = true then t D σ H1 else u D σ H1
theorem ps_if {c:Expr} {a b:List Stmt} {tc:TT} (hc:PT X c tc) (ha:PSs X a t) (hb:PSs X b u):PS X (.If c a b pos) (tIfS tc t u):=by
 intro pins s σ H D I h
 refine wpAny_If (thn (hc pins s σ H _ I h) fun d s1 ⟨H1,I1,q1⟩=>?_)
 cases d with
 | true=>exact ha pins s1 σ H1 D I1 q1
 | false=>exact hb pins s1 σ H1 D I1 q1
end
abbrev TG:=V -> St -> Hp -> (St -> Hp -> Prop) -> Prop
abbrev TGs:=List V -> St -> Hp -> (St -> Hp -> Prop) -> Prop
def PG (X:Cx) (target:Expr) (t:TG):Prop :=
 ∀ (pins:List (Addr × Obj)) (s:Shared) (σ:St) (H:Hp) (v:V) (u:Value) (Q:St -> Hp -> Prop),Inv X pins σ H s -> RelV v u -> t v σ H Q ->
  wpAny (model X.prog X.w) X.A (assign target X.env u) (fun _ s'=>∃ σ' H',Inv X pins σ' H' s' /\ Q σ' H') X.xe s
def PGs (X:Cx) (ts:List Expr) (t:TGs):Prop :=
 ∀ (pins:List (Addr × Obj)) (s:Shared) (σ:St) (H:Hp) (vs:List V) (us:List Value) (Q:St -> Hp -> Prop),Inv X pins σ H s -> Vals vs us -> t vs σ H Q ->
  wpAny (model X.prog X.w) X.A (assignInOrder ((assignEach ts X.env).map (·.2)) us) (fun _ s'=>∃ σ' H',Inv X pins σ' H' s' /\ Q σ' H') X.xe s
abbrev TSet:=V -> V -> V -> Hp -> (Hp -> Prop) -> Prop
def PSet (X:Cx) (t:TSet):Prop :=
 ∀ (pins:List (Addr × Obj)) (s:Shared) (σ:St) (H:Hp) (o i v:V) (ov iv u:Value) (Q:Hp -> Prop),Inv X pins σ H s -> RelV o ov -> RelV i iv -> RelV v u -> t o i v H Q ->
  wpAny (model X.prog X.w) X.A (setItem ov iv u) (fun _ s'=>∃ H',Inv X pins σ H' s' /\ Q H') X.xe s
abbrev TIp:=V -> V -> Hp -> VK -> Prop
def PIp (X:Cx) (op:Operator) (t:TIp):Prop :=
 ∀ (pins:List (Addr × Obj)) (s:Shared) (σ:St) (H:Hp) (x y:V) (v u:Value) (Q:VK),Inv X pins σ H s -> RelV x v -> RelV y u -> t x y H Q ->
  wpAny (model X.prog X.w) X.A (inplaceOp op v u) (EP X pins σ Q) X.xe s
section
variable {X:Cx} {pos:Pos}
def gName (i:Nat):TG:=fun v σ H Q=>Q (σ.set i (some v)) H
theorem pg_name {i:Nat} {x:Str} (hN:X.N.Nodup) (hi:X.N[i]? = some x) (hx:Loc X.env.scope x) (hf:X.fn x = true \/ X.env.scope.names.lookup x = some .local:=by first | exact .inl rfl | exact .inr rfl | assumption):PG X (.Name x pos) (gName i):=by
 intro pins s σ H v u Q I r h
 exact wpAny_assign_Name (store_ok I hN hi hx r (fun s' I'=>⟨_,H,I',h⟩) hf)
def gNil:TGs:=fun vs σ H Q=>vs = [] /\ Q σ H
def gCons (t:TG) (u:TGs):TGs:=fun vs σ H Q=>∃ v r,vs = v :: r /\ t v σ H fun σ' H'=>u r σ' H' Q
theorem pgs_nil:PGs X [] gNil:=by
 intro pins s σ H vs us Q I r h
 obtain ⟨e,h⟩:=h
 subst e
 cases r
 exact assignInOrder_nil ⟨σ,H,I,h⟩
theorem pgs_cons {e:Expr} {es:List Expr} {t:TG} {u:TGs} (h1:PG X e t) (h2:PGs X es u)
  (hs:(assignEach (e :: es) X.env).map (·.2) = assign e X.env :: (assignEach es X.env).map (·.2):=by rfl):PGs X (e :: es) (gCons t u):=by
 intro pins s σ H vs us Q I r h
 obtain ⟨v,vr,e1,h⟩:=h
 subst e1
 cases r with
 | cons r rr =>
  rw [hs]
  refine assignInOrder_cons (thn (h1 pins s σ H _ _ _ I r h) fun _ s1 ⟨σ1,H1,I1,q1⟩=>?_)
  exact h2 pins s1 σ1 H1 _ _ Q I1 rr q1
def gTup (K:PySem.W.Frag) (n:Nat) (t:TGs):TG:=fun v σ H Q=>∃ a xs,v = .ref a /\ SqT K H a xs /\ xs.length = n /\ t xs σ H Q
theorem pg_tup {es:List Expr} {k:Nat} {t:TGs} {n:Nat} (hc:X.calm = true) (h:PGs X es t)
  (hn:(assignEach es X.env).length = n:=by rfl) (hst:(assignEach es X.env).findIdx? (·.1) = none:=by rfl):PG X (.Tuple es k pos) (gTup X.K n t):=by
 intro pins s σ H v u Q I r hw
 obtain ⟨a,xs,e1,hq,hl,hw⟩:=hw
 subst e1
 cases r
 obtain ⟨its,rv,ht,hz⟩:=I.tuple hq
 refine assign_Tuple_tuple (I.ok.hd hc) ht (by simp [hn,<- hl,rv.length]) hst fun h' hx=>?_
 have I1:Inv X pins σ H { s with heap:=h' }:=I.kept (t':=s.toks) fun b o e=>hx b o (Nat.ne_of_lt (Heap.lt_size e)) e
 exact h pins _ σ H xs _ Q I1 (by simpa using rv) hw
def gSub (to ti:TE) (t:TSet):TG:=fun v σ H Q=>to σ H fun o H1=>ti σ H1 fun i H2=>t o i v H2 fun H3=>Q σ H3
theorem pg_sub {o i:Expr} {to ti:TE} {t:TSet} (ho:PE X o to) (hi:PE X i ti) (hs:PSet X t)
  (ha : ∀ v, assign (.Subscript o i pos) X.env v = (do
   let ov <- holding [v] (eval o X.env)
   let iv <- holding [v,ov] (eval i X.env)
   standAt pos
   holding [v,ov,iv] (setItem ov iv v)
   release [v,ov,iv] []):=by intro _; rfl):PG X (.Subscript o i pos) (gSub to ti t):=by
 intro pins s σ H v u Q I r h
 rw [ha]
 refine wpAny_bind (wpAny_holding (thn (ho pins s σ H _ I h) fun ov s1 ⟨x,H1,I1,r1,q1⟩=>?_))
 refine wpAny_bind (wpAny_holding (thn (hi pins s1 σ H1 _ I1 q1) fun iv s2 ⟨y,H2,I2,r2,q2⟩=>?_))
 refine wpAny_bind (wpAny_standAt (wpAny_bind (wpAny_holding (thn (hs pins s2 σ H2 x y v ov iv u _ I2 r1 r2 r q2) fun _ s3 ⟨H3,I3,q3⟩=>?_))))
 exact wpAny_release ⟨σ,H3,I3,q3⟩
def tAsg (te:TE) (g:TG):TS:=fun D σ H=>te σ H fun x H1=>g x σ H1 D.nx
theorem ps_asg {tg e:Expr} {te:TE} {g:TG} (he:PE X e te) (hg:PG X tg g) (hs:swapsWithSole [tg] e pos.line X.env = pure false:=by rfl) (hw:swappedStores [tg] e X.env = pure none:=by rfl)
  (h1:(assignEach [tg] X.env).map (·.2) = [assign tg X.env]:=by rfl):PS X (.Assign [tg] e pos) (tAsg te g):=by
 intro pins s σ H D I h
 refine wpAny_Assign_stores (thn (he pins s σ H _ I h) fun v s1 ⟨x,H1,I1,r1,q1⟩=>?_) hs hw
 rw [h1]
 exact thn (hg pins s1 σ H1 x v _ I1 r1 q1) fun _ s2 q=>q
theorem ps_set {i:Nat} {x:Str} {e:Expr} {te:TE} {pos':Pos} (hN:X.N.Nodup) (hi:X.N[i]? = some x) (hx:Loc X.env.scope x) (he:PE X e te) (hs:swapsWith e (some (.Name x pos')) pos.line X.env = pure false:=by rfl) (hf:X.fn x = true \/ X.env.scope.names.lookup x = some .local:=by first | exact .inl rfl | exact .inr rfl | assumption) :
  PS X (.Assign [.Name x pos'] e pos) (tAsg te (gName i)):=by
 intro pins s σ H D I h
 refine wpAny_Assign_Name (thn (he pins s σ H _ I h) fun v s1 ⟨y,H1,I1,r1,q1⟩=>?_) hs
 exact store_ok I1 hN hi hx r1 (fun s2 I2=>⟨_,H1,I2,q1⟩) hf
def tPar (i j:Nat) (ta:TA):TS:=fun D σ H=>ta σ H fun vs H1=>∃ v w,vs = [v,w] /\ D.nx ((σ.set i (some v)).set j (some w)) H1
theorem ps_par {i j:Nat} {x y:Str} {a b:Expr} {ta:TA} {px py pt:Pos} {kt k2 pt2} (hc:X.calm = true) (hN:X.N.Nodup) (hi:X.N[i]? = some x) (hj:X.N[j]? = some y) (hij:i ≠ j)
  (hx:X.env.scope.names.lookup x = some .local) (hy:X.env.scope.names.lookup y = some .local) (ha:PA X [a,b] ta)
  (hw:swappedStores [.Tuple [.Name x px,.Name y py] kt pt] (.Tuple [a,b] k2 pt2) X.env = pure (some [x,y]))
  (hs:swapsWithSole [.Tuple [.Name x px,.Name y py] kt pt] (.Tuple [a,b] k2 pt2) pos.line X.env = pure false:=by rfl) :
  PS X (.Assign [.Tuple [.Name x px,.Name y py] kt pt] (.Tuple [a,b] k2 pt2) pos) (tPar i j ta):=by
 intro pins s σ H D I h
 rw [exec_Assign_arm]
 refine wpAny_bind (wpAny_standAt ?_)
 rw [hs]
 refine wpAny_bind (wpAny_pure ?_)
 rw [if_neg (by decide)]
 refine wpAny_bind (Tuple_ (thn (ha _ pins s σ H _ I h) fun us s1 ⟨vs,H1,I1,r1,q1⟩=>?_))
 obtain ⟨v,w,e1,q1⟩:=q1
 subst e1
 obtain ⟨u1,u2,rfl,rv,rw'⟩:∃ u1 u2,us = [u1,u2] /\ RelV v u1 /\ RelV w u2:=by
  cases r1 with
  | cons p q =>
   cases q with
   | cons p' q' =>
    cases q'
    exact ⟨_,_,rfl,p,p'⟩
 refine wpAny_newObj_type ?_ (by show 2 <= sizeLine; decide)
 have I2:Inv X pins σ H1 { s1 with heap:=s1.heap.push { cls:=.type "tuple",data:=.seq [u1,u2].toArray } }:=I1.kept (t':=s1.toks) fun b o e=>Heap.get?_push_of_some _ e
 rw [hw]
 refine wpAny_bind (wpAny_pure ?_)
 show wpAny (model X.prog X.w) X.A (do rule "assign.swapped-stores"; let items <- unpackItems (.ref s1.heap.objs.size) 2 none; assignInOrder [fun v=>bindName X.env y v,fun v=>bindName X.env x v] items.reverse; pure Flow.next) _ _ _
 refine wpAny_bind (wpAny_rule (wpAny_bind (unpackItems_tuple (items:=#[u1,u2]) (I.ok.hd hc) (IsTup.new s1.heap _) fun h' hx'=>?_)))
 have I3:=I2.kept (h':=h') (t':=s1.toks) fun b o e=>hx' b o (Nat.ne_of_lt (Heap.lt_size e)) e
 show wpAny _ _ (assignInOrder [fun v=>bindName X.env y v,fun v=>bindName X.env x v] [u2,u1] >>= fun _=>pure Flow.next) _ _ _
 refine wpAny_bind (assignInOrder_cons (wpAny_bindName (store_ok I3 hN hj (.inl hy) rw' (fun s2 I4=>?_) (.inr hy))))
 refine assignInOrder_cons (wpAny_bindName (store_ok I4 hN hi (.inl hx) rv (fun s3 I5=>assignInOrder_nil (wpAny_pure ?_)) (.inr hx)))
 rw [List.set_comm _ _ (Ne.symm hij)] at I5
 exact ⟨_,H1,I5,q1⟩
def tAug (i:Nat) (te:TE) (ti:TIp):TS:=fun D σ H=>∃ x,σ[i]? = some (some x) /\ te σ H fun y H1=>ti x y H1 fun z H2=>D.nx (σ.set i (some z)) H2
theorem ps_aug {i:Nat} {x:Str} {e:Expr} {te:TE} {op:Operator} {ti:TIp} {pos':Pos} (hN:X.N.Nodup) (hi:X.N[i]? = some x) (hx:Loc X.env.scope x) (he:PE X e te) (ho:PIp X op ti) (hf:X.fn x = true \/ X.env.scope.names.lookup x = some .local:=by first | exact .inl rfl | exact .inr rfl | assumption) :
  PS X (.AugAssign (.Name x pos') op e pos) (tAug i te ti):=by
 intro pins s σ H D I h
 obtain ⟨v,e1,h⟩:=h
 obtain ⟨m,hn,hl⟩:=I.loc
 have vis:Vis X.env.scope x:=by rcases hx with k | k; exact .inl k; exact .inr (.inl k)
 obtain ⟨u,r,l⟩:=hl i x v hi e1 vis
 refine wpAny_AugAssign_Name ?_
 have go:wpAny (model X.prog X.w) X.A (eval e X.env) (fun w s₂=>wpAny (model X.prog X.w) X.A (inplaceOp op u w) (fun r s₃=>wpAny (model X.prog X.w) X.A (storeName X.env x r) (fun _=>SP X pins D .next) X.xe s₃) X.xe s₂) X.xe s:=by
  refine thn (he pins s σ H _ I h) fun w s1 ⟨y,H1,I1,r1,q1⟩=>?_
  refine thn (ho pins s1 σ H1 v y u w _ I1 r r1 q1) fun z s2 ⟨zv,H2,I2,r2,q2⟩=>?_
  exact store_ok I2 hN hi hx r2 (fun s3 I3=>⟨_,H2,I3,q2⟩) hf
 rcases l with ⟨hk,hm⟩ | ⟨hk,c,hc,hcell⟩
 ·exact wpAny_loadName_local I.ok.kind hk hn hm go
 ·rcases hk with hk | hk
  ·exact wpAny_loadName_cell I.ok.kind hk hc hcell go
  ·rcases hx with k | k
   ·have : X.env.scope.names.lookup x = some .free := hk
    rw [k] at this; cases this
   ·have : X.env.scope.names.lookup x = some .free := hk
    rw [k] at this; cases this
def ipI (f:Int -> Int -> Int):TIp:=fun x y H Q=>∃ i j,x = .int i /\ y = .int j /\ Q (.int (f i j)) H
theorem ip_add:PIp X .Add (ipI fun i j=>i + j):=by
 intro pins s σ H x y v u Q I r1 r2 h
 obtain ⟨i,j,e1,e2,q⟩:=h
 subst e1; subst e2
 obtain ⟨t,rfl⟩:=r1
 obtain ⟨t',rfl⟩:=r2
 exact iadd_int ⟨.int _,H,I.tok _,⟨_,rfl⟩,q⟩
end
section
variable {X:Cx} {pos:Pos}
def tWhile (c:TT) (tb:TS):TS:=fun D σ H=>∃ W:Nat -> St -> Hp -> Prop,(∃ m,W m σ H) /\ ∀ m σ H,W m σ H ->
 c σ H fun b H1=>if b = true then ∃ N:St -> Hp -> Prop,(∀ σ' H',N σ' H' -> ∃ m',m' < m /\ W m' σ' H') /\ tb { D with nx:=N,ct:=N,bk:=D.nx } σ H1 else D.nx σ H1
theorem ps_while {c:Expr} {body:List Stmt} {tc:TT} {tb:TS} (hp:PassesOwn (model X.prog X.w) X.A X.env X.xe) (hc:PT X c tc) (hb:PSs X body tb):PS X (.While c body [] pos) (tWhile tc tb):=by
 intro pins s σ H D I h
 obtain ⟨W,⟨m0,w0⟩,turn⟩:=h
 refine wpAny_While (codeAny_whileLoop (fun n s'=>∃ σ' H',Inv X pins σ' H' s' /\ W n σ' H') ?_ m0 ⟨σ,H,I,w0⟩)
 rintro n s1 ⟨σ1,H1,I1,w1⟩
 refine wpAny_passesOwn hp (thn (hc pins s1 σ1 H1 _ I1 (turn n σ1 H1 w1)) fun b s2 ⟨H2,I2,q2⟩=>?_)
 cases b with
 | true =>
  obtain ⟨N,hN,q2⟩:=q2
  rw [if_pos rfl]
  refine wpAny_passesOwn hp (thn (hb pins s2 σ1 H2 _ I2 q2) fun f s3 q3=>?_)
  cases f with
  | next =>
   obtain ⟨σ3,H3,I3,n3⟩:=q3
   obtain ⟨m',hm,w3⟩:=hN σ3 H3 n3
   exact ⟨m',hm,σ3,H3,I3,w3⟩
  | cont =>
   obtain ⟨σ3,H3,I3,n3⟩:=q3
   obtain ⟨m',hm,w3⟩:=hN σ3 H3 n3
   exact ⟨m',hm,σ3,H3,I3,w3⟩
  | brk=>exact q3
  | ret v=>exact q3
 | false =>
  rw [if_neg Bool.false_ne_true]
  exact wpAny_execs_nil ⟨σ1,H2,I2,q2⟩
end
structure It where
 go:Nat -> Hp -> Prop
 yld:Nat -> Hp -> V -> Hp -> Prop
 stop:Nat -> Hp -> Prop
def FpOk (X:Cx) (pins:List (Addr × Obj)) (H:Hp) (b:Addr):Prop :=
 H b = none /\ b ≠ X.env.locals /\ b ∉ X.fs /\ (b ∈ X.ex \/ X.s₀.heap.objs.size <= b) /\ (∀ x c,X.env.cells.lookup x = some c -> c ≠ b) /\ ∀ p ∈ X.pn ++ pins,p.1 ≠ b
theorem Inv.fpOk {X:Cx} {pins:List (Addr × Obj)} {σ:St} {H H':Hp} {s:Shared} {b:Addr} (I:Inv X pins σ H s) (hb:s.heap.objs.size <= b) (hn:H' b = none):FpOk X pins H' b:=by
 refine ⟨hn,Nat.ne_of_gt (Nat.lt_of_lt_of_le I.lt hb),I.nofs hb,.inr (Nat.le_trans I.sz hb),fun x c e z=>?_,fun p hp z=>?_⟩
 ·obtain ⟨v, q⟩ := I.cell x c e
  exact absurd (Nat.lt_of_lt_of_le q.lt (by rw [z]; exact hb)) (Nat.lt_irrefl _)
 ·exact absurd (Nat.lt_of_lt_of_le (Heap.lt_size (I.pin p hp).1) (by rw [z]; exact hb)) (Nat.lt_irrefl _)
structure Turn (P:Program) (w:World) (K:PySem.W.Frag) (tg:Expr) (J:It) (fp:List Addr) (it:Addr) (tn:Nat -> Heap -> Prop):Prop where
 mem:it ∈ fp
 obj:∀ i h,tn i h -> ∀ b ∈ fp,∃ o,h.get? b = some o /\ ∀ v,o.data ≠ .cell v
 keep:∀ i h h',tn i h -> (∀ b ∈ fp,∀ o,h.get? b = some o -> h'.get? b = some o) -> tn i h'
 item:∀ (X:Cx),X.prog = P -> X.w = w -> X.K = K -> X.calm = true -> ∀ (i:Nat) (pins:List (Addr × Obj)) (s:Shared) (σ:St) (H:Hp) (E:Value -> Shared -> Prop),Inv X pins σ H s -> (∀ b ∈ fp,FpOk X pins H b) -> tn i s.heap -> J.go i H ->
  wpAny (model P w) X.A (pyNext (.ref it)) (fun r s1=>∃ u,r = some u /\
   wpAny (model P w) X.A (letOwnedTupleGo tg (.ref it) u) (fun _ s2=>∃ x H',Inv X pins σ H' s2 /\ RelV x u /\ J.yld i H x H' /\ tn (i + 1) s2.heap /\ ∀ b ∈ fp,H' b = none) E s1) E s
 done:∀ (X:Cx),X.prog = P -> X.w = w -> X.K = K -> X.calm = true -> ∀ (i:Nat) (pins:List (Addr × Obj)) (s:Shared) (σ:St) (H:Hp) (E:Value -> Shared -> Prop),Inv X pins σ H s -> (∀ b ∈ fp,FpOk X pins H b) -> tn i s.heap -> J.stop i H ->
  wpAny (model P w) X.A (pyNext (.ref it)) (fun r s1=>r = none /\ Inv X pins σ H s1) E s
 self:∀ (A:Around) (i:Nat) (s:Shared) (Q:Value -> Shared -> Prop) (E:Value -> Shared -> Prop),tn i s.heap -> Q (.ref it) s -> wpAny (model P w) A (pyIter (.ref it)) Q E s
abbrev TI:=St -> Hp -> (It -> Hp -> Prop) -> Prop
def PIE (X:Cx) (pins:List (Addr × Obj)) (σ:St) (tg:Expr) (R:It -> Hp -> Prop) (itv:Value) (s2:Shared):Prop :=
 ∃ (it:Addr) (fp:List Addr) (tn:Nat -> Heap -> Prop) (J:It) (H':Hp),itv = .ref it /\ Inv X pins σ H' s2 /\ Turn X.prog X.w X.K tg J fp it tn /\ tn 0 s2.heap /\ (∀ b ∈ fp,FpOk X pins H' b) /\ R J H'
def PI (X:Cx) (tg iter:Expr) (wi:TI):Prop :=
 ∀ (pins:List (Addr × Obj)) (s:Shared) (σ:St) (H:Hp) (R:It -> Hp -> Prop),Inv X pins σ H s -> wi σ H R ->
  wpAny (model X.prog X.w) X.A (eval iter X.env) (fun v s1=>wpAny (model X.prog X.w) X.A (pyIter v) (PIE X pins σ tg R) X.xe s1) X.xe s
theorem go_of {M : Model} {A : Around} {E : Value -> Shared -> Prop} {s : Shared} {tg : Expr} {it : Addr} {u : Value} {o : Obj} {n : String} {vs : Array Value} {Q : Unit -> Shared -> Prop} (ho : s.heap.get? it = some o) (hc : o.cls = .type n) (hd : o.data = .fields vs)
    (hn:["enumerate", "zip", "dict_itemiterator", "dict_reverseitemiterator", "odict_iterator", "itertools.zip_longest", "itertools.pairwise"].contains n = false) (hQ:Q () s):wpAny M A (letOwnedTupleGo tg (.ref it) u) Q E s:=by
  unfold letOwnedTupleGo
  cases tg <;> first
    | exact wpAny_pure hQ
    | (cases u <;> first
        | exact wpAny_pure hQ
        | (refine wpAny_bind (wpAny_load ho ?_)
           rw [hc,hd]
           show wpAny M A (if (["enumerate", "zip", "dict_itemiterator", "dict_reverseitemiterator", "odict_iterator", "itertools.zip_longest", "itertools.pairwise"].contains n && vs[0]? == some (rawInt _)) = true then _ else _) Q E s
           rw [if_neg (by intro h; rw [hn,Bool.false_and] at h; cases h)]
           exact wpAny_pure hQ))
def Itl (K:PySem.W.Frag) (a:Addr):It :=
 ⟨fun i H=>∃ xs x,SqL K H a xs /\ xs[i]? = some x,fun i H x H'=>H' = H /\ ∀ xs,SqL K H a xs -> xs[i]? = some x,fun i H=>∃ xs,SqL K H a xs /\ xs.length <= i⟩
def Itt (K:PySem.W.Frag) (a:Addr):It :=
 ⟨fun i H=>∃ xs x,SqT K H a xs /\ xs[i]? = some x,fun i H x H'=>H' = H /\ ∀ xs,SqT K H a xs -> xs[i]? = some x,fun i H=>∃ xs,SqT K H a xs /\ xs.length <= i⟩
def Itr (lo:Int) (n:Nat):It:=⟨fun i _=>i < n,fun i H x H'=>H' = H /\ x = .int (lo + i),fun i _=>n <= i⟩
theorem turn_list {P:Program} {w:World} {K:PySem.W.Frag} {tg:Expr} (a it:Addr):Turn P w K tg (Itl K a) [it] it (fun i h=>h.IsListIter it a i) where
 mem:=by simp
 obj:=fun i h st b hb=>by
  have e:b = it:=by simpa using hb
  subst e
  obtain ⟨o,e,c,d⟩:=st
  exact ⟨o,e,fun v z=>by rw [d] at z; cases z⟩
 keep:=fun i h h' st k=>st.at fun o e=>k it (by simp) o e
 item:=by
  intro X hP hw hK hc i pins s σ H E I hf st hg
  subst hP hw hK
  obtain ⟨xs,x,hq,hx⟩:=hg
  obtain ⟨its,rv,p,hz⟩:=I.list hq
  obtain ⟨u,hu,ru⟩:=rv.get hx
  obtain ⟨f0,f1,f2,f3,f4,f5⟩:=hf it (by simp)
  refine wpAny_pyNext_list_item st p.isList (x:=u) (by simpa using hu) fun h' st' sb=>?_
  have I1:Inv X pins σ H { s with heap:=h' }:=I.turned (t':=s.toks) (fun b o hb e=>(sb.2 b hb).trans e) f0 f1 f3 f4 f5
  obtain ⟨o,e,c,d⟩:=id st'
  exact ⟨u,rfl,go_of (s:={ s with heap:=h' }) e c d (by decide) ⟨x,H,I1,ru,⟨rfl,fun ys hy=>by rw [I.list_inj hy hq]; exact hx⟩,st',fun b hb=>(hf b hb).1⟩⟩
 done:=by
  intro X hP hw hK hc i pins s σ H E I hf st hg
  subst hP hw hK
  obtain ⟨xs,hq,hx⟩:=hg
  obtain ⟨its,rv,p,hz⟩:=I.list hq
  obtain ⟨f0,f1,f2,f3,f4,f5⟩:=hf it (by simp)
  have hl:=rv.length
  exact wpAny_pyNext_list_end (I.ok.hd hc) st p.isList (by simp; lia) fun h' eb=>⟨rfl,I.turned (t':=s.toks) (fun b o hb e=>eb b o hb e) f0 f1 f3 f4 f5⟩
 self:=fun _ _ _ _ _ st h=>wpAny_pyIter_listiter st h
theorem turn_tuple {P:Program} {w:World} {K:PySem.W.Frag} {tg:Expr} (a it:Addr):Turn P w K tg (Itt K a) [it] it (fun i h=>h.IsTupleIter it a i) where
 mem:=by simp
 obj:=fun i h st b hb=>by
  have e:b = it:=by simpa using hb
  subst e
  obtain ⟨o,e,c,d⟩:=st
  exact ⟨o,e,fun v z=>by rw [d] at z; cases z⟩
 keep:=fun i h h' st k=>st.at fun o e=>k it (by simp) o e
 item:=by
  intro X hP hw hK hc i pins s σ H E I hf st hg
  subst hP hw hK
  obtain ⟨xs,x,hq,hx⟩:=hg
  obtain ⟨its,rv,p,hz⟩:=I.tuple hq
  obtain ⟨u,hu,ru⟩:=rv.get hx
  obtain ⟨f0,f1,f2,f3,f4,f5⟩:=hf it (by simp)
  refine wpAny_pyNext_tuple_item st (show s.heap.IsTuple a its.toArray from p) (x:=u) (by simpa using hu) fun h' st' sb=>?_
  have I1:Inv X pins σ H { s with heap:=h' }:=I.turned (t':=s.toks) (fun b o hb e=>(sb.2 b hb).trans e) f0 f1 f3 f4 f5
  obtain ⟨o,e,c,d⟩:=id st'
  exact ⟨u,rfl,go_of (s:={ s with heap:=h' }) e c d (by decide) ⟨x,H,I1,ru,⟨rfl,fun ys hy=>by rw [I.tuple_inj hy hq]; exact hx⟩,st',fun b hb=>(hf b hb).1⟩⟩
 done:=by
  intro X hP hw hK hc i pins s σ H E I hf st hg
  subst hP hw hK
  obtain ⟨xs,hq,hx⟩:=hg
  obtain ⟨its,rv,p,hz⟩:=I.tuple hq
  obtain ⟨f0,f1,f2,f3,f4,f5⟩:=hf it (by simp)
  have hl:=rv.length
  exact wpAny_pyNext_tuple_end (I.ok.hd hc) st (show s.heap.IsTuple a its.toArray from p) (by simp; lia) fun h' eb=>⟨rfl,I.turned (t':=s.toks) (fun b o hb e=>eb b o hb e) f0 f1 f3 f4 f5⟩
 self:=fun _ _ _ _ _ st h=>wpAny_pyIter_tupleiter st h
theorem turn_range {P:Program} {w:World} {K:PySem.W.Frag} {tg:Expr} (it:Addr) (lo:Int) (n:Nat):Turn P w K tg (Itr lo n) [it] it (fun i h=>IsRangeIter h it (lo + (i:Nat) * 1) ((n:Int) - (i:Nat)) 1) where
 mem:=by simp
 obj:=fun i h st b hb=>by
  have e:b = it:=by simpa using hb
  subst e
  exact ⟨_,st,fun v z=>by
   have z':Data.fields _ = Data.cell v:=z
   cases z'⟩
 keep:=fun i h h' st k=>k it (by simp) _ st
 item:=by
  intro X hP hw hK hc i pins s σ H E I hf st hg
  subst hP hw hK
  obtain ⟨f0,f1,f2,f3,f4,f5⟩:=hf it (by simp)
  have W:=Walks.range (prog:=X.prog) (w:=X.w) (I.ok.hd hc) it lo 1 n
  refine W.item i s _ _ hg st fun v h' tk hv st' kk=>?_
  obtain ⟨t,rfl⟩:=hv
  have I1:Inv X pins σ H { s with heap:=h',toks:=tk }:=I.turned (fun b o hb e=>kk b o (by simpa using hb) e) f0 f1 f3 f4 f5
  refine ⟨_,rfl,go_of (s:={ s with heap:=h',toks:=tk }) (n := "range_iterator") st' rfl rfl (by decide) ⟨.int (lo + i),H,I1,⟨t,?_⟩,⟨rfl,rfl⟩,st',fun b hb=>(hf b hb).1⟩⟩
  rw [Int.mul_one]
 done:=by
  intro X hP hw hK hc i pins s σ H E I hf st hg
  subst hP hw hK
  obtain ⟨f0,f1,f2,f3,f4,f5⟩:=hf it (by simp)
  exact wpAny_pyNext_range_end (I.ok.hd hc) st (by have:n <= i:=hg; lia) fun h' eb=>⟨rfl,I.turned (t':=s.toks) (fun b o hb e=>eb b o hb e) f0 f1 f3 f4 f5⟩
 self:=fun _ _ _ _ _ st h=>wpAny_pyIter_rangeiter st h
end L2
namespace L2
open PySem PySem.Spec PyProof.Rows
section
variable {X:Cx} {tg:Expr}
theorem range_it {pins:List (Addr × Obj)} {σ:St} {H:Hp} {s:Shared} {R:It -> Hp -> Prop} {E:Value -> Shared -> Prop} {lo hi:Int} {t u v:Tok} {tk:Nat} (I:Inv X pins σ H s) (h1:-(2 ^ 62) <= lo) (h2:lo < 2 ^ 62) (h3:-(2 ^ 62) <= hi) (h4:hi < 2 ^ 62)
  (q:R (Itr lo (hi - lo).toNat) H):wpAny (model X.prog X.w) X.A (pyIter (.ref s.heap.objs.size)) (PIE X pins σ tg R) E { s with heap:=s.heap.push { cls:=.type "range",data:=.fields #[.int lo t,.int hi u,.int 1 v] },toks:=tk }:=by
 refine wpAny_pyIter_range (IsRange.new ..) (small_one h1 h2 h3 h4) ?_
 have I1:Inv X pins σ H { s with heap:=s.heap.push { cls:=.type "range",data:=.fields #[.int lo t,.int hi u,.int 1 v] },toks:=tk }:=I.kept fun b o e=>Heap.get?_push_of_some _ e
 refine ⟨(s.heap.push { cls:=.type "range",data:=.fields #[.int lo t,.int hi u,.int 1 v] }).objs.size,[(s.heap.push { cls:=.type "range",data:=.fields #[.int lo t,.int hi u,.int 1 v] }).objs.size],_,_,H,rfl,
  I1.kept (t':=tk) fun b o e=>Heap.get?_push_of_some _ e,turn_range _ lo (hi - lo).toNat,?_,fun b hb=>?_,q⟩
 ·have e1 : lo + ((0 : Nat) : Int) * 1 = lo := by simp
  have e2:(((hi - lo).toNat:Nat):Int) - ((0:Nat):Int) = Builtin.Range.rangeSize lo hi 1:=by rw [rangeSize_one]; split <;> lia
  show IsRangeIter _ _ (lo + ((0:Nat):Int) * 1) ((((hi - lo).toNat:Nat):Int) - ((0:Nat):Int)) 1
  rw [e1,e2]
  exact Heap.get?_push_size _ rfl
 ·have e : b = (s.heap.push { cls := .type "range", data := .fields #[.int lo t, .int hi u, .int 1 v] }).objs.size := by simpa using hb
  subst e
  exact I1.fpOk (Nat.le_refl _) (I1.hok.fresh (Nat.le_refl _))
def iRng1 (ta:TA):TI:=fun σ H R=>ta σ H fun vs H1=>∃ j:Int,vs = [.int j] /\ -(2 ^ 62) <= j /\ j < 2 ^ 62 /\ R (Itr 0 j.toNat) H1
theorem pi_range1 {a:Expr} {ta:TA} {p pos:Pos} (hg:Gl X "range") (hm:X.mg "range" = none) (ha:PA X [a] ta) (hs:starEach [a] X.env = [(false,eval a X.env)]:=by rfl):PI X tg (.Call (.Name "range" p) [a] [] pos) (iRng1 ta):=by
 intro pins s σ H R I h
 refine Call_ (ld_blt I hg hm boot_range (PyProof.Rows.callWith_type1 (thn (ha pos pins s σ H _ I h) fun us s1 ⟨vs,H1,I1,r1,q1⟩=>?_) hs rfl))
 obtain ⟨j,e,q1,q2,q⟩:=q1
 subst e
 cases r1 with
 | cons r rr =>
  cases rr
  obtain ⟨t,rfl⟩:=r
  exact call_range_1 (range_it I1 (by lia) (by lia) q1 q2 (by simpa using q))
def tFor (wi:TI) (g:TG) (tb:TS):TS:=fun D σ H=>wi σ H fun J H1=>∃ W:Nat -> Nat -> St -> Hp -> Prop,(∃ m,W 0 m σ H1) /\ ∀ i m σ H,W i m σ H ->
 (J.stop i H /\ D.nx σ H) \/ (J.go i H /\ ∃ N:St -> Hp -> Prop,(∀ σ' H',N σ' H' -> ∃ m',m' < m /\ W (i + 1) m' σ' H') /\ ∀ x H',J.yld i H x H' -> g x σ H' fun σ2 H2=>tb { D with nx:=N,ct:=N,bk:=D.nx } σ2 H2)
def pinsAt (fp:List Addr) (h:Heap):List (Addr × Obj):=fp.filterMap fun b=>(h.get? b).map fun o=>(b,o)
theorem mem_pinsAt {fp:List Addr} {h:Heap} {b:Addr} {o:Obj} (hb:b ∈ fp) (e:h.get? b = some o):(b,o) ∈ pinsAt fp h:=List.mem_filterMap.mpr ⟨b,hb,by rw [e]; rfl⟩
theorem of_pinsAt {fp:List Addr} {h:Heap} {p:Addr × Obj} (hp:p ∈ pinsAt fp h):p.1 ∈ fp /\ h.get? p.1 = some p.2:=by
 obtain ⟨b,hb,e⟩:=List.mem_filterMap.mp hp
 cases q:h.get? b with
 | none=>rw [q] at e; cases e
 | some o =>
  rw [q] at e
  have e':(b,o) = p:=Option.some.inj e
  subst e'
  exact ⟨hb,q⟩
theorem Inv.pinned {pins:List (Addr × Obj)} {σ:St} {H:Hp} {s:Shared} {fp:List Addr} (I:Inv X pins σ H s) (hf:∀ b ∈ fp,FpOk X pins H b) (ho:∀ b ∈ fp,∃ o,s.heap.get? b = some o /\ ∀ v,o.data ≠ .cell v):Inv X (pins ++ pinsAt fp s.heap) σ H s :=
 I.pins_of fun p hp=>(List.mem_append.mp hp).elim (fun z=>I.pin p (List.mem_append_right _ z)) fun z=>by
  obtain ⟨hb,e⟩:=of_pinsAt z
  obtain ⟨f0,f1,f2,_⟩:=hf p.1 hb
  obtain ⟨o,e',d⟩:=ho p.1 hb
  rw [e] at e'; cases e'
  exact ⟨e,f0,f1,f2,d⟩
theorem Inv.unpinned {pins pl:List (Addr × Obj)} {σ:St} {H:Hp} {s:Shared} (I:Inv X (pins ++ pl) σ H s):Inv X pins σ H s:=I.pins_of fun p hp=>I.pin p (List.mem_append_right _ (List.mem_append_left _ hp))
theorem ps_for {iter:Expr} {body:List Stmt} {wi:TI} {g:TG} {tb:TS} {pos:Pos} (hp:PassesOwn (model X.prog X.w) X.A X.env X.xe) (hc:X.calm = true) (hi:PI X tg iter wi) (hg:PG X tg g) (hb:PSs X body tb)
  (hs:∀ x,foldedSetIterable iter X.env x = pure x:=by intro _; rfl):PS X (.For tg iter body [] pos) (tFor wi g tb):=by
 intro pins s σ H D I h
 refine wpAny_For (thn (hi pins s σ H _ I h) fun v s1 h1=>thn h1 fun itv s2 h2=>?_) hs
 obtain ⟨it,fp,tn,J,H2,e,I2,T,st2,f2,W,⟨m0,w0⟩,turn⟩:=h2
 subst e
 have stat:∀ {H':Hp},(∀ b ∈ fp,H' b = none) -> ∀ b ∈ fp,FpOk X pins H' b:=fun hn b hb=>⟨hn b hb,(f2 b hb).2⟩
 refine codeAny_forLoop_any (fun n s'=>∃ i σ' H',Inv X pins σ' H' s' /\ tn i s'.heap /\ (∀ b ∈ fp,H' b = none) /\ W i n σ' H') ?_ m0 ⟨0,σ,H2,I2,st2,fun b hb=>(f2 b hb).1,w0⟩
 rintro n s3 ⟨i,σ3,H3,I3,st3,fr3,w3⟩
 rcases turn i n σ3 H3 w3 with ⟨stop,qn⟩ | ⟨go,N,hN,step⟩
 ·refine wpAny_passesOwn hp (thn (T.done X rfl rfl rfl hc i pins s3 σ3 H3 X.xe I3 (stat fr3) st3 stop) fun r s4 ⟨hr, I4⟩ => ?_)
  subst hr
  exact wpAny_execs_nil ⟨σ3,H3,I4,qn⟩
 ·refine wpAny_passesOwn hp (thn (T.item X rfl rfl rfl hc i pins s3 σ3 H3 X.xe I3 (stat fr3) st3 go) fun r s4 ⟨u, hr, h4⟩ => ?_)
  subst hr
  refine wpAny_passesOwn hp (thn h4 fun _ s5 ⟨x,H5,I5,r5,y5,st5,fr5⟩=>?_)
  have I5':=I5.pinned (stat fr5) (T.obj _ _ st5)
  refine wpAny_passesOwn hp (thn (hg _ s5 σ3 H5 x u _ I5' r5 (step x H5 y5)) fun _ s6 ⟨σ6,H6,I6,q6⟩=>?_)
  refine wpAny_passesOwn hp (thn (hb _ s6 σ6 H6 _ I6 q6) fun f s7 q7=>?_)
  have again:∀ {σ7:St} {H7:Hp},Inv X (pins ++ pinsAt fp s5.heap) σ7 H7 s7 -> N σ7 H7 -> ∃ m,m < n /\ ∃ i σ' H',Inv X pins σ' H' s7 /\ tn i s7.heap /\ (∀ b ∈ fp,H' b = none) /\ W i m σ' H':=fun {σ7 H7} I7 n7=>by
   obtain ⟨m',hm,w7⟩:=hN σ7 H7 n7
   refine ⟨m',hm,i + 1,σ7,H7,I7.unpinned,T.keep _ _ _ st5 fun b hb o e=>(I7.pin (b,o) (List.mem_append_right _ (List.mem_append_right _ (mem_pinsAt hb e)))).1,fun b hb=>?_,w7⟩
   obtain ⟨o,e,d⟩:=T.obj _ _ st5 b hb
   exact (I7.pin (b,o) (List.mem_append_right _ (List.mem_append_right _ (mem_pinsAt hb e)))).2.1
  cases f with
  | next=>obtain ⟨σ7,H7,I7,n7⟩:=q7; exact again I7 n7
  | cont=>obtain ⟨σ7,H7,I7,n7⟩:=q7; exact again I7 n7
  | brk=>obtain ⟨σ7,H7,I7,q7⟩:=q7; exact ⟨σ7,H7,I7.unpinned,q7⟩
  | ret v=>obtain ⟨x7,σ7,H7,I7,r7,q7⟩:=q7; exact ⟨x7,σ7,H7,I7.unpinned,r7,q7⟩
end
end L2
namespace L2
open PySem PySem.Spec PyProof.Rows
abbrev R2:=V -> V -> Hp -> VK -> Prop
def OpR (X:Cx) (f:Value -> Value -> Sem Value) (r:R2):Prop :=
 ∀ (pins:List (Addr × Obj)) (s:Shared) (σ:St) (H:Hp) (x y:V) (v u:Value) (Q:VK),Inv X pins σ H s -> RelV x v -> RelV y u -> r x y H Q ->
  wpAny (model X.prog X.w) X.A (f v u) (EP X pins σ Q) X.xe s
def UnR (X:Cx) (f:Value -> Sem Value) (r:V -> Hp -> VK -> Prop):Prop :=
 ∀ (pins:List (Addr × Obj)) (s:Shared) (σ:St) (H:Hp) (x:V) (v:Value) (Q:VK),Inv X pins σ H s -> RelV x v -> r x H Q ->
  wpAny (model X.prog X.w) X.A (f v) (EP X pins σ Q) X.xe s
def CallR (X:Cx) (f:Value) (r:List V -> Hp -> VK -> Prop):Prop :=
 ∀ (pins:List (Addr × Obj)) (s:Shared) (σ:St) (H:Hp) (xs:List V) (us:List Value) (Q:VK),Inv X pins σ H s -> Vals xs us -> r xs H Q ->
  wpAny (model X.prog X.w) X.A (call f us) (EP X pins σ Q) X.xe s
def tOp (r:R2) (ta tb:TE):TE:=fun σ H Q=>ta σ H fun x H1=>tb σ H1 fun y H2=>r x y H2 Q
def tUn (r:V -> Hp -> VK -> Prop) (ta:TE):TE:=fun σ H Q=>ta σ H fun x H1=>r x H1 Q
def rI (C:Int -> Int -> Prop) (g:Int -> Int -> V):R2:=fun x y H Q=>∃ i j,x = .int i /\ y = .int j /\ C i j /\ Q (g i j) H
def rI0 (g:Int -> Int -> V):R2:=fun x y H Q=>∃ i j,x = .int i /\ y = .int j /\ Q (g i j) H
def rU (g:Int -> V):V -> Hp -> VK -> Prop:=fun x H Q=>∃ i,x = .int i /\ Q (g i) H
section
variable {X:Cx} {a b c:Expr} {ta tb tc:TE} {pos:Pos}
theorem binT (ha:PE X a ta) (hb:PE X b tb) {pins:List (Addr × Obj)} {s:Shared} {σ:St} {H:Hp} {R:V -> V -> Hp -> Prop} (I:Inv X pins σ H s)
  (h:ta σ H fun x H1=>tb σ H1 fun y H2=>R x y H2) {Q:Value -> Shared -> Prop} {f:Value -> Value -> Sem Value}
  (hf:∀ v u s2 x y H2,Inv X pins σ H2 s2 -> RelV x v -> RelV y u -> R x y H2 -> wpAny (model X.prog X.w) X.A (f v u) Q X.xe s2) :
  wpAny (model X.prog X.w) X.A (eval a X.env) (fun v s₁=>wpAny (model X.prog X.w) X.A (eval b X.env) (fun u s₂=>wpAny (model X.prog X.w) X.A (f v u) Q X.xe s₂) X.xe s₁) X.xe s:=by
 refine thn (ha pins s σ H _ I h) fun v s1 ⟨x,H1,I1,r1,q1⟩=>?_
 refine thn (hb pins s1 σ H1 _ I1 q1) fun u s2 ⟨y,H2,I2,r2,q2⟩=>?_
 exact hf v u s2 x y H2 I2 r1 r2 q2
theorem pe_op {op:Operator} {r:R2} (ho:OpR X (binaryOp op) r) (ha:PE X a ta) (hb:PE X b tb):PE X (.BinOp a op b pos) (tOp r ta tb):=by
 intro pins s σ H Q I h
 exact wpAny_BinOp (binT ha hb I h fun v u s2 x y H2 I2 rx ry q=>ho pins s2 σ H2 x y v u Q I2 rx ry q)
theorem pe_un {op:UnaryOp} {r:V -> Hp -> VK -> Prop} (ho:UnR X (unaryOp op) r) (ha:PE X a ta):PE X (.UnaryOp op a pos) (tUn r ta):=by
 intro pins s σ H Q I h
 exact UnaryOp_ (thn (ha pins s σ H _ I h) fun v s1 ⟨x,H1,I1,r1,q1⟩=>ho pins s1 σ H1 x v Q I1 r1 q1)
theorem opI {f:Value -> Value -> Sem Value} {C:Int -> Int -> Prop} {g:Int -> Int -> Int}
  (rule:∀ (i j:Int) (t u:Tok) (s:Shared) (Q:Value -> Shared -> Prop) (E:Value -> Shared -> Prop),C i j -> Q (.int (g i j) s.toks) { s with toks:=s.toks + 1 } -> wpAny (model X.prog X.w) X.A (f (.int i t) (.int j u)) Q E s) :
  OpR X f (rI C fun i j=>.int (g i j)):=by
 intro pins s σ H x y v u Q I rx ry h
 obtain ⟨i,j,rfl,rfl,hc,q⟩:=h
 obtain ⟨t,rfl⟩:=rx
 obtain ⟨t',rfl⟩:=ry
 exact rule i j t t' s _ _ hc ⟨.int (g i j),H,I.tok _,⟨_,rfl⟩,q⟩
theorem opI0 {f:Value -> Value -> Sem Value} {g:Int -> Int -> Int}
  (rule:∀ (i j:Int) (t u:Tok) (s:Shared) (Q:Value -> Shared -> Prop) (E:Value -> Shared -> Prop),Q (.int (g i j) s.toks) { s with toks:=s.toks + 1 } -> wpAny (model X.prog X.w) X.A (f (.int i t) (.int j u)) Q E s) :
  OpR X f (rI0 fun i j=>.int (g i j)):=by
 intro pins s σ H x y v u Q I rx ry h
 obtain ⟨i,j,rfl,rfl,q⟩:=h
 obtain ⟨t,rfl⟩:=rx
 obtain ⟨t',rfl⟩:=ry
 exact rule i j t t' s _ _ ⟨.int (g i j),H,I.tok _,⟨_,rfl⟩,q⟩
theorem opB0 {f:Value -> Value -> Sem Value} {g:Int -> Int -> Bool}
  (rule:∀ (i j:Int) (t u:Tok) (s:Shared) (Q:Value -> Shared -> Prop) (E:Value -> Shared -> Prop),Q (.bool (g i j)) s -> wpAny (model X.prog X.w) X.A (f (.int i t) (.int j u)) Q E s) :
  OpR X f (rI0 fun i j=>.bl (g i j)):=by
 intro pins s σ H x y v u Q I rx ry h
 obtain ⟨i,j,rfl,rfl,q⟩:=h
 obtain ⟨t,rfl⟩:=rx
 obtain ⟨t',rfl⟩:=ry
 exact rule i j t t' s _ _ ⟨.bl (g i j),H,I,rfl,q⟩
def CDiv (i j:Int):Prop:=0 < j /\ j < 1073741824
def CPow (i j:Int):Prop:=0 <= j /\ j <= 1000000 /\ i.natAbs < 2 ^ 64
def CMul (i j:Int):Prop:=(-(2 ^ 64) < i /\ i < 2 ^ 64) \/ (-(2 ^ 64) < j /\ j < 2 ^ 64)
theorem CMul.ok {i j:Int} (h:CMul i j):IntMulOk i j:=by
 rcases h with ⟨h1,h2⟩ | ⟨h1,h2⟩
 ·exact .of_left (intBits_le_64 h1 h2)
 ·exact .of_right (intBits_le_64 h1 h2)
theorem op_add:OpR X (binaryOp .Add) (rI0 fun i j=>.int (i + j)):=opI0 fun _ _ _ _ _ _ _ q=>add_int q
theorem op_sub:OpR X (binaryOp .Sub) (rI0 fun i j=>.int (i - j)):=opI0 fun _ _ _ _ _ _ _ q=>sub_int q
theorem op_mul:OpR X (binaryOp .Mult) (rI CMul fun i j=>.int (i * j)):=opI fun _ _ _ _ _ _ _ hc q=>mul_int q hc.ok
theorem op_fdiv:OpR X (binaryOp .FloorDiv) (rI CDiv fun i j=>.int (i / j)):=opI fun i j _ _ _ _ _ hc q=>by
 have h1:(0:Int) < j:=hc.1
 have h2:j < 1073741824:=hc.2
 exact floordiv_int (by lia) (by rw [Int.fdiv_eq_ediv_of_nonneg i (by lia)]; exact q) (.inl (PyProof.noPylong_small (by lia)))
theorem op_mod:OpR X (binaryOp .Mod) (rI (fun _ j=>0 < j) fun i j=>.int (i % j)):=opI fun i j _ _ _ _ _ hc q=>by
 have h1:(0:Int) < j:=hc
 exact mod_int' (by lia) (by rw [Int.fmod_eq_emod_of_nonneg i (by lia)]; exact q)
theorem op_pow:OpR X (binaryOp .Pow) (rI CPow fun i j=>.int (i ^ j.toNat)):=opI fun _ _ _ _ _ _ _ hc q=>pow_int_small hc.1 hc.2.1 hc.2.2 q
theorem unI {f:Value -> Sem Value} {g:Int -> Int}
  (rule:∀ (i:Int) (t:Tok) (s:Shared) (Q:Value -> Shared -> Prop) (E:Value -> Shared -> Prop),Q (.int (g i) s.toks) { s with toks:=s.toks + 1 } -> wpAny (model X.prog X.w) X.A (f (.int i t)) Q E s) :
  UnR X f (rU fun i=>.int (g i)):=by
 intro pins s σ H x v Q I rx h
 obtain ⟨i,rfl,q⟩:=h
 obtain ⟨t,rfl⟩:=rx
 exact rule i t s _ _ ⟨.int (g i),H,I.tok _,⟨_,rfl⟩,q⟩
theorem un_neg:UnR X (unaryOp .USub) (rU fun i=>.int (-i)):=unI fun _ _ _ _ _ q=>neg_int q
end
def scal:V -> V -> Bool
 | .non,.non=>true | .non,.int _=>true | .int _,.non=>true | .non,.bl _=>true | .bl _,.non=>true | .non,.str _=>true | .str _,.non=>true
 | .int _,.int _=>true | .bl _,.bl _=>true | .str _,.str _=>true | .byt _,.byt _=>true
 | .int _,.str _=>true | .str _,.int _=>true | .bl _,.str _=>true | .str _,.bl _=>true
 | _,_=>false
def rEq:R2:=fun x y H Q=>scal x y = true /\ Q (.bl (decide (x = y))) H
def rNe:R2:=fun x y H Q=>scal x y = true /\ Q (.bl (!decide (x = y))) H
theorem dec_int {i j:Int}:decide (V.int i = V.int j) = (i == j):=by
 rw [Bool.eq_iff_iff]
 simp
theorem dec_bl {i j:Bool}:decide (V.bl i = V.bl j) = (i == j):=by
 rw [Bool.eq_iff_iff]
 simp
theorem dec_str {i j:Str}:decide (V.str i = V.str j) = (i == j):=by
 rw [Bool.eq_iff_iff]
 simp
theorem dec_byt {i j:Array UInt8}:decide (V.byt i = V.byt j) = (i.toList == j.toList):=by
 rw [Bool.eq_iff_iff]
 cases i
 cases j
 simp
section
variable {X:Cx} {a b c:Expr} {ta tb tc:TE} {pos:Pos}
theorem fin_bl {pins:List (Addr × Obj)} {σ:St} {H:Hp} {s:Shared} {Q:VK} {k k':Bool} (I:Inv X pins σ H s) (q:Q (.bl k) H) (e:k = k'):EP X pins σ Q (.bool k') s:=by
 subst e
 exact ⟨.bl k,H,I,rfl,q⟩
theorem op_eq:OpR X (compareOp .Eq) rEq:=by
 intro pins s σ H x y v u Q I rx ry h
 obtain ⟨hs,q⟩:=h
 cases x with
 | non =>
  cases rx
  cases y with
  | non=>cases ry; exact PySem.EqNone.eq_none_none (fin_bl I q (by simp))
  | bl j=>cases ry; exact PySem.EqNone.eq_none_bool (fin_bl I q (by simp))
  | int j=>obtain ⟨t',rfl⟩:=ry; exact PySem.EqNone.eq_none_int (fin_bl I q (by simp))
  | str j=>obtain ⟨t',rfl⟩:=ry; exact PySem.EqNone.eq_none_str (fin_bl I q (by simp))
  | _=>exact absurd (show false = true from hs) Bool.false_ne_true
 | bl i =>
  cases rx
  cases y with
  | non=>cases ry; exact PySem.EqNone.eq_bool_none (fin_bl I q (by simp))
  | bl j=>cases ry; exact eq_bool (fin_bl I q dec_bl)
  | str j=>obtain ⟨t',rfl⟩:=ry; exact PySem.EqMixed.eq_bool_str (fin_bl I q (by simp))
  | _=>exact absurd (show false = true from hs) Bool.false_ne_true
 | int i =>
  obtain ⟨t,rfl⟩:=rx
  cases y with
  | non=>cases ry; exact PySem.EqNone.eq_int_none (fin_bl I q (by simp))
  | int j=>obtain ⟨t',rfl⟩:=ry; exact eq_int (fin_bl I q dec_int)
  | str j=>obtain ⟨t',rfl⟩:=ry; exact PySem.EqMixed.eq_int_str (fin_bl I q (by simp))
  | _=>exact absurd (show false = true from hs) Bool.false_ne_true
 | str i =>
  obtain ⟨t,rfl⟩:=rx
  cases y with
  | non=>cases ry; exact PySem.EqNone.eq_str_none (fin_bl I q (by simp))
  | bl j=>cases ry; exact PySem.EqMixed.eq_str_bool (fin_bl I q (by simp))
  | int j=>obtain ⟨t',rfl⟩:=ry; exact PySem.EqMixed.eq_str_int (fin_bl I q (by simp))
  | str j=>obtain ⟨t',rfl⟩:=ry; exact eq_str (fin_bl I q dec_str)
  | _=>exact absurd (show false = true from hs) Bool.false_ne_true
 | byt i =>
  obtain ⟨t,rfl⟩:=rx
  cases y with
  | byt j=>obtain ⟨t',rfl⟩:=ry; exact PySem.W.eq_bytes (fin_bl I q dec_byt)
  | _=>exact absurd (show false = true from hs) Bool.false_ne_true
 | _=>cases y <;> exact absurd (show false = true from hs) Bool.false_ne_true
theorem op_ne:OpR X (compareOp .NotEq) rNe:=by
 intro pins s σ H x y v u Q I rx ry h
 obtain ⟨hs,q⟩:=h
 cases x with
 | non =>
  cases rx
  cases y with
  | non=>cases ry; exact PySem.EqNone.ne_none_none (fin_bl I q (by simp))
  | bl j=>cases ry; exact PySem.EqNone.ne_none_bool (fin_bl I q (by simp))
  | int j=>obtain ⟨t',rfl⟩:=ry; exact PySem.EqNone.ne_none_int (fin_bl I q (by simp))
  | str j=>obtain ⟨t',rfl⟩:=ry; exact PySem.EqNone.ne_none_str (fin_bl I q (by simp))
  | _=>exact absurd (show false = true from hs) Bool.false_ne_true
 | bl i =>
  cases rx
  cases y with
  | non=>cases ry; exact PySem.EqNone.ne_bool_none (fin_bl I q (by simp))
  | bl j=>cases ry; exact ne_bool (fin_bl I q (congrArg not dec_bl))
  | str j=>obtain ⟨t',rfl⟩:=ry; exact PySem.EqMixed.ne_bool_str (fin_bl I q (by simp))
  | _=>exact absurd (show false = true from hs) Bool.false_ne_true
 | int i =>
  obtain ⟨t,rfl⟩:=rx
  cases y with
  | non=>cases ry; exact PySem.EqNone.ne_int_none (fin_bl I q (by simp))
  | int j=>obtain ⟨t',rfl⟩:=ry; exact ne_int (fin_bl I q (congrArg not dec_int))
  | str j=>obtain ⟨t',rfl⟩:=ry; exact PySem.EqMixed.ne_int_str (fin_bl I q (by simp))
  | _=>exact absurd (show false = true from hs) Bool.false_ne_true
 | str i =>
  obtain ⟨t,rfl⟩:=rx
  cases y with
  | non=>cases ry; exact PySem.EqNone.ne_str_none (fin_bl I q (by simp))
  | bl j=>cases ry; exact PySem.EqMixed.ne_str_bool (fin_bl I q (by simp))
  | int j=>obtain ⟨t',rfl⟩:=ry; exact PySem.EqMixed.ne_str_int (fin_bl I q (by simp))
  | str j=>obtain ⟨t',rfl⟩:=ry; exact ne_str (fin_bl I q (congrArg not dec_str))
  | _=>exact absurd (show false = true from hs) Bool.false_ne_true
 | byt i =>
  obtain ⟨t,rfl⟩:=rx
  cases y with
  | byt j=>obtain ⟨t',rfl⟩:=ry; exact PySem.W.ne_bytes (fin_bl I q (congrArg not dec_byt))
  | _=>exact absurd (show false = true from hs) Bool.false_ne_true
 | _=>cases y <;> exact absurd (show false = true from hs) Bool.false_ne_true
theorem op_lt:OpR X (compareOp .Lt) (rI0 fun i j=>.bl (decide (i < j))):=opB0 fun _ _ _ _ _ _ _ q=>lt_int q
theorem op_le:OpR X (compareOp .LtE) (rI0 fun i j=>.bl (decide (i <= j))):=opB0 fun _ _ _ _ _ _ _ q=>le_int q
theorem op_gt:OpR X (compareOp .Gt) (rI0 fun i j=>.bl (decide (j < i))):=opB0 fun _ _ _ _ _ _ _ q=>gt_int q
theorem op_ge:OpR X (compareOp .GtE) (rI0 fun i j=>.bl (decide (j <= i))):=opB0 fun _ _ _ _ _ _ _ q=>ge_int q
theorem nomark (b:Expr) {op:CmpOp} (h:op ≠ .In:=by decide) (h2:op ≠ .NotIn:=by decide):behindInMarks op b = false:=by
 have e1:(op == CmpOp.In) = false:=by cases op <;> first | rfl | exact absurd rfl h
 have e2:(op == CmpOp.NotIn) = false:=by cases op <;> first | rfl | exact absurd rfl h2
 cases b <;> simp [behindInMarks,e1,e2]
theorem pe_cmpR {op:CmpOp} {r:R2} (ho:OpR X (compareOp op) r) (ha:PE X a ta) (hb:PE X b tb) (hm:behindInMarks op b = false):PE X (.Compare a [op] [b] pos) (tOp r ta tb):=by
 intro pins s σ H Q I h
 exact wpAny_Compare1 (binT ha hb I h fun v u s2 x y H2 I2 rx ry q=>ho pins s2 σ H2 x y v u Q I2 rx ry q) hm
def tTest (t:TE):TT:=fun σ H Q=>t σ H fun x H'=>∃ k,x = .bl k /\ Q k H'
theorem pt_cmpR {op:CmpOp} {r:R2} (ho:OpR X (compareOp op) r) (ha:PE X a ta) (hb:PE X b tb) (hm:behindInMarks op b = false):PT X (.Compare a [op] [b] pos) (tTest (tOp r ta tb)):=by
 intro pins s σ H Q I h
 refine wpAny_isTrue_Compare1 (thn (ha pins s σ H _ I h) fun v s1 ⟨x,H1,I1,r1,q1⟩=>thn (hb pins s1 σ H1 _ I1 q1) fun u s2 ⟨y,H2,I2,r2,q2⟩ =>
  thn (ho pins s2 σ H2 x y v u _ I2 r1 r2 q2) fun c s3 ⟨z,H3,I3,r3,k,e,q3⟩=>?_) hm
 subst e
 cases r3
 exact wpAny_truthy_bool ⟨H3,I3,q3⟩
theorem line63:(sizeLine:Nat) < 2 ^ 63:=by rw [sizeLine_eq]; decide
theorem op_add_str:OpR X (binaryOp .Add) (fun x y H Q=>∃ i j,x = .str i /\ y = .str j /\ i.length + j.length <= sizeLine /\ Q (.str (i ++ j)) H):=by
 intro pins s σ H x y v u Q I rx ry h
 obtain ⟨i,j,rfl,rfl,hz,q⟩:=h
 obtain ⟨t,rfl⟩:=rx
 obtain ⟨t',rfl⟩:=ry
 exact add_str (fun t' tk=>⟨.str (i ++ j),H,I.tok _,⟨_,rfl⟩,q⟩) hz
theorem vals1 {x:V} {us:List Value} (r:Vals [x] us):∃ u,us = [u] /\ RelV x u:=by
 cases r with
 | cons r1 r2=>cases r2; exact ⟨_,rfl,r1⟩
theorem vals2 {x y:V} {us:List Value} (r:Vals [x,y] us):∃ u w',us = [u,w'] /\ RelV x u /\ RelV y w':=by
 cases r with
 | cons r1 r2 =>
  cases r2 with
  | cons r3 r4=>cases r4; exact ⟨_,_,rfl,r1,r3⟩
theorem call_abs:CallR X (.builtin "abs") (fun xs H Q=>∃ i,xs = [.int i] /\ Q (.int (if i < 0 then -i else i)) H):=by
 intro pins s σ H xs us Q I r h
 obtain ⟨i,rfl,q⟩:=h
 obtain ⟨u,rfl,t,rfl⟩:=vals1 r
 exact call_abs_int fun u tk=>⟨.int (if i < 0 then -i else i),H,I.tok _,⟨_,rfl⟩,q⟩
theorem call_max2 (hc:X.calm = true):CallR X (.builtin "max") (fun xs H Q=>∃ i j,xs = [.int i,.int j] /\ Q (.int (if j > i then j else i)) H):=by
 intro pins s σ H xs us Q I r h
 obtain ⟨i,j,rfl,q⟩:=h
 obtain ⟨u,w',rfl,⟨t,rfl⟩,⟨t',rfl⟩⟩:=vals2 r
 refine max_two_ints (I.ok.hd hc) fun h' tk k=>⟨_,H,I.kept k,?_,q⟩
 by_cases hj:j > i
 ·rw [if_pos hj,if_pos hj]; exact ⟨_,rfl⟩
 ·rw [if_neg hj,if_neg hj]; exact ⟨_,rfl⟩
theorem call_min2 (hc:X.calm = true):CallR X (.builtin "min") (fun xs H Q=>∃ i j,xs = [.int i,.int j] /\ Q (.int (if j < i then j else i)) H):=by
 intro pins s σ H xs us Q I r h
 obtain ⟨i,j,rfl,q⟩:=h
 obtain ⟨u,w',rfl,⟨t,rfl⟩,⟨t',rfl⟩⟩:=vals2 r
 refine min_two_ints (I.ok.hd hc) fun h' tk k=>⟨_,H,I.kept k,?_,q⟩
 by_cases hj:j < i
 ·rw [if_pos hj,if_pos hj]; exact ⟨_,rfl⟩
 ·rw [if_neg hj,if_neg hj]; exact ⟨_,rfl⟩
theorem call_int1:CallR X (.type "int") (fun xs H Q=>(∃ i,xs = [.int i] /\ Q (.int i) H) \/ ∃ k,xs = [.bl k] /\ Q (.int (if k then 1 else 0)) H):=by
 intro pins s σ H xs us Q I r h
 rcases h with ⟨i,rfl,q⟩ | ⟨k,rfl,q⟩
 ·obtain ⟨u, rfl, t, rfl⟩ := vals1 r
  exact call_int_int ⟨.int i,H,I,⟨_,rfl⟩,q⟩
 ·obtain ⟨u, rfl, r1⟩ := vals1 r
  cases r1
  exact call_int_bool ⟨.int (if k then 1 else 0),H,I.tok _,⟨_,rfl⟩,q⟩
end
end L2
namespace L2
open PySem PySem.Spec PyProof.Rows
structure ObjM (h:Heap) (x dx C:Addr) (mA:Str -> Option Value):Prop where
 obj:h.get? x = some (PySem.W.instObj C dx)
 ns:h.Ns1 dx mA
 ne:dx ≠ x
theorem lookIn_ns {h:Heap} {dx:Addr} {mA:Str -> Option Value} (n:h.Ns1 dx mA):∃ od,h.get? dx = some od /\ ∀ name,PySem.W.lookIn name od = some (mA name):=by
 obtain ⟨o,es,ep,ho,hd,hk,_,hm⟩:=n
 refine ⟨o,ho,fun name=>?_⟩
 have e:=hm name
 unfold nsFind findBy at e
 rw [<- Array.find?_toList] at e
 unfold PySem.W.lookIn
 rw [hd]
 dsimp only
 split
 ·rename_i y q
  rw [q] at e
  exact congrArg some e
 ·rename_i q
  rw [q] at e
  have a:es.toList.any (·.refKey) = false:=by
   rw [List.any_eq_false]
   intro y hy
   obtain ⟨z,t,hkey⟩:=hk y (Array.mem_toList_iff.mp hy)
   simp [DictEntry.refKey,hkey]
  have a':¬ es.toList.any (·.refKey) = true:=by rw [a]; exact Bool.false_ne_true
  rw [if_neg a']
  exact congrArg some e
theorem ObjM.look {h:Heap} {x dx C:Addr} {mA:Str -> Option Value} (I:ObjM h x dx C mA):∃ od,PySem.W.InstAt h x (PySem.W.instObj C dx) C (some od) /\ ∀ name,PySem.W.lookIn name od = some (mA name) :=
 let ⟨od,ho,hl⟩:=lookIn_ns I.ns
 ⟨od,⟨I.obj,rfl,rfl,ho⟩,hl⟩
section
variable {prog:Program} {w:World} {A:Around} {E:Value -> Shared -> Prop} {s:Shared} {K:PySem.W.Frag} {x dx C f:Addr} {mA:Str -> Option Value} {name:Str} {v:Value}
theorem get_map {expr:Bool} {Q:Value -> Shared -> Prop} (X:K.In s.heap) (I:ObjM s.heap x dx C mA) (hg:PySem.W.plainGet K C name = true) (hh:PySem.W.hasDictIn K C = true)
  (ha:PySem.W.findIn K (.ref C) name = some none) (hv:mA name = some v) (hv':PySem.W.handedIn v = true) (h:Q v { s with toks:=s.toks + 1 }) :
  wpAny (model prog w) A (getAttr (.ref x) name expr) Q E s:=by
 obtain ⟨od,J,hl⟩:=I.look
 exact PySem.W.get_value X J (PySem.W.plainGet_of hg).1 (PySem.W.findObj_own hh ha rfl (by rw [hl,hv])) hv' h
theorem get_meth {pl:Sem Bool} {Q:Value × List Value -> Shared -> Prop} (X:K.In s.heap) (I:ObjM s.heap x dx C mA) (hg:PySem.W.plainGet K C name = true)
  (hf:PySem.W.findIn K (.ref C) name = some (some (.ref f))) (ht:PySem.W.isFn K (.ref f) = true) (hv:mA name = none) (h:Q (.ref f,[.ref x]) s) :
  wpAny (model prog w) A (getMethod (.ref x) name pl) Q E s:=by
 obtain ⟨od,J,hl⟩:=I.look
 exact PySem.W.method_fn X J (PySem.W.plainGet_of hg).1 (PySem.W.plainGet_of hg).2 hf (beq_iff_eq.mp ht) (by show (PySem.W.lookIn name od).map (·.isSome) = some false; rw [hl,hv]; rfl) h
theorem set_map {ns:List Str} {Q:Unit -> Shared -> Prop} (X:K.In s.heap) (I:ObjM s.heap x dx C mA)
  (hs:PySem.W.findIn K (.ref C) "__setattr__" = some (some (.builtin "object.__setattr__"))) (hp:PySem.W.plainOver K C = true) (ht:PySem.W.takerIn K C name = some none) (hh:PySem.W.hasDictIn K C = true)
  (hw:PySem.Within mA ns) (hsz:ns.length <= sizeLine)
  (h:∀ h',ObjM h' x dx C (fun y=>if y = name then some v else mA y) -> Heap.SameBut dx s.heap h' -> Q () { s with heap:=h',toks:=s.toks + 2 }) :
  wpAny (model prog w) A (setAttr (.ref x) name v) Q E s:=by
 obtain ⟨od,J,hl⟩:=I.look
 refine PySem.W.set_plain X J hs (PySem.W.osa_open (s:={ s with toks:=s.toks + 1 }) (r:=none) X J hp ht fun b=>?_)
 obtain ⟨cd,hc,hd'⟩:=PySem.W.any_some hh
 have hx:s.heap.get? x = some ⟨.ref C,some dx,.plain,#[]⟩:=I.obj
 refine wpAny_bind (wpAny_pure (wpAny_bind (wpAny_bind (wpAny_loadPart hx (wpAny_bind (PySem.W.Looks.here (s:={ s with toks:=s.toks + 1 }) (PySem.W.looks_clsIn X hc) ?_))))))
 rw [hd']
 refine wpAny_pure (a:=some dx) (wpAny_bind (wpAny_pure (wpAny_bind ?_)))
 refine wpAny_nsSet1 (s:={ s with toks:=s.toks + 1 }) I.ns fun h' hn2 hs2=>?_
 obtain ⟨oD,esD,epD,hoD,hdD,hcD⟩:=hn2.count (PySem.Within.cons name v hw)
 refine wpAny_bind (wpAny_lookBehind hoD (by rw [hdD]; exact pastItsLine_dict (Nat.le_trans hcD (by rw [List.length_cons]; lia))) ?_)
 exact wpAny_pure (h _ ⟨(hs2.2 _ (Ne.symm I.ne)).trans I.obj,hn2,I.ne⟩ hs2)
theorem make_map {R:Result -> Shared -> Prop} {vs:List Value} {kw:List (Str × Value)} (X:K.In s.heap) (hm:PySem.W.makesIn K C = true)
  (hi:PySem.W.findIn K (.ref C) "__init__" = some (some (.ref f))) (hf:PySem.W.typeIn K (.ref f) = some (.type "function"))
  (h : codeAny (model prog w) (A.under (.builtin "type.__call__" ⟨.ref C :: vs, kw⟩)) (.call (.ref f) ⟨.ref (s.heap.objs.size + 1) :: vs, kw⟩) (PySem.W.InitBack (s.heap.objs.size + 1) R)
   { s with heap:=(s.heap.push PySem.W.emptyDict).push (PySem.W.instObj C s.heap.objs.size) }) :
  codeAny (model prog w) A (.call (.ref C) ⟨vs,kw⟩) R s:=by
 obtain ⟨hh,g,d,t,os⟩:=s
 exact PySem.W.make_core (PySem.W.makes_of X hm) (PySem.W.looks_findIn X hi) (fun self=>PySem.W.bind_fn X self hf) (.inl rfl) h
end
def putF (f:Str) (v:V):List (Str × V) -> List (Str × V)
 | []=>[(f,v)]
 | (g,x) :: r=>if g = f then (g,v) :: r else (g,x) :: putF f v r
theorem lookup_putF (f g:Str) (v:V):∀ fs:List (Str × V),(putF f v fs).lookup g = if g = f then some v else fs.lookup g
 | [] => by
  show List.lookup g [(f,v)] = _
  by_cases h:g = f
  ·have hb : (g == f) = true := beq_iff_eq.mpr h
   simp only [List.lookup,hb,if_pos h]
  ·have hb : (g == f) = false := beq_eq_false_iff_ne.mpr h
   simp only [List.lookup,hb,if_neg h]
 | (k, x) :: r => by
  have ih:=lookup_putF f g v r
  rw [show putF f v ((k,x) :: r) = (if k = f then (k,v) :: r else (k,x) :: putF f v r) from rfl]
  by_cases hk:k = f
  ·rw [if_pos hk]
   by_cases h:g = k
   ·have hb : (g == k) = true := beq_iff_eq.mpr h
    simp only [List.lookup,hb,if_pos (h.trans hk)]
   ·have hb : (g == k) = false := beq_eq_false_iff_ne.mpr h
    simp only [List.lookup,hb,if_neg (fun e:g = f=>h (e.trans hk.symm))]
  ·rw [if_neg hk]
   by_cases h:g = k
   ·have hb : (g == k) = true := beq_iff_eq.mpr h
    simp only [List.lookup,hb,if_neg (fun e:g = f=>hk (h.symm.trans e))]
   ·have hb : (g == k) = false := beq_eq_false_iff_ne.mpr h
    simp only [List.lookup,hb]
    exact ih
theorem keys_putF (f:Str) (v:V):∀ fs:List (Str × V),f ∈ (putF f v fs).map (·.1) /\ ∀ g,g ∈ fs.map (·.1) -> g ∈ (putF f v fs).map (·.1)
 | []=>⟨by simp [putF],fun g h=>by simp at h⟩
 | (k, x) :: r => by
  obtain ⟨i1,i2⟩:=keys_putF f v r
  rw [show putF f v ((k,x) :: r) = (if k = f then (k,v) :: r else (k,x) :: putF f v r) from rfl]
  by_cases hk:k = f
  ·rw [if_pos hk]
   subst hk
   exact ⟨by simp,fun g h=>by simpa using h⟩
  ·rw [if_neg hk]
   refine ⟨?_,fun g h=>?_⟩
   ·rw [List.map_cons]
    exact List.mem_cons_of_mem _ i1
   ·rw [List.map_cons] at h ⊢
    rcases List.mem_cons.mp h with e | e
    ·exact List.mem_cons.mpr (.inl e)
    ·exact List.mem_cons_of_mem _ (i2 g e)
theorem length_putF (f:Str) (v:V):∀ fs:List (Str × V),(putF f v fs).length <= fs.length + 1
 | []=>by simp [putF]
 | (k,x) :: r=>by
  have ih:=length_putF f v r
  rw [show putF f v ((k,x) :: r) = (if k = f then (k,v) :: r else (k,x) :: putF f v r) from rfl]
  by_cases hk:k = f
  ·rw [if_pos hk,List.length_cons,List.length_cons]; lia
  ·rw [if_neg hk,List.length_cons,List.length_cons]; lia
theorem RelO.some_of {v:V} {o:Option Value} (r:RelO (some v) o):∃ u,o = some u /\ RelV v u:=by
 cases o with
 | none=>exact (show False from r).elim
 | some u=>exact ⟨u,rfl,r⟩
theorem RelO.none_of {o:Option Value} (r:RelO none o):o = none:=by
 cases o with
 | none=>rfl
 | some u=>exact (show False from r).elim
theorem handed_of {v:V} {u:Value} (r:RelV v u):PySem.W.handedIn u = true:=by
 cases v with
 | non=>cases (show u = Value.none from r); rfl
 | bl b=>cases (show u = Value.bool b from r); rfl
 | int i=>obtain ⟨t,e⟩:=(show ∃ t,u = Value.int i t from r); cases e; rfl
 | str x=>obtain ⟨t,e⟩:=(show ∃ t,u = Value.str x t from r); cases e; rfl
 | byt b=>obtain ⟨t,e⟩:=(show ∃ t,u = Value.bytes b t from r); cases e; rfl
 | flt b=>obtain ⟨t,e⟩:=(show ∃ t,u = Value.float b t from r); cases e; rfl
 | ref a=>cases (show u = Value.ref a from r); rfl
 | ty n=>cases (show u = Value.type n from r); rfl
section
variable {P:Program} {w:World} {H H':Hp} {h h':Heap} {a C dx:Addr} {fs fs':List (Str × V)}
theorem ins_get (hok:HOk P w H h) (e:H a = some (.ins C dx fs)):∃ mA,ObjM h a dx C mA /\ (∀ f,RelO (fs.lookup f) (mA f)) /\ PySem.Within mA (fs.map (·.1)) /\ fs.length <= 1000 /\ H dx = some (.own a):=by
 obtain ⟨d,z,ne,ob,mA,n,r,q⟩:=(show ObjOk P w H h a (.ins C dx fs) from hok a _ e)
 exact ⟨mA,⟨ob,n,ne⟩,r,q,z,d⟩
end
structure Cls (K:PySem.W.Frag) (C:Addr):Prop where
 pg:PySem.W.plainGet K C Str.empty = true
 hd:PySem.W.hasDictIn K C = true
 po:PySem.W.plainOver K C = true
 sa:PySem.W.findIn K (.ref C) "__setattr__" = some (some (.builtin "object.__setattr__"))
theorem Cls.get {K:PySem.W.Frag} {C:Addr} (c:Cls K C) (f:Str):PySem.W.plainGet K C f = true:=c.pg
def NoAttr (K:PySem.W.Frag) (C:Addr) (f:Str):Prop:=PySem.W.findIn K (.ref C) f = some none
theorem NoAttr.taker {K:PySem.W.Frag} {C:Addr} {f:Str} (n:NoAttr K C f):PySem.W.takerIn K C f = some none:=by
 unfold PySem.W.takerIn
 rw [show PySem.W.findIn K (.ref C) f = some none from n]
 rfl
structure Meth (K:PySem.W.Frag) (C:Addr) (m:Str) (f:Addr):Prop where
 at_:PySem.W.findIn K (.ref C) m = some (some (.ref f))
 fn:PySem.W.isFn K (.ref f) = true
 kp:PySem.W.keepIn K (.ref f) = true
section
variable {X:Cx} {pins:List (Addr × Obj)} {σ:St} {H:Hp} {s:Shared} {a C dx:Addr} {fs:List (Str × V)} {f:Str} {v:V} {A:Around} {E:Value -> Shared -> Prop}
theorem getattr_ok {b:Bool} {Q:Value -> Shared -> Prop} (I:Inv X pins σ H s) (e:H a = some (.ins C dx fs)) (c:Cls X.K C) (n:NoAttr X.K C f) (l:fs.lookup f = some v)
  (h:∀ u s',Inv X pins σ H s' -> RelV v u -> Q u s'):wpAny (model X.prog X.w) A (getAttr (.ref a) f b) Q E s:=by
 obtain ⟨mA,O,r,_,_,_⟩:=ins_get I.hok e
 obtain ⟨u,hu,ru⟩:=RelO.some_of (v:=v) (o:=mA f) (by rw [<- l]; exact r f)
 exact get_map I.kIn O (c.get f) c.hd n hu (handed_of ru) (h u _ (I.tok _) ru)
theorem getmeth_ok {m:Str} {g:Addr} {pl:Sem Bool} {Q:Value × List Value -> Shared -> Prop} (I:Inv X pins σ H s) (e:H a = some (.ins C dx fs)) (c:Cls X.K C) (k:Meth X.K C m g) (l:fs.lookup m = none)
  (h:Q (.ref g,[.ref a]) s):wpAny (model X.prog X.w) A (getMethod (.ref a) m pl) Q E s:=by
 obtain ⟨mA,O,r,_,_,_⟩:=ins_get I.hok e
 have hn:mA m = none:=RelO.none_of (by rw [<- l]; exact r m)
 exact get_meth I.kIn O (c.get m) k.at_ k.fn hn h
theorem setattr_ok {y:V} {u:Value} {Q:Unit -> Shared -> Prop} (I:Inv X pins σ H s) (e:H a = some (.ins C dx fs)) (c:Cls X.K C) (n:NoAttr X.K C f) (hl:fs.length < 1000) (ry:RelV y u)
  (h:∀ s',Inv X pins σ (upd H a (.ins C dx (putF f y fs))) s' -> Q () s'):wpAny (model X.prog X.w) A (setAttr (.ref a) f u) Q E s:=by
 obtain ⟨mA,O,r,wi,_,ho⟩:=ins_get I.hok e
 have hz:(fs.map (·.1)).length <= sizeLine:=by rw [List.length_map,sizeLine_eq]; lia
 refine set_map I.kIn O c.sa c.po n.taker c.hd wi hz fun h' O' sb=>h _ ?_
 have hd:∃ o,h'.get? dx = some o:=let ⟨o,_,_,e',_⟩:=O'.ns; ⟨o,e'⟩
 refine I.write (x:=a) (e:=dx) (by rw [e]; exact True.intro) (.inr ho) (fun b q hb z=>(sb.2 b hb).trans z) hd ?_
 refine ⟨by rw [upd_ne O.ne]; exact ho,?_,O.ne,O'.obj,_,O'.ns,fun g=>?_,fun g hg=>?_⟩
 ·have:=length_putF f y fs; lia
 ·show RelO ((putF f y fs).lookup g) (if g = f then some u else mA g)
  rw [lookup_putF]
  by_cases q:g = f
  ·rw [if_pos q,if_pos q]; exact ry
  ·rw [if_neg q,if_neg q]; exact r g
 ·by_cases q : g = f
  ·rw [q]; exact (keys_putF f y fs).1
  ·refine (keys_putF f y fs).2 g (wi g fun z => hg ?_)
   show (if g = f then some u else mA g) = none
   rw [if_neg q]; exact z
theorem Inv.made (I:Inv X pins σ H s):Inv X pins σ (upd (upd H s.heap.objs.size (.own (s.heap.objs.size + 1))) (s.heap.objs.size + 1) (.ins C s.heap.objs.size []))
  { s with heap:=(s.heap.push PySem.W.emptyDict).push (PySem.W.instObj C s.heap.objs.size) }:=by
 have e1:(s.heap.push PySem.W.emptyDict).get? s.heap.objs.size = some PySem.W.emptyDict:=Heap.get?_push_size s.heap rfl
 have e2:((s.heap.push PySem.W.emptyDict).push (PySem.W.instObj C s.heap.objs.size)).get? (s.heap.objs.size + 1) = some (PySem.W.instObj C s.heap.objs.size):=by
  have:=Heap.get?_push_size (s.heap.push PySem.W.emptyDict) (o:=PySem.W.instObj C s.heap.objs.size) rfl
  rwa [Heap.size_push] at this
 have e3:(s.heap.push PySem.W.emptyDict).Ns s.heap.objs.size (fun _=>none):=⟨PySem.W.emptyDict,#[],_,e1,rfl,(fun e he=>absurd he (by simp)),fun _=>rfl⟩
 have I1:=I.laid (a:=s.heap.objs.size) (o:=.own (s.heap.objs.size + 1)) (h':=s.heap.push PySem.W.emptyDict) (t':=s.toks) (fun b u q=>Heap.get?_push_of_some _ q) (Nat.le_refl _) ⟨_,e1⟩
 refine I1.laid (a:=s.heap.objs.size + 1) (o:=.ins C s.heap.objs.size []) (t':=s.toks) (fun b u q=>Heap.get?_push_of_some _ q) (Nat.le_of_eq (Heap.size_push _ _)) ?_
 have ne:s.heap.objs.size ≠ s.heap.objs.size + 1:=Nat.ne_of_lt (Nat.lt_succ_self _)
 refine ⟨by rw [upd_ne ne,upd_same],Nat.zero_le _,ne,e2,fun _=>none,(Heap.Ns1.of_empty e3).at fun o q=>Heap.get?_push_of_some _ q,fun _=>True.intro,fun y hy=>absurd rfl hy⟩
theorem attr_of {prog:Program} {w:World} {env:Env} {e:Expr} {f:Str} {pos:Pos} {s:Shared} {Q:Value -> Shared -> Prop} (hb:attributeBase e f env (eval e env) = eval e env)
  (h:wpAny (model prog w) A (eval e env) (fun o s₁=>wpAny (model prog w) A (getAttr o f true) Q E s₁) E s):wpAny (model prog w) A (eval (.Attribute e f pos) env) Q E s :=
 Attribute_any_ h (by rw [arm_eval_Attribute,hb])
end
def tFld (K:PySem.W.Frag) (ta:TE) (f:Str):TE:=fun σ H Q=>ta σ H fun x H1=>∃ a C dx fs v,x = .ref a /\ H1 a = some (.ins C dx fs) /\ Cls K C /\ NoAttr K C f /\ fs.lookup f = some v /\ Q v H1
def sFld (K:PySem.W.Frag) (ta tv:TE) (f:Str):TS:=fun D σ H=>tv σ H fun y H1=>ta σ H1 fun x H2=>∃ a C dx fs,x = .ref a /\ H2 a = some (.ins C dx fs) /\ Cls K C /\ NoAttr K C f /\ fs.length < 1000 /\
 D.nx σ (upd H2 a (.ins C dx (putF f y fs)))
def InOp (X:Cx) (op:Operator) (rd:V -> V -> Hp -> VK -> Prop):Prop :=
 ∀ (pins:List (Addr × Obj)) (s:Shared) (σ:St) (H:Hp) (x y:V) (u v:Value) (Q:VK),Inv X pins σ H s -> RelV x u -> RelV y v -> rd x y H Q -> wpAny (model X.prog X.w) X.A (inplaceOp op u v) (EP X pins σ Q) X.xe s
def sFldAug (K:PySem.W.Frag) (ta tv:TE) (rd:V -> V -> Hp -> VK -> Prop) (f:Str):TS:=fun D σ H=>ta σ H fun x H1=>∃ a C dx fs v,x = .ref a /\ H1 a = some (.ins C dx fs) /\ Cls K C /\ NoAttr K C f /\ fs.lookup f = some v /\
 tv σ H1 fun y H2=>rd v y H2 fun z H3=>∃ dx' fs',H3 a = some (.ins C dx' fs') /\ fs'.length < 1000 /\ D.nx σ (upd H3 a (.ins C dx' (putF f z fs')))
section
variable {X:Cx} {o e value:Expr} {f:Str} {pos pos' tpos:Pos} {ta tv:TE}
theorem pe_fld (he:PE X e ta) (hb:attributeBase e f X.env (eval e X.env) = eval e X.env):PE X (.Attribute e f pos) (tFld X.K ta f):=by
 intro pins s σ H Q I h
 refine attr_of hb (thn (he pins s σ H _ I h) fun u s1 ⟨x,H1,I1,rx,a,C,dx,fs,v,ex,ea,c,n,l,q⟩=>?_)
 subst ex
 obtain rfl:u = Value.ref a:=rx
 exact getattr_ok I1 ea c n l fun u' s2 I2 ru=>⟨v,H1,I2,ru,q⟩
theorem ps_fld (ha:PE X o ta) (hv:PE X value tv) (hs:swapsWith value (some (.Attribute o f pos')) pos.line X.env = pure false):PS X (.Assign [.Attribute o f pos'] value pos) (sFld X.K ta tv f):=by
 intro pins s σ H D I h
 refine plainObj_wpAny_Assign_Attribute (thn (hv pins s σ H _ I h) fun u s1 ⟨y,H1,I1,ry,q⟩=>thn (ha pins s1 σ H1 _ I1 q) fun ov s2 ⟨x,H2,I2,rx,a,C,dx,fs,ex,ea,c,n,l,q2⟩=>?_) hs
 subst ex
 obtain rfl:ov = Value.ref a:=rx
 exact setattr_ok I2 ea c n l ry fun s3 I3=>⟨σ,_,I3,q2⟩
theorem ps_fldaug {op:Operator} {rd:V -> V -> Hp -> VK -> Prop} (ha:PE X o ta) (hv:PE X value tv) (hop:InOp X op rd):PS X (.AugAssign (.Attribute o f tpos) op value pos) (sFldAug X.K ta tv rd f):=by
 intro pins s σ H D I h
 refine wpAny_AugAssign_AttributeAny (thn (ha pins s σ H _ I h) fun ov s1 ⟨x,H1,I1,rx,a,C,dx,fs,v,ex,ea,c,n,l,q⟩=>?_)
 subst ex
 obtain rfl:ov = Value.ref a:=rx
 refine getattr_ok I1 ea c n l fun u s2 I2 ru=>thn (hv pins s2 σ H1 _ I2 q) fun w3 s3 ⟨y,H2,I3,ry,q3⟩=>thn (hop pins s3 σ H2 v y u w3 _ I3 ru ry q3) fun w4 s4 ⟨z,H3,I4,rz,dx',fs',ea',l',q4⟩=>?_
 exact setattr_ok I4 ea' c n l' rz fun s5 I5=>⟨σ,_,I5,q4⟩
def rAdd:V -> V -> Hp -> VK -> Prop:=fun x y H Q=>∃ i j,x = .int i /\ y = .int j /\ Q (.int (i + j)) H
theorem in_add:InOp X .Add rAdd:=by
 rintro pins s σ H x y u v Q I rx ry ⟨i,j,rfl,rfl,q⟩
 obtain ⟨t,rfl⟩:=(show ∃ t,u = Value.int i t from rx)
 obtain ⟨t',rfl⟩:=(show ∃ t',v = Value.int j t' from ry)
 exact PyProof.Rows.iadd_int ⟨.int (i + j),H,I.tok _,⟨_,rfl⟩,q⟩
end
section
variable {X:Cx} {pins:List (Addr × Obj)} {σ:St} {H:Hp} {s:Shared} {A:Around} {E:Value -> Shared -> Prop} {Q:Value -> Shared -> Prop} {c:Value} {b:Bool}
end
end L2
namespace L2
open PySem PySem.Spec PyProof.Rows
structure Room (k:Nat) (A:Around):Prop where
 hd:A.handled = none
 dp:A.depth + 3 * k + 5 < recursionLimit
 un:A.units + 16 * k + 200 < cLine
 gd:A.guards = some []
theorem Room.mono {j k:Nat} {A:Around} (r:Room k A) (h:j <= k):Room j A:=⟨r.hd,by have:=r.dp; lia,by have:=r.un; lia,r.gd⟩
theorem Room.deeper {k:Nat} {A:Around} (r:Room (k + 1) A) (env:Env):Room k (A.deeper env) :=
 ⟨r.hd,by have:=r.dp; show A.depth + 1 + 3 * k + 5 < _; lia,by have:=r.un; show A.units + 3 + 16 * k + 200 < _; lia,r.gd⟩
theorem make_depth {A:Around} {C:Addr} {us:List Value} {kw:List (Str × Value)}:(A.under (.builtin "type.__call__" ⟨.ref C :: us,kw⟩)).depth = A.depth + 1:=by
 first | rfl | simp [Around.under,Code.weight,Code.isCreation,Code.isGuard,Code.isCaller,Code.frames,Code.isFrame,guardIds]
theorem make_units {A:Around} {C:Addr} {us:List Value} {kw:List (Str × Value)}:(A.under (.builtin "type.__call__" ⟨.ref C :: us,kw⟩)).units = A.units + 1:=by
 first | rfl | simp [Around.under,Code.cUnits,Code.frames,Code.isFrame]
theorem make_guards {A:Around} {C:Addr} {us:List Value} {kw:List (Str × Value)}:(A.under (.builtin "type.__call__" ⟨.ref C :: us,kw⟩)).guards = A.guards:=by
 first | rfl | simp [Around.under,Code.guards,Code.isGuard,guardIds,pushGuards]
theorem Room.make {k:Nat} {A:Around} (r:Room (k + 1) A) (C:Addr) (us:List Value) (kw:List (Str × Value)):Room k (A.under (.builtin "type.__call__" ⟨.ref C :: us,kw⟩)) :=
 ⟨r.hd,by have:=r.dp; rw [make_depth]; lia,by have:=r.un; rw [make_units]; lia,by rw [make_guards]; exact r.gd⟩
theorem Room.depth {k:Nat} {A:Around} (r:Room k A):A.depth < recursionLimit:=by have:=r.dp; lia
theorem Room.units {k:Nat} {A:Around} (r:Room k A):A.units + 64 < cLine:=by have:=r.un; lia
def tNil:TA:=fun _ H Q=>Q [] H
def tCons (ta:TE) (tr:TA):TA:=fun σ H Q=>ta σ H fun x H1=>tr σ H1 fun xs H2=>Q (x :: xs) H2
section
variable {X:Cx} {e:Expr} {es:List Expr} {te:TE} {t:TA} {pos:Pos}
theorem pa_nil:PA X [] tNil:=fun _ _ _ _ H Q I h=>Calls.spliced_nil ⟨[],H,I,.nil,h⟩
theorem pa_cons (ha:PE X e te) (hr:PA X es t) (hs:starEach (e :: es) X.env = (false,eval e X.env) :: starEach es X.env:=by rfl):PA X (e :: es) (tCons te t):=by
 intro pos pins s σ H Q I h
 rw [hs]
 show wpAny _ _ (spliced ((false,eval e X.env) :: backTo pos (starEach es X.env))) _ _ s
 refine Calls.spliced_cons (thn (ha pins s σ H _ I h) fun u s1 ⟨x,H1,I1,r1,q1⟩=>?_)
 exact thn (hr pos pins s1 σ H1 _ I1 q1) fun us s2 ⟨xs,H2,I2,r2,q2⟩=>⟨x :: xs,H2,I2,.cons r1 r2,q2⟩
def tTup (t:TA):TE:=fun σ H Q=>t σ H fun xs H1=>xs.length <= sizeLine /\ ∀ p,H1 p = none -> Q (.ref p) (upd H1 p (.tup xs))
def tLst (t:TA):TE:=fun σ H Q=>t σ H fun xs H1=>xs.length <= sizeLine /\ ∀ p,H1 p = none -> Q (.ref p) (upd H1 p (.lst xs))
theorem pe_tup {x1} (h:PA X es t):PE X (.Tuple es x1 pos) (tTup t):=by
 intro pins s σ H Q I hq
 refine wpAny_Tuple_spliced (thn (h pos pins s σ H _ I hq) fun us s1 ⟨xs,H1,I1,r,z,q⟩=>⟨by rw [<- r.length]; exact z,?_⟩)
 have hf:H1 s1.heap.objs.size = none:=I1.hok.fresh (Nat.le_refl _)
 refine ⟨.ref s1.heap.objs.size,upd H1 s1.heap.objs.size (.tup xs),I1.laid (t':=s1.toks) (fun b u e=>Heap.get?_push_of_some _ e) (Nat.le_refl _) ?_,rfl,q _ hf⟩
 exact ⟨z,us,r,⟨_,Heap.get?_push_size _ rfl,rfl,_,rfl⟩⟩
theorem pe_lst (h:PA X es t):PE X (.List es pos) (tLst t):=by
 intro pins s σ H Q I hq
 refine wpAny_List_spliced (thn (h pos pins s σ H _ I hq) fun us s1 ⟨xs,H1,I1,r,z,q⟩=>⟨by rw [<- r.length]; exact z,?_⟩)
 have hf:H1 s1.heap.objs.size = none:=I1.hok.fresh (Nat.le_refl _)
 refine ⟨.ref s1.heap.objs.size,upd H1 s1.heap.objs.size (.lst xs),I1.laid (t':=s1.toks) (fun b u e=>Heap.get?_push_of_some _ e) (Nat.le_refl _) ?_,rfl,q _ hf⟩
 exact ⟨z,us,0,r,Heap.get?_push_size _ rfl⟩
end
abbrev Sp:=List V -> Hp -> VK -> XK -> Prop
abbrev CXT:=List Env -> Hp -> Shared -> XK -> Value -> Shared -> Prop
structure Env0 (P:Program) (w:World) (K:PySem.W.Frag) (mg:Str -> Option Value) (base:Heap) (A:Around) (outer:List Env) (s:Shared) (H:Hp):Prop where
 frames:A.frames = some outer
 mod:Mod K mg base
 bs:∀ b o,base.get? b = some o -> s.heap.get? b = some o /\ H b = none
 bsz:base.objs.size <= s.heap.objs.size
 funs:s.heap.FunFrames base outer
 frf:∀ b ∈ frs outer,H b = none
 hok:HOk P w H s.heap
 bare:AllBare s.gens
def CE (outer:List Env) (P:Program) (w:World) (H:Hp) (s:Shared) (Q:VK) (u:Value) (s':Shared):Prop :=
 ∃ v H',s'.os = s.os /\ AllBare s'.gens /\ Un (frs outer) [] H H' s.heap s'.heap /\ HOk P w H' s'.heap /\ RelV v u /\ Q v H'
def CR (CX:CXT) (outer:List Env) (P:Program) (w:World) (H:Hp) (s:Shared) (Q:VK) (E:XK) (r:Result) (s':Shared):Prop :=
 match r with
 | .ok (.ret u)=>CE outer P w H s Q u s'
 | .ok _=>False
 | .error e=>CX outer H s E e s'
structure FnOk (P:Program) (w:World) (K:PySem.W.Frag) (mg:Str -> Option Value) (base:Heap) (CX:CXT) (k:Nat) (f:Addr) (fd:FuncData) (ps:List Str) (sp:Sp):Prop where
 len:∀ vs H Q E,sp vs H Q E -> vs.length = ps.length
 run:∀ (A:Around) (outer:List Env) (s:Shared) (H:Hp) (args:Args) (us:List Value) (vs:List V) (Q:VK) (E:XK),Room k A -> Env0 P w K mg base A outer s H -> BindsTo s fd args (ps.zip us) -> Vals vs us -> sp vs H Q E ->
  codeAny (model P w) A (.call (.ref f) args) (CR CX outer P w H s Q E) s
theorem Env0.make {P:Program} {w:World} {K:PySem.W.Frag} {mg:Str -> Option Value} {base:Heap} {A:Around} {outer:List Env} {s:Shared} {H:Hp} (e:Env0 P w K mg base A outer s H) (C:Addr) (us:List Value) (kw:List (Str × Value)) :
  Env0 P w K mg base (A.under (.builtin "type.__call__" ⟨.ref C :: us,kw⟩)) outer s H:=⟨by first | exact e.frames | (simpa [Around.under,Code.envs,Code.isFrame,pushEnvs] using e.frames),e.mod,e.bs,e.bsz,e.funs,e.frf,e.hok,e.bare⟩
section
variable {X:Cx} {pins:List (Addr × Obj)} {σ:St} {H:Hp} {s s':Shared}
theorem Inv.env0 (I:Inv X pins σ H s):Env0 X.prog X.w X.K X.mg X.base X.A X.stack s H :=
 ⟨I.ok.frames,I.ok.mod,I.bs,Nat.le_trans I.ok.bsz I.sz,I.stack,I.stkFree,I.hok,I.bare⟩
theorem Inv.after {Q:VK} {u:Value} (I:Inv X pins σ H s) (h:CE X.stack X.prog X.w H s Q u s'):EP X pins σ Q u s':=by
 obtain ⟨v,H',os,bare,un,hok,r,q⟩:=h
 obtain ⟨hh,g,d,t,os'⟩:=s'
 obtain rfl:os' = s.os:=os
 exact ⟨v,H',I.call (h':=hh) (g':=g) (d':=d) (t':=t) (ch:=[]) un hok bare (fun b z=>absurd z (by simp)),r,q⟩
end
def tCall (sp:Sp) (dvs:List V) (E:XK) (t:TA):TE:=fun σ H Q=>t σ H fun vs H1=>sp (vs ++ dvs) H1 Q E
def tMeth (C:Addr) (m:Str) (sp:Sp) (dvs:List V) (E:XK) (ta:TE) (t:TA):TE:=fun σ H Q=>ta σ H fun x H1=>∃ a dx fs,x = .ref a /\ H1 a = some (.ins C dx fs) /\ fs.lookup m = none /\
 t σ H1 fun vs H2=>sp (x :: (vs ++ dvs)) H2 Q E
def tMake (C:Addr) (sp:Sp) (dvs:List V) (E:XK) (t:TA):TE:=fun σ H Q=>t σ H fun vs H1=>∀ x dx,H1 x = none -> H1 dx = none -> dx ≠ x ->
 sp (.ref x :: (vs ++ dvs)) (upd (upd H1 dx (.own x)) x (.ins C dx [])) (fun v H2=>v = .non /\ Q (.ref x) H2) E
def Binds (K:PySem.W.Frag) (fd:FuncData) (ps:List Str) (ds:List Value):Prop :=
 ∀ (s:Shared) (us:List Value),K.In s.heap -> (us ++ ds).length = ps.length -> BindsTo s fd ⟨us,[]⟩ (ps.zip (us ++ ds))
theorem Binds.all {K:PySem.W.Frag} {fd:FuncData} {ps:List Str} (h:∀ us:List Value,us.length = ps.length -> bindArgs fd ⟨us,[]⟩ = pure (ps.zip us)):Binds K fd ps []:=fun s us _ hl=>by
 rw [List.append_nil] at hl ⊢
 exact .of_eq (h us hl)
def Passes (CX:CXT) (X:Cx) (E:XK):Prop:=∀ (pins:List (Addr × Obj)) (σ:St) (H:Hp) (s:Shared) (e:Value) (s':Shared),Inv X pins σ H s -> CX X.stack H s E e s' -> X.xe e s'
section
variable {X:Cx} {CX:CXT} {k:Nat} {f C:Addr} {fd:FuncData} {ps:List Str} {sp:Sp} {dvs:List V} {ds:List Value} {E:XK} {x m:Str} {p pos apos:Pos} {e o:Expr} {es:List Expr} {ta:TE} {t:TA}
theorem run_fn {pins:List (Addr × Obj)} {σ:St} {H:Hp} {s:Shared} {Q:VK} {us:List Value} {vs:List V} (F:FnOk X.prog X.w X.K X.mg X.base CX k f fd ps sp) (hr:Room k X.A) (hb:Binds X.K fd ps ds) (hd:Vals dvs ds) (hx:Passes CX X E)
  (I:Inv X pins σ H s) (r:Vals vs us) (h:sp (vs ++ dvs) H Q E):wpAny (model X.prog X.w) X.A (call (.ref f) us) (EP X pins σ Q) X.xe s:=by
 have r2:Vals (vs ++ dvs) (us ++ ds):=r.append hd
 have hl:(us ++ ds).length = ps.length:=by rw [<- r2.length]; exact F.len _ _ _ _ h
 refine wpAny_call (codeAny_mono (F.run X.A X.stack s H ⟨us,[]⟩ (us ++ ds) (vs ++ dvs) Q E hr I.env0 (hb s us I.kIn hl) r2 h) fun r s' hq=>?_)
 cases r with
 | error e=>exact hx pins σ H s e s' I hq
 | ok fl =>
  cases fl with
  | ret u=>exact I.after hq
  | next=>exact False.elim hq
  | brk=>exact False.elim hq
  | cont=>exact False.elim hq
theorem pe_call (F:FnOk X.prog X.w X.K X.mg X.base CX k f fd ps sp) (hr:Room k X.A) (hg:Gl X x) (hm:X.mg x = some (.ref f)) (hk:PySem.W.keepIn X.K (.ref f) = true) (hb:Binds X.K fd ps ds) (hd:Vals dvs ds) (hx:Passes CX X E)
  (ha:PA X (e :: es) t) (hdb:(x == ("__debug__" : Str)) = false:=by decide) (he:starEach (e :: es) X.env = (false,eval e X.env) :: starEach es X.env:=by rfl) (hpl:(backTo pos (starEach es X.env)).any (·.1) = false:=by rfl) :
  PE X (.Call (.Name x p) (e :: es) [] pos) (tCall sp dvs E t):=by
 intro pins s σ H Q I h
 refine wpAny_Call_Name_kw (ld_glob I hg hm ?_ hdb)
 refine PySem.W.callWith_K (h₀:=X.base) I.ok.mod.kin hk (thn (ha pos pins s σ H _ I h) fun us s1 ⟨vs,H1,I1,r,q⟩=>⟨I1.kIn,?_⟩) he hpl
 exact run_fn F hr hb hd hx I1 r q
theorem pe_meth {pl:Sem Bool} (he:PE X o ta) (c:Cls X.K C) (hm:Meth X.K C m f) (F:FnOk X.prog X.w X.K X.mg X.base CX k f fd ps sp) (hr:Room k X.A) (hb:Binds X.K fd ps ds) (hd:Vals dvs ds) (hx:Passes CX X E) (ha:PA X (e :: es) t)
  (hst:starEach (e :: es) X.env = (false,eval e X.env) :: starEach es X.env:=by rfl) (hpl:(backTo pos (starEach es X.env)).any (·.1) = false:=by rfl)
  (ht : eval (.Call (.Attribute o m apos) (e :: es) [] pos) X.env = (do
   let ov <- eval o X.env
   standAt apos.atName
   let (f,first) <- holding [ov] (getMethod ov m pl)
   callWith pos f first (backTo pos (starEach (e :: es) X.env)) (backToKw pos (keywordEach [] X.env))):=by rfl) :
  PE X (.Call (.Attribute o m apos) (e :: es) [] pos) (tMeth C m sp dvs E ta t):=by
 intro pins s σ H Q I h
 refine PySem.W.methodCall_KW (pl:=pl) (thn (he pins s σ H _ I h) fun u s1 ⟨x,H1,I1,rx,a,dx,fs,ex,ea,l,q⟩=>?_) ht
 subst ex
 obtain rfl:u = Value.ref a:=rx
 refine getmeth_ok I1 ea c hm l ?_
 refine PySem.W.callWith_K (first:=[.ref a]) (h₀:=X.base) I.ok.mod.kin hm.kp (thn (ha pos pins s1 σ H1 _ I1 q) fun us s2 ⟨vs,H2,I2,r,q2⟩=>⟨I2.kIn,?_⟩) hst hpl
 exact run_fn (us:=.ref a :: us) (vs:=.ref a :: vs) F hr hb hd hx I2 (.cons rfl r) q2
theorem pe_meth0 {pl:Sem Bool} (he:PE X o ta) (c:Cls X.K C) (hm:Meth X.K C m f) (F:FnOk X.prog X.w X.K X.mg X.base CX k f fd ps sp) (hr:Room k X.A) (hb:Binds X.K fd ps ds) (hd:Vals dvs ds) (hx:Passes CX X E)
  (ht : eval (.Call (.Attribute o m apos) [] [] pos) X.env = (do
   let ov <- eval o X.env
   standAt apos.atName
   let (f,first) <- holding [ov] (getMethod ov m pl)
   callWith pos f first (backTo pos (starEach [] X.env)) (backToKw pos (keywordEach [] X.env))):=by rfl) :
  PE X (.Call (.Attribute o m apos) [] [] pos) (tMeth C m sp dvs E ta tNil):=by
 intro pins s σ H Q I h
 refine PySem.W.methodCall_KW (pl:=pl) (thn (he pins s σ H _ I h) fun u s1 ⟨x,H1,I1,rx,a,dx,fs,ex,ea,l,q⟩=>?_) ht
 subst ex
 obtain rfl:u = Value.ref a:=rx
 refine getmeth_ok I1 ea c hm l ?_
 exact PySem.W.callWith_K0 (first:=[.ref a]) I1.kIn hm.kp (run_fn (us:=[.ref a]) (vs:=[.ref a]) F hr hb hd hx I1 (.cons rfl .nil) q)
structure Mk (K:PySem.W.Frag) (C f:Addr):Prop where
 makes:PySem.W.makesIn K C = true
 init:PySem.W.findIn K (.ref C) "__init__" = some (some (.ref f))
 fn:PySem.W.isFn K (.ref f) = true
 kp:PySem.W.keepIn K (.ref C) = true
theorem run_make {pins:List (Addr × Obj)} {σ:St} {H:Hp} {s:Shared} {Q:VK} {us:List Value} {vs:List V} (M:Mk X.K C f) (F:FnOk X.prog X.w X.K X.mg X.base CX k f fd ps sp) (hr:Room (k + 1) X.A) (hb:Binds X.K fd ps ds) (hd:Vals dvs ds)
  (hx:Passes CX X E) (I:Inv X pins σ H s) (r:Vals vs us)
  (h:∀ x dx,H x = none -> H dx = none -> dx ≠ x -> sp (.ref x :: (vs ++ dvs)) (upd (upd H dx (.own x)) x (.ins C dx [])) (fun v H2=>v = .non /\ Q (.ref x) H2) E) :
  wpAny (model X.prog X.w) X.A (call (.ref C) us) (EP X pins σ Q) X.xe s:=by
 have hq:=h (s.heap.objs.size + 1) s.heap.objs.size (I.hok.fresh (Nat.le_succ _)) (I.hok.fresh (Nat.le_refl _)) (Nat.ne_of_lt (Nat.lt_succ_self _))
 have I2:=Inv.made (C:=C) I
 have r2:Vals (V.ref (s.heap.objs.size + 1) :: (vs ++ dvs)) (Value.ref (s.heap.objs.size + 1) :: (us ++ ds)):=.cons rfl (r.append hd)
 have hl:(Value.ref (s.heap.objs.size + 1) :: us ++ ds).length = ps.length:=by
  have e:=r2.length
  rw [F.len _ _ _ _ hq] at e
  exact e.symm
 refine wpAny_call (make_map (f:=f) I.kIn M.makes M.init (beq_iff_eq.mp M.fn) (codeAny_mono (F.run _ X.stack _ _ ⟨Value.ref (s.heap.objs.size + 1) :: us,[]⟩ (Value.ref (s.heap.objs.size + 1) :: (us ++ ds)) _ _ E (hr.make C us [])
  (I2.env0.make C us []) (hb _ (Value.ref (s.heap.objs.size + 1) :: us) I2.kIn hl) r2 hq) fun r s' hq'=>?_))
 cases r with
 | error e=>exact hx pins σ _ _ e s' I2 hq'
 | ok fl =>
  cases fl with
  | ret u =>
   obtain ⟨v,H',I3,rv,ev,q3⟩:=I2.after hq'
   subst ev
   exact ⟨rv,⟨V.ref (s.heap.objs.size + 1),H',I3,rfl,q3⟩⟩
  | next=>exact False.elim hq'
  | brk=>exact False.elim hq'
  | cont=>exact False.elim hq'
theorem pe_make (M:Mk X.K C f) (F:FnOk X.prog X.w X.K X.mg X.base CX k f fd ps sp) (hr:Room (k + 1) X.A) (hg:Gl X x) (hm:X.mg x = some (.ref C)) (hb:Binds X.K fd ps ds) (hd:Vals dvs ds) (hx:Passes CX X E)
  (ha:PA X (e :: es) t) (hdb:(x == ("__debug__" : Str)) = false:=by decide) (he:starEach (e :: es) X.env = (false,eval e X.env) :: starEach es X.env:=by rfl) (hpl:(backTo pos (starEach es X.env)).any (·.1) = false:=by rfl) :
  PE X (.Call (.Name x p) (e :: es) [] pos) (tMake C sp dvs E t):=by
 intro pins s σ H Q I h
 refine wpAny_Call_Name_kw (ld_glob I hg hm ?_ hdb)
 refine PySem.W.callWith_K (h₀:=X.base) I.ok.mod.kin M.kp (thn (ha pos pins s σ H _ I h) fun us s1 ⟨vs,H1,I1,r,q⟩=>⟨I1.kIn,?_⟩) he hpl
 exact run_make M F hr hb hd hx I1 r q
end
section
variable {X:Cx} {CX:CXT} {k:Nat} {f C:Addr} {fd:FuncData} {ps ks:List Str} {sp:Sp} {E:XK} {x m:Str} {p pos apos kpos:Pos} {e o:Expr} {es:List Expr} {kws:List Keyword} {te ta:TE} {t tk:TA} {nm:Option Str}
variable {g:List Value -> List Value -> List Value} {gV:List V -> List V -> List V}
end
structure FnScope (N P:List Str) (sc:Scope):Prop where
 kind:sc.kind = .function
 co:sc.isCoroutine = false
 gen:sc.isGenerator = false
 nd:N.Nodup
 pre:N.take P.length = P
 par:∀ x ∈ P,sc.names.lookup x = some .local \/ sc.names.lookup x = some .cell
 nofree:∀ y ∈ sc.names,y.2 ≠ .free
theorem bindL_out {kindOf:Str -> Option NameKind} {x:Str}:∀ {binds:List (Str × Value)} {m:Str -> Option Value},(∀ v,(x,v) ∉ binds) -> bindL kindOf binds m x = m x
 | [],_,_=>rfl
 | (n, v) :: r, m, h => by
  unfold bindL
  rw [bindL_out fun w hw=>h w (List.mem_cons_of_mem _ hw)]
  split
  ·have : x ≠ n := by rintro rfl; exact h v List.mem_cons_self
   simp [this]
  ·rfl
theorem bindC_out {kindOf:Str -> Option NameKind} {x:Str}:∀ {binds:List (Str × Value)} {m:Str -> Option Value},(∀ v,(x,v) ∉ binds) -> bindC kindOf binds m x = m x
 | [],_,_=>rfl
 | (n, v) :: r, m, h => by
  unfold bindC
  rw [bindC_out fun w hw=>h w (List.mem_cons_of_mem _ hw)]
  split
  ·rfl
  ·have : x ≠ n := by rintro rfl; exact h v List.mem_cons_self
   simp [this]
theorem bindL_get {kindOf:Str -> Option NameKind} {x:Str} {v:Value}:∀ {P:List Str} {vs:List Value} {i:Nat} {m:Str -> Option Value},P.Nodup -> P[i]? = some x -> vs[i]? = some v -> kindOf x = some .local ->
  bindL kindOf (P.zip vs) m x = some v
 | [],_,_,_,_,h,_,_=>by simp at h
 | _ :: _,[],_,_,_,_,h,_=>by simp at h
 | p :: P,w :: vs,0,m,nd,h1,h2,hk=>by
  simp at h1 h2; subst h1; subst h2
  show bindL kindOf ((p,w) :: P.zip vs) m p = _
  unfold bindL
  rw [bindL_out fun v hv=>(List.nodup_cons.mp nd).1 (List.of_mem_zip hv).1,if_pos hk]
  simp
 | p :: P,w :: vs,i + 1,m,nd,h1,h2,hk=>by
  show bindL kindOf ((p,w) :: P.zip vs) m x = _
  unfold bindL
  exact bindL_get (i:=i) (List.nodup_cons.mp nd).2 (by simpa using h1) (by simpa using h2) hk
theorem bindC_get {kindOf:Str -> Option NameKind} {x:Str} {v:Value}:∀ {P:List Str} {vs:List Value} {i:Nat} {m:Str -> Option Value},P.Nodup -> P[i]? = some x -> vs[i]? = some v -> kindOf x ≠ some .local ->
  bindC kindOf (P.zip vs) m x = some v
 | [],_,_,_,_,h,_,_=>by simp at h
 | _ :: _,[],_,_,_,_,h,_=>by simp at h
 | p :: P,w :: vs,0,m,nd,h1,h2,hk=>by
  simp at h1 h2; subst h1; subst h2
  show bindC kindOf ((p,w) :: P.zip vs) m p = _
  unfold bindC
  rw [bindC_out fun v hv=>(List.nodup_cons.mp nd).1 (List.of_mem_zip hv).1,if_neg hk]
  simp
 | p :: P,w :: vs,i + 1,m,nd,h1,h2,hk=>by
  show bindC kindOf ((p,w) :: P.zip vs) m x = _
  unfold bindC
  exact bindC_get (i:=i) (List.nodup_cons.mp nd).2 (by simpa using h1) (by simpa using h2) hk
def start (N:List Str) (vs:List V):St:=vs.map some ++ List.replicate (N.length - vs.length) none
def cxOf (CX:CXT) (P:Program) (w:World) (K:PySem.W.Frag) (mg:Str -> Option Value) (base:Heap) (N:List Str) (qual:Str) (scope:Scope) (f:Addr) (cd:Value) (A:Around) (outer:List Env) (s:Shared) (H:Hp) (E:XK):Cx where
 prog:=P
 w:=w
 K:=K
 mg:=mg
 base:=base
 A:=A.deeper (envOfC qual scope s.heap.objs.size f cd)
 N:=N
 s₀:=s
 H₀:=H
 env:=envOfC qual scope s.heap.objs.size f cd
 outer:=outer
 stack:=envOfC qual scope s.heap.objs.size f cd :: outer
 ex:=[]
 calm:=true
 fn:=fun _=>true
 pn:=[]
 xe:=fun e s'=>wpAny (model P w) (A.deeper (envOfC qual scope s.heap.objs.size f cd)) (leaving (envOfC qual scope s.heap.objs.size f cd) e) (fun _ s''=>CX outer H s E e s'') (fun e' s''=>CX outer H s E e' s'') s'
theorem cell_has {sc:Scope} {n:Nat} {x:Str} (h:sc.names.lookup x = some .cell):∃ c,(cellsFrom n sc.names []).lookup x = some c:=by
 have q:=PySem.W.cellsFrom_some sc.names n [] (.inl h)
 exact Option.isSome_iff_exists.mp q
theorem inv_start {CX:CXT} {P:Program} {w:World} {K:PySem.W.Frag} {mg:Str -> Option Value} {base:Heap} {N ps:List Str} {qual:Str} {scope:Scope} {f:Addr} {cd:Value} {A:Around} {outer:List Env} {s s1:Shared} {H:Hp} {E:XK} {us:List Value} {vs:List V}
  (S:FnScope N ps scope) (hd:A.handled = none) (e0:Env0 P w K mg base A outer s H) (hl:vs.length = ps.length) (r:Vals vs us)
  (x:InCallC s s.heap.objs.size (bindL (envOfC qual scope s.heap.objs.size f cd).kindOf (ps.zip us) fun _=>none) (cellsFrom (s.heap.objs.size + 1) scope.names []) (bindC (envOfC qual scope s.heap.objs.size f cd).kindOf (ps.zip us) fun _=>none) s1) :
  Inv (cxOf CX P w K mg base N qual scope f cd A outer s H E) [] (start N vs) H s1:=by
 have hpl:ps.length <= N.length:=by have:=congrArg List.length S.pre; rw [List.length_take] at this; lia
 obtain ⟨h1,tk,rfl,hk⟩:=x.done
 have noA:∀ b:Addr,b ∉ (cxOf CX P w K mg base N qual scope f cd A outer s H E).ex:=fun b z=>absurd (show b ∈ ([]:List Addr) from z) (by simp)
 refine ⟨⟨e0.mod,S.kind,rfl,rfl,Nat.le_refl _,fun y z c h1 h2=>?_,fun y hy=>?_,fun y c _ h=>?_,fun _=>hd,Around.frames_deeper e0.frames,.inr ⟨rfl,rfl⟩,fun b z=>absurd z (noA b),e0.bs,e0.bsz,fun b _ _=>noA b,fun b z=>absurd z (noA b),e0.funs,e0.frf⟩,
  rfl,e0.bare,Un.kept hk,⟨_,x.toInCall.ns,fun i y v h1 h2 h3=>?_⟩,fun y c h=>⟨_,x.cell y c h⟩,e0.hok.fresh (Nat.le_refl _),fun y c h=>?_,fun p hp=>absurd (show p ∈ ([]:List (Addr × Obj)) from hp) (by simp),e0.hok.kept hk,?_⟩
 ·exact name_of_addr x.apart (PySem.mem_of_lookup h1) (PySem.mem_of_lookup h2)
 ·have hy : scope.names.lookup y = some .cell \/ scope.names.lookup y = some .free := hy
  rcases hy with hy | hy
  ·exact cell_has hy
  ·exact absurd rfl (S.nofree _ (PySem.mem_of_lookup hy))
 ·exact Nat.le_of_lt (x.above y c (PySem.mem_of_lookup h))
 ·have hi : i < vs.length := by
   unfold start at h2
   by_cases hi:i < vs.length
   ·exact hi
   ·rw [List.getElem?_append_right (by simpa using hi)] at h2
    rw [List.getElem?_replicate] at h2
    split at h2 <;> cases h2
  have ha:vs[i]? = some v:=by
   unfold start at h2
   rw [List.getElem?_append_left (by simpa using hi),List.getElem?_map] at h2
   cases e:vs[i]? with
   | none=>rw [e] at h2; cases h2
   | some a=>rw [e] at h2; cases h2; rfl
  obtain ⟨u,hu,rv⟩:=r.get ha
  have hp:ps[i]? = some y:=by
   rw [<- S.pre,List.getElem?_take_of_lt (by lia)]; exact h1
  have ndP:ps.Nodup:=by rw [<- S.pre]; exact S.nd.sublist (List.take_sublist _ _)
  refine ⟨u,rv,?_⟩
  rcases S.par y (List.mem_of_getElem? hp) with k | k
  ·exact .inl ⟨k,bindL_get ndP hp hu k⟩
  ·obtain ⟨c, e⟩ := cell_has (n := s.heap.objs.size + 1) k
   refine .inr ⟨.inl k,c,e,?_⟩
   have q:=x.cell y c e
   rw [bindC_get ndP hp hu (by show scope.names.lookup y ≠ _; rw [k]; decide)] at q
   exact q
 ·exact e0.hok.fresh (Nat.le_of_lt (x.above y c (PySem.mem_of_lookup h)))
 ·unfold start
  show _ = N.length
  rw [List.length_append,List.length_map,List.length_replicate]
  lia
theorem fn_of {CX:CXT} {P:Program} {w:World} {K:PySem.W.Frag} {mg:Str -> Option Value} {base:Heap} {k:Nat} {f:Addr} {name qual:Str} {params:Arguments} {body:List Stmt} {scope:Scope} {dV kV doc pm cdv ct oc:Value} {an od:Option Addr}
  {osl:Array (Option Value)} {N ps:List Str} {sp:Sp} (lk:K.lookup f = some ⟨oc,od,.func (PySem.W.fnOf name qual params body scope dV kV doc pm an cdv ct),osl⟩) (hcd:PySem.W.codeIn K cdv qual = true) (S:FnScope N ps scope)
  (len:∀ vs H Q E,sp vs H Q E -> vs.length = ps.length)
  (hbody : ∀ (A : Around) (outer : List Env) (s : Shared) (H : Hp) (vs : List V) (Q : VK) (E : XK), Room k (A.deeper (envOfC qual scope s.heap.objs.size f cdv)) -> sp vs H Q E ->
   ∃ t,PSs (cxOf CX P w K mg base N qual scope f cdv A outer s H E) body t /\ t { nx:=fun _ H'=>Q .non H',rt:=Q } (start N vs) H) :
  FnOk P w K mg base CX (k + 1) f (PySem.W.fnOf name qual params body scope dV kV doc pm an cdv ct) ps sp:=by
 refine ⟨len,fun A outer s H args us vs Q E hr e0 hb r hsp=>?_⟩
 have hl:=len _ _ _ _ hsp
 have KX:K.In s.heap:=e0.mod.kin.keeps fun b o e=>(e0.bs b o e).1
 have lim:s.heap.NoLimit:=e0.mod.nolimit.keeps fun b o e=>(e0.bs b o e).1
 have hkind:∀ y ∈ ps.zip us,scope.names.lookup y.1 = some .local \/ (scope.names.lookup y.1 = some .cell /\ ((cellsFrom (s.heap.objs.size + 1) scope.names []).lookup y.1).isSome = true):=fun ⟨n,v⟩ hy=>by
  rcases S.par n (List.of_mem_zip hy).1 with q | q
  ·exact .inl q
  ·exact .inr ⟨q,PySem.W.cellsFrom_some _ _ _ (.inl q)⟩
 refine codeAny_call_function hr.depth (KX _ _ lk) rfl S.co S.gen rfl (PySem.W.codeRec_of KX hcd) (hb _ _ _ _ ?_)
 refine wpAny_newFunctionEnv_cells S.kind hkind fun env he s1 x=>?_
 subst he
 refine ⟨lim.keeps x.toInCall.keep,codeAny_func ?_⟩
 obtain ⟨t,ht,hq⟩:=hbody A outer s H vs Q E (hr.deeper _) hsp
 have I:Inv (cxOf CX P w K mg base N qual scope f cdv A outer s H E) [] (start N vs) H s1:=inv_start S hr.hd e0 hl r x
 refine wpAny_mono (ht [] s1 (start N vs) H _ I hq) (fun fl s' hs=>?_) fun e s' hs=>hs
 have fin:∀ {σ':St} {H':Hp} {v:V} {u:Value},Inv (cxOf CX P w K mg base N qual scope f cdv A outer s H E) [] σ' H' s' -> RelV v u -> Q v H' -> CE outer P w H s Q u s' :=
  fun {σ' H' v u} J rv q=>⟨v,H',J.os,J.bare,J.base,J.hok,rv,q⟩
 cases fl with
 | ret u =>
  obtain ⟨v,σ',H',J,rv,q⟩:=hs
  exact fin J rv q
 | next =>
  obtain ⟨σ',H',J,q⟩:=hs
  exact fin (v:=V.non) (u:=Value.none) J rfl q
 | brk =>
  obtain ⟨_,_,_,q⟩:=hs
  exact False.elim q
 | cont =>
  obtain ⟨_,_,_,q⟩:=hs
  exact False.elim q
end L2
namespace L2
open PySem PySem.Spec PyProof.Rows
section
variable {X:Cx} {x:Str} {p pos:Pos} {e:Expr} {es:List Expr} {t:TA} {id T:String} {r:List V -> Hp -> VK -> Prop}
def tCB (r:List V -> Hp -> VK -> Prop) (t:TA):TE:=fun σ H Q=>t σ H fun vs H1=>r vs H1 Q
theorem pe_callB (hc:CallR X (.builtin id) r) (hg:Gl X x) (hm:X.mg x = none) (hv:bootBuiltins x = some (.builtin id)) (ha:PA X (e :: es) t) (hn:x ≠ "__name__" := by decide) (hdb:(x == ("__debug__" : Str)) = false:=by decide)
  (he:starEach (e :: es) X.env = (false,eval e X.env) :: starEach es X.env:=by rfl) (hpl:(backTo pos (starEach es X.env)).any (·.1) = false:=by rfl):PE X (.Call (.Name x p) (e :: es) [] pos) (tCB r t):=by
 intro pins s σ H Q I h
 refine wpAny_Call_Name_kw (ld_blt I hg hm hv ?_ hn hdb)
 exact PyProof.Rows.callWith_builtin1 (thn (ha pos pins s σ H _ I h) fun us s1 ⟨vs,H1,I1,r1,q1⟩=>hc pins s1 σ H1 vs us Q I1 r1 q1) he hpl
theorem pe_callTy (hc:CallR X (.type T) r) (hg:Gl X x) (hm:X.mg x = none) (hv:bootBuiltins x = some (.type T)) (ha:PA X (e :: es) t) (hn:x ≠ "__name__" := by decide) (hdb:(x == ("__debug__" : Str)) = false:=by decide)
  (he:starEach (e :: es) X.env = (false,eval e X.env) :: starEach es X.env:=by rfl) (hpl:(backTo pos (starEach es X.env)).any (·.1) = false:=by rfl):PE X (.Call (.Name x p) (e :: es) [] pos) (tCB r t):=by
 intro pins s σ H Q I h
 refine wpAny_Call_Name_kw (ld_blt I hg hm hv ?_ hn hdb)
 exact PyProof.Rows.callWith_type1 (thn (ha pos pins s σ H _ I h) fun us s1 ⟨vs,H1,I1,r1,q1⟩=>hc pins s1 σ H1 vs us Q I1 r1 q1) he hpl
end
end L2
namespace HT
open PySem PyProof.Rows
def lexLt:List Int -> List Int -> Bool
 | [],[]=>false
 | [],_ :: _=>true
 | _ :: _,[]=>false
 | x :: xs,y :: ys=>if x = y then lexLt xs ys else decide (x < y)
theorem lexLt_cons (x y:Int) (xs ys:List Int):lexLt (x :: xs) (y :: ys) = if x = y then lexLt xs ys else decide (x < y):=rfl
theorem lexLt_nil_nil:lexLt [] [] = false:=rfl
theorem lexLt_nil_cons (y:Int) (ys:List Int):lexLt [] (y :: ys) = true:=rfl
theorem lexLt_cons_nil (x:Int) (xs:List Int):lexLt (x :: xs) [] = false:=rfl
theorem eqAt_int (A:Around) (s:Shared) (a:Int) (t:Tok) (c:Int) (u:Tok):∃ e,SeqAt.EqAt A s (.int a t) (.int c u) e /\ (e = true ↔ a = c) :=
 ⟨(a == c),SeqAt.EqAt.int_int a t c u,by simp⟩
theorem rcLt_int (A:Around) (s:Shared) (a:Int) (t:Tok) (c:Int) (u:Tok) (prog:Program) (w:World) (E:Value -> Shared -> Prop) (Q:Value -> Shared -> Prop) (h:Q (.bool (decide (a < c))) s) :
  wpAny (model prog w) A (richCompare .Lt (.int a t) (.int c u)) Q E s :=
 (PyProof.Rows.lt_int h:wpAny (model prog w) A (compareOp .Lt (.int a t) (.int c u)) Q E s)
section
open PySem.SeqAt
open PySem.AutoSeq1 (wpAny_loadPart')
open PySem.MeetsSeq PySem.MeetsSeq2 PySem.MeetsSeq3
theorem tuple_lt_ints (l b:Addr) (items items2:Array Value) (n n2:Nat) (dd dd2:Option Addr) (sl sl2:Array (Option Value)) (ns ms:List Int) (hi:IntsAre items.toList ns) (hj:IntsAre items2.toList ms) :
  Meets (Builtin.«tuple.__lt__» ⟨[.ref l,.ref b],[]⟩)
   (fun _ R s => s.heap.get? l = some { cls := .type "tuple", dict := dd, data := .seq items n, slots := sl } /\ s.heap.get? b = some { cls := .type "tuple", dict := dd2, data := .seq items2 n2, slots := sl2 } /\
    R (.ok (.ret (.bool (lexLt ns ms)))) s) :=
 .of_wp fun prog w A R s h=>by
  obtain ⟨hp,g,d,tk,os⟩:=s; obtain ⟨hl,hb,h⟩:=h
  have f2:=AutoSeq1.sub_tuple_tuple
  have z1:items.size = ns.length:=by rw [<- hi.length]; simp
  have z2:items2.size = ms.length:=by rw [<- hj.length]; simp
  wp_walk using wpAny_loadPart' hl,wpAny_loadPart' hb,wpAny_forIn_list _ (fun rest b s'=>b.1 = none /\ s' = ⟨hp,g,d,tk,os⟩ /\ ∃ (vs ws:List Value) (ns' ms':List Int),rest = vs.zip ws /\
   IntsAre vs ns' /\ IntsAre ws ms' /\ ns'.length + items2.size = ms'.length + items.size /\ R (.ok (.ret (.bool (lexLt ns' ms')))) ⟨hp,g,d,tk,os⟩) _
  case turn =>
   rintro ⟨y,x⟩ rest b s' ⟨hb',rfl,vs,ws,ns',ms',hz,hvi,hwi,hlen,hR⟩
   cases hvi with
   | nil=>rw [List.zip_nil_left] at hz; cases hz
   | cons a t hvi' =>
    cases hwi with
    | nil=>rw [List.zip_nil_right] at hz; cases hz
    | cons c u hwi' =>
     rw [List.zip_cons_cons] at hz
     injection hz with hyx hrest
     injection hyx with hy hx
     subst hy hx
     rw [lexLt_cons] at hR
     simp only [List.length_cons] at hlen
     obtain ⟨e,he,hiff⟩:=eqAt_int A.in1 ⟨hp,g,d,tk,os⟩ a t c u
     refine wpAny_bind (he prog w _ _ ?_)
     cases e with
     | true =>
      rw [if_pos (hiff.mp rfl)] at hR
      wp_walk
      exact ⟨rfl,rfl,_,_,_,_,hrest,hvi',hwi',by lia,hR⟩
     | false =>
      rw [if_neg (fun q=>absurd (hiff.mpr q) Bool.false_ne_true)] at hR
      have hri:=rcLt_int A.in1 ⟨hp,g,d,tk,os⟩ a t c u prog w
      wp_walk using hri
      exact ⟨_,rfl,by simpa using hR⟩
  case fin =>
   rintro ⟨b1,b2⟩ s' ⟨hb',rfl,vs,ws,ns',ms',hz,hvi,hwi,hlen,hR⟩
   simp only at hb'
   subst hb'
   have hv:lexLt ns' ms' = decide (items.size < items2.size):=by
    cases hvi with
    | nil =>
     cases hwi with
     | nil =>
      simp only [List.length_nil] at hlen
      rw [lexLt_nil_nil]
      exact (decide_eq_false (by lia)).symm
     | cons c u hw =>
      simp only [List.length_nil,List.length_cons] at hlen
      rw [lexLt_nil_cons]
      exact (decide_eq_true (by lia)).symm
    | cons a t hv =>
     cases hwi with
     | nil =>
      simp only [List.length_nil,List.length_cons] at hlen
      rw [lexLt_cons_nil]
      exact (decide_eq_false (by lia)).symm
     | cons c u hw =>
      rw [List.zip_cons_cons] at hz
      cases hz
   rw [hv] at hR
   wp_walk
   exact ⟨_,rfl,by simpa [Builtin.Tuple.tupleCompareSizes] using hR⟩
  case h =>
   exact ⟨rfl,rfl,items.toList,items2.toList,ns,ms,rfl,hi,hj,by lia,h⟩
end
section
variable {prog:Program} {w:World} {A:Around} {E:Value -> Shared -> Prop} {s:Shared}
theorem lt_tupInts {l b:Addr} {items items2:Array Value} {ns ms:List Int} {Q:Value -> Shared -> Prop} (hl:IsTup s.heap l items) (hb:IsTup s.heap b items2) (hi:IntsAre items.toList ns) (hj:IntsAre items2.toList ms)
  (hu:A.units < cLine) (h:Q (.bool (lexLt ns ms)) s):wpAny (model prog w) A (compareOp .Lt (.ref l) (.ref b)) Q E s:=by
 obtain ⟨⟨cls,dd,data,sl⟩,ho,hc,n,hd⟩:=id hl
 obtain ⟨⟨cls2,dd2,data2,sl2⟩,ho2,hc2,n2,hd2⟩:=id hb
 simp only at hc hd hc2 hd2
 subst hc hd hc2 hd2
 exact richCompare_meets_room (op:=.Lt) ⟨_,ho,rfl⟩ ⟨_,ho2,rfl⟩ PySem.F.slot_tuple_lt PySem.F.entry_tuple_lt (PySem.F.args_tuple_lt_2 _ _) (tuple_lt_ints l b items items2 n n2 dd dd2 sl sl2 ns ms hi hj)
  ⟨ho,ho2,show Value.bool (lexLt ns ms) ≠ Value.notImplemented /\ Q (.bool (lexLt ns ms)) s from ⟨(fun x=>nomatch x),h⟩⟩ hu
theorem cat_tup {t b:Addr} {vs ws:List Value} {Q:Value -> Shared -> Prop} (ht:IsTup s.heap t vs.toArray) (hb:IsTup s.heap b ws.toArray) (hv:vs ≠ [])
  (h1:ws = [] -> Q (.ref t) s) (h2:ws ≠ [] -> Q (.ref s.heap.objs.size) { s with heap:=s.heap.push { cls:=.type "tuple",data:=.seq (vs ++ ws).toArray } })
  (hsz:vs.length + ws.length <= sizeLine):wpAny (model prog w) A (binaryOp .Add (.ref t) (.ref b)) Q E s:=by
 obtain ⟨⟨cls,dd,data,sl⟩,ho,hc,n,hd⟩:=id ht
 obtain ⟨⟨cls2,dd2,data2,sl2⟩,ho2,hc2,n2,hd2⟩:=id hb
 simp only at hc hd hc2 hd2
 subst hc hd hc2 hd2
 have e:vs.toArray ++ ws.toArray = (vs ++ ws).toArray:=by simp
 by_cases hw:ws = []
 ·exact concat_meets ⟨_,ho,rfl⟩ ⟨_,ho2,rfl⟩ noFill_tuple_add seq_tuple_add PySem.F.slot_tuple_add PySem.F.entry_tuple_add (PySem.F.args_tuple_add_2 _ _)
   (tuple_addW1 t b vs.toArray ws.toArray n n2 dd dd2 sl sl2 (by simpa using hv) (by simp [hw])) ⟨ho,ho2,h1 hw⟩
 ·refine concat_meets ⟨_, ho, rfl⟩ ⟨_, ho2, rfl⟩ noFill_tuple_add seq_tuple_add PySem.F.slot_tuple_add PySem.F.entry_tuple_add (PySem.F.args_tuple_add_2 _ _)
   (tuple_addW2 t b vs.toArray ws.toArray n n2 dd dd2 sl sl2 (by simpa using hv) (by simpa using hw) (by rw [List.size_toArray,List.size_toArray]; exact hsz)) ⟨ho,ho2,?_⟩
  rw [e]
  exact h2 hw
def sIx (n d:Nat):Option Int -> Nat
 | none=>d
 | some v=>if v < 0 then (v + (n:Int)).toNat else min v.toNat n
theorem sIx_none (n d:Nat):sIx n d none = d:=rfl
theorem sIx_nat (n d k:Nat):sIx n d (some (k:Int)) = min k n:=by
 show (if (k:Int) < 0 then ((k:Int) + (n:Int)).toNat else min (k:Int).toNat n) = min k n
 rw [if_neg (by lia),Int.toNat_natCast]
theorem sIx_le (n d:Nat) (hd:d <= n) (o:Option Int):sIx n d o <= n:=by
 cases o with
 | none=>exact hd
 | some v =>
  show (if v < 0 then (v + (n:Int)).toNat else min v.toNat n) <= n
  by_cases hv:v < 0
  ·rw [if_pos hv]; lia
  ·rw [if_neg hv]; exact Nat.min_le_right _ _
theorem clip_eq (v:Int) (n d:Nat):(if v < 0 then max (v + (n:Int)) 0 else min v (n:Int)) = ((sIx n d (some v):Nat):Int):=by
 show (if v < 0 then max (v + (n:Int)) 0 else min v (n:Int)) = (((if v < 0 then (v + (n:Int)).toNat else min v.toNat n):Nat):Int)
 by_cases hv:v < 0
 ·simp only [if_pos hv]; lia
 ·simp only [if_neg hv]; lia
theorem adjust_gen (lo hi:Option Int) (n:Nat):Builtin.Slice.sliceAdjust lo hi 1 (n:Int) = (((sIx n 0 lo:Nat):Int),((sIx n n hi:Nat):Int)):=by
 have h1:¬ ((1:Int) < 0):=by lia
 unfold Builtin.Slice.sliceAdjust
 simp only [h1,if_false]
 refine Prod.ext ?_ ?_
 ·cases lo with
  | none=>rfl
  | some v=>exact clip_eq v n 0
 ·cases hi with
  | none=>rfl
  | some v=>exact clip_eq v n n
theorem places_gen (i j:Nat):Builtin.Slice.slicePlaces (i:Int) (j:Int) 1 = j - i:=by
 unfold Builtin.Slice.slicePlaces
 have h1:(1:Int) > 0:=by lia
 simp only [h1,if_true,Int.ediv_one]
 split <;> lia
theorem slicePart_ {v:Value} {o:Option Int} {Q:Option Int -> Shared -> Prop} (p:IsPart v o) (h:Q o s):wpAny (model prog w) A (Builtin.Slice.slicePartIndex v) Q E s:=by
 cases p with
 | none=>exact slicePart_none h
 | int i t=>exact slicePart_int h
theorem sliceApplied_gen {sl:Addr} {vl vu:Value} {lo hi:Option Int} {n:Nat} {Q:Int × Int × Nat -> Shared -> Prop} (hs:s.heap.IsSliceOf sl vl vu .none) (pl:IsPart vl lo) (pu:IsPart vu hi)
  (h:Q (((sIx n 0 lo:Nat):Int),1,sIx n n hi - sIx n 0 lo) s):wpAny (model prog w) A (Builtin.Slice.sliceApplied (.ref sl) (pure (n:Int))) Q E s:=by
 obtain ⟨os,hos,hcs,hds⟩:=id hs
 unfold Builtin.Slice.sliceApplied Builtin.Slice.sliceFields
 refine wpAny_bind (wpAny_bind (wpAny_field hos hds (x:=vl) rfl (wpAny_bind (wpAny_field hos hds (x:=vu) rfl (wpAny_bind (wpAny_field hos hds (x:=.none) rfl (wpAny_pure ?_)))))))
 refine wpAny_bind (slicePart_none ?_)
 show wpAny _ _ (if ((1:Int) == 0) = true then _ else _) _ _ s
 rw [if_neg (by decide)]
 refine wpAny_bind (slicePart_ pl (wpAny_bind (slicePart_ pu (wpAny_bind (wpAny_pure ?_)))))
 show wpAny _ _ (match Builtin.Slice.sliceAdjust lo hi 1 (n:Int) with | (lo,hi)=>pure (lo,(1:Int),Builtin.Slice.slicePlaces lo hi 1)) _ _ s
 rw [adjust_gen lo hi n]
 show wpAny _ _ (pure (((sIx n 0 lo:Nat):Int),(1:Int),Builtin.Slice.slicePlaces ((sIx n 0 lo:Nat):Int) ((sIx n n hi:Nat):Int) 1)) _ _ s
 rw [places_gen]
 exact wpAny_pure h
theorem pick_gen (xs:Array Value) (i k:Nat):((List.range k).filterMap fun (m:Nat)=>xs[((i:Int) + (m:Int) * 1).toNat]?).toArray = ((xs.toList.drop i).take k).toArray:=by
 have e:(fun (m:Nat)=>xs[((i:Int) + (m:Int) * 1).toNat]?) = fun m=>xs[i + m]?:=by
  funext m
  have:((i:Int) + (m:Int) * 1).toNat = i + m:=by lia
  rw [this]
 rw [e]
 have:=pick_run xs i k
 rw [List.filterMap_map] at this
 have e2:((fun x=>xs[x]?) ∘ fun x=>i + x) = fun m=>xs[i + m]?:=rfl
 rw [e2] at this
 rw [this]
theorem getItem_tuple_cut {t sl:Addr} {items:Array Value} {vl vu:Value} {lo hi:Option Int} {Q:Value -> Shared -> Prop} (ht:IsTup s.heap t items) (hs:s.heap.IsSliceOf sl vl vu .none) (pl:IsPart vl lo) (pu:IsPart vu hi)
  (hw:¬ (sIx items.size 0 lo = 0 /\ sIx items.size items.size hi = items.size))
  (h:Q (.ref s.heap.objs.size) { s with heap:=s.heap.push { cls:=.type "tuple",data:=.seq ((items.toList.drop (sIx items.size 0 lo)).take (sIx items.size items.size hi - sIx items.size 0 lo)).toArray } })
  (hsz:items.size <= sizeLine):wpAny (model prog w) A (getItem (.ref t) (.ref sl)) Q E s:=by
 have htake:sizeOk (.seq ((items.toList.drop (sIx items.size 0 lo)).take (sIx items.size items.size hi - sIx items.size 0 lo)).toArray):=by
  show ((items.toList.drop (sIx items.size 0 lo)).take (sIx items.size items.size hi - sIx items.size 0 lo)).toArray.size <= sizeLine
  rw [List.size_toArray,List.length_take,List.length_drop,Array.length_toList]
  lia
 have hj:sIx items.size items.size hi <= items.size:=sIx_le _ _ (Nat.le_refl _) hi
 obtain ⟨os,hos,hcs,hds⟩:=id hs
 have hTs:s.TypeIs (.ref sl) "slice" := ⟨os,hos,hcs⟩
 unfold getItem
 try with_reducible refine wpAny_holding ?_
 first | refine wpAny_bind (wpAny_pure ?_) | skip
 refine wpAny_bind (wpAny_sequenceKey ht.typeIs (by decide) ?_)
 refine wpAny_bind (wpAny_callSpecial?_slot (name:=Str.ofString "__getitem__") ht.typeIs PyProof.Rows.slot_tuple_getitem
  (wpAny_call_entry PyProof.Rows.slot_tuple_getitem ht.typeIs entry_tuple_getitem ?_ (args_tuple_getitem _ _)))
 show wpAny _ _ (Builtin.Tuple.tupleItemsOf (.ref t) >>= _) _ _ s
 refine wpAny_bind (tupleItemsOf_ ht ?_)
 refine wpAny_bind (wpAny_typeOf hTs ?_)
 rw [if_pos (by decide)]
 refine wpAny_bind (sliceApplied_gen hs pl pu ?_)
 have hno:¬ ((((sIx items.size 0 lo:Nat):Int) == 0 && (1:Int) == 1 && (sIx items.size items.size hi - sIx items.size 0 lo) == items.size) = true):=by
  intro q
  rw [Bool.and_eq_true,Bool.and_eq_true] at q
  have q1:((sIx items.size 0 lo:Nat):Int) = 0:=eq_of_beq q.1.1
  have q2:sIx items.size items.size hi - sIx items.size 0 lo = items.size:=eq_of_beq q.2
  exact hw ⟨by lia,by lia⟩
 show wpAny _ _ (if (((sIx items.size 0 lo:Nat):Int) == 0 && (1:Int) == 1 && (sIx items.size items.size hi - sIx items.size 0 lo) == items.size) = true then _ else _) _ _ s
 rw [if_neg hno,pick_gen]
 first
  | exact wpAny_bind (m:=Builtin.Tuple.tupleExact _) (wpAny_newObj_type (wpAny_pure ⟨_,rfl,wpAny_pure h⟩) htake)
  | exact wpAny_bind (m:=Builtin.Tuple.tupleExact _) (wpAny_newObj_type (wpAny_bind (wpAny_pure (wpAny_pure ⟨_,rfl,wpAny_pure h⟩))) htake)
  | exact wpAny_bind (wpAny_bind (m:=Builtin.Tuple.tupleExact _) (wpAny_newObj_type (wpAny_pure (wpAny_pure ⟨_,rfl,wpAny_pure h⟩)) htake))
  | exact wpAny_bind (wpAny_bind (m:=Builtin.Tuple.tupleExact _) (wpAny_newObj_type (wpAny_pure ⟨_,rfl,wpAny_pure h⟩) htake))
end
end HT
namespace L2
open PySem PySem.Spec PyProof.Rows
abbrev TO:=St -> Hp -> (Option Int -> Hp -> Prop) -> Prop
def PO (X:Cx) (e:Option Expr) (t:TO):Prop :=
 ∀ (pins:List (Addr × Obj)) (s:Shared) (σ:St) (H:Hp) (Q:Option Int -> Hp -> Prop),Inv X pins σ H s -> t σ H Q ->
  wpAny (model X.prog X.w) X.A (evalPart e X.env) (fun u s'=>∃ o H',Inv X pins σ H' s' /\ IsPart u o /\ Q o H') X.xe s
def tNoPart:TO:=fun _ H Q=>Q none H
def tPart (t:TE):TO:=fun σ H Q=>t σ H fun x H1=>∃ i,x = .int i /\ Q (some i) H1
theorem intsAre_of {ns:List Int}:∀ {us:List Value},Vals (ns.map V.int) us -> IntsAre us ns:=by
 induction ns with
 | nil=>intro us r; rw [List.map_nil] at r; cases r; exact .nil
 | cons n ns ih =>
  intro us r
  rw [List.map_cons] at r
  cases r with
  | cons r1 r2 =>
   obtain ⟨t,e⟩:=r1
   subst e
   exact .cons n t (ih r2)
section
variable {X:Cx} {e:Expr} {te:TE} {lo hi:Option Expr} {tl th:TO} {pos p2:Pos}
theorem po_none:PO X none tNoPart:=by
 intro pins s σ H Q I h
 rw [evalPart_none]
 exact wpAny_pure ⟨none,H,I,.none,h⟩
theorem po_some (h:PE X e te):PO X (some e) (tPart te):=by
 intro pins s σ H Q I hw
 rw [evalPart_some]
 refine thn (h pins s σ H _ I hw) fun u s1 ⟨x,H1,I1,r1,q1⟩=>?_
 obtain ⟨i,rfl,q⟩:=q1
 obtain ⟨t,rfl⟩:=r1
 exact ⟨some i,H1,I1,.int i t,q⟩
def SlR (X:Cx) (r:V -> Option Int -> Option Int -> Hp -> VK -> Prop):Prop :=
 ∀ (pins:List (Addr × Obj)) (s:Shared) (σ:St) (H:Hp) (x:V) (v vl vu:Value) (lo hi:Option Int) (sl:Addr) (Q:VK),Inv X pins σ H s -> RelV x v -> s.heap.IsSliceOf sl vl vu .none -> IsPart vl lo -> IsPart vu hi -> r x lo hi H Q ->
  ∃ T id,typeLookup (.type T) "__getitem__" = pure (some (.builtin id)) /\ s.TypeIs v T /\ wpAny (model X.prog X.w) X.A (getItem v (.ref sl)) (EP X pins σ Q) X.xe s
def tSl (r:V -> Option Int -> Option Int -> Hp -> VK -> Prop) (te:TE) (tl th:TO):TE:=fun σ H Q=>te σ H fun x H1=>tl σ H1 fun l H2=>th σ H2 fun u H3=>r x l u H3 Q
theorem pe_slice {r:V -> Option Int -> Option Int -> Hp -> VK -> Prop} (hr:SlR X r) (he:PE X e te) (hl:PO X lo tl) (hu:PO X hi th):PE X (.Subscript e (.Slice lo hi none p2) pos) (tSl r te tl th):=by
 intro pins s σ H Q I h
 refine Subscript_ (thn (he pins s σ H _ I h) fun v s1 ⟨x,H1,I1,r1,q1⟩=>?_)
 refine wpAny_Slice (thn (hl pins s1 σ H1 _ I1 q1) fun vl s2 ⟨l,H2,I2,pl,q2⟩=>thn (hu pins s2 σ H2 _ I2 q2) fun vu s3 ⟨u,H3,I3,pu,q3⟩=>?_)
 rw [evalPart_none]
 refine wpAny_pure ?_
 have I4:Inv X pins σ H3 { s3 with heap:=s3.heap.push { cls:=.type "slice",data:=.fields #[vl,vu,.none] } }:=I3.kept (t':=s3.toks) fun b ob q=>Heap.get?_push_of_some _ q
 obtain ⟨T,id,hT,ht,hg⟩:=hr pins { s3 with heap:=s3.heap.push { cls:=.type "slice",data:=.fields #[vl,vu,.none] } } σ H3 x v vl vu l u s3.heap.objs.size Q I4 r1 (Heap.IsSliceOf.new ..) pl pu q3
 show wpAny (model X.prog X.w) X.A (subscriptTail e (.Slice lo hi none p2) v (.ref s3.heap.objs.size)) (EP X pins σ Q) X.xe { s3 with heap:=s3.heap.push { cls:=.type "slice",data:=.fields #[vl,vu,.none] } }
 exact tail_any (ops:=[.ref s3.heap.objs.size,v]) ht hT hg (by with_unfolding_all rfl)
def cutV (xs:List V) (lo hi:Option Int):List V:=(xs.drop (HT.sIx xs.length 0 lo)).take (HT.sIx xs.length xs.length hi - HT.sIx xs.length 0 lo)
theorem cutV_length (xs:List V) (lo hi:Option Int):(cutV xs lo hi).length <= xs.length:=by
 unfold cutV
 rw [List.length_take,List.length_drop]
 lia
def rSlT (K:PySem.W.Frag):V -> Option Int -> Option Int -> Hp -> VK -> Prop:=fun x lo hi H Q=>∃ a xs,x = .ref a /\ SqT K H a xs /\
 ¬ (HT.sIx xs.length 0 lo = 0 /\ HT.sIx xs.length xs.length hi = xs.length) /\ ∀ p,H p = none -> Q (.ref p) (upd H p (.tup (cutV xs lo hi)))
theorem sl_tup:SlR X (rSlT X.K):=by
 intro pins s σ H x v vl vu lo hi sl Q I rx hs pl pu h
 obtain ⟨a,xs,rfl,hx,hw,q⟩:=h
 cases rx
 obtain ⟨its,r,ht,hz⟩:=I.tuple hx
 have hlen:its.toArray.size = xs.length:=by rw [List.size_toArray]; exact r.length.symm
 refine ⟨"tuple",_,PyProof.Rows.slot_tuple_getitem.lookup,ht.typeIs,?_⟩
 refine HT.getItem_tuple_cut ht hs pl pu (by rw [hlen]; exact hw) ?_ (by rw [hlen]; exact hz)
 rw [hlen]
 refine ⟨.ref s.heap.objs.size,_,I.laid (t':=s.toks) (o:=.tup (cutV xs lo hi)) (fun b ob q=>Heap.get?_push_of_some _ q) (Nat.le_refl _) ?_,rfl,q _ (I.hok.fresh (Nat.le_refl _))⟩
 exact ⟨Nat.le_trans (cutV_length xs lo hi) hz,_,(r.drop (HT.sIx xs.length 0 lo)).take (HT.sIx xs.length xs.length hi - HT.sIx xs.length 0 lo),IsTup.new _ _⟩
def rCatT (K:PySem.W.Frag):R2:=fun x y H Q=>∃ a b xs ys,x = .ref a /\ y = .ref b /\ SqT K H a xs /\ SqT K H b ys /\ xs ≠ [] /\ xs.length + ys.length <= sizeLine /\
 (ys = [] -> Q (.ref a) H) /\ (ys ≠ [] -> ∀ p,H p = none -> Q (.ref p) (upd H p (.tup (xs ++ ys))))
theorem Vals.nil_iff {xs:List V} {us:List Value} (r:Vals xs us):us = [] ↔ xs = []:=by
 cases r with
 | nil=>simp
 | cons _ _=>simp
theorem op_catT:OpR X (binaryOp .Add) (rCatT X.K):=by
 intro pins s σ H x y v u Q I rx ry h
 obtain ⟨a,b,xs,ys,rfl,rfl,ha,hb,hx,hz,q1,q2⟩:=h
 cases rx
 cases ry
 obtain ⟨its,r1,p1,_⟩:=I.tuple ha
 obtain ⟨its2,r2,p2,_⟩:=I.tuple hb
 refine HT.cat_tup p1 p2 (fun z=>hx (r1.nil_iff.mp z)) (fun z=>⟨.ref a,H,I,rfl,q1 (r2.nil_iff.mp z)⟩) (fun z=>?_) (by rw [<- r1.length,<- r2.length]; exact hz)
 refine ⟨.ref s.heap.objs.size,_,I.laid (t':=s.toks) (o:=.tup (xs ++ ys)) (fun b ob q=>Heap.get?_push_of_some _ q) (Nat.le_refl _) ?_,rfl,q2 (fun w=>z (r2.nil_iff.mpr w)) _ (I.hok.fresh (Nat.le_refl _))⟩
 exact ⟨by rw [List.length_append]; exact hz,_,r1.append r2,IsTup.new _ _⟩
end
end L2
namespace L2
open PySem PySem.Spec PyProof.Rows
def ixN (n:Nat) (i:Int):Option Nat:=if 0 <= i then (if i < n then some i.toNat else none) else if -(n:Int) <= i then some (i + n).toNat else none
def atI {α:Type} (xs:List α) (i:Int):Option α:=(ixN xs.length i).bind fun j=>xs[j]?
theorem ixN_seq {n:Nat} {i:Int} {j:Nat} (h:ixN n i = some j):seqIndex? i n = some j /\ j < n /\ -(n:Int) <= i /\ i < n:=by
 unfold ixN at h
 by_cases h0:0 <= i
 ·rw [if_pos h0] at h
  by_cases h1:i < n
  ·rw [if_pos h1] at h
   have e:i.toNat = j:=Option.some.inj h
   exact ⟨by rw [seqIndex_of h0 h1,e],by lia,by lia,h1⟩
  ·rw [if_neg h1] at h; cases h
 ·rw [if_neg h0] at h
  by_cases h1:-(n:Int) <= i
  ·rw [if_pos h1] at h
   have e:(i + n).toNat = j:=Option.some.inj h
   exact ⟨by rw [seqIndex_neg (by lia) h1,e],by lia,h1,by lia⟩
  ·rw [if_neg h1] at h; cases h
theorem atI_get {α:Type} {xs:List α} {i:Int} {v:α} (h:atI xs i = some v):∃ j,seqIndex? i xs.length = some j /\ xs[j]? = some v /\ j < xs.length /\ -(xs.length:Int) <= i /\ i < xs.length:=by
 unfold atI at h
 cases e:ixN xs.length i with
 | none=>rw [e] at h; cases h
 | some j =>
  rw [e] at h
  obtain ⟨h1,h2,h3,h4⟩:=ixN_seq e
  exact ⟨j,h1,h,h2,h3,h4⟩
theorem atI_nat {α:Type} {xs:List α} {j:Nat} {v:α} (h:xs[j]? = some v):atI xs (j:Int) = some v:=by
 have hj:j < xs.length:=(List.getElem?_eq_some_iff.mp h).1
 have e:ixN xs.length (j:Int) = some j:=by
  unfold ixN
  rw [if_pos (by lia),if_pos (by lia)]; simp
 unfold atI; rw [e]; exact h
def PlainIx (b:Expr):Prop:=∀ o i,subscripted b false o i = operate [o,i] (getItem o i)
def IxR (X:Cx) (r:R2):Prop :=
 ∀ (value slice:Expr) (pins:List (Addr × Obj)) (s:Shared) (σ:St) (H:Hp) (x y:V) (v u:Value) (Q:VK),Inv X pins σ H s -> RelV x v -> RelV y u -> r x y H Q ->
  subscripted slice false v u = operate [v,u] (getItem v u) -> wpAny (model X.prog X.w) X.A (subscriptTail value slice v u) (EP X pins σ Q) X.xe s
def MtR (X:Cx) (id:String) (r:V -> List V -> Hp -> VK -> Prop):Prop :=
 ∀ (pins:List (Addr × Obj)) (s:Shared) (σ:St) (H:Hp) (x:V) (xs:List V) (v:Value) (us:List Value) (Q:VK),Inv X pins σ H s -> RelV x v -> Vals xs us -> r x xs H Q ->
  wpAny (model X.prog X.w) X.A (call (.builtin id) (v :: us)) (EP X pins σ Q) X.xe s
section
variable {X:Cx} {a b:Expr} {ta tb:TE} {pos:Pos}
theorem IxR.or {r r':R2} (h:IxR X r) (h':IxR X r'):IxR X (fun x y H Q=>r x y H Q \/ r' x y H Q):=by
 intro value slice pins s σ H x y v u Q I rx ry q hs
 rcases q with q | q
 ·exact h value slice pins s σ H x y v u Q I rx ry q hs
 ·exact h' value slice pins s σ H x y v u Q I rx ry q hs
theorem pe_ix {r:R2} (hr:IxR X r) (ha:PE X a ta) (hb:PE X b tb) (hs:PlainIx b):PE X (.Subscript a b pos) (tOp r ta tb):=by
 intro pins s σ H Q I h
 exact Subscript_ (binT ha hb I h fun v u s2 x y H2 I2 rx ry q=>hr a b pins s2 σ H2 x y v u Q I2 rx ry q (hs _ _))
def rIxL (K:PySem.W.Frag):R2:=fun x y H Q=>∃ p xs i v,x = .ref p /\ y = .int i /\ SqL K H p xs /\ atI xs i = some v /\ Q v H
def rIxT (K:PySem.W.Frag):R2:=fun x y H Q=>∃ p xs i v,x = .ref p /\ y = .int i /\ SqT K H p xs /\ atI xs i = some v /\ Q v H
def rIxS:R2:=fun x y H Q=>∃ z i c,x = .str z /\ y = .int i /\ z.length <= sizeLine /\ atI z.cps.toList i = some c /\ Q (.str ⟨#[c]⟩) H
theorem ix_list:IxR X (rIxL X.K):=by
 intro value slice pins s σ H x y v u Q I rx ry h hs
 obtain ⟨p,xs,i,z,rfl,rfl,hq,he,q⟩:=h
 cases rx
 obtain ⟨t,rfl⟩:=ry
 obtain ⟨its,r,pl,hz⟩:=I.list hq
 obtain ⟨j,h1,h2,h3,h4,h5⟩:=atI_get he
 obtain ⟨w,ew,rw'⟩:=r.get h2
 have hl:=r.length
 have hn:=line63
 have fin:EP X pins σ Q w s:=⟨z,H,I,rw',q⟩
 by_cases h0:0 <= i
 ·have hj : i.toNat = j := by
   rw [seqIndex_of h0 h5] at h1
   exact Option.some.inj h1
  exact item_listR pl.isList h0 (by lia) (by rw [hj]; simpa using ew) fin hs
 ·have hj : (i + (its.toArray.size : Int)).toNat = j := by
   rw [seqIndex_neg (by lia) h4] at h1
   rw [List.size_toArray,<- hl]
   exact Option.some.inj h1
  exact subscriptTail_builtinR (x:=w) pl.isList.typeIs slot_list_getitem.lookup
   (wpAny_getItem_list_neg (Q:=fun r s'=>r = w /\ EP X pins σ Q r s') pl.isList (by lia) (by rw [List.size_toArray] <;> lia) (by lia) (by rw [hj]; simpa using ew) ⟨rfl,fin⟩) hs
theorem ix_tup:IxR X (rIxT X.K):=by
 intro value slice pins s σ H x y v u Q I rx ry h hs
 obtain ⟨p,xs,i,z,rfl,rfl,hq,he,q⟩:=h
 cases rx
 obtain ⟨t,rfl⟩:=ry
 obtain ⟨its,r,pl,hz⟩:=I.tuple hq
 obtain ⟨j,h1,h2,h3,h4,h5⟩:=atI_get he
 obtain ⟨w,ew,rw'⟩:=r.get h2
 have hl:=r.length
 have hn:=line63
 have fin:EP X pins σ Q w s:=⟨z,H,I,rw',q⟩
 exact subscriptTail_builtinR (x:=w) pl.typeIs slot_tuple_getitem.lookup
  (getItem_tuple (j:=j) (Q:=fun r s'=>r = w /\ EP X pins σ Q r s') pl (by lia) (by lia) (by rw [List.size_toArray,<- hl]; exact h1) (by simpa using ew) ⟨rfl,fin⟩) hs
theorem ix_str:IxR X rIxS:=by
 intro value slice pins s σ H x y v u Q I rx ry h hs
 obtain ⟨z,i,c,rfl,rfl,hz,he,q⟩:=h
 obtain ⟨t,rfl⟩:=rx
 obtain ⟨t',rfl⟩:=ry
 obtain ⟨j,h1,h2,h3,h4,h5⟩:=atI_get he
 have hl:z.cps.toList.length = z.length:=by simp [Str.length]
 rw [hl] at h1 h4 h5
 have hn:=line63
 exact tail_any (typeIs_str s z t) slot_str_getitem.lookup (getItem_str (c:=c) (by
  have e1:decide (i < -(2 ^ 63:Int)) = false:=decide_eq_false (by lia)
  have e2:decide (i >= 2 ^ 63) = false:=decide_eq_false (by lia)
  rw [e1,e2,Bool.or_false]) (by rw [h1]; simpa using h2) ⟨.str ⟨#[c]⟩,H,I.tok _,⟨_,rfl⟩,q⟩) hs
def rIx (K:PySem.W.Frag):R2:=fun x y H Q=>rIxL K x y H Q \/ rIxT K x y H Q \/ rIxS x y H Q
theorem ix_seq:IxR X (rIx X.K):=ix_list.or (ix_tup.or ix_str)
theorem mapSeq_set (its:List Value) (n j:Nat) (u:Value):Obj.mapSeq (·.setIfInBounds j u) { cls:=.type "list",data:=.seq its.toArray n } = { cls:=.type "list",data:=.seq (its.set j u).toArray n }:=by
 simp [Obj.mapSeq]
theorem Inv.lst {pins:List (Addr × Obj)} {σ:St} {H:Hp} {s:Shared} {p:Addr} {xs:List V} (I:Inv X pins σ H s) (h:H p = some (.lst xs)) :
  ∃ (its:List Value) (n:Nat),Vals xs its /\ s.heap.get? p = some { cls:=.type "list",data:=.seq its.toArray n } /\ xs.length <= sizeLine:=by
 obtain ⟨z,its,n,r,e⟩:=I.hok p _ h
 exact ⟨its,n,r,e,z⟩
theorem Inv.lstUpd {pins:List (Addr × Obj)} {σ:St} {H:Hp} {s:Shared} {p:Addr} {xs ys:List V} {its its':List Value} {n n':Nat} {f:Obj -> Obj} (I:Inv X pins σ H s) (h:H p = some (.lst xs))
  (ho:s.heap.get? p = some { cls:=.type "list",data:=.seq its.toArray n }) (hf:f { cls:=.type "list",data:=.seq its.toArray n } = { cls:=.type "list",data:=.seq its'.toArray n' }) (r:Vals ys its') (hz:ys.length <= sizeLine) (t:Nat) :
  Inv X pins σ (upd H p (.lst ys)) { s with heap:=s.heap.update p f,toks:=t }:=by
 have e:(s.heap.update p f).get? p = some { cls:=.type "list",data:=.seq its'.toArray n' }:=by
  rw [Heap.get?_update_self f ho (by rw [hf] <;> rfl),hf]
 refine I.write (x:=p) (e:=p) (by rw [h]; trivial) (.inl rfl) (fun b u hb q=>(Heap.get?_update_other _ _ (Ne.symm hb)).trans q) ⟨_,e⟩ ?_
 exact ⟨hz,its',n',r,e⟩
def rSetL:V -> V -> V -> Hp -> (Hp -> Prop) -> Prop:=fun o i v H Q=>∃ p xs k j,o = .ref p /\ i = .int k /\ H p = some (.lst xs) /\ ixN xs.length k = some j /\ Q (upd H p (.lst (xs.set j v)))
theorem set_list:PSet X rSetL:=by
 intro pins s σ H o i v ov iv u Q I ro ri rv h
 obtain ⟨p,xs,k,j,rfl,rfl,hp,hj,q⟩:=h
 cases ro
 obtain ⟨t,rfl⟩:=ri
 obtain ⟨its,n,r,ho,hz⟩:=I.lst hp
 obtain ⟨h1,h2,h3,h4⟩:=ixN_seq hj
 have hl:=r.length
 have hn:=line63
 have I':Inv X pins σ (upd H p (.lst (xs.set j v))) { s with heap:=s.heap.update p (Obj.mapSeq (·.setIfInBounds j u)) } :=
  I.lstUpd hp ho (mapSeq_set its n j u) (r.set rv j) (by rw [List.length_set]; exact hz) s.toks
 by_cases h0:0 <= k
 ·have hk : k.toNat = j := by
   rw [seqIndex_of h0 h4] at h1
   exact Option.some.inj h1
  exact PySem.W.ki_setAt ho h0 (by lia) (by rw [List.size_toArray,<- hl]; exact h4) (by rw [hk]; exact ⟨_,I',q⟩)
 ·have hk : (k + (its.toArray.size : Int)).toNat = j := by
   rw [seqIndex_neg (by lia) h3] at h1
   rw [List.size_toArray,<- hl]
   exact Option.some.inj h1
  exact PySem.W.ki_setBack ho (by lia) (by rw [List.size_toArray,<- hl]; exact h3) (by lia) (by rw [hk]; exact ⟨_,I',q⟩)
theorem slice_bounds (lo hi:Option Int) (n:Nat):(sliceBounds lo hi none n).1 = ((HT.sIx n 0 lo:Nat):Int) /\ (sliceBounds lo hi none n).2.1 = ((HT.sIx n n hi:Nat):Int) /\ (sliceBounds lo hi none n).2.2 = 1:=by
 refine ⟨?_,?_,rfl⟩
 ·cases lo with
  | none=>simp [sliceBounds,HT.sIx]
  | some i =>
   simp only [sliceBounds,HT.sIx,Option.getD_none,show (1:Int) > 0 by decide,if_true]
   by_cases h:i < 0
   ·simp only [h,if_true] <;> lia
   ·simp only [h,if_false] <;> lia
 ·cases hi with
  | none=>simp [sliceBounds,HT.sIx]
  | some i =>
   simp only [sliceBounds,HT.sIx,Option.getD_none,show (1:Int) > 0 by decide,if_true]
   by_cases h:i < 0
   ·simp only [h,if_true] <;> lia
   ·simp only [h,if_false] <;> lia
theorem slicePick_cut (its:List Value) (lo hi:Option Int):slicePick its.toArray lo hi none = ((its.drop (HT.sIx its.length 0 lo)).take (HT.sIx its.length its.length hi - HT.sIx its.length 0 lo)).toArray:=by
 obtain ⟨h1,h2,h3⟩:=slice_bounds lo hi its.toArray.size
 unfold slicePick
 rw [h1,h2,h3]
 simp only [sliceRange_one,pick_run,List.size_toArray] <;> rfl
def rSlL (K:PySem.W.Frag):V -> Option Int -> Option Int -> Hp -> VK -> Prop:=fun x lo hi H Q=>∃ a xs,x = .ref a /\ SqL K H a xs /\ ∀ p,H p = none -> Q (.ref p) (upd H p (.lst (cutV xs lo hi)))
theorem sl_list:SlR X (rSlL X.K):=by
 intro pins s σ H x v vl vu lo hi sl Q I rx hs pl pu h
 obtain ⟨a,xs,rfl,hx,q⟩:=h
 cases rx
 obtain ⟨its,r,ht,hz⟩:=I.list hx
 have hlen:=r.length
 refine ⟨"list",_,slot_list_getitem.lookup,ht.isList.typeIs,?_⟩
 refine wpAny_getItem_list_slice ht.isList hs pl pu .none (by simp) ?_ (by rw [List.size_toArray] <;> lia)
 rw [slicePick_cut,<- hlen]
 refine ⟨.ref s.heap.objs.size,_,I.laid (t':=s.toks) (o:=.lst (cutV xs lo hi)) (fun b ob q=>Heap.get?_push_of_some _ q) (Nat.le_refl _) ?_,rfl,q _ (I.hok.fresh (Nat.le_refl _))⟩
 exact ⟨Nat.le_trans (cutV_length xs lo hi) hz,_,0,(r.drop (HT.sIx xs.length 0 lo)).take (HT.sIx xs.length xs.length hi - HT.sIx xs.length 0 lo),Heap.get?_push_size _ rfl⟩
theorem call_len_seq:CallR X (.builtin "len") (fun xs H Q=>∃ p ys,xs = [.ref p] /\ (SqL X.K H p ys \/ SqT X.K H p ys) /\ Q (.int ys.length) H):=by
 intro pins s σ H xs us Q I r h
 obtain ⟨p,ys,rfl,hq,q⟩:=h
 obtain ⟨u,rfl,rx⟩:=vals1 r
 cases rx
 have hn:=line63
 rcases hq with hq | hq
 ·obtain ⟨its, r', pl, hz⟩ := I.list hq
  have hlen:=r'.length
  exact Calls.call_len_list pl.isList (by simp only [List.size_toArray] <;> lia) ⟨.int ys.length,H,I.tok _,⟨s.toks + 1,by rw [List.size_toArray,hlen]⟩,q⟩
 ·obtain ⟨its, r', pl, hz⟩ := I.tuple hq
  have hlen:=r'.length
  exact len_tuple pl (by simp only [List.size_toArray] <;> lia) ⟨.int ys.length,H,I.tok _,⟨s.toks + 1,by rw [List.size_toArray,hlen]⟩,q⟩
theorem call_tuple_of:CallR X (.type "tuple") (fun xs H Q=>∃ p ys,xs = [.ref p] /\ ((SqL X.K H p ys /\ ∀ l,H l = none -> Q (.ref l) (upd H l (.tup ys))) \/ (SqT X.K H p ys /\ Q (.ref p) H))):=by
 intro pins s σ H xs us Q I r h
 obtain ⟨p,ys,rfl,h⟩:=h
 obtain ⟨u,rfl,rx⟩:=vals1 r
 cases rx
 rcases h with ⟨hq,q⟩ | ⟨hq,q⟩
 ·obtain ⟨its, r', pl, hz⟩ := I.list hq
  have hlen:=r'.length
  refine call_tuple_list pl.isList (fun h' kp=>?_) (by simp only [List.size_toArray] <;> lia)
  have I1:Inv X pins σ H { s with heap:=h' }:=I.kept (t':=s.toks) kp
  have I2:Inv X pins σ (upd H h'.objs.size (.tup ys)) { s with heap:=h'.push { cls:=.type "tuple",data:=.seq its.toArray } } :=
   I1.laid (t':=s.toks) (fun b o e=>Heap.get?_push_of_some _ e) (Nat.le_refl _) (show ObjOk X.prog X.w _ _ _ (.tup ys) from ⟨hz,its,r',IsTup.new _ _⟩)
  exact ⟨.ref h'.objs.size,_,I2,rfl,q _ (I1.hok.fresh (Nat.le_refl _))⟩
 ·obtain ⟨its, r', pl, hz⟩ := I.tuple hq
  exact call_tuple_same pl ⟨.ref p,H,I,rfl,q⟩
def tyV (K:PySem.W.Frag) (T:String) (x:V) (H:Hp):Prop:=match x with
 | .str _=>T = "str"
 | .int _=>T = "int"
 | .ref p => (T = "list" /\ ∃ xs, SqL K H p xs) \/ (T = "tuple" /\ ∃ o, K.lookup p = some o /\ o.cls = .type "tuple" /\ o.dict = none) \/
   (T = "dict" /\ ((∃ kvs,H p = some (.dK kvs)) \/ ∃ kvs,H p = some (.dT kvs))) \/ (T = "set" /\ ∃ S n,H p = some (.set S n))
 | _=>False
theorem tyV_is {pins:List (Addr × Obj)} {σ:St} {H:Hp} {s:Shared} {T:String} {x:V} {v:Value} (I:Inv X pins σ H s) (r:RelV x v) (ty:tyV X.K T x H) :
  s.TypeIs v T /\ ∀ a,v = .ref a -> ∃ ob,s.heap.get? a = some ob /\ ob.dict = none:=by
 cases x with
 | str z =>
  obtain ⟨t,rfl⟩:=r
  cases (show T = "str" from ty)
  exact ⟨typeIs_str s z t,fun _ e=>nomatch e⟩
 | int i =>
  obtain ⟨t,rfl⟩:=r
  cases (show T = "int" from ty)
  exact ⟨typeIs_int s i t,fun _ e=>nomatch e⟩
 | ref p =>
  cases r
  rcases ty with ⟨rfl,xs,hq⟩ | ⟨rfl,o,hk,hc,hd⟩ | ⟨rfl,hk⟩ | ⟨rfl,S,n,hk⟩
  ·obtain ⟨its, _, pl, _⟩ := I.list hq
   refine ⟨pl.isList.typeIs,fun a e=>?_⟩
   cases e
   obtain ⟨o,n,e,c,hd,_⟩:=pl
   exact ⟨o,e,hd⟩
  ·refine ⟨⟨o, I.kIn p o hk, hc⟩, fun a e => ?_⟩
   cases e
   exact ⟨o,I.kIn _ o hk,hd⟩
  ·have z : ∃ o, s.heap.get? p = some o /\ o.ExactDict := by
    rcases hk with ⟨kvs,hk⟩ | ⟨kvs,hk⟩
    ·obtain ⟨_, _, _, _, o, _, _, e, ex, _⟩ := I.hok p _ hk
     exact ⟨o,e,ex⟩
    ·obtain ⟨_, _, _, _, o, _, _, e, ex, _⟩ := I.hok p _ hk
     exact ⟨o,e,ex⟩
   obtain ⟨o,e,ex⟩:=z
   refine ⟨⟨o,e,ex.1⟩,fun a e2=>?_⟩
   cases e2
   exact ⟨o,e,ex.2.1⟩
  ·obtain ⟨o, _, _, _, e, ex, _⟩ := I.hok p _ hk
   refine ⟨⟨o,e,ex.1⟩,fun a e2=>?_⟩
   cases e2
   exact ⟨o,e,ex.2.1⟩
 | _=>exact False.elim ty
def tBM0 (K:PySem.W.Frag) (T:String) (r:V -> List V -> Hp -> VK -> Prop) (to:TE):TE:=fun σ H Q=>to σ H fun x H1=>tyV K T x H1 /\ r x [] H1 Q
def tBM (K:PySem.W.Frag) (T:String) (r:V -> List V -> Hp -> VK -> Prop) (to:TE) (t:TA):TE:=fun σ H Q=>to σ H fun x H1=>tyV K T x H1 /\ t σ H1 fun xs H2=>r x xs H2 Q
variable {o e:Expr} {es:List Expr} {to:TE} {t:TA} {name:Str} {apos cpos:Pos} {T id:String} {r:V -> List V -> Hp -> VK -> Prop}
theorem pe_bm0 (pa:PlainAttrs T) (slot:Slot T name id) (hty:typeOf (.builtin id) = pure (.type "method_descriptor")) (hm:MtR X id r) (ho:PE X o to)
  (hbase:attributeBase o name X.env (eval o X.env) = eval o X.env:=by rfl) (hline:(apos.endLine == cpos.line) = true:=by rfl):PE X (.Call (.Attribute o name apos) [] [] cpos) (tBM0 X.K T r to):=by
 intro pins s σ H Q I h
 refine wpAny_Call_method0_late hbase hline (thn (ho pins s σ H _ I h) fun v s1 ⟨x,H1,I1,r1,ty,q1⟩=>?_)
 obtain ⟨h1,h2⟩:=tyV_is I1 r1 ty
 exact ⟨T,id,pa,slot,hty,h1,h2,Calls.callWith_builtin rfl (PySem.evalArgs_none (hm pins s1 σ H1 x [] v [] Q I1 r1 .nil q1))⟩
theorem pe_bm (pa:PlainAttrs T) (slot:Slot T name id) (hty:typeOf (.builtin id) = pure (.type "method_descriptor")) (hm:MtR X id r) (ho:PE X o to) (ha:PA X (e :: es) t)
  (hbase:attributeBase o name X.env (eval o X.env) = eval o X.env:=by rfl)
  (hfew : ((backTo cpos (starEach (e :: es) X.env)).all (fun x => !x.1) && (backToKw cpos (keywordEach [] X.env)).all (fun x => x.1.isSome)
   && decide ((e :: es).length + ([]:List Keyword).length + (if ([]:List Keyword).isEmpty then 0 else 1) < 30)) = true:=by rfl)
  (hline:(apos.endLine == cpos.line) = true:=by rfl) (hs:starEach (e :: es) X.env = (false,eval e X.env) :: starEach es X.env:=by rfl) (hplain:(backTo cpos (starEach es X.env)).any (·.1) = false:=by rfl) :
  PE X (.Call (.Attribute o name apos) (e :: es) [] cpos) (tBM X.K T r to t):=by
 intro pins s σ H Q I h
 refine wpAny_Call_method_late hbase hfew hline rfl (thn (ho pins s σ H _ I h) fun v s1 ⟨x,H1,I1,r1,ty,q1⟩=>?_)
 obtain ⟨h1,h2⟩:=tyV_is I1 r1 ty
 refine ⟨T,id,pa,slot,hty,h1,h2,?_⟩
 have hA:=ha cpos pins s1 σ H1 _ I1 q1
 rw [hs] at hA ⊢
 refine Calls.callWith_builtin (by show (false || (backTo cpos (starEach es X.env)).any (·.1)) = false; rw [hplain] <;> rfl) (Calls.evalArgs_plain ?_)
 exact thn hA fun us s2 ⟨vs,H2,I2,r2,q2⟩=>hm pins s2 σ H2 x vs v us Q I2 r1 r2 q2
end
end L2
namespace L2
open PySem PySem.Spec PyProof.Rows
def MtM (X:Cx) (id:String) (r:V -> List V -> Hp -> VK -> Prop):Prop :=
 ∀ (pins:List (Addr × Obj)) (s:Shared) (σ:St) (H:Hp) (x:V) (xs:List V) (v:Value) (us:List Value) (Q:VK),Inv X pins σ H s -> RelV x v -> Vals xs us -> r x xs H Q ->
  wpAny (model X.prog X.w) X.A (call (.builtin id) (v :: us)) (EP X pins σ Q) X.xe s
theorem Vals.one:∀ {x:V} {us:List Value},Vals [x] us -> ∃ u,us = [u] /\ RelV x u
 | _,_,.cons r .nil=>⟨_,rfl,r⟩
theorem Vals.reverse {xs:List V} {us:List Value} (h:Vals xs us):Vals xs.reverse us.reverse:=by
 induction h with
 | nil=>exact .nil
 | cons r t ih=>rw [List.reverse_cons,List.reverse_cons]; exact Vals.append ih (.cons r .nil)
section
variable {X:Cx} {pins:List (Addr × Obj)} {σ:St} {H:Hp} {s:Shared} {l b:Addr} {xs ys zs:List V}
theorem Inv.lset {its its':List Value} {n:Nat} {f:Array Value -> Array Value} {t':Nat} (I:Inv X pins σ H s) (hH:H l = some (.lst xs))
  (e:s.heap.get? l = some { cls:=.type "list",data:=.seq its.toArray n }) (hf:f its.toArray = its'.toArray) (hv:Vals ys its') (hz:ys.length <= sizeLine) :
  Inv X pins σ (upd H l (.lst ys)) { s with heap:=s.heap.update l (Obj.mapSeq f),toks:=t' }:=by
 have q:=PySem.IsL.update e f
 rw [hf] at q
 refine I.write (x:=l) (e:=l) (by rw [hH]; exact trivial) (.inl rfl) (fun b' u hb hu=>(Heap.get?_update_other s.heap (Obj.mapSeq f) (Ne.symm hb)).trans hu) ⟨_,q⟩ ?_
 exact ⟨hz,its',_,hv,q⟩
theorem Inv.lnew {its:List Value} {t':Nat} (I:Inv X pins σ H s) (hv:Vals ys its) (hz:ys.length <= sizeLine) :
  Inv X pins σ (upd H s.heap.objs.size (.lst ys)) { s with heap:=s.heap.push { cls:=.type "list",data:=.seq its.toArray },toks:=t' } :=
 I.laid (fun _ _ q=>Heap.get?_push_of_some _ q) (Nat.le_refl _) ⟨hz,its,0,hv,Heap.get?_push_size _ rfl⟩
theorem Inv.fresh (I:Inv X pins σ H s):H s.heap.objs.size = none:=I.hok.fresh (Nat.le_refl _)
theorem Inv.lstM (I:Inv X pins σ H s) (hH:H l = some (.lst xs)):xs.length <= sizeLine /\ ∃ (its:List Value) (n:Nat),Vals xs its /\ xs.length = its.length /\ s.heap.get? l = some { cls:=.type "list",data:=.seq its.toArray n }:=by
 obtain ⟨z,its,n,r,e⟩:=I.hok l _ hH
 exact ⟨z,its,n,r,r.length,e⟩
end
section
variable {X:Cx}
def rAppend:V -> List V -> Hp -> VK -> Prop:=fun x vs H Q=>∃ l xs y,x = .ref l /\ vs = [y] /\ H l = some (.lst xs) /\ xs.length < sizeLine /\ Q .non (upd H l (.lst (xs ++ [y])))
theorem mt_append:MtM X "list.append" rAppend:=by
 intro pins s σ H x vs v us Q I rx rv h
 obtain ⟨l,xs,y,rfl,rfl,hH,hz,q⟩:=h
 cases rx
 obtain ⟨u,rfl,ru⟩:=rv.one
 obtain ⟨z,its,n,r,hl,e⟩:=I.lstM hH
 refine call_meets F.slot_list_append ⟨_,e,rfl⟩ F.entry_list_append (F.args_list_append_2 _ _) (PySem.list_append l its.toArray n u (by rw [List.size_toArray]; lia)) ⟨e,?_⟩
 refine ⟨.non,_,I.lset (its':=its ++ [u]) hH e (by simp) (r.append (.cons ru .nil)) ?_,rfl,q⟩
 rw [List.length_append,List.length_singleton]
 lia
def rCat:R2:=fun x y H Q=>∃ l b xs zs,x = .ref l /\ y = .ref b /\ H l = some (.lst xs) /\ H b = some (.lst zs) /\ xs.length + zs.length <= sizeLine /\ ∀ p,H p = none -> Q (.ref p) (upd H p (.lst (xs ++ zs)))
theorem op_cat:OpR X (binaryOp .Add) rCat:=by
 intro pins s σ H x y v u Q I rx ry h
 obtain ⟨l,b,xs,zs,rfl,rfl,hH,hB,hz,q⟩:=h
 cases rx
 cases ry
 obtain ⟨z,its,n,r,hl,e⟩:=I.lstM hH
 obtain ⟨z2,its2,n2,r2,hl2,e2⟩:=I.lstM hB
 refine PySem.P.add_list e e2 ?_ (by rw [List.size_toArray,List.size_toArray]; lia)
 have ea:its.toArray ++ its2.toArray = (its ++ its2).toArray:=by simp
 rw [ea]
 exact ⟨.ref _,_,I.lnew (t':=s.toks) (r.append r2) (by rw [List.length_append]; lia),rfl,q _ I.fresh⟩
end
section
variable {prog:Program} {w:World} {A:Around} {E:Value -> Shared -> Prop} {s:Shared}
end
section
variable {X:Cx}
end
end L2
namespace Att
open PySem PySem.W PySem.Calls PyProof.Rows
theorem ints_of_wellAll {P:Params} {h:Heap}:∀ (ns:List Int) (vs:List Value),WellAll P h vs (ns.map WData.int) -> IntsAre vs ns:=by
 intro ns
 induction ns with
 | nil =>
  intro vs w
  rw [List.map_nil] at w
  cases w
  exact .nil
 | cons n ns ih =>
  intro vs w
  rw [List.map_cons] at w
  cases w with
  | cons a b =>
   cases a
   exact .cons _ _ (ih _ b)
theorem script_of {l:OpenLaw} {n:Nat} (hn:l.most = some n) {P:Params} {h:Heap} {args:List WData} {vals:List Value}
  (hpre:l.row.toRowW.claim.pre args = true) (hwl:WellAll P h vals args) :
  ∃ a vs ns,vals = [Value.ref a] /\ args = [WData.list (ns.map WData.int)] /\ h.get? a = some { cls:=.type "list",data:=.seq vs.toArray } /\ IntsAre vs ns /\ ns.length <= n:=by
 have hsh:WShape.hasAll [] args [.list .int] = true:=(pre_splitW hpre).1
 have hc:l.pre.holds [] { args:=args } = true:=(pre_splitW hpre).2
 obtain ⟨d,r,rfl,h1,h2⟩:=hasAllW_cons hsh
 obtain rfl:=hasAllW_nil h2
 obtain ⟨xs,rfl,h3⟩:=hasW_list h1
 obtain ⟨ns,rfl⟩:=items_int h3
 have hlen:ns.length <= n:=by
  unfold OpenLaw.pre at hc
  have h4:(WTm.not (.lt (.lit (.int (n:Int))) (.len (.arg 0)))).holds [] { args:=[.list (ns.map .int)] } = true:=by
   have h4:=(holds_andW hc).1
   rw [hn] at h4
   exact h4
  have h5:=condW_of h4 (w_not (w_lt w_lit (w_len_list (w_arg rfl))))
  rw [List.length_map] at h5
  refine Nat.le_of_not_lt fun q=>?_
  have q':(n:Int) < ((ns.length:Nat):Int):=by lia
  first
   | (rw [decide_eq_true q'] at h5; exact absurd h5 (by decide))
   | (simp at h5; lia)
 cases hwl with
 | cons w1 w2 =>
  cases w2
  cases w1 with
  | list ho hall=>exact ⟨_,_,ns,rfl,rfl,ho,ints_of_wellAll ns _ hall,hlen⟩
theorem post_true (l:OpenLaw) (args:List WData):l.row.toRowW.claim.post args (.bool true) args = true :=
 postW_of (r:=l.row.toRowW) (X:=(true == true))
  (show WShape.has [] (.bool true) .bool = true by first | rfl | decide | simp [WShape.has,WShape.arms,WShape.armsAll])
  (show (WTm.eq .res (.lit (.bool true))).value [] { args:=args,res:=some (.bool true),after:=args } = some (.bool (true == true)) from w_eq_bool (w_res rfl) w_lit) rfl
theorem attach_call {l:OpenLaw} {n:Nat} {q:Program} {loose:List Str} {XP:(Str -> Option Value) -> Heap -> Prop} {YP:World -> Heap -> Prop} {d:DefRec}
  (hn:l.most = some n) (hdf:d.params.defaults = [])
  (call : ∀ (w : World) (s₀ s₁ : Shared) (mg mb : Str -> Option Value) (fa : Addr) (o : Obj) (pm cd doc : Value) (a : Addr) (vs : List Value) (ns : List Int),
   Ground q loose [] XP w s₀ mg mb s₁.heap -> YP w s₁.heap ->
   s₁.heap.get? fa = some o -> o.data = .func (docDef d.name d.params d.body d.scope pm cd doc) -> s₁.heap.CodeRec cd d.name -> mg d.name = some (.ref fa) ->
   s₁.heap.get? a = some { cls:=.type "list",data:=.seq vs.toArray } -> IntsAre vs ns -> ns.length <= n -> s₁.gens = #[] ->
   codeAny (model l.prog w) callerA (.call (.ref fa) ⟨[.ref a],[]⟩) (fun r s'=>r = .ok (.ret (.bool true)) /\ OldK s₁.heap s'.heap /\ s'.os = s₁.os /\ AllBare s'.gens) s₁) :
  WalkO q loose XP YP l.row.toRowW d [] (fun f vs=>PySem.call f vs):=by
 intro w s₀ s₁ mg mb G Y fa o pm cd doc dV kV ho hd hcd hD hmg hg args vals as hpre hlay hrd hwl hlo
 obtain rfl:dV = .none:=Dflts.none hD hdf
 obtain rfl:kV = .none:=Dflts.noKw hD
 obtain ⟨a,vs,ns,rfl,rfl,hobj,hints,hlen⟩:=script_of hn hpre hwl
 refine enter_call (codeAny_mono (call w s₀ s₁ mg mb fa o pm cd doc a vs ns G Y ho (fd_plain hd) hcd hmg hobj hints hlen hg) fun r s' hq=>?_)
 obtain ⟨rfl,h2,h3,h4⟩:=hq
 exact ⟨.inl ⟨.bool true,.bool true,[],rfl,fun _=>rfl,.bool true,post_true l _,fun _=>⟨List.Pairwise.nil,fun _ hm=>(nomatch hm)⟩⟩,h2,h3,h4⟩
section
variable {prog:Program} {w:World} {A:Around} {E:Value -> Shared -> Prop} {s:Shared} {K:Frag}
end
end Att
namespace L2
open PySem PySem.Spec PyProof.Rows
theorem vals_ints:∀ {vs:List Value} {ns:List Int},IntsAre vs ns -> Vals (ns.map V.int) vs
 | _,_,.nil=>.nil
 | _,_,.cons n t h=>.cons ⟨t,rfl⟩ (vals_ints h)
def Only (H:Hp):Prop:=∀ b,H b = none \/ ∃ o xs,H b = some (.frz o (.lst xs))
end L2
namespace L2
open PySem PySem.Spec PyProof.Rows
end L2
namespace L2
open PySem PySem.Spec PyProof.Rows
def inClass (s:Stmt) (j:Nat):Stmt:=match s with
 | .ClassDef _ _ _ body _ _ _ _ _ _ _=>body.getD j (.Pass ⟨0,0,0,0⟩)
 | _=>.Pass ⟨0,0,0,0⟩
def defArgs (s:Stmt):Arguments:=match s with
 | .FunctionDef _ a _ _ _ _ _ _ _ _=>a
 | _=>{ posonlyargs:=[],args:=[],vararg:=none,kwonlyargs:=[],kw_defaults:=[],kwarg:=none,defaults:=[] }
def defBody (s:Stmt):List Stmt:=match s with
 | .FunctionDef _ _ b _ _ _ _ _ _ _=>b
 | _=>[]
def defScope (s:Stmt):Scope:=match s with
 | .FunctionDef _ _ _ _ _ _ sc _ _ _=>sc
 | _=>{ kind:=.function,names:=[],isGenerator:=false,isCoroutine:=false }
abbrev CX0:CXT:=fun _ _ _ _ _ _=>False
abbrev E0:XK:=fun _ _ _=>False
theorem pass0 {X:Cx}:Passes CX0 X E0:=fun _ _ _ _ _ _ _ h=>h.elim
structure Fun (K:PySem.W.Frag) (x qual:Str) (st:Stmt) (f:Addr) (fd:FuncData):Prop where
 ex:∃ (oc:Value) (od:Option Addr) (kV doc pm:Value) (an:Option Addr) (cdv ct:Value) (osl:Array (Option Value)),
  fd = PySem.W.fnOf x qual (defArgs st) (defBody st) (defScope st) .none kV doc pm an cdv ct /\ K.lookup f = some ⟨oc,od,.func fd,osl⟩ /\ PySem.W.codeIn K cdv qual = true
 kp:PySem.W.keepIn K (.ref f) = true
section
variable {P:Program} {w:World} {K:PySem.W.Frag} {mg:Str -> Option Value} {base:Heap}
theorem Fun.ok {x qual:Str} {st:Stmt} {f:Addr} {fd:FuncData} {N ps:List Str} {k:Nat} {sp:Sp} (F:Fun K x qual st f fd) (S:FnScope N ps (defScope st)) (len:∀ vs H Q E,sp vs H Q E -> vs.length = ps.length)
  (hbody : ∀ (cdv : Value) (A : Around) (outer : List Env) (s : Shared) (H : Hp) (vs : List V) (Q : VK) (E : XK), Room k (A.deeper (envOfC qual (defScope st) s.heap.objs.size f cdv)) -> sp vs H Q E ->
   ∃ t,PSs (cxOf CX0 P w K mg base N qual (defScope st) f cdv A outer s H E).nox (defBody st) t /\ t { nx:=fun _ H'=>Q .non H',rt:=Q } (start N vs) H):FnOk P w K mg base CX0 (k + 1) f fd ps sp:=by
 obtain ⟨oc,od,kV,doc,pm,an,cdv,ct,osl,rfl,lk,hcd⟩:=F.ex
 refine fn_of lk hcd S len fun A outer s H vs Q E hr hsp=>?_
 obtain ⟨t,h,q⟩:=hbody cdv A outer s H vs Q E hr hsp
 exact ⟨t,h.nox,q⟩
theorem Fun.binds {x qual:Str} {st:Stmt} {f:Addr} {fd:FuncData} {ps:List Str} (F:Fun K x qual st f fd)
  (h:∀ (kV doc pm:Value) (an:Option Addr) (cdv ct:Value) (us:List Value),us.length = ps.length -> bindArgs (PySem.W.fnOf x qual (defArgs st) (defBody st) (defScope st) .none kV doc pm an cdv ct) ⟨us,[]⟩ = pure (ps.zip us)):Binds K fd ps []:=by
 obtain ⟨oc,od,kV,doc,pm,an,cdv,ct,osl,rfl,lk,hcd⟩:=F.ex
 exact .all (h kV doc pm an cdv ct)
theorem fun_mk {x qual:Str} {st:Stmt} {f:Addr} {oc:Value} {od an:Option Addr} {osl:Array (Option Value)} {kV doc pm cdv ct:Value} (l:K.lookup f = some ⟨oc,od,.func (PySem.W.fnOf x qual (defArgs st) (defBody st) (defScope st) .none kV doc pm an cdv ct),osl⟩)
  (c:PySem.W.codeIn K cdv qual = true) (k:PySem.W.keepIn K (.ref f) = true):Fun K x qual st f (PySem.W.fnOf x qual (defArgs st) (defBody st) (defScope st) .none kV doc pm an cdv ct):=⟨⟨oc,od,kV,doc,pm,an,cdv,ct,osl,rfl,l,c⟩,k⟩
end
theorem hu_of {A:Around} {k:Nat} (hr:Room k A):A.units + 1 < cLine:=Nat.lt_of_le_of_lt (Nat.add_le_add_left (by decide:1 <= 64) _) hr.units
section
variable {X:Cx}
end
def Same (H H':Hp):Prop:=∀ b o,H b = some o -> H' b = some o
end L2
set_option maxRecDepth 100000
namespace L2
open PySem
def closL (env:Env):List (Str × NameKind) -> List (Str × Addr) -> List (Str × Addr)
 | [],acc=>acc
 | y :: r,acc=>if y.2 == .free then closL env r ((y.1,(env.cells.lookup y.1).getD 0) :: acc) else closL env r acc
theorem closL_sub {env:Env}:∀ (l:List (Str × NameKind)) (acc:List (Str × Addr)),(∀ y ∈ l,y.2 = .free -> ∃ c,env.cells.lookup y.1 = some c) -> (∀ x c,acc.lookup x = some c -> env.cells.lookup x = some c) ->
  ∀ x c,(closL env l acc).lookup x = some c -> env.cells.lookup x = some c
 | [],acc,_,ha,x,c,h=>ha x c h
 | y :: r, acc, hf, ha, x, c, h => by
  unfold closL at h
  split at h
  ·rename_i hk
   have hk':y.2 = .free:=by simpa using hk
   obtain ⟨d,hd⟩:=hf y List.mem_cons_self hk'
   refine closL_sub r _ (fun z hz=>hf z (List.mem_cons_of_mem _ hz)) (fun z e hz=>?_) x c h
   rw [List.lookup_cons] at hz
   cases hb:z == y.1 with
   | true =>
    rw [hb,hd] at hz
    have e2:z = y.1:=by simpa using hb
    have e3:d = e:=by simpa using hz
    rw [e2,hd,e3]
   | false=>rw [hb] at hz; exact ha z e hz
  ·exact closL_sub r acc (fun z hz=>hf z (List.mem_cons_of_mem _ hz)) ha x c h
theorem closL_keep {env:Env} {x:Str}:∀ (l:List (Str × NameKind)) (acc:List (Str × Addr)),(∃ c,acc.lookup x = some c) -> ∃ c,(closL env l acc).lookup x = some c
 | [],acc,h=>h
 | y :: r, acc, h => by
  unfold closL
  split
  ·refine closL_keep r _ ?_
   rw [List.lookup_cons]
   cases hb:x == y.1 with
   | true=>exact ⟨_,rfl⟩
   | false=>exact h
  ·exact closL_keep r acc h
theorem closL_has {env:Env} {y:Str × NameKind} (hk:y.2 = .free):∀ (l:List (Str × NameKind)) (acc:List (Str × Addr)),y ∈ l -> ∃ c,(closL env l acc).lookup y.1 = some c
 | [],acc,h=>by simp at h
 | z :: r, acc, h => by
  unfold closL
  rcases List.mem_cons.mp h with rfl | h
  ·rw [if_pos (by rw [hk]; rfl)]
   exact closL_keep r _ ⟨_,List.lookup_cons_self⟩
  ·split
   ·exact closL_has hk r _ h
   ·exact closL_has hk r _ h
theorem clos_forIn {env:Env} (f:Str × NameKind -> List (Str × Addr) -> Sem (ForInStep (List (Str × Addr))))
  (hf:∀ y acc,f y acc = if y.2 == .free then (cellOf env y.1 >>= fun c=>pure (.yield ((y.1,c) :: acc))) else pure (.yield acc)) :
  ∀ (l:List (Str × NameKind)) (acc:List (Str × Addr)),(∀ y ∈ l,y.2 = .free -> ∃ c,env.cells.lookup y.1 = some c) -> forIn l acc f = (pure (closL env l acc):Sem _)
 | [],acc,_=>by rw [List.forIn_nil]; rfl
 | y :: r, acc, h => by
  have ih:=fun acc=>clos_forIn f hf r acc fun z hz=>h z (List.mem_cons_of_mem _ hz)
  rw [List.forIn_cons,hf]
  unfold closL
  split
  ·rename_i hk
   obtain ⟨c,hc⟩:=h y List.mem_cons_self (by simpa using hk)
   have e:cellOf env y.1 = pure c:=by unfold cellOf; rw [hc]
   rw [e,hc]
   exact ih _
  ·exact ih _
theorem clos_for {scope:Scope} {env:Env} (h:∀ y ∈ scope.names,y.2 = .free -> ∃ c,env.cells.lookup y.1 = some c):closureFor scope env = pure (closL env scope.names []):=by
 have e:=clos_forIn (env:=env) (fun x cs=>match x with | (name,kind)=>if (kind == NameKind.free) = true then (do let c <- cellOf env name; pure (.yield ((name,c) :: cs))) else pure (.yield cs)) (fun y acc=>rfl) scope.names [] h
 have e2:closureFor scope env = ((forIn scope.names [] (fun x cs=>match x with | (name,kind)=>if (kind == NameKind.free) = true then (do let c <- cellOf env name; pure (ForInStep.yield ((name,c) :: cs))) else pure (ForInStep.yield cs)):Sem (List (Str × Addr))) >>= fun cs=>pure cs):=rfl
 rw [e2,e]
 rfl
theorem relab_lookup {env:Env} {x:Str}:∀ (l:List (Str × NameKind)),
  (l.map fun (n, k) => if (k == NameKind.free && env.scope.kind == .function && env.kindOf n == some .cell) then (n, NameKind.cell) else (n, k)).lookup x =
   (l.lookup x).map fun k=>if (k == NameKind.free && env.scope.kind == .function && env.kindOf x == some .cell) then NameKind.cell else k
 | []=>rfl
 | (n, k) :: r => by
  have ih:=@relab_lookup env x r
  rw [List.map_cons]
  by_cases e:x = n
  ·subst e
   dsimp only
   split
   ·rename_i h; rw [List.lookup_cons_self,List.lookup_cons_self,Option.map_some,if_pos h]
   ·rename_i h; rw [List.lookup_cons_self,List.lookup_cons_self,Option.map_some,if_neg h]
  ·have e' : (x == n) = false := by simpa using e
   dsimp only
   split
   ·rw [List.lookup_cons,e',List.lookup_cons,e']; exact ih
   ·rw [List.lookup_cons,e',List.lookup_cons,e']; exact ih
theorem cf_all:∀ (l:List (Str × NameKind)) (h:Heap) (acc:List (Str × Addr)) (x:Str) (c:Addr),(cellsFrom h.objs.size l acc).lookup x = some c ->
  ((pushCells h l).IsCell c none /\ h.objs.size <= c /\ (x,NameKind.cell) ∈ l) \/ acc.lookup x = some c
 | [],_,_,_,_,e=>.inr e
 | (n, k) :: r, h, acc, x, c, e => by
  unfold cellsFrom at e
  unfold pushCells
  split at e
  ·rename_i hk
   have hk':k = .cell:=by simpa using hk
   rw [if_pos hk]
   have hz:(h.push { cls:=.type "cell",data:=.cell none }).objs.size = h.objs.size + 1:=Heap.size_push ..
   rw [<- hz] at e
   rcases cf_all r (h.push { cls:=.type "cell",data:=.cell none }) _ x c e with ⟨a,b,d⟩ | q
   ·exact .inl ⟨a,by rw [hz] at b; lia,List.mem_cons_of_mem _ d⟩
   ·rw [List.lookup_cons] at q
    cases hb:x == n with
    | false=>rw [hb] at q; exact .inr q
    | true =>
     rw [hb] at q
     have e1:h.objs.size = c:=by simpa using q
     have e2:x = n:=by simpa using hb
     subst e1 e2
     refine .inl ⟨?_,Nat.le_refl _,by rw [hk']; exact List.mem_cons_self⟩
     exact ⟨_,pushCells_keeps _ _ _ _ (Heap.get?_push_size _ rfl),rfl⟩
  ·rename_i hk
   rw [if_neg hk]
   rcases cf_all r h acc x c e with ⟨a,b,d⟩ | q
   ·exact .inl ⟨a,b,List.mem_cons_of_mem _ d⟩
   ·exact .inr q
theorem cf_inj:∀ (l:List (Str × NameKind)) (n:Nat) (acc:List (Str × Addr)),(∀ x y c,acc.lookup x = some c -> acc.lookup y = some c -> x = y) -> (∀ x c,acc.lookup x = some c -> c < n) ->
  ∀ x y c,(cellsFrom n l acc).lookup x = some c -> (cellsFrom n l acc).lookup y = some c -> x = y
 | [],_,_,hi,_,x,y,c,e,e'=>hi x y c e e'
 | (m, k) :: r, n, acc, hi, hl, x, y, c, e, e' => by
  unfold cellsFrom at e e'
  have one:∀ z d,((m,n) :: acc).lookup z = some d -> (z = m /\ d = n) \/ acc.lookup z = some d:=fun z d q=>by
   rw [List.lookup_cons] at q
   cases hb:z == m with
   | true=>rw [hb] at q; exact .inl ⟨by simpa using hb,by simpa using q.symm⟩
   | false=>rw [hb] at q; exact .inr q
  split at e
  ·rename_i hk
   rw [if_pos hk] at e'
   refine cf_inj r (n + 1) ((m,n) :: acc) (fun a b d q q'=>?_) (fun a d q=>?_) x y c e e'
   ·rcases one a d q with ⟨a1, a2⟩ | a1 <;> rcases one b d q' with ⟨b1, b2⟩ | b1
    ·rw [a1,b1]
    ·exact absurd (hl b d b1) (by rw [a2]; exact Nat.lt_irrefl _)
    ·exact absurd (hl a d a1) (by rw [b2]; exact Nat.lt_irrefl _)
    ·exact hi a b d a1 b1
   ·rcases one a d q with ⟨_, a2⟩ | a1
    ·rw [a2]; exact Nat.lt_succ_self _
    ·exact Nat.lt_succ_of_lt (hl a d a1)
  ·rename_i hk
   rw [if_neg hk] at e'
   exact cf_inj r n acc hi hl x y c e e'
theorem cf_keep {x:Str}:∀ (l:List (Str × NameKind)) (n:Nat) (acc:List (Str × Addr)),(∃ c,acc.lookup x = some c) -> ∃ c,(cellsFrom n l acc).lookup x = some c
 | [],_,_,h=>h
 | (m, k) :: r, n, acc, h => by
  unfold cellsFrom
  split
  ·refine cf_keep r _ _ ?_
   rw [List.lookup_cons]
   cases hb:x == m with
   | true=>exact ⟨_,rfl⟩
   | false=>exact h
  ·exact cf_keep r _ _ h
theorem cf_has {x:Str}:∀ (l:List (Str × NameKind)) (n:Nat) (acc:List (Str × Addr)),(x,NameKind.cell) ∈ l -> ∃ c,(cellsFrom n l acc).lookup x = some c
 | [],_,_,h=>by simp at h
 | (m, k) :: r, n, acc, h => by
  unfold cellsFrom
  rcases List.mem_cons.mp h with e | h
  ·cases e
   exact cf_keep r _ _ ⟨_,List.lookup_cons_self⟩
  ·split
   ·exact cf_has r _ _ h
   ·exact cf_has r _ _ h
theorem cf_ge {x : Str} : ∀ (l : List (Str × NameKind)) (n : Nat) (acc : List (Str × Addr)) (lo : Nat), lo <= n -> ((x, NameKind.cell) ∈ l \/ ∀ c, acc.lookup x = some c -> lo <= c) -> ∀ c, (cellsFrom n l acc).lookup x = some c -> lo <= c
  | [], n, acc, lo, hn, h, c, e => by
    rcases h with h | h
    · simp at h
    · exact h c e
  | (m, k) :: r, n, acc, lo, hn, h, c, e => by
    unfold cellsFrom at e
    split at e
    · rename_i hk
      refine cf_ge r (n + 1) ((m,n) :: acc) lo (by lia) ?_ c e
      rcases h with h | h
      · rcases List.mem_cons.mp h with z | z
        · cases z
          refine .inr fun d q=>?_
          rw [List.lookup_cons_self] at q
          have:n = d:=by simpa using q
          lia
        · exact .inl z
      · refine .inr fun d q => ?_
        rw [List.lookup_cons] at q
        cases hb:x == m with
        | true => rw [hb] at q; have : n = d := by simpa using q;
                  lia
        | false=>rw [hb] at q; exact h d q
    · rename_i hk
      refine cf_ge r n acc lo hn ?_ c e
      rcases h with h | h
      · rcases List.mem_cons.mp h with z | z
        · cases z; exact absurd rfl hk
        · exact .inl z
      · exact .inr h
section
variable {M:Model} {A:Around} {E:Value -> Shared -> Prop} {s:Shared}
theorem newEnv_comp {scope:Scope} {env:Env} {cl:List (Str × Addr)} {Q:Env -> Shared -> Prop}
  (h : Q (newEnv scope s.heap.objs.size env.globals (cellsFrom (s.heap.objs.size + 1) scope.names cl) env.qual none .none (some env) builtinsNs)
   { s with heap:=pushCells (s.heap.push { cls:=.type "dict",data:=.dict #[] }) scope.names }) :
  wpAny M A (newFunctionEnv scope env.globals cl [] env.qual none .none (some env)) Q E s:=by
 simp only [newFunctionEnv,Option.isSome_some,if_true]
 refine wpAny_bind (wpAny_alloc ?_)
 refine wpAny_bind (wpAny_layCells _ (fun name kind cells=>?_) _ _ _ _ ?_)
 ·cases hkc:kind == NameKind.cell <;> simp [hkc]
 ·rw [List.forIn_nil]
  refine wpAny_bind (wpAny_pure (wpAny_pure ?_))
  have hz:({ s with heap:=s.heap.push { cls:=.type "dict",data:=.dict #[] } }:Shared).heap.objs.size = s.heap.objs.size + 1:=Heap.size_push ..
  rw [hz]
  exact h
end
abbrev cTests (ifs:List Expr) (env:Env):Sem Bool:=forIn ifs true fun c r=>if r = true then do let ok <- isTrue c env (eval c env); pure (ForInStep.yield ok) else pure (ForInStep.yield r)
section
variable {prog:Program} {w:World} {A:Around} {R:Result -> Shared -> Prop} {s:Shared}
theorem comp_loop {elt target iter:Expr} {ifs:List Expr} {scope:Scope} {pos:Pos} {it acc:Value} {env:Env} (J:Nat -> Shared -> Prop)
  (turn : ∀ n s, J n s -> wpAny (model prog w) A (pyNext it) (fun r s1 => match r with
   | none=>R (.ok .next) s1
   | some v => wpAny (model prog w) A (letOwnedTupleGo target it v) (fun _ s2 => wpAny (model prog w) A (assign target env v) (fun _ s3 => wpAny (model prog w) A (cTests ifs env) (fun ok s4 =>
     if ok = true then wpAny (model prog w) A (eval elt env) (fun x s5=>wpAny (model prog w) A (call (.builtin "list.append") [acc,x]) (fun _ s6=>∃ m,m < n /\ J m s6) (fun _ _=>False) s5) (fun _ _=>False) s4
     else ∃ m,m < n /\ J m s4) (fun _ _=>False) s3) (fun _ _=>False) s2) (fun _ _=>False) s1) (fun _ _=>False) s)
  (n:Nat) (h:J n s):codeAny (model prog w) A (.compLoop (.ListComp elt [⟨target,iter,ifs,0⟩] scope pos) 0 it acc env) R s:=by
 refine codeAny_loop rfl J (fun n s hJ=>?_) n h
 show wpAny _ A ((compTurn (.ListComp elt [⟨target,iter,ifs,0⟩] scope pos) 0 it acc env).onRaise (fun x=>do noteFrame x env; theTreesLotGoes x)) _ _ s
 refine wpAny_noted ?_
 rw [compTurn_list]
 have up:∀ {α:Type} {t:Sem α} {Q Q':α -> Shared -> Prop} {E:Value -> Shared -> Prop} {s:Shared},wpAny (model prog w) A t Q (fun _ _=>False) s -> (∀ a s,Q a s -> Q' a s) -> wpAny (model prog w) A t Q' E s :=
  fun h f=>wpAny_mono h f fun _ _ z=>False.elim z
 refine wpAny_bind (wpAny_standAt (wpAny_bind (up (turn n s hJ) fun r s1 h1=>?_)))
 cases r with
 | none=>exact wpAny_pure h1
 | some v =>
  refine wpAny_bind (up h1 fun _ s2 h2=>?_)
  refine wpAny_bind (up h2 fun _ s3 h3=>?_)
  refine wpAny_bind (up h3 fun ok s4 h4=>?_)
  cases ok with
  | false=>exact wpAny_pure ⟨rfl,h4⟩
  | true=>exact wpAny_bind (wpAny_bind (up h4 fun x s5 h5=>wpAny_bind (up h5 fun _ s6 h6=>wpAny_pure (wpAny_pure ⟨rfl,h6⟩))))
end
end L2
set_option maxRecDepth 100000
namespace L2
open PySem
section
variable {prog:Program} {w:World} {A:Around} {E:Value -> Shared -> Prop} {s:Shared}
end
section
variable {prog:Program} {w:World} {A:Around} {E:Value -> Shared -> Prop} {s:Shared}
end
end L2
set_option maxRecDepth 100000
namespace L2
open PySem PySem.Spec PyProof.Rows
theorem Inv.track {X:Cx} {pins:List (Addr × Obj)} {σ:St} {H:Hp} {s:Shared} {a:Addr} {o:HO} (I:Inv X pins σ H s) (hn:H a = none) (hz:X.s₀.heap.objs.size <= a) (hL:a ≠ X.env.locals)
  (hc:∀ x c,X.env.cells.lookup x = some c -> c ≠ a) (hp:∀ p ∈ X.pn ++ pins,p.1 ≠ a) (new:ObjOk X.prog X.w (upd H a o) s.heap a o):Inv X pins σ (upd H a o) s:=by
 have nb:∀ b u,H b = some u -> b ≠ a:=fun b u e=>ne_of_none e hn
 refine ⟨I.ok,I.os,I.bare,⟨I.base.keep,I.base.slot,fun b u e n hx=>?_,I.base.there,fun b xs e=>?_,fun b u xs e=>?_,fun b ps e=>?_⟩,I.loc,I.cell,?_,fun x c e=>?_,fun p hq=>?_,fun b u e=>?_,I.len⟩
 ·rw [upd_ne (Nat.ne_of_lt (Nat.lt_of_lt_of_le (Heap.lt_size e) hz))]; exact I.base.free b u e n hx
 ·have q:=I.base.tups b xs e; rw [upd_ne (nb b _ q)]; exact q
 ·have q:=I.base.frzs b u xs e; rw [upd_ne (nb b _ q)]; exact q
 ·obtain ⟨m,q⟩:=I.base.tbls b ps e; exact ⟨m,by rw [upd_ne (nb b _ q)]; exact q⟩
 ·rw [upd_ne (Ne.symm hL)]; exact I.free
 ·rw [upd_ne (hc x c e)]; exact I.freeC x c e
 ·obtain ⟨q1, q2, q3⟩ := I.pin p hq
  exact ⟨q1,by rw [upd_ne (hp p hq)]; exact q2,q3⟩
 ·by_cases hb : b = a
  ·subst hb; rw [upd_same] at e; cases e; exact new
  ·rw [upd_ne hb] at e
   exact (I.hok b u e).stay (fun _ _ _ q=>q) (fun c q=>by rw [upd_ne (nb c _ q)]; exact q) fun c xs q=>by rw [upd_ne (nb c _ q)]; exact q
structure CompOk (X:Cx) (scope:Scope) (M:List Str):Prop where
 kind:scope.kind = .function
 uniq:∀ y ∈ scope.names,scope.names.lookup y.1 = some y.2
 frees:∀ y ∈ scope.names,y.2 = .free -> (X.env.kindOf y.1 = some .cell \/ X.env.kindOf y.1 = some .free)
 shadow:∀ x ∈ M,scope.names.lookup x ≠ some .local /\ scope.names.lookup x ≠ some .cell
 same:∀ (i:Nat) (x:Str),M[i]? = some x -> scope.names.lookup x = some .free -> X.N[i]? = some x
 mlen:M.length = X.N.length
def compChk (N M:List Str) (out sc:Scope):Bool :=
 (sc.kind == .function && sc.names.all (fun y => sc.names.lookup y.1 == some y.2 && (y.2 != .free || (out.names.lookup y.1 == some .cell || out.names.lookup y.1 == some .free))) &&
  M.all (fun x=>sc.names.lookup x != some .local && sc.names.lookup x != some .cell)) && (M.length == N.length && (M.zip N).all (fun p=>sc.names.lookup p.1 != some .free || p.1 == p.2))
theorem compOk {X:Cx} {sc:Scope} {M:List Str} (h:compChk X.N M X.env.scope sc = true):CompOk X sc M:=by
 unfold compChk at h
 rw [Bool.and_eq_true,Bool.and_eq_true,Bool.and_eq_true,Bool.and_eq_true,List.all_eq_true,List.all_eq_true,List.all_eq_true] at h
 obtain ⟨⟨⟨h1,h2⟩,h3⟩,h4,h5⟩:=h
 have hl:M.length = X.N.length:=by simpa using h4
 refine ⟨by simpa using h1,fun y hy=>?_,fun y hy hf=>?_,fun x hx=>?_,fun i x hi hf=>?_,hl⟩
 ·have := h2 y hy
  rw [Bool.and_eq_true] at this
  simpa using this.1
 ·have := h2 y hy
  rw [Bool.and_eq_true] at this
  have q:=this.2
  rw [hf] at q
  have q':(X.env.scope.names.lookup y.1 == some .cell || X.env.scope.names.lookup y.1 == some .free) = true:=by simpa using q
  rw [Bool.or_eq_true] at q'
  exact q'.imp (fun z=>(show X.env.scope.names.lookup y.1 = some .cell by simpa using z)) fun z=>(show X.env.scope.names.lookup y.1 = some .free by simpa using z)
 ·have := h3 x hx
  rw [Bool.and_eq_true] at this
  exact ⟨by simpa using this.1,by simpa using this.2⟩
 ·have hlt : i < X.N.length := by rw [<- hl]; exact (List.getElem?_eq_some_iff.mp hi).1
  have hn:X.N[i]? = some X.N[i]:=List.getElem?_eq_getElem hlt
  have hz:(M.zip X.N)[i]? = some (x,X.N[i]):=by rw [List.getElem?_zip_eq_some]; exact ⟨hi,hn⟩
  have:=h5 _ (List.mem_of_getElem? hz)
  rw [Bool.or_eq_true] at this
  rcases this with z | z
  ·rw [hf] at z; simp at z
  ·have e : x = X.N[i] := by simpa using z
   rw [hn,<- e]
def cellsC (X:Cx) (scope:Scope) (C:Addr):List (Str × Addr):=cellsFrom (C + 1) scope.names (closL X.env scope.names [])
def cxComp (X:Cx) (scope:Scope) (own M:List Str) (C:Addr) (s2:Shared) (H2:Hp) (fp:List Addr):Cx where
 prog:=X.prog
 w:=X.w
 K:=X.K
 mg:=X.mg
 base:=X.base
 A:=X.A
 N:=own ++ M
 s₀:=s2
 H₀:=H2
 env:=compEnvC scope (cellsC X scope C) C X.env
 outer:=X.stack
 stack:=X.stack
 ex:=fp
 fn:=fun x=>scope.names.lookup x == some .cell
 calm:=X.calm
 pn:=[]
 xe:=fun _ _=>False
def PTs (X:Cx) (ifs:List Expr) (t:TT):Prop :=
 ∀ (pins:List (Addr × Obj)) (s:Shared) (σ:St) (H:Hp) (Q:Bool -> Hp -> Prop),Inv X pins σ H s -> t σ H Q -> wpAny (model X.prog X.w) X.A (cTests ifs X.env) (TP X pins σ Q) X.xe s
def tYes:TT:=fun _ H Q=>Q true H
theorem pts_nil {X:Cx}:PTs X [] tYes:=fun _ _ _ H _ I h=>wpAny_pure ⟨H,I,h⟩
theorem pts_one {X:Cx} {c:Expr} {t:TT} (hc:PT X c t):PTs X [c] t:=by
 intro pins s σ H Q I h
 show wpAny _ _ (forIn [c] true _) _ _ s
 simp only [List.forIn_cons,List.forIn_nil,if_true]
 exact wpAny_bind (wpAny_bind (thn (hc pins s σ H Q I h) fun b s' hb=>wpAny_pure (wpAny_pure hb)))
def tComp (wi:TI) (own:Nat) (g:TG) (tt:TT) (te:TE):TE:=fun σ H Q=>wi σ H fun J H1=>∃ W:Nat -> Nat -> List V -> Hp -> Prop,(∃ m,W 0 m [] H1) /\ ∀ i m acc H,W i m acc H ->
 (J.stop i H /\ acc.length <= sizeLine /\ ∀ D,H D = none -> Q (.ref D) (upd H D (.lst acc))) \/
 (J.go i H /\ acc.length < sizeLine /\ ∀ x H', J.yld i H x H' -> g x (List.replicate own none ++ σ) H' fun σ2 H2 => σ2.drop own = σ /\ tt σ2 H2 fun c H3 =>
  if c = true then te σ2 H3 fun v H4=>∃ m',m' < m /\ W (i + 1) m' (acc ++ [v]) H4 else ∃ m',m' < m /\ W (i + 1) m' acc H3)
section
variable {X:Cx} {scope:Scope} {own M:List Str} {pins:List (Addr × Obj)} {σ:St} {H2:Hp} {s2:Shared} {fp:List Addr}
theorem CompOk.cells (ok:CompOk X scope M) (I:Inv X pins σ H2 s2):∀ y ∈ scope.names,y.2 = .free -> ∃ c,X.env.cells.lookup y.1 = some c:=fun y hy hf=>I.ok.has y.1 (ok.frees y hy hf)
theorem CompOk.kindIn (ok:CompOk X scope M) {x:Str} {C:Addr} {k:NameKind} (h:(compEnvC scope (cellsC X scope C) C X.env).kindOf x = some k) :
  scope.names.lookup x = some k \/ (k = .cell /\ scope.names.lookup x = some .free):=by
 have h':(relabel scope X.env).names.lookup x = some k:=h
 unfold relabel at h'
 rw [relab_lookup] at h'
 cases e:scope.names.lookup x with
 | none=>rw [e] at h'; simp at h'
 | some j =>
  rw [e,Option.map_some] at h'
  have h2:=Option.some.inj h'
  split at h2
  ·rename_i hc
   have:j = .free:=by
    rw [Bool.and_eq_true,Bool.and_eq_true] at hc
    simpa using hc.1.1
   exact .inr ⟨h2.symm,by rw [this]⟩
  ·exact .inl (by rw [h2])
theorem CompOk.cellsFrom_old (ok:CompOk X scope M) (I:Inv X pins σ H2 s2) {C:Addr} {x:Str} {c:Addr} (h:(cellsC X scope C).lookup x = some c) (hx:scope.names.lookup x ≠ some .cell):X.env.cells.lookup x = some c:=by
 have e0 : ∀ (l : List (Str × NameKind)) (n : Nat) (acc : List (Str × Addr)), (x, NameKind.cell) ∉ l -> (cellsFrom n l acc).lookup x = acc.lookup x := by
  intro l
  induction l with
  | nil=>intro n acc _; rfl
  | cons y r ih =>
   intro n acc hy
   obtain ⟨m,k⟩:=y
   unfold cellsFrom
   split
   ·rename_i hk
    have hk':k = .cell:=by simpa using hk
    rw [ih _ _ fun z=>hy (List.mem_cons_of_mem _ z),List.lookup_cons]
    have:(x == m) = false:=by
     cases hb:x == m with
     | false=>rfl
     | true =>
      have e:x = m:=by simpa using hb
      exact absurd (by rw [hk',e]; exact List.mem_cons_self) hy
    rw [this]
   ·exact ih _ _ fun z=>hy (List.mem_cons_of_mem _ z)
 unfold cellsC at h
 rw [e0 _ _ _ fun hm=>hx (ok.uniq _ hm)] at h
 exact closL_sub scope.names [] (ok.cells I) (fun _ _ z=>by simp at z) x c h
theorem inv_comp (ok:CompOk X scope M) (hc:X.calm = true) (I:Inv X pins σ H2 s2) (hf:∀ b ∈ fp,FpOk X pins H2 b /\ b < s2.heap.objs.size) {C:Addr} (hC:C = s2.heap.objs.size + 1) {h4:Heap}
  (hh:h4 = pushCells ((s2.heap.push { cls:=.type "list",dict:=none,data:=.seq ([]:List Value).toArray }).push { cls:=.type "dict",data:=.dict #[] }) scope.names) :
  Inv (cxComp X scope own M C s2 H2 fp) [] (List.replicate own.length none ++ σ) H2 { s2 with heap:=h4 }:=by
 have zC:(s2.heap.push { cls:=.type "list",dict:=none,data:=.seq ([]:List Value).toArray }).objs.size = C:=by rw [Heap.size_push,hC]
 have zC1:((s2.heap.push { cls:=.type "list",dict:=none,data:=.seq ([]:List Value).toArray }).push { cls:=.type "dict",data:=.dict #[] }).objs.size = C + 1:=by rw [Heap.size_push,zC]
 have keep:∀ b o,s2.heap.get? b = some o -> h4.get? b = some o:=fun b o e=>by
  rw [hh]; exact pushCells_keeps _ _ _ _ (Heap.get?_push_of_some _ (Heap.get?_push_of_some _ e))
 have cellOld:∀ x c,X.env.cells.lookup x = some c -> c < s2.heap.objs.size:=fun x c e=>by obtain ⟨v,q⟩:=I.cell x c e; exact q.lt
 have cellB:∀ x c,(cellsC X scope C).lookup x = some c -> (h4.IsCell c none /\ C + 1 <= c /\ scope.names.lookup x = some .cell) \/ X.env.cells.lookup x = some c:=fun x c e=>by
  by_cases hx:scope.names.lookup x = some .cell
  ·have e' := e
   unfold cellsC at e'
   rw [<- zC1] at e'
   rcases cf_all _ _ _ x c e' with ⟨a,b,d⟩ | q
   ·exact .inl ⟨by rw [hh]; exact a,by rw [zC1] at b; exact b,hx⟩
   ·exact .inr (closL_sub scope.names [] (ok.cells I) (fun _ _ z=>by simp at z) x c q)
  ·exact .inr (ok.cellsFrom_old I e hx)
 have hNs:∃ m,h4.Ns C m:=by
  have q:((s2.heap.push { cls:=.type "list",dict:=none,data:=.seq ([]:List Value).toArray }).push { cls:=.type "dict",data:=.dict #[] }).Ns C (fun _=>none):=by
   have:=Heap.Ns.new (s2.heap.push { cls:=.type "list",dict:=none,data:=.seq ([]:List Value).toArray }) (.type "dict")
   rw [zC] at this
   exact this
  exact ⟨_,q.keeps fun b o e=>by rw [hh]; exact pushCells_keeps _ _ _ _ e⟩
 have nfs:∀ b ∈ fp,b ∉ frs X.stack:=fun b hb hx=>by
  obtain ⟨⟨_,f1,f2,_⟩,_⟩:=hf b hb
  rcases List.mem_cons.mp (I.stkSub b hx) with e | e
  ·exact f1 e
  ·exact f2 e
 obtain ⟨mC,hmC⟩:=hNs
 refine ⟨⟨I.ok.mod,ok.kind,I.ok.glob,I.ok.blt,?_,?_,?_,?_,I.ok.hd,I.ok.frames,.inl rfl,?_,I.bs,?_,?_,nfs,I.stack,I.stkFree⟩,rfl,I.bare,Un.kept keep,⟨mC,hmC,?_⟩,?_,I.hok.fresh (by show s2.heap.objs.size <= C; rw [hC]; exact Nat.le_succ _),?_,fun p hp=>absurd (show p ∈ ([]:List (Addr × Obj)) from hp) (by simp),I.hok.kept keep,?_⟩
 ·show s2.heap.objs.size <= C; rw [hC]; exact Nat.le_succ _
 ·intro x y c h1 h2
  refine cf_inj scope.names (C + 1) (closL X.env scope.names []) (fun a b d p q=>?_) (fun a d p=>?_) x y c h1 h2
  ·exact I.ok.inj a b d (closL_sub scope.names [] (ok.cells I) (fun _ _ z=>by simp at z) a d p) (closL_sub scope.names [] (ok.cells I) (fun _ _ z=>by simp at z) b d q)
  ·have := cellOld a d (closL_sub scope.names [] (ok.cells I) (fun _ _ z => by simp at z) a d p)
   rw [hC]; exact Nat.lt_succ_of_lt (Nat.lt_succ_of_lt this)
 ·intro x hx
  have go:∀ k,(k = NameKind.cell \/ k = NameKind.free) -> (compEnvC scope (cellsC X scope C) C X.env).kindOf x = some k -> ∃ c,(cellsC X scope C).lookup x = some c:=fun k hk e=>by
   rcases ok.kindIn e with e | ⟨_,e⟩
   ·rcases hk with rfl | rfl
    ·exact cf_has _ _ _ (PySem.mem_of_lookup e)
    ·exact cf_keep _ _ _ (closL_has (y:=(x,.free)) rfl _ _ (PySem.mem_of_lookup e))
   ·exact cf_keep _ _ _ (closL_has (y:=(x,.free)) rfl _ _ (PySem.mem_of_lookup e))
  rcases hx with e | e
  ·exact go _ (.inl rfl) e
  ·exact go _ (.inr rfl) e
 ·intro x c hx h
  have hx':scope.names.lookup x = some .cell:=by simpa [cxComp] using hx
  have:=cf_ge (x:=x) scope.names (C + 1) (closL X.env scope.names []) (C + 1) (Nat.le_refl _) (.inl (PySem.mem_of_lookup hx')) c h
  show s2.heap.objs.size <= c
  exact Nat.le_trans (by rw [hC]; exact Nat.le_trans (Nat.le_succ _) (Nat.le_succ _)) this
 ·intro b hb
  obtain ⟨⟨_,_,_,_,f4,_⟩,f6⟩:=hf b hb
  refine ⟨?_,fun x c h=>?_⟩
  ·show b ≠ C
   rw [hC]; exact Nat.ne_of_lt (Nat.lt_succ_of_lt f6)
  ·rcases cellB x c h with ⟨_, q, _⟩ | q
   ·rw [hC] at q
    exact Nat.ne_of_gt (Nat.lt_of_lt_of_le f6 (Nat.le_trans (Nat.le_trans (Nat.le_succ _) (Nat.le_succ _)) q))
   ·exact f4 x c q
 ·exact Nat.le_trans I.ok.bsz I.sz
 ·intro b o e hb
  obtain ⟨⟨_,_,_,f3,_⟩,_⟩:=hf b hb
  rcases f3 with z | z
  ·exact I.ok.noex b o e z
  ·exact absurd (Nat.lt_of_lt_of_le (Heap.lt_size (I.ok.bs b o e).1) z) (Nat.lt_irrefl _)
 ·intro i x v h1 h2 h3
  have h2':(List.replicate own.length (none:Option V) ++ σ)[i]? = some (some v):=h2
  have hi:own.length <= i:=by
   apply Nat.le_of_not_lt
   intro hlt
   rw [List.getElem?_append_left (by simpa using hlt),List.getElem?_replicate] at h2'
   rw [if_pos hlt] at h2'
   cases h2'
  rw [List.getElem?_append_right (by simpa using hi),List.length_replicate] at h2'
  have h1':(own ++ M)[i]? = some x:=h1
  rw [List.getElem?_append_right hi] at h1'
  obtain ⟨n1,n2⟩:=ok.shadow x (List.mem_of_getElem? h1')
  have hfree:scope.names.lookup x = some .free /\ ((compEnvC scope (cellsC X scope C) C X.env).kindOf x = some .cell \/ (compEnvC scope (cellsC X scope C) C X.env).kindOf x = some .free):=by
   rcases h3 with e | e | e
   ·rcases ok.kindIn (x := x) (C := C) e with q | ⟨q, _⟩
    ·exact absurd q n1
    ·cases q
   ·rcases ok.kindIn (x := x) (C := C) e with q | ⟨_, q⟩
    ·exact absurd q n2
    ·exact ⟨q,.inl e⟩
   ·rcases ok.kindIn (x := x) (C := C) e with q | ⟨q, _⟩
    ·exact ⟨q,.inr e⟩
    ·cases q
  obtain ⟨hfr,hk⟩:=hfree
  obtain ⟨m,hn,hl⟩:=I.loc
  have hkX:=ok.frees (x,.free) (PySem.mem_of_lookup hfr) rfl
  have h1':=ok.same _ _ h1' hfr
  obtain ⟨u,ru,lk⟩:=hl (i - own.length) x v h1' h2' (hkX.elim (fun z=>.inr (.inl z)) fun z=>.inr (.inr z))
  refine ⟨u,ru,.inr ⟨hk,?_⟩⟩
  rcases lk with ⟨k,_⟩ | ⟨_,c,ec,ic⟩
  ·rcases hkX with z | z <;> (rw [k] at z; cases z)
  ·obtain ⟨c', e'⟩ : ∃ c', (cellsC X scope C).lookup x = some c' := cf_keep _ _ _ (closL_has (y := (x, .free)) rfl _ _ (PySem.mem_of_lookup hfr))
   refine ⟨c',e',?_⟩
   have:=ok.cellsFrom_old I e' (by rw [hfr]; simp)
   have e2:some c = some c':=ec.symm.trans this
   cases e2
   exact ic.keeps keep
 ·intro x c h
  rcases cellB x c h with ⟨q,_⟩ | q
  ·exact ⟨_,q⟩
  ·obtain ⟨v, z⟩ := I.cell x c q
   exact ⟨v,z.keeps keep⟩
 ·intro x c h
  rcases cellB x c h with ⟨q,q2,_⟩ | q
  ·exact I.hok.fresh (by rw [hC] at q2; exact Nat.le_trans (Nat.le_trans (Nat.le_succ _) (Nat.le_succ _)) q2)
  ·exact I.freeC x c q
 ·show (List.replicate own.length (none : Option V) ++ σ).length = (own ++ M).length
  rw [List.length_append,List.length_append,List.length_replicate,I.len,ok.mlen]
end
end L2
set_option maxRecDepth 100000
namespace L2
open PySem PySem.Spec PyProof.Rows
section
variable {X:Cx} {scope:Scope} {own M:List Str} {pins:List (Addr × Obj)} {σ:St} {H2:Hp} {s2:Shared} {tg iter elt:Expr} {ifs:List Expr} {pos:Pos} {g:TG} {tt:TT} {te:TE}
theorem comp_core (ok:CompOk X scope M) (hc:X.calm = true) (hg:∀ C s2 H2 fp,PG (cxComp X scope own M C s2 H2 fp) tg g) (ht:∀ C s2 H2 fp,PTs (cxComp X scope own M C s2 H2 fp) ifs tt) (he:∀ C s2 H2 fp,PE (cxComp X scope own M C s2 H2 fp) elt te)
  (I2:Inv X pins σ H2 s2) {it:Addr} {fp:List Addr} {tn:Nat -> Heap -> Prop} {J:It} (T:Turn X.prog X.w X.K tg J fp it tn) (st2:tn 0 s2.heap) (f2:∀ b ∈ fp,FpOk X pins H2 b)
  {W:Nat -> Nat -> List V -> Hp -> Prop} (w0:∃ m,W 0 m [] H2) {Qf:V -> Hp -> Prop}
  (turn : ∀ i m acc H, W i m acc H -> (J.stop i H /\ acc.length <= sizeLine /\ ∀ D, H D = none -> Qf (.ref D) (upd H D (.lst acc))) \/
   (J.go i H /\ acc.length < sizeLine /\ ∀ x H', J.yld i H x H' -> g x (List.replicate own.length none ++ σ) H' fun σ2 H2 => σ2.drop own.length = σ /\ tt σ2 H2 fun c H3 =>
    if c = true then te σ2 H3 fun v H4=>∃ m',m' < m /\ W (i + 1) m' (acc ++ [v]) H4 else ∃ m',m' < m /\ W (i + 1) m' acc H3))
  {RR:Value -> Addr -> Result -> Shared -> Prop} {E:Value -> Shared -> Prop}
  (fin:∀ D C H' s' m,Inv X pins σ H' s' -> Qf (.ref D) H' -> s'.heap.Ns C m -> H' C = none -> C ≠ X.env.locals -> X.s₀.heap.objs.size <= C -> (∀ x c,X.env.cells.lookup x = some c -> c ≠ C) -> (∀ p ∈ X.pn ++ pins,p.1 ≠ C) -> RR (.ref D) C (.ok .next) s') :
  wpAny (model X.prog X.w) X.A (newList []) (fun acc s3=>wpAny (model X.prog X.w) X.A (newFunctionEnv scope X.env.globals (closL X.env scope.names []) [] X.env.qual none .none (some X.env)) (fun cenv s4 =>
   codeAny (model X.prog X.w) X.A (.compStart (.ListComp elt [⟨tg,iter,ifs,0⟩] scope pos) 0 (.ref it) acc { cenv with scope:=relabel scope X.env }) (RR acc cenv.locals) s4) E s3) E s2:=by
 refine wpAny_newObj_type (newEnv_comp ?_)
 have zC:(s2.heap.push { cls:=.type "list",dict:=none,data:=.seq ([]:List Value).toArray }).objs.size = s2.heap.objs.size + 1:=Heap.size_push ..
 dsimp only
 rw [zC]
 generalize hC:s2.heap.objs.size + 1 = C
 generalize hh:pushCells ((s2.heap.push { cls:=.type "list",dict:=none,data:=.seq ([]:List Value).toArray }).push { cls:=.type "dict",data:=.dict #[] }) scope.names = h4
 have fpl:∀ b ∈ fp,FpOk X pins H2 b /\ b < s2.heap.objs.size:=fun b hb=>by
  obtain ⟨o,e,_⟩:=T.obj 0 _ st2 b hb
  exact ⟨f2 b hb,Heap.lt_size e⟩
 have I4:Inv (cxComp X scope own M C s2 H2 fp) [] (List.replicate own.length none ++ σ) H2 { s2 with heap:=h4 }:=inv_comp ok hc I2 fpl hC.symm hh.symm
 generalize hX:cxComp X scope own M C s2 H2 fp = X' at I4
 have keep4:∀ b o,s2.heap.get? b = some o -> h4.get? b = some o:=fun b o e=>by
  rw [<- hh]; exact pushCells_keeps _ _ _ _ (Heap.get?_push_of_some _ (Heap.get?_push_of_some _ e))
 have hD4:h4.get? s2.heap.objs.size = some { cls:=.type "list",dict:=none,data:=.seq ([]:List Value).toArray }:=by
  rw [<- hh]; exact pushCells_keeps _ _ _ _ (Heap.get?_push_of_some _ (Heap.get?_push_size _ rfl))
 have st4:tn 0 h4:=T.keep _ _ _ st2 fun b hb o e=>keep4 b o e
 have gg:PG X' tg g:=by rw [<- hX]; exact hg C s2 H2 fp
 have gt:PTs X' ifs tt:=by rw [<- hX]; exact ht C s2 H2 fp
 have ge:PE X' elt te:=by rw [<- hX]; exact he C s2 H2 fp
 have xP:X'.prog = X.prog:=by rw [<- hX]; rfl
 have xw:X'.w = X.w:=by rw [<- hX]; rfl
 have xK:X'.K = X.K:=by rw [<- hX]; rfl
 have xA:X'.A = X.A:=by rw [<- hX]; rfl
 have xc:X'.calm = true:=by rw [<- hX]; exact hc
 have xpn:X'.pn = []:=by rw [<- hX]; rfl
 have xs:X'.s₀ = s2:=by rw [<- hX]; rfl
 have xH:X'.H₀ = H2:=by rw [<- hX]; rfl
 have xL:X'.env.locals = C:=by rw [<- hX]; rfl
 have xfs:X'.fs = frs X.stack:=by rw [<- hX]; rfl
 have xex:X'.ex = fp:=by rw [<- hX]; rfl
 have xe:X'.xe = fun _ _=>False:=by rw [<- hX]; rfl
 have xenv:({ newEnv scope C X.env.globals (cellsFrom (C + 1) scope.names (closL X.env scope.names [])) X.env.qual none .none (some X.env) builtinsNs with scope:=relabel scope X.env }:Env) = X'.env:=by rw [<- hX]; rfl
 have Dlt:s2.heap.objs.size < C:=by rw [<- hC]; exact Nat.lt_succ_self _
 have fpb:∀ {pl:List (Addr × Obj)} {H:Hp},(∀ b ∈ fp,H b = none) -> (∀ p ∈ pl,p.1 ∉ fp) -> ∀ b ∈ fp,FpOk X' pl H b:=fun {pl H} hn hpl b hb=>by
  refine ⟨hn b hb,?_,?_,.inl (by rw [xex]; exact hb),fun x c e=>(I4.ok.exf b (by rw [xex]; exact hb)).2 x c e,fun p hp z=>?_⟩
  ·exact (I4.ok.exf b (by rw [xex]; exact hb)).1
  ·exact I4.ok.exfs b (by rw [xex]; exact hb)
  ·rw [xpn, List.nil_append] at hp
   exact hpl p hp (by rw [z]; exact hb)
 have Dfp:s2.heap.objs.size ∉ fp:=fun z=>Nat.lt_irrefl _ (fpl _ z).2
 have DC:s2.heap.objs.size ≠ C:=Nat.ne_of_lt Dlt
 have Dcell:∀ x c,X'.env.cells.lookup x = some c -> c ≠ s2.heap.objs.size:=fun x c e z=>by
  obtain ⟨v,o,q,hd⟩:=I4.cell x c e
  rw [z] at q
  have q':h4.get? s2.heap.objs.size = some o:=q
  rw [hD4] at q'
  cases q'
  cases hd
 have Dfs:s2.heap.objs.size ∉ X'.fs:=fun z=>by
  obtain ⟨_,o,ho,_⟩:=I4.ok.funs.mem (by exact z)
  rw [xs] at ho
  exact Nat.lt_irrefl _ (Heap.lt_size ho)
 rw [xenv]
 have goal:∀ s5:Shared,s5 = { s2 with heap:=h4 } -> codeAny (model X.prog X.w) X.A (.compLoop (.ListComp elt [⟨tg,iter,ifs,0⟩] scope pos) 0 (.ref it) (.ref s2.heap.objs.size) X'.env) (RR (.ref s2.heap.objs.size) C) s5:=by
  rintro s5 rfl
  obtain ⟨m0,w0⟩:=w0
  refine comp_loop (fun n s'=>∃ i acc σ' H' its k,Inv X' [] σ' H' s' /\ σ'.drop own.length = σ /\ tn i s'.heap /\ (∀ b ∈ fp,H' b = none) /\ H' s2.heap.objs.size = none /\
   s'.heap.get? s2.heap.objs.size = some { cls:=.type "list",data:=.seq (List.toArray its) k } /\ Vals acc its /\ W i n acc H') ?_ m0
   ⟨0,[],_,H2,[],0,I4,by simp,st4,fun b hb=>(f2 b hb).1,I2.hok.fresh (Nat.le_refl _),hD4,.nil,w0⟩
  rintro n s3 ⟨i,acc,σ3,H3,its,k,I3,hσ,st3,fr3,hD,hDo,rv,w3⟩
  have pinD:∀ {H:Hp} {s:Shared} {σ:St},Inv X' [] σ H s -> H s2.heap.objs.size = none -> s.heap.get? s2.heap.objs.size = some { cls:=.type "list",data:=.seq (List.toArray its) k } ->
    Inv X' [(s2.heap.objs.size,{ cls:=.type "list",data:=.seq (List.toArray its) k })] σ H s:=fun {H s σ} I hn ho=>I.pins_of fun p hp=>by
   have e:p = (s2.heap.objs.size,{ cls:=.type "list",data:=.seq (List.toArray its) k }):=by simpa using hp
   subst e
   exact ⟨ho,hn,by rw [xL]; exact DC,Dfs,fun v z=>by cases z⟩
  have plD:∀ p ∈ [((s2.heap.objs.size,{ cls:=.type "list",data:=.seq (List.toArray its) k }):Addr × Obj)],p.1 ∉ fp:=fun p hp=>by
   have e:p = (s2.heap.objs.size,{ cls:=.type "list",data:=.seq (List.toArray its) k }):=by simpa using hp
   subst e
   exact Dfp
  have I3':=pinD I3 hD hDo
  rcases turn i n acc H3 w3 with ⟨stop,hsz,q⟩ | ⟨go,hsz,step⟩
  ·have := T.done X' xP xw xK xc i _ s3 σ3 H3 (fun _ _ => False) I3' (fpb fr3 plD) st3 stop
   rw [xA] at this
   refine thn this fun r s4 ⟨hr,I5⟩=>?_
   subst hr
   have hDo5:=(I5.pin (s2.heap.objs.size,{ cls:=.type "list",data:=.seq (List.toArray its) k }) (by rw [xpn]; simp)).1
   have un:Un (frs X.stack) fp H2 H3 s2.heap s4.heap:=by
    have:=I5.base
    rw [xfs,xex,xH,xs] at this
    exact this
   have os:s4.os = s2.os:=by rw [I5.os,xs]
   have hok:HOk X.prog X.w H3 s4.heap:=by have:=I5.hok; rw [xP,xw] at this; exact this
   have IX:Inv X pins σ H3 s4:=I2.call' os un hok I5.bare fun b hb=>by
    obtain ⟨_,f1,_,f3,f4,f5⟩:=f2 b hb
    exact ⟨f3,f1,f4,f5⟩
   have old:∀ {b:Addr},s2.heap.objs.size <= b -> (X.s₀.heap.objs.size <= b /\ b ≠ X.env.locals /\ (∀ x c,X.env.cells.lookup x = some c -> c ≠ b) /\ ∀ p ∈ X.pn ++ pins,p.1 ≠ b):=fun {b} hb=>by
    obtain ⟨_,f1,_,f3,f4,f5⟩:=I2.fpOk (H':=fun _=>none) hb rfl
    exact ⟨Nat.le_trans I2.sz hb,f1,f4,f5⟩
   obtain ⟨d1,d2,d3,d4⟩:=old (Nat.le_refl s2.heap.objs.size)
   obtain ⟨c1,c2,c3,c4⟩:=old (b:=C) (Nat.le_of_lt Dlt)
   have IY:Inv X pins σ (upd H3 s2.heap.objs.size (.lst acc)) s4:=IX.track hD d1 d2 d3 d4 ⟨hsz,its,k,rv,hDo5⟩
   obtain ⟨m,hm,_⟩:=I5.loc
   rw [xL] at hm
   have hCn:H3 C = none:=by have:=I5.free; rw [xL] at this; exact this
   exact fin _ C _ s4 m IY (q _ hD) hm (by rw [upd_ne (Ne.symm DC)]; exact hCn) c2 c1 c3 c4
  ·have := T.item X' xP xw xK xc i _ s3 σ3 H3 (fun _ _ => False) I3' (fpb fr3 plD) st3 go
   rw [xA] at this
   refine thn this fun r s4 ⟨u,hr,h4⟩=>?_
   subst hr
   refine thn h4 fun _ s5 ⟨x,H5,I5,r5,y5,st5,fr5⟩=>?_
   have hσn:∀ (j:Nat) v,(List.replicate own.length none ++ σ)[j]? = some (some v) -> σ3[j]? = some (some v):=fun j v e=>by
    by_cases hlt:j < own.length
    ·rw [List.getElem?_append_left (by simpa using hlt), List.getElem?_replicate, if_pos hlt] at e
     cases e
    ·have hle := Nat.le_of_not_lt hlt
     rw [List.getElem?_append_right (by simpa using hle),List.length_replicate,<- hσ,List.getElem?_drop] at e
     rw [show own.length + (j - own.length) = j by lia] at e
     exact e
   have hlen:(List.replicate own.length none ++ σ).length = σ3.length:=by
    have e1:σ3.length = X'.N.length:=I5.len
    have e2:=I4.len
    exact e2.trans e1.symm
   have I5w:Inv X' _ (List.replicate own.length none ++ σ) H5 s5:=I5.weak hlen hσn
   have I5p:=I5w.pinned (fpb fr5 plD) (T.obj _ _ st5)
   have a1:=gg _ s5 _ H5 x u _ I5p r5 (step x H5 y5)
   rw [xP,xw,xA,xe] at a1
   refine thn a1 fun _ s6 ⟨σ6,H6,I6,d6,q6⟩=>?_
   have a2:=gt _ s6 σ6 H6 _ I6 q6
   rw [xP,xw,xA,xe] at a2
   refine thn a2 fun b s7 ⟨H7,I7,q7⟩=>?_
   have pin7:∀ {H:Hp} {s:Shared},Inv X' ([((s2.heap.objs.size,{ cls:=.type "list",data:=.seq (List.toArray its) k }):Addr × Obj)] ++ pinsAt fp s5.heap) σ6 H s ->
     (tn (i + 1) s.heap /\ (∀ b ∈ fp,H b = none) /\ H s2.heap.objs.size = none /\ s.heap.get? s2.heap.objs.size = some { cls:=.type "list",data:=.seq (List.toArray its) k } /\ Inv X' [] σ6 H s):=fun {H s} I=>by
    refine ⟨T.keep _ _ _ st5 fun b hb o e=>(I.pin (b,o) (List.mem_append_right _ (List.mem_append_right _ (mem_pinsAt hb e)))).1,fun b hb=>?_,?_,?_,I.pins_of fun p hp=>by simp at hp⟩
    ·obtain ⟨o, e, d⟩ := T.obj _ _ st5 b hb
     exact (I.pin (b,o) (List.mem_append_right _ (List.mem_append_right _ (mem_pinsAt hb e)))).2.1
    ·exact (I.pin (s2.heap.objs.size,{ cls:=.type "list",data:=.seq (List.toArray its) k }) (by rw [xpn]; simp)).2.1
    ·exact (I.pin (s2.heap.objs.size,{ cls:=.type "list",data:=.seq (List.toArray its) k }) (by rw [xpn]; simp)).1
   cases b with
   | false =>
    obtain ⟨p1,p2,p3,p4,p5⟩:=pin7 I7
    obtain ⟨m',hm,w7⟩:=q7
    exact ⟨m',hm,i + 1,acc,σ6,H7,its,k,p5,d6,p1,p2,p3,p4,rv,w7⟩
   | true =>
    rw [if_pos rfl] at q7 ⊢
    have a3:=ge _ s7 σ6 H7 _ I7 q7
    rw [xP,xw,xA,xe] at a3
    refine thn a3 fun y s8 ⟨v,H8,I8,r8,q8⟩=>?_
    obtain ⟨p1,p2,p3,p4,p5⟩:=pin7 I8
    obtain ⟨m',hm,w8⟩:=q8
    have hl:=rv.length
    refine wpAny_list_append_plain (items:=List.toArray its) ⟨k,p4⟩ (fun h' hpl hs=>?_) (by simp; lia)
    obtain ⟨k',hpl⟩:=hpl
    have I9:Inv X' [] σ6 H8 { s8 with heap:=h' }:=p5.turned (t':=s8.toks) (fun b o hb e=>hs.extBut b o hb e) p3 (by rw [xL]; exact DC) (.inr (by rw [xs]; exact Nat.le_refl _)) Dcell (fun p hp=>by rw [xpn] at hp; simp at hp)
    refine ⟨m',hm,i + 1,acc ++ [v],σ6,H8,its ++ [y],k',I9,d6,T.keep _ _ _ p1 fun b hb o e=>hs.extBut b o (fun z=>Dfp (by rw [<- z]; exact hb)) e,p2,p3,?_,rv.append (.cons r8 .nil),w8⟩
    rw [hpl]; simp
 exact codeAny_compStart_list (goal _ rfl) (T.self _ 0 _ _ _ st4 (goal _ rfl))
theorem pe_comp {wi:TI} (ok:CompOk X scope M) (hc:X.calm = true) (hi:PI X tg iter wi) (hg:∀ C s2 H2 fp,PG (cxComp X scope own M C s2 H2 fp) tg g) (ht:∀ C s2 H2 fp,PTs (cxComp X scope own M C s2 H2 fp) ifs tt)
  (he:∀ C s2 H2 fp,PE (cxComp X scope own M C s2 H2 fp) elt te) (hs:∀ x,foldedSetIterable iter X.env x = pure x:=by intro _; rfl) :
  PE X (.ListComp elt [⟨tg,iter,ifs,0⟩] scope pos) (tComp wi own.length g tt te):=by
 intro pins s σ H Q I h
 rw [eval_ListComp]
 refine wpAny_comprehension_free (use:=none) rfl hs (clos_for (ok.cells I)) ok.kind (fun x hx hl=>by rw [ok.uniq x hx,hl]) ?_
 refine thn (hi pins s σ H _ I h) fun v s1 h1=>thn h1 fun itv s2 h2=>?_
 obtain ⟨it,fp,tn,J,H2,e,I2,T,st2,f2,W,w0,turn⟩:=h2
 subst e
 refine comp_core (Qf:=Q) ok hc hg ht he I2 T st2 f2 w0 turn fun D C H' s' m IY q hm hCn c2 c1 c3 c4=>⟨m,hm,fun h' hs'=>?_⟩
 exact ⟨.ref D,H',IY.turned (t':=s'.toks) (fun b o hb e=>hs'.extBut b o hb e) hCn c2 (.inr c1) c3 c4,rfl,q⟩
theorem ps_setComp {wi:TI} {i:Nat} {x:Str} {pos' spos:Pos} (hN:X.N.Nodup) (hix:X.N[i]? = some x) (hx:Loc X.env.scope x) (ok:CompOk X scope M) (hc:X.calm = true) (hi:PI X tg iter wi) (hg:∀ C s2 H2 fp,PG (cxComp X scope own M C s2 H2 fp) tg g)
  (ht:∀ C s2 H2 fp,PTs (cxComp X scope own M C s2 H2 fp) ifs tt) (he:∀ C s2 H2 fp,PE (cxComp X scope own M C s2 H2 fp) elt te)
  (hsw:swapsWith (.ListComp elt [⟨tg,iter,ifs,0⟩] scope pos) (some (.Name x pos')) spos.line X.env = pure true:=by rfl) (hf:X.fn x = true \/ X.env.scope.names.lookup x = some .local:=by first | exact .inl rfl | exact .inr rfl | assumption)
  (hs:∀ x,foldedSetIterable iter X.env x = pure x:=by intro _; rfl):PS X (.Assign [.Name x pos'] (.ListComp elt [⟨tg,iter,ifs,0⟩] scope pos) spos) (tAsg (tComp wi own.length g tt te) (gName i)):=by
 intro pins s σ H D I h
 rw [exec_Assign_Name_used _ _ _ _ hsw]
 refine wpAny_bind (wpAny_standAt (wpAny_bind ?_))
 show wpAny _ _ (do let _ <- comprehension (.ListComp elt [⟨tg,iter,ifs,0⟩] scope pos) scope X.env _ (newList []) false (eval iter X.env) (some (assign (.Name x pos') X.env))) _ _ s
 refine wpAny_bind (thn (wpAny_comprehension_free (use:=some (assign (.Name x pos') X.env)) (Q:=fun _ s'=>SP X pins D .next s') rfl hs (clos_for (ok.cells I)) ok.kind (fun x hx hl=>by rw [ok.uniq x hx,hl]) ?_)
  fun _ s' hq=>wpAny_pure (wpAny_pure hq))
 refine thn (hi pins s σ H _ I h) fun v s1 h1=>thn h1 fun itv s2 h2=>?_
 obtain ⟨it,fp,tn,J,H2,e,I2,T,st2,f2,W,w0,turn⟩:=h2
 subst e
 refine comp_core (Qf:=fun x H1=>gName i x σ H1 D.nx) ok hc hg ht he I2 T st2 f2 w0 turn fun D' C H' s' m IY q hm hCn c2 c1 c3 c4=>?_
 show wpAny _ _ (assign (.Name x pos') X.env (.ref D')) _ _ s'
 refine wpAny_assign_Name (store_ok2 IY hN hix hx (v:=.ref D') rfl (fun s'' I'' ⟨a,hsb,ha⟩=>?_) hf)
 have hCa:C ≠ a:=by
  rcases ha with z | z
  ·rw [z]; exact c2
  ·exact fun e=>c3 x a z e.symm
 exact ⟨m,hm.sameBut hsb hCa,fun h' hs'=>⟨_,H',I''.turned (t':=s''.toks) (fun b o hb e=>hs'.extBut b o hb e) hCn c2 (.inr c1) c3 c4,q⟩⟩
end
end L2
set_option maxRecDepth 100000
namespace L2
open PySem PySem.Spec PyProof.Rows
section
variable {X:Cx} {pins:List (Addr × Obj)} {σ:St} {H:Hp} {s:Shared}
def SqB (K:PySem.W.Frag) (b:Bool) (H:Hp) (a:Addr) (xs:List V):Prop:=match b with | true=>SqL K H a xs | false=>SqT K H a xs
theorem newTup {T:Addr} {x y:V} {u v:Value} {s1:Shared} (I:Inv X pins σ H s) (I1:Inv X pins σ H s1) (hT:s.heap.objs.size <= T) (hn:H T = none) (ho:s1.heap.get? T = some { cls:=.type "tuple",data:=.seq #[u,v] }) (rx:RelV x u) (ry:RelV y v) :
  Inv X pins σ (upd H T (.tup [x,y])) s1:=by
 obtain ⟨_,f1,_,f3,f4,f5⟩:=I.fpOk (H':=H) hT hn
 exact I1.track hn (Nat.le_trans I.sz hT) f1 f4 f5 ⟨(by show 2 <= sizeLine; decide),[u,v],.cons rx (.cons ry .nil),⟨_,ho,rfl,_,rfl⟩⟩
end
end L2
set_option maxRecDepth 100000
namespace L2
open PySem PySem.Spec PyProof.Rows
section
variable {X:Cx} {pins:List (Addr × Obj)} {σ:St} {H:Hp} {s:Shared}
theorem old_of {h h':Heap} {o:Obj} (hk:∀ b x,b ∉ [h.objs.size] -> (h.push o).get? b = some x -> h'.get? b = some x):∀ b x,h.get? b = some x -> h'.get? b = some x :=
 fun b x e=>hk b x (fun z=>absurd (Heap.lt_size e) (by rw [List.mem_singleton.mp z]; exact Nat.lt_irrefl _)) (Heap.get?_push_of_some _ e)
end
end L2
set_option maxRecDepth 100000
namespace L2
open PySem PySem.Spec PyProof.Rows
end L2
namespace L2
open PySem PySem.Spec PyProof.Rows
section
variable (P:Program) (w:World)
end
section
variable {P:Program} {w:World} {H H':Hp} {h h':Heap} {a:Addr} {o:HO}
end
section
variable {P:Program} {w:World} {H:Hp} {h h':Heap} {x e:Addr} {o':HO}
end
section
variable {fs fs' ex ex':List Addr} {H H1 H2:Hp} {h h1 h2 h':Heap} {a x e:Addr} {o:HO}
end
end L2
namespace L2
open PySem PySem.Spec PyProof.Rows
section
variable {X:Cx} {pins:List (Addr × Obj)} {σ:List (Option V)} {H H':Hp} {s:Shared} {h':Heap}
end
end L2
namespace L2
open PySem PySem.Spec PyProof.Rows
section
variable {X:Cx}
variable {a b:Expr} {ta tb:TE} {pos:Pos}
variable {tA tB':TT} {rest:List Expr}
end
end L2
namespace L2
open PySem PySem.Spec PyProof.Rows
section
variable {X:Cx} {pins:List (Addr × Obj)} {σ:St} {H:Hp} {s:Shared} {a:Addr} {xs ys:List V}
end
section
variable {X:Cx} {pins:List (Addr × Obj)} {σ:St} {H:Hp} {s:Shared} {E:Value -> Shared -> Prop}
end
section
variable {X:Cx} {st:Stmt} {rest:List Stmt} {t u:TS} {e:Expr} {te:TE} {pos:Pos}
end
section
variable {X:Cx} {pos:Pos}
end
section
variable {X:Cx} {pos:Pos}
end
end L2
namespace L2
open PySem PySem.Spec PyProof.Rows
section
variable {X:Cx} {tg:Expr}
end
end L2
namespace L2
open PySem PySem.Spec PyProof.Rows
section
variable {X:Cx} {a b c:Expr} {ta tb tc:TE} {pos:Pos}
end
section
variable {X:Cx} {a b c:Expr} {ta tb tc:TE} {pos:Pos}
end
end L2
namespace L2
open PySem PySem.Spec PyProof.Rows
section
variable {prog:Program} {w:World} {A:Around} {E:Value -> Shared -> Prop} {s:Shared} {K:PySem.W.Frag} {x dx C f:Addr} {mA:Str -> Option Value} {name:Str} {v:Value}
end
section
variable {P:Program} {w:World} {H H':Hp} {h h':Heap} {a C dx:Addr} {fs fs':List (Str × V)}
end
section
variable {X:Cx} {pins:List (Addr × Obj)} {σ:St} {H:Hp} {s:Shared} {a C dx:Addr} {fs:List (Str × V)} {f:Str} {v:V} {A:Around} {E:Value -> Shared -> Prop}
end
section
variable {X:Cx} {o e value:Expr} {f:Str} {pos pos' tpos:Pos} {ta tv:TE}
end
section
variable {X:Cx} {pins:List (Addr × Obj)} {σ:St} {H:Hp} {s:Shared} {A:Around} {E:Value -> Shared -> Prop} {Q:Value -> Shared -> Prop} {c:Value} {b:Bool}
end
end L2
namespace L2
open PySem PySem.Spec PyProof.Rows
section
variable {X:Cx} {e:Expr} {es:List Expr} {te:TE} {t:TA} {pos:Pos}
end
section
variable {X:Cx} {pins:List (Addr × Obj)} {σ:St} {H:Hp} {s s':Shared}
end
section
variable {X:Cx} {CX:CXT} {k:Nat} {f C:Addr} {fd:FuncData} {ps:List Str} {sp:Sp} {dvs:List V} {ds:List Value} {E:XK} {x m:Str} {p pos apos:Pos} {e o:Expr} {es:List Expr} {ta:TE} {t:TA}
end
section
variable {X:Cx} {CX:CXT} {k:Nat} {f C:Addr} {fd:FuncData} {ps ks:List Str} {sp:Sp} {E:XK} {x m:Str} {p pos apos kpos:Pos} {e o:Expr} {es:List Expr} {kws:List Keyword} {te ta:TE} {t tk:TA} {nm:Option Str}
variable {g:List Value -> List Value -> List Value} {gV:List V -> List V -> List V}
end
end L2
namespace L2
open PySem PySem.Spec PyProof.Rows
section
variable {X:Cx} {x:Str} {p pos:Pos} {e:Expr} {es:List Expr} {t:TA} {id T:String} {r:List V -> Hp -> VK -> Prop}
end
end L2
namespace L2
open PySem PySem.Spec PyProof.Rows
section
variable {κ:Type} [DecidableEq κ]
def valV (kvs:List (κ × V)) (k:κ):Option V:=(kvs.find? fun kv=>decide (kv.1 = k)).map (·.2)
def putK (kvs:List (κ × V)) (k:κ) (v:V):List (κ × V) :=
 if (kvs.any fun kv=>decide (kv.1 = k)) = true then kvs.map (fun kv=>if kv.1 = k then (kv.1,v) else kv) else kvs ++ [(k,v)]
def dropK (kvs:List (κ × V)) (k:κ):List (κ × V):=kvs.filter fun kv=>decide (kv.1 ≠ k)
theorem valV_pos {p:κ × V} {r:List (κ × V)} {k:κ} (e:p.1 = k):valV (p :: r) k = some p.2:=by simp [valV,List.find?_cons,e]
theorem valV_neg {p:κ × V} {r:List (κ × V)} {k:κ} (e:¬ p.1 = k):valV (p :: r) k = valV r k:=by simp [valV,List.find?_cons,e]
theorem valV_any (k:κ):∀ kvs:List (κ × V),(kvs.any fun kv=>decide (kv.1 = k)) = (valV kvs k).isSome
 | []=>rfl
 | p :: r=>by
  rw [List.any_cons]
  by_cases e:p.1 = k
  ·simp only [valV_pos e,decide_eq_true e,Bool.true_or,Option.isSome_some]
  ·rw [valV_neg e,decide_eq_false e,Bool.false_or]; exact valV_any k r
theorem length_putK (kvs:List (κ × V)) (k:κ) (v:V):(putK kvs k v).length <= kvs.length + 1:=by
 unfold putK
 split
 ·rw [List.length_map]; lia
 ·rw [List.length_append,List.length_cons,List.length_nil]; lia
theorem RelO.isSome_eq {o:Option V} {u:Option Value} (r:RelO o u):o.isSome = u.isSome:=by
 cases o with
 | none=>cases u with
  | none=>rfl
  | some _=>exact (show False from r).elim
 | some _=>cases u with
  | none=>exact (show False from r).elim
  | some _=>rfl
theorem KV.val {kvs:List (κ × V)} {vs:List (κ × Value)} (r:KV kvs vs) (k:κ):RelO (valV kvs k) (valueAt vs k):=by
 unfold KV at r
 induction r with
 | nil=>exact True.intro
 | @cons p q ps qs h t ih =>
  obtain ⟨h1,h2⟩:=h
  by_cases e:p.1 = k
  ·have e' : q.1 = k := h1.symm.trans e
   have b:valueAt (q :: qs) k = some q.2:=by simp [valueAt,List.find?_cons,e']
   rw [valV_pos e,b]; exact h2
  ·have e' : ¬ q.1 = k := fun z => e (h1.trans z)
   have b:valueAt (q :: qs) k = valueAt qs k:=by simp [valueAt,List.find?_cons,e']
   rw [valV_neg e,b]; exact ih
theorem KV.any {kvs:List (κ × V)} {vs:List (κ × Value)} (r:KV kvs vs) (k:κ):(kvs.any fun kv=>decide (kv.1 = k)) = vs.any fun kv=>decide (kv.1 = k):=by
 unfold KV at r
 induction r with
 | nil=>rfl
 | cons h t ih=>rw [List.any_cons,List.any_cons,ih,h.1]
theorem KV.repl {kvs:List (κ × V)} {vs:List (κ × Value)} (r:KV kvs vs) (k:κ) {y:V} {u:Value} (ry:RelV y u) :
  KV (kvs.map fun kv=>if kv.1 = k then (kv.1,y) else kv) (vs.map fun kv=>if kv.1 = k then (kv.1,u) else kv):=by
 unfold KV at r ⊢
 induction r with
 | nil=>exact .nil
 | @cons p q ps qs h t ih =>
  rw [List.map_cons,List.map_cons]
  refine .cons ?_ ih
  obtain ⟨h1,h2⟩:=h
  by_cases e:p.1 = k
  ·rw [if_pos e,if_pos (h1.symm.trans e)]; exact ⟨h1,ry⟩
  ·rw [if_neg e,if_neg (fun z=>e (h1.trans z))]; exact ⟨h1,h2⟩
theorem KV.put {kvs:List (κ × V)} {vs:List (κ × Value)} (r:KV kvs vs) (k:κ) {y:V} {u:Value} (ry:RelV y u):KV (putK kvs k y) (stored vs k u):=by
 unfold putK stored
 rw [r.any k]
 by_cases e:(vs.any fun kv=>decide (kv.1 = k)) = true
 ·rw [if_pos e,if_pos e]; exact r.repl k ry
 ·rw [if_neg e,if_neg e]; exact Paired.snoc r ⟨rfl,ry⟩
theorem KV.drop {kvs:List (κ × V)} {vs:List (κ × Value)} (r:KV kvs vs) (k:κ):KV (dropK kvs k) (without vs k):=by
 unfold KV at r ⊢
 unfold dropK without
 induction r with
 | nil=>exact .nil
 | @cons p q ps qs h t ih =>
  obtain ⟨h1,h2⟩:=h
  rw [List.filter_cons,List.filter_cons]
  by_cases e:p.1 = k
  ·have a : ¬ decide (p.1 ≠ k) = true := by simp [e]
   have b:¬ decide (q.1 ≠ k) = true:=by simp [h1.symm.trans e]
   rw [if_neg a,if_neg b]; exact ih
  ·have e' : ¬ q.1 = k := fun z => e (h1.trans z)
   have a:decide (p.1 ≠ k) = true:=by simp [e]
   have b:decide (q.1 ≠ k) = true:=by simp [e']
   rw [if_pos a,if_pos b]; exact .cons ⟨h1,h2⟩ ih
theorem KV.length {kvs:List (κ × V)} {vs:List (κ × Value)} (r:KV kvs vs):kvs.length = vs.length:=Paired.length r
theorem dropK_le (kvs:List (κ × V)) (k:κ):(dropK kvs k).length <= kvs.length:=List.length_filter_le _ _
end
theorem kV_is {P:Program} {w:World} {k:Key} {u:Value} (r:RelV (kV k) u):(mixKind P w).is k u = true:=by
 cases k with
 | inl i=>obtain ⟨t,e⟩:=(show ∃ t,u = Value.int i t from r); subst e; exact mixKind_int P w i t
 | inr x=>obtain ⟨t,e⟩:=(show ∃ t,u = Value.str x t from r); subst e; exact mixKind_str P w x t
theorem items_are {P:Program} {w:World}:∀ {ks:List Key} {us:List Value},Vals (ks.map kV) us -> ItemsAre (mixKind P w) ks us
 | [],_,r=>by rw [List.map_nil] at r; cases r; exact .nil
 | k :: ks,_,r=>by
  rw [List.map_cons] at r
  cases r with
  | cons h t=>exact .cons (kV_is h) (items_are t)
abbrev KT (H:Hp):List (List Key × V) -> List (List Key × Addr × Value) -> Prop:=Paired fun p q=>p.1 = q.1 /\ H q.2.1 = some (.tup (p.1.map kV)) /\ RelV p.2 q.2.2
theorem KT.val {H:Hp} {kvs:List (List Key × V)} {xs:List (List Key × Addr × Value)} (r:KT H kvs xs) (k:List Key):RelO (valV kvs k) ((atKey xs k).map (·.2)):=by
 induction r with
 | nil=>exact True.intro
 | @cons p q ps qs h t ih =>
  obtain ⟨h1,_,h2⟩:=h
  by_cases e:p.1 = k
  ·have e' : q.1 = k := h1.symm.trans e
   have b:atKey (q :: qs) k = some q.2:=by simp [atKey,List.find?_cons,e']
   rw [valV_pos e,b]; exact h2
  ·have e' : ¬ q.1 = k := fun z => e (h1.trans z)
   have b:atKey (q :: qs) k = atKey qs k:=by simp [atKey,List.find?_cons,e']
   rw [valV_neg e,b]; exact ih
theorem KT.repl {H:Hp} {kvs:List (List Key × V)} {xs:List (List Key × Addr × Value)} (r:KT H kvs xs) (k:List Key) {y:V} {u:Value} (ry:RelV y u) :
  KT H (kvs.map fun kv=>if kv.1 = k then (kv.1,y) else kv) (xs.map (putAt k u)):=by
 induction r with
 | nil=>exact .nil
 | @cons p q ps qs h t ih =>
  rw [List.map_cons,List.map_cons]
  refine .cons ?_ ih
  obtain ⟨h1,h2,h3⟩:=h
  unfold putAt
  by_cases e:p.1 = k
  ·rw [if_pos e,if_pos (h1.symm.trans e)]; exact ⟨h1,h2,ry⟩
  ·rw [if_neg e,if_neg (fun z=>e (h1.trans z))]; exact ⟨h1,h2,h3⟩
theorem KT.put {H:Hp} {kvs:List (List Key × V)} {xs:List (List Key × Addr × Value)} (r:KT H kvs xs) (k:List Key) {b:Addr} {y:V} {u:Value} (hb:H b = some (.tup (k.map kV))) (ry:RelV y u) :
  KT H (putK kvs k y) (storedH xs k b u):=by
 have e:(kvs.any fun kv=>decide (kv.1 = k)) = (atKey xs k).isSome:=by
  rw [valV_any,(r.val k).isSome_eq,Option.isSome_map]
 unfold putK storedH
 rw [e]
 by_cases q:(atKey xs k).isSome = true
 ·rw [if_pos q,if_pos q]; exact r.repl k ry
 ·rw [if_neg q,if_neg q]; exact Paired.snoc r ⟨rfl,hb,ry⟩
theorem KT.keeps {H H':Hp} {kvs:List (List Key × V)} {xs:List (List Key × Addr × Value)} (r:KT H kvs xs) (ht:∀ b ys,H b = some (.tup ys) -> H' b = some (.tup ys)):KT H' kvs xs :=
 Paired.mapP r fun _ _ z=>⟨z.1,ht _ _ z.2.1,z.2.2⟩
section
variable {P:Program} {w:World} {H:Hp} {h:Heap} {a:Addr}
theorem rd_of {u:HO} (ok:HOk P w H h) (e:Rd H a u):ObjOk P w H h a u:=e.ok ok
theorem dk_rd {kvs:List (Key × V)} (ok:HOk P w H h) (e:Rd H a (.dK kvs)):kvs.length <= sizeLine /\ (a == sysModules) = false /\ ∃ vs,KV kvs vs /\ h.DictOf (mixKind P w) a vs :=
 show ObjOk P w H h a (.dK kvs) from rd_of ok e
theorem dk_of {kvs:List (Key × V)} (ok:HOk P w H h) (e:H a = some (.dK kvs)):kvs.length <= sizeLine /\ (a == sysModules) = false /\ ∃ vs,KV kvs vs /\ h.DictOf (mixKind P w) a vs:=dk_rd ok (.inl e)
theorem key_of {ks:List Key} (ok:HOk P w H h) (e:H a = some (.tup (ks.map kV))):(tupleKind (mixKind P w)).is h ks a:=by
 obtain ⟨_,its,r,o,h1,h2,n,h3⟩:=(show ObjOk P w H h a (.tup (ks.map kV)) from ok a _ e)
 exact ⟨o,its.toArray,n,h1,h2,h3,by simpa using items_are r⟩
theorem dt_rd {kvs:List (List Key × V)} (ok:HOk P w H h) (e:Rd H a (.dT kvs)):kvs.length <= sizeLine /\ (a == sysModules) = false /\
  ∃ xs,KT H kvs xs /\ h.DictOfH (tupleKind (mixKind P w)) a xs:=by
 obtain ⟨z,y,xs,r,o,es,ep,h1,h2,h3,h4,h5⟩:=(show ObjOk P w H h a (.dT kvs) from rd_of ok e)
 refine ⟨z,y,xs,r,o,es,ep,h1,h2,h3,h4,fun x hx=>?_,h5⟩
 have all:∀ {l:List (List Key × V)} {m:List (List Key × Addr × Value)},KT H l m -> ∀ x ∈ m,(tupleKind (mixKind P w)).is h x.1 x.2.1:=by
  intro l m q
  induction q with
  | nil=>intro x hx; exact nomatch hx
  | @cons p q ps qs hq t ih =>
   intro x hx
   rcases List.mem_cons.mp hx with e | hx
   ·subst e
    exact key_of ok (by rw [<- hq.1]; exact hq.2.1)
   ·exact ih x hx
 exact all r x hx
theorem dt_of {kvs:List (List Key × V)} (ok:HOk P w H h) (e:H a = some (.dT kvs)):kvs.length <= sizeLine /\ (a == sysModules) = false /\
  ∃ xs,KT H kvs xs /\ h.DictOfH (tupleKind (mixKind P w)) a xs:=dt_rd ok (.inl e)
end
def DGet (H:Hp) (a:Addr) (y:V) (r:Option V):Prop :=
 (∃ kvs k,Rd H a (.dK kvs) /\ y = kV k /\ r = valV kvs k) \/ ∃ kvs k b,Rd H a (.dT kvs) /\ y = .ref b /\ H b = some (.tup (k.map kV)) /\ r = valV kvs k
def DPut (H:Hp) (a:Addr) (y v:V) (H':Hp):Prop :=
 (∃ kvs k,H a = some (.dK kvs) /\ y = kV k /\ kvs.length < sizeLine /\ H' = upd H a (.dK (putK kvs k v))) \/
 ∃ kvs k b,H a = some (.dT kvs) /\ y = .ref b /\ H b = some (.tup (k.map kV)) /\ kvs.length < sizeLine /\ H' = upd H a (.dT (putK kvs k v))
theorem DGet.k {H:Hp} {a:Addr} {kvs:List (Key × V)} {k:Key} (e:H a = some (.dK kvs)):DGet H a (kV k) (valV kvs k):=.inl ⟨kvs,k,.inl e,rfl,rfl⟩
theorem DPut.k {H:Hp} {a:Addr} {kvs:List (Key × V)} {k:Key} {v:V} (e:H a = some (.dK kvs)) (hl:kvs.length < sizeLine):DPut H a (kV k) v (upd H a (.dK (putK kvs k v))):=.inl ⟨kvs,k,e,rfl,hl,rfl⟩
section
variable {X:Cx} {pins:List (Addr × Obj)} {σ:St} {H:Hp} {s:Shared} {a:Addr} {y v:V} {u r:Value} {o:Option V} {A:Around} {E:Value -> Shared -> Prop}
theorem Inv.big (I:Inv X pins σ H s):sysModules < s.heap.objs.size:=by
 have h:mainGlobals < s.heap.objs.size:=(I.mod.glob.keeps I.bk).lt
 exact Nat.lt_trans (by decide) h
theorem d_getItem {Q:Value -> Shared -> Prop} (hu:A.units + 1 < cLine) (I:Inv X pins σ H s) (g:DGet H a y (some v)) (ry:RelV y u) (h:∀ w' s',Inv X pins σ H s' -> RelV v w' -> Q w' s') :
  wpAny (model X.prog X.w) A (getItem (.ref a) u) Q E s:=by
 rcases g with ⟨kvs,k,e,ey,l⟩ | ⟨kvs,k,b,e,ey,eb,l⟩
 ·subst ey
  obtain ⟨z,hd,vs,rel,dd⟩:=dk_rd I.hok e
  obtain ⟨w',hw,rw'⟩:=RelO.some_of (v:=v) (o:=valueAt vs k) (by rw [l]; exact rel.val k)
  exact wpAny_getItem_of (kV_is ry) dd.mapOf hw (h w' _ (I.tok _) rw')
 ·subst ey
  cases (show u = Value.ref b from ry)
  obtain ⟨z,hd,xs,rel,dd⟩:=dt_rd I.hok e
  obtain ⟨w',hw,rw'⟩:=RelO.some_of (v:=v) (o:=(atKey xs k).map (·.2)) (by rw [l]; exact rel.val k)
  obtain ⟨p,hp,hp2⟩:=Option.map_eq_some_iff.mp hw
  refine wpAny_getItem_heap (tupleKind_room_in1 hu) (key_of I.hok eb) dd hp ?_
  rw [hp2]
  exact h w' _ (I.tok _) rw'
theorem d_in {Q:Value -> Shared -> Prop} (hu:A.units + 1 < cLine) (I:Inv X pins σ H s) (g:DGet H a y o) (ry:RelV y u) (h:∀ s',Inv X pins σ H s' -> Q (.bool o.isSome) s') :
  wpAny (model X.prog X.w) A (compareOp .In u (.ref a)) Q E s:=by
 rcases g with ⟨kvs,k,e,ey,l⟩ | ⟨kvs,k,b,e,ey,eb,l⟩
 ·subst ey
  obtain ⟨z,hd,vs,rel,dd⟩:=dk_rd I.hok e
  refine wpAny_in_of (kV_is ry) hd dd.mapOf ?_
  rw [<- (rel.val k).isSome_eq,<- l]
  exact h _ (I.tok _)
 ·subst ey
  cases (show u = Value.ref b from ry)
  obtain ⟨z,hd,xs,rel,dd⟩:=dt_rd I.hok e
  refine wpAny_in_heap (tupleKind_room_in1 hu) (key_of I.hok eb) hd dd ?_
  have q:=(rel.val k).isSome_eq
  rw [Option.isSome_map] at q
  rw [<- q,<- l]
  exact h _ (I.tok _)
theorem d_notIn {Q:Value -> Shared -> Prop} (hu:A.units + 1 < cLine) (I:Inv X pins σ H s) (g:DGet H a y o) (ry:RelV y u) (h:∀ s',Inv X pins σ H s' -> Q (.bool (!o.isSome)) s') :
  wpAny (model X.prog X.w) A (compareOp .NotIn u (.ref a)) Q E s:=by
 rcases g with ⟨kvs,k,e,ey,l⟩ | ⟨kvs,k,b,e,ey,eb,l⟩
 ·subst ey
  obtain ⟨z,hd,vs,rel,dd⟩:=dk_rd I.hok e
  refine wpAny_notIn_of (kV_is ry) hd dd.mapOf ?_
  rw [<- (rel.val k).isSome_eq,<- l]
  exact h _ (I.tok _)
 ·subst ey
  cases (show u = Value.ref b from ry)
  obtain ⟨z,hd,xs,rel,dd⟩:=dt_rd I.hok e
  refine wpAny_notIn_heap (tupleKind_room_in1 hu) (key_of I.hok eb) hd dd ?_
  have q:=(rel.val k).isSome_eq
  rw [Option.isSome_map] at q
  rw [<- q,<- l]
  exact h _ (I.tok _)
theorem d_write {h':Heap} {t':Nat} {ob:HO} (I:Inv X pins σ H s) (mu:Mut (H a)) (hs:Heap.SameBut a s.heap h') (he:∃ q,h'.get? a = some q) (new:ObjOk X.prog X.w (upd H a ob) h' a ob) :
  Inv X pins σ (upd H a ob) { s with heap:=h',toks:=t' } :=
 I.write (x:=a) (e:=a) mu (.inl rfl) (fun b q hb z=>(hs.2 b hb).trans z) he new
theorem dk_new {P:Program} {w:World} {H':Hp} {h':Heap} {kvs:List (Key × V)} {vs:List (Key × Value)} (z:kvs.length <= sizeLine) (hd:(a == sysModules) = false) (rel:KV kvs vs) (dd:h'.DictOf (mixKind P w) a vs) :
  ObjOk P w H' h' a (.dK kvs):=⟨z,hd,vs,rel,dd⟩
theorem d_setItem {H':Hp} {Q:Unit -> Shared -> Prop} (hu:A.units + 1 < cLine) (I:Inv X pins σ H s) (g:DPut H a y v H') (ry:RelV y u) (rv:RelV v r) (h:∀ s',Inv X pins σ H' s' -> Q () s') :
  wpAny (model X.prog X.w) A (setItem (.ref a) u r) Q E s:=by
 rcases g with ⟨kvs,k,e,ey,l,eH⟩ | ⟨kvs,k,b,e,ey,eb,l,eH⟩
 ·subst ey eH
  obtain ⟨z,hd,vs,rel,dd⟩:=dk_of I.hok e
  have hz:vs.length <= sizeLine:=by rw [<- rel.length]; exact z
  have hl:(putK kvs k v).length <= sizeLine:=by have:=length_putK kvs k v; lia
  refine wpAny_setItem_pairs (hsz:=hz) (kV_is ry) dd fun h' dd' hs=>h _ ?_
  have he:∃ q,h'.get? a = some q:=let ⟨q,_,_,hq,_⟩:=dd'; ⟨q,hq⟩
  exact d_write I (by rw [e]; exact True.intro) hs he (dk_new hl hd (rel.put k rv) dd')
 ·subst ey eH
  cases (show u = Value.ref b from ry)
  obtain ⟨z,hd,xs,rel,dd⟩:=dt_of I.hok e
  have hz:xs.length <= sizeLine:=by rw [<- Paired.length rel]; exact z
  have hl:(putK kvs k v).length <= sizeLine:=by have:=length_putK kvs k v; lia
  refine wpAny_setItem_heap (hsz:=hz) (tupleKind_room_in1 hu) (key_of I.hok eb) dd fun h' dd' hs=>h _ ?_
  obtain ⟨q,es,ep,hq,h2,h3,h4,_,h5⟩:=dd'
  refine d_write I (by rw [e]; exact True.intro) hs ⟨q,hq⟩ ⟨hl,hd,_,(rel.put k eb rv).keeps fun c ys ec=>?_,q,es,ep,hq,h2,h3,h4,h5⟩
  rw [upd_ne (ne_of ec e (fun z=>nomatch z))]
  exact ec
end
section
variable {X:Cx} {pins:List (Addr × Obj)} {σ:St} {H:Hp} {s:Shared} {a:Addr} {kvs:List (Key × V)} {k:Key} {u:Value} {A:Around} {E:Value -> Shared -> Prop}
theorem d_pop {v:V} {more:List Value} {Q:Value -> Shared -> Prop} (I:Inv X pins σ H s) (e:H a = some (.dK kvs)) (ry:RelV (kV k) u) (l:valV kvs k = some v) (hm:more = [] \/ ∃ x,more = [x])
  (h:∀ w' s',Inv X pins σ (upd H a (.dK (dropK kvs k))) s' -> RelV v w' -> Q w' s'):wpAny (model X.prog X.w) A (call (.builtin "dict.pop") (.ref a :: u :: more)) Q E s:=by
 obtain ⟨z,hd,vs,rel,dd⟩:=dk_of I.hok e
 obtain ⟨w',hw,rw'⟩:=RelO.some_of (v:=v) (o:=valueAt vs k) (by rw [<- l]; exact rel.val k)
 have hp:(keyPart u).isSome = true:=by
  cases k with
  | inl i=>obtain ⟨t,q⟩:=(show ∃ t,u = Value.int i t from ry); subst q; rfl
  | inr x=>obtain ⟨t,q⟩:=(show ∃ t,u = Value.str x t from ry); subst q; rfl
 have ha:argsOk "dict.pop" ⟨.ref a :: u :: more,[]⟩:=by
  rcases hm with q | ⟨x,q⟩
  ·subst q; exact PySem.F.args_dict_pop_2 _ _
  ·subst q; exact PySem.F.args_dict_pop_3 _ _ _
 refine call_meetsIn PySem.F.slot_dict_pop dd.typeIs PySem.F.entry_dict_pop ha (meets_dict_pop_there (mixKind X.prog X.w) a (kV_is ry) more hm hp)
  ⟨vs,w',dd,by rw [<- rel.length]; exact z,hw,fun h' dd' hs=>h w' _ ?_ rw'⟩
 have he:∃ q,h'.get? a = some q:=let ⟨q,_,_,hq,_⟩:=dd'; ⟨q,hq⟩
 exact d_write I (by rw [e]; exact True.intro) hs he (dk_new (Nat.le_trans (dropK_le kvs k) z) hd (rel.drop k) dd')
theorem d_len {Q:Value -> Shared -> Prop} (I:Inv X pins σ H s) (e:Rd H a (.dK kvs)) (h:∀ t s',Inv X pins σ H s' -> Q (.int kvs.length t) s'):wpAny (model X.prog X.w) A (call (.builtin "len") [.ref a]) Q E s:=by
 obtain ⟨z,hd,vs,rel,dd⟩:=dk_rd I.hok e
 refine call_len_dict hd dd (by rw [<- rel.length]; rw [sizeLine_eq] at z; lia) ?_
 rw [<- rel.length]
 exact h _ _ (I.tok _)
end
def NoSl (i:Expr):Prop:=∀ ov iv,subscripted i false ov iv = operate [ov,iv] (getItem ov iv)
theorem subD_of {prog:Program} {w:World} {A:Around} {E:Value -> Shared -> Prop} {s:Shared} {env:Env} {value slice:Expr} {pos:Pos} {T id:String} {Q:Value -> Shared -> Prop}
  (hl:typeLookup (.type T) "__getitem__" = pure (some (.builtin id))) (hs:NoSl slice)
  (h:wpAny (model prog w) A (eval value env) (fun o s₁=>wpAny (model prog w) A (eval slice env) (fun i s₂=>s₂.TypeIs o T /\ wpAny (model prog w) A (getItem o i) Q E s₂) E s₁) E s) :
  wpAny (model prog w) A (eval (.Subscript value slice pos) env) Q E s:=by
 refine Subscript_ (wpAny_mono h (fun o s₁ h₁=>wpAny_mono h₁ (fun i s₂ h₂=>?_) fun _ _ x=>x) fun _ _ x=>x)
 obtain ⟨hT,h₂⟩:=h₂
 unfold subscriptTail
 refine wpAny_bind ?_
 rw [getitemInPython_of_ne hT.not_modules]
 refine wpAny_bind (wpAny_specialOf hT hl ?_)
 have fin:wpAny (model prog w) A (subscripted slice false o i) (fun r s₃=>wpAny (model prog w) A (letTemporaryGo value o r >>= fun _=>pure r) Q E s₃) E s₂:=by
  rw [hs o i]
  exact wpAny_operating (wpAny_mono h₂ (fun r s₃ h₃=>wpAny_bind (wpAny_letTemporaryGo (wpAny_pure h₃))) fun _ _ x=>x)
 first
  | exact wpAny_pure (wpAny_bind fin)
  | exact wpAny_bind (wpAny_pure (wpAny_bind fin))
  | exact wpAny_bind fin
theorem dict_typeIs {X:Cx} {pins:List (Addr × Obj)} {σ:St} {H:Hp} {s:Shared} {a:Addr} {y:V} {o:Option V} (I:Inv X pins σ H s) (g:DGet H a y o):s.TypeIs (.ref a) "dict" := by
 rcases g with ⟨kvs,k,e,_,_⟩ | ⟨kvs,k,b,e,_,_,_⟩
 ·obtain ⟨_, _, vs, _, dd⟩ := dk_rd I.hok e
  exact dd.typeIs
 ·obtain ⟨_, _, xs, _, dd⟩ := dt_rd I.hok e
  exact dd.typeIs
def tDGet (td ty:TE):TE:=fun σ H Q=>td σ H fun x H1=>ty σ H1 fun y H2=>∃ a v,x = .ref a /\ DGet H2 a y (some v) /\ Q v H2
def sDPut (td ty tv:TE):TS:=fun D σ H=>tv σ H fun v H1=>td σ H1 fun x H2=>ty σ H2 fun y H3=>∃ a H4,x = .ref a /\ DPut H3 a y v H4 /\ D.nx σ H4
section
variable {X:Cx} {o i e value:Expr} {pos pos' tpos:Pos} {td ty tv:TE}
theorem pe_dget (hu:X.A.units + 1 < cLine) (ho:PE X o td) (hi:PE X i ty) (hs:NoSl i):PE X (.Subscript o i pos) (tDGet td ty):=by
 intro pins s σ H Q I h
 refine subD_of PySem.F.slot_dict_getitem.lookup hs (thn (ho pins s σ H _ I h) fun u s1 ⟨x,H1,I1,rx,q1⟩=>thn (hi pins s1 σ H1 _ I1 q1) fun iv s2 ⟨y,H2,I2,ry,a,v,ex,g,q2⟩=>?_)
 subst ex
 obtain rfl:u = Value.ref a:=rx
 exact ⟨dict_typeIs I2 g,d_getItem hu I2 g ry fun w' s3 I3 rw'=>⟨v,H2,I3,rw',q2⟩⟩
theorem ps_dput (hu:X.A.units + 1 < cLine) (ho:PE X o td) (hi:PE X i ty) (hv:PE X value tv) (hs:swapsWith value (some (.Subscript o i pos')) pos.line X.env = pure false) :
  PS X (.Assign [.Subscript o i pos'] value pos) (sDPut td ty tv):=by
 intro pins s σ H D I h
 refine wpAny_Assign_Subscript (thn (hv pins s σ H _ I h) fun r s1 ⟨v,H1,I1,rv,q1⟩=>thn (ho pins s1 σ H1 _ I1 q1) fun u s2 ⟨x,H2,I2,rx,q2⟩=>thn (hi pins s2 σ H2 _ I2 q2) fun iv s3 ⟨y,H3,I3,ry,a,H4,ex,g,q3⟩=>?_) hs
 subst ex
 obtain rfl:u = Value.ref a:=rx
 exact d_setItem hu I3 g ry rv fun s4 I4=>⟨σ,H4,I4,q3⟩
end
theorem dk_empty {P:Program} {w:World} {H:Hp} (h:Heap) (hb:sysModules < h.objs.size):ObjOk P w H (h.push { cls:=.type "dict",data:=.dict #[] }) h.objs.size (.dK []) :=
 ⟨Nat.zero_le _,beq_eq_false_iff_ne.mpr (Ne.symm (Nat.ne_of_lt hb)),[],.nil,Heap.DictOf.new h⟩
def tDNewK:TE:=fun _ H Q=>∀ p,H p = none -> Q (.ref p) (upd H p (.dK []))
section
variable {X:Cx} {pos:Pos}
theorem pe_dnewK:PE X (.Dict [] [] pos) tDNewK:=fun pins s σ H Q I h =>
 wpAny_Dict_empty ⟨.ref s.heap.objs.size,_,I.laid (a:=s.heap.objs.size) (o:=.dK []) (t':=s.toks) (fun _ _ q=>Heap.get?_push_of_some _ q) (Nat.le_refl _) (dk_empty s.heap I.big),rfl,h _ (I.hok.fresh (Nat.le_refl _))⟩
end
structure M1 (X:Cx) (o:Expr) (m:Str) (apos:Pos) (e:Expr) (cpos:Pos):Prop where
 base:attributeBase o m X.env (eval o X.env) = eval o X.env
 few:((backTo cpos (starEach [e] X.env)).all (fun x=>!x.1) && (backToKw cpos (keywordEach [] X.env)).all (fun x=>x.1.isSome)
  && decide (([e]:List Expr).length + ([]:List Keyword).length + (if ([]:List Keyword).isEmpty then 0 else 1) < 30)) = true
 line:(apos.endLine == cpos.line) = true
 trees:backTo cpos (starEach [e] X.env) = [(false,eval e X.env)]
def IsD (H:Hp) (a:Addr):Prop:=(∃ kvs,Rd H a (.dK kvs)) \/ ∃ kvs,Rd H a (.dT kvs)
theorem isD_at {X:Cx} {pins:List (Addr × Obj)} {σ:St} {H:Hp} {s:Shared} {a:Addr} (I:Inv X pins σ H s) (d:IsD H a) :
  s.TypeIs (.ref a) "dict" /\ (∀ b,Value.ref a = .ref b -> ∃ ob,s.heap.get? b = some ob /\ ob.dict = none) /\ (a == sysModules) = false:=by
 rcases d with ⟨kvs,e⟩ | ⟨kvs,e⟩
 ·obtain ⟨_, hd, vs, _, dd⟩ := dk_rd I.hok e
  refine ⟨dd.typeIs,fun b q=>?_,hd⟩
  cases q
  obtain ⟨ob,_,_,h1,h2,_⟩:=dd
  exact ⟨ob,h1,h2.2.1⟩
 ·obtain ⟨_, hd, xs, _, dd⟩ := dt_rd I.hok e
  refine ⟨dd.typeIs,fun b q=>?_,hd⟩
  cases q
  obtain ⟨ob,_,_,h1,h2,_⟩:=dd
  exact ⟨ob,h1,h2.2.1⟩
section
variable {X:Cx} {pins:List (Addr × Obj)} {σ:St} {H:Hp} {s:Shared} {a:Addr} {y d:V} {u r:Value} {o:Option V} {A:Around} {E:Value -> Shared -> Prop}
end
def tDPop1 (td ty:TE):TE:=fun σ H Q=>td σ H fun x H1=>∃ a,x = .ref a /\ IsD H1 a /\ ty σ H1 fun y H2=>∃ kvs k v,H2 a = some (.dK kvs) /\ y = kV k /\ valV kvs k = some v /\ Q v (upd H2 a (.dK (dropK kvs k)))
section
variable {X:Cx} {o e f:Expr} {apos cpos:Pos} {td ty tx:TE}
theorem pe_dpop1 (ho:PE X o td) (he:PE X e ty) (m:M1 X o "pop" apos e cpos):PE X (.Call (.Attribute o "pop" apos) [e] [] cpos) (tDPop1 td ty):=by
 intro pins s σ H Q I h
 refine wpAny_Call_method m.base m.few m.line PySem.F.plainAttrs_dict PySem.F.slot_dict_pop PySem.F.type_dict_pop (thn (ho pins s σ H _ I h) fun u s1 ⟨x,H1,I1,rx,a,ex,d,q1⟩=>?_)
 subst ex
 obtain rfl:u = Value.ref a:=rx
 obtain ⟨t1,t2,_⟩:=isD_at I1 d
 refine ⟨t1,t2,?_⟩
 rw [m.trees]
 refine Calls.callWith_builtin rfl (Calls.evalArgs_plain (Calls.spliced_cons (thn (he pins s1 σ H1 _ I1 q1) fun iv s2 ⟨y,H2,I2,ry,kvs,k,v,ea,ey,l,q2⟩=>Calls.spliced_nil ?_)))
 subst ey
 exact d_pop I2 ea ry l (.inl rfl) fun w' s3 I3 rw'=>⟨v,_,I3,rw',q2⟩
end
section
variable {X:Cx} {pins:List (Addr × Obj)} {σ:St} {H:Hp} {s:Shared} {a:Addr} {kvs:List (Key × V)} {A:Around} {E:Value -> Shared -> Prop}
end
section
variable {X:Cx} {pins:List (Addr × Obj)} {σ:St} {H:Hp} {s:Shared} {a:Addr} {y:V} {u:Value} {A:Around} {E:Value -> Shared -> Prop}
end
end L2
namespace Att
open PySem PySem.W PySem.Calls PyProof.Rows
section
variable {prog:Program} {w:World} {A:Around} {E:Value -> Shared -> Prop} {s:Shared} {K:Frag}
end
end Att
namespace L2
open PySem PySem.Spec PyProof.Rows
end L2
namespace L2
open PySem PySem.Spec PyProof.Rows
end L2
namespace L2
open PySem PySem.Spec PyProof.Rows
section
variable {P:Program} {w:World} {K:PySem.W.Frag} {mg:Str -> Option Value} {base:Heap}
end
section
variable {X:Cx}
theorem call_lenD:CallR X (.builtin "len") (fun xs H Q=>∃ a kvs,xs = [V.ref a] /\ H a = some (.dK kvs) /\ Q (.int kvs.length) H):=by
 intro pins s σ H xs us Q I r h
 obtain ⟨a,kvs,rfl,ha,q⟩:=h
 obtain ⟨u,rfl,ru⟩:=vals1 r
 cases ru
 exact d_len I (.inl ha) fun t s' I'=>⟨.int kvs.length,H,I',⟨t,rfl⟩,q⟩
end
section
variable {κ:Type} [DecidableEq κ]
theorem dropK_pos {p:κ × V} {r:List (κ × V)} {k:κ} (e:p.1 = k):dropK (p :: r) k = dropK r k:=by
 unfold dropK
 rw [List.filter_cons,if_neg (by simp [e])]
theorem dropK_neg {p:κ × V} {r:List (κ × V)} {k:κ} (e:¬ p.1 = k):dropK (p :: r) k = p :: dropK r k:=by
 unfold dropK
 rw [List.filter_cons,if_pos (by simp [e])]
end
end L2
set_option maxRecDepth 100000
namespace L2
open PySem PySem.Spec PyProof.Rows
section
variable {prog:Program} {w:World} {A:Around} {R:Result -> Shared -> Prop} {s:Shared}
theorem dcomp_loop {kx vx target iter:Expr} {ifs:List Expr} {scope:Scope} {pos:Pos} {it:Value} {D:Addr} {env:Env} (J:Nat -> Shared -> Prop)
  (turn : ∀ n s, J n s -> wpAny (model prog w) A (pyNext it) (fun r s1 => match r with
   | none=>R (.ok .next) s1
   | some v => wpAny (model prog w) A (letOwnedTupleGo target it v) (fun _ s2 => wpAny (model prog w) A (assign target env v) (fun _ s3 => wpAny (model prog w) A (cTests ifs env) (fun ok s4 =>
     if ok = true then wpAny (model prog w) A (eval kx env) (fun kv s5=>wpAny (model prog w) A (eval vx env) (fun vv s6=>wpAny (model prog w) A (dictSet D kv vv) (fun _ s7=>∃ m,m < n /\ J m s7) (fun _ _=>False) s6) (fun _ _=>False) s5) (fun _ _=>False) s4
     else ∃ m,m < n /\ J m s4) (fun _ _=>False) s3) (fun _ _=>False) s2) (fun _ _=>False) s1) (fun _ _=>False) s)
  (n:Nat) (h:J n s):codeAny (model prog w) A (.compLoop (.DictComp kx vx [⟨target,iter,ifs,0⟩] scope pos) 0 it (.ref D) env) R s:=by
 refine codeAny_loop rfl J (fun n s hJ=>?_) n h
 show wpAny _ A ((compTurn (.DictComp kx vx [⟨target,iter,ifs,0⟩] scope pos) 0 it (.ref D) env).onRaise (fun x=>do noteFrame x env; theTreesLotGoes x)) _ _ s
 refine wpAny_noted ?_
 rw [compTurn_dict]
 have up:∀ {α:Type} {t:Sem α} {Q Q':α -> Shared -> Prop} {E:Value -> Shared -> Prop} {s:Shared},wpAny (model prog w) A t Q (fun _ _=>False) s -> (∀ a s,Q a s -> Q' a s) -> wpAny (model prog w) A t Q' E s :=
  fun h f=>wpAny_mono h f fun _ _ z=>False.elim z
 refine wpAny_bind (wpAny_standAt (wpAny_bind (up (turn n s hJ) fun r s1 h1=>?_)))
 cases r with
 | none=>exact wpAny_pure h1
 | some v =>
  refine wpAny_bind (up h1 fun _ s2 h2=>?_)
  refine wpAny_bind (up h2 fun _ s3 h3=>?_)
  refine wpAny_bind (up h3 fun ok s4 h4=>?_)
  cases ok with
  | false=>exact wpAny_pure ⟨rfl,h4⟩
  | true=>exact wpAny_bind (wpAny_bind (up h4 fun kv s5 h5=>wpAny_bind (wpAny_holding (up h5 fun vv s6 h6=>wpAny_bind (wpAny_standAt (wpAny_holding (up h6 fun _ s7 h7=>wpAny_pure ⟨rfl,h7⟩)))))))
end
section
variable {X:Cx} {scope:Scope} {own M:List Str} {pins:List (Addr × Obj)} {σ:St} {H2:Hp} {s2:Shared} {fp:List Addr}
theorem inv_compD {o0:Obj} (ok:CompOk X scope M) (hc:X.calm = true) (I:Inv X pins σ H2 s2) (hf:∀ b ∈ fp,FpOk X pins H2 b /\ b < s2.heap.objs.size) {C:Addr} (hC:C = s2.heap.objs.size + 1) {h4:Heap}
  (hh:h4 = pushCells ((s2.heap.push o0).push { cls:=.type "dict",data:=.dict #[] }) scope.names) :
  Inv (cxComp X scope own M C s2 H2 fp) [] (List.replicate own.length none ++ σ) H2 { s2 with heap:=h4 }:=by
 have zC:(s2.heap.push o0).objs.size = C:=by rw [Heap.size_push,hC]
 have zC1:((s2.heap.push o0).push { cls:=.type "dict",data:=.dict #[] }).objs.size = C + 1:=by rw [Heap.size_push,zC]
 have keep:∀ b o,s2.heap.get? b = some o -> h4.get? b = some o:=fun b o e=>by
  rw [hh]; exact pushCells_keeps _ _ _ _ (Heap.get?_push_of_some _ (Heap.get?_push_of_some _ e))
 have cellOld:∀ x c,X.env.cells.lookup x = some c -> c < s2.heap.objs.size:=fun x c e=>by obtain ⟨v,q⟩:=I.cell x c e; exact q.lt
 have cellB:∀ x c,(cellsC X scope C).lookup x = some c -> (h4.IsCell c none /\ C + 1 <= c /\ scope.names.lookup x = some .cell) \/ X.env.cells.lookup x = some c:=fun x c e=>by
  by_cases hx:scope.names.lookup x = some .cell
  ·have e' := e
   unfold cellsC at e'
   rw [<- zC1] at e'
   rcases cf_all _ _ _ x c e' with ⟨a,b,d⟩ | q
   ·exact .inl ⟨by rw [hh]; exact a,by rw [zC1] at b; exact b,hx⟩
   ·exact .inr (closL_sub scope.names [] (ok.cells I) (fun _ _ z=>by simp at z) x c q)
  ·exact .inr (ok.cellsFrom_old I e hx)
 have hNs:∃ m,h4.Ns C m:=by
  have q:((s2.heap.push o0).push { cls:=.type "dict",data:=.dict #[] }).Ns C (fun _=>none):=by
   have:=Heap.Ns.new (s2.heap.push o0) (.type "dict")
   rw [zC] at this
   exact this
  exact ⟨_,q.keeps fun b o e=>by rw [hh]; exact pushCells_keeps _ _ _ _ e⟩
 have nfs:∀ b ∈ fp,b ∉ frs X.stack:=fun b hb hx=>by
  obtain ⟨⟨_,f1,f2,_⟩,_⟩:=hf b hb
  rcases List.mem_cons.mp (I.stkSub b hx) with e | e
  ·exact f1 e
  ·exact f2 e
 obtain ⟨mC,hmC⟩:=hNs
 refine ⟨⟨I.ok.mod,ok.kind,I.ok.glob,I.ok.blt,?_,?_,?_,?_,I.ok.hd,I.ok.frames,.inl rfl,?_,I.bs,?_,?_,nfs,I.stack,I.stkFree⟩,rfl,I.bare,Un.kept keep,⟨mC,hmC,?_⟩,?_,I.hok.fresh (by show s2.heap.objs.size <= C; rw [hC]; exact Nat.le_succ _),?_,fun p hp=>absurd (show p ∈ ([]:List (Addr × Obj)) from hp) (by simp),I.hok.kept keep,?_⟩
 ·show s2.heap.objs.size <= C; rw [hC]; exact Nat.le_succ _
 ·intro x y c h1 h2
  refine cf_inj scope.names (C + 1) (closL X.env scope.names []) (fun a b d p q=>?_) (fun a d p=>?_) x y c h1 h2
  ·exact I.ok.inj a b d (closL_sub scope.names [] (ok.cells I) (fun _ _ z=>by simp at z) a d p) (closL_sub scope.names [] (ok.cells I) (fun _ _ z=>by simp at z) b d q)
  ·have := cellOld a d (closL_sub scope.names [] (ok.cells I) (fun _ _ z => by simp at z) a d p)
   rw [hC]; exact Nat.lt_succ_of_lt (Nat.lt_succ_of_lt this)
 ·intro x hx
  have go:∀ k,(k = NameKind.cell \/ k = NameKind.free) -> (compEnvC scope (cellsC X scope C) C X.env).kindOf x = some k -> ∃ c,(cellsC X scope C).lookup x = some c:=fun k hk e=>by
   rcases ok.kindIn e with e | ⟨_,e⟩
   ·rcases hk with rfl | rfl
    ·exact cf_has _ _ _ (PySem.mem_of_lookup e)
    ·exact cf_keep _ _ _ (closL_has (y:=(x,.free)) rfl _ _ (PySem.mem_of_lookup e))
   ·exact cf_keep _ _ _ (closL_has (y:=(x,.free)) rfl _ _ (PySem.mem_of_lookup e))
  rcases hx with e | e
  ·exact go _ (.inl rfl) e
  ·exact go _ (.inr rfl) e
 ·intro x c hx h
  have hx':scope.names.lookup x = some .cell:=by simpa [cxComp] using hx
  have:=cf_ge (x:=x) scope.names (C + 1) (closL X.env scope.names []) (C + 1) (Nat.le_refl _) (.inl (PySem.mem_of_lookup hx')) c h
  show s2.heap.objs.size <= c
  exact Nat.le_trans (by rw [hC]; exact Nat.le_trans (Nat.le_succ _) (Nat.le_succ _)) this
 ·intro b hb
  obtain ⟨⟨_,_,_,_,f4,_⟩,f6⟩:=hf b hb
  refine ⟨?_,fun x c h=>?_⟩
  ·show b ≠ C
   rw [hC]; exact Nat.ne_of_lt (Nat.lt_succ_of_lt f6)
  ·rcases cellB x c h with ⟨_, q, _⟩ | q
   ·rw [hC] at q
    exact Nat.ne_of_gt (Nat.lt_of_lt_of_le f6 (Nat.le_trans (Nat.le_trans (Nat.le_succ _) (Nat.le_succ _)) q))
   ·exact f4 x c q
 ·exact Nat.le_trans I.ok.bsz I.sz
 ·intro b o e hb
  obtain ⟨⟨_,_,_,f3,_⟩,_⟩:=hf b hb
  rcases f3 with z | z
  ·exact I.ok.noex b o e z
  ·exact absurd (Nat.lt_of_lt_of_le (Heap.lt_size (I.ok.bs b o e).1) z) (Nat.lt_irrefl _)
 ·intro i x v h1 h2 h3
  have h2':(List.replicate own.length (none:Option V) ++ σ)[i]? = some (some v):=h2
  have hi:own.length <= i:=by
   apply Nat.le_of_not_lt
   intro hlt
   rw [List.getElem?_append_left (by simpa using hlt),List.getElem?_replicate] at h2'
   rw [if_pos hlt] at h2'
   cases h2'
  rw [List.getElem?_append_right (by simpa using hi),List.length_replicate] at h2'
  have h1':(own ++ M)[i]? = some x:=h1
  rw [List.getElem?_append_right hi] at h1'
  obtain ⟨n1,n2⟩:=ok.shadow x (List.mem_of_getElem? h1')
  have hfree:scope.names.lookup x = some .free /\ ((compEnvC scope (cellsC X scope C) C X.env).kindOf x = some .cell \/ (compEnvC scope (cellsC X scope C) C X.env).kindOf x = some .free):=by
   rcases h3 with e | e | e
   ·rcases ok.kindIn (x := x) (C := C) e with q | ⟨q, _⟩
    ·exact absurd q n1
    ·cases q
   ·rcases ok.kindIn (x := x) (C := C) e with q | ⟨_, q⟩
    ·exact absurd q n2
    ·exact ⟨q,.inl e⟩
   ·rcases ok.kindIn (x := x) (C := C) e with q | ⟨q, _⟩
    ·exact ⟨q,.inr e⟩
    ·cases q
  obtain ⟨hfr,hk⟩:=hfree
  obtain ⟨m,hn,hl⟩:=I.loc
  have hkX:=ok.frees (x,.free) (PySem.mem_of_lookup hfr) rfl
  have h1':=ok.same _ _ h1' hfr
  obtain ⟨u,ru,lk⟩:=hl (i - own.length) x v h1' h2' (hkX.elim (fun z=>.inr (.inl z)) fun z=>.inr (.inr z))
  refine ⟨u,ru,.inr ⟨hk,?_⟩⟩
  rcases lk with ⟨k,_⟩ | ⟨_,c,ec,ic⟩
  ·rcases hkX with z | z <;> (rw [k] at z; cases z)
  ·obtain ⟨c', e'⟩ : ∃ c', (cellsC X scope C).lookup x = some c' := cf_keep _ _ _ (closL_has (y := (x, .free)) rfl _ _ (PySem.mem_of_lookup hfr))
   refine ⟨c',e',?_⟩
   have:=ok.cellsFrom_old I e' (by rw [hfr]; simp)
   have e2:some c = some c':=ec.symm.trans this
   cases e2
   exact ic.keeps keep
 ·intro x c h
  rcases cellB x c h with ⟨q,_⟩ | q
  ·exact ⟨_,q⟩
  ·obtain ⟨v, z⟩ := I.cell x c q
   exact ⟨v,z.keeps keep⟩
 ·intro x c h
  rcases cellB x c h with ⟨q,q2,_⟩ | q
  ·exact I.hok.fresh (by rw [hC] at q2; exact Nat.le_trans (Nat.le_trans (Nat.le_succ _) (Nat.le_succ _)) q2)
  ·exact I.freeC x c q
 ·show (List.replicate own.length (none : Option V) ++ σ).length = (own ++ M).length
  rw [List.length_append,List.length_append,List.length_replicate,I.len,ok.mlen]
end
section
variable {X:Cx} {scope:Scope} {own M:List Str} {pins:List (Addr × Obj)} {σ:St} {H2:Hp} {s2:Shared} {tg iter kx vx:Expr} {ifs:List Expr} {pos:Pos} {g:TG} {tt:TT} {tk tv:TE}
theorem dcomp_core (ok:CompOk X scope M) (hc:X.calm = true) (hg:∀ C s2 H2 fp,PG (cxComp X scope own M C s2 H2 fp) tg g) (ht:∀ C s2 H2 fp,PTs (cxComp X scope own M C s2 H2 fp) ifs tt) (hek:∀ C s2 H2 fp,PE (cxComp X scope own M C s2 H2 fp) kx tk) (he:∀ C s2 H2 fp,PE (cxComp X scope own M C s2 H2 fp) vx tv)
  (I2:Inv X pins σ H2 s2) {it:Addr} {fp:List Addr} {tn:Nat -> Heap -> Prop} {J:It} (T:Turn X.prog X.w X.K tg J fp it tn) (st2:tn 0 s2.heap) (f2:∀ b ∈ fp,FpOk X pins H2 b)
  {W:Nat -> Nat -> List (Key × V) -> Hp -> Prop} (w0:∃ m,W 0 m [] H2) {Qf:V -> Hp -> Prop}
  (turn : ∀ i m acc H, W i m acc H -> (J.stop i H /\ acc.length <= sizeLine /\ ∀ D, H D = none -> Qf (.ref D) (upd H D (.dK acc))) \/
   (J.go i H /\ acc.length < sizeLine /\ ∀ x H', J.yld i H x H' -> g x (List.replicate own.length none ++ σ) H' fun σ2 H2 => σ2.drop own.length = σ /\ tt σ2 H2 fun c H3 =>
    if c = true then tk σ2 H3 fun y H4=>tv σ2 H4 fun v H5=>∃ k m',y = kV k /\ m' < m /\ W (i + 1) m' (putK acc k v) H5 else ∃ m',m' < m /\ W (i + 1) m' acc H3))
  {RR:Value -> Addr -> Result -> Shared -> Prop} {E:Value -> Shared -> Prop}
  (fin:∀ D C H' s' m,Inv X pins σ H' s' -> Qf (.ref D) H' -> s'.heap.Ns C m -> H' C = none -> C ≠ X.env.locals -> X.s₀.heap.objs.size <= C -> (∀ x c,X.env.cells.lookup x = some c -> c ≠ C) -> (∀ p ∈ X.pn ++ pins,p.1 ≠ C) -> RR (.ref D) C (.ok .next) s') :
  wpAny (model X.prog X.w) X.A newDict (fun acc s3=>wpAny (model X.prog X.w) X.A (newFunctionEnv scope X.env.globals (closL X.env scope.names []) [] X.env.qual none .none (some X.env)) (fun cenv s4 =>
   codeAny (model X.prog X.w) X.A (.compStart (.DictComp kx vx [⟨tg,iter,ifs,0⟩] scope pos) 0 (.ref it) acc { cenv with scope:=relabel scope X.env }) (RR acc cenv.locals) s4) E s3) E s2:=by
 refine wpAny_newObj_type (newEnv_comp ?_)
 have zC:(s2.heap.push { cls:=.type "dict",dict:=none,data:=.dict #[] }).objs.size = s2.heap.objs.size + 1:=Heap.size_push ..
 dsimp only
 rw [zC]
 generalize hC:s2.heap.objs.size + 1 = C
 generalize hh:pushCells ((s2.heap.push { cls:=.type "dict",dict:=none,data:=.dict #[] }).push { cls:=.type "dict",data:=.dict #[] }) scope.names = h4
 have fpl:∀ b ∈ fp,FpOk X pins H2 b /\ b < s2.heap.objs.size:=fun b hb=>by
  obtain ⟨o,e,_⟩:=T.obj 0 _ st2 b hb
  exact ⟨f2 b hb,Heap.lt_size e⟩
 have I4:Inv (cxComp X scope own M C s2 H2 fp) [] (List.replicate own.length none ++ σ) H2 { s2 with heap:=h4 }:=inv_compD (o0:={ cls:=.type "dict",dict:=none,data:=.dict #[] }) ok hc I2 fpl hC.symm hh.symm
 generalize hX:cxComp X scope own M C s2 H2 fp = X' at I4
 have keep4:∀ b o,s2.heap.get? b = some o -> h4.get? b = some o:=fun b o e=>by
  rw [<- hh]; exact pushCells_keeps _ _ _ _ (Heap.get?_push_of_some _ (Heap.get?_push_of_some _ e))
 have hD4:h4.get? s2.heap.objs.size = some { cls:=.type "dict",dict:=none,data:=.dict #[] }:=by
  rw [<- hh]; exact pushCells_keeps _ _ _ _ (Heap.get?_push_of_some _ (Heap.get?_push_size _ rfl))
 have isD0:(({ cls:=.type "dict",dict:=none,data:=.dict #[] }:Obj)).IsDictOf (mixKind X.prog X.w) []:=by
  obtain ⟨_,_,vs,r,o,es,ep,e,q⟩:=dk_empty (P:=X.prog) (w:=X.w) (H:=H2) s2.heap I2.big
  cases r
  rw [Heap.get?_push_size _ (by rfl)] at e
  cases e
  exact ⟨es,ep,q⟩
 have dsys:(s2.heap.objs.size == sysModules) = false:=(dk_empty (P:=X.prog) (w:=X.w) (H:=H2) s2.heap I2.big).2.1
 have st4:tn 0 h4:=T.keep _ _ _ st2 fun b hb o e=>keep4 b o e
 have gg:PG X' tg g:=by rw [<- hX]; exact hg C s2 H2 fp
 have gt:PTs X' ifs tt:=by rw [<- hX]; exact ht C s2 H2 fp
 have gk:PE X' kx tk:=by rw [<- hX]; exact hek C s2 H2 fp
 have ge:PE X' vx tv:=by rw [<- hX]; exact he C s2 H2 fp
 have xP:X'.prog = X.prog:=by rw [<- hX]; rfl
 have xw:X'.w = X.w:=by rw [<- hX]; rfl
 have xK:X'.K = X.K:=by rw [<- hX]; rfl
 have xA:X'.A = X.A:=by rw [<- hX]; rfl
 have xc:X'.calm = true:=by rw [<- hX]; exact hc
 have xpn:X'.pn = []:=by rw [<- hX]; rfl
 have xs:X'.s₀ = s2:=by rw [<- hX]; rfl
 have xH:X'.H₀ = H2:=by rw [<- hX]; rfl
 have xL:X'.env.locals = C:=by rw [<- hX]; rfl
 have xfs:X'.fs = frs X.stack:=by rw [<- hX]; rfl
 have xex:X'.ex = fp:=by rw [<- hX]; rfl
 have xe:X'.xe = fun _ _=>False:=by rw [<- hX]; rfl
 have xenv:({ newEnv scope C X.env.globals (cellsFrom (C + 1) scope.names (closL X.env scope.names [])) X.env.qual none .none (some X.env) builtinsNs with scope:=relabel scope X.env }:Env) = X'.env:=by rw [<- hX]; rfl
 have Dlt:s2.heap.objs.size < C:=by rw [<- hC]; exact Nat.lt_succ_self _
 have fpb:∀ {pl:List (Addr × Obj)} {H:Hp},(∀ b ∈ fp,H b = none) -> (∀ p ∈ pl,p.1 ∉ fp) -> ∀ b ∈ fp,FpOk X' pl H b:=fun {pl H} hn hpl b hb=>by
  refine ⟨hn b hb,?_,?_,.inl (by rw [xex]; exact hb),fun x c e=>(I4.ok.exf b (by rw [xex]; exact hb)).2 x c e,fun p hp z=>?_⟩
  ·exact (I4.ok.exf b (by rw [xex]; exact hb)).1
  ·exact I4.ok.exfs b (by rw [xex]; exact hb)
  ·rw [xpn, List.nil_append] at hp
   exact hpl p hp (by rw [z]; exact hb)
 have Dfp:s2.heap.objs.size ∉ fp:=fun z=>Nat.lt_irrefl _ (fpl _ z).2
 have DC:s2.heap.objs.size ≠ C:=Nat.ne_of_lt Dlt
 have Dcell:∀ x c,X'.env.cells.lookup x = some c -> c ≠ s2.heap.objs.size:=fun x c e z=>by
  obtain ⟨v,o,q,hd⟩:=I4.cell x c e
  rw [z] at q
  have q':h4.get? s2.heap.objs.size = some o:=q
  rw [hD4] at q'
  cases q'
  cases hd
 have Dfs:s2.heap.objs.size ∉ X'.fs:=fun z=>by
  obtain ⟨_,o,ho,_⟩:=I4.ok.funs.mem (by exact z)
  rw [xs] at ho
  exact Nat.lt_irrefl _ (Heap.lt_size ho)
 rw [xenv]
 have goal:∀ s5:Shared,s5 = { s2 with heap:=h4 } -> codeAny (model X.prog X.w) X.A (.compLoop (.DictComp kx vx [⟨tg,iter,ifs,0⟩] scope pos) 0 (.ref it) (.ref s2.heap.objs.size) X'.env) (RR (.ref s2.heap.objs.size) C) s5:=by
  rintro s5 rfl
  obtain ⟨m0,w0⟩:=w0
  refine dcomp_loop (fun n s'=>∃ i acc σ' H' ob vs,Inv X' [] σ' H' s' /\ σ'.drop own.length = σ /\ tn i s'.heap /\ (∀ b ∈ fp,H' b = none) /\ H' s2.heap.objs.size = none /\
   s'.heap.get? s2.heap.objs.size = some ob /\ ob.IsDictOf (mixKind X.prog X.w) vs /\ KV acc vs /\ W i n acc H') ?_ m0
   ⟨0,[],_,H2,_,[],I4,by simp,st4,fun b hb=>(f2 b hb).1,I2.hok.fresh (Nat.le_refl _),hD4,isD0,.nil,w0⟩
  rintro n s3 ⟨i,acc,σ3,H3,ob,vs,I3,hσ,st3,fr3,hD,hDo,isD,rv,w3⟩
  have noc:∀ v,ob.data ≠ .cell v:=fun v z=>by
   obtain ⟨es,ep,_,e,_⟩:=isD
   rw [e] at z; cases z
  have pinD:∀ {H:Hp} {s:Shared} {σ:St},Inv X' [] σ H s -> H s2.heap.objs.size = none -> s.heap.get? s2.heap.objs.size = some ob ->
    Inv X' [(s2.heap.objs.size,ob)] σ H s:=fun {H s σ} I hn ho=>I.pins_of fun p hp=>by
   have e:p = (s2.heap.objs.size,ob):=by simpa using hp
   subst e
   exact ⟨ho,hn,by rw [xL]; exact DC,Dfs,noc⟩
  have plD:∀ p ∈ [((s2.heap.objs.size,ob):Addr × Obj)],p.1 ∉ fp:=fun p hp=>by
   have e:p = (s2.heap.objs.size,ob):=by simpa using hp
   subst e
   exact Dfp
  have I3':=pinD I3 hD hDo
  rcases turn i n acc H3 w3 with ⟨stop,hsz,q⟩ | ⟨go,hsz,step⟩
  ·have := T.done X' xP xw xK xc i _ s3 σ3 H3 (fun _ _ => False) I3' (fpb fr3 plD) st3 stop
   rw [xA] at this
   refine thn this fun r s4 ⟨hr,I5⟩=>?_
   subst hr
   have hDo5:=(I5.pin (s2.heap.objs.size,ob) (by rw [xpn]; simp)).1
   have un:Un (frs X.stack) fp H2 H3 s2.heap s4.heap:=by
    have:=I5.base
    rw [xfs,xex,xH,xs] at this
    exact this
   have os:s4.os = s2.os:=by rw [I5.os,xs]
   have hok:HOk X.prog X.w H3 s4.heap:=by have:=I5.hok; rw [xP,xw] at this; exact this
   have IX:Inv X pins σ H3 s4:=I2.call' os un hok I5.bare fun b hb=>by
    obtain ⟨_,f1,_,f3,f4,f5⟩:=f2 b hb
    exact ⟨f3,f1,f4,f5⟩
   have old:∀ {b:Addr},s2.heap.objs.size <= b -> (X.s₀.heap.objs.size <= b /\ b ≠ X.env.locals /\ (∀ x c,X.env.cells.lookup x = some c -> c ≠ b) /\ ∀ p ∈ X.pn ++ pins,p.1 ≠ b):=fun {b} hb=>by
    obtain ⟨_,f1,_,f3,f4,f5⟩:=I2.fpOk (H':=fun _=>none) hb rfl
    exact ⟨Nat.le_trans I2.sz hb,f1,f4,f5⟩
   obtain ⟨d1,d2,d3,d4⟩:=old (Nat.le_refl s2.heap.objs.size)
   obtain ⟨c1,c2,c3,c4⟩:=old (b:=C) (Nat.le_of_lt Dlt)
   have IY:Inv X pins σ (upd H3 s2.heap.objs.size (.dK acc)) s4:=IX.track hD d1 d2 d3 d4 ⟨hsz,dsys,vs,rv,(let ⟨es,ep,r⟩:=isD; ⟨ob,es,ep,hDo5,r⟩)⟩
   obtain ⟨m,hm,_⟩:=I5.loc
   rw [xL] at hm
   have hCn:H3 C = none:=by have:=I5.free; rw [xL] at this; exact this
   exact fin _ C _ s4 m IY (q _ hD) hm (by rw [upd_ne (Ne.symm DC)]; exact hCn) c2 c1 c3 c4
  ·have := T.item X' xP xw xK xc i _ s3 σ3 H3 (fun _ _ => False) I3' (fpb fr3 plD) st3 go
   rw [xA] at this
   refine thn this fun r s4 ⟨u,hr,h4⟩=>?_
   subst hr
   refine thn h4 fun _ s5 ⟨x,H5,I5,r5,y5,st5,fr5⟩=>?_
   have hσn:∀ (j:Nat) v,(List.replicate own.length none ++ σ)[j]? = some (some v) -> σ3[j]? = some (some v):=fun j v e=>by
    by_cases hlt:j < own.length
    ·rw [List.getElem?_append_left (by simpa using hlt), List.getElem?_replicate, if_pos hlt] at e
     cases e
    ·have hle := Nat.le_of_not_lt hlt
     rw [List.getElem?_append_right (by simpa using hle),List.length_replicate,<- hσ,List.getElem?_drop] at e
     rw [show own.length + (j - own.length) = j by lia] at e
     exact e
   have hlen:(List.replicate own.length none ++ σ).length = σ3.length:=by
    have e1:σ3.length = X'.N.length:=I5.len
    have e2:=I4.len
    exact e2.trans e1.symm
   have I5w:Inv X' _ (List.replicate own.length none ++ σ) H5 s5:=I5.weak hlen hσn
   have I5p:=I5w.pinned (fpb fr5 plD) (T.obj _ _ st5)
   have a1:=gg _ s5 _ H5 x u _ I5p r5 (step x H5 y5)
   rw [xP,xw,xA,xe] at a1
   refine thn a1 fun _ s6 ⟨σ6,H6,I6,d6,q6⟩=>?_
   have a2:=gt _ s6 σ6 H6 _ I6 q6
   rw [xP,xw,xA,xe] at a2
   refine thn a2 fun b s7 ⟨H7,I7,q7⟩=>?_
   have pin7:∀ {H:Hp} {s:Shared},Inv X' ([((s2.heap.objs.size,ob):Addr × Obj)] ++ pinsAt fp s5.heap) σ6 H s ->
     (tn (i + 1) s.heap /\ (∀ b ∈ fp,H b = none) /\ H s2.heap.objs.size = none /\ s.heap.get? s2.heap.objs.size = some ob /\ Inv X' [] σ6 H s):=fun {H s} I=>by
    refine ⟨T.keep _ _ _ st5 fun b hb o e=>(I.pin (b,o) (List.mem_append_right _ (List.mem_append_right _ (mem_pinsAt hb e)))).1,fun b hb=>?_,?_,?_,I.pins_of fun p hp=>by simp at hp⟩
    ·obtain ⟨o, e, d⟩ := T.obj _ _ st5 b hb
     exact (I.pin (b,o) (List.mem_append_right _ (List.mem_append_right _ (mem_pinsAt hb e)))).2.1
    ·exact (I.pin (s2.heap.objs.size,ob) (by rw [xpn]; simp)).2.1
    ·exact (I.pin (s2.heap.objs.size,ob) (by rw [xpn]; simp)).1
   cases b with
   | false =>
    obtain ⟨p1,p2,p3,p4,p5⟩:=pin7 I7
    obtain ⟨m',hm,w7⟩:=q7
    exact ⟨m',hm,i + 1,acc,σ6,H7,ob,vs,p5,d6,p1,p2,p3,p4,isD,rv,w7⟩
   | true =>
    rw [if_pos rfl] at q7 ⊢
    have a3:=gk _ s7 σ6 H7 _ I7 q7
    rw [xP,xw,xA,xe] at a3
    refine thn a3 fun y s8 ⟨v,H8,I8,r8,q8⟩=>?_
    have a4:=ge _ s8 σ6 H8 _ I8 q8
    rw [xP,xw,xA,xe] at a4
    refine thn a4 fun y2 s9 ⟨v2,H9,I9,r9,q9⟩=>?_
    obtain ⟨p1,p2,p3,p4,p5⟩:=pin7 I9
    obtain ⟨kk,m',ek,hm,w8⟩:=q9
    subst ek
    have hl:=rv.length
    refine wpAny_dictSet_pairs (hsz:=by lia) (kV_is r8) (let ⟨es,ep,r⟩:=isD; ⟨ob,es,ep,p4,r⟩) fun h' dd' hs=>?_
    obtain ⟨ob',es',ep',ho',isD'⟩:=dd'
    have I10:Inv X' [] σ6 H9 { s9 with heap:=h',toks:=s9.toks + 1 }:=p5.turned (t':=s9.toks + 1) (fun b o hb e=>hs.extBut b o hb e) p3 (by rw [xL]; exact DC) (.inr (by rw [xs]; exact Nat.le_refl _)) Dcell (fun p hp=>by rw [xpn] at hp; simp at hp)
    exact ⟨m',hm,i + 1,putK acc kk v2,σ6,H9,ob',_,I10,d6,T.keep _ _ _ p1 fun b hb o e=>hs.extBut b o (fun z=>Dfp (by rw [<- z]; exact hb)) e,p2,p3,ho',⟨es',ep',isD'⟩,rv.put kk r9,w8⟩
 exact codeAny_compStart_dict (goal _ rfl) (T.self _ 0 _ _ _ st4 (goal _ rfl))
theorem eval_dcomp (kx vx:Expr) (gens:List Comprehension) (scope:Scope) (pos:Pos) (env:Env):eval (.DictComp kx vx gens scope pos) env = comprehension (.DictComp kx vx gens scope pos) scope env (firstIterPos gens pos) newDict (firstAsync gens) (firstIter gens env):=by
 first | rfl | (unfold eval; rfl) | (rw [eval]; rfl) | rw [eval]
def tDComp (wi:TI) (own:Nat) (g:TG) (tt:TT) (tk tv:TE):TE:=fun σ H Q=>wi σ H fun J H1=>∃ W:Nat -> Nat -> List (Key × V) -> Hp -> Prop,(∃ m,W 0 m [] H1) /\ ∀ i m acc H,W i m acc H ->
 (J.stop i H /\ acc.length <= sizeLine /\ ∀ D,H D = none -> Q (.ref D) (upd H D (.dK acc))) \/
 (J.go i H /\ acc.length < sizeLine /\ ∀ x H', J.yld i H x H' -> g x (List.replicate own none ++ σ) H' fun σ2 H2 => σ2.drop own = σ /\ tt σ2 H2 fun c H3 =>
  if c = true then tk σ2 H3 fun y H4=>tv σ2 H4 fun v H5=>∃ k m',y = kV k /\ m' < m /\ W (i + 1) m' (putK acc k v) H5 else ∃ m',m' < m /\ W (i + 1) m' acc H3)
theorem pe_dcomp {wi:TI} (ok:CompOk X scope M) (hc:X.calm = true) (hi:PI X tg iter wi) (hg:∀ C s2 H2 fp,PG (cxComp X scope own M C s2 H2 fp) tg g) (ht:∀ C s2 H2 fp,PTs (cxComp X scope own M C s2 H2 fp) ifs tt)
  (hek:∀ C s2 H2 fp,PE (cxComp X scope own M C s2 H2 fp) kx tk) (he:∀ C s2 H2 fp,PE (cxComp X scope own M C s2 H2 fp) vx tv) (hs:∀ x,foldedSetIterable iter X.env x = pure x:=by intro _; rfl) :
  PE X (.DictComp kx vx [⟨tg,iter,ifs,0⟩] scope pos) (tDComp wi own.length g tt tk tv):=by
 intro pins s σ H Q I h
 rw [eval_dcomp]
 refine wpAny_comprehension_free (use:=none) rfl hs (clos_for (ok.cells I)) ok.kind (fun x hx hl=>by rw [ok.uniq x hx,hl]) ?_
 refine thn (hi pins s σ H _ I h) fun v s1 h1=>thn h1 fun itv s2 h2=>?_
 obtain ⟨it,fp,tn,J,H2,e,I2,T,st2,f2,W,w0,turn⟩:=h2
 subst e
 refine dcomp_core (Qf:=Q) ok hc hg ht hek he I2 T st2 f2 w0 turn fun D C H' s' m IY q hm hCn c2 c1 c3 c4=>⟨m,hm,fun h' hs'=>?_⟩
 exact ⟨.ref D,H',IY.turned (t':=s'.toks) (fun b o hb e=>hs'.extBut b o hb e) hCn c2 (.inr c1) c3 c4,rfl,q⟩
end
end L2
set_option maxRecDepth 100000
namespace L2
open PySem PySem.Spec PyProof.Rows
inductive D where
 | non | bl (b:Bool) | int (i:Int) | str (x:Str) | ty (n:String) | tup (ds:List D) | lst (ds:List D)
 /-- a list that is known and stays -/
 | fz (ds:List D)
 /-- the list that the drawing keeps -/
 | st
 /-- a list of the frame's own (in a slot alone) -/
 | own (ds:List D)
 /-- a dict, whatever it holds -/
 | dic
 /-- a dict, known, that stays -/
 | dct (ks:List Key) (ds:List D)
 /-- a cell: a thing that changes and is shared -/
 | rf (a:Addr)
def kvsV (ks:List Key) (xs:List V):List (Key × V):=List.zipWith (fun k x=>(k,x)) ks xs
abbrev hNone:Hp:=fun _=>none
def SqZ (K:PySem.W.Frag) (Z:Addr -> Prop) (H:Hp) (b:Bool) (a:Addr) (xs:List V):Prop :=
 match b with
 | true=>¬ Z a /\ H a = some (.lst xs)
 | false=>(¬ Z a /\ Rd H a (.tup xs)) \/ SqT K hNone a xs
def SqF (K:PySem.W.Frag) (Z:Addr -> Prop) (H:Hp) (a:Addr) (xs:List V):Prop:=(¬ Z a /\ ∃ o,H a = some (.frz o (.lst xs))) \/ SqL K hNone a xs
mutual
def Rep (K:PySem.W.Frag) (G:Option Addr) (Z:Addr -> Prop) (H:Hp):D -> V -> Prop
 | .non,v=>v = .non
 | .bl b,v=>v = .bl b
 | .int i,v=>v = .int i
 | .str x,v=>v = .str x
 | .ty n,v=>v = .ty n
 | .tup ds,v=>∃ a xs,v = .ref a /\ SqZ K Z H false a xs /\ Reps K G Z H ds xs
 | .lst ds,v=>∃ a xs,v = .ref a /\ SqZ K Z H true a xs /\ Reps K G Z H ds xs
 | .fz ds,v=>∃ a xs,v = .ref a /\ SqF K Z H a xs /\ Reps K G Z H ds xs
 | .st,v=>∃ a,G = some a /\ v = .ref a
 | .own _,_=>False
 | .dic,v=>∃ a kvs,v = .ref a /\ ¬ Z a /\ H a = some (.dK kvs)
 | .dct ks ds,v=>∃ a xs,v = .ref a /\ (¬ Z a /\ H a = some (.dK (kvsV ks xs))) /\ Reps K G Z H ds xs
 | .rf a,v=>v = .ref a
def Reps (K:PySem.W.Frag) (G:Option Addr) (Z:Addr -> Prop) (H:Hp):List D -> List V -> Prop
 | [],vs=>vs = []
 | d :: ds,vs=>∃ v r,vs = v :: r /\ Rep K G Z H d v /\ Reps K G Z H ds r
end
section
variable {K:PySem.W.Frag} {G:Option Addr} {Z Z':Addr -> Prop} {H H':Hp}
theorem SqT.anyH {a:Addr} {xs:List V} (h:SqT K hNone a xs):SqT K H a xs:=by
 rcases h with (h | ⟨o,h⟩) | h
 ·cases h
 ·cases h
 ·exact .inr h
theorem SqZ.sq {b:Bool} {a:Addr} {xs:List V} (h:SqZ K Z H b a xs):SqB K b H a xs:=by
 cases b with
 | true=>exact SqL.of h.2
 | false =>
  rcases h with ⟨_,h⟩ | h
  ·exact .inl h
  ·exact SqT.anyH h
theorem SqZ.mono {b:Bool} {a:Addr} {xs:List V} (h:SqZ K Z H b a xs) (hz:∀ a,H a ≠ none -> Z' a -> Z a) (hf:∀ a o,¬ Z a -> H a = some o -> H' a = some o):SqZ K Z' H' b a xs:=by
 cases b with
 | true=>exact ⟨fun z=>h.1 (hz a (by rw [h.2]; simp) z),hf a _ h.1 h.2⟩
 | false =>
  rcases h with ⟨n,h⟩ | h
  ·refine .inl ⟨fun z => n (hz a ?_ z), ?_⟩
   ·rcases h with h | ⟨o,h⟩ <;> (rw [h]; simp)
   ·rcases h with h | ⟨o, h⟩
    ·exact .inl (hf a _ n h)
    ·exact .inr ⟨o,hf a _ n h⟩
  ·exact .inr h
mutual
theorem Rep.mono (hz:∀ a,H a ≠ none -> Z' a -> Z a) (hf:∀ a o,¬ Z a -> H a = some o -> H' a = some o):∀ (d:D) (v:V),Rep K G Z H d v -> Rep K G Z' H' d v
 | .non,v,h=>by unfold Rep at h ⊢; exact h
 | .bl b,v,h=>by unfold Rep at h ⊢; exact h
 | .int b,v,h=>by unfold Rep at h ⊢; exact h
 | .str b,v,h=>by unfold Rep at h ⊢; exact h
 | .ty b,v,h=>by unfold Rep at h ⊢; exact h
 | .st,v,h=>by unfold Rep at h ⊢; exact h
 | .own _,v,h=>by unfold Rep at h; exact h.elim
 | .dic,v,h=>by
  unfold Rep at h ⊢
  obtain ⟨a,kvs,e,n,q⟩:=h
  exact ⟨a,kvs,e,fun z=>n (hz a (by rw [q]; simp) z),hf a _ n q⟩
 | .dct ks ds,v,h=>by
  unfold Rep at h ⊢
  obtain ⟨a,xs,e,⟨n,q⟩,r⟩:=h
  exact ⟨a,xs,e,⟨fun z=>n (hz a (by rw [q]; simp) z),hf a _ n q⟩,Reps.mono hz hf ds xs r⟩
 | .rf b,v,h=>by unfold Rep at h ⊢; exact h
 | .tup ds,v,h=>by
  unfold Rep at h ⊢
  obtain ⟨a,xs,e,q,r⟩:=h
  exact ⟨a,xs,e,q.mono hz hf,Reps.mono hz hf ds xs r⟩
 | .lst ds,v,h=>by
  unfold Rep at h ⊢
  obtain ⟨a,xs,e,q,r⟩:=h
  exact ⟨a,xs,e,q.mono hz hf,Reps.mono hz hf ds xs r⟩
 | .fz ds,v,h=>by
  unfold Rep at h ⊢
  obtain ⟨a,xs,e,q,r⟩:=h
  refine ⟨a,xs,e,?_,Reps.mono hz hf ds xs r⟩
  rcases q with ⟨n,o,q⟩ | q
  ·exact .inl ⟨fun z=>n (hz a (by rw [q]; simp) z),o,hf a _ n q⟩
  ·exact .inr q
theorem Reps.mono (hz:∀ a,H a ≠ none -> Z' a -> Z a) (hf:∀ a o,¬ Z a -> H a = some o -> H' a = some o):∀ (ds:List D) (vs:List V),Reps K G Z H ds vs -> Reps K G Z' H' ds vs
 | [],vs,h=>by unfold Reps at h ⊢; exact h
 | d :: ds,vs,h=>by
  unfold Reps at h ⊢
  obtain ⟨v,r,e,q,t⟩:=h
  exact ⟨v,r,e,Rep.mono hz hf d v q,Reps.mono hz hf ds r t⟩
end
theorem Reps.nil:Reps K G Z H [] []:=by unfold Reps; rfl
theorem Reps.cons {d:D} {ds:List D} {v:V} {vs:List V} (h:Rep K G Z H d v) (t:Reps K G Z H ds vs):Reps K G Z H (d :: ds) (v :: vs):=by unfold Reps; exact ⟨v,vs,rfl,h,t⟩
theorem Reps.inv {d:D} {ds:List D} {v:V} {vs:List V} (h:Reps K G Z H (d :: ds) (v :: vs)):Rep K G Z H d v /\ Reps K G Z H ds vs:=by
 unfold Reps at h
 obtain ⟨v',r,e,q,t⟩:=h
 cases e
 exact ⟨q,t⟩
theorem Reps.split {d:D} {ds:List D} {vs:List V} (h:Reps K G Z H (d :: ds) vs):∃ v r,vs = v :: r /\ Rep K G Z H d v /\ Reps K G Z H ds r:=by unfold Reps at h; exact h
theorem Reps.nil_inv {vs:List V} (h:Reps K G Z H [] vs):vs = []:=by unfold Reps at h; exact h
theorem Reps.length:∀ {ds:List D} {vs:List V},Reps K G Z H ds vs -> vs.length = ds.length
 | [],vs,h=>by rw [h.nil_inv]; rfl
 | d :: ds,vs,h=>by
  obtain ⟨v,r,rfl,_,t⟩:=h.split
  rw [List.length_cons,List.length_cons,Reps.length t]
theorem Reps.get:∀ {ds:List D} {vs:List V} {i:Nat} {d:D},Reps K G Z H ds vs -> ds[i]? = some d -> ∃ v,vs[i]? = some v /\ Rep K G Z H d v
 | [],vs,i,d,_,e=>by simp at e
 | c :: ds,vs,0,d,h,e=>by
  obtain ⟨v,r,rfl,q,t⟩:=h.split
  simp at e; subst e
  exact ⟨v,rfl,q⟩
 | c :: ds,vs,i + 1,d,h,e=>by
  obtain ⟨v,r,rfl,q,t⟩:=h.split
  obtain ⟨u,e1,e2⟩:=Reps.get (i:=i) t (by simpa using e)
  exact ⟨u,by simpa using e1,e2⟩
theorem Reps.append:∀ {ds es:List D} {vs ws:List V},Reps K G Z H ds vs -> Reps K G Z H es ws -> Reps K G Z H (ds ++ es) (vs ++ ws)
 | [],es,vs,ws,h,h'=>by rw [h.nil_inv]; exact h'
 | d :: ds,es,vs,ws,h,h'=>by
  obtain ⟨v,r,rfl,q,t⟩:=h.split
  exact .cons q (Reps.append t h')
theorem Reps.drop:∀ {ds:List D} {vs:List V} (n:Nat),Reps K G Z H ds vs -> Reps K G Z H (ds.drop n) (vs.drop n)
 | ds,vs,0,h=>h
 | [],vs,n + 1,h=>by rw [h.nil_inv]; exact .nil
 | d :: ds,vs,n + 1,h=>by
  obtain ⟨v,r,rfl,q,t⟩:=h.split
  exact Reps.drop n t
theorem Reps.take:∀ {ds:List D} {vs:List V} (n:Nat),Reps K G Z H ds vs -> Reps K G Z H (ds.take n) (vs.take n)
 | ds,vs,0,h=>.nil
 | [],vs,n + 1,h=>by rw [h.nil_inv]; exact .nil
 | d :: ds,vs,n + 1,h=>by
  obtain ⟨v,r,rfl,q,t⟩:=h.split
  exact .cons q (Reps.take n t)
end
def scalD:D -> Bool
 | .non=>true | .bl _=>true | .int _=>true | .str _=>true | .ty _=>true | _=>false
def ofS:D -> V
 | .bl b=>.bl b | .int i=>.int i | .str x=>.str x | .ty n=>.ty n | _=>.non
theorem Rep.ofS {K:PySem.W.Frag} {G:Option Addr} {Z:Addr -> Prop} {H:Hp}:∀ {d:D},scalD d = true -> Rep K G Z H d (ofS d)
 | .non,_=>by unfold Rep; rfl
 | .bl b,_=>by unfold Rep; rfl
 | .int b,_=>by unfold Rep; rfl
 | .str b,_=>by unfold Rep; rfl
 | .ty b,_=>by unfold Rep; rfl
 | .tup ds,h=>by simp [scalD] at h
 | .lst ds,h=>by simp [scalD] at h
 | .st,h=>by simp [scalD] at h
 | .fz ds,h=>by simp [scalD] at h
 | .own ds,h=>by simp [scalD] at h
theorem Rep.toS {K:PySem.W.Frag} {G:Option Addr} {Z:Addr -> Prop} {H:Hp} {v:V}:∀ {d:D},scalD d = true -> Rep K G Z H d v -> v = L2.ofS d
 | .non,_,h=>by unfold Rep at h; exact h
 | .bl b,_,h=>by unfold Rep at h; exact h
 | .int b,_,h=>by unfold Rep at h; exact h
 | .str b,_,h=>by unfold Rep at h; exact h
 | .ty b,_,h=>by unfold Rep at h; exact h
 | .tup ds,h,_=>by simp [scalD] at h
 | .lst ds,h,_=>by simp [scalD] at h
 | .st,h,_=>by simp [scalD] at h
 | .fz ds,h,_=>by simp [scalD] at h
 | .own ds,h,_=>by simp [scalD] at h
theorem Rep.int_inv {K:PySem.W.Frag} {G:Option Addr} {Z:Addr -> Prop} {H:Hp} {v:V} {i:Int} (h:Rep K G Z H (.int i) v):v = .int i:=by unfold Rep at h; exact h
theorem Rep.bl_inv {K:PySem.W.Frag} {G:Option Addr} {Z:Addr -> Prop} {H:Hp} {v:V} {i:Bool} (h:Rep K G Z H (.bl i) v):v = .bl i:=by unfold Rep at h; exact h
theorem Rep.tup_inv {K:PySem.W.Frag} {G:Option Addr} {Z:Addr -> Prop} {H:Hp} {v:V} {ds:List D} (h:Rep K G Z H (.tup ds) v):∃ a xs,v = .ref a /\ SqZ K Z H false a xs /\ Reps K G Z H ds xs:=by unfold Rep at h; exact h
theorem Rep.lst_inv {K:PySem.W.Frag} {G:Option Addr} {Z:Addr -> Prop} {H:Hp} {v:V} {ds:List D} (h:Rep K G Z H (.lst ds) v):∃ a xs,v = .ref a /\ SqZ K Z H true a xs /\ Reps K G Z H ds xs:=by unfold Rep at h; exact h
theorem Rep.fz_inv {K:PySem.W.Frag} {G:Option Addr} {Z:Addr -> Prop} {H:Hp} {v:V} {ds:List D} (h:Rep K G Z H (.fz ds) v):∃ a xs,v = .ref a /\ SqL K H a xs /\ Reps K G Z H ds xs:=by
 unfold Rep at h
 obtain ⟨a,xs,e,q,r⟩:=h
 refine ⟨a,xs,e,?_,r⟩
 rcases q with ⟨_,o,q⟩ | q
 ·exact .inl (.inr ⟨o,q⟩)
 ·rcases q with (q | ⟨o, q⟩) | q
  ·cases q
  ·cases q
  ·exact .inr q
theorem Rep.tup_mk {K:PySem.W.Frag} {G:Option Addr} {Z:Addr -> Prop} {H:Hp} {a:Addr} {xs:List V} {ds:List D} (q:SqZ K Z H false a xs) (r:Reps K G Z H ds xs):Rep K G Z H (.tup ds) (.ref a):=by unfold Rep; exact ⟨a,xs,rfl,q,r⟩
theorem Rep.lst_mk {K:PySem.W.Frag} {G:Option Addr} {Z:Addr -> Prop} {H:Hp} {a:Addr} {xs:List V} {ds:List D} (q:SqZ K Z H true a xs) (r:Reps K G Z H ds xs):Rep K G Z H (.lst ds) (.ref a):=by unfold Rep; exact ⟨a,xs,rfl,q,r⟩
def encL:List Nat -> Nat
 | []=>0
 | x :: xs=>2 ^ x * (2 * encL xs + 1)
theorem two_odd:∀ {a b x y:Nat},2 ^ a * (2 * x + 1) = 2 ^ b * (2 * y + 1) -> a = b /\ x = y
 | 0,0,x,y,h=>by simp at h; exact ⟨rfl,by lia⟩
 | 0,b + 1,x,y,h=>by
  rw [Nat.pow_succ,Nat.mul_comm (2 ^ b) 2,Nat.mul_assoc] at h
  generalize 2 ^ b * (2 * y + 1) = c at h
  lia
 | a + 1,0,x,y,h=>by
  rw [Nat.pow_succ,Nat.mul_comm (2 ^ a) 2,Nat.mul_assoc] at h
  generalize 2 ^ a * (2 * x + 1) = c at h
  lia
 | a + 1,b + 1,x,y,h=>by
  rw [Nat.pow_succ,Nat.mul_comm (2 ^ a) 2,Nat.mul_assoc,Nat.pow_succ,Nat.mul_comm (2 ^ b) 2,Nat.mul_assoc] at h
  obtain ⟨e1,e2⟩:=two_odd (a:=a) (b:=b) (x:=x) (y:=y) (by lia)
  exact ⟨by lia,e2⟩
theorem encL_pos {x:Nat} {xs:List Nat}:encL (x :: xs) ≠ 0:=Nat.mul_ne_zero (Nat.ne_of_gt (Nat.pow_pos (by lia))) (by lia)
theorem encL_inj:∀ {a b:List Nat},encL a = encL b -> a = b
 | [],[],_=>rfl
 | [],y :: ys,h=>absurd h.symm encL_pos
 | x :: xs,[],h=>absurd h encL_pos
 | x :: xs,y :: ys,h=>by
  obtain ⟨e1,e2⟩:=two_odd (show 2 ^ x * (2 * encL xs + 1) = 2 ^ y * (2 * encL ys + 1) from h)
  rw [e1,encL_inj e2]
def encI (i:Int):Nat:=if i < 0 then 2 * i.natAbs + 1 else 2 * i.natAbs
theorem encI_inj {i j:Int} (h:encI i = encI j):i = j:=by unfold encI at h; split at h <;> split at h <;> lia
theorem map_inj2 {α β:Type} {f:α -> β} (hf:∀ {x y},f x = f y -> x = y):∀ {a b:List α},a.map f = b.map f -> a = b
 | [],[],_=>rfl
 | [],y :: ys,h=>by simp at h
 | x :: xs,[],h=>by simp at h
 | x :: xs,y :: ys,h=>by
  rw [List.map_cons,List.map_cons] at h
  obtain ⟨h1,h2⟩:=List.cons.inj h
  rw [hf h1,map_inj2 hf h2]
mutual
/-- what a cell may hold -/
def plD:D -> Bool
 | .non=>true
 | .bl _=>true
 | .int _=>true
 | .rf _=>true
 | .tup ds=>plDs ds
 | .lst ds=>plDs ds
 | _=>false
def plDs:List D -> Bool
 | []=>true
 | d :: ds=>plD d && plDs ds
end
mutual
def encD:D -> List Nat
 | .bl b=>[1,if b then 1 else 0]
 | .int i=>[2,encI i]
 | .rf a=>[3,a]
 | .tup ds=>[4,encL (encDs ds)]
 | .lst ds=>[5,encL (encDs ds)]
 | _=>[0]
def encDs:List D -> List Nat
 | []=>[]
 | d :: ds=>encL (encD d) :: encDs ds
end
mutual
theorem encD_inj:∀ (d e:D),plD d = true -> plD e = true -> encD d = encD e -> d = e
 | .non,e,_,h,q=>by cases e <;> simp [plD,encD] at h q ⊢
 | .bl b,e,_,h,q=>by
  cases e <;> simp [plD,encD] at h q ⊢
  rename_i c
  cases b <;> cases c <;> simp at q ⊢
 | .int i,e,_,h,q=>by
  cases e <;> simp [plD,encD] at h q ⊢
  exact encI_inj q
 | .rf a,e,_,h,q=>by
  cases e <;> simp [plD,encD] at h q ⊢
  exact q
 | .tup ds,e,h',h,q=>by
  cases e <;> simp [plD,encD] at h' h q ⊢
  exact encDs_inj _ _ h' h (encL_inj q)
 | .lst ds,e,h',h,q=>by
  cases e <;> simp [plD,encD] at h' h q ⊢
  exact encDs_inj _ _ h' h (encL_inj q)
 | .str _,_,h,_,_=>by simp [plD] at h
 | .ty _,_,h,_,_=>by simp [plD] at h
 | .fz _,_,h,_,_=>by simp [plD] at h
 | .st,_,h,_,_=>by simp [plD] at h
 | .own _,_,h,_,_=>by simp [plD] at h
 | .dic,_,h,_,_=>by simp [plD] at h
 | .dct _ _,_,h,_,_=>by simp [plD] at h
theorem encDs_inj:∀ (ds es:List D),plDs ds = true -> plDs es = true -> encDs ds = encDs es -> ds = es
 | [],[],_,_,_=>rfl
 | [],e :: es,_,_,q=>by simp [encDs] at q
 | d :: ds,[],_,_,q=>by simp [encDs] at q
 | d :: ds,e :: es,h',h,q=>by
  simp [encDs,plDs] at h' h q
  rw [encD_inj d e h'.1 h.1 (encL_inj q.1),encDs_inj ds es h'.2 h.2 q.2]
end
inductive Cell where
 /-- a dict with whole numbers as keys -/
 | dic (kv:List (Int × D))
 /-- an instance of the class at C: its attributes -/
 | ins (C:Addr) (fs:List (Str × D))
def plC:Cell -> Bool
 | .dic kv=>plDs (kv.map (·.2))
 | .ins _ fs=>plDs (fs.map (·.2))
def encC:Cell -> List Nat
 | .dic kv=>[0,encL ((kv.map (·.1)).map encI),encL (encDs (kv.map (·.2)))]
 | .ins C fs=>[1,C,encL ((fs.map (·.1)).map fun s=>encL s.cps.toList),encL (encDs (fs.map (·.2)))]
theorem encS_inj {x y:Str} (h:encL x.cps.toList = encL y.cps.toList):x = y:=by
 obtain ⟨x⟩:=x
 obtain ⟨y⟩:=y
 have:=encL_inj h
 simp only [Str.mk.injEq]
 exact Array.toList_inj.mp this
theorem pairs_eq {α β:Type}:∀ {l r:List (α × β)},l.map (·.1) = r.map (·.1) -> l.map (·.2) = r.map (·.2) -> l = r
 | [],[],_,_=>rfl
 | [],_ :: _,h,_=>by simp at h
 | _ :: _,[],h,_=>by simp at h
 | p :: l,q :: r,h,g=>by
  simp only [List.map_cons,List.cons.injEq] at h g
  rw [pairs_eq h.2 g.2,Prod.ext h.1 g.1]
theorem encC_inj:∀ {c e:Cell},plC c = true -> plC e = true -> encC c = encC e -> c = e
 | .dic kv,.dic kv',h,h',q=>by
  simp only [encC,List.cons.injEq,true_and,and_true] at q
  rw [pairs_eq (map_inj2 (fun h=>encI_inj h) (encL_inj q.1)) (encDs_inj _ _ h h' (encL_inj q.2))]
 | .dic _,.ins _ _,_,_,q=>by simp [encC] at q
 | .ins _ _,.dic _,_,_,q=>by simp [encC] at q
 | .ins C fs,.ins C' fs',h,h',q=>by
  simp only [encC,List.cons.injEq,true_and,and_true] at q
  rw [q.1,pairs_eq (map_inj2 (fun h=>encS_inj h) (encL_inj q.2.1)) (encDs_inj _ _ h h' (encL_inj q.2.2))]
abbrev Wd:=Nat × List (Addr × Cell)
def plW (w:Wd):Prop:=∀ p ∈ w.2,plC p.2 = true
@[irreducible] def encW (w:Wd):Nat:=64 + encL [w.1,encL (w.2.map fun p=>encL [p.1,encL (encC p.2)])]
theorem encW_ge (w:Wd):64 <= encW w:=by unfold encW; lia
theorem encW_inj:∀ {v w:Wd},plW v -> plW w -> encW v = encW w -> v = w:=fun {v w} hv hw h=>by
 unfold encW at h
 obtain ⟨k,l⟩:=v
 obtain ⟨k',l'⟩:=w
 have h1:=encL_inj (Nat.add_left_cancel h)
 simp only [List.cons.injEq,and_true] at h1
 have key:∀ {l l':List (Addr × Cell)},(∀ p ∈ l,plC p.2 = true) -> (∀ p ∈ l',plC p.2 = true) -> (l.map fun p=>encL [p.1,encL (encC p.2)]) = l'.map (fun p=>encL [p.1,encL (encC p.2)]) -> l = l':=by
  intro l
  induction l with
  | nil=>intro l' _ _ h; cases l' <;> simp at h ⊢
  | cons p l ih =>
   intro l' h1 h2 h
   cases l' with
   | nil=>simp at h
   | cons p' l' =>
    simp only [List.map_cons,List.cons.injEq] at h
    have e:=encL_inj h.1
    simp only [List.cons.injEq,and_true] at e
    have e2:=encC_inj (h1 p List.mem_cons_self) (h2 p' List.mem_cons_self) (encL_inj e.2)
    rw [ih (fun q hq=>h1 q (List.mem_cons_of_mem _ hq)) (fun q hq=>h2 q (List.mem_cons_of_mem _ hq)) h.2,Prod.ext e.1 e2]
 exact Prod.ext h1.1 (key hv hw (encL_inj h1.2))
open Classical in
noncomputable def decW (n:Nat):Wd:=if h:∃ w,plW w /\ encW w = n then Classical.choose h else (n,[])
theorem decW_enc {w:Wd} (h:plW w):decW (encW w) = w:=by
 have g:∃ v,plW v /\ encW v = encW w:=⟨w,h,rfl⟩
 unfold decW
 rw [dif_pos g]
 exact encW_inj (Classical.choose_spec g).1 h (Classical.choose_spec g).2
theorem decW_pl (n:Nat):plW (decW n):=by
 unfold decW
 split
 ·rename_i g; exact (Classical.choose_spec g).1
 ·intro p hp; simp at hp
theorem decW_lt {n:Nat} (h:n < 64):decW n = (n,[]):=by
 unfold decW
 rw [dif_neg]
 rintro ⟨w,_,rfl⟩
 have:=encW_ge w
 lia
noncomputable def kOf (n:Nat):Nat:=(decW n).1
noncomputable def cellAt (n:Nat) (a:Addr):Option Cell:=(decW n).2.lookup a
noncomputable def cellsOf (n:Nat):List Addr:=(decW n).2.map (·.1)
noncomputable def setC (n:Nat) (a:Addr) (c:Cell):Nat:=encW (kOf n,(a,c) :: (decW n).2)
theorem kOf_lt {n:Nat} (h:n < 64):kOf n = n:=by unfold kOf; rw [decW_lt h]
@[simp] theorem kOf_2:kOf 2 = 2:=kOf_lt (by decide)
@[simp] theorem kOf_3:kOf 3 = 3:=kOf_lt (by decide)
theorem cellAt_lt {n:Nat} {a:Addr} (h:n < 64):cellAt n a = none:=by unfold cellAt; rw [decW_lt h]; rfl
theorem decW_set {n:Nat} {a:Addr} {c:Cell} (h:plC c = true):decW (setC n a c) = (kOf n,(a,c) :: (decW n).2):=decW_enc fun p hp=>by
 rcases List.mem_cons.mp hp with rfl | hp
 ·exact h
 ·exact decW_pl n p hp
theorem kOf_set {n:Nat} {a:Addr} {c:Cell} (h:plC c = true):kOf (setC n a c) = kOf n:=by unfold kOf; rw [decW_set h]; rfl
theorem cellAt_set {n:Nat} {a b:Addr} {c:Cell} (h:plC c = true):cellAt (setC n a c) b = if b = a then some c else cellAt n b:=by
 unfold cellAt
 rw [decW_set h]
 by_cases e:b = a
 ·subst e; simp
 ·rw [if_neg e]
  simp [List.lookup,beq_eq_false_iff_ne.mpr e]
theorem cellsOf_mem {n:Nat} {a:Addr} (h:cellAt n a ≠ none):a ∈ cellsOf n:=by
 unfold cellAt at h
 unfold cellsOf
 have key:∀ l:List (Addr × Cell),l.lookup a ≠ none -> a ∈ l.map (·.1):=by
  intro l
  induction l with
  | nil=>intro h; exact absurd rfl h
  | cons p l ih =>
   intro h
   rw [List.map_cons]
   by_cases e:a = p.1
   ·rw [e]; exact List.mem_cons_self
   ·exact List.mem_cons_of_mem _ (ih (by simpa [List.lookup,beq_eq_false_iff_ne.mpr e] using h))
 exact key _ h
def KvR (K:PySem.W.Frag) (Z:Addr -> Prop) (H:Hp):List (Int × D) -> List (Key × V) -> Prop
 | [],[]=>True
 | p :: l,q :: r=>q.1 = .inl p.1 /\ Rep K none Z H p.2 q.2 /\ KvR K Z H l r
 | _,_=>False
def FsR (K:PySem.W.Frag) (Z:Addr -> Prop) (H:Hp):List (Str × D) -> List (Str × V) -> Prop
 | [],[]=>True
 | p :: l,q :: r=>q.1 = p.1 /\ Rep K none Z H p.2 q.2 /\ FsR K Z H l r
 | _,_=>False
theorem KvR.mono {K:PySem.W.Frag} {Z Z':Addr -> Prop} {H H':Hp} (hz:∀ a,H a ≠ none -> Z' a -> Z a) (hf:∀ a o,¬ Z a -> H a = some o -> H' a = some o):∀ {l:List (Int × D)} {r:List (Key × V)},KvR K Z H l r -> KvR K Z' H' l r
 | [],[],_=>trivial
 | _ :: _,_ :: _,h=>⟨h.1,Rep.mono hz hf _ _ h.2.1,KvR.mono hz hf h.2.2⟩
theorem FsR.mono {K:PySem.W.Frag} {Z Z':Addr -> Prop} {H H':Hp} (hz:∀ a,H a ≠ none -> Z' a -> Z a) (hf:∀ a o,¬ Z a -> H a = some o -> H' a = some o):∀ {l:List (Str × D)} {r:List (Str × V)},FsR K Z H l r -> FsR K Z' H' l r
 | [],[],_=>trivial
 | _ :: _,_ :: _,h=>⟨h.1,Rep.mono hz hf _ _ h.2.1,FsR.mono hz hf h.2.2⟩
def CellR (K:PySem.W.Frag) (Z:Addr -> Prop) (H:Hp) (a:Addr):Cell -> Prop
 | .dic kv=>∃ kvs,H a = some (.dK kvs) /\ KvR K Z H kv kvs
 | .ins C fs=>∃ dx gs,H a = some (.ins C dx gs) /\ FsR K Z H fs gs
theorem CellR.ne {K:PySem.W.Frag} {Z:Addr -> Prop} {H:Hp} {a:Addr} {c:Cell} (h:CellR K Z H a c):H a ≠ none:=by
 cases c with
 | dic kv=>obtain ⟨xs,h,_⟩:=h; rw [h]; simp
 | ins C fs=>obtain ⟨dx,xs,h,_⟩:=h; rw [h]; simp
theorem CellR.mono {K:PySem.W.Frag} {Z Z':Addr -> Prop} {H H':Hp} {a:Addr} {c:Cell} (h:CellR K Z H a c) (hz:∀ a,H a ≠ none -> Z' a -> Z a) (hf:∀ a o,¬ Z a -> H a = some o -> H' a = some o) (hc:∀ o,H a = some o -> H' a = some o):CellR K Z' H' a c:=by
 cases c with
 | dic kv=>obtain ⟨xs,h,r⟩:=h; exact ⟨xs,hc _ h,r.mono hz hf⟩
 | ins C fs=>obtain ⟨dx,xs,h,r⟩:=h; exact ⟨dx,xs,hc _ h,r.mono hz hf⟩
def StOk (K:PySem.W.Frag) (Z C:Addr -> Prop) (G:Option Addr) (n:Nat) (H:Hp):Prop :=
 (∀ a,G = some a -> ∃ (zs:List Int) (_ _:Nat),H a = some (.lst (zs.map V.int)) /\ zs.length = kOf n /\ (∀ x ∈ zs,0 <= x) /\ ∀ x,zs[1]? = some x -> x < 2147483647) /\
 ∀ a c,cellAt n a = some c -> C a /\ G ≠ some a /\ CellR K Z H a c
theorem StOk.monoC {K:PySem.W.Frag} {Z Z' C C':Addr -> Prop} {G:Option Addr} {n:Nat} {H H':Hp} (h:StOk K Z C G n H) (hz:∀ a,H a ≠ none -> Z' a -> Z a) (hf:∀ a o,¬ Z a -> H a = some o -> H' a = some o) (hg:∀ a o,G = some a -> H a = some o -> H' a = some o)
  (hC:∀ a,cellAt n a ≠ none -> C a -> C' a) (hc:∀ a o,cellAt n a ≠ none -> H a = some o -> H' a = some o):StOk K Z' C' G n H' :=
 ⟨fun a e => by
  obtain ⟨zs,u,v,q,r⟩:=h.1 a e
  exact ⟨zs,u,v,hg a _ e q,r⟩,fun a c e=>by
  obtain ⟨q1,q2,q3⟩:=h.2 a c e
  have ne:cellAt n a ≠ none:=by rw [e]; simp
  exact ⟨hC a ne q1,q2,q3.mono hz hf fun o=>hc a o ne⟩⟩
theorem StOk.mono {K:PySem.W.Frag} {Z Z' C C':Addr -> Prop} {G:Option Addr} {n:Nat} {H H':Hp} (h:StOk K Z C G n H) (hz:∀ a,H a ≠ none -> Z' a -> Z a) (hf:∀ a o,¬ Z a -> H a = some o -> H' a = some o) (hg:∀ a o,G = some a -> H a = some o -> H' a = some o)
  (hC:∀ a,cellAt n a ≠ none -> C a -> C' a) (hc:∀ a o,C a -> H a = some o -> H' a = some o):StOk K Z' C' G n H' :=
 h.monoC hz hf hg hC fun a o ne e=>by
  cases q:cellAt n a with
  | none=>exact absurd q ne
  | some c=>exact hc a o (h.2 a c q).1 e
structure AC where
 K:PySem.W.Frag
 G:Option Addr
 Z0:Addr -> Prop
 H0:Hp
abbrev Rho:=List (Option D)
def Zof (A:AC) (os:List (Nat × Addr)):Addr -> Prop:=fun a=>A.Z0 a \/ ∃ p ∈ os,p.2 = a
def SlotR (A:AC) (os:List (Nat × Addr)) (H:Hp) (i:Nat):D -> V -> Prop
 | .own ds,v=>∃ a xs,v = .ref a /\ (i,a) ∈ os /\ H a = some (.lst xs) /\ Reps A.K A.G (Zof A os) H ds xs
 | d,v=>Rep A.K A.G (Zof A os) H d v
def Cof (A:AC) (os:List (Nat × Addr)) (m:Nat):Addr -> Prop:=fun a=>(A.Z0 a /\ A.H0 a = none) \/ ∃ p ∈ os,p.2 = a /\ m <= p.1
structure AmO (A:AC) (os:List (Nat × Addr)) (n:Nat) (rho:Rho) (sg:St) (H:Hp) (ds:List D) (vs:List V):Prop where
 len:rho.length = sg.length
 slot:∀ i d,rho[i]? = some (some d) -> ∃ v,sg[i]? = some (some v) /\ SlotR A os H i d v
 pend:Reps A.K A.G (Zof A os) H ds vs
 nd:os.Pairwise fun p q=>p.1 ≠ q.1 /\ p.2 ≠ q.2
 fresh:∀ p ∈ os,A.H0 p.2 = none /\ ¬ A.Z0 p.2 /\ H p.2 ≠ none
 st:StOk A.K (Zof A os) (Cof A os rho.length) A.G n H
 gz:∀ a,A.G = some a -> A.Z0 a
 fr:∀ a o,A.G ≠ some a -> A.H0 a = some o -> H a = some o
 z0:∀ a,A.Z0 a -> A.H0 a ≠ none \/ cellAt n a ≠ none
def Am (A:AC) (n:Nat) (rho:Rho) (sg:St) (H:Hp) (ds:List D) (vs:List V):Prop:=∃ os,AmO A os n rho sg H ds vs
section
variable {A:AC} {os:List (Nat × Addr)} {n:Nat} {rho:Rho} {sg:St} {H:Hp} {ds:List D} {vs:List V} {d:D} {v:V}
theorem AmO.zH (I:AmO A os n rho sg H ds vs):∀ a,Zof A os a -> H a ≠ none:=fun a h=>by
 rcases h with h | ⟨p,hp,rfl⟩
 ·by_cases e : A.G = some a
  ·obtain ⟨x, y, z, q, _⟩ := I.st.1 a e
   rw [q]; simp
  ·rcases I.z0 a h with z | z
   ·cases q : A.H0 a with
    | none=>exact absurd q z
    | some o=>rw [I.fr a o e q]; simp
   ·cases q : cellAt n a with
    | none=>exact absurd q z
    | some c=>exact (I.st.2 a c q).2.2.ne
 ·exact (I.fresh p hp).2.2
theorem AmO.noOwn (I:AmO A os n rho sg H ds vs) {i:Nat} {a:Addr} (hi:i < rho.length) (hm:(i,a) ∈ os):cellAt n a = none:=by
 cases q:cellAt n a with
 | none=>rfl
 | some c =>
  exfalso
  rcases (I.st.2 a c q).1 with ⟨z,_⟩ | ⟨p,hp,e,hl⟩
  ·exact (I.fresh _ hm).2.1 z
  ·have key : ∀ (l : List (Nat × Addr)), l.Pairwise (fun p q => p.1 ≠ q.1 /\ p.2 ≠ q.2) -> (i, a) ∈ l -> ∀ q ∈ l, q.2 = a -> q.1 = i := by
    intro l
    induction l with
    | nil=>intro _ h; simp at h
    | cons c l ih =>
     intro hp h1 q hq hqa
     obtain ⟨p1,p2⟩:=List.pairwise_cons.mp hp
     rcases List.mem_cons.mp h1 with e1 | h1 <;> rcases List.mem_cons.mp hq with e2 | h2
     ·rw [e2,<- e1]
     ·exact absurd (by rw [<- e1,hqa]) (p1 _ h2).2
     ·exact absurd (by rw [<- e2,hqa]) (p1 _ h1).2
     ·exact ih p2 h1 q h2 hqa
   have:=key os I.nd hm p hp e
   lia
theorem SlotR.mono {os':List (Nat × Addr)} {H':Hp} {i:Nat} (hz:∀ a,H a ≠ none -> Zof A os' a -> Zof A os a) (hf:∀ a o,¬ Zof A os a -> H a = some o -> H' a = some o)
  (ho:∀ a xs,(i,a) ∈ os -> H a = some (.lst xs) -> (i,a) ∈ os' /\ H' a = some (.lst xs)):∀ (d:D) (v:V),SlotR A os H i d v -> SlotR A os' H' i d v
 | .own ds,v,h=>by
  obtain ⟨a,xs,e,m,q,r⟩:=h
  obtain ⟨m',q'⟩:=ho a xs m q
  exact ⟨a,xs,e,m',q',Reps.mono hz hf ds xs r⟩
 | .non,v,h=>Rep.mono hz hf _ _ h
 | .bl _,v,h=>Rep.mono hz hf _ _ h
 | .int _,v,h=>Rep.mono hz hf _ _ h
 | .str _,v,h=>Rep.mono hz hf _ _ h
 | .ty _,v,h=>Rep.mono hz hf _ _ h
 | .tup _,v,h=>Rep.mono hz hf _ _ h
 | .lst _,v,h=>Rep.mono hz hf _ _ h
 | .st,v,h=>Rep.mono hz hf _ _ h
 | .fz _,v,h=>Rep.mono hz hf _ _ h
 | .dic,v,h=>Rep.mono hz hf _ _ h
 | .dct _ _,v,h=>Rep.mono hz hf _ _ h
 | .rf _,v,h=>Rep.mono hz hf _ _ h
def notOwn:D -> Bool
 | .own _=>false
 | _=>true
theorem SlotR.rep {i:Nat}:∀ {d:D} {v:V},notOwn d = true -> SlotR A os H i d v -> Rep A.K A.G (Zof A os) H d v
 | .own _,_,h,_=>by simp [notOwn] at h
 | .non,_,_,h=>h
 | .bl _,_,_,h=>h
 | .int _,_,_,h=>h
 | .str _,_,_,h=>h
 | .ty _,_,_,h=>h
 | .tup _,_,_,h=>h
 | .lst _,_,_,h=>h
 | .st,_,_,h=>h
 | .fz _,_,_,h=>h
 | .dic,_,_,h=>h
 | .dct _ _,_,_,h=>h
 | .rf _,_,_,h=>h
theorem SlotR.of {i:Nat}:∀ {d:D} {v:V},Rep A.K A.G (Zof A os) H d v -> SlotR A os H i d v
 | .own _,_,h=>by unfold Rep at h; exact h.elim
 | .non,_,h=>h
 | .bl _,_,h=>h
 | .int _,_,h=>h
 | .str _,_,h=>h
 | .ty _,_,h=>h
 | .tup _,_,h=>h
 | .lst _,_,h=>h
 | .st,_,h=>h
 | .fz _,_,h=>h
 | .dic,_,h=>h
 | .dct _ _,_,h=>h
 | .rf _,_,h=>h
theorem AmO.push (I:AmO A os n rho sg H ds vs) (h:Rep A.K A.G (Zof A os) H d v):AmO A os n rho sg H (d :: ds) (v :: vs) :=
 ⟨I.len,I.slot,.cons h I.pend,I.nd,I.fresh,I.st,I.gz,I.fr,I.z0⟩
theorem AmO.pends {es:List D} {ws:List V} (I:AmO A os n rho sg H ds vs) (h:Reps A.K A.G (Zof A os) H es ws):AmO A os n rho sg H es ws :=
 ⟨I.len,I.slot,h,I.nd,I.fresh,I.st,I.gz,I.fr,I.z0⟩
theorem AmO.pop (I:AmO A os n rho sg H (d :: ds) (v :: vs)):AmO A os n rho sg H ds vs /\ Rep A.K A.G (Zof A os) H d v:=⟨I.pends I.pend.inv.2,I.pend.inv.1⟩
theorem AmO.grow {p:Addr} {o:HO} (I:AmO A os n rho sg H ds vs) (hp:H p = none):AmO A os n rho sg (upd H p o) ds vs:=by
 have hf:∀ a u,H a = some u -> upd H p o a = some u:=fun a u e=>by rw [upd_ne (ne_of_none e hp)]; exact e
 refine ⟨I.len,fun i d e=>?_,Reps.mono (fun _ _ z=>z) (fun a u _ e=>hf a u e) _ _ I.pend,I.nd,fun q hq=>?_,I.st.mono (fun _ _ z=>z) (fun a u _ e=>hf a u e) (fun a u _ e=>hf a u e) (fun _ _ z=>z) (fun a u _ e=>hf a u e),I.gz,fun a u h e=>hf a u (I.fr a u h e),I.z0⟩
 ·obtain ⟨v, e1, e2⟩ := I.slot i d e
  exact ⟨v,e1,SlotR.mono (fun _ _ z=>z) (fun a u _ e=>hf a u e) (fun a xs m q=>⟨m,hf a _ q⟩) _ _ e2⟩
 ·obtain ⟨f1, f2, f3⟩ := I.fresh q hq
  refine ⟨f1,f2,?_⟩
  cases e:H q.2 with
  | none=>exact absurd e f3
  | some u=>rw [hf _ _ e]; simp
theorem AmO.newTup {p:Addr} {es:List D} {xs:List V} (I:AmO A os n rho sg H ds vs) (r:Reps A.K A.G (Zof A os) H es xs) (hp:H p = none):AmO A os n rho sg (upd H p (.tup xs)) (.tup es :: ds) (.ref p :: vs):=by
 have g:=I.grow (o:=.tup xs) hp
 refine g.push (.tup_mk (.inl ⟨fun z=>I.zH p z hp,.inl upd_same⟩) ?_)
 exact Reps.mono (fun _ _ z=>z) (fun a u _ e=>by rw [upd_ne (ne_of_none e hp)]; exact e) _ _ r
theorem AmO.newLst {p:Addr} {es:List D} {xs:List V} (I:AmO A os n rho sg H ds vs) (r:Reps A.K A.G (Zof A os) H es xs) (hp:H p = none):AmO A os n rho sg (upd H p (.lst xs)) (.lst es :: ds) (.ref p :: vs):=by
 have g:=I.grow (o:=.lst xs) hp
 refine g.push (.lst_mk ⟨fun z=>I.zH p z hp,upd_same⟩ ?_)
 exact Reps.mono (fun _ _ z=>z) (fun a u _ e=>by rw [upd_ne (ne_of_none e hp)]; exact e) _ _ r
theorem Cof.filter {i:Nat} {a:Addr} {x:Option D} (hi:i < rho.length) (z:Cof A os rho.length a):Cof A (os.filter fun p=>decide (p.1 ≠ i)) (rho.set i x).length a:=by
 rw [List.length_set]
 rcases z with z | ⟨p,hp,e,hl⟩
 ·exact .inl z
 ·exact .inr ⟨p,List.mem_filter.mpr ⟨hp,by simp; lia⟩,e,hl⟩
theorem AmO.set {i:Nat} (I:AmO A os n rho sg H (d :: ds) (v :: vs)) (hi:i < rho.length):AmO A (os.filter fun p=>decide (p.1 ≠ i)) n (rho.set i (some d)) (sg.set i (some v)) H ds vs:=by
 obtain ⟨J,hr⟩:=I.pop
 have sub:∀ a,H a ≠ none -> Zof A (os.filter fun p=>decide (p.1 ≠ i)) a -> Zof A os a:=fun a _ z=>by
  rcases z with z | ⟨p,hp,e⟩
  ·exact .inl z
  ·exact .inr ⟨p,(List.mem_filter.mp hp).1,e⟩
 refine ⟨by simp [I.len],fun j c e=>?_,Reps.mono sub (fun _ _ _ e=>e) _ _ J.pend,I.nd.filter _,fun p hp=>I.fresh p (List.mem_filter.mp hp).1,I.st.mono sub (fun _ _ _ e=>e) (fun _ _ _ e=>e) (fun a _ z=>Cof.filter hi z) (fun _ _ _ e=>e),I.gz,I.fr,I.z0⟩
 by_cases hj:j = i
 ·subst hj
  rw [List.getElem?_set_self hi] at e
  cases e
  exact ⟨v,List.getElem?_set_self (by rw [<- I.len]; exact hi),SlotR.of (Rep.mono sub (fun _ _ _ e=>e) _ _ hr)⟩
 ·rw [List.getElem?_set_ne (Ne.symm hj)] at e
  obtain ⟨u,e1,e2⟩:=I.slot j c e
  exact ⟨u,by rw [List.getElem?_set_ne (Ne.symm hj)]; exact e1,SlotR.mono sub (fun _ _ _ e=>e) (fun a xs m q=>⟨List.mem_filter.mpr ⟨m,by simpa using hj⟩,q⟩) _ _ e2⟩
end
abbrev TD:=Rho -> Nat -> (D -> Nat -> Prop) -> Prop
abbrev TBD:=Rho -> Nat -> (Bool -> Nat -> Prop) -> Prop
abbrev TAD:=Rho -> Nat -> (List D -> Nat -> Prop) -> Prop
def tOf (A:AC) (t:TD):TE:=fun sg H Q=>∃ rho n P ds vs,Am A n rho sg H ds vs /\ t rho n P /\ ∀ v H' n' d,Am A n' rho sg H' (d :: ds) (v :: vs) -> P d n' -> Q v H'
def ttOf (A:AC) (t:TBD):TT:=fun sg H Q=>∃ rho n P ds vs,Am A n rho sg H ds vs /\ t rho n P /\ ∀ b H' n',Am A n' rho sg H' ds vs -> P b n' -> Q b H'
def taOf (A:AC) (t:TAD):TA:=fun sg H Q=>∃ rho n P ds vs,Am A n rho sg H ds vs /\ t rho n P /\ ∀ ws H' n' es,Am A n' rho sg H' (es ++ ds) (ws ++ vs) -> ws.length = es.length -> P es n' -> Q ws H'
@[irreducible] def PD (A:AC) (X:Cx) (e:Expr) (t:TD):Prop:=PE X e (tOf A t)
@[irreducible] def PTD (A:AC) (X:Cx) (e:Expr) (t:TBD):Prop:=PT X e (ttOf A t)
@[irreducible] def PWD (A:AC) (X:Cx) (e:Expr) (t:TBD):Prop:=PW X e (ttOf A t)
@[irreducible] def PAD (A:AC) (X:Cx) (es:List Expr) (t:TAD):Prop:=PA X es (taOf A t)
theorem PE.imp {X:Cx} {e:Expr} {t t':TE} (h:PE X e t) (hi:∀ sg H Q,t' sg H Q -> t sg H Q):PE X e t':=fun pins s sg H Q I q=>h pins s sg H Q I (hi _ _ _ q)
theorem PT.imp {X:Cx} {e:Expr} {t t':TT} (h:PT X e t) (hi:∀ sg H Q,t' sg H Q -> t sg H Q):PT X e t':=fun pins s sg H Q I q=>h pins s sg H Q I (hi _ _ _ q)
theorem PW.imp {X:Cx} {e:Expr} {t t':TT} (h:PW X e t) (hi:∀ sg H Q,t' sg H Q -> t sg H Q):PW X e t':=fun wh pins s sg H Q I q=>h wh pins s sg H Q I (hi _ _ _ q)
theorem PA.imp {X:Cx} {e:List Expr} {t t':TA} (h:PA X e t) (hi:∀ sg H Q,t' sg H Q -> t sg H Q):PA X e t':=fun ps pins s sg H Q I q=>h ps pins s sg H Q I (hi _ _ _ q)
theorem PS.imp {X:Cx} {e:Stmt} {t t':TS} (h:PS X e t) (hi:∀ E sg H,t' E sg H -> t E sg H):PS X e t':=fun pins s sg H Q I q=>h pins s sg H Q I (hi _ _ _ q)
theorem PSs.imp {X:Cx} {e:List Stmt} {t t':TS} (h:PSs X e t) (hi:∀ E sg H,t' E sg H -> t E sg H):PSs X e t':=fun pins s sg H Q I q=>h pins s sg H Q I (hi _ _ _ q)
end L2
set_option maxRecDepth 100000
namespace L2
open PySem PySem.Spec PyProof.Rows
section
variable {A:AC} {X:Cx} {a b c e:Expr} {es:List Expr} {ta tb tc:TD} {pos:Pos}
def atD (d:D) (k:D -> Prop):Prop:=match d with
 | .own _=>False
 | .non=>k .non
 | .bl b=>k (.bl b)
 | .int b=>k (.int b)
 | .str b=>k (.str b)
 | .ty b=>k (.ty b)
 | .tup b=>k (.tup b)
 | .lst b=>k (.lst b)
 | .fz b=>k (.fz b)
 | .st=>k .st
 | .dic=>k .dic
 | .dct a b=>k (.dct a b)
 | .rf a=>k (.rf a)
theorem atD_inv {d:D} {k:D -> Prop} (h:atD d k):notOwn d = true /\ k d:=by
 cases d <;> first | exact ⟨rfl,h⟩ | exact h.elim
theorem atD_mk {d:D} {k:D -> Prop} (h:notOwn d = true) (q:k d):atD d k:=by
 cases d <;> first | exact q | (simp [notOwn] at h; done)
def atV (o:Option (Option D)) (k:D -> Prop):Prop:=match o with | some (some d)=>atD d k | _=>False
theorem atV_inv {o:Option (Option D)} {k:D -> Prop} (h:atV o k):∃ d,o = some (some d) /\ notOwn d = true /\ k d:=by
 match o,h with
 | some (some d),h=>exact ⟨d,rfl,atD_inv h⟩
def dVar (i:Nat):TD:=fun rho n P=>atV rho[i]? fun d=>P d n
def dC (d:D):TD:=fun _ n P=>P d n
theorem pd_var (i:Nat) {x:Str} (hN:X.N[i]? = some x:=by rfl) (hv:Vis X.env.scope x:=by first | exact Or.inl rfl | exact Or.inr (Or.inl rfl) | exact Or.inr (Or.inr rfl)) (hd:(x == ("__debug__" : Str)) = false:=by decide)
  (hcd:(x == ("__classdict__" : Str)) = false:=by decide):PD A X (.Name x pos) (dVar i):=by
 with_unfolding_all
  exact (pe_var hN hv hd hcd).imp fun sg H Q h=>by
   obtain ⟨rho,n,P,ds,vs,⟨os,I⟩,hh,hQ⟩:=h
   obtain ⟨d,e,hd,q⟩:=atV_inv hh
   obtain ⟨v,e1,e2⟩:=I.slot i d e
   exact ⟨v,e1,hQ v H n d ⟨os,I.push (e2.rep hd)⟩ q⟩
theorem dC_ok {d:D} (hs:scalD d = true) {t:TE} (ht:∀ sg H Q,Q (ofS d) H -> t sg H Q) (h:PE X e t):PD A X e (dC d):=by
 with_unfolding_all
  exact h.imp fun sg H Q q=>by
   obtain ⟨rho,n,P,ds,vs,⟨os,I⟩,q,hQ⟩:=q
   exact ht _ _ _ (hQ _ H n d ⟨os,I.push (Rep.ofS hs)⟩ q)
theorem pd_int {i:Int} {j:Nat}:PD A X (.Constant (.int i) j pos) (dC (.int i)):=by
 with_unfolding_all
  exact dC_ok rfl (fun _ _ _ q=>q) pe_int
theorem pd_bl {i:Bool} {j:Nat}:PD A X (.Constant (.bool i) j pos) (dC (.bl i)):=by
 with_unfolding_all
  exact dC_ok rfl (fun _ _ _ q=>q) pe_bl
theorem pd_non {j:Nat}:PD A X (.Constant .none j pos) (dC .non):=by
 with_unfolding_all
  exact dC_ok rfl (fun _ _ _ q=>q) pe_non
theorem pd_str {x:Str} {j:Nat}:PD A X (.Constant (.str x) j pos) (dC (.str x)):=by
 with_unfolding_all
  exact dC_ok rfl (fun _ _ _ q=>q) pe_str
abbrev RD2:=D -> D -> (D -> Prop) -> Prop
def OpRel (A:AC) (r:R2) (rd:RD2):Prop :=
 ∀ os n rho sg H ds vs d1 d2 v1 v2 (k:D -> Prop) (Q:VK),AmO A os n rho sg H (d2 :: d1 :: ds) (v2 :: v1 :: vs) -> rd d1 d2 k -> (∀ v H' d,Am A n rho sg H' (d :: ds) (v :: vs) -> k d -> Q v H') -> r v1 v2 H Q
def dOp (rd:RD2) (ta tb:TD):TD:=fun rho n P=>ta rho n fun d1 n1=>tb rho n1 fun d2 n2=>rd d1 d2 fun d=>P d n2
def dTest (t:TD):TBD:=fun rho n P=>t rho n fun d n'=>∃ b,d = .bl b /\ P b n'
theorem tOp_of {r:R2} {rd:RD2} (hr:OpRel A r rd) {sg:St} {H:Hp} {Q:VK} (h:tOf A (dOp rd ta tb) sg H Q):tOp r (tOf A ta) (tOf A tb) sg H Q:=by
 obtain ⟨rho,n,P,ds,vs,I,ht,hQ⟩:=h
 exact ⟨rho,n,_,ds,vs,I,ht,fun v1 H1 n1 d1 I1 h1=>⟨rho,n1,_,d1 :: ds,v1 :: vs,I1,h1,fun v2 H2 n2 d2 ⟨os2,I2⟩ h2=>hr _ _ _ _ _ _ _ _ _ _ _ _ Q I2 h2 fun v H' d J k=>hQ v H' n2 d J k⟩⟩
theorem tTest_of {t:TE} {td:TD} (h:∀ sg H Q,tOf A td sg H Q -> t sg H Q) {sg:St} {H:Hp} {Q:Bool -> Hp -> Prop} (q:ttOf A (dTest td) sg H Q):tTest t sg H Q:=by
 obtain ⟨rho,n,P,ds,vs,I,ht,hQ⟩:=q
 refine h _ _ _ ⟨rho,n,_,ds,vs,I,ht,fun v H' n' d ⟨os,J⟩ k=>?_⟩
 obtain ⟨b,rfl,k⟩:=k
 obtain ⟨J1,r⟩:=J.pop
 exact ⟨b,r.bl_inv,hQ b H' n' ⟨os,J1⟩ k⟩
theorem pd_op {op:Operator} {r:R2} {rd:RD2} (ho:OpR X (binaryOp op) r) (hr:OpRel A r rd) (ha:PD A X a ta) (hb:PD A X b tb):PD A X (.BinOp a op b pos) (dOp rd ta tb):=by
 with_unfolding_all
  exact (pe_op ho ha hb).imp fun _ _ _=>tOp_of hr
theorem pd_cmp {op:CmpOp} {r:R2} {rd:RD2} (ho:OpR X (compareOp op) r) (hr:OpRel A r rd) (ha:PD A X a ta) (hb:PD A X b tb) (hm:behindInMarks op b = false):PD A X (.Compare a [op] [b] pos) (dOp rd ta tb):=by
 with_unfolding_all
  exact (pe_cmpR ho ha hb hm).imp fun _ _ _=>tOp_of hr
theorem ptd_cmp {op:CmpOp} {r:R2} {rd:RD2} (ho:OpR X (compareOp op) r) (hr:OpRel A r rd) (ha:PD A X a ta) (hb:PD A X b tb) (hm:behindInMarks op b = false):PTD A X (.Compare a [op] [b] pos) (dTest (dOp rd ta tb)):=by
 with_unfolding_all
  exact
   (pt_cmpR ho ha hb hm).imp fun _ _ _=>tTest_of fun _ _ _=>tOp_of hr
theorem pd_ix {r:R2} {rd:RD2} (hi:IxR X r) (hr:OpRel A r rd) (ha:PD A X a ta) (hb:PD A X b tb) (hs:PlainIx b):PD A X (.Subscript a b pos) (dOp rd ta tb):=by
 with_unfolding_all
  exact (pe_ix hi ha hb hs).imp fun _ _ _=>tOp_of hr
def rdI (C:Int -> Int -> Prop) (g:Int -> Int -> D):RD2:=fun d1 d2 k=>match d1,d2 with | .int i,.int j=>C i j /\ k (g i j) | _,_=>False
theorem rdI_inv {C:Int -> Int -> Prop} {g:Int -> Int -> D} {d1 d2:D} {k:D -> Prop} (h:rdI C g d1 d2 k):∃ i j,d1 = .int i /\ d2 = .int j /\ C i j /\ k (g i j):=by
 unfold rdI at h
 split at h
 ·exact ⟨_,_,rfl,rfl,h⟩
 ·exact h.elim
def rdI0 (g:Int -> Int -> D):RD2:=fun d1 d2 k=>match d1,d2 with | .int i,.int j=>k (g i j) | _,_=>False
theorem rdI0_inv {g:Int -> Int -> D} {d1 d2:D} {k:D -> Prop} (h:rdI0 g d1 d2 k):∃ i j,d1 = .int i /\ d2 = .int j /\ k (g i j):=by
 unfold rdI0 at h
 split at h
 ·exact ⟨_,_,rfl,rfl,h⟩
 ·exact h.elim
theorem rel_I {C:Int -> Int -> Prop} {g:Int -> Int -> V} {gd:Int -> Int -> D} (hs:∀ i j,scalD (gd i j) = true) (hg:∀ i j,ofS (gd i j) = g i j):OpRel A (rI C g) (rdI C gd):=by
 rintro os n rho sg H ds vs d1 d2 v1 v2 k Q I hh hQ
 obtain ⟨i,j,rfl,rfl,hc,q⟩:=rdI_inv hh
 obtain ⟨I1,r2⟩:=I.pop
 obtain ⟨I2,r1⟩:=I1.pop
 exact ⟨i,j,r1.int_inv,r2.int_inv,hc,hQ _ H _ ⟨os,I2.push (by rw [<- hg]; exact Rep.ofS (hs i j))⟩ q⟩
theorem rel_I0 {g:Int -> Int -> V} {gd:Int -> Int -> D} (hs:∀ i j,scalD (gd i j) = true) (hg:∀ i j,ofS (gd i j) = g i j):OpRel A (rI0 g) (rdI0 gd):=by
 rintro os n rho sg H ds vs d1 d2 v1 v2 k Q I hh hQ
 obtain ⟨i,j,rfl,rfl,q⟩:=rdI0_inv hh
 obtain ⟨I1,r2⟩:=I.pop
 obtain ⟨I2,r1⟩:=I1.pop
 exact ⟨i,j,r1.int_inv,r2.int_inv,hQ _ H _ ⟨os,I2.push (by rw [<- hg]; exact Rep.ofS (hs i j))⟩ q⟩
abbrev dAdd:TD -> TD -> TD:=dOp (rdI0 fun i j=>.int (i + j))
abbrev dSub:TD -> TD -> TD:=dOp (rdI0 fun i j=>.int (i - j))
abbrev dMul:TD -> TD -> TD:=dOp (rdI CMul fun i j=>.int (i * j))
abbrev dMod:TD -> TD -> TD:=dOp (rdI (fun _ j=>0 < j) fun i j=>.int (i % j))
abbrev dDiv:TD -> TD -> TD:=dOp (rdI CDiv fun i j=>.int (i / j))
abbrev dPow:TD -> TD -> TD:=dOp (rdI CPow fun i j=>.int (i ^ j.toNat))
theorem pd_add (ha:PD A X a ta) (hb:PD A X b tb):PD A X (.BinOp a .Add b pos) (dAdd ta tb):=by
 with_unfolding_all
  exact pd_op op_add (rel_I0 (fun _ _=>rfl) fun _ _=>rfl) ha hb
theorem pd_sub (ha:PD A X a ta) (hb:PD A X b tb):PD A X (.BinOp a .Sub b pos) (dSub ta tb):=by
 with_unfolding_all
  exact pd_op op_sub (rel_I0 (fun _ _=>rfl) fun _ _=>rfl) ha hb
theorem pd_mul (ha:PD A X a ta) (hb:PD A X b tb):PD A X (.BinOp a .Mult b pos) (dMul ta tb):=by
 with_unfolding_all
  exact pd_op op_mul (rel_I (fun _ _=>rfl) fun _ _=>rfl) ha hb
theorem pd_mod (ha:PD A X a ta) (hb:PD A X b tb):PD A X (.BinOp a .Mod b pos) (dMod ta tb):=by
 with_unfolding_all
  exact pd_op op_mod (rel_I (fun _ _=>rfl) fun _ _=>rfl) ha hb
theorem pd_div (ha:PD A X a ta) (hb:PD A X b tb):PD A X (.BinOp a .FloorDiv b pos) (dDiv ta tb):=by
 with_unfolding_all
  exact pd_op op_fdiv (rel_I (fun _ _=>rfl) fun _ _=>rfl) ha hb
theorem pd_pow (ha:PD A X a ta) (hb:PD A X b tb):PD A X (.BinOp a .Pow b pos) (dPow ta tb):=by
 with_unfolding_all
  exact pd_op op_pow (rel_I (fun _ _=>rfl) fun _ _=>rfl) ha hb
abbrev rdLt:RD2:=rdI0 fun i j=>.bl (decide (i < j))
abbrev rdLe:RD2:=rdI0 fun i j=>.bl (decide (i <= j))
abbrev rdGt:RD2:=rdI0 fun i j=>.bl (decide (j < i))
abbrev rdGe:RD2:=rdI0 fun i j=>.bl (decide (j <= i))
theorem re_lt:OpRel A (rI0 fun i j=>.bl (decide (i < j))) rdLt:=rel_I0 (g:=fun i j=>.bl (decide (i < j))) (fun _ _=>rfl) fun _ _=>rfl
theorem re_le:OpRel A (rI0 fun i j=>.bl (decide (i <= j))) rdLe:=rel_I0 (g:=fun i j=>.bl (decide (i <= j))) (fun _ _=>rfl) fun _ _=>rfl
theorem re_gt:OpRel A (rI0 fun i j=>.bl (decide (j < i))) rdGt:=rel_I0 (g:=fun i j=>.bl (decide (j < i))) (fun _ _=>rfl) fun _ _=>rfl
theorem re_ge:OpRel A (rI0 fun i j=>.bl (decide (j <= i))) rdGe:=rel_I0 (g:=fun i j=>.bl (decide (j <= i))) (fun _ _=>rfl) fun _ _=>rfl
def rdEq:RD2:=fun d1 d2 k=>scalD d1 = true /\ scalD d2 = true /\ scal (ofS d1) (ofS d2) = true /\ k (.bl (decide (ofS d1 = ofS d2)))
def rdNe:RD2:=fun d1 d2 k=>scalD d1 = true /\ scalD d2 = true /\ scal (ofS d1) (ofS d2) = true /\ k (.bl (!decide (ofS d1 = ofS d2)))
theorem re_eq:OpRel A rEq rdEq:=by
 rintro os n rho sg H ds vs d1 d2 v1 v2 k Q I ⟨h1,h2,h3,q⟩ hQ
 obtain ⟨I1,r2⟩:=I.pop
 obtain ⟨I2,r1⟩:=I1.pop
 rw [r1.toS h1,r2.toS h2]
 exact ⟨h3,hQ _ H _ ⟨os,I2.push (Rep.ofS rfl)⟩ q⟩
theorem re_ne:OpRel A rNe rdNe:=by
 rintro os n rho sg H ds vs d1 d2 v1 v2 k Q I ⟨h1,h2,h3,q⟩ hQ
 obtain ⟨I1,r2⟩:=I.pop
 obtain ⟨I2,r1⟩:=I1.pop
 rw [r1.toS h1,r2.toS h2]
 exact ⟨h3,hQ _ H _ ⟨os,I2.push (Rep.ofS rfl)⟩ q⟩
def isNon:D -> Bool
 | .non=>true
 | _=>false
def rdIsN:RD2:=fun d1 d2 k=>d2 = .non /\ k (.bl (isNon d1))
def rdNotN:RD2:=fun d1 d2 k=>d2 = .non /\ k (.bl (!isNon d1))
def rdB (f:Bool -> Bool -> Bool):RD2:=fun d1 d2 k=>match d1,d2 with | .bl c,.bl d=>k (.bl (f c d)) | _,_=>False
def rdIx:RD2:=fun d1 d2 k=>∃ es i d,(d1 = .lst es \/ d1 = .tup es \/ d1 = .fz es) /\ d2 = .int i /\ atI es i = some d /\ k d
theorem atI_rep {K:PySem.W.Frag} {G:Option Addr} {Z:Addr -> Prop} {H:Hp} {es:List D} {xs:List V} {i:Int} {d:D} (h:Reps K G Z H es xs) (e:atI es i = some d):∃ v,atI xs i = some v /\ Rep K G Z H d v:=by
 unfold atI at e ⊢
 rw [h.length]
 cases q:ixN es.length i with
 | none=>rw [q] at e; cases e
 | some j =>
  rw [q] at e
  exact h.get (i:=j) e
theorem re_ix:OpRel A (rIx A.K) rdIx:=by
 rintro os n rho sg H ds vs d1 d2 v1 v2 k Q I ⟨es,i,d,h1,rfl,h2,q⟩ hQ
 obtain ⟨I1,r2⟩:=I.pop
 obtain ⟨I2,r1⟩:=I1.pop
 rcases h1 with rfl | rfl | rfl
 ·obtain ⟨a, xs, e, sq, rs⟩ := r1.lst_inv
  obtain ⟨v,e1,rv⟩:=atI_rep rs h2
  exact .inl ⟨a,xs,i,v,e,r2.int_inv,sq.sq,e1,hQ v H d ⟨os,I2.push rv⟩ q⟩
 ·obtain ⟨a, xs, e, sq, rs⟩ := r1.tup_inv
  obtain ⟨v,e1,rv⟩:=atI_rep rs h2
  exact .inr (.inl ⟨a,xs,i,v,e,r2.int_inv,sq.sq,e1,hQ v H d ⟨os,I2.push rv⟩ q⟩)
 ·obtain ⟨a, xs, e, sq, rs⟩ := r1.fz_inv
  obtain ⟨v,e1,rv⟩:=atI_rep rs h2
  exact .inl ⟨a,xs,i,v,e,r2.int_inv,sq,e1,hQ v H d ⟨os,I2.push rv⟩ q⟩
def rdCat:RD2:=fun d1 d2 k=>∃ es fs,d1 = .lst es /\ d2 = .lst fs /\ es.length + fs.length <= sizeLine /\ k (.lst (es ++ fs))
theorem re_cat:OpRel A rCat rdCat:=by
 rintro os n rho sg H ds vs d1 d2 v1 v2 k Q I ⟨es,fs,rfl,rfl,hz,q⟩ hQ
 obtain ⟨I1,r2⟩:=I.pop
 obtain ⟨I2,r1⟩:=I1.pop
 obtain ⟨a,xs,e,sq,rs⟩:=r1.lst_inv
 obtain ⟨b,ys,e',sq',rs'⟩:=r2.lst_inv
 exact ⟨a,b,xs,ys,e,e',sq.2,sq'.2,by rw [rs.length,rs'.length]; exact hz,fun p hp=>hQ _ _ _ ⟨os,I2.newLst (rs.append rs') hp⟩ q⟩
def rdRepT:RD2:=fun d1 d2 k=>∃ es i,d1 = .tup es /\ d2 = .int i /\ es ≠ [] /\ 1 <= i /\ es.length * i.toNat <= sizeLine /\ k (.tup (List.replicate i.toNat es).flatten)
theorem pd_neg (ha:PD A X a ta):PD A X (.UnaryOp .USub a pos) (fun rho n P=>ta rho n fun d n'=>∃ i,d = .int i /\ P (.int (-i)) n'):=by
 with_unfolding_all
  exact (pe_un un_neg ha).imp fun sg H Q h=>by
   obtain ⟨rho,n,P,ds,vs,I,ht,hQ⟩:=h
   refine ⟨rho,n,_,ds,vs,I,ht,fun v H' n' d ⟨os,J⟩ k=>?_⟩
   obtain ⟨i,rfl,k⟩:=k
   obtain ⟨J1,r⟩:=J.pop
   exact ⟨i,r.int_inv,hQ _ H' n' _ ⟨os,J1.push (Rep.ofS (d:=.int (-i)) rfl)⟩ k⟩
variable {t u:TBD} {rest:List Expr}
def bAnd (t u:TBD):TBD:=fun rho n P=>t rho n fun c n1=>if c = true then u rho n1 P else P false n1
def bOr (t u:TBD):TBD:=fun rho n P=>t rho n fun c n1=>if c = true then P true n1 else u rho n1 P
def bNot (t:TBD):TBD:=fun rho n P=>t rho n fun c n1=>P (!c) n1
theorem pwd_or1 (ha:PTD A X a t):PWD A X (.BoolOp .Or [a] pos) t:=by
 with_unfolding_all
  exact pw_or1 ha
theorem pwd_or (ha:PTD A X a t) (hb:PWD A X (.BoolOp .Or (b :: rest) pos) u):PWD A X (.BoolOp .Or (a :: b :: rest) pos) (bOr t u):=by
 with_unfolding_all
  exact (pw_or ha hb).imp fun sg H Q h=>by
   obtain ⟨rho,n,P,ds,vs,I,ht,hQ⟩:=h
   refine ⟨rho,n,_,ds,vs,I,ht,fun c H' n' J k=>?_⟩
   cases c with
   | false=>exact ⟨rho,n',P,ds,vs,J,k,hQ⟩
   | true=>exact hQ _ _ _ J k
theorem PWD.pt (h:PWD A X e t):PTD A X e t:=by
 with_unfolding_all
  exact PW.pt h
def dAnd (ta tb:TD):TD:=fun rho n P=>ta rho n fun d n1=>∃ c,d = .bl c /\ if c = true then tb rho n1 P else P (.bl false) n1
def dOr (ta tb:TD):TD:=fun rho n P=>ta rho n fun d n1=>∃ c,d = .bl c /\ if c = true then P (.bl true) n1 else tb rho n1 P
def dNot (ta:TD):TD:=fun rho n P=>ta rho n fun d n1=>∃ c,d = .bl c /\ P (.bl (!c)) n1
def dIf (t:TBD) (ta tb:TD):TD:=fun rho n P=>t rho n fun c n1=>if c = true then ta rho n1 P else tb rho n1 P
theorem pd_if (hc:PTD A X c t) (ha:PD A X a ta) (hb:PD A X b tb):PD A X (.IfExp c a b pos) (dIf t ta tb):=by
 with_unfolding_all
  exact (pe_ifExp hc ha hb).imp fun sg H Q h=>by
   obtain ⟨rho,n,P,ds,vs,I,ht,hQ⟩:=h
   refine ⟨rho,n,_,ds,vs,I,ht,fun c H' n' J k=>?_⟩
   cases c with
   | true=>exact ⟨rho,n',P,ds,vs,J,k,hQ⟩
   | false=>exact ⟨rho,n',P,ds,vs,J,k,hQ⟩
variable {t1:TAD}
def aNil:TAD:=fun _ n P=>P [] n
def aCons (t:TD) (r:TAD):TAD:=fun rho n P=>t rho n fun d n1=>r rho n1 fun ds n2=>P (d :: ds) n2
theorem pad_nil:PAD A X [] aNil:=by
 with_unfolding_all
  exact pa_nil.imp fun sg H Q h=>by
   obtain ⟨rho,n,P,ds,vs,I,ht,hQ⟩:=h
   exact hQ [] H n [] I rfl ht
theorem reps_rot {K:PySem.W.Frag} {G:Option Addr} {Z:Addr -> Prop} {H:Hp} {es ds:List D} {ws vs:List V} {d:D} {v:V} (h:Reps K G Z H (es ++ d :: ds) (ws ++ v :: vs)) (hl:ws.length = es.length):Reps K G Z H (d :: es ++ ds) (v :: ws ++ vs):=by
 have h1:=h.take es.length
 have h2:=h.drop es.length
 rw [List.take_left' rfl,List.take_left' hl] at h1
 rw [List.drop_left' rfl,List.drop_left' hl] at h2
 obtain ⟨r,t⟩:=h2.inv
 exact .cons r (h1.append t)
def starred:Expr -> Bool
 | .Starred ..=>true
 | _=>false
theorem sE {e:Expr} {es:List Expr} {env:Env} (h:starred e = false):starEach (e :: es) env = (false,eval e env) :: starEach es env:=by
 cases e <;> first | (simp [starEach]; done) | (simp [starred] at h; done)
theorem pad_cons (ha:PD A X a ta) (hr:PAD A X es t1) (hs:starred a = false:=by rfl):PAD A X (a :: es) (aCons ta t1):=by
 with_unfolding_all
  exact (pa_cons ha hr (sE hs)).imp fun sg H Q h=>by
   obtain ⟨rho,n,P,ds,vs,I,ht,hQ⟩:=h
   refine ⟨rho,n,_,ds,vs,I,ht,fun v H' n' d J k=>⟨rho,n',_,d :: ds,v :: vs,J,k,fun ws H2 n2 es' ⟨os,J2⟩ hl k2=>?_⟩⟩
   exact hQ (v :: ws) H2 n2 (d :: es') ⟨os,J2.pends (reps_rot J2.pend hl)⟩ (by rw [List.length_cons,List.length_cons,hl]) k2
theorem reps_pre {K:PySem.W.Frag} {G:Option Addr} {Z:Addr -> Prop} {H:Hp} {es ds:List D} {ws vs:List V} (h:Reps K G Z H (es ++ ds) (ws ++ vs)) (hl:ws.length = es.length):Reps K G Z H es ws /\ Reps K G Z H ds vs:=by
 have h1:=h.take es.length
 have h2:=h.drop es.length
 rw [List.take_left' rfl,List.take_left' hl] at h1
 rw [List.drop_left' rfl,List.drop_left' hl] at h2
 exact ⟨h1,h2⟩
def dTup (t:TAD):TD:=fun rho n P=>t rho n fun ds n1=>ds.length <= sizeLine /\ P (.tup ds) n1
def dLst (t:TAD):TD:=fun rho n P=>t rho n fun ds n1=>ds.length <= sizeLine /\ P (.lst ds) n1
theorem pd_tup {x1} (h:PAD A X es t1):PD A X (.Tuple es x1 pos) (dTup t1):=by
 with_unfolding_all
  exact (pe_tup h).imp fun sg H Q h=>by
   obtain ⟨rho,n,P,ds,vs,I,ht,hQ⟩:=h
   refine ⟨rho,n,_,ds,vs,I,ht,fun ws H' n' es' ⟨os,J⟩ hl k=>⟨by rw [hl]; exact k.1,fun p hp=>?_⟩⟩
   obtain ⟨q1,q2⟩:=reps_pre J.pend hl
   exact hQ _ _ n' _ ⟨os,(J.pends q2).newTup q1 hp⟩ k.2
theorem pd_lst (h:PAD A X es t1):PD A X (.List es pos) (dLst t1):=by
 with_unfolding_all
  exact (pe_lst h).imp fun sg H Q h=>by
   obtain ⟨rho,n,P,ds,vs,I,ht,hQ⟩:=h
   refine ⟨rho,n,_,ds,vs,I,ht,fun ws H' n' es' ⟨os,J⟩ hl k=>⟨by rw [hl]; exact k.1,fun p hp=>?_⟩⟩
   obtain ⟨q1,q2⟩:=reps_pre J.pend hl
   exact hQ _ _ n' _ ⟨os,(J.pends q2).newLst q1 hp⟩ k.2
def CallRel (A:AC) (r:List V -> Hp -> VK -> Prop) (rd:List D -> (D -> Prop) -> Prop):Prop :=
 ∀ os n rho sg H ds vs es ws (k:D -> Prop) (Q:VK),AmO A os n rho sg H ds vs -> Reps A.K A.G (Zof A os) H es ws -> rd es k -> (∀ v H' d,Am A n rho sg H' (d :: ds) (v :: vs) -> k d -> Q v H') -> r ws H Q
def dCall (rd:List D -> (D -> Prop) -> Prop) (t:TAD):TD:=fun rho n P=>t rho n fun es n1=>rd es fun d=>P d n1
theorem tCB_of {r:List V -> Hp -> VK -> Prop} {rd:List D -> (D -> Prop) -> Prop} (hr:CallRel A r rd) {sg:St} {H:Hp} {Q:VK} (h:tOf A (dCall rd t1) sg H Q):tCB r (taOf A t1) sg H Q:=by
 obtain ⟨rho,n,P,ds,vs,I,ht,hQ⟩:=h
 refine ⟨rho,n,_,ds,vs,I,ht,fun ws H' n' es' ⟨os,J⟩ hl k=>?_⟩
 obtain ⟨q1,q2⟩:=reps_pre J.pend hl
 exact hr _ _ _ _ _ _ _ _ _ _ Q (J.pends q2) q1 k fun v H2 d J2 k2=>hQ v H2 n' d J2 k2
theorem pd_callB {x:Str} {p:Pos} {id:String} {r:List V -> Hp -> VK -> Prop} {rd:List D -> (D -> Prop) -> Prop} (hc:CallR X (.builtin id) r) (hr:CallRel A r rd) (hm:X.mg x = none) (hv:bootBuiltins x = some (.builtin id)) (ha:PAD A X (e :: es) t1) (hg:Gl X x:=by rfl) (hn:x ≠ "__name__" := by decide) (hdb:(x == ("__debug__" : Str)) = false:=by decide)
  (he:starEach (e :: es) X.env = (false,eval e X.env) :: starEach es X.env:=by rfl) (hpl:(backTo pos (starEach es X.env)).any (·.1) = false:=by rfl):PD A X (.Call (.Name x p) (e :: es) [] pos) (dCall rd t1):=by
 with_unfolding_all
  exact
   (pe_callB hc hg hm hv ha hn hdb he hpl).imp fun _ _ _=>tCB_of hr
theorem pd_callTy {x:Str} {p:Pos} {T:String} {r:List V -> Hp -> VK -> Prop} {rd:List D -> (D -> Prop) -> Prop} (hc:CallR X (.type T) r) (hr:CallRel A r rd) (hm:X.mg x = none) (hv:bootBuiltins x = some (.type T)) (ha:PAD A X (e :: es) t1) (hg:Gl X x:=by rfl) (hn:x ≠ "__name__" := by decide) (hdb:(x == ("__debug__" : Str)) = false:=by decide)
  (he:starEach (e :: es) X.env = (false,eval e X.env) :: starEach es X.env:=by rfl) (hpl:(backTo pos (starEach es X.env)).any (·.1) = false:=by rfl):PD A X (.Call (.Name x p) (e :: es) [] pos) (dCall rd t1):=by
 with_unfolding_all
  exact
   (pe_callTy hc hg hm hv ha hn hdb he hpl).imp fun _ _ _=>tCB_of hr
theorem reps1 {K:PySem.W.Frag} {G:Option Addr} {Z:Addr -> Prop} {H:Hp} {d:D} {ws:List V} (h:Reps K G Z H [d] ws):∃ v,ws = [v] /\ Rep K G Z H d v:=by
 obtain ⟨v,r,rfl,q,t⟩:=h.split
 rw [t.nil_inv]
 exact ⟨v,rfl,q⟩
theorem reps2 {K:PySem.W.Frag} {G:Option Addr} {Z:Addr -> Prop} {H:Hp} {d d':D} {ws:List V} (h:Reps K G Z H [d,d'] ws):∃ v v',ws = [v,v'] /\ Rep K G Z H d v /\ Rep K G Z H d' v':=by
 obtain ⟨v,r,rfl,q,t⟩:=h.split
 obtain ⟨v',rfl,q'⟩:=reps1 t
 exact ⟨v,v',rfl,q,q'⟩
def kLen:List D -> (D -> Prop) -> Prop:=fun es k=>∃ fs,(es = [.lst fs] \/ es = [.tup fs] \/ es = [.fz fs]) /\ k (.int fs.length)
def kAbs:List D -> (D -> Prop) -> Prop:=fun es k=>∃ i,es = [.int i] /\ k (.int (if i < 0 then -i else i))
def kIntB:List D -> (D -> Prop) -> Prop:=fun es k=>∃ c,es = [.bl c] /\ k (.int (if c then 1 else 0))
def kTuple:List D -> (D -> Prop) -> Prop:=fun es k=>∃ fs,(es = [.lst fs] \/ es = [.tup fs]) /\ k (.tup fs)
def kList:List D -> (D -> Prop) -> Prop:=fun es k=>∃ fs,(es = [.lst fs] \/ es = [.tup fs]) /\ k (.lst fs)
theorem cr_len:CallRel A (fun xs H Q=>∃ p ys,xs = [.ref p] /\ (SqL A.K H p ys \/ SqT A.K H p ys) /\ Q (.int ys.length) H) kLen:=by
 rintro os n rho sg H ds vs es ws k Q I rs ⟨fs,h,q⟩ hQ
 rcases h with rfl | rfl | rfl
 ·obtain ⟨v, rfl, r⟩ := reps1 rs
  obtain ⟨a,xs,rfl,sq,rr⟩:=r.lst_inv
  exact ⟨a,xs,rfl,.inl sq.sq,by rw [rr.length]; exact hQ _ H _ ⟨os,I.push (Rep.ofS rfl)⟩ q⟩
 ·obtain ⟨v, rfl, r⟩ := reps1 rs
  obtain ⟨a,xs,rfl,sq,rr⟩:=r.tup_inv
  exact ⟨a,xs,rfl,.inr sq.sq,by rw [rr.length]; exact hQ _ H _ ⟨os,I.push (Rep.ofS rfl)⟩ q⟩
 ·obtain ⟨v, rfl, r⟩ := reps1 rs
  obtain ⟨a,xs,rfl,sq,rr⟩:=r.fz_inv
  exact ⟨a,xs,rfl,.inl sq,by rw [rr.length]; exact hQ _ H _ ⟨os,I.push (Rep.ofS rfl)⟩ q⟩
theorem cr_abs:CallRel A (fun xs H Q=>∃ i,xs = [.int i] /\ Q (.int (if i < 0 then -i else i)) H) kAbs:=by
 rintro os n rho sg H ds vs es ws k Q I rs ⟨i,rfl,q⟩ hQ
 obtain ⟨v,rfl,r⟩:=reps1 rs
 exact ⟨i,by rw [r.int_inv],hQ _ H _ ⟨os,I.push (Rep.ofS rfl)⟩ q⟩
theorem cr_intB:CallRel A (fun xs H Q=>(∃ i,xs = [.int i] /\ Q (.int i) H) \/ ∃ k,xs = [.bl k] /\ Q (.int (if k then 1 else 0)) H) kIntB:=by
 rintro os n rho sg H ds vs es ws k Q I rs ⟨i,rfl,q⟩ hQ
 obtain ⟨v,rfl,r⟩:=reps1 rs
 exact .inr ⟨i,by rw [r.bl_inv],hQ _ H _ ⟨os,I.push (Rep.ofS rfl)⟩ q⟩
theorem cr_tuple:CallRel A (fun xs H Q=>∃ p ys,xs = [.ref p] /\ ((SqL A.K H p ys /\ ∀ l,H l = none -> Q (.ref l) (upd H l (.tup ys))) \/ (SqT A.K H p ys /\ Q (.ref p) H))) kTuple:=by
 rintro os n rho sg H ds vs es ws k Q I rs ⟨fs,h,q⟩ hQ
 rcases h with rfl | rfl
 ·obtain ⟨v, rfl, r⟩ := reps1 rs
  obtain ⟨a,xs,rfl,sq,rr⟩:=r.lst_inv
  exact ⟨a,xs,rfl,.inl ⟨sq.sq,fun l hl=>hQ _ _ _ ⟨os,I.newTup rr hl⟩ q⟩⟩
 ·obtain ⟨v, rfl, r⟩ := reps1 rs
  have r':=r
  obtain ⟨a,xs,rfl,sq,rr⟩:=r.tup_inv
  exact ⟨a,xs,rfl,.inr ⟨sq.sq,hQ _ _ _ ⟨os,I.push r'⟩ q⟩⟩
def isiD (T:String):D -> Bool
 | .bl _=>T == "bool" || T == "int"
 | .int _=>T == "int"
 | .str _=>T == "str"
 | .tup _=>T == "tuple"
 | .lst _=>T == "list"
 | _=>false
def isiOk:D -> Bool
 | .non=>true | .bl _=>true | .int _=>true | .str _=>true | .tup _=>true | .lst _=>true | .dic=>true | _=>false
def kIsi:List D -> (D -> Prop) -> Prop:=fun es k=>∃ d T,es = [d,.ty T] /\ (T = "bool" \/ T = "int" \/ T = "str" \/ T = "tuple" \/ T = "list") /\ isiOk d = true /\ k (.bl (isiD T d))
end
end L2
set_option maxRecDepth 100000
namespace L2
open PySem PySem.Spec PyProof.Rows
section
variable {A:AC} {os:List (Nat × Addr)} {n:Nat} {rho:Rho} {sg:St} {H:Hp} {ds es:List D} {vs ws:List V} {d:D} {v:V}
theorem AmO.split (I:AmO A os n rho sg H (es ++ ds) (ws ++ vs)) (hl:ws.length = es.length):AmO A os n rho sg H ds vs /\ Reps A.K A.G (Zof A os) H es ws :=
 let ⟨q1,q2⟩:=reps_pre I.pend hl
 ⟨I.pends q2,q1⟩
theorem AmO.join (I:AmO A os n rho sg H ds vs) (h:Reps A.K A.G (Zof A os) H es ws):AmO A os n rho sg H (es ++ ds) (ws ++ vs):=I.pends (h.append I.pend)
theorem AmO.under (I:AmO A os n rho sg H (d :: (es ++ ds)) (v :: (ws ++ vs))) (hl:ws.length = es.length):AmO A os n rho sg H (d :: ds) (v :: vs):=by
 obtain ⟨J,r⟩:=I.pop
 exact (J.split hl).1.push r
theorem AmO.front (m:Nat) (I:AmO A os n rho sg H ds vs):AmO A (os.map fun p=>(p.1 + m,p.2)) n (List.replicate m none ++ rho) (List.replicate m none ++ sg) H ds vs:=by
 have zz:∀ a,Zof A (os.map fun p=>(p.1 + m,p.2)) a -> Zof A os a:=fun a z=>by
  rcases z with z | ⟨p,hp,e⟩
  ·exact .inl z
  ·obtain ⟨q, hq, rfl⟩ := List.mem_map.mp hp
   exact .inr ⟨q,hq,e⟩
 refine ⟨by simp [I.len],fun i c e=>?_,Reps.mono (fun a _ z=>zz a z) (fun _ _ _ e=>e) _ _ I.pend,?_,fun p hp=>?_,I.st.mono (fun a _ z=>zz a z) (fun _ _ _ e=>e) (fun _ _ _ e=>e) (fun a _ z=>?_) (fun _ _ _ e=>e),I.gz,I.fr,I.z0⟩
 ·have hi : m <= i := by
   apply Nat.le_of_not_lt
   intro hlt
   rw [List.getElem?_append_left (by simpa using hlt),List.getElem?_replicate,if_pos hlt] at e
   cases e
  rw [List.getElem?_append_right (by simpa using hi),List.length_replicate] at e
  obtain ⟨u,e1,e2⟩:=I.slot _ c e
  refine ⟨u,by rw [List.getElem?_append_right (by simpa using hi),List.length_replicate]; exact e1,?_⟩
  have key:∀ j,j + m = i -> SlotR A os H j c u -> SlotR A (os.map fun p=>(p.1 + m,p.2)) H i c u:=fun j hj h=>by
   subst hj
   cases c with
   | own fs =>
    obtain ⟨a,xs,q1,q2,q3,q4⟩:=h
    exact ⟨a,xs,q1,List.mem_map.mpr ⟨_,q2,rfl⟩,q3,Reps.mono (fun a _ z=>zz a z) (fun _ _ _ e=>e) _ _ q4⟩
   | non=>exact Rep.mono (fun a _ z=>zz a z) (fun _ _ _ e=>e) _ _ h
   | bl _=>exact Rep.mono (fun a _ z=>zz a z) (fun _ _ _ e=>e) _ _ h
   | int _=>exact Rep.mono (fun a _ z=>zz a z) (fun _ _ _ e=>e) _ _ h
   | str _=>exact Rep.mono (fun a _ z=>zz a z) (fun _ _ _ e=>e) _ _ h
   | ty _=>exact Rep.mono (fun a _ z=>zz a z) (fun _ _ _ e=>e) _ _ h
   | tup _=>exact Rep.mono (fun a _ z=>zz a z) (fun _ _ _ e=>e) _ _ h
   | lst _=>exact Rep.mono (fun a _ z=>zz a z) (fun _ _ _ e=>e) _ _ h
   | st=>exact Rep.mono (fun a _ z=>zz a z) (fun _ _ _ e=>e) _ _ h
   | fz _=>exact Rep.mono (fun a _ z=>zz a z) (fun _ _ _ e=>e) _ _ h
   | dic=>exact Rep.mono (fun a _ z=>zz a z) (fun _ _ _ e=>e) _ _ h
   | dct _ _=>exact Rep.mono (fun a _ z=>zz a z) (fun _ _ _ e=>e) _ _ h
   | rf _=>exact Rep.mono (fun a _ z=>zz a z) (fun _ _ _ e=>e) _ _ h
  exact key (i - m) (by lia) e2
 ·rw [List.pairwise_map]
  exact I.nd.imp fun {p q} h=>⟨fun z=>h.1 (by simpa using z),h.2⟩
 ·obtain ⟨q, hq, rfl⟩ := List.mem_map.mp hp
  exact I.fresh q hq
 ·rcases z with z | ⟨p, hp, e, hl⟩
  ·exact .inl z
  ·exact .inr ⟨_,List.mem_map_of_mem hp,e,by simp; lia⟩
theorem AmO.backX {m:Nat} {rho':Rho} {sg':St} (I:AmO A os n rho' sg' H ds vs) (h1:rho'.drop m = rho) (h2:sg'.drop m = sg) (hm:m <= rho'.length):∃ os',AmO A os' n rho sg H ds vs:=by
 refine ⟨(os.filter fun p=>decide (m <= p.1)).map fun p=>(p.1 - m,p.2),?_⟩
 have zz:∀ a,Zof A ((os.filter fun p=>decide (m <= p.1)).map fun p=>(p.1 - m,p.2)) a -> Zof A os a:=fun a z=>by
  rcases z with z | ⟨p,hp,e⟩
  ·exact .inl z
  ·obtain ⟨q, hq, rfl⟩ := List.mem_map.mp hp
   exact .inr ⟨q,(List.mem_filter.mp hq).1,e⟩
 subst h1 h2
 refine ⟨by simp [I.len],fun i c e=>?_,Reps.mono (fun a _ z=>zz a z) (fun _ _ _ e=>e) _ _ I.pend,?_,fun p hp=>?_,I.st.mono (fun a _ z=>zz a z) (fun _ _ _ e=>e) (fun _ _ _ e=>e) (fun a _ z=>?_) (fun _ _ _ e=>e),I.gz,I.fr,I.z0⟩
 ·rw [List.getElem?_drop] at e
  obtain ⟨u,e1,e2⟩:=I.slot _ c e
  refine ⟨u,by rw [List.getElem?_drop]; exact e1,?_⟩
  cases c with
  | own fs =>
   obtain ⟨a,xs,q1,q2,q3,q4⟩:=e2
   exact ⟨a,xs,q1,List.mem_map.mpr ⟨_,List.mem_filter.mpr ⟨q2,by simp⟩,by simp⟩,q3,Reps.mono (fun a _ z=>zz a z) (fun _ _ _ e=>e) _ _ q4⟩
  | non=>exact Rep.mono (fun a _ z=>zz a z) (fun _ _ _ e=>e) _ _ e2
  | bl _=>exact Rep.mono (fun a _ z=>zz a z) (fun _ _ _ e=>e) _ _ e2
  | int _=>exact Rep.mono (fun a _ z=>zz a z) (fun _ _ _ e=>e) _ _ e2
  | str _=>exact Rep.mono (fun a _ z=>zz a z) (fun _ _ _ e=>e) _ _ e2
  | ty _=>exact Rep.mono (fun a _ z=>zz a z) (fun _ _ _ e=>e) _ _ e2
  | tup _=>exact Rep.mono (fun a _ z=>zz a z) (fun _ _ _ e=>e) _ _ e2
  | lst _=>exact Rep.mono (fun a _ z=>zz a z) (fun _ _ _ e=>e) _ _ e2
  | st=>exact Rep.mono (fun a _ z=>zz a z) (fun _ _ _ e=>e) _ _ e2
  | fz _=>exact Rep.mono (fun a _ z=>zz a z) (fun _ _ _ e=>e) _ _ e2
  | dic=>exact Rep.mono (fun a _ z=>zz a z) (fun _ _ _ e=>e) _ _ e2
  | dct _ _=>exact Rep.mono (fun a _ z=>zz a z) (fun _ _ _ e=>e) _ _ e2
  | rf _=>exact Rep.mono (fun a _ z=>zz a z) (fun _ _ _ e=>e) _ _ e2
 ·rw [List.pairwise_map, List.pairwise_filter]
  refine I.nd.imp fun {p q} h hp hq=>⟨fun z=>h.1 ?_,h.2⟩
  have a1:m <= p.1:=by simpa using hp
  have a2:m <= q.1:=by simpa using hq
  have z':p.1 - m = q.1 - m:=z
  lia
 ·obtain ⟨q, hq, rfl⟩ := List.mem_map.mp hp
  exact I.fresh q (List.mem_filter.mp hq).1
 ·rcases z with z | ⟨p, hp, e, hl⟩
  ·exact .inl z
  ·exact .inr ⟨_,List.mem_map_of_mem (List.mem_filter.mpr ⟨hp,by simpa using Nat.le_trans hm hl⟩),e,by simp; lia⟩
theorem AmO.back {m:Nat} {rho':Rho} {sg':St} (I:AmO A os n rho' sg' H ds vs) (h1:rho'.drop m = rho) (h2:sg'.drop m = sg):∃ os',AmO A os' n rho sg H ds vs:=by
 by_cases hm:m <= rho'.length
 ·exact I.backX h1 h2 hm
 ·have e1 : rho = [] := by rw [<- h1]; exact List.drop_of_length_le (by lia)
  have e2:sg = []:=by rw [<- h2]; exact List.drop_of_length_le (by have:=I.len; lia)
  subst e1 e2
  refine ⟨os,rfl,fun i c e=>by simp at e,I.pend,I.nd,I.fresh,I.st.mono (fun _ _ z=>z) (fun _ _ _ e=>e) (fun _ _ _ e=>e) (fun a _ z=>?_) (fun _ _ _ e=>e),I.gz,I.fr,I.z0⟩
  rcases z with z | ⟨p,hp,e,_⟩
  ·exact .inl z
  ·exact .inr ⟨p,hp,e,Nat.zero_le _⟩
end
abbrev TGD:=D -> Rho -> (Rho -> Prop) -> Prop
abbrev TGsD:=List D -> Rho -> (Rho -> Prop) -> Prop
def gOf (A:AC) (m:Nat) (g:TGD):TG:=fun v sg H Q=>∃ rho n P d ds vs,Am A n rho sg H (d :: ds) (v :: vs) /\ g d rho P /\ ∀ rho' sg',Am A n rho' sg' H ds vs -> sg'.drop m = sg.drop m -> P rho' -> Q sg' H
def gsOf (A:AC) (m:Nat) (g:TGsD):TGs:=fun us sg H Q=>∃ rho n P es ds vs,Am A n rho sg H (es ++ ds) (us ++ vs) /\ us.length = es.length /\ g es rho P /\ ∀ rho' sg',Am A n rho' sg' H ds vs -> sg'.drop m = sg.drop m -> P rho' -> Q sg' H
@[irreducible] def PGD (A:AC) (X:Cx) (m:Nat) (tg:Expr) (g:TGD):Prop:=PG X tg (gOf A m g)
@[irreducible] def PGsD (A:AC) (X:Cx) (m:Nat) (tg:List Expr) (g:TGsD):Prop:=PGs X tg (gsOf A m g)
theorem PG.imp {X:Cx} {tg:Expr} {g g':TG} (h:PG X tg g) (hi:∀ v sg H Q,g' v sg H Q -> g v sg H Q):PG X tg g':=fun pins s sg H v u Q I r q=>h pins s sg H v u Q I r (hi _ _ _ _ q)
theorem PGs.imp {X:Cx} {tg:List Expr} {g g':TGs} (h:PGs X tg g) (hi:∀ v sg H Q,g' v sg H Q -> g v sg H Q):PGs X tg g':=fun pins s sg H v u Q I r q=>h pins s sg H v u Q I r (hi _ _ _ _ q)
section
variable {A:AC} {X:Cx} {m:Nat} {pos:Pos}
def gdName (i:Nat):TGD:=fun d rho P=>i < rho.length /\ P (rho.set i (some d))
theorem pgd_name {i:Nat} {x:Str} (hN:X.N.Nodup) (hi:X.N[i]? = some x) (hx:Loc X.env.scope x) (hm:i < m) (hf:X.fn x = true \/ X.env.scope.names.lookup x = some .local:=by first | exact .inl rfl | exact .inr rfl | assumption):PGD A X m (.Name x pos) (gdName i):=by
 with_unfolding_all
  exact
   (pg_name hN hi hx hf).imp fun v sg H Q h => by
    obtain ⟨rho,n,P,d,ds,vs,⟨os,I⟩,⟨hl,k⟩,hQ⟩:=h
    refine hQ (rho.set i (some d)) (sg.set i (some v)) ⟨_,I.set hl⟩ ?_ k
    rw [List.drop_set_of_lt hm]
def gdNil:TGsD:=fun es rho P=>es = [] /\ P rho
def gdCons (g:TGD) (gs:TGsD):TGsD:=fun es rho P=>∃ d r,es = d :: r /\ g d rho fun rho'=>gs r rho' P
theorem pgsd_nil:PGsD A X m [] gdNil:=by
 with_unfolding_all
  exact pgs_nil.imp fun us sg H Q h=>by
   obtain ⟨rho,n,P,es,ds,vs,I,hl,⟨rfl,k⟩,hQ⟩:=h
   have e:us = []:=List.length_eq_zero_iff.mp hl
   subst e
   exact ⟨rfl,hQ rho sg I rfl k⟩
theorem pgsd_cons {e:Expr} {es:List Expr} {g:TGD} {gs:TGsD} (h1:PGD A X m e g) (h2:PGsD A X m es gs) (hs:(assignEach (e :: es) X.env).map (·.2) = assign e X.env :: (assignEach es X.env).map (·.2):=by rfl):PGsD A X m (e :: es) (gdCons g gs):=by
 with_unfolding_all
  exact
   (pgs_cons h1 h2 hs).imp fun us sg H Q h => by
    obtain ⟨rho,n,P,es',ds,vs,I,hl,⟨d,r,rfl,k⟩,hQ⟩:=h
    cases us with
    | nil=>simp at hl
    | cons u us =>
     refine ⟨u,us,rfl,⟨rho,n,_,d,r ++ ds,us ++ vs,I,k,fun rho' sg' I' e1 k'=>⟨rho',n,P,r,ds,vs,I',by simpa using hl,k',fun rho2 sg2 I2 e2 k2=>hQ rho2 sg2 I2 (e2.trans e1) k2⟩⟩⟩
def gdTup (k:Nat) (gs:TGsD):TGD:=fun d rho P=>∃ es,d = .tup es /\ es.length = k /\ gs es rho P
theorem pgd_tup {es:List Expr} {k:Nat} {gs:TGsD} {kt:Nat} (hK:X.K = A.K) (hc:X.calm = true) (h:PGsD A X m es gs) (hn:(assignEach es X.env).length = k:=by rfl) (hst:(assignEach es X.env).findIdx? (·.1) = none:=by rfl):PGD A X m (.Tuple es kt pos) (gdTup k gs):=by
 with_unfolding_all
  exact
   (pg_tup (n := k) hc h hn hst).imp fun v sg H Q h => by
    obtain ⟨rho,n,P,d,ds,vs,⟨os,I⟩,⟨fs,rfl,hl,q⟩,hQ⟩:=h
    obtain ⟨J,r⟩:=I.pop
    obtain ⟨a,xs,rfl,sq,rs⟩:=r.tup_inv
    have hx:=rs.length
    rw [hK]
    exact ⟨a,xs,rfl,sq.sq,by rw [hx]; exact hl,rho,n,P,fs,ds,vs,⟨os,J.join rs⟩,hx,q,hQ⟩
end
abbrev TID:=Rho -> Nat -> (List D -> Nat -> Prop) -> Prop
def JIs (A:AC) (J:It) (es:List D) (ws:List V) (items:List D):Prop:=∀ n rho sg H ds vs i,Am A n rho sg H (es ++ ds) (ws ++ vs) ->
 (∀ d,items[i]? = some d -> J.go i H /\ ∀ x H',J.yld i H x H' -> Am A n rho sg H' (d :: (es ++ ds)) (x :: (ws ++ vs))) /\ (items.length <= i -> J.stop i H)
def iOf (A:AC) (it:TID):TI:=fun sg H R=>∃ rho n P ds vs,Am A n rho sg H ds vs /\ it rho n P /\ ∀ J H' n' items es ws,Am A n' rho sg H' (es ++ ds) (ws ++ vs) -> ws.length = es.length -> JIs A J es ws items -> P items n' -> R J H'
@[irreducible] def PID (A:AC) (X:Cx) (tg iter:Expr) (it:TID):Prop:=PI X tg iter (iOf A it)
theorem PI.imp {X:Cx} {tg e:Expr} {t t':TI} (h:PI X tg e t) (hi:∀ sg H Q,t' sg H Q -> t sg H Q):PI X tg e t':=fun pins s sg H Q I q=>h pins s sg H Q I (hi _ _ _ q)
section
variable {A:AC} {X:Cx} {tg a b:Expr} {ta tb:TD} {pos p:Pos} {t1:TAD}
def rngD (lo:Int) (k:Nat):List D:=(List.range k).map fun (i:Nat)=>D.int (lo + (i:Int))
def iRngD (t:TAD):TID:=fun rho n P=>t rho n fun es n1=>∃ j:Int,es = [.int j] /\ -(2 ^ 62) <= j /\ j < 2 ^ 62 /\ P (rngD 0 j.toNat) n1
theorem jis_rng {lo:Int} {k:Nat}:JIs A (Itr lo k) [] [] (rngD lo k):=fun n2 rho2 sg2 H2 ds2 vs2 i ⟨os2,I2⟩=>by
 refine ⟨fun d e=>?_,fun hi=>?_⟩
 ·unfold rngD at e
  rw [List.getElem?_map] at e
  cases q:(List.range k)[i]? with
  | none=>rw [q] at e; cases e
  | some j =>
   rw [q] at e
   cases e
   have hj:=List.getElem?_eq_some_iff.mp q
   obtain ⟨hlt,ej⟩:=hj
   rw [List.getElem_range] at ej
   subst ej
   refine ⟨(show i < k by simpa using hlt),fun x H3 y=>?_⟩
   obtain ⟨e3,e4⟩:=y
   subst e3 e4
   exact ⟨os2,I2.push (Rep.ofS (d:=.int (lo + i)) rfl)⟩
 ·unfold rngD at hi
  exact (show k <= i by simpa using hi)
theorem pid_rng (hm:X.mg "range" = none) (ha:PAD A X [a] t1) (hg:Gl X "range" := by rfl) (hs:starEach [a] X.env = [(false,eval a X.env)]:=by rfl):PID A X tg (.Call (.Name "range" p) [a] [] pos) (iRngD t1):=by
 with_unfolding_all
  exact
   (pi_range1 hg hm ha hs).imp fun sg H R h => by
    obtain ⟨rho,n,P,ds,vs,I,ht,hQ⟩:=h
    refine ⟨rho,n,_,ds,vs,I,ht,fun ws H' n' es' ⟨os,J⟩ hl k=>?_⟩
    obtain ⟨j,rfl,h1,h2,k⟩:=k
    obtain ⟨J1,rs⟩:=J.split hl
    obtain ⟨v,rfl,r⟩:=reps1 rs
    exact ⟨j,by rw [r.int_inv],h1,h2,hQ _ H' n' _ [] [] ⟨os,J1⟩ rfl jis_rng k⟩
def seqOf:D -> Option (Bool × List D)
 | .lst es=>some (true,es)
 | .tup es=>some (false,es)
 | _=>none
def zipD (xs ys:List D):List D:=List.zipWith (fun x y=>D.tup [x,y]) xs ys
def iZipD (t:TAD):TID:=fun rho n P=>t rho n fun es n1=>∃ d1 d2 b1 xs b2 ys,es = [d1,d2] /\ seqOf d1 = some (b1,xs) /\ seqOf d2 = some (b2,ys) /\ P (zipD xs ys) n1
end
section
variable {A:AC} {X:Cx} {tg iter elt:Expr} {ifs:List Expr} {scope:Scope} {own M:List Str} {pos:Pos} {it:TID} {g:TGD} {tt:TBD} {te:TD}
def dComp (it:TID) (own:Nat) (g:TGD) (tt:TBD) (te:TD):TD:=fun rho n P=>it rho n fun items n1=>items.length <= sizeLine /\ ∃ J:Nat -> List D -> Nat -> Prop,J 0 [] n1 /\
 (∀ i d acc n,items[i]? = some d -> J i acc n -> g d (List.replicate own none ++ rho) fun rho'=>rho'.drop own = rho /\ tt rho' n fun c n2=>if c = true then te rho' n2 fun e n3=>J (i + 1) (acc ++ [e]) n3 else J (i + 1) acc n2) /\
 ∀ acc n,J items.length acc n -> P (.lst acc) n
def bYes:TBD:=fun _ n P=>P true n
theorem PTs.imp {X:Cx} {e:List Expr} {t t':TT} (h:PTs X e t) (hi:∀ sg H Q,t' sg H Q -> t sg H Q):PTs X e t':=by
 with_unfolding_all
  exact fun pins s sg H Q I q=>h pins s sg H Q I (hi _ _ _ q)
theorem ptsd_nil {X:Cx}:PTs X [] (ttOf A bYes):=by
 with_unfolding_all
  exact pts_nil.imp fun sg H Q h=>by
   obtain ⟨rho,n,P,ds,vs,I,ht,hQ⟩:=h
   exact hQ true H n I ht
theorem tComp_ofG {sg:St} {H:Hp} {Q:VK} {m:Nat} {rho:Rho} {n:Nat} {P:D -> Nat -> Prop} {ds:List D} {vs:List V} (I:Am A n rho sg H ds vs) (ht:dComp it m g tt te rho n P)
  (hQ:∀ os n' H' fs xs p,AmO A os n' rho sg H' ds vs -> Reps A.K A.G (Zof A os) H' fs xs -> H' p = none -> P (.lst fs) n' -> Q (.ref p) (upd H' p (.lst xs))):tComp (iOf A it) m (gOf A m g) (ttOf A tt) (tOf A te) sg H Q:=by
 refine ⟨rho,n,_,ds,vs,I,ht,fun J H' n' items es ws I1 hl hJ k=>?_⟩
 obtain ⟨hsz,W,w0,turn,fin⟩:=k
 refine ⟨fun i mm acc H=>mm = items.length - i /\ i <= items.length /\ acc.length <= i /\ ∃ accD n,acc.length = accD.length /\ Am A n rho sg H (es ++ (accD ++ ds)) (ws ++ (acc ++ vs)) /\ W i accD n,
  ⟨items.length,rfl,Nat.zero_le _,Nat.le_refl _,[],n',rfl,I1,w0⟩,?_⟩
 rintro i mm acc H3 ⟨rfl,hi,hai,accD,n3,hal,⟨os,I3⟩,w3⟩
 obtain ⟨j1,j2⟩:=hJ n3 rho sg H3 (accD ++ ds) (acc ++ vs) i ⟨os,I3⟩
 by_cases hlt:i < items.length
 ·refine .inr ⟨(j1 items[i] (by simp [hlt])).1, by lia, fun x H4 y => ?_⟩
  obtain ⟨os4,I4⟩:=(j1 items[i] (by simp [hlt])).2 x H4 y
  refine ⟨List.replicate m none ++ rho,n3,_,items[i],es ++ (accD ++ ds),ws ++ (acc ++ vs),⟨_,I4.front m⟩,turn i items[i] accD n3 (by simp [hlt]) w3,fun rho' sg' ⟨os5,I5⟩ e5 k5=>?_⟩
  obtain ⟨k5,k6⟩:=k5
  have e6:sg'.drop m = sg:=by rw [e5,List.drop_left' (by simp)]
  refine ⟨e6,rho',n3,_,es ++ (accD ++ ds),ws ++ (acc ++ vs),⟨os5,I5⟩,k6,fun c H6 n6 ⟨os6,I6⟩ k7=>?_⟩
  cases c with
  | false =>
   obtain ⟨os7,I7⟩:=I6.back k5 e6
   exact ⟨items.length - (i + 1),by lia,rfl,hlt,by lia,accD,n6,hal,⟨os7,I7⟩,k7⟩
  | true =>
   rw [if_pos rfl] at k7 ⊢
   refine ⟨rho',n6,_,es ++ (accD ++ ds),ws ++ (acc ++ vs),⟨os6,I6⟩,k7,fun v H8 n8 d ⟨os8,I8⟩ k8=>?_⟩
   obtain ⟨os9,I9⟩:=I8.back k5 e6
   obtain ⟨I10,rv⟩:=I9.pop
   obtain ⟨I11,r1⟩:=I10.split hl
   obtain ⟨I12,r2⟩:=I11.split hal
   refine ⟨items.length - (i + 1),by lia,rfl,hlt,by rw [List.length_append,List.length_singleton]; lia,accD ++ [d],n8,by simp [hal],⟨os9,(I12.join (r2.append (.cons rv .nil))).join r1⟩,k8⟩
 ·have e : i = items.length := by lia
  subst e
  refine .inl ⟨j2 (Nat.le_refl _),Nat.le_trans hai hsz,fun D hD=>?_⟩
  obtain ⟨I4,r1⟩:=I3.split hl
  obtain ⟨I5,r2⟩:=I4.split hal
  exact hQ os n3 _ accD acc D I5 r2 hD (fin accD n3 w3)
theorem tComp_of {sg:St} {H:Hp} {Q:VK} {m:Nat} (h:tOf A (dComp it m g tt te) sg H Q):tComp (iOf A it) m (gOf A m g) (ttOf A tt) (tOf A te) sg H Q:=by
 obtain ⟨rho,n,P,ds,vs,I,ht,hQ⟩:=h
 exact tComp_ofG I ht fun os n' H' fs xs p J r hp k=>hQ _ _ n' _ ⟨os,J.newLst r hp⟩ k
theorem pd_comp (ok:CompOk X scope M) (hc:X.calm = true) (hi:PID A X tg iter it) (hg:∀ C s2 H2 fp,PGD A (cxComp X scope own M C s2 H2 fp) own.length tg g) (ht:∀ C s2 H2 fp,PTs (cxComp X scope own M C s2 H2 fp) ifs (ttOf A tt))
  (he:∀ C s2 H2 fp,PD A (cxComp X scope own M C s2 H2 fp) elt te) (hs:∀ x,foldedSetIterable iter X.env x = pure x:=by intro _; rfl):PD A X (.ListComp elt [⟨tg,iter,ifs,0⟩] scope pos) (dComp it own.length g tt te):=by
 with_unfolding_all
  exact
   (pe_comp ok hc hi hg ht he hs).imp fun _ _ _=>tComp_of
end
end L2
set_option maxRecDepth 100000
namespace L2
open PySem PySem.Spec PyProof.Rows
structure EndsD where
 nx:Rho -> Nat -> Prop
 rt:D -> Nat -> Prop
 bk:Rho -> Nat -> Prop:=fun _ _=>False
 ct:Rho -> Nat -> Prop:=fun _ _=>False
abbrev TSD:=EndsD -> Rho -> Nat -> Prop
structure EOk (A:AC) (E:Ends) (F:EndsD) (ds:List D) (vs:List V):Prop where
 nx:∀ rho n sg H,Am A n rho sg H ds vs -> F.nx rho n -> E.nx sg H
 rt:∀ d n v rho sg H,Am A n rho sg H (d :: ds) (v :: vs) -> F.rt d n -> E.rt v H
 bk:∀ rho n sg H,Am A n rho sg H ds vs -> F.bk rho n -> E.bk sg H
 ct:∀ rho n sg H,Am A n rho sg H ds vs -> F.ct rho n -> E.ct sg H
def sOf (A:AC) (t:TSD):TS:=fun E sg H=>∃ rho n F ds vs,Am A n rho sg H ds vs /\ t F rho n /\ EOk A E F ds vs
@[irreducible] def PSD (A:AC) (X:Cx) (s:Stmt) (t:TSD):Prop:=PS X s (sOf A t)
@[irreducible] def PSsD (A:AC) (X:Cx) (s:List Stmt) (t:TSD):Prop:=PSs X s (sOf A t)
section
variable {A:AC} {X:Cx} {st:Stmt} {rest:List Stmt} {t u:TSD} {e a b:Expr} {te:TD} {tc:TBD} {pos:Pos}
def sNext:TSD:=fun F rho n=>F.nx rho n
def sSeq (t u:TSD):TSD:=fun F rho n=>t { F with nx:=u F } rho n
theorem pssd_nil:PSsD A X [] sNext:=by
 with_unfolding_all
  exact pss_nil.imp fun E sg H h=>by
   obtain ⟨rho,n,F,ds,vs,I,ht,ok⟩:=h
   exact ok.nx _ _ _ _ I ht
theorem pssd_cons (h1:PSD A X st t) (h2:PSsD A X rest u):PSsD A X (st :: rest) (sSeq t u):=by
 with_unfolding_all
  exact (pss_cons h1 h2).imp fun E sg H h=>by
   obtain ⟨rho,n,F,ds,vs,I,ht,ok⟩:=h
   exact ⟨rho,n,{ F with nx:=u F },ds,vs,I,ht,⟨fun rho' n' sg' H' I' k=>⟨rho',n',F,ds,vs,I',k,ok⟩,ok.rt,ok.bk,ok.ct⟩⟩
theorem pssd_one (h1:PSD A X st t):PSsD A X [st] t:=by
 with_unfolding_all
  exact pss_one h1
def sRet (te:TD):TSD:=fun F rho n=>te rho n F.rt
theorem psd_ret (he:PD A X e te):PSD A X (.Return (some e) pos) (sRet te):=by
 with_unfolding_all
  exact (ps_ret he).imp fun E sg H h=>by
   obtain ⟨rho,n,F,ds,vs,I,ht,ok⟩:=h
   exact ⟨rho,n,_,ds,vs,I,ht,fun v H' n' d I' k=>ok.rt _ _ _ _ _ _ I' k⟩
def sIf (c:TBD) (t u:TSD):TSD:=fun F rho n=>c rho n fun b n1=>if b = true then t F rho n1 else u F rho n1
theorem psd_if {c:Expr} {sa sb:List Stmt} (hc:PTD A X c tc) (ha:PSsD A X sa t) (hb:PSsD A X sb u):PSD A X (.If c sa sb pos) (sIf tc t u):=by
 with_unfolding_all
  exact (ps_if hc ha hb).imp fun E sg H h=>by
   obtain ⟨rho,n,F,ds,vs,I,ht,ok⟩:=h
   refine ⟨rho,n,_,ds,vs,I,ht,fun c H' n' J k=>?_⟩
   cases c with
   | true=>exact ⟨rho,n',F,ds,vs,J,k,ok⟩
   | false=>exact ⟨rho,n',F,ds,vs,J,k,ok⟩
def sSet (i:Nat) (te:TD):TSD:=fun F rho n=>i < rho.length /\ te rho n fun d n1=>F.nx (rho.set i (some d)) n1
theorem psd_set {i:Nat} {x:Str} {pos':Pos} (hN:X.N.Nodup) (hi:X.N[i]? = some x) (hx:Loc X.env.scope x) (he:PD A X e te) (hs:swapsWith e (some (.Name x pos')) pos.line X.env = pure false:=by rfl) (hf:X.fn x = true \/ X.env.scope.names.lookup x = some .local:=by first | exact .inl rfl | exact .inr rfl | assumption) :
  PSD A X (.Assign [.Name x pos'] e pos) (sSet i te):=by
 with_unfolding_all
  exact (ps_set hN hi hx he hs hf).imp fun E sg H h=>by
   obtain ⟨rho,n,F,ds,vs,I,⟨hl,ht⟩,ok⟩:=h
   exact ⟨rho,n,_,ds,vs,I,ht,fun v H' n' d ⟨os,J⟩ k=>ok.nx _ _ _ _ ⟨_,J.set hl⟩ k⟩
theorem psd_setComp {i:Nat} {x:Str} {pos' spos:Pos} {tg iter elt:Expr} {ifs:List Expr} {scope:Scope} {own M:List Str} {it:TID} {g:TGD} {tt:TBD} (hN:X.N.Nodup) (hix:X.N[i]? = some x) (hx:Loc X.env.scope x) (ok:CompOk X scope M) (hc:X.calm = true) (hi:PID A X tg iter it)
  (hg:∀ C s2 H2 fp,PGD A (cxComp X scope own M C s2 H2 fp) own.length tg g) (ht:∀ C s2 H2 fp,PTs (cxComp X scope own M C s2 H2 fp) ifs (ttOf A tt)) (he:∀ C s2 H2 fp,PD A (cxComp X scope own M C s2 H2 fp) elt te)
  (hsw:swapsWith (.ListComp elt [⟨tg,iter,ifs,0⟩] scope pos) (some (.Name x pos')) spos.line X.env = pure true:=by rfl) (hf:X.fn x = true \/ X.env.scope.names.lookup x = some .local:=by first | exact .inl rfl | exact .inr rfl | assumption)
  (hs:∀ x,foldedSetIterable iter X.env x = pure x:=by intro _; rfl):PSD A X (.Assign [.Name x pos'] (.ListComp elt [⟨tg,iter,ifs,0⟩] scope pos) spos) (sSet i (dComp it own.length g tt te)):=by
 with_unfolding_all
  exact
   (ps_setComp hN hix hx ok hc hi hg ht he hsw hf hs).imp fun E sg H h => by
    obtain ⟨rho,n,F,ds,vs,I,⟨hl,ht⟩,ok⟩:=h
    exact tComp_of (A:=A) ⟨rho,n,_,ds,vs,I,ht,fun v H' n' d ⟨os,J⟩ k=>ok.nx _ _ _ _ ⟨_,J.set hl⟩ k⟩
def sUnp (te:TD) (g:TGD):TSD:=fun F rho n=>te rho n fun d n1=>g d rho fun rho'=>F.nx rho' n1
theorem psd_unp {tg:Expr} {g:TGD} {m:Nat} (he:PD A X e te) (hg:PGD A X m tg g) (hs:swapsWithSole [tg] e pos.line X.env = pure false:=by rfl) (hw:swappedStores [tg] e X.env = pure none:=by rfl)
  (h1:(assignEach [tg] X.env).map (·.2) = [assign tg X.env]:=by rfl):PSD A X (.Assign [tg] e pos) (sUnp te g):=by
 with_unfolding_all
  exact (ps_asg he hg hs hw h1).imp fun E sg H h=>by
   obtain ⟨rho,n,F,ds,vs,I,ht,ok⟩:=h
   exact ⟨rho,n,_,ds,vs,I,ht,fun v H' n' d J k=>⟨rho,n',_,d,ds,vs,J,k,fun rho' sg' J' _ k'=>ok.nx _ _ _ _ J' k'⟩⟩
def sPar (i j:Nat) (t:TAD):TSD:=fun F rho n=>i < rho.length /\ j < rho.length /\ t rho n fun es n1=>∃ d d',es = [d,d'] /\ F.nx ((rho.set i (some d)).set j (some d')) n1
theorem psd_par {i j:Nat} {x y:Str} {ta:TAD} {px py pt:Pos} {kt k2 pt2} (hc:X.calm = true) (hN:X.N.Nodup) (hi:X.N[i]? = some x) (hj:X.N[j]? = some y) (hij:i ≠ j)
  (hx:X.env.scope.names.lookup x = some .local) (hy:X.env.scope.names.lookup y = some .local) (ha:PAD A X [a,b] ta)
  (hw:swappedStores [.Tuple [.Name x px,.Name y py] kt pt] (.Tuple [a,b] k2 pt2) X.env = pure (some [x,y]):=by rfl)
  (hs:swapsWithSole [.Tuple [.Name x px,.Name y py] kt pt] (.Tuple [a,b] k2 pt2) pos.line X.env = pure false:=by rfl) :
  PSD A X (.Assign [.Tuple [.Name x px,.Name y py] kt pt] (.Tuple [a,b] k2 pt2) pos) (sPar i j ta):=by
 with_unfolding_all
  exact (ps_par hc hN hi hj hij hx hy ha hw hs).imp fun E sg H h=>by
   obtain ⟨rho,n,F,ds,vs,I,⟨hl,hl2,ht⟩,ok⟩:=h
   refine ⟨rho,n,_,ds,vs,I,ht,fun ws H' n' es ⟨os,J⟩ hlen k=>?_⟩
   obtain ⟨d,d',rfl,k⟩:=k
   obtain ⟨J1,rs⟩:=J.split hlen
   obtain ⟨v,v',rfl,r,r'⟩:=reps2 rs
   refine ⟨v,v',rfl,ok.nx _ _ _ _ ?_ k⟩
   have J2:AmO A os n' rho sg H' (d :: d' :: ds) (v :: v' :: vs):=(J1.push r').push r
   exact ⟨_,(J2.set hl).set (by simpa using hl2)⟩
def sFor (it:TID) (g:TGD) (tb:TSD):TSD:=fun F rho n=>it rho n fun items n1=>∃ J:Nat -> Rho -> Nat -> Prop,J 0 rho n1 /\
 (∀ i d rho n,items[i]? = some d -> J i rho n -> g d rho fun rho'=>tb { F with nx:=J (i + 1),ct:=J (i + 1),bk:=F.nx } rho' n) /\ ∀ rho n,J items.length rho n -> F.nx rho n
theorem psd_for {tg iter:Expr} {body:List Stmt} {it:TID} {g:TGD} {tb:TSD} {m:Nat} (hp:PassesOwn (model X.prog X.w) X.A X.env X.xe) (hc:X.calm = true) (hi:PID A X tg iter it) (hg:PGD A X m tg g) (hb:PSsD A X body tb)
  (hs:∀ x,foldedSetIterable iter X.env x = pure x:=by intro _; rfl):PSD A X (.For tg iter body [] pos) (sFor it g tb):=by
 with_unfolding_all
  exact (ps_for hp hc hi hg hb hs).imp fun E sg H h=>by
   obtain ⟨rho,n,F,ds,vs,I,ht,ok⟩:=h
   refine ⟨rho,n,_,ds,vs,I,ht,fun J H' n' items es ws I1 hl hJ k=>?_⟩
   obtain ⟨W,w0,turn,fin⟩:=k
   refine ⟨fun i mm sg H=>mm = items.length - i /\ i <= items.length /\ ∃ rho n,Am A n rho sg H (es ++ ds) (ws ++ vs) /\ W i rho n,⟨items.length,rfl,Nat.zero_le _,rho,n',I1,w0⟩,?_⟩
   rintro i mm sg3 H3 ⟨rfl,hi,rho3,n3,I3,w3⟩
   obtain ⟨j1,j2⟩:=hJ n3 rho3 sg3 H3 ds vs i I3
   by_cases hlt:i < items.length
   ·refine .inr ⟨(j1 items[i] (by simp [hlt])).1, fun sg' H' => ∃ rho n, Am A n rho sg' H' (es ++ ds) (ws ++ vs) /\ W (i + 1) rho n, fun sg' H' ⟨rho', n', I', w'⟩ => ⟨items.length - (i + 1), by lia, rfl, hlt, rho', n', I', w'⟩, fun x H4 y => ?_⟩
    have I4:=(j1 items[i] (by simp [hlt])).2 x H4 y
    refine ⟨rho3,n3,_,items[i],es ++ ds,ws ++ vs,I4,turn i items[i] rho3 n3 (by simp [hlt]) w3,fun rho' sg' I5 _ k5=>⟨rho',n3,{ F with nx:=W (i + 1),ct:=W (i + 1),bk:=F.nx },es ++ ds,ws ++ vs,I5,k5,?_⟩⟩
    refine ⟨fun rho6 n6 sg6 H6 I6 k6=>⟨rho6,n6,I6,k6⟩,fun d n6 v rho6 sg6 H6 ⟨os6,I6⟩ k6=>ok.rt _ _ _ _ _ _ ⟨os6,I6.under hl⟩ k6,fun rho6 n6 sg6 H6 ⟨os6,I6⟩ k6=>ok.nx _ _ _ _ ⟨os6,(I6.split hl).1⟩ k6,fun rho6 n6 sg6 H6 I6 k6=>⟨rho6,n6,I6,k6⟩⟩
   ·have e : i = items.length := by lia
    subst e
    obtain ⟨os,I3⟩:=I3
    exact .inl ⟨j2 (Nat.le_refl _),ok.nx _ _ _ _ ⟨os,(I3.split hl).1⟩ (fin rho3 n3 w3)⟩
def sDrop (te:TD):TSD:=fun F rho n=>te rho n fun _ n1=>F.nx rho n1
theorem psd_expr (he:PD A X e te) (hs:swapsWith e none pos.line X.env = pure false:=by rfl):PSD A X (.Expr e pos) (sDrop te):=by
 with_unfolding_all
  exact (ps_expr he hs).imp fun E sg H h=>by
   obtain ⟨rho,n,F,ds,vs,I,ht,ok⟩:=h
   exact ⟨rho,n,_,ds,vs,I,ht,fun v H' n' d ⟨os,J⟩ k=>ok.nx _ _ _ _ ⟨os,J.pop.1⟩ k⟩
theorem Cof.cons {A:AC} {os:List (Nat × Addr)} {m:Nat} {q:Nat × Addr} {a:Addr} (z:Cof A os m a):Cof A (q :: os) m a:=by
 rcases z with z | ⟨p,hp,e⟩
 ·exact .inl z
 ·exact .inr ⟨p,List.mem_cons_of_mem _ hp,e⟩
theorem AmO.setOwn {os:List (Nat × Addr)} {n:Nat} {rho:Rho} {sg:St} {H:Hp} {ds es:List D} {vs xs:List V} {i:Nat} {p:Addr} (I:AmO A os n rho sg H ds vs) (hi:i < rho.length) (hp:H p = none) (r:Reps A.K A.G (Zof A os) H es xs) :
  ∃ os',AmO A os' n (rho.set i (some (.own es))) (sg.set i (some (.ref p))) (upd H p (.lst xs)) ds vs:=by
 have hf:∀ a u,H a = some u -> upd H p (.lst xs) a = some u:=fun a u e=>by rw [upd_ne (ne_of_none e hp)]; exact e
 refine ⟨(i,p) :: os.filter fun q=>decide (q.1 ≠ i),?_⟩
 have zz:∀ a,H a ≠ none -> Zof A ((i,p) :: os.filter fun q=>decide (q.1 ≠ i)) a -> Zof A os a:=fun a ha z=>by
  rcases z with z | ⟨q,hq,e⟩
  ·exact .inl z
  ·rcases List.mem_cons.mp hq with rfl | hq
   ·exact absurd (by rw [<- e]; exact hp) ha
   ·exact .inr ⟨q,(List.mem_filter.mp hq).1,e⟩
 have h0:A.H0 p = none:=by
  cases q:A.H0 p with
  | none=>rfl
  | some o =>
   by_cases e:A.G = some p
   ·obtain ⟨x, y, z, w, _⟩ := I.st.1 p e
    rw [w] at hp; cases hp
   ·have := I.fr p o e q
    rw [this] at hp; cases hp
 refine ⟨by simp [I.len],fun j c e=>?_,Reps.mono zz (fun a u _ e=>hf a u e) _ _ I.pend,?_,fun q hq=>?_,I.st.mono zz (fun a u _ e=>hf a u e) (fun a u _ e=>hf a u e) (fun a _ z=>Cof.cons (Cof.filter hi z)) (fun a u _ e=>hf a u e),I.gz,fun a u h e=>hf a u (I.fr a u h e),I.z0⟩
 ·by_cases hj : j = i
  ·subst hj
   rw [List.getElem?_set_self hi] at e
   cases e
   exact ⟨.ref p,List.getElem?_set_self (by rw [<- I.len]; exact hi),p,xs,rfl,List.mem_cons_self,upd_same,Reps.mono zz (fun a u _ e=>hf a u e) _ _ r⟩
  ·rw [List.getElem?_set_ne (Ne.symm hj)] at e
   obtain ⟨u,e1,e2⟩:=I.slot j c e
   exact ⟨u,by rw [List.getElem?_set_ne (Ne.symm hj)]; exact e1,SlotR.mono zz (fun a u _ e=>hf a u e) (fun a ys m q=>⟨List.mem_cons_of_mem _ (List.mem_filter.mpr ⟨m,by simpa using hj⟩),hf a _ q⟩) _ _ e2⟩
 ·refine List.pairwise_cons.mpr ⟨fun q hq => ?_, I.nd.filter _⟩
  obtain ⟨m1,m2⟩:=List.mem_filter.mp hq
  refine ⟨fun z=>by simp [<- z] at m2,fun z=>(I.fresh q m1).2.2 ?_⟩
  have z':p = q.2:=z
  rw [<- z']; exact hp
 ·rcases List.mem_cons.mp hq with rfl | hq
  ·exact ⟨h0,fun z=>I.zH p (.inl z) hp,by show upd H p _ p ≠ none; rw [upd_same]; simp⟩
  ·obtain ⟨f1, f2, f3⟩ := I.fresh q (List.mem_filter.mp hq).1
   refine ⟨f1,f2,?_⟩
   cases w:H q.2 with
   | none=>exact absurd w f3
   | some u=>rw [hf _ _ w]; simp
def sOwn (i:Nat) (t:TAD):TSD:=fun F rho n=>i < rho.length /\ t rho n fun es n1=>es.length <= sizeLine /\ F.nx (rho.set i (some (.own es))) n1
theorem psd_own {i:Nat} {x:Str} {pos' pos2:Pos} {els:List Expr} {ta:TAD} (hN:X.N.Nodup) (hi:X.N[i]? = some x) (hx:Loc X.env.scope x) (ha:PAD A X els ta) (hf:X.fn x = true \/ X.env.scope.names.lookup x = some .local:=by first | exact .inl rfl | exact .inr rfl | assumption)
  (hs:swapsWith (.List els pos2) (some (.Name x pos')) pos.line X.env = pure false:=by rfl):PSD A X (.Assign [.Name x pos'] (.List els pos2) pos) (sOwn i ta):=by
 with_unfolding_all
  exact (ps_set hN hi hx (pe_lst ha) hs hf).imp fun E sg H h=>by
   obtain ⟨rho,n,F,ds,vs,I,⟨hl,ht⟩,ok⟩:=h
   refine ⟨rho,n,_,ds,vs,I,ht,fun ws H' n' es ⟨os,J⟩ hlen k=>⟨by rw [hlen]; exact k.1,fun p hp=>?_⟩⟩
   obtain ⟨J1,rs⟩:=J.split hlen
   exact ok.nx _ _ _ _ (J1.setOwn hl hp rs) k.2
theorem AmO.own {os:List (Nat × Addr)} {n:Nat} {rho:Rho} {sg:St} {H:Hp} {ds es es':List D} {vs xs':List V} {i:Nat} (I:AmO A os n rho sg H ds vs) (hi:rho[i]? = some (some (.own es))) :
  ∃ a xs,sg[i]? = some (some (.ref a)) /\ H a = some (.lst xs) /\ Reps A.K A.G (Zof A os) H es xs /\ ∀ es' xs',Reps A.K A.G (Zof A os) H es' xs' -> AmO A os n (rho.set i (some (.own es'))) sg (upd H a (.lst xs')) ds vs:=by
 obtain ⟨v,e1,a,xs,rfl,hm,hH,rs⟩:=I.slot i _ hi
 have hil:i < rho.length:=(List.getElem?_eq_some_iff.mp hi).1
 have za:Zof A os a:=.inr ⟨_,hm,rfl⟩
 have hf:∀ (xs':List V) b u,¬ Zof A os b -> H b = some u -> upd H a (.lst xs') b = some u:=fun xs' b u nz e=>by
  rw [upd_ne fun z=>nz (by rw [z]; exact za)]; exact e
 have uniq:∀ j,(j,a) ∈ os -> j = i:=fun j hj=>by
  by_cases hji:j = i
  ·exact hji
  ·have key : ∀ (l : List (Nat × Addr)), l.Pairwise (fun p q => p.1 ≠ q.1 /\ p.2 ≠ q.2) -> (j, a) ∈ l -> (i, a) ∈ l -> False := by
    intro l
    induction l with
    | nil=>intro _ h; simp at h
    | cons c l ih =>
     intro hp h1 h2
     obtain ⟨p1,p2⟩:=List.pairwise_cons.mp hp
     rcases List.mem_cons.mp h1 with e1 | h1 <;> rcases List.mem_cons.mp h2 with e2 | h2
     ·rw [<- e2] at e1; exact hji (Prod.mk.inj e1).1
     ·exact (p1 _ h2).2 (by rw [<- e1])
     ·exact (p1 _ h1).2 (by rw [<- e2])
     ·exact ih p2 h1 h2
   exact (key os I.nd hj hm).elim
 obtain ⟨fa1,fa2,fa3⟩:=I.fresh _ hm
 refine ⟨a,xs,e1,hH,rs,fun es' xs' r=>⟨by simp [I.len],fun j c e=>?_,Reps.mono (fun _ _ z=>z) (hf xs') _ _ I.pend,I.nd,fun q hq=>?_,I.st.monoC (fun _ _ z=>z) (hf xs') (fun c u g e=>by rw [upd_ne fun w=>fa2 (by rw [<- w]; exact I.gz c g)]; exact e) (fun _ _ z=>by rw [List.length_set]; exact z) (fun c u q e=>by rw [upd_ne fun w=>q (by rw [w]; exact I.noOwn hil hm)]; exact e),I.gz,fun b u h e=>?_,I.z0⟩⟩
 ·by_cases hj : j = i
  ·subst hj
   rw [List.getElem?_set_self hil] at e
   cases e
   exact ⟨.ref a,e1,a,xs',rfl,hm,upd_same,Reps.mono (fun _ _ z=>z) (hf xs') _ _ r⟩
  ·rw [List.getElem?_set_ne (Ne.symm hj)] at e
   obtain ⟨u,e2,e3⟩:=I.slot j c e
   exact ⟨u,e2,SlotR.mono (fun _ _ z=>z) (hf xs') (fun b ys m q=>⟨m,by rw [upd_ne fun z=>hj (uniq j (by rw [<- z]; exact m))]; exact q⟩) _ _ e3⟩
 ·obtain ⟨f1, f2, f3⟩ := I.fresh q hq
  refine ⟨f1,f2,?_⟩
  by_cases e:q.2 = a
  ·rw [e,upd_same]; simp
  ·rw [upd_ne e]; exact f3
 ·rw [upd_ne fun w => by rw [w, fa1] at e; cases e]
  exact I.fr b u h e
theorem AmO.freeze {os:List (Nat × Addr)} {n:Nat} {rho:Rho} {sg:St} {H:Hp} {ds es:List D} {vs:List V} {i:Nat} (I:AmO A os n rho sg H ds vs) (hi:rho[i]? = some (some (.own es))):∃ os',AmO A os' n (rho.set i (some (.lst es))) sg H ds vs:=by
 obtain ⟨v,e1,a,xs,rfl,hm,hH,rs⟩:=I.slot i _ hi
 have hil:i < rho.length:=(List.getElem?_eq_some_iff.mp hi).1
 refine ⟨os.filter fun q=>decide (q.1 ≠ i),?_⟩
 have sub:∀ b,H b ≠ none -> Zof A (os.filter fun p=>decide (p.1 ≠ i)) b -> Zof A os b:=fun b _ z=>by
  rcases z with z | ⟨p,hp,e⟩
  ·exact .inl z
  ·exact .inr ⟨p,(List.mem_filter.mp hp).1,e⟩
 have key:∀ (l:List (Nat × Addr)),l.Pairwise (fun p q=>p.1 ≠ q.1 /\ p.2 ≠ q.2) -> (i,a) ∈ l -> ∀ q ∈ l,q.2 = a -> q.1 = i:=by
  intro l
  induction l with
  | nil=>intro _ h; simp at h
  | cons c l ih =>
   intro hp h1 q hq hqa
   obtain ⟨p1,p2⟩:=List.pairwise_cons.mp hp
   rcases List.mem_cons.mp h1 with e1 | h1 <;> rcases List.mem_cons.mp hq with e2 | h2
   ·rw [e2,<- e1]
   ·exact absurd (by rw [<- e1,hqa]) (p1 _ h2).2
   ·exact absurd (by rw [<- e2,hqa]) (p1 _ h1).2
   ·exact ih p2 h1 q h2 hqa
 refine ⟨by simp [I.len],fun j c e=>?_,Reps.mono sub (fun _ _ _ e=>e) _ _ I.pend,I.nd.filter _,fun p hp=>I.fresh p (List.mem_filter.mp hp).1,I.st.mono sub (fun _ _ _ e=>e) (fun _ _ _ e=>e) (fun a _ z=>Cof.filter hil z) (fun _ _ _ e=>e),I.gz,I.fr,I.z0⟩
 by_cases hj:j = i
 ·subst hj
  rw [List.getElem?_set_self hil] at e
  cases e
  refine ⟨.ref a,e1,Rep.lst_mk ⟨fun z=>?_,hH⟩ (Reps.mono sub (fun _ _ _ e=>e) _ _ rs)⟩
  rcases z with z | ⟨p,hp,e⟩
  ·exact (I.fresh _ hm).2.1 z
  ·obtain ⟨m1, m2⟩ := List.mem_filter.mp hp
   have:=key os I.nd hm p m1 e
   simp [this] at m2
 ·rw [List.getElem?_set_ne (Ne.symm hj)] at e
  obtain ⟨u,e2,e3⟩:=I.slot j c e
  exact ⟨u,e2,SlotR.mono sub (fun _ _ _ e=>e) (fun b ys m q=>⟨List.mem_filter.mpr ⟨m,by simpa using hj⟩,q⟩) _ _ e3⟩
def sFrz (i:Nat) (t:TSD):TSD:=fun F rho n=>∃ es,rho[i]? = some (some (.own es)) /\ t F (rho.set i (some (.lst es))) n
theorem psd_frz (i:Nat) (h:PSD A X st t):PSD A X st (sFrz i t):=by
 with_unfolding_all
  exact PS.imp h fun E sg H q=>by
   obtain ⟨rho,n,F,ds,vs,⟨os,I⟩,⟨es,hi,ht⟩,ok⟩:=q
   exact ⟨_,n,F,ds,vs,I.freeze hi,ht,ok⟩
end
end L2
set_option maxRecDepth 100000
namespace L2
open PySem PySem.Spec PyProof.Rows
section
variable {A:AC} {X:Cx} {e a b:Expr} {es:List Expr} {te ta tb:TD} {t1:TAD} {pos:Pos}
def sAppend (i:Nat) (t:TAD):TSD:=fun F rho n=>∃ es,rho[i]? = some (some (.own es)) /\ es.length < sizeLine /\ t rho n fun ds n1=>∃ d,ds = [d] /\ F.nx (rho.set i (some (.own (es ++ [d])))) n1
theorem psd_append {i:Nat} {x:Str} {px apos cpos:Pos} (ha:PAD A X [e] t1) (hK:X.K = A.K) (hN:X.N[i]? = some x:=by rfl) (hv:Vis X.env.scope x:=by first | exact Or.inl rfl | exact Or.inr (Or.inl rfl) | exact Or.inr (Or.inr rfl)) (hd:(x == ("__debug__" : Str)) = false:=by decide)
  (hcd:(x == ("__classdict__" : Str)) = false:=by decide) (hbase:attributeBase (.Name x px) "append" X.env (eval (.Name x px) X.env) = eval (.Name x px) X.env:=by rfl)
  (hfew : ((backTo cpos (starEach [e] X.env)).all (fun x => !x.1) && (backToKw cpos (keywordEach [] X.env)).all (fun x => x.1.isSome)
   && decide ([e].length + ([]:List Keyword).length + (if ([]:List Keyword).isEmpty then 0 else 1) < 30)) = true:=by rfl)
  (hline:(apos.endLine == cpos.line) = true:=by rfl) (hs:starEach [e] X.env = (false,eval e X.env) :: starEach [] X.env:=by rfl) (hplain:(backTo cpos (starEach [] X.env)).any (·.1) = false:=by rfl)
  (hsw:swapsWith (.Call (.Attribute (.Name x px) "append" apos) [e] [] cpos) none pos.line X.env = pure false:=by rfl) :
  PSD A X (.Expr (.Call (.Attribute (.Name x px) "append" apos) [e] [] cpos) pos) (sAppend i t1):=by
 with_unfolding_all
  exact
   (ps_expr (pe_bm PySem.F.plainAttrs_list PySem.F.slot_list_append PySem.F.type_list_append mt_append (pe_var hN hv hd hcd) ha hbase hfew hline hs hplain) hsw).imp fun E sg H h => by
    obtain ⟨rho,n,F,ds,vs,⟨os,I⟩,⟨es,hi,hz,ht⟩,ok⟩:=h
    obtain ⟨a,xs,e1,hH,rs,_⟩:=I.own (es':=es) (xs':=[]) hi
    refine ⟨.ref a,e1,.inl ⟨rfl,xs,SqL.of hH⟩,rho,n,_,ds,vs,⟨os,I⟩,ht,fun ws H' n' fs ⟨os',J⟩ hl k=>?_⟩
    obtain ⟨d,rfl,k⟩:=k
    obtain ⟨J1,rs1⟩:=J.split hl
    obtain ⟨v,rfl,r⟩:=reps1 rs1
    obtain ⟨a',xs',e2,hH',rs',up⟩:=J1.own (es':=es) (xs':=[]) hi
    rw [e1] at e2
    cases e2
    exact ⟨a,xs',v,rfl,rfl,hH',by rw [rs'.length]; exact hz,ok.nx _ _ _ _ ⟨os',up _ _ (rs'.append (.cons r .nil))⟩ k⟩
def ownAt (o:Option (Option D)) (p:List D -> Prop):Prop:=∃ es,o = some (some (.own es)) /\ p es
def dOwnIx (i:Nat) (tb:TD):TD:=fun rho n P=>ownAt rho[i]? fun es=>tb rho n fun d n1=>∃ j c,d = .int j /\ atI es j = some c /\ P c n1
def sOwnSet (i:Nat) (te tb:TD):TSD:=fun F rho n=>ownAt rho[i]? fun es=>te rho n fun d n1=>tb rho n1 fun d2 n2=>∃ j m,d2 = .int j /\ ixN es.length j = some m /\ F.nx (rho.set i (some (.own (es.set m d)))) n2
def dStIx (i:Nat) (tb:TD):TD:=fun rho n P=>rho[i]? = some (some .st) /\ tb rho n fun d n1=>∃ j:Int,d = .int j /\ 0 <= j /\ j < kOf n1 /\ ∀ z:Int,0 <= z -> (j = 1 -> z < 2147483647) -> P (.int z) n1
theorem ixN_of {n:Nat} {i:Int} (h0:0 <= i) (h1:i < n):ixN n i = some i.toNat:=by unfold ixN; rw [if_pos h0,if_pos h1]
theorem pd_stIx {i:Nat} {x:Str} {px:Pos} (hb:PD A X b tb) (hpl:PlainIx b) (hN:X.N[i]? = some x:=by rfl) (hv:Vis X.env.scope x:=by first | exact Or.inl rfl | exact Or.inr (Or.inl rfl) | exact Or.inr (Or.inr rfl)) (hd:(x == ("__debug__" : Str)) = false:=by decide)
  (hcd:(x == ("__classdict__" : Str)) = false:=by decide):PD A X (.Subscript (.Name x px) b pos) (dStIx i tb):=by
 with_unfolding_all
  exact
   (pe_ix ix_list (pe_var hN hv hd hcd) hb hpl).imp fun sg H Q h => by
    obtain ⟨rho,n,P,ds,vs,⟨os,I⟩,⟨hi,ht⟩,hQ⟩:=h
    obtain ⟨v,e1,e2⟩:=I.slot i _ hi
    obtain ⟨a,ha,rfl⟩:∃ a,A.G = some a /\ v = .ref a:=by
     have e3:=SlotR.rep (d:=.st) rfl e2
     unfold Rep at e3
     exact e3
    refine ⟨.ref a,e1,rho,n,_,ds,vs,⟨os,I⟩,ht,fun w H' n' d ⟨os',J⟩ k=>?_⟩
    obtain ⟨j,rfl,h0,h3,k⟩:=k
    obtain ⟨J1,r⟩:=J.pop
    obtain ⟨zs,_,_,hH,p1,p2,p3⟩:=J1.st.1 a ha
    obtain ⟨jn,rfl⟩:=Int.eq_ofNat_of_zero_le h0
    have hjl:jn < zs.length:=by lia
    have ej:zs[jn]? = some zs[jn]:=List.getElem?_eq_getElem hjl
    refine ⟨a,_,(jn:Int),.int zs[jn],rfl,r.int_inv,SqL.of hH,?_,hQ _ H' n' _ ⟨os',J1.push (Rep.ofS (d:=.int zs[jn]) rfl)⟩ (k zs[jn] (p2 _ (List.getElem_mem hjl)) fun e=>p3 _ (by rw [<- ej]; congr 1; lia))⟩
    unfold atI
    rw [ixN_of (by lia) (by rw [List.length_map]; lia)]
    simp [hjl]
theorem ints_set (zs:List Int) (j:Nat) (z:Int):(zs.map V.int).set j (.int z) = (zs.set j z).map V.int:=by rw [List.map_set]
theorem AmO.setSt {os:List (Nat × Addr)} {n:Nat} {rho:Rho} {sg:St} {H:Hp} {ds:List D} {vs:List V} {a:Addr} {zs:List Int} (I:AmO A os n rho sg H ds vs) (ha:A.G = some a) (h:zs.length = kOf n /\ (∀ x ∈ zs,0 <= x) /\ ∀ x,zs[1]? = some x -> x < 2147483647) :
  AmO A os n rho sg (upd H a (.lst (zs.map V.int))) ds vs:=by
 have za:Zof A os a:=.inl (I.gz a ha)
 have hf:∀ b u,¬ Zof A os b -> H b = some u -> upd H a (.lst (zs.map V.int)) b = some u:=fun b u nz e=>by
  rw [upd_ne fun w=>nz (by rw [w]; exact za)]; exact e
 have no:∀ p ∈ os,p.2 ≠ a:=fun p hp e=>(I.fresh p hp).2.1 (by rw [e]; exact I.gz a ha)
 refine ⟨I.len,fun j c e=>?_,Reps.mono (fun _ _ w=>w) hf _ _ I.pend,I.nd,fun q hq=>?_,⟨fun b e=>?_,fun b c e=>?_⟩,I.gz,fun b u h e=>?_,I.z0⟩
 ·obtain ⟨u, e1, e2⟩ := I.slot j c e
  exact ⟨u,e1,SlotR.mono (fun _ _ w=>w) hf (fun b ys m q=>⟨m,by rw [upd_ne (no _ m)]; exact q⟩) _ _ e2⟩
 ·obtain ⟨f1, f2, f3⟩ := I.fresh q hq
  exact ⟨f1,f2,by rw [upd_ne (no q hq)]; exact f3⟩
 ·rw [ha] at e
  cases e
  exact ⟨zs,0,0,upd_same,h⟩
 ·obtain ⟨q1, q2, q3⟩ := I.st.2 b c e
  exact ⟨q1,q2,q3.mono (fun _ _ w=>w) hf fun u e=>by rw [upd_ne fun w=>q2 (by rw [w]; exact ha)]; exact e⟩
 ·rw [upd_ne fun w => h (by rw [w]; exact ha)]
  exact I.fr b u h e
def sStSet (i:Nat) (te tb:TD):TSD:=fun F rho n=>rho[i]? = some (some .st) /\ te rho n fun d n1=>tb rho n1 fun d2 n2=>∃ j z:Int,d = .int z /\ d2 = .int j /\ 0 <= j /\ j < kOf n2 /\ 0 <= z /\ (j = 1 -> z < 2147483647) /\ F.nx rho n2
theorem psd_stSet {i:Nat} {x:Str} {px ps:Pos} (he:PD A X e te) (hb:PD A X b tb) (hN:X.N[i]? = some x:=by rfl) (hv:Vis X.env.scope x:=by first | exact Or.inl rfl | exact Or.inr (Or.inl rfl) | exact Or.inr (Or.inr rfl)) (hd:(x == ("__debug__" : Str)) = false:=by decide)
  (hcd : (x == ("__classdict__" : Str)) = false := by decide) (ha : ∀ v, assign (.Subscript (.Name x px) b ps) X.env v = (do
   let ov <- holding [v] (eval (.Name x px) X.env)
   let iv <- holding [v,ov] (eval b X.env)
   standAt ps
   holding [v,ov,iv] (setItem ov iv v)
   release [v,ov,iv] []):=by intro _; rfl) (hs:swapsWithSole [.Subscript (.Name x px) b ps] e pos.line X.env = pure false:=by rfl) (hw:swappedStores [.Subscript (.Name x px) b ps] e X.env = pure none:=by rfl)
  (h1:(assignEach [.Subscript (.Name x px) b ps] X.env).map (·.2) = [assign (.Subscript (.Name x px) b ps) X.env]:=by rfl) :
  PSD A X (.Assign [.Subscript (.Name x px) b ps] e pos) (sStSet i te tb):=by
 with_unfolding_all
  exact
   (ps_asg he (pg_sub (pe_var hN hv hd hcd) hb set_list ha) hs hw h1).imp fun E sg H h => by
    obtain ⟨rho,n,F,ds,vs,⟨os,I⟩,⟨hi,ht⟩,ok⟩:=h
    obtain ⟨v,e1,e2⟩:=I.slot i _ hi
    obtain ⟨a,hG,rfl⟩:∃ a,A.G = some a /\ v = .ref a:=by
     have e3:=SlotR.rep (d:=.st) rfl e2
     unfold Rep at e3
     exact e3
    refine ⟨rho,n,_,ds,vs,⟨os,I⟩,ht,fun v H' n' d J k=>⟨.ref a,e1,rho,n',_,d :: ds,v :: vs,J,k,fun w H2 n2 d2 ⟨os2,J2⟩ k2=>?_⟩⟩
    obtain ⟨j,z,rfl,rfl,h0,h3,hz,h2,k2⟩:=k2
    obtain ⟨J3,r2⟩:=J2.pop
    obtain ⟨J4,r1⟩:=J3.pop
    obtain ⟨zs,_,_,hH,p1,p2,p3⟩:=J4.st.1 a hG
    rw [r1.int_inv,r2.int_inv]
    obtain ⟨jn,rfl⟩:=Int.eq_ofNat_of_zero_le h0
    have hjl:jn < zs.length:=by lia
    refine ⟨a,_,(jn:Int),jn,rfl,rfl,hH,by rw [ixN_of (by lia) (by rw [List.length_map]; lia)]; simp,?_⟩
    rw [ints_set]
    refine ok.nx _ _ _ _ ⟨os2,J4.setSt hG ⟨by rw [List.length_set]; exact p1,fun x hx=>?_,fun x hx=>?_⟩⟩ k2
    ·rcases List.mem_or_eq_of_mem_set hx with hx | rfl
     ·exact p2 x hx
     ·exact hz
    ·by_cases e : jn = 1
     ·subst e
      rw [List.getElem?_set_self hjl] at hx
      cases hx
      exact h2 rfl
     ·rw [List.getElem?_set_ne e] at hx
      exact p3 x hx
def cutL (es:List D) (lo hi:Option Int):List D:=(es.drop (HT.sIx es.length 0 lo)).take (HT.sIx es.length es.length hi - HT.sIx es.length 0 lo)
theorem reps_cut {K:PySem.W.Frag} {G:Option Addr} {Z:Addr -> Prop} {H:Hp} {fs:List D} {xs:List V} (h:Reps K G Z H fs xs) (lo hi:Option Int):Reps K G Z H (cutL fs lo hi) (cutV xs lo hi):=by
 unfold cutL cutV
 rw [h.length]
 exact (h.drop _).take _
def dSlL (lo hi:Option Int) (ta:TD):TD:=fun rho n P=>ta rho n fun d n1=>∃ fs,(d = .lst fs \/ d = .fz fs) /\ P (.lst (cutL fs lo hi)) n1
def enumD (es:List D):List D:=es.zipIdx.map fun p=>.tup [.int (p.2:Nat),p.1]
def iEnumD (t:TAD):TID:=fun rho n P=>t rho n fun es n1=>∃ fs,es = [.lst fs] /\ P (enumD fs) n1
end
abbrev TF:=List D -> Nat -> (D -> Nat -> Prop) -> Prop
noncomputable def hide (n:Nat) (H:Hp):Hp:=fun a=>match cellAt n a with | none=>H a | some _=>none
theorem hide_of {n:Nat} {H:Hp} {a:Addr} (h:cellAt n a = none):hide n H a = H a:=by unfold hide; rw [h]
theorem hide_none {n:Nat} {H:Hp} {a:Addr} (h:cellAt n a ≠ none):hide n H a = none:=by
 unfold hide
 cases q:cellAt n a with
 | none=>exact absurd q h
 | some c=>rfl
theorem hide_some {n:Nat} {H:Hp} {a:Addr} {o:HO} (h:hide n H a = some o):cellAt n a = none /\ H a = some o:=by
 by_cases q:cellAt n a = none
 ·rw [hide_of q] at h; exact ⟨q,h⟩
 ·rw [hide_none q] at h; cases h
abbrev ZCof (Z:Addr -> Prop) (n:Nat):Addr -> Prop:=fun a=>Z a \/ cellAt n a ≠ none
structure Grown (n n':Nat) (H:Hp):Prop where
 new:∀ a,cellAt n' a ≠ none -> cellAt n a ≠ none \/ H a = none
 old:∀ a,cellAt n a ≠ none -> cellAt n' a ≠ none
def spD (K:PySem.W.Frag) (k:Nat) (t:TF):Sp:=fun vs H Q _=>∃ (G:Option Addr) (Z:Addr -> Prop) (n:Nat) (P:D -> Nat -> Prop) (ds:List D),ds.length = k /\ Reps K G Z H ds vs /\ StOk K Z Z G n H /\ (∀ a,G = some a -> Z a) /\ (∀ a,Z a -> H a ≠ none) /\ t ds n P /\
 ∀ v H' n' d,(∀ a o,G ≠ some a -> cellAt n a = none -> H a = some o -> H' a = some o) -> StOk K (ZCof Z n') (ZCof Z n') G n' H' -> Grown n n' H -> Rep K G (ZCof Z n') H' d v -> P d n' -> Q v H'
def startD (N:List Str) (ds:List D):Rho:=ds.map some ++ List.replicate (N.length - ds.length) none
theorem AmO.ended {K:PySem.W.Frag} {G:Option Addr} {Z:Addr -> Prop} {H H':Hp} {os:List (Nat × Addr)} {n n':Nat} {rho':Rho} {sg':St} {ds:List D} {vs:List V} (I:AmO ⟨K,G,Z,hide n H⟩ os n' rho' sg' H' ds vs) (st:StOk K Z Z G n H) (z0:∀ a,Z a -> H a ≠ none) :
  (∀ a o,G ≠ some a -> cellAt n a = none -> H a = some o -> H' a = some o) /\ StOk K (ZCof Z n') (ZCof Z n') G n' H' /\ Grown n n' H /\ ∀ a,ZCof Z n' a -> Zof ⟨K,G,Z,hide n H⟩ os a:=by
 have r4:∀ a,ZCof Z n' a -> Zof ⟨K,G,Z,hide n H⟩ os a:=fun a z=>by
  rcases z with z | z
  ·exact .inl z
  ·cases q : cellAt n' a with
   | none=>exact absurd q z
   | some c =>
    rcases (I.st.2 a c q).1 with z | ⟨p,hp,e,_⟩
    ·exact .inl z.1
    ·exact .inr ⟨p,hp,e⟩
 have cz:∀ a,cellAt n a ≠ none -> Z a:=fun a z=>by
  cases q:cellAt n a with
  | none=>exact absurd q z
  | some c=>exact (st.2 a c q).1
 refine ⟨fun a o g c e=>I.fr a o g (by show hide n H a = some o; rw [hide_of c]; exact e),I.st.mono (fun a _ z=>r4 a z) (fun _ _ _ e=>e) (fun _ _ _ e=>e) (fun a c _=>.inr c) (fun _ _ _ e=>e),⟨fun a z=>?_,fun a z=>?_⟩,r4⟩
 ·cases q : cellAt n' a with
  | none=>exact absurd q z
  | some c =>
   rcases (I.st.2 a c q).1 with ⟨z,h⟩ | ⟨p,hp,e,_⟩
   ·by_cases w : cellAt n a = none
    ·have h : hide n H a = none := h
     rw [hide_of w] at h
     exact .inr h
    ·exact .inl w
   ·have h : hide n H p.2 = none := (I.fresh p hp).1
    rw [e] at h
    by_cases w:cellAt n a = none
    ·rw [hide_of w] at h
     exact .inr h
    ·exact .inl w
 ·rcases I.z0 a (cz a z) with h | h
  ·exact absurd (hide_none z) h
  ·exact h
theorem amo_start {K:PySem.W.Frag} {G:Option Addr} {Z:Addr -> Prop} {H:Hp} {N:List Str} {ds:List D} {vs:List V} {n:Nat} (rs:Reps K G Z H ds vs) (st:StOk K Z Z G n H) (gz:∀ a,G = some a -> Z a) (z0:∀ a,Z a -> H a ≠ none) :
  AmO ⟨K,G,Z,hide n H⟩ [] n (startD N ds) (start N vs) H [] []:=by
 have hl:=rs.length
 have zz:∀ a,Zof ⟨K,G,Z,hide n H⟩ [] a -> Z a:=fun a z=>by
  rcases z with z | ⟨p,hp,_⟩
  ·exact z
  ·simp at hp
 have rs':Reps K G (Zof ⟨K,G,Z,hide n H⟩ []) H ds vs:=Reps.mono (fun a _ z=>zz a z) (fun _ _ _ e=>e) _ _ rs
 refine ⟨by simp [startD,start,hl],fun i d e=>?_,.nil,.nil,fun p hp=>by simp at hp,st.mono (fun a _ z=>zz a z) (fun _ _ _ e=>e) (fun _ _ _ e=>e) (fun a c z=>.inl ⟨z,hide_none c⟩) (fun _ _ _ e=>e),gz,fun a o _ e=>(hide_some e).2,fun a z=>?_⟩
 rotate_left
 ·by_cases q : cellAt n a = none
  ·exact .inl (by show hide n H a ≠ none; rw [hide_of q]; exact z0 a z)
  ·exact .inr q
 unfold startD at e
 by_cases hi:i < ds.length
 ·rw [List.getElem?_append_left (by simpa using hi), List.getElem?_map] at e
  cases q:ds[i]? with
  | none=>rw [q] at e; cases e
  | some c =>
   rw [q] at e
   cases e
   obtain ⟨v,e1,r⟩:=rs'.get q
   refine ⟨v,?_,SlotR.of r⟩
   unfold start
   rw [List.getElem?_append_left (by rw [List.length_map,hl]; exact hi),List.getElem?_map,e1]
   rfl
 ·rw [List.getElem?_append_right (by simpa using hi), List.getElem?_replicate] at e
  split at e <;> cases e
section
variable {P:Program} {w:World} {K:PySem.W.Frag} {mg:Str -> Option Value} {base:Heap}
theorem Fun.okD {x qual:Str} {st:Stmt} {f:Addr} {fd:FuncData} {N ps:List Str} {k:Nat} {t:TF} {tb:TSD} (F:Fun K x qual st f fd) (S:FnScope N ps (defScope st))
  (body : ∀ (cdv : Value) (A0 : Around) (outer : List Env) (s : Shared) (H : Hp) (E : XK) (G : Option Addr) (Z : Addr -> Prop) (n : Nat), Room k (A0.deeper (envOfC qual (defScope st) s.heap.objs.size f cdv)) ->
   PSsD ⟨K,G,Z,hide n H⟩ (cxOf CX0 P w K mg base N qual (defScope st) f cdv A0 outer s H E).nox (defBody st) tb)
  (spec:∀ ds n Q,ds.length = ps.length -> t ds n Q -> tb { nx:=fun _ n=>Q .non n,rt:=Q } (startD N ds) n):FnOk P w K mg base CX0 (k + 1) f fd ps (spD K ps.length t):=by
 with_unfolding_all
  exact (by
   refine F.ok S (fun vs H Q E h=>?_) (fun cdv A0 outer s H vs Q E hr h=>?_)
   ·obtain ⟨G, Z, n, R, ds, hl, rs, _⟩ := h
    rw [rs.length]; exact hl
   ·obtain ⟨G, Z, n, R, ds, hl, rs, hst, gz, z0, ht, hQ⟩ := h
    refine ⟨_,body cdv A0 outer s H E G Z n hr,startD N ds,n,_,[],[],⟨[],amo_start rs hst gz z0⟩,spec ds n R hl ht,?_⟩
    refine ⟨fun rho' n' sg' H' ⟨os,I⟩ q=>?_,fun d n' v rho' sg' H' ⟨os,I⟩ q=>?_,fun _ _ _ _ _ q=>q.elim,fun _ _ _ _ _ q=>q.elim⟩
    ·obtain ⟨r1, r2, r3, _⟩ := I.ended hst z0
     exact hQ .non H' n' .non r1 r2 r3 (Rep.ofS rfl) q
    ·obtain ⟨r1, r2, r3, r4⟩ := I.ended hst z0
     exact hQ v H' n' d r1 r2 r3 (Rep.mono (fun a _ z=>r4 a z) (fun _ _ _ e=>e) _ _ I.pop.2) q)
end
section
variable {A:AC} {X:Cx} {e:Expr} {es:List Expr} {t1:TAD} {pos p:Pos}
def dFn (k:Nat) (t:TF) (t1:TAD):TD:=fun rho n P=>t1 rho n fun es n1=>es.length = k /\ t es n1 P
theorem os_more (New:Addr -> Prop):∀ (l:List Addr) (os:List (Nat × Addr)) (m:Nat),os.Pairwise (fun p q=>p.1 ≠ q.1 /\ p.2 ≠ q.2) -> ∃ ex:List (Nat × Addr),(ex ++ os).Pairwise (fun p q=>p.1 ≠ q.1 /\ p.2 ≠ q.2) /\ (∀ p ∈ ex,m <= p.1 /\ p.2 ∈ l /\ New p.2) /\ ∀ a ∈ l,New a -> ∃ p ∈ ex ++ os,p.2 = a
 | [],os,m,h=>⟨[],h,fun p hp=>by simp at hp,fun a ha=>by simp at ha⟩
 | a :: l, os, m, h => by
  obtain ⟨ex,h1,h2,h3⟩:=os_more New l os m h
  by_cases c:New a /\ ¬ ∃ p ∈ ex ++ os,p.2 = a
  ·have big : ∃ k, m <= k /\ ∀ p ∈ ex ++ os, p.1 < k := by
    have:∀ l:List (Nat × Addr),∃ k,m <= k /\ ∀ p ∈ l,p.1 < k:=by
     intro l
     induction l with
     | nil=>exact ⟨m,Nat.le_refl _,fun p hp=>by simp at hp⟩
     | cons p l ih =>
      obtain ⟨k,k1,k2⟩:=ih
      refine ⟨max k (p.1 + 1),by lia,fun q hq=>?_⟩
      rcases List.mem_cons.mp hq with rfl | hq
      ·lia
      ·have:=k2 q hq; lia
    exact this _
   obtain ⟨k,k1,k2⟩:=big
   refine ⟨(k,a) :: ex,List.pairwise_cons.mpr ⟨fun p hp=>⟨Nat.ne_of_gt (k2 p hp),fun z=>c.2 ⟨p,hp,z.symm⟩⟩,h1⟩,fun p hp=>?_,fun b hb hn=>?_⟩
   ·rcases List.mem_cons.mp hp with rfl | hp
    ·exact ⟨k1,List.mem_cons_self,c.1⟩
    ·obtain ⟨q1, q2, q3⟩ := h2 p hp
     exact ⟨q1,List.mem_cons_of_mem _ q2,q3⟩
   ·rcases List.mem_cons.mp hb with rfl | hb
    ·exact ⟨_,List.mem_cons_self,rfl⟩
    ·obtain ⟨p, hp, e⟩ := h3 b hb hn
     exact ⟨p,List.mem_cons_of_mem _ hp,e⟩
  ·refine ⟨ex, h1, fun p hp => ?_, fun b hb hn => ?_⟩
   ·obtain ⟨q1, q2, q3⟩ := h2 p hp
    exact ⟨q1,List.mem_cons_of_mem _ q2,q3⟩
   ·rcases List.mem_cons.mp hb with rfl | hb
    ·exact Classical.byContradiction fun z=>c ⟨hn,z⟩
    ·exact h3 b hb hn
theorem AmO.stZ {os:List (Nat × Addr)} {n:Nat} {rho:Rho} {sg:St} {H:Hp} {ds:List D} {vs:List V} (I:AmO A os n rho sg H ds vs):StOk A.K (Zof A os) (Zof A os) A.G n H :=
 I.st.mono (fun _ _ z=>z) (fun _ _ _ e=>e) (fun _ _ _ e=>e) (fun a _ z=>by
  rcases z with z | ⟨p,hp,e,_⟩
  ·exact .inl z.1
  ·exact .inr ⟨p,hp,e⟩) (fun _ _ _ e=>e)
theorem AmO.calledX {os:List (Nat × Addr)} {n n':Nat} {rho:Rho} {sg:St} {H H':Hp} {ds:List D} {vs:List V} (I:AmO A os n rho sg H ds vs) (fr:∀ a o,A.G ≠ some a -> cellAt n a = none -> H a = some o -> H' a = some o) (st:StOk A.K (ZCof (Zof A os) n') (ZCof (Zof A os) n') A.G n' H')
  (gw:Grown n n' H):∃ os',AmO A os' n' rho sg H' ds vs /\ ∀ a,Zof A os' a -> ZCof (Zof A os) n' a:=by
 obtain ⟨ex,e1,e2,e3⟩:=os_more (fun a=>cellAt n' a ≠ none /\ H a = none) (cellsOf n') os rho.length I.nd
 have hz:∀ a,Zof A (ex ++ os) a -> ZCof (Zof A os) n' a:=fun a z=>by
  rcases z with z | ⟨p,hp,rfl⟩
  ·exact .inl (.inl z)
  ·rcases List.mem_append.mp hp with hp | hp
   ·exact .inr (e2 p hp).2.2.1
   ·exact .inl (.inr ⟨p,hp,rfl⟩)
 have hz2:∀ a,H a ≠ none -> Zof A (ex ++ os) a -> Zof A os a:=fun a h z=>by
  rcases z with z | ⟨p,hp,rfl⟩
  ·exact .inl z
  ·rcases List.mem_append.mp hp with hp | hp
   ·exact absurd (e2 p hp).2.2.2 h
   ·exact .inr ⟨p,hp,rfl⟩
 have zi:∀ a,Zof A os a -> Zof A (ex ++ os) a:=fun a z=>by
  rcases z with z | ⟨p,hp,e⟩
  ·exact .inl z
  ·exact .inr ⟨p,List.mem_append_right _ hp,e⟩
 have cz:∀ a,cellAt n a ≠ none -> Zof A os a:=fun a h=>by
  cases q:cellAt n a with
  | none=>exact absurd q h
  | some c =>
   rcases (I.st.2 a c q).1 with z | ⟨p,hp,e,_⟩
   ·exact .inl z.1
   ·exact .inr ⟨p,hp,e⟩
 have hf:∀ b u,¬ Zof A os b -> H b = some u -> H' b = some u:=fun b u nz e=>fr b u (fun z=>nz (.inl (I.gz b z))) (Classical.byContradiction fun z=>nz (cz b z)) e
 have no:∀ p ∈ os,A.G ≠ some p.2:=fun p hp e=>(I.fresh p hp).2.1 (I.gz _ e)
 have h0:∀ a,H a = none -> A.H0 a = none:=fun a h=>by
  cases q:A.H0 a with
  | none=>rfl
  | some o =>
   by_cases e:A.G = some a
   ·obtain ⟨x, y, z, w, _⟩ := I.st.1 a e
    rw [w] at h; cases h
   ·rw [I.fr a o e q] at h; cases h
 have hne:∀ a,Zof A os a -> H' a ≠ none:=fun a z=>by
  by_cases c:cellAt n a = none
  ·by_cases g : A.G = some a
   ·obtain ⟨x, y, z, w, _⟩ := st.1 a g
    rw [w]; simp
   ·cases q : H a with
    | none=>exact absurd q (I.zH a z)
    | some u=>rw [fr a u g c q]; simp
  ·have := gw.old a c
   cases q:cellAt n' a with
   | none=>exact absurd q this
   | some c=>exact (st.2 a c q).2.2.ne
 refine ⟨ex ++ os,⟨I.len,fun j c e=>?_,Reps.mono hz2 hf _ _ I.pend,e1,fun q hq=>?_,?_,I.gz,fun b u h e=>?_,fun a z=>?_⟩,hz⟩
 ·obtain ⟨u, e1, e2⟩ := I.slot j c e
  have hj:j < rho.length:=(List.getElem?_eq_some_iff.mp e).1
  exact ⟨u,e1,SlotR.mono hz2 hf (fun b ys m q=>⟨List.mem_append_right _ m,fr _ _ (no _ m) (I.noOwn hj m) q⟩) _ _ e2⟩
 ·rcases List.mem_append.mp hq with hq | hq
  ·obtain ⟨_, _, q1, q2⟩ := e2 q hq
   refine ⟨h0 _ q2,fun z=>I.zH _ (.inl z) q2,?_⟩
   cases q:cellAt n' q.2 with
   | none=>exact absurd q q1
   | some c=>exact (st.2 _ c q).2.2.ne
  ·obtain ⟨f1, f2, f3⟩ := I.fresh q hq
   exact ⟨f1,f2,hne _ (.inr ⟨q,hq,rfl⟩)⟩
 ·refine st.mono (fun a _ z => hz a z) (fun _ _ _ e => e) (fun _ _ _ e => e) (fun a c z => ?_) (fun _ _ _ e => e)
  rcases gw.new a c with z | z
  ·cases q2 : cellAt n a with
   | none=>exact absurd q2 z
   | some c2 =>
    rcases (I.st.2 a c2 q2).1 with y | ⟨p,hp,e,hl⟩
    ·exact .inl y
    ·exact .inr ⟨p,List.mem_append_right _ hp,e,hl⟩
  ·obtain ⟨p, hp, e⟩ := e3 a (cellsOf_mem c) ⟨c, z⟩
   rcases List.mem_append.mp hp with hp' | hp'
   ·exact .inr ⟨p,hp,e,(e2 p hp').1⟩
   ·exact absurd (by rw [e]; exact z) (I.fresh p hp').2.2
 ·by_cases c : cellAt n b = none
  ·exact fr b u h c (I.fr b u h e)
  ·exfalso
   cases q:cellAt n b with
   | none=>exact c q
   | some c2 =>
    rcases (I.st.2 b c2 q).1 with y | ⟨p,hp,e',_⟩
    ·rw [y.2] at e; cases e
    ·rw [<- e',(I.fresh p hp).1] at e; cases e
 ·rcases I.z0 a z with z | z
  ·exact .inl z
  ·exact .inr (gw.old a z)
theorem AmO.called {os:List (Nat × Addr)} {n n':Nat} {rho:Rho} {sg:St} {H H':Hp} {ds:List D} {vs:List V} {d:D} {v:V} (I:AmO A os n rho sg H ds vs) (fr:∀ a o,A.G ≠ some a -> cellAt n a = none -> H a = some o -> H' a = some o) (st:StOk A.K (ZCof (Zof A os) n') (ZCof (Zof A os) n') A.G n' H') (gw:Grown n n' H)
  (r:Rep A.K A.G (ZCof (Zof A os) n') H' d v):Am A n' rho sg H' (d :: ds) (v :: vs):=by
 obtain ⟨os',J,hz⟩:=I.calledX fr st gw
 exact ⟨os',J.push (Rep.mono (fun a _ z=>hz a z) (fun _ _ _ e=>e) _ _ r)⟩
theorem pd_call {x:Str} {f:Addr} {fd:FuncData} {ps:List Str} {t:TF} {kk k:Nat} (F:FnOk X.prog X.w X.K X.mg X.base CX0 kk f fd ps (spD X.K k t)) (hr:Room kk X.A) (hm:X.mg x = some (.ref f)) (hk:PySem.W.keepIn X.K (.ref f) = true) (hb:Binds X.K fd ps []) (hK:X.K = A.K)
  (ha:PAD A X (e :: es) t1) (hg:Gl X x:=by rfl) (hdb:(x == ("__debug__" : Str)) = false:=by decide) (he:starEach (e :: es) X.env = (false,eval e X.env) :: starEach es X.env:=by rfl) (hpl:(backTo pos (starEach es X.env)).any (·.1) = false:=by rfl) :
  PD A X (.Call (.Name x p) (e :: es) [] pos) (dFn k t t1):=by
 with_unfolding_all
  exact (pe_call F hr hg hm hk hb .nil pass0 ha hdb he hpl).imp fun sg H Q h=>by
   obtain ⟨rho,n,R,ds,vs,I,ht,hQ⟩:=h
   refine ⟨rho,n,_,ds,vs,I,ht,fun ws H' n' es' ⟨os,J⟩ hl k=>?_⟩
   obtain ⟨J1,rs⟩:=J.split hl
   rw [List.append_nil,hK]
   refine ⟨A.G,Zof A os,n',R,es',k.1,rs,J1.stZ,fun a z=>.inl (J1.gz a z),J1.zH,k.2,fun v H2 n2 d fr st nw r q=>hQ v H2 n2 d (J1.called fr st nw r) q⟩
end
end L2
set_option maxRecDepth 100000
namespace L2
open PySem PySem.Spec PyProof.Rows
section
variable {A:AC} {X:Cx} {tg a:Expr} {ta:TD} {pos p:Pos}
def iSeq2 (K:PySem.W.Frag) (tl:TE):TI:=fun sg H R=>tl sg H fun x H1=>∃ l,x = .ref l /\ (((∃ xs,SqL K H1 l xs) /\ R (Itl K l) H1) \/ ((∃ xs,SqT K H1 l xs) /\ R (Itt K l) H1))
theorem pi_seq2 {l:Expr} {tl:TE} (hl:PE X l tl):PI X tg l (iSeq2 X.K tl):=by
 intro pins s sg H R I h
 refine thn (hl pins s sg H _ I h) fun v s1 ⟨x,H1,I1,r1,q1⟩=>?_
 obtain ⟨c,e,q1⟩:=q1
 subst e
 cases r1
 have new:∀ b ∈ [s1.heap.objs.size],FpOk X pins H1 b:=fun b hb=>by
  obtain rfl:b = s1.heap.objs.size:=by simpa using hb
  exact I1.fpOk (Nat.le_refl _) (I1.hok.fresh (Nat.le_refl _))
 rcases q1 with ⟨⟨xs,hq⟩,q⟩ | ⟨⟨xs,hq⟩,q⟩
 ·obtain ⟨its, rv, pl, hz⟩ := I1.list hq
  exact wpAny_pyIter_list pl.isList ⟨s1.heap.objs.size,[s1.heap.objs.size],_,_,H1,rfl,I1.kept (t':=s1.toks) fun b o e=>Heap.get?_push_of_some _ e,turn_list c _,⟨_,Heap.get?_push_size _ rfl,rfl,rfl⟩,new,q⟩
 ·obtain ⟨its, rv, pl, hz⟩ := I1.tuple hq
  exact wpAny_pyIter_tuple (show s1.heap.IsTuple c its.toArray from pl) ⟨s1.heap.objs.size,[s1.heap.objs.size],_,_,H1,rfl,I1.kept (t':=s1.toks) fun b o e=>Heap.get?_push_of_some _ e,turn_tuple c _,⟨_,Heap.get?_push_size _ rfl,rfl,rfl⟩,new,q⟩
def iSeqD (ta:TD):TID:=fun rho n P=>ta rho n fun d n1=>∃ es,(d = .lst es \/ d = .tup es) /\ P es n1
theorem pid_seq (hK:X.K = A.K) (ha:PD A X a ta):PID A X tg a (iSeqD ta):=by
 with_unfolding_all
  exact (pi_seq2 ha).imp fun sg H R h=>by
   obtain ⟨rho,n,P,ds,vs,I,ht,hQ⟩:=h
   refine ⟨rho,n,_,ds,vs,I,ht,fun v H' n' d ⟨os,J⟩ k=>?_⟩
   obtain ⟨es,hd,k⟩:=k
   have r:=J.pop.2
   rw [hK]
   rcases hd with rfl | rfl
   ·obtain ⟨l, xs, rfl, sq, rs⟩ := r.lst_inv
    refine ⟨l,rfl,.inl ⟨⟨xs,sq.sq⟩,hQ _ H' n' es [.lst es] [.ref l] ⟨os,J⟩ rfl (fun n2 rho2 sg2 H2 ds2 vs2 i ⟨os2,I2⟩=>?_) k⟩⟩
    obtain ⟨I3,r2⟩:=AmO.pop (d:=.lst es) (v:=.ref l) (ds:=ds2) (vs:=vs2) I2
    obtain ⟨l',xs2,e,sq2,rs2⟩:=r2.lst_inv
    cases e
    refine ⟨fun d e=>?_,fun hi=>⟨xs2,sq2.sq,by rw [rs2.length]; exact hi⟩⟩
    obtain ⟨v,e1,rv⟩:=rs2.get e
    refine ⟨⟨xs2,v,sq2.sq,e1⟩,fun x H3 y=>?_⟩
    obtain ⟨e3,y⟩:=y
    subst e3
    have e4:=y xs2 sq2.sq
    rw [e1] at e4; cases e4
    exact ⟨os2,I2.push rv⟩
   ·obtain ⟨l, xs, rfl, sq, rs⟩ := r.tup_inv
    refine ⟨l,rfl,.inr ⟨⟨xs,sq.sq⟩,hQ _ H' n' es [.tup es] [.ref l] ⟨os,J⟩ rfl (fun n2 rho2 sg2 H2 ds2 vs2 i ⟨os2,I2⟩=>?_) k⟩⟩
    obtain ⟨I3,r2⟩:=AmO.pop (d:=.tup es) (v:=.ref l) (ds:=ds2) (vs:=vs2) I2
    obtain ⟨l',xs2,e,sq2,rs2⟩:=r2.tup_inv
    cases e
    refine ⟨fun d e=>?_,fun hi=>⟨xs2,sq2.sq,by rw [rs2.length]; exact hi⟩⟩
    obtain ⟨v,e1,rv⟩:=rs2.get e
    refine ⟨⟨xs2,v,sq2.sq,e1⟩,fun x H3 y=>?_⟩
    obtain ⟨e3,y⟩:=y
    subst e3
    have e4:=y xs2 sq2.sq
    rw [e1] at e4; cases e4
    exact ⟨os2,I2.push rv⟩
end
structure Fn (P:Program) (w:World) (K:PySem.W.Frag) (mg:Str -> Option Value) (base:Heap) (x:Str) (kk k:Nat) (t:TF):Prop where
 ex:∃ (f:Addr) (fd:FuncData) (ps:List Str),FnOk P w K mg base CX0 kk f fd ps (spD K k t) /\ mg x = some (.ref f) /\ PySem.W.keepIn K (.ref f) = true /\ Binds K fd ps []
theorem pd_fn {A:AC} {X:Cx} {e:Expr} {es:List Expr} {t1:TAD} {pos p:Pos} {x:Str} {t:TF} {kk k:Nat} (F:Fn X.prog X.w X.K X.mg X.base x kk k t) (hr:Room kk X.A) (hK:X.K = A.K)
  (ha:PAD A X (e :: es) t1) (hg:Gl X x:=by rfl) (hdb:(x == ("__debug__" : Str)) = false:=by decide) (he:starEach (e :: es) X.env = (false,eval e X.env) :: starEach es X.env:=by rfl) (hpl:(backTo pos (starEach es X.env)).any (·.1) = false:=by rfl) :
  PD A X (.Call (.Name x p) (e :: es) [] pos) (dFn k t t1):=by
 with_unfolding_all
  exact (by
   obtain ⟨f,fd,ps,h1,h2,h3,h4⟩:=F.ex
   exact pd_call h1 hr h2 h3 h4 hK ha hg hdb he hpl)
structure Blt (mg:Str -> Option Value):Prop where
 len:mg "len" = none
 abs:mg "abs" = none
 all:mg "all" = none
 any:mg "any" = none
 isi:mg "isinstance" = none
 int:mg "int" = none
 bool:mg "bool" = none
 str:mg "str" = none
 tuple:mg "tuple" = none
 list:mg "list" = none
 range:mg "range" = none
 zip:mg "zip" = none
 enum:mg "enumerate" = none
 max:mg "max" = none
 min:mg "min" = none
 sorted:mg "sorted" = none
theorem bt_len:bootBuiltins "len" = some (.builtin "len"):=by decide +kernel
theorem bt_abs:bootBuiltins "abs" = some (.builtin "abs"):=by decide +kernel
theorem bt_int:bootBuiltins "int" = some (.type "int"):=by decide +kernel
theorem bt_tuple:bootBuiltins "tuple" = some (.type "tuple"):=by decide +kernel
theorem bt_list:bootBuiltins "list" = some (.type "list"):=by decide +kernel
end L2
set_option maxRecDepth 100000
namespace L2
open PySem PySem.Spec PyProof.Rows
def isB (d:D) (p:Bool -> Prop):Prop:=∃ c,d = .bl c /\ p c
@[simp] theorem q_isB {b:Bool} {p:Bool -> Prop}:isB (.bl b) p ↔ p b:=⟨fun ⟨_,e,h⟩=>by cases e; exact h,fun h=>⟨_,rfl,h⟩⟩
@[simp] theorem q_sNext {F rho n}:sNext F rho n = F.nx rho n:=rfl
@[simp] theorem q_sSeq {t u F rho n}:sSeq t u F rho n = t { F with nx:=u F } rho n:=rfl
@[simp] theorem q_sRet {te F rho n}:sRet te F rho n = te rho n F.rt:=rfl
@[simp] theorem q_sIf {c t u F rho n}:sIf c t u F rho n = c rho n fun b n1=>if b = true then t F rho n1 else u F rho n1:=rfl
@[simp] theorem q_sSet {i te F rho n}:sSet i te F rho n = (i < rho.length /\ te rho n fun d n1=>F.nx (rho.set i (some d)) n1):=rfl
@[simp] theorem q_sUnp {te g F rho n}:sUnp te g F rho n = te rho n fun d n1=>g d rho fun rho'=>F.nx rho' n1:=rfl
@[simp] theorem q_sOwn {i t F rho n}:sOwn i t F rho n = (i < rho.length /\ t rho n fun es n1=>es.length <= sizeLine /\ F.nx (rho.set i (some (.own es))) n1):=rfl
@[simp] theorem q_sDrop {te F rho n}:sDrop te F rho n = te rho n fun _ n1=>F.nx rho n1:=rfl
@[simp] theorem q_sFrz {i t F rho n}:sFrz i t F rho n = ∃ es,rho[i]? = some (some (.own es)) /\ t F (rho.set i (some (.lst es))) n:=rfl
@[simp] theorem q_sAppend {i t F rho n}:sAppend i t F rho n = ∃ es,rho[i]? = some (some (.own es)) /\ es.length < sizeLine /\ t rho n fun ds n1=>∃ d,ds = [d] /\ F.nx (rho.set i (some (.own (es ++ [d])))) n1:=rfl
@[simp] theorem q_gdName {i d rho P}:gdName i d rho P = (i < rho.length /\ P (rho.set i (some d))):=rfl
@[simp] theorem q_dVar {i rho n P}:dVar i rho n P = atV rho[i]? fun d=>P d n:=rfl
@[simp] theorem q_atV {d k}:atV (some (some d)) k = atD d k:=rfl
@[simp] theorem q_atD1 {k}:atD .non k = k .non:=rfl
@[simp] theorem q_atD2 {k b}:atD (.bl b) k = k (.bl b):=rfl
@[simp] theorem q_atD3 {k b}:atD (.int b) k = k (.int b):=rfl
@[simp] theorem q_atD4 {k b}:atD (.str b) k = k (.str b):=rfl
@[simp] theorem q_atD5 {k b}:atD (.tup b) k = k (.tup b):=rfl
@[simp] theorem q_atD6 {k b}:atD (.lst b) k = k (.lst b):=rfl
@[simp] theorem q_atD7 {k b}:atD (.fz b) k = k (.fz b):=rfl
@[simp] theorem q_atD8 {k}:atD .st k = k .st:=rfl
@[simp] theorem q_atD9 {k a b}:atD (.dct a b) k = k (.dct a b):=rfl
@[simp] theorem q_atD {d k} (h:notOwn d = true):atD d k = k d:=propext ⟨fun z=>(atD_inv z).2,atD_mk h⟩
@[simp] theorem q_dC {d rho n P}:dC d rho n P = P d n:=rfl
@[simp] theorem q_dOp {rd ta tb rho n P}:dOp rd ta tb rho n P = ta rho n fun d1 n1=>tb rho n1 fun d2 n2=>rd d1 d2 fun d=>P d n2:=rfl
@[simp] theorem q_dTest {t rho n P}:dTest t rho n P = t rho n fun d n'=>isB d fun b=>P b n':=rfl
@[simp] theorem q_rdIsN {d1 d2 k}:rdIsN d1 d2 k = (d2 = .non /\ k (.bl (isNon d1))):=rfl
@[simp] theorem q_rdNotN {d1 d2 k}:rdNotN d1 d2 k = (d2 = .non /\ k (.bl (!isNon d1))):=rfl
@[simp] theorem q_bAnd {t u rho n P}:bAnd t u rho n P = t rho n fun c n1=>if c = true then u rho n1 P else P false n1:=rfl
@[simp] theorem q_bOr {t u rho n P}:bOr t u rho n P = t rho n fun c n1=>if c = true then P true n1 else u rho n1 P:=rfl
@[simp] theorem q_bNot {t rho n P}:bNot t rho n P = t rho n fun c n1=>P (!c) n1:=rfl
@[simp] theorem q_bYes {rho n P}:bYes rho n P = P true n:=rfl
@[simp] theorem q_dAnd {ta tb rho n P}:dAnd ta tb rho n P = ta rho n fun d n1=>isB d fun c=>if c = true then tb rho n1 P else P (.bl false) n1:=rfl
@[simp] theorem q_dOr {ta tb rho n P}:dOr ta tb rho n P = ta rho n fun d n1=>isB d fun c=>if c = true then P (.bl true) n1 else tb rho n1 P:=rfl
@[simp] theorem q_dNot {ta rho n P}:dNot ta rho n P = ta rho n fun d n1=>isB d fun c=>P (.bl (!c)) n1:=rfl
@[simp] theorem q_dIf {t ta tb rho n P}:dIf t ta tb rho n P = t rho n fun c n1=>if c = true then ta rho n1 P else tb rho n1 P:=rfl
@[simp] theorem q_aNil {rho n P}:aNil rho n P = P [] n:=rfl
@[simp] theorem q_aCons {t r rho n P}:aCons t r rho n P = t rho n fun d n1=>r rho n1 fun ds n2=>P (d :: ds) n2:=rfl
@[simp] theorem q_dTup {t rho n P}:dTup t rho n P = t rho n fun ds n1=>ds.length <= sizeLine /\ P (.tup ds) n1:=rfl
@[simp] theorem q_dLst {t rho n P}:dLst t rho n P = t rho n fun ds n1=>ds.length <= sizeLine /\ P (.lst ds) n1:=rfl
@[simp] theorem q_dCall {rd t rho n P}:dCall rd t rho n P = t rho n fun es n1=>rd es fun d=>P d n1:=rfl
@[simp] theorem q_dFn {k t t1 rho n P}:dFn k t t1 rho n P = t1 rho n fun es n1=>es.length = k /\ t es n1 P:=rfl
@[simp] theorem q_iSeqD {ta rho n P}:iSeqD ta rho n P = ta rho n fun d n1=>∃ es,(d = .lst es \/ d = .tup es) /\ P es n1:=rfl
@[simp] theorem q_iRngD {t rho n P}:iRngD t rho n P = t rho n fun es n1=>∃ j:Int,es = [.int j] /\ -(2 ^ 62) <= j /\ j < 2 ^ 62 /\ P (rngD 0 j.toNat) n1:=rfl
@[simp] theorem q_iEnumD {t rho n P}:iEnumD t rho n P = t rho n fun es n1=>∃ fs,es = [.lst fs] /\ P (enumD fs) n1:=rfl
@[simp] theorem q_dSlL {lo hi ta rho n P}:dSlL lo hi ta rho n P = ta rho n fun d n1=>∃ fs,(d = .lst fs \/ d = .fz fs) /\ P (.lst (cutL fs lo hi)) n1:=rfl
@[simp] theorem q_gdNil {rho P}:gdNil [] rho P ↔ P rho:=⟨fun h=>h.2,fun h=>⟨rfl,h⟩⟩
@[simp] theorem q_gdCons {g gs d r rho P}:gdCons g gs (d :: r) rho P ↔ g d rho fun rho'=>gs r rho' P:=⟨fun ⟨_,_,e,h⟩=>by cases e; exact h,fun h=>⟨_,_,rfl,h⟩⟩
@[simp] theorem q_gdTup {k gs es rho P}:gdTup k gs (.tup es) rho P ↔ (es.length = k /\ gs es rho P):=⟨fun ⟨_,e,h⟩=>by cases e; exact h,fun h=>⟨_,rfl,h⟩⟩
@[simp] theorem q_rdI {C g i j k}:rdI C g (.int i) (.int j) k = (C i j /\ k (g i j)):=rfl
@[simp] theorem q_rdI0 {g i j k}:rdI0 g (.int i) (.int j) k = k (g i j):=rfl
@[simp] theorem q_rdB {f c d k}:rdB f (.bl c) (.bl d) k = k (.bl (f c d)):=rfl
@[simp] theorem q_rdIxL {es i k}:rdIx (.lst es) (.int i) k ↔ ∃ d,atI es i = some d /\ k d:=⟨fun ⟨_,_,d,e,e',h⟩=>by cases e' ; rcases e with e | e | e <;> cases e; exact ⟨d,h⟩,fun ⟨d,h⟩=>⟨_,_,d,.inl rfl,rfl,h⟩⟩
@[simp] theorem q_rdIxT {es i k}:rdIx (.tup es) (.int i) k ↔ ∃ d,atI es i = some d /\ k d:=⟨fun ⟨_,_,d,e,e',h⟩=>by cases e' ; rcases e with e | e | e <;> cases e; exact ⟨d,h⟩,fun ⟨d,h⟩=>⟨_,_,d,.inr (.inl rfl),rfl,h⟩⟩
@[simp] theorem q_rdIxF {es i k}:rdIx (.fz es) (.int i) k ↔ ∃ d,atI es i = some d /\ k d:=⟨fun ⟨_,_,d,e,e',h⟩=>by cases e' ; rcases e with e | e | e <;> cases e; exact ⟨d,h⟩,fun ⟨d,h⟩=>⟨_,_,d,.inr (.inr rfl),rfl,h⟩⟩
@[simp] theorem q_rdCat {es fs k}:rdCat (.lst es) (.lst fs) k ↔ (es.length + fs.length <= sizeLine /\ k (.lst (es ++ fs))):=⟨fun ⟨_,_,e,e',h⟩=>by cases e; cases e'; exact h,fun h=>⟨_,_,rfl,rfl,h⟩⟩
@[simp] theorem q_rdRepT {es i k}:rdRepT (.tup es) (.int i) k ↔ (es ≠ [] /\ 1 <= i /\ es.length * i.toNat <= sizeLine /\ k (.tup (List.replicate i.toNat es).flatten)):=⟨fun ⟨_,_,e,e',h⟩=>by cases e; cases e'; exact h,fun h=>⟨_,_,rfl,rfl,h⟩⟩
def pair2 (es:List D) (p:D -> D -> Prop):Prop:=∃ d d',es = [d,d'] /\ p d d'
@[simp] theorem q_pair2 {a b p}:pair2 [a,b] p ↔ p a b:=⟨fun ⟨_,_,e,h⟩=>by cases e; exact h,fun h=>⟨_,_,rfl,h⟩⟩
@[simp] theorem q_sPar {i j t F rho n}:sPar i j t F rho n = (i < rho.length /\ j < rho.length /\ t rho n fun es n1=>pair2 es fun d d'=>F.nx ((rho.set i (some d)).set j (some d')) n1):=rfl
@[simp] theorem q_rdEqI {i j:Int} {k}:rdEq (.int i) (.int j) k ↔ k (.bl (decide (i = j))):=by
 have e:decide (ofS (.int i) = ofS (.int j)) = decide (i = j):=by simp [ofS]
 unfold rdEq
 rw [e]
 exact ⟨fun h=>h.2.2.2,fun h=>⟨rfl,rfl,rfl,h⟩⟩
@[simp] theorem q_rdEqB {i j:Bool} {k}:rdEq (.bl i) (.bl j) k ↔ k (.bl (decide (i = j))):=by
 have e:decide (ofS (.bl i) = ofS (.bl j)) = decide (i = j):=by simp [ofS]
 unfold rdEq
 rw [e]
 exact ⟨fun h=>h.2.2.2,fun h=>⟨rfl,rfl,rfl,h⟩⟩
@[simp] theorem q_rdNeI {i j:Int} {k}:rdNe (.int i) (.int j) k ↔ k (.bl (!decide (i = j))):=by
 have e:decide (ofS (.int i) = ofS (.int j)) = decide (i = j):=by simp [ofS]
 unfold rdNe
 rw [e]
 exact ⟨fun h=>h.2.2.2,fun h=>⟨rfl,rfl,rfl,h⟩⟩
@[simp] theorem q_rdNeB {i j:Bool} {k}:rdNe (.bl i) (.bl j) k ↔ k (.bl (!decide (i = j))):=by
 have e:decide (ofS (.bl i) = ofS (.bl j)) = decide (i = j):=by simp [ofS]
 unfold rdNe
 rw [e]
 exact ⟨fun h=>h.2.2.2,fun h=>⟨rfl,rfl,rfl,h⟩⟩
@[simp] theorem q_kLenL {fs k}:kLen [.lst fs] k ↔ k (.int fs.length):=⟨fun ⟨_,e,h⟩=>by rcases e with e | e | e <;> cases e; exact h,fun h=>⟨_,.inl rfl,h⟩⟩
@[simp] theorem q_kLenT {fs k}:kLen [.tup fs] k ↔ k (.int fs.length):=⟨fun ⟨_,e,h⟩=>by rcases e with e | e | e <;> cases e; exact h,fun h=>⟨_,.inr (.inl rfl),h⟩⟩
@[simp] theorem q_kLenF {fs k}:kLen [.fz fs] k ↔ k (.int fs.length):=⟨fun ⟨_,e,h⟩=>by rcases e with e | e | e <;> cases e; exact h,fun h=>⟨_,.inr (.inr rfl),h⟩⟩
@[simp] theorem q_kAbs {i k}:kAbs [.int i] k ↔ k (.int (if i < 0 then -i else i)):=⟨fun ⟨_,e,h⟩=>by cases e; exact h,fun h=>⟨_,rfl,h⟩⟩
@[simp] theorem q_kIntB {i k}:kIntB [.bl i] k ↔ k (.int (if i then 1 else 0)):=⟨fun ⟨_,e,h⟩=>by cases e; exact h,fun h=>⟨_,rfl,h⟩⟩
@[simp] theorem q_kTupleL {fs k}:kTuple [.lst fs] k ↔ k (.tup fs):=⟨fun ⟨_,e,h⟩=>by rcases e with e | e <;> cases e; exact h,fun h=>⟨_,.inl rfl,h⟩⟩
@[simp] theorem q_kTupleT {fs k}:kTuple [.tup fs] k ↔ k (.tup fs):=⟨fun ⟨_,e,h⟩=>by rcases e with e | e <;> cases e; exact h,fun h=>⟨_,.inr rfl,h⟩⟩
@[simp] theorem q_kListL {fs k}:kList [.lst fs] k ↔ k (.lst fs):=⟨fun ⟨_,e,h⟩=>by rcases e with e | e <;> cases e; exact h,fun h=>⟨_,.inl rfl,h⟩⟩
@[simp] theorem q_kListT {fs k}:kList [.tup fs] k ↔ k (.lst fs):=⟨fun ⟨_,e,h⟩=>by rcases e with e | e <;> cases e; exact h,fun h=>⟨_,.inr rfl,h⟩⟩
@[simp] theorem q_dStIx {i tb rho n P}:dStIx i tb rho n P = (rho[i]? = some (some .st) /\ tb rho n fun d n1=>∃ j:Int,d = .int j /\ 0 <= j /\ j < kOf n1 /\ ∀ z:Int,0 <= z -> (j = 1 -> z < 2147483647) -> P (.int z) n1):=rfl
@[simp] theorem q_sStSet {i te tb F rho n}:sStSet i te tb F rho n = (rho[i]? = some (some .st) /\ te rho n fun d n1=>tb rho n1 fun d2 n2=>∃ j z:Int,d = .int z /\ d2 = .int j /\ 0 <= j /\ j < kOf n2 /\ 0 <= z /\ (j = 1 -> z < 2147483647) /\ F.nx rho n2):=rfl
@[simp] theorem q_no1:notOwn .non = true:=rfl
@[simp] theorem q_no2 {b}:notOwn (.bl b) = true:=rfl
@[simp] theorem q_no3 {b}:notOwn (.int b) = true:=rfl
@[simp] theorem q_no4 {b}:notOwn (.str b) = true:=rfl
@[simp] theorem q_no5 {b}:notOwn (.tup b) = true:=rfl
@[simp] theorem q_no6 {b}:notOwn (.lst b) = true:=rfl
@[simp] theorem q_atDr {a k}:atD (.rf a) k = k (.rf a):=rfl
@[simp] theorem q_nor {a}:notOwn (.rf a) = true:=rfl
@[simp] theorem q_no7:notOwn .st = true:=rfl
@[simp] theorem q_no8 {b}:notOwn (.fz b) = true:=rfl
@[simp] theorem q_in1:isNon .non = true:=rfl
@[simp] theorem q_in2 {b}:isNon (.bl b) = false:=rfl
@[simp] theorem q_in3 {b}:isNon (.int b) = false:=rfl
@[simp] theorem q_in4 {b}:isNon (.str b) = false:=rfl
@[simp] theorem q_in5 {b}:isNon (.tup b) = false:=rfl
@[simp] theorem q_in6 {b}:isNon (.lst b) = false:=rfl
@[simp] theorem q_so1 {b}:seqOf (.lst b) = some (true,b):=rfl
@[simp] theorem q_so2 {b}:seqOf (.tup b) = some (false,b):=rfl
@[simp] theorem q_size0:(0 <= sizeLine) = True:=by simp
@[simp] theorem q_size1:(1 <= sizeLine) = True:=by simp [sizeLine]
@[simp] theorem q_size2:(2 <= sizeLine) = True:=by simp [sizeLine]
@[simp] theorem q_size3:(3 <= sizeLine) = True:=by simp [sizeLine]
@[simp] theorem q_size4:(4 <= sizeLine) = True:=by simp [sizeLine]
@[simp] theorem q_size5:(5 <= sizeLine) = True:=by simp [sizeLine]
@[simp] theorem q_size6:(6 <= sizeLine) = True:=by simp [sizeLine]
@[simp] theorem q_size7:(7 <= sizeLine) = True:=by simp [sizeLine]
theorem le_size {k:Nat} (h:k <= 1000:=by decide):k <= sizeLine:=Nat.le_trans h (by decide)
theorem lt_size {k:Nat} (h:k <= 1000:=by decide):k < sizeLine:=Nat.lt_of_le_of_lt h (by decide)
def compIn (own:Nat) (g:TGD) (tt:TBD) (te:TD) (rho:Rho) (P:D -> Nat -> Prop) (items:List D) (n1:Nat):Prop:=items.length <= sizeLine /\ ∃ J:Nat -> List D -> Nat -> Prop,J 0 [] n1 /\
 (∀ i d acc n,items[i]? = some d -> J i acc n -> g d (List.replicate own none ++ rho) fun rho'=>rho'.drop own = rho /\ tt rho' n fun c n2=>if c = true then te rho' n2 fun e n3=>J (i + 1) (acc ++ [e]) n3 else J (i + 1) acc n2) /\
 ∀ acc n,J items.length acc n -> P (.lst acc) n
@[simp] theorem q_dComp {it own g tt te rho n P}:dComp it own g tt te rho n P = it rho n (compIn own g tt te rho P):=rfl
def loopIn (g:TGD) (tb:TSD) (F:EndsD) (rho:Rho) (items:List D) (n1:Nat):Prop:=∃ J:Nat -> Rho -> Nat -> Prop,J 0 rho n1 /\
 (∀ i d rho n,items[i]? = some d -> J i rho n -> g d rho fun rho'=>tb { F with nx:=J (i + 1),ct:=J (i + 1),bk:=F.nx } rho' n) /\ ∀ rho n,J items.length rho n -> F.nx rho n
@[simp] theorem q_sFor {it g tb F rho n}:sFor it g tb F rho n = it rho n (loopIn g tb F rho):=rfl
theorem comp_map {it:TID} {own:Nat} {g:TGD} {te:TD} {rho:Rho} {n:Nat} {P:D -> Nat -> Prop} {α:Type} (enc:α -> D) (f:α -> D) (xs:List α)
  (hi:∀ R,R (xs.map enc) n -> it rho n R) (hz:xs.length <= sizeLine) (he:∀ x ∈ xs,∀ Q,Q (f x) n -> g (enc x) (List.replicate own none ++ rho) fun rho'=>rho'.drop own = rho /\ te rho' n Q) (hP:P (.lst (xs.map f)) n):dComp it own g bYes te rho n P:=by
 refine hi _ ⟨by simpa using hz,fun i acc n'=>n' = n /\ acc = (xs.take i).map f,⟨rfl,rfl⟩,?_,?_⟩
 ·rintro i d acc n' e ⟨rfl, rfl⟩
  rw [List.getElem?_map] at e
  cases q:xs[i]? with
  | none=>rw [q] at e; cases e
  | some x =>
   rw [q] at e
   cases e
   have hm:x ∈ xs:=List.mem_of_getElem? q
   refine he x hm (fun e n3=>n3 = n' /\ (xs.take i).map f ++ [e] = (xs.take (i + 1)).map f) ⟨rfl,?_⟩
   rw [List.take_add_one,q]
   simp
 ·rintro acc n' ⟨rfl, rfl⟩
  rw [List.length_map,List.take_length]
  exact hP
end L2
namespace L2
open PySem PySem.Spec PyProof.Rows
theorem atI_lt {α:Type} {xs:List α} {i:Int} (h0:0 <= i) (h1:i < xs.length):∃ d,atI xs i = some d /\ d ∈ xs:=by
 obtain ⟨k,rfl⟩:=Int.eq_ofNat_of_zero_le h0
 have hk:k < xs.length:=by lia
 exact ⟨xs[k],atI_nat (by simp [hk]),List.getElem_mem hk⟩
@[simp] theorem q_at0 {α:Type} {a:α} {l:List α}:atI (a :: l) 0 = some a:=atI_nat (j:=0) rfl
@[simp] theorem q_at1 {α:Type} {a b:α} {l:List α}:atI (a :: b :: l) 1 = some b:=atI_nat (j:=1) rfl
@[simp] theorem q_at2 {α:Type} {a b c:α} {l:List α}:atI (a :: b :: c :: l) 2 = some c:=atI_nat (j:=2) rfl
@[simp] theorem q_ownAt {es p}:ownAt (some (some (.own es))) p ↔ p es:=⟨fun ⟨_,e,h⟩=>by cases e; exact h,fun h=>⟨_,rfl,h⟩⟩
@[simp] theorem q_dOwnIx {i tb rho n P}:dOwnIx i tb rho n P = ownAt rho[i]? fun es=>tb rho n fun d n1=>∃ j c,d = .int j /\ atI es j = some c /\ P c n1:=rfl
@[simp] theorem q_sOwnSet {i te tb F rho n}:sOwnSet i te tb F rho n = ownAt rho[i]? fun es=>te rho n fun d n1=>tb rho n1 fun d2 n2=>∃ j m,d2 = .int j /\ ixN es.length j = some m /\ F.nx (rho.set i (some (.own (es.set m d)))) n2:=rfl
@[simp] theorem q_ix30:ixN 3 0 = some 0:=rfl
@[simp] theorem q_ix31:ixN 3 1 = some 1:=rfl
@[simp] theorem q_ix32:ixN 3 2 = some 2:=rfl
end L2
set_option maxRecDepth 100000
namespace L2
open PySem PySem.Spec PyProof.Rows
def spLawD (K:PySem.W.Frag):Sp:=fun vs H Q _=>∃ (a:Addr) (ns:List Int),vs = [.ref a] /\ Only H /\ SqL K H a (ns.map V.int) /\ ns.length <= 63 /\ ∀ H',Q (.bl true) H'
def scriptD (ns:List Int):D:=.fz (ns.map D.int)
theorem reps_ints {K:PySem.W.Frag} {G:Option Addr} {Z:Addr -> Prop} {H:Hp}:∀ {ns:List Int},Reps K G Z H (ns.map D.int) (ns.map V.int)
 | []=>.nil
 | n :: ns=>.cons (Rep.ofS (d:=.int n) rfl) reps_ints
theorem reps_ints_inv {K:PySem.W.Frag} {G:Option Addr} {Z:Addr -> Prop} {H:Hp}:∀ {ns:List Int} {xs:List V},Reps K G Z H (ns.map D.int) xs -> xs = ns.map V.int
 | [],xs,h=>by unfold Reps at h; exact h
 | n :: ns,xs,h=>by
  obtain ⟨v,r,rfl,h1,h2⟩:=Reps.split h
  rw [h1.int_inv,reps_ints_inv h2]; rfl
section
variable {P:Program} {w:World} {K:PySem.W.Frag} {mg:Str -> Option Value} {base:Heap}
theorem Fun.okLaw {x qual:Str} {st:Stmt} {f:Addr} {fd:FuncData} {N:List Str} {p:Str} {k:Nat} {t:TSD} (F:Fun K x qual st f fd) (S:FnScope N [p] (defScope st)) (n0:Nat)
  (body : ∀ (cdv : Value) (A0 : Around) (outer : List Env) (s : Shared) (H : Hp) (E : XK), Room k (A0.deeper (envOfC qual (defScope st) s.heap.objs.size f cdv)) ->
   PSsD ⟨K,none,fun _=>False,H⟩ (cxOf CX0 P w K mg base N qual (defScope st) f cdv A0 outer s H E).nox (defBody st) t)
  (h1:∀ (ns:List Int),ns.length <= 63 -> t { nx:=fun _ _=>False,rt:=fun d _=>d = .bl true } (startD N [scriptD ns]) n0) (h64:n0 < 64:=by decide):FnOk P w K mg base CX0 (k + 1) f fd [p] (spLawD K):=by
 with_unfolding_all
  exact (by
   refine F.ok S (fun vs H Q E h=>?_) (fun cdv A0 outer s H vs Q E hr h=>?_)
   ·obtain ⟨a, ns, rfl, _⟩ := h
    rfl
   ·obtain ⟨a, ns, rfl, hO, hS, hl, k⟩ := h
    refine ⟨_,body cdv A0 outer s H E hr,?_⟩
    have rs:Reps K none (fun _=>False) H [scriptD ns] [.ref a]:=by
     refine .cons ?_ .nil
     unfold scriptD Rep
     refine ⟨a,ns.map V.int,rfl,?_,reps_ints⟩
     rcases hS with (q | ⟨o,q⟩) | q
     ·rcases hO a with z | ⟨o, xs, z⟩
      ·rw [z] at q; cases q
      ·rw [z] at q; cases q
     ·exact .inl ⟨fun z=>z,o,q⟩
     ·exact .inr (.inr q)
    have S0:=amo_start (N:=N) (n:=n0) rs ⟨fun b e=>(by cases e),fun a c e=>(by rw [cellAt_lt h64] at e; cases e)⟩ (fun b e=>by cases e) (fun b e=>e.elim)
    have eh:hide n0 H = H:=funext fun a=>hide_of (cellAt_lt h64)
    rw [eh] at S0
    refine ⟨startD N [scriptD ns],n0,_,[],[],⟨[],S0⟩,h1 ns hl,?_⟩
    refine ⟨fun _ _ _ _ _ q=>q.elim,fun d n v rho2 sg2 H2 ⟨os2,I2⟩ q=>?_,fun _ _ _ _ _ q=>q.elim,fun _ _ _ _ _ q=>q.elim⟩
    subst q
    rw [I2.pop.2.bl_inv]
    exact k H2)
end
@[simp] theorem q_noScript {ns:List Int}:notOwn (scriptD ns) = true:=rfl
@[simp] theorem q_lenScript {ns:List Int} {k:D -> Prop}:kLen [scriptD ns] k ↔ k (.int ns.length):=by unfold scriptD; simp
theorem rep_script {K:PySem.W.Frag} {G G':Option Addr} {Z Z':Addr -> Prop} {H H':Hp} {ns:List Int} {v:V} (h:Rep K G Z H (scriptD ns) v) (hz:∀ a o u,¬ Z a -> H a = some (.frz o u) -> ¬ Z' a /\ H' a = some (.frz o u)):Rep K G' Z' H' (scriptD ns) v:=by
 unfold scriptD Rep at h ⊢
 obtain ⟨a,xs,rfl,sq,rs⟩:=h
 refine ⟨a,xs,rfl,?_,by rw [reps_ints_inv rs]; exact reps_ints⟩
 rcases sq with ⟨nz,o,e⟩ | sq
 ·obtain ⟨z1, z2⟩ := hz a o _ nz e
  exact .inl ⟨z1,o,z2⟩
 ·exact .inr sq
end L2
set_option maxRecDepth 100000
namespace L2
open PySem PySem.Spec PyProof.Rows PySem.SeqAt
mutual
def eqD:D -> D -> Bool
 | .non,.non=>true
 | .bl a,.bl b=>a == b
 | .bl a,.int i=>(if a then 1 else 0) == i
 | .int i,.bl a=>i == (if a then 1 else 0)
 | .int i,.int j=>i == j
 | .str x,.str y=>x == y
 | .tup xs,.tup ys=>eqDs xs ys
 | .lst xs,.lst ys=>eqDs xs ys
 | _,_=>false
def eqDs:List D -> List D -> Bool
 | [],[]=>true
 | x :: xs,y :: ys=>eqD x y && eqDs xs ys
 | _,_=>false
end
mutual
def okE:D -> Nat -> Bool
 | .non,_=>true
 | .bl _,_=>true
 | .int _,_=>true
 | .str _,_=>true
 | .tup ds,k=>match k with
  | 0=>false
  | k + 1=>okEs ds k
 | .lst ds,k=>match k with
  | 0=>false
  | k + 1=>okEs ds k
 | _,_=>false
def okEs:List D -> Nat -> Bool
 | [],_=>true
 | d :: ds,k=>okE d k && okEs ds k
end
theorem okEs_mem:∀ {ds:List D} {k i:Nat} {d:D},okEs ds k = true -> ds[i]? = some d -> okE d k = true
 | [],k,i,d,_,e=>by simp at e
 | c :: ds,k,0,d,h,e=>by
  simp at e; subst e
  unfold okEs at h
  rw [Bool.and_eq_true] at h
  exact h.1
 | c :: ds,k,i + 1,d,h,e=>by
  unfold okEs at h
  rw [Bool.and_eq_true] at h
  exact okEs_mem (i:=i) h.2 (by simpa using e)
def eAt (xs ys:List D) (j:Nat):Bool:=match xs[j]?,ys[j]? with
 | some x,some y=>eqD x y
 | _,_=>true
theorem range_succ_all (n:Nat) (e:Nat -> Bool):(List.range (n + 1)).all e = (e 0 && (List.range n).all fun j=>e (j + 1)):=by
 rw [List.range_succ_eq_map,List.all_cons,List.all_map]
 rfl
theorem eqDs_all:∀ (xs ys:List D),((List.range (min xs.length ys.length)).all (eAt xs ys) && xs.length == ys.length) = eqDs xs ys
 | [],[]=>by unfold eqDs; rfl
 | [],y :: ys=>by unfold eqDs; simp
 | x :: xs,[]=>by unfold eqDs; simp
 | x :: xs,y :: ys=>by
  have ih:=eqDs_all xs ys
  unfold eqDs
  rw [<- ih]
  have e1:min (x :: xs).length (y :: ys).length = min xs.length ys.length + 1:=by simp only [List.length_cons]; lia
  rw [e1,range_succ_all]
  have e2:((x :: xs).length == (y :: ys).length) = (xs.length == ys.length):=by simp
  rw [e2,Bool.and_assoc]
  rfl
theorem eqDs_all_len {xs ys:List D} (h:xs.length = ys.length):(List.range xs.length).all (eAt xs ys) = eqDs xs ys:=by
 rw [<- eqDs_all,h]
 simp
theorem eqDs_len {xs ys:List D} (h:xs.length ≠ ys.length):eqDs xs ys = false:=by
 rw [<- eqDs_all]
 simp [h]
theorem eqDs_of:∀ {xs ys:List D},xs.length = ys.length -> (∀ (j:Nat) (x y:D),xs[j]? = some x -> ys[j]? = some y -> eqD x y = true) -> eqDs xs ys = true
 | [],[],_,_=>by unfold eqDs; rfl
 | [],y :: ys,h,_=>by simp at h
 | x :: xs,[],h,_=>by simp at h
 | x :: xs,y :: ys,h,q=>by
  unfold eqDs
  rw [q 0 x y rfl rfl,eqDs_of (by simpa using h) fun j a b ha hb=>q (j + 1) a b (by simpa using ha) (by simpa using hb)]
  rfl
theorem Reps.get2 {K:PySem.W.Frag} {G:Option Addr} {Z:Addr -> Prop} {H:Hp} {ds:List D} {vs:List V} {i:Nat} {d:D} {v:V} (h:Reps K G Z H ds vs) (e:ds[i]? = some d) (e':vs[i]? = some v):Rep K G Z H d v:=by
 obtain ⟨u,h1,h2⟩:=h.get e
 rw [h1] at e'; cases e'
 exact h2
section
variable {X:Cx} {pins:List (Addr × Obj)} {σ:St} {H:Hp} {s:Shared} {G:Option Addr} {Z:Addr -> Prop}
theorem rep_same (I:Inv X pins σ H s):∀ (k:Nat) (d1 d2:D) (v:V),okE d1 k = true -> okE d2 k = true -> Rep X.K G Z H d1 v -> Rep X.K G Z H d2 v -> eqD d1 d2 = true:=by
 intro k
 induction k with
 | zero =>
  intro d1 d2 v h1 h2 r1 r2
  cases d1 <;> cases d2 <;> first
   | (simp [okE] at h1; done) | (simp [okE] at h2; done)
   | (have e1:=r1.toS rfl; have e2:=r2.toS rfl; rw [e1] at e2; simp [ofS] at e2; done)
   | (have e1:=r1.toS rfl; have e2:=r2.toS rfl; rw [e1] at e2; simp [ofS] at e2; simp [eqD,e2])
 | succ k ih =>
  have seq:∀ {ds es:List D} {xs:List V},okEs ds k = true -> okEs es k = true -> Reps X.K G Z H ds xs -> Reps X.K G Z H es xs -> eqDs ds es = true:=fun {ds es xs} h1 h2 r1 r2=>by
   refine eqDs_of (r1.length.symm.trans r2.length) fun j x y hx hy=>?_
   obtain ⟨u,hu,ru⟩:=r1.get hx
   exact ih x y u (okEs_mem h1 hx) (okEs_mem h2 hy) ru (r2.get2 hy hu)
  intro d1 d2 v h1 h2 r1 r2
  cases d1 <;> cases d2 <;> try (first
   | (simp [okE] at h1; done) | (simp [okE] at h2; done)
   | (have e1:=r1.toS rfl; have e2:=r2.toS rfl; rw [e1] at e2; simp [ofS] at e2; done)
   | (have e1:=r1.toS rfl; have e2:=r2.toS rfl; rw [e1] at e2; simp [ofS] at e2; simp [eqD,e2]; done)
   | (obtain ⟨a,xs,e,_⟩:=r1.tup_inv; have e2:=r2.toS rfl; rw [e] at e2; simp [ofS] at e2; done)
   | (obtain ⟨a,xs,e,_⟩:=r1.lst_inv; have e2:=r2.toS rfl; rw [e] at e2; simp [ofS] at e2; done)
   | (obtain ⟨a,xs,e,_⟩:=r2.tup_inv; have e2:=r1.toS rfl; rw [e] at e2; simp [ofS] at e2; done)
   | (obtain ⟨a,xs,e,_⟩:=r2.lst_inv; have e2:=r1.toS rfl; rw [e] at e2; simp [ofS] at e2; done))
  ·rename_i ds es
   obtain ⟨a,xs,e,sq,rs⟩:=r1.tup_inv
   obtain ⟨b,ys,e',sq',rs'⟩:=r2.tup_inv
   rw [e] at e'; cases e'
   have:=I.tuple_inj sq.sq sq'.sq
   subst this
   unfold eqD
   exact seq (by simpa [okE] using h1) (by simpa [okE] using h2) rs rs'
  ·rename_i ds es
   obtain ⟨a,xs,e,sq,rs⟩:=r1.tup_inv
   obtain ⟨b,ys,e',sq',rs'⟩:=r2.lst_inv
   rw [e] at e'; cases e'
   obtain ⟨its,rv,pl,hz⟩:=I.tuple sq.sq
   obtain ⟨its',rv',pl',hz'⟩:=I.list sq'.sq
   exact absurd rfl (ne_of_list_tuple pl'.isList (show s.heap.IsTuple a its.toArray from pl))
  ·rename_i ds es
   obtain ⟨a,xs,e,sq,rs⟩:=r1.lst_inv
   obtain ⟨b,ys,e',sq',rs'⟩:=r2.tup_inv
   rw [e] at e'; cases e'
   obtain ⟨its,rv,pl,hz⟩:=I.list sq.sq
   obtain ⟨its',rv',pl',hz'⟩:=I.tuple sq'.sq
   exact absurd rfl (ne_of_list_tuple pl.isList (show s.heap.IsTuple a its'.toArray from pl'))
  ·rename_i ds es
   obtain ⟨a,xs,e,sq,rs⟩:=r1.lst_inv
   obtain ⟨b,ys,e',sq',rs'⟩:=r2.lst_inv
   rw [e] at e'; cases e'
   have:=I.list_inj sq.sq sq'.sq
   subst this
   unfold eqD
   exact seq (by simpa [okE] using h1) (by simpa [okE] using h2) rs rs'
theorem rcC {A:Around} {s:Shared} {y x:Value} {b c:Bool} (h:RcAt A s y x b) (e:b = c):RcAt A s y x c:=e ▸ h
theorem rnC {A:Around} {s:Shared} {y x:Value} {b c:Bool} (h:RcNeAt A s y x b) (e:b = c):RcNeAt A s y x c:=e ▸ h
theorem eqC {A:Around} {s:Shared} {y x:Value} {b c:Bool} (h:EqAt A s y x b) (e:b = c):EqAt A s y x c:=e ▸ h
def E3 (A:Around) (s:Shared) (u1 u2:Value) (b:Bool):Prop:=EqAt A s u1 u2 b /\ RcAt A s u1 u2 b /\ RcNeAt A s u1 u2 (!b)
theorem E3.cast {A:Around} {s:Shared} {y x:Value} {b c:Bool} (h:E3 A s y x b) (e:b = c):E3 A s y x c:=e ▸ h
def bothSeq:D -> D -> Bool
 | .tup _,.tup _=>true
 | .lst _,.lst _=>true
 | _,_=>false
def ShE (s:Shared):D -> Value -> Prop
 | .non,u=>u = .none
 | .bl x,u=>u = .bool x
 | .int x,u=>∃ t,u = .int x t
 | .str x,u=>∃ t,u = .str x t
 | .tup _,u=>∃ a its,u = .ref a /\ s.heap.IsTuple a its
 | .lst _,u=>∃ a its,u = .ref a /\ s.heap.IsList a its
 | _,_=>False
theorem shE (I:Inv X pins σ H s) {k:Nat} {d:D} {v:V} {u:Value} (h:okE d k = true) (r:Rep X.K G Z H d v) (q:RelV v u):ShE s d u:=by
 cases d with
 | non=>have:=r.toS rfl; subst this; exact q
 | bl x=>have:=r.toS rfl; subst this; exact q
 | int x=>have:=r.toS rfl; subst this; exact q
 | str x=>have:=r.toS rfl; subst this; exact q
 | tup x =>
  obtain ⟨a,xs,w,sq,_⟩:=r.tup_inv
  subst w
  obtain ⟨its,_,pl,_⟩:=I.tuple sq.sq
  exact ⟨a,its.toArray,q,pl⟩
 | lst x =>
  obtain ⟨a,xs,w,sq,_⟩:=r.lst_inv
  subst w
  obtain ⟨its,_,pl,_⟩:=I.list sq.sq
  exact ⟨a,its.toArray,q,pl.isList⟩
 | _=>simp [okE] at h
section
local macro_rules
 | `(tactic| nomatch $n:ident,$t,*)=>do
  let f:=fun (p:Lean.Name)=>Lean.mkIdent (p ++ n.getId)
  let t:=t.getElems
  `(tactic| exact E3.cast ⟨$(f `EqAt) $t*,$(f `RcAt) $t*,$(f `RcNeAt) $t*⟩ (by unfold eqD; rfl))
theorem eq_mix (I:Inv X pins σ H s) {k:Nat} {d1 d2:D} {v1 v2:V} {u1 u2:Value} {A:Around} (h1:okE d1 k = true) (h2:okE d2 k = true) (r1:Rep X.K G Z H d1 v1) (r2:Rep X.K G Z H d2 v2) (q1:RelV v1 u1) (q2:RelV v2 u2)
  (hu:A.units < cLine) (hb:bothSeq d1 d2 = false):E3 A s u1 u2 (eqD d1 d2):=by
 have g1:=shE I h1 r1 q1
 have g2:=shE I h2 r2 q2
 clear h1 h2 r1 r2 q1 q2
 cases d1 with
 | non =>
  cases g1
  cases d2 with
  | non=>cases g2; exact E3.cast ⟨EqAt.same _,RcAt.none_none,RcNeAt.none_none⟩ (by unfold eqD; rfl)
  | bl=>cases g2; nomatch none_bool,_
  | int=>obtain ⟨_,rfl⟩:=g2; nomatch none_int,_,_
  | str=>obtain ⟨_,rfl⟩:=g2; nomatch none_str,_,_
  | tup=>obtain ⟨_,_,rfl,L⟩:=g2; nomatch none_tuple,L,hu
  | lst=>obtain ⟨_,_,rfl,L⟩:=g2; nomatch none_list,L,hu
  | _=>exact g2.elim
 | bl x1 =>
  cases g1
  cases d2 with
  | non=>cases g2; nomatch bool_none,_
  | bl=>cases g2; nomatch bool_bool,_,_
  | int=>obtain ⟨_,rfl⟩:=g2; nomatch bool_int,_,_,_
  | str=>obtain ⟨_,rfl⟩:=g2; nomatch bool_str,_,_,_
  | tup=>obtain ⟨_,_,rfl,L⟩:=g2; nomatch bool_tuple,_,L,hu
  | lst=>obtain ⟨_,_,rfl,L⟩:=g2; nomatch bool_list,_,L,hu
  | _=>exact g2.elim
 | int x1 =>
  obtain ⟨t1,rfl⟩:=g1
  cases d2 with
  | non=>cases g2; nomatch int_none,_,_
  | bl=>cases g2; nomatch int_bool,_,_,_
  | int=>obtain ⟨_,rfl⟩:=g2; nomatch int_int,_,_,_,_
  | str=>obtain ⟨_,rfl⟩:=g2; nomatch int_str,_,_,_,_
  | tup=>obtain ⟨_,_,rfl,L⟩:=g2; nomatch int_tuple,_,_,L,hu
  | lst=>obtain ⟨_,_,rfl,L⟩:=g2; nomatch int_list,_,_,L,hu
  | _=>exact g2.elim
 | str x1 =>
  obtain ⟨t1,rfl⟩:=g1
  cases d2 with
  | non=>cases g2; nomatch str_none,_,_
  | bl=>cases g2; nomatch str_bool,_,_,_
  | int=>obtain ⟨_,rfl⟩:=g2; nomatch str_int,_,_,_,_
  | str=>obtain ⟨_,rfl⟩:=g2; nomatch str_str,_,_,_,_
  | tup=>obtain ⟨_,_,rfl,L⟩:=g2; nomatch str_tuple,_,_,L,hu
  | lst=>obtain ⟨_,_,rfl,L⟩:=g2; nomatch str_list,_,_,L,hu
  | _=>exact g2.elim
 | tup x1 =>
  obtain ⟨a1,i1,rfl,L1⟩:=g1
  cases d2 with
  | non=>cases g2; nomatch tuple_none,L1,hu
  | bl=>cases g2; nomatch tuple_bool,_,L1,hu
  | int=>obtain ⟨_,rfl⟩:=g2; nomatch tuple_int,_,_,L1,hu
  | str=>obtain ⟨_,rfl⟩:=g2; nomatch tuple_str,_,_,L1,hu
  | tup=>cases hb
  | lst=>obtain ⟨_,_,rfl,L⟩:=g2; nomatch tuple_list,L1,L,hu
  | _=>exact g2.elim
 | lst x1 =>
  obtain ⟨a1,i1,rfl,L1⟩:=g1
  cases d2 with
  | non=>cases g2; nomatch list_none,L1,hu
  | bl=>cases g2; nomatch list_bool,_,L1,hu
  | int=>obtain ⟨_,rfl⟩:=g2; nomatch list_int,_,_,L1,hu
  | str=>obtain ⟨_,rfl⟩:=g2; nomatch list_str,_,_,L1,hu
  | tup=>obtain ⟨_,_,rfl,L⟩:=g2; nomatch list_tuple,L1,L,hu
  | lst=>cases hb
  | _=>exact g2.elim
 | _=>exact g1.elim
end
theorem eq_rep (I:Inv X pins σ H s):∀ (k:Nat) (d1 d2:D) (v1 v2:V) (u1 u2:Value) (A:Around),okE d1 k = true -> okE d2 k = true -> Rep X.K G Z H d1 v1 -> Rep X.K G Z H d2 v2 -> RelV v1 u1 -> RelV v2 u2 ->
  A.units + k < cLine -> E3 A s u1 u2 (eqD d1 d2):=by
 intro k
 induction k with
 | zero =>
  intro d1 d2 v1 v2 u1 u2 A h1 h2 r1 r2 q1 q2 hu
  refine eq_mix I h1 h2 r1 r2 q1 q2 (by lia) ?_
  cases d1 <;> first | rfl | (simp [okE] at h1; done)
 | succ k ih =>
  intro d1 d2 v1 v2 u1 u2 A h1 h2 r1 r2 q1 q2 hu
  by_cases hb:bothSeq d1 d2 = false
  ·exact eq_mix I h1 h2 r1 r2 q1 q2 (by lia) hb
  have items:∀ {ds es:List D} {xs ys:List V} {its its':List Value},okEs ds k = true -> okEs es k = true -> Reps X.K G Z H ds xs -> Reps X.K G Z H es ys -> Vals xs its -> Vals ys its' ->
    ∀ (j:Nat) (l1:j < its.toArray.size) (l2:j < its'.toArray.size),EqAt A.in1 s its.toArray[j] its'.toArray[j] (eAt ds es j):=fun {ds es xs ys its its'} h1 h2 r1 r2 rv rv' j l1 l2=>by
   have l1':j < its.length:=by simpa using l1
   have l2':j < its'.length:=by simpa using l2
   have a1:j < ds.length:=by rw [<- r1.length,rv.length]; exact l1'
   have a2:j < es.length:=by rw [<- r2.length,rv'.length]; exact l2'
   have g1:ds[j]? = some ds[j]:=List.getElem?_eq_getElem a1
   have g2:es[j]? = some es[j]:=List.getElem?_eq_getElem a2
   obtain ⟨w1,e1,p1⟩:=r1.get g1
   obtain ⟨w2,e2,p2⟩:=r2.get g2
   obtain ⟨z1,f1,t1⟩:=rv.get e1
   obtain ⟨z2,f2,t2⟩:=rv'.get e2
   have m1:its.toArray[j] = z1:=by
    have:its[j]? = some its[j]:=List.getElem?_eq_getElem l1'
    rw [f1] at this
    simpa using (Option.some.inj this).symm
   have m2:its'.toArray[j] = z2:=by
    have:its'[j]? = some its'[j]:=List.getElem?_eq_getElem l2'
    rw [f2] at this
    simpa using (Option.some.inj this).symm
   have e3:eAt ds es j = eqD ds[j] es[j]:=by unfold eAt; rw [g1,g2]
   rw [m1,m2,e3]
   exact (ih _ _ _ _ _ _ A.in1 (okEs_mem h1 g1) (okEs_mem h2 g2) p1 p2 t1 t2 (by show A.units + 1 + k < cLine; lia)).1
  cases d1 with
  | tup ds =>
   cases d2 with
   | tup es =>
    have s1:=r1
    have s2:=r2
    obtain ⟨a,xs,e,sq,rs⟩:=r1.tup_inv
    obtain ⟨b,ys,e',sq',rs'⟩:=r2.tup_inv
    subst e e'
    have c1:u1 = .ref a:=q1
    have c2:u2 = .ref b:=q2
    subst c1 c2
    obtain ⟨its,rv,pl,hz⟩:=I.tuple sq.sq
    obtain ⟨its',rv',pl',hz'⟩:=I.tuple sq'.sq
    have it:=items (by simpa [okE] using h1) (by simpa [okE] using h2) rs rs' rv rv'
    have n1:its.toArray.size = ds.length:=by rw [<- rs.length,rv.length]; simp
    have n2:its'.toArray.size = es.length:=by rw [<- rs'.length,rv'.length]; simp
    have ev:((List.range (min its.toArray.size its'.toArray.size)).all (eAt ds es) && its.toArray.size == its'.toArray.size) = eqD (.tup ds) (.tup es):=by
     rw [n1,n2,eqDs_all]; unfold eqD; rfl
    have R:=rcC (RcAt.tuples (A:=A) (show s.heap.IsTuple a its.toArray from pl) (show s.heap.IsTuple b its'.toArray from pl') (by lia) it) ev
    have N:=rnC (RcNeAt.tuples (A:=A) (show s.heap.IsTuple a its.toArray from pl) (show s.heap.IsTuple b its'.toArray from pl') (by lia) it) (congrArg (!·) ev)
    refine ⟨?_,R,N⟩
    by_cases hab:a = b
    ·subst hab
     exact eqC (EqAt.same _) (rep_same I (k + 1) _ _ _ h1 h2 s1 s2).symm
    ·exact .of_refs hab R
   | _=>exact absurd rfl hb
  | lst ds =>
   cases d2 with
   | lst es =>
    have s1:=r1
    have s2:=r2
    obtain ⟨a,xs,e,sq,rs⟩:=r1.lst_inv
    obtain ⟨b,ys,e',sq',rs'⟩:=r2.lst_inv
    subst e e'
    have c1:u1 = .ref a:=q1
    have c2:u2 = .ref b:=q2
    subst c1 c2
    obtain ⟨its,rv,pl,hz⟩:=I.list sq.sq
    obtain ⟨its',rv',pl',hz'⟩:=I.list sq'.sq
    have it:=items (by simpa [okE] using h1) (by simpa [okE] using h2) rs rs' rv rv'
    have n1:its.toArray.size = ds.length:=by rw [<- rs.length,rv.length]; simp
    have n2:its'.toArray.size = es.length:=by rw [<- rs'.length,rv'.length]; simp
    have R:RcAt A s (.ref a) (.ref b) (eqD (.lst ds) (.lst es)) /\ RcNeAt A s (.ref a) (.ref b) (!eqD (.lst ds) (.lst es)):=by
     by_cases hl:ds.length = es.length
     ·have ev : (List.range its.toArray.size).all (eAt ds es) = eqD (.lst ds) (.lst es) := by rw [n1, eqDs_all_len hl]; unfold eqD; rfl
      exact ⟨rcC (RcAt.lists (A:=A) pl.isList pl'.isList (by rw [n1,n2,hl]) (by lia) it) ev,rnC (RcNeAt.lists (A:=A) pl.isList pl'.isList (by rw [n1,n2,hl]) (by lia) it) (congrArg (!·) ev)⟩
     ·have ev : false = eqD (.lst ds) (.lst es) := by unfold eqD; exact (eqDs_len hl).symm
      have hs:(its.toArray.size != its'.toArray.size) = true:=by rw [n1,n2]; simpa using hl
      exact ⟨rcC (RcAt.lists_lengths (A:=A) pl.isList pl'.isList hs (by lia)) ev,rnC (RcNeAt.lists_lengths (A:=A) pl.isList pl'.isList hs (by lia)) (congrArg (!·) ev)⟩
    refine ⟨?_,R⟩
    by_cases hab:a = b
    ·subst hab
     exact eqC (EqAt.same _) (rep_same I (k + 1) _ _ _ h1 h2 s1 s2).symm
    ·exact .of_refs hab R.1
   | _=>exact absurd rfl hb
  | _=>exact absurd rfl hb
def rdDeq:RD2:=fun d1 d2 k=>okE d1 20 = true /\ okE d2 20 = true /\ k (.bl (eqD d1 d2))
def rdDne:RD2:=fun d1 d2 k=>okE d1 20 = true /\ okE d2 20 = true /\ k (.bl (!eqD d1 d2))
@[simp] theorem q_rdDeq {d1 d2 k}:rdDeq d1 d2 k = (okE d1 20 = true /\ okE d2 20 = true /\ k (.bl (eqD d1 d2))):=rfl
@[simp] theorem q_rdDne {d1 d2 k}:rdDne d1 d2 k = (okE d1 20 = true /\ okE d2 20 = true /\ k (.bl (!eqD d1 d2))):=rfl
end
end L2
set_option maxRecDepth 100000
namespace L2
open PySem PySem.Spec PyProof.Rows
section
variable {A:AC} {X:Cx} {e a b:Expr} {es:List Expr} {te ta tb:TD} {t1:TAD} {pos p:Pos}
def lstOf (d:D) (p:List D -> Prop):Prop:=∃ fs,d = .lst fs /\ p fs
@[simp] theorem q_lstOf {fs p}:lstOf (.lst fs) p ↔ p fs:=⟨fun ⟨_,e,h⟩=>by cases e; exact h,fun h=>⟨_,rfl,h⟩⟩
def sSetO (i:Nat) (te:TD):TSD:=fun F rho n=>i < rho.length /\ te rho n fun d n1=>lstOf d fun fs=>F.nx (rho.set i (some (.own fs))) n1
@[simp] theorem q_sSetO {i te F rho n}:sSetO i te F rho n = (i < rho.length /\ te rho n fun d n1=>lstOf d fun fs=>F.nx (rho.set i (some (.own fs))) n1):=rfl
def dOwnLen (i:Nat):TD:=fun rho n P=>ownAt rho[i]? fun es=>P (.int es.length) n
@[simp] theorem q_dOwnLen {i rho n P}:dOwnLen i rho n P = ownAt rho[i]? fun es=>P (.int es.length) n:=rfl
theorem FnOk.botK {P:Program} {w:World} {K:PySem.W.Frag} {mg:Str -> Option Value} {base:Heap} {f:Addr} {fd:FuncData} {ps:List Str} {k L:Nat} {t:TF} (ht:∀ ds n Q,¬ t ds n Q):FnOk P w K mg base CX0 L f fd ps (spD K k t):=by
 refine ⟨fun vs H Q E h=>?_,fun A outer s H args us vs Q E _ _ _ _ h=>?_⟩
 ·obtain ⟨G, Z, n, R, ds, hl, rs, hst, gz, z0, h, _⟩ := h
  exact (ht _ _ _ h).elim
 ·obtain ⟨G, Z, n, R, ds, hl, rs, hst, gz, z0, h, _⟩ := h
  exact (ht _ _ _ h).elim
end
end L2
namespace L2
open PySem PySem.Spec PyProof.Rows
theorem comp_mapIn {own:Nat} {g:TGD} {te:TD} {rho:Rho} {n:Nat} {P:D -> Nat -> Prop} {α:Type} (enc:α -> D) (f:α -> D) (xs:List α)
  (hz:xs.length <= sizeLine) (he:∀ x ∈ xs,∀ Q,Q (f x) n -> g (enc x) (List.replicate own none ++ rho) fun rho'=>rho'.drop own = rho /\ te rho' n Q) (hP:P (.lst (xs.map f)) n):compIn own g bYes te rho P (xs.map enc) n :=
 comp_map (it:=fun _ n R=>R (xs.map enc) n) (rho:=rho) enc f xs (fun R h=>h) hz he hP
end L2
namespace L2
open PySem PySem.Spec PyProof.Rows
theorem q_isi {d:D} {T:String} {k:D -> Prop} (hT:T = "bool" \/ T = "int" \/ T = "str" \/ T = "tuple" \/ T = "list"):kIsi [d,.ty T] k ↔ (isiOk d = true /\ k (.bl (isiD T d))) :=
 ⟨fun ⟨d',T',e,_,h1,h2⟩=>by cases e; exact ⟨h1,h2⟩,fun h=>⟨d,T,rfl,hT,h.1,h.2⟩⟩
@[simp] theorem q_isiBool {d:D} {k:D -> Prop}:kIsi [d,.ty "bool"] k ↔ (isiOk d = true /\ k (.bl (isiD "bool" d))):=q_isi (by decide)
@[simp] theorem q_isiInt {d:D} {k:D -> Prop}:kIsi [d,.ty "int"] k ↔ (isiOk d = true /\ k (.bl (isiD "int" d))):=q_isi (by decide)
@[simp] theorem q_isiStr {d:D} {k:D -> Prop}:kIsi [d,.ty "str"] k ↔ (isiOk d = true /\ k (.bl (isiD "str" d))):=q_isi (by decide)
@[simp] theorem q_isiTuple {d:D} {k:D -> Prop}:kIsi [d,.ty "tuple"] k ↔ (isiOk d = true /\ k (.bl (isiD "tuple" d))):=q_isi (by decide)
@[simp] theorem q_isiList {d:D} {k:D -> Prop}:kIsi [d,.ty "list"] k ↔ (isiOk d = true /\ k (.bl (isiD "list" d))):=q_isi (by decide)
@[simp] theorem q_rdEqS {i j:Str} {k}:rdEq (.str i) (.str j) k ↔ k (.bl (decide (i = j))):=by
 have e:decide (ofS (.str i) = ofS (.str j)) = decide (i = j):=by simp [ofS]
 unfold rdEq
 rw [e]
 exact ⟨fun h=>h.2.2.2,fun h=>⟨rfl,rfl,rfl,h⟩⟩
theorem okEs_iff:∀ {ds:List D} {k:Nat},okEs ds k = true ↔ ∀ d ∈ ds,okE d k = true
 | [],k=>by unfold okEs; simp
 | c :: ds,k=>by
  unfold okEs
  rw [Bool.and_eq_true,okEs_iff]
  simp
theorem okE_tup {ds:List D} {k:Nat}:okE (.tup ds) (k + 1) = true ↔ ∀ d ∈ ds,okE d k = true:=by
 have e:okE (.tup ds) (k + 1) = okEs ds k:=by rw [okE]
 rw [e,okEs_iff]
def kZip (es:List D) (k:List D -> Prop):Prop:=∃ d1 d2 b1 xs b2 ys,es = [d1,d2] /\ seqOf d1 = some (b1,xs) /\ seqOf d2 = some (b2,ys) /\ k (zipD xs ys)
@[simp] theorem q_iZipD {t:TAD} {rho n P}:iZipD t rho n P ↔ t rho n fun es n1=>kZip es fun l=>P l n1:=Iff.rfl
theorem q_kZip {d1 d2:D} {b1 b2 xs ys} {k:List D -> Prop} (h1:seqOf d1 = some (b1,xs)) (h2:seqOf d2 = some (b2,ys)):kZip [d1,d2] k ↔ k (zipD xs ys):=by
 constructor
 ·rintro ⟨_, _, _, _, _, _, e, e1, e2, h⟩
  cases e
  rw [h1] at e1; rw [h2] at e2
  cases e1; cases e2
  exact h
 ·intro h
  exact ⟨_,_,_,_,_,_,rfl,h1,h2,h⟩
@[simp] theorem q_kZipTT {xs ys} {k:List D -> Prop}:kZip [.tup xs,.tup ys] k ↔ k (zipD xs ys):=q_kZip rfl rfl
@[simp] theorem q_kZipTL {xs ys} {k:List D -> Prop}:kZip [.tup xs,.lst ys] k ↔ k (zipD xs ys):=q_kZip rfl rfl
@[simp] theorem q_kZipLT {xs ys} {k:List D -> Prop}:kZip [.lst xs,.tup ys] k ↔ k (zipD xs ys):=q_kZip rfl rfl
@[simp] theorem q_kZipLL {xs ys} {k:List D -> Prop}:kZip [.lst xs,.lst ys] k ↔ k (zipD xs ys):=q_kZip rfl rfl
end L2
set_option maxRecDepth 100000
namespace L2
open PySem PySem.Spec PyProof.Rows
theorem best_spec (f:Nat -> Int) (bt:Nat -> Nat -> Bool) (h:∀ i j,bt i j = true ↔ f j < f i):∀ k,argBest bt k <= k /\ ∀ i,i <= k -> f i <= f (argBest bt k)
 | 0=>⟨Nat.le_refl _,fun i hi=>by cases Nat.le_zero.mp hi; exact Int.le_refl _⟩
 | k + 1 => by
  obtain ⟨h1,h2⟩:=best_spec f bt h k
  rw [argBest.eq_2]
  by_cases hb:bt (k + 1) (argBest bt k) = true
  ·rw [if_pos hb]
   have hb':=(h _ _).mp hb
   refine ⟨Nat.le_refl _,fun i hi=>?_⟩
   by_cases e:i = k + 1
   ·subst e; exact Int.le_refl _
   ·have:=h2 i (by lia); lia
  ·rw [if_neg hb]
   have hb':¬ f (argBest bt k) < f (k + 1):=fun z=>hb ((h _ _).mpr z)
   refine ⟨by lia,fun i hi=>?_⟩
   by_cases e:i = k + 1
   ·subst e; lia
   ·exact h2 i (by lia)
theorem Vals.ints_at {ns:List Int} {us:List Value} (h:Vals (ns.map V.int) us) {i:Nat} {v:Value} (e:us[i]? = some v):i < ns.length /\ ∃ t,v = .int (ns[i]?.getD 0) t:=by
 have hl:us.length = ns.length:=by have:=h.length; simpa using this.symm
 have hi:i < ns.length:=by rw [<- hl]; exact (List.getElem?_eq_some_iff.mp e).1
 refine ⟨hi,?_⟩
 have e2:(ns.map V.int)[i]? = some (.int ns[i]):=by rw [List.getElem?_map,List.getElem?_eq_getElem hi]; rfl
 obtain ⟨u,hu,r⟩:=h.get e2
 rw [e] at hu
 cases hu
 obtain ⟨t,rfl⟩:=r
 exact ⟨t,by rw [List.getElem?_eq_getElem hi]; rfl⟩
section
variable {X:Cx}
theorem call_max1 (hc:X.calm = true):CallR X (.builtin "max") (fun xs H Q=>∃ (p:Addr) (ns:List Int),xs = [.ref p] /\ SqL X.K H p (ns.map V.int) /\ 0 < ns.length /\ ∀ M,M ∈ ns -> (∀ a ∈ ns,a <= M) -> Q (.int M) H):=by
 intro pins s σ H xs us Q I r h
 obtain ⟨p,ns,rfl,hq,hn,q⟩:=h
 cases r with
 | cons r rr =>
  cases rr
  cases r
  obtain ⟨its,rv,pl,_⟩:=I.list hq
  have hl:=pl.isList
  have hlt:p < s.heap.objs.size:=by obtain ⟨_,e,_⟩:=hl; exact Heap.lt_size e
  have hsz:its.length = ns.length:=by have:=rv.length; simpa using this.symm
  refine call_max_walk (wpAny_pyIter_list hl ⟨s.heap.objs.size,[s.heap.objs.size,p],[s.heap.objs.size],its.toArray.size,_,_,fun i j=>decide (ns[j]?.getD 0 < ns[i]?.getD 0),rfl,
   Walks.list (A:=X.A.in1) (I.ok.hd hc) _ p (Nat.ne_of_lt hlt) _,⟨⟨_,Heap.get?_push_size _ rfl,rfl,rfl⟩,hl.push _⟩,fun b hb=>?_,?_,fun i j vi vj s' Q' E' hi hj hQ=>?_,fun v h' tk hP hk=>?_⟩)
  ·simp only [List.mem_cons, List.not_mem_nil, or_false] at hb
   rcases hb with rfl | rfl
   ·simp [Heap.push]
   ·exact Nat.lt_trans hlt (by simp [Heap.push])
  ·rw [List.size_toArray,hsz]; exact hn
  ·have hi' : its[i]? = some vi := by simpa using hi
   have hj':its[j]? = some vj:=by simpa using hj
   obtain ⟨_,ti,rfl⟩:=rv.ints_at hi'
   obtain ⟨_,tj,rfl⟩:=rv.ints_at hj'
   exact (PyProof.Rows.gt_int hQ:wpAny (model X.prog X.w) X.A.in1 (compareOp .Gt _ _) Q' E' s')
  ·have hP' : its[argBest (fun i j => decide (ns[j]?.getD 0 < ns[i]?.getD 0)) (its.toArray.size - 1)]? = some v := by simpa using hP
   obtain ⟨hlt2,t,rfl⟩:=rv.ints_at hP'
   obtain ⟨hb1,hb2⟩:=best_spec (fun i=>ns[i]?.getD 0) (fun i j=>decide (ns[j]?.getD 0 < ns[i]?.getD 0)) (fun i j=>by simp) (its.toArray.size - 1)
   generalize argBest (fun i j=>decide (ns[j]?.getD 0 < ns[i]?.getD 0)) (its.toArray.size - 1) = m at *
   refine ⟨.int (ns[m]?.getD 0),H,I.kept (old_of hk),⟨_,rfl⟩,q _ ?_ fun a ha=>?_⟩
   ·rw [List.getElem?_eq_getElem hlt2]; exact List.getElem_mem hlt2
   ·obtain ⟨i, hi, rfl⟩ := List.mem_iff_getElem.mp ha
    have:=hb2 i (by rw [List.size_toArray,hsz]; lia)
    rw [List.getElem?_eq_getElem hi] at this
    exact this
theorem call_min1 (hc:X.calm = true):CallR X (.builtin "min") (fun xs H Q=>∃ (p:Addr) (ns:List Int),xs = [.ref p] /\ SqL X.K H p (ns.map V.int) /\ 0 < ns.length /\ ∀ M,M ∈ ns -> (∀ a ∈ ns,M <= a) -> Q (.int M) H):=by
 intro pins s σ H xs us Q I r h
 obtain ⟨p,ns,rfl,hq,hn,q⟩:=h
 cases r with
 | cons r rr =>
  cases rr
  cases r
  obtain ⟨its,rv,pl,_⟩:=I.list hq
  have hl:=pl.isList
  have hlt:p < s.heap.objs.size:=by obtain ⟨_,e,_⟩:=hl; exact Heap.lt_size e
  have hsz:its.length = ns.length:=by have:=rv.length; simpa using this.symm
  refine call_min_walk (wpAny_pyIter_list hl ⟨s.heap.objs.size,[s.heap.objs.size,p],[s.heap.objs.size],its.toArray.size,_,_,fun i j=>decide (ns[i]?.getD 0 < ns[j]?.getD 0),rfl,
   Walks.list (A:=X.A.in1) (I.ok.hd hc) _ p (Nat.ne_of_lt hlt) _,⟨⟨_,Heap.get?_push_size _ rfl,rfl,rfl⟩,hl.push _⟩,fun b hb=>?_,?_,fun i j vi vj s' Q' E' hi hj hQ=>?_,fun v h' tk hP hk=>?_⟩)
  ·simp only [List.mem_cons, List.not_mem_nil, or_false] at hb
   rcases hb with rfl | rfl
   ·simp [Heap.push]
   ·exact Nat.lt_trans hlt (by simp [Heap.push])
  ·rw [List.size_toArray,hsz]; exact hn
  ·have hi' : its[i]? = some vi := by simpa using hi
   have hj':its[j]? = some vj:=by simpa using hj
   obtain ⟨_,ti,rfl⟩:=rv.ints_at hi'
   obtain ⟨_,tj,rfl⟩:=rv.ints_at hj'
   exact (PyProof.Rows.lt_int hQ:wpAny (model X.prog X.w) X.A.in1 (compareOp .Lt _ _) Q' E' s')
  ·have hP' : its[argBest (fun i j => decide (ns[i]?.getD 0 < ns[j]?.getD 0)) (its.toArray.size - 1)]? = some v := by simpa using hP
   obtain ⟨hlt2,t,rfl⟩:=rv.ints_at hP'
   obtain ⟨hb1,hb2⟩:=best_spec (fun i=>- ns[i]?.getD 0) (fun i j=>decide (ns[i]?.getD 0 < ns[j]?.getD 0)) (fun i j=>by simp) (its.toArray.size - 1)
   generalize argBest (fun i j=>decide (ns[i]?.getD 0 < ns[j]?.getD 0)) (its.toArray.size - 1) = m at *
   refine ⟨.int (ns[m]?.getD 0),H,I.kept (old_of hk),⟨_,rfl⟩,q _ ?_ fun a ha=>?_⟩
   ·rw [List.getElem?_eq_getElem hlt2]; exact List.getElem_mem hlt2
   ·obtain ⟨i, hi, rfl⟩ := List.mem_iff_getElem.mp ha
    have:=hb2 i (by rw [List.size_toArray,hsz]; lia)
    rw [List.getElem?_eq_getElem hi] at this
    have e:(some ns[i]).getD 0 = ns[i]:=rfl
    rw [e] at this
    lia
end
section
variable {A:AC}
theorem reps_intsV {K:PySem.W.Frag} {G:Option Addr} {Z:Addr -> Prop} {H:Hp}:∀ {bs:List Int} {ws:List V},Reps K G Z H (bs.map D.int) ws -> ws = bs.map V.int
 | [],ws,h=>h.nil_inv
 | b :: bs,ws,h=>by
  obtain ⟨v,r,rfl,q,t⟩:=h.split
  rw [q.int_inv,reps_intsV t]; rfl
def kMax2:List D -> (D -> Prop) -> Prop:=fun es k=>∃ i j,es = [.int i,.int j] /\ k (.int (if j > i then j else i))
def kMin2:List D -> (D -> Prop) -> Prop:=fun es k=>∃ i j,es = [.int i,.int j] /\ k (.int (if j < i then j else i))
def kMax1:List D -> (D -> Prop) -> Prop:=fun es k=>∃ ns:List Int,es = [.lst (ns.map D.int)] /\ 0 < ns.length /\ ∀ M,M ∈ ns -> (∀ a ∈ ns,a <= M) -> k (.int M)
def kMin1:List D -> (D -> Prop) -> Prop:=fun es k=>∃ ns:List Int,es = [.lst (ns.map D.int)] /\ 0 < ns.length /\ ∀ M,M ∈ ns -> (∀ a ∈ ns,M <= a) -> k (.int M)
@[simp] theorem q_kMax2 {i j k}:kMax2 [.int i,.int j] k ↔ k (.int (if j > i then j else i)):=⟨fun ⟨_,_,e,h⟩=>by cases e; exact h,fun h=>⟨_,_,rfl,h⟩⟩
@[simp] theorem q_kMin2 {i j k}:kMin2 [.int i,.int j] k ↔ k (.int (if j < i then j else i)):=⟨fun ⟨_,_,e,h⟩=>by cases e; exact h,fun h=>⟨_,_,rfl,h⟩⟩
theorem cr_max2:CallRel A (fun xs H Q=>∃ i j,xs = [.int i,.int j] /\ Q (.int (if j > i then j else i)) H) kMax2:=by
 rintro os n rho sg H ds vs es ws k Q I rs ⟨i,j,rfl,q⟩ hQ
 obtain ⟨v,v',rfl,r,r'⟩:=reps2 rs
 exact ⟨i,j,by rw [r.int_inv,r'.int_inv],hQ _ H _ ⟨os,I.push (Rep.ofS rfl)⟩ q⟩
theorem cr_min2:CallRel A (fun xs H Q=>∃ i j,xs = [.int i,.int j] /\ Q (.int (if j < i then j else i)) H) kMin2:=by
 rintro os n rho sg H ds vs es ws k Q I rs ⟨i,j,rfl,q⟩ hQ
 obtain ⟨v,v',rfl,r,r'⟩:=reps2 rs
 exact ⟨i,j,by rw [r.int_inv,r'.int_inv],hQ _ H _ ⟨os,I.push (Rep.ofS rfl)⟩ q⟩
theorem cr_max1:CallRel A (fun xs H Q=>∃ (p:Addr) (ns:List Int),xs = [.ref p] /\ SqL A.K H p (ns.map V.int) /\ 0 < ns.length /\ ∀ M,M ∈ ns -> (∀ a ∈ ns,a <= M) -> Q (.int M) H) kMax1:=by
 rintro os n rho sg H ds vs es ws k Q I rs ⟨ns,rfl,hn,q⟩ hQ
 obtain ⟨v,rfl,r⟩:=reps1 rs
 obtain ⟨a,xs,rfl,sq,rr⟩:=r.lst_inv
 have e:=reps_intsV rr
 subst e
 exact ⟨a,ns,rfl,sq.sq,hn,fun M h1 h2=>hQ _ H _ ⟨os,I.push (Rep.ofS rfl)⟩ (q M h1 h2)⟩
theorem cr_min1:CallRel A (fun xs H Q=>∃ (p:Addr) (ns:List Int),xs = [.ref p] /\ SqL A.K H p (ns.map V.int) /\ 0 < ns.length /\ ∀ M,M ∈ ns -> (∀ a ∈ ns,M <= a) -> Q (.int M) H) kMin1:=by
 rintro os n rho sg H ds vs es ws k Q I rs ⟨ns,rfl,hn,q⟩ hQ
 obtain ⟨v,rfl,r⟩:=reps1 rs
 obtain ⟨a,xs,rfl,sq,rr⟩:=r.lst_inv
 have e:=reps_intsV rr
 subst e
 exact ⟨a,ns,rfl,sq.sq,hn,fun M h1 h2=>hQ _ H _ ⟨os,I.push (Rep.ofS rfl)⟩ (q M h1 h2)⟩
theorem bt_max:bootBuiltins "max" = some (.builtin "max"):=by decide +kernel
theorem bt_min:bootBuiltins "min" = some (.builtin "min"):=by decide +kernel
end
end L2
namespace L2
open PySem PySem.Spec PyProof.Rows
theorem comp_filtIn {own:Nat} {g:TGD} {tt:TBD} {te:TD} {rho:Rho} {n:Nat} {P:D -> Nat -> Prop} {α:Type} (enc:α -> D) (keep:α -> Bool) (f:α -> D) (xs:List α) (hz:xs.length <= sizeLine)
  (he:∀ x ∈ xs,∀ (R:D -> Nat -> Prop) (S:Nat -> Prop),(keep x = true -> R (f x) n) -> (keep x = false -> S n) -> g (enc x) (List.replicate own none ++ rho) fun rho'=>rho'.drop own = rho /\ tt rho' n fun c n2=>if c = true then te rho' n2 R else S n2)
  (hP:P (.lst ((xs.filter keep).map f)) n):compIn own g tt te rho P (xs.map enc) n:=by
 refine ⟨by simpa using hz,fun i acc n'=>n' = n /\ acc = ((xs.take i).filter keep).map f,⟨rfl,rfl⟩,?_,?_⟩
 ·rintro i d acc n' e ⟨rfl, rfl⟩
  rw [List.getElem?_map] at e
  cases q:xs[i]? with
  | none=>rw [q] at e; cases e
  | some x =>
   rw [q] at e
   cases e
   have hm:x ∈ xs:=List.mem_of_getElem? q
   have et:xs.take (i + 1) = xs.take i ++ [x]:=by rw [List.take_add_one,q]; rfl
   refine he x hm (fun e n3=>n3 = n' /\ ((xs.take i).filter keep).map f ++ [e] = ((xs.take (i + 1)).filter keep).map f) (fun n3=>n3 = n' /\ ((xs.take i).filter keep).map f = ((xs.take (i + 1)).filter keep).map f) (fun hk=>⟨rfl,?_⟩) (fun hk=>⟨rfl,?_⟩)
   ·rw [et,List.filter_append]; simp [hk]
   ·rw [et,List.filter_append]; simp [hk]
 ·rintro acc n' ⟨rfl, rfl⟩
  rw [List.length_map,List.take_length]
  exact hP
theorem okE_int {i:Int} {k:Nat}:okE (.int i) k = true:=by simp [okE]
end L2
set_option maxRecDepth 100000
namespace L2
open PySem PySem.Spec PyProof.Rows
def rCatTT (K:PySem.W.Frag):R2:=fun x y H Q=>∃ a b xs ys,x = .ref a /\ y = .ref b /\ SqT K H a xs /\ SqT K H b ys /\ xs.length + ys.length <= sizeLine /\
 (xs = [] -> Q (.ref b) H) /\ (xs ≠ [] -> ys = [] -> Q (.ref a) H) /\ (xs ≠ [] -> ys ≠ [] -> ∀ p,H p = none -> Q (.ref p) (upd H p (.tup (xs ++ ys))))
section
variable {X:Cx}
theorem op_catTT:OpR X (binaryOp .Add) (rCatTT X.K):=by
 intro pins s σ H x y v u Q I rx ry h
 obtain ⟨a,b,xs,ys,rfl,rfl,ha,hb,hz,q0,q1,q2⟩:=h
 by_cases hx:xs = []
 ·cases rx
  cases ry
  obtain ⟨its,r1,p1,_⟩:=I.tuple ha
  obtain ⟨its2,r2,p2,_⟩:=I.tuple hb
  have hi:its = []:=r1.nil_iff.mpr hx
  obtain ⟨⟨cls,dd,data,sl⟩,ho,hc,n,hd⟩:=id p1
  obtain ⟨⟨cls2,dd2,data2,sl2⟩,ho2,hc2,n2,hd2⟩:=id p2
  simp only at hc hd hc2 hd2
  subst hc hd hc2 hd2
  exact PySem.concat_meets ⟨_,ho,rfl⟩ ⟨_,ho2,rfl⟩ PySem.noFill_tuple_add PySem.seq_tuple_add PySem.F.slot_tuple_add PySem.F.entry_tuple_add (PySem.F.args_tuple_add_2 _ _)
   (tuple_addW0 a b its.toArray its2.toArray n n2 dd dd2 sl sl2 (by simp [hi])) ⟨ho,ho2,⟨.ref b,H,I,rfl,q0 hx⟩⟩
 ·exact op_catT pins s σ H _ _ v u Q I rx ry ⟨a,b,xs,ys,rfl,rfl,ha,hb,hx,hz,q1 hx,q2 hx⟩
end
section
variable {A:AC}
def rdCatT:RD2:=fun d1 d2 k=>∃ es fs,d1 = .tup es /\ d2 = .tup fs /\ es.length + fs.length <= sizeLine /\ k (.tup (es ++ fs))
@[simp] theorem q_rdCatT {es fs k}:rdCatT (.tup es) (.tup fs) k ↔ (es.length + fs.length <= sizeLine /\ k (.tup (es ++ fs))):=⟨fun ⟨_,_,e,e',h⟩=>by cases e; cases e'; exact h,fun h=>⟨_,_,rfl,rfl,h⟩⟩
theorem re_catT:OpRel A (rCatTT A.K) rdCatT:=by
 rintro os n rho sg H ds vs d1 d2 v1 v2 k Q I ⟨es,fs,rfl,rfl,hz,q⟩ hQ
 obtain ⟨I1,r2⟩:=I.pop
 obtain ⟨I2,r1⟩:=I1.pop
 have r1':=r1
 have r2':=r2
 obtain ⟨a,xs,e,sq,rs⟩:=r1.tup_inv
 obtain ⟨b,ys,e',sq',rs'⟩:=r2.tup_inv
 subst e e'
 refine ⟨a,b,xs,ys,rfl,rfl,sq.sq,sq'.sq,by rw [rs.length,rs'.length]; exact hz,fun hx=>?_,fun hx hy=>?_,fun hx hy p hp=>?_⟩
 ·have he : es = [] := by have := rs.length; rw [hx] at this; exact List.eq_nil_of_length_eq_zero this.symm
  subst he
  exact hQ _ H _ ⟨os,I2.push r2'⟩ q
 ·have he : fs = [] := by have := rs'.length; rw [hy] at this; exact List.eq_nil_of_length_eq_zero this.symm
  subst he
  rw [List.append_nil] at q
  exact hQ _ H _ ⟨os,I2.push r1'⟩ q
 ·exact hQ _ _ _ ⟨os,I2.newTup (rs.append rs') hp⟩ q
end
section
variable {A:AC} {X:Cx} {a b c e:Expr} {es:List Expr} {te ta tb tc:TD} {t1:TAD} {pos p:Pos}
def intOf (d:D) (k:Int -> Prop):Prop:=∃ i,d = .int i /\ k i
@[simp] theorem q_intOf {i:Int} {k}:intOf (.int i) k ↔ k i:=⟨fun ⟨_,e,h⟩=>by cases e; exact h,fun h=>⟨_,rfl,h⟩⟩
def dChain (f g:Int -> Int -> Bool) (ta tb tc:TD):TD:=fun rho n P=>ta rho n fun d1 n1=>tb rho n1 fun d2 n2=>intOf d1 fun i=>intOf d2 fun j=>if f i j = true then tc rho n2 fun d3 n3=>intOf d3 fun k=>P (.bl (g j k)) n3 else P (.bl false) n2
@[simp] theorem q_dChain {f g ta tb tc rho n P}:dChain f g ta tb tc rho n P = ta rho n fun d1 n1=>tb rho n1 fun d2 n2=>intOf d1 fun i=>intOf d2 fun j=>if f i j = true then tc rho n2 fun d3 n3=>intOf d3 fun k=>P (.bl (g j k)) n3 else P (.bl false) n2:=rfl
def iRng2D (t:TAD):TID:=fun rho n P=>t rho n fun es n1=>pair2 es fun d1 d2=>intOf d1 fun i=>intOf d2 fun j=>(-(2 ^ 62) <= i /\ i < 2 ^ 62 /\ -(2 ^ 62) <= j /\ j < 2 ^ 62) /\ P (rngD i (j - i).toNat) n1
@[simp] theorem q_iRng2D {t rho n P}:iRng2D t rho n P = t rho n fun es n1=>pair2 es fun d1 d2=>intOf d1 fun i=>intOf d2 fun j=>(-(2 ^ 62) <= i /\ i < 2 ^ 62 /\ -(2 ^ 62) <= j /\ j < 2 ^ 62) /\ P (rngD i (j - i).toNat) n1:=rfl
def sExtend (i:Nat) (t:TAD):TSD:=fun F rho n=>ownAt rho[i]? fun es=>t rho n fun ds n1=>∃ fs,ds = [.lst fs] /\ es.length + fs.length <= sizeLine /\ F.nx (rho.set i (some (.own (es ++ fs)))) n1
@[simp] theorem q_sExtend {i t F rho n}:sExtend i t F rho n = ownAt rho[i]? fun es=>t rho n fun ds n1=>∃ fs,ds = [.lst fs] /\ es.length + fs.length <= sizeLine /\ F.nx (rho.set i (some (.own (es ++ fs)))) n1:=rfl
end
theorem vals_of_ints:∀ {us:List Value} {ns:List Int},IntsAre us ns -> Vals (ns.map V.int) us
 | _,_,.nil=>.nil
 | _,_,.cons n t h=>.cons ⟨t,rfl⟩ (vals_of_ints h)
section
variable {X:Cx} {A:AC}
theorem bt_sorted:bootBuiltins "sorted" = some (.builtin "sorted"):=by decide +kernel
end
end L2
namespace L2
open PySem PySem.Spec PyProof.Rows
theorem swapped2 {x y:Str} {px py pt:Pos} {kt k2 pt2} {a b:Expr} {env:Env} (hk:env.blockKind = .function) (hx:env.kindOf x = some .local) (hy:env.kindOf y = some .local) (hl:py.line = px.line) (hxy:x ≠ y)
  (hsa:starred a = false) (hsb:starred b = false) (hf:[a,b].all (foldedForSure 8) = false) (hc:[a,b].all (constantsAlone 8) = false) :
  swappedStores [.Tuple [.Name x px,.Name y py] kt pt] (.Tuple [a,b] k2 pt2) env = pure (some [x,y]):=by
 have e2:(y == x) = false:=beq_false_of_ne (Ne.symm hxy)
 have e:(Expr.Name x px).pos.line = px.line:=rfl
 unfold swappedStores
 simp [hk,hx,hy,hl,hf,hc,e,List.eraseDups,List.eraseDupsBy,List.eraseDupsBy.loop,e2]
 intro h
 exfalso
 rcases h with h | h
 ·cases a <;> first | (simp at h; done) | (simp [starred] at hsa; done)
 ·cases b <;> first | (simp at h; done) | (simp [starred] at hsb; done)
section
variable {A:AC} {X:Cx} {a b:Expr} {pos:Pos}
theorem psd_parK {i j:Nat} {x y:Str} {ta:TAD} {px py pt:Pos} {kt k2 pt2} (hc:X.calm = true) (hN:X.N.Nodup) (hi:X.N[i]? = some x) (hj:X.N[j]? = some y) (hij:i ≠ j)
  (hx:X.env.scope.names.lookup x = some .local) (hy:X.env.scope.names.lookup y = some .local) (ha:PAD A X [a,b] ta)
  (hk:X.env.blockKind = .function:=by rfl) (hl:py.line = px.line:=by rfl) (hxy:x ≠ y:=by decide) (hsa:starred a = false:=by rfl) (hsb:starred b = false:=by rfl) (hf:[a,b].all (foldedForSure 8) = false:=by decide +kernel) (hca:[a,b].all (constantsAlone 8) = false:=by decide +kernel) :
  PSD A X (.Assign [.Tuple [.Name x px,.Name y py] kt pt] (.Tuple [a,b] k2 pt2) pos) (sPar i j ta):=by
 with_unfolding_all
  exact
   psd_par hc hN hi hj hij hx hy ha (swapped2 hk hx hy hl hxy hsa hsb hf hca) rfl
end
theorem ptsd_one {A:AC} {X:Cx} {e:Expr} {t:TBD} (h:PTD A X e t):PTs X [e] (ttOf A t):=by
 with_unfolding_all
  exact pts_one h
end L2
set_option maxRecDepth 100000
namespace L2
open PySem PySem.Spec PyProof.Rows HT
section
variable {prog:Program} {w:World} {A:Around} {E:Value -> Shared -> Prop} {s:Shared}
theorem getItem_tuple_whole {t sl:Addr} {items:Array Value} {vl vu:Value} {lo hi:Option Int} {Q:Value -> Shared -> Prop} (ht:IsTup s.heap t items) (hs:s.heap.IsSliceOf sl vl vu .none) (pl:IsPart vl lo) (pu:IsPart vu hi)
  (h1:sIx items.size 0 lo = 0) (h2:sIx items.size items.size hi = items.size) (h:Q (.ref t) s):wpAny (model prog w) A (getItem (.ref t) (.ref sl)) Q E s:=by
 obtain ⟨os,hos,hcs,hds⟩:=id hs
 have hTs:s.TypeIs (.ref sl) "slice" := ⟨os,hos,hcs⟩
 unfold getItem
 try with_reducible refine wpAny_holding ?_
 first | refine wpAny_bind (wpAny_pure ?_) | skip
 refine wpAny_bind (wpAny_sequenceKey ht.typeIs (by decide) ?_)
 refine wpAny_bind (wpAny_callSpecial?_slot (name:=Str.ofString "__getitem__") ht.typeIs PyProof.Rows.slot_tuple_getitem
  (wpAny_call_entry PyProof.Rows.slot_tuple_getitem ht.typeIs entry_tuple_getitem ?_ (args_tuple_getitem _ _)))
 show wpAny _ _ (Builtin.Tuple.tupleItemsOf (.ref t) >>= _) _ _ s
 refine wpAny_bind (tupleItemsOf_ ht ?_)
 refine wpAny_bind (wpAny_typeOf hTs ?_)
 rw [if_pos (by decide)]
 refine wpAny_bind (sliceApplied_gen hs pl pu ?_)
 have hyes:((((sIx items.size 0 lo:Nat):Int) == 0 && (1:Int) == 1 && (sIx items.size items.size hi - sIx items.size 0 lo) == items.size) = true):=by
  rw [h1,h2]; simp
 show wpAny _ _ (if (((sIx items.size 0 lo:Nat):Int) == 0 && (1:Int) == 1 && (sIx items.size items.size hi - sIx items.size 0 lo) == items.size) = true then _ else _) _ _ s
 rw [if_pos hyes]
 obtain ⟨⟨cls,dd,data,sl'⟩,ho,hc,n,hd⟩:=id ht
 simp only at hc hd
 subst hc hd
 unfold Builtin.Tuple.tupleIsExact
 obtain ⟨hp,g,d,tk,os'⟩:=s
 wp_walk
 exact ⟨_,rfl,wpAny_pure h⟩
end
section
variable {X:Cx}
def rSlTW (K:PySem.W.Frag):V -> Option Int -> Option Int -> Hp -> VK -> Prop:=fun x lo hi H Q=>∃ a xs,x = .ref a /\ SqT K H a xs /\
 ((HT.sIx xs.length 0 lo = 0 /\ HT.sIx xs.length xs.length hi = xs.length) -> Q (.ref a) H) /\ (¬ (HT.sIx xs.length 0 lo = 0 /\ HT.sIx xs.length xs.length hi = xs.length) -> ∀ p,H p = none -> Q (.ref p) (upd H p (.tup (cutV xs lo hi))))
theorem sl_tupW:SlR X (rSlTW X.K):=by
 intro pins s σ H x v vl vu lo hi sl Q I rx hs pl pu h
 obtain ⟨a,xs,rfl,hx,q1,q2⟩:=h
 by_cases hw:HT.sIx xs.length 0 lo = 0 /\ HT.sIx xs.length xs.length hi = xs.length
 ·cases rx
  obtain ⟨its,r,ht,hz⟩:=I.tuple hx
  have hlen:its.toArray.size = xs.length:=by rw [List.size_toArray]; exact r.length.symm
  refine ⟨"tuple",_,PyProof.Rows.slot_tuple_getitem.lookup,ht.typeIs,?_⟩
  exact getItem_tuple_whole ht hs pl pu (by rw [hlen]; exact hw.1) (by rw [hlen]; exact hw.2) ⟨.ref a,H,I,rfl,q1 hw⟩
 ·exact sl_tup pins s σ H (.ref a) v vl vu lo hi sl Q I rx hs pl pu ⟨a,xs,rfl,hx,hw,q2 hw⟩
end
abbrev TOD:=Rho -> Nat -> (Option Int -> Nat -> Prop) -> Prop
def oOf (A:AC) (t:TOD):TO:=fun sg H Q=>∃ rho n P ds vs,Am A n rho sg H ds vs /\ t rho n P /\ ∀ o H' n',Am A n' rho sg H' ds vs -> P o n' -> Q o H'
@[irreducible] def POD (A:AC) (X:Cx) (e:Option Expr) (t:TOD):Prop:=PO X e (oOf A t)
theorem PO.imp {X:Cx} {e:Option Expr} {t t':TO} (h:PO X e t) (hi:∀ sg H Q,t' sg H Q -> t sg H Q):PO X e t':=fun pins s sg H Q I q=>h pins s sg H Q I (hi _ _ _ q)
section
variable {A:AC} {X:Cx} {a b c e:Expr} {es:List Expr} {te ta tb tc:TD} {t1:TAD} {pos p:Pos}
def oNone:TOD:=fun _ n P=>P none n
def oSome (t:TD):TOD:=fun rho n P=>t rho n fun d n1=>intOf d fun i=>P (some i) n1
@[simp] theorem q_oNone {rho n P}:oNone rho n P = P none n:=rfl
@[simp] theorem q_oSome {t rho n P}:oSome t rho n P = t rho n fun d n1=>intOf d fun i=>P (some i) n1:=rfl
theorem pod_none:POD A X none oNone:=by
 with_unfolding_all
  exact po_none.imp fun sg H Q h=>by
   obtain ⟨rho,n,P,ds,vs,I,h,hQ⟩:=h
   exact hQ none H n I h
theorem pod_some (h:PD A X e te):POD A X (some e) (oSome te):=by
 with_unfolding_all
  exact (po_some h).imp fun sg H Q h=>by
   obtain ⟨rho,n,P,ds,vs,I,h,hQ⟩:=h
   refine ⟨rho,n,_,ds,vs,I,h,fun v H' n' d ⟨os,J⟩ k=>?_⟩
   obtain ⟨i,rfl,k⟩:=k
   obtain ⟨J1,r⟩:=J.pop
   exact ⟨i,r.int_inv,hQ _ H' n' ⟨os,J1⟩ k⟩
def tupAt (d:D) (k:List D -> Prop):Prop:=∃ fs,d = .tup fs /\ k fs
@[simp] theorem q_tupAt {fs:List D} {k}:tupAt (.tup fs) k ↔ k fs:=⟨fun ⟨_,e,h⟩=>by cases e; exact h,fun h=>⟨_,rfl,h⟩⟩
def dSlT (ta:TD) (tl th:TOD):TD:=fun rho n P=>ta rho n fun d n1=>tl rho n1 fun lo n2=>th rho n2 fun hi n3=>tupAt d fun fs=>P (.tup (cutL fs lo hi)) n3
@[simp] theorem q_dSlT {ta tl th rho n P}:dSlT ta tl th rho n P = ta rho n fun d n1=>tl rho n1 fun lo n2=>th rho n2 fun hi n3=>tupAt d fun fs=>P (.tup (cutL fs lo hi)) n3:=rfl
theorem cut_whole {fs:List D} {lo hi:Option Int} (h:HT.sIx fs.length 0 lo = 0 /\ HT.sIx fs.length fs.length hi = fs.length):cutL fs lo hi = fs:=by
 unfold cutL
 rw [h.1,h.2,List.drop_zero,Nat.sub_zero,List.take_length]
theorem pd_slT {le he:Option Expr} {tl th:TOD} {p2:Pos} (hK:X.K = A.K) (ha:PD A X a ta) (hl:POD A X le tl) (hh:POD A X he th):PD A X (.Subscript a (.Slice le he none p2) pos) (dSlT ta tl th):=by
 with_unfolding_all
  exact (pe_slice sl_tupW ha hl hh).imp fun sg H Q h=>by
   obtain ⟨rho,n,P,ds,vs,I,ht,hQ⟩:=h
   refine ⟨rho,n,_,ds,vs,I,ht,fun v H1 n1 d J1 h1=>⟨rho,n1,_,_,_,J1,h1,fun lo H2 n2 J2 h2=>⟨rho,n2,_,_,_,J2,h2,fun hi H3 n3 ⟨os,J3⟩ h3=>?_⟩⟩⟩
   obtain ⟨fs,rfl,k⟩:=h3
   obtain ⟨J4,r⟩:=J3.pop
   have r':=r
   obtain ⟨l,xs,rfl,sq,rs⟩:=r.tup_inv
   rw [hK]
   have hlen:xs.length = fs.length:=rs.length
   refine ⟨l,xs,rfl,sq.sq,fun hw=>?_,fun hw p hp=>hQ _ _ n3 _ ⟨os,J4.newTup (reps_cut rs lo hi) hp⟩ k⟩
   rw [hlen] at hw
   rw [cut_whole hw] at k
   exact hQ _ H3 n3 _ ⟨os,J4.push r'⟩ k
end
end L2
namespace L2
open PySem PySem.Spec PyProof.Rows
section
variable {A:AC} {X:Cx} {a b c e:Expr} {es:List Expr} {te ta tb tc:TD} {t1:TAD} {pos p:Pos}
end
section
variable {A:AC} {X:Cx}
end
end L2
namespace L2
open PySem PySem.Spec PyProof.Rows
section
variable {A:AC} {X:Cx} {pos p:Pos}
def dFn0 (t:TF):TD:=fun _ n P=>t [] n P
@[simp] theorem q_dFn0 {t rho n P}:dFn0 t rho n P = t [] n P:=rfl
end
end L2
set_option maxRecDepth 100000
namespace L2
open PySem PySem.Spec PyProof.Rows
section
variable {A:AC} {X:Cx} {a b e:Expr} {ta tb:TD} {pos p:Pos}
def sSetCatO (i:Nat) (ta tb:TD):TSD:=fun F rho n=>i < rho.length /\ ta rho n fun d1 n1=>tb rho n1 fun d2 n2=>lstOf d1 fun es=>lstOf d2 fun fs=>es.length + fs.length <= sizeLine /\ F.nx (rho.set i (some (.own (es ++ fs)))) n2
@[simp] theorem q_sSetCatO {i ta tb F rho n}:sSetCatO i ta tb F rho n = (i < rho.length /\ ta rho n fun d1 n1=>tb rho n1 fun d2 n2=>lstOf d1 fun es=>lstOf d2 fun fs=>es.length + fs.length <= sizeLine /\ F.nx (rho.set i (some (.own (es ++ fs)))) n2):=rfl
def kStr:List D -> (D -> Prop) -> Prop:=fun es k=>∃ i:Int,es = [.int i] /\ i.natAbs.log2 < 1920 /\ k (.str (toString i))
@[simp] theorem q_kStr {i:Int} {k}:kStr [.int i] k ↔ (i.natAbs.log2 < 1920 /\ k (.str (toString i))):=⟨fun ⟨_,e,h⟩=>by cases e; exact h,fun h=>⟨_,rfl,h⟩⟩
end
end L2
namespace L2
open PySem PySem.Spec PyProof.Rows HT
section
variable {prog:Program} {w:World} {A:Around} {E:Value -> Shared -> Prop} {s:Shared}
theorem fm_congr {f g:Nat -> Option Value}:∀ {l:List Nat},(∀ x ∈ l,f x = g x) -> l.filterMap f = l.filterMap g
 | [],_=>rfl
 | a :: l,h=>by
  rw [List.filterMap_cons,List.filterMap_cons,h a (List.mem_cons_self ..),fm_congr fun x hx=>h x (List.mem_cons_of_mem _ hx)]
theorem pick_rev (xs:Array Value):((List.range xs.size).filterMap fun (m:Nat)=>xs[((xs.size:Int) - 1 + (m:Int) * (-1)).toNat]?).toArray = xs.toList.reverse.toArray:=by
 have h:=pick_gen xs.toList.reverse.toArray 0 xs.size
 have e:(List.range xs.size).filterMap (fun (m:Nat)=>xs[((xs.size:Int) - 1 + (m:Int) * (-1)).toNat]?) = (List.range xs.size).filterMap (fun (m:Nat)=>xs.toList.reverse.toArray[((0:Nat) + (m:Int) * 1).toNat]?):=by
  refine fm_congr fun m hm=>?_
  have hm':=List.mem_range.mp hm
  have e1:((xs.size:Int) - 1 + (m:Int) * (-1)).toNat = xs.size - 1 - m:=by lia
  have e2:(((0:Nat):Int) + (m:Int) * 1).toNat = m:=by lia
  rw [e1,e2]
  simp only [List.getElem?_toArray]
  rw [List.getElem?_reverse (by simpa using hm')]
  simp
 rw [e,h]
 congr 1
 rw [List.drop_zero]
 exact List.take_of_length_le (by simp)
end
section
variable {X:Cx} {e:Expr} {te:TE} {pos p2:Pos}
end
section
variable {A:AC} {X:Cx} {a:Expr} {ta:TD} {pos p2 p3 p4:Pos}
theorem Reps.reverse {K:PySem.W.Frag} {G:Option Addr} {Z:Addr -> Prop} {H:Hp}:∀ {ds:List D} {vs:List V},Reps K G Z H ds vs -> Reps K G Z H ds.reverse vs.reverse
 | [],vs,h=>by rw [h.nil_inv]; exact .nil
 | d :: ds,vs,h=>by
  obtain ⟨v,r,rfl,q,t⟩:=h.split
  rw [List.reverse_cons,List.reverse_cons]
  exact (Reps.reverse t).append (.cons q .nil)
def dRev (ta:TD):TD:=fun rho n P=>ta rho n fun d n1=>tupAt d fun fs=>P (.tup fs.reverse) n1
@[simp] theorem q_dRev {ta rho n P}:dRev ta rho n P = ta rho n fun d n1=>tupAt d fun fs=>P (.tup fs.reverse) n1:=rfl
end
end L2
set_option maxRecDepth 100000
namespace L2
open PySem PySem.Spec PyProof.Rows PySem.W PySem.Calls PySem.NumText
section
variable {A:AC} {X:Cx} {e:Expr} {te:TD} {pos:Pos}
def sWhile (tc:TBD) (tb:TSD):TSD:=fun F rho n=>∃ J:Nat -> Rho -> Nat -> Prop,(∃ m,J m rho n) /\ ∀ m rho n,J m rho n -> tc rho n fun b n1=>if b = true then tb { F with nx:=fun rho' n'=>∃ m',m' < m /\ J m' rho' n',ct:=fun rho' n'=>∃ m',m' < m /\ J m' rho' n',bk:=F.nx } rho n1 else F.nx rho n1
theorem psd_while {c:Expr} {body:List Stmt} {tc:TBD} {tb:TSD} (hp:PassesOwn (model X.prog X.w) X.A X.env X.xe) (hc:PTD A X c tc) (hb:PSsD A X body tb):PSD A X (.While c body [] pos) (sWhile tc tb):=by
 with_unfolding_all
  exact (ps_while hp hc hb).imp fun E sg H h=>by
   obtain ⟨rho,n,F,ds,vs,I,⟨J,⟨m0,j0⟩,turn⟩,ok⟩:=h
   refine ⟨fun m sg H=>∃ rho n,Am A n rho sg H ds vs /\ J m rho n,⟨m0,rho,n,I,j0⟩,?_⟩
   rintro m sg1 H1 ⟨rho1,n1,I1,j1⟩
   refine ⟨rho1,n1,_,ds,vs,I1,turn m rho1 n1 j1,fun b H2 n2 I2 k=>?_⟩
   cases b with
   | true =>
    rw [if_pos rfl] at k ⊢
    refine ⟨fun sg' H'=>∃ m',m' < m /\ ∃ rho n,Am A n rho sg' H' ds vs /\ J m' rho n,fun sg' H' ⟨m',hm,q⟩=>⟨m',hm,q⟩,rho1,n2,_,ds,vs,I2,k,?_⟩
    exact ⟨fun rho6 n6 sg6 H6 I6 ⟨m',hm,k6⟩=>⟨m',hm,rho6,n6,I6,k6⟩,fun d n6 v rho6 sg6 H6 I6 k6=>ok.rt _ _ _ _ _ _ I6 k6,fun rho6 n6 sg6 H6 I6 k6=>ok.nx _ _ _ _ I6 k6,fun rho6 n6 sg6 H6 I6 ⟨m',hm,k6⟩=>⟨m',hm,rho6,n6,I6,k6⟩⟩
   | false =>
    rw [if_neg Bool.false_ne_true] at k ⊢
    exact ok.nx _ _ _ _ I2 k
@[simp] theorem q_sWhile {tc tb F rho n}:sWhile tc tb F rho n = ∃ J:Nat -> Rho -> Nat -> Prop,(∃ m,J m rho n) /\ ∀ m rho n,J m rho n -> tc rho n fun b n1=>if b = true then tb { F with nx:=fun rho' n'=>∃ m',m' < m /\ J m' rho' n',ct:=fun rho' n'=>∃ m',m' < m /\ J m' rho' n',bk:=F.nx } rho n1 else F.nx rho n1:=rfl
def sAugI (f:Int -> Int -> Int) (i:Nat) (te:TD):TSD:=fun F rho n=>i < rho.length /\ ∃ a:Int,rho[i]? = some (some (.int a)) /\ te rho n fun d n1=>∃ b:Int,d = .int b /\ F.nx (rho.set i (some (.int (f a b)))) n1
theorem psd_augI {i:Nat} {x:Str} {op:Operator} {f:Int -> Int -> Int} {pos':Pos} (ho:PIp X op (ipI f)) (hN:X.N.Nodup) (hi:X.N[i]? = some x) (hx:Loc X.env.scope x) (he:PD A X e te) (hf:X.fn x = true \/ X.env.scope.names.lookup x = some .local:=by first | exact .inl rfl | exact .inr rfl | assumption) :
  PSD A X (.AugAssign (.Name x pos') op e pos) (sAugI f i te):=by
 with_unfolding_all
  exact (ps_aug hN hi hx he ho hf).imp fun E sg H h=>by
   obtain ⟨rho,n,F,ds,vs,⟨os,I⟩,⟨hl,a,ha,ht⟩,ok⟩:=h
   obtain ⟨v,e1,e2⟩:=I.slot i _ ha
   have e3:=SlotR.rep (d:=.int a) rfl e2
   refine ⟨v,e1,rho,n,_,ds,vs,⟨os,I⟩,ht,fun w H' n' d ⟨os',J⟩ k=>?_⟩
   obtain ⟨b,rfl,k⟩:=k
   obtain ⟨J1,r⟩:=J.pop
   refine ⟨a,b,e3.int_inv,r.int_inv,ok.nx _ _ _ _ ⟨_,AmO.set (d:=.int (f a b)) (J1.push (Rep.ofS rfl)) hl⟩ k⟩
@[simp] theorem q_sAugI {f i te F rho n}:sAugI f i te F rho n = (i < rho.length /\ ∃ a:Int,rho[i]? = some (some (.int a)) /\ te rho n fun d n1=>∃ b:Int,d = .int b /\ F.nx (rho.set i (some (.int (f a b)))) n1):=rfl
def rdCatS:RD2:=fun d1 d2 k=>∃ x y,d1 = .str x /\ d2 = .str y /\ x.length + y.length <= sizeLine /\ k (.str (x ++ y))
theorem re_catS:OpRel A (fun x y H Q=>∃ i j,x = .str i /\ y = .str j /\ i.length + j.length <= sizeLine /\ Q (.str (i ++ j)) H) rdCatS:=by
 rintro os n rho sg H ds vs d1 d2 v1 v2 k Q I ⟨x,y,rfl,rfl,hz,q⟩ hQ
 obtain ⟨I1,r2⟩:=I.pop
 obtain ⟨I2,r1⟩:=I1.pop
 exact ⟨x,y,r1.toS rfl,r2.toS rfl,hz,hQ _ H _ ⟨os,I2.push (Rep.ofS rfl)⟩ q⟩
@[simp] theorem q_rdCatS {x y k}:rdCatS (.str x) (.str y) k ↔ (x.length + y.length <= sizeLine /\ k (.str (x ++ y))):=⟨fun ⟨_,_,e,e',h⟩=>by cases e; cases e'; exact h,fun h=>⟨_,_,rfl,rfl,h⟩⟩
theorem op_mulS:OpR X (binaryOp .Mult) (fun x y H Q=>∃ i n,x = .str i /\ y = .int n /\ MulOk i n /\ Q (.str (Txt.mul i n)) H):=by
 intro pins s σ H x y v u Q I rx ry h
 obtain ⟨i,n,rfl,rfl,hz,q⟩:=h
 obtain ⟨t,rfl⟩:=rx
 obtain ⟨t',rfl⟩:=ry
 exact SB.mul hz fun t' k=>⟨.str (Txt.mul i n),H,I.tok _,⟨_,rfl⟩,q⟩
def rdMulS:RD2:=fun d1 d2 k=>∃ x i,d1 = .str x /\ d2 = .int i /\ MulOk x i /\ k (.str (Txt.mul x i))
theorem re_mulS:OpRel A (fun x y H Q=>∃ i n,x = .str i /\ y = .int n /\ MulOk i n /\ Q (.str (Txt.mul i n)) H) rdMulS:=by
 rintro os n rho sg H ds vs d1 d2 v1 v2 k Q I ⟨x,y,rfl,rfl,hz,q⟩ hQ
 obtain ⟨I1,r2⟩:=I.pop
 obtain ⟨I2,r1⟩:=I1.pop
 exact ⟨x,y,r1.toS rfl,r2.toS rfl,hz,hQ _ H _ ⟨os,I2.push (Rep.ofS rfl)⟩ q⟩
@[simp] theorem q_rdMulS {x i k}:rdMulS (.str x) (.int i) k ↔ (MulOk x i /\ k (.str (Txt.mul x i))):=⟨fun ⟨_,_,e,e',h⟩=>by cases e; cases e'; exact h,fun h=>⟨_,_,rfl,rfl,h⟩⟩
end
theorem wp_long {M:Model} {A:Around} {E:Value -> Shared -> Prop} {s:Shared} {Q:Value -> Shared -> Prop} {v:Value} {text:List Nat} {n:Int}
    (hs:¬ (text.takeWhile (· != 0)).length <= 640) (hr:(int_private% "readNumeral") 4300 10 (text.takeWhile (· != 0)) = (int_private% "Numeral.value") n)
    (ha:((text.takeWhile (· != 0)).length == text.length) = true) (hn:s.heap.NoDigits) (h:Q (.int n s.toks) { s with toks:=s.toks + 1 }) :
    wpAny M A ((int_private% "intFromText") v text 10) Q E s:=by
  obtain ⟨mc,hns,hnone⟩:=hn
  obtain ⟨hp,g,d,tk,os⟩:=s
  have hi:∀ {Q:Nat -> Shared -> Prop},Q 4300 ⟨hp,g,d,tk,os⟩ -> wpAny M A Builtin.intMaxStrDigits Q E ⟨hp,g,d,tk,os⟩:=fun {Q} q=>by
    unfold Builtin.intMaxStrDigits
    refine wpAny_bind (wpAny_nsGet hns ?_)
    rw [hnone]
    exact wpAny_pure q
  repeat (any_goals (first
    | assumption
    | (with_reducible refine wpAny_ite_false (decide_eq_false hs) ?_)
    | (with_reducible refine wpAny_ite_true (decide_eq_true ha) ?_)
    | (with_reducible refine hi ?_)
    | wp_step))
  all_goals (try rw [hr])
  all_goals (try dsimp only)
  repeat (any_goals (first
    | assumption
    | (with_reducible refine wpAny_ite_true (decide_eq_true ha) ?_)
    | wp_step))
set_option maxHeartbeats 4000000 in
theorem meets_long {x:PySem.Str} {u:Tok} {n:Int} (hs:¬ (numSeenOf x).length <= 640) (hl:x.length <= sizeLine) (hn:PySem.intText? x = some n):Meets (Builtin.«int.__new__» ⟨[.type "int",.str x u],[]⟩) (fun A R s=>s.heap.NoDigits /\ R (.ok (.ret (.int n s.toks))) { s with toks:=s.toks + 1 }):=by
 intro prog w A R s h
 obtain ⟨hd,h⟩:=h
 obtain ⟨hp,g,d,tk,os⟩:=s
 have f1:=F.conv_sub_int
 have f2:=F.madeHere_int
 have f3:=KIN.str_int
 have f4:=KIN.str_idx
 have f5:=KIN.str_trunc
 have f6:typeOf (.str x u) = pure (.type "str"):=rfl
 have hr:(int_private% "readNumeral") 4300 10 (numSeenOf x) = (int_private% "Numeral.value") n /\ ((numSeenOf x).length == (numTextOf x).length) = true:=by
  rcases read4300 x hl with ⟨m,h1,h2,h3⟩ | ⟨h1,_⟩
  ·rw [hn] at h1
   injection h1 with h1
   subst h1
   exact ⟨h3,h2⟩
  ·rw [hn] at h1
   cases h1
 have hk:=KIN.Hid.mk (And.intro hs (And.intro hr hd))
 clear hs hr hl hn hd
 repeat (any_goals (first
  | assumption
  | ((with_reducible show wpAny _ _ ((int_private% "intFromText") _ _ _) _ _ _); refine wp_long hk.out.1 hk.out.2.1.1 hk.out.2.1.2 hk.out.2.2 ?_)
  | wp_step))
theorem call_long {prog:Program} {w:World} {A:Around} {E:Value -> Shared -> Prop} {s:Shared} {Q:Value -> Shared -> Prop} {x:PySem.Str} {t:Tok} {n:Int} (hs:¬ (numSeenOf x).length <= 640) (hl:x.length <= sizeLine) (hn:PySem.intText? x = some n) (hd:s.heap.NoDigits) (h:Q (.int n s.toks) { s with toks:=s.toks + 1 }):wpAny (model prog w) A (call (.type "int") [.str x t]) Q E s :=
 call_int_1 (meets_long hs hl hn) ⟨hd,rfl,h⟩
section
variable {A:AC} {X:Cx}
theorem call_int_long (hd:X.base.NoDigits):CallR X (.type "int") (fun xs H Q=>∃ x n,xs = [.str x] /\ ¬ (numSeenOf x).length <= 640 /\ x.length <= sizeLine /\ PySem.intText? x = some n /\ Q (.int n) H):=by
 intro pins s σ H xs us Q I r h
 obtain ⟨x,n,rfl,h1,h2,h3,q⟩:=h
 obtain ⟨u,rfl,t,rfl⟩:=vals1 r
 exact call_long h1 h2 h3 (hd.keeps I.bk) ⟨.int n,H,I.tok _,⟨_,rfl⟩,q⟩
def kIntL:List D -> (D -> Prop) -> Prop:=fun es k=>∃ x n,es = [.str x] /\ ¬ (numSeenOf x).length <= 640 /\ x.length <= sizeLine /\ PySem.intText? x = some n /\ k (.int n)
theorem cr_intL:CallRel A (fun xs H Q=>∃ x n,xs = [.str x] /\ ¬ (numSeenOf x).length <= 640 /\ x.length <= sizeLine /\ PySem.intText? x = some n /\ Q (.int n) H) kIntL:=by
 rintro os n rho sg H ds vs es ws k Q I rs ⟨x,m,rfl,h1,h2,h3,q⟩ hQ
 obtain ⟨v,rfl,r⟩:=reps1 rs
 exact ⟨x,m,by rw [r.toS rfl]; rfl,h1,h2,h3,hQ _ H _ ⟨os,I.push (Rep.ofS rfl)⟩ q⟩
end
theorem fold_rep:∀ (k:Nat) (a:Array Nat),((List.replicate k #[48]).foldl (· ++ ·) a).toList = a.toList ++ List.replicate k 48
  | 0,a=>by simp
  | k + 1, a => by
    rw [List.replicate_succ,List.foldl_cons,fold_rep k,Array.toList_append,List.append_assoc]
    rfl
theorem cps_noughts (k:Int) (h:1 < k):(Str.ofString "1" ++ Txt.mul (Str.ofString "0") k).cps.toList = 49 :: List.replicate k.toNat 48:=by
 have e:(Str.ofString "0").cps = #[48]:=by decide +kernel
 have e1:(Str.ofString "1").cps = #[49]:=by decide +kernel
 have el:(Str.ofString "0").length = 1:=by decide +kernel
 unfold Txt.mul
 rw [if_neg (by lia),if_neg (by simp [el]; lia)]
 show ((Str.ofString "1").cps ++ _).toList = _
 rw [e1,Array.toList_append,e,fold_rep]
 rfl
theorem int_noughts (k:Int) (h:700 < k) (h2:k < 4200):∃ m:Int,0 < m /\ ¬ (numSeenOf (Str.ofString "1" ++ Txt.mul (Str.ofString "0") k)).length <= 640 /\ (Str.ofString "1" ++ Txt.mul (Str.ofString "0") k).length <= sizeLine /\ PySem.intText? (Str.ofString "1" ++ Txt.mul (Str.ofString "0") k) = some m:=by
 have ec:=cps_noughts k (by lia)
 generalize hx:Str.ofString "1" ++ Txt.mul (Str.ofString "0") k = x at *
 have hl:x.length = k.toNat + 1:=by
  have:x.cps.toList.length = x.length:=Array.length_toList
  rw [<- this,ec]; simp
 have hd:NumText.AllDigits x.cps.toList:=fun c hc=>by
  rw [ec] at hc
  rcases List.mem_cons.mp hc with rfl | hc
  ·lia
  ·rw [(List.mem_replicate.mp hc).2]; lia
 refine ⟨(NumText.digitsVal x.cps.toList:Nat),?_,?_,?_,intText_digits hd (by rw [ec]; simp) (by lia)⟩
 ·rw [ec]
  have:=NumText.digitsVal_pos (c:=49) (cs:=List.replicate k.toNat 48) (by decide)
  lia
 ·rw [(numText_signs fun c hc=>Or.inr (hd c hc)).2,ec]; simp; lia
 ·rw [hl,sizeLine_eq]; lia
theorem mulok_nought (k:Int) (h:1 < k) (h2:k < 10000):MulOk (Str.ofString "0") k:=by
 have el:(Str.ofString "0").length = 1:=by decide +kernel
 refine ⟨by simp; lia,fun _ _=>?_,fun _ _=>?_⟩
 ·rw [el]
  have:1 <= (2 ^ 63 - 1:Int) / k:=(Int.le_ediv_iff_mul_le (by lia)).mpr (by lia)
  intro z
  exact absurd z (Int.not_lt.mpr this)
 ·rw [el]
  unfold Builtin.Str.tooLong
  exact decide_eq_false (by rw [sizeLine_eq]; lia)
end L2
set_option maxRecDepth 100000
namespace L2
open PySem PySem.Spec PyProof.Rows
theorem law_callN {P:Program} {w:World} {K:PySem.W.Frag} {mg mb:Str -> Option Value} {CX:CXT} {k:Nat} {fa a:Addr} {fd:FuncData} {x:Str} {sp:Sp} {s₁:Shared} {vs:List Value} {ns:List Int}
  (KX:K.In s₁.heap) (hns:s₁.heap.Ns mainGlobals mg) (hb:s₁.heap.Ns builtinsNs mb) (hbb:∀ x:Str,x ≠ "__name__" -> mb x = bootBuiltins x) (hlim:s₁.heap.NoLimit) (hdig:s₁.heap.NoDigits) (hg:s₁.gens = #[])
  (ha:s₁.heap.get? a = some { cls:=.type "list",data:=.seq vs.toArray }) (hi:IntsAre vs ns) (hl:ns.length <= sizeLine) (hr:Room k callerA)
  (F:∀ base:Heap,K.In base -> base.Ns mainGlobals mg -> base.NoDigits -> FnOk P w K mg base CX k fa fd [x] sp) (hbind:∀ (s:Shared) (u:Value),BindsTo s fd ⟨[u],[]⟩ [(x,u)])
  (hsp:∀ H:Hp,Only H -> SqL K H a (ns.map V.int) -> sp [.ref a] H (fun v _=>v = .bl true) fun _ _ _=>False)
  (hCX:∀ H e s',CX [] H s₁ (fun _ _ _=>False) e s' -> False) :
  codeAny (model P w) callerA (.call (.ref fa) ⟨[.ref a],[]⟩) (fun r s'=>r = .ok (.ret (.bool true)) /\ OldK s₁.heap s'.heap /\ s'.os = s₁.os /\ AllBare s'.gens) s₁:=by
 have rv:=vals_ints hi
 have lenV:=hi.length
 have core : ∀ H : Hp, Only H -> SqL K H a (ns.map V.int) -> HOk P w H s₁.heap -> (∀ b, H b ≠ none -> b = a) -> (H a ≠ none -> K.lookup a = none) ->
   codeAny (model P w) callerA (.call (.ref fa) ⟨[.ref a],[]⟩) (fun r s'=>r = .ok (.ret (.bool true)) /\ OldK s₁.heap s'.heap /\ s'.os = s₁.os /\ AllBare s'.gens) s₁:=by
  intro H hO hS hok hA hK
  have base_of:∀ {b:Addr} {o:Obj},s₁.heap.get? b = some o -> H b = none -> (hidT s₁.heap H).get? b = some o:=fun e n=>hidT_get e n
  have noA:∀ {b:Addr} {o:Obj} {es:Array DictEntry} {ep:Nat},s₁.heap.get? b = some o -> o.data = .dict es ep -> H b = none:=fun {b o es ep} e d=>by
   cases q:H b with
   | none=>rfl
   | some u =>
    have e':b = a:=hA b (by rw [q]; simp)
    subst e'
    rw [ha] at e; cases e
    have d':Data.seq vs.toArray _ = Data.dict es ep:=d
    cases d'
  have nsK:∀ {b:Addr} {m:Str -> Option Value},s₁.heap.Ns b m -> (hidT s₁.heap H).Ns b m:=fun {b m} ⟨o,es,ep,e,d,r⟩=>⟨o,es,ep,base_of e (noA e d),d,r⟩
  have hKb:K.In (hidT s₁.heap H):=fun b o e=>base_of (KX b o e) (by
   cases q:H b with
   | none=>rfl
   | some u =>
    have e':b = a:=hA b (by rw [q]; simp)
    subst e'
    rw [hK (by rw [q]; simp)] at e; cases e)
  have hM:Mod K mg (hidT s₁.heap H):=⟨hKb,nsK hns,⟨mb,nsK hb,hbb⟩,let ⟨mc,h1,h2⟩:=hlim; ⟨mc,nsK h1,h2⟩⟩
  have e0:Env0 P w K mg (hidT s₁.heap H) callerA [] s₁ H:=⟨rfl,hM,fun b o e=>of_hidT e,Nat.le_of_eq (hidT_size _ _),trivial,fun b hb=>absurd (show b ∈ ([]:List Addr) from hb) (by simp),hok,.of_eq hg⟩
  refine codeAny_mono ((F _ hKb (nsK hns) (let ⟨mc,h1,h2⟩:=hdig; ⟨mc,nsK h1,h2⟩)).run callerA [] s₁ H ⟨[.ref a],[]⟩ [.ref a] [.ref a] _ _ hr e0 (hbind s₁ (.ref a)) (.cons rfl .nil) (hsp H hO hS)) fun r s' h=>?_
  cases r with
  | error e=>exact (hCX H e s' h).elim
  | ok fl =>
   cases fl with
   | next=>exact False.elim h
   | brk=>exact False.elim h
   | cont=>exact False.elim h
   | ret u =>
    obtain ⟨v,H',os,bare,un,hok',r',q⟩:=h
    have q':v = .bl true:=q
    subst q'
    obtain rfl:u = Value.bool true:=r'
    refine ⟨rfl,OldK.of_keep fun b o e=>?_,os,bare⟩
    cases q:H b with
    | none=>exact un.keep b o e q (by intro z; exact absurd (show b ∈ ([]:List Addr) from z) (by simp)) (by simp)
    | some u =>
     rcases hO b with z | ⟨ob,xs,z⟩
     ·rw [q] at z; cases z
     ·have z2 := un.frzs b ob _ z
      obtain ⟨e1,_⟩:=hok b _ z
      obtain ⟨e2,_⟩:=hok' b _ z2
      rw [e] at e1; cases e1
      exact e2
 cases hk:K.lookup a with
 | some o =>
  have e:=KX a o hk
  rw [ha] at e
  cases e
  refine core (fun _=>none) (fun _=>.inl rfl) (.inr ⟨_,vs.toArray,_,hk,rfl,rfl,rfl,by rw [List.size_toArray,lenV]; exact hl,by simpa using rv⟩) (fun b u z=>by have z':(none:Option HO) = some u:=z; cases z') (fun b z=>absurd rfl z) fun z=>absurd rfl z
 | none =>
  refine core (fun b=>if b = a then some (.frz { cls:=.type "list",data:=.seq vs.toArray } (.lst (ns.map V.int))) else none) (fun b=>?_) (.inl (.inr ⟨{ cls:=.type "list",data:=.seq vs.toArray },if_pos rfl⟩)) (fun b u z=>?_) (fun b z=>?_) fun _=>hk
  ·by_cases hb : b = a
   ·exact .inr ⟨_,_,if_pos hb⟩
   ·exact .inl (if_neg hb)
  ·by_cases hb : b = a
   ·have z' := (if_pos hb).symm.trans z
    cases z'
    subst hb
    exact ⟨ha,by rw [List.length_map]; exact hl,vs,_,rv,ha⟩
   ·have z' := (if_neg hb).symm.trans z
    cases z'
  ·by_cases hb : b = a
   ·exact hb
   ·exact absurd (if_neg hb) z
theorem walk_ofN {l:PySem.W.OpenLaw} {n k:Nat} {q:Program} {loose:List Str} {XP:(Str -> Option Value) -> Heap -> Prop} {YP:World -> Heap -> Prop} {d:DefRec} {K:Params -> PySem.W.Frag} {CX:World -> CXT} {sp:World -> Sp} {x:Str}
  (hn:l.most = some n) (hn2:n <= sizeLine) (hdf:d.params.defaults = []) (hr:Room k callerA)
  (hY:∀ (w:World) (h:Heap),YP w h -> (K w.params).In h)
  (F : ∀ (w : World) (mg : Str -> Option Value) (fa : Addr) (h : Heap), (K w.params).In h -> h.Ns mainGlobals mg -> mg d.name = some (.ref fa) ->
   ∃ fd:FuncData,(∀ (s:Shared) (u:Value),BindsTo s fd ⟨[u],[]⟩ [(x,u)]) /\
    ∀ base:Heap,(K w.params).In base -> base.Ns mainGlobals mg -> base.NoDigits -> FnOk l.prog w (K w.params) mg base (CX w) k fa fd [x] (sp w))
  (hsp:∀ (w:World) (H:Hp) (a:Addr) (ns:List Int),ns.length <= n -> Only H -> SqL (K w.params) H a (ns.map V.int) -> sp w [.ref a] H (fun v _=>v = .bl true) fun _ _ _=>False)
  (hCX:∀ (w:World) (H:Hp) (s:Shared) (e:Value) (s':Shared),CX w [] H s (fun _ _ _=>False) e s' -> False) :
  PySem.W.WalkO q loose XP YP l.row.toRowW d [] (fun f vs=>PySem.call f vs):=by
 refine Att.attach_call hn hdf fun w s₀ s₁ mg mb fa o pm cd doc a vs ns G Y ho hd hcd hmg hobj hints hlen hg=>?_
 have KX:=hY w _ Y
 obtain ⟨fd,hb,hF⟩:=F w mg fa _ KX G.T.g hmg
 exact law_callN KX G.T.g G.T.b G.T.builtins G.T.nolimit G.T.nodigits hg hobj hints (Nat.le_trans hlen hn2) hr hF hb (fun H hO hS=>hsp w H a ns hlen hO hS) fun H e s'=>hCX w H s₁ e s'
end L2
set_option maxRecDepth 100000
namespace L2
open PySem PySem.Spec PyProof.Rows PySem.W PySem.Calls
section
variable {X:Cx} {pos:Pos}
end
section
variable {A:AC} {X:Cx} {a b c:Expr} {pos:Pos}
def sPar3 (i j k:Nat) (t:TAD):TSD:=fun F rho n=>i < rho.length /\ j < rho.length /\ k < rho.length /\ t rho n fun es n1=>∃ d d' d2,es = [d,d',d2] /\ F.nx (((rho.set k (some d2)).set j (some d')).set i (some d)) n1
@[simp] theorem q_sPar3 {i j k t F rho n}:sPar3 i j k t F rho n = (i < rho.length /\ j < rho.length /\ k < rho.length /\ t rho n fun es n1=>∃ d d' d2,es = [d,d',d2] /\ F.nx (((rho.set k (some d2)).set j (some d')).set i (some d)) n1):=rfl
end
end L2
set_option maxRecDepth 100000
namespace L2.Srt
open PySem PyProof.Rows
def lab (ls:Array Nat) (i:Nat):Nat:=ls.getD i 0
structure Rule (prog:Program) (w:World) (A:Around) (s:Shared) (n:Nat) (item:Nat -> Keyed) (kd:SortKind) (r:Nat -> Nat -> Bool):Prop where
 tot:∀ a b,a < n -> b < n -> a ≠ b -> r a b = !r b a
 tr:∀ a b c,a < n -> b < n -> c < n -> r a b = true -> r b c = true -> r a c = true
 cmp:∀ a b,a < n -> b < n -> a ≠ b -> ∀ (E:Value -> Shared -> Prop) (Q:Bool -> Shared -> Prop),Q (r a b) s -> wpAny (model prog w) A (keyLt' kd (item a).1 (item b).1) Q E s
def Up (r:Nat -> Nat -> Bool) (ls:Array Nat) (k:Nat):Prop:=∀ i j,i < j -> j < k -> r (lab ls i) (lab ls j) = true
section
variable {n:Nat} {item:Nat -> Keyed} {kd:SortKind} {r:Nat -> Nat -> Bool} {ls:Array Nat} {t:SortSt}
theorem lab_get {i:Nat} (h:i < ls.size):ls[i]? = some (lab ls i):=by
 unfold lab
 rw [Array.getD_eq_getD_getElem?,Array.getElem?_eq_getElem h]; rfl
theorem lab_of_get {as:Array Nat} {k v:Nat} (h:as[k]? = some v):lab as k = v:=by
 unfold lab
 rw [Array.getD_eq_getD_getElem?,h]; rfl
theorem bub_lab {src d:Nat} (hs:src < ls.size) (hd:d <= src) {k:Nat} (hk:k < ls.size):lab (bubble ls src d) k = if k = src - d then lab ls src else if src - d < k /\ k <= src then lab ls (k - 1) else lab ls k:=by
 refine lab_of_get ?_
 rw [getElem?_bubble hs d hd k]
 split
 ·exact lab_get hs
 ·split
  ·exact lab_get (by lia)
  ·exact lab_get hk
theorem bub_map {src d:Nat} (hs:src < ls.size) (hd:d <= src):bubble (ls.map item) src d = (bubble ls src d).map item:=by
 refine Array.ext_getElem? fun k=>?_
 rw [getElem?_bubble (by simpa using hs) d hd k]
 simp only [Array.getElem?_map]
 rw [getElem?_bubble hs d hd k]
 split
 ·rfl
 ·split <;> rfl
theorem mir_lab {i j:Nat} (hj:j <= ls.size) {k:Nat} (hk:k < ls.size):lab (mirror ls i j ((j - i) / 2)) k = if i <= k /\ k < j then lab ls (i + j - 1 - k) else lab ls k:=by
 refine lab_of_get ?_
 rw [getElem?_mirror_all hj k]
 split
 ·exact lab_get (by lia)
 ·exact lab_get hk
theorem mir_map {i j:Nat} (hj:j <= ls.size):mirror (ls.map item) i j ((j - i) / 2) = (mirror ls i j ((j - i) / 2)).map item:=by
 refine Array.ext_getElem? fun k=>?_
 rw [getElem?_mirror_all (by simpa using hj) k]
 simp only [Array.getElem?_map]
 rw [getElem?_mirror_all hj k]
 split <;> rfl
end
end L2.Srt
set_option maxRecDepth 100000
namespace L2.Srt
open PySem PyProof.Rows
def gallop':Bool -> Keyed -> Array Keyed -> Nat -> Nat -> Nat -> StateT SortSt Sem (Option Nat):=sortPriv% PySem.Builtin.gallop
def setMinGallop':Nat -> StateT SortSt Sem Unit:=sortPriv% PySem.Builtin.setMinGallop
def mergeLo':Array Keyed -> Array Keyed -> StateT SortSt Sem (Array Keyed):=sortPriv% PySem.Builtin.mergeLo
def mergeHi':Array Keyed -> Array Keyed -> StateT SortSt Sem (Array Keyed):=sortPriv% PySem.Builtin.mergeHi
abbrev setGal (st:SortSt) (g:Nat):SortSt:=SortSt.mk' (kindOf st) (arrOf st) (pendingOf st) g (failedOf st)
theorem setMinGallop'_eq (g:Nat):setMinGallop' g = modify fun s=>setGal s g:=rfl
def beyond' (left:Bool) (key:Keyed) (arr:Array Keyed) (base i:Nat):StateT SortSt Sem (Option Bool):=do
 let x <- elem' arr (base + i)
 if left then lt' x key else return (<- lt' key x).map (!·)
theorem gallop'_eq (left:Bool) (key:Keyed) (arr:Array Keyed) (base n hint:Nat):gallop' left key arr base n hint = (do
 let mut lastofs:=0
 let mut ofs:=1
 let mut lo:=0
 let mut hi:=0
 let some right <- beyond' left key arr base hint | return none
 if right then
  let maxofs:=n - hint
  for _ in [0:n] do
   if ofs >= maxofs then break
   let some more <- beyond' left key arr base (hint + ofs) | return none
   if !more then break
   lastofs:=ofs
   ofs:=2 * ofs + 1
  lo:=hint + lastofs + 1
  hi:=hint + min ofs maxofs
 else
  let maxofs:=hint + 1
  for _ in [0:n] do
   if ofs >= maxofs then break
   let some found <- beyond' left key arr base (hint - ofs) | return none
   if found then break
   lastofs:=ofs
   ofs:=2 * ofs + 1
  lo:=hint + 1 - min ofs maxofs
  hi:=hint - lastofs
 for _ in [0:n] do
  if lo >= hi then break
  let m:=lo + (hi - lo) / 2
  let some more <- beyond' left key arr base m | return none
  if more then lo:=m + 1 else hi:=m
 return some hi):=rfl
theorem mergeAt'_eq (i:Nat):mergeAt' i = (do
 let s <- get
 let (some (sa,na,power),some (sb,nb,_)):=((pendingOf s)[i]?,(pendingOf s)[i + 1]?) | unsupported "internal:list.sort.pending"
 set (setPending s (((pendingOf s).setIfInBounds i (sa,na + nb,power)).eraseIdxIfInBounds (i + 1)))
 let some k <- gallop' false (<- elem' (arrOf s) sb) (arrOf s) sa na 0 | return false
 let (sa,na):=(sa + k,na - k)
 if na == 0 then return true
 let some nb <- gallop' true (<- elem' (arrOf s) (sa + na - 1)) (arrOf s) sb nb (nb - 1) | return false
 if nb == 0 then return true
 let x:=(arrOf s).extract sa sb
 let y:=(arrOf s).extract sb (sb + nb)
 let merged <- if na <= nb then mergeLo' x y else mergeHi' x y
 modify fun s=>setArr s (merged.toList.zipIdx.foldl (fun a (p,j)=>a.setIfInBounds (sa + j) p) (arrOf s))
 return (failedOf (<- get)).isNone):=rfl
def srch (left:Bool) (key:Keyed) (arr:Array Keyed) (base n lo0 hi0:Nat):StateT SortSt Sem (Option Nat):=do
 let mut lo:=lo0
 let mut hi:=hi0
 for _ in [0:n] do
  if lo >= hi then break
  let m:=lo + (hi - lo) / 2
  let some more <- beyond' left key arr base m | return none
  if more then lo:=m + 1 else hi:=m
 return some hi
def tailAsc (lo n0 nrem:Nat):StateT SortSt Sem (Option Nat):=do
 let mut n:=n0
 reverseSlice' lo (lo + n)
 for _ in [n:nrem] do
  let some smaller <- ltAt' (lo + n) (lo + n - 1) | return none
  if smaller then break
  n:=n + 1
 return some n
def descRest (lo n0 nrem:Nat):StateT SortSt Sem (Option Nat):=do
 let mut n:=n0
 rule "list.sort.descending-run"
 n:=n + 1
 let mut neq:=0
 for _ in [n:nrem] do
  let some smaller <- ltAt' (lo + n) (lo + n - 1) | return none
  if smaller then
   if neq > 0 then reverseSlice' (lo + n - (neq + 1)) (lo + n)
   neq:=0
  else
   let some larger <- ltAt' (lo + n - 1) (lo + n) | return none
   if larger then break
   neq:=neq + 1
  n:=n + 1
 if neq > 0 then reverseSlice' (lo + n - (neq + 1)) (lo + n)
 reverseSlice' lo (lo + n)
 for _ in [n:nrem] do
  let some smaller <- ltAt' (lo + n) (lo + n - 1) | return none
  if smaller then break
  n:=n + 1
 return some n
end L2.Srt
set_option maxRecDepth 100000
namespace L2.Srt
open PySem PyProof.Rows
section
variable {prog:Program} {w:World} {A:Around} {E:Value -> Shared -> Prop} {s:Shared} {t:SortSt}
section
variable {left:Bool} {key:Keyed} {arr:Array Keyed} {base m hint:Nat} {by':Nat -> Bool}
theorem srch_ok {lo hi:Nat} (hm:hi <= m) (hlo:lo <= hi)
  (hby:∀ i,i < m -> ∀ Q:Option Bool -> SortSt -> Prop,Q (some (by' i)) t -> wpS (model prog w) A E s (beyond' left key arr base i) Q t)
  (anti:∀ i j,i <= j -> j < m -> by' j = true -> by' i = true) (no:∀ i j,i <= j -> j < m -> by' i = false -> by' j = false)
  (h1:∀ i,i < lo -> by' i = true) (h2:∀ i,hi <= i -> i < m -> by' i = false) {Q:Option Nat -> SortSt -> Prop}
  (q:∀ k,k <= m -> (∀ i,i < k -> by' i = true) -> (∀ i,k <= i -> i < m -> by' i = false) -> Q (some k) t) :
  wpS (model prog w) A E s (srch left key arr base m lo hi) Q t:=by
 unfold srch
 refine wpS_bind (wpS_mono (wpS_forRange (fun x c t'=>t' = t /\ ∃ l h,c = (none,l,h) /\ l <= h /\ h <= m /\ h - l <= m - x /\ (∀ i,i < l -> by' i = true) /\ ∀ i,h <= i -> i < m -> by' i = false)
  (Q:=fun c t'=>t' = t /\ ∃ l,c = (none,l,l) /\ l <= m /\ (∀ i,i < l -> by' i = true) /\ ∀ i,l <= i -> i < m -> by' i = false) ?_ ?_ ⟨rfl,lo,hi,rfl,hlo,hm,by lia,h1,h2⟩) ?_)
 ·rintro x c t' _ hx ⟨rfl, l, h, rfl, g1, g2, g3, g4, g5⟩
  dsimp only
  split
  ·rename_i hd
   obtain rfl:l = h:=by lia
   exact wpS_pure ⟨rfl,l,rfl,g2,g4,g5⟩
  ·rename_i hd
   refine wpS_bind (hby _ (by lia) _ ?_)
   cases z:by' (l + (h - l) / 2)
   ·exact wpS_pure ⟨rfl,l,_,rfl,by lia,by lia,by lia,g4,fun i i1 i2=>no _ i i1 i2 z⟩
   ·exact wpS_pure ⟨rfl,_,h,rfl,by lia,by lia,by lia,fun i i1=>anti i _ (by lia) (by lia) z,g5⟩
 ·rintro c t' ⟨rfl, l, h, rfl, g1, g2, g3, g4, g5⟩
  obtain rfl:l = h:=by lia
  exact ⟨rfl,l,rfl,g2,g4,g5⟩
 ·rintro c t' ⟨rfl, l, rfl, g1, g2, g3⟩
  exact wpS_pure (q l g1 g2 g3)
theorem gal (h:hint < m)
  (hby:∀ i,i < m -> ∀ Q:Option Bool -> SortSt -> Prop,Q (some (by' i)) t -> wpS (model prog w) A E s (beyond' left key arr base i) Q t)
  (anti:∀ i j,i <= j -> j < m -> by' j = true -> by' i = true) {Q:Option Nat -> SortSt -> Prop}
  (q:∀ k,k <= m -> (∀ i,i < k -> by' i = true) -> (∀ i,k <= i -> i < m -> by' i = false) -> Q (some k) t) :
  wpS (model prog w) A E s (gallop' left key arr base m hint) Q t:=by
 rw [gallop'_eq]
 refine wpS_bind (hby hint h _ ?_)
 have no:∀ i j,i <= j -> j < m -> by' i = false -> by' j = false:=fun i j h1 h2 h3=>by
  cases z:by' j with
  | false=>rfl
  | true=>rw [anti i j h1 h2 z] at h3; cases h3
 cases z:by' hint
 ·simp only [Bool.false_eq_true, if_false]
  refine wpS_bind (wpS_mono (wpS_forRange (fun x c t'=>t' = t /\ ∃ la ofs,c = (none,la,ofs) /\ la < ofs /\ x + 1 <= ofs /\ la <= hint /\ by' (hint - la) = false)
   (Q:=fun c t'=>t' = t /\ ∃ la ofs,c = (none,la,ofs) /\ la < ofs /\ la <= hint /\ by' (hint - la) = false /\ (ofs <= hint -> by' (hint - ofs) = true)) ?_ ?_ ⟨rfl,0,1,rfl,by lia,by lia,by lia,z⟩) ?_)
  ·rintro x c t' _ hx ⟨rfl, la, ofs, rfl, g1, g2, g3, g4⟩
   dsimp only
   split
   ·exact wpS_pure ⟨rfl,la,ofs,rfl,g1,g3,g4,fun h=>by lia⟩
   ·rename_i hd
    refine wpS_bind (hby _ (by lia) _ ?_)
    cases z2:by' (hint - ofs)
    ·exact wpS_pure ⟨rfl,ofs,_,rfl,by lia,by lia,by lia,z2⟩
    ·exact wpS_pure ⟨rfl,la,ofs,rfl,g1,g3,g4,fun _=>z2⟩
  ·rintro c t' ⟨rfl, la, ofs, rfl, g1, g2, g3, g4⟩
   exact ⟨rfl,la,ofs,rfl,g1,g3,g4,fun h=>by lia⟩
  ·rintro c t' ⟨rfl, la, ofs, rfl, g1, g3, g4, g5⟩
   show wpS (model prog w) A E s (srch left key arr base m (hint + 1 - min ofs (hint + 1)) (hint - la)) Q t'
   refine srch_ok (by lia) (by lia) hby anti no (fun i hi=>?_) (fun i i1 i2=>no _ i i1 i2 g4) q
   exact anti i (hint - ofs) (by lia) (by lia) (g5 (by lia))
 ·simp only [if_true]
  refine wpS_bind (wpS_mono (wpS_forRange (fun x c t'=>t' = t /\ ∃ la ofs,c = (none,la,ofs) /\ la < ofs /\ x + 1 <= ofs /\ hint + la < m /\ by' (hint + la) = true)
   (Q:=fun c t'=>t' = t /\ ∃ la ofs,c = (none,la,ofs) /\ la < ofs /\ hint + la < m /\ by' (hint + la) = true /\ (hint + ofs < m -> by' (hint + ofs) = false)) ?_ ?_ ⟨rfl,0,1,rfl,by lia,by lia,by lia,z⟩) ?_)
  ·rintro x c t' _ hx ⟨rfl, la, ofs, rfl, g1, g2, g3, g4⟩
   dsimp only
   split
   ·exact wpS_pure ⟨rfl,la,ofs,rfl,g1,g3,g4,fun h=>by lia⟩
   ·rename_i hd
    refine wpS_bind (hby _ (by lia) _ ?_)
    cases z2:by' (hint + ofs)
    ·exact wpS_pure ⟨rfl,la,ofs,rfl,g1,g3,g4,fun _=>z2⟩
    ·exact wpS_pure ⟨rfl,ofs,_,rfl,by lia,by lia,by lia,z2⟩
  ·rintro c t' ⟨rfl, la, ofs, rfl, g1, g2, g3, g4⟩
   exact ⟨rfl,la,ofs,rfl,g1,g3,g4,fun h=>by lia⟩
  ·rintro c t' ⟨rfl, la, ofs, rfl, g1, g3, g4, g5⟩
   show wpS (model prog w) A E s (srch left key arr base m (hint + la + 1) (hint + min ofs (m - hint))) Q t'
   refine srch_ok (by lia) (by lia) hby anti no (fun i hi=>anti i _ (by lia) (by lia) g4) (fun i i1 i2=>?_) q
   exact no (hint + ofs) i (by lia) i2 (g5 (by lia))
end
end
end L2.Srt
set_option maxRecDepth 100000
namespace L2.Srt
open PySem PyProof.Rows
structure WRule (prog:Program) (w:World) (A:Around) (s:Shared) (n:Nat) (item:Nat -> Keyed) (kd:SortKind) (r:Nat -> Nat -> Bool):Prop where
 asy:∀ a b,a < n -> b < n -> r a b = true -> r b a = false
 tr:∀ a b c,a < n -> b < n -> c < n -> r b a = false -> r c b = false -> r c a = false
 cmp:∀ a b,a < n -> b < n -> a ≠ b -> ∀ (E:Value -> Shared -> Prop) (Q:Bool -> Shared -> Prop),Q (r a b) s -> wpAny (model prog w) A (keyLt' kd (item a).1 (item b).1) Q E s
structure MI (le:Nat -> Nat -> Prop) (all O la lb:List Nat):Prop where
 perm:(O ++ (la ++ lb)).Perm all
 up:O.Pairwise le
 a:∀ o ∈ O,∀ x ∈ la,le o x
 b:∀ o ∈ O,∀ y ∈ lb,le o y
 sa:la.Pairwise le
 sb:lb.Pairwise le
variable {le:Nat -> Nat -> Prop} {all O la lb u:List Nat}
theorem MI.takeA (h:MI le all O (u ++ la) lb) (hu:∀ x ∈ u,∀ y ∈ lb,le x y):MI le all (O ++ u) la lb:=by
 have s1:=List.pairwise_append.mp h.sa
 refine ⟨by simpa [List.append_assoc] using h.perm,List.pairwise_append.mpr ⟨h.up,s1.1,fun o ho x hx=>h.a o ho x (by simp [hx])⟩,fun o ho x hx=>?_,fun o ho y hy=>?_,s1.2.1,h.sb⟩
 ·rcases List.mem_append.mp ho with ho | ho
  ·exact h.a o ho x (by simp [hx])
  ·exact s1.2.2 o ho x hx
 ·rcases List.mem_append.mp ho with ho | ho
  ·exact h.b o ho y hy
  ·exact hu o ho y hy
theorem MI.swap (h:MI le all O la lb):MI le all O lb la:=⟨((List.perm_append_comm).append_left O).trans h.perm,h.up,h.b,h.a,h.sb,h.sa⟩
theorem MI.takeB (h:MI le all O la (u ++ lb)) (hu:∀ x ∈ u,∀ y ∈ la,le x y):MI le all (O ++ u) la lb:=(h.swap.takeA hu).swap
theorem MI.endA (h:MI le all O la lb) (hu:∀ x ∈ la,∀ y ∈ lb,le x y):(O ++ la ++ lb).Perm all /\ (O ++ la ++ lb).Pairwise le:=by
 have h1:MI le all (O ++ la) [] lb:=MI.takeA (by rw [List.append_nil]; exact h) hu
 exact ⟨by simpa using h1.perm,List.pairwise_append.mpr ⟨h1.up,h1.sb,h1.b⟩⟩
theorem MI.endB (h:MI le all O la lb) (hu:∀ x ∈ lb,∀ y ∈ la,le x y):(O ++ lb ++ la).Perm all /\ (O ++ lb ++ la).Pairwise le:=h.swap.endA hu
section
variable {prog:Program} {w:World} {A:Around} {E:Value -> Shared -> Prop} {s:Shared} {t:SortSt} {n:Nat} {item:Nat -> Keyed} {kd:SortKind} {r:Nat -> Nat -> Bool}
theorem lt_lab (R:WRule prog w A s n item kd r) (hk:kindOf t = kd) {a b:Nat} (ha:a < n) (hb:b < n) (h:a ≠ b) {Q:Option Bool -> SortSt -> Prop} (q:Q (some (r a b)) t):wpS (model prog w) A E s (lt' (item a) (item b)) Q t:=by
 rw [lt'_eq]
 refine wpS_bind (wpS_get (wpS_bind (wpS_lift (wpAny_attempt ?_))))
 rw [hk]
 exact R.cmp a b ha hb h _ _ ⟨rfl,wpS_pure q⟩
theorem elem_lab {ks:Array Nat} {i:Nat} (h:i < ks.size) {Q:Keyed -> SortSt -> Prop} (q:Q (item (lab ks i)) t):wpS (model prog w) A E s (elem' (ks.map item) i) Q t:=by
 rw [elem'_eq,Array.getElem?_map,lab_get h]
 exact wpS_pure q
theorem byd (R:WRule prog w A s n item kd r) (hk:kindOf t = kd) {ks:Array Nat} {left:Bool} {c base i:Nat} (hc:c < n) (hi:base + i < ks.size) (hl:lab ks (base + i) < n) (hn:c ≠ lab ks (base + i)) {Q:Option Bool -> SortSt -> Prop}
  (q:Q (some (if left then r (lab ks (base + i)) c else !r c (lab ks (base + i)))) t):wpS (model prog w) A E s (beyond' left (item c) (ks.map item) base i) Q t:=by
 unfold beyond'
 refine wpS_bind (elem_lab hi ?_)
 cases left
 ·simp only [Bool.false_eq_true, if_false] at q ⊢
  exact wpS_bind (lt_lab R hk hc hl hn (wpS_pure q))
 ·simp only [if_true] at q ⊢
  exact lt_lab R hk hl hc (fun e=>hn e.symm) q
structure Same (t t':SortSt):Prop where
 arr:arrOf t' = arrOf t
 kd:kindOf t' = kindOf t
 pend:pendingOf t' = pendingOf t
 ok:failedOf t' = failedOf t
theorem Same.rfl':Same t t:=⟨rfl,rfl,rfl,rfl⟩
theorem Same.gal {t':SortSt} (h:Same t t') (g:Nat):Same t (setGal t' g):=⟨h.arr,h.kd,h.pend,h.ok⟩
structure Two (n:Nat) (r:Nat -> Nat -> Bool) (la lb:Array Nat):Prop where
 an:∀ x ∈ la.toList,x < n
 bn:∀ x ∈ lb.toList,x < n
 un:∀ x ∈ la.toList,∀ y ∈ lb.toList,x ≠ y
 au:la.toList.Pairwise fun x y=>r y x = false
 bu:lb.toList.Pairwise fun x y=>r y x = false
structure ML (item:Nat -> Keyed) (r:Nat -> Nat -> Bool) (la lb:Array Nat) (out:Array Keyed) (ia ib:Nat):Prop where
 o:∃ O:Array Nat,out = O.map item /\ MI (fun x y=>r y x = false) (la.toList ++ lb.toList) O.toList (la.toList.drop ia) (lb.toList.drop ib)
def Good (item:Nat -> Keyed) (r:Nat -> Nat -> Bool) (la lb:Array Nat) (out:Array Keyed):Prop:=∃ M:Array Nat,out = M.map item /\ M.toList.Perm (la.toList ++ lb.toList) /\ M.toList.Pairwise fun x y=>r y x = false
theorem mem_drop {ks:Array Nat} {k x:Nat}:x ∈ ks.toList.drop k ↔ ∃ i,k <= i /\ i < ks.size /\ x = lab ks i:=by
 rw [List.mem_iff_getElem?]
 constructor
 ·rintro ⟨i, h⟩
  rw [List.getElem?_drop,Array.getElem?_toList] at h
  have hi:k + i < ks.size:=by
   rcases Nat.lt_or_ge (k + i) ks.size with g | g
   ·exact g
   ·rw [Array.getElem?_eq_none g] at h; cases h
  rw [lab_get hi] at h
  exact ⟨k + i,by lia,hi,(Option.some.inj h).symm⟩
 ·rintro ⟨i, h1, h2, rfl⟩
  exact ⟨i - k,by rw [List.getElem?_drop,Array.getElem?_toList,show k + (i - k) = i by lia,lab_get h2]⟩
theorem mem_lab {ks:Array Nat} {i:Nat} (h:i < ks.size):lab ks i ∈ ks.toList:=by
 have:=mem_drop.mpr ⟨i,Nat.zero_le _,h,rfl⟩
 rwa [List.drop_zero] at this
theorem pw_lab {ks:Array Nat} (h:ks.toList.Pairwise fun x y=>r y x = false) {i j:Nat} (hij:i < j) (hj:j < ks.size):r (lab ks j) (lab ks i) = false:=by
 have hi':i < ks.toList.length:=by rw [Array.length_toList]; lia
 have hj':j < ks.toList.length:=by rw [Array.length_toList]; exact hj
 have:=List.pairwise_iff_getElem.mp h i j hi' hj' hij
 have e1:=lab_get (ls:=ks) (i:=i) (by lia)
 have e2:=lab_get (ls:=ks) hj
 rw [<- Array.getElem?_toList,List.getElem?_eq_getElem hi'] at e1
 rw [<- Array.getElem?_toList,List.getElem?_eq_getElem hj'] at e2
 rw [<- Option.some.inj e1,<- Option.some.inj e2]
 exact this
theorem drop_split {ks:Array Nat} {i k:Nat} (h:i + k <= ks.size):ks.toList.drop i = (ks.extract i (i + k)).toList ++ ks.toList.drop (i + k):=by
 rw [Array.toList_extract,List.extract_eq_take_drop,show i + k - i = k by lia,<- List.drop_drop,List.take_append_drop]
theorem drop_one {ks:Array Nat} {i:Nat} (h:i < ks.size):ks.toList.drop i = [lab ks i] ++ ks.toList.drop (i + 1):=by
 have hi':i < ks.toList.length:=by rw [Array.length_toList]; exact h
 have e1:=lab_get (ls:=ks) h
 rw [<- Array.getElem?_toList,List.getElem?_eq_getElem hi'] at e1
 rw [List.drop_eq_getElem_cons hi',Option.some.inj e1]
 rfl
theorem mem_ext {ks:Array Nat} {i k x:Nat} (h:i + k <= ks.size) (hx:x ∈ (ks.extract i (i + k)).toList):∃ j,j < k /\ x = lab ks (i + j):=by
 rw [Array.toList_extract,List.extract_eq_take_drop,show i + k - i = k by lia,List.mem_iff_getElem?] at hx
 obtain ⟨j,hj⟩:=hx
 rw [List.getElem?_take] at hj
 split at hj
 ·rename_i g
  rw [List.getElem?_drop,Array.getElem?_toList,lab_get (by lia)] at hj
  exact ⟨j,g,(Option.some.inj hj).symm⟩
 ·cases hj
section
variable {la lb:Array Nat} {out:Array Keyed} {ia ib:Nat}
theorem Two.al (T:Two n r la lb) {i:Nat} (h:i < la.size):lab la i < n:=T.an _ (mem_lab h)
theorem Two.bl (T:Two n r la lb) {i:Nat} (h:i < lb.size):lab lb i < n:=T.bn _ (mem_lab h)
theorem Two.ne (T:Two n r la lb) {i j:Nat} (h:i < la.size) (g:j < lb.size):lab la i ≠ lab lb j:=T.un _ (mem_lab h) _ (mem_lab g)
theorem Two.symm (T:Two n r la lb):Two n r lb la:=⟨T.bn,T.an,fun x hx y hy e=>T.un y hy x hx e.symm,T.bu,T.au⟩
theorem Two.hd (R:WRule prog w A s n item kd r) (T:Two n r la lb) {c:Nat} (hc:c < n) (h:ia < la.size) (g:r (lab la ia) c = false):∀ x ∈ la.toList.drop ia,r x c = false:=fun x hx=>by
 obtain ⟨i,h1,h2,rfl⟩:=mem_drop.mp hx
 by_cases e:i = ia
 ·rw [e]; exact g
 ·exact R.tr _ _ _ hc (T.al h) (T.al h2) g (pw_lab T.au (by lia) h2)
theorem ML.pushA (M:ML item r la lb out ia ib) (h:ia < la.size) (g:∀ y ∈ lb.toList.drop ib,r y (lab la ia) = false):ML item r la lb (out.push (item (lab la ia))) (ia + 1) ib:=by
 obtain ⟨O,rfl,m⟩:=M.o
 rw [drop_one h] at m
 refine ⟨O.push (lab la ia),by rw [Array.map_push],?_⟩
 rw [Array.toList_push]
 exact m.takeA fun x hx y hy=>by rw [List.mem_singleton.mp hx]; exact g y hy
theorem ML.pushB (M:ML item r la lb out ia ib) (h:ib < lb.size) (g:∀ y ∈ la.toList.drop ia,r y (lab lb ib) = false):ML item r la lb (out.push (item (lab lb ib))) ia (ib + 1):=by
 obtain ⟨O,rfl,m⟩:=M.o
 rw [drop_one h] at m
 refine ⟨O.push (lab lb ib),by rw [Array.map_push],?_⟩
 rw [Array.toList_push]
 exact m.takeB fun x hx y hy=>by rw [List.mem_singleton.mp hx]; exact g y hy
theorem ML.addA (M:ML item r la lb out ia ib) {k:Nat} (h:ia + k <= la.size) (g:∀ j,j < k -> ∀ y ∈ lb.toList.drop ib,r y (lab la (ia + j)) = false):ML item r la lb (out ++ (la.map item).extract ia (ia + k)) (ia + k) ib:=by
 obtain ⟨O,rfl,m⟩:=M.o
 rw [drop_split h] at m
 refine ⟨O ++ la.extract ia (ia + k),by rw [Array.map_append,Array.map_extract],?_⟩
 rw [Array.toList_append]
 exact m.takeA fun x hx y hy=>by obtain ⟨j,hj,rfl⟩:=mem_ext h hx; exact g j hj y hy
theorem ML.addB (M:ML item r la lb out ia ib) {k:Nat} (h:ib + k <= lb.size) (g:∀ j,j < k -> ∀ y ∈ la.toList.drop ia,r y (lab lb (ib + j)) = false):ML item r la lb (out ++ (lb.map item).extract ib (ib + k)) ia (ib + k):=by
 obtain ⟨O,rfl,m⟩:=M.o
 rw [drop_split h] at m
 refine ⟨O ++ lb.extract ib (ib + k),by rw [Array.map_append,Array.map_extract],?_⟩
 rw [Array.toList_append]
 exact m.takeB fun x hx y hy=>by obtain ⟨j,hj,rfl⟩:=mem_ext h hx; exact g j hj y hy
theorem ext_all {ks:Array Nat} {i:Nat}:(ks.extract i ks.size).toList = ks.toList.drop i:=by
 rw [Array.toList_extract,List.extract_eq_take_drop]
 exact List.take_of_length_le (by rw [List.length_drop,Array.length_toList]; exact Nat.le_refl _)
theorem ML.done (M:ML item r la lb out ia ib) (g:∀ x ∈ la.toList.drop ia,∀ y ∈ lb.toList.drop ib,r y x = false):Good item r la lb (out ++ (la.map item).extract ia la.size ++ (lb.map item).extract ib lb.size):=by
 obtain ⟨O,rfl,m⟩:=M.o
 obtain ⟨p1,p2⟩:=m.endA g
 refine ⟨O ++ la.extract ia la.size ++ lb.extract ib lb.size,by rw [Array.map_append,Array.map_append,Array.map_extract,Array.map_extract],?_,?_⟩
 ·rw [Array.toList_append,Array.toList_append,ext_all,ext_all]; exact p1
 ·rw [Array.toList_append,Array.toList_append,ext_all,ext_all]; exact p2
theorem ML.last (M:ML item r la lb out ia ib) (g:∀ x ∈ lb.toList.drop ib,∀ y ∈ la.toList.drop ia,r y x = false):Good item r la lb (out ++ (lb.map item).extract ib lb.size ++ (la.map item).extract ia la.size):=by
 obtain ⟨O,rfl,m⟩:=M.o
 obtain ⟨p1,p2⟩:=m.endB g
 refine ⟨O ++ lb.extract ib lb.size ++ la.extract ia la.size,by rw [Array.map_append,Array.map_append,Array.map_extract,Array.map_extract],?_,?_⟩
 ·rw [Array.toList_append,Array.toList_append,ext_all,ext_all]; exact p1
 ·rw [Array.toList_append,Array.toList_append,ext_all,ext_all]; exact p2
theorem ML.doneB (M:ML item r la lb out ia ib) (h:lb.size <= ib):Good item r la lb (out ++ (la.map item).extract ia la.size ++ (lb.map item).extract ib lb.size) :=
 M.done fun x _ y hy=>by obtain ⟨i,h1,h2,_⟩:=mem_drop.mp hy; lia
theorem ML.doneA (M:ML item r la lb out ia ib) (h:la.size <= ia):Good item r la lb (out ++ (la.map item).extract ia la.size ++ (lb.map item).extract ib lb.size) :=
 M.done fun x hx y _=>by obtain ⟨i,h1,h2,_⟩:=mem_drop.mp hx; lia
theorem ML.lastA (R:WRule prog w A s n item kd r) (T:Two n r la lb) (h2:∀ y ∈ lb.toList,r y (lab la (la.size - 1)) = true) (M:ML item r la lb out ia ib) (h:ia + 1 = la.size):Good item r la lb (out ++ (lb.map item).extract ib lb.size ++ (la.map item).extract ia la.size) :=
 M.last fun x hx y hy=>by
  obtain ⟨i,i1,i2,rfl⟩:=mem_drop.mp hx
  obtain ⟨j,j1,j2,rfl⟩:=mem_drop.mp hy
  obtain rfl:j = la.size - 1:=by lia
  exact R.asy _ _ (T.bl i2) (T.al j2) (h2 _ (mem_lab i2))
end
end
end L2.Srt
set_option maxRecDepth 100000
set_option maxHeartbeats 1000000
namespace L2.Srt
open PySem PyProof.Rows
abbrev Sn (γ:Type):=Option (Array Keyed) × γ
abbrev SM:=StateT SortSt Sem
abbrev Fn (γ:Type):=ForInStep (Sn γ)
abbrev Tn:=Array Keyed × Nat × Nat × Nat × Nat
abbrev Un:=Array Keyed × Nat × Nat × Nat × Nat × Nat
abbrev Vn:=Array Keyed × Nat × Nat × Nat
def fin' {γ:Type} (o:Array Keyed) (x:γ):SM (Fn γ):=(pure (ForInStep.done (some o,x)):SM _)
def brk' {γ:Type} (x:γ):SM (Fn γ):=(pure (ForInStep.done (none,x)):SM _)
def nxt' {γ:Type} (x:γ):SM (Fn γ):=(pure (ForInStep.yield (none,x)):SM _)
section
variable (a b:Array Keyed)
def eA (o:Array Keyed) (i j:Nat):Array Keyed:=o ++ a.extract i ++ b.extract j
def eB (o:Array Keyed) (i j:Nat):Array Keyed:=o ++ b.extract j ++ a.extract i
def l1a (g c d:Nat) (o:Array Keyed) (i j:Nat):SM (Fn Tn):=if (i + 1 == a.size) = true then fin' (eB a b o i j) (o,i,j,c,d) else if c >= g then brk' (o,i,j,c,d) else nxt' (o,i,j,c,d)
def l1b (g c d:Nat) (o:Array Keyed) (i j:Nat):SM (Fn Tn):=if (j == b.size) = true then fin' (eA a b o i j) (o,i,j,c,d) else if d >= g then brk' (o,i,j,c,d) else nxt' (o,i,j,c,d)
def l1 (g c d:Nat) (o:Array Keyed) (i j:Nat):SM (Fn Tn):=elem' b j >>= fun y=>elem' a i >>= fun x=>lt' y x >>= fun w=>match w with
 | some w=>if w = true then elem' b j >>= fun z=>l1b a b g 0 (d + 1) (o.push z) i (j + 1) else elem' a i >>= fun z=>l1a a b g (c + 1) 0 (o.push z) (i + 1) j
 | _=>fin' (eA a b o i j) (o,i,j,c,d)
def l4 (g c d:Nat) (o:Array Keyed) (i j:Nat):SM (Fn Un):=elem' a i >>= fun x=>if (i + 1 + 1 == a.size) = true then fin' (eB a b (o.push x) (i + 1) j) (o.push x,i + 1,j,g,c,d)
 else if (decide (c < 7) && decide (d < 7)) = true then brk' (o.push x,i + 1,j,g,c,d) else nxt' (o.push x,i + 1,j,g,c,d)
def l3b (g c d k:Nat) (o:Array Keyed) (i j:Nat):SM (Fn Un):=if k > 0 then
  if (j + k == b.size) = true then fin' (eA a b (o ++ b.extract j (j + k)) i (j + k)) (o ++ b.extract j (j + k),i,j + k,g,c,k) else l4 a b g c k (o ++ b.extract j (j + k)) i (j + k)
 else l4 a b g c k o i j
def l3 (g c d:Nat) (o:Array Keyed) (i j:Nat):SM (Fn Un):=elem' b j >>= fun y=>if (j + 1 == b.size) = true then fin' (eA a b (o.push y) i (j + 1)) (o.push y,i,j + 1,g,c,d)
 else elem' a i >>= fun x=>gallop' true x b (j + 1) (b.size - (j + 1)) 0 >>= fun k=>match k with
  | some k=>l3b a b g c d k (o.push y) i (j + 1)
  | _=>fin' (eA a b (o.push y) i (j + 1)) (o.push y,i,j + 1,g,c,d)
def l2b (g d k:Nat) (o:Array Keyed) (i j:Nat):SM (Fn Un):=if k > 0 then
  if (i + k + 1 == a.size) = true then fin' (eB a b (o ++ a.extract i (i + k)) (i + k) j) (o ++ a.extract i (i + k),i + k,j,g,k,d)
  else if (i + k == a.size) = true then fin' (eA a b (o ++ a.extract i (i + k)) (i + k) j) (o ++ a.extract i (i + k),i + k,j,g,k,d)
  else l3 a b g k d (o ++ a.extract i (i + k)) (i + k) j
 else l3 a b g k d o i j
def l2 (c d:Nat) (o:Array Keyed) (i j g:Nat):SM (Fn Un):=setMinGallop' g >>= fun _=>elem' b j >>= fun y=>gallop' false y a i (a.size - i) 0 >>= fun k=>match k with
 | some k=>l2b a b g d k o i j
 | _=>fin' (eA a b o i j) (o,i,j,g,c,d)
def l2u (u:Un):SM (Fn Un):=if u.2.2.2.1 > 1 then l2 a b u.2.2.2.2.1 u.2.2.2.2.2 u.1 u.2.1 u.2.2.1 (u.2.2.2.1 - 1) else l2 a b u.2.2.2.2.1 u.2.2.2.2.2 u.1 u.2.1 u.2.2.1 u.2.2.2.1
def l5 (s:Sn Un):SM (Fn Vn):=match s.1 with
 | some r=>fin' r (s.2.1,s.2.2.1,s.2.2.2.1,s.2.2.2.2.1)
 | none=>setMinGallop' (s.2.2.2.2.1 + 1) >>= fun _=>nxt' (s.2.1,s.2.2.1,s.2.2.2.1,s.2.2.2.2.1 + 1)
def l6 (g:Nat) (s:Sn Tn):SM (Fn Vn):=match s.1 with
 | some r=>fin' r (s.2.1,s.2.2.1,s.2.2.2.1,g)
 | none=>(rule "list.sort.gallop" : SM Unit) >>= fun _=>forIn [0:a.size + b.size] ((none,s.2.1,s.2.2.1,s.2.2.2.1,g + 1,s.2.2.2.2.1,s.2.2.2.2.2):Sn Un) (fun _ u=>l2u a b u.2) >>= fun u=>l5 u
def l1t (g:Nat) (s:Tn):SM (Fn Tn):=l1 a b g s.2.2.2.1 s.2.2.2.2 s.1 s.2.1 s.2.2.1
def l7 (v:Vn):SM (Fn Vn):=forIn [0:a.size + b.size] ((none,v.1,v.2.1,v.2.2.1,0,0):Sn Tn) (fun _ s=>l1t a b v.2.2.2 s.2) >>= fun s=>l6 a b v.2.2.2 s
def lEnd {γ:Type} (v:Sn γ):SM (Array Keyed):=match v.1 with
 | some r=>pure r
 | none=>unsupported "internal:list.sort.merge-bound"
def l8:SM (Array Keyed):=(rule "list.sort.merge-lo" : SM Unit) >>= fun _=>elem' b 0 >>= fun y=>if (1 == b.size) = true then pure (eA a b #[y] 0 1)
 else if (0 + 1 == a.size) = true then pure (eB a b #[y] 0 1)
 else get >>= fun st=>forIn [0:a.size + b.size] ((none,#[y],0,1,gallopOf st):Sn Vn) (fun _ v=>l7 a b v.2) >>= fun v=>lEnd v
theorem mergeLo'_eq2:mergeLo' a b = l8 a b:=by
 show bind _ _ = bind _ _
 congr 1; funext x; dsimp only
 congr 1; funext y
 by_cases e:(1 == b.size) = true
 ·rw [if_pos e,if_pos e]; rfl
 rw [if_neg e,if_neg e]
 by_cases e1:(0 + 1 == a.size) = true
 ·rw [if_pos e1,if_pos e1]; rfl
 rw [if_neg e1,if_neg e1]
 congr 1; funext st
 congr 1
 ·congr 1
  funext x v
  unfold l7
  congr 1
  funext s
  unfold l6
  cases s.1
  ·dsimp only
   congr 1; funext x
   congr 1
   funext u
   unfold l5
   cases u.1 <;> rfl
  ·rfl
 ·funext v
  unfold lEnd
  cases v.1 <;> rfl
end
section
variable {prog:Program} {w:World} {A:Around} {E:Value -> Shared -> Prop} {s:Shared} {t u:SortSt} {n:Nat} {item:Nat -> Keyed} {kd:SortKind} {r:Nat -> Nat -> Bool} {la lb:Array Nat} {N c d g i j k:Nat} {o:Array Keyed}
theorem wpS_ite {α:Type} {c:Prop} [Decidable c] {m1 m2:StateT SortSt Sem α} {Q:α -> SortSt -> Prop} (h1:c -> wpS (model prog w) A E s m1 Q t) (h2:¬c -> wpS (model prog w) A E s m2 Q t):wpS (model prog w) A E s (if c then m1 else m2) Q t:=by
 by_cases h:c
 ·rw [if_pos h]; exact h1 h
 ·rw [if_neg h]; exact h2 h
theorem beq_nat {a b:Nat} (h:(a == b) = true):a = b:=by simpa using h
theorem bne_nat {a b:Nat} (h:¬(a == b) = true):a ≠ b:=by simpa using h
theorem Same.tr {v:SortSt} (h:Same t u) (g:Same u v):Same t v:=⟨g.arr.trans h.arr,g.kd.trans h.kd,g.pend.trans h.pend,g.ok.trans h.ok⟩
section
variable {γ:Type} {P:Nat -> γ -> Prop} {G:Array Keyed -> Prop} {b:Prop}
structure Lq (P:Nat -> γ -> Prop) (G:Array Keyed -> Prop) (b:Prop) (Q:ForInStep (Sn γ) -> SortSt -> Prop) (N:Nat) (t:SortSt):Prop where
 ok:∀ o x u,Same t u -> G o -> Q (.done (some o,x)) u
 dn:b -> ∀ x u N',Same t u -> P N' x -> N' < N -> Q (.done (none,x)) u
 nx:∀ x u N',Same t u -> P N' x -> N' < N -> Q (.yield (none,x)) u
def Le (P:Nat -> γ -> Prop) (G:Array Keyed -> Prop) (b:Prop) (N:Nat) (v:Sn γ):Prop:=(∃ o,v.1 = some o /\ G o) \/ b /\ v.1 = none /\ ∃ N' < N,P N' v.2
theorem wp_fin {Q:ForInStep (Sn γ) -> SortSt -> Prop} {x:γ} (q:Lq P G b Q N t) (S:Same t u) (h:G o):wpS (model prog w) A E s (fin' o x) Q u:=wpS_pure (q.ok _ _ _ S h)
theorem wp_dn {Q:ForInStep (Sn γ) -> SortSt -> Prop} {x:γ} {N':Nat} {c:Prop} [Decidable c] (q:Lq P G True Q N t) (S:Same t u) (h:P N' x) (hN:N' < N):wpS (model prog w) A E s (if c then brk' x else nxt' x) Q u :=
 wpS_ite (fun _=>wpS_pure (q.dn trivial _ _ _ S h hN)) fun _=>wpS_pure (q.nx _ _ _ S h hN)
theorem lo_loop (b:Prop) {m:Nat} {f:γ -> SM (Fn γ)} {v:γ} {Q:Sn γ -> SortSt -> Prop} (hP:∀ N x,P N x -> 1 <= N) (hm:N < m) (hv:P N v)
  (hf:∀ v u Q N',Same t u -> P N' v -> N' <= N -> Lq P G b Q N' u -> wpS (model prog w) A E s (f v) Q u) (ne:∀ v u,Same t u -> Le P G b N v -> Q v u) :
  wpS (model prog w) A E s (forIn [0:m] ((none,v):Sn γ) fun _ v=>f v.2) Q t:=by
 refine wpS_mono (wpS_forRange (fun x v u=>Same t u /\ v.1 = none /\ ∃ N',N' + x <= N /\ P N' v.2) (Q:=fun v u=>Same t u /\ Le P G b N v) ?_ ?_ ⟨.rfl',rfl,N,Nat.le_refl _,hv⟩) fun v u h=>ne v u h.1 h.2
 ·rintro x v u _ hx ⟨S, _, N', hN', h⟩
  have e1:N' <= N:=by lia
  have e3:∀ y,y < N' -> y + (x + 1) <= N:=fun y h=>by lia
  exact hf v.2 u _ N' S h e1 ⟨fun o x u' h G=>⟨S.tr h,.inl ⟨o,rfl,G⟩⟩,fun hb x u' N2 h p hl=>⟨S.tr h,.inr ⟨hb,rfl,N2,Nat.lt_of_lt_of_le hl e1,p⟩⟩,fun x u' N2 h p hl=>⟨S.tr h,rfl,N2,e3 _ hl,p⟩⟩
 ·rintro v u ⟨S, _, N', hN', h⟩
  have:=hP _ _ h
  exfalso; lia
end
structure Lo (prog:Program) (w:World) (A:Around) (s:Shared) (n:Nat) (item:Nat -> Keyed) (kd:SortKind) (r:Nat -> Nat -> Bool) (la lb:Array Nat):Prop where
 R:WRule prog w A s n item kd r
 T:Two n r la lb
 h1:r (lab lb 0) (lab la 0) = true
 h2:∀ y ∈ lb.toList,r y (lab la (la.size - 1)) = true
structure PL (item:Nat -> Keyed) (r:Nat -> Nat -> Bool) (la lb:Array Nat) (N:Nat) (o:Array Keyed) (i j:Nat):Prop where
 M:ML item r la lb o i j
 hi:i + 1 < la.size
 hj:j < lb.size
 hN:la.size - i + (lb.size - j) <= N
abbrev PLx {β:Type} (item:Nat -> Keyed) (r:Nat -> Nat -> Bool) (la lb:Array Nat) (N:Nat) (x:Array Keyed × Nat × Nat × β):Prop:=PL item r la lb N x.1 x.2.1 x.2.2.1
abbrev QL {β:Type} (item:Nat -> Keyed) (r:Nat -> Nat -> Bool) (la lb:Array Nat) (b:Prop) (Q:ForInStep (Sn (Array Keyed × Nat × Nat × β)) -> SortSt -> Prop) (N:Nat) (t:SortSt):Prop:=Lq (PLx item r la lb) (Good item r la lb) b Q N t
theorem PL.pos {β:Type} (N:Nat) (x:Array Keyed × Nat × Nat × β) (h:PLx item r la lb N x):1 <= N:=by have:=h.hN; have:=h.hi; lia
theorem PL.i0 (p:PL item r la lb N o i j):i < la.size:=Nat.lt_of_succ_lt p.hi
theorem ML.eA (M:ML item r la lb o i j) (h:lb.size <= j \/ la.size <= i):Good item r la lb (eA (la.map item) (lb.map item) o i j):=by
 unfold Srt.eA
 rw [Array.size_map,Array.size_map]
 exact h.elim M.doneB M.doneA
variable (L:Lo prog w A s n item kd r la lb)
include L
theorem Lo.fa (hi:i < la.size) (hj:j < lb.size) (g:r (lab lb j) (lab la i) = false):∀ y ∈ lb.toList.drop j,r y (lab la i) = false:=L.T.symm.hd L.R (L.T.al hi) hj g
theorem Lo.fb (hi:i < la.size) (hj:j < lb.size) (g:r (lab lb j) (lab la i) = true):∀ y ∈ la.toList.drop i,r y (lab lb j) = false:=L.T.hd L.R (L.T.bl hj) hi (L.R.asy _ _ (L.T.bl hj) (L.T.al hi) g)
theorem Lo.eB (M:ML item r la lb o i j) (h:i + 1 = la.size):Good item r la lb (eB (la.map item) (lb.map item) o i j):=by
 unfold Srt.eB
 rw [Array.size_map,Array.size_map]
 exact M.lastA L.R L.T L.h2 h
section
variable {Q:ForInStep (Sn Tn) -> SortSt -> Prop}
theorem Lo.l1 (hk:kindOf t = kd) (q:QL item r la lb True Q N t) (p:PL item r la lb N o i j):wpS (model prog w) A E s (l1 (la.map item) (lb.map item) g c d o i j) Q t:=by
 obtain ⟨M,hi,hj,hN⟩:=p
 have hi0:=Nat.lt_of_succ_lt hi
 refine wpS_bind (elem_lab hj (wpS_bind (elem_lab hi0 (wpS_bind (lt_lab L.R hk (L.T.bl hj) (L.T.al hi0) (fun e=>L.T.ne hi0 hj e.symm) ?_)))))
 cases z:r (lab lb j) (lab la i)
 ·refine wpS_bind (elem_lab hi0 (wpS_ite (fun e => wp_fin q .rfl' (L.eB (M.pushA hi0 (L.fa hi0 hj z)) ?_)) fun e => wp_dn q .rfl' (N' := la.size - (i + 1) + (lb.size - j)) ⟨M.pushA hi0 (L.fa hi0 hj z), ?_, hj, Nat.le_refl _⟩ ?_))
  ·rw [Array.size_map] at e; exact beq_nat e
  ·rw [Array.size_map] at e; have:=bne_nat e; exact Nat.lt_of_le_of_ne hi this
  ·lia
 ·refine wpS_bind (elem_lab hj (wpS_ite (fun e => wp_fin q .rfl' ((M.pushB hj (L.fb hi0 hj z)).eA (.inl ?_))) fun e => wp_dn q .rfl' (N' := la.size - i + (lb.size - (j + 1))) ⟨M.pushB hj (L.fb hi0 hj z), hi, ?_, Nat.le_refl _⟩ ?_))
  ·rw [Array.size_map] at e; exact Nat.le_of_eq (beq_nat e).symm
  ·rw [Array.size_map] at e; exact Nat.lt_of_le_of_ne hj (bne_nat e)
  ·lia
end
section
variable {Q:ForInStep (Sn Un) -> SortSt -> Prop} (q:QL item r la lb True Q N t) (S:Same t u)
include q S
theorem Lo.l4 (p:PL item r la lb N o i j) (z:r (lab lb j) (lab la i) = false):wpS (model prog w) A E s (l4 (la.map item) (lb.map item) g c d o i j) Q u:=by
 obtain ⟨M,hi,hj,hN⟩:=p
 have hi0:=Nat.lt_of_succ_lt hi
 refine wpS_bind (elem_lab hi0 ?_)
 have M1:=M.pushA hi0 (L.fa hi0 hj z)
 rw [Array.size_map]
 exact wpS_ite (fun e=>wp_fin q S (L.eB M1 (beq_nat e))) fun e=>wp_dn q S (N':=la.size - (i + 1) + (lb.size - j)) ⟨M1,Nat.lt_of_le_of_ne hi (bne_nat e),hj,Nat.le_refl _⟩ (by lia)
theorem Lo.l3b (p:PL item r la lb N o i j) (hk:k <= lb.size - j) (g5:∀ i',i' < k -> r (lab lb (j + i')) (lab la i) = true) (g6:∀ i',k <= i' -> i' < lb.size - j -> r (lab lb (j + i')) (lab la i) = false) :
  wpS (model prog w) A E s (l3b (la.map item) (lb.map item) g c d k o i j) Q u:=by
 obtain ⟨M,hi,hj,hN⟩:=p
 refine wpS_ite (fun _=>?_) fun _=>L.l4 q S ⟨M,hi,hj,hN⟩ (g6 0 (by lia) (by lia))
 have hk':j + k <= lb.size:=by lia
 have M1:=M.addB hk' fun i' h=>L.fb (Nat.lt_of_succ_lt hi) (j:=j + i') (by lia) (g5 i' h)
 rw [Array.size_map]
 refine wpS_ite (fun e=>wp_fin q S (M1.eA (.inl (Nat.le_of_eq (beq_nat e).symm)))) fun e=>?_
 have hj':j + k < lb.size:=Nat.lt_of_le_of_ne hk' (bne_nat e)
 exact L.l4 q S ⟨M1,hi,hj',by lia⟩ (g6 k (Nat.le_refl _) (by lia))
theorem Lo.l3 (hk:kindOf t = kd) (p:PL item r la lb N o i j) (z:r (lab lb j) (lab la i) = true):wpS (model prog w) A E s (l3 (la.map item) (lb.map item) g c d o i j) Q u:=by
 obtain ⟨M,hi,hj,hN⟩:=p
 have hi0:=Nat.lt_of_succ_lt hi
 refine wpS_bind (elem_lab hj ?_)
 have M1:=M.pushB hj (L.fb hi0 hj z)
 rw [Array.size_map]
 refine wpS_ite (fun e=>wp_fin q S (M1.eA (.inl (Nat.le_of_eq (beq_nat e).symm)))) fun e=>?_
 have hj':j + 1 < lb.size:=Nat.lt_of_le_of_ne hj (bne_nat e)
 refine wpS_bind (elem_lab hi0 (wpS_bind (gal (m:=lb.size - (j + 1)) (by':=fun i'=>r (lab lb (j + 1 + i')) (lab la i)) (Nat.sub_pos_of_lt hj') (fun i' h Q qq=>?_) (fun i' j' h1 h2 hb=>?_) fun k h g5 g6=>L.l3b q S ⟨M1,hi,hj',by lia⟩ h g5 g6)))
 ·exact byd L.R (S.kd.trans hk) (L.T.al hi0) (by lia) (L.T.bl (by lia)) (L.T.ne hi0 (by lia)) (by simpa using qq)
 ·by_cases e : i' = j'
  ·rw [e]; exact hb
  ·cases z : r (lab lb (j + 1 + i')) (lab la i) with
   | true=>rfl
   | false=>exact absurd hb (by rw [L.R.tr _ _ _ (L.T.al hi0) (L.T.bl (i:=j + 1 + i') (by lia)) (L.T.bl (i:=j + 1 + j') (by lia)) z (pw_lab L.T.bu (by lia) (by lia))]; exact Bool.false_ne_true)
theorem Lo.l2b (hk:kindOf t = kd) (p:PL item r la lb N o i j) (hk':k <= la.size - i) (g1:∀ i',i' < k -> r (lab lb j) (lab la (i + i')) = false) (g2:∀ i',k <= i' -> i' < la.size - i -> r (lab lb j) (lab la (i + i')) = true) :
  wpS (model prog w) A E s (l2b (la.map item) (lb.map item) g d k o i j) Q u:=by
 obtain ⟨M,hi,hj,hN⟩:=p
 refine wpS_ite (fun _=>?_) fun _=>L.l3 q S hk ⟨M,hi,hj,hN⟩ (g2 0 (by lia) (by lia))
 have hk2:i + k <= la.size:=by lia
 have M1:=M.addA hk2 fun i' h=>L.fa (i:=i + i') (by lia) hj (g1 i' h)
 rw [Array.size_map]
 refine wpS_ite (fun e=>wp_fin q S (L.eB M1 (beq_nat e))) fun e=>wpS_ite (fun e=>wp_fin q S (M1.eA (.inr (Nat.le_of_eq (beq_nat e).symm)))) fun e2=>?_
 have h3:i + k + 1 < la.size:=by have:=bne_nat e; have:=bne_nat e2; lia
 exact L.l3 q S hk ⟨M1,h3,hj,by lia⟩ (g2 k (Nat.le_refl _) (by lia))
theorem Lo.l2 (hk:kindOf t = kd) (p:PL item r la lb N o i j):wpS (model prog w) A E s (l2 (la.map item) (lb.map item) c d o i j g) Q u:=by
 have hi:=p.i0; have hj:=p.hj
 unfold Srt.l2
 rw [setMinGallop'_eq,Array.size_map]
 refine wpS_bind (wpS_modify ?_)
 have S4:=S.gal g
 generalize setGal u g = u at S4 ⊢
 refine wpS_bind (elem_lab hj (wpS_bind (gal (m:=la.size - i) (by':=fun i'=>!r (lab lb j) (lab la (i + i'))) (Nat.sub_pos_of_lt hi) (fun i' h Q qq=>?_) (fun i' j' h1 h2 hb=>?_) fun k h g5 g6=>L.l2b q S4 hk p h (fun i' h=>by simpa using g5 i' h) fun i' h h'=>by simpa using g6 i' h h')))
 ·exact byd L.R (S4.kd.trans hk) (L.T.bl hj) (by lia) (L.T.al (by lia)) (fun e=>L.T.ne (by lia) hj e.symm) (by simpa using qq)
 ·by_cases e : i' = j'
  ·rw [e]; exact hb
  ·show (!r (lab lb j) (lab la (i + i'))) = true
   rw [L.R.tr _ _ _ (L.T.al (i:=i + i') (by lia)) (L.T.al (i:=i + j') (by lia)) (L.T.bl hj) (pw_lab L.T.au (by lia) (by lia)) (by simpa using hb)]; rfl
end
theorem Lo.l7 {b:Prop} {Q:ForInStep (Sn Vn) -> SortSt -> Prop} {v:Vn} (hk:kindOf t = kd) (q:QL item r la lb b Q N t) (p:PLx item r la lb N v) (hN:N < la.size + lb.size):wpS (model prog w) A E s (l7 (la.map item) (lb.map item) v) Q t:=by
 unfold Srt.l7
 rw [Array.size_map,Array.size_map]
 refine wpS_bind (lo_loop (P:=PLx item r la lb) (G:=Good item r la lb) True PL.pos hN p (fun v u Q N' S h _ q'=>L.l1 (S.kd.trans hk) q' h) fun v u S h=>?_)
 unfold l6
 rcases h with ⟨o,e,G⟩ | ⟨_,e,N',h,h'⟩
 ·rw [e]; exact wp_fin q S G
 rw [e,Array.size_map,Array.size_map]
 refine wpS_bind (wpS_lift (wpAny_rule ⟨rfl,wpS_bind (lo_loop (P:=PLx item r la lb) (G:=Good item r la lb) True PL.pos (Nat.lt_trans h hN) h' (fun v u' Q N' S' h' _ q'=>?_) fun v u' S' h2=>?_)⟩))
 ·have hk' := (S.tr S').kd.trans hk
  exact wpS_ite (fun _=>L.l2 q' .rfl' hk' h') fun _=>L.l2 q' .rfl' hk' h'
 ·unfold l5
  rcases h2 with ⟨o,e,G⟩ | ⟨_,e,N2,h2,h3⟩
  ·rw [e]; exact wp_fin q (S.tr S') G
  ·rw [e, setMinGallop'_eq]
   exact wpS_bind (wpS_modify (wpS_pure (q.nx _ _ _ ((S.tr S').gal _) h3 (Nat.lt_trans h2 h))))
theorem mlo (hk:kindOf t = kd) (ha:1 <= la.size) (hb:1 <= lb.size) {Q:Array Keyed -> SortSt -> Prop} (q:∀ out t',Same t t' -> Good item r la lb out -> Q out t'):wpS (model prog w) A E s (mergeLo' (la.map item) (lb.map item)) Q t:=by
 rw [mergeLo'_eq2]
 unfold l8
 refine wpS_bind (wpS_lift (wpAny_rule ⟨rfl,wpS_bind (elem_lab hb ?_)⟩))
 rw [Array.size_map,Array.size_map]
 have M0:ML item r la lb #[] 0 0:=⟨#[],by simp,by
  simp only [List.drop_zero]
  exact ⟨List.Perm.refl _,.nil,by simp,by simp,L.T.au,L.T.bu⟩⟩
 have M1:=M0.pushB hb (L.fb ha hb L.h1)
 change ML item r la lb #[item (lab lb 0)] 0 1 at M1
 generalize #[item (lab lb 0)] = o at M1 ⊢
 refine wpS_ite (fun e=>wpS_pure (q _ _ .rfl' (M1.eA (.inl (Nat.le_of_eq (beq_nat e).symm))))) fun e=>?_
 refine wpS_ite (fun e=>wpS_pure (q _ _ .rfl' (L.eB M1 (beq_nat e)))) fun e1=>?_
 have i2:1 < lb.size:=Nat.lt_of_le_of_ne hb (bne_nat e)
 have hN:la.size - 0 + (lb.size - 1) < la.size + lb.size:=by lia
 refine wpS_bind (wpS_get (wpS_bind (lo_loop (P:=PLx item r la lb) (G:=Good item r la lb) False PL.pos hN ⟨M1,Nat.lt_of_le_of_ne ha (bne_nat e1),i2,Nat.le_refl _⟩ (fun v u Q N' S h h' q'=>L.l7 (S.kd.trans hk) q' h (Nat.lt_of_le_of_lt h' hN)) fun v u S h=>?_)))
 rcases h with ⟨o,e,G⟩ | ⟨f,_⟩
 ·unfold lEnd; rw [e]; exact wpS_pure (q _ _ S G)
 ·exact f.elim
end
end L2.Srt
set_option maxRecDepth 100000
set_option maxHeartbeats 1000000
namespace L2.Srt
open PySem PyProof.Rows
section
variable (a b:Array Keyed)
abbrev Th:=Nat × Nat × Array Keyed × Nat × Nat
abbrev Uh:=Nat × Nat × Array Keyed × Nat × Nat × Nat
abbrev Vh:=Nat × Nat × Array Keyed × Nat
def hA (o:Array Keyed) (i j:Nat):Array Keyed:=a.extract 0 i ++ b.extract 0 j ++ o.reverse
def hB (o:Array Keyed) (i j:Nat):Array Keyed:=b.extract 0 j ++ a.extract 0 i ++ o.reverse
def h1 (g c d:Nat) (o:Array Keyed) (i j:Nat):SM (Fn Th):=elem' b (j - 1) >>= fun y=>elem' a (i - 1) >>= fun x=>lt' y x >>= fun w=>match w with
 | some w=>if w = true then elem' a (i - 1) >>= fun z=>if (i - 1 == 0) = true then fin' (hA a b (o.push z) (i - 1) j) (i - 1,j,o.push z,c + 1,0) else if c + 1 >= g then brk' (i - 1,j,o.push z,c + 1,0) else nxt' (i - 1,j,o.push z,c + 1,0)
  else elem' b (j - 1) >>= fun z=>if (j - 1 == 1) = true then fin' (hB a b (o.push z) i (j - 1)) (i,j - 1,o.push z,0,d + 1) else if d + 1 >= g then brk' (i,j - 1,o.push z,0,d + 1) else nxt' (i,j - 1,o.push z,0,d + 1)
 | _=>fin' (hA a b o i j) (i,j,o,c,d)
def h4 (g c d:Nat) (o:Array Keyed) (i j:Nat):SM (Fn Uh):=elem' a (i - 1) >>= fun x=>if (i - 1 == 0) = true then fin' (hA a b (o.push x) (i - 1) j) (i - 1,j,o.push x,g,c,d)
 else if (decide (c < 7) && decide (d < 7)) = true then brk' (i - 1,j,o.push x,g,c,d) else nxt' (i - 1,j,o.push x,g,c,d)
def h3b (g c k:Nat) (o:Array Keyed) (i j:Nat):SM (Fn Uh):=if j - k > 0 then
  if (k == 1) = true then fin' (hB a b (o ++ (b.extract k j).reverse) i k) (i,k,o ++ (b.extract k j).reverse,g,c,j - k)
  else if (k == 0) = true then fin' (hA a b (o ++ (b.extract k j).reverse) i k) (i,k,o ++ (b.extract k j).reverse,g,c,j - k) else h4 a b g c (j - k) (o ++ (b.extract k j).reverse) i k
 else h4 a b g c (j - k) o i j
def h3 (g c d:Nat) (o:Array Keyed) (i j:Nat):SM (Fn Uh):=elem' b (j - 1) >>= fun y=>if (j - 1 == 1) = true then fin' (hB a b (o.push y) i (j - 1)) (i,j - 1,o.push y,g,c,d)
 else elem' a (i - 1) >>= fun x=>gallop' true x b 0 (j - 1) (j - 1 - 1) >>= fun k=>match k with
  | some k=>h3b a b g c k (o.push y) i (j - 1)
  | _=>fin' (hA a b (o.push y) i (j - 1)) (i,j - 1,o.push y,g,c,d)
def h2b (g d k:Nat) (o:Array Keyed) (i j:Nat):SM (Fn Uh):=if i - k > 0 then
  if (k == 0) = true then fin' (hA a b (o ++ (a.extract k i).reverse) k j) (k,j,o ++ (a.extract k i).reverse,g,i - k,d) else h3 a b g (i - k) d (o ++ (a.extract k i).reverse) k j
 else h3 a b g (i - k) d o i j
def h2 (c d:Nat) (o:Array Keyed) (i j g:Nat):SM (Fn Uh):=setMinGallop' g >>= fun _=>elem' b (j - 1) >>= fun y=>gallop' false y a 0 i (i - 1) >>= fun k=>match k with
 | some k=>h2b a b g d k o i j
 | _=>fin' (hA a b o i j) (i,j,o,g,c,d)
def h2u (u:Uh):SM (Fn Uh):=if u.2.2.2.1 > 1 then h2 a b u.2.2.2.2.1 u.2.2.2.2.2 u.2.2.1 u.1 u.2.1 (u.2.2.2.1 - 1) else h2 a b u.2.2.2.2.1 u.2.2.2.2.2 u.2.2.1 u.1 u.2.1 u.2.2.2.1
def h5 (s:Sn Uh):SM (Fn Vh):=match s.1 with
 | some r=>fin' r (s.2.1,s.2.2.1,s.2.2.2.1,s.2.2.2.2.1)
 | none=>setMinGallop' (s.2.2.2.2.1 + 1) >>= fun _=>nxt' (s.2.1,s.2.2.1,s.2.2.2.1,s.2.2.2.2.1 + 1)
def h6 (g:Nat) (s:Sn Th):SM (Fn Vh):=match s.1 with
 | some r=>fin' r (s.2.1,s.2.2.1,s.2.2.2.1,g)
 | none=>(rule "list.sort.gallop" : SM Unit) >>= fun _=>forIn [0:a.size + b.size] ((none,s.2.1,s.2.2.1,s.2.2.2.1,g + 1,s.2.2.2.2.1,s.2.2.2.2.2):Sn Uh) (fun _ u=>h2u a b u.2) >>= fun u=>h5 u
def h1t (g:Nat) (s:Th):SM (Fn Th):=h1 a b g s.2.2.2.1 s.2.2.2.2 s.2.2.1 s.1 s.2.1
def h7 (v:Vh):SM (Fn Vh):=forIn [0:a.size + b.size] ((none,v.1,v.2.1,v.2.2.1,0,0):Sn Th) (fun _ s=>h1t a b v.2.2.2 s.2) >>= fun s=>h6 a b v.2.2.2 s
def h8:SM (Array Keyed):=(rule "list.sort.merge-hi" : SM Unit) >>= fun _=>elem' a (a.size - 1) >>= fun y=>if (a.size - 1 == 0) = true then pure (hA a b #[y] (a.size - 1) b.size)
 else if (b.size == 1) = true then pure (hB a b #[y] (a.size - 1) b.size)
 else get >>= fun st=>forIn [0:a.size + b.size] ((none,a.size - 1,b.size,#[y],gallopOf st):Sn Vh) (fun _ v=>h7 a b v.2) >>= fun v=>lEnd v
theorem mergeHi'_eq2:mergeHi' a b = h8 a b:=by
 show bind _ _ = bind _ _
 congr 1; funext x; dsimp only
 congr 1; funext y
 by_cases e:(a.size - 1 == 0) = true
 ·rw [if_pos e,if_pos e]; rfl
 rw [if_neg e,if_neg e]
 by_cases e1:(b.size == 1) = true
 ·rw [if_pos e1,if_pos e1]; rfl
 rw [if_neg e1,if_neg e1]
 congr 1; funext st
 congr 1
 ·congr 1
  funext x v
  unfold h7
  congr 1
  funext s
  unfold h6
  cases s.1
  ·dsimp only
   congr 1; funext x
   congr 1
   funext u
   unfold h5
   cases u.1 <;> rfl
  ·rfl
 ·funext v
  unfold lEnd
  cases v.1 <;> rfl
end
section
variable {prog:Program} {w:World} {A:Around} {E:Value -> Shared -> Prop} {s:Shared} {t:SortSt} {n:Nat} {u:SortSt} {item:Nat -> Keyed} {kd:SortKind} {r:Nat -> Nat -> Bool}
structure MH (item:Nat -> Keyed) (r:Nat -> Nat -> Bool) (la lb:Array Nat) (out:Array Keyed) (na nb:Nat):Prop where
 o:∃ O:Array Nat,out = O.map item /\ MI (fun x y=>r x y = false) (la.toList ++ lb.toList) O.toList (la.toList.take na).reverse (lb.toList.take nb).reverse
theorem mem_take {ks:Array Nat} {k x:Nat} (hk:k <= ks.size):x ∈ ks.toList.take k ↔ ∃ i,i < k /\ x = lab ks i:=by
 rw [List.mem_iff_getElem?]
 constructor
 ·rintro ⟨i, h⟩
  rw [List.getElem?_take] at h
  split at h
  ·rename_i g
   rw [Array.getElem?_toList,lab_get (by lia)] at h
   exact ⟨i,g,(Option.some.inj h).symm⟩
  ·cases h
 ·rintro ⟨i, h1, rfl⟩
  exact ⟨i,by rw [List.getElem?_take,if_pos h1,Array.getElem?_toList,lab_get (by lia)]⟩
theorem take_one {ks:Array Nat} {k:Nat} (h1:1 <= k) (hk:k <= ks.size):(ks.toList.take k).reverse = [lab ks (k - 1)] ++ (ks.toList.take (k - 1)).reverse:=by
 obtain ⟨m,rfl⟩:∃ m,k = m + 1:=⟨k - 1,by lia⟩
 rw [Nat.add_sub_cancel,List.take_add_one,Array.getElem?_toList,lab_get (by lia),List.reverse_append]
 rfl
theorem take_cut {ks:Array Nat} {j k:Nat} (h:j <= k):(ks.toList.take k).reverse = (ks.extract j k).reverse.toList ++ (ks.toList.take j).reverse:=by
 rw [Array.toList_reverse,Array.toList_extract,List.extract_eq_take_drop,<- List.reverse_append]
 have e:(ks.toList.take k).take j = ks.toList.take j:=by rw [List.take_take,Nat.min_eq_left h]
 rw [<- List.drop_take,<- e,List.take_append_drop]
theorem mem_cut {ks:Array Nat} {j k x:Nat} (hk:k <= ks.size) (hx:x ∈ (ks.extract j k).reverse.toList):∃ i,j <= i /\ i < k /\ x = lab ks i:=by
 rw [Array.toList_reverse,List.mem_reverse,Array.toList_extract,List.extract_eq_take_drop,<- List.drop_take,List.mem_iff_getElem?] at hx
 obtain ⟨i,hi⟩:=hx
 rw [List.getElem?_drop,List.getElem?_take] at hi
 split at hi
 ·rename_i g
  rw [Array.getElem?_toList,lab_get (by lia)] at hi
  exact ⟨j + i,by lia,g,(Option.some.inj hi).symm⟩
 ·cases hi
section
variable {la lb:Array Nat} {out:Array Keyed} {na nb:Nat}
theorem Two.hh (R:WRule prog w A s n item kd r) (T:Two n r la lb) {c m:Nat} (hc:c < n) (h:m < la.size) (g:r c (lab la m) = false):∀ i,i <= m -> r c (lab la i) = false:=fun i hi=>by
 by_cases e:i = m
 ·rw [e]; exact g
 ·exact R.tr _ _ _ (T.al (by lia)) (T.al h) hc (pw_lab T.au (by lia) h) g
theorem MH.pushA (M:MH item r la lb out na nb) (h:1 <= na) (ha:na <= la.size) (hb:nb <= lb.size) (g:∀ j,j < nb -> r (lab la (na - 1)) (lab lb j) = false):MH item r la lb (out.push (item (lab la (na - 1)))) (na - 1) nb:=by
 obtain ⟨O,rfl,m⟩:=M.o
 rw [take_one h ha] at m
 refine ⟨O.push (lab la (na - 1)),by rw [Array.map_push],?_⟩
 rw [Array.toList_push]
 exact m.takeA fun x hx y hy=>by
  obtain ⟨j,hj,rfl⟩:=(mem_take hb).mp (List.mem_reverse.mp hy)
  rw [List.mem_singleton.mp hx]; exact g j hj
theorem MH.pushB (M:MH item r la lb out na nb) (h:1 <= nb) (ha:na <= la.size) (hb:nb <= lb.size) (g:∀ j,j < na -> r (lab lb (nb - 1)) (lab la j) = false):MH item r la lb (out.push (item (lab lb (nb - 1)))) na (nb - 1):=by
 obtain ⟨O,rfl,m⟩:=M.o
 rw [take_one h hb] at m
 refine ⟨O.push (lab lb (nb - 1)),by rw [Array.map_push],?_⟩
 rw [Array.toList_push]
 exact m.takeB fun x hx y hy=>by
  obtain ⟨j,hj,rfl⟩:=(mem_take ha).mp (List.mem_reverse.mp hy)
  rw [List.mem_singleton.mp hx]; exact g j hj
theorem MH.addA (M:MH item r la lb out na nb) {k:Nat} (h:k <= na) (ha:na <= la.size) (hb:nb <= lb.size) (g:∀ i,k <= i -> i < na -> ∀ j,j < nb -> r (lab la i) (lab lb j) = false):MH item r la lb (out ++ ((la.map item).extract k na).reverse) k nb:=by
 obtain ⟨O,rfl,m⟩:=M.o
 rw [take_cut h] at m
 refine ⟨O ++ (la.extract k na).reverse,by rw [Array.map_append,Array.map_reverse,Array.map_extract],?_⟩
 rw [Array.toList_append]
 exact m.takeA fun x hx y hy=>by
  obtain ⟨j,hj,rfl⟩:=(mem_take hb).mp (List.mem_reverse.mp hy)
  obtain ⟨i,i1,i2,rfl⟩:=mem_cut ha hx
  exact g i i1 i2 j hj
theorem MH.addB (M:MH item r la lb out na nb) {k:Nat} (h:k <= nb) (ha:na <= la.size) (hb:nb <= lb.size) (g:∀ i,k <= i -> i < nb -> ∀ j,j < na -> r (lab lb i) (lab la j) = false):MH item r la lb (out ++ ((lb.map item).extract k nb).reverse) na k:=by
 obtain ⟨O,rfl,m⟩:=M.o
 rw [take_cut h] at m
 refine ⟨O ++ (lb.extract k nb).reverse,by rw [Array.map_append,Array.map_reverse,Array.map_extract],?_⟩
 rw [Array.toList_append]
 exact m.takeB fun x hx y hy=>by
  obtain ⟨j,hj,rfl⟩:=(mem_take ha).mp (List.mem_reverse.mp hy)
  obtain ⟨i,i1,i2,rfl⟩:=mem_cut hb hx
  exact g i i1 i2 j hj
theorem ext_fst {ks:Array Nat} {i:Nat}:(ks.extract 0 i).toList = ks.toList.take i:=by
 rw [Array.toList_extract,List.extract_eq_take_drop,List.drop_zero,Nat.sub_zero]
theorem MH.done (M:MH item r la lb out na nb) (ha:na <= la.size) (hb:nb <= lb.size) (g:∀ i,i < nb -> ∀ j,j < na -> r (lab lb i) (lab la j) = false):Good item r la lb ((la.map item).extract 0 na ++ (lb.map item).extract 0 nb ++ out.reverse):=by
 obtain ⟨O,rfl,m⟩:=M.o
 obtain ⟨p1,p2⟩:=m.endB fun x hx y hy=>by
  obtain ⟨i,hi,rfl⟩:=(mem_take hb).mp (List.mem_reverse.mp hx)
  obtain ⟨j,hj,rfl⟩:=(mem_take ha).mp (List.mem_reverse.mp hy)
  exact g i hi j hj
 have e:(la.extract 0 na ++ lb.extract 0 nb ++ O.reverse).toList = (O.toList ++ (lb.toList.take nb).reverse ++ (la.toList.take na).reverse).reverse:=by
  rw [Array.toList_append,Array.toList_append,ext_fst,ext_fst,Array.toList_reverse,List.reverse_append,List.reverse_append,List.reverse_reverse,List.reverse_reverse,List.append_assoc]
 refine ⟨la.extract 0 na ++ lb.extract 0 nb ++ O.reverse,by rw [Array.map_append,Array.map_append,Array.map_extract,Array.map_extract,Array.map_reverse],?_,?_⟩
 ·rw [e]; exact (List.reverse_perm _).trans p1
 ·rw [e,List.pairwise_reverse]; exact p2
theorem MH.first (M:MH item r la lb out na nb) (ha:na <= la.size) (hb:nb <= lb.size) (g:∀ j,j < na -> ∀ i,i < nb -> r (lab la j) (lab lb i) = false):Good item r la lb ((lb.map item).extract 0 nb ++ (la.map item).extract 0 na ++ out.reverse):=by
 obtain ⟨O,rfl,m⟩:=M.o
 obtain ⟨p1,p2⟩:=m.endA fun x hx y hy=>by
  obtain ⟨i,hi,rfl⟩:=(mem_take ha).mp (List.mem_reverse.mp hx)
  obtain ⟨j,hj,rfl⟩:=(mem_take hb).mp (List.mem_reverse.mp hy)
  exact g i hi j hj
 have e:(lb.extract 0 nb ++ la.extract 0 na ++ O.reverse).toList = (O.toList ++ (la.toList.take na).reverse ++ (lb.toList.take nb).reverse).reverse:=by
  rw [Array.toList_append,Array.toList_append,ext_fst,ext_fst,Array.toList_reverse,List.reverse_append,List.reverse_append,List.reverse_reverse,List.reverse_reverse,List.append_assoc]
 refine ⟨lb.extract 0 nb ++ la.extract 0 na ++ O.reverse,by rw [Array.map_append,Array.map_append,Array.map_extract,Array.map_extract,Array.map_reverse],?_,?_⟩
 ·rw [e]; exact (List.reverse_perm _).trans p1
 ·rw [e,List.pairwise_reverse]; exact p2
end
section
variable {N c d g i j k:Nat} {o:Array Keyed} {la lb:Array Nat}
structure PH (item:Nat -> Keyed) (r:Nat -> Nat -> Bool) (la lb:Array Nat) (N:Nat) (o:Array Keyed) (i j:Nat):Prop where
 M:MH item r la lb o i j
 i1:1 <= i
 i2:i <= la.size
 j1:2 <= j
 j2:j <= lb.size
 hN:i + j <= N
abbrev PHx {β:Type} (item:Nat -> Keyed) (r:Nat -> Nat -> Bool) (la lb:Array Nat) (N:Nat) (x:Nat × Nat × Array Keyed × β):Prop:=PH item r la lb N x.2.2.1 x.1 x.2.1
abbrev QH {β:Type} (item:Nat -> Keyed) (r:Nat -> Nat -> Bool) (la lb:Array Nat) (b:Prop) (Q:Fn (Nat × Nat × Array Keyed × β) -> SortSt -> Prop) (N:Nat) (t:SortSt):Prop:=Lq (PHx item r la lb) (Good item r la lb) b Q N t
theorem PH.pos {β:Type} (N:Nat) (x:Nat × Nat × Array Keyed × β) (h:PHx item r la lb N x):1 <= N:=Nat.le_trans h.i1 (Nat.le_trans (Nat.le_add_right _ _) h.hN)
theorem sub1 {i m:Nat} (h:1 <= i) (h':i <= m):i - 1 < m:=by lia
theorem sub2 {j:Nat} (h:2 <= j):1 <= j:=by lia
theorem sub3 {i:Nat} (h:1 <= i) (e:¬(i - 1 == 0) = true):1 <= i - 1:=by have:=bne_nat e; lia
theorem sub4 {j:Nat} (h:2 <= j) (e:¬(j - 1 == 1) = true):2 <= j - 1:=by have:=bne_nat e; lia
theorem lt3 {m i:Nat} (h:1 <= i) (hm:m < i):m < i - 1 + 1:=by lia
variable (L:Lo prog w A s n item kd r la lb)
include L
theorem Lo.hA (hi:i < la.size) (hj:j < lb.size) (g:r (lab lb j) (lab la i) = true):∀ m,m < j + 1 -> r (lab la i) (lab lb m) = false:=fun m hm=>L.T.symm.hh L.R (L.T.al hi) hj (L.R.asy _ _ (L.T.bl hj) (L.T.al hi) g) m (Nat.le_of_lt_succ hm)
theorem Lo.hB (hi:i < la.size) (hj:j < lb.size) (g:r (lab lb j) (lab la i) = false):∀ m,m < i + 1 -> r (lab lb j) (lab la m) = false:=fun m hm=>L.T.hh L.R (L.T.bl hj) hi g m (Nat.le_of_lt_succ hm)
theorem Lo.fst (M:MH item r la lb o i j) (hi:i <= la.size) (hb:1 <= lb.size) (hj:j = 1):Good item r la lb (Srt.hB (la.map item) (lb.map item) o i j):=M.first hi (by lia) fun j' hj' i' hi'=>by
 obtain rfl:i' = 0:=by lia
 have z:r (lab la 0) (lab lb 0) = false:=L.R.asy _ _ (L.T.bl hb) (L.T.al (by lia)) L.h1
 by_cases e:j' = 0
 ·rw [e]; exact z
 ·exact L.R.tr _ _ _ (L.T.bl hb) (L.T.al (i:=0) (by lia)) (L.T.al (by lia)) z (pw_lab L.T.au (by lia) (by lia))
omit L in
theorem MH.don (M:MH item r la lb o i j) (hi:i <= la.size) (hj:j <= lb.size) (h:i = 0 \/ j = 0):Good item r la lb (Srt.hA (la.map item) (lb.map item) o i j):=M.done hi hj fun i' hi' j' hj'=>by lia
theorem Lo.pA (p:PH item r la lb N o i j) (z:r (lab lb (j - 1)) (lab la (i - 1)) = true):MH item r la lb (o.push (item (lab la (i - 1)))) (i - 1) j:=p.M.pushA p.i1 p.i2 p.j2 fun m hm=>L.hA (sub1 p.i1 p.i2) (sub1 (sub2 p.j1) p.j2) z m (lt3 (sub2 p.j1) hm)
theorem Lo.pB (p:PH item r la lb N o i j) (z:∀ m,m < i -> r (lab lb (j - 1)) (lab la m) = false):MH item r la lb (o.push (item (lab lb (j - 1)))) i (j - 1):=p.M.pushB (sub2 p.j1) p.i2 p.j2 z
theorem Lo.h1' {Q:Fn Th -> SortSt -> Prop} (hk:kindOf t = kd) (q:QH item r la lb True Q N t) (p:PH item r la lb N o i j):wpS (model prog w) A E s (Srt.h1 (la.map item) (lb.map item) g c d o i j) Q t:=by
 have hi:=sub1 p.i1 p.i2; have hj:=sub1 (sub2 p.j1) p.j2; have hN:=p.hN; have i1:=p.i1; have j1:=p.j1
 refine wpS_bind (elem_lab hj (wpS_bind (elem_lab hi (wpS_bind (lt_lab L.R hk (L.T.bl hj) (L.T.al hi) (fun e=>L.T.ne hi hj e.symm) ?_)))))
 cases z:r (lab lb (j - 1)) (lab la (i - 1))
 ·have M := L.pB p fun m hm => L.hB hi hj z m (lt3 i1 hm)
  exact wpS_bind (elem_lab hj (wpS_ite (fun e=>wp_fin q .rfl' (L.fst M p.i2 (Nat.le_trans (sub2 j1) p.j2) (beq_nat e))) fun e=>wp_dn q .rfl' (N':=i + (j - 1)) ⟨M,i1,p.i2,sub4 j1 e,Nat.le_of_lt hj,Nat.le_refl _⟩ (by lia)))
 ·have M := L.pA p z
  exact wpS_bind (elem_lab hi (wpS_ite (fun e=>wp_fin q .rfl' (M.don (Nat.le_of_lt hi) p.j2 (.inl (beq_nat e)))) fun e=>wp_dn q .rfl' (N':=i - 1 + j) ⟨M,sub3 i1 e,Nat.le_of_lt hi,j1,p.j2,Nat.le_refl _⟩ (by lia)))
section
variable {Q:Fn Uh -> SortSt -> Prop} (q:QH item r la lb True Q N t) (S:Same t u)
include q S
theorem Lo.h4 (M:MH item r la lb o i j) (i1:1 <= i) (i2:i <= la.size) (j1:2 <= j) (j2:j <= lb.size) (hN:i + j <= N) (z:∀ m,m < j -> r (lab la (i - 1)) (lab lb m) = false):wpS (model prog w) A E s (h4 (la.map item) (lb.map item) g c d o i j) Q u:=by
 have hi:=sub1 i1 i2
 have M1:=M.pushA i1 i2 j2 z
 exact wpS_bind (elem_lab hi (wpS_ite (fun e=>wp_fin q S (M1.don (Nat.le_of_lt hi) j2 (.inl (beq_nat e)))) fun e=>wp_dn q S (N':=i - 1 + j) ⟨M1,sub3 i1 e,Nat.le_of_lt hi,j1,j2,Nat.le_refl _⟩ (by lia)))
theorem Lo.h3b (p:PH item r la lb N o i j) (hk:k <= j) (g5:∀ m,m < k -> r (lab lb m) (lab la (i - 1)) = true) (g6:∀ m,k <= m -> m < j -> r (lab lb m) (lab la (i - 1)) = false) :
  wpS (model prog w) A E s (h3b (la.map item) (lb.map item) g c k o i j) Q u:=by
 obtain ⟨M,i1,i2,j1,j2,hN⟩:=p
 have hi:=sub1 i1 i2
 have z:∀ m,m < k -> r (lab la (i - 1)) (lab lb m) = false:=fun m hm=>L.R.asy _ _ (L.T.bl (by lia)) (L.T.al hi) (g5 m hm)
 refine wpS_ite (fun _=>?_) fun e=>?_
 ·have M1 := M.addB hk i2 j2 fun m m1 m2 x hx => L.hB hi (by lia) (g6 m m1 m2) x (lt3 i1 hx)
  have kb:k <= lb.size:=Nat.le_trans hk j2
  exact wpS_ite (fun e=>wp_fin q S (L.fst M1 i2 (by lia) (beq_nat e))) fun e=>wpS_ite (fun e=>wp_fin q S (M1.don i2 kb (.inr (beq_nat e)))) fun e'=>L.h4 q S M1 i1 i2 (by have:=bne_nat e; have:=bne_nat e'; lia) kb (by lia) z
 ·obtain rfl : k = j := by lia
  exact L.h4 q S M i1 i2 j1 j2 hN z
theorem Lo.h3 (hk:kindOf t = kd) (p:PH item r la lb N o i j) (z:∀ m,m < i -> r (lab lb (j - 1)) (lab la m) = false):wpS (model prog w) A E s (h3 (la.map item) (lb.map item) g c d o i j) Q u:=by
 have hi:=sub1 p.i1 p.i2; have hj:=sub1 (sub2 p.j1) p.j2; have M1:=L.pB p z
 obtain ⟨M,i1,i2,j1,j2,hN⟩:=p
 refine wpS_bind (elem_lab hj (wpS_ite (fun e=>wp_fin q S (L.fst M1 i2 (by lia) (beq_nat e))) fun e=>?_))
 have j1':=sub4 j1 e
 refine wpS_bind (elem_lab hi (wpS_bind (gal (m:=j - 1) (by':=fun m=>r (lab lb (0 + m)) (lab la (i - 1))) (by lia) (fun m h Q qq=>?_) (fun m x h1 h2 hb=>?_) fun k h g5 g6=>L.h3b q S ⟨M1,i1,i2,j1',Nat.le_of_lt hj,by lia⟩ h (fun m h=>by have:=g5 m h; rwa [Nat.zero_add] at this) fun m h h'=>by have:=g6 m h h'; rwa [Nat.zero_add] at this)))
 ·exact byd L.R (S.kd.trans hk) (L.T.al hi) (by lia) (L.T.bl (by lia)) (L.T.ne hi (by lia)) (by simpa using qq)
 ·by_cases e : m = x
  ·rw [e]; exact hb
  ·cases z : r (lab lb (0 + m)) (lab la (i - 1)) with
   | true=>rfl
   | false=>exact absurd hb (by rw [L.R.tr _ _ _ (L.T.al hi) (L.T.bl (i:=0 + m) (by lia)) (L.T.bl (i:=0 + x) (by lia)) z (pw_lab L.T.bu (by lia) (by lia))]; exact Bool.false_ne_true)
theorem Lo.h2b (hk:kindOf t = kd) (p:PH item r la lb N o i j) (hk':k <= i) (g1:∀ m,m < k -> r (lab lb (j - 1)) (lab la m) = false) (g2:∀ m,k <= m -> m < i -> r (lab lb (j - 1)) (lab la m) = true):wpS (model prog w) A E s (h2b (la.map item) (lb.map item) g d k o i j) Q u:=by
 refine wpS_ite (fun _=>?_) fun e=>?_
 ·obtain ⟨M, i1, i2, j1, j2, hN⟩ := p
  have hj:=sub1 (sub2 j1) j2
  have M1:=M.addA hk' i2 j2 fun m m1 m2 x hx=>L.hA (by lia) hj (g2 m m1 m2) x (lt3 (sub2 j1) hx)
  have ka:=Nat.le_trans hk' i2
  exact wpS_ite (fun e=>wp_fin q S (M1.don ka j2 (.inl (beq_nat e)))) fun e=>L.h3 q S hk ⟨M1,Nat.pos_of_ne_zero (bne_nat e),ka,j1,j2,by lia⟩ g1
 ·obtain rfl : k = i := by lia
  exact L.h3 q S hk p g1
theorem Lo.h2' (hk:kindOf t = kd) (p:PH item r la lb N o i j):wpS (model prog w) A E s (Srt.h2 (la.map item) (lb.map item) c d o i j g) Q u:=by
 have hj:=sub1 (sub2 p.j1) p.j2; have i1:=p.i1; have i2:=p.i2
 unfold Srt.h2
 rw [setMinGallop'_eq]
 refine wpS_bind (wpS_modify ?_)
 have S4:=S.gal g
 generalize setGal u g = u at S4 ⊢
 refine wpS_bind (elem_lab hj (wpS_bind (gal (m:=i) (by':=fun m=>!r (lab lb (j - 1)) (lab la (0 + m))) (by lia) (fun m h Q qq=>?_) (fun m x h1 h2 hb=>?_) fun k h g5 g6=>L.h2b q S4 hk p h (fun m h=>by have:=g5 m h; rw [Nat.zero_add] at this; simpa using this) fun m h h'=>by have:=g6 m h h'; rw [Nat.zero_add] at this; simpa using this)))
 ·exact byd L.R (S4.kd.trans hk) (L.T.bl hj) (by lia) (L.T.al (by lia)) (fun e=>L.T.ne (by lia) hj e.symm) (by simpa using qq)
 ·by_cases e : m = x
  ·rw [e]; exact hb
  ·show (!r (lab lb (j - 1)) (lab la (0 + m))) = true
   rw [L.R.tr _ _ _ (L.T.al (i:=0 + m) (by lia)) (L.T.al (i:=0 + x) (by lia)) (L.T.bl hj) (pw_lab L.T.au (by lia) (by lia)) (by simpa using hb)]; rfl
end
theorem Lo.h7 {b:Prop} {Q:Fn Vh -> SortSt -> Prop} {v:Vh} (hk:kindOf t = kd) (q:QH item r la lb b Q N t) (p:PHx item r la lb N v) (hN:N < la.size + lb.size):wpS (model prog w) A E s (h7 (la.map item) (lb.map item) v) Q t:=by
 unfold Srt.h7
 rw [Array.size_map,Array.size_map]
 refine wpS_bind (lo_loop (P:=PHx item r la lb) (G:=Good item r la lb) True PH.pos hN p (fun v u Q N' S h _ q'=>L.h1' (S.kd.trans hk) q' h) fun v u S h=>?_)
 unfold h6
 rcases h with ⟨o,e,G⟩ | ⟨_,e,N',h,h'⟩
 ·rw [e]; exact wp_fin q S G
 rw [e,Array.size_map,Array.size_map]
 refine wpS_bind (wpS_lift (wpAny_rule ⟨rfl,wpS_bind (lo_loop (P:=PHx item r la lb) (G:=Good item r la lb) True PH.pos (Nat.lt_trans h hN) h' (fun v u' Q N' S' h' _ q'=>?_) fun v u' S' h2=>?_)⟩))
 ·have hk' := (S.tr S').kd.trans hk
  exact wpS_ite (fun _=>L.h2' q' .rfl' hk' h') fun _=>L.h2' q' .rfl' hk' h'
 ·unfold h5
  rcases h2 with ⟨o,e,G⟩ | ⟨_,e,N2,h2,h3⟩
  ·rw [e]; exact wp_fin q (S.tr S') G
  ·rw [e, setMinGallop'_eq]
   exact wpS_bind (wpS_modify (wpS_pure (q.nx _ _ _ ((S.tr S').gal _) h3 (Nat.lt_trans h2 h))))
theorem mhi (hk:kindOf t = kd) (ha:1 <= la.size) (hb:1 <= lb.size) {Q:Array Keyed -> SortSt -> Prop} (q:∀ out t',Same t t' -> Good item r la lb out -> Q out t'):wpS (model prog w) A E s (mergeHi' (la.map item) (lb.map item)) Q t:=by
 rw [mergeHi'_eq2]
 unfold h8
 rw [Array.size_map,Array.size_map]
 have hl:la.size - 1 < la.size:=sub1 ha (Nat.le_refl _)
 refine wpS_bind (wpS_lift (wpAny_rule ⟨rfl,wpS_bind (elem_lab hl ?_)⟩))
 have M0:MH item r la lb #[] la.size lb.size:=⟨#[],by simp,by
  have e1:la.toList.take la.size = la.toList:=List.take_of_length_le (by rw [Array.length_toList]; exact Nat.le_refl _)
  have e2:lb.toList.take lb.size = lb.toList:=List.take_of_length_le (by rw [Array.length_toList]; exact Nat.le_refl _)
  rw [e1,e2]
  exact ⟨by simpa using (List.reverse_perm _).append (List.reverse_perm _),.nil,by simp,by simp,List.pairwise_reverse.mpr L.T.au,List.pairwise_reverse.mpr L.T.bu⟩⟩
 have M1:=M0.pushA ha (Nat.le_refl _) (Nat.le_refl _) fun j hj=>L.R.asy _ _ (L.T.bl hj) (L.T.al hl) (L.h2 _ (mem_lab hj))
 change MH item r la lb #[item (lab la (la.size - 1))] (la.size - 1) lb.size at M1
 generalize #[item (lab la (la.size - 1))] = o at M1 ⊢
 refine wpS_ite (fun e=>wpS_pure (q _ _ .rfl' (M1.don (Nat.le_of_lt hl) (Nat.le_refl _) (.inl (beq_nat e))))) fun e=>wpS_ite (fun e=>wpS_pure (q _ _ .rfl' (L.fst M1 (Nat.le_of_lt hl) hb (beq_nat e)))) fun e1=>?_
 have hN:la.size - 1 + lb.size < la.size + lb.size:=Nat.add_lt_add_right hl _
 refine wpS_bind (wpS_get (wpS_bind (lo_loop (P:=PHx item r la lb) (G:=Good item r la lb) False PH.pos hN ⟨M1,sub3 ha e,Nat.le_of_lt hl,Nat.lt_of_le_of_ne hb (fun z=>bne_nat e1 z.symm),Nat.le_refl _,Nat.le_refl _⟩ (fun v u Q N' S h h' q'=>L.h7 (S.kd.trans hk) q' h (Nat.lt_of_le_of_lt h' hN)) fun v u S h=>?_)))
 rcases h with ⟨o,e,G⟩ | ⟨f,_⟩
 ·unfold lEnd; rw [e]; exact wpS_pure (q _ _ S G)
 ·exact f.elim
end
end
end L2.Srt
set_option maxRecDepth 100000
set_option maxHeartbeats 1000000
namespace L2.Srt
open PySem PyProof.Rows
theorem put_back {α:Type}:∀ (l:List α) (arr:Array α) (sa k:Nat),sa + k + l.length <= arr.size -> ((l.zipIdx k).foldl (fun a (p:α × Nat)=>a.setIfInBounds (sa + p.2) p.1) arr).toList = arr.toList.take (sa + k) ++ l ++ arr.toList.drop (sa + k + l.length)
 | [],arr,sa,k,h=>by simp
 | x :: l, arr, sa, k, h => by
  rw [List.length_cons] at h
  have hi:sa + k < arr.toList.length:=by rw [Array.length_toList]; lia
  rw [List.zipIdx_cons,List.foldl_cons,put_back l _ sa (k + 1) (by rw [Array.size_setIfInBounds]; lia),Array.toList_setIfInBounds]
  have e1:(arr.toList.set (sa + k) x).take (sa + (k + 1)) = arr.toList.take (sa + k) ++ [x]:=by
   rw [<- Nat.add_assoc,List.take_add_one,List.take_set_of_le (Nat.le_refl _),List.getElem?_set_self hi]
   rfl
  have e2:(arr.toList.set (sa + k) x).drop (sa + (k + 1) + l.length) = arr.toList.drop (sa + k + (l.length + 1)):=by
   rw [List.drop_set_of_lt (by lia)]
   congr 1; lia
  rw [e1,e2,List.length_cons]
  simp
theorem wpS_set {M:Model} {A:Around} {E:Value -> Shared -> Prop} {s:Shared} {σ:Type} {st':σ} {Q:PUnit -> σ -> Prop} {st:σ} (h:Q ⟨⟩ st'):wpS M A E s (set st':StateT σ Sem PUnit) Q st:=by
 unfold wpS; rw [StateT.run_set]; exact wpAny_pure ⟨rfl,h⟩
structure Nw (n:Nat) (item:Nat -> Keyed) (kd:SortKind) (ls:Array Nat) (t:SortSt):Prop where
 arr:arrOf t = ls.map item
 kd:kindOf t = kd
 ok:failedOf t = none
 perm:ls.Perm (Array.range n)
def Seg (r:Nat -> Nat -> Bool) (ls:Array Nat) (s m:Nat):Prop:=∀ i j,s <= i -> i < j -> j < s + m -> r (lab ls j) (lab ls i) = false
section
variable {n:Nat} {item:Nat -> Keyed} {kd:SortKind} {r:Nat -> Nat -> Bool} {ls:Array Nat} {t:SortSt}
theorem perm_nodup (h:ls.Perm (Array.range n)):ls.toList.Nodup:=(Array.perm_iff_toList_perm.mp h).nodup_iff.mpr (by rw [Array.toList_range]; exact List.nodup_range)
theorem Nw.size (N:Nw n item kd ls t):ls.size = n:=by rw [N.perm.size_eq,Array.size_range]
theorem perm_lt (h:ls.Perm (Array.range n)) {x:Nat} (hx:x ∈ ls.toList):x < n:=by
 have:=((Array.perm_iff_toList_perm.mp h).mem_iff).mp hx
 rwa [Array.toList_range,List.mem_range] at this
theorem Nw.lt (N:Nw n item kd ls t) {i:Nat} (h:i < n):lab ls i < n:=perm_lt N.perm (mem_lab (by rw [N.size]; exact h))
theorem nd_ne (h:ls.toList.Nodup) {i j:Nat} (hij:i < j) (hj:j < ls.size):lab ls i ≠ lab ls j:=by
 have hi':i < ls.toList.length:=by rw [Array.length_toList]; lia
 have hj':j < ls.toList.length:=by rw [Array.length_toList]; exact hj
 have:=List.pairwise_iff_getElem.mp h i j hi' hj' hij
 have e1:=lab_get (ls:=ls) (i:=i) (by lia)
 have e2:=lab_get (ls:=ls) hj
 rw [<- Array.getElem?_toList,List.getElem?_eq_getElem hi'] at e1
 rw [<- Array.getElem?_toList,List.getElem?_eq_getElem hj'] at e2
 rw [<- Option.some.inj e1,<- Option.some.inj e2]
 exact this
theorem Nw.ne (N:Nw n item kd ls t) {i j:Nat} (hi:i < n) (hj:j < n) (h:i ≠ j):lab ls i ≠ lab ls j:=by
 have:=N.size
 rcases Nat.lt_or_gt_of_ne h with g | g
 ·exact nd_ne (perm_nodup N.perm) g (by lia)
 ·exact (nd_ne (perm_nodup N.perm) g (by lia)).symm
theorem lab_ext {a b i:Nat} (h:b <= ls.size) (hi:a + i < b):lab (ls.extract a b) i = lab ls (a + i):=by
 refine lab_of_get ?_
 rw [Array.getElem?_extract,if_pos (by lia),lab_get (by lia)]
theorem mem_ext2 {a b x:Nat} (h:b <= ls.size) (hx:x ∈ (ls.extract a b).toList):∃ i,a <= i /\ i < b /\ x = lab ls i:=by
 have hx':x ∈ (ls.extract a b).toList.drop 0:=by rwa [List.drop_zero]
 obtain ⟨i,_,h2,rfl⟩:=mem_drop.mp hx'
 rw [Array.size_extract] at h2
 exact ⟨a + i,by lia,by lia,lab_ext h (by lia)⟩
theorem seg_pw {a b:Nat} (h:b <= ls.size) (S:Seg r ls a (b - a)):(ls.extract a b).toList.Pairwise fun x y=>r y x = false:=by
 refine List.pairwise_iff_getElem.mpr fun i j hi hj hij=>?_
 rw [Array.length_toList,Array.size_extract] at hi hj
 have e:∀ k (hk:k < (ls.extract a b).toList.length),(ls.extract a b).toList[k] = lab ls (a + k):=fun k hk=>by
  rw [Array.length_toList] at hk
  have e1:=lab_get (ls:=ls.extract a b) hk
  rw [<- Array.getElem?_toList,List.getElem?_eq_getElem (by rw [Array.length_toList]; exact hk)] at e1
  rw [Option.some.inj e1,lab_ext h (by rw [Array.size_extract] at hk; lia)]
 rw [e,e]
 exact S _ _ (by lia) (by lia) (by lia)
end
section
variable {prog:Program} {w:World} {A:Around} {E:Value -> Shared -> Prop} {s:Shared} {t:SortSt} {n:Nat} {item:Nat -> Keyed} {kd:SortKind} {r:Nat -> Nat -> Bool} {ls:Array Nat}
theorem back {a b c:Nat} {M:Array Nat} (N:Nw n item kd ls t) (hab:a <= b) (hbc:b <= c) (hc:c <= n) (p:M.toList.Perm ((ls.extract a b).toList ++ (ls.extract b c).toList)) :
  ∃ ls':Array Nat,(((M.map item).toList.zipIdx.foldl (fun x (y:Keyed × Nat)=>x.setIfInBounds (a + y.2) y.1) (ls.map item)) = ls'.map item) /\ ls'.Perm (Array.range n) /\ (∀ k,k < a \/ c <= k -> lab ls' k = lab ls k) /\ ∀ i,a <= i -> i < c -> lab ls' i = lab M (i - a):=by
 have hs:=N.size
 have hM:M.size = c - a:=by
  have:=p.length_eq
  rw [Array.length_toList,List.length_append,Array.length_toList,Array.length_toList,Array.size_extract,Array.size_extract] at this
  lia
 have el:((ls.toList.take a ++ M.toList ++ ls.toList.drop c).toArray).size = ls.size:=by
  rw [List.size_toArray,List.length_append,List.length_append,List.length_take,List.length_drop,Array.length_toList,Array.length_toList]
  lia
 refine ⟨(ls.toList.take a ++ M.toList ++ ls.toList.drop c).toArray,?_,?_,?_,?_⟩
 ·apply Array.ext'
  rw [put_back _ _ a 0 (by rw [Array.length_toList,Array.size_map,Array.size_map]; lia)]
  simp only [Nat.add_zero,Array.length_toList,Array.size_map,Array.toList_map,hM,List.map_append,List.map_take,List.map_drop,List.map_toArray]
  congr 2
  rw [List.length_map,Array.length_toList]; lia
 ·refine Array.perm_iff_toList_perm.mpr ?_
  refine List.Perm.trans ?_ (Array.perm_iff_toList_perm.mp N.perm)
  have e:ls.toList = ls.toList.take a ++ ((ls.extract a b).toList ++ (ls.extract b c).toList) ++ ls.toList.drop c:=by
   rw [Array.toList_extract,Array.toList_extract,List.extract_eq_take_drop,List.extract_eq_take_drop]
   have e1:(ls.toList.drop a).take (b - a) ++ (ls.toList.drop b).take (c - b) = (ls.toList.drop a).take (c - a):=by
    rw [show c - a = (b - a) + (c - b) by lia,List.take_add,List.drop_drop,show a + (b - a) = b by lia]
   rw [e1,List.append_assoc]
   conv=>lhs; rw [<- List.take_append_drop a ls.toList]
   congr 1
   conv=>lhs; rw [<- List.take_append_drop (c - a) (ls.toList.drop a)]
   rw [List.drop_drop,show a + (c - a) = c by lia]
  conv=>rhs; rw [e]
  exact (p.append_left _).append_right _
 ·intro k hk
  rcases Nat.lt_or_ge k ls.size with hk2 | hk2
  ·refine lab_of_get ?_
   rw [<- lab_get hk2,List.getElem?_toArray]
   rcases hk with hk | hk
   ·rw [List.append_assoc,List.getElem?_append_left (by rw [List.length_take,Array.length_toList]; lia),List.getElem?_take,if_pos hk,Array.getElem?_toList]
   ·rw [List.getElem?_append_right (by rw [List.length_append, List.length_take, Array.length_toList, Array.length_toList]; lia), List.getElem?_drop, Array.getElem?_toList]
    congr 1
    rw [List.length_append,List.length_take,Array.length_toList,Array.length_toList]; lia
  ·have e1 : lab ls k = 0 := by unfold lab; rw [Array.getD_eq_getD_getElem?, Array.getElem?_eq_none hk2]; rfl
   rw [e1]; unfold lab; rw [Array.getD_eq_getD_getElem?,Array.getElem?_eq_none (by rw [el]; exact hk2)]; rfl
 ·intro i h1 h2
  refine lab_of_get ?_
  rw [<- lab_get (by lia),List.getElem?_toArray,List.getElem?_append_left (by rw [List.length_append,List.length_take,Array.length_toList,Array.length_toList]; lia),List.getElem?_append_right (by rw [List.length_take,Array.length_toList]; lia),Array.getElem?_toList]
  congr 1
  rw [List.length_take,Array.length_toList]; lia
theorem mat (R:WRule prog w A s n item kd r) (N:Nw n item kd ls t) {i sa na p sb nb p2:Nat} (hp:(pendingOf t)[i]? = some (sa,na,p)) (hq:(pendingOf t)[i + 1]? = some (sb,nb,p2)) (hsb:sb = sa + na) (h1:1 <= na) (h2:1 <= nb) (hn:sb + nb <= n) (SA:Seg r ls sa na) (SB:Seg r ls sb nb)
  {Q:Bool -> SortSt -> Prop} (q:∀ ls' t',Nw n item kd ls' t' -> pendingOf t' = ((pendingOf t).setIfInBounds i (sa,na + nb,p)).eraseIdxIfInBounds (i + 1) -> (∀ k,k < sa \/ sb + nb <= k -> lab ls' k = lab ls k) -> Seg r ls' sa (na + nb) -> Q true t'):wpS (model prog w) A E s (mergeAt' i) Q t:=by
 have hs:=N.size
 rw [mergeAt'_eq]
 refine wpS_bind (wpS_get ?_)
 rw [hp,hq]
 dsimp only
 refine wpS_bind (wpS_set ?_)
 have N1:Nw n item kd ls (setPending t (((pendingOf t).setIfInBounds i (sa,na + nb,p)).eraseIdxIfInBounds (i + 1))):=⟨N.arr,N.kd,N.ok,N.perm⟩
 have P1:pendingOf (setPending t (((pendingOf t).setIfInBounds i (sa,na + nb,p)).eraseIdxIfInBounds (i + 1))) = ((pendingOf t).setIfInBounds i (sa,na + nb,p)).eraseIdxIfInBounds (i + 1):=rfl
 rw [N.arr]
 generalize ((pendingOf t).setIfInBounds i (sa,na + nb,p)).eraseIdxIfInBounds (i + 1) = pend at P1 N1 q ⊢
 generalize setPending t pend = t1 at P1 N1 ⊢
 have le3:∀ {x y z:Nat},x < n -> y < n -> z < n -> r (lab ls y) (lab ls x) = false -> r (lab ls z) (lab ls y) = false -> r (lab ls z) (lab ls x) = false:=fun hx hy hz=>R.tr _ _ _ (N.lt hx) (N.lt hy) (N.lt hz)
 refine wpS_bind (elem_lab (by lia) ?_)
 refine wpS_bind (gal (m:=na) (by':=fun i=>!r (lab ls sb) (lab ls (sa + i))) (by lia) (fun i hi Q qq=>byd R N1.kd (N.lt (by lia)) (by lia) (N.lt (by lia)) (N.ne (by lia) (by lia) (by lia)) (by simpa using qq)) ?_ fun k hk g1 g2=>?_)
 ·intro i j hij hj hb
  by_cases e:i = j
  ·rw [e]; exact hb
  ·have hb' : r (lab ls sb) (lab ls (sa + j)) = false := by simpa using hb
   have:=le3 (by lia) (by lia) (by lia) (SA (sa + i) (sa + j) (by lia) (by lia) (by lia)) hb'
   show (!r (lab ls sb) (lab ls (sa + i))) = true
   rw [this]; rfl
 have F1:∀ i j,sa <= i -> i < sa + k -> sb <= j -> j < sb + nb -> r (lab ls j) (lab ls i) = false:=fun i j a1 a2 b1 b2=>by
  have z:r (lab ls sb) (lab ls i) = false:=by
   have:=g1 (i - sa) (by lia)
   rw [show sa + (i - sa) = i by lia] at this
   simpa using this
  by_cases e:j = sb
  ·rw [e]; exact z
  ·exact le3 (by lia) (by lia) (by lia) z (SB sb j (by lia) (by lia) b2)
 dsimp only
 refine wpS_ite (fun e=>wpS_pure (q ls t1 N1 P1 (fun _ _=>rfl) fun i j a1 a2 a3=>?_)) (fun e=>?_)
 ·have ek : k = na := by simp at e; lia
  by_cases c1:j < sb
  ·exact SA i j a1 a2 (by lia)
  ·by_cases c2 : i < sb
   ·exact F1 i j a1 (by lia) (by lia) (by lia)
   ·exact SB i j (by lia) a2 (by lia)
 have hk':k < na:=by simp at e; lia
 have g2':r (lab ls sb) (lab ls (sa + k)) = true:=by simpa using g2 k (Nat.le_refl _) hk'
 have el:sa + k + (na - k) - 1 = sb - 1:=by lia
 rw [el]
 refine wpS_bind (elem_lab (by lia) ?_)
 refine wpS_bind (gal (m:=nb) (by':=fun i=>r (lab ls (sb + i)) (lab ls (sb - 1))) (by lia) (fun i hi Q qq=>byd R N1.kd (N.lt (by lia)) (by lia) (N.lt (by lia)) (N.ne (by lia) (by lia) (by lia)) (by simpa using qq)) ?_ fun m hm g3 g4=>?_)
 ·intro i j hij hj hb
  by_cases e:i = j
  ·rw [e]; exact hb
  ·cases z : r (lab ls (sb + i)) (lab ls (sb - 1)) with
   | true=>rfl
   | false =>
    have:=le3 (by lia) (by lia) (by lia) z (SB (sb + i) (sb + j) (by lia) (by lia) (by lia))
    rw [this] at hb
    cases hb
 have F3:∀ i j,sa <= i -> i < sb -> sb + m <= j -> j < sb + nb -> r (lab ls j) (lab ls i) = false:=fun i j a1 a2 b1 b2=>by
  have z:r (lab ls j) (lab ls (sb - 1)) = false:=by
   have:=g4 (j - sb) (by lia) (by lia)
   rwa [show sb + (j - sb) = j by lia] at this
  by_cases e:i = sb - 1
  ·rw [e]; exact z
  ·exact le3 (by lia) (by lia) (by lia) (SA i (sb - 1) a1 (by lia) (by lia)) z
 dsimp only
 refine wpS_ite (fun e=>wpS_pure (q ls t1 N1 P1 (fun _ _=>rfl) fun i j a1 a2 a3=>?_)) (fun e=>?_)
 ·have ek : m = 0 := by simpa using e
  by_cases c1:j < sb
  ·exact SA i j a1 a2 (by lia)
  ·by_cases c2 : i < sb
   ·exact F3 i j a1 (by lia) (by lia) (by lia)
   ·exact SB i j (by lia) a2 (by lia)
 have hm':1 <= m:=by simp at e; lia
 have eX:(ls.map item).extract (sa + k) sb = (ls.extract (sa + k) sb).map item:=by rw [Array.map_extract]
 have eY:(ls.map item).extract sb (sb + m) = (ls.extract sb (sb + m)).map item:=by rw [Array.map_extract]
 rw [eX,eY]
 have zX:(ls.extract (sa + k) sb).size = sb - (sa + k):=by rw [Array.size_extract]; lia
 have zY:(ls.extract sb (sb + m)).size = m:=by rw [Array.size_extract]; lia
 have T:Two n r (ls.extract (sa + k) sb) (ls.extract sb (sb + m)):=by
  refine ⟨fun x hx=>?_,fun x hx=>?_,fun x hx y hy=>?_,seg_pw (by lia) fun i j a b c=>SA i j (by lia) b (by lia),seg_pw (by lia) fun i j a b c=>SB i j (by lia) b (by lia)⟩
  ·obtain ⟨i,_,h2,rfl⟩:=mem_ext2 (by lia) hx; exact N.lt (by lia)
  ·obtain ⟨i,_,h2,rfl⟩:=mem_ext2 (by lia) hx; exact N.lt (by lia)
  ·obtain ⟨i, _, h2, rfl⟩ := mem_ext2 (by lia) hx
   obtain ⟨j,h3,h4,rfl⟩:=mem_ext2 (by lia) hy
   exact N.ne (by lia) (by lia) (by lia)
 have c1:r (lab (ls.extract sb (sb + m)) 0) (lab (ls.extract (sa + k) sb) 0) = true:=by
  rw [lab_ext (by lia) (by lia),lab_ext (by lia) (by lia)]
  exact g2'
 have c2:∀ y ∈ (ls.extract sb (sb + m)).toList,r y (lab (ls.extract (sa + k) sb) ((ls.extract (sa + k) sb).size - 1)) = true:=fun y hy=>by
  obtain ⟨j,h3,h4,rfl⟩:=mem_ext2 (by lia) hy
  rw [zX,lab_ext (by lia) (by lia),show sa + k + (sb - (sa + k) - 1) = sb - 1 by lia]
  have:=g3 (j - sb) (by lia)
  rwa [show sb + (j - sb) = j by lia] at this
 have fin : ∀ out t2, Same t1 t2 -> Good item r (ls.extract (sa + k) sb) (ls.extract sb (sb + m)) out -> wpS (model prog w) A E s (do
   modify fun s=>setArr s (out.toList.zipIdx.foldl (fun a (p,j)=>a.setIfInBounds (sa + k + j) p) (arrOf s))
   return (failedOf (<- get)).isNone) Q t2:=fun out t2 S ⟨M,eM,pM,uM⟩=>by
  refine wpS_bind (wpS_modify (wpS_bind (wpS_get ?_)))
  have ef:(failedOf (setArr t2 (out.toList.zipIdx.foldl (fun a (p,j)=>a.setIfInBounds (sa + k + j) p) (arrOf t2)))).isNone = true:=by
   show (failedOf t2).isNone = true
   rw [S.ok,N1.ok]; rfl
  rw [ef]
  obtain ⟨ls',b1,b2,b3,b4⟩:=back (a:=sa + k) (b:=sb) (c:=sb + m) N (by lia) (by lia) (by lia) pM
  refine wpS_pure (q ls' _ ⟨?_,S.kd.trans N1.kd,S.ok.trans N1.ok,b2⟩ (S.pend.trans P1) (fun k' hk'=>b3 k' (by lia)) fun i j a1 a2 a3=>?_)
  ·show out.toList.zipIdx.foldl (fun a (p, j) => a.setIfInBounds (sa + k + j) p) (arrOf t2) = _
   rw [S.arr,N1.arr,eM]
   exact b1
  ·have zM : M.size = sb + m - (sa + k) := by
    have:=pM.length_eq
    rw [Array.length_toList,List.length_append,Array.length_toList,Array.length_toList,zX,zY] at this
    lia
   have inM:∀ i,sa + k <= i -> i < sb + m -> ∃ i',sa + k <= i' /\ i' < sb + m /\ lab ls' i = lab ls i':=fun i x1 x2=>by
    rw [b4 i x1 x2]
    have:lab M (i - (sa + k)) ∈ (ls.extract (sa + k) sb).toList ++ (ls.extract sb (sb + m)).toList:=pM.mem_iff.mp (mem_lab (by lia))
    rcases List.mem_append.mp this with h | h
    ·obtain ⟨i',y1,y2,e⟩:=mem_ext2 (by lia) h; exact ⟨i',y1,by lia,e⟩
    ·obtain ⟨i',y1,y2,e⟩:=mem_ext2 (by lia) h; exact ⟨i',by lia,y2,e⟩
   by_cases ci:i < sa + k
   ·rw [b3 i (.inl ci)]
    by_cases cj:j < sa + k
    ·rw [b3 j (.inl cj)]
     exact SA i j a1 a2 (by lia)
    ·by_cases cj2 : j < sb + m
     ·obtain ⟨j', y1, y2, e⟩ := inM j (by lia) cj2
      rw [e]
      by_cases c3:j' < sb
      ·exact SA i j' a1 (by lia) (by lia)
      ·exact F1 i j' a1 ci (by lia) (by lia)
     ·rw [b3 j (.inr (by lia))]
      exact F1 i j a1 ci (by lia) (by lia)
   ·by_cases ci2 : i < sb + m
    ·by_cases cj2 : j < sb + m
     ·rw [b4 i (by lia) ci2, b4 j (by lia) cj2]
      exact pw_lab uM (by lia) (by lia)
     ·rw [b3 j (.inr (by lia))]
      obtain ⟨i',y1,y2,e⟩:=inM i (by lia) ci2
      rw [e]
      by_cases c3:i' < sb
      ·exact F3 i' j (by lia) c3 (by lia) (by lia)
      ·exact SB i' j (by lia) (by lia) (by lia)
    ·rw [b3 i (.inr (by lia)), b3 j (.inr (by lia))]
     exact SB i j (by lia) a2 (by lia)
 refine wpS_ite (fun e=>?_) (fun e=>?_)
 ·exact wpS_bind (mlo ⟨R,T,c1,c2⟩ N1.kd (by lia) (by lia) fin)
 ·exact wpS_bind (mhi ⟨R,T,c1,c2⟩ N1.kd (by lia) (by lia) fin)
end
end L2.Srt
set_option maxRecDepth 100000
set_option maxHeartbeats 1000000
namespace L2.Srt
open PySem PyProof.Rows
section
variable {n:Nat} {item:Nat -> Keyed} {kd:SortKind} {r:Nat -> Nat -> Bool} {ls:Array Nat} {t:SortSt}
theorem Nw.mir (N:Nw n item kd ls t) {i j:Nat} (hj:j <= n):Nw n item kd (mirror ls i j ((j - i) / 2)) (setArr t (mirror (arrOf t) i j ((j - i) / 2))) :=
 ⟨by show mirror (arrOf t) i j _ = _; rw [N.arr]; exact mir_map (by rw [N.size]; exact hj),N.kd,N.ok,(mirror_perm _ _ _ _).trans N.perm⟩
theorem Nw.bub (N:Nw n item kd ls t) {src d:Nat} (hs:src < n) (hd:d <= src):Nw n item kd (bubble ls src d) (setArr t (bubble (arrOf t) src d)) :=
 ⟨by show bubble (arrOf t) src d = _; rw [N.arr]; exact bub_map (by rw [N.size]; exact hs) hd,N.kd,N.ok,(bubble_perm _ _ _).trans N.perm⟩
structure Kp (lo:Nat) (ls:Array Nat) (t:SortSt) (ls':Array Nat) (t':SortSt):Prop where
 p:pendingOf t' = pendingOf t
 l:∀ k,k < lo -> lab ls' k = lab ls k
def Dn (r:Nat -> Nat -> Bool) (ls:Array Nat) (s m:Nat):Prop:=∀ i j,s <= i -> i < j -> j < s + m -> r (lab ls i) (lab ls j) = false
def Eqb (r:Nat -> Nat -> Bool) (ls:Array Nat) (a b:Nat):Prop:=∀ i j,a <= i -> i < b -> a <= j -> j < b -> r (lab ls i) (lab ls j) = false
theorem mir_at {a b k:Nat} (hb:b <= ls.size) (hk:k < ls.size):∃ k',lab (mirror ls a b ((b - a) / 2)) k = lab ls k' /\ (a <= k /\ k < b -> a <= k' /\ k' < b) /\ (¬(a <= k /\ k < b) -> k' = k):=by
 by_cases h:a <= k /\ k < b
 ·exact ⟨a + b - 1 - k,by rw [mir_lab hb hk,if_pos h],fun _=>by lia,fun g=>absurd h g⟩
 ·exact ⟨k,by rw [mir_lab hb hk,if_neg h],fun g=>absurd g h,fun _=>rfl⟩
theorem dn_mir {lo x e:Nat} (hx:lo + x <= ls.size) (D:Dn r ls lo x) (he:e + 1 <= x) (Q:Eqb r ls (lo + x - (e + 1)) (lo + x)):Dn r (mirror ls (lo + x - (e + 1)) (lo + x) ((lo + x - (lo + x - (e + 1))) / 2)) lo x:=fun i j h1 h2 h3=>by
 obtain ⟨i',e1,f1,f2⟩:=mir_at (ls:=ls) (a:=lo + x - (e + 1)) (b:=lo + x) (k:=i) hx (by lia)
 obtain ⟨j',e2,g1,g2⟩:=mir_at (ls:=ls) (a:=lo + x - (e + 1)) (b:=lo + x) (k:=j) hx (by lia)
 rw [e1,e2]
 by_cases c1:lo + x - (e + 1) <= i /\ i < lo + x
 ·have := f1 c1
  have:=g1 (by lia)
  exact Q _ _ (by lia) (by lia) (by lia) (by lia)
 ·have c3 := f2 c1
  by_cases c2:lo + x - (e + 1) <= j /\ j < lo + x
  ·have := g1 c2
   exact D _ _ (by lia) (by lia) (by lia)
  ·have := g2 c2
   exact D _ _ (by lia) (by lia) (by lia)
end
section
variable {prog:Program} {w:World} {A:Around} {E:Value -> Shared -> Prop} {s:Shared} {n:Nat} {item:Nat -> Keyed} {kd:SortKind} {r:Nat -> Nat -> Bool} {ls:Array Nat} {t:SortSt}
theorem at_l (R:WRule prog w A s n item kd r) (N:Nw n item kd ls t) {i j:Nat} (hi:i < n) (hj:j < n) (hij:i ≠ j) {Q:Option Bool -> SortSt -> Prop} (q:Q (some (r (lab ls i) (lab ls j))) t):wpS (model prog w) A E s (ltAt' i j) Q t:=by
 have hs:=N.size
 rw [ltAt'_eq]
 refine wpS_bind (wpS_get ?_)
 dsimp only
 rw [N.arr]
 exact wpS_bind (elem_lab (by lia) (wpS_bind (elem_lab (by lia) (lt_lab R N.kd (N.lt hi) (N.lt hj) (N.ne hi hj hij) q))))
theorem WRule.irr (R:WRule prog w A s n item kd r) {a:Nat} (h:a < n):r a a = false:=by
 cases z:r a a with
 | false=>rfl
 | true=>have:=R.asy a a h h z; rw [z] at this; exact this
theorem rev_l {i j:Nat} {Q:Unit -> SortSt -> Prop} (q:Q () (setArr t (mirror (arrOf t) i j ((j - i) / 2)))):wpS (model prog w) A E s (reverseSlice' i j) Q t:=by
 rw [reverseSlice'_eq]
 exact wpS_modify q
theorem asc_l (R:WRule prog w A s n item kd r) (N:Nw n item kd ls t) {lo a nrem:Nat} (h1:1 <= a) (ha:a <= nrem) (hn:lo + nrem <= n) (U:Seg r ls lo a) {x:Nat} (hx:x < nrem) (hax:a <= x) (V:Seg r ls lo x) {Q:Option Bool -> SortSt -> Prop}
  (q1:r (lab ls (lo + x)) (lab ls (lo + x - 1)) = true -> Q (some true) t) (q2:Seg r ls lo (x + 1) -> Q (some false) t):wpS (model prog w) A E s (ltAt' (lo + x) (lo + x - 1)) Q t:=by
 refine at_l R N (by lia) (by lia) (by lia) ?_
 cases z:r (lab ls (lo + x)) (lab ls (lo + x - 1)) with
 | true=>exact q1 z
 | false =>
  refine q2 fun i j i1 i2 i3=>?_
  by_cases hj:j < lo + x
  ·exact V i j i1 i2 hj
  ·obtain rfl : j = lo + x := by lia
   by_cases hi:i = lo + x - 1
   ·rw [hi]; exact z
   ·exact R.tr _ _ _ (N.lt (by lia)) (N.lt (i:=lo + x - 1) (by lia)) (N.lt (by lia)) (V i (lo + x - 1) i1 (by lia) (by lia)) z
theorem tail_l (R:WRule prog w A s n item kd r) (N:Nw n item kd ls t) {lo a nrem:Nat} (h1:1 <= a) (ha:a <= nrem) (hn:lo + nrem <= n) (D:Dn r ls lo a) {Q:Option Nat -> SortSt -> Prop}
  (q:∀ m ls' t',1 <= m -> m <= nrem -> Nw n item kd ls' t' -> Kp lo ls t ls' t' -> Seg r ls' lo m -> Q (some m) t'):wpS (model prog w) A E s (tailAsc lo a nrem) Q t:=by
 have hs:=N.size
 unfold tailAsc
 refine wpS_bind (rev_l ?_)
 have N':=N.mir (i:=lo) (j:=lo + a) (by lia)
 have K':Kp lo ls t (mirror ls lo (lo + a) ((lo + a - lo) / 2)) (setArr t (mirror (arrOf t) lo (lo + a) ((lo + a - lo) / 2))):=⟨rfl,fun k hk=>by rw [mir_lab (by lia) (by lia),if_neg (by lia)]⟩
 have U:Seg r (mirror ls lo (lo + a) ((lo + a - lo) / 2)) lo a:=fun i j i1 i2 i3=>by
  rw [mir_lab (by lia) (by lia),mir_lab (by lia) (by lia),if_pos (by lia),if_pos (by lia)]
  exact D _ _ (by lia) (by lia) (by lia)
 generalize mirror ls lo (lo + a) ((lo + a - lo) / 2) = ls' at N' K' U
 generalize setArr t (mirror (arrOf t) lo (lo + a) ((lo + a - lo) / 2)) = t' at N' K' ⊢
 refine wpS_bind (wpS_mono (wpS_forRange (fun x c t2=>t2 = t' /\ c = (none,x) /\ Seg r ls' lo x) (Q:=fun c t2=>t2 = t' /\ ∃ m,c = (none,m) /\ a <= m /\ m <= nrem /\ Seg r ls' lo m) ?_ ?_ ⟨rfl,rfl,U⟩) ?_)
 ·rintro x c t2 hx hxn ⟨rfl, rfl, V⟩
  dsimp only
  exact wpS_bind (asc_l R N' h1 ha hn U hxn hx V (fun _=>wpS_pure ⟨rfl,x,rfl,hx,by lia,V⟩) (fun V'=>wpS_pure ⟨rfl,rfl,V'⟩))
 ·rintro c t2 ⟨rfl, rfl, V⟩
  rw [show max a nrem = nrem by lia] at V ⊢
  exact ⟨rfl,nrem,rfl,ha,Nat.le_refl _,V⟩
 ·rintro c t2 ⟨rfl, m, rfl, m1, m2, V⟩
  exact wpS_pure (q m ls' t2 (by lia) m2 N' K' V)
theorem desc_l (R:WRule prog w A s n item kd r) (N:Nw n item kd ls t) {lo a nrem:Nat} (h1:1 <= a) (ha:a < nrem) (hn:lo + nrem <= n) (D:Dn r ls lo (a + 1)) {Q:Option Nat -> SortSt -> Prop}
  (q:∀ m ls' t',1 <= m -> m <= nrem -> Nw n item kd ls' t' -> Kp lo ls t ls' t' -> Seg r ls' lo m -> Q (some m) t'):wpS (model prog w) A E s (descRest lo a nrem) Q t:=by
 have hs:=N.size
 unfold descRest
 refine wpS_bind (wpS_lift (wpAny_rule ⟨rfl,?_⟩))
 refine wpS_bind (wpS_mono (wpS_forRange (fun x c t2=>∃ (ls2:Array Nat) (e:Nat),c = (none,x,e) /\ Nw n item kd ls2 t2 /\ Kp lo ls t ls2 t2 /\ Dn r ls2 lo x /\ e + 1 <= x /\ Eqb r ls2 (lo + x - (e + 1)) (lo + x))
  (Q:=fun c t2=>∃ (ls2:Array Nat) (x e:Nat),c = (none,x,e) /\ 1 <= x /\ x <= nrem /\ Nw n item kd ls2 t2 /\ Kp lo ls t ls2 t2 /\ Dn r ls2 lo x /\ e + 1 <= x /\ Eqb r ls2 (lo + x - (e + 1)) (lo + x)) ?_ ?_ ⟨ls,0,rfl,N,⟨rfl,fun _ _=>rfl⟩,D,by lia,?_⟩) ?_)
 ·rintro x c t2 hx hxn ⟨ls2, e, rfl, N2, K2, D2, he, Q2⟩
  have hs2:=N2.size
  dsimp only
  have one:∀ (l3:Array Nat) (t3:SortSt),Nw n item kd l3 t3 -> Eqb r l3 (lo + (x + 1) - (0 + 1)) (lo + (x + 1)):=fun l3 t3 N3 i j i1 i2 j1 j2=>by
   obtain ⟨rfl,rfl⟩:i = lo + x /\ j = lo + x:=by lia
   exact R.irr (N3.lt (by lia))
  refine wpS_bind (at_l R N2 (by lia) (by lia) (by lia) ?_)
  cases z:r (lab ls2 (lo + x)) (lab ls2 (lo + x - 1)) with
  | true =>
   simp only [if_true]
   have below:∀ p,lo <= p -> p < lo + x -> r (lab ls2 p) (lab ls2 (lo + x)) = false:=fun p p1 p2=>by
    have z':=R.asy _ _ (N2.lt (by lia)) (N2.lt (by lia)) z
    by_cases ep:p = lo + x - 1
    ·rw [ep]; exact z'
    ·exact R.tr _ _ _ (N2.lt (by lia)) (N2.lt (i:=lo + x - 1) (by lia)) (N2.lt (by lia)) z' (D2 p (lo + x - 1) p1 (by lia) (by lia))
   refine wpS_ite (fun h0=>?_) (fun h0=>?_)
   ·refine wpS_bind (rev_l (wpS_pure ?_))
    have N3:=N2.mir (i:=lo + x - (e + 1)) (j:=lo + x) (by lia)
    refine ⟨_,0,rfl,N3,⟨K2.p,fun k hk=>?_⟩,fun i j i1 i2 i3=>?_,by lia,one _ _ N3⟩
    ·rw [mir_lab (by lia) (by lia),if_neg (by lia)]; exact K2.l k hk
    ·by_cases hj : j < lo + x
     ·exact dn_mir (by lia) D2 he Q2 i j i1 i2 hj
     ·obtain rfl : j = lo + x := by lia
      obtain ⟨i',e1,f1,f2⟩:=mir_at (ls:=ls2) (a:=lo + x - (e + 1)) (b:=lo + x) (k:=i) (by lia) (by lia)
      obtain ⟨j',e2,g1,g2⟩:=mir_at (ls:=ls2) (a:=lo + x - (e + 1)) (b:=lo + x) (k:=lo + x) (by lia) (by lia)
      rw [e1,e2,g2 (by lia)]
      by_cases c1:lo + x - (e + 1) <= i /\ i < lo + x
      ·have := f1 c1
       exact below i' (by lia) (by lia)
      ·rw [f2 c1]; exact below i i1 (by lia)
   ·refine wpS_pure ⟨ls2, 0, rfl, N2, K2, fun i j i1 i2 i3 => ?_, by lia, one _ _ N2⟩
    by_cases hj:j < lo + x
    ·exact D2 i j i1 i2 hj
    ·obtain rfl : j = lo + x := by lia
     exact below i i1 (by lia)
  | false =>
   simp only [Bool.false_eq_true,if_false]
   refine wpS_bind (at_l R N2 (by lia) (by lia) (by lia) ?_)
   cases z2:r (lab ls2 (lo + x - 1)) (lab ls2 (lo + x)) with
   | true=>exact wpS_pure ⟨ls2,x,e,rfl,by lia,by lia,N2,K2,D2,he,Q2⟩
   | false =>
    have up:∀ p,lo + x - (e + 1) <= p -> p < lo + x -> r (lab ls2 p) (lab ls2 (lo + x)) = false /\ r (lab ls2 (lo + x)) (lab ls2 p) = false:=fun p p1 p2=>by
     have y1:=Q2 p (lo + x - 1) p1 p2 (by lia) (by lia)
     have y2:=Q2 (lo + x - 1) p (by lia) (by lia) p1 p2
     exact ⟨R.tr _ _ _ (N2.lt (by lia)) (N2.lt (i:=lo + x - 1) (by lia)) (N2.lt (by lia)) z2 y1,R.tr _ _ _ (N2.lt (by lia)) (N2.lt (i:=lo + x - 1) (by lia)) (N2.lt (by lia)) y2 z⟩
    refine wpS_pure ⟨ls2,e + 1,rfl,N2,K2,fun i j i1 i2 i3=>?_,by lia,fun i j i1 i2 j1 j2=>?_⟩
    ·by_cases hj : j < lo + x
     ·exact D2 i j i1 i2 hj
     ·obtain rfl : j = lo + x := by lia
      by_cases hi:i = lo + x - 1
      ·rw [hi]; exact z2
      ·exact R.tr _ _ _ (N2.lt (by lia)) (N2.lt (i:=lo + x - 1) (by lia)) (N2.lt (by lia)) z2 (D2 i (lo + x - 1) i1 (by lia) (by lia))
    ·by_cases c1 : i = lo + x
     ·by_cases c2 : j = lo + x
      ·rw [c1,c2]; exact R.irr (N2.lt (by lia))
      ·rw [c1]; exact (up j (by lia) (by lia)).2
     ·by_cases c2 : j = lo + x
      ·rw [c2]; exact (up i (by lia) (by lia)).1
      ·exact Q2 i j (by lia) (by lia) (by lia) (by lia)
 ·rintro c t2 ⟨ls2, e, rfl, N2, K2, D2, he, Q2⟩
  rw [show max (a + 1) nrem = nrem by lia] at D2 he Q2 ⊢
  exact ⟨ls2,nrem,e,rfl,by lia,Nat.le_refl _,N2,K2,D2,he,Q2⟩
 ·intro i j i1 i2 j1 j2
  obtain ⟨rfl,rfl⟩:i = lo + a /\ j = lo + a:=by lia
  exact R.irr (N.lt (by lia))
 ·rintro c t2 ⟨ls2, x, e, rfl, x1, x2, N2, K2, D2, he, Q2⟩
  have hs2:=N2.size
  dsimp only
  have goon:∀ (l3:Array Nat) (t3:SortSt),Nw n item kd l3 t3 -> Kp lo ls t l3 t3 -> Dn r l3 lo x -> wpS (model prog w) A E s (tailAsc lo x nrem) Q t3:=fun l3 t3 N3 K3 D3 =>
   tail_l R N3 x1 x2 hn D3 fun m ls' t' m1 m2 N' K' S'=>q m ls' t' m1 m2 N' ⟨K'.p.trans K3.p,fun k hk=>(K'.l k hk).trans (K3.l k hk)⟩ S'
  refine wpS_ite (fun h0=>?_) (fun h0=>goon ls2 t2 N2 K2 D2)
  refine wpS_bind (rev_l ?_)
  refine goon _ _ (N2.mir (by lia)) ⟨K2.p,fun k hk=>?_⟩ (dn_mir (by lia) D2 he Q2)
  rw [mir_lab (by lia) (by lia),if_neg (by lia)]; exact K2.l k hk
end
end L2.Srt
set_option maxRecDepth 100000
set_option maxHeartbeats 1000000
namespace L2.Srt
open PySem PyProof.Rows
section
variable {prog:Program} {w:World} {A:Around} {E:Value -> Shared -> Prop} {s:Shared} {n:Nat} {item:Nat -> Keyed} {kd:SortKind} {r:Nat -> Nat -> Bool} {ls:Array Nat} {t:SortSt}
theorem run_l (R:WRule prog w A s n item kd r) (N:Nw n item kd ls t) {lo nrem:Nat} (h1:1 <= nrem) (hn:lo + nrem <= n) {Q:Option Nat -> SortSt -> Prop}
  (q:∀ m ls' t',1 <= m -> m <= nrem -> Nw n item kd ls' t' -> Kp lo ls t ls' t' -> Seg r ls' lo m -> Q (some m) t'):wpS (model prog w) A E s (countRun' lo nrem) Q t:=by
 have hs:=N.size
 rw [countRun'_eq]
 have U:Seg r ls lo 1:=fun i j a b c=>by lia
 refine wpS_bind (wpS_mono (wpS_forRange (fun x c t2=>t2 = t /\ c = (none,x) /\ Seg r ls lo x) (Q:=fun c t2=>t2 = t /\ ∃ m,c = (none,m) /\ 1 <= m /\ m <= nrem /\ Seg r ls lo m /\ (m < nrem -> r (lab ls (lo + m)) (lab ls (lo + m - 1)) = true)) ?_ ?_ ⟨rfl,rfl,U⟩) ?_)
 ·rintro x c t2 hx hxn ⟨rfl, rfl, V⟩
  dsimp only
  exact wpS_bind (asc_l R N (Nat.le_refl _) h1 hn U hxn hx V (fun z=>wpS_pure ⟨rfl,x,rfl,hx,by lia,V,fun _=>z⟩) (fun V'=>wpS_pure ⟨rfl,rfl,V'⟩))
 ·rintro c t2 ⟨rfl, rfl, V⟩
  rw [show max 1 nrem = nrem by lia] at V ⊢
  exact ⟨rfl,nrem,rfl,h1,Nat.le_refl _,V,fun h=>by lia⟩
 ·rintro c t2 ⟨rfl, m, rfl, m1, m2, V, z⟩
  dsimp only
  have K0:Kp lo ls t2 ls t2:=⟨rfl,fun _ _=>rfl⟩
  refine wpS_ite (fun e=>wpS_pure (q m ls t2 m1 m2 N K0 V)) (fun e=>?_)
  have hm:m < nrem:=by simp at e; lia
  have z:=z hm
  have z':=R.asy _ _ (N.lt (by lia)) (N.lt (by lia)) z
  have low:∀ (l3:Array Nat) (t3:SortSt),Nw n item kd l3 t3 -> Kp lo ls t2 l3 t3 -> Dn r l3 lo (m + 1) -> wpS (model prog w) A E s (descRest lo m nrem) Q t3:=fun l3 t3 N3 K3 D3 =>
   desc_l R N3 m1 hm hn D3 fun m ls' t' m1 m2 N' K' S'=>q m ls' t' m1 m2 N' ⟨K'.p.trans K3.p,fun k hk=>(K'.l k hk).trans (K3.l k hk)⟩ S'
  refine wpS_ite (fun g=>?_) (fun g=>?_)
  ·refine wpS_bind (at_l R N (by lia) (by lia) (by lia) ?_)
   cases z2:r (lab ls lo) (lab ls (lo + m - 1)) with
   | true=>exact wpS_pure (q m ls t2 m1 m2 N K0 V)
   | false =>
    simp only [Bool.false_eq_true,if_false]
    refine wpS_bind (rev_l ?_)
    have ge:∀ p,lo <= p -> p < lo + m -> r (lab ls lo) (lab ls p) = false:=fun p p1 p2=>by
     by_cases ep:p = lo + m - 1
     ·rw [ep]; exact z2
     ·exact R.tr _ _ _ (N.lt (by lia)) (N.lt (i:=lo + m - 1) (by lia)) (N.lt (by lia)) (V p (lo + m - 1) p1 (by lia) (by lia)) z2
    have Q2:Eqb r ls lo (lo + m):=fun i j i1 i2 j1 j2=>by
     rcases Nat.lt_trichotomy i j with c | c | c
     ·by_cases ei : i = lo
      ·rw [ei]; exact ge j j1 j2
      ·exact R.tr _ _ _ (N.lt (by lia)) (N.lt (i:=lo) (by lia)) (N.lt (by lia)) (ge j j1 j2) (V lo i (by lia) (by lia) i2)
     ·rw [c]; exact R.irr (N.lt (by lia))
     ·exact V j i j1 c i2
    have below:∀ p,lo <= p -> p < lo + m -> r (lab ls p) (lab ls (lo + m)) = false:=fun p p1 p2 =>
     R.tr _ _ _ (N.lt (by lia)) (N.lt (i:=lo + m - 1) (by lia)) (N.lt (by lia)) z' (Q2 p (lo + m - 1) p1 p2 (by lia) (by lia))
    refine low _ _ (N.mir (by lia)) ⟨rfl,fun k hk=>?_⟩ fun i j i1 i2 i3=>?_
    ·rw [mir_lab (by lia) (by lia),if_neg (by lia)]
    ·obtain ⟨i', e1, f1, f2⟩ := mir_at (ls := ls) (a := lo) (b := lo + m) (k := i) (by lia) (by lia)
     obtain ⟨j',e2,g1,g2⟩:=mir_at (ls:=ls) (a:=lo) (b:=lo + m) (k:=j) (by lia) (by lia)
     rw [e1,e2]
     have fi:=f1 (by lia)
     by_cases c2:j < lo + m
     ·have gj := g1 (by lia)
      exact Q2 _ _ (by lia) (by lia) (by lia) (by lia)
     ·rw [g2 (by lia), show j = lo + m by lia]
      exact below i' (by lia) (by lia)
  ·obtain rfl : m = 1 := by lia
   refine low ls t2 N K0 fun i j i1 i2 i3=>?_
   obtain ⟨rfl,rfl⟩:i = lo /\ j = lo + 1:=by lia
   exact z'
theorem put_l (R:WRule prog w A s n item kd r) (N:Nw n item kd ls t) {lo m f:Nat} (hm:m <= f) (hf:lo + f <= n) (U:Seg r ls lo m) {Q:Bool -> SortSt -> Prop} (q:∀ ls' t',Nw n item kd ls' t' -> Kp lo ls t ls' t' -> Seg r ls' lo f -> Q true t'):wpS (model prog w) A E s (binarySort' lo f m) Q t:=by
 rw [binarySort'_eq]
 refine wpS_bind (wpS_mono (wpS_forRange (fun k c t'=>c = (none,()) /\ ∃ ls',Nw n item kd ls' t' /\ Kp lo ls t ls' t' /\ Seg r ls' lo (min k f)) (Q:=fun c t'=>c = (none,()) /\ ∃ ls',Nw n item kd ls' t' /\ Kp lo ls t ls' t' /\ Seg r ls' lo f) ?_ ?_ ⟨rfl,ls,N,⟨rfl,fun _ _=>rfl⟩,fun i j i1 i2 i3=>?_⟩) ?_)
 ·rintro k c t' hk hkn ⟨rfl, ls', N', K', U'⟩
  rw [show min k f = k by lia] at U'
  have hsz:=N'.size
  refine wpS_bind (wpS_mono (wpS_forRange (fun x c t2=>t2 = t' /\ ∃ l h,c = (none,l,h) /\ l <= h /\ h <= k /\ h - l <= k - x /\ (∀ i,i < l -> r (lab ls' (lo + k)) (lab ls' (lo + i)) = false) /\ ∀ i,h <= i -> i < k -> r (lab ls' (lo + i)) (lab ls' (lo + k)) = false)
   (Q:=fun c t2=>t2 = t' /\ ∃ l h,c = (none,l,h) /\ l <= k /\ (∀ i,i < l -> r (lab ls' (lo + k)) (lab ls' (lo + i)) = false) /\ ∀ i,l <= i -> i < k -> r (lab ls' (lo + i)) (lab ls' (lo + k)) = false) ?_ ?_ ⟨rfl,0,k,rfl,by lia,by lia,by lia,fun i hi=>by lia,fun i h1 h2=>by lia⟩) ?_)
  ·rintro x c t2 _ hx ⟨rfl, l, h, rfl, g1, g2, g3, g4, g5⟩
   dsimp only
   refine wpS_ite (fun hd=>wpS_pure ⟨rfl,l,h,rfl,by lia,g4,fun i i1 i2=>g5 i (by lia) i2⟩) (fun hd=>?_)
   refine wpS_bind (at_l R N' (by lia) (by lia) (by lia) ?_)
   cases z:r (lab ls' (lo + k)) (lab ls' (lo + (l + h) / 2))
   ·refine wpS_pure ⟨rfl, (l + h) / 2 + 1, h, rfl, by lia, by lia, by lia, fun i hi => ?_, g5⟩
    by_cases e:i = (l + h) / 2
    ·rw [e]; exact z
    ·exact R.tr _ _ _ (N'.lt (by lia)) (N'.lt (i:=lo + (l + h) / 2) (by lia)) (N'.lt (by lia)) (U' (lo + i) (lo + (l + h) / 2) (by lia) (by lia) (by lia)) z
   ·have z' := R.asy _ _ (N'.lt (by lia)) (N'.lt (by lia)) z
    refine wpS_pure ⟨rfl,l,(l + h) / 2,rfl,by lia,by lia,by lia,g4,fun i i1 i2=>?_⟩
    by_cases e:i = (l + h) / 2
    ·rw [e]; exact z'
    ·exact R.tr _ _ _ (N'.lt (by lia)) (N'.lt (i:=lo + (l + h) / 2) (by lia)) (N'.lt (by lia)) z' (U' (lo + (l + h) / 2) (lo + i) (by lia) (by lia) (by lia))
  ·rintro c t2 ⟨rfl, l, h, rfl, g1, g2, g3, g4, g5⟩
   exact ⟨rfl,l,h,rfl,by lia,g4,fun i i1 i2=>g5 i (by lia) i2⟩
  ·rintro c t2 ⟨rfl, l, h, rfl, g1, g2, g3⟩
   show wpS (model prog w) A E s (moveDown' (lo + k) (lo + l) >>= fun _=>pure (ForInStep.yield (none,()))) _ t2
   rw [moveDown'_eq]
   refine wpS_bind (wpS_modify (wpS_pure ⟨rfl,_,N'.bub (src:=lo + k) (d:=lo + k - (lo + l)) (by lia) (by lia),⟨K'.p,fun p hp=>?_⟩,?_⟩))
   ·rw [bub_lab (by lia) (by lia) (by lia), if_neg (by lia), if_neg (by lia)]
    exact K'.l p hp
   ·rw [show min (k + 1) f = k + 1 by lia]
    intro i j i1 hij hj
    have el:lo + k - (lo + k - (lo + l)) = lo + l:=by lia
    have F2:∀ i,lo <= i -> i < lo + l -> r (lab ls' (lo + k)) (lab ls' i) = false:=fun i i1 i2=>by
     have:=g2 (i - lo) (by lia)
     rwa [show lo + (i - lo) = i by lia] at this
    have F3:∀ i,lo + l <= i -> i < lo + k -> r (lab ls' i) (lab ls' (lo + k)) = false:=fun i i1 i2=>by
     have:=g3 (i - lo) (by lia) (by lia)
     rwa [show lo + (i - lo) = i by lia] at this
    rw [bub_lab (by lia) (by lia) (by lia),bub_lab (by lia) (by lia) (by lia),el]
    by_cases c1:i = lo + l
    ·rw [if_neg (show ¬ j = lo + l by lia), if_pos (show lo + l < j /\ j <= lo + k by lia), if_pos c1]
     exact F3 _ (by lia) (by lia)
    ·rw [if_neg c1]
     by_cases c2:j = lo + l
     ·rw [if_pos c2, if_neg (show ¬ (lo + l < i /\ i <= lo + k) by lia)]
      exact F2 _ i1 (by lia)
     ·rw [if_neg c2]
      by_cases c3:lo + l < i /\ i <= lo + k
      ·rw [if_pos c3, if_pos (show lo + l < j /\ j <= lo + k by lia)]
       exact U' _ _ (by lia) (by lia) (by lia)
      ·rw [if_neg c3]
       by_cases c4:lo + l < j /\ j <= lo + k
       ·rw [if_pos c4]; exact U' _ _ (by lia) (by lia) (by lia)
       ·rw [if_neg c4]; exact U' _ _ (by lia) (by lia) (by lia)
 ·rintro c t' ⟨rfl, ls', N', K', U'⟩
  rw [show min (max (max m 1) f) f = f by lia] at U'
  exact ⟨rfl,ls',N',K',U'⟩
 ·exact U i j i1 i2 (by lia)
 ·rintro c t' ⟨rfl, ls', N', K', U'⟩
  exact wpS_pure (q ls' t' N' K' U')
end
end L2.Srt
set_option maxRecDepth 100000
set_option maxHeartbeats 1000000
namespace L2.Srt
open PySem PyProof.Rows
def Ch (r:Nat -> Nat -> Bool) (ls:Array Nat):Nat -> List (Nat × Nat) -> Nat -> Prop
 | a,[],b=>a = b
 | a,(s,m) :: rest,b=>s = a /\ 1 <= m /\ Seg r ls s m /\ Ch r ls (a + m) rest b
def prs (p:Array (Nat × Nat × Nat)):List (Nat × Nat):=p.toList.map fun x=>(x.1,x.2.1)
section
variable {r:Nat -> Nat -> Bool} {ls ls':Array Nat}
theorem Ch.len:∀ {l:List (Nat × Nat)} {a b:Nat},Ch r ls a l b -> a + l.length <= b
 | [],a,b,h=>by rw [show a = b from h]; exact Nat.le_refl _
 | (s,m) :: l,a,b,h=>by have:=h.2.2.2.len; have:=h.2.1; rw [List.length_cons]; lia
theorem Ch.split:∀ {l1 l2:List (Nat × Nat)} {a b:Nat},Ch r ls a (l1 ++ l2) b -> ∃ c,Ch r ls a l1 c /\ Ch r ls c l2 b
 | [],l2,a,b,h=>⟨a,rfl,h⟩
 | (s,m) :: l1,l2,a,b,h=>by
  obtain ⟨c,h1,h2⟩:=h.2.2.2.split
  exact ⟨c,⟨h.1,h.2.1,h.2.2.1,h1⟩,h2⟩
theorem Ch.join:∀ {l1 l2:List (Nat × Nat)} {a b c:Nat},Ch r ls a l1 c -> Ch r ls c l2 b -> Ch r ls a (l1 ++ l2) b
 | [],l2,a,b,c,h,g=>by rw [show a = c from h]; exact g
 | (s,m) :: l1,l2,a,b,c,h,g=>⟨h.1,h.2.1,h.2.2.1,h.2.2.2.join g⟩
theorem Seg.same {s m:Nat} (h:Seg r ls s m) (e:∀ k,s <= k -> k < s + m -> lab ls' k = lab ls k):Seg r ls' s m:=fun i j i1 i2 i3=>by
 rw [e i i1 (by lia),e j (by lia) i3]; exact h i j i1 i2 i3
theorem Ch.same:∀ {l:List (Nat × Nat)} {a b:Nat},Ch r ls a l b -> (∀ k,a <= k -> k < b -> lab ls' k = lab ls k) -> Ch r ls' a l b
 | [],a,b,h,_=>h
 | (s,m) :: l,a,b,h,e=>by
  have z:=h.2.2.2.len
  have hsa:=h.1
  exact ⟨h.1,h.2.1,h.2.2.1.same fun k k1 k2=>e k (by lia) (by lia),h.2.2.2.same fun k k1 k2=>e k (by lia) k2⟩
end
section
variable {prog:Program} {w:World} {A:Around} {E:Value -> Shared -> Prop} {s:Shared} {n:Nat} {item:Nat -> Keyed} {kd:SortKind} {r:Nat -> Nat -> Bool} {ls:Array Nat} {t:SortSt}
theorem mat_ch (R:WRule prog w A s n item kd r) (N:Nw n item kd ls t) {lo i:Nat} (hlo:lo <= n) (C:Ch r ls 0 (prs (pendingOf t)) lo) (hi:i + 1 < (pendingOf t).size) {Q:Bool -> SortSt -> Prop}
  (q:∀ ls' t',Nw n item kd ls' t' -> Ch r ls' 0 (prs (pendingOf t')) lo -> (pendingOf t').size + 1 = (pendingOf t).size -> (∀ k,lo <= k -> lab ls' k = lab ls k) -> Q true t'):wpS (model prog w) A E s (mergeAt' i) Q t:=by
 have hl:(pendingOf t).toList.length = (pendingOf t).size:=Array.length_toList
 have e1:(pendingOf t).toList = (pendingOf t).toList.take i ++ (pendingOf t)[i] :: (pendingOf t)[i + 1] :: (pendingOf t).toList.drop (i + 2):=by
  conv=>lhs; rw [<- List.take_append_drop i (pendingOf t).toList]
  congr 1
  rw [List.drop_eq_getElem_cons (by lia),List.drop_eq_getElem_cons (by lia)]
  simp
 rcases ha:(pendingOf t)[i] with ⟨sa,na,p⟩
 rcases hb:(pendingOf t)[i + 1] with ⟨sb,nb,p2⟩
 rw [ha,hb] at e1
 have C':=C
 unfold prs at C'
 rw [e1,List.map_append] at C'
 obtain ⟨c,c1,c2⟩:=C'.split
 obtain ⟨rfl,na1,sga,c3⟩:=c2
 obtain ⟨rfl,nb1,sgb,c4⟩:=c3
 dsimp only at na1 nb1 sga sgb c4
 have z4:=c4.len
 refine mat R N (by rw [Array.getElem?_eq_getElem (by lia),ha]) (by rw [Array.getElem?_eq_getElem (by lia),hb]) rfl na1 nb1 (by lia) sga sgb fun ls' t' N' P' S' G'=>?_
 have e2:(pendingOf t').toList = (pendingOf t).toList.take i ++ (sa,na + nb,p) :: (pendingOf t).toList.drop (i + 2):=by
  rw [P',Array.toList_eraseIdxIfInBounds,Array.toList_setIfInBounds]
  have hti:((pendingOf t).toList.take i).length = i:=by rw [List.length_take]; lia
  generalize (pendingOf t).toList.take i = l1 at e1 hti ⊢
  generalize (pendingOf t).toList.drop (i + 2) = l2 at e1 ⊢
  rw [e1,List.set_append_right _ _ (by lia),hti,Nat.sub_self,List.set_cons_zero,List.eraseIdx_append_of_length_le (by lia),hti,Nat.add_sub_cancel_left]
  rfl
 have hsz:(pendingOf t').size + 1 = (pendingOf t).size:=by
  rw [<- Array.length_toList,e2,List.length_append,List.length_cons,List.length_take,List.length_drop]
  lia
 refine q ls' t' N' ?_ hsz fun k hk=>S' k (.inr (Nat.le_trans (by lia) hk))
 unfold prs
 rw [e2,List.map_append]
 refine Ch.join (c1.same fun k k1 k2=>S' k (.inl k2)) ⟨rfl,Nat.le_trans na1 (Nat.le_add_right ..),G',?_⟩
 rw [<- Nat.add_assoc]
 exact c4.same fun k k1 k2=>S' k (.inr k1)
theorem ite_dec {c:Prop} [Decidable c] {x:Nat}:(if c then x - 1 else x) <= x:=by split <;> lia
theorem prs_mod {p:Array (Nat × Nat × Nat)} {i g:Nat}:prs (p.modify i fun x=>(x.1,x.2.1,g)) = prs p:=by
 unfold prs
 rw [Array.toList_modify]
 refine List.ext_getElem? fun k=>?_
 rw [List.getElem?_map,List.getElem?_map,List.getElem?_modify]
 cases p.toList[k]? with
 | none=>rfl
 | some x=>by_cases h:i = k <;> simp [h]
theorem all_l (R:WRule prog w A s n item kd r) (N:Nw n item kd ls t) (hp:pendingOf t = #[]) (h2:2 <= n) {Q:Unit -> SortSt -> Prop} (q:∀ ls' t',arrOf t' = ls'.map item -> failedOf t' = none -> ls'.Perm (Array.range n) -> Seg r ls' 0 n -> Q () t'):wpS (model prog w) A E s sortRuns' Q t:=by
 rw [sortRuns'_eq]
 refine wpS_bind (wpS_get ?_)
 have esz:(arrOf t).size = n:=by rw [N.arr,Array.size_map,N.size]
 dsimp only
 simp only [esz]
 generalize minRun' n n 0 = mr
 refine wpS_bind (wpS_mono (wpS_forRange (fun x c t'=>∃ (ls':Array Nat) (lo:Nat),c = (none,lo) /\ Nw n item kd ls' t' /\ Ch r ls' 0 (prs (pendingOf t')) lo /\ lo <= n /\ x <= lo) (Q:=fun c t'=>∃ ls':Array Nat,c = (none,n) /\ Nw n item kd ls' t' /\ Ch r ls' 0 (prs (pendingOf t')) n) ?_ ?_ ⟨ls,0,rfl,N,?_,by lia,by lia⟩) ?_)
 ·rintro x c t' _ hx ⟨ls1, lo, rfl, N1, C1, l1, l2⟩
  dsimp only
  refine wpS_ite (fun e=>?_) (fun e=>?_)
  ·obtain rfl : lo = n := by lia
   exact wpS_pure ⟨ls1,rfl,N1,C1⟩
  ·refine wpS_bind (run_l R N1 (by lia) (by lia) fun m ls2 t2 m1 m2 N2 K2 S2 => ?_)
   dsimp only
   have C2:Ch r ls2 0 (prs (pendingOf t2)) lo:=by rw [K2.p]; exact C1.same fun k _ hk=>K2.l k hk
   have close:∀ (m:Nat) (l3:Array Nat) (t3:SortSt),1 <= m -> m <= n - lo -> Nw n item kd l3 t3 -> Ch r l3 0 (prs (pendingOf t3)) lo -> Seg r l3 lo m ->
     ∃ (l':Array Nat) (lo':Nat),((none,lo + m):Option Unit × Nat) = (none,lo') /\ Nw n item kd l' (setPending t3 ((pendingOf t3).push (lo,m,0))) /\ Ch r l' 0 (prs (pendingOf (setPending t3 ((pendingOf t3).push (lo,m,0))))) lo' /\ lo' <= n /\ x + 1 <= lo':=fun m l3 t3 m1 m2 N3 C3 S3=>by
    refine ⟨l3,lo + m,rfl,⟨N3.arr,N3.kd,N3.ok,N3.perm⟩,?_,by lia,by lia⟩
    show Ch r l3 0 (prs ((pendingOf t3).push (lo,m,0))) (lo + m)
    unfold prs at C3 ⊢
    rw [Array.toList_push,List.map_append]
    exact C3.join ⟨rfl,m1,S3,rfl⟩
   have step:∀ (pw:Nat) (m:Nat) (l3:Array Nat) (t3:SortSt),Nw n item kd l3 t3 -> Ch r l3 0 (prs (pendingOf t3)) lo -> Seg r l3 lo m -> lo + m <= n -> ∀ (i:Nat) (Q:Bool -> SortSt -> Prop),i + 1 < (pendingOf t3).size -> (∀ l4 t4,Nw n item kd l4 t4 -> Ch r l4 0 (prs (pendingOf t4)) lo -> Seg r l4 lo m -> Q true t4) -> wpS (model prog w) A E s (mergeAt' i) Q t3:=fun pw m l3 t3 N3 C3 S3 hm i Q hi hQ =>
    mat_ch R N3 l1 C3 hi fun l4 t4 N4 C4 _ K4=>hQ l4 t4 N4 C4 (S3.same fun k k1 _=>K4 k k1)
   refine wpS_ite (fun g=>wpS_bind (wpS_lift (wpAny_rule ⟨rfl,wpS_bind (put_l R N2 (by lia) (by lia) S2 fun l3 t3 N3 K3 S3=>?_)⟩))) (fun g=>?_)
   case' refine_1 =>
    simp only [Bool.not_true,Bool.false_eq_true,if_false]
    have C3:Ch r l3 0 (prs (pendingOf t3)) lo:=by rw [K3.p]; exact C2.same fun k _ hk=>K3.l k hk
    have m3:1 <= min (n - lo) mr:=by lia
    have m4:min (n - lo) mr <= n - lo:=Nat.min_le_left ..
    generalize min (n - lo) mr = f at m3 m4 S3 ⊢
    clear N2 K2 S2 C2 K3
   case' refine_2 =>
    have N3:=N2
    have C3:=C2
    have S3:=S2
    have m3:=m1
    have m4:=m2
    clear N2 K2 S2 C2
    generalize ls2 = l3 at *
    generalize t2 = t3 at *
    generalize m = f at *
   all_goals
    refine wpS_bind (wpS_get ?_)
    cases hbk:(pendingOf t3).back? with
    | none=>exact wpS_bind (wpS_modify (wpS_pure (close f l3 t3 m3 m4 N3 C3 S3)))
    | some y =>
     obtain ⟨s1,n1,p1⟩:=y
     dsimp only
     generalize power' n (2 * s1 + n1) (2 * s1 + n1 + n1 + f) n = pw
     refine wpS_bind (wpS_mono (wpS_forRange (fun x c t4=>c = (none,()) /\ ∃ l4,Nw n item kd l4 t4 /\ Ch r l4 0 (prs (pendingOf t4)) lo /\ Seg r l4 lo f) (Q:=fun c t4=>c = (none,()) /\ ∃ l4,Nw n item kd l4 t4 /\ Ch r l4 0 (prs (pendingOf t4)) lo /\ Seg r l4 lo f) ?_ (fun _ _ h=>h) ⟨rfl,l3,N3,C3,S3⟩) ?_)
     ·rintro x c t4 _ _ ⟨rfl, l4, N4, C4, S4⟩
      refine wpS_bind (wpS_get ?_)
      by_cases hsz:(pendingOf t4).size > 1
      ·rw [if_pos hsz, Array.getElem?_eq_getElem (by lia)]
       rcases (pendingOf t4)[(pendingOf t4).size - 2] with ⟨a,b,older⟩
       dsimp only
       refine wpS_ite (fun _=>wpS_pure ⟨rfl,l4,N4,C4,S4⟩) (fun _=>?_)
       refine wpS_bind (step pw f l4 t4 N4 C4 S4 (by lia) _ _ (by lia) fun l5 t5 N5 C5 S5=>?_)
       exact wpS_pure ⟨rfl,l5,N5,C5,S5⟩
      ·rw [if_neg hsz]
       exact wpS_pure ⟨rfl,l4,N4,C4,S4⟩
     ·rintro c t4 ⟨rfl, l4, N4, C4, S4⟩
      dsimp only
      refine wpS_bind (wpS_modify (wpS_bind (wpS_modify (wpS_pure (close f l4 _ m3 m4 ⟨N4.arr,N4.kd,N4.ok,N4.perm⟩ ?_ S4)))))
      show Ch r l4 0 (prs ((pendingOf t4).modify ((pendingOf t4).size - 1) fun x=>(x.1,x.2.1,pw))) lo
      rw [prs_mod]
      exact C4
 ·rintro c t' ⟨ls1, lo, rfl, N1, C1, l1, l2⟩
  obtain rfl:lo = n:=by lia
  exact ⟨ls1,rfl,N1,C1⟩
 ·rw [hp]; rfl
 ·rintro c t' ⟨ls1, rfl, N1, C1⟩
  dsimp only
  have z0:=C1.len
  have zp:∀ t2:SortSt,(prs (pendingOf t2)).length = (pendingOf t2).size:=fun t2=>by unfold prs; rw [List.length_map,Array.length_toList]
  rw [zp] at z0
  refine wpS_bind (wpS_mono (wpS_forRange (fun x c t2=>c = (none,()) /\ ∃ l2,Nw n item kd l2 t2 /\ Ch r l2 0 (prs (pendingOf t2)) n /\ (pendingOf t2).size + x <= n) (Q:=fun c t2=>c = (none,()) /\ ∃ l2,Nw n item kd l2 t2 /\ Ch r l2 0 (prs (pendingOf t2)) n /\ (pendingOf t2).size <= 1) ?_ ?_ ⟨rfl,ls1,N1,C1,by lia⟩) ?_)
  ·rintro x c t2 _ hx ⟨rfl, l2, N2, C2, zx⟩
   refine wpS_bind (wpS_get ?_)
   refine wpS_ite (fun h=>wpS_pure ⟨rfl,l2,N2,C2,h⟩) (fun h=>?_)
   refine wpS_bind (mat_ch R N2 (Nat.le_refl _) C2 ?_ fun l3 t3 N3 C3 z3 _=>wpS_pure ⟨rfl,l3,N3,C3,by lia⟩)
   exact Nat.lt_of_le_of_lt (Nat.add_le_add_right ite_dec 1) (by lia)
  ·rintro c t2 ⟨rfl, l2, N2, C2, zx⟩
   exact ⟨rfl,l2,N2,C2,by lia⟩
  ·rintro c t2 ⟨rfl, l2, N2, C2, zx⟩
   rw [<- zp] at zx
   refine wpS_pure (q l2 t2 N2.arr N2.ok N2.perm ?_)
   revert C2 zx
   generalize prs (pendingOf t2) = l
   intro C2 zx
   match l,zx with
   | [],_=>exact absurd (show 0 = n from C2) (by lia)
   | [(s1,m1)],_ =>
    obtain ⟨rfl,_,S,e⟩:=C2
    have e:0 + m1 = n:=e
    rw [Nat.zero_add] at e
    rw [<- e]; exact S
end
end L2.Srt
set_option maxRecDepth 100000
namespace L2.Srt
open PySem PyProof.Rows
section
variable {prog:Program} {w:World} {A:Around} {E:Value -> Shared -> Prop} {s:Shared} {n:Nat} {item:Nat -> Keyed} {kd:SortKind} {r:Nat -> Nat -> Bool} {ls:Array Nat} {t:SortSt}
theorem Rule.weak (R:Rule prog w A s n item kd r):WRule prog w A s n item kd fun a b=>!decide (a = b) && r a b where
 asy:=fun a b ha hb h=>by
  by_cases e:a = b
  ·simp [e] at h
  ·have e' : ¬ b = a := fun z => e z.symm
   simp [e] at h
   have:=R.tot b a hb ha e'
   rw [h] at this
   simp [this]
 tr := fun a b c ha hb hc h1 h2 => by
  by_cases e1:b = a
  ·rw [e1] at h2; exact h2
  ·by_cases e2 : c = b
   ·rw [e2]; exact h1
   ·by_cases e3 : c = a
    ·simp [e3]
    ·simp [e1] at h1
     simp [e2] at h2
     simp [e3]
     have g1:=R.tot b a hb ha e1
     have g2:=R.tot c b hc hb e2
     have g3:=R.tot c a hc ha e3
     rw [h1] at g1
     rw [h2] at g2
     have g4:=R.tr a b c ha hb hc (by simpa using g1.symm) (by simpa using g2.symm)
     rw [g3,g4]; rfl
 cmp:=fun a b ha hb h E Q q=>R.cmp a b ha hb h E Q (by simpa [h] using q)
end
end L2.Srt
set_option maxRecDepth 100000
namespace L2.Srt
open PySem PyProof.Rows
abbrev pairAt (vs:List Value):Nat -> Keyed:=fun i=>(vs.getD i .none,vs.getD i .none)
theorem range_pairs (vs:List Value):vs.toArray.zip vs.toArray = (Array.range vs.length).map (pairAt vs):=by
 refine Array.ext_getElem? fun k=>?_
 rw [Array.getElem?_map]
 by_cases h:k < vs.length
 ·have e1 : (Array.range vs.length)[k]? = some k := by rw [Array.getElem?_range, if_pos h]
  rw [e1]
  have e2:(vs.toArray.zip vs.toArray)[k]? = some (vs[k],vs[k]):=by
   rw [Array.getElem?_eq_getElem (by simpa using h)]
   simp
  rw [e2]
  simp [pairAt,List.getD_eq_getElem?_getD,h]
 ·rw [Array.getElem?_eq_none (by simp; lia), Array.getElem?_eq_none (by simp; lia)]
  rfl
section
variable {prog:Program} {w:World} {A:Around} {E:Value -> Shared -> Prop} {s:Shared} {r:Nat -> Nat -> Bool} {kd:SortKind}
abbrev during (h:Heap) (a:Addr) (vs:List Value):Heap:=((h.update a (Obj.mapSeq fun _=>#[])).push (seqObj "tuple" vs.toArray 0)).push (seqObj "list" #[] 0)
theorem inPlace {a:Addr} {vs:List Value} {k:Nat} (at0:s.heap.get? a = some (seqObj "list" vs.toArray k)) (h64:vs.length < 2000)
  (hk:2 <= vs.length -> ∀ (E:Value -> Shared -> Prop) (Q:SortKind -> Shared -> Prop),Q kd { s with heap:=during s.heap a vs } -> wpAny (model prog w) A (keyKind' vs.toArray) Q E { s with heap:=during s.heap a vs })
  (hR:2 <= vs.length -> WRule prog w A { s with heap:=during s.heap a vs } vs.length (pairAt vs) kd r) {Q:Fin -> Shared -> Prop}
  (q:∀ ls:Array Nat,ls.Perm (Array.range vs.length) -> Seg r ls 0 vs.length -> Q (.done (.ret .none)) { s with heap:=sortedHeap s.heap a vs (ls.map fun i=>vs.getD i .none) }) :
  wpAny (model prog w) A (Builtin.«list.sort» ⟨[.ref a],[]⟩) Q E s:=by
 have la:=Heap.lt_size at0
 obtain ⟨e1,at1⟩:∃ e1,(s.heap.update a (Obj.mapSeq fun _=>#[])).get? a = some (seqObj "list" #[] e1):=⟨_,get?_update_seq at0 _⟩
 have at2:(during s.heap a vs).get? a = some (seqObj "list" #[] e1):=by
  have n1:a ≠ ((s.heap.update a (Obj.mapSeq fun _=>#[])).push (seqObj "tuple" vs.toArray 0)).objs.size:=by rw [size_push',Heap.size_update]; exact Nat.ne_of_lt (Nat.lt_succ_of_lt la)
  have n2:a ≠ (s.heap.update a (Obj.mapSeq fun _=>#[])).objs.size:=by rw [Heap.size_update]; exact Nat.ne_of_lt la
  exact (Heap.get?_push_ne _ _ _ n1).trans ((Heap.get?_push_ne _ _ _ n2).trans at1)
 rw [list_sort_plain]
 refine wpAny_bind (listItems_at at0 rfl ?_)
 refine wpAny_bind (listUpdate_at at0 rfl (wpAny_bind (seqEpoch_at at1 rfl ?_)))
 refine wpAny_bind (wpAny_newTuple (wpAny_bind (wpAny_newList (wpAny_holding ?_))))
 show wpAny (model prog w) A _ Q E { s with heap:=during s.heap a vs }
 dsimp only
 have fin:∀ (t:SortSt) (ls:Array Nat),arrOf t = ls.map (pairAt vs) -> failedOf t = none -> ls.Perm (Array.range vs.length) -> Seg r ls 0 vs.length ->
   wpAny (model prog w) A (do
    let touched:=(<- seqEpoch a) != e1
    Builtin.List.listUpdate (.ref a) fun _=>(arrOf t).map (·.2)
    if let some e:=failedOf t then rule "list.sort.comparison-raised"; throw e
    if touched then rule "list.sort.modified"; raiseError "ValueError" "list modified during sort"
    ret .none) Q E { s with heap:=during s.heap a vs }:=fun t ls h1 h2 h3 h4=>by
  have ea:(arrOf t).map (·.2) = ls.map fun i=>vs.getD i .none:=by rw [h1,Array.map_map]; rfl
  have es:((arrOf t).map (·.2)).size <= 2000:=by rw [ea,Array.size_map,h3.size_eq,Array.size_range]; lia
  refine wpAny_bind (seqEpoch_at at2 rfl ?_)
  refine wpAny_bind (listUpdate_at at2 rfl ?_ (hsz2:=by rw [sizeLine_eq]; exact Nat.le_trans es (by decide)))
  rw [h2,ea]
  simp only [bne_self_eq_false,Bool.false_eq_true,if_false]
  exact wpAny_pure (q ls h3 h4)
 by_cases c:vs.toArray.size < 2
 ·rw [if_pos c, if_pos c]
  refine wpAny_bind (wpAny_pure ?_)
  rw [StateT.run_pure]
  refine wpAny_bind (wpAny_pure (fin _ (Array.range vs.length) (range_pairs vs) rfl (Array.Perm.refl _) fun i j i1 hij hj=>?_))
  have:vs.length < 2:=by simpa using c
  lia
 ·rw [if_neg c, if_neg c]
  have h2:2 <= vs.length:=by simpa using c
  refine wpAny_bind (hk h2 _ _ ?_)
  have N0:Nw vs.length (pairAt vs) kd (Array.range vs.length) (SortSt.mk' kd (vs.toArray.zip vs.toArray) #[] 7 none):=⟨range_pairs vs,rfl,rfl,Array.Perm.refl _⟩
  refine wpAny_bind (wpAny_mono (all_l (hR h2) N0 rfl h2 (Q:=fun _ t=>∃ ls:Array Nat,arrOf t = ls.map (pairAt vs) /\ failedOf t = none /\ ls.Perm (Array.range vs.length) /\ Seg r ls 0 vs.length) fun ls t a1 a2 a3 a4=>⟨ls,a1,a2,a3,a4⟩) ?_ fun _ _ e=>e)
  rintro ⟨_,t⟩ s' ⟨rfl,ls,a1,a2,a3,a4⟩
  exact fin t ls a1 a2 a3 a4
def Col (prog:Program) (w:World) (s:Shared) (l:Addr) (vs:List Value):Prop:=∀ (B:Around) (E:Value -> Shared -> Prop) (Q:List Value -> Shared -> Prop),vs.length <= sizeLine -> Q vs { s with heap:=(s.heap.push (seqObj "list" #[] 0)).update s.heap.objs.size (Obj.mapSeq (· ++ vs.toArray)) } -> wpAny (model prog w) B (collect (.ref l)) Q E s
theorem sortedAnyC {l:Addr} {vs:List Value} (hc:Col prog w s l vs) (h64:vs.length < 2000)
    (hk:2 <= vs.length -> ∀ (h':Heap),(∀ b o,s.heap.get? b = some o -> h'.get? b = some o) -> ∀ (B:Around),B.units <= A.units + 3 -> ∀ (E:Value -> Shared -> Prop) (Q:SortKind -> Shared -> Prop),Q kd { s with heap:=h' } -> wpAny (model prog w) B (keyKind' vs.toArray) Q E { s with heap:=h' })
    (hR:2 <= vs.length -> ∀ (h':Heap),(∀ b o,s.heap.get? b = some o -> h'.get? b = some o) -> ∀ (B:Around),B.units <= A.units + 3 -> WRule prog w B { s with heap:=h' } vs.length (pairAt vs) kd r) {Q:Value -> Shared -> Prop}
    (q:∀ ls:Array Nat,ls.Perm (Array.range vs.length) -> Seg r ls 0 vs.length -> Q (.ref (s.heap.objs.size + 1)) { s with heap:=sortedAll s.heap vs (ls.map fun i=>vs.getD i .none) }) :
    wpAny (model prog w) A (call (.builtin "sorted") [.ref l]) Q E s:=by
  refine Calls.call_function_entry kind_sorted plain_sorted entry_sorted (args_sorted1 _) ?_
  unfold Builtin.«sorted»
  refine wpAny_bind (m:=checkCount "sorted" 1 1 _) (wpAny_pure (wpAny_bind (hc _ _ _ (Nat.le_trans (Nat.le_of_lt h64) (by rw [sizeLine_eq]; decide)) (wpAny_bind (wpAny_newList ?_)))))
  have z1:((s.heap.push (seqObj "list" #[] 0)).update s.heap.objs.size (Obj.mapSeq (· ++ vs.toArray))).objs.size = s.heap.objs.size + 1:=by rw [Heap.size_update,size_push']
  let h1:Heap:=((s.heap.push (seqObj "list" #[] 0)).update s.heap.objs.size (Obj.mapSeq (· ++ vs.toArray))).push (seqObj "list" vs.toArray 0)
  have at1:h1.get? (s.heap.objs.size + 1) = some (seqObj "list" vs.toArray 0):=by rw [<- z1]; exact Heap.get?_push_size _ rfl
  have old1:∀ b o,s.heap.get? b = some o -> h1.get? b = some o:=fun b o e=>by
    have lb:=Heap.lt_size e
    refine Heap.get?_push_of_some _ ?_
    rw [Heap.get?_update_ne _ _ _ _ (Nat.ne_of_lt lb)]
    exact Heap.get?_push_of_some _ e
  have old2:∀ b o,s.heap.get? b = some o -> (during h1 (s.heap.objs.size + 1) vs).get? b = some o:=fun b o e=>by
    have lb:=Heap.lt_size e
    refine Heap.get?_push_of_some _ (Heap.get?_push_of_some _ ?_)
    rw [Heap.get?_update_ne _ _ _ _ (Nat.ne_of_lt (Nat.lt_succ_of_lt lb))]
    exact old1 b o e
  have eH:∀ out:Array Value,sortedHeap h1 (s.heap.objs.size + 1) vs out = sortedAll s.heap vs out:=fun _=>rfl
  have body:∀ B:Around,B.units <= A.units + 3 -> ∀ (E:Value -> Shared -> Prop) (P:Fin -> Shared -> Prop),(∀ ls:Array Nat,ls.Perm (Array.range vs.length) -> Seg r ls 0 vs.length -> P (.done (.ret .none)) { s with heap:=sortedAll s.heap vs (ls.map fun i=>vs.getD i .none) }) ->
      wpAny (model prog w) B (Builtin.«list.sort» ⟨[.ref (s.heap.objs.size + 1)],[]⟩) P E { s with heap:=h1 }:=fun B hB E P p =>
    inPlace (s:={ s with heap:=h1 }) at1 h64 (fun h2 E Q q=>hk h2 _ old2 B hB E Q q) (fun h2=>hR h2 _ old2 B hB) fun ls a1 a2=>by
      show P _ { s with heap:=sortedHeap h1 (s.heap.objs.size + 1) vs _ }
      rw [eH]
      exact p ls a1 a2
  show wpAny _ _ _ _ _ { s with heap:=h1 }
  rw [z1]
  clear_value h1
  refine wpAny_bind (wpAny_holding (wpAny_call_entry slot_list_sort ⟨_,at1,rfl⟩ entry_list_sort (body _ ?_ _ _ fun ls a1 a2=>⟨_,rfl,wpAny_pure ⟨_,rfl,q ls a1 a2⟩⟩) (args_list_sort _)))
  show A.units + 1 + 1 <= A.units + 3
  lia
theorem sortedAnyW {l:Addr} {vs:List Value} (hl:s.heap.IsList l vs.toArray) (h64:vs.length < 2000)
  (hk:2 <= vs.length -> ∀ (h':Heap),(∀ b o,s.heap.get? b = some o -> h'.get? b = some o) -> ∀ (B:Around),B.units <= A.units + 3 -> ∀ (E:Value -> Shared -> Prop) (Q:SortKind -> Shared -> Prop),Q kd { s with heap:=h' } -> wpAny (model prog w) B (keyKind' vs.toArray) Q E { s with heap:=h' })
  (hR:2 <= vs.length -> ∀ (h':Heap),(∀ b o,s.heap.get? b = some o -> h'.get? b = some o) -> ∀ (B:Around),B.units <= A.units + 3 -> WRule prog w B { s with heap:=h' } vs.length (pairAt vs) kd r) {Q:Value -> Shared -> Prop}
  (q:∀ ls:Array Nat,ls.Perm (Array.range vs.length) -> Seg r ls 0 vs.length -> Q (.ref (s.heap.objs.size + 1)) { s with heap:=sortedAll s.heap vs (ls.map fun i=>vs.getD i .none) }) :
  wpAny (model prog w) A (call (.builtin "sorted") [.ref l]) Q E s:=sortedAnyC (fun _ _ _ hz h=>collect_list hl h hz) h64 hk hR q
theorem sortedAny {l:Addr} {vs:List Value} (hl:s.heap.IsList l vs.toArray) (h64:vs.length < 2000)
  (hk:2 <= vs.length -> ∀ (h':Heap),(∀ b o,s.heap.get? b = some o -> h'.get? b = some o) -> ∀ (B:Around),B.units <= A.units + 3 -> ∀ (E:Value -> Shared -> Prop) (Q:SortKind -> Shared -> Prop),Q kd { s with heap:=h' } -> wpAny (model prog w) B (keyKind' vs.toArray) Q E { s with heap:=h' })
  (hR:2 <= vs.length -> ∀ (h':Heap),(∀ b o,s.heap.get? b = some o -> h'.get? b = some o) -> ∀ (B:Around),B.units <= A.units + 3 -> Rule prog w B { s with heap:=h' } vs.length (pairAt vs) kd r) {Q:Value -> Shared -> Prop}
  (q:∀ ls:Array Nat,ls.Perm (Array.range vs.length) -> Up r ls vs.length -> Q (.ref (s.heap.objs.size + 1)) { s with heap:=sortedAll s.heap vs (ls.map fun i=>vs.getD i .none) }) :
  wpAny (model prog w) A (call (.builtin "sorted") [.ref l]) Q E s :=
 sortedAnyW hl h64 hk (fun h2 h' o B hB=>(hR h2 h' o B hB).weak) fun ls h4 h5=>q ls h4 fun i j hij hj=>by
  have R:=hR (by lia) s.heap (fun _ _ e=>e) A (by lia)
  have hs:ls.size = vs.length:=by rw [h4.size_eq,Array.size_range]
  have hne:lab ls i ≠ lab ls j:=nd_ne (perm_nodup h4) hij (by lia)
  have z:=h5 i j (by lia) hij (by lia)
  have hne':¬ lab ls j = lab ls i:=fun e=>hne e.symm
  simp [hne'] at z
  rw [R.tot _ _ (perm_lt h4 (mem_lab (by lia))) (perm_lt h4 (mem_lab (by lia))) hne,z]; rfl
end
end L2.Srt
set_option maxRecDepth 100000
namespace L2
open PySem PySem.Spec PyProof.Rows PySem.SeqAt
theorem ints_at:∀ {vs:List Value} {ns:List Int},IntsAre vs ns -> ∀ {i:Nat},i < vs.length -> ∃ t,vs.getD i .none = .int (ns.getD i 0) t
 | _,_,.cons n t h,0,_=>⟨t,rfl⟩
 | _,_,.cons n t h,i + 1,hi=>by
  obtain ⟨u,e⟩:=ints_at h (i:=i) (by simpa using hi)
  exact ⟨u,by simpa using e⟩
theorem ints_len:∀ {vs:List Value} {ns:List Int},IntsAre vs ns -> vs.length = ns.length
 | _,_,.nil=>rfl
 | _,_,.cons n t h=>by simp [ints_len h]
theorem ints_pick {vs:List Value} {ns:List Int} (h:IntsAre vs ns):∀ {ls:List Nat},(∀ i ∈ ls,i < vs.length) -> IntsAre (ls.map fun i=>vs.getD i .none) (ls.map fun i=>ns.getD i 0)
 | [],_=>.nil
 | i :: ls,hl=>by
  obtain ⟨t,e⟩:=ints_at h (hl i (List.mem_cons_self ..))
  rw [List.map_cons,List.map_cons,e]
  exact .cons _ t (ints_pick h fun j hj=>hl j (List.mem_cons_of_mem _ hj))
theorem kind_ints:∀ {vs:List Value} {ns:List Int},IntsAre vs ns -> 2 <= vs.length -> keyKind' vs.toArray = pure oneType'
 | _ :: _ :: _,_,h,_=>keyKind_ints h
 | [],_,_,h=>by simp at h
 | [_],_,_,h=>by simp at h
section
variable {prog:Program} {w:World} {A:Around} {E:Value -> Shared -> Prop} {s:Shared}
theorem sorted_intsC {l : Addr} {vs : List Value} {ns : List Int} {Q : Value -> Shared -> Prop} (hl : Srt.Col prog w s l vs) (hI : IntsAre vs ns) (h9 : vs.length < 2000)
    (h:∀ (out:Array Value) (ns':List Int),IntsAre out.toList ns' -> ns'.Perm ns -> ns'.Pairwise (· <= ·) -> Q (.ref (s.heap.objs.size + 1)) { s with heap:=sortedAll s.heap vs out }) :
    wpAny (model prog w) A (call (.builtin "sorted") [.ref l]) Q E s:=by
  have len:=ints_len hI
  refine Srt.sortedAnyC (kd:=oneType') (r:=fun a b=>decide (ns.getD a 0 < ns.getD b 0)) hl h9 (fun h2 h' o B hB E Q q=>?_) (fun h2 h' o B hB=>⟨fun a b _ _ z=>?_,fun a b c _ _ _ z1 z2=>?_,fun a b ha hb _ E Q q=>?_⟩) fun ls hp hs=>?_
  · rw [kind_ints hI h2]
    exact wpAny_pure q
  · simp at z ⊢; lia
  · simp at z1 z2 ⊢; lia
  · obtain ⟨t, e1⟩ := ints_at hI ha
    obtain ⟨u,e2⟩:=ints_at hI hb
    show wpAny (model prog w) B (keyLt' oneType' (vs.getD a .none) (vs.getD b .none)) Q E _
    rw [e1,e2,keyLt'_oneType]
    exact oneLt_int q
  · have hm : ∀ i ∈ ls.toList, i < vs.length := fun i hi => Srt.perm_lt hp hi
    have hsz:ls.size = vs.length:=by rw [hp.size_eq,Array.size_range]
    refine h _ (ls.toList.map fun i=>ns.getD i 0) (by rw [Array.toList_map]; exact ints_pick hI hm) ?_ ?_
    · have e : (List.range vs.length).map (fun i => ns.getD i 0) = ns := by
        refine List.ext_getElem (by simp [len]) fun i h1 h2=>?_
        rw [List.getElem_map,List.getElem_range,List.getD_eq_getElem?_getD,List.getElem?_eq_getElem h2]; rfl
      have:=(Array.perm_iff_toList_perm.mp hp).map fun i=>ns.getD i 0
      rw [Array.toList_range,e] at this
      exact this
    · rw [List.pairwise_map]
      refine List.pairwise_iff_getElem.mpr fun i j hi hj hij=>?_
      rw [Array.length_toList] at hi hj
      have z:=hs i j (by lia) hij (by lia)
      have ei:=Srt.lab_get (ls:=ls) hi
      have ej:=Srt.lab_get (ls:=ls) hj
      rw [<- Array.getElem?_toList,List.getElem?_eq_getElem (by rw [Array.length_toList]; exact hi)] at ei
      rw [<- Array.getElem?_toList,List.getElem?_eq_getElem (by rw [Array.length_toList]; exact hj)] at ej
      rw [Option.some.inj ei,Option.some.inj ej]
      simp at z
      exact z
end
section
variable {X:Cx} {A:AC}
end
end L2
set_option maxRecDepth 100000
namespace L2.Srt
open PySem PyProof.Rows PySem.SeqAt
section
variable {prog:Program} {w:World} {M:Model} {A:Around} {E:Value -> Shared -> Prop} {s:Shared}
theorem wp_mapM {α β:Type} {f:α -> Sem β} {g:α -> β}:∀ {l:List α} {Q:List β -> Shared -> Prop},(∀ a ∈ l,∀ Q:β -> Shared -> Prop,Q (g a) s -> wpAny M A (f a) Q E s) -> Q (l.map g) s -> wpAny M A (l.mapM f) Q E s
 | [],Q,_,q=>by rw [List.mapM_nil]; exact wpAny_pure q
 | a :: l,Q,h,q=>by
  rw [List.mapM_cons]
  refine wpAny_bind (h a (List.mem_cons_self ..) _ (wpAny_bind (wp_mapM (fun b hb=>h b (List.mem_cons_of_mem _ hb)) (wpAny_pure q))))
theorem wp_mapA {α β:Type} {f:α -> Sem β} {g:α -> β} {l:List α} {Q:Array β -> Shared -> Prop} (h:∀ a ∈ l,∀ Q:β -> Shared -> Prop,Q (g a) s -> wpAny M A (f a) Q E s) (q:Q (l.map g).toArray s):wpAny M A (l.toArray.mapM f) Q E s:=by
 rw [List.mapM_toArray]
 show wpAny M A (List.toArray <$> l.mapM f) Q E s
 rw [map_eq_pure_bind]
 exact wpAny_bind (wp_mapM h (wpAny_pure q))
theorem firstOfTuple'_eq (v:Value):firstOfTuple' v = (do
  if (<- typeOf v) != .type "tuple" then return none
  return (<- Builtin.List.listItems v)[0]?):=rfl
def Tup (h:Heap) (v:Value) (p:Value) (rest:List Value):Prop:=∃ a,v = .ref a /\ IsTup h a (p :: rest).toArray
theorem Tup.type {v p:Value} {rest:List Value} (t:Tup s.heap v p rest):s.TypeIs v "tuple" := by
 obtain ⟨a,rfl,o,ho,hc,_⟩:=t
 exact ⟨o,ho,hc⟩
theorem Tup.items {v p:Value} {rest:List Value} (t:Tup s.heap v p rest) {Q:Array Value -> Shared -> Prop} (q:Q (p :: rest).toArray s):wpAny M A (Builtin.List.listItems v) Q E s:=by
 obtain ⟨a,rfl,o,ho,hc,n,hd⟩:=t
 exact listItems_at ho hd q
theorem kind_tuples {vs : List Value} {fst : Value -> Value} {T : String} (h2 : 2 <= vs.length) (ht : ∀ v ∈ vs, ∃ rest, Tup s.heap v (fst v) rest) (hT : ∀ v ∈ vs, s.TypeIs (fst v) T) {Q : SortKind -> Shared -> Prop} (q : Q (tuples' (Value.type T != Value.type "tuple")) s) : wpAny M A (keyKind' vs.toArray) Q E s := by
  rw [keyKind'_eq]
  refine wpAny_bind (wp_mapA (g:=fun v=>some (fst v)) (fun v hv Q q=>?_) ?_)
  · obtain ⟨rest, t⟩ := ht v hv
    rw [firstOfTuple'_eq]
    refine wpAny_bind (wpAny_typeOf t.type ?_)
    have e:(Value.type "tuple" != Value.type "tuple") = false:=by rfl
    rw [e]
    exact wpAny_bind (t.items (wpAny_pure q))
  · have e : (vs.map fun v => some (fst v)).toArray.all (·.isSome) = true := by simp
    rw [if_pos e]
    refine wpAny_bind (wpAny_rule ?_)
    have e2:((vs.map fun v=>some (fst v)).toArray.filterMap id) = (vs.map fst).toArray:=by
      simp [List.filterMap_map]
    rw [e2,oneTypeOnly'_eq]
    refine wpAny_bind (wpAny_bind (wp_mapA (g:=fun _=>Value.type T) (fun v hv Q q=>?_) ?_))
    · obtain ⟨u, hu, rfl⟩ := List.mem_map.mp hv
      exact wpAny_typeOf (hT u hu) q
    · have e3 : ((vs.map fst).map fun _ => Value.type T).toArray[0]? = some (Value.type T) := by
        cases vs with
        | nil=>simp at h2
        | cons v vs=>simp
      have e4:(((vs.map fst).map fun _=>Value.type T).toArray.all (· == Value.type T)) = true:=by
        simp only [List.all_toArray,List.all_map,List.all_eq_true]
        intro _ _
        show (Value.type T == Value.type T) = true
        simp
      rw [e3]
      dsimp only
      rw [e4]
      exact wpAny_pure (wpAny_pure q)
theorem keyLt'_tuples (f:Bool) (x y:Value):keyLt' (tuples' f) x y = (do
  let xs <- Builtin.List.listItems x
  let ys <- Builtin.List.listItems y
  for ((p,q),i) in (xs.toList.zip ys.toList).zipIdx do
   if !(<- eqBool p q) then return <- oneLt' (f && i == 0) p q
  return xs.size < ys.size):=rfl
inductive Lex (A:Around) (s:Shared) (f:Bool) (b:Bool):Nat -> List Value -> List Value -> Prop
 | alike {i:Nat} {p q:Value} {ps qs:List Value}:EqAt A s p q true -> Lex A s f b (i + 1) ps qs -> Lex A s f b i (p :: ps) (q :: qs)
 | here {i:Nat} {p q:Value} {ps qs:List Value}:EqAt A s p q false -> (∀ (prog:Program) (w:World) (E:Value -> Shared -> Prop) (Q:Bool -> Shared -> Prop),Q b s -> wpAny (model prog w) A (oneLt' (f && i == 0) p q) Q E s) -> Lex A s f b i (p :: ps) (q :: qs)
theorem keyLt_lex {f b:Bool} {x y p q:Value} {ps qs:List Value} (tx:Tup s.heap x p ps) (ty:Tup s.heap y q qs) (L:Lex A s f b 0 (p :: ps) (q :: qs)) {Q:Bool -> Shared -> Prop} (h:Q b s):wpAny (model prog w) A (keyLt' (tuples' f) x y) Q E s:=by
 rw [keyLt'_tuples]
 refine wpAny_bind (tx.items (wpAny_bind (ty.items ?_)))
 refine wpAny_bind (wpAny_forIn_list _ (fun rest c s'=>s' = s /\ c.1 = none /\ ∃ i xs ys,rest = (xs.zip ys).zipIdx i /\ Lex A s f b i xs ys) (fun c s'=>s' = s /\ c.1 = some b) ?turn ?fin _ _ ⟨rfl,rfl,0,p :: ps,q :: qs,by simp,L⟩ |> fun z=>wpAny_mono z ?post fun _ _ e=>e)
 case turn =>
  rintro ⟨⟨u,v⟩,k⟩ rest c s' ⟨rfl,hc,i,xs,ys,e,L⟩
  cases L with
  | alike he L =>
   rw [List.zip_cons_cons,List.zipIdx_cons] at e
   injection e with e1 e2
   injection e1 with e1 e3
   injection e1 with e4 e5
   subst e3 e4 e5
   refine wpAny_bind (he prog w _ _ ?_)
   simp only [Bool.not_true,Bool.false_eq_true,if_false]
   exact wpAny_pure ⟨rfl,rfl,_,_,_,e2,L⟩
  | here he ho =>
   rw [List.zip_cons_cons,List.zipIdx_cons] at e
   injection e with e1 e2
   injection e1 with e1 e3
   injection e1 with e4 e5
   subst e3 e4 e5
   refine wpAny_bind (he prog w _ _ ?_)
   simp only [Bool.not_false,if_true]
   exact wpAny_bind (ho prog w _ _ (wpAny_pure ⟨rfl,rfl⟩))
 case fin =>
  rintro c s' ⟨_,_,i,xs,ys,e,L⟩
  cases L <;> (rw [List.zip_cons_cons,List.zipIdx_cons] at e; cases e)
 case post =>
  rintro c s' ⟨rfl,hc⟩
  obtain ⟨c1,c2⟩:=c
  simp only at hc
  subst hc
  exact wpAny_pure h
theorem oneLt_false_int {i j:Int} {t u:Tok} {Q:Bool -> Shared -> Prop} (h:Q (decide (i < j)) s):wpAny (model prog w) A (oneLt' false (.int i t) (.int j u)) Q E s:=by
 rw [oneLt'_eq]
 simp only [Bool.false_eq_true,if_false]
 exact wpAny_bind (show wpAny (model prog w) A (compareOp .Lt (.int i t) (.int j u)) _ _ _ from PyProof.Rows.lt_int (wpAny_truthy_bool h))
theorem oneLt_false_tup {a b:Addr} {xs ys:Array Value} {ns ms:List Int} (ha:IsTup s.heap a xs) (hb:IsTup s.heap b ys) (hi:IntsAre xs.toList ns) (hj:IntsAre ys.toList ms) (hu:A.units < cLine) {Q:Bool -> Shared -> Prop} (h:Q (HT.lexLt ns ms) s):wpAny (model prog w) A (oneLt' false (.ref a) (.ref b)) Q E s:=by
 rw [oneLt'_eq]
 simp only [Bool.false_eq_true,if_false]
 exact wpAny_bind (show wpAny (model prog w) A (compareOp .Lt (.ref a) (.ref b)) _ _ _ from HT.lt_tupInts ha hb hi hj hu (wpAny_truthy_bool h))
theorem oneLt_any_int (f:Bool) {i j:Int} {t u:Tok} {Q:Bool -> Shared -> Prop} (h:Q (decide (i < j)) s):wpAny (model prog w) A (oneLt' f (.int i t) (.int j u)) Q E s:=by
 cases f with
 | true=>exact oneLt_int h
 | false=>exact oneLt_false_int h
end
end L2.Srt
set_option maxRecDepth 100000
namespace L2
open PySem PySem.Spec PyProof.Rows PySem.SeqAt
def RowV (X:Cx) (H:Hp) (f:Bool) (y:V):Prop:=∀ pins s σ v,Inv X pins σ H s -> RelV y v -> ∃ p rest,Srt.Tup s.heap v p rest /\ s.TypeIs p (if f then "int" else "tuple")
def CmpV (X:Cx) (H:Hp) (f:Bool) (y z:V) (b:Bool):Prop:=∀ pins s σ u v,Inv X pins σ H s -> RelV y u -> RelV z v -> ∀ A:Around,A.units + 60 < cLine -> ∃ p ps q qs,Srt.Tup s.heap u p ps /\ Srt.Tup s.heap v q qs /\ Srt.Lex A s f b 0 (p :: ps) (q :: qs)
def rSortT (X:Cx):List V -> Hp -> VK -> Prop:=fun xs H Q=>∃ (p:Addr) (ys:List V) (f:Bool) (r:Nat -> Nat -> Bool),xs = [.ref p] /\ SqL X.K H p ys /\ ys.length < 900 /\
 (∀ a b,a < ys.length -> b < ys.length -> a ≠ b -> r a b = !r b a) /\ (∀ a b c,a < ys.length -> b < ys.length -> c < ys.length -> r a b = true -> r b c = true -> r a c = true) /\
 (∀ a,a < ys.length -> RowV X H f (ys.getD a .non)) /\ (∀ a b,a < ys.length -> b < ys.length -> a ≠ b -> CmpV X H f (ys.getD a .non) (ys.getD b .non) (r a b)) /\
 ∀ ls:Array Nat,ls.Perm (Array.range ys.length) -> Srt.Up r ls ys.length -> ∀ l,H l = none -> Q (.ref l) (upd H l (.lst (ls.toList.map fun i=>ys.getD i .non)))
theorem Vals.getD {xs:List V} {us:List Value} (h:Vals xs us) {i:Nat} (hi:i < xs.length):RelV (xs.getD i .non) (us.getD i .none):=by
 obtain ⟨u,e,r⟩:=h.get (List.getElem?_eq_getElem hi)
 rw [List.getD_eq_getElem?_getD,List.getD_eq_getElem?_getD,e,List.getElem?_eq_getElem hi]
 exact r
theorem vals_pick {xs:List V} {us:List Value} (h:Vals xs us):∀ {ls:List Nat},(∀ i ∈ ls,i < xs.length) -> Vals (ls.map fun i=>xs.getD i .non) (ls.map fun i=>us.getD i .none)
 | [],_=>.nil
 | i :: ls,hl=>.cons (h.getD (hl i (List.mem_cons_self ..))) (vals_pick h fun j hj=>hl j (List.mem_cons_of_mem _ hj))
section
variable {X:Cx}
theorem call_sortT {n:Nat} (hr:Room n X.A):CallR X (.builtin "sorted") (rSortT X):=by
 classical
 intro pins s σ H xs us Q I r h
 obtain ⟨p,ys,f,rr,rfl,hq,hn,tot,tr,row,cmp,q⟩:=h
 obtain ⟨u,rfl,hu⟩:=vals1 r
 have hu':u = .ref p:=hu
 subst hu'
 obtain ⟨its,rv,pl,_⟩:=I.list hq
 have len:=rv.length
 have un:=hr.un
 have ixd:∀ v ∈ its,∃ i,i < ys.length /\ v = its.getD i .none:=fun v hv=>by
  obtain ⟨i,hi,e⟩:=List.getElem_of_mem hv
  exact ⟨i,by lia,by rw [List.getD_eq_getElem?_getD,List.getElem?_eq_getElem hi,e]; rfl⟩
 refine Srt.sortedAny (r:=rr) (kd:=tuples' f) pl.isList (by lia) (fun h2 h' keep B hB E Q q=>?_) (fun h2 h' keep B hB=>?_) (fun ls hp hU=>?_)
 ·have I' : Inv X pins σ H { s with heap := h' } := I.kept (t' := s.toks) keep
  have each:∀ v ∈ its,∃ p rest,Srt.Tup h' v p rest /\ Shared.TypeIs { s with heap:=h' } p (if f then "int" else "tuple"):=fun v hv=>by
   obtain ⟨i,hi,rfl⟩:=ixd v hv
   exact row i hi pins _ σ _ I' (rv.getD hi)
  refine Srt.kind_tuples (s:={ s with heap:=h' }) (T:=if f then "int" else "tuple") (fst:=fun v=>if h:∃ p rest,Srt.Tup h' v p rest /\ Shared.TypeIs { s with heap:=h' } p (if f then "int" else "tuple") then h.choose else v) (by lia) (fun v hv=>?_) (fun v hv=>?_) ?_
  ·have e := each v hv
   obtain ⟨rest,t,_⟩:=e.choose_spec
   exact ⟨rest,by rw [dif_pos e]; exact t⟩
  ·have e := each v hv
   obtain ⟨rest,_,t⟩:=e.choose_spec
   show Shared.TypeIs _ (if h:_ then _ else _) _
   rw [dif_pos e]; exact t
  ·cases f
   ·exact q
   ·exact q
 ·have I' : Inv X pins σ H { s with heap := h' } := I.kept (t' := s.toks) keep
  refine ⟨fun a b ha hb=>tot a b (by lia) (by lia),fun a b c ha hb hc=>tr a b c (by lia) (by lia) (by lia),fun a b ha hb hab E Q q=>?_⟩
  obtain ⟨p1,ps,p2,qs,t1,t2,L⟩:=cmp a b (by lia) (by lia) hab pins _ σ _ _ I' (rv.getD (by lia)) (rv.getD (by lia)) B (by lia)
  exact Srt.keyLt_lex t1 t2 L q
 ·obtain ⟨e, he⟩ := sortedAll_at s.heap its (ls.map fun i => its.getD i .none)
  have hf:H (s.heap.objs.size + 1) = none:=I.hok.fresh (Nat.le_succ _)
  have hls:∀ i ∈ ls.toList,i < ys.length:=fun i hi=>by
   have:=(hp.mem_iff).mp (Array.mem_toList_iff.mp hi)
   rw [Array.mem_range] at this
   lia
  rw [<- len] at hp hU
  refine ⟨.ref (s.heap.objs.size + 1),_,I.laid (t':=s.toks) (o:=.lst (ls.toList.map fun i=>ys.getD i .non)) (fun b u e=>sortedAll_old e) (Nat.le_succ _) ?_,rfl,q ls hp hU _ hf⟩
  refine ⟨?_,(ls.toList.map fun i=>its.getD i .none),e,vals_pick rv hls,?_⟩
  ·rw [List.length_map, Array.length_toList, hp.size_eq, Array.size_range]
   exact Nat.le_trans (Nat.le_of_lt hn) (by decide)
  ·have ea : (ls.toList.map fun i => its.getD i .none).toArray = ls.map fun i => its.getD i .none := by rw [<- Array.toList_map, Array.toArray_toList]
   rw [ea]
   exact he
end
inductive SKey where
 | n (i:Int) | t (ns:List Int)
 deriving DecidableEq
def SKey.d:SKey -> D
 | .n i=>.int i
 | .t ns=>.tup (ns.map D.int)
def SKey.num:SKey -> Bool
 | .n _=>true
 | .t _=>false
def SKey.lt:SKey -> SKey -> Bool
 | .n i,.n j=>decide (i < j)
 | .t ns,.t ms=>HT.lexLt ns ms
 | _,_=>false
structure SRow where
 key:SKey
 name:Int
 rest:List D
def SRow.d (x:SRow):D:=.tup (x.key.d :: .int x.name :: x.rest)
def SRow.lt (x y:SRow):Bool:=if x.key = y.key then decide (x.name < y.name) else x.key.lt y.key
theorem lex_anti:∀ (xs ys:List Int),xs ≠ ys -> HT.lexLt xs ys = !HT.lexLt ys xs
 | [],[],h=>absurd rfl h
 | [],y :: ys,_=>rfl
 | x :: xs,[],_=>rfl
 | x :: xs, y :: ys, h => by
  rw [HT.lexLt_cons,HT.lexLt_cons]
  by_cases e:x = y
  ·subst e
   rw [if_pos rfl,if_pos rfl]
   exact lex_anti xs ys fun z=>h (by rw [z])
  ·rw [if_neg e, if_neg (Ne.symm e)]
   by_cases l:x < y
   ·rw [decide_eq_true l,decide_eq_false (by lia)]; rfl
   ·rw [decide_eq_false l,decide_eq_true (by lia)]; rfl
theorem lex_irr:∀ (xs:List Int),HT.lexLt xs xs = false
 | []=>rfl
 | x :: xs=>by rw [HT.lexLt_cons,if_pos rfl]; exact lex_irr xs
theorem lex_trans:∀ (xs ys zs:List Int),HT.lexLt xs ys = true -> HT.lexLt ys zs = true -> HT.lexLt xs zs = true
 | [],[],_,h,_=>by cases h
 | [],_ :: _,[],_,h=>by cases h
 | [],_ :: _,_ :: _,_,_=>rfl
 | _ :: _,[],_,h,_=>by cases h
 | _ :: _,_ :: _,[],_,h=>by cases h
 | x :: xs, y :: ys, z :: zs, h1, h2 => by
  rw [HT.lexLt_cons] at h1 h2 ⊢
  by_cases e1:x = y
  ·subst e1
   rw [if_pos rfl] at h1
   by_cases e2:x = z
   ·subst e2
    rw [if_pos rfl] at h2 ⊢
    exact lex_trans xs ys zs h1 h2
   ·rw [if_neg e2] at h2 ⊢
    exact h2
  ·rw [if_neg e1] at h1
   have l1:=of_decide_eq_true h1
   by_cases e2:y = z
   ·subst e2
    rw [if_neg e1]; exact h1
   ·rw [if_neg e2] at h2
    have l2:=of_decide_eq_true h2
    rw [if_neg (by lia)]
    exact decide_eq_true (by lia)
theorem SKey.lt_anti {x y:SKey} (hn:x.num = y.num) (h:x ≠ y):x.lt y = !y.lt x:=by
 cases x with
 | n i =>
  cases y with
  | n j =>
   have:i ≠ j:=fun z=>h (by rw [z])
   simp only [SKey.lt]
   by_cases l:i < j
   ·rw [decide_eq_true l,decide_eq_false (by lia)]; rfl
   ·rw [decide_eq_false l,decide_eq_true (by lia)]; rfl
  | t ms=>cases hn
 | t ns =>
  cases y with
  | n j=>cases hn
  | t ms=>exact lex_anti ns ms fun z=>h (by rw [z])
theorem SKey.lt_irr (x:SKey):x.lt x = false:=by
 cases x with
 | n i=>simp [SKey.lt]
 | t ns=>exact lex_irr ns
theorem SKey.lt_trans {x y z:SKey} (h1:x.lt y = true) (h2:y.lt z = true):x.lt z = true:=by
 cases x <;> cases y <;> cases z <;> first
  | (cases h1; done) | (cases h2; done)
  | (simp only [SKey.lt,decide_eq_true_eq] at h1 h2 ⊢; lia)
  | exact lex_trans _ _ _ h1 h2
theorem SRow.lt_anti {x y:SRow} (hn:x.key.num = y.key.num) (h:x.name ≠ y.name):x.lt y = !y.lt x:=by
 unfold SRow.lt
 by_cases e:x.key = y.key
 ·rw [if_pos e, if_pos e.symm]
  by_cases l:x.name < y.name
  ·rw [decide_eq_true l,decide_eq_false (by lia)]; rfl
  ·rw [decide_eq_false l,decide_eq_true (by lia)]; rfl
 ·rw [if_neg e, if_neg (Ne.symm e)]
  exact SKey.lt_anti hn e
theorem SRow.lt_trans {x y z:SRow} (h1:x.lt y = true) (h2:y.lt z = true):x.lt z = true:=by
 unfold SRow.lt at *
 by_cases e1:x.key = y.key
 ·rw [if_pos e1] at h1
  by_cases e2:y.key = z.key
  ·rw [if_pos e2] at h2
   rw [if_pos (e1.trans e2)]
   simp only [decide_eq_true_eq] at *
   lia
  ·rw [if_neg e2] at h2
   rw [if_neg (by rw [e1]; exact e2),e1]
   exact h2
 ·rw [if_neg e1] at h1
  by_cases e2:y.key = z.key
  ·rw [if_neg (by rw [<- e2]; exact e1), <- e2]
   exact h1
  ·rw [if_neg e2] at h2
   have h3:=SKey.lt_trans h1 h2
   by_cases e3:x.key = z.key
   ·rw [e3, SKey.lt_irr] at h3
    cases h3
   ·rw [if_neg e3]; exact h3
end L2
set_option maxRecDepth 100000
namespace L2
open PySem PySem.Spec PyProof.Rows PySem.SeqAt
def row0:SRow:=⟨.n 0,0,[]⟩
def kSortT:List D -> (D -> Prop) -> Prop:=fun es k=>∃ (rows:List SRow) (f:Bool),es = [.lst (rows.map SRow.d)] /\ rows.length < 900 /\ (∀ x ∈ rows,x.key.num = f) /\ (rows.map SRow.name).Nodup /\ ∀ rows':List SRow,rows'.Perm rows -> rows'.Pairwise (fun x y=>x.lt y = true) -> k (.lst (rows'.map SRow.d))
theorem eqDs_ints:∀ (xs ys:List Int),eqDs (xs.map D.int) (ys.map D.int) = decide (xs = ys)
 | [],[]=>by unfold eqDs; rfl
 | [],y :: ys=>by unfold eqDs; simp
 | x :: xs,[]=>by unfold eqDs; simp
 | x :: xs,y :: ys=>by
  rw [List.map_cons,List.map_cons]
  unfold eqDs
  rw [eqDs_ints xs ys]
  unfold eqD
  by_cases e:x = y
  ·subst e; simp
  ·simp [e]
theorem eqD_key {x y:SKey} (h:x.num = y.num):eqD x.d y.d = decide (x = y):=by
 cases x with
 | n i =>
  cases y with
  | n j =>
   show eqD (.int i) (.int j) = _
   unfold eqD
   by_cases e:i = j
   ·subst e; simp
   ·simp [e]
  | t ms=>cases h
 | t ns =>
  cases y with
  | n j=>cases h
  | t ms =>
   show eqD (.tup _) (.tup _) = _
   unfold eqD
   rw [eqDs_ints]
   by_cases e:ns = ms
   ·subst e; simp
   ·simp [e]
theorem okE_key (x:SKey):okE x.d 20 = true:=by
 cases x with
 | n i=>exact okE_int
 | t ns =>
  refine (okE_tup (k:=19)).mpr fun d hd=>?_
  obtain ⟨x,_,rfl⟩:=List.mem_map.mp hd
  exact okE_int
section
variable {X:Cx} {pins:List (Addr × Obj)} {σ:St} {H:Hp} {s:Shared} {G:Option Addr} {Z:Addr -> Prop}
theorem vals_two {a b:V} {xs:List V} {its:List Value} (h:Vals (a :: b :: xs) its):∃ p q r,its = p :: q :: r /\ RelV a p /\ RelV b q:=by
 cases h with
 | cons h0 t =>
  cases t with
  | cons h1 t1=>exact ⟨_,_,_,rfl,h0,h1⟩
structure RowAt (X:Cx) (G:Option Addr) (Z:Addr -> Prop) (H:Hp) (s:Shared) (x:SRow) (u p:Value) (rest:List Value):Prop where
 tup:∃ q,Srt.Tup s.heap u p (q :: rest) /\ ∃ t,q = .int x.name t
 key:∃ z,Rep X.K G Z H x.key.d z /\ RelV z p
theorem row_at (I:Inv X pins σ H s) {x:SRow} {v:V} {u:Value} (r:Rep X.K G Z H x.d v) (q:RelV v u):∃ p rest,RowAt X G Z H s x u p rest:=by
 unfold SRow.d at r
 obtain ⟨a,xs,rfl,sq,rs⟩:=r.tup_inv
 have e:u = .ref a:=q
 subst e
 obtain ⟨its,rv,pl,_⟩:=I.tuple sq.sq
 obtain ⟨z0,xs1,rfl,r0,rs1⟩:=rs.split
 obtain ⟨z1,xs2,rfl,r1,rs2⟩:=rs1.split
 have e1:=r1.int_inv
 subst e1
 obtain ⟨p0,p1,its2,rfl,h0,t,rfl⟩:=vals_two rv
 exact ⟨p0,its2,⟨_,⟨a,rfl,pl⟩,t,rfl⟩,z0,r0,h0⟩
theorem row_type (I:Inv X pins σ H s) {x:SRow} {u p:Value} {rest:List Value} (R:RowAt X G Z H s x u p rest):s.TypeIs p (if x.key.num then "int" else "tuple"):=by
 obtain ⟨z,r,q⟩:=R.key
 cases h:x.key with
 | n i =>
  rw [h] at r
  have e:z = .int i:=r.int_inv
  subst e
  obtain ⟨t,rfl⟩:=q
  exact typeIs_int s i t
 | t ns =>
  rw [h] at r
  obtain ⟨a,xs,rfl,sq,rs⟩:=Rep.tup_inv (show Rep X.K G Z H (.tup (ns.map D.int)) z from r)
  have e:p = .ref a:=q
  subst e
  obtain ⟨its,rv,⟨o,ho,hc,_⟩,_⟩:=I.tuple sq.sq
  exact ⟨o,ho,hc⟩
theorem row_cmp (I:Inv X pins σ H s) {x y:SRow} {u v p q:Value} {ps qs:List Value} (hn:x.key.num = y.key.num) (hd:x.name ≠ y.name) (R:RowAt X G Z H s x u p ps) (R':RowAt X G Z H s y v q qs) {A:Around} (hu:A.units + 60 < cLine) :
  ∃ p ps q qs,Srt.Tup s.heap u p ps /\ Srt.Tup s.heap v q qs /\ Srt.Lex A s x.key.num (x.lt y) 0 (p :: ps) (q :: qs):=by
 obtain ⟨n1,t1,tk1,rfl⟩:=R.tup
 obtain ⟨n2,t2,tk2,rfl⟩:=R'.tup
 obtain ⟨z1,r1,q1⟩:=R.key
 obtain ⟨z2,r2,q2⟩:=R'.key
 have E:=(eq_rep I 20 x.key.d y.key.d z1 z2 p q A (okE_key _) (okE_key _) r1 r2 q1 q2 (by lia)).1
 rw [eqD_key hn] at E
 refine ⟨p,_,q,_,t1,t2,?_⟩
 by_cases e:x.key = y.key
 ·rw [decide_eq_true e] at E
  refine .alike E (.here ?_ ?_)
  ·have := EqAt.int_int (A := A) (s := s) x.name tk1 y.name tk2
   have e2:(x.name == y.name) = false:=by simpa using hd
   rw [e2] at this
   exact this
  ·intro prog w E Q h
   unfold SRow.lt at h
   rw [if_pos e] at h
   exact Srt.oneLt_any_int _ h
 ·rw [decide_eq_false e] at E
  refine .here E ?_
  intro prog w E Q h
  unfold SRow.lt at h
  rw [if_neg e] at h
  cases hx:x.key with
  | n i =>
   cases hy:y.key with
   | n j =>
    rw [hx] at r1 h
    rw [hy] at r2 h
    have e1:z1 = .int i:=r1.int_inv
    have e2:z2 = .int j:=r2.int_inv
    subst e1 e2
    obtain ⟨a1,rfl⟩:=q1
    obtain ⟨a2,rfl⟩:=q2
    exact Srt.oneLt_any_int _ h
   | t ms=>rw [hx,hy] at hn; cases hn
  | t ns =>
   cases hy:y.key with
   | n j=>rw [hx,hy] at hn; cases hn
   | t ms =>
    rw [hx] at r1 h
    rw [hy] at r2 h
    obtain ⟨a,xs,rfl,sq,rs⟩:=Rep.tup_inv (show Rep X.K G Z H (.tup (ns.map D.int)) z1 from r1)
    obtain ⟨b,ys,rfl,sq',rs'⟩:=Rep.tup_inv (show Rep X.K G Z H (.tup (ms.map D.int)) z2 from r2)
    have e1:p = .ref a:=q1
    have e2:q = .ref b:=q2
    subst e1 e2
    obtain ⟨its,rv,pl,_⟩:=I.tuple sq.sq
    obtain ⟨its',rv',pl',_⟩:=I.tuple sq'.sq
    rw [reps_intsV rs] at rv
    rw [reps_intsV rs'] at rv'
    show wpAny _ _ (oneLt' (false && _) _ _) _ _ _
    exact Srt.oneLt_false_tup pl pl' (intsAre_of rv) (intsAre_of rv') (by lia) h
end
theorem Reps.getD {K:PySem.W.Frag} {G:Option Addr} {Z:Addr -> Prop} {H:Hp} {α:Type} {enc:α -> D} {rows:List α} {a0:α} {xs:List V} (rs:Reps K G Z H (rows.map enc) xs) {i:Nat} (hi:i < rows.length):Rep K G Z H (enc (rows.getD i a0)) (xs.getD i .non):=by
 obtain ⟨v,e,r⟩:=rs.get (i:=i) (d:=enc rows[i]) (by rw [List.getElem?_map,List.getElem?_eq_getElem hi]; rfl)
 rw [List.getD_eq_getElem?_getD,List.getD_eq_getElem?_getD,e,List.getElem?_eq_getElem hi]
 exact r
theorem reps_pick {K:PySem.W.Frag} {G:Option Addr} {Z:Addr -> Prop} {H:Hp} {α:Type} {enc:α -> D} {rows:List α} {a0:α} {xs:List V} (rs:Reps K G Z H (rows.map enc) xs):∀ {ls:List Nat},(∀ i ∈ ls,i < rows.length) -> Reps K G Z H ((ls.map fun i=>rows.getD i a0).map enc) (ls.map fun i=>xs.getD i .non)
 | [],_=>.nil
 | i :: ls,hl=>.cons (rs.getD (hl i (List.mem_cons_self ..))) (reps_pick rs fun j hj=>hl j (List.mem_cons_of_mem _ hj))
theorem map_range {α:Type} (a0:α) (rows:List α):(List.range rows.length).map (fun i=>rows.getD i a0) = rows:=by
 apply List.ext_getElem
 ·simp
 ·intro i h1 h2
  simp [List.getD_eq_getElem?_getD,h2]
theorem cr_sortT {A:AC} {X:Cx} (hK:X.K = A.K):CallRel A (rSortT X) kSortT:=by
 rintro os n rho sg H ds vs es ws k Q I rs ⟨rows,f,rfl,hl,hf,hnd,q⟩ hQ
 obtain ⟨v,rfl,r⟩:=reps1 rs
 obtain ⟨a,xs,rfl,sq,rr⟩:=r.lst_inv
 have len:xs.length = rows.length:=by rw [rr.length,List.length_map]
 have mem:∀ i,i < rows.length -> rows.getD i row0 ∈ rows:=fun i hi=>by
  rw [List.getD_eq_getElem?_getD,List.getElem?_eq_getElem hi]; exact List.getElem_mem hi
 have dist:∀ i j,i < rows.length -> j < rows.length -> i ≠ j -> (rows.getD i row0).name ≠ (rows.getD j row0).name:=fun i j hi hj hij e=>by
  have g:∀ i (hi:i < rows.length),(rows.map SRow.name)[i]'(by simpa using hi) = (rows.getD i row0).name:=fun i hi=>by
   rw [List.getElem_map,List.getD_eq_getElem?_getD,List.getElem?_eq_getElem hi]; rfl
  have f:=List.pairwise_iff_getElem.mp hnd
  rcases Nat.lt_or_gt_of_ne hij with l | l
  ·exact f i j (by simpa using hi) (by simpa using hj) l (by rw [g i hi,g j hj,e])
  ·exact f j i (by simpa using hj) (by simpa using hi) l (by rw [g i hi,g j hj,e])
 have num:∀ i,i < rows.length -> (rows.getD i row0).key.num = f:=fun i hi=>hf _ (mem i hi)
 rw [<- hK] at rr
 refine ⟨a,xs,f,fun i j=>(rows.getD i row0).lt (rows.getD j row0),rfl,by rw [hK]; exact sq.sq,by lia,fun i j hi hj hij=>SRow.lt_anti (by rw [num i (by lia),num j (by lia)]) (dist i j (by lia) (by lia) hij),fun i j l _ _ _ h1 h2=>SRow.lt_trans h1 h2,fun i hi=>?_,fun i j hi hj hij=>?_,fun ls hp hU l hl'=>?_⟩
 ·intro pins s σ u J ru
  obtain ⟨p,rest,R⟩:=row_at J (rr.getD (enc:=SRow.d) (a0:=row0) (by lia)) ru
  obtain ⟨z,t,_⟩:=R.tup
  have ty:=row_type J R
  rw [num i (by lia)] at ty
  exact ⟨p,_,t,ty⟩
 ·intro pins s σ u v J ru rv B hB
  obtain ⟨p,ps,R⟩:=row_at J (rr.getD (enc:=SRow.d) (a0:=row0) (by lia)) ru
  obtain ⟨p',ps',R'⟩:=row_at J (rr.getD (enc:=SRow.d) (a0:=row0) (by lia)) rv
  have c:=row_cmp J (by rw [num i (by lia),num j (by lia)]) (dist i j (by lia) (by lia) hij) R R' hB
  rw [num i (by lia)] at c
  exact c
 ·rw [len] at hp hU
  have hls:∀ i ∈ ls.toList,i < rows.length:=fun i hi=>by
   have:=(hp.mem_iff).mp (Array.mem_toList_iff.mp hi)
   rwa [Array.mem_range] at this
  have hsz:ls.size = rows.length:=by rw [hp.size_eq,Array.size_range]
  rw [hK] at rr
  refine hQ _ _ _ ⟨os,I.newLst (reps_pick (a0:=row0) rr hls) hl'⟩ (q _ ?_ ?_)
  ·have p1 : ls.toList.Perm (List.range rows.length) := by
    have:=Array.perm_iff_toList_perm.mp hp
    rwa [Array.toList_range] at this
   have p2:=p1.map fun i=>rows.getD i row0
   rwa [map_range] at p2
  ·rw [List.pairwise_map, List.pairwise_iff_getElem]
   intro i j hi hj hij
   have hi':i < ls.size:=by simpa using hi
   have hj':j < ls.size:=by simpa using hj
   have u:=hU i j hij (by lia)
   have g:∀ i (hi:i < ls.size),Srt.lab ls i = ls.toList[i]'(by simpa using hi):=fun i hi=>by
    refine Srt.lab_of_get ?_
    rw [<- Array.getElem?_toList,List.getElem?_eq_getElem (by simpa using hi)]
   rw [g i hi',g j hj'] at u
   exact u
end L2
set_option maxRecDepth 100000
namespace L2
open PySem PySem.Spec PyProof.Rows PySem.SeqAt
section
variable {A:AC} {X:Cx} {a:Expr} {ta:TD} {pos:Pos}
def lstAt (d:D) (k:List D -> Prop):Prop:=∃ fs,(d = .lst fs \/ d = .fz fs) /\ k fs
@[simp] theorem q_lstAt {fs:List D} {k}:lstAt (.lst fs) k ↔ k fs:=⟨fun ⟨_,e,h⟩=>by rcases e with e | e <;> cases e; exact h,fun h=>⟨_,.inl rfl,h⟩⟩
def dSlV (ta:TD) (tl th:TOD):TD:=fun rho n P=>ta rho n fun d n1=>tl rho n1 fun lo n2=>th rho n2 fun hi n3=>lstAt d fun fs=>P (.lst (cutL fs lo hi)) n3
@[simp] theorem q_dSlV {ta tl th rho n P}:dSlV ta tl th rho n P = ta rho n fun d n1=>tl rho n1 fun lo n2=>th rho n2 fun hi n3=>lstAt d fun fs=>P (.lst (cutL fs lo hi)) n3:=rfl
theorem pd_slV {le he:Option Expr} {tl th:TOD} {p2:Pos} (hK:X.K = A.K) (ha:PD A X a ta) (hl:POD A X le tl) (hh:POD A X he th):PD A X (.Subscript a (.Slice le he none p2) pos) (dSlV ta tl th):=by
 with_unfolding_all
  exact (pe_slice sl_list ha hl hh).imp fun sg H Q h=>by
   obtain ⟨rho,n,P,ds,vs,I,ht,hQ⟩:=h
   refine ⟨rho,n,_,ds,vs,I,ht,fun v H1 n1 d J1 h1=>⟨rho,n1,_,_,_,J1,h1,fun lo H2 n2 J2 h2=>⟨rho,n2,_,_,_,J2,h2,fun hi H3 n3 ⟨os,J3⟩ h3=>?_⟩⟩⟩
   obtain ⟨fs,hd,k⟩:=h3
   obtain ⟨J4,r⟩:=J3.pop
   rw [hK]
   rcases hd with rfl | rfl
   ·obtain ⟨l, xs, rfl, sq, rs⟩ := r.lst_inv
    exact ⟨l,xs,rfl,sq.sq,fun p hp=>hQ _ _ n3 _ ⟨os,J4.newLst (reps_cut rs lo hi) hp⟩ k⟩
   ·obtain ⟨l, xs, rfl, sq, rs⟩ := r.fz_inv
    exact ⟨l,xs,rfl,sq,fun p hp=>hQ _ _ n3 _ ⟨os,J4.newLst (reps_cut rs lo hi) hp⟩ k⟩
def dOwnNe (i:Nat):TD:=fun rho n P=>∃ es,rho[i]? = some (some (.own es)) /\ okE (.lst es) 20 = true /\ P (.bl (!eqDs es [])) n
@[simp] theorem q_dOwnNe {i rho n P}:dOwnNe i rho n P = ∃ es,rho[i]? = some (some (.own es)) /\ okE (.lst es) 20 = true /\ P (.bl (!eqDs es [])) n:=rfl
end
end L2
set_option maxRecDepth 100000
namespace L2
open PySem PySem.Spec PyProof.Rows PySem.SeqAt
mutual
def toPy:D -> PyData
 | .int i=>.int i
 | .tup ds=>.tuple (toPys ds)
 | _=>.none
def toPys:List D -> List PyData
 | []=>[]
 | d :: ds=>toPy d :: toPys ds
end
mutual
def okS:D -> Nat -> Bool
 | .int i,_=>decide (i.natAbs.log2 < 1920)
 | .tup ds,k=>match k with
  | 0=>false
  | k + 1=>okSs ds k
 | _,_=>false
def okSs:List D -> Nat -> Bool
 | [],_=>true
 | d :: ds,k=>okS d k && okSs ds k
end
mutual
def nodes:D -> Nat
 | .tup ds=>nodess ds + 1
 | _=>1
def nodess:List D -> Nat
 | []=>0
 | d :: ds=>nodes d + nodess ds
end
def showD (d:D):Str:=(toPy d).shown
section
variable {X:Cx} {pins:List (Addr × Obj)} {σ:St} {H:Hp} {s:Shared} {G:Option Addr} {Z:Addr -> Prop}
end
def kStrT:List D -> (D -> Prop) -> Prop:=fun es k=>∃ ds,es = [.tup ds] /\ okS (.tup ds) 15 = true /\ nodes (.tup ds) <= 8000 /\ k (.str (showD (.tup ds)))
@[simp] theorem q_kStrT {ds k}:kStrT [.tup ds] k ↔ (okS (.tup ds) 15 = true /\ nodes (.tup ds) <= 8000 /\ k (.str (showD (.tup ds)))):=⟨fun ⟨_,e,h⟩=>by cases e; exact h,fun h=>⟨_,rfl,h⟩⟩
end L2
set_option maxRecDepth 100000
namespace L2
open PySem PySem.Spec PyProof.Rows
section
variable {X:Cx} {A:AC}
def rdRepZ:RD2:=fun d1 d2 k=>∃ es i,d1 = .tup es /\ d2 = .int i /\ es ≠ [] /\ 0 <= i /\ es.length * i.toNat <= sizeLine /\ k (.tup (List.replicate i.toNat es).flatten)
@[simp] theorem q_rdRepZ {es i k}:rdRepZ (.tup es) (.int i) k ↔ (es ≠ [] /\ 0 <= i /\ es.length * i.toNat <= sizeLine /\ k (.tup (List.replicate i.toNat es).flatten)):=⟨fun ⟨_,_,e,e',h⟩=>by cases e; cases e'; exact h,fun h=>⟨_,_,rfl,rfl,h⟩⟩
end
end L2
set_option maxRecDepth 100000
namespace L2.Srt
open PySem PyProof.Rows
section
variable {prog:Program} {w:World} {A:Around} {E:Value -> Shared -> Prop} {s:Shared}
theorem collect_tup {l:Addr} {vs:List Value} {Q:List Value -> Shared -> Prop} (hl:IsTup s.heap l vs.toArray)
    (h:Q vs { s with heap:=(s.heap.push (seqObj "list" #[] 0)).update s.heap.objs.size (Obj.mapSeq (· ++ vs.toArray)) }) (hsz:vs.length <= sizeLine) :
    wpAny (model prog w) A (collect (.ref l)) Q E s:=by
  obtain ⟨o,ho,hc,n,hd⟩:=id hl
  unfold collect
  refine wpAny_bind (wpAny_runValue (codeAny_builtin entry_proto_collect' ?_))
  show wpAny _ _ (do again (.builtin "list.__iadd__" ⟨[<- newList [],.ref l],[]⟩)) _ _ s
  refine wpAny_bind (wpAny_newList (wpAny_pure ⟨Code.quiet_builtin _ (by decide +kernel),codeAny_builtin entry_list_iadd' ?_⟩))
  show wpAny _ _ (Builtin.List.listExtendWith (.ref s.heap.objs.size) (.ref l) (.ref s.heap.objs.size)) _ _ { s with heap:=s.heap.push (seqObj "list" #[] 0) }
  unfold Builtin.List.listExtendWith
  have ho':(s.heap.push (seqObj "list" #[] 0)).get? l = some o:=Heap.get?_push_of_some _ ho
  refine wpAny_bind (wpAny_typeOf (T := "tuple") ⟨o,ho',hc⟩ ?_)
  have ht:(Value.type "tuple" == Value.type "tuple") = true:=by rfl
  rw [if_pos (by rw [ht]; simp)]
  refine wpAny_bind (listItems_at ho' hd ?_)
  refine wpAny_bind (listItems_at (xs:=#[]) (n:=0) (Heap.get?_push_size _ rfl) rfl ?_)
  rw [if_neg (by simp)]
  refine wpAny_bind (listUpdate_at (xs:=#[]) (n:=0) (Heap.get?_push_size _ rfl) rfl ?_ (Nat.zero_le _) (by show (#[] ++ vs.toArray).size <= sizeLine + 1; simp only [Array.size_append,List.size_toArray,List.length_nil]; lia))
  refine wpAny_pure ?_
  show wpAny (model prog w) A (do
      let o <- load s.heap.objs.size
      match o.data with
      | .seq xs _=>pure xs.toList
      | _=>unsupported "internal:collect") Q E { s with heap:=(s.heap.push (seqObj "list" #[] 0)).update s.heap.objs.size (Obj.mapSeq (· ++ vs.toArray)) }
  refine wpAny_bind (wpAny_load (get?_update_seq (Heap.get?_push_size _ rfl) _) ?_)
  show wpAny _ _ (pure ((#[]:Array Value) ++ vs.toArray).toList) Q E _
  rw [show ((#[]:Array Value) ++ vs.toArray).toList = vs by simp]
  exact wpAny_pure h
end
end L2.Srt
namespace L2
open PySem PySem.Spec PyProof.Rows
section
variable {X:Cx} {A:AC} {pos:Pos} {e:Expr} {t1:TAD}
def sNever:TSD:=fun _ _ _=>False
theorem psd_never {st:Stmt}:PSD A X st sNever:=by
 with_unfolding_all
  exact fun pins s σ H E I h=>by
   obtain ⟨rho,n,F,ds,vs,J,ht,ok⟩:=h
   exact False.elim ht
@[simp] theorem q_never {F:EndsD} {rho:Rho} {n:Nat}:sNever F rho n ↔ False:=Iff.rfl
end
end L2
set_option maxRecDepth 100000
namespace L2
open PySem PySem.Spec PyProof.Rows
mutual
/-- neither the drawing's list nor an own one is in it -/
def noSt:D -> Bool
 | .st=>false
 | .own _=>false
 | .tup ds=>noSts ds
 | .lst ds=>noSts ds
 | .fz ds=>noSts ds
 | .dct _ ds=>noSts ds
 | _=>true
def noSts:List D -> Bool
 | []=>true
 | d :: ds=>noSt d && noSts ds
end
theorem noSts_iff:∀ {ds:List D},noSts ds = true ↔ ∀ d ∈ ds,noSt d = true
 | []=>by simp [noSts]
 | d :: ds=>by simp [noSts,noSts_iff (ds:=ds)]
theorem noSt_own {d:D} (h:noSt d = true):notOwn d = true:=by
 cases d <;> first | rfl | (simp [noSt] at h; done)
section
variable {K:PySem.W.Frag} {G G':Option Addr} {Z:Addr -> Prop} {H:Hp}
mutual
theorem Rep.reG:∀ (d:D) (v:V),noSt d = true -> Rep K G Z H d v -> Rep K G' Z H d v
 | .st,v,hn,h=>by simp [noSt] at hn
 | .own _,v,hn,h=>by simp [noSt] at hn
 | .tup ds,v,hn,h=>by
  unfold Rep at h ⊢
  obtain ⟨a,xs,e,q,r⟩:=h
  exact ⟨a,xs,e,q,Reps.reG ds xs (by simpa [noSt] using hn) r⟩
 | .lst ds,v,hn,h=>by
  unfold Rep at h ⊢
  obtain ⟨a,xs,e,q,r⟩:=h
  exact ⟨a,xs,e,q,Reps.reG ds xs (by simpa [noSt] using hn) r⟩
 | .fz ds,v,hn,h=>by
  unfold Rep at h ⊢
  obtain ⟨a,xs,e,q,r⟩:=h
  exact ⟨a,xs,e,q,Reps.reG ds xs (by simpa [noSt] using hn) r⟩
 | .non,v,hn,h=>by unfold Rep at h ⊢; exact h
 | .bl b,v,hn,h=>by unfold Rep at h ⊢; exact h
 | .int b,v,hn,h=>by unfold Rep at h ⊢; exact h
 | .str b,v,hn,h=>by unfold Rep at h ⊢; exact h
 | .ty b,v,hn,h=>by unfold Rep at h ⊢; exact h
 | .dic,v,hn,h=>by unfold Rep at h ⊢; exact h
 | .dct ks ds,v,hn,h=>by
  unfold Rep at h ⊢
  obtain ⟨a,xs,e,q,r⟩:=h
  exact ⟨a,xs,e,q,Reps.reG ds xs (by simpa [noSt] using hn) r⟩
 | .rf a,v,hn,h=>by unfold Rep at h ⊢; exact h
theorem Reps.reG:∀ (ds:List D) (vs:List V),noSts ds = true -> Reps K G Z H ds vs -> Reps K G' Z H ds vs
 | [],vs,hn,h=>by unfold Reps at h ⊢; exact h
 | d :: ds,vs,hn,h=>by
  unfold Reps at h ⊢
  obtain ⟨v,r,e,q,t⟩:=h
  have hn':noSt d = true /\ noSts ds = true:=by simpa [noSts] using hn
  exact ⟨v,r,e,Rep.reG d v hn'.1 q,Reps.reG ds r hn'.2 t⟩
end
end
def keepO:Option D -> Option D
 | some d=>if noSt d = true then some d else none
 | none=>none
theorem keepO_pos {d:D} (h:noSt d = true):keepO (some d) = some d:=by show (if noSt d = true then some d else none) = _; rw [if_pos h]
def keepRho (rho:Rho):Rho:=rho.map keepO
theorem keepRho_at {rho:Rho} {j:Nat} {d:D} (h:(keepRho rho)[j]? = some (some d)):rho[j]? = some (some d) /\ noSt d = true:=by
 unfold keepRho at h
 rw [List.getElem?_map] at h
 cases q:rho[j]? with
 | none=>rw [q] at h; cases h
 | some o =>
  rw [q] at h
  cases o with
  | none=>cases h
  | some c =>
   have h':(if noSt c = true then some c else none) = some d:=Option.some.inj h
   by_cases hc:noSt c = true
   ·rw [if_pos hc] at h'
    cases h'
    exact ⟨rfl,hc⟩
   ·rw [if_neg hc] at h'; cases h'
def sNewK (i:Nat) (t:TF) (t1:TAD) (t2:TSD):TSD:=fun F rho n=>∃ ns:List Int,i < rho.length /\ n < 64 /\ t1 rho n fun es n1=>∃ j:Int,es = [scriptD ns,.int j] /\ n1 = n /\ t es n fun d n2=>∃ zs:List Int,d = .lst (zs.map D.int) /\ zs.length = n /\ (∀ x ∈ zs,0 <= x) /\ (∀ x,zs[1]? = some x -> x < 2147483647) /\
 t2 { nx:=fun rho' _=>F.nx (keepRho rho') n,rt:=fun d _=>scalD d = true /\ F.rt d n,bk:=fun rho' _=>F.bk (keepRho rho') n,ct:=fun rho' _=>F.ct (keepRho rho') n } ((keepRho rho).set i (some .st)) n
theorem newK_intro {i:Nat} {t:TF} {t1:TAD} {t2:TSD} {F:EndsD} {rho:Rho} {n:Nat} (ns:List Int) (hi:i < rho.length) (j:Int) (ht:t1 rho n fun es n1=>es = [scriptD ns,.int j] /\ n1 = n)
  (ht1:∀ (P P':List D -> Nat -> Prop),(∀ es n1,P es n1 -> P' es n1) -> t1 rho n P -> t1 rho n P')
  (h : t [scriptD ns, .int j] n fun d n2 => ∃ zs : List Int, d = .lst (zs.map D.int) /\ zs.length = n /\ (∀ x ∈ zs, 0 <= x) /\ (∀ x, zs[1]? = some x -> x < 2147483647) /\
   t2 { nx:=fun rho' _=>F.nx (keepRho rho') n,rt:=fun d _=>scalD d = true /\ F.rt d n,bk:=fun rho' _=>F.bk (keepRho rho') n,ct:=fun rho' _=>F.ct (keepRho rho') n } ((keepRho rho).set i (some .st)) n) (h64:n < 64:=by decide):sNewK i t t1 t2 F rho n :=
 ⟨ns,hi,h64,ht1 _ _ (fun es n1 ⟨e1,e2⟩=>⟨j,e1,e2,by rw [e1]; exact h⟩) ht⟩
section
variable {A:AC} {X:Cx} {e:Expr} {es:List Expr} {t1:TAD} {t2:TSD} {pos p:Pos}
theorem pssd_newK {x g:Str} {i:Nat} {t:TF} {kk:Nat} {pos' spos:Pos} {rest:List Stmt} (hG:A.G = none) (hN:X.N.Nodup) (hi:X.N[i]? = some x) (hx:Loc X.env.scope x) (F:Fn X.prog X.w X.K X.mg X.base g kk 2 t) (hr:Room kk X.A) (hK:X.K = A.K)
  (ha:PAD A X (e :: es) t1) (h2:∀ (c:Addr) (Z:Addr -> Prop) (H0:Hp),PSsD ⟨A.K,some c,Z,H0⟩ X rest t2) (hg:Gl X g:=by rfl) (hdb:(g == ("__debug__" : Str)) = false:=by decide) (he:starEach (e :: es) X.env = (false,eval e X.env) :: starEach es X.env:=by rfl) (hpl:(backTo pos (starEach es X.env)).any (·.1) = false:=by rfl)
  (hs:swapsWith (.Call (.Name g p) (e :: es) [] pos) (some (.Name x pos')) spos.line X.env = pure false:=by rfl) (hf:X.fn x = true \/ X.env.scope.names.lookup x = some .local:=by first | exact .inl rfl | exact .inr rfl | assumption) :
  PSsD A X (.Assign [.Name x pos'] (.Call (.Name g p) (e :: es) [] pos) spos :: rest) (sNewK i t t1 t2):=by
 with_unfolding_all
  exact (by
   obtain ⟨f,fd,ps,f1,f2,f3,f4⟩:=F.ex
   have c1:=ps_set (pos:=spos) hN hi hx (pe_call (p:=p) f1 hr hg f2 f3 f4 .nil pass0 ha hdb he hpl) hs hf
   have c2:PSs X rest (fun E' sg' H'=>∃ c Z H0,sOf ⟨A.K,some c,Z,H0⟩ t2 E' sg' H'):=fun pins s' sg' H' D I q=>by
    obtain ⟨c,Z,H0,q⟩:=q
    exact h2 c Z H0 pins s' sg' H' D I q
   refine (pss_cons c1 c2).imp fun E sg H h=>?_
   obtain ⟨rho,n,F,ds,vs,I,⟨ns,hi',h64,ht⟩,ok⟩:=h
   refine ⟨rho,n,_,ds,vs,I,ht,fun ws H' n' es' ⟨os',J⟩ hl k=>?_⟩
   obtain ⟨j,rfl,rfl,k⟩:=k
   obtain ⟨J1,rs⟩:=J.split hl
   obtain ⟨v1,v2,rfl,r1,r2⟩:=reps2 rs
   have r1':Rep A.K none (fun a=>H' a ≠ none /\ ¬ ∃ o u,H' a = some (.frz o u)) H' (scriptD ns) v1:=rep_script r1 fun a o u _ e=>⟨fun z=>z.2 ⟨o,u,e⟩,e⟩
   have r2':Rep A.K none (fun a=>H' a ≠ none /\ ¬ ∃ o u,H' a = some (.frz o u)) H' (.int j) v2:=by rw [r2.int_inv]; exact Rep.ofS (d:=.int j) rfl
   rw [List.append_nil,hK]
   refine ⟨none,fun a=>H' a ≠ none /\ ¬ ∃ o u,H' a = some (.frz o u),n',_,_,rfl,.cons r1' (.cons r2' .nil),⟨fun b e=>(by cases e),fun a c e=>(by rw [cellAt_lt h64] at e; cases e)⟩,fun b e=>(by cases e),fun b z=>z.1,k,fun v H2 n2 d fr st gw r q=>?_⟩
   have fr:∀ a o,none ≠ some a -> H' a = some o -> H2 a = some o:=fun a o g=>fr a o g (cellAt_lt h64)
   obtain ⟨zs,rfl,q1,q2,q3,q⟩:=q
   obtain ⟨c,xs,rfl,sq,rr⟩:=r.lst_inv
   rw [reps_ints_inv rr] at sq
   have hc:H' c = none:=by
    cases z:H' c with
    | none=>rfl
    | some o =>
     have z2:=fr c o (by simp) z
     rw [sq.2] at z2
     cases z2
     exact absurd ⟨by rw [z]; simp,fun ⟨o,u,z3⟩=>by rw [z] at z3; cases z3⟩ fun z=>sq.1 (.inl z)
   have ne:∀ {a:Addr} {o:HO},H' a = some o -> a ≠ c:=fun {a o} e h=>by rw [h,hc] at e; cases e
   have back:∀ {m:Nat} {os:List (Nat × Addr)} {rho' rho2:Rho} {sg':St} {H3:Hp} {ds3:List D} {vs3:List V},AmO ⟨A.K,some c,fun b=>Zof A os' b \/ b = c,H2⟩ os m rho' sg' H3 ds3 vs3 -> rho2.length = sg'.length -> (∀ j d,rho2[j]? = some (some d) -> ∃ v,sg'[j]? = some (some v) /\ Rep A.K A.G (Zof A []) H3 d v) -> AmO A [] n' rho2 sg' H3 ds vs:=fun {m os rho' rho2 sg' H3 ds3 vs3} I3 hl2 hs2=>by
    have keep:∀ a o,H' a = some o -> H3 a = some o:=fun a o e=>I3.fr a o (fun z=>ne e (Option.some.inj z).symm) (fr a o (by simp) e)
    refine ⟨hl2,fun j d e=>?_,?_,.nil,fun p hp=>(by simp at hp),⟨fun b e=>(by rw [hG] at e; cases e),fun a c e=>(by rw [cellAt_lt h64] at e; cases e)⟩,J1.gz,fun a o z e=>keep a o (J1.fr a o z e),J1.z0⟩
    ·obtain ⟨v, e1, e2⟩ := hs2 j d e
     exact ⟨v,e1,SlotR.of e2⟩
    ·refine Reps.mono (fun a _ z => ?_) (fun a o _ e => keep a o e) _ _ J1.pend
     rcases z with z | ⟨p,hp,_⟩
     ·exact .inl z
     ·simp at hp
   have scr:∀ {m:Nat} {os:List (Nat × Addr)} {rho':Rho} {sg':St} {H3:Hp} {ds3:List D} {vs3:List V},AmO ⟨A.K,some c,fun b=>Zof A os' b \/ b = c,H2⟩ os m rho' sg' H3 ds3 vs3 -> AmO A [] n' (keepRho rho') sg' H3 ds vs:=fun {m os rho' sg' H3 ds3 vs3} I3=>by
    refine back I3 (by unfold keepRho; rw [List.length_map]; exact I3.len) fun j d e=>?_
    obtain ⟨e,hn⟩:=keepRho_at e
    obtain ⟨v,e1,e2⟩:=I3.slot j d e
    have e3:=SlotR.rep (noSt_own hn) e2
    refine ⟨v,e1,Rep.reG d v hn (Rep.mono (fun a _ z=>?_) (fun a o _ e=>e) d v e3)⟩
    rcases z with z | ⟨p,hp,_⟩
    ·exact .inl (.inl (.inl z))
    ·simp at hp
   have hl0:rho.length = sg.length:=J1.len
   refine ⟨c,fun b=>Zof A os' b \/ b = c,H2,(keepRho rho).set i (some .st),n',_,[],[],⟨[],?_⟩,q,?_⟩
   ·refine ⟨by simp [keepRho, hl0], fun j d e => ?_, .nil, .nil, fun p hp => by simp at hp, ⟨fun b e => ?_, fun a c e => (by rw [cellAt_lt h64] at e; cases e)⟩, fun b e => ?_, fun b o _ e => e, fun b e => .inl ?_⟩
    ·by_cases hj : j = i
     ·subst hj
      rw [List.getElem?_set_self (by simp [keepRho]; lia)] at e
      cases e
      exact ⟨.ref c,List.getElem?_set_self (by lia),SlotR.of (by unfold Rep; exact ⟨c,rfl,rfl⟩)⟩
     ·rw [List.getElem?_set_ne (Ne.symm hj)] at e
      obtain ⟨e,hn⟩:=keepRho_at e
      obtain ⟨v,e1,e2⟩:=J1.slot j d e
      have e3:=SlotR.rep (noSt_own hn) e2
      refine ⟨v,by rw [List.getElem?_set_ne (Ne.symm hj)]; exact e1,SlotR.of (Rep.reG d v hn (Rep.mono (fun a ha z=>?_) (fun a o _ e=>fr a _ (by simp) e) d v e3))⟩
      rcases z with (z | z) | ⟨p,hp,_⟩
      ·exact z
      ·exact absurd (z ▸ hc) ha
      ·simp at hp
    ·cases e
     exact ⟨zs,0,0,sq.2,by rw [kOf_lt h64]; exact q1,q2,q3⟩
    ·exact .inr (Option.some.inj e).symm
    ·rcases e with e | e
     ·have := J1.zH b e
      cases z:H' b with
      | none=>exact absurd z this
      | some o =>
       show H2 b ≠ none
       rw [fr b o (by simp) z]; simp
     ·show H2 b ≠ none
      rw [e,sq.2]; simp
   ·refine ⟨fun rho3 n3 sg3 H3 ⟨os3, I3⟩ q => ?_, fun d n3 v rho3 sg3 H3 ⟨os3, I3⟩ q => ?_, fun rho3 n3 sg3 H3 ⟨os3, I3⟩ q => ?_, fun rho3 n3 sg3 H3 ⟨os3, I3⟩ q => ?_⟩
    ·skip
     exact ok.nx _ _ _ _ ⟨[],scr I3⟩ q
    ·obtain ⟨hd, q⟩ := q
     have I4:AmO A [] n' (List.replicate sg3.length none) sg3 H3 ds vs:=back I3 (by simp) fun j d e=>by
      rw [List.getElem?_replicate] at e
      split at e <;> cases e
     refine ok.rt _ _ _ _ _ _ ⟨[],I4.push ?_⟩ q
     rw [I3.pop.2.toS hd]
     exact Rep.ofS hd
    ·skip
     exact ok.bk _ _ _ _ ⟨[],scr I3⟩ q
    ·skip
     exact ok.ct _ _ _ _ ⟨[],scr I3⟩ q)
end
end L2
set_option maxRecDepth 100000
namespace L2
open PySem PySem.Spec PyProof.Rows
def hasK (ks:List Key) (k:Key):Bool:=ks.any fun j=>decide (j = k)
def putKs (ks:List Key) (k:Key):List Key:=if hasK ks k = true then ks else ks ++ [k]
def putG {α:Type} (ks:List Key) (xs:List α) (k:Key) (x:α):List α:=if hasK ks k = true then List.zipWith (fun j y=>if j = k then x else y) ks xs else xs ++ [x]
theorem kvs_any:∀ (ks:List Key) (xs:List V) (k:Key),ks.length = xs.length -> ((kvsV ks xs).any fun kv=>decide (kv.1 = k)) = hasK ks k
 | [],xs,k,_=>rfl
 | j :: ks,[],k,h=>by simp at h
 | j :: ks,x :: xs,k,h=>by
  have ih:=kvs_any ks xs k (by simpa using h)
  show (decide (j = k) || (kvsV ks xs).any _) = (decide (j = k) || hasK ks k)
  rw [ih]
theorem kvs_map:∀ (ks:List Key) (xs:List V) (k:Key) (v:V),(kvsV ks xs).map (fun kv=>if kv.1 = k then (kv.1,v) else kv) = kvsV ks (List.zipWith (fun j y=>if j = k then v else y) ks xs)
 | [],xs,k,v=>by simp [kvsV]
 | j :: ks,[],k,v=>by simp [kvsV]
 | j :: ks,x :: xs,k,v=>by
  have ih:=kvs_map ks xs k v
  show (if j = k then (j,v) else (j,x)) :: (kvsV ks xs).map _ = (j,if j = k then v else x) :: kvsV ks _
  rw [ih]
  by_cases e:j = k <;> simp [e]
theorem kvs_snoc {ks:List Key} {xs:List V} (k:Key) (v:V) (h:ks.length = xs.length):kvsV ks xs ++ [(k,v)] = kvsV (ks ++ [k]) (xs ++ [v]):=by
 unfold kvsV
 rw [List.zipWith_append h]; rfl
theorem kvs_put {ks:List Key} {xs:List V} (k:Key) (v:V) (h:ks.length = xs.length):putK (kvsV ks xs) k v = kvsV (putKs ks k) (putG ks xs k v):=by
 unfold putK putKs putG
 rw [kvs_any ks xs k h]
 by_cases e:hasK ks k = true
 ·rw [if_pos e,if_pos e,if_pos e,kvs_map]
 ·rw [if_neg e,if_neg e,if_neg e,kvs_snoc k v h]
theorem put_len {α:Type} {ks:List Key} {xs:List α} (k:Key) (x:α) (h:ks.length = xs.length):(putKs ks k).length = (putG ks xs k x).length:=by
 unfold putKs putG
 split
 ·rw [List.length_zipWith,<- h]; lia
 ·simp [h]
theorem put_le {α:Type} {ks:List Key} {xs:List α} (k:Key) (x:α) (h:ks.length = xs.length):(putKs ks k).length <= ks.length + 1:=by
 unfold putKs
 split <;> simp
section
variable {K:PySem.W.Frag} {G:Option Addr} {Z:Addr -> Prop} {H:Hp}
theorem Reps.zipPut {d:D} {v:V} (r:Rep K G Z H d v) (k:Key):∀ {ks:List Key} {es:List D} {xs:List V},Reps K G Z H es xs -> Reps K G Z H (List.zipWith (fun j y=>if j = k then d else y) ks es) (List.zipWith (fun j y=>if j = k then v else y) ks xs)
 | [],es,xs,h=>.nil
 | j :: ks,[],xs,h=>by rw [h.nil_inv]; exact .nil
 | j :: ks,e :: es,xs,h=>by
  obtain ⟨x,xr,rfl,q,t⟩:=h.split
  have ih:=Reps.zipPut r k (ks:=ks) t
  show Reps K G Z H ((if j = k then d else e) :: _) ((if j = k then v else x) :: _)
  by_cases z:j = k
  ·rw [if_pos z,if_pos z]; exact .cons r ih
  ·rw [if_neg z,if_neg z]; exact .cons q ih
theorem Reps.put {d:D} {v:V} {ks:List Key} {es:List D} {xs:List V} (h:Reps K G Z H es xs) (r:Rep K G Z H d v) (k:Key):Reps K G Z H (putG ks es k d) (putG ks xs k v):=by
 unfold putG
 split
 ·exact Reps.zipPut r k h
 ·exact h.append (.cons r .nil)
end
def keyOf:D -> Option Key
 | .int i=>some (Sum.inl i)
 | .str x=>some (Sum.inr x)
 | _=>none
@[simp] theorem keyOf_int {i:Int}:keyOf (.int i) = some (Sum.inl i):=rfl
@[simp] theorem keyOf_str {i:Str}:keyOf (.str i) = some (Sum.inr i):=rfl
theorem keyOf_rep {K:PySem.W.Frag} {G:Option Addr} {Z:Addr -> Prop} {H:Hp} {d:D} {v:V} {k:Key} (h:Rep K G Z H d v) (e:keyOf d = some k):v = kV k:=by
 cases d with
 | int i=>cases e; exact h.int_inv
 | str i=>cases e; exact h.toS rfl
 | _=>simp [keyOf] at e
section
variable {A:AC} {X:Cx} {tg iter kx vx:Expr} {ifs:List Expr} {scope:Scope} {own M:List Str} {pos:Pos} {it:TID} {g:TGD} {tt:TBD} {tk tv:TD}
def dcompIn (own:Nat) (g:TGD) (tt:TBD) (tk tv:TD) (rho:Rho) (P:D -> Nat -> Prop) (items:List D) (n1:Nat):Prop:=items.length <= sizeLine /\ ∃ J:Nat -> List Key -> List D -> Nat -> Prop,J 0 [] [] n1 /\
 (∀ i d ks es n,items[i]? = some d -> J i ks es n -> g d (List.replicate own none ++ rho) fun rho'=>rho'.drop own = rho /\ tt rho' n fun c n2=>if c = true then tk rho' n2 fun dk n3=>tv rho' n3 fun dv n4=>∃ k,keyOf dk = some k /\ J (i + 1) (putKs ks k) (putG ks es k dv) n4 else J (i + 1) ks es n2) /\
 ∀ ks es n,J items.length ks es n -> P (.dct ks es) n
def dDComp (it:TID) (own:Nat) (g:TGD) (tt:TBD) (tk tv:TD):TD:=fun rho n P=>it rho n (dcompIn own g tt tk tv rho P)
@[simp] theorem q_dDComp {it own g tt tk tv rho n P}:dDComp it own g tt tk tv rho n P = it rho n (dcompIn own g tt tk tv rho P):=rfl
theorem AmO.newDct {os n rho sg H ds vs} {ks:List Key} {es:List D} {xs:List V} {p:Addr} (I:AmO A os n rho sg H ds vs) (r:Reps A.K A.G (Zof A os) H es xs) (hp:H p = none):AmO A os n rho sg (upd H p (.dK (kvsV ks xs))) (.dct ks es :: ds) (.ref p :: vs):=by
 have hf:∀ a u,H a = some u -> upd H p (.dK (kvsV ks xs)) a = some u:=fun a u e=>by
  rw [upd_ne fun z=>by rw [z,hp] at e; cases e]; exact e
 refine ⟨I.len,fun i d e=>?_,?_,I.nd,fun q hq=>?_,I.st.mono (fun _ _ z=>z) (fun a u _ e=>hf a u e) (fun a u _ e=>hf a u e) (fun _ _ z=>z) (fun a u _ e=>hf a u e),I.gz,fun a u h e=>hf a u (I.fr a u h e),I.z0⟩
 ·obtain ⟨v, e1, e2⟩ := I.slot i d e
  exact ⟨v,e1,SlotR.mono (fun _ _ z=>z) (fun a u _ e=>hf a u e) (fun a xs m q=>⟨m,hf a _ q⟩) _ _ e2⟩
 ·refine .cons ?_ (Reps.mono (fun _ _ z => z) (fun a u _ e => hf a u e) _ _ I.pend)
  unfold Rep
  refine ⟨p,xs,rfl,⟨fun z=>?_,upd_same⟩,Reps.mono (fun _ _ z=>z) (fun a u _ e=>hf a u e) _ _ r⟩
  exact absurd hp (I.zH p z)
 ·obtain ⟨f1, f2, f3⟩ := I.fresh q hq
  refine ⟨f1,f2,?_⟩
  cases e:H q.2 with
  | none=>exact absurd e f3
  | some u=>rw [hf _ _ e]; simp
theorem tDComp_of {sg:St} {H:Hp} {Q:VK} {m:Nat} (h:tOf A (dDComp it m g tt tk tv) sg H Q):tDComp (iOf A it) m (gOf A m g) (ttOf A tt) (tOf A tk) (tOf A tv) sg H Q:=by
 obtain ⟨rho,n,P,ds,vs,I,ht,hQ⟩:=h
 refine ⟨rho,n,_,ds,vs,I,ht,fun J H' n' items es ws I1 hl hJ k=>?_⟩
 obtain ⟨hsz,W,w0,turn,fin⟩:=k
 refine ⟨fun i mm acc H=>mm = items.length - i /\ i <= items.length /\ ∃ ks accD xs n,acc = kvsV ks xs /\ ks.length = xs.length /\ ks.length <= i /\ xs.length = accD.length /\ Am A n rho sg H (es ++ (accD ++ ds)) (ws ++ (xs ++ vs)) /\ W i ks accD n,
  ⟨items.length,rfl,Nat.zero_le _,[],[],[],n',rfl,rfl,Nat.le_refl _,rfl,I1,w0⟩,?_⟩
 rintro i mm acc H3 ⟨rfl,hi,ks,accD,xs,n3,rfl,hkl,hai,hal,⟨os,I3⟩,w3⟩
 have hlk:(kvsV ks xs).length = ks.length:=by unfold kvsV; rw [List.length_zipWith]; lia
 obtain ⟨j1,j2⟩:=hJ n3 rho sg H3 (accD ++ ds) (xs ++ vs) i ⟨os,I3⟩
 by_cases hlt:i < items.length
 ·refine .inr ⟨(j1 items[i] (by simp [hlt])).1, by lia, fun x H4 y => ?_⟩
  obtain ⟨os4,I4⟩:=(j1 items[i] (by simp [hlt])).2 x H4 y
  refine ⟨List.replicate m none ++ rho,n3,_,items[i],es ++ (accD ++ ds),ws ++ (xs ++ vs),⟨_,I4.front m⟩,turn i items[i] ks accD n3 (by simp [hlt]) w3,fun rho' sg' ⟨os5,I5⟩ e5 k5=>?_⟩
  obtain ⟨k5,k6⟩:=k5
  have e6:sg'.drop m = sg:=by rw [e5,List.drop_left' (by simp)]
  refine ⟨e6,rho',n3,_,es ++ (accD ++ ds),ws ++ (xs ++ vs),⟨os5,I5⟩,k6,fun c H6 n6 ⟨os6,I6⟩ k7=>?_⟩
  cases c with
  | false =>
   obtain ⟨os7,I7⟩:=I6.back k5 e6
   exact ⟨items.length - (i + 1),by lia,rfl,hlt,ks,accD,xs,n6,rfl,hkl,by lia,hal,⟨os7,I7⟩,k7⟩
  | true =>
   rw [if_pos rfl] at k7 ⊢
   refine ⟨rho',n6,_,es ++ (accD ++ ds),ws ++ (xs ++ vs),⟨os6,I6⟩,k7,fun vk H8 n8 dk I8 k8=>?_⟩
   refine ⟨rho',n8,_,dk :: (es ++ (accD ++ ds)),vk :: (ws ++ (xs ++ vs)),I8,k8,fun v H9 n9 d ⟨os9,I9⟩ k9=>?_⟩
   obtain ⟨kk,ek,w9⟩:=k9
   obtain ⟨os10,I10⟩:=I9.back k5 e6
   obtain ⟨I11,rv⟩:=I10.pop
   obtain ⟨I12,rk⟩:=I11.pop
   obtain ⟨I13,r1⟩:=I12.split hl
   obtain ⟨I14,r2⟩:=I13.split hal
   refine ⟨kk,items.length - (i + 1),keyOf_rep rk ek,by lia,rfl,hlt,putKs ks kk,putG ks accD kk d,putG ks xs kk v,n9,kvs_put kk v hkl,put_len kk v hkl,?_,?_,⟨os10,(I14.join (r2.put rv kk)).join r1⟩,w9⟩
   ·have:=put_le kk v hkl; lia
   ·rw [<- put_len kk v hkl,<- put_len kk d (by lia)]
 ·have e : i = items.length := by lia
  subst e
  refine .inl ⟨j2 (Nat.le_refl _),by lia,fun D hD=>?_⟩
  obtain ⟨I4,r1⟩:=I3.split hl
  obtain ⟨I5,r2⟩:=I4.split hal
  exact hQ _ _ n3 _ ⟨os,I5.newDct r2 hD⟩ (fin ks accD n3 w3)
theorem pd_dcomp (ok:CompOk X scope M) (hc:X.calm = true) (hi:PID A X tg iter it) (hg:∀ C s2 H2 fp,PGD A (cxComp X scope own M C s2 H2 fp) own.length tg g) (ht:∀ C s2 H2 fp,PTs (cxComp X scope own M C s2 H2 fp) ifs (ttOf A tt))
  (hk:∀ C s2 H2 fp,PD A (cxComp X scope own M C s2 H2 fp) kx tk) (he:∀ C s2 H2 fp,PD A (cxComp X scope own M C s2 H2 fp) vx tv) (hs:∀ x,foldedSetIterable iter X.env x = pure x:=by intro _; rfl):PD A X (.DictComp kx vx [⟨tg,iter,ifs,0⟩] scope pos) (dDComp it own.length g tt tk tv):=by
 with_unfolding_all
  exact (pe_dcomp ok hc hi hg ht hk he hs).imp fun _ _ _=>tDComp_of
end
def atK:List Key -> List D -> Key -> Option D
 | k :: ks,d :: ds,x=>if k = x then some d else atK ks ds x
 | _,_,_=>none
theorem atK_val {K:PySem.W.Frag} {G:Option Addr} {Z:Addr -> Prop} {H:Hp}:∀ {ks:List Key} {ds:List D} {xs:List V} {x:Key},Reps K G Z H ds xs ->
  (∀ d,atK ks ds x = some d -> ∃ v,valV (kvsV ks xs) x = some v /\ Rep K G Z H d v) /\ (atK ks ds x = none -> valV (kvsV ks xs) x = none)
 | [],ds,xs,x,r=>⟨fun d h=>by simp [atK] at h,fun _=>rfl⟩
 | k :: ks,[],xs,x,r=>by rw [r.nil_inv]; exact ⟨fun d h=>by simp [atK] at h,fun _=>rfl⟩
 | k :: ks, e :: ds, xs, x, r => by
  obtain ⟨v,rs,rfl,q,t⟩:=r.split
  obtain ⟨i1,i2⟩:=atK_val (ks:=ks) (x:=x) t
  unfold atK
  by_cases c:k = x
  ·rw [if_pos c]
   exact ⟨fun d h=>by cases h; exact ⟨v,valV_pos (p:=(k,v)) c,q⟩,fun h=>by cases h⟩
  ·rw [if_neg c]
   have e2:valV (kvsV (k :: ks) (v :: rs)) x = valV (kvsV ks rs) x:=valV_neg (p:=(k,v)) c
   rw [e2]
   exact ⟨i1,i2⟩
section
variable {A:AC} {X:Cx} {a b:Expr} {ta tb:TD} {pos:Pos}
def rDx:R2:=fun x y H Q=>∃ a v,x = .ref a /\ DGet H a y (some v) /\ Q v H
def rdDx:RD2:=fun d1 d2 k=>∃ ks ds x d,d1 = .dct ks ds /\ keyOf d2 = some x /\ atK ks ds x = some d /\ k d
@[simp] theorem q_rdDxI {ks ds x k}:rdDx (.dct ks ds) (.int x) k ↔ ∃ d,atK ks ds (Sum.inl x) = some d /\ k d:=⟨fun ⟨_,_,_,d,e,e',h⟩=>by cases e; cases e'; exact ⟨d,h⟩,fun ⟨d,h⟩=>⟨_,_,_,d,rfl,rfl,h⟩⟩
theorem re_dx:OpRel A rDx rdDx:=by
 rintro os n rho sg H ds vs d1 d2 v1 v2 k Q I ⟨ks,es,x,d,rfl,hk,hx,q⟩ hQ
 obtain ⟨I1,r2⟩:=I.pop
 obtain ⟨I2,r1⟩:=I1.pop
 have e2:=keyOf_rep r2 hk
 subst e2
 unfold Rep at r1
 obtain ⟨a,xs,rfl,⟨hz,hH⟩,rs⟩:=r1
 obtain ⟨v,hv,rv⟩:=(atK_val rs).1 d hx
 exact ⟨a,v,rfl,by rw [<- hv]; exact DGet.k hH,hQ _ _ _ ⟨os,I2.push rv⟩ q⟩
theorem pd_dix (hu:X.A.units + 1 < cLine) (ha:PD A X a ta) (hb:PD A X b tb) (hs:NoSl b):PD A X (.Subscript a b pos) (dOp rdDx ta tb):=by
 with_unfolding_all
  exact (pe_dget hu ha hb hs).imp fun _ _ _=>tOp_of (r:=rDx) re_dx
def rDin (neg:Bool):R2:=fun y x H Q=>∃ a o,x = .ref a /\ DGet H a y o /\ Q (.bl (o.isSome != neg)) H
theorem op_din (hu:X.A.units + 1 < cLine):OpR X (compareOp .In) (rDin false):=by
 intro pins s σ H x y v u Q I rx ry h
 obtain ⟨a,o,rfl,g,q⟩:=h
 cases (show u = Value.ref a from ry)
 exact d_in hu I g rx fun s' I'=>⟨.bl (o.isSome != false),H,I',by simp; rfl,q⟩
theorem op_dnotin (hu:X.A.units + 1 < cLine):OpR X (compareOp .NotIn) (rDin true):=by
 intro pins s σ H x y v u Q I rx ry h
 obtain ⟨a,o,rfl,g,q⟩:=h
 cases (show u = Value.ref a from ry)
 exact d_notIn hu I g rx fun s' I'=>⟨.bl (o.isSome != true),H,I',by simp; rfl,q⟩
def rdDin (neg:Bool):RD2:=fun d1 d2 k=>∃ ks ds x,d2 = .dct ks ds /\ keyOf d1 = some x /\ k (.bl ((atK ks ds x).isSome != neg))
@[simp] theorem q_rdDinI {neg ks ds x k}:rdDin neg (.int x) (.dct ks ds) k ↔ k (.bl ((atK ks ds (Sum.inl x)).isSome != neg)):=⟨fun ⟨_,_,_,e,e',h⟩=>by cases e; cases e'; exact h,fun h=>⟨_,_,_,rfl,rfl,h⟩⟩
def sPop (i:Nat) (g:TGD):TSD:=fun F rho n=>∃ es d,rho[i]? = some (some (.own (es ++ [d]))) /\ g d (rho.set i (some (.own es))) fun rho'=>F.nx rho' n
@[simp] theorem q_sPop {i g F rho n}:sPop i g F rho n = ∃ es d,rho[i]? = some (some (.own (es ++ [d]))) /\ g d (rho.set i (some (.own es))) fun rho'=>F.nx rho' n:=rfl
def sCont:TSD:=fun F rho n=>F.ct rho n
@[simp] theorem q_sCont {F rho n}:sCont F rho n = F.ct rho n:=rfl
def sOwnIf (i:Nat) (tc:TBD) (t u:TAD):TSD:=fun F rho n=>i < rho.length /\ tc rho n fun c n0=>if c = true then t rho n0 (fun es n1=>es.length <= sizeLine /\ F.nx (rho.set i (some (.own es))) n1) else u rho n0 fun es n1=>es.length <= sizeLine /\ F.nx (rho.set i (some (.own es))) n1
@[simp] theorem q_sOwnIf {i tc t u F rho n}:sOwnIf i tc t u F rho n = (i < rho.length /\ tc rho n fun c n0=>if c = true then t rho n0 (fun es n1=>es.length <= sizeLine /\ F.nx (rho.set i (some (.own es))) n1) else u rho n0 fun es n1=>es.length <= sizeLine /\ F.nx (rho.set i (some (.own es))) n1):=rfl
end
end L2
set_option maxRecDepth 100000
namespace L2
open PySem PySem.Spec PyProof.Rows
section
variable {X:Cx} {A:AC}
def isTL:D -> Bool
 | .tup _=>true
 | .lst _=>true
 | _=>false
def kIsi2:List D -> (D -> Prop) -> Prop:=fun es k=>∃ d,es = [d,.tup [.ty "tuple",.ty "list"]] /\ isiOk d = true /\ k (.bl (isTL d))
@[simp] theorem q_kIsi2 {d k}:kIsi2 [d,.tup [.ty "tuple",.ty "list"]] k ↔ (isiOk d = true /\ k (.bl (isTL d))):=⟨fun ⟨_,e,h⟩=>by cases e; exact h,fun h=>⟨_,rfl,h⟩⟩
end
end L2
set_option maxRecDepth 100000
namespace L2
open PySem PySem.Spec PyProof.Rows
section
variable {A:AC} {X:Cx} {a b c:Expr} {ta tb tc:TD} {pos:Pos}
end
end L2
set_option maxRecDepth 100000
namespace L2
open PySem PySem.Spec PyProof.Rows
def noOwns (rho:Rho):Bool:=rho.all fun o=>match o with
 | some d=>notOwn d
 | none=>true
def sParO (i j:Nat) (tb:TD):TSD:=fun F rho n=>i < rho.length /\ j < rho.length /\ noOwns rho = true /\ n < 64 /\ tb rho n fun d n1=>n1 < 64 /\ F.nx ((rho.set i (some (.own []))).set j (some d)) n1
@[simp] theorem q_sParO {i j tb F rho n}:sParO i j tb F rho n = (i < rho.length /\ j < rho.length /\ noOwns rho = true /\ n < 64 /\ tb rho n fun d n1=>n1 < 64 /\ F.nx ((rho.set i (some (.own []))).set j (some d)) n1):=rfl
section
variable {A:AC} {X:Cx} {b:Expr} {tb:TD} {pos:Pos}
end
end L2
set_option maxRecDepth 100000
namespace L2
open PySem PySem.Spec PyProof.Rows PySem.SeqAt
section
variable {A:AC} {X:Cx} {a b c e:Expr} {ta tb tc te:TD} {pos:Pos}
def rdTeq:RD2:=fun d1 d2 k=>tupAt d1 fun es=>d2 = .tup [] /\ k (.bl es.isEmpty)
@[simp] theorem q_rdTeq {d1 d2 k}:rdTeq d1 d2 k = tupAt d1 fun es=>d2 = .tup [] /\ k (.bl es.isEmpty):=rfl
def rdRepL:RD2:=fun d1 d2 k=>∃ es i,d1 = .lst es /\ d2 = .int i /\ 0 <= i /\ i < 1000 /\ es.length * i.toNat <= sizeLine /\ k (.lst (List.replicate i.toNat es).flatten)
@[simp] theorem q_rdRepL {es i k}:rdRepL (.lst es) (.int i) k ↔ (0 <= i /\ i < 1000 /\ es.length * i.toNat <= sizeLine /\ k (.lst (List.replicate i.toNat es).flatten)):=⟨fun ⟨_,_,e,e',h⟩=>by cases e; cases e'; exact h,fun h=>⟨_,_,rfl,rfl,h⟩⟩
def seqL (es:List D) (k:List D -> Prop):Prop:=∃ fs,(es = [.lst fs] \/ es = [.tup fs]) /\ k fs
@[simp] theorem q_seqL1 {fs:List D} {k}:seqL [.lst fs] k ↔ k fs:=⟨fun ⟨_,e,h⟩=>by rcases e with e | e <;> cases e; exact h,fun h=>⟨_,.inl rfl,h⟩⟩
@[simp] theorem q_seqL2 {fs:List D} {k}:seqL [.tup fs] k ↔ k fs:=⟨fun ⟨_,e,h⟩=>by rcases e with e | e <;> cases e; exact h,fun h=>⟨_,.inr rfl,h⟩⟩
def sListO (i:Nat) (t:TAD):TSD:=fun F rho n=>i < rho.length /\ t rho n fun es n1=>seqL es fun fs=>F.nx (rho.set i (some (.own fs))) n1
@[simp] theorem q_sListO {i t F rho n}:sListO i t F rho n = (i < rho.length /\ t rho n fun es n1=>seqL es fun fs=>F.nx (rho.set i (some (.own fs))) n1):=rfl
end
end L2
set_option maxRecDepth 100000
namespace L2
open PySem PySem.Spec PyProof.Rows PySem.SeqAt
mutual
def toPyA:D -> PyData
 | .bl b=>.bool b
 | .int i=>.int i
 | .str x=>.str x
 | .tup ds=>.tuple (toPyAs ds)
 | .lst ds=>.list (toPyAs ds)
 | _=>.none
def toPyAs:List D -> List PyData
 | []=>[]
 | d :: ds=>toPyA d :: toPyAs ds
end
mutual
def okR:D -> Nat -> Bool
 | .non,_=>true
 | .bl _,_=>true
 | .int i,_=>decide (i.natAbs.log2 < 1920)
 | .str x,_=>decide ((reprText x).length <= 2000)
 | .tup ds,k=>match k with
  | 0=>false
  | k + 1=>okRs ds k
 | .lst ds,k=>match k with
  | 0=>false
  | k + 1=>okRs ds k
 | _,_=>false
def okRs:List D -> Nat -> Bool
 | [],_=>true
 | d :: ds,k=>okR d k && okRs ds k
end
mutual
def nodR:D -> Nat
 | .tup ds=>nodRs ds + 1
 | .lst ds=>nodRs ds + 1
 | _=>1
def nodRs:List D -> Nat
 | []=>0
 | d :: ds=>nodR d + nodRs ds
end
def showA (d:D):Str:=(toPyA d).shown
section
variable {X:Cx} {pins:List (Addr × Obj)} {σ:St} {H:Hp} {s:Shared} {G:Option Addr} {Z:Addr -> Prop}
end
def kRepr:List D -> (D -> Prop) -> Prop:=fun es k=>∃ d,es = [d] /\ isTL d = true /\ okR d 15 = true /\ nodR d <= 8000 /\ k (.str (showA d))
@[simp] theorem q_kRepr {d k}:kRepr [d] k ↔ (isTL d = true /\ okR d 15 = true /\ nodR d <= 8000 /\ k (.str (showA d))):=⟨fun ⟨_,e,h⟩=>by cases e; exact h,fun h=>⟨_,rfl,h⟩⟩
end L2
set_option maxRecDepth 100000
namespace L2
open PySem PySem.Spec PyProof.Rows
def setAt (es:List D) (e d:D) (k:List D -> Prop):Prop:=∃ j m,e = .int j /\ ixN es.length j = some m /\ k (es.set m d)
def sOwnSet2 (i:Nat) (ta:TAD) (tb1 tb2:TD):TSD:=fun F rho n=>ownAt rho[i]? fun es=>ta rho n fun cs n1=>pair2 cs fun d1 d2=>tb1 rho n1 fun e1 n2=>setAt es e1 d1 fun es1 =>
 tb2 (rho.set i (some (.own es1))) n2 fun e2 n3=>setAt es1 e2 d2 fun es2=>F.nx (rho.set i (some (.own es2))) n3
@[simp] theorem q_sOwnSet2 {i ta tb1 tb2 F rho n}:sOwnSet2 i ta tb1 tb2 F rho n = ownAt rho[i]? fun es=>ta rho n fun cs n1=>pair2 cs fun d1 d2=>tb1 rho n1 fun e1 n2=>setAt es e1 d1 fun es1 =>
 tb2 (rho.set i (some (.own es1))) n2 fun e2 n3=>setAt es1 e2 d2 fun es2=>F.nx (rho.set i (some (.own es2))) n3:=rfl
section
variable {A:AC} {X:Cx} {a1 a2 b1 b2:Expr} {ta:TAD} {tb1 tb2:TD} {pos:Pos}
end
end L2
set_option maxRecDepth 100000
namespace PySem
open Sem (wp)
namespace F
end F
section
variable {prog:Program} {w:World} {K:Type} [DecidableEq K] {knd:KeyKind prog w K} {A:Around} {R:Result -> Shared -> Prop}
end
end PySem
set_option maxRecDepth 100000
namespace PySem
open Sem (wp)
section
variable {prog:Program} {w:World} {K:Type} [DecidableEq K] {knd:KeyKind prog w K} {A:Around} {E:Value -> Shared -> Prop} {s:Shared}
end
end PySem
set_option maxRecDepth 100000
namespace L2
open PySem PySem.Spec PyProof.Rows
section
variable {X:Cx} {A:AC}
end
end L2
set_option maxRecDepth 100000
namespace L2
open PySem PySem.Spec PyProof.Rows PySem.SeqAt
section
variable {A:AC} {X:Cx}
def tupsAt (d:D) (k:List (List D) -> Prop):Prop:=∃ ess:List (List D),d = .tup (ess.map D.tup) /\ k ess
def rdInE:RD2:=fun d1 d2 k=>d1 = .tup [] /\ tupsAt d2 fun ess=>k (.bl (ess.any List.isEmpty))
@[simp] theorem q_rdInE2 {a b k} : rdInE (.tup []) (.tup [.tup a, .tup b]) k ↔ k (.bl (a.isEmpty || b.isEmpty)) := by
 constructor
 ·rintro ⟨_, ess, e, h⟩
  have:ess = [a,b]:=by
   have e':=D.tup.inj e
   match ess,e' with
   | [x,y],e'=>simp at e'; rw [e'.1,e'.2]
   | [],e'=>simp at e'
   | [x],e'=>simp at e'
   | x :: y :: z :: r,e'=>simp at e'
  subst this
  simpa using h
 ·intro h
  exact ⟨rfl,[a,b],rfl,by simpa using h⟩
end
end L2
set_option maxRecDepth 100000
namespace L2
open PySem PySem.Spec PyProof.Rows PySem.SeqAt
mutual
def okN:D -> Nat -> Bool
 | .non,_=>true
 | .int i,_=>decide (i.natAbs.log2 < 20)
 | .tup ds,k=>match k with
  | 0=>false
  | k + 1=>okNs ds k
 | _,_=>false
def okNs:List D -> Nat -> Bool
 | [],_=>true
 | d :: ds,k=>okN d k && okNs ds k
end
def kStrN:List D -> (D -> Prop) -> Prop:=fun es k=>∃ ds,es = [.tup ds] /\ okN (.tup ds) 20 = true /\ nodR (.tup ds) <= 400000 /\ k (.str (showA (.tup ds)))
@[simp] theorem q_kStrN {ds k}:kStrN [.tup ds] k ↔ (okN (.tup ds) 20 = true /\ nodR (.tup ds) <= 400000 /\ k (.str (showA (.tup ds)))):=⟨fun ⟨_,e,h⟩=>by cases e; exact h,fun h=>⟨_,rfl,h⟩⟩
end L2
set_option maxRecDepth 100000
namespace L2
open PySem PySem.Spec PyProof.Rows
section
variable {A:AC}
def kBool:List D -> (D -> Prop) -> Prop:=fun es k=>∃ i:Int,es = [.int i] /\ k (.bl (i != 0))
@[simp] theorem q_kBool {i:Int} {k}:kBool [.int i] k ↔ k (.bl (i != 0)):=⟨fun ⟨_,e,h⟩=>by cases e; exact h,fun h=>⟨_,rfl,h⟩⟩
end
end L2
set_option maxRecDepth 100000
namespace L2
open PySem PySem.Spec PyProof.Rows
section
variable {A:AC} {X:Cx} {pos:Pos} {m:Nat}
def gdLst (k:Nat) (gs:TGsD):TGD:=fun d rho P=>∃ es,d = .lst es /\ es.length = k /\ gs es rho P
@[simp] theorem q_gdLst {k gs es rho P}:gdLst k gs (.lst es) rho P ↔ (es.length = k /\ gs es rho P):=⟨fun ⟨_,e,h⟩=>by cases e; exact h,fun h=>⟨_,rfl,h⟩⟩
end
end L2
set_option maxRecDepth 100000
namespace L2
open PySem PySem.Spec PyProof.Rows
section
variable {A:AC} {X:Cx}
def showN:D -> Str
 | .non => "None"
 | d=>showA d
def okRN (d:D):Prop:=d = .non \/ (isTL d = true /\ okR d 20 = true /\ nodR d <= 8000)
def kReprN:List D -> (D -> Prop) -> Prop:=fun es k=>∃ d,es = [d] /\ okRN d /\ k (.str (showN d))
@[simp] theorem q_kReprN {d k}:kReprN [d] k ↔ (okRN d /\ k (.str (showN d))):=⟨fun ⟨_,e,h⟩=>by cases e; exact h,fun h=>⟨_,rfl,h⟩⟩
end
theorem lo {sc:Scope} {x:Str} (h:(match sc.names.lookup x with | some .local=>true | some .cell=>true | _=>false) = true):Loc sc x:=by
 unfold Loc
 split at h
 ·exact .inl (by assumption)
 ·exact .inr (by assumption)
 ·cases h
end L2
set_option maxRecDepth 100000
namespace L2
open PySem PySem.Spec PyProof.Rows PySem.SeqAt
section
variable {A:AC} {X:Cx}
def rdNoneIn:RD2:=fun d1 d2 k=>d1 = .non /\ ∃ ess:List (List D),d2 = .lst (ess.map D.lst) /\ k (.bl false)
@[simp] theorem q_noneIn {a b k}:rdNoneIn .non (.lst [.lst a,.lst b]) k ↔ k (.bl false):=⟨fun ⟨_,_,_,h⟩=>h,fun h=>⟨rfl,[a,b],rfl,h⟩⟩
def kLenD:List D -> (D -> Prop) -> Prop:=fun es k=>∃ ks ds,es = [.dct ks ds] /\ ks.length = ds.length /\ k (.int (ks.length:Int))
@[simp] theorem q_kLenD {ks ds k}:kLenD [.dct ks ds] k ↔ (ks.length = ds.length /\ k (.int (ks.length:Int))):=⟨fun ⟨_,_,e,h⟩=>by cases e; exact h,fun h=>⟨_,_,rfl,h⟩⟩
end
end L2
set_option maxRecDepth 100000
namespace L2
open PySem PySem.Spec PyProof.Rows PySem.SeqAt
section
variable {A:AC} {X:Cx}
def dBits (te:TD):TD:=fun rho n P=>te rho n fun d n1=>∃ x:Int,d = .int x /\ P (.int ((Builtin.Int.intBits x:Nat):Int)) n1
@[simp] theorem q_dBits {te:TD} {rho:Rho} {n:Nat} {P:D -> Nat -> Prop}:dBits te rho n P = te rho n fun d n1=>∃ x:Int,d = .int x /\ P (.int ((Builtin.Int.intBits x:Nat):Int)) n1:=rfl
theorem mt_bits:MtR X "int.bit_length" (fun x vs H Q=>∃ z,x = .int z /\ vs = [] /\ Q (.int ((Builtin.Int.intBits z:Nat):Int)) H):=by
 intro pins s σ H x vs v us Q I rx rv h
 obtain ⟨z,rfl,rfl,q⟩:=h
 obtain ⟨t,rfl⟩:=rx
 cases rv
 exact PySem.call_gives PySem.F.slot_int_bit_length (typeIs_int _ _ _) PySem.F.entry_int_bit_length (PySem.F.args_int_bit_length_1 _) (PySem.AutoIntG2.int_bit_length_int_0 z t) ⟨.int _,H,I.tok _,⟨_,rfl⟩,q⟩
theorem pd_bits {o:Expr} {te:TD} {apos cpos:Pos} (ho:PD A X o te) (hbase:attributeBase o "bit_length" X.env (eval o X.env) = eval o X.env:=by rfl) (hline:(apos.endLine == cpos.line) = true:=by rfl):PD A X (.Call (.Attribute o "bit_length" apos) [] [] cpos) (dBits te):=by
 with_unfolding_all
  exact (pe_bm0 PySem.F.plainAttrs_int PySem.F.slot_int_bit_length PySem.F.type_int_bit_length mt_bits ho hbase hline).imp fun sg H Q h=>by
   obtain ⟨rho,n,P,ds',vs,I,ht,hQ⟩:=h
   refine ⟨rho,n,_,ds',vs,I,ht,fun v H' n' d J k=>?_⟩
   obtain ⟨x,rfl,k⟩:=k
   obtain ⟨os,J⟩:=J
   obtain ⟨J1,r⟩:=J.pop
   have e:=r.toS rfl
   subst e
   exact ⟨rfl,x,rfl,rfl,hQ _ _ _ _ ⟨os,J1.push (Rep.ofS rfl)⟩ k⟩
end
end L2
set_option maxRecDepth 100000
namespace L2
open PySem PySem.Spec PyProof.Rows PySem.SeqAt
section
variable {A:AC} {X:Cx}
def rngV (k:Nat):List V:=(List.range k).map fun i:Nat=>V.int (i:Int)
def tListR (ta:TA):TE:=fun σ H Q=>ta σ H fun vs H1=>∃ j:Int,vs = [.int j] /\ 0 <= j /\ j <= 1000 /\ ∀ l,H1 l = none -> Q (.ref l) (upd H1 l (.lst (rngV j.toNat)))
theorem vals_from:∀ (its:List Value) (b:Nat),(∀ (i:Nat) v,its[i]? = some v -> ∃ t,v = Value.int ((b + i:Nat):Int) t) -> Vals ((List.range' b its.length).map fun i:Nat=>V.int (i:Int)) its
 | [],b,h=>.nil
 | x :: its,b,h=>by
  obtain ⟨t,e⟩:=h 0 x rfl
  refine .cons ⟨t,e⟩ (vals_from its (b + 1) fun i v hi=>?_)
  obtain ⟨u,e'⟩:=h (i + 1) v hi
  refine ⟨u,?_⟩
  rw [e']
  have:b + (i + 1) = b + 1 + i:=by lia
  rw [this]
theorem vals_rng {its:List Value} {k:Nat} (hl:its.length = k) (h:∀ (i:Nat) v,its[i]? = some v -> ∃ t,v = Value.int ((i:Nat):Int) t):Vals (rngV k) its:=by
 have:=vals_from its 0 fun i v hi=>by rw [Nat.zero_add]; exact h i v hi
 unfold rngV
 rw [List.range_eq_range',<- hl]
 exact this
theorem pe_listRng {n:Nat} {a:Expr} {ta:TA} {p p' pos pos':Pos} (hr:Room n X.A) (hl:Gl X "list") (hlm:X.mg "list" = none) (hg:Gl X "range") (hm:X.mg "range" = none) (ha:PA X [a] ta) (hs:starEach [a] X.env = [(false,eval a X.env)]:=by rfl)
  (he:starEach [.Call (.Name "range" p) [a] [] pos] X.env = (false,eval (.Call (.Name "range" p) [a] [] pos) X.env) :: starEach [] X.env:=by rfl) :
  PE X (.Call (.Name "list" p') [.Call (.Name "range" p) [a] [] pos] [] pos') (tListR ta):=by
 intro pins s σ H Q I h
 refine wpAny_Call_Name_kw (ld_blt I hl hlm bt_list ?_ (by decide) (by decide))
 refine PyProof.Rows.callWith_type1 ?_ he rfl
 rw [he]
 show wpAny _ _ (spliced ((false,eval _ X.env) :: backTo pos' [])) _ _ s
 refine Calls.spliced_cons ?_
 refine Call_ (ld_blt I hg hm boot_range (PyProof.Rows.callWith_type1 (thn (ha pos pins s σ H _ I h) fun us s1 ⟨vs,H1,I1,r1,q1⟩=>?_) hs rfl))
 obtain ⟨j,e,q1,q2,q⟩:=q1
 subst e
 cases r1 with
 | cons r rr =>
  cases rr
  obtain ⟨t,rfl⟩:=r
  refine call_range_1 ?_
  refine Calls.spliced_nil ?_
  refine call_list_range hr.hd (IsRange.new ..) (small_one (by lia) (by lia) (by lia) (by lia)) (n:=j.toNat) (by rw [rangeSize_one]; split <;> lia) (by lia) fun h' tk acc' c' hk hS' hacc=>?_
  have hp:s1.heap.objs.size <= (s1.heap.push { cls:=.type "range",data:=.fields #[.int 0 s1.toks,.int j t,.int 1 (s1.toks + 1)] }).objs.size:=by simp [Heap.push]
  have rv:Vals (rngV j.toNat) acc'.toList:=vals_rng (by rw [<- hacc.1]; simp) fun i v hi=>by
   obtain ⟨u,e⟩:=hacc.2 i v (by simpa using hi)
   exact ⟨u,by rw [e]; simp⟩
  refine ⟨.ref _,_,I1.laid (t':=tk) (fun b u e=>hk b u (Heap.get?_push_of_some _ e)) hp (show ObjOk X.prog X.w _ h' _ (.lst (rngV j.toNat)) from ⟨?_,acc'.toList,c',rv,?_⟩),rfl,q _ (I1.hok.fresh hp)⟩
  ·unfold rngV; rw [List.length_map,List.length_range]; exact le_size (by lia)
  ·simpa using hS'
def kListR:List D -> (D -> Prop) -> Prop:=fun es k=>∃ j:Int,es = [.int j] /\ 0 <= j /\ j <= 1000 /\ k (.lst ((List.range j.toNat).map fun i:Nat=>D.int (i:Int)))
@[simp] theorem q_kListR {j:Int} {k:D -> Prop}:kListR [.int j] k ↔ (0 <= j /\ j <= 1000 /\ k (.lst ((List.range j.toNat).map fun i:Nat=>D.int (i:Int)))):=⟨fun ⟨_,e,h⟩=>by cases e; exact h,fun h=>⟨_,rfl,h⟩⟩
theorem reps_nums {K:PySem.W.Frag} {G:Option Addr} {Z:Addr -> Prop} {H:Hp}:∀ l:List Nat,Reps K G Z H (l.map fun i:Nat=>D.int (i:Int)) (l.map fun i:Nat=>V.int (i:Int))
 | []=>.nil
 | a :: l=>.cons (Rep.ofS rfl) (reps_nums l)
theorem cr_listR:CallRel A (fun xs H Q=>∃ j:Int,xs = [.int j] /\ 0 <= j /\ j <= 1000 /\ ∀ l,H l = none -> Q (.ref l) (upd H l (.lst (rngV j.toNat)))) kListR:=by
 rintro os n rho sg H ds vs es ws k Q I rs ⟨j,rfl,h1,h2,q⟩ hQ
 obtain ⟨v,rfl,r⟩:=reps1 rs
 have e:v = .int j:=r.toS rfl
 subst e
 exact ⟨j,rfl,h1,h2,fun l hl=>hQ _ _ _ ⟨os,I.newLst (reps_nums _) hl⟩ q⟩
theorem pd_listR {n:Nat} {a:Expr} {t1:TAD} {p p' pos pos':Pos} (hr:Room n X.A) (hlm:X.mg "list" = none) (hm:X.mg "range" = none) (ha:PAD A X [a] t1) (hl:Gl X "list" := by rfl) (hg:Gl X "range" := by rfl) (hs:starEach [a] X.env = [(false,eval a X.env)]:=by rfl)
  (he:starEach [.Call (.Name "range" p) [a] [] pos] X.env = (false,eval (.Call (.Name "range" p) [a] [] pos) X.env) :: starEach [] X.env:=by rfl) :
  PD A X (.Call (.Name "list" p') [.Call (.Name "range" p) [a] [] pos] [] pos') (dCall kListR t1):=by
 with_unfolding_all
  exact (pe_listRng hr hl hlm hg hm ha hs he).imp fun _ _ _=>tCB_of cr_listR
end
end L2
set_option maxRecDepth 100000
namespace L2
open PySem PySem.Spec PyProof.Rows
mutual
theorem plD_noSt:∀ d:D,plD d = true -> noSt d = true
 | .non,_=>rfl
 | .bl _,_=>rfl
 | .int _,_=>rfl
 | .rf _,_=>rfl
 | .tup ds,h=>plDs_noSt ds h
 | .lst ds,h=>plDs_noSt ds h
 | .str _,h=>by simp [plD] at h
 | .ty _,h=>by simp [plD] at h
 | .fz _,h=>by simp [plD] at h
 | .st,h=>by simp [plD] at h
 | .own _,h=>by simp [plD] at h
 | .dic,h=>by simp [plD] at h
 | .dct _ _,h=>by simp [plD] at h
theorem plDs_noSt:∀ ds:List D,plDs ds = true -> noSts ds = true
 | [],_=>rfl
 | d :: ds,h=>by
  have h':plD d = true /\ plDs ds = true:=by simpa [plDs] using h
  simp [noSts,plD_noSt d h'.1,plDs_noSt ds h'.2]
end
theorem plDs_iff:∀ {ds:List D},plDs ds = true ↔ ∀ d ∈ ds,plD d = true
 | []=>by simp [plDs]
 | d :: ds=>by simp [plDs,plDs_iff (ds:=ds)]
section
variable {A:AC} {os:List (Nat × Addr)} {n:Nat} {rho:Rho} {sg:St} {H:Hp} {ds:List D} {vs:List V} {a:Addr} {c:Cell} {o:HO}
theorem AmO.cell (I:AmO A os n rho sg H ds vs) (h:cellAt n a = some c):A.G ≠ some a /\ Zof A os a /\ CellR A.K (Zof A os) H a c:=by
 obtain ⟨h1,h2,h3⟩:=I.st.2 a c h
 refine ⟨h2,?_,h3⟩
 rcases h1 with z | ⟨p,hp,e,_⟩
 ·exact .inl z.1
 ·exact .inr ⟨p,hp,e⟩
def Wok (A:AC) (os:List (Nat × Addr)) (n:Nat) (H:Hp) (a:Addr):Prop:=A.G ≠ some a /\ ((Zof A os a /\ cellAt n a ≠ none) \/ H a = none)
theorem AmO.wok (I:AmO A os n rho sg H ds vs) (h:cellAt n a = some c):Wok A os n H a:=⟨(I.cell h).1,.inl ⟨(I.cell h).2.1,by rw [h]; simp⟩⟩
theorem AmO.wokNew (I:AmO A os n rho sg H ds vs) (h:H a = none):Wok A os n H a:=by
 refine ⟨fun e=>?_,.inr h⟩
 obtain ⟨x,y,z,w,_⟩:=I.st.1 a e
 rw [w] at h; cases h
theorem AmO.noCell (I:AmO A os n rho sg H ds vs) (h:H a = none):cellAt n a = none:=by
 cases q:cellAt n a with
 | none=>rfl
 | some c=>exact absurd h (I.cell q).2.2.ne
theorem Wok.z (w:Wok A os n H a) (hp:plC c = true) (I:AmO A os n rho sg H ds vs):∀ b,H b ≠ none -> ZCof (Zof A os) (setC n a c) b -> Zof A os b:=fun b hb z=>by
 rcases z with z | z
 ·exact z
 ·rw [cellAt_set hp] at z
  by_cases e:b = a
  ·rcases w.2 with y | y
   ·rw [e]; exact y.1
   ·rw [e] at hb; exact absurd y hb
  ·rw [if_neg e] at z
   cases q:cellAt n b with
   | none=>exact absurd q z
   | some c=>exact (I.cell q).2.1
theorem Wok.f (w:Wok A os n H a):∀ b u,¬ Zof A os b -> H b = some u -> upd H a o b = some u:=fun b u nz e=>by
 refine (upd_ne fun z=>?_).trans e
 rcases w.2 with y | y
 ·exact nz (by rw [z]; exact y.1)
 ·rw [z,y] at e; cases e
theorem Wok.rep (w:Wok A os n H a) (hp:plC c = true) (I:AmO A os n rho sg H ds vs) {d:D} {v:V} (hs:plD d = true) (r:Rep A.K A.G (Zof A os) H d v):Rep A.K none (ZCof (Zof A os) (setC n a c)) (upd H a o) d v :=
 Rep.mono (w.z hp I) w.f _ _ (Rep.reG _ _ (plD_noSt _ hs) r)
theorem Wok.kv (w:Wok A os n H a) (hp:plC c = true) (I:AmO A os n rho sg H ds vs) {l:List (Int × D)} {r:List (Key × V)} (h:KvR A.K (Zof A os) H l r):KvR A.K (ZCof (Zof A os) (setC n a c)) (upd H a o) l r:=h.mono (w.z hp I) w.f
theorem Wok.fs (w:Wok A os n H a) (hp:plC c = true) (I:AmO A os n rho sg H ds vs) {l:List (Str × D)} {r:List (Str × V)} (h:FsR A.K (Zof A os) H l r):FsR A.K (ZCof (Zof A os) (setC n a c)) (upd H a o) l r:=h.mono (w.z hp I) w.f
theorem AmO.wrote (I:AmO A os n rho sg H ds vs) (w:Wok A os n H a) (hp:plC c = true) (hc:CellR A.K (ZCof (Zof A os) (setC n a c)) (upd H a o) a c) :
  ∃ os',AmO A os' (setC n a c) rho sg (upd H a o) ds vs /\ ∀ b,Zof A os' b -> ZCof (Zof A os) (setC n a c) b:=by
 refine I.calledX (fun b u g cn e=>?_) ⟨fun b e=>?_,fun b c' e=>?_⟩ ⟨fun b h=>?_,fun b h=>?_⟩
 ·refine (upd_ne fun z => ?_).trans e
  rcases w.2 with y | y
  ·exact y.2 (by rw [<- z]; exact cn)
  ·rw [z,y] at e; cases e
 ·obtain ⟨zs, u, v, q, r⟩ := I.st.1 b e
  exact ⟨zs,u,v,by rw [upd_ne fun z=>w.1 (by rw [<- z]; exact e)]; exact q,by rw [kOf_set hp]; exact r⟩
 ·have ne : cellAt (setC n a c) b ≠ none := by rw [e]; simp
  rw [cellAt_set hp] at e
  by_cases q:b = a
  ·rw [if_pos q] at e
   cases e
   exact ⟨.inr ne,by rw [q]; exact w.1,by rw [q]; exact hc⟩
  ·rw [if_neg q] at e
   obtain ⟨h1,h2,h3⟩:=I.cell e
   exact ⟨.inl h2,h1,h3.mono (w.z hp I) w.f fun o' e'=>by rw [upd_ne q]; exact e'⟩
 ·rw [cellAt_set hp] at h
  by_cases q:b = a
  ·rcases w.2 with y | y
   ·exact .inl (by rw [q]; exact y.2)
   ·exact .inr (by rw [q]; exact y)
  ·rw [if_neg q] at h; exact .inl h
 ·rw [cellAt_set hp]
  by_cases q:b = a
  ·rw [if_pos q]; simp
  ·rw [if_neg q]; exact h
end
def getP {α:Type} (k:Int):List (Int × α) -> Option α
 | []=>none
 | p :: l=>if p.1 = k then some p.2 else getP k l
def putP {α:Type} (k:Int) (x:α) (l:List (Int × α)):List (Int × α):=if (getP k l).isSome = true then l.map fun p=>if p.1 = k then (p.1,x) else p else l ++ [(k,x)]
def dropP {α:Type} (k:Int) (l:List (Int × α)):List (Int × α):=l.filter fun p=>decide (p.1 ≠ k)
def getF {α:Type} (f:Str):List (Str × α) -> Option α
 | []=>none
 | p :: l=>if p.1 = f then some p.2 else getF f l
def putA {α:Type} (f:Str) (x:α):List (Str × α) -> List (Str × α)
 | []=>[(f,x)]
 | p :: l=>if p.1 = f then (f,x) :: l else p :: putA f x l
section
variable {K:PySem.W.Frag} {G:Option Addr} {Z:Addr -> Prop} {H:Hp} {d:D} {v:V}
theorem inl_ne {a b:Int} (h:¬ a = b):¬ (Sum.inl a:Key) = Sum.inl b:=fun e=>h (Sum.inl.inj e)
theorem KvR.get:∀ {l:List (Int × D)} {r:List (Key × V)} {k:Int},KvR K Z H l r -> (∀ d,getP k l = some d -> ∃ v,valV r (.inl k) = some v /\ Rep K none Z H d v) /\ (getP k l = none -> valV r (.inl k) = none)
 | [],[],k,_=>⟨fun d h=>by simp [getP] at h,fun _=>rfl⟩
 | p :: l, q :: r, k, h => by
  obtain ⟨h1,h2,h3⟩:=h
  obtain ⟨i1,i2⟩:=KvR.get (k:=k) h3
  unfold getP
  by_cases e:p.1 = k
  ·rw [if_pos e, valV_pos (by rw [h1, e])]
   exact ⟨fun d h=>by cases h; exact ⟨_,rfl,h2⟩,fun h=>by cases h⟩
  ·rw [if_neg e, valV_neg (by rw [h1]; exact inl_ne e)]
   exact ⟨i1,i2⟩
theorem KvR.length:∀ {l:List (Int × D)} {r:List (Key × V)},KvR K Z H l r -> r.length = l.length
 | [],[],_=>rfl
 | _ :: _,_ :: _,h=>by rw [List.length_cons,List.length_cons,KvR.length h.2.2]
theorem KvR.has:∀ {l:List (Int × D)} {r:List (Key × V)} {k:Int},KvR K Z H l r -> (valV r (.inl k)).isSome = (getP k l).isSome:=fun {l r k} h=>by
 obtain ⟨i1,i2⟩:=h.get (k:=k)
 cases e:getP k l with
 | none=>rw [i2 e]; rfl
 | some d=>obtain ⟨v,hv,_⟩:=i1 d e; rw [hv]; rfl
theorem inl_iff {a b:Int}:(Sum.inl a:Key) = Sum.inl b ↔ a = b:=⟨fun e=>Sum.inl.inj e,fun e=>by rw [e]⟩
theorem KvR.snoc (rv:Rep K none Z H d v) {k:Int}:∀ {l:List (Int × D)} {r:List (Key × V)},KvR K Z H l r -> KvR K Z H (l ++ [(k,d)]) (r ++ [(.inl k,v)])
 | [],[],_=>⟨rfl,rv,trivial⟩
 | _ :: _,_ :: _,h=>⟨h.1,h.2.1,KvR.snoc rv h.2.2⟩
theorem KvR.repl (rv:Rep K none Z H d v) {k:Int}:∀ {l:List (Int × D)} {r:List (Key × V)},KvR K Z H l r -> KvR K Z H (l.map fun p=>if p.1 = k then (p.1,d) else p) (r.map fun kv=>if kv.1 = (.inl k:Key) then (kv.1,v) else kv)
 | [],[],_=>trivial
 | p :: l,q :: r,h=>by
  rw [List.map_cons,List.map_cons]
  refine ⟨?_,?_,KvR.repl rv h.2.2⟩ <;> rw [h.1] <;> by_cases c:p.1 = k
  ·rw [if_pos c,if_pos (inl_iff.mpr c)]
  ·rw [if_neg c,if_neg (inl_ne c)]; exact h.1
  ·rw [if_pos c,if_pos (inl_iff.mpr c)]; exact rv
  ·rw [if_neg c,if_neg (inl_ne c)]; exact h.2.1
theorem KvR.put {l:List (Int × D)} {r:List (Key × V)} {k:Int} (h:KvR K Z H l r) (rv:Rep K none Z H d v):KvR K Z H (putP k d l) (putK r (.inl k) v):=by
 unfold putK putP
 rw [valV_any,h.has]
 cases (getP k l).isSome with
 | true=>rw [if_pos rfl,if_pos rfl]; exact h.repl rv
 | false=>rw [if_neg Bool.false_ne_true,if_neg Bool.false_ne_true]; exact h.snoc rv
theorem KvR.drop {k:Int}:∀ {l:List (Int × D)} {r:List (Key × V)},KvR K Z H l r -> KvR K Z H (dropP k l) (dropK r (.inl k))
 | [],[],_=>trivial
 | p :: l, q :: r, h => by
  by_cases c:p.1 = k
  ·rw [show dropP k (p :: l) = dropP k l from List.filter_cons_of_neg (by simpa using c), dropK_pos (by rw [h.1, c])]
   exact KvR.drop h.2.2
  ·rw [show dropP k (p :: l) = p :: dropP k l from List.filter_cons_of_pos (by simpa using c), dropK_neg (by rw [h.1]; exact inl_ne c)]
   exact ⟨h.1,h.2.1,KvR.drop h.2.2⟩
theorem FsR.get:∀ {l:List (Str × D)} {r:List (Str × V)} {f:Str},FsR K Z H l r -> (∀ d,getF f l = some d -> ∃ v,r.lookup f = some v /\ Rep K none Z H d v) /\ (getF f l = none -> r.lookup f = none)
 | [],[],f,_=>⟨fun d h=>by simp [getF] at h,fun _=>rfl⟩
 | p :: l, q :: r, f, h => by
  obtain ⟨h1,h2,h3⟩:=h
  obtain ⟨i1,i2⟩:=FsR.get (f:=f) h3
  obtain ⟨q1,q2⟩:=q
  have h1:q1 = p.1:=h1
  subst h1
  unfold getF
  by_cases e:p.1 = f
  ·rw [if_pos e]
   exact ⟨fun d h=>by cases h; exact ⟨q2,by rw [List.lookup,beq_iff_eq.mpr e.symm],h2⟩,fun h=>by cases h⟩
  ·rw [if_neg e]
   have hb:(f == p.1) = false:=beq_eq_false_iff_ne.mpr fun z=>e z.symm
   rw [List.lookup,hb]
   exact ⟨i1,i2⟩
theorem FsR.put:∀ {l:List (Str × D)} {r:List (Str × V)} {f:Str},FsR K Z H l r -> Rep K none Z H d v -> FsR K Z H (putA f d l) (putF f v r)
 | [],[],f,_,rv=>⟨rfl,rv,trivial⟩
 | p :: l, q :: r, f, h, rv => by
  obtain ⟨h1,h2,h3⟩:=h
  obtain ⟨q1,q2⟩:=q
  have h1:q1 = p.1:=h1
  subst h1
  unfold putA putF
  by_cases e:p.1 = f
  ·rw [if_pos e, if_pos e]
   exact ⟨e,rv,h3⟩
  ·rw [if_neg e, if_neg e]
   exact ⟨rfl,h2,FsR.put h3 rv⟩
theorem FsR.length:∀ {l:List (Str × D)} {r:List (Str × V)},FsR K Z H l r -> r.length = l.length
 | [],[],_=>rfl
 | _ :: _,_ :: _,h=>by rw [List.length_cons,List.length_cons,FsR.length h.2.2]
end
end L2
namespace L2
open PySem PySem.Spec PyProof.Rows
theorem lk_mem:∀ {l:List (Addr × Cell)} {a:Addr} {c:Cell},l.lookup a = some c -> (a,c) ∈ l
 | [],_,_,h=>by simp at h
 | p :: l, a, c, h => by
  obtain ⟨b,e⟩:=p
  by_cases q:a = b
  ·subst q
   simp at h
   rw [h]; exact List.mem_cons_self
  ·refine List.mem_cons_of_mem _ (lk_mem ?_)
   simpa [List.lookup,beq_eq_false_iff_ne.mpr q] using h
theorem cellAt_pl {n:Nat} {a:Addr} {c:Cell} (h:cellAt n a = some c):plC c = true:=decW_pl n (a,c) (lk_mem h)
theorem getP_mem {α:Type} {k:Int}:∀ {l:List (Int × α)} {x:α},getP k l = some x -> (k,x) ∈ l
 | [],_,h=>by simp [getP] at h
 | p :: l,x,h=>by
  unfold getP at h
  by_cases c:p.1 = k
  ·rw [if_pos c] at h; cases h; rw [<- c]; exact List.mem_cons_self
  ·rw [if_neg c] at h; exact List.mem_cons_of_mem _ (getP_mem h)
theorem getF_mem {α:Type} {f:Str}:∀ {l:List (Str × α)} {x:α},getF f l = some x -> (f,x) ∈ l
 | [],_,h=>by simp [getF] at h
 | p :: l,x,h=>by
  unfold getF at h
  by_cases c:p.1 = f
  ·rw [if_pos c] at h; cases h; rw [<- c]; exact List.mem_cons_self
  ·rw [if_neg c] at h; exact List.mem_cons_of_mem _ (getF_mem h)
theorem pl_getP {n:Nat} {a:Addr} {kv:List (Int × D)} {k:Int} {x:D} (h:cellAt n a = some (.dic kv)) (e:getP k kv = some x):plD x = true :=
 plDs_iff.mp (show plDs (kv.map (·.2)) = true from cellAt_pl h) x (List.mem_map_of_mem (getP_mem e))
theorem pl_getF {n:Nat} {a C:Addr} {fs:List (Str × D)} {f:Str} {x:D} (h:cellAt n a = some (.ins C fs)) (e:getF f fs = some x):plD x = true :=
 plDs_iff.mp (show plDs (fs.map (·.2)) = true from cellAt_pl h) x (List.mem_map_of_mem (getF_mem e))
theorem pl_putP {kv:List (Int × D)} {k:Int} {d:D} (h:plC (.dic kv) = true) (hd:plD d = true):plC (.dic (putP k d kv)) = true:=by
 refine plDs_iff.mpr fun x hx=>?_
 have h':=plDs_iff.mp (show plDs (kv.map (·.2)) = true from h)
 obtain ⟨p,hp,rfl⟩:=List.mem_map.mp hx
 unfold putP at hp
 split at hp
 ·obtain ⟨q, hq, rfl⟩ := List.mem_map.mp hp
  by_cases c:q.1 = k
  ·rw [if_pos c]; exact hd
  ·rw [if_neg c]; exact h' _ (List.mem_map_of_mem hq)
 ·rcases List.mem_append.mp hp with hp | hp
  ·exact h' _ (List.mem_map_of_mem hp)
  ·rw [List.mem_singleton.mp hp]; exact hd
theorem pl_dropP {kv:List (Int × D)} {k:Int} (h:plC (.dic kv) = true):plC (.dic (dropP k kv)) = true:=by
 refine plDs_iff.mpr fun x hx=>?_
 obtain ⟨p,hp,rfl⟩:=List.mem_map.mp hx
 exact plDs_iff.mp (show plDs (kv.map (·.2)) = true from h) _ (List.mem_map_of_mem (List.mem_filter.mp hp).1)
theorem pl_putA {C:Addr} {f:Str} {d:D} (hd:plD d = true):∀ {fs:List (Str × D)},plC (.ins C fs) = true -> plC (.ins C (putA f d fs)) = true:=fun {fs} h=>by
 refine plDs_iff.mpr ?_
 have h':=plDs_iff.mp (show plDs (fs.map (·.2)) = true from h)
 clear h
 induction fs with
 | nil=>intro x hx; rw [List.mem_singleton.mp hx]; exact hd
 | cons p fs ih =>
  intro x hx
  obtain ⟨q,hq,rfl⟩:=List.mem_map.mp hx
  unfold putA at hq
  split at hq
  ·rcases List.mem_cons.mp hq with rfl | hq
   ·exact hd
   ·exact h' _ (List.mem_map_of_mem (List.mem_cons_of_mem _ hq))
  ·rcases List.mem_cons.mp hq with rfl | hq
   ·exact h' _ (List.mem_map_of_mem List.mem_cons_self)
   ·exact ih (fun x hx=>h' x (by rw [List.map_cons]; exact List.mem_cons_of_mem _ hx)) _ (List.mem_map_of_mem hq)
end L2
set_option maxRecDepth 100000
namespace L2
open PySem PySem.Spec PyProof.Rows
def rfAt (d:D) (k:Addr -> Prop):Prop:=∃ a,d = .rf a /\ k a
@[simp] theorem q_rfAt {a k}:rfAt (.rf a) k ↔ k a:=⟨fun ⟨_,e,h⟩=>by cases e; exact h,fun h=>⟨_,rfl,h⟩⟩
def keyAt (d:D) (k:Int -> Prop):Prop:=∃ i,d = .int i /\ k i
@[simp] theorem q_keyAt {i k}:keyAt (.int i) k ↔ k i:=⟨fun ⟨_,e,h⟩=>by cases e; exact h,fun h=>⟨_,rfl,h⟩⟩
def insAt (C:Addr) (n:Nat) (a:Addr) (k:List (Str × D) -> Prop):Prop:=∃ fs,cellAt n a = some (.ins C fs) /\ k fs
def dicAt (n:Nat) (a:Addr) (k:List (Int × D) -> Prop):Prop:=∃ kv,cellAt n a = some (.dic kv) /\ k kv
theorem insAt_mk {C n a fs k} (h:cellAt n a = some (.ins C fs)) (q:k fs):insAt C n a k:=⟨fs,h,q⟩
theorem dicAt_mk {n a kv k} (h:cellAt n a = some (.dic kv)) (q:k kv):dicAt n a k:=⟨kv,h,q⟩
def optAt {α:Type} (o:Option α) (k:α -> Prop):Prop:=∃ x,o = some x /\ k x
@[simp] theorem q_optAt {α:Type} {x:α} {k:α -> Prop}:optAt (some x) k ↔ k x:=⟨fun ⟨_,e,h⟩=>by cases e; exact h,fun h=>⟨_,rfl,h⟩⟩
section
variable {A:AC} {X:Cx} {C:Addr} {a b e:Expr} {ta tb te:TD} {t1:TAD} {es:List Expr} {pos pos' p:Pos} {f:Str}
theorem Rep.rf_inv {K:PySem.W.Frag} {G:Option Addr} {Z:Addr -> Prop} {H:Hp} {v:V} {a:Addr} (h:Rep K G Z H (.rf a) v):v = .ref a:=by unfold Rep at h; exact h
theorem Rep.rf_mk {K:PySem.W.Frag} {G:Option Addr} {Z:Addr -> Prop} {H:Hp} {a:Addr}:Rep K G Z H (.rf a) (.ref a):=by unfold Rep; rfl
def dNewC:TD:=fun _ n P=>∀ a,cellAt n a = none -> P (.rf a) (setC n a (.dic []))
theorem pd_newC:PD A X (.Dict [] [] pos) dNewC:=by
 with_unfolding_all
  exact pe_dnewK.imp fun sg H Q h=>by
   obtain ⟨rho,n,P,ds,vs,⟨os,I⟩,k,hQ⟩:=h
   intro p hp
   obtain ⟨os',J,_⟩:=I.wrote (o:=.dK []) (I.wokNew hp) (c:=.dic []) rfl ⟨[],upd_same,trivial⟩
   exact hQ _ _ _ _ ⟨os',J.push Rep.rf_mk⟩ (k p (I.noCell hp))
def dFldC (C:Addr) (f:Str) (t:TD):TD:=fun rho n P=>t rho n fun d n'=>rfAt d fun a=>insAt C n' a fun fs=>optAt (getF f fs) fun x=>P x n'
theorem pd_fldC (c:Cls X.K C) (na:NoAttr X.K C f) (ha:PD A X a ta) (hb:attributeBase a f X.env (eval a X.env) = eval a X.env:=by rfl):PD A X (.Attribute a f pos) (dFldC C f ta):=by
 with_unfolding_all
  exact (pe_fld ha hb).imp fun sg H Q h=>by
   obtain ⟨rho,n,P,ds,vs,I,ht,hQ⟩:=h
   refine ⟨rho,n,_,ds,vs,I,ht,fun v H' n' d ⟨os,J⟩ k=>?_⟩
   obtain ⟨q,rfl,fs,hc,x,hx,k⟩:=k
   obtain ⟨J1,r⟩:=J.pop
   obtain ⟨_,_,dx,gs,hp,hf⟩:=J1.cell hc
   obtain ⟨u,hu,ru⟩:=hf.get.1 x hx
   exact ⟨q,C,dx,gs,u,r.rf_inv,hp,c,na,hu,hQ u H' n' x ⟨os,J1.push (Rep.reG _ _ (plD_noSt _ (pl_getF hc hx)) ru)⟩ k⟩
def sFldC (C:Addr) (f:Str) (ta te:TD):TSD:=fun F rho n=>te rho n fun d n1=>ta rho n1 fun x n2=>rfAt x fun a=>insAt C n2 a fun fs=>plD d = true /\ fs.length < 1000 /\ F.nx rho (setC n2 a (.ins C (putA f d fs)))
theorem psd_fldC (c:Cls X.K C) (na:NoAttr X.K C f) (ha:PD A X a ta) (he:PD A X e te) (hs:swapsWith e (some (.Attribute a f pos')) pos.line X.env = pure false:=by rfl):PSD A X (.Assign [.Attribute a f pos'] e pos) (sFldC C f ta te):=by
 with_unfolding_all
  exact (ps_fld ha he hs).imp fun E sg H h=>by
   obtain ⟨rho,n,F,ds,vs,I,ht,ok⟩:=h
   refine ⟨rho,n,_,ds,vs,I,ht,fun v H' n' d J k=>⟨rho,n',_,d :: ds,v :: vs,J,k,fun v2 H2 n2 x ⟨os,J2⟩ k2=>?_⟩⟩
   obtain ⟨q,rfl,fs,hc,hd,hl,k2⟩:=k2
   obtain ⟨J3,r2⟩:=J2.pop
   obtain ⟨J4,r1⟩:=J3.pop
   obtain ⟨_,_,dx,gs,hp,hf⟩:=J4.cell hc
   have w:=J4.wok hc
   have pl:=pl_putA (C:=C) (f:=f) hd (cellAt_pl hc)
   refine ⟨q,C,dx,gs,r2.rf_inv,hp,c,na,by rw [hf.length]; exact hl,?_⟩
   obtain ⟨os',J5,_⟩:=J4.wrote (o:=.ins C dx (putF f v gs)) w pl ⟨dx,_,upd_same,(w.fs pl J4 hf).put (w.rep pl J4 hd r1)⟩
   exact ok.nx _ _ _ _ ⟨os',J5⟩ k2
def sFldAugC (C:Addr) (f:Str) (ta te:TD):TSD:=fun F rho n=>ta rho n fun x n1=>rfAt x fun a=>insAt C n1 a fun fs=>optAt (getF f fs) fun y=>keyAt y fun i=>te rho n1 fun d n2=>keyAt d fun j=>insAt C n2 a fun fs2=>fs2.length < 1000 /\ F.nx rho (setC n2 a (.ins C (putA f (.int (i + j)) fs2)))
theorem psd_fldAugC (c:Cls X.K C) (na:NoAttr X.K C f) (ha:PD A X a ta) (he:PD A X e te):PSD A X (.AugAssign (.Attribute a f pos') .Add e pos) (sFldAugC C f ta te):=by
 with_unfolding_all
  exact (ps_fldaug ha he in_add).imp fun E sg H h=>by
   obtain ⟨rho,n,F,ds,vs,I,ht,ok⟩:=h
   refine ⟨rho,n,_,ds,vs,I,ht,fun v H' n' d ⟨os,J⟩ k=>?_⟩
   obtain ⟨q,rfl,fs,hc,_,hx,i,rfl,k⟩:=k
   obtain ⟨J1,r⟩:=J.pop
   obtain ⟨_,_,dx,gs,hp,hf⟩:=J1.cell hc
   obtain ⟨u,hu,ru⟩:=hf.get.1 _ hx
   refine ⟨q,C,dx,gs,u,r.rf_inv,hp,c,na,hu,rho,n',_,ds,vs,⟨os,J1⟩,k,fun v2 H2 n2 d2 ⟨os2,J2⟩ k2=>?_⟩
   obtain ⟨j,rfl,fs2,hc2,hl,k2⟩:=k2
   obtain ⟨J3,r2⟩:=J2.pop
   obtain ⟨_,_,dx2,gs2,hp2,hf2⟩:=J3.cell hc2
   have w:=J3.wok hc2
   have pl:=pl_putA (C:=C) (f:=f) (d:=.int (i + j)) rfl (cellAt_pl hc2)
   refine ⟨i,j,ru.int_inv,r2.int_inv,dx2,gs2,hp2,by rw [hf2.length]; exact hl,?_⟩
   obtain ⟨os',J5,_⟩:=J3.wrote (o:=.ins C dx2 (putF f (.int (i + j)) gs2)) w pl ⟨dx2,_,upd_same,(w.fs pl J3 hf2).put (Rep.ofS (d:=.int (i + j)) rfl)⟩
   exact ok.nx _ _ _ _ ⟨os',J5⟩ k2
structure MthC (P:Program) (w:World) (K:PySem.W.Frag) (mg:Str -> Option Value) (base:Heap) (C:Addr) (m:Str) (kk k:Nat) (t:TF):Prop where
 ex:∃ (g:Addr) (fd:FuncData) (ps:List Str),FnOk P w K mg base CX0 kk g fd ps (spD K (k + 1) t) /\ Meth K C m g /\ Cls K C /\ Binds K fd ps []
def dMethC (C:Addr) (m:Str) (k:Nat) (t:TF) (ta:TD) (t1:TAD):TD:=fun rho n P=>ta rho n fun d n1=>rfAt d fun a=>insAt C n1 a fun fs=>getF m fs = none /\ t1 rho n1 fun es n2=>es.length = k /\ t (.rf a :: es) n2 P
theorem meth_of {m:Str} {k:Nat} {t:TF} (hK:X.K = A.K) {sg:St} {H:Hp} {Q:VK} (h:tOf A (dMethC C m k t ta t1) sg H Q):tMeth C m (spD X.K (k + 1) t) [] E0 (tOf A ta) (taOf A t1) sg H Q:=by
 obtain ⟨rho,n,R,ds,vs,I,ht,hQ⟩:=h
 refine ⟨rho,n,_,ds,vs,I,ht,fun v H' n' d ⟨os,J⟩ k=>?_⟩
 obtain ⟨q,rfl,fs,hc,hn,k⟩:=k
 obtain ⟨J1,r⟩:=J.pop
 obtain ⟨_,_,dx,gs,hp,hf⟩:=J1.cell hc
 cases r.rf_inv
 refine ⟨q,dx,gs,rfl,hp,hf.get.2 hn,rho,n',_,ds,vs,⟨os,J1⟩,k,fun ws H2 n2 es2 ⟨os2,J2⟩ hl2 k2=>?_⟩
 obtain ⟨J3,rs2⟩:=J2.split hl2
 rw [List.append_nil,hK]
 exact ⟨A.G,Zof A os2,n2,R,.rf q :: es2,by rw [List.length_cons,k2.1],.cons Rep.rf_mk rs2,J3.stZ,fun a z=>.inl (J3.gz a z),J3.zH,k2.2,fun v H3 n3 d fr st gw r q=>hQ v H3 n3 d (J3.called fr st gw r) q⟩
theorem pd_methC {m:Str} {kk k:Nat} {t:TF} {b:Expr} {apos:Pos} {pl:Sem Bool} (M:MthC X.prog X.w X.K X.mg X.base C m kk k t) (hr:Room kk X.A) (hK:X.K = A.K) (ha:PD A X a ta) (h1:PAD A X (b :: es) t1)
  (hst:starEach (b :: es) X.env = (false,eval b X.env) :: starEach es X.env:=by rfl) (hpl:(backTo pos (starEach es X.env)).any (·.1) = false:=by rfl)
  (ht : eval (.Call (.Attribute a m apos) (b :: es) [] pos) X.env = (do
   let ov <- eval a X.env
   standAt apos.atName
   let (f,first) <- holding [ov] (getMethod ov m pl)
   callWith pos f first (backTo pos (starEach (b :: es) X.env)) (backToKw pos (keywordEach [] X.env))):=by rfl) :
  PD A X (.Call (.Attribute a m apos) (b :: es) [] pos) (dMethC C m k t ta t1):=by
 obtain ⟨g,fd,ps,F,hm,c,hb⟩:=M.ex
 with_unfolding_all
  exact (pe_meth (pl:=pl) ha c hm F hr hb .nil pass0 h1 hst hpl ht).imp fun sg H Q h=>meth_of hK h
theorem pd_meth0C {m:Str} {kk:Nat} {t:TF} {apos:Pos} {pl:Sem Bool} (M:MthC X.prog X.w X.K X.mg X.base C m kk 0 t) (hr:Room kk X.A) (hK:X.K = A.K) (ha:PD A X a ta)
  (ht : eval (.Call (.Attribute a m apos) [] [] pos) X.env = (do
   let ov <- eval a X.env
   standAt apos.atName
   let (f,first) <- holding [ov] (getMethod ov m pl)
   callWith pos f first (backTo pos (starEach [] X.env)) (backToKw pos (keywordEach [] X.env))):=by rfl) :
  PD A X (.Call (.Attribute a m apos) [] [] pos) (dMethC C m 0 t ta aNil):=by
 obtain ⟨g,fd,ps,F,hm,c,hb⟩:=M.ex
 with_unfolding_all
  exact (pe_meth0 (pl:=pl) ha c hm F hr hb .nil pass0 ht).imp fun sg H Q h=>by
   obtain ⟨rho,n,R,ds,vs,I,ht,hQ⟩:=h
   refine ⟨rho,n,_,ds,vs,I,ht,fun v H' n' d ⟨os,J⟩ k=>?_⟩
   obtain ⟨q,rfl,fs,hc,hn,k⟩:=k
   obtain ⟨J1,r⟩:=J.pop
   obtain ⟨_,_,dx,gs,hp,hf⟩:=J1.cell hc
   cases r.rf_inv
   refine ⟨q,dx,gs,rfl,hp,hf.get.2 hn,?_⟩
   have z:spD A.K (0 + 1) t (.ref q :: ([] ++ [])) H' Q E0:=⟨A.G,Zof A os,n',R,[.rf q],rfl,.cons Rep.rf_mk .nil,J1.stZ,fun a z=>.inl (J1.gz a z),J1.zH,k.2,fun v H3 n3 d fr st gw r q=>hQ v H3 n3 d (J1.called fr st gw r) q⟩
   rw [hK]
   exact z
structure MkeC (P:Program) (w:World) (K:PySem.W.Frag) (mg:Str -> Option Value) (base:Heap) (C:Addr) (x:Str) (kk k:Nat) (t:TF):Prop where
 ex:∃ (f:Addr) (fd:FuncData) (ps:List Str),FnOk P w K mg base CX0 kk f fd ps (spD K (k + 1) t) /\ Mk K C f /\ mg x = some (.ref C) /\ Binds K fd ps []
def dMakeC (C:Addr) (k:Nat) (t:TF) (t1:TAD):TD:=fun rho n P=>t1 rho n fun es n1=>es.length = k /\ ∀ a,cellAt n1 a = none -> t (.rf a :: es) (setC n1 a (.ins C [])) fun d n2=>d = .non /\ P (.rf a) n2
theorem pd_makeC {x:Str} {kk k:Nat} {t:TF} (M:MkeC X.prog X.w X.K X.mg X.base C x kk k t) (hr:Room (kk + 1) X.A) (hK:X.K = A.K) (ha:PAD A X (e :: es) t1) (hg:Gl X x:=by rfl) (hdb:(x == ("__debug__" : Str)) = false:=by decide)
  (he:starEach (e :: es) X.env = (false,eval e X.env) :: starEach es X.env:=by rfl) (hpl:(backTo pos (starEach es X.env)).any (·.1) = false:=by rfl):PD A X (.Call (.Name x p) (e :: es) [] pos) (dMakeC C k t t1):=by
 obtain ⟨f,fd,ps,F,M,hm,hb⟩:=M.ex
 with_unfolding_all
  exact (pe_make M F hr hg hm hb .nil pass0 ha hdb he hpl).imp fun sg H Q h=>by
   obtain ⟨rho,n,R,ds,vs,I,ht,hQ⟩:=h
   refine ⟨rho,n,_,ds,vs,I,ht,fun ws H1 n1 es1 ⟨os,J⟩ hl k=>?_⟩
   intro x dx nx ndx nxd
   rw [List.append_nil,hK]
   have J1:=J.grow (o:=.own x) ndx
   have nx1:upd H1 dx (.own x) x = none:=by rw [upd_ne (Ne.symm nxd)]; exact nx
   obtain ⟨os',J2,_⟩:=J1.wrote (o:=.ins C dx []) (J1.wokNew nx1) (c:=.ins C []) rfl ⟨dx,[],upd_same,trivial⟩
   obtain ⟨J3,rs⟩:=J2.split hl
   refine ⟨A.G,Zof A os',setC n1 x (.ins C []),_,.rf x :: es1,by rw [List.length_cons,k.1],.cons Rep.rf_mk rs,J3.stZ,fun a z=>.inl (J3.gz a z),J3.zH,k.2 x (J.noCell nx),fun v H3 n3 d fr st gw r q=>?_⟩
   obtain ⟨rfl,q⟩:=q
   exact ⟨r.toS rfl,hQ _ H3 n3 _ (J3.called fr st gw Rep.rf_mk) q⟩
def dDixC (ta tb:TD):TD:=fun rho n P=>ta rho n fun d1 n1=>tb rho n1 fun d2 n2=>rfAt d1 fun a=>keyAt d2 fun k=>dicAt n2 a fun kv=>optAt (getP k kv) fun x=>P x n2
theorem pd_dixC (hu:X.A.units + 1 < cLine) (ha:PD A X a ta) (hb:PD A X b tb) (hs:NoSl b):PD A X (.Subscript a b pos) (dDixC ta tb):=by
 with_unfolding_all
  exact (pe_dget hu ha hb hs).imp fun sg H Q h=>by
   obtain ⟨rho,n,P,ds,vs,I,ht,hQ⟩:=h
   refine ⟨rho,n,_,ds,vs,I,ht,fun v H' n' d J k=>⟨rho,n',_,d :: ds,v :: vs,J,k,fun v2 H2 n2 x ⟨os,J2⟩ k2=>?_⟩⟩
   obtain ⟨q,rfl,j,rfl,kv,hc,y,hy,k2⟩:=k2
   obtain ⟨J3,r2⟩:=J2.pop
   obtain ⟨J4,r1⟩:=J3.pop
   obtain ⟨_,_,kvs,hp,hf⟩:=J4.cell hc
   obtain ⟨u,hu,ru⟩:=hf.get.1 y hy
   rw [r1.rf_inv,r2.int_inv]
   exact ⟨q,u,rfl,by rw [<- hu]; exact DGet.k (k:=.inl j) hp,hQ u H2 n2 y ⟨os,J4.push (Rep.reG _ _ (plD_noSt _ (pl_getP hc hy)) ru)⟩ k2⟩
def dInC (neg:Bool) (ta tb:TD):TD:=fun rho n P=>ta rho n fun d1 n1=>tb rho n1 fun d2 n2=>keyAt d1 fun k=>rfAt d2 fun a=>dicAt n2 a fun kv=>P (.bl ((getP k kv).isSome != neg)) n2
theorem inC_of {neg:Bool} {sg:St} {H:Hp} {Q:VK} (h:tOf A (dInC neg ta tb) sg H Q):tOp (rDin neg) (tOf A ta) (tOf A tb) sg H Q:=by
 obtain ⟨rho,n,P,ds,vs,I,ht,hQ⟩:=h
 refine ⟨rho,n,_,ds,vs,I,ht,fun v H' n' d J k=>⟨rho,n',_,d :: ds,v :: vs,J,k,fun v2 H2 n2 x ⟨os,J2⟩ k2=>?_⟩⟩
 obtain ⟨j,rfl,q,rfl,kv,hc,k2⟩:=k2
 obtain ⟨J3,r2⟩:=J2.pop
 obtain ⟨J4,r1⟩:=J3.pop
 obtain ⟨_,_,kvs,hp,hf⟩:=J4.cell hc
 rw [r2.rf_inv,r1.int_inv]
 refine ⟨q,valV kvs (.inl j),rfl,DGet.k (k:=.inl j) hp,?_⟩
 rw [hf.has]
 exact hQ _ H2 n2 _ ⟨os,J4.push (Rep.ofS (d:=.bl _) rfl)⟩ k2
theorem ptd_inC (hu:X.A.units + 1 < cLine) (ha:PD A X a ta) (hb:PD A X b tb) (hm:behindInMarks .In b = false):PTD A X (.Compare a [.In] [b] pos) (dTest (dInC false ta tb)):=by
 with_unfolding_all
  exact (pt_cmpR (op_din hu) ha hb hm).imp fun _ _ _=>tTest_of fun _ _ _=>inC_of
theorem ptd_notinC (hu:X.A.units + 1 < cLine) (ha:PD A X a ta) (hb:PD A X b tb) (hm:behindInMarks .NotIn b = false):PTD A X (.Compare a [.NotIn] [b] pos) (dTest (dInC true ta tb)):=by
 with_unfolding_all
  exact (pt_cmpR (op_dnotin hu) ha hb hm).imp fun _ _ _=>tTest_of fun _ _ _=>inC_of
def sPutC (ta tb te:TD):TSD:=fun F rho n=>te rho n fun d n1=>ta rho n1 fun x n2=>tb rho n2 fun y n3=>rfAt x fun a=>keyAt y fun k=>dicAt n3 a fun kv=>plD d = true /\ kv.length < sizeLine /\ F.nx rho (setC n3 a (.dic (putP k d kv)))
theorem psd_putC (hu:X.A.units + 1 < cLine) (ha:PD A X a ta) (hb:PD A X b tb) (he:PD A X e te) (hs:swapsWith e (some (.Subscript a b pos')) pos.line X.env = pure false:=by rfl):PSD A X (.Assign [.Subscript a b pos'] e pos) (sPutC ta tb te):=by
 with_unfolding_all
  exact (ps_dput hu ha hb he hs).imp fun E sg H h=>by
   obtain ⟨rho,n,F,ds,vs,I,ht,ok⟩:=h
   refine ⟨rho,n,_,ds,vs,I,ht,fun v H' n' d J k=>⟨rho,n',_,d :: ds,v :: vs,J,k,fun v2 H2 n2 x J2 k2=>⟨rho,n2,_,x :: d :: ds,v2 :: v :: vs,J2,k2,fun v3 H3 n3 y ⟨os,J3⟩ k3=>?_⟩⟩⟩
   obtain ⟨q,rfl,k,rfl,kv,hc,hd,hl,k3⟩:=k3
   obtain ⟨J4,r3⟩:=J3.pop
   obtain ⟨J5,r2⟩:=J4.pop
   obtain ⟨J6,r1⟩:=J5.pop
   obtain ⟨_,_,kvs,hp,hf⟩:=J6.cell hc
   have w:=J6.wok hc
   have pl:=pl_putP (k:=k) (cellAt_pl hc) hd
   rw [r2.rf_inv,r3.int_inv]
   refine ⟨q,_,rfl,DPut.k (k:=.inl k) hp (by rw [hf.length]; exact hl),?_⟩
   obtain ⟨os',J7,_⟩:=J6.wrote (o:=.dK (putK kvs (.inl k) v)) w pl ⟨_,upd_same,(w.kv pl J6 hf).put (w.rep pl J6 hd r1)⟩
   exact ok.nx _ _ _ _ ⟨os',J7⟩ k3
def dPopC (ta tb:TD):TD:=fun rho n P=>ta rho n fun d1 n1=>rfAt d1 fun a=>dicAt n1 a fun _=>tb rho n1 fun d2 n2=>keyAt d2 fun k=>dicAt n2 a fun kv=>optAt (getP k kv) fun x=>P x (setC n2 a (.dic (dropP k kv)))
theorem pd_popC {apos:Pos} (ha:PD A X a ta) (hb:PD A X b tb) (m:M1 X a "pop" apos b pos):PD A X (.Call (.Attribute a "pop" apos) [b] [] pos) (dPopC ta tb):=by
 with_unfolding_all
  exact (pe_dpop1 ha hb m).imp fun sg H Q h=>by
   obtain ⟨rho,n,P,ds,vs,I,ht,hQ⟩:=h
   refine ⟨rho,n,_,ds,vs,I,ht,fun v H' n' d ⟨os,J⟩ k=>?_⟩
   obtain ⟨q,rfl,kv0,hc,k⟩:=k
   obtain ⟨J1,r⟩:=J.pop
   obtain ⟨_,_,kvs,hp,_⟩:=J1.cell hc
   refine ⟨q,r.rf_inv,.inl ⟨kvs,.inl hp⟩,rho,n',_,ds,vs,⟨os,J1⟩,k,fun v2 H2 n2 d2 ⟨os2,J2⟩ k2=>?_⟩
   obtain ⟨k,rfl,kv,hc2,x,hx,k2⟩:=k2
   obtain ⟨J3,r2⟩:=J2.pop
   obtain ⟨_,_,kvs2,hp2,hf2⟩:=J3.cell hc2
   obtain ⟨u,hu,ru⟩:=hf2.get.1 x hx
   have w:=J3.wok hc2
   have pl:=pl_dropP (k:=k) (cellAt_pl hc2)
   have px:=pl_getP hc2 hx
   have J4:=J3.push (Rep.reG (G':=A.G) _ _ (plD_noSt _ px) ru)
   obtain ⟨os',J5,_⟩:=J4.wrote (o:=.dK (dropK kvs2 (.inl k))) (J4.wok hc2) pl ⟨_,upd_same,((J4.wok hc2).kv pl J4 hf2).drop⟩
   exact ⟨kvs2,.inl k,u,hp2,r2.int_inv,hu,hQ u _ _ x ⟨os',J5⟩ k2⟩
def dLenC (t:TAD):TD:=fun rho n P=>t rho n fun es n1=>∃ a,es = [.rf a] /\ dicAt n1 a fun kv=>P (.int (kv.length:Int)) n1
theorem pd_lenC {np:Pos} (hm:X.mg "len" = none) (ha:PAD A X [a] t1) (hg:Gl X "len" := by rfl)
  (he:starEach [a] X.env = (false,eval a X.env) :: starEach [] X.env:=by rfl) (hpl:(backTo pos (starEach [] X.env)).any (·.1) = false:=by rfl):PD A X (.Call (.Name "len" np) [a] [] pos) (dLenC t1):=by
 with_unfolding_all
  exact (pe_callB call_lenD hg hm rfl ha (by decide) (by decide) he hpl).imp fun sg H Q h=>by
   obtain ⟨rho,n,P,ds,vs,I,ht,hQ⟩:=h
   refine ⟨rho,n,_,ds,vs,I,ht,fun ws H' n' es' ⟨os,J⟩ hl k=>?_⟩
   obtain ⟨q,rfl,kv,hc,k⟩:=k
   obtain ⟨J1,rs⟩:=J.split hl
   obtain ⟨v,rfl,r⟩:=reps1 rs
   obtain ⟨_,_,kvs,hp,hf⟩:=J1.cell hc
   cases r.rf_inv
   exact ⟨q,kvs,rfl,hp,by rw [hf.length]; exact hQ _ H' n' _ ⟨os,J1.push (Rep.ofS (d:=.int _) rfl)⟩ k⟩
end
@[simp] theorem q_dNewC {rho n P}:dNewC rho n P = ∀ a,cellAt n a = none -> P (.rf a) (setC n a (.dic [])):=rfl
@[simp] theorem q_dFldC {C f t rho n P}:dFldC C f t rho n P = t rho n fun d n'=>rfAt d fun a=>insAt C n' a fun fs=>optAt (getF f fs) fun x=>P x n':=rfl
@[simp] theorem q_sFldC {C f ta te F rho n}:sFldC C f ta te F rho n = te rho n fun d n1=>ta rho n1 fun x n2=>rfAt x fun a=>insAt C n2 a fun fs=>plD d = true /\ fs.length < 1000 /\ F.nx rho (setC n2 a (.ins C (putA f d fs))):=rfl
@[simp] theorem q_sFldAugC {C f ta te F rho n}:sFldAugC C f ta te F rho n = ta rho n fun x n1=>rfAt x fun a=>insAt C n1 a fun fs=>optAt (getF f fs) fun y=>keyAt y fun i=>te rho n1 fun d n2=>keyAt d fun j=>insAt C n2 a fun fs2=>fs2.length < 1000 /\ F.nx rho (setC n2 a (.ins C (putA f (.int (i + j)) fs2))):=rfl
@[simp] theorem q_dMethC {C m k t ta t1 rho n P}:dMethC C m k t ta t1 rho n P = ta rho n fun d n1=>rfAt d fun a=>insAt C n1 a fun fs=>getF m fs = none /\ t1 rho n1 fun es n2=>es.length = k /\ t (.rf a :: es) n2 P:=rfl
@[simp] theorem q_dMakeC {C k t t1 rho n P}:dMakeC C k t t1 rho n P = t1 rho n fun es n1=>es.length = k /\ ∀ a,cellAt n1 a = none -> t (.rf a :: es) (setC n1 a (.ins C [])) fun d n2=>d = .non /\ P (.rf a) n2:=rfl
@[simp] theorem q_dDixC {ta tb rho n P}:dDixC ta tb rho n P = ta rho n fun d1 n1=>tb rho n1 fun d2 n2=>rfAt d1 fun a=>keyAt d2 fun k=>dicAt n2 a fun kv=>optAt (getP k kv) fun x=>P x n2:=rfl
@[simp] theorem q_dInC {neg ta tb rho n P}:dInC neg ta tb rho n P = ta rho n fun d1 n1=>tb rho n1 fun d2 n2=>keyAt d1 fun k=>rfAt d2 fun a=>dicAt n2 a fun kv=>P (.bl ((getP k kv).isSome != neg)) n2:=rfl
@[simp] theorem q_sPutC {ta tb te F rho n}:sPutC ta tb te F rho n = te rho n fun d n1=>ta rho n1 fun x n2=>tb rho n2 fun y n3=>rfAt x fun a=>keyAt y fun k=>dicAt n3 a fun kv=>plD d = true /\ kv.length < sizeLine /\ F.nx rho (setC n3 a (.dic (putP k d kv))):=rfl
@[simp] theorem q_dPopC {ta tb rho n P}:dPopC ta tb rho n P = ta rho n fun d1 n1=>rfAt d1 fun a=>dicAt n1 a fun _=>tb rho n1 fun d2 n2=>keyAt d2 fun k=>dicAt n2 a fun kv=>optAt (getP k kv) fun x=>P x (setC n2 a (.dic (dropP k kv))):=rfl
@[simp] theorem q_dLenC {t rho n P}:dLenC t rho n P = t rho n fun es n1=>∃ a,es = [.rf a] /\ dicAt n1 a fun kv=>P (.int (kv.length:Int)) n1:=rfl
structure OnlyC (n n':Nat) (l:List Addr):Prop where
 k:kOf n' = kOf n
 o:∀ b,b ∉ l -> cellAt n' b = cellAt n b
theorem OnlyC.rfl' {n:Nat} {l:List Addr}:OnlyC n n l:=⟨rfl,fun _ _=>rfl⟩
theorem OnlyC.trans {n n1 n2:Nat} {l r:List Addr} (h:OnlyC n n1 l) (g:OnlyC n1 n2 r):OnlyC n n2 (l ++ r):=⟨g.k.trans h.k,fun b hb=>(g.o b fun z=>hb (List.mem_append_right _ z)).trans (h.o b fun z=>hb (List.mem_append_left _ z))⟩
theorem OnlyC.mono {n n1:Nat} {l r:List Addr} (h:OnlyC n n1 l) (s:∀ a ∈ l,a ∈ r):OnlyC n n1 r:=⟨h.k,fun b hb=>h.o b fun z=>hb (s b z)⟩
theorem OnlyC.set {n:Nat} {a:Addr} {c:Cell} (h:plC c = true):OnlyC n (setC n a c) [a]:=⟨kOf_set h,fun b hb=>by rw [cellAt_set h,if_neg (by simpa using hb)]⟩
theorem cell_self {n:Nat} {a:Addr} {c:Cell} (h:plC c = true):cellAt (setC n a c) a = some c:=by rw [cellAt_set h,if_pos rfl]
theorem cell_ne {n:Nat} {a b:Addr} {c:Cell} (h:plC c = true) (hb:b ≠ a):cellAt (setC n a c) b = cellAt n b:=by rw [cellAt_set h,if_neg hb]
end L2
set_option maxRecDepth 100000
namespace L2
open PySem PySem.Spec PyProof.Rows
def evL {α:Type}:List α -> List α
 | []=>[]
 | [x]=>[x]
 | x :: _ :: r=>x :: evL r
def odL {α:Type}:List α -> List α
 | []=>[]
 | [_]=>[]
 | _ :: y :: r=>y :: odL r
def halfL {α:Type} (o:Bool) (l:List α):List α:=if o then odL l else evL l
theorem ev_pick:∀ l:List Value,((List.range ((l.length + 1) / 2)).map fun k=>2 * k).filterMap (fun i=>l[i]?) = evL l
 | []=>rfl
 | [x]=>by simp [evL,List.range_succ]
 | x :: y :: r=>by
  have e:((x :: y :: r).length + 1) / 2 = (r.length + 1) / 2 + 1:=by simp only [List.length_cons]; lia
  rw [e,List.range_succ_eq_map,List.map_cons,List.filterMap_cons]
  show x :: _ = x :: evL r
  rw [<- ev_pick r,List.map_map,List.filterMap_map,List.filterMap_map]
  rfl
theorem od_pick:∀ l:List Value,((List.range (l.length / 2)).map fun k=>2 * k + 1).filterMap (fun i=>l[i]?) = odL l
 | []=>rfl
 | [x]=>by simp [odL]
 | x :: y :: r=>by
  have e:(x :: y :: r).length / 2 = r.length / 2 + 1:=by simp only [List.length_cons]; lia
  rw [e,List.range_succ_eq_map,List.map_cons,List.filterMap_cons]
  show y :: _ = y :: odL r
  rw [<- od_pick r,List.map_map,List.filterMap_map,List.filterMap_map]
  rfl
theorem half_pick (o:Bool) (l:List Value):slicePick l.toArray (if o then some 1 else none) none (some 2) = (halfL o l).toArray:=by
 unfold slicePick
 cases o with
 | false =>
  show ((sliceRange 0 (l.toArray.size:Int) 2).filterMap fun i=>l.toArray[i]?).toArray = (evL l).toArray
  rw [<- ev_pick l]
  congr 1
  have e:sliceRange 0 (l.toArray.size:Int) 2 = (List.range ((l.length + 1) / 2)).map fun k=>2 * k:=by
   unfold sliceRange
   simp only [List.size_toArray]
   have c:(if (2:Int) > 0 then (if (0:Int) < (l.length:Int) then ((l.length:Int) - 0 + 2 - 1) / 2 else 0) else (if (0:Int) > (l.length:Int) then (0 - (l.length:Int) - 2 - 1) / (-2) else 0)).toNat = (l.length + 1) / 2:=by
    rw [if_pos (by decide)]
    split <;> lia
   rw [c]
   exact List.map_congr_left fun k _=>by lia
  rw [e]
  simp
 | true =>
  show ((sliceRange (max 0 (min (1:Int) (l.toArray.size:Int))) (l.toArray.size:Int) 2).filterMap fun i=>l.toArray[i]?).toArray = (odL l).toArray
  rw [<- od_pick l]
  congr 1
  have e:sliceRange (max 0 (min (1:Int) (l.toArray.size:Int))) (l.toArray.size:Int) 2 = (List.range (l.length / 2)).map fun k=>2 * k + 1:=by
   by_cases h0:l.length = 0
   ·have : l = [] := List.length_eq_zero_iff.mp h0
    subst this
    rfl
   ·have em : max 0 (min (1 : Int) (l.toArray.size : Int)) = 1 := by simp only [List.size_toArray]; lia
    rw [em]
    unfold sliceRange
    simp only [List.size_toArray]
    have c:(if (2:Int) > 0 then (if (1:Int) < (l.length:Int) then ((l.length:Int) - 1 + 2 - 1) / 2 else 0) else (if (1:Int) > (l.length:Int) then (1 - (l.length:Int) - 2 - 1) / (-2) else 0)).toNat = l.length / 2:=by
     rw [if_pos (by decide)]
     split <;> lia
    rw [c]
    exact List.map_congr_left fun k _=>by lia
  rw [e]
  simp
theorem half_len {α:Type} (o:Bool):∀ l:List α,(halfL o l).length <= l.length
 | []=>by cases o <;> simp [halfL,evL,odL]
 | [x]=>by cases o <;> simp [halfL,evL,odL]
 | x :: y :: r=>by
  have:=half_len o r
  cases o with
  | false=>show (x :: evL r).length <= _; have h:(evL r).length <= r.length:=this; simp only [List.length_cons]; lia
  | true=>show (y :: odL r).length <= _; have h:(odL r).length <= r.length:=this; simp only [List.length_cons]; lia
theorem half_map {α β:Type} (f:α -> β) (o:Bool):∀ l:List α,halfL o (l.map f) = (halfL o l).map f
 | []=>by cases o <;> rfl
 | [x]=>by cases o <;> rfl
 | x :: y :: r=>by
  have:=half_map f o r
  cases o with
  | false=>show f x :: evL (r.map f) = _; have h:evL (r.map f) = (evL r).map f:=this; rw [h]; rfl
  | true=>show f y :: odL (r.map f) = _; have h:odL (r.map f) = (odL r).map f:=this; rw [h]; rfl
theorem Vals.half (o:Bool):∀ {xs:List V} {us:List Value},Vals xs us -> Vals (halfL o xs) (halfL o us)
 | _,_,.nil=>by cases o <;> exact .nil
 | _,_,.cons r .nil=>by
  cases o
  ·exact .cons r .nil
  ·exact .nil
 | _,_,.cons r (.cons r2 t)=>by
  have:=Vals.half o t
  cases o
  ·exact .cons r this
  ·exact .cons r2 this
theorem Reps.half {K:PySem.W.Frag} {G:Option Addr} {Z:Addr -> Prop} {H:Hp} (o:Bool):∀ {ds:List D} {vs:List V},Reps K G Z H ds vs -> Reps K G Z H (halfL o ds) (halfL o vs)
 | [],vs,h=>by rw [h.nil_inv]; cases o <;> exact .nil
 | [d],vs,h=>by
  obtain ⟨v,r,rfl,q,t⟩:=h.split
  rw [t.nil_inv]
  cases o
  ·exact .cons q .nil
  ·exact .nil
 | d :: d2 :: ds,vs,h=>by
  obtain ⟨v,r,rfl,q,t⟩:=h.split
  obtain ⟨v2,r2,rfl,q2,t2⟩:=t.split
  have:=Reps.half o t2
  cases o
  ·exact .cons q this
  ·exact .cons q2 this
section
variable {X:Cx} {e st:Expr} {te:TE} {lo:Option Expr} {pos p2:Pos}
def tHalf (K:PySem.W.Frag) (o:Bool) (te:TE):TE:=fun σ H Q=>te σ H fun x H1=>∃ a xs,x = .ref a /\ SqL K H1 a xs /\ ∀ p,H1 p = none -> Q (.ref p) (upd H1 p (.lst (halfL o xs)))
theorem pe_half {o:Bool} (he:PE X e te) (hlo:PO X lo fun _ H Q=>Q (if o then some 1 else none) H) (hst:PE X st fun _ H Q=>Q (.int 2) H):PE X (.Subscript e (.Slice lo none (some st) p2) pos) (tHalf X.K o te):=by
 intro pins s σ H Q I h
 refine Subscript_ (thn (he pins s σ H _ I h) fun v s1 ⟨x,H1,I1,r1,q1⟩=>?_)
 obtain ⟨a,xs,rfl,hx,q1⟩:=q1
 refine wpAny_Slice (thn (hlo pins s1 σ H1 (fun o' H2=>o' = (if o then some 1 else none) /\ H2 = H1) I1 ⟨rfl,rfl⟩) fun vl s2 ⟨l,H2,I2,pl,el,eH⟩=>?_)
 subst el eH
 rw [evalPart_none]
 refine wpAny_pure ?_
 rw [evalPart_some]
 refine thn (hst pins s2 σ H2 (fun y H3=>y = .int 2 /\ H3 = H2) I2 ⟨rfl,rfl⟩) fun u s3 ⟨y,H3,I3,ry,ey,eH⟩=>?_
 subst ey eH
 obtain ⟨tk,rfl⟩:=ry
 cases r1
 have I4:Inv X pins σ H3 { s3 with heap:=s3.heap.push { cls:=.type "slice",data:=.fields #[vl,.none,.int 2 tk] } }:=I3.kept (t':=s3.toks) fun b ob q=>Heap.get?_push_of_some _ q
 obtain ⟨its,r,ht,hz⟩:=I4.list hx
 have hlen:=r.length
 refine tail_any (ops:=[.ref a,.ref s3.heap.objs.size]) ht.isList.typeIs slot_list_getitem.lookup (wpAny_getItem_list_slice ht.isList (Heap.IsSliceOf.new ..) pl .none (.int 2 tk) (by simp) ?_ (by rw [List.size_toArray] <;> lia)) (by with_unfolding_all rfl)
 rw [half_pick]
 refine ⟨.ref _,_,I4.laid (t':=s3.toks) (o:=.lst (halfL o xs)) (fun b ob q=>Heap.get?_push_of_some _ q) (Nat.le_refl _) ?_,rfl,q1 _ (I4.hok.fresh (Nat.le_refl _))⟩
 exact ⟨Nat.le_trans (half_len o xs) hz,halfL o its,0,r.half o,Heap.get?_push_size _ rfl⟩
end
section
variable {A:AC} {X:Cx} {a:Expr} {ta:TD} {pos p2 p3 p4:Pos}
def dHalf (o:Bool) (ta:TD):TD:=fun rho n P=>ta rho n fun d n1=>lstAt d fun fs=>P (.lst (halfL o fs)) n1
@[simp] theorem q_dHalf {o ta rho n P}:dHalf o ta rho n P = ta rho n fun d n1=>lstAt d fun fs=>P (.lst (halfL o fs)) n1:=rfl
theorem half_of {o:Bool} (hK:X.K = A.K) {sg:St} {H:Hp} {Q:VK} (h:tOf A (dHalf o ta) sg H Q):tHalf X.K o (tOf A ta) sg H Q:=by
 obtain ⟨rho,n,P,ds,vs,I,ht,hQ⟩:=h
 refine ⟨rho,n,_,ds,vs,I,ht,fun v H1 n1 d ⟨os,J⟩ k=>?_⟩
 obtain ⟨fs,hd,k⟩:=k
 obtain ⟨J1,r⟩:=J.pop
 rw [hK]
 rcases hd with rfl | rfl
 ·obtain ⟨l, xs, rfl, sq, rs⟩ := r.lst_inv
  exact ⟨l,xs,rfl,sq.sq,fun p hp=>hQ _ _ n1 _ ⟨os,J1.newLst (rs.half o) hp⟩ k⟩
 ·obtain ⟨l, xs, rfl, sq, rs⟩ := r.fz_inv
  exact ⟨l,xs,rfl,sq,fun p hp=>hQ _ _ n1 _ ⟨os,J1.newLst (rs.half o) hp⟩ k⟩
theorem pd_ev {j:Nat} (hK:X.K = A.K) (ha:PD A X a ta):PD A X (.Subscript a (.Slice none none (some (.Constant (.int 2) j p3)) p2) pos) (dHalf false ta):=by
 with_unfolding_all
  exact (pe_half (o:=false) ha (fun pins s σ H Q I q=>by rw [evalPart_none]; exact wpAny_pure ⟨none,H,I,.none,q⟩) pe_int).imp fun sg H Q h=>half_of hK h
end
theorem rev_pick (l:List Value):slicePick l.toArray none none (some (-1)) = l.reverse.toArray:=by
 unfold slicePick
 show ((sliceRange ((l.toArray.size:Int) - 1) (-1) (-1)).filterMap fun i=>l.toArray[i]?).toArray = l.reverse.toArray
 have e:sliceRange ((l.toArray.size:Int) - 1) (-1) (-1) = (List.range l.length).map fun (k:Nat)=>((l.length:Int) - 1 + (k:Int) * (-1)).toNat:=by
  unfold sliceRange
  simp only [List.size_toArray]
  have c:(if (-1:Int) > 0 then (if (l.length:Int) - 1 < -1 then (-1 - ((l.length:Int) - 1) + -1 - 1) / -1 else 0) else (if (l.length:Int) - 1 > -1 then ((l.length:Int) - 1 - -1 - -1 - 1) / (- -1) else 0)).toNat = l.length:=by
   rw [if_neg (by decide)]
   simp only [Int.neg_neg,Int.ediv_one]
   split <;> lia
  rw [c]
  exact List.map_congr_left fun k _=>by rw [Int.mul_comm]
 rw [e,List.filterMap_map]
 have:=pick_rev l.toArray
 simp only [List.size_toArray] at this
 exact this
section
variable {X:Cx} {e:Expr} {te:TE} {pos p2:Pos}
def tRevL (K:PySem.W.Frag) (te:TE):TE:=fun σ H Q=>te σ H fun x H1=>∃ a xs,x = .ref a /\ SqL K H1 a xs /\ ∀ p,H1 p = none -> Q (.ref p) (upd H1 p (.lst xs.reverse))
theorem pe_revL {st:Expr} (he:PE X e te) (hst:PE X st fun _ H Q=>Q (.int (-1)) H):PE X (.Subscript e (.Slice none none (some st) p2) pos) (tRevL X.K te):=by
 intro pins s σ H Q I h
 refine Subscript_ (thn (he pins s σ H _ I h) fun v s1 ⟨x,H1,I1,r1,q1⟩=>?_)
 obtain ⟨a,xs,rfl,hx,q1⟩:=q1
 refine wpAny_Slice ?_
 rw [evalPart_none]
 refine wpAny_pure (wpAny_pure ?_)
 rw [evalPart_some]
 refine thn (hst pins s1 σ H1 (fun y H2=>y = .int (-1) /\ H2 = H1) I1 ⟨rfl,rfl⟩) fun u s3 ⟨y,H3,I3,ry,ey,eH⟩=>?_
 subst ey eH
 obtain ⟨tk,rfl⟩:=ry
 cases r1
 have I4:Inv X pins σ H3 { s3 with heap:=s3.heap.push { cls:=.type "slice",data:=.fields #[.none,.none,.int (-1) tk] } }:=I3.kept (t':=s3.toks) fun b ob q=>Heap.get?_push_of_some _ q
 obtain ⟨its,r,ht,hz⟩:=I4.list hx
 have hlen:=r.length
 refine tail_any (ops:=[.ref a,.ref s3.heap.objs.size]) ht.isList.typeIs slot_list_getitem.lookup (wpAny_getItem_list_slice ht.isList (Heap.IsSliceOf.new ..) .none .none (.int (-1) tk) (by simp) ?_ (by rw [List.size_toArray] <;> lia)) (by with_unfolding_all rfl)
 rw [rev_pick]
 refine ⟨.ref _,_,I4.laid (t':=s3.toks) (o:=.lst xs.reverse) (fun b ob q=>Heap.get?_push_of_some _ q) (Nat.le_refl _) ?_,rfl,q1 _ (I4.hok.fresh (Nat.le_refl _))⟩
 exact ⟨by rw [List.length_reverse]; exact hz,its.reverse,0,r.reverse,Heap.get?_push_size _ rfl⟩
end
section
variable {A:AC} {X:Cx} {a:Expr} {ta:TD} {pos p2 p3 p4:Pos}
def lAt (d:D) (k:List D -> Prop):Prop:=match d with | .lst es=>k es | _=>False
@[simp] theorem q_lAt {es:List D} {k:List D -> Prop}:lAt (.lst es) k = k es:=rfl
theorem lAt_inv {d:D} {k:List D -> Prop} (h:lAt d k):∃ es,d = .lst es /\ k es:=by
 cases d <;> first | exact ⟨_,rfl,h⟩ | exact h.elim
def dRevL (ta:TD):TD:=fun rho n P=>ta rho n fun d n1=>lAt d fun fs=>P (.lst fs.reverse) n1
@[simp] theorem q_dRevL {rho:Rho} {n:Nat} {P:D -> Nat -> Prop}:dRevL ta rho n P = ta rho n fun d n1=>lAt d fun fs=>P (.lst fs.reverse) n1:=rfl
theorem pd_revL {j:Nat} (hK:X.K = A.K) (ha:PD A X a ta):PD A X (.Subscript a (.Slice none none (some (.UnaryOp .USub (.Constant (.int 1) j p4) p3)) p2) pos) (dRevL ta):=by
 with_unfolding_all
  exact (pe_revL ha ((pe_un un_neg pe_int).imp fun sg H Q q=>⟨1,rfl,q⟩)).imp fun sg H Q h=>by
   obtain ⟨rho,n,P,ds,vs,I,ht,hQ⟩:=h
   refine ⟨rho,n,_,ds,vs,I,ht,fun v H1 n1 d ⟨os,J⟩ k=>?_⟩
   obtain ⟨fs,rfl,k⟩:=lAt_inv k
   obtain ⟨J1,r⟩:=J.pop
   obtain ⟨l,xs,rfl,sq,rs⟩:=r.lst_inv
   rw [hK]
   exact ⟨l,xs,rfl,sq.sq,fun p hp=>hQ _ _ n1 _ ⟨os,J1.newLst rs.reverse hp⟩ k⟩
end
end L2
set_option maxRecDepth 100000
namespace L2
open PySem PySem.Spec PyProof.Rows PySem.SeqAt
abbrev NRow:=Int × List D
def NRow.d (x:NRow):D:=.tup (.int x.1 :: x.2)
def kSortN:List D -> (D -> Prop) -> Prop:=fun es k=>∃ rows:List NRow,es = [.lst (rows.map NRow.d)] /\ rows.length < 900 /\ (rows.map (·.1)).Nodup /\ ∀ rows':List NRow,rows'.Perm rows -> rows'.Pairwise (fun x y=>x.1 < y.1) -> k (.lst (rows'.map NRow.d))
theorem nrow_at {X:Cx} {pins:List (Addr × Obj)} {σ:St} {H:Hp} {s:Shared} {G:Option Addr} {Z:Addr -> Prop} (I:Inv X pins σ H s) {x:NRow} {v:V} {u:Value} (r:Rep X.K G Z H x.d v) (q:RelV v u):∃ t rest,Srt.Tup s.heap u (.int x.1 t) rest:=by
 unfold NRow.d at r
 obtain ⟨a,xs,rfl,sq,rs⟩:=r.tup_inv
 have e:u = .ref a:=q
 subst e
 obtain ⟨its,rv,pl,_⟩:=I.tuple sq.sq
 obtain ⟨z0,xs1,rfl,r0,_⟩:=rs.split
 have e1:=r0.int_inv
 subst e1
 cases rv with
 | cons h0 t0 =>
  obtain ⟨t,rfl⟩:=h0
  exact ⟨t,_,a,rfl,pl⟩
theorem cr_sortN {A:AC} {X:Cx} (hK:X.K = A.K):CallRel A (rSortT X) kSortN:=by
 rintro os n rho sg H ds vs es ws k Q I rs ⟨rows,rfl,hl,hnd,q⟩ hQ
 obtain ⟨v,rfl,r⟩:=reps1 rs
 obtain ⟨a,xs,rfl,sq,rr⟩:=r.lst_inv
 have len:xs.length = rows.length:=by rw [rr.length,List.length_map]
 have dist:∀ i j,i < rows.length -> j < rows.length -> i ≠ j -> (rows.getD i (0,[])).1 ≠ (rows.getD j (0,[])).1:=fun i j hi hj hij e=>by
  have g:∀ i (hi:i < rows.length),(rows.map (·.1))[i]'(by simpa using hi) = (rows.getD i (0,[])).1:=fun i hi=>by
   rw [List.getElem_map,List.getD_eq_getElem?_getD,List.getElem?_eq_getElem hi]; rfl
  have f:=List.pairwise_iff_getElem.mp hnd
  rcases Nat.lt_or_gt_of_ne hij with l | l
  ·exact f i j (by simpa using hi) (by simpa using hj) l (by rw [g i hi,g j hj,e])
  ·exact f j i (by simpa using hj) (by simpa using hi) l (by rw [g i hi,g j hj,e])
 rw [<- hK] at rr
 refine ⟨a,xs,true,fun i j=>decide ((rows.getD i (0,[])).1 < (rows.getD j (0,[])).1),rfl,by rw [hK]; exact sq.sq,by lia,fun i j hi hj hij=>?_,fun i j l _ _ _ h1 h2=>?_,fun i hi=>?_,fun i j hi hj hij=>?_,fun ls hp hU l hl'=>?_⟩
 ·have := dist i j (by lia) (by lia) hij
  dsimp only
  by_cases c:(rows.getD i (0,[])).1 < (rows.getD j (0,[])).1
  ·rw [decide_eq_true c,decide_eq_false (by lia)]; rfl
  ·rw [decide_eq_false c,decide_eq_true (by lia)]; rfl
 ·have h1 := of_decide_eq_true h1
  have h2:=of_decide_eq_true h2
  exact decide_eq_true (by lia)
 ·intro pins s σ u J ru
  obtain ⟨t,rest,T⟩:=nrow_at J (rr.getD (enc:=NRow.d) (a0:=(0,[])) (by lia)) ru
  exact ⟨_,_,T,typeIs_int s _ t⟩
 ·intro pins s σ u v J ru rv B hB
  obtain ⟨t,ps,T⟩:=nrow_at J (rr.getD (enc:=NRow.d) (a0:=(0,[])) (i:=i) (by lia)) ru
  obtain ⟨t',ps',T'⟩:=nrow_at J (rr.getD (enc:=NRow.d) (a0:=(0,[])) (i:=j) (by lia)) rv
  refine ⟨_,_,_,_,T,T',.here ?_ ?_⟩
  ·have := EqAt.int_int (A := B) (s := s) (rows.getD i (0, [])).1 t (rows.getD j (0, [])).1 t'
   have e2:((rows.getD i (0,[])).1 == (rows.getD j (0,[])).1) = false:=by simpa using dist i j (by lia) (by lia) hij
   rw [e2] at this
   exact this
  ·intro prog w E Q h
   exact Srt.oneLt_any_int _ h
 ·rw [len] at hp hU
  have hls:∀ i ∈ ls.toList,i < rows.length:=fun i hi=>by
   have:=(hp.mem_iff).mp (Array.mem_toList_iff.mp hi)
   rwa [Array.mem_range] at this
  have hsz:ls.size = rows.length:=by rw [hp.size_eq,Array.size_range]
  rw [hK] at rr
  refine hQ _ _ _ ⟨os,I.newLst (reps_pick (a0:=((0,[]):NRow)) rr hls) hl'⟩ (q _ ?_ ?_)
  ·have p1 : ls.toList.Perm (List.range rows.length) := by
    have:=Array.perm_iff_toList_perm.mp hp
    rwa [Array.toList_range] at this
   have p2:=p1.map fun i=>rows.getD i (0,[])
   rwa [map_range] at p2
  ·rw [List.pairwise_map, List.pairwise_iff_getElem]
   intro i j hi hj hij
   have hi':i < ls.size:=by simpa using hi
   have hj':j < ls.size:=by simpa using hj
   have u:=hU i j hij (by lia)
   have g:∀ i (hi:i < ls.size),Srt.lab ls i = ls.toList[i]'(by simpa using hi):=fun i hi=>by
    refine Srt.lab_of_get ?_
    rw [<- Array.getElem?_toList,List.getElem?_eq_getElem (by simpa using hi)]
   rw [g i hi',g j hj'] at u
   exact of_decide_eq_true u
end L2
set_option maxRecDepth 100000
namespace L2
open PySem PySem.Spec PyProof.Rows PySem.SeqAt
section
variable {X:Cx} {A:AC}
def rSortTuB (X:Cx):List V -> Hp -> VK -> Prop:=fun xs H Q=>∃ (p:Addr) (ns:List Int),xs = [.ref p] /\ SqT X.K H p (ns.map V.int) /\ ns.length < 2000 /\ ∀ ms:List Int,ms.Perm ns -> ms.Pairwise (· <= ·) -> ∀ l,H l = none -> Q (.ref l) (upd H l (.lst (ms.map V.int)))
theorem call_sortTuB:CallR X (.builtin "sorted") (rSortTuB X):=by
 intro pins s σ H xs us Q I r h
 obtain ⟨p,ns,rfl,hq,hn,q⟩:=h
 cases r with
 | cons r rr =>
  cases rr
  cases r
  obtain ⟨its,rv,pl,_⟩:=I.tuple hq
  have hsz:its.length = ns.length:=by have:=rv.length; simpa using this.symm
  refine sorted_intsC (fun _ _ _ hz h=>Srt.collect_tup pl h hz) (intsAre_of rv) (by lia) fun out ms hi hp hs=>?_
  obtain ⟨e,he⟩:=sortedAll_at s.heap its out
  have hml:ms.length = ns.length:=hp.length_eq
  have hf:H (s.heap.objs.size + 1) = none:=I.hok.fresh (Nat.le_succ _)
  refine ⟨.ref (s.heap.objs.size + 1),_,I.laid (t':=s.toks) (o:=.lst (ms.map V.int)) (fun b u e=>sortedAll_old e) (Nat.le_succ _) ?_,rfl,q ms hp hs _ hf⟩
  exact ⟨by rw [List.length_map]; exact Nat.le_trans (show ms.length <= 2000 by lia) (by decide),out.toList,e,vals_of_ints hi,he⟩
def kSortTuB:List D -> (D -> Prop) -> Prop:=fun es k=>∃ ns:List Int,es = [.tup (ns.map D.int)] /\ ns.length < 2000 /\ ∀ ms:List Int,ms.Perm ns -> ms.Pairwise (· <= ·) -> k (.lst (ms.map D.int))
theorem cr_sortTuB (hK:X.K = A.K):CallRel A (rSortTuB X) kSortTuB:=by
 rintro os n rho sg H ds vs es ws k Q I rs ⟨ns,rfl,hn,q⟩ hQ
 obtain ⟨v,rfl,r⟩:=reps1 rs
 obtain ⟨a,xs,rfl,sq,rr⟩:=r.tup_inv
 have e:=reps_intsV rr
 subst e
 rw [hK.symm] at sq
 exact ⟨a,ns,rfl,sq.sq,hn,fun ms h1 h2 l hl=>hQ _ _ _ ⟨os,I.newLst reps_ints hl⟩ (q ms h1 h2)⟩
end
end L2
set_option maxRecDepth 100000
set_option maxHeartbeats 1000000
namespace K55
open PySem L2 PySem.Spec PyProof.Rows
def top (i:Nat):Stmt:=PySem.Challenge.pw_boxlayers_k55_made_below_the_most.main.body.getD i (.Pass ⟨0,0,0,0⟩)
abbrev End:=Option (Int × Bool)
def encEnd:End -> D
 | none=>.non
 | some (n,s)=>.tup [.int n,.bl s]
def encO:Option Int -> D
 | none=>.non
 | some i=>.int i
def encPlace (p:List Int):D:=.tup (p.map D.int)
@[simp] theorem end_none:encEnd none = .non:=rfl
@[simp] theorem end_some {n:Int} {s:Bool}:encEnd (some (n,s)) = .tup [.int n,.bl s]:=rfl
section
variable {P:Program} {w:World} {K:PySem.W.Frag} {mg:Str -> Option Value} {base:Heap}
end
end K55
set_option maxRecDepth 100000
set_option maxHeartbeats 1000000
namespace K55
open PySem L2 PySem.Spec PyProof.Rows
theorem pick {es:List D} {k:Int} {R:D -> Prop} (h0:0 <= k) (h1:k < es.length) (h:∀ d ∈ es,R d):rdIx (.lst es) (.int k) R:=by
 obtain ⟨d,e,m⟩:=atI_lt h0 h1
 exact q_rdIxL.mpr ⟨d,e,h d m⟩
theorem rng_len (c:Nat):(rngD 0 c).length = c:=by unfold rngD; rw [List.length_map,List.length_range]
theorem rng_at {c i:Nat} {d:D} (h:(rngD 0 c)[i]? = some d):i < c /\ d = .int (i:Int):=by
 have hi:i < c:=by have:=(List.getElem?_eq_some_iff.mp h).1; rw [rng_len] at this; exact this
 refine ⟨hi,?_⟩
 unfold rngD at h
 rw [List.getElem?_map,List.getElem?_range hi] at h
 have:=Option.some.inj h
 rw [<- this]
 simp
section
variable {P:Program} {w:World} {K:PySem.W.Frag} {mg:Str -> Option Value} {base:Heap}
abbrev s__law_cell_at:Stmt:=top 24
abbrev N__law_cell_at:List Str:=["_law_script", "_law_k"]
theorem sc__law_cell_at:FnScope N__law_cell_at ["_law_script", "_law_k"] (defScope s__law_cell_at):=⟨rfl,rfl,rfl,by decide +kernel,rfl,by decide +kernel,by decide +kernel⟩
def t_cell_at:TF:=fun ds n Q=>∃ (ns:List Int) (j:Int),ds = [scriptD ns,.int j] /\ 0 <= j /\ ∀ x:Int,Q (.int x) n
theorem ok_cell_at {f:Addr} {fd:FuncData} (T:Blt mg) (F:Fun K "_law_cell_at" "_law_cell_at" s__law_cell_at f fd):FnOk P w K mg base CX0 1 f fd ["_law_script", "_law_k"] (spD K 2 t_cell_at):=by
 refine Fun.okD F sc__law_cell_at (fun cdv A0 outer s H E G Z _ hr=>(pssd_cons (psd_if (ptd_cmp op_lt re_lt (pd_var 1) (pd_callB call_len_seq cr_len T.len bt_len (pad_cons (pd_var 0) pad_nil)) (nomark _)) (pssd_one (psd_ret (pd_ix ix_seq re_ix (pd_var 0) (pd_var 1) (fun _ _=>rfl)))) pssd_nil)
  (pssd_one (psd_ret pd_int)))) ?_
 rintro ds n Q hl ⟨ns,j,rfl,hj,q⟩
 simp [startD,scriptD]
 split
 ·rename_i h
  obtain ⟨d,e,m⟩:=atI_lt (xs:=ns.map D.int) hj (by simpa using h)
  obtain ⟨x,_,rfl⟩:=List.mem_map.mp m
  exact ⟨_,e,q x⟩
 ·exact q 0
abbrev s__law_left:Stmt:=top 25
abbrev N__law_left:List Str:=["_law_script", "_law_k", "_law_cell", "_law_seed"]
theorem sc__law_left:FnScope N__law_left ["_law_script", "_law_k"] (defScope s__law_left):=⟨rfl,rfl,rfl,by decide +kernel,rfl,by decide +kernel,by decide +kernel⟩
def t_left:TF:=fun ds n Q=>∃ (ns:List Int) (j:Int),ds = [scriptD ns,.int j] /\ ns.length <= 63 /\ 0 <= j /\ j < 1000 /\ ∀ x y:Int,0 <= x -> 0 <= y -> y < 2147483647 -> Q (.lst [.int x,.int y]) n
theorem ok_left {f:Addr} {fd:FuncData} (T:Blt mg) (ND:base.NoDigits) (F:Fun K "_law_left" "_law_left" s__law_left f fd) (F__law_cell_at:Fn P w K mg base "_law_cell_at" 1 2 t_cell_at):FnOk P w K mg base CX0 2 f fd ["_law_script", "_law_k"] (spD K 2 t_left):=by
 refine Fun.okD F sc__law_left (fun cdv A0 outer s H E G Z _ hr=>(pssd_cons (psd_set (i:=2) sc__law_left.nd rfl (lo rfl) (pd_fn F__law_cell_at (hr.mono (by decide)) rfl (pad_cons (pd_var 0) (pad_cons (pd_mod (pd_var 1) (pd_callB (call_max2 rfl) cr_max2 T.max bt_max (pad_cons pd_int (pad_cons (pd_callB call_len_seq cr_len T.len bt_len (pad_cons (pd_var 0) pad_nil)) pad_nil)))) pad_nil))))
  (pssd_cons (psd_set (i:=3) sc__law_left.nd rfl (lo rfl) (pd_mod (pd_mul (pd_add (pd_add (pd_mod (pd_var 2) pd_int) (pd_mul (pd_mul pd_int (pd_var 1)) (pd_var 1))) pd_int) pd_int) pd_int))
  (pssd_one (psd_ret (pd_lst (pad_cons (pd_mod (pd_mul (pd_callB call_abs cr_abs T.abs bt_abs (pad_cons (pd_var 2) pad_nil)) (pd_callTy call_int1 cr_intB T.int bt_int (pad_cons (pd_cmp op_ge re_ge (pd_callB call_abs cr_abs T.abs bt_abs (pad_cons (pd_var 2) pad_nil)) (pd_pow pd_int pd_int) (nomark _)) pad_nil))) (pd_callTy (call_int_long ND) cr_intL T.int bt_int (pad_cons (pd_op op_add_str re_catS pd_str (pd_op op_mulS re_mulS pd_str pd_int)) pad_nil))) (pad_cons (pd_var 3) pad_nil)))))))) ?_
 rintro ds n Q hl ⟨ns,j,rfl,hns,hj0,hj1,q⟩
 have cm:∀ {i j:Int},(-(2 ^ 64) < i /\ i < 2 ^ 64) -> CMul i j:=fun h=>.inl h
 have cm':∀ {i j:Int},(-(2 ^ 64) < j /\ j < 2 ^ 64) -> CMul i j:=fun h=>.inr h
 obtain ⟨big,hb0,hb1,hb2,hb3⟩:=int_noughts 2000 (by decide) (by decide)
 have hlen:(Str.ofString "1").length + (Txt.mul (Str.ofString "0") 2000).length <= sizeLine:=by
  have ec:=cps_noughts 2000 (by decide)
  have e1:(Str.ofString "1").length = 1:=by decide +kernel
  have e2:(Str.ofString "1" ++ Txt.mul (Str.ofString "0") 2000).cps.toList.length = (Str.ofString "1").cps.toList.length + (Txt.mul (Str.ofString "0") 2000).cps.toList.length:=by
   rw [<- List.length_append,<- Array.toList_append]; rfl
  rw [ec,List.length_cons,List.length_replicate] at e2
  have e3:∀ x:Str,x.cps.toList.length = x.length:=fun x=>Array.length_toList
  rw [e3,e3] at e2
  rw [sizeLine_eq]
  lia
 simp [startD,scriptD]
 refine ⟨by split <;> lia,ns,_,rfl,Int.emod_nonneg _ (by split <;> lia),fun x=>?_⟩
 have h7:0 <= 7919 * j * j:=Int.mul_nonneg (by lia) hj0
 have h8:7919 * j * j <= 7919 * j * 1000:=Int.mul_le_mul_of_nonneg_left (by lia) (by lia)
 simp
 refine ⟨cm ⟨by decide,by decide⟩,cm ⟨by lia,by lia⟩,cm' ⟨by decide,by decide⟩,⟨by decide,by decide,by decide⟩,cm' ⟨by (repeat' split) <;> decide,by (repeat' split) <;> decide⟩,mulok_nought 2000 (by decide) (by decide),hlen,?_⟩
 refine ⟨_,big,rfl,hb1,hb2,hb3,?_⟩
 simp
 exact ⟨hb0,q _ _ (Int.emod_nonneg _ (by lia)) (Int.emod_nonneg _ (by decide)) (Int.emod_lt_of_pos _ (by decide))⟩
abbrev s__law_pick:Stmt:=top 26
abbrev N__law_pick:List Str:=["_law_left_here", "_law_many", "_law_digit"]
theorem sc__law_pick:FnScope N__law_pick ["_law_left_here", "_law_many"] (defScope s__law_pick):=⟨rfl,rfl,rfl,by decide +kernel,rfl,by decide +kernel,by decide +kernel⟩
def t_pick:TF:=fun ds n Q=>∃ m:Int,ds = [.st,.int m] /\ kOf n = 2 /\ 0 < m /\ m < 10000000 /\ ∀ k:Int,0 <= k -> k < m -> Q (.int k) n
theorem ok_pick {f:Addr} {fd:FuncData} (F:Fun K "_law_pick" "_law_pick" s__law_pick f fd):FnOk P w K mg base CX0 1 f fd ["_law_left_here", "_law_many"] (spD K 2 t_pick):=by
 refine Fun.okD F sc__law_pick (fun cdv A0 outer s H E G Z _ hr=>(pssd_cons (psd_if (ptd_cmp op_gt re_gt (pd_stIx (i:=0) pd_int (fun _ _=>rfl)) pd_int (nomark _)) (pssd_cons (psd_set (i:=2) sc__law_pick.nd rfl (lo rfl) (pd_mod (pd_stIx (i:=0) pd_int (fun _ _=>rfl)) (pd_var 1)))
  (pssd_cons (psd_stSet (i:=0) (pd_div (pd_stIx (i:=0) pd_int (fun _ _=>rfl)) (pd_var 1)) pd_int)
  (pssd_one (psd_ret (pd_var 2))))) pssd_nil)
  (pssd_cons (psd_stSet (i:=0) (pd_mod (pd_add (pd_mul (pd_stIx (i:=0) pd_int (fun _ _=>rfl)) pd_int) pd_int) pd_int) pd_int)
  (pssd_one (psd_ret (pd_mod (pd_mod (pd_mul (pd_stIx (i:=0) pd_int (fun _ _=>rfl)) (pd_stIx (i:=0) pd_int (fun _ _=>rfl))) pd_int) (pd_var 1))))))) ?_
 rintro ds n Q hl ⟨m,rfl,hn,hm,hm2,q⟩
 have cm:∀ {i j:Int},(-(2 ^ 64) < i /\ i < 2 ^ 64) -> CMul i j:=fun h=>.inl h
 simp [startD,hn]
 intro z0 h0
 split
 ·intro z hz
  exact ⟨hm,fun z1 hz1=>⟨⟨hm,by lia⟩,Int.ediv_nonneg hz1 (by lia),q _ (Int.emod_nonneg _ (by lia)) (Int.emod_lt_of_pos _ hm)⟩⟩
 ·intro z hz hz2
  exact ⟨cm ⟨by lia,by lia⟩,Int.emod_nonneg _ (by decide),Int.emod_lt_of_pos _ (by decide),fun y hy hy2 z1 h1 h1'=>⟨cm ⟨by lia,by lia⟩,hm,q _ (Int.emod_nonneg _ (by lia)) (Int.emod_lt_of_pos _ hm)⟩⟩
theorem pick_intro {m:Int} {n:Nat} {Q:D -> Nat -> Prop} (hn:kOf n = 2) (h0:0 < m) (h1:m < 10000000) (h:∀ k:Int,0 <= k -> k < m -> Q (.int k) n):t_pick [.st,.int m] n Q:=⟨m,rfl,hn,h0,h1,h⟩
end
end K55
set_option maxRecDepth 100000
set_option maxHeartbeats 1000000
namespace K55
open PySem L2 PySem.Spec PyProof.Rows
abbrev Thing:=Int × List Int × Int
def encThing (t:Thing):D:=.tup [.int t.1,encPlace t.2.1,.int t.2.2]
abbrev Pair:=Option Int × Option Int
def encPair (p:Pair):D:=.tup [encO p.1,encO p.2]
def encPairs (ps:List Pair):D:=.tup (ps.map encPair)
@[simp] theorem encO_none:encO none = .non:=rfl
@[simp] theorem encO_some {i:Int}:encO (some i) = .int i:=rfl
def colT (qs:List (List Int)) (i:Nat):List Int:=qs.map fun q=>q[i]?.getD 0
theorem rngD_map (m:Nat):rngD 0 m = (List.range m).map fun i=>.int (i:Int):=by unfold rngD; simp
open Classical in
noncomputable def minL (ns:List Int):Int:=if h:∃ M,M ∈ ns /\ ∀ a ∈ ns,M <= a then choose h else 0
open Classical in
noncomputable def maxL (ns:List Int):Int:=if h:∃ M,M ∈ ns /\ ∀ a ∈ ns,a <= M then choose h else 0
theorem minL_spec {ns:List Int} (h:∃ M,M ∈ ns /\ ∀ a ∈ ns,M <= a):minL ns ∈ ns /\ ∀ a ∈ ns,minL ns <= a:=by unfold minL; rw [dif_pos h]; exact Classical.choose_spec h
theorem maxL_spec {ns:List Int} (h:∃ M,M ∈ ns /\ ∀ a ∈ ns,a <= M):maxL ns ∈ ns /\ ∀ a ∈ ns,a <= maxL ns:=by unfold maxL; rw [dif_pos h]; exact Classical.choose_spec h
theorem minL_eq {ns:List Int} {M:Int} (h1:M ∈ ns) (h2:∀ a ∈ ns,M <= a):M = minL ns:=by
 obtain ⟨h3,h4⟩:=minL_spec ⟨M,h1,h2⟩
 have:=h2 _ h3
 have:=h4 _ h1
 lia
theorem maxL_eq {ns:List Int} {M:Int} (h1:M ∈ ns) (h2:∀ a ∈ ns,a <= M):M = maxL ns:=by
 obtain ⟨h3,h4⟩:=maxL_spec ⟨M,h1,h2⟩
 have:=h2 _ h3
 have:=h4 _ h1
 lia
theorem kMin_intro {ns:List Int} {k:D -> Prop} (h:0 < ns.length) (q:k (.int (minL ns))):kMin1 [.lst (ns.map D.int)] k:=⟨ns,rfl,h,fun M h1 h2=>by rw [minL_eq h1 h2]; exact q⟩
theorem kMax_intro {ns:List Int} {k:D -> Prop} (h:0 < ns.length) (q:k (.int (maxL ns))):kMax1 [.lst (ns.map D.int)] k:=⟨ns,rfl,h,fun M h1 h2=>by rw [maxL_eq h1 h2]; exact q⟩
def rot (i:Nat) (p:List Int):List Int:=p.drop i ++ p.take i
def rowOf (i:Nat) (t:Thing):SRow:=⟨.t (rot i t.2.1),t.1,[]⟩
theorem cut_from (xs:List D) (b:Nat) (hb:b <= xs.length):cutL xs (some (b:Int)) none = xs.drop b:=by
 unfold cutL
 rw [HT.sIx_nat,HT.sIx_none,Nat.min_eq_left hb,List.take_of_length_le (by rw [List.length_drop]; lia)]
theorem cut_to (xs:List D) (e:Nat) (he:e <= xs.length):cutL xs none (some (e:Int)) = xs.take e:=by
 unfold cutL
 rw [HT.sIx_nat,HT.sIx_none,Nat.min_eq_left he,List.drop_zero,Nat.sub_zero]
theorem perm_map {α β:Type} {f:α -> β}:∀ {l:List β} {ts:List α},l.Perm (ts.map f) -> ∃ rs:List α,rs.Perm ts /\ l = rs.map f:=by
 intro l ts h
 generalize hm:ts.map f = m at h
 induction h generalizing ts with
 | nil =>
  cases ts with
  | nil=>exact ⟨[],.nil,rfl⟩
  | cons _ _=>simp at hm
 | cons x p ih =>
  cases ts with
  | nil=>simp at hm
  | cons a ts =>
   obtain ⟨e1,e2⟩:=List.cons.inj hm
   obtain ⟨rs,h1,rfl⟩:=ih e2
   exact ⟨a :: rs,h1.cons a,by rw [<- e1]; rfl⟩
 | swap x y l =>
  cases ts with
  | nil=>simp at hm
  | cons a ts =>
   cases ts with
   | nil=>simp at hm
   | cons b ts =>
    obtain ⟨e1,e2⟩:=List.cons.inj hm
    obtain ⟨e3,e4⟩:=List.cons.inj e2
    exact ⟨b :: a :: ts,.swap a b ts,by rw [<- e1,<- e3,<- e4]; rfl⟩
 | trans p q ih1 ih2 =>
  obtain ⟨r2,h2,rfl⟩:=ih2 hm
  obtain ⟨r1,h1,rfl⟩:=ih1 rfl
  exact ⟨r1,h1.trans h2,rfl⟩
structure OrdT (i:Nat) (ts rs:List Thing):Prop where
 perm:rs.Perm ts
 up:rs.Pairwise fun a b=>(rowOf i a).lt (rowOf i b) = true
structure GoodU (d:Nat) (ts:List Thing):Prop where
 each:∀ t ∈ ts,t.2.1.length = d
 nd:(ts.map fun t=>t.1).Nodup
theorem GoodU.perm {d:Nat} {ts rs:List Thing} (h:GoodU d ts) (p:rs.Perm ts):GoodU d rs:=⟨fun t ht=>h.each t (p.mem_iff.mp ht),(p.map _).nodup_iff.mpr h.nd⟩
theorem GoodU.sub {d:Nat} {ts rs:List Thing} (h:GoodU d ts) (p:rs.Sublist ts):GoodU d rs:=⟨fun t ht=>h.each t (p.mem ht),(p.map _).nodup h.nd⟩
def nameKey (t:Thing):Key:=Sum.inl t.1
def byN (ts:List Thing):D:=.dct (ts.map nameKey) (ts.map encThing)
@[simp] theorem no_byN (ts:List Thing):notOwn (byN ts) = true:=id rfl
theorem hasK_names:∀ {ts:List Thing} {x:Int},x ∉ ts.map (fun t=>t.1) -> hasK (ts.map nameKey) (Sum.inl x) = false
 | [],x,_=>rfl
 | t :: ts,x,h=>by
  have h1:¬ t.1 = x:=fun e=>h (by simp [e])
  have ih:=hasK_names (ts:=ts) (x:=x) fun z=>h (List.mem_cons_of_mem _ z)
  show (decide (nameKey t = Sum.inl x) || hasK (ts.map nameKey) (Sum.inl x)) = false
  rw [ih,Bool.or_false]
  exact decide_eq_false fun e=>h1 (Sum.inl.inj e)
theorem atK_names:∀ {ts:List Thing} {t:Thing},t ∈ ts -> (ts.map fun t=>t.1).Nodup -> atK (ts.map nameKey) (ts.map encThing) (Sum.inl t.1) = some (encThing t)
 | [],t,h,_=>by simp at h
 | s :: ts, t, h, hn => by
  have hn':=List.nodup_cons.mp hn
  show (if nameKey s = Sum.inl t.1 then some (encThing s) else atK (ts.map nameKey) (ts.map encThing) (Sum.inl t.1)) = _
  rcases List.mem_cons.mp h with rfl | h
  ·exact if_pos rfl
  ·have : ¬ nameKey s = Sum.inl t.1 := fun e => by
    have e':s.1 = t.1:=Sum.inl.inj e
    exact hn'.1 (List.mem_map.mpr ⟨t,h,e'.symm⟩)
   rw [if_neg this]
   exact atK_names h hn'.2
def namesD (ts:List Thing):D:=.tup (ts.map fun t=>.int t.1)
@[simp] theorem no_namesD (ts:List Thing):notOwn (namesD ts) = true:=id rfl
@[simp] theorem noq_pairs (ps:List Pair):notOwn (encPairs ps) = true:=id rfl
@[simp] theorem noq_place (p:List Int):notOwn (encPlace p) = true:=id rfl
@[simp] theorem noq_thing (t:Thing):notOwn (encThing t) = true:=id rfl
noncomputable def bdsT (d:Nat) (qs:List (List Int)):List Pair:=(List.range d).map fun i=>(some (minL (colT qs i)),some (maxL (colT qs i)))
inductive Tr where
 | one (name:Int) (bd:List Pair)
 | two (ns:List Int) (bd:List Pair) (low high:Tr)
def encTr:Tr -> D
 | .one x bd=>.tup [.tup [.int x],encPairs bd,.non,.non]
 | .two ns bd l h=>.tup [.tup (ns.map D.int),encPairs bd,encTr l,encTr h]
inductive Turned (d:Nat):Nat -> List Thing -> Tr -> Prop where
  | one {i:Nat} {t:Thing}:Turned d i [t] (.one t.1 (bdsT d [t.2.1]))
  | two {i:Nat} {ts rs:List Thing} {ns:List Int} {low high:Tr}:2 <= ts.length -> ns.Perm (ts.map fun t=>t.1) -> ns.Pairwise (· <= ·) -> OrdT i ts rs -> Turned d ((i + 1) % d) (rs.take ((ts.length + 1) / 2)) low -> Turned d ((i + 1) % d) (rs.drop ((ts.length + 1) / 2)) high ->
      Turned d i ts (.two ns (bdsT d (ts.map fun t=>t.2.1)) low high)
section
variable {P:Program} {w:World} {K:PySem.W.Frag} {mg:Str -> Option Value} {base:Heap}
abbrev s_things_by_name:Stmt:=top 8
abbrev N_things_by_name:List Str:=["house"]
theorem sc_things_by_name:FnScope N_things_by_name ["house"] (defScope s_things_by_name):=⟨rfl,rfl,rfl,by decide +kernel,rfl,by decide +kernel,by decide +kernel⟩
theorem nd_things_by_name_0:("thing" :: N_things_by_name:List Str).Nodup:=by decide +kernel
def t_tbn:TF:=fun ds n Q=>∃ (dd:D) (ts:List Thing),ds = [.tup [dd,.tup (ts.map encThing)]] /\ (ts.map fun t=>t.1).Nodup /\ ts.length <= 1000 /\ Q (byN ts) n
theorem ok_tbn {f:Addr} {fd:FuncData} (T:Blt mg) (F:Fun K "things_by_name" "things_by_name" s_things_by_name f fd):FnOk P w K mg base CX0 1 f fd ["house"] (spD K 1 t_tbn):=by
 refine Fun.okD F sc_things_by_name (fun cdv A0 outer s H E G Z _ hr=>(pssd_one (psd_ret (pd_dcomp (own:=["thing"]) (M:=N_things_by_name) (compOk (by rfl)) rfl (pid_seq rfl (pd_ix ix_seq re_ix (pd_var 0) pd_int (fun _ _=>rfl))) (fun C s2 H2 fp=>(pgd_name (i:=0) nd_things_by_name_0 rfl (lo rfl) (by decide))) (fun C s2 H2 fp=>ptsd_nil) (fun C s2 H2 fp=>(pd_ix ix_seq re_ix (pd_var 0) pd_int (fun _ _=>rfl))) (fun C s2 H2 fp=>(pd_var 0)))))) ?_
 rintro ds n Q hl ⟨dd,ts,rfl,hn,hz,q⟩
 have e1:atI [dd,D.tup (ts.map encThing)] 1 = some (D.tup (ts.map encThing)):=rfl
 simp [startD,e1]
 refine ⟨by rw [List.length_map]; exact le_size hz,fun i ks es n'=>n' = n /\ ks = (ts.take i).map nameKey /\ es = (ts.take i).map encThing,⟨rfl,rfl,rfl⟩,?_,?_⟩
 ·rintro i d ks es n' e ⟨rfl, rfl, rfl⟩
  rw [List.getElem?_map] at e
  cases et:ts[i]? with
  | none=>rw [et] at e; cases e
  | some t =>
   rw [et] at e
   cases e
   have nt:notOwn (encThing t) = true:=rfl
   simp [nt]
   have e2:∀ R:D -> Prop,R (.int t.1) -> rdIx (encThing t) (.int 0) R:=fun R h=>⟨_,_,_,.inr (.inl rfl),rfl,rfl,h⟩
   refine e2 _ ?_
   refine ⟨_,rfl,?_,?_⟩
   ·have hk : hasK ((ts.take i).map nameKey) (Sum.inl t.1) = false := hasK_names fun hm => by
     have h3:(ts.take i ++ [t]).Sublist ts:=by
      have:ts.take i ++ [t] = ts.take (i + 1):=by rw [List.take_add_one,et]; rfl
      rw [this]; exact List.take_sublist ..
     have h4:=(h3.map fun t=>t.1).nodup hn
     rw [List.map_append,List.nodup_append] at h4
     exact h4.2.2 _ hm _ (by simp) rfl
    unfold putKs
    rw [List.map_take] at hk
    rw [if_neg (by rw [hk]; simp),List.take_add_one,List.getElem?_map,et]; rfl
   ·have hk : hasK ((ts.take i).map nameKey) (Sum.inl t.1) = false := hasK_names fun hm => by
     have h3:(ts.take i ++ [t]).Sublist ts:=by
      have:ts.take i ++ [t] = ts.take (i + 1):=by rw [List.take_add_one,et]; rfl
      rw [this]; exact List.take_sublist ..
     have h4:=(h3.map fun t=>t.1).nodup hn
     rw [List.map_append,List.nodup_append] at h4
     exact h4.2.2 _ hm _ (by simp) rfl
    unfold putG
    rw [List.map_take] at hk
    rw [if_neg (by rw [hk]; simp),List.take_add_one,List.getElem?_map,et]; rfl
 ·rintro ks es n' ⟨rfl, rfl, rfl⟩
  rw [List.length_map,List.take_length]
  exact q
abbrev s_names_by:Stmt:=top 10
abbrev N_names_by:List Str:=["things", "i"]
theorem sc_names_by:FnScope N_names_by ["things", "i"] (defScope s_names_by):=⟨rfl,rfl,rfl,by decide +kernel,rfl,by decide +kernel,by decide +kernel⟩
theorem nd_names_by_0:("name" :: "place" :: "worth" :: N_names_by:List Str).Nodup:=by decide +kernel
theorem nd_names_by_1:("turned" :: "name" :: N_names_by:List Str).Nodup:=by decide +kernel
def t_names_by:TF:=fun ds n Q=>∃ (i d:Nat) (ts:List Thing) (dd:D),ds = [dd,.int i] /\ (dd = .lst (ts.map encThing) \/ dd = .tup (ts.map encThing)) /\ i < d /\ d <= 4 /\ GoodU d ts /\ ts.length < 500 /\ ∀ rs:List Thing,OrdT i ts rs -> Q (namesD rs) n
theorem ok_names_by {f:Addr} {fd:FuncData} (T:Blt mg) (F:Fun K "names_by" "names_by" s_names_by f fd):FnOk P w K mg base CX0 1 f fd ["things", "i"] (spD K 2 t_names_by):=by
 refine Fun.okD F sc_names_by (fun cdv A0 outer s H E G Z _ hr=>(pssd_one (psd_ret (pd_callTy call_tuple_of cr_tuple T.tuple bt_tuple (pad_cons (pd_comp (own:=["turned", "name"]) (M:=N_names_by) (compOk (by rfl)) rfl (pid_seq rfl (pd_callB (call_sortT hr) (cr_sortT rfl) T.sorted bt_sorted (pad_cons (pd_comp (own:=["name", "place", "worth"]) (M:=N_names_by) (compOk (by rfl)) rfl (pid_seq rfl (pd_var 0)) (fun C s2 H2 fp=>(pgd_tup (k:=3) rfl rfl (pgsd_cons (pgd_name (i:=0) nd_names_by_0 rfl (lo rfl) (by decide)) (pgsd_cons (pgd_name (i:=1) nd_names_by_0 rfl (lo rfl) (by decide)) (pgsd_cons (pgd_name (i:=2) nd_names_by_0 rfl (lo rfl) (by decide)) pgsd_nil))))) (fun C s2 H2 fp=>ptsd_nil) (fun C s2 H2 fp=>(pd_tup (pad_cons (pd_op op_catTT re_catT (pd_slT rfl (pd_var 1) (pod_some (pd_var 4)) pod_none) (pd_slT rfl (pd_var 1) pod_none (pod_some (pd_var 4)))) (pad_cons (pd_var 0) pad_nil))))) pad_nil))) (fun C s2 H2 fp=>(pgd_tup (k:=2) rfl rfl (pgsd_cons (pgd_name (i:=0) nd_names_by_1 rfl (lo rfl) (by decide)) (pgsd_cons (pgd_name (i:=1) nd_names_by_1 rfl (lo rfl) (by decide)) pgsd_nil)))) (fun C s2 H2 fp=>ptsd_nil) (fun C s2 H2 fp=>(pd_var 1))) pad_nil))))) ?_
 rintro ds n Q hl ⟨i,d,ts,dd,rfl,hdd,hi,hd,hg,hz,q⟩
 have ndd:notOwn dd = true:=by rcases hdd with rfl | rfl <;> rfl
 simp [startD,ndd]
 refine ⟨_,hdd,?_⟩
 refine comp_mapIn encThing (fun t=>(rowOf i t).d) ts (le_size (by lia)) (fun t ht R hR=>?_) ?_
 ·have he := hg.each t ht
  obtain ⟨x,p,y⟩:=t
  have hp:p.length = d:=he
  have c1:=cut_from (p.map D.int) i (by rw [List.length_map]; lia)
  have c2:=cut_to (p.map D.int) i (by rw [List.length_map]; lia)
  simp [encThing,encPlace,c1,c2]
  refine ⟨le_size (by lia),?_⟩
  have e:(rowOf i (x,p,y)).d = D.tup [D.tup (List.drop i (List.map D.int p) ++ List.take i (List.map D.int p)),D.int x]:=by
   show D.tup [D.tup ((rot i p).map D.int),D.int x] = _
   unfold rot
   rw [List.map_append,List.map_drop,List.map_take]
  rw [<- e]
  exact hR
 ·refine ⟨ts.map (rowOf i), false, by rw [List.map_map]; rfl, by rw [List.length_map]; lia, ?_, ?_, fun rows hp hs => ⟨_, .inl rfl, ?_⟩⟩
  ·intro x hx
   obtain ⟨t,_,rfl⟩:=List.mem_map.mp hx
   rfl
  ·rw [List.map_map]
   exact hg.nd
  ·have hlen : rows.length = ts.length := by rw [hp.length_eq, List.length_map]
   obtain ⟨rs,hrp,rfl⟩:=perm_map hp
   rw [List.length_map] at hlen
   rw [List.map_map]
   refine comp_mapIn (SRow.d ∘ rowOf i) (fun t:Thing=>.int t.1) rs (le_size (by lia)) (fun t ht R hR=>?_) ?_
   ·have e : (SRow.d ∘ rowOf i) t = .tup [.tup ((rot i t.2.1).map D.int), .int t.1] := rfl
    rw [e]
    simp
    exact hR
   ·simp
    exact q rs ⟨hrp,by rw [List.pairwise_map] at hs; exact hs⟩
abbrev s_names_in_order:Stmt:=top 11
abbrev N_names_in_order:List Str:=["by_name", "names", "i"]
theorem sc_names_in_order:FnScope N_names_in_order ["by_name", "names", "i"] (defScope s_names_in_order):=⟨rfl,rfl,rfl,by decide +kernel,rfl,by decide +kernel,by decide +kernel⟩
theorem nd_names_in_order_0:("name" :: N_names_in_order:List Str).Nodup:=by decide +kernel
def t_in_order:TF:=fun ds n Q=>∃ (i d:Nat) (hs ts:List Thing),ds = [byN hs,namesD ts,.int i] /\ i < d /\ d <= 4 /\ (hs.map fun t=>t.1).Nodup /\ (∀ t ∈ ts,t ∈ hs) /\ GoodU d ts /\ ts.length < 500 /\ ∀ rs:List Thing,OrdT i ts rs -> Q (namesD rs) n
theorem ok_in_order {f:Addr} {fd:FuncData} (F:Fun K "names_in_order" "names_in_order" s_names_in_order f fd) (F_names_by:Fn P w K mg base "names_by" 1 2 t_names_by):FnOk P w K mg base CX0 2 f fd ["by_name", "names", "i"] (spD K 3 t_in_order):=by
 refine Fun.okD F sc_names_in_order (fun cdv A0 outer s H E G Z _ hr=>(pssd_one (psd_ret (pd_fn F_names_by (hr.mono (by decide)) rfl (pad_cons (pd_comp (own:=["name"]) (M:=N_names_in_order) (compOk (by rfl)) rfl (pid_seq rfl (pd_var 1)) (fun C s2 H2 fp=>(pgd_name (i:=0) nd_names_in_order_0 rfl (lo rfl) (by decide))) (fun C s2 H2 fp=>ptsd_nil) (fun C s2 H2 fp=>(pd_dix (hu_of hr) (pd_var 1) (pd_var 0) (fun _ _=>rfl)))) (pad_cons (pd_var 2) pad_nil)))))) ?_
 rintro ds n Q hl ⟨i,d,hs,ts,rfl,hi,hd,hn,hsub,hg,hz,q⟩
 simp [startD]
 refine ⟨_,.inr rfl,?_⟩
 refine comp_mapIn (fun t:Thing=>.int t.1) encThing ts (le_size (by lia)) (fun t ht R hR=>?_) ?_
 ·simp
  unfold byN
  rw [q_rdDxI]
  exact ⟨_,atK_names (hsub t ht) hn,hR⟩
 ·exact ⟨i,d,ts,_,rfl,.inl rfl,hi,hd,hg,hz,q⟩
abbrev s_halved_up:Stmt:=top 12
abbrev N_halved_up:List Str:=["count"]
theorem sc_halved_up:FnScope N_halved_up ["count"] (defScope s_halved_up):=⟨rfl,rfl,rfl,by decide +kernel,rfl,by decide +kernel,by decide +kernel⟩
def t_halved_up:TF:=fun ds n Q=>∃ c:Nat,ds = [.int c] /\ Q (.int (((c + 1) / 2:Nat):Int)) n
theorem ok_halved_up {f:Addr} {fd:FuncData} (F:Fun K "halved_up" "halved_up" s_halved_up f fd):FnOk P w K mg base CX0 1 f fd ["count"] (spD K 1 t_halved_up):=by
 refine Fun.okD F sc_halved_up (fun cdv A0 outer s H E G Z _ hr=>(pssd_one (psd_ret (pd_div (pd_add (pd_var 0) pd_int) pd_int)))) ?_
 rintro ds n Q hl ⟨c,rfl,q⟩
 have e:((c:Int) + 1) / 2 = ((c + 1) / 2:Nat):=by lia
 simp [startD]
 exact ⟨⟨by decide,by decide⟩,by rw [e]; exact q⟩
abbrev s_bounds:Stmt:=top 2
abbrev N_bounds:List Str:=["places", "columns"]
theorem sc_bounds:FnScope N_bounds ["places"] (defScope s_bounds):=⟨rfl,rfl,rfl,by decide +kernel,rfl,by decide +kernel,by decide +kernel⟩
theorem nd_bounds_0:("i" :: N_bounds:List Str).Nodup:=by decide +kernel
theorem nd_bounds_1:("place" :: ("i" :: N_bounds):List Str).Nodup:=by decide +kernel
theorem nd_bounds_2:("column" :: N_bounds:List Str).Nodup:=by decide +kernel
def t_boundsL:TF:=fun ds n Q=>∃ (qs:List (List Int)) (d:Nat),ds = [.lst (qs.map encPlace)] /\ 1 <= qs.length /\ qs.length <= 1000 /\ d <= 1000 /\ (∀ q ∈ qs,q.length = d) /\ Q (encPairs (bdsT d qs)) n
theorem ok_boundsL {f:Addr} {fd:FuncData} (T:Blt mg) (F:Fun K "bounds" "bounds" s_bounds f fd):FnOk P w K mg base CX0 1 f fd ["places"] (spD K 1 t_boundsL):=by
 refine Fun.okD F sc_bounds (fun cdv A0 outer s H E G Z _ hr=>(pssd_cons (psd_setComp (i:=1) sc_bounds.nd rfl (lo rfl) (own:=["i"]) (M:=N_bounds) (compOk (by rfl)) rfl (pid_rng T.range (pad_cons (pd_callB call_len_seq cr_len T.len bt_len (pad_cons (pd_ix ix_seq re_ix (pd_var 0) pd_int (fun _ _=>rfl)) pad_nil)) pad_nil)) (fun C s2 H2 fp=>(pgd_name (i:=0) nd_bounds_0 rfl (lo rfl) (by decide))) (fun C s2 H2 fp=>ptsd_nil) (fun C s2 H2 fp=>(pd_comp (own:=["place"]) (M:=("i" :: N_bounds)) (compOk (by rfl)) rfl (pid_seq rfl (pd_var 1)) (fun C s2 H2 fp=>(pgd_name (i:=0) nd_bounds_1 rfl (lo rfl) (by decide))) (fun C s2 H2 fp=>ptsd_nil) (fun C s2 H2 fp=>(pd_ix ix_seq re_ix (pd_var 0) (pd_var 1) (fun _ _=>rfl))))))
  (pssd_one (psd_ret (pd_callTy call_tuple_of cr_tuple T.tuple bt_tuple (pad_cons (pd_comp (own:=["column"]) (M:=N_bounds) (compOk (by rfl)) rfl (pid_seq rfl (pd_var 1)) (fun C s2 H2 fp=>(pgd_name (i:=0) nd_bounds_2 rfl (lo rfl) (by decide))) (fun C s2 H2 fp=>ptsd_nil) (fun C s2 H2 fp=>(pd_tup (pad_cons (pd_callB (call_min1 rfl) cr_min1 T.min bt_min (pad_cons (pd_var 0) pad_nil)) (pad_cons (pd_callB (call_max1 rfl) cr_max1 T.max bt_max (pad_cons (pd_var 0) pad_nil)) pad_nil))))) pad_nil)))))) ?_
 rintro ds n Q hl ⟨qs,d,rfl,h1,h2,hd,hq,q⟩
 obtain ⟨q0,r0,rfl⟩:∃ q0 r0,qs = q0 :: r0:=by cases qs with | nil=>simp at h1 | cons q0 r0=>exact ⟨q0,r0,rfl⟩
 have hl0:q0.length = d:=hq q0 (List.mem_cons_self ..)
 have hk:∀ k:D -> Prop,k (.int d) -> kLen [encPlace q0] k:=fun k h=>by unfold encPlace; rw [q_kLenT,List.length_map,hl0]; exact h
 simp [startD]
 refine hk _ ?_
 simp
 refine ⟨by lia,?_⟩
 rw [rngD_map]
 refine comp_mapIn (fun i:Nat=>D.int (i:Int)) (fun i=>.lst ((colT (q0 :: r0) i).map D.int)) (List.range d) (by rw [List.length_range]; exact le_size hd) (fun i hi R hR=>?_) ?_
 ·have hi' : i < d := List.mem_range.mp hi
  simp
  rw [<- List.map_cons (f:=encPlace)]
  have e:(colT (q0 :: r0) i).map D.int = (q0 :: r0).map fun q=>.int (q[i]?.getD 0):=by unfold colT; rw [List.map_map]; rfl
  refine comp_mapIn encPlace (fun q=>.int (q[i]?.getD 0)) (q0 :: r0) (le_size h2) (fun q hqm R2 hR2=>?_) ?_
  ·have nq : notOwn (encPlace q) = true := rfl
   have hq1:i < q.length:=by rw [hq q hqm]; exact hi'
   simp [nq]
   unfold encPlace
   rw [q_rdIxT]
   refine ⟨.int (q[i]?.getD 0),atI_nat ?_,hR2⟩
   rw [List.getElem?_map,List.getElem?_eq_getElem hq1]
   rfl
  ·rw [<- e]; exact hR
 ·simp
  refine comp_mapIn (fun i=>.lst ((colT (q0 :: r0) i).map D.int)) (fun i=>encPair (some (minL (colT (q0 :: r0) i)),some (maxL (colT (q0 :: r0) i)))) (List.range d) (by rw [List.length_range]; exact le_size hd) (fun i hi R hR=>?_) ?_
  ·have hc : 0 < (colT (q0 :: r0) i).length := by unfold colT; rw [List.length_map]; exact h1
   simp
   exact kMin_intro hc (kMax_intro hc hR)
  ·have z := q
   unfold encPairs bdsT at z
   rw [List.map_map] at z
   exact q_kTupleL.mpr z
abbrev s_bounds_of:Stmt:=top 14
abbrev N_bounds_of:List Str:=["by_name", "names"]
theorem sc_bounds_of:FnScope N_bounds_of ["by_name", "names"] (defScope s_bounds_of):=⟨rfl,rfl,rfl,by decide +kernel,rfl,by decide +kernel,by decide +kernel⟩
theorem nd_bounds_of_0:("name" :: N_bounds_of:List Str).Nodup:=by decide +kernel
def t_bounds_of:TF:=fun ds n Q=>∃ (d:Nat) (hs ts:List Thing),ds = [byN hs,namesD ts] /\ d <= 4 /\ (hs.map fun t=>t.1).Nodup /\ (∀ t ∈ ts,t ∈ hs) /\ (∀ t ∈ ts,t.2.1.length = d) /\ 1 <= ts.length /\ ts.length < 500 /\ Q (encPairs (bdsT d (ts.map fun t=>t.2.1))) n
theorem ok_bounds_of {f:Addr} {fd:FuncData} (F:Fun K "bounds_of" "bounds_of" s_bounds_of f fd) (F_bounds:Fn P w K mg base "bounds" 1 1 t_boundsL):FnOk P w K mg base CX0 2 f fd ["by_name", "names"] (spD K 2 t_bounds_of):=by
 refine Fun.okD F sc_bounds_of (fun cdv A0 outer s H E G Z _ hr=>(pssd_one (psd_ret (pd_fn F_bounds (hr.mono (by decide)) rfl (pad_cons (pd_comp (own:=["name"]) (M:=N_bounds_of) (compOk (by rfl)) rfl (pid_seq rfl (pd_var 1)) (fun C s2 H2 fp=>(pgd_name (i:=0) nd_bounds_of_0 rfl (lo rfl) (by decide))) (fun C s2 H2 fp=>ptsd_nil) (fun C s2 H2 fp=>(pd_ix ix_seq re_ix (pd_dix (hu_of hr) (pd_var 1) (pd_var 0) (fun _ _=>rfl)) pd_int (fun _ _=>rfl)))) pad_nil))))) ?_
 rintro ds n Q hl ⟨d,hs,ts,rfl,hd,hn,hsub,hlen,h1,hz,q⟩
 simp [startD]
 refine ⟨_,.inr rfl,?_⟩
 refine comp_mapIn (fun t:Thing=>.int t.1) (fun t=>encPlace t.2.1) ts (le_size (by lia)) (fun t ht R hR=>?_) ?_
 ·simp
  unfold byN
  rw [q_rdDxI]
  exact ⟨_,atK_names (hsub t ht) hn,⟨_,_,_,.inr (.inl rfl),rfl,rfl,hR⟩⟩
 ·refine ⟨ts.map fun t => t.2.1, d, by rw [List.map_map]; rfl, by simpa using h1, by simp; lia, by lia, fun p hp => ?_, q⟩
  obtain ⟨t,ht,rfl⟩:=List.mem_map.mp hp
  exact hlen t ht
abbrev s_tree_of:Stmt:=top 15
abbrev N_tree_of:List Str:=["d", "by_name", "names", "i", "rising", "limits", "ordered", "half", "turn"]
theorem sc_tree_of:FnScope N_tree_of ["d", "by_name", "names", "i"] (defScope s_tree_of):=⟨rfl,rfl,rfl,by decide +kernel,rfl,by decide +kernel,by decide +kernel⟩
def t_tree:Nat -> TF
 | 0=>fun _ _ _=>False
 | j + 1=>fun ds n Q=>∃ (d i:Nat) (hs ts:List Thing),ds = [.int d,byN hs,namesD ts,.int i] /\ i < d /\ d <= 4 /\ (hs.map fun t=>t.1).Nodup /\ (∀ t ∈ ts,t ∈ hs) /\ GoodU d ts /\ 1 <= ts.length /\ ts.length < 500 /\ ts.length <= 2 ^ j /\ ∀ tr,Turned d i ts tr -> Q (encTr tr) n
theorem ok_tree {f:Addr} {fd:FuncData} (T:Blt mg) (F:Fun K "tree_of" "tree_of" s_tree_of f fd) (hm:mg "tree_of" = some (.ref f)) (hk:PySem.W.keepIn K (.ref f) = true) (hb:Binds K fd ["d", "by_name", "names", "i"] []) (F_bounds_of:Fn P w K mg base "bounds_of" 2 2 t_bounds_of) (F_names_in_order:Fn P w K mg base "names_in_order" 2 3 t_in_order) (F_halved_up:Fn P w K mg base "halved_up" 1 1 t_halved_up):∀ j:Nat,FnOk P w K mg base CX0 (j + 2) f fd ["d", "by_name", "names", "i"] (spD K 4 (t_tree j)):=by
 intro j
 induction j with
 | zero=>exact FnOk.botK fun ds n Q h=>h
 | succ j ih =>
  have F_tree_of:Fn P w K mg base "tree_of" (j + 2) 4 (t_tree j):=⟨f,fd,_,ih,hm,hk,hb⟩
  refine Fun.okD F sc_tree_of (fun cdv A0 outer s H E G Z _ hr=>(pssd_cons (psd_set (i:=4) sc_tree_of.nd rfl (lo rfl) (pd_callTy call_tuple_of cr_tuple T.tuple bt_tuple (pad_cons (pd_callB call_sortTuB (cr_sortTuB rfl) T.sorted bt_sorted (pad_cons (pd_var 2) pad_nil)) pad_nil)))
  (pssd_cons (psd_set (i:=5) sc_tree_of.nd rfl (lo rfl) (pd_fn F_bounds_of (hr.mono (by lia)) rfl (pad_cons (pd_var 1) (pad_cons (pd_var 2) pad_nil))))
  (pssd_cons (psd_if (ptd_cmp op_eq re_eq (pd_callB call_len_seq cr_len T.len bt_len (pad_cons (pd_var 2) pad_nil)) pd_int (nomark _)) (pssd_one (psd_ret (pd_tup (pad_cons (pd_var 4) (pad_cons (pd_var 5) (pad_cons pd_non (pad_cons pd_non pad_nil))))))) pssd_nil)
  (pssd_cons (psd_set (i:=6) sc_tree_of.nd rfl (lo rfl) (pd_fn F_names_in_order (hr.mono (by lia)) rfl (pad_cons (pd_var 1) (pad_cons (pd_var 2) (pad_cons (pd_var 3) pad_nil)))))
  (pssd_cons (psd_set (i:=7) sc_tree_of.nd rfl (lo rfl) (pd_fn F_halved_up (hr.mono (by lia)) rfl (pad_cons (pd_callB call_len_seq cr_len T.len bt_len (pad_cons (pd_var 2) pad_nil)) pad_nil)))
  (pssd_cons (psd_set (i:=8) sc_tree_of.nd rfl (lo rfl) (pd_mod (pd_add (pd_var 3) pd_int) (pd_var 0)))
  (pssd_one (psd_ret (pd_tup (pad_cons (pd_var 4) (pad_cons (pd_var 5) (pad_cons (pd_fn F_tree_of hr rfl (pad_cons (pd_var 0) (pad_cons (pd_var 1) (pad_cons (pd_slT rfl (pd_var 6) pod_none (pod_some (pd_var 7))) (pad_cons (pd_var 8) pad_nil))))) (pad_cons (pd_fn F_tree_of hr rfl (pad_cons (pd_var 0) (pad_cons (pd_var 1) (pad_cons (pd_slT rfl (pd_var 6) (pod_some (pd_var 7)) pod_none) (pad_cons (pd_var 8) pad_nil))))) pad_nil)))))))))))))) ?_
  rintro ds n Q hl ⟨d,i,hs,ts,rfl,hi,hd,hn,hsub,hg,h1,hz,hj,q⟩
  have nmE:namesD ts = .tup ((ts.map fun t=>t.1).map D.int):=by unfold namesD; rw [List.map_map]; rfl
  have kl:∀ k:D -> Prop,k (.int (ts.length:Int)) -> kLen [namesD ts] k:=fun k h=>by unfold namesD; rw [q_kLenT,List.length_map]; exact h
  simp [startD]
  refine ⟨ts.map fun t=>t.1,congrArg (fun x=>[x]) nmE,by rw [List.length_map]; lia,fun ns hp hs'=>?_⟩
  simp
  refine ⟨d,hs,ts,rfl,hd,hn,hsub,hg.each,h1,hz,?_⟩
  have np:notOwn (encPairs (bdsT d (ts.map fun t=>t.2.1))) = true:=rfl
  simp
  refine kl _ ?_
  simp
  split
  ·rename_i h2
   have h2':ts.length = 1:=by lia
   obtain ⟨t,rfl⟩:=List.length_eq_one_iff.mp h2'
   have e1:ns = [t.1]:=by simpa using hp
   subst e1
   simp
   exact q _ .one
  ·rename_i h2
   have h2':2 <= ts.length:=by lia
   refine ⟨i,d,hs,ts,rfl,hi,hd,hn,hsub,hg,hz,fun rs ho=>?_⟩
   have hrl:rs.length = ts.length:=ho.perm.length_eq
   simp
   refine kl _ ⟨ts.length,rfl,?_⟩
   simp [np]
   refine ⟨by lia,?_⟩
   cases j with
   | zero=>simp at hj; lia
   | succ j =>
    have et:((i:Int) + 1) % (d:Int) = (((i + 1) % d:Nat):Int):=by simp
    have hcut1:cutL (rs.map fun t=>D.int t.1) none (some (((ts.length + 1) / 2:Nat):Int)) = (rs.take ((ts.length + 1) / 2)).map fun t=>D.int t.1:=by rw [cut_to _ _ (by rw [List.length_map]; lia),List.map_take]
    have hcut2:cutL (rs.map fun t=>D.int t.1) (some (((ts.length + 1) / 2:Nat):Int)) none = (rs.drop ((ts.length + 1) / 2)).map fun t=>D.int t.1:=by rw [cut_from _ _ (by rw [List.length_map]; lia),List.map_drop]
    have gr:=hg.perm ho.perm
    have pw:2 ^ (j + 1) = 2 * 2 ^ j:=by rw [Nat.pow_succ]; lia
    have part:∀ (us:List Thing) (n:Nat) (R:D -> Nat -> Prop),us.Sublist rs -> 1 <= us.length -> us.length <= (ts.length + 1) / 2 -> (∀ tr,Turned d ((i + 1) % d) us tr -> R (encTr tr) n) -> t_tree (j + 1) [.int d,byN hs,namesD us,.int (((i + 1) % d:Nat):Int)] n R:=fun us n R hu h3 h4 hR =>
     ⟨d,(i + 1) % d,hs,us,rfl,Nat.mod_lt _ (by lia),hd,hn,fun t ht=>hsub t (ho.perm.mem_iff.mp (hu.mem ht)),gr.sub hu,h3,by lia,by lia,hR⟩
    have eh:((ts.length:Int) + 1) / 2 = (((ts.length + 1) / 2:Nat):Int):=by lia
    unfold namesD
    rw [q_tupAt,eh,et,hcut1]
    refine part _ _ _ (List.take_sublist ..) (by rw [List.length_take]; lia) (by rw [List.length_take]; lia) fun low hlow=>?_
    rw [q_tupAt,hcut2]
    refine part _ _ _ (List.drop_sublist ..) (by rw [List.length_drop]; lia) (by rw [List.length_drop]; lia) fun high hhigh=>?_
    exact q _ (.two h2' hp hs' ho hlow hhigh)
abbrev s_all_names:Stmt:=top 16
abbrev N_all_names:List Str:=["house"]
theorem sc_all_names:FnScope N_all_names ["house"] (defScope s_all_names):=⟨rfl,rfl,rfl,by decide +kernel,rfl,by decide +kernel,by decide +kernel⟩
theorem nd_all_names_0:("name" :: "place" :: "worth" :: N_all_names:List Str).Nodup:=by decide +kernel
def t_all_names:TF:=fun ds n Q=>∃ (dd:D) (ts:List Thing),ds = [.tup [dd,.tup (ts.map encThing)]] /\ ts.length <= 1000 /\ Q (namesD ts) n
theorem ok_all_names {f:Addr} {fd:FuncData} (T:Blt mg) (F:Fun K "all_names" "all_names" s_all_names f fd):FnOk P w K mg base CX0 1 f fd ["house"] (spD K 1 t_all_names):=by
 refine Fun.okD F sc_all_names (fun cdv A0 outer s H E G Z _ hr=>(pssd_one (psd_ret (pd_callTy call_tuple_of cr_tuple T.tuple bt_tuple (pad_cons (pd_comp (own:=["name", "place", "worth"]) (M:=N_all_names) (compOk (by rfl)) rfl (pid_seq rfl (pd_ix ix_seq re_ix (pd_var 0) pd_int (fun _ _=>rfl))) (fun C s2 H2 fp=>(pgd_tup (k:=3) rfl rfl (pgsd_cons (pgd_name (i:=0) nd_all_names_0 rfl (lo rfl) (by decide)) (pgsd_cons (pgd_name (i:=1) nd_all_names_0 rfl (lo rfl) (by decide)) (pgsd_cons (pgd_name (i:=2) nd_all_names_0 rfl (lo rfl) (by decide)) pgsd_nil))))) (fun C s2 H2 fp=>ptsd_nil) (fun C s2 H2 fp=>(pd_var 0))) pad_nil))))) ?_
 rintro ds n Q hl ⟨dd,ts,rfl,hz,q⟩
 have e1:atI [dd,D.tup (ts.map encThing)] 1 = some (D.tup (ts.map encThing)):=rfl
 simp [startD,e1]
 refine comp_mapIn encThing (fun t=>.int t.1) ts (le_size hz) (fun t ht R hR=>?_) ?_
 ·simp [encThing]
  exact hR
 ·exact q_kTupleL.mpr q
abbrev s_turns:Stmt:=top 17
abbrev N_turns:List Str:=["house", "d", "things"]
theorem sc_turns:FnScope N_turns ["house"] (defScope s_turns):=⟨rfl,rfl,rfl,by decide +kernel,rfl,by decide +kernel,by decide +kernel⟩
def t_turns:TF:=fun ds n Q=>∃ (d:Nat) (ts:List Thing),ds = [.tup [.int d,.tup (ts.map encThing)]] /\ 1 <= d /\ d <= 4 /\ GoodU d ts /\ ts.length < 500 /\ (ts = [] -> Q .non n) /\ (ts ≠ [] -> ∀ tr,Turned d 0 ts tr -> Q (encTr tr) n)
theorem ok_turns {f:Addr} {fd:FuncData} (T:Blt mg) (F:Fun K "turns" "turns" s_turns f fd) (F_tree_of:Fn P w K mg base "tree_of" 12 4 (t_tree 10)) (F_things_by_name:Fn P w K mg base "things_by_name" 1 1 t_tbn) (F_all_names:Fn P w K mg base "all_names" 1 1 t_all_names):FnOk P w K mg base CX0 13 f fd ["house"] (spD K 1 t_turns):=by
 refine Fun.okD F sc_turns (fun cdv A0 outer s H E G Z _ hr=>(pssd_cons (psd_unp (m:=3) (pd_var 0) (pgd_tup (k:=2) rfl rfl (pgsd_cons (pgd_name (i:=1) sc_turns.nd rfl (lo rfl) (by decide)) (pgsd_cons (pgd_name (i:=2) sc_turns.nd rfl (lo rfl) (by decide)) pgsd_nil))))
  (pssd_cons (psd_if (ptd_cmp op_eq re_eq (pd_callB call_len_seq cr_len T.len bt_len (pad_cons (pd_var 2) pad_nil)) pd_int (nomark _)) (pssd_one (psd_ret pd_non)) pssd_nil)
  (pssd_one (psd_ret (pd_fn F_tree_of (hr.mono (by decide)) rfl (pad_cons (pd_var 1) (pad_cons (pd_fn F_things_by_name (hr.mono (by decide)) rfl (pad_cons (pd_var 0) pad_nil)) (pad_cons (pd_fn F_all_names (hr.mono (by decide)) rfl (pad_cons (pd_var 0) pad_nil)) (pad_cons pd_int pad_nil)))))))))) ?_
 rintro ds n Q hl ⟨d,ts,rfl,h1,hd,hg,hz,q0,q1⟩
 simp [startD]
 split
 ·rename_i h
  exact q0 h
 ·rename_i h
  refine ⟨_,ts,rfl,hg.nd,by lia,?_⟩
  simp
  refine ⟨_,ts,rfl,by lia,?_⟩
  have hlen:1 <= ts.length:=by
   cases ts with
   | nil=>exact absurd rfl h
   | cons a b=>simp
  exact ⟨d,0,ts,ts,rfl,by lia,hd,hg.nd,fun t ht=>ht,hg,hlen,hz,by show ts.length <= 512; lia,q1 h⟩
end
end K55
set_option maxRecDepth 100000
set_option maxHeartbeats 1000000
namespace K55
open PySem L2 PySem.Spec PyProof.Rows
structure Pt where
 r:Nat
 a:Addr
 g:Addr
 ts:List Thing
 gs:List (Int × D)
def pF (ts:List Thing) (h tr:D) (g:Addr):List (Str × D):=[("things",.lst (ts.map encThing)),("held",h),("tree",tr),("gone",.rf g)]
def outT (gs:List (Int × D)) (t:Thing):Bool:=(getP t.1 gs).isNone
def Pt.left (p:Pt):List Thing:=p.ts.filter (outT p.gs)
structure PartAt (CP:Addr) (n:Nat) (p:Pt):Prop where
 i:∃ h tr,cellAt n p.a = some (.ins CP (pF p.ts h tr p.g))
 g:cellAt n p.g = some (.dic p.gs)
@[simp] theorem ne1:(("things" : Str) = "held") = False:=eq_false (by decide +kernel)
@[simp] theorem ne2:(("things" : Str) = "tree") = False:=eq_false (by decide +kernel)
@[simp] theorem ne3:(("things" : Str) = "gone") = False:=eq_false (by decide +kernel)
@[simp] theorem ne4:(("held" : Str) = "tree") = False:=eq_false (by decide +kernel)
@[simp] theorem ne5:(("held" : Str) = "gone") = False:=eq_false (by decide +kernel)
@[simp] theorem ne6:(("tree" : Str) = "gone") = False:=eq_false (by decide +kernel)
@[simp] theorem ne7:(("things" : Str) = "left") = False:=eq_false (by decide +kernel)
@[simp] theorem ne8:(("held" : Str) = "left") = False:=eq_false (by decide +kernel)
@[simp] theorem ne9:(("tree" : Str) = "left") = False:=eq_false (by decide +kernel)
@[simp] theorem ne10:(("gone" : Str) = "left") = False:=eq_false (by decide +kernel)
theorem pF_things {ts h tr g}:getF "things" (pF ts h tr g) = some (.lst (ts.map encThing)):=by simp [pF,getF]
theorem pF_gone {ts h tr g}:getF "gone" (pF ts h tr g) = some (.rf g):=by simp [pF,getF]
theorem pF_left {ts h tr g}:getF "left" (pF ts h tr g) = none:=by simp [pF,getF]
theorem pl_encThing (t:Thing):plD (encThing t) = true:=by
 have e:plDs (t.2.1.map D.int) = true:=plDs_iff.mpr fun d hd=>by obtain ⟨x,_,rfl⟩:=List.mem_map.mp hd; rfl
 simp [encThing,encPlace,plD,plDs,e]
theorem pl_things (ts:List Thing):plDs (ts.map encThing) = true:=plDs_iff.mpr fun d hd=>by obtain ⟨x,_,rfl⟩:=List.mem_map.mp hd; exact pl_encThing x
theorem pl_encPairs (ps:List Pair):plD (encPairs ps) = true:=by
 have e:plDs (ps.map encPair) = true:=plDs_iff.mpr fun d hd=>by
  obtain ⟨⟨x,y⟩,_,rfl⟩:=List.mem_map.mp hd
  cases x <;> cases y <;> rfl
 simpa [encPairs,plD] using e
theorem pl_encTr:∀ t:Tr,plD (encTr t) = true
 | .one x bd=>by simp [encTr,plD,plDs,pl_encPairs]
 | .two ns bd l h=>by
  have e:plDs (ns.map D.int) = true:=plDs_iff.mpr fun d hd=>by obtain ⟨x,_,rfl⟩:=List.mem_map.mp hd; rfl
  simp [encTr,plD,plDs,pl_encPairs,pl_encTr l,pl_encTr h,e]
theorem pl_ins {C:Addr} {fs:List (Str × D)} (h:∀ d ∈ fs.map (·.2),plD d = true):plC (.ins C fs) = true:=plDs_iff.mpr h
theorem _root_.L2.OnlyC.setTo {n n1:Nat} {l:List Addr} {a:Addr} {c:Cell} (h:OnlyC n n1 l) (pl:plC c = true) (m:a ∈ l):OnlyC n (setC n1 a c) l:=(h.trans (OnlyC.set (n:=n1) (a:=a) pl)).mono fun b hb=>by
 rcases List.mem_append.mp hb with hb | hb
 ·exact hb
 ·rw [List.mem_singleton.mp hb]; exact m
section
variable {P:Program} {w:World} {K:PySem.W.Frag} {mg:Str -> Option Value} {base:Heap} {CP:Addr}
abbrev s_Part_init:Stmt:=inClass (top 21) 0
abbrev N_Part_init:List Str:=["self", "d", "things"]
theorem sc_Part_init:FnScope N_Part_init ["self", "d", "things"] (defScope s_Part_init):=⟨rfl,rfl,rfl,by decide +kernel,rfl,by decide +kernel,by decide +kernel⟩
def t_pinit (CP:Addr):TF:=fun ds n Q=>∃ (a:Addr) (d:Nat) (ts:List Thing),ds = [.rf a,.int d,.lst (ts.map encThing)] /\ cellAt n a = some (.ins CP []) /\ 1 <= d /\ d <= 4 /\ GoodU d ts /\ 1 <= ts.length /\ ts.length < 500 /\
 ∀ g h tr n',g ≠ a -> cellAt n g = none -> OnlyC n n' [a,g] -> cellAt n' a = some (.ins CP (pF ts h tr g)) -> cellAt n' g = some (.dic []) -> Q .non n'
theorem ok_pinit {f:Addr} {fd:FuncData} (T:Blt mg) (CL_Part:Cls K CP) (NA_things:NoAttr K CP "things") (NA_held:NoAttr K CP "held") (NA_tree:NoAttr K CP "tree") (NA_gone:NoAttr K CP "gone") (F:Fun K "__init__" "Part.__init__" s_Part_init f fd) (F_turns:Fn P w K mg base "turns" 13 1 t_turns):FnOk P w K mg base CX0 14 f fd ["self", "d", "things"] (spD K 3 (t_pinit CP)):=by
 refine Fun.okD F sc_Part_init (fun cdv A0 outer s H E G Z _ hr=>(pssd_cons (psd_fldC CL_Part NA_things (pd_var 0) (pd_var 2))
  (pssd_cons (psd_fldC CL_Part NA_held (pd_var 0) (pd_tup (pad_cons (pd_var 1) (pad_cons (pd_callTy call_tuple_of cr_tuple T.tuple bt_tuple (pad_cons (pd_callB (call_sortT hr) (cr_sortN rfl) T.sorted bt_sorted (pad_cons (pd_var 2) pad_nil)) pad_nil)) pad_nil))))
  (pssd_cons (psd_fldC CL_Part NA_tree (pd_var 0) (pd_fn F_turns (hr.mono (by decide)) rfl (pad_cons (pd_fldC CL_Part NA_held (pd_var 0)) pad_nil)))
  (pssd_one (psd_fldC CL_Part NA_gone (pd_var 0) pd_newC)))))) ?_
 rintro ds n Q hl ⟨a,d,ts,rfl,hc,hd1,hd4,hg,h1,hz,q⟩
 have pt:plD (.lst (ts.map encThing)) = true:=by simpa [plD] using pl_things ts
 have p1:plC (.ins CP [("things",.lst (ts.map encThing))]) = true:=pl_ins (by simpa using pt)
 simp [startD]
 refine insAt_mk hc ⟨pt,by simp,?_⟩
 simp [putA]
 have o1:=OnlyC.rfl'.setTo (n:=n) (l:=[a]) (a:=a) p1 (List.mem_cons_self ..)
 have c1:=cell_self (n:=n) (a:=a) p1
 generalize setC n a _ = n1 at o1 c1 ⊢
 refine ⟨ts.map fun t=>(t.1,[encPlace t.2.1,.int t.2.2]),by rw [List.map_map]; rfl,by rw [List.length_map]; lia,by rw [List.map_map]; exact hg.nd,fun rows hp hs=>?_⟩
 obtain ⟨rs,hrp,rfl⟩:=perm_map hp
 have pr:plDs (rs.map encThing) = true:=pl_things rs
 have ph:plD (.tup [.int d,.tup (rs.map encThing)]) = true:=by simp [plD,plDs,pr]
 have eR:(rs.map fun t=>(t.1,[encPlace t.2.1,D.int t.2.2])).map NRow.d = rs.map encThing:=by rw [List.map_map]; rfl
 rw [eR]
 refine q_kTupleL.mpr ?_
 refine insAt_mk c1 ⟨ph,by simp,?_⟩
 simp [putA]
 have p2:plC (.ins CP [("things",.lst (ts.map encThing)),("held",.tup [.int d,.tup (rs.map encThing)])]) = true:=pl_ins (by simpa using ⟨pt,ph⟩)
 have o2:=o1.setTo (a:=a) p2 (List.mem_cons_self ..)
 have c2:=cell_self (n:=n1) (a:=a) p2
 generalize setC n1 a _ = n2 at o2 c2 ⊢
 refine insAt_mk c2 ?_
 simp [getF]
 have hrl:rs.length = ts.length:=hrp.length_eq
 refine ⟨d,rs,rfl,hd1,hd4,hg.perm hrp,by lia,fun e=>by rw [e] at hrl; simp at hrl; lia,fun _ tr _=>?_⟩
 have p3:plC (.ins CP [("things",.lst (ts.map encThing)),("held",.tup [.int d,.tup (rs.map encThing)]),("tree",encTr tr)]) = true:=pl_ins (by simpa using ⟨pt,ph,pl_encTr tr⟩)
 refine insAt_mk c2 ⟨pl_encTr tr,by simp,?_⟩
 simp [putA]
 have o3:=o2.setTo (a:=a) p3 (List.mem_cons_self ..)
 have c3:=cell_self (n:=n2) (a:=a) p3
 generalize setC n2 a _ = n3 at o3 c3 ⊢
 intro g hgn
 have ga:g ≠ a:=fun e=>by rw [e,c3] at hgn; cases hgn
 have p4:plC (.dic []) = true:=rfl
 have o4:=(o3.mono (r:=[a,g]) (by simp)).setTo (a:=g) p4 (by simp)
 have c4:=(cell_ne (n:=n3) (a:=g) (b:=a) p4 (Ne.symm ga)).trans c3
 have g4:=cell_self (n:=n3) (a:=g) p4
 generalize setC n3 g _ = n4 at o4 c4 g4 ⊢
 refine insAt_mk c4 ⟨rfl,by simp,?_⟩
 simp [putA]
 have p5:plC (.ins CP (pF ts (.tup [.int d,.tup (rs.map encThing)]) (encTr tr) g)) = true:=pl_ins (by simpa [pF] using ⟨pt,ph,pl_encTr tr,rfl⟩)
 exact q g _ _ _ ga (by rw [<- hgn]; exact (o3.o g (by simpa using ga)).symm) (o4.setTo p5 (by simp)) (cell_self p5) ((cell_ne p5 ga).trans g4)
abbrev s_Part_left:Stmt:=inClass (top 21) 1
abbrev N_Part_left:List Str:=["self"]
theorem sc_Part_left:FnScope N_Part_left ["self"] (defScope s_Part_left):=⟨rfl,rfl,rfl,by decide +kernel,rfl,by decide +kernel,by decide +kernel⟩
theorem nd_Part_left_0:("thing" :: N_Part_left:List Str).Nodup:=by decide +kernel
def t_pleft (CP:Addr):TF:=fun ds n Q=>∃ p:Pt,ds = [.rf p.a] /\ PartAt CP n p /\ p.ts.length <= 1000 /\ Q (.lst (p.left.map encThing)) n
theorem ok_pleft {f:Addr} {fd:FuncData} (T:Blt mg) (CL_Part:Cls K CP) (NA_things:NoAttr K CP "things") (NA_gone:NoAttr K CP "gone") (F:Fun K "left" "Part.left" s_Part_left f fd):FnOk P w K mg base CX0 1 f fd ["self"] (spD K 1 (t_pleft CP)):=by
 refine Fun.okD F sc_Part_left (fun cdv A0 outer s H E G Z _ hr=>(pssd_one (psd_ret (pd_comp (own:=["thing"]) (M:=N_Part_left) (compOk (by rfl)) rfl (pid_seq rfl (pd_fldC CL_Part NA_things (pd_var 0))) (fun C s2 H2 fp=>(pgd_name (i:=0) nd_Part_left_0 rfl (lo rfl) (by decide))) (fun C s2 H2 fp=>(ptsd_one (ptd_notinC (hu_of hr) (pd_ix ix_seq re_ix (pd_var 0) pd_int (fun _ _=>rfl)) (pd_fldC CL_Part NA_gone (pd_var 1)) (by with_unfolding_all rfl)))) (fun C s2 H2 fp=>(pd_var 0)))))) ?_
 rintro ds n Q hl ⟨p,rfl,⟨⟨h,tr,hc⟩,hgc⟩,hz,q⟩
 simp [startD]
 refine insAt_mk hc ?_
 rw [pF_things]
 simp
 refine comp_filtIn encThing (outT p.gs) encThing p.ts (le_size hz) (fun t ht R S hR hS=>?_) q
 have hR':outT p.gs t = true -> R (.tup [.int t.1,encPlace t.2.1,.int t.2.2]) n:=hR
 simp [encThing]
 refine insAt_mk hc ?_
 rw [pF_gone]
 simp
 refine dicAt_mk hgc ?_
 unfold outT at hR' hS
 split
 ·rename_i e; rw [e] at hR'; exact hR' rfl
 ·rename_i e; exact hS (by cases q:getP t.1 p.gs with | none=>exact absurd q e | some x=>rfl)
end
end K55
set_option maxRecDepth 100000
set_option maxHeartbeats 1000000
namespace K55
open PySem L2 PySem.Spec PyProof.Rows
theorem getP_snoc {α:Type} {k y:Int} {x:α}:∀ {l:List (Int × α)},getP y (l ++ [(k,x)]) = match getP y l with | some d=>some d | none=>if k = y then some x else none
 | []=>rfl
 | p :: l=>by
  show (if p.1 = y then some p.2 else getP y (l ++ [(k,x)])) = match (if p.1 = y then some p.2 else getP y l) with | some d=>some d | none=>if k = y then some x else none
  by_cases e:p.1 = y
  ·rw [if_pos e,if_pos e]
  ·rw [if_neg e,if_neg e]; exact getP_snoc
theorem getP_repl {α:Type} {k y:Int} {x:α}:∀ {l:List (Int × α)},getP y (l.map fun p=>if p.1 = k then (p.1,x) else p) = if y = k then (getP y l).map fun _=>x else getP y l
 | []=>by simp [getP]
 | p :: l=>by
  have ih:=getP_repl (k:=k) (y:=y) (x:=x) (l:=l)
  rw [List.map_cons]
  unfold getP
  rw [ih]
  by_cases e:p.1 = k <;> by_cases e2:p.1 = y
  ·simp [e,show y = k by lia]
  ·simp [e,show ¬ k = y by lia,show ¬ y = k by lia]
  ·simp [e,e2,show ¬ y = k by lia]
  ·by_cases e3:y = k <;> simp [e,e2,e3,show ¬ p.1 = k from e]
theorem getP_put {α:Type} {k y:Int} {x:α} {l:List (Int × α)}:getP y (putP k x l) = if y = k then some x else getP y l:=by
 unfold putP
 split
 ·rename_i h
  rw [getP_repl]
  by_cases e:y = k
  ·subst e
   obtain ⟨d,hd⟩:=Option.isSome_iff_exists.mp h
   rw [if_pos rfl,if_pos rfl,hd]; rfl
  ·rw [if_neg e,if_neg e]
 ·rename_i h
  rw [getP_snoc]
  by_cases e:y = k
  ·subst e
   have hn:getP y l = none:=by cases q:getP y l with | none=>rfl | some d=>rw [q] at h; exact absurd rfl h
   rw [hn,if_pos rfl]
  ·rw [if_neg e]
   cases getP y l with
   | some d=>rfl
   | none=>exact if_neg fun h=>e h.symm
theorem put_len {α:Type} {k:Int} {x:α} {l:List (Int × α)}:(putP k x l).length <= l.length + 1:=by unfold putP; split <;> simp
theorem getP_drop {α:Type} {k y:Int}:∀ {l:List (Int × α)},getP y (dropP k l) = if y = k then none else getP y l
 | []=>by simp [dropP,getP]
 | p :: l => by
  have ih:=getP_drop (k:=k) (y:=y) (l:=l)
  by_cases e:p.1 = k
  ·rw [show dropP k (p :: l) = dropP k l from List.filter_cons_of_neg (by simpa using e), ih]
   by_cases e2:y = k
   ·rw [if_pos e2,if_pos e2]
   ·rw [if_neg e2,if_neg e2]; exact (if_neg (by lia)).symm
  ·rw [show dropP k (p :: l) = p :: dropP k l from List.filter_cons_of_pos (by simpa using e)]
   show (if p.1 = y then some p.2 else getP y (dropP k l)) = if y = k then none else (if p.1 = y then some p.2 else getP y l)
   rw [ih]
   by_cases e2:y = k
   ·rw [if_pos e2,if_pos e2]; exact if_neg (by lia)
   ·rw [if_neg e2,if_neg e2]
theorem drop_len {α:Type} {k:Int} {l:List (Int × α)}:(dropP k l).length <= l.length:=List.length_filter_le ..
def names (ps:List Pt):List Int:=ps.flatMap fun p=>p.left.map (·.1)
def size2 (ps:List Pt):Nat:=(ps.map fun p=>2 ^ p.r).sum
def wt (R:Nat) (p:Pt):Nat:=p.left.length * (R - p.r) + p.gs.length * (1 + R)
def wts (R:Nat) (ps:List Pt):Nat:=(ps.map (wt R)).sum
def brT (ps:List Pt):List (Int × D):=ps.map fun p=>((p.r:Int),.rf p.a)
def off (r:Nat) (ps:List Pt):List Pt:=ps.filter fun p=>decide (p.r ≠ r)
theorem off_perm:∀ {ps:List Pt} {p:Pt},p ∈ ps -> (ps.map (·.r)).Nodup -> ps.Perm (p :: off p.r ps)
 | q :: ps, p, h, hn => by
  rw [List.map_cons] at hn
  have hn':=List.nodup_cons.mp hn
  rcases List.mem_cons.mp h with rfl | h
  ·have e : off p.r (p :: ps) = off p.r ps := List.filter_cons_of_neg (by simp)
   have e2:off p.r ps = ps:=List.filter_eq_self.mpr fun q hq=>by
    simp only [decide_eq_true_eq]
    exact fun z=>hn'.1 (z ▸ List.mem_map_of_mem hq)
   rw [e,e2]
  ·have ne : q.r ≠ p.r := fun z => hn'.1 (z ▸ List.mem_map_of_mem h)
   have e:off p.r (q :: ps) = q :: off p.r ps:=List.filter_cons_of_pos (by simpa using ne)
   rw [e]
   exact ((off_perm h hn'.2).cons q).trans (.swap p q _)
theorem size2_perm {ps qs:List Pt} (h:ps.Perm qs):size2 ps = size2 qs:=(h.map _).sum_nat
theorem wts_perm {R:Nat} {ps qs:List Pt} (h:ps.Perm qs):wts R ps = wts R qs:=(h.map _).sum_nat
theorem names_perm {ps qs:List Pt} (h:ps.Perm qs):(names ps).Perm (names qs):=List.Perm.flatMap_right _ h
theorem size2_cons {p:Pt} {ps:List Pt}:size2 (p :: ps) = 2 ^ p.r + size2 ps:=by simp [size2]
theorem wts_cons {R:Nat} {p:Pt} {ps:List Pt}:wts R (p :: ps) = wt R p + wts R ps:=by simp [wts]
theorem names_cons {p:Pt} {ps:List Pt}:names (p :: ps) = p.left.map (·.1) ++ names ps:=rfl
theorem size2_mem:∀ {ps:List Pt} {p:Pt},p ∈ ps -> 2 ^ p.r <= size2 ps
 | q :: ps,p,h=>by
  rw [size2_cons]
  rcases List.mem_cons.mp h with rfl | h
  ·exact Nat.le_add_right ..
  ·exact Nat.le_trans (size2_mem h) (Nat.le_add_left ..)
theorem size2_len:∀ {ps:List Pt},ps.length <= size2 ps
 | []=>by simp
 | p :: ps=>by
  have:=size2_len (ps:=ps)
  have:=Nat.one_le_two_pow (n:=p.r)
  rw [size2_cons,List.length_cons]; lia
theorem brT_get:∀ {ps:List Pt} {i:Nat},(∃ p ∈ ps,p.r = i /\ getP (i:Int) (brT ps) = some (.rf p.a)) \/ (getP (i:Int) (brT ps) = none /\ ∀ p ∈ ps,p.r ≠ i)
 | [],i=>.inr ⟨rfl,by simp⟩
 | q :: ps, i => by
  by_cases e:q.r = i
  ·refine .inl ⟨q, List.mem_cons_self, e, ?_⟩
   show (if (q.r:Int) = i then some (D.rf q.a) else _) = _
   rw [if_pos (by lia)]
  ·have e2 : getP (i : Int) (brT (q :: ps)) = getP (i : Int) (brT ps) := by
    show (if (q.r:Int) = i then some (D.rf q.a) else getP (i:Int) (brT ps)) = _
    rw [if_neg (by lia)]
   rw [e2]
   rcases brT_get (ps:=ps) (i:=i) with ⟨p,hp,h1,h2⟩ | ⟨h1,h2⟩
   ·exact .inl ⟨p,List.mem_cons_of_mem _ hp,h1,h2⟩
   ·refine .inr ⟨h1, fun p hp => ?_⟩
    rcases List.mem_cons.mp hp with rfl | hp
    ·exact e
    ·exact h2 p hp
theorem brT_at {ps:List Pt} {p:Pt} (hn:(ps.map (·.r)).Nodup) (h:p ∈ ps):getP (p.r:Int) (brT ps) = some (.rf p.a):=by
 rcases brT_get (ps:=ps) (i:=p.r) with ⟨q,hq,h1,h2⟩ | ⟨_,h2⟩
 ·have e : q = p := by
   have hp:=(off_perm h hn)
   rcases List.mem_cons.mp (hp.mem_iff.mp hq) with e | e
   ·exact e
   ·have := (List.mem_filter.mp e).2
    simp [h1] at this
  rw [h2,e]
 ·exact absurd rfl (h2 p h)
theorem brT_off {ps:List Pt} {r:Nat}:dropP (r:Int) (brT ps) = brT (off r ps):=by
 unfold dropP brT off
 rw [List.filter_map]
 congr 1
 refine List.filter_congr fun p _=>?_
 show decide ((p.r:Int) ≠ r) = decide (p.r ≠ r)
 exact decide_eq_decide.mpr ⟨fun h z=>h (by rw [z]),fun h z=>h (by lia)⟩
theorem brT_put {ps:List Pt} {p:Pt} (h:∀ q ∈ ps,q.r ≠ p.r):putP (p.r:Int) (.rf p.a) (brT ps) = brT (ps ++ [p]):=by
 have e:getP (p.r:Int) (brT ps) = none:=by
  rcases brT_get (ps:=ps) (i:=p.r) with ⟨q,hq,h1,_⟩ | ⟨h1,_⟩
  ·exact absurd h1 (h q hq)
  ·exact h1
 unfold putP
 rw [e]
 show brT ps ++ [_] = _
 unfold brT
 rw [List.map_append]; rfl
structure Tran (ps:List Pt) (T:List Thing) (rd:List (Int × D)):Prop where
 rn:(ps.map (·.r)).Nodup
 gu:∀ p ∈ ps,GoodU 1 p.ts /\ p.ts.length <= 2 ^ p.r
 gl:∀ p ∈ ps,p.gs.length + p.left.length = p.ts.length
 al:(T.map (·.1) ++ names ps).Nodup
 dT:∀ t ∈ T,t.2.1.length = 1
 rk:∀ p ∈ ps,∀ t ∈ p.left,getP t.1 rd = some (.int (p.r:Int))
 kr:∀ x,(getP x rd).isSome = true -> x ∈ T.map (·.1) ++ names ps
theorem mem_off {ps:List Pt} {r:Nat} {p:Pt} (h:p ∈ off r ps):p ∈ ps /\ p.r ≠ r:=by
 have:=List.mem_filter.mp h
 exact ⟨this.1,by simpa using this.2⟩
theorem left_mem {p:Pt} {t:Thing} (h:t ∈ p.left):t ∈ p.ts:=(List.mem_filter.mp h).1
theorem names_pop {ps:List Pt} {p:Pt} (hp:p ∈ ps) (hn:(ps.map (·.r)).Nodup) (T:List Thing):(T.map (·.1) ++ names ps).Perm ((p.left ++ T).map (·.1) ++ names (off p.r ps)):=by
 rw [List.map_append]
 refine ((names_perm (off_perm hp hn)).append_left _).trans ?_
 rw [names_cons,<- List.append_assoc]
 exact (List.perm_append_comm).append_right _
theorem Tran.pop {ps:List Pt} {T:List Thing} {rk:List (Int × D)} (h:Tran ps T rk) {p:Pt} (hp:p ∈ ps):Tran (off p.r ps) (p.left ++ T) rk:=by
 have np:=names_pop hp h.rn T
 refine ⟨?_,fun q hq=>h.gu q (mem_off hq).1,fun q hq=>h.gl q (mem_off hq).1,np.nodup_iff.mp h.al,fun t ht=>?_,fun q hq=>h.rk q (mem_off hq).1,fun x hx=>np.mem_iff.mp (h.kr x hx)⟩
 ·exact ((List.filter_sublist ..).map _).nodup h.rn
 ·rcases List.mem_append.mp ht with ht | ht
  ·exact (h.gu p hp).1.each t (left_mem ht)
  ·exact h.dT t ht
def kF (br ro:Addr) (m:Nat):List (Str × D):=[("d",.int 1),("by_rank",.rf br),("rank_of",.rf ro),("so_many_made",.int (m:Int))]
def adrs (k br ro:Addr) (ps:List Pt):List Addr:=k :: br :: ro :: ps.flatMap fun p=>[p.a,p.g]
structure KAt (CP CK:Addr) (n:Nat) (k br ro:Addr) (m:Nat) (ps:List Pt) (rk:List (Int × D)):Prop where
 i:cellAt n k = some (.ins CK (kF br ro m))
 b:cellAt n br = some (.dic (brT ps))
 o:cellAt n ro = some (.dic rk)
 p:∀ q ∈ ps,PartAt CP n q
 nd:(adrs k br ro ps).Nodup
theorem PartAt.only {CP:Addr} {n n':Nat} {l:List Addr} {p:Pt} (h:PartAt CP n p) (o:OnlyC n n' l) (ha:p.a ∉ l) (hg:p.g ∉ l):PartAt CP n' p:=by
 obtain ⟨⟨x,y,e⟩,e2⟩:=h
 exact ⟨⟨x,y,(o.o _ ha).trans e⟩,(o.o _ hg).trans e2⟩
theorem adr_mem {k br ro:Addr} {ps:List Pt} {p:Pt} (h:p ∈ ps):p.a ∈ ps.flatMap (fun p=>[p.a,p.g]) /\ p.g ∈ ps.flatMap fun p=>[p.a,p.g] :=
 ⟨List.mem_flatMap.mpr ⟨p,h,by simp⟩,List.mem_flatMap.mpr ⟨p,h,by simp⟩⟩
theorem flat_sub {ps qs:List Pt} (h:qs.Sublist ps):(qs.flatMap fun p=>[p.a,p.g]).Sublist (ps.flatMap fun p=>[p.a,p.g]):=by
 induction h with
 | slnil=>exact List.Sublist.refl _
 | cons p _ ih=>rw [List.flatMap_cons]; exact ih.trans (List.sublist_append_right ..)
 | cons_cons p _ ih=>rw [List.flatMap_cons,List.flatMap_cons]; exact (List.Sublist.refl _).append ih
section
variable {CP CK:Addr} {n n':Nat} {k br ro:Addr} {m:Nat} {ps:List Pt} {rk:List (Int × D)}
theorem KAt.apart (h:KAt CP CK n k br ro m ps rk):k ≠ br /\ k ≠ ro /\ br ≠ ro /\ ∀ p ∈ ps,p.a ≠ k /\ p.a ≠ br /\ p.a ≠ ro /\ p.g ≠ k /\ p.g ≠ br /\ p.g ≠ ro:=by
 have nd:=h.nd
 unfold adrs at nd
 obtain ⟨n1,nd⟩:=List.nodup_cons.mp nd
 obtain ⟨n2,nd⟩:=List.nodup_cons.mp nd
 obtain ⟨n3,nd⟩:=List.nodup_cons.mp nd
 simp only [List.mem_cons,not_or] at n1 n2
 refine ⟨n1.1,n1.2.1,n2.1,fun p hp=>?_⟩
 obtain ⟨z1,z2⟩:=adr_mem (k:=k) (br:=br) (ro:=ro) hp
 exact ⟨fun e=>n1.2.2 (e ▸ z1),fun e=>n2.2 (e ▸ z1),fun e=>n3 (e ▸ z1),fun e=>n1.2.2 (e ▸ z2),fun e=>n2.2 (e ▸ z2),fun e=>n3 (e ▸ z2)⟩
theorem pl_brT:plC (.dic (brT ps)) = true:=plDs_iff.mpr fun d hd=>by
 unfold brT at hd
 rw [List.map_map] at hd
 obtain ⟨p,_,rfl⟩:=List.mem_map.mp hd
 rfl
theorem KAt.pop (h:KAt CP CK n k br ro m ps rk) (r:Nat):KAt CP CK (setC n br (.dic (dropP (r:Int) (brT ps)))) k br ro m (off r ps) rk:=by
 obtain ⟨a1,a2,a3,a4⟩:=h.apart
 rw [brT_off]
 have pl:=pl_brT (ps:=off r ps)
 have o:=OnlyC.set (n:=n) (a:=br) pl
 refine ⟨(o.o _ (by simpa using a1)).trans h.i,cell_self pl,(o.o _ (by simpa using Ne.symm a3)).trans h.o,fun q hq=>?_,?_⟩
 ·obtain ⟨b1, b2, b3, b4, b5, b6⟩ := a4 q (mem_off hq).1
  exact (h.p q (mem_off hq).1).only o (by simpa using b2) (by simpa using b5)
 ·refine List.Sublist.nodup ?_ h.nd
  exact (((flat_sub (List.filter_sublist ..)).cons₂ _).cons₂ _).cons₂ _
theorem KAt.kOfPop (r:Nat):kOf (setC n br (.dic (dropP (r:Int) (brT ps)))) = kOf n:=by rw [brT_off]; exact kOf_set pl_brT
theorem KAt.part (h:KAt CP CK n k br ro m ps rk) {p:Pt} {q:Pt} (hq:PartAt CP n q) (r:Nat) (hb:q.a ≠ br /\ q.g ≠ br):PartAt CP (setC n br (.dic (dropP (r:Int) (brT ps)))) q:=by
 rw [brT_off]
 exact hq.only (OnlyC.set pl_brT) (by simpa using hb.1) (by simpa using hb.2)
theorem KAt.put (h:KAt CP CK n k br ro m ps rk) {p:Pt} (o:OnlyC n n' [p.a,p.g]) (ha:cellAt n p.a = none) (hg:cellAt n p.g = none) (hag:p.g ≠ p.a) (hp:PartAt CP n' p) (hr:∀ q ∈ ps,q.r ≠ p.r):cellAt n' br = some (.dic (brT ps)) /\ KAt CP CK (setC n' br (.dic (putP (p.r:Int) (.rf p.a) (brT ps)))) k br ro m (ps ++ [p]) rk:=by
 obtain ⟨a1,a2,a3,a4⟩:=h.apart
 have nk:∀ x c,cellAt n x = some c -> x ∉ [p.a,p.g]:=by
  intro x c e hx
  rcases List.mem_cons.mp hx with hx | hx
  ·rw [hx,ha] at e; cases e
  ·rw [List.mem_singleton.mp hx,hg] at e; cases e
 have kk:=nk k _ h.i
 have kb:=nk br _ h.b
 have ko:=nk ro _ h.o
 have hb:cellAt n' br = some (.dic (brT ps)):=(o.o _ kb).trans h.b
 refine ⟨hb,?_⟩
 rw [brT_put hr]
 have pl:=pl_brT (ps:=ps ++ [p])
 have o2:=OnlyC.set (n:=n') (a:=br) pl
 simp only [List.mem_cons,List.not_mem_nil,or_false,not_or] at kk kb ko
 have np:∀ q ∈ ps,q.a ∉ [p.a,p.g] /\ q.g ∉ [p.a,p.g]:=fun q hq=>by
  obtain ⟨⟨x,y,e⟩,e2⟩:=h.p q hq
  exact ⟨nk _ _ e,nk _ _ e2⟩
 refine ⟨(o2.o _ (by simpa using a1)).trans ((o.o _ (by simpa using kk)).trans h.i),cell_self pl,(o2.o _ (by simpa using Ne.symm a3)).trans ((o.o _ (by simpa using ko)).trans h.o),fun q hq=>?_,?_⟩
 ·rcases List.mem_append.mp hq with hq | hq
  ·obtain ⟨b1, b2, b3, b4, b5, b6⟩ := a4 q hq
   exact ((h.p q hq).only o (np q hq).1 (np q hq).2).only o2 (by simpa using b2) (by simpa using b5)
  ·rw [List.mem_singleton.mp hq]
   exact hp.only o2 (by simpa using Ne.symm kb.1) (by simpa using Ne.symm kb.2)
 ·have e : adrs k br ro (ps ++ [p]) = adrs k br ro ps ++ [p.a, p.g] := by simp [adrs]
  rw [e,List.nodup_append]
  refine ⟨h.nd,by simpa using Ne.symm hag,fun x hx y hy z=>?_⟩
  subst z
  unfold adrs at hx
  rcases List.mem_cons.mp hx with rfl | hx
  ·exact absurd hy (by simpa using kk)
  ·rcases List.mem_cons.mp hx with rfl | hx
   ·exact absurd hy (by simpa using kb)
   ·rcases List.mem_cons.mp hx with rfl | hx
    ·exact absurd hy (by simpa using ko)
    ·obtain ⟨q, hq, hx⟩ := List.mem_flatMap.mp hx
     rcases List.mem_cons.mp hx with rfl | hx
     ·exact absurd hy (np q hq).1
     ·rw [List.mem_singleton.mp hx] at hy; exact absurd hy (np q hq).2
theorem pl_kF {m:Nat}:plC (.ins CK (kF br ro m)) = true:=pl_ins (by simp [kF,plD])
theorem KAt.made (h:KAt CP CK n k br ro m ps rk) (m':Nat):KAt CP CK (setC n k (.ins CK (kF br ro m'))) k br ro m' ps rk:=by
 obtain ⟨a1,a2,a3,a4⟩:=h.apart
 have o:=OnlyC.set (n:=n) (a:=k) (pl_kF (CK:=CK) (br:=br) (ro:=ro) (m:=m'))
 refine ⟨cell_self pl_kF,(o.o _ (by simpa using Ne.symm a1)).trans h.b,(o.o _ (by simpa using Ne.symm a2)).trans h.o,fun q hq=>?_,h.nd⟩
 obtain ⟨b1,b2,b3,b4,b5,b6⟩:=a4 q hq
 exact (h.p q hq).only o (by simpa using b1) (by simpa using b4)
theorem KAt.rank (h:KAt CP CK n k br ro m ps rk) {rk':List (Int × D)} (pl:plC (.dic rk') = true):KAt CP CK (setC n ro (.dic rk')) k br ro m ps rk':=by
 obtain ⟨a1,a2,a3,a4⟩:=h.apart
 have o:=OnlyC.set (n:=n) (a:=ro) pl
 refine ⟨(o.o _ (by simpa using a2)).trans h.i,(o.o _ (by simpa using a3)).trans h.b,cell_self pl,fun q hq=>?_,h.nd⟩
 obtain ⟨b1,b2,b3,b4,b5,b6⟩:=a4 q hq
 exact (h.p q hq).only o (by simpa using b3) (by simpa using b6)
def regs (r:Nat) (gs:List (Int × D)) (ps:List Pt):List Pt:=ps.map fun q=>if q.r = r then { q with gs:=gs } else q
theorem regs_br {r:Nat} {gs:List (Int × D)}:brT (regs r gs ps) = brT ps:=by
 unfold brT regs
 rw [List.map_map]
 refine List.map_congr_left fun p _=>?_
 show (((if p.r = r then { p with gs:=gs } else p).r:Int),D.rf (if p.r = r then { p with gs:=gs } else p).a) = _
 split <;> rfl
theorem regs_adrs {r:Nat} {gs:List (Int × D)}:adrs k br ro (regs r gs ps) = adrs k br ro ps:=by
 unfold adrs regs
 rw [List.flatMap_map]
 congr 3
 refine congrArg (fun f=>List.flatMap f ps) (funext fun p=>?_)
 split <;> rfl
theorem KAt.gone (h:KAt CP CK n k br ro m ps rk) (hn:(ps.map (·.r)).Nodup) {p:Pt} (hp:p ∈ ps) {gs:List (Int × D)} (pl:plC (.dic gs) = true):KAt CP CK (setC n p.g (.dic gs)) k br ro m (regs p.r gs ps) rk:=by
 obtain ⟨a1,a2,a3,a4⟩:=h.apart
 have o:=OnlyC.set (n:=n) (a:=p.g) pl
 obtain ⟨b1,b2,b3,b4,b5,b6⟩:=a4 p hp
 refine ⟨(o.o _ (by simpa using Ne.symm b4)).trans h.i,?_,(o.o _ (by simpa using Ne.symm b6)).trans h.o,fun q hq=>?_,by rw [regs_adrs]; exact h.nd⟩
 ·rw [regs_br]; exact (o.o _ (by simpa using Ne.symm b5)).trans h.b
 ·obtain ⟨q0, hq0, rfl⟩ := List.mem_map.mp hq
  have nd:([p.a,p.g] ++ (off p.r ps).flatMap fun p=>[p.a,p.g]).Nodup:=by
   have:=(List.Perm.flatMap_right (fun p:Pt=>[p.a,p.g]) (off_perm hp hn)).nodup_iff.mp (List.nodup_cons.mp (List.nodup_cons.mp (List.nodup_cons.mp h.nd).2).2).2
   rwa [List.flatMap_cons] at this
  rw [List.nodup_append] at nd
  split
  ·rename_i e
   have e2:q0 = p:=by
    rcases List.mem_cons.mp ((off_perm hp hn).mem_iff.mp hq0) with e | e2
    ·exact e
    ·exact absurd e (mem_off e2).2
   subst e2
   obtain ⟨⟨x,y,e3⟩,_⟩:=h.p q0 hp
   have ne:q0.a ≠ q0.g:=fun z=>(List.nodup_cons.mp nd.1).1 (by simp [z])
   exact ⟨⟨x,y,(o.o _ (by simpa using ne)).trans e3⟩,cell_self pl⟩
  ·rename_i e
   have m:q0 ∈ off p.r ps:=List.mem_filter.mpr ⟨hq0,by simpa using e⟩
   obtain ⟨z1,z2⟩:=adr_mem (k:=k) (br:=br) (ro:=ro) m
   exact (h.p q0 hq0).only o (by simpa using fun z=>nd.2.2 p.g (by simp) _ z1 z.symm) (by simpa using fun z=>nd.2.2 p.g (by simp) _ z2 z.symm)
end
end K55
set_option maxRecDepth 100000
set_option maxHeartbeats 1000000
namespace K55
open PySem L2 PySem.Spec PyProof.Rows
@[simp] theorem nk1:(("d" : Str) = "by_rank") = False:=eq_false (by decide +kernel)
@[simp] theorem nk2:(("d" : Str) = "rank_of") = False:=eq_false (by decide +kernel)
@[simp] theorem nk3:(("d" : Str) = "so_many_made") = False:=eq_false (by decide +kernel)
@[simp] theorem nk4:(("by_rank" : Str) = "rank_of") = False:=eq_false (by decide +kernel)
@[simp] theorem nk5:(("by_rank" : Str) = "so_many_made") = False:=eq_false (by decide +kernel)
@[simp] theorem nk6:(("rank_of" : Str) = "so_many_made") = False:=eq_false (by decide +kernel)
theorem kF_d {br ro m}:getF "d" (kF br ro m) = some (.int 1):=by simp [kF,getF]
theorem kF_br {br ro m}:getF "by_rank" (kF br ro m) = some (.rf br):=by simp [kF,getF]
theorem kF_ro {br ro m}:getF "rank_of" (kF br ro m) = some (.rf ro):=by simp [kF,getF]
theorem kF_m {br ro m}:getF "so_many_made" (kF br ro m) = some (.int (m:Int)):=by simp [kF,getF]
theorem kF_put {br ro m m'}:putA "so_many_made" (.int ((m':Nat):Int)) (kF br ro m) = kF br ro m':=by simp [kF,putA]
theorem kF_none {f:Str} (h:f ≠ "d" /\ f ≠ "by_rank" /\ f ≠ "rank_of" /\ f ≠ "so_many_made" := by decide +kernel) {br ro m}:getF f (kF br ro m) = none:=by
 simp [kF,getF,Ne.symm h.1,Ne.symm h.2.1,Ne.symm h.2.2.1,Ne.symm h.2.2.2]
def rkPut (f:Nat) (T:List Thing) (rk:List (Int × D)):List (Int × D):=T.foldl (fun r t=>putP t.1 (.int (f:Int)) r) rk
theorem rkPut_get {f:Nat} {y:Int}:∀ {T:List Thing} {rk:List (Int × D)},getP y (rkPut f T rk) = if y ∈ T.map (·.1) then some (.int (f:Int)) else getP y rk
 | [],rk=>by simp [rkPut]
 | t :: T, rk => by
  show getP y (rkPut f T (putP t.1 (.int (f:Int)) rk)) = _
  rw [rkPut_get,getP_put]
  by_cases h:y ∈ T.map (·.1)
  ·rw [if_pos h,if_pos (by rw [List.map_cons]; exact List.mem_cons_of_mem _ h)]
  ·rw [if_neg h]
   by_cases e:y = t.1
   ·rw [if_pos e,if_pos (by rw [List.map_cons,e]; exact List.mem_cons_self)]
   ·rw [if_neg e,if_neg (by rw [List.map_cons,List.mem_cons,not_or]; exact ⟨e,h⟩)]
theorem rkPut_len {f:Nat}:∀ {T:List Thing} {rk:List (Int × D)},(rkPut f T rk).length <= rk.length + T.length
 | [],rk=>by simp [rkPut]
 | t :: T,rk=>by
  have h:=rkPut_len (f:=f) (T:=T) (rk:=putP t.1 (.int (f:Int)) rk)
  have:=put_len (k:=t.1) (x:=D.int (f:Int)) (l:=rk)
  show (rkPut f T (putP t.1 (.int (f:Int)) rk)).length <= _
  rw [List.length_cons]; lia
theorem new_left {p:Pt} (hg:p.gs = []):p.left = p.ts:=by
 unfold Pt.left
 rw [hg]
 exact List.filter_eq_self.mpr fun t _=>rfl
theorem names_snoc {ps:List Pt} {p:Pt}:names (ps ++ [p]) = names ps ++ p.left.map (·.1):=by unfold names; rw [List.flatMap_append]; simp
theorem Tran.put {ps:List Pt} {T:List Thing} {rk:List (Int × D)} (h:Tran ps T rk) {p:Pt} (hr:∀ q ∈ ps,q.r ≠ p.r) (ht:p.ts = T) (hg:p.gs = []) (hz:T.length <= 2 ^ p.r):Tran (ps ++ [p]) [] (rkPut p.r T rk):=by
 have hl:p.left = T:=(new_left hg).trans ht
 have nm:names (ps ++ [p]) = names ps ++ T.map (·.1):=by rw [names_snoc,hl]
 have al:=h.al
 rw [List.nodup_append] at al
 refine ⟨?_,fun q hq=>?_,fun q hq=>?_,?_,fun t ht=>by simp at ht,fun q hq t htq=>?_,fun x hx=>?_⟩
 ·rw [List.map_append, List.nodup_append]
  refine ⟨h.rn,by simp,fun x hx y hy z=>?_⟩
  obtain ⟨q,hq,rfl⟩:=List.mem_map.mp hx
  simp at hy
  exact hr q hq (z.trans hy)
 ·rcases List.mem_append.mp hq with hq | hq
  ·exact h.gu q hq
  ·rw [List.mem_singleton.mp hq, ht]
   exact ⟨⟨h.dT,al.1⟩,hz⟩
 ·rcases List.mem_append.mp hq with hq | hq
  ·exact h.gl q hq
  ·rw [List.mem_singleton.mp hq,hl,ht,hg]; simp
 ·rw [List.map_nil, List.nil_append, nm, List.nodup_append]
  exact ⟨al.2.1,al.1,fun x hx y hy z=>al.2.2 y hy x hx z.symm⟩
 ·rw [rkPut_get]
  rcases List.mem_append.mp hq with hq | hq
  ·rw [if_neg fun z => al.2.2 _ z _ (List.mem_flatMap.mpr ⟨q, hq, List.mem_map_of_mem htq⟩) rfl]
   exact h.rk q hq t htq
  ·rw [List.mem_singleton.mp hq] at htq ⊢
   rw [hl] at htq
   rw [if_pos (List.mem_map_of_mem htq)]
 ·rw [rkPut_get] at hx
  rw [List.map_nil,List.nil_append,nm]
  by_cases e:x ∈ T.map (·.1)
  ·exact List.mem_append_right _ e
  ·rw [if_neg e] at hx
   rcases List.mem_append.mp (h.kr x hx) with z | z
   ·exact absurd z e
   ·exact List.mem_append_left _ z
theorem Tran.perm {ps qs:List Pt} {T:List Thing} {rk:List (Int × D)} (h:Tran ps T rk) (pm:ps.Perm qs):Tran qs T rk :=
 ⟨(pm.map _).nodup_iff.mp h.rn,fun p hp=>h.gu p (pm.mem_iff.mpr hp),fun p hp=>h.gl p (pm.mem_iff.mpr hp),((names_perm pm).append_left _).nodup_iff.mp h.al,h.dT,fun p hp=>h.rk p (pm.mem_iff.mpr hp),fun x hx=>((names_perm pm).append_left _).mem_iff.mp (h.kr x hx)⟩
theorem regs_perm {ps:List Pt} {p:Pt} {gs:List (Int × D)} (hp:p ∈ ps) (hn:(ps.map (·.r)).Nodup):(regs p.r gs ps).Perm ({ p with gs:=gs } :: off p.r ps):=by
 have h:=(off_perm hp hn).map (fun q:Pt=>if q.r = p.r then { q with gs:=gs } else q)
 rw [List.map_cons,if_pos rfl] at h
 have e:(off p.r ps).map (fun q:Pt=>if q.r = p.r then { q with gs:=gs } else q) = off p.r ps:=by
  refine (List.map_congr_left fun q hq=>if_neg (mem_off hq).2).trans ?_
  exact List.map_id _
 rw [e] at h
 exact h
theorem less_one:∀ {l:List Thing} {t:Thing},t ∈ l -> (l.map (·.1)).Nodup -> (l.filter fun u=>decide (u.1 ≠ t.1)).length + 1 = l.length
 | u :: l, t, h, hn => by
  rw [List.map_cons] at hn
  have hn':=List.nodup_cons.mp hn
  rcases List.mem_cons.mp h with rfl | h
  ·rw [List.filter_cons_of_neg (by simp), List.filter_eq_self.mpr fun v hv => by
    simp only [decide_eq_true_eq]
    exact fun z=>hn'.1 (z ▸ List.mem_map_of_mem hv)]
   rfl
  ·have ne : u.1 ≠ t.1 := fun z => hn'.1 (z ▸ List.mem_map_of_mem h)
   rw [List.filter_cons_of_pos (by simpa using ne),List.length_cons,less_one h hn'.2,List.length_cons]
theorem mem_names {ps:List Pt} {x:Int} (h:x ∈ names ps):∃ p ∈ ps,∃ t ∈ p.left,t.1 = x:=by
 obtain ⟨p,hp,h⟩:=List.mem_flatMap.mp h
 obtain ⟨t,ht,e⟩:=List.mem_map.mp h
 exact ⟨p,hp,t,ht,e⟩
theorem go_left {p:Pt} {t:Thing} (ht:t ∈ p.left):getP t.1 p.gs = none /\ putP t.1 (D.bl true) p.gs = p.gs ++ [(t.1,D.bl true)] /\ ({ p with gs:=putP t.1 (D.bl true) p.gs }:Pt).left = p.left.filter fun u=>decide (u.1 ≠ t.1):=by
 have h:=(List.mem_filter.mp ht).2
 unfold outT at h
 have e:getP t.1 p.gs = none:=by cases q:getP t.1 p.gs with | none=>rfl | some d=>rw [q] at h; cases h
 refine ⟨e,by unfold putP; rw [e]; rfl,?_⟩
 show p.ts.filter (outT (putP t.1 (D.bl true) p.gs)) = (p.ts.filter (outT p.gs)).filter _
 rw [List.filter_filter]
 refine List.filter_congr fun u _=>?_
 unfold outT
 rw [getP_put]
 by_cases c:u.1 = t.1
 ·rw [if_pos c]; simp [c]
 ·rw [if_neg c]; simp [c]
theorem Tran.go {ps:List Pt} {rk:List (Int × D)} (h:Tran ps [] rk) {p:Pt} {t:Thing} (hp:p ∈ ps) (ht:t ∈ p.left) :
  Tran (regs p.r (putP t.1 (D.bl true) p.gs) ps) [] (dropP t.1 rk) /\ (∀ y,y ∈ names (regs p.r (putP t.1 (D.bl true) p.gs) ps) ↔ y ∈ names ps /\ y ≠ t.1) /\ size2 (regs p.r (putP t.1 (D.bl true) p.gs) ps) = size2 ps /\
  ∀ R,wts R (regs p.r (putP t.1 (D.bl true) p.gs) ps) <= wts R ps + (1 + R):=by
 have pm:=off_perm hp h.rn
 have pr:=regs_perm (gs:=putP t.1 (D.bl true) p.gs) hp h.rn
 obtain ⟨g1,g2,g3⟩:=go_left ht
 have al:=h.al
 rw [List.map_nil,List.nil_append] at al
 have al2:=(names_perm pm).nodup_iff.mp al
 rw [names_cons,List.nodup_append] at al2
 have ll:=less_one ht al2.1
 have nm:∀ y,y ∈ names ({ p with gs:=putP t.1 (D.bl true) p.gs } :: off p.r ps) ↔ y ∈ names ps /\ y ≠ t.1:=fun y=>by
  rw [(names_perm pm).mem_iff,names_cons,names_cons,g3,List.mem_append,List.mem_append]
  constructor
  ·rintro (z | z)
   ·obtain ⟨u, hu, rfl⟩ := List.mem_map.mp z
    have:=List.mem_filter.mp hu
    exact ⟨.inl (List.mem_map_of_mem this.1),by simpa using this.2⟩
   ·exact ⟨.inr z,fun e=>al2.2.2 _ (List.mem_map_of_mem ht) _ z e.symm⟩
  ·rintro ⟨z | z, ne⟩
   ·obtain ⟨u, hu, rfl⟩ := List.mem_map.mp z
    exact .inl (List.mem_map_of_mem (List.mem_filter.mpr ⟨hu,by simpa using ne⟩))
   ·exact .inr z
 refine ⟨Tran.perm ?_ pr.symm,fun y=>(names_perm pr).mem_iff.trans (nm y),?_,fun R=>?_⟩
 ·have h2 := h.perm pm
  refine ⟨h2.rn,fun q hq=>?_,fun q hq=>?_,?_,fun t ht=>by simp at ht,fun q hq u hu=>?_,fun x hx=>?_⟩
  ·rcases List.mem_cons.mp hq with rfl | hq
   ·exact h.gu p hp
   ·exact h2.gu q (List.mem_cons_of_mem _ hq)
  ·rcases List.mem_cons.mp hq with rfl | hq
   ·have := h.gl p hp
    rw [g3]
    show (putP t.1 (D.bl true) p.gs).length + _ = p.ts.length
    rw [g2,List.length_append]
    simp only [List.length_cons,List.length_nil]
    lia
   ·exact h2.gl q (List.mem_cons_of_mem _ hq)
  ·rw [List.map_nil, List.nil_append, names_cons, g3, List.nodup_append]
   exact ⟨((List.filter_sublist ..).map _).nodup al2.1,al2.2.1,fun a ha b hb=>al2.2.2 a (((List.filter_sublist ..).map _).mem ha) b hb⟩
  ·have hy : u.1 ∈ names ({ p with gs := putP t.1 (D.bl true) p.gs } :: off p.r ps) := List.mem_flatMap.mpr ⟨q, hq, List.mem_map_of_mem hu⟩
   rw [getP_drop,if_neg ((nm _).mp hy).2]
   rcases List.mem_cons.mp hq with rfl | hq
   ·rw [g3] at hu
    exact h.rk p hp u (List.mem_filter.mp hu).1
   ·exact h.rk q (mem_off hq).1 u hu
  ·rw [getP_drop] at hx
   by_cases e:x = t.1
   ·rw [if_pos e] at hx; cases hx
   ·rw [if_neg e] at hx
    rw [List.map_nil,List.nil_append]
    exact (nm x).mpr ⟨h.kr x hx,e⟩
 ·rw [size2_perm pr,size2_perm pm,size2_cons,size2_cons]
 ·rw [wts_perm pr, wts_perm pm, wts_cons, wts_cons]
  have e:wt R { p with gs:=putP t.1 (D.bl true) p.gs } = (p.left.filter fun u=>decide (u.1 ≠ t.1)).length * (R - p.r) + (p.gs.length + 1) * (1 + R):=by
   unfold wt
   rw [g3]
   show _ + (putP t.1 (D.bl true) p.gs).length * (1 + R) = _
   rw [g2,List.length_append]; rfl
  have e2:(p.left.filter fun u=>decide (u.1 ≠ t.1)).length * (R - p.r) <= p.left.length * (R - p.r):=Nat.mul_le_mul_right _ (by lia)
  have e3:(p.gs.length + 1) * (1 + R) = p.gs.length * (1 + R) + (1 + R):=Nat.succ_mul ..
  rw [e,e3]
  unfold wt
  lia
structure JPut (CP CK k br ro:Addr) (m n:Nat) (rk:List (Int × D)) (ps0:List Pt) (T0:List Thing) (s:Nat) (mm:Nat) (rho:Rho) (n':Nat):Prop where
 hk:kOf n' = kOf n
 he:∃ (i:Nat) (T:List Thing) (ps:List Pt),mm = ps.length /\ rho = [some (.rf k),some (.int (i:Int)),some (.lst (T.map encThing)),none] /\ KAt CP CK n' k br ro m ps rk /\ Tran ps T rk /\ 1 <= T.length /\ T.length <= 2 ^ i /\ size2 ps + 2 ^ i = size2 ps0 + 2 ^ s /\
  (∀ R,size2 ps0 + 2 ^ s < 2 ^ (R + 1) -> m + wts R ps + T.length * (1 + R - i) <= m + wts R ps0 + T0.length * (1 + R - s)) /\ ∀ x,x ∈ T.map (·.1) ++ names ps ↔ x ∈ T0.map (·.1) ++ names ps0
structure JRk (CP CK k br ro:Addr) (m n f:Nat) (rk:List (Int × D)) (ps:List Pt) (T:List Thing) (i:Nat) (rho:Rho) (n':Nat):Prop where
 hk:kOf n' = kOf n
 he:∃ z:Option D,rho = [some (.rf k),some (.int (f:Int)),some (.lst (T.map encThing)),z]
 ha:KAt CP CK n' k br ro m ps (rkPut f (T.take i) rk)
theorem rank_le {a b R:Nat} (h:b + 2 ^ a < 2 ^ (R + 1)):a <= R:=by
 have:2 ^ a < 2 ^ (R + 1):=by lia
 have:=(Nat.pow_lt_pow_iff_right (by decide:1 < 2)).mp this
 lia
section
variable {P:Program} {w:World} {K:PySem.W.Frag} {mg:Str -> Option Value} {base:Heap} {CP CK:Addr}
abbrev s_Kept_init:Stmt:=inClass (top 22) 0
abbrev N_Kept_init:List Str:=["self", "d"]
theorem sc_Kept_init:FnScope N_Kept_init ["self", "d"] (defScope s_Kept_init):=⟨rfl,rfl,rfl,by decide +kernel,rfl,by decide +kernel,by decide +kernel⟩
def t_kinit (CK:Addr):TF:=fun ds n Q=>∃ (k:Addr),ds = [.rf k,.int 1] /\ cellAt n k = some (.ins CK []) /\ ∀ n' br ro,(∀ CP,KAt CP CK n' k br ro 0 [] []) -> kOf n' = kOf n -> Q .non n'
theorem ok_kinit {f:Addr} {fd:FuncData} (CL_Kept:Cls K CK) (NA_d:NoAttr K CK "d") (NA_by_rank:NoAttr K CK "by_rank") (NA_rank_of:NoAttr K CK "rank_of") (NA_so_many_made:NoAttr K CK "so_many_made") (F:Fun K "__init__" "Kept.__init__" s_Kept_init f fd):FnOk P w K mg base CX0 1 f fd ["self", "d"] (spD K 2 (t_kinit CK)):=by
 refine Fun.okD F sc_Kept_init (fun cdv A0 outer s H E G Z _ hr=>(pssd_cons (psd_fldC CL_Kept NA_d (pd_var 0) (pd_var 1))
  (pssd_cons (psd_fldC CL_Kept NA_by_rank (pd_var 0) pd_newC)
  (pssd_cons (psd_fldC CL_Kept NA_rank_of (pd_var 0) pd_newC)
  (pssd_one (psd_fldC CL_Kept NA_so_many_made (pd_var 0) pd_int)))))) ?_
 rintro ds n Q hl ⟨k,rfl,hc,q⟩
 simp [startD]
 refine insAt_mk hc ⟨rfl,by simp,?_⟩
 simp [putA]
 have p1:plC (.ins CK [("d",.int 1)]) = true:=rfl
 have o1:=OnlyC.set (n:=n) (a:=k) p1
 have c1:=cell_self (n:=n) (a:=k) p1
 have k1:=o1.k
 generalize setC n k _ = n1 at o1 c1 k1 ⊢
 intro br hbn
 have bk:br ≠ k:=fun e=>by rw [e,c1] at hbn; cases hbn
 have p2:plC (.dic []) = true:=rfl
 have k2:=(OnlyC.set (n:=n1) (a:=br) p2).k.trans k1
 have c2:=(cell_ne (n:=n1) (a:=br) (b:=k) p2 (Ne.symm bk)).trans c1
 have b2:=cell_self (n:=n1) (a:=br) p2
 generalize setC n1 br _ = n2 at k2 c2 b2 ⊢
 refine insAt_mk c2 ⟨rfl,by simp,?_⟩
 simp [putA]
 have p3:plC (.ins CK [("d",.int 1),("by_rank",.rf br)]) = true:=rfl
 have k3:=(OnlyC.set (n:=n2) (a:=k) p3).k.trans k2
 have c3:=cell_self (n:=n2) (a:=k) p3
 have b3:=(cell_ne (n:=n2) (a:=k) (b:=br) p3 bk).trans b2
 generalize setC n2 k _ = n3 at k3 c3 b3 ⊢
 intro ro hrn
 have rk:ro ≠ k:=fun e=>by rw [e,c3] at hrn; cases hrn
 have rb:ro ≠ br:=fun e=>by rw [e,b3] at hrn; cases hrn
 have k4:=(OnlyC.set (n:=n3) (a:=ro) p2).k.trans k3
 have c4:=(cell_ne (n:=n3) (a:=ro) (b:=k) p2 (Ne.symm rk)).trans c3
 have b4:=(cell_ne (n:=n3) (a:=ro) (b:=br) p2 (Ne.symm rb)).trans b3
 have r4:=cell_self (n:=n3) (a:=ro) p2
 generalize setC n3 ro _ = n4 at k4 c4 b4 r4 ⊢
 refine insAt_mk c4 ⟨rfl,by simp,?_⟩
 simp [putA]
 have p5:plC (.ins CK [("d",.int 1),("by_rank",.rf br),("rank_of",.rf ro)]) = true:=rfl
 have k5:=(OnlyC.set (n:=n4) (a:=k) p5).k.trans k4
 have c5:=cell_self (n:=n4) (a:=k) p5
 have b5:=(cell_ne (n:=n4) (a:=k) (b:=br) p5 bk).trans b4
 have r5:=(cell_ne (n:=n4) (a:=k) (b:=ro) p5 rk).trans r4
 generalize setC n4 k _ = n5 at k5 c5 b5 r5 ⊢
 refine insAt_mk c5 ⟨rfl,by simp,?_⟩
 simp [putA]
 have p6:plC (.ins CK (kF br ro 0)) = true:=rfl
 refine q _ br ro (fun CP=>⟨cell_self p6,(cell_ne p6 bk).trans b5,(cell_ne p6 rk).trans r5,fun q hq=>by simp at hq,?_⟩) ((OnlyC.set (n:=n5) (a:=k) p6).k.trans k5)
 simpa [adrs] using ⟨⟨Ne.symm bk,Ne.symm rk⟩,Ne.symm rb⟩
abbrev s_Kept_put_in:Stmt:=inClass (top 22) 1
abbrev N_Kept_put_in:List Str:=["self", "rank", "things", "thing"]
theorem sc_Kept_put_in:FnScope N_Kept_put_in ["self", "rank", "things"] (defScope s_Kept_put_in):=⟨rfl,rfl,rfl,by decide +kernel,rfl,by decide +kernel,by decide +kernel⟩
def t_putin (CP CK:Addr):TF:=fun ds n Q=>∃ (k br ro:Addr) (m:Nat) (ps:List Pt) (rk:List (Int × D)) (s:Nat) (T:List Thing),ds = [.rf k,.int (s:Int),.lst (T.map encThing)] /\ KAt CP CK n k br ro m ps rk /\ Tran ps T rk /\ 1 <= T.length /\ T.length <= 2 ^ s /\ size2 ps + 2 ^ s < 500 /\ rk.length <= m /\ m <= 100000 /\
 ∀ n' m' ps' rk',KAt CP CK n' k br ro m' ps' rk' -> kOf n' = kOf n -> Tran ps' [] rk' -> rk'.length <= m' -> size2 ps' = size2 ps + 2 ^ s -> (∀ R,size2 ps + 2 ^ s < 2 ^ (R + 1) -> m' + wts R ps' <= m + wts R ps + T.length * (1 + R)) -> (∀ x,x ∈ names ps' ↔ x ∈ T.map (·.1) ++ names ps) -> Q .non n'
theorem ok_putin {f:Addr} {fd:FuncData} (T:Blt mg) (CL_Kept:Cls K CK) (NA_d:NoAttr K CK "d") (NA_by_rank:NoAttr K CK "by_rank") (NA_rank_of:NoAttr K CK "rank_of") (NA_so_many_made:NoAttr K CK "so_many_made") (F:Fun K "put_in" "Kept.put_in" s_Kept_put_in f fd) (M_left:MthC P w K mg base CP "left" 1 0 (t_pleft CP)) (MK_Part:MkeC P w K mg base CP "Part" 14 2 (t_pinit CP)):FnOk P w K mg base CX0 16 f fd ["self", "rank", "things"] (spD K 3 (t_putin CP CK)):=by
 refine Fun.okD F sc_Kept_put_in (fun cdv A0 outer s H E G Z _ hr=>(pssd_cons (psd_while PassesOwn.never (ptd_inC (hu_of hr) (pd_var 1) (pd_fldC CL_Kept NA_by_rank (pd_var 0)) (by with_unfolding_all rfl))
  (pssd_cons (psd_set (i:=2) sc_Kept_put_in.nd rfl (lo rfl) (pd_op op_cat re_cat (pd_meth0C M_left (hr.mono (by decide)) rfl (pd_popC (pd_fldC CL_Kept NA_by_rank (pd_var 0)) (pd_var 1) ⟨rfl,rfl,rfl,rfl⟩)) (pd_var 2)))
  (pssd_one (psd_augI ip_add (i:=1) sc_Kept_put_in.nd rfl (lo rfl) pd_int))))
  (pssd_cons (psd_putC (hu_of hr) (pd_fldC CL_Kept NA_by_rank (pd_var 0)) (pd_var 1) (pd_makeC MK_Part (hr.mono (by decide)) rfl (pad_cons (pd_fldC CL_Kept NA_d (pd_var 0)) (pad_cons (pd_var 2) pad_nil))))
  (pssd_cons (psd_fldAugC CL_Kept NA_so_many_made (pd_var 0) (pd_callB call_len_seq cr_len T.len bt_len (pad_cons (pd_var 2) pad_nil)))
  (pssd_one (psd_for (m:=4) PassesOwn.never rfl (pid_seq rfl (pd_var 2)) (pgd_name (i:=3) sc_Kept_put_in.nd rfl (lo rfl) (by decide))
  (pssd_one (psd_putC (hu_of hr) (pd_fldC CL_Kept NA_rank_of (pd_var 0)) (pd_ix ix_seq re_ix (pd_var 3) pd_int (fun _ _=>rfl)) (pd_var 1))))))))) ?_
 rintro ds n Q hl ⟨k,br,ro,m,ps0,rk,s,T0,rfl,hk,ht,h1,hs,hz,hrk,hm,q⟩
 simp [startD]
 refine ⟨JPut CP CK k br ro m n rk ps0 T0 s,⟨_,rfl,s,T0,ps0,rfl,rfl,hk,ht,h1,hs,rfl,fun R _=>Nat.le_refl _,fun x=>Iff.rfl⟩,?_⟩
 rintro mm rho n1 ⟨hkn,i,T,ps,rfl,rfl,hk,ht,h1,hi,hsz,hR,hx⟩
 simp
 refine insAt_mk hk.i ?_
 rw [kF_br]
 simp
 refine dicAt_mk hk.b ?_
 obtain ⟨a1,a2,a3,a4⟩:=hk.apart
 rcases brT_get (ps:=ps) (i:=i) with ⟨p,hp,rfl,hg⟩ | ⟨hg,hno⟩
 ·rw [hg]
  simp
  refine insAt_mk hk.i ?_
  rw [kF_br]
  simp
  refine dicAt_mk hk.b (dicAt_mk hk.b ?_)
  rw [hg]
  simp
  obtain ⟨b1,b2,b3,b4,b5,b6⟩:=a4 p hp
  have kp:=hk.pop p.r
  have pa:=hk.part (p:=p) (hk.p p hp) p.r ⟨b2,b5⟩
  have k2:=(KAt.kOfPop (n:=n1) (br:=br) (ps:=ps) p.r).trans hkn
  generalize setC n1 br _ = n2 at kp pa k2 ⊢
  obtain ⟨⟨h,tr,ei⟩,eg⟩:=pa
  have l1:=(ht.gu p hp).2
  have l2:p.left.length <= p.ts.length:=List.length_filter_le ..
  have l3:=size2_mem hp
  refine insAt_mk ei ⟨pF_left,p,rfl,⟨⟨h,tr,ei⟩,eg⟩,by lia,?_⟩
  simp
  have pm:=off_perm hp ht.rn
  have e1:size2 ps = 2 ^ p.r + size2 (off p.r ps):=(size2_perm pm).trans size2_cons
  have e2:2 ^ (p.r + 1) = 2 * 2 ^ p.r:=by rw [Nat.pow_succ]; lia
  refine ⟨le_size (by lia),(off p.r ps).length,by rw [pm.length_eq]; simp,k2,p.r + 1,p.left ++ T,off p.r ps,rfl,by simp,kp,ht.pop hp,by rw [List.length_append]; lia,by rw [List.length_append]; lia,by lia,fun R hlt=>?_,fun x=>(names_pop hp ht.rn T).mem_iff.symm.trans (hx x)⟩
  have h0:=hR R hlt
  have e3:wts R ps = wt R p + wts R (off p.r ps):=(wts_perm pm).trans wts_cons
  unfold wt at e3
  have e4:1 + R - (p.r + 1) = R - p.r:=by lia
  rw [e4,List.length_append,Nat.add_mul]
  have e5:T.length * (R - p.r) <= T.length * (1 + R - p.r):=Nat.mul_le_mul_left _ (by lia)
  lia
 ·rw [hg]
  simp
  have lT:2 ^ i < 500:=by lia
  refine insAt_mk hk.i ?_
  rw [kF_d]
  simp
  intro a han
  have hkR:=hR
  have gT:GoodU 1 T:=⟨ht.dT,by have:=ht.al; rw [List.nodup_append] at this; exact this.1⟩
  have pl0:plC (.ins CP []) = true:=rfl
  refine ⟨a,1,T,rfl,cell_self pl0,by lia,by lia,gT,h1,by lia,fun g h tr n2 hga hgn o hca hcg=>⟨rfl,?_⟩⟩
  have hgn1:cellAt n1 g = none:=by rw [<- hgn]; exact (cell_ne pl0 hga).symm
  have o1:OnlyC n1 n2 [a,g]:=((OnlyC.set (n:=n1) (a:=a) pl0).trans o).mono fun b hb=>by
   rcases List.mem_append.mp hb with hb | hb
   ·rw [List.mem_singleton.mp hb]; exact List.mem_cons_self
   ·exact hb
  obtain ⟨hb2,kp⟩:=hk.put (p:=⟨i,a,g,T,[]⟩) o1 han hgn1 hga ⟨⟨h,tr,hca⟩,hcg⟩ hno
  have ki:=(o1.o k (by
   intro z
   rcases List.mem_cons.mp z with z | z
   ·rw [<- z,hk.i] at han; cases han
   ·rw [<- List.mem_singleton.mp z,hk.i] at hgn1; cases hgn1)).trans hk.i
  have k2:kOf n2 = kOf n:=o1.k.trans hkn
  refine insAt_mk ki ?_
  rw [kF_br]
  simp
  have lb:(brT ps).length <= size2 ps:=by unfold brT; rw [List.length_map]; exact size2_len
  refine dicAt_mk hb2 ⟨rfl,lt_size (by lia),?_⟩
  have k3:kOf (setC n2 br (.dic (putP (i:Int) (.rf a) (brT ps)))) = kOf n:=by
   rw [brT_put (p:=⟨i,a,g,T,[]⟩) hno]
   exact (kOf_set pl_brT).trans k2
  generalize setC n2 br _ = n3 at kp k3 ⊢
  refine insAt_mk kp.i ?_
  rw [kF_m]
  simp
  refine insAt_mk kp.i ⟨by simp [kF],?_⟩
  rw [show (m:Int) + (T.length:Int) = ((m + T.length:Nat):Int) by simp,kF_put]
  have km:=kp.made (m + T.length)
  have k4:=(kOf_set (n:=n3) (a:=k) (pl_kF (CK:=CK) (br:=br) (ro:=ro) (m:=m + T.length))).trans k3
  generalize setC n3 k _ = n4 at km k4 ⊢
  refine ⟨JRk CP CK k br ro (m + T.length) n i rk (ps ++ [⟨i,a,g,T,[]⟩]) T,⟨k4,⟨_,rfl⟩,km⟩,?_,?_⟩
  ·rintro j d rho n5 ej ⟨k5, ⟨z, rfl⟩, ka⟩
   have hj:j < T.length:=by have:=(List.getElem?_eq_some_iff.mp ej).1; rwa [List.length_map] at this
   rw [List.getElem?_map] at ej
   obtain ⟨t,et,rfl⟩:=Option.map_eq_some_iff.mp ej
   simp [encThing]
   refine insAt_mk ka.i ?_
   rw [kF_ro]
   simp
   have lk:=rkPut_len (f:=i) (T:=T.take j) (rk:=rk)
   rw [List.length_take] at lk
   have pl:plC (.dic (rkPut i (T.take (j + 1)) rk)) = true:=by
    rw [List.take_add_one,et]
    unfold rkPut
    rw [List.foldl_append]
    exact pl_putP (cellAt_pl ka.o) rfl
   have kr:=ka.rank pl
   have k6:=(kOf_set (n:=n5) (a:=ro) pl).trans k5
   have e:rkPut i (T.take (j + 1)) rk = putP t.1 (.int (i:Int)) (rkPut i (T.take j) rk):=by
    rw [List.take_add_one,et]
    unfold rkPut
    rw [List.foldl_append]; rfl
   refine dicAt_mk ka.o ⟨rfl,by rw [sizeLine_eq]; lia,?_⟩
   rw [<- e]
   exact ⟨k6,⟨_,rfl⟩,kr⟩
  ·rintro rho n5 ⟨k5, ⟨z, rfl⟩, ka⟩
   rw [List.length_map,List.take_length] at ka
   have hl:(⟨i,a,g,T,[]⟩:Pt).left = T:=new_left rfl
   have lk:=rkPut_len (f:=i) (T:=T) (rk:=rk)
   have e1:size2 (ps ++ [⟨i,a,g,T,[]⟩]) = size2 ps + 2 ^ i:=by unfold size2; simp
   refine q n5 _ _ _ ka k5 (ht.put (p:=⟨i,a,g,T,[]⟩) hno rfl rfl hi) (by lia) (by lia) (fun R hlt=>?_) fun x=>?_
   ·have hiR : i <= R := rank_le (b := size2 ps) (by lia)
    have h0:=hkR R hlt
    have e2:wts R (ps ++ [⟨i,a,g,T,[]⟩]) = wts R ps + T.length * (R - i):=by unfold wts wt; simp [hl]
    have e3:T.length * (1 + R - i) = T.length + T.length * (R - i):=by
     rw [show 1 + R - i = (R - i) + 1 by lia,Nat.mul_succ]; lia
    have e4:T0.length * (1 + R - s) <= T0.length * (1 + R):=Nat.mul_le_mul_left _ (by lia)
    lia
   ·rw [names_snoc, hl, <- hx x]
    exact List.perm_append_comm.mem_iff
end
end K55
set_option maxRecDepth 100000
set_option maxHeartbeats 1000000
namespace K55
open PySem L2 PySem.Spec PyProof.Rows
theorem bits_nat (c:Nat):Builtin.Int.intBits (c:Int) = if c = 0 then 0 else Nat.log2 c + 1:=by
 unfold Builtin.Int.intBits
 by_cases h:c = 0
 ·subst h; rfl
 ·rw [if_neg (by simp only [beq_iff_eq]; lia),if_neg h]; rfl
def rankN (c:Nat):Nat:=if c - 1 = 0 then 0 else Nat.log2 (c - 1) + 1
theorem rankN_up {c:Nat} (h:1 <= c):c <= 2 ^ rankN c:=by
 unfold rankN
 split
 ·simp; lia
 ·have:=Nat.lt_log2_self (n:=c - 1); lia
theorem rankN_lo {c:Nat} (h:1 <= c):2 ^ rankN c < 2 * c:=by
 unfold rankN
 split
 ·simp; lia
 ·rename_i h0
  have:=Nat.log2_self_le h0
  rw [Nat.pow_succ]; lia
def lg (c:Nat):Nat:=if c = 0 then 0 else Nat.log2 c
theorem lg_eq {c r:Nat} (h1:r = 0 \/ 2 ^ r <= c) (h2:c < 2 ^ (r + 1)):lg c = r:=by
 unfold lg
 by_cases h:c = 0
 ·rw [if_pos h]
  rcases h1 with h1 | h1
  ·exact h1.symm
  ·have:=Nat.one_le_two_pow (n:=r); lia
 ·rw [if_neg h]
  have a:=Nat.log2_self_le h
  have b:=Nat.lt_log2_self (n:=c)
  rcases h1 with rfl | h1
  ·have : Nat.log2 c < 1 := by
    refine (Nat.pow_lt_pow_iff_right (by decide:1 < 2)).mp ?_
    lia
   lia
  ·have c1 : Nat.log2 c < r + 1 := (Nat.pow_lt_pow_iff_right (by decide : 1 < 2)).mp (by lia)
   have c2:r < Nat.log2 c + 1:=(Nat.pow_lt_pow_iff_right (by decide:1 < 2)).mp (by lia)
   lia
theorem lg_up {c:Nat}:c < 2 ^ (lg c + 1):=by
 unfold lg
 split
 ·rename_i h; subst h; decide
 ·exact Nat.lt_log2_self
def mostN (c g:Nat):Nat:=(c + g) * (1 + lg c)
structure JMost (c g n:Nat) (mm:Nat) (rho:Rho) (n':Nat):Prop where
 hn:n' = n
 he:∃ r:Nat,mm = c + 1 - r /\ (r = 0 \/ 2 ^ r <= c) /\ rho = [some (.int (c:Int)),some (.int (g:Int)),some (.int (r:Int)),some (.int ((2 ^ (r + 1):Nat):Int))]
section
variable {P:Program} {w:World} {K:PySem.W.Frag} {mg:Str -> Option Value} {base:Heap} {CP CK:Addr}
abbrev s_rank_for:Stmt:=top 19
abbrev N_rank_for:List Str:=["many"]
theorem sc_rank_for:FnScope N_rank_for ["many"] (defScope s_rank_for):=⟨rfl,rfl,rfl,by decide +kernel,rfl,by decide +kernel,by decide +kernel⟩
def t_rankfor:TF:=fun ds n Q=>∃ c:Nat,ds = [.int (c:Int)] /\ 1 <= c /\ Q (.int (rankN c:Int)) n
theorem ok_rankfor {f:Addr} {fd:FuncData} (F:Fun K "rank_for" "rank_for" s_rank_for f fd):FnOk P w K mg base CX0 1 f fd ["many"] (spD K 1 t_rankfor):=by
 refine Fun.okD F sc_rank_for (fun cdv A0 outer s H E G Z _ hr=>(pssd_one (psd_ret (pd_bits (pd_sub (pd_var 0) pd_int))))) ?_
 rintro ds n Q hl ⟨c,rfl,hc,q⟩
 simp [startD]
 rw [show (c:Int) - 1 = ((c - 1:Nat):Int) by lia,bits_nat]
 exact q
abbrev s_most_made:Stmt:=top 20
abbrev N_most_made:List Str:=["comings", "goings", "greatest"]
theorem sc_most_made:FnScope N_most_made ["comings", "goings"] (defScope s_most_made):=⟨rfl,rfl,rfl,by decide +kernel,rfl,by decide +kernel,by decide +kernel⟩
def t_most:TF:=fun ds n Q=>∃ c g:Nat,ds = [.int (c:Int),.int (g:Int)] /\ c < 1000 /\ g < 1000 /\ Q (.int (mostN c g:Int)) n
theorem ok_most {f:Addr} {fd:FuncData} (F:Fun K "most_made" "most_made" s_most_made f fd):FnOk P w K mg base CX0 1 f fd ["comings", "goings"] (spD K 2 t_most):=by
 refine Fun.okD F sc_most_made (fun cdv A0 outer s H E G Z _ hr=>(pssd_cons (psd_set (i:=2) sc_most_made.nd rfl (lo rfl) (pd_if (ptd_cmp op_eq re_eq (pd_var 0) pd_int (nomark _)) pd_int (pd_sub (pd_bits (pd_var 0)) pd_int)))
  (pssd_one (psd_ret (pd_mul (pd_add (pd_var 0) (pd_var 1)) (pd_add pd_int (pd_var 2))))))) ?_
 rintro ds n Q hl ⟨c,g,rfl,hc,hg,q⟩
 have cm:∀ {i j:Int},(-(2 ^ 64) < i /\ i < 2 ^ 64) -> CMul i j:=fun h=>.inl h
 simp [startD,bits_nat]
 split
 ·rename_i h
  refine ⟨cm ⟨by lia,by lia⟩,?_⟩
  rw [show ((c:Int) + (g:Int)) = ((mostN c g:Nat):Int) by unfold mostN lg; rw [if_pos h]; simp]
  exact q
 ·rename_i h
  refine ⟨cm ⟨by lia,by lia⟩,?_⟩
  rw [show ((c:Int) + (g:Int)) * (1 + (((Nat.log2 c + 1:Nat):Int) - 1)) = ((mostN c g:Nat):Int) by
   unfold mostN lg
   rw [if_neg h,show 1 + (((Nat.log2 c + 1:Nat):Int) - 1) = ((1 + Nat.log2 c:Nat):Int) by lia]
   simp]
  exact q
abbrev s__law_most:Stmt:=top 28
abbrev N__law_most:List Str:=["_law_comings", "_law_goings", "_law_rank", "_law_power"]
theorem sc__law_most:FnScope N__law_most ["_law_comings", "_law_goings"] (defScope s__law_most):=⟨rfl,rfl,rfl,by decide +kernel,rfl,by decide +kernel,by decide +kernel⟩
theorem ok_lmost {f:Addr} {fd:FuncData} (F:Fun K "_law_most" "_law_most" s__law_most f fd):FnOk P w K mg base CX0 1 f fd ["_law_comings", "_law_goings"] (spD K 2 t_most):=by
 refine Fun.okD F sc__law_most (fun cdv A0 outer s H E G Z _ hr=>(pssd_cons (psd_set (i:=2) sc__law_most.nd rfl (lo rfl) pd_int)
  (pssd_cons (psd_set (i:=3) sc__law_most.nd rfl (lo rfl) pd_int)
  (pssd_cons (psd_while PassesOwn.never (ptd_cmp op_le re_le (pd_var 3) (pd_var 0) (nomark _))
  (pssd_one (psd_parK (i:=2) (j:=3) rfl sc__law_most.nd rfl rfl (by decide) rfl rfl (pad_cons (pd_add (pd_var 2) pd_int) (pad_cons (pd_mul pd_int (pd_var 3)) pad_nil)))))
  (pssd_one (psd_ret (pd_mul (pd_add (pd_var 0) (pd_var 1)) (pd_add pd_int (pd_var 2))))))))) ?_
 rintro ds n Q hl ⟨c,g,rfl,hc,hg,q⟩
 simp [startD]
 refine ⟨JMost c g n,⟨_,rfl,0,rfl,.inl rfl,rfl⟩,?_⟩
 rintro mm rho n1 ⟨rfl,r,rfl,hr,rfl⟩
 have cm:∀ {i j:Int},(-(2 ^ 64) < i /\ i < 2 ^ 64) -> CMul i j:=fun h=>.inl h
 have ep:((2 ^ (r + 1):Nat):Int) = 2 ^ (r + 1):=by simp
 simp
 split
 ·rename_i h
  have h':2 ^ (r + 1) <= c:=by lia
  have:=Nat.lt_two_pow_self (n:=r + 1)
  refine ⟨cm ⟨by decide,by decide⟩,c + 1 - (r + 1),by lia,rfl,r + 1,rfl,.inr h',?_⟩
  rw [show (2:Int) * 2 ^ (r + 1) = ((2 ^ (r + 1 + 1):Nat):Int) by rw [Nat.pow_succ 2 (r + 1)]; lia]
  rfl
 ·rename_i h
  have e:=lg_eq hr (by lia)
  refine ⟨cm ⟨by lia,by lia⟩,?_⟩
  rw [show ((c:Int) + (g:Int)) * (1 + (r:Int)) = ((mostN c g:Nat):Int) by unfold mostN; rw [e]; simp]
  exact q
abbrev s_Kept_make_anew:Stmt:=inClass (top 22) 4
abbrev N_Kept_make_anew:List Str:=["self", "rank", "things"]
theorem sc_Kept_make_anew:FnScope N_Kept_make_anew ["self", "rank"] (defScope s_Kept_make_anew):=⟨rfl,rfl,rfl,by decide +kernel,rfl,by decide +kernel,by decide +kernel⟩
def t_anew (CP CK:Addr):TF:=fun ds n Q=>∃ (k br ro:Addr) (m:Nat) (ps:List Pt) (rk:List (Int × D)) (p:Pt),ds = [.rf k,.int (p.r:Int)] /\ KAt CP CK n k br ro m ps rk /\ Tran ps [] rk /\ p ∈ ps /\ 2 * p.left.length < p.ts.length /\ size2 ps < 500 /\ rk.length <= m /\ m <= 100000 /\
 ∀ n' m' ps' rk',KAt CP CK n' k br ro m' ps' rk' -> kOf n' = kOf n -> Tran ps' [] rk' -> rk'.length <= m' -> size2 ps' <= size2 ps -> (∀ R,size2 ps < 2 ^ (R + 1) -> m' + wts R ps' <= m + wts R ps) -> (∀ x,x ∈ names ps' ↔ x ∈ names ps) -> Q .non n'
theorem ok_anew {f:Addr} {fd:FuncData} (T:Blt mg) (CL_Kept:Cls K CK) (NA_by_rank:NoAttr K CK "by_rank") (F:Fun K "make_anew" "Kept.make_anew" s_Kept_make_anew f fd) (M_left:MthC P w K mg base CP "left" 1 0 (t_pleft CP)) (M_put_in:MthC P w K mg base CK "put_in" 16 2 (t_putin CP CK)) (F_rank_for:Fn P w K mg base "rank_for" 1 1 t_rankfor):FnOk P w K mg base CX0 17 f fd ["self", "rank"] (spD K 2 (t_anew CP CK)):=by
 refine Fun.okD F sc_Kept_make_anew (fun cdv A0 outer s H E G Z _ hr=>(pssd_cons (psd_set (i:=2) sc_Kept_make_anew.nd rfl (lo rfl) (pd_meth0C M_left (hr.mono (by decide)) rfl (pd_popC (pd_fldC CL_Kept NA_by_rank (pd_var 0)) (pd_var 1) ⟨rfl,rfl,rfl,rfl⟩)))
  (pssd_one (psd_if (ptd_cmp op_gt re_gt (pd_callB call_len_seq cr_len T.len bt_len (pad_cons (pd_var 2) pad_nil)) pd_int (nomark _)) (pssd_one (psd_expr (pd_methC M_put_in (hr.mono (by decide)) rfl (pd_var 0) (pad_cons (pd_fn F_rank_for (hr.mono (by decide)) rfl (pad_cons (pd_callB call_len_seq cr_len T.len bt_len (pad_cons (pd_var 2) pad_nil)) pad_nil)) (pad_cons (pd_var 2) pad_nil))))) pssd_nil)))) ?_
 rintro ds n Q hl ⟨k,br,ro,m,ps,rk,p,rfl,hk,ht,hp,h2,hz,hrk,hm,q⟩
 simp [startD]
 obtain ⟨a1,a2,a3,a4⟩:=hk.apart
 obtain ⟨b1,b2,b3,b4,b5,b6⟩:=a4 p hp
 refine insAt_mk hk.i ?_
 rw [kF_br]
 simp
 refine dicAt_mk hk.b (dicAt_mk hk.b ?_)
 rw [brT_at ht.rn hp]
 simp
 have kp:=hk.pop p.r
 have pa:=hk.part (p:=p) (hk.p p hp) p.r ⟨b2,b5⟩
 have k2:=KAt.kOfPop (n:=n) (br:=br) (ps:=ps) p.r
 generalize setC n br _ = n2 at kp pa k2 ⊢
 obtain ⟨⟨h,tr,ei⟩,eg⟩:=pa
 have l1:=(ht.gu p hp).2
 have l3:=size2_mem hp
 have pm:=off_perm hp ht.rn
 have e1:size2 ps = 2 ^ p.r + size2 (off p.r ps):=(size2_perm pm).trans size2_cons
 have tp:=ht.pop hp
 rw [List.append_nil] at tp
 have nm:=names_pop hp ht.rn []
 rw [List.append_nil,List.map_nil,List.nil_append] at nm
 have gl:=ht.gl p hp
 have ww:∀ R,wts R ps = wt R p + wts R (off p.r ps):=fun R=>(wts_perm pm).trans wts_cons
 refine insAt_mk ei ⟨pF_left,p,rfl,⟨⟨h,tr,ei⟩,eg⟩,by lia,?_⟩
 simp
 split
 ·rename_i h0
  have r1:=rankN_up (c:=p.left.length) (by lia)
  have r2:=rankN_lo (c:=p.left.length) (by lia)
  refine insAt_mk kp.i ⟨kF_none,_,rfl,by lia,k,br,ro,m,off p.r ps,rk,rankN p.left.length,p.left,rfl,kp,tp,by lia,r1,by lia,hrk,hm,fun n' m' ps' rk' g1 g2 g3 g4 g5 g6 g7=>?_⟩
  refine q n' m' ps' rk' g1 (g2.trans k2) g3 g4 (by lia) (fun R hR=>?_) fun x=>(g7 x).trans nm.mem_iff.symm
  have g8:=g6 R (by lia)
  have g9:=ww R
  unfold wt at g9
  have g10:p.left.length * (1 + R) <= p.gs.length * (1 + R):=Nat.mul_le_mul_right _ (by lia)
  lia
 ·rename_i h0
  have e0:p.left = []:=List.eq_nil_of_length_eq_zero (by lia)
  rw [e0] at tp nm
  refine q n2 m (off p.r ps) rk kp k2 tp hrk (by lia) (fun R hR=>?_) fun x=>?_
  ·have:=ww R; lia
  ·exact nm.mem_iff.symm
abbrev s_Kept_come:Stmt:=inClass (top 22) 2
abbrev N_Kept_come:List Str:=["self", "thing"]
theorem sc_Kept_come:FnScope N_Kept_come ["self", "thing"] (defScope s_Kept_come):=⟨rfl,rfl,rfl,by decide +kernel,rfl,by decide +kernel,by decide +kernel⟩
def t_come (CP CK:Addr):TF:=fun ds n Q=>∃ (k br ro:Addr) (m:Nat) (ps:List Pt) (rk:List (Int × D)) (t:Thing),ds = [.rf k,encThing t] /\ KAt CP CK n k br ro m ps rk /\ Tran ps [] rk /\ t.1 ∉ names ps /\ t.2.1.length = 1 /\ size2 ps + 1 < 500 /\ rk.length <= m /\ m <= 100000 /\
 ∀ n' m' ps' rk',KAt CP CK n' k br ro m' ps' rk' -> kOf n' = kOf n -> Tran ps' [] rk' -> rk'.length <= m' -> size2 ps' = size2 ps + 1 -> (∀ R,size2 ps + 1 < 2 ^ (R + 1) -> m' + wts R ps' <= m + wts R ps + (1 + R)) -> (∀ x,x ∈ names ps' ↔ x = t.1 \/ x ∈ names ps) -> Q .non n'
theorem ok_come {f:Addr} {fd:FuncData} (CL_Kept:Cls K CK) (NA_rank_of:NoAttr K CK "rank_of") (F:Fun K "come" "Kept.come" s_Kept_come f fd) (M_put_in:MthC P w K mg base CK "put_in" 16 2 (t_putin CP CK)):FnOk P w K mg base CX0 17 f fd ["self", "thing"] (spD K 2 (t_come CP CK)):=by
 refine Fun.okD F sc_Kept_come (fun cdv A0 outer s H E G Z _ hr=>(pssd_cons (psd_if (ptd_inC (hu_of hr) (pd_ix ix_seq re_ix (pd_var 1) pd_int (fun _ _=>rfl)) (pd_fldC CL_Kept NA_rank_of (pd_var 0)) (by with_unfolding_all rfl)) (pssd_one psd_never) pssd_nil)
  (pssd_one (psd_expr (pd_methC M_put_in (hr.mono (by decide)) rfl (pd_var 0) (pad_cons pd_int (pad_cons (pd_lst (pad_cons (pd_var 1) pad_nil)) pad_nil))))))) ?_
 rintro ds n Q hl ⟨k,br,ro,m,ps,rk,t,rfl,hk,ht,hn,hd,hz,hrk,hm,q⟩
 have e:getP t.1 rk = none:=by
  cases z:getP t.1 rk with
  | none=>rfl
  | some d=>exact absurd (ht.kr t.1 (by rw [z]; rfl)) (by rw [List.map_nil,List.nil_append]; exact hn)
 simp [startD,encThing]
 refine insAt_mk hk.i ?_
 rw [kF_ro]
 simp
 refine dicAt_mk hk.o ?_
 rw [e]
 simp
 refine insAt_mk hk.i ⟨kF_none,k,br,ro,m,ps,rk,0,[t],rfl,hk,?_,by simp,by simp,by simpa using hz,hrk,hm,?_⟩
 ·exact ⟨ht.rn,ht.gu,ht.gl,List.nodup_cons.mpr ⟨hn,ht.al⟩,fun u hu=>by rw [List.mem_singleton.mp hu]; exact hd,ht.rk,fun x hx=>List.mem_cons_of_mem _ (ht.kr x hx)⟩
 ·intro n' m' ps' rk' g1 g2 g3 g4 g5 g6 g7
  refine q n' m' ps' rk' g1 g2 g3 g4 g5 (fun R hR=>?_) fun x=>(g7 x).trans List.mem_cons
  have:=g6 R hR
  simp only [List.length_cons,List.length_nil] at this
  lia
abbrev s_Kept_go:Stmt:=inClass (top 22) 3
abbrev N_Kept_go:List Str:=["self", "name", "rank", "part"]
theorem sc_Kept_go:FnScope N_Kept_go ["self", "name"] (defScope s_Kept_go):=⟨rfl,rfl,rfl,by decide +kernel,rfl,by decide +kernel,by decide +kernel⟩
def t_go (CP CK:Addr):TF:=fun ds n Q=>∃ (k br ro:Addr) (m:Nat) (ps:List Pt) (rk:List (Int × D)) (x:Int),ds = [.rf k,.int x] /\ KAt CP CK n k br ro m ps rk /\ Tran ps [] rk /\ x ∈ names ps /\ size2 ps < 500 /\ rk.length <= m /\ m <= 100000 /\
 ∀ n' m' ps' rk',KAt CP CK n' k br ro m' ps' rk' -> kOf n' = kOf n -> Tran ps' [] rk' -> rk'.length <= m' -> size2 ps' <= size2 ps -> (∀ R,size2 ps < 2 ^ (R + 1) -> m' + wts R ps' <= m + wts R ps + (1 + R)) -> (∀ y,y ∈ names ps' ↔ y ∈ names ps /\ y ≠ x) -> Q .non n'
theorem ok_go {f:Addr} {fd:FuncData} (T:Blt mg) (CL_Kept:Cls K CK) (CL_Part:Cls K CP) (NA_things:NoAttr K CP "things") (NA_gone:NoAttr K CP "gone") (NA_by_rank:NoAttr K CK "by_rank") (NA_rank_of:NoAttr K CK "rank_of") (F:Fun K "go" "Kept.go" s_Kept_go f fd) (M_make_anew:MthC P w K mg base CK "make_anew" 17 1 (t_anew CP CK)):FnOk P w K mg base CX0 18 f fd ["self", "name"] (spD K 2 (t_go CP CK)):=by
 refine Fun.okD F sc_Kept_go (fun cdv A0 outer s H E G Z _ hr=>(pssd_cons (psd_if (ptd_notinC (hu_of hr) (pd_var 1) (pd_fldC CL_Kept NA_rank_of (pd_var 0)) (by with_unfolding_all rfl)) (pssd_one psd_never) pssd_nil)
  (pssd_cons (psd_set (i:=2) sc_Kept_go.nd rfl (lo rfl) (pd_popC (pd_fldC CL_Kept NA_rank_of (pd_var 0)) (pd_var 1) ⟨rfl,rfl,rfl,rfl⟩))
  (pssd_cons (psd_set (i:=3) sc_Kept_go.nd rfl (lo rfl) (pd_dixC (hu_of hr) (pd_fldC CL_Kept NA_by_rank (pd_var 0)) (pd_var 2) (fun _ _=>rfl)))
  (pssd_cons (psd_putC (hu_of hr) (pd_fldC CL_Part NA_gone (pd_var 3)) (pd_var 1) pd_bl)
  (pssd_one (psd_if (ptd_cmp op_gt re_gt (pd_mul pd_int (pd_lenC T.len (pad_cons (pd_fldC CL_Part NA_gone (pd_var 3)) pad_nil))) (pd_callB call_len_seq cr_len T.len bt_len (pad_cons (pd_fldC CL_Part NA_things (pd_var 3)) pad_nil)) (nomark _)) (pssd_one (psd_expr (pd_methC M_make_anew (hr.mono (by decide)) rfl (pd_var 0) (pad_cons (pd_var 2) pad_nil)))) pssd_nil))))))) ?_
 rintro ds n Q hl ⟨k,br,ro,m,ps,rk,x,rfl,hk,ht,hx,hz,hrk,hm,q⟩
 obtain ⟨p,hp,t,htp,rfl⟩:=mem_names hx
 have e:=ht.rk p hp t htp
 simp [startD]
 refine insAt_mk hk.i ?_
 rw [kF_ro]
 simp
 refine dicAt_mk hk.o ?_
 rw [e]
 simp
 refine insAt_mk hk.i ?_
 rw [kF_ro]
 simp
 refine dicAt_mk hk.o (dicAt_mk hk.o ?_)
 rw [e]
 simp
 have pl:=pl_dropP (k:=t.1) (cellAt_pl hk.o)
 have kr:=hk.rank pl
 have k1:=kOf_set (n:=n) (a:=ro) pl
 generalize setC n ro _ = n1 at kr k1 ⊢
 refine insAt_mk kr.i ?_
 rw [kF_br]
 simp
 refine dicAt_mk kr.b ?_
 rw [brT_at ht.rn hp]
 simp
 obtain ⟨⟨h,tr,ei⟩,eg⟩:=kr.p p hp
 obtain ⟨tg1,tg2,tg3,tg4⟩:=ht.go hp htp
 have pr:=regs_perm (gs:=putP t.1 (D.bl true) p.gs) hp ht.rn
 obtain ⟨g1,g2,g3⟩:=go_left htp
 have gl:=ht.gl p hp
 have l1:=(ht.gu p hp).2
 have l3:=size2_mem hp
 have al:=ht.al
 rw [List.map_nil,List.nil_append] at al
 have al2:=(names_perm (off_perm hp ht.rn)).nodup_iff.mp al
 rw [names_cons,List.nodup_append] at al2
 have ll:=less_one htp al2.1
 refine insAt_mk ei ?_
 rw [pF_gone]
 simp
 have pl2:=pl_putP (k:=t.1) (d:=.bl true) (cellAt_pl eg) rfl
 have kg:=kr.gone ht.rn hp pl2
 have k2:=(kOf_set (n:=n1) (a:=p.g) pl2).trans k1
 refine dicAt_mk eg ⟨rfl,le_size (by lia),?_⟩
 have hp1:({ p with gs:=putP t.1 (D.bl true) p.gs }:Pt) ∈ regs p.r (putP t.1 (D.bl true) p.gs) ps:=pr.mem_iff.mpr List.mem_cons_self
 generalize setC n1 p.g _ = n2 at kg k2 ⊢
 obtain ⟨⟨h',tr',ei'⟩,eg'⟩:=kg.p _ hp1
 refine insAt_mk ei' ?_
 rw [pF_gone]
 simp
 have g4:(putP t.1 (D.bl true) p.gs).length = p.gs.length + 1:=by rw [g2,List.length_append]; rfl
 refine dicAt_mk eg' ⟨.inl ⟨by decide,by decide⟩,insAt_mk ei' ?_⟩
 rw [pF_things]
 simp
 have drk:(dropP t.1 rk).length <= m:=Nat.le_trans drop_len hrk
 split
 ·rename_i h0
  have h1:p.ts.length < 2 * (putP t.1 (D.bl true) p.gs).length:=by lia
  refine insAt_mk kg.i ⟨kF_none,k,br,ro,m,_,_,{ p with gs:=putP t.1 (D.bl true) p.gs },rfl,kg,tg1,hp1,?_,by rw [tg3]; exact hz,drk,hm,fun n' m' ps' rk' f1 f2 f3 f4 f5 f6 f7=>?_⟩
  ·rw [g3]
   show 2 * _ < p.ts.length
   lia
  ·refine q n' m' ps' rk' f1 (f2.trans k2) f3 f4 (by lia) (fun R hR => ?_) fun y => (f7 y).trans (tg2 y)
   have a:=f6 R (by lia)
   have b:=tg4 R
   lia
 ·exact q n2 m _ _ kg k2 tg1 drk (by lia) (fun R hR=>by have:=tg4 R; lia) tg2
abbrev s_Kept_made:Stmt:=inClass (top 22) 8
abbrev N_Kept_made:List Str:=["self"]
theorem sc_Kept_made:FnScope N_Kept_made ["self"] (defScope s_Kept_made):=⟨rfl,rfl,rfl,by decide +kernel,rfl,by decide +kernel,by decide +kernel⟩
def t_made (CP CK:Addr):TF:=fun ds n Q=>∃ (k br ro:Addr) (m:Nat) (ps:List Pt) (rk:List (Int × D)),ds = [.rf k] /\ KAt CP CK n k br ro m ps rk /\ Q (.int (m:Int)) n
theorem ok_made {f:Addr} {fd:FuncData} (CL_Kept:Cls K CK) (NA_so_many_made:NoAttr K CK "so_many_made") (F:Fun K "made" "Kept.made" s_Kept_made f fd):FnOk P w K mg base CX0 1 f fd ["self"] (spD K 1 (t_made CP CK)):=by
 refine Fun.okD F sc_Kept_made (fun cdv A0 outer s H E G Z _ hr=>(pssd_one (psd_ret (pd_fldC CL_Kept NA_so_many_made (pd_var 0))))) ?_
 rintro ds n Q hl ⟨k,br,ro,m,ps,rk,rfl,hk,q⟩
 simp [startD]
 refine insAt_mk hk.i ?_
 rw [kF_m]
 simp
 exact q
end
end K55
set_option maxRecDepth 100000
set_option maxHeartbeats 1000000
namespace K55
open PySem L2 PySem.Spec PyProof.Rows
def stepD (S:List Int) (d:Int):List Int:=if 0 <= d then d :: S else S.filter fun y=>decide (y ≠ -1 - d)
def fitD (S:List Int) (d:Int):Prop:=(0 <= d -> d ∉ S) /\ (d < 0 -> -1 - d ∈ S)
def okD:List Int -> List Int -> Prop
 | _,[]=>True
 | S,d :: l=>fitD S d /\ okD (stepD S d) l
theorem okD_app:∀ {S a b:List Int},okD S (a ++ b) ↔ okD S a /\ okD (a.foldl stepD S) b
 | S,[],b=>by simp [okD]
 | S,d :: a,b=>by
  have h:=okD_app (S:=stepD S d) (a:=a) (b:=b)
  simp only [List.cons_append,okD,List.foldl_cons]
  rw [h,and_assoc]
theorem okD_at:∀ {l S:List Int} {i:Nat} {d:Int},okD S l -> l[i]? = some d -> fitD ((l.take i).foldl stepD S) d
 | e :: l,S,0,d,h,hi=>by
  have e1:e = d:=by simpa using hi
  rw [<- e1]; exact h.1
 | e :: l,S,i + 1,d,h,hi=>by
  rw [List.take_succ_cons,List.foldl_cons]
  exact okD_at h.2 (by simpa using hi)
theorem mem_comings:∀ {xs S:List Int} {y:Int},(∀ x ∈ xs,0 <= x) -> (y ∈ xs.foldl stepD S ↔ y ∈ xs \/ y ∈ S)
 | [],S,y,_=>by simp
 | x :: xs, S, y, h => by
  rw [List.foldl_cons,mem_comings fun z hz=>h z (List.mem_cons_of_mem _ hz)]
  have e:stepD S x = x :: S:=if_pos (h x List.mem_cons_self)
  rw [e,List.mem_cons,List.mem_cons]
  constructor
  ·rintro (a | a | a)
   ·exact .inl (.inr a)
   ·exact .inl (.inl a)
   ·exact .inr a
  ·rintro ((a | a) | a)
   ·exact .inr (.inl a)
   ·exact .inl a
   ·exact .inr (.inr a)
theorem ok_comings:∀ {xs S:List Int},(∀ x ∈ xs,0 <= x) -> xs.Nodup -> (∀ x ∈ xs,x ∉ S) -> okD S xs
 | [],_,_,_,_=>trivial
 | x :: xs,S,h,hn,hS=>by
  have e:stepD S x = x :: S:=if_pos (h x List.mem_cons_self)
  have hn':=List.nodup_cons.mp hn
  refine ⟨⟨fun _=>hS x List.mem_cons_self,fun z=>absurd (h x List.mem_cons_self) (by lia)⟩,?_⟩
  rw [e]
  refine ok_comings (fun z hz=>h z (List.mem_cons_of_mem _ hz)) hn'.2 fun z hz=>?_
  rw [List.mem_cons,not_or]
  exact ⟨fun q=>hn'.1 (q ▸ hz),hS z (List.mem_cons_of_mem _ hz)⟩
def goD (xs:List Int):List Int:=xs.map fun x=>-1 - x
theorem go_step {x:Int} {S:List Int} (h:0 <= x):stepD S (-1 - x) = S.filter fun y=>decide (y ≠ x):=by
 unfold stepD
 rw [if_neg (by lia)]
 refine congrArg (fun f=>List.filter f S) (funext fun y=>?_)
 rw [show -1 - (-1 - x) = x by lia]
theorem mem_goings:∀ {xs S:List Int} {y:Int},(∀ x ∈ xs,0 <= x) -> (y ∈ (goD xs).foldl stepD S ↔ y ∈ S /\ y ∉ xs)
 | [],S,y,_=>by simp [goD]
 | x :: xs,S,y,h=>by
  show y ∈ (goD xs).foldl stepD (stepD S (-1 - x)) ↔ _
  rw [mem_goings fun z hz=>h z (List.mem_cons_of_mem _ hz),go_step (h x List.mem_cons_self),List.mem_filter,List.mem_cons,not_or,and_assoc]
  simp
theorem ok_goings:∀ {xs S:List Int},(∀ x ∈ xs,0 <= x) -> xs.Nodup -> (∀ x ∈ xs,x ∈ S) -> okD S (goD xs)
 | [],_,_,_,_=>trivial
 | x :: xs,S,h,hn,hS=>by
  have hn':=List.nodup_cons.mp hn
  have h0:=h x List.mem_cons_self
  show fitD S (-1 - x) /\ okD (stepD S (-1 - x)) (goD xs)
  refine ⟨⟨fun z=>by lia,fun _=>by rw [show -1 - (-1 - x) = x by lia]; exact hS x List.mem_cons_self⟩,?_⟩
  rw [go_step h0]
  refine ok_goings (fun z hz=>h z (List.mem_cons_of_mem _ hz)) hn'.2 fun z hz=>List.mem_filter.mpr ⟨hS z (List.mem_cons_of_mem _ hz),?_⟩
  simp only [decide_eq_true_eq]
  exact fun q=>hn'.1 (q ▸ hz)
def rngI (a m:Nat):List Int:=(List.range m).map fun i=>((a + i:Nat):Int)
theorem mem_rngI {a m:Nat} {x:Int}:x ∈ rngI a m ↔ (a:Int) <= x /\ x < ((a + m:Nat):Int):=by
 unfold rngI
 rw [List.mem_map]
 constructor
 ·rintro ⟨i,hi,rfl⟩; have:=List.mem_range.mp hi; lia
 ·rintro ⟨h1,h2⟩; exact ⟨(x - a).toNat,List.mem_range.mpr (by lia),by lia⟩
theorem rngI_nodup {a m:Nat}:(rngI a m).Nodup:=by
 unfold rngI
 exact List.pairwise_map.mpr (List.nodup_range.imp fun h e=>h (by lia))
theorem rngI_D {m:Nat}:rngD 0 m = (rngI 0 m).map D.int:=by
 rw [rngD_map]
 unfold rngI
 rw [List.map_map]
 refine List.map_congr_left fun i _=>?_
 show D.int (i:Int) = D.int ((0 + i:Nat):Int)
 rw [Nat.zero_add]
theorem ev_sub {α:Type}:∀ l:List α,(evL l).Sublist l
 | []=>.slnil
 | [x]=>List.Sublist.refl _
 | x :: y :: r=>((ev_sub r).cons y).cons_cons x
theorem rngI_E {m:Nat}:((List.range m).map fun i:Nat=>D.int (i:Int)) = (rngI 0 m).map D.int:=by rw [<- rngD_map]; exact rngI_D
theorem len_rngI {a m:Nat}:(rngI a m).length = m:=by unfold rngI; rw [List.length_map,List.length_range]
theorem ok_both {m:Nat} {xs:List Int} (hn:xs.Nodup) (h:∀ x ∈ xs,x ∈ rngI 0 m):okD [] (rngI 0 m ++ goD xs):=by
 have h0:∀ x ∈ rngI 0 m,(0:Int) <= x:=fun x hx=>by have:=(mem_rngI.mp hx).1; simpa using this
 exact okD_app.mpr ⟨ok_comings h0 rngI_nodup (by simp),ok_goings (fun x hx=>h0 x (h x hx)) hn fun x hx=>(mem_comings h0).mpr (.inl (h x hx))⟩
theorem ok_more {m k:Nat} {xs:List Int} (hn:xs.Nodup) (h:∀ x ∈ xs,x ∈ rngI 0 m):okD [] (rngI 0 m ++ goD xs ++ rngI m k):=by
 have h0:∀ x ∈ rngI 0 m,(0:Int) <= x:=fun x hx=>by have:=(mem_rngI.mp hx).1; simpa using this
 refine okD_app.mpr ⟨ok_both hn h,ok_comings (fun x hx=>by have:=(mem_rngI.mp hx).1; lia) rngI_nodup fun x hx hm=>?_⟩
 rw [List.foldl_append,mem_goings fun x hx=>h0 x (h x hx),mem_comings h0] at hm
 rcases hm.1 with z | z
 ·have a := (mem_rngI.mp hx).1
  have b:=(mem_rngI.mp z).2
  lia
 ·simp at z
structure JFd (n m:Nat) (i:Nat) (rho:Rho) (n':Nat):Prop where
 hn:n' = n
 he:∃ (z:Option D) (fs:List Int),rho = [some .st,some (.int 0),some (.int (m:Int)),some (.lst ((rngI 0 m).map D.int)),some (.own (fs.map D.int)),z,none] /\ okD [] fs /\ fs.length <= 2 * i /\ ∀ x ∈ fs.foldl stepD [],0 <= x /\ x < (i:Int)
section
variable {P:Program} {w:World} {K:PySem.W.Frag} {mg:Str -> Option Value} {base:Heap} {CP CK:Addr}
abbrev s__law_of:Stmt:=top 27
abbrev N__law_of:List Str:=["_law_left_here", "_law_some"]
theorem sc__law_of:FnScope N__law_of ["_law_left_here", "_law_some"] (defScope s__law_of):=⟨rfl,rfl,rfl,by decide +kernel,rfl,by decide +kernel,by decide +kernel⟩
def t_of:TF:=fun ds n Q=>∃ js:List Int,ds = [.st,.lst (js.map D.int)] /\ kOf n = 2 /\ 1 <= js.length /\ js.length <= 1000 /\ ∀ j ∈ js,Q (.int j) n
theorem ok_of {f:Addr} {fd:FuncData} (T:Blt mg) (F:Fun K "_law_of" "_law_of" s__law_of f fd) (F__law_pick:Fn P w K mg base "_law_pick" 1 2 t_pick):FnOk P w K mg base CX0 2 f fd ["_law_left_here", "_law_some"] (spD K 2 t_of):=by
 refine Fun.okD F sc__law_of (fun cdv A0 outer s H E G Z _ hr=>(pssd_one (psd_ret (pd_ix ix_seq re_ix (pd_var 1) (pd_fn F__law_pick (hr.mono (by decide)) rfl (pad_cons (pd_var 0) (pad_cons (pd_callB call_len_seq cr_len T.len bt_len (pad_cons (pd_var 1) pad_nil)) pad_nil))) (fun _ _=>rfl))))) ?_
 rintro ds n Q hl ⟨js,rfl,hn,h1,h2,q⟩
 simp [startD]
 refine pick_intro hn (by lia) (by lia) fun k0 hk0 hk1=>?_
 refine pick hk0 (by simpa using hk1) fun d hd=>?_
 obtain ⟨j,hj,rfl⟩:=List.mem_map.mp hd
 exact q j hj
theorem of_intro {js:List Int} {n:Nat} {Q:D -> Nat -> Prop} (hn:kOf n = 2) (h1:1 <= js.length) (h2:js.length <= 1000) (h:∀ j ∈ js,Q (.int j) n) {es:List D} (he:es = js.map D.int:=by rfl):t_of [.st,.lst es] n Q:=⟨js,by rw [he],hn,h1,h2,h⟩
abbrev s__law_deeds:Stmt:=top 29
abbrev N__law_deeds:List Str:=["_law_left_here", "_law_way", "_law_many", "_law_comings", "_law_found", "_law_name", "_law_turned"]
theorem sc__law_deeds:FnScope N__law_deeds ["_law_left_here"] (defScope s__law_deeds):=⟨rfl,rfl,rfl,by decide +kernel,rfl,by decide +kernel,by decide +kernel⟩
theorem nd__law_deeds_0:("_law_name" :: ["_law_left_here", "_law_way", "_law_many", "_law_comings", "_law_found", "_law_name'", "_law_turned"]:List Str).Nodup:=by decide +kernel
theorem nd__law_deeds_1:("_law_name" :: ["_law_left_here", "_law_way", "_law_many", "_law_comings", "_law_found", "_law_name'", "_law_turned"]:List Str).Nodup:=by decide +kernel
theorem nd__law_deeds_2:("_law_name" :: ["_law_left_here", "_law_way", "_law_many", "_law_comings", "_law_found", "_law_name'", "_law_turned"]:List Str).Nodup:=by decide +kernel
theorem nd__law_deeds_3:("_law_name" :: ["_law_left_here", "_law_way", "_law_many", "_law_comings", "_law_found", "_law_name'", "_law_turned"]:List Str).Nodup:=by decide +kernel
theorem nd__law_deeds_4:("_law_name" :: ["_law_left_here", "_law_way", "_law_many", "_law_comings", "_law_found", "_law_name'", "_law_turned"]:List Str).Nodup:=by decide +kernel
def t_deeds:TF:=fun ds n Q=>ds = [.st] /\ kOf n = 2 /\ ∀ l:List Int,okD [] l -> l.length <= 200 -> Q (.lst (l.map D.int)) n
theorem ok_deeds {f:Addr} {fd:FuncData} (T:Blt mg) (F:Fun K "_law_deeds" "_law_deeds" s__law_deeds f fd) (F__law_pick:Fn P w K mg base "_law_pick" 1 2 t_pick) (F__law_of:Fn P w K mg base "_law_of" 2 2 t_of):FnOk P w K mg base CX0 3 f fd ["_law_left_here"] (spD K 1 t_deeds):=by
 refine Fun.okD F sc__law_deeds (fun cdv A0 outer s H E G Z _ hr=>(pssd_cons (psd_set (i:=1) sc__law_deeds.nd rfl (lo rfl) (pd_fn F__law_pick (hr.mono (by decide)) rfl (pad_cons (pd_var 0) (pad_cons pd_int pad_nil))))
  (pssd_cons (psd_set (i:=2) sc__law_deeds.nd rfl (lo rfl) (pd_fn F__law_of (hr.mono (by decide)) rfl (pad_cons (pd_var 0) (pad_cons (pd_lst (pad_cons pd_int (pad_cons pd_int (pad_cons pd_int (pad_cons pd_int pad_nil))))) pad_nil))))
  (pssd_cons (psd_set (i:=3) sc__law_deeds.nd rfl (lo rfl) (pd_listR hr T.list T.range (pad_cons (pd_var 2) pad_nil)))
  (pssd_cons (psd_if (ptd_cmp op_eq re_eq (pd_var 1) pd_int (nomark _)) (pssd_cons (psd_own (i:=4) sc__law_deeds.nd rfl (lo rfl) pad_nil)
  (pssd_cons (psd_for (m:=7) PassesOwn.never rfl (pid_seq rfl (pd_var 3)) (pgd_name (i:=5) sc__law_deeds.nd rfl (lo rfl) (by decide))
  (pssd_cons (psd_append (i:=4) (pad_cons (pd_var 5) pad_nil) rfl)
  (pssd_one (psd_if (ptd_cmp op_gt re_gt (pd_fn F__law_pick (hr.mono (by decide)) rfl (pad_cons (pd_var 0) (pad_cons pd_int pad_nil))) pd_int (nomark _)) (pssd_one (psd_append (i:=4) (pad_cons (pd_sub (pd_neg pd_int) (pd_var 5)) pad_nil) rfl)) pssd_nil))))
  (pssd_one (psd_frz 4 (psd_ret (pd_var 4)))))) pssd_nil)
  (pssd_cons (psd_if (ptd_cmp op_eq re_eq (pd_var 1) pd_int (nomark _)) (pssd_one (psd_ret (pd_op op_cat re_cat (pd_var 3) (pd_comp (own:=["_law_name"]) (M:=["_law_left_here", "_law_way", "_law_many", "_law_comings", "_law_found", "_law_name'", "_law_turned"]) (compOk (by rfl)) rfl (pid_seq rfl (pd_slV rfl (pd_var 3) pod_none (pod_some (pd_add (pd_div (pd_var 2) pd_int) (pd_fn F__law_pick (hr.mono (by decide)) rfl (pad_cons (pd_var 0) (pad_cons pd_int pad_nil))))))) (fun C s2 H2 fp=>(pgd_name (i:=0) nd__law_deeds_0 rfl (lo rfl) (by decide))) (fun C s2 H2 fp=>ptsd_nil) (fun C s2 H2 fp=>(pd_sub (pd_neg pd_int) (pd_var 0))))))) pssd_nil)
  (pssd_cons (psd_if (ptd_cmp op_eq re_eq (pd_var 1) pd_int (nomark _)) (pssd_one (psd_ret (pd_op op_cat re_cat (pd_var 3) (pd_comp (own:=["_law_name"]) (M:=["_law_left_here", "_law_way", "_law_many", "_law_comings", "_law_found", "_law_name'", "_law_turned"]) (compOk (by rfl)) rfl (pid_seq rfl (pd_slV rfl (pd_revL rfl (pd_var 3)) pod_none (pod_some (pd_add (pd_div (pd_var 2) pd_int) pd_int)))) (fun C s2 H2 fp=>(pgd_name (i:=0) nd__law_deeds_1 rfl (lo rfl) (by decide))) (fun C s2 H2 fp=>ptsd_nil) (fun C s2 H2 fp=>(pd_sub (pd_neg pd_int) (pd_var 0))))))) pssd_nil)
  (pssd_cons (psd_if (ptd_cmp op_eq re_eq (pd_var 1) pd_int (nomark _)) (pssd_one (psd_ret (pd_op op_cat re_cat (pd_op op_cat re_cat (pd_var 3) (pd_comp (own:=["_law_name"]) (M:=["_law_left_here", "_law_way", "_law_many", "_law_comings", "_law_found", "_law_name'", "_law_turned"]) (compOk (by rfl)) rfl (pid_seq rfl (pd_ev rfl (pd_var 3))) (fun C s2 H2 fp=>(pgd_name (i:=0) nd__law_deeds_2 rfl (lo rfl) (by decide))) (fun C s2 H2 fp=>ptsd_nil) (fun C s2 H2 fp=>(pd_sub (pd_neg pd_int) (pd_var 0))))) (pd_comp (own:=["_law_name"]) (M:=["_law_left_here", "_law_way", "_law_many", "_law_comings", "_law_found", "_law_name'", "_law_turned"]) (compOk (by rfl)) rfl (pid_rng T.range (pad_cons pd_int pad_nil)) (fun C s2 H2 fp=>(pgd_name (i:=0) nd__law_deeds_3 rfl (lo rfl) (by decide))) (fun C s2 H2 fp=>ptsd_nil) (fun C s2 H2 fp=>(pd_add (pd_var 3) (pd_var 0))))))) pssd_nil)
  (pssd_cons (psd_set (i:=6) sc__law_deeds.nd rfl (lo rfl) (pd_op op_cat re_cat (pd_slV rfl (pd_var 3) (pod_some (pd_div (pd_var 2) pd_int)) pod_none) (pd_slV rfl (pd_var 3) pod_none (pod_some (pd_div (pd_var 2) pd_int)))))
  (pssd_one (psd_ret (pd_op op_cat re_cat (pd_var 3) (pd_comp (own:=["_law_name"]) (M:=["_law_left_here", "_law_way", "_law_many", "_law_comings", "_law_found", "_law_name'", "_law_turned"]) (compOk (by rfl)) rfl (pid_seq rfl (pd_var 6)) (fun C s2 H2 fp=>(pgd_name (i:=0) nd__law_deeds_4 rfl (lo rfl) (by decide))) (fun C s2 H2 fp=>ptsd_nil) (fun C s2 H2 fp=>(pd_sub (pd_neg pd_int) (pd_var 0)))))))))))))))) ?_
 rintro ds n Q hl ⟨rfl,hn,q⟩
 simp [startD]
 refine pick_intro hn (by decide) (by decide) fun way hw0 hw1=>?_
 simp
 refine of_intro (js:=[3,16,33,64]) hn (by decide) (by decide) fun j hj=>?_
 obtain ⟨m,rfl⟩:=Int.eq_ofNat_of_zero_le (show 0 <= j by simp at hj; lia)
 have hm:3 <= m /\ m <= 64:=by simp at hj; lia
 simp
 refine ⟨by lia,?_⟩
 rw [rngI_E]
 have lr:=len_rngI (a:=0) (m:=m)
 have cmp:∀ (z:Option D) (xs:List Int) (Q2:D -> Nat -> Prop),xs.length <= 200 -> Q2 (.lst ((goD xs).map D.int)) n -> compIn 1 (gdName 0) bYes (dSub (fun rho n P=>P (D.int (-1)) n) (dVar 0)) [some .st,some (.int way),some (.int (m:Int)),some (.lst ((rngI 0 m).map D.int)),none,none,z] Q2 (xs.map D.int) n:=fun z xs Q2 hx h2=>by
  refine comp_mapIn D.int (fun x=>.int (-1 - x)) xs (le_size (by lia)) (fun x hx R hR=>?_) ?_
  ·simp
   exact hR
  ·unfold goD at h2
   rw [List.map_map] at h2
   exact h2
 split
 ·rename_i h
  subst h
  refine ⟨JFd n m,⟨rfl,_,[],rfl,trivial,by simp,by simp⟩,?_,?_⟩
  ·rintro i d rho n' e ⟨rfl, z, fs, rfl, hok, hfl, hfs⟩
   have hi:i < m:=by have:=(List.getElem?_eq_some_iff.mp e).1; rwa [List.length_map,lr] at this
   have ed:d = .int (i:Int):=by
    unfold rngI at e
    rw [List.getElem?_map,List.getElem?_map,List.getElem?_range hi] at e
    simpa using e.symm
   subst ed
   simp
   refine ⟨le_size (by lia),pick_intro hn (by decide) (by decide) fun k hk0 hk1=>?_⟩
   simp
   have f1:okD [] (fs ++ [(i:Int)]):=okD_app.mpr ⟨hok,⟨fun _ hm=>by have:=(hfs _ hm).2; lia,fun z=>by lia⟩,trivial⟩
   have e1:(fs ++ [(i:Int)]).foldl stepD [] = (i:Int) :: fs.foldl stepD []:=by
    rw [List.foldl_append]
    show stepD (fs.foldl stepD []) i = _
    unfold stepD
    exact if_pos (by lia)
   have l1:(fs ++ [(i:Int)]).length = fs.length + 1:=by simp
   split
   ·refine ⟨lt_size (by lia), rfl, _, fs ++ [(i : Int)] ++ [-1 - (i : Int)], by simp; rfl, okD_app.mpr ⟨f1, ?_, trivial⟩, by rw [List.length_append, l1]; simp; lia, fun x hx => ?_⟩
    ·rw [e1]
     exact ⟨fun z=>by lia,fun _=>by rw [show -1 - (-1 - (i:Int)) = i by lia]; exact List.mem_cons_self⟩
    ·rw [List.foldl_append, e1] at hx
     have hx2:x ∈ ((i:Int) :: fs.foldl stepD []).filter fun y=>decide (y ≠ (i:Int)):=by
      rw [<- go_step (by lia)]; exact hx
     obtain ⟨h3,h4⟩:=List.mem_filter.mp hx2
     rcases List.mem_cons.mp h3 with rfl | h3
     ·simp at h4
     ·have:=hfs x h3; lia
   ·refine ⟨rfl, _, fs ++ [(i : Int)], by simp; rfl, f1, by rw [l1]; lia, fun x hx => ?_⟩
    rw [e1] at hx
    rcases List.mem_cons.mp hx with rfl | hx
    ·lia
    ·have:=hfs x hx; lia
  ·rintro rho n' ⟨rfl, z, fs, rfl, hok, hfl, hfs⟩
   rw [List.length_map,lr] at hfl
   simp
   exact q fs hok (by lia)
 split
 ·refine ⟨⟨by decide, by decide⟩, pick_intro hn (by decide) (by decide) fun k hk0 hk1 => ?_⟩
  obtain ⟨e,he⟩:=Int.eq_ofNat_of_zero_le (show 0 <= (m:Int) / 2 + k by lia)
  simp
  rw [he,cut_to _ _ (by rw [List.length_map,lr]; lia),<- List.map_take]
  refine cmp _ _ _ (by rw [List.length_take]; lia) ?_
  simp
  refine ⟨le_size (by simp [goD,lr]; lia),?_⟩
  rw [<- List.map_append]
  exact q _ (ok_both ((List.take_sublist ..).nodup rngI_nodup) fun x hx=>List.mem_of_mem_take hx) (by simp [goD,lr]; lia)
 split
 ·refine ⟨⟨by decide, by decide⟩, ?_⟩
  rw [<- List.map_reverse,show (m:Int) / 2 + 1 = ((m / 2 + 1:Nat):Int) by lia,cut_to _ _ (by rw [List.length_map,List.length_reverse,lr]; lia),<- List.map_take]
  refine cmp _ _ _ (by rw [List.length_take,List.length_reverse]; lia) ?_
  simp
  refine ⟨le_size (by simp [goD,lr]; lia),?_⟩
  rw [<- List.map_append]
  exact q _ (ok_both ((List.take_sublist ..).nodup ((List.reverse_perm _).nodup_iff.mpr rngI_nodup)) fun x hx=>List.mem_reverse.mp (List.mem_of_mem_take hx)) (by simp [goD,lr]; lia)
 split
 ·have es := ev_sub (rngI 0 m)
  have el:=es.length_le
  rw [half_map]
  show compIn 1 _ bYes _ _ _ ((evL (rngI 0 m)).map D.int) n
  refine cmp _ _ _ (by lia) ?_
  simp
  have gl:(goD (evL (rngI 0 m))).length = (evL (rngI 0 m)).length:=List.length_map ..
  refine ⟨le_size (by lia),?_⟩
  rw [rngI_D]
  refine comp_mapIn D.int (fun x=>.int ((m:Int) + x)) (rngI 0 9) (le_size (by decide)) (fun x hx R hR=>?_) ?_
  ·simp
   exact hR
  ·have e9 : (rngI 0 9).map (fun x => D.int ((m : Int) + x)) = (rngI m 9).map D.int := by
    unfold rngI
    rw [List.map_map,List.map_map]
    refine List.map_congr_left fun i _=>?_
    show D.int ((m:Int) + ((0 + i:Nat):Int)) = D.int ((m + i:Nat):Int)
    rw [Nat.zero_add]; simp
   rw [e9,<- List.map_append]
   have l9:(rngI m 9).length = 9:=len_rngI
   simp
   refine ⟨le_size (by lia),?_⟩
   rw [<- List.append_assoc,<- List.map_append,<- List.map_append]
   exact q _ (ok_more (es.nodup rngI_nodup) fun x hx=>es.mem hx) (by rw [List.length_append,List.length_append]; lia)
 rw [show (m:Int) / 3 = ((m / 3:Nat):Int) by lia,cut_from _ _ (by rw [List.length_map,lr]; lia),cut_to _ _ (by rw [List.length_map,lr]; lia),<- List.map_take,<- List.map_drop,<- List.map_append]
 have pm:((rngI 0 m).drop (m / 3) ++ (rngI 0 m).take (m / 3)).Perm (rngI 0 m):=List.perm_append_comm.trans (by rw [List.take_append_drop])
 have pl:=pm.length_eq
 refine ⟨⟨by decide,by decide⟩,le_size (by rw [List.length_map,List.length_map]; rw [List.length_append] at pl; lia),?_⟩
 refine cmp _ _ _ (by lia) ?_
 simp
 have gl:(goD ((rngI 0 m).drop (m / 3) ++ (rngI 0 m).take (m / 3))).length = m:=by rw [show ∀ xs,(goD xs).length = xs.length from fun xs=>List.length_map ..]; lia
 refine ⟨le_size (by lia),?_⟩
 rw [<- List.map_append]
 exact q _ (ok_both (pm.nodup_iff.mpr rngI_nodup) fun x hx=>pm.mem_iff.mp hx) (by rw [List.length_append]; lia)
end
end K55
set_option maxRecDepth 100000
set_option maxHeartbeats 1000000
namespace K55
open PySem L2 PySem.Spec PyProof.Rows
theorem lg_le {c:Nat}:lg c <= c:=by
 unfold lg
 split
 ·lia
 ·rename_i h
  have:=Nat.log2_self_le h
  have:=Nat.lt_two_pow_self (n:=Nat.log2 c)
  lia
theorem most_le {c g:Nat} (h:c + g <= 200):mostN c g <= 50000:=by
 unfold mostN
 have:=lg_le (c:=c)
 have:(c + g) * (1 + lg c) <= 200 * (1 + 200):=Nat.mul_le_mul h (by lia)
 lia
theorem noSt_script (ns:List Int):noSt (scriptD ns) = true:=noSts_iff.mpr fun e he=>by
 obtain ⟨x,_,rfl⟩:=List.mem_map.mp he
 rfl
structure JIn (CP CK k br ro:Addr) (a0 a1:Option D) (l:List Int) (i:Nat) (rho:Rho) (n':Nat):Prop where
 hk:kOf n' = 2
 he:∃ (m c g:Nat) (ps:List Pt) (rk:List (Int × D)) (z z1 z2:Option D),rho = [a0,a1,some .st,some (.rf k),some (.int (c:Int)),some (.int (g:Int)),z,z1,z2] /\ KAt CP CK n' k br ro m ps rk /\ Tran ps [] rk /\ rk.length <= m /\ c + g = i /\ size2 ps <= c /\
  (∀ R,c < 2 ^ (R + 1) -> m + wts R ps <= (c + g) * (1 + R)) /\ ∀ x,x ∈ names ps ↔ x ∈ (l.take i).foldl stepD []
structure JOut (ns:List Int) (n:Nat) (i:Nat) (rho:Rho) (n':Nat):Prop where
 hn:n' = n
 he:∃ a b c d e f g h,rho = [some (scriptD ns),a,b,c,d,e,f,g,h]
section
variable {P:Program} {w:World} {K:PySem.W.Frag} {mg:Str -> Option Value} {base:Heap} {CP CK:Addr}
abbrev s_law:Stmt:=top 30
abbrev N_law:List Str:=["_law_script", "_law_k", "_law_left_here", "_law_kept", "_law_comings", "_law_goings", "_law_deed", "_law_one", "_law_other"]
theorem sc_law:FnScope N_law ["_law_script"] (defScope s_law):=⟨rfl,rfl,rfl,by decide +kernel,rfl,by decide +kernel,by decide +kernel⟩
theorem ok_law {f:Addr} {fd:FuncData} (T:Blt mg) (F:Fun K "law" "law" s_law f fd) (MK_Kept:MkeC P w K mg base CK "Kept" 1 1 (t_kinit CK)) (M_come:MthC P w K mg base CK "come" 17 1 (t_come CP CK)) (M_go:MthC P w K mg base CK "go" 18 1 (t_go CP CK)) (M_made:MthC P w K mg base CK "made" 1 0 (t_made CP CK)) (F__law_left:Fn P w K mg base "_law_left" 2 2 t_left) (F__law_pick:Fn P w K mg base "_law_pick" 1 2 t_pick) (F__law_of:Fn P w K mg base "_law_of" 2 2 t_of) (F__law_deeds:Fn P w K mg base "_law_deeds" 3 1 t_deeds) (F__law_most:Fn P w K mg base "_law_most" 1 2 t_most) (F_most_made:Fn P w K mg base "most_made" 1 2 t_most):FnOk P w K mg base CX0 20 f fd ["_law_script"] (spLawD K):=by
 refine Fun.okLaw F sc_law 2 (fun cdv A0 outer s H E hr=>(pssd_cons (psd_for (m:=9) PassesOwn.never rfl (pid_rng T.range (pad_cons (pd_callB (call_max2 rfl) cr_max2 T.max bt_max (pad_cons pd_int (pad_cons (pd_callB (call_min2 rfl) cr_min2 T.min bt_min (pad_cons pd_int (pad_cons (pd_callB call_len_seq cr_len T.len bt_len (pad_cons (pd_var 0) pad_nil)) pad_nil))) pad_nil))) pad_nil)) (pgd_name (i:=1) sc_law.nd rfl (lo rfl) (by decide))
  (pssd_newK (i:=2) rfl sc_law.nd rfl (lo rfl) F__law_left (hr.mono (by decide)) rfl (pad_cons (pd_var 0) (pad_cons (pd_var 1) pad_nil)) (fun c Z H0=>(pssd_cons (psd_set (i:=3) sc_law.nd rfl (lo rfl) (pd_makeC MK_Kept (hr.mono (by decide)) rfl (pad_cons pd_int pad_nil)))
  (pssd_cons (psd_unp (m:=9) (pd_tup (pad_cons pd_int (pad_cons pd_int pad_nil))) (pgd_tup (k:=2) rfl rfl (pgsd_cons (pgd_name (i:=4) sc_law.nd rfl (lo rfl) (by decide)) (pgsd_cons (pgd_name (i:=5) sc_law.nd rfl (lo rfl) (by decide)) pgsd_nil))))
  (pssd_cons (psd_for (m:=9) PassesOwn.never rfl (pid_seq rfl (pd_fn F__law_deeds (hr.mono (by decide)) rfl (pad_cons (pd_var 2) pad_nil))) (pgd_name (i:=6) sc_law.nd rfl (lo rfl) (by decide))
  (pssd_cons (psd_if (ptd_cmp op_ge re_ge (pd_var 6) pd_int (nomark _)) (pssd_cons (psd_expr (pd_methC M_come (hr.mono (by decide)) rfl (pd_var 3) (pad_cons (pd_tup (pad_cons (pd_var 6) (pad_cons (pd_tup (pad_cons (pd_fn F__law_pick (hr.mono (by decide)) rfl (pad_cons (pd_var 2) (pad_cons pd_int pad_nil))) pad_nil)) (pad_cons pd_int pad_nil)))) pad_nil)))
  (pssd_one (psd_set (i:=4) sc_law.nd rfl (lo rfl) (pd_add (pd_var 4) pd_int)))) (pssd_cons (psd_expr (pd_methC M_go (hr.mono (by decide)) rfl (pd_var 3) (pad_cons (pd_sub (pd_neg pd_int) (pd_var 6)) pad_nil)))
  (pssd_one (psd_set (i:=5) sc_law.nd rfl (lo rfl) (pd_add (pd_var 5) pd_int)))))
  (pssd_one (psd_if (PWD.pt (pwd_or (ptd_cmp op_gt re_gt (pd_meth0C M_made (hr.mono (by decide)) rfl (pd_var 3)) (pd_fn F__law_most (hr.mono (by decide)) rfl (pad_cons (pd_var 4) (pad_cons (pd_var 5) pad_nil))) (nomark _)) (pwd_or1 (ptd_cmp op_ne re_ne (pd_fn F_most_made (hr.mono (by decide)) rfl (pad_cons (pd_var 4) (pad_cons (pd_var 5) pad_nil))) (pd_fn F__law_most (hr.mono (by decide)) rfl (pad_cons (pd_var 4) (pad_cons (pd_var 5) pad_nil))) (nomark _))))) (pssd_one (psd_ret pd_bl)) pssd_nil))))
  (pssd_cons (psd_parK (i:=7) (j:=8) rfl sc_law.nd rfl rfl (by decide) rfl rfl (pad_cons (pd_fn F__law_pick (hr.mono (by decide)) rfl (pad_cons (pd_var 2) (pad_cons (pd_fn F__law_of (hr.mono (by decide)) rfl (pad_cons (pd_var 2) (pad_cons (pd_lst (pad_cons pd_int (pad_cons pd_int (pad_cons pd_int pad_nil)))) pad_nil))) pad_nil))) (pad_cons (pd_fn F__law_pick (hr.mono (by decide)) rfl (pad_cons (pd_var 2) (pad_cons pd_int pad_nil))) pad_nil)))
  (pssd_one (psd_if (ptd_cmp op_ne re_ne (pd_fn F_most_made (hr.mono (by decide)) rfl (pad_cons (pd_var 7) (pad_cons (pd_var 8) pad_nil))) (pd_fn F__law_most (hr.mono (by decide)) rfl (pad_cons (pd_var 7) (pad_cons (pd_var 8) pad_nil))) (nomark _)) (pssd_one (psd_ret pd_bl)) pssd_nil)))))))))
  (pssd_one (psd_ret pd_bl)))) ?_
 intro ns hns
 have nsc:notOwn (scriptD ns) = true:=id rfl
 simp [startD,nsc]
 generalize hJ:(if 1 < if (ns.length:Int) < 6 then (ns.length:Int) else 6 then if (ns.length:Int) < 6 then (ns.length:Int) else 6 else 1) = J
 have hJ1:1 <= J /\ J <= 6:=by rw [<- hJ]; split <;> (try split) <;> lia
 clear hJ
 refine ⟨by lia,by lia,JOut ns 2,⟨rfl,_,_,_,_,_,_,_,_,rfl⟩,?_,?_⟩
 ·rintro i d' rho m e ⟨rfl, a, b, c, d1, e1, f1, g1, h1, rfl⟩
  obtain ⟨hi,rfl⟩:=rng_at e
  simp
  refine newK_intro ns (by simp) (i:Int) (by simp [nsc]) (fun P P' h=>by simp [nsc]; exact h _ _) ?_
  refine ⟨ns,_,rfl,hns,by lia,by lia,fun x y hx hy hy2=>⟨[x,y],rfl,rfl,by simp [hx,hy],by simp [hy2],?_⟩⟩
  have hs:keepO (some (scriptD ns)) = some (scriptD ns):=keepO_pos (noSt_script ns)
  simp [keepRho,hs]
  generalize keepO (some (D.int (i:Int))) = k1
  generalize keepO c = k2
  generalize keepO d1 = k3
  generalize keepO e1 = k4
  generalize keepO f1 = k5
  generalize keepO g1 = k6
  generalize keepO h1 = k7
  intro a ha
  have pl0:plC (.ins CK []) = true:=rfl
  refine ⟨a,rfl,cell_self pl0,fun n1 br ro hK hk0=>⟨rfl,?_⟩⟩
  have hk:kOf n1 = 2:=hk0.trans ((kOf_set pl0).trans kOf_2)
  refine ⟨rfl,hk,fun l hok hl=>⟨_,.inl rfl,?_⟩⟩
  refine ⟨JIn CP CK a br ro (some (scriptD ns)) k1 l,⟨hk,0,0,0,[],[],k5,k6,k7,rfl,hK CP,?_,by simp,rfl,by simp [size2],fun R _=>by simp [wts],fun x=>by simp [names]⟩,?_,?_⟩
  ·exact ⟨by simp,by simp,by simp,by simp [names],by simp,by simp,fun x hx=>by simp [getP] at hx⟩
  ·rintro j d rho n2 ej ⟨hk2, m, c, g, ps, rk, z, z1, z2, rfl, hA, ht, hrk, hcg, hsz, hR, hnm⟩
   rw [List.getElem?_map] at ej
   obtain ⟨d,ed,rfl⟩:=Option.map_eq_some_iff.mp ej
   have hj:j < l.length:=(List.getElem?_eq_some_iff.mp ed).1
   obtain ⟨f1,f2⟩:=okD_at hok ed
   have hm:m <= 100000:=by
    have h1:=hR (lg c) lg_up
    have h2:=most_le (c:=c) (g:=g) (by lia)
    unfold mostN at h2
    lia
   have tk:(l.take (j + 1)).foldl stepD [] = stepD ((l.take j).foldl stepD []) d:=by
    rw [List.take_add_one,ed,List.foldl_append]; rfl
   simp
   split
   ·rename_i h0
    refine insAt_mk hA.i ⟨kF_none,?_⟩
    refine pick_intro hk2 (by decide) (by decide) fun x9 _ _=>?_
    have nin:d ∉ names ps:=fun hm=>f1 h0 ((hnm d).mp hm)
    refine ⟨a,br,ro,m,ps,rk,(d,[x9],1),rfl,hA,ht,nin,rfl,by lia,hrk,hm,fun n3 m' ps' rk' g1 g2 g3 g4 g5 g6 g7=>?_⟩
    have hR':∀ R,c + 1 < 2 ^ (R + 1) -> m' + wts R ps' <= (c + 1 + g) * (1 + R):=fun R h=>by
     have a1:=hR R (by lia)
     have a2:=g6 R (by lia)
     rw [show c + 1 + g = (c + g) + 1 by lia,Nat.succ_mul]
     lia
    refine insAt_mk g1.i ⟨kF_none,a,br,ro,m',ps',rk',rfl,g1,?_⟩
    have ec:(c:Int) + 1 = ((c + 1:Nat):Int):=by simp
    rw [ec]
    have h7:=hR' (lg (c + 1)) lg_up
    have h8:m' <= mostN (c + 1) g:=by unfold mostN; lia
    refine ⟨c + 1,g,rfl,by lia,by lia,?_⟩
    simp
    refine ⟨by lia,c + 1,g,rfl,by lia,by lia,c + 1,g,rfl,by lia,by lia,?_⟩
    simp
    refine ⟨g2.trans hk2,m',c + 1,g,ps',rk',_,_,_,rfl,g1,g3,g4,by lia,by lia,hR',fun x=>?_⟩
    rw [tk,g7 x,hnm x]
    unfold stepD
    rw [if_pos h0,List.mem_cons]
   ·rename_i h0
    refine insAt_mk hA.i ⟨kF_none,?_⟩
    have nin:-1 - d ∈ names ps:=(hnm _).mpr (f2 (by lia))
    refine ⟨a,br,ro,m,ps,rk,-1 - d,rfl,hA,ht,nin,by lia,hrk,hm,fun n3 m' ps' rk' g1 g2 g3 g4 g5 g6 g7=>?_⟩
    have hR':∀ R,c < 2 ^ (R + 1) -> m' + wts R ps' <= (c + (g + 1)) * (1 + R):=fun R h=>by
     have a1:=hR R (by lia)
     have a2:=g6 R (by lia)
     rw [show c + (g + 1) = (c + g) + 1 by lia,Nat.succ_mul]
     lia
    refine insAt_mk g1.i ⟨kF_none,a,br,ro,m',ps',rk',rfl,g1,?_⟩
    have ec:(g:Int) + 1 = ((g + 1:Nat):Int):=by simp
    rw [ec]
    have h7:=hR' (lg c) lg_up
    have h8:m' <= mostN c (g + 1):=by unfold mostN; lia
    refine ⟨c,g + 1,rfl,by lia,by lia,?_⟩
    simp
    refine ⟨by lia,c,g + 1,rfl,by lia,by lia,c,g + 1,rfl,by lia,by lia,?_⟩
    simp
    refine ⟨g2.trans hk2,m',c,g + 1,ps',rk',_,_,_,rfl,g1,g3,g4,by lia,by lia,hR',fun x=>?_⟩
    rw [tk,g7 x,hnm x]
    unfold stepD
    rw [if_neg h0,List.mem_filter]
    simp
  ·rintro rho n2 ⟨hk2, m, c, g, ps, rk, z, z1, z2, rfl, hA, ht, hrk, hcg, hsz, hR, hnm⟩
   simp
   refine of_intro (js:=[3,70,257]) hk2 (by decide) (by decide) fun u hu=>?_
   obtain ⟨u,rfl⟩:=Int.eq_ofNat_of_zero_le (show 0 <= u by simp at hu; lia)
   have hu1:3 <= u /\ u <= 257:=by simp at hu; lia
   refine pick_intro hk2 (by lia) (by lia) fun v hv0 hv1=>pick_intro hk2 (by decide) (by decide) fun y2 hy0 hy1=>?_
   obtain ⟨v,rfl⟩:=Int.eq_ofNat_of_zero_le hv0
   obtain ⟨y2,rfl⟩:=Int.eq_ofNat_of_zero_le hy0
   simp
   refine ⟨_,_,rfl,by lia,by lia,_,_,rfl,by lia,by lia,?_⟩
   simp
   exact ⟨rfl,_,_,_,_,_,_,_,_,by rw [hs]⟩
 ·rintro rho n' ⟨rfl, a, b, c, d1, e1, f1, g1, h1, rfl⟩
  simp
end
end K55
set_option maxRecDepth 100000
set_option maxHeartbeats 1000000
namespace K55
open PySem L2 PySem.Spec PyProof.Rows
theorem len_succ {α:Type} {us:List α} {c:Nat} (h:us.length = c + 1):∃ a r,us = a :: r /\ r.length = c:=by
 cases us with
 | nil=>cases h
 | cons a r=>exact ⟨a,r,rfl,Nat.succ.inj h⟩
theorem us_1 {fd:FuncData} {ps:List Str} {us:List Value} (h:us.length = 1) (q:∀ x0,bindArgs fd ⟨[x0],[]⟩ = pure (ps.zip [x0])):bindArgs fd ⟨us,[]⟩ = pure (ps.zip us):=by
 obtain ⟨x0,u0,rfl,h0⟩:=len_succ h
 obtain rfl:=List.length_eq_zero_iff.mp h0
 exact q x0
theorem us_2 {fd:FuncData} {ps:List Str} {us:List Value} (h:us.length = 2) (q:∀ x0 x1,bindArgs fd ⟨[x0,x1],[]⟩ = pure (ps.zip [x0,x1])):bindArgs fd ⟨us,[]⟩ = pure (ps.zip us):=by
 obtain ⟨x0,u0,rfl,h0⟩:=len_succ h
 obtain ⟨x1,u1,rfl,h1⟩:=len_succ h0
 obtain rfl:=List.length_eq_zero_iff.mp h1
 exact q x0 x1
theorem us_3 {fd:FuncData} {ps:List Str} {us:List Value} (h:us.length = 3) (q:∀ x0 x1 x2,bindArgs fd ⟨[x0,x1,x2],[]⟩ = pure (ps.zip [x0,x1,x2])):bindArgs fd ⟨us,[]⟩ = pure (ps.zip us):=by
 obtain ⟨x0,u0,rfl,h0⟩:=len_succ h
 obtain ⟨x1,u1,rfl,h1⟩:=len_succ h0
 obtain ⟨x2,u2,rfl,h2⟩:=len_succ h1
 obtain rfl:=List.length_eq_zero_iff.mp h2
 exact q x0 x1 x2
theorem us_4 {fd:FuncData} {ps:List Str} {us:List Value} (h:us.length = 4) (q:∀ x0 x1 x2 x3,bindArgs fd ⟨[x0,x1,x2,x3],[]⟩ = pure (ps.zip [x0,x1,x2,x3])):bindArgs fd ⟨us,[]⟩ = pure (ps.zip us):=by
 obtain ⟨x0,u0,rfl,h0⟩:=len_succ h
 obtain ⟨x1,u1,rfl,h1⟩:=len_succ h0
 obtain ⟨x2,u2,rfl,h2⟩:=len_succ h1
 obtain ⟨x3,u3,rfl,h3⟩:=len_succ h2
 obtain rfl:=List.length_eq_zero_iff.mp h3
 exact q x0 x1 x2 x3
structure Dn (K:PySem.W.Frag) (x:Str) (st:Stmt):Prop where
 ex:∃ (f:Addr) (fd:FuncData),PySem.W.nsIn K mainGlobals x = some (some (.ref f)) /\ Fun K x x st f fd
theorem dn {K:PySem.W.Frag} {x:Str} {st:Stmt} {f:Addr} {oc:Value} {od an:Option Addr} {osl:Array (Option Value)} {kV doc pm cdv ct:Value} (a:PySem.W.nsIn K mainGlobals x = some (some (.ref f))) (l:K.lookup f = some ⟨oc,od,.func (PySem.W.fnOf x x (defArgs st) (defBody st) (defScope st) .none kV doc pm an cdv ct),osl⟩) (c:PySem.W.codeIn K cdv x = true) (k:PySem.W.keepIn K (.ref f) = true):Dn K x st:=⟨f,_,a,fun_mk (st:=st) l c k⟩
theorem Dn.fn {P:Program} {w:World} {K:PySem.W.Frag} {mg:Str -> Option Value} {base h:Heap} {x:Str} {st:Stmt} {kk k:Nat} {t:TF} {ps:List Str} (d:Dn K x st) (X:K.In h) (G:h.Ns mainGlobals mg) (b:∀ (kV doc pm:Value) (an:Option Addr) (cdv ct:Value) (us:List Value),us.length = ps.length -> bindArgs (PySem.W.fnOf x x (defArgs st) (defBody st) (defScope st) .none kV doc pm an cdv ct) ⟨us,[]⟩ = pure (ps.zip us)) (ok:∀ (f:Addr) (fd:FuncData),Fun K x x st f fd -> mg x = some (.ref f) -> PySem.W.keepIn K (.ref f) = true -> Binds K fd ps [] -> FnOk P w K mg base CX0 kk f fd ps (spD K k t)):Fn P w K mg base x kk k t:=by
 obtain ⟨f,fd,a,F⟩:=d.ex
 have m:=PySem.W.mg_of X G a
 have B:=F.binds b
 exact ⟨f,fd,ps,ok f fd F m F.kp B,m,F.kp,B⟩
structure Dm (K:PySem.W.Frag) (C:Addr) (m qual:Str) (st:Stmt):Prop where
 ex:∃ (f:Addr) (fd:FuncData),Meth K C m f /\ Fun K m qual st f fd
theorem dm {K:PySem.W.Frag} {C:Addr} {m qual:Str} {st:Stmt} {f:Addr} {oc:Value} {od an:Option Addr} {osl:Array (Option Value)} {kV doc pm cdv ct:Value} (a:PySem.W.findIn K (.ref C) m = some (some (.ref f))) (i:PySem.W.isFn K (.ref f) = true) (l:K.lookup f = some ⟨oc,od,.func (PySem.W.fnOf m qual (defArgs st) (defBody st) (defScope st) .none kV doc pm an cdv ct),osl⟩) (c:PySem.W.codeIn K cdv qual = true) (k:PySem.W.keepIn K (.ref f) = true):Dm K C m qual st:=⟨f,_,⟨a,i,k⟩,fun_mk (st:=st) l c k⟩
theorem Dm.mth {P:Program} {w:World} {K:PySem.W.Frag} {mg:Str -> Option Value} {base:Heap} {C:Addr} {m qual:Str} {st:Stmt} {kk k:Nat} {t:TF} {ps:List Str} (d:Dm K C m qual st) (c:Cls K C) (b:∀ (kV doc pm:Value) (an:Option Addr) (cdv ct:Value) (us:List Value),us.length = ps.length -> bindArgs (PySem.W.fnOf m qual (defArgs st) (defBody st) (defScope st) .none kV doc pm an cdv ct) ⟨us,[]⟩ = pure (ps.zip us)) (ok:∀ (f:Addr) (fd:FuncData),Fun K m qual st f fd -> FnOk P w K mg base CX0 kk f fd ps (spD K (k + 1) t)):MthC P w K mg base C m kk k t:=by
 obtain ⟨f,fd,M,F⟩:=d.ex
 exact ⟨f,fd,ps,ok f fd F,M,c,F.binds b⟩
theorem Dm.mke {P:Program} {w:World} {K:PySem.W.Frag} {mg:Str -> Option Value} {base:Heap} {C:Addr} {x qual:Str} {st:Stmt} {kk k:Nat} {t:TF} {ps:List Str} (d:Dm K C "__init__" qual st) (mk:PySem.W.makesIn K C = true) (kc:PySem.W.keepIn K (.ref C) = true) (hm:mg x = some (.ref C)) (b:∀ (kV doc pm:Value) (an:Option Addr) (cdv ct:Value) (us:List Value),us.length = ps.length -> bindArgs (PySem.W.fnOf "__init__" qual (defArgs st) (defBody st) (defScope st) .none kV doc pm an cdv ct) ⟨us,[]⟩ = pure (ps.zip us)) (ok:∀ (f:Addr) (fd:FuncData),Fun K "__init__" qual st f fd -> FnOk P w K mg base CX0 kk f fd ps (spD K (k + 1) t)):MkeC P w K mg base C x kk k t:=by
 obtain ⟨f,fd,M,F⟩:=d.ex
 exact ⟨f,fd,ps,ok f fd F,⟨mk,M.at_,M.fn,kc⟩,hm,F.binds b⟩
theorem all_mk {l:PySem.W.OpenLaw} {w:World} {K:PySem.W.Frag} {h:Heap} {mg:Str -> Option Value} {fa f25:Addr} (X:K.In h) (G:h.Ns mainGlobals mg) (hfa:mg "law" = some (.ref fa))
  {od25 an25:Option Addr} {sl25:Array (Option Value)} {oc25 kV25 dc25 pm25 cd25 ct25:Value}
  {C_Part:Addr}
  {C_Kept:Addr}
  (d0:Dn K "things_by_name" s_things_by_name)
  (d1:Dn K "names_by" s_names_by)
  (d2:Dn K "names_in_order" s_names_in_order)
  (d3:Dn K "halved_up" s_halved_up)
  (d4:Dn K "bounds" s_bounds)
  (d5:Dn K "bounds_of" s_bounds_of)
  (d6:Dn K "tree_of" s_tree_of)
  (d7:Dn K "all_names" s_all_names)
  (d8:Dn K "turns" s_turns)
  (d9:Dn K "rank_for" s_rank_for)
  (d10:Dn K "most_made" s_most_made)
  (d11:Dm K C_Part "__init__" "Part.__init__" s_Part_init)
  (d12:Dm K C_Part "left" "Part.left" s_Part_left)
  (d13:Dm K C_Kept "__init__" "Kept.__init__" s_Kept_init)
  (d14:Dm K C_Kept "put_in" "Kept.put_in" s_Kept_put_in)
  (d15:Dm K C_Kept "make_anew" "Kept.make_anew" s_Kept_make_anew)
  (d16:Dm K C_Kept "come" "Kept.come" s_Kept_come)
  (d17:Dm K C_Kept "go" "Kept.go" s_Kept_go)
  (d18:Dm K C_Kept "made" "Kept.made" s_Kept_made)
  (d19:Dn K "_law_cell_at" s__law_cell_at)
  (d20:Dn K "_law_left" s__law_left)
  (d21:Dn K "_law_pick" s__law_pick)
  (d22:Dn K "_law_of" s__law_of)
  (d23:Dn K "_law_most" s__law_most)
  (d24:Dn K "_law_deeds" s__law_deeds)
  (a25:PySem.W.nsIn K mainGlobals "law" = some (some (.ref f25))) (l25:K.lookup f25 = some ⟨oc25,od25,.func (PySem.W.fnOf "law" "law" (defArgs s_law) (defBody s_law) (defScope s_law) .none kV25 dc25 pm25 an25 cd25 ct25),sl25⟩) (c25:PySem.W.codeIn K cd25 "law" = true) (k25:PySem.W.keepIn K (.ref f25) = true)
  (cn0:PySem.W.nsIn K mainGlobals "Part" = some (some (.ref C_Part)))
  (cn1:PySem.W.nsIn K mainGlobals "Kept" = some (some (.ref C_Kept)))
  (xh_pgP:PySem.W.plainGet K C_Part Str.empty = true)
  (xh_hdP:PySem.W.hasDictIn K C_Part = true)
  (xh_poP:PySem.W.plainOver K C_Part = true)
  (xh_saP:PySem.W.findIn K (.ref C_Part) "__setattr__" = some (some (.builtin "object.__setattr__")))
  (xh_mkPart:PySem.W.makesIn K C_Part = true)
  (xh_kcPart:PySem.W.keepIn K (.ref C_Part) = true)
  (xh_ptg:PySem.W.findIn K (.ref C_Part) "things" = some none)
  (xh_phd:PySem.W.findIn K (.ref C_Part) "held" = some none)
  (xh_ptr:PySem.W.findIn K (.ref C_Part) "tree" = some none)
  (xh_pgn:PySem.W.findIn K (.ref C_Part) "gone" = some none)
  (xh_pgK:PySem.W.plainGet K C_Kept Str.empty = true)
  (xh_hdK:PySem.W.hasDictIn K C_Kept = true)
  (xh_poK:PySem.W.plainOver K C_Kept = true)
  (xh_saK:PySem.W.findIn K (.ref C_Kept) "__setattr__" = some (some (.builtin "object.__setattr__")))
  (xh_mkKept:PySem.W.makesIn K C_Kept = true)
  (xh_kcKept:PySem.W.keepIn K (.ref C_Kept) = true)
  (xh_kd:PySem.W.findIn K (.ref C_Kept) "d" = some none)
  (xh_kb:PySem.W.findIn K (.ref C_Kept) "by_rank" = some none)
  (xh_kr:PySem.W.findIn K (.ref C_Kept) "rank_of" = some none)
  (xh_km:PySem.W.findIn K (.ref C_Kept) "so_many_made" = some none)
  (z0:PySem.W.nsIn K mainGlobals "len" = some none) (z1:PySem.W.nsIn K mainGlobals "abs" = some none) (z2:PySem.W.nsIn K mainGlobals "all" = some none) (z3:PySem.W.nsIn K mainGlobals "any" = some none) (z4:PySem.W.nsIn K mainGlobals "isinstance" = some none) (z5:PySem.W.nsIn K mainGlobals "int" = some none) (z6:PySem.W.nsIn K mainGlobals "bool" = some none) (z7:PySem.W.nsIn K mainGlobals "str" = some none) (z8:PySem.W.nsIn K mainGlobals "tuple" = some none) (z9:PySem.W.nsIn K mainGlobals "list" = some none) (z10:PySem.W.nsIn K mainGlobals "range" = some none) (z11:PySem.W.nsIn K mainGlobals "zip" = some none) (z12:PySem.W.nsIn K mainGlobals "enumerate" = some none) (z13:PySem.W.nsIn K mainGlobals "max" = some none) (z14:PySem.W.nsIn K mainGlobals "min" = some none) (z15:PySem.W.nsIn K mainGlobals "sorted" = some none) :
  ∃ fd:FuncData,(∀ (s:Shared) (v:Value),BindsTo s fd ⟨[v],[]⟩ [("_law_script",v)]) /\ ∀ base:Heap,K.In base -> base.Ns mainGlobals mg -> base.NoDigits -> FnOk l.prog w K mg base CX0 20 fa fd ["_law_script"] (spLawD K):=by
 have e:=hfa.symm.trans (PySem.W.mg_of X G a25)
 cases e
 have T:Blt mg:=⟨PySem.W.mg_none_of X G z0,PySem.W.mg_none_of X G z1,PySem.W.mg_none_of X G z2,PySem.W.mg_none_of X G z3,PySem.W.mg_none_of X G z4,PySem.W.mg_none_of X G z5,PySem.W.mg_none_of X G z6,PySem.W.mg_none_of X G z7,PySem.W.mg_none_of X G z8,PySem.W.mg_none_of X G z9,PySem.W.mg_none_of X G z10,PySem.W.mg_none_of X G z11,PySem.W.mg_none_of X G z12,PySem.W.mg_none_of X G z13,PySem.W.mg_none_of X G z14,PySem.W.mg_none_of X G z15⟩
 have CX_Part:=PySem.W.mg_of X G cn0
 have CX_Kept:=PySem.W.mg_of X G cn1
 have CL_Part:Cls K C_Part:=⟨xh_pgP,xh_hdP,xh_poP,xh_saP⟩
 have CL_Kept:Cls K C_Kept:=⟨xh_pgK,xh_hdK,xh_poK,xh_saK⟩
 have NA_things:NoAttr K C_Part "things" := xh_ptg
 have NA_held:NoAttr K C_Part "held" := xh_phd
 have NA_tree:NoAttr K C_Part "tree" := xh_ptr
 have NA_gone:NoAttr K C_Part "gone" := xh_pgn
 have NA_d:NoAttr K C_Kept "d" := xh_kd
 have NA_by_rank:NoAttr K C_Kept "by_rank" := xh_kb
 have NA_rank_of:NoAttr K C_Kept "rank_of" := xh_kr
 have NA_so_many_made:NoAttr K C_Kept "so_many_made" := xh_km
 have U25:=fun_mk (st:=s_law) l25 c25 k25
 refine ⟨PySem.W.fnOf "law" "law" (defArgs s_law) (defBody s_law) (defScope s_law) .none kV25 dc25 pm25 an25 cd25 ct25,fun s v=>.of_eq rfl,fun base _ _ ND=>?_⟩
 have F_things_by_name:Fn l.prog w K mg base "things_by_name" 1 1 t_tbn:=d0.fn X G (ps:=["house"]) (fun _ _ _ _ _ _ us hl=>us_1 hl fun _=>rfl) fun _ _ U M N B=>ok_tbn T U
 have F_names_by:Fn l.prog w K mg base "names_by" 1 2 t_names_by:=d1.fn X G (ps:=["things", "i"]) (fun _ _ _ _ _ _ us hl=>us_2 hl fun _ _=>rfl) fun _ _ U M N B=>ok_names_by T U
 have F_names_in_order:Fn l.prog w K mg base "names_in_order" 2 3 t_in_order:=d2.fn X G (ps:=["by_name", "names", "i"]) (fun _ _ _ _ _ _ us hl=>us_3 hl fun _ _ _=>rfl) fun _ _ U M N B=>ok_in_order U F_names_by
 have F_halved_up:Fn l.prog w K mg base "halved_up" 1 1 t_halved_up:=d3.fn X G (ps:=["count"]) (fun _ _ _ _ _ _ us hl=>us_1 hl fun _=>rfl) fun _ _ U M N B=>ok_halved_up U
 have F_bounds:Fn l.prog w K mg base "bounds" 1 1 t_boundsL:=d4.fn X G (ps:=["places"]) (fun _ _ _ _ _ _ us hl=>us_1 hl fun _=>rfl) fun _ _ U M N B=>ok_boundsL T U
 have F_bounds_of:Fn l.prog w K mg base "bounds_of" 2 2 t_bounds_of:=d5.fn X G (ps:=["by_name", "names"]) (fun _ _ _ _ _ _ us hl=>us_2 hl fun _ _=>rfl) fun _ _ U M N B=>ok_bounds_of U F_bounds
 have F_tree_of:Fn l.prog w K mg base "tree_of" 12 4 (t_tree 10):=d6.fn X G (ps:=["d", "by_name", "names", "i"]) (fun _ _ _ _ _ _ us hl=>us_4 hl fun _ _ _ _=>rfl) fun _ _ U M N B=>ok_tree T U M N B F_bounds_of F_names_in_order F_halved_up 10
 have F_all_names:Fn l.prog w K mg base "all_names" 1 1 t_all_names:=d7.fn X G (ps:=["house"]) (fun _ _ _ _ _ _ us hl=>us_1 hl fun _=>rfl) fun _ _ U M N B=>ok_all_names T U
 have F_turns:Fn l.prog w K mg base "turns" 13 1 t_turns:=d8.fn X G (ps:=["house"]) (fun _ _ _ _ _ _ us hl=>us_1 hl fun _=>rfl) fun _ _ U M N B=>ok_turns T U F_tree_of F_things_by_name F_all_names
 have F_rank_for:Fn l.prog w K mg base "rank_for" 1 1 t_rankfor:=d9.fn X G (ps:=["many"]) (fun _ _ _ _ _ _ us hl=>us_1 hl fun _=>rfl) fun _ _ U M N B=>ok_rankfor U
 have F_most_made:Fn l.prog w K mg base "most_made" 1 2 t_most:=d10.fn X G (ps:=["comings", "goings"]) (fun _ _ _ _ _ _ us hl=>us_2 hl fun _ _=>rfl) fun _ _ U M N B=>ok_most U
 have MK_Part:MkeC l.prog w K mg base C_Part "Part" 14 2 (t_pinit C_Part):=d11.mke xh_mkPart xh_kcPart CX_Part (ps:=["self", "d", "things"]) (fun _ _ _ _ _ _ us hl=>us_3 hl fun _ _ _=>rfl) fun _ _ U=>ok_pinit T CL_Part NA_things NA_held NA_tree NA_gone U F_turns
 have M_left:MthC l.prog w K mg base C_Part "left" 1 0 (t_pleft C_Part):=d12.mth CL_Part (ps:=["self"]) (fun _ _ _ _ _ _ us hl=>us_1 hl fun _=>rfl) fun _ _ U=>ok_pleft T CL_Part NA_things NA_gone U
 have MK_Kept:MkeC l.prog w K mg base C_Kept "Kept" 1 1 (t_kinit C_Kept):=d13.mke xh_mkKept xh_kcKept CX_Kept (ps:=["self", "d"]) (fun _ _ _ _ _ _ us hl=>us_2 hl fun _ _=>rfl) fun _ _ U=>ok_kinit CL_Kept NA_d NA_by_rank NA_rank_of NA_so_many_made U
 have M_put_in:MthC l.prog w K mg base C_Kept "put_in" 16 2 (t_putin C_Part C_Kept):=d14.mth CL_Kept (ps:=["self", "rank", "things"]) (fun _ _ _ _ _ _ us hl=>us_3 hl fun _ _ _=>rfl) fun _ _ U=>ok_putin T CL_Kept NA_d NA_by_rank NA_rank_of NA_so_many_made U M_left MK_Part
 have M_make_anew:MthC l.prog w K mg base C_Kept "make_anew" 17 1 (t_anew C_Part C_Kept):=d15.mth CL_Kept (ps:=["self", "rank"]) (fun _ _ _ _ _ _ us hl=>us_2 hl fun _ _=>rfl) fun _ _ U=>ok_anew T CL_Kept NA_by_rank U M_left M_put_in F_rank_for
 have M_come:MthC l.prog w K mg base C_Kept "come" 17 1 (t_come C_Part C_Kept):=d16.mth CL_Kept (ps:=["self", "thing"]) (fun _ _ _ _ _ _ us hl=>us_2 hl fun _ _=>rfl) fun _ _ U=>ok_come CL_Kept NA_rank_of U M_put_in
 have M_go:MthC l.prog w K mg base C_Kept "go" 18 1 (t_go C_Part C_Kept):=d17.mth CL_Kept (ps:=["self", "name"]) (fun _ _ _ _ _ _ us hl=>us_2 hl fun _ _=>rfl) fun _ _ U=>ok_go T CL_Kept CL_Part NA_things NA_gone NA_by_rank NA_rank_of U M_make_anew
 have M_made:MthC l.prog w K mg base C_Kept "made" 1 0 (t_made C_Part C_Kept):=d18.mth CL_Kept (ps:=["self"]) (fun _ _ _ _ _ _ us hl=>us_1 hl fun _=>rfl) fun _ _ U=>ok_made CL_Kept NA_so_many_made U
 have F__law_cell_at:Fn l.prog w K mg base "_law_cell_at" 1 2 t_cell_at:=d19.fn X G (ps:=["_law_script", "_law_k"]) (fun _ _ _ _ _ _ us hl=>us_2 hl fun _ _=>rfl) fun _ _ U M N B=>ok_cell_at T U
 have F__law_left:Fn l.prog w K mg base "_law_left" 2 2 t_left:=d20.fn X G (ps:=["_law_script", "_law_k"]) (fun _ _ _ _ _ _ us hl=>us_2 hl fun _ _=>rfl) fun _ _ U M N B=>ok_left T ND U F__law_cell_at
 have F__law_pick:Fn l.prog w K mg base "_law_pick" 1 2 t_pick:=d21.fn X G (ps:=["_law_left_here", "_law_many"]) (fun _ _ _ _ _ _ us hl=>us_2 hl fun _ _=>rfl) fun _ _ U M N B=>ok_pick U
 have F__law_of:Fn l.prog w K mg base "_law_of" 2 2 t_of:=d22.fn X G (ps:=["_law_left_here", "_law_some"]) (fun _ _ _ _ _ _ us hl=>us_2 hl fun _ _=>rfl) fun _ _ U M N B=>ok_of T U F__law_pick
 have F__law_most:Fn l.prog w K mg base "_law_most" 1 2 t_most:=d23.fn X G (ps:=["_law_comings", "_law_goings"]) (fun _ _ _ _ _ _ us hl=>us_2 hl fun _ _=>rfl) fun _ _ U M N B=>ok_lmost U
 have F__law_deeds:Fn l.prog w K mg base "_law_deeds" 3 1 t_deeds:=d24.fn X G (ps:=["_law_left_here"]) (fun _ _ _ _ _ _ us hl=>us_1 hl fun _=>rfl) fun _ _ U M N B=>ok_deeds T U F__law_pick F__law_of
 exact ok_law T U25 MK_Kept M_come M_go M_made F__law_left F__law_pick F__law_of F__law_deeds F__law_most F_most_made
theorem walk {l:PySem.W.OpenLaw} {q:Program} {loose:List Str} {XP:(Str -> Option Value) -> Heap -> Prop} {YP:World -> Heap -> Prop} {d:DefRec} {K:Params -> PySem.W.Frag} (hn:l.most = some 63) (hdf:d.params.defaults = [])
  (hY:∀ (w:World) (h:Heap),YP w h -> (K w.params).In h)
  (F : ∀ (w : World) (mg : Str -> Option Value) (fa : Addr) (h : Heap), (K w.params).In h -> h.Ns mainGlobals mg -> mg d.name = some (.ref fa) ->
   ∃ fd:FuncData,(∀ (s:Shared) (u:Value),BindsTo s fd ⟨[u],[]⟩ [("_law_script",u)]) /\ ∀ base:Heap,(K w.params).In base -> base.Ns mainGlobals mg -> base.NoDigits -> FnOk l.prog w (K w.params) mg base CX0 20 fa fd ["_law_script"] (spLawD (K w.params))) :
  PySem.W.WalkO q loose XP YP l.row.toRowW d [] (fun f vs=>PySem.call f vs) :=
 L2.walk_ofN (n:=63) (k:=20) (x := "_law_script") (CX:=fun _=>CX0) (sp:=fun w=>spLawD (K w.params)) hn (by decide) hdf ⟨rfl,by decide,by decide,rfl⟩ hY F (fun _ _ a ns hl hO hS=>⟨a,ns,rfl,hO,hS,hl,fun _=>rfl⟩) fun _ _ _ _ _ z=>z
end K55
open PySem PySem.W PyProof.Rows
set_option maxRecDepth 100000 in
set_option maxHeartbeats 0 in
theorem PySem.Challenge.cw_boxlayers_k55_made_below_the_most_holds : PySem.Challenge.rw_boxlayers_k55_made_below_the_most.Holds := by
 w_on; refine holds_law (by kernel_rfl) fun said => ?_; refine holds_open (q:=K55H.view) (loose:=[]) (N:=10000) (XP:=XL K55H.view []) (Xt:=fun s=>xlAt K55H.view [] s && recOk (RowW.records (OpenRow.toRowW (OpenLaw.row PySem.Challenge.rw_boxlayers_k55_made_below_the_most))) s) (Yf:=Hook.obs K55H.hook) (Ya:=Hook.val K55H.hook) (YP:=Hook.says K55H.hook) K55H.left (Hook.of K55H.hook) (Hook.keeps K55H.hook) (fun s e=>xl_of s (Bool.and_eq_true_iff.mp e).1) XL.keeps rfl rfl rfl (fun s e=>recFacts_of (Bool.and_eq_true_iff.mp e).2) rfl (by first | assumption | decide +kernel) (by decide +kernel) ⟨rfl,rfl,rfl,rfl,rfl,by decide +kernel⟩ ?_ ?_
 ·w_witness2
 k_fill
 refine K55.walk (l:=PySem.Challenge.rw_boxlayers_k55_made_below_the_most) rfl rfl (fun w h Y=>PySem.W.kIn_of Y) ?F
 case F =>
  intro w mg fa h KX G hmg
  refine' K55.all_mk KX G hmg ?d0 ?d1 ?d2 ?d3 ?d4 ?d5 ?d6 ?d7 ?d8 ?d9 ?d10 ?d11 ?d12 ?d13 ?d14 ?d15 ?d16 ?d17 ?d18 ?d19 ?d20 ?d21 ?d22 ?d23 ?d24 ?a25 ?l25 ?c25 ?k25 ?cn0 ?cn1 ?xh_pgP ?xh_hdP ?xh_poP ?xh_saP ?xh_mkPart ?xh_kcPart ?xh_ptg ?xh_phd ?xh_ptr ?xh_pgn ?xh_pgK ?xh_hdK ?xh_poK ?xh_saK ?xh_mkKept ?xh_kcKept ?xh_kd ?xh_kb ?xh_kr ?xh_km ?z0 ?z1 ?z2 ?z3 ?z4 ?z5 ?z6 ?z7 ?z8 ?z9 ?z10 ?z11 ?z12 ?z13 ?z14 ?z15
  (case a25=>k_is)
  (case l25=>k_is)
  (case c25=>k_is)
  (case k25=>k_is)
  (case cn0=>k_is)
  (case cn1=>k_is)
  (case xh_pgP=>(first | k_is | rfl | kernel_rfl))
  (case xh_hdP=>(first | k_is | rfl | kernel_rfl))
  (case xh_poP=>(first | k_is | rfl | kernel_rfl))
  (case xh_saP=>(first | k_is | rfl | kernel_rfl))
  (case xh_mkPart=>(first | k_is | rfl | kernel_rfl))
  (case xh_kcPart=>(first | k_is | rfl | kernel_rfl))
  (case xh_ptg=>(first | k_is | rfl | kernel_rfl))
  (case xh_phd=>(first | k_is | rfl | kernel_rfl))
  (case xh_ptr=>(first | k_is | rfl | kernel_rfl))
  (case xh_pgn=>(first | k_is | rfl | kernel_rfl))
  (case xh_pgK=>(first | k_is | rfl | kernel_rfl))
  (case xh_hdK=>(first | k_is | rfl | kernel_rfl))
  (case xh_poK=>(first | k_is | rfl | kernel_rfl))
  (case xh_saK=>(first | k_is | rfl | kernel_rfl))
  (case xh_mkKept=>(first | k_is | rfl | kernel_rfl))
  (case xh_kcKept=>(first | k_is | rfl | kernel_rfl))
  (case xh_kd=>(first | k_is | rfl | kernel_rfl))
  (case xh_kb=>(first | k_is | rfl | kernel_rfl))
  (case xh_kr=>(first | k_is | rfl | kernel_rfl))
  (case xh_km=>(first | k_is | rfl | kernel_rfl))
  (case z0=>k_is)
  (case z1=>k_is)
  (case z2=>k_is)
  (case z3=>k_is)
  (case z4=>k_is)
  (case z5=>k_is)
  (case z6=>k_is)
  (case z7=>k_is)
  (case z8=>k_is)
  (case z9=>k_is)
  (case z10=>k_is)
  (case z11=>k_is)
  (case z12=>k_is)
  (case z13=>k_is)
  (case z14=>k_is)
  (case z15=>k_is)
  all_goals first | (apply K55.dn; k_is; k_is; k_is; k_is) | (apply K55.dm; k_is; k_is; k_is; k_is; k_is)
end
#print axioms PySem.Challenge.cw_boxlayers_k55_made_below_the_most_holds
