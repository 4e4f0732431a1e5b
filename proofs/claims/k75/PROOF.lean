import PyProof.Rows.All
import Wide.All
import OpenK.AllK
import Wide.FinOn
import Lean
import PyProof.EqAt
import PyProof.EqKinds
import PyProof.TupleCall
import PyProof.CompFree
import PyProof.ZipIter
import PyProof.Cells
import PyProof.Rows.CellsFrame
import PyProof.EnumMake
import PyProof.TupleIter
import PyProof.IsiPairs
import PyProof.IsiSeqPairs
import PyProof.IsiNone
import PyProof.ConsumeWalk
import PyProof.DictCompW
import PyProof.NeKinds
import PyProof.MinMaxWalk
import PyProof.Rows.SortRev
import KE.KIsAll
import KE.KDictOf
import PyProof.AttrMissHeap
import PyProof.CallFns
import KE.IntTextLaws
import PySem.Challenge.RW_boxlayers_k75_texts_of_no_ask
set_option Elab.async false
set_option linter.all false
namespace K75H
section
open PySem PySem.W PyProof.Rows
def top (i : Nat) : Stmt := PySem.Challenge.pw_boxlayers_k75_texts_of_no_ask.main.body.getD i (.Pass ⟨0, 0, 0, 0⟩)
noncomputable def view:Program:={ PySem.Challenge.pw_boxlayers_k75_texts_of_no_ask with main:={ PySem.Challenge.pw_boxlayers_k75_texts_of_no_ask.main with body:=[top 1,top 2,top 3,top 4,top 5,top 6,top 8,top 9,top 10,top 11,top 13,top 15,top 16,top 17,top 18,top 20,top 21,top 22,top 23,top 24,top 25,top 27,top 28,top 29,top 30,top 31,top 32,top 33,top 34,top 36,top 37,top 38,top 39,top 40,top 41,top 42,top 43,top 44,top 45,top 46,top 47,top 48,top 49,top 50,top 51,top 52,top 53,top 54,top 55,top 56] } }
local macro_rules | `(tactic| o_head (kHook $k $a $e)) => `(tactic| (assumption; exact ($a, [])))
set_option maxRecDepth 100000 in
set_option maxHeartbeats 0 in
noncomputable def hk : List Addr × List Addr := by
  refine (fun (_ : (OpenLaw.row PySem.Challenge.rw_boxlayers_k75_texts_of_no_ask).Holds → (OpenLaw.row PySem.Challenge.rw_boxlayers_k75_texts_of_no_ask).Holds) => ?a) (fun h => ?b)
  rotate_left
  k_head
noncomputable abbrev hook : Hook := kHook hk.heap_1 hk.1 (fun _ => by kernel_rfl)
theorem four {u v a1 a2 a3 a4 a5 : Type} {o : Option u} {g : u → Option v} {A : v → a1} {B1 : v → a2} {B2 : v → a3} {C : v → a4} {E : v → a5} {a : a1} {b1 : a2} {b2 : a3} {c : a4} {e : a5} (h1 : o.map (fun x => (g x).map A) = some (some a)) (h2 : o.map (fun x => (g x).map fun s => (B1 s, B2 s)) = some (some (b1, b2))) (h3 : o.map (fun x => (g x).map C) = some (some c)) (h4 : o.map (fun x => (g x).map E) = some (some e)) : o.map (fun x => (g x).map fun s => ((A s, B1 s, B2 s, C s), E s)) = some (some ((a, b1, b2, c), e)) := by
  cases o with
  | none => cases h1
  | some x =>
    have k1 : (g x).map A = some a := Option.some.inj h1
    have k2 : ((g x).map fun s => (B1 s, B2 s)) = some (b1, b2) := Option.some.inj h2
    have k3 : (g x).map C = some c := Option.some.inj h3
    have k4 : (g x).map E = some e := Option.some.inj h4
    show some ((g x).map _) = _
    cases hg : g x with
    | none => rw [hg] at k1; cases k1
    | some s =>
      rw [hg] at k1 k2 k3 k4
      have m1 : A s = a := Option.some.inj k1
      have m2 : (B1 s, B2 s) = (b1, b2) := Option.some.inj k2
      have m3 : C s = c := Option.some.inj k3
      have m4 : E s = e := Option.some.inj k4
      have m5 : B1 s = b1 := (Prod.mk.inj m2).1
      have m6 : B2 s = b2 := (Prod.mk.inj m2).2
      subst m1 m3 m4 m5 m6
      rfl
set_option maxRecDepth 100000 in
set_option maxHeartbeats 0 in
theorem headFa (w : World) : (fencedOpening treeTable (OpenLaw.row PySem.Challenge.rw_boxlayers_k75_texts_of_no_ask).prog w 10000).map (fun a => (topFrom treeTable (OpenLaw.row PySem.Challenge.rw_boxlayers_k75_texts_of_no_ask).prog (w.withFollow "special-get-raises" false) 10000 a).map (fun s => (openSeen view ["PARTS"] (importedModules (OpenLaw.row PySem.Challenge.rw_boxlayers_k75_texts_of_no_ask).prog.main.body) (fun s => xlAt view [] s && recOk (RowW.records (OpenRow.toRowW (OpenLaw.row PySem.Challenge.rw_boxlayers_k75_texts_of_no_ask))) s) true s).1)) = some (some ((openGood view ["PARTS"]).1)) := by kernel_rfl
set_option maxRecDepth 100000 in
set_option maxHeartbeats 0 in
theorem headFb (w : World) : (fencedOpening treeTable (OpenLaw.row PySem.Challenge.rw_boxlayers_k75_texts_of_no_ask).prog w 10000).map (fun a => (topFrom treeTable (OpenLaw.row PySem.Challenge.rw_boxlayers_k75_texts_of_no_ask).prog (w.withFollow "special-get-raises" false) 10000 a).map (fun s => ((openSeen view ["PARTS"] (importedModules (OpenLaw.row PySem.Challenge.rw_boxlayers_k75_texts_of_no_ask).prog.main.body) (fun s => xlAt view [] s && recOk (RowW.records (OpenRow.toRowW (OpenLaw.row PySem.Challenge.rw_boxlayers_k75_texts_of_no_ask))) s) true s).2.1, (openSeen view ["PARTS"] (importedModules (OpenLaw.row PySem.Challenge.rw_boxlayers_k75_texts_of_no_ask).prog.main.body) (fun s => xlAt view [] s && recOk (RowW.records (OpenRow.toRowW (OpenLaw.row PySem.Challenge.rw_boxlayers_k75_texts_of_no_ask))) s) true s).2.2.1))) = some (some (((openGood view ["PARTS"]).2.1, (openGood view ["PARTS"]).2.2.1))) := by kernel_rfl
set_option maxRecDepth 100000 in
set_option maxHeartbeats 0 in
theorem headFc (w : World) : (fencedOpening treeTable (OpenLaw.row PySem.Challenge.rw_boxlayers_k75_texts_of_no_ask).prog w 10000).map (fun a => (topFrom treeTable (OpenLaw.row PySem.Challenge.rw_boxlayers_k75_texts_of_no_ask).prog (w.withFollow "special-get-raises" false) 10000 a).map (fun s => (openSeen view ["PARTS"] (importedModules (OpenLaw.row PySem.Challenge.rw_boxlayers_k75_texts_of_no_ask).prog.main.body) (fun s => xlAt view [] s && recOk (RowW.records (OpenRow.toRowW (OpenLaw.row PySem.Challenge.rw_boxlayers_k75_texts_of_no_ask))) s) true s).2.2.2)) = some (some ((openGood view ["PARTS"]).2.2.2)) := by kernel_rfl
set_option maxRecDepth 100000 in
set_option maxHeartbeats 0 in
theorem headFd (w : World) : (fencedOpening treeTable (OpenLaw.row PySem.Challenge.rw_boxlayers_k75_texts_of_no_ask).prog w 10000).map (fun a => (topFrom treeTable (OpenLaw.row PySem.Challenge.rw_boxlayers_k75_texts_of_no_ask).prog (w.withFollow "special-get-raises" false) 10000 a).map (fun s => Hook.obs hook s)) = some (some (Hook.val hook (w.withFollow "special-get-raises" false))) := by kernel_rfl
theorem headF (w : World) : (fencedOpening treeTable (OpenLaw.row PySem.Challenge.rw_boxlayers_k75_texts_of_no_ask).prog w 10000).map (fun a => (topFrom treeTable (OpenLaw.row PySem.Challenge.rw_boxlayers_k75_texts_of_no_ask).prog (w.withFollow "special-get-raises" false) 10000 a).map (fun s => ((openSeen view ["PARTS"] (importedModules (OpenLaw.row PySem.Challenge.rw_boxlayers_k75_texts_of_no_ask).prog.main.body) (fun s => xlAt view [] s && recOk (RowW.records (OpenRow.toRowW (OpenLaw.row PySem.Challenge.rw_boxlayers_k75_texts_of_no_ask))) s) true s), Hook.obs hook s))) = some (some ((openGood view ["PARTS"]), Hook.val hook (w.withFollow "special-get-raises" false))) := four (headFa w) (headFb w) (headFc w) (headFd w)
set_option maxRecDepth 100000 in
set_option maxHeartbeats 0 in
theorem headTa (w : World) : (fencedOpening treeTable (OpenLaw.row PySem.Challenge.rw_boxlayers_k75_texts_of_no_ask).prog w 10000).map (fun a => (topFrom treeTable (OpenLaw.row PySem.Challenge.rw_boxlayers_k75_texts_of_no_ask).prog (w.withFollow "special-get-raises" true) 10000 a).map (fun s => (openSeen view ["PARTS"] (importedModules (OpenLaw.row PySem.Challenge.rw_boxlayers_k75_texts_of_no_ask).prog.main.body) (fun s => xlAt view [] s && recOk (RowW.records (OpenRow.toRowW (OpenLaw.row PySem.Challenge.rw_boxlayers_k75_texts_of_no_ask))) s) true s).1)) = some (some ((openGood view ["PARTS"]).1)) := by kernel_rfl
set_option maxRecDepth 100000 in
set_option maxHeartbeats 0 in
theorem headTb (w : World) : (fencedOpening treeTable (OpenLaw.row PySem.Challenge.rw_boxlayers_k75_texts_of_no_ask).prog w 10000).map (fun a => (topFrom treeTable (OpenLaw.row PySem.Challenge.rw_boxlayers_k75_texts_of_no_ask).prog (w.withFollow "special-get-raises" true) 10000 a).map (fun s => ((openSeen view ["PARTS"] (importedModules (OpenLaw.row PySem.Challenge.rw_boxlayers_k75_texts_of_no_ask).prog.main.body) (fun s => xlAt view [] s && recOk (RowW.records (OpenRow.toRowW (OpenLaw.row PySem.Challenge.rw_boxlayers_k75_texts_of_no_ask))) s) true s).2.1, (openSeen view ["PARTS"] (importedModules (OpenLaw.row PySem.Challenge.rw_boxlayers_k75_texts_of_no_ask).prog.main.body) (fun s => xlAt view [] s && recOk (RowW.records (OpenRow.toRowW (OpenLaw.row PySem.Challenge.rw_boxlayers_k75_texts_of_no_ask))) s) true s).2.2.1))) = some (some (((openGood view ["PARTS"]).2.1, (openGood view ["PARTS"]).2.2.1))) := by kernel_rfl
set_option maxRecDepth 100000 in
set_option maxHeartbeats 0 in
theorem headTc (w : World) : (fencedOpening treeTable (OpenLaw.row PySem.Challenge.rw_boxlayers_k75_texts_of_no_ask).prog w 10000).map (fun a => (topFrom treeTable (OpenLaw.row PySem.Challenge.rw_boxlayers_k75_texts_of_no_ask).prog (w.withFollow "special-get-raises" true) 10000 a).map (fun s => (openSeen view ["PARTS"] (importedModules (OpenLaw.row PySem.Challenge.rw_boxlayers_k75_texts_of_no_ask).prog.main.body) (fun s => xlAt view [] s && recOk (RowW.records (OpenRow.toRowW (OpenLaw.row PySem.Challenge.rw_boxlayers_k75_texts_of_no_ask))) s) true s).2.2.2)) = some (some ((openGood view ["PARTS"]).2.2.2)) := by kernel_rfl
set_option maxRecDepth 100000 in
set_option maxHeartbeats 0 in
theorem headTd (w : World) : (fencedOpening treeTable (OpenLaw.row PySem.Challenge.rw_boxlayers_k75_texts_of_no_ask).prog w 10000).map (fun a => (topFrom treeTable (OpenLaw.row PySem.Challenge.rw_boxlayers_k75_texts_of_no_ask).prog (w.withFollow "special-get-raises" true) 10000 a).map (fun s => Hook.obs hook s)) = some (some (Hook.val hook (w.withFollow "special-get-raises" true))) := by kernel_rfl
theorem headT (w : World) : (fencedOpening treeTable (OpenLaw.row PySem.Challenge.rw_boxlayers_k75_texts_of_no_ask).prog w 10000).map (fun a => (topFrom treeTable (OpenLaw.row PySem.Challenge.rw_boxlayers_k75_texts_of_no_ask).prog (w.withFollow "special-get-raises" true) 10000 a).map (fun s => ((openSeen view ["PARTS"] (importedModules (OpenLaw.row PySem.Challenge.rw_boxlayers_k75_texts_of_no_ask).prog.main.body) (fun s => xlAt view [] s && recOk (RowW.records (OpenRow.toRowW (OpenLaw.row PySem.Challenge.rw_boxlayers_k75_texts_of_no_ask))) s) true s), Hook.obs hook s))) = some (some ((openGood view ["PARTS"]), Hook.val hook (w.withFollow "special-get-raises" true))) := four (headTa w) (headTb w) (headTc w) (headTd w)
theorem two_map {u v : Type} {o : Option u} {A B : u → v} {a b : v} (h1 : o.map A = some a) (h2 : o.map B = some b) : o.map (fun s => (A s, B s)) = some (a, b) := by
  cases o with
  | none => cases h1
  | some s => exact congrArg some (congr (congrArg Prod.mk (Option.some.inj h1)) (Option.some.inj h2))
theorem left : LeftO (OpenLaw.row PySem.Challenge.rw_boxlayers_k75_texts_of_no_ask).prog view ["PARTS"] (fun s => xlAt view [] s && recOk (RowW.records (OpenRow.toRowW (OpenLaw.row PySem.Challenge.rw_boxlayers_k75_texts_of_no_ask))) s) (Hook.obs hook) (Hook.val hook) 10000 := LeftO.of_split "special-get-raises" fun w => @two_map _ _ _ _ _ _ _ (headF w) (headT w)
end
end K75H
noncomputable section
set_option Elab.async false
set_option linter.all false
set_option maxRecDepth 100000
namespace L2
open PySem PySem.Spec PyProof.Rows
abbrev Key:=Sum Int Str
def keyIs:Key -> Value -> Bool
 | .inl k,v=>Value.isInt k v
 | .inr x,v=>Value.isStrOf x v
def keyH (w:World):Key -> Int
 | .inl k=>hashInt k
 | .inr x=>hashStr w x
theorem keyIs_shape:∀ {k:Key} {v:Value},keyIs k v = true -> (∃ i t,k = Sum.inl i /\ v = Value.int i t) \/ (∃ x t,k = Sum.inr x /\ v = Value.str x t)
 | .inl i,v,h=>by
  obtain ⟨t,e⟩:=Value.isInt_shape (k:=i) (v:=v) h
  exact .inl ⟨i,t,rfl,e⟩
 | .inr x,v,h=>by
  obtain ⟨t,e⟩:=Value.isStrOf_shape (x:=x) (v:=v) h
  exact .inr ⟨x,t,rfl,e⟩
theorem keyIs_int (i:Int) (t:Tok):keyIs (.inl i) (.int i t) = true:=by simp [keyIs,Value.isInt]
theorem keyIs_str (x:Str) (t:Tok):keyIs (.inr x) (.str x t) = true:=by simp [keyIs,Value.isStrOf]
theorem key_ll (a b:Int):decide ((Sum.inl a:Key) = Sum.inl b) = (a == b):=by
 by_cases e:a = b
 ·subst e; simp
 ·have h : ¬ (Sum.inl a : Key) = Sum.inl b := fun q => e (Sum.inl.inj q)
  rw [decide_eq_false h]
  exact (beq_eq_false_iff_ne.mpr e).symm
theorem key_rr (a b:Str):decide ((Sum.inr a:Key) = Sum.inr b) = decide (a = b):=by
 by_cases e:a = b
 ·subst e; simp
 ·have h : ¬ (Sum.inr a : Key) = Sum.inr b := fun q => e (Sum.inr.inj q)
  rw [decide_eq_false h,decide_eq_false e]
theorem key_lr (a:Int) (b:Str):decide ((Sum.inl a:Key) = Sum.inr b) = false:=decide_eq_false (fun q=>nomatch q)
theorem key_rl (a:Str) (b:Int):decide ((Sum.inr a:Key) = Sum.inl b) = false:=decide_eq_false (fun q=>nomatch q)
def mixKind (prog:Program) (w:World):PySem.KeyKind prog w Key where
 is:=keyIs
 hash:=keyH w
 inj:=fun v a b ha hb=>by
  rcases keyIs_shape ha with ⟨i,t,rfl,rfl⟩ | ⟨x,t,rfl,rfl⟩
  ·rcases keyIs_shape hb with ⟨j, u, rfl, e⟩ | ⟨y, u, rfl, e⟩
   ·injection e with e1 _; rw [e1]
   ·exact nomatch e
  ·rcases keyIs_shape hb with ⟨j, u, rfl, e⟩ | ⟨y, u, rfl, e⟩
   ·exact nomatch e
   ·injection e with e1 _; rw [e1]
 byValue:=fun k v h=>by
  rcases keyIs_shape h with ⟨i,t,rfl,rfl⟩ | ⟨x,t,rfl,rfl⟩ <;> rfl
 pyHash:=fun hv h=>by
  rcases keyIs_shape hv with ⟨i,t,rfl,rfl⟩ | ⟨x,t,rfl,rfl⟩
  ·exact wpAny_pyHash_int h
  ·exact wpAny_pyHash_str h
 eqBool:=fun hu hv h=>by
  rcases keyIs_shape hu with ⟨i,t,rfl,rfl⟩ | ⟨x,t,rfl,rfl⟩
  ·rcases keyIs_shape hv with ⟨j, u, rfl, rfl⟩ | ⟨y, u, rfl, rfl⟩
   ·rw [key_ll] at h; exact wpAny_eqBool_int h
   ·rw [key_lr] at h; exact SeqAt.EqAt.int_str i t y u _ _ _ _ h
  ·rcases keyIs_shape hv with ⟨j, u, rfl, rfl⟩ | ⟨y, u, rfl, rfl⟩
   ·rw [key_rl] at h; exact SeqAt.EqAt.str_int x t j u _ _ _ _ h
   ·rw [key_rr] at h; exact wpAny_eqBool_str h
 «strs»:=fun k x t v h=>by
  rcases keyIs_shape h with ⟨i,u,rfl,e⟩ | ⟨y,u,rfl,e⟩
  ·exact nomatch e
  ·injection e with e1 _
   subst e1
   cases v <;> rfl
theorem mixKind_int (prog:Program) (w:World) (i:Int) (t:Tok):(mixKind prog w).is (.inl i) (.int i t) = true:=keyIs_int i t
theorem mixKind_str (prog:Program) (w:World) (x:Str) (t:Tok):(mixKind prog w).is (.inr x) (.str x t) = true:=keyIs_str x t
end L2
namespace L2
open PySem PySem.Spec PyProof.Rows
inductive V where
 | non | bl (b:Bool) | int (i:Int) | str (x:Str) | byt (b:Array UInt8) | flt (b:UInt64) | ref (a:Addr) | ty (n:String)
 deriving DecidableEq
def RelV:V -> Value -> Prop
 | .non,u=>u = Value.none
 | .bl b,u=>u = Value.bool b
 | .int i,u=>∃ t,u = Value.int i t
 | .str x,u=>∃ t,u = Value.str x t
 | .byt b,u=>∃ t,u = Value.bytes b t
 | .flt b,u=>∃ t,u = Value.float b t
 | .ref a,u=>u = Value.ref a
 | .ty n,u=>u = Value.type n
abbrev Vals:List V -> List Value -> Prop:=Paired RelV
theorem Vals.length {xs:List V} {us:List Value} (r:Vals xs us):xs.length = us.length:=Paired.length r
theorem Vals.get:∀ {xs:List V} {us:List Value} {i:Nat} {x:V},Vals xs us -> xs[i]? = some x -> ∃ u,us[i]? = some u /\ RelV x u
 | _,_,_,_,.nil,e=>by simp at e
 | _,_,0,_,.cons r _,e=>by simp at e; subst e; exact ⟨_,rfl,r⟩
 | _,_,i + 1,x,.cons _ t,e=>by
  obtain ⟨u,h1,h2⟩:=Vals.get (i:=i) (x:=x) t (by simpa using e)
  exact ⟨u,by simpa using h1,h2⟩
theorem Vals.set {x:V} {u:Value} (r:RelV x u):∀ {xs:List V} {us:List Value} (i:Nat),Vals xs us -> Vals (xs.set i x) (us.set i u)
 | _,_,_,.nil=>.nil
 | _,_,0,.cons _ t=>.cons r t
 | _,_,i + 1,.cons q t=>.cons q (Vals.set r i t)
theorem Vals.append:∀ {xs ys:List V} {us ws:List Value},Vals xs us -> Vals ys ws -> Vals (xs ++ ys) (us ++ ws)
 | _,_,_,_,.nil,s=>s
 | _,_,_,_,.cons r t,s=>.cons r (Vals.append t s)
theorem Vals.take:∀ {xs:List V} {us:List Value} (n:Nat),Vals xs us -> Vals (xs.take n) (us.take n)
 | _,_,0,_=>.nil
 | _,_,_ + 1,.nil=>.nil
 | _,_,n + 1,.cons r t=>.cons r (Vals.take n t)
theorem Vals.drop:∀ {xs:List V} {us:List Value} (n:Nat),Vals xs us -> Vals (xs.drop n) (us.drop n)
 | _,_,0,r=>r
 | _,_,_ + 1,.nil=>.nil
 | _,_,n + 1,.cons _ t=>Vals.drop n t
def RelO:Option V -> Option Value -> Prop
 | some v,some u=>RelV v u
 | none,none=>True
 | _,_=>False
def KV {κ:Type}:List (κ × V) -> List (κ × Value) -> Prop:=Paired fun (p:κ × V) (q:κ × Value)=>p.1 = q.1 /\ RelV p.2 q.2
def kV:Key -> V
 | .inl i=>.int i
 | .inr x=>.str x
inductive HO where
 /-- a list -/
 | lst (xs:List V)
 /-- a tuple (never changes) -/
 | tup (xs:List V)
 /-- a dict whose keys are ints and texts; one whose keys are tuples of ints and texts (the empty one is both) -/
 | dK (kvs:List (Key × V)) | dT (kvs:List (List Key × V))
 /-- a set of ints: its members, its size -/
 | set (S:Int -> Bool) (n:Nat)
 /-- an instance of the class at C, its dict at dx, its attributes -/
 | ins (C dx:Addr) (fs:List (Str × V))
 /-- the dict of the instance at x -/
 | own (x:Addr)
 /-- the dict of an exception -/
 | xd (fs:List (Str × V))
 /-- a bound method, f of x -/
 | met (f x:Addr)
 /-- a range object lo, lo + 1, .. below hi -/
 | rng (lo hi:Int)
 /-- a thing that is known to the object (the script; a dict while a loop walks it): read, never written while it is so -/
 | frz (o:Obj) (u:HO)
 /-- a code object's table -/
 | tbl (ps:Array Value)
 /-- any other thing, by what is true of its one object (a def of one's own: SetO a S n := HO.ext fun h => ..) -/
 | ext (φ:Heap -> Prop)
abbrev Hp:=Addr -> Option HO
def upd (H:Hp) (a:Addr) (o:HO):Hp:=fun b=>if b = a then some o else H b
theorem upd_same {H:Hp} {a:Addr} {o:HO}:upd H a o a = some o:=by unfold upd; rw [if_pos rfl]
theorem upd_ne {H:Hp} {a b:Addr} {o:HO} (h:b ≠ a):upd H a o b = H b:=by unfold upd; rw [if_neg h]
theorem ne_of_none {H:Hp} {a b:Addr} {o:HO} (h:H a = some o) (h':H b = none):a ≠ b:=by
 intro e; subst e; rw [h] at h'; cases h'
section
variable (P:Program) (w:World)
def ObjOk (H:Hp) (h:Heap) (a:Addr):HO -> Prop
 | .lst xs=>xs.length <= sizeLine /\ ∃ (its:List Value) (n:Nat),Vals xs its /\ h.get? a = some { cls:=.type "list",data:=.seq its.toArray n }
 | .tup xs=>xs.length <= sizeLine /\ ∃ its:List Value,Vals xs its /\ IsTup h a its.toArray
 | .dK kvs=>kvs.length <= sizeLine /\ (a == sysModules) = false /\ ∃ vs,KV kvs vs /\ h.DictOf (mixKind P w) a vs
 | .dT kvs => kvs.length <= sizeLine /\ (a == sysModules) = false /\ ∃ xs : List (List Key × Addr × Value),
   Paired (fun (p:List Key × V) (q:List Key × Addr × Value)=>p.1 = q.1 /\ H q.2.1 = some (.tup (p.1.map kV)) /\ RelV p.2 q.2.2) kvs xs /\
   ∃ o es ep,h.get? a = some o /\ o.ExactDict /\ o.data = .dict es ep /\ es.toList = xs.map (entryOfKey (tupleKind (mixKind P w))) /\ (xs.map (·.1)).Nodup
 | .set S n=>h.SetOf (intKind P w) a S n
 | .ins C dx fs => H dx = some (.own a) /\ fs.length <= 1000 /\ dx ≠ a /\ h.get? a = some (PySem.W.instObj C dx) /\
   ∃ mA,h.Ns1 dx mA /\ (∀ f,RelO (fs.lookup f) (mA f)) /\ PySem.Within mA (fs.map (·.1))
 | .own _=>∃ o,h.get? a = some o
 | .xd fs=>∃ mA,h.Ns1 a mA /\ ∀ f,RelO (fs.lookup f) (mA f)
 | .rng lo hi=>∃ t u v,h.get? a = some { cls:=.type "range",data:=.fields #[.int lo t,.int hi u,.int 1 v] }
 | .frz o u=>h.get? a = some o /\ ObjOk H h a u
 | .tbl ps=>h.get? a = some { cls:=.none,data:=.fields ps }
 | .met f x=>h.get? a = some (PySem.W.methodObj (.ref f) (.ref x))
 | .ext φ=>φ h /\ (∃ o,h.get? a = some o) /\ ∀ h1 h2:Heap,φ h1 -> (∀ o,h1.get? a = some o -> h2.get? a = some o) -> φ h2
def HOk (H:Hp) (h:Heap):Prop:=∀ a o,H a = some o -> ObjOk P w H h a o
end
section
variable {P:Program} {w:World} {H H':Hp} {h h':Heap} {a:Addr} {o:HO}
theorem ObjOk.lt (x:ObjOk P w H h a o):a < h.objs.size:=by
 cases o with
 | lst xs=>obtain ⟨_,_,_,_,e⟩:=x; exact Heap.lt_size e
 | tup xs=>obtain ⟨_,_,_,p⟩:=x; exact p.lt
 | dK kvs=>obtain ⟨_,_,_,_,o,_,_,e,_⟩:=x; exact Heap.lt_size e
 | dT kvs=>obtain ⟨_,_,_,_,o,_,_,e,_⟩:=x; exact Heap.lt_size e
 | set S n=>obtain ⟨o,_,_,_,e,_⟩:=x; exact Heap.lt_size e
 | ins C dx fs=>obtain ⟨_,_,_,e,_⟩:=x; exact Heap.lt_size e
 | own y=>obtain ⟨_,e⟩:=x; exact Heap.lt_size e
 | xd fs=>obtain ⟨_,⟨_,_,_,e,_⟩,_⟩:=x; exact Heap.lt_size e
 | rng lo hi=>obtain ⟨_,_,_,e⟩:=x; exact Heap.lt_size e
 | frz ob u=>obtain ⟨e,_⟩:=x; exact Heap.lt_size e
 | tbl ps=>exact Heap.lt_size (show h.get? a = some _ from x)
 | met f y=>exact Heap.lt_size (show h.get? a = some _ from x)
 | ext φ=>obtain ⟨_,⟨_,e⟩,_⟩:=x; exact Heap.lt_size e
theorem Paired.mapP {α β:Type} {F G:α -> β -> Prop}:∀ {l₁:List α} {l₂:List β},Paired F l₁ l₂ -> (∀ a b,F a b -> G a b) -> Paired G l₁ l₂
 | _,_,.nil,_=>.nil
 | _,_,.cons r t,f=>.cons (f _ _ r) (Paired.mapP t f)
theorem ObjOk.stay (x:ObjOk P w H h a o) (k:∀ b u,(b = a \/ H b = some (.own a)) -> h.get? b = some u -> h'.get? b = some u)
  (ho:∀ b,H b = some (.own a) -> H' b = some (.own a)) (ht:∀ b xs,H b = some (.tup xs) -> H' b = some (.tup xs)):ObjOk P w H' h' a o:=by
 induction o with
 | lst xs=>obtain ⟨z,its,n,r,e⟩:=x; exact ⟨z,its,n,r,k _ _ (.inl rfl) e⟩
 | tup xs=>obtain ⟨z,its,r,ob,e,c⟩:=x; exact ⟨z,its,r,ob,k _ _ (.inl rfl) e,c⟩
 | dK kvs=>obtain ⟨z,y,vs,r,ob,es,ep,e,c⟩:=x; exact ⟨z,y,vs,r,ob,es,ep,k _ _ (.inl rfl) e,c⟩
 | dT kvs =>
  obtain ⟨z,y,xs,r,ob,es,ep,e,c⟩:=x
  exact ⟨z,y,xs,Paired.mapP r fun p q z=>⟨z.1,ht _ _ z.2.1,z.2.2⟩,ob,es,ep,k _ _ (.inl rfl) e,c⟩
 | set S n=>obtain ⟨ob,es,ep,t,e,c⟩:=x; exact ⟨ob,es,ep,t,k _ _ (.inl rfl) e,c⟩
 | ins C dx fs =>
  obtain ⟨d,z,ne,e,mA,⟨od,es,ep,e2,c⟩,r⟩:=x
  exact ⟨ho _ d,z,ne,k _ _ (.inl rfl) e,mA,⟨od,es,ep,k _ _ (.inr d) e2,c⟩,r⟩
 | own y=>obtain ⟨ob,e⟩:=x; exact ⟨ob,k _ _ (.inl rfl) e⟩
 | xd fs=>obtain ⟨mA,⟨od,es,ep,e,c⟩,r⟩:=x; exact ⟨mA,⟨od,es,ep,k _ _ (.inl rfl) e,c⟩,r⟩
 | rng lo hi=>obtain ⟨t,u,v,e⟩:=x; exact ⟨t,u,v,k _ _ (.inl rfl) e⟩
 | frz ob u ih=>obtain ⟨e,q⟩:=x; exact ⟨k _ _ (.inl rfl) e,ih q⟩
 | tbl ps =>
  have e:h.get? a = some { cls:=.none,data:=.fields ps }:=x
  show h'.get? a = some { cls:=.none,data:=.fields ps }
  exact k a _ (.inl rfl) e
 | met f y =>
  have e:h.get? a = some (PySem.W.methodObj (.ref f) (.ref y)):=x
  show h'.get? a = some (PySem.W.methodObj (.ref f) (.ref y))
  exact k a _ (.inl rfl) e
 | ext φ=>obtain ⟨p,⟨o,e⟩,st⟩:=x; exact ⟨st _ _ p fun o q=>k _ _ (.inl rfl) q,⟨o,k _ _ (.inl rfl) e⟩,st⟩
theorem HOk.lt (x:HOk P w H h) (e:H a = some o):a < h.objs.size:=(x a o e).lt
theorem HOk.fresh (x:HOk P w H h) (e:h.objs.size <= a):H a = none:=by
 cases q:H a with
 | none=>rfl
 | some u=>exact absurd (Nat.lt_of_lt_of_le (x.lt q) e) (Nat.lt_irrefl _)
theorem HOk.kept (x:HOk P w H h) (k:∀ b u,h.get? b = some u -> h'.get? b = some u):HOk P w H h':=fun a o e =>
 (x a o e).stay (fun b u _ q=>k b u q) (fun _ q=>q) fun _ _ q=>q
theorem HOk.laid (x:HOk P w H h) (k:∀ b u,h.get? b = some u -> h'.get? b = some u) (hp:h.objs.size <= a) (new:ObjOk P w (upd H a o) h' a o):HOk P w (upd H a o) h':=fun b u e=>by
 have hn:=x.fresh hp
 by_cases hb:b = a
 ·subst hb; rw [upd_same] at e; cases e; exact new
 ·rw [upd_ne hb] at e
  exact (x b u e).stay (fun c v _ q=>k c v q) (fun c q=>by rw [upd_ne (ne_of_none q hn)]; exact q) fun c xs q=>by rw [upd_ne (ne_of_none q hn)]; exact q
end
def Rd (H:Hp) (a:Addr) (u:HO):Prop:=H a = some u \/ ∃ o,H a = some (.frz o u)
theorem Rd.ok {P:Program} {w:World} {H:Hp} {h:Heap} {a:Addr} {u:HO} (r:Rd H a u) (x:HOk P w H h):ObjOk P w H h a u:=by
 rcases r with r | ⟨o,r⟩
 ·exact x a u r
 ·obtain ⟨_, q⟩ := x a _ r
  exact q
def Mut:Option HO -> Prop
 | some (.lst _)=>True
 | some (.dK _)=>True
 | some (.dT _)=>True
 | some (.set _ _)=>True
 | some (.ins _ _ _)=>True
 | some (.ext _)=>True
 | _=>False
section
variable {P:Program} {w:World} {H:Hp} {h h':Heap} {x e:Addr} {o':HO}
theorem HOk.write (ok:HOk P w H h) (mu:Mut (H x)) (he:e = x \/ H e = some (.own x)) (k:∀ b u,b ≠ e -> h.get? b = some u -> h'.get? b = some u) (heo:∃ u,h'.get? e = some u)
  (new:ObjOk P w (upd H x o') h' x o'):HOk P w (upd H x o') h':=fun b u q=>by
 have nown:∀ c y,H c = some (.own y) -> c ≠ x:=fun c y r z=>by subst z; rw [r] at mu; exact mu
 have ntup:∀ c xs,H c = some (.tup xs) -> c ≠ x:=fun c xs r z=>by subst z; rw [r] at mu; exact mu
 by_cases hb:b = x
 ·subst hb; rw [upd_same] at q; cases q; exact new
 ·rw [upd_ne hb] at q
  by_cases hbe:b = e
  ·have q' : H b = some (.own x) := by
    rcases he with z | z
    ·exact absurd (hbe.trans z) hb
    ·rw [hbe]; exact z
   rw [q] at q'; cases q'
   obtain ⟨v,hv⟩:=heo
   exact ⟨v,by rw [hbe]; exact hv⟩
  ·refine (ok b u q).stay (fun c v hc r => k c v ?_ r) (fun c r => by rw [upd_ne (nown c b r)]; exact r) fun c xs r => by rw [upd_ne (ntup c xs r)]; exact r
   rcases hc with rfl | hc
   ·exact hbe
   ·rintro rfl
    rcases he with z | z
    ·exact nown c b hc z
    ·rw [hc] at z; cases z; exact hb rfl
end
structure Un (fs ex:List Addr) (H H':Hp) (h h':Heap):Prop where
 keep:∀ b o,h.get? b = some o -> H b = none -> b ∉ fs -> b ∉ ex -> h'.get? b = some o
 slot:∀ b o,h.get? b = some o -> H b = none -> b ∈ fs -> b ∉ ex -> ∃ sl,h'.get? b = some { o with slots:=sl }
 free:∀ b o,h.get? b = some o -> H b = none -> b ∉ ex -> H' b = none
 there:∀ b o,h.get? b = some o -> b ∉ ex -> ∃ o',h'.get? b = some o'
 tups:∀ b xs,H b = some (.tup xs) -> H' b = some (.tup xs)
 frzs:∀ b o u,H b = some (.frz o u) -> H' b = some (.frz o u)
 tbls:∀ b ps,H b = some (.tbl ps) -> ∃ more,H' b = some (.tbl (ps ++ more))
section
variable {fs fs' ex ex':List Addr} {H H1 H2:Hp} {h h1 h2 h':Heap} {a x e:Addr} {o:HO}
theorem Un.any (u:Un fs ex H H1 h h1) {b:Addr} {ob:Obj} (q:h.get? b = some ob) (n:H b = none) (hx:b ∉ ex):∃ sl,h1.get? b = some { ob with slots:=sl }:=by
 by_cases hb:b ∈ fs
 ·exact u.slot b ob q n hb hx
 ·exact ⟨ob.slots,u.keep b ob q n hb hx⟩
theorem Un.trans (a:Un fs ex H H1 h h1) (b:Un fs ex H1 H2 h1 h2):Un fs ex H H2 h h2 where
 keep:=fun c ob q n hc hx=>b.keep c ob (a.keep c ob q n hc hx) (a.free c ob q n hx) hc hx
 slot:=fun c ob q n hc hx=>by
  obtain ⟨sl,e1⟩:=a.slot c ob q n hc hx
  obtain ⟨sl',e2⟩:=b.slot c _ e1 (a.free c ob q n hx) hc hx
  exact ⟨sl',e2⟩
 free:=fun c ob q n hx=>by
  obtain ⟨o',e1⟩:=a.there c ob q hx
  exact b.free c o' e1 (a.free c ob q n hx) hx
 there:=fun c ob q hx=>by
  obtain ⟨o',e1⟩:=a.there c ob q hx
  exact b.there c o' e1 hx
 tups:=fun c xs q=>b.tups c xs (a.tups c xs q)
 frzs:=fun c ob xs q=>b.frzs c ob xs (a.frzs c ob xs q)
 tbls:=fun c ps q=>by
  obtain ⟨m1,e1⟩:=a.tbls c ps q
  obtain ⟨m2,e2⟩:=b.tbls c _ e1
  exact ⟨m1 ++ m2,by rw [e2,Array.append_assoc]⟩
theorem Un.kept (k:∀ b u,h.get? b = some u -> h'.get? b = some u):Un fs ex H H h h' :=
 ⟨fun b ob q _ _ _=>k b ob q,fun b ob q _ _ _=>⟨ob.slots,k b ob q⟩,fun _ _ _ n _=>n,fun b ob q _=>⟨ob,k b ob q⟩,fun _ _ q=>q,fun _ _ _ q=>q,fun _ ps q=>⟨#[],by rw [q]; simp⟩⟩
theorem Un.refl:Un fs ex H H h h:=Un.kept fun _ _ q=>q
theorem Un.laid (k:∀ b u,h.get? b = some u -> h'.get? b = some u) (hp:h.objs.size <= a) (hn:H a = none):Un fs ex H (upd H a o) h h' where
 keep:=fun b u q _ _ _=>k b u q
 slot:=fun b u q _ _ _=>⟨u.slots,k b u q⟩
 free:=fun b u q n _=>by rw [upd_ne (Nat.ne_of_lt (Nat.lt_of_lt_of_le (Heap.lt_size q) hp))]; exact n
 there:=fun b u q _=>⟨u,k b u q⟩
 tups:=fun b xs q=>by rw [upd_ne (ne_of_none q hn)]; exact q
 frzs:=fun b u xs q=>by rw [upd_ne (ne_of_none q hn)]; exact q
 tbls:=fun b ps q=>⟨#[],by rw [upd_ne (ne_of_none q hn),q]; simp⟩
theorem Un.write (mu:Mut (H x)) (he:e = x \/ H e = some (.own x)) (k:∀ b u,b ≠ e -> h.get? b = some u -> h'.get? b = some u) (heo:∃ u,h'.get? e = some u):Un fs ex H (upd H x o) h h':=by
 have hx:∀ b,H b = none -> b ≠ x:=fun b n z=>by subst z; rw [n] at mu; exact mu
 have hb:∀ b,H b = none -> b ≠ e:=fun b n z=>by
  subst z
  rcases he with r | r
  ·exact hx b n r
  ·rw [n] at r; cases r
 have hm:∀ b u,H b = some u -> ¬ Mut (some u) -> b ≠ x:=fun b u q nm z=>by subst z; rw [q] at mu; exact nm mu
 refine ⟨fun b u q n _ _=>k b u (hb b n) q,fun b u q n _ _=>⟨u.slots,k b u (hb b n) q⟩,fun b u q n _=>by rw [upd_ne (hx b n)]; exact n,fun b u q _=>?_,
  fun b xs q=>by rw [upd_ne (hm b _ q fun z=>z)]; exact q,fun b u xs q=>by rw [upd_ne (hm b _ q fun z=>z)]; exact q,fun b ps q=>⟨#[],by rw [upd_ne (hm b _ q fun z=>z),q]; simp⟩⟩
 by_cases hbe:b = e
 ·subst hbe; exact heo
 ·exact ⟨u,k b u hbe q⟩
end
def trk (h:Heap) (H:Hp):List Addr:=(List.range h.objs.size).filter fun a=>(H a).isSome
def hidT (h:Heap) (H:Hp):Heap:=PySem.W.hideAll h (trk h H)
theorem hidT_size (h:Heap) (H:Hp):(hidT h H).objs.size = h.objs.size:=PySem.W.hideAll_size _ _
theorem hidT_get {h:Heap} {H:Hp} {b:Addr} {o:Obj} (e:h.get? b = some o) (n:H b = none):(hidT h H).get? b = some o :=
 PySem.W.hideAll_get _ e fun hm=>by
  have q:(H b).isSome = true:=(List.mem_filter.mp hm).2
  rw [n] at q; simp at q
theorem of_hidT {h:Heap} {H:Hp} {b:Addr} {o:Obj} (e:(hidT h H).get? b = some o):h.get? b = some o /\ H b = none:=by
 have e':h.get? b = some o:=PySem.W.of_hideAll (trk h H) e
 refine ⟨e',?_⟩
 cases q:H b with
 | none=>rfl
 | some x =>
  have hm:b ∈ trk h H:=List.mem_filter.mpr ⟨List.mem_range.mpr (Heap.lt_size e'),by simp [q]⟩
  have z:(hidT h H).get? b = none:=PySem.W.hideAll_none (trk h H) hm
  rw [z] at e; cases e
def allNews (g h:Heap) (L:Addr):List (Addr × Obj):=(List.range h.objs.size).filterMap fun a=>if a = L \/ (g.get? a).isSome = true then none else (h.get? a).map fun o=>(a,o)
def rest (g h:Heap) (L d:Addr):List (Addr × Obj):=(allNews g h L).filter fun p=>decide (p.1 ≠ d)
end L2
namespace L2
open PySem PySem.Spec PyProof.Rows
structure Mod (K:PySem.W.Frag) (mg:Str -> Option Value) (base:Heap):Prop where
 kin:K.In base
 glob:base.Ns mainGlobals mg
 blt:∃ mb,base.Ns builtinsNs mb /\ ∀ x:Str,x ≠ "__name__" -> mb x = bootBuiltins x
 nolimit:base.NoLimit
structure Cx where
 prog:Program
 w:World
 K:PySem.W.Frag
 mg:Str -> Option Value
 base:Heap
 A:Around
 N:List Str
 s₀:Shared
 H₀:Hp
 env:Env
 outer:List Env
 stack:List Env
 ex:List Addr
 fn:Str -> Bool
 calm:Bool
 pn:List (Addr × Obj)
 xe:Value -> Shared -> Prop
def frs (l:List Env):List Addr:=l.filterMap (·.frame)
abbrev Cx.fs (X:Cx):List Addr:=frs X.outer
def Vis (sc:Scope) (x:Str):Prop:=sc.names.lookup x = some .local \/ sc.names.lookup x = some .cell \/ sc.names.lookup x = some .free
def Loc (sc:Scope) (x:Str):Prop:=sc.names.lookup x = some .local \/ sc.names.lookup x = some .cell
def Look (env:Env) (h:Heap) (m:Str -> Option Value) (x:Str) (u:Value):Prop :=
 (env.kindOf x = some .local /\ m x = some u) \/ ((env.kindOf x = some .cell \/ env.kindOf x = some .free) /\ ∃ c,env.cells.lookup x = some c /\ h.IsCell c (some u))
structure Cx.Ok (X:Cx):Prop where
 mod:Mod X.K X.mg X.base
 kind:X.env.scope.kind = .function
 glob:X.env.globals = mainGlobals
 blt:X.env.builtins = builtinsNs
 above:X.s₀.heap.objs.size <= X.env.locals
 inj:∀ x y c,X.env.cells.lookup x = some c -> X.env.cells.lookup y = some c -> x = y
 has:∀ x,(X.env.kindOf x = some .cell \/ X.env.kindOf x = some .free) -> ∃ c,X.env.cells.lookup x = some c
 cab:∀ x c,X.fn x = true -> X.env.cells.lookup x = some c -> X.s₀.heap.objs.size <= c
 hd:X.calm = true -> X.A.handled = none
 frames:X.A.frames = some X.stack
 stk:X.stack = X.outer \/ (X.stack = X.env :: X.outer /\ X.env.frame = some X.env.locals)
 exf:∀ b ∈ X.ex,b ≠ X.env.locals /\ ∀ x c,X.env.cells.lookup x = some c -> c ≠ b
 bs:∀ b o,X.base.get? b = some o -> X.s₀.heap.get? b = some o /\ X.H₀ b = none
 bsz:X.base.objs.size <= X.s₀.heap.objs.size
 noex:∀ b o,X.base.get? b = some o -> b ∉ X.ex
 exfs:∀ b ∈ X.ex,b ∉ X.fs
 funs:X.s₀.heap.FunFrames X.base X.outer
 frf:∀ b ∈ X.fs,X.H₀ b = none
structure Inv (X:Cx) (pins:List (Addr × Obj)) (σ:List (Option V)) (H:Hp) (s:Shared):Prop where
 ok:X.Ok
 os:s.os = X.s₀.os
 bare:AllBare s.gens
 base:Un X.fs X.ex X.H₀ H X.s₀.heap s.heap
 loc:∃ m,s.heap.Ns X.env.locals m /\ ∀ (i:Nat) (x:Str) (v:V),X.N[i]? = some x -> σ[i]? = some (some v) -> Vis X.env.scope x -> ∃ u,RelV v u /\ Look X.env s.heap m x u
 cell:∀ x c,X.env.cells.lookup x = some c -> ∃ v,s.heap.IsCell c v
 free:H X.env.locals = none
 freeC:∀ x c,X.env.cells.lookup x = some c -> H c = none
 pin:∀ p ∈ X.pn ++ pins,s.heap.get? p.1 = some p.2 /\ H p.1 = none /\ p.1 ≠ X.env.locals /\ p.1 ∉ X.fs /\ ∀ v,p.2.data ≠ .cell v
 hok:HOk X.prog X.w H s.heap
 len:σ.length = X.N.length
section
variable {X:Cx} {pins:List (Addr × Obj)} {σ:List (Option V)} {H H':Hp} {s:Shared} {h':Heap}
theorem Cx.Ok.nofr (ok:X.Ok) {b:Addr} {o:Obj} (e:X.base.get? b = some o):b ∉ X.fs:=fun hb=>by
 have:=(ok.funs.mem hb).1
 rw [e] at this; cases this
theorem Inv.bs (I:Inv X pins σ H s):∀ b o,X.base.get? b = some o -> s.heap.get? b = some o /\ H b = none:=fun b o e =>
 ⟨I.base.keep b o (I.ok.bs b o e).1 (I.ok.bs b o e).2 (I.ok.nofr e) (I.ok.noex b o e),I.base.free b o (I.ok.bs b o e).1 (I.ok.bs b o e).2 (I.ok.noex b o e)⟩
theorem Inv.bk (I:Inv X pins σ H s):∀ b o,X.base.get? b = some o -> s.heap.get? b = some o:=fun b o e=>(I.bs b o e).1
theorem Inv.mod (I:Inv X pins σ H s):Mod X.K X.mg X.base:=I.ok.mod
theorem Inv.kIn (I:Inv X pins σ H s):X.K.In s.heap:=I.ok.mod.kin.keeps I.bk
theorem Inv.lt (I:Inv X pins σ H s):X.env.locals < s.heap.objs.size:=let ⟨_,hn,_⟩:=I.loc; hn.lt
theorem Inv.sz (I:Inv X pins σ H s):X.s₀.heap.objs.size <= s.heap.objs.size:=Nat.le_trans I.ok.above (Nat.le_of_lt I.lt)
theorem Inv.nofs (I:Inv X pins σ H s) {a:Addr} (h:s.heap.objs.size <= a):a ∉ X.fs:=fun hb=>by
 obtain ⟨_,o,ho,_⟩:=I.ok.funs.mem hb
 exact absurd (Nat.lt_of_lt_of_le (Heap.lt_size ho) (Nat.le_trans I.sz h)) (Nat.lt_irrefl _)
theorem Inv.cne (I:Inv X pins σ H s):∀ x c,X.env.cells.lookup x = some c -> c ≠ X.env.locals:=fun x c e z=>by
 obtain ⟨v,o,ho,hd⟩:=I.cell x c e
 obtain ⟨m,⟨o',es,ep,ho',hd',_⟩,_⟩:=I.loc
 rw [z,ho'] at ho; cases ho; rw [hd'] at hd; cases hd
theorem Inv.funs (I:Inv X pins σ H s):s.heap.FunFrames X.base X.outer:=by
 have all:∀ (l:List Env),(∀ b ∈ frs l,b ∈ X.fs) -> X.s₀.heap.FunFrames X.base l -> s.heap.FunFrames X.base l:=by
  intro l
  induction l with
  | nil=>intro _ _; trivial
  | cons env r ih =>
   intro hs hl
   obtain ⟨hk,⟨L,o,hf,hn,ho,hd⟩,hr⟩:=hl
   have hL:L ∈ X.fs:=hs L (by unfold frs; rw [List.filterMap_cons,hf]; exact List.mem_cons_self)
   obtain ⟨sl,e⟩:=I.base.slot L o ho (I.ok.frf L hL) hL fun z=>I.ok.exfs L z hL
   exact ⟨hk,⟨L,_,hf,hn,e,hd⟩,ih (fun b hb=>hs b (by unfold frs; rw [List.filterMap_cons,hf]; exact List.mem_cons_of_mem _ hb)) hr⟩
 exact all X.outer (fun _ hb=>hb) I.ok.funs
theorem Inv.stack (I:Inv X pins σ H s):s.heap.FunFrames X.base X.stack:=by
 rcases I.ok.stk with e | ⟨e,hf⟩
 ·rw [e]; exact I.funs
 ·rw [e]
  obtain ⟨m,hn,_⟩:=I.loc
  refine .cons (by rw [I.ok.kind]; decide) hf hn ?_ I.funs
  exact Heap.get?_none_of_le (Nat.le_trans I.ok.bsz I.ok.above)
theorem Inv.stkSub (I:Inv X pins σ H s):∀ b ∈ frs X.stack,b ∈ X.env.locals :: X.fs:=fun b hb=>by
 rcases I.ok.stk with e | ⟨e,hf⟩
 ·rw [e] at hb; exact List.mem_cons_of_mem _ hb
 ·rw [e] at hb
  unfold frs at hb
  rw [List.filterMap_cons,hf] at hb
  exact hb
theorem Inv.stkFree (I:Inv X pins σ H s):∀ b ∈ frs X.stack,H b = none:=fun b hb=>by
 rcases List.mem_cons.mp (I.stkSub b hb) with e | hb
 ·rw [e]; exact I.free
 ·obtain ⟨_, o, ho, _⟩ := I.ok.funs.mem hb
  exact I.base.free b o ho (I.ok.frf b hb) fun z=>I.ok.exfs b z hb
theorem Inv.step {g':Array GenState} {t':Nat} {d':Drawn} {ch:List Addr} (I:Inv X pins σ H s)
  (hch:∀ b ∈ ch,(b ∈ X.ex \/ X.s₀.heap.objs.size <= b) /\ b ≠ X.env.locals /\ (∀ x c,X.env.cells.lookup x = some c -> c ≠ b) /\ ∀ p ∈ X.pn ++ pins,p.1 ≠ b)
  (keep:∀ b o,b ≠ X.env.locals -> b ∉ X.fs -> b ∉ ch -> s.heap.get? b = some o -> H b = none -> h'.get? b = some o)
  (slot:∀ b o,b ≠ X.env.locals -> b ∈ X.fs -> b ∉ ch -> s.heap.get? b = some o -> H b = none -> ∃ sl,h'.get? b = some { o with slots:=sl }) (free:∀ b o,b ∉ ch -> s.heap.get? b = some o -> H b = none -> H' b = none)
  (there:∀ b o,b ∉ ch -> s.heap.get? b = some o -> ∃ o',h'.get? b = some o')
  (tups:∀ b xs,H b = some (.tup xs) -> H' b = some (.tup xs)) (frzs:∀ b o u,H b = some (.frz o u) -> H' b = some (.frz o u)) (tbls:∀ b ps,H b = some (.tbl ps) -> ∃ more,H' b = some (.tbl (ps ++ more)))
  (ns:∀ m,s.heap.Ns X.env.locals m -> h'.Ns X.env.locals m) (hok:HOk X.prog X.w H' h') (hg:AllBare g') :
  Inv X pins σ H' { s with heap:=h',gens:=g',drawn:=d',toks:=t' }:=by
 have neL:∀ b o,X.s₀.heap.get? b = some o -> b ≠ X.env.locals:=fun b o e=>Nat.ne_of_lt (Nat.lt_of_lt_of_le (Heap.lt_size e) I.ok.above)
 have neC:∀ b o,X.s₀.heap.get? b = some o -> b ∉ X.ex -> b ∉ ch:=fun b o e hx hb=>by
  rcases (hch b hb).1 with z | z
  ·exact hx z
  ·exact absurd (Nat.lt_of_lt_of_le (Heap.lt_size e) z) (Nat.lt_irrefl _)
 have cellK:∀ x c,X.env.cells.lookup x = some c -> ∀ v,s.heap.IsCell c v -> h'.IsCell c v:=fun x c e v ⟨o,ho,hd⟩=>by
  have nch:c ∉ ch:=fun z=>(hch c z).2.2.1 x c e rfl
  by_cases hc:c ∈ X.fs
  ·obtain ⟨sl, q⟩ := slot c o (I.cne x c e) hc nch ho (I.freeC x c e)
   exact ⟨_,q,hd⟩
  ·exact ⟨o,keep c o (I.cne x c e) hc nch ho (I.freeC x c e),hd⟩
 refine ⟨I.ok,I.os,hg,⟨fun b o e n hb hx=>?_,fun b o e n hb hx=>?_,fun b o e n hx=>?_,fun b o e hx=>?_,fun b xs e=>tups b xs (I.base.tups b xs e),fun b o xs e=>frzs b o xs (I.base.frzs b o xs e),fun b ps e=>?_⟩,?_,fun x c e=>?_,?_,fun x c e=>?_,fun p hp=>?_,hok,I.len⟩
 ·exact keep b o (neL b o e) hb (neC b o e hx) (I.base.keep b o e n hb hx) (I.base.free b o e n hx)
 ·obtain ⟨sl, e1⟩ := I.base.slot b o e n hb hx
  obtain ⟨sl',e2⟩:=slot b _ (neL b o e) hb (neC b o e hx) e1 (I.base.free b o e n hx)
  exact ⟨sl',e2⟩
 ·obtain ⟨o', e1⟩ := I.base.there b o e hx
  exact free b o' (neC b o e hx) e1 (I.base.free b o e n hx)
 ·obtain ⟨o', e1⟩ := I.base.there b o e hx
  exact there b o' (neC b o e hx) e1
 ·obtain ⟨m1, e1⟩ := I.base.tbls b ps e
  obtain ⟨m2,e2⟩:=tbls b _ e1
  exact ⟨m1 ++ m2,by rw [e2,Array.append_assoc]⟩
 ·obtain ⟨m, hn, hl⟩ := I.loc
  refine ⟨m,ns m hn,fun i x v e1 e2 e3=>?_⟩
  obtain ⟨u,r,l⟩:=hl i x v e1 e2 e3
  refine ⟨u,r,?_⟩
  rcases l with l | ⟨k,c,e,z⟩
  ·exact .inl l
  ·exact .inr ⟨k,c,e,cellK x c e _ z⟩
 ·obtain ⟨v, z⟩ := I.cell x c e
  exact ⟨v,cellK x c e v z⟩
 ·obtain ⟨m, ⟨o, _, _, ho, _⟩, _⟩ := I.loc
  exact free _ o (fun z=>(hch _ z).2.1 rfl) ho I.free
 ·obtain ⟨v, o, ho, hd⟩ := I.cell x c e
  exact free c o (fun z=>(hch c z).2.2.1 x c e rfl) ho (I.freeC x c e)
 ·obtain ⟨e, n, ne, nf, d⟩ := I.pin p hp
  have nch:p.1 ∉ ch:=fun z=>(hch p.1 z).2.2.2 p hp rfl
  exact ⟨keep p.1 p.2 ne nf nch e n,free p.1 p.2 nch e n,ne,nf,d⟩
theorem Inv.un {t':Nat} (I:Inv X pins σ H s) (u:Un X.fs [] H H' s.heap h') (hok:HOk X.prog X.w H' h'):Inv X pins σ H' { s with heap:=h',toks:=t' }:=by
 obtain ⟨m,⟨o,es,ep,ho,r⟩,_⟩:=id I.loc
 obtain ⟨sl,hL⟩:=u.any ho I.free (by simp)
 exact I.step (g':=s.gens) (d':=s.drawn) (ch:=[]) (fun _ z=>nomatch z) (fun b o _ hb _ e n=>u.keep b o e n hb (by simp)) (fun b o _ hb _ e n=>u.slot b o e n hb (by simp)) (fun b o _ e n=>u.free b o e n (by simp)) (fun b o _ e=>u.there b o e (by simp)) u.tups u.frzs u.tbls (fun m' hm=>by
  obtain ⟨o',es',ep',ho',r'⟩:=hm
  rw [ho] at ho'; cases ho'
  exact ⟨_,es',ep',hL,r'⟩) hok I.bare
theorem Inv.call {g':Array GenState} {t':Nat} {d':Drawn} {ch:List Addr} (I:Inv X pins σ H s) (u:Un (frs X.stack) ch H H' s.heap h') (hok:HOk X.prog X.w H' h') (hg:AllBare g')
  (hch:∀ b ∈ ch,(b ∈ X.ex \/ X.s₀.heap.objs.size <= b) /\ b ≠ X.env.locals /\ (∀ x c,X.env.cells.lookup x = some c -> c ≠ b) /\ ∀ p ∈ X.pn ++ pins,p.1 ≠ b) :
  Inv X pins σ H' { s with heap:=h',gens:=g',drawn:=d',toks:=t' }:=by
 obtain ⟨m,⟨o,es,ep,ho,r⟩,_⟩:=id I.loc
 obtain ⟨sl,hL⟩:=u.any ho I.free fun z=>(hch _ z).2.1 rfl
 exact I.step (ch:=ch) hch (fun b o hL hb hc e n=>u.keep b o e n (fun z=>(List.mem_cons.mp (I.stkSub b z)).elim hL hb) hc) (fun b o _ _ hc e n=>u.any e n hc) (fun b o hc e n=>u.free b o e n hc) (fun b o hc e=>u.there b o e hc) u.tups u.frzs u.tbls (fun m' hm=>by
  obtain ⟨o',es',ep',ho',r'⟩:=hm
  rw [ho] at ho'; cases ho'
  exact ⟨_,es',ep',hL,r'⟩) hok hg
theorem Inv.turned {t':Nat} {it:Addr} (I:Inv X pins σ H s) (k:∀ b o,b ≠ it -> s.heap.get? b = some o -> h'.get? b = some o) (hn:H it = none) (hL:it ≠ X.env.locals)
  (h1:it ∈ X.ex \/ X.s₀.heap.objs.size <= it) (h2:∀ x c,X.env.cells.lookup x = some c -> c ≠ it) (h3:∀ p ∈ X.pn ++ pins,p.1 ≠ it):Inv X pins σ H { s with heap:=h',toks:=t' }:=by
 have nit:∀ b u,H b = some u -> b ≠ it:=fun b u e z=>by rw [z,hn] at e; cases e
 refine I.step (g':=s.gens) (d':=s.drawn) (ch:=[it]) (fun b hb=>?_) (fun b o _ _ hc e _=>k b o (fun z=>hc (by simp [z])) e) (fun b o _ _ hc e _=>⟨o.slots,k b o (fun z=>hc (by simp [z])) e⟩) (fun _ _ _ _ n=>n)
  (fun b o hc e=>⟨o,k b o (fun z=>hc (by simp [z])) e⟩) (fun _ _ e=>e) (fun _ _ _ e=>e) (fun b ps e=>⟨#[],by rw [e]; simp⟩) (fun m hm=>?_) (fun b u e=>?_) I.bare
 ·have e : b = it := by simpa using hb
  subst e
  exact ⟨h1,hL,h2,h3⟩
 ·obtain ⟨o, es, ep, ho, r⟩ := hm
  exact ⟨o,es,ep,k _ o (Ne.symm hL) ho,r⟩
 ·refine (I.hok b u e).stay (fun c v hc q => k c v ?_ q) (fun _ q => q) fun _ _ q => q
  rcases hc with z | z
  ·rw [z]; exact nit b u e
  ·exact nit c _ z
theorem Inv.tok (I:Inv X pins σ H s) (t:Nat):Inv X pins σ H { s with toks:=t }:=I.un (h':=s.heap) (t':=t) Un.refl I.hok
theorem Inv.kept {t':Nat} (I:Inv X pins σ H s) (k:∀ b u,s.heap.get? b = some u -> h'.get? b = some u):Inv X pins σ H { s with heap:=h',toks:=t' }:=I.un (Un.kept k) (I.hok.kept k)
theorem Inv.laid {a:Addr} {o:HO} {t':Nat} (I:Inv X pins σ H s) (k:∀ b u,s.heap.get? b = some u -> h'.get? b = some u) (hp:s.heap.objs.size <= a) (new:ObjOk X.prog X.w (upd H a o) h' a o) :
  Inv X pins σ (upd H a o) { s with heap:=h',toks:=t' }:=I.un (Un.laid k hp (I.hok.fresh hp)) (I.hok.laid k hp new)
theorem Inv.write {x e:Addr} {o:HO} {t':Nat} (I:Inv X pins σ H s) (mu:Mut (H x)) (he:e = x \/ H e = some (.own x)) (k:∀ b u,b ≠ e -> s.heap.get? b = some u -> h'.get? b = some u) (heo:∃ u,h'.get? e = some u)
  (new:ObjOk X.prog X.w (upd H x o) h' x o):Inv X pins σ (upd H x o) { s with heap:=h',toks:=t' }:=I.un (Un.write mu he k heo) (I.hok.write mu he k heo new)
theorem Inv.weak {σ':List (Option V)} (I:Inv X pins σ H s) (hl:σ'.length = σ.length) (w:∀ (i:Nat) v,σ'[i]? = some (some v) -> σ[i]? = some (some v)):Inv X pins σ' H s :=
 ⟨I.ok,I.os,I.bare,I.base,let ⟨m,hn,hl'⟩:=I.loc; ⟨m,hn,fun i x v e1 e2 e3=>hl' i x v e1 (w i v e2) e3⟩,I.cell,I.free,I.freeC,I.pin,I.hok,hl.trans I.len⟩
theorem Inv.pins_of {pins':List (Addr × Obj)} (I:Inv X pins σ H s) (h:∀ p ∈ pins',s.heap.get? p.1 = some p.2 /\ H p.1 = none /\ p.1 ≠ X.env.locals /\ p.1 ∉ X.fs /\ ∀ v,p.2.data ≠ .cell v):Inv X pins' σ H s :=
 ⟨I.ok,I.os,I.bare,I.base,I.loc,I.cell,I.free,I.freeC,fun p hp=>(List.mem_append.mp hp).elim (fun z=>I.pin p (List.mem_append_left _ z)) (h p),I.hok,I.len⟩
theorem nodup_ix {N:List Str} (hN:N.Nodup) {i j:Nat} {x:Str} (a:N[i]? = some x) (b:N[j]? = some x):i = j:=by
 obtain ⟨h1,e1⟩:=List.getElem?_eq_some_iff.mp a
 obtain ⟨h2,e2⟩:=List.getElem?_eq_some_iff.mp b
 exact (List.getElem_inj hN).mp (e1.trans e2.symm)
theorem store_ok2 {M:Model} {A:Around} {E:Value -> Shared -> Prop} {i:Nat} {x:Str} {v:V} {u:Value} {Q:Unit -> Shared -> Prop} (I:Inv X pins σ H s) (hN:X.N.Nodup) (hi:X.N[i]? = some x) (hx:Loc X.env.scope x) (r:RelV v u)
  (h:∀ s',Inv X pins (σ.set i (some v)) H s' -> (∃ a,Heap.SameBut a s.heap s'.heap /\ (a = X.env.locals \/ X.env.cells.lookup x = some a)) -> Q () s') (hf:X.fn x = true \/ X.env.scope.names.lookup x = some .local:=by first | exact .inl rfl | exact .inr rfl | assumption):wpAny M A (storeName X.env x u) Q E s:=by
 obtain ⟨m,hn,hl⟩:=id I.loc
 have hcls:(X.env.scope.kind == .class || (X.env.scope.kind == .module && X.env.locals != X.env.globals)) = false:=by rw [I.ok.kind]; rfl
 have hiσ:i < σ.length:=by rw [I.len]; exact (List.getElem?_eq_some_iff.mp hi).1
 have cne:=I.cne
 have tracked:∀ {a:Addr} {h':Heap},(∃ o,s.heap.get? a = some o /\ H a = none) -> Heap.SameBut a s.heap h' -> HOk X.prog X.w H h':=fun {a h'} ha hs b ob e=>by
  obtain ⟨_,_,hfree⟩:=ha
  refine (I.hok b ob e).stay (fun c w' hc q=>(hs.2 c ?_).trans q) (fun _ q=>q) fun _ _ q=>q
  rintro rfl
  rcases hc with rfl | hc
  ·rw [hfree] at e; cases e
  ·rw [hfree] at hc; cases hc
 rcases hx with hk | hk
 ·refine wpAny_storeName_local hk hn (fun h' hn' hs => ?_) hcls
  obtain ⟨oL,_,_,hoL,_⟩:=id hn
  refine h _ ⟨I.ok,I.os,I.bare,⟨fun b o e n hb hx=>?_,fun b o e n hb hx=>?_,I.base.free,fun b o e hx=>?_,I.base.tups,I.base.frzs,I.base.tbls⟩,⟨_,hn',fun j y v' e1 e2 e3=>?_⟩,fun y c e=>?_,I.free,I.freeC,fun p hp=>?_,tracked ⟨oL,hoL,I.free⟩ hs,by simpa using I.len⟩ ⟨_,hs,.inl rfl⟩
  ·exact (hs.2 b (Nat.ne_of_lt (Nat.lt_of_lt_of_le (Heap.lt_size e) I.ok.above))).trans (I.base.keep b o e n hb hx)
  ·obtain ⟨sl, e1⟩ := I.base.slot b o e n hb hx
   exact ⟨sl,(hs.2 b (Nat.ne_of_lt (Nat.lt_of_lt_of_le (Heap.lt_size e) I.ok.above))).trans e1⟩
  ·obtain ⟨o', e1⟩ := I.base.there b o e hx
   exact ⟨o',(hs.2 b (Nat.ne_of_lt (Nat.lt_of_lt_of_le (Heap.lt_size e) I.ok.above))).trans e1⟩
  ·by_cases hj : j = i
   ·subst hj
    rw [hi] at e1; cases e1
    rw [List.getElem?_set_self hiσ] at e2
    cases e2
    exact ⟨u,r,.inl ⟨hk,by simp⟩⟩
   ·rw [List.getElem?_set_ne (Ne.symm hj)] at e2
    obtain ⟨u',r',q⟩:=hl j y v' e1 e2 e3
    refine ⟨u',r',?_⟩
    rcases q with ⟨k,e⟩ | ⟨k,c,e,z⟩
    ·refine .inl ⟨k, ?_⟩
     have:y ≠ x:=fun e=>hj (nodup_ix hN e1 (e ▸ hi))
     simp [this,e]
    ·exact .inr ⟨k,c,e,z.sameBut hs (cne y c e)⟩
  ·obtain ⟨w', z⟩ := I.cell y c e
   exact ⟨w',z.sameBut hs (cne y c e)⟩
  ·obtain ⟨e, n, ne, nf, d⟩ := I.pin p hp
   exact ⟨(hs.2 p.1 ne).trans e,n,ne,nf,d⟩
 ·have hfn : X.fn x = true := by
   rcases hf with z | z
   ·exact z
   ·rw [z] at hk; cases hk
  obtain ⟨c,hc⟩:=I.ok.has x (.inl hk)
  obtain ⟨w',z⟩:=I.cell x c hc
  refine wpAny_storeName_cell I.ok.kind hk hc z (fun h' hc' hs=>?_)
  obtain ⟨oc,hoc,hocd⟩:=id z
  refine h { s with heap:=h' } ⟨I.ok,I.os,I.bare,⟨fun b o e n hb hx=>?_,fun b o e n hb hx=>?_,I.base.free,fun b o e hx=>?_,I.base.tups,I.base.frzs,I.base.tbls⟩,⟨m,hn.sameBut hs (Ne.symm (cne x c hc)),fun j y v' e1 e2 e3=>?_⟩,fun y c' e=>?_,I.free,I.freeC,fun p hp=>?_,tracked ⟨oc,hoc,I.freeC x c hc⟩ hs,by simpa using I.len⟩ ⟨c,hs,.inr hc⟩
  ·exact (hs.2 b (Nat.ne_of_lt (Nat.lt_of_lt_of_le (Heap.lt_size e) (I.ok.cab x c hfn hc)))).trans (I.base.keep b o e n hb hx)
  ·obtain ⟨sl, e1⟩ := I.base.slot b o e n hb hx
   exact ⟨sl,(hs.2 b (Nat.ne_of_lt (Nat.lt_of_lt_of_le (Heap.lt_size e) (I.ok.cab x c hfn hc)))).trans e1⟩
  ·obtain ⟨o', e1⟩ := I.base.there b o e hx
   exact ⟨o',(hs.2 b (Nat.ne_of_lt (Nat.lt_of_lt_of_le (Heap.lt_size e) (I.ok.cab x c hfn hc)))).trans e1⟩
  ·by_cases hj : j = i
   ·subst hj
    rw [hi] at e1; cases e1
    rw [List.getElem?_set_self hiσ] at e2
    cases e2
    exact ⟨u,r,.inr ⟨.inl hk,c,hc,hc'⟩⟩
   ·rw [List.getElem?_set_ne (Ne.symm hj)] at e2
    obtain ⟨u',r',q⟩:=hl j y v' e1 e2 e3
    refine ⟨u',r',?_⟩
    rcases q with q | ⟨k,c',e,z'⟩
    ·exact .inl q
    ·refine .inr ⟨k, c', e, z'.sameBut hs ?_⟩
     rintro rfl
     exact hj (nodup_ix hN e1 (I.ok.inj _ _ _ e hc ▸ hi))
  ·by_cases hcc : c' = c
   ·subst hcc; exact ⟨_,hc'⟩
   ·obtain ⟨w2, z2⟩ := I.cell y c' e
    exact ⟨w2,z2.sameBut hs hcc⟩
  ·obtain ⟨e, n, ne, nf, d⟩ := I.pin p hp
   refine ⟨(hs.2 p.1 ?_).trans e,n,ne,nf,d⟩
   intro q
   rw [q,hoc] at e
   have q':oc = p.2:=Option.some.inj e
   exact d w' (by rw [<- q']; exact hocd)
theorem store_ok {M:Model} {A:Around} {E:Value -> Shared -> Prop} {i:Nat} {x:Str} {v:V} {u:Value} {Q:Unit -> Shared -> Prop} (I:Inv X pins σ H s) (hN:X.N.Nodup) (hi:X.N[i]? = some x) (hx:Loc X.env.scope x) (r:RelV v u)
  (h:∀ s',Inv X pins (σ.set i (some v)) H s' -> Q () s') (hf:X.fn x = true \/ X.env.scope.names.lookup x = some .local:=by first | exact .inl rfl | exact .inr rfl | assumption):wpAny M A (storeName X.env x u) Q E s :=
 store_ok2 I hN hi hx r (fun s' I' _=>h s' I') hf
theorem Inv.call' {s':Shared} {ch:List Addr} (I:Inv X pins σ H s) (ho:s'.os = s.os) (u:Un (frs X.stack) ch H H' s.heap s'.heap) (hok:HOk X.prog X.w H' s'.heap) (hg:AllBare s'.gens)
  (hch:∀ b ∈ ch,(b ∈ X.ex \/ X.s₀.heap.objs.size <= b) /\ b ≠ X.env.locals /\ (∀ x c,X.env.cells.lookup x = some c -> c ≠ b) /\ ∀ p ∈ X.pn ++ pins,p.1 ≠ b):Inv X pins σ H' s':=by
 obtain ⟨h',g',d',t',o'⟩:=s'
 have e:o' = s.os:=ho
 subst e
 exact I.call (g':=g') (t':=t') (d':=d') u hok hg hch
end
abbrev XK:=Value -> Option Addr -> Hp -> Prop
abbrev St:=List (Option V)
abbrev VK:=V -> Hp -> Prop
abbrev TE:=St -> Hp -> VK -> Prop
abbrev TT:=St -> Hp -> (Bool -> Hp -> Prop) -> Prop
abbrev TA:=St -> Hp -> (List V -> Hp -> Prop) -> Prop
structure Ends where
 nx:St -> Hp -> Prop
 rt:VK
 bk:St -> Hp -> Prop:=fun _ _=>False
 ct:St -> Hp -> Prop:=fun _ _=>False
abbrev TS:=Ends -> St -> Hp -> Prop
def EP (X:Cx) (pins:List (Addr × Obj)) (σ:St) (Q:VK) (u:Value) (s':Shared):Prop:=∃ v H',Inv X pins σ H' s' /\ RelV v u /\ Q v H'
def TP (X:Cx) (pins:List (Addr × Obj)) (σ:St) (Q:Bool -> Hp -> Prop) (b:Bool) (s':Shared):Prop:=∃ H',Inv X pins σ H' s' /\ Q b H'
def AP (X:Cx) (pins:List (Addr × Obj)) (σ:St) (Q:List V -> Hp -> Prop) (us:List Value) (s':Shared):Prop:=∃ vs H',Inv X pins σ H' s' /\ Vals vs us /\ Q vs H'
def SP (X:Cx) (pins:List (Addr × Obj)) (D:Ends) (f:Flow) (s':Shared):Prop :=
 match f with
 | .next=>∃ σ' H',Inv X pins σ' H' s' /\ D.nx σ' H'
 | .brk=>∃ σ' H',Inv X pins σ' H' s' /\ D.bk σ' H'
 | .cont=>∃ σ' H',Inv X pins σ' H' s' /\ D.ct σ' H'
 | .ret u=>∃ v σ' H',Inv X pins σ' H' s' /\ RelV v u /\ D.rt v H'
def PE (X:Cx) (e:Expr) (t:TE):Prop :=
 ∀ (pins:List (Addr × Obj)) (s:Shared) (σ:St) (H:Hp) (Q:VK),Inv X pins σ H s -> t σ H Q -> wpAny (model X.prog X.w) X.A (eval e X.env) (EP X pins σ Q) X.xe s
def PT (X:Cx) (e:Expr) (t:TT):Prop :=
 ∀ (pins:List (Addr × Obj)) (s:Shared) (σ:St) (H:Hp) (Q:Bool -> Hp -> Prop),Inv X pins σ H s -> t σ H Q -> wpAny (model X.prog X.w) X.A (isTrue e X.env (eval e X.env)) (TP X pins σ Q) X.xe s
def PW (X:Cx) (e:Expr) (t:TT):Prop :=
 ∀ (whole:Sem Value) (pins:List (Addr × Obj)) (s:Shared) (σ:St) (H:Hp) (Q:Bool -> Hp -> Prop),Inv X pins σ H s -> t σ H Q -> wpAny (model X.prog X.w) X.A (isTrue e X.env whole) (TP X pins σ Q) X.xe s
theorem PW.pt {X:Cx} {e:Expr} {t:TT} (h:PW X e t):PT X e t:=h _
def PA (X:Cx) (es:List Expr) (t:TA):Prop :=
 ∀ (pos:Pos) (pins:List (Addr × Obj)) (s:Shared) (σ:St) (H:Hp) (Q:List V -> Hp -> Prop),Inv X pins σ H s -> t σ H Q -> wpAny (model X.prog X.w) X.A (spliced (backTo pos (starEach es X.env))) (AP X pins σ Q) X.xe s
def PS (X:Cx) (st:Stmt) (t:TS):Prop :=
 ∀ (pins:List (Addr × Obj)) (s:Shared) (σ:St) (H:Hp) (D:Ends),Inv X pins σ H s -> t D σ H -> wpAny (model X.prog X.w) X.A (exec st X.env) (SP X pins D) X.xe s
def PSs (X:Cx) (st:List Stmt) (t:TS):Prop :=
 ∀ (pins:List (Addr × Obj)) (s:Shared) (σ:St) (H:Hp) (D:Ends),Inv X pins σ H s -> t D σ H -> wpAny (model X.prog X.w) X.A (execs st X.env) (SP X pins D) X.xe s
theorem thn {α:Type} {t:Sem α} {Q Q':α -> Shared -> Prop} {M:Model} {A:Around} {E:Value -> Shared -> Prop} {s:Shared} (h:wpAny M A t Q E s) (hQ:∀ a s,Q a s -> Q' a s):wpAny M A t Q' E s:=wpAny_mono h hQ fun _ _ x=>x
end L2
namespace L2
open PySem PySem.Spec PyProof.Rows
section
variable {X:Cx}
def tVar (i:Nat):TE:=fun σ H Q=>∃ v,σ[i]? = some (some v) /\ Q v H
def tC (v:V):TE:=fun _ H Q=>Q v H
theorem pe_var {i:Nat} {x:Str} {pos:Pos} (hN:X.N[i]? = some x) (hv:Vis X.env.scope x) (hd:(x == ("__debug__" : Str)) = false:=by decide) (hcd:(x == ("__classdict__" : Str)) = false:=by decide):PE X (.Name x pos) (tVar i):=by
 intro pins s σ H Q I h
 obtain ⟨v,e,h⟩:=h
 obtain ⟨m,hn,hl⟩:=I.loc
 obtain ⟨u,r,l⟩:=hl i x v hN e hv
 have fin:EP X pins σ Q u s:=⟨v,H,I,r,h⟩
 rcases l with ⟨hk,hm⟩ | ⟨hk,c,hc,hcell⟩
 ·exact wpAny_Name (wpAny_loadName_local I.ok.kind hk hn hm fin) hd
 ·rcases hk with hk | hk
  ·exact wpAny_Name (wpAny_loadName_cell I.ok.kind hk hc hcell fin) hd
  ·exact wpAny_Name (wpAny_loadName_free I.ok.kind hk hc hcell fin hcd) hd
theorem pe_int {i j pos}:PE X (.Constant (.int i) j pos) (tC (.int i)):=fun _ _ _ H _ I h=>wpAny_Constant_int ⟨.int i,H,I.tok _,⟨_,rfl⟩,h⟩
theorem pe_bl {b j pos}:PE X (.Constant (.bool b) j pos) (tC (.bl b)):=fun _ _ _ H _ I h=>Constant_bool ⟨.bl b,H,I,rfl,h⟩
theorem pe_non {j pos}:PE X (.Constant .none j pos) (tC .non):=fun _ _ _ H _ I h=>Constant_none ⟨.non,H,I,rfl,h⟩
theorem pe_str {x j pos}:PE X (.Constant (.str x) j pos) (tC (.str x)):=fun _ _ _ H _ I h=>Calls.Constant_str ⟨.str x,H,I.tok _,⟨_,rfl⟩,h⟩
def Gl (X:Cx) (x:Str):Prop:=X.env.kindOf x = some .globalImplicit
theorem ld_glob {E:Value -> Shared -> Prop} {pins:List (Addr × Obj)} {s:Shared} {σ:St} {H:Hp} {x:Str} {u:Value} {pos:Pos} {Q:Value -> Shared -> Prop} (I:Inv X pins σ H s) (hg:Gl X x) (hm:X.mg x = some u) (h:Q u s)
  (hd:(x == ("__debug__" : Str)) = false:=by decide):wpAny (model X.prog X.w) X.A (eval (.Name x pos) X.env) Q E s :=
 Calls.Name_function_global I.ok.kind hg (Calls.loadGlobal_global (by rw [I.ok.glob]; exact I.mod.glob.keeps I.bk) hm h) hd
theorem ld_blt {E:Value -> Shared -> Prop} {pins:List (Addr × Obj)} {s:Shared} {σ:St} {H:Hp} {x:Str} {u:Value} {pos:Pos} {Q:Value -> Shared -> Prop} (I:Inv X pins σ H s) (hg:Gl X x) (hm:X.mg x = none) (hv:bootBuiltins x = some u) (h:Q u s)
  (hn:x ≠ "__name__" := by decide) (hd:(x == ("__debug__" : Str)) = false:=by decide):wpAny (model X.prog X.w) X.A (eval (.Name x pos) X.env) Q E s:=by
 obtain ⟨mb,h1,h2⟩:=I.mod.blt
 exact Calls.Name_function_global I.ok.kind hg (Calls.loadGlobal_builtin (by rw [I.ok.glob]; exact I.mod.glob.keeps I.bk) hm (by rw [I.ok.blt]; exact h1.keeps I.bk) ((h2 x hn).trans hv) h) hd
theorem pe_glob {x:Str} {v:V} {u:Value} {pos:Pos} (hg:Gl X x) (hm:X.mg x = some u) (r:RelV v u) (hd:(x == ("__debug__" : Str)) = false:=by decide):PE X (.Name x pos) (tC v) :=
 fun _ _ _ H _ I h=>ld_glob I hg hm ⟨v,H,I,r,h⟩ hd
theorem pe_bltn {x:Str} {v:V} {u:Value} {pos:Pos} (hg:Gl X x) (hm:X.mg x = none) (hv:bootBuiltins x = some u) (r:RelV v u) (hn:x ≠ "__name__" := by decide) (hd:(x == ("__debug__" : Str)) = false:=by decide):PE X (.Name x pos) (tC v) :=
 fun _ _ _ H _ I h=>ld_blt I hg hm hv ⟨v,H,I,r,h⟩ hn hd
variable {a b:Expr} {ta tb:TE} {pos:Pos}
def tB (t:TE):TT:=fun σ H Q=>t σ H fun x H1=>∃ c,x = .bl c /\ Q c H1
theorem pt_val {e:Expr} {t:TE} (h:PE X e t) (he:∀ whole,isTrue e X.env whole = (do let v <- whole; standAt e.pos; holding [v] (truthy v)):=by intro _; rfl):PT X e (tB t):=by
 intro pins s σ H Q I hw
 refine isTrue_plain (thn (h pins s σ H _ I hw) fun v s1 ⟨x,H1,I1,r1,q1⟩=>?_) (he _)
 obtain ⟨d,rfl,q⟩:=q1
 cases r1
 exact wpAny_truthy_bool ⟨H1,I1,q⟩
variable {tA tB':TT} {rest:List Expr}
def tAnd (t u:TT):TT:=fun σ H Q=>t σ H fun c H1=>if c = true then u σ H1 Q else Q false H1
def tOr (t u:TT):TT:=fun σ H Q=>t σ H fun c H1=>if c = true then Q true H1 else u σ H1 Q
def tNot (t:TT):TT:=fun σ H Q=>t σ H fun c H1=>Q (!c) H1
theorem pw_and1 (ha:PT X a tA):PW X (.BoolOp .And [a] pos) tA:=by
 intro wh pins s σ H Q I h
 refine isTrue_and (thn (ha pins s σ H Q I h) fun c s1 e=>?_)
 cases c with
 | true=>exact isTrue_and_nil e
 | false=>exact e
theorem pw_or1 (ha:PT X a tA):PW X (.BoolOp .Or [a] pos) tA:=by
 intro wh pins s σ H Q I h
 refine isTrue_or (thn (ha pins s σ H Q I h) fun c s1 e=>?_)
 cases c with
 | false=>exact isTrue_or_nil e
 | true=>exact e
theorem pw_and (ha:PT X a tA) (hb:PW X (.BoolOp .And (b :: rest) pos) tB'):PW X (.BoolOp .And (a :: b :: rest) pos) (tAnd tA tB'):=by
 intro wh pins s σ H Q I h
 refine isTrue_and (thn (ha pins s σ H _ I h) fun c s1 ⟨H1,I1,q1⟩=>?_)
 cases c with
 | true=>exact hb wh pins s1 σ H1 Q I1 q1
 | false=>exact ⟨H1,I1,q1⟩
theorem pw_or (ha:PT X a tA) (hb:PW X (.BoolOp .Or (b :: rest) pos) tB'):PW X (.BoolOp .Or (a :: b :: rest) pos) (tOr tA tB'):=by
 intro wh pins s σ H Q I h
 refine isTrue_or (thn (ha pins s σ H _ I h) fun c s1 ⟨H1,I1,q1⟩=>?_)
 cases c with
 | true=>exact ⟨H1,I1,q1⟩
 | false=>exact hb wh pins s1 σ H1 Q I1 q1
theorem pt_not (ha:PT X a tA):PT X (.UnaryOp .Not a pos) (tNot tA):=by
 intro pins s σ H Q I h
 exact isTrue_not (ha pins s σ H (fun c H1=>Q (!c) H1) I h)
def tAndV (ta tb:TE):TE:=fun σ H Q=>ta σ H fun x H1=>∃ c,x = .bl c /\ if c = true then tb σ H1 Q else Q (.bl false) H1
def tNotV (ta:TE):TE:=fun σ H Q=>ta σ H fun x H1=>∃ c,x = .bl c /\ Q (.bl (!c)) H1
theorem pe_one {op} {t:TE} (h:PE X a t):PE X (.BoolOp op [a] pos) t:=fun pins s σ H Q I hw=>BoolOp_one (h pins s σ H Q I hw)
theorem pe_and (ha:PE X a ta) (hb:PE X (.BoolOp .And (b :: rest) pos) tb):PE X (.BoolOp .And (a :: b :: rest) pos) (tAndV ta tb):=by
 intro pins s σ H Q I h
 refine BoolOp_and (thn (ha pins s σ H _ I h) fun v s1 ⟨x,H1,I1,r1,q1⟩=>?_)
 obtain ⟨c,rfl,q1⟩:=q1
 cases r1
 refine wpAny_truthy_bool ?_
 cases c with
 | true=>exact hb pins s1 σ H1 Q I1 q1
 | false=>exact ⟨.bl false,H1,I1,rfl,q1⟩
theorem pe_not (ha:PE X a ta):PE X (.UnaryOp .Not a pos) (tNotV ta):=by
 intro pins s σ H Q I h
 refine UnaryOp_ (thn (ha pins s σ H _ I h) fun v s1 ⟨x,H1,I1,r1,q1⟩=>?_)
 obtain ⟨c,rfl,q1⟩:=q1
 cases r1
 exact not_of (wpAny_truthy_bool ⟨.bl (!c),H1,I1,rfl,q1⟩)
def tIf (t:TT) (ta tb:TE):TE:=fun σ H Q=>t σ H fun c H1=>if c = true then ta σ H1 Q else tb σ H1 Q
theorem pe_ifExp {c:Expr} (hc:PT X c tA) (ha:PE X a ta) (hb:PE X b tb):PE X (.IfExp c a b pos) (tIf tA ta tb):=by
 intro pins s σ H Q I h
 refine wpAny_IfExp (thn (hc pins s σ H _ I h) fun d s1 ⟨H1,I1,q1⟩=>?_)
 cases d with
 | true=>exact ha pins s1 σ H1 Q I1 q1
 | false=>exact hb pins s1 σ H1 Q I1 q1
end
end L2
namespace L2
open PySem PySem.Spec PyProof.Rows
def SqL (K:PySem.W.Frag) (H:Hp) (a:Addr) (xs:List V):Prop :=
 Rd H a (.lst xs) \/
  ∃ (o:Obj) (its:Array Value) (n:Nat),K.lookup a = some o /\ o.cls = .type "list" /\ o.dict = none /\ o.data = .seq its n /\ its.size <= sizeLine /\ Vals xs its.toList
def SqT (K:PySem.W.Frag) (H:Hp) (a:Addr) (xs:List V):Prop :=
 Rd H a (.tup xs) \/
  ∃ (o:Obj) (its:Array Value) (n:Nat),K.lookup a = some o /\ o.cls = .type "tuple" /\ o.data = .seq its n /\ its.size <= sizeLine /\ Vals xs its.toList
def absV:Value -> Option V
 | .none=>some .non
 | .bool b=>some (.bl b)
 | .int i _=>some (.int i)
 | .str x _=>some (.str x)
 | .bytes b _=>some (.byt b)
 | .float b _=>some (.flt b)
 | .ref a=>some (.ref a)
 | .type n=>some (.ty n)
 | _=>none
theorem RelV.abs {x:V} {u:Value} (r:RelV x u):absV u = some x:=by
 cases x with
 | non=>cases r; rfl
 | bl _=>cases r; rfl
 | int _=>obtain ⟨t,rfl⟩:=r; rfl
 | str _=>obtain ⟨t,rfl⟩:=r; rfl
 | byt _=>obtain ⟨t,rfl⟩:=r; rfl
 | flt _=>obtain ⟨t,rfl⟩:=r; rfl
 | ref _=>cases r; rfl
 | ty _=>cases r; rfl
theorem RelV.inj {x y:V} {u:Value} (r:RelV x u) (q:RelV y u):x = y:=Option.some.inj (r.abs.symm.trans q.abs)
theorem Vals.inj:∀ {xs ys:List V} {us:List Value},Vals xs us -> Vals ys us -> xs = ys
 | _,_,_,.nil,.nil=>rfl
 | _,_,_,.cons r t,.cons r' t'=>by rw [r.inj r',Vals.inj t t']
section
variable {X:Cx} {pins:List (Addr × Obj)} {σ:St} {H:Hp} {s:Shared} {a:Addr} {xs ys:List V}
theorem SqL.of {K:PySem.W.Frag} (h:H a = some (.lst xs)):SqL K H a xs:=.inl (.inl h)
theorem Inv.list (I:Inv X pins σ H s) (h:SqL X.K H a xs):∃ its:List Value,Vals xs its /\ PlainL s.heap a its.toArray /\ xs.length <= sizeLine:=by
 rcases h with h | ⟨o,its,n,hk,hc,hd,hs,hz,r⟩
 ·obtain ⟨z, its, n, r, e⟩ := h.ok I.hok
  exact ⟨its,r,⟨_,n,e,rfl,rfl,rfl⟩,z⟩
 ·refine ⟨its.toList, r, ⟨o, n, I.kIn a o hk, hc, hd, by simpa using hs⟩, ?_⟩
  have e:=r.length
  simp only [Array.length_toList] at e
  lia
theorem Inv.tuple (I:Inv X pins σ H s) (h:SqT X.K H a xs):∃ its:List Value,Vals xs its /\ IsTup s.heap a its.toArray /\ xs.length <= sizeLine:=by
 rcases h with h | ⟨o,its,n,hk,hc,hs,hz,r⟩
 ·obtain ⟨z, its, r, p⟩ := h.ok I.hok
  exact ⟨its,r,p,z⟩
 ·refine ⟨its.toList, r, ⟨o, I.kIn a o hk, hc, n, by simpa using hs⟩, ?_⟩
  have e:=r.length
  simp only [Array.length_toList] at e
  lia
theorem Inv.list_inj (I:Inv X pins σ H s) (h:SqL X.K H a xs) (h':SqL X.K H a ys):xs = ys:=by
 obtain ⟨its,r,⟨o,n,e,_,_,d⟩,_⟩:=I.list h
 obtain ⟨its',r',⟨o',n',e',_,_,d'⟩,_⟩:=I.list h'
 rw [e] at e'; cases e'
 rw [d] at d'
 injection d' with d1 _
 have:its = its':=by simpa using congrArg Array.toList d1
 subst this
 exact r.inj r'
theorem Inv.tuple_inj (I:Inv X pins σ H s) (h:SqT X.K H a xs) (h':SqT X.K H a ys):xs = ys:=by
 obtain ⟨its,r,⟨o,e,_,n,d⟩,_⟩:=I.tuple h
 obtain ⟨its',r',⟨o',e',_,n',d'⟩,_⟩:=I.tuple h'
 rw [e] at e'; cases e'
 rw [d] at d'
 injection d' with d1 _
 have:its = its':=by simpa using congrArg Array.toList d1
 subst this
 exact r.inj r'
end
abbrev Cx.wish (X:Cx) (E:Value -> Shared -> Prop):Cx:={ X with xe:=E }
abbrev Cx.nox (X:Cx):Cx:=X.wish fun _ _=>False
theorem Cx.Ok.wish {X:Cx} (ok:X.Ok) (E:Value -> Shared -> Prop):(X.wish E).Ok :=
 ⟨ok.mod,ok.kind,ok.glob,ok.blt,ok.above,ok.inj,ok.has,ok.cab,ok.hd,ok.frames,ok.stk,ok.exf,ok.bs,ok.bsz,ok.noex,ok.exfs,ok.funs,ok.frf⟩
theorem Cx.Ok.unwish {X:Cx} {E:Value -> Shared -> Prop} (ok:(X.wish E).Ok):X.Ok :=
 ⟨ok.mod,ok.kind,ok.glob,ok.blt,ok.above,ok.inj,ok.has,ok.cab,ok.hd,ok.frames,ok.stk,ok.exf,ok.bs,ok.bsz,ok.noex,ok.exfs,ok.funs,ok.frf⟩
section
variable {X:Cx} {pins:List (Addr × Obj)} {σ:St} {H:Hp} {s:Shared} {E:Value -> Shared -> Prop}
theorem Inv.wish (I:Inv X pins σ H s) (E:Value -> Shared -> Prop):Inv (X.wish E) pins σ H s:=⟨I.ok.wish E,I.os,I.bare,I.base,I.loc,I.cell,I.free,I.freeC,I.pin,I.hok,I.len⟩
theorem Inv.unwish (I:Inv (X.wish E) pins σ H s):Inv X pins σ H s:=⟨I.ok.unwish,I.os,I.bare,I.base,I.loc,I.cell,I.free,I.freeC,I.pin,I.hok,I.len⟩
theorem SP.unwish {D:Ends} {f:Flow} {s':Shared} (h:SP (X.wish E) pins D f s'):SP X pins D f s':=by
 cases f with
 | next=>obtain ⟨σ',H',I,q⟩:=h; exact ⟨σ',H',I.unwish,q⟩
 | brk=>obtain ⟨σ',H',I,q⟩:=h; exact ⟨σ',H',I.unwish,q⟩
 | cont=>obtain ⟨σ',H',I,q⟩:=h; exact ⟨σ',H',I.unwish,q⟩
 | ret u=>obtain ⟨v,σ',H',I,r,q⟩:=h; exact ⟨v,σ',H',I.unwish,r,q⟩
theorem PSs.nox {st:List Stmt} {t:TS} (h:PSs X.nox st t):PSs X st t:=fun pins s σ H D I hw =>
 wpAny_mono (h pins s σ H D (I.wish _) hw) (fun _ _ q=>q.unwish) fun _ _ z=>False.elim z
end
section
variable {X:Cx} {st:Stmt} {rest:List Stmt} {t u:TS} {e:Expr} {te:TE} {pos:Pos}
def tNext:TS:=fun D σ H=>D.nx σ H
def tSeq (t u:TS):TS:=fun D σ H=>t { D with nx:=u D } σ H
theorem pss_nil:PSs X [] tNext:=fun _ _ σ H _ I h=>wpAny_execs_nil ⟨σ,H,I,h⟩
theorem pss_cons (h1:PS X st t) (h2:PSs X rest u):PSs X (st :: rest) (tSeq t u):=by
 intro pins s σ H D I h
 refine wpAny_execs_cons (thn (h1 pins s σ H { D with nx:=u D } I h) fun f s1 q=>?_)
 cases f with
 | next =>
  obtain ⟨σ',H',I',q⟩:=q
  exact h2 pins s1 σ' H' D I' q
 | ret v=>exact q
 | brk=>exact q
 | cont=>exact q
theorem pss_one (h1:PS X st t):PSs X [st] t:=by
 intro pins s σ H D I h
 refine wpAny_execs_cons (thn (h1 pins s σ H D I h) fun f s1 q=>?_)
 cases f with
 | next=>exact wpAny_execs_nil q
 | ret v=>exact q
 | brk=>exact q
 | cont=>exact q
def tCont:TS:=fun D σ H=>D.ct σ H
theorem ps_continue:PS X (.Continue pos) tCont:=fun _ _ σ H _ I h=>wpAny_Continue ⟨σ,H,I,h⟩
theorem Inv.quiet {pins:List (Addr × Obj)} {σ:St} {H:Hp} {s:Shared} (I:Inv X pins σ H s):interactive X.env = false:=by simp [interactive,I.ok.kind]
def tDrop (te:TE):TS:=fun D σ H=>te σ H fun _ H1=>D.nx σ H1
theorem ps_expr (he:PE X e te) (hs:swapsWith e none pos.line X.env = pure false:=by rfl):PS X (.Expr e pos) (tDrop te):=by
 intro pins s σ H D I h
 exact wpAny_Expr_any (thn (he pins s σ H _ I h) fun v s1 ⟨x,H1,I1,r1,q1⟩=>⟨σ,H1,I1,q1⟩) I.quiet hs
def tRet (te:TE):TS:=fun D σ H=>te σ H D.rt
theorem ps_ret (he:PE X e te):PS X (.Return (some e) pos) (tRet te):=by
 intro pins s σ H D I h
 exact wpAny_Return_some (thn (he pins s σ H _ I h) fun v s1 ⟨x,H1,I1,r1,q1⟩=>⟨x,σ,H1,I1,r1,q1⟩)
def tIfS (c:TT) (t u:TS):TS:=fun D σ H=>c σ H fun b H1=>if b = true then t D σ H1 else u D σ H1
theorem ps_if {c:Expr} {a b:List Stmt} {tc:TT} (hc:PT X c tc) (ha:PSs X a t) (hb:PSs X b u):PS X (.If c a b pos) (tIfS tc t u):=by
 intro pins s σ H D I h
 refine wpAny_If (thn (hc pins s σ H _ I h) fun d s1 ⟨H1,I1,q1⟩=>?_)
 cases d with
 | true=>exact ha pins s1 σ H1 D I1 q1
 | false=>exact hb pins s1 σ H1 D I1 q1
end
abbrev TG:=V -> St -> Hp -> (St -> Hp -> Prop) -> Prop
abbrev TGs:=List V -> St -> Hp -> (St -> Hp -> Prop) -> Prop
def PG (X:Cx) (target:Expr) (t:TG):Prop :=
 ∀ (pins:List (Addr × Obj)) (s:Shared) (σ:St) (H:Hp) (v:V) (u:Value) (Q:St -> Hp -> Prop),Inv X pins σ H s -> RelV v u -> t v σ H Q ->
  wpAny (model X.prog X.w) X.A (assign target X.env u) (fun _ s'=>∃ σ' H',Inv X pins σ' H' s' /\ Q σ' H') X.xe s
def PGs (X:Cx) (ts:List Expr) (t:TGs):Prop :=
 ∀ (pins:List (Addr × Obj)) (s:Shared) (σ:St) (H:Hp) (vs:List V) (us:List Value) (Q:St -> Hp -> Prop),Inv X pins σ H s -> Vals vs us -> t vs σ H Q ->
  wpAny (model X.prog X.w) X.A (assignInOrder ((assignEach ts X.env).map (·.2)) us) (fun _ s'=>∃ σ' H',Inv X pins σ' H' s' /\ Q σ' H') X.xe s
abbrev TSet:=V -> V -> V -> Hp -> (Hp -> Prop) -> Prop
def PSet (X:Cx) (t:TSet):Prop :=
 ∀ (pins:List (Addr × Obj)) (s:Shared) (σ:St) (H:Hp) (o i v:V) (ov iv u:Value) (Q:Hp -> Prop),Inv X pins σ H s -> RelV o ov -> RelV i iv -> RelV v u -> t o i v H Q ->
  wpAny (model X.prog X.w) X.A (setItem ov iv u) (fun _ s'=>∃ H',Inv X pins σ H' s' /\ Q H') X.xe s
section
variable {X:Cx} {pos:Pos}
def gName (i:Nat):TG:=fun v σ H Q=>Q (σ.set i (some v)) H
theorem pg_name {i:Nat} {x:Str} (hN:X.N.Nodup) (hi:X.N[i]? = some x) (hx:Loc X.env.scope x) (hf:X.fn x = true \/ X.env.scope.names.lookup x = some .local:=by first | exact .inl rfl | exact .inr rfl | assumption):PG X (.Name x pos) (gName i):=by
 intro pins s σ H v u Q I r h
 exact wpAny_assign_Name (store_ok I hN hi hx r (fun s' I'=>⟨_,H,I',h⟩) hf)
def gNil:TGs:=fun vs σ H Q=>vs = [] /\ Q σ H
def gCons (t:TG) (u:TGs):TGs:=fun vs σ H Q=>∃ v r,vs = v :: r /\ t v σ H fun σ' H'=>u r σ' H' Q
theorem pgs_nil:PGs X [] gNil:=by
 intro pins s σ H vs us Q I r h
 obtain ⟨e,h⟩:=h
 subst e
 cases r
 exact assignInOrder_nil ⟨σ,H,I,h⟩
theorem pgs_cons {e:Expr} {es:List Expr} {t:TG} {u:TGs} (h1:PG X e t) (h2:PGs X es u)
  (hs:(assignEach (e :: es) X.env).map (·.2) = assign e X.env :: (assignEach es X.env).map (·.2):=by rfl):PGs X (e :: es) (gCons t u):=by
 intro pins s σ H vs us Q I r h
 obtain ⟨v,vr,e1,h⟩:=h
 subst e1
 cases r with
 | cons r rr =>
  rw [hs]
  refine assignInOrder_cons (thn (h1 pins s σ H _ _ _ I r h) fun _ s1 ⟨σ1,H1,I1,q1⟩=>?_)
  exact h2 pins s1 σ1 H1 _ _ Q I1 rr q1
def gTup (K:PySem.W.Frag) (n:Nat) (t:TGs):TG:=fun v σ H Q=>∃ a xs,v = .ref a /\ SqT K H a xs /\ xs.length = n /\ t xs σ H Q
theorem pg_tup {es:List Expr} {k:Nat} {t:TGs} {n:Nat} (hc:X.calm = true) (h:PGs X es t)
  (hn:(assignEach es X.env).length = n:=by rfl) (hst:(assignEach es X.env).findIdx? (·.1) = none:=by rfl):PG X (.Tuple es k pos) (gTup X.K n t):=by
 intro pins s σ H v u Q I r hw
 obtain ⟨a,xs,e1,hq,hl,hw⟩:=hw
 subst e1
 cases r
 obtain ⟨its,rv,ht,hz⟩:=I.tuple hq
 refine assign_Tuple_tuple (I.ok.hd hc) ht (by simp [hn,<- hl,rv.length]) hst fun h' hx=>?_
 have I1:Inv X pins σ H { s with heap:=h' }:=I.kept (t':=s.toks) fun b o e=>hx b o (Nat.ne_of_lt (Heap.lt_size e)) e
 exact h pins _ σ H xs _ Q I1 (by simpa using rv) hw
def gSub (to ti:TE) (t:TSet):TG:=fun v σ H Q=>to σ H fun o H1=>ti σ H1 fun i H2=>t o i v H2 fun H3=>Q σ H3
theorem pg_sub {o i:Expr} {to ti:TE} {t:TSet} (ho:PE X o to) (hi:PE X i ti) (hs:PSet X t)
  (ha : ∀ v, assign (.Subscript o i pos) X.env v = (do
   let ov <- holding [v] (eval o X.env)
   let iv <- holding [v,ov] (eval i X.env)
   standAt pos
   holding [v,ov,iv] (setItem ov iv v)
   release [v,ov,iv] []):=by intro _; rfl):PG X (.Subscript o i pos) (gSub to ti t):=by
 intro pins s σ H v u Q I r h
 rw [ha]
 refine wpAny_bind (wpAny_holding (thn (ho pins s σ H _ I h) fun ov s1 ⟨x,H1,I1,r1,q1⟩=>?_))
 refine wpAny_bind (wpAny_holding (thn (hi pins s1 σ H1 _ I1 q1) fun iv s2 ⟨y,H2,I2,r2,q2⟩=>?_))
 refine wpAny_bind (wpAny_standAt (wpAny_bind (wpAny_holding (thn (hs pins s2 σ H2 x y v ov iv u _ I2 r1 r2 r q2) fun _ s3 ⟨H3,I3,q3⟩=>?_))))
 exact wpAny_release ⟨σ,H3,I3,q3⟩
def tAsg (te:TE) (g:TG):TS:=fun D σ H=>te σ H fun x H1=>g x σ H1 D.nx
theorem ps_asg {tg e:Expr} {te:TE} {g:TG} (he:PE X e te) (hg:PG X tg g) (hs:swapsWithSole [tg] e pos.line X.env = pure false:=by rfl) (hw:swappedStores [tg] e X.env = pure none:=by rfl)
  (h1:(assignEach [tg] X.env).map (·.2) = [assign tg X.env]:=by rfl):PS X (.Assign [tg] e pos) (tAsg te g):=by
 intro pins s σ H D I h
 refine wpAny_Assign_stores (thn (he pins s σ H _ I h) fun v s1 ⟨x,H1,I1,r1,q1⟩=>?_) hs hw
 rw [h1]
 exact thn (hg pins s1 σ H1 x v _ I1 r1 q1) fun _ s2 q=>q
theorem ps_set {i:Nat} {x:Str} {e:Expr} {te:TE} {pos':Pos} (hN:X.N.Nodup) (hi:X.N[i]? = some x) (hx:Loc X.env.scope x) (he:PE X e te) (hs:swapsWith e (some (.Name x pos')) pos.line X.env = pure false:=by rfl) (hf:X.fn x = true \/ X.env.scope.names.lookup x = some .local:=by first | exact .inl rfl | exact .inr rfl | assumption) :
  PS X (.Assign [.Name x pos'] e pos) (tAsg te (gName i)):=by
 intro pins s σ H D I h
 refine wpAny_Assign_Name (thn (he pins s σ H _ I h) fun v s1 ⟨y,H1,I1,r1,q1⟩=>?_) hs
 exact store_ok I1 hN hi hx r1 (fun s2 I2=>⟨_,H1,I2,q1⟩) hf
def tPar (i j:Nat) (ta:TA):TS:=fun D σ H=>ta σ H fun vs H1=>∃ v w,vs = [v,w] /\ D.nx ((σ.set i (some v)).set j (some w)) H1
theorem ps_par {i j:Nat} {x y:Str} {a b:Expr} {ta:TA} {px py pt:Pos} {kt k2 pt2} (hc:X.calm = true) (hN:X.N.Nodup) (hi:X.N[i]? = some x) (hj:X.N[j]? = some y) (hij:i ≠ j)
  (hx:X.env.scope.names.lookup x = some .local) (hy:X.env.scope.names.lookup y = some .local) (ha:PA X [a,b] ta)
  (hw:swappedStores [.Tuple [.Name x px,.Name y py] kt pt] (.Tuple [a,b] k2 pt2) X.env = pure (some [x,y]))
  (hs:swapsWithSole [.Tuple [.Name x px,.Name y py] kt pt] (.Tuple [a,b] k2 pt2) pos.line X.env = pure false:=by rfl) :
  PS X (.Assign [.Tuple [.Name x px,.Name y py] kt pt] (.Tuple [a,b] k2 pt2) pos) (tPar i j ta):=by
 intro pins s σ H D I h
 rw [exec_Assign_arm]
 refine wpAny_bind (wpAny_standAt ?_)
 rw [hs]
 refine wpAny_bind (wpAny_pure ?_)
 rw [if_neg (by decide)]
 refine wpAny_bind (Tuple_ (thn (ha _ pins s σ H _ I h) fun us s1 ⟨vs,H1,I1,r1,q1⟩=>?_))
 obtain ⟨v,w,e1,q1⟩:=q1
 subst e1
 obtain ⟨u1,u2,rfl,rv,rw'⟩:∃ u1 u2,us = [u1,u2] /\ RelV v u1 /\ RelV w u2:=by
  cases r1 with
  | cons p q =>
   cases q with
   | cons p' q' =>
    cases q'
    exact ⟨_,_,rfl,p,p'⟩
 refine wpAny_newObj_type ?_ (by show 2 <= sizeLine; decide)
 have I2:Inv X pins σ H1 { s1 with heap:=s1.heap.push { cls:=.type "tuple",data:=.seq [u1,u2].toArray } }:=I1.kept (t':=s1.toks) fun b o e=>Heap.get?_push_of_some _ e
 rw [hw]
 refine wpAny_bind (wpAny_pure ?_)
 show wpAny (model X.prog X.w) X.A (do rule "assign.swapped-stores"; let items <- unpackItems (.ref s1.heap.objs.size) 2 none; assignInOrder [fun v=>bindName X.env y v,fun v=>bindName X.env x v] items.reverse; pure Flow.next) _ _ _
 refine wpAny_bind (wpAny_rule (wpAny_bind (unpackItems_tuple (items:=#[u1,u2]) (I.ok.hd hc) (IsTup.new s1.heap _) fun h' hx'=>?_)))
 have I3:=I2.kept (h':=h') (t':=s1.toks) fun b o e=>hx' b o (Nat.ne_of_lt (Heap.lt_size e)) e
 show wpAny _ _ (assignInOrder [fun v=>bindName X.env y v,fun v=>bindName X.env x v] [u2,u1] >>= fun _=>pure Flow.next) _ _ _
 refine wpAny_bind (assignInOrder_cons (wpAny_bindName (store_ok I3 hN hj (.inl hy) rw' (fun s2 I4=>?_) (.inr hy))))
 refine assignInOrder_cons (wpAny_bindName (store_ok I4 hN hi (.inl hx) rv (fun s3 I5=>assignInOrder_nil (wpAny_pure ?_)) (.inr hx)))
 rw [List.set_comm _ _ (Ne.symm hij)] at I5
 exact ⟨_,H1,I5,q1⟩
end
section
variable {X:Cx} {pos:Pos}
end
structure It where
 go:Nat -> Hp -> Prop
 yld:Nat -> Hp -> V -> Hp -> Prop
 stop:Nat -> Hp -> Prop
def FpOk (X:Cx) (pins:List (Addr × Obj)) (H:Hp) (b:Addr):Prop :=
 H b = none /\ b ≠ X.env.locals /\ b ∉ X.fs /\ (b ∈ X.ex \/ X.s₀.heap.objs.size <= b) /\ (∀ x c,X.env.cells.lookup x = some c -> c ≠ b) /\ ∀ p ∈ X.pn ++ pins,p.1 ≠ b
theorem Inv.fpOk {X:Cx} {pins:List (Addr × Obj)} {σ:St} {H H':Hp} {s:Shared} {b:Addr} (I:Inv X pins σ H s) (hb:s.heap.objs.size <= b) (hn:H' b = none):FpOk X pins H' b:=by
 refine ⟨hn,Nat.ne_of_gt (Nat.lt_of_lt_of_le I.lt hb),I.nofs hb,.inr (Nat.le_trans I.sz hb),fun x c e z=>?_,fun p hp z=>?_⟩
 ·obtain ⟨v, q⟩ := I.cell x c e
  exact absurd (Nat.lt_of_lt_of_le q.lt (by rw [z]; exact hb)) (Nat.lt_irrefl _)
 ·exact absurd (Nat.lt_of_lt_of_le (Heap.lt_size (I.pin p hp).1) (by rw [z]; exact hb)) (Nat.lt_irrefl _)
structure Turn (P:Program) (w:World) (K:PySem.W.Frag) (tg:Expr) (J:It) (fp:List Addr) (it:Addr) (tn:Nat -> Heap -> Prop):Prop where
 mem:it ∈ fp
 obj:∀ i h,tn i h -> ∀ b ∈ fp,∃ o,h.get? b = some o /\ ∀ v,o.data ≠ .cell v
 keep:∀ i h h',tn i h -> (∀ b ∈ fp,∀ o,h.get? b = some o -> h'.get? b = some o) -> tn i h'
 item:∀ (X:Cx),X.prog = P -> X.w = w -> X.K = K -> X.calm = true -> ∀ (i:Nat) (pins:List (Addr × Obj)) (s:Shared) (σ:St) (H:Hp) (E:Value -> Shared -> Prop),Inv X pins σ H s -> (∀ b ∈ fp,FpOk X pins H b) -> tn i s.heap -> J.go i H ->
  wpAny (model P w) X.A (pyNext (.ref it)) (fun r s1=>∃ u,r = some u /\
   wpAny (model P w) X.A (letOwnedTupleGo tg (.ref it) u) (fun _ s2=>∃ x H',Inv X pins σ H' s2 /\ RelV x u /\ J.yld i H x H' /\ tn (i + 1) s2.heap /\ ∀ b ∈ fp,H' b = none) E s1) E s
 done:∀ (X:Cx),X.prog = P -> X.w = w -> X.K = K -> X.calm = true -> ∀ (i:Nat) (pins:List (Addr × Obj)) (s:Shared) (σ:St) (H:Hp) (E:Value -> Shared -> Prop),Inv X pins σ H s -> (∀ b ∈ fp,FpOk X pins H b) -> tn i s.heap -> J.stop i H ->
  wpAny (model P w) X.A (pyNext (.ref it)) (fun r s1=>r = none /\ Inv X pins σ H s1) E s
 self:∀ (A:Around) (i:Nat) (s:Shared) (Q:Value -> Shared -> Prop) (E:Value -> Shared -> Prop),tn i s.heap -> Q (.ref it) s -> wpAny (model P w) A (pyIter (.ref it)) Q E s
abbrev TI:=St -> Hp -> (It -> Hp -> Prop) -> Prop
def PIE (X:Cx) (pins:List (Addr × Obj)) (σ:St) (tg:Expr) (R:It -> Hp -> Prop) (itv:Value) (s2:Shared):Prop :=
 ∃ (it:Addr) (fp:List Addr) (tn:Nat -> Heap -> Prop) (J:It) (H':Hp),itv = .ref it /\ Inv X pins σ H' s2 /\ Turn X.prog X.w X.K tg J fp it tn /\ tn 0 s2.heap /\ (∀ b ∈ fp,FpOk X pins H' b) /\ R J H'
def PI (X:Cx) (tg iter:Expr) (wi:TI):Prop :=
 ∀ (pins:List (Addr × Obj)) (s:Shared) (σ:St) (H:Hp) (R:It -> Hp -> Prop),Inv X pins σ H s -> wi σ H R ->
  wpAny (model X.prog X.w) X.A (eval iter X.env) (fun v s1=>wpAny (model X.prog X.w) X.A (pyIter v) (PIE X pins σ tg R) X.xe s1) X.xe s
theorem go_of {M : Model} {A : Around} {E : Value -> Shared -> Prop} {s : Shared} {tg : Expr} {it : Addr} {u : Value} {o : Obj} {n : String} {vs : Array Value} {Q : Unit -> Shared -> Prop} (ho : s.heap.get? it = some o) (hc : o.cls = .type n) (hd : o.data = .fields vs)
    (hn:["enumerate", "zip", "dict_itemiterator", "dict_reverseitemiterator", "odict_iterator", "itertools.zip_longest", "itertools.pairwise"].contains n = false) (hQ:Q () s):wpAny M A (letOwnedTupleGo tg (.ref it) u) Q E s:=by
  unfold letOwnedTupleGo
  cases tg <;> first
    | exact wpAny_pure hQ
    | (cases u <;> first
        | exact wpAny_pure hQ
        | (refine wpAny_bind (wpAny_load ho ?_)
           rw [hc,hd]
           show wpAny M A (if (["enumerate", "zip", "dict_itemiterator", "dict_reverseitemiterator", "odict_iterator", "itertools.zip_longest", "itertools.pairwise"].contains n && vs[0]? == some (rawInt _)) = true then _ else _) Q E s
           rw [if_neg (by intro h; rw [hn,Bool.false_and] at h; cases h)]
           exact wpAny_pure hQ))
def Itl (K:PySem.W.Frag) (a:Addr):It :=
 ⟨fun i H=>∃ xs x,SqL K H a xs /\ xs[i]? = some x,fun i H x H'=>H' = H /\ ∀ xs,SqL K H a xs -> xs[i]? = some x,fun i H=>∃ xs,SqL K H a xs /\ xs.length <= i⟩
def Itt (K:PySem.W.Frag) (a:Addr):It :=
 ⟨fun i H=>∃ xs x,SqT K H a xs /\ xs[i]? = some x,fun i H x H'=>H' = H /\ ∀ xs,SqT K H a xs -> xs[i]? = some x,fun i H=>∃ xs,SqT K H a xs /\ xs.length <= i⟩
def Itr (lo:Int) (n:Nat):It:=⟨fun i _=>i < n,fun i H x H'=>H' = H /\ x = .int (lo + i),fun i _=>n <= i⟩
theorem turn_list {P:Program} {w:World} {K:PySem.W.Frag} {tg:Expr} (a it:Addr):Turn P w K tg (Itl K a) [it] it (fun i h=>h.IsListIter it a i) where
 mem:=by simp
 obj:=fun i h st b hb=>by
  have e:b = it:=by simpa using hb
  subst e
  obtain ⟨o,e,c,d⟩:=st
  exact ⟨o,e,fun v z=>by rw [d] at z; cases z⟩
 keep:=fun i h h' st k=>st.at fun o e=>k it (by simp) o e
 item:=by
  intro X hP hw hK hc i pins s σ H E I hf st hg
  subst hP hw hK
  obtain ⟨xs,x,hq,hx⟩:=hg
  obtain ⟨its,rv,p,hz⟩:=I.list hq
  obtain ⟨u,hu,ru⟩:=rv.get hx
  obtain ⟨f0,f1,f2,f3,f4,f5⟩:=hf it (by simp)
  refine wpAny_pyNext_list_item st p.isList (x:=u) (by simpa using hu) fun h' st' sb=>?_
  have I1:Inv X pins σ H { s with heap:=h' }:=I.turned (t':=s.toks) (fun b o hb e=>(sb.2 b hb).trans e) f0 f1 f3 f4 f5
  obtain ⟨o,e,c,d⟩:=id st'
  exact ⟨u,rfl,go_of (s:={ s with heap:=h' }) e c d (by decide) ⟨x,H,I1,ru,⟨rfl,fun ys hy=>by rw [I.list_inj hy hq]; exact hx⟩,st',fun b hb=>(hf b hb).1⟩⟩
 done:=by
  intro X hP hw hK hc i pins s σ H E I hf st hg
  subst hP hw hK
  obtain ⟨xs,hq,hx⟩:=hg
  obtain ⟨its,rv,p,hz⟩:=I.list hq
  obtain ⟨f0,f1,f2,f3,f4,f5⟩:=hf it (by simp)
  have hl:=rv.length
  exact wpAny_pyNext_list_end (I.ok.hd hc) st p.isList (by simp; lia) fun h' eb=>⟨rfl,I.turned (t':=s.toks) (fun b o hb e=>eb b o hb e) f0 f1 f3 f4 f5⟩
 self:=fun _ _ _ _ _ st h=>wpAny_pyIter_listiter st h
theorem turn_tuple {P:Program} {w:World} {K:PySem.W.Frag} {tg:Expr} (a it:Addr):Turn P w K tg (Itt K a) [it] it (fun i h=>h.IsTupleIter it a i) where
 mem:=by simp
 obj:=fun i h st b hb=>by
  have e:b = it:=by simpa using hb
  subst e
  obtain ⟨o,e,c,d⟩:=st
  exact ⟨o,e,fun v z=>by rw [d] at z; cases z⟩
 keep:=fun i h h' st k=>st.at fun o e=>k it (by simp) o e
 item:=by
  intro X hP hw hK hc i pins s σ H E I hf st hg
  subst hP hw hK
  obtain ⟨xs,x,hq,hx⟩:=hg
  obtain ⟨its,rv,p,hz⟩:=I.tuple hq
  obtain ⟨u,hu,ru⟩:=rv.get hx
  obtain ⟨f0,f1,f2,f3,f4,f5⟩:=hf it (by simp)
  refine wpAny_pyNext_tuple_item st (show s.heap.IsTuple a its.toArray from p) (x:=u) (by simpa using hu) fun h' st' sb=>?_
  have I1:Inv X pins σ H { s with heap:=h' }:=I.turned (t':=s.toks) (fun b o hb e=>(sb.2 b hb).trans e) f0 f1 f3 f4 f5
  obtain ⟨o,e,c,d⟩:=id st'
  exact ⟨u,rfl,go_of (s:={ s with heap:=h' }) e c d (by decide) ⟨x,H,I1,ru,⟨rfl,fun ys hy=>by rw [I.tuple_inj hy hq]; exact hx⟩,st',fun b hb=>(hf b hb).1⟩⟩
 done:=by
  intro X hP hw hK hc i pins s σ H E I hf st hg
  subst hP hw hK
  obtain ⟨xs,hq,hx⟩:=hg
  obtain ⟨its,rv,p,hz⟩:=I.tuple hq
  obtain ⟨f0,f1,f2,f3,f4,f5⟩:=hf it (by simp)
  have hl:=rv.length
  exact wpAny_pyNext_tuple_end (I.ok.hd hc) st (show s.heap.IsTuple a its.toArray from p) (by simp; lia) fun h' eb=>⟨rfl,I.turned (t':=s.toks) (fun b o hb e=>eb b o hb e) f0 f1 f3 f4 f5⟩
 self:=fun _ _ _ _ _ st h=>wpAny_pyIter_tupleiter st h
theorem turn_range {P:Program} {w:World} {K:PySem.W.Frag} {tg:Expr} (it:Addr) (lo:Int) (n:Nat):Turn P w K tg (Itr lo n) [it] it (fun i h=>IsRangeIter h it (lo + (i:Nat) * 1) ((n:Int) - (i:Nat)) 1) where
 mem:=by simp
 obj:=fun i h st b hb=>by
  have e:b = it:=by simpa using hb
  subst e
  exact ⟨_,st,fun v z=>by
   have z':Data.fields _ = Data.cell v:=z
   cases z'⟩
 keep:=fun i h h' st k=>k it (by simp) _ st
 item:=by
  intro X hP hw hK hc i pins s σ H E I hf st hg
  subst hP hw hK
  obtain ⟨f0,f1,f2,f3,f4,f5⟩:=hf it (by simp)
  have W:=Walks.range (prog:=X.prog) (w:=X.w) (I.ok.hd hc) it lo 1 n
  refine W.item i s _ _ hg st fun v h' tk hv st' kk=>?_
  obtain ⟨t,rfl⟩:=hv
  have I1:Inv X pins σ H { s with heap:=h',toks:=tk }:=I.turned (fun b o hb e=>kk b o (by simpa using hb) e) f0 f1 f3 f4 f5
  refine ⟨_,rfl,go_of (s:={ s with heap:=h',toks:=tk }) (n := "range_iterator") st' rfl rfl (by decide) ⟨.int (lo + i),H,I1,⟨t,?_⟩,⟨rfl,rfl⟩,st',fun b hb=>(hf b hb).1⟩⟩
  rw [Int.mul_one]
 done:=by
  intro X hP hw hK hc i pins s σ H E I hf st hg
  subst hP hw hK
  obtain ⟨f0,f1,f2,f3,f4,f5⟩:=hf it (by simp)
  exact wpAny_pyNext_range_end (I.ok.hd hc) st (by have:n <= i:=hg; lia) fun h' eb=>⟨rfl,I.turned (t':=s.toks) (fun b o hb e=>eb b o hb e) f0 f1 f3 f4 f5⟩
 self:=fun _ _ _ _ _ st h=>wpAny_pyIter_rangeiter st h
end L2
namespace L2
open PySem PySem.Spec PyProof.Rows
section
variable {X:Cx} {tg:Expr}
theorem range_it {pins:List (Addr × Obj)} {σ:St} {H:Hp} {s:Shared} {R:It -> Hp -> Prop} {E:Value -> Shared -> Prop} {lo hi:Int} {t u v:Tok} {tk:Nat} (I:Inv X pins σ H s) (h1:-(2 ^ 62) <= lo) (h2:lo < 2 ^ 62) (h3:-(2 ^ 62) <= hi) (h4:hi < 2 ^ 62)
  (q:R (Itr lo (hi - lo).toNat) H):wpAny (model X.prog X.w) X.A (pyIter (.ref s.heap.objs.size)) (PIE X pins σ tg R) E { s with heap:=s.heap.push { cls:=.type "range",data:=.fields #[.int lo t,.int hi u,.int 1 v] },toks:=tk }:=by
 refine wpAny_pyIter_range (IsRange.new ..) (small_one h1 h2 h3 h4) ?_
 have I1:Inv X pins σ H { s with heap:=s.heap.push { cls:=.type "range",data:=.fields #[.int lo t,.int hi u,.int 1 v] },toks:=tk }:=I.kept fun b o e=>Heap.get?_push_of_some _ e
 refine ⟨(s.heap.push { cls:=.type "range",data:=.fields #[.int lo t,.int hi u,.int 1 v] }).objs.size,[(s.heap.push { cls:=.type "range",data:=.fields #[.int lo t,.int hi u,.int 1 v] }).objs.size],_,_,H,rfl,
  I1.kept (t':=tk) fun b o e=>Heap.get?_push_of_some _ e,turn_range _ lo (hi - lo).toNat,?_,fun b hb=>?_,q⟩
 ·have e1 : lo + ((0 : Nat) : Int) * 1 = lo := by simp
  have e2:(((hi - lo).toNat:Nat):Int) - ((0:Nat):Int) = Builtin.Range.rangeSize lo hi 1:=by rw [rangeSize_one]; split <;> lia
  show IsRangeIter _ _ (lo + ((0:Nat):Int) * 1) ((((hi - lo).toNat:Nat):Int) - ((0:Nat):Int)) 1
  rw [e1,e2]
  exact Heap.get?_push_size _ rfl
 ·have e : b = (s.heap.push { cls := .type "range", data := .fields #[.int lo t, .int hi u, .int 1 v] }).objs.size := by simpa using hb
  subst e
  exact I1.fpOk (Nat.le_refl _) (I1.hok.fresh (Nat.le_refl _))
def iRng1 (ta:TA):TI:=fun σ H R=>ta σ H fun vs H1=>∃ j:Int,vs = [.int j] /\ -(2 ^ 62) <= j /\ j < 2 ^ 62 /\ R (Itr 0 j.toNat) H1
theorem pi_range1 {a:Expr} {ta:TA} {p pos:Pos} (hg:Gl X "range") (hm:X.mg "range" = none) (ha:PA X [a] ta) (hs:starEach [a] X.env = [(false,eval a X.env)]:=by rfl):PI X tg (.Call (.Name "range" p) [a] [] pos) (iRng1 ta):=by
 intro pins s σ H R I h
 refine Call_ (ld_blt I hg hm boot_range (PyProof.Rows.callWith_type1 (thn (ha pos pins s σ H _ I h) fun us s1 ⟨vs,H1,I1,r1,q1⟩=>?_) hs rfl))
 obtain ⟨j,e,q1,q2,q⟩:=q1
 subst e
 cases r1 with
 | cons r rr =>
  cases rr
  obtain ⟨t,rfl⟩:=r
  exact call_range_1 (range_it I1 (by lia) (by lia) q1 q2 (by simpa using q))
def tFor (wi:TI) (g:TG) (tb:TS):TS:=fun D σ H=>wi σ H fun J H1=>∃ W:Nat -> Nat -> St -> Hp -> Prop,(∃ m,W 0 m σ H1) /\ ∀ i m σ H,W i m σ H ->
 (J.stop i H /\ D.nx σ H) \/ (J.go i H /\ ∃ N:St -> Hp -> Prop,(∀ σ' H',N σ' H' -> ∃ m',m' < m /\ W (i + 1) m' σ' H') /\ ∀ x H',J.yld i H x H' -> g x σ H' fun σ2 H2=>tb { D with nx:=N,ct:=N,bk:=D.nx } σ2 H2)
def pinsAt (fp:List Addr) (h:Heap):List (Addr × Obj):=fp.filterMap fun b=>(h.get? b).map fun o=>(b,o)
theorem mem_pinsAt {fp:List Addr} {h:Heap} {b:Addr} {o:Obj} (hb:b ∈ fp) (e:h.get? b = some o):(b,o) ∈ pinsAt fp h:=List.mem_filterMap.mpr ⟨b,hb,by rw [e]; rfl⟩
theorem of_pinsAt {fp:List Addr} {h:Heap} {p:Addr × Obj} (hp:p ∈ pinsAt fp h):p.1 ∈ fp /\ h.get? p.1 = some p.2:=by
 obtain ⟨b,hb,e⟩:=List.mem_filterMap.mp hp
 cases q:h.get? b with
 | none=>rw [q] at e; cases e
 | some o =>
  rw [q] at e
  have e':(b,o) = p:=Option.some.inj e
  subst e'
  exact ⟨hb,q⟩
theorem Inv.pinned {pins:List (Addr × Obj)} {σ:St} {H:Hp} {s:Shared} {fp:List Addr} (I:Inv X pins σ H s) (hf:∀ b ∈ fp,FpOk X pins H b) (ho:∀ b ∈ fp,∃ o,s.heap.get? b = some o /\ ∀ v,o.data ≠ .cell v):Inv X (pins ++ pinsAt fp s.heap) σ H s :=
 I.pins_of fun p hp=>(List.mem_append.mp hp).elim (fun z=>I.pin p (List.mem_append_right _ z)) fun z=>by
  obtain ⟨hb,e⟩:=of_pinsAt z
  obtain ⟨f0,f1,f2,_⟩:=hf p.1 hb
  obtain ⟨o,e',d⟩:=ho p.1 hb
  rw [e] at e'; cases e'
  exact ⟨e,f0,f1,f2,d⟩
theorem Inv.unpinned {pins pl:List (Addr × Obj)} {σ:St} {H:Hp} {s:Shared} (I:Inv X (pins ++ pl) σ H s):Inv X pins σ H s:=I.pins_of fun p hp=>I.pin p (List.mem_append_right _ (List.mem_append_left _ hp))
theorem ps_for {iter:Expr} {body:List Stmt} {wi:TI} {g:TG} {tb:TS} {pos:Pos} (hp:PassesOwn (model X.prog X.w) X.A X.env X.xe) (hc:X.calm = true) (hi:PI X tg iter wi) (hg:PG X tg g) (hb:PSs X body tb)
  (hs:∀ x,foldedSetIterable iter X.env x = pure x:=by intro _; rfl):PS X (.For tg iter body [] pos) (tFor wi g tb):=by
 intro pins s σ H D I h
 refine wpAny_For (thn (hi pins s σ H _ I h) fun v s1 h1=>thn h1 fun itv s2 h2=>?_) hs
 obtain ⟨it,fp,tn,J,H2,e,I2,T,st2,f2,W,⟨m0,w0⟩,turn⟩:=h2
 subst e
 have stat:∀ {H':Hp},(∀ b ∈ fp,H' b = none) -> ∀ b ∈ fp,FpOk X pins H' b:=fun hn b hb=>⟨hn b hb,(f2 b hb).2⟩
 refine codeAny_forLoop_any (fun n s'=>∃ i σ' H',Inv X pins σ' H' s' /\ tn i s'.heap /\ (∀ b ∈ fp,H' b = none) /\ W i n σ' H') ?_ m0 ⟨0,σ,H2,I2,st2,fun b hb=>(f2 b hb).1,w0⟩
 rintro n s3 ⟨i,σ3,H3,I3,st3,fr3,w3⟩
 rcases turn i n σ3 H3 w3 with ⟨stop,qn⟩ | ⟨go,N,hN,step⟩
 ·refine wpAny_passesOwn hp (thn (T.done X rfl rfl rfl hc i pins s3 σ3 H3 X.xe I3 (stat fr3) st3 stop) fun r s4 ⟨hr, I4⟩ => ?_)
  subst hr
  exact wpAny_execs_nil ⟨σ3,H3,I4,qn⟩
 ·refine wpAny_passesOwn hp (thn (T.item X rfl rfl rfl hc i pins s3 σ3 H3 X.xe I3 (stat fr3) st3 go) fun r s4 ⟨u, hr, h4⟩ => ?_)
  subst hr
  refine wpAny_passesOwn hp (thn h4 fun _ s5 ⟨x,H5,I5,r5,y5,st5,fr5⟩=>?_)
  have I5':=I5.pinned (stat fr5) (T.obj _ _ st5)
  refine wpAny_passesOwn hp (thn (hg _ s5 σ3 H5 x u _ I5' r5 (step x H5 y5)) fun _ s6 ⟨σ6,H6,I6,q6⟩=>?_)
  refine wpAny_passesOwn hp (thn (hb _ s6 σ6 H6 _ I6 q6) fun f s7 q7=>?_)
  have again:∀ {σ7:St} {H7:Hp},Inv X (pins ++ pinsAt fp s5.heap) σ7 H7 s7 -> N σ7 H7 -> ∃ m,m < n /\ ∃ i σ' H',Inv X pins σ' H' s7 /\ tn i s7.heap /\ (∀ b ∈ fp,H' b = none) /\ W i m σ' H':=fun {σ7 H7} I7 n7=>by
   obtain ⟨m',hm,w7⟩:=hN σ7 H7 n7
   refine ⟨m',hm,i + 1,σ7,H7,I7.unpinned,T.keep _ _ _ st5 fun b hb o e=>(I7.pin (b,o) (List.mem_append_right _ (List.mem_append_right _ (mem_pinsAt hb e)))).1,fun b hb=>?_,w7⟩
   obtain ⟨o,e,d⟩:=T.obj _ _ st5 b hb
   exact (I7.pin (b,o) (List.mem_append_right _ (List.mem_append_right _ (mem_pinsAt hb e)))).2.1
  cases f with
  | next=>obtain ⟨σ7,H7,I7,n7⟩:=q7; exact again I7 n7
  | cont=>obtain ⟨σ7,H7,I7,n7⟩:=q7; exact again I7 n7
  | brk=>obtain ⟨σ7,H7,I7,q7⟩:=q7; exact ⟨σ7,H7,I7.unpinned,q7⟩
  | ret v=>obtain ⟨x7,σ7,H7,I7,r7,q7⟩:=q7; exact ⟨x7,σ7,H7,I7.unpinned,r7,q7⟩
end
end L2
namespace L2
open PySem PySem.Spec PyProof.Rows
abbrev R2:=V -> V -> Hp -> VK -> Prop
def OpR (X:Cx) (f:Value -> Value -> Sem Value) (r:R2):Prop :=
 ∀ (pins:List (Addr × Obj)) (s:Shared) (σ:St) (H:Hp) (x y:V) (v u:Value) (Q:VK),Inv X pins σ H s -> RelV x v -> RelV y u -> r x y H Q ->
  wpAny (model X.prog X.w) X.A (f v u) (EP X pins σ Q) X.xe s
def UnR (X:Cx) (f:Value -> Sem Value) (r:V -> Hp -> VK -> Prop):Prop :=
 ∀ (pins:List (Addr × Obj)) (s:Shared) (σ:St) (H:Hp) (x:V) (v:Value) (Q:VK),Inv X pins σ H s -> RelV x v -> r x H Q ->
  wpAny (model X.prog X.w) X.A (f v) (EP X pins σ Q) X.xe s
def CallR (X:Cx) (f:Value) (r:List V -> Hp -> VK -> Prop):Prop :=
 ∀ (pins:List (Addr × Obj)) (s:Shared) (σ:St) (H:Hp) (xs:List V) (us:List Value) (Q:VK),Inv X pins σ H s -> Vals xs us -> r xs H Q ->
  wpAny (model X.prog X.w) X.A (call f us) (EP X pins σ Q) X.xe s
def tOp (r:R2) (ta tb:TE):TE:=fun σ H Q=>ta σ H fun x H1=>tb σ H1 fun y H2=>r x y H2 Q
def tUn (r:V -> Hp -> VK -> Prop) (ta:TE):TE:=fun σ H Q=>ta σ H fun x H1=>r x H1 Q
def rI (C:Int -> Int -> Prop) (g:Int -> Int -> V):R2:=fun x y H Q=>∃ i j,x = .int i /\ y = .int j /\ C i j /\ Q (g i j) H
def rI0 (g:Int -> Int -> V):R2:=fun x y H Q=>∃ i j,x = .int i /\ y = .int j /\ Q (g i j) H
def rU (g:Int -> V):V -> Hp -> VK -> Prop:=fun x H Q=>∃ i,x = .int i /\ Q (g i) H
section
variable {X:Cx} {a b c:Expr} {ta tb tc:TE} {pos:Pos}
theorem binT (ha:PE X a ta) (hb:PE X b tb) {pins:List (Addr × Obj)} {s:Shared} {σ:St} {H:Hp} {R:V -> V -> Hp -> Prop} (I:Inv X pins σ H s)
  (h:ta σ H fun x H1=>tb σ H1 fun y H2=>R x y H2) {Q:Value -> Shared -> Prop} {f:Value -> Value -> Sem Value}
  (hf:∀ v u s2 x y H2,Inv X pins σ H2 s2 -> RelV x v -> RelV y u -> R x y H2 -> wpAny (model X.prog X.w) X.A (f v u) Q X.xe s2) :
  wpAny (model X.prog X.w) X.A (eval a X.env) (fun v s₁=>wpAny (model X.prog X.w) X.A (eval b X.env) (fun u s₂=>wpAny (model X.prog X.w) X.A (f v u) Q X.xe s₂) X.xe s₁) X.xe s:=by
 refine thn (ha pins s σ H _ I h) fun v s1 ⟨x,H1,I1,r1,q1⟩=>?_
 refine thn (hb pins s1 σ H1 _ I1 q1) fun u s2 ⟨y,H2,I2,r2,q2⟩=>?_
 exact hf v u s2 x y H2 I2 r1 r2 q2
theorem pe_op {op:Operator} {r:R2} (ho:OpR X (binaryOp op) r) (ha:PE X a ta) (hb:PE X b tb):PE X (.BinOp a op b pos) (tOp r ta tb):=by
 intro pins s σ H Q I h
 exact wpAny_BinOp (binT ha hb I h fun v u s2 x y H2 I2 rx ry q=>ho pins s2 σ H2 x y v u Q I2 rx ry q)
theorem pe_un {op:UnaryOp} {r:V -> Hp -> VK -> Prop} (ho:UnR X (unaryOp op) r) (ha:PE X a ta):PE X (.UnaryOp op a pos) (tUn r ta):=by
 intro pins s σ H Q I h
 exact UnaryOp_ (thn (ha pins s σ H _ I h) fun v s1 ⟨x,H1,I1,r1,q1⟩=>ho pins s1 σ H1 x v Q I1 r1 q1)
theorem opI {f:Value -> Value -> Sem Value} {C:Int -> Int -> Prop} {g:Int -> Int -> Int}
  (rule:∀ (i j:Int) (t u:Tok) (s:Shared) (Q:Value -> Shared -> Prop) (E:Value -> Shared -> Prop),C i j -> Q (.int (g i j) s.toks) { s with toks:=s.toks + 1 } -> wpAny (model X.prog X.w) X.A (f (.int i t) (.int j u)) Q E s) :
  OpR X f (rI C fun i j=>.int (g i j)):=by
 intro pins s σ H x y v u Q I rx ry h
 obtain ⟨i,j,rfl,rfl,hc,q⟩:=h
 obtain ⟨t,rfl⟩:=rx
 obtain ⟨t',rfl⟩:=ry
 exact rule i j t t' s _ _ hc ⟨.int (g i j),H,I.tok _,⟨_,rfl⟩,q⟩
theorem opI0 {f:Value -> Value -> Sem Value} {g:Int -> Int -> Int}
  (rule:∀ (i j:Int) (t u:Tok) (s:Shared) (Q:Value -> Shared -> Prop) (E:Value -> Shared -> Prop),Q (.int (g i j) s.toks) { s with toks:=s.toks + 1 } -> wpAny (model X.prog X.w) X.A (f (.int i t) (.int j u)) Q E s) :
  OpR X f (rI0 fun i j=>.int (g i j)):=by
 intro pins s σ H x y v u Q I rx ry h
 obtain ⟨i,j,rfl,rfl,q⟩:=h
 obtain ⟨t,rfl⟩:=rx
 obtain ⟨t',rfl⟩:=ry
 exact rule i j t t' s _ _ ⟨.int (g i j),H,I.tok _,⟨_,rfl⟩,q⟩
theorem opB0 {f:Value -> Value -> Sem Value} {g:Int -> Int -> Bool}
  (rule:∀ (i j:Int) (t u:Tok) (s:Shared) (Q:Value -> Shared -> Prop) (E:Value -> Shared -> Prop),Q (.bool (g i j)) s -> wpAny (model X.prog X.w) X.A (f (.int i t) (.int j u)) Q E s) :
  OpR X f (rI0 fun i j=>.bl (g i j)):=by
 intro pins s σ H x y v u Q I rx ry h
 obtain ⟨i,j,rfl,rfl,q⟩:=h
 obtain ⟨t,rfl⟩:=rx
 obtain ⟨t',rfl⟩:=ry
 exact rule i j t t' s _ _ ⟨.bl (g i j),H,I,rfl,q⟩
def CDiv (i j:Int):Prop:=0 < j /\ j < 1073741824
def CPow (i j:Int):Prop:=0 <= j /\ j <= 1000000 /\ i.natAbs < 2 ^ 64
def CMul (i j:Int):Prop:=(-(2 ^ 64) < i /\ i < 2 ^ 64) \/ (-(2 ^ 64) < j /\ j < 2 ^ 64)
theorem CMul.ok {i j:Int} (h:CMul i j):IntMulOk i j:=by
 rcases h with ⟨h1,h2⟩ | ⟨h1,h2⟩
 ·exact .of_left (intBits_le_64 h1 h2)
 ·exact .of_right (intBits_le_64 h1 h2)
theorem op_add:OpR X (binaryOp .Add) (rI0 fun i j=>.int (i + j)):=opI0 fun _ _ _ _ _ _ _ q=>add_int q
theorem op_mul:OpR X (binaryOp .Mult) (rI CMul fun i j=>.int (i * j)):=opI fun _ _ _ _ _ _ _ hc q=>mul_int q hc.ok
theorem op_fdiv:OpR X (binaryOp .FloorDiv) (rI CDiv fun i j=>.int (i / j)):=opI fun i j _ _ _ _ _ hc q=>by
 have h1:(0:Int) < j:=hc.1
 have h2:j < 1073741824:=hc.2
 exact floordiv_int (by lia) (by rw [Int.fdiv_eq_ediv_of_nonneg i (by lia)]; exact q) (.inl (PyProof.noPylong_small (by lia)))
theorem op_mod:OpR X (binaryOp .Mod) (rI (fun _ j=>0 < j) fun i j=>.int (i % j)):=opI fun i j _ _ _ _ _ hc q=>by
 have h1:(0:Int) < j:=hc
 exact mod_int' (by lia) (by rw [Int.fmod_eq_emod_of_nonneg i (by lia)]; exact q)
theorem op_pow:OpR X (binaryOp .Pow) (rI CPow fun i j=>.int (i ^ j.toNat)):=opI fun _ _ _ _ _ _ _ hc q=>pow_int_small hc.1 hc.2.1 hc.2.2 q
theorem unI {f:Value -> Sem Value} {g:Int -> Int}
  (rule:∀ (i:Int) (t:Tok) (s:Shared) (Q:Value -> Shared -> Prop) (E:Value -> Shared -> Prop),Q (.int (g i) s.toks) { s with toks:=s.toks + 1 } -> wpAny (model X.prog X.w) X.A (f (.int i t)) Q E s) :
  UnR X f (rU fun i=>.int (g i)):=by
 intro pins s σ H x v Q I rx h
 obtain ⟨i,rfl,q⟩:=h
 obtain ⟨t,rfl⟩:=rx
 exact rule i t s _ _ ⟨.int (g i),H,I.tok _,⟨_,rfl⟩,q⟩
theorem un_neg:UnR X (unaryOp .USub) (rU fun i=>.int (-i)):=unI fun _ _ _ _ _ q=>neg_int q
end
def scal:V -> V -> Bool
 | .non,.non=>true | .non,.int _=>true | .int _,.non=>true | .non,.bl _=>true | .bl _,.non=>true | .non,.str _=>true | .str _,.non=>true
 | .int _,.int _=>true | .bl _,.bl _=>true | .str _,.str _=>true | .byt _,.byt _=>true
 | .int _,.str _=>true | .str _,.int _=>true | .bl _,.str _=>true | .str _,.bl _=>true
 | _,_=>false
def rEq:R2:=fun x y H Q=>scal x y = true /\ Q (.bl (decide (x = y))) H
def rNe:R2:=fun x y H Q=>scal x y = true /\ Q (.bl (!decide (x = y))) H
theorem dec_int {i j:Int}:decide (V.int i = V.int j) = (i == j):=by
 rw [Bool.eq_iff_iff]
 simp
theorem dec_bl {i j:Bool}:decide (V.bl i = V.bl j) = (i == j):=by
 rw [Bool.eq_iff_iff]
 simp
theorem dec_str {i j:Str}:decide (V.str i = V.str j) = (i == j):=by
 rw [Bool.eq_iff_iff]
 simp
theorem dec_byt {i j:Array UInt8}:decide (V.byt i = V.byt j) = (i.toList == j.toList):=by
 rw [Bool.eq_iff_iff]
 cases i
 cases j
 simp
section
variable {X:Cx} {a b c:Expr} {ta tb tc:TE} {pos:Pos}
theorem fin_bl {pins:List (Addr × Obj)} {σ:St} {H:Hp} {s:Shared} {Q:VK} {k k':Bool} (I:Inv X pins σ H s) (q:Q (.bl k) H) (e:k = k'):EP X pins σ Q (.bool k') s:=by
 subst e
 exact ⟨.bl k,H,I,rfl,q⟩
theorem op_eq:OpR X (compareOp .Eq) rEq:=by
 intro pins s σ H x y v u Q I rx ry h
 obtain ⟨hs,q⟩:=h
 cases x with
 | non =>
  cases rx
  cases y with
  | non=>cases ry; exact PySem.EqNone.eq_none_none (fin_bl I q (by simp))
  | bl j=>cases ry; exact PySem.EqNone.eq_none_bool (fin_bl I q (by simp))
  | int j=>obtain ⟨t',rfl⟩:=ry; exact PySem.EqNone.eq_none_int (fin_bl I q (by simp))
  | str j=>obtain ⟨t',rfl⟩:=ry; exact PySem.EqNone.eq_none_str (fin_bl I q (by simp))
  | _=>exact absurd (show false = true from hs) Bool.false_ne_true
 | bl i =>
  cases rx
  cases y with
  | non=>cases ry; exact PySem.EqNone.eq_bool_none (fin_bl I q (by simp))
  | bl j=>cases ry; exact eq_bool (fin_bl I q dec_bl)
  | str j=>obtain ⟨t',rfl⟩:=ry; exact PySem.EqMixed.eq_bool_str (fin_bl I q (by simp))
  | _=>exact absurd (show false = true from hs) Bool.false_ne_true
 | int i =>
  obtain ⟨t,rfl⟩:=rx
  cases y with
  | non=>cases ry; exact PySem.EqNone.eq_int_none (fin_bl I q (by simp))
  | int j=>obtain ⟨t',rfl⟩:=ry; exact eq_int (fin_bl I q dec_int)
  | str j=>obtain ⟨t',rfl⟩:=ry; exact PySem.EqMixed.eq_int_str (fin_bl I q (by simp))
  | _=>exact absurd (show false = true from hs) Bool.false_ne_true
 | str i =>
  obtain ⟨t,rfl⟩:=rx
  cases y with
  | non=>cases ry; exact PySem.EqNone.eq_str_none (fin_bl I q (by simp))
  | bl j=>cases ry; exact PySem.EqMixed.eq_str_bool (fin_bl I q (by simp))
  | int j=>obtain ⟨t',rfl⟩:=ry; exact PySem.EqMixed.eq_str_int (fin_bl I q (by simp))
  | str j=>obtain ⟨t',rfl⟩:=ry; exact eq_str (fin_bl I q dec_str)
  | _=>exact absurd (show false = true from hs) Bool.false_ne_true
 | byt i =>
  obtain ⟨t,rfl⟩:=rx
  cases y with
  | byt j=>obtain ⟨t',rfl⟩:=ry; exact PySem.W.eq_bytes (fin_bl I q dec_byt)
  | _=>exact absurd (show false = true from hs) Bool.false_ne_true
 | _=>cases y <;> exact absurd (show false = true from hs) Bool.false_ne_true
theorem op_ne:OpR X (compareOp .NotEq) rNe:=by
 intro pins s σ H x y v u Q I rx ry h
 obtain ⟨hs,q⟩:=h
 cases x with
 | non =>
  cases rx
  cases y with
  | non=>cases ry; exact PySem.EqNone.ne_none_none (fin_bl I q (by simp))
  | bl j=>cases ry; exact PySem.EqNone.ne_none_bool (fin_bl I q (by simp))
  | int j=>obtain ⟨t',rfl⟩:=ry; exact PySem.EqNone.ne_none_int (fin_bl I q (by simp))
  | str j=>obtain ⟨t',rfl⟩:=ry; exact PySem.EqNone.ne_none_str (fin_bl I q (by simp))
  | _=>exact absurd (show false = true from hs) Bool.false_ne_true
 | bl i =>
  cases rx
  cases y with
  | non=>cases ry; exact PySem.EqNone.ne_bool_none (fin_bl I q (by simp))
  | bl j=>cases ry; exact ne_bool (fin_bl I q (congrArg not dec_bl))
  | str j=>obtain ⟨t',rfl⟩:=ry; exact PySem.EqMixed.ne_bool_str (fin_bl I q (by simp))
  | _=>exact absurd (show false = true from hs) Bool.false_ne_true
 | int i =>
  obtain ⟨t,rfl⟩:=rx
  cases y with
  | non=>cases ry; exact PySem.EqNone.ne_int_none (fin_bl I q (by simp))
  | int j=>obtain ⟨t',rfl⟩:=ry; exact ne_int (fin_bl I q (congrArg not dec_int))
  | str j=>obtain ⟨t',rfl⟩:=ry; exact PySem.EqMixed.ne_int_str (fin_bl I q (by simp))
  | _=>exact absurd (show false = true from hs) Bool.false_ne_true
 | str i =>
  obtain ⟨t,rfl⟩:=rx
  cases y with
  | non=>cases ry; exact PySem.EqNone.ne_str_none (fin_bl I q (by simp))
  | bl j=>cases ry; exact PySem.EqMixed.ne_str_bool (fin_bl I q (by simp))
  | int j=>obtain ⟨t',rfl⟩:=ry; exact PySem.EqMixed.ne_str_int (fin_bl I q (by simp))
  | str j=>obtain ⟨t',rfl⟩:=ry; exact ne_str (fin_bl I q (congrArg not dec_str))
  | _=>exact absurd (show false = true from hs) Bool.false_ne_true
 | byt i =>
  obtain ⟨t,rfl⟩:=rx
  cases y with
  | byt j=>obtain ⟨t',rfl⟩:=ry; exact PySem.W.ne_bytes (fin_bl I q (congrArg not dec_byt))
  | _=>exact absurd (show false = true from hs) Bool.false_ne_true
 | _=>cases y <;> exact absurd (show false = true from hs) Bool.false_ne_true
theorem op_lt:OpR X (compareOp .Lt) (rI0 fun i j=>.bl (decide (i < j))):=opB0 fun _ _ _ _ _ _ _ q=>lt_int q
theorem op_le:OpR X (compareOp .LtE) (rI0 fun i j=>.bl (decide (i <= j))):=opB0 fun _ _ _ _ _ _ _ q=>le_int q
theorem op_gt:OpR X (compareOp .Gt) (rI0 fun i j=>.bl (decide (j < i))):=opB0 fun _ _ _ _ _ _ _ q=>gt_int q
theorem op_ge:OpR X (compareOp .GtE) (rI0 fun i j=>.bl (decide (j <= i))):=opB0 fun _ _ _ _ _ _ _ q=>ge_int q
theorem op_in_str:OpR X (compareOp .In) (fun x y H Q=>∃ i j,x = .str i /\ y = .str j /\ Q (.bl (!(Builtin.Str.occurrences j i 0 j.length 1).isEmpty)) H):=by
 intro pins s σ H x y v u Q I rx ry h
 obtain ⟨i,j,rfl,rfl,q⟩:=h
 obtain ⟨t,rfl⟩:=rx
 obtain ⟨t',rfl⟩:=ry
 exact in_str (fin_bl I q rfl)
theorem op_isN:OpR X (compareOp .Is) (fun x y H Q=>y = .non /\ Q (.bl (decide (x = .non))) H):=by
 intro pins s σ H x y v u Q I rx ry h
 obtain ⟨rfl,q⟩:=h
 cases ry
 refine is_none_gen (fin_bl I q ?_)
 cases x <;> first
  | (cases rx; rfl)
  | (obtain ⟨t,rfl⟩:=rx; rfl)
theorem op_notN:OpR X (compareOp .IsNot) (fun x y H Q=>y = .non /\ Q (.bl (!decide (x = .non))) H):=by
 intro pins s σ H x y v u Q I rx ry h
 obtain ⟨rfl,q⟩:=h
 cases ry
 refine isnot_none_gen (fin_bl I q ?_)
 cases x <;> first
  | (cases rx; rfl)
  | (obtain ⟨t,rfl⟩:=rx; rfl)
theorem nomark (b:Expr) {op:CmpOp} (h:op ≠ .In:=by decide) (h2:op ≠ .NotIn:=by decide):behindInMarks op b = false:=by
 have e1:(op == CmpOp.In) = false:=by cases op <;> first | rfl | exact absurd rfl h
 have e2:(op == CmpOp.NotIn) = false:=by cases op <;> first | rfl | exact absurd rfl h2
 cases b <;> simp [behindInMarks,e1,e2]
theorem pe_cmpR {op:CmpOp} {r:R2} (ho:OpR X (compareOp op) r) (ha:PE X a ta) (hb:PE X b tb) (hm:behindInMarks op b = false):PE X (.Compare a [op] [b] pos) (tOp r ta tb):=by
 intro pins s σ H Q I h
 exact wpAny_Compare1 (binT ha hb I h fun v u s2 x y H2 I2 rx ry q=>ho pins s2 σ H2 x y v u Q I2 rx ry q) hm
def tTest (t:TE):TT:=fun σ H Q=>t σ H fun x H'=>∃ k,x = .bl k /\ Q k H'
theorem pt_cmpR {op:CmpOp} {r:R2} (ho:OpR X (compareOp op) r) (ha:PE X a ta) (hb:PE X b tb) (hm:behindInMarks op b = false):PT X (.Compare a [op] [b] pos) (tTest (tOp r ta tb)):=by
 intro pins s σ H Q I h
 refine wpAny_isTrue_Compare1 (thn (ha pins s σ H _ I h) fun v s1 ⟨x,H1,I1,r1,q1⟩=>thn (hb pins s1 σ H1 _ I1 q1) fun u s2 ⟨y,H2,I2,r2,q2⟩ =>
  thn (ho pins s2 σ H2 x y v u _ I2 r1 r2 q2) fun c s3 ⟨z,H3,I3,r3,k,e,q3⟩=>?_) hm
 subst e
 cases r3
 exact wpAny_truthy_bool ⟨H3,I3,q3⟩
def tChain (r r':R2) (ta tb tc:TE):TE:=fun σ H Q=>ta σ H fun x H1=>tb σ H1 fun y H2=>r x y H2 fun z H3=>∃ k,z = .bl k /\
 (if k = true then tc σ H3 fun w' H4=>r' y w' H4 Q else Q (.bl false) H3)
theorem pe_chain {op op':CmpOp} {r r':R2} (ho:OpR X (compareOp op) r) (ho':OpR X (compareOp op') r') (ha:PE X a ta) (hb:PE X b tb) (hc:PE X c tc)
  (hm:lastMarks [op,op'] [b,c] = false:=by with_unfolding_all rfl):PE X (.Compare a [op,op'] [b,c] pos) (tChain r r' ta tb tc):=by
 intro pins s σ H Q I h
 refine Compare_chain (thn (ha pins s σ H _ I h) fun v s1 ⟨x,H1,I1,r1,q1⟩=>chain_link (thn (hb pins s1 σ H1 _ I1 q1) fun u s2 ⟨y,H2,I2,r2,q2⟩ =>
  thn (ho pins s2 σ H2 x y v u _ I2 r1 r2 q2) fun d s3 ⟨z,H3,I3,r3,k,e,q3⟩=>?_)) hm
 subst e
 cases r3
 refine wpAny_truthy_bool ?_
 cases k with
 | false=>exact ite_ff ⟨.bl false,H3,I3,rfl,q3⟩
 | true=>exact ite_tt (chain_last (thn (hc pins s3 σ H3 _ I3 q3) fun w' s4 ⟨z',H4,I4,r4,q4⟩=>ho' pins s4 σ H4 y z' u w' Q I4 r2 r4 q4))
theorem line63:(sizeLine:Nat) < 2 ^ 63:=by rw [sizeLine_eq]; decide
theorem op_add_str:OpR X (binaryOp .Add) (fun x y H Q=>∃ i j,x = .str i /\ y = .str j /\ i.length + j.length <= sizeLine /\ Q (.str (i ++ j)) H):=by
 intro pins s σ H x y v u Q I rx ry h
 obtain ⟨i,j,rfl,rfl,hz,q⟩:=h
 obtain ⟨t,rfl⟩:=rx
 obtain ⟨t',rfl⟩:=ry
 exact add_str (fun t' tk=>⟨.str (i ++ j),H,I.tok _,⟨_,rfl⟩,q⟩) hz
theorem vals1 {x:V} {us:List Value} (r:Vals [x] us):∃ u,us = [u] /\ RelV x u:=by
 cases r with
 | cons r1 r2=>cases r2; exact ⟨_,rfl,r1⟩
theorem vals2 {x y:V} {us:List Value} (r:Vals [x,y] us):∃ u w',us = [u,w'] /\ RelV x u /\ RelV y w':=by
 cases r with
 | cons r1 r2 =>
  cases r2 with
  | cons r3 r4=>cases r4; exact ⟨_,_,rfl,r1,r3⟩
theorem call_max2 (hc:X.calm = true):CallR X (.builtin "max") (fun xs H Q=>∃ i j,xs = [.int i,.int j] /\ Q (.int (if j > i then j else i)) H):=by
 intro pins s σ H xs us Q I r h
 obtain ⟨i,j,rfl,q⟩:=h
 obtain ⟨u,w',rfl,⟨t,rfl⟩,⟨t',rfl⟩⟩:=vals2 r
 refine max_two_ints (I.ok.hd hc) fun h' tk k=>⟨_,H,I.kept k,?_,q⟩
 by_cases hj:j > i
 ·rw [if_pos hj,if_pos hj]; exact ⟨_,rfl⟩
 ·rw [if_neg hj,if_neg hj]; exact ⟨_,rfl⟩
theorem call_min2 (hc:X.calm = true):CallR X (.builtin "min") (fun xs H Q=>∃ i j,xs = [.int i,.int j] /\ Q (.int (if j < i then j else i)) H):=by
 intro pins s σ H xs us Q I r h
 obtain ⟨i,j,rfl,q⟩:=h
 obtain ⟨u,w',rfl,⟨t,rfl⟩,⟨t',rfl⟩⟩:=vals2 r
 refine min_two_ints (I.ok.hd hc) fun h' tk k=>⟨_,H,I.kept k,?_,q⟩
 by_cases hj:j < i
 ·rw [if_pos hj,if_pos hj]; exact ⟨_,rfl⟩
 ·rw [if_neg hj,if_neg hj]; exact ⟨_,rfl⟩
theorem call_int1:CallR X (.type "int") (fun xs H Q=>(∃ i,xs = [.int i] /\ Q (.int i) H) \/ ∃ k,xs = [.bl k] /\ Q (.int (if k then 1 else 0)) H):=by
 intro pins s σ H xs us Q I r h
 rcases h with ⟨i,rfl,q⟩ | ⟨k,rfl,q⟩
 ·obtain ⟨u, rfl, t, rfl⟩ := vals1 r
  exact call_int_int ⟨.int i,H,I,⟨_,rfl⟩,q⟩
 ·obtain ⟨u, rfl, r1⟩ := vals1 r
  cases r1
  exact call_int_bool ⟨.int (if k then 1 else 0),H,I.tok _,⟨_,rfl⟩,q⟩
theorem call_str_int:CallR X (.type "str") (fun xs H Q=>∃ i,xs = [.int i] /\ i.natAbs.log2 < 1920 /\ Q (.str (toString i)) H):=by
 intro pins s σ H xs us Q I r h
 obtain ⟨i,rfl,hz,q⟩:=h
 obtain ⟨u,rfl,t,rfl⟩:=vals1 r
 exact PySem.P.str_of_int hz ⟨.str _,H,I.tok _,⟨_,rfl⟩,q⟩
end
end L2
namespace L2
open PySem PySem.Spec PyProof.Rows
section
variable {prog:Program} {w:World} {A:Around} {E:Value -> Shared -> Prop} {s:Shared} {K:PySem.W.Frag} {x dx C f:Addr} {mA:Str -> Option Value} {name:Str} {v:Value}
end
theorem RelO.some_of {v:V} {o:Option Value} (r:RelO (some v) o):∃ u,o = some u /\ RelV v u:=by
 cases o with
 | none=>exact (show False from r).elim
 | some u=>exact ⟨u,rfl,r⟩
section
variable {P:Program} {w:World} {H H':Hp} {h h':Heap} {a C dx:Addr} {fs fs':List (Str × V)}
end
section
variable {X:Cx} {pins:List (Addr × Obj)} {σ:St} {H:Hp} {s:Shared} {a C dx:Addr} {fs:List (Str × V)} {f:Str} {v:V} {A:Around} {E:Value -> Shared -> Prop}
end
section
variable {X:Cx} {o e value:Expr} {f:Str} {pos pos' tpos:Pos} {ta tv:TE}
end
section
variable {X:Cx} {pins:List (Addr × Obj)} {σ:St} {H:Hp} {s:Shared} {A:Around} {E:Value -> Shared -> Prop} {Q:Value -> Shared -> Prop} {c:Value} {b:Bool}
end
end L2
namespace L2
open PySem PySem.Spec PyProof.Rows
structure Room (k:Nat) (A:Around):Prop where
 hd:A.handled = none
 dp:A.depth + 3 * k + 5 < recursionLimit
 un:A.units + 16 * k + 200 < cLine
 gd:A.guards = some []
theorem Room.mono {j k:Nat} {A:Around} (r:Room k A) (h:j <= k):Room j A:=⟨r.hd,by have:=r.dp; lia,by have:=r.un; lia,r.gd⟩
theorem Room.deeper {k:Nat} {A:Around} (r:Room (k + 1) A) (env:Env):Room k (A.deeper env) :=
 ⟨r.hd,by have:=r.dp; show A.depth + 1 + 3 * k + 5 < _; lia,by have:=r.un; show A.units + 3 + 16 * k + 200 < _; lia,r.gd⟩
theorem Room.depth {k:Nat} {A:Around} (r:Room k A):A.depth < recursionLimit:=by have:=r.dp; lia
theorem Room.units {k:Nat} {A:Around} (r:Room k A):A.units + 64 < cLine:=by have:=r.un; lia
def tNil:TA:=fun _ H Q=>Q [] H
def tCons (ta:TE) (tr:TA):TA:=fun σ H Q=>ta σ H fun x H1=>tr σ H1 fun xs H2=>Q (x :: xs) H2
section
variable {X:Cx} {e:Expr} {es:List Expr} {te:TE} {t:TA} {pos:Pos}
theorem pa_nil:PA X [] tNil:=fun _ _ _ _ H Q I h=>Calls.spliced_nil ⟨[],H,I,.nil,h⟩
theorem pa_cons (ha:PE X e te) (hr:PA X es t) (hs:starEach (e :: es) X.env = (false,eval e X.env) :: starEach es X.env:=by rfl):PA X (e :: es) (tCons te t):=by
 intro pos pins s σ H Q I h
 rw [hs]
 show wpAny _ _ (spliced ((false,eval e X.env) :: backTo pos (starEach es X.env))) _ _ s
 refine Calls.spliced_cons (thn (ha pins s σ H _ I h) fun u s1 ⟨x,H1,I1,r1,q1⟩=>?_)
 exact thn (hr pos pins s1 σ H1 _ I1 q1) fun us s2 ⟨xs,H2,I2,r2,q2⟩=>⟨x :: xs,H2,I2,.cons r1 r2,q2⟩
def tTup (t:TA):TE:=fun σ H Q=>t σ H fun xs H1=>xs.length <= sizeLine /\ ∀ p,H1 p = none -> Q (.ref p) (upd H1 p (.tup xs))
def tLst (t:TA):TE:=fun σ H Q=>t σ H fun xs H1=>xs.length <= sizeLine /\ ∀ p,H1 p = none -> Q (.ref p) (upd H1 p (.lst xs))
theorem pe_tup {x1} (h:PA X es t):PE X (.Tuple es x1 pos) (tTup t):=by
 intro pins s σ H Q I hq
 refine wpAny_Tuple_spliced (thn (h pos pins s σ H _ I hq) fun us s1 ⟨xs,H1,I1,r,z,q⟩=>⟨by rw [<- r.length]; exact z,?_⟩)
 have hf:H1 s1.heap.objs.size = none:=I1.hok.fresh (Nat.le_refl _)
 refine ⟨.ref s1.heap.objs.size,upd H1 s1.heap.objs.size (.tup xs),I1.laid (t':=s1.toks) (fun b u e=>Heap.get?_push_of_some _ e) (Nat.le_refl _) ?_,rfl,q _ hf⟩
 exact ⟨z,us,r,⟨_,Heap.get?_push_size _ rfl,rfl,_,rfl⟩⟩
theorem pe_lst (h:PA X es t):PE X (.List es pos) (tLst t):=by
 intro pins s σ H Q I hq
 refine wpAny_List_spliced (thn (h pos pins s σ H _ I hq) fun us s1 ⟨xs,H1,I1,r,z,q⟩=>⟨by rw [<- r.length]; exact z,?_⟩)
 have hf:H1 s1.heap.objs.size = none:=I1.hok.fresh (Nat.le_refl _)
 refine ⟨.ref s1.heap.objs.size,upd H1 s1.heap.objs.size (.lst xs),I1.laid (t':=s1.toks) (fun b u e=>Heap.get?_push_of_some _ e) (Nat.le_refl _) ?_,rfl,q _ hf⟩
 exact ⟨z,us,0,r,Heap.get?_push_size _ rfl⟩
end
abbrev Sp:=List V -> Hp -> VK -> XK -> Prop
abbrev CXT:=List Env -> Hp -> Shared -> XK -> Value -> Shared -> Prop
structure Env0 (P:Program) (w:World) (K:PySem.W.Frag) (mg:Str -> Option Value) (base:Heap) (A:Around) (outer:List Env) (s:Shared) (H:Hp):Prop where
 frames:A.frames = some outer
 mod:Mod K mg base
 bs:∀ b o,base.get? b = some o -> s.heap.get? b = some o /\ H b = none
 bsz:base.objs.size <= s.heap.objs.size
 funs:s.heap.FunFrames base outer
 frf:∀ b ∈ frs outer,H b = none
 hok:HOk P w H s.heap
 bare:AllBare s.gens
def CE (outer:List Env) (P:Program) (w:World) (H:Hp) (s:Shared) (Q:VK) (u:Value) (s':Shared):Prop :=
 ∃ v H',s'.os = s.os /\ AllBare s'.gens /\ Un (frs outer) [] H H' s.heap s'.heap /\ HOk P w H' s'.heap /\ RelV v u /\ Q v H'
def CR (CX:CXT) (outer:List Env) (P:Program) (w:World) (H:Hp) (s:Shared) (Q:VK) (E:XK) (r:Result) (s':Shared):Prop :=
 match r with
 | .ok (.ret u)=>CE outer P w H s Q u s'
 | .ok _=>False
 | .error e=>CX outer H s E e s'
structure FnOk (P:Program) (w:World) (K:PySem.W.Frag) (mg:Str -> Option Value) (base:Heap) (CX:CXT) (k:Nat) (f:Addr) (fd:FuncData) (ps:List Str) (sp:Sp):Prop where
 len:∀ vs H Q E,sp vs H Q E -> vs.length = ps.length
 run:∀ (A:Around) (outer:List Env) (s:Shared) (H:Hp) (args:Args) (us:List Value) (vs:List V) (Q:VK) (E:XK),Room k A -> Env0 P w K mg base A outer s H -> BindsTo s fd args (ps.zip us) -> Vals vs us -> sp vs H Q E ->
  codeAny (model P w) A (.call (.ref f) args) (CR CX outer P w H s Q E) s
section
variable {X:Cx} {pins:List (Addr × Obj)} {σ:St} {H:Hp} {s s':Shared}
theorem Inv.env0 (I:Inv X pins σ H s):Env0 X.prog X.w X.K X.mg X.base X.A X.stack s H :=
 ⟨I.ok.frames,I.ok.mod,I.bs,Nat.le_trans I.ok.bsz I.sz,I.stack,I.stkFree,I.hok,I.bare⟩
theorem Inv.after {Q:VK} {u:Value} (I:Inv X pins σ H s) (h:CE X.stack X.prog X.w H s Q u s'):EP X pins σ Q u s':=by
 obtain ⟨v,H',os,bare,un,hok,r,q⟩:=h
 obtain ⟨hh,g,d,t,os'⟩:=s'
 obtain rfl:os' = s.os:=os
 exact ⟨v,H',I.call (h':=hh) (g':=g) (d':=d) (t':=t) (ch:=[]) un hok bare (fun b z=>absurd z (by simp)),r,q⟩
end
def tCall (sp:Sp) (dvs:List V) (E:XK) (t:TA):TE:=fun σ H Q=>t σ H fun vs H1=>sp (vs ++ dvs) H1 Q E
def Binds (K:PySem.W.Frag) (fd:FuncData) (ps:List Str) (ds:List Value):Prop :=
 ∀ (s:Shared) (us:List Value),K.In s.heap -> (us ++ ds).length = ps.length -> BindsTo s fd ⟨us,[]⟩ (ps.zip (us ++ ds))
theorem Binds.all {K:PySem.W.Frag} {fd:FuncData} {ps:List Str} (h:∀ us:List Value,us.length = ps.length -> bindArgs fd ⟨us,[]⟩ = pure (ps.zip us)):Binds K fd ps []:=fun s us _ hl=>by
 rw [List.append_nil] at hl ⊢
 exact .of_eq (h us hl)
def Passes (CX:CXT) (X:Cx) (E:XK):Prop:=∀ (pins:List (Addr × Obj)) (σ:St) (H:Hp) (s:Shared) (e:Value) (s':Shared),Inv X pins σ H s -> CX X.stack H s E e s' -> X.xe e s'
section
variable {X:Cx} {CX:CXT} {k:Nat} {f C:Addr} {fd:FuncData} {ps:List Str} {sp:Sp} {dvs:List V} {ds:List Value} {E:XK} {x m:Str} {p pos apos:Pos} {e o:Expr} {es:List Expr} {ta:TE} {t:TA}
theorem run_fn {pins:List (Addr × Obj)} {σ:St} {H:Hp} {s:Shared} {Q:VK} {us:List Value} {vs:List V} (F:FnOk X.prog X.w X.K X.mg X.base CX k f fd ps sp) (hr:Room k X.A) (hb:Binds X.K fd ps ds) (hd:Vals dvs ds) (hx:Passes CX X E)
  (I:Inv X pins σ H s) (r:Vals vs us) (h:sp (vs ++ dvs) H Q E):wpAny (model X.prog X.w) X.A (call (.ref f) us) (EP X pins σ Q) X.xe s:=by
 have r2:Vals (vs ++ dvs) (us ++ ds):=r.append hd
 have hl:(us ++ ds).length = ps.length:=by rw [<- r2.length]; exact F.len _ _ _ _ h
 refine wpAny_call (codeAny_mono (F.run X.A X.stack s H ⟨us,[]⟩ (us ++ ds) (vs ++ dvs) Q E hr I.env0 (hb s us I.kIn hl) r2 h) fun r s' hq=>?_)
 cases r with
 | error e=>exact hx pins σ H s e s' I hq
 | ok fl =>
  cases fl with
  | ret u=>exact I.after hq
  | next=>exact False.elim hq
  | brk=>exact False.elim hq
  | cont=>exact False.elim hq
theorem pe_call (F:FnOk X.prog X.w X.K X.mg X.base CX k f fd ps sp) (hr:Room k X.A) (hg:Gl X x) (hm:X.mg x = some (.ref f)) (hk:PySem.W.keepIn X.K (.ref f) = true) (hb:Binds X.K fd ps ds) (hd:Vals dvs ds) (hx:Passes CX X E)
  (ha:PA X (e :: es) t) (hdb:(x == ("__debug__" : Str)) = false:=by decide) (he:starEach (e :: es) X.env = (false,eval e X.env) :: starEach es X.env:=by rfl) (hpl:(backTo pos (starEach es X.env)).any (·.1) = false:=by rfl) :
  PE X (.Call (.Name x p) (e :: es) [] pos) (tCall sp dvs E t):=by
 intro pins s σ H Q I h
 refine wpAny_Call_Name_kw (ld_glob I hg hm ?_ hdb)
 refine PySem.W.callWith_K (h₀:=X.base) I.ok.mod.kin hk (thn (ha pos pins s σ H _ I h) fun us s1 ⟨vs,H1,I1,r,q⟩=>⟨I1.kIn,?_⟩) he hpl
 exact run_fn F hr hb hd hx I1 r q
end
section
variable {X:Cx} {CX:CXT} {k:Nat} {f C:Addr} {fd:FuncData} {ps ks:List Str} {sp:Sp} {E:XK} {x m:Str} {p pos apos kpos:Pos} {e o:Expr} {es:List Expr} {kws:List Keyword} {te ta:TE} {t tk:TA} {nm:Option Str}
variable {g:List Value -> List Value -> List Value} {gV:List V -> List V -> List V}
end
structure FnScope (N P:List Str) (sc:Scope):Prop where
 kind:sc.kind = .function
 co:sc.isCoroutine = false
 gen:sc.isGenerator = false
 nd:N.Nodup
 pre:N.take P.length = P
 par:∀ x ∈ P,sc.names.lookup x = some .local \/ sc.names.lookup x = some .cell
 nofree:∀ y ∈ sc.names,y.2 ≠ .free
theorem bindL_out {kindOf:Str -> Option NameKind} {x:Str}:∀ {binds:List (Str × Value)} {m:Str -> Option Value},(∀ v,(x,v) ∉ binds) -> bindL kindOf binds m x = m x
 | [],_,_=>rfl
 | (n, v) :: r, m, h => by
  unfold bindL
  rw [bindL_out fun w hw=>h w (List.mem_cons_of_mem _ hw)]
  split
  ·have : x ≠ n := by rintro rfl; exact h v List.mem_cons_self
   simp [this]
  ·rfl
theorem bindC_out {kindOf:Str -> Option NameKind} {x:Str}:∀ {binds:List (Str × Value)} {m:Str -> Option Value},(∀ v,(x,v) ∉ binds) -> bindC kindOf binds m x = m x
 | [],_,_=>rfl
 | (n, v) :: r, m, h => by
  unfold bindC
  rw [bindC_out fun w hw=>h w (List.mem_cons_of_mem _ hw)]
  split
  ·rfl
  ·have : x ≠ n := by rintro rfl; exact h v List.mem_cons_self
   simp [this]
theorem bindL_get {kindOf:Str -> Option NameKind} {x:Str} {v:Value}:∀ {P:List Str} {vs:List Value} {i:Nat} {m:Str -> Option Value},P.Nodup -> P[i]? = some x -> vs[i]? = some v -> kindOf x = some .local ->
  bindL kindOf (P.zip vs) m x = some v
 | [],_,_,_,_,h,_,_=>by simp at h
 | _ :: _,[],_,_,_,_,h,_=>by simp at h
 | p :: P,w :: vs,0,m,nd,h1,h2,hk=>by
  simp at h1 h2; subst h1; subst h2
  show bindL kindOf ((p,w) :: P.zip vs) m p = _
  unfold bindL
  rw [bindL_out fun v hv=>(List.nodup_cons.mp nd).1 (List.of_mem_zip hv).1,if_pos hk]
  simp
 | p :: P,w :: vs,i + 1,m,nd,h1,h2,hk=>by
  show bindL kindOf ((p,w) :: P.zip vs) m x = _
  unfold bindL
  exact bindL_get (i:=i) (List.nodup_cons.mp nd).2 (by simpa using h1) (by simpa using h2) hk
theorem bindC_get {kindOf:Str -> Option NameKind} {x:Str} {v:Value}:∀ {P:List Str} {vs:List Value} {i:Nat} {m:Str -> Option Value},P.Nodup -> P[i]? = some x -> vs[i]? = some v -> kindOf x ≠ some .local ->
  bindC kindOf (P.zip vs) m x = some v
 | [],_,_,_,_,h,_,_=>by simp at h
 | _ :: _,[],_,_,_,_,h,_=>by simp at h
 | p :: P,w :: vs,0,m,nd,h1,h2,hk=>by
  simp at h1 h2; subst h1; subst h2
  show bindC kindOf ((p,w) :: P.zip vs) m p = _
  unfold bindC
  rw [bindC_out fun v hv=>(List.nodup_cons.mp nd).1 (List.of_mem_zip hv).1,if_neg hk]
  simp
 | p :: P,w :: vs,i + 1,m,nd,h1,h2,hk=>by
  show bindC kindOf ((p,w) :: P.zip vs) m x = _
  unfold bindC
  exact bindC_get (i:=i) (List.nodup_cons.mp nd).2 (by simpa using h1) (by simpa using h2) hk
def start (N:List Str) (vs:List V):St:=vs.map some ++ List.replicate (N.length - vs.length) none
def cxOf (CX:CXT) (P:Program) (w:World) (K:PySem.W.Frag) (mg:Str -> Option Value) (base:Heap) (N:List Str) (qual:Str) (scope:Scope) (f:Addr) (cd:Value) (A:Around) (outer:List Env) (s:Shared) (H:Hp) (E:XK):Cx where
 prog:=P
 w:=w
 K:=K
 mg:=mg
 base:=base
 A:=A.deeper (envOfC qual scope s.heap.objs.size f cd)
 N:=N
 s₀:=s
 H₀:=H
 env:=envOfC qual scope s.heap.objs.size f cd
 outer:=outer
 stack:=envOfC qual scope s.heap.objs.size f cd :: outer
 ex:=[]
 calm:=true
 fn:=fun _=>true
 pn:=[]
 xe:=fun e s'=>wpAny (model P w) (A.deeper (envOfC qual scope s.heap.objs.size f cd)) (leaving (envOfC qual scope s.heap.objs.size f cd) e) (fun _ s''=>CX outer H s E e s'') (fun e' s''=>CX outer H s E e' s'') s'
theorem cell_has {sc:Scope} {n:Nat} {x:Str} (h:sc.names.lookup x = some .cell):∃ c,(cellsFrom n sc.names []).lookup x = some c:=by
 have q:=PySem.W.cellsFrom_some sc.names n [] (.inl h)
 exact Option.isSome_iff_exists.mp q
theorem inv_start {CX:CXT} {P:Program} {w:World} {K:PySem.W.Frag} {mg:Str -> Option Value} {base:Heap} {N ps:List Str} {qual:Str} {scope:Scope} {f:Addr} {cd:Value} {A:Around} {outer:List Env} {s s1:Shared} {H:Hp} {E:XK} {us:List Value} {vs:List V}
  (S:FnScope N ps scope) (hd:A.handled = none) (e0:Env0 P w K mg base A outer s H) (hl:vs.length = ps.length) (r:Vals vs us)
  (x:InCallC s s.heap.objs.size (bindL (envOfC qual scope s.heap.objs.size f cd).kindOf (ps.zip us) fun _=>none) (cellsFrom (s.heap.objs.size + 1) scope.names []) (bindC (envOfC qual scope s.heap.objs.size f cd).kindOf (ps.zip us) fun _=>none) s1) :
  Inv (cxOf CX P w K mg base N qual scope f cd A outer s H E) [] (start N vs) H s1:=by
 have hpl:ps.length <= N.length:=by have:=congrArg List.length S.pre; rw [List.length_take] at this; lia
 obtain ⟨h1,tk,rfl,hk⟩:=x.done
 have noA:∀ b:Addr,b ∉ (cxOf CX P w K mg base N qual scope f cd A outer s H E).ex:=fun b z=>absurd (show b ∈ ([]:List Addr) from z) (by simp)
 refine ⟨⟨e0.mod,S.kind,rfl,rfl,Nat.le_refl _,fun y z c h1 h2=>?_,fun y hy=>?_,fun y c _ h=>?_,fun _=>hd,Around.frames_deeper e0.frames,.inr ⟨rfl,rfl⟩,fun b z=>absurd z (noA b),e0.bs,e0.bsz,fun b _ _=>noA b,fun b z=>absurd z (noA b),e0.funs,e0.frf⟩,
  rfl,e0.bare,Un.kept hk,⟨_,x.toInCall.ns,fun i y v h1 h2 h3=>?_⟩,fun y c h=>⟨_,x.cell y c h⟩,e0.hok.fresh (Nat.le_refl _),fun y c h=>?_,fun p hp=>absurd (show p ∈ ([]:List (Addr × Obj)) from hp) (by simp),e0.hok.kept hk,?_⟩
 ·exact name_of_addr x.apart (PySem.mem_of_lookup h1) (PySem.mem_of_lookup h2)
 ·have hy : scope.names.lookup y = some .cell \/ scope.names.lookup y = some .free := hy
  rcases hy with hy | hy
  ·exact cell_has hy
  ·exact absurd rfl (S.nofree _ (PySem.mem_of_lookup hy))
 ·exact Nat.le_of_lt (x.above y c (PySem.mem_of_lookup h))
 ·have hi : i < vs.length := by
   unfold start at h2
   by_cases hi:i < vs.length
   ·exact hi
   ·rw [List.getElem?_append_right (by simpa using hi)] at h2
    rw [List.getElem?_replicate] at h2
    split at h2 <;> cases h2
  have ha:vs[i]? = some v:=by
   unfold start at h2
   rw [List.getElem?_append_left (by simpa using hi),List.getElem?_map] at h2
   cases e:vs[i]? with
   | none=>rw [e] at h2; cases h2
   | some a=>rw [e] at h2; cases h2; rfl
  obtain ⟨u,hu,rv⟩:=r.get ha
  have hp:ps[i]? = some y:=by
   rw [<- S.pre,List.getElem?_take_of_lt (by lia)]; exact h1
  have ndP:ps.Nodup:=by rw [<- S.pre]; exact S.nd.sublist (List.take_sublist _ _)
  refine ⟨u,rv,?_⟩
  rcases S.par y (List.mem_of_getElem? hp) with k | k
  ·exact .inl ⟨k,bindL_get ndP hp hu k⟩
  ·obtain ⟨c, e⟩ := cell_has (n := s.heap.objs.size + 1) k
   refine .inr ⟨.inl k,c,e,?_⟩
   have q:=x.cell y c e
   rw [bindC_get ndP hp hu (by show scope.names.lookup y ≠ _; rw [k]; decide)] at q
   exact q
 ·exact e0.hok.fresh (Nat.le_of_lt (x.above y c (PySem.mem_of_lookup h)))
 ·unfold start
  show _ = N.length
  rw [List.length_append,List.length_map,List.length_replicate]
  lia
theorem fn_of {CX:CXT} {P:Program} {w:World} {K:PySem.W.Frag} {mg:Str -> Option Value} {base:Heap} {k:Nat} {f:Addr} {name qual:Str} {params:Arguments} {body:List Stmt} {scope:Scope} {dV kV doc pm cdv ct oc:Value} {an od:Option Addr}
  {osl:Array (Option Value)} {N ps:List Str} {sp:Sp} (lk:K.lookup f = some ⟨oc,od,.func (PySem.W.fnOf name qual params body scope dV kV doc pm an cdv ct),osl⟩) (hcd:PySem.W.codeIn K cdv qual = true) (S:FnScope N ps scope)
  (len:∀ vs H Q E,sp vs H Q E -> vs.length = ps.length)
  (hbody : ∀ (A : Around) (outer : List Env) (s : Shared) (H : Hp) (vs : List V) (Q : VK) (E : XK), Room k (A.deeper (envOfC qual scope s.heap.objs.size f cdv)) -> sp vs H Q E ->
   ∃ t,PSs (cxOf CX P w K mg base N qual scope f cdv A outer s H E) body t /\ t { nx:=fun _ H'=>Q .non H',rt:=Q } (start N vs) H) :
  FnOk P w K mg base CX (k + 1) f (PySem.W.fnOf name qual params body scope dV kV doc pm an cdv ct) ps sp:=by
 refine ⟨len,fun A outer s H args us vs Q E hr e0 hb r hsp=>?_⟩
 have hl:=len _ _ _ _ hsp
 have KX:K.In s.heap:=e0.mod.kin.keeps fun b o e=>(e0.bs b o e).1
 have lim:s.heap.NoLimit:=e0.mod.nolimit.keeps fun b o e=>(e0.bs b o e).1
 have hkind:∀ y ∈ ps.zip us,scope.names.lookup y.1 = some .local \/ (scope.names.lookup y.1 = some .cell /\ ((cellsFrom (s.heap.objs.size + 1) scope.names []).lookup y.1).isSome = true):=fun ⟨n,v⟩ hy=>by
  rcases S.par n (List.of_mem_zip hy).1 with q | q
  ·exact .inl q
  ·exact .inr ⟨q,PySem.W.cellsFrom_some _ _ _ (.inl q)⟩
 refine codeAny_call_function hr.depth (KX _ _ lk) rfl S.co S.gen rfl (PySem.W.codeRec_of KX hcd) (hb _ _ _ _ ?_)
 refine wpAny_newFunctionEnv_cells S.kind hkind fun env he s1 x=>?_
 subst he
 refine ⟨lim.keeps x.toInCall.keep,codeAny_func ?_⟩
 obtain ⟨t,ht,hq⟩:=hbody A outer s H vs Q E (hr.deeper _) hsp
 have I:Inv (cxOf CX P w K mg base N qual scope f cdv A outer s H E) [] (start N vs) H s1:=inv_start S hr.hd e0 hl r x
 refine wpAny_mono (ht [] s1 (start N vs) H _ I hq) (fun fl s' hs=>?_) fun e s' hs=>hs
 have fin:∀ {σ':St} {H':Hp} {v:V} {u:Value},Inv (cxOf CX P w K mg base N qual scope f cdv A outer s H E) [] σ' H' s' -> RelV v u -> Q v H' -> CE outer P w H s Q u s' :=
  fun {σ' H' v u} J rv q=>⟨v,H',J.os,J.bare,J.base,J.hok,rv,q⟩
 cases fl with
 | ret u =>
  obtain ⟨v,σ',H',J,rv,q⟩:=hs
  exact fin J rv q
 | next =>
  obtain ⟨σ',H',J,q⟩:=hs
  exact fin (v:=V.non) (u:=Value.none) J rfl q
 | brk =>
  obtain ⟨_,_,_,q⟩:=hs
  exact False.elim q
 | cont =>
  obtain ⟨_,_,_,q⟩:=hs
  exact False.elim q
end L2
namespace L2
open PySem PySem.Spec PyProof.Rows
section
variable {X:Cx} {x:Str} {p pos:Pos} {e:Expr} {es:List Expr} {t:TA} {id T:String} {r:List V -> Hp -> VK -> Prop}
def tCB (r:List V -> Hp -> VK -> Prop) (t:TA):TE:=fun σ H Q=>t σ H fun vs H1=>r vs H1 Q
theorem pe_callB (hc:CallR X (.builtin id) r) (hg:Gl X x) (hm:X.mg x = none) (hv:bootBuiltins x = some (.builtin id)) (ha:PA X (e :: es) t) (hn:x ≠ "__name__" := by decide) (hdb:(x == ("__debug__" : Str)) = false:=by decide)
  (he:starEach (e :: es) X.env = (false,eval e X.env) :: starEach es X.env:=by rfl) (hpl:(backTo pos (starEach es X.env)).any (·.1) = false:=by rfl):PE X (.Call (.Name x p) (e :: es) [] pos) (tCB r t):=by
 intro pins s σ H Q I h
 refine wpAny_Call_Name_kw (ld_blt I hg hm hv ?_ hn hdb)
 exact PyProof.Rows.callWith_builtin1 (thn (ha pos pins s σ H _ I h) fun us s1 ⟨vs,H1,I1,r1,q1⟩=>hc pins s1 σ H1 vs us Q I1 r1 q1) he hpl
theorem pe_callTy (hc:CallR X (.type T) r) (hg:Gl X x) (hm:X.mg x = none) (hv:bootBuiltins x = some (.type T)) (ha:PA X (e :: es) t) (hn:x ≠ "__name__" := by decide) (hdb:(x == ("__debug__" : Str)) = false:=by decide)
  (he:starEach (e :: es) X.env = (false,eval e X.env) :: starEach es X.env:=by rfl) (hpl:(backTo pos (starEach es X.env)).any (·.1) = false:=by rfl):PE X (.Call (.Name x p) (e :: es) [] pos) (tCB r t):=by
 intro pins s σ H Q I h
 refine wpAny_Call_Name_kw (ld_blt I hg hm hv ?_ hn hdb)
 exact PyProof.Rows.callWith_type1 (thn (ha pos pins s σ H _ I h) fun us s1 ⟨vs,H1,I1,r1,q1⟩=>hc pins s1 σ H1 vs us Q I1 r1 q1) he hpl
end
end L2
namespace HT
open PySem PyProof.Rows
section
open PySem.SeqAt
open PySem.AutoSeq1 (wpAny_loadPart')
open PySem.MeetsSeq PySem.MeetsSeq2 PySem.MeetsSeq3
end
section
variable {prog:Program} {w:World} {A:Around} {E:Value -> Shared -> Prop} {s:Shared}
theorem cat_tup {t b:Addr} {vs ws:List Value} {Q:Value -> Shared -> Prop} (ht:IsTup s.heap t vs.toArray) (hb:IsTup s.heap b ws.toArray) (hv:vs ≠ [])
  (h1:ws = [] -> Q (.ref t) s) (h2:ws ≠ [] -> Q (.ref s.heap.objs.size) { s with heap:=s.heap.push { cls:=.type "tuple",data:=.seq (vs ++ ws).toArray } })
  (hsz:vs.length + ws.length <= sizeLine):wpAny (model prog w) A (binaryOp .Add (.ref t) (.ref b)) Q E s:=by
 obtain ⟨⟨cls,dd,data,sl⟩,ho,hc,n,hd⟩:=id ht
 obtain ⟨⟨cls2,dd2,data2,sl2⟩,ho2,hc2,n2,hd2⟩:=id hb
 simp only at hc hd hc2 hd2
 subst hc hd hc2 hd2
 have e:vs.toArray ++ ws.toArray = (vs ++ ws).toArray:=by simp
 by_cases hw:ws = []
 ·exact concat_meets ⟨_,ho,rfl⟩ ⟨_,ho2,rfl⟩ noFill_tuple_add seq_tuple_add PySem.F.slot_tuple_add PySem.F.entry_tuple_add (PySem.F.args_tuple_add_2 _ _)
   (tuple_addW1 t b vs.toArray ws.toArray n n2 dd dd2 sl sl2 (by simpa using hv) (by simp [hw])) ⟨ho,ho2,h1 hw⟩
 ·refine concat_meets ⟨_, ho, rfl⟩ ⟨_, ho2, rfl⟩ noFill_tuple_add seq_tuple_add PySem.F.slot_tuple_add PySem.F.entry_tuple_add (PySem.F.args_tuple_add_2 _ _)
   (tuple_addW2 t b vs.toArray ws.toArray n n2 dd dd2 sl sl2 (by simpa using hv) (by simpa using hw) (by rw [List.size_toArray,List.size_toArray]; exact hsz)) ⟨ho,ho2,?_⟩
  rw [e]
  exact h2 hw
def sIx (n d:Nat):Option Int -> Nat
 | none=>d
 | some v=>if v < 0 then (v + (n:Int)).toNat else min v.toNat n
theorem sIx_none (n d:Nat):sIx n d none = d:=rfl
theorem sIx_nat (n d k:Nat):sIx n d (some (k:Int)) = min k n:=by
 show (if (k:Int) < 0 then ((k:Int) + (n:Int)).toNat else min (k:Int).toNat n) = min k n
 rw [if_neg (by lia),Int.toNat_natCast]
theorem sIx_le (n d:Nat) (hd:d <= n) (o:Option Int):sIx n d o <= n:=by
 cases o with
 | none=>exact hd
 | some v =>
  show (if v < 0 then (v + (n:Int)).toNat else min v.toNat n) <= n
  by_cases hv:v < 0
  ·rw [if_pos hv]; lia
  ·rw [if_neg hv]; exact Nat.min_le_right _ _
theorem clip_eq (v:Int) (n d:Nat):(if v < 0 then max (v + (n:Int)) 0 else min v (n:Int)) = ((sIx n d (some v):Nat):Int):=by
 show (if v < 0 then max (v + (n:Int)) 0 else min v (n:Int)) = (((if v < 0 then (v + (n:Int)).toNat else min v.toNat n):Nat):Int)
 by_cases hv:v < 0
 ·simp only [if_pos hv]; lia
 ·simp only [if_neg hv]; lia
theorem adjust_gen (lo hi:Option Int) (n:Nat):Builtin.Slice.sliceAdjust lo hi 1 (n:Int) = (((sIx n 0 lo:Nat):Int),((sIx n n hi:Nat):Int)):=by
 have h1:¬ ((1:Int) < 0):=by lia
 unfold Builtin.Slice.sliceAdjust
 simp only [h1,if_false]
 refine Prod.ext ?_ ?_
 ·cases lo with
  | none=>rfl
  | some v=>exact clip_eq v n 0
 ·cases hi with
  | none=>rfl
  | some v=>exact clip_eq v n n
theorem places_gen (i j:Nat):Builtin.Slice.slicePlaces (i:Int) (j:Int) 1 = j - i:=by
 unfold Builtin.Slice.slicePlaces
 have h1:(1:Int) > 0:=by lia
 simp only [h1,if_true,Int.ediv_one]
 split <;> lia
theorem slicePart_ {v:Value} {o:Option Int} {Q:Option Int -> Shared -> Prop} (p:IsPart v o) (h:Q o s):wpAny (model prog w) A (Builtin.Slice.slicePartIndex v) Q E s:=by
 cases p with
 | none=>exact slicePart_none h
 | int i t=>exact slicePart_int h
theorem sliceApplied_gen {sl:Addr} {vl vu:Value} {lo hi:Option Int} {n:Nat} {Q:Int × Int × Nat -> Shared -> Prop} (hs:s.heap.IsSliceOf sl vl vu .none) (pl:IsPart vl lo) (pu:IsPart vu hi)
  (h:Q (((sIx n 0 lo:Nat):Int),1,sIx n n hi - sIx n 0 lo) s):wpAny (model prog w) A (Builtin.Slice.sliceApplied (.ref sl) (pure (n:Int))) Q E s:=by
 obtain ⟨os,hos,hcs,hds⟩:=id hs
 unfold Builtin.Slice.sliceApplied Builtin.Slice.sliceFields
 refine wpAny_bind (wpAny_bind (wpAny_field hos hds (x:=vl) rfl (wpAny_bind (wpAny_field hos hds (x:=vu) rfl (wpAny_bind (wpAny_field hos hds (x:=.none) rfl (wpAny_pure ?_)))))))
 refine wpAny_bind (slicePart_none ?_)
 show wpAny _ _ (if ((1:Int) == 0) = true then _ else _) _ _ s
 rw [if_neg (by decide)]
 refine wpAny_bind (slicePart_ pl (wpAny_bind (slicePart_ pu (wpAny_bind (wpAny_pure ?_)))))
 show wpAny _ _ (match Builtin.Slice.sliceAdjust lo hi 1 (n:Int) with | (lo,hi)=>pure (lo,(1:Int),Builtin.Slice.slicePlaces lo hi 1)) _ _ s
 rw [adjust_gen lo hi n]
 show wpAny _ _ (pure (((sIx n 0 lo:Nat):Int),(1:Int),Builtin.Slice.slicePlaces ((sIx n 0 lo:Nat):Int) ((sIx n n hi:Nat):Int) 1)) _ _ s
 rw [places_gen]
 exact wpAny_pure h
theorem pick_gen (xs:Array Value) (i k:Nat):((List.range k).filterMap fun (m:Nat)=>xs[((i:Int) + (m:Int) * 1).toNat]?).toArray = ((xs.toList.drop i).take k).toArray:=by
 have e:(fun (m:Nat)=>xs[((i:Int) + (m:Int) * 1).toNat]?) = fun m=>xs[i + m]?:=by
  funext m
  have:((i:Int) + (m:Int) * 1).toNat = i + m:=by lia
  rw [this]
 rw [e]
 have:=pick_run xs i k
 rw [List.filterMap_map] at this
 have e2:((fun x=>xs[x]?) ∘ fun x=>i + x) = fun m=>xs[i + m]?:=rfl
 rw [e2] at this
 rw [this]
theorem getItem_tuple_cut {t sl:Addr} {items:Array Value} {vl vu:Value} {lo hi:Option Int} {Q:Value -> Shared -> Prop} (ht:IsTup s.heap t items) (hs:s.heap.IsSliceOf sl vl vu .none) (pl:IsPart vl lo) (pu:IsPart vu hi)
  (hw:¬ (sIx items.size 0 lo = 0 /\ sIx items.size items.size hi = items.size))
  (h:Q (.ref s.heap.objs.size) { s with heap:=s.heap.push { cls:=.type "tuple",data:=.seq ((items.toList.drop (sIx items.size 0 lo)).take (sIx items.size items.size hi - sIx items.size 0 lo)).toArray } })
  (hsz:items.size <= sizeLine):wpAny (model prog w) A (getItem (.ref t) (.ref sl)) Q E s:=by
 have htake:sizeOk (.seq ((items.toList.drop (sIx items.size 0 lo)).take (sIx items.size items.size hi - sIx items.size 0 lo)).toArray):=by
  show ((items.toList.drop (sIx items.size 0 lo)).take (sIx items.size items.size hi - sIx items.size 0 lo)).toArray.size <= sizeLine
  rw [List.size_toArray,List.length_take,List.length_drop,Array.length_toList]
  lia
 have hj:sIx items.size items.size hi <= items.size:=sIx_le _ _ (Nat.le_refl _) hi
 obtain ⟨os,hos,hcs,hds⟩:=id hs
 have hTs:s.TypeIs (.ref sl) "slice" := ⟨os,hos,hcs⟩
 unfold getItem
 try with_reducible refine wpAny_holding ?_
 first | refine wpAny_bind (wpAny_pure ?_) | skip
 refine wpAny_bind (wpAny_sequenceKey ht.typeIs (by decide) ?_)
 refine wpAny_bind (wpAny_callSpecial?_slot (name:=Str.ofString "__getitem__") ht.typeIs PyProof.Rows.slot_tuple_getitem
  (wpAny_call_entry PyProof.Rows.slot_tuple_getitem ht.typeIs entry_tuple_getitem ?_ (args_tuple_getitem _ _)))
 show wpAny _ _ (Builtin.Tuple.tupleItemsOf (.ref t) >>= _) _ _ s
 refine wpAny_bind (tupleItemsOf_ ht ?_)
 refine wpAny_bind (wpAny_typeOf hTs ?_)
 rw [if_pos (by decide)]
 refine wpAny_bind (sliceApplied_gen hs pl pu ?_)
 have hno:¬ ((((sIx items.size 0 lo:Nat):Int) == 0 && (1:Int) == 1 && (sIx items.size items.size hi - sIx items.size 0 lo) == items.size) = true):=by
  intro q
  rw [Bool.and_eq_true,Bool.and_eq_true] at q
  have q1:((sIx items.size 0 lo:Nat):Int) = 0:=eq_of_beq q.1.1
  have q2:sIx items.size items.size hi - sIx items.size 0 lo = items.size:=eq_of_beq q.2
  exact hw ⟨by lia,by lia⟩
 show wpAny _ _ (if (((sIx items.size 0 lo:Nat):Int) == 0 && (1:Int) == 1 && (sIx items.size items.size hi - sIx items.size 0 lo) == items.size) = true then _ else _) _ _ s
 rw [if_neg hno,pick_gen]
 first
  | exact wpAny_bind (m:=Builtin.Tuple.tupleExact _) (wpAny_newObj_type (wpAny_pure ⟨_,rfl,wpAny_pure h⟩) htake)
  | exact wpAny_bind (m:=Builtin.Tuple.tupleExact _) (wpAny_newObj_type (wpAny_bind (wpAny_pure (wpAny_pure ⟨_,rfl,wpAny_pure h⟩))) htake)
  | exact wpAny_bind (wpAny_bind (m:=Builtin.Tuple.tupleExact _) (wpAny_newObj_type (wpAny_pure (wpAny_pure ⟨_,rfl,wpAny_pure h⟩)) htake))
  | exact wpAny_bind (wpAny_bind (m:=Builtin.Tuple.tupleExact _) (wpAny_newObj_type (wpAny_pure ⟨_,rfl,wpAny_pure h⟩) htake))
end
end HT
namespace L2
open PySem PySem.Spec PyProof.Rows
abbrev TO:=St -> Hp -> (Option Int -> Hp -> Prop) -> Prop
def PO (X:Cx) (e:Option Expr) (t:TO):Prop :=
 ∀ (pins:List (Addr × Obj)) (s:Shared) (σ:St) (H:Hp) (Q:Option Int -> Hp -> Prop),Inv X pins σ H s -> t σ H Q ->
  wpAny (model X.prog X.w) X.A (evalPart e X.env) (fun u s'=>∃ o H',Inv X pins σ H' s' /\ IsPart u o /\ Q o H') X.xe s
def tNoPart:TO:=fun _ H Q=>Q none H
def tPart (t:TE):TO:=fun σ H Q=>t σ H fun x H1=>∃ i,x = .int i /\ Q (some i) H1
section
variable {X:Cx} {e:Expr} {te:TE} {lo hi:Option Expr} {tl th:TO} {pos p2:Pos}
theorem po_none:PO X none tNoPart:=by
 intro pins s σ H Q I h
 rw [evalPart_none]
 exact wpAny_pure ⟨none,H,I,.none,h⟩
theorem po_some (h:PE X e te):PO X (some e) (tPart te):=by
 intro pins s σ H Q I hw
 rw [evalPart_some]
 refine thn (h pins s σ H _ I hw) fun u s1 ⟨x,H1,I1,r1,q1⟩=>?_
 obtain ⟨i,rfl,q⟩:=q1
 obtain ⟨t,rfl⟩:=r1
 exact ⟨some i,H1,I1,.int i t,q⟩
def SlR (X:Cx) (r:V -> Option Int -> Option Int -> Hp -> VK -> Prop):Prop :=
 ∀ (pins:List (Addr × Obj)) (s:Shared) (σ:St) (H:Hp) (x:V) (v vl vu:Value) (lo hi:Option Int) (sl:Addr) (Q:VK),Inv X pins σ H s -> RelV x v -> s.heap.IsSliceOf sl vl vu .none -> IsPart vl lo -> IsPart vu hi -> r x lo hi H Q ->
  ∃ T id,typeLookup (.type T) "__getitem__" = pure (some (.builtin id)) /\ s.TypeIs v T /\ wpAny (model X.prog X.w) X.A (getItem v (.ref sl)) (EP X pins σ Q) X.xe s
def tSl (r:V -> Option Int -> Option Int -> Hp -> VK -> Prop) (te:TE) (tl th:TO):TE:=fun σ H Q=>te σ H fun x H1=>tl σ H1 fun l H2=>th σ H2 fun u H3=>r x l u H3 Q
theorem pe_slice {r:V -> Option Int -> Option Int -> Hp -> VK -> Prop} (hr:SlR X r) (he:PE X e te) (hl:PO X lo tl) (hu:PO X hi th):PE X (.Subscript e (.Slice lo hi none p2) pos) (tSl r te tl th):=by
 intro pins s σ H Q I h
 refine Subscript_ (thn (he pins s σ H _ I h) fun v s1 ⟨x,H1,I1,r1,q1⟩=>?_)
 refine wpAny_Slice (thn (hl pins s1 σ H1 _ I1 q1) fun vl s2 ⟨l,H2,I2,pl,q2⟩=>thn (hu pins s2 σ H2 _ I2 q2) fun vu s3 ⟨u,H3,I3,pu,q3⟩=>?_)
 rw [evalPart_none]
 refine wpAny_pure ?_
 have I4:Inv X pins σ H3 { s3 with heap:=s3.heap.push { cls:=.type "slice",data:=.fields #[vl,vu,.none] } }:=I3.kept (t':=s3.toks) fun b ob q=>Heap.get?_push_of_some _ q
 obtain ⟨T,id,hT,ht,hg⟩:=hr pins { s3 with heap:=s3.heap.push { cls:=.type "slice",data:=.fields #[vl,vu,.none] } } σ H3 x v vl vu l u s3.heap.objs.size Q I4 r1 (Heap.IsSliceOf.new ..) pl pu q3
 show wpAny (model X.prog X.w) X.A (subscriptTail e (.Slice lo hi none p2) v (.ref s3.heap.objs.size)) (EP X pins σ Q) X.xe { s3 with heap:=s3.heap.push { cls:=.type "slice",data:=.fields #[vl,vu,.none] } }
 exact tail_any (ops:=[.ref s3.heap.objs.size,v]) ht hT hg (by with_unfolding_all rfl)
def cutV (xs:List V) (lo hi:Option Int):List V:=(xs.drop (HT.sIx xs.length 0 lo)).take (HT.sIx xs.length xs.length hi - HT.sIx xs.length 0 lo)
theorem cutV_length (xs:List V) (lo hi:Option Int):(cutV xs lo hi).length <= xs.length:=by
 unfold cutV
 rw [List.length_take,List.length_drop]
 lia
def rSlT (K:PySem.W.Frag):V -> Option Int -> Option Int -> Hp -> VK -> Prop:=fun x lo hi H Q=>∃ a xs,x = .ref a /\ SqT K H a xs /\
 ¬ (HT.sIx xs.length 0 lo = 0 /\ HT.sIx xs.length xs.length hi = xs.length) /\ ∀ p,H p = none -> Q (.ref p) (upd H p (.tup (cutV xs lo hi)))
theorem sl_tup:SlR X (rSlT X.K):=by
 intro pins s σ H x v vl vu lo hi sl Q I rx hs pl pu h
 obtain ⟨a,xs,rfl,hx,hw,q⟩:=h
 cases rx
 obtain ⟨its,r,ht,hz⟩:=I.tuple hx
 have hlen:its.toArray.size = xs.length:=by rw [List.size_toArray]; exact r.length.symm
 refine ⟨"tuple",_,PyProof.Rows.slot_tuple_getitem.lookup,ht.typeIs,?_⟩
 refine HT.getItem_tuple_cut ht hs pl pu (by rw [hlen]; exact hw) ?_ (by rw [hlen]; exact hz)
 rw [hlen]
 refine ⟨.ref s.heap.objs.size,_,I.laid (t':=s.toks) (o:=.tup (cutV xs lo hi)) (fun b ob q=>Heap.get?_push_of_some _ q) (Nat.le_refl _) ?_,rfl,q _ (I.hok.fresh (Nat.le_refl _))⟩
 exact ⟨Nat.le_trans (cutV_length xs lo hi) hz,_,(r.drop (HT.sIx xs.length 0 lo)).take (HT.sIx xs.length xs.length hi - HT.sIx xs.length 0 lo),IsTup.new _ _⟩
def rCatT (K:PySem.W.Frag):R2:=fun x y H Q=>∃ a b xs ys,x = .ref a /\ y = .ref b /\ SqT K H a xs /\ SqT K H b ys /\ xs ≠ [] /\ xs.length + ys.length <= sizeLine /\
 (ys = [] -> Q (.ref a) H) /\ (ys ≠ [] -> ∀ p,H p = none -> Q (.ref p) (upd H p (.tup (xs ++ ys))))
theorem Vals.nil_iff {xs:List V} {us:List Value} (r:Vals xs us):us = [] ↔ xs = []:=by
 cases r with
 | nil=>simp
 | cons _ _=>simp
theorem op_catT:OpR X (binaryOp .Add) (rCatT X.K):=by
 intro pins s σ H x y v u Q I rx ry h
 obtain ⟨a,b,xs,ys,rfl,rfl,ha,hb,hx,hz,q1,q2⟩:=h
 cases rx
 cases ry
 obtain ⟨its,r1,p1,_⟩:=I.tuple ha
 obtain ⟨its2,r2,p2,_⟩:=I.tuple hb
 refine HT.cat_tup p1 p2 (fun z=>hx (r1.nil_iff.mp z)) (fun z=>⟨.ref a,H,I,rfl,q1 (r2.nil_iff.mp z)⟩) (fun z=>?_) (by rw [<- r1.length,<- r2.length]; exact hz)
 refine ⟨.ref s.heap.objs.size,_,I.laid (t':=s.toks) (o:=.tup (xs ++ ys)) (fun b ob q=>Heap.get?_push_of_some _ q) (Nat.le_refl _) ?_,rfl,q2 (fun w=>z (r2.nil_iff.mpr w)) _ (I.hok.fresh (Nat.le_refl _))⟩
 exact ⟨by rw [List.length_append]; exact hz,_,r1.append r2,IsTup.new _ _⟩
end
end L2
namespace L2
open PySem PySem.Spec PyProof.Rows
def ixN (n:Nat) (i:Int):Option Nat:=if 0 <= i then (if i < n then some i.toNat else none) else if -(n:Int) <= i then some (i + n).toNat else none
def atI {α:Type} (xs:List α) (i:Int):Option α:=(ixN xs.length i).bind fun j=>xs[j]?
theorem ixN_seq {n:Nat} {i:Int} {j:Nat} (h:ixN n i = some j):seqIndex? i n = some j /\ j < n /\ -(n:Int) <= i /\ i < n:=by
 unfold ixN at h
 by_cases h0:0 <= i
 ·rw [if_pos h0] at h
  by_cases h1:i < n
  ·rw [if_pos h1] at h
   have e:i.toNat = j:=Option.some.inj h
   exact ⟨by rw [seqIndex_of h0 h1,e],by lia,by lia,h1⟩
  ·rw [if_neg h1] at h; cases h
 ·rw [if_neg h0] at h
  by_cases h1:-(n:Int) <= i
  ·rw [if_pos h1] at h
   have e:(i + n).toNat = j:=Option.some.inj h
   exact ⟨by rw [seqIndex_neg (by lia) h1,e],by lia,h1,by lia⟩
  ·rw [if_neg h1] at h; cases h
theorem atI_get {α:Type} {xs:List α} {i:Int} {v:α} (h:atI xs i = some v):∃ j,seqIndex? i xs.length = some j /\ xs[j]? = some v /\ j < xs.length /\ -(xs.length:Int) <= i /\ i < xs.length:=by
 unfold atI at h
 cases e:ixN xs.length i with
 | none=>rw [e] at h; cases h
 | some j =>
  rw [e] at h
  obtain ⟨h1,h2,h3,h4⟩:=ixN_seq e
  exact ⟨j,h1,h,h2,h3,h4⟩
theorem atI_nat {α:Type} {xs:List α} {j:Nat} {v:α} (h:xs[j]? = some v):atI xs (j:Int) = some v:=by
 have hj:j < xs.length:=(List.getElem?_eq_some_iff.mp h).1
 have e:ixN xs.length (j:Int) = some j:=by
  unfold ixN
  rw [if_pos (by lia),if_pos (by lia)]; simp
 unfold atI; rw [e]; exact h
def PlainIx (b:Expr):Prop:=∀ o i,subscripted b false o i = operate [o,i] (getItem o i)
def IxR (X:Cx) (r:R2):Prop :=
 ∀ (value slice:Expr) (pins:List (Addr × Obj)) (s:Shared) (σ:St) (H:Hp) (x y:V) (v u:Value) (Q:VK),Inv X pins σ H s -> RelV x v -> RelV y u -> r x y H Q ->
  subscripted slice false v u = operate [v,u] (getItem v u) -> wpAny (model X.prog X.w) X.A (subscriptTail value slice v u) (EP X pins σ Q) X.xe s
def MtR (X:Cx) (id:String) (r:V -> List V -> Hp -> VK -> Prop):Prop :=
 ∀ (pins:List (Addr × Obj)) (s:Shared) (σ:St) (H:Hp) (x:V) (xs:List V) (v:Value) (us:List Value) (Q:VK),Inv X pins σ H s -> RelV x v -> Vals xs us -> r x xs H Q ->
  wpAny (model X.prog X.w) X.A (call (.builtin id) (v :: us)) (EP X pins σ Q) X.xe s
section
variable {X:Cx} {a b:Expr} {ta tb:TE} {pos:Pos}
theorem IxR.or {r r':R2} (h:IxR X r) (h':IxR X r'):IxR X (fun x y H Q=>r x y H Q \/ r' x y H Q):=by
 intro value slice pins s σ H x y v u Q I rx ry q hs
 rcases q with q | q
 ·exact h value slice pins s σ H x y v u Q I rx ry q hs
 ·exact h' value slice pins s σ H x y v u Q I rx ry q hs
theorem pe_ix {r:R2} (hr:IxR X r) (ha:PE X a ta) (hb:PE X b tb) (hs:PlainIx b):PE X (.Subscript a b pos) (tOp r ta tb):=by
 intro pins s σ H Q I h
 exact Subscript_ (binT ha hb I h fun v u s2 x y H2 I2 rx ry q=>hr a b pins s2 σ H2 x y v u Q I2 rx ry q (hs _ _))
def rIxL (K:PySem.W.Frag):R2:=fun x y H Q=>∃ p xs i v,x = .ref p /\ y = .int i /\ SqL K H p xs /\ atI xs i = some v /\ Q v H
def rIxT (K:PySem.W.Frag):R2:=fun x y H Q=>∃ p xs i v,x = .ref p /\ y = .int i /\ SqT K H p xs /\ atI xs i = some v /\ Q v H
def rIxS:R2:=fun x y H Q=>∃ z i c,x = .str z /\ y = .int i /\ z.length <= sizeLine /\ atI z.cps.toList i = some c /\ Q (.str ⟨#[c]⟩) H
theorem ix_list:IxR X (rIxL X.K):=by
 intro value slice pins s σ H x y v u Q I rx ry h hs
 obtain ⟨p,xs,i,z,rfl,rfl,hq,he,q⟩:=h
 cases rx
 obtain ⟨t,rfl⟩:=ry
 obtain ⟨its,r,pl,hz⟩:=I.list hq
 obtain ⟨j,h1,h2,h3,h4,h5⟩:=atI_get he
 obtain ⟨w,ew,rw'⟩:=r.get h2
 have hl:=r.length
 have hn:=line63
 have fin:EP X pins σ Q w s:=⟨z,H,I,rw',q⟩
 by_cases h0:0 <= i
 ·have hj : i.toNat = j := by
   rw [seqIndex_of h0 h5] at h1
   exact Option.some.inj h1
  exact item_listR pl.isList h0 (by lia) (by rw [hj]; simpa using ew) fin hs
 ·have hj : (i + (its.toArray.size : Int)).toNat = j := by
   rw [seqIndex_neg (by lia) h4] at h1
   rw [List.size_toArray,<- hl]
   exact Option.some.inj h1
  exact subscriptTail_builtinR (x:=w) pl.isList.typeIs slot_list_getitem.lookup
   (wpAny_getItem_list_neg (Q:=fun r s'=>r = w /\ EP X pins σ Q r s') pl.isList (by lia) (by rw [List.size_toArray] <;> lia) (by lia) (by rw [hj]; simpa using ew) ⟨rfl,fin⟩) hs
theorem ix_tup:IxR X (rIxT X.K):=by
 intro value slice pins s σ H x y v u Q I rx ry h hs
 obtain ⟨p,xs,i,z,rfl,rfl,hq,he,q⟩:=h
 cases rx
 obtain ⟨t,rfl⟩:=ry
 obtain ⟨its,r,pl,hz⟩:=I.tuple hq
 obtain ⟨j,h1,h2,h3,h4,h5⟩:=atI_get he
 obtain ⟨w,ew,rw'⟩:=r.get h2
 have hl:=r.length
 have hn:=line63
 have fin:EP X pins σ Q w s:=⟨z,H,I,rw',q⟩
 exact subscriptTail_builtinR (x:=w) pl.typeIs slot_tuple_getitem.lookup
  (getItem_tuple (j:=j) (Q:=fun r s'=>r = w /\ EP X pins σ Q r s') pl (by lia) (by lia) (by rw [List.size_toArray,<- hl]; exact h1) (by simpa using ew) ⟨rfl,fin⟩) hs
theorem ix_str:IxR X rIxS:=by
 intro value slice pins s σ H x y v u Q I rx ry h hs
 obtain ⟨z,i,c,rfl,rfl,hz,he,q⟩:=h
 obtain ⟨t,rfl⟩:=rx
 obtain ⟨t',rfl⟩:=ry
 obtain ⟨j,h1,h2,h3,h4,h5⟩:=atI_get he
 have hl:z.cps.toList.length = z.length:=by simp [Str.length]
 rw [hl] at h1 h4 h5
 have hn:=line63
 exact tail_any (typeIs_str s z t) slot_str_getitem.lookup (getItem_str (c:=c) (by
  have e1:decide (i < -(2 ^ 63:Int)) = false:=decide_eq_false (by lia)
  have e2:decide (i >= 2 ^ 63) = false:=decide_eq_false (by lia)
  rw [e1,e2,Bool.or_false]) (by rw [h1]; simpa using h2) ⟨.str ⟨#[c]⟩,H,I.tok _,⟨_,rfl⟩,q⟩) hs
def rIx (K:PySem.W.Frag):R2:=fun x y H Q=>rIxL K x y H Q \/ rIxT K x y H Q \/ rIxS x y H Q
theorem ix_seq:IxR X (rIx X.K):=ix_list.or (ix_tup.or ix_str)
theorem mapSeq_set (its:List Value) (n j:Nat) (u:Value):Obj.mapSeq (·.setIfInBounds j u) { cls:=.type "list",data:=.seq its.toArray n } = { cls:=.type "list",data:=.seq (its.set j u).toArray n }:=by
 simp [Obj.mapSeq]
theorem Inv.lst {pins:List (Addr × Obj)} {σ:St} {H:Hp} {s:Shared} {p:Addr} {xs:List V} (I:Inv X pins σ H s) (h:H p = some (.lst xs)) :
  ∃ (its:List Value) (n:Nat),Vals xs its /\ s.heap.get? p = some { cls:=.type "list",data:=.seq its.toArray n } /\ xs.length <= sizeLine:=by
 obtain ⟨z,its,n,r,e⟩:=I.hok p _ h
 exact ⟨its,n,r,e,z⟩
theorem Inv.lstUpd {pins:List (Addr × Obj)} {σ:St} {H:Hp} {s:Shared} {p:Addr} {xs ys:List V} {its its':List Value} {n n':Nat} {f:Obj -> Obj} (I:Inv X pins σ H s) (h:H p = some (.lst xs))
  (ho:s.heap.get? p = some { cls:=.type "list",data:=.seq its.toArray n }) (hf:f { cls:=.type "list",data:=.seq its.toArray n } = { cls:=.type "list",data:=.seq its'.toArray n' }) (r:Vals ys its') (hz:ys.length <= sizeLine) (t:Nat) :
  Inv X pins σ (upd H p (.lst ys)) { s with heap:=s.heap.update p f,toks:=t }:=by
 have e:(s.heap.update p f).get? p = some { cls:=.type "list",data:=.seq its'.toArray n' }:=by
  rw [Heap.get?_update_self f ho (by rw [hf] <;> rfl),hf]
 refine I.write (x:=p) (e:=p) (by rw [h]; trivial) (.inl rfl) (fun b u hb q=>(Heap.get?_update_other _ _ (Ne.symm hb)).trans q) ⟨_,e⟩ ?_
 exact ⟨hz,its',n',r,e⟩
def rSetL:V -> V -> V -> Hp -> (Hp -> Prop) -> Prop:=fun o i v H Q=>∃ p xs k j,o = .ref p /\ i = .int k /\ H p = some (.lst xs) /\ ixN xs.length k = some j /\ Q (upd H p (.lst (xs.set j v)))
theorem set_list:PSet X rSetL:=by
 intro pins s σ H o i v ov iv u Q I ro ri rv h
 obtain ⟨p,xs,k,j,rfl,rfl,hp,hj,q⟩:=h
 cases ro
 obtain ⟨t,rfl⟩:=ri
 obtain ⟨its,n,r,ho,hz⟩:=I.lst hp
 obtain ⟨h1,h2,h3,h4⟩:=ixN_seq hj
 have hl:=r.length
 have hn:=line63
 have I':Inv X pins σ (upd H p (.lst (xs.set j v))) { s with heap:=s.heap.update p (Obj.mapSeq (·.setIfInBounds j u)) } :=
  I.lstUpd hp ho (mapSeq_set its n j u) (r.set rv j) (by rw [List.length_set]; exact hz) s.toks
 by_cases h0:0 <= k
 ·have hk : k.toNat = j := by
   rw [seqIndex_of h0 h4] at h1
   exact Option.some.inj h1
  exact PySem.W.ki_setAt ho h0 (by lia) (by rw [List.size_toArray,<- hl]; exact h4) (by rw [hk]; exact ⟨_,I',q⟩)
 ·have hk : (k + (its.toArray.size : Int)).toNat = j := by
   rw [seqIndex_neg (by lia) h3] at h1
   rw [List.size_toArray,<- hl]
   exact Option.some.inj h1
  exact PySem.W.ki_setBack ho (by lia) (by rw [List.size_toArray,<- hl]; exact h3) (by lia) (by rw [hk]; exact ⟨_,I',q⟩)
theorem slice_bounds (lo hi:Option Int) (n:Nat):(sliceBounds lo hi none n).1 = ((HT.sIx n 0 lo:Nat):Int) /\ (sliceBounds lo hi none n).2.1 = ((HT.sIx n n hi:Nat):Int) /\ (sliceBounds lo hi none n).2.2 = 1:=by
 refine ⟨?_,?_,rfl⟩
 ·cases lo with
  | none=>simp [sliceBounds,HT.sIx]
  | some i =>
   simp only [sliceBounds,HT.sIx,Option.getD_none,show (1:Int) > 0 by decide,if_true]
   by_cases h:i < 0
   ·simp only [h,if_true] <;> lia
   ·simp only [h,if_false] <;> lia
 ·cases hi with
  | none=>simp [sliceBounds,HT.sIx]
  | some i =>
   simp only [sliceBounds,HT.sIx,Option.getD_none,show (1:Int) > 0 by decide,if_true]
   by_cases h:i < 0
   ·simp only [h,if_true] <;> lia
   ·simp only [h,if_false] <;> lia
theorem slicePick_cut (its:List Value) (lo hi:Option Int):slicePick its.toArray lo hi none = ((its.drop (HT.sIx its.length 0 lo)).take (HT.sIx its.length its.length hi - HT.sIx its.length 0 lo)).toArray:=by
 obtain ⟨h1,h2,h3⟩:=slice_bounds lo hi its.toArray.size
 unfold slicePick
 rw [h1,h2,h3]
 simp only [sliceRange_one,pick_run,List.size_toArray] <;> rfl
def rSlL (K:PySem.W.Frag):V -> Option Int -> Option Int -> Hp -> VK -> Prop:=fun x lo hi H Q=>∃ a xs,x = .ref a /\ SqL K H a xs /\ ∀ p,H p = none -> Q (.ref p) (upd H p (.lst (cutV xs lo hi)))
theorem sl_list:SlR X (rSlL X.K):=by
 intro pins s σ H x v vl vu lo hi sl Q I rx hs pl pu h
 obtain ⟨a,xs,rfl,hx,q⟩:=h
 cases rx
 obtain ⟨its,r,ht,hz⟩:=I.list hx
 have hlen:=r.length
 refine ⟨"list",_,slot_list_getitem.lookup,ht.isList.typeIs,?_⟩
 refine wpAny_getItem_list_slice ht.isList hs pl pu .none (by simp) ?_ (by rw [List.size_toArray] <;> lia)
 rw [slicePick_cut,<- hlen]
 refine ⟨.ref s.heap.objs.size,_,I.laid (t':=s.toks) (o:=.lst (cutV xs lo hi)) (fun b ob q=>Heap.get?_push_of_some _ q) (Nat.le_refl _) ?_,rfl,q _ (I.hok.fresh (Nat.le_refl _))⟩
 exact ⟨Nat.le_trans (cutV_length xs lo hi) hz,_,0,(r.drop (HT.sIx xs.length 0 lo)).take (HT.sIx xs.length xs.length hi - HT.sIx xs.length 0 lo),Heap.get?_push_size _ rfl⟩
def flatV:V -> Bool
 | .non=>true
 | .bl _=>true
 | .int _=>true
 | .str _=>true
 | _=>false
def eqV:V -> V -> Bool
 | .non,.non=>true
 | .bl a,.bl b=>a == b
 | .bl a,.int b=>(if a then 1 else 0) == b
 | .int a,.bl b=>a == (if b then 1 else 0)
 | .int a,.int b=>a == b
 | .str a,.str b=>a == b
 | _,_=>false
theorem eqAt_V {A:Around} {s:Shared} {y x:V} {u v:Value} (ry:RelV y u) (rx:RelV x v) (fy:flatV y = true) (fx:flatV x = true):SeqAt.EqAt A s u v (eqV y x):=by
 cases y with
 | non =>
  cases ry
  cases x with
  | non=>cases rx; exact SeqAt.EqAt.same _
  | bl b=>cases rx; exact SeqAt.EqAt.none_bool b
  | int b=>obtain ⟨t,rfl⟩:=rx; exact SeqAt.EqAt.none_int b t
  | str b=>obtain ⟨t,rfl⟩:=rx; exact SeqAt.EqAt.none_str b t
  | _=>exact absurd (show false = true from fx) Bool.false_ne_true
 | bl a =>
  cases ry
  cases x with
  | non=>cases rx; exact SeqAt.EqAt.bool_none a
  | bl b=>cases rx; exact SeqAt.EqAt.bool_bool a b
  | int b=>obtain ⟨t,rfl⟩:=rx; exact SeqAt.EqAt.bool_int a b t
  | str b=>obtain ⟨t,rfl⟩:=rx; exact SeqAt.EqAt.bool_str a b t
  | _=>exact absurd (show false = true from fx) Bool.false_ne_true
 | int a =>
  obtain ⟨t',rfl⟩:=ry
  cases x with
  | non=>cases rx; exact SeqAt.EqAt.int_none a t'
  | bl b=>cases rx; exact SeqAt.EqAt.int_bool a t' b
  | int b=>obtain ⟨t,rfl⟩:=rx; exact SeqAt.EqAt.int_int a t' b t
  | str b=>obtain ⟨t,rfl⟩:=rx; exact SeqAt.EqAt.int_str a t' b t
  | _=>exact absurd (show false = true from fx) Bool.false_ne_true
 | str a =>
  obtain ⟨t',rfl⟩:=ry
  cases x with
  | non=>cases rx; exact SeqAt.EqAt.str_none a t'
  | bl b=>cases rx; exact SeqAt.EqAt.str_bool a t' b
  | int b=>obtain ⟨t,rfl⟩:=rx; exact SeqAt.EqAt.str_int a t' b t
  | str b=>obtain ⟨t,rfl⟩:=rx; exact SeqAt.EqAt.str_str a t' b t
  | _=>exact absurd (show false = true from fx) Bool.false_ne_true
 | _=>exact absurd (show false = true from fy) Bool.false_ne_true
def eqU (x:V) (u:Value):Bool:=match u with
 | .none=>eqV .non x
 | .bool b=>eqV (.bl b) x
 | .int i _=>eqV (.int i) x
 | .str z _=>eqV (.str z) x
 | _=>false
theorem eqU_of {x y:V} {u:Value} (r:RelV y u) (f:flatV y = true):eqU x u = eqV y x:=by
 cases y with
 | non=>cases r; rfl
 | bl b=>cases r; rfl
 | int i=>obtain ⟨t,rfl⟩:=r; rfl
 | str z=>obtain ⟨t,rfl⟩:=r; rfl
 | _=>exact absurd (show false = true from f) Bool.false_ne_true
theorem any_eqU {x:V}:∀ {xs:List V} {us:List Value},Vals xs us -> xs.all flatV = true -> us.any (eqU x) = xs.any fun y=>eqV y x
 | _,_,.nil,_=>rfl
 | y :: xs,u :: us,.cons r t,f=>by
  rw [List.all_cons,Bool.and_eq_true] at f
  rw [List.any_cons,List.any_cons,eqU_of r f.1,any_eqU t f.2]
theorem mem_eqAt {A:Around} {s:Shared} {x:V} {v:Value} (rx:RelV x v) (fx:flatV x = true):∀ {xs:List V} {us:List Value},Vals xs us -> xs.all flatV = true -> ∀ u ∈ us,SeqAt.EqAt A s u v (eqU x u)
 | _,_,.nil,_=>fun u hu=>by cases hu
 | y :: xs,u :: us,.cons r t,f=>fun u' hu=>by
  rw [List.all_cons,Bool.and_eq_true] at f
  rcases List.mem_cons.mp hu with rfl | hu
  ·rw [eqU_of r f.1]; exact eqAt_V r rx f.1 fx
  ·exact mem_eqAt rx fx t f.2 u' hu
def inV (x:V) (xs:List V):Bool:=xs.any fun y=>eqV y x
def rIn (K:PySem.W.Frag) (neg:Bool):R2:=fun x y H Q=>∃ p xs,y = .ref p /\ (SqL K H p xs \/ SqT K H p xs) /\ flatV x = true /\ xs.all flatV = true /\ Q (.bl (if neg then !inV x xs else inV x xs)) H
theorem op_in_seq:OpR X (compareOp .In) (rIn X.K false):=by
 intro pins s σ H x y v u Q I rx ry h
 obtain ⟨p,xs,rfl,hq,fx,fs,q⟩:=h
 cases ry
 rcases hq with hq | hq
 ·obtain ⟨its, r, pl, hz⟩ := I.list hq
  refine SeqAt.in_listAt (eqU x) pl.isList (fun w hw=>mem_eqAt rx fx r fs w (by simpa using hw)) ⟨.bl _,H,I,rfl,?_⟩
  rw [show its.toArray.any (eqU x) = its.any (eqU x) by simp,any_eqU r fs]
  exact q
 ·obtain ⟨its, r, pl, hz⟩ := I.tuple hq
  refine SeqAt.in_tupleAt (eqU x) pl (fun w hw=>mem_eqAt rx fx r fs w (by simpa using hw)) ⟨.bl _,H,I,rfl,?_⟩
  rw [show its.toArray.any (eqU x) = its.any (eqU x) by simp,any_eqU r fs]
  exact q
theorem op_notIn_seq:OpR X (compareOp .NotIn) (rIn X.K true):=by
 intro pins s σ H x y v u Q I rx ry h
 obtain ⟨p,xs,rfl,hq,fx,fs,q⟩:=h
 cases ry
 rcases hq with hq | hq
 ·obtain ⟨its, r, pl, hz⟩ := I.list hq
  refine SeqAt.notIn_listAt (eqU x) pl.isList (fun w hw=>mem_eqAt rx fx r fs w (by simpa using hw)) ⟨.bl _,H,I,rfl,?_⟩
  rw [show its.toArray.any (eqU x) = its.any (eqU x) by simp,any_eqU r fs]
  exact q
 ·obtain ⟨its, r, pl, hz⟩ := I.tuple hq
  refine SeqAt.notIn_tupleAt (eqU x) pl (fun w hw=>mem_eqAt rx fx r fs w (by simpa using hw)) ⟨.bl _,H,I,rfl,?_⟩
  rw [show its.toArray.any (eqU x) = its.any (eqU x) by simp,any_eqU r fs]
  exact q
theorem call_len_seq:CallR X (.builtin "len") (fun xs H Q=>∃ p ys,xs = [.ref p] /\ (SqL X.K H p ys \/ SqT X.K H p ys) /\ Q (.int ys.length) H):=by
 intro pins s σ H xs us Q I r h
 obtain ⟨p,ys,rfl,hq,q⟩:=h
 obtain ⟨u,rfl,rx⟩:=vals1 r
 cases rx
 have hn:=line63
 rcases hq with hq | hq
 ·obtain ⟨its, r', pl, hz⟩ := I.list hq
  have hlen:=r'.length
  exact Calls.call_len_list pl.isList (by simp only [List.size_toArray] <;> lia) ⟨.int ys.length,H,I.tok _,⟨s.toks + 1,by rw [List.size_toArray,hlen]⟩,q⟩
 ·obtain ⟨its, r', pl, hz⟩ := I.tuple hq
  have hlen:=r'.length
  exact len_tuple pl (by simp only [List.size_toArray] <;> lia) ⟨.int ys.length,H,I.tok _,⟨s.toks + 1,by rw [List.size_toArray,hlen]⟩,q⟩
theorem call_tuple_of:CallR X (.type "tuple") (fun xs H Q=>∃ p ys,xs = [.ref p] /\ ((SqL X.K H p ys /\ ∀ l,H l = none -> Q (.ref l) (upd H l (.tup ys))) \/ (SqT X.K H p ys /\ Q (.ref p) H))):=by
 intro pins s σ H xs us Q I r h
 obtain ⟨p,ys,rfl,h⟩:=h
 obtain ⟨u,rfl,rx⟩:=vals1 r
 cases rx
 rcases h with ⟨hq,q⟩ | ⟨hq,q⟩
 ·obtain ⟨its, r', pl, hz⟩ := I.list hq
  have hlen:=r'.length
  refine call_tuple_list pl.isList (fun h' kp=>?_) (by simp only [List.size_toArray] <;> lia)
  have I1:Inv X pins σ H { s with heap:=h' }:=I.kept (t':=s.toks) kp
  have I2:Inv X pins σ (upd H h'.objs.size (.tup ys)) { s with heap:=h'.push { cls:=.type "tuple",data:=.seq its.toArray } } :=
   I1.laid (t':=s.toks) (fun b o e=>Heap.get?_push_of_some _ e) (Nat.le_refl _) (show ObjOk X.prog X.w _ _ _ (.tup ys) from ⟨hz,its,r',IsTup.new _ _⟩)
  exact ⟨.ref h'.objs.size,_,I2,rfl,q _ (I1.hok.fresh (Nat.le_refl _))⟩
 ·obtain ⟨its, r', pl, hz⟩ := I.tuple hq
  exact call_tuple_same pl ⟨.ref p,H,I,rfl,q⟩
def tyV (K:PySem.W.Frag) (T:String) (x:V) (H:Hp):Prop:=match x with
 | .str _=>T = "str"
 | .int _=>T = "int"
 | .ref p => (T = "list" /\ ∃ xs, SqL K H p xs) \/ (T = "tuple" /\ ∃ o, K.lookup p = some o /\ o.cls = .type "tuple" /\ o.dict = none) \/
   (T = "dict" /\ ((∃ kvs,H p = some (.dK kvs)) \/ ∃ kvs,H p = some (.dT kvs))) \/ (T = "set" /\ ∃ S n,H p = some (.set S n))
 | _=>False
theorem tyV_is {pins:List (Addr × Obj)} {σ:St} {H:Hp} {s:Shared} {T:String} {x:V} {v:Value} (I:Inv X pins σ H s) (r:RelV x v) (ty:tyV X.K T x H) :
  s.TypeIs v T /\ ∀ a,v = .ref a -> ∃ ob,s.heap.get? a = some ob /\ ob.dict = none:=by
 cases x with
 | str z =>
  obtain ⟨t,rfl⟩:=r
  cases (show T = "str" from ty)
  exact ⟨typeIs_str s z t,fun _ e=>nomatch e⟩
 | int i =>
  obtain ⟨t,rfl⟩:=r
  cases (show T = "int" from ty)
  exact ⟨typeIs_int s i t,fun _ e=>nomatch e⟩
 | ref p =>
  cases r
  rcases ty with ⟨rfl,xs,hq⟩ | ⟨rfl,o,hk,hc,hd⟩ | ⟨rfl,hk⟩ | ⟨rfl,S,n,hk⟩
  ·obtain ⟨its, _, pl, _⟩ := I.list hq
   refine ⟨pl.isList.typeIs,fun a e=>?_⟩
   cases e
   obtain ⟨o,n,e,c,hd,_⟩:=pl
   exact ⟨o,e,hd⟩
  ·refine ⟨⟨o, I.kIn p o hk, hc⟩, fun a e => ?_⟩
   cases e
   exact ⟨o,I.kIn _ o hk,hd⟩
  ·have z : ∃ o, s.heap.get? p = some o /\ o.ExactDict := by
    rcases hk with ⟨kvs,hk⟩ | ⟨kvs,hk⟩
    ·obtain ⟨_, _, _, _, o, _, _, e, ex, _⟩ := I.hok p _ hk
     exact ⟨o,e,ex⟩
    ·obtain ⟨_, _, _, _, o, _, _, e, ex, _⟩ := I.hok p _ hk
     exact ⟨o,e,ex⟩
   obtain ⟨o,e,ex⟩:=z
   refine ⟨⟨o,e,ex.1⟩,fun a e2=>?_⟩
   cases e2
   exact ⟨o,e,ex.2.1⟩
  ·obtain ⟨o, _, _, _, e, ex, _⟩ := I.hok p _ hk
   refine ⟨⟨o,e,ex.1⟩,fun a e2=>?_⟩
   cases e2
   exact ⟨o,e,ex.2.1⟩
 | _=>exact False.elim ty
def tBM (K:PySem.W.Frag) (T:String) (r:V -> List V -> Hp -> VK -> Prop) (to:TE) (t:TA):TE:=fun σ H Q=>to σ H fun x H1=>tyV K T x H1 /\ t σ H1 fun xs H2=>r x xs H2 Q
variable {o e:Expr} {es:List Expr} {to:TE} {t:TA} {name:Str} {apos cpos:Pos} {T id:String} {r:V -> List V -> Hp -> VK -> Prop}
theorem pe_bm (pa:PlainAttrs T) (slot:Slot T name id) (hty:typeOf (.builtin id) = pure (.type "method_descriptor")) (hm:MtR X id r) (ho:PE X o to) (ha:PA X (e :: es) t)
  (hbase:attributeBase o name X.env (eval o X.env) = eval o X.env:=by rfl)
  (hfew : ((backTo cpos (starEach (e :: es) X.env)).all (fun x => !x.1) && (backToKw cpos (keywordEach [] X.env)).all (fun x => x.1.isSome)
   && decide ((e :: es).length + ([]:List Keyword).length + (if ([]:List Keyword).isEmpty then 0 else 1) < 30)) = true:=by rfl)
  (hline:(apos.endLine == cpos.line) = true:=by rfl) (hs:starEach (e :: es) X.env = (false,eval e X.env) :: starEach es X.env:=by rfl) (hplain:(backTo cpos (starEach es X.env)).any (·.1) = false:=by rfl) :
  PE X (.Call (.Attribute o name apos) (e :: es) [] cpos) (tBM X.K T r to t):=by
 intro pins s σ H Q I h
 refine wpAny_Call_method_late hbase hfew hline rfl (thn (ho pins s σ H _ I h) fun v s1 ⟨x,H1,I1,r1,ty,q1⟩=>?_)
 obtain ⟨h1,h2⟩:=tyV_is I1 r1 ty
 refine ⟨T,id,pa,slot,hty,h1,h2,?_⟩
 have hA:=ha cpos pins s1 σ H1 _ I1 q1
 rw [hs] at hA ⊢
 refine Calls.callWith_builtin (by show (false || (backTo cpos (starEach es X.env)).any (·.1)) = false; rw [hplain] <;> rfl) (Calls.evalArgs_plain ?_)
 exact thn hA fun us s2 ⟨vs,H2,I2,r2,q2⟩=>hm pins s2 σ H2 x vs v us Q I2 r1 r2 q2
end
end L2
namespace L2
open PySem PySem.Spec PyProof.Rows
def MtM (X:Cx) (id:String) (r:V -> List V -> Hp -> VK -> Prop):Prop :=
 ∀ (pins:List (Addr × Obj)) (s:Shared) (σ:St) (H:Hp) (x:V) (xs:List V) (v:Value) (us:List Value) (Q:VK),Inv X pins σ H s -> RelV x v -> Vals xs us -> r x xs H Q ->
  wpAny (model X.prog X.w) X.A (call (.builtin id) (v :: us)) (EP X pins σ Q) X.xe s
theorem Vals.one:∀ {x:V} {us:List Value},Vals [x] us -> ∃ u,us = [u] /\ RelV x u
 | _,_,.cons r .nil=>⟨_,rfl,r⟩
section
variable {X:Cx} {pins:List (Addr × Obj)} {σ:St} {H:Hp} {s:Shared} {l b:Addr} {xs ys zs:List V}
theorem Inv.lset {its its':List Value} {n:Nat} {f:Array Value -> Array Value} {t':Nat} (I:Inv X pins σ H s) (hH:H l = some (.lst xs))
  (e:s.heap.get? l = some { cls:=.type "list",data:=.seq its.toArray n }) (hf:f its.toArray = its'.toArray) (hv:Vals ys its') (hz:ys.length <= sizeLine) :
  Inv X pins σ (upd H l (.lst ys)) { s with heap:=s.heap.update l (Obj.mapSeq f),toks:=t' }:=by
 have q:=PySem.IsL.update e f
 rw [hf] at q
 refine I.write (x:=l) (e:=l) (by rw [hH]; exact trivial) (.inl rfl) (fun b' u hb hu=>(Heap.get?_update_other s.heap (Obj.mapSeq f) (Ne.symm hb)).trans hu) ⟨_,q⟩ ?_
 exact ⟨hz,its',_,hv,q⟩
theorem Inv.lnew {its:List Value} {t':Nat} (I:Inv X pins σ H s) (hv:Vals ys its) (hz:ys.length <= sizeLine) :
  Inv X pins σ (upd H s.heap.objs.size (.lst ys)) { s with heap:=s.heap.push { cls:=.type "list",data:=.seq its.toArray },toks:=t' } :=
 I.laid (fun _ _ q=>Heap.get?_push_of_some _ q) (Nat.le_refl _) ⟨hz,its,0,hv,Heap.get?_push_size _ rfl⟩
theorem Inv.fresh (I:Inv X pins σ H s):H s.heap.objs.size = none:=I.hok.fresh (Nat.le_refl _)
theorem Inv.lstM (I:Inv X pins σ H s) (hH:H l = some (.lst xs)):xs.length <= sizeLine /\ ∃ (its:List Value) (n:Nat),Vals xs its /\ xs.length = its.length /\ s.heap.get? l = some { cls:=.type "list",data:=.seq its.toArray n }:=by
 obtain ⟨z,its,n,r,e⟩:=I.hok l _ hH
 exact ⟨z,its,n,r,r.length,e⟩
end
section
variable {X:Cx}
def rAppend:V -> List V -> Hp -> VK -> Prop:=fun x vs H Q=>∃ l xs y,x = .ref l /\ vs = [y] /\ H l = some (.lst xs) /\ xs.length < sizeLine /\ Q .non (upd H l (.lst (xs ++ [y])))
theorem mt_append:MtM X "list.append" rAppend:=by
 intro pins s σ H x vs v us Q I rx rv h
 obtain ⟨l,xs,y,rfl,rfl,hH,hz,q⟩:=h
 cases rx
 obtain ⟨u,rfl,ru⟩:=rv.one
 obtain ⟨z,its,n,r,hl,e⟩:=I.lstM hH
 refine call_meets F.slot_list_append ⟨_,e,rfl⟩ F.entry_list_append (F.args_list_append_2 _ _) (PySem.list_append l its.toArray n u (by rw [List.size_toArray]; lia)) ⟨e,?_⟩
 refine ⟨.non,_,I.lset (its':=its ++ [u]) hH e (by simp) (r.append (.cons ru .nil)) ?_,rfl,q⟩
 rw [List.length_append,List.length_singleton]
 lia
def rCat:R2:=fun x y H Q=>∃ l b xs zs,x = .ref l /\ y = .ref b /\ H l = some (.lst xs) /\ H b = some (.lst zs) /\ xs.length + zs.length <= sizeLine /\ ∀ p,H p = none -> Q (.ref p) (upd H p (.lst (xs ++ zs)))
theorem op_cat:OpR X (binaryOp .Add) rCat:=by
 intro pins s σ H x y v u Q I rx ry h
 obtain ⟨l,b,xs,zs,rfl,rfl,hH,hB,hz,q⟩:=h
 cases rx
 cases ry
 obtain ⟨z,its,n,r,hl,e⟩:=I.lstM hH
 obtain ⟨z2,its2,n2,r2,hl2,e2⟩:=I.lstM hB
 refine PySem.P.add_list e e2 ?_ (by rw [List.size_toArray,List.size_toArray]; lia)
 have ea:its.toArray ++ its2.toArray = (its ++ its2).toArray:=by simp
 rw [ea]
 exact ⟨.ref _,_,I.lnew (t':=s.toks) (r.append r2) (by rw [List.length_append]; lia),rfl,q _ I.fresh⟩
end
section
variable {prog:Program} {w:World} {A:Around} {E:Value -> Shared -> Prop} {s:Shared}
end
section
variable {X:Cx}
end
end L2
namespace Att
open PySem PySem.W PySem.Calls PyProof.Rows
theorem ints_of_wellAll {P:Params} {h:Heap}:∀ (ns:List Int) (vs:List Value),WellAll P h vs (ns.map WData.int) -> IntsAre vs ns:=by
 intro ns
 induction ns with
 | nil =>
  intro vs w
  rw [List.map_nil] at w
  cases w
  exact .nil
 | cons n ns ih =>
  intro vs w
  rw [List.map_cons] at w
  cases w with
  | cons a b =>
   cases a
   exact .cons _ _ (ih _ b)
theorem script_of {l:OpenLaw} {n:Nat} (hn:l.most = some n) {P:Params} {h:Heap} {args:List WData} {vals:List Value}
  (hpre:l.row.toRowW.claim.pre args = true) (hwl:WellAll P h vals args) :
  ∃ a vs ns,vals = [Value.ref a] /\ args = [WData.list (ns.map WData.int)] /\ h.get? a = some { cls:=.type "list",data:=.seq vs.toArray } /\ IntsAre vs ns /\ ns.length <= n:=by
 have hsh:WShape.hasAll [] args [.list .int] = true:=(pre_splitW hpre).1
 have hc:l.pre.holds [] { args:=args } = true:=(pre_splitW hpre).2
 obtain ⟨d,r,rfl,h1,h2⟩:=hasAllW_cons hsh
 obtain rfl:=hasAllW_nil h2
 obtain ⟨xs,rfl,h3⟩:=hasW_list h1
 obtain ⟨ns,rfl⟩:=items_int h3
 have hlen:ns.length <= n:=by
  unfold OpenLaw.pre at hc
  have h4:(WTm.not (.lt (.lit (.int (n:Int))) (.len (.arg 0)))).holds [] { args:=[.list (ns.map .int)] } = true:=by
   have h4:=(holds_andW hc).1
   rw [hn] at h4
   exact h4
  have h5:=condW_of h4 (w_not (w_lt w_lit (w_len_list (w_arg rfl))))
  rw [List.length_map] at h5
  refine Nat.le_of_not_lt fun q=>?_
  have q':(n:Int) < ((ns.length:Nat):Int):=by lia
  first
   | (rw [decide_eq_true q'] at h5; exact absurd h5 (by decide))
   | (simp at h5; lia)
 cases hwl with
 | cons w1 w2 =>
  cases w2
  cases w1 with
  | list ho hall=>exact ⟨_,_,ns,rfl,rfl,ho,ints_of_wellAll ns _ hall,hlen⟩
theorem post_true (l:OpenLaw) (args:List WData):l.row.toRowW.claim.post args (.bool true) args = true :=
 postW_of (r:=l.row.toRowW) (X:=(true == true))
  (show WShape.has [] (.bool true) .bool = true by first | rfl | decide | simp [WShape.has,WShape.arms,WShape.armsAll])
  (show (WTm.eq .res (.lit (.bool true))).value [] { args:=args,res:=some (.bool true),after:=args } = some (.bool (true == true)) from w_eq_bool (w_res rfl) w_lit) rfl
theorem attach_call {l:OpenLaw} {n:Nat} {q:Program} {loose:List Str} {XP:(Str -> Option Value) -> Heap -> Prop} {YP:World -> Heap -> Prop} {d:DefRec}
  (hn:l.most = some n) (hdf:d.params.defaults = [])
  (call : ∀ (w : World) (s₀ s₁ : Shared) (mg mb : Str -> Option Value) (fa : Addr) (o : Obj) (pm cd doc : Value) (a : Addr) (vs : List Value) (ns : List Int),
   Ground q loose [] XP w s₀ mg mb s₁.heap -> YP w s₁.heap ->
   s₁.heap.get? fa = some o -> o.data = .func (docDef d.name d.params d.body d.scope pm cd doc) -> s₁.heap.CodeRec cd d.name -> mg d.name = some (.ref fa) ->
   s₁.heap.get? a = some { cls:=.type "list",data:=.seq vs.toArray } -> IntsAre vs ns -> ns.length <= n -> s₁.gens = #[] ->
   codeAny (model l.prog w) callerA (.call (.ref fa) ⟨[.ref a],[]⟩) (fun r s'=>r = .ok (.ret (.bool true)) /\ OldK s₁.heap s'.heap /\ s'.os = s₁.os /\ AllBare s'.gens) s₁) :
  WalkO q loose XP YP l.row.toRowW d [] (fun f vs=>PySem.call f vs):=by
 intro w s₀ s₁ mg mb G Y fa o pm cd doc dV kV ho hd hcd hD hmg hg args vals as hpre hlay hrd hwl hlo
 obtain rfl:dV = .none:=Dflts.none hD hdf
 obtain rfl:kV = .none:=Dflts.noKw hD
 obtain ⟨a,vs,ns,rfl,rfl,hobj,hints,hlen⟩:=script_of hn hpre hwl
 refine enter_call (codeAny_mono (call w s₀ s₁ mg mb fa o pm cd doc a vs ns G Y ho (fd_plain hd) hcd hmg hobj hints hlen hg) fun r s' hq=>?_)
 obtain ⟨rfl,h2,h3,h4⟩:=hq
 exact ⟨.inl ⟨.bool true,.bool true,[],rfl,fun _=>rfl,.bool true,post_true l _,fun _=>⟨List.Pairwise.nil,fun _ hm=>(nomatch hm)⟩⟩,h2,h3,h4⟩
section
variable {prog:Program} {w:World} {A:Around} {E:Value -> Shared -> Prop} {s:Shared} {K:Frag}
end
end Att
namespace L2
open PySem PySem.Spec PyProof.Rows
theorem vals_ints:∀ {vs:List Value} {ns:List Int},IntsAre vs ns -> Vals (ns.map V.int) vs
 | _,_,.nil=>.nil
 | _,_,.cons n t h=>.cons ⟨t,rfl⟩ (vals_ints h)
def Only (H:Hp):Prop:=∀ b,H b = none \/ ∃ o xs,H b = some (.frz o (.lst xs))
end L2
namespace L2
open PySem PySem.Spec PyProof.Rows
end L2
namespace L2
open PySem PySem.Spec PyProof.Rows
def defArgs (s:Stmt):Arguments:=match s with
 | .FunctionDef _ a _ _ _ _ _ _ _ _=>a
 | _=>{ posonlyargs:=[],args:=[],vararg:=none,kwonlyargs:=[],kw_defaults:=[],kwarg:=none,defaults:=[] }
def defBody (s:Stmt):List Stmt:=match s with
 | .FunctionDef _ _ b _ _ _ _ _ _ _=>b
 | _=>[]
def defScope (s:Stmt):Scope:=match s with
 | .FunctionDef _ _ _ _ _ _ sc _ _ _=>sc
 | _=>{ kind:=.function,names:=[],isGenerator:=false,isCoroutine:=false }
abbrev CX0:CXT:=fun _ _ _ _ _ _=>False
abbrev E0:XK:=fun _ _ _=>False
theorem pass0 {X:Cx}:Passes CX0 X E0:=fun _ _ _ _ _ _ _ h=>h.elim
structure Fun (K:PySem.W.Frag) (x qual:Str) (st:Stmt) (f:Addr) (fd:FuncData):Prop where
 ex:∃ (oc:Value) (od:Option Addr) (kV doc pm:Value) (an:Option Addr) (cdv ct:Value) (osl:Array (Option Value)),
  fd = PySem.W.fnOf x qual (defArgs st) (defBody st) (defScope st) .none kV doc pm an cdv ct /\ K.lookup f = some ⟨oc,od,.func fd,osl⟩ /\ PySem.W.codeIn K cdv qual = true
 kp:PySem.W.keepIn K (.ref f) = true
section
variable {P:Program} {w:World} {K:PySem.W.Frag} {mg:Str -> Option Value} {base:Heap}
theorem Fun.ok {x qual:Str} {st:Stmt} {f:Addr} {fd:FuncData} {N ps:List Str} {k:Nat} {sp:Sp} (F:Fun K x qual st f fd) (S:FnScope N ps (defScope st)) (len:∀ vs H Q E,sp vs H Q E -> vs.length = ps.length)
  (hbody : ∀ (cdv : Value) (A : Around) (outer : List Env) (s : Shared) (H : Hp) (vs : List V) (Q : VK) (E : XK), Room k (A.deeper (envOfC qual (defScope st) s.heap.objs.size f cdv)) -> sp vs H Q E ->
   ∃ t,PSs (cxOf CX0 P w K mg base N qual (defScope st) f cdv A outer s H E).nox (defBody st) t /\ t { nx:=fun _ H'=>Q .non H',rt:=Q } (start N vs) H):FnOk P w K mg base CX0 (k + 1) f fd ps sp:=by
 obtain ⟨oc,od,kV,doc,pm,an,cdv,ct,osl,rfl,lk,hcd⟩:=F.ex
 refine fn_of lk hcd S len fun A outer s H vs Q E hr hsp=>?_
 obtain ⟨t,h,q⟩:=hbody cdv A outer s H vs Q E hr hsp
 exact ⟨t,h.nox,q⟩
theorem Fun.binds {x qual:Str} {st:Stmt} {f:Addr} {fd:FuncData} {ps:List Str} (F:Fun K x qual st f fd)
  (h:∀ (kV doc pm:Value) (an:Option Addr) (cdv ct:Value) (us:List Value),us.length = ps.length -> bindArgs (PySem.W.fnOf x qual (defArgs st) (defBody st) (defScope st) .none kV doc pm an cdv ct) ⟨us,[]⟩ = pure (ps.zip us)):Binds K fd ps []:=by
 obtain ⟨oc,od,kV,doc,pm,an,cdv,ct,osl,rfl,lk,hcd⟩:=F.ex
 exact .all (h kV doc pm an cdv ct)
theorem fun_mk {x qual:Str} {st:Stmt} {f:Addr} {oc:Value} {od an:Option Addr} {osl:Array (Option Value)} {kV doc pm cdv ct:Value} (l:K.lookup f = some ⟨oc,od,.func (PySem.W.fnOf x qual (defArgs st) (defBody st) (defScope st) .none kV doc pm an cdv ct),osl⟩)
  (c:PySem.W.codeIn K cdv qual = true) (k:PySem.W.keepIn K (.ref f) = true):Fun K x qual st f (PySem.W.fnOf x qual (defArgs st) (defBody st) (defScope st) .none kV doc pm an cdv ct):=⟨⟨oc,od,kV,doc,pm,an,cdv,ct,osl,rfl,l,c⟩,k⟩
end
theorem hu_of {A:Around} {k:Nat} (hr:Room k A):A.units + 1 < cLine:=Nat.lt_of_le_of_lt (Nat.add_le_add_left (by decide:1 <= 64) _) hr.units
section
variable {X:Cx}
end
end L2
set_option maxRecDepth 100000
namespace L2
open PySem
def closL (env:Env):List (Str × NameKind) -> List (Str × Addr) -> List (Str × Addr)
 | [],acc=>acc
 | y :: r,acc=>if y.2 == .free then closL env r ((y.1,(env.cells.lookup y.1).getD 0) :: acc) else closL env r acc
theorem closL_sub {env:Env}:∀ (l:List (Str × NameKind)) (acc:List (Str × Addr)),(∀ y ∈ l,y.2 = .free -> ∃ c,env.cells.lookup y.1 = some c) -> (∀ x c,acc.lookup x = some c -> env.cells.lookup x = some c) ->
  ∀ x c,(closL env l acc).lookup x = some c -> env.cells.lookup x = some c
 | [],acc,_,ha,x,c,h=>ha x c h
 | y :: r, acc, hf, ha, x, c, h => by
  unfold closL at h
  split at h
  ·rename_i hk
   have hk':y.2 = .free:=by simpa using hk
   obtain ⟨d,hd⟩:=hf y List.mem_cons_self hk'
   refine closL_sub r _ (fun z hz=>hf z (List.mem_cons_of_mem _ hz)) (fun z e hz=>?_) x c h
   rw [List.lookup_cons] at hz
   cases hb:z == y.1 with
   | true =>
    rw [hb,hd] at hz
    have e2:z = y.1:=by simpa using hb
    have e3:d = e:=by simpa using hz
    rw [e2,hd,e3]
   | false=>rw [hb] at hz; exact ha z e hz
  ·exact closL_sub r acc (fun z hz=>hf z (List.mem_cons_of_mem _ hz)) ha x c h
theorem closL_keep {env:Env} {x:Str}:∀ (l:List (Str × NameKind)) (acc:List (Str × Addr)),(∃ c,acc.lookup x = some c) -> ∃ c,(closL env l acc).lookup x = some c
 | [],acc,h=>h
 | y :: r, acc, h => by
  unfold closL
  split
  ·refine closL_keep r _ ?_
   rw [List.lookup_cons]
   cases hb:x == y.1 with
   | true=>exact ⟨_,rfl⟩
   | false=>exact h
  ·exact closL_keep r acc h
theorem closL_has {env:Env} {y:Str × NameKind} (hk:y.2 = .free):∀ (l:List (Str × NameKind)) (acc:List (Str × Addr)),y ∈ l -> ∃ c,(closL env l acc).lookup y.1 = some c
 | [],acc,h=>by simp at h
 | z :: r, acc, h => by
  unfold closL
  rcases List.mem_cons.mp h with rfl | h
  ·rw [if_pos (by rw [hk]; rfl)]
   exact closL_keep r _ ⟨_,List.lookup_cons_self⟩
  ·split
   ·exact closL_has hk r _ h
   ·exact closL_has hk r _ h
theorem clos_forIn {env:Env} (f:Str × NameKind -> List (Str × Addr) -> Sem (ForInStep (List (Str × Addr))))
  (hf:∀ y acc,f y acc = if y.2 == .free then (cellOf env y.1 >>= fun c=>pure (.yield ((y.1,c) :: acc))) else pure (.yield acc)) :
  ∀ (l:List (Str × NameKind)) (acc:List (Str × Addr)),(∀ y ∈ l,y.2 = .free -> ∃ c,env.cells.lookup y.1 = some c) -> forIn l acc f = (pure (closL env l acc):Sem _)
 | [],acc,_=>by rw [List.forIn_nil]; rfl
 | y :: r, acc, h => by
  have ih:=fun acc=>clos_forIn f hf r acc fun z hz=>h z (List.mem_cons_of_mem _ hz)
  rw [List.forIn_cons,hf]
  unfold closL
  split
  ·rename_i hk
   obtain ⟨c,hc⟩:=h y List.mem_cons_self (by simpa using hk)
   have e:cellOf env y.1 = pure c:=by unfold cellOf; rw [hc]
   rw [e,hc]
   exact ih _
  ·exact ih _
theorem clos_for {scope:Scope} {env:Env} (h:∀ y ∈ scope.names,y.2 = .free -> ∃ c,env.cells.lookup y.1 = some c):closureFor scope env = pure (closL env scope.names []):=by
 have e:=clos_forIn (env:=env) (fun x cs=>match x with | (name,kind)=>if (kind == NameKind.free) = true then (do let c <- cellOf env name; pure (.yield ((name,c) :: cs))) else pure (.yield cs)) (fun y acc=>rfl) scope.names [] h
 have e2:closureFor scope env = ((forIn scope.names [] (fun x cs=>match x with | (name,kind)=>if (kind == NameKind.free) = true then (do let c <- cellOf env name; pure (ForInStep.yield ((name,c) :: cs))) else pure (ForInStep.yield cs)):Sem (List (Str × Addr))) >>= fun cs=>pure cs):=rfl
 rw [e2,e]
 rfl
theorem relab_lookup {env:Env} {x:Str}:∀ (l:List (Str × NameKind)),
  (l.map fun (n, k) => if (k == NameKind.free && env.scope.kind == .function && env.kindOf n == some .cell) then (n, NameKind.cell) else (n, k)).lookup x =
   (l.lookup x).map fun k=>if (k == NameKind.free && env.scope.kind == .function && env.kindOf x == some .cell) then NameKind.cell else k
 | []=>rfl
 | (n, k) :: r => by
  have ih:=@relab_lookup env x r
  rw [List.map_cons]
  by_cases e:x = n
  ·subst e
   dsimp only
   split
   ·rename_i h; rw [List.lookup_cons_self,List.lookup_cons_self,Option.map_some,if_pos h]
   ·rename_i h; rw [List.lookup_cons_self,List.lookup_cons_self,Option.map_some,if_neg h]
  ·have e' : (x == n) = false := by simpa using e
   dsimp only
   split
   ·rw [List.lookup_cons,e',List.lookup_cons,e']; exact ih
   ·rw [List.lookup_cons,e',List.lookup_cons,e']; exact ih
theorem cf_all:∀ (l:List (Str × NameKind)) (h:Heap) (acc:List (Str × Addr)) (x:Str) (c:Addr),(cellsFrom h.objs.size l acc).lookup x = some c ->
  ((pushCells h l).IsCell c none /\ h.objs.size <= c /\ (x,NameKind.cell) ∈ l) \/ acc.lookup x = some c
 | [],_,_,_,_,e=>.inr e
 | (n, k) :: r, h, acc, x, c, e => by
  unfold cellsFrom at e
  unfold pushCells
  split at e
  ·rename_i hk
   have hk':k = .cell:=by simpa using hk
   rw [if_pos hk]
   have hz:(h.push { cls:=.type "cell",data:=.cell none }).objs.size = h.objs.size + 1:=Heap.size_push ..
   rw [<- hz] at e
   rcases cf_all r (h.push { cls:=.type "cell",data:=.cell none }) _ x c e with ⟨a,b,d⟩ | q
   ·exact .inl ⟨a,by rw [hz] at b; lia,List.mem_cons_of_mem _ d⟩
   ·rw [List.lookup_cons] at q
    cases hb:x == n with
    | false=>rw [hb] at q; exact .inr q
    | true =>
     rw [hb] at q
     have e1:h.objs.size = c:=by simpa using q
     have e2:x = n:=by simpa using hb
     subst e1 e2
     refine .inl ⟨?_,Nat.le_refl _,by rw [hk']; exact List.mem_cons_self⟩
     exact ⟨_,pushCells_keeps _ _ _ _ (Heap.get?_push_size _ rfl),rfl⟩
  ·rename_i hk
   rw [if_neg hk]
   rcases cf_all r h acc x c e with ⟨a,b,d⟩ | q
   ·exact .inl ⟨a,b,List.mem_cons_of_mem _ d⟩
   ·exact .inr q
theorem cf_inj:∀ (l:List (Str × NameKind)) (n:Nat) (acc:List (Str × Addr)),(∀ x y c,acc.lookup x = some c -> acc.lookup y = some c -> x = y) -> (∀ x c,acc.lookup x = some c -> c < n) ->
  ∀ x y c,(cellsFrom n l acc).lookup x = some c -> (cellsFrom n l acc).lookup y = some c -> x = y
 | [],_,_,hi,_,x,y,c,e,e'=>hi x y c e e'
 | (m, k) :: r, n, acc, hi, hl, x, y, c, e, e' => by
  unfold cellsFrom at e e'
  have one:∀ z d,((m,n) :: acc).lookup z = some d -> (z = m /\ d = n) \/ acc.lookup z = some d:=fun z d q=>by
   rw [List.lookup_cons] at q
   cases hb:z == m with
   | true=>rw [hb] at q; exact .inl ⟨by simpa using hb,by simpa using q.symm⟩
   | false=>rw [hb] at q; exact .inr q
  split at e
  ·rename_i hk
   rw [if_pos hk] at e'
   refine cf_inj r (n + 1) ((m,n) :: acc) (fun a b d q q'=>?_) (fun a d q=>?_) x y c e e'
   ·rcases one a d q with ⟨a1, a2⟩ | a1 <;> rcases one b d q' with ⟨b1, b2⟩ | b1
    ·rw [a1,b1]
    ·exact absurd (hl b d b1) (by rw [a2]; exact Nat.lt_irrefl _)
    ·exact absurd (hl a d a1) (by rw [b2]; exact Nat.lt_irrefl _)
    ·exact hi a b d a1 b1
   ·rcases one a d q with ⟨_, a2⟩ | a1
    ·rw [a2]; exact Nat.lt_succ_self _
    ·exact Nat.lt_succ_of_lt (hl a d a1)
  ·rename_i hk
   rw [if_neg hk] at e'
   exact cf_inj r n acc hi hl x y c e e'
theorem cf_keep {x:Str}:∀ (l:List (Str × NameKind)) (n:Nat) (acc:List (Str × Addr)),(∃ c,acc.lookup x = some c) -> ∃ c,(cellsFrom n l acc).lookup x = some c
 | [],_,_,h=>h
 | (m, k) :: r, n, acc, h => by
  unfold cellsFrom
  split
  ·refine cf_keep r _ _ ?_
   rw [List.lookup_cons]
   cases hb:x == m with
   | true=>exact ⟨_,rfl⟩
   | false=>exact h
  ·exact cf_keep r _ _ h
theorem cf_has {x:Str}:∀ (l:List (Str × NameKind)) (n:Nat) (acc:List (Str × Addr)),(x,NameKind.cell) ∈ l -> ∃ c,(cellsFrom n l acc).lookup x = some c
 | [],_,_,h=>by simp at h
 | (m, k) :: r, n, acc, h => by
  unfold cellsFrom
  rcases List.mem_cons.mp h with e | h
  ·cases e
   exact cf_keep r _ _ ⟨_,List.lookup_cons_self⟩
  ·split
   ·exact cf_has r _ _ h
   ·exact cf_has r _ _ h
theorem cf_ge {x : Str} : ∀ (l : List (Str × NameKind)) (n : Nat) (acc : List (Str × Addr)) (lo : Nat), lo <= n -> ((x, NameKind.cell) ∈ l \/ ∀ c, acc.lookup x = some c -> lo <= c) -> ∀ c, (cellsFrom n l acc).lookup x = some c -> lo <= c
  | [], n, acc, lo, hn, h, c, e => by
    rcases h with h | h
    · simp at h
    · exact h c e
  | (m, k) :: r, n, acc, lo, hn, h, c, e => by
    unfold cellsFrom at e
    split at e
    · rename_i hk
      refine cf_ge r (n + 1) ((m,n) :: acc) lo (by lia) ?_ c e
      rcases h with h | h
      · rcases List.mem_cons.mp h with z | z
        · cases z
          refine .inr fun d q=>?_
          rw [List.lookup_cons_self] at q
          have:n = d:=by simpa using q
          lia
        · exact .inl z
      · refine .inr fun d q => ?_
        rw [List.lookup_cons] at q
        cases hb:x == m with
        | true => rw [hb] at q; have : n = d := by simpa using q;
                  lia
        | false=>rw [hb] at q; exact h d q
    · rename_i hk
      refine cf_ge r n acc lo hn ?_ c e
      rcases h with h | h
      · rcases List.mem_cons.mp h with z | z
        · cases z; exact absurd rfl hk
        · exact .inl z
      · exact .inr h
section
variable {M:Model} {A:Around} {E:Value -> Shared -> Prop} {s:Shared}
theorem newEnv_comp {scope:Scope} {env:Env} {cl:List (Str × Addr)} {Q:Env -> Shared -> Prop}
  (h : Q (newEnv scope s.heap.objs.size env.globals (cellsFrom (s.heap.objs.size + 1) scope.names cl) env.qual none .none (some env) builtinsNs)
   { s with heap:=pushCells (s.heap.push { cls:=.type "dict",data:=.dict #[] }) scope.names }) :
  wpAny M A (newFunctionEnv scope env.globals cl [] env.qual none .none (some env)) Q E s:=by
 simp only [newFunctionEnv,Option.isSome_some,if_true]
 refine wpAny_bind (wpAny_alloc ?_)
 refine wpAny_bind (wpAny_layCells _ (fun name kind cells=>?_) _ _ _ _ ?_)
 ·cases hkc:kind == NameKind.cell <;> simp [hkc]
 ·rw [List.forIn_nil]
  refine wpAny_bind (wpAny_pure (wpAny_pure ?_))
  have hz:({ s with heap:=s.heap.push { cls:=.type "dict",data:=.dict #[] } }:Shared).heap.objs.size = s.heap.objs.size + 1:=Heap.size_push ..
  rw [hz]
  exact h
end
abbrev cTests (ifs:List Expr) (env:Env):Sem Bool:=forIn ifs true fun c r=>if r = true then do let ok <- isTrue c env (eval c env); pure (ForInStep.yield ok) else pure (ForInStep.yield r)
section
variable {prog:Program} {w:World} {A:Around} {R:Result -> Shared -> Prop} {s:Shared}
theorem comp_loop {elt target iter:Expr} {ifs:List Expr} {scope:Scope} {pos:Pos} {it acc:Value} {env:Env} (J:Nat -> Shared -> Prop)
  (turn : ∀ n s, J n s -> wpAny (model prog w) A (pyNext it) (fun r s1 => match r with
   | none=>R (.ok .next) s1
   | some v => wpAny (model prog w) A (letOwnedTupleGo target it v) (fun _ s2 => wpAny (model prog w) A (assign target env v) (fun _ s3 => wpAny (model prog w) A (cTests ifs env) (fun ok s4 =>
     if ok = true then wpAny (model prog w) A (eval elt env) (fun x s5=>wpAny (model prog w) A (call (.builtin "list.append") [acc,x]) (fun _ s6=>∃ m,m < n /\ J m s6) (fun _ _=>False) s5) (fun _ _=>False) s4
     else ∃ m,m < n /\ J m s4) (fun _ _=>False) s3) (fun _ _=>False) s2) (fun _ _=>False) s1) (fun _ _=>False) s)
  (n:Nat) (h:J n s):codeAny (model prog w) A (.compLoop (.ListComp elt [⟨target,iter,ifs,0⟩] scope pos) 0 it acc env) R s:=by
 refine codeAny_loop rfl J (fun n s hJ=>?_) n h
 show wpAny _ A ((compTurn (.ListComp elt [⟨target,iter,ifs,0⟩] scope pos) 0 it acc env).onRaise (fun x=>do noteFrame x env; theTreesLotGoes x)) _ _ s
 refine wpAny_noted ?_
 rw [compTurn_list]
 have up:∀ {α:Type} {t:Sem α} {Q Q':α -> Shared -> Prop} {E:Value -> Shared -> Prop} {s:Shared},wpAny (model prog w) A t Q (fun _ _=>False) s -> (∀ a s,Q a s -> Q' a s) -> wpAny (model prog w) A t Q' E s :=
  fun h f=>wpAny_mono h f fun _ _ z=>False.elim z
 refine wpAny_bind (wpAny_standAt (wpAny_bind (up (turn n s hJ) fun r s1 h1=>?_)))
 cases r with
 | none=>exact wpAny_pure h1
 | some v =>
  refine wpAny_bind (up h1 fun _ s2 h2=>?_)
  refine wpAny_bind (up h2 fun _ s3 h3=>?_)
  refine wpAny_bind (up h3 fun ok s4 h4=>?_)
  cases ok with
  | false=>exact wpAny_pure ⟨rfl,h4⟩
  | true=>exact wpAny_bind (wpAny_bind (up h4 fun x s5 h5=>wpAny_bind (up h5 fun _ s6 h6=>wpAny_pure (wpAny_pure ⟨rfl,h6⟩))))
end
end L2
set_option maxRecDepth 100000
namespace L2
open PySem
def itName (b:Bool):String:=if b then "list_iterator" else "tuple_iterator"
def SeqIs (b:Bool) (h:Heap) (l:Addr) (xs:Array Value):Prop:=match b with | true=>h.IsList l xs | false=>h.IsTuple l xs
def IterIs (b:Bool) (h:Heap) (i l:Addr) (k:Nat):Prop:=match b with | true=>h.IsListIter i l k | false=>h.IsTupleIter i l k
theorem SeqIs.at {b:Bool} {h h':Heap} {l:Addr} {xs:Array Value} (x:SeqIs b h l xs) (hk:∀ o,h.get? l = some o -> h'.get? l = some o):SeqIs b h' l xs:=by
 cases b <;> (obtain ⟨o,e,r⟩:=x; exact ⟨o,hk o e,r⟩)
theorem IterIs.at {b:Bool} {h h':Heap} {i l:Addr} {k:Nat} (x:IterIs b h i l k) (hk:∀ o,h.get? i = some o -> h'.get? i = some o):IterIs b h' i l k:=by
 cases b <;> (obtain ⟨o,e,r⟩:=x; exact ⟨o,hk o e,r⟩)
theorem IterIs.obj {b:Bool} {h:Heap} {i l:Addr} {k:Nat} (x:IterIs b h i l k):∃ o,h.get? i = some o /\ o.cls = .type (itName b) /\ o.data = .fields #[.ref l,.int k 0]:=by
 cases b <;> exact x
theorem SeqIs.ne {b c:Bool} {h:Heap} {l i m:Addr} {k:Nat} {xs:Array Value} (x:SeqIs b h l xs) (y:IterIs c h i m k):l ≠ i:=by
 rintro rfl
 obtain ⟨o,e,hc,_⟩:=y.obj
 cases b <;> (obtain ⟨o',e',hc',_⟩:=x; rw [e] at e'; cases e'; rw [hc] at hc'; cases c <;> exact absurd (Value.type.inj hc') (by decide))
section
variable {prog:Program} {w:World} {A:Around} {E:Value -> Shared -> Prop} {s:Shared}
theorem pyIter_seq {b:Bool} {l:Addr} {xs:Array Value} {Q:Value -> Shared -> Prop} (hl:SeqIs b s.heap l xs)
  (hQ:Q (.ref s.heap.objs.size) { s with heap:=s.heap.push { cls:=.type (itName b),data:=.fields #[.ref l,.int 0 0] } }):wpAny (model prog w) A (pyIter (.ref l)) Q E s:=by
 cases b with
 | true=>exact wpAny_pyIter_list hl hQ
 | false=>exact wpAny_pyIter_tuple hl hQ
theorem nextOf_tup {it l:Addr} {i:Nat} {items:Array Value} {x:Value} {Q:Value -> Shared -> Prop} (hit:s.heap.IsTupleIter it l i) (hl:s.heap.IsTuple l items) (hx:items[i]? = some x)
  (hQ:∀ h',h'.IsTupleIter it l (i + 1) -> Heap.SameBut it s.heap h' -> Q x { s with heap:=h' }):wpAny (model prog w) A (Builtin.SmallTypes.nextOf (.ref it)) Q E s:=by
 obtain ⟨o,ho,hc,hd⟩:=id hit
 obtain ⟨ol,hol,_,nl,hdl⟩:=hl
 unfold Builtin.SmallTypes.nextOf
 refine wpAny_bind (wpAny_callSpecial?_slot (name:=Str.ofString "__next__") hit.typeIs F.slot_tuple_iterator_next (wpAny_call_entry F.slot_tuple_iterator_next hit.typeIs F.entry_tuple_iterator_next ?_ (F.args_tuple_iterator_next_1 _)))
 show wpAny _ A.in1 (field (.ref it) 0 >>= _) _ _ s
 refine wpAny_bind (wpAny_field (x:=.ref l) ho hd rfl ?_)
 show wpAny _ A.in1 (if (Value.ref l == Value.none) = true then _ else _) _ _ s
 have nn:¬ ((Value.ref l == Value.none) = true):=Bool.false_ne_true
 rw [if_neg nn]
 show wpAny _ A.in1 (field (.ref it) 1 >>= _) _ _ s
 refine wpAny_bind (wpAny_field (x:=.int i 0) ho hd rfl ?_)
 show wpAny _ A.in1 (seqItems? (.ref l) >>= _) _ _ s
 refine wpAny_bind (wpAny_seqItems hol hdl ?_)
 simp only [hx,Int.toNat_natCast]
 refine wpAny_bind (wpAny_setField ho hd (by simp) (wpAny_pure ⟨x,rfl,wpAny_pure (hQ _ ⟨_,Heap.get?_update_self _ ho (Obj.isFreed_of_fields (Obj.data_mapFields hd _)),(Obj.cls_mapFields ..).trans hc,?_⟩ (Heap.SameBut.update ..))⟩))
 rw [Obj.data_mapFields hd]
 simp [rawInt]
theorem nextOf_tup_end {it l:Addr} {i:Nat} {items:Array Value} {Q:Value -> Shared -> Prop} (hh:A.handled = none) (hit:s.heap.IsTupleIter it l i) (hl:s.heap.IsTuple l items) (hx:items[i]? = none)
  (hE:∀ h' e,Heap.ExtBut it s.heap h' -> (∃ o,h'.get? e = some o /\ o.cls = .type "StopIteration") -> E (.ref e) { s with heap:=h' }):wpAny (model prog w) A (Builtin.SmallTypes.nextOf (.ref it)) Q E s:=by
 obtain ⟨o,ho,hc,hd⟩:=id hit
 obtain ⟨ol,hol,_,nl,hdl⟩:=hl
 unfold Builtin.SmallTypes.nextOf
 refine wpAny_bind (wpAny_callSpecial?_slot (name:=Str.ofString "__next__") hit.typeIs F.slot_tuple_iterator_next (wpAny_call_entry F.slot_tuple_iterator_next hit.typeIs F.entry_tuple_iterator_next ?_ (F.args_tuple_iterator_next_1 _)))
 show wpAny _ A.in1 (field (.ref it) 0 >>= _) _ _ s
 refine wpAny_bind (wpAny_field (x:=.ref l) ho hd rfl ?_)
 show wpAny _ A.in1 (if (Value.ref l == Value.none) = true then _ else _) _ _ s
 have nn:¬ ((Value.ref l == Value.none) = true):=Bool.false_ne_true
 rw [if_neg nn]
 show wpAny _ A.in1 (field (.ref it) 1 >>= _) _ _ s
 refine wpAny_bind (wpAny_field (x:=.int i 0) ho hd rfl ?_)
 show wpAny _ A.in1 (seqItems? (.ref l) >>= _) _ _ s
 refine wpAny_bind (wpAny_seqItems hol hdl ?_)
 simp only [hx,Int.toNat_natCast]
 refine wpAny_bind (wpAny_rule (wpAny_bind (wpAny_setField ho hd (by simp) ?_)))
 show wpAny _ A.in1 (newExc (.type "StopIteration") [] >>= _) _ _ _
 refine wpAny_bind ?_
 simp only [newExc,newTuple]
 refine wpAny_bind (wpAny_newObj_type ?_ (by size_fits))
 refine wpAny_bind (m:=firstArgMember _ _) (wpAny_of_eq (a:=Value.none) (by simp only [firstArgMember]; rfl) ?_)
 refine wpAny_newObj_type ?_ (by size_fits)
 simp only [raiseNew]
 refine wpAny_bind (wpAny_handled ?_)
 rw [show A.in1.handled = none from hh]
 refine wpAny_bind (wpAny_pure (wpAny_throw ?_))
 exact hE _ _ (((Heap.SameBut.update ..).extBut.push _).push _) ⟨_,Heap.get?_push_size _ rfl,rfl⟩
theorem nextOf_seq {b:Bool} {it l:Addr} {i:Nat} {items:Array Value} {x:Value} {Q:Value -> Shared -> Prop} (hit:IterIs b s.heap it l i) (hl:SeqIs b s.heap l items) (hx:items[i]? = some x)
  (hQ:∀ h',IterIs b h' it l (i + 1) -> Heap.SameBut it s.heap h' -> Q x { s with heap:=h' }):wpAny (model prog w) A (Builtin.SmallTypes.nextOf (.ref it)) Q E s:=by
 cases b with
 | true=>exact wpAny_nextOf_list_item hit hl hx hQ
 | false=>exact nextOf_tup hit hl hx hQ
theorem nextOf_seq_end {b:Bool} {it l:Addr} {i:Nat} {items:Array Value} {Q:Value -> Shared -> Prop} (hh:A.handled = none) (hit:IterIs b s.heap it l i) (hl:SeqIs b s.heap l items) (hx:items[i]? = none)
  (hE:∀ h' e,Heap.ExtBut it s.heap h' -> (∃ o,h'.get? e = some o /\ o.cls = .type "StopIteration") -> E (.ref e) { s with heap:=h' }):wpAny (model prog w) A (Builtin.SmallTypes.nextOf (.ref it)) Q E s:=by
 cases b with
 | true=>exact wpAny_nextOf_list_end hh hit hl hx hE
 | false=>exact nextOf_tup_end hh hit hl hx hE
structure ZApart (z ti to i1 i2:Addr):Prop where
 a1:ti ≠ z
 a2:to ≠ z
 a3:i1 ≠ z
 a4:i2 ≠ z
 a5:ti ≠ to
 a6:ti ≠ i1
 a7:ti ≠ i2
 a8:to ≠ i1
 a9:to ≠ i2
 a10:i1 ≠ i2
structure ZSt (b c:Bool) (z ti to i1 i2 l1 l2:Addr) (k:Nat) (h:Heap):Prop where
 z:IsZip h z ti to .none
 ti:IsPair h ti (.ref i1) (.ref i2)
 to:∃ u v,IsPair h to u v
 i1:IterIs b h i1 l1 k
 i2:IterIs c h i2 l2 k
structure ZMid (b c:Bool) (z ti to i1 i2 l1 l2:Addr) (k:Nat) (T:Addr) (h:Heap):Prop where
 z:IsZip h z ti to (rawInt T)
 ti:IsPair h ti (.ref i1) (.ref i2)
 to:∃ u v,IsPair h to u v
 i1:IterIs b h i1 l1 (k + 1)
 i2:IterIs c h i2 l2 (k + 1)
theorem ZSt.apartL {b c d:Bool} {z ti to i1 i2 l1 l2 l:Addr} {k:Nat} {h:Heap} {xs:Array Value} (x:ZSt b c z ti to i1 i2 l1 l2 k h) (hl:SeqIs d h l xs) (hto:l ≠ to):l ≠ z /\ l ≠ i1 /\ l ≠ i2:=by
 refine ⟨?_,hl.ne x.i1,hl.ne x.i2⟩
 rintro rfl
 have e:=x.z
 cases d <;> (obtain ⟨o',e',hc',_⟩:=hl; rw [e] at e'; cases e'; exact absurd (Value.type.inj hc') (by decide))
theorem zip_item {b c:Bool} {z ti to i1 i2 l1 l2:Addr} {k:Nat} {xs ys:Array Value} {x y:Value} {Q:Value -> Shared -> Prop} (D:ZApart z ti to i1 i2) (S:ZSt b c z ti to i1 i2 l1 l2 k s.heap)
  (hl1:SeqIs b s.heap l1 xs) (hl2:SeqIs c s.heap l2 ys) (n1:l1 ≠ to) (n2:l2 ≠ to) (hx:xs[k]? = some x) (hy:ys[k]? = some y)
  (hQ:∀ h',ZMid b c z ti to i1 i2 l1 l2 k s.heap.objs.size h' -> IsPair h' s.heap.objs.size x y -> (∀ d o,d ≠ z -> d ≠ to -> d ≠ i1 -> d ≠ i2 -> s.heap.get? d = some o -> h'.get? d = some o) -> Q (.ref s.heap.objs.size) { s with heap:=h' }) :
  wpAny (model prog w) A (Builtin.«zip.__next__» ⟨[.ref z],[]⟩) (fun fin s'=>∃ v,fin = .done (.ret v) /\ Q v s') E s:=by
 obtain ⟨m1,m2,m3⟩:=S.apartL hl1 n1
 obtain ⟨m4,m5,m6⟩:=S.apartL hl2 n2
 obtain ⟨hz,hTI,⟨u,v,hTO⟩,h1,h2⟩:=S
 show wpAny _ A (field (.ref z) 2 >>= _) _ _ _
 refine wpAny_bind (wpAny_field (x:=.bool false) hz rfl rfl ?_)
 show wpAny _ A (field (.ref z) 3 >>= _) _ _ _
 refine wpAny_bind (wpAny_field (x:=.ref ti) hz rfl rfl ?_)
 refine wpAny_bind (wpAny_seqItems hTI rfl ?_)
 show wpAny _ A (Builtin.SmallTypes.ownedTupleIsFree (.ref z) >>= _) _ _ _
 refine wpAny_bind ?_
 unfold Builtin.SmallTypes.ownedTupleIsFree
 refine wpAny_bind (wpAny_field (x:=.none) hz rfl rfl (wpAny_pure ?_))
 simp only [if_true]
 refine wpAny_bind (wpAny_rule ?_)
 refine wpAny_bind (wpAny_field (x:=.ref to) hz rfl rfl ?_)
 refine wpAny_bind (wpAny_setField_rec hz (by simp) fun g1 hz1 s1=>?_)
 replace hz1:IsZip g1 z ti to .ellipsis:=hz1
 refine wpAny_bind ?_
 simp only [List.forIn_cons,List.forIn_nil,List.zipIdx_cons,List.zipIdx_nil]
 refine wpAny_bind (wpAny_bind (wpAny_onRaise ?_))
 show wpAny _ A (Builtin.SmallTypes.nextOf (.ref i1) >>= _) _ _ _
 refine wpAny_bind (nextOf_seq (h1.at fun o e=>s1.extBut _ _ D.a3 e) (hl1.at fun o e=>s1.extBut _ _ m1 e) hx fun g2 k1 s2=>wpAny_pure ?_)
 have hTO2:IsPair g2 to u v:=s2.extBut _ _ D.a8 (s1.extBut _ _ D.a2 hTO)
 refine wpAny_bind (wpAny_seqItems hTO2 rfl ?_)
 refine wpAny_bind (wpAny_updateSeq_pair hTO2 fun g3 hTO3 s3=>?_)
 replace hTO3:IsPair g3 to x v:=hTO3
 refine wpAny_bind (wpAny_letGo (wpAny_pure ?_))
 refine wpAny_bind (wpAny_bind (wpAny_onRaise ?_))
 show wpAny _ A (Builtin.SmallTypes.nextOf (.ref i2) >>= _) _ _ _
 refine wpAny_bind (nextOf_seq (h2.at fun o e=>s3.extBut _ _ D.a9.symm (s2.extBut _ _ D.a10.symm (s1.extBut _ _ D.a4 e))) (hl2.at fun o e=>s3.extBut _ _ n2 (s2.extBut _ _ m5 (s1.extBut _ _ m4 e))) hy fun g4 k2 s4=>wpAny_pure ?_)
 have hTO4:IsPair g4 to x v:=s4.extBut _ _ D.a9 hTO3
 refine wpAny_bind (wpAny_seqItems hTO4 rfl ?_)
 refine wpAny_bind (wpAny_updateSeq_pair hTO4 fun g5 hTO5 s5=>?_)
 replace hTO5:IsPair g5 to x y:=hTO5
 refine wpAny_bind (wpAny_letGo (wpAny_pure (wpAny_pure ?_)))
 refine wpAny_bind (wpAny_seqItems hTO5 rfl ?_)
 refine wpAny_bind (wpAny_newTuple ?_)
 have sz:g5.objs.size = s.heap.objs.size:=by rw [s5.1,s4.1,s3.1,s2.1,s1.1]
 have z5:IsZip g5 z ti to .ellipsis:=s5.extBut _ _ D.a2.symm (s4.extBut _ _ D.a4.symm (s3.extBut _ _ D.a2.symm (s2.extBut _ _ D.a3.symm hz1)))
 have kp:∀ d o,d ≠ z -> d ≠ to -> d ≠ i1 -> d ≠ i2 -> s.heap.get? d = some o -> g5.get? d = some o:=fun d o d1 d2 d3 d4 e=>s5.extBut _ _ d2 (s4.extBut _ _ d4 (s3.extBut _ _ d2 (s2.extBut _ _ d3 (s1.extBut _ _ d1 e))))
 have j1:IterIs b g5 i1 l1 (k + 1):=k1.at fun o e=>s5.extBut _ _ D.a8.symm (s4.extBut _ _ D.a10 (s3.extBut _ _ D.a8.symm e))
 have j2:IterIs c g5 i2 l2 (k + 1):=k2.at fun o e=>s5.extBut _ _ D.a9.symm e
 have zl:z < g5.objs.size:=Heap.lt_size z5
 show wpAny _ A (Builtin.SmallTypes.ownedTupleHandOut (.ref z) (.ref g5.objs.size) >>= _) _ _ _
 refine wpAny_bind ?_
 unfold Builtin.SmallTypes.ownedTupleHandOut
 have z6:IsZip (g5.push { cls:=.type "tuple",data:=.seq #[x,y] }) z ti to .ellipsis:=Heap.get?_push_of_some _ z5
 refine wpAny_bind (wpAny_setField_rec z6 (by simp) fun g7 z7 s7=>?_)
 replace z7:IsZip g7 z ti to (rawInt g5.objs.size):=z7
 refine wpAny_setField_rec z7 (by simp) fun g8 z8 s8=>?_
 replace z8:IsZip g8 z ti to (rawInt g5.objs.size):=z8
 have up:∀ d o,d ≠ z -> g5.get? d = some o -> g8.get? d = some o:=fun d o d1 e=>s8.extBut _ _ d1 (s7.extBut _ _ d1 (Heap.get?_push_of_some _ e))
 have T8:IsPair g8 g5.objs.size x y:=s8.extBut _ _ (Nat.ne_of_gt zl) (s7.extBut _ _ (Nat.ne_of_gt zl) (Heap.get?_push_size _ rfl))
 rw [sz] at z8 T8
 refine wpAny_pure ⟨_,rfl,?_⟩
 show Q (.ref g5.objs.size) _
 rw [sz]
 exact hQ g8 ⟨z8,up _ _ D.a1 (kp _ _ D.a1 D.a5 D.a6 D.a7 hTI),⟨_,_,up _ _ D.a2 hTO5⟩,j1.at fun o e=>up _ o D.a3 e,j2.at fun o e=>up _ o D.a4 e⟩ T8 fun d o d1 d2 d3 d4 e=>up d o d1 (kp d o d1 d2 d3 d4 e)
theorem zip_stop {b c:Bool} {z ti to i1 i2 l1 l2:Addr} {k:Nat} {xs ys:Array Value} {Q:Fin -> Shared -> Prop} (hh:A.handled = none) (D:ZApart z ti to i1 i2) (S:ZSt b c z ti to i1 i2 l1 l2 k s.heap)
  (hl1:SeqIs b s.heap l1 xs) (hl2:SeqIs c s.heap l2 ys) (n1:l1 ≠ to) (n2:l2 ≠ to) (hend:xs[k]? = none \/ ys[k]? = none)
  (hE:∀ h' e,(∀ d o,d ≠ z -> d ≠ to -> d ≠ i1 -> d ≠ i2 -> s.heap.get? d = some o -> h'.get? d = some o) -> (∃ o,h'.get? e = some o /\ o.cls = .type "StopIteration") -> E (.ref e) { s with heap:=h' }) :
  wpAny (model prog w) A (Builtin.«zip.__next__» ⟨[.ref z],[]⟩) Q E s:=by
 obtain ⟨m1,m2,m3⟩:=S.apartL hl1 n1
 obtain ⟨m4,m5,m6⟩:=S.apartL hl2 n2
 obtain ⟨hz,hTI,⟨u,v,hTO⟩,h1,h2⟩:=S
 show wpAny _ A (field (.ref z) 2 >>= _) _ _ _
 refine wpAny_bind (wpAny_field (x:=.bool false) hz rfl rfl ?_)
 show wpAny _ A (field (.ref z) 3 >>= _) _ _ _
 refine wpAny_bind (wpAny_field (x:=.ref ti) hz rfl rfl ?_)
 refine wpAny_bind (wpAny_seqItems hTI rfl ?_)
 show wpAny _ A (Builtin.SmallTypes.ownedTupleIsFree (.ref z) >>= _) _ _ _
 refine wpAny_bind ?_
 unfold Builtin.SmallTypes.ownedTupleIsFree
 refine wpAny_bind (wpAny_field (x:=.none) hz rfl rfl (wpAny_pure ?_))
 simp only [if_true]
 refine wpAny_bind (wpAny_rule ?_)
 refine wpAny_bind (wpAny_field (x:=.ref to) hz rfl rfl ?_)
 refine wpAny_bind (wpAny_setField_rec hz (by simp) fun g1 hz1 s1=>?_)
 replace hz1:IsZip g1 z ti to .ellipsis:=hz1
 refine wpAny_bind ?_
 simp only [List.forIn_cons,List.forIn_nil,List.zipIdx_cons,List.zipIdx_nil]
 refine wpAny_bind (wpAny_bind (wpAny_onRaise ?_))
 show wpAny _ A (Builtin.SmallTypes.nextOf (.ref i1) >>= _) _ _ _
 have q1:IterIs b g1 i1 l1 k:=h1.at fun o e=>s1.extBut _ _ D.a3 e
 have q2:SeqIs b g1 l1 xs:=hl1.at fun o e=>s1.extBut _ _ m1 e
 cases hx:xs[k]? with
 | none =>
  refine wpAny_bind (nextOf_seq_end hh q1 q2 hx fun g2 e s2 he=>?_)
  obtain ⟨oe,hoe,hce⟩:=he
  have z2:IsZip g2 z ti to .ellipsis:=s2 _ _ D.a3.symm hz1
  have hez:e ≠ z:=fun q=>by subst q; rw [z2] at hoe; cases hoe; exact absurd (Value.type.inj hce) (by decide)
  exact wpAny_setField_rec z2 (by simp) fun g3 _ s3=>hE g3 e (fun d o d1 _ d3 _ q=>s3.extBut _ _ d1 (s2 _ _ d3 (s1.extBut _ _ d1 q))) ⟨oe,s3.extBut _ _ hez hoe,hce⟩
 | some x =>
  have hy:ys[k]? = none:=by
   rcases hend with h | h
   ·rw [hx] at h; cases h
   ·exact h
  refine wpAny_bind (nextOf_seq q1 q2 hx fun g2 k1 s2=>wpAny_pure ?_)
  have hTO2:IsPair g2 to u v:=s2.extBut _ _ D.a8 (s1.extBut _ _ D.a2 hTO)
  refine wpAny_bind (wpAny_seqItems hTO2 rfl ?_)
  refine wpAny_bind (wpAny_updateSeq_pair hTO2 fun g3 hTO3 s3=>?_)
  refine wpAny_bind (wpAny_letGo (wpAny_pure ?_))
  refine wpAny_bind (wpAny_bind (wpAny_onRaise ?_))
  show wpAny _ A (Builtin.SmallTypes.nextOf (.ref i2) >>= _) _ _ _
  refine wpAny_bind (nextOf_seq_end hh (h2.at fun o e=>s3.extBut _ _ D.a9.symm (s2.extBut _ _ D.a10.symm (s1.extBut _ _ D.a4 e))) (hl2.at fun o e=>s3.extBut _ _ n2 (s2.extBut _ _ m5 (s1.extBut _ _ m4 e))) hy fun g4 e s4 he=>?_)
  obtain ⟨oe,hoe,hce⟩:=he
  have z4:IsZip g4 z ti to .ellipsis:=s4 _ _ D.a4.symm (s3.extBut _ _ D.a2.symm (s2.extBut _ _ D.a3.symm hz1))
  have hez:e ≠ z:=fun q=>by subst q; rw [z4] at hoe; cases hoe; exact absurd (Value.type.inj hce) (by decide)
  exact wpAny_setField_rec z4 (by simp) fun g5 _ s5=>hE g5 e (fun d o d1 d2 d3 d4 q=>s5.extBut _ _ d1 (s4 _ _ d4 (s3.extBut _ _ d2 (s2.extBut _ _ d3 (s1.extBut _ _ d1 q))))) ⟨oe,s5.extBut _ _ hez hoe,hce⟩
theorem next_zip {b c:Bool} {z ti to i1 i2 l1 l2:Addr} {k:Nat} {xs ys:Array Value} {x y:Value} {Q:Option Value -> Shared -> Prop} (D:ZApart z ti to i1 i2) (S:ZSt b c z ti to i1 i2 l1 l2 k s.heap)
  (hl1:SeqIs b s.heap l1 xs) (hl2:SeqIs c s.heap l2 ys) (n1:l1 ≠ to) (n2:l2 ≠ to) (hx:xs[k]? = some x) (hy:ys[k]? = some y)
  (hQ:∀ h',ZMid b c z ti to i1 i2 l1 l2 k s.heap.objs.size h' -> IsPair h' s.heap.objs.size x y -> (∀ d o,d ≠ z -> d ≠ to -> d ≠ i1 -> d ≠ i2 -> s.heap.get? d = some o -> h'.get? d = some o) -> Q (some (.ref s.heap.objs.size)) { s with heap:=h' }) :
  wpAny (model prog w) A (pyNext (.ref z)) Q E s:=by
 have hT:s.TypeIs (.ref z) "zip" := ⟨_,S.z,rfl⟩
 unfold pyNext
 exact wpAny_bind (wpAny_attempt (wpAny_callSpecial?_slot (name:=Str.ofString "__next__") hT F.slot_zip_next (wpAny_call_entry F.slot_zip_next hT F.entry_zip_next
  (zip_item D S hl1 hl2 n1 n2 hx hy fun h' a1 a2 a3=>wpAny_pure (hQ h' a1 a2 a3)) (F.args_zip_next_1 _))))
theorem next_zip_end {b c:Bool} {z ti to i1 i2 l1 l2:Addr} {k:Nat} {xs ys:Array Value} {Q:Option Value -> Shared -> Prop} (hh:A.handled = none) (D:ZApart z ti to i1 i2) (S:ZSt b c z ti to i1 i2 l1 l2 k s.heap)
  (hl1:SeqIs b s.heap l1 xs) (hl2:SeqIs c s.heap l2 ys) (n1:l1 ≠ to) (n2:l2 ≠ to) (hend:xs[k]? = none \/ ys[k]? = none)
  (hQ:∀ h',(∀ d o,d ≠ z -> d ≠ to -> d ≠ i1 -> d ≠ i2 -> s.heap.get? d = some o -> h'.get? d = some o) -> Q none { s with heap:=h' }):wpAny (model prog w) A (pyNext (.ref z)) Q E s:=by
 have hT:s.TypeIs (.ref z) "zip" := ⟨_,S.z,rfl⟩
 unfold pyNext
 refine wpAny_bind (wpAny_attempt (wpAny_callSpecial?_slot (name:=Str.ofString "__next__") hT F.slot_zip_next (wpAny_call_entry F.slot_zip_next hT F.entry_zip_next
  (zip_stop hh D S hl1 hl2 n1 n2 hend fun h' e hk he=>?_) (F.args_zip_next_1 _))))
 obtain ⟨o,ho,hc⟩:=he
 refine wpAny_bind (wpAny_isInstance (T := "StopIteration") (b:=true) ⟨o,ho,hc⟩ isSubtype_stop (wpAny_pure (hQ _ hk)))
def zh1 (h:Heap) (b:Bool) (l:Addr):Heap:=h.push { cls:=.type (itName b),data:=.fields #[.ref l,.int 0 0] }
def zh3 (h:Heap) (b c:Bool) (l1 l2:Addr):Heap:=(zh1 (zh1 h b l1) c l2).push { cls:=.type "tuple",data:=.seq #[.ref h.objs.size,.ref (zh1 h b l1).objs.size] }
def zh4 (h:Heap) (b c:Bool) (l1 l2:Addr):Heap:=(zh3 h b c l1 l2).push { cls:=.type "tuple",data:=.seq #[.none,.none] }
def zh5 (h:Heap) (b c:Bool) (l1 l2:Addr):Heap:=(zh4 h b c l1 l2).push { cls:=.type "zip",data:=.fields #[.none,.bool false,.bool false,.ref (zh1 (zh1 h b l1) c l2).objs.size,.ref (zh3 h b c l1 l2).objs.size] }
end
theorem meets_zip (b c:Bool) (l1 l2:Addr) (xs ys:Array Value) :
  Meets (Builtin.«zip.__new__» ⟨[.type "zip",.ref l1,.ref l2],[]⟩) (fun _ R s=>SeqIs b s.heap l1 xs /\ SeqIs c s.heap l2 ys /\
   R (.ok (.ret (.ref (zh4 s.heap b c l1 l2).objs.size))) { s with heap:=zh5 s.heap b c l1 l2 }) :=
 .of_wp fun prog w A R s h=>by
  obtain ⟨hp,g,d,tk,os⟩:=s
  obtain ⟨hl1,hl2,h⟩:=h
  have hsub:=sub_zip
  have q1:SeqIs b (Shared.heap ⟨hp,g,d,tk,os⟩) l1 xs:=hl1
  have q2:SeqIs c (Shared.heap ⟨hp.push { cls:=.type (itName b),data:=.fields #[.ref l1,.int 0 0] },g,d,tk,os⟩) l2 ys:=hl2.at fun o e=>Heap.get?_push_of_some _ e
  wp_walk using pyIter_seq q1,pyIter_seq q2
  exact ⟨_,rfl,h⟩
section
variable {prog:Program} {w:World} {A:Around} {E:Value -> Shared -> Prop} {s:Shared}
theorem call_zip {b c:Bool} {l1 l2:Addr} {xs ys:Array Value} {Q:Value -> Shared -> Prop} (hl1:SeqIs b s.heap l1 xs) (hl2:SeqIs c s.heap l2 ys)
  (h:∀ h' z ti to i1 i2,ZApart z ti to i1 i2 -> ZSt b c z ti to i1 i2 l1 l2 0 h' -> (∀ d ∈ [z,ti,to,i1,i2],s.heap.objs.size <= d) -> (∀ d o,s.heap.get? d = some o -> h'.get? d = some o) -> Q (.ref z) { s with heap:=h' }) :
  wpAny (model prog w) A (call (.type "zip") [.ref l1,.ref l2]) Q E s:=by
 refine callType_new F.called_zip (by decide) (F.typeCall_zip_2 _ _) (F.newCall_zip_2 _ _) (fun obj=>F.args_object_init_3 obj _ _) F.entry_zip_new (meets_zip b c l1 l2 xs ys) ⟨hl1,hl2,?_⟩
 unfold zh5 zh4 zh3
 generalize h1:zh1 s.heap b l1 = g1
 generalize h2:zh1 g1 c l2 = g2
 have z1:g1.objs.size = s.heap.objs.size + 1:=by rw [<- h1]; exact Heap.size_push ..
 have z2:g2.objs.size = s.heap.objs.size + 2:=by rw [<- h2]; exact (Heap.size_push ..).trans (by rw [z1])
 generalize h3:g2.push { cls:=.type "tuple",data:=.seq #[.ref s.heap.objs.size,.ref g1.objs.size] } = g3
 have z3:g3.objs.size = s.heap.objs.size + 3:=by rw [<- h3,Heap.size_push,z2]
 generalize h4:g3.push { cls:=.type "tuple",data:=.seq #[.none,.none] } = g4
 have z4:g4.objs.size = s.heap.objs.size + 4:=by rw [<- h4,Heap.size_push,z3]
 have e1:g1.get? s.heap.objs.size = some { cls:=.type (itName b),data:=.fields #[.ref l1,.int 0 0] }:=by rw [<- h1]; exact Heap.get?_push_size _ rfl
 have e2:g2.get? g1.objs.size = some { cls:=.type (itName c),data:=.fields #[.ref l2,.int 0 0] }:=by rw [<- h2]; exact Heap.get?_push_size _ rfl
 have e3:g3.get? g2.objs.size = some { cls:=.type "tuple",data:=.seq #[.ref s.heap.objs.size,.ref g1.objs.size] }:=by rw [<- h3]; exact Heap.get?_push_size _ rfl
 have e4:g4.get? g3.objs.size = some { cls:=.type "tuple",data:=.seq #[.none,.none] }:=by rw [<- h4]; exact Heap.get?_push_size _ rfl
 have k1:∀ d o,s.heap.get? d = some o -> g1.get? d = some o:=fun d o e=>by rw [<- h1]; exact Heap.get?_push_of_some _ e
 have k2:∀ d o,g1.get? d = some o -> g2.get? d = some o:=fun d o e=>by rw [<- h2]; exact Heap.get?_push_of_some _ e
 have k3:∀ d o,g2.get? d = some o -> g3.get? d = some o:=fun d o e=>by rw [<- h3]; exact Heap.get?_push_of_some _ e
 have k4:∀ d o,g3.get? d = some o -> g4.get? d = some o:=fun d o e=>by rw [<- h4]; exact Heap.get?_push_of_some _ e
 show _ /\ _
 refine ⟨⟨_,Heap.get?_push_size _ rfl,rfl⟩,?_⟩
 refine h _ g4.objs.size g2.objs.size g3.objs.size s.heap.objs.size g1.objs.size ⟨?_,?_,?_,?_,?_,?_,?_,?_,?_,?_⟩ ⟨Heap.get?_push_size _ rfl,Heap.get?_push_of_some _ (k4 _ _ e3),⟨_,_,Heap.get?_push_of_some _ e4⟩,?_,?_⟩ (fun d hd=>?_) fun d o e=>Heap.get?_push_of_some _ (k4 _ _ (k3 _ _ (k2 _ _ (k1 _ _ e))))
 ·rw [z2,z4]; first | exact Nat.ne_of_lt (by lia) | exact Nat.ne_of_gt (by lia)
 ·rw [z3,z4]; first | exact Nat.ne_of_lt (by lia) | exact Nat.ne_of_gt (by lia)
 ·rw [z4]; first | exact Nat.ne_of_lt (by lia) | exact Nat.ne_of_gt (by lia)
 ·rw [z1,z4]; first | exact Nat.ne_of_lt (by lia) | exact Nat.ne_of_gt (by lia)
 ·rw [z2,z3]; first | exact Nat.ne_of_lt (by lia) | exact Nat.ne_of_gt (by lia)
 ·rw [z2]; first | exact Nat.ne_of_lt (by lia) | exact Nat.ne_of_gt (by lia)
 ·rw [z2,z1]; first | exact Nat.ne_of_lt (by lia) | exact Nat.ne_of_gt (by lia)
 ·rw [z3]; first | exact Nat.ne_of_lt (by lia) | exact Nat.ne_of_gt (by lia)
 ·rw [z3,z1]; first | exact Nat.ne_of_lt (by lia) | exact Nat.ne_of_gt (by lia)
 ·rw [z1]; first | exact Nat.ne_of_lt (by lia) | exact Nat.ne_of_gt (by lia)
 ·cases b <;> exact ⟨_,Heap.get?_push_of_some _ (k4 _ _ (k3 _ _ (k2 _ _ e1))),rfl,rfl⟩
 ·cases c <;> exact ⟨_,Heap.get?_push_of_some _ (k4 _ _ (k3 _ _ e2)),rfl,rfl⟩
 ·simp only [List.mem_cons, List.not_mem_nil, or_false] at hd
  rcases hd with rfl | rfl | rfl | rfl | rfl
  ·rw [z4]; lia
  ·rw [z2]; lia
  ·rw [z3]; lia
  ·exact Nat.le_refl _
  ·rw [z1]; lia
end
end L2
set_option maxRecDepth 100000
namespace L2
open PySem PySem.Spec PyProof.Rows
theorem Inv.track {X:Cx} {pins:List (Addr × Obj)} {σ:St} {H:Hp} {s:Shared} {a:Addr} {o:HO} (I:Inv X pins σ H s) (hn:H a = none) (hz:X.s₀.heap.objs.size <= a) (hL:a ≠ X.env.locals)
  (hc:∀ x c,X.env.cells.lookup x = some c -> c ≠ a) (hp:∀ p ∈ X.pn ++ pins,p.1 ≠ a) (new:ObjOk X.prog X.w (upd H a o) s.heap a o):Inv X pins σ (upd H a o) s:=by
 have nb:∀ b u,H b = some u -> b ≠ a:=fun b u e=>ne_of_none e hn
 refine ⟨I.ok,I.os,I.bare,⟨I.base.keep,I.base.slot,fun b u e n hx=>?_,I.base.there,fun b xs e=>?_,fun b u xs e=>?_,fun b ps e=>?_⟩,I.loc,I.cell,?_,fun x c e=>?_,fun p hq=>?_,fun b u e=>?_,I.len⟩
 ·rw [upd_ne (Nat.ne_of_lt (Nat.lt_of_lt_of_le (Heap.lt_size e) hz))]; exact I.base.free b u e n hx
 ·have q:=I.base.tups b xs e; rw [upd_ne (nb b _ q)]; exact q
 ·have q:=I.base.frzs b u xs e; rw [upd_ne (nb b _ q)]; exact q
 ·obtain ⟨m,q⟩:=I.base.tbls b ps e; exact ⟨m,by rw [upd_ne (nb b _ q)]; exact q⟩
 ·rw [upd_ne (Ne.symm hL)]; exact I.free
 ·rw [upd_ne (hc x c e)]; exact I.freeC x c e
 ·obtain ⟨q1, q2, q3⟩ := I.pin p hq
  exact ⟨q1,by rw [upd_ne (hp p hq)]; exact q2,q3⟩
 ·by_cases hb : b = a
  ·subst hb; rw [upd_same] at e; cases e; exact new
  ·rw [upd_ne hb] at e
   exact (I.hok b u e).stay (fun _ _ _ q=>q) (fun c q=>by rw [upd_ne (nb c _ q)]; exact q) fun c xs q=>by rw [upd_ne (nb c _ q)]; exact q
structure CompOk (X:Cx) (scope:Scope) (M:List Str):Prop where
 kind:scope.kind = .function
 uniq:∀ y ∈ scope.names,scope.names.lookup y.1 = some y.2
 frees:∀ y ∈ scope.names,y.2 = .free -> (X.env.kindOf y.1 = some .cell \/ X.env.kindOf y.1 = some .free)
 shadow:∀ x ∈ M,scope.names.lookup x ≠ some .local /\ scope.names.lookup x ≠ some .cell
 same:∀ (i:Nat) (x:Str),M[i]? = some x -> scope.names.lookup x = some .free -> X.N[i]? = some x
 mlen:M.length = X.N.length
def compChk (N M:List Str) (out sc:Scope):Bool :=
 (sc.kind == .function && sc.names.all (fun y => sc.names.lookup y.1 == some y.2 && (y.2 != .free || (out.names.lookup y.1 == some .cell || out.names.lookup y.1 == some .free))) &&
  M.all (fun x=>sc.names.lookup x != some .local && sc.names.lookup x != some .cell)) && (M.length == N.length && (M.zip N).all (fun p=>sc.names.lookup p.1 != some .free || p.1 == p.2))
theorem compOk {X:Cx} {sc:Scope} {M:List Str} (h:compChk X.N M X.env.scope sc = true):CompOk X sc M:=by
 unfold compChk at h
 rw [Bool.and_eq_true,Bool.and_eq_true,Bool.and_eq_true,Bool.and_eq_true,List.all_eq_true,List.all_eq_true,List.all_eq_true] at h
 obtain ⟨⟨⟨h1,h2⟩,h3⟩,h4,h5⟩:=h
 have hl:M.length = X.N.length:=by simpa using h4
 refine ⟨by simpa using h1,fun y hy=>?_,fun y hy hf=>?_,fun x hx=>?_,fun i x hi hf=>?_,hl⟩
 ·have := h2 y hy
  rw [Bool.and_eq_true] at this
  simpa using this.1
 ·have := h2 y hy
  rw [Bool.and_eq_true] at this
  have q:=this.2
  rw [hf] at q
  have q':(X.env.scope.names.lookup y.1 == some .cell || X.env.scope.names.lookup y.1 == some .free) = true:=by simpa using q
  rw [Bool.or_eq_true] at q'
  exact q'.imp (fun z=>(show X.env.scope.names.lookup y.1 = some .cell by simpa using z)) fun z=>(show X.env.scope.names.lookup y.1 = some .free by simpa using z)
 ·have := h3 x hx
  rw [Bool.and_eq_true] at this
  exact ⟨by simpa using this.1,by simpa using this.2⟩
 ·have hlt : i < X.N.length := by rw [<- hl]; exact (List.getElem?_eq_some_iff.mp hi).1
  have hn:X.N[i]? = some X.N[i]:=List.getElem?_eq_getElem hlt
  have hz:(M.zip X.N)[i]? = some (x,X.N[i]):=by rw [List.getElem?_zip_eq_some]; exact ⟨hi,hn⟩
  have:=h5 _ (List.mem_of_getElem? hz)
  rw [Bool.or_eq_true] at this
  rcases this with z | z
  ·rw [hf] at z; simp at z
  ·have e : x = X.N[i] := by simpa using z
   rw [hn,<- e]
def cellsC (X:Cx) (scope:Scope) (C:Addr):List (Str × Addr):=cellsFrom (C + 1) scope.names (closL X.env scope.names [])
def cxComp (X:Cx) (scope:Scope) (own M:List Str) (C:Addr) (s2:Shared) (H2:Hp) (fp:List Addr):Cx where
 prog:=X.prog
 w:=X.w
 K:=X.K
 mg:=X.mg
 base:=X.base
 A:=X.A
 N:=own ++ M
 s₀:=s2
 H₀:=H2
 env:=compEnvC scope (cellsC X scope C) C X.env
 outer:=X.stack
 stack:=X.stack
 ex:=fp
 fn:=fun x=>scope.names.lookup x == some .cell
 calm:=X.calm
 pn:=[]
 xe:=fun _ _=>False
def PTs (X:Cx) (ifs:List Expr) (t:TT):Prop :=
 ∀ (pins:List (Addr × Obj)) (s:Shared) (σ:St) (H:Hp) (Q:Bool -> Hp -> Prop),Inv X pins σ H s -> t σ H Q -> wpAny (model X.prog X.w) X.A (cTests ifs X.env) (TP X pins σ Q) X.xe s
def tYes:TT:=fun _ H Q=>Q true H
theorem pts_nil {X:Cx}:PTs X [] tYes:=fun _ _ _ H _ I h=>wpAny_pure ⟨H,I,h⟩
def tComp (wi:TI) (own:Nat) (g:TG) (tt:TT) (te:TE):TE:=fun σ H Q=>wi σ H fun J H1=>∃ W:Nat -> Nat -> List V -> Hp -> Prop,(∃ m,W 0 m [] H1) /\ ∀ i m acc H,W i m acc H ->
 (J.stop i H /\ acc.length <= sizeLine /\ ∀ D,H D = none -> Q (.ref D) (upd H D (.lst acc))) \/
 (J.go i H /\ acc.length < sizeLine /\ ∀ x H', J.yld i H x H' -> g x (List.replicate own none ++ σ) H' fun σ2 H2 => σ2.drop own = σ /\ tt σ2 H2 fun c H3 =>
  if c = true then te σ2 H3 fun v H4=>∃ m',m' < m /\ W (i + 1) m' (acc ++ [v]) H4 else ∃ m',m' < m /\ W (i + 1) m' acc H3)
section
variable {X:Cx} {scope:Scope} {own M:List Str} {pins:List (Addr × Obj)} {σ:St} {H2:Hp} {s2:Shared} {fp:List Addr}
theorem CompOk.cells (ok:CompOk X scope M) (I:Inv X pins σ H2 s2):∀ y ∈ scope.names,y.2 = .free -> ∃ c,X.env.cells.lookup y.1 = some c:=fun y hy hf=>I.ok.has y.1 (ok.frees y hy hf)
theorem CompOk.kindIn (ok:CompOk X scope M) {x:Str} {C:Addr} {k:NameKind} (h:(compEnvC scope (cellsC X scope C) C X.env).kindOf x = some k) :
  scope.names.lookup x = some k \/ (k = .cell /\ scope.names.lookup x = some .free):=by
 have h':(relabel scope X.env).names.lookup x = some k:=h
 unfold relabel at h'
 rw [relab_lookup] at h'
 cases e:scope.names.lookup x with
 | none=>rw [e] at h'; simp at h'
 | some j =>
  rw [e,Option.map_some] at h'
  have h2:=Option.some.inj h'
  split at h2
  ·rename_i hc
   have:j = .free:=by
    rw [Bool.and_eq_true,Bool.and_eq_true] at hc
    simpa using hc.1.1
   exact .inr ⟨h2.symm,by rw [this]⟩
  ·exact .inl (by rw [h2])
theorem CompOk.cellsFrom_old (ok:CompOk X scope M) (I:Inv X pins σ H2 s2) {C:Addr} {x:Str} {c:Addr} (h:(cellsC X scope C).lookup x = some c) (hx:scope.names.lookup x ≠ some .cell):X.env.cells.lookup x = some c:=by
 have e0 : ∀ (l : List (Str × NameKind)) (n : Nat) (acc : List (Str × Addr)), (x, NameKind.cell) ∉ l -> (cellsFrom n l acc).lookup x = acc.lookup x := by
  intro l
  induction l with
  | nil=>intro n acc _; rfl
  | cons y r ih =>
   intro n acc hy
   obtain ⟨m,k⟩:=y
   unfold cellsFrom
   split
   ·rename_i hk
    have hk':k = .cell:=by simpa using hk
    rw [ih _ _ fun z=>hy (List.mem_cons_of_mem _ z),List.lookup_cons]
    have:(x == m) = false:=by
     cases hb:x == m with
     | false=>rfl
     | true =>
      have e:x = m:=by simpa using hb
      exact absurd (by rw [hk',e]; exact List.mem_cons_self) hy
    rw [this]
   ·exact ih _ _ fun z=>hy (List.mem_cons_of_mem _ z)
 unfold cellsC at h
 rw [e0 _ _ _ fun hm=>hx (ok.uniq _ hm)] at h
 exact closL_sub scope.names [] (ok.cells I) (fun _ _ z=>by simp at z) x c h
theorem inv_comp (ok:CompOk X scope M) (hc:X.calm = true) (I:Inv X pins σ H2 s2) (hf:∀ b ∈ fp,FpOk X pins H2 b /\ b < s2.heap.objs.size) {C:Addr} (hC:C = s2.heap.objs.size + 1) {h4:Heap}
  (hh:h4 = pushCells ((s2.heap.push { cls:=.type "list",dict:=none,data:=.seq ([]:List Value).toArray }).push { cls:=.type "dict",data:=.dict #[] }) scope.names) :
  Inv (cxComp X scope own M C s2 H2 fp) [] (List.replicate own.length none ++ σ) H2 { s2 with heap:=h4 }:=by
 have zC:(s2.heap.push { cls:=.type "list",dict:=none,data:=.seq ([]:List Value).toArray }).objs.size = C:=by rw [Heap.size_push,hC]
 have zC1:((s2.heap.push { cls:=.type "list",dict:=none,data:=.seq ([]:List Value).toArray }).push { cls:=.type "dict",data:=.dict #[] }).objs.size = C + 1:=by rw [Heap.size_push,zC]
 have keep:∀ b o,s2.heap.get? b = some o -> h4.get? b = some o:=fun b o e=>by
  rw [hh]; exact pushCells_keeps _ _ _ _ (Heap.get?_push_of_some _ (Heap.get?_push_of_some _ e))
 have cellOld:∀ x c,X.env.cells.lookup x = some c -> c < s2.heap.objs.size:=fun x c e=>by obtain ⟨v,q⟩:=I.cell x c e; exact q.lt
 have cellB:∀ x c,(cellsC X scope C).lookup x = some c -> (h4.IsCell c none /\ C + 1 <= c /\ scope.names.lookup x = some .cell) \/ X.env.cells.lookup x = some c:=fun x c e=>by
  by_cases hx:scope.names.lookup x = some .cell
  ·have e' := e
   unfold cellsC at e'
   rw [<- zC1] at e'
   rcases cf_all _ _ _ x c e' with ⟨a,b,d⟩ | q
   ·exact .inl ⟨by rw [hh]; exact a,by rw [zC1] at b; exact b,hx⟩
   ·exact .inr (closL_sub scope.names [] (ok.cells I) (fun _ _ z=>by simp at z) x c q)
  ·exact .inr (ok.cellsFrom_old I e hx)
 have hNs:∃ m,h4.Ns C m:=by
  have q:((s2.heap.push { cls:=.type "list",dict:=none,data:=.seq ([]:List Value).toArray }).push { cls:=.type "dict",data:=.dict #[] }).Ns C (fun _=>none):=by
   have:=Heap.Ns.new (s2.heap.push { cls:=.type "list",dict:=none,data:=.seq ([]:List Value).toArray }) (.type "dict")
   rw [zC] at this
   exact this
  exact ⟨_,q.keeps fun b o e=>by rw [hh]; exact pushCells_keeps _ _ _ _ e⟩
 have nfs:∀ b ∈ fp,b ∉ frs X.stack:=fun b hb hx=>by
  obtain ⟨⟨_,f1,f2,_⟩,_⟩:=hf b hb
  rcases List.mem_cons.mp (I.stkSub b hx) with e | e
  ·exact f1 e
  ·exact f2 e
 obtain ⟨mC,hmC⟩:=hNs
 refine ⟨⟨I.ok.mod,ok.kind,I.ok.glob,I.ok.blt,?_,?_,?_,?_,I.ok.hd,I.ok.frames,.inl rfl,?_,I.bs,?_,?_,nfs,I.stack,I.stkFree⟩,rfl,I.bare,Un.kept keep,⟨mC,hmC,?_⟩,?_,I.hok.fresh (by show s2.heap.objs.size <= C; rw [hC]; exact Nat.le_succ _),?_,fun p hp=>absurd (show p ∈ ([]:List (Addr × Obj)) from hp) (by simp),I.hok.kept keep,?_⟩
 ·show s2.heap.objs.size <= C; rw [hC]; exact Nat.le_succ _
 ·intro x y c h1 h2
  refine cf_inj scope.names (C + 1) (closL X.env scope.names []) (fun a b d p q=>?_) (fun a d p=>?_) x y c h1 h2
  ·exact I.ok.inj a b d (closL_sub scope.names [] (ok.cells I) (fun _ _ z=>by simp at z) a d p) (closL_sub scope.names [] (ok.cells I) (fun _ _ z=>by simp at z) b d q)
  ·have := cellOld a d (closL_sub scope.names [] (ok.cells I) (fun _ _ z => by simp at z) a d p)
   rw [hC]; exact Nat.lt_succ_of_lt (Nat.lt_succ_of_lt this)
 ·intro x hx
  have go:∀ k,(k = NameKind.cell \/ k = NameKind.free) -> (compEnvC scope (cellsC X scope C) C X.env).kindOf x = some k -> ∃ c,(cellsC X scope C).lookup x = some c:=fun k hk e=>by
   rcases ok.kindIn e with e | ⟨_,e⟩
   ·rcases hk with rfl | rfl
    ·exact cf_has _ _ _ (PySem.mem_of_lookup e)
    ·exact cf_keep _ _ _ (closL_has (y:=(x,.free)) rfl _ _ (PySem.mem_of_lookup e))
   ·exact cf_keep _ _ _ (closL_has (y:=(x,.free)) rfl _ _ (PySem.mem_of_lookup e))
  rcases hx with e | e
  ·exact go _ (.inl rfl) e
  ·exact go _ (.inr rfl) e
 ·intro x c hx h
  have hx':scope.names.lookup x = some .cell:=by simpa [cxComp] using hx
  have:=cf_ge (x:=x) scope.names (C + 1) (closL X.env scope.names []) (C + 1) (Nat.le_refl _) (.inl (PySem.mem_of_lookup hx')) c h
  show s2.heap.objs.size <= c
  exact Nat.le_trans (by rw [hC]; exact Nat.le_trans (Nat.le_succ _) (Nat.le_succ _)) this
 ·intro b hb
  obtain ⟨⟨_,_,_,_,f4,_⟩,f6⟩:=hf b hb
  refine ⟨?_,fun x c h=>?_⟩
  ·show b ≠ C
   rw [hC]; exact Nat.ne_of_lt (Nat.lt_succ_of_lt f6)
  ·rcases cellB x c h with ⟨_, q, _⟩ | q
   ·rw [hC] at q
    exact Nat.ne_of_gt (Nat.lt_of_lt_of_le f6 (Nat.le_trans (Nat.le_trans (Nat.le_succ _) (Nat.le_succ _)) q))
   ·exact f4 x c q
 ·exact Nat.le_trans I.ok.bsz I.sz
 ·intro b o e hb
  obtain ⟨⟨_,_,_,f3,_⟩,_⟩:=hf b hb
  rcases f3 with z | z
  ·exact I.ok.noex b o e z
  ·exact absurd (Nat.lt_of_lt_of_le (Heap.lt_size (I.ok.bs b o e).1) z) (Nat.lt_irrefl _)
 ·intro i x v h1 h2 h3
  have h2':(List.replicate own.length (none:Option V) ++ σ)[i]? = some (some v):=h2
  have hi:own.length <= i:=by
   apply Nat.le_of_not_lt
   intro hlt
   rw [List.getElem?_append_left (by simpa using hlt),List.getElem?_replicate] at h2'
   rw [if_pos hlt] at h2'
   cases h2'
  rw [List.getElem?_append_right (by simpa using hi),List.length_replicate] at h2'
  have h1':(own ++ M)[i]? = some x:=h1
  rw [List.getElem?_append_right hi] at h1'
  obtain ⟨n1,n2⟩:=ok.shadow x (List.mem_of_getElem? h1')
  have hfree:scope.names.lookup x = some .free /\ ((compEnvC scope (cellsC X scope C) C X.env).kindOf x = some .cell \/ (compEnvC scope (cellsC X scope C) C X.env).kindOf x = some .free):=by
   rcases h3 with e | e | e
   ·rcases ok.kindIn (x := x) (C := C) e with q | ⟨q, _⟩
    ·exact absurd q n1
    ·cases q
   ·rcases ok.kindIn (x := x) (C := C) e with q | ⟨_, q⟩
    ·exact absurd q n2
    ·exact ⟨q,.inl e⟩
   ·rcases ok.kindIn (x := x) (C := C) e with q | ⟨q, _⟩
    ·exact ⟨q,.inr e⟩
    ·cases q
  obtain ⟨hfr,hk⟩:=hfree
  obtain ⟨m,hn,hl⟩:=I.loc
  have hkX:=ok.frees (x,.free) (PySem.mem_of_lookup hfr) rfl
  have h1':=ok.same _ _ h1' hfr
  obtain ⟨u,ru,lk⟩:=hl (i - own.length) x v h1' h2' (hkX.elim (fun z=>.inr (.inl z)) fun z=>.inr (.inr z))
  refine ⟨u,ru,.inr ⟨hk,?_⟩⟩
  rcases lk with ⟨k,_⟩ | ⟨_,c,ec,ic⟩
  ·rcases hkX with z | z <;> (rw [k] at z; cases z)
  ·obtain ⟨c', e'⟩ : ∃ c', (cellsC X scope C).lookup x = some c' := cf_keep _ _ _ (closL_has (y := (x, .free)) rfl _ _ (PySem.mem_of_lookup hfr))
   refine ⟨c',e',?_⟩
   have:=ok.cellsFrom_old I e' (by rw [hfr]; simp)
   have e2:some c = some c':=ec.symm.trans this
   cases e2
   exact ic.keeps keep
 ·intro x c h
  rcases cellB x c h with ⟨q,_⟩ | q
  ·exact ⟨_,q⟩
  ·obtain ⟨v, z⟩ := I.cell x c q
   exact ⟨v,z.keeps keep⟩
 ·intro x c h
  rcases cellB x c h with ⟨q,q2,_⟩ | q
  ·exact I.hok.fresh (by rw [hC] at q2; exact Nat.le_trans (Nat.le_trans (Nat.le_succ _) (Nat.le_succ _)) q2)
  ·exact I.freeC x c q
 ·show (List.replicate own.length (none : Option V) ++ σ).length = (own ++ M).length
  rw [List.length_append,List.length_append,List.length_replicate,I.len,ok.mlen]
end
end L2
set_option maxRecDepth 100000
namespace L2
open PySem PySem.Spec PyProof.Rows
section
variable {X:Cx} {scope:Scope} {own M:List Str} {pins:List (Addr × Obj)} {σ:St} {H2:Hp} {s2:Shared} {tg iter elt:Expr} {ifs:List Expr} {pos:Pos} {g:TG} {tt:TT} {te:TE}
theorem comp_core (ok:CompOk X scope M) (hc:X.calm = true) (hg:∀ C s2 H2 fp,PG (cxComp X scope own M C s2 H2 fp) tg g) (ht:∀ C s2 H2 fp,PTs (cxComp X scope own M C s2 H2 fp) ifs tt) (he:∀ C s2 H2 fp,PE (cxComp X scope own M C s2 H2 fp) elt te)
  (I2:Inv X pins σ H2 s2) {it:Addr} {fp:List Addr} {tn:Nat -> Heap -> Prop} {J:It} (T:Turn X.prog X.w X.K tg J fp it tn) (st2:tn 0 s2.heap) (f2:∀ b ∈ fp,FpOk X pins H2 b)
  {W:Nat -> Nat -> List V -> Hp -> Prop} (w0:∃ m,W 0 m [] H2) {Qf:V -> Hp -> Prop}
  (turn : ∀ i m acc H, W i m acc H -> (J.stop i H /\ acc.length <= sizeLine /\ ∀ D, H D = none -> Qf (.ref D) (upd H D (.lst acc))) \/
   (J.go i H /\ acc.length < sizeLine /\ ∀ x H', J.yld i H x H' -> g x (List.replicate own.length none ++ σ) H' fun σ2 H2 => σ2.drop own.length = σ /\ tt σ2 H2 fun c H3 =>
    if c = true then te σ2 H3 fun v H4=>∃ m',m' < m /\ W (i + 1) m' (acc ++ [v]) H4 else ∃ m',m' < m /\ W (i + 1) m' acc H3))
  {RR:Value -> Addr -> Result -> Shared -> Prop} {E:Value -> Shared -> Prop}
  (fin:∀ D C H' s' m,Inv X pins σ H' s' -> Qf (.ref D) H' -> s'.heap.Ns C m -> H' C = none -> C ≠ X.env.locals -> X.s₀.heap.objs.size <= C -> (∀ x c,X.env.cells.lookup x = some c -> c ≠ C) -> (∀ p ∈ X.pn ++ pins,p.1 ≠ C) -> RR (.ref D) C (.ok .next) s') :
  wpAny (model X.prog X.w) X.A (newList []) (fun acc s3=>wpAny (model X.prog X.w) X.A (newFunctionEnv scope X.env.globals (closL X.env scope.names []) [] X.env.qual none .none (some X.env)) (fun cenv s4 =>
   codeAny (model X.prog X.w) X.A (.compStart (.ListComp elt [⟨tg,iter,ifs,0⟩] scope pos) 0 (.ref it) acc { cenv with scope:=relabel scope X.env }) (RR acc cenv.locals) s4) E s3) E s2:=by
 refine wpAny_newObj_type (newEnv_comp ?_)
 have zC:(s2.heap.push { cls:=.type "list",dict:=none,data:=.seq ([]:List Value).toArray }).objs.size = s2.heap.objs.size + 1:=Heap.size_push ..
 dsimp only
 rw [zC]
 generalize hC:s2.heap.objs.size + 1 = C
 generalize hh:pushCells ((s2.heap.push { cls:=.type "list",dict:=none,data:=.seq ([]:List Value).toArray }).push { cls:=.type "dict",data:=.dict #[] }) scope.names = h4
 have fpl:∀ b ∈ fp,FpOk X pins H2 b /\ b < s2.heap.objs.size:=fun b hb=>by
  obtain ⟨o,e,_⟩:=T.obj 0 _ st2 b hb
  exact ⟨f2 b hb,Heap.lt_size e⟩
 have I4:Inv (cxComp X scope own M C s2 H2 fp) [] (List.replicate own.length none ++ σ) H2 { s2 with heap:=h4 }:=inv_comp ok hc I2 fpl hC.symm hh.symm
 generalize hX:cxComp X scope own M C s2 H2 fp = X' at I4
 have keep4:∀ b o,s2.heap.get? b = some o -> h4.get? b = some o:=fun b o e=>by
  rw [<- hh]; exact pushCells_keeps _ _ _ _ (Heap.get?_push_of_some _ (Heap.get?_push_of_some _ e))
 have hD4:h4.get? s2.heap.objs.size = some { cls:=.type "list",dict:=none,data:=.seq ([]:List Value).toArray }:=by
  rw [<- hh]; exact pushCells_keeps _ _ _ _ (Heap.get?_push_of_some _ (Heap.get?_push_size _ rfl))
 have st4:tn 0 h4:=T.keep _ _ _ st2 fun b hb o e=>keep4 b o e
 have gg:PG X' tg g:=by rw [<- hX]; exact hg C s2 H2 fp
 have gt:PTs X' ifs tt:=by rw [<- hX]; exact ht C s2 H2 fp
 have ge:PE X' elt te:=by rw [<- hX]; exact he C s2 H2 fp
 have xP:X'.prog = X.prog:=by rw [<- hX]; rfl
 have xw:X'.w = X.w:=by rw [<- hX]; rfl
 have xK:X'.K = X.K:=by rw [<- hX]; rfl
 have xA:X'.A = X.A:=by rw [<- hX]; rfl
 have xc:X'.calm = true:=by rw [<- hX]; exact hc
 have xpn:X'.pn = []:=by rw [<- hX]; rfl
 have xs:X'.s₀ = s2:=by rw [<- hX]; rfl
 have xH:X'.H₀ = H2:=by rw [<- hX]; rfl
 have xL:X'.env.locals = C:=by rw [<- hX]; rfl
 have xfs:X'.fs = frs X.stack:=by rw [<- hX]; rfl
 have xex:X'.ex = fp:=by rw [<- hX]; rfl
 have xe:X'.xe = fun _ _=>False:=by rw [<- hX]; rfl
 have xenv:({ newEnv scope C X.env.globals (cellsFrom (C + 1) scope.names (closL X.env scope.names [])) X.env.qual none .none (some X.env) builtinsNs with scope:=relabel scope X.env }:Env) = X'.env:=by rw [<- hX]; rfl
 have Dlt:s2.heap.objs.size < C:=by rw [<- hC]; exact Nat.lt_succ_self _
 have fpb:∀ {pl:List (Addr × Obj)} {H:Hp},(∀ b ∈ fp,H b = none) -> (∀ p ∈ pl,p.1 ∉ fp) -> ∀ b ∈ fp,FpOk X' pl H b:=fun {pl H} hn hpl b hb=>by
  refine ⟨hn b hb,?_,?_,.inl (by rw [xex]; exact hb),fun x c e=>(I4.ok.exf b (by rw [xex]; exact hb)).2 x c e,fun p hp z=>?_⟩
  ·exact (I4.ok.exf b (by rw [xex]; exact hb)).1
  ·exact I4.ok.exfs b (by rw [xex]; exact hb)
  ·rw [xpn, List.nil_append] at hp
   exact hpl p hp (by rw [z]; exact hb)
 have Dfp:s2.heap.objs.size ∉ fp:=fun z=>Nat.lt_irrefl _ (fpl _ z).2
 have DC:s2.heap.objs.size ≠ C:=Nat.ne_of_lt Dlt
 have Dcell:∀ x c,X'.env.cells.lookup x = some c -> c ≠ s2.heap.objs.size:=fun x c e z=>by
  obtain ⟨v,o,q,hd⟩:=I4.cell x c e
  rw [z] at q
  have q':h4.get? s2.heap.objs.size = some o:=q
  rw [hD4] at q'
  cases q'
  cases hd
 have Dfs:s2.heap.objs.size ∉ X'.fs:=fun z=>by
  obtain ⟨_,o,ho,_⟩:=I4.ok.funs.mem (by exact z)
  rw [xs] at ho
  exact Nat.lt_irrefl _ (Heap.lt_size ho)
 rw [xenv]
 have goal:∀ s5:Shared,s5 = { s2 with heap:=h4 } -> codeAny (model X.prog X.w) X.A (.compLoop (.ListComp elt [⟨tg,iter,ifs,0⟩] scope pos) 0 (.ref it) (.ref s2.heap.objs.size) X'.env) (RR (.ref s2.heap.objs.size) C) s5:=by
  rintro s5 rfl
  obtain ⟨m0,w0⟩:=w0
  refine comp_loop (fun n s'=>∃ i acc σ' H' its k,Inv X' [] σ' H' s' /\ σ'.drop own.length = σ /\ tn i s'.heap /\ (∀ b ∈ fp,H' b = none) /\ H' s2.heap.objs.size = none /\
   s'.heap.get? s2.heap.objs.size = some { cls:=.type "list",data:=.seq (List.toArray its) k } /\ Vals acc its /\ W i n acc H') ?_ m0
   ⟨0,[],_,H2,[],0,I4,by simp,st4,fun b hb=>(f2 b hb).1,I2.hok.fresh (Nat.le_refl _),hD4,.nil,w0⟩
  rintro n s3 ⟨i,acc,σ3,H3,its,k,I3,hσ,st3,fr3,hD,hDo,rv,w3⟩
  have pinD:∀ {H:Hp} {s:Shared} {σ:St},Inv X' [] σ H s -> H s2.heap.objs.size = none -> s.heap.get? s2.heap.objs.size = some { cls:=.type "list",data:=.seq (List.toArray its) k } ->
    Inv X' [(s2.heap.objs.size,{ cls:=.type "list",data:=.seq (List.toArray its) k })] σ H s:=fun {H s σ} I hn ho=>I.pins_of fun p hp=>by
   have e:p = (s2.heap.objs.size,{ cls:=.type "list",data:=.seq (List.toArray its) k }):=by simpa using hp
   subst e
   exact ⟨ho,hn,by rw [xL]; exact DC,Dfs,fun v z=>by cases z⟩
  have plD:∀ p ∈ [((s2.heap.objs.size,{ cls:=.type "list",data:=.seq (List.toArray its) k }):Addr × Obj)],p.1 ∉ fp:=fun p hp=>by
   have e:p = (s2.heap.objs.size,{ cls:=.type "list",data:=.seq (List.toArray its) k }):=by simpa using hp
   subst e
   exact Dfp
  have I3':=pinD I3 hD hDo
  rcases turn i n acc H3 w3 with ⟨stop,hsz,q⟩ | ⟨go,hsz,step⟩
  ·have := T.done X' xP xw xK xc i _ s3 σ3 H3 (fun _ _ => False) I3' (fpb fr3 plD) st3 stop
   rw [xA] at this
   refine thn this fun r s4 ⟨hr,I5⟩=>?_
   subst hr
   have hDo5:=(I5.pin (s2.heap.objs.size,{ cls:=.type "list",data:=.seq (List.toArray its) k }) (by rw [xpn]; simp)).1
   have un:Un (frs X.stack) fp H2 H3 s2.heap s4.heap:=by
    have:=I5.base
    rw [xfs,xex,xH,xs] at this
    exact this
   have os:s4.os = s2.os:=by rw [I5.os,xs]
   have hok:HOk X.prog X.w H3 s4.heap:=by have:=I5.hok; rw [xP,xw] at this; exact this
   have IX:Inv X pins σ H3 s4:=I2.call' os un hok I5.bare fun b hb=>by
    obtain ⟨_,f1,_,f3,f4,f5⟩:=f2 b hb
    exact ⟨f3,f1,f4,f5⟩
   have old:∀ {b:Addr},s2.heap.objs.size <= b -> (X.s₀.heap.objs.size <= b /\ b ≠ X.env.locals /\ (∀ x c,X.env.cells.lookup x = some c -> c ≠ b) /\ ∀ p ∈ X.pn ++ pins,p.1 ≠ b):=fun {b} hb=>by
    obtain ⟨_,f1,_,f3,f4,f5⟩:=I2.fpOk (H':=fun _=>none) hb rfl
    exact ⟨Nat.le_trans I2.sz hb,f1,f4,f5⟩
   obtain ⟨d1,d2,d3,d4⟩:=old (Nat.le_refl s2.heap.objs.size)
   obtain ⟨c1,c2,c3,c4⟩:=old (b:=C) (Nat.le_of_lt Dlt)
   have IY:Inv X pins σ (upd H3 s2.heap.objs.size (.lst acc)) s4:=IX.track hD d1 d2 d3 d4 ⟨hsz,its,k,rv,hDo5⟩
   obtain ⟨m,hm,_⟩:=I5.loc
   rw [xL] at hm
   have hCn:H3 C = none:=by have:=I5.free; rw [xL] at this; exact this
   exact fin _ C _ s4 m IY (q _ hD) hm (by rw [upd_ne (Ne.symm DC)]; exact hCn) c2 c1 c3 c4
  ·have := T.item X' xP xw xK xc i _ s3 σ3 H3 (fun _ _ => False) I3' (fpb fr3 plD) st3 go
   rw [xA] at this
   refine thn this fun r s4 ⟨u,hr,h4⟩=>?_
   subst hr
   refine thn h4 fun _ s5 ⟨x,H5,I5,r5,y5,st5,fr5⟩=>?_
   have hσn:∀ (j:Nat) v,(List.replicate own.length none ++ σ)[j]? = some (some v) -> σ3[j]? = some (some v):=fun j v e=>by
    by_cases hlt:j < own.length
    ·rw [List.getElem?_append_left (by simpa using hlt), List.getElem?_replicate, if_pos hlt] at e
     cases e
    ·have hle := Nat.le_of_not_lt hlt
     rw [List.getElem?_append_right (by simpa using hle),List.length_replicate,<- hσ,List.getElem?_drop] at e
     rw [show own.length + (j - own.length) = j by lia] at e
     exact e
   have hlen:(List.replicate own.length none ++ σ).length = σ3.length:=by
    have e1:σ3.length = X'.N.length:=I5.len
    have e2:=I4.len
    exact e2.trans e1.symm
   have I5w:Inv X' _ (List.replicate own.length none ++ σ) H5 s5:=I5.weak hlen hσn
   have I5p:=I5w.pinned (fpb fr5 plD) (T.obj _ _ st5)
   have a1:=gg _ s5 _ H5 x u _ I5p r5 (step x H5 y5)
   rw [xP,xw,xA,xe] at a1
   refine thn a1 fun _ s6 ⟨σ6,H6,I6,d6,q6⟩=>?_
   have a2:=gt _ s6 σ6 H6 _ I6 q6
   rw [xP,xw,xA,xe] at a2
   refine thn a2 fun b s7 ⟨H7,I7,q7⟩=>?_
   have pin7:∀ {H:Hp} {s:Shared},Inv X' ([((s2.heap.objs.size,{ cls:=.type "list",data:=.seq (List.toArray its) k }):Addr × Obj)] ++ pinsAt fp s5.heap) σ6 H s ->
     (tn (i + 1) s.heap /\ (∀ b ∈ fp,H b = none) /\ H s2.heap.objs.size = none /\ s.heap.get? s2.heap.objs.size = some { cls:=.type "list",data:=.seq (List.toArray its) k } /\ Inv X' [] σ6 H s):=fun {H s} I=>by
    refine ⟨T.keep _ _ _ st5 fun b hb o e=>(I.pin (b,o) (List.mem_append_right _ (List.mem_append_right _ (mem_pinsAt hb e)))).1,fun b hb=>?_,?_,?_,I.pins_of fun p hp=>by simp at hp⟩
    ·obtain ⟨o, e, d⟩ := T.obj _ _ st5 b hb
     exact (I.pin (b,o) (List.mem_append_right _ (List.mem_append_right _ (mem_pinsAt hb e)))).2.1
    ·exact (I.pin (s2.heap.objs.size,{ cls:=.type "list",data:=.seq (List.toArray its) k }) (by rw [xpn]; simp)).2.1
    ·exact (I.pin (s2.heap.objs.size,{ cls:=.type "list",data:=.seq (List.toArray its) k }) (by rw [xpn]; simp)).1
   cases b with
   | false =>
    obtain ⟨p1,p2,p3,p4,p5⟩:=pin7 I7
    obtain ⟨m',hm,w7⟩:=q7
    exact ⟨m',hm,i + 1,acc,σ6,H7,its,k,p5,d6,p1,p2,p3,p4,rv,w7⟩
   | true =>
    rw [if_pos rfl] at q7 ⊢
    have a3:=ge _ s7 σ6 H7 _ I7 q7
    rw [xP,xw,xA,xe] at a3
    refine thn a3 fun y s8 ⟨v,H8,I8,r8,q8⟩=>?_
    obtain ⟨p1,p2,p3,p4,p5⟩:=pin7 I8
    obtain ⟨m',hm,w8⟩:=q8
    have hl:=rv.length
    refine wpAny_list_append_plain (items:=List.toArray its) ⟨k,p4⟩ (fun h' hpl hs=>?_) (by simp; lia)
    obtain ⟨k',hpl⟩:=hpl
    have I9:Inv X' [] σ6 H8 { s8 with heap:=h' }:=p5.turned (t':=s8.toks) (fun b o hb e=>hs.extBut b o hb e) p3 (by rw [xL]; exact DC) (.inr (by rw [xs]; exact Nat.le_refl _)) Dcell (fun p hp=>by rw [xpn] at hp; simp at hp)
    refine ⟨m',hm,i + 1,acc ++ [v],σ6,H8,its ++ [y],k',I9,d6,T.keep _ _ _ p1 fun b hb o e=>hs.extBut b o (fun z=>Dfp (by rw [<- z]; exact hb)) e,p2,p3,?_,rv.append (.cons r8 .nil),w8⟩
    rw [hpl]; simp
 exact codeAny_compStart_list (goal _ rfl) (T.self _ 0 _ _ _ st4 (goal _ rfl))
theorem pe_comp {wi:TI} (ok:CompOk X scope M) (hc:X.calm = true) (hi:PI X tg iter wi) (hg:∀ C s2 H2 fp,PG (cxComp X scope own M C s2 H2 fp) tg g) (ht:∀ C s2 H2 fp,PTs (cxComp X scope own M C s2 H2 fp) ifs tt)
  (he:∀ C s2 H2 fp,PE (cxComp X scope own M C s2 H2 fp) elt te) (hs:∀ x,foldedSetIterable iter X.env x = pure x:=by intro _; rfl) :
  PE X (.ListComp elt [⟨tg,iter,ifs,0⟩] scope pos) (tComp wi own.length g tt te):=by
 intro pins s σ H Q I h
 rw [eval_ListComp]
 refine wpAny_comprehension_free (use:=none) rfl hs (clos_for (ok.cells I)) ok.kind (fun x hx hl=>by rw [ok.uniq x hx,hl]) ?_
 refine thn (hi pins s σ H _ I h) fun v s1 h1=>thn h1 fun itv s2 h2=>?_
 obtain ⟨it,fp,tn,J,H2,e,I2,T,st2,f2,W,w0,turn⟩:=h2
 subst e
 refine comp_core (Qf:=Q) ok hc hg ht he I2 T st2 f2 w0 turn fun D C H' s' m IY q hm hCn c2 c1 c3 c4=>⟨m,hm,fun h' hs'=>?_⟩
 exact ⟨.ref D,H',IY.turned (t':=s'.toks) (fun b o hb e=>hs'.extBut b o hb e) hCn c2 (.inr c1) c3 c4,rfl,q⟩
theorem ps_setComp {wi:TI} {i:Nat} {x:Str} {pos' spos:Pos} (hN:X.N.Nodup) (hix:X.N[i]? = some x) (hx:Loc X.env.scope x) (ok:CompOk X scope M) (hc:X.calm = true) (hi:PI X tg iter wi) (hg:∀ C s2 H2 fp,PG (cxComp X scope own M C s2 H2 fp) tg g)
  (ht:∀ C s2 H2 fp,PTs (cxComp X scope own M C s2 H2 fp) ifs tt) (he:∀ C s2 H2 fp,PE (cxComp X scope own M C s2 H2 fp) elt te)
  (hsw:swapsWith (.ListComp elt [⟨tg,iter,ifs,0⟩] scope pos) (some (.Name x pos')) spos.line X.env = pure true:=by rfl) (hf:X.fn x = true \/ X.env.scope.names.lookup x = some .local:=by first | exact .inl rfl | exact .inr rfl | assumption)
  (hs:∀ x,foldedSetIterable iter X.env x = pure x:=by intro _; rfl):PS X (.Assign [.Name x pos'] (.ListComp elt [⟨tg,iter,ifs,0⟩] scope pos) spos) (tAsg (tComp wi own.length g tt te) (gName i)):=by
 intro pins s σ H D I h
 rw [exec_Assign_Name_used _ _ _ _ hsw]
 refine wpAny_bind (wpAny_standAt (wpAny_bind ?_))
 show wpAny _ _ (do let _ <- comprehension (.ListComp elt [⟨tg,iter,ifs,0⟩] scope pos) scope X.env _ (newList []) false (eval iter X.env) (some (assign (.Name x pos') X.env))) _ _ s
 refine wpAny_bind (thn (wpAny_comprehension_free (use:=some (assign (.Name x pos') X.env)) (Q:=fun _ s'=>SP X pins D .next s') rfl hs (clos_for (ok.cells I)) ok.kind (fun x hx hl=>by rw [ok.uniq x hx,hl]) ?_)
  fun _ s' hq=>wpAny_pure (wpAny_pure hq))
 refine thn (hi pins s σ H _ I h) fun v s1 h1=>thn h1 fun itv s2 h2=>?_
 obtain ⟨it,fp,tn,J,H2,e,I2,T,st2,f2,W,w0,turn⟩:=h2
 subst e
 refine comp_core (Qf:=fun x H1=>gName i x σ H1 D.nx) ok hc hg ht he I2 T st2 f2 w0 turn fun D' C H' s' m IY q hm hCn c2 c1 c3 c4=>?_
 show wpAny _ _ (assign (.Name x pos') X.env (.ref D')) _ _ s'
 refine wpAny_assign_Name (store_ok2 IY hN hix hx (v:=.ref D') rfl (fun s'' I'' ⟨a,hsb,ha⟩=>?_) hf)
 have hCa:C ≠ a:=by
  rcases ha with z | z
  ·rw [z]; exact c2
  ·exact fun e=>c3 x a z e.symm
 exact ⟨m,hm.sameBut hsb hCa,fun h' hs'=>⟨_,H',I''.turned (t':=s''.toks) (fun b o hb e=>hs'.extBut b o hb e) hCn c2 (.inr c1) c3 c4,q⟩⟩
end
end L2
set_option maxRecDepth 100000
namespace L2
open PySem PySem.Spec PyProof.Rows
section
variable {X:Cx} {pins:List (Addr × Obj)} {σ:St} {H:Hp} {s:Shared}
theorem Inv.turnedL {t':Nat} {h':Heap} {ch:List Addr} (I:Inv X pins σ H s) (k:∀ b o,b ∉ ch -> s.heap.get? b = some o -> h'.get? b = some o) (hf:∀ b ∈ ch,FpOk X pins H b):Inv X pins σ H { s with heap:=h',toks:=t' }:=by
 have nit:∀ b u,H b = some u -> b ∉ ch:=fun b u e z=>by rw [(hf b z).1] at e; cases e
 refine I.step (g':=s.gens) (d':=s.drawn) (ch:=ch) (fun b hb=>?_) (fun b o _ _ hc e _=>k b o hc e) (fun b o _ _ hc e _=>⟨o.slots,k b o hc e⟩) (fun _ _ _ _ n=>n)
  (fun b o hc e=>⟨o,k b o hc e⟩) (fun _ _ e=>e) (fun _ _ _ e=>e) (fun b ps e=>⟨#[],by rw [e]; simp⟩) (fun m hm=>?_) (fun b u e=>?_) I.bare
 ·obtain ⟨_, f1, _, f3, f4, f5⟩ := hf b hb
  exact ⟨f3,f1,f4,f5⟩
 ·obtain ⟨o, es, ep, ho, r⟩ := hm
  exact ⟨o,es,ep,k _ o (fun z=>(hf _ z).2.1 rfl) ho,r⟩
 ·refine (I.hok b u e).stay (fun c v hc q => k c v ?_ q) (fun _ q => q) fun _ _ q => q
  rcases hc with z | z
  ·rw [z]; exact nit b u e
  ·exact nit c _ z
def SqB (K:PySem.W.Frag) (b:Bool) (H:Hp) (a:Addr) (xs:List V):Prop:=match b with | true=>SqL K H a xs | false=>SqT K H a xs
theorem Inv.seqB {b:Bool} {a:Addr} {xs:List V} (I:Inv X pins σ H s) (h:SqB X.K b H a xs):∃ its:List Value,Vals xs its /\ SeqIs b s.heap a its.toArray:=by
 cases b with
 | true=>obtain ⟨its,r,p,_⟩:=I.list h; exact ⟨its,r,p.isList⟩
 | false=>obtain ⟨its,r,p,_⟩:=I.tuple h; exact ⟨its,r,p⟩
theorem Inv.seqB_inj {b:Bool} {a:Addr} {xs ys:List V} (I:Inv X pins σ H s) (h:SqB X.K b H a xs) (h':SqB X.K b H a ys):xs = ys:=by
 cases b with
 | true=>exact I.list_inj h h'
 | false=>exact I.tuple_inj h h'
theorem Inv.ne_fp {b:Bool} {a c:Addr} {xs:List V} (I:Inv X pins σ H s) (h:SqB X.K b H a xs) (hf:FpOk X pins H c):a ≠ c:=by
 have old:∀ o,X.K.lookup a = some o -> a ≠ c:=fun o e z=>by
  have eb:=I.ok.mod.kin a o e
  rw [z] at eb
  obtain ⟨_,_,_,f3,_⟩:=hf
  rcases f3 with q | q
  ·exact I.ok.noex c o eb q
  ·exact absurd (Nat.lt_of_lt_of_le (Heap.lt_size (I.ok.bs c o eb).1) q) (Nat.lt_irrefl _)
 have trk:∀ u,H a = some u -> a ≠ c:=fun u e=>ne_of_none e hf.1
 cases b with
 | true =>
  rcases h with (h | ⟨o,h⟩) | ⟨o,_,_,hk,_⟩
  ·exact trk _ h
  ·exact trk _ h
  ·exact old o hk
 | false =>
  rcases h with (h | ⟨o,h⟩) | ⟨o,_,_,hk,_⟩
  ·exact trk _ h
  ·exact trk _ h
  ·exact old o hk
def Itz (K:PySem.W.Frag) (b c:Bool) (l1 l2:Addr):It :=
  ⟨fun i H => ∃ xs ys x y, SqB K b H l1 xs /\ SqB K c H l2 ys /\ xs[i]? = some x /\ ys[i]? = some y,
   fun i H v H'=>∃ T,H T = none /\ v = .ref T /\ ∀ xs ys,SqB K b H l1 xs -> SqB K c H l2 ys -> ∃ x y,xs[i]? = some x /\ ys[i]? = some y /\ H' = upd H T (.tup [x,y]),
   fun i H=>∃ xs ys,SqB K b H l1 xs /\ SqB K c H l2 ys /\ (xs.length <= i \/ ys.length <= i)⟩
theorem newTup {T:Addr} {x y:V} {u v:Value} {s1:Shared} (I:Inv X pins σ H s) (I1:Inv X pins σ H s1) (hT:s.heap.objs.size <= T) (hn:H T = none) (ho:s1.heap.get? T = some { cls:=.type "tuple",data:=.seq #[u,v] }) (rx:RelV x u) (ry:RelV y v) :
  Inv X pins σ (upd H T (.tup [x,y])) s1:=by
 obtain ⟨_,f1,_,f3,f4,f5⟩:=I.fpOk (H':=H) hT hn
 exact I1.track hn (Nat.le_trans I.sz hT) f1 f4 f5 ⟨(by show 2 <= sizeLine; decide),[u,v],.cons rx (.cons ry .nil),⟨_,ho,rfl,_,rfl⟩⟩
theorem turn_zip {P:Program} {w:World} {K:PySem.W.Frag} {es:List Expr} {kk:Nat} {ps:Pos} {b c:Bool} {z ti to i1 i2 l1 l2:Addr} (D:ZApart z ti to i1 i2) :
  Turn P w K (.Tuple es kk ps) (Itz K b c l1 l2) [z,ti,to,i1,i2] z (fun i h=>ZSt b c z ti to i1 i2 l1 l2 i h) where
 mem:=by simp
 obj:=fun i h st d hd=>by
  have nc:∀ {o:Obj} {vs:Array Value},o.data = .fields vs -> ∀ v,o.data ≠ .cell v:=fun e v q=>by rw [e] at q; cases q
  simp only [List.mem_cons,List.not_mem_nil,or_false] at hd
  rcases hd with rfl | rfl | rfl | rfl | rfl
  ·exact ⟨_,st.z,fun v q=>by cases q⟩
  ·exact ⟨_,st.ti,fun v q=>by cases q⟩
  ·obtain ⟨u, v, e⟩ := st.to
   exact ⟨_,e,fun v q=>by cases q⟩
  ·obtain ⟨o, e, _, hd⟩ := st.i1.obj
   exact ⟨o,e,nc hd⟩
  ·obtain ⟨o, e, _, hd⟩ := st.i2.obj
   exact ⟨o,e,nc hd⟩
 keep:=fun i h h' st k=>by
  obtain ⟨u,v,e⟩:=st.to
  exact ⟨k z (by simp) _ st.z,k ti (by simp) _ st.ti,⟨u,v,k to (by simp) _ e⟩,st.i1.at fun o q=>k i1 (by simp) o q,st.i2.at fun o q=>k i2 (by simp) o q⟩
 item:=by
  intro X hP hw hK hc i pins s σ H E I hf st hg
  subst hP hw hK
  obtain ⟨xs,ys,x,y,q1,q2,hx,hy⟩:=hg
  obtain ⟨is1,r1,p1⟩:=I.seqB q1
  obtain ⟨is2,r2,p2⟩:=I.seqB q2
  obtain ⟨u,hu,ru⟩:=r1.get hx
  obtain ⟨v,hv,rv⟩:=r2.get hy
  have hfto:=hf to (by simp)
  refine next_zip D st p1 p2 (I.ne_fp q1 hfto) (I.ne_fp q2 hfto) (x:=u) (y:=v) (by simpa using hu) (by simpa using hv) fun h' M hT kp=>?_
  have lt:∀ {d:Addr},d ∈ [z,ti,to,i1,i2] -> s.heap.objs.size ≠ d:=fun {d} hd e=>by
   obtain ⟨o,q⟩:∃ o,s.heap.get? d = some o:=by
    simp only [List.mem_cons,List.not_mem_nil,or_false] at hd
    rcases hd with rfl | rfl | rfl | rfl | rfl
    ·exact ⟨_,st.z⟩
    ·exact ⟨_,st.ti⟩
    ·obtain ⟨u,v,e⟩:=st.to; exact ⟨_,e⟩
    ·obtain ⟨o,e,_⟩:=st.i1.obj; exact ⟨o,e⟩
    ·obtain ⟨o,e,_⟩:=st.i2.obj; exact ⟨o,e⟩
   have:=Heap.lt_size q
   rw [<- e] at this
   exact Nat.lt_irrefl _ this
  refine ⟨_,rfl,wpAny_letOwnedTupleGo_zip (s:={ s with heap:=h' }) M.z fun h'' z' sb=>?_⟩
  have kp2:∀ d o,d ∉ [z,ti,to,i1,i2] -> s.heap.get? d = some o -> h''.get? d = some o:=fun d o hd e=>by
   simp only [List.mem_cons,List.not_mem_nil,or_false,not_or] at hd
   exact sb.extBut _ _ hd.1 (kp d o hd.1 hd.2.2.1 hd.2.2.2.1 hd.2.2.2.2 e)
  have I1:Inv X pins σ H { s with heap:=h'' }:=I.turnedL (t':=s.toks) kp2 hf
  have hn:H s.heap.objs.size = none:=I.hok.fresh (Nat.le_refl _)
  have I2:Inv X pins σ (upd H s.heap.objs.size (.tup [x,y])) { s with heap:=h'' }:=newTup I I1 (Nat.le_refl _) hn (sb.extBut _ _ (lt (by simp)) hT) ru rv
  obtain ⟨u',v',eto⟩:=M.to
  refine ⟨.ref s.heap.objs.size,_,I2,rfl,⟨_,hn,rfl,fun xs' ys' e1 e2=>⟨x,y,by rw [I.seqB_inj e1 q1]; exact hx,by rw [I.seqB_inj e2 q2]; exact hy,rfl⟩⟩,?_,fun d hd=>?_⟩
  ·exact ⟨z',sb.extBut _ _ D.a1 M.ti,⟨u',v',sb.extBut _ _ D.a2 eto⟩,M.i1.at fun o e=>sb.extBut _ _ D.a3 e,M.i2.at fun o e=>sb.extBut _ _ D.a4 e⟩
  ·rw [upd_ne (Ne.symm (lt hd))]; exact (hf d hd).1
 done:=by
  intro X hP hw hK hc i pins s σ H E I hf st hg
  subst hP hw hK
  obtain ⟨xs,ys,q1,q2,hx⟩:=hg
  obtain ⟨is1,r1,p1⟩:=I.seqB q1
  obtain ⟨is2,r2,p2⟩:=I.seqB q2
  have hfto:=hf to (by simp)
  have e1:=r1.length
  have e2:=r2.length
  refine next_zip_end (I.ok.hd hc) D st p1 p2 (I.ne_fp q1 hfto) (I.ne_fp q2 hfto) (hx.imp (fun z=>by simp; lia) fun z=>by simp; lia) fun h' kp=>⟨rfl,I.turnedL (t':=s.toks) (fun d o hd e=>?_) hf⟩
  simp only [List.mem_cons,List.not_mem_nil,or_false,not_or] at hd
  exact kp d o hd.1 hd.2.2.1 hd.2.2.2.1 hd.2.2.2.2 e
 self:=fun _ _ _ _ _ st h=>wpAny_pyIter_zip st.z h
def iZip (K:PySem.W.Frag) (ta:TA):TI:=fun σ H R=>ta σ H fun vs H1=>∃ b c l1 l2 xs ys,vs = [.ref l1,.ref l2] /\ SqB K b H1 l1 xs /\ SqB K c H1 l2 ys /\ R (Itz K b c l1 l2) H1
theorem pi_zip {es:List Expr} {kk:Nat} {ps:Pos} {a b:Expr} {ta:TA} {p pos:Pos} (hg:Gl X "zip") (hm:X.mg "zip" = none) (ha:PA X [a,b] ta) (hs:starEach [a,b] X.env = [(false,eval a X.env),(false,eval b X.env)]:=by rfl) (hs2:starEach [b] X.env = [(false,eval b X.env)]:=by rfl) :
  PI X (.Tuple es kk ps) (.Call (.Name "zip" p) [a,b] [] pos) (iZip X.K ta):=by
 intro pins s σ H R I h
 refine Call_ (ld_blt I hg hm boot_zip (PyProof.Rows.callWith_type1 (thn (ha pos pins s σ H _ I h) fun us s1 ⟨vs,H1,I1,r1,q1⟩=>?_) (by rw [hs,hs2]) (by rw [hs2]; rfl)))
 obtain ⟨bb,cc,l1,l2,xs,ys,e,q1,q2,q⟩:=q1
 subst e
 cases r1 with
 | cons r rr =>
  cases rr with
  | cons r' rr =>
   cases rr
   cases r
   cases r'
   obtain ⟨is1,r1,p1⟩:=I1.seqB q1
   obtain ⟨is2,r2,p2⟩:=I1.seqB q2
   refine call_zip p1 p2 fun h' z ti to i1 i2 D S new kp=>wpAny_pyIter_zip S.z ?_
   exact ⟨z,[z,ti,to,i1,i2],_,_,H1,rfl,I1.kept (t':=s1.toks) kp,turn_zip D,S,fun d hd=>I1.fpOk (new d hd) (I1.hok.fresh (new d hd)),q⟩
end
end L2
set_option maxRecDepth 100000
namespace L2
open PySem PySem.Spec PyProof.Rows
section
variable {X:Cx} {pins:List (Addr × Obj)} {σ:St} {H:Hp} {s:Shared}
theorem Vals.bools {us:List Value}:∀ {bs:List Bool},Vals (bs.map V.bl) us -> us = bs.map Value.bool:=by
 induction us with
 | nil=>intro bs h; cases bs with | nil=>rfl | cons=>cases h
 | cons u us ih =>
  intro bs h
  cases bs with
  | nil=>cases h
  | cons b bs =>
   cases h with
   | cons r t =>
    have e:u = Value.bool b:=r
    rw [e,ih t]; rfl
theorem rng_all (bs:List Bool):((List.range bs.length).all fun i=>(bs[i]?).getD true) = bs.all id:=by
 rw [Bool.eq_iff_iff,List.all_eq_true,List.all_eq_true]
 constructor
 ·intro h b hb
  obtain ⟨i,hi,e⟩:=List.mem_iff_getElem.mp hb
  have:=h i (List.mem_range.mpr hi)
  rw [List.getElem?_eq_getElem hi,e] at this
  exact this
 ·intro h i hi
  have hi':=List.mem_range.mp hi
  rw [List.getElem?_eq_getElem hi']
  exact h _ (List.getElem_mem hi')
theorem old_of {h h':Heap} {o:Obj} (hk:∀ b x,b ∉ [h.objs.size] -> (h.push o).get? b = some x -> h'.get? b = some x):∀ b x,h.get? b = some x -> h'.get? b = some x :=
 fun b x e=>hk b x (fun z=>absurd (Heap.lt_size e) (by rw [List.mem_singleton.mp z]; exact Nat.lt_irrefl _)) (Heap.get?_push_of_some _ e)
theorem call_all (hc:X.calm = true):CallR X (.builtin "all") (fun xs H Q=>∃ (p:Addr) (bs:List Bool),xs = [.ref p] /\ SqL X.K H p (bs.map V.bl) /\ Q (.bl (bs.all id)) H):=by
 intro pins s σ H xs us Q I r h
 obtain ⟨p,bs,rfl,hq,q⟩:=h
 cases r with
 | cons r rr =>
  cases rr
  cases r
  obtain ⟨its,rv,pl,_⟩:=I.list hq
  have ei:=Vals.bools rv
  subst ei
  have hl:=pl.isList
  have hlt:p < s.heap.objs.size:=by obtain ⟨_,e,_⟩:=hl; exact Heap.lt_size e
  refine call_all_walk (wpAny_pyIter_list hl ⟨s.heap.objs.size,[s.heap.objs.size,p],[s.heap.objs.size],(bs.map Value.bool).toArray.size,_,_,fun i=>(bs[i]?).getD true,rfl,
   Walks.list (A:=X.A.in1) (I.ok.hd hc) _ p (Nat.ne_of_lt hlt) _,⟨⟨_,Heap.get?_push_size _ rfl,rfl,rfl⟩,hl.push _⟩,fun i v s' Q' E' hP hQ=>?_,fun h' tk hk=>?_⟩)
  ·have hP' : (bs.map Value.bool)[i]? = some v := by simpa using hP
   rw [List.getElem?_map] at hP'
   cases e:bs[i]? with
   | none=>rw [e] at hP'; cases hP'
   | some b =>
    rw [e] at hP'
    have hQ':Q' ((bs[i]?).getD true) s':=hQ
    rw [e] at hQ'
    cases hP'
    exact wpAny_truthy_bool hQ'
  ·refine ⟨.bl (bs.all id), H, I.kept (old_of hk), ?_, q⟩
   show Value.bool _ = Value.bool _
   rw [List.size_toArray,List.length_map,rng_all]
def isTy (T:String):V -> Bool
 | .bl _=>T == "bool" || T == "int"
 | .int _=>T == "int"
 | .str _=>T == "str"
 | _=>false
def rIsi (K:PySem.W.Frag) (T:String) (x:V) (H:Hp) (Q:VK):Prop:=match x with
 | .ref a=>(∃ xs,SqT K H a xs /\ Q (.bl (T == "tuple")) H) \/ (∃ xs,SqL K H a xs /\ Q (.bl (T == "list")) H) \/ (∃ kvs,H a = some (.dK kvs) /\ Q (.bl false) H)
 | .non=>Q (.bl false) H
 | .bl b=>Q (.bl (isTy T (.bl b))) H
 | .int i=>Q (.bl (isTy T (.int i))) H
 | .str i=>Q (.bl (isTy T (.str i))) H
 | _=>False
theorem call_isi:CallR X (.builtin "isinstance") (fun xs H Q=>∃ x T,xs = [x,.ty T] /\ (T = "bool" \/ T = "int" \/ T = "str" \/ T = "tuple" \/ T = "list") /\ rIsi X.K T x H Q):=by
 intro pins s σ H xs us Q I r h
 obtain ⟨x,T,rfl,hT,q⟩:=h
 cases r with
 | cons r rr =>
  cases rr with
  | cons r' rr =>
   cases rr
   cases r'
   cases x with
   | non =>
    cases r
    rcases hT with rfl | rfl | rfl | rfl | rfl
    ·exact IsiPair.NoneType_bool ⟨.bl false,H,I.tok _,rfl,q⟩
    ·exact IsiPair.NoneType_int ⟨.bl false,H,I.tok _,rfl,q⟩
    ·exact IsiPair.NoneType_str ⟨.bl false,H,I.tok _,rfl,q⟩
    ·exact IsiPair.NoneType_tuple ⟨.bl false,H,I.tok _,rfl,q⟩
    ·exact IsiPair.NoneType_list ⟨.bl false,H,I.tok _,rfl,q⟩
   | bl b =>
    cases r
    rcases hT with rfl | rfl | rfl | rfl | rfl
    ·exact IsiPair.bool_bool ⟨.bl true,H,I,rfl,q⟩
    ·exact IsiPair.bool_int ⟨.bl true,H,I,rfl,q⟩
    ·exact IsiPair.bool_str ⟨.bl false,H,I.tok _,rfl,q⟩
    ·exact IsiPair.bool_tuple ⟨.bl false,H,I.tok _,rfl,q⟩
    ·exact IsiPair.bool_list ⟨.bl false,H,I.tok _,rfl,q⟩
   | int i =>
    obtain ⟨t,rfl⟩:=r
    rcases hT with rfl | rfl | rfl | rfl | rfl
    ·exact IsiPair.int_bool ⟨.bl false,H,I.tok _,rfl,q⟩
    ·exact IsiPair.int_int ⟨.bl true,H,I,rfl,q⟩
    ·exact IsiPair.int_str ⟨.bl false,H,I.tok _,rfl,q⟩
    ·exact IsiPair.int_tuple ⟨.bl false,H,I.tok _,rfl,q⟩
    ·exact IsiPair.int_list ⟨.bl false,H,I.tok _,rfl,q⟩
   | str i =>
    obtain ⟨t,rfl⟩:=r
    rcases hT with rfl | rfl | rfl | rfl | rfl
    ·exact IsiPair.str_bool ⟨.bl false,H,I.tok _,rfl,q⟩
    ·exact IsiPair.str_int ⟨.bl false,H,I.tok _,rfl,q⟩
    ·exact IsiPair.str_str ⟨.bl true,H,I,rfl,q⟩
    ·exact IsiPair.str_tuple ⟨.bl false,H,I.tok _,rfl,q⟩
    ·exact IsiPair.str_list ⟨.bl false,H,I.tok _,rfl,q⟩
   | byt _=>exact q.elim
   | flt _=>exact q.elim
   | ty _=>exact q.elim
   | ref a =>
    cases r
    rcases q with ⟨ys,hq,q⟩ | ⟨ys,hq,q⟩ | ⟨kvs,hq,q⟩
    ·obtain ⟨its, rv, ⟨o, e, hc, n, hd⟩, _⟩ := I.tuple hq
     rcases hT with rfl | rfl | rfl | rfl | rfl
     ·exact IsiPair.tuple_bool e hc ⟨.bl false,H,I.tok _,rfl,q⟩
     ·exact IsiPair.tuple_int e hc ⟨.bl false,H,I.tok _,rfl,q⟩
     ·exact IsiPair.tuple_str e hc ⟨.bl false,H,I.tok _,rfl,q⟩
     ·exact IsiPair.tuple_tuple e hc ⟨.bl true,H,I,rfl,q⟩
     ·exact IsiPair.tuple_list e hc ⟨.bl false,H,I.tok _,rfl,q⟩
    ·obtain ⟨its, rv, ⟨o, n, e, hc, hd, hs⟩, _⟩ := I.list hq
     rcases hT with rfl | rfl | rfl | rfl | rfl
     ·exact IsiPair.list_bool e hc ⟨.bl false,H,I.tok _,rfl,q⟩
     ·exact IsiPair.list_int e hc ⟨.bl false,H,I.tok _,rfl,q⟩
     ·exact IsiPair.list_str e hc ⟨.bl false,H,I.tok _,rfl,q⟩
     ·exact IsiPair.list_tuple e hc ⟨.bl false,H,I.tok _,rfl,q⟩
     ·exact IsiPair.list_list e hc ⟨.bl true,H,I,rfl,q⟩
    ·obtain ⟨_, _, vs, _, p⟩ := (show ObjOk X.prog X.w H s.heap a (.dK kvs) from I.hok a _ hq)
     obtain ⟨o,es,ep,e,h2,_⟩:=p
     have hc:=h2.1
     rcases hT with rfl | rfl | rfl | rfl | rfl
     ·exact IsiPair.dict_bool e hc ⟨.bl false,H,I.tok _,rfl,q⟩
     ·exact IsiPair.dict_int e hc ⟨.bl false,H,I.tok _,rfl,q⟩
     ·exact IsiPair.dict_str e hc ⟨.bl false,H,I.tok _,rfl,q⟩
     ·exact IsiPair.dict_tuple e hc ⟨.bl false,H,I.tok _,rfl,q⟩
     ·exact IsiPair.dict_list e hc ⟨.bl false,H,I.tok _,rfl,q⟩
end
end L2
set_option maxRecDepth 100000
namespace L2
open PySem PySem.Spec PyProof.Rows PySem.W
structure ExcC (K:PySem.W.Frag) (C:Addr):Prop where
 ga:findIn K (.ref C) "__getattribute__" = some (some (.builtin "BaseException.__getattribute__"))
 gt:findIn K (.ref C) "__getattr__" = some none
 cl:findIn K (.ref C) "__class__" = some (some (.builtin "object.__class__"))
 gs:specialIn K (.builtin "object.__class__") "__get__" = some (some (.builtin "getset_descriptor.__get__"))
 tk:takesIn K (.builtin "object.__class__") = some true
 ob:mroIn K C (.type "object") = some true
 be:mroIn K C (.type "BaseException") = some true
 hd:hasDictIn K C = true
theorem oc_owner : ".".intercalate ("object.__class__".cutAt '.').dropLast = "object" := by decide +kernel
theorem oc_quiet : "object.__class__".startsWith "lifetime." = false:=by decide +kernel
theorem bga_kind:builtinKind "BaseException.__getattribute__" = some .slot:=by decide +kernel
theorem bga_split:splitId "BaseException.__getattribute__" = some ("BaseException", "__getattribute__"):=by decide +kernel
section
variable {prog:Program} {w:World} {A:Around} {E:Value -> Shared -> Prop} {s:Shared} {K:PySem.W.Frag} {x C:Addr}
def ExcAt (h:Heap) (x C:Addr):Prop:=∃ (ox:Obj) (vs:Array Value),h.get? x = some ox /\ ox.cls = .ref C /\ ox.data = .fields vs
theorem ExcAt.type {M:Model} {h:Heap} (hx:ExcAt h x C):Looks M h (typeOf (.ref x)) (.ref C):=by
 obtain ⟨ox,vs,e,ec,_⟩:=hx
 intro A Q E s k q
 unfold typeOf
 refine wpAny_bind (wpAny_loadPart (k _ _ e) ?_)
 rw [ec]
 exact wpAny_pure q
theorem exc_get {R:Result -> Shared -> Prop} {tp:Value} (c:ExcC K C) (KX:K.In s.heap) (hx:ExcAt s.heap x C) (q:R (.ok (.ret (.ref C))) s) :
  codeAny (model prog w) A (.call (.builtin "getset_descriptor.__get__") { pos:=[.builtin "object.__class__",.ref x,tp] }) R s:=by
 obtain ⟨hp,g,d,t,os⟩:=s
 have l0:Looks (model prog w) hp (typeOf (.ref x)) (.ref C):=hx.type
 have l4:Looks (model prog w) hp (isSubtype (.ref C) (.type "object")) true:=looks_subIn KX c.ob
 refine codeAny_call_builtin PySem.F.slot_gs_get.plain PySem.F.entry_gs_get ?_
 refine PySem.F.slot_gs_get.check _ _ _ _ _ _ _ _ ?_ (PySem.F.args_gs_get _ _ _) ?_
 ·exact PySem.F.typeOf_object_class
 ·unfold Builtin.«getset_descriptor.__get__» Builtin.Getset_descriptor.descrGet
  wp_walk using l0.at
  rw [oc_owner]
  wp_walk using l4.at
  refine ⟨PySem.Code.quiet_builtin _ oc_quiet,codeAny_builtin PySem.F.entry_object_class ?_⟩
  unfold Builtin.«object.__class__» shownTypeOf
  wp_walk using l0.at
  exact q
theorem exc_entry {tk:Tok} {Q:PySem.Fin -> Shared -> Prop} (c:ExcC K C) (KX:K.In s.heap) (hx:ExcAt s.heap x C) (q:Q (.done (.ret (.ref C))) s) :
  wpAny (model prog w) A (Builtin.«object.__getattribute__» ⟨[.ref x,.str "__class__" tk],[]⟩) Q E s:=by
 obtain ⟨hp,g,d,t,os⟩:=s
 have l1:Looks (model prog w) hp (typeLookup (.ref C) "__class__") (some (.builtin "object.__class__")):=looks_findIn KX c.cl
 have l2:Looks (model prog w) hp (specialOf (.builtin "object.__class__") "__get__") (some (.builtin "getset_descriptor.__get__")):=looks_specialIn KX c.gs
 have l3:Looks (model prog w) hp (Builtin.ObjectAttr.takesStores (.builtin "object.__class__")) true:=looks_takesIn KX c.tk
 have l0:Looks (model prog w) hp (typeOf (.ref x)) (.ref C):=hx.type
 unfold Builtin.«object.__getattribute__»
 wp_walk using l0.at,l1.at,l2.at,l3.at
 exact exc_get c KX hx (by wp_walk; exact q)
theorem exc_isi {M:Model} {h:Heap} (c:ExcC K C) (KX:K.In h) (hx:ExcAt h x C):Looks M h (isInstance (.ref x) (.type "BaseException")) true:=by
 have l0:Looks M h (typeOf (.ref x)) (.ref C):=hx.type
 have l4:Looks M h (isSubtype (.ref C) (.type "BaseException")) true:=looks_subIn KX c.be
 intro A Q E s k q
 unfold isInstance
 exact wpAny_bind (l0 A _ E s k (l4 A Q E s k q))
theorem exc_check {M:Model} {v:Value} {Q:Unit -> Shared -> Prop} (c:ExcC K C) (KX:K.In s.heap) (hx:ExcAt s.heap x C) (q:Q () s) :
  wpAny M A (checkBuiltinCall "BaseException.__getattribute__" { pos:=[.ref x,v] }) Q E s:=by
 refine check_slot (i := "BaseException.__getattribute__") (owner := "BaseException") (n := "__getattribute__") (self:=.ref x) (rest:=[v]) (kw:=[]) bga_kind bga_split ?_ ?_ q
 ·exact exc_isi c KX hx
 ·exact PySem.F.args_bexc_ga _ _
theorem exc_call {v:Value} {tk:Tok} {R:Result -> Shared -> Prop} (c:ExcC K C) (KX:K.In s.heap) (hx:ExcAt s.heap x C) (hv:v = .str "__class__" tk) (q:R (.ok (.ret (.ref C))) s) :
  codeAny (model prog w) A (.call (.builtin "BaseException.__getattribute__") { pos:=[.ref x,v] }) R s:=by
 refine codeAny_call_builtin (PySem.F.attrBase_ValueError).ga.plain PySem.F.entry_bexc_ga ?_
 refine exc_check c KX hx ?_
 subst hv
 exact exc_entry c KX hx q
theorem exc_attr {Q:Option Value -> Shared -> Prop} (c:ExcC K C) (KX:K.In s.heap) (hx:ExcAt s.heap x C) (q:Q (some (.ref C)) { s with toks:=s.toks + 1 }) :
  wpAny (model prog w) A (getAttr? (.ref x) "__class__") Q E s:=by
 obtain ⟨hp,g,d,t,os⟩:=s
 have l0:Looks (model prog w) hp (typeOf (.ref x)) (.ref C):=hx.type
 have l1:Looks (model prog w) hp (typeLookup (.ref C) "__getattribute__") (some (.builtin "BaseException.__getattribute__")):=looks_findIn KX c.ga
 unfold getAttr? getAttrBy? getAttrBy getAttrByItsOwn
 have l2:Looks (model prog w) hp (typeLookup (.ref C) "__getattr__") none:=looks_findIn KX c.gt
 have l3:∀ self,bindSpecial (.builtin "BaseException.__getattribute__") self = pure (.builtin "BaseException.__getattribute__",[self]):=(PySem.F.attrBase_ValueError).ga.bind
 wp_walk using l0.at,l1.at,l2.at,wpAny_of_eq (l3 _)
 refine exc_call c KX hx rfl ?_
 show wpAny (model prog w) A (handedOut (.ref C)) _ _ _
 unfold handedOut
 wp_walk
 exact q
theorem kitx_exc (c:ExcC K C):KitX K (.ref x) (.ref C) fun h=>ExcAt h x C where
 ty:=fun M h _ hx=>hx.type
 it:=fun M h KX _ A Q E s k q=>mc_isType (s:=s) (fun a o e=>k a o (KX a o e)) c.hd A Q E s (fun _ _ z=>z) q
 ne:=fun h tp dd its n sl KX e=>by
  have hd:=c.hd
  unfold hasDictIn clsIn at hd
  refine beq_eq_false_iff_ne.mpr fun z=>?_
  injection z with z
  subst z
  split at hd
  ·rename_i hl
   have:=KX _ _ hl
   rw [e] at this
   cases this
  ·cases hd
 ca:=fun KX hx q=>exc_attr c KX hx q
end
end L2
set_option maxRecDepth 100000
namespace L2
open PySem PySem.Spec PyProof.Rows
theorem funFrames_base {h b b':Heap}:∀ {l:List Env},h.FunFrames b l -> (∀ x ∈ frs l,b'.get? x = none) -> h.FunFrames b' l
 | [],_,_=>trivial
 | env :: r,hl,hb=>by
  obtain ⟨hk,⟨L,o,hf,hn,ho,hd⟩,hr⟩:=hl
  refine ⟨hk,⟨L,o,hf,hb L (by unfold frs; rw [List.filterMap_cons,hf]; exact List.mem_cons_self),ho,hd⟩,funFrames_base hr fun x hx=>hb x ?_⟩
  unfold frs; rw [List.filterMap_cons,hf]; exact List.mem_cons_of_mem _ hx
structure Fl (h:Heap) (a T:Addr) (cls:Value):Prop where
 ne:T ≠ a
 ex:∃ (oe oT:Obj) (vs ts:Array Value) (a0:Value),h.get? a = some oe /\ (oe.cls = cls /\ vs[0]? = some a0) /\ oe.data = .fields vs /\ vs[1]? = some (.ref T) /\ h.get? T = some oT /\ oT.data = .fields ts /\ ts[3]? = some .none
structure Kp (l:List Env) (hid:List Addr) (h h':Heap):Prop where
 keep:∀ b o,h.get? b = some o -> b ∉ frs l -> b ∉ hid -> h'.get? b = some o
 slot:∀ b o,h.get? b = some o -> b ∈ frs l -> ∃ sl,h'.get? b = some { o with slots:=sl }
theorem hid_stays {h:Heap} {l:List Addr}:(PySem.W.hideAll h l).StaysIn h:=fun _ _ e=>PySem.W.of_hideAll l e
section
variable {M:Model} {A:Around} {E:Value -> Shared -> Prop} {s:Shared} {B:Heap} {env:Env} {outer:List Env} {L e:Addr} {cls:Value} {Q:Unit -> Shared -> Prop}
theorem Fl.of_traced {h h':Heap} {l:List Env} {hid:List Addr} {a0:Value} (ff:h'.FunFrames (PySem.W.hideAll h (hid ++ frs l)) l) (tr:h'.TracedW (PySem.W.hideAll h (hid ++ frs l)) e cls a0):∃ T,Fl h' e T cls /\ (h.get? T = none \/ T ∈ hid):=by
 obtain ⟨oe,vs,T,oT,ts,h1,⟨h2,h3⟩,h4,h5,h6,h7,h8,h9,h10⟩:=tr
 refine ⟨T,⟨h7,oe,oT,vs,ts,a0,h1,⟨h2,h3⟩,h4,h5,h8,h9,h10⟩,?_⟩
 cases q:h.get? T with
 | none=>exact .inl rfl
 | some o =>
  refine .inr ?_
  by_cases hm:T ∈ hid ++ frs l
  ·rcases List.mem_append.mp hm with z | z
   ·exact z
   ·obtain ⟨_, o', ho', hd'⟩ := ff.mem (b := T) z
    rw [h8] at ho'; cases ho'
    exact absurd h9 (hd' ts)
  ·rw [PySem.W.hideAll_get _ q hm] at h6; cases h6
theorem Kp.of {h h':Heap} {l:List Env} {hid:List Addr} (ffh:h.FunFrames B l) (st:(PySem.W.hideAll h (hid ++ frs l)).StaysIn h')
  (up:∀ (b:Addr) (o:Obj),h.get? b = some o -> (∀ vs:Array Value,o.data ≠ .fields vs) -> ∃ sl,h'.get? b = some { cls:=o.cls,dict:=o.dict,data:=o.data,slots:=sl }):Kp l hid h h' where
 keep:=fun b o e h1 h2=>st b o (PySem.W.hideAll_get _ e fun z=>(List.mem_append.mp z).elim h2 h1)
 slot:=fun b o e hb=>by
  obtain ⟨_,o',ho',hd⟩:=ffh.mem (b:=b) hb
  rw [e] at ho'; cases ho'
  exact up b o e hd
theorem leave_new {oe:Obj} {vs:Array Value} {a0:Value} (hf:A.frames = some (env :: outer)) (ff:s.heap.FunFrames B (env :: outer)) (hL:env.frame = some L) (he:s.heap.get? e = some oe) (hd:oe.data = .fields vs) (h1:vs[1]? = some .none) (h0:vs[0]? = some a0)
  (q:∀ (h':Heap) (T:Addr),Kp (env :: outer) [e] s.heap h' -> Fl h' e T oe.cls -> s.heap.get? T = none -> Q () { s with heap:=h' }):wpAny M A (leaving env (.ref e)) Q E s:=by
 refine wpAny_leaving_firstW (base:=PySem.W.hideAll s.heap ([e] ++ frs (env :: outer))) hf (funFrames_base ff fun x hx=>PySem.W.hideAll_none _ (List.mem_append_right _ hx)) hL he hid_stays (PySem.W.hideAll_none _ (by simp)) hd h1 h0 fun h' hl=>?_
 obtain ⟨st,ff',tr,up⟩:=hl
 obtain ⟨T,fl,hT⟩:=Fl.of_traced ff' tr
 refine q h' T (Kp.of ff st up) fl (hT.resolve_right fun z=>fl.ne (by simpa using z))
theorem leave_next {T:Addr} (hf:A.frames = some (env :: outer)) (ff:s.heap.FunFrames B (env :: outer)) (hL:env.frame = some L) (hfl:Fl s.heap e T cls)
  (q:∀ (h':Heap) (T':Addr),Kp (env :: outer) [e,T] s.heap h' -> Fl h' e T' cls -> (s.heap.get? T' = none \/ T' = T) -> Q () { s with heap:=h' }):wpAny M A (leaving env (.ref e)) Q E s:=by
 obtain ⟨ne,oe,oT,vs,ts,a0,h1,⟨h2,h3⟩,h4,h5,h6,h7,h8⟩:=hfl
 refine wpAny_leaving_nextW (base:=PySem.W.hideAll s.heap ([e,T] ++ frs (env :: outer))) (cls:=cls) (a0:=a0) hf (funFrames_base ff fun x hx=>PySem.W.hideAll_none _ (List.mem_append_right _ hx)) hL
  ⟨oe,vs,T,oT,ts,h1,⟨h2,h3⟩,h4,h5,PySem.W.hideAll_none _ (by simp),ne,h6,h7,h8⟩ hid_stays (PySem.W.hideAll_none _ (by simp)) fun h' hl=>?_
 obtain ⟨st,ff',tr,up⟩:=hl
 obtain ⟨T',fl,hT⟩:=Fl.of_traced ff' tr
 exact q h' T' (Kp.of ff st up) fl (hT.imp_right fun z=>by
  rcases List.mem_cons.mp z with z | z
  ·exact absurd z fl.ne
  ·simpa using z)
theorem catch_it {T:Addr} (hf:A.frames = some (env :: outer)) (ff:s.heap.FunFrames B (env :: outer)) (hL:env.frame = some L) (hfl:Fl s.heap e T cls)
  (q:∀ (h':Heap) (T':Addr),Kp (env :: outer) [e,T,T'] s.heap h' -> Fl h' e T' cls -> (s.heap.get? T' = none \/ T' = T) -> Q () { s with heap:=h' }) :
  wpAny M A (noteFrame (.ref e) env) (fun _ s2=>wpAny M A (setFlight (.ref e) none) Q E s2) E s:=by
 obtain ⟨ne,oe,oT,vs,ts,a0,h1,⟨h2,h3⟩,h4,h5,h6,h7,h8⟩:=hfl
 have ffb:=funFrames_base (b':=PySem.W.hideAll s.heap ([e,T] ++ frs (env :: outer))) ff fun x hx=>PySem.W.hideAll_none _ (List.mem_append_right _ hx)
 refine wpAny_noteFrame_onW (base:=PySem.W.hideAll s.heap ([e,T] ++ frs (env :: outer))) (cls:=cls) (a0:=a0) hf ffb hL
  ⟨oe,vs,T,oT,ts,h1,⟨h2,h3⟩,h4,h5,PySem.W.hideAll_none _ (by simp),ne,h6,h7,h8⟩ hid_stays (PySem.W.hideAll_none _ (by simp)) fun h' hl=>?_
 obtain ⟨st,ff',tr,up⟩:=hl
 refine wpAny_setFlight_noneW (base:=PySem.W.hideAll s.heap ([e,T] ++ frs (env :: outer))) (l:=env :: outer) (cls:=cls) (a0:=a0) st ff' tr fun h2' st2 ff2 tr2 up2=>?_
 obtain ⟨T',fl,hT⟩:=Fl.of_traced ff2 tr2
 have hT':s.heap.get? T' = none \/ T' = T:=hT.imp_right fun z=>by
  rcases List.mem_cons.mp z with z | z
  ·exact absurd z fl.ne
  ·simpa using z
 have kp:Kp (env :: outer) [e,T] s.heap h2':=Kp.of ff st2 fun b o eb hd=>by
  obtain ⟨sl,q1⟩:=up b o eb hd
  exact ⟨sl,up2 b _ q1 hd⟩
 refine q h2' T' ⟨fun b o eb n1 n2=>kp.keep b o eb n1 fun z=>n2 (by
  rcases List.mem_cons.mp z with z | z
  ·simp [z]
  ·simp [List.mem_singleton.mp z]),kp.slot⟩ fl hT'
end
end L2
set_option maxRecDepth 100000
namespace L2
open PySem PySem.Spec PyProof.Rows
section
variable {P:Program} {w:World} {fs ex:List Addr} {H H1:Hp} {h h1 h2:Heap} {l:List Env} {hid hid':List Addr} {a:Addr} {o:HO}
theorem ObjOk.obj (x:ObjOk P w H h a o):∃ u,h.get? a = some u:=by
 cases o with
 | lst xs=>obtain ⟨_,_,_,_,e⟩:=x; exact ⟨_,e⟩
 | tup xs=>obtain ⟨_,_,_,_,e,_⟩:=x; exact ⟨_,e⟩
 | dK kvs=>obtain ⟨_,_,_,_,o,_,_,e,_⟩:=x; exact ⟨_,e⟩
 | dT kvs=>obtain ⟨_,_,_,_,o,_,_,e,_⟩:=x; exact ⟨_,e⟩
 | set S n=>obtain ⟨o,_,_,_,e,_⟩:=x; exact ⟨_,e⟩
 | ins C dx fs=>obtain ⟨_,_,_,e,_⟩:=x; exact ⟨_,e⟩
 | own y=>exact x
 | xd fs=>obtain ⟨_,⟨_,_,_,e,_⟩,_⟩:=x; exact ⟨_,e⟩
 | rng lo hi=>obtain ⟨_,_,_,e⟩:=x; exact ⟨_,e⟩
 | frz ob u=>obtain ⟨e,_⟩:=x; exact ⟨_,e⟩
 | tbl ps=>exact ⟨_,show h.get? a = some _ from x⟩
 | met f y=>exact ⟨_,show h.get? a = some _ from x⟩
 | ext φ=>obtain ⟨_,e,_⟩:=x; exact e
theorem HOk.nil_at (x:HOk P w H h) (e:h.get? a = none):H a = none:=by
 cases q:H a with
 | none=>rfl
 | some o=>obtain ⟨u,z⟩:=(x a o q).obj; rw [e] at z; cases z
theorem HOk.track (x:HOk P w H h) (hn:H a = none) (new:ObjOk P w (upd H a o) h a o):HOk P w (upd H a o) h:=fun b u e=>by
 by_cases hb:b = a
 ·subst hb; rw [upd_same] at e; cases e; exact new
 ·rw [upd_ne hb] at e
  exact (x b u e).stay (fun c v _ q=>q) (fun c q=>by rw [upd_ne (ne_of_none q hn)]; exact q) fun c xs q=>by rw [upd_ne (ne_of_none q hn)]; exact q
theorem Kp.trans (k:Kp l hid h h1) (k':Kp l hid' h1 h2):Kp l (hid ++ hid') h h2 where
 keep:=fun b o e n1 n2=>k'.keep b o (k.keep b o e n1 fun z=>n2 (List.mem_append_left _ z)) n1 fun z=>n2 (List.mem_append_right _ z)
 slot:=fun b o e hb=>by
  obtain ⟨sl,e1⟩:=k.slot b o e hb
  obtain ⟨sl',e2⟩:=k'.slot b _ e1 hb
  exact ⟨sl',e2⟩
theorem Un.kp (u:Un fs ex H H1 h h1) (k:Kp l hid h1 h2) (hl:∀ b ∈ frs l,b ∈ fs \/ h.get? b = none) (hh:∀ b ∈ hid,h.get? b = none):Un fs ex H H1 h h2 where
 keep:=fun b o e n hb hx=>k.keep b o (u.keep b o e n hb hx) (fun z=>(hl b z).elim hb fun q=>by rw [e] at q; cases q) fun z=>by rw [hh b z] at e; cases e
 slot:=fun b o e n hb hx=>by
  obtain ⟨sl,e1⟩:=u.slot b o e n hb hx
  by_cases hm:b ∈ frs l
  ·obtain ⟨sl', e2⟩ := k.slot b _ e1 hm
   exact ⟨sl',e2⟩
  ·exact ⟨sl,k.keep b _ e1 hm fun z=>by rw [hh b z] at e; cases e⟩
 free:=u.free
 there:=fun b o e hx=>by
  obtain ⟨o',e1⟩:=u.there b o e hx
  by_cases hm:b ∈ frs l
  ·obtain ⟨sl', e2⟩ := k.slot b _ e1 hm
   exact ⟨_,e2⟩
  ·exact ⟨_,k.keep b _ e1 hm fun z=>by rw [hh b z] at e; cases e⟩
 tups:=u.tups
 frzs:=u.frzs
 tbls:=u.tbls
theorem HOk.kp (x:HOk P w H1 h1) (k:Kp l hid h1 h2) (hf:∀ b ∈ frs l,H1 b = none) (hh:∀ b ∈ hid,H1 b = none):HOk P w H1 h2:=fun a o e =>
 (x a o e).stay (fun b u hb q => k.keep b u q (fun z => by
  have n:=hf b z
  rcases hb with rfl | hb
  ·rw [e] at n; cases n
  ·rw [hb] at n; cases n) fun z=>by
  have n:=hh b z
  rcases hb with rfl | hb
  ·rw [e] at n; cases n
  ·rw [hb] at n; cases n) (fun _ q=>q) fun _ _ q=>q
theorem Un.track (u:Un fs ex H H1 h h1) (hn:H1 a = none) (ha:h.get? a = none):Un fs ex H (upd H1 a o) h h1 where
 keep:=u.keep
 slot:=u.slot
 free:=fun b ob e n hx=>by
  rw [upd_ne (fun z=>by rw [z,ha] at e; cases e)]
  exact u.free b ob e n hx
 there:=u.there
 tups:=fun b xs e=>by
  have q:=u.tups b xs e
  rw [upd_ne (ne_of_none q hn)]; exact q
 frzs:=fun b ob xs e=>by
  have q:=u.frzs b ob xs e
  rw [upd_ne (ne_of_none q hn)]; exact q
 tbls:=fun b ps e=>by
  obtain ⟨m,q⟩:=u.tbls b ps e
  exact ⟨m,by rw [upd_ne (ne_of_none q hn)]; exact q⟩
end
def CX1 (P:Program) (w:World):CXT:=fun outer H s E e s'=>∃ (a T:Addr) (cls:Value) (H':Hp),e = .ref a /\ s'.os = s.os /\ AllBare s'.gens /\ Un (frs outer) [] H H' s.heap s'.heap /\ HOk P w H' s'.heap /\
 Fl s'.heap a T cls /\ s.heap.get? a = none /\ s.heap.get? T = none /\ H' a = none /\ H' T = none /\ E cls none H'
section
variable {P:Program} {w:World} {K:PySem.W.Frag} {mg:Str -> Option Value} {base:Heap} {N:List Str} {qual:Str} {scope:Scope} {f:Addr} {cd:Value} {A:Around} {outer:List Env} {s:Shared} {H:Hp} {E:XK}
theorem xe_new {pins:List (Addr × Obj)} {σ:St} {H1:Hp} {s1:Shared} {h':Heap} {e C:Addr} {vs:List Value} (I:Inv (cxOf (CX1 P w) P w K mg base N qual scope f cd A outer s H E) pins σ H1 s1) (m:s1.heap.MadeExcOf h' e (.ref C) vs) (q:E (.ref C) none H1) :
  (cxOf (CX1 P w) P w K mg base N qual scope f cd A outer s H E).xe (.ref e) { s1 with heap:=h' }:=by
 obtain ⟨t,he,ht,_⟩:=m.there
 have ff:h'.FunFrames base (envOfC qual scope s.heap.objs.size f cd :: outer):=Heap.FunFrames.of_keeps (fun b o eb _=>⟨o,m.keeps b o eb,rfl⟩) I.stack
 have e0:s.heap.get? e = none:=by
  cases q:s.heap.get? e with
  | none=>rfl
  | some o =>
   obtain ⟨o',z⟩:=I.base.there e o q (fun z=>nomatch z)
   rw [m.new] at z; cases z
 have eH:H1 e = none:=I.hok.nil_at m.new
 show wpAny _ _ (leaving (envOfC qual scope s.heap.objs.size f cd) (.ref e)) _ _ _
 refine leave_new (s:={ s1 with heap:=h' }) (B:=base) (outer:=outer) (L:=s.heap.objs.size) (a0:=.ref t) I.ok.frames ff rfl he rfl rfl rfl fun h2 T kp fl hT=>?_
 have un:Un (frs outer) [] H H1 s.heap h':=Un.trans I.base (Un.kept m.keeps)
 have T0:s.heap.get? T = none:=by
  cases q:s.heap.get? T with
  | none=>rfl
  | some o =>
   obtain ⟨o',z⟩:=un.there T o q (fun z=>nomatch z)
   have hT':h'.get? T = none:=hT
   rw [hT'] at z; cases z
 have hok':HOk P w H1 h':=I.hok.kept m.keeps
 have fr:∀ b ∈ frs (envOfC qual scope s.heap.objs.size f cd :: outer),H1 b = none:=I.stkFree
 refine ⟨e,T,_,H1,rfl,I.os,I.bare,un.kp kp (fun b hb=>?_) (fun b hb=>?_),hok'.kp kp fr (fun b hb=>?_),fl,e0,T0,eH,hok'.nil_at hT,q⟩
 ·rcases List.mem_cons.mp (I.stkSub b hb) with z | z
  ·right
   rw [z]
   exact Heap.get?_none_of_le (Nat.le_refl _)
  ·exact .inl z
 ·rw [List.mem_singleton.mp hb]; exact e0
 ·rw [List.mem_singleton.mp hb]; exact eH
end
end L2
set_option maxRecDepth 100000
namespace L2
open PySem PySem.Spec PyProof.Rows
abbrev veMro:List Value:=[.type "ValueError",.type "Exception",.type "BaseException",.type "object"]
theorem exc_obj {K:PySem.W.Frag} {C:Addr} {bmB:List Value} {newId:String} (h:PySem.W.excIn K C bmB newId = true) :
  ∃ nm q N bs bm hdct sn sub ab col dd k0 k1 k2 k3 k5,K.lookup C = some (excClassObj nm q C N bs bm hdct sn sub ab col dd k0 k1 k2 k3 k5 newId) /\ PySem.W.tailIn K bmB bm = true /\ PySem.W.nsOkIn K N = true /\ PySem.W.nsIn K N "__init__" = some none:=by
 unfold PySem.W.excIn at h
 split at h
 ·rename_i dd cd sl hl
  split at h
  ·rename_i C' bm k0 k1 k2 k3 n k5 hm hs
   simp only [Bool.and_eq_true,beq_iff_eq,Bool.not_eq_true'] at h
   obtain ⟨⟨⟨⟨⟨e1,e2⟩,e3⟩,e4⟩,e5⟩,e6⟩:=h
   obtain ⟨nm,bs,mr,N,q,hdct,sn,sub,ab,col,hd⟩:=cd
   subst e1 e2
   simp only at hm e3 e5 e6
   subst hm e3
   refine ⟨nm,q,N,bs,bm,hdct,sn,sub,ab,col,dd,k0,k1,k2,k3,k5,?_,e4,e5,e6⟩
   rw [hl]
   have:sl = #[k0,k1,k2,k3,some (.builtin n),k5]:=by
    apply Array.toList_inj.mp
    exact hs
   rw [this]
  ·cases h
 ·cases h
section
variable {X:Cx}
theorem ps_raise {x:Str} {C:Addr} {np cpos pos:Pos} {e:Expr} {es:List Expr} {ta:TA} {RX:Hp -> Prop} (hc:X.calm = true) (hg:Gl X x) (hm:X.mg x = some (.ref C)) (hx:PySem.W.excIn X.K C veMro "ValueError.__new__" = true) (ha:PA X (e :: es) ta)
  (xe:∀ (pins:List (Addr × Obj)) (σ:St) (H:Hp) (s:Shared) (h':Heap) (a:Addr) (vs:List Value),Inv X pins σ H s -> s.heap.MadeExcOf h' a (.ref C) vs -> RX H -> X.xe (.ref a) { s with heap:=h' })
  (hdb:(x == ("__debug__" : Str)) = false:=by decide) (he:starEach (e :: es) X.env = (false,eval e X.env) :: starEach es X.env:=by rfl) (hpl:(backTo cpos (starEach (e :: es) X.env)).any (·.1) = false:=by rfl)
  (hbk:∃ y r,backTo cpos (starEach (e :: es) X.env) = (false,y) :: r:=by exact ⟨_,_,rfl⟩) :
  PS X (.Raise (some (.Call (.Name x np) (e :: es) [] cpos)) none pos) (fun _ σ H=>ta σ H fun vs H1=>vs.length <= sizeLine /\ RX H1):=by
 intro pins s σ H D I h
 obtain ⟨nm,q,N,bs,bm,hdct,sn,sub,ab,col,dd,k0,k1,k2,k3,k5,hl,ht,hn,hi⟩:=exc_obj hx
 have hT:∀ {h:Heap},X.K.In h -> OwnTail h veMro bm:=fun k=>PySem.W.tail_of_in k ht
 have hB:bm.contains (.type "BaseException") = true:=(hT I.kIn).hasType (by decide)
 have hNs:X.base.Ns N (X.base.nsMap N):=.of_isNs (PySem.W.isNs_of_in I.ok.mod.kin hn)
 refine wpAny_Raise_call_subT (C:=C) (nm:=nm) (q:=q) (N:=N) (bs:=bs) (bm:=bm) (hdct:=hdct) (sn:=sn) (sub:=sub) (ab:=ab) (col:=col) (dd:=dd) (k0:=k0) (k1:=k1) (k2:=k2) (k3:=k3) (k5:=k5) (mN:=X.base.nsMap N) PySem.F.excBase_ValueError hB (I.ok.hd hc) hpl (PySem.W.nsMap_none_of_in I.ok.mod.kin hn hi) ?_
 refine ld_glob I hg hm ⟨rfl,?_⟩ hdb
 obtain ⟨y,r,ey⟩:=hbk
 have hA:=ha cpos pins s σ H _ I h
 rw [ey] at hA ⊢
 refine Calls.evalArgs_plain (thn hA fun us s1 ⟨vs,H1,I1,rv,z,q1⟩=>⟨rfl,by rw [<- rv.length]; exact z,I1.kIn _ _ hl,hNs.keeps I1.bk,hT I1.kIn,fun h' a m=>xe pins σ H1 s1 h' a us I1 m q1⟩)
end
end L2
set_option maxRecDepth 100000
namespace L2
open PySem PySem.Spec PyProof.Rows
section
variable {X:Cx} {pins:List (Addr × Obj)} {σ:St} {H:Hp} {s:Shared}
theorem rest_it {M:Model} {A:Around} {E:Value -> Shared -> Prop} {B:Heap} {l:List Env} {e T:Addr} {cls:Value} {Q:Unit -> Shared -> Prop} (ff:s.heap.FunFrames B l) (hfl:Fl s.heap e T cls)
  (q:∀ (h':Heap) (T':Addr),Kp l [e,T] s.heap h' -> Fl h' e T' cls -> (s.heap.get? T' = none \/ T' = T) -> Q () { s with heap:=h' }):wpAny M A (setFlight (.ref e) none) Q E s:=by
 obtain ⟨ne,oe,oT,vs,ts,a0,h1,⟨h2,h3⟩,h4,h5,h6,h7,h8⟩:=hfl
 have ffb:=funFrames_base (b':=PySem.W.hideAll s.heap ([e,T] ++ frs l)) ff fun x hx=>PySem.W.hideAll_none _ (List.mem_append_right _ hx)
 refine wpAny_setFlight_noneW (base:=PySem.W.hideAll s.heap ([e,T] ++ frs l)) (l:=l) (cls:=cls) (a0:=a0) hid_stays ffb ⟨oe,vs,T,oT,ts,h1,⟨h2,h3⟩,h4,h5,PySem.W.hideAll_none _ (by simp),ne,h6,h7,h8⟩ fun h2' st2 ff2 tr2 up2=>?_
 obtain ⟨T',fl,hT⟩:=Fl.of_traced ff2 tr2
 exact q h2' T' (Kp.of ff st2 fun b o eb hd=>⟨o.slots,up2 b o eb hd⟩) fl (hT.imp_right fun z=>by
  rcases List.mem_cons.mp z with z | z
  ·exact absurd z fl.ne
  ·simpa using z)
abbrev Cx.suite (X:Cx) (ev:Value):Cx:={ X with A:=X.A.mark (some ev),calm:=false,xe:=fun _ _=>False }
theorem Cx.Ok.suite (ok:X.Ok) (ev:Value):(X.suite ev).Ok :=
 ⟨ok.mod,ok.kind,ok.glob,ok.blt,ok.above,ok.inj,ok.has,ok.cab,fun z=>(nomatch z),ok.frames,ok.stk,ok.exf,ok.bs,ok.bsz,ok.noex,ok.exfs,ok.funs,ok.frf⟩
theorem Inv.suite (I:Inv X pins σ H s) (ev:Value):Inv (X.suite ev) pins σ H s:=⟨I.ok.suite ev,I.os,I.bare,I.base,I.loc,I.cell,I.free,I.freeC,I.pin,I.hok,I.len⟩
theorem Inv.unsuite {ev:Value} (I:Inv (X.suite ev) pins σ H s) (ok:X.Ok):Inv X pins σ H s:=⟨ok,I.os,I.bare,I.base,I.loc,I.cell,I.free,I.freeC,I.pin,I.hok,I.len⟩
theorem unbind_ok {M:Model} {A:Around} {E:Value -> Shared -> Prop} {i:Nat} {x:Str} {v:V} {Q:Unit -> Shared -> Prop} (I:Inv X pins σ H s) (hN:X.N.Nodup) (hi:X.N[i]? = some x) (hk:X.env.scope.names.lookup x = some .local) (hv:σ[i]? = some (some v))
  (h:∀ s',Inv X pins (σ.set i none) H s' -> Q () s'):wpAny M A (unbindName X.env x) Q E s:=by
 obtain ⟨m,hn,hl⟩:=id I.loc
 have hcls:(X.env.scope.kind == .class || (X.env.scope.kind == .module && X.env.locals != X.env.globals)) = false:=by rw [I.ok.kind]; rfl
 have hiσ:i < σ.length:=by rw [I.len]; exact (List.getElem?_eq_some_iff.mp hi).1
 obtain ⟨u,_,lk⟩:=hl i x v hi hv (.inl hk)
 have hmx:m x = some u:=by
  rcases lk with ⟨_,e⟩ | ⟨z,_⟩
  ·exact e
  ·rcases z with z | z
   ·have z' : X.env.scope.names.lookup x = some .cell := z
    rw [hk] at z'; cases z'
   ·have z' : X.env.scope.names.lookup x = some .free := z
    rw [hk] at z'; cases z'
 refine wpAny_unbindName_local hk hn hmx hcls fun h' u' hn' hs=>?_
 obtain ⟨oL,_,_,hoL,_⟩:=id hn
 have tracked:HOk X.prog X.w H h':=fun b ob e=>by
  refine (I.hok b ob e).stay (fun c w' hc q=>(hs.2 c ?_).trans q) (fun _ q=>q) fun _ _ q=>q
  rintro rfl
  have hfree:=I.free
  rcases hc with rfl | hc
  ·rw [hfree] at e; cases e
  ·rw [hfree] at hc; cases hc
 refine h _ ⟨I.ok,I.os,I.bare,⟨fun b o e n hb hx=>?_,fun b o e n hb hx=>?_,I.base.free,fun b o e hx=>?_,I.base.tups,I.base.frzs,I.base.tbls⟩,⟨_,hn',fun j y v' e1 e2 e3=>?_⟩,fun y c e=>?_,I.free,I.freeC,fun p hp=>?_,tracked,by simpa using I.len⟩
 ·exact (hs.2 b (Nat.ne_of_lt (Nat.lt_of_lt_of_le (Heap.lt_size e) I.ok.above))).trans (I.base.keep b o e n hb hx)
 ·obtain ⟨sl, e1⟩ := I.base.slot b o e n hb hx
  exact ⟨sl,(hs.2 b (Nat.ne_of_lt (Nat.lt_of_lt_of_le (Heap.lt_size e) I.ok.above))).trans e1⟩
 ·obtain ⟨o', e1⟩ := I.base.there b o e hx
  exact ⟨o',(hs.2 b (Nat.ne_of_lt (Nat.lt_of_lt_of_le (Heap.lt_size e) I.ok.above))).trans e1⟩
 ·by_cases hj : j = i
  ·subst hj
   rw [List.getElem?_set_self hiσ] at e2
   cases e2
  ·rw [List.getElem?_set_ne (Ne.symm hj)] at e2
   obtain ⟨u',r',q⟩:=hl j y v' e1 e2 e3
   refine ⟨u',r',?_⟩
   rcases q with ⟨k,e⟩ | ⟨k,c,e,z⟩
   ·refine .inl ⟨k, ?_⟩
    have:y ≠ x:=fun e=>hj (nodup_ix hN e1 (e ▸ hi))
    simp [this,e]
   ·exact .inr ⟨k,c,e,z.sameBut hs (I.cne y c e)⟩
 ·obtain ⟨w', z⟩ := I.cell y c e
  exact ⟨w',z.sameBut hs (I.cne y c e)⟩
 ·obtain ⟨e, n, ne, nf, d⟩ := I.pin p hp
  exact ⟨(hs.2 p.1 ne).trans e,n,ne,nf,d⟩
end
abbrev HO.exc (a C:Addr):HO:=.ext fun h=>ExcAt h a C
theorem Fl.at {h:Heap} {a T C:Addr} (f:Fl h a T (.ref C)):ExcAt h a C:=by
 obtain ⟨oe,oT,vs,ts,a0,h1,⟨h2,h3⟩,h4,_⟩:=f.ex
 exact ⟨oe,vs,h1,h2,h4⟩
theorem exc_ok {P:Program} {w:World} {H:Hp} {h:Heap} {a C:Addr} (x:ExcAt h a C):ObjOk P w H h a (.exc a C):=by
 refine ⟨x,?_,fun h1 h2 ⟨ox,vs,e,r⟩ k=>⟨ox,vs,k _ e,r⟩⟩
 obtain ⟨ox,vs,e,_⟩:=x
 exact ⟨ox,e⟩
section
variable {X:Cx} {k i:Nat} {f C CB:Addr} {fd:FuncData} {ps:List Str} {sp:Sp} {x xB n:Str} {p pos apos np hpos tpos:Pos} {e:Expr} {es:List Expr} {ta:TA} {ts:TS} {b0:Stmt} {suite:List Stmt}
def tSuite (C:Addr) (i:Nat) (ts:TS) (D:Ends) (σ:St):XK:=fun cls _ H2=>cls = .ref C /\ ∀ a,H2 a = none ->
 ts { nx:=fun σ' H'=>(∃ v,σ'[i]? = some (some v)) /\ D.nx (σ'.set i none) H',rt:=fun _ _=>False } (σ.set i (some (.ref a))) (upd H2 a (.exc a C))
theorem handle_ok {pins:List (Addr × Obj)} {σ:St} {H1:Hp} {s1 s2:Shared} {D:Ends} {ev:Value} (I1:Inv X pins σ H1 s1) (hq:CX1 X.prog X.w X.stack H1 s1 (tSuite C i ts D σ) ev s2)
  (hgB:Gl X xB) (hmB:X.mg xB = some (.ref CB)) (hex:PySem.W.exmOne X.K (.ref C) (.ref CB) = some true) (hN:X.N.Nodup) (hi:X.N[i]? = some n) (hl:X.env.scope.names.lookup n = some .local)
  (hst:X.stack = X.env :: X.outer) (hfr:X.env.frame = some X.env.locals) (hs:∀ ev,PSs (X.suite ev) (b0 :: suite) ts) (hdB:(xB == ("__debug__" : Str)) = false) :
  wpAny (model X.prog X.w) X.A (noteFrame ev X.env) (fun _ s₂=>wpAny (model X.prog X.w) X.A (setFlight ev none) (fun _ s₃=>wpAny (model X.prog X.w) X.A (handleBy ev X.env [.ExceptHandler (some (.Name xB np)) (some n) (b0 :: suite) hpos]) (SP X pins D) X.xe s₃) X.xe s₂) X.xe s2:=by
 obtain ⟨a,T,cls,H2,rfl,hos,hbare,un,hok,fl,a0,T0,aH,TH,rfl,hsu⟩:=hq
 have I2:Inv X pins σ H2 s2:=I1.call' hos un hok hbare (ch:=[]) fun _ z=>nomatch z
 have fr:∀ b ∈ frs (X.env :: X.outer),H2 b = none:=fun b hb=>I2.stkFree b (by rw [hst]; exact hb)
 have ffr:X.A.frames = some (X.env :: X.outer):=by rw [<- hst]; exact I1.ok.frames
 have ff2:s2.heap.FunFrames X.base (X.env :: X.outer):=by rw [<- hst]; exact I2.stack
 have mk:∀ (h':Heap) (hid:List Addr),Kp (X.env :: X.outer) hid s2.heap h' -> (∀ b ∈ hid,s1.heap.get? b = none /\ H2 b = none) -> Inv X pins σ H2 { s2 with heap:=h' }:=fun h' hid kp hh =>
  I1.call' (s':={ s2 with heap:=h' }) (ch:=[]) hos (un.kp kp (fun b hb=>.inl (by rw [hst]; exact hb)) fun b hb=>(hh b hb).1) (hok.kp kp fr fun b hb=>(hh b hb).2) hbare fun _ z=>nomatch z
 have mkE:∀ (h':Heap) (hid:List Addr),Kp (X.env :: X.outer) hid s2.heap h' -> (∀ b ∈ hid,s1.heap.get? b = none /\ H2 b = none) -> ExcAt h' a C -> Inv X pins σ (upd H2 a (.exc a C)) { s2 with heap:=h' }:=fun h' hid kp hh hx =>
  I1.call' (s':={ s2 with heap:=h' }) (ch:=[]) hos ((un.kp kp (fun b hb=>.inl (by rw [hst]; exact hb)) fun b hb=>(hh b hb).1).track aH a0) ((hok.kp kp fr fun b hb=>(hh b hb).2).track aH (exc_ok hx)) hbare fun _ z=>nomatch z
 have nT:∀ {h':Heap} {T':Addr} {hid:List Addr},Kp (X.env :: X.outer) hid s2.heap h' -> (h'.get? T' = none \/ T' = T) -> (∀ b ∈ hid,s1.heap.get? b = none /\ H2 b = none) -> s1.heap.get? T' = none /\ H2 T' = none:=fun {h' T' hid} kp hT hh=>by
  rcases hT with hT | rfl
  ·refine ⟨?_, (mk h' hid kp hh).hok.nil_at hT⟩
   cases z:s1.heap.get? T' with
   | none=>rfl
   | some o =>
    obtain ⟨o',z'⟩:=(un.kp kp (fun b hb=>.inl (by rw [hst]; exact hb)) fun b hb=>(hh b hb).1).there T' o z fun z=>nomatch z
    rw [hT] at z'; cases z'
  ·exact ⟨T0,TH⟩
 have kp0:Kp (X.env :: X.outer) [] s2.heap s2.heap:=⟨fun _ _ e _ _=>e,fun _ o e _=>⟨o.slots,e⟩⟩
 refine catch_it (outer:=X.outer) (B:=X.base) ffr ff2 hfr fl fun h3 T3 kp3 fl3 hT3=>?_
 have n3:=nT kp0 hT3 (fun b hb=>nomatch hb)
 have hh3:∀ b ∈ [a,T,T3],s1.heap.get? b = none /\ H2 b = none:=fun b hb=>by
  rcases List.mem_cons.mp hb with rfl | hb
  ·exact ⟨a0,aH⟩
  rcases List.mem_cons.mp hb with rfl | hb
  ·exact ⟨T0,TH⟩
  ·rw [List.mem_singleton.mp hb]; exact n3
 have I3:=mk h3 _ kp3 hh3
 refine wpAny_handleBy_cons (codeAny_handlers_test ?_) (by intro z; cases z)
 refine ld_glob (X:=X.suite (.ref a)) (I3.suite _) hgB hmB ?_ hdB
 refine (PySem.W.exm_one (K:=X.K) (b:=true) I3.kIn fl3.at.type hex).here ?_
 refine codeAny_handlers_suite_as ?_
 have ff3:h3.FunFrames X.base (X.env :: X.outer):=by rw [<- hst]; exact I3.stack
 refine rest_it (s:={ s2 with heap:=h3 }) (B:=X.base) (l:=X.env :: X.outer) ff3 fl3 fun h4 T4 kp4 fl4 hT4=>?_
 have kp34:=kp3.trans kp4
 have hh4:∀ b ∈ [a,T,T3] ++ [a,T3],s1.heap.get? b = none /\ H2 b = none:=fun b hb=>by
  rcases List.mem_append.mp hb with hb | hb
  ·exact hh3 b hb
  ·exact hh3 b (by rcases List.mem_cons.mp hb with rfl | hb <;> simp_all)
 have I4:=mkE h4 _ kp34 hh4 fl4.at
 refine store_ok I4 hN hi (.inl hl) (v:=.ref a) rfl (fun s5 I5=>?_) (.inr hl)
 refine wpAny_mono (hs (.ref a) pins s5 _ _ _ (I5.suite _) (hsu a aH)) (fun fw s6 q6=>?_) fun _ _ z=>False.elim z
 cases fw with
 | ret u=>obtain ⟨_,_,_,_,_,z⟩:=q6; exact False.elim z
 | brk=>obtain ⟨_,_,_,z⟩:=q6; exact False.elim z
 | cont=>obtain ⟨_,_,_,z⟩:=q6; exact False.elim z
 | next =>
  obtain ⟨σ6,H6,I6',⟨v6,hv6⟩,q6⟩:=q6
  have I6:Inv X pins σ6 H6 s6:=I6'.unsuite I1.ok
  refine wpAny_bind (wpAny_bindName (store_ok I6 hN hi (.inl hl) (v:=.non) rfl (fun s7 I7=>?_) (.inr hl)))
  refine wpAny_onRaise (unbind_ok I7 hN hi hl (v:=.non) ?_ fun s8 I8=>?_)
  ·exact List.getElem?_set_self (List.getElem?_eq_some_iff.mp hv6).1
  ·rw [List.set_set] at I8
   exact ⟨_,H6,I8,q6⟩
def tTryS (C:Addr) (j i:Nat) (sp:Sp) (ta:TA) (ts:TS):TS:=fun D σ H=>ta σ H fun vs H1=>sp vs H1 (fun v H2=>D.nx (σ.set j (some v)) H2) (tSuite C i ts D σ)
theorem ps_tryS {j:Nat} {y:Str} {yp:Pos} (F:FnOk X.prog X.w X.K X.mg X.base (CX1 X.prog X.w) k f fd ps sp) (hr:Room k X.A) (hg:Gl X x) (hm:X.mg x = some (.ref f)) (hk:PySem.W.keepIn X.K (.ref f) = true) (hb:Binds X.K fd ps []) (ha:PA X.nox (e :: es) ta)
  (hj:X.N[j]? = some y) (hy:X.env.scope.names.lookup y = some .local)
  (hgB:Gl X xB) (hmB:X.mg xB = some (.ref CB)) (hex:PySem.W.exmOne X.K (.ref C) (.ref CB) = some true) (hN:X.N.Nodup) (hi:X.N[i]? = some n) (hl:X.env.scope.names.lookup n = some .local)
  (hst:X.stack = X.env :: X.outer) (hfr:X.env.frame = some X.env.locals) (hs:∀ ev,PSs (X.suite ev) (b0 :: suite) ts)
  (hdb:(x == ("__debug__" : Str)) = false:=by decide) (hdB:(xB == ("__debug__" : Str)) = false:=by decide) (he:starEach (e :: es) X.env = (false,eval e X.env) :: starEach es X.env:=by rfl) (hpl:(backTo pos (starEach es X.env)).any (·.1) = false:=by rfl)
  (hsw:swapsWith (.Call (.Name x p) (e :: es) [] pos) (some (.Name y yp)) apos.line X.env = pure false:=by rfl) :
  PS X (.Try [.Assign [.Name y yp] (.Call (.Name x p) (e :: es) [] pos) apos] [.ExceptHandler (some (.Name xB np)) (some n) (b0 :: suite) hpos] [] [] tpos) (tTryS C j i sp ta ts):=by
 intro pins s σ H D I h
 refine wpAny_Try_except (wpAny_execs_cons (wpAny_Assign_Name ?_ hsw))
 refine wpAny_Call_Name_kw (ld_glob I hg hm ?_ hdb)
 refine PySem.W.callWith_K (h₀:=X.base) I.ok.mod.kin hk (wpAny_mono (ha pos pins s σ H _ (I.wish _) h) (fun us s1 ⟨vs,H1,I1',r,q⟩=>?_) fun _ _ z=>False.elim z) he hpl
 have I1:Inv X pins σ H1 s1:=I1'.unwish
 refine ⟨I1.kIn,?_⟩
 have hlen:us.length = ps.length:=by rw [<- r.length]; exact F.len _ _ _ _ q
 refine wpAny_call (codeAny_mono (F.run X.A X.stack s1 H1 ⟨us,[]⟩ us vs _ _ hr I1.env0 (by have:=hb s1 us I1.kIn (by simpa using hlen); simpa using this) r q) fun rr s2 hq=>?_)
 cases rr with
 | ok fl =>
  cases fl with
  | ret u =>
   obtain ⟨v,H2,I2,rv,q2⟩:=I1.after hq
   exact store_ok I2 hN hj (.inl hy) rv (fun s3 I3=>wpAny_execs_nil (wpAny_execs_nil ⟨_,H2,I3,q2⟩)) (.inr hy)
  | next=>exact False.elim hq
  | brk=>exact False.elim hq
  | cont=>exact False.elim hq
 | error ev=>exact handle_ok I1 hq hgB hmB hex hN hi hl hst hfr hs hdB
end
end L2
set_option maxRecDepth 100000
namespace L2
open PySem PySem.Spec PyProof.Rows
end L2
namespace L2
open PySem PySem.Spec PyProof.Rows
section
variable (P:Program) (w:World)
end
section
variable {P:Program} {w:World} {H H':Hp} {h h':Heap} {a:Addr} {o:HO}
end
section
variable {P:Program} {w:World} {H:Hp} {h h':Heap} {x e:Addr} {o':HO}
end
section
variable {fs fs' ex ex':List Addr} {H H1 H2:Hp} {h h1 h2 h':Heap} {a x e:Addr} {o:HO}
end
end L2
namespace L2
open PySem PySem.Spec PyProof.Rows
section
variable {X:Cx} {pins:List (Addr × Obj)} {σ:List (Option V)} {H H':Hp} {s:Shared} {h':Heap}
end
end L2
namespace L2
open PySem PySem.Spec PyProof.Rows
section
variable {X:Cx}
variable {a b:Expr} {ta tb:TE} {pos:Pos}
variable {tA tB':TT} {rest:List Expr}
end
end L2
namespace L2
open PySem PySem.Spec PyProof.Rows
section
variable {X:Cx} {pins:List (Addr × Obj)} {σ:St} {H:Hp} {s:Shared} {a:Addr} {xs ys:List V}
end
section
variable {X:Cx} {pins:List (Addr × Obj)} {σ:St} {H:Hp} {s:Shared} {E:Value -> Shared -> Prop}
end
section
variable {X:Cx} {st:Stmt} {rest:List Stmt} {t u:TS} {e:Expr} {te:TE} {pos:Pos}
end
section
variable {X:Cx} {pos:Pos}
end
section
variable {X:Cx} {pos:Pos}
end
end L2
namespace L2
open PySem PySem.Spec PyProof.Rows
section
variable {X:Cx} {tg:Expr}
end
end L2
namespace L2
open PySem PySem.Spec PyProof.Rows
section
variable {X:Cx} {a b c:Expr} {ta tb tc:TE} {pos:Pos}
end
section
variable {X:Cx} {a b c:Expr} {ta tb tc:TE} {pos:Pos}
end
end L2
namespace L2
open PySem PySem.Spec PyProof.Rows
section
variable {prog:Program} {w:World} {A:Around} {E:Value -> Shared -> Prop} {s:Shared} {K:PySem.W.Frag} {x dx C f:Addr} {mA:Str -> Option Value} {name:Str} {v:Value}
end
section
variable {P:Program} {w:World} {H H':Hp} {h h':Heap} {a C dx:Addr} {fs fs':List (Str × V)}
end
section
variable {X:Cx} {pins:List (Addr × Obj)} {σ:St} {H:Hp} {s:Shared} {a C dx:Addr} {fs:List (Str × V)} {f:Str} {v:V} {A:Around} {E:Value -> Shared -> Prop}
end
section
variable {X:Cx} {o e value:Expr} {f:Str} {pos pos' tpos:Pos} {ta tv:TE}
end
section
variable {X:Cx} {pins:List (Addr × Obj)} {σ:St} {H:Hp} {s:Shared} {A:Around} {E:Value -> Shared -> Prop} {Q:Value -> Shared -> Prop} {c:Value} {b:Bool}
end
end L2
namespace L2
open PySem PySem.Spec PyProof.Rows
section
variable {X:Cx} {e:Expr} {es:List Expr} {te:TE} {t:TA} {pos:Pos}
end
section
variable {X:Cx} {pins:List (Addr × Obj)} {σ:St} {H:Hp} {s s':Shared}
end
section
variable {X:Cx} {CX:CXT} {k:Nat} {f C:Addr} {fd:FuncData} {ps:List Str} {sp:Sp} {dvs:List V} {ds:List Value} {E:XK} {x m:Str} {p pos apos:Pos} {e o:Expr} {es:List Expr} {ta:TE} {t:TA}
end
section
variable {X:Cx} {CX:CXT} {k:Nat} {f C:Addr} {fd:FuncData} {ps ks:List Str} {sp:Sp} {E:XK} {x m:Str} {p pos apos kpos:Pos} {e o:Expr} {es:List Expr} {kws:List Keyword} {te ta:TE} {t tk:TA} {nm:Option Str}
variable {g:List Value -> List Value -> List Value} {gV:List V -> List V -> List V}
end
end L2
namespace L2
open PySem PySem.Spec PyProof.Rows
section
variable {X:Cx} {x:Str} {p pos:Pos} {e:Expr} {es:List Expr} {t:TA} {id T:String} {r:List V -> Hp -> VK -> Prop}
end
end L2
namespace L2
open PySem PySem.Spec PyProof.Rows
section
variable {κ:Type} [DecidableEq κ]
def valV (kvs:List (κ × V)) (k:κ):Option V:=(kvs.find? fun kv=>decide (kv.1 = k)).map (·.2)
def putK (kvs:List (κ × V)) (k:κ) (v:V):List (κ × V) :=
 if (kvs.any fun kv=>decide (kv.1 = k)) = true then kvs.map (fun kv=>if kv.1 = k then (kv.1,v) else kv) else kvs ++ [(k,v)]
theorem valV_pos {p:κ × V} {r:List (κ × V)} {k:κ} (e:p.1 = k):valV (p :: r) k = some p.2:=by simp [valV,List.find?_cons,e]
theorem valV_neg {p:κ × V} {r:List (κ × V)} {k:κ} (e:¬ p.1 = k):valV (p :: r) k = valV r k:=by simp [valV,List.find?_cons,e]
theorem length_putK (kvs:List (κ × V)) (k:κ) (v:V):(putK kvs k v).length <= kvs.length + 1:=by
 unfold putK
 split
 ·rw [List.length_map]; lia
 ·rw [List.length_append,List.length_cons,List.length_nil]; lia
theorem RelO.isSome_eq {o:Option V} {u:Option Value} (r:RelO o u):o.isSome = u.isSome:=by
 cases o with
 | none=>cases u with
  | none=>rfl
  | some _=>exact (show False from r).elim
 | some _=>cases u with
  | none=>exact (show False from r).elim
  | some _=>rfl
theorem KV.val {kvs:List (κ × V)} {vs:List (κ × Value)} (r:KV kvs vs) (k:κ):RelO (valV kvs k) (valueAt vs k):=by
 unfold KV at r
 induction r with
 | nil=>exact True.intro
 | @cons p q ps qs h t ih =>
  obtain ⟨h1,h2⟩:=h
  by_cases e:p.1 = k
  ·have e' : q.1 = k := h1.symm.trans e
   have b:valueAt (q :: qs) k = some q.2:=by simp [valueAt,List.find?_cons,e']
   rw [valV_pos e,b]; exact h2
  ·have e' : ¬ q.1 = k := fun z => e (h1.trans z)
   have b:valueAt (q :: qs) k = valueAt qs k:=by simp [valueAt,List.find?_cons,e']
   rw [valV_neg e,b]; exact ih
theorem KV.any {kvs:List (κ × V)} {vs:List (κ × Value)} (r:KV kvs vs) (k:κ):(kvs.any fun kv=>decide (kv.1 = k)) = vs.any fun kv=>decide (kv.1 = k):=by
 unfold KV at r
 induction r with
 | nil=>rfl
 | cons h t ih=>rw [List.any_cons,List.any_cons,ih,h.1]
theorem KV.repl {kvs:List (κ × V)} {vs:List (κ × Value)} (r:KV kvs vs) (k:κ) {y:V} {u:Value} (ry:RelV y u) :
  KV (kvs.map fun kv=>if kv.1 = k then (kv.1,y) else kv) (vs.map fun kv=>if kv.1 = k then (kv.1,u) else kv):=by
 unfold KV at r ⊢
 induction r with
 | nil=>exact .nil
 | @cons p q ps qs h t ih =>
  rw [List.map_cons,List.map_cons]
  refine .cons ?_ ih
  obtain ⟨h1,h2⟩:=h
  by_cases e:p.1 = k
  ·rw [if_pos e,if_pos (h1.symm.trans e)]; exact ⟨h1,ry⟩
  ·rw [if_neg e,if_neg (fun z=>e (h1.trans z))]; exact ⟨h1,h2⟩
theorem KV.put {kvs:List (κ × V)} {vs:List (κ × Value)} (r:KV kvs vs) (k:κ) {y:V} {u:Value} (ry:RelV y u):KV (putK kvs k y) (stored vs k u):=by
 unfold putK stored
 rw [r.any k]
 by_cases e:(vs.any fun kv=>decide (kv.1 = k)) = true
 ·rw [if_pos e,if_pos e]; exact r.repl k ry
 ·rw [if_neg e,if_neg e]; exact Paired.snoc r ⟨rfl,ry⟩
end
theorem kV_is {P:Program} {w:World} {k:Key} {u:Value} (r:RelV (kV k) u):(mixKind P w).is k u = true:=by
 cases k with
 | inl i=>obtain ⟨t,e⟩:=(show ∃ t,u = Value.int i t from r); subst e; exact mixKind_int P w i t
 | inr x=>obtain ⟨t,e⟩:=(show ∃ t,u = Value.str x t from r); subst e; exact mixKind_str P w x t
theorem items_are {P:Program} {w:World}:∀ {ks:List Key} {us:List Value},Vals (ks.map kV) us -> ItemsAre (mixKind P w) ks us
 | [],_,r=>by rw [List.map_nil] at r; cases r; exact .nil
 | k :: ks,_,r=>by
  rw [List.map_cons] at r
  cases r with
  | cons h t=>exact .cons (kV_is h) (items_are t)
abbrev KT (H:Hp):List (List Key × V) -> List (List Key × Addr × Value) -> Prop:=Paired fun p q=>p.1 = q.1 /\ H q.2.1 = some (.tup (p.1.map kV)) /\ RelV p.2 q.2.2
theorem KT.val {H:Hp} {kvs:List (List Key × V)} {xs:List (List Key × Addr × Value)} (r:KT H kvs xs) (k:List Key):RelO (valV kvs k) ((atKey xs k).map (·.2)):=by
 induction r with
 | nil=>exact True.intro
 | @cons p q ps qs h t ih =>
  obtain ⟨h1,_,h2⟩:=h
  by_cases e:p.1 = k
  ·have e' : q.1 = k := h1.symm.trans e
   have b:atKey (q :: qs) k = some q.2:=by simp [atKey,List.find?_cons,e']
   rw [valV_pos e,b]; exact h2
  ·have e' : ¬ q.1 = k := fun z => e (h1.trans z)
   have b:atKey (q :: qs) k = atKey qs k:=by simp [atKey,List.find?_cons,e']
   rw [valV_neg e,b]; exact ih
section
variable {P:Program} {w:World} {H:Hp} {h:Heap} {a:Addr}
theorem rd_of {u:HO} (ok:HOk P w H h) (e:Rd H a u):ObjOk P w H h a u:=e.ok ok
theorem dk_rd {kvs:List (Key × V)} (ok:HOk P w H h) (e:Rd H a (.dK kvs)):kvs.length <= sizeLine /\ (a == sysModules) = false /\ ∃ vs,KV kvs vs /\ h.DictOf (mixKind P w) a vs :=
 show ObjOk P w H h a (.dK kvs) from rd_of ok e
theorem dk_of {kvs:List (Key × V)} (ok:HOk P w H h) (e:H a = some (.dK kvs)):kvs.length <= sizeLine /\ (a == sysModules) = false /\ ∃ vs,KV kvs vs /\ h.DictOf (mixKind P w) a vs:=dk_rd ok (.inl e)
theorem key_of {ks:List Key} (ok:HOk P w H h) (e:H a = some (.tup (ks.map kV))):(tupleKind (mixKind P w)).is h ks a:=by
 obtain ⟨_,its,r,o,h1,h2,n,h3⟩:=(show ObjOk P w H h a (.tup (ks.map kV)) from ok a _ e)
 exact ⟨o,its.toArray,n,h1,h2,h3,by simpa using items_are r⟩
theorem dt_rd {kvs:List (List Key × V)} (ok:HOk P w H h) (e:Rd H a (.dT kvs)):kvs.length <= sizeLine /\ (a == sysModules) = false /\
  ∃ xs,KT H kvs xs /\ h.DictOfH (tupleKind (mixKind P w)) a xs:=by
 obtain ⟨z,y,xs,r,o,es,ep,h1,h2,h3,h4,h5⟩:=(show ObjOk P w H h a (.dT kvs) from rd_of ok e)
 refine ⟨z,y,xs,r,o,es,ep,h1,h2,h3,h4,fun x hx=>?_,h5⟩
 have all:∀ {l:List (List Key × V)} {m:List (List Key × Addr × Value)},KT H l m -> ∀ x ∈ m,(tupleKind (mixKind P w)).is h x.1 x.2.1:=by
  intro l m q
  induction q with
  | nil=>intro x hx; exact nomatch hx
  | @cons p q ps qs hq t ih =>
   intro x hx
   rcases List.mem_cons.mp hx with e | hx
   ·subst e
    exact key_of ok (by rw [<- hq.1]; exact hq.2.1)
   ·exact ih x hx
 exact all r x hx
end
def DGet (H:Hp) (a:Addr) (y:V) (r:Option V):Prop :=
 (∃ kvs k,Rd H a (.dK kvs) /\ y = kV k /\ r = valV kvs k) \/ ∃ kvs k b,Rd H a (.dT kvs) /\ y = .ref b /\ H b = some (.tup (k.map kV)) /\ r = valV kvs k
theorem DGet.k {H:Hp} {a:Addr} {kvs:List (Key × V)} {k:Key} (e:H a = some (.dK kvs)):DGet H a (kV k) (valV kvs k):=.inl ⟨kvs,k,.inl e,rfl,rfl⟩
section
variable {X:Cx} {pins:List (Addr × Obj)} {σ:St} {H:Hp} {s:Shared} {a:Addr} {y v:V} {u r:Value} {o:Option V} {A:Around} {E:Value -> Shared -> Prop}
theorem Inv.big (I:Inv X pins σ H s):sysModules < s.heap.objs.size:=by
 have h:mainGlobals < s.heap.objs.size:=(I.mod.glob.keeps I.bk).lt
 exact Nat.lt_trans (by decide) h
theorem d_getItem {Q:Value -> Shared -> Prop} (hu:A.units + 1 < cLine) (I:Inv X pins σ H s) (g:DGet H a y (some v)) (ry:RelV y u) (h:∀ w' s',Inv X pins σ H s' -> RelV v w' -> Q w' s') :
  wpAny (model X.prog X.w) A (getItem (.ref a) u) Q E s:=by
 rcases g with ⟨kvs,k,e,ey,l⟩ | ⟨kvs,k,b,e,ey,eb,l⟩
 ·subst ey
  obtain ⟨z,hd,vs,rel,dd⟩:=dk_rd I.hok e
  obtain ⟨w',hw,rw'⟩:=RelO.some_of (v:=v) (o:=valueAt vs k) (by rw [l]; exact rel.val k)
  exact wpAny_getItem_of (kV_is ry) dd.mapOf hw (h w' _ (I.tok _) rw')
 ·subst ey
  cases (show u = Value.ref b from ry)
  obtain ⟨z,hd,xs,rel,dd⟩:=dt_rd I.hok e
  obtain ⟨w',hw,rw'⟩:=RelO.some_of (v:=v) (o:=(atKey xs k).map (·.2)) (by rw [l]; exact rel.val k)
  obtain ⟨p,hp,hp2⟩:=Option.map_eq_some_iff.mp hw
  refine wpAny_getItem_heap (tupleKind_room_in1 hu) (key_of I.hok eb) dd hp ?_
  rw [hp2]
  exact h w' _ (I.tok _) rw'
theorem d_notIn {Q:Value -> Shared -> Prop} (hu:A.units + 1 < cLine) (I:Inv X pins σ H s) (g:DGet H a y o) (ry:RelV y u) (h:∀ s',Inv X pins σ H s' -> Q (.bool (!o.isSome)) s') :
  wpAny (model X.prog X.w) A (compareOp .NotIn u (.ref a)) Q E s:=by
 rcases g with ⟨kvs,k,e,ey,l⟩ | ⟨kvs,k,b,e,ey,eb,l⟩
 ·subst ey
  obtain ⟨z,hd,vs,rel,dd⟩:=dk_rd I.hok e
  refine wpAny_notIn_of (kV_is ry) hd dd.mapOf ?_
  rw [<- (rel.val k).isSome_eq,<- l]
  exact h _ (I.tok _)
 ·subst ey
  cases (show u = Value.ref b from ry)
  obtain ⟨z,hd,xs,rel,dd⟩:=dt_rd I.hok e
  refine wpAny_notIn_heap (tupleKind_room_in1 hu) (key_of I.hok eb) hd dd ?_
  have q:=(rel.val k).isSome_eq
  rw [Option.isSome_map] at q
  rw [<- q,<- l]
  exact h _ (I.tok _)
theorem d_write {h':Heap} {t':Nat} {ob:HO} (I:Inv X pins σ H s) (mu:Mut (H a)) (hs:Heap.SameBut a s.heap h') (he:∃ q,h'.get? a = some q) (new:ObjOk X.prog X.w (upd H a ob) h' a ob) :
  Inv X pins σ (upd H a ob) { s with heap:=h',toks:=t' } :=
 I.write (x:=a) (e:=a) mu (.inl rfl) (fun b q hb z=>(hs.2 b hb).trans z) he new
theorem dk_new {P:Program} {w:World} {H':Hp} {h':Heap} {kvs:List (Key × V)} {vs:List (Key × Value)} (z:kvs.length <= sizeLine) (hd:(a == sysModules) = false) (rel:KV kvs vs) (dd:h'.DictOf (mixKind P w) a vs) :
  ObjOk P w H' h' a (.dK kvs):=⟨z,hd,vs,rel,dd⟩
end
section
variable {X:Cx} {pins:List (Addr × Obj)} {σ:St} {H:Hp} {s:Shared} {a:Addr} {kvs:List (Key × V)} {k:Key} {u:Value} {A:Around} {E:Value -> Shared -> Prop}
end
def NoSl (i:Expr):Prop:=∀ ov iv,subscripted i false ov iv = operate [ov,iv] (getItem ov iv)
theorem subD_of {prog:Program} {w:World} {A:Around} {E:Value -> Shared -> Prop} {s:Shared} {env:Env} {value slice:Expr} {pos:Pos} {T id:String} {Q:Value -> Shared -> Prop}
  (hl:typeLookup (.type T) "__getitem__" = pure (some (.builtin id))) (hs:NoSl slice)
  (h:wpAny (model prog w) A (eval value env) (fun o s₁=>wpAny (model prog w) A (eval slice env) (fun i s₂=>s₂.TypeIs o T /\ wpAny (model prog w) A (getItem o i) Q E s₂) E s₁) E s) :
  wpAny (model prog w) A (eval (.Subscript value slice pos) env) Q E s:=by
 refine Subscript_ (wpAny_mono h (fun o s₁ h₁=>wpAny_mono h₁ (fun i s₂ h₂=>?_) fun _ _ x=>x) fun _ _ x=>x)
 obtain ⟨hT,h₂⟩:=h₂
 unfold subscriptTail
 refine wpAny_bind ?_
 rw [getitemInPython_of_ne hT.not_modules]
 refine wpAny_bind (wpAny_specialOf hT hl ?_)
 have fin:wpAny (model prog w) A (subscripted slice false o i) (fun r s₃=>wpAny (model prog w) A (letTemporaryGo value o r >>= fun _=>pure r) Q E s₃) E s₂:=by
  rw [hs o i]
  exact wpAny_operating (wpAny_mono h₂ (fun r s₃ h₃=>wpAny_bind (wpAny_letTemporaryGo (wpAny_pure h₃))) fun _ _ x=>x)
 first
  | exact wpAny_pure (wpAny_bind fin)
  | exact wpAny_bind (wpAny_pure (wpAny_bind fin))
  | exact wpAny_bind fin
theorem dict_typeIs {X:Cx} {pins:List (Addr × Obj)} {σ:St} {H:Hp} {s:Shared} {a:Addr} {y:V} {o:Option V} (I:Inv X pins σ H s) (g:DGet H a y o):s.TypeIs (.ref a) "dict" := by
 rcases g with ⟨kvs,k,e,_,_⟩ | ⟨kvs,k,b,e,_,_,_⟩
 ·obtain ⟨_, _, vs, _, dd⟩ := dk_rd I.hok e
  exact dd.typeIs
 ·obtain ⟨_, _, xs, _, dd⟩ := dt_rd I.hok e
  exact dd.typeIs
def tDGet (td ty:TE):TE:=fun σ H Q=>td σ H fun x H1=>ty σ H1 fun y H2=>∃ a v,x = .ref a /\ DGet H2 a y (some v) /\ Q v H2
section
variable {X:Cx} {o i e value:Expr} {pos pos' tpos:Pos} {td ty tv:TE}
theorem pe_dget (hu:X.A.units + 1 < cLine) (ho:PE X o td) (hi:PE X i ty) (hs:NoSl i):PE X (.Subscript o i pos) (tDGet td ty):=by
 intro pins s σ H Q I h
 refine subD_of PySem.F.slot_dict_getitem.lookup hs (thn (ho pins s σ H _ I h) fun u s1 ⟨x,H1,I1,rx,q1⟩=>thn (hi pins s1 σ H1 _ I1 q1) fun iv s2 ⟨y,H2,I2,ry,a,v,ex,g,q2⟩=>?_)
 subst ex
 obtain rfl:u = Value.ref a:=rx
 exact ⟨dict_typeIs I2 g,d_getItem hu I2 g ry fun w' s3 I3 rw'=>⟨v,H2,I3,rw',q2⟩⟩
end
theorem dk_empty {P:Program} {w:World} {H:Hp} (h:Heap) (hb:sysModules < h.objs.size):ObjOk P w H (h.push { cls:=.type "dict",data:=.dict #[] }) h.objs.size (.dK []) :=
 ⟨Nat.zero_le _,beq_eq_false_iff_ne.mpr (Ne.symm (Nat.ne_of_lt hb)),[],.nil,Heap.DictOf.new h⟩
section
variable {X:Cx} {pos:Pos}
end
def tPairs:List (TE × TE) -> St -> Hp -> (List (V × V) -> Hp -> Prop) -> Prop
 | [],_,H,Q=>Q [] H
 | (tk,tv) :: r,σ,H,Q=>tk σ H fun x H1=>tv σ H1 fun y H2=>tPairs r σ H2 fun ps H3=>Q ((x,y) :: ps) H3
abbrev VV:List (V × V) -> List (Value × Value) -> Prop:=Paired fun p q=>RelV p.1 q.1 /\ RelV p.2 q.2
def PPs (X:Cx) (pos:Pos) (keys:List (Option Expr)) (values:List Expr) (trs:List (TE × TE)):Prop :=
 ∀ (pins:List (Addr × Obj)) (s:Shared) (σ:St) (H:Hp) (Q:List (V × V) -> Hp -> Prop),Inv X pins σ H s -> tPairs trs σ H Q ->
  wpAny (model X.prog X.w) X.A (evalPairs (pairTrees keys values X.env pos)) (fun vs s'=>∃ ps H',Inv X pins σ H' s' /\ VV ps vs /\ Q ps H') X.xe s
theorem pps_nil {X:Cx} {pos:Pos}:PPs X pos [] [] []:=fun pins s σ H Q I h=>pairTrees_nil_walk ⟨[],H,I,.nil,h⟩
theorem pps_cons {X:Cx} {pos:Pos} {k v:Expr} {ks:List (Option Expr)} {vs:List Expr} {tk tv:TE} {trs:List (TE × TE)} (hk:PE X k tk) (hv:PE X v tv) (hr:PPs X pos ks vs trs) :
  PPs X pos (some k :: ks) (v :: vs) ((tk,tv) :: trs):=fun pins s σ H Q I h =>
 pairTrees_cons_walk (thn (hk pins s σ H _ I h) fun u s1 ⟨x,H1,I1,rx,q1⟩=>thn (hv pins s1 σ H1 _ I1 q1) fun w2 s2 ⟨y,H2,I2,ry,q2⟩ =>
  thn (hr pins s2 σ H2 _ I2 q2) fun ws s3 ⟨ps,H3,I3,rel,q3⟩=>⟨(x,y) :: ps,H3,I3,.cons ⟨rx,ry⟩ rel,q3⟩)
def mergeK (kvs more:List (Key × V)):List (Key × V):=more.foldl (fun acc kv=>putK acc kv.1 kv.2) kvs
theorem KV.merge:∀ {more:List (Key × V)} {rs:List (Key × Value)} {kvs:List (Key × V)} {vs:List (Key × Value)},KV more rs -> KV kvs vs -> KV (mergeK kvs more) (merged vs rs):=by
 intro more rs kvs vs r
 unfold KV at r
 induction r generalizing kvs vs with
 | nil=>intro q; exact q
 | @cons p q ps qs h t ih =>
  intro r0
  have e:KV (putK kvs p.1 p.2) (stored vs q.1 q.2):=by
   have:=r0.put p.1 h.2
   rw [<- h.1]; exact this
  exact ih e
theorem length_mergeK:∀ (more kvs:List (Key × V)),(mergeK kvs more).length <= kvs.length + more.length
 | [],kvs=>by show kvs.length <= kvs.length + 0; lia
 | p :: r,kvs=>by
  have h1:=length_mergeK r (putK kvs p.1 p.2)
  have h2:=length_putK kvs p.1 p.2
  show (mergeK (putK kvs p.1 p.2) r).length <= _
  rw [List.length_cons]; lia
theorem carries_of {P:Program} {w:World}:∀ {kvs:List (Key × V)} {ws:List (Value × Value)},VV (kvs.map fun kv=>(kV kv.1,kv.2)) ws -> ∃ rs,Carries (mixKind P w) ws rs /\ KV kvs rs
 | [],_,r=>by rw [List.map_nil] at r; cases r; exact ⟨[],True.intro,.nil⟩
 | p :: kvs, _, r => by
  rw [List.map_cons] at r
  cases r with
  | @cons a b as bs h t =>
   obtain ⟨rs,c,q⟩:=carries_of (P:=P) (w:=w) t
   obtain ⟨b1,b2⟩:=b
   exact ⟨(p.1,b2) :: rs,⟨kV_is h.1,rfl,c⟩,.cons ⟨rfl,h.2⟩ q⟩
def tDisp (trs:List (TE × TE)):TE:=fun σ H Q=>∀ p,H p = none -> tPairs trs σ (upd H p (.dK [])) fun ps H2=>H2 p = some (.dK []) /\ ∃ kvs:List (Key × V),ps = kvs.map (fun kv=>(kV kv.1,kv.2)) /\ kvs.length <= 15 /\ Q (.ref p) (upd H2 p (.dK (mergeK [] kvs)))
theorem pe_disp {X:Cx} {pos:Pos} {keys:List (Option Expr)} {values:List Expr} {trs:List (TE × TE)} (h:PPs X pos keys values trs) (hall:keys.all (·.isSome) = true) (hl:keys.length = values.length) (h0:keys ≠ [])
  (h15:keys.length <= 15):PE X (.Dict keys values pos) (tDisp trs):=by
 intro pins s σ H Q I q
 have hn:=I.hok.fresh (Nat.le_refl s.heap.objs.size)
 have I1:=I.laid (a:=s.heap.objs.size) (o:=.dK []) (h':=s.heap.push { cls:=.type "dict",data:=.dict #[] }) (t':=s.toks) (fun _ _ q=>Heap.get?_push_of_some _ q) (Nat.le_refl _) (dk_empty s.heap I.big)
 refine wpAny_Dict_walk (knd:=mixKind X.prog X.w) hall hl h0 h15 (thn (h pins _ σ _ _ I1 (q _ hn)) fun ws s2 ⟨ps,H2,I2,rel,e,kvs,ep,lk,q2⟩=>?_)
 subst ep
 obtain ⟨rs,c,rk⟩:=carries_of (P:=X.prog) (w:=X.w) rel
 obtain ⟨z,hd,vs0,r0,dd⟩:=dk_of I2.hok e
 cases r0
 refine ⟨rs,c,dd,fun h' dd' hs=>⟨.ref s.heap.objs.size,_,?_,rfl,q2⟩⟩
 have hz:(mergeK [] kvs).length <= sizeLine:=by
  have h1:=length_mergeK kvs []
  rw [List.length_nil] at h1
  rw [sizeLine_eq]; lia
 have he:∃ q,h'.get? s.heap.objs.size = some q:=let ⟨q,_,_,hq,_⟩:=dd'; ⟨q,hq⟩
 exact d_write I2 (by rw [e]; exact True.intro) hs he (dk_new hz hd (rk.merge .nil) dd')
section
variable {X:Cx} {pins:List (Addr × Obj)} {σ:St} {H:Hp} {s:Shared} {a:Addr} {y d:V} {u r:Value} {o:Option V} {A:Around} {E:Value -> Shared -> Prop}
end
section
variable {X:Cx} {o e f:Expr} {apos cpos:Pos} {td ty tx:TE}
end
section
variable {X:Cx} {pins:List (Addr × Obj)} {σ:St} {H:Hp} {s:Shared} {a:Addr} {kvs:List (Key × V)} {A:Around} {E:Value -> Shared -> Prop}
end
section
variable {X:Cx} {pins:List (Addr × Obj)} {σ:St} {H:Hp} {s:Shared} {a:Addr} {y:V} {u:Value} {A:Around} {E:Value -> Shared -> Prop}
end
end L2
namespace Att
open PySem PySem.W PySem.Calls PyProof.Rows
section
variable {prog:Program} {w:World} {A:Around} {E:Value -> Shared -> Prop} {s:Shared} {K:Frag}
end
end Att
namespace L2
open PySem PySem.Spec PyProof.Rows
end L2
namespace L2
open PySem PySem.Spec PyProof.Rows
end L2
namespace L2
open PySem PySem.Spec PyProof.Rows
section
variable {P:Program} {w:World} {K:PySem.W.Frag} {mg:Str -> Option Value} {base:Heap}
end
section
variable {X:Cx}
end
section
variable {κ:Type} [DecidableEq κ]
end
end L2
set_option maxRecDepth 100000
namespace L2
open PySem PySem.Spec PyProof.Rows
section
variable {prog:Program} {w:World} {A:Around} {R:Result -> Shared -> Prop} {s:Shared}
end
section
variable {X:Cx} {scope:Scope} {own M:List Str} {pins:List (Addr × Obj)} {σ:St} {H2:Hp} {s2:Shared} {fp:List Addr}
end
section
variable {X:Cx} {scope:Scope} {own M:List Str} {pins:List (Addr × Obj)} {σ:St} {H2:Hp} {s2:Shared} {tg iter kx vx:Expr} {ifs:List Expr} {pos:Pos} {g:TG} {tt:TT} {tk tv:TE}
end
end L2
set_option maxRecDepth 100000
namespace L2
open PySem PySem.Spec PyProof.Rows
inductive D where
 | non | bl (b:Bool) | int (i:Int) | str (x:Str) | ty (n:String) | tup (ds:List D) | lst (ds:List D)
 /-- a list that is known and stays -/
 | fz (ds:List D)
 /-- the list that the drawing keeps -/
 | st
 /-- a list of the frame's own (in a slot alone) -/
 | own (ds:List D)
 /-- a dict, whatever it holds -/
 | dic
 /-- an exception that was caught, of the class at C -/
 | exc (C:Addr)
 /-- a dict, known, that stays -/
 | dct (ks:List Key) (ds:List D)
def kvsV (ks:List Key) (xs:List V):List (Key × V):=List.zipWith (fun k x=>(k,x)) ks xs
abbrev hNone:Hp:=fun _=>none
def SqZ (K:PySem.W.Frag) (Z:Addr -> Prop) (H:Hp) (b:Bool) (a:Addr) (xs:List V):Prop :=
 match b with
 | true=>¬ Z a /\ H a = some (.lst xs)
 | false=>(¬ Z a /\ Rd H a (.tup xs)) \/ SqT K hNone a xs
def SqF (K:PySem.W.Frag) (Z:Addr -> Prop) (H:Hp) (a:Addr) (xs:List V):Prop:=(¬ Z a /\ ∃ o,H a = some (.frz o (.lst xs))) \/ SqL K hNone a xs
mutual
def Rep (K:PySem.W.Frag) (G:Option Addr) (Z:Addr -> Prop) (H:Hp):D -> V -> Prop
 | .non,v=>v = .non
 | .bl b,v=>v = .bl b
 | .int i,v=>v = .int i
 | .str x,v=>v = .str x
 | .ty n,v=>v = .ty n
 | .tup ds,v=>∃ a xs,v = .ref a /\ SqZ K Z H false a xs /\ Reps K G Z H ds xs
 | .lst ds,v=>∃ a xs,v = .ref a /\ SqZ K Z H true a xs /\ Reps K G Z H ds xs
 | .fz ds,v=>∃ a xs,v = .ref a /\ SqF K Z H a xs /\ Reps K G Z H ds xs
 | .st,v=>∃ a,G = some a /\ v = .ref a
 | .own _,_=>False
 | .dic,v=>∃ a kvs,v = .ref a /\ ¬ Z a /\ H a = some (.dK kvs)
 | .exc C,v=>∃ a,v = .ref a /\ ¬ Z a /\ H a = some (.exc a C)
 | .dct ks ds,v=>∃ a xs,v = .ref a /\ (¬ Z a /\ H a = some (.dK (kvsV ks xs))) /\ Reps K G Z H ds xs
def Reps (K:PySem.W.Frag) (G:Option Addr) (Z:Addr -> Prop) (H:Hp):List D -> List V -> Prop
 | [],vs=>vs = []
 | d :: ds,vs=>∃ v r,vs = v :: r /\ Rep K G Z H d v /\ Reps K G Z H ds r
end
section
variable {K:PySem.W.Frag} {G:Option Addr} {Z Z':Addr -> Prop} {H H':Hp}
theorem SqT.anyH {a:Addr} {xs:List V} (h:SqT K hNone a xs):SqT K H a xs:=by
 rcases h with (h | ⟨o,h⟩) | h
 ·cases h
 ·cases h
 ·exact .inr h
theorem SqZ.sq {b:Bool} {a:Addr} {xs:List V} (h:SqZ K Z H b a xs):SqB K b H a xs:=by
 cases b with
 | true=>exact SqL.of h.2
 | false =>
  rcases h with ⟨_,h⟩ | h
  ·exact .inl h
  ·exact SqT.anyH h
theorem SqZ.mono {b:Bool} {a:Addr} {xs:List V} (h:SqZ K Z H b a xs) (hz:∀ a,H a ≠ none -> Z' a -> Z a) (hf:∀ a o,¬ Z a -> H a = some o -> H' a = some o):SqZ K Z' H' b a xs:=by
 cases b with
 | true=>exact ⟨fun z=>h.1 (hz a (by rw [h.2]; simp) z),hf a _ h.1 h.2⟩
 | false =>
  rcases h with ⟨n,h⟩ | h
  ·refine .inl ⟨fun z => n (hz a ?_ z), ?_⟩
   ·rcases h with h | ⟨o,h⟩ <;> (rw [h]; simp)
   ·rcases h with h | ⟨o, h⟩
    ·exact .inl (hf a _ n h)
    ·exact .inr ⟨o,hf a _ n h⟩
  ·exact .inr h
mutual
theorem Rep.mono (hz:∀ a,H a ≠ none -> Z' a -> Z a) (hf:∀ a o,¬ Z a -> H a = some o -> H' a = some o):∀ (d:D) (v:V),Rep K G Z H d v -> Rep K G Z' H' d v
 | .non,v,h=>by unfold Rep at h ⊢; exact h
 | .bl b,v,h=>by unfold Rep at h ⊢; exact h
 | .int b,v,h=>by unfold Rep at h ⊢; exact h
 | .str b,v,h=>by unfold Rep at h ⊢; exact h
 | .ty b,v,h=>by unfold Rep at h ⊢; exact h
 | .st,v,h=>by unfold Rep at h ⊢; exact h
 | .own _,v,h=>by unfold Rep at h; exact h.elim
 | .dic,v,h=>by
  unfold Rep at h ⊢
  obtain ⟨a,kvs,e,n,q⟩:=h
  exact ⟨a,kvs,e,fun z=>n (hz a (by rw [q]; simp) z),hf a _ n q⟩
 | .exc C,v,h=>by
  unfold Rep at h ⊢
  obtain ⟨a,e,n,q⟩:=h
  exact ⟨a,e,fun z=>n (hz a (by rw [q]; simp) z),hf a _ n q⟩
 | .dct ks ds,v,h=>by
  unfold Rep at h ⊢
  obtain ⟨a,xs,e,⟨n,q⟩,r⟩:=h
  exact ⟨a,xs,e,⟨fun z=>n (hz a (by rw [q]; simp) z),hf a _ n q⟩,Reps.mono hz hf ds xs r⟩
 | .tup ds,v,h=>by
  unfold Rep at h ⊢
  obtain ⟨a,xs,e,q,r⟩:=h
  exact ⟨a,xs,e,q.mono hz hf,Reps.mono hz hf ds xs r⟩
 | .lst ds,v,h=>by
  unfold Rep at h ⊢
  obtain ⟨a,xs,e,q,r⟩:=h
  exact ⟨a,xs,e,q.mono hz hf,Reps.mono hz hf ds xs r⟩
 | .fz ds,v,h=>by
  unfold Rep at h ⊢
  obtain ⟨a,xs,e,q,r⟩:=h
  refine ⟨a,xs,e,?_,Reps.mono hz hf ds xs r⟩
  rcases q with ⟨n,o,q⟩ | q
  ·exact .inl ⟨fun z=>n (hz a (by rw [q]; simp) z),o,hf a _ n q⟩
  ·exact .inr q
theorem Reps.mono (hz:∀ a,H a ≠ none -> Z' a -> Z a) (hf:∀ a o,¬ Z a -> H a = some o -> H' a = some o):∀ (ds:List D) (vs:List V),Reps K G Z H ds vs -> Reps K G Z' H' ds vs
 | [],vs,h=>by unfold Reps at h ⊢; exact h
 | d :: ds,vs,h=>by
  unfold Reps at h ⊢
  obtain ⟨v,r,e,q,t⟩:=h
  exact ⟨v,r,e,Rep.mono hz hf d v q,Reps.mono hz hf ds r t⟩
end
theorem Reps.nil:Reps K G Z H [] []:=by unfold Reps; rfl
theorem Reps.cons {d:D} {ds:List D} {v:V} {vs:List V} (h:Rep K G Z H d v) (t:Reps K G Z H ds vs):Reps K G Z H (d :: ds) (v :: vs):=by unfold Reps; exact ⟨v,vs,rfl,h,t⟩
theorem Reps.inv {d:D} {ds:List D} {v:V} {vs:List V} (h:Reps K G Z H (d :: ds) (v :: vs)):Rep K G Z H d v /\ Reps K G Z H ds vs:=by
 unfold Reps at h
 obtain ⟨v',r,e,q,t⟩:=h
 cases e
 exact ⟨q,t⟩
theorem Reps.split {d:D} {ds:List D} {vs:List V} (h:Reps K G Z H (d :: ds) vs):∃ v r,vs = v :: r /\ Rep K G Z H d v /\ Reps K G Z H ds r:=by unfold Reps at h; exact h
theorem Reps.nil_inv {vs:List V} (h:Reps K G Z H [] vs):vs = []:=by unfold Reps at h; exact h
theorem Reps.length:∀ {ds:List D} {vs:List V},Reps K G Z H ds vs -> vs.length = ds.length
 | [],vs,h=>by rw [h.nil_inv]; rfl
 | d :: ds,vs,h=>by
  obtain ⟨v,r,rfl,_,t⟩:=h.split
  rw [List.length_cons,List.length_cons,Reps.length t]
theorem Reps.get:∀ {ds:List D} {vs:List V} {i:Nat} {d:D},Reps K G Z H ds vs -> ds[i]? = some d -> ∃ v,vs[i]? = some v /\ Rep K G Z H d v
 | [],vs,i,d,_,e=>by simp at e
 | c :: ds,vs,0,d,h,e=>by
  obtain ⟨v,r,rfl,q,t⟩:=h.split
  simp at e; subst e
  exact ⟨v,rfl,q⟩
 | c :: ds,vs,i + 1,d,h,e=>by
  obtain ⟨v,r,rfl,q,t⟩:=h.split
  obtain ⟨u,e1,e2⟩:=Reps.get (i:=i) t (by simpa using e)
  exact ⟨u,by simpa using e1,e2⟩
theorem Reps.append:∀ {ds es:List D} {vs ws:List V},Reps K G Z H ds vs -> Reps K G Z H es ws -> Reps K G Z H (ds ++ es) (vs ++ ws)
 | [],es,vs,ws,h,h'=>by rw [h.nil_inv]; exact h'
 | d :: ds,es,vs,ws,h,h'=>by
  obtain ⟨v,r,rfl,q,t⟩:=h.split
  exact .cons q (Reps.append t h')
theorem Reps.drop:∀ {ds:List D} {vs:List V} (n:Nat),Reps K G Z H ds vs -> Reps K G Z H (ds.drop n) (vs.drop n)
 | ds,vs,0,h=>h
 | [],vs,n + 1,h=>by rw [h.nil_inv]; exact .nil
 | d :: ds,vs,n + 1,h=>by
  obtain ⟨v,r,rfl,q,t⟩:=h.split
  exact Reps.drop n t
theorem Reps.take:∀ {ds:List D} {vs:List V} (n:Nat),Reps K G Z H ds vs -> Reps K G Z H (ds.take n) (vs.take n)
 | ds,vs,0,h=>.nil
 | [],vs,n + 1,h=>by rw [h.nil_inv]; exact .nil
 | d :: ds,vs,n + 1,h=>by
  obtain ⟨v,r,rfl,q,t⟩:=h.split
  exact .cons q (Reps.take n t)
theorem Reps.set {d:D} {v:V} (hr:Rep K G Z H d v):∀ {ds:List D} {vs:List V} (n:Nat),Reps K G Z H ds vs -> Reps K G Z H (ds.set n d) (vs.set n v)
 | [],vs,n,h=>by rw [h.nil_inv]; exact .nil
 | c :: ds,vs,0,h=>by
  obtain ⟨u,r,rfl,q,t⟩:=h.split
  exact .cons hr t
 | c :: ds,vs,n + 1,h=>by
  obtain ⟨u,r,rfl,q,t⟩:=h.split
  exact .cons q (Reps.set hr n t)
end
def scalD:D -> Bool
 | .non=>true | .bl _=>true | .int _=>true | .str _=>true | .ty _=>true | _=>false
def ofS:D -> V
 | .bl b=>.bl b | .int i=>.int i | .str x=>.str x | .ty n=>.ty n | _=>.non
theorem Rep.ofS {K:PySem.W.Frag} {G:Option Addr} {Z:Addr -> Prop} {H:Hp}:∀ {d:D},scalD d = true -> Rep K G Z H d (ofS d)
 | .non,_=>by unfold Rep; rfl
 | .bl b,_=>by unfold Rep; rfl
 | .int b,_=>by unfold Rep; rfl
 | .str b,_=>by unfold Rep; rfl
 | .ty b,_=>by unfold Rep; rfl
 | .tup ds,h=>by simp [scalD] at h
 | .lst ds,h=>by simp [scalD] at h
 | .st,h=>by simp [scalD] at h
 | .fz ds,h=>by simp [scalD] at h
 | .own ds,h=>by simp [scalD] at h
theorem Rep.toS {K:PySem.W.Frag} {G:Option Addr} {Z:Addr -> Prop} {H:Hp} {v:V}:∀ {d:D},scalD d = true -> Rep K G Z H d v -> v = L2.ofS d
 | .non,_,h=>by unfold Rep at h; exact h
 | .bl b,_,h=>by unfold Rep at h; exact h
 | .int b,_,h=>by unfold Rep at h; exact h
 | .str b,_,h=>by unfold Rep at h; exact h
 | .ty b,_,h=>by unfold Rep at h; exact h
 | .tup ds,h,_=>by simp [scalD] at h
 | .lst ds,h,_=>by simp [scalD] at h
 | .st,h,_=>by simp [scalD] at h
 | .fz ds,h,_=>by simp [scalD] at h
 | .own ds,h,_=>by simp [scalD] at h
theorem Rep.int_inv {K:PySem.W.Frag} {G:Option Addr} {Z:Addr -> Prop} {H:Hp} {v:V} {i:Int} (h:Rep K G Z H (.int i) v):v = .int i:=by unfold Rep at h; exact h
theorem Rep.bl_inv {K:PySem.W.Frag} {G:Option Addr} {Z:Addr -> Prop} {H:Hp} {v:V} {i:Bool} (h:Rep K G Z H (.bl i) v):v = .bl i:=by unfold Rep at h; exact h
theorem Rep.tup_inv {K:PySem.W.Frag} {G:Option Addr} {Z:Addr -> Prop} {H:Hp} {v:V} {ds:List D} (h:Rep K G Z H (.tup ds) v):∃ a xs,v = .ref a /\ SqZ K Z H false a xs /\ Reps K G Z H ds xs:=by unfold Rep at h; exact h
theorem Rep.lst_inv {K:PySem.W.Frag} {G:Option Addr} {Z:Addr -> Prop} {H:Hp} {v:V} {ds:List D} (h:Rep K G Z H (.lst ds) v):∃ a xs,v = .ref a /\ SqZ K Z H true a xs /\ Reps K G Z H ds xs:=by unfold Rep at h; exact h
theorem Rep.fz_inv {K:PySem.W.Frag} {G:Option Addr} {Z:Addr -> Prop} {H:Hp} {v:V} {ds:List D} (h:Rep K G Z H (.fz ds) v):∃ a xs,v = .ref a /\ SqL K H a xs /\ Reps K G Z H ds xs:=by
 unfold Rep at h
 obtain ⟨a,xs,e,q,r⟩:=h
 refine ⟨a,xs,e,?_,r⟩
 rcases q with ⟨_,o,q⟩ | q
 ·exact .inl (.inr ⟨o,q⟩)
 ·rcases q with (q | ⟨o, q⟩) | q
  ·cases q
  ·cases q
  ·exact .inr q
theorem Rep.tup_mk {K:PySem.W.Frag} {G:Option Addr} {Z:Addr -> Prop} {H:Hp} {a:Addr} {xs:List V} {ds:List D} (q:SqZ K Z H false a xs) (r:Reps K G Z H ds xs):Rep K G Z H (.tup ds) (.ref a):=by unfold Rep; exact ⟨a,xs,rfl,q,r⟩
theorem Rep.lst_mk {K:PySem.W.Frag} {G:Option Addr} {Z:Addr -> Prop} {H:Hp} {a:Addr} {xs:List V} {ds:List D} (q:SqZ K Z H true a xs) (r:Reps K G Z H ds xs):Rep K G Z H (.lst ds) (.ref a):=by unfold Rep; exact ⟨a,xs,rfl,q,r⟩
def StOk (G:Option Addr) (n:Nat) (H:Hp):Prop:=∀ a,G = some a -> ∃ (zs:List Int) (_ _:Nat),H a = some (.lst (zs.map V.int)) /\ zs.length = n /\ (∀ x ∈ zs,0 <= x) /\ ∀ x,zs[1]? = some x -> x < 2147483647
structure AC where
 K:PySem.W.Frag
 G:Option Addr
 Z0:Addr -> Prop
 H0:Hp
abbrev Rho:=List (Option D)
def Zof (A:AC) (os:List (Nat × Addr)):Addr -> Prop:=fun a=>A.Z0 a \/ ∃ p ∈ os,p.2 = a
def SlotR (A:AC) (os:List (Nat × Addr)) (H:Hp) (i:Nat):D -> V -> Prop
 | .own ds,v=>∃ a xs,v = .ref a /\ (i,a) ∈ os /\ H a = some (.lst xs) /\ Reps A.K A.G (Zof A os) H ds xs
 | d,v=>Rep A.K A.G (Zof A os) H d v
structure AmO (A:AC) (os:List (Nat × Addr)) (n:Nat) (rho:Rho) (sg:St) (H:Hp) (ds:List D) (vs:List V):Prop where
 len:rho.length = sg.length
 slot:∀ i d,rho[i]? = some (some d) -> ∃ v,sg[i]? = some (some v) /\ SlotR A os H i d v
 pend:Reps A.K A.G (Zof A os) H ds vs
 nd:os.Pairwise fun p q=>p.1 ≠ q.1 /\ p.2 ≠ q.2
 fresh:∀ p ∈ os,A.H0 p.2 = none /\ ¬ A.Z0 p.2 /\ H p.2 ≠ none
 st:StOk A.G n H
 gz:∀ a,A.G = some a -> A.Z0 a
 fr:∀ a o,A.G ≠ some a -> A.H0 a = some o -> H a = some o
 z0:∀ a,A.Z0 a -> A.H0 a ≠ none
def Am (A:AC) (n:Nat) (rho:Rho) (sg:St) (H:Hp) (ds:List D) (vs:List V):Prop:=∃ os,AmO A os n rho sg H ds vs
section
variable {A:AC} {os:List (Nat × Addr)} {n:Nat} {rho:Rho} {sg:St} {H:Hp} {ds:List D} {vs:List V} {d:D} {v:V}
theorem AmO.zH (I:AmO A os n rho sg H ds vs):∀ a,Zof A os a -> H a ≠ none:=fun a h=>by
 rcases h with h | ⟨p,hp,rfl⟩
 ·by_cases e : A.G = some a
  ·obtain ⟨x, y, z, q, _⟩ := I.st a e
   rw [q]; simp
  ·cases q : A.H0 a with
   | none=>exact absurd q (I.z0 a h)
   | some o=>rw [I.fr a o e q]; simp
 ·exact (I.fresh p hp).2.2
theorem SlotR.mono {os':List (Nat × Addr)} {H':Hp} {i:Nat} (hz:∀ a,H a ≠ none -> Zof A os' a -> Zof A os a) (hf:∀ a o,¬ Zof A os a -> H a = some o -> H' a = some o)
  (ho:∀ a xs,(i,a) ∈ os -> H a = some (.lst xs) -> (i,a) ∈ os' /\ H' a = some (.lst xs)):∀ (d:D) (v:V),SlotR A os H i d v -> SlotR A os' H' i d v
 | .own ds,v,h=>by
  obtain ⟨a,xs,e,m,q,r⟩:=h
  obtain ⟨m',q'⟩:=ho a xs m q
  exact ⟨a,xs,e,m',q',Reps.mono hz hf ds xs r⟩
 | .non,v,h=>Rep.mono hz hf _ _ h
 | .bl _,v,h=>Rep.mono hz hf _ _ h
 | .int _,v,h=>Rep.mono hz hf _ _ h
 | .str _,v,h=>Rep.mono hz hf _ _ h
 | .ty _,v,h=>Rep.mono hz hf _ _ h
 | .tup _,v,h=>Rep.mono hz hf _ _ h
 | .lst _,v,h=>Rep.mono hz hf _ _ h
 | .st,v,h=>Rep.mono hz hf _ _ h
 | .fz _,v,h=>Rep.mono hz hf _ _ h
 | .dic,v,h=>Rep.mono hz hf _ _ h
 | .exc _,v,h=>Rep.mono hz hf _ _ h
 | .dct _ _,v,h=>Rep.mono hz hf _ _ h
def notOwn:D -> Bool
 | .own _=>false
 | _=>true
theorem SlotR.rep {i:Nat}:∀ {d:D} {v:V},notOwn d = true -> SlotR A os H i d v -> Rep A.K A.G (Zof A os) H d v
 | .own _,_,h,_=>by simp [notOwn] at h
 | .non,_,_,h=>h
 | .bl _,_,_,h=>h
 | .int _,_,_,h=>h
 | .str _,_,_,h=>h
 | .ty _,_,_,h=>h
 | .tup _,_,_,h=>h
 | .lst _,_,_,h=>h
 | .st,_,_,h=>h
 | .fz _,_,_,h=>h
 | .dic,_,_,h=>h
 | .exc _,_,_,h=>h
 | .dct _ _,_,_,h=>h
theorem SlotR.of {i:Nat}:∀ {d:D} {v:V},Rep A.K A.G (Zof A os) H d v -> SlotR A os H i d v
 | .own _,_,h=>by unfold Rep at h; exact h.elim
 | .non,_,h=>h
 | .bl _,_,h=>h
 | .int _,_,h=>h
 | .str _,_,h=>h
 | .ty _,_,h=>h
 | .tup _,_,h=>h
 | .lst _,_,h=>h
 | .st,_,h=>h
 | .fz _,_,h=>h
 | .dic,_,h=>h
 | .exc _,_,h=>h
 | .dct _ _,_,h=>h
theorem AmO.push (I:AmO A os n rho sg H ds vs) (h:Rep A.K A.G (Zof A os) H d v):AmO A os n rho sg H (d :: ds) (v :: vs) :=
 ⟨I.len,I.slot,.cons h I.pend,I.nd,I.fresh,I.st,I.gz,I.fr,I.z0⟩
theorem AmO.pends {es:List D} {ws:List V} (I:AmO A os n rho sg H ds vs) (h:Reps A.K A.G (Zof A os) H es ws):AmO A os n rho sg H es ws :=
 ⟨I.len,I.slot,h,I.nd,I.fresh,I.st,I.gz,I.fr,I.z0⟩
theorem AmO.pop (I:AmO A os n rho sg H (d :: ds) (v :: vs)):AmO A os n rho sg H ds vs /\ Rep A.K A.G (Zof A os) H d v:=⟨I.pends I.pend.inv.2,I.pend.inv.1⟩
theorem AmO.grow {p:Addr} {o:HO} (I:AmO A os n rho sg H ds vs) (hp:H p = none):AmO A os n rho sg (upd H p o) ds vs:=by
 have hf:∀ a u,H a = some u -> upd H p o a = some u:=fun a u e=>by rw [upd_ne (ne_of_none e hp)]; exact e
 refine ⟨I.len,fun i d e=>?_,Reps.mono (fun _ _ z=>z) (fun a u _ e=>hf a u e) _ _ I.pend,I.nd,fun q hq=>?_,fun a e=>?_,I.gz,fun a u h e=>hf a u (I.fr a u h e),I.z0⟩
 ·obtain ⟨v, e1, e2⟩ := I.slot i d e
  exact ⟨v,e1,SlotR.mono (fun _ _ z=>z) (fun a u _ e=>hf a u e) (fun a xs m q=>⟨m,hf a _ q⟩) _ _ e2⟩
 ·obtain ⟨f1, f2, f3⟩ := I.fresh q hq
  refine ⟨f1,f2,?_⟩
  cases e:H q.2 with
  | none=>exact absurd e f3
  | some u=>rw [hf _ _ e]; simp
 ·obtain ⟨x, y, z, q, r⟩ := I.st a e
  exact ⟨x,y,z,hf _ _ q,r⟩
theorem AmO.newTup {p:Addr} {es:List D} {xs:List V} (I:AmO A os n rho sg H ds vs) (r:Reps A.K A.G (Zof A os) H es xs) (hp:H p = none):AmO A os n rho sg (upd H p (.tup xs)) (.tup es :: ds) (.ref p :: vs):=by
 have g:=I.grow (o:=.tup xs) hp
 refine g.push (.tup_mk (.inl ⟨fun z=>I.zH p z hp,.inl upd_same⟩) ?_)
 exact Reps.mono (fun _ _ z=>z) (fun a u _ e=>by rw [upd_ne (ne_of_none e hp)]; exact e) _ _ r
theorem AmO.newLst {p:Addr} {es:List D} {xs:List V} (I:AmO A os n rho sg H ds vs) (r:Reps A.K A.G (Zof A os) H es xs) (hp:H p = none):AmO A os n rho sg (upd H p (.lst xs)) (.lst es :: ds) (.ref p :: vs):=by
 have g:=I.grow (o:=.lst xs) hp
 refine g.push (.lst_mk ⟨fun z=>I.zH p z hp,upd_same⟩ ?_)
 exact Reps.mono (fun _ _ z=>z) (fun a u _ e=>by rw [upd_ne (ne_of_none e hp)]; exact e) _ _ r
theorem AmO.set {i:Nat} (I:AmO A os n rho sg H (d :: ds) (v :: vs)) (hi:i < rho.length):AmO A (os.filter fun p=>decide (p.1 ≠ i)) n (rho.set i (some d)) (sg.set i (some v)) H ds vs:=by
 obtain ⟨J,hr⟩:=I.pop
 have sub:∀ a,H a ≠ none -> Zof A (os.filter fun p=>decide (p.1 ≠ i)) a -> Zof A os a:=fun a _ z=>by
  rcases z with z | ⟨p,hp,e⟩
  ·exact .inl z
  ·exact .inr ⟨p,(List.mem_filter.mp hp).1,e⟩
 refine ⟨by simp [I.len],fun j c e=>?_,Reps.mono sub (fun _ _ _ e=>e) _ _ J.pend,I.nd.filter _,fun p hp=>I.fresh p (List.mem_filter.mp hp).1,I.st,I.gz,I.fr,I.z0⟩
 by_cases hj:j = i
 ·subst hj
  rw [List.getElem?_set_self hi] at e
  cases e
  exact ⟨v,List.getElem?_set_self (by rw [<- I.len]; exact hi),SlotR.of (Rep.mono sub (fun _ _ _ e=>e) _ _ hr)⟩
 ·rw [List.getElem?_set_ne (Ne.symm hj)] at e
  obtain ⟨u,e1,e2⟩:=I.slot j c e
  exact ⟨u,by rw [List.getElem?_set_ne (Ne.symm hj)]; exact e1,SlotR.mono sub (fun _ _ _ e=>e) (fun a xs m q=>⟨List.mem_filter.mpr ⟨m,by simpa using hj⟩,q⟩) _ _ e2⟩
end
abbrev TD:=Rho -> Nat -> (D -> Nat -> Prop) -> Prop
abbrev TBD:=Rho -> Nat -> (Bool -> Nat -> Prop) -> Prop
abbrev TAD:=Rho -> Nat -> (List D -> Nat -> Prop) -> Prop
def tOf (A:AC) (t:TD):TE:=fun sg H Q=>∃ rho n P ds vs,Am A n rho sg H ds vs /\ t rho n P /\ ∀ v H' n' d,Am A n' rho sg H' (d :: ds) (v :: vs) -> P d n' -> Q v H'
def ttOf (A:AC) (t:TBD):TT:=fun sg H Q=>∃ rho n P ds vs,Am A n rho sg H ds vs /\ t rho n P /\ ∀ b H' n',Am A n' rho sg H' ds vs -> P b n' -> Q b H'
def taOf (A:AC) (t:TAD):TA:=fun sg H Q=>∃ rho n P ds vs,Am A n rho sg H ds vs /\ t rho n P /\ ∀ ws H' n' es,Am A n' rho sg H' (es ++ ds) (ws ++ vs) -> ws.length = es.length -> P es n' -> Q ws H'
@[irreducible] def PD (A:AC) (X:Cx) (e:Expr) (t:TD):Prop:=PE X e (tOf A t)
@[irreducible] def PTD (A:AC) (X:Cx) (e:Expr) (t:TBD):Prop:=PT X e (ttOf A t)
@[irreducible] def PWD (A:AC) (X:Cx) (e:Expr) (t:TBD):Prop:=PW X e (ttOf A t)
@[irreducible] def PAD (A:AC) (X:Cx) (es:List Expr) (t:TAD):Prop:=PA X es (taOf A t)
theorem PE.imp {X:Cx} {e:Expr} {t t':TE} (h:PE X e t) (hi:∀ sg H Q,t' sg H Q -> t sg H Q):PE X e t':=fun pins s sg H Q I q=>h pins s sg H Q I (hi _ _ _ q)
theorem PT.imp {X:Cx} {e:Expr} {t t':TT} (h:PT X e t) (hi:∀ sg H Q,t' sg H Q -> t sg H Q):PT X e t':=fun pins s sg H Q I q=>h pins s sg H Q I (hi _ _ _ q)
theorem PW.imp {X:Cx} {e:Expr} {t t':TT} (h:PW X e t) (hi:∀ sg H Q,t' sg H Q -> t sg H Q):PW X e t':=fun wh pins s sg H Q I q=>h wh pins s sg H Q I (hi _ _ _ q)
theorem PA.imp {X:Cx} {e:List Expr} {t t':TA} (h:PA X e t) (hi:∀ sg H Q,t' sg H Q -> t sg H Q):PA X e t':=fun ps pins s sg H Q I q=>h ps pins s sg H Q I (hi _ _ _ q)
theorem PS.imp {X:Cx} {e:Stmt} {t t':TS} (h:PS X e t) (hi:∀ E sg H,t' E sg H -> t E sg H):PS X e t':=fun pins s sg H Q I q=>h pins s sg H Q I (hi _ _ _ q)
theorem PSs.imp {X:Cx} {e:List Stmt} {t t':TS} (h:PSs X e t) (hi:∀ E sg H,t' E sg H -> t E sg H):PSs X e t':=fun pins s sg H Q I q=>h pins s sg H Q I (hi _ _ _ q)
end L2
set_option maxRecDepth 100000
namespace L2
open PySem PySem.Spec PyProof.Rows
section
variable {A:AC} {X:Cx} {a b c e:Expr} {es:List Expr} {ta tb tc:TD} {pos:Pos}
def atD (d:D) (k:D -> Prop):Prop:=match d with
 | .own _=>False
 | .non=>k .non
 | .bl b=>k (.bl b)
 | .int b=>k (.int b)
 | .str b=>k (.str b)
 | .ty b=>k (.ty b)
 | .tup b=>k (.tup b)
 | .lst b=>k (.lst b)
 | .fz b=>k (.fz b)
 | .st=>k .st
 | .dic=>k .dic
 | .exc a=>k (.exc a)
 | .dct a b=>k (.dct a b)
theorem atD_inv {d:D} {k:D -> Prop} (h:atD d k):notOwn d = true /\ k d:=by
 cases d <;> first | exact ⟨rfl,h⟩ | exact h.elim
theorem atD_mk {d:D} {k:D -> Prop} (h:notOwn d = true) (q:k d):atD d k:=by
 cases d <;> first | exact q | (simp [notOwn] at h; done)
def atV (o:Option (Option D)) (k:D -> Prop):Prop:=match o with | some (some d)=>atD d k | _=>False
theorem atV_inv {o:Option (Option D)} {k:D -> Prop} (h:atV o k):∃ d,o = some (some d) /\ notOwn d = true /\ k d:=by
 match o,h with
 | some (some d),h=>exact ⟨d,rfl,atD_inv h⟩
def dVar (i:Nat):TD:=fun rho n P=>atV rho[i]? fun d=>P d n
def dC (d:D):TD:=fun _ n P=>P d n
theorem pd_var (i:Nat) {x:Str} (hN:X.N[i]? = some x:=by rfl) (hv:Vis X.env.scope x:=by first | exact Or.inl rfl | exact Or.inr (Or.inl rfl) | exact Or.inr (Or.inr rfl)) (hd:(x == ("__debug__" : Str)) = false:=by decide)
  (hcd:(x == ("__classdict__" : Str)) = false:=by decide):PD A X (.Name x pos) (dVar i):=by
 with_unfolding_all
  exact (pe_var hN hv hd hcd).imp fun sg H Q h=>by
   obtain ⟨rho,n,P,ds,vs,⟨os,I⟩,hh,hQ⟩:=h
   obtain ⟨d,e,hd,q⟩:=atV_inv hh
   obtain ⟨v,e1,e2⟩:=I.slot i d e
   exact ⟨v,e1,hQ v H n d ⟨os,I.push (e2.rep hd)⟩ q⟩
theorem dC_ok {d:D} (hs:scalD d = true) {t:TE} (ht:∀ sg H Q,Q (ofS d) H -> t sg H Q) (h:PE X e t):PD A X e (dC d):=by
 with_unfolding_all
  exact h.imp fun sg H Q q=>by
   obtain ⟨rho,n,P,ds,vs,⟨os,I⟩,q,hQ⟩:=q
   exact ht _ _ _ (hQ _ H n d ⟨os,I.push (Rep.ofS hs)⟩ q)
theorem pd_int {i:Int} {j:Nat}:PD A X (.Constant (.int i) j pos) (dC (.int i)):=by
 with_unfolding_all
  exact dC_ok rfl (fun _ _ _ q=>q) pe_int
theorem pd_bl {i:Bool} {j:Nat}:PD A X (.Constant (.bool i) j pos) (dC (.bl i)):=by
 with_unfolding_all
  exact dC_ok rfl (fun _ _ _ q=>q) pe_bl
theorem pd_non {j:Nat}:PD A X (.Constant .none j pos) (dC .non):=by
 with_unfolding_all
  exact dC_ok rfl (fun _ _ _ q=>q) pe_non
theorem pd_str {x:Str} {j:Nat}:PD A X (.Constant (.str x) j pos) (dC (.str x)):=by
 with_unfolding_all
  exact dC_ok rfl (fun _ _ _ q=>q) pe_str
theorem pd_ty {x:Str} {T:String} (hg:Gl X x:=by rfl) (hm:X.mg x = none) (hv:bootBuiltins x = some (.type T)) (hn:x ≠ "__name__" := by decide) (hd:(x == ("__debug__" : Str)) = false:=by decide):PD A X (.Name x pos) (dC (.ty T)):=by
 with_unfolding_all
  exact
   dC_ok rfl (fun _ _ _ q=>q) (pe_bltn hg hm hv (v:=.ty T) rfl hn hd)
abbrev RD2:=D -> D -> (D -> Prop) -> Prop
def OpRel (A:AC) (r:R2) (rd:RD2):Prop :=
 ∀ os n rho sg H ds vs d1 d2 v1 v2 (k:D -> Prop) (Q:VK),AmO A os n rho sg H (d2 :: d1 :: ds) (v2 :: v1 :: vs) -> rd d1 d2 k -> (∀ v H' d,Am A n rho sg H' (d :: ds) (v :: vs) -> k d -> Q v H') -> r v1 v2 H Q
def dOp (rd:RD2) (ta tb:TD):TD:=fun rho n P=>ta rho n fun d1 n1=>tb rho n1 fun d2 n2=>rd d1 d2 fun d=>P d n2
def dTest (t:TD):TBD:=fun rho n P=>t rho n fun d n'=>∃ b,d = .bl b /\ P b n'
theorem tOp_of {r:R2} {rd:RD2} (hr:OpRel A r rd) {sg:St} {H:Hp} {Q:VK} (h:tOf A (dOp rd ta tb) sg H Q):tOp r (tOf A ta) (tOf A tb) sg H Q:=by
 obtain ⟨rho,n,P,ds,vs,I,ht,hQ⟩:=h
 exact ⟨rho,n,_,ds,vs,I,ht,fun v1 H1 n1 d1 I1 h1=>⟨rho,n1,_,d1 :: ds,v1 :: vs,I1,h1,fun v2 H2 n2 d2 ⟨os2,I2⟩ h2=>hr _ _ _ _ _ _ _ _ _ _ _ _ Q I2 h2 fun v H' d J k=>hQ v H' n2 d J k⟩⟩
theorem tTest_of {t:TE} {td:TD} (h:∀ sg H Q,tOf A td sg H Q -> t sg H Q) {sg:St} {H:Hp} {Q:Bool -> Hp -> Prop} (q:ttOf A (dTest td) sg H Q):tTest t sg H Q:=by
 obtain ⟨rho,n,P,ds,vs,I,ht,hQ⟩:=q
 refine h _ _ _ ⟨rho,n,_,ds,vs,I,ht,fun v H' n' d ⟨os,J⟩ k=>?_⟩
 obtain ⟨b,rfl,k⟩:=k
 obtain ⟨J1,r⟩:=J.pop
 exact ⟨b,r.bl_inv,hQ b H' n' ⟨os,J1⟩ k⟩
theorem pd_op {op:Operator} {r:R2} {rd:RD2} (ho:OpR X (binaryOp op) r) (hr:OpRel A r rd) (ha:PD A X a ta) (hb:PD A X b tb):PD A X (.BinOp a op b pos) (dOp rd ta tb):=by
 with_unfolding_all
  exact (pe_op ho ha hb).imp fun _ _ _=>tOp_of hr
theorem pd_cmp {op:CmpOp} {r:R2} {rd:RD2} (ho:OpR X (compareOp op) r) (hr:OpRel A r rd) (ha:PD A X a ta) (hb:PD A X b tb) (hm:behindInMarks op b = false):PD A X (.Compare a [op] [b] pos) (dOp rd ta tb):=by
 with_unfolding_all
  exact (pe_cmpR ho ha hb hm).imp fun _ _ _=>tOp_of hr
theorem ptd_cmp {op:CmpOp} {r:R2} {rd:RD2} (ho:OpR X (compareOp op) r) (hr:OpRel A r rd) (ha:PD A X a ta) (hb:PD A X b tb) (hm:behindInMarks op b = false):PTD A X (.Compare a [op] [b] pos) (dTest (dOp rd ta tb)):=by
 with_unfolding_all
  exact
   (pt_cmpR ho ha hb hm).imp fun _ _ _=>tTest_of fun _ _ _=>tOp_of hr
theorem pd_ix {r:R2} {rd:RD2} (hi:IxR X r) (hr:OpRel A r rd) (ha:PD A X a ta) (hb:PD A X b tb) (hs:PlainIx b):PD A X (.Subscript a b pos) (dOp rd ta tb):=by
 with_unfolding_all
  exact (pe_ix hi ha hb hs).imp fun _ _ _=>tOp_of hr
theorem ptd_val (ha:PD A X a ta) (he:∀ whole,isTrue a X.env whole = (do let v <- whole; standAt a.pos; holding [v] (truthy v)):=by intro _; rfl):PTD A X a (dTest ta):=by
 with_unfolding_all
  exact (pt_val ha he).imp fun _ _ _=>tTest_of fun _ _ _ q=>q
def rdI (C:Int -> Int -> Prop) (g:Int -> Int -> D):RD2:=fun d1 d2 k=>match d1,d2 with | .int i,.int j=>C i j /\ k (g i j) | _,_=>False
theorem rdI_inv {C:Int -> Int -> Prop} {g:Int -> Int -> D} {d1 d2:D} {k:D -> Prop} (h:rdI C g d1 d2 k):∃ i j,d1 = .int i /\ d2 = .int j /\ C i j /\ k (g i j):=by
 unfold rdI at h
 split at h
 ·exact ⟨_,_,rfl,rfl,h⟩
 ·exact h.elim
def rdI0 (g:Int -> Int -> D):RD2:=fun d1 d2 k=>match d1,d2 with | .int i,.int j=>k (g i j) | _,_=>False
theorem rdI0_inv {g:Int -> Int -> D} {d1 d2:D} {k:D -> Prop} (h:rdI0 g d1 d2 k):∃ i j,d1 = .int i /\ d2 = .int j /\ k (g i j):=by
 unfold rdI0 at h
 split at h
 ·exact ⟨_,_,rfl,rfl,h⟩
 ·exact h.elim
theorem rel_I {C:Int -> Int -> Prop} {g:Int -> Int -> V} {gd:Int -> Int -> D} (hs:∀ i j,scalD (gd i j) = true) (hg:∀ i j,ofS (gd i j) = g i j):OpRel A (rI C g) (rdI C gd):=by
 rintro os n rho sg H ds vs d1 d2 v1 v2 k Q I hh hQ
 obtain ⟨i,j,rfl,rfl,hc,q⟩:=rdI_inv hh
 obtain ⟨I1,r2⟩:=I.pop
 obtain ⟨I2,r1⟩:=I1.pop
 exact ⟨i,j,r1.int_inv,r2.int_inv,hc,hQ _ H _ ⟨os,I2.push (by rw [<- hg]; exact Rep.ofS (hs i j))⟩ q⟩
theorem rel_I0 {g:Int -> Int -> V} {gd:Int -> Int -> D} (hs:∀ i j,scalD (gd i j) = true) (hg:∀ i j,ofS (gd i j) = g i j):OpRel A (rI0 g) (rdI0 gd):=by
 rintro os n rho sg H ds vs d1 d2 v1 v2 k Q I hh hQ
 obtain ⟨i,j,rfl,rfl,q⟩:=rdI0_inv hh
 obtain ⟨I1,r2⟩:=I.pop
 obtain ⟨I2,r1⟩:=I1.pop
 exact ⟨i,j,r1.int_inv,r2.int_inv,hQ _ H _ ⟨os,I2.push (by rw [<- hg]; exact Rep.ofS (hs i j))⟩ q⟩
abbrev dAdd:TD -> TD -> TD:=dOp (rdI0 fun i j=>.int (i + j))
abbrev dMul:TD -> TD -> TD:=dOp (rdI CMul fun i j=>.int (i * j))
abbrev dMod:TD -> TD -> TD:=dOp (rdI (fun _ j=>0 < j) fun i j=>.int (i % j))
abbrev dDiv:TD -> TD -> TD:=dOp (rdI CDiv fun i j=>.int (i / j))
abbrev dPow:TD -> TD -> TD:=dOp (rdI CPow fun i j=>.int (i ^ j.toNat))
theorem pd_add (ha:PD A X a ta) (hb:PD A X b tb):PD A X (.BinOp a .Add b pos) (dAdd ta tb):=by
 with_unfolding_all
  exact pd_op op_add (rel_I0 (fun _ _=>rfl) fun _ _=>rfl) ha hb
theorem pd_mul (ha:PD A X a ta) (hb:PD A X b tb):PD A X (.BinOp a .Mult b pos) (dMul ta tb):=by
 with_unfolding_all
  exact pd_op op_mul (rel_I (fun _ _=>rfl) fun _ _=>rfl) ha hb
theorem pd_mod (ha:PD A X a ta) (hb:PD A X b tb):PD A X (.BinOp a .Mod b pos) (dMod ta tb):=by
 with_unfolding_all
  exact pd_op op_mod (rel_I (fun _ _=>rfl) fun _ _=>rfl) ha hb
theorem pd_div (ha:PD A X a ta) (hb:PD A X b tb):PD A X (.BinOp a .FloorDiv b pos) (dDiv ta tb):=by
 with_unfolding_all
  exact pd_op op_fdiv (rel_I (fun _ _=>rfl) fun _ _=>rfl) ha hb
theorem pd_pow (ha:PD A X a ta) (hb:PD A X b tb):PD A X (.BinOp a .Pow b pos) (dPow ta tb):=by
 with_unfolding_all
  exact pd_op op_pow (rel_I (fun _ _=>rfl) fun _ _=>rfl) ha hb
abbrev rdLt:RD2:=rdI0 fun i j=>.bl (decide (i < j))
abbrev rdGt:RD2:=rdI0 fun i j=>.bl (decide (j < i))
abbrev rdGe:RD2:=rdI0 fun i j=>.bl (decide (j <= i))
theorem re_lt:OpRel A (rI0 fun i j=>.bl (decide (i < j))) rdLt:=rel_I0 (g:=fun i j=>.bl (decide (i < j))) (fun _ _=>rfl) fun _ _=>rfl
theorem re_gt:OpRel A (rI0 fun i j=>.bl (decide (j < i))) rdGt:=rel_I0 (g:=fun i j=>.bl (decide (j < i))) (fun _ _=>rfl) fun _ _=>rfl
theorem re_ge:OpRel A (rI0 fun i j=>.bl (decide (j <= i))) rdGe:=rel_I0 (g:=fun i j=>.bl (decide (j <= i))) (fun _ _=>rfl) fun _ _=>rfl
def rdEq:RD2:=fun d1 d2 k=>scalD d1 = true /\ scalD d2 = true /\ scal (ofS d1) (ofS d2) = true /\ k (.bl (decide (ofS d1 = ofS d2)))
def rdNe:RD2:=fun d1 d2 k=>scalD d1 = true /\ scalD d2 = true /\ scal (ofS d1) (ofS d2) = true /\ k (.bl (!decide (ofS d1 = ofS d2)))
theorem re_eq:OpRel A rEq rdEq:=by
 rintro os n rho sg H ds vs d1 d2 v1 v2 k Q I ⟨h1,h2,h3,q⟩ hQ
 obtain ⟨I1,r2⟩:=I.pop
 obtain ⟨I2,r1⟩:=I1.pop
 rw [r1.toS h1,r2.toS h2]
 exact ⟨h3,hQ _ H _ ⟨os,I2.push (Rep.ofS rfl)⟩ q⟩
theorem re_ne:OpRel A rNe rdNe:=by
 rintro os n rho sg H ds vs d1 d2 v1 v2 k Q I ⟨h1,h2,h3,q⟩ hQ
 obtain ⟨I1,r2⟩:=I.pop
 obtain ⟨I2,r1⟩:=I1.pop
 rw [r1.toS h1,r2.toS h2]
 exact ⟨h3,hQ _ H _ ⟨os,I2.push (Rep.ofS rfl)⟩ q⟩
def isNon:D -> Bool
 | .non=>true
 | _=>false
theorem Rep.non_iff {K:PySem.W.Frag} {G:Option Addr} {Z:Addr -> Prop} {H:Hp} {v:V}:∀ {d:D},Rep K G Z H d v -> decide (v = .non) = isNon d
 | .non,h=>by unfold Rep at h; rw [h]; rfl
 | .bl b,h=>by unfold Rep at h; rw [h]; rfl
 | .int b,h=>by unfold Rep at h; rw [h]; rfl
 | .str b,h=>by unfold Rep at h; rw [h]; rfl
 | .ty b,h=>by unfold Rep at h; rw [h]; rfl
 | .st,h=>by unfold Rep at h; obtain ⟨a,_,h⟩:=h; rw [h]; rfl
 | .tup ds,h=>by obtain ⟨a,xs,h,_⟩:=h.tup_inv; rw [h]; rfl
 | .lst ds,h=>by obtain ⟨a,xs,h,_⟩:=h.lst_inv; rw [h]; rfl
 | .own ds,h=>by unfold Rep at h; exact h.elim
 | .fz ds,h=>by obtain ⟨a,xs,h,_⟩:=h.fz_inv; rw [h]; rfl
 | .dic,h=>by unfold Rep at h; obtain ⟨a,kvs,h,_⟩:=h; rw [h]; rfl
 | .exc _,h=>by unfold Rep at h; obtain ⟨a,h,_⟩:=h; rw [h]; rfl
 | .dct _ _,h=>by unfold Rep at h; obtain ⟨a,xs,h,_⟩:=h; rw [h]; rfl
def rdIsN:RD2:=fun d1 d2 k=>d2 = .non /\ k (.bl (isNon d1))
def rdNotN:RD2:=fun d1 d2 k=>d2 = .non /\ k (.bl (!isNon d1))
theorem re_isN:OpRel A (fun x y H Q=>y = .non /\ Q (.bl (decide (x = .non))) H) rdIsN:=by
 rintro os n rho sg H ds vs d1 d2 v1 v2 k Q I ⟨rfl,q⟩ hQ
 obtain ⟨I1,r2⟩:=I.pop
 obtain ⟨I2,r1⟩:=I1.pop
 have e:v2 = .non:=r2.toS rfl
 exact ⟨e,by rw [r1.non_iff]; exact hQ _ H _ ⟨os,I2.push (Rep.ofS (d:=.bl (isNon d1)) rfl)⟩ q⟩
theorem re_notN:OpRel A (fun x y H Q=>y = .non /\ Q (.bl (!decide (x = .non))) H) rdNotN:=by
 rintro os n rho sg H ds vs d1 d2 v1 v2 k Q I ⟨rfl,q⟩ hQ
 obtain ⟨I1,r2⟩:=I.pop
 obtain ⟨I2,r1⟩:=I1.pop
 have e:v2 = .non:=r2.toS rfl
 exact ⟨e,by rw [r1.non_iff]; exact hQ _ H _ ⟨os,I2.push (Rep.ofS (d:=.bl (!isNon d1)) rfl)⟩ q⟩
def rdB (f:Bool -> Bool -> Bool):RD2:=fun d1 d2 k=>match d1,d2 with | .bl c,.bl d=>k (.bl (f c d)) | _,_=>False
def rdIx:RD2:=fun d1 d2 k=>∃ es i d,(d1 = .lst es \/ d1 = .tup es \/ d1 = .fz es) /\ d2 = .int i /\ atI es i = some d /\ k d
theorem atI_rep {K:PySem.W.Frag} {G:Option Addr} {Z:Addr -> Prop} {H:Hp} {es:List D} {xs:List V} {i:Int} {d:D} (h:Reps K G Z H es xs) (e:atI es i = some d):∃ v,atI xs i = some v /\ Rep K G Z H d v:=by
 unfold atI at e ⊢
 rw [h.length]
 cases q:ixN es.length i with
 | none=>rw [q] at e; cases e
 | some j =>
  rw [q] at e
  exact h.get (i:=j) e
theorem re_ix:OpRel A (rIx A.K) rdIx:=by
 rintro os n rho sg H ds vs d1 d2 v1 v2 k Q I ⟨es,i,d,h1,rfl,h2,q⟩ hQ
 obtain ⟨I1,r2⟩:=I.pop
 obtain ⟨I2,r1⟩:=I1.pop
 rcases h1 with rfl | rfl | rfl
 ·obtain ⟨a, xs, e, sq, rs⟩ := r1.lst_inv
  obtain ⟨v,e1,rv⟩:=atI_rep rs h2
  exact .inl ⟨a,xs,i,v,e,r2.int_inv,sq.sq,e1,hQ v H d ⟨os,I2.push rv⟩ q⟩
 ·obtain ⟨a, xs, e, sq, rs⟩ := r1.tup_inv
  obtain ⟨v,e1,rv⟩:=atI_rep rs h2
  exact .inr (.inl ⟨a,xs,i,v,e,r2.int_inv,sq.sq,e1,hQ v H d ⟨os,I2.push rv⟩ q⟩)
 ·obtain ⟨a, xs, e, sq, rs⟩ := r1.fz_inv
  obtain ⟨v,e1,rv⟩:=atI_rep rs h2
  exact .inl ⟨a,xs,i,v,e,r2.int_inv,sq,e1,hQ v H d ⟨os,I2.push rv⟩ q⟩
def rdCat:RD2:=fun d1 d2 k=>∃ es fs,d1 = .lst es /\ d2 = .lst fs /\ es.length + fs.length <= sizeLine /\ k (.lst (es ++ fs))
theorem re_cat:OpRel A rCat rdCat:=by
 rintro os n rho sg H ds vs d1 d2 v1 v2 k Q I ⟨es,fs,rfl,rfl,hz,q⟩ hQ
 obtain ⟨I1,r2⟩:=I.pop
 obtain ⟨I2,r1⟩:=I1.pop
 obtain ⟨a,xs,e,sq,rs⟩:=r1.lst_inv
 obtain ⟨b,ys,e',sq',rs'⟩:=r2.lst_inv
 exact ⟨a,b,xs,ys,e,e',sq.2,sq'.2,by rw [rs.length,rs'.length]; exact hz,fun p hp=>hQ _ _ _ ⟨os,I2.newLst (rs.append rs') hp⟩ q⟩
def rdRepT:RD2:=fun d1 d2 k=>∃ es i,d1 = .tup es /\ d2 = .int i /\ es ≠ [] /\ 1 <= i /\ es.length * i.toNat <= sizeLine /\ k (.tup (List.replicate i.toNat es).flatten)
theorem pd_neg (ha:PD A X a ta):PD A X (.UnaryOp .USub a pos) (fun rho n P=>ta rho n fun d n'=>∃ i,d = .int i /\ P (.int (-i)) n'):=by
 with_unfolding_all
  exact (pe_un un_neg ha).imp fun sg H Q h=>by
   obtain ⟨rho,n,P,ds,vs,I,ht,hQ⟩:=h
   refine ⟨rho,n,_,ds,vs,I,ht,fun v H' n' d ⟨os,J⟩ k=>?_⟩
   obtain ⟨i,rfl,k⟩:=k
   obtain ⟨J1,r⟩:=J.pop
   exact ⟨i,r.int_inv,hQ _ H' n' _ ⟨os,J1.push (Rep.ofS (d:=.int (-i)) rfl)⟩ k⟩
variable {t u:TBD} {rest:List Expr}
def bAnd (t u:TBD):TBD:=fun rho n P=>t rho n fun c n1=>if c = true then u rho n1 P else P false n1
def bOr (t u:TBD):TBD:=fun rho n P=>t rho n fun c n1=>if c = true then P true n1 else u rho n1 P
def bNot (t:TBD):TBD:=fun rho n P=>t rho n fun c n1=>P (!c) n1
theorem pwd_and1 (ha:PTD A X a t):PWD A X (.BoolOp .And [a] pos) t:=by
 with_unfolding_all
  exact pw_and1 ha
theorem pwd_or1 (ha:PTD A X a t):PWD A X (.BoolOp .Or [a] pos) t:=by
 with_unfolding_all
  exact pw_or1 ha
theorem pwd_and (ha:PTD A X a t) (hb:PWD A X (.BoolOp .And (b :: rest) pos) u):PWD A X (.BoolOp .And (a :: b :: rest) pos) (bAnd t u):=by
 with_unfolding_all
  exact (pw_and ha hb).imp fun sg H Q h=>by
   obtain ⟨rho,n,P,ds,vs,I,ht,hQ⟩:=h
   refine ⟨rho,n,_,ds,vs,I,ht,fun c H' n' J k=>?_⟩
   cases c with
   | true=>exact ⟨rho,n',P,ds,vs,J,k,hQ⟩
   | false=>exact hQ _ _ _ J k
theorem pwd_or (ha:PTD A X a t) (hb:PWD A X (.BoolOp .Or (b :: rest) pos) u):PWD A X (.BoolOp .Or (a :: b :: rest) pos) (bOr t u):=by
 with_unfolding_all
  exact (pw_or ha hb).imp fun sg H Q h=>by
   obtain ⟨rho,n,P,ds,vs,I,ht,hQ⟩:=h
   refine ⟨rho,n,_,ds,vs,I,ht,fun c H' n' J k=>?_⟩
   cases c with
   | false=>exact ⟨rho,n',P,ds,vs,J,k,hQ⟩
   | true=>exact hQ _ _ _ J k
theorem PWD.pt (h:PWD A X e t):PTD A X e t:=by
 with_unfolding_all
  exact PW.pt h
theorem ptd_not (ha:PTD A X a t):PTD A X (.UnaryOp .Not a pos) (bNot t):=by
 with_unfolding_all
  exact (pt_not ha).imp fun sg H Q h=>by
   obtain ⟨rho,n,P,ds,vs,I,ht,hQ⟩:=h
   exact ⟨rho,n,_,ds,vs,I,ht,fun c H' n' J k=>hQ _ _ _ J k⟩
def dAnd (ta tb:TD):TD:=fun rho n P=>ta rho n fun d n1=>∃ c,d = .bl c /\ if c = true then tb rho n1 P else P (.bl false) n1
def dOr (ta tb:TD):TD:=fun rho n P=>ta rho n fun d n1=>∃ c,d = .bl c /\ if c = true then P (.bl true) n1 else tb rho n1 P
def dNot (ta:TD):TD:=fun rho n P=>ta rho n fun d n1=>∃ c,d = .bl c /\ P (.bl (!c)) n1
theorem pd_one {op:BoolOp} (h:PD A X a ta):PD A X (.BoolOp op [a] pos) ta:=by
 with_unfolding_all
  exact pe_one h
theorem pd_and (ha:PD A X a ta) (hb:PD A X (.BoolOp .And (b :: rest) pos) tb):PD A X (.BoolOp .And (a :: b :: rest) pos) (dAnd ta tb):=by
 with_unfolding_all
  exact (pe_and ha hb).imp fun sg H Q h=>by
   obtain ⟨rho,n,P,ds,vs,I,ht,hQ⟩:=h
   refine ⟨rho,n,_,ds,vs,I,ht,fun v H' n' d ⟨os,J⟩ k=>?_⟩
   obtain ⟨c,rfl,k⟩:=k
   obtain ⟨J1,r⟩:=J.pop
   refine ⟨c,r.bl_inv,?_⟩
   cases c with
   | true=>exact ⟨rho,n',P,ds,vs,⟨os,J1⟩,k,hQ⟩
   | false=>exact hQ _ _ _ _ ⟨os,J1.push (Rep.ofS (d:=.bl false) rfl)⟩ k
theorem pd_not (ha:PD A X a ta):PD A X (.UnaryOp .Not a pos) (dNot ta):=by
 with_unfolding_all
  exact (pe_not ha).imp fun sg H Q h=>by
   obtain ⟨rho,n,P,ds,vs,I,ht,hQ⟩:=h
   refine ⟨rho,n,_,ds,vs,I,ht,fun v H' n' d ⟨os,J⟩ k=>?_⟩
   obtain ⟨c,rfl,k⟩:=k
   obtain ⟨J1,r⟩:=J.pop
   exact ⟨c,r.bl_inv,hQ _ _ _ _ ⟨os,J1.push (Rep.ofS (d:=.bl (!c)) rfl)⟩ k⟩
def dIf (t:TBD) (ta tb:TD):TD:=fun rho n P=>t rho n fun c n1=>if c = true then ta rho n1 P else tb rho n1 P
theorem pd_if (hc:PTD A X c t) (ha:PD A X a ta) (hb:PD A X b tb):PD A X (.IfExp c a b pos) (dIf t ta tb):=by
 with_unfolding_all
  exact (pe_ifExp hc ha hb).imp fun sg H Q h=>by
   obtain ⟨rho,n,P,ds,vs,I,ht,hQ⟩:=h
   refine ⟨rho,n,_,ds,vs,I,ht,fun c H' n' J k=>?_⟩
   cases c with
   | true=>exact ⟨rho,n',P,ds,vs,J,k,hQ⟩
   | false=>exact ⟨rho,n',P,ds,vs,J,k,hQ⟩
variable {t1:TAD}
def aNil:TAD:=fun _ n P=>P [] n
def aCons (t:TD) (r:TAD):TAD:=fun rho n P=>t rho n fun d n1=>r rho n1 fun ds n2=>P (d :: ds) n2
theorem pad_nil:PAD A X [] aNil:=by
 with_unfolding_all
  exact pa_nil.imp fun sg H Q h=>by
   obtain ⟨rho,n,P,ds,vs,I,ht,hQ⟩:=h
   exact hQ [] H n [] I rfl ht
theorem reps_rot {K:PySem.W.Frag} {G:Option Addr} {Z:Addr -> Prop} {H:Hp} {es ds:List D} {ws vs:List V} {d:D} {v:V} (h:Reps K G Z H (es ++ d :: ds) (ws ++ v :: vs)) (hl:ws.length = es.length):Reps K G Z H (d :: es ++ ds) (v :: ws ++ vs):=by
 have h1:=h.take es.length
 have h2:=h.drop es.length
 rw [List.take_left' rfl,List.take_left' hl] at h1
 rw [List.drop_left' rfl,List.drop_left' hl] at h2
 obtain ⟨r,t⟩:=h2.inv
 exact .cons r (h1.append t)
def starred:Expr -> Bool
 | .Starred ..=>true
 | _=>false
theorem sE {e:Expr} {es:List Expr} {env:Env} (h:starred e = false):starEach (e :: es) env = (false,eval e env) :: starEach es env:=by
 cases e <;> first | (simp [starEach]; done) | (simp [starred] at h; done)
theorem pad_cons (ha:PD A X a ta) (hr:PAD A X es t1) (hs:starred a = false:=by rfl):PAD A X (a :: es) (aCons ta t1):=by
 with_unfolding_all
  exact (pa_cons ha hr (sE hs)).imp fun sg H Q h=>by
   obtain ⟨rho,n,P,ds,vs,I,ht,hQ⟩:=h
   refine ⟨rho,n,_,ds,vs,I,ht,fun v H' n' d J k=>⟨rho,n',_,d :: ds,v :: vs,J,k,fun ws H2 n2 es' ⟨os,J2⟩ hl k2=>?_⟩⟩
   exact hQ (v :: ws) H2 n2 (d :: es') ⟨os,J2.pends (reps_rot J2.pend hl)⟩ (by rw [List.length_cons,List.length_cons,hl]) k2
theorem reps_pre {K:PySem.W.Frag} {G:Option Addr} {Z:Addr -> Prop} {H:Hp} {es ds:List D} {ws vs:List V} (h:Reps K G Z H (es ++ ds) (ws ++ vs)) (hl:ws.length = es.length):Reps K G Z H es ws /\ Reps K G Z H ds vs:=by
 have h1:=h.take es.length
 have h2:=h.drop es.length
 rw [List.take_left' rfl,List.take_left' hl] at h1
 rw [List.drop_left' rfl,List.drop_left' hl] at h2
 exact ⟨h1,h2⟩
def dTup (t:TAD):TD:=fun rho n P=>t rho n fun ds n1=>ds.length <= sizeLine /\ P (.tup ds) n1
def dLst (t:TAD):TD:=fun rho n P=>t rho n fun ds n1=>ds.length <= sizeLine /\ P (.lst ds) n1
theorem pd_tup {x1} (h:PAD A X es t1):PD A X (.Tuple es x1 pos) (dTup t1):=by
 with_unfolding_all
  exact (pe_tup h).imp fun sg H Q h=>by
   obtain ⟨rho,n,P,ds,vs,I,ht,hQ⟩:=h
   refine ⟨rho,n,_,ds,vs,I,ht,fun ws H' n' es' ⟨os,J⟩ hl k=>⟨by rw [hl]; exact k.1,fun p hp=>?_⟩⟩
   obtain ⟨q1,q2⟩:=reps_pre J.pend hl
   exact hQ _ _ n' _ ⟨os,(J.pends q2).newTup q1 hp⟩ k.2
theorem pd_lst (h:PAD A X es t1):PD A X (.List es pos) (dLst t1):=by
 with_unfolding_all
  exact (pe_lst h).imp fun sg H Q h=>by
   obtain ⟨rho,n,P,ds,vs,I,ht,hQ⟩:=h
   refine ⟨rho,n,_,ds,vs,I,ht,fun ws H' n' es' ⟨os,J⟩ hl k=>⟨by rw [hl]; exact k.1,fun p hp=>?_⟩⟩
   obtain ⟨q1,q2⟩:=reps_pre J.pend hl
   exact hQ _ _ n' _ ⟨os,(J.pends q2).newLst q1 hp⟩ k.2
def CallRel (A:AC) (r:List V -> Hp -> VK -> Prop) (rd:List D -> (D -> Prop) -> Prop):Prop :=
 ∀ os n rho sg H ds vs es ws (k:D -> Prop) (Q:VK),AmO A os n rho sg H ds vs -> Reps A.K A.G (Zof A os) H es ws -> rd es k -> (∀ v H' d,Am A n rho sg H' (d :: ds) (v :: vs) -> k d -> Q v H') -> r ws H Q
def dCall (rd:List D -> (D -> Prop) -> Prop) (t:TAD):TD:=fun rho n P=>t rho n fun es n1=>rd es fun d=>P d n1
theorem tCB_of {r:List V -> Hp -> VK -> Prop} {rd:List D -> (D -> Prop) -> Prop} (hr:CallRel A r rd) {sg:St} {H:Hp} {Q:VK} (h:tOf A (dCall rd t1) sg H Q):tCB r (taOf A t1) sg H Q:=by
 obtain ⟨rho,n,P,ds,vs,I,ht,hQ⟩:=h
 refine ⟨rho,n,_,ds,vs,I,ht,fun ws H' n' es' ⟨os,J⟩ hl k=>?_⟩
 obtain ⟨q1,q2⟩:=reps_pre J.pend hl
 exact hr _ _ _ _ _ _ _ _ _ _ Q (J.pends q2) q1 k fun v H2 d J2 k2=>hQ v H2 n' d J2 k2
theorem pd_callB {x:Str} {p:Pos} {id:String} {r:List V -> Hp -> VK -> Prop} {rd:List D -> (D -> Prop) -> Prop} (hc:CallR X (.builtin id) r) (hr:CallRel A r rd) (hm:X.mg x = none) (hv:bootBuiltins x = some (.builtin id)) (ha:PAD A X (e :: es) t1) (hg:Gl X x:=by rfl) (hn:x ≠ "__name__" := by decide) (hdb:(x == ("__debug__" : Str)) = false:=by decide)
  (he:starEach (e :: es) X.env = (false,eval e X.env) :: starEach es X.env:=by rfl) (hpl:(backTo pos (starEach es X.env)).any (·.1) = false:=by rfl):PD A X (.Call (.Name x p) (e :: es) [] pos) (dCall rd t1):=by
 with_unfolding_all
  exact
   (pe_callB hc hg hm hv ha hn hdb he hpl).imp fun _ _ _=>tCB_of hr
theorem pd_callTy {x:Str} {p:Pos} {T:String} {r:List V -> Hp -> VK -> Prop} {rd:List D -> (D -> Prop) -> Prop} (hc:CallR X (.type T) r) (hr:CallRel A r rd) (hm:X.mg x = none) (hv:bootBuiltins x = some (.type T)) (ha:PAD A X (e :: es) t1) (hg:Gl X x:=by rfl) (hn:x ≠ "__name__" := by decide) (hdb:(x == ("__debug__" : Str)) = false:=by decide)
  (he:starEach (e :: es) X.env = (false,eval e X.env) :: starEach es X.env:=by rfl) (hpl:(backTo pos (starEach es X.env)).any (·.1) = false:=by rfl):PD A X (.Call (.Name x p) (e :: es) [] pos) (dCall rd t1):=by
 with_unfolding_all
  exact
   (pe_callTy hc hg hm hv ha hn hdb he hpl).imp fun _ _ _=>tCB_of hr
theorem reps1 {K:PySem.W.Frag} {G:Option Addr} {Z:Addr -> Prop} {H:Hp} {d:D} {ws:List V} (h:Reps K G Z H [d] ws):∃ v,ws = [v] /\ Rep K G Z H d v:=by
 obtain ⟨v,r,rfl,q,t⟩:=h.split
 rw [t.nil_inv]
 exact ⟨v,rfl,q⟩
theorem reps2 {K:PySem.W.Frag} {G:Option Addr} {Z:Addr -> Prop} {H:Hp} {d d':D} {ws:List V} (h:Reps K G Z H [d,d'] ws):∃ v v',ws = [v,v'] /\ Rep K G Z H d v /\ Rep K G Z H d' v':=by
 obtain ⟨v,r,rfl,q,t⟩:=h.split
 obtain ⟨v',rfl,q'⟩:=reps1 t
 exact ⟨v,v',rfl,q,q'⟩
def kLen:List D -> (D -> Prop) -> Prop:=fun es k=>∃ fs,(es = [.lst fs] \/ es = [.tup fs] \/ es = [.fz fs]) /\ k (.int fs.length)
def kAbs:List D -> (D -> Prop) -> Prop:=fun es k=>∃ i,es = [.int i] /\ k (.int (if i < 0 then -i else i))
def kIntB:List D -> (D -> Prop) -> Prop:=fun es k=>∃ c,es = [.bl c] /\ k (.int (if c then 1 else 0))
def kAll:List D -> (D -> Prop) -> Prop:=fun es k=>∃ bs:List Bool,es = [.lst (bs.map D.bl)] /\ k (.bl (bs.all id))
def kTuple:List D -> (D -> Prop) -> Prop:=fun es k=>∃ fs,(es = [.lst fs] \/ es = [.tup fs]) /\ k (.tup fs)
def kList:List D -> (D -> Prop) -> Prop:=fun es k=>∃ fs,(es = [.lst fs] \/ es = [.tup fs]) /\ k (.lst fs)
theorem cr_len:CallRel A (fun xs H Q=>∃ p ys,xs = [.ref p] /\ (SqL A.K H p ys \/ SqT A.K H p ys) /\ Q (.int ys.length) H) kLen:=by
 rintro os n rho sg H ds vs es ws k Q I rs ⟨fs,h,q⟩ hQ
 rcases h with rfl | rfl | rfl
 ·obtain ⟨v, rfl, r⟩ := reps1 rs
  obtain ⟨a,xs,rfl,sq,rr⟩:=r.lst_inv
  exact ⟨a,xs,rfl,.inl sq.sq,by rw [rr.length]; exact hQ _ H _ ⟨os,I.push (Rep.ofS rfl)⟩ q⟩
 ·obtain ⟨v, rfl, r⟩ := reps1 rs
  obtain ⟨a,xs,rfl,sq,rr⟩:=r.tup_inv
  exact ⟨a,xs,rfl,.inr sq.sq,by rw [rr.length]; exact hQ _ H _ ⟨os,I.push (Rep.ofS rfl)⟩ q⟩
 ·obtain ⟨v, rfl, r⟩ := reps1 rs
  obtain ⟨a,xs,rfl,sq,rr⟩:=r.fz_inv
  exact ⟨a,xs,rfl,.inl sq,by rw [rr.length]; exact hQ _ H _ ⟨os,I.push (Rep.ofS rfl)⟩ q⟩
theorem cr_intB:CallRel A (fun xs H Q=>(∃ i,xs = [.int i] /\ Q (.int i) H) \/ ∃ k,xs = [.bl k] /\ Q (.int (if k then 1 else 0)) H) kIntB:=by
 rintro os n rho sg H ds vs es ws k Q I rs ⟨i,rfl,q⟩ hQ
 obtain ⟨v,rfl,r⟩:=reps1 rs
 exact .inr ⟨i,by rw [r.bl_inv],hQ _ H _ ⟨os,I.push (Rep.ofS rfl)⟩ q⟩
theorem reps_bools {K:PySem.W.Frag} {G:Option Addr} {Z:Addr -> Prop} {H:Hp}:∀ {bs:List Bool} {ws:List V},Reps K G Z H (bs.map D.bl) ws -> ws = bs.map V.bl
 | [],ws,h=>h.nil_inv
 | b :: bs,ws,h=>by
  obtain ⟨v,r,rfl,q,t⟩:=h.split
  rw [q.bl_inv,reps_bools t]; rfl
theorem cr_all:CallRel A (fun xs H Q=>∃ (p:Addr) (bs:List Bool),xs = [.ref p] /\ SqL A.K H p (bs.map V.bl) /\ Q (.bl (bs.all id)) H) kAll:=by
 rintro os n rho sg H ds vs es ws k Q I rs ⟨bs,rfl,q⟩ hQ
 obtain ⟨v,rfl,r⟩:=reps1 rs
 obtain ⟨a,xs,rfl,sq,rr⟩:=r.lst_inv
 have e:=reps_bools rr
 subst e
 exact ⟨a,bs,rfl,sq.sq,hQ _ H _ ⟨os,I.push (Rep.ofS rfl)⟩ q⟩
theorem cr_tuple:CallRel A (fun xs H Q=>∃ p ys,xs = [.ref p] /\ ((SqL A.K H p ys /\ ∀ l,H l = none -> Q (.ref l) (upd H l (.tup ys))) \/ (SqT A.K H p ys /\ Q (.ref p) H))) kTuple:=by
 rintro os n rho sg H ds vs es ws k Q I rs ⟨fs,h,q⟩ hQ
 rcases h with rfl | rfl
 ·obtain ⟨v, rfl, r⟩ := reps1 rs
  obtain ⟨a,xs,rfl,sq,rr⟩:=r.lst_inv
  exact ⟨a,xs,rfl,.inl ⟨sq.sq,fun l hl=>hQ _ _ _ ⟨os,I.newTup rr hl⟩ q⟩⟩
 ·obtain ⟨v, rfl, r⟩ := reps1 rs
  have r':=r
  obtain ⟨a,xs,rfl,sq,rr⟩:=r.tup_inv
  exact ⟨a,xs,rfl,.inr ⟨sq.sq,hQ _ _ _ ⟨os,I.push r'⟩ q⟩⟩
def isiD (T:String):D -> Bool
 | .bl _=>T == "bool" || T == "int"
 | .int _=>T == "int"
 | .str _=>T == "str"
 | .tup _=>T == "tuple"
 | .lst _=>T == "list"
 | _=>false
def isiOk:D -> Bool
 | .non=>true | .bl _=>true | .int _=>true | .str _=>true | .tup _=>true | .lst _=>true | .dic=>true | _=>false
def kIsi:List D -> (D -> Prop) -> Prop:=fun es k=>∃ d T,es = [d,.ty T] /\ (T = "bool" \/ T = "int" \/ T = "str" \/ T = "tuple" \/ T = "list") /\ isiOk d = true /\ k (.bl (isiD T d))
theorem cr_isi:CallRel A (fun xs H Q=>∃ x T,xs = [x,.ty T] /\ (T = "bool" \/ T = "int" \/ T = "str" \/ T = "tuple" \/ T = "list") /\ rIsi A.K T x H Q) kIsi:=by
 rintro os n rho sg H ds vs es ws k Q I rs ⟨d,T,rfl,hT,ho,q⟩ hQ
 obtain ⟨v,v',rfl,r,r'⟩:=reps2 rs
 have e':v' = .ty T:=r'.toS rfl
 subst e'
 refine ⟨v,T,rfl,hT,?_⟩
 have fin:Q (.bl (isiD T d)) H:=hQ _ H _ ⟨os,I.push (Rep.ofS rfl)⟩ q
 cases d with
 | non=>have e:=r.toS rfl; subst e; exact fin
 | bl b=>have e:=r.toS rfl; subst e; exact fin
 | int b=>have e:=r.toS rfl; subst e; exact fin
 | str b=>have e:=r.toS rfl; subst e; exact fin
 | tup fs=>obtain ⟨a,xs,rfl,sq,rr⟩:=r.tup_inv; exact .inl ⟨xs,sq.sq,fin⟩
 | lst fs=>obtain ⟨a,xs,rfl,sq,rr⟩:=r.lst_inv; exact .inr (.inl ⟨xs,sq.sq,fin⟩)
 | dic=>unfold Rep at r; obtain ⟨a,kvs,rfl,_,e⟩:=r; exact .inr (.inr ⟨kvs,e,fin⟩)
 | ty _=>simp [isiOk] at ho
 | exc _=>simp [isiOk] at ho
 | dct _ _=>simp [isiOk] at ho
 | st=>simp [isiOk] at ho
 | own _=>simp [isiOk] at ho
 | fz _=>simp [isiOk] at ho
end
end L2
set_option maxRecDepth 100000
namespace L2
open PySem PySem.Spec PyProof.Rows
section
variable {A:AC} {os:List (Nat × Addr)} {n:Nat} {rho:Rho} {sg:St} {H:Hp} {ds es:List D} {vs ws:List V} {d:D} {v:V}
theorem AmO.split (I:AmO A os n rho sg H (es ++ ds) (ws ++ vs)) (hl:ws.length = es.length):AmO A os n rho sg H ds vs /\ Reps A.K A.G (Zof A os) H es ws :=
 let ⟨q1,q2⟩:=reps_pre I.pend hl
 ⟨I.pends q2,q1⟩
theorem AmO.join (I:AmO A os n rho sg H ds vs) (h:Reps A.K A.G (Zof A os) H es ws):AmO A os n rho sg H (es ++ ds) (ws ++ vs):=I.pends (h.append I.pend)
theorem AmO.under (I:AmO A os n rho sg H (d :: (es ++ ds)) (v :: (ws ++ vs))) (hl:ws.length = es.length):AmO A os n rho sg H (d :: ds) (v :: vs):=by
 obtain ⟨J,r⟩:=I.pop
 exact (J.split hl).1.push r
theorem AmO.front (m:Nat) (I:AmO A os n rho sg H ds vs):AmO A (os.map fun p=>(p.1 + m,p.2)) n (List.replicate m none ++ rho) (List.replicate m none ++ sg) H ds vs:=by
 have zz:∀ a,Zof A (os.map fun p=>(p.1 + m,p.2)) a -> Zof A os a:=fun a z=>by
  rcases z with z | ⟨p,hp,e⟩
  ·exact .inl z
  ·obtain ⟨q, hq, rfl⟩ := List.mem_map.mp hp
   exact .inr ⟨q,hq,e⟩
 refine ⟨by simp [I.len],fun i c e=>?_,Reps.mono (fun a _ z=>zz a z) (fun _ _ _ e=>e) _ _ I.pend,?_,fun p hp=>?_,I.st,I.gz,I.fr,I.z0⟩
 ·have hi : m <= i := by
   apply Nat.le_of_not_lt
   intro hlt
   rw [List.getElem?_append_left (by simpa using hlt),List.getElem?_replicate,if_pos hlt] at e
   cases e
  rw [List.getElem?_append_right (by simpa using hi),List.length_replicate] at e
  obtain ⟨u,e1,e2⟩:=I.slot _ c e
  refine ⟨u,by rw [List.getElem?_append_right (by simpa using hi),List.length_replicate]; exact e1,?_⟩
  have key:∀ j,j + m = i -> SlotR A os H j c u -> SlotR A (os.map fun p=>(p.1 + m,p.2)) H i c u:=fun j hj h=>by
   subst hj
   cases c with
   | own fs =>
    obtain ⟨a,xs,q1,q2,q3,q4⟩:=h
    exact ⟨a,xs,q1,List.mem_map.mpr ⟨_,q2,rfl⟩,q3,Reps.mono (fun a _ z=>zz a z) (fun _ _ _ e=>e) _ _ q4⟩
   | non=>exact Rep.mono (fun a _ z=>zz a z) (fun _ _ _ e=>e) _ _ h
   | bl _=>exact Rep.mono (fun a _ z=>zz a z) (fun _ _ _ e=>e) _ _ h
   | int _=>exact Rep.mono (fun a _ z=>zz a z) (fun _ _ _ e=>e) _ _ h
   | str _=>exact Rep.mono (fun a _ z=>zz a z) (fun _ _ _ e=>e) _ _ h
   | ty _=>exact Rep.mono (fun a _ z=>zz a z) (fun _ _ _ e=>e) _ _ h
   | tup _=>exact Rep.mono (fun a _ z=>zz a z) (fun _ _ _ e=>e) _ _ h
   | lst _=>exact Rep.mono (fun a _ z=>zz a z) (fun _ _ _ e=>e) _ _ h
   | st=>exact Rep.mono (fun a _ z=>zz a z) (fun _ _ _ e=>e) _ _ h
   | fz _=>exact Rep.mono (fun a _ z=>zz a z) (fun _ _ _ e=>e) _ _ h
   | dic=>exact Rep.mono (fun a _ z=>zz a z) (fun _ _ _ e=>e) _ _ h
   | exc _=>exact Rep.mono (fun a _ z=>zz a z) (fun _ _ _ e=>e) _ _ h
   | dct _ _=>exact Rep.mono (fun a _ z=>zz a z) (fun _ _ _ e=>e) _ _ h
  exact key (i - m) (by lia) e2
 ·rw [List.pairwise_map]
  exact I.nd.imp fun {p q} h=>⟨fun z=>h.1 (by simpa using z),h.2⟩
 ·obtain ⟨q, hq, rfl⟩ := List.mem_map.mp hp
  exact I.fresh q hq
theorem AmO.back {m:Nat} {rho':Rho} {sg':St} (I:AmO A os n rho' sg' H ds vs) (h1:rho'.drop m = rho) (h2:sg'.drop m = sg):∃ os',AmO A os' n rho sg H ds vs:=by
 refine ⟨(os.filter fun p=>decide (m <= p.1)).map fun p=>(p.1 - m,p.2),?_⟩
 have zz:∀ a,Zof A ((os.filter fun p=>decide (m <= p.1)).map fun p=>(p.1 - m,p.2)) a -> Zof A os a:=fun a z=>by
  rcases z with z | ⟨p,hp,e⟩
  ·exact .inl z
  ·obtain ⟨q, hq, rfl⟩ := List.mem_map.mp hp
   exact .inr ⟨q,(List.mem_filter.mp hq).1,e⟩
 subst h1 h2
 refine ⟨by simp [I.len],fun i c e=>?_,Reps.mono (fun a _ z=>zz a z) (fun _ _ _ e=>e) _ _ I.pend,?_,fun p hp=>?_,I.st,I.gz,I.fr,I.z0⟩
 ·rw [List.getElem?_drop] at e
  obtain ⟨u,e1,e2⟩:=I.slot _ c e
  refine ⟨u,by rw [List.getElem?_drop]; exact e1,?_⟩
  cases c with
  | own fs =>
   obtain ⟨a,xs,q1,q2,q3,q4⟩:=e2
   exact ⟨a,xs,q1,List.mem_map.mpr ⟨_,List.mem_filter.mpr ⟨q2,by simp⟩,by simp⟩,q3,Reps.mono (fun a _ z=>zz a z) (fun _ _ _ e=>e) _ _ q4⟩
  | non=>exact Rep.mono (fun a _ z=>zz a z) (fun _ _ _ e=>e) _ _ e2
  | bl _=>exact Rep.mono (fun a _ z=>zz a z) (fun _ _ _ e=>e) _ _ e2
  | int _=>exact Rep.mono (fun a _ z=>zz a z) (fun _ _ _ e=>e) _ _ e2
  | str _=>exact Rep.mono (fun a _ z=>zz a z) (fun _ _ _ e=>e) _ _ e2
  | ty _=>exact Rep.mono (fun a _ z=>zz a z) (fun _ _ _ e=>e) _ _ e2
  | tup _=>exact Rep.mono (fun a _ z=>zz a z) (fun _ _ _ e=>e) _ _ e2
  | lst _=>exact Rep.mono (fun a _ z=>zz a z) (fun _ _ _ e=>e) _ _ e2
  | st=>exact Rep.mono (fun a _ z=>zz a z) (fun _ _ _ e=>e) _ _ e2
  | fz _=>exact Rep.mono (fun a _ z=>zz a z) (fun _ _ _ e=>e) _ _ e2
  | dic=>exact Rep.mono (fun a _ z=>zz a z) (fun _ _ _ e=>e) _ _ e2
  | exc _=>exact Rep.mono (fun a _ z=>zz a z) (fun _ _ _ e=>e) _ _ e2
  | dct _ _=>exact Rep.mono (fun a _ z=>zz a z) (fun _ _ _ e=>e) _ _ e2
 ·rw [List.pairwise_map, List.pairwise_filter]
  refine I.nd.imp fun {p q} h hp hq=>⟨fun z=>h.1 ?_,h.2⟩
  have a1:m <= p.1:=by simpa using hp
  have a2:m <= q.1:=by simpa using hq
  have z':p.1 - m = q.1 - m:=z
  lia
 ·obtain ⟨q, hq, rfl⟩ := List.mem_map.mp hp
  exact I.fresh q (List.mem_filter.mp hq).1
end
abbrev TGD:=D -> Rho -> (Rho -> Prop) -> Prop
abbrev TGsD:=List D -> Rho -> (Rho -> Prop) -> Prop
def gOf (A:AC) (m:Nat) (g:TGD):TG:=fun v sg H Q=>∃ rho n P d ds vs,Am A n rho sg H (d :: ds) (v :: vs) /\ g d rho P /\ ∀ rho' sg',Am A n rho' sg' H ds vs -> sg'.drop m = sg.drop m -> P rho' -> Q sg' H
def gsOf (A:AC) (m:Nat) (g:TGsD):TGs:=fun us sg H Q=>∃ rho n P es ds vs,Am A n rho sg H (es ++ ds) (us ++ vs) /\ us.length = es.length /\ g es rho P /\ ∀ rho' sg',Am A n rho' sg' H ds vs -> sg'.drop m = sg.drop m -> P rho' -> Q sg' H
@[irreducible] def PGD (A:AC) (X:Cx) (m:Nat) (tg:Expr) (g:TGD):Prop:=PG X tg (gOf A m g)
@[irreducible] def PGsD (A:AC) (X:Cx) (m:Nat) (tg:List Expr) (g:TGsD):Prop:=PGs X tg (gsOf A m g)
theorem PG.imp {X:Cx} {tg:Expr} {g g':TG} (h:PG X tg g) (hi:∀ v sg H Q,g' v sg H Q -> g v sg H Q):PG X tg g':=fun pins s sg H v u Q I r q=>h pins s sg H v u Q I r (hi _ _ _ _ q)
theorem PGs.imp {X:Cx} {tg:List Expr} {g g':TGs} (h:PGs X tg g) (hi:∀ v sg H Q,g' v sg H Q -> g v sg H Q):PGs X tg g':=fun pins s sg H v u Q I r q=>h pins s sg H v u Q I r (hi _ _ _ _ q)
section
variable {A:AC} {X:Cx} {m:Nat} {pos:Pos}
def gdName (i:Nat):TGD:=fun d rho P=>i < rho.length /\ P (rho.set i (some d))
theorem pgd_name {i:Nat} {x:Str} (hN:X.N.Nodup) (hi:X.N[i]? = some x) (hx:Loc X.env.scope x) (hm:i < m) (hf:X.fn x = true \/ X.env.scope.names.lookup x = some .local:=by first | exact .inl rfl | exact .inr rfl | assumption):PGD A X m (.Name x pos) (gdName i):=by
 with_unfolding_all
  exact
   (pg_name hN hi hx hf).imp fun v sg H Q h => by
    obtain ⟨rho,n,P,d,ds,vs,⟨os,I⟩,⟨hl,k⟩,hQ⟩:=h
    refine hQ (rho.set i (some d)) (sg.set i (some v)) ⟨_,I.set hl⟩ ?_ k
    rw [List.drop_set_of_lt hm]
def gdNil:TGsD:=fun es rho P=>es = [] /\ P rho
def gdCons (g:TGD) (gs:TGsD):TGsD:=fun es rho P=>∃ d r,es = d :: r /\ g d rho fun rho'=>gs r rho' P
theorem pgsd_nil:PGsD A X m [] gdNil:=by
 with_unfolding_all
  exact pgs_nil.imp fun us sg H Q h=>by
   obtain ⟨rho,n,P,es,ds,vs,I,hl,⟨rfl,k⟩,hQ⟩:=h
   have e:us = []:=List.length_eq_zero_iff.mp hl
   subst e
   exact ⟨rfl,hQ rho sg I rfl k⟩
theorem pgsd_cons {e:Expr} {es:List Expr} {g:TGD} {gs:TGsD} (h1:PGD A X m e g) (h2:PGsD A X m es gs) (hs:(assignEach (e :: es) X.env).map (·.2) = assign e X.env :: (assignEach es X.env).map (·.2):=by rfl):PGsD A X m (e :: es) (gdCons g gs):=by
 with_unfolding_all
  exact
   (pgs_cons h1 h2 hs).imp fun us sg H Q h => by
    obtain ⟨rho,n,P,es',ds,vs,I,hl,⟨d,r,rfl,k⟩,hQ⟩:=h
    cases us with
    | nil=>simp at hl
    | cons u us =>
     refine ⟨u,us,rfl,⟨rho,n,_,d,r ++ ds,us ++ vs,I,k,fun rho' sg' I' e1 k'=>⟨rho',n,P,r,ds,vs,I',by simpa using hl,k',fun rho2 sg2 I2 e2 k2=>hQ rho2 sg2 I2 (e2.trans e1) k2⟩⟩⟩
def gdTup (k:Nat) (gs:TGsD):TGD:=fun d rho P=>∃ es,d = .tup es /\ es.length = k /\ gs es rho P
theorem pgd_tup {es:List Expr} {k:Nat} {gs:TGsD} {kt:Nat} (hK:X.K = A.K) (hc:X.calm = true) (h:PGsD A X m es gs) (hn:(assignEach es X.env).length = k:=by rfl) (hst:(assignEach es X.env).findIdx? (·.1) = none:=by rfl):PGD A X m (.Tuple es kt pos) (gdTup k gs):=by
 with_unfolding_all
  exact
   (pg_tup (n := k) hc h hn hst).imp fun v sg H Q h => by
    obtain ⟨rho,n,P,d,ds,vs,⟨os,I⟩,⟨fs,rfl,hl,q⟩,hQ⟩:=h
    obtain ⟨J,r⟩:=I.pop
    obtain ⟨a,xs,rfl,sq,rs⟩:=r.tup_inv
    have hx:=rs.length
    rw [hK]
    exact ⟨a,xs,rfl,sq.sq,by rw [hx]; exact hl,rho,n,P,fs,ds,vs,⟨os,J.join rs⟩,hx,q,hQ⟩
end
abbrev TID:=Rho -> Nat -> (List D -> Nat -> Prop) -> Prop
def JIs (A:AC) (J:It) (es:List D) (ws:List V) (items:List D):Prop:=∀ n rho sg H ds vs i,Am A n rho sg H (es ++ ds) (ws ++ vs) ->
 (∀ d,items[i]? = some d -> J.go i H /\ ∀ x H',J.yld i H x H' -> Am A n rho sg H' (d :: (es ++ ds)) (x :: (ws ++ vs))) /\ (items.length <= i -> J.stop i H)
def iOf (A:AC) (it:TID):TI:=fun sg H R=>∃ rho n P ds vs,Am A n rho sg H ds vs /\ it rho n P /\ ∀ J H' n' items es ws,Am A n' rho sg H' (es ++ ds) (ws ++ vs) -> ws.length = es.length -> JIs A J es ws items -> P items n' -> R J H'
@[irreducible] def PID (A:AC) (X:Cx) (tg iter:Expr) (it:TID):Prop:=PI X tg iter (iOf A it)
theorem PI.imp {X:Cx} {tg e:Expr} {t t':TI} (h:PI X tg e t) (hi:∀ sg H Q,t' sg H Q -> t sg H Q):PI X tg e t':=fun pins s sg H Q I q=>h pins s sg H Q I (hi _ _ _ q)
section
variable {A:AC} {X:Cx} {tg a b:Expr} {ta tb:TD} {pos p:Pos} {t1:TAD}
def rngD (lo:Int) (k:Nat):List D:=(List.range k).map fun (i:Nat)=>D.int (lo + (i:Int))
def iRngD (t:TAD):TID:=fun rho n P=>t rho n fun es n1=>∃ j:Int,es = [.int j] /\ -(2 ^ 62) <= j /\ j < 2 ^ 62 /\ P (rngD 0 j.toNat) n1
theorem jis_rng {lo:Int} {k:Nat}:JIs A (Itr lo k) [] [] (rngD lo k):=fun n2 rho2 sg2 H2 ds2 vs2 i ⟨os2,I2⟩=>by
 refine ⟨fun d e=>?_,fun hi=>?_⟩
 ·unfold rngD at e
  rw [List.getElem?_map] at e
  cases q:(List.range k)[i]? with
  | none=>rw [q] at e; cases e
  | some j =>
   rw [q] at e
   cases e
   have hj:=List.getElem?_eq_some_iff.mp q
   obtain ⟨hlt,ej⟩:=hj
   rw [List.getElem_range] at ej
   subst ej
   refine ⟨(show i < k by simpa using hlt),fun x H3 y=>?_⟩
   obtain ⟨e3,e4⟩:=y
   subst e3 e4
   exact ⟨os2,I2.push (Rep.ofS (d:=.int (lo + i)) rfl)⟩
 ·unfold rngD at hi
  exact (show k <= i by simpa using hi)
theorem pid_rng (hm:X.mg "range" = none) (ha:PAD A X [a] t1) (hg:Gl X "range" := by rfl) (hs:starEach [a] X.env = [(false,eval a X.env)]:=by rfl):PID A X tg (.Call (.Name "range" p) [a] [] pos) (iRngD t1):=by
 with_unfolding_all
  exact
   (pi_range1 hg hm ha hs).imp fun sg H R h => by
    obtain ⟨rho,n,P,ds,vs,I,ht,hQ⟩:=h
    refine ⟨rho,n,_,ds,vs,I,ht,fun ws H' n' es' ⟨os,J⟩ hl k=>?_⟩
    obtain ⟨j,rfl,h1,h2,k⟩:=k
    obtain ⟨J1,rs⟩:=J.split hl
    obtain ⟨v,rfl,r⟩:=reps1 rs
    exact ⟨j,by rw [r.int_inv],h1,h2,hQ _ H' n' _ [] [] ⟨os,J1⟩ rfl jis_rng k⟩
def seqOf:D -> Option (Bool × List D)
 | .lst es=>some (true,es)
 | .tup es=>some (false,es)
 | _=>none
theorem Rep.seq {K:PySem.W.Frag} {G:Option Addr} {Z:Addr -> Prop} {H:Hp} {v:V} {b:Bool} {es:List D}:∀ {d:D},seqOf d = some (b,es) -> Rep K G Z H d v -> ∃ a xs,v = .ref a /\ SqZ K Z H b a xs /\ Reps K G Z H es xs
 | .lst fs,h,r=>by cases h; exact r.lst_inv
 | .tup fs,h,r=>by cases h; exact r.tup_inv
 | .non,h,_=>by cases h
 | .bl _,h,_=>by cases h
 | .int _,h,_=>by cases h
 | .str _,h,_=>by cases h
 | .ty _,h,_=>by cases h
 | .st,h,_=>by cases h
 | .own _,h,_=>by cases h
 | .fz _,h,_=>by cases h
def zipD (xs ys:List D):List D:=List.zipWith (fun x y=>D.tup [x,y]) xs ys
def iZipD (t:TAD):TID:=fun rho n P=>t rho n fun es n1=>∃ d1 d2 b1 xs b2 ys,es = [d1,d2] /\ seqOf d1 = some (b1,xs) /\ seqOf d2 = some (b2,ys) /\ P (zipD xs ys) n1
theorem jis_zip {d1 d2:D} {l1 l2:Addr} {b1 b2:Bool} {xs ys:List D} (h1:seqOf d1 = some (b1,xs)) (h2:seqOf d2 = some (b2,ys)):JIs A (Itz A.K b1 b2 l1 l2) [d1,d2] [.ref l1,.ref l2] (zipD xs ys):=fun n rho sg H ds vs i ⟨os,I⟩=>by
 obtain ⟨I1,r1⟩:=AmO.pop (d:=d1) (v:=.ref l1) (ds:=d2 :: ds) (vs:=.ref l2 :: vs) I
 obtain ⟨I2,r2⟩:=I1.pop
 obtain ⟨a1,us,e1,sq1,rs1⟩:=r1.seq h1
 obtain ⟨a2,ws,e2,sq2,rs2⟩:=r2.seq h2
 cases e1; cases e2
 refine ⟨fun d e=>?_,fun hi=>⟨us,ws,sq1.sq,sq2.sq,?_⟩⟩
 ·unfold zipD at e
  rw [List.getElem?_zipWith] at e
  cases q1:xs[i]? with
  | none=>rw [q1] at e; cases e
  | some x =>
   cases q2:ys[i]? with
   | none=>rw [q1,q2] at e; cases e
   | some y =>
    rw [q1,q2] at e
    cases e
    obtain ⟨u,eu,ru⟩:=rs1.get q1
    obtain ⟨w,ew,rw'⟩:=rs2.get q2
    refine ⟨⟨us,ws,u,w,sq1.sq,sq2.sq,eu,ew⟩,fun v H3 yy=>?_⟩
    obtain ⟨T,hT,rfl,k⟩:=yy
    obtain ⟨u',w',eu',ew',rfl⟩:=k us ws sq1.sq sq2.sq
    rw [eu] at eu'; cases eu'
    rw [ew] at ew'; cases ew'
    exact ⟨os,I.newTup (.cons ru (.cons rw' .nil)) hT⟩
 ·rw [rs1.length, rs2.length]
  unfold zipD at hi
  rw [List.length_zipWith] at hi
  lia
theorem pid_zip {es:List Expr} {kk:Nat} {ps:Pos} (hK:X.K = A.K) (hm:X.mg "zip" = none) (ha:PAD A X [a,b] t1) (hg:Gl X "zip" := by rfl) (hs:starEach [a,b] X.env = [(false,eval a X.env),(false,eval b X.env)]:=by rfl) (hs2:starEach [b] X.env = [(false,eval b X.env)]:=by rfl) :
  PID A X (.Tuple es kk ps) (.Call (.Name "zip" p) [a,b] [] pos) (iZipD t1):=by
 with_unfolding_all
  exact (pi_zip hg hm ha hs hs2).imp fun sg H R h=>by
   obtain ⟨rho,n,P,ds,vs,I,ht,hQ⟩:=h
   refine ⟨rho,n,_,ds,vs,I,ht,fun ws H' n' es' ⟨os,J⟩ hl k=>?_⟩
   obtain ⟨d1,d2,b1,xs,b2,ys,rfl,h1,h2,k⟩:=k
   obtain ⟨J1,rs⟩:=J.split hl
   obtain ⟨v1,v2,rfl,r1,r2⟩:=reps2 rs
   obtain ⟨a1,us,rfl,sq1,rs1⟩:=r1.seq h1
   obtain ⟨a2,ws',rfl,sq2,rs2⟩:=r2.seq h2
   rw [hK]
   exact ⟨b1,b2,a1,a2,us,ws',rfl,sq1.sq,sq2.sq,hQ _ H' n' _ [d1,d2] [.ref a1,.ref a2] ⟨os,J⟩ rfl (jis_zip h1 h2) k⟩
end
section
variable {A:AC} {X:Cx} {tg iter elt:Expr} {ifs:List Expr} {scope:Scope} {own M:List Str} {pos:Pos} {it:TID} {g:TGD} {tt:TBD} {te:TD}
def dComp (it:TID) (own:Nat) (g:TGD) (tt:TBD) (te:TD):TD:=fun rho n P=>it rho n fun items n1=>items.length <= sizeLine /\ ∃ J:Nat -> List D -> Nat -> Prop,J 0 [] n1 /\
 (∀ i d acc n,items[i]? = some d -> J i acc n -> g d (List.replicate own none ++ rho) fun rho'=>rho'.drop own = rho /\ tt rho' n fun c n2=>if c = true then te rho' n2 fun e n3=>J (i + 1) (acc ++ [e]) n3 else J (i + 1) acc n2) /\
 ∀ acc n,J items.length acc n -> P (.lst acc) n
def bYes:TBD:=fun _ n P=>P true n
theorem PTs.imp {X:Cx} {e:List Expr} {t t':TT} (h:PTs X e t) (hi:∀ sg H Q,t' sg H Q -> t sg H Q):PTs X e t':=by
 with_unfolding_all
  exact fun pins s sg H Q I q=>h pins s sg H Q I (hi _ _ _ q)
theorem ptsd_nil {X:Cx}:PTs X [] (ttOf A bYes):=by
 with_unfolding_all
  exact pts_nil.imp fun sg H Q h=>by
   obtain ⟨rho,n,P,ds,vs,I,ht,hQ⟩:=h
   exact hQ true H n I ht
theorem tComp_ofG {sg:St} {H:Hp} {Q:VK} {m:Nat} {rho:Rho} {n:Nat} {P:D -> Nat -> Prop} {ds:List D} {vs:List V} (I:Am A n rho sg H ds vs) (ht:dComp it m g tt te rho n P)
  (hQ:∀ os n' H' fs xs p,AmO A os n' rho sg H' ds vs -> Reps A.K A.G (Zof A os) H' fs xs -> H' p = none -> P (.lst fs) n' -> Q (.ref p) (upd H' p (.lst xs))):tComp (iOf A it) m (gOf A m g) (ttOf A tt) (tOf A te) sg H Q:=by
 refine ⟨rho,n,_,ds,vs,I,ht,fun J H' n' items es ws I1 hl hJ k=>?_⟩
 obtain ⟨hsz,W,w0,turn,fin⟩:=k
 refine ⟨fun i mm acc H=>mm = items.length - i /\ i <= items.length /\ acc.length <= i /\ ∃ accD n,acc.length = accD.length /\ Am A n rho sg H (es ++ (accD ++ ds)) (ws ++ (acc ++ vs)) /\ W i accD n,
  ⟨items.length,rfl,Nat.zero_le _,Nat.le_refl _,[],n',rfl,I1,w0⟩,?_⟩
 rintro i mm acc H3 ⟨rfl,hi,hai,accD,n3,hal,⟨os,I3⟩,w3⟩
 obtain ⟨j1,j2⟩:=hJ n3 rho sg H3 (accD ++ ds) (acc ++ vs) i ⟨os,I3⟩
 by_cases hlt:i < items.length
 ·refine .inr ⟨(j1 items[i] (by simp [hlt])).1, by lia, fun x H4 y => ?_⟩
  obtain ⟨os4,I4⟩:=(j1 items[i] (by simp [hlt])).2 x H4 y
  refine ⟨List.replicate m none ++ rho,n3,_,items[i],es ++ (accD ++ ds),ws ++ (acc ++ vs),⟨_,I4.front m⟩,turn i items[i] accD n3 (by simp [hlt]) w3,fun rho' sg' ⟨os5,I5⟩ e5 k5=>?_⟩
  obtain ⟨k5,k6⟩:=k5
  have e6:sg'.drop m = sg:=by rw [e5,List.drop_left' (by simp)]
  refine ⟨e6,rho',n3,_,es ++ (accD ++ ds),ws ++ (acc ++ vs),⟨os5,I5⟩,k6,fun c H6 n6 ⟨os6,I6⟩ k7=>?_⟩
  cases c with
  | false =>
   obtain ⟨os7,I7⟩:=I6.back k5 e6
   exact ⟨items.length - (i + 1),by lia,rfl,hlt,by lia,accD,n6,hal,⟨os7,I7⟩,k7⟩
  | true =>
   rw [if_pos rfl] at k7 ⊢
   refine ⟨rho',n6,_,es ++ (accD ++ ds),ws ++ (acc ++ vs),⟨os6,I6⟩,k7,fun v H8 n8 d ⟨os8,I8⟩ k8=>?_⟩
   obtain ⟨os9,I9⟩:=I8.back k5 e6
   obtain ⟨I10,rv⟩:=I9.pop
   obtain ⟨I11,r1⟩:=I10.split hl
   obtain ⟨I12,r2⟩:=I11.split hal
   refine ⟨items.length - (i + 1),by lia,rfl,hlt,by rw [List.length_append,List.length_singleton]; lia,accD ++ [d],n8,by simp [hal],⟨os9,(I12.join (r2.append (.cons rv .nil))).join r1⟩,k8⟩
 ·have e : i = items.length := by lia
  subst e
  refine .inl ⟨j2 (Nat.le_refl _),Nat.le_trans hai hsz,fun D hD=>?_⟩
  obtain ⟨I4,r1⟩:=I3.split hl
  obtain ⟨I5,r2⟩:=I4.split hal
  exact hQ os n3 _ accD acc D I5 r2 hD (fin accD n3 w3)
theorem tComp_of {sg:St} {H:Hp} {Q:VK} {m:Nat} (h:tOf A (dComp it m g tt te) sg H Q):tComp (iOf A it) m (gOf A m g) (ttOf A tt) (tOf A te) sg H Q:=by
 obtain ⟨rho,n,P,ds,vs,I,ht,hQ⟩:=h
 exact tComp_ofG I ht fun os n' H' fs xs p J r hp k=>hQ _ _ n' _ ⟨os,J.newLst r hp⟩ k
theorem pd_comp (ok:CompOk X scope M) (hc:X.calm = true) (hi:PID A X tg iter it) (hg:∀ C s2 H2 fp,PGD A (cxComp X scope own M C s2 H2 fp) own.length tg g) (ht:∀ C s2 H2 fp,PTs (cxComp X scope own M C s2 H2 fp) ifs (ttOf A tt))
  (he:∀ C s2 H2 fp,PD A (cxComp X scope own M C s2 H2 fp) elt te) (hs:∀ x,foldedSetIterable iter X.env x = pure x:=by intro _; rfl):PD A X (.ListComp elt [⟨tg,iter,ifs,0⟩] scope pos) (dComp it own.length g tt te):=by
 with_unfolding_all
  exact
   (pe_comp ok hc hi hg ht he hs).imp fun _ _ _=>tComp_of
end
end L2
set_option maxRecDepth 100000
namespace L2
open PySem PySem.Spec PyProof.Rows
structure EndsD where
 nx:Rho -> Nat -> Prop
 rt:D -> Nat -> Prop
 bk:Rho -> Nat -> Prop:=fun _ _=>False
 ct:Rho -> Nat -> Prop:=fun _ _=>False
abbrev TSD:=EndsD -> Rho -> Nat -> Prop
structure EOk (A:AC) (E:Ends) (F:EndsD) (ds:List D) (vs:List V):Prop where
 nx:∀ rho n sg H,Am A n rho sg H ds vs -> F.nx rho n -> E.nx sg H
 rt:∀ d n v rho sg H,Am A n rho sg H (d :: ds) (v :: vs) -> F.rt d n -> E.rt v H
 bk:∀ rho n sg H,Am A n rho sg H ds vs -> F.bk rho n -> E.bk sg H
 ct:∀ rho n sg H,Am A n rho sg H ds vs -> F.ct rho n -> E.ct sg H
def sOf (A:AC) (t:TSD):TS:=fun E sg H=>∃ rho n F ds vs,Am A n rho sg H ds vs /\ t F rho n /\ EOk A E F ds vs
@[irreducible] def PSD (A:AC) (X:Cx) (s:Stmt) (t:TSD):Prop:=PS X s (sOf A t)
@[irreducible] def PSsD (A:AC) (X:Cx) (s:List Stmt) (t:TSD):Prop:=PSs X s (sOf A t)
section
variable {A:AC} {X:Cx} {st:Stmt} {rest:List Stmt} {t u:TSD} {e a b:Expr} {te:TD} {tc:TBD} {pos:Pos}
def sNext:TSD:=fun F rho n=>F.nx rho n
def sSeq (t u:TSD):TSD:=fun F rho n=>t { F with nx:=u F } rho n
theorem pssd_nil:PSsD A X [] sNext:=by
 with_unfolding_all
  exact pss_nil.imp fun E sg H h=>by
   obtain ⟨rho,n,F,ds,vs,I,ht,ok⟩:=h
   exact ok.nx _ _ _ _ I ht
theorem pssd_cons (h1:PSD A X st t) (h2:PSsD A X rest u):PSsD A X (st :: rest) (sSeq t u):=by
 with_unfolding_all
  exact (pss_cons h1 h2).imp fun E sg H h=>by
   obtain ⟨rho,n,F,ds,vs,I,ht,ok⟩:=h
   exact ⟨rho,n,{ F with nx:=u F },ds,vs,I,ht,⟨fun rho' n' sg' H' I' k=>⟨rho',n',F,ds,vs,I',k,ok⟩,ok.rt,ok.bk,ok.ct⟩⟩
theorem pssd_one (h1:PSD A X st t):PSsD A X [st] t:=by
 with_unfolding_all
  exact pss_one h1
def sRet (te:TD):TSD:=fun F rho n=>te rho n F.rt
theorem psd_ret (he:PD A X e te):PSD A X (.Return (some e) pos) (sRet te):=by
 with_unfolding_all
  exact (ps_ret he).imp fun E sg H h=>by
   obtain ⟨rho,n,F,ds,vs,I,ht,ok⟩:=h
   exact ⟨rho,n,_,ds,vs,I,ht,fun v H' n' d I' k=>ok.rt _ _ _ _ _ _ I' k⟩
def sIf (c:TBD) (t u:TSD):TSD:=fun F rho n=>c rho n fun b n1=>if b = true then t F rho n1 else u F rho n1
theorem psd_if {c:Expr} {sa sb:List Stmt} (hc:PTD A X c tc) (ha:PSsD A X sa t) (hb:PSsD A X sb u):PSD A X (.If c sa sb pos) (sIf tc t u):=by
 with_unfolding_all
  exact (ps_if hc ha hb).imp fun E sg H h=>by
   obtain ⟨rho,n,F,ds,vs,I,ht,ok⟩:=h
   refine ⟨rho,n,_,ds,vs,I,ht,fun c H' n' J k=>?_⟩
   cases c with
   | true=>exact ⟨rho,n',F,ds,vs,J,k,ok⟩
   | false=>exact ⟨rho,n',F,ds,vs,J,k,ok⟩
def sSet (i:Nat) (te:TD):TSD:=fun F rho n=>i < rho.length /\ te rho n fun d n1=>F.nx (rho.set i (some d)) n1
theorem psd_set {i:Nat} {x:Str} {pos':Pos} (hN:X.N.Nodup) (hi:X.N[i]? = some x) (hx:Loc X.env.scope x) (he:PD A X e te) (hs:swapsWith e (some (.Name x pos')) pos.line X.env = pure false:=by rfl) (hf:X.fn x = true \/ X.env.scope.names.lookup x = some .local:=by first | exact .inl rfl | exact .inr rfl | assumption) :
  PSD A X (.Assign [.Name x pos'] e pos) (sSet i te):=by
 with_unfolding_all
  exact (ps_set hN hi hx he hs hf).imp fun E sg H h=>by
   obtain ⟨rho,n,F,ds,vs,I,⟨hl,ht⟩,ok⟩:=h
   exact ⟨rho,n,_,ds,vs,I,ht,fun v H' n' d ⟨os,J⟩ k=>ok.nx _ _ _ _ ⟨_,J.set hl⟩ k⟩
theorem psd_setComp {i:Nat} {x:Str} {pos' spos:Pos} {tg iter elt:Expr} {ifs:List Expr} {scope:Scope} {own M:List Str} {it:TID} {g:TGD} {tt:TBD} (hN:X.N.Nodup) (hix:X.N[i]? = some x) (hx:Loc X.env.scope x) (ok:CompOk X scope M) (hc:X.calm = true) (hi:PID A X tg iter it)
  (hg:∀ C s2 H2 fp,PGD A (cxComp X scope own M C s2 H2 fp) own.length tg g) (ht:∀ C s2 H2 fp,PTs (cxComp X scope own M C s2 H2 fp) ifs (ttOf A tt)) (he:∀ C s2 H2 fp,PD A (cxComp X scope own M C s2 H2 fp) elt te)
  (hsw:swapsWith (.ListComp elt [⟨tg,iter,ifs,0⟩] scope pos) (some (.Name x pos')) spos.line X.env = pure true:=by rfl) (hf:X.fn x = true \/ X.env.scope.names.lookup x = some .local:=by first | exact .inl rfl | exact .inr rfl | assumption)
  (hs:∀ x,foldedSetIterable iter X.env x = pure x:=by intro _; rfl):PSD A X (.Assign [.Name x pos'] (.ListComp elt [⟨tg,iter,ifs,0⟩] scope pos) spos) (sSet i (dComp it own.length g tt te)):=by
 with_unfolding_all
  exact
   (ps_setComp hN hix hx ok hc hi hg ht he hsw hf hs).imp fun E sg H h => by
    obtain ⟨rho,n,F,ds,vs,I,⟨hl,ht⟩,ok⟩:=h
    exact tComp_of (A:=A) ⟨rho,n,_,ds,vs,I,ht,fun v H' n' d ⟨os,J⟩ k=>ok.nx _ _ _ _ ⟨_,J.set hl⟩ k⟩
def sUnp (te:TD) (g:TGD):TSD:=fun F rho n=>te rho n fun d n1=>g d rho fun rho'=>F.nx rho' n1
theorem psd_unp {tg:Expr} {g:TGD} {m:Nat} (he:PD A X e te) (hg:PGD A X m tg g) (hs:swapsWithSole [tg] e pos.line X.env = pure false:=by rfl) (hw:swappedStores [tg] e X.env = pure none:=by rfl)
  (h1:(assignEach [tg] X.env).map (·.2) = [assign tg X.env]:=by rfl):PSD A X (.Assign [tg] e pos) (sUnp te g):=by
 with_unfolding_all
  exact (ps_asg he hg hs hw h1).imp fun E sg H h=>by
   obtain ⟨rho,n,F,ds,vs,I,ht,ok⟩:=h
   exact ⟨rho,n,_,ds,vs,I,ht,fun v H' n' d J k=>⟨rho,n',_,d,ds,vs,J,k,fun rho' sg' J' _ k'=>ok.nx _ _ _ _ J' k'⟩⟩
def sPar (i j:Nat) (t:TAD):TSD:=fun F rho n=>i < rho.length /\ j < rho.length /\ t rho n fun es n1=>∃ d d',es = [d,d'] /\ F.nx ((rho.set i (some d)).set j (some d')) n1
theorem psd_par {i j:Nat} {x y:Str} {ta:TAD} {px py pt:Pos} {kt k2 pt2} (hc:X.calm = true) (hN:X.N.Nodup) (hi:X.N[i]? = some x) (hj:X.N[j]? = some y) (hij:i ≠ j)
  (hx:X.env.scope.names.lookup x = some .local) (hy:X.env.scope.names.lookup y = some .local) (ha:PAD A X [a,b] ta)
  (hw:swappedStores [.Tuple [.Name x px,.Name y py] kt pt] (.Tuple [a,b] k2 pt2) X.env = pure (some [x,y]):=by rfl)
  (hs:swapsWithSole [.Tuple [.Name x px,.Name y py] kt pt] (.Tuple [a,b] k2 pt2) pos.line X.env = pure false:=by rfl) :
  PSD A X (.Assign [.Tuple [.Name x px,.Name y py] kt pt] (.Tuple [a,b] k2 pt2) pos) (sPar i j ta):=by
 with_unfolding_all
  exact (ps_par hc hN hi hj hij hx hy ha hw hs).imp fun E sg H h=>by
   obtain ⟨rho,n,F,ds,vs,I,⟨hl,hl2,ht⟩,ok⟩:=h
   refine ⟨rho,n,_,ds,vs,I,ht,fun ws H' n' es ⟨os,J⟩ hlen k=>?_⟩
   obtain ⟨d,d',rfl,k⟩:=k
   obtain ⟨J1,rs⟩:=J.split hlen
   obtain ⟨v,v',rfl,r,r'⟩:=reps2 rs
   refine ⟨v,v',rfl,ok.nx _ _ _ _ ?_ k⟩
   have J2:AmO A os n' rho sg H' (d :: d' :: ds) (v :: v' :: vs):=(J1.push r').push r
   exact ⟨_,(J2.set hl).set (by simpa using hl2)⟩
def sFor (it:TID) (g:TGD) (tb:TSD):TSD:=fun F rho n=>it rho n fun items n1=>∃ J:Nat -> Rho -> Nat -> Prop,J 0 rho n1 /\
 (∀ i d rho n,items[i]? = some d -> J i rho n -> g d rho fun rho'=>tb { F with nx:=J (i + 1),ct:=J (i + 1),bk:=F.nx } rho' n) /\ ∀ rho n,J items.length rho n -> F.nx rho n
theorem psd_for {tg iter:Expr} {body:List Stmt} {it:TID} {g:TGD} {tb:TSD} {m:Nat} (hp:PassesOwn (model X.prog X.w) X.A X.env X.xe) (hc:X.calm = true) (hi:PID A X tg iter it) (hg:PGD A X m tg g) (hb:PSsD A X body tb)
  (hs:∀ x,foldedSetIterable iter X.env x = pure x:=by intro _; rfl):PSD A X (.For tg iter body [] pos) (sFor it g tb):=by
 with_unfolding_all
  exact (ps_for hp hc hi hg hb hs).imp fun E sg H h=>by
   obtain ⟨rho,n,F,ds,vs,I,ht,ok⟩:=h
   refine ⟨rho,n,_,ds,vs,I,ht,fun J H' n' items es ws I1 hl hJ k=>?_⟩
   obtain ⟨W,w0,turn,fin⟩:=k
   refine ⟨fun i mm sg H=>mm = items.length - i /\ i <= items.length /\ ∃ rho n,Am A n rho sg H (es ++ ds) (ws ++ vs) /\ W i rho n,⟨items.length,rfl,Nat.zero_le _,rho,n',I1,w0⟩,?_⟩
   rintro i mm sg3 H3 ⟨rfl,hi,rho3,n3,I3,w3⟩
   obtain ⟨j1,j2⟩:=hJ n3 rho3 sg3 H3 ds vs i I3
   by_cases hlt:i < items.length
   ·refine .inr ⟨(j1 items[i] (by simp [hlt])).1, fun sg' H' => ∃ rho n, Am A n rho sg' H' (es ++ ds) (ws ++ vs) /\ W (i + 1) rho n, fun sg' H' ⟨rho', n', I', w'⟩ => ⟨items.length - (i + 1), by lia, rfl, hlt, rho', n', I', w'⟩, fun x H4 y => ?_⟩
    have I4:=(j1 items[i] (by simp [hlt])).2 x H4 y
    refine ⟨rho3,n3,_,items[i],es ++ ds,ws ++ vs,I4,turn i items[i] rho3 n3 (by simp [hlt]) w3,fun rho' sg' I5 _ k5=>⟨rho',n3,{ F with nx:=W (i + 1),ct:=W (i + 1),bk:=F.nx },es ++ ds,ws ++ vs,I5,k5,?_⟩⟩
    refine ⟨fun rho6 n6 sg6 H6 I6 k6=>⟨rho6,n6,I6,k6⟩,fun d n6 v rho6 sg6 H6 ⟨os6,I6⟩ k6=>ok.rt _ _ _ _ _ _ ⟨os6,I6.under hl⟩ k6,fun rho6 n6 sg6 H6 ⟨os6,I6⟩ k6=>ok.nx _ _ _ _ ⟨os6,(I6.split hl).1⟩ k6,fun rho6 n6 sg6 H6 I6 k6=>⟨rho6,n6,I6,k6⟩⟩
   ·have e : i = items.length := by lia
    subst e
    obtain ⟨os,I3⟩:=I3
    exact .inl ⟨j2 (Nat.le_refl _),ok.nx _ _ _ _ ⟨os,(I3.split hl).1⟩ (fin rho3 n3 w3)⟩
def sDrop (te:TD):TSD:=fun F rho n=>te rho n fun _ n1=>F.nx rho n1
theorem AmO.setOwn {os:List (Nat × Addr)} {n:Nat} {rho:Rho} {sg:St} {H:Hp} {ds es:List D} {vs xs:List V} {i:Nat} {p:Addr} (I:AmO A os n rho sg H ds vs) (hi:i < rho.length) (hp:H p = none) (r:Reps A.K A.G (Zof A os) H es xs) :
  ∃ os',AmO A os' n (rho.set i (some (.own es))) (sg.set i (some (.ref p))) (upd H p (.lst xs)) ds vs:=by
 have hf:∀ a u,H a = some u -> upd H p (.lst xs) a = some u:=fun a u e=>by rw [upd_ne (ne_of_none e hp)]; exact e
 refine ⟨(i,p) :: os.filter fun q=>decide (q.1 ≠ i),?_⟩
 have zz:∀ a,H a ≠ none -> Zof A ((i,p) :: os.filter fun q=>decide (q.1 ≠ i)) a -> Zof A os a:=fun a ha z=>by
  rcases z with z | ⟨q,hq,e⟩
  ·exact .inl z
  ·rcases List.mem_cons.mp hq with rfl | hq
   ·exact absurd (by rw [<- e]; exact hp) ha
   ·exact .inr ⟨q,(List.mem_filter.mp hq).1,e⟩
 have h0:A.H0 p = none:=by
  cases q:A.H0 p with
  | none=>rfl
  | some o =>
   by_cases e:A.G = some p
   ·obtain ⟨x, y, z, w, _⟩ := I.st p e
    rw [w] at hp; cases hp
   ·have := I.fr p o e q
    rw [this] at hp; cases hp
 refine ⟨by simp [I.len],fun j c e=>?_,Reps.mono zz (fun a u _ e=>hf a u e) _ _ I.pend,?_,fun q hq=>?_,fun a e=>?_,I.gz,fun a u h e=>hf a u (I.fr a u h e),I.z0⟩
 ·by_cases hj : j = i
  ·subst hj
   rw [List.getElem?_set_self hi] at e
   cases e
   exact ⟨.ref p,List.getElem?_set_self (by rw [<- I.len]; exact hi),p,xs,rfl,List.mem_cons_self,upd_same,Reps.mono zz (fun a u _ e=>hf a u e) _ _ r⟩
  ·rw [List.getElem?_set_ne (Ne.symm hj)] at e
   obtain ⟨u,e1,e2⟩:=I.slot j c e
   exact ⟨u,by rw [List.getElem?_set_ne (Ne.symm hj)]; exact e1,SlotR.mono zz (fun a u _ e=>hf a u e) (fun a ys m q=>⟨List.mem_cons_of_mem _ (List.mem_filter.mpr ⟨m,by simpa using hj⟩),hf a _ q⟩) _ _ e2⟩
 ·refine List.pairwise_cons.mpr ⟨fun q hq => ?_, I.nd.filter _⟩
  obtain ⟨m1,m2⟩:=List.mem_filter.mp hq
  refine ⟨fun z=>by simp [<- z] at m2,fun z=>(I.fresh q m1).2.2 ?_⟩
  have z':p = q.2:=z
  rw [<- z']; exact hp
 ·rcases List.mem_cons.mp hq with rfl | hq
  ·exact ⟨h0,fun z=>I.z0 p z h0,by show upd H p _ p ≠ none; rw [upd_same]; simp⟩
  ·obtain ⟨f1, f2, f3⟩ := I.fresh q (List.mem_filter.mp hq).1
   refine ⟨f1,f2,?_⟩
   cases w:H q.2 with
   | none=>exact absurd w f3
   | some u=>rw [hf _ _ w]; simp
 ·obtain ⟨x, y, z, q, rr⟩ := I.st a e
  exact ⟨x,y,z,hf _ _ q,rr⟩
def sOwn (i:Nat) (t:TAD):TSD:=fun F rho n=>i < rho.length /\ t rho n fun es n1=>es.length <= sizeLine /\ F.nx (rho.set i (some (.own es))) n1
theorem psd_own {i:Nat} {x:Str} {pos' pos2:Pos} {els:List Expr} {ta:TAD} (hN:X.N.Nodup) (hi:X.N[i]? = some x) (hx:Loc X.env.scope x) (ha:PAD A X els ta) (hf:X.fn x = true \/ X.env.scope.names.lookup x = some .local:=by first | exact .inl rfl | exact .inr rfl | assumption)
  (hs:swapsWith (.List els pos2) (some (.Name x pos')) pos.line X.env = pure false:=by rfl):PSD A X (.Assign [.Name x pos'] (.List els pos2) pos) (sOwn i ta):=by
 with_unfolding_all
  exact (ps_set hN hi hx (pe_lst ha) hs hf).imp fun E sg H h=>by
   obtain ⟨rho,n,F,ds,vs,I,⟨hl,ht⟩,ok⟩:=h
   refine ⟨rho,n,_,ds,vs,I,ht,fun ws H' n' es ⟨os,J⟩ hlen k=>⟨by rw [hlen]; exact k.1,fun p hp=>?_⟩⟩
   obtain ⟨J1,rs⟩:=J.split hlen
   exact ok.nx _ _ _ _ (J1.setOwn hl hp rs) k.2
theorem AmO.own {os:List (Nat × Addr)} {n:Nat} {rho:Rho} {sg:St} {H:Hp} {ds es es':List D} {vs xs':List V} {i:Nat} (I:AmO A os n rho sg H ds vs) (hi:rho[i]? = some (some (.own es))) :
  ∃ a xs,sg[i]? = some (some (.ref a)) /\ H a = some (.lst xs) /\ Reps A.K A.G (Zof A os) H es xs /\ ∀ es' xs',Reps A.K A.G (Zof A os) H es' xs' -> AmO A os n (rho.set i (some (.own es'))) sg (upd H a (.lst xs')) ds vs:=by
 obtain ⟨v,e1,a,xs,rfl,hm,hH,rs⟩:=I.slot i _ hi
 have hil:i < rho.length:=(List.getElem?_eq_some_iff.mp hi).1
 have za:Zof A os a:=.inr ⟨_,hm,rfl⟩
 have hf:∀ (xs':List V) b u,¬ Zof A os b -> H b = some u -> upd H a (.lst xs') b = some u:=fun xs' b u nz e=>by
  rw [upd_ne fun z=>nz (by rw [z]; exact za)]; exact e
 have uniq:∀ j,(j,a) ∈ os -> j = i:=fun j hj=>by
  by_cases hji:j = i
  ·exact hji
  ·have key : ∀ (l : List (Nat × Addr)), l.Pairwise (fun p q => p.1 ≠ q.1 /\ p.2 ≠ q.2) -> (j, a) ∈ l -> (i, a) ∈ l -> False := by
    intro l
    induction l with
    | nil=>intro _ h; simp at h
    | cons c l ih =>
     intro hp h1 h2
     obtain ⟨p1,p2⟩:=List.pairwise_cons.mp hp
     rcases List.mem_cons.mp h1 with e1 | h1 <;> rcases List.mem_cons.mp h2 with e2 | h2
     ·rw [<- e2] at e1; exact hji (Prod.mk.inj e1).1
     ·exact (p1 _ h2).2 (by rw [<- e1])
     ·exact (p1 _ h1).2 (by rw [<- e2])
     ·exact ih p2 h1 h2
   exact (key os I.nd hj hm).elim
 obtain ⟨fa1,fa2,fa3⟩:=I.fresh _ hm
 refine ⟨a,xs,e1,hH,rs,fun es' xs' r=>⟨by simp [I.len],fun j c e=>?_,Reps.mono (fun _ _ z=>z) (hf xs') _ _ I.pend,I.nd,fun q hq=>?_,fun b e=>?_,I.gz,fun b u h e=>?_,I.z0⟩⟩
 ·by_cases hj : j = i
  ·subst hj
   rw [List.getElem?_set_self hil] at e
   cases e
   exact ⟨.ref a,e1,a,xs',rfl,hm,upd_same,Reps.mono (fun _ _ z=>z) (hf xs') _ _ r⟩
  ·rw [List.getElem?_set_ne (Ne.symm hj)] at e
   obtain ⟨u,e2,e3⟩:=I.slot j c e
   exact ⟨u,e2,SlotR.mono (fun _ _ z=>z) (hf xs') (fun b ys m q=>⟨m,by rw [upd_ne fun z=>hj (uniq j (by rw [<- z]; exact m))]; exact q⟩) _ _ e3⟩
 ·obtain ⟨f1, f2, f3⟩ := I.fresh q hq
  refine ⟨f1,f2,?_⟩
  by_cases e:q.2 = a
  ·rw [e,upd_same]; simp
  ·rw [upd_ne e]; exact f3
 ·obtain ⟨x, y, z, q, rr⟩ := I.st b e
  exact ⟨x,y,z,by rw [upd_ne fun w=>fa2 (by rw [<- w]; exact I.gz b e)]; exact q,rr⟩
 ·rw [upd_ne fun w => by rw [w, fa1] at e; cases e]
  exact I.fr b u h e
theorem AmO.freeze {os:List (Nat × Addr)} {n:Nat} {rho:Rho} {sg:St} {H:Hp} {ds es:List D} {vs:List V} {i:Nat} (I:AmO A os n rho sg H ds vs) (hi:rho[i]? = some (some (.own es))):∃ os',AmO A os' n (rho.set i (some (.lst es))) sg H ds vs:=by
 obtain ⟨v,e1,a,xs,rfl,hm,hH,rs⟩:=I.slot i _ hi
 have hil:i < rho.length:=(List.getElem?_eq_some_iff.mp hi).1
 refine ⟨os.filter fun q=>decide (q.1 ≠ i),?_⟩
 have sub:∀ b,H b ≠ none -> Zof A (os.filter fun p=>decide (p.1 ≠ i)) b -> Zof A os b:=fun b _ z=>by
  rcases z with z | ⟨p,hp,e⟩
  ·exact .inl z
  ·exact .inr ⟨p,(List.mem_filter.mp hp).1,e⟩
 have key:∀ (l:List (Nat × Addr)),l.Pairwise (fun p q=>p.1 ≠ q.1 /\ p.2 ≠ q.2) -> (i,a) ∈ l -> ∀ q ∈ l,q.2 = a -> q.1 = i:=by
  intro l
  induction l with
  | nil=>intro _ h; simp at h
  | cons c l ih =>
   intro hp h1 q hq hqa
   obtain ⟨p1,p2⟩:=List.pairwise_cons.mp hp
   rcases List.mem_cons.mp h1 with e1 | h1 <;> rcases List.mem_cons.mp hq with e2 | h2
   ·rw [e2,<- e1]
   ·exact absurd (by rw [<- e1,hqa]) (p1 _ h2).2
   ·exact absurd (by rw [<- e2,hqa]) (p1 _ h1).2
   ·exact ih p2 h1 q h2 hqa
 refine ⟨by simp [I.len],fun j c e=>?_,Reps.mono sub (fun _ _ _ e=>e) _ _ I.pend,I.nd.filter _,fun p hp=>I.fresh p (List.mem_filter.mp hp).1,I.st,I.gz,I.fr,I.z0⟩
 by_cases hj:j = i
 ·subst hj
  rw [List.getElem?_set_self hil] at e
  cases e
  refine ⟨.ref a,e1,Rep.lst_mk ⟨fun z=>?_,hH⟩ (Reps.mono sub (fun _ _ _ e=>e) _ _ rs)⟩
  rcases z with z | ⟨p,hp,e⟩
  ·exact (I.fresh _ hm).2.1 z
  ·obtain ⟨m1, m2⟩ := List.mem_filter.mp hp
   have:=key os I.nd hm p m1 e
   simp [this] at m2
 ·rw [List.getElem?_set_ne (Ne.symm hj)] at e
  obtain ⟨u,e2,e3⟩:=I.slot j c e
  exact ⟨u,e2,SlotR.mono sub (fun _ _ _ e=>e) (fun b ys m q=>⟨List.mem_filter.mpr ⟨m,by simpa using hj⟩,q⟩) _ _ e3⟩
def sFrz (i:Nat) (t:TSD):TSD:=fun F rho n=>∃ es,rho[i]? = some (some (.own es)) /\ t F (rho.set i (some (.lst es))) n
theorem psd_frz (i:Nat) (h:PSD A X st t):PSD A X st (sFrz i t):=by
 with_unfolding_all
  exact PS.imp h fun E sg H q=>by
   obtain ⟨rho,n,F,ds,vs,⟨os,I⟩,⟨es,hi,ht⟩,ok⟩:=q
   exact ⟨_,n,F,ds,vs,I.freeze hi,ht,ok⟩
end
end L2
set_option maxRecDepth 100000
namespace L2
open PySem PySem.Spec PyProof.Rows
section
variable {A:AC} {X:Cx} {e a b:Expr} {es:List Expr} {te ta tb:TD} {t1:TAD} {pos:Pos}
def sAppend (i:Nat) (t:TAD):TSD:=fun F rho n=>∃ es,rho[i]? = some (some (.own es)) /\ es.length < sizeLine /\ t rho n fun ds n1=>∃ d,ds = [d] /\ F.nx (rho.set i (some (.own (es ++ [d])))) n1
theorem psd_append {i:Nat} {x:Str} {px apos cpos:Pos} (ha:PAD A X [e] t1) (hK:X.K = A.K) (hN:X.N[i]? = some x:=by rfl) (hv:Vis X.env.scope x:=by first | exact Or.inl rfl | exact Or.inr (Or.inl rfl) | exact Or.inr (Or.inr rfl)) (hd:(x == ("__debug__" : Str)) = false:=by decide)
  (hcd:(x == ("__classdict__" : Str)) = false:=by decide) (hbase:attributeBase (.Name x px) "append" X.env (eval (.Name x px) X.env) = eval (.Name x px) X.env:=by rfl)
  (hfew : ((backTo cpos (starEach [e] X.env)).all (fun x => !x.1) && (backToKw cpos (keywordEach [] X.env)).all (fun x => x.1.isSome)
   && decide ([e].length + ([]:List Keyword).length + (if ([]:List Keyword).isEmpty then 0 else 1) < 30)) = true:=by rfl)
  (hline:(apos.endLine == cpos.line) = true:=by rfl) (hs:starEach [e] X.env = (false,eval e X.env) :: starEach [] X.env:=by rfl) (hplain:(backTo cpos (starEach [] X.env)).any (·.1) = false:=by rfl)
  (hsw:swapsWith (.Call (.Attribute (.Name x px) "append" apos) [e] [] cpos) none pos.line X.env = pure false:=by rfl) :
  PSD A X (.Expr (.Call (.Attribute (.Name x px) "append" apos) [e] [] cpos) pos) (sAppend i t1):=by
 with_unfolding_all
  exact
   (ps_expr (pe_bm PySem.F.plainAttrs_list PySem.F.slot_list_append PySem.F.type_list_append mt_append (pe_var hN hv hd hcd) ha hbase hfew hline hs hplain) hsw).imp fun E sg H h => by
    obtain ⟨rho,n,F,ds,vs,⟨os,I⟩,⟨es,hi,hz,ht⟩,ok⟩:=h
    obtain ⟨a,xs,e1,hH,rs,_⟩:=I.own (es':=es) (xs':=[]) hi
    refine ⟨.ref a,e1,.inl ⟨rfl,xs,SqL.of hH⟩,rho,n,_,ds,vs,⟨os,I⟩,ht,fun ws H' n' fs ⟨os',J⟩ hl k=>?_⟩
    obtain ⟨d,rfl,k⟩:=k
    obtain ⟨J1,rs1⟩:=J.split hl
    obtain ⟨v,rfl,r⟩:=reps1 rs1
    obtain ⟨a',xs',e2,hH',rs',up⟩:=J1.own (es':=es) (xs':=[]) hi
    rw [e1] at e2
    cases e2
    exact ⟨a,xs',v,rfl,rfl,hH',by rw [rs'.length]; exact hz,ok.nx _ _ _ _ ⟨os',up _ _ (rs'.append (.cons r .nil))⟩ k⟩
def ownAt (o:Option (Option D)) (p:List D -> Prop):Prop:=∃ es,o = some (some (.own es)) /\ p es
def dOwnIx (i:Nat) (tb:TD):TD:=fun rho n P=>ownAt rho[i]? fun es=>tb rho n fun d n1=>∃ j c,d = .int j /\ atI es j = some c /\ P c n1
theorem pd_ownIx {i:Nat} {x:Str} {px:Pos} (hb:PD A X b tb) (hpl:PlainIx b) (hN:X.N[i]? = some x:=by rfl) (hv:Vis X.env.scope x:=by first | exact Or.inl rfl | exact Or.inr (Or.inl rfl) | exact Or.inr (Or.inr rfl)) (hd:(x == ("__debug__" : Str)) = false:=by decide)
  (hcd:(x == ("__classdict__" : Str)) = false:=by decide):PD A X (.Subscript (.Name x px) b pos) (dOwnIx i tb):=by
 with_unfolding_all
  exact
   (pe_ix ix_list (pe_var hN hv hd hcd) hb hpl).imp fun sg H Q h => by
    obtain ⟨rho,n,P,ds,vs,⟨os,I⟩,⟨es,hi,ht⟩,hQ⟩:=h
    obtain ⟨a,xs,e1,hH,rs,_⟩:=I.own (es':=es) (xs':=[]) hi
    refine ⟨.ref a,e1,rho,n,_,ds,vs,⟨os,I⟩,ht,fun v H' n' d ⟨os',J⟩ k=>?_⟩
    obtain ⟨j,c,rfl,hc,k⟩:=k
    obtain ⟨J1,r⟩:=J.pop
    obtain ⟨a',xs',e2,hH',rs',_⟩:=J1.own (es':=es) (xs':=[]) hi
    rw [e1] at e2
    cases e2
    obtain ⟨w,e3,rw'⟩:=atI_rep rs' hc
    exact ⟨a,xs',j,w,rfl,r.int_inv,SqL.of hH',e3,hQ w H' n' c ⟨os',J1.push rw'⟩ k⟩
def sOwnSet (i:Nat) (te tb:TD):TSD:=fun F rho n=>ownAt rho[i]? fun es=>te rho n fun d n1=>tb rho n1 fun d2 n2=>∃ j m,d2 = .int j /\ ixN es.length j = some m /\ F.nx (rho.set i (some (.own (es.set m d)))) n2
theorem psd_ownSet {i:Nat} {x:Str} {px ps:Pos} (he:PD A X e te) (hb:PD A X b tb) (hN:X.N[i]? = some x:=by rfl) (hv:Vis X.env.scope x:=by first | exact Or.inl rfl | exact Or.inr (Or.inl rfl) | exact Or.inr (Or.inr rfl)) (hd:(x == ("__debug__" : Str)) = false:=by decide)
  (hcd : (x == ("__classdict__" : Str)) = false := by decide) (ha : ∀ v, assign (.Subscript (.Name x px) b ps) X.env v = (do
   let ov <- holding [v] (eval (.Name x px) X.env)
   let iv <- holding [v,ov] (eval b X.env)
   standAt ps
   holding [v,ov,iv] (setItem ov iv v)
   release [v,ov,iv] []):=by intro _; rfl) (hs:swapsWithSole [.Subscript (.Name x px) b ps] e pos.line X.env = pure false:=by rfl) (hw:swappedStores [.Subscript (.Name x px) b ps] e X.env = pure none:=by rfl)
  (h1:(assignEach [.Subscript (.Name x px) b ps] X.env).map (·.2) = [assign (.Subscript (.Name x px) b ps) X.env]:=by rfl) :
  PSD A X (.Assign [.Subscript (.Name x px) b ps] e pos) (sOwnSet i te tb):=by
 with_unfolding_all
  exact
   (ps_asg he (pg_sub (pe_var hN hv hd hcd) hb set_list ha) hs hw h1).imp fun E sg H h => by
    obtain ⟨rho,n,F,ds,vs,⟨os,I⟩,⟨es,hi,ht⟩,ok⟩:=h
    refine ⟨rho,n,_,ds,vs,⟨os,I⟩,ht,fun v H' n' d ⟨os',J⟩ k=>?_⟩
    obtain ⟨a,xs,e1,hH,rs,_⟩:=J.own (es':=es) (xs':=[]) hi
    refine ⟨.ref a,e1,rho,n',_,d :: ds,v :: vs,⟨os',J⟩,k,fun w H2 n2 d2 ⟨os2,J2⟩ k2=>?_⟩
    obtain ⟨j,m,rfl,hm,k2⟩:=k2
    obtain ⟨J3,r2⟩:=J2.pop
    obtain ⟨J4,r1⟩:=J3.pop
    obtain ⟨a',xs',e2,hH',rs',up⟩:=J4.own (es':=es) (xs':=[]) hi
    rw [e1] at e2
    cases e2
    exact ⟨a,xs',j,m,rfl,r2.int_inv,hH',by rw [rs'.length]; exact hm,ok.nx _ _ _ _ ⟨os2,up _ _ (rs'.set r1 m)⟩ k2⟩
def dStIx (i:Nat) (tb:TD):TD:=fun rho n P=>rho[i]? = some (some .st) /\ tb rho n fun d n1=>∃ j:Int,d = .int j /\ 0 <= j /\ j < n1 /\ ∀ z:Int,0 <= z -> (j = 1 -> z < 2147483647) -> P (.int z) n1
theorem ixN_of {n:Nat} {i:Int} (h0:0 <= i) (h1:i < n):ixN n i = some i.toNat:=by unfold ixN; rw [if_pos h0,if_pos h1]
theorem pd_stIx {i:Nat} {x:Str} {px:Pos} (hb:PD A X b tb) (hpl:PlainIx b) (hN:X.N[i]? = some x:=by rfl) (hv:Vis X.env.scope x:=by first | exact Or.inl rfl | exact Or.inr (Or.inl rfl) | exact Or.inr (Or.inr rfl)) (hd:(x == ("__debug__" : Str)) = false:=by decide)
  (hcd:(x == ("__classdict__" : Str)) = false:=by decide):PD A X (.Subscript (.Name x px) b pos) (dStIx i tb):=by
 with_unfolding_all
  exact
   (pe_ix ix_list (pe_var hN hv hd hcd) hb hpl).imp fun sg H Q h => by
    obtain ⟨rho,n,P,ds,vs,⟨os,I⟩,⟨hi,ht⟩,hQ⟩:=h
    obtain ⟨v,e1,e2⟩:=I.slot i _ hi
    obtain ⟨a,ha,rfl⟩:∃ a,A.G = some a /\ v = .ref a:=by
     have e3:=SlotR.rep (d:=.st) rfl e2
     unfold Rep at e3
     exact e3
    refine ⟨.ref a,e1,rho,n,_,ds,vs,⟨os,I⟩,ht,fun w H' n' d ⟨os',J⟩ k=>?_⟩
    obtain ⟨j,rfl,h0,h3,k⟩:=k
    obtain ⟨J1,r⟩:=J.pop
    obtain ⟨zs,_,_,hH,p1,p2,p3⟩:=J1.st a ha
    obtain ⟨jn,rfl⟩:=Int.eq_ofNat_of_zero_le h0
    have hjl:jn < zs.length:=by lia
    have ej:zs[jn]? = some zs[jn]:=List.getElem?_eq_getElem hjl
    refine ⟨a,_,(jn:Int),.int zs[jn],rfl,r.int_inv,SqL.of hH,?_,hQ _ H' n' _ ⟨os',J1.push (Rep.ofS (d:=.int zs[jn]) rfl)⟩ (k zs[jn] (p2 _ (List.getElem_mem hjl)) fun e=>p3 _ (by rw [<- ej]; congr 1; lia))⟩
    unfold atI
    rw [ixN_of (by lia) (by rw [List.length_map]; lia)]
    simp [hjl]
theorem ints_set (zs:List Int) (j:Nat) (z:Int):(zs.map V.int).set j (.int z) = (zs.set j z).map V.int:=by rw [List.map_set]
theorem AmO.setSt {os:List (Nat × Addr)} {n:Nat} {rho:Rho} {sg:St} {H:Hp} {ds:List D} {vs:List V} {a:Addr} {zs:List Int} (I:AmO A os n rho sg H ds vs) (ha:A.G = some a) (h:zs.length = n /\ (∀ x ∈ zs,0 <= x) /\ ∀ x,zs[1]? = some x -> x < 2147483647) :
  AmO A os n rho sg (upd H a (.lst (zs.map V.int))) ds vs:=by
 have za:Zof A os a:=.inl (I.gz a ha)
 have hf:∀ b u,¬ Zof A os b -> H b = some u -> upd H a (.lst (zs.map V.int)) b = some u:=fun b u nz e=>by
  rw [upd_ne fun w=>nz (by rw [w]; exact za)]; exact e
 have no:∀ p ∈ os,p.2 ≠ a:=fun p hp e=>(I.fresh p hp).2.1 (by rw [e]; exact I.gz a ha)
 refine ⟨I.len,fun j c e=>?_,Reps.mono (fun _ _ w=>w) hf _ _ I.pend,I.nd,fun q hq=>?_,fun b e=>?_,I.gz,fun b u h e=>?_,I.z0⟩
 ·obtain ⟨u, e1, e2⟩ := I.slot j c e
  exact ⟨u,e1,SlotR.mono (fun _ _ w=>w) hf (fun b ys m q=>⟨m,by rw [upd_ne (no _ m)]; exact q⟩) _ _ e2⟩
 ·obtain ⟨f1, f2, f3⟩ := I.fresh q hq
  exact ⟨f1,f2,by rw [upd_ne (no q hq)]; exact f3⟩
 ·rw [ha] at e
  cases e
  exact ⟨zs,0,0,upd_same,h⟩
 ·rw [upd_ne fun w => h (by rw [w]; exact ha)]
  exact I.fr b u h e
def sStSet (i:Nat) (te tb:TD):TSD:=fun F rho n=>rho[i]? = some (some .st) /\ te rho n fun d n1=>tb rho n1 fun d2 n2=>∃ j z:Int,d = .int z /\ d2 = .int j /\ 0 <= j /\ j < n2 /\ 0 <= z /\ (j = 1 -> z < 2147483647) /\ F.nx rho n2
theorem psd_stSet {i:Nat} {x:Str} {px ps:Pos} (he:PD A X e te) (hb:PD A X b tb) (hN:X.N[i]? = some x:=by rfl) (hv:Vis X.env.scope x:=by first | exact Or.inl rfl | exact Or.inr (Or.inl rfl) | exact Or.inr (Or.inr rfl)) (hd:(x == ("__debug__" : Str)) = false:=by decide)
  (hcd : (x == ("__classdict__" : Str)) = false := by decide) (ha : ∀ v, assign (.Subscript (.Name x px) b ps) X.env v = (do
   let ov <- holding [v] (eval (.Name x px) X.env)
   let iv <- holding [v,ov] (eval b X.env)
   standAt ps
   holding [v,ov,iv] (setItem ov iv v)
   release [v,ov,iv] []):=by intro _; rfl) (hs:swapsWithSole [.Subscript (.Name x px) b ps] e pos.line X.env = pure false:=by rfl) (hw:swappedStores [.Subscript (.Name x px) b ps] e X.env = pure none:=by rfl)
  (h1:(assignEach [.Subscript (.Name x px) b ps] X.env).map (·.2) = [assign (.Subscript (.Name x px) b ps) X.env]:=by rfl) :
  PSD A X (.Assign [.Subscript (.Name x px) b ps] e pos) (sStSet i te tb):=by
 with_unfolding_all
  exact
   (ps_asg he (pg_sub (pe_var hN hv hd hcd) hb set_list ha) hs hw h1).imp fun E sg H h => by
    obtain ⟨rho,n,F,ds,vs,⟨os,I⟩,⟨hi,ht⟩,ok⟩:=h
    obtain ⟨v,e1,e2⟩:=I.slot i _ hi
    obtain ⟨a,hG,rfl⟩:∃ a,A.G = some a /\ v = .ref a:=by
     have e3:=SlotR.rep (d:=.st) rfl e2
     unfold Rep at e3
     exact e3
    refine ⟨rho,n,_,ds,vs,⟨os,I⟩,ht,fun v H' n' d J k=>⟨.ref a,e1,rho,n',_,d :: ds,v :: vs,J,k,fun w H2 n2 d2 ⟨os2,J2⟩ k2=>?_⟩⟩
    obtain ⟨j,z,rfl,rfl,h0,h3,hz,h2,k2⟩:=k2
    obtain ⟨J3,r2⟩:=J2.pop
    obtain ⟨J4,r1⟩:=J3.pop
    obtain ⟨zs,_,_,hH,p1,p2,p3⟩:=J4.st a hG
    rw [r1.int_inv,r2.int_inv]
    obtain ⟨jn,rfl⟩:=Int.eq_ofNat_of_zero_le h0
    have hjl:jn < zs.length:=by lia
    refine ⟨a,_,(jn:Int),jn,rfl,rfl,hH,by rw [ixN_of (by lia) (by rw [List.length_map]; lia)]; simp,?_⟩
    rw [ints_set]
    refine ok.nx _ _ _ _ ⟨os2,J4.setSt hG ⟨by rw [List.length_set]; exact p1,fun x hx=>?_,fun x hx=>?_⟩⟩ k2
    ·rcases List.mem_or_eq_of_mem_set hx with hx | rfl
     ·exact p2 x hx
     ·exact hz
    ·by_cases e : jn = 1
     ·subst e
      rw [List.getElem?_set_self hjl] at hx
      cases hx
      exact h2 rfl
     ·rw [List.getElem?_set_ne e] at hx
      exact p3 x hx
def cutL (es:List D) (lo hi:Option Int):List D:=(es.drop (HT.sIx es.length 0 lo)).take (HT.sIx es.length es.length hi - HT.sIx es.length 0 lo)
theorem reps_cut {K:PySem.W.Frag} {G:Option Addr} {Z:Addr -> Prop} {H:Hp} {fs:List D} {xs:List V} (h:Reps K G Z H fs xs) (lo hi:Option Int):Reps K G Z H (cutL fs lo hi) (cutV xs lo hi):=by
 unfold cutL cutV
 rw [h.length]
 exact (h.drop _).take _
def dSlL (lo hi:Option Int) (ta:TD):TD:=fun rho n P=>ta rho n fun d n1=>∃ fs,(d = .lst fs \/ d = .fz fs) /\ P (.lst (cutL fs lo hi)) n1
def enumD (es:List D):List D:=es.zipIdx.map fun p=>.tup [.int (p.2:Nat),p.1]
def iEnumD (t:TAD):TID:=fun rho n P=>t rho n fun es n1=>∃ fs,es = [.lst fs] /\ P (enumD fs) n1
end
abbrev TF:=List D -> Nat -> (D -> Nat -> Prop) -> Prop
def spD (K:PySem.W.Frag) (k:Nat) (t:TF):Sp:=fun vs H Q _=>∃ (G:Option Addr) (Z:Addr -> Prop) (n:Nat) (P:D -> Nat -> Prop) (ds:List D),ds.length = k /\ Reps K G Z H ds vs /\ StOk G n H /\ (∀ a,G = some a -> Z a) /\ (∀ a,Z a -> H a ≠ none) /\ t ds n P /\
 ∀ v H' n' d,(∀ a o,G ≠ some a -> H a = some o -> H' a = some o) -> StOk G n' H' -> Rep K G Z H' d v -> P d n' -> Q v H'
def startD (N:List Str) (ds:List D):Rho:=ds.map some ++ List.replicate (N.length - ds.length) none
theorem amo_start {K:PySem.W.Frag} {G:Option Addr} {Z:Addr -> Prop} {H:Hp} {N:List Str} {ds:List D} {vs:List V} {n:Nat} (rs:Reps K G Z H ds vs) (st:StOk G n H) (gz:∀ a,G = some a -> Z a) (z0:∀ a,Z a -> H a ≠ none) :
  AmO ⟨K,G,Z,H⟩ [] n (startD N ds) (start N vs) H [] []:=by
 have hl:=rs.length
 have zz:∀ a,Zof ⟨K,G,Z,H⟩ [] a -> Z a:=fun a z=>by
  rcases z with z | ⟨p,hp,_⟩
  ·exact z
  ·simp at hp
 have rs':Reps K G (Zof ⟨K,G,Z,H⟩ []) H ds vs:=Reps.mono (fun a _ z=>zz a z) (fun _ _ _ e=>e) _ _ rs
 refine ⟨by simp [startD,start,hl],fun i d e=>?_,.nil,.nil,fun p hp=>by simp at hp,st,gz,fun a o _ e=>e,z0⟩
 unfold startD at e
 by_cases hi:i < ds.length
 ·rw [List.getElem?_append_left (by simpa using hi), List.getElem?_map] at e
  cases q:ds[i]? with
  | none=>rw [q] at e; cases e
  | some c =>
   rw [q] at e
   cases e
   obtain ⟨v,e1,r⟩:=rs'.get q
   refine ⟨v,?_,SlotR.of r⟩
   unfold start
   rw [List.getElem?_append_left (by rw [List.length_map,hl]; exact hi),List.getElem?_map,e1]
   rfl
 ·rw [List.getElem?_append_right (by simpa using hi), List.getElem?_replicate] at e
  split at e <;> cases e
section
variable {P:Program} {w:World} {K:PySem.W.Frag} {mg:Str -> Option Value} {base:Heap}
theorem Fun.okD {x qual:Str} {st:Stmt} {f:Addr} {fd:FuncData} {N ps:List Str} {k:Nat} {t:TF} {tb:TSD} (F:Fun K x qual st f fd) (S:FnScope N ps (defScope st))
  (body : ∀ (cdv : Value) (A0 : Around) (outer : List Env) (s : Shared) (H : Hp) (E : XK) (G : Option Addr) (Z : Addr -> Prop), Room k (A0.deeper (envOfC qual (defScope st) s.heap.objs.size f cdv)) ->
   PSsD ⟨K,G,Z,H⟩ (cxOf CX0 P w K mg base N qual (defScope st) f cdv A0 outer s H E).nox (defBody st) tb)
  (spec:∀ ds n Q,ds.length = ps.length -> t ds n Q -> tb { nx:=fun _ n=>Q .non n,rt:=Q } (startD N ds) n):FnOk P w K mg base CX0 (k + 1) f fd ps (spD K ps.length t):=by
 with_unfolding_all
  exact (by
   refine F.ok S (fun vs H Q E h=>?_) (fun cdv A0 outer s H vs Q E hr h=>?_)
   ·obtain ⟨G, Z, n, R, ds, hl, rs, _⟩ := h
    rw [rs.length]; exact hl
   ·obtain ⟨G, Z, n, R, ds, hl, rs, hst, gz, z0, ht, hQ⟩ := h
    refine ⟨_,body cdv A0 outer s H E G Z hr,startD N ds,n,_,[],[],⟨[],amo_start rs hst gz z0⟩,spec ds n R hl ht,?_⟩
    have zz:∀ (os:List (Nat × Addr)) a,Z a -> Zof ⟨K,G,Z,H⟩ os a:=fun os a z=>.inl z
    refine ⟨fun rho' n' sg' H' ⟨os,I⟩ q=>?_,fun d n' v rho' sg' H' ⟨os,I⟩ q=>?_,fun _ _ _ _ _ q=>q.elim,fun _ _ _ _ _ q=>q.elim⟩
    ·exact hQ .non H' n' .non I.fr I.st (Rep.ofS rfl) q
    ·exact hQ v H' n' d I.fr I.st (Rep.mono (fun a _ z=>zz os a z) (fun _ _ _ e=>e) _ _ I.pop.2) q)
end
section
variable {A:AC} {X:Cx} {e:Expr} {es:List Expr} {t1:TAD} {pos p:Pos}
def dFn (k:Nat) (t:TF) (t1:TAD):TD:=fun rho n P=>t1 rho n fun es n1=>es.length = k /\ t es n1 P
theorem AmO.called {os:List (Nat × Addr)} {n n':Nat} {rho:Rho} {sg:St} {H H':Hp} {ds:List D} {vs:List V} (I:AmO A os n rho sg H ds vs) (fr:∀ a o,A.G ≠ some a -> H a = some o -> H' a = some o) (st:StOk A.G n' H'):AmO A os n' rho sg H' ds vs:=by
 have hf:∀ b u,¬ Zof A os b -> H b = some u -> H' b = some u:=fun b u nz e=>fr b u (fun z=>nz (.inl (I.gz b z))) e
 have no:∀ p ∈ os,A.G ≠ some p.2:=fun p hp e=>(I.fresh p hp).2.1 (I.gz _ e)
 refine ⟨I.len,fun j c e=>?_,Reps.mono (fun _ _ w=>w) hf _ _ I.pend,I.nd,fun q hq=>?_,st,I.gz,fun b u h e=>fr b u h (I.fr b u h e),I.z0⟩
 ·obtain ⟨u, e1, e2⟩ := I.slot j c e
  exact ⟨u,e1,SlotR.mono (fun _ _ w=>w) hf (fun b ys m q=>⟨m,fr _ _ (no _ m) q⟩) _ _ e2⟩
 ·obtain ⟨f1, f2, f3⟩ := I.fresh q hq
  refine ⟨f1,f2,?_⟩
  cases z:H q.2 with
  | none=>exact absurd z f3
  | some u=>rw [fr _ _ (no q hq) z]; simp
theorem pd_call {x:Str} {f:Addr} {fd:FuncData} {ps:List Str} {t:TF} {kk k:Nat} (F:FnOk X.prog X.w X.K X.mg X.base CX0 kk f fd ps (spD X.K k t)) (hr:Room kk X.A) (hm:X.mg x = some (.ref f)) (hk:PySem.W.keepIn X.K (.ref f) = true) (hb:Binds X.K fd ps []) (hK:X.K = A.K)
  (ha:PAD A X (e :: es) t1) (hg:Gl X x:=by rfl) (hdb:(x == ("__debug__" : Str)) = false:=by decide) (he:starEach (e :: es) X.env = (false,eval e X.env) :: starEach es X.env:=by rfl) (hpl:(backTo pos (starEach es X.env)).any (·.1) = false:=by rfl) :
  PD A X (.Call (.Name x p) (e :: es) [] pos) (dFn k t t1):=by
 with_unfolding_all
  exact (pe_call F hr hg hm hk hb .nil pass0 ha hdb he hpl).imp fun sg H Q h=>by
   obtain ⟨rho,n,R,ds,vs,I,ht,hQ⟩:=h
   refine ⟨rho,n,_,ds,vs,I,ht,fun ws H' n' es' ⟨os,J⟩ hl k=>?_⟩
   obtain ⟨J1,rs⟩:=J.split hl
   rw [List.append_nil,hK]
   refine ⟨A.G,Zof A os,n',R,es',k.1,rs,J1.st,fun a z=>.inl (J1.gz a z),J1.zH,k.2,fun v H2 n2 d fr st r q=>hQ v H2 n2 d ⟨os,(J1.called fr st).push r⟩ q⟩
end
end L2
set_option maxRecDepth 100000
namespace L2
open PySem PySem.Spec PyProof.Rows
section
variable {A:AC} {X:Cx} {tg a:Expr} {ta:TD} {pos p:Pos}
def iSeq2 (K:PySem.W.Frag) (tl:TE):TI:=fun sg H R=>tl sg H fun x H1=>∃ l,x = .ref l /\ (((∃ xs,SqL K H1 l xs) /\ R (Itl K l) H1) \/ ((∃ xs,SqT K H1 l xs) /\ R (Itt K l) H1))
theorem pi_seq2 {l:Expr} {tl:TE} (hl:PE X l tl):PI X tg l (iSeq2 X.K tl):=by
 intro pins s sg H R I h
 refine thn (hl pins s sg H _ I h) fun v s1 ⟨x,H1,I1,r1,q1⟩=>?_
 obtain ⟨c,e,q1⟩:=q1
 subst e
 cases r1
 have new:∀ b ∈ [s1.heap.objs.size],FpOk X pins H1 b:=fun b hb=>by
  obtain rfl:b = s1.heap.objs.size:=by simpa using hb
  exact I1.fpOk (Nat.le_refl _) (I1.hok.fresh (Nat.le_refl _))
 rcases q1 with ⟨⟨xs,hq⟩,q⟩ | ⟨⟨xs,hq⟩,q⟩
 ·obtain ⟨its, rv, pl, hz⟩ := I1.list hq
  exact wpAny_pyIter_list pl.isList ⟨s1.heap.objs.size,[s1.heap.objs.size],_,_,H1,rfl,I1.kept (t':=s1.toks) fun b o e=>Heap.get?_push_of_some _ e,turn_list c _,⟨_,Heap.get?_push_size _ rfl,rfl,rfl⟩,new,q⟩
 ·obtain ⟨its, rv, pl, hz⟩ := I1.tuple hq
  exact wpAny_pyIter_tuple (show s1.heap.IsTuple c its.toArray from pl) ⟨s1.heap.objs.size,[s1.heap.objs.size],_,_,H1,rfl,I1.kept (t':=s1.toks) fun b o e=>Heap.get?_push_of_some _ e,turn_tuple c _,⟨_,Heap.get?_push_size _ rfl,rfl,rfl⟩,new,q⟩
def iSeqD (ta:TD):TID:=fun rho n P=>ta rho n fun d n1=>∃ es,(d = .lst es \/ d = .tup es) /\ P es n1
theorem pid_seq (hK:X.K = A.K) (ha:PD A X a ta):PID A X tg a (iSeqD ta):=by
 with_unfolding_all
  exact (pi_seq2 ha).imp fun sg H R h=>by
   obtain ⟨rho,n,P,ds,vs,I,ht,hQ⟩:=h
   refine ⟨rho,n,_,ds,vs,I,ht,fun v H' n' d ⟨os,J⟩ k=>?_⟩
   obtain ⟨es,hd,k⟩:=k
   have r:=J.pop.2
   rw [hK]
   rcases hd with rfl | rfl
   ·obtain ⟨l, xs, rfl, sq, rs⟩ := r.lst_inv
    refine ⟨l,rfl,.inl ⟨⟨xs,sq.sq⟩,hQ _ H' n' es [.lst es] [.ref l] ⟨os,J⟩ rfl (fun n2 rho2 sg2 H2 ds2 vs2 i ⟨os2,I2⟩=>?_) k⟩⟩
    obtain ⟨I3,r2⟩:=AmO.pop (d:=.lst es) (v:=.ref l) (ds:=ds2) (vs:=vs2) I2
    obtain ⟨l',xs2,e,sq2,rs2⟩:=r2.lst_inv
    cases e
    refine ⟨fun d e=>?_,fun hi=>⟨xs2,sq2.sq,by rw [rs2.length]; exact hi⟩⟩
    obtain ⟨v,e1,rv⟩:=rs2.get e
    refine ⟨⟨xs2,v,sq2.sq,e1⟩,fun x H3 y=>?_⟩
    obtain ⟨e3,y⟩:=y
    subst e3
    have e4:=y xs2 sq2.sq
    rw [e1] at e4; cases e4
    exact ⟨os2,I2.push rv⟩
   ·obtain ⟨l, xs, rfl, sq, rs⟩ := r.tup_inv
    refine ⟨l,rfl,.inr ⟨⟨xs,sq.sq⟩,hQ _ H' n' es [.tup es] [.ref l] ⟨os,J⟩ rfl (fun n2 rho2 sg2 H2 ds2 vs2 i ⟨os2,I2⟩=>?_) k⟩⟩
    obtain ⟨I3,r2⟩:=AmO.pop (d:=.tup es) (v:=.ref l) (ds:=ds2) (vs:=vs2) I2
    obtain ⟨l',xs2,e,sq2,rs2⟩:=r2.tup_inv
    cases e
    refine ⟨fun d e=>?_,fun hi=>⟨xs2,sq2.sq,by rw [rs2.length]; exact hi⟩⟩
    obtain ⟨v,e1,rv⟩:=rs2.get e
    refine ⟨⟨xs2,v,sq2.sq,e1⟩,fun x H3 y=>?_⟩
    obtain ⟨e3,y⟩:=y
    subst e3
    have e4:=y xs2 sq2.sq
    rw [e1] at e4; cases e4
    exact ⟨os2,I2.push rv⟩
end
structure Fn (P:Program) (w:World) (K:PySem.W.Frag) (mg:Str -> Option Value) (base:Heap) (x:Str) (kk k:Nat) (t:TF):Prop where
 ex:∃ (f:Addr) (fd:FuncData) (ps:List Str),FnOk P w K mg base CX0 kk f fd ps (spD K k t) /\ mg x = some (.ref f) /\ PySem.W.keepIn K (.ref f) = true /\ Binds K fd ps []
theorem pd_fn {A:AC} {X:Cx} {e:Expr} {es:List Expr} {t1:TAD} {pos p:Pos} {x:Str} {t:TF} {kk k:Nat} (F:Fn X.prog X.w X.K X.mg X.base x kk k t) (hr:Room kk X.A) (hK:X.K = A.K)
  (ha:PAD A X (e :: es) t1) (hg:Gl X x:=by rfl) (hdb:(x == ("__debug__" : Str)) = false:=by decide) (he:starEach (e :: es) X.env = (false,eval e X.env) :: starEach es X.env:=by rfl) (hpl:(backTo pos (starEach es X.env)).any (·.1) = false:=by rfl) :
  PD A X (.Call (.Name x p) (e :: es) [] pos) (dFn k t t1):=by
 with_unfolding_all
  exact (by
   obtain ⟨f,fd,ps,h1,h2,h3,h4⟩:=F.ex
   exact pd_call h1 hr h2 h3 h4 hK ha hg hdb he hpl)
structure Blt (mg:Str -> Option Value):Prop where
 len:mg "len" = none
 abs:mg "abs" = none
 all:mg "all" = none
 any:mg "any" = none
 isi:mg "isinstance" = none
 int:mg "int" = none
 bool:mg "bool" = none
 str:mg "str" = none
 tuple:mg "tuple" = none
 list:mg "list" = none
 range:mg "range" = none
 zip:mg "zip" = none
 enum:mg "enumerate" = none
 max:mg "max" = none
 min:mg "min" = none
 sorted:mg "sorted" = none
theorem bt_len:bootBuiltins "len" = some (.builtin "len"):=by decide +kernel
theorem bt_all:bootBuiltins "all" = some (.builtin "all"):=by decide +kernel
theorem bt_isi:bootBuiltins "isinstance" = some (.builtin "isinstance"):=by decide +kernel
theorem bt_int:bootBuiltins "int" = some (.type "int"):=by decide +kernel
theorem bt_bool:bootBuiltins "bool" = some (.type "bool"):=by decide +kernel
theorem bt_str:bootBuiltins "str" = some (.type "str"):=by decide +kernel
theorem bt_tuple:bootBuiltins "tuple" = some (.type "tuple"):=by decide +kernel
end L2
set_option maxRecDepth 100000
namespace L2
open PySem PySem.Spec PyProof.Rows
def isB (d:D) (p:Bool -> Prop):Prop:=∃ c,d = .bl c /\ p c
@[simp] theorem q_isB {b:Bool} {p:Bool -> Prop}:isB (.bl b) p ↔ p b:=⟨fun ⟨_,e,h⟩=>by cases e; exact h,fun h=>⟨_,rfl,h⟩⟩
@[simp] theorem q_sNext {F rho n}:sNext F rho n = F.nx rho n:=rfl
@[simp] theorem q_sSeq {t u F rho n}:sSeq t u F rho n = t { F with nx:=u F } rho n:=rfl
@[simp] theorem q_sRet {te F rho n}:sRet te F rho n = te rho n F.rt:=rfl
@[simp] theorem q_sIf {c t u F rho n}:sIf c t u F rho n = c rho n fun b n1=>if b = true then t F rho n1 else u F rho n1:=rfl
@[simp] theorem q_sSet {i te F rho n}:sSet i te F rho n = (i < rho.length /\ te rho n fun d n1=>F.nx (rho.set i (some d)) n1):=rfl
@[simp] theorem q_sUnp {te g F rho n}:sUnp te g F rho n = te rho n fun d n1=>g d rho fun rho'=>F.nx rho' n1:=rfl
@[simp] theorem q_sOwn {i t F rho n}:sOwn i t F rho n = (i < rho.length /\ t rho n fun es n1=>es.length <= sizeLine /\ F.nx (rho.set i (some (.own es))) n1):=rfl
@[simp] theorem q_sDrop {te F rho n}:sDrop te F rho n = te rho n fun _ n1=>F.nx rho n1:=rfl
@[simp] theorem q_sFrz {i t F rho n}:sFrz i t F rho n = ∃ es,rho[i]? = some (some (.own es)) /\ t F (rho.set i (some (.lst es))) n:=rfl
@[simp] theorem q_sAppend {i t F rho n}:sAppend i t F rho n = ∃ es,rho[i]? = some (some (.own es)) /\ es.length < sizeLine /\ t rho n fun ds n1=>∃ d,ds = [d] /\ F.nx (rho.set i (some (.own (es ++ [d])))) n1:=rfl
@[simp] theorem q_gdName {i d rho P}:gdName i d rho P = (i < rho.length /\ P (rho.set i (some d))):=rfl
@[simp] theorem q_dVar {i rho n P}:dVar i rho n P = atV rho[i]? fun d=>P d n:=rfl
@[simp] theorem q_atV {d k}:atV (some (some d)) k = atD d k:=rfl
@[simp] theorem q_atD1 {k}:atD .non k = k .non:=rfl
@[simp] theorem q_atD2 {k b}:atD (.bl b) k = k (.bl b):=rfl
@[simp] theorem q_atD3 {k b}:atD (.int b) k = k (.int b):=rfl
@[simp] theorem q_atD4 {k b}:atD (.str b) k = k (.str b):=rfl
@[simp] theorem q_atD5 {k b}:atD (.tup b) k = k (.tup b):=rfl
@[simp] theorem q_atD6 {k b}:atD (.lst b) k = k (.lst b):=rfl
@[simp] theorem q_atD7 {k b}:atD (.fz b) k = k (.fz b):=rfl
@[simp] theorem q_atD8 {k}:atD .st k = k .st:=rfl
@[simp] theorem q_atD9 {k a b}:atD (.dct a b) k = k (.dct a b):=rfl
@[simp] theorem q_atD {d k} (h:notOwn d = true):atD d k = k d:=propext ⟨fun z=>(atD_inv z).2,atD_mk h⟩
@[simp] theorem q_dC {d rho n P}:dC d rho n P = P d n:=rfl
@[simp] theorem q_dOp {rd ta tb rho n P}:dOp rd ta tb rho n P = ta rho n fun d1 n1=>tb rho n1 fun d2 n2=>rd d1 d2 fun d=>P d n2:=rfl
@[simp] theorem q_dTest {t rho n P}:dTest t rho n P = t rho n fun d n'=>isB d fun b=>P b n':=rfl
@[simp] theorem q_rdIsN {d1 d2 k}:rdIsN d1 d2 k = (d2 = .non /\ k (.bl (isNon d1))):=rfl
@[simp] theorem q_rdNotN {d1 d2 k}:rdNotN d1 d2 k = (d2 = .non /\ k (.bl (!isNon d1))):=rfl
@[simp] theorem q_bAnd {t u rho n P}:bAnd t u rho n P = t rho n fun c n1=>if c = true then u rho n1 P else P false n1:=rfl
@[simp] theorem q_bOr {t u rho n P}:bOr t u rho n P = t rho n fun c n1=>if c = true then P true n1 else u rho n1 P:=rfl
@[simp] theorem q_bNot {t rho n P}:bNot t rho n P = t rho n fun c n1=>P (!c) n1:=rfl
@[simp] theorem q_bYes {rho n P}:bYes rho n P = P true n:=rfl
@[simp] theorem q_dAnd {ta tb rho n P}:dAnd ta tb rho n P = ta rho n fun d n1=>isB d fun c=>if c = true then tb rho n1 P else P (.bl false) n1:=rfl
@[simp] theorem q_dOr {ta tb rho n P}:dOr ta tb rho n P = ta rho n fun d n1=>isB d fun c=>if c = true then P (.bl true) n1 else tb rho n1 P:=rfl
@[simp] theorem q_dNot {ta rho n P}:dNot ta rho n P = ta rho n fun d n1=>isB d fun c=>P (.bl (!c)) n1:=rfl
@[simp] theorem q_dIf {t ta tb rho n P}:dIf t ta tb rho n P = t rho n fun c n1=>if c = true then ta rho n1 P else tb rho n1 P:=rfl
@[simp] theorem q_aNil {rho n P}:aNil rho n P = P [] n:=rfl
@[simp] theorem q_aCons {t r rho n P}:aCons t r rho n P = t rho n fun d n1=>r rho n1 fun ds n2=>P (d :: ds) n2:=rfl
@[simp] theorem q_dTup {t rho n P}:dTup t rho n P = t rho n fun ds n1=>ds.length <= sizeLine /\ P (.tup ds) n1:=rfl
@[simp] theorem q_dLst {t rho n P}:dLst t rho n P = t rho n fun ds n1=>ds.length <= sizeLine /\ P (.lst ds) n1:=rfl
@[simp] theorem q_dCall {rd t rho n P}:dCall rd t rho n P = t rho n fun es n1=>rd es fun d=>P d n1:=rfl
@[simp] theorem q_dFn {k t t1 rho n P}:dFn k t t1 rho n P = t1 rho n fun es n1=>es.length = k /\ t es n1 P:=rfl
@[simp] theorem q_iSeqD {ta rho n P}:iSeqD ta rho n P = ta rho n fun d n1=>∃ es,(d = .lst es \/ d = .tup es) /\ P es n1:=rfl
@[simp] theorem q_iRngD {t rho n P}:iRngD t rho n P = t rho n fun es n1=>∃ j:Int,es = [.int j] /\ -(2 ^ 62) <= j /\ j < 2 ^ 62 /\ P (rngD 0 j.toNat) n1:=rfl
@[simp] theorem q_iEnumD {t rho n P}:iEnumD t rho n P = t rho n fun es n1=>∃ fs,es = [.lst fs] /\ P (enumD fs) n1:=rfl
@[simp] theorem q_dSlL {lo hi ta rho n P}:dSlL lo hi ta rho n P = ta rho n fun d n1=>∃ fs,(d = .lst fs \/ d = .fz fs) /\ P (.lst (cutL fs lo hi)) n1:=rfl
@[simp] theorem q_gdNil {rho P}:gdNil [] rho P ↔ P rho:=⟨fun h=>h.2,fun h=>⟨rfl,h⟩⟩
@[simp] theorem q_gdCons {g gs d r rho P}:gdCons g gs (d :: r) rho P ↔ g d rho fun rho'=>gs r rho' P:=⟨fun ⟨_,_,e,h⟩=>by cases e; exact h,fun h=>⟨_,_,rfl,h⟩⟩
@[simp] theorem q_gdTup {k gs es rho P}:gdTup k gs (.tup es) rho P ↔ (es.length = k /\ gs es rho P):=⟨fun ⟨_,e,h⟩=>by cases e; exact h,fun h=>⟨_,rfl,h⟩⟩
@[simp] theorem q_rdI {C g i j k}:rdI C g (.int i) (.int j) k = (C i j /\ k (g i j)):=rfl
@[simp] theorem q_rdI0 {g i j k}:rdI0 g (.int i) (.int j) k = k (g i j):=rfl
@[simp] theorem q_rdB {f c d k}:rdB f (.bl c) (.bl d) k = k (.bl (f c d)):=rfl
@[simp] theorem q_rdIxL {es i k}:rdIx (.lst es) (.int i) k ↔ ∃ d,atI es i = some d /\ k d:=⟨fun ⟨_,_,d,e,e',h⟩=>by cases e' ; rcases e with e | e | e <;> cases e; exact ⟨d,h⟩,fun ⟨d,h⟩=>⟨_,_,d,.inl rfl,rfl,h⟩⟩
@[simp] theorem q_rdIxT {es i k}:rdIx (.tup es) (.int i) k ↔ ∃ d,atI es i = some d /\ k d:=⟨fun ⟨_,_,d,e,e',h⟩=>by cases e' ; rcases e with e | e | e <;> cases e; exact ⟨d,h⟩,fun ⟨d,h⟩=>⟨_,_,d,.inr (.inl rfl),rfl,h⟩⟩
@[simp] theorem q_rdIxF {es i k}:rdIx (.fz es) (.int i) k ↔ ∃ d,atI es i = some d /\ k d:=⟨fun ⟨_,_,d,e,e',h⟩=>by cases e' ; rcases e with e | e | e <;> cases e; exact ⟨d,h⟩,fun ⟨d,h⟩=>⟨_,_,d,.inr (.inr rfl),rfl,h⟩⟩
@[simp] theorem q_rdCat {es fs k}:rdCat (.lst es) (.lst fs) k ↔ (es.length + fs.length <= sizeLine /\ k (.lst (es ++ fs))):=⟨fun ⟨_,_,e,e',h⟩=>by cases e; cases e'; exact h,fun h=>⟨_,_,rfl,rfl,h⟩⟩
@[simp] theorem q_rdRepT {es i k}:rdRepT (.tup es) (.int i) k ↔ (es ≠ [] /\ 1 <= i /\ es.length * i.toNat <= sizeLine /\ k (.tup (List.replicate i.toNat es).flatten)):=⟨fun ⟨_,_,e,e',h⟩=>by cases e; cases e'; exact h,fun h=>⟨_,_,rfl,rfl,h⟩⟩
def pair2 (es:List D) (p:D -> D -> Prop):Prop:=∃ d d',es = [d,d'] /\ p d d'
@[simp] theorem q_pair2 {a b p}:pair2 [a,b] p ↔ p a b:=⟨fun ⟨_,_,e,h⟩=>by cases e; exact h,fun h=>⟨_,_,rfl,h⟩⟩
@[simp] theorem q_sPar {i j t F rho n}:sPar i j t F rho n = (i < rho.length /\ j < rho.length /\ t rho n fun es n1=>pair2 es fun d d'=>F.nx ((rho.set i (some d)).set j (some d')) n1):=rfl
@[simp] theorem q_rdEqI {i j:Int} {k}:rdEq (.int i) (.int j) k ↔ k (.bl (decide (i = j))):=by
 have e:decide (ofS (.int i) = ofS (.int j)) = decide (i = j):=by simp [ofS]
 unfold rdEq
 rw [e]
 exact ⟨fun h=>h.2.2.2,fun h=>⟨rfl,rfl,rfl,h⟩⟩
@[simp] theorem q_rdEqB {i j:Bool} {k}:rdEq (.bl i) (.bl j) k ↔ k (.bl (decide (i = j))):=by
 have e:decide (ofS (.bl i) = ofS (.bl j)) = decide (i = j):=by simp [ofS]
 unfold rdEq
 rw [e]
 exact ⟨fun h=>h.2.2.2,fun h=>⟨rfl,rfl,rfl,h⟩⟩
@[simp] theorem q_rdNeI {i j:Int} {k}:rdNe (.int i) (.int j) k ↔ k (.bl (!decide (i = j))):=by
 have e:decide (ofS (.int i) = ofS (.int j)) = decide (i = j):=by simp [ofS]
 unfold rdNe
 rw [e]
 exact ⟨fun h=>h.2.2.2,fun h=>⟨rfl,rfl,rfl,h⟩⟩
@[simp] theorem q_rdNeB {i j:Bool} {k}:rdNe (.bl i) (.bl j) k ↔ k (.bl (!decide (i = j))):=by
 have e:decide (ofS (.bl i) = ofS (.bl j)) = decide (i = j):=by simp [ofS]
 unfold rdNe
 rw [e]
 exact ⟨fun h=>h.2.2.2,fun h=>⟨rfl,rfl,rfl,h⟩⟩
@[simp] theorem q_kLenL {fs k}:kLen [.lst fs] k ↔ k (.int fs.length):=⟨fun ⟨_,e,h⟩=>by rcases e with e | e | e <;> cases e; exact h,fun h=>⟨_,.inl rfl,h⟩⟩
@[simp] theorem q_kLenT {fs k}:kLen [.tup fs] k ↔ k (.int fs.length):=⟨fun ⟨_,e,h⟩=>by rcases e with e | e | e <;> cases e; exact h,fun h=>⟨_,.inr (.inl rfl),h⟩⟩
@[simp] theorem q_kLenF {fs k}:kLen [.fz fs] k ↔ k (.int fs.length):=⟨fun ⟨_,e,h⟩=>by rcases e with e | e | e <;> cases e; exact h,fun h=>⟨_,.inr (.inr rfl),h⟩⟩
@[simp] theorem q_kAbs {i k}:kAbs [.int i] k ↔ k (.int (if i < 0 then -i else i)):=⟨fun ⟨_,e,h⟩=>by cases e; exact h,fun h=>⟨_,rfl,h⟩⟩
@[simp] theorem q_kIntB {i k}:kIntB [.bl i] k ↔ k (.int (if i then 1 else 0)):=⟨fun ⟨_,e,h⟩=>by cases e; exact h,fun h=>⟨_,rfl,h⟩⟩
@[simp] theorem q_kTupleL {fs k}:kTuple [.lst fs] k ↔ k (.tup fs):=⟨fun ⟨_,e,h⟩=>by rcases e with e | e <;> cases e; exact h,fun h=>⟨_,.inl rfl,h⟩⟩
@[simp] theorem q_kTupleT {fs k}:kTuple [.tup fs] k ↔ k (.tup fs):=⟨fun ⟨_,e,h⟩=>by rcases e with e | e <;> cases e; exact h,fun h=>⟨_,.inr rfl,h⟩⟩
@[simp] theorem q_kListL {fs k}:kList [.lst fs] k ↔ k (.lst fs):=⟨fun ⟨_,e,h⟩=>by rcases e with e | e <;> cases e; exact h,fun h=>⟨_,.inl rfl,h⟩⟩
@[simp] theorem q_kListT {fs k}:kList [.tup fs] k ↔ k (.lst fs):=⟨fun ⟨_,e,h⟩=>by rcases e with e | e <;> cases e; exact h,fun h=>⟨_,.inr rfl,h⟩⟩
@[simp] theorem q_dStIx {i tb rho n P}:dStIx i tb rho n P = (rho[i]? = some (some .st) /\ tb rho n fun d n1=>∃ j:Int,d = .int j /\ 0 <= j /\ j < n1 /\ ∀ z:Int,0 <= z -> (j = 1 -> z < 2147483647) -> P (.int z) n1):=rfl
@[simp] theorem q_sStSet {i te tb F rho n}:sStSet i te tb F rho n = (rho[i]? = some (some .st) /\ te rho n fun d n1=>tb rho n1 fun d2 n2=>∃ j z:Int,d = .int z /\ d2 = .int j /\ 0 <= j /\ j < n2 /\ 0 <= z /\ (j = 1 -> z < 2147483647) /\ F.nx rho n2):=rfl
@[simp] theorem q_no1:notOwn .non = true:=rfl
@[simp] theorem q_no2 {b}:notOwn (.bl b) = true:=rfl
@[simp] theorem q_no3 {b}:notOwn (.int b) = true:=rfl
@[simp] theorem q_no4 {b}:notOwn (.str b) = true:=rfl
@[simp] theorem q_no5 {b}:notOwn (.tup b) = true:=rfl
@[simp] theorem q_no6 {b}:notOwn (.lst b) = true:=rfl
@[simp] theorem q_no7:notOwn .st = true:=rfl
@[simp] theorem q_no8 {b}:notOwn (.fz b) = true:=rfl
@[simp] theorem q_in1:isNon .non = true:=rfl
@[simp] theorem q_in2 {b}:isNon (.bl b) = false:=rfl
@[simp] theorem q_in3 {b}:isNon (.int b) = false:=rfl
@[simp] theorem q_in4 {b}:isNon (.str b) = false:=rfl
@[simp] theorem q_in5 {b}:isNon (.tup b) = false:=rfl
@[simp] theorem q_in6 {b}:isNon (.lst b) = false:=rfl
@[simp] theorem q_so1 {b}:seqOf (.lst b) = some (true,b):=rfl
@[simp] theorem q_so2 {b}:seqOf (.tup b) = some (false,b):=rfl
@[simp] theorem q_size0:(0 <= sizeLine) = True:=by simp
@[simp] theorem q_size1:(1 <= sizeLine) = True:=by simp [sizeLine]
@[simp] theorem q_size2:(2 <= sizeLine) = True:=by simp [sizeLine]
@[simp] theorem q_size3:(3 <= sizeLine) = True:=by simp [sizeLine]
@[simp] theorem q_size4:(4 <= sizeLine) = True:=by simp [sizeLine]
@[simp] theorem q_size5:(5 <= sizeLine) = True:=by simp [sizeLine]
@[simp] theorem q_size6:(6 <= sizeLine) = True:=by simp [sizeLine]
@[simp] theorem q_size7:(7 <= sizeLine) = True:=by simp [sizeLine]
theorem le_size {k:Nat} (h:k <= 1000:=by decide):k <= sizeLine:=Nat.le_trans h (by decide)
theorem lt_size {k:Nat} (h:k <= 1000:=by decide):k < sizeLine:=Nat.lt_of_le_of_lt h (by decide)
def compIn (own:Nat) (g:TGD) (tt:TBD) (te:TD) (rho:Rho) (P:D -> Nat -> Prop) (items:List D) (n1:Nat):Prop:=items.length <= sizeLine /\ ∃ J:Nat -> List D -> Nat -> Prop,J 0 [] n1 /\
 (∀ i d acc n,items[i]? = some d -> J i acc n -> g d (List.replicate own none ++ rho) fun rho'=>rho'.drop own = rho /\ tt rho' n fun c n2=>if c = true then te rho' n2 fun e n3=>J (i + 1) (acc ++ [e]) n3 else J (i + 1) acc n2) /\
 ∀ acc n,J items.length acc n -> P (.lst acc) n
@[simp] theorem q_dComp {it own g tt te rho n P}:dComp it own g tt te rho n P = it rho n (compIn own g tt te rho P):=rfl
def loopIn (g:TGD) (tb:TSD) (F:EndsD) (rho:Rho) (items:List D) (n1:Nat):Prop:=∃ J:Nat -> Rho -> Nat -> Prop,J 0 rho n1 /\
 (∀ i d rho n,items[i]? = some d -> J i rho n -> g d rho fun rho'=>tb { F with nx:=J (i + 1),ct:=J (i + 1),bk:=F.nx } rho' n) /\ ∀ rho n,J items.length rho n -> F.nx rho n
@[simp] theorem q_sFor {it g tb F rho n}:sFor it g tb F rho n = it rho n (loopIn g tb F rho):=rfl
theorem comp_map {it:TID} {own:Nat} {g:TGD} {te:TD} {rho:Rho} {n:Nat} {P:D -> Nat -> Prop} {α:Type} (enc:α -> D) (f:α -> D) (xs:List α)
  (hi:∀ R,R (xs.map enc) n -> it rho n R) (hz:xs.length <= sizeLine) (he:∀ x ∈ xs,∀ Q,Q (f x) n -> g (enc x) (List.replicate own none ++ rho) fun rho'=>rho'.drop own = rho /\ te rho' n Q) (hP:P (.lst (xs.map f)) n):dComp it own g bYes te rho n P:=by
 refine hi _ ⟨by simpa using hz,fun i acc n'=>n' = n /\ acc = (xs.take i).map f,⟨rfl,rfl⟩,?_,?_⟩
 ·rintro i d acc n' e ⟨rfl, rfl⟩
  rw [List.getElem?_map] at e
  cases q:xs[i]? with
  | none=>rw [q] at e; cases e
  | some x =>
   rw [q] at e
   cases e
   have hm:x ∈ xs:=List.mem_of_getElem? q
   refine he x hm (fun e n3=>n3 = n' /\ (xs.take i).map f ++ [e] = (xs.take (i + 1)).map f) ⟨rfl,?_⟩
   rw [List.take_add_one,q]
   simp
 ·rintro acc n' ⟨rfl, rfl⟩
  rw [List.length_map,List.take_length]
  exact hP
end L2
namespace L2
open PySem PySem.Spec PyProof.Rows
theorem atI_lt {α:Type} {xs:List α} {i:Int} (h0:0 <= i) (h1:i < xs.length):∃ d,atI xs i = some d /\ d ∈ xs:=by
 obtain ⟨k,rfl⟩:=Int.eq_ofNat_of_zero_le h0
 have hk:k < xs.length:=by lia
 exact ⟨xs[k],atI_nat (by simp [hk]),List.getElem_mem hk⟩
@[simp] theorem q_at0 {α:Type} {a:α} {l:List α}:atI (a :: l) 0 = some a:=atI_nat (j:=0) rfl
@[simp] theorem q_at1 {α:Type} {a b:α} {l:List α}:atI (a :: b :: l) 1 = some b:=atI_nat (j:=1) rfl
@[simp] theorem q_at2 {α:Type} {a b c:α} {l:List α}:atI (a :: b :: c :: l) 2 = some c:=atI_nat (j:=2) rfl
@[simp] theorem q_ownAt {es p}:ownAt (some (some (.own es))) p ↔ p es:=⟨fun ⟨_,e,h⟩=>by cases e; exact h,fun h=>⟨_,rfl,h⟩⟩
@[simp] theorem q_dOwnIx {i tb rho n P}:dOwnIx i tb rho n P = ownAt rho[i]? fun es=>tb rho n fun d n1=>∃ j c,d = .int j /\ atI es j = some c /\ P c n1:=rfl
@[simp] theorem q_sOwnSet {i te tb F rho n}:sOwnSet i te tb F rho n = ownAt rho[i]? fun es=>te rho n fun d n1=>tb rho n1 fun d2 n2=>∃ j m,d2 = .int j /\ ixN es.length j = some m /\ F.nx (rho.set i (some (.own (es.set m d)))) n2:=rfl
@[simp] theorem q_ix30:ixN 3 0 = some 0:=rfl
@[simp] theorem q_ix31:ixN 3 1 = some 1:=rfl
@[simp] theorem q_ix32:ixN 3 2 = some 2:=rfl
end L2
set_option maxRecDepth 100000
namespace L2
open PySem PySem.Spec PyProof.Rows
def spLawD (K:PySem.W.Frag):Sp:=fun vs H Q _=>∃ (a:Addr) (ns:List Int),vs = [.ref a] /\ Only H /\ SqL K H a (ns.map V.int) /\ ns.length <= 63 /\ ∀ H',Q (.bl true) H'
def scriptD (ns:List Int):D:=.fz (ns.map D.int)
def onlyRho (ns:List Int) (N:Nat):Rho:=some (scriptD ns) :: List.replicate (N - 1) none
def midRho (ns:List Int) (i N:Nat):Rho:=(onlyRho ns N).set i (some .st)
theorem reps_ints {K:PySem.W.Frag} {G:Option Addr} {Z:Addr -> Prop} {H:Hp}:∀ {ns:List Int},Reps K G Z H (ns.map D.int) (ns.map V.int)
 | []=>.nil
 | n :: ns=>.cons (Rep.ofS (d:=.int n) rfl) reps_ints
theorem reps_ints_inv {K:PySem.W.Frag} {G:Option Addr} {Z:Addr -> Prop} {H:Hp}:∀ {ns:List Int} {xs:List V},Reps K G Z H (ns.map D.int) xs -> xs = ns.map V.int
 | [],xs,h=>by unfold Reps at h; exact h
 | n :: ns,xs,h=>by
  obtain ⟨v,r,rfl,h1,h2⟩:=Reps.split h
  rw [h1.int_inv,reps_ints_inv h2]; rfl
section
variable {P:Program} {w:World} {K:PySem.W.Frag} {mg:Str -> Option Value} {base:Heap}
theorem Fun.okLaw {x qual:Str} {st:Stmt} {f:Addr} {fd:FuncData} {N:List Str} {p:Str} {k:Nat} {t:TSD} (F:Fun K x qual st f fd) (S:FnScope N [p] (defScope st)) (n0:Nat)
  (body : ∀ (cdv : Value) (A0 : Around) (outer : List Env) (s : Shared) (H : Hp) (E : XK), Room k (A0.deeper (envOfC qual (defScope st) s.heap.objs.size f cdv)) ->
   PSsD ⟨K,none,fun _=>False,H⟩ (cxOf CX0 P w K mg base N qual (defScope st) f cdv A0 outer s H E).nox (defBody st) t)
  (h1:∀ (ns:List Int),ns.length <= 63 -> t { nx:=fun _ _=>False,rt:=fun d _=>d = .bl true } (startD N [scriptD ns]) n0):FnOk P w K mg base CX0 (k + 1) f fd [p] (spLawD K):=by
 with_unfolding_all
  exact (by
   refine F.ok S (fun vs H Q E h=>?_) (fun cdv A0 outer s H vs Q E hr h=>?_)
   ·obtain ⟨a, ns, rfl, _⟩ := h
    rfl
   ·obtain ⟨a, ns, rfl, hO, hS, hl, k⟩ := h
    refine ⟨_,body cdv A0 outer s H E hr,?_⟩
    have rs:Reps K none (fun _=>False) H [scriptD ns] [.ref a]:=by
     refine .cons ?_ .nil
     unfold scriptD Rep
     refine ⟨a,ns.map V.int,rfl,?_,reps_ints⟩
     rcases hS with (q | ⟨o,q⟩) | q
     ·rcases hO a with z | ⟨o, xs, z⟩
      ·rw [z] at q; cases q
      ·rw [z] at q; cases q
     ·exact .inl ⟨fun z=>z,o,q⟩
     ·exact .inr (.inr q)
    refine ⟨startD N [scriptD ns],n0,_,[],[],⟨[],amo_start rs (fun b e=>by cases e) (fun b e=>by cases e) (fun b e=>e.elim)⟩,h1 ns hl,?_⟩
    refine ⟨fun _ _ _ _ _ q=>q.elim,fun d n v rho2 sg2 H2 ⟨os2,I2⟩ q=>?_,fun _ _ _ _ _ q=>q.elim,fun _ _ _ _ _ q=>q.elim⟩
    subst q
    rw [I2.pop.2.bl_inv]
    exact k H2)
end
def sNew (i:Nat) (t:TF) (t1:TAD) (t2:TSD):TSD:=fun F rho n=>∃ ns:List Int,i < rho.length /\ i ≠ 0 /\ rho[0]? = some (some (scriptD ns)) /\ t1 rho n fun es n1=>∃ j:Int,es = [scriptD ns,.int j] /\ n1 = n /\ t es n fun d n2=>∃ zs:List Int,d = .lst (zs.map D.int) /\ zs.length = n /\ (∀ x ∈ zs,0 <= x) /\ (∀ x,zs[1]? = some x -> x < 2147483647) /\
 t2 { nx:=fun rho' n'=>n' = n /\ rho'.length = rho.length /\ rho'[0]? = some (some (scriptD ns)) /\ F.nx (onlyRho ns rho.length) n,rt:=fun d n'=>n' = n /\ scalD d = true /\ F.rt d n,bk:=fun rho' n'=>n' = n /\ rho'.length = rho.length /\ rho'[0]? = some (some (scriptD ns)) /\ F.bk (onlyRho ns rho.length) n,ct:=fun rho' n'=>n' = n /\ rho'.length = rho.length /\ rho'[0]? = some (some (scriptD ns)) /\ F.ct (onlyRho ns rho.length) n } (midRho ns i rho.length) n
@[simp] theorem q_noScript {ns:List Int}:notOwn (scriptD ns) = true:=rfl
@[simp] theorem q_lenScript {ns:List Int} {k:D -> Prop}:kLen [scriptD ns] k ↔ k (.int ns.length):=by unfold scriptD; simp
theorem new_intro {i:Nat} {t:TF} {t1:TAD} {t2:TSD} {F:EndsD} {rho:Rho} {n:Nat} (ns:List Int) (hi:i < rho.length) (h0:i ≠ 0) (hr:rho[0]? = some (some (scriptD ns))) (j:Int) (ht:t1 rho n fun es n1=>es = [scriptD ns,.int j] /\ n1 = n)
  (ht1:∀ (P P':List D -> Nat -> Prop),(∀ es n1,P es n1 -> P' es n1) -> t1 rho n P -> t1 rho n P')
  (h : t [scriptD ns, .int j] n fun d n2 => ∃ zs : List Int, d = .lst (zs.map D.int) /\ zs.length = n /\ (∀ x ∈ zs, 0 <= x) /\ (∀ x, zs[1]? = some x -> x < 2147483647) /\
   t2 { nx:=fun rho' n'=>n' = n /\ rho'.length = rho.length /\ rho'[0]? = some (some (scriptD ns)) /\ F.nx (onlyRho ns rho.length) n,rt:=fun d n'=>n' = n /\ scalD d = true /\ F.rt d n,bk:=fun rho' n'=>n' = n /\ rho'.length = rho.length /\ rho'[0]? = some (some (scriptD ns)) /\ F.bk (onlyRho ns rho.length) n,ct:=fun rho' n'=>n' = n /\ rho'.length = rho.length /\ rho'[0]? = some (some (scriptD ns)) /\ F.ct (onlyRho ns rho.length) n } (midRho ns i rho.length) n):sNew i t t1 t2 F rho n :=
 ⟨ns,hi,h0,hr,ht1 _ _ (fun es n1 ⟨e1,e2⟩=>⟨j,e1,e2,by rw [e1]; exact h⟩) ht⟩
section
variable {A:AC} {X:Cx} {e:Expr} {es:List Expr} {t1:TAD} {t2:TSD} {pos p:Pos}
theorem rep_script {K:PySem.W.Frag} {G G':Option Addr} {Z Z':Addr -> Prop} {H H':Hp} {ns:List Int} {v:V} (h:Rep K G Z H (scriptD ns) v) (hz:∀ a o u,¬ Z a -> H a = some (.frz o u) -> ¬ Z' a /\ H' a = some (.frz o u)):Rep K G' Z' H' (scriptD ns) v:=by
 unfold scriptD Rep at h ⊢
 obtain ⟨a,xs,rfl,sq,rs⟩:=h
 refine ⟨a,xs,rfl,?_,by rw [reps_ints_inv rs]; exact reps_ints⟩
 rcases sq with ⟨nz,o,e⟩ | sq
 ·obtain ⟨z1, z2⟩ := hz a o _ nz e
  exact .inl ⟨z1,o,z2⟩
 ·exact .inr sq
theorem pssd_new {x g:Str} {i:Nat} {t:TF} {kk:Nat} {pos' spos:Pos} {rest:List Stmt} (hG:A.G = none) (hN:X.N.Nodup) (hi:X.N[i]? = some x) (hx:Loc X.env.scope x) (F:Fn X.prog X.w X.K X.mg X.base g kk 2 t) (hr:Room kk X.A) (hK:X.K = A.K)
  (ha:PAD A X (e :: es) t1) (h2:∀ (c:Addr) (Z:Addr -> Prop) (H0:Hp),PSsD ⟨A.K,some c,Z,H0⟩ X rest t2) (hg:Gl X g:=by rfl) (hdb:(g == ("__debug__" : Str)) = false:=by decide) (he:starEach (e :: es) X.env = (false,eval e X.env) :: starEach es X.env:=by rfl) (hpl:(backTo pos (starEach es X.env)).any (·.1) = false:=by rfl)
  (hs:swapsWith (.Call (.Name g p) (e :: es) [] pos) (some (.Name x pos')) spos.line X.env = pure false:=by rfl) (hf:X.fn x = true \/ X.env.scope.names.lookup x = some .local:=by first | exact .inl rfl | exact .inr rfl | assumption) :
  PSsD A X (.Assign [.Name x pos'] (.Call (.Name g p) (e :: es) [] pos) spos :: rest) (sNew i t t1 t2):=by
 with_unfolding_all
  exact (by
   obtain ⟨f,fd,ps,f1,f2,f3,f4⟩:=F.ex
   have c1:=ps_set (pos:=spos) hN hi hx (pe_call (p:=p) f1 hr hg f2 f3 f4 .nil pass0 ha hdb he hpl) hs hf
   have c2:PSs X rest (fun E' sg' H'=>∃ c Z H0,sOf ⟨A.K,some c,Z,H0⟩ t2 E' sg' H'):=fun pins s' sg' H' D I q=>by
    obtain ⟨c,Z,H0,q⟩:=q
    exact h2 c Z H0 pins s' sg' H' D I q
   refine (pss_cons c1 c2).imp fun E sg H h=>?_
   obtain ⟨rho,n,F,ds,vs,I,⟨ns,hi',h0,hr0,ht⟩,ok⟩:=h
   refine ⟨rho,n,_,ds,vs,I,ht,fun ws H' n' es' ⟨os',J⟩ hl k=>?_⟩
   obtain ⟨j,rfl,rfl,k⟩:=k
   obtain ⟨J1,rs⟩:=J.split hl
   obtain ⟨v1,v2,rfl,r1,r2⟩:=reps2 rs
   have r1':Rep A.K none (fun a=>H' a ≠ none /\ ¬ ∃ o u,H' a = some (.frz o u)) H' (scriptD ns) v1:=rep_script r1 fun a o u _ e=>⟨fun z=>z.2 ⟨o,u,e⟩,e⟩
   have r2':Rep A.K none (fun a=>H' a ≠ none /\ ¬ ∃ o u,H' a = some (.frz o u)) H' (.int j) v2:=by rw [r2.int_inv]; exact Rep.ofS (d:=.int j) rfl
   rw [List.append_nil,hK]
   refine ⟨none,fun a=>H' a ≠ none /\ ¬ ∃ o u,H' a = some (.frz o u),n',_,_,rfl,.cons r1' (.cons r2' .nil),fun b e=>(by cases e),fun b e=>(by cases e),fun b z=>z.1,k,fun v H2 n2 d fr st r q=>?_⟩
   obtain ⟨zs,rfl,q1,q2,q3,q⟩:=q
   obtain ⟨c,xs,rfl,sq,rr⟩:=r.lst_inv
   rw [reps_ints_inv rr] at sq
   have hc:H' c = none:=by
    cases z:H' c with
    | none=>rfl
    | some o =>
     have z2:=fr c o (by simp) z
     rw [sq.2] at z2
     cases z2
     exact absurd ⟨by rw [z]; simp,fun ⟨o,u,z3⟩=>by rw [z] at z3; cases z3⟩ sq.1
   have ne:∀ {a:Addr} {o:HO},H' a = some o -> a ≠ c:=fun {a o} e h=>by rw [h,hc] at e; cases e
   have back:∀ {os:List (Nat × Addr)} {rho' rho2:Rho} {sg':St} {H3:Hp} {ds3:List D} {vs3:List V},AmO ⟨A.K,some c,fun b=>Zof A os' b \/ b = c,H2⟩ os n' rho' sg' H3 ds3 vs3 -> rho2.length = sg'.length -> (∀ j d,rho2[j]? = some (some d) -> ∃ v,sg'[j]? = some (some v) /\ Rep A.K A.G (Zof A []) H3 d v) -> AmO A [] n' rho2 sg' H3 ds vs:=fun {os rho' rho2 sg' H3 ds3 vs3} I3 hl2 hs2=>by
    have keep:∀ a o,H' a = some o -> H3 a = some o:=fun a o e=>I3.fr a o (fun z=>ne e (Option.some.inj z).symm) (fr a o (by simp) e)
    refine ⟨hl2,fun j d e=>?_,?_,.nil,fun p hp=>(by simp at hp),fun b e=>(by rw [hG] at e; cases e),J1.gz,fun a o z e=>keep a o (J1.fr a o z e),J1.z0⟩
    ·obtain ⟨v, e1, e2⟩ := hs2 j d e
     exact ⟨v,e1,SlotR.of e2⟩
    ·refine Reps.mono (fun a _ z => ?_) (fun a o _ e => keep a o e) _ _ J1.pend
     rcases z with z | ⟨p,hp,_⟩
     ·exact .inl z
     ·simp at hp
   have scr:∀ {os:List (Nat × Addr)} {rho':Rho} {sg':St} {H3:Hp} {ds3:List D} {vs3:List V},AmO ⟨A.K,some c,fun b=>Zof A os' b \/ b = c,H2⟩ os n' rho' sg' H3 ds3 vs3 -> rho'[0]? = some (some (scriptD ns)) -> rho.length = sg'.length -> AmO A [] n' (onlyRho ns rho.length) sg' H3 ds vs:=fun {os rho' sg' H3 ds3 vs3} I3 e0 hl3=>by
    refine back I3 (by rw [<- hl3]; simp [onlyRho]; lia) fun j d e=>?_
    unfold onlyRho at e
    cases j with
    | zero =>
     cases e
     obtain ⟨v,e1,e2⟩:=I3.slot 0 _ e0
     have e3:=SlotR.rep (d:=scriptD ns) rfl e2
     refine ⟨v,e1,rep_script e3 fun a o u nz e=>⟨fun z=>nz ?_,e⟩⟩
     rcases z with z | ⟨p,hp,_⟩
     ·exact .inl (.inl (.inl z))
     ·simp at hp
    | succ j =>
     rw [List.getElem?_cons_succ,List.getElem?_replicate] at e
     split at e <;> cases e
   have hl0:rho.length = sg.length:=J1.len
   refine ⟨c,fun b=>Zof A os' b \/ b = c,H2,midRho ns i rho.length,n',_,[],[],⟨[],?_⟩,q,?_⟩
   ·refine ⟨by simp [midRho, onlyRho, hl0]; lia, fun j d e => ?_, .nil, .nil, fun p hp => by simp at hp, fun b e => ?_, fun b e => ?_, fun b o _ e => e, fun b e => ?_⟩
    ·unfold midRho at e
     by_cases hj:j = i
     ·subst hj
      rw [List.getElem?_set_self (by simp [onlyRho]; lia)] at e
      cases e
      exact ⟨.ref c,List.getElem?_set_self (by lia),SlotR.of (by unfold Rep; exact ⟨c,rfl,rfl⟩)⟩
     ·rw [List.getElem?_set_ne (Ne.symm hj)] at e
      unfold onlyRho at e
      cases j with
      | zero =>
       cases e
       obtain ⟨v,e1,e2⟩:=J1.slot 0 _ hr0
       have e3:=SlotR.rep (d:=scriptD ns) rfl e2
       refine ⟨v,by rw [List.getElem?_set_ne h0]; exact e1,SlotR.of (rep_script e3 fun a o u nz e=>⟨fun z=>?_,fr a _ (by simp) e⟩)⟩
       rcases z with (z | z) | ⟨p,hp,_⟩
       ·exact nz z
       ·exact ne e z
       ·simp at hp
      | succ j =>
       rw [List.getElem?_cons_succ,List.getElem?_replicate] at e
       split at e <;> cases e
    ·cases e
     exact ⟨zs,0,0,sq.2,q1,q2,q3⟩
    ·exact .inr (Option.some.inj e).symm
    ·rcases e with e | e
     ·have := J1.zH b e
      cases z:H' b with
      | none=>exact absurd z this
      | some o =>
       show H2 b ≠ none
       rw [fr b o (by simp) z]; simp
     ·show H2 b ≠ none
      rw [e,sq.2]; simp
   ·refine ⟨fun rho3 n3 sg3 H3 ⟨os3, I3⟩ q => ?_, fun d n3 v rho3 sg3 H3 ⟨os3, I3⟩ q => ?_, fun rho3 n3 sg3 H3 ⟨os3, I3⟩ q => ?_, fun rho3 n3 sg3 H3 ⟨os3, I3⟩ q => ?_⟩
    ·obtain ⟨rfl, l3, e3, q⟩ := q
     exact ok.nx _ _ _ _ ⟨[],scr I3 e3 (by rw [<- l3]; exact I3.len)⟩ q
    ·obtain ⟨rfl, hd, q⟩ := q
     have I4:AmO A [] n3 (List.replicate sg3.length none) sg3 H3 ds vs:=back I3 (by simp) fun j d e=>by
      rw [List.getElem?_replicate] at e
      split at e <;> cases e
     refine ok.rt _ _ _ _ _ _ ⟨[],I4.push ?_⟩ q
     rw [I3.pop.2.toS hd]
     exact Rep.ofS hd
    ·obtain ⟨rfl, l3, e3, q⟩ := q
     exact ok.bk _ _ _ _ ⟨[],scr I3 e3 (by rw [<- l3]; exact I3.len)⟩ q
    ·obtain ⟨rfl, l3, e3, q⟩ := q
     exact ok.ct _ _ _ _ ⟨[],scr I3 e3 (by rw [<- l3]; exact I3.len)⟩ q)
end
end L2
set_option maxRecDepth 100000
namespace L2
open PySem PySem.Spec PyProof.Rows PySem.SeqAt
mutual
def eqD:D -> D -> Bool
 | .non,.non=>true
 | .bl a,.bl b=>a == b
 | .bl a,.int i=>(if a then 1 else 0) == i
 | .int i,.bl a=>i == (if a then 1 else 0)
 | .int i,.int j=>i == j
 | .str x,.str y=>x == y
 | .tup xs,.tup ys=>eqDs xs ys
 | .lst xs,.lst ys=>eqDs xs ys
 | _,_=>false
def eqDs:List D -> List D -> Bool
 | [],[]=>true
 | x :: xs,y :: ys=>eqD x y && eqDs xs ys
 | _,_=>false
end
mutual
def okE:D -> Nat -> Bool
 | .non,_=>true
 | .bl _,_=>true
 | .int _,_=>true
 | .str _,_=>true
 | .tup ds,k=>match k with
  | 0=>false
  | k + 1=>okEs ds k
 | .lst ds,k=>match k with
  | 0=>false
  | k + 1=>okEs ds k
 | _,_=>false
def okEs:List D -> Nat -> Bool
 | [],_=>true
 | d :: ds,k=>okE d k && okEs ds k
end
theorem okEs_mem:∀ {ds:List D} {k i:Nat} {d:D},okEs ds k = true -> ds[i]? = some d -> okE d k = true
 | [],k,i,d,_,e=>by simp at e
 | c :: ds,k,0,d,h,e=>by
  simp at e; subst e
  unfold okEs at h
  rw [Bool.and_eq_true] at h
  exact h.1
 | c :: ds,k,i + 1,d,h,e=>by
  unfold okEs at h
  rw [Bool.and_eq_true] at h
  exact okEs_mem (i:=i) h.2 (by simpa using e)
def eAt (xs ys:List D) (j:Nat):Bool:=match xs[j]?,ys[j]? with
 | some x,some y=>eqD x y
 | _,_=>true
theorem range_succ_all (n:Nat) (e:Nat -> Bool):(List.range (n + 1)).all e = (e 0 && (List.range n).all fun j=>e (j + 1)):=by
 rw [List.range_succ_eq_map,List.all_cons,List.all_map]
 rfl
theorem eqDs_all:∀ (xs ys:List D),((List.range (min xs.length ys.length)).all (eAt xs ys) && xs.length == ys.length) = eqDs xs ys
 | [],[]=>by unfold eqDs; rfl
 | [],y :: ys=>by unfold eqDs; simp
 | x :: xs,[]=>by unfold eqDs; simp
 | x :: xs,y :: ys=>by
  have ih:=eqDs_all xs ys
  unfold eqDs
  rw [<- ih]
  have e1:min (x :: xs).length (y :: ys).length = min xs.length ys.length + 1:=by simp only [List.length_cons]; lia
  rw [e1,range_succ_all]
  have e2:((x :: xs).length == (y :: ys).length) = (xs.length == ys.length):=by simp
  rw [e2,Bool.and_assoc]
  rfl
theorem eqDs_all_len {xs ys:List D} (h:xs.length = ys.length):(List.range xs.length).all (eAt xs ys) = eqDs xs ys:=by
 rw [<- eqDs_all,h]
 simp
theorem eqDs_len {xs ys:List D} (h:xs.length ≠ ys.length):eqDs xs ys = false:=by
 rw [<- eqDs_all]
 simp [h]
theorem eqDs_of:∀ {xs ys:List D},xs.length = ys.length -> (∀ (j:Nat) (x y:D),xs[j]? = some x -> ys[j]? = some y -> eqD x y = true) -> eqDs xs ys = true
 | [],[],_,_=>by unfold eqDs; rfl
 | [],y :: ys,h,_=>by simp at h
 | x :: xs,[],h,_=>by simp at h
 | x :: xs,y :: ys,h,q=>by
  unfold eqDs
  rw [q 0 x y rfl rfl,eqDs_of (by simpa using h) fun j a b ha hb=>q (j + 1) a b (by simpa using ha) (by simpa using hb)]
  rfl
theorem Reps.get2 {K:PySem.W.Frag} {G:Option Addr} {Z:Addr -> Prop} {H:Hp} {ds:List D} {vs:List V} {i:Nat} {d:D} {v:V} (h:Reps K G Z H ds vs) (e:ds[i]? = some d) (e':vs[i]? = some v):Rep K G Z H d v:=by
 obtain ⟨u,h1,h2⟩:=h.get e
 rw [h1] at e'; cases e'
 exact h2
section
variable {X:Cx} {pins:List (Addr × Obj)} {σ:St} {H:Hp} {s:Shared} {G:Option Addr} {Z:Addr -> Prop}
theorem rep_same (I:Inv X pins σ H s):∀ (k:Nat) (d1 d2:D) (v:V),okE d1 k = true -> okE d2 k = true -> Rep X.K G Z H d1 v -> Rep X.K G Z H d2 v -> eqD d1 d2 = true:=by
 intro k
 induction k with
 | zero =>
  intro d1 d2 v h1 h2 r1 r2
  cases d1 <;> cases d2 <;> first
   | (simp [okE] at h1; done) | (simp [okE] at h2; done)
   | (have e1:=r1.toS rfl; have e2:=r2.toS rfl; rw [e1] at e2; simp [ofS] at e2; done)
   | (have e1:=r1.toS rfl; have e2:=r2.toS rfl; rw [e1] at e2; simp [ofS] at e2; simp [eqD,e2])
 | succ k ih =>
  have seq:∀ {ds es:List D} {xs:List V},okEs ds k = true -> okEs es k = true -> Reps X.K G Z H ds xs -> Reps X.K G Z H es xs -> eqDs ds es = true:=fun {ds es xs} h1 h2 r1 r2=>by
   refine eqDs_of (r1.length.symm.trans r2.length) fun j x y hx hy=>?_
   obtain ⟨u,hu,ru⟩:=r1.get hx
   exact ih x y u (okEs_mem h1 hx) (okEs_mem h2 hy) ru (r2.get2 hy hu)
  intro d1 d2 v h1 h2 r1 r2
  cases d1 <;> cases d2 <;> try (first
   | (simp [okE] at h1; done) | (simp [okE] at h2; done)
   | (have e1:=r1.toS rfl; have e2:=r2.toS rfl; rw [e1] at e2; simp [ofS] at e2; done)
   | (have e1:=r1.toS rfl; have e2:=r2.toS rfl; rw [e1] at e2; simp [ofS] at e2; simp [eqD,e2]; done)
   | (obtain ⟨a,xs,e,_⟩:=r1.tup_inv; have e2:=r2.toS rfl; rw [e] at e2; simp [ofS] at e2; done)
   | (obtain ⟨a,xs,e,_⟩:=r1.lst_inv; have e2:=r2.toS rfl; rw [e] at e2; simp [ofS] at e2; done)
   | (obtain ⟨a,xs,e,_⟩:=r2.tup_inv; have e2:=r1.toS rfl; rw [e] at e2; simp [ofS] at e2; done)
   | (obtain ⟨a,xs,e,_⟩:=r2.lst_inv; have e2:=r1.toS rfl; rw [e] at e2; simp [ofS] at e2; done))
  ·rename_i ds es
   obtain ⟨a,xs,e,sq,rs⟩:=r1.tup_inv
   obtain ⟨b,ys,e',sq',rs'⟩:=r2.tup_inv
   rw [e] at e'; cases e'
   have:=I.tuple_inj sq.sq sq'.sq
   subst this
   unfold eqD
   exact seq (by simpa [okE] using h1) (by simpa [okE] using h2) rs rs'
  ·rename_i ds es
   obtain ⟨a,xs,e,sq,rs⟩:=r1.tup_inv
   obtain ⟨b,ys,e',sq',rs'⟩:=r2.lst_inv
   rw [e] at e'; cases e'
   obtain ⟨its,rv,pl,hz⟩:=I.tuple sq.sq
   obtain ⟨its',rv',pl',hz'⟩:=I.list sq'.sq
   exact absurd rfl (ne_of_list_tuple pl'.isList (show s.heap.IsTuple a its.toArray from pl))
  ·rename_i ds es
   obtain ⟨a,xs,e,sq,rs⟩:=r1.lst_inv
   obtain ⟨b,ys,e',sq',rs'⟩:=r2.tup_inv
   rw [e] at e'; cases e'
   obtain ⟨its,rv,pl,hz⟩:=I.list sq.sq
   obtain ⟨its',rv',pl',hz'⟩:=I.tuple sq'.sq
   exact absurd rfl (ne_of_list_tuple pl.isList (show s.heap.IsTuple a its'.toArray from pl'))
  ·rename_i ds es
   obtain ⟨a,xs,e,sq,rs⟩:=r1.lst_inv
   obtain ⟨b,ys,e',sq',rs'⟩:=r2.lst_inv
   rw [e] at e'; cases e'
   have:=I.list_inj sq.sq sq'.sq
   subst this
   unfold eqD
   exact seq (by simpa [okE] using h1) (by simpa [okE] using h2) rs rs'
theorem rcC {A:Around} {s:Shared} {y x:Value} {b c:Bool} (h:RcAt A s y x b) (e:b = c):RcAt A s y x c:=e ▸ h
theorem rnC {A:Around} {s:Shared} {y x:Value} {b c:Bool} (h:RcNeAt A s y x b) (e:b = c):RcNeAt A s y x c:=e ▸ h
theorem eqC {A:Around} {s:Shared} {y x:Value} {b c:Bool} (h:EqAt A s y x b) (e:b = c):EqAt A s y x c:=e ▸ h
def E3 (A:Around) (s:Shared) (u1 u2:Value) (b:Bool):Prop:=EqAt A s u1 u2 b /\ RcAt A s u1 u2 b /\ RcNeAt A s u1 u2 (!b)
theorem E3.cast {A:Around} {s:Shared} {y x:Value} {b c:Bool} (h:E3 A s y x b) (e:b = c):E3 A s y x c:=e ▸ h
def bothSeq:D -> D -> Bool
 | .tup _,.tup _=>true
 | .lst _,.lst _=>true
 | _,_=>false
theorem eq_mix (I:Inv X pins σ H s) {k:Nat} {d1 d2:D} {v1 v2:V} {u1 u2:Value} {A:Around} (h1:okE d1 k = true) (h2:okE d2 k = true) (r1:Rep X.K G Z H d1 v1) (r2:Rep X.K G Z H d2 v2) (q1:RelV v1 u1) (q2:RelV v2 u2)
  (hu:A.units < cLine) (hb:bothSeq d1 d2 = false):E3 A s u1 u2 (eqD d1 d2):=by
 cases d1 with
 | non =>
  cases d2 with
  | non =>
   have e1:u1 = .none:=by have:=r1.toS rfl; subst this; exact q1
   subst e1
   have e2:u2 = .none:=by have:=r2.toS rfl; subst this; exact q2
   subst e2
   exact E3.cast ⟨EqAt.same _,RcAt.none_none,RcNeAt.none_none⟩ (by unfold eqD; rfl)
  | bl x2 =>
   have e1:u1 = .none:=by have:=r1.toS rfl; subst this; exact q1
   subst e1
   have e2:u2 = .bool x2:=by have:=r2.toS rfl; subst this; exact q2
   subst e2
   exact E3.cast ⟨EqAt.none_bool _,RcAt.none_bool _,RcNeAt.none_bool _⟩ (by unfold eqD; rfl)
  | int x2 =>
   have e1:u1 = .none:=by have:=r1.toS rfl; subst this; exact q1
   subst e1
   obtain ⟨t2,e2⟩:∃ t,u2 = .int x2 t:=by have:=r2.toS rfl; subst this; exact q2
   subst e2
   exact E3.cast ⟨EqAt.none_int _ _,RcAt.none_int _ _,RcNeAt.none_int _ _⟩ (by unfold eqD; rfl)
  | str x2 =>
   have e1:u1 = .none:=by have:=r1.toS rfl; subst this; exact q1
   subst e1
   obtain ⟨t2,e2⟩:∃ t,u2 = .str x2 t:=by have:=r2.toS rfl; subst this; exact q2
   subst e2
   exact E3.cast ⟨EqAt.none_str _ _,RcAt.none_str _ _,RcNeAt.none_str _ _⟩ (by unfold eqD; rfl)
  | tup x2 =>
   have e1:u1 = .none:=by have:=r1.toS rfl; subst this; exact q1
   subst e1
   obtain ⟨a2,xs2,w2,sq2,rs2⟩:=r2.tup_inv
   subst w2
   have e2:u2 = .ref a2:=q2
   subst e2
   obtain ⟨its2,rv2,pl2,hz2⟩:=I.tuple sq2.sq
   have L2:s.heap.IsTuple a2 its2.toArray:=pl2
   exact E3.cast ⟨EqAt.none_tuple L2 hu,RcAt.none_tuple L2 hu,RcNeAt.none_tuple L2 hu⟩ (by unfold eqD; rfl)
  | lst x2 =>
   have e1:u1 = .none:=by have:=r1.toS rfl; subst this; exact q1
   subst e1
   obtain ⟨a2,xs2,w2,sq2,rs2⟩:=r2.lst_inv
   subst w2
   have e2:u2 = .ref a2:=q2
   subst e2
   obtain ⟨its2,rv2,pl2,hz2⟩:=I.list sq2.sq
   have L2:=pl2.isList
   exact E3.cast ⟨EqAt.none_list L2 hu,RcAt.none_list L2 hu,RcNeAt.none_list L2 hu⟩ (by unfold eqD; rfl)
  | _=>simp [okE] at h2
 | bl x1 =>
  cases d2 with
  | non =>
   have e1:u1 = .bool x1:=by have:=r1.toS rfl; subst this; exact q1
   subst e1
   have e2:u2 = .none:=by have:=r2.toS rfl; subst this; exact q2
   subst e2
   exact E3.cast ⟨EqAt.bool_none _,RcAt.bool_none _,RcNeAt.bool_none _⟩ (by unfold eqD; rfl)
  | bl x2 =>
   have e1:u1 = .bool x1:=by have:=r1.toS rfl; subst this; exact q1
   subst e1
   have e2:u2 = .bool x2:=by have:=r2.toS rfl; subst this; exact q2
   subst e2
   exact E3.cast ⟨EqAt.bool_bool _ _,RcAt.bool_bool _ _,RcNeAt.bool_bool _ _⟩ (by unfold eqD; rfl)
  | int x2 =>
   have e1:u1 = .bool x1:=by have:=r1.toS rfl; subst this; exact q1
   subst e1
   obtain ⟨t2,e2⟩:∃ t,u2 = .int x2 t:=by have:=r2.toS rfl; subst this; exact q2
   subst e2
   exact E3.cast ⟨EqAt.bool_int _ _ _,RcAt.bool_int _ _ _,RcNeAt.bool_int _ _ _⟩ (by unfold eqD; rfl)
  | str x2 =>
   have e1:u1 = .bool x1:=by have:=r1.toS rfl; subst this; exact q1
   subst e1
   obtain ⟨t2,e2⟩:∃ t,u2 = .str x2 t:=by have:=r2.toS rfl; subst this; exact q2
   subst e2
   exact E3.cast ⟨EqAt.bool_str _ _ _,RcAt.bool_str _ _ _,RcNeAt.bool_str _ _ _⟩ (by unfold eqD; rfl)
  | tup x2 =>
   have e1:u1 = .bool x1:=by have:=r1.toS rfl; subst this; exact q1
   subst e1
   obtain ⟨a2,xs2,w2,sq2,rs2⟩:=r2.tup_inv
   subst w2
   have e2:u2 = .ref a2:=q2
   subst e2
   obtain ⟨its2,rv2,pl2,hz2⟩:=I.tuple sq2.sq
   have L2:s.heap.IsTuple a2 its2.toArray:=pl2
   exact E3.cast ⟨EqAt.bool_tuple _ L2 hu,RcAt.bool_tuple _ L2 hu,RcNeAt.bool_tuple _ L2 hu⟩ (by unfold eqD; rfl)
  | lst x2 =>
   have e1:u1 = .bool x1:=by have:=r1.toS rfl; subst this; exact q1
   subst e1
   obtain ⟨a2,xs2,w2,sq2,rs2⟩:=r2.lst_inv
   subst w2
   have e2:u2 = .ref a2:=q2
   subst e2
   obtain ⟨its2,rv2,pl2,hz2⟩:=I.list sq2.sq
   have L2:=pl2.isList
   exact E3.cast ⟨EqAt.bool_list _ L2 hu,RcAt.bool_list _ L2 hu,RcNeAt.bool_list _ L2 hu⟩ (by unfold eqD; rfl)
  | _=>simp [okE] at h2
 | int x1 =>
  cases d2 with
  | non =>
   obtain ⟨t1,e1⟩:∃ t,u1 = .int x1 t:=by have:=r1.toS rfl; subst this; exact q1
   subst e1
   have e2:u2 = .none:=by have:=r2.toS rfl; subst this; exact q2
   subst e2
   exact E3.cast ⟨EqAt.int_none _ _,RcAt.int_none _ _,RcNeAt.int_none _ _⟩ (by unfold eqD; rfl)
  | bl x2 =>
   obtain ⟨t1,e1⟩:∃ t,u1 = .int x1 t:=by have:=r1.toS rfl; subst this; exact q1
   subst e1
   have e2:u2 = .bool x2:=by have:=r2.toS rfl; subst this; exact q2
   subst e2
   exact E3.cast ⟨EqAt.int_bool _ _ _,RcAt.int_bool _ _ _,RcNeAt.int_bool _ _ _⟩ (by unfold eqD; rfl)
  | int x2 =>
   obtain ⟨t1,e1⟩:∃ t,u1 = .int x1 t:=by have:=r1.toS rfl; subst this; exact q1
   subst e1
   obtain ⟨t2,e2⟩:∃ t,u2 = .int x2 t:=by have:=r2.toS rfl; subst this; exact q2
   subst e2
   exact E3.cast ⟨EqAt.int_int _ _ _ _,RcAt.int_int _ _ _ _,RcNeAt.int_int _ _ _ _⟩ (by unfold eqD; rfl)
  | str x2 =>
   obtain ⟨t1,e1⟩:∃ t,u1 = .int x1 t:=by have:=r1.toS rfl; subst this; exact q1
   subst e1
   obtain ⟨t2,e2⟩:∃ t,u2 = .str x2 t:=by have:=r2.toS rfl; subst this; exact q2
   subst e2
   exact E3.cast ⟨EqAt.int_str _ _ _ _,RcAt.int_str _ _ _ _,RcNeAt.int_str _ _ _ _⟩ (by unfold eqD; rfl)
  | tup x2 =>
   obtain ⟨t1,e1⟩:∃ t,u1 = .int x1 t:=by have:=r1.toS rfl; subst this; exact q1
   subst e1
   obtain ⟨a2,xs2,w2,sq2,rs2⟩:=r2.tup_inv
   subst w2
   have e2:u2 = .ref a2:=q2
   subst e2
   obtain ⟨its2,rv2,pl2,hz2⟩:=I.tuple sq2.sq
   have L2:s.heap.IsTuple a2 its2.toArray:=pl2
   exact E3.cast ⟨EqAt.int_tuple _ _ L2 hu,RcAt.int_tuple _ _ L2 hu,RcNeAt.int_tuple _ _ L2 hu⟩ (by unfold eqD; rfl)
  | lst x2 =>
   obtain ⟨t1,e1⟩:∃ t,u1 = .int x1 t:=by have:=r1.toS rfl; subst this; exact q1
   subst e1
   obtain ⟨a2,xs2,w2,sq2,rs2⟩:=r2.lst_inv
   subst w2
   have e2:u2 = .ref a2:=q2
   subst e2
   obtain ⟨its2,rv2,pl2,hz2⟩:=I.list sq2.sq
   have L2:=pl2.isList
   exact E3.cast ⟨EqAt.int_list _ _ L2 hu,RcAt.int_list _ _ L2 hu,RcNeAt.int_list _ _ L2 hu⟩ (by unfold eqD; rfl)
  | _=>simp [okE] at h2
 | str x1 =>
  cases d2 with
  | non =>
   obtain ⟨t1,e1⟩:∃ t,u1 = .str x1 t:=by have:=r1.toS rfl; subst this; exact q1
   subst e1
   have e2:u2 = .none:=by have:=r2.toS rfl; subst this; exact q2
   subst e2
   exact E3.cast ⟨EqAt.str_none _ _,RcAt.str_none _ _,RcNeAt.str_none _ _⟩ (by unfold eqD; rfl)
  | bl x2 =>
   obtain ⟨t1,e1⟩:∃ t,u1 = .str x1 t:=by have:=r1.toS rfl; subst this; exact q1
   subst e1
   have e2:u2 = .bool x2:=by have:=r2.toS rfl; subst this; exact q2
   subst e2
   exact E3.cast ⟨EqAt.str_bool _ _ _,RcAt.str_bool _ _ _,RcNeAt.str_bool _ _ _⟩ (by unfold eqD; rfl)
  | int x2 =>
   obtain ⟨t1,e1⟩:∃ t,u1 = .str x1 t:=by have:=r1.toS rfl; subst this; exact q1
   subst e1
   obtain ⟨t2,e2⟩:∃ t,u2 = .int x2 t:=by have:=r2.toS rfl; subst this; exact q2
   subst e2
   exact E3.cast ⟨EqAt.str_int _ _ _ _,RcAt.str_int _ _ _ _,RcNeAt.str_int _ _ _ _⟩ (by unfold eqD; rfl)
  | str x2 =>
   obtain ⟨t1,e1⟩:∃ t,u1 = .str x1 t:=by have:=r1.toS rfl; subst this; exact q1
   subst e1
   obtain ⟨t2,e2⟩:∃ t,u2 = .str x2 t:=by have:=r2.toS rfl; subst this; exact q2
   subst e2
   exact E3.cast ⟨EqAt.str_str _ _ _ _,RcAt.str_str _ _ _ _,RcNeAt.str_str _ _ _ _⟩ (by unfold eqD; rfl)
  | tup x2 =>
   obtain ⟨t1,e1⟩:∃ t,u1 = .str x1 t:=by have:=r1.toS rfl; subst this; exact q1
   subst e1
   obtain ⟨a2,xs2,w2,sq2,rs2⟩:=r2.tup_inv
   subst w2
   have e2:u2 = .ref a2:=q2
   subst e2
   obtain ⟨its2,rv2,pl2,hz2⟩:=I.tuple sq2.sq
   have L2:s.heap.IsTuple a2 its2.toArray:=pl2
   exact E3.cast ⟨EqAt.str_tuple _ _ L2 hu,RcAt.str_tuple _ _ L2 hu,RcNeAt.str_tuple _ _ L2 hu⟩ (by unfold eqD; rfl)
  | lst x2 =>
   obtain ⟨t1,e1⟩:∃ t,u1 = .str x1 t:=by have:=r1.toS rfl; subst this; exact q1
   subst e1
   obtain ⟨a2,xs2,w2,sq2,rs2⟩:=r2.lst_inv
   subst w2
   have e2:u2 = .ref a2:=q2
   subst e2
   obtain ⟨its2,rv2,pl2,hz2⟩:=I.list sq2.sq
   have L2:=pl2.isList
   exact E3.cast ⟨EqAt.str_list _ _ L2 hu,RcAt.str_list _ _ L2 hu,RcNeAt.str_list _ _ L2 hu⟩ (by unfold eqD; rfl)
  | _=>simp [okE] at h2
 | tup x1 =>
  cases d2 with
  | non =>
   obtain ⟨a1,xs1,w1,sq1,rs1⟩:=r1.tup_inv
   subst w1
   have e1:u1 = .ref a1:=q1
   subst e1
   obtain ⟨its1,rv1,pl1,hz1⟩:=I.tuple sq1.sq
   have L1:s.heap.IsTuple a1 its1.toArray:=pl1
   have e2:u2 = .none:=by have:=r2.toS rfl; subst this; exact q2
   subst e2
   exact E3.cast ⟨EqAt.tuple_none L1 hu,RcAt.tuple_none L1 hu,RcNeAt.tuple_none L1 hu⟩ (by unfold eqD; rfl)
  | bl x2 =>
   obtain ⟨a1,xs1,w1,sq1,rs1⟩:=r1.tup_inv
   subst w1
   have e1:u1 = .ref a1:=q1
   subst e1
   obtain ⟨its1,rv1,pl1,hz1⟩:=I.tuple sq1.sq
   have L1:s.heap.IsTuple a1 its1.toArray:=pl1
   have e2:u2 = .bool x2:=by have:=r2.toS rfl; subst this; exact q2
   subst e2
   exact E3.cast ⟨EqAt.tuple_bool _ L1 hu,RcAt.tuple_bool _ L1 hu,RcNeAt.tuple_bool _ L1 hu⟩ (by unfold eqD; rfl)
  | int x2 =>
   obtain ⟨a1,xs1,w1,sq1,rs1⟩:=r1.tup_inv
   subst w1
   have e1:u1 = .ref a1:=q1
   subst e1
   obtain ⟨its1,rv1,pl1,hz1⟩:=I.tuple sq1.sq
   have L1:s.heap.IsTuple a1 its1.toArray:=pl1
   obtain ⟨t2,e2⟩:∃ t,u2 = .int x2 t:=by have:=r2.toS rfl; subst this; exact q2
   subst e2
   exact E3.cast ⟨EqAt.tuple_int _ _ L1 hu,RcAt.tuple_int _ _ L1 hu,RcNeAt.tuple_int _ _ L1 hu⟩ (by unfold eqD; rfl)
  | str x2 =>
   obtain ⟨a1,xs1,w1,sq1,rs1⟩:=r1.tup_inv
   subst w1
   have e1:u1 = .ref a1:=q1
   subst e1
   obtain ⟨its1,rv1,pl1,hz1⟩:=I.tuple sq1.sq
   have L1:s.heap.IsTuple a1 its1.toArray:=pl1
   obtain ⟨t2,e2⟩:∃ t,u2 = .str x2 t:=by have:=r2.toS rfl; subst this; exact q2
   subst e2
   exact E3.cast ⟨EqAt.tuple_str _ _ L1 hu,RcAt.tuple_str _ _ L1 hu,RcNeAt.tuple_str _ _ L1 hu⟩ (by unfold eqD; rfl)
  | tup x2 =>
   simp [bothSeq] at hb
  | lst x2 =>
   obtain ⟨a1,xs1,w1,sq1,rs1⟩:=r1.tup_inv
   subst w1
   have e1:u1 = .ref a1:=q1
   subst e1
   obtain ⟨its1,rv1,pl1,hz1⟩:=I.tuple sq1.sq
   have L1:s.heap.IsTuple a1 its1.toArray:=pl1
   obtain ⟨a2,xs2,w2,sq2,rs2⟩:=r2.lst_inv
   subst w2
   have e2:u2 = .ref a2:=q2
   subst e2
   obtain ⟨its2,rv2,pl2,hz2⟩:=I.list sq2.sq
   have L2:=pl2.isList
   exact E3.cast ⟨EqAt.tuple_list L1 L2 hu,RcAt.tuple_list L1 L2 hu,RcNeAt.tuple_list L1 L2 hu⟩ (by unfold eqD; rfl)
  | _=>simp [okE] at h2
 | lst x1 =>
  cases d2 with
  | non =>
   obtain ⟨a1,xs1,w1,sq1,rs1⟩:=r1.lst_inv
   subst w1
   have e1:u1 = .ref a1:=q1
   subst e1
   obtain ⟨its1,rv1,pl1,hz1⟩:=I.list sq1.sq
   have L1:=pl1.isList
   have e2:u2 = .none:=by have:=r2.toS rfl; subst this; exact q2
   subst e2
   exact E3.cast ⟨EqAt.list_none L1 hu,RcAt.list_none L1 hu,RcNeAt.list_none L1 hu⟩ (by unfold eqD; rfl)
  | bl x2 =>
   obtain ⟨a1,xs1,w1,sq1,rs1⟩:=r1.lst_inv
   subst w1
   have e1:u1 = .ref a1:=q1
   subst e1
   obtain ⟨its1,rv1,pl1,hz1⟩:=I.list sq1.sq
   have L1:=pl1.isList
   have e2:u2 = .bool x2:=by have:=r2.toS rfl; subst this; exact q2
   subst e2
   exact E3.cast ⟨EqAt.list_bool _ L1 hu,RcAt.list_bool _ L1 hu,RcNeAt.list_bool _ L1 hu⟩ (by unfold eqD; rfl)
  | int x2 =>
   obtain ⟨a1,xs1,w1,sq1,rs1⟩:=r1.lst_inv
   subst w1
   have e1:u1 = .ref a1:=q1
   subst e1
   obtain ⟨its1,rv1,pl1,hz1⟩:=I.list sq1.sq
   have L1:=pl1.isList
   obtain ⟨t2,e2⟩:∃ t,u2 = .int x2 t:=by have:=r2.toS rfl; subst this; exact q2
   subst e2
   exact E3.cast ⟨EqAt.list_int _ _ L1 hu,RcAt.list_int _ _ L1 hu,RcNeAt.list_int _ _ L1 hu⟩ (by unfold eqD; rfl)
  | str x2 =>
   obtain ⟨a1,xs1,w1,sq1,rs1⟩:=r1.lst_inv
   subst w1
   have e1:u1 = .ref a1:=q1
   subst e1
   obtain ⟨its1,rv1,pl1,hz1⟩:=I.list sq1.sq
   have L1:=pl1.isList
   obtain ⟨t2,e2⟩:∃ t,u2 = .str x2 t:=by have:=r2.toS rfl; subst this; exact q2
   subst e2
   exact E3.cast ⟨EqAt.list_str _ _ L1 hu,RcAt.list_str _ _ L1 hu,RcNeAt.list_str _ _ L1 hu⟩ (by unfold eqD; rfl)
  | tup x2 =>
   obtain ⟨a1,xs1,w1,sq1,rs1⟩:=r1.lst_inv
   subst w1
   have e1:u1 = .ref a1:=q1
   subst e1
   obtain ⟨its1,rv1,pl1,hz1⟩:=I.list sq1.sq
   have L1:=pl1.isList
   obtain ⟨a2,xs2,w2,sq2,rs2⟩:=r2.tup_inv
   subst w2
   have e2:u2 = .ref a2:=q2
   subst e2
   obtain ⟨its2,rv2,pl2,hz2⟩:=I.tuple sq2.sq
   have L2:s.heap.IsTuple a2 its2.toArray:=pl2
   exact E3.cast ⟨EqAt.list_tuple L1 L2 hu,RcAt.list_tuple L1 L2 hu,RcNeAt.list_tuple L1 L2 hu⟩ (by unfold eqD; rfl)
  | lst x2 =>
   simp [bothSeq] at hb
  | _=>simp [okE] at h2
 | _=>simp [okE] at h1
theorem eq_rep (I:Inv X pins σ H s):∀ (k:Nat) (d1 d2:D) (v1 v2:V) (u1 u2:Value) (A:Around),okE d1 k = true -> okE d2 k = true -> Rep X.K G Z H d1 v1 -> Rep X.K G Z H d2 v2 -> RelV v1 u1 -> RelV v2 u2 ->
  A.units + k < cLine -> E3 A s u1 u2 (eqD d1 d2):=by
 intro k
 induction k with
 | zero =>
  intro d1 d2 v1 v2 u1 u2 A h1 h2 r1 r2 q1 q2 hu
  refine eq_mix I h1 h2 r1 r2 q1 q2 (by lia) ?_
  cases d1 <;> first | rfl | (simp [okE] at h1; done)
 | succ k ih =>
  intro d1 d2 v1 v2 u1 u2 A h1 h2 r1 r2 q1 q2 hu
  by_cases hb:bothSeq d1 d2 = false
  ·exact eq_mix I h1 h2 r1 r2 q1 q2 (by lia) hb
  have items:∀ {ds es:List D} {xs ys:List V} {its its':List Value},okEs ds k = true -> okEs es k = true -> Reps X.K G Z H ds xs -> Reps X.K G Z H es ys -> Vals xs its -> Vals ys its' ->
    ∀ (j:Nat) (l1:j < its.toArray.size) (l2:j < its'.toArray.size),EqAt A.in1 s its.toArray[j] its'.toArray[j] (eAt ds es j):=fun {ds es xs ys its its'} h1 h2 r1 r2 rv rv' j l1 l2=>by
   have l1':j < its.length:=by simpa using l1
   have l2':j < its'.length:=by simpa using l2
   have a1:j < ds.length:=by rw [<- r1.length,rv.length]; exact l1'
   have a2:j < es.length:=by rw [<- r2.length,rv'.length]; exact l2'
   have g1:ds[j]? = some ds[j]:=List.getElem?_eq_getElem a1
   have g2:es[j]? = some es[j]:=List.getElem?_eq_getElem a2
   obtain ⟨w1,e1,p1⟩:=r1.get g1
   obtain ⟨w2,e2,p2⟩:=r2.get g2
   obtain ⟨z1,f1,t1⟩:=rv.get e1
   obtain ⟨z2,f2,t2⟩:=rv'.get e2
   have m1:its.toArray[j] = z1:=by
    have:its[j]? = some its[j]:=List.getElem?_eq_getElem l1'
    rw [f1] at this
    simpa using (Option.some.inj this).symm
   have m2:its'.toArray[j] = z2:=by
    have:its'[j]? = some its'[j]:=List.getElem?_eq_getElem l2'
    rw [f2] at this
    simpa using (Option.some.inj this).symm
   have e3:eAt ds es j = eqD ds[j] es[j]:=by unfold eAt; rw [g1,g2]
   rw [m1,m2,e3]
   exact (ih _ _ _ _ _ _ A.in1 (okEs_mem h1 g1) (okEs_mem h2 g2) p1 p2 t1 t2 (by show A.units + 1 + k < cLine; lia)).1
  cases d1 with
  | tup ds =>
   cases d2 with
   | tup es =>
    have s1:=r1
    have s2:=r2
    obtain ⟨a,xs,e,sq,rs⟩:=r1.tup_inv
    obtain ⟨b,ys,e',sq',rs'⟩:=r2.tup_inv
    subst e e'
    have c1:u1 = .ref a:=q1
    have c2:u2 = .ref b:=q2
    subst c1 c2
    obtain ⟨its,rv,pl,hz⟩:=I.tuple sq.sq
    obtain ⟨its',rv',pl',hz'⟩:=I.tuple sq'.sq
    have it:=items (by simpa [okE] using h1) (by simpa [okE] using h2) rs rs' rv rv'
    have n1:its.toArray.size = ds.length:=by rw [<- rs.length,rv.length]; simp
    have n2:its'.toArray.size = es.length:=by rw [<- rs'.length,rv'.length]; simp
    have ev:((List.range (min its.toArray.size its'.toArray.size)).all (eAt ds es) && its.toArray.size == its'.toArray.size) = eqD (.tup ds) (.tup es):=by
     rw [n1,n2,eqDs_all]; unfold eqD; rfl
    have R:=rcC (RcAt.tuples (A:=A) (show s.heap.IsTuple a its.toArray from pl) (show s.heap.IsTuple b its'.toArray from pl') (by lia) it) ev
    have N:=rnC (RcNeAt.tuples (A:=A) (show s.heap.IsTuple a its.toArray from pl) (show s.heap.IsTuple b its'.toArray from pl') (by lia) it) (congrArg (!·) ev)
    refine ⟨?_,R,N⟩
    by_cases hab:a = b
    ·subst hab
     exact eqC (EqAt.same _) (rep_same I (k + 1) _ _ _ h1 h2 s1 s2).symm
    ·exact .of_refs hab R
   | _=>exact absurd rfl hb
  | lst ds =>
   cases d2 with
   | lst es =>
    have s1:=r1
    have s2:=r2
    obtain ⟨a,xs,e,sq,rs⟩:=r1.lst_inv
    obtain ⟨b,ys,e',sq',rs'⟩:=r2.lst_inv
    subst e e'
    have c1:u1 = .ref a:=q1
    have c2:u2 = .ref b:=q2
    subst c1 c2
    obtain ⟨its,rv,pl,hz⟩:=I.list sq.sq
    obtain ⟨its',rv',pl',hz'⟩:=I.list sq'.sq
    have it:=items (by simpa [okE] using h1) (by simpa [okE] using h2) rs rs' rv rv'
    have n1:its.toArray.size = ds.length:=by rw [<- rs.length,rv.length]; simp
    have n2:its'.toArray.size = es.length:=by rw [<- rs'.length,rv'.length]; simp
    have R:RcAt A s (.ref a) (.ref b) (eqD (.lst ds) (.lst es)) /\ RcNeAt A s (.ref a) (.ref b) (!eqD (.lst ds) (.lst es)):=by
     by_cases hl:ds.length = es.length
     ·have ev : (List.range its.toArray.size).all (eAt ds es) = eqD (.lst ds) (.lst es) := by rw [n1, eqDs_all_len hl]; unfold eqD; rfl
      exact ⟨rcC (RcAt.lists (A:=A) pl.isList pl'.isList (by rw [n1,n2,hl]) (by lia) it) ev,rnC (RcNeAt.lists (A:=A) pl.isList pl'.isList (by rw [n1,n2,hl]) (by lia) it) (congrArg (!·) ev)⟩
     ·have ev : false = eqD (.lst ds) (.lst es) := by unfold eqD; exact (eqDs_len hl).symm
      have hs:(its.toArray.size != its'.toArray.size) = true:=by rw [n1,n2]; simpa using hl
      exact ⟨rcC (RcAt.lists_lengths (A:=A) pl.isList pl'.isList hs (by lia)) ev,rnC (RcNeAt.lists_lengths (A:=A) pl.isList pl'.isList hs (by lia)) (congrArg (!·) ev)⟩
    refine ⟨?_,R⟩
    by_cases hab:a = b
    ·subst hab
     exact eqC (EqAt.same _) (rep_same I (k + 1) _ _ _ h1 h2 s1 s2).symm
    ·exact .of_refs hab R.1
   | _=>exact absurd rfl hb
  | _=>exact absurd rfl hb
def EqV (X:Cx) (H:Hp) (x y:V) (b:Bool):Prop:=∀ pins s σ v u,Inv X pins σ H s -> RelV x v -> RelV y u -> ∀ A:Around,A.units + 60 < cLine -> E3 A s v u b
def rDeq (X:Cx):R2:=fun x y H Q=>∃ b,EqV X H x y b /\ Q (.bl b) H
def rDne (X:Cx):R2:=fun x y H Q=>∃ b,EqV X H x y b /\ Q (.bl (!b)) H
theorem op_deq {n:Nat} (hr:Room n X.A):OpR X (compareOp .Eq) (rDeq X):=by
 intro pins s σ H x y v u Q I rx ry h
 obtain ⟨b,e,q⟩:=h
 exact (e pins s σ v u I rx ry X.A (by have:=hr.units; lia)).2.1 X.prog X.w X.xe _ ⟨.bl b,H,I,rfl,q⟩
theorem op_dne {n:Nat} (hr:Room n X.A):OpR X (compareOp .NotEq) (rDne X):=by
 intro pins s σ H x y v u Q I rx ry h
 obtain ⟨b,e,q⟩:=h
 exact (e pins s σ v u I rx ry X.A (by have:=hr.units; lia)).2.2 X.prog X.w X.xe _ ⟨.bl (!b),H,I,rfl,q⟩
def rdDeq:RD2:=fun d1 d2 k=>okE d1 20 = true /\ okE d2 20 = true /\ k (.bl (eqD d1 d2))
def rdDne:RD2:=fun d1 d2 k=>okE d1 20 = true /\ okE d2 20 = true /\ k (.bl (!eqD d1 d2))
theorem re_deq {A:AC} (hK:X.K = A.K):OpRel A (rDeq X) rdDeq:=by
 rintro os n rho sg H ds vs d1 d2 v1 v2 k Q I ⟨h1,h2,q⟩ hQ
 obtain ⟨I1,r2⟩:=I.pop
 obtain ⟨I2,r1⟩:=I1.pop
 rw [<- hK] at r1 r2
 exact ⟨eqD d1 d2,fun pins s σ v u J rx ry B hu=>eq_rep J 20 d1 d2 v1 v2 v u B h1 h2 r1 r2 rx ry (by lia),hQ _ H _ ⟨os,I2.push (Rep.ofS rfl)⟩ q⟩
theorem re_dne {A:AC} (hK:X.K = A.K):OpRel A (rDne X) rdDne:=by
 rintro os n rho sg H ds vs d1 d2 v1 v2 k Q I ⟨h1,h2,q⟩ hQ
 obtain ⟨I1,r2⟩:=I.pop
 obtain ⟨I2,r1⟩:=I1.pop
 rw [<- hK] at r1 r2
 exact ⟨eqD d1 d2,fun pins s σ v u J rx ry B hu=>eq_rep J 20 d1 d2 v1 v2 v u B h1 h2 r1 r2 rx ry (by lia),hQ _ H _ ⟨os,I2.push (Rep.ofS rfl)⟩ q⟩
@[simp] theorem q_rdDeq {d1 d2 k}:rdDeq d1 d2 k = (okE d1 20 = true /\ okE d2 20 = true /\ k (.bl (eqD d1 d2))):=rfl
@[simp] theorem q_rdDne {d1 d2 k}:rdDne d1 d2 k = (okE d1 20 = true /\ okE d2 20 = true /\ k (.bl (!eqD d1 d2))):=rfl
end
end L2
set_option maxRecDepth 100000
namespace L2
open PySem PySem.Spec PyProof.Rows
section
variable {A:AC} {X:Cx} {e a b:Expr} {es:List Expr} {te ta tb:TD} {t1:TAD} {pos p:Pos}
def lstOf (d:D) (p:List D -> Prop):Prop:=∃ fs,d = .lst fs /\ p fs
@[simp] theorem q_lstOf {fs p}:lstOf (.lst fs) p ↔ p fs:=⟨fun ⟨_,e,h⟩=>by cases e; exact h,fun h=>⟨_,rfl,h⟩⟩
def sSetO (i:Nat) (te:TD):TSD:=fun F rho n=>i < rho.length /\ te rho n fun d n1=>lstOf d fun fs=>F.nx (rho.set i (some (.own fs))) n1
@[simp] theorem q_sSetO {i te F rho n}:sSetO i te F rho n = (i < rho.length /\ te rho n fun d n1=>lstOf d fun fs=>F.nx (rho.set i (some (.own fs))) n1):=rfl
def dOwnLen (i:Nat):TD:=fun rho n P=>ownAt rho[i]? fun es=>P (.int es.length) n
@[simp] theorem q_dOwnLen {i rho n P}:dOwnLen i rho n P = ownAt rho[i]? fun es=>P (.int es.length) n:=rfl
theorem pd_ownLen {i:Nat} {x:Str} {px:Pos} (hm:X.mg "len" = none) (hK:X.K = A.K) (hN:X.N[i]? = some x:=by rfl) (hv:Vis X.env.scope x:=by first | exact Or.inl rfl | exact Or.inr (Or.inl rfl) | exact Or.inr (Or.inr rfl)) (hd:(x == ("__debug__" : Str)) = false:=by decide)
  (hcd:(x == ("__classdict__" : Str)) = false:=by decide) (hg:Gl X "len" := by rfl)
  (he:starEach [.Name x px] X.env = (false,eval (.Name x px) X.env) :: starEach [] X.env:=by rfl) (hpl:(backTo pos (starEach [] X.env)).any (·.1) = false:=by rfl):PD A X (.Call (.Name "len" p) [.Name x px] [] pos) (dOwnLen i):=by
 with_unfolding_all
  exact
   (pe_callB call_len_seq hg hm bt_len (pa_cons (pe_var hN hv hd hcd) pa_nil he) (by decide) (by decide) he hpl).imp fun sg H Q h => by
    obtain ⟨rho,n,P,ds,vs,⟨os,I⟩,⟨es,hi,k⟩,hQ⟩:=h
    obtain ⟨a,xs,e1,hH,rs,_⟩:=I.own (es':=es) (xs':=[]) hi
    exact ⟨.ref a,e1,a,xs,rfl,.inl (SqL.of hH),by rw [rs.length]; exact hQ _ H n _ ⟨os,I.push (Rep.ofS (d:=.int es.length) rfl)⟩ k⟩
def GDat (K:PySem.W.Frag) (mg:Str -> Option Value) (x:Str) (d:D):Prop:=∃ v u,mg x = some u /\ RelV v u /\ ∀ G Z H,Rep K G Z H d v
theorem pd_glob {x:Str} {d:D} (h:GDat X.K X.mg x d) (hK:X.K = A.K) (hg:Gl X x:=by rfl) (hd:(x == ("__debug__" : Str)) = false:=by decide):PD A X (.Name x pos) (dC d):=by
 with_unfolding_all
  exact (by
   obtain ⟨v,u,hm,r,hr⟩:=h
   refine (pe_glob hg hm r hd).imp fun sg H Q q=>?_
   obtain ⟨rho,n,P,ds,vs,⟨os,I⟩,q,hQ⟩:=q
   exact hQ v H n d ⟨os,I.push (by rw [<- hK]; exact hr _ _ _)⟩ q)
theorem gdat_tup {K:PySem.W.Frag} {mg:Str -> Option Value} {x:Str} {a:Addr} {o:Obj} {its:Array Value} {n:Nat} {ds:List D} {xs:List V} (hm:mg x = some (.ref a)) (hk:K.lookup a = some o) (hc:o.cls = .type "tuple") (hd:o.data = .seq its n) (hz:its.size <= sizeLine) (hv:Vals xs its.toList)
  (hs:∀ G Z H,Reps K G Z H ds xs):GDat K mg x (.tup ds):=⟨.ref a,.ref a,hm,rfl,fun G Z H=>.tup_mk (.inr (.inr ⟨o,its,n,hk,hc,hd,hz,hv⟩)) (hs G Z H)⟩
theorem FnOk.botK {P:Program} {w:World} {K:PySem.W.Frag} {mg:Str -> Option Value} {base:Heap} {f:Addr} {fd:FuncData} {ps:List Str} {k L:Nat} {t:TF} (ht:∀ ds n Q,¬ t ds n Q):FnOk P w K mg base CX0 L f fd ps (spD K k t):=by
 refine ⟨fun vs H Q E h=>?_,fun A outer s H args us vs Q E _ _ _ _ h=>?_⟩
 ·obtain ⟨G, Z, n, R, ds, hl, rs, hst, gz, z0, h, _⟩ := h
  exact (ht _ _ _ h).elim
 ·obtain ⟨G, Z, n, R, ds, hl, rs, hst, gz, z0, h, _⟩ := h
  exact (ht _ _ _ h).elim
theorem FnOk.bot {P:Program} {w:World} {K:PySem.W.Frag} {mg:Str -> Option Value} {base:Heap} {f:Addr} {fd:FuncData} {ps:List Str} {k:Nat} {t:TF} (ht:∀ ds n Q,¬ t ds n Q):FnOk P w K mg base CX0 0 f fd ps (spD K k t):=by
 refine ⟨fun vs H Q E h=>?_,fun A outer s H args us vs Q E _ _ _ _ h=>?_⟩
 ·obtain ⟨G, Z, n, R, ds, hl, rs, hst, gz, z0, h, _⟩ := h
  exact (ht _ _ _ h).elim
 ·obtain ⟨G, Z, n, R, ds, hl, rs, hst, gz, z0, h, _⟩ := h
  exact (ht _ _ _ h).elim
end
end L2
namespace L2
open PySem PySem.Spec PyProof.Rows
theorem comp_mapIn {own:Nat} {g:TGD} {te:TD} {rho:Rho} {n:Nat} {P:D -> Nat -> Prop} {α:Type} (enc:α -> D) (f:α -> D) (xs:List α)
  (hz:xs.length <= sizeLine) (he:∀ x ∈ xs,∀ Q,Q (f x) n -> g (enc x) (List.replicate own none ++ rho) fun rho'=>rho'.drop own = rho /\ te rho' n Q) (hP:P (.lst (xs.map f)) n):compIn own g bYes te rho P (xs.map enc) n :=
 comp_map (it:=fun _ n R=>R (xs.map enc) n) (rho:=rho) enc f xs (fun R h=>h) hz he hP
end L2
namespace L2
open PySem PySem.Spec PyProof.Rows
theorem q_isi {d:D} {T:String} {k:D -> Prop} (hT:T = "bool" \/ T = "int" \/ T = "str" \/ T = "tuple" \/ T = "list"):kIsi [d,.ty T] k ↔ (isiOk d = true /\ k (.bl (isiD T d))) :=
 ⟨fun ⟨d',T',e,_,h1,h2⟩=>by cases e; exact ⟨h1,h2⟩,fun h=>⟨d,T,rfl,hT,h.1,h.2⟩⟩
@[simp] theorem q_isiBool {d:D} {k:D -> Prop}:kIsi [d,.ty "bool"] k ↔ (isiOk d = true /\ k (.bl (isiD "bool" d))):=q_isi (by decide)
@[simp] theorem q_isiInt {d:D} {k:D -> Prop}:kIsi [d,.ty "int"] k ↔ (isiOk d = true /\ k (.bl (isiD "int" d))):=q_isi (by decide)
@[simp] theorem q_isiStr {d:D} {k:D -> Prop}:kIsi [d,.ty "str"] k ↔ (isiOk d = true /\ k (.bl (isiD "str" d))):=q_isi (by decide)
@[simp] theorem q_isiTuple {d:D} {k:D -> Prop}:kIsi [d,.ty "tuple"] k ↔ (isiOk d = true /\ k (.bl (isiD "tuple" d))):=q_isi (by decide)
@[simp] theorem q_isiList {d:D} {k:D -> Prop}:kIsi [d,.ty "list"] k ↔ (isiOk d = true /\ k (.bl (isiD "list" d))):=q_isi (by decide)
theorem zipD_self (ds:List D):zipD ds ds = ds.map fun x=>.tup [x,x]:=by
 unfold zipD
 rw [List.zipWith_self]
@[simp] theorem q_rdEqS {i j:Str} {k}:rdEq (.str i) (.str j) k ↔ k (.bl (decide (i = j))):=by
 have e:decide (ofS (.str i) = ofS (.str j)) = decide (i = j):=by simp [ofS]
 unfold rdEq
 rw [e]
 exact ⟨fun h=>h.2.2.2,fun h=>⟨rfl,rfl,rfl,h⟩⟩
mutual
def okT:D -> Nat -> Bool
 | .non,_=>true
 | .bl _,_=>true
 | .int _,_=>true
 | .str _,_=>true
 | .tup ds,k=>match k with
  | 0=>false
  | k + 1=>decide (ds.length <= 1000) && okTs ds k
 | _,_=>false
def okTs:List D -> Nat -> Bool
 | [],_=>true
 | d :: ds,k=>okT d k && okTs ds k
end
theorem okTs_iff:∀ {ds:List D} {k:Nat},okTs ds k = true ↔ ∀ d ∈ ds,okT d k = true
 | [],k=>by unfold okTs; simp
 | c :: ds,k=>by
  unfold okTs
  rw [Bool.and_eq_true,okTs_iff]
  simp
theorem okT_tup {ds:List D} {k:Nat}:okT (.tup ds) (k + 1) = true ↔ (ds.length <= 1000 /\ ∀ d ∈ ds,okT d k = true):=by
 have e:okT (.tup ds) (k + 1) = (decide (ds.length <= 1000) && okTs ds k):=by rw [okT]
 rw [e,Bool.and_eq_true,decide_eq_true_iff,okTs_iff]
mutual
theorem eqD_self:∀ {d:D} {k:Nat},okE d k = true -> eqD d d = true
 | .non,k,_=>by simp [eqD]
 | .bl b,k,_=>by simp [eqD]
 | .int b,k,_=>by simp [eqD]
 | .str b,k,_=>by simp [eqD]
 | .tup ds,0,h=>by simp [okE] at h
 | .tup ds,k + 1,h=>by unfold eqD; unfold okE at h; exact eqDs_self h
 | .lst ds,0,h=>by simp [okE] at h
 | .lst ds,k + 1,h=>by unfold eqD; unfold okE at h; exact eqDs_self h
 | .ty _,k,h=>by simp [okE] at h
 | .fz _,k,h=>by simp [okE] at h
 | .st,k,h=>by simp [okE] at h
 | .own _,k,h=>by simp [okE] at h
theorem eqDs_self:∀ {ds:List D} {k:Nat},okEs ds k = true -> eqDs ds ds = true
 | [],k,_=>by simp [eqDs]
 | d :: ds,k,h=>by
  unfold okEs at h
  rw [Bool.and_eq_true] at h
  unfold eqDs
  rw [eqD_self h.1,eqDs_self h.2]
  rfl
end
def kZip (es:List D) (k:List D -> Prop):Prop:=∃ d1 d2 b1 xs b2 ys,es = [d1,d2] /\ seqOf d1 = some (b1,xs) /\ seqOf d2 = some (b2,ys) /\ k (zipD xs ys)
@[simp] theorem q_iZipD {t:TAD} {rho n P}:iZipD t rho n P ↔ t rho n fun es n1=>kZip es fun l=>P l n1:=Iff.rfl
theorem q_kZip {d1 d2:D} {b1 b2 xs ys} {k:List D -> Prop} (h1:seqOf d1 = some (b1,xs)) (h2:seqOf d2 = some (b2,ys)):kZip [d1,d2] k ↔ k (zipD xs ys):=by
 constructor
 ·rintro ⟨_, _, _, _, _, _, e, e1, e2, h⟩
  cases e
  rw [h1] at e1; rw [h2] at e2
  cases e1; cases e2
  exact h
 ·intro h
  exact ⟨_,_,_,_,_,_,rfl,h1,h2,h⟩
@[simp] theorem q_kZipTT {xs ys} {k:List D -> Prop}:kZip [.tup xs,.tup ys] k ↔ k (zipD xs ys):=q_kZip rfl rfl
@[simp] theorem q_kZipTL {xs ys} {k:List D -> Prop}:kZip [.tup xs,.lst ys] k ↔ k (zipD xs ys):=q_kZip rfl rfl
@[simp] theorem q_kZipLT {xs ys} {k:List D -> Prop}:kZip [.lst xs,.tup ys] k ↔ k (zipD xs ys):=q_kZip rfl rfl
@[simp] theorem q_kZipLL {xs ys} {k:List D -> Prop}:kZip [.lst xs,.lst ys] k ↔ k (zipD xs ys):=q_kZip rfl rfl
end L2
set_option maxRecDepth 100000
namespace L2
open PySem PySem.Spec PyProof.Rows
section
variable {X:Cx}
end
section
variable {A:AC}
def kMax2:List D -> (D -> Prop) -> Prop:=fun es k=>∃ i j,es = [.int i,.int j] /\ k (.int (if j > i then j else i))
def kMin2:List D -> (D -> Prop) -> Prop:=fun es k=>∃ i j,es = [.int i,.int j] /\ k (.int (if j < i then j else i))
@[simp] theorem q_kMax2 {i j k}:kMax2 [.int i,.int j] k ↔ k (.int (if j > i then j else i)):=⟨fun ⟨_,_,e,h⟩=>by cases e; exact h,fun h=>⟨_,_,rfl,h⟩⟩
@[simp] theorem q_kMin2 {i j k}:kMin2 [.int i,.int j] k ↔ k (.int (if j < i then j else i)):=⟨fun ⟨_,_,e,h⟩=>by cases e; exact h,fun h=>⟨_,_,rfl,h⟩⟩
theorem cr_max2:CallRel A (fun xs H Q=>∃ i j,xs = [.int i,.int j] /\ Q (.int (if j > i then j else i)) H) kMax2:=by
 rintro os n rho sg H ds vs es ws k Q I rs ⟨i,j,rfl,q⟩ hQ
 obtain ⟨v,v',rfl,r,r'⟩:=reps2 rs
 exact ⟨i,j,by rw [r.int_inv,r'.int_inv],hQ _ H _ ⟨os,I.push (Rep.ofS rfl)⟩ q⟩
theorem cr_min2:CallRel A (fun xs H Q=>∃ i j,xs = [.int i,.int j] /\ Q (.int (if j < i then j else i)) H) kMin2:=by
 rintro os n rho sg H ds vs es ws k Q I rs ⟨i,j,rfl,q⟩ hQ
 obtain ⟨v,v',rfl,r,r'⟩:=reps2 rs
 exact ⟨i,j,by rw [r.int_inv,r'.int_inv],hQ _ H _ ⟨os,I.push (Rep.ofS rfl)⟩ q⟩
theorem bt_max:bootBuiltins "max" = some (.builtin "max"):=by decide +kernel
theorem bt_min:bootBuiltins "min" = some (.builtin "min"):=by decide +kernel
end
end L2
namespace L2
open PySem PySem.Spec PyProof.Rows
end L2
set_option maxRecDepth 100000
namespace L2
open PySem PySem.Spec PyProof.Rows
def rCatTT (K:PySem.W.Frag):R2:=fun x y H Q=>∃ a b xs ys,x = .ref a /\ y = .ref b /\ SqT K H a xs /\ SqT K H b ys /\ xs.length + ys.length <= sizeLine /\
 (xs = [] -> Q (.ref b) H) /\ (xs ≠ [] -> ys = [] -> Q (.ref a) H) /\ (xs ≠ [] -> ys ≠ [] -> ∀ p,H p = none -> Q (.ref p) (upd H p (.tup (xs ++ ys))))
section
variable {X:Cx}
theorem op_catTT:OpR X (binaryOp .Add) (rCatTT X.K):=by
 intro pins s σ H x y v u Q I rx ry h
 obtain ⟨a,b,xs,ys,rfl,rfl,ha,hb,hz,q0,q1,q2⟩:=h
 by_cases hx:xs = []
 ·cases rx
  cases ry
  obtain ⟨its,r1,p1,_⟩:=I.tuple ha
  obtain ⟨its2,r2,p2,_⟩:=I.tuple hb
  have hi:its = []:=r1.nil_iff.mpr hx
  obtain ⟨⟨cls,dd,data,sl⟩,ho,hc,n,hd⟩:=id p1
  obtain ⟨⟨cls2,dd2,data2,sl2⟩,ho2,hc2,n2,hd2⟩:=id p2
  simp only at hc hd hc2 hd2
  subst hc hd hc2 hd2
  exact PySem.concat_meets ⟨_,ho,rfl⟩ ⟨_,ho2,rfl⟩ PySem.noFill_tuple_add PySem.seq_tuple_add PySem.F.slot_tuple_add PySem.F.entry_tuple_add (PySem.F.args_tuple_add_2 _ _)
   (tuple_addW0 a b its.toArray its2.toArray n n2 dd dd2 sl sl2 (by simp [hi])) ⟨ho,ho2,⟨.ref b,H,I,rfl,q0 hx⟩⟩
 ·exact op_catT pins s σ H _ _ v u Q I rx ry ⟨a,b,xs,ys,rfl,rfl,ha,hb,hx,hz,q1 hx,q2 hx⟩
end
section
variable {A:AC}
def rdCatT:RD2:=fun d1 d2 k=>∃ es fs,d1 = .tup es /\ d2 = .tup fs /\ es.length + fs.length <= sizeLine /\ k (.tup (es ++ fs))
@[simp] theorem q_rdCatT {es fs k}:rdCatT (.tup es) (.tup fs) k ↔ (es.length + fs.length <= sizeLine /\ k (.tup (es ++ fs))):=⟨fun ⟨_,_,e,e',h⟩=>by cases e; cases e'; exact h,fun h=>⟨_,_,rfl,rfl,h⟩⟩
theorem re_catT:OpRel A (rCatTT A.K) rdCatT:=by
 rintro os n rho sg H ds vs d1 d2 v1 v2 k Q I ⟨es,fs,rfl,rfl,hz,q⟩ hQ
 obtain ⟨I1,r2⟩:=I.pop
 obtain ⟨I2,r1⟩:=I1.pop
 have r1':=r1
 have r2':=r2
 obtain ⟨a,xs,e,sq,rs⟩:=r1.tup_inv
 obtain ⟨b,ys,e',sq',rs'⟩:=r2.tup_inv
 subst e e'
 refine ⟨a,b,xs,ys,rfl,rfl,sq.sq,sq'.sq,by rw [rs.length,rs'.length]; exact hz,fun hx=>?_,fun hx hy=>?_,fun hx hy p hp=>?_⟩
 ·have he : es = [] := by have := rs.length; rw [hx] at this; exact List.eq_nil_of_length_eq_zero this.symm
  subst he
  exact hQ _ H _ ⟨os,I2.push r2'⟩ q
 ·have he : fs = [] := by have := rs'.length; rw [hy] at this; exact List.eq_nil_of_length_eq_zero this.symm
  subst he
  rw [List.append_nil] at q
  exact hQ _ H _ ⟨os,I2.push r1'⟩ q
 ·exact hQ _ _ _ ⟨os,I2.newTup (rs.append rs') hp⟩ q
end
section
variable {A:AC} {X:Cx} {a b c e:Expr} {es:List Expr} {te ta tb tc:TD} {t1:TAD} {pos p:Pos}
def intOf (d:D) (k:Int -> Prop):Prop:=∃ i,d = .int i /\ k i
@[simp] theorem q_intOf {i:Int} {k}:intOf (.int i) k ↔ k i:=⟨fun ⟨_,e,h⟩=>by cases e; exact h,fun h=>⟨_,rfl,h⟩⟩
def dChain (f g:Int -> Int -> Bool) (ta tb tc:TD):TD:=fun rho n P=>ta rho n fun d1 n1=>tb rho n1 fun d2 n2=>intOf d1 fun i=>intOf d2 fun j=>if f i j = true then tc rho n2 fun d3 n3=>intOf d3 fun k=>P (.bl (g j k)) n3 else P (.bl false) n2
@[simp] theorem q_dChain {f g ta tb tc rho n P}:dChain f g ta tb tc rho n P = ta rho n fun d1 n1=>tb rho n1 fun d2 n2=>intOf d1 fun i=>intOf d2 fun j=>if f i j = true then tc rho n2 fun d3 n3=>intOf d3 fun k=>P (.bl (g j k)) n3 else P (.bl false) n2:=rfl
theorem pd_chain {op op':CmpOp} {f g:Int -> Int -> Bool} (ho:OpR X (compareOp op) (rI0 fun i j=>.bl (f i j))) (ho':OpR X (compareOp op') (rI0 fun i j=>.bl (g i j))) (ha:PD A X a ta) (hb:PD A X b tb) (hc:PD A X c tc)
  (hm:lastMarks [op,op'] [b,c] = false:=by with_unfolding_all rfl):PD A X (.Compare a [op,op'] [b,c] pos) (dChain f g ta tb tc):=by
 with_unfolding_all
  exact (pe_chain ho ho' ha hb hc hm).imp fun sg H Q h=>by
   obtain ⟨rho,n,P,ds,vs,I,h,hQ⟩:=h
   refine ⟨rho,n,_,ds,vs,I,h,fun v H1 n1 d1 I1 h1=>⟨rho,n1,_,_,_,I1,h1,fun v2 H2 n2 d2 ⟨os2,I2⟩ h2=>?_⟩⟩
   obtain ⟨i,rfl,j,rfl,h2⟩:=h2
   obtain ⟨I3,r2⟩:=I2.pop
   obtain ⟨I4,r1⟩:=I3.pop
   refine ⟨i,j,r1.int_inv,r2.int_inv,f i j,rfl,?_⟩
   by_cases hf:f i j = true
   ·rw [if_pos hf] at h2 ⊢
    refine ⟨rho,n2,_,_,_,⟨os2,I4⟩,h2,fun v3 H3 n3 d3 ⟨os3,I5⟩ h3=>?_⟩
    obtain ⟨k,rfl,h3⟩:=h3
    obtain ⟨I6,r3⟩:=I5.pop
    exact ⟨j,k,r2.int_inv,r3.int_inv,hQ _ H3 n3 _ ⟨os3,I6.push (Rep.ofS (d:=.bl (g j k)) rfl)⟩ h3⟩
   ·rw [if_neg hf] at h2 ⊢
    exact hQ _ H2 n2 _ ⟨os2,I4.push (Rep.ofS (d:=.bl false) rfl)⟩ h2
def iRng2D (t:TAD):TID:=fun rho n P=>t rho n fun es n1=>pair2 es fun d1 d2=>intOf d1 fun i=>intOf d2 fun j=>(-(2 ^ 62) <= i /\ i < 2 ^ 62 /\ -(2 ^ 62) <= j /\ j < 2 ^ 62) /\ P (rngD i (j - i).toNat) n1
@[simp] theorem q_iRng2D {t rho n P}:iRng2D t rho n P = t rho n fun es n1=>pair2 es fun d1 d2=>intOf d1 fun i=>intOf d2 fun j=>(-(2 ^ 62) <= i /\ i < 2 ^ 62 /\ -(2 ^ 62) <= j /\ j < 2 ^ 62) /\ P (rngD i (j - i).toNat) n1:=rfl
def sExtend (i:Nat) (t:TAD):TSD:=fun F rho n=>ownAt rho[i]? fun es=>t rho n fun ds n1=>∃ fs,ds = [.lst fs] /\ es.length + fs.length <= sizeLine /\ F.nx (rho.set i (some (.own (es ++ fs)))) n1
@[simp] theorem q_sExtend {i t F rho n}:sExtend i t F rho n = ownAt rho[i]? fun es=>t rho n fun ds n1=>∃ fs,ds = [.lst fs] /\ es.length + fs.length <= sizeLine /\ F.nx (rho.set i (some (.own (es ++ fs)))) n1:=rfl
theorem gdat_int {K:PySem.W.Frag} {mg:Str -> Option Value} {x:Str} {i:Int} {t:Tok} (hm:mg x = some (.int i t)):GDat K mg x (.int i):=⟨.int i,_,hm,⟨t,rfl⟩,fun G Z H=>.ofS (d:=.int i) rfl⟩
end
section
variable {X:Cx} {A:AC}
end
end L2
namespace L2
open PySem PySem.Spec PyProof.Rows
theorem swapped2 {x y:Str} {px py pt:Pos} {kt k2 pt2} {a b:Expr} {env:Env} (hk:env.blockKind = .function) (hx:env.kindOf x = some .local) (hy:env.kindOf y = some .local) (hl:py.line = px.line) (hxy:x ≠ y)
  (hsa:starred a = false) (hsb:starred b = false) (hf:[a,b].all (foldedForSure 8) = false) (hc:[a,b].all (constantsAlone 8) = false) :
  swappedStores [.Tuple [.Name x px,.Name y py] kt pt] (.Tuple [a,b] k2 pt2) env = pure (some [x,y]):=by
 have e2:(y == x) = false:=beq_false_of_ne (Ne.symm hxy)
 have e:(Expr.Name x px).pos.line = px.line:=rfl
 unfold swappedStores
 simp [hk,hx,hy,hl,hf,hc,e,List.eraseDups,List.eraseDupsBy,List.eraseDupsBy.loop,e2]
 intro h
 exfalso
 rcases h with h | h
 ·cases a <;> first | (simp at h; done) | (simp [starred] at hsa; done)
 ·cases b <;> first | (simp at h; done) | (simp [starred] at hsb; done)
section
variable {A:AC} {X:Cx} {a b:Expr} {pos:Pos}
theorem psd_parK {i j:Nat} {x y:Str} {ta:TAD} {px py pt:Pos} {kt k2 pt2} (hc:X.calm = true) (hN:X.N.Nodup) (hi:X.N[i]? = some x) (hj:X.N[j]? = some y) (hij:i ≠ j)
  (hx:X.env.scope.names.lookup x = some .local) (hy:X.env.scope.names.lookup y = some .local) (ha:PAD A X [a,b] ta)
  (hk:X.env.blockKind = .function:=by rfl) (hl:py.line = px.line:=by rfl) (hxy:x ≠ y:=by decide) (hsa:starred a = false:=by rfl) (hsb:starred b = false:=by rfl) (hf:[a,b].all (foldedForSure 8) = false:=by decide +kernel) (hca:[a,b].all (constantsAlone 8) = false:=by decide +kernel) :
  PSD A X (.Assign [.Tuple [.Name x px,.Name y py] kt pt] (.Tuple [a,b] k2 pt2) pos) (sPar i j ta):=by
 with_unfolding_all
  exact
   psd_par hc hN hi hj hij hx hy ha (swapped2 hk hx hy hl hxy hsa hsb hf hca) rfl
end
end L2
set_option maxRecDepth 100000
namespace L2
open PySem PySem.Spec PyProof.Rows HT
section
variable {prog:Program} {w:World} {A:Around} {E:Value -> Shared -> Prop} {s:Shared}
theorem getItem_tuple_whole {t sl:Addr} {items:Array Value} {vl vu:Value} {lo hi:Option Int} {Q:Value -> Shared -> Prop} (ht:IsTup s.heap t items) (hs:s.heap.IsSliceOf sl vl vu .none) (pl:IsPart vl lo) (pu:IsPart vu hi)
  (h1:sIx items.size 0 lo = 0) (h2:sIx items.size items.size hi = items.size) (h:Q (.ref t) s):wpAny (model prog w) A (getItem (.ref t) (.ref sl)) Q E s:=by
 obtain ⟨os,hos,hcs,hds⟩:=id hs
 have hTs:s.TypeIs (.ref sl) "slice" := ⟨os,hos,hcs⟩
 unfold getItem
 try with_reducible refine wpAny_holding ?_
 first | refine wpAny_bind (wpAny_pure ?_) | skip
 refine wpAny_bind (wpAny_sequenceKey ht.typeIs (by decide) ?_)
 refine wpAny_bind (wpAny_callSpecial?_slot (name:=Str.ofString "__getitem__") ht.typeIs PyProof.Rows.slot_tuple_getitem
  (wpAny_call_entry PyProof.Rows.slot_tuple_getitem ht.typeIs entry_tuple_getitem ?_ (args_tuple_getitem _ _)))
 show wpAny _ _ (Builtin.Tuple.tupleItemsOf (.ref t) >>= _) _ _ s
 refine wpAny_bind (tupleItemsOf_ ht ?_)
 refine wpAny_bind (wpAny_typeOf hTs ?_)
 rw [if_pos (by decide)]
 refine wpAny_bind (sliceApplied_gen hs pl pu ?_)
 have hyes:((((sIx items.size 0 lo:Nat):Int) == 0 && (1:Int) == 1 && (sIx items.size items.size hi - sIx items.size 0 lo) == items.size) = true):=by
  rw [h1,h2]; simp
 show wpAny _ _ (if (((sIx items.size 0 lo:Nat):Int) == 0 && (1:Int) == 1 && (sIx items.size items.size hi - sIx items.size 0 lo) == items.size) = true then _ else _) _ _ s
 rw [if_pos hyes]
 obtain ⟨⟨cls,dd,data,sl'⟩,ho,hc,n,hd⟩:=id ht
 simp only at hc hd
 subst hc hd
 unfold Builtin.Tuple.tupleIsExact
 obtain ⟨hp,g,d,tk,os'⟩:=s
 wp_walk
 exact ⟨_,rfl,wpAny_pure h⟩
end
section
variable {X:Cx}
def rSlTW (K:PySem.W.Frag):V -> Option Int -> Option Int -> Hp -> VK -> Prop:=fun x lo hi H Q=>∃ a xs,x = .ref a /\ SqT K H a xs /\
 ((HT.sIx xs.length 0 lo = 0 /\ HT.sIx xs.length xs.length hi = xs.length) -> Q (.ref a) H) /\ (¬ (HT.sIx xs.length 0 lo = 0 /\ HT.sIx xs.length xs.length hi = xs.length) -> ∀ p,H p = none -> Q (.ref p) (upd H p (.tup (cutV xs lo hi))))
theorem sl_tupW:SlR X (rSlTW X.K):=by
 intro pins s σ H x v vl vu lo hi sl Q I rx hs pl pu h
 obtain ⟨a,xs,rfl,hx,q1,q2⟩:=h
 by_cases hw:HT.sIx xs.length 0 lo = 0 /\ HT.sIx xs.length xs.length hi = xs.length
 ·cases rx
  obtain ⟨its,r,ht,hz⟩:=I.tuple hx
  have hlen:its.toArray.size = xs.length:=by rw [List.size_toArray]; exact r.length.symm
  refine ⟨"tuple",_,PyProof.Rows.slot_tuple_getitem.lookup,ht.typeIs,?_⟩
  exact getItem_tuple_whole ht hs pl pu (by rw [hlen]; exact hw.1) (by rw [hlen]; exact hw.2) ⟨.ref a,H,I,rfl,q1 hw⟩
 ·exact sl_tup pins s σ H (.ref a) v vl vu lo hi sl Q I rx hs pl pu ⟨a,xs,rfl,hx,hw,q2 hw⟩
end
abbrev TOD:=Rho -> Nat -> (Option Int -> Nat -> Prop) -> Prop
def oOf (A:AC) (t:TOD):TO:=fun sg H Q=>∃ rho n P ds vs,Am A n rho sg H ds vs /\ t rho n P /\ ∀ o H' n',Am A n' rho sg H' ds vs -> P o n' -> Q o H'
@[irreducible] def POD (A:AC) (X:Cx) (e:Option Expr) (t:TOD):Prop:=PO X e (oOf A t)
theorem PO.imp {X:Cx} {e:Option Expr} {t t':TO} (h:PO X e t) (hi:∀ sg H Q,t' sg H Q -> t sg H Q):PO X e t':=fun pins s sg H Q I q=>h pins s sg H Q I (hi _ _ _ q)
section
variable {A:AC} {X:Cx} {a b c e:Expr} {es:List Expr} {te ta tb tc:TD} {t1:TAD} {pos p:Pos}
def oNone:TOD:=fun _ n P=>P none n
def oSome (t:TD):TOD:=fun rho n P=>t rho n fun d n1=>intOf d fun i=>P (some i) n1
@[simp] theorem q_oNone {rho n P}:oNone rho n P = P none n:=rfl
@[simp] theorem q_oSome {t rho n P}:oSome t rho n P = t rho n fun d n1=>intOf d fun i=>P (some i) n1:=rfl
theorem pod_none:POD A X none oNone:=by
 with_unfolding_all
  exact po_none.imp fun sg H Q h=>by
   obtain ⟨rho,n,P,ds,vs,I,h,hQ⟩:=h
   exact hQ none H n I h
theorem pod_some (h:PD A X e te):POD A X (some e) (oSome te):=by
 with_unfolding_all
  exact (po_some h).imp fun sg H Q h=>by
   obtain ⟨rho,n,P,ds,vs,I,h,hQ⟩:=h
   refine ⟨rho,n,_,ds,vs,I,h,fun v H' n' d ⟨os,J⟩ k=>?_⟩
   obtain ⟨i,rfl,k⟩:=k
   obtain ⟨J1,r⟩:=J.pop
   exact ⟨i,r.int_inv,hQ _ H' n' ⟨os,J1⟩ k⟩
def tupAt (d:D) (k:List D -> Prop):Prop:=∃ fs,d = .tup fs /\ k fs
@[simp] theorem q_tupAt {fs:List D} {k}:tupAt (.tup fs) k ↔ k fs:=⟨fun ⟨_,e,h⟩=>by cases e; exact h,fun h=>⟨_,rfl,h⟩⟩
def dSlT (ta:TD) (tl th:TOD):TD:=fun rho n P=>ta rho n fun d n1=>tl rho n1 fun lo n2=>th rho n2 fun hi n3=>tupAt d fun fs=>P (.tup (cutL fs lo hi)) n3
@[simp] theorem q_dSlT {ta tl th rho n P}:dSlT ta tl th rho n P = ta rho n fun d n1=>tl rho n1 fun lo n2=>th rho n2 fun hi n3=>tupAt d fun fs=>P (.tup (cutL fs lo hi)) n3:=rfl
theorem cut_whole {fs:List D} {lo hi:Option Int} (h:HT.sIx fs.length 0 lo = 0 /\ HT.sIx fs.length fs.length hi = fs.length):cutL fs lo hi = fs:=by
 unfold cutL
 rw [h.1,h.2,List.drop_zero,Nat.sub_zero,List.take_length]
theorem pd_slT {le he:Option Expr} {tl th:TOD} {p2:Pos} (hK:X.K = A.K) (ha:PD A X a ta) (hl:POD A X le tl) (hh:POD A X he th):PD A X (.Subscript a (.Slice le he none p2) pos) (dSlT ta tl th):=by
 with_unfolding_all
  exact (pe_slice sl_tupW ha hl hh).imp fun sg H Q h=>by
   obtain ⟨rho,n,P,ds,vs,I,ht,hQ⟩:=h
   refine ⟨rho,n,_,ds,vs,I,ht,fun v H1 n1 d J1 h1=>⟨rho,n1,_,_,_,J1,h1,fun lo H2 n2 J2 h2=>⟨rho,n2,_,_,_,J2,h2,fun hi H3 n3 ⟨os,J3⟩ h3=>?_⟩⟩⟩
   obtain ⟨fs,rfl,k⟩:=h3
   obtain ⟨J4,r⟩:=J3.pop
   have r':=r
   obtain ⟨l,xs,rfl,sq,rs⟩:=r.tup_inv
   rw [hK]
   have hlen:xs.length = fs.length:=rs.length
   refine ⟨l,xs,rfl,sq.sq,fun hw=>?_,fun hw p hp=>hQ _ _ n3 _ ⟨os,J4.newTup (reps_cut rs lo hi) hp⟩ k⟩
   rw [hlen] at hw
   rw [cut_whole hw] at k
   exact hQ _ H3 n3 _ ⟨os,J4.push r'⟩ k
def flatD:D -> Bool
 | .non=>true | .bl _=>true | .int _=>true | .str _=>true | _=>false
def inD (x:D) (es:List D):Bool:=es.any fun y=>eqD y x
theorem flat_of {K:PySem.W.Frag} {G:Option Addr} {Z:Addr -> Prop} {H:Hp} {d:D} {v:V} (h:flatD d = true) (r:Rep K G Z H d v):v = ofS d /\ flatV v = true:=by
 cases d <;> first | (have e:=r.toS rfl; subst e; exact ⟨rfl,rfl⟩) | (simp [flatD] at h; done)
theorem eqV_D {x y:D} (hx:flatD x = true) (hy:flatD y = true):eqV (ofS y) (ofS x) = eqD y x:=by
 cases x <;> cases y <;> first | (simp [flatD] at hx; done) | (simp [flatD] at hy; done) | (simp [eqV,eqD,ofS]; done) | (simp [eqV,eqD,ofS]; rfl)
theorem inV_D {K:PySem.W.Frag} {G:Option Addr} {Z:Addr -> Prop} {H:Hp} {x:D} (hx:flatD x = true):∀ {es:List D} {vs:List V},es.all flatD = true -> Reps K G Z H es vs -> inV (ofS x) vs = inD x es /\ vs.all flatV = true
 | [],vs,_,r=>by rw [r.nil_inv]; exact ⟨rfl,rfl⟩
 | d :: es, vs, h, r => by
  rw [List.all_cons,Bool.and_eq_true] at h
  obtain ⟨v,w,rfl,q,t⟩:=r.split
  obtain ⟨e,f⟩:=flat_of h.1 q
  obtain ⟨e2,f2⟩:=inV_D hx h.2 t
  subst e
  constructor
  ·unfold inV inD at e2 ⊢
   rw [List.any_cons,List.any_cons,e2,eqV_D hx h.1]
  ·rw [List.all_cons,f,f2]; rfl
def rdIn (neg:Bool):RD2:=fun d1 d2 k=>flatD d1 = true /\ ∃ es,(d2 = .tup es \/ d2 = .lst es) /\ es.all flatD = true /\ k (.bl (if neg then !inD d1 es else inD d1 es))
theorem re_in {neg:Bool}:OpRel A (rIn A.K neg) (rdIn neg):=by
 rintro os n rho sg H ds vs d1 d2 v1 v2 k Q I ⟨h1,es,hd,hf,q⟩ hQ
 obtain ⟨I1,r2⟩:=I.pop
 obtain ⟨I2,r1⟩:=I1.pop
 obtain ⟨e1,f1⟩:=flat_of h1 r1
 subst e1
 rcases hd with rfl | rfl
 ·obtain ⟨a, xs, e, sq, rs⟩ := r2.tup_inv
  obtain ⟨z1,z2⟩:=inV_D h1 hf rs
  exact ⟨a,xs,e,.inr sq.sq,f1,z2,by rw [z1]; exact hQ _ H _ ⟨os,I2.push (Rep.ofS rfl)⟩ q⟩
 ·obtain ⟨a, xs, e, sq, rs⟩ := r2.lst_inv
  obtain ⟨z1,z2⟩:=inV_D h1 hf rs
  exact ⟨a,xs,e,.inl sq.sq,f1,z2,by rw [z1]; exact hQ _ H _ ⟨os,I2.push (Rep.ofS rfl)⟩ q⟩
end
end L2
namespace L2
open PySem PySem.Spec PyProof.Rows
section
variable {A:AC} {X:Cx} {a b c e:Expr} {es:List Expr} {te ta tb tc:TD} {t1:TAD} {pos p:Pos}
theorem big_of {pins:List (Addr × Obj)} {σ:St} {H:Hp} {s:Shared} (I:Inv X pins σ H s):sysModules < s.heap.objs.size:=Nat.lt_trans (by decide) (I.mod.glob.keeps I.bk).lt
def tDic:TE:=fun _ H Q=>∀ p kvs,H p = none -> Q (.ref p) (upd H p (.dK kvs))
theorem dic_ok {P:Program} {w:World} {H:Hp} (h:Heap) (hb:sysModules < h.objs.size):ObjOk P w H (h.push { cls:=.type "dict",data:=.dict #[] }) h.objs.size (.dK []) :=
 ⟨Nat.zero_le _,beq_eq_false_iff_ne.mpr (Ne.symm (Nat.ne_of_lt hb)),[],.nil,Heap.DictOf.new h⟩
theorem pe_dic0:PE X (.Dict [] [] pos) tDic:=fun pins s σ H Q I h =>
 wpAny_Dict_empty ⟨.ref s.heap.objs.size,_,I.laid (a:=s.heap.objs.size) (o:=.dK []) (t':=s.toks) (fun _ _ q=>Heap.get?_push_of_some _ q) (Nat.le_refl _) (dic_ok s.heap (big_of I)),rfl,h _ _ (I.hok.fresh (Nat.le_refl _))⟩
theorem pe_dic1 {x:Str} {i:Int} {j1 j2:Nat} {p1 p2:Pos}:PE X (.Dict [some (.Constant (.str x) j1 p1)] [.Constant (.int i) j2 p2] pos) tDic:=by
 intro pins s σ H Q I q
 have hn:=I.hok.fresh (Nat.le_refl s.heap.objs.size)
 have I1:=I.laid (a:=s.heap.objs.size) (o:=.dK []) (h':=s.heap.push { cls:=.type "dict",data:=.dict #[] }) (t':=s.toks) (fun _ _ q=>Heap.get?_push_of_some _ q) (Nat.le_refl _) (dic_ok s.heap (big_of I))
 have e1:upd H s.heap.objs.size (.dK []) s.heap.objs.size = some (.dK []):=upd_same
 refine wpAny_Dict_walk (knd:=mixKind X.prog X.w) rfl rfl (by simp) (by simp) (pairTrees_cons_walk
  (thn (pe_str pins _ σ _ (fun v H' => v = .str x /\ H' = upd H s.heap.objs.size (.dK [])) I1 ⟨rfl, rfl⟩) fun u s1 ⟨v1, H1, J1, r1, hv1, hH1⟩ =>
   thn (pe_int pins s1 σ H1 (fun v H'=>v = .int i /\ H' = H1) J1 ⟨rfl,rfl⟩) fun u2 s2 ⟨v2,H2,J2,r2,hv2,hH2⟩=>pairTrees_nil_walk ?_))
 subst hv1 hH1 hv2 hH2
 obtain ⟨t,rfl⟩:=r1
 obtain ⟨t2,rfl⟩:=r2
 obtain ⟨z,hd,vs0,r0,dd⟩:=(show ObjOk X.prog X.w _ s2.heap s.heap.objs.size (.dK []) from J2.hok _ _ e1)
 cases r0
 refine ⟨[(.inr x,.int i t2)],⟨mixKind_str X.prog X.w x t,rfl,True.intro⟩,dd,fun h' dd' hs=>⟨.ref s.heap.objs.size,_,J2.write (x:=s.heap.objs.size) (e:=s.heap.objs.size) (o:=.dK [(.inr x,.int i)]) (by rw [e1]; exact True.intro) (.inl rfl) (fun b q hb z=>(hs.2 b hb).trans z) ?_ ?_,rfl,?_⟩⟩
 ·obtain ⟨q, _, _, hq, _⟩ := dd'
  exact ⟨q,hq⟩
 ·exact ⟨by simp [sizeLine],hd,_,.cons ⟨rfl,⟨t2,rfl⟩⟩ .nil,dd'⟩
 ·have e : upd (upd H s.heap.objs.size (.dK [])) s.heap.objs.size (.dK [(.inr x, .int i)]) = upd H s.heap.objs.size (.dK [(.inr x, .int i)]) := by
   funext b
   unfold upd
   split <;> rfl
  rw [e]
  exact q _ _ hn
theorem AmO.newDic {os n rho sg H ds vs} {p:Addr} {kvs} (I:AmO A os n rho sg H ds vs) (hp:H p = none):AmO A os n rho sg (upd H p (.dK kvs)) (.dic :: ds) (.ref p :: vs):=by
 have g:=I.grow (o:=.dK kvs) hp
 refine g.push ?_
 unfold Rep
 exact ⟨p,kvs,rfl,fun z=>I.zH p z hp,upd_same⟩
theorem dic_imp {e:Expr} (h:PE X e tDic):PD A X e (dC .dic):=by
 with_unfolding_all
  exact h.imp fun sg H Q h=>by
   obtain ⟨rho,n,P,ds,vs,⟨os,I⟩,q,hQ⟩:=h
   exact fun p kvs hp=>hQ _ _ n _ ⟨os,I.newDic hp⟩ q
end
def litsWith (f:Expr -> Option D):List Expr -> Option (List D)
 | []=>some []
 | e :: es=>match f e,litsWith f es with
  | some d,some ds=>some (d :: ds)
  | _,_=>none
def litD:Nat -> Expr -> Option D
 | 0,_=>none
 | k + 1, e => match e with
  | .Constant .none _ _=>some .non
  | .Constant (.bool b) _ _=>some (.bl b)
  | .Constant (.int i) _ _=>some (.int i)
  | .Constant (.str x) _ _=>some (.str x)
  | .UnaryOp .USub (.Constant (.int i) _ _) _=>some (.int (-i))
  | .Tuple es _ _=>match litsWith (litD k) es with
   | some ds=>if ds.length <= 30 then some (.tup ds) else none
   | none=>none
  | .List es _=>match litsWith (litD k) es with
   | some ds=>if ds.length <= 30 then some (.lst ds) else none
   | none=>none
  | .Dict [] [] _=>some .dic
  | .Dict [some (.Constant (.str _) _ _)] [.Constant (.int _) _ _] _=>some .dic
  | _=>none
theorem lit_star {k:Nat} {e:Expr} {d:D} (h:litD k e = some d):starred e = false:=by
 cases k with
 | zero=>simp [litD] at h
 | succ k=>cases e <;> first | rfl | (simp [litD] at h; done)
section
variable {A:AC} {X:Cx}
theorem PD.imp {e:Expr} {t t':TD} (h:PD A X e t) (hi:∀ rho n P,t' rho n P -> t rho n P):PD A X e t':=by
 with_unfolding_all
  exact PE.imp h fun sg H Q q=>by
   obtain ⟨rho,n,P,ds,vs,I,q,hQ⟩:=q
   exact ⟨rho,n,P,ds,vs,I,hi _ _ _ q,hQ⟩
def aLit (ds:List D):TAD:=fun _ n P=>P ds n
theorem lits_ok {f:Expr -> Option D} (hf:∀ e d,f e = some d -> PD A X e (dC d) /\ starred e = false):∀ {es:List Expr} {ds:List D},litsWith f es = some ds -> PAD A X es (aLit ds)
 | [],ds,h=>by cases h; exact pad_nil
 | e :: es, ds, h => by
  unfold litsWith at h
  cases h1:f e with
  | none=>rw [h1] at h; simp at h
  | some d =>
   cases h2:litsWith f es with
   | none=>rw [h1,h2] at h; simp at h
   | some ds' =>
    rw [h1,h2] at h
    cases h
    obtain ⟨p,q⟩:=hf e d h1
    exact pad_cons p (lits_ok hf h2) q
theorem pd_lit:∀ (k:Nat) {e:Expr} {d:D},litD k e = some d -> PD A X e (dC d)
 | 0,e,d,h=>by simp [litD] at h
 | k + 1, e, d, h => by
  have hf:∀ e d,litD k e = some d -> PD A X e (dC d) /\ starred e = false:=fun e d h=>⟨pd_lit k h,lit_star h⟩
  unfold litD at h
  split at h
  ·cases h; exact pd_non
  ·cases h; exact pd_bl
  ·cases h; exact pd_int
  ·cases h; exact pd_str
  ·cases h; exact (pd_neg pd_int).imp fun rho n P q=>⟨_,rfl,q⟩
  ·split at h
   ·rename_i h2
    split at h
    ·rename_i hz
     cases h
     exact (pd_tup (lits_ok hf h2)).imp fun rho n P q=>⟨Nat.le_trans hz (le_size (by decide)),q⟩
    ·cases h
   ·cases h
  ·split at h
   ·rename_i h2
    split at h
    ·rename_i hz
     cases h
     exact (pd_lst (lits_ok hf h2)).imp fun rho n P q=>⟨Nat.le_trans hz (le_size (by decide)),q⟩
    ·cases h
   ·cases h
  ·cases h; exact dic_imp pe_dic0
  ·cases h; exact dic_imp pe_dic1
  ·cases h
end
end L2
namespace L2
open PySem PySem.Spec PyProof.Rows
section
variable {A:AC} {X:Cx} {pos p:Pos}
def dFn0 (t:TF):TD:=fun _ n P=>t [] n P
@[simp] theorem q_dFn0 {t rho n P}:dFn0 t rho n P = t [] n P:=rfl
end
end L2
set_option maxRecDepth 100000
namespace L2
open PySem PySem.Spec PyProof.Rows
section
variable {A:AC} {X:Cx} {a b e:Expr} {ta tb:TD} {pos p:Pos}
def sSetCatO (i:Nat) (ta tb:TD):TSD:=fun F rho n=>i < rho.length /\ ta rho n fun d1 n1=>tb rho n1 fun d2 n2=>lstOf d1 fun es=>lstOf d2 fun fs=>es.length + fs.length <= sizeLine /\ F.nx (rho.set i (some (.own (es ++ fs)))) n2
@[simp] theorem q_sSetCatO {i ta tb F rho n}:sSetCatO i ta tb F rho n = (i < rho.length /\ ta rho n fun d1 n1=>tb rho n1 fun d2 n2=>lstOf d1 fun es=>lstOf d2 fun fs=>es.length + fs.length <= sizeLine /\ F.nx (rho.set i (some (.own (es ++ fs)))) n2):=rfl
def kStr:List D -> (D -> Prop) -> Prop:=fun es k=>∃ i:Int,es = [.int i] /\ i.natAbs.log2 < 1920 /\ k (.str (toString i))
@[simp] theorem q_kStr {i:Int} {k}:kStr [.int i] k ↔ (i.natAbs.log2 < 1920 /\ k (.str (toString i))):=⟨fun ⟨_,e,h⟩=>by cases e; exact h,fun h=>⟨_,rfl,h⟩⟩
theorem cr_str:CallRel A (fun xs H Q=>∃ i:Int,xs = [.int i] /\ i.natAbs.log2 < 1920 /\ Q (.str (toString i)) H) kStr:=by
 rintro os n rho sg H ds vs es ws k Q I rs ⟨i,rfl,hz,q⟩ hQ
 obtain ⟨v,rfl,r⟩:=reps1 rs
 exact ⟨i,by rw [r.int_inv],hz,hQ _ H _ ⟨os,I.push (Rep.ofS rfl)⟩ q⟩
end
end L2
namespace L2
open PySem PySem.Spec PyProof.Rows HT
section
variable {prog:Program} {w:World} {A:Around} {E:Value -> Shared -> Prop} {s:Shared}
end
section
variable {X:Cx} {e:Expr} {te:TE} {pos p2:Pos}
end
section
variable {A:AC} {X:Cx} {a:Expr} {ta:TD} {pos p2 p3 p4:Pos}
def dRev (ta:TD):TD:=fun rho n P=>ta rho n fun d n1=>tupAt d fun fs=>P (.tup fs.reverse) n1
@[simp] theorem q_dRev {ta rho n P}:dRev ta rho n P = ta rho n fun d n1=>tupAt d fun fs=>P (.tup fs.reverse) n1:=rfl
end
end L2
set_option maxRecDepth 100000
namespace L2
open PySem PySem.Spec PyProof.Rows PySem.W PySem.Calls PySem.NumText
section
variable {A:AC} {X:Cx} {e:Expr} {te:TD} {pos:Pos}
def sWhile (tc:TBD) (tb:TSD):TSD:=fun F rho n=>∃ J:Nat -> Rho -> Nat -> Prop,(∃ m,J m rho n) /\ ∀ m rho n,J m rho n -> tc rho n fun b n1=>if b = true then tb { F with nx:=fun rho' n'=>∃ m',m' < m /\ J m' rho' n',ct:=fun rho' n'=>∃ m',m' < m /\ J m' rho' n',bk:=F.nx } rho n1 else F.nx rho n1
@[simp] theorem q_sWhile {tc tb F rho n}:sWhile tc tb F rho n = ∃ J:Nat -> Rho -> Nat -> Prop,(∃ m,J m rho n) /\ ∀ m rho n,J m rho n -> tc rho n fun b n1=>if b = true then tb { F with nx:=fun rho' n'=>∃ m',m' < m /\ J m' rho' n',ct:=fun rho' n'=>∃ m',m' < m /\ J m' rho' n',bk:=F.nx } rho n1 else F.nx rho n1:=rfl
def sAugI (f:Int -> Int -> Int) (i:Nat) (te:TD):TSD:=fun F rho n=>i < rho.length /\ ∃ a:Int,rho[i]? = some (some (.int a)) /\ te rho n fun d n1=>∃ b:Int,d = .int b /\ F.nx (rho.set i (some (.int (f a b)))) n1
@[simp] theorem q_sAugI {f i te F rho n}:sAugI f i te F rho n = (i < rho.length /\ ∃ a:Int,rho[i]? = some (some (.int a)) /\ te rho n fun d n1=>∃ b:Int,d = .int b /\ F.nx (rho.set i (some (.int (f a b)))) n1):=rfl
def rdCatS:RD2:=fun d1 d2 k=>∃ x y,d1 = .str x /\ d2 = .str y /\ x.length + y.length <= sizeLine /\ k (.str (x ++ y))
theorem re_catS:OpRel A (fun x y H Q=>∃ i j,x = .str i /\ y = .str j /\ i.length + j.length <= sizeLine /\ Q (.str (i ++ j)) H) rdCatS:=by
 rintro os n rho sg H ds vs d1 d2 v1 v2 k Q I ⟨x,y,rfl,rfl,hz,q⟩ hQ
 obtain ⟨I1,r2⟩:=I.pop
 obtain ⟨I2,r1⟩:=I1.pop
 exact ⟨x,y,r1.toS rfl,r2.toS rfl,hz,hQ _ H _ ⟨os,I2.push (Rep.ofS rfl)⟩ q⟩
@[simp] theorem q_rdCatS {x y k}:rdCatS (.str x) (.str y) k ↔ (x.length + y.length <= sizeLine /\ k (.str (x ++ y))):=⟨fun ⟨_,_,e,e',h⟩=>by cases e; cases e'; exact h,fun h=>⟨_,_,rfl,rfl,h⟩⟩
theorem op_mulS:OpR X (binaryOp .Mult) (fun x y H Q=>∃ i n,x = .str i /\ y = .int n /\ MulOk i n /\ Q (.str (Txt.mul i n)) H):=by
 intro pins s σ H x y v u Q I rx ry h
 obtain ⟨i,n,rfl,rfl,hz,q⟩:=h
 obtain ⟨t,rfl⟩:=rx
 obtain ⟨t',rfl⟩:=ry
 exact SB.mul hz fun t' k=>⟨.str (Txt.mul i n),H,I.tok _,⟨_,rfl⟩,q⟩
def rdMulS:RD2:=fun d1 d2 k=>∃ x i,d1 = .str x /\ d2 = .int i /\ MulOk x i /\ k (.str (Txt.mul x i))
theorem re_mulS:OpRel A (fun x y H Q=>∃ i n,x = .str i /\ y = .int n /\ MulOk i n /\ Q (.str (Txt.mul i n)) H) rdMulS:=by
 rintro os n rho sg H ds vs d1 d2 v1 v2 k Q I ⟨x,y,rfl,rfl,hz,q⟩ hQ
 obtain ⟨I1,r2⟩:=I.pop
 obtain ⟨I2,r1⟩:=I1.pop
 exact ⟨x,y,r1.toS rfl,r2.toS rfl,hz,hQ _ H _ ⟨os,I2.push (Rep.ofS rfl)⟩ q⟩
@[simp] theorem q_rdMulS {x i k}:rdMulS (.str x) (.int i) k ↔ (MulOk x i /\ k (.str (Txt.mul x i))):=⟨fun ⟨_,_,e,e',h⟩=>by cases e; cases e'; exact h,fun h=>⟨_,_,rfl,rfl,h⟩⟩
end
theorem wp_long {M:Model} {A:Around} {E:Value -> Shared -> Prop} {s:Shared} {Q:Value -> Shared -> Prop} {v:Value} {text:List Nat} {n:Int}
    (hs:¬ (text.takeWhile (· != 0)).length <= 640) (hr:(int_private% "readNumeral") 4300 10 (text.takeWhile (· != 0)) = (int_private% "Numeral.value") n)
    (ha:((text.takeWhile (· != 0)).length == text.length) = true) (hn:s.heap.NoDigits) (h:Q (.int n s.toks) { s with toks:=s.toks + 1 }) :
    wpAny M A ((int_private% "intFromText") v text 10) Q E s:=by
  obtain ⟨mc,hns,hnone⟩:=hn
  obtain ⟨hp,g,d,tk,os⟩:=s
  have hi:∀ {Q:Nat -> Shared -> Prop},Q 4300 ⟨hp,g,d,tk,os⟩ -> wpAny M A Builtin.intMaxStrDigits Q E ⟨hp,g,d,tk,os⟩:=fun {Q} q=>by
    unfold Builtin.intMaxStrDigits
    refine wpAny_bind (wpAny_nsGet hns ?_)
    rw [hnone]
    exact wpAny_pure q
  repeat (any_goals (first
    | assumption
    | (with_reducible refine wpAny_ite_false (decide_eq_false hs) ?_)
    | (with_reducible refine wpAny_ite_true (decide_eq_true ha) ?_)
    | (with_reducible refine hi ?_)
    | wp_step))
  all_goals (try rw [hr])
  all_goals (try dsimp only)
  repeat (any_goals (first
    | assumption
    | (with_reducible refine wpAny_ite_true (decide_eq_true ha) ?_)
    | wp_step))
set_option maxHeartbeats 4000000 in
theorem meets_long {x:PySem.Str} {u:Tok} {n:Int} (hs:¬ (numSeenOf x).length <= 640) (hl:x.length <= sizeLine) (hn:PySem.intText? x = some n):Meets (Builtin.«int.__new__» ⟨[.type "int",.str x u],[]⟩) (fun A R s=>s.heap.NoDigits /\ R (.ok (.ret (.int n s.toks))) { s with toks:=s.toks + 1 }):=by
 intro prog w A R s h
 obtain ⟨hd,h⟩:=h
 obtain ⟨hp,g,d,tk,os⟩:=s
 have f1:=F.conv_sub_int
 have f2:=F.madeHere_int
 have f3:=KIN.str_int
 have f4:=KIN.str_idx
 have f5:=KIN.str_trunc
 have f6:typeOf (.str x u) = pure (.type "str"):=rfl
 have hr:(int_private% "readNumeral") 4300 10 (numSeenOf x) = (int_private% "Numeral.value") n /\ ((numSeenOf x).length == (numTextOf x).length) = true:=by
  rcases read4300 x hl with ⟨m,h1,h2,h3⟩ | ⟨h1,_⟩
  ·rw [hn] at h1
   injection h1 with h1
   subst h1
   exact ⟨h3,h2⟩
  ·rw [hn] at h1
   cases h1
 have hk:=KIN.Hid.mk (And.intro hs (And.intro hr hd))
 clear hs hr hl hn hd
 repeat (any_goals (first
  | assumption
  | ((with_reducible show wpAny _ _ ((int_private% "intFromText") _ _ _) _ _ _); refine wp_long hk.out.1 hk.out.2.1.1 hk.out.2.1.2 hk.out.2.2 ?_)
  | wp_step))
theorem call_long {prog:Program} {w:World} {A:Around} {E:Value -> Shared -> Prop} {s:Shared} {Q:Value -> Shared -> Prop} {x:PySem.Str} {t:Tok} {n:Int} (hs:¬ (numSeenOf x).length <= 640) (hl:x.length <= sizeLine) (hn:PySem.intText? x = some n) (hd:s.heap.NoDigits) (h:Q (.int n s.toks) { s with toks:=s.toks + 1 }):wpAny (model prog w) A (call (.type "int") [.str x t]) Q E s :=
 call_int_1 (meets_long hs hl hn) ⟨hd,rfl,h⟩
section
variable {A:AC} {X:Cx}
theorem call_int_long (hd:X.base.NoDigits):CallR X (.type "int") (fun xs H Q=>∃ x n,xs = [.str x] /\ ¬ (numSeenOf x).length <= 640 /\ x.length <= sizeLine /\ PySem.intText? x = some n /\ Q (.int n) H):=by
 intro pins s σ H xs us Q I r h
 obtain ⟨x,n,rfl,h1,h2,h3,q⟩:=h
 obtain ⟨u,rfl,t,rfl⟩:=vals1 r
 exact call_long h1 h2 h3 (hd.keeps I.bk) ⟨.int n,H,I.tok _,⟨_,rfl⟩,q⟩
def kIntL:List D -> (D -> Prop) -> Prop:=fun es k=>∃ x n,es = [.str x] /\ ¬ (numSeenOf x).length <= 640 /\ x.length <= sizeLine /\ PySem.intText? x = some n /\ k (.int n)
theorem cr_intL:CallRel A (fun xs H Q=>∃ x n,xs = [.str x] /\ ¬ (numSeenOf x).length <= 640 /\ x.length <= sizeLine /\ PySem.intText? x = some n /\ Q (.int n) H) kIntL:=by
 rintro os n rho sg H ds vs es ws k Q I rs ⟨x,m,rfl,h1,h2,h3,q⟩ hQ
 obtain ⟨v,rfl,r⟩:=reps1 rs
 exact ⟨x,m,by rw [r.toS rfl]; rfl,h1,h2,h3,hQ _ H _ ⟨os,I.push (Rep.ofS rfl)⟩ q⟩
end
theorem fold_rep:∀ (k:Nat) (a:Array Nat),((List.replicate k #[48]).foldl (· ++ ·) a).toList = a.toList ++ List.replicate k 48
  | 0,a=>by simp
  | k + 1, a => by
    rw [List.replicate_succ,List.foldl_cons,fold_rep k,Array.toList_append,List.append_assoc]
    rfl
theorem cps_noughts (k:Int) (h:1 < k):(Str.ofString "1" ++ Txt.mul (Str.ofString "0") k).cps.toList = 49 :: List.replicate k.toNat 48:=by
 have e:(Str.ofString "0").cps = #[48]:=by decide +kernel
 have e1:(Str.ofString "1").cps = #[49]:=by decide +kernel
 have el:(Str.ofString "0").length = 1:=by decide +kernel
 unfold Txt.mul
 rw [if_neg (by lia),if_neg (by simp [el]; lia)]
 show ((Str.ofString "1").cps ++ _).toList = _
 rw [e1,Array.toList_append,e,fold_rep]
 rfl
theorem int_noughts (k:Int) (h:700 < k) (h2:k < 4200):∃ m:Int,0 < m /\ ¬ (numSeenOf (Str.ofString "1" ++ Txt.mul (Str.ofString "0") k)).length <= 640 /\ (Str.ofString "1" ++ Txt.mul (Str.ofString "0") k).length <= sizeLine /\ PySem.intText? (Str.ofString "1" ++ Txt.mul (Str.ofString "0") k) = some m:=by
 have ec:=cps_noughts k (by lia)
 generalize hx:Str.ofString "1" ++ Txt.mul (Str.ofString "0") k = x at *
 have hl:x.length = k.toNat + 1:=by
  have:x.cps.toList.length = x.length:=Array.length_toList
  rw [<- this,ec]; simp
 have hd:NumText.AllDigits x.cps.toList:=fun c hc=>by
  rw [ec] at hc
  rcases List.mem_cons.mp hc with rfl | hc
  ·lia
  ·rw [(List.mem_replicate.mp hc).2]; lia
 refine ⟨(NumText.digitsVal x.cps.toList:Nat),?_,?_,?_,intText_digits hd (by rw [ec]; simp) (by lia)⟩
 ·rw [ec]
  have:=NumText.digitsVal_pos (c:=49) (cs:=List.replicate k.toNat 48) (by decide)
  lia
 ·rw [(numText_signs fun c hc=>Or.inr (hd c hc)).2,ec]; simp; lia
 ·rw [hl,sizeLine_eq]; lia
theorem mulok_nought (k:Int) (h:1 < k) (h2:k < 10000):MulOk (Str.ofString "0") k:=by
 have el:(Str.ofString "0").length = 1:=by decide +kernel
 refine ⟨by simp; lia,fun _ _=>?_,fun _ _=>?_⟩
 ·rw [el]
  have:1 <= (2 ^ 63 - 1:Int) / k:=(Int.le_ediv_iff_mul_le (by lia)).mpr (by lia)
  intro z
  exact absurd z (Int.not_lt.mpr this)
 ·rw [el]
  unfold Builtin.Str.tooLong
  exact decide_eq_false (by rw [sizeLine_eq]; lia)
end L2
set_option maxRecDepth 100000
namespace L2
open PySem PySem.Spec PyProof.Rows
theorem law_callN {P:Program} {w:World} {K:PySem.W.Frag} {mg mb:Str -> Option Value} {CX:CXT} {k:Nat} {fa a:Addr} {fd:FuncData} {x:Str} {sp:Sp} {s₁:Shared} {vs:List Value} {ns:List Int}
  (KX:K.In s₁.heap) (hns:s₁.heap.Ns mainGlobals mg) (hb:s₁.heap.Ns builtinsNs mb) (hbb:∀ x:Str,x ≠ "__name__" -> mb x = bootBuiltins x) (hlim:s₁.heap.NoLimit) (hdig:s₁.heap.NoDigits) (hg:s₁.gens = #[])
  (ha:s₁.heap.get? a = some { cls:=.type "list",data:=.seq vs.toArray }) (hi:IntsAre vs ns) (hl:ns.length <= sizeLine) (hr:Room k callerA)
  (F:∀ base:Heap,K.In base -> base.Ns mainGlobals mg -> base.NoDigits -> FnOk P w K mg base CX k fa fd [x] sp) (hbind:∀ (s:Shared) (u:Value),BindsTo s fd ⟨[u],[]⟩ [(x,u)])
  (hsp:∀ H:Hp,Only H -> SqL K H a (ns.map V.int) -> sp [.ref a] H (fun v _=>v = .bl true) fun _ _ _=>False)
  (hCX:∀ H e s',CX [] H s₁ (fun _ _ _=>False) e s' -> False) :
  codeAny (model P w) callerA (.call (.ref fa) ⟨[.ref a],[]⟩) (fun r s'=>r = .ok (.ret (.bool true)) /\ OldK s₁.heap s'.heap /\ s'.os = s₁.os /\ AllBare s'.gens) s₁:=by
 have rv:=vals_ints hi
 have lenV:=hi.length
 have core : ∀ H : Hp, Only H -> SqL K H a (ns.map V.int) -> HOk P w H s₁.heap -> (∀ b, H b ≠ none -> b = a) -> (H a ≠ none -> K.lookup a = none) ->
   codeAny (model P w) callerA (.call (.ref fa) ⟨[.ref a],[]⟩) (fun r s'=>r = .ok (.ret (.bool true)) /\ OldK s₁.heap s'.heap /\ s'.os = s₁.os /\ AllBare s'.gens) s₁:=by
  intro H hO hS hok hA hK
  have base_of:∀ {b:Addr} {o:Obj},s₁.heap.get? b = some o -> H b = none -> (hidT s₁.heap H).get? b = some o:=fun e n=>hidT_get e n
  have noA:∀ {b:Addr} {o:Obj} {es:Array DictEntry} {ep:Nat},s₁.heap.get? b = some o -> o.data = .dict es ep -> H b = none:=fun {b o es ep} e d=>by
   cases q:H b with
   | none=>rfl
   | some u =>
    have e':b = a:=hA b (by rw [q]; simp)
    subst e'
    rw [ha] at e; cases e
    have d':Data.seq vs.toArray _ = Data.dict es ep:=d
    cases d'
  have nsK:∀ {b:Addr} {m:Str -> Option Value},s₁.heap.Ns b m -> (hidT s₁.heap H).Ns b m:=fun {b m} ⟨o,es,ep,e,d,r⟩=>⟨o,es,ep,base_of e (noA e d),d,r⟩
  have hKb:K.In (hidT s₁.heap H):=fun b o e=>base_of (KX b o e) (by
   cases q:H b with
   | none=>rfl
   | some u =>
    have e':b = a:=hA b (by rw [q]; simp)
    subst e'
    rw [hK (by rw [q]; simp)] at e; cases e)
  have hM:Mod K mg (hidT s₁.heap H):=⟨hKb,nsK hns,⟨mb,nsK hb,hbb⟩,let ⟨mc,h1,h2⟩:=hlim; ⟨mc,nsK h1,h2⟩⟩
  have e0:Env0 P w K mg (hidT s₁.heap H) callerA [] s₁ H:=⟨rfl,hM,fun b o e=>of_hidT e,Nat.le_of_eq (hidT_size _ _),trivial,fun b hb=>absurd (show b ∈ ([]:List Addr) from hb) (by simp),hok,.of_eq hg⟩
  refine codeAny_mono ((F _ hKb (nsK hns) (let ⟨mc,h1,h2⟩:=hdig; ⟨mc,nsK h1,h2⟩)).run callerA [] s₁ H ⟨[.ref a],[]⟩ [.ref a] [.ref a] _ _ hr e0 (hbind s₁ (.ref a)) (.cons rfl .nil) (hsp H hO hS)) fun r s' h=>?_
  cases r with
  | error e=>exact (hCX H e s' h).elim
  | ok fl =>
   cases fl with
   | next=>exact False.elim h
   | brk=>exact False.elim h
   | cont=>exact False.elim h
   | ret u =>
    obtain ⟨v,H',os,bare,un,hok',r',q⟩:=h
    have q':v = .bl true:=q
    subst q'
    obtain rfl:u = Value.bool true:=r'
    refine ⟨rfl,OldK.of_keep fun b o e=>?_,os,bare⟩
    cases q:H b with
    | none=>exact un.keep b o e q (by intro z; exact absurd (show b ∈ ([]:List Addr) from z) (by simp)) (by simp)
    | some u =>
     rcases hO b with z | ⟨ob,xs,z⟩
     ·rw [q] at z; cases z
     ·have z2 := un.frzs b ob _ z
      obtain ⟨e1,_⟩:=hok b _ z
      obtain ⟨e2,_⟩:=hok' b _ z2
      rw [e] at e1; cases e1
      exact e2
 cases hk:K.lookup a with
 | some o =>
  have e:=KX a o hk
  rw [ha] at e
  cases e
  refine core (fun _=>none) (fun _=>.inl rfl) (.inr ⟨_,vs.toArray,_,hk,rfl,rfl,rfl,by rw [List.size_toArray,lenV]; exact hl,by simpa using rv⟩) (fun b u z=>by have z':(none:Option HO) = some u:=z; cases z') (fun b z=>absurd rfl z) fun z=>absurd rfl z
 | none =>
  refine core (fun b=>if b = a then some (.frz { cls:=.type "list",data:=.seq vs.toArray } (.lst (ns.map V.int))) else none) (fun b=>?_) (.inl (.inr ⟨{ cls:=.type "list",data:=.seq vs.toArray },if_pos rfl⟩)) (fun b u z=>?_) (fun b z=>?_) fun _=>hk
  ·by_cases hb : b = a
   ·exact .inr ⟨_,_,if_pos hb⟩
   ·exact .inl (if_neg hb)
  ·by_cases hb : b = a
   ·have z' := (if_pos hb).symm.trans z
    cases z'
    subst hb
    exact ⟨ha,by rw [List.length_map]; exact hl,vs,_,rv,ha⟩
   ·have z' := (if_neg hb).symm.trans z
    cases z'
  ·by_cases hb : b = a
   ·exact hb
   ·exact absurd (if_neg hb) z
theorem walk_ofN {l:PySem.W.OpenLaw} {n k:Nat} {q:Program} {loose:List Str} {XP:(Str -> Option Value) -> Heap -> Prop} {YP:World -> Heap -> Prop} {d:DefRec} {K:Params -> PySem.W.Frag} {CX:World -> CXT} {sp:World -> Sp} {x:Str}
  (hn:l.most = some n) (hn2:n <= sizeLine) (hdf:d.params.defaults = []) (hr:Room k callerA)
  (hY:∀ (w:World) (h:Heap),YP w h -> (K w.params).In h)
  (F : ∀ (w : World) (mg : Str -> Option Value) (fa : Addr) (h : Heap), (K w.params).In h -> h.Ns mainGlobals mg -> mg d.name = some (.ref fa) ->
   ∃ fd:FuncData,(∀ (s:Shared) (u:Value),BindsTo s fd ⟨[u],[]⟩ [(x,u)]) /\
    ∀ base:Heap,(K w.params).In base -> base.Ns mainGlobals mg -> base.NoDigits -> FnOk l.prog w (K w.params) mg base (CX w) k fa fd [x] (sp w))
  (hsp:∀ (w:World) (H:Hp) (a:Addr) (ns:List Int),ns.length <= n -> Only H -> SqL (K w.params) H a (ns.map V.int) -> sp w [.ref a] H (fun v _=>v = .bl true) fun _ _ _=>False)
  (hCX:∀ (w:World) (H:Hp) (s:Shared) (e:Value) (s':Shared),CX w [] H s (fun _ _ _=>False) e s' -> False) :
  PySem.W.WalkO q loose XP YP l.row.toRowW d [] (fun f vs=>PySem.call f vs):=by
 refine Att.attach_call hn hdf fun w s₀ s₁ mg mb fa o pm cd doc a vs ns G Y ho hd hcd hmg hobj hints hlen hg=>?_
 have KX:=hY w _ Y
 obtain ⟨fd,hb,hF⟩:=F w mg fa _ KX G.T.g hmg
 exact law_callN KX G.T.g G.T.b G.T.builtins G.T.nolimit G.T.nodigits hg hobj hints (Nat.le_trans hlen hn2) hr hF hb (fun H hO hS=>hsp w H a ns hlen hO hS) fun H e s'=>hCX w H s₁ e s'
end L2
set_option maxRecDepth 100000
namespace L2
open PySem PySem.Spec PyProof.Rows PySem.W PySem.Calls
section
variable {X:Cx} {pos:Pos}
end
section
variable {A:AC} {X:Cx} {a b c:Expr} {pos:Pos}
def sPar3 (i j k:Nat) (t:TAD):TSD:=fun F rho n=>i < rho.length /\ j < rho.length /\ k < rho.length /\ t rho n fun es n1=>∃ d d' d2,es = [d,d',d2] /\ F.nx (((rho.set k (some d2)).set j (some d')).set i (some d)) n1
@[simp] theorem q_sPar3 {i j k t F rho n}:sPar3 i j k t F rho n = (i < rho.length /\ j < rho.length /\ k < rho.length /\ t rho n fun es n1=>∃ d d' d2,es = [d,d',d2] /\ F.nx (((rho.set k (some d2)).set j (some d')).set i (some d)) n1):=rfl
end
end L2
set_option maxRecDepth 100000
namespace L2.Srt
open PySem PyProof.Rows
section
variable {n:Nat} {item:Nat -> Keyed} {kd:SortKind} {r:Nat -> Nat -> Bool} {ls:Array Nat} {t:SortSt}
end
section
variable {prog:Program} {w:World} {A:Around} {E:Value -> Shared -> Prop} {s:Shared} {n:Nat} {item:Nat -> Keyed} {kd:SortKind} {r:Nat -> Nat -> Bool} {ls:Array Nat} {t:SortSt}
end
end L2.Srt
set_option maxRecDepth 100000
namespace L2.Srt
open PySem PyProof.Rows
section
variable {prog:Program} {w:World} {A:Around} {E:Value -> Shared -> Prop} {s:Shared} {r:Nat -> Nat -> Bool} {kd:SortKind}
end
end L2.Srt
set_option maxRecDepth 100000
namespace L2.Srt
open PySem PyProof.Rows PySem.SeqAt
section
variable {prog:Program} {w:World} {M:Model} {A:Around} {E:Value -> Shared -> Prop} {s:Shared}
end
end L2.Srt
set_option maxRecDepth 100000
namespace L2
open PySem PySem.Spec PyProof.Rows PySem.SeqAt
section
variable {X:Cx}
end
end L2
set_option maxRecDepth 100000
namespace L2
open PySem PySem.Spec PyProof.Rows PySem.SeqAt
section
variable {X:Cx} {pins:List (Addr × Obj)} {σ:St} {H:Hp} {s:Shared} {G:Option Addr} {Z:Addr -> Prop}
end
end L2
set_option maxRecDepth 100000
namespace L2
open PySem PySem.Spec PyProof.Rows PySem.SeqAt
section
variable {A:AC} {X:Cx} {a:Expr} {ta:TD} {pos:Pos}
def lstAt (d:D) (k:List D -> Prop):Prop:=∃ fs,(d = .lst fs \/ d = .fz fs) /\ k fs
@[simp] theorem q_lstAt {fs:List D} {k}:lstAt (.lst fs) k ↔ k fs:=⟨fun ⟨_,e,h⟩=>by rcases e with e | e <;> cases e; exact h,fun h=>⟨_,.inl rfl,h⟩⟩
def dSlV (ta:TD) (tl th:TOD):TD:=fun rho n P=>ta rho n fun d n1=>tl rho n1 fun lo n2=>th rho n2 fun hi n3=>lstAt d fun fs=>P (.lst (cutL fs lo hi)) n3
@[simp] theorem q_dSlV {ta tl th rho n P}:dSlV ta tl th rho n P = ta rho n fun d n1=>tl rho n1 fun lo n2=>th rho n2 fun hi n3=>lstAt d fun fs=>P (.lst (cutL fs lo hi)) n3:=rfl
theorem pd_slV {le he:Option Expr} {tl th:TOD} {p2:Pos} (hK:X.K = A.K) (ha:PD A X a ta) (hl:POD A X le tl) (hh:POD A X he th):PD A X (.Subscript a (.Slice le he none p2) pos) (dSlV ta tl th):=by
 with_unfolding_all
  exact (pe_slice sl_list ha hl hh).imp fun sg H Q h=>by
   obtain ⟨rho,n,P,ds,vs,I,ht,hQ⟩:=h
   refine ⟨rho,n,_,ds,vs,I,ht,fun v H1 n1 d J1 h1=>⟨rho,n1,_,_,_,J1,h1,fun lo H2 n2 J2 h2=>⟨rho,n2,_,_,_,J2,h2,fun hi H3 n3 ⟨os,J3⟩ h3=>?_⟩⟩⟩
   obtain ⟨fs,hd,k⟩:=h3
   obtain ⟨J4,r⟩:=J3.pop
   rw [hK]
   rcases hd with rfl | rfl
   ·obtain ⟨l, xs, rfl, sq, rs⟩ := r.lst_inv
    exact ⟨l,xs,rfl,sq.sq,fun p hp=>hQ _ _ n3 _ ⟨os,J4.newLst (reps_cut rs lo hi) hp⟩ k⟩
   ·obtain ⟨l, xs, rfl, sq, rs⟩ := r.fz_inv
    exact ⟨l,xs,rfl,sq,fun p hp=>hQ _ _ n3 _ ⟨os,J4.newLst (reps_cut rs lo hi) hp⟩ k⟩
def dOwnNe (i:Nat):TD:=fun rho n P=>∃ es,rho[i]? = some (some (.own es)) /\ okE (.lst es) 20 = true /\ P (.bl (!eqDs es [])) n
@[simp] theorem q_dOwnNe {i rho n P}:dOwnNe i rho n P = ∃ es,rho[i]? = some (some (.own es)) /\ okE (.lst es) 20 = true /\ P (.bl (!eqDs es [])) n:=rfl
end
end L2
set_option maxRecDepth 100000
namespace L2
open PySem PySem.Spec PyProof.Rows PySem.SeqAt
mutual
def toPy:D -> PyData
 | .int i=>.int i
 | .tup ds=>.tuple (toPys ds)
 | _=>.none
def toPys:List D -> List PyData
 | []=>[]
 | d :: ds=>toPy d :: toPys ds
end
mutual
def okS:D -> Nat -> Bool
 | .int i,_=>decide (i.natAbs.log2 < 1920)
 | .tup ds,k=>match k with
  | 0=>false
  | k + 1=>okSs ds k
 | _,_=>false
def okSs:List D -> Nat -> Bool
 | [],_=>true
 | d :: ds,k=>okS d k && okSs ds k
end
mutual
def nodes:D -> Nat
 | .tup ds=>nodess ds + 1
 | _=>1
def nodess:List D -> Nat
 | []=>0
 | d :: ds=>nodes d + nodess ds
end
def showD (d:D):Str:=(toPy d).shown
section
variable {X:Cx} {pins:List (Addr × Obj)} {σ:St} {H:Hp} {s:Shared} {G:Option Addr} {Z:Addr -> Prop}
end
def kStrT:List D -> (D -> Prop) -> Prop:=fun es k=>∃ ds,es = [.tup ds] /\ okS (.tup ds) 15 = true /\ nodes (.tup ds) <= 8000 /\ k (.str (showD (.tup ds)))
@[simp] theorem q_kStrT {ds k}:kStrT [.tup ds] k ↔ (okS (.tup ds) 15 = true /\ nodes (.tup ds) <= 8000 /\ k (.str (showD (.tup ds)))):=⟨fun ⟨_,e,h⟩=>by cases e; exact h,fun h=>⟨_,rfl,h⟩⟩
end L2
set_option maxRecDepth 100000
namespace L2
open PySem PySem.Spec PyProof.Rows
section
variable {X:Cx} {A:AC}
def rdRepZ:RD2:=fun d1 d2 k=>∃ es i,d1 = .tup es /\ d2 = .int i /\ es ≠ [] /\ 0 <= i /\ es.length * i.toNat <= sizeLine /\ k (.tup (List.replicate i.toNat es).flatten)
@[simp] theorem q_rdRepZ {es i k}:rdRepZ (.tup es) (.int i) k ↔ (es ≠ [] /\ 0 <= i /\ es.length * i.toNat <= sizeLine /\ k (.tup (List.replicate i.toNat es).flatten)):=⟨fun ⟨_,_,e,e',h⟩=>by cases e; cases e'; exact h,fun h=>⟨_,_,rfl,rfl,h⟩⟩
end
end L2
set_option maxRecDepth 100000
namespace L2.Srt
open PySem PyProof.Rows
section
variable {prog:Program} {w:World} {A:Around} {E:Value -> Shared -> Prop} {s:Shared}
end
end L2.Srt
namespace L2
open PySem PySem.Spec PyProof.Rows
section
variable {X:Cx} {A:AC} {pos:Pos} {e:Expr} {t1:TAD}
def sNever:TSD:=fun _ _ _=>False
@[simp] theorem q_never {F:EndsD} {rho:Rho} {n:Nat}:sNever F rho n ↔ False:=Iff.rfl
end
end L2
set_option maxRecDepth 100000
namespace L2
open PySem PySem.Spec PyProof.Rows
section
variable {K:PySem.W.Frag} {G G':Option Addr} {Z:Addr -> Prop} {H:Hp}
end
section
variable {A:AC} {X:Cx} {e:Expr} {es:List Expr} {t1:TAD} {t2:TSD} {pos p:Pos}
end
end L2
set_option maxRecDepth 100000
namespace L2
open PySem PySem.Spec PyProof.Rows
def hasK (ks:List Key) (k:Key):Bool:=ks.any fun j=>decide (j = k)
def putKs (ks:List Key) (k:Key):List Key:=if hasK ks k = true then ks else ks ++ [k]
def putG {α:Type} (ks:List Key) (xs:List α) (k:Key) (x:α):List α:=if hasK ks k = true then List.zipWith (fun j y=>if j = k then x else y) ks xs else xs ++ [x]
section
variable {K:PySem.W.Frag} {G:Option Addr} {Z:Addr -> Prop} {H:Hp}
end
def keyOf:D -> Option Key
 | .int i=>some (Sum.inl i)
 | .str x=>some (Sum.inr x)
 | _=>none
@[simp] theorem keyOf_int {i:Int}:keyOf (.int i) = some (Sum.inl i):=rfl
@[simp] theorem keyOf_str {i:Str}:keyOf (.str i) = some (Sum.inr i):=rfl
theorem keyOf_rep {K:PySem.W.Frag} {G:Option Addr} {Z:Addr -> Prop} {H:Hp} {d:D} {v:V} {k:Key} (h:Rep K G Z H d v) (e:keyOf d = some k):v = kV k:=by
 cases d with
 | int i=>cases e; exact h.int_inv
 | str i=>cases e; exact h.toS rfl
 | _=>simp [keyOf] at e
section
variable {A:AC} {X:Cx} {tg iter kx vx:Expr} {ifs:List Expr} {scope:Scope} {own M:List Str} {pos:Pos} {it:TID} {g:TGD} {tt:TBD} {tk tv:TD}
def dcompIn (own:Nat) (g:TGD) (tt:TBD) (tk tv:TD) (rho:Rho) (P:D -> Nat -> Prop) (items:List D) (n1:Nat):Prop:=items.length <= sizeLine /\ ∃ J:Nat -> List Key -> List D -> Nat -> Prop,J 0 [] [] n1 /\
 (∀ i d ks es n,items[i]? = some d -> J i ks es n -> g d (List.replicate own none ++ rho) fun rho'=>rho'.drop own = rho /\ tt rho' n fun c n2=>if c = true then tk rho' n2 fun dk n3=>tv rho' n3 fun dv n4=>∃ k,keyOf dk = some k /\ J (i + 1) (putKs ks k) (putG ks es k dv) n4 else J (i + 1) ks es n2) /\
 ∀ ks es n,J items.length ks es n -> P (.dct ks es) n
def dDComp (it:TID) (own:Nat) (g:TGD) (tt:TBD) (tk tv:TD):TD:=fun rho n P=>it rho n (dcompIn own g tt tk tv rho P)
@[simp] theorem q_dDComp {it own g tt tk tv rho n P}:dDComp it own g tt tk tv rho n P = it rho n (dcompIn own g tt tk tv rho P):=rfl
theorem AmO.newDct {os n rho sg H ds vs} {ks:List Key} {es:List D} {xs:List V} {p:Addr} (I:AmO A os n rho sg H ds vs) (r:Reps A.K A.G (Zof A os) H es xs) (hp:H p = none):AmO A os n rho sg (upd H p (.dK (kvsV ks xs))) (.dct ks es :: ds) (.ref p :: vs):=by
 have hf:∀ a u,H a = some u -> upd H p (.dK (kvsV ks xs)) a = some u:=fun a u e=>by
  rw [upd_ne fun z=>by rw [z,hp] at e; cases e]; exact e
 refine ⟨I.len,fun i d e=>?_,?_,I.nd,fun q hq=>?_,fun a e=>?_,I.gz,fun a u h e=>hf a u (I.fr a u h e),I.z0⟩
 ·obtain ⟨v, e1, e2⟩ := I.slot i d e
  exact ⟨v,e1,SlotR.mono (fun _ _ z=>z) (fun a u _ e=>hf a u e) (fun a xs m q=>⟨m,hf a _ q⟩) _ _ e2⟩
 ·refine .cons ?_ (Reps.mono (fun _ _ z => z) (fun a u _ e => hf a u e) _ _ I.pend)
  unfold Rep
  refine ⟨p,xs,rfl,⟨fun z=>?_,upd_same⟩,Reps.mono (fun _ _ z=>z) (fun a u _ e=>hf a u e) _ _ r⟩
  exact absurd hp (I.zH p z)
 ·obtain ⟨f1, f2, f3⟩ := I.fresh q hq
  refine ⟨f1,f2,?_⟩
  cases e:H q.2 with
  | none=>exact absurd e f3
  | some u=>rw [hf _ _ e]; simp
 ·obtain ⟨x, y, z, q, r⟩ := I.st a e
  exact ⟨x,y,z,hf _ _ q,r⟩
end
def atK:List Key -> List D -> Key -> Option D
 | k :: ks,d :: ds,x=>if k = x then some d else atK ks ds x
 | _,_,_=>none
theorem atK_val {K:PySem.W.Frag} {G:Option Addr} {Z:Addr -> Prop} {H:Hp}:∀ {ks:List Key} {ds:List D} {xs:List V} {x:Key},Reps K G Z H ds xs ->
  (∀ d,atK ks ds x = some d -> ∃ v,valV (kvsV ks xs) x = some v /\ Rep K G Z H d v) /\ (atK ks ds x = none -> valV (kvsV ks xs) x = none)
 | [],ds,xs,x,r=>⟨fun d h=>by simp [atK] at h,fun _=>rfl⟩
 | k :: ks,[],xs,x,r=>by rw [r.nil_inv]; exact ⟨fun d h=>by simp [atK] at h,fun _=>rfl⟩
 | k :: ks, e :: ds, xs, x, r => by
  obtain ⟨v,rs,rfl,q,t⟩:=r.split
  obtain ⟨i1,i2⟩:=atK_val (ks:=ks) (x:=x) t
  unfold atK
  by_cases c:k = x
  ·rw [if_pos c]
   exact ⟨fun d h=>by cases h; exact ⟨v,valV_pos (p:=(k,v)) c,q⟩,fun h=>by cases h⟩
  ·rw [if_neg c]
   have e2:valV (kvsV (k :: ks) (v :: rs)) x = valV (kvsV ks rs) x:=valV_neg (p:=(k,v)) c
   rw [e2]
   exact ⟨i1,i2⟩
section
variable {A:AC} {X:Cx} {a b:Expr} {ta tb:TD} {pos:Pos}
def rDx:R2:=fun x y H Q=>∃ a v,x = .ref a /\ DGet H a y (some v) /\ Q v H
def rdDx:RD2:=fun d1 d2 k=>∃ ks ds x d,d1 = .dct ks ds /\ keyOf d2 = some x /\ atK ks ds x = some d /\ k d
@[simp] theorem q_rdDxI {ks ds x k}:rdDx (.dct ks ds) (.int x) k ↔ ∃ d,atK ks ds (Sum.inl x) = some d /\ k d:=⟨fun ⟨_,_,_,d,e,e',h⟩=>by cases e; cases e'; exact ⟨d,h⟩,fun ⟨d,h⟩=>⟨_,_,_,d,rfl,rfl,h⟩⟩
theorem re_dx:OpRel A rDx rdDx:=by
 rintro os n rho sg H ds vs d1 d2 v1 v2 k Q I ⟨ks,es,x,d,rfl,hk,hx,q⟩ hQ
 obtain ⟨I1,r2⟩:=I.pop
 obtain ⟨I2,r1⟩:=I1.pop
 have e2:=keyOf_rep r2 hk
 subst e2
 unfold Rep at r1
 obtain ⟨a,xs,rfl,⟨hz,hH⟩,rs⟩:=r1
 obtain ⟨v,hv,rv⟩:=(atK_val rs).1 d hx
 exact ⟨a,v,rfl,by rw [<- hv]; exact DGet.k hH,hQ _ _ _ ⟨os,I2.push rv⟩ q⟩
theorem pd_dix (hu:X.A.units + 1 < cLine) (ha:PD A X a ta) (hb:PD A X b tb) (hs:NoSl b):PD A X (.Subscript a b pos) (dOp rdDx ta tb):=by
 with_unfolding_all
  exact (pe_dget hu ha hb hs).imp fun _ _ _=>tOp_of (r:=rDx) re_dx
def rDin (neg:Bool):R2:=fun y x H Q=>∃ a o,x = .ref a /\ DGet H a y o /\ Q (.bl (o.isSome != neg)) H
theorem op_dnotin (hu:X.A.units + 1 < cLine):OpR X (compareOp .NotIn) (rDin true):=by
 intro pins s σ H x y v u Q I rx ry h
 obtain ⟨a,o,rfl,g,q⟩:=h
 cases (show u = Value.ref a from ry)
 exact d_notIn hu I g rx fun s' I'=>⟨.bl (o.isSome != true),H,I',by simp; rfl,q⟩
def rdDin (neg:Bool):RD2:=fun d1 d2 k=>∃ ks ds x,d2 = .dct ks ds /\ keyOf d1 = some x /\ k (.bl ((atK ks ds x).isSome != neg))
@[simp] theorem q_rdDinI {neg ks ds x k}:rdDin neg (.int x) (.dct ks ds) k ↔ k (.bl ((atK ks ds (Sum.inl x)).isSome != neg)):=⟨fun ⟨_,_,_,e,e',h⟩=>by cases e; cases e'; exact h,fun h=>⟨_,_,_,rfl,rfl,h⟩⟩
theorem re_din {neg:Bool}:OpRel A (rDin neg) (rdDin neg):=by
 rintro os n rho sg H ds vs d1 d2 v1 v2 k Q I ⟨ks,es,x,rfl,hk,q⟩ hQ
 obtain ⟨I1,r2⟩:=I.pop
 obtain ⟨I2,r1⟩:=I1.pop
 have e2:=keyOf_rep r1 hk
 subst e2
 unfold Rep at r2
 obtain ⟨a,xs,rfl,⟨hz,hH⟩,rs⟩:=r2
 obtain ⟨g1,g2⟩:=atK_val (ks:=ks) (x:=x) rs
 refine ⟨a,valV (kvsV ks xs) x,rfl,DGet.k hH,?_⟩
 have e3:(valV (kvsV ks xs) x).isSome = (atK ks es x).isSome:=by
  cases e:atK ks es x with
  | none=>rw [g2 e]; rfl
  | some d=>obtain ⟨v,hv,_⟩:=g1 d e; rw [hv]; rfl
 rw [e3]
 exact hQ _ _ _ ⟨os,I2.push (Rep.ofS (d:=.bl _) rfl)⟩ q
def sPop (i:Nat) (g:TGD):TSD:=fun F rho n=>∃ es d,rho[i]? = some (some (.own (es ++ [d]))) /\ g d (rho.set i (some (.own es))) fun rho'=>F.nx rho' n
@[simp] theorem q_sPop {i g F rho n}:sPop i g F rho n = ∃ es d,rho[i]? = some (some (.own (es ++ [d]))) /\ g d (rho.set i (some (.own es))) fun rho'=>F.nx rho' n:=rfl
def sCont:TSD:=fun F rho n=>F.ct rho n
@[simp] theorem q_sCont {F rho n}:sCont F rho n = F.ct rho n:=rfl
theorem psd_cont:PSD A X (.Continue pos) sCont:=by
 with_unfolding_all
  exact ps_continue.imp fun E sg H h=>by
   obtain ⟨rho,n,F,ds,vs,I,ht,ok⟩:=h
   exact ok.ct _ _ _ _ I ht
def sOwnIf (i:Nat) (tc:TBD) (t u:TAD):TSD:=fun F rho n=>i < rho.length /\ tc rho n fun c n0=>if c = true then t rho n0 (fun es n1=>es.length <= sizeLine /\ F.nx (rho.set i (some (.own es))) n1) else u rho n0 fun es n1=>es.length <= sizeLine /\ F.nx (rho.set i (some (.own es))) n1
@[simp] theorem q_sOwnIf {i tc t u F rho n}:sOwnIf i tc t u F rho n = (i < rho.length /\ tc rho n fun c n0=>if c = true then t rho n0 (fun es n1=>es.length <= sizeLine /\ F.nx (rho.set i (some (.own es))) n1) else u rho n0 fun es n1=>es.length <= sizeLine /\ F.nx (rho.set i (some (.own es))) n1):=rfl
end
end L2
set_option maxRecDepth 100000
namespace L2
open PySem PySem.Spec PyProof.Rows
section
variable {X:Cx} {A:AC}
def isTL:D -> Bool
 | .tup _=>true
 | .lst _=>true
 | _=>false
def kIsi2:List D -> (D -> Prop) -> Prop:=fun es k=>∃ d,es = [d,.tup [.ty "tuple",.ty "list"]] /\ isiOk d = true /\ k (.bl (isTL d))
@[simp] theorem q_kIsi2 {d k}:kIsi2 [d,.tup [.ty "tuple",.ty "list"]] k ↔ (isiOk d = true /\ k (.bl (isTL d))):=⟨fun ⟨_,e,h⟩=>by cases e; exact h,fun h=>⟨_,rfl,h⟩⟩
end
end L2
set_option maxRecDepth 100000
namespace L2
open PySem PySem.Spec PyProof.Rows
section
variable {A:AC} {X:Cx} {a b c:Expr} {ta tb tc:TD} {pos:Pos}
end
end L2
set_option maxRecDepth 100000
namespace L2
open PySem PySem.Spec PyProof.Rows
def noOwns (rho:Rho):Bool:=rho.all fun o=>match o with
 | some d=>notOwn d
 | none=>true
def sParO (i j:Nat) (tb:TD):TSD:=fun F rho n=>i < rho.length /\ j < rho.length /\ noOwns rho = true /\ tb rho n fun d n1=>F.nx ((rho.set i (some (.own []))).set j (some d)) n1
@[simp] theorem q_sParO {i j tb F rho n}:sParO i j tb F rho n = (i < rho.length /\ j < rho.length /\ noOwns rho = true /\ tb rho n fun d n1=>F.nx ((rho.set i (some (.own []))).set j (some d)) n1):=rfl
section
variable {A:AC} {X:Cx} {b:Expr} {tb:TD} {pos:Pos}
end
end L2
set_option maxRecDepth 100000
namespace L2
open PySem PySem.Spec PyProof.Rows PySem.SeqAt
section
variable {A:AC} {X:Cx} {a b c e:Expr} {ta tb tc te:TD} {pos:Pos}
def rdTeq:RD2:=fun d1 d2 k=>tupAt d1 fun es=>d2 = .tup [] /\ k (.bl es.isEmpty)
@[simp] theorem q_rdTeq {d1 d2 k}:rdTeq d1 d2 k = tupAt d1 fun es=>d2 = .tup [] /\ k (.bl es.isEmpty):=rfl
def rdRepL:RD2:=fun d1 d2 k=>∃ es i,d1 = .lst es /\ d2 = .int i /\ 0 <= i /\ i < 1000 /\ es.length * i.toNat <= sizeLine /\ k (.lst (List.replicate i.toNat es).flatten)
@[simp] theorem q_rdRepL {es i k}:rdRepL (.lst es) (.int i) k ↔ (0 <= i /\ i < 1000 /\ es.length * i.toNat <= sizeLine /\ k (.lst (List.replicate i.toNat es).flatten)):=⟨fun ⟨_,_,e,e',h⟩=>by cases e; cases e'; exact h,fun h=>⟨_,_,rfl,rfl,h⟩⟩
def seqL (es:List D) (k:List D -> Prop):Prop:=∃ fs,(es = [.lst fs] \/ es = [.tup fs]) /\ k fs
@[simp] theorem q_seqL1 {fs:List D} {k}:seqL [.lst fs] k ↔ k fs:=⟨fun ⟨_,e,h⟩=>by rcases e with e | e <;> cases e; exact h,fun h=>⟨_,.inl rfl,h⟩⟩
@[simp] theorem q_seqL2 {fs:List D} {k}:seqL [.tup fs] k ↔ k fs:=⟨fun ⟨_,e,h⟩=>by rcases e with e | e <;> cases e; exact h,fun h=>⟨_,.inr rfl,h⟩⟩
def sListO (i:Nat) (t:TAD):TSD:=fun F rho n=>i < rho.length /\ t rho n fun es n1=>seqL es fun fs=>F.nx (rho.set i (some (.own fs))) n1
@[simp] theorem q_sListO {i t F rho n}:sListO i t F rho n = (i < rho.length /\ t rho n fun es n1=>seqL es fun fs=>F.nx (rho.set i (some (.own fs))) n1):=rfl
end
end L2
set_option maxRecDepth 100000
namespace L2
open PySem PySem.Spec PyProof.Rows PySem.SeqAt
mutual
def toPyA:D -> PyData
 | .bl b=>.bool b
 | .int i=>.int i
 | .str x=>.str x
 | .tup ds=>.tuple (toPyAs ds)
 | .lst ds=>.list (toPyAs ds)
 | _=>.none
def toPyAs:List D -> List PyData
 | []=>[]
 | d :: ds=>toPyA d :: toPyAs ds
end
mutual
def okR:D -> Nat -> Bool
 | .non,_=>true
 | .bl _,_=>true
 | .int i,_=>decide (i.natAbs.log2 < 1920)
 | .str x,_=>decide ((reprText x).length <= 2000)
 | .tup ds,k=>match k with
  | 0=>false
  | k + 1=>okRs ds k
 | .lst ds,k=>match k with
  | 0=>false
  | k + 1=>okRs ds k
 | _,_=>false
def okRs:List D -> Nat -> Bool
 | [],_=>true
 | d :: ds,k=>okR d k && okRs ds k
end
mutual
def nodR:D -> Nat
 | .tup ds=>nodRs ds + 1
 | .lst ds=>nodRs ds + 1
 | _=>1
def nodRs:List D -> Nat
 | []=>0
 | d :: ds=>nodR d + nodRs ds
end
def showA (d:D):Str:=(toPyA d).shown
section
variable {X:Cx} {pins:List (Addr × Obj)} {σ:St} {H:Hp} {s:Shared} {G:Option Addr} {Z:Addr -> Prop}
end
def kRepr:List D -> (D -> Prop) -> Prop:=fun es k=>∃ d,es = [d] /\ isTL d = true /\ okR d 15 = true /\ nodR d <= 8000 /\ k (.str (showA d))
@[simp] theorem q_kRepr {d k}:kRepr [d] k ↔ (isTL d = true /\ okR d 15 = true /\ nodR d <= 8000 /\ k (.str (showA d))):=⟨fun ⟨_,e,h⟩=>by cases e; exact h,fun h=>⟨_,rfl,h⟩⟩
end L2
set_option maxRecDepth 100000
namespace L2
open PySem PySem.Spec PyProof.Rows
def setAt (es:List D) (e d:D) (k:List D -> Prop):Prop:=∃ j m,e = .int j /\ ixN es.length j = some m /\ k (es.set m d)
def sOwnSet2 (i:Nat) (ta:TAD) (tb1 tb2:TD):TSD:=fun F rho n=>ownAt rho[i]? fun es=>ta rho n fun cs n1=>pair2 cs fun d1 d2=>tb1 rho n1 fun e1 n2=>setAt es e1 d1 fun es1 =>
 tb2 (rho.set i (some (.own es1))) n2 fun e2 n3=>setAt es1 e2 d2 fun es2=>F.nx (rho.set i (some (.own es2))) n3
@[simp] theorem q_sOwnSet2 {i ta tb1 tb2 F rho n}:sOwnSet2 i ta tb1 tb2 F rho n = ownAt rho[i]? fun es=>ta rho n fun cs n1=>pair2 cs fun d1 d2=>tb1 rho n1 fun e1 n2=>setAt es e1 d1 fun es1 =>
 tb2 (rho.set i (some (.own es1))) n2 fun e2 n3=>setAt es1 e2 d2 fun es2=>F.nx (rho.set i (some (.own es2))) n3:=rfl
section
variable {A:AC} {X:Cx} {a1 a2 b1 b2:Expr} {ta:TAD} {tb1 tb2:TD} {pos:Pos}
end
end L2
set_option maxRecDepth 100000
namespace PySem
open Sem (wp)
namespace F
end F
section
variable {prog:Program} {w:World} {K:Type} [DecidableEq K] {knd:KeyKind prog w K} {A:Around} {R:Result -> Shared -> Prop}
end
end PySem
set_option maxRecDepth 100000
namespace PySem
open Sem (wp)
section
variable {prog:Program} {w:World} {K:Type} [DecidableEq K] {knd:KeyKind prog w K} {A:Around} {E:Value -> Shared -> Prop} {s:Shared}
end
end PySem
set_option maxRecDepth 100000
namespace L2
open PySem PySem.Spec PyProof.Rows
section
variable {X:Cx} {A:AC}
end
end L2
set_option maxRecDepth 100000
namespace L2
open PySem PySem.Spec PyProof.Rows PySem.SeqAt
section
variable {A:AC} {X:Cx}
def tupsAt (d:D) (k:List (List D) -> Prop):Prop:=∃ ess:List (List D),d = .tup (ess.map D.tup) /\ k ess
def rdInE:RD2:=fun d1 d2 k=>d1 = .tup [] /\ tupsAt d2 fun ess=>k (.bl (ess.any List.isEmpty))
@[simp] theorem q_rdInE2 {a b k} : rdInE (.tup []) (.tup [.tup a, .tup b]) k ↔ k (.bl (a.isEmpty || b.isEmpty)) := by
 constructor
 ·rintro ⟨_, ess, e, h⟩
  have:ess = [a,b]:=by
   have e':=D.tup.inj e
   match ess,e' with
   | [x,y],e'=>simp at e'; rw [e'.1,e'.2]
   | [],e'=>simp at e'
   | [x],e'=>simp at e'
   | x :: y :: z :: r,e'=>simp at e'
  subst this
  simpa using h
 ·intro h
  exact ⟨rfl,[a,b],rfl,by simpa using h⟩
end
end L2
set_option maxRecDepth 100000
namespace L2
open PySem PySem.Spec PyProof.Rows PySem.SeqAt
mutual
def okN:D -> Nat -> Bool
 | .non,_=>true
 | .int i,_=>decide (i.natAbs.log2 < 20)
 | .tup ds,k=>match k with
  | 0=>false
  | k + 1=>okNs ds k
 | _,_=>false
def okNs:List D -> Nat -> Bool
 | [],_=>true
 | d :: ds,k=>okN d k && okNs ds k
end
def kStrN:List D -> (D -> Prop) -> Prop:=fun es k=>∃ ds,es = [.tup ds] /\ okN (.tup ds) 20 = true /\ nodR (.tup ds) <= 400000 /\ k (.str (showA (.tup ds)))
@[simp] theorem q_kStrN {ds k}:kStrN [.tup ds] k ↔ (okN (.tup ds) 20 = true /\ nodR (.tup ds) <= 400000 /\ k (.str (showA (.tup ds)))):=⟨fun ⟨_,e,h⟩=>by cases e; exact h,fun h=>⟨_,rfl,h⟩⟩
end L2
set_option maxRecDepth 100000
namespace L2
open PySem PySem.Spec PyProof.Rows
section
variable {A:AC}
def kBool:List D -> (D -> Prop) -> Prop:=fun es k=>∃ i:Int,es = [.int i] /\ k (.bl (i != 0))
@[simp] theorem q_kBool {i:Int} {k}:kBool [.int i] k ↔ k (.bl (i != 0)):=⟨fun ⟨_,e,h⟩=>by cases e; exact h,fun h=>⟨_,rfl,h⟩⟩
end
end L2
set_option maxRecDepth 100000
namespace L2
open PySem PySem.Spec PyProof.Rows
section
variable {A:AC} {X:Cx} {pos:Pos} {m:Nat}
def gdLst (k:Nat) (gs:TGsD):TGD:=fun d rho P=>∃ es,d = .lst es /\ es.length = k /\ gs es rho P
@[simp] theorem q_gdLst {k gs es rho P}:gdLst k gs (.lst es) rho P ↔ (es.length = k /\ gs es rho P):=⟨fun ⟨_,e,h⟩=>by cases e; exact h,fun h=>⟨_,rfl,h⟩⟩
end
end L2
set_option maxRecDepth 100000
namespace L2
open PySem PySem.Spec PyProof.Rows
section
variable {A:AC} {X:Cx}
def showN:D -> Str
 | .non => "None"
 | d=>showA d
def okRN (d:D):Prop:=d = .non \/ (isTL d = true /\ okR d 20 = true /\ nodR d <= 8000)
def kReprN:List D -> (D -> Prop) -> Prop:=fun es k=>∃ d,es = [d] /\ okRN d /\ k (.str (showN d))
@[simp] theorem q_kReprN {d k}:kReprN [d] k ↔ (okRN d /\ k (.str (showN d))):=⟨fun ⟨_,e,h⟩=>by cases e; exact h,fun h=>⟨_,rfl,h⟩⟩
end
theorem lo {sc:Scope} {x:Str} (h:(match sc.names.lookup x with | some .local=>true | some .cell=>true | _=>false) = true):Loc sc x:=by
 unfold Loc
 split at h
 ·exact .inl (by assumption)
 ·exact .inr (by assumption)
 ·cases h
end L2
set_option maxRecDepth 100000
namespace L2
open PySem PySem.Spec PyProof.Rows PySem.SeqAt
section
variable {A:AC} {X:Cx}
def rdNoneIn:RD2:=fun d1 d2 k=>d1 = .non /\ ∃ ess:List (List D),d2 = .lst (ess.map D.lst) /\ k (.bl false)
@[simp] theorem q_noneIn {a b k}:rdNoneIn .non (.lst [.lst a,.lst b]) k ↔ k (.bl false):=⟨fun ⟨_,_,_,h⟩=>h,fun h=>⟨rfl,[a,b],rfl,h⟩⟩
def kLenD:List D -> (D -> Prop) -> Prop:=fun es k=>∃ ks ds,es = [.dct ks ds] /\ ks.length = ds.length /\ k (.int (ks.length:Int))
@[simp] theorem q_kLenD {ks ds k}:kLenD [.dct ks ds] k ↔ (ks.length = ds.length /\ k (.int (ks.length:Int))):=⟨fun ⟨_,_,e,h⟩=>by cases e; exact h,fun h=>⟨_,_,rfl,h⟩⟩
end
end L2
set_option maxRecDepth 100000
namespace L2
open PySem PySem.Spec PyProof.Rows PySem.SeqAt
section
variable {A:AC} {X:Cx}
def dBits (te:TD):TD:=fun rho n P=>te rho n fun d n1=>∃ x:Int,d = .int x /\ P (.int ((Builtin.Int.intBits x:Nat):Int)) n1
@[simp] theorem q_dBits {te:TD} {rho:Rho} {n:Nat} {P:D -> Nat -> Prop}:dBits te rho n P = te rho n fun d n1=>∃ x:Int,d = .int x /\ P (.int ((Builtin.Int.intBits x:Nat):Int)) n1:=rfl
end
end L2
set_option maxRecDepth 100000
namespace L2
open PySem PySem.Spec PyProof.Rows PySem.SeqAt
section
variable {A:AC} {X:Cx}
def kListR:List D -> (D -> Prop) -> Prop:=fun es k=>∃ j:Int,es = [.int j] /\ 0 <= j /\ j <= 1000 /\ k (.lst ((List.range j.toNat).map fun i:Nat=>D.int (i:Int)))
@[simp] theorem q_kListR {j:Int} {k:D -> Prop}:kListR [.int j] k ↔ (0 <= j /\ j <= 1000 /\ k (.lst ((List.range j.toNat).map fun i:Nat=>D.int (i:Int)))):=⟨fun ⟨_,e,h⟩=>by cases e; exact h,fun h=>⟨_,rfl,h⟩⟩
end
end L2
set_option maxRecDepth 100000
namespace L2
open PySem PySem.Spec PyProof.Rows
abbrev TFX:=List D -> Nat -> (D -> Nat -> Prop) -> (Nat -> Prop) -> Prop
def spX (K:PySem.W.Frag) (C:Addr) (k:Nat) (t:TFX):Sp:=fun vs H Q E=>∃ (G:Option Addr) (Z:Addr -> Prop) (n:Nat) (P:D -> Nat -> Prop) (R:Nat -> Prop) (ds:List D),ds.length = k /\ Reps K G Z H ds vs /\ StOk G n H /\ (∀ a,G = some a -> Z a) /\ (∀ a,Z a -> H a ≠ none) /\ t ds n P R /\
 (∀ v H' n' d,(∀ a o,G ≠ some a -> H a = some o -> H' a = some o) -> StOk G n' H' -> Rep K G Z H' d v -> P d n' -> Q v H') /\ ∀ H' n',(∀ a o,G ≠ some a -> H a = some o -> H' a = some o) -> StOk G n' H' -> R n' -> E (.ref C) none H'
def XD (A:AC) (C:Addr) (R:Nat -> Prop):XK:=fun cls _ H'=>cls = .ref C /\ ∃ n',(∀ a o,A.G ≠ some a -> A.H0 a = some o -> H' a = some o) /\ StOk A.G n' H' /\ R n'
structure FnX (P:Program) (w:World) (K:PySem.W.Frag) (mg:Str -> Option Value) (base:Heap) (x:Str) (kk k:Nat) (C:Addr) (t:TFX):Prop where
 ex:∃ (f:Addr) (fd:FuncData) (ps:List Str),FnOk P w K mg base (CX1 P w) kk f fd ps (spX K C k t) /\ mg x = some (.ref f) /\ PySem.W.keepIn K (.ref f) = true /\ Binds K fd ps []
section
variable {P:Program} {w:World} {K:PySem.W.Frag} {mg:Str -> Option Value} {base:Heap}
theorem Fun.okX {x qual:Str} {st:Stmt} {f:Addr} {fd:FuncData} {N ps:List Str} {k:Nat} {C:Addr} {t:TFX} {tb:(Nat -> Prop) -> TSD} (F:Fun K x qual st f fd) (S:FnScope N ps (defScope st))
  (body : ∀ (cdv : Value) (A0 : Around) (outer : List Env) (s : Shared) (H : Hp) (E : XK) (G : Option Addr) (Z : Addr -> Prop) (R : Nat -> Prop), Room k (A0.deeper (envOfC qual (defScope st) s.heap.objs.size f cdv)) ->
   (∀ H',XD ⟨K,G,Z,H⟩ C R (.ref C) none H' -> E (.ref C) none H') ->
   PSsD ⟨K,G,Z,H⟩ (cxOf (CX1 P w) P w K mg base N qual (defScope st) f cdv A0 outer s H E) (defBody st) (tb R))
  (spec:∀ ds n Q R,ds.length = ps.length -> t ds n Q R -> tb R { nx:=fun _ n=>Q .non n,rt:=Q } (startD N ds) n):FnOk P w K mg base (CX1 P w) (k + 1) f fd ps (spX K C ps.length t):=by
 with_unfolding_all
  exact (by
   obtain ⟨oc,od,kV,doc,pm,an,cdv,ct,osl,rfl,lk,hcd⟩:=F.ex
   refine fn_of lk hcd S (fun vs H Q E h=>?_) (fun A0 outer s H vs Q E hr h=>?_)
   ·obtain ⟨G, Z, n, R, R', ds, hl, rs, _⟩ := h
    rw [rs.length]; exact hl
   ·obtain ⟨G, Z, n, R, R', ds, hl, rs, hst, gz, z0, ht, hQ, hE⟩ := h
    refine ⟨_,body cdv A0 outer s H E G Z R' hr (fun H' ⟨_,n',h1,h2,h3⟩=>hE H' n' h1 h2 h3),startD N ds,n,_,[],[],⟨[],amo_start rs hst gz z0⟩,spec ds n R R' hl ht,?_⟩
    have zz:∀ (os:List (Nat × Addr)) a,Z a -> Zof ⟨K,G,Z,H⟩ os a:=fun os a z=>.inl z
    refine ⟨fun rho' n' sg' H' ⟨os,I⟩ q=>?_,fun d n' v rho' sg' H' ⟨os,I⟩ q=>?_,fun _ _ _ _ _ q=>q.elim,fun _ _ _ _ _ q=>q.elim⟩
    ·exact hQ .non H' n' .non I.fr I.st (Rep.ofS rfl) q
    ·exact hQ v H' n' d I.fr I.st (Rep.mono (fun a _ z=>zz os a z) (fun _ _ _ e=>e) _ _ I.pop.2) q)
end
structure ClsX (K:PySem.W.Frag) (mg:Str -> Option Value) (x:Str) (C:Addr):Prop where
 mg:mg x = some (.ref C)
 ec:ExcC K C
 ex:PySem.W.excIn K C veMro "ValueError.__new__" = true
def XOk (A:AC) (X:Cx) (C:Addr) (R:Nat -> Prop):Prop:=∀ (pins:List (Addr × Obj)) (σ:St) (H:Hp) (s:Shared) (h':Heap) (a:Addr) (vs:List Value),Inv X pins σ H s -> s.heap.MadeExcOf h' a (.ref C) vs -> XD A C R (.ref C) none H -> X.xe (.ref a) { s with heap:=h' }
theorem xok {P:Program} {w:World} {K:PySem.W.Frag} {mg:Str -> Option Value} {base:Heap} {N:List Str} {qual:Str} {scope:Scope} {f:Addr} {cd:Value} {A0:Around} {outer:List Env} {s:Shared} {H:Hp} {E:XK} {G:Option Addr} {Z:Addr -> Prop} {C:Addr} {R:Nat -> Prop}
  (hE:∀ H',XD ⟨K,G,Z,H⟩ C R (.ref C) none H' -> E (.ref C) none H'):XOk ⟨K,G,Z,H⟩ (cxOf (CX1 P w) P w K mg base N qual scope f cd A0 outer s H E) C R:=fun pins σ H1 s1 h' a vs I m q=>xe_new I m (hE H1 q)
section
variable {A:AC} {X:Cx} {C:Addr} {R:Nat -> Prop}
def sRaise (R:Nat -> Prop):TSD:=fun _ _ n=>R n
theorem psd_raise {x m:Str} {j:Nat} {np cp cpos pos:Pos} (c:ClsX X.K X.mg x C) (hx:XOk A X C R) (hc:X.calm = true:=by rfl) (hg:Gl X x:=by rfl) (hdb:(x == ("__debug__" : Str)) = false:=by decide) :
  PSD A X (.Raise (some (.Call (.Name x np) [.Constant (.str m) j cp] [] cpos)) none pos) (sRaise R):=by
 with_unfolding_all
  exact (ps_raise (RX:=fun H=>XD A C R (.ref C) none H) hc hg c.mg c.ex (pa_cons pe_str pa_nil) hx hdb).imp fun E sg H h=>by
   obtain ⟨rho,n,F,ds,vs,⟨os,I⟩,ht,ok⟩:=h
   exact ⟨(by decide:1 <= sizeLine),rfl,n,I.fr,I.st,ht⟩
theorem AmO.unset {os:List (Nat × Addr)} {n:Nat} {rho:Rho} {sg:St} {H:Hp} {ds:List D} {vs:List V} (I:AmO A os n rho sg H ds vs) (i:Nat):AmO A os n (rho.set i none) (sg.set i none) H ds vs:=by
 refine ⟨by simp [I.len],fun j c e=>?_,I.pend,I.nd,I.fresh,I.st,I.gz,I.fr,I.z0⟩
 by_cases hj:j = i
 ·subst hj
  rw [List.getElem?_set] at e
  simp at e
 ·rw [List.getElem?_set_ne (Ne.symm hj)] at e
  obtain ⟨v,e1,e2⟩:=I.slot j c e
  exact ⟨v,by rw [List.getElem?_set_ne (Ne.symm hj)]; exact e1,e2⟩
theorem AmO.newExc {os:List (Nat × Addr)} {n:Nat} {rho:Rho} {sg:St} {H:Hp} {ds:List D} {vs:List V} {p:Addr} (I:AmO A os n rho sg H ds vs) (hp:H p = none):AmO A os n rho sg (upd H p (.exc p C)) (.exc C :: ds) (.ref p :: vs):=by
 have g:=I.grow (o:=.exc p C) hp
 refine g.push ?_
 unfold Rep
 exact ⟨p,rfl,fun z=>I.zH p z hp,upd_same⟩
end
end L2
set_option maxRecDepth 100000
namespace L2
open PySem PySem.Spec PyProof.Rows
def clsV:V -> Value
 | .ref a=>.ref a
 | .ty n=>.type n
 | _=>.none
def isCls:V -> Bool
 | .ref _=>true
 | .ty _=>true
 | _=>false
theorem clsV_rel:∀ {v:V} {u:Value},isCls v = true -> RelV v u -> u = clsV v
 | .ref a,u,_,r=>r
 | .ty n,u,_,r=>r
 | .non,_,h,_=>by cases h
 | .bl _,_,h,_=>by cases h
 | .int _,_,h,_=>by cases h
 | .str _,_,h,_=>by cases h
 | .byt _,_,h,_=>by cases h
 | .flt _,_,h,_=>by cases h
theorem clsV_vals {vs:List V} {us:List Value} (h:vs.all isCls = true) (r:Vals vs us):us = vs.map clsV:=by
 induction r with
 | nil=>rfl
 | cons r1 _ ih =>
  rw [List.all_cons,Bool.and_eq_true] at h
  rw [List.map_cons,clsV_rel h.1 r1,ih h.2]
def rIsiX (K:PySem.W.Frag) (C:Addr) (b:Bool):List V -> Hp -> VK -> Prop:=fun vs H Q=>∃ a y,vs = [.ref a,y] /\ H a = some (.exc a C) /\ Q (.bl b) H /\
 ((isCls y = true /\ PySem.W.kitOne K (.ref C) (clsV y) = some b) \/ ∃ tp ys,y = .ref tp /\ H tp = some (.tup ys) /\ ys.all isCls = true /\ PySem.W.kitAny K (.ref C) (ys.map clsV) = some b)
section
variable {A:AC} {X:Cx} {C:Addr} {b:Bool}
theorem call_isiX (c:ExcC X.K C):CallR X (.builtin "isinstance") (rIsiX X.K C b):=by
 intro pins s σ H vs us Q I r h
 obtain ⟨a,y,rfl,ha,q,hy⟩:=h
 cases r with
 | cons r1 rr =>
  cases rr with
  | cons r2 rn =>
   cases rn
   rename_i u1 u2
   obtain rfl:u1 = Value.ref a:=r1
   have hx:ExcAt s.heap a C:=(I.hok a _ ha).1
   have kx:PySem.W.KitX X.K (.ref a) (.ref C) fun h=>ExcAt h a C:=kitx_exc c
   rcases hy with ⟨h1,h2⟩ | ⟨tp,ys,rfl,h1,h2,h3⟩
   ·rw [clsV_rel h1 r2]
    exact PySem.W.kia_one kx I.kIn hx h2 (by intro z; cases z) fun tk=>⟨.bl b,H,I.tok tk,rfl,q⟩
   ·obtain rfl : u2 = Value.ref tp := r2
    obtain ⟨_,its,rv,o,ho,hcls,n,hd⟩:=I.hok tp _ h1
    obtain ⟨oc,od,odd,osl⟩:=o
    simp only at hcls hd
    subst hcls hd
    rw [clsV_vals h2 rv] at ho
    exact PySem.W.kia_tup kx I.kIn hx ho h3 (by intro z; cases z) fun tk=>⟨.bl b,H,I.tok tk,rfl,q⟩
theorem pe_gl {x:Str} {C':Addr} {p:Pos} (hm:X.mg x = some (.ref C')) (hg:Gl X x:=by rfl) (hd:(x == ("__debug__" : Str)) = false:=by decide):PE X (.Name x p) (tC (.ref C')):=fun pins s σ H Q I h=>ld_glob I hg hm ⟨.ref C',H,I,rfl,h⟩ hd
def dIsiX (C:Addr) (b:Bool) (te:TD):TD:=fun rho n P=>te rho n fun d n1=>d = .exc C /\ P (.bl b) n1
theorem isiX_imp {te:TD} {y:V} (hk:isCls y = true /\ PySem.W.kitOne X.K (.ref C) (clsV y) = some b) {sg:St} {H:Hp} {Q:VK} (h:tOf A (dIsiX C b te) sg H Q):tCB (rIsiX X.K C b) (tCons (tOf A te) (tCons (tC y) tNil)) sg H Q:=by
 obtain ⟨rho,n,P,ds,vs,I,ht,hQ⟩:=h
 refine ⟨rho,n,_,ds,vs,I,ht,fun v H' n' d ⟨os,J⟩ k=>?_⟩
 obtain ⟨rfl,k⟩:=k
 obtain ⟨J1,r⟩:=J.pop
 unfold Rep at r
 obtain ⟨a,rfl,_,ha⟩:=r
 exact ⟨a,y,rfl,ha,hQ _ H' n' _ ⟨os,J1.push (Rep.ofS (d:=.bl b) rfl)⟩ k,.inl hk⟩
theorem pd_isiC {e:Expr} {te:TD} {cn:Str} {C':Addr} {p p2 pos:Pos} (c:ExcC X.K C) (he:PD A X e te) (hm:X.mg cn = some (.ref C')) (hk:PySem.W.kitOne X.K (.ref C) (.ref C') = some b) (hi:X.mg "isinstance" = none) (hg:Gl X "isinstance" := by rfl) (hgc:Gl X cn:=by rfl)
  (hd:(cn == ("__debug__" : Str)) = false:=by decide) (hst:starEach [e,.Name cn p2] X.env = (false,eval e X.env) :: starEach [.Name cn p2] X.env:=by rfl) (hpl:(backTo pos (starEach [.Name cn p2] X.env)).any (·.1) = false:=by rfl):PD A X (.Call (.Name "isinstance" p) [e,.Name cn p2] [] pos) (dIsiX C b te):=by
 with_unfolding_all
  exact (pe_callB (call_isiX (b:=b) c) hg hi bt_isi (pa_cons he (pa_cons (pe_gl hm hgc hd) pa_nil) hst) (by decide) (by decide) hst hpl).imp fun sg H Q h=>isiX_imp ⟨rfl,hk⟩ h
theorem pd_isiB {e:Expr} {te:TD} {cn:Str} {T:String} {p p2 pos:Pos} (c:ExcC X.K C) (he:PD A X e te) (hm:X.mg cn = none) (hv:bootBuiltins cn = some (.type T)) (hk:PySem.W.kitOne X.K (.ref C) (.type T) = some b) (hi:X.mg "isinstance" = none) (hn:cn ≠ "__name__" := by decide) (hg:Gl X "isinstance" := by rfl) (hgc:Gl X cn:=by rfl)
  (hd:(cn == ("__debug__" : Str)) = false:=by decide) (hst:starEach [e,.Name cn p2] X.env = (false,eval e X.env) :: starEach [.Name cn p2] X.env:=by rfl) (hpl:(backTo pos (starEach [.Name cn p2] X.env)).any (·.1) = false:=by rfl):PD A X (.Call (.Name "isinstance" p) [e,.Name cn p2] [] pos) (dIsiX C b te):=by
 with_unfolding_all
  exact (pe_callB (call_isiX (b:=b) c) hg hi bt_isi (pa_cons he (pa_cons (pe_bltn hgc hm hv (v:=.ty T) rfl hn hd) pa_nil) hst) (by decide) (by decide) hst hpl).imp fun sg H Q h=>isiX_imp ⟨rfl,hk⟩ h
def tCs (ys:List V):TA:=fun _ H Q=>Q ys H
theorem pd_isiT {e c0:Expr} {cs:List Expr} {te:TD} {ys:List V} {x1} {p p2 pos:Pos} (c:ExcC X.K C) (he:PD A X e te) (hc:PA X (c0 :: cs) (tCs ys)) (hz:ys.length <= sizeLine) (hy:ys.all isCls = true) (hk:PySem.W.kitAny X.K (.ref C) (ys.map clsV) = some b) (hi:X.mg "isinstance" = none) (hg:Gl X "isinstance" := by rfl)
  (hst:starEach [e,.Tuple (c0 :: cs) x1 p2] X.env = (false,eval e X.env) :: starEach [.Tuple (c0 :: cs) x1 p2] X.env:=by rfl) (hs2:starEach [.Tuple (c0 :: cs) x1 p2] X.env = (false,eval (.Tuple (c0 :: cs) x1 p2) X.env) :: starEach [] X.env:=by rfl) (hpl:(backTo pos (starEach [.Tuple (c0 :: cs) x1 p2] X.env)).any (·.1) = false:=by rfl) :
  PD A X (.Call (.Name "isinstance" p) [e,.Tuple (c0 :: cs) x1 p2] [] pos) (dIsiX C b te):=by
 with_unfolding_all
  exact (pe_callB (call_isiX (b:=b) c) hg hi bt_isi (pa_cons he (pa_cons (pe_tup hc) pa_nil hs2) hst) (by decide) (by decide) hst hpl).imp fun sg H Q h=>by
   obtain ⟨rho,n,P,ds,vs,I,ht,hQ⟩:=h
   refine ⟨rho,n,_,ds,vs,I,ht,fun v H' n' d ⟨os,J⟩ k=>⟨hz,fun tp htp=>?_⟩⟩
   obtain ⟨rfl,k⟩:=k
   obtain ⟨J1,r⟩:=J.pop
   unfold Rep at r
   obtain ⟨a,rfl,_,ha⟩:=r
   exact ⟨a,_,rfl,by rw [upd_ne (ne_of_none ha htp)]; exact ha,hQ _ _ n' _ ⟨os,(J1.grow (o:=.tup ys) htp).push (Rep.ofS (d:=.bl b) rfl)⟩ k,.inr ⟨tp,ys,rfl,upd_same,hy,hk⟩⟩
end
theorem bt_valueError:bootBuiltins "ValueError" = some (.type "ValueError"):=by decide +kernel
end L2
set_option maxRecDepth 100000
namespace L2
open PySem PySem.Spec PyProof.Rows
def Its (x:Str):It:=⟨fun i _=>i < x.cps.size,fun i H v H'=>H' = H /\ ∃ c,x.cps[i]? = some c /\ v = .str ⟨#[c]⟩,fun i _=>x.cps.size <= i⟩
theorem walks_str {P:Program} {w:World} {A:Around} (hA:A.handled = none) (it:Addr) (x:Str) (t:Tok):Walks P w A it [it] [it] x.cps.size (SignAt x) fun i h=>h.IsStrIter it (strIterType x) x t i:=by
 unfold strIterType
 split
 ·exact Walks.strAscii hA it x t
 ·exact Walks.strWide hA it x t
theorem strIter_no {x:Str}:["enumerate", "zip", "dict_itemiterator", "dict_reverseitemiterator", "odict_iterator", "itertools.zip_longest", "itertools.pairwise"].contains (strIterType x) = false:=by
 unfold strIterType
 split <;> decide
theorem turn_str {P:Program} {w:World} {K:PySem.W.Frag} {tg:Expr} (it:Addr) (x:Str) (t:Tok):Turn P w K tg (Its x) [it] it (fun i h=>i <= x.cps.size /\ h.IsStrIter it (strIterType x) x t i) where
 mem:=by simp
 obj:=fun i h st b hb=>by
  have e:b = it:=by simpa using hb
  subst e
  obtain ⟨_,o,e,c,d⟩:=st
  exact ⟨o,e,fun v z=>by rw [d] at z; cases z⟩
 keep:=fun i h h' st k=>by
  obtain ⟨hi,o,e,r⟩:=st
  exact ⟨hi,o,k it (by simp) o e,r⟩
 item:=by
  intro X hP hw hK hc i pins s σ H E I hf st hg
  subst hP hw hK
  obtain ⟨f0,f1,f2,f3,f4,f5⟩:=hf it (by simp)
  refine (walks_str (P:=X.prog) (w:=X.w) (I.ok.hd hc) it x t).item i s _ _ hg st.2 fun v h' tk hv st' kk=>?_
  obtain ⟨c,u,hcu,rfl⟩:=hv
  have I1:Inv X pins σ H { s with heap:=h',toks:=tk }:=I.turned (fun b o hb e=>kk b o (by simpa using hb) e) f0 f1 f3 f4 f5
  obtain ⟨o,e,cl,d⟩:=id st'
  exact ⟨_,rfl,go_of (s:={ s with heap:=h',toks:=tk }) e cl d strIter_no ⟨.str ⟨#[c]⟩,H,I1,⟨u,rfl⟩,⟨rfl,c,hcu,rfl⟩,⟨hg,st'⟩,fun b hb=>(hf b hb).1⟩⟩
 done:=by
  intro X hP hw hK hc i pins s σ H E I hf st hg
  subst hP hw hK
  obtain ⟨f0,f1,f2,f3,f4,f5⟩:=hf it (by simp)
  have hg':i = x.cps.size:=Nat.le_antisymm st.1 hg
  subst hg'
  refine (walks_str (P:=X.prog) (w:=X.w) (I.ok.hd hc) it x t).done s _ _ st.2 fun h' tk kk=>⟨rfl,I.turned (fun b o hb e=>kk b o (by simpa using hb) e) f0 f1 f3 f4 f5⟩
 self:=fun A i s Q E st h=>by
  replace st:=st.2
  unfold strIterType at st
  split at st
  ·exact wpAny_pyIter_striter_ascii st h
  ·exact wpAny_pyIter_striter_wide st h
section
variable {X:Cx} {tg:Expr}
def iStr (tl:TE):TI:=fun σ H R=>tl σ H fun x H1=>∃ z,x = .str z /\ R (Its z) H1
theorem pi_str {l:Expr} {tl:TE} (hl:PE X l tl):PI X tg l (iStr tl):=by
 intro pins s σ H R I h
 refine thn (hl pins s σ H _ I h) fun v s1 ⟨x,H1,I1,r1,q1⟩=>?_
 obtain ⟨z,e,q⟩:=q1
 subst e
 obtain ⟨t,rfl⟩:=r1
 refine wpAny_pyIter_strU ?_
 refine ⟨s1.heap.objs.size,[s1.heap.objs.size],_,_,H1,rfl,I1.kept (t':=s1.toks) fun b o e=>Heap.get?_push_of_some _ e,turn_str _ z t,⟨Nat.zero_le _,_,Heap.get?_push_size _ rfl,rfl,rfl⟩,fun b hb=>?_,q⟩
 have e:b = s1.heap.objs.size:=by simpa using hb
 subst e
 exact I1.fpOk (Nat.le_refl _) (I1.hok.fresh (Nat.le_refl _))
theorem sl_str:SlR X (fun x lo hi H Q=>∃ z,x = .str z /\ (Txt.slice z lo hi).length <= sizeLine /\ Q (.str (Txt.slice z lo hi)) H):=by
 intro pins s σ H x v vl vu lo hi sl Q I rx hs pl pu h
 obtain ⟨z,rfl,hz,q⟩:=h
 obtain ⟨t,rfl⟩:=rx
 refine ⟨"str", "str.__getitem__",PySem.F.slot_str_getitem.lookup,typeIs_str _ _ _,?_⟩
 obtain ⟨o,ho,hc,hd⟩:=hs
 have hS:∃ l u:Option (Int × Tok),vl = partValue l /\ vu = partValue u /\ l.map (·.1) = lo /\ u.map (·.1) = hi:=by
  have one:∀ {v:Value} {p:Option Int},IsPart v p -> ∃ l:Option (Int × Tok),v = partValue l /\ l.map (·.1) = p:=fun {v p} h=>by
   cases h with
   | none=>exact ⟨none,rfl,rfl⟩
   | int i t=>exact ⟨some (i,t),rfl,rfl⟩
  obtain ⟨l,e1,e2⟩:=one pl
  obtain ⟨u,e3,e4⟩:=one pu
  exact ⟨l,u,e1,e3,e2,e4⟩
 obtain ⟨l,u,rfl,rfl,rfl,rfl⟩:=hS
 refine wpAny_getItem_str_slice (l:=l) (u:=u) (st:=none) ⟨o,ho,hc,hd⟩ rfl ?_
 unfold Txt.slice at q hz
 unfold sliceMade
 have ep:slicePicked z l u none = Builtin.Str.strSliceIndices (l.map (·.1)) (u.map (·.1)) 1 z.length:=rfl
 rw [ep]
 have e1:((Option.map (fun x:Int × Tok=>x.fst) none).getD 1 == 1) = true:=rfl
 rw [e1]
 have e2:((1:Int) == 1) = true:=rfl
 split
 ·rename_i hw
  rw [if_pos (by simpa using hw)] at q
  exact ⟨.str z,H,I,⟨t,rfl⟩,q⟩
 ·rename_i hw
  rw [if_neg (by simpa using hw)] at q hz
  exact ⟨hz,⟨.str _,H,I.tok _,⟨_,rfl⟩,q⟩⟩
theorem strs_vals:∀ (xs:List Str) (k:Nat),Vals (xs.map V.str) (strsFrom k xs)
 | [],_=>.nil
 | x :: xs,k=>by
  unfold strsFrom
  exact .cons ⟨k,rfl⟩ (strs_vals xs (k + 1))
theorem mt_split:MtR X "str.split" (fun x vs H Q=>∃ z y,x = .str z /\ vs = [.str y] /\ y.length ≠ 0 /\ z.length <= sizeLine /\ (Txt.split z y).length <= sizeLine /\ ∀ p,H p = none -> Q (.ref p) (upd H p (.lst ((Txt.split z y).map V.str)))):=by
 intro pins s σ H x vs v us Q I rx rv h
 obtain ⟨z,y,rfl,rfl,hy,hz,hlen,q⟩:=h
 obtain ⟨t,rfl⟩:=rx
 cases rv with
 | cons r1 rn =>
  cases rn
  obtain ⟨u,rfl⟩:=r1
  have hy':(y.length == 0) = false:=by simpa using hy
  have hf:H s.heap.objs.size = none:=I.hok.fresh (Nat.le_refl _)
  have lay:∀ (its:List Value) (tk:Nat),Vals ((Txt.split z y).map V.str) its -> ((Txt.split z y).map V.str).length <= sizeLine -> EP X pins σ Q (.ref s.heap.objs.size) { s with heap:=s.heap.push { cls:=.type "list",data:=.seq its.toArray },toks:=tk }:=fun its tk r hl =>
   ⟨.ref s.heap.objs.size,_,I.laid (t':=tk) (o:=.lst ((Txt.split z y).map V.str)) (fun b ob q=>Heap.get?_push_of_some _ q) (Nat.le_refl _) ⟨hl,its,0,r,Heap.get?_push_size _ rfl⟩,rfl,q _ hf⟩
  by_cases h1:(decide (z.length < y.length) || decide (Builtin.Str.strKind z < Builtin.Str.strKind y)) = true
  ·have es : Txt.split z y = [z] := by unfold Txt.split; rw [if_pos h1]
   refine call_meets PySem.F.slot_str_split (typeIs_str _ _ _) PySem.F.entry_str_split (PySem.F.args_str_split_2 _ _) (meets_str_split_cannot_occur z y t u h1) ?_
   exact lay [.str z t] s.toks (by rw [es]; exact .cons ⟨t,rfl⟩ .nil) (by rw [List.length_map]; exact hlen)
  ·have h1' := Bool.not_eq_true _ ▸ h1
   by_cases h2:(Builtin.Str.occurrences z y 0 z.length (z.length + 1)).isEmpty = true
   ·have es : Txt.split z y = [z] := by unfold Txt.split; rw [if_neg h1, if_pos h2]
    refine call_meets PySem.F.slot_str_split (typeIs_str _ _ _) PySem.F.entry_str_split (PySem.F.args_str_split_2 _ _) (meets_str_split_not_found z y t u (by simpa using h1) hy' h2) ?_
    exact lay [.str z t] s.toks (by rw [es]; exact .cons ⟨t,rfl⟩ .nil) (by rw [List.length_map]; exact hlen)
   ·have es : Txt.split z y = Builtin.Str.partsBetween z (Builtin.Str.occurrences z y 0 z.length (z.length + 1)) y.length := by unfold Txt.split; rw [if_neg h1, if_neg h2]
    refine call_meets PySem.F.slot_str_split (typeIs_str _ _ _) PySem.F.entry_str_split (PySem.F.args_str_split_2 _ _) (meets_str_split_sep z y t u (by simpa using h1) hy' (by simpa using h2) (by lia) (by rw [<- es]; exact hlen)) ?_
    exact lay _ _ (by rw [es]; exact strs_vals _ _) (by rw [List.length_map]; exact hlen)
theorem mt_starts:MtR X "str.startswith" (fun x vs H Q=>∃ z y,x = .str z /\ vs = [.str y] /\ Q (.bl (Txt.startswith z y)) H):=by
 intro pins s σ H x vs v us Q I rx rv h
 obtain ⟨z,y,rfl,rfl,q⟩:=h
 obtain ⟨t,rfl⟩:=rx
 cases rv with
 | cons r1 rn =>
  cases rn
  obtain ⟨u,rfl⟩:=r1
  exact SC.startswith ⟨.bl _,H,I,rfl,q⟩
theorem mt_index:MtR X "str.index" (fun x vs H Q=>∃ z y i r,x = .str z /\ vs = [.str y] /\ Builtin.Str.occurrences z y 0 z.length 1 = i :: r /\ Q (.int (i:Nat)) H):=by
 intro pins s σ H x vs v us Q I rx rv h
 obtain ⟨z,y,i,r,rfl,rfl,ho,q⟩:=h
 obtain ⟨t,rfl⟩:=rx
 cases rv with
 | cons r1 rn =>
  cases rn
  obtain ⟨u,rfl⟩:=r1
  exact SC.index ho ⟨.int _,H,I.tok _,⟨_,rfl⟩,q⟩
theorem mt_partition:MtR X "str.partition" (fun x vs H Q=>∃ z y,x = .str z /\ vs = [.str y] /\ y.length ≠ 0 /\ z.length <= sizeLine /\ ∀ p,H p = none -> Q (.ref p) (upd H p (.tup [.str (Txt.partition z y).1,.str (Txt.partition z y).2.1,.str (Txt.partition z y).2.2]))):=by
 intro pins s σ H x vs v us Q I rx rv h
 obtain ⟨z,y,rfl,rfl,hy,hz,q⟩:=h
 obtain ⟨t,rfl⟩:=rx
 cases rv with
 | cons r1 rn =>
  cases rn
  obtain ⟨u,rfl⟩:=r1
  have hf:H s.heap.objs.size = none:=I.hok.fresh (Nat.le_refl _)
  refine call_meets PySem.F.slot_str_partition (typeIs_str _ _ _) PySem.F.entry_str_partition (PySem.F.args_str_partition_2 _ _) (meets_str_partition z y t u (by simpa using hy) hz) ?_
  unfold Txt.partition at q
  cases ho:Builtin.Str.occurrences z y 0 z.length 1 with
  | nil =>
   rw [ho] at q
   exact ⟨.ref s.heap.objs.size,_,I.laid (o:=.tup [.str z,.str Str.empty,.str Str.empty]) (fun b ob q=>Heap.get?_push_of_some _ q) (Nat.le_refl _) ⟨(by decide:3 <= sizeLine),_,.cons ⟨_,rfl⟩ (.cons ⟨_,rfl⟩ (.cons ⟨_,rfl⟩ .nil)),IsTup.new _ _⟩,rfl,q _ hf⟩
  | cons i r =>
   rw [ho] at q
   exact ⟨.ref s.heap.objs.size,_,I.laid (o:=.tup [.str (Builtin.Str.strSub z 0 i),.str y,.str (Builtin.Str.strSub z (i + y.length) z.length)]) (fun b ob q=>Heap.get?_push_of_some _ q) (Nat.le_refl _) ⟨(by decide:3 <= sizeLine),_,.cons ⟨_,rfl⟩ (.cons ⟨_,rfl⟩ (.cons ⟨_,rfl⟩ .nil)),IsTup.new _ _⟩,rfl,q _ hf⟩
theorem strs_are:∀ {xs:List Str} {us:List Value},Vals (xs.map V.str) us -> StrsAre us xs
 | [],us,h=>by
  cases h
  exact .nil
 | x :: xs, us, h => by
  cases h with
  | cons r1 rn =>
   obtain ⟨t,rfl⟩:=r1
   exact .cons x t (strs_are rn)
theorem mt_join:MtR X "str.join" (fun x vs H Q=>∃ z p xs,x = .str z /\ vs = [.ref p] /\ SqL X.K H p (xs.map V.str) /\ z.length <= 16 /\ (xs.map fun x=>x.length).sum + xs.length <= 1048576 /\ Q (.str (Txt.join z xs)) H):=by
 intro pins s σ H x vs v us Q I rx rv h
 obtain ⟨z,p,xs,rfl,rfl,hp,hz,hs,q⟩:=h
 obtain ⟨t,rfl⟩:=rx
 cases rv with
 | cons r1 rn =>
  cases rn
  cases r1
  obtain ⟨its,r,ht,_⟩:=I.list hp
  exact join_listW ht.isList (by simpa using strs_are r) hz hs fun t' k=>⟨.str _,H,I.tok _,⟨_,rfl⟩,q⟩
end
end L2
set_option maxRecDepth 100000
namespace L2
open PySem PySem.Spec PyProof.Rows
section
variable {A:AC} {X:Cx} {tg a b o e:Expr} {es:List Expr} {ta tb te to:TD} {t1:TAD} {pos p apos cpos:Pos}
def signsD (z:Str):List D:=z.cps.toList.map fun c=>D.str ⟨#[c]⟩
def strAt (d:D) (k:Str -> Prop):Prop:=match d with | .str z=>k z | _=>False
@[simp] theorem q_strAt {z:Str} {k:Str -> Prop}:strAt (.str z) k = k z:=rfl
theorem strAt_inv {d:D} {k:Str -> Prop} (h:strAt d k):∃ z,d = .str z /\ k z:=by
 cases d <;> first | exact ⟨_,rfl,h⟩ | exact h.elim
def iStrD (ta:TD):TID:=fun rho n P=>ta rho n fun d n1=>strAt d fun z=>P (signsD z) n1
@[simp] theorem q_iStrD {rho:Rho} {n:Nat} {P:List D -> Nat -> Prop}:iStrD ta rho n P = ta rho n fun d n1=>strAt d fun z=>P (signsD z) n1:=rfl
theorem pid_str (ha:PD A X a ta):PID A X tg a (iStrD ta):=by
 with_unfolding_all
  exact (pi_str ha).imp fun sg H R h=>by
   obtain ⟨rho,n,P,ds,vs,I,ht,hQ⟩:=h
   refine ⟨rho,n,_,ds,vs,I,ht,fun v H' n' d ⟨os,J⟩ k=>?_⟩
   obtain ⟨z,rfl,k⟩:=strAt_inv k
   obtain ⟨J1,r⟩:=J.pop
   have e:=r.toS rfl
   subst e
   refine ⟨z,rfl,hQ _ H' n' _ [] [] ⟨os,J1⟩ rfl (fun n2 rho2 sg2 H2 ds2 vs2 i ⟨os2,I2⟩=>?_) k⟩
   refine ⟨fun d e=>?_,fun hi=>by unfold signsD at hi; rw [List.length_map,Array.length_toList] at hi; exact hi⟩
   unfold signsD at e
   rw [List.getElem?_map] at e
   cases hc:z.cps.toList[i]? with
   | none=>rw [hc] at e; cases e
   | some c =>
    rw [hc] at e
    cases e
    rw [Array.getElem?_toList] at hc
    refine ⟨(Array.getElem?_eq_some_iff.mp hc).1,fun x H3 y=>?_⟩
    obtain ⟨rfl,c',hc',rfl⟩:=y
    rw [hc] at hc'; cases hc'
    exact ⟨os2,I2.push (Rep.ofS (d:=.str _) rfl)⟩
def dSlS (ta:TD) (tl th:TOD):TD:=fun rho n P=>ta rho n fun d n1=>tl rho n1 fun lo n2=>th rho n2 fun hi n3=>strAt d fun z=>(Txt.slice z lo hi).length <= sizeLine /\ P (.str (Txt.slice z lo hi)) n3
@[simp] theorem q_dSlS {tl th:TOD} {rho:Rho} {n:Nat} {P:D -> Nat -> Prop}:dSlS ta tl th rho n P = ta rho n fun d n1=>tl rho n1 fun lo n2=>th rho n2 fun hi n3=>strAt d fun z=>(Txt.slice z lo hi).length <= sizeLine /\ P (.str (Txt.slice z lo hi)) n3:=rfl
theorem pd_slS {le he:Option Expr} {tl th:TOD} {p2:Pos} (ha:PD A X a ta) (hl:POD A X le tl) (hh:POD A X he th):PD A X (.Subscript a (.Slice le he none p2) pos) (dSlS ta tl th):=by
 with_unfolding_all
  exact (pe_slice sl_str ha hl hh).imp fun sg H Q h=>by
   obtain ⟨rho,n,P,ds,vs,I,ht,hQ⟩:=h
   refine ⟨rho,n,_,ds,vs,I,ht,fun v H1 n1 d J1 h1=>⟨rho,n1,_,_,_,J1,h1,fun lo H2 n2 J2 h2=>⟨rho,n2,_,_,_,J2,h2,fun hi H3 n3 ⟨os,J3⟩ h3=>?_⟩⟩⟩
   obtain ⟨z,rfl,hz,k⟩:=strAt_inv h3
   obtain ⟨J4,r⟩:=J3.pop
   have e:=r.toS rfl
   subst e
   exact ⟨z,rfl,hz,hQ _ _ n3 _ ⟨os,J4.push (Rep.ofS (d:=.str _) rfl)⟩ k⟩
def MtRel (A:AC) (r:V -> List V -> Hp -> VK -> Prop) (rd:Str -> List D -> (D -> Prop) -> Prop):Prop :=
 ∀ os n rho sg H ds vs z es ws (k:D -> Prop) (Q:VK),AmO A os n rho sg H (es ++ .str z :: ds) (ws ++ .str z :: vs) -> ws.length = es.length -> rd z es k -> (∀ v H' d,Am A n rho sg H' (d :: ds) (v :: vs) -> k d -> Q v H') -> r (.str z) ws H Q
def dMt (rd:Str -> List D -> (D -> Prop) -> Prop) (to:TD) (t1:TAD):TD:=fun rho n P=>to rho n fun d n1=>strAt d fun z=>t1 rho n1 fun es n2=>rd z es fun d'=>P d' n2
@[simp] theorem q_dMt {rd:Str -> List D -> (D -> Prop) -> Prop} {rho:Rho} {n:Nat} {P:D -> Nat -> Prop}:dMt rd to t1 rho n P = to rho n fun d n1=>strAt d fun z=>t1 rho n1 fun es n2=>rd z es fun d'=>P d' n2:=rfl
theorem pd_mt {name:Str} {id:String} {r:V -> List V -> Hp -> VK -> Prop} {rd:Str -> List D -> (D -> Prop) -> Prop} (slot:Slot "str" name id) (hty:typeOf (.builtin id) = pure (.type "method_descriptor")) (hm:MtR X id r) (hr:MtRel A r rd) (ho:PD A X o to) (ha:PAD A X (e :: es) t1)
  (hbase:attributeBase o name X.env (eval o X.env) = eval o X.env:=by rfl)
  (hfew : ((backTo cpos (starEach (e :: es) X.env)).all (fun x => !x.1) && (backToKw cpos (keywordEach [] X.env)).all (fun x => x.1.isSome)
   && decide ((e :: es).length + ([]:List Keyword).length + (if ([]:List Keyword).isEmpty then 0 else 1) < 30)) = true:=by rfl)
  (hline:(apos.endLine == cpos.line) = true:=by rfl) (hs:starEach (e :: es) X.env = (false,eval e X.env) :: starEach es X.env:=by rfl) (hplain:(backTo cpos (starEach es X.env)).any (·.1) = false:=by rfl) :
  PD A X (.Call (.Attribute o name apos) (e :: es) [] cpos) (dMt rd to t1):=by
 with_unfolding_all
  exact (pe_bm PySem.F.plainAttrs_str slot hty hm ho ha hbase hfew hline hs hplain).imp fun sg H Q h=>by
   obtain ⟨rho,n,P,ds,vs,I,ht,hQ⟩:=h
   refine ⟨rho,n,_,ds,vs,I,ht,fun v H' n' d J k=>?_⟩
   obtain ⟨z,rfl,k⟩:=strAt_inv k
   have e:v = .str z:=by
    obtain ⟨os,J⟩:=J
    exact J.pop.2.toS rfl
   subst e
   refine ⟨rfl,rho,n',_,_,_,J,k,fun ws H2 n2 es' ⟨os,J2⟩ hl k2=>?_⟩
   exact hr _ _ _ _ _ _ _ _ _ _ _ _ J2 hl k2 fun v H3 d J3 k3=>hQ v H3 n2 d J3 k3
def rd1 (f:Str -> Str -> (D -> Prop) -> Prop):Str -> List D -> (D -> Prop) -> Prop:=fun z es k=>match es with | [d]=>strAt d fun y=>f z y k | _=>False
@[simp] theorem q_rd1 {f:Str -> Str -> (D -> Prop) -> Prop} {z y:Str} {k:D -> Prop}:rd1 f z [.str y] k = f z y k:=rfl
theorem rd1_inv {f:Str -> Str -> (D -> Prop) -> Prop} {z:Str} {es:List D} {k:D -> Prop} (h:rd1 f z es k):∃ y,es = [.str y] /\ f z y k:=by
 match es,h with
 | [d],h =>
  obtain ⟨y,rfl,h⟩:=strAt_inv (show strAt d _ from h)
  exact ⟨y,rfl,h⟩
theorem one_arg {os n rho sg H ds vs} {z y:Str} {ws:List V} (I:AmO A os n rho sg H ([D.str y] ++ .str z :: ds) (ws ++ .str z :: vs)) (hl:ws.length = [D.str y].length):ws = [.str y] /\ AmO A os n rho sg H ds vs:=by
 match ws,hl with
 | [w],_ =>
  obtain ⟨I1,r⟩:=I.pop
  have e:=r.toS rfl
  subst e
  exact ⟨rfl,I1.pop.1⟩
abbrev rdSplit:Str -> List D -> (D -> Prop) -> Prop:=rd1 fun z y k=>y.length ≠ 0 /\ z.length <= sizeLine /\ (Txt.split z y).length <= sizeLine /\ k (.lst ((Txt.split z y).map D.str))
theorem reps_strs' {K:PySem.W.Frag} {G:Option Addr} {Z:Addr -> Prop} {H:Hp}:∀ xs:List Str,Reps K G Z H (xs.map D.str) (xs.map V.str)
 | []=>.nil
 | x :: xs=>.cons (Rep.ofS (d:=.str x) rfl) (reps_strs' xs)
theorem re_split:MtRel A (fun x vs H Q=>∃ z y,x = .str z /\ vs = [.str y] /\ y.length ≠ 0 /\ z.length <= sizeLine /\ (Txt.split z y).length <= sizeLine /\ ∀ p,H p = none -> Q (.ref p) (upd H p (.lst ((Txt.split z y).map V.str)))) rdSplit:=by
 intro os n rho sg H ds vs z es ws k Q I hl h hQ
 obtain ⟨y,rfl,h1,h2,h3,h⟩:=rd1_inv h
 obtain ⟨rfl,J⟩:=one_arg I hl
 exact ⟨z,y,rfl,rfl,h1,h2,h3,fun p hp=>hQ _ _ _ ⟨os,J.newLst (reps_strs' _) hp⟩ h⟩
theorem pd_split (ho:PD A X o to) (ha:PAD A X [e] t1) (hbase:attributeBase o "split" X.env (eval o X.env) = eval o X.env:=by rfl)
  (hfew:((backTo cpos (starEach [e] X.env)).all (fun x=>!x.1) && (backToKw cpos (keywordEach [] X.env)).all (fun x=>x.1.isSome) && decide ([e].length + ([]:List Keyword).length + (if ([]:List Keyword).isEmpty then 0 else 1) < 30)) = true:=by rfl)
  (hline:(apos.endLine == cpos.line) = true:=by rfl) (hs:starEach [e] X.env = (false,eval e X.env) :: starEach [] X.env:=by rfl) (hplain:(backTo cpos (starEach [] X.env)).any (·.1) = false:=by rfl) :
  PD A X (.Call (.Attribute o "split" apos) [e] [] cpos) (dMt rdSplit to t1):=pd_mt PySem.F.slot_str_split PySem.F.type_str_split mt_split re_split ho ha hbase hfew hline hs hplain
abbrev rdStarts:Str -> List D -> (D -> Prop) -> Prop:=rd1 fun z y k=>k (.bl (Txt.startswith z y))
theorem re_starts:MtRel A (fun x vs H Q=>∃ z y,x = .str z /\ vs = [.str y] /\ Q (.bl (Txt.startswith z y)) H) rdStarts:=by
 intro os n rho sg H ds vs z es ws k Q I hl h hQ
 obtain ⟨y,rfl,h⟩:=rd1_inv h
 obtain ⟨rfl,J⟩:=one_arg I hl
 exact ⟨z,y,rfl,rfl,hQ _ _ _ ⟨os,J.push (Rep.ofS (d:=.bl _) rfl)⟩ h⟩
theorem pd_starts (ho:PD A X o to) (ha:PAD A X [e] t1) (hbase:attributeBase o "startswith" X.env (eval o X.env) = eval o X.env:=by rfl)
  (hfew:((backTo cpos (starEach [e] X.env)).all (fun x=>!x.1) && (backToKw cpos (keywordEach [] X.env)).all (fun x=>x.1.isSome) && decide ([e].length + ([]:List Keyword).length + (if ([]:List Keyword).isEmpty then 0 else 1) < 30)) = true:=by rfl)
  (hline:(apos.endLine == cpos.line) = true:=by rfl) (hs:starEach [e] X.env = (false,eval e X.env) :: starEach [] X.env:=by rfl) (hplain:(backTo cpos (starEach [] X.env)).any (·.1) = false:=by rfl) :
  PD A X (.Call (.Attribute o "startswith" apos) [e] [] cpos) (dMt rdStarts to t1):=pd_mt PySem.F.slot_str_startswith PySem.F.type_str_startswith mt_starts re_starts ho ha hbase hfew hline hs hplain
abbrev rdIndex:Str -> List D -> (D -> Prop) -> Prop:=rd1 fun z y k=>∃ i r,Builtin.Str.occurrences z y 0 z.length 1 = i :: r /\ k (.int (i:Nat))
theorem re_index:MtRel A (fun x vs H Q=>∃ z y i r,x = .str z /\ vs = [.str y] /\ Builtin.Str.occurrences z y 0 z.length 1 = i :: r /\ Q (.int (i:Nat)) H) rdIndex:=by
 intro os n rho sg H ds vs z es ws k Q I hl h hQ
 obtain ⟨y,rfl,i,r,ho,h⟩:=rd1_inv h
 obtain ⟨rfl,J⟩:=one_arg I hl
 exact ⟨z,y,i,r,rfl,rfl,ho,hQ _ _ _ ⟨os,J.push (Rep.ofS (d:=.int _) rfl)⟩ h⟩
theorem pd_indexS (ho:PD A X o to) (ha:PAD A X [e] t1) (hbase:attributeBase o "index" X.env (eval o X.env) = eval o X.env:=by rfl)
  (hfew:((backTo cpos (starEach [e] X.env)).all (fun x=>!x.1) && (backToKw cpos (keywordEach [] X.env)).all (fun x=>x.1.isSome) && decide ([e].length + ([]:List Keyword).length + (if ([]:List Keyword).isEmpty then 0 else 1) < 30)) = true:=by rfl)
  (hline:(apos.endLine == cpos.line) = true:=by rfl) (hs:starEach [e] X.env = (false,eval e X.env) :: starEach [] X.env:=by rfl) (hplain:(backTo cpos (starEach [] X.env)).any (·.1) = false:=by rfl) :
  PD A X (.Call (.Attribute o "index" apos) [e] [] cpos) (dMt rdIndex to t1):=pd_mt PySem.F.slot_str_index PySem.F.type_str_index mt_index re_index ho ha hbase hfew hline hs hplain
abbrev rdPart:Str -> List D -> (D -> Prop) -> Prop:=rd1 fun z y k=>y.length ≠ 0 /\ z.length <= sizeLine /\ k (.tup [.str (Txt.partition z y).1,.str (Txt.partition z y).2.1,.str (Txt.partition z y).2.2])
theorem re_part:MtRel A (fun x vs H Q=>∃ z y,x = .str z /\ vs = [.str y] /\ y.length ≠ 0 /\ z.length <= sizeLine /\ ∀ p,H p = none -> Q (.ref p) (upd H p (.tup [.str (Txt.partition z y).1,.str (Txt.partition z y).2.1,.str (Txt.partition z y).2.2]))) rdPart:=by
 intro os n rho sg H ds vs z es ws k Q I hl h hQ
 obtain ⟨y,rfl,h1,h2,h⟩:=rd1_inv h
 obtain ⟨rfl,J⟩:=one_arg I hl
 exact ⟨z,y,rfl,rfl,h1,h2,fun p hp=>hQ _ _ _ ⟨os,J.newTup (reps_strs' [_,_,_]) hp⟩ h⟩
theorem pd_part (ho:PD A X o to) (ha:PAD A X [e] t1) (hbase:attributeBase o "partition" X.env (eval o X.env) = eval o X.env:=by rfl)
  (hfew:((backTo cpos (starEach [e] X.env)).all (fun x=>!x.1) && (backToKw cpos (keywordEach [] X.env)).all (fun x=>x.1.isSome) && decide ([e].length + ([]:List Keyword).length + (if ([]:List Keyword).isEmpty then 0 else 1) < 30)) = true:=by rfl)
  (hline:(apos.endLine == cpos.line) = true:=by rfl) (hs:starEach [e] X.env = (false,eval e X.env) :: starEach [] X.env:=by rfl) (hplain:(backTo cpos (starEach [] X.env)).any (·.1) = false:=by rfl) :
  PD A X (.Call (.Attribute o "partition" apos) [e] [] cpos) (dMt rdPart to t1):=pd_mt PySem.F.slot_str_partition PySem.F.type_str_partition mt_partition re_part ho ha hbase hfew hline hs hplain
def rdJoin:Str -> List D -> (D -> Prop) -> Prop:=fun z es k=>∃ xs:List Str,es = [.lst (xs.map D.str)] /\ z.length <= 16 /\ (xs.map fun x=>x.length).sum + xs.length <= 1048576 /\ k (.str (Txt.join z xs))
theorem reps_strs_inv {K:PySem.W.Frag} {G:Option Addr} {Z:Addr -> Prop} {H:Hp}:∀ {xs:List Str} {vs:List V},Reps K G Z H (xs.map D.str) vs -> vs = xs.map V.str
 | [],vs,h=>h.nil_inv
 | x :: xs,vs,h=>by
  obtain ⟨v,r,rfl,q,t⟩:=Reps.split (d:=.str x) (ds:=xs.map D.str) h
  rw [reps_strs_inv t,q.toS rfl]
  rfl
theorem re_join:MtRel A (fun x vs H Q=>∃ z p xs,x = .str z /\ vs = [.ref p] /\ SqL A.K H p (xs.map V.str) /\ z.length <= 16 /\ (xs.map fun x=>x.length).sum + xs.length <= 1048576 /\ Q (.str (Txt.join z xs)) H) rdJoin:=by
 intro os n rho sg H ds vs z es ws k Q I hl h hQ
 obtain ⟨xs,rfl,h1,h2,h⟩:=h
 match ws,hl with
 | [w],_ =>
  obtain ⟨I1,r⟩:=AmO.pop (d:=.lst (xs.map D.str)) (v:=w) (ds:=.str z :: ds) (vs:=.str z :: vs) I
  obtain ⟨a,ys,rfl,sq,rs⟩:=r.lst_inv
  rw [reps_strs_inv rs] at sq
  exact ⟨z,a,xs,rfl,rfl,sq.sq,h1,h2,hQ _ _ _ ⟨os,I1.pop.1.push (Rep.ofS (d:=.str _) rfl)⟩ h⟩
theorem pd_join (hK:X.K = A.K) (ho:PD A X o to) (ha:PAD A X [e] t1) (hbase:attributeBase o "join" X.env (eval o X.env) = eval o X.env:=by rfl)
  (hfew:((backTo cpos (starEach [e] X.env)).all (fun x=>!x.1) && (backToKw cpos (keywordEach [] X.env)).all (fun x=>x.1.isSome) && decide ([e].length + ([]:List Keyword).length + (if ([]:List Keyword).isEmpty then 0 else 1) < 30)) = true:=by rfl)
  (hline:(apos.endLine == cpos.line) = true:=by rfl) (hs:starEach [e] X.env = (false,eval e X.env) :: starEach [] X.env:=by rfl) (hplain:(backTo cpos (starEach [] X.env)).any (·.1) = false:=by rfl) :
  PD A X (.Call (.Attribute o "join" apos) [e] [] cpos) (dMt rdJoin to t1):=pd_mt PySem.F.slot_str_join PySem.F.type_str_join (hK ▸ mt_join) re_join ho ha hbase hfew hline hs hplain
def rdInS:RD2:=fun d1 d2 k=>strAt d1 fun i=>strAt d2 fun j=>k (.bl (!(Builtin.Str.occurrences j i 0 j.length 1).isEmpty))
@[simp] theorem q_rdInS {i j:Str} {k:D -> Prop}:rdInS (.str i) (.str j) k = k (.bl (!(Builtin.Str.occurrences j i 0 j.length 1).isEmpty)):=rfl
theorem re_inS:OpRel A (fun x y H Q=>∃ i j,x = .str i /\ y = .str j /\ Q (.bl (!(Builtin.Str.occurrences j i 0 j.length 1).isEmpty)) H) rdInS:=by
 rintro os n rho sg H ds vs d1 d2 v1 v2 k Q I h hQ
 obtain ⟨i,rfl,h1⟩:=strAt_inv h
 obtain ⟨j,rfl,h2⟩:=strAt_inv h1
 obtain ⟨I1,r2⟩:=I.pop
 obtain ⟨I2,r1⟩:=I1.pop
 exact ⟨i,j,r1.toS rfl,r2.toS rfl,hQ _ _ _ ⟨os,I2.push (Rep.ofS (d:=.bl _) rfl)⟩ h2⟩
theorem gdat_str {K:PySem.W.Frag} {mg:Str -> Option Value} {x z:Str} {t:Tok} (h:mg x = some (.str z t)):GDat K mg x (.str z):=⟨.str z,_,h,⟨t,rfl⟩,fun G Z H=>.ofS (d:=.str z) rfl⟩
end
end L2
set_option maxRecDepth 100000
namespace L2
open PySem PySem.Spec PyProof.Rows
section
variable {P:Program} {w:World} {K:PySem.W.Frag} {mg:Str -> Option Value} {base:Heap} {N:List Str} {qual:Str} {scope:Scope} {f:Addr} {cd:Value} {A0:Around} {outer:List Env} {s:Shared} {H:Hp} {E:XK} {G:Option Addr} {Z:Addr -> Prop} {C:Addr} {R:Nat -> Prop}
theorem pass1 (hE:∀ H',XD ⟨K,G,Z,H⟩ C R (.ref C) none H' -> E (.ref C) none H'):Passes (CX1 P w) (cxOf (CX1 P w) P w K mg base N qual scope f cd A0 outer s H E) (XD ⟨K,G,Z,H⟩ C R):=by
 intro pins σ H1 s1 e s2 I hq
 obtain ⟨a,T,cls,H2,rfl,hos,hbare,un,hok,fl,a0,T0,aH,TH,q⟩:=hq
 have I2:Inv (cxOf (CX1 P w) P w K mg base N qual scope f cd A0 outer s H E) pins σ H2 s2:=I.call' hos un hok hbare (ch:=[]) fun _ z=>nomatch z
 have fresh:∀ {b:Addr},s1.heap.get? b = none -> s.heap.get? b = none:=fun {b} hb=>by
  cases q:s.heap.get? b with
  | none=>rfl
  | some o =>
   obtain ⟨o',z⟩:=I.base.there b o q (fun z=>nomatch z)
   rw [hb] at z; cases z
 have un0:Un (frs outer) [] H H2 s.heap s2.heap:=I2.base
 have fr:∀ b ∈ frs (envOfC qual scope s.heap.objs.size f cd :: outer),H2 b = none:=I2.stkFree
 show wpAny _ _ (leaving (envOfC qual scope s.heap.objs.size f cd) (.ref a)) _ _ _
 refine leave_next (s:=s2) (B:=base) (outer:=outer) (L:=s.heap.objs.size) I.ok.frames I2.stack rfl fl fun h3 T' kp fl' hT'=>?_
 have T1:s.heap.get? T' = none:=by
  rcases hT' with hT' | rfl
  ·cases q : s.heap.get? T' with
   | none=>rfl
   | some o =>
    obtain ⟨o',z⟩:=un0.there T' o q (fun z=>nomatch z)
    rw [hT'] at z; cases z
  ·exact fresh T0
 have T2:H2 T' = none:=by
  rcases hT' with hT' | rfl
  ·exact hok.nil_at hT'
  ·exact TH
 obtain ⟨rfl,q⟩:=q
 refine ⟨a,T',_,H2,rfl,I2.os,hbare,un0.kp kp (fun b hb=>?_) (fun b hb=>?_),hok.kp kp fr (fun b hb=>?_),fl',fresh a0,T1,aH,T2,hE H2 ⟨rfl,q⟩⟩
 ·rcases List.mem_cons.mp (I2.stkSub b hb) with z | z
  ·right
   rw [z]
   exact Heap.get?_none_of_le (Nat.le_refl _)
  ·exact .inl z
 ·rcases List.mem_cons.mp hb with rfl | hb
  ·exact fresh a0
  ·rw [List.mem_singleton.mp hb]; exact fresh T0
 ·rcases List.mem_cons.mp hb with rfl | hb
  ·exact aH
  ·rw [List.mem_singleton.mp hb]; exact TH
end
section
variable {A:AC} {X:Cx} {C:Addr} {R:Nat -> Prop}
def dFnX (k:Nat) (t:TFX) (t1:TAD) (R:Nat -> Prop):TD:=fun rho n P=>t1 rho n fun es n1=>es.length = k /\ t es n1 P R
@[simp] theorem q_dFnX {k:Nat} {t:TFX} {t1:TAD} {rho:Rho} {n:Nat} {P:D -> Nat -> Prop}:dFnX k t t1 R rho n P = t1 rho n fun es n1=>es.length = k /\ t es n1 P R:=rfl
theorem pd_fnX {e:Expr} {es:List Expr} {t1:TAD} {pos p:Pos} {x:Str} {t:TFX} {kk k:Nat} (F:FnX X.prog X.w X.K X.mg X.base x kk k C t) (hp:Passes (CX1 X.prog X.w) X (XD A C R)) (hr:Room kk X.A) (hK:X.K = A.K)
  (ha:PAD A X (e :: es) t1) (hg:Gl X x:=by rfl) (hdb:(x == ("__debug__" : Str)) = false:=by decide) (he:starEach (e :: es) X.env = (false,eval e X.env) :: starEach es X.env:=by rfl) (hpl:(backTo pos (starEach es X.env)).any (·.1) = false:=by rfl) :
  PD A X (.Call (.Name x p) (e :: es) [] pos) (dFnX k t t1 R):=by
 obtain ⟨f,fd,ps,h1,h2,h3,h4⟩:=F.ex
 with_unfolding_all
  exact (pe_call h1 hr hg h2 h3 h4 .nil hp ha hdb he hpl).imp fun sg H Q h=>by
   obtain ⟨rho,n,S,ds,vs,I,ht,hQ⟩:=h
   refine ⟨rho,n,_,ds,vs,I,ht,fun ws H' n' es' ⟨os,J⟩ hl k=>?_⟩
   obtain ⟨J1,rs⟩:=J.split hl
   rw [List.append_nil,hK]
   refine ⟨A.G,Zof A os,n',S,R,es',k.1,rs,J1.st,fun a z=>.inl (J1.gz a z),J1.zH,k.2,fun v H2 n2 d fr st r q=>hQ v H2 n2 d ⟨os,(J1.called fr st).push r⟩ q,fun H2 n2 fr st q=>⟨rfl,n2,fun a o hg e=>fr a o hg (J1.fr a o hg e),st,q⟩⟩
def sTryS (C:Addr) (j i k:Nat) (t:TFX) (t1:TAD) (ts:TSD):TSD:=fun F rho n=>t1 rho n fun es n1=>es.length = k /\ t es n1 (fun d n2=>j < rho.length /\ F.nx (rho.set j (some d)) n2)
 fun n2=>i < rho.length /\ ts { nx:=fun rho' n'=>(∃ d,rho'[i]? = some (some d)) /\ F.nx (rho'.set i none) n',rt:=fun _ _=>False } (rho.set i (some (.exc C))) n2
theorem psd_tryS {kk k i j:Nat} {CB:Addr} {t:TFX} {tsd:TSD} {t1:TAD} {x xB n y:Str} {p pos apos np hpos tpos yp:Pos} {e:Expr} {es:List Expr} {b0:Stmt} {suite:List Stmt} (F:FnX X.prog X.w X.K X.mg X.base x kk k C t) (hr:Room kk X.A) (hK:X.K = A.K) (ha:PAD A X.nox (e :: es) t1)
  (hmB:X.mg xB = some (.ref CB)) (hex:PySem.W.exmOne X.K (.ref C) (.ref CB) = some true) (hN:X.N.Nodup) (hj:X.N[j]? = some y) (hy:X.env.scope.names.lookup y = some .local) (hi:X.N[i]? = some n) (hl:X.env.scope.names.lookup n = some .local) (hs:∀ ev,PSsD A (X.suite ev) (b0 :: suite) tsd)
  (hst:X.stack = X.env :: X.outer:=by rfl) (hfr:X.env.frame = some X.env.locals:=by rfl)
  (hg:Gl X x:=by rfl) (hgB:Gl X xB:=by rfl) (hdb:(x == ("__debug__" : Str)) = false:=by decide) (hdB:(xB == ("__debug__" : Str)) = false:=by decide) (he:starEach (e :: es) X.env = (false,eval e X.env) :: starEach es X.env:=by rfl) (hpl:(backTo pos (starEach es X.env)).any (·.1) = false:=by rfl)
  (hsw:swapsWith (.Call (.Name x p) (e :: es) [] pos) (some (.Name y yp)) apos.line X.env = pure false:=by rfl) :
  PSD A X (.Try [.Assign [.Name y yp] (.Call (.Name x p) (e :: es) [] pos) apos] [.ExceptHandler (some (.Name xB np)) (some n) (b0 :: suite) hpos] [] [] tpos) (sTryS C j i k t t1 tsd):=by
 obtain ⟨f,fd,ps,h1,h2,h3,h4⟩:=F.ex
 with_unfolding_all
  exact (ps_tryS (C:=C) h1 hr hg h2 h3 h4 ha hj hy hgB hmB hex hN hi hl hst hfr hs hdb hdB he hpl hsw).imp fun E sg H h=>by
   obtain ⟨rho,n0,F,ds,vs,I,ht,ok⟩:=h
   refine ⟨rho,n0,_,ds,vs,I,ht,fun ws H' n' es' ⟨os,J⟩ hl' kq=>?_⟩
   obtain ⟨J1,rs⟩:=J.split hl'
   rw [hK]
   refine ⟨A.G,Zof A os,n',_,_,es',kq.1,rs,J1.st,fun a z=>.inl (J1.gz a z),J1.zH,kq.2,fun v H2 n2 d fr st r q=>ok.nx _ _ _ _ ⟨_,((J1.called fr st).push r).set q.1⟩ q.2,fun H2 n2 fr st q=>⟨rfl,fun a hn=>?_⟩⟩
   have J2:=(J1.called fr st).newExc (C:=C) hn
   refine ⟨_,n2,_,ds,vs,⟨_,J2.set q.1⟩,q.2,⟨fun rho' n3 sg' H3 ⟨os',J3⟩ q3=>?_,fun _ _ _ _ _ _ _ z=>z.elim,fun _ _ _ _ _ z=>z.elim,fun _ _ _ _ _ z=>z.elim⟩⟩
   obtain ⟨⟨d,hd⟩,q3⟩:=q3
   obtain ⟨v,hv,_⟩:=J3.slot i d hd
   exact ⟨⟨v,hv⟩,ok.nx _ _ _ _ ⟨os',J3.unset i⟩ q3⟩
end
section
variable {X:Cx} {e:Expr} {te:TE} {pos p2:Pos}
end
section
variable {A:AC} {X:Cx} {a:Expr} {ta:TD} {pos p2 p3 p4:Pos}
def lAt (d:D) (k:List D -> Prop):Prop:=match d with | .lst es=>k es | _=>False
@[simp] theorem q_lAt {es:List D} {k:List D -> Prop}:lAt (.lst es) k = k es:=rfl
def dRevL (ta:TD):TD:=fun rho n P=>ta rho n fun d n1=>lAt d fun fs=>P (.lst fs.reverse) n1
@[simp] theorem q_dRevL {rho:Rho} {n:Nat} {P:D -> Nat -> Prop}:dRevL ta rho n P = ta rho n fun d n1=>lAt d fun fs=>P (.lst fs.reverse) n1:=rfl
end
end L2
set_option maxRecDepth 100000
namespace L2
open PySem PySem.Spec PyProof.Rows
def tx (l:List Nat):Str:=⟨l.toArray⟩
theorem tx_of (x:Str):x = tx x.cps.toList:=by obtain ⟨c⟩:=x; rfl
theorem tx_list (l:List Nat):(tx l).cps.toList = l:=rfl
theorem tx_inj {l m:List Nat} (h:tx l = tx m):l = m:=by
 have:=congrArg (fun x:Str=>x.cps.toList) h
 exact this
theorem tx_len (l:List Nat):(tx l).length = l.length:=rfl
theorem tx_app (l m:List Nat):tx l ++ tx m = tx (l ++ m):=by
 show (⟨l.toArray ++ m.toArray⟩:Str) = ⟨(l ++ m).toArray⟩
 rw [List.append_toArray]
theorem eq_tx {x y:Str} (h:(x == y) = true):x = y:=beq_iff_eq.mp h
theorem tx_eq (l m:List Nat):(tx l = tx m) = (l = m):=propext ⟨tx_inj,fun h=>by rw [h]⟩
theorem sl_from1 (a:Nat) (l:List Nat):Txt.slice (tx (a :: l)) (some 1) none = tx l:=by
 rw [eq_tx (slice_closes_from (x:=tx (a :: l)) (i:=1) ⟨by decide,by rw [tx_list]; simp; lia⟩),tx_list]
 show tx _ = tx l
 congr 1
 simp
theorem sl_to1 (a:Nat) (l:List Nat):Txt.slice (tx (a :: l)) none (some 1) = tx [a]:=by
 rw [eq_tx (slice_closes_to (x:=tx (a :: l)) (j:=1) ⟨by decide,by rw [tx_list]; simp; lia⟩),tx_list]
 rfl
theorem sl_last (l:List Nat) (a:Nat):Txt.slice (tx (l ++ [a])) (some (-1)) none = tx [a]:=by
 rw [eq_tx (slice_closes_from_neg (x:=tx (l ++ [a])) (i:=-1) (a:=l.length) (b:=l.length + 1) (by decide) (by rw [tx_len]; simp; lia) (by rw [tx_len]; simp; lia) (by rw [tx_len]; simp)),tx_list]
 show tx _ = tx [a]
 congr 1
 simp
theorem sl_init (l:List Nat) (a:Nat):Txt.slice (tx (l ++ [a])) none (some (-1)) = tx l:=by
 rw [eq_tx (slice_closes_to_neg (x:=tx (l ++ [a])) (j:=-1) (k:=l.length) (by decide) (by rw [tx_len]; simp; lia) (by rw [tx_len]; simp; lia)),tx_list]
 show tx _ = tx l
 congr 1
 simp
theorem starts1 (c a:Nat) (l:List Nat):Txt.startswith (tx (a :: l)) (tx [c]) = decide (a = c):=by
 unfold Txt.startswith Builtin.Str.subAt
 have e:(tx (a :: l)).cps.extract 0 (0 + (tx [c]).length) = #[a]:=by
  show (a :: l).toArray.extract 0 1 = #[a]
  simp
 rw [e]
 by_cases h:a = c
 ·subst h
  simp [tx_len]
  rfl
 ·have : (#[a] == (tx [c]).cps) = false := by
   show (#[a] == #[c]) = false
   simp [h]
  rw [this]
  simp [h]
theorem starts_nil (c:Nat):Txt.startswith (tx []) (tx [c]) = false:=by
 unfold Txt.startswith
 simp [tx_len]
def joinL (c:List Nat):List (List Nat) -> List Nat
 | []=>[]
 | [a]=>a
 | a :: b :: r=>a ++ c ++ joinL c (b :: r)
theorem join_tx (c:List Nat):∀ ws:List (List Nat),Txt.join (tx c) (ws.map tx) = tx (joinL c ws):=by
 intro ws
 unfold Txt.join
 rw [StrLaws.glued_eq_join]
 induction ws with
 | nil=>rfl
 | cons a r ih =>
  cases r with
  | nil=>exact join_one _ _
  | cons b r =>
   rw [List.map_cons,List.map_cons,join_cons_cons,<- List.map_cons,ih,tx_app,tx_app]
   rfl
theorem split_parts (c:Nat) (l:List Nat):∃ ps:List (List Nat),Txt.split (tx l) (tx [c]) = ps.map tx /\ ps ≠ [] /\ (∀ p ∈ ps,c ∉ p) /\ joinL [c] ps = l:=by
 refine ⟨(Txt.split (tx l) (tx [c])).map fun x=>x.cps.toList,?_,?_,fun p hp=>?_,?_⟩
 ·rw [List.map_map]
  exact (List.map_id'' (fun x=>(tx_of x).symm) _).symm
 ·intro h
  have e:Txt.split (tx l) (tx [c]) = []:=List.map_eq_nil_iff.mp h
  unfold Txt.split at e
  split at e
  ·cases e
  ·split at e
   ·cases e
   ·unfold Builtin.Str.partsBetween at e
    cases hc:Builtin.Str.occurrences (tx l) (tx [c]) 0 (tx l).length ((tx l).length + 1) <;> rw [hc] at e <;> simp at e
 ·obtain ⟨x, hx, rfl⟩ := List.mem_map.mp hp
  exact StrLaws.split_free (tx l) c x hx
 ·have h := StrLaws.join_split (tx l) (tx [c])
  have e:=join_tx [c] ((Txt.split (tx l) (tx [c])).map fun x=>x.cps.toList)
  unfold Txt.join at e
  have em:(Txt.split (tx l) (tx [c])).map (tx ∘ fun x=>x.cps.toList) = Txt.split (tx l) (tx [c]):=List.map_id'' (fun x=>(tx_of x).symm) _
  rw [StrLaws.glued_eq_join,List.map_map,em,h] at e
  exact (tx_inj e).symm
theorem at_iff {x y:Str} {n i:Nat}:StrLaws.At x y n i ↔ i + y.length <= n /\ x.cps.extract i (i + y.length) = y.cps:=by
 unfold StrLaws.At Builtin.Str.subAt
 simp
def dg (n:Nat):List Nat:=(Nat.toDigits 10 n).map Char.toNat
def numL (i:Int):List Nat:=if i < 0 then 45 :: dg i.natAbs else dg i.natAbs
theorem str_nat (n:Nat):Str.ofString (toString n) = tx (dg n):=by
 rw [Str.ofString_eq_toList,Nat.toString_eq_ofList_toDigits,String.toList_ofList]
 rfl
theorem str_int (i:Int):Str.ofString (toString i) = tx (numL i):=by
 unfold numL
 cases i with
 | ofNat n =>
  rw [if_neg (by simp)]
  exact str_nat n
 | negSucc n =>
  rw [if_pos (Int.negSucc_lt_zero n)]
  have e:toString (Int.negSucc n) = "-" ++ toString (n + 1):=rfl
  rw [e,Str.ofString_eq_toList,String.toList_append,List.map_append,Nat.toString_eq_ofList_toDigits,String.toList_ofList,String.toList_ofList]
  rfl
theorem dg_len {n:Nat} (h:n < 10 ^ 18):(dg n).length <= 18:=by
 unfold dg
 rw [List.length_map]
 exact (Nat.length_toDigits_le_iff (by decide) (by decide)).mpr h
abbrev figL:List Nat:=[48,49,50,51,52,53,54,55,56,57]
theorem fig_tx:Str.ofString "0123456789" = tx figL:=by decide +kernel
theorem fig_in (c:Nat):(!(Builtin.Str.occurrences (tx figL) (tx [c]) 0 (tx figL).length 1).isEmpty) = decide (48 <= c /\ c <= 57):=by
 have:=StrLaws.found_one (tx figL) c
 rw [show (⟨#[c]⟩:Str) = tx [c] from rfl] at this
 rw [this,tx_list]
 simp only [figL,List.mem_cons,List.not_mem_nil,or_false]
 congr 1
 apply propext
 refine ⟨fun h=>?_,fun h=>?_⟩
 ·rcases h with h | h | h | h | h | h | h | h | h | h <;> simp [h]
 ·by_cases q : c <= 52
  ·have : c = 48 \/ c = 49 \/ c = 50 \/ c = 51 \/ c = 52 := by lia
   rcases this with r | r | r | r | r <;> simp [r]
  ·have : c = 53 \/ c = 54 \/ c = 55 \/ c = 56 \/ c = 57 := by lia
   rcases this with r | r | r | r | r <;> simp [r]
theorem fig_at {c:Nat} (h:48 <= c /\ c <= 57):∃ r,Builtin.Str.occurrences (tx figL) (tx [c]) 0 (tx figL).length 1 = (c - 48) :: r:=by
 obtain ⟨h1,h2⟩:=h
 have:∀ k,k < 10 -> ∃ r,Builtin.Str.occurrences (tx figL) (tx [48 + k]) 0 (tx figL).length 1 = k :: r:=by
  intro k hk
  match k,hk with
  | 0,_=>exact ⟨[],by decide +kernel⟩
  | 1,_=>exact ⟨[],by decide +kernel⟩
  | 2,_=>exact ⟨[],by decide +kernel⟩
  | 3,_=>exact ⟨[],by decide +kernel⟩
  | 4,_=>exact ⟨[],by decide +kernel⟩
  | 5,_=>exact ⟨[],by decide +kernel⟩
  | 6,_=>exact ⟨[],by decide +kernel⟩
  | 7,_=>exact ⟨[],by decide +kernel⟩
  | 8,_=>exact ⟨[],by decide +kernel⟩
  | 9,_=>exact ⟨[],by decide +kernel⟩
 have q:=this (c - 48) (by lia)
 rwa [show 48 + (c - 48) = c by lia] at q
theorem signs_tx (l:List Nat):signsD (tx l) = l.map fun c=>D.str (tx [c]):=rfl
end L2
set_option maxRecDepth 100000
namespace L2
open PySem PySem.Spec PyProof.Rows
section
variable {X:Cx} {pos sp:Pos} {e0 e1:Expr}
end
section
variable {A:AC} {X:Cx} {pos pt sp:Pos} {e0 e1 e:Expr} {te:TD} {m:Nat}
def sStar (te:TD) (gs:TGsD):TSD:=fun F rho n=>te rho n fun d n1=>lAt d fun fs=>∃ e es,fs = e :: es /\ gs [e,.lst es] rho fun rho'=>F.nx rho' n1
@[simp] theorem q_sStar {gs:TGsD} {F:EndsD} {rho:Rho} {n:Nat}:sStar te gs F rho n = te rho n fun d n1=>lAt d fun fs=>∃ e es,fs = e :: es /\ gs [e,.lst es] rho fun rho'=>F.nx rho' n1:=rfl
end
end L2
set_option maxRecDepth 100000
namespace L2
open PySem PySem.Spec PyProof.Rows
section
variable {X:Cx} {tg:Expr}
theorem mt_find:MtR X "str.find" (fun x vs H Q=>∃ z y,x = .str z /\ vs = [.str y] /\ Q (.int (Txt.find z y)) H):=by
 intro pins s σ H x vs v us Q I rx rv h
 obtain ⟨z,y,rfl,rfl,q⟩:=h
 obtain ⟨t,rfl⟩:=rx
 cases rv with
 | cons r1 rn =>
  cases rn
  obtain ⟨u,rfl⟩:=r1
  exact SC.find ⟨.int _,H,I.tok _,⟨_,rfl⟩,q⟩
theorem mt_strip:MtR X "str.strip" (fun x vs H Q=>∃ z y,x = .str z /\ vs = [.str y] /\ z.length <= sizeLine /\ Q (.str (Txt.stripChars z y)) H):=by
 intro pins s σ H x vs v us Q I rx rv h
 obtain ⟨z,y,rfl,rfl,hz,q⟩:=h
 obtain ⟨t,rfl⟩:=rx
 cases rv with
 | cons r1 rn =>
  cases rn
  obtain ⟨u,rfl⟩:=r1
  exact SC.stripChars (fun t' k=>⟨.str _,H,I.tok _,⟨_,rfl⟩,q⟩) hz
end
section
variable {A:AC} {X:Cx} {tg a b o e:Expr} {es:List Expr} {ta tb te to:TD} {t1:TAD} {pos p apos cpos:Pos}
abbrev rdFind:Str -> List D -> (D -> Prop) -> Prop:=rd1 fun z y k=>k (.int (Txt.find z y))
theorem re_find:MtRel A (fun x vs H Q=>∃ z y,x = .str z /\ vs = [.str y] /\ Q (.int (Txt.find z y)) H) rdFind:=by
 intro os n rho sg H ds vs z es ws k Q I hl h hQ
 obtain ⟨y,rfl,h⟩:=rd1_inv h
 obtain ⟨rfl,J⟩:=one_arg I hl
 exact ⟨z,y,rfl,rfl,hQ _ _ _ ⟨os,J.push (Rep.ofS (d:=.int _) rfl)⟩ h⟩
theorem pd_find (ho:PD A X o to) (ha:PAD A X [e] t1) (hbase:attributeBase o "find" X.env (eval o X.env) = eval o X.env:=by rfl)
  (hfew:((backTo cpos (starEach [e] X.env)).all (fun x=>!x.1) && (backToKw cpos (keywordEach [] X.env)).all (fun x=>x.1.isSome) && decide ([e].length + ([]:List Keyword).length + (if ([]:List Keyword).isEmpty then 0 else 1) < 30)) = true:=by rfl)
  (hline:(apos.endLine == cpos.line) = true:=by rfl) (hs:starEach [e] X.env = (false,eval e X.env) :: starEach [] X.env:=by rfl) (hplain:(backTo cpos (starEach [] X.env)).any (·.1) = false:=by rfl) :
  PD A X (.Call (.Attribute o "find" apos) [e] [] cpos) (dMt rdFind to t1):=pd_mt PySem.F.slot_str_find PySem.F.type_str_find mt_find re_find ho ha hbase hfew hline hs hplain
abbrev rdStrip:Str -> List D -> (D -> Prop) -> Prop:=rd1 fun z y k=>z.length <= sizeLine /\ k (.str (Txt.stripChars z y))
theorem re_strip:MtRel A (fun x vs H Q=>∃ z y,x = .str z /\ vs = [.str y] /\ z.length <= sizeLine /\ Q (.str (Txt.stripChars z y)) H) rdStrip:=by
 intro os n rho sg H ds vs z es ws k Q I hl h hQ
 obtain ⟨y,rfl,hz,h⟩:=rd1_inv h
 obtain ⟨rfl,J⟩:=one_arg I hl
 exact ⟨z,y,rfl,rfl,hz,hQ _ _ _ ⟨os,J.push (Rep.ofS (d:=.str _) rfl)⟩ h⟩
theorem pd_strip (ho:PD A X o to) (ha:PAD A X [e] t1) (hbase:attributeBase o "strip" X.env (eval o X.env) = eval o X.env:=by rfl)
  (hfew:((backTo cpos (starEach [e] X.env)).all (fun x=>!x.1) && (backToKw cpos (keywordEach [] X.env)).all (fun x=>x.1.isSome) && decide ([e].length + ([]:List Keyword).length + (if ([]:List Keyword).isEmpty then 0 else 1) < 30)) = true:=by rfl)
  (hline:(apos.endLine == cpos.line) = true:=by rfl) (hs:starEach [e] X.env = (false,eval e X.env) :: starEach [] X.env:=by rfl) (hplain:(backTo cpos (starEach [] X.env)).any (·.1) = false:=by rfl) :
  PD A X (.Call (.Attribute o "strip" apos) [e] [] cpos) (dMt rdStrip to t1):=pd_mt PySem.F.slot_str_strip PySem.F.type_str_strip mt_strip re_strip ho ha hbase hfew hline hs hplain
end
end L2
set_option maxRecDepth 100000
namespace L2
open PySem PySem.Spec PyProof.Rows
section
variable {X:Cx}
def rInsert:V -> List V -> Hp -> VK -> Prop:=fun x vs H Q=>∃ (l:Addr) (xs:List V) (k:Nat) (y:V),x = .ref l /\ vs = [.int (k:Int),y] /\ H l = some (.lst xs) /\ xs.length < sizeLine /\ k <= xs.length /\ k <= 1000000 /\ Q .non (upd H l (.lst (xs.take k ++ y :: xs.drop k)))
theorem mt_insert:MtM X "list.insert" rInsert:=by
 intro pins s σ H x vs v us Q I rx rv h
 obtain ⟨l,xs,k,y,rfl,rfl,hH,hz,hk,hk1,q⟩:=h
 cases rx
 cases rv with
 | cons r1 rn =>
  cases rn with
  | cons r2 rm =>
   cases rm
   obtain ⟨t,rfl⟩:=r1
   rename_i u
   obtain ⟨z,its,n,r,hl,e⟩:=I.lstM hH
   have hlen:=r.length
   have fits:¬ (!Builtin.List.listFitsIndex (k:Int)) = true:=by
    simp [Builtin.List.listFitsIndex]
    lia
   have hsz:its.toArray.size <= sizeLine:=by rw [List.size_toArray]; lia
   generalize hK:(k:Int) = K at fits
   have M:=PySem.AutoListH.list_insert_list_int_val_1 l its.toArray n K t u fits hsz
   refine call_meets F.slot_list_insert ⟨_,e,rfl⟩ F.entry_list_insert (F.args_list_insert_3 _ _ _) M ⟨e,?_⟩
   subst hK
   have ei:((its.toArray.extract 0 (min (k:Int).toNat its.toArray.size)).push u ++ its.toArray.extract (min (k:Int).toNat its.toArray.size)) = (its.take k ++ u :: its.drop k).toArray:=by
    have em:min (k:Int).toNat its.toArray.size = k:=by simp; lia
    rw [em]
    apply Array.toList_inj.mp
    simp
    rw [List.take_of_length_le (by simp)]
   refine ⟨.non,_,I.lset (its':=its.take k ++ u :: its.drop k) hH e ?_ ((r.take k).append (.cons r2 (r.drop k))) ?_,rfl,q⟩
   ·have h0 : ¬ ((k : Int) < 0) := by lia
    dsimp only
    rw [if_neg h0]
    exact ei
   ·rw [List.length_append, List.length_cons, List.length_take, List.length_drop]
    lia
end
section
variable {A:AC} {X:Cx} {e1 e2:Expr} {t1:TAD} {pos:Pos}
def sInsert (i:Nat) (t:TAD):TSD:=fun F rho n=>∃ es,rho[i]? = some (some (.own es)) /\ es.length < sizeLine /\ t rho n fun ds n1=>∃ (k:Nat) (d:D),ds = [.int (k:Int),d] /\ k <= es.length /\ k <= 1000000 /\ F.nx (rho.set i (some (.own (es.take k ++ d :: es.drop k)))) n1
theorem psd_insert {i:Nat} {x:Str} {px apos cpos:Pos} (ha:PAD A X [e1,e2] t1) (hK:X.K = A.K) (hN:X.N[i]? = some x:=by rfl) (hv:Vis X.env.scope x:=by first | exact Or.inl rfl | exact Or.inr (Or.inl rfl) | exact Or.inr (Or.inr rfl)) (hd:(x == ("__debug__" : Str)) = false:=by decide)
  (hcd:(x == ("__classdict__" : Str)) = false:=by decide) (hbase:attributeBase (.Name x px) "insert" X.env (eval (.Name x px) X.env) = eval (.Name x px) X.env:=by rfl)
  (hfew : ((backTo cpos (starEach [e1, e2] X.env)).all (fun x => !x.1) && (backToKw cpos (keywordEach [] X.env)).all (fun x => x.1.isSome)
   && decide ([e1,e2].length + ([]:List Keyword).length + (if ([]:List Keyword).isEmpty then 0 else 1) < 30)) = true:=by rfl)
  (hline:(apos.endLine == cpos.line) = true:=by rfl) (hs:starEach [e1,e2] X.env = (false,eval e1 X.env) :: starEach [e2] X.env:=by rfl) (hplain:(backTo cpos (starEach [e2] X.env)).any (·.1) = false:=by rfl)
  (hsw:swapsWith (.Call (.Attribute (.Name x px) "insert" apos) [e1,e2] [] cpos) none pos.line X.env = pure false:=by rfl) :
  PSD A X (.Expr (.Call (.Attribute (.Name x px) "insert" apos) [e1,e2] [] cpos) pos) (sInsert i t1):=by
 with_unfolding_all
  exact
   (ps_expr (pe_bm PySem.F.plainAttrs_list PySem.F.slot_list_insert PySem.F.type_list_insert mt_insert (pe_var hN hv hd hcd) ha hbase hfew hline hs hplain) hsw).imp fun E sg H h => by
    obtain ⟨rho,n,F,ds,vs,⟨os,I⟩,⟨es,hi,hz,ht⟩,ok⟩:=h
    obtain ⟨a,xs,e1,hH,rs,_⟩:=I.own (es':=es) (xs':=[]) hi
    refine ⟨.ref a,e1,.inl ⟨rfl,xs,SqL.of hH⟩,rho,n,_,ds,vs,⟨os,I⟩,ht,fun ws H' n' fs ⟨os',J⟩ hl k=>?_⟩
    obtain ⟨m,d,rfl,hm,hm1,k⟩:=k
    obtain ⟨J1,rs1⟩:=J.split hl
    obtain ⟨v0,r0,rfl,ra,rs1⟩:=rs1.split
    obtain ⟨v,r1,rfl,r,rs1⟩:=rs1.split
    cases rs1.nil_inv
    cases ra.int_inv
    obtain ⟨a',xs',e2,hH',rs',up⟩:=J1.own (es':=es) (xs':=[]) hi
    rw [e1] at e2
    cases e2
    exact ⟨a,xs',m,v,rfl,rfl,hH',by rw [rs'.length]; exact hz,by rw [rs'.length]; exact hm,hm1,ok.nx _ _ _ _ ⟨os',up _ _ ((rs'.take m).append (.cons r (rs'.drop m)))⟩ k⟩
end
section
variable {A:AC} {X:Cx} {o e:Expr} {to:TD} {t1:TAD} {pos apos cpos:Pos}
def sSplitO (i:Nat) (to:TD) (t1:TAD):TSD:=fun F rho n=>i < rho.length /\ to rho n fun d n1=>strAt d fun z=>t1 rho n1 fun es n2=>∃ y,es = [.str y] /\ y.length ≠ 0 /\ z.length <= sizeLine /\ (Txt.split z y).length <= sizeLine /\ F.nx (rho.set i (some (.own ((Txt.split z y).map D.str)))) n2
theorem psd_splitO {i:Nat} {x:Str} {pos':Pos} (hN:X.N.Nodup) (hi:X.N[i]? = some x) (hx:Loc X.env.scope x) (ho:PD A X o to) (ha:PAD A X [e] t1)
  (hs':swapsWith (.Call (.Attribute o "split" apos) [e] [] cpos) (some (.Name x pos')) pos.line X.env = pure false:=by rfl) (hf:X.fn x = true \/ X.env.scope.names.lookup x = some .local:=by first | exact .inl rfl | exact .inr rfl | assumption)
  (hbase:attributeBase o "split" X.env (eval o X.env) = eval o X.env:=by rfl)
  (hfew:((backTo cpos (starEach [e] X.env)).all (fun x=>!x.1) && (backToKw cpos (keywordEach [] X.env)).all (fun x=>x.1.isSome) && decide ([e].length + ([]:List Keyword).length + (if ([]:List Keyword).isEmpty then 0 else 1) < 30)) = true:=by rfl)
  (hline:(apos.endLine == cpos.line) = true:=by rfl) (hs:starEach [e] X.env = (false,eval e X.env) :: starEach [] X.env:=by rfl) (hplain:(backTo cpos (starEach [] X.env)).any (·.1) = false:=by rfl) :
  PSD A X (.Assign [.Name x pos'] (.Call (.Attribute o "split" apos) [e] [] cpos) pos) (sSplitO i to t1):=by
 with_unfolding_all
  exact (ps_set hN hi hx (pe_bm PySem.F.plainAttrs_str PySem.F.slot_str_split PySem.F.type_str_split mt_split ho ha hbase hfew hline hs hplain) hs' hf).imp fun E sg H h=>by
   obtain ⟨rho,n,F,ds,vs,I,⟨hl,ht⟩,ok⟩:=h
   refine ⟨rho,n,_,ds,vs,I,ht,fun v H' n' d J k=>?_⟩
   obtain ⟨z,rfl,k⟩:=strAt_inv k
   have e:v = .str z:=by
    obtain ⟨os,J⟩:=J
    exact J.pop.2.toS rfl
   subst e
   refine ⟨rfl,rho,n',_,_,_,J,k,fun ws H2 n2 es' ⟨os,J2⟩ hl' k2=>?_⟩
   obtain ⟨y,rfl,hy,hz,hlen,k3⟩:=k2
   obtain ⟨rfl,J3⟩:=one_arg J2 hl'
   exact ⟨z,y,rfl,rfl,hy,hz,hlen,fun q hq=>ok.nx _ _ _ _ (J3.setOwn hl hq (reps_strs' _)) k3⟩
end
section
variable {A:AC} {X:Cx}
theorem call_int_text:CallR X (.type "int") (fun xs H Q=>∃ x n,xs = [.str x] /\ x.length <= 640 /\ PySem.intText? x = some n /\ Q (.int n) H):=by
 intro pins s σ H xs us Q I r h
 obtain ⟨x,n,rfl,h2,h3,q⟩:=h
 obtain ⟨u,rfl,t,rfl⟩:=vals1 r
 exact PySem.W.KIN.call_text h3 h2 ⟨.int n,H,I.tok _,⟨_,rfl⟩,q⟩
def kIntT:List D -> (D -> Prop) -> Prop:=fun es k=>∃ x n,es = [.str x] /\ x.length <= 640 /\ PySem.intText? x = some n /\ k (.int n)
theorem cr_intT:CallRel A (fun xs H Q=>∃ x n,xs = [.str x] /\ x.length <= 640 /\ PySem.intText? x = some n /\ Q (.int n) H) kIntT:=by
 rintro os n rho sg H ds vs es ws k Q I rs ⟨x,m,rfl,h2,h3,q⟩ hQ
 obtain ⟨v,rfl,r⟩:=reps1 rs
 exact ⟨x,m,by rw [r.toS rfl]; rfl,h2,h3,hQ _ H _ ⟨os,I.push (Rep.ofS rfl)⟩ q⟩
end
end L2
set_option maxRecDepth 100000
namespace L2
open PySem PySem.Spec PyProof.Rows
structure FlA (h:Heap) (a T:Addr) (cls fl:Value):Prop where
 ne:T ≠ a
 ex:∃ (oe oT:Obj) (vs ts:Array Value) (a0:Value),h.get? a = some oe /\ (oe.cls = cls /\ vs[0]? = some a0) /\ oe.data = .fields vs /\ vs[1]? = some (.ref T) /\ h.get? T = some oT /\ oT.data = .fields ts /\ ts[3]? = some fl
theorem FlA.of_traced {h h':Heap} {l:List Env} {hid:List Addr} {e:Addr} {cls a0 fl:Value} (ff:h'.FunFrames (PySem.W.hideAll h (hid ++ frs l)) l) (tr:h'.TracedAtW (PySem.W.hideAll h (hid ++ frs l)) e cls a0 fl):∃ T,FlA h' e T cls fl /\ (h.get? T = none \/ T ∈ hid):=by
 obtain ⟨oe,vs,T,oT,ts,h1,⟨h2,h3⟩,h4,h5,h6,h7,h8,h9,h10⟩:=tr
 refine ⟨T,⟨h7,oe,oT,vs,ts,a0,h1,⟨h2,h3⟩,h4,h5,h8,h9,h10⟩,?_⟩
 cases q:h.get? T with
 | none=>exact .inl rfl
 | some o =>
  refine .inr ?_
  by_cases hm:T ∈ hid ++ frs l
  ·rcases List.mem_append.mp hm with z | z
   ·exact z
   ·obtain ⟨_, o', ho', hd'⟩ := ff.mem (b := T) z
    rw [h8] at ho'; cases ho'
    exact absurd h9 (hd' ts)
  ·rw [PySem.W.hideAll_get _ q hm] at h6; cases h6
theorem note_frame (e:Value) {env env':Env} (h:env.frame = env'.frame):noteFrame e env = noteFrame e env':=by
 unfold noteFrame PySem.frameOf
 rw [h]
section
variable {M:Model} {A:Around} {E:Value -> Shared -> Prop} {s:Shared} {B:Heap} {env env':Env} {outer:List Env} {L e:Addr} {cls:Value} {Q:Unit -> Shared -> Prop}
theorem note_it {T:Addr} (hf:A.frames = some (env :: outer)) (ff:s.heap.FunFrames B (env :: outer)) (hL:env.frame = some L) (hfl:Fl s.heap e T cls)
  (q:∀ (h':Heap) (T':Addr),Kp (env :: outer) [e,T] s.heap h' -> FlA h' e T' cls (rawInt L) -> (s.heap.get? T' = none \/ T' = T) -> Q () { s with heap:=h' }) :
  wpAny M A (noteFrame (.ref e) env) Q E s:=by
 obtain ⟨ne,oe,oT,vs,ts,a0,h1,⟨h2,h3⟩,h4,h5,h6,h7,h8⟩:=hfl
 have ffb:=funFrames_base (b':=PySem.W.hideAll s.heap ([e,T] ++ frs (env :: outer))) ff fun x hx=>PySem.W.hideAll_none _ (List.mem_append_right _ hx)
 refine wpAny_noteFrame_onW (base:=PySem.W.hideAll s.heap ([e,T] ++ frs (env :: outer))) (cls:=cls) (a0:=a0) hf ffb hL
  ⟨oe,vs,T,oT,ts,h1,⟨h2,h3⟩,h4,h5,PySem.W.hideAll_none _ (by simp),ne,h6,h7,h8⟩ hid_stays (PySem.W.hideAll_none _ (by simp)) fun h' hl=>?_
 obtain ⟨st,ff',tr,up⟩:=hl
 obtain ⟨T',fl,hT⟩:=FlA.of_traced ff' tr
 exact q h' T' (Kp.of ff st up) fl (hT.imp_right fun z=>by
  rcases List.mem_cons.mp z with z | z
  ·exact absurd z fl.ne
  ·simpa using z)
theorem leave_any {T:Addr} {fl:Value} (hf:A.frames = some (env :: outer)) (ff:s.heap.FunFrames B (env :: outer)) (hL:env.frame = some L) (hfl:FlA s.heap e T cls fl)
  (q:∀ (h':Heap) (T':Addr),Kp (env :: outer) [e,T] s.heap h' -> Fl h' e T' cls -> (s.heap.get? T' = none \/ T' = T) -> Q () { s with heap:=h' }):wpAny M A (leaving env (.ref e)) Q E s:=by
 obtain ⟨ne,oe,oT,vs,ts,a0,h1,⟨h2,h3⟩,h4,h5,h6,h7,h8⟩:=hfl
 have ffb:=funFrames_base (b':=PySem.W.hideAll s.heap ([e,T] ++ frs (env :: outer))) ff fun x hx=>PySem.W.hideAll_none _ (List.mem_append_right _ hx)
 have nT:(PySem.W.hideAll s.heap ([e,T] ++ frs (env :: outer))).get? T = none:=PySem.W.hideAll_none _ (by simp)
 have nE:(PySem.W.hideAll s.heap ([e,T] ++ frs (env :: outer))).get? e = none:=PySem.W.hideAll_none _ (by simp)
 have ht:s.heap.TracedAtW (PySem.W.hideAll s.heap ([e,T] ++ frs (env :: outer))) e cls a0 fl:=⟨oe,vs,T,oT,ts,h1,⟨h2,h3⟩,h4,h5,nT,ne,h6,h7,h8⟩
 have fin:∀ h',(PySem.W.hideAll s.heap ([e,T] ++ frs (env :: outer))).StaysIn h' -> h'.FunFrames (PySem.W.hideAll s.heap ([e,T] ++ frs (env :: outer))) (env :: outer) -> h'.TracedW (PySem.W.hideAll s.heap ([e,T] ++ frs (env :: outer))) e cls a0 ->
   (∀ (b:Addr) (o:Obj),s.heap.get? b = some o -> (∀ vs:Array Value,o.data ≠ .fields vs) -> ∃ sl,h'.get? b = some { cls:=o.cls,dict:=o.dict,data:=o.data,slots:=sl }) -> Q () { s with heap:=h' }:=fun h' st ff' tr up=>by
  obtain ⟨T',fl,hT⟩:=Fl.of_traced ff' tr
  exact q h' T' (Kp.of ff st up) fl (hT.imp_right fun z=>by
   rcases List.mem_cons.mp z with z | z
   ·exact absurd z fl.ne
   ·simpa using z)
 by_cases hq:(fl == rawInt L) = true
 ·have eq : fl = rawInt L := by simpa using hq
  subst eq
  unfold leaving
  exact wpAny_bind (wpAny_noteFrame_againW hL ht (wpAny_setFlight_noneW (l:=env :: outer) hid_stays ffb ht fun h' k1 k2 k3 k4=>fin h' k1 k2 k3 fun b o hb hn=>⟨o.slots,k4 b o hb hn⟩))
 ·unfold leaving noteFrame
  simp only [hL]
  refine wpAny_bind (wpAny_bind (wpAny_field h1 h4 h5 ?_))
  rw [if_pos (show (Value.ref T != Value.none) = true from by simp)]
  refine wpAny_bind (wpAny_field h6 h7 h8 ?_)
  rw [if_neg hq]
  refine wpAny_bind (wpAny_setField h6 h7 (Array.getElem?_eq_some_iff.mp h8).1 ?_)
  have other:∀ b,b ≠ T -> (s.heap.update T (Obj.mapFields (·.setIfInBounds 3 Value.none))).get? b = s.heap.get? b:=fun b hb=>Heap.get?_update_other _ _ (Ne.symm hb)
  have noRecord:∀ b o,s.heap.get? b = some o -> (∀ vs,o.data ≠ .fields vs) -> b ≠ T:=fun b o hb hnf q=>by
   rw [q,h6] at hb; injection hb with hb; subst hb; exact hnf ts h7
  subst h2
  refine wpAny_newEntryW (base:=PySem.W.hideAll s.heap ([e,T] ++ frs (env :: outer))) (a0:=a0) hf (ffb.of_keeps fun b o hb hnf=>⟨o,(other b (noRecord b o hb hnf)).trans hb,rfl⟩) hL ((other e (Ne.symm ne)).trans h1)
   (fun b o hbo=>(other b fun q=>by rw [q,nT] at hbo; cases hbo).trans (hid_stays b o hbo)) nE h4 (Array.getElem?_eq_some_iff.mp h5).1 h3
   fun h' ⟨x1,x2,x3,x4⟩=>fin h' x1 x2 x3 fun b o hb hnf=>x4 b o ((other b (noRecord b o hb hnf)).trans hb) hnf
theorem pass_it {α:Type} {T:Addr} {fl:Value} {what:String} {Qa:α -> Shared -> Prop} (hfl:FlA s.heap e T cls fl) (ff:s.heap.FunFrames B outer)
  (q:∀ (h':Heap) fl',Kp outer [T] s.heap h' -> FlA h' e T cls fl' -> E (.ref e) { s with heap:=h' }):wpAny M A (PySem.passOn what (.ref e) env':Sem α) Qa E s:=by
 obtain ⟨ne,oe,oT,vs,ts,a0,h1,⟨h2,h3⟩,h4,h5,h6,h7,h8⟩:=hfl
 have hsz3:3 < ts.size:=(Array.getElem?_eq_some_iff.mp h8).1
 unfold PySem.passOn setFlight
 refine wpAny_bind (wpAny_field h1 h4 h5 ?_)
 rw [if_neg (show ¬ ((Value.ref T == Value.none) = true) from by simp)]
 refine wpAny_bind (wpAny_bind (wpAny_field h1 h4 h5 ?_))
 rw [if_pos (show (Value.ref T != Value.none) = true from by simp)]
 refine wpAny_setField h6 h7 hsz3 ?_
 have other:∀ b f,b ≠ T -> (s.heap.update T f).get? b = s.heap.get? b:=fun b f hb=>Heap.get?_update_other _ _ (Ne.symm hb)
 have hT:=Heap.get?_update_self (Obj.mapFields (·.setIfInBounds 3 (env'.frame.elim Value.none fun f=>rawInt f))) h6 (Obj.isFreed_of_fields (Obj.data_mapFields h7 _))
 refine wpAny_throw (q _ (env'.frame.elim Value.none fun f=>rawInt f) ⟨fun b o hb _ hn=>(other b _ (by simpa using hn)).trans hb,fun b o hb hm=>?_⟩ ⟨ne,oe,_,vs,_,a0,(other e _ (Ne.symm ne)).trans h1,⟨h2,h3⟩,h4,h5,hT,Obj.data_mapFields h7 _,by simp [hsz3]⟩)
 refine ⟨o.slots,(other b _ fun z=>?_).trans hb⟩
 subst z
 obtain ⟨_,o',ho',hd'⟩:=ff.mem (b:=b) hm
 rw [h6] at ho'; cases ho'
 exact hd' ts h7
end
section
variable {prog:Program} {w:World} {A:Around} {R:Result -> Shared -> Prop} {s:Shared}
theorem comp_loopX {EE:Value -> Shared -> Prop} {elt target iter:Expr} {ifs:List Expr} {scope:Scope} {pos:Pos} {it acc:Value} {env:Env} (hE:∀ e s,EE e s -> notedBy (model prog w) A env (fun e s'=>R (.error e) s') e s) (J:Nat -> Shared -> Prop)
  (turn : ∀ n s, J n s -> wpAny (model prog w) A (pyNext it) (fun r s1 => match r with
   | none=>R (.ok .next) s1
   | some v => wpAny (model prog w) A (letOwnedTupleGo target it v) (fun _ s2 => wpAny (model prog w) A (assign target env v) (fun _ s3 => wpAny (model prog w) A (cTests ifs env) (fun ok s4 =>
     if ok = true then wpAny (model prog w) A (eval elt env) (fun x s5=>wpAny (model prog w) A (call (.builtin "list.append") [acc,x]) (fun _ s6=>∃ m,m < n /\ J m s6) (fun _ _=>False) s5) EE s4
     else ∃ m,m < n /\ J m s4) (fun _ _=>False) s3) (fun _ _=>False) s2) (fun _ _=>False) s1) (fun _ _=>False) s)
  (n:Nat) (h:J n s):codeAny (model prog w) A (.compLoop (.ListComp elt [⟨target,iter,ifs,0⟩] scope pos) 0 it acc env) R s:=by
 refine codeAny_loop rfl J (fun n s hJ=>?_) n h
 show wpAny _ A ((compTurn (.ListComp elt [⟨target,iter,ifs,0⟩] scope pos) 0 it acc env).onRaise (fun x=>do noteFrame x env; theTreesLotGoes x)) _ _ s
 refine wpAny_noted ?_
 rw [compTurn_list]
 have up:∀ {α:Type} {t:Sem α} {Q Q':α -> Shared -> Prop} {E:Value -> Shared -> Prop} {s:Shared},wpAny (model prog w) A t Q (fun _ _=>False) s -> (∀ a s,Q a s -> Q' a s) -> wpAny (model prog w) A t Q' E s :=
  fun h f=>wpAny_mono h f fun _ _ z=>False.elim z
 refine wpAny_bind (wpAny_standAt (wpAny_bind (up (turn n s hJ) fun r s1 h1=>?_)))
 cases r with
 | none=>exact wpAny_pure h1
 | some v =>
  refine wpAny_bind (up h1 fun _ s2 h2=>?_)
  refine wpAny_bind (up h2 fun _ s3 h3=>?_)
  refine wpAny_bind (up h3 fun ok s4 h4=>?_)
  cases ok with
  | false=>exact wpAny_pure ⟨rfl,h4⟩
  | true=>exact wpAny_bind (wpAny_bind (wpAny_mono h4 (fun x s5 h5=>wpAny_bind (up h5 fun _ s6 h6=>wpAny_pure (wpAny_pure ⟨rfl,h6⟩))) hE))
end
section
variable {fs ex:List Addr} {H H1:Hp} {h h1 h2:Heap} {l:List Env} {hid:List Addr}
theorem Un.more (u:Un fs [] H H1 h h1):Un fs ex H H1 h h1 where
 keep:=fun b o e n hb _=>u.keep b o e n hb fun z=>nomatch z
 slot:=fun b o e n hb _=>u.slot b o e n hb fun z=>nomatch z
 free:=fun b o e n _=>u.free b o e n fun z=>nomatch z
 there:=fun b o e _=>u.there b o e fun z=>nomatch z
 tups:=u.tups
 frzs:=u.frzs
 tbls:=u.tbls
theorem Un.kpx (u:Un fs ex H H1 h h1) (k:Kp l hid h1 h2) (hl:∀ b ∈ frs l,b ∈ fs \/ h.get? b = none) (hh:∀ b ∈ hid,b ∈ ex \/ h.get? b = none):Un fs ex H H1 h h2 where
 keep:=fun b o e n hb hx=>k.keep b o (u.keep b o e n hb hx) (fun z=>(hl b z).elim hb fun q=>by rw [e] at q; cases q) fun z=>(hh b z).elim hx fun q=>by rw [e] at q; cases q
 slot:=fun b o e n hb hx=>by
  obtain ⟨sl,e1⟩:=u.slot b o e n hb hx
  by_cases hm:b ∈ frs l
  ·obtain ⟨sl', e2⟩ := k.slot b _ e1 hm
   exact ⟨sl',e2⟩
  ·exact ⟨sl,k.keep b _ e1 hm fun z=>(hh b z).elim hx fun q=>by rw [e] at q; cases q⟩
 free:=u.free
 there:=fun b o e hx=>by
  obtain ⟨o',e1⟩:=u.there b o e hx
  by_cases hm:b ∈ frs l
  ·obtain ⟨sl', e2⟩ := k.slot b _ e1 hm
   exact ⟨_,e2⟩
  ·exact ⟨_,k.keep b _ e1 hm fun z=>(hh b z).elim hx fun q=>by rw [e] at q; cases q⟩
 tups:=u.tups
 frzs:=u.frzs
 tbls:=u.tbls
end
def PassC (X:Cx) (EX:XK):Prop:=∀ (pins:List (Addr × Obj)) (σ:St) (H:Hp) (s:Shared) (a T:Addr) (cls fl:Value),Inv X pins σ H s -> FlA s.heap a T cls fl -> X.s₀.heap.get? a = none -> X.s₀.heap.get? T = none -> H a = none -> H T = none -> EX cls none H -> X.xe (.ref a) s
def xeB (X Y:Cx) (EX:XK):Value -> Shared -> Prop:=fun e s'=>∃ (pins:List (Addr × Obj)) (σ:St) (H1:Hp) (s1:Shared),Inv Y pins σ H1 s1 /\ CX1 X.prog X.w X.stack H1 s1 EX e s'
abbrev cxCompE (EX:XK) (X:Cx) (scope:Scope) (own M:List Str) (C:Addr) (s2:Shared) (H2:Hp) (fp:List Addr):Cx:=(cxComp X scope own M C s2 H2 fp).wish (xeB X (cxComp X scope own M C s2 H2 fp) EX)
theorem passB {EX:XK} {X:Cx} {scope:Scope} {own M:List Str} {C:Addr} {s2:Shared} {H2:Hp} {fp:List Addr}:Passes (CX1 X.prog X.w) (cxCompE EX X scope own M C s2 H2 fp) EX:=fun pins σ H s e s' I hq=>⟨pins,σ,H,s,I.unwish,hq⟩
section
variable {P:Program} {w:World} {K:PySem.W.Frag} {mg:Str -> Option Value} {base:Heap} {N:List Str} {qual:Str} {scope:Scope} {f:Addr} {cd:Value} {A0:Around} {outer:List Env} {s:Shared} {H:Hp} {E:XK} {G:Option Addr} {Z:Addr -> Prop} {C:Addr} {R:Nat -> Prop}
theorem passC (hE:∀ H',XD ⟨K,G,Z,H⟩ C R (.ref C) none H' -> E (.ref C) none H'):PassC (cxOf (CX1 P w) P w K mg base N qual scope f cd A0 outer s H E) (XD ⟨K,G,Z,H⟩ C R):=by
 intro pins σ H2 s2 a T cls fl I2 hfl a0 T0 aH TH q
 have un0:Un (frs outer) [] H H2 s.heap s2.heap:=I2.base
 have fr:∀ b ∈ frs (envOfC qual scope s.heap.objs.size f cd :: outer),H2 b = none:=I2.stkFree
 show wpAny _ _ (leaving (envOfC qual scope s.heap.objs.size f cd) (.ref a)) _ _ _
 refine leave_any (s:=s2) (B:=base) (outer:=outer) (L:=s.heap.objs.size) I2.ok.frames I2.stack rfl hfl fun h3 T' kp fl' hT'=>?_
 have T1:s.heap.get? T' = none:=by
  rcases hT' with hT' | rfl
  ·cases q : s.heap.get? T' with
   | none=>rfl
   | some o =>
    obtain ⟨o',z⟩:=un0.there T' o q (fun z=>nomatch z)
    rw [hT'] at z; cases z
  ·exact T0
 have T2:H2 T' = none:=by
  rcases hT' with hT' | rfl
  ·exact I2.hok.nil_at hT'
  ·exact TH
 obtain ⟨rfl,q⟩:=q
 refine ⟨a,T',_,H2,rfl,I2.os,I2.bare,un0.kp kp (fun b hb=>?_) (fun b hb=>?_),I2.hok.kp kp fr (fun b hb=>?_),fl',a0,T1,aH,T2,hE H2 ⟨rfl,q⟩⟩
 ·rcases List.mem_cons.mp (I2.stkSub b hb) with z | z
  ·right
   rw [z]
   exact Heap.get?_none_of_le (Nat.le_refl _)
  ·exact .inl z
 ·rcases List.mem_cons.mp hb with rfl | hb
  ·exact a0
  ·rw [List.mem_singleton.mp hb]; exact T0
 ·rcases List.mem_cons.mp hb with rfl | hb
  ·exact aH
  ·rw [List.mem_singleton.mp hb]; exact TH
end
section
variable {X:Cx} {scope:Scope} {own M:List Str} {pins:List (Addr × Obj)} {σ:St} {H2:Hp} {s2:Shared} {tg iter elt:Expr} {ifs:List Expr} {pos:Pos} {g:TG} {tt:TT} {te:TE}
theorem comp_coreX {EX:XK} (hp:PassC X EX) (hex:X.ex = []) (hst:X.stack = X.env :: X.outer) (hfr:X.env.frame = some X.env.locals) (ok:CompOk X scope M) (hc:X.calm = true) (hg:∀ C s2 H2 fp,PG (cxComp X scope own M C s2 H2 fp) tg g) (ht:∀ C s2 H2 fp,PTs (cxComp X scope own M C s2 H2 fp) ifs tt) (he:∀ C s2 H2 fp,PE (cxCompE EX X scope own M C s2 H2 fp) elt te)
  (I2:Inv X pins σ H2 s2) {it:Addr} {fp:List Addr} {tn:Nat -> Heap -> Prop} {J:It} (T:Turn X.prog X.w X.K tg J fp it tn) (st2:tn 0 s2.heap) (f2:∀ b ∈ fp,FpOk X pins H2 b)
  {W:Nat -> Nat -> List V -> Hp -> Prop} (w0:∃ m,W 0 m [] H2) {Qf:V -> Hp -> Prop}
  (turn : ∀ i m acc H, W i m acc H -> (J.stop i H /\ acc.length <= sizeLine /\ ∀ D, H D = none -> Qf (.ref D) (upd H D (.lst acc))) \/
   (J.go i H /\ acc.length < sizeLine /\ ∀ x H', J.yld i H x H' -> g x (List.replicate own.length none ++ σ) H' fun σ2 H2 => σ2.drop own.length = σ /\ tt σ2 H2 fun c H3 =>
    if c = true then te σ2 H3 fun v H4=>∃ m',m' < m /\ W (i + 1) m' (acc ++ [v]) H4 else ∃ m',m' < m /\ W (i + 1) m' acc H3))
  {RR:Value -> Addr -> Result -> Shared -> Prop} {E:Value -> Shared -> Prop}
  (hRR:∀ acc C e (s':Shared),(∃ m,s'.heap.Ns C m /\ ∀ h',Heap.SameBut C s'.heap h' -> ∀ cenv:Env,cenv.locals = C -> wpAny (model X.prog X.w) X.A (PySem.passOn "comprehension.variables-let-go" e cenv:Sem Value) (fun _ _=>False) X.xe { s' with heap:=h' }) -> RR acc C (.error e) s')
  (fin:∀ D C H' s' m,Inv X pins σ H' s' -> Qf (.ref D) H' -> s'.heap.Ns C m -> H' C = none -> C ≠ X.env.locals -> X.s₀.heap.objs.size <= C -> (∀ x c,X.env.cells.lookup x = some c -> c ≠ C) -> (∀ p ∈ X.pn ++ pins,p.1 ≠ C) -> RR (.ref D) C (.ok .next) s') :
  wpAny (model X.prog X.w) X.A (newList []) (fun acc s3=>wpAny (model X.prog X.w) X.A (newFunctionEnv scope X.env.globals (closL X.env scope.names []) [] X.env.qual none .none (some X.env)) (fun cenv s4 =>
   codeAny (model X.prog X.w) X.A (.compStart (.ListComp elt [⟨tg,iter,ifs,0⟩] scope pos) 0 (.ref it) acc { cenv with scope:=relabel scope X.env }) (RR acc cenv.locals) s4) E s3) E s2:=by
 refine wpAny_newObj_type (newEnv_comp ?_)
 have zC:(s2.heap.push { cls:=.type "list",dict:=none,data:=.seq ([]:List Value).toArray }).objs.size = s2.heap.objs.size + 1:=Heap.size_push ..
 dsimp only
 rw [zC]
 generalize hC:s2.heap.objs.size + 1 = C
 generalize hh:pushCells ((s2.heap.push { cls:=.type "list",dict:=none,data:=.seq ([]:List Value).toArray }).push { cls:=.type "dict",data:=.dict #[] }) scope.names = h4
 have fpl:∀ b ∈ fp,FpOk X pins H2 b /\ b < s2.heap.objs.size:=fun b hb=>by
  obtain ⟨o,e,_⟩:=T.obj 0 _ st2 b hb
  exact ⟨f2 b hb,Heap.lt_size e⟩
 have I4:Inv (cxComp X scope own M C s2 H2 fp) [] (List.replicate own.length none ++ σ) H2 { s2 with heap:=h4 }:=inv_comp ok hc I2 fpl hC.symm hh.symm
 generalize hX:cxComp X scope own M C s2 H2 fp = X' at I4
 have keep4:∀ b o,s2.heap.get? b = some o -> h4.get? b = some o:=fun b o e=>by
  rw [<- hh]; exact pushCells_keeps _ _ _ _ (Heap.get?_push_of_some _ (Heap.get?_push_of_some _ e))
 have hD4:h4.get? s2.heap.objs.size = some { cls:=.type "list",dict:=none,data:=.seq ([]:List Value).toArray }:=by
  rw [<- hh]; exact pushCells_keeps _ _ _ _ (Heap.get?_push_of_some _ (Heap.get?_push_size _ rfl))
 have st4:tn 0 h4:=T.keep _ _ _ st2 fun b hb o e=>keep4 b o e
 have gg:PG X' tg g:=by rw [<- hX]; exact hg C s2 H2 fp
 have gt:PTs X' ifs tt:=by rw [<- hX]; exact ht C s2 H2 fp
 have ge:PE (X'.wish (xeB X X' EX)) elt te:=by rw [<- hX]; exact he C s2 H2 fp
 have xP:X'.prog = X.prog:=by rw [<- hX]; rfl
 have xw:X'.w = X.w:=by rw [<- hX]; rfl
 have xK:X'.K = X.K:=by rw [<- hX]; rfl
 have xA:X'.A = X.A:=by rw [<- hX]; rfl
 have xc:X'.calm = true:=by rw [<- hX]; exact hc
 have xpn:X'.pn = []:=by rw [<- hX]; rfl
 have xs:X'.s₀ = s2:=by rw [<- hX]; rfl
 have xH:X'.H₀ = H2:=by rw [<- hX]; rfl
 have xL:X'.env.locals = C:=by rw [<- hX]; rfl
 have xfs:X'.fs = frs X.stack:=by rw [<- hX]; rfl
 have xex:X'.ex = fp:=by rw [<- hX]; rfl
 have xe:X'.xe = fun _ _=>False:=by rw [<- hX]; rfl
 have xenv:({ newEnv scope C X.env.globals (cellsFrom (C + 1) scope.names (closL X.env scope.names [])) X.env.qual none .none (some X.env) builtinsNs with scope:=relabel scope X.env }:Env) = X'.env:=by rw [<- hX]; rfl
 have Dlt:s2.heap.objs.size < C:=by rw [<- hC]; exact Nat.lt_succ_self _
 have fpb:∀ {pl:List (Addr × Obj)} {H:Hp},(∀ b ∈ fp,H b = none) -> (∀ p ∈ pl,p.1 ∉ fp) -> ∀ b ∈ fp,FpOk X' pl H b:=fun {pl H} hn hpl b hb=>by
  refine ⟨hn b hb,?_,?_,.inl (by rw [xex]; exact hb),fun x c e=>(I4.ok.exf b (by rw [xex]; exact hb)).2 x c e,fun p hp z=>?_⟩
  ·exact (I4.ok.exf b (by rw [xex]; exact hb)).1
  ·exact I4.ok.exfs b (by rw [xex]; exact hb)
  ·rw [xpn, List.nil_append] at hp
   exact hpl p hp (by rw [z]; exact hb)
 have Dfp:s2.heap.objs.size ∉ fp:=fun z=>Nat.lt_irrefl _ (fpl _ z).2
 have DC:s2.heap.objs.size ≠ C:=Nat.ne_of_lt Dlt
 have Dcell:∀ x c,X'.env.cells.lookup x = some c -> c ≠ s2.heap.objs.size:=fun x c e z=>by
  obtain ⟨v,o,q,hd⟩:=I4.cell x c e
  rw [z] at q
  have q':h4.get? s2.heap.objs.size = some o:=q
  rw [hD4] at q'
  cases q'
  cases hd
 have Dfs:s2.heap.objs.size ∉ X'.fs:=fun z=>by
  obtain ⟨_,o,ho,_⟩:=I4.ok.funs.mem (by exact z)
  rw [xs] at ho
  exact Nat.lt_irrefl _ (Heap.lt_size ho)
 have hEE : ∀ e s', xeB X X' EX e s' -> notedBy (model X.prog X.w) X.A X'.env (fun e s'' => RR (.ref s2.heap.objs.size) C (.error e) s'') e s' := by
  rintro e s' ⟨pins1,σ1,H1,s1,I1,a,T,cls,H',rfl,hos,hbare,un,hok,fl,a0,T0,aH,TH,q⟩
  have xfr:X'.env.frame = X.env.frame:=by rw [<- hX]; rfl
  have un1:Un (frs X.stack) fp H2 H1 s2.heap s1.heap:=by
   have:=I1.base
   rw [xfs,xex,xH,xs] at this
   exact this
  have un2:Un (frs X.stack) fp H2 H' s2.heap s'.heap:=un1.trans un.more
  have fresh:∀ {b},s1.heap.get? b = none -> b ∈ fp \/ s2.heap.get? b = none:=fun {b} hb=>by
   by_cases hf:b ∈ fp
   ·exact .inl hf
   ·cases z : s2.heap.get? b with
    | none=>exact .inr rfl
    | some o =>
     obtain ⟨o',z'⟩:=un1.there b o z hf
     rw [hb] at z'; cases z'
  have os:s'.os = s2.os:=hos.trans (by rw [I1.os,xs])
  have hch:∀ b ∈ fp,(b ∈ X.ex \/ X.s₀.heap.objs.size <= b) /\ b ≠ X.env.locals /\ (∀ x c,X.env.cells.lookup x = some c -> c ≠ b) /\ ∀ p ∈ X.pn ++ pins,p.1 ≠ b:=fun b hb=>by
   obtain ⟨_,f1,_,f3,f4,f5⟩:=f2 b hb
   exact ⟨f3,f1,f4,f5⟩
  have IX:Inv X pins σ H' s':=I2.call' os un2 hok hbare hch
  obtain ⟨m,hm,_⟩:=I1.loc
  rw [xL] at hm
  have hC1:H1 C = none:=by have:=I1.free; rw [xL] at this; exact this
  have Cfr:C ∉ frs X.stack:=fun z=>by
   obtain ⟨_,o,ho,_⟩:=I2.stack.mem (b:=C) z
   exact Nat.lt_irrefl _ (Nat.lt_trans (Heap.lt_size ho) Dlt)
  obtain ⟨oC,es,ep,hoC,hrC⟩:=hm
  have hoC':s'.heap.get? C = some oC:=un.keep C oC hoC hC1 Cfr fun z=>nomatch z
  have hCH:H' C = none:=un.free C oC hoC hC1 fun z=>nomatch z
  have aC:a ≠ C:=fun z=>by rw [z,hoC] at a0; cases a0
  have TC:T ≠ C:=fun z=>by rw [z,hoC] at T0; cases T0
  have ffr:X.A.frames = some (X.env :: X.outer):=by rw [<- hst]; exact I2.ok.frames
  have ff':s'.heap.FunFrames X.base (X.env :: X.outer):=by rw [<- hst]; exact IX.stack
  show wpAny _ _ (noteFrame (.ref a) X'.env) _ _ s'
  rw [note_frame _ xfr]
  refine note_it (outer:=X.outer) (B:=X.base) ffr ff' hfr fl fun h3 T3 kp3 fl3 hT3=>?_
  have n3:(T3 ∈ fp \/ s2.heap.get? T3 = none) /\ H' T3 = none /\ T3 ≠ C:=by
   rcases hT3 with z | rfl
   ·refine ⟨?_, hok.nil_at z, fun y => by rw [y, hoC'] at z; cases z⟩
    by_cases hf:T3 ∈ fp
    ·exact .inl hf
    ·cases y : s2.heap.get? T3 with
     | none=>exact .inr rfl
     | some o =>
      obtain ⟨o',z'⟩:=un2.there T3 o y hf
      rw [z] at z'; cases z'
   ·exact ⟨fresh T0,TH,TC⟩
  have hC3:h3.get? C = some oC:=kp3.keep C oC hoC' (by rw [<- hst]; exact Cfr) (by simp [Ne.symm aC,Ne.symm TC])
  refine hRR _ _ _ _ ⟨m,⟨oC,es,ep,hC3,hrC⟩,fun h4 hs4 cenv hcv=>?_⟩
  have kp4:Kp (X.env :: X.outer) [C] h3 h4:=⟨fun b o hb _ hn=>hs4.extBut b o (by simpa using hn) hb,fun b o hb hm=>⟨o.slots,hs4.extBut b o (fun z=>Cfr (by rw [hst,<- z]; exact hm)) hb⟩⟩
  have fl4:FlA h4 a T3 cls (rawInt X.env.locals):=by
   obtain ⟨ne,oe,oT,vs,ts,a1,h1,h2,h4',h5,h6,h7⟩:=fl3
   exact ⟨ne,oe,oT,vs,ts,a1,hs4.extBut _ _ aC h1,h2,h4',h5,hs4.extBut _ _ n3.2.2 h6,h7⟩
  have mk:∀ (h':Heap) (hid:List Addr),Kp (X.env :: X.outer) hid s'.heap h' -> (∀ b ∈ hid,(b ∈ fp \/ s2.heap.get? b = none) /\ H' b = none) -> Inv X pins σ H' { s' with heap:=h' }:=fun h' hid kp hh =>
   I2.call' (s':={ s' with heap:=h' }) os (un2.kpx kp (fun b hb=>.inl (by rw [hst]; exact hb)) fun b hb=>(hh b hb).1) (hok.kp kp (fun b hb=>IX.stkFree b (by rw [hst]; exact hb)) fun b hb=>(hh b hb).2) hbare hch
  have hCn:(C ∈ fp \/ s2.heap.get? C = none) /\ H' C = none:=⟨.inr (Heap.get?_none_of_le (Nat.le_of_lt Dlt)),hCH⟩
  have hh4:∀ b ∈ [a,T] ++ [C],(b ∈ fp \/ s2.heap.get? b = none) /\ H' b = none:=fun b hb=>by
   simp only [List.cons_append,List.nil_append,List.mem_cons,List.mem_nil_iff,or_false] at hb
   rcases hb with rfl | rfl | rfl
   ·exact ⟨fresh a0,aH⟩
   ·exact ⟨fresh T0,TH⟩
   ·exact hCn
  have ff4:h4.FunFrames X.base (X.env :: X.outer):=by rw [<- hst]; exact (mk h4 _ (kp3.trans kp4) hh4).stack
  refine pass_it (s:={ s' with heap:=h4 }) (outer:=X.env :: X.outer) (B:=X.base) fl4 ff4 fun h5 fl5 kp5 fl5'=>?_
  have far:∀ {b:Addr},(b ∈ fp \/ s2.heap.get? b = none) -> X.s₀.heap.get? b = none:=fun {b} hb=>by
   cases z:X.s₀.heap.get? b with
   | none=>rfl
   | some o =>
    obtain ⟨o',z'⟩:=I2.base.there b o z (by rw [hex]; exact fun y=>nomatch y)
    rcases hb with hb | hb
    ·rcases (hch b hb).1 with y | y
     ·rw [hex] at y; cases y
     ·exact absurd (Heap.lt_size z) (Nat.not_lt.mpr y)
    ·rw [hb] at z'; cases z'
  refine hp pins σ H' _ a T3 cls fl5 (mk h5 _ ((kp3.trans kp4).trans kp5) fun b hb=>?_) fl5' (far (fresh a0)) (far n3.1) aH n3.2.1 q
  rcases List.mem_append.mp hb with hb | hb
  ·exact hh4 b hb
  ·rw [List.mem_singleton.mp hb]; exact ⟨n3.1,n3.2.1⟩
 rw [xenv]
 have goal:∀ s5:Shared,s5 = { s2 with heap:=h4 } -> codeAny (model X.prog X.w) X.A (.compLoop (.ListComp elt [⟨tg,iter,ifs,0⟩] scope pos) 0 (.ref it) (.ref s2.heap.objs.size) X'.env) (RR (.ref s2.heap.objs.size) C) s5:=by
  rintro s5 rfl
  obtain ⟨m0,w0⟩:=w0
  refine comp_loopX (EE:=xeB X X' EX) hEE (fun n s'=>∃ i acc σ' H' its k,Inv X' [] σ' H' s' /\ σ'.drop own.length = σ /\ tn i s'.heap /\ (∀ b ∈ fp,H' b = none) /\ H' s2.heap.objs.size = none /\
   s'.heap.get? s2.heap.objs.size = some { cls:=.type "list",data:=.seq (List.toArray its) k } /\ Vals acc its /\ W i n acc H') ?_ m0
   ⟨0,[],_,H2,[],0,I4,by simp,st4,fun b hb=>(f2 b hb).1,I2.hok.fresh (Nat.le_refl _),hD4,.nil,w0⟩
  rintro n s3 ⟨i,acc,σ3,H3,its,k,I3,hσ,st3,fr3,hD,hDo,rv,w3⟩
  have pinD:∀ {H:Hp} {s:Shared} {σ:St},Inv X' [] σ H s -> H s2.heap.objs.size = none -> s.heap.get? s2.heap.objs.size = some { cls:=.type "list",data:=.seq (List.toArray its) k } ->
    Inv X' [(s2.heap.objs.size,{ cls:=.type "list",data:=.seq (List.toArray its) k })] σ H s:=fun {H s σ} I hn ho=>I.pins_of fun p hp=>by
   have e:p = (s2.heap.objs.size,{ cls:=.type "list",data:=.seq (List.toArray its) k }):=by simpa using hp
   subst e
   exact ⟨ho,hn,by rw [xL]; exact DC,Dfs,fun v z=>by cases z⟩
  have plD:∀ p ∈ [((s2.heap.objs.size,{ cls:=.type "list",data:=.seq (List.toArray its) k }):Addr × Obj)],p.1 ∉ fp:=fun p hp=>by
   have e:p = (s2.heap.objs.size,{ cls:=.type "list",data:=.seq (List.toArray its) k }):=by simpa using hp
   subst e
   exact Dfp
  have I3':=pinD I3 hD hDo
  rcases turn i n acc H3 w3 with ⟨stop,hsz,q⟩ | ⟨go,hsz,step⟩
  ·have := T.done X' xP xw xK xc i _ s3 σ3 H3 (fun _ _ => False) I3' (fpb fr3 plD) st3 stop
   rw [xA] at this
   refine thn this fun r s4 ⟨hr,I5⟩=>?_
   subst hr
   have hDo5:=(I5.pin (s2.heap.objs.size,{ cls:=.type "list",data:=.seq (List.toArray its) k }) (by rw [xpn]; simp)).1
   have un:Un (frs X.stack) fp H2 H3 s2.heap s4.heap:=by
    have:=I5.base
    rw [xfs,xex,xH,xs] at this
    exact this
   have os:s4.os = s2.os:=by rw [I5.os,xs]
   have hok:HOk X.prog X.w H3 s4.heap:=by have:=I5.hok; rw [xP,xw] at this; exact this
   have IX:Inv X pins σ H3 s4:=I2.call' os un hok I5.bare fun b hb=>by
    obtain ⟨_,f1,_,f3,f4,f5⟩:=f2 b hb
    exact ⟨f3,f1,f4,f5⟩
   have old:∀ {b:Addr},s2.heap.objs.size <= b -> (X.s₀.heap.objs.size <= b /\ b ≠ X.env.locals /\ (∀ x c,X.env.cells.lookup x = some c -> c ≠ b) /\ ∀ p ∈ X.pn ++ pins,p.1 ≠ b):=fun {b} hb=>by
    obtain ⟨_,f1,_,f3,f4,f5⟩:=I2.fpOk (H':=fun _=>none) hb rfl
    exact ⟨Nat.le_trans I2.sz hb,f1,f4,f5⟩
   obtain ⟨d1,d2,d3,d4⟩:=old (Nat.le_refl s2.heap.objs.size)
   obtain ⟨c1,c2,c3,c4⟩:=old (b:=C) (Nat.le_of_lt Dlt)
   have IY:Inv X pins σ (upd H3 s2.heap.objs.size (.lst acc)) s4:=IX.track hD d1 d2 d3 d4 ⟨hsz,its,k,rv,hDo5⟩
   obtain ⟨m,hm,_⟩:=I5.loc
   rw [xL] at hm
   have hCn:H3 C = none:=by have:=I5.free; rw [xL] at this; exact this
   exact fin _ C _ s4 m IY (q _ hD) hm (by rw [upd_ne (Ne.symm DC)]; exact hCn) c2 c1 c3 c4
  ·have := T.item X' xP xw xK xc i _ s3 σ3 H3 (fun _ _ => False) I3' (fpb fr3 plD) st3 go
   rw [xA] at this
   refine thn this fun r s4 ⟨u,hr,h4⟩=>?_
   subst hr
   refine thn h4 fun _ s5 ⟨x,H5,I5,r5,y5,st5,fr5⟩=>?_
   have hσn:∀ (j:Nat) v,(List.replicate own.length none ++ σ)[j]? = some (some v) -> σ3[j]? = some (some v):=fun j v e=>by
    by_cases hlt:j < own.length
    ·rw [List.getElem?_append_left (by simpa using hlt), List.getElem?_replicate, if_pos hlt] at e
     cases e
    ·have hle := Nat.le_of_not_lt hlt
     rw [List.getElem?_append_right (by simpa using hle),List.length_replicate,<- hσ,List.getElem?_drop] at e
     rw [show own.length + (j - own.length) = j by lia] at e
     exact e
   have hlen:(List.replicate own.length none ++ σ).length = σ3.length:=by
    have e1:σ3.length = X'.N.length:=I5.len
    have e2:=I4.len
    exact e2.trans e1.symm
   have I5w:Inv X' _ (List.replicate own.length none ++ σ) H5 s5:=I5.weak hlen hσn
   have I5p:=I5w.pinned (fpb fr5 plD) (T.obj _ _ st5)
   have a1:=gg _ s5 _ H5 x u _ I5p r5 (step x H5 y5)
   rw [xP,xw,xA,xe] at a1
   refine thn a1 fun _ s6 ⟨σ6,H6,I6,d6,q6⟩=>?_
   have a2:=gt _ s6 σ6 H6 _ I6 q6
   rw [xP,xw,xA,xe] at a2
   refine thn a2 fun b s7 ⟨H7,I7,q7⟩=>?_
   have pin7:∀ {H:Hp} {s:Shared},Inv X' ([((s2.heap.objs.size,{ cls:=.type "list",data:=.seq (List.toArray its) k }):Addr × Obj)] ++ pinsAt fp s5.heap) σ6 H s ->
     (tn (i + 1) s.heap /\ (∀ b ∈ fp,H b = none) /\ H s2.heap.objs.size = none /\ s.heap.get? s2.heap.objs.size = some { cls:=.type "list",data:=.seq (List.toArray its) k } /\ Inv X' [] σ6 H s):=fun {H s} I=>by
    refine ⟨T.keep _ _ _ st5 fun b hb o e=>(I.pin (b,o) (List.mem_append_right _ (List.mem_append_right _ (mem_pinsAt hb e)))).1,fun b hb=>?_,?_,?_,I.pins_of fun p hp=>by simp at hp⟩
    ·obtain ⟨o, e, d⟩ := T.obj _ _ st5 b hb
     exact (I.pin (b,o) (List.mem_append_right _ (List.mem_append_right _ (mem_pinsAt hb e)))).2.1
    ·exact (I.pin (s2.heap.objs.size,{ cls:=.type "list",data:=.seq (List.toArray its) k }) (by rw [xpn]; simp)).2.1
    ·exact (I.pin (s2.heap.objs.size,{ cls:=.type "list",data:=.seq (List.toArray its) k }) (by rw [xpn]; simp)).1
   cases b with
   | false =>
    obtain ⟨p1,p2,p3,p4,p5⟩:=pin7 I7
    obtain ⟨m',hm,w7⟩:=q7
    exact ⟨m',hm,i + 1,acc,σ6,H7,its,k,p5,d6,p1,p2,p3,p4,rv,w7⟩
   | true =>
    rw [if_pos rfl] at q7 ⊢
    have a3:wpAny (model X'.prog X'.w) X'.A (eval elt X'.env) _ (xeB X X' EX) s7:=ge _ s7 σ6 H7 _ (I7.wish _) q7
    rw [xP,xw,xA] at a3
    refine wpAny_mono a3 (fun y s8 ⟨v,H8,I8',r8,q8⟩=>?_) fun _ _ z=>z
    have I8:=I8'.unwish
    obtain ⟨p1,p2,p3,p4,p5⟩:=pin7 I8
    obtain ⟨m',hm,w8⟩:=q8
    have hl:=rv.length
    refine wpAny_list_append_plain (items:=List.toArray its) ⟨k,p4⟩ (fun h' hpl hs=>?_) (by simp; lia)
    obtain ⟨k',hpl⟩:=hpl
    have I9:Inv X' [] σ6 H8 { s8 with heap:=h' }:=p5.turned (t':=s8.toks) (fun b o hb e=>hs.extBut b o hb e) p3 (by rw [xL]; exact DC) (.inr (by rw [xs]; exact Nat.le_refl _)) Dcell (fun p hp=>by rw [xpn] at hp; simp at hp)
    refine ⟨m',hm,i + 1,acc ++ [v],σ6,H8,its ++ [y],k',I9,d6,T.keep _ _ _ p1 fun b hb o e=>hs.extBut b o (fun z=>Dfp (by rw [<- z]; exact hb)) e,p2,p3,?_,rv.append (.cons r8 .nil),w8⟩
    rw [hpl]; simp
 exact codeAny_compStart_list (goal _ rfl) (T.self _ 0 _ _ _ st4 (goal _ rfl))
theorem pe_compX {EX:XK} {wi:TI} (hp:PassC X EX) (hex:X.ex = []) (hst:X.stack = X.env :: X.outer) (hfr:X.env.frame = some X.env.locals) (ok:CompOk X scope M) (hc:X.calm = true) (hi:PI X tg iter wi) (hg:∀ C s2 H2 fp,PG (cxComp X scope own M C s2 H2 fp) tg g) (ht:∀ C s2 H2 fp,PTs (cxComp X scope own M C s2 H2 fp) ifs tt)
  (he:∀ C s2 H2 fp,PE (cxCompE EX X scope own M C s2 H2 fp) elt te) (hs:∀ x,foldedSetIterable iter X.env x = pure x:=by intro _; rfl) :
  PE X (.ListComp elt [⟨tg,iter,ifs,0⟩] scope pos) (tComp wi own.length g tt te):=by
 intro pins s σ H Q I h
 rw [eval_ListComp]
 refine wpAny_comprehension_free (use:=none) rfl hs (clos_for (ok.cells I)) ok.kind (fun x hx hl=>by rw [ok.uniq x hx,hl]) ?_
 refine thn (hi pins s σ H _ I h) fun v s1 h1=>thn h1 fun itv s2 h2=>?_
 obtain ⟨it,fp,tn,J,H2,e,I2,T,st2,f2,W,w0,turn⟩:=h2
 subst e
 refine comp_coreX (Qf:=Q) hp hex hst hfr ok hc hg ht he I2 T st2 f2 w0 turn (fun _ _ _ _ z=>z) fun D C H' s' m IY q hm hCn c2 c1 c3 c4=>⟨m,hm,fun h' hs'=>?_⟩
 exact ⟨.ref D,H',IY.turned (t':=s'.toks) (fun b o hb e=>hs'.extBut b o hb e) hCn c2 (.inr c1) c3 c4,rfl,q⟩
theorem ps_setCompX {EX:XK} {wi:TI} (hp:PassC X EX) (hex:X.ex = []) (hst:X.stack = X.env :: X.outer) (hfr:X.env.frame = some X.env.locals) {i:Nat} {x:Str} {pos' spos:Pos} (hN:X.N.Nodup) (hix:X.N[i]? = some x) (hx:Loc X.env.scope x) (ok:CompOk X scope M) (hc:X.calm = true) (hi:PI X tg iter wi) (hg:∀ C s2 H2 fp,PG (cxComp X scope own M C s2 H2 fp) tg g)
  (ht:∀ C s2 H2 fp,PTs (cxComp X scope own M C s2 H2 fp) ifs tt) (he:∀ C s2 H2 fp,PE (cxCompE EX X scope own M C s2 H2 fp) elt te)
  (hsw:swapsWith (.ListComp elt [⟨tg,iter,ifs,0⟩] scope pos) (some (.Name x pos')) spos.line X.env = pure true:=by rfl) (hf:X.fn x = true \/ X.env.scope.names.lookup x = some .local:=by first | exact .inl rfl | exact .inr rfl | assumption)
  (hs:∀ x,foldedSetIterable iter X.env x = pure x:=by intro _; rfl):PS X (.Assign [.Name x pos'] (.ListComp elt [⟨tg,iter,ifs,0⟩] scope pos) spos) (tAsg (tComp wi own.length g tt te) (gName i)):=by
 intro pins s σ H D I h
 rw [exec_Assign_Name_used _ _ _ _ hsw]
 refine wpAny_bind (wpAny_standAt (wpAny_bind ?_))
 show wpAny _ _ (do let _ <- comprehension (.ListComp elt [⟨tg,iter,ifs,0⟩] scope pos) scope X.env _ (newList []) false (eval iter X.env) (some (assign (.Name x pos') X.env))) _ _ s
 refine wpAny_bind (thn (wpAny_comprehension_free (use:=some (assign (.Name x pos') X.env)) (Q:=fun _ s'=>SP X pins D .next s') rfl hs (clos_for (ok.cells I)) ok.kind (fun x hx hl=>by rw [ok.uniq x hx,hl]) ?_)
  fun _ s' hq=>wpAny_pure (wpAny_pure hq))
 refine thn (hi pins s σ H _ I h) fun v s1 h1=>thn h1 fun itv s2 h2=>?_
 obtain ⟨it,fp,tn,J,H2,e,I2,T,st2,f2,W,w0,turn⟩:=h2
 subst e
 refine comp_coreX (Qf:=fun x H1=>gName i x σ H1 D.nx) hp hex hst hfr ok hc hg ht he I2 T st2 f2 w0 turn (fun _ _ _ _ z=>z) fun D' C H' s' m IY q hm hCn c2 c1 c3 c4=>?_
 show wpAny _ _ (assign (.Name x pos') X.env (.ref D')) _ _ s'
 refine wpAny_assign_Name (store_ok2 IY hN hix hx (v:=.ref D') rfl (fun s'' I'' ⟨a,hsb,ha⟩=>?_) hf)
 have hCa:C ≠ a:=by
  rcases ha with z | z
  ·rw [z]; exact c2
  ·exact fun e=>c3 x a z e.symm
 exact ⟨m,hm.sameBut hsb hCa,fun h' hs'=>⟨_,H',I''.turned (t':=s''.toks) (fun b o hb e=>hs'.extBut b o hb e) hCn c2 (.inr c1) c3 c4,q⟩⟩
end
section
variable {A:AC} {X:Cx} {scope:Scope} {own M:List Str} {tg iter elt:Expr} {ifs:List Expr} {pos:Pos} {it:TID} {g:TGD} {tt:TBD} {te:TD} {C:Addr} {R:Nat -> Prop}
theorem pd_compX (hp:PassC X (XD A C R)) (ok:CompOk X scope M) (hc:X.calm = true) (hi:PID A X tg iter it) (hg:∀ C s2 H2 fp,PGD A (cxComp X scope own M C s2 H2 fp) own.length tg g) (ht:∀ C s2 H2 fp,PTs (cxComp X scope own M C s2 H2 fp) ifs (ttOf A tt))
  (he:∀ C' s2 H2 fp,PD A (cxCompE (XD A C R) X scope own M C' s2 H2 fp) elt te) (hex:X.ex = []:=by rfl) (hst:X.stack = X.env :: X.outer:=by rfl) (hfr:X.env.frame = some X.env.locals:=by rfl) (hs:∀ x,foldedSetIterable iter X.env x = pure x:=by intro _; rfl):PD A X (.ListComp elt [⟨tg,iter,ifs,0⟩] scope pos) (dComp it own.length g tt te):=by
 with_unfolding_all
  exact (pe_compX hp hex hst hfr ok hc hi hg ht he hs).imp fun _ _ _=>tComp_of
theorem psd_setCompX {i:Nat} {x:Str} {pos' spos:Pos} (hp:PassC X (XD A C R)) (hN:X.N.Nodup) (hix:X.N[i]? = some x) (hx:Loc X.env.scope x) (ok:CompOk X scope M) (hc:X.calm = true) (hi:PID A X tg iter it)
  (hg:∀ C s2 H2 fp,PGD A (cxComp X scope own M C s2 H2 fp) own.length tg g) (ht:∀ C s2 H2 fp,PTs (cxComp X scope own M C s2 H2 fp) ifs (ttOf A tt)) (he:∀ C' s2 H2 fp,PD A (cxCompE (XD A C R) X scope own M C' s2 H2 fp) elt te)
  (hex:X.ex = []:=by rfl) (hst:X.stack = X.env :: X.outer:=by rfl) (hfr:X.env.frame = some X.env.locals:=by rfl)
  (hsw:swapsWith (.ListComp elt [⟨tg,iter,ifs,0⟩] scope pos) (some (.Name x pos')) spos.line X.env = pure true:=by rfl) (hf:X.fn x = true \/ X.env.scope.names.lookup x = some .local:=by first | exact .inl rfl | exact .inr rfl | assumption)
  (hs:∀ x,foldedSetIterable iter X.env x = pure x:=by intro _; rfl):PSD A X (.Assign [.Name x pos'] (.ListComp elt [⟨tg,iter,ifs,0⟩] scope pos) spos) (sSet i (dComp it own.length g tt te)):=by
 with_unfolding_all
  exact (ps_setCompX hp hex hst hfr hN hix hx ok hc hi hg ht he hsw hf hs).imp fun E sg H h=>by
    obtain ⟨rho,n,F,ds,vs,I,⟨hl,ht⟩,ok⟩:=h
    exact tComp_of (A:=A) ⟨rho,n,_,ds,vs,I,ht,fun v H' n' d ⟨os,J⟩ k=>ok.nx _ _ _ _ ⟨_,J.set hl⟩ k⟩
end
end L2
set_option maxRecDepth 100000
namespace L2
open PySem PySem.Spec PyProof.Rows
section
variable {A:AC} {X:Cx}
def rdIxS:RD2:=fun d1 d2 k=>∃ (z:Str) (i:Int) (c:Nat),d1 = .str z /\ d2 = .int i /\ z.length <= sizeLine /\ atI z.cps.toList i = some c /\ k (.str ⟨#[c]⟩)
@[simp] theorem q_rdIxS {z:Str} {i:Int} {k:D -> Prop}:rdIxS (.str z) (.int i) k ↔ ∃ c,z.length <= sizeLine /\ atI z.cps.toList i = some c /\ k (.str ⟨#[c]⟩):=⟨fun ⟨_,_,c,e,e',h⟩=>by cases e; cases e'; exact ⟨c,h⟩,fun ⟨c,h⟩=>⟨_,_,c,rfl,rfl,h⟩⟩
theorem re_ixS:OpRel A (rIx A.K) rdIxS:=by
 rintro os n rho sg H ds vs d1 d2 v1 v2 k Q I ⟨z,i,c,rfl,rfl,hz,h2,q⟩ hQ
 obtain ⟨I1,r2⟩:=I.pop
 obtain ⟨I2,r1⟩:=I1.pop
 exact .inr (.inr ⟨z,i,c,r1.toS rfl,r2.int_inv,hz,h2,hQ _ H _ ⟨os,I2.push (Rep.ofS (d:=.str _) rfl)⟩ q⟩)
theorem call_lenS:CallR X (.builtin "len") (fun xs H Q=>∃ x:Str,xs = [.str x] /\ x.length <= sizeLine /\ Q (.int x.length) H):=by
 intro pins s σ H xs us Q I r h
 obtain ⟨x,rfl,h2,q⟩:=h
 obtain ⟨u,rfl,t,rfl⟩:=vals1 r
 have hn:=line63
 exact len_str (by lia) ⟨.int x.length,H,I.tok _,⟨_,rfl⟩,q⟩
def kLenS:List D -> (D -> Prop) -> Prop:=fun es k=>∃ x:Str,es = [.str x] /\ x.length <= sizeLine /\ k (.int x.length)
@[simp] theorem q_kLenS {x:Str} {k:D -> Prop}:kLenS [.str x] k ↔ (x.length <= sizeLine /\ k (.int x.length)):=⟨fun ⟨_,e,h⟩=>by cases e; exact h,fun h=>⟨_,rfl,h⟩⟩
theorem cr_lenS:CallRel A (fun xs H Q=>∃ x:Str,xs = [.str x] /\ x.length <= sizeLine /\ Q (.int x.length) H) kLenS:=by
 rintro os n rho sg H ds vs es ws k Q I rs ⟨x,rfl,h2,q⟩ hQ
 obtain ⟨v,rfl,r⟩:=reps1 rs
 exact ⟨x,by rw [r.toS rfl]; rfl,h2,hQ _ H _ ⟨os,I.push (Rep.ofS rfl)⟩ q⟩
end
end L2
set_option maxRecDepth 100000
namespace L2
open PySem PySem.Spec PyProof.Rows
def figs:List Nat -> List Nat
 | 45 :: r=>r
 | l=>l
def isFig (c:Nat):Bool:=decide (48 <= c /\ c <= 57)
def valL (l:List Nat):Nat:=l.foldl (fun a c=>10 * a + (c - 48)) 0
def readNum (l:List Nat):Option Int :=
 if figs l = [] \/ (figs l).all isFig = false \/ ((figs l).head? = some 48 /\ l ≠ [48]) then none
 else some (if l.head? = some 45 then -(valL (figs l):Int) else valL (figs l))
theorem figs_minus {l:List Nat} (h:l.head? = some 45):l = 45 :: figs l:=by
 cases l with
 | nil=>simp at h
 | cons a r =>
  simp at h
  subst h
  rfl
theorem figs_plain {l:List Nat} (h:l.head? ≠ some 45):figs l = l:=by
 cases l with
 | nil=>rfl
 | cons a r =>
  have:a ≠ 45:=fun z=>h (by rw [z]; rfl)
  unfold figs
  split
  ·rename_i e
   cases e
   exact absurd rfl this
  ·rfl
theorem valL_digits (l:List Nat):PySem.NumText.digitsVal l = valL l:=by
 unfold PySem.NumText.digitsVal valL
 congr 1
 funext a c
 lia
theorem int_read {l:List Nat} {i:Int} (h:readNum l = some i) (hl:l.length <= 640):PySem.intText? (tx l) = some i:=by
 unfold readNum at h
 split at h
 ·cases h
 ·rename_i hc
  simp only [not_or,Bool.not_eq_false] at hc
  obtain ⟨h1,h2,h3⟩:=hc
  have hd:PySem.NumText.AllDigits (figs l):=fun c hm=>by
   have:=List.all_eq_true.mp h2 c hm
   simpa [isFig] using this
  cases h
  by_cases hm:l.head? = some 45
  ·rw [if_pos hm, <- valL_digits]
   exact PySem.intText_neg (figs_minus hm) hd h1 (by rw [tx_len]; lia)
  ·rw [if_neg hm, <- valL_digits]
   have e:=figs_plain hm
   rw [e] at hd h1 ⊢
   exact PySem.intText_digits (x:=tx l) hd h1 (by rw [tx_len]; lia)
def endF (l sg rest c1 c2:List Nat):Option (Option (Int × Bool)) :=
 if l = [45] then some none else if sg ≠ c1 /\ sg ≠ c2 then none else (readNum rest).map fun i=>some (i,decide (sg = c1))
def readLow (l:List Nat):Option (Option (Int × Bool)):=endF l (l.take 1) (l.drop 1) [91] [40]
def readHigh (l:List Nat):Option (Option (Int × Bool)):=endF l (l.drop (l.length - 1)) l.dropLast [93] [41]
def cut2:List Nat -> Option (List Nat × List Nat)
 | []=>none
 | c :: r=>if c = 46 /\ r.head? = some 46 then some ([],r.tail) else (cut2 r).map fun p=>(c :: p.1,p.2)
theorem cut2_some:∀ {l a b:List Nat},cut2 l = some (a,b) -> l = a ++ 46 :: 46 :: b /\ ∀ i,i < a.length -> ¬ (l[i]? = some 46 /\ l[i + 1]? = some 46)
 | [],_,_,h=>by cases h
 | c :: r, a, b, h => by
  unfold cut2 at h
  split at h
  ·rename_i hc
   cases h
   obtain ⟨rfl,h2⟩:=hc
   cases r with
   | nil=>cases h2
   | cons d r =>
    have:d = 46:=by simpa using h2
    subst this
    exact ⟨rfl,fun i hi=>absurd hi (Nat.not_lt_zero _)⟩
  ·rename_i hc
   cases e:cut2 r with
   | none=>rw [e] at h; cases h
   | some p =>
    obtain ⟨a',b'⟩:=p
    rw [e] at h
    cases h
    obtain ⟨e1,e2⟩:=cut2_some e
    refine ⟨by rw [e1]; rfl,fun i hi=>?_⟩
    cases i with
    | zero =>
     rintro ⟨z1,z2⟩
     refine hc ⟨by simpa using z1,?_⟩
     cases r with
     | nil=>simp at z2
     | cons d r=>simpa using z2
    | succ i=>simpa using e2 i (by simpa using hi)
theorem cut2_none:∀ {l:List Nat},cut2 l = none -> ∀ i:Nat,¬ (l[i]? = some 46 /\ l[i + 1]? = some 46)
 | [],_,i=>by simp
 | c :: r, h, i => by
  unfold cut2 at h
  split at h
  ·cases h
  ·rename_i hc
   have e:cut2 r = none:=by simpa using h
   cases i with
   | zero =>
    rintro ⟨z1,z2⟩
    refine hc ⟨by simpa using z1,?_⟩
    cases r with
    | nil=>simp at z2
    | cons d r=>simpa using z2
   | succ i=>simpa using cut2_none e i
theorem at2 {l:List Nat} {c d i:Nat}:StrLaws.At (tx l) (tx [c,d]) (tx l).length i ↔ l[i]? = some c /\ l[i + 1]? = some d:=by
 rw [at_iff]
 have e:(tx l).cps.extract i (i + (tx [c,d]).length) = ((l.drop i).take 2).toArray:=by
  show l.toArray.extract i (i + 2) = _
  simp
 rw [e]
 show i + 2 <= l.length /\ ((l.drop i).take 2).toArray = [c,d].toArray ↔ _
 have h0:l[i]? = (l.drop i)[0]?:=by simp
 have h1:l[i + 1]? = (l.drop i)[1]?:=by simp
 have hlen:(l.drop i).length = l.length - i:=List.length_drop ..
 rw [h0,h1]
 generalize l.drop i = m at hlen ⊢
 match m,hlen with
 | [],hl=>simp at hl ⊢
 | [x],hl=>simp at hl ⊢
 | x :: y :: r,hl =>
  simp at hl ⊢
  lia
theorem occ_cut (l:List Nat):(∃ a b r,cut2 l = some (a,b) /\ Builtin.Str.occurrences (tx l) (tx [46,46]) 0 (tx l).length 1 = a.length :: r) \/ (cut2 l = none /\ Builtin.Str.occurrences (tx l) (tx [46,46]) 0 (tx l).length 1 = []):=by
 rcases StrLaws.occ_head (tx l) (tx [46,46]) 1 (Nat.le_refl _) with ⟨e,q⟩ | ⟨i,r,e,q1,q2⟩
 ·refine .inr ⟨?_, e⟩
  cases hc:cut2 l with
  | none=>rfl
  | some p =>
   obtain ⟨a,b⟩:=p
   obtain ⟨e1,_⟩:=cut2_some hc
   refine absurd (at2.mpr ?_) (q a.length)
   rw [e1]
   simp
 ·refine .inl ?_
  cases hc:cut2 l with
  | none=>exact absurd (at2.mp q1) (cut2_none hc i)
  | some p =>
   obtain ⟨a,b⟩:=p
   obtain ⟨e1,e2⟩:=cut2_some hc
   have hi:i = a.length:=by
    rcases Nat.lt_trichotomy i a.length with z | z | z
    ·exact absurd (at2.mp q1) (e2 i z)
    ·exact z
    ·refine absurd (at2.mpr ?_) (q2 _ z)
     rw [e1]
     simp
   exact ⟨a,b,r,rfl,by rw [e,hi]⟩
theorem part_some {l a b:List Nat} (h:cut2 l = some (a,b)):Txt.partition (tx l) (tx [46,46]) = (tx a,tx [46,46],tx b):=by
 rcases occ_cut l with ⟨a',b',r,h',e⟩ | ⟨h',_⟩
 ·rw [h] at h'
  cases h'
  obtain ⟨el,_⟩:=cut2_some h
  unfold Txt.partition
  rw [e]
  show (Builtin.Str.strSub _ 0 a.length,tx [46,46],Builtin.Str.strSub _ (a.length + 2) _) = _
  unfold Builtin.Str.strSub
  have e1:(tx l).cps.extract 0 a.length = a.toArray:=by
   show l.toArray.extract 0 a.length = a.toArray
   rw [el]
   simp
  have e2:(tx l).cps.extract (a.length + 2) (tx l).length = b.toArray:=by
   show l.toArray.extract (a.length + 2) l.length = b.toArray
   rw [el]
   simp
   exact List.take_of_length_le (by lia)
  rw [e1,e2]
  rfl
 ·rw [h] at h'; cases h'
theorem part_none {l:List Nat} (h:cut2 l = none):Txt.partition (tx l) (tx [46,46]) = (tx l,tx [],tx []):=by
 rcases occ_cut l with ⟨a',b',r,h',e⟩ | ⟨_,e⟩
 ·rw [h] at h'; cases h'
 ·unfold Txt.partition
  rw [e]
  rfl
theorem find_some {l a b:List Nat} (h:cut2 l = some (a,b)):Txt.find (tx l) (tx [46,46]) = a.length:=by
 rcases occ_cut l with ⟨a',b',r,h',e⟩ | ⟨h',_⟩
 ·rw [h] at h'
  cases h'
  unfold Txt.find
  rw [e]
 ·rw [h] at h'; cases h'
theorem find_none {l:List Nat} (h:cut2 l = none):Txt.find (tx l) (tx [46,46]) = -1:=by
 rcases occ_cut l with ⟨a',b',r,h',e⟩ | ⟨_,e⟩
 ·rw [h] at h'; cases h'
 ·unfold Txt.find
  rw [e]
theorem sl_from (l:List Nat) {k:Int} {m:Nat} (e:k = m) (h:m <= l.length):Txt.slice (tx l) (some k) none = tx (l.drop m):=by
 subst e
 rw [eq_tx (slice_closes_from (x:=tx l) (i:=(m:Int)) ⟨by lia,by rw [tx_list]; lia⟩),tx_list]
 show tx _ = tx _
 congr 1
 exact List.take_of_length_le (by simp)
theorem sl_to (l:List Nat) {k:Int} {m:Nat} (e:k = m) (h:m <= l.length):Txt.slice (tx l) none (some k) = tx (l.take m):=by
 subst e
 rw [eq_tx (slice_closes_to (x:=tx l) (j:=(m:Int)) ⟨by lia,by rw [tx_list]; lia⟩),tx_list]
 show tx _ = tx _
 congr 1
theorem sl_first (l:List Nat):Txt.slice (tx l) none (some 1) = tx (l.take 1):=by
 cases l with
 | nil=>decide +kernel
 | cons a l=>exact sl_to1 a l
theorem sl_rest (l:List Nat):Txt.slice (tx l) (some 1) none = tx (l.drop 1):=by
 cases l with
 | nil=>decide +kernel
 | cons a l=>exact sl_from1 a l
theorem sl_end (l:List Nat):Txt.slice (tx l) (some (-1)) none = tx (l.drop (l.length - 1)):=by
 rcases List.eq_nil_or_concat l with rfl | ⟨m,a,rfl⟩
 ·decide +kernel
 ·rw [List.concat_eq_append, sl_last]
  simp
theorem sl_body (l:List Nat):Txt.slice (tx l) none (some (-1)) = tx l.dropLast:=by
 rcases List.eq_nil_or_concat l with rfl | ⟨m,a,rfl⟩
 ·decide +kernel
 ·rw [List.concat_eq_append, sl_init]
  simp
theorem starts_head (l:List Nat) (c:Nat):Txt.startswith (tx l) (tx [c]) = decide (l.head? = some c):=by
 cases l with
 | nil=>rw [starts_nil]; simp
 | cons a l=>rw [starts1]; simp
theorem tw_all {p:Nat -> Bool}:∀ l:List Nat,(∀ c ∈ l,p c = true) -> l.takeWhile p = l
 | [],_=>rfl
 | c :: l,h=>by rw [List.takeWhile_cons,if_pos (h c (by simp)),tw_all l fun d hd=>h d (List.mem_cons_of_mem _ hd)]
theorem strip_figs (l:List Nat):(Txt.stripChars (tx l) (tx figL) = tx []) ↔ l.all isFig = true:=by
 have hg:∀ c,(tx figL).cps.contains c = isFig c:=fun c=>by
  show figL.toArray.contains c = isFig c
  by_cases h:48 <= c /\ c <= 57
  ·rw [show isFig c = true from decide_eq_true h]
   obtain ⟨k,hk⟩:∃ k,c = 48 + k:=⟨c - 48,by lia⟩
   have hk9:k <= 9:=by lia
   subst hk
   rw [List.contains_toArray,List.contains_eq_mem]
   have:∀ k:Nat,k <= 9 -> (48 + k) ∈ figL:=by decide
   exact decide_eq_true (this k hk9)
  ·rw [show isFig c = false from decide_eq_false h]
   rw [List.contains_toArray,List.contains_eq_mem]
   refine decide_eq_false fun z=>h ?_
   have:∀ d ∈ figL,48 <= d /\ d <= 57:=by decide
   exact this c z
 unfold Txt.stripChars
 have eg:(tx figL).cps.contains = isFig:=funext hg
 rw [eg,stripBy_eq]
 unfold Builtin.Str.strSub PySem.stripLo PySem.stripHi
 simp only [if_true,tx_list]
 constructor
 ·intro h
  apply Classical.byContradiction
  intro hn
  have hne:∃ c ∈ l,isFig c = false:=by
   apply Classical.byContradiction
   intro z
   exact hn (List.all_eq_true.mpr fun c hc=>by
    cases q:isFig c
    ·exact absurd ⟨c,hc,q⟩ z
    ·rfl)
  have dl:l.dropWhile isFig ≠ []:=fun z=>by
   obtain ⟨c,hc,q⟩:=hne
   rw [<- List.takeWhile_append_dropWhile (p:=isFig) (l:=l),z,List.append_nil] at hc
   rw [List.all_eq_true.mp (List.all_takeWhile (p:=isFig) (l:=l)) c hc] at q
   cases q
  have el:(l.takeWhile isFig).length + (l.dropWhile isFig).length = l.length:=by
   rw [<- List.length_append,List.takeWhile_append_dropWhile]
  have ed:l.drop (l.takeWhile isFig).length = l.dropWhile isFig:=by
   have e0:=List.takeWhile_append_dropWhile (p:=isFig) (l:=l)
   calc l.drop (l.takeWhile isFig).length = (l.takeWhile isFig ++ l.dropWhile isFig).drop (l.takeWhile isFig).length:=by rw [e0]
    _ = l.dropWhile isFig:=List.drop_left
  have lt:((l.dropWhile isFig).reverse.takeWhile isFig).length < (l.dropWhile isFig).length:=by
   have hle:((l.dropWhile isFig).reverse.takeWhile isFig).length <= (l.dropWhile isFig).reverse.length:=(List.takeWhile_prefix _).length_le
   rw [List.length_reverse] at hle
   refine Nat.lt_of_le_of_ne hle fun z=>?_
   have e1:(l.dropWhile isFig).reverse.takeWhile isFig = (l.dropWhile isFig).reverse:=(List.takeWhile_prefix _).eq_of_length (by rw [z,List.length_reverse])
   have hall:=List.all_takeWhile (p:=isFig) (l:=(l.dropWhile isFig).reverse)
   rw [e1,List.all_reverse] at hall
   cases hd:l.dropWhile isFig with
   | nil=>exact dl hd
   | cons c r =>
    have:=List.all_eq_true.mp hall c (by rw [hd]; simp)
    have h2:=List.head?_dropWhile_not isFig l
    rw [hd] at h2
    simp [this] at h2
  have hs:=congrArg Str.length h
  rw [ed] at hs
  have hs':(l.toArray.extract (l.takeWhile isFig).length (l.length - ((l.dropWhile isFig).reverse.takeWhile isFig).length)).size = 0:=hs
  simp at hs'
  lia
 ·intro h
  have e:l.takeWhile isFig = l:=tw_all l fun c hc=>List.all_eq_true.mp h c hc
  rw [e]
  show (⟨l.toArray.extract l.length _⟩:Str) = ⟨#[]⟩
  congr 1
  simp
@[simp] theorem q_rdNeS {i j:Str} {k:D -> Prop}:rdNe (.str i) (.str j) k ↔ k (.bl (!decide (i = j))):=by
 unfold rdNe
 have e:(ofS (.str i) = ofS (.str j)) = (i = j):=propext ⟨fun h=>by injection h,fun h=>by rw [h]⟩
 simp only [e]
 exact ⟨fun h=>h.2.2.2,fun h=>⟨rfl,rfl,rfl,h⟩⟩
def readSpan (l:List Nat):Option (Option (Int × Bool) × Option (Int × Bool)) :=
 match cut2 l with
 | none=>none
 | some (a,b)=>match readLow a,readHigh b with
  | some x,some y=>some (x,y)
  | _,_=>none
def Short (l:List Nat):Prop:=∀ a b c:List Nat,l = a ++ b ++ c -> b.all isFig = true -> b.length <= 18
theorem Short.mid {a b c:List Nat} (h:Short (a ++ b ++ c)):Short b:=fun x y z e hy=>h (a ++ x) y (z ++ c) (by rw [e]; simp) hy
theorem Short.take {l:List Nat} (h:Short l) (k:Nat):Short (l.take k):=Short.mid (a:=[]) (b:=l.take k) (c:=l.drop k) (by simpa using h)
theorem Short.drop {l:List Nat} (h:Short l) (k:Nat):Short (l.drop k):=Short.mid (a:=l.take k) (b:=l.drop k) (c:=[]) (by simpa using h)
theorem Short.nil:Short []:=fun a b c e _=>by
 have:b = []:=by
  have:=congrArg List.length e
  simp at this
  exact List.length_eq_zero_iff.mp (by lia)
 rw [this]; decide
theorem join_mid {c:List Nat}:∀ {ws:List (List Nat)} {w:List Nat},w ∈ ws -> ∃ a b,joinL c ws = a ++ w ++ b
 | [x],w,h=>by
  have:w = x:=by simpa using h
  exact ⟨[],[],by simp [joinL,this]⟩
 | x :: y :: r, w, h => by
  rcases List.mem_cons.mp h with rfl | h
  ·exact ⟨[],c ++ joinL c (y :: r),by simp [joinL]⟩
  ·obtain ⟨a, b, e⟩ := join_mid (c := c) h
   exact ⟨x ++ c ++ a,b,by show x ++ c ++ joinL c (y :: r) = _; rw [e]; simp⟩
def runOf (l:List Nat):Nat:=l.foldl (fun r c=>if isFig c then r + 1 else 0) 0
theorem runOf_snoc (l:List Nat) (c:Nat):runOf (l ++ [c]) = if isFig c then runOf l + 1 else 0:=by
 unfold runOf
 rw [List.foldl_append]
 rfl
theorem List.reverseRecOn' {p:List Nat -> Prop} (b:List Nat) (nil:p []) (snoc:∀ b c,p b -> p (b ++ [c])):p b:=by
 have:∀ n (l:List Nat),l.length = n -> p l:=by
  intro n
  induction n with
  | zero=>intro l h; rw [List.length_eq_zero_iff.mp h]; exact nil
  | succ n ih =>
   intro l h
   rcases List.eq_nil_or_concat l with rfl | ⟨m,a,rfl⟩
   ·exact nil
   ·rw [List.concat_eq_append] at h ⊢
    exact snoc m a (ih m (by simpa using h))
 exact this _ b rfl
theorem runOf_suffix:∀ (b a:List Nat),b.all isFig = true -> b.length <= runOf (a ++ b):=by
 intro b
 induction b using List.reverseRecOn' with
 | nil=>intro a _; exact Nat.zero_le _
 | snoc b c ih =>
  intro a h
  rw [List.all_append,Bool.and_eq_true] at h
  have hc:isFig c = true:=by simpa using h.2
  rw [<- List.append_assoc,runOf_snoc,if_pos hc,List.length_append]
  have:=ih a h.1
  simp only [List.length_singleton]
  lia
theorem Short.snoc {l:List Nat} {c:Nat} (h:Short l) (hr:runOf (l ++ [c]) <= 18):Short (l ++ [c]):=fun x y z e hy=>by
 rcases List.eq_nil_or_concat z with rfl | ⟨z',d,rfl⟩
 ·rw [List.append_nil] at e
  have:=runOf_suffix y x hy
  rw [<- e] at this
  lia
 ·rw [List.concat_eq_append] at e
  have e2:l ++ [c] = (x ++ y ++ z') ++ [d]:=by rw [e]; simp
  have:=List.append_inj_left' e2 rfl
  exact h x y z' this hy
end L2
set_option maxRecDepth 100000
namespace L2
open PySem PySem.Spec PyProof.Rows
def litTr:List Str -> List Int -> List (TE × TE)
 | k :: ks,i :: is=>(tC (.str k),tC (.int i)) :: litTr ks is
 | _,_=>[]
def litKv:List Str -> List Int -> List (Key × V)
 | k :: ks,i :: is=>(.inr k,.int i) :: litKv ks is
 | _,_=>[]
theorem pairs_lit {σ:St} {H:Hp}:∀ {ks:List Str} {is:List Int} {Q:List (V × V) -> Hp -> Prop},Q ((litKv ks is).map fun kv=>(kV kv.1,kv.2)) H -> tPairs (litTr ks is) σ H Q
 | [],_,Q,h=>h
 | _ :: _,[],Q,h=>h
 | k :: ks,i :: is,Q,h=>pairs_lit (ks:=ks) (is:=is) (Q:=fun ps H3=>Q ((.str k,.int i) :: ps) H3) h
theorem litKv_eq:∀ (ks:List Str) (is:List Int),litKv ks is = kvsV (ks.map Sum.inr) (is.map V.int)
 | [],[]=>rfl
 | [],_ :: _=>rfl
 | _ :: _,[]=>rfl
 | k :: ks,i :: is=>by
  show (Sum.inr k,V.int i) :: litKv ks is = (Sum.inr k,V.int i) :: kvsV (ks.map Sum.inr) (is.map V.int)
  rw [litKv_eq ks is]
section
variable {A:AC} {X:Cx} {p:Pos}
theorem pd_dctL {ks:List Str} {is:List Int} {keys:List (Option Expr)} {vals:List Expr} (hp:PPs X p keys vals (litTr ks is)) (h0:keys ≠ []) (hm:mergeK [] (litKv ks is) = litKv ks is) (h15':(litKv ks is).length <= 15)
  (hall:keys.all (·.isSome) = true:=by rfl) (hl:keys.length = vals.length:=by rfl) (h15:keys.length <= 15:=by decide):PD A X (.Dict keys vals p) (dC (.dct (ks.map Sum.inr) (is.map D.int))):=by
 with_unfolding_all
  exact (pe_disp hp hall hl h0 h15).imp fun sg H Q h=>by
   obtain ⟨rho,n,P,ds',vs,⟨os,I⟩,ht,hQ⟩:=h
   intro q hq
   refine pairs_lit ⟨upd_same,litKv ks is,rfl,h15',?_⟩
   rw [hm,litKv_eq]
   have e:upd (upd H q (.dK [])) q (.dK (kvsV (ks.map Sum.inr) (is.map V.int))) = upd H q (.dK (kvsV (ks.map Sum.inr) (is.map V.int))):=by
    funext b
    by_cases hb:b = q
    ·subst hb; rw [upd_same,upd_same]
    ·rw [upd_ne hb,upd_ne hb,upd_ne hb]
   rw [e]
   exact hQ _ _ n _ ⟨os,I.newDct (es:=is.map D.int) reps_ints hq⟩ ht
end
@[simp] theorem q_rdDxS {ks:List Key} {ds:List D} {x:Str} {k:D -> Prop}:rdDx (.dct ks ds) (.str x) k ↔ ∃ d,atK ks ds (Sum.inr x) = some d /\ k d:=⟨fun ⟨_,_,_,d,e,e',h⟩=>by cases e; cases e'; exact ⟨d,h⟩,fun ⟨d,h⟩=>⟨_,_,_,d,rfl,rfl,h⟩⟩
@[simp] theorem q_rdDinS {neg:Bool} {ks:List Key} {ds:List D} {x:Str} {k:D -> Prop}:rdDin neg (.str x) (.dct ks ds) k ↔ k (.bl ((atK ks ds (Sum.inr x)).isSome != neg)):=⟨fun ⟨_,_,_,e,e',h⟩=>by cases e; cases e'; exact h,fun h=>⟨_,_,_,rfl,rfl,h⟩⟩
def mapO {α β:Type} (f:α -> Option β):List α -> Option (List β)
 | []=>some []
 | a :: r=>(f a).bind fun b=>(mapO f r).map fun bs=>b :: bs
theorem mapO_len {α β:Type} {f:α -> Option β}:∀ {xs:List α} {ys:List β},mapO f xs = some ys -> ys.length = xs.length
 | [],ys,h=>by cases h; rfl
 | a :: r, ys, h => by
  unfold mapO at h
  cases e:f a with
  | none=>rw [e] at h; cases h
  | some b =>
   rw [e] at h
   cases e2:mapO f r with
   | none=>rw [e2] at h; cases h
   | some bs =>
    rw [e2] at h
    cases h
    rw [List.length_cons,List.length_cons,mapO_len e2]
theorem mapO_none {α β:Type} {f:α -> Option β}:∀ {xs:List α} {x:α},x ∈ xs -> f x = none -> mapO f xs = none
 | a :: r, x, hx, h => by
  unfold mapO
  rcases List.mem_cons.mp hx with rfl | hx
  ·rw [h]; rfl
  ·rw [mapO_none hx h]
   cases f a <;> rfl
theorem mapO_snoc {α β:Type} {f:α -> Option β}:∀ {xs:List α} {ys:List β} {x:α} {y:β},mapO f xs = some ys -> f x = some y -> mapO f (xs ++ [x]) = some (ys ++ [y])
 | [],ys,x,y,h,hy=>by
  cases h
  show (f x).bind _ = _
  rw [hy]
  rfl
 | a :: r, ys, x, y, h, hy => by
  unfold mapO at h
  cases e:f a with
  | none=>rw [e] at h; cases h
  | some b =>
   rw [e] at h
   cases e2:mapO f r with
   | none=>rw [e2] at h; cases h
   | some bs =>
    rw [e2] at h
    cases h
    show (f a).bind (fun b=>(mapO f (r ++ [x])).map fun bs=>b :: bs) = _
    rw [e,mapO_snoc e2 hy]
    rfl
theorem comp_mapOIn {own:Nat} {g:TGD} {te:TD} {rho:Rho} {n:Nat} {P:D -> Nat -> Prop} {α β:Type} {Rf:Prop} (enc:α -> D) (f:α -> Option β) (out:β -> D) (xs:List α)
  (hz:xs.length <= sizeLine) (he:∀ x ∈ xs,∀ Q:D -> Nat -> Prop,(∀ y,f x = some y -> Q (out y) n) -> (f x = none -> Rf) -> g (enc x) (List.replicate own none ++ rho) fun rho'=>rho'.drop own = rho /\ te rho' n Q)
  (no:mapO f xs = none -> Rf) (hP:∀ ys,mapO f xs = some ys -> P (.lst (ys.map out)) n):compIn own g bYes te rho P (xs.map enc) n:=by
 refine ⟨by simpa using hz,fun i acc n'=>n' = n /\ ∃ ys,mapO f (xs.take i) = some ys /\ acc = ys.map out,⟨rfl,[],rfl,rfl⟩,?_,?_⟩
 ·rintro i d acc n' e ⟨rfl, ys, e1, rfl⟩
  rw [List.getElem?_map] at e
  cases q:xs[i]? with
  | none=>rw [q] at e; cases e
  | some x =>
   rw [q] at e
   cases e
   have hm:x ∈ xs:=List.mem_of_getElem? q
   refine he x hm (fun e n3=>n3 = n' /\ ∃ zs,mapO f (xs.take (i + 1)) = some zs /\ ys.map out ++ [e] = zs.map out) (fun y hy=>⟨rfl,ys ++ [y],?_,by simp⟩) fun hx=>no (mapO_none hm hx)
   rw [List.take_add_one,q]
   exact mapO_snoc e1 hy
 ·rintro acc n' ⟨rfl, ys, e1, rfl⟩
  rw [List.length_map,List.take_length] at e1
  exact hP ys e1
end L2
set_option maxRecDepth 100000
namespace L2
open PySem PySem.Spec PyProof.Rows
def atS:List Str -> List D -> Str -> Option D
 | k :: ks,d :: ds,x=>if k = x then some d else atS ks ds x
 | _,_,_=>none
structure EntOk (w:World) (K:PySem.W.Frag) (e:DictEntry) (k:Str) (d:D):Prop where
 key:∃ t,e.key = .str k t
 hash:e.hash = keyH w (.inr k)
 val:∃ v,RelV v e.val /\ ∀ G Z H,Rep K G Z H d v
def EntsOk (w:World) (K:PySem.W.Frag):List DictEntry -> List Str -> List D -> Prop
 | [],[],[]=>True
 | e :: es,k :: ks,d :: ds=>EntOk w K e k d /\ EntsOk w K es ks ds
 | _,_,_=>False
def GDct (w:World) (K:PySem.W.Frag) (mg:Str -> Option Value) (x:Str) (ks:List Str) (ds:List D):Prop :=
 ∃ (a:Addr) (o:Obj) (es:Array DictEntry) (ep:Nat),mg x = some (.ref a) /\ (a == sysModules) = false /\ K.lookup a = some o /\ o.ExactDict /\ o.data = .dict es ep /\ EntsOk w K es.toList ks ds
theorem keyIs_text (x k:Str) (t:Tok):keyIs (.inr x) (.str k t) = decide (k = x):=by
 by_cases h:k = x
 ·subst h
  rw [keyIs_str]; simp
 ·cases e : keyIs (.inr x) (.str k t) with
  | false=>simp [h]
  | true =>
   rcases keyIs_shape e with ⟨i,u,e1,e2⟩ | ⟨y,u,e1,e2⟩
   ·cases e1
   ·cases e1
    injection e2 with e2 _
    exact absurd e2 h
theorem ents_find {w:World} {K:PySem.W.Frag}:∀ {es:List DictEntry} {ks:List Str} {ds:List D},EntsOk w K es ks ds -> ∀ x:Str,
  match atS ks ds x with
  | some d=>∃ u v,(es.find? fun e=>keyIs (.inr x) e.key).map (·.val) = some u /\ RelV v u /\ ∀ G Z H,Rep K G Z H d v
  | none=>(es.find? fun e=>keyIs (.inr x) e.key).map (·.val) = none
 | [],[],[],_,x=>rfl
 | e :: es, k :: ks, d :: ds, h, x => by
  obtain ⟨⟨⟨t,hk⟩,_,v,r1,r2⟩,h2⟩:=h
  unfold atS
  by_cases c:k = x
  ·rw [if_pos c]
   refine ⟨e.val,v,?_,r1,r2⟩
   rw [List.find?_cons_of_pos (by rw [hk,keyIs_text]; simp [c])]; rfl
  ·rw [if_neg c, List.find?_cons_of_neg (by rw [hk, keyIs_text]; simp [c])]
   exact ents_find h2 x
 | [],[],_ :: _,h,_=>h.elim
 | [],_ :: _,_,h,_=>h.elim
 | _ :: _,[],_,h,_=>h.elim
 | _ :: _,_ :: _,[],h,_=>h.elim
theorem ents_keys {w:World} {K:PySem.W.Frag}:∀ {es:List DictEntry} {ks:List Str} {ds:List D},EntsOk w K es ks ds -> ∀ e ∈ es,∃ k:Key,keyIs k e.key = true /\ e.hash = keyH w k
 | [],[],[],_,e,he=>by simp at he
 | e :: es,k :: ks,d :: ds,h,e',he=>by
  obtain ⟨⟨⟨t,hk⟩,hh,_⟩,h2⟩:=h
  rcases List.mem_cons.mp he with rfl | he
  ·exact ⟨.inr k,by rw [hk]; exact keyIs_str k t,hh⟩
  ·exact ents_keys h2 e' he
 | [],[],_ :: _,h,_,_=>h.elim
 | [],_ :: _,_,h,_,_=>h.elim
 | _ :: _,[],_,h,_,_=>h.elim
 | _ :: _,_ :: _,[],h,_,_=>h.elim
theorem ents_map {P:Program} {w:World} {K:PySem.W.Frag} {h:Heap} {a:Addr} {o:Obj} {es:Array DictEntry} {ep:Nat} {ks:List Str} {ds:List D} (X:K.In h) (hk:K.lookup a = some o) (hx:o.ExactDict) (hd:o.data = .dict es ep) (he:EntsOk w K es.toList ks ds) :
  h.MapOf (mixKind P w) a (findBy (mixKind P w).is es) :=
 ⟨o,es,ep,X a o hk,hx,hd,fun e hm=>ents_keys he e (Array.mem_toList_iff.mpr hm),fun _=>rfl⟩
theorem find_list {P:Program} {w:World} (es:Array DictEntry) (x:Str):findBy (mixKind P w).is es (.inr x) = (es.toList.find? fun e=>keyIs (.inr x) e.key).map (·.val):=by
 unfold findBy
 rw [<- Array.find?_toList]
 rfl
section
variable {X:Cx} {A:AC} {a b:Expr} {ta tb:TD} {pos p:Pos} {g:Str} {ks:List Str} {ds:List D}
def dInG (ks:List Str) (ds:List D) (ta:TD):TD:=fun rho n P=>ta rho n fun d n1=>∃ x,d = .str x /\ P (.bl (atS ks ds x).isSome) n1
@[simp] theorem q_dInG {ta:TD} {rho:Rho} {n:Nat} {P:D -> Nat -> Prop}:dInG ks ds ta rho n P = ta rho n fun d n1=>∃ x,d = .str x /\ P (.bl (atS ks ds x).isSome) n1:=rfl
def dIxG (ks:List Str) (ds:List D) (tb:TD):TD:=fun rho n P=>tb rho n fun d n1=>∃ x d',d = .str x /\ atS ks ds x = some d' /\ P d' n1
@[simp] theorem q_dIxG {tb:TD} {rho:Rho} {n:Nat} {P:D -> Nat -> Prop}:dIxG ks ds tb rho n P = tb rho n fun d n1=>∃ x d',d = .str x /\ atS ks ds x = some d' /\ P d' n1:=rfl
theorem pd_ixG (hG:GDct X.w X.K X.mg g ks ds) (hK:X.K = A.K) (hb:PD A X b tb) (hs:NoSl b) (hg:Gl X g:=by rfl) (hd:(g == ("__debug__" : Str)) = false:=by decide):PD A X (.Subscript (.Name g p) b pos) (dIxG ks ds tb):=by
 with_unfolding_all
  exact (by
   obtain ⟨ad,o,es,ep,hmg,hsys,hk,hex,hdat,he⟩:=hG
   intro pins s σ H Q I h
   obtain ⟨rho,n,P,ds',vs,J0,ht,hQ⟩:=h
   refine subD_of PySem.F.slot_dict_getitem.lookup hs (thn (pe_glob (v:=.ref ad) hg hmg rfl hd pins s σ H (fun x H1=>x = .ref ad /\ H1 = H) I ⟨rfl,rfl⟩) fun u s1 ⟨x,H1,I1,rx,e1,e2⟩=>?_)
   subst e1 e2
   cases rx
   refine thn (hb pins s1 σ _ (fun y H2=>∃ n' d' k,y = .str k /\ Am A n' rho σ H2 (.str k :: ds') (y :: vs) /\ atS ks ds k = some d' /\ P d' n') I1 ⟨rho,n,_,ds',vs,J0,ht,fun v H' n' d J k=>?_⟩) fun iv s2 ⟨y,H2,I2,ry,n',d',k,ey,J,hat,hP⟩=>?_
   ·obtain ⟨x, d', rfl, hat, k⟩ := k
    obtain ⟨os,J⟩:=J
    have e:=(J.pop.2).toS rfl
    exact ⟨n',d',x,e,⟨os,J⟩,hat,k⟩
   ·subst ey
    have hm:=ents_map (P:=X.prog) I2.kIn hk hex hdat he
    refine ⟨hm.typeIs,?_⟩
    have hf:=ents_find he k
    rw [hat] at hf
    obtain ⟨u,v,h1,h2,h3⟩:=hf
    refine wpAny_getItem_of (knd:=mixKind X.prog X.w) (k:=.inr k) (kV_is (k:=.inr k) ry) hm (by rw [find_list]; exact h1) ?_
    obtain ⟨os,J⟩:=J
    exact ⟨v,H2,I2.tok _,h2,hQ v H2 n' d' ⟨os,J.pop.1.push (by rw [<- hK]; exact h3 _ _ _)⟩ hP⟩)
end
end L2
set_option maxRecDepth 100000
set_option maxHeartbeats 1000000
namespace K75
open PySem L2 PySem.Spec PyProof.Rows
def top (i:Nat):Stmt:=PySem.Challenge.pw_boxlayers_k75_texts_of_no_ask.main.body.getD i (.Pass ⟨0,0,0,0⟩)
abbrev End:=Option (Int × Bool)
abbrev Span:=End × End
def encEnd:End -> D
 | none=>.non
 | some (n,s)=>.tup [.int n,.bl s]
def encSpan (s:Span):D:=.tup [encEnd s.1,encEnd s.2]
def encBox (b:List Span):D:=.tup (b.map encSpan)
def encPlace (p:List Int):D:=.tup (p.map D.int)
@[simp] theorem end_none:encEnd none = .non:=rfl
@[simp] theorem end_some {n:Int} {s:Bool}:encEnd (some (n,s)) = .tup [.int n,.bl s]:=rfl
theorem no_encEnd (e:End):notOwn (encEnd e) = true:=by rcases e with _ | ⟨n,s⟩ <;> rfl
section
variable {P:Program} {w:World} {K:PySem.W.Frag} {mg:Str -> Option Value} {base:Heap}
end
end K75
set_option maxRecDepth 100000
set_option maxHeartbeats 1000000
namespace K75
open PySem L2 PySem.Spec PyProof.Rows
theorem pick {es:List D} {k:Int} {R:D -> Prop} (h0:0 <= k) (h1:k < es.length) (h:∀ d ∈ es,R d):rdIx (.lst es) (.int k) R:=by
 obtain ⟨d,e,m⟩:=atI_lt h0 h1
 exact q_rdIxL.mpr ⟨d,e,h d m⟩
theorem pickI {js:List Int} {k:Int} {R:D -> Prop} (lo hi:Int) (h0:0 <= k) (h1:k < js.length) (hb:∀ j ∈ js,lo <= j /\ j <= hi) (h:∀ j:Int,lo <= j -> j <= hi -> R (.int j)):rdIx (.lst (js.map D.int)) (.int k) R:=by
 refine pick h0 (by simpa using h1) fun d hd=>?_
 obtain ⟨j,hj,rfl⟩:=List.mem_map.mp hd
 exact h j (hb j hj).1 (hb j hj).2
def numsD (xs:List Int):D:=.lst (xs.map D.int)
theorem rng_len (c:Nat):(rngD 0 c).length = c:=by unfold rngD; rw [List.length_map,List.length_range]
theorem rng_at {c i:Nat} {d:D} (h:(rngD 0 c)[i]? = some d):i < c /\ d = .int (i:Int):=by
 have hi:i < c:=by have:=(List.getElem?_eq_some_iff.mp h).1; rw [rng_len] at this; exact this
 refine ⟨hi,?_⟩
 unfold rngD at h
 rw [List.getElem?_map,List.getElem?_range hi] at h
 have:=Option.some.inj h
 rw [<- this]
 simp
theorem comp_dem0 {own:Nat} {g:TGD} {te:TD} {rho:Rho} {P:D -> Nat -> Prop} (items:List D) (n1:Nat) (Good:D -> D -> Prop) (hz:items.length <= sizeLine)
  (he:∀ (i:Nat) (d:D),items[i]? = some d -> ∀ Q:D -> Nat -> Prop,(∀ e,Good d e -> Q e n1) -> g d (List.replicate own none ++ rho) fun rho'=>rho'.drop own = rho /\ te rho' n1 Q)
  (hP:∀ es,Paired Good items es -> P (.lst es) n1):compIn own g bYes te rho P items n1:=by
 refine ⟨hz,fun i acc n=>Paired Good (items.take i) acc /\ n = n1,⟨.nil,rfl⟩,?_,?_⟩
 ·rintro i d acc n e ⟨h1, rfl⟩
  refine he i d e (fun e n3=>Paired Good (items.take (i + 1)) (acc ++ [e]) /\ n3 = n) fun c hg=>⟨?_,rfl⟩
  rw [List.take_add_one,e]
  exact Paired.snoc h1 hg
 ·rintro acc n ⟨h1, rfl⟩
  rw [List.take_length] at h1
  exact hP acc h1
section
variable {P:Program} {w:World} {K:PySem.W.Frag} {mg:Str -> Option Value} {base:Heap}
abbrev s__law_cell_at:Stmt:=top 36
abbrev N__law_cell_at:List Str:=["_law_script", "_law_k"]
theorem sc__law_cell_at:FnScope N__law_cell_at ["_law_script", "_law_k"] (defScope s__law_cell_at):=⟨rfl,rfl,rfl,by decide +kernel,rfl,by decide +kernel,by decide +kernel⟩
def t_cell_at:TF:=fun ds n Q=>∃ (ns:List Int) (j:Int),ds = [scriptD ns,.int j] /\ 0 <= j /\ ∀ x:Int,Q (.int x) n
theorem ok_cell_at {f:Addr} {fd:FuncData} (T:Blt mg) (F:Fun K "_law_cell_at" "_law_cell_at" s__law_cell_at f fd):FnOk P w K mg base CX0 1 f fd ["_law_script", "_law_k"] (spD K 2 t_cell_at):=by
 refine Fun.okD F sc__law_cell_at (fun cdv A0 outer s H E G Z hr=>(pssd_cons (psd_if (ptd_cmp op_lt re_lt (pd_var 1) (pd_callB call_len_seq cr_len T.len bt_len (pad_cons (pd_var 0) pad_nil)) (nomark _)) (pssd_one (psd_ret (pd_ix ix_seq re_ix (pd_var 0) (pd_var 1) (fun _ _=>rfl)))) pssd_nil)
  (pssd_one (psd_ret pd_int)))) ?_
 rintro ds n Q hl ⟨ns,j,rfl,hj,q⟩
 simp [startD,scriptD]
 split
 ·rename_i h
  obtain ⟨d,e,m⟩:=atI_lt (xs:=ns.map D.int) hj (by simpa using h)
  obtain ⟨x,_,rfl⟩:=List.mem_map.mp m
  exact ⟨_,e,q x⟩
 ·exact q 0
abbrev s__law_left:Stmt:=top 37
abbrev N__law_left:List Str:=["_law_script", "_law_k", "_law_cell", "_law_seed"]
theorem sc__law_left:FnScope N__law_left ["_law_script", "_law_k"] (defScope s__law_left):=⟨rfl,rfl,rfl,by decide +kernel,rfl,by decide +kernel,by decide +kernel⟩
def t_left:TF:=fun ds n Q=>∃ (ns:List Int) (j:Int),ds = [scriptD ns,.int j] /\ ns.length <= 63 /\ 0 <= j /\ j < 1000 /\ ∀ x y:Int,0 <= x -> 0 <= y -> y < 2147483647 -> Q (.lst [.int x,.int y]) n
theorem ok_left {f:Addr} {fd:FuncData} (T:Blt mg) (ND:base.NoDigits) (F:Fun K "_law_left" "_law_left" s__law_left f fd) (F__law_cell_at:Fn P w K mg base "_law_cell_at" 1 2 t_cell_at):FnOk P w K mg base CX0 2 f fd ["_law_script", "_law_k"] (spD K 2 t_left):=by
 refine Fun.okD F sc__law_left (fun cdv A0 outer s H E G Z hr=>(pssd_cons (psd_set (i:=2) sc__law_left.nd rfl (lo rfl) (pd_fn F__law_cell_at (hr.mono (by decide)) rfl (pad_cons (pd_var 0) (pad_cons (pd_mod (pd_var 1) (pd_callB (call_max2 rfl) cr_max2 T.max bt_max (pad_cons pd_int (pad_cons (pd_callB call_len_seq cr_len T.len bt_len (pad_cons (pd_var 0) pad_nil)) pad_nil)))) pad_nil))))
  (pssd_cons (psd_set (i:=3) sc__law_left.nd rfl (lo rfl) (pd_mod (pd_mul (pd_add (pd_add (pd_mod (pd_var 2) pd_int) (pd_mul (pd_mul pd_int (pd_var 1)) (pd_var 1))) pd_int) pd_int) pd_int))
  (pssd_one (psd_ret (pd_lst (pad_cons (pd_mod (pd_mul (pd_var 2) (pd_callTy call_int1 cr_intB T.int bt_int (pad_cons (pd_cmp op_ge re_ge (pd_var 2) (pd_pow pd_int pd_int) (nomark _)) pad_nil))) (pd_callTy (call_int_long ND) cr_intL T.int bt_int (pad_cons (pd_op op_add_str re_catS pd_str (pd_op op_mulS re_mulS pd_str pd_int)) pad_nil))) (pad_cons (pd_var 3) pad_nil)))))))) ?_
 rintro ds n Q hl ⟨ns,j,rfl,hns,hj0,hj1,q⟩
 have cm:∀ {i j:Int},(-(2 ^ 64) < i /\ i < 2 ^ 64) -> CMul i j:=fun h=>.inl h
 have cm':∀ {i j:Int},(-(2 ^ 64) < j /\ j < 2 ^ 64) -> CMul i j:=fun h=>.inr h
 obtain ⟨big,hb0,hb1,hb2,hb3⟩:=int_noughts 4000 (by decide) (by decide)
 have hlen:(Str.ofString "1").length + (Txt.mul (Str.ofString "0") 4000).length <= sizeLine:=by
  have ec:=cps_noughts 4000 (by decide)
  have e1:(Str.ofString "1").length = 1:=by decide +kernel
  have e2:(Str.ofString "1" ++ Txt.mul (Str.ofString "0") 4000).cps.toList.length = (Str.ofString "1").cps.toList.length + (Txt.mul (Str.ofString "0") 4000).cps.toList.length:=by
   rw [<- List.length_append,<- Array.toList_append]; rfl
  rw [ec,List.length_cons,List.length_replicate] at e2
  have e3:∀ x:Str,x.cps.toList.length = x.length:=fun x=>Array.length_toList
  rw [e3,e3] at e2
  rw [sizeLine_eq]
  lia
 simp [startD,scriptD]
 refine ⟨by split <;> lia,ns,_,rfl,Int.emod_nonneg _ (by split <;> lia),fun x=>?_⟩
 have h7:0 <= 7919 * j * j:=Int.mul_nonneg (by lia) hj0
 have h8:7919 * j * j <= 7919 * j * 1000:=Int.mul_le_mul_of_nonneg_left (by lia) (by lia)
 simp
 refine ⟨cm ⟨by decide,by decide⟩,cm ⟨by lia,by lia⟩,cm' ⟨by decide,by decide⟩,⟨by decide,by decide,by decide⟩,cm' ⟨by split <;> decide,by split <;> decide⟩,mulok_nought 4000 (by decide) (by decide),hlen,?_⟩
 refine ⟨_,big,rfl,hb1,hb2,hb3,?_⟩
 simp
 exact ⟨hb0,q _ _ (Int.emod_nonneg _ (by lia)) (Int.emod_nonneg _ (by decide)) (Int.emod_lt_of_pos _ (by decide))⟩
abbrev s__law_pick:Stmt:=top 38
abbrev N__law_pick:List Str:=["_law_left_here", "_law_many", "_law_digit"]
theorem sc__law_pick:FnScope N__law_pick ["_law_left_here", "_law_many"] (defScope s__law_pick):=⟨rfl,rfl,rfl,by decide +kernel,rfl,by decide +kernel,by decide +kernel⟩
def t_pick:TF:=fun ds n Q=>∃ m:Int,ds = [.st,.int m] /\ n = 2 /\ 0 < m /\ m < 10000000 /\ ∀ k:Int,0 <= k -> k < m -> Q (.int k) n
theorem ok_pick {f:Addr} {fd:FuncData} (F:Fun K "_law_pick" "_law_pick" s__law_pick f fd):FnOk P w K mg base CX0 1 f fd ["_law_left_here", "_law_many"] (spD K 2 t_pick):=by
 refine Fun.okD F sc__law_pick (fun cdv A0 outer s H E G Z hr=>(pssd_cons (psd_if (ptd_cmp op_gt re_gt (pd_stIx (i:=0) pd_int (fun _ _=>rfl)) pd_int (nomark _)) (pssd_cons (psd_set (i:=2) sc__law_pick.nd rfl (lo rfl) (pd_mod (pd_stIx (i:=0) pd_int (fun _ _=>rfl)) (pd_var 1)))
  (pssd_cons (psd_stSet (i:=0) (pd_div (pd_stIx (i:=0) pd_int (fun _ _=>rfl)) (pd_var 1)) pd_int)
  (pssd_one (psd_ret (pd_var 2))))) pssd_nil)
  (pssd_cons (psd_stSet (i:=0) (pd_mod (pd_add (pd_mul (pd_stIx (i:=0) pd_int (fun _ _=>rfl)) pd_int) pd_int) pd_int) pd_int)
  (pssd_one (psd_ret (pd_mod (pd_mod (pd_mul (pd_stIx (i:=0) pd_int (fun _ _=>rfl)) (pd_stIx (i:=0) pd_int (fun _ _=>rfl))) pd_int) (pd_var 1))))))) ?_
 rintro ds n Q hl ⟨m,rfl,rfl,hm,hm2,q⟩
 have cm:∀ {i j:Int},(-(2 ^ 64) < i /\ i < 2 ^ 64) -> CMul i j:=fun h=>.inl h
 simp [startD]
 intro z0 h0
 split
 ·intro z hz
  exact ⟨hm,fun z1 hz1=>⟨⟨hm,by lia⟩,Int.ediv_nonneg hz1 (by lia),q _ (Int.emod_nonneg _ (by lia)) (Int.emod_lt_of_pos _ hm)⟩⟩
 ·intro z hz hz2
  exact ⟨cm ⟨by lia,by lia⟩,Int.emod_nonneg _ (by decide),Int.emod_lt_of_pos _ (by decide),fun y hy hy2 z1 h1 h1'=>⟨cm ⟨by lia,by lia⟩,hm,q _ (Int.emod_nonneg _ (by lia)) (Int.emod_lt_of_pos _ hm)⟩⟩
theorem pick_intro {m:Int} {Q:D -> Nat -> Prop} (h0:0 < m) (h1:m < 10000000) (h:∀ k:Int,0 <= k -> k < m -> Q (.int k) 2):t_pick [.st,.int m] 2 Q:=⟨m,rfl,rfl,h0,h1,h⟩
end
end K75
set_option maxRecDepth 100000
set_option maxHeartbeats 1000000
namespace K75
open PySem L2 PySem.Spec PyProof.Rows
def small (x:Int):Prop:=-100000000000000000 <= x /\ x <= 100000000000000000
def okEnd (e:End):Prop:=∀ i b,e = some (i,b) -> i.natAbs < 1000000000000000000
def okSpan (s:Span):Prop:=okEnd s.1 /\ okEnd s.2
structure JBx (hd:List (Option D)) (i:Nat) (rho:Rho) (n':Nat):Prop where
 e:n' = 2
 r:∃ (b:List Span) (k:Int) (z1 z2 z3:Option D),b.length = i /\ (∀ s ∈ b,okSpan s) /\ rho = hd ++ [some (.own (b.map encSpan)),some (.int k),z1,z2,z3]
section
variable {P:Program} {w:World} {K:PySem.W.Frag} {mg:Str -> Option Value} {base:Heap}
abbrev s__law_pool:Stmt:=top 39
abbrev N__law_pool:List Str:=["_law_left_here", "_law_low", "_law_stride"]
theorem sc__law_pool:FnScope N__law_pool ["_law_left_here"] (defScope s__law_pool):=⟨rfl,rfl,rfl,by decide +kernel,rfl,by decide +kernel,by decide +kernel⟩
theorem nd__law_pool_0:("_law_k" :: N__law_pool:List Str).Nodup:=by decide +kernel
def t_pool:TF:=fun ds n Q=>ds = [.st] /\ n = 2 /\ ∀ xs:List Int,1 <= xs.length -> xs.length <= 8 -> (∀ x ∈ xs,small x) -> Q (numsD xs) n
theorem ok_pool {f:Addr} {fd:FuncData} (T:Blt mg) (F:Fun K "_law_pool" "_law_pool" s__law_pool f fd) (F__law_pick:Fn P w K mg base "_law_pick" 1 2 t_pick):FnOk P w K mg base CX0 2 f fd ["_law_left_here"] (spD K 1 t_pool):=by
 refine Fun.okD F sc__law_pool (fun cdv A0 outer s H E G Z hr=>(pssd_cons (psd_set (i:=1) sc__law_pool.nd rfl (lo rfl) (pd_ix ix_seq re_ix (pd_lst (pad_cons pd_int (pad_cons (pd_neg pd_int) (pad_cons (pd_pow pd_int pd_int) (pad_cons (pd_neg (pd_pow pd_int pd_int)) (pad_cons pd_int pad_nil)))))) (pd_fn F__law_pick (hr.mono (by decide)) rfl (pad_cons (pd_var 0) (pad_cons pd_int pad_nil))) (fun _ _=>rfl)))
  (pssd_cons (psd_set (i:=2) sc__law_pool.nd rfl (lo rfl) (pd_ix ix_seq re_ix (pd_lst (pad_cons pd_int (pad_cons pd_int (pad_cons pd_int (pad_cons pd_int (pad_cons pd_int (pad_cons (pd_pow pd_int pd_int) pad_nil))))))) (pd_fn F__law_pick (hr.mono (by decide)) rfl (pad_cons (pd_var 0) (pad_cons pd_int pad_nil))) (fun _ _=>rfl)))
  (pssd_one (psd_ret (pd_comp (own:=["_law_k"]) (M:=N__law_pool) (compOk (by rfl)) rfl (pid_rng T.range (pad_cons (pd_ix ix_seq re_ix (pd_lst (pad_cons pd_int (pad_cons pd_int (pad_cons pd_int (pad_cons pd_int (pad_cons pd_int (pad_cons pd_int pad_nil))))))) (pd_fn F__law_pick (hr.mono (by decide)) rfl (pad_cons (pd_var 0) (pad_cons pd_int pad_nil))) (fun _ _=>rfl)) pad_nil)) (fun C s2 H2 fp=>(pgd_name (i:=0) nd__law_pool_0 rfl (lo rfl) (by decide))) (fun C s2 H2 fp=>ptsd_nil) (fun C s2 H2 fp=>(pd_add (pd_var 2) (pd_mul (pd_var 3) (pd_var 0)))))))))) ?_
 rintro ds n Q hl ⟨rfl,rfl,q⟩
 simp [startD]
 refine ⟨⟨by decide,by decide,by decide⟩,pick_intro (by decide) (by decide) fun k h0 h1=>pickI (js:=[0,-3,10000000000000000,-10000000000000000,7]) (-10000000000000000) 10000000000000000 h0 (by simpa using h1) (by decide) fun a ha0 ha1=>?_⟩
 refine ⟨⟨by decide,by decide,by decide⟩,pick_intro (by decide) (by decide) fun k2 h2 h3=>pickI (js:=[1,1,2,3,1000,1000000000000000]) 1 1000000000000000 h2 (by simpa using h3) (by decide) fun b hb0 hb1=>?_⟩
 refine pick_intro (by decide) (by decide) fun k3 h4 h5=>pickI (js:=[1,2,3,5,8,8]) 1 8 h4 (by simpa using h5) (by decide) fun c hc0 hc1=>?_
 obtain ⟨cn,rfl⟩:=Int.eq_ofNat_of_zero_le (show 0 <= c by lia)
 refine ⟨_,rfl,by lia,by lia,?_⟩
 have er:rngD 0 ((cn:Int)).toNat = (List.range cn).map fun (i:Nat)=>.int (i:Int):=by
  unfold rngD
  rw [Int.toNat_natCast]
  refine List.map_congr_left fun i _=>?_
  simp
 rw [er]
 refine comp_mapIn (fun (i:Nat)=>.int (i:Int)) (fun (i:Nat)=>.int (a + b * i)) (List.range cn) (le_size (by simp; lia)) (fun i hi R hR=>?_) ?_
 ·simp
  exact ⟨.inl ⟨by lia,by lia⟩,hR⟩
 ·have e2 : ((List.range cn).map fun (i : Nat) => D.int (a + b * i)) = ((List.range cn).map fun (i : Nat) => a + b * (i : Int)).map D.int := by rw [List.map_map]; rfl
  rw [e2]
  refine q _ (by simp; lia) (by simp; lia) fun x hx=>?_
  obtain ⟨i,hi,rfl⟩:=List.mem_map.mp hx
  have hi':=List.mem_range.mp hi
  have p1:0 <= b * (i:Int):=Int.mul_nonneg (by lia) (by lia)
  have p2:b * (i:Int) <= 1000000000000000 * 8:=Int.mul_le_mul hb1 (by lia) (by lia) (by lia)
  constructor <;> lia
abbrev s__law_number:Stmt:=top 40
abbrev N__law_number:List Str:=["_law_left_here", "_law_pool_here"]
theorem sc__law_number:FnScope N__law_number ["_law_left_here", "_law_pool_here"] (defScope s__law_number):=⟨rfl,rfl,rfl,by decide +kernel,rfl,by decide +kernel,by decide +kernel⟩
def t_number:TF:=fun ds n Q=>∃ xs:List Int,ds = [.st,numsD xs] /\ n = 2 /\ 1 <= xs.length /\ xs.length <= 1000 /\ ∀ x ∈ xs,Q (.int x) n
theorem ok_number {f:Addr} {fd:FuncData} (T:Blt mg) (F:Fun K "_law_number" "_law_number" s__law_number f fd) (F__law_pick:Fn P w K mg base "_law_pick" 1 2 t_pick):FnOk P w K mg base CX0 2 f fd ["_law_left_here", "_law_pool_here"] (spD K 2 t_number):=by
 refine Fun.okD F sc__law_number (fun cdv A0 outer s H E G Z hr=>(pssd_one (psd_ret (pd_ix ix_seq re_ix (pd_var 1) (pd_fn F__law_pick (hr.mono (by decide)) rfl (pad_cons (pd_var 0) (pad_cons (pd_callB call_len_seq cr_len T.len bt_len (pad_cons (pd_var 1) pad_nil)) pad_nil))) (fun _ _=>rfl))))) ?_
 rintro ds n Q hl ⟨xs,rfl,rfl,h1,h2,q⟩
 simp [startD,numsD]
 refine pick_intro (by lia) (by lia) fun k h3 h4=>pick h3 (by simpa using h4) fun d hd=>?_
 obtain ⟨x,hx,rfl⟩:=List.mem_map.mp hd
 exact q x hx
abbrev s__law_end:Stmt:=top 41
abbrev N__law_end:List Str:=["_law_left_here", "_law_pool_here"]
theorem sc__law_end:FnScope N__law_end ["_law_left_here", "_law_pool_here"] (defScope s__law_end):=⟨rfl,rfl,rfl,by decide +kernel,rfl,by decide +kernel,by decide +kernel⟩
def t_end:TF:=fun ds n Q=>∃ xs:List Int,ds = [.st,numsD xs] /\ n = 2 /\ 1 <= xs.length /\ xs.length <= 8 /\ (∀ x ∈ xs,small x) /\ ∀ e:End,okEnd e -> Q (encEnd e) n
theorem ok_end {f:Addr} {fd:FuncData} (T:Blt mg) (F:Fun K "_law_end" "_law_end" s__law_end f fd) (F__law_pick:Fn P w K mg base "_law_pick" 1 2 t_pick) (F__law_number:Fn P w K mg base "_law_number" 2 2 t_number):FnOk P w K mg base CX0 3 f fd ["_law_left_here", "_law_pool_here"] (spD K 2 t_end):=by
 refine Fun.okD F sc__law_end (fun cdv A0 outer s H E G Z hr=>(pssd_cons (psd_if (ptd_cmp op_eq re_eq (pd_fn F__law_pick (hr.mono (by decide)) rfl (pad_cons (pd_var 0) (pad_cons pd_int pad_nil))) pd_int (nomark _)) (pssd_one (psd_ret pd_non)) pssd_nil)
  (pssd_one (psd_ret (pd_tup (pad_cons (pd_add (pd_fn F__law_number (hr.mono (by decide)) rfl (pad_cons (pd_var 0) (pad_cons (pd_var 1) pad_nil))) (pd_ix ix_seq re_ix (pd_lst (pad_cons pd_int (pad_cons pd_int (pad_cons pd_int (pad_cons pd_int (pad_cons (pd_neg pd_int) pad_nil)))))) (pd_fn F__law_pick (hr.mono (by decide)) rfl (pad_cons (pd_var 0) (pad_cons pd_int pad_nil))) (fun _ _=>rfl))) (pad_cons (pd_cmp op_eq re_eq (pd_fn F__law_pick (hr.mono (by decide)) rfl (pad_cons (pd_var 0) (pad_cons pd_int pad_nil))) pd_int (nomark _)) pad_nil))))))) ?_
 rintro ds n Q hl ⟨xs,rfl,rfl,hx1,hx8,hxs,q⟩
 have nx:notOwn (numsD xs) = true:=rfl
 simp [startD]
 refine pick_intro (by decide) (by decide) fun k h0 h1=>?_
 simp
 split
 ·exact q none (fun _ _ z=>by cases z)
 ·simp [nx]
  refine ⟨xs,rfl,rfl,hx1,by lia,fun z hz=>?_⟩
  simp
  refine pick_intro (by decide) (by decide) fun k3 h4 h5=>pickI (js:=[0,0,0,1,-1]) (-1) 1 h4 (by simpa using h5) (by decide) fun t ht0 ht1=>?_
  simp
  refine pick_intro (by decide) (by decide) fun k4 h6 h7=>?_
  simp
  have hz':=hxs z hz
  exact q (some (z + t,decide (k4 = 0))) (fun i b e=>by cases e; have:=hz'.1; have:=hz'.2; lia)
abbrev s__law_box:Stmt:=top 42
abbrev N__law_box:List Str:=["_law_left_here", "_law_d", "_law_pool_here", "_law_spans", "_law_turn", "_law_i", "_law_low", "_law_high"]
theorem sc__law_box:FnScope N__law_box ["_law_left_here", "_law_d", "_law_pool_here"] (defScope s__law_box):=⟨rfl,rfl,rfl,by decide +kernel,rfl,by decide +kernel,by decide +kernel⟩
def t_box:TF:=fun ds n Q=>∃ (d:Nat) (xs:List Int),ds = [.st,.int (d:Int),numsD xs] /\ n = 2 /\ d <= 4 /\ 1 <= xs.length /\ xs.length <= 8 /\ (∀ x ∈ xs,small x) /\ ∀ b:List Span,b.length = d -> (∀ s ∈ b,okSpan s) -> Q (encBox b) n
theorem ok_box {f:Addr} {fd:FuncData} (T:Blt mg) (F:Fun K "_law_box" "_law_box" s__law_box f fd) (F__law_pick:Fn P w K mg base "_law_pick" 1 2 t_pick) (F__law_end:Fn P w K mg base "_law_end" 3 2 t_end):FnOk P w K mg base CX0 4 f fd ["_law_left_here", "_law_d", "_law_pool_here"] (spD K 3 t_box):=by
 refine Fun.okD F sc__law_box (fun cdv A0 outer s H E G Z hr=>(pssd_cons (psd_own (i:=3) sc__law_box.nd rfl (lo rfl) pad_nil)
  (pssd_cons (psd_set (i:=4) sc__law_box.nd rfl (lo rfl) (pd_fn F__law_pick (hr.mono (by decide)) rfl (pad_cons (pd_var 0) (pad_cons pd_int pad_nil))))
  (pssd_cons (psd_for (m:=8) PassesOwn.never rfl (pid_rng T.range (pad_cons (pd_var 1) pad_nil)) (pgd_name (i:=5) sc__law_box.nd rfl (lo rfl) (by decide))
  (pssd_cons (psd_parK (i:=6) (j:=7) rfl sc__law_box.nd rfl rfl (by decide) rfl rfl (pad_cons (pd_fn F__law_end (hr.mono (by decide)) rfl (pad_cons (pd_var 0) (pad_cons (pd_var 2) pad_nil))) (pad_cons (pd_fn F__law_end (hr.mono (by decide)) rfl (pad_cons (pd_var 0) (pad_cons (pd_var 2) pad_nil))) pad_nil)))
  (pssd_cons (psd_if (PWD.pt (pwd_and (ptd_cmp op_eq re_eq (pd_var 4) pd_int (nomark _)) (pwd_and (ptd_cmp op_notN re_notN (pd_var 6) pd_non (nomark _)) (pwd_and (ptd_cmp op_notN re_notN (pd_var 7) pd_non (nomark _)) (pwd_and1 (ptd_cmp op_gt re_gt (pd_ix ix_seq re_ix (pd_var 6) pd_int (fun _ _=>rfl)) (pd_ix ix_seq re_ix (pd_var 7) pd_int (fun _ _=>rfl)) (nomark _))))))) (pssd_one (psd_parK (i:=6) (j:=7) rfl sc__law_box.nd rfl rfl (by decide) rfl rfl (pad_cons (pd_var 7) (pad_cons (pd_var 6) pad_nil)))) pssd_nil)
  (pssd_one (psd_append (i:=3) (pad_cons (pd_tup (pad_cons (pd_var 6) (pad_cons (pd_var 7) pad_nil))) pad_nil) rfl)))))
  (pssd_one (psd_frz 3 (psd_ret (pd_callTy call_tuple_of cr_tuple T.tuple bt_tuple (pad_cons (pd_var 3) pad_nil))))))))) ?_
 rintro ds n Q hl ⟨d,xs,rfl,rfl,hd,hx1,hx8,hxs,q⟩
 have nx:notOwn (numsD xs) = true:=rfl
 generalize hS:sAppend 3 _ = S
 generalize hM:sSeq (sIf _ _ _) S = M
 have stp:∀ (L:List D) (a c:End) (h0 h1 h2 y1 y2:Option D) (F:EndsD),L.length < sizeLine -> F.nx [h0,h1,h2,some (.own (L ++ [.tup [encEnd a,encEnd c]])),y1,y2,some (encEnd a),some (encEnd c)] 2 ->
   S F [h0,h1,h2,some (.own L),y1,y2,some (encEnd a),some (encEnd c)] 2:=fun L a c h0 h1 h2 y1 y2 F hb h=>by
  subst hS
  have na:=no_encEnd a
  have nc:=no_encEnd c
  generalize encEnd a = da at *
  generalize encEnd c = dc at *
  simp [na,nc]
  exact ⟨hb,h⟩
 have main:∀ (L:List D) (lo hi:End) (k:Int) (h0 h1 h2 y2:Option D) (F:EndsD),L.length < sizeLine -> okEnd lo -> okEnd hi -> (∀ a c:End,okEnd a -> okEnd c -> F.nx [h0,h1,h2,some (.own (L ++ [.tup [encEnd a,encEnd c]])),some (.int k),y2,some (encEnd a),some (encEnd c)] 2) ->
   M F [h0,h1,h2,some (.own L),some (.int k),y2,some (encEnd lo),some (encEnd hi)] 2:=fun L lo hi k h0 h1 h2 y2 F hb olo ohi h=>by
  subst hM
  by_cases hk:k = 0
  ·rcases lo with _ | ⟨ln, ls⟩
   ·simp [no_encEnd, hk]
    exact stp L none hi _ _ _ _ _ _ hb (by rw [<- hk]; exact h none hi olo ohi)
   ·rcases hi with _ | ⟨hn, hs⟩
    ·simp [hk]
     exact stp L (some (ln,ls)) none _ _ _ _ _ _ hb (by rw [<- hk]; exact h _ none olo ohi)
    ·simp [hk]
     split
     ·exact stp L (some (hn,hs)) (some (ln,ls)) _ _ _ _ _ _ hb (by rw [<- hk]; exact h _ _ ohi olo)
     ·exact stp L (some (ln,ls)) (some (hn,hs)) _ _ _ _ _ _ hb (by rw [<- hk]; exact h _ _ olo ohi)
  ·simp [hk]
   exact stp L lo hi _ _ _ _ _ _ hb (h _ _ olo ohi)
 simp [startD]
 refine pick_intro (by decide) (by decide) fun k h0 h1=>?_
 refine ⟨by lia,JBx [some .st,some (.int (d:Int)),some (numsD xs)],⟨rfl,[],k,none,none,none,rfl,by simp,rfl⟩,?_,?_⟩
 ·rintro i d' rho n' e ⟨rfl, b, k, z1, z2, z3, hb, hbs, rfl⟩
  obtain ⟨hi,rfl⟩:=rng_at e
  simp [nx]
  refine ⟨xs,rfl,rfl,hx1,hx8,hxs,fun lo olo=>?_⟩
  simp [nx]
  refine ⟨xs,rfl,rfl,hx1,hx8,hxs,fun hi ohi=>?_⟩
  refine main _ lo hi _ _ _ _ _ _ (lt_size (by simp; lia)) olo ohi fun a c oa oc=>⟨rfl,b ++ [(a,c)],k,_,_,_,by simp [hb],fun s hs=>?_,by rw [List.map_append]; exact rfl⟩
  rcases List.mem_append.mp hs with hs | hs
  ·exact hbs s hs
  ·rw [List.mem_singleton.mp hs]; exact ⟨oa,oc⟩
 ·rintro rho n' ⟨rfl, b, k, z1, z2, z3, hb, hbs, rfl⟩
  rw [rng_len] at hb
  simp
  exact q b (by simpa using hb) hbs
end
end K75
set_option maxRecDepth 100000
set_option maxHeartbeats 1000000
namespace K75
open PySem L2 PySem.Spec PyProof.Rows
def lowL:End -> List Nat
 | none=>[45]
 | some (i,b)=>(if b then 91 else 40) :: numL i
def highL:End -> List Nat
 | none=>[45]
 | some (i,b)=>numL i ++ [if b then 93 else 41]
def spanL (s:Span):List Nat:=lowL s.1 ++ 46 :: 46 :: highL s.2
def boxL (b:List Span):List Nat:=joinL [32] (b.map spanL)
theorem numL_len {i:Int} (h:i.natAbs < 1000000000000000000):(numL i).length <= 19:=by
 have:=dg_len (n:=i.natAbs) (by simpa using h)
 unfold numL
 split
 ·simp; lia
 ·lia
theorem log2_small {i:Int} (h:i.natAbs < 1000000000000000000):i.natAbs.log2 < 1920:=by
 by_cases h0:i.natAbs = 0
 ·rw [h0]; decide
 ·refine Nat.lt_of_lt_of_le ((Nat.log2_lt h0).mpr (Nat.lt_of_lt_of_le h (by decide:1000000000000000000 <= 2 ^ 60))) (by decide)
theorem lowL_len {e:End} (h:okEnd e):(lowL e).length <= 20:=by
 rcases e with _ | ⟨i,b⟩
 ·decide
 ·have := numL_len (h i b rfl)
  simp [lowL]; lia
theorem highL_len {e:End} (h:okEnd e):(highL e).length <= 20:=by
 rcases e with _ | ⟨i,b⟩
 ·decide
 ·have := numL_len (h i b rfl)
  simp [highL]; lia
theorem spanL_len {s:Span} (h:okSpan s):(spanL s).length <= 42:=by
 have h1:=lowL_len h.1
 have h2:=highL_len h.2
 simp [spanL]; lia
theorem joinL_len {c:List Nat} {m:Nat}:∀ {ws:List (List Nat)},(∀ w ∈ ws,w.length <= m) -> (joinL c ws).length <= ws.length * (m + c.length)
 | [],_=>by simp [joinL]
 | [a],h=>by
  have:=h a (by simp)
  simp [joinL]; lia
 | a :: b :: r,h=>by
  have h1:=h a (by simp)
  have h2:=joinL_len (c:=c) (ws:=b :: r) fun w hw=>h w (List.mem_cons_of_mem _ hw)
  show (a ++ c ++ joinL c (b :: r)).length <= _
  rw [List.length_append,List.length_append,List.length_cons,Nat.succ_mul]
  lia
theorem minus_tx:Str.ofString "-" = tx [45]:=by decide +kernel
theorem dots_tx:Str.ofString ".." = tx [46,46]:=by decide +kernel
theorem blank_tx:Str.ofString " " = tx [32]:=by decide +kernel
theorem empty_tx:Str.ofString "" = tx []:=by decide +kernel
theorem zero_tx:Str.ofString "0" = tx [48]:=by decide +kernel
theorem sq_tx:Str.ofString "[" = tx [91]:=by decide +kernel
theorem ro_tx:Str.ofString "(" = tx [40]:=by decide +kernel
theorem sqc_tx:Str.ofString "]" = tx [93]:=by decide +kernel
theorem roc_tx:Str.ofString ")" = tx [41]:=by decide +kernel
theorem rdJoin_tx {c:List Nat} {ws:List (List Nat)} {k:D -> Prop} (m:Nat) (hc:c.length <= 16) (hm:∀ w ∈ ws,w.length <= m) (hs:ws.length * (m + 1) <= 1048576) (h:k (.str (tx (joinL c ws)))):rdJoin (tx c) [.lst (ws.map fun w=>D.str (tx w))] k:=by
 refine ⟨ws.map tx,by rw [List.map_map]; rfl,by rw [tx_len]; exact hc,?_,by rw [join_tx]; exact h⟩
 rw [List.map_map,List.length_map]
 have:(ws.map ((fun x=>x.length) ∘ tx)).sum <= ws.length * m:=by
  clear hs h
  induction ws with
  | nil=>simp
  | cons w ws ih =>
   have h1:=hm w (by simp)
   have h2:=ih fun v hv=>hm v (List.mem_cons_of_mem _ hv)
   rw [List.map_cons,List.sum_cons,List.length_cons,Nat.succ_mul]
   show (tx w).length + _ <= _
   rw [tx_len]
   lia
 rw [Nat.mul_add,Nat.mul_one] at hs
 lia
theorem rdCatS_tx {l m:List Nat} {k:D -> Prop} (hz:l.length + m.length <= 1000) (h:k (.str (tx (l ++ m)))):rdCatS (.str (tx l)) (.str (tx m)) k:=by
 simp
 refine ⟨le_size (by rw [tx_len,tx_len]; exact hz),by rw [tx_app]; exact h⟩
section
variable {P:Program} {w:World} {K:PySem.W.Frag} {mg:Str -> Option Value} {base:Heap}
end
end K75
set_option maxRecDepth 100000
set_option maxHeartbeats 1000000
namespace K75
open PySem L2 PySem.Spec PyProof.Rows
section
variable {P:Program} {w:World} {K:PySem.W.Frag} {mg:Str -> Option Value} {base:Heap}
abbrev s_is_whole:Stmt:=top 2
abbrev N_is_whole:List Str:=["thing"]
theorem sc_is_whole:FnScope N_is_whole ["thing"] (defScope s_is_whole):=⟨rfl,rfl,rfl,by decide +kernel,rfl,by decide +kernel,by decide +kernel⟩
def t_whole:TF:=fun ds n Q=>∃ i:Int,ds = [.int i] /\ Q (.bl true) n
theorem ok_whole {f:Addr} {fd:FuncData} (T:Blt mg) (F:Fun K "is_whole" "is_whole" s_is_whole f fd):FnOk P w K mg base CX0 1 f fd ["thing"] (spD K 1 t_whole):=by
 refine Fun.okD F sc_is_whole (fun cdv A0 outer s H E G Z hr=>(pssd_one (psd_ret (pd_and (pd_callB call_isi cr_isi T.isi bt_isi (pad_cons (pd_var 0) (pad_cons (pd_ty (hm:=T.int) (hv:=bt_int)) pad_nil))) (pd_one (pd_not (pd_callB call_isi cr_isi T.isi bt_isi (pad_cons (pd_var 0) (pad_cons (pd_ty (hm:=T.bool) (hv:=bt_bool)) pad_nil))))))))) ?_
 rintro ds n Q hl ⟨i,rfl,q⟩
 simp [startD,isiD,isiOk]
 exact q
abbrev s_is_d:Stmt:=top 5
abbrev N_is_d:List Str:=["thing"]
theorem sc_is_d:FnScope N_is_d ["thing"] (defScope s_is_d):=⟨rfl,rfl,rfl,by decide +kernel,rfl,by decide +kernel,by decide +kernel⟩
def t_is_d:TF:=fun ds n Q=>∃ d:Int,ds = [.int d] /\ Q (.bl (decide (1 <= d /\ d <= 4))) n
theorem ok_is_d {f:Addr} {fd:FuncData} (G_MOST_NUMBERS:GDat K mg "MOST_NUMBERS" (.int 4)) (F:Fun K "is_d" "is_d" s_is_d f fd) (F_is_whole:Fn P w K mg base "is_whole" 1 1 t_whole):FnOk P w K mg base CX0 2 f fd ["thing"] (spD K 1 t_is_d):=by
 refine Fun.okD F sc_is_d (fun cdv A0 outer s H E G Z hr=>(pssd_one (psd_ret (pd_and (pd_fn F_is_whole (hr.mono (by decide)) rfl (pad_cons (pd_var 0) pad_nil)) (pd_one (pd_chain op_le op_le pd_int (pd_var 0) (pd_glob G_MOST_NUMBERS rfl))))))) ?_
 rintro ds n Q hl ⟨d,rfl,q⟩
 simp [startD]
 refine ⟨d,rfl,?_⟩
 by_cases h1:1 <= d
 ·by_cases h4 : d <= 4
  ·simp [h1, h4] at q ⊢
   exact q
  ·simp [h1, h4] at q ⊢
   exact q
 ·simp [h1] at q ⊢
  exact q
abbrev s_is_tuple_of:Stmt:=top 6
abbrev N_is_tuple_of:List Str:=["thing", "length"]
theorem sc_is_tuple_of:FnScope N_is_tuple_of ["thing", "length"] (defScope s_is_tuple_of):=⟨rfl,rfl,rfl,by decide +kernel,rfl,by decide +kernel,by decide +kernel⟩
def t_tupof:TF:=fun ds n Q=>∃ (es:List D) (k:Nat),ds = [.tup es,.int k] /\ Q (.bl (decide (es.length = k))) n
theorem ok_tupof {f:Addr} {fd:FuncData} (T:Blt mg) (F:Fun K "is_tuple_of" "is_tuple_of" s_is_tuple_of f fd):FnOk P w K mg base CX0 1 f fd ["thing", "length"] (spD K 2 t_tupof):=by
 refine Fun.okD F sc_is_tuple_of (fun cdv A0 outer s H E G Z hr=>(pssd_one (psd_ret (pd_and (pd_callB call_isi cr_isi T.isi bt_isi (pad_cons (pd_var 0) (pad_cons (pd_ty (hm:=T.tuple) (hv:=bt_tuple)) pad_nil))) (pd_one (pd_cmp op_eq re_eq (pd_callB call_len_seq cr_len T.len bt_len (pad_cons (pd_var 0) pad_nil)) (pd_var 1) (nomark _))))))) ?_
 rintro ds n Q hl ⟨es,k,rfl,q⟩
 have e:decide ((es.length:Int) = (k:Int)) = decide (es.length = k):=by congr 1; apply propext; lia
 simp [startD,isiD,isiOk]
 first | exact q | (rw [e]; exact q)
abbrev s_is_end:Stmt:=top 9
abbrev N_is_end:List Str:=["thing"]
theorem sc_is_end:FnScope N_is_end ["thing"] (defScope s_is_end):=⟨rfl,rfl,rfl,by decide +kernel,rfl,by decide +kernel,by decide +kernel⟩
def t_is_end:TF:=fun ds n Q=>∃ e:End,ds = [encEnd e] /\ Q (.bl true) n
theorem ok_is_end {f:Addr} {fd:FuncData} (T:Blt mg) (F:Fun K "is_end" "is_end" s_is_end f fd) (F_is_whole:Fn P w K mg base "is_whole" 1 1 t_whole) (F_is_tuple_of:Fn P w K mg base "is_tuple_of" 1 2 t_tupof):FnOk P w K mg base CX0 2 f fd ["thing"] (spD K 1 t_is_end):=by
 refine Fun.okD F sc_is_end (fun cdv A0 outer s H E G Z hr=>(pssd_cons (psd_if (ptd_cmp op_isN re_isN (pd_var 0) pd_non (nomark _)) (pssd_one (psd_ret pd_bl)) pssd_nil)
  (pssd_one (psd_ret (pd_and (pd_fn F_is_tuple_of (hr.mono (by decide)) rfl (pad_cons (pd_var 0) (pad_cons pd_int pad_nil))) (pd_and (pd_fn F_is_whole (hr.mono (by decide)) rfl (pad_cons (pd_ix ix_seq re_ix (pd_var 0) pd_int (fun _ _=>rfl)) pad_nil)) (pd_one (pd_callB call_isi cr_isi T.isi bt_isi (pad_cons (pd_ix ix_seq re_ix (pd_var 0) pd_int (fun _ _=>rfl)) (pad_cons (pd_ty (hm:=T.bool) (hv:=bt_bool)) pad_nil)))))))))) ?_
 rintro ds n Q hl ⟨e,rfl,q⟩
 rcases e with _ | ⟨i,b⟩
 ·simp [startD, isNon]
  exact q
 ·simp [startD, isNon]
  refine ⟨[.int i,.bl b],2,rfl,?_⟩
  simp
  refine ⟨i,rfl,?_⟩
  simp [isiD,isiOk]
  exact q
abbrev s_is_span:Stmt:=top 10
abbrev N_is_span:List Str:=["thing"]
theorem sc_is_span:FnScope N_is_span ["thing"] (defScope s_is_span):=⟨rfl,rfl,rfl,by decide +kernel,rfl,by decide +kernel,by decide +kernel⟩
def t_is_span:TF:=fun ds n Q=>∃ s:Span,ds = [encSpan s] /\ Q (.bl true) n
theorem ok_is_span {f:Addr} {fd:FuncData} (F:Fun K "is_span" "is_span" s_is_span f fd) (F_is_end:Fn P w K mg base "is_end" 2 1 t_is_end) (F_is_tuple_of:Fn P w K mg base "is_tuple_of" 1 2 t_tupof):FnOk P w K mg base CX0 3 f fd ["thing"] (spD K 1 t_is_span):=by
 refine Fun.okD F sc_is_span (fun cdv A0 outer s H E G Z hr=>(pssd_one (psd_ret (pd_and (pd_fn F_is_tuple_of (hr.mono (by decide)) rfl (pad_cons (pd_var 0) (pad_cons pd_int pad_nil))) (pd_and (pd_fn F_is_end (hr.mono (by decide)) rfl (pad_cons (pd_ix ix_seq re_ix (pd_var 0) pd_int (fun _ _=>rfl)) pad_nil)) (pd_one (pd_fn F_is_end (hr.mono (by decide)) rfl (pad_cons (pd_ix ix_seq re_ix (pd_var 0) pd_int (fun _ _=>rfl)) pad_nil)))))))) ?_
 rintro ds n Q hl ⟨⟨a,c⟩,rfl,q⟩
 have e:encSpan (a,c) = .tup [encEnd a,encEnd c]:=rfl
 rw [e]
 simp [startD]
 refine ⟨[encEnd a,encEnd c],2,rfl,?_⟩
 simp
 refine ⟨a,rfl,?_⟩
 simp
 exact ⟨c,rfl,q⟩
abbrev s_is_box:Stmt:=top 11
abbrev N_is_box:List Str:=["thing", "d"]
theorem sc_is_box:FnScope N_is_box ["thing", "d"] (defScope s_is_box):=⟨rfl,rfl,rfl,by decide +kernel,rfl,by decide +kernel,by decide +kernel⟩
theorem nd_is_box_0:("span" :: N_is_box:List Str).Nodup:=by decide +kernel
def t_is_box:TF:=fun ds n Q=>∃ (b:List Span) (d:Nat),ds = [encBox b,.int (d:Int)] /\ 1 <= d /\ d <= 4 /\ b.length <= 1000000 /\ Q (.bl (decide (b.length = d))) n
theorem ok_is_box {f:Addr} {fd:FuncData} (T:Blt mg) (F:Fun K "is_box" "is_box" s_is_box f fd) (F_is_d:Fn P w K mg base "is_d" 2 1 t_is_d) (F_is_tuple_of:Fn P w K mg base "is_tuple_of" 1 2 t_tupof) (F_is_span:Fn P w K mg base "is_span" 3 1 t_is_span):FnOk P w K mg base CX0 4 f fd ["thing", "d"] (spD K 2 t_is_box):=by
 refine Fun.okD F sc_is_box (fun cdv A0 outer s H E G Z hr=>(pssd_one (psd_ret (pd_and (pd_fn F_is_d (hr.mono (by decide)) rfl (pad_cons (pd_var 1) pad_nil)) (pd_and (pd_fn F_is_tuple_of (hr.mono (by decide)) rfl (pad_cons (pd_var 0) (pad_cons (pd_var 1) pad_nil))) (pd_one (pd_callB (call_all rfl) cr_all T.all bt_all (pad_cons (pd_comp (own:=["span"]) (M:=N_is_box) (compOk (by rfl)) rfl (pid_seq rfl (pd_var 0)) (fun C s2 H2 fp=>(pgd_name (i:=0) nd_is_box_0 rfl (lo rfl) (by decide))) (fun C s2 H2 fp=>ptsd_nil) (fun C s2 H2 fp=>(pd_fn F_is_span (hr.mono (by decide)) rfl (pad_cons (pd_var 0) pad_nil)))) pad_nil)))))))) ?_
 rintro ds n Q hl ⟨b,d,rfl,hd1,hd4,hb,q⟩
 have nb:notOwn (encBox b) = true:=id rfl
 have hd:(1:Int) <= (d:Int) /\ (d:Int) <= 4:=by lia
 simp [startD,nb]
 refine ⟨(d:Int),rfl,?_⟩
 simp [hd.1,hd.2,nb]
 refine ⟨b.map encSpan,d,rfl,?_⟩
 rw [List.length_map]
 by_cases h:b.length = d
 ·simp [h, nb] at q ⊢
  refine ⟨_,.inr rfl,comp_mapIn encSpan (fun _=>.bl true) b (Nat.le_trans hb (by decide)) (fun s hs R hR=>?_) ?_⟩
  ·have ns : notOwn (encSpan s) = true := id rfl
   simp [ns]
   exact ⟨s,rfl,hR⟩
  ·refine ⟨b.map fun _ => true, by rw [List.map_map]; rfl, ?_⟩
   have e:(b.map fun _=>true).all id = true:=by simp
   rw [e]
   exact q
 ·simp [h] at q ⊢
  exact q
end
end K75
set_option maxRecDepth 100000
set_option maxHeartbeats 1000000
namespace K75
open PySem L2 PySem.Spec PyProof.Rows
def byO {α:Type} (o:Option α) (k:α -> Prop) (r:Prop):Prop:=match o with | some a=>k a | none=>r
@[simp] theorem byO_some {α:Type} {a:α} {k:α -> Prop} {r:Prop}:byO (some a) k r = k a:=rfl
@[simp] theorem byO_none {α:Type} {k:α -> Prop} {r:Prop}:byO none k r = r:=rfl
theorem le_sz {n:Nat} (h:n <= 1000000):n <= sizeLine:=Nat.le_trans h (by decide)
structure JRn (hd:List (Option D)) (l:List Nat) (n i:Nat) (rho:Rho) (m:Nat):Prop where
 e:m = n
 r:∃ z:Option D,rho = hd ++ [some (.int (((l.take i).foldl (fun a c=>10 * a + (c - 48)) 0:Nat):Int)),z]
section
variable {P:Program} {w:World} {K:PySem.W.Frag} {mg:Str -> Option Value} {base:Heap}
abbrev s_read_number:Stmt:=top 29
abbrev N_read_number:List Str:=["text", "figures", "number", "figure"]
theorem sc_read_number:FnScope N_read_number ["text"] (defScope s_read_number):=⟨rfl,rfl,rfl,by decide +kernel,rfl,by decide +kernel,by decide +kernel⟩
theorem nd_read_number_0:("figure" :: ["text", "figures", "number", "figure'"]:List Str).Nodup:=by decide +kernel
def t_read_number:TFX:=fun ds n Q R=>∃ l:List Nat,ds = [.str (tx l)] /\ l.length <= 200000 /\ byO (readNum l) (fun i=>Q (.int i) n) (R n)
theorem ok_read_number {f:Addr} {fd:FuncData} {C:Addr} (T:Blt mg) (CN_NoText:ClsX K mg "NoText" C) (G_FIGURES:GDat K mg "FIGURES" (.str (tx figL))) (F:Fun K "read_number" "read_number" s_read_number f fd):FnOk P w K mg base (CX1 P w) 1 f fd ["text"] (spX K C 1 t_read_number):=by
 refine Fun.okX (C:=C) F sc_read_number (fun cdv A0 outer s H E G Z R hr hE=>(pssd_cons (psd_set (i:=1) sc_read_number.nd rfl (lo rfl) (pd_if (ptd_val (pd_starts (pd_var 0) (pad_cons pd_str pad_nil))) (pd_slS (pd_var 0) (pod_some pd_int) pod_none) (pd_var 0)))
  (pssd_cons (psd_if (PWD.pt (pwd_or (ptd_cmp op_eq re_eq (pd_var 1) pd_str (nomark _)) (pwd_or1 (ptd_not (ptd_val (pd_callB (call_all rfl) cr_all T.all bt_all (pad_cons (pd_comp (own:=["figure"]) (M:=["text", "figures", "number", "figure'"]) (compOk (by rfl)) rfl (pid_str (pd_var 1)) (fun C s2 H2 fp=>(pgd_name (i:=0) nd_read_number_0 rfl (lo rfl) (by decide))) (fun C s2 H2 fp=>ptsd_nil) (fun C s2 H2 fp=>(pd_cmp op_in_str re_inS (pd_var 0) (pd_glob G_FIGURES rfl) (by with_unfolding_all rfl)))) pad_nil))))))) (pssd_one (psd_raise CN_NoText (xok hE))) pssd_nil)
  (pssd_cons (psd_if (PWD.pt (pwd_and (ptd_val (pd_starts (pd_var 1) (pad_cons pd_str pad_nil))) (pwd_and1 (ptd_cmp op_ne re_ne (pd_var 0) pd_str (nomark _))))) (pssd_one (psd_raise CN_NoText (xok hE))) pssd_nil)
  (pssd_cons (psd_set (i:=2) sc_read_number.nd rfl (lo rfl) pd_int)
  (pssd_cons (psd_for (m:=4) PassesOwn.leaving rfl (pid_str (pd_var 1)) (pgd_name (i:=3) sc_read_number.nd rfl (lo rfl) (by decide))
  (pssd_one (psd_set (i:=2) sc_read_number.nd rfl (lo rfl) (pd_add (pd_mul pd_int (pd_var 2)) (pd_indexS (pd_glob G_FIGURES rfl) (pad_cons (pd_var 3) pad_nil))))))
  (pssd_one (psd_ret (pd_if (ptd_val (pd_starts (pd_var 0) (pad_cons pd_str pad_nil))) (pd_neg (pd_var 2)) (pd_var 2)))))))))) ?_
 rintro ds n Q R hl ⟨l,rfl,hlen,q⟩
 with_reducible generalize hS:sSeq (sIf (bOr _ _) _ _) _ = S
 have hfl:(figs l).length <= l.length:=by
  unfold figs
  split
  ·simp
  ·exact Nat.le_refl _
 have main:∀ F:EndsD,F.rt = Q -> S F [some (.str (tx l)),some (.str (tx (figs l))),none,none] n:=fun F hF=>by
  subst hS
  have i0:Str.ofString "" = tx []:=empty_tx
  by_cases h0:figs l = []
  ·have hq : readNum l = none := by unfold readNum; rw [if_pos (.inl h0)]
   rw [hq,byO_none] at q
   simp [i0,h0,sRaise]
   exact q
  have ne:¬ (tx (figs l) = tx []):=by rw [tx_eq]; exact h0
  simp [i0,zero_tx,minus_tx,ne]
  rw [signs_tx]
  refine comp_mapIn (fun c=>D.str (tx [c])) (fun c=>.bl (isFig c)) (figs l) (le_sz (by lia)) (fun c hc R hR=>?_) ?_
  ·have h : (!(Builtin.Str.occurrences (tx figL) (tx [c]) 0 (tx figL).length 1).isEmpty) = isFig c := fig_in c
   simp [h]
   exact hR
  refine ⟨(figs l).map isFig,by rw [List.map_map]; rfl,?_⟩
  have eA:((figs l).map isFig).all id = (figs l).all isFig:=by rw [List.all_map]; rfl
  rw [eA]
  cases hall:(figs l).all isFig
  ·have hq : readNum l = none := by unfold readNum; rw [if_pos (.inr (.inl hall))]
   rw [hq,byO_none] at q
   simp [sRaise]
   exact q
  simp
  rw [starts_head]
  have hd:∀ c ∈ figs l,48 <= c /\ c <= 57:=fun c hc=>by
   have:=List.all_eq_true.mp hall c hc
   simpa [isFig] using this
  with_reducible generalize hL:loopIn (gdName 3) _ _ _ _ n = L
  have loop:(((figs l).head? = some 48 -> l = [48])) -> L:=fun hz=>by
   have hq:readNum l = some (if l.head? = some 45 then -(valL (figs l):Int) else valL (figs l)):=by
    unfold readNum
    rw [if_neg]
    rintro (z | z | ⟨z,y⟩)
    ·exact h0 z
    ·rw [hall] at z; cases z
    ·exact y (hz z)
   rw [hq,byO_some] at q
   subst hL
   refine ⟨JRn [some (.str (tx l)),some (.str (tx (figs l)))] (figs l) n,⟨rfl,none,rfl⟩,?_,?_⟩
   ·rintro j d rho m' he ⟨rfl, z, rfl⟩
    rw [List.getElem?_map] at he
    cases hc:(figs l)[j]? with
    | none=>rw [hc] at he; cases he
    | some c =>
     rw [hc] at he
     cases he
     obtain ⟨r,hr⟩:=fig_at (hd c (List.mem_of_getElem? hc))
     simp
     refine ⟨.inl ⟨by decide,by decide⟩,c - 48,⟨r,hr⟩,?_⟩
     refine ⟨rfl,some (.str (tx [c])),?_⟩
     rw [List.take_add_one,hc]
     simp
   ·rintro rho m' ⟨rfl, z, rfl⟩
    rw [List.length_map,List.take_length]
    rw [<- hF] at q
    by_cases hn:l.head? = some 45
    ·rw [if_pos hn] at q
     simp [starts_head,hn]
     exact q
    ·rw [if_neg hn] at q
     simp [starts_head,hn]
     exact q
  by_cases hc:(figs l).head? = some 48
  ·by_cases hz : l = [48]
   ·have ez : tx l = tx [48] := by rw [hz]
    simp [hc,ez]
    exact loop fun _=>hz
   ·have hq : readNum l = none := by unfold readNum; rw [if_pos (.inr (.inr ⟨hc, hz⟩))]
    rw [hq,byO_none] at q
    have nz:¬ (tx l = tx [48]):=by rw [tx_eq]; exact hz
    simp [hc,nz,sRaise]
    exact q
  ·simp [hc]
   exact loop fun z=>absurd z hc
 by_cases hn:l.head? = some 45
 ·have el := figs_minus hn
  have es:Txt.slice (tx l) (some 1) none = tx (figs l):=by rw [sl_rest,el]; rfl
  simp [startD,minus_tx,starts_head,hn,es]
  exact ⟨le_sz (by rw [tx_len]; lia),main _ rfl⟩
 ·have el := figs_plain hn
  simp [startD,minus_tx,starts_head,hn]
  rw [el] at main
  exact main _ rfl
end
end K75
set_option maxRecDepth 100000
set_option maxHeartbeats 1000000
namespace K75
open PySem L2 PySem.Spec PyProof.Rows
section
variable {P:Program} {w:World} {K:PySem.W.Frag} {mg:Str -> Option Value} {base:Heap}
theorem no_in {sg c1 c2:List Nat} {k:D -> Prop} (h:k (.bl (decide (sg ≠ c1 /\ sg ≠ c2)))):rdIn true (.str (tx sg)) (.tup [.str (tx c1),.str (tx c2)]) k:=by
 refine ⟨rfl,_,.inl rfl,rfl,?_⟩
 by_cases h1:sg = c1
 ·subst h1
  simp [inD,eqD] at h ⊢
  exact h
 ·by_cases h2 : sg = c2
  ·subst h2
   simp [inD,eqD] at h ⊢
   exact h
  ·have n1 : ¬ tx c1 = tx sg := by rw [tx_eq]; exact fun z => h1 z.symm
   have n2:¬ tx c2 = tx sg:=by rw [tx_eq]; exact fun z=>h2 z.symm
   have m1:¬ tx sg = tx c1:=by rw [tx_eq]; exact h1
   have m2:¬ tx sg = tx c2:=by rw [tx_eq]; exact h2
   have b1:(tx c1 == tx sg) = false:=beq_eq_false_iff_ne.mpr n1
   have b2:(tx c2 == tx sg) = false:=beq_eq_false_iff_ne.mpr n2
   simp [inD,eqD,h1,h2,b1,b2] at h ⊢
   exact h
abbrev s_read_end:Stmt:=top 30
abbrev N_read_end:List Str:=["text", "bracket", "number", "brackets"]
theorem sc_read_end:FnScope N_read_end ["text", "bracket", "number", "brackets"] (defScope s_read_end):=⟨rfl,rfl,rfl,by decide +kernel,rfl,by decide +kernel,by decide +kernel⟩
def t_read_end:TFX:=fun ds n Q R=>∃ l sg rest c1 c2:List Nat,ds = [.str (tx l),.str (tx sg),.str (tx rest),.tup [.str (tx c1),.str (tx c2)]] /\ rest.length <= 200000 /\ byO (endF l sg rest c1 c2) (fun e=>Q (encEnd e) n) (R n)
theorem ok_read_end {f:Addr} {fd:FuncData} {C:Addr} (CN_NoText:ClsX K mg "NoText" C) (F:Fun K "read_end" "read_end" s_read_end f fd) (FX_read_number:FnX P w K mg base "read_number" 1 1 C t_read_number):FnOk P w K mg base (CX1 P w) 2 f fd ["text", "bracket", "number", "brackets"] (spX K C 4 t_read_end):=by
 refine Fun.okX (C:=C) F sc_read_end (fun cdv A0 outer s H E G Z R hr hE=>(pssd_cons (psd_if (ptd_cmp op_eq re_eq (pd_var 0) pd_str (nomark _)) (pssd_one (psd_ret pd_non)) pssd_nil)
  (pssd_cons (psd_if (ptd_cmp op_notIn_seq (re_in (neg:=true)) (pd_var 1) (pd_var 3) (by with_unfolding_all rfl)) (pssd_one (psd_raise CN_NoText (xok hE))) pssd_nil)
  (pssd_one (psd_ret (pd_tup (pad_cons (pd_fnX FX_read_number (pass1 hE) (hr.mono (by decide)) rfl (pad_cons (pd_var 2) pad_nil)) (pad_cons (pd_cmp op_eq re_eq (pd_var 1) (pd_ix ix_seq re_ix (pd_var 3) pd_int (fun _ _=>rfl)) (nomark _)) pad_nil)))))))) ?_
 rintro ds n Q R hl ⟨l,sg,rest,c1,c2,rfl,hlen,q⟩
 unfold endF at q
 by_cases h0:l = [45]
 ·subst h0
  simp [startD,minus_tx]
  exact q
 rw [if_neg h0] at q
 have ne:¬ (tx l = tx [45]):=by rw [tx_eq]; exact h0
 simp [startD,minus_tx,ne]
 refine no_in ?_
 by_cases hb:sg ≠ c1 /\ sg ≠ c2
 ·rw [if_pos hb] at q
  rw [decide_eq_true hb]
  simp [sRaise]
  exact q
 rw [if_neg hb] at q
 rw [decide_eq_false hb]
 simp
 refine ⟨rest,rfl,hlen,?_⟩
 cases hn:readNum rest with
 | none=>rw [hn] at q; exact q
 | some i =>
  rw [hn] at q
  have e:decide (tx sg = tx c1) = decide (sg = c1):=decide_eq_decide.mpr ⟨tx_inj,fun h=>by rw [h]⟩
  rw [byO_some]
  simp [e]
  exact q
abbrev s_read_span:Stmt:=top 31
abbrev N_read_span:List Str:=["text", "low", "dots", "high"]
theorem sc_read_span:FnScope N_read_span ["text"] (defScope s_read_span):=⟨rfl,rfl,rfl,by decide +kernel,rfl,by decide +kernel,by decide +kernel⟩
def t_read_span:TFX:=fun ds n Q R=>∃ l:List Nat,ds = [.str (tx l)] /\ l.length <= 200000 /\ byO (readSpan l) (fun s=>Q (encSpan s) n) (R n)
theorem ok_read_span {f:Addr} {fd:FuncData} {C:Addr} (F:Fun K "read_span" "read_span" s_read_span f fd) (FX_read_end:FnX P w K mg base "read_end" 2 4 C t_read_end):FnOk P w K mg base (CX1 P w) 3 f fd ["text"] (spX K C 1 t_read_span):=by
 refine Fun.okX (C:=C) F sc_read_span (fun cdv A0 outer s H E G Z R hr hE=>(pssd_cons (psd_unp (m:=4) (pd_part (pd_var 0) (pad_cons pd_str pad_nil)) (pgd_tup (k:=3) rfl rfl (pgsd_cons (pgd_name (i:=1) sc_read_span.nd rfl (lo rfl) (by decide)) (pgsd_cons (pgd_name (i:=2) sc_read_span.nd rfl (lo rfl) (by decide)) (pgsd_cons (pgd_name (i:=3) sc_read_span.nd rfl (lo rfl) (by decide)) pgsd_nil)))))
  (pssd_one (psd_ret (pd_tup (pad_cons (pd_fnX FX_read_end (pass1 hE) (hr.mono (by decide)) rfl (pad_cons (pd_var 1) (pad_cons (pd_slS (pd_var 1) pod_none (pod_some pd_int)) (pad_cons (pd_slS (pd_var 1) (pod_some pd_int) pod_none) (pad_cons (pd_tup (pad_cons pd_str (pad_cons pd_str pad_nil))) pad_nil))))) (pad_cons (pd_fnX FX_read_end (pass1 hE) (hr.mono (by decide)) rfl (pad_cons (pd_var 3) (pad_cons (pd_slS (pd_var 3) (pod_some (pd_neg pd_int)) pod_none) (pad_cons (pd_slS (pd_var 3) pod_none (pod_some (pd_neg pd_int))) (pad_cons (pd_tup (pad_cons pd_str (pad_cons pd_str pad_nil))) pad_nil))))) pad_nil))))))) ?_
 rintro ds n Q R hl ⟨l,rfl,hlen,q⟩
 cases hc:cut2 l with
 | none =>
  have hq:readSpan l = none:=by unfold readSpan; rw [hc]
  rw [hq,byO_none] at q
  simp [startD,dots_tx,part_none hc,sl_first,sl_rest,sl_end,sl_body,sq_tx,ro_tx,sqc_tx,roc_tx,tx_len]
  have z:=le_sz (n:=l.length) (by lia)
  refine ⟨z,by lia,by lia,l,l.take 1,l.drop 1,[91],[40],by rw [List.drop_one],by simp; lia,?_⟩
  cases endF l (l.take 1) (l.drop 1) [91] [40] with
  | none=>exact q
  | some e=>exact ⟨[],[],[],[93],[41],rfl,by decide,q⟩
 | some p =>
  obtain ⟨a,b⟩:=p
  obtain ⟨el,_⟩:=cut2_some hc
  simp [startD,dots_tx,part_some hc,sl_first,sl_rest,sl_end,sl_body,sq_tx,ro_tx,sqc_tx,roc_tx,tx_len]
  have hz:a.length + b.length + 2 = l.length:=by rw [el]; simp; lia
  have z:=le_sz (n:=l.length) (by lia)
  refine ⟨z,by lia,by lia,a,a.take 1,a.drop 1,[91],[40],by rw [List.drop_one],by simp; lia,?_⟩
  have er:readSpan l = match readLow a,readHigh b with
   | some x,some y=>some (x,y)
   | _,_=>none:=by
   unfold readSpan
   rw [hc]
   try rfl
  rw [er] at q
  show byO (readLow a) _ _
  cases ha:readLow a with
  | none=>rw [ha] at q; exact q
  | some x =>
   rw [byO_some]
   refine ⟨by lia,by lia,b,b.drop (b.length - 1),b.dropLast,[93],[41],rfl,by simp; lia,?_⟩
   show byO (readHigh b) _ _
   rw [ha] at q
   cases hb:readHigh b with
   | none=>rw [hb] at q; exact q
   | some y=>rw [hb] at q; exact q
abbrev s_read_spans:Stmt:=top 32
abbrev N_read_spans:List Str:=["words", "d", "box"]
theorem sc_read_spans:FnScope N_read_spans ["words", "d"] (defScope s_read_spans):=⟨rfl,rfl,rfl,by decide +kernel,rfl,by decide +kernel,by decide +kernel⟩
theorem nd_read_spans_0:("word" :: N_read_spans:List Str).Nodup:=by decide +kernel
def readWords (ws:List (List Nat)) (d:Nat):Option (List Span):=if (ws.filterMap readSpan).length = ws.length /\ ws.length = d then some (ws.filterMap readSpan) else none
theorem filt_some {ws:List (List Nat)} (h:∀ w ∈ ws,∃ s,readSpan w = some s):(ws.filterMap readSpan).length = ws.length:=by
 induction ws with
 | nil=>rfl
 | cons w ws ih =>
  obtain ⟨s,e⟩:=h w (by simp)
  rw [List.filterMap_cons_some e,List.length_cons,List.length_cons,ih fun v hv=>h v (List.mem_cons_of_mem _ hv)]
theorem filt_none {ws:List (List Nat)} {w:List Nat} (hw:w ∈ ws) (h:readSpan w = none):(ws.filterMap readSpan).length ≠ ws.length:=by
 induction ws with
 | nil=>cases hw
 | cons v ws ih =>
  have hle:(ws.filterMap readSpan).length <= ws.length:=List.length_filterMap_le ..
  rcases List.mem_cons.mp hw with rfl | hw
  ·rw [List.filterMap_cons_none h, List.length_cons]
   lia
  ·have := ih hw
   cases e:readSpan v with
   | none=>rw [List.filterMap_cons_none e,List.length_cons]; lia
   | some s=>rw [List.filterMap_cons_some e,List.length_cons,List.length_cons]; lia
def t_read_spans:TFX:=fun ds n Q R=>∃ (ws:List (List Nat)) (d:Nat),ds = [.lst (ws.map fun w=>D.str (tx w)),.int (d:Int)] /\ 1 <= d /\ d <= 4 /\ ws.length <= 200001 /\ (∀ w ∈ ws,w.length <= 200000) /\ byO (readWords ws d) (fun b=>Q (encBox b) n) (R n)
structure JSp (ws:List (List Nat)) (n i:Nat) (acc:List D) (m:Nat):Prop where
 e:m = n
 a:acc = ((ws.take i).filterMap readSpan).map encSpan
 s:∀ w ∈ ws.take i,∃ s,readSpan w = some s
theorem ok_read_spans {f:Addr} {fd:FuncData} {C:Addr} (T:Blt mg) (CN_NoText:ClsX K mg "NoText" C) (F:Fun K "read_spans" "read_spans" s_read_spans f fd) (FX_read_span:FnX P w K mg base "read_span" 3 1 C t_read_span) (F_is_box:Fn P w K mg base "is_box" 4 2 t_is_box):FnOk P w K mg base (CX1 P w) 5 f fd ["words", "d"] (spX K C 2 t_read_spans):=by
 refine Fun.okX (C:=C) F sc_read_spans (fun cdv A0 outer s H E G Z R hr hE=>(pssd_cons (psd_set (i:=2) sc_read_spans.nd rfl (lo rfl) (pd_callTy call_tuple_of cr_tuple T.tuple bt_tuple (pad_cons (pd_compX (passC hE) (own:=["word"]) (M:=N_read_spans) (compOk (by rfl)) rfl (pid_seq rfl (pd_var 0)) (fun C s2 H2 fp=>(pgd_name (i:=0) nd_read_spans_0 rfl (lo rfl) (by decide))) (fun C s2 H2 fp=>ptsd_nil) (fun C s2 H2 fp=>(pd_fnX FX_read_span passB (hr.mono (by decide)) rfl (pad_cons (pd_var 0) pad_nil)))) pad_nil)))
  (pssd_cons (psd_if (ptd_not (ptd_val (pd_fn F_is_box (hr.mono (by decide)) rfl (pad_cons (pd_var 2) (pad_cons (pd_var 1) pad_nil))))) (pssd_one (psd_raise CN_NoText (xok hE))) pssd_nil)
  (pssd_one (psd_ret (pd_var 2)))))) ?_
 rintro ds n Q R hl ⟨ws,d,rfl,hd1,hd4,hlen,hw,q⟩
 simp [startD]
 refine ⟨le_sz (by rw [List.length_map]; lia),JSp ws n,⟨rfl,rfl,fun w hw=>by simp at hw⟩,?_,?_⟩
 ·rintro i dd acc m he ⟨rfl, rfl, hs⟩
  rw [List.getElem?_map] at he
  cases hc:ws[i]? with
  | none=>rw [hc] at he; cases he
  | some w =>
   rw [hc] at he
   cases he
   have hm:=List.mem_of_getElem? hc
   simp
   refine ⟨w,rfl,hw w hm,?_⟩
   cases er:readSpan w with
   | none =>
    have:readWords ws d = none:=by
     unfold readWords
     rw [if_neg]
     exact fun z=>filt_none hm er z.1
    rw [this] at q
    exact q
   | some sp =>
    rw [byO_some]
    refine ⟨rfl,?_,fun v hv=>?_⟩
    ·rw [List.take_add_one, hc]
     simp [er]
    ·rw [List.take_add_one, hc] at hv
     rcases List.mem_append.mp hv with hv | hv
     ·exact hs v hv
     ·have : v = w := by simpa using hv
      exact ⟨sp,by rw [this]; exact er⟩
 ·rintro acc m ⟨rfl, rfl, hs⟩
  have et:ws.take (ws.map fun w=>D.str (tx w)).length = ws:=List.take_of_length_le (by rw [List.length_map]; exact Nat.le_refl _)
  rw [et] at hs ⊢
  have hfl:=filt_some hs
  have eb:D.tup ((ws.filterMap readSpan).map encSpan) = encBox (ws.filterMap readSpan):=rfl
  have nb:notOwn (encBox (ws.filterMap readSpan)) = true:=id rfl
  simp only [q_kTupleL]
  rw [eb]
  simp [nb]
  refine ⟨ws.filterMap readSpan,d,rfl,hd1,hd4,by lia,?_⟩
  by_cases hd:ws.length = d
  ·have : readWords ws d = some (ws.filterMap readSpan) := by unfold readWords; rw [if_pos ⟨hfl, hd⟩]
   rw [this] at q
   simp [hfl,hd,nb]
   exact q
  ·have : readWords ws d = none := by unfold readWords; rw [if_neg fun z => hd z.2]
   rw [this] at q
   simp [hfl,hd,sRaise]
   exact q
abbrev s_parted:Stmt:=top 28
abbrev N_parted:List Str:=["text", "sign"]
theorem sc_parted:FnScope N_parted ["text", "sign"] (defScope s_parted):=⟨rfl,rfl,rfl,by decide +kernel,rfl,by decide +kernel,by decide +kernel⟩
def splitL (c:Nat) (l:List Nat):List (List Nat):=(Txt.split (tx l) (tx [c])).map fun x=>x.cps.toList
theorem splitL_tx (c:Nat) (l:List Nat):Txt.split (tx l) (tx [c]) = (splitL c l).map tx:=by
 unfold splitL
 rw [List.map_map]
 exact (List.map_id'' (fun x=>(tx_of x).symm) _).symm
theorem splitL_join (c:Nat) (l:List Nat):joinL [c] (splitL c l) = l:=by
 obtain ⟨ps,e,_,_,h⟩:=split_parts c l
 have:splitL c l = ps:=by
  unfold splitL
  rw [e,List.map_map]
  exact List.map_id'' (fun _=>rfl) _
 rw [this,h]
theorem join_sizes {c:Nat}:∀ ws:List (List Nat),ws.length <= (joinL [c] ws).length + 1 /\ ∀ w ∈ ws,w.length <= (joinL [c] ws).length
 | []=>⟨by simp,fun w h=>by cases h⟩
 | [a]=>⟨by simp,fun w h=>by
  have:w = a:=by simpa using h
  rw [this]; exact Nat.le_refl _⟩
 | a :: b :: r => by
  obtain ⟨h1,h2⟩:=join_sizes (c:=c) (b :: r)
  have e:(joinL [c] (a :: b :: r)).length = a.length + 1 + (joinL [c] (b :: r)).length:=by
   show (a ++ [c] ++ joinL [c] (b :: r)).length = _
   rw [List.length_append,List.length_append]
   rfl
  refine ⟨by rw [e]; simp only [List.length_cons] at h1 ⊢; lia,fun w h=>?_⟩
  rcases List.mem_cons.mp h with rfl | h
  ·lia
  ·have:=h2 w h; lia
def t_partedX:TFX:=fun ds n Q R=>(∃ (l:List Nat) (c:Nat),ds = [.str (tx l),.str (tx [c])] /\ l.length <= 200000 /\ Q (.lst ((splitL c l).map fun w=>D.str (tx w))) n) \/ ∃ x y:D,ds = [x,y] /\ notOwn x = true /\ isiOk x = true /\ isiD "str" x = false /\ R n
theorem ok_partedX {f:Addr} {fd:FuncData} {C:Addr} (T:Blt mg) (CN_NoText:ClsX K mg "NoText" C) (F:Fun K "parted" "parted" s_parted f fd):FnOk P w K mg base (CX1 P w) 1 f fd ["text", "sign"] (spX K C 2 t_partedX):=by
 refine Fun.okX (C:=C) F sc_parted (fun cdv A0 outer s H E G Z R hr hE=>(pssd_cons (psd_if (ptd_not (ptd_val (pd_callB call_isi cr_isi T.isi bt_isi (pad_cons (pd_var 0) (pad_cons (pd_ty (hm:=T.str) (hv:=bt_str)) pad_nil))))) (pssd_one (psd_raise CN_NoText (xok hE))) pssd_nil)
  (pssd_one (psd_ret (pd_split (pd_var 0) (pad_cons (pd_var 1) pad_nil)))))) ?_
 rintro ds n Q R hl (⟨l,c,rfl,hlen,q⟩ | ⟨x,y,rfl,hn,h1,h2,q⟩)
 ·have hs := join_sizes (c := c) (splitL c l)
  rw [splitL_join] at hs
  simp [startD,isiD,isiOk]
  rw [splitL_tx]
  refine ⟨by rw [tx_len]; simp,le_sz (by rw [tx_len]; lia),le_sz (by rw [List.length_map]; lia),?_⟩
  rw [List.map_map]
  exact q
 ·simp [startD, hn, h1, h2, sRaise]
  exact q
end
end K75
set_option maxRecDepth 100000
set_option maxHeartbeats 1000000
namespace K75
open PySem L2 PySem.Spec PyProof.Rows
section
variable {P:Program} {w:World} {K:PySem.W.Frag} {mg:Str -> Option Value} {base:Heap}
abbrev s__law_same:Stmt:=top 54
abbrev N__law_same:List Str:=["_law_found", "_law_due"]
theorem sc__law_same:FnScope N__law_same ["_law_found", "_law_due"] (defScope s__law_same):=⟨rfl,rfl,rfl,by decide +kernel,rfl,by decide +kernel,by decide +kernel⟩
theorem nd__law_same_0:("_law_one" :: "_law_other" :: N__law_same:List Str).Nodup:=by decide +kernel
def t_same:Nat -> TF
 | 0=>fun _ _ _=>False
 | j + 1=>fun ds n Q=>∃ d,ds = [d,d] /\ okT d j = true /\ Q (.bl true) n
theorem ok_same {f:Addr} {fd:FuncData} (T:Blt mg) (F:Fun K "_law_same" "_law_same" s__law_same f fd) (hm:mg "_law_same" = some (.ref f)) (hk:PySem.W.keepIn K (.ref f) = true) (hb:Binds K fd ["_law_found", "_law_due"] []):∀ j:Nat,FnOk P w K mg base CX0 j f fd ["_law_found", "_law_due"] (spD K 2 (t_same j)):=by
 intro j
 induction j with
 | zero=>exact FnOk.bot fun ds n Q h=>h
 | succ j ih =>
  have F__law_same:Fn P w K mg base "_law_same" j 2 (t_same j):=⟨f,fd,_,ih,hm,hk,hb⟩
  refine Fun.okD F sc__law_same (fun cdv A0 outer s H E G Z hr=>(pssd_cons (psd_if (ptd_val (pd_callB call_isi cr_isi T.isi bt_isi (pad_cons (pd_var 1) (pad_cons (pd_ty (hm:=T.tuple) (hv:=bt_tuple)) pad_nil)))) (pssd_cons (psd_if (PWD.pt (pwd_or (ptd_not (ptd_val (pd_callB call_isi cr_isi T.isi bt_isi (pad_cons (pd_var 0) (pad_cons (pd_ty (hm:=T.tuple) (hv:=bt_tuple)) pad_nil))))) (pwd_or1 (ptd_cmp op_ne re_ne (pd_callB call_len_seq cr_len T.len bt_len (pad_cons (pd_var 0) pad_nil)) (pd_callB call_len_seq cr_len T.len bt_len (pad_cons (pd_var 1) pad_nil)) (nomark _))))) (pssd_one (psd_ret pd_bl)) pssd_nil)
  (pssd_one (psd_ret (pd_callB (call_all rfl) cr_all T.all bt_all (pad_cons (pd_comp (own:=["_law_one", "_law_other"]) (M:=N__law_same) (compOk (by rfl)) rfl (pid_zip rfl T.zip (pad_cons (pd_var 0) (pad_cons (pd_var 1) pad_nil))) (fun C s2 H2 fp=>(pgd_tup (k:=2) rfl rfl (pgsd_cons (pgd_name (i:=0) nd__law_same_0 rfl (lo rfl) (by decide)) (pgsd_cons (pgd_name (i:=1) nd__law_same_0 rfl (lo rfl) (by decide)) pgsd_nil)))) (fun C s2 H2 fp=>ptsd_nil) (fun C s2 H2 fp=>(pd_fn F__law_same hr rfl (pad_cons (pd_var 0) (pad_cons (pd_var 1) pad_nil))))) pad_nil))))) pssd_nil)
  (pssd_cons (psd_if (ptd_cmp op_isN re_isN (pd_var 1) pd_non (nomark _)) (pssd_one (psd_ret (pd_cmp op_isN re_isN (pd_var 0) pd_non (nomark _)))) pssd_nil)
  (pssd_cons (psd_if (ptd_val (pd_callB call_isi cr_isi T.isi bt_isi (pad_cons (pd_var 1) (pad_cons (pd_ty (hm:=T.str) (hv:=bt_str)) pad_nil)))) (pssd_one (psd_ret (pd_and (pd_callB call_isi cr_isi T.isi bt_isi (pad_cons (pd_var 0) (pad_cons (pd_ty (hm:=T.str) (hv:=bt_str)) pad_nil))) (pd_one (pd_cmp op_eq re_eq (pd_var 0) (pd_var 1) (nomark _)))))) pssd_nil)
  (pssd_cons (psd_if (PWD.pt (pwd_or (ptd_val (pd_callB call_isi cr_isi T.isi bt_isi (pad_cons (pd_var 1) (pad_cons (pd_ty (hm:=T.bool) (hv:=bt_bool)) pad_nil)))) (pwd_or1 (ptd_val (pd_callB call_isi cr_isi T.isi bt_isi (pad_cons (pd_var 0) (pad_cons (pd_ty (hm:=T.bool) (hv:=bt_bool)) pad_nil))))))) (pssd_one (psd_ret (pd_and (pd_callB call_isi cr_isi T.isi bt_isi (pad_cons (pd_var 0) (pad_cons (pd_ty (hm:=T.bool) (hv:=bt_bool)) pad_nil))) (pd_and (pd_callB call_isi cr_isi T.isi bt_isi (pad_cons (pd_var 1) (pad_cons (pd_ty (hm:=T.bool) (hv:=bt_bool)) pad_nil))) (pd_one (pd_cmp op_eq re_eq (pd_var 0) (pd_var 1) (nomark _))))))) pssd_nil)
  (pssd_one (psd_ret (pd_and (pd_callB call_isi cr_isi T.isi bt_isi (pad_cons (pd_var 0) (pad_cons (pd_ty (hm:=T.int) (hv:=bt_int)) pad_nil))) (pd_one (pd_cmp op_eq re_eq (pd_var 0) (pd_var 1) (nomark _))))))))))) ?_
  rintro ds n Q hl ⟨d,rfl,hd,q⟩
  cases d with
  | non=>simp [startD,isiD,isiOk]; exact q
  | bl b=>simp [startD,isiD,isiOk]; exact q
  | int b=>simp [startD,isiD,isiOk]; exact q
  | str b=>simp [startD,isiD,isiOk]; exact q
  | tup ds =>
   cases j with
   | zero=>simp [okT] at hd
   | succ j =>
    obtain ⟨h1,h2⟩:=okT_tup.mp hd
    simp [startD,isiD,isiOk]
    rw [zipD_self]
    refine comp_mapIn (fun x=>.tup [x,x]) (fun _=>.bl true) ds (le_size h1) (fun x hx R hR=>?_) ?_
    ·have hx2 := h2 x hx
     have hno:notOwn x = true:=by cases x <;> first | rfl | (simp [okT] at hx2; done)
     simp [hno]
     exact ⟨x,rfl,hx2,hR⟩
    ·refine ⟨ds.map fun _ => true, by rw [List.map_map]; rfl, ?_⟩
     have e:(ds.map fun _=>true).all id = true:=by simp
     rw [e]; exact q
  | _=>simp [okT] at hd
end
end K75
set_option maxRecDepth 100000
set_option maxHeartbeats 1000000
namespace K75
open PySem L2 PySem.Spec PyProof.Rows
structure JBt (bb:D) (b:List Span) (n i:Nat) (rho:Rho) (m:Nat):Prop where
 e:m = n
 r:∃ (x y z:Option D),rho = [some bb,some (.own ((b.map fun s=>D.str (tx (spanL s))).take i)),x,y,z]
section
variable {P:Program} {w:World} {K:PySem.W.Frag} {mg:Str -> Option Value} {base:Heap}
abbrev s__law_box_text:Stmt:=top 43
abbrev N__law_box_text:List Str:=["_law_box_here", "_law_words", "_law_low", "_law_high", "_law_word"]
theorem sc__law_box_text:FnScope N__law_box_text ["_law_box_here"] (defScope s__law_box_text):=⟨rfl,rfl,rfl,by decide +kernel,rfl,by decide +kernel,by decide +kernel⟩
def t_box_text:TF:=fun ds n Q=>∃ b:List Span,ds = [encBox b] /\ b.length <= 4 /\ (∀ s ∈ b,okSpan s) /\ Q (.str (tx (boxL b))) n
theorem ok_box_text {f:Addr} {fd:FuncData} (T:Blt mg) (F:Fun K "_law_box_text" "_law_box_text" s__law_box_text f fd):FnOk P w K mg base CX0 1 f fd ["_law_box_here"] (spD K 1 t_box_text):=by
 refine Fun.okD F sc__law_box_text (fun cdv A0 outer s H E G Z hr=>(pssd_cons (psd_own (i:=1) sc__law_box_text.nd rfl (lo rfl) pad_nil)
  (pssd_cons (psd_for (m:=5) PassesOwn.never rfl (pid_seq rfl (pd_var 0)) (pgd_tup (k:=2) rfl rfl (pgsd_cons (pgd_name (i:=2) sc__law_box_text.nd rfl (lo rfl) (by decide)) (pgsd_cons (pgd_name (i:=3) sc__law_box_text.nd rfl (lo rfl) (by decide)) pgsd_nil)))
  (pssd_cons (psd_set (i:=4) sc__law_box_text.nd rfl (lo rfl) (pd_if (ptd_cmp op_isN re_isN (pd_var 2) pd_non (nomark _)) pd_str (pd_op op_add_str re_catS (pd_ix ix_seq re_ix (pd_lst (pad_cons pd_str (pad_cons pd_str pad_nil))) (pd_callTy call_int1 cr_intB T.int bt_int (pad_cons (pd_ix ix_seq re_ix (pd_var 2) pd_int (fun _ _=>rfl)) pad_nil)) (fun _ _=>rfl)) (pd_callTy call_str_int cr_str T.str bt_str (pad_cons (pd_ix ix_seq re_ix (pd_var 2) pd_int (fun _ _=>rfl)) pad_nil)))))
  (pssd_one (psd_append (i:=1) (pad_cons (pd_op op_add_str re_catS (pd_op op_add_str re_catS (pd_var 4) pd_str) (pd_if (ptd_cmp op_isN re_isN (pd_var 3) pd_non (nomark _)) pd_str (pd_op op_add_str re_catS (pd_callTy call_str_int cr_str T.str bt_str (pad_cons (pd_ix ix_seq re_ix (pd_var 3) pd_int (fun _ _=>rfl)) pad_nil)) (pd_ix ix_seq re_ix (pd_lst (pad_cons pd_str (pad_cons pd_str pad_nil))) (pd_callTy call_int1 cr_intB T.int bt_int (pad_cons (pd_ix ix_seq re_ix (pd_var 3) pd_int (fun _ _=>rfl)) pad_nil)) (fun _ _=>rfl))))) pad_nil) rfl))))
  (pssd_one (psd_frz 1 (psd_ret (pd_join rfl pd_str (pad_cons (pd_var 1) pad_nil)))))))) ?_
 rintro ds n Q hl ⟨b,rfl,hb,ho,q⟩
 have nb:notOwn (encBox b) = true:=id rfl
 with_reducible generalize hA:sAppend 1 _ = SA
 have app:∀ (L:List D) (l:List Nat) (a c:End) (x:D) (F:EndsD),okEnd c -> l.length <= 20 -> L.length < sizeLine -> F.nx [some (encBox b),some (.own (L ++ [.str (tx (l ++ 46 :: 46 :: highL c))])),some (encEnd a),some (encEnd c),some (.str (tx l))] n ->
   SA F [some (encBox b),some (.own L),some (encEnd a),some (encEnd c),some (.str (tx l))] n:=fun L l a c x F hc hl hL h=>by
  subst hA
  have h2:=highL_len hc
  generalize encEnd a = da at *
  rcases c with _ | ⟨i,bb⟩
  ·simp [isNon, dots_tx, minus_tx, tx_app, tx_len]
   exact ⟨hL,le_size (by lia),le_size (by lia),h⟩
  ·have hn := numL_len (hc i bb rfl)
   have hg:=log2_small (hc i bb rfl)
   have es:Str.ofString i.repr = tx (numL i):=str_int i
   cases bb
   ·simp [isNon, dots_tx, minus_tx, sqc_tx, roc_tx, es, hg, tx_app, tx_len]
    exact ⟨hL,le_size (by lia),le_size (by lia),le_size (by lia),by simpa [highL] using h⟩
   ·simp [isNon, dots_tx, minus_tx, sqc_tx, roc_tx, es, hg, tx_app, tx_len]
    exact ⟨hL,le_size (by lia),le_size (by lia),le_size (by lia),by simpa [highL] using h⟩
 simp [startD,nb]
 refine ⟨_,.inr rfl,JBt (encBox b) b n,⟨rfl,none,none,none,rfl⟩,?_,?_⟩
 ·rintro j d rho m he ⟨rfl, x, y, z, rfl⟩
  rw [List.getElem?_map] at he
  cases hs:b[j]? with
  | none=>rw [hs] at he; cases he
  | some sp =>
   rw [hs] at he
   cases he
   obtain ⟨a,c⟩:=sp
   have oa:=(ho _ (List.mem_of_getElem? hs)).1
   have oc:=(ho _ (List.mem_of_getElem? hs)).2
   have e0:encSpan (a,c) = .tup [encEnd a,encEnd c]:=rfl
   have hL:((b.map fun s=>D.str (tx (spanL s))).take j).length < sizeLine:=lt_size (by rw [List.length_take,List.length_map]; lia)
   have h1:=lowL_len oa
   have fin:∀ F:EndsD,F.nx = JBt (encBox b) b m (j + 1) -> SA F [some (encBox b),some (.own ((b.map fun s=>D.str (tx (spanL s))).take j)),some (encEnd a),some (encEnd c),some (.str (tx (lowL a)))] m:=fun F hF=>by
    refine app _ _ a c .non F oc h1 hL ?_
    rw [hF]
    refine ⟨rfl,some (encEnd a),some (encEnd c),some (.str (tx (lowL a))),?_⟩
    rw [List.take_add_one,List.getElem?_map,hs]
    rfl
   rw [e0]
   clear q
   generalize hde:encEnd c = de at *
   rcases a with _ | ⟨i,bb⟩
   ·simp [isNon, minus_tx]
    exact fin _ rfl
   ·have hn := numL_len (oa i bb rfl)
    have hg:=log2_small (oa i bb rfl)
    have es:Str.ofString i.repr = tx (numL i):=str_int i
    cases bb
    ·simp [isNon, ro_tx, sq_tx, es, hg, tx_app, tx_len]
     exact ⟨le_size (by lia),fin _ rfl⟩
    ·simp [isNon, ro_tx, sq_tx, es, hg, tx_app, tx_len]
     exact ⟨le_size (by lia),fin _ rfl⟩
 ·rintro rho m ⟨rfl, x, y, z, rfl⟩
  have et:(b.map fun s=>D.str (tx (spanL s))).take (b.map encSpan).length = b.map fun s=>D.str (tx (spanL s)):=List.take_of_length_le (by rw [List.length_map,List.length_map]; exact Nat.le_refl _)
  rw [et]
  have e:(b.map fun s=>D.str (tx (spanL s))) = (b.map spanL).map fun w=>D.str (tx w):=by rw [List.map_map]; rfl
  simp [blank_tx]
  have jn:rdJoin (tx [32]) [.lst ((b.map spanL).map fun w=>D.str (tx w))] fun d'=>Q d' m:=rdJoin_tx 42 (by simp) (fun w hw=>by
   obtain ⟨s,hs,rfl⟩:=List.mem_map.mp hw
   exact spanL_len (ho s hs)) (by rw [List.length_map]; lia) q
  rw [<- e] at jn
  exact jn
end
end K75
set_option maxRecDepth 100000
set_option maxHeartbeats 1000000
namespace K75
open PySem L2 PySem.Spec PyProof.Rows
inductive Part where
 | place (p:List Int)
 | num (k:Int)
def encPart:Part -> D
 | .place p=>encPlace p
 | .num k=>.int k
def kindP:Part -> Str
 | .place _ => "place"
 | .num _ => "k"
def OkP (d:Nat):Part -> Prop
 | .place p=>p.length = d /\ ∀ x ∈ p,x.natAbs < 1000000000000000000
 | .num k=>0 <= k /\ k.natAbs < 1000000000000000000
def partsK:List Str:=["count", "sum", "least", "most", "all", "first", "best", "near", "number", "worth"]
def partsD:List D:=[.tup [.str "box"],.tup [.str "box"],.tup [.str "box"],.tup [.str "box"],.tup [.str "box"],.tup [.str "box",.str "k"],.tup [.str "box",.str "k"],.tup [.str "box",.str "place",.str "k"],.tup [.str "name",.str "i"],.tup [.str "name"]]
def words8:List Str:=["count", "sum", "least", "most", "all", "first", "best", "near"]
structure AskOk (d:Nat) (x:Str) (b:List Span) (qs:List Part):Prop where
 w:x ∈ words8
 pt:atS partsK partsD x = some (.tup (.str "box" :: qs.map fun q=>.str (kindP q)))
 bl:b.length = d
 bs:∀ s ∈ b,okSpan s
 ps:∀ q ∈ qs,OkP d q
 ql:qs.length <= 2
def askD (x:Str) (b:List Span) (qs:List Part):D:=.tup (.str x :: encBox b :: qs.map encPart)
def subjA (b:List Span):Option Part -> D
 | none=>encBox b
 | some q=>encPart q
def kindA:Option Part -> Str
 | none => "box"
 | some q=>kindP q
theorem no_encPart (q:Part):notOwn (encPart q) = true:=by cases q <;> rfl
theorem inD_word {x:Str}:∀ {ws:List Str},x ∈ ws -> inD (.str x) (ws.map D.str) = true
 | [],h=>by simp at h
 | w :: ws, h => by
  by_cases e:x = w
  ·simp [inD,eqD,e]
  ·have := inD_word (ws := ws) (by
    rcases List.mem_cons.mp h with z | z
    ·exact absurd z e
    ·exact z)
   simp [inD,eqD,this] at this ⊢
   simp [this]
theorem rdIn_word {x:Str} {ws:List Str} {neg:Bool} {k:D -> Prop} (h:x ∈ ws) (hk:k (.bl (!neg))):rdIn neg (.str x) (.tup (ws.map D.str)) k:=by
 have e:=inD_word h
 have f:(ws.map D.str).all flatD = true:=by simp [flatD]
 refine ⟨rfl,_,.inl rfl,f,?_⟩
 rw [e]
 cases neg <;> exact hk
theorem at0 (a:D) (l:List D):atI (a :: l) 0 = some a:=by simp [atI,ixN]
theorem at1 (a b:D) (l:List D):atI (a :: b :: l) 1 = some b:=by
 have h:(1:Int) < (l.length:Int) + 1 + 1:=by lia
 simp [atI,ixN,h]
theorem ix0 {a:D} {l:List D} {k:D -> Prop} (h:k a):rdIx (.tup (a :: l)) (.int 0) k:=⟨_,_,_,.inr (.inl rfl),rfl,at0 ..,h⟩
theorem ix1 {a b:D} {l:List D} {k:D -> Prop} (h:k b):rdIx (.tup (a :: b :: l)) (.int 1) k:=⟨_,_,_,.inr (.inl rfl),rfl,at1 ..,h⟩
structure AskF (d:Nat) (x:Str) (b:List Span) (qs:List Part):Prop where
 w:x ∈ words8
 pt:atS partsK partsD x = some (.tup (.str "box" :: qs.map fun q=>.str (kindP q)))
 bl:b.length = d
 ql:qs.length <= 2
 pl:∀ p,Part.place p ∈ qs -> p.length <= 1000000
def okPb (d:Nat):Part -> Bool
 | .place p=>decide (p.length = d)
 | .num k=>decide (0 <= k)
section
variable {P:Program} {w:World} {K:PySem.W.Frag} {mg:Str -> Option Value} {base:Heap}
abbrev s_is_from_zero:Stmt:=top 3
abbrev N_is_from_zero:List Str:=["thing"]
theorem sc_is_from_zero:FnScope N_is_from_zero ["thing"] (defScope s_is_from_zero):=⟨rfl,rfl,rfl,by decide +kernel,rfl,by decide +kernel,by decide +kernel⟩
def t_fz:TF:=fun ds n Q=>∃ i:Int,ds = [.int i] /\ Q (.bl (decide (0 <= i))) n
theorem ok_fz {f:Addr} {fd:FuncData} (F:Fun K "is_from_zero" "is_from_zero" s_is_from_zero f fd) (F_is_whole:Fn P w K mg base "is_whole" 1 1 t_whole):FnOk P w K mg base CX0 2 f fd ["thing"] (spD K 1 t_fz):=by
 refine Fun.okD F sc_is_from_zero (fun cdv A0 outer s H E G Z hr=>(pssd_one (psd_ret (pd_and (pd_fn F_is_whole (hr.mono (by decide)) rfl (pad_cons (pd_var 0) pad_nil)) (pd_one (pd_cmp op_ge re_ge (pd_var 0) pd_int (nomark _))))))) ?_
 rintro ds n Q hl ⟨i,rfl,q⟩
 simp [startD]
 refine ⟨i,rfl,?_⟩
 simp
 exact q
abbrev s_is_place:Stmt:=top 8
abbrev N_is_place:List Str:=["thing", "d"]
theorem sc_is_place:FnScope N_is_place ["thing", "d"] (defScope s_is_place):=⟨rfl,rfl,rfl,by decide +kernel,rfl,by decide +kernel,by decide +kernel⟩
theorem nd_is_place_0:("number" :: N_is_place:List Str).Nodup:=by decide +kernel
def t_is_place:TF:=fun ds n Q=>∃ (p:List Int) (d:Nat),ds = [encPlace p,.int (d:Int)] /\ 1 <= d /\ d <= 4 /\ p.length <= 1000000 /\ Q (.bl (decide (p.length = d))) n
theorem ok_is_place {f:Addr} {fd:FuncData} (T:Blt mg) (F:Fun K "is_place" "is_place" s_is_place f fd) (F_is_whole:Fn P w K mg base "is_whole" 1 1 t_whole) (F_is_d:Fn P w K mg base "is_d" 2 1 t_is_d) (F_is_tuple_of:Fn P w K mg base "is_tuple_of" 1 2 t_tupof):FnOk P w K mg base CX0 3 f fd ["thing", "d"] (spD K 2 t_is_place):=by
 refine Fun.okD F sc_is_place (fun cdv A0 outer s H E G Z hr=>(pssd_one (psd_ret (pd_and (pd_fn F_is_d (hr.mono (by decide)) rfl (pad_cons (pd_var 1) pad_nil)) (pd_and (pd_fn F_is_tuple_of (hr.mono (by decide)) rfl (pad_cons (pd_var 0) (pad_cons (pd_var 1) pad_nil))) (pd_one (pd_callB (call_all rfl) cr_all T.all bt_all (pad_cons (pd_comp (own:=["number"]) (M:=N_is_place) (compOk (by rfl)) rfl (pid_seq rfl (pd_var 0)) (fun C s2 H2 fp=>(pgd_name (i:=0) nd_is_place_0 rfl (lo rfl) (by decide))) (fun C s2 H2 fp=>ptsd_nil) (fun C s2 H2 fp=>(pd_fn F_is_whole (hr.mono (by decide)) rfl (pad_cons (pd_var 0) pad_nil)))) pad_nil)))))))) ?_
 rintro ds n Q hl ⟨p,d,rfl,h1,h4,hz,q⟩
 have np:notOwn (encPlace p) = true:=id rfl
 have ep:encPlace p = .tup (p.map D.int):=rfl
 have hd:(1:Int) <= (d:Int) /\ (d:Int) <= 4:=by lia
 simp [startD,np]
 refine ⟨d,rfl,?_⟩
 simp [hd.1,hd.2,np]
 refine ⟨p.map D.int,d,rfl,?_⟩
 rw [List.length_map]
 by_cases hp:p.length = d
 ·rw [decide_eq_true hp] at q ⊢
  simp [np,ep]
  refine comp_mapIn D.int (fun _=>.bl true) p (le_sz hz) (fun x hx R hR=>?_) ?_
  ·simp
   exact ⟨x,rfl,hR⟩
  ·refine ⟨p.map fun _ => true, by rw [List.map_map]; rfl, ?_⟩
   have e:(p.map fun _=>true).all id = true:=by simp
   rw [e]
   exact q
 ·rw [decide_eq_false hp] at q ⊢
  simp
  exact q
abbrev s_is_below:Stmt:=top 4
def t_none:TF:=fun _ _ _=>False
abbrev s_is_part:Stmt:=top 16
abbrev N_is_part:List Str:=["thing", "kind", "d"]
theorem sc_is_part:FnScope N_is_part ["thing", "kind", "d"] (defScope s_is_part):=⟨rfl,rfl,rfl,by decide +kernel,rfl,by decide +kernel,by decide +kernel⟩
def t_is_part:TF:=fun ds n Q=>∃ (d:Nat),1 <= d /\ d <= 4 /\ ((∃ b:List Span,ds = [encBox b,.str "box",.int (d:Int)] /\ b.length = d /\ Q (.bl true) n) \/ ∃ q:Part,ds = [encPart q,.str (kindP q),.int (d:Int)] /\ (∀ p,q = .place p -> p.length <= 1000000) /\ Q (.bl (okPb d q)) n)
theorem ok_is_part {f:Addr} {fd:FuncData} (T:Blt mg) (F:Fun K "is_part" "is_part" s_is_part f fd) (F_is_box:Fn P w K mg base "is_box" 4 2 t_is_box) (F_is_place:Fn P w K mg base "is_place" 3 2 t_is_place) (F_is_from_zero:Fn P w K mg base "is_from_zero" 2 1 t_fz) (F_is_below:Fn P w K mg base "is_below" 3 2 t_none):FnOk P w K mg base CX0 5 f fd ["thing", "kind", "d"] (spD K 3 t_is_part):=by
 refine Fun.okD F sc_is_part (fun cdv A0 outer s H E G Z hr=>(pssd_cons (psd_if (ptd_cmp op_eq re_eq (pd_var 1) pd_str (nomark _)) (pssd_one (psd_ret (pd_fn F_is_box (hr.mono (by decide)) rfl (pad_cons (pd_var 0) (pad_cons (pd_var 2) pad_nil))))) pssd_nil)
  (pssd_cons (psd_if (ptd_cmp op_eq re_eq (pd_var 1) pd_str (nomark _)) (pssd_one (psd_ret (pd_fn F_is_place (hr.mono (by decide)) rfl (pad_cons (pd_var 0) (pad_cons (pd_var 2) pad_nil))))) pssd_nil)
  (pssd_cons (psd_if (ptd_cmp op_eq re_eq (pd_var 1) pd_str (nomark _)) (pssd_one (psd_ret (pd_fn F_is_below (hr.mono (by decide)) rfl (pad_cons (pd_var 0) (pad_cons (pd_var 2) pad_nil))))) pssd_nil)
  (pssd_one (psd_ret (pd_fn F_is_from_zero (hr.mono (by decide)) rfl (pad_cons (pd_var 0) pad_nil)))))))) ?_
 rintro ds n Q hl ⟨d,h1,h4,(⟨b,rfl,hb,q⟩ | ⟨pt,rfl,hp,q⟩)⟩
 ·have nb : notOwn (encBox b) = true := id rfl
  simp [startD,nb]
  refine ⟨b,d,rfl,h1,h4,by lia,?_⟩
  rw [decide_eq_true hb]
  exact q
 ·cases pt with
  | place p =>
   have np:notOwn (encPlace p) = true:=id rfl
   have k1:¬ (Str.ofString "place" = Str.ofString "box"):=by decide +kernel
   simp [startD,encPart,kindP,np,k1]
   exact ⟨p,d,rfl,h1,h4,hp p rfl,q⟩
  | num k =>
   have k1:¬ (Str.ofString "k" = Str.ofString "box"):=by decide +kernel
   have k2:¬ (Str.ofString "k" = Str.ofString "place"):=by decide +kernel
   have k3:¬ (Str.ofString "k" = Str.ofString "i"):=by decide +kernel
   simp [startD,encPart,kindP,k1,k2,k3]
   exact ⟨k,rfl,q⟩
abbrev s_has_form:Stmt:=top 15
abbrev N_has_form:List Str:=["thing", "words"]
theorem sc_has_form:FnScope N_has_form ["thing", "words"] (defScope s_has_form):=⟨rfl,rfl,rfl,by decide +kernel,rfl,by decide +kernel,by decide +kernel⟩
def t_has_form:TF:=fun ds n Q=>∃ (d:Nat) (x:Str) (b:List Span) (qs:List Part),ds = [askD x b qs,.tup (words8.map D.str)] /\ AskF d x b qs /\ Q (.bl true) n
theorem ok_has_form {f:Addr} {fd:FuncData} (T:Blt mg) (G_PARTS:GDct w K mg "PARTS" partsK partsD) (F:Fun K "has_form" "has_form" s_has_form f fd):FnOk P w K mg base CX0 1 f fd ["thing", "words"] (spD K 2 t_has_form):=by
 refine Fun.okD F sc_has_form (fun cdv A0 outer s H E G Z hr=>(pssd_cons (psd_if (ptd_not (PWD.pt (pwd_and (ptd_val (pd_callB call_isi cr_isi T.isi bt_isi (pad_cons (pd_var 0) (pad_cons (pd_ty (hm:=T.tuple) (hv:=bt_tuple)) pad_nil)))) (pwd_and (ptd_cmp op_gt re_gt (pd_callB call_len_seq cr_len T.len bt_len (pad_cons (pd_var 0) pad_nil)) pd_int (nomark _)) (pwd_and (ptd_val (pd_callB call_isi cr_isi T.isi bt_isi (pad_cons (pd_ix ix_seq re_ix (pd_var 0) pd_int (fun _ _=>rfl)) (pad_cons (pd_ty (hm:=T.str) (hv:=bt_str)) pad_nil)))) (pwd_and1 (ptd_cmp op_in_seq (re_in (neg:=false)) (pd_ix ix_seq re_ix (pd_var 0) pd_int (fun _ _=>rfl)) (pd_var 1) (by with_unfolding_all rfl)))))))) (pssd_one (psd_ret pd_bl)) pssd_nil)
  (pssd_one (psd_ret (pd_cmp op_eq re_eq (pd_callB call_len_seq cr_len T.len bt_len (pad_cons (pd_var 0) pad_nil)) (pd_add (pd_callB call_len_seq cr_len T.len bt_len (pad_cons (pd_ixG G_PARTS rfl (pd_ix ix_seq re_ix (pd_var 0) pd_int (fun _ _=>rfl)) (fun _ _=>rfl)) pad_nil)) pd_int) (nomark _)))))) ?_
 rintro ds n Q hl ⟨d,x,b,qs,rfl,ha,q⟩
 have no:notOwn (askD x b qs) = true:=id rfl
 have nw:notOwn (.tup (words8.map D.str)) = true:=id rfl
 have i0:∀ k:D -> Prop,k (.str x) -> rdIx (askD x b qs) (.int 0) k:=fun k h=>ix0 h
 have hw:∀ k:D -> Prop,k (.bl true) -> rdIn false (.str x) (.tup (words8.map D.str)) k:=fun k h=>rdIn_word ha.w h
 have hp:=ha.pt
 have il:isiD "tuple" (askD x b qs) = true:=rfl
 have io:isiOk (askD x b qs) = true:=rfl
 generalize words8.map D.str = W at *
 have kl:∀ k:D -> Prop,k (.int ((qs.length:Int) + 1 + 1)) -> kLen [askD x b qs] k:=fun k h=>by
  unfold askD
  rw [q_kLenT]
  simpa using h
 have hpos:(0:Int) < (qs.length:Int) + 1 + 1:=by lia
 simp [startD,no,nw,il,io]
 refine kl _ ?_
 simp [hpos]
 refine i0 _ ⟨rfl,?_⟩
 rw [if_pos (show isiD "str" (.str x) = true from rfl)]
 refine i0 _ (hw _ ⟨true,rfl,?_⟩)
 show if true = true then _ else _
 rw [if_pos rfl]
 refine kl _ (i0 _ ⟨x,rfl,_,hp,?_⟩)
 rw [q_kLenT]
 simp
 exact q
abbrev s_has_parts:Stmt:=top 17
abbrev N_has_parts:List Str:=["ask", "d"]
theorem sc_has_parts:FnScope N_has_parts ["ask", "d"] (defScope s_has_parts):=⟨rfl,rfl,rfl,by decide +kernel,rfl,by decide +kernel,by decide +kernel⟩
theorem nd_has_parts_0:("part" :: "kind" :: N_has_parts:List Str).Nodup:=by decide +kernel
def t_has_parts:TF:=fun ds n Q=>∃ (d:Nat) (x:Str) (b:List Span) (qs:List Part),ds = [askD x b qs,.int (d:Int)] /\ 1 <= d /\ d <= 4 /\ AskF d x b qs /\ Q (.bl (qs.all (okPb d))) n
theorem ok_has_parts {f:Addr} {fd:FuncData} (T:Blt mg) (G_PARTS:GDct w K mg "PARTS" partsK partsD) (F:Fun K "has_parts" "has_parts" s_has_parts f fd) (F_is_part:Fn P w K mg base "is_part" 5 3 t_is_part):FnOk P w K mg base CX0 6 f fd ["ask", "d"] (spD K 2 t_has_parts):=by
 refine Fun.okD F sc_has_parts (fun cdv A0 outer s H E G Z hr=>(pssd_one (psd_ret (pd_callB (call_all rfl) cr_all T.all bt_all (pad_cons (pd_comp (own:=["part", "kind"]) (M:=N_has_parts) (compOk (by rfl)) rfl (pid_zip rfl T.zip (pad_cons (pd_slT rfl (pd_var 0) (pod_some pd_int) pod_none) (pad_cons (pd_ixG G_PARTS rfl (pd_ix ix_seq re_ix (pd_var 0) pd_int (fun _ _=>rfl)) (fun _ _=>rfl)) pad_nil))) (fun C s2 H2 fp=>(pgd_tup (k:=2) rfl rfl (pgsd_cons (pgd_name (i:=0) nd_has_parts_0 rfl (lo rfl) (by decide)) (pgsd_cons (pgd_name (i:=1) nd_has_parts_0 rfl (lo rfl) (by decide)) pgsd_nil)))) (fun C s2 H2 fp=>ptsd_nil) (fun C s2 H2 fp=>(pd_fn F_is_part (hr.mono (by decide)) rfl (pad_cons (pd_var 0) (pad_cons (pd_var 1) (pad_cons (pd_var 3) pad_nil)))))) pad_nil))))) ?_
 rintro ds n Q hl ⟨d,x,b,qs,rfl,h1,h4,ha,q⟩
 have no:notOwn (askD x b qs) = true:=id rfl
 have i0:∀ k:D -> Prop,k (.str x) -> rdIx (askD x b qs) (.int 0) k:=fun k h=>ix0 h
 have hp:=ha.pt
 have lq:=ha.ql
 have ec:cutL (.str x :: encBox b :: qs.map encPart) (some 1) none = encBox b :: qs.map encPart:=by
  unfold cutL HT.sIx
  simp
  exact List.take_of_length_le (by simp)
 simp [startD,no]
 refine ⟨_,rfl,i0 _ ⟨x,rfl,_,hp,?_⟩⟩
 rw [ec]
 simp
 have ez:zipD (encBox b :: qs.map encPart) (D.str (Str.ofString "box") :: qs.map fun q=>D.str (kindP q)) = (none :: qs.map some).map fun o=>D.tup [subjA b o,.str (kindA o)]:=by
  unfold zipD
  rw [List.map_cons,List.zipWith_cons_cons,List.map_map]
  congr 1
  rw [List.zipWith_map]
  simp [List.zipWith_self]
  exact fun a _=>⟨rfl,rfl⟩
 rw [ez]
 refine comp_mapIn (fun o:Option Part=>D.tup [subjA b o,.str (kindA o)]) (fun o=>.bl (match o with | none=>true | some q=>okPb d q)) (none :: qs.map some) (le_size (by simp; lia)) (fun o ho R hR=>?_) ?_
 ·cases o with
  | none =>
   have nb:notOwn (encBox b) = true:=id rfl
   simp [subjA,kindA,nb]
   exact ⟨d,h1,h4,.inl ⟨b,rfl,ha.bl,hR⟩⟩
  | some pt =>
   have np:=no_encPart pt
   have hm:pt ∈ qs:=by simpa using ho
   simp [subjA,kindA,np]
   exact ⟨d,h1,h4,.inr ⟨pt,rfl,fun p e=>ha.pl p (e ▸ hm),hR⟩⟩
 refine ⟨(none :: qs.map some).map fun o=>(match o with | none=>true | some q=>okPb d q),by rw [List.map_map]; rfl,?_⟩
 have e:((none :: qs.map some).map fun o:Option Part=>(match o with | none=>true | some q=>okPb d q)).all id = qs.all (okPb d):=by
  rw [List.map_cons,List.all_cons,List.map_map,List.all_map]
  rfl
 rw [e]
 exact q
abbrev s_is_ask:Stmt:=top 18
abbrev N_is_ask:List Str:=["thing", "d"]
theorem sc_is_ask:FnScope N_is_ask ["thing", "d"] (defScope s_is_ask):=⟨rfl,rfl,rfl,by decide +kernel,rfl,by decide +kernel,by decide +kernel⟩
def t_is_ask:TF:=fun ds n Q=>∃ (d:Nat) (x:Str) (b:List Span) (qs:List Part),ds = [askD x b qs,.int (d:Int)] /\ 1 <= d /\ d <= 4 /\ AskF d x b qs /\ Q (.bl (qs.all (okPb d))) n
theorem ok_is_ask {f:Addr} {fd:FuncData} (G_BOX_WORDS:GDat K mg "BOX_WORDS" (.tup (words8.map D.str))) (F:Fun K "is_ask" "is_ask" s_is_ask f fd) (F_has_form:Fn P w K mg base "has_form" 1 2 t_has_form) (F_has_parts:Fn P w K mg base "has_parts" 6 2 t_has_parts):FnOk P w K mg base CX0 7 f fd ["thing", "d"] (spD K 2 t_is_ask):=by
 refine Fun.okD F sc_is_ask (fun cdv A0 outer s H E G Z hr=>(pssd_one (psd_ret (pd_and (pd_fn F_has_form (hr.mono (by decide)) rfl (pad_cons (pd_var 0) (pad_cons (pd_glob G_BOX_WORDS rfl) pad_nil))) (pd_one (pd_fn F_has_parts (hr.mono (by decide)) rfl (pad_cons (pd_var 0) (pad_cons (pd_var 1) pad_nil)))))))) ?_
 rintro ds n Q hl ⟨d,x,b,qs,rfl,h1,h4,ha,q⟩
 have no:notOwn (askD x b qs) = true:=id rfl
 generalize hW:words8.map D.str = W at *
 have nw:notOwn (D.tup W) = true:=id rfl
 simp [startD,no,nw]
 subst hW
 refine ⟨d,x,b,qs,rfl,ha,?_⟩
 simp [no]
 exact ⟨d,x,b,qs,rfl,h1,h4,ha,q⟩
end
end K75
set_option maxRecDepth 100000
set_option maxHeartbeats 1000000
namespace K75
open PySem L2 PySem.Spec PyProof.Rows
theorem reps_strs {K:PySem.W.Frag} {G:Option Addr} {Z:Addr -> Prop} {H:Hp} (ks:List Str):Reps K G Z H (ks.map D.str) (ks.map V.str):=reps_strs' ks
theorem ent_texts {K:PySem.W.Frag} {r:Addr} {o:Obj} {its:Array Value} {n:Nat} {ks:List Str} (hk:K.lookup r = some o) (hc:o.cls = .type "tuple") (hd:o.data = .seq its n) (hz:its.size <= 1000) (hv:Vals (ks.map V.str) its.toList):∃ v,RelV v (.ref r) /\ ∀ G Z H,Rep K G Z H (.tup (ks.map D.str)) v :=
 ⟨.ref r,rfl,fun G Z H=>.tup_mk (.inr (.inr ⟨o,its,n,hk,hc,hd,le_size hz,hv⟩)) (reps_strs ks)⟩
theorem parts_mk {w:World} {K:PySem.W.Frag} {mg:Str -> Option Value} {e rr0 rr1 rr2 rr3 rr4 rr5 rr6 rr7 rr8 rr9:Addr} {ep nn0 nn1 nn2 nn3 nn4 nn5 nn6 nn7 nn8 nn9:Nat} {tt0 tt1 tt2 tt3 tt4 tt5 tt6 tt7 tt8 tt9 uu0_0 uu1_0 uu2_0 uu3_0 uu4_0 uu5_0 uu5_1 uu6_0 uu6_1 uu7_0 uu7_1 uu7_2 uu8_0 uu8_1 uu9_0:Tok} {dd0 dd1 dd2 dd3 dd4 dd5 dd6 dd7 dd8 dd9:Option Addr} {ss0 ss1 ss2 ss3 ss4 ss5 ss6 ss7 ss8 ss9:Array (Option Value)} (hm:mg "PARTS" = some (.ref e)) (hs:(e == sysModules) = false) (hk:K.lookup e = some { cls:=.type "dict",data:=.dict #[{ hash:=PyData.keyHash w.params "count",key:=.str "count" tt0,val:=.ref rr0 },{ hash:=PyData.keyHash w.params "sum",key:=.str "sum" tt1,val:=.ref rr1 },{ hash:=PyData.keyHash w.params "least",key:=.str "least" tt2,val:=.ref rr2 },{ hash:=PyData.keyHash w.params "most",key:=.str "most" tt3,val:=.ref rr3 },{ hash:=PyData.keyHash w.params "all",key:=.str "all" tt4,val:=.ref rr4 },{ hash:=PyData.keyHash w.params "first",key:=.str "first" tt5,val:=.ref rr5 },{ hash:=PyData.keyHash w.params "best",key:=.str "best" tt6,val:=.ref rr6 },{ hash:=PyData.keyHash w.params "near",key:=.str "near" tt7,val:=.ref rr7 },{ hash:=PyData.keyHash w.params "number",key:=.str "number" tt8,val:=.ref rr8 },{ hash:=PyData.keyHash w.params "worth",key:=.str "worth" tt9,val:=.ref rr9 }] ep }) (q0:K.lookup rr0 = some ⟨.type "tuple",dd0,.seq #[.str "box" uu0_0] nn0,ss0⟩) (q1:K.lookup rr1 = some ⟨.type "tuple",dd1,.seq #[.str "box" uu1_0] nn1,ss1⟩) (q2:K.lookup rr2 = some ⟨.type "tuple",dd2,.seq #[.str "box" uu2_0] nn2,ss2⟩) (q3:K.lookup rr3 = some ⟨.type "tuple",dd3,.seq #[.str "box" uu3_0] nn3,ss3⟩) (q4:K.lookup rr4 = some ⟨.type "tuple",dd4,.seq #[.str "box" uu4_0] nn4,ss4⟩) (q5:K.lookup rr5 = some ⟨.type "tuple",dd5,.seq #[.str "box" uu5_0,.str "k" uu5_1] nn5,ss5⟩) (q6:K.lookup rr6 = some ⟨.type "tuple",dd6,.seq #[.str "box" uu6_0,.str "k" uu6_1] nn6,ss6⟩) (q7:K.lookup rr7 = some ⟨.type "tuple",dd7,.seq #[.str "box" uu7_0,.str "place" uu7_1,.str "k" uu7_2] nn7,ss7⟩) (q8:K.lookup rr8 = some ⟨.type "tuple",dd8,.seq #[.str "name" uu8_0,.str "i" uu8_1] nn8,ss8⟩) (q9:K.lookup rr9 = some ⟨.type "tuple",dd9,.seq #[.str "name" uu9_0] nn9,ss9⟩):GDct w K mg "PARTS" partsK partsD :=
 ⟨e,_,_,_,hm,hs,hk,⟨rfl,rfl,rfl⟩,rfl,⟨⟨⟨tt0,rfl⟩,rfl,ent_texts (ks:=["box"]) q0 rfl rfl (by simp) (.cons ⟨uu0_0,rfl⟩ (.nil))⟩,⟨⟨⟨tt1,rfl⟩,rfl,ent_texts (ks:=["box"]) q1 rfl rfl (by simp) (.cons ⟨uu1_0,rfl⟩ (.nil))⟩,⟨⟨⟨tt2,rfl⟩,rfl,ent_texts (ks:=["box"]) q2 rfl rfl (by simp) (.cons ⟨uu2_0,rfl⟩ (.nil))⟩,⟨⟨⟨tt3,rfl⟩,rfl,ent_texts (ks:=["box"]) q3 rfl rfl (by simp) (.cons ⟨uu3_0,rfl⟩ (.nil))⟩,⟨⟨⟨tt4,rfl⟩,rfl,ent_texts (ks:=["box"]) q4 rfl rfl (by simp) (.cons ⟨uu4_0,rfl⟩ (.nil))⟩,⟨⟨⟨tt5,rfl⟩,rfl,ent_texts (ks:=["box", "k"]) q5 rfl rfl (by simp) (.cons ⟨uu5_0,rfl⟩ (.cons ⟨uu5_1,rfl⟩ (.nil)))⟩,⟨⟨⟨tt6,rfl⟩,rfl,ent_texts (ks:=["box", "k"]) q6 rfl rfl (by simp) (.cons ⟨uu6_0,rfl⟩ (.cons ⟨uu6_1,rfl⟩ (.nil)))⟩,⟨⟨⟨tt7,rfl⟩,rfl,ent_texts (ks:=["box", "place", "k"]) q7 rfl rfl (by simp) (.cons ⟨uu7_0,rfl⟩ (.cons ⟨uu7_1,rfl⟩ (.cons ⟨uu7_2,rfl⟩ (.nil))))⟩,⟨⟨⟨tt8,rfl⟩,rfl,ent_texts (ks:=["name", "i"]) q8 rfl rfl (by simp) (.cons ⟨uu8_0,rfl⟩ (.cons ⟨uu8_1,rfl⟩ (.nil)))⟩,⟨⟨⟨tt9,rfl⟩,rfl,ent_texts (ks:=["name"]) q9 rfl rfl (by simp) (.cons ⟨uu9_0,rfl⟩ (.nil))⟩,True.intro⟩⟩⟩⟩⟩⟩⟩⟩⟩⟩⟩
end K75
set_option maxRecDepth 100000
set_option maxHeartbeats 1000000
namespace K75
open PySem L2 PySem.Spec PyProof.Rows
theorem comma_tx:Str.ofString "," = tx [44]:=by decide +kernel
def placeL (p:List Int):List Nat:=joinL [44] (p.map numL)
theorem placeL_len {p:List Int} (h:p.length <= 4) (ho:∀ x ∈ p,x.natAbs < 1000000000000000000):(placeL p).length <= 80:=by
 have:=joinL_len (c:=[44]) (m:=19) (ws:=p.map numL) fun w hw=>by
  obtain ⟨i,hi,rfl⟩:=List.mem_map.mp hw
  exact numL_len (ho i hi)
 rw [List.length_map,List.length_singleton] at this
 unfold placeL
 lia
def partL:Part -> List Nat
 | .place p=>placeL p
 | .num k=>numL k
def askW (x:Str) (b:List Span) (qs:List Part):List (List Nat):=x.cps.toList :: (qs.map partL ++ b.map spanL)
def askL (x:Str) (b:List Span) (qs:List Part):List Nat:=joinL [32] (askW x b qs)
theorem word_ok:∀ x ∈ words8,32 ∉ x.cps.toList /\ x.cps.toList.length <= 5:=by decide +kernel
theorem partL_len {d:Nat} {q:Part} (h:OkP d q) (hd:d <= 4):(partL q).length <= 80:=by
 cases q with
 | place p=>exact placeL_len (by rw [h.1]; exact hd) h.2
 | num k=>exact Nat.le_trans (numL_len h.2) (by decide)
theorem askW_len {d:Nat} {x:Str} {b:List Span} {qs:List Part} (h:AskOk d x b qs) (hd:d <= 4):∀ w ∈ askW x b qs,w.length <= 80:=fun w hw=>by
 rcases List.mem_cons.mp hw with rfl | hw
 ·exact Nat.le_trans (word_ok x h.w).2 (by decide)
 ·rcases List.mem_append.mp hw with hw | hw
  ·obtain ⟨q, hq, rfl⟩ := List.mem_map.mp hw
   exact partL_len (h.ps q hq) hd
  ·obtain ⟨s, hs, rfl⟩ := List.mem_map.mp hw
   exact Nat.le_trans (spanL_len (h.bs s hs)) (by decide)
theorem askW_many {d:Nat} {x:Str} {b:List Span} {qs:List Part} (h:AskOk d x b qs) (hd:d <= 4):(askW x b qs).length <= 7:=by
 have h1:=h.ql
 have h2:=h.bl
 simp [askW]
 lia
theorem askL_len {d:Nat} {x:Str} {b:List Span} {qs:List Part} (h:AskOk d x b qs) (hd:d <= 4):(askL x b qs).length <= 567:=by
 have h1:=joinL_len (c:=[32]) (m:=80) (askW_len h hd)
 have h2:=askW_many h hd
 rw [List.length_singleton] at h1
 unfold askL
 lia
theorem joinL_cons {c a:List Nat}:∀ {l:List (List Nat)},l ≠ [] -> joinL c (a :: l) = a ++ c ++ joinL c l
 | [],h=>absurd rfl h
 | _ :: _,_=>rfl
theorem join_flat {c:List Nat} {r:List (List Nat)} (h:r ≠ []):∀ l:List (List Nat),joinL c (l ++ [joinL c r]) = joinL c (l ++ r)
 | []=>by simp [joinL]
 | a :: l=>by
  rw [List.cons_append,List.cons_append,joinL_cons (by simp),joinL_cons (by simp [h]),join_flat h l]
theorem boxT_len {b:List Span} (h:b.length <= 4) (ho:∀ s ∈ b,okSpan s):(boxL b).length <= 172:=by
 have:=joinL_len (c:=[32]) (m:=42) (ws:=b.map spanL) fun w hw=>by
  obtain ⟨s,hs,rfl⟩:=List.mem_map.mp hw
  exact spanL_len (ho s hs)
 rw [List.length_map,List.length_singleton] at this
 unfold boxL
 lia
theorem ix0L {a:D} {l:List D} {k:D -> Prop} (h:k a):rdIx (.lst (a :: l)) (.int 0) k:=⟨_,_,_,.inl rfl,rfl,at0 ..,h⟩
def readPlace (l:List Nat):Option (List Int):=mapO readNum (splitL 44 l)
def readPart:List Nat × Bool -> Option Part
 | (w,true)=>(readPlace w).map Part.place
 | (w,false)=>(readNum w).map Part.num
theorem readPart_num (w:List Nat):readPart (w,false) = (readNum w).map Part.num:=rfl
theorem readPart_place (w:List Nat):readPart (w,true) = (readPlace w).map Part.place:=rfl
def kindsOf (x:Str):List Bool:=if x = "near" then [true,false] else if x = "first" \/ x = "best" then [false] else []
def kindS:Bool -> Str
 | true => "place"
 | false => "k"
theorem kinds_at:∀ x ∈ words8,atS partsK partsD x = some (.tup (.str "box" :: (kindsOf x).map fun b=>.str (kindS b))):=by
 intro x h
 simp only [words8,List.mem_cons,List.not_mem_nil,or_false] at h
 rcases h with rfl | rfl | rfl | rfl | rfl | rfl | rfl | rfl <;> rfl
theorem kinds_len (x:Str):(kindsOf x).length <= 2:=by
 unfold kindsOf
 split
 ·decide
 ·split <;> decide
theorem readPart_kind {w:List Nat} {b:Bool} {q:Part} (h:readPart (w,b) = some q):kindP q = kindS b:=by
 cases b
 ·rw [readPart_num] at h
  cases e:readNum w with
  | none=>rw [e] at h; cases h
  | some i=>rw [e] at h; cases h; rfl
 ·rw [readPart_place] at h
  cases e:readPlace w with
  | none=>rw [e] at h; cases h
  | some i=>rw [e] at h; cases h; rfl
theorem parts_kinds:∀ {ws:List (List Nat)} {ks:List Bool} {qs:List Part},mapO readPart (ws.zip ks) = some qs -> ks.length <= ws.length -> qs.map kindP = ks.map kindS
 | _,[],qs,h,_=>by
  rw [List.zip_nil_right] at h
  cases h
  rfl
 | [],_ :: _,_,_,h=>by simp at h
 | w :: ws, k :: ks, qs, h, hl => by
  rw [List.zip_cons_cons] at h
  unfold mapO at h
  cases e:readPart (w,k) with
  | none=>rw [e] at h; cases h
  | some q =>
   rw [e] at h
   cases e2:mapO readPart (ws.zip ks) with
   | none=>rw [e2] at h; cases h
   | some rs =>
    rw [e2] at h
    cases h
    show kindP q :: rs.map kindP = kindS k :: ks.map kindS
    rw [readPart_kind e,parts_kinds e2 (by simpa using hl)]
theorem readPlace_len {l:List Nat} {p:List Int} (h:readPlace l = some p) (hl:l.length <= 200000):p.length <= 1000000:=by
 have h1:=mapO_len h
 have h2:=(join_sizes (c:=44) (splitL 44 l)).1
 rw [splitL_join] at h2
 lia
theorem parts_place:∀ {zs:List (List Nat × Bool)} {qs:List Part},mapO readPart zs = some qs -> (∀ z ∈ zs,z.1.length <= 200000) -> ∀ p,Part.place p ∈ qs -> p.length <= 1000000
 | [],qs,h,_,p,hp=>by cases h; cases hp
 | (w, k) :: zs, qs, h, hz, p, hp => by
  unfold mapO at h
  cases e:readPart (w,k) with
  | none=>rw [e] at h; cases h
  | some q =>
   rw [e] at h
   cases e2:mapO readPart zs with
   | none=>rw [e2] at h; cases h
   | some rs =>
    rw [e2] at h
    cases h
    rcases List.mem_cons.mp hp with hp | hp
    ·subst hp
     cases k
     ·rw [readPart_num] at e
      cases e3:readNum w with
      | none=>rw [e3] at e; cases e
      | some i=>rw [e3] at e; cases e
     ·rw [readPart_place] at e
      cases e3:readPlace w with
      | none=>rw [e3] at e; cases e
      | some i =>
       rw [e3] at e
       cases e
       exact readPlace_len e3 (hz (w,true) (by simp))
    ·exact parts_place e2 (fun z h=>hz z (List.mem_cons_of_mem _ h)) p hp
def readAsk (ws:List (List Nat)) (d:Nat):Option (Str × List Span × List Part) :=
 match ws with
 | []=>none
 | w0 :: r => if tx w0 ∈ words8 then
   (mapO readPart ((r.take (kindsOf (tx w0)).length).zip (kindsOf (tx w0)))).bind fun qs=>(readWords (r.drop (kindsOf (tx w0)).length) d).bind fun b=>if qs.all (okPb d) then some (tx w0,b,qs) else none
  else none
theorem readAsk_cons (w0:List Nat) (r:List (List Nat)) (d:Nat):readAsk (w0 :: r) d = if tx w0 ∈ words8 then
   (mapO readPart ((r.take (kindsOf (tx w0)).length).zip (kindsOf (tx w0)))).bind fun qs=>(readWords (r.drop (kindsOf (tx w0)).length) d).bind fun b=>if qs.all (okPb d) then some (tx w0,b,qs) else none
  else none:=rfl
theorem noD_word {x:Str}:∀ {ws:List Str},x ∉ ws -> inD (.str x) (ws.map D.str) = false
 | [],_=>rfl
 | w :: ws,h=>by
  have h1:¬ x = w:=fun z=>h (by simp [z])
  have h2:=noD_word (ws:=ws) fun z=>h (List.mem_cons_of_mem _ z)
  have b1:(w == x) = false:=beq_eq_false_iff_ne.mpr fun z=>h1 z.symm
  unfold inD at h2 ⊢
  rw [List.map_cons,List.any_cons,h2]
  simp [eqD,b1]
theorem rdNo_word {x:Str} {ws:List Str} {neg:Bool} {k:D -> Prop} (h:x ∉ ws) (hk:k (.bl neg)):rdIn neg (.str x) (.tup (ws.map D.str)) k:=by
 have e:=noD_word h
 have f:(ws.map D.str).all flatD = true:=by simp [flatD]
 refine ⟨rfl,_,.inl rfl,f,?_⟩
 rw [e]
 cases neg <;> exact hk
theorem cut_at (x:D) (l:List D) (m:Nat):cutL (x :: l) (some 1) (some (1 + (m:Int))) = l.take m:=by
 have e1:HT.sIx (x :: l).length 0 (some ((1:Nat):Int)) = min 1 (x :: l).length:=HT.sIx_nat ..
 have e2:HT.sIx (x :: l).length (x :: l).length (some ((1 + m:Nat):Int)) = min (1 + m) (x :: l).length:=HT.sIx_nat ..
 unfold cutL
 rw [show (some (1 + (m:Int))) = some ((1 + m:Nat):Int) by simp,show (some (1:Int)) = some ((1:Nat):Int) from rfl,e1,e2]
 have m1:min 1 (x :: l).length = 1:=by simp
 have m2:min (1 + m) (x :: l).length - 1 = min m l.length:=by simp; lia
 rw [m1,m2,List.drop_succ_cons,List.drop_zero]
 exact (List.take_eq_take_min ..).symm
theorem cut_from (x:D) (l:List D) (m:Nat):cutL (x :: l) (some (1 + (m:Int))) none = l.drop m:=by
 have e2:HT.sIx (x :: l).length 0 (some ((1 + m:Nat):Int)) = min (1 + m) (x :: l).length:=HT.sIx_nat ..
 unfold cutL
 rw [show (some (1 + (m:Int))) = some ((1 + m:Nat):Int) by simp,e2]
 have e3:HT.sIx (x :: l).length (x :: l).length none = (x :: l).length:=HT.sIx_none ..
 rw [e3]
 by_cases hm:m <= l.length
 ·have m2 : min (1 + m) (x :: l).length = m + 1 := by simp; lia
  rw [m2,List.drop_succ_cons]
  exact List.take_of_length_le (by simp)
 ·have m2 : min (1 + m) (x :: l).length = l.length + 1 := by simp; lia
  rw [m2,List.drop_succ_cons,List.drop_length,List.drop_eq_nil_of_le (by lia),List.take_nil]
section
variable {P:Program} {w:World} {K:PySem.W.Frag} {mg:Str -> Option Value} {base:Heap}
abbrev s_read_place:Stmt:=top 33
abbrev N_read_place:List Str:=["text"]
theorem sc_read_place:FnScope N_read_place ["text"] (defScope s_read_place):=⟨rfl,rfl,rfl,by decide +kernel,rfl,by decide +kernel,by decide +kernel⟩
theorem nd_read_place_0:("number" :: N_read_place:List Str).Nodup:=by decide +kernel
def t_read_place:TFX:=fun ds n Q R=>∃ l:List Nat,ds = [.str (tx l)] /\ l.length <= 200000 /\ byO (readPlace l) (fun p=>Q (encPlace p) n) (R n)
theorem ok_read_place {f:Addr} {fd:FuncData} {C:Addr} (T:Blt mg) (F:Fun K "read_place" "read_place" s_read_place f fd) (FX_read_number:FnX P w K mg base "read_number" 1 1 C t_read_number):FnOk P w K mg base (CX1 P w) 2 f fd ["text"] (spX K C 1 t_read_place):=by
 refine Fun.okX (C:=C) F sc_read_place (fun cdv A0 outer s H E G Z R hr hE=>(pssd_one (psd_ret (pd_callTy call_tuple_of cr_tuple T.tuple bt_tuple (pad_cons (pd_compX (passC hE) (own:=["number"]) (M:=N_read_place) (compOk (by rfl)) rfl (pid_seq rfl (pd_split (pd_var 0) (pad_cons pd_str pad_nil))) (fun C s2 H2 fp=>(pgd_name (i:=0) nd_read_place_0 rfl (lo rfl) (by decide))) (fun C s2 H2 fp=>ptsd_nil) (fun C s2 H2 fp=>(pd_fnX FX_read_number passB (hr.mono (by decide)) rfl (pad_cons (pd_var 0) pad_nil)))) pad_nil))))) ?_
 rintro ds n Q R hl ⟨l,rfl,hlen,q⟩
 have hs:=join_sizes (c:=44) (splitL 44 l)
 rw [splitL_join] at hs
 simp [startD,comma_tx]
 rw [splitL_tx]
 refine ⟨by rw [tx_len]; simp,le_sz (by rw [tx_len]; lia),le_sz (by simp; lia),?_⟩
 rw [List.map_map]
 refine comp_mapOIn (fun w=>D.str (tx w)) readNum D.int (splitL 44 l) (le_sz (by lia)) (Rf:=R n) (fun w hw Q2 h1 h2=>?_) (fun h=>?_) fun ys h=>?_
 ·simp
  refine ⟨w,rfl,Nat.le_trans (hs.2 w hw) hlen,?_⟩
  cases e:readNum w with
  | none=>exact h2 e
  | some i=>exact h1 i e
 ·have e : readPlace l = none := h
  rw [e] at q
  exact q
 ·have e : readPlace l = some ys := h
  rw [e] at q
  simp only [q_kTupleL]
  exact q
abbrev s_read_ask:Stmt:=top 34
abbrev N_read_ask:List Str:=["text", "d", "words", "word", "kinds", "begin", "parts", "ask"]
theorem sc_read_ask:FnScope N_read_ask ["text", "d"] (defScope s_read_ask):=⟨rfl,rfl,rfl,by decide +kernel,rfl,by decide +kernel,by decide +kernel⟩
theorem nd_read_ask_0:("part" :: "kind" :: N_read_ask:List Str).Nodup:=by decide +kernel
def t_read_ask:TFX:=fun ds n Q R=>(∃ (l:List Nat) (d:Nat),ds = [.str (tx l),.int (d:Int)] /\ l.length <= 200000 /\ 1 <= d /\ d <= 4 /\ byO (readAsk (splitL 32 l) d) (fun a=>Q (askD a.1 a.2.1 a.2.2) n) (R n)) \/ ∃ x y:D,ds = [x,y] /\ notOwn x = true /\ isiOk x = true /\ isiD "str" x = false /\ R n
theorem ok_read_ask {f : Addr} {fd : FuncData} {C : Addr} (T : Blt mg) (CN_NoText : ClsX K mg "NoText" C) (G_BOX_WORDS : GDat K mg "BOX_WORDS" (.tup (words8.map D.str))) (G_PARTS : GDct w K mg "PARTS" partsK partsD) (F : Fun K "read_ask" "read_ask" s_read_ask f fd) (FX_parted : FnX P w K mg base "parted" 1 2 C t_partedX) (FX_read_number : FnX P w K mg base "read_number" 1 1 C t_read_number) (FX_read_place : FnX P w K mg base "read_place" 2 1 C t_read_place) (FX_read_spans : FnX P w K mg base "read_spans" 5 2 C t_read_spans) (F_is_ask : Fn P w K mg base "is_ask" 7 2 t_is_ask) : FnOk P w K mg base (CX1 P w) 8 f fd ["text", "d"] (spX K C 2 t_read_ask) := by
 refine Fun.okX (C:=C) F sc_read_ask (fun cdv A0 outer s H E G Z R hr hE=>(pssd_cons (psd_set (i:=2) sc_read_ask.nd rfl (lo rfl) (pd_fnX FX_parted (pass1 hE) (hr.mono (by decide)) rfl (pad_cons (pd_var 0) (pad_cons pd_str pad_nil))))
  (pssd_cons (psd_set (i:=3) sc_read_ask.nd rfl (lo rfl) (pd_ix ix_seq re_ix (pd_var 2) pd_int (fun _ _=>rfl)))
  (pssd_cons (psd_if (ptd_cmp op_notIn_seq (re_in (neg:=true)) (pd_var 3) (pd_glob G_BOX_WORDS rfl) (by with_unfolding_all rfl)) (pssd_one (psd_raise CN_NoText (xok hE))) pssd_nil)
  (pssd_cons (psd_set (i:=4) sc_read_ask.nd rfl (lo rfl) (pd_slT rfl (pd_ixG G_PARTS rfl (pd_var 3) (fun _ _=>rfl)) (pod_some pd_int) pod_none))
  (pssd_cons (psd_set (i:=5) sc_read_ask.nd rfl (lo rfl) (pd_add pd_int (pd_callB call_len_seq cr_len T.len bt_len (pad_cons (pd_var 4) pad_nil))))
  (pssd_cons (psd_setCompX (i:=6) (passC hE) sc_read_ask.nd rfl (lo rfl) (own:=["part", "kind"]) (M:=N_read_ask) (compOk (by rfl)) rfl (pid_zip rfl T.zip (pad_cons (pd_slV rfl (pd_var 2) (pod_some pd_int) (pod_some (pd_var 5))) (pad_cons (pd_var 4) pad_nil))) (fun C s2 H2 fp=>(pgd_tup (k:=2) rfl rfl (pgsd_cons (pgd_name (i:=0) nd_read_ask_0 rfl (lo rfl) (by decide)) (pgsd_cons (pgd_name (i:=1) nd_read_ask_0 rfl (lo rfl) (by decide)) pgsd_nil)))) (fun C s2 H2 fp=>ptsd_nil) (fun C s2 H2 fp=>(pd_if (ptd_cmp op_eq re_eq (pd_var 1) pd_str (nomark _)) (pd_fnX FX_read_place passB (hr.mono (by decide)) rfl (pad_cons (pd_var 0) pad_nil)) (pd_fnX FX_read_number passB (hr.mono (by decide)) rfl (pad_cons (pd_var 0) pad_nil)))))
  (pssd_cons (psd_set (i:=7) sc_read_ask.nd rfl (lo rfl) (pd_op op_catTT re_catT (pd_tup (pad_cons (pd_var 3) (pad_cons (pd_fnX FX_read_spans (pass1 hE) (hr.mono (by decide)) rfl (pad_cons (pd_slV rfl (pd_var 2) (pod_some (pd_var 5)) pod_none) (pad_cons (pd_var 1) pad_nil))) pad_nil))) (pd_callTy call_tuple_of cr_tuple T.tuple bt_tuple (pad_cons (pd_var 6) pad_nil))))
  (pssd_cons (psd_if (ptd_not (ptd_val (pd_fn F_is_ask (hr.mono (by decide)) rfl (pad_cons (pd_var 7) (pad_cons (pd_var 1) pad_nil))))) (pssd_one (psd_raise CN_NoText (xok hE))) pssd_nil)
  (pssd_one (psd_ret (pd_var 7)))))))))))) ?_
 rintro ds n Q R hl (⟨l,d,rfl,hlen,hd1,hd4,q⟩ | ⟨x,y,rfl,hn,h1,h2,q⟩)
 ·have hs := join_sizes (c := 32) (splitL 32 l)
  rw [splitL_join] at hs
  have hne:splitL 32 l ≠ []:=fun z=>by
   obtain ⟨ps,e,h1,_⟩:=split_parts 32 l
   rw [splitL_tx,z] at e
   exact h1 (List.map_eq_nil_iff.mp e.symm)
  have hin:∀ (x:Str),x ∈ words8 -> ∀ k:D -> Prop,k (.bl false) -> rdIn true (.str x) (.tup (words8.map D.str)) k:=fun x h k hk=>rdIn_word h hk
  have hno:∀ (x:Str),x ∉ words8 -> ∀ k:D -> Prop,k (.bl true) -> rdIn true (.str x) (.tup (words8.map D.str)) k:=fun x h k hk=>rdNo_word h hk
  generalize words8.map D.str = W at *
  have nw:notOwn (D.tup W) = true:=id rfl
  simp [startD,blank_tx,nw]
  refine .inl ⟨l,32,rfl,hlen,?_⟩
  generalize splitL 32 l = ws at q hs hne ⊢
  cases ws with
  | nil=>exact absurd rfl hne
  | cons w0 r =>
   rw [List.map_cons]
   have nl:notOwn (.lst (D.str (tx w0) :: r.map fun w=>D.str (tx w))) = true:=id rfl
   have nx:notOwn (.str (tx w0)) = true:=id rfl
   refine atD_mk nl (ix0L (atD_mk nx ?_))
   by_cases hw:tx w0 ∈ words8
   ·have ec : cutL (D.str (Str.ofString "box") :: (kindsOf (tx w0)).map fun b => D.str (kindS b)) (some 1) none = (kindsOf (tx w0)).map fun b => D.str (kindS b) := by
     have:=cut_from (D.str (Str.ofString "box")) ((kindsOf (tx w0)).map fun b=>D.str (kindS b)) 0
     simpa using this
    refine hin _ hw _ ⟨false,rfl,?_⟩
    dsimp only
    rw [if_neg (by decide)]
    refine atD_mk nx ⟨tx w0,rfl,_,kinds_at _ hw,_,rfl,?_⟩
    dsimp only
    rw [ec,List.length_map]
    refine atD_mk nl ⟨_,.inl rfl,?_⟩
    dsimp only
    rw [cut_at]
    have hkl:=kinds_len (tx w0)
    have hq:byO (readAsk (w0 :: r) d) (fun a=>Q (askD a.1 a.2.1 a.2.2) n) (R n):=q
    rw [readAsk_cons] at hq
    rw [if_pos hw] at hq
    generalize hks:kindsOf (tx w0) = ks at *
    have ez:zipD ((r.map fun w=>D.str (tx w)).take ks.length) (ks.map fun b=>D.str (kindS b)) = ((r.take ks.length).zip ks).map fun z=>D.tup [.str (tx z.1),.str (kindS z.2)]:=by
     unfold zipD
     rw [<- List.map_take,List.zipWith_map,List.zip,List.map_zipWith]
    rw [ez]
    refine comp_mapOIn (fun z:List Nat × Bool=>D.tup [.str (tx z.1),.str (kindS z.2)]) readPart encPart ((r.take ks.length).zip ks) (le_sz (by rw [List.length_zip]; lia)) (Rf:=R n) (fun z hz Q2 h1 h2=>?_) (fun h=>?_) fun qs h=>?_
    ·obtain ⟨w, k⟩ := z
     have hwl:w.length <= 200000:=Nat.le_trans (hs.2 w (List.mem_cons_of_mem _ (List.mem_of_mem_take (List.of_mem_zip hz).1))) hlen
     cases k with
     | true =>
      simp [kindS]
      refine ⟨w,rfl,hwl,?_⟩
      cases e:readPlace w with
      | none=>exact h2 (by rw [readPart_place,e]; rfl)
      | some p=>exact h1 (.place p) (by rw [readPart_place,e]; rfl)
     | false =>
      have k2:¬ (Str.ofString "k" = Str.ofString "place"):=by decide +kernel
      simp [kindS,k2]
      refine ⟨w,rfl,hwl,?_⟩
      cases e:readNum w with
      | none=>exact h2 (by rw [readPart_num,e]; rfl)
      | some i=>exact h1 (.num i) (by rw [readPart_num,e]; rfl)
    ·rw [h] at hq
     exact hq
    ·rw [h] at hq
     refine atD_mk nx (atD_mk nl ⟨_,.inl rfl,?_⟩)
     dsimp only
     rw [cut_from,<- List.map_drop]
     refine ⟨r.drop ks.length,d,rfl,hd1,hd4,?_,fun w hw=>Nat.le_trans (hs.2 w (List.mem_cons_of_mem _ (List.mem_of_mem_drop hw))) hlen,?_⟩
     ·have := hs.1
      simp only [List.length_cons,List.length_drop] at this ⊢
      lia
     cases eb:readWords (r.drop ks.length) d with
     | none =>
      rw [eb] at hq
      exact hq
     | some b =>
      rw [eb] at hq
      rw [byO_some]
      have hbl:b.length = d:=by
       unfold readWords at eb
       split at eb
       ·rename_i hz
        cases eb
        rw [hz.1,hz.2]
       ·cases eb
      have hkr:ks.length <= (r.take ks.length).length:=by
       unfold readWords at eb
       split at eb
       ·rename_i hz
        have:=hz.2
        rw [List.length_drop] at this
        rw [List.length_take]
        lia
       ·cases eb
      have hql:qs.length <= 2:=by
       have:=mapO_len h
       rw [List.length_zip] at this
       lia
      have ha:AskF d (tx w0) b qs:=⟨hw,by
       have e1:(ks.map fun b=>D.str (kindS b)) = qs.map fun q=>D.str (kindP q):=by
        have e2:=congrArg (List.map D.str) (parts_kinds h hkr)
        rw [List.map_map,List.map_map] at e2
        exact e2.symm
       rw [kinds_at _ hw,hks,e1],hbl,hql,parts_place h fun z hz=>Nat.le_trans (hs.2 z.1 (List.mem_cons_of_mem _ (List.mem_of_mem_take (List.of_mem_zip hz).1))) hlen⟩
      have no:notOwn (askD (tx w0) b qs) = true:=id rfl
      refine atD_mk rfl ?_
      simp only [q_kTupleL]
      refine ⟨_,_,rfl,rfl,le_sz (by simp; lia),?_⟩
      refine atD_mk no ⟨d,tx w0,b,qs,rfl,hd1,hd4,ha,?_⟩
      have hq':byO (if qs.all (okPb d) = true then some (tx w0,b,qs) else none) (fun a=>Q (askD a.1 a.2.1 a.2.2) n) (R n):=hq
      cases hok:qs.all (okPb d) with
      | false =>
       rw [hok] at hq'
       exact ⟨false,rfl,hq'⟩
      | true =>
       rw [hok] at hq'
       refine ⟨true,rfl,?_⟩
       dsimp only
       rw [if_pos rfl]
       exact atD_mk no hq'
   ·refine hno _ hw _ ⟨true, rfl, ?_⟩
    dsimp only
    rw [if_pos rfl]
    have hq:byO (readAsk (w0 :: r) d) (fun a=>Q (askD a.1 a.2.1 a.2.2) n) (R n):=q
    rw [readAsk_cons] at hq
    rw [if_neg hw] at hq
    exact hq
 ·simp [startD, hn, blank_tx]
  exact .inr ⟨x,_,rfl,hn,h1,h2,q⟩
end
end K75
set_option maxRecDepth 100000
set_option maxHeartbeats 1000000
namespace K75
open PySem L2 PySem.Spec PyProof.Rows
def plain5:List Str:=["count", "sum", "least", "most", "all"]
inductive Form (d:Nat):Str -> List Part -> Prop
 | plain {x:Str} (h:x ∈ plain5):Form d x []
 | many {x:Str} {k:Int} (h:x = "first" \/ x = "best") (hk:0 <= k) (hz:k.natAbs < 1000000000000000000):Form d x [.num k]
 | near {p:List Int} {k:Int} (hp:p.length = d) (ho:∀ x ∈ p,x.natAbs < 1000000000000000000) (hk:0 <= k) (hz:k.natAbs < 1000000000000000000):Form d "near" [.place p,.num k]
theorem plain_ne:∀ x ∈ plain5,¬ x = "near" /\ ¬ x = "first" /\ ¬ x = "best" := by decide +kernel
theorem plain_in:∀ x ∈ plain5,x ∈ words8:=by decide +kernel
theorem pt_plain {x:Str} (h:x ∈ plain5):atS partsK partsD x = some (.tup [.str "box"]):=by
 simp only [plain5,List.mem_cons,List.not_mem_nil,or_false] at h
 rcases h with rfl | rfl | rfl | rfl | rfl <;> rfl
theorem Form.ok {d:Nat} {x:Str} {b:List Span} {qs:List Part} (h:Form d x qs) (hb:b.length = d) (ho:∀ s ∈ b,okSpan s):AskOk d x b qs:=by
 cases h with
 | plain h=>exact ⟨plain_in x h,pt_plain h,hb,ho,by simp,by simp⟩
 | many h hk hz =>
  refine ⟨?_,?_,hb,ho,fun q hq=>?_,by simp⟩
  ·rcases h with rfl | rfl <;> decide +kernel
  ·rcases h with rfl | rfl <;> rfl
  ·rw [List.mem_singleton.mp hq]; exact ⟨hk,hz⟩
 | near hp hx hk hz =>
  refine ⟨by decide +kernel,rfl,hb,ho,fun q hq=>?_,by simp⟩
  simp only [List.mem_cons,List.not_mem_nil,or_false] at hq
  rcases hq with rfl | rfl
  ·exact ⟨hp,hx⟩
  ·exact ⟨hk,hz⟩
theorem join_snoc {c:List Nat} (r:List Nat):∀ l:List (List Nat),l ≠ [] -> joinL c (l ++ [r]) = joinL c l ++ c ++ r
 | [],h=>absurd rfl h
 | [a],_=>by simp [joinL]
 | a :: b :: l,_=>by
  rw [List.cons_append,joinL_cons (by simp),joinL_cons (by simp),join_snoc r (b :: l) (by simp)]
  simp
theorem rdIn3 {x:Str} {k:D -> Prop} (h:k (.bl (decide (x = "first" \/ x = "best" \/ x = "near")))):rdIn false (.str x) (.tup [.str "first",.str "best",.str "near"]) k:=by
 refine ⟨rfl,_,.inl rfl,rfl,?_⟩
 have e:inD (.str x) [.str "first",.str "best",.str "near"] = decide (x = "first" \/ x = "best" \/ x = "near"):=by
  have bq:∀ a:Str,(a == x) = decide (x = a):=fun a=>by
   by_cases z:x = a
   ·subst z; simp
   ·rw [decide_eq_false z]
    simp
    exact fun e=>z e.symm
  simp [inD,eqD,bq]
 simp only [Bool.false_eq_true,if_false]
 rw [e]
 exact h
section
variable {P:Program} {w:World} {K:PySem.W.Frag} {mg:Str -> Option Value} {base:Heap}
abbrev s__law_ask_text:Stmt:=top 44
abbrev N__law_ask_text:List Str:=["_law_ask_here", "_law_words"]
theorem sc__law_ask_text:FnScope N__law_ask_text ["_law_ask_here"] (defScope s__law_ask_text):=⟨rfl,rfl,rfl,by decide +kernel,rfl,by decide +kernel,by decide +kernel⟩
theorem nd__law_ask_text_0:("_law_number_here" :: N__law_ask_text:List Str).Nodup:=by decide +kernel
def t_ask_text:TF:=fun ds n Q=>∃ (d:Nat) (x:Str) (b:List Span) (qs:List Part),ds = [askD x b qs] /\ 1 <= d /\ d <= 4 /\ Form d x qs /\ b.length = d /\ (∀ s ∈ b,okSpan s) /\ Q (.str (tx (askL x b qs))) n
theorem ok_ask_text {f:Addr} {fd:FuncData} (T:Blt mg) (F:Fun K "_law_ask_text" "_law_ask_text" s__law_ask_text f fd) (F__law_box_text:Fn P w K mg base "_law_box_text" 1 1 t_box_text):FnOk P w K mg base CX0 2 f fd ["_law_ask_here"] (spD K 1 t_ask_text):=by
 refine Fun.okD F sc__law_ask_text (fun cdv A0 outer s H E G Z hr=>(pssd_cons (psd_own (i:=1) sc__law_ask_text.nd rfl (lo rfl) (pad_cons (pd_ix ix_seq re_ix (pd_var 0) pd_int (fun _ _=>rfl)) pad_nil))
  (pssd_cons (psd_if (ptd_cmp op_eq re_eq (pd_ix ix_seq re_ix (pd_var 0) pd_int (fun _ _=>rfl)) pd_str (nomark _)) (pssd_one (psd_append (i:=1) (pad_cons (pd_join rfl pd_str (pad_cons (pd_comp (own:=["_law_number_here"]) (M:=N__law_ask_text) (compOk (by rfl)) rfl (pid_seq rfl (pd_ix ix_seq re_ix (pd_var 0) pd_int (fun _ _=>rfl))) (fun C s2 H2 fp=>(pgd_name (i:=0) nd__law_ask_text_0 rfl (lo rfl) (by decide))) (fun C s2 H2 fp=>ptsd_nil) (fun C s2 H2 fp=>(pd_callTy call_str_int cr_str T.str bt_str (pad_cons (pd_var 0) pad_nil)))) pad_nil)) pad_nil) rfl)) pssd_nil)
  (pssd_cons (psd_if (ptd_cmp op_in_seq (re_in (neg:=false)) (pd_ix ix_seq re_ix (pd_var 0) pd_int (fun _ _=>rfl)) (pd_tup (pad_cons pd_str (pad_cons pd_str (pad_cons pd_str pad_nil)))) (by with_unfolding_all rfl)) (pssd_one (psd_append (i:=1) (pad_cons (pd_callTy call_str_int cr_str T.str bt_str (pad_cons (pd_ix ix_seq re_ix (pd_var 0) (pd_neg pd_int) (fun _ _=>rfl)) pad_nil)) pad_nil) rfl)) pssd_nil)
  (pssd_one (psd_frz 1 (psd_ret (pd_op op_add_str re_catS (pd_op op_add_str re_catS (pd_join rfl pd_str (pad_cons (pd_var 1) pad_nil)) pd_str) (pd_fn F__law_box_text (hr.mono (by decide)) rfl (pad_cons (pd_ix ix_seq re_ix (pd_var 0) pd_int (fun _ _=>rfl)) pad_nil)))))))))) ?_
 rintro ds n Q hl ⟨d,x,b,qs,rfl,h1,h4,hf,hb,ho,q⟩
 have ha:=hf.ok hb ho
 have no:notOwn (askD x b qs) = true:=id rfl
 have nb:notOwn (encBox b) = true:=id rfl
 have i0:∀ k:D -> Prop,k (.str x) -> rdIx (askD x b qs) (.int 0) k:=fun k h=>ix0 h
 have i1:∀ k:D -> Prop,k (encBox b) -> rdIx (askD x b qs) (.int 1) k:=fun k h=>ix1 h
 have es:∀ i:Int,Str.ofString i.repr = tx (numL i):=str_int
 have h0:b.map spanL ≠ []:=by
  intro z
  have hz:=List.map_eq_nil_iff.mp z
  rw [hz] at hb
  simp at hb
  lia
 with_reducible generalize hS:sFrz 1 _ = S
 have fin:∀ F:EndsD,F.rt = Q -> S F [some (askD x b qs),some (.own (D.str x :: qs.map fun q=>D.str (tx (partL q))))] n:=fun F hF=>by
  subst hS
  have e:(D.str x :: qs.map fun q=>D.str (tx (partL q))) = (x.cps.toList :: qs.map partL).map fun w=>D.str (tx w):=by
   rw [List.map_cons,List.map_map,<- tx_of]
   rfl
  have wl:∀ w ∈ (x.cps.toList :: qs.map partL),w.length <= 80:=fun w hw=>by
   rcases List.mem_cons.mp hw with rfl | hw
   ·exact Nat.le_trans (word_ok x ha.w).2 (by decide)
   ·obtain ⟨pt, hpt, rfl⟩ := List.mem_map.mp hw
    exact partL_len (ha.ps pt hpt) h4
  have lq:=ha.ql
  have l1:=joinL_len (c:=[32]) (m:=80) wl
  rw [List.length_cons,List.length_map,List.length_singleton] at l1
  have l2:=boxT_len (b:=b) (by lia) ho
  have l3:(joinL [32] (x.cps.toList :: qs.map partL)).length <= 243:=by lia
  simp [no,blank_tx]
  rw [e]
  refine rdJoin_tx 80 (by simp) wl (by simp; lia) ?_
  refine rdCatS_tx (by simp; lia) (i1 _ ?_)
  refine ⟨b,rfl,by lia,ho,rdCatS_tx (by simp; lia) ?_⟩
  have ej:joinL [32] (x.cps.toList :: qs.map partL) ++ [32] ++ boxL b = askL x b qs:=by
   have:=join_flat (c:=[32]) h0 (x.cps.toList :: qs.map partL)
   unfold askL askW
   rw [<- List.cons_append,<- this]
   exact (join_snoc _ _ (by simp)).symm
  rw [ej,hF]
  exact q
 cases hf with
 | plain h =>
  have hn:=plain_ne x h
  simp [startD,no]
  refine i0 _ (i0 _ ?_)
  simp [hn.1]
  refine i0 _ (rdIn3 ?_)
  rw [decide_eq_false (by simp [hn.1,hn.2.1,hn.2.2])]
  refine ⟨false,rfl,?_⟩
  dsimp only
  rw [if_neg (by decide)]
  exact fin _ rfl
 | @many x k h hk hz =>
  have g:=log2_small hz
  have im:∀ r:D -> Prop,r (.int k) -> rdIx (askD x b [.num k]) (.int (-1)) r:=fun r h=>⟨_,_,_,.inr (.inl rfl),rfl,rfl,h⟩
  simp [startD,no]
  refine i0 _ (i0 _ ?_)
  have hn:¬ x = "near" := by rcases h with rfl | rfl <;> decide +kernel
  simp [hn]
  refine i0 _ (rdIn3 ?_)
  rw [decide_eq_true (by rcases h with h | h <;> simp [h])]
  refine ⟨true,rfl,?_⟩
  dsimp only
  rw [if_pos rfl]
  refine ⟨lt_size (by decide),im _ ?_⟩
  simp [es,g]
  exact fin _ rfl
 | @near p k hp hx hk hz =>
  have g:=log2_small hz
  have im:∀ r:D -> Prop,r (.int k) -> rdIx (askD "near" b [.place p,.num k]) (.int (-1)) r:=fun r h=>⟨_,_,_,.inr (.inl rfl),rfl,rfl,h⟩
  have i2:∀ r:D -> Prop,r (.tup (p.map D.int)) -> rdIx (askD "near" b [.place p,.num k]) (.int 2) r:=fun r h=>⟨_,_,_,.inr (.inl rfl),rfl,rfl,h⟩
  simp [startD,no]
  refine i0 _ (i0 _ ?_)
  simp
  refine ⟨lt_size (by decide),i2 _ ⟨_,.inr rfl,?_⟩⟩
  refine comp_mapIn D.int (fun i=>D.str (tx (numL i))) p (le_size (by lia)) (fun i hi R hR=>?_) ?_
  ·have g := log2_small (hx i hi)
   simp [es,g]
   exact hR
  have e:(p.map fun i=>D.str (tx (numL i))) = (p.map numL).map fun w=>D.str (tx w):=by rw [List.map_map]; rfl
  rw [e,comma_tx]
  refine rdJoin_tx 19 (by simp) (fun w hw=>by
   obtain ⟨i,hi,rfl⟩:=List.mem_map.mp hw
   exact numL_len (hx i hi)) (by rw [List.length_map]; lia) ?_
  refine i0 _ (rdIn3 ?_)
  rw [decide_eq_true (by simp)]
  refine ⟨true,rfl,?_⟩
  dsimp only
  rw [if_pos rfl]
  refine ⟨lt_size (by decide),im _ ?_⟩
  simp [es,g]
  exact fin _ rfl
end
end K75
set_option maxRecDepth 100000
set_option maxHeartbeats 1000000
namespace K75
open PySem L2 PySem.Spec PyProof.Rows
def numD (o:Option Int):D:=match o with | some i=>.int i | none=>.non
def endD (o:Option End):D:=match o with | some e=>.tup [.bl true,encEnd e] | none=>.tup [.bl false,.non]
def boxD (o:Option (List Span)):D:=match o with | some b=>encBox b | none=>.non
section
variable {P:Program} {w:World} {K:PySem.W.Frag} {mg:Str -> Option Value} {base:Heap}
abbrev s__law_read_number:Stmt:=top 46
abbrev N__law_read_number:List Str:=["_law_word", "_law_figures"]
theorem sc__law_read_number:FnScope N__law_read_number ["_law_word"] (defScope s__law_read_number):=⟨rfl,rfl,rfl,by decide +kernel,rfl,by decide +kernel,by decide +kernel⟩
def t_lnum:TF:=fun ds n Q=>∃ l:List Nat,ds = [.str (tx l)] /\ l.length <= 200000 /\ Short l /\ Q (numD (readNum l)) n
theorem ok_lnum {f:Addr} {fd:FuncData} (T:Blt mg) (F:Fun K "_law_read_number" "_law_read_number" s__law_read_number f fd):FnOk P w K mg base CX0 1 f fd ["_law_word"] (spD K 1 t_lnum):=by
 refine Fun.okD F sc__law_read_number (fun cdv A0 outer s H E G Z hr=>(pssd_cons (psd_set (i:=1) sc__law_read_number.nd rfl (lo rfl) (pd_slS (pd_var 0) (pod_some (pd_callTy call_int1 cr_intB T.int bt_int (pad_cons (pd_cmp op_eq re_eq (pd_slS (pd_var 0) pod_none (pod_some pd_int)) pd_str (nomark _)) pad_nil))) pod_none))
  (pssd_cons (psd_if (PWD.pt (pwd_or (ptd_cmp op_eq re_eq (pd_var 1) pd_str (nomark _)) (pwd_or (ptd_cmp op_ne re_ne (pd_strip (pd_var 1) (pad_cons pd_str pad_nil)) pd_str (nomark _)) (pwd_or1 (PWD.pt (pwd_and (ptd_cmp op_eq re_eq (pd_ix ix_seq re_ixS (pd_var 1) pd_int (fun _ _=>rfl)) pd_str (nomark _)) (pwd_and1 (ptd_cmp op_ne re_ne (pd_var 0) pd_str (nomark _))))))))) (pssd_one (psd_ret pd_non)) pssd_nil)
  (pssd_one (psd_ret (pd_callTy call_int_text cr_intT T.int bt_int (pad_cons (pd_var 0) pad_nil))))))) ?_
 rintro ds n Q hl ⟨l,rfl,hlen,hsh,q⟩
 have zl:=le_sz (n:=l.length) (by lia)
 with_reducible generalize hS:sSeq (sIf (bOr _ _) _ _) _ = S
 have hfl:(figs l).length <= l.length:=by
  unfold figs
  split
  ·simp
  ·exact Nat.le_refl _
 have i0:Str.ofString "" = tx []:=empty_tx
 have main:∀ F:EndsD,F.rt = Q -> S F [some (.str (tx l)),some (.str (tx (figs l)))] n:=fun F hF=>by
  subst hS
  by_cases h0:figs l = []
  ·have hq : readNum l = none := by unfold readNum; rw [if_pos (.inl h0)]
   rw [hq] at q
   simp [i0,h0,hF]
   exact q
  have ne:¬ (tx (figs l) = tx []):=by rw [tx_eq]; exact h0
  simp [i0,zero_tx,fig_tx,ne]
  refine ⟨le_sz (by rw [tx_len]; lia),?_⟩
  cases hall:(figs l).all isFig
  ·have hq : readNum l = none := by unfold readNum; rw [if_pos (.inr (.inl hall))]
   rw [hq] at q
   have:¬ (Txt.stripChars (tx (figs l)) (tx figL) = tx []):=fun z=>by rw [(strip_figs _).mp z] at hall; cases hall
   simp [this,hF]
   exact q
  have es:=(strip_figs _).mpr hall
  simp [es]
  have hlen2:l.length <= 19:=by
   have h18:(figs l).length <= 18:=by
    by_cases hn:l.head? = some 45
    ·exact hsh [45] (figs l) [] (by rw [List.append_nil]; exact figs_minus hn) hall
    ·exact hsh [] (figs l) [] (by rw [List.append_nil,figs_plain hn]; rfl) hall
   by_cases hn:l.head? = some 45
   ·have := congrArg List.length (figs_minus hn)
    simp at this
    lia
   ·rw [figs_plain hn] at h18
    lia
  have fin:((figs l).head? = some 48 -> l = [48]) -> kIntT [D.str (tx l)] fun d=>F.rt d n:=fun hz=>by
   have hq:∃ i,readNum l = some i:=by
    unfold readNum
    rw [if_neg]
    ·exact ⟨_,rfl⟩
    rintro (z | z | ⟨z,y⟩)
    ·exact h0 z
    ·rw [hall] at z; cases z
    ·exact y (hz z)
   obtain ⟨i,hq⟩:=hq
   rw [hq] at q
   exact ⟨_,i,rfl,by rw [tx_len]; lia,int_read hq (by lia),by rw [hF]; exact q⟩
  cases hf:figs l with
  | nil=>exact absurd hf h0
  | cons c r =>
   refine ⟨le_sz (by rw [tx_len,<- hf]; lia),c,by show atI (c :: r) 0 = some c; simp [atI,ixN],?_⟩
   rw [hf] at fin
   by_cases hc:c = 48
   ·subst hc
    rw [if_pos (show (⟨#[48]⟩:Str) = tx [48] from rfl)]
    by_cases hz:l = [48]
    ·rw [if_pos (by rw [hz])]
     exact fin fun _=>hz
    ·rw [if_neg (by rw [tx_eq]; exact hz)]
     have hq:readNum l = none:=by unfold readNum; rw [if_pos (.inr (.inr ⟨by rw [hf]; rfl,hz⟩))]
     rw [hq] at q
     rw [hF]
     exact q
   ·rw [if_neg (by show ¬ (tx [c] = tx [48]); rw [tx_eq]; simpa using hc)]
    exact fin fun z=>absurd (by simpa using z) hc
 simp [startD,minus_tx,sl_first]
 refine ⟨by rw [tx_len,List.length_take]; lia,?_⟩
 by_cases hn:l.head? = some 45
 ·have el := figs_minus hn
  have e1:tx (l.take 1) = tx [45]:=by rw [el]; rfl
  have es:Txt.slice (tx l) (some 1) none = tx (figs l):=by rw [sl_rest,el]; rfl
  rw [if_pos e1,es]
  exact ⟨by rw [tx_len]; lia,main _ rfl⟩
 ·have el := figs_plain hn
  have e1:¬ (tx (l.take 1) = tx [45]):=by
   rw [tx_eq]
   intro z
   cases l with
   | nil=>cases z
   | cons c r=>exact hn (by simpa using z)
  have es:Txt.slice (tx l) (some 0) none = tx l:=sl_from l (m:=0) rfl (Nat.zero_le _)
  rw [if_neg e1,es]
  rw [el] at main
  exact ⟨by rw [tx_len]; lia,main _ rfl⟩
abbrev s__law_read_end:Stmt:=top 47
abbrev N__law_read_end:List Str:=["_law_word", "_law_low", "_law_sign", "_law_rest", "_law_number_here"]
theorem sc__law_read_end:FnScope N__law_read_end ["_law_word", "_law_low"] (defScope s__law_read_end):=⟨rfl,rfl,rfl,by decide +kernel,rfl,by decide +kernel,by decide +kernel⟩
def t_lend:TF:=fun ds n Q=>∃ (l:List Nat) (low:Bool),ds = [.str (tx l),.bl low] /\ l.length <= 200000 /\ Short l /\ Q (endD (if low then readLow l else readHigh l)) n
theorem no_inL {sg c1 c2:List Nat} {k:D -> Prop} (h:k (.bl (decide (sg ≠ c1 /\ sg ≠ c2)))):rdIn true (.str (tx sg)) (.lst [.str (tx c1),.str (tx c2)]) k:=by
 obtain ⟨h1,es,h2,h3⟩:=no_in (k:=k) h
 rcases h2 with h2 | h2
 ·cases h2
  exact ⟨h1,_,.inr rfl,h3⟩
 ·cases h2
theorem yes_in {sg c1 c2:List Nat} {k:D -> Prop} (h:k (.bl (decide (sg = c1 \/ sg = c2)))):rdIn false (.str (tx sg)) (.tup [.str (tx c1),.str (tx c2)]) k:=by
 refine ⟨rfl,_,.inl rfl,rfl,?_⟩
 by_cases h1:sg = c1
 ·subst h1
  simp [inD,eqD] at h ⊢
  exact h
 ·by_cases h2 : sg = c2
  ·subst h2
   simp [inD,eqD] at h ⊢
   exact h
  ·have n1 : ¬ tx c1 = tx sg := by rw [tx_eq]; exact fun z => h1 z.symm
   have n2:¬ tx c2 = tx sg:=by rw [tx_eq]; exact fun z=>h2 z.symm
   have b1:(tx c1 == tx sg) = false:=beq_eq_false_iff_ne.mpr n1
   have b2:(tx c2 == tx sg) = false:=beq_eq_false_iff_ne.mpr n2
   simp [inD,eqD,h1,h2,b1,b2] at h ⊢
   exact h
theorem ok_lend {f:Addr} {fd:FuncData} (F:Fun K "_law_read_end" "_law_read_end" s__law_read_end f fd) (F__law_read_number:Fn P w K mg base "_law_read_number" 1 1 t_lnum):FnOk P w K mg base CX0 2 f fd ["_law_word", "_law_low"] (spD K 2 t_lend):=by
 refine Fun.okD F sc__law_read_end (fun cdv A0 outer s H E G Z hr=>(pssd_cons (psd_if (ptd_cmp op_eq re_eq (pd_var 0) pd_str (nomark _)) (pssd_one (psd_ret (pd_tup (pad_cons pd_bl (pad_cons pd_non pad_nil))))) pssd_nil)
  (pssd_cons (psd_unp (m:=5) (pd_if (ptd_val (pd_var 1)) (pd_tup (pad_cons (pd_slS (pd_var 0) pod_none (pod_some pd_int)) (pad_cons (pd_slS (pd_var 0) (pod_some pd_int) pod_none) pad_nil))) (pd_tup (pad_cons (pd_slS (pd_var 0) (pod_some (pd_neg pd_int)) pod_none) (pad_cons (pd_slS (pd_var 0) pod_none (pod_some (pd_neg pd_int))) pad_nil)))) (pgd_tup (k:=2) rfl rfl (pgsd_cons (pgd_name (i:=2) sc__law_read_end.nd rfl (lo rfl) (by decide)) (pgsd_cons (pgd_name (i:=3) sc__law_read_end.nd rfl (lo rfl) (by decide)) pgsd_nil))))
  (pssd_cons (psd_set (i:=4) sc__law_read_end.nd rfl (lo rfl) (pd_fn F__law_read_number (hr.mono (by decide)) rfl (pad_cons (pd_var 3) pad_nil)))
  (pssd_cons (psd_if (PWD.pt (pwd_or (ptd_cmp op_isN re_isN (pd_var 4) pd_non (nomark _)) (pwd_or1 (ptd_cmp op_notIn_seq (re_in (neg:=true)) (pd_var 2) (pd_if (ptd_val (pd_var 1)) (pd_lst (pad_cons pd_str (pad_cons pd_str pad_nil))) (pd_lst (pad_cons pd_str (pad_cons pd_str pad_nil)))) (by with_unfolding_all rfl))))) (pssd_one (psd_ret (pd_tup (pad_cons pd_bl (pad_cons pd_non pad_nil))))) pssd_nil)
  (pssd_one (psd_ret (pd_tup (pad_cons pd_bl (pad_cons (pd_tup (pad_cons (pd_var 4) (pad_cons (pd_cmp op_in_seq (re_in (neg:=false)) (pd_var 2) (pd_tup (pad_cons pd_str (pad_cons pd_str pad_nil))) (by with_unfolding_all rfl)) pad_nil))) pad_nil)))))))))) ?_
 rintro ds n Q hl ⟨l,low,rfl,hlen,hsh,q⟩
 have zl:=le_sz (n:=l.length) (by lia)
 by_cases h0:l = [45]
 ·subst h0
  have e:∀ low:Bool,(if low then readLow [45] else readHigh [45]) = some none:=by decide
  rw [e] at q
  simp [startD,minus_tx]
  exact q
 have ne:¬ (tx l = tx [45]):=by rw [tx_eq]; exact h0
 cases low
 ·simp [startD, minus_tx, ne, sl_end, sl_body, sqc_tx, roc_tx, tx_len]
  refine ⟨by lia,by lia,l.dropLast,rfl,by simp; lia,by rw [List.dropLast_eq_take]; exact hsh.take _,?_⟩
  have q':Q (endD (readHigh l)) n:=q
  unfold readHigh endF at q'
  rw [if_neg h0] at q'
  cases hr:readNum l.dropLast with
  | none =>
   rw [hr] at q'
   simp [numD,isNon]
   split at q' <;> exact q'
  | some i =>
   rw [hr] at q'
   simp [numD,isNon]
   refine no_inL ?_
   by_cases hb:l.drop (l.length - 1) ≠ [93] /\ l.drop (l.length - 1) ≠ [41]
   ·rw [if_pos hb] at q'
    rw [decide_eq_true hb]
    simp
    exact q'
   ·rw [if_neg hb] at q'
    rw [decide_eq_false hb]
    simp [sq_tx]
    refine yes_in ?_
    have e:decide (l.drop (l.length - 1) = [91] \/ l.drop (l.length - 1) = [93]) = decide (l.drop (l.length - 1) = [93]):=decide_eq_decide.mpr ⟨fun z=>z.elim (fun y=>absurd ⟨by rw [y]; decide,by rw [y]; decide⟩ hb) id,.inr⟩
    rw [e]
    exact q'
 ·simp [startD, minus_tx, ne, sl_first, sl_rest, sq_tx, ro_tx, tx_len]
  refine ⟨by lia,by lia,l.drop 1,by rw [List.drop_one],by simp; lia,hsh.drop _,?_⟩
  have q':Q (endD (readLow l)) n:=q
  unfold readLow endF at q'
  rw [if_neg h0] at q'
  cases hr:readNum (l.drop 1) with
  | none =>
   rw [hr] at q'
   simp [numD,isNon]
   split at q' <;> exact q'
  | some i =>
   rw [hr] at q'
   simp [numD,isNon]
   refine no_inL ?_
   by_cases hb:l.take 1 ≠ [91] /\ l.take 1 ≠ [40]
   ·rw [if_pos hb] at q'
    rw [decide_eq_true hb]
    simp
    exact q'
   ·rw [if_neg hb] at q'
    rw [decide_eq_false hb]
    simp [sqc_tx]
    refine yes_in ?_
    have e:decide (l.take 1 = [91] \/ l.take 1 = [93]) = decide (l.take 1 = [91]):=decide_eq_decide.mpr ⟨fun z=>z.elim id fun y=>absurd ⟨by rw [y]; decide,by rw [y]; decide⟩ hb,.inl⟩
    rw [e]
    exact q'
abbrev s__law_read_box:Stmt:=top 48
abbrev N__law_read_box:List Str:=["_law_words", "_law_d", "_law_spans", "_law_word", "_law_at", "_law_low", "_law_high"]
theorem sc__law_read_box:FnScope N__law_read_box ["_law_words", "_law_d"] (defScope s__law_read_box):=⟨rfl,rfl,rfl,by decide +kernel,rfl,by decide +kernel,by decide +kernel⟩
def t_lbox:TF:=fun ds n Q=>∃ (ws:List (List Nat)) (d:Nat),ds = [.lst (ws.map fun w=>D.str (tx w)),.int (d:Int)] /\ ws.length <= 200001 /\ (∀ w ∈ ws,w.length <= 200000 /\ Short w) /\ Q (boxD (readWords ws d)) n
structure JLb (ws:List (List Nat)) (d n i:Nat) (rho:Rho) (m:Nat):Prop where
 e:m = n
 s:∀ w ∈ ws.take i,∃ s,readSpan w = some s
 r:∃ a b c e:Option D,rho = [some (.lst (ws.map fun w=>D.str (tx w))),some (.int (d:Int)),some (.own (((ws.take i).filterMap readSpan).map encSpan)),a,b,c,e]
theorem ok_lbox {f : Addr} {fd : FuncData} (T : Blt mg) (F : Fun K "_law_read_box" "_law_read_box" s__law_read_box f fd) (F__law_read_end : Fn P w K mg base "_law_read_end" 2 2 t_lend) : FnOk P w K mg base CX0 3 f fd ["_law_words", "_law_d"] (spD K 2 t_lbox) := by
 refine Fun.okD F sc__law_read_box (fun cdv A0 outer s H E G Z hr=>(pssd_cons (psd_own (i:=2) sc__law_read_box.nd rfl (lo rfl) pad_nil)
  (pssd_cons (psd_for (m:=7) PassesOwn.never rfl (pid_seq rfl (pd_var 0)) (pgd_name (i:=3) sc__law_read_box.nd rfl (lo rfl) (by decide))
  (pssd_cons (psd_set (i:=4) sc__law_read_box.nd rfl (lo rfl) (pd_find (pd_var 3) (pad_cons pd_str pad_nil)))
  (pssd_cons (psd_if (ptd_cmp op_lt re_lt (pd_var 4) pd_int (nomark _)) (pssd_one (psd_ret pd_non)) pssd_nil)
  (pssd_cons (psd_parK (i:=5) (j:=6) rfl sc__law_read_box.nd rfl rfl (by decide) rfl rfl (pad_cons (pd_fn F__law_read_end (hr.mono (by decide)) rfl (pad_cons (pd_slS (pd_var 3) pod_none (pod_some (pd_var 4))) (pad_cons pd_bl pad_nil))) (pad_cons (pd_fn F__law_read_end (hr.mono (by decide)) rfl (pad_cons (pd_slS (pd_var 3) (pod_some (pd_add (pd_var 4) pd_int)) pod_none) (pad_cons pd_bl pad_nil))) pad_nil)))
  (pssd_cons (psd_if (PWD.pt (pwd_or (ptd_not (ptd_val (pd_ix ix_seq re_ix (pd_var 5) pd_int (fun _ _=>rfl)))) (pwd_or1 (ptd_not (ptd_val (pd_ix ix_seq re_ix (pd_var 6) pd_int (fun _ _=>rfl))))))) (pssd_one (psd_ret pd_non)) pssd_nil)
  (pssd_one (psd_append (i:=2) (pad_cons (pd_tup (pad_cons (pd_ix ix_seq re_ix (pd_var 5) pd_int (fun _ _=>rfl)) (pad_cons (pd_ix ix_seq re_ix (pd_var 6) pd_int (fun _ _=>rfl)) pad_nil))) pad_nil) rfl)))))))
  (pssd_one (psd_frz 2 (psd_ret (pd_if (ptd_cmp op_eq re_eq (pd_callB call_len_seq cr_len T.len bt_len (pad_cons (pd_var 2) pad_nil)) (pd_var 1) (nomark _)) (pd_callTy call_tuple_of cr_tuple T.tuple bt_tuple (pad_cons (pd_var 2) pad_nil)) pd_non))))))) ?_
 rintro ds n Q hl ⟨ws,d,rfl,hlen,hw,q⟩
 simp [startD]
 refine ⟨JLb ws d n,⟨rfl,fun w hw=>by simp at hw,_,_,_,_,rfl⟩,?_,?_⟩
 ·rintro j dd rho m' he ⟨rfl, hs, a1, a2, a3, a4, rfl⟩
  rw [List.getElem?_map] at he
  cases hc:ws[j]? with
  | none=>rw [hc] at he; cases he
  | some w =>
   rw [hc] at he
   cases he
   have hm:=List.mem_of_getElem? hc
   obtain ⟨hwl,hws⟩:=hw w hm
   have no:readSpan w = none -> Q .non m':=fun z=>by
    have:readWords ws d = none:=by
     unfold readWords
     rw [if_neg]
     exact fun y=>filt_none hm z y.1
    rw [this] at q
    exact q
   have zl:=le_sz (n:=w.length) (by lia)
   cases hcut:cut2 w with
   | none =>
    simp [dots_tx,find_none hcut]
    exact no (by unfold readSpan; rw [hcut])
   | some p =>
    obtain ⟨a,b⟩:=p
    obtain ⟨el,_⟩:=cut2_some hcut
    have hz:a.length + b.length + 2 = w.length:=by rw [el]; simp; lia
    have e1:Txt.slice (tx w) none (some (a.length:Int)) = tx a:=by rw [sl_to w rfl (by lia),el]; simp
    have e2:Txt.slice (tx w) (some ((a.length:Int) + 2)) none = tx b:=by rw [sl_from w (m:=a.length + 2) (by lia) (by lia),el]; simp
    have sa:Short a:=by
     have:=hws.take a.length
     rw [el] at this
     simpa using this
    have sb:Short b:=by
     have:=hws.drop (a.length + 2)
     rw [el] at this
     simpa using this
    have er:readSpan w = match readLow a,readHigh b with
     | some x,some y=>some (x,y)
     | _,_=>none:=by
     unfold readSpan
     rw [hcut]
     try rfl
    have hL:((ws.take j).filterMap readSpan).length < 1000000:=Nat.lt_of_le_of_lt (Nat.le_trans (List.length_filterMap_le ..) (List.length_take_le ..)) (by have:=(List.getElem?_eq_some_iff.mp hc).1; lia)
    simp [dots_tx,find_some hcut,e1,e2]
    rw [if_neg (by lia)]
    refine ⟨le_sz (by rw [tx_len]; lia),a,true,rfl,by lia,sa,le_sz (by rw [tx_len]; lia),b,false,rfl,by lia,sb,?_⟩
    rw [if_pos rfl,if_neg (by decide)]
    cases ha:readLow a with
    | none =>
     simp [endD]
     exact no (by rw [er,ha])
    | some x =>
     cases hb:readHigh b with
     | none =>
      simp [endD]
      exact no (by rw [er,ha,hb])
     | some y =>
      have ex:readSpan w = some (x,y):=by rw [er,ha,hb]
      simp [endD]
      refine ⟨Nat.lt_trans hL (by decide),rfl,fun v hv=>?_,some (.str (tx w)),some (.int (a.length:Int)),some (.tup [.bl true,encEnd x]),some (.tup [.bl true,encEnd y]),?_⟩
      ·rw [List.take_add_one, hc] at hv
       rcases List.mem_append.mp hv with hv | hv
       ·exact hs v hv
       ·have : v = w := by simpa using hv
        exact ⟨_,by rw [this]; exact ex⟩
      ·rw [List.take_add_one, hc]
       simp [ex]
       rfl
 ·rintro rho m' ⟨rfl, hs, a1, a2, a3, a4, rfl⟩
  have et:ws.take (ws.map fun w=>D.str (tx w)).length = ws:=List.take_of_length_le (by rw [List.length_map]; exact Nat.le_refl _)
  rw [et] at hs ⊢
  have hfl:=filt_some hs
  simp [hfl]
  by_cases hd:ws.length = d
  ·have : readWords ws d = some (ws.filterMap readSpan) := by unfold readWords; rw [if_pos ⟨hfl, hd⟩]
   rw [this] at q
   rw [if_pos (by lia)]
   exact q
  ·have : readWords ws d = none := by unfold readWords; rw [if_neg fun z => hd z.2]
   rw [this] at q
   rw [if_neg (by lia)]
   exact q
abbrev s__law_long:Stmt:=top 52
abbrev N__law_long:List Str:=["_law_text", "_law_run", "_law_sign"]
theorem sc__law_long:FnScope N__law_long ["_law_text"] (defScope s__law_long):=⟨rfl,rfl,rfl,by decide +kernel,rfl,by decide +kernel,by decide +kernel⟩
def t_long:TF:=fun ds n Q=>∃ l:List Nat,ds = [.str (tx l)] /\ l.length <= 200000 /\ ∀ b:Bool,(b = false -> Short l) -> Q (.bl b) n
structure JLg (l:List Nat) (n i:Nat) (rho:Rho) (m:Nat):Prop where
 e:m = n
 s:Short (l.take i)
 r:∃ z:Option D,rho = [some (.str (tx l)),some (.int (runOf (l.take i):Int)),z]
theorem ok_long {f:Addr} {fd:FuncData} (F:Fun K "_law_long" "_law_long" s__law_long f fd):FnOk P w K mg base CX0 1 f fd ["_law_text"] (spD K 1 t_long):=by
 refine Fun.okD F sc__law_long (fun cdv A0 outer s H E G Z hr=>(pssd_cons (psd_set (i:=1) sc__law_long.nd rfl (lo rfl) pd_int)
  (pssd_cons (psd_for (m:=3) PassesOwn.never rfl (pid_str (pd_var 0)) (pgd_name (i:=2) sc__law_long.nd rfl (lo rfl) (by decide))
  (pssd_cons (psd_set (i:=1) sc__law_long.nd rfl (lo rfl) (pd_if (ptd_cmp op_in_str re_inS (pd_var 2) pd_str (by with_unfolding_all rfl)) (pd_add (pd_var 1) pd_int) pd_int))
  (pssd_one (psd_if (ptd_cmp op_gt re_gt (pd_var 1) pd_int (nomark _)) (pssd_one (psd_ret pd_bl)) pssd_nil))))
  (pssd_one (psd_ret pd_bl))))) ?_
 rintro ds n Q hl ⟨l,rfl,hlen,q⟩
 simp [startD]
 rw [signs_tx]
 refine ⟨JLg l n,⟨rfl,by simpa using Short.nil,none,rfl⟩,?_,?_⟩
 ·rintro j d rho m' he ⟨rfl, hsh, z, rfl⟩
  rw [List.getElem?_map] at he
  cases hc:l[j]? with
  | none=>rw [hc] at he; cases he
  | some c =>
   rw [hc] at he
   cases he
   have h:(!(Builtin.Str.occurrences (tx figL) (tx [c]) 0 (tx figL).length 1).isEmpty) = isFig c:=fig_in c
   have et:l.take (j + 1) = l.take j ++ [c]:=by rw [List.take_add_one,hc]; rfl
   have er:=runOf_snoc (l.take j) c
   rw [<- et] at er
   have go:∀ r:Int,r = (runOf (l.take (j + 1)):Int) -> ¬ 18 < r -> JLg l m' (j + 1) [some (.str (tx l)),some (.int r),some (.str (tx [c]))] m':=fun r hr h18=>by
    subst hr
    refine ⟨rfl,?_,_,rfl⟩
    rw [et]
    refine hsh.snoc ?_
    rw [<- et]
    lia
   simp [fig_tx,h]
   by_cases hf:isFig c = true
   ·rw [if_pos hf] at er ⊢
    by_cases h18:18 < (runOf (l.take j):Int) + 1
    ·rw [if_pos h18]
     exact q true fun z=>by cases z
    ·rw [if_neg h18]
     exact go _ (by rw [er]; rfl) h18
   ·rw [if_neg hf] at er ⊢
    exact go 0 (by rw [er]; rfl) (by decide)
 ·rintro rho m' ⟨rfl, hsh, z, rfl⟩
  simp
  refine q false fun _=>?_
  rw [List.length_map,List.take_length] at hsh
  exact hsh
end
end K75
set_option maxRecDepth 100000
set_option maxHeartbeats 1000000
namespace K75
open PySem L2 PySem.Spec PyProof.Rows
def pieces:List String:=["-", "[", "(", "]", ")", ".", "..", ",", " ", "0", "7", "-0", "01", "+", "x", "\n", "-..-", "[3..4]", "1 ", "-5"]
theorem pieces_len:∀ x ∈ pieces,(Str.ofString x).length <= 6:=by decide +kernel
theorem join_len1 {c:Nat}:∀ {ws:List (List Nat)},ws ≠ [] -> (joinL [c] ws).length + 1 = (ws.map List.length).sum + ws.length
 | [],h=>absurd rfl h
 | [a],_=>by simp [joinL]
 | a :: b :: r, _ => by
  have:=join_len1 (c:=c) (ws:=b :: r) (by simp)
  have e:(joinL [c] (a :: b :: r)).length = a.length + 1 + (joinL [c] (b :: r)).length:=by
   show (a ++ [c] ++ joinL [c] (b :: r)).length = _
   rw [List.length_append,List.length_append]
   rfl
  simp only [List.map_cons,List.sum_cons,List.length_cons] at this ⊢
  lia
theorem sum_set (y:List Nat):∀ (ws:List (List Nat)) (m:Nat),((ws.set m y).map List.length).sum <= (ws.map List.length).sum + y.length
 | [],_=>by simp
 | a :: r,0=>by simp; lia
 | a :: r,m + 1=>by
  have:=sum_set y r m
  simp only [List.set_cons_succ,List.map_cons,List.sum_cons] at this ⊢
  lia
theorem sum_ins (y:List Nat) (ws:List (List Nat)) (m:Nat):((ws.take m ++ y :: ws.drop m).map List.length).sum = (ws.map List.length).sum + y.length:=by
 have e:(ws.map List.length).sum = ((ws.take m).map List.length).sum + ((ws.drop m).map List.length).sum:=by
  conv=>lhs; rw [<- List.take_append_drop m ws]
  rw [List.map_append,List.sum_append]
 rw [List.map_append,List.sum_append,List.map_cons,List.sum_cons]
 lia
theorem mem_sum {w:List Nat}:∀ {ws:List (List Nat)},w ∈ ws -> w.length <= (ws.map List.length).sum
 | a :: r, h => by
  rcases List.mem_cons.mp h with rfl | h
  ·simp
  ·have := mem_sum h
   simp only [List.map_cons,List.sum_cons]
   lia
section
variable {P:Program} {w:World} {K:PySem.W.Frag} {mg:Str -> Option Value} {base:Heap}
abbrev s__law_changed:Stmt:=top 53
abbrev N__law_changed:List Str:=["_law_left_here", "_law_text", "_law_some", "_law_piece", "_law_at", "_law_way", "_law_words", "_law_k"]
theorem sc__law_changed:FnScope N__law_changed ["_law_left_here", "_law_text"] (defScope s__law_changed):=⟨rfl,rfl,rfl,by decide +kernel,rfl,by decide +kernel,by decide +kernel⟩
def t_changed:TF:=fun ds n Q=>∃ l:List Nat,ds = [.st,.str (tx l)] /\ n = 2 /\ l.length <= 4000 /\ ∀ l':List Nat,l'.length <= 2 * l.length + 10 -> Q (.str (tx l')) 2
theorem ok_changed {f:Addr} {fd:FuncData} (T:Blt mg) (F:Fun K "_law_changed" "_law_changed" s__law_changed f fd) (F__law_pick:Fn P w K mg base "_law_pick" 1 2 t_pick):FnOk P w K mg base CX0 2 f fd ["_law_left_here", "_law_text"] (spD K 2 t_changed):=by
 refine Fun.okD F sc__law_changed (fun cdv A0 outer s H E G Z hr=>(pssd_cons (psd_set (i:=2) sc__law_changed.nd rfl (lo rfl) (pd_lst (pad_cons pd_str (pad_cons pd_str (pad_cons pd_str (pad_cons pd_str (pad_cons pd_str (pad_cons pd_str (pad_cons pd_str (pad_cons pd_str (pad_cons pd_str (pad_cons pd_str (pad_cons pd_str (pad_cons pd_str (pad_cons pd_str (pad_cons pd_str (pad_cons pd_str (pad_cons pd_str (pad_cons pd_str pad_nil)))))))))))))))))))
  (pssd_cons (psd_set (i:=3) sc__law_changed.nd rfl (lo rfl) (pd_ix ix_seq re_ix (pd_op op_cat re_cat (pd_var 2) (pd_lst (pad_cons pd_str (pad_cons pd_str (pad_cons pd_str pad_nil))))) (pd_fn F__law_pick (hr.mono (by decide)) rfl (pad_cons (pd_var 0) (pad_cons pd_int pad_nil))) (fun _ _=>rfl)))
  (pssd_cons (psd_set (i:=4) sc__law_changed.nd rfl (lo rfl) (pd_fn F__law_pick (hr.mono (by decide)) rfl (pad_cons (pd_var 0) (pad_cons (pd_add (pd_callB call_lenS cr_lenS T.len bt_len (pad_cons (pd_var 1) pad_nil)) pd_int) pad_nil))))
  (pssd_cons (psd_set (i:=5) sc__law_changed.nd rfl (lo rfl) (pd_fn F__law_pick (hr.mono (by decide)) rfl (pad_cons (pd_var 0) (pad_cons pd_int pad_nil))))
  (pssd_cons (psd_if (ptd_cmp op_eq re_eq (pd_var 5) pd_int (nomark _)) (pssd_one (psd_ret (pd_op op_add_str re_catS (pd_op op_add_str re_catS (pd_slS (pd_var 1) pod_none (pod_some (pd_var 4))) (pd_var 3)) (pd_slS (pd_var 1) (pod_some (pd_var 4)) pod_none)))) pssd_nil)
  (pssd_cons (psd_if (ptd_cmp op_eq re_eq (pd_var 5) pd_int (nomark _)) (pssd_one (psd_ret (pd_op op_add_str re_catS (pd_slS (pd_var 1) pod_none (pod_some (pd_var 4))) (pd_slS (pd_var 1) (pod_some (pd_add (pd_var 4) pd_int)) pod_none)))) pssd_nil)
  (pssd_cons (psd_if (ptd_cmp op_eq re_eq (pd_var 5) pd_int (nomark _)) (pssd_one (psd_ret (pd_op op_add_str re_catS (pd_op op_add_str re_catS (pd_slS (pd_var 1) pod_none (pod_some (pd_var 4))) (pd_var 3)) (pd_slS (pd_var 1) (pod_some (pd_add (pd_var 4) pd_int)) pod_none)))) pssd_nil)
  (pssd_cons (psd_splitO (i:=6) sc__law_changed.nd rfl (lo rfl) (pd_var 1) (pad_cons pd_str pad_nil))
  (pssd_cons (psd_set (i:=7) sc__law_changed.nd rfl (lo rfl) (pd_fn F__law_pick (hr.mono (by decide)) rfl (pad_cons (pd_var 0) (pad_cons (pd_ownLen (i:=6) T.len rfl) pad_nil))))
  (pssd_cons (psd_if (ptd_cmp op_eq re_eq (pd_var 5) pd_int (nomark _)) (pssd_one (psd_ownSet (i:=6) (pd_var 3) (pd_var 7))) (pssd_one (psd_insert (i:=6) (pad_cons (pd_var 7) (pad_cons (pd_ownIx (i:=6) (pd_fn F__law_pick (hr.mono (by decide)) rfl (pad_cons (pd_var 0) (pad_cons (pd_ownLen (i:=6) T.len rfl) pad_nil))) (fun _ _=>rfl)) pad_nil)) rfl)))
  (pssd_one (psd_frz 6 (psd_ret (pd_join rfl pd_str (pad_cons (pd_var 6) pad_nil)))))))))))))))) ?_
 rintro ds n Q hl ⟨l,rfl,rfl,hlen,q⟩
 have zl:=le_sz (n:=l.length) (by lia)
 have qs:∀ x:Str,x.length <= 2 * l.length + 10 -> Q (.str x) 2:=fun x hx=>by
  rw [tx_of x]
  exact q _ (by rw [<- tx_len,<- tx_of]; exact hx)
 have app:∀ x y:Str,(x ++ y).length = x.length + y.length:=fun x y=>by
  rw [tx_of x,tx_of y,tx_app,tx_len,tx_len,tx_len,List.length_append]
 with_reducible generalize hS:sSeq (sSet 4 _) _ = S
 have main:∀ (L:D) (y:Str) (F:EndsD),F.rt = Q -> y.length <= 6 -> notOwn L = true -> S F [some .st,some (.str (tx l)),some L,some (.str y),none,none,none,none] 2:=fun L y F hF hy hL=>by
  subst hS
  simp [hL]
  refine ⟨by rw [tx_len]; lia,pick_intro (by lia) (by rw [tx_len]; lia) fun k hk0 hk1=>?_⟩
  simp [hL]
  refine pick_intro (by decide) (by decide) fun way hw0 hw1=>?_
  have s1:=Txt.slice_le (tx l) none (some k)
  have s2:=Txt.slice_le (tx l) (some k) none
  have s3:=Txt.slice_le (tx l) (some (k + 1)) none
  rw [tx_len] at s1 s2 s3
  simp [hL,app]
  by_cases w0:way = 0
  ·rw [if_pos w0]
   refine ⟨by lia,le_sz (by lia),by lia,le_sz (by lia),?_⟩
   rw [hF]
   exact qs _ (by rw [app,app]; lia)
  rw [if_neg w0]
  by_cases w1:way = 1
  ·rw [if_pos w1]
   refine ⟨by lia,by lia,le_sz (by lia),?_⟩
   rw [hF]
   exact qs _ (by rw [app]; lia)
  rw [if_neg w1]
  by_cases w2:way = 2
  ·rw [if_pos w2]
   refine ⟨by lia,le_sz (by lia),by lia,le_sz (by lia),?_⟩
   rw [hF]
   exact qs _ (by rw [app,app]; lia)
  rw [if_neg w2]
  have hj:=splitL_join 32 l
  have hs:=splitL_tx 32 l
  have hne:splitL 32 l ≠ []:=fun z=>by
   obtain ⟨ps,e,h1,_⟩:=split_parts 32 l
   rw [hs,z] at e
   exact h1 (List.map_eq_nil_iff.mp e.symm)
  have h1:=join_len1 (c:=32) hne
  rw [hj] at h1
  have hL0:0 < (splitL 32 l).length:=List.length_pos_iff.mpr hne
  generalize splitL 32 l = ws at hj hs hne h1 hL0
  unfold sSplitO
  simp [hL,blank_tx,hs]
  have hj2:∀ vs:List (List Nat),vs ≠ [] -> (vs.map List.length).sum <= 20000 -> vs.length <= 20000 -> (joinL [32] vs).length <= 2 * l.length + 10 -> rdJoin (tx [32]) [.lst (vs.map (D.str ∘ tx))] fun d'=>F.rt d' 2:=fun vs h0 hsum hl hb=>by
   refine ⟨vs.map tx,by rw [List.map_map],by decide,?_,?_⟩
   ·rw [List.map_map, List.length_map]
    show (vs.map List.length).sum + vs.length <= _
    lia
   ·rw [join_tx, hF]
    exact q _ hb
  refine ⟨by rw [tx_len]; simp,by rw [tx_len]; lia,le_sz (by lia),pick_intro (by lia) (by lia) fun a ha0 ha1=>?_⟩
  obtain ⟨m,rfl⟩:=Int.eq_ofNat_of_zero_le ha0
  have hm:m < ws.length:=by lia
  by_cases w3:way = 3
  ·rw [if_pos w3]
   simp
   have hix:ixN ws.length (m:Int) = some m:=by
    unfold ixN
    rw [if_pos (by lia),if_pos (by lia)]
    rfl
   refine ⟨m,hix,?_⟩
   have e:(ws.map (D.str ∘ tx)).set m (.str y) = (ws.set m y.cps.toList).map (D.str ∘ tx):=by
    rw [List.map_set]
    show _ = (ws.map (D.str ∘ tx)).set m (.str (tx y.cps.toList))
    rw [<- tx_of]
   rw [e]
   have h2:=sum_set y.cps.toList ws m
   have hy':y.cps.toList.length <= 6:=by rw [<- tx_len,<- tx_of]; exact hy
   have hne2:ws.set m y.cps.toList ≠ []:=fun z=>by
    have:=congrArg List.length z
    simp at this
    exact hne this
   have h3:=join_len1 (c:=32) hne2
   rw [List.length_set] at h3
   exact hj2 _ hne2 (by lia) (by rw [List.length_set]; lia) (by lia)
  ·rw [if_neg w3]
   unfold sInsert
   simp [hL]
   refine ⟨le_sz (by lia),pick_intro (by lia) (by lia) fun b hb0 hb1=>?_⟩
   obtain ⟨m2,rfl⟩:=Int.eq_ofNat_of_zero_le hb0
   have hm2:m2 < ws.length:=by lia
   have hat:atI (ws.map (D.str ∘ tx)) (m2:Int) = some (.str (tx ws[m2])):=by
    unfold atI ixN
    rw [if_pos (by lia),if_pos (by rw [List.length_map]; lia)]
    simp [hm2]
   have hy':=mem_sum (List.getElem_mem hm2)
   refine ⟨m2,rfl,_,hat,m,_,⟨rfl,rfl⟩,by lia,by lia,?_⟩
   have e:(ws.map (D.str ∘ tx)).take m ++ .str (tx ws[m2]) :: (ws.map (D.str ∘ tx)).drop m = (ws.take m ++ ws[m2] :: ws.drop m).map (D.str ∘ tx):=by
    rw [List.map_append,List.map_cons,List.map_take,List.map_drop]
    rfl
   rw [e]
   have h2:=sum_ins ws[m2] ws m
   have hne2:ws.take m ++ ws[m2] :: ws.drop m ≠ []:=by simp
   have h3:=join_len1 (c:=32) hne2
   have h4:(ws.take m ++ ws[m2] :: ws.drop m).length = ws.length + 1:=by simp; lia
   exact hj2 _ hne2 (by lia) (by lia) (by lia)
 have hL:notOwn (D.lst ((pieces.take 17).map fun x=>D.str (Str.ofString x))) = true:=id rfl
 simp [startD]
 refine ⟨le_sz (by decide),le_sz (by decide),pick_intro (by decide) (by decide) fun k h0 h1=>?_⟩
 obtain ⟨m,rfl⟩:=Int.eq_ofNat_of_zero_le h0
 have hm:m < pieces.length:=by
  have:pieces.length = 20:=rfl
  lia
 have hat:atI (pieces.map fun x=>D.str (Str.ofString x)) (m:Int) = some (.str (Str.ofString pieces[m])):=by
  unfold atI ixN
  rw [if_pos (by lia),if_pos (by rw [List.length_map]; lia)]
  simp [hm]
 refine ⟨_,_,_,.inl rfl,rfl,hat,?_⟩
 exact main _ _ _ rfl (pieces_len _ (List.getElem_mem _)) hL
end
end K75
set_option maxRecDepth 100000
set_option maxHeartbeats 1000000
namespace K75
open PySem L2 PySem.Spec PyProof.Rows
def countO (o:Option Int):Option Int:=match o with | some i=>if 0 <= i then some i else none | none=>none
def placeO (d:Nat) (o:Option (List Int)):Option (List Int):=match o with | some p=>if p.length = d then some p else none | none=>none
def placeD (o:Option (List Int)):D:=match o with | some p=>encPlace p | none=>.non
theorem countO_some (i:Int):countO (some i) = if 0 <= i then some i else none:=rfl
theorem placeO_some (d:Nat) (p:List Int):placeO d (some p) = if p.length = d then some p else none:=rfl
theorem mapO_map {α β:Type} {f:α -> Option β}:∀ {xs:List α} {ys:List β},mapO f xs = some ys -> xs.map f = ys.map some
 | [],ys,h=>by cases h; rfl
 | a :: r, ys, h => by
  unfold mapO at h
  cases e:f a with
  | none=>rw [e] at h; cases h
  | some b =>
   rw [e] at h
   cases e2:mapO f r with
   | none=>rw [e2] at h; cases h
   | some bs =>
    rw [e2] at h
    cases h
    rw [List.map_cons,e,mapO_map e2]
    rfl
theorem mapO_some {α β:Type} {f:α -> Option β}:∀ {xs:List α},(∀ x ∈ xs,f x ≠ none) -> ∃ ys,mapO f xs = some ys
 | [],_=>⟨[],rfl⟩
 | a :: r,h=>by
  obtain ⟨ys,e⟩:=mapO_some (xs:=r) fun x hx=>h x (List.mem_cons_of_mem _ hx)
  cases q:f a with
  | none=>exact absurd q (h a (by simp))
  | some b=>exact ⟨b :: ys,by unfold mapO; rw [q,e]; rfl⟩
theorem non_in (ws:List (List Nat)):inD .non (ws.map fun w=>numD (readNum w)) = (mapO readNum ws).isNone:=by
 cases e:mapO readNum ws with
 | some ys =>
  have h:=mapO_map e
  unfold inD
  rw [List.any_eq_false.mpr]
  ·rfl
  ·intro x hx
   obtain ⟨w,hw,rfl⟩:=List.mem_map.mp hx
   have h2:readNum w ∈ ys.map some:=by rw [<- h]; exact List.mem_map_of_mem hw
   obtain ⟨i,_,e2⟩:=List.mem_map.mp h2
   rw [<- e2]
   simp [numD,eqD]
 | none =>
  unfold inD
  rw [List.any_eq_true.mpr]
  ·rfl
  ·apply Classical.byContradiction
   intro hn
   obtain ⟨ys,e2⟩:=mapO_some (f:=readNum) (xs:=ws) fun w hw z=>hn ⟨.non,List.mem_map.mpr ⟨w,hw,by rw [z]; rfl⟩,by simp [eqD]⟩
   rw [e] at e2
   cases e2
theorem flat_nums (ws:List (List Nat)):(ws.map fun w=>numD (readNum w)).all flatD = true:=List.all_eq_true.mpr fun d hd=>by
 obtain ⟨w,_,rfl⟩:=List.mem_map.mp hd
 cases readNum w <;> rfl
section
variable {P:Program} {w:World} {K:PySem.W.Frag} {mg:Str -> Option Value} {base:Heap}
abbrev s__law_read_place:Stmt:=top 49
abbrev N__law_read_place:List Str:=["_law_word", "_law_d", "_law_numbers"]
theorem sc__law_read_place:FnScope N__law_read_place ["_law_word", "_law_d"] (defScope s__law_read_place):=⟨rfl,rfl,rfl,by decide +kernel,rfl,by decide +kernel,by decide +kernel⟩
theorem nd__law_read_place_0:("_law_part" :: N__law_read_place:List Str).Nodup:=by decide +kernel
def t_lplace:TF:=fun ds n Q=>∃ (l:List Nat) (d:Nat),ds = [.str (tx l),.int (d:Int)] /\ l.length <= 200000 /\ Short l /\ Q (placeD (placeO d (readPlace l))) n
theorem ok_lplace {f:Addr} {fd:FuncData} (T:Blt mg) (F:Fun K "_law_read_place" "_law_read_place" s__law_read_place f fd) (F__law_read_number:Fn P w K mg base "_law_read_number" 1 1 t_lnum):FnOk P w K mg base CX0 2 f fd ["_law_word", "_law_d"] (spD K 2 t_lplace):=by
 refine Fun.okD F sc__law_read_place (fun cdv A0 outer s H E G Z hr=>(pssd_cons (psd_setComp (i:=2) sc__law_read_place.nd rfl (lo rfl) (own:=["_law_part"]) (M:=N__law_read_place) (compOk (by rfl)) rfl (pid_seq rfl (pd_split (pd_var 0) (pad_cons pd_str pad_nil))) (fun C s2 H2 fp=>(pgd_name (i:=0) nd__law_read_place_0 rfl (lo rfl) (by decide))) (fun C s2 H2 fp=>ptsd_nil) (fun C s2 H2 fp=>(pd_fn F__law_read_number (hr.mono (by decide)) rfl (pad_cons (pd_var 0) pad_nil))))
  (pssd_one (psd_ret (pd_if (PWD.pt (pwd_and (ptd_cmp op_eq re_eq (pd_callB call_len_seq cr_len T.len bt_len (pad_cons (pd_var 2) pad_nil)) (pd_var 1) (nomark _)) (pwd_and1 (ptd_cmp op_notIn_seq (re_in (neg:=true)) pd_non (pd_var 2) (by with_unfolding_all rfl))))) (pd_callTy call_tuple_of cr_tuple T.tuple bt_tuple (pad_cons (pd_var 2) pad_nil)) pd_non))))) ?_
 rintro ds n Q hl ⟨l,d,rfl,hlen,hsh,q⟩
 have hs:=join_sizes (c:=44) (splitL 44 l)
 rw [splitL_join] at hs
 simp [startD,comma_tx]
 rw [splitL_tx]
 refine ⟨by rw [tx_len]; simp,le_sz (by rw [tx_len]; lia),le_sz (by simp; lia),?_⟩
 rw [List.map_map]
 refine comp_mapIn (fun w=>D.str (tx w)) (fun w=>numD (readNum w)) (splitL 44 l) (le_sz (by lia)) (fun w hw R hR=>?_) ?_
 ·simp
  refine ⟨w,rfl,Nat.le_trans (hs.2 w hw) hlen,?_,hR⟩
  obtain ⟨a,b,e⟩:=join_mid (c:=[44]) hw
  rw [splitL_join] at e
  rw [e] at hsh
  exact hsh.mid
 simp
 by_cases hd:(splitL 44 l).length = d
 ·rw [if_pos (by lia)]
  refine ⟨rfl,_,.inr rfl,flat_nums _,?_⟩
  rw [non_in]
  cases e:mapO readNum (splitL 44 l) with
  | none =>
   have er:readPlace l = none:=e
   rw [er] at q
   simp
   exact q
  | some p =>
   have er:readPlace l = some p:=e
   have hp:=mapO_len e
   have em:=congrArg (List.map numD) (mapO_map e)
   rw [List.map_map,List.map_map] at em
   have em':((splitL 44 l).map fun w=>numD (readNum w)) = p.map D.int:=em
   rw [er] at q
   rw [placeO_some] at q
   rw [if_pos (by lia)] at q
   simp
   rw [em']
   exact q
 ·rw [if_neg (by lia)]
  cases e:mapO readNum (splitL 44 l) with
  | none =>
   have er:readPlace l = none:=e
   rw [er] at q
   exact q
  | some p =>
   have er:readPlace l = some p:=e
   have hp:=mapO_len e
   rw [er] at q
   rw [placeO_some] at q
   rw [if_neg (by lia)] at q
   exact q
abbrev s__law_read_count:Stmt:=top 50
abbrev N__law_read_count:List Str:=["_law_word", "_law_number_here"]
theorem sc__law_read_count:FnScope N__law_read_count ["_law_word"] (defScope s__law_read_count):=⟨rfl,rfl,rfl,by decide +kernel,rfl,by decide +kernel,by decide +kernel⟩
def t_lcount:TF:=fun ds n Q=>∃ l:List Nat,ds = [.str (tx l)] /\ l.length <= 200000 /\ Short l /\ Q (numD (countO (readNum l))) n
theorem ok_lcount {f:Addr} {fd:FuncData} (F:Fun K "_law_read_count" "_law_read_count" s__law_read_count f fd) (F__law_read_number:Fn P w K mg base "_law_read_number" 1 1 t_lnum):FnOk P w K mg base CX0 2 f fd ["_law_word"] (spD K 1 t_lcount):=by
 refine Fun.okD F sc__law_read_count (fun cdv A0 outer s H E G Z hr=>(pssd_cons (psd_set (i:=1) sc__law_read_count.nd rfl (lo rfl) (pd_fn F__law_read_number (hr.mono (by decide)) rfl (pad_cons (pd_var 0) pad_nil)))
  (pssd_one (psd_ret (pd_if (PWD.pt (pwd_and (ptd_cmp op_notN re_notN (pd_var 1) pd_non (nomark _)) (pwd_and1 (ptd_cmp op_ge re_ge (pd_var 1) pd_int (nomark _))))) (pd_var 1) pd_non))))) ?_
 rintro ds n Q hl ⟨l,rfl,hlen,hsh,q⟩
 simp [startD]
 refine ⟨l,rfl,hlen,hsh,?_⟩
 cases e:readNum l with
 | none =>
  rw [e] at q
  simp [numD,isNon]
  exact q
 | some i =>
  rw [e] at q
  rw [countO_some] at q
  simp [numD,isNon]
  by_cases h:0 <= i
  ·rw [if_pos h] at q ⊢
   exact q
  ·rw [if_neg h] at q ⊢
   exact q
abbrev s__law_read_ask:Stmt:=top 51
abbrev N__law_read_ask:List Str:=["_law_text", "_law_d", "_law_words", "_law_kinds", "_law_box_here", "_law_count", "_law_place"]
theorem sc__law_read_ask:FnScope N__law_read_ask ["_law_text", "_law_d"] (defScope s__law_read_ask):=⟨rfl,rfl,rfl,by decide +kernel,rfl,by decide +kernel,by decide +kernel⟩
def askO (o:Option (Str × List Span × List Part)):D:=match o with | some a=>askD a.1 a.2.1 a.2.2 | none=>.non
theorem kinds_in (x:Str) (h:x ∈ words8):atK (words8.map Sum.inr) ([0,0,0,0,0,1,1,2].map D.int) (Sum.inr x) = some (.int ((kindsOf x).length:Int)):=by
 simp only [words8,List.mem_cons,List.not_mem_nil,or_false] at h
 rcases h with rfl | rfl | rfl | rfl | rfl | rfl | rfl | rfl <;> rfl
theorem atK_no {x:Key}:∀ {ks:List Key} {ds:List D},x ∉ ks -> atK ks ds x = none
 | [],_,_=>by simp [atK]
 | _ :: _,[],_=>by simp [atK]
 | k :: ks,d :: ds,h=>by
  have h1:¬ k = x:=fun z=>h (by simp [z])
  have h2:=atK_no (x:=x) (ks:=ks) (ds:=ds) fun z=>h (List.mem_cons_of_mem _ z)
  simp [atK,h1,h2]
theorem kinds_no (x:Str) (h:x ∉ words8):atK (words8.map Sum.inr) ([0,0,0,0,0,1,1,2].map D.int) (Sum.inr x) = none:=atK_no fun z=>by
 obtain ⟨y,hy,e⟩:=List.mem_map.mp z
 cases e
 exact h hy
theorem words_none {ws:List (List Nat)} {d:Nat} (h:ws.length ≠ d):readWords ws d = none:=by
 unfold readWords
 rw [if_neg fun z=>h z.2]
theorem ask_short {w0:List Nat} {r:List (List Nat)} {d:Nat} (hd:1 <= d) (h:r.length ≠ (kindsOf (tx w0)).length + d):readAsk (w0 :: r) d = none:=by
 rw [readAsk_cons]
 split
 ·rw [words_none (ws := r.drop (kindsOf (tx w0)).length) (by rw [List.length_drop]; lia)]
  cases mapO readPart ((r.take (kindsOf (tx w0)).length).zip (kindsOf (tx w0))) <;> rfl
 ·rfl
theorem cut_neg (x:D) (l:List D) {m d:Nat} (hd:1 <= d) (h:l.length = m + d):cutL (x :: l) (some (-(d:Int))) none = l.drop m:=by
 unfold cutL
 have e1:HT.sIx (x :: l).length 0 (some (-(d:Int))) = m + 1:=by
  show (if (-(d:Int)) < 0 then (-(d:Int) + ((x :: l).length:Int)).toNat else min (-(d:Int)).toNat (x :: l).length) = m + 1
  rw [if_pos (by lia),List.length_cons]
  lia
 have e3:HT.sIx (x :: l).length (x :: l).length none = (x :: l).length:=HT.sIx_none ..
 rw [e1,e3,List.drop_succ_cons]
 exact List.take_of_length_le (by simp)
theorem ra0 {w0:List Nat} {r:List (List Nat)} {d:Nat} (hw:tx w0 ∈ words8) (hk:kindsOf (tx w0) = []):readAsk (w0 :: r) d = (readWords r d).map fun b=>(tx w0,b,[]):=by
 rw [readAsk_cons,if_pos hw,hk]
 cases h:readWords r d <;> simp [mapO,h]
theorem ra1 {w0 c:List Nat} {r:List (List Nat)} {d:Nat} (hw:tx w0 ∈ words8) (hk:kindsOf (tx w0) = [false]):readAsk (w0 :: c :: r) d = (countO (readNum c)).bind fun i=>(readWords r d).map fun b=>(tx w0,b,[.num i]):=by
 rw [readAsk_cons,if_pos hw,hk]
 cases h:readWords r d <;> cases e:readNum c <;> simp [mapO,readPart_num,h,e,okPb,countO] <;> split <;> simp_all
theorem ra2 {w0 pl c:List Nat} {r:List (List Nat)} {d:Nat} (hw:tx w0 ∈ words8) (hk:kindsOf (tx w0) = [true,false]):readAsk (w0 :: pl :: c :: r) d = (countO (readNum c)).bind fun i=>(readWords r d).bind fun b=>(placeO d (readPlace pl)).map fun p=>(tx w0,b,[.place p,.num i]):=by
 rw [readAsk_cons,if_pos hw,hk]
 cases h:readWords r d <;> cases e:readNum c <;> cases e2:readPlace pl <;> simp [mapO,readPart_num,readPart_place,h,e,e2,okPb,countO,placeO] <;> (try split) <;> (try split) <;> simp_all
theorem at2D (a b c:D) (l:List D):atI (a :: b :: c :: l) 2 = some c:=by
 have h:(2:Int) < (l.length:Int) + 1 + 1 + 1:=by lia
 simp [atI,ixN,h]
theorem isNon_int (i:Int):isNon (.int i) = false:=rfl
theorem isNon_non:isNon .non = true:=rfl
theorem kinds_cases (x:Str):(x = Str.ofString "near" /\ kindsOf x = [true,false]) \/ (¬ x = Str.ofString "near" /\ (kindsOf x = [false] \/ kindsOf x = [])):=by
 unfold kindsOf
 by_cases h:x = Str.ofString "near"
 ·exact .inl ⟨h,if_pos h⟩
 ·refine .inr ⟨h, ?_⟩
  rw [if_neg h]
  split
  ·exact .inl rfl
  ·exact .inr rfl
def t_lask:TF:=fun ds n Q=>∃ (l:List Nat) (d:Nat),ds = [.str (tx l),.int (d:Int)] /\ l.length <= 200000 /\ Short l /\ 1 <= d /\ d <= 4 /\ Q (askO (readAsk (splitL 32 l) d)) n
theorem ok_lask {f : Addr} {fd : FuncData} (T : Blt mg) (F : Fun K "_law_read_ask" "_law_read_ask" s__law_read_ask f fd) (F__law_read_box : Fn P w K mg base "_law_read_box" 3 2 t_lbox) (F__law_read_count : Fn P w K mg base "_law_read_count" 2 1 t_lcount) (F__law_read_place : Fn P w K mg base "_law_read_place" 2 2 t_lplace) : FnOk P w K mg base CX0 4 f fd ["_law_text", "_law_d"] (spD K 2 t_lask) := by
 refine Fun.okD F sc__law_read_ask (fun cdv A0 outer s H E G Z hr=>(pssd_cons (psd_set (i:=2) sc__law_read_ask.nd rfl (lo rfl) (pd_split (pd_var 0) (pad_cons pd_str pad_nil)))
  (pssd_cons (psd_set (i:=3) sc__law_read_ask.nd rfl (lo rfl) (pd_dctL (ks:=["count", "sum", "least", "most", "all", "first", "best", "near"]) (is:=[0,0,0,0,0,1,1,2]) (pps_cons pe_str pe_int (pps_cons pe_str pe_int (pps_cons pe_str pe_int (pps_cons pe_str pe_int (pps_cons pe_str pe_int (pps_cons pe_str pe_int (pps_cons pe_str pe_int (pps_cons pe_str pe_int pps_nil)))))))) (by simp) rfl (by decide)))
  (pssd_cons (psd_if (PWD.pt (pwd_or (ptd_cmp (op_dnotin (hu_of hr)) re_din (pd_ix ix_seq re_ix (pd_var 2) pd_int (fun _ _=>rfl)) (pd_var 3) (by with_unfolding_all rfl)) (pwd_or1 (ptd_cmp op_ne re_ne (pd_callB call_len_seq cr_len T.len bt_len (pad_cons (pd_var 2) pad_nil)) (pd_add (pd_add pd_int (pd_dix (hu_of hr) (pd_var 3) (pd_ix ix_seq re_ix (pd_var 2) pd_int (fun _ _=>rfl)) (fun _ _=>rfl))) (pd_var 1)) (nomark _))))) (pssd_one (psd_ret pd_non)) pssd_nil)
  (pssd_cons (psd_set (i:=4) sc__law_read_ask.nd rfl (lo rfl) (pd_fn F__law_read_box (hr.mono (by decide)) rfl (pad_cons (pd_slV rfl (pd_var 2) (pod_some (pd_neg (pd_var 1))) pod_none) (pad_cons (pd_var 1) pad_nil))))
  (pssd_cons (psd_if (ptd_cmp op_eq re_eq (pd_dix (hu_of hr) (pd_var 3) (pd_ix ix_seq re_ix (pd_var 2) pd_int (fun _ _=>rfl)) (fun _ _=>rfl)) pd_int (nomark _)) (pssd_one (psd_ret (pd_if (ptd_cmp op_isN re_isN (pd_var 4) pd_non (nomark _)) pd_non (pd_tup (pad_cons (pd_ix ix_seq re_ix (pd_var 2) pd_int (fun _ _=>rfl)) (pad_cons (pd_var 4) pad_nil)))))) pssd_nil)
  (pssd_cons (psd_set (i:=5) sc__law_read_ask.nd rfl (lo rfl) (pd_fn F__law_read_count (hr.mono (by decide)) rfl (pad_cons (pd_ix ix_seq re_ix (pd_var 2) (pd_dix (hu_of hr) (pd_var 3) (pd_ix ix_seq re_ix (pd_var 2) pd_int (fun _ _=>rfl)) (fun _ _=>rfl)) (fun _ _=>rfl)) pad_nil)))
  (pssd_cons (psd_if (PWD.pt (pwd_or (ptd_cmp op_isN re_isN (pd_var 4) pd_non (nomark _)) (pwd_or1 (ptd_cmp op_isN re_isN (pd_var 5) pd_non (nomark _))))) (pssd_one (psd_ret pd_non)) pssd_nil)
  (pssd_cons (psd_if (ptd_cmp op_ne re_ne (pd_ix ix_seq re_ix (pd_var 2) pd_int (fun _ _=>rfl)) pd_str (nomark _)) (pssd_one (psd_ret (pd_tup (pad_cons (pd_ix ix_seq re_ix (pd_var 2) pd_int (fun _ _=>rfl)) (pad_cons (pd_var 4) (pad_cons (pd_var 5) pad_nil)))))) pssd_nil)
  (pssd_cons (psd_set (i:=6) sc__law_read_ask.nd rfl (lo rfl) (pd_fn F__law_read_place (hr.mono (by decide)) rfl (pad_cons (pd_ix ix_seq re_ix (pd_var 2) pd_int (fun _ _=>rfl)) (pad_cons (pd_var 1) pad_nil))))
  (pssd_one (psd_ret (pd_if (ptd_cmp op_isN re_isN (pd_var 6) pd_non (nomark _)) pd_non (pd_tup (pad_cons pd_str (pad_cons (pd_var 4) (pad_cons (pd_var 6) (pad_cons (pd_var 5) pad_nil)))))))))))))))))) ?_
 rintro ds n Q hl ⟨l,d,rfl,hlen,hsh,hd1,hd4,q⟩
 have hs:=join_sizes (c:=32) (splitL 32 l)
 rw [splitL_join] at hs
 have hwd:∀ w ∈ splitL 32 l,w.length <= 200000 /\ Short w:=fun w hw=>⟨Nat.le_trans (hs.2 w hw) hlen,by
  obtain ⟨a,b,e⟩:=join_mid (c:=[32]) hw
  rw [splitL_join] at e
  rw [e] at hsh
  exact hsh.mid⟩
 have hne:splitL 32 l ≠ []:=fun z=>by
  obtain ⟨ps,e,h1,_⟩:=split_parts 32 l
  rw [splitL_tx,z] at e
  exact h1 (List.map_eq_nil_iff.mp e.symm)
 have hin:∀ x:Str,x ∈ words8 -> atK ([Sum.inr (Str.ofString "count"),Sum.inr (Str.ofString "sum"),Sum.inr (Str.ofString "least"),Sum.inr (Str.ofString "most"),Sum.inr (Str.ofString "all"),Sum.inr (Str.ofString "first"),Sum.inr (Str.ofString "best"),Sum.inr (Str.ofString "near")]:List Key) [D.int 0,D.int 0,D.int 0,D.int 0,D.int 0,D.int 1,D.int 1,D.int 2] (Sum.inr x) = some (.int ((kindsOf x).length:Int)):=kinds_in
 have hno:∀ x:Str,x ∉ words8 -> atK ([Sum.inr (Str.ofString "count"),Sum.inr (Str.ofString "sum"),Sum.inr (Str.ofString "least"),Sum.inr (Str.ofString "most"),Sum.inr (Str.ofString "all"),Sum.inr (Str.ofString "first"),Sum.inr (Str.ofString "best"),Sum.inr (Str.ofString "near")]:List Key) [D.int 0,D.int 0,D.int 0,D.int 0,D.int 0,D.int 1,D.int 1,D.int 2] (Sum.inr x) = none:=kinds_no
 simp [startD,blank_tx]
 generalize ([Sum.inr (Str.ofString "count"),Sum.inr (Str.ofString "sum"),Sum.inr (Str.ofString "least"),Sum.inr (Str.ofString "most"),Sum.inr (Str.ofString "all"),Sum.inr (Str.ofString "first"),Sum.inr (Str.ofString "best"),Sum.inr (Str.ofString "near")]:List Key) = KS at hin hno ⊢
 generalize [D.int 0,D.int 0,D.int 0,D.int 0,D.int 0,D.int 1,D.int 1,D.int 2] = VS at hin hno ⊢
 rw [splitL_tx]
 refine ⟨by rw [tx_len]; simp,le_sz (by rw [tx_len]; lia),le_sz (by rw [List.length_map]; lia),?_⟩
 generalize splitL 32 l = ws at hs hwd hne q ⊢
 cases ws with
 | nil=>exact absurd rfl hne
 | cons w0 r =>
  have eL:((w0 :: r).map tx).map D.str = D.str (tx w0) :: r.map fun w=>D.str (tx w):=by rw [List.map_map]; rfl
  rw [eL,List.length_map,List.length_cons]
  refine ⟨_,at0 ..,?_⟩
  by_cases hw:tx w0 ∈ words8
  ·have hk := hin _ hw
   have hrw:=fun w hw=>hwd w (List.mem_cons_of_mem _ hw)
   have hl0:=hs.1
   rw [List.length_cons] at hl0
   clear hs hwd hne hno hin
   simp [hk,at0]
   by_cases hc:r.length = (kindsOf (tx w0)).length + d
   ·rw [if_pos (by lia), cut_neg _ _ hd1 (by rw [List.length_map]; exact hc)]
    refine ⟨r.drop (kindsOf (tx w0)).length,d,by rw [List.map_drop],by rw [List.length_drop]; lia,fun w hw=>hrw w (List.mem_of_mem_drop hw),?_⟩
    rcases kinds_cases (tx w0) with ⟨hn,hks⟩ | ⟨hn,hks | hks⟩
    ·rw [hks] at hc ⊢
     obtain ⟨pl,c,r,rfl⟩:∃ pl c r',r = pl :: c :: r':=by
      match r,hc with
      | [],h=>exact absurd h (by simp only [List.length_nil,List.length_cons]; lia)
      | [_],h=>exact absurd h (by simp only [List.length_nil,List.length_cons]; lia)
      | a :: b :: t,_=>exact ⟨a,b,t,rfl⟩
     ·rw [show (pl :: c :: r).drop ([true, false] : List Bool).length = r from rfl]
      obtain ⟨l1,s1⟩:=hrw pl (by simp)
      obtain ⟨l2,s2⟩:=hrw c (by simp)
      rw [ra2 hw hks] at q
      rw [if_neg (by simp)]
      refine ⟨.str (tx c),at2D ..,c,rfl,l2,s2,?_⟩
      cases hc2:countO (readNum c) with
      | none =>
       rw [hc2] at q
       cases hb:readWords r d with
       | none=>simp [boxD,isNon]; exact q
       | some b =>
        have nb:notOwn (encBox b) = true:=id rfl
        have n0:isNon (encBox b) = false:=rfl
        simp [boxD,nb,n0,numD,isNon_non]
        exact q
      | some i =>
       rw [hc2] at q
       cases hb:readWords r d with
       | none =>
        rw [hb] at q
        simp [boxD,isNon]
        exact q
       | some b =>
        rw [hb] at q
        have nb:notOwn (encBox b) = true:=id rfl
        have n0:isNon (encBox b) = false:=rfl
        simp [boxD,nb,n0,numD,isNon_int,hn]
        refine ⟨pl,d,rfl,l1,s1,?_⟩
        cases hp:placeO d (readPlace pl) with
        | none =>
         rw [hp] at q
         simp [placeD,isNon_non]
         exact q
        | some p =>
         rw [hp,hn] at q
         have np:notOwn (encPlace p) = true:=id rfl
         have n1:isNon (encPlace p) = false:=rfl
         simp [placeD,np,n1]
         exact q
    ·rw [hks] at hc ⊢
     obtain ⟨c,r,rfl⟩:∃ c r',r = c :: r':=by
      match r,hc with
      | [],h=>exact absurd h (by simp only [List.length_nil,List.length_cons]; lia)
      | b :: t,_=>exact ⟨b,t,rfl⟩
     ·rw [show (c :: r).drop ([false] : List Bool).length = r from rfl]
      obtain ⟨l2,s2⟩:=hrw c (by simp)
      rw [ra1 hw hks] at q
      rw [if_neg (by simp)]
      refine ⟨.str (tx c),at1 ..,c,rfl,l2,s2,?_⟩
      cases hc2:countO (readNum c) with
      | none =>
       rw [hc2] at q
       cases hb:readWords r d with
       | none=>simp [boxD,isNon]; exact q
       | some b =>
        have nb:notOwn (encBox b) = true:=id rfl
        have n0:isNon (encBox b) = false:=rfl
        simp [boxD,nb,n0,numD,isNon_non]
        exact q
      | some i =>
       rw [hc2] at q
       cases hb:readWords r d with
       | none =>
        rw [hb] at q
        simp [boxD,isNon]
        exact q
       | some b =>
        rw [hb] at q
        have nb:notOwn (encBox b) = true:=id rfl
        have n0:isNon (encBox b) = false:=rfl
        simp [boxD,nb,n0,numD,isNon_int,hn]
        exact q
    ·rw [hks] at hc ⊢
     rw [ra0 hw hks] at q
     rw [if_pos rfl,show r.drop ([]:List Bool).length = r from rfl]
     cases hb:readWords r d with
     | none =>
      rw [hb] at q
      simp [boxD,isNon]
      exact q
     | some b =>
      rw [hb] at q
      have nb:notOwn (encBox b) = true:=id rfl
      have n0:isNon (encBox b) = false:=rfl
      simp [boxD,nb,n0]
      exact q
   ·rw [if_neg (by lia)]
    rw [ask_short hd1 hc] at q
    exact q
  ·have hk := hno _ hw
   simp [hk]
   rw [readAsk_cons,if_neg hw] at q
   exact q
end
end K75
set_option maxRecDepth 100000
set_option maxHeartbeats 1000000
namespace K75
open PySem L2 PySem.Spec PyProof.Rows
def toldD (o:Option (Str × List Span × List Part)):D:=match o with | some a=>.tup [.str "read",askD a.1 a.2.1 a.2.2] | none=>.tup [.str "none",.non]
structure JLaw (ns:List Int) (i:Nat) (rho:Rho) (n:Nat):Prop where
 e:n = 2
 r:∃ (a b c d e f g h k l:Option D),rho = [some (scriptD ns),a,b,c,d,e,f,g,h,k,l]
structure JTurn (hd:List (Option D)) (i:Nat) (rho:Rho) (n:Nat):Prop where
 e:n = 2
 r:∃ (a b c d e f:Option D),rho = hd ++ [a,b,c,d,e,f]
structure JAg (hd tl:List (Option D)) (i:Nat) (rho:Rho) (n:Nat):Prop where
 e:n = 2
 r:∃ (l:List Nat) (a:Option D),rho = hd ++ [some (.str (tx l)),a] ++ tl /\ l.length + 10 <= 577 * 2 ^ i
theorem okT_end (e:End):okT (encEnd e) 1 = true:=by
 rcases e with _ | ⟨i,b⟩
 ·simp [encEnd,okT]
 ·exact okT_tup.mpr ⟨by simp,by simp [okT]⟩
theorem okT_box {b:List Span} (h:b.length <= 4):okT (encBox b) 3 = true:=by
 refine okT_tup.mpr ⟨by rw [List.length_map]; lia,fun d hd=>?_⟩
 obtain ⟨s,_,rfl⟩:=List.mem_map.mp hd
 exact okT_tup.mpr ⟨by simp,by simp [okT_end]⟩
theorem okT_read {ws : List (List Nat)} {d : Nat} {a : Str × List Span × List Part} (h : readAsk ws d = some a) (hd : d <= 4) : okT (askD a.1 a.2.1 a.2.2) 4 = true := by
 cases ws with
 | nil=>cases h
 | cons w0 r =>
  rw [readAsk_cons] at h
  split at h
  ·cases e1 : mapO readPart ((r.take (kindsOf (tx w0)).length).zip (kindsOf (tx w0))) with
   | none=>rw [e1] at h; cases h
   | some qs =>
    rw [e1] at h
    cases e2:readWords (r.drop (kindsOf (tx w0)).length) d with
    | none=>rw [e2] at h; cases h
    | some b =>
     rw [e2] at h
     have h':(if qs.all (okPb d) = true then some (tx w0,b,qs) else none) = some a:=h
     split at h'
     ·rename_i hall
      cases h'
      have hb:b.length = d:=by
       unfold readWords at e2
       split at e2
       ·rename_i hz
        cases e2
        rw [hz.1,hz.2]
       ·cases e2
      have hq:qs.length <= 2:=by
       have h1:=mapO_len e1
       have h2:=kinds_len (tx w0)
       rw [List.length_zip] at h1
       lia
      refine okT_tup.mpr ⟨by simp; lia,fun e he=>?_⟩
      rcases List.mem_cons.mp he with rfl | he
      ·simp [okT]
      ·rcases List.mem_cons.mp he with rfl | he
       ·exact okT_box (show b.length <= 4 by lia)
       ·obtain ⟨q, hq, rfl⟩ := List.mem_map.mp he
        have hp:=List.all_eq_true.mp hall q hq
        cases q with
        | place p =>
         have hp':p.length = d:=by simpa [okPb] using hp
         refine okT_tup.mpr ⟨by rw [List.length_map,hp']; lia,fun e he=>?_⟩
         obtain ⟨x,_,rfl⟩:=List.mem_map.mp he
         simp [okT]
        | num k=>simp [encPart,okT]
     ·cases h'
  ·cases h
theorem paired_small:∀ {l es:List D},Paired (fun _ e=>∃ x:Int,small x /\ e = .int x) l es -> ∃ xs:List Int,es = xs.map D.int /\ ∀ x ∈ xs,small x
 | _,_,.nil=>⟨[],rfl,by simp⟩
 | _,_,.cons r t=>by
  obtain ⟨x,hx,rfl⟩:=r
  obtain ⟨xs,rfl,h⟩:=paired_small t
  exact ⟨x :: xs,rfl,fun y hy=>by rcases List.mem_cons.mp hy with rfl | hy; exact hx; exact h y hy⟩
theorem rdIn2 {x:Str} {k:D -> Prop} (h:k (.bl (decide (x = "first" \/ x = "best")))):rdIn false (.str x) (.tup [.str "first",.str "best"]) k:=by
 refine ⟨rfl,_,.inl rfl,rfl,?_⟩
 have e:inD (.str x) [.str "first",.str "best"] = decide (x = "first" \/ x = "best"):=by
  have bq:∀ a:Str,(a == x) = decide (x = a):=fun a=>by
   by_cases z:x = a
   ·subst z; simp
   ·rw [decide_eq_false z]
    simp
    exact fun e=>z e.symm
  simp [inD,eqD,bq]
 simp only [Bool.false_eq_true,if_false]
 rw [e]
 exact h
theorem plain_of:∀ x ∈ words8,¬ x = "near" -> ¬ x = "first" -> ¬ x = "best" -> x ∈ plain5:=by decide +kernel
def noAsks:List String:=["", "count", "first -..-", "first -1 -..-", "best 01 -..-", "near 1 -..-", "near 2 1 -..- -..-"]
theorem noAsks_none:∀ x ∈ noAsks,(Str.ofString x).cps.toList.length <= 100 /\ (readAsk (splitL 32 (Str.ofString x).cps.toList) 1).isNone = true:=by decide +kernel
def words75:List String:=["count", "first", "near", "best", "Sum", "all", "number", "worth"]
theorem words75_len:∀ x ∈ words75,(Str.ofString x).cps.toList.length <= 6:=by decide +kernel
section
variable {P:Program} {w:World} {K:PySem.W.Frag} {mg:Str -> Option Value} {base:Heap}
abbrev s__law_ask:Stmt:=top 45
abbrev N__law_ask:List Str:=["_law_left_here", "_law_d", "_law_pool_here", "_law_box_here", "_law_word", "_law_count"]
theorem sc__law_ask:FnScope N__law_ask ["_law_left_here", "_law_d", "_law_pool_here"] (defScope s__law_ask):=⟨rfl,rfl,rfl,by decide +kernel,rfl,by decide +kernel,by decide +kernel⟩
theorem nd__law_ask_0:("_law_i" :: N__law_ask:List Str).Nodup:=by decide +kernel
def t_ask:TF:=fun ds n Q=>∃ (d:Nat) (xs:List Int),ds = [.st,.int (d:Int),numsD xs] /\ n = 2 /\ 1 <= d /\ d <= 4 /\ 1 <= xs.length /\ xs.length <= 8 /\ (∀ x ∈ xs,small x) /\ ∀ (x:Str) (b:List Span) (qs:List Part),Form d x qs -> b.length = d -> (∀ s ∈ b,okSpan s) -> Q (askD x b qs) n
theorem ok_ask {f:Addr} {fd:FuncData} (T:Blt mg) (F:Fun K "_law_ask" "_law_ask" s__law_ask f fd) (F__law_pick:Fn P w K mg base "_law_pick" 1 2 t_pick) (F__law_number:Fn P w K mg base "_law_number" 2 2 t_number) (F__law_box:Fn P w K mg base "_law_box" 4 3 t_box):FnOk P w K mg base CX0 5 f fd ["_law_left_here", "_law_d", "_law_pool_here"] (spD K 3 t_ask):=by
 refine Fun.okD F sc__law_ask (fun cdv A0 outer s H E G Z hr=>(pssd_cons (psd_set (i:=3) sc__law_ask.nd rfl (lo rfl) (pd_fn F__law_box (hr.mono (by decide)) rfl (pad_cons (pd_var 0) (pad_cons (pd_var 1) (pad_cons (pd_var 2) pad_nil)))))
  (pssd_cons (psd_set (i:=4) sc__law_ask.nd rfl (lo rfl) (pd_ix ix_seq re_ix (pd_lst (pad_cons pd_str (pad_cons pd_str (pad_cons pd_str (pad_cons pd_str (pad_cons pd_str (pad_cons pd_str (pad_cons pd_str (pad_cons pd_str pad_nil))))))))) (pd_fn F__law_pick (hr.mono (by decide)) rfl (pad_cons (pd_var 0) (pad_cons pd_int pad_nil))) (fun _ _=>rfl)))
  (pssd_cons (psd_set (i:=5) sc__law_ask.nd rfl (lo rfl) (pd_ix ix_seq re_ix (pd_lst (pad_cons pd_int (pad_cons pd_int (pad_cons (pd_fn F__law_pick (hr.mono (by decide)) rfl (pad_cons (pd_var 0) (pad_cons pd_int pad_nil))) (pad_cons (pd_pow pd_int pd_int) pad_nil))))) (pd_fn F__law_pick (hr.mono (by decide)) rfl (pad_cons (pd_var 0) (pad_cons pd_int pad_nil))) (fun _ _=>rfl)))
  (pssd_cons (psd_if (ptd_cmp op_eq re_eq (pd_var 4) pd_str (nomark _)) (pssd_one (psd_ret (pd_tup (pad_cons (pd_var 4) (pad_cons (pd_var 3) (pad_cons (pd_callTy call_tuple_of cr_tuple T.tuple bt_tuple (pad_cons (pd_comp (own:=["_law_i"]) (M:=N__law_ask) (compOk (by rfl)) rfl (pid_rng T.range (pad_cons (pd_var 1) pad_nil)) (fun C s2 H2 fp=>(pgd_name (i:=0) nd__law_ask_0 rfl (lo rfl) (by decide))) (fun C s2 H2 fp=>ptsd_nil) (fun C s2 H2 fp=>(pd_fn F__law_number (hr.mono (by decide)) rfl (pad_cons (pd_var 1) (pad_cons (pd_var 3) pad_nil))))) pad_nil)) (pad_cons (pd_var 5) pad_nil))))))) pssd_nil)
  (pssd_one (psd_ret (pd_if (ptd_cmp op_in_seq (re_in (neg:=false)) (pd_var 4) (pd_tup (pad_cons pd_str (pad_cons pd_str pad_nil))) (by with_unfolding_all rfl)) (pd_tup (pad_cons (pd_var 4) (pad_cons (pd_var 3) (pad_cons (pd_var 5) pad_nil)))) (pd_tup (pad_cons (pd_var 4) (pad_cons (pd_var 3) pad_nil))))))))))) ?_
 rintro ds n Q hl ⟨d,xs,rfl,rfl,h1,h4,hx1,hx8,hxs,q⟩
 have nn:notOwn (numsD xs) = true:=id rfl
 simp [startD,nn]
 refine ⟨d,xs,rfl,rfl,h4,hx1,hx8,hxs,fun b hb ho=>?_⟩
 have nb:notOwn (encBox b) = true:=id rfl
 simp [nb]
 refine ⟨le_size (by decide),pick_intro (by decide) (by decide) fun k0 g0 g1=>?_⟩
 obtain ⟨y,ey,my⟩:=atI_lt (xs:=words8.map D.str) (i:=k0) g0 (by simpa [words8] using g1)
 obtain ⟨x,hx,rfl⟩:=List.mem_map.mp my
 have nx:notOwn (.str x) = true:=id rfl
 refine q_rdIxL.mpr ⟨_,ey,?_⟩
 refine pick_intro (by decide) (by decide) fun k1 a1 c1=>⟨⟨by decide,by decide,by decide⟩,pick_intro (by decide) (by decide) fun k2 a2 c2=>?_⟩
 obtain ⟨z,ez,mz⟩:=atI_lt (xs:=[D.int 0,D.int 1,D.int k1,D.int 100000000000000000]) (i:=k2) a2 (by simpa using c2)
 obtain ⟨v,hv0,hv1,rfl⟩:∃ v:Int,0 <= v /\ v.natAbs < 1000000000000000000 /\ z = .int v:=by
  simp only [List.mem_cons,List.not_mem_nil,or_false] at mz
  rcases mz with rfl | rfl | rfl | rfl
  ·exact ⟨_,by lia,by lia,rfl⟩
  ·exact ⟨_,by lia,by lia,rfl⟩
  ·exact ⟨_,by lia,by lia,rfl⟩
  ·exact ⟨_,by lia,by lia,rfl⟩
 have nv:notOwn (.int v) = true:=id rfl
 refine q_rdIxL.mpr ⟨_,ez,atD_mk nx ?_⟩
 by_cases hn:x = Str.ofString "near"
 ·subst hn
  simp
  refine ⟨by lia,comp_dem0 (rngD 0 d) 2 (fun _ e=>∃ x:Int,small x /\ e = .int x) (by rw [rng_len]; exact le_size (by lia)) (fun j d2 e2 Q' hQ'=>?_) (fun es hp=>?_)⟩
  ·simp [nn]
   exact ⟨xs,rfl,rfl,hx1,by lia,fun y hy=>hQ' _ ⟨y,hxs y hy,rfl⟩⟩
  ·have hlen := hp.length
   obtain ⟨ps,rfl,hps⟩:=paired_small hp
   rw [rng_len,List.length_map] at hlen
   simp only [q_kTupleL]
   exact q _ b [.place ps,.num v] (.near (by lia) (fun x hx=>by have:=hps x hx; unfold small at this; lia) hv0 hv1) hb ho
 ·simp [hn]
  refine rdIn2 ?_
  by_cases hm:x = "first" \/ x = "best"
  ·rw [decide_eq_true hm]
   exact ⟨true,rfl,q x b [.num v] (.many hm hv0 hv1) hb ho⟩
  ·rw [decide_eq_false hm]
   refine ⟨false,rfl,q x b [] (.plain (plain_of x hx hn (fun e=>hm (.inl e)) fun e=>hm (.inr e))) hb ho⟩
abbrev s__law_told:Stmt:=top 55
abbrev N__law_told:List Str:=["_law_handed", "_law_found", "_law_caught", "e"]
theorem sc__law_told:FnScope N__law_told ["_law_handed"] (defScope s__law_told):=⟨rfl,rfl,rfl,by decide +kernel,rfl,by decide +kernel,by decide +kernel⟩
def t_told:TF:=fun ds n Q=>(∃ (l:List Nat) (d:Nat),ds = [.tup [.str (tx l),.int (d:Int)]] /\ l.length <= 200000 /\ 1 <= d /\ d <= 4 /\ Q (toldD (readAsk (splitL 32 l) d)) n) \/ ∃ x y:D,ds = [.tup [x,y]] /\ notOwn x = true /\ isiOk x = true /\ isiD "str" x = false /\ Q (toldD none) n
theorem ok_told {f:Addr} {fd:FuncData} {C CB C1 C2 C3 C4:Addr} (T:Blt mg) (F:Fun K "_law_told" "_law_told" s__law_told f fd) (FX_read_ask:FnX P w K mg base "read_ask" 8 2 C t_read_ask) (EC:ExcC K C) (CX_BoxError:mg "BoxError" = some (.ref CB)) (EXM:PySem.W.exmOne K (.ref C) (.ref CB) = some true)
  (CX_NoText:mg "NoText" = some (.ref C)) (KIT_NoText:PySem.W.kitOne K (.ref C) (.ref C) = some true) (VE:mg "ValueError" = none) (KIT_ValueError:PySem.W.kitOne K (.ref C) (.type "ValueError") = some true)
  (CX_NoLine:mg "NoLine" = some (.ref C1)) (CX_NoNumber:mg "NoNumber" = some (.ref C2)) (CX_NoThing:mg "NoThing" = some (.ref C3)) (CX_Taken:mg "Taken" = some (.ref C4)) (KIT_tup:PySem.W.kitAny K (.ref C) ([V.ref C1,V.ref C2,V.ref C3,V.ref C4].map clsV) = some false) :
  FnOk P w K mg base CX0 9 f fd ["_law_handed"] (spD K 1 t_told):=by
 refine Fun.okD F sc__law_told (fun cdv A0 outer s H E G Z hr=>(pssd_cons (psd_unp (m:=4) (pd_tup (pad_cons pd_non (pad_cons pd_non pad_nil))) (pgd_tup (k:=2) rfl rfl (pgsd_cons (pgd_name (i:=1) sc__law_told.nd rfl (lo rfl) (by decide)) (pgsd_cons (pgd_name (i:=2) sc__law_told.nd rfl (lo rfl) (by decide)) pgsd_nil))))
  (pssd_cons (psd_tryS (j:=1) (i:=3) FX_read_ask (hr.mono (by decide)) rfl (pad_cons (pd_ix ix_seq re_ix (pd_var 0) pd_int (fun _ _=>rfl)) (pad_cons (pd_ix ix_seq re_ix (pd_var 0) pd_int (fun _ _=>rfl)) pad_nil)) CX_BoxError EXM sc__law_told.nd rfl rfl rfl rfl
  (fun ev=>(pssd_one (psd_set (i:=2) sc__law_told.nd rfl (lo rfl) (pd_var 3)))))
  (pssd_cons (psd_if (ptd_cmp op_isN re_isN (pd_var 2) pd_non (nomark _)) (pssd_one (psd_ret (pd_tup (pad_cons pd_str (pad_cons (pd_var 1) pad_nil))))) pssd_nil)
  (pssd_cons (psd_if (PWD.pt (pwd_or (ptd_not (ptd_val (pd_isiC EC (pd_var 2) CX_NoText KIT_NoText T.isi))) (pwd_or1 (ptd_not (ptd_val (pd_isiB EC (pd_var 2) VE bt_valueError KIT_ValueError T.isi)))))) (pssd_one (psd_ret (pd_tup (pad_cons pd_str (pad_cons pd_non pad_nil))))) pssd_nil)
  (pssd_one (psd_ret (pd_if (ptd_val (pd_isiT EC (pd_var 2) (pa_cons (pe_gl CX_NoLine) (pa_cons (pe_gl CX_NoNumber) (pa_cons (pe_gl CX_NoThing) (pa_cons (pe_gl CX_Taken) pa_nil)))) (le_size (by simp)) rfl KIT_tup T.isi)) (pd_tup (pad_cons pd_str (pad_cons pd_non pad_nil))) (pd_tup (pad_cons pd_str (pad_cons pd_non pad_nil))))))))))) ?_
 have ne:notOwn (D.exc C) = true:=id rfl
 rintro ds n Q hl (⟨l,d,rfl,hlen,hd1,hd4,q⟩ | ⟨x,y,rfl,hx,h1,h2,q⟩)
 ·simp [startD, sTryS, dIsiX]
  refine .inl ⟨l,d,rfl,hlen,hd1,hd4,?_⟩
  cases hr:readAsk (splitL 32 l) d with
  | none =>
   rw [hr] at q
   rw [byO_none]
   simp [ne]
   exact q
  | some b =>
   have nb:notOwn (askD b.1 b.2.1 b.2.2) = true:=id rfl
   rw [hr] at q
   rw [byO_some]
   simp [nb,isNon]
   exact q
 ·simp [startD, sTryS, dIsiX]
  refine .inr ⟨x,y,rfl,hx,h1,h2,?_⟩
  simp [ne]
  exact q
abbrev s_law:Stmt:=top 56
abbrev N_law:List Str:=["_law_script", "_law_k", "_law_left_here", "_law_d", "_law_text", "_law_turn", "_law_bent", "_law_again", "_law_word", "_law_due", "_law_found"]
theorem sc_law:FnScope N_law ["_law_script"] (defScope s_law):=⟨rfl,rfl,rfl,by decide +kernel,rfl,by decide +kernel,by decide +kernel⟩
theorem nd_law_0:("_law_thing" :: N_law:List Str).Nodup:=by decide +kernel
theorem ok_law {f : Addr} {fd : FuncData} (T : Blt mg) (F : Fun K "law" "law" s_law f fd) (F__law_left : Fn P w K mg base "_law_left" 2 2 t_left) (F__law_pick : Fn P w K mg base "_law_pick" 1 2 t_pick) (F__law_pool : Fn P w K mg base "_law_pool" 2 1 t_pool) (F__law_ask : Fn P w K mg base "_law_ask" 5 3 t_ask) (F__law_ask_text : Fn P w K mg base "_law_ask_text" 2 1 t_ask_text) (F__law_changed : Fn P w K mg base "_law_changed" 2 2 t_changed) (F__law_long : Fn P w K mg base "_law_long" 1 1 t_long) (F__law_read_ask : Fn P w K mg base "_law_read_ask" 4 2 t_lask) (F__law_same : Fn P w K mg base "_law_same" 5 2 (t_same 5)) (F__law_told : Fn P w K mg base "_law_told" 9 1 t_told) :
  FnOk P w K mg base CX0 10 f fd ["_law_script"] (spLawD K):=by
 refine Fun.okLaw F sc_law 2 (fun cdv A0 outer s H E hr=>(pssd_cons (psd_for (m:=11) PassesOwn.never rfl (pid_rng T.range (pad_cons (pd_callB (call_max2 rfl) cr_max2 T.max bt_max (pad_cons pd_int (pad_cons (pd_callB (call_min2 rfl) cr_min2 T.min bt_min (pad_cons pd_int (pad_cons (pd_callB call_len_seq cr_len T.len bt_len (pad_cons (pd_var 0) pad_nil)) pad_nil))) pad_nil))) pad_nil)) (pgd_name (i:=1) sc_law.nd rfl (lo rfl) (by decide))
  (pssd_new (i:=2) rfl sc_law.nd rfl (lo rfl) F__law_left (hr.mono (by decide)) rfl (pad_cons (pd_var 0) (pad_cons (pd_var 1) pad_nil)) (fun c Z H0=>(pssd_cons (psd_set (i:=3) sc_law.nd rfl (lo rfl) (pd_add pd_int (pd_fn F__law_pick (hr.mono (by decide)) rfl (pad_cons (pd_var 2) (pad_cons pd_int pad_nil)))))
  (pssd_cons (psd_set (i:=4) sc_law.nd rfl (lo rfl) (pd_fn F__law_ask_text (hr.mono (by decide)) rfl (pad_cons (pd_fn F__law_ask (hr.mono (by decide)) rfl (pad_cons (pd_var 2) (pad_cons (pd_var 3) (pad_cons (pd_fn F__law_pool (hr.mono (by decide)) rfl (pad_cons (pd_var 2) pad_nil)) pad_nil)))) pad_nil)))
  (pssd_one (psd_for (m:=11) PassesOwn.never rfl (pid_rng T.range (pad_cons pd_int pad_nil)) (pgd_name (i:=5) sc_law.nd rfl (lo rfl) (by decide))
  (pssd_cons (psd_set (i:=6) sc_law.nd rfl (lo rfl) (pd_var 4))
  (pssd_cons (psd_for (m:=11) PassesOwn.never rfl (pid_rng T.range (pad_cons (pd_add pd_int (pd_fn F__law_pick (hr.mono (by decide)) rfl (pad_cons (pd_var 2) (pad_cons pd_int pad_nil)))) pad_nil)) (pgd_name (i:=7) sc_law.nd rfl (lo rfl) (by decide))
  (pssd_one (psd_set (i:=6) sc_law.nd rfl (lo rfl) (pd_fn F__law_changed (hr.mono (by decide)) rfl (pad_cons (pd_var 2) (pad_cons (pd_var 6) pad_nil))))))
  (pssd_cons (psd_if (ptd_cmp op_eq re_eq (pd_fn F__law_pick (hr.mono (by decide)) rfl (pad_cons (pd_var 2) (pad_cons pd_int pad_nil))) pd_int (nomark _)) (pssd_cons (psd_set (i:=8) sc_law.nd rfl (lo rfl) (pd_ix ix_seq re_ix (pd_lst (pad_cons pd_str (pad_cons pd_str (pad_cons pd_str (pad_cons pd_str (pad_cons pd_str (pad_cons pd_str (pad_cons pd_str (pad_cons pd_str pad_nil))))))))) (pd_fn F__law_pick (hr.mono (by decide)) rfl (pad_cons (pd_var 2) (pad_cons pd_int pad_nil))) (fun _ _=>rfl)))
  (pssd_one (psd_set (i:=6) sc_law.nd rfl (lo rfl) (pd_join rfl pd_str (pad_cons (pd_op op_cat re_cat (pd_lst (pad_cons (pd_var 8) pad_nil)) (pd_slV rfl (pd_split (pd_var 6) (pad_cons pd_str pad_nil)) (pod_some pd_int) pod_none)) pad_nil))))) pssd_nil)
  (pssd_cons (psd_if (ptd_val (pd_fn F__law_long (hr.mono (by decide)) rfl (pad_cons (pd_var 6) pad_nil))) (pssd_one psd_cont) pssd_nil)
  (pssd_cons (psd_set (i:=9) sc_law.nd rfl (lo rfl) (pd_fn F__law_read_ask (hr.mono (by decide)) rfl (pad_cons (pd_var 6) (pad_cons (pd_var 3) pad_nil))))
  (pssd_cons (psd_unp (m:=11) (pd_fn F__law_told (hr.mono (by decide)) rfl (pad_cons (pd_tup (pad_cons (pd_var 6) (pad_cons (pd_var 3) pad_nil))) pad_nil)) (pgd_tup (k:=2) rfl rfl (pgsd_cons (pgd_name (i:=8) sc_law.nd rfl (lo rfl) (by decide)) (pgsd_cons (pgd_name (i:=10) sc_law.nd rfl (lo rfl) (by decide)) pgsd_nil))))
  (pssd_one (psd_if (PWD.pt (pwd_or (ptd_cmp op_ne re_ne (pd_cmp op_eq re_eq (pd_var 8) pd_str (nomark _)) (pd_cmp op_isN re_isN (pd_var 9) pd_non (nomark _)) (nomark _)) (pwd_or (ptd_cmp op_eq re_eq (pd_var 8) pd_str (nomark _)) (pwd_or1 (PWD.pt (pwd_and (ptd_cmp op_notN re_notN (pd_var 9) pd_non (nomark _)) (pwd_and1 (ptd_not (ptd_val (pd_fn F__law_same (hr.mono (by decide)) rfl (pad_cons (pd_var 10) (pad_cons (pd_var 9) pad_nil)))))))))))) (pssd_one (psd_ret pd_bl)) pssd_nil)))))))))))))))
  (pssd_cons (psd_for (m:=11) PassesOwn.never rfl (pid_seq rfl (pd_lst (pad_cons pd_str (pad_cons pd_str (pad_cons pd_str (pad_cons pd_str (pad_cons pd_str (pad_cons pd_str (pad_cons pd_str pad_nil))))))))) (pgd_name (i:=4) sc_law.nd rfl (lo rfl) (by decide))
  (pssd_one (psd_if (ptd_cmp (op_dne hr) (re_dne rfl) (pd_fn F__law_told (hr.mono (by decide)) rfl (pad_cons (pd_tup (pad_cons (pd_var 4) (pad_cons pd_int pad_nil))) pad_nil)) (pd_tup (pad_cons pd_str (pad_cons pd_non pad_nil))) (nomark _)) (pssd_one (psd_ret pd_bl)) pssd_nil)))
  (pssd_one (psd_ret (pd_callB (call_all rfl) cr_all T.all bt_all (pad_cons (pd_comp (own:=["_law_thing"]) (M:=N_law) (compOk (by rfl)) rfl (pid_seq rfl (pd_lst (pad_cons pd_non (pad_cons pd_int (pad_cons pd_bl (pad_cons (pd_lst (pad_cons pd_str pad_nil)) (pad_cons (pd_tup (pad_cons pd_str pad_nil)) (pad_cons (pd_lit 9 (d:=.dic) rfl) pad_nil)))))))) (fun C s2 H2 fp=>(pgd_name (i:=0) nd_law_0 rfl (lo rfl) (by decide))) (fun C s2 H2 fp=>ptsd_nil) (fun C s2 H2 fp=>(pd_cmp (op_deq hr) (re_deq rfl) (pd_fn F__law_told (hr.mono (by decide)) rfl (pad_cons (pd_tup (pad_cons (pd_var 0) (pad_cons pd_int pad_nil))) pad_nil)) (pd_tup (pad_cons pd_str (pad_cons pd_non pad_nil))) (nomark _)))) pad_nil))))))) ?_
 intro ns hns
 have nsc:notOwn (scriptD ns) = true:=id rfl
 have oks:okE (D.tup [D.str (Str.ofString "none"),D.non]) 20 = true:=by simp [okE,okEs]
 simp [startD,nsc]
 refine ⟨by lia,by lia,JLaw ns,⟨rfl,_,_,_,_,_,_,_,_,_,_,rfl⟩,?_,?_⟩
 ·rintro i d' rho m e ⟨rfl, a, b, c, d1, e1, f1, g1, h1, k1, l1, rfl⟩
  obtain ⟨hi,rfl⟩:=rng_at e
  simp
  refine new_intro ns (by simp) (by decide) rfl (i:Int) (by simp [nsc]) (fun P P' h=>by simp [nsc]; exact h _ _) ?_
  refine ⟨ns,_,rfl,hns,by lia,by lia,fun x y hx hy hy2=>⟨[x,y],rfl,rfl,by simp [hx,hy],by simp [hy2],?_⟩⟩
  simp [midRho,onlyRho]
  refine pick_intro (by decide) (by decide) fun k0 hk0 hk0'=>?_
  obtain ⟨d,hd⟩:=Int.eq_ofNat_of_zero_le (show 0 <= 1 + k0 by lia)
  have hd1:1 <= d:=by lia
  have hd4:d <= 4:=by lia
  simp
  rw [hd]
  refine ⟨rfl,rfl,fun xs hx1 hx8 hxs=>?_⟩
  refine ⟨d,xs,rfl,rfl,hd1,hd4,hx1,hx8,hxs,fun x b qs hf hb ho=>?_⟩
  have ha:=hf.ok hb ho
  have no:notOwn (askD x b qs) = true:=id rfl
  have hbl:=askL_len ha hd4
  simp [no]
  refine ⟨d,x,b,qs,rfl,hd1,hd4,hf,hb,ho,?_⟩
  generalize askL x b qs = l0 at hbl ⊢
  refine ⟨JTurn [some (scriptD ns),none,some .st,some (.int (d:Int)),some (.str (tx l0))],⟨rfl,_,_,_,_,_,_,rfl⟩,?_,?_⟩
  ·rintro j e2 rho m2 he2 ⟨rfl, a2, b2, c2, d2, e3, f2, rfl⟩
   simp
   refine pick_intro (by decide) (by decide) fun k1 hk1 hk1'=>?_
   simp
   refine ⟨by lia,by lia,JAg [some (scriptD ns),none,some .st,some (.int (d:Int)),some (.str (tx l0)),some e2] [d2,e3,f2],⟨rfl,l0,c2,rfl,by lia⟩,?_,?_⟩
   ·rintro j3 e4 rho m3 he3 ⟨rfl, l, a3, rfl, hll⟩
    obtain ⟨hj3,rfl⟩:=rng_at he3
    have hl9:l.length <= 4000:=by
     have:j3 = 0 \/ j3 = 1 \/ j3 = 2:=by lia
     rcases this with rfl | rfl | rfl <;> lia
    simp
    refine ⟨l,rfl,rfl,hl9,fun l' hl'=>?_⟩
    refine ⟨rfl,l',some (.int (j3:Int)),rfl,?_⟩
    rw [Nat.pow_succ]
    lia
   ·rintro rho m3 ⟨rfl, l, a3, rfl, hll⟩
    rw [rng_len] at hll
    have hl9:l.length <= 5000:=by
     have:(1 + k1).toNat = 1 \/ (1 + k1).toNat = 2 \/ (1 + k1).toNat = 3:=by lia
     rcases this with z | z | z <;> rw [z] at hll <;> lia
    with_reducible generalize hS:sSeq (sIf (dTest (dFn 1 t_long _)) _ _) _ = S
    have main:∀ (F:EndsD) (l:List Nat) (u v:Option D),l.length <= 6000 -> F.nx = JTurn [some (scriptD ns),none,some .st,some (.int (d:Int)),some (.str (tx l0))] (j + 1) -> F.ct = JTurn [some (scriptD ns),none,some .st,some (.int (d:Int)),some (.str (tx l0))] (j + 1) ->
      S F [some (scriptD ns),none,some .st,some (.int (d:Int)),some (.str (tx l0)),some e2,some (.str (tx l)),u,v,e3,f2] 2:=fun F l u v hl9 hF1 hF2=>by
     subst hS
     simp
     refine ⟨l,rfl,by lia,fun bb hbb=>?_⟩
     cases bb with
     | true =>
      simp [hF2]
      exact ⟨rfl,_,_,_,_,_,_,rfl⟩
     | false =>
      have hsh:=hbb rfl
      simp
      refine ⟨l,d,rfl,by lia,hsh,hd1,hd4,?_⟩
      simp
      refine .inl ⟨l,d,rfl,by lia,hd1,hd4,?_⟩
      cases hr:readAsk (splitL 32 l) d with
      | none =>
       simp [toldD,askO,isNon_non,hF1]
       rw [if_neg (by decide)]
       exact ⟨rfl,_,_,_,_,_,_,rfl⟩
      | some a =>
       have na:notOwn (askD a.1 a.2.1 a.2.2) = true:=id rfl
       have n0:isNon (askD a.1 a.2.1 a.2.2) = false:=rfl
       simp [toldD,askO,na,n0]
       rw [if_neg (by decide),if_neg (by decide)]
       refine ⟨_,rfl,okT_read hr hd4,?_⟩
       simp [hF1]
       exact ⟨rfl,_,_,_,_,_,_,rfl⟩
    simp
    refine pick_intro (by decide) (by decide) fun k4 h40 h41=>?_
    by_cases hk4:k4 = 0
    ·subst hk4
     simp
     refine ⟨le_sz (by decide),pick_intro (by decide) (by decide) fun k5 h50 h51=>?_⟩
     obtain ⟨m5,rfl⟩:=Int.eq_ofNat_of_zero_le h50
     have hm5:m5 < words75.length:=by
      have:words75.length = 8:=rfl
      lia
     have hat:atI (words75.map fun x=>D.str (Str.ofString x)) (m5:Int) = some (.str (Str.ofString words75[m5])):=by
      unfold atI ixN
      rw [if_pos (by lia),if_pos (by rw [List.length_map]; lia)]
      simp [hm5]
     have hw6:=words75_len _ (List.getElem_mem hm5)
     refine ⟨_,_,_,.inl rfl,rfl,hat,?_⟩
     generalize Str.ofString words75[m5] = wd at hw6 ⊢
     have hs:=join_sizes (c:=32) (splitL 32 l)
     have hj:=splitL_join 32 l
     have hne:splitL 32 l ≠ []:=fun z=>by
      obtain ⟨ps,e,h1,_⟩:=split_parts 32 l
      rw [splitL_tx,z] at e
      exact h1 (List.map_eq_nil_iff.mp e.symm)
     have hj1:=join_len1 (c:=32) hne
     rw [hj] at hs hj1
     refine atD_mk (id rfl) ?_
     rw [blank_tx,splitL_tx]
     generalize splitL 32 l = ws at hs hj hj1 hne ⊢
     cases ws with
     | nil=>exact absurd rfl hne
     | cons w0 r =>
      have eL:((w0 :: r).map tx).map D.str = D.str (tx w0) :: r.map fun w=>D.str (tx w):=by rw [List.map_map]; rfl
      have ec:cutL (D.str (tx w0) :: r.map fun w=>D.str (tx w)) (some 1) none = r.map fun w=>D.str (tx w):=by
       have:=cut_from (D.str (tx w0)) (r.map fun w=>D.str (tx w)) 0
       simpa using this
      rw [eL,ec]
      have hr:=hs.1
      rw [List.length_cons] at hr
      simp only [List.map_cons,List.sum_cons,List.length_cons] at hj1
      refine ⟨by rw [tx_len]; simp,le_sz (by rw [tx_len]; lia),le_sz (by rw [List.length_map,List.length_cons]; lia),le_sz (by rw [List.length_map]; lia),wd :: r.map tx,by rw [List.map_cons,List.map_map]; rfl,by decide,?_,?_⟩
      ·have ew : ((wd :: r.map tx).map fun x => x.length).sum = wd.length + (r.map List.length).sum := by
        rw [List.map_cons,List.sum_cons,List.map_map]
        rfl
       have hwl:wd.length <= 6:=hw6
       rw [ew,List.length_cons,List.length_map]
       lia
      ·have ej : wd :: r.map tx = (wd.cps.toList :: r).map tx := by rw [List.map_cons, <- tx_of]
       rw [ej,join_tx]
       have h2:=join_len1 (c:=32) (ws:=wd.cps.toList :: r) (by simp)
       simp only [List.map_cons,List.sum_cons,List.length_cons] at h2
       exact main _ _ _ _ (by lia) rfl rfl
    ·simp [hk4]
     exact main _ l _ _ (by lia) rfl rfl
  ·rintro rho m2 ⟨rfl, a2, b2, c2, d2, e3, f2, rfl⟩
   simp
   exact ⟨rfl,_,_,_,_,_,_,_,_,_,_,rfl⟩
 ·rintro rho m ⟨rfl, a, b, c, d1, e1, f1, g1, h1, k1, l1, rfl⟩
  simp
  refine ⟨JLaw ns,⟨rfl,_,_,_,_,_,_,_,_,_,_,rfl⟩,?_,?_⟩
  ·rintro i d' rho m e ⟨rfl, a, b, c, d1, e1, f1, g1, h1, k1, l1, rfl⟩
   have e':(noAsks.map fun x=>D.str (Str.ofString x))[i]? = some d':=e
   rw [List.getElem?_map] at e'
   cases hc:noAsks[i]? with
   | none=>rw [hc] at e'; cases e'
   | some x =>
    rw [hc] at e'
    cases e'
    obtain ⟨h1,h2⟩:=noAsks_none x (List.mem_of_getElem? hc)
    simp
    refine .inl ⟨(Str.ofString x).cps.toList,1,by rw [<- tx_of]; rfl,by lia,by decide,by decide,?_⟩
    rw [Option.isNone_iff_eq_none.mp h2]
    exact ⟨oks,oks,eqD_self oks,rfl,_,_,_,_,_,_,_,_,_,_,rfl⟩
  ·rintro rho m ⟨rfl, a, b, c, d1, e1, f1, g1, h1, k1, l1, rfl⟩
   simp
   have hall:∀ d ∈ ([D.non,D.int 5,D.bl true,D.lst [D.str (Str.ofString "count")],D.tup [D.str (Str.ofString "sum")],D.dic]:List D),notOwn d = true /\ isiOk d = true /\ isiD "str" d = false:=by
    intro d hd
    simp only [List.mem_cons,List.not_mem_nil,or_false] at hd
    rcases hd with rfl | rfl | rfl | rfl | rfl | rfl <;> exact ⟨rfl,rfl,by decide⟩
   have hsz:([D.non,D.int 5,D.bl true,D.lst [D.str (Str.ofString "count")],D.tup [D.str (Str.ofString "sum")],D.dic]:List D).length = 6:=rfl
   have hid:∀ l:List D,l = l.map fun d=>d:=fun l=>(List.map_id' l).symm
   generalize ([D.non,D.int 5,D.bl true,D.lst [D.str (Str.ofString "count")],D.tup [D.str (Str.ofString "sum")],D.dic]:List D) = xs at hall hsz ⊢
   rw [hid xs]
   refine comp_mapIn (fun d:D=>d) (fun _=>.bl true) xs (le_sz (by lia)) (fun d hd R hR=>?_) ?_
   ·obtain ⟨h1, h2, h3⟩ := hall d hd
    simp [h1]
    refine .inr ⟨d,_,rfl,h1,h2,h3,oks,oks,?_⟩
    have e:eqD (toldD none) (D.tup [D.str (Str.ofString "none"),D.non]) = true:=eqD_self oks
    rw [e]
    exact hR
   refine ⟨xs.map fun _=>true,by rw [List.map_map]; rfl,?_⟩
   have eA:(xs.map fun _=>true).all id = true:=by simp
   rw [eA]
end
end K75
set_option maxRecDepth 100000
set_option maxHeartbeats 1000000
namespace K75
open PySem L2 PySem.Spec PyProof.Rows
theorem len_succ {α:Type} {us:List α} {c:Nat} (h:us.length = c + 1):∃ a r,us = a :: r /\ r.length = c:=by
 cases us with
 | nil=>cases h
 | cons a r=>exact ⟨a,r,rfl,Nat.succ.inj h⟩
theorem us_1 {fd:FuncData} {ps:List Str} {us:List Value} (h:us.length = 1) (q:∀ x0,bindArgs fd ⟨[x0],[]⟩ = pure (ps.zip [x0])):bindArgs fd ⟨us,[]⟩ = pure (ps.zip us):=by
 obtain ⟨x0,u0,rfl,h0⟩:=len_succ h
 obtain rfl:=List.length_eq_zero_iff.mp h0
 exact q x0
theorem us_2 {fd:FuncData} {ps:List Str} {us:List Value} (h:us.length = 2) (q:∀ x0 x1,bindArgs fd ⟨[x0,x1],[]⟩ = pure (ps.zip [x0,x1])):bindArgs fd ⟨us,[]⟩ = pure (ps.zip us):=by
 obtain ⟨x0,u0,rfl,h0⟩:=len_succ h
 obtain ⟨x1,u1,rfl,h1⟩:=len_succ h0
 obtain rfl:=List.length_eq_zero_iff.mp h1
 exact q x0 x1
theorem us_3 {fd:FuncData} {ps:List Str} {us:List Value} (h:us.length = 3) (q:∀ x0 x1 x2,bindArgs fd ⟨[x0,x1,x2],[]⟩ = pure (ps.zip [x0,x1,x2])):bindArgs fd ⟨us,[]⟩ = pure (ps.zip us):=by
 obtain ⟨x0,u0,rfl,h0⟩:=len_succ h
 obtain ⟨x1,u1,rfl,h1⟩:=len_succ h0
 obtain ⟨x2,u2,rfl,h2⟩:=len_succ h1
 obtain rfl:=List.length_eq_zero_iff.mp h2
 exact q x0 x1 x2
theorem us_4 {fd:FuncData} {ps:List Str} {us:List Value} (h:us.length = 4) (q:∀ x0 x1 x2 x3,bindArgs fd ⟨[x0,x1,x2,x3],[]⟩ = pure (ps.zip [x0,x1,x2,x3])):bindArgs fd ⟨us,[]⟩ = pure (ps.zip us):=by
 obtain ⟨x0,u0,rfl,h0⟩:=len_succ h
 obtain ⟨x1,u1,rfl,h1⟩:=len_succ h0
 obtain ⟨x2,u2,rfl,h2⟩:=len_succ h1
 obtain ⟨x3,u3,rfl,h3⟩:=len_succ h2
 obtain rfl:=List.length_eq_zero_iff.mp h3
 exact q x0 x1 x2 x3
structure Dn (K:PySem.W.Frag) (x:Str) (st:Stmt):Prop where
 ex:∃ (f:Addr) (fd:FuncData),PySem.W.nsIn K mainGlobals x = some (some (.ref f)) /\ Fun K x x st f fd
theorem dn {K:PySem.W.Frag} {x:Str} {st:Stmt} {f:Addr} {oc:Value} {od an:Option Addr} {osl:Array (Option Value)} {kV doc pm cdv ct:Value} (a:PySem.W.nsIn K mainGlobals x = some (some (.ref f))) (l:K.lookup f = some ⟨oc,od,.func (PySem.W.fnOf x x (defArgs st) (defBody st) (defScope st) .none kV doc pm an cdv ct),osl⟩) (c:PySem.W.codeIn K cdv x = true) (k:PySem.W.keepIn K (.ref f) = true):Dn K x st:=⟨f,_,a,fun_mk (st:=st) l c k⟩
theorem Dn.fn {P:Program} {w:World} {K:PySem.W.Frag} {mg:Str -> Option Value} {base h:Heap} {x:Str} {st:Stmt} {kk k:Nat} {t:TF} {ps:List Str} (d:Dn K x st) (X:K.In h) (G:h.Ns mainGlobals mg) (b:∀ (kV doc pm:Value) (an:Option Addr) (cdv ct:Value) (us:List Value),us.length = ps.length -> bindArgs (PySem.W.fnOf x x (defArgs st) (defBody st) (defScope st) .none kV doc pm an cdv ct) ⟨us,[]⟩ = pure (ps.zip us)) (ok:∀ (f:Addr) (fd:FuncData),Fun K x x st f fd -> mg x = some (.ref f) -> PySem.W.keepIn K (.ref f) = true -> Binds K fd ps [] -> FnOk P w K mg base CX0 kk f fd ps (spD K k t)):Fn P w K mg base x kk k t:=by
 obtain ⟨f,fd,a,F⟩:=d.ex
 have m:=PySem.W.mg_of X G a
 have B:=F.binds b
 exact ⟨f,fd,ps,ok f fd F m F.kp B,m,F.kp,B⟩
theorem Dn.fnX {P:Program} {w:World} {K:PySem.W.Frag} {mg:Str -> Option Value} {base h:Heap} {x:Str} {st:Stmt} {kk k:Nat} {C:Addr} {t:TFX} {ps:List Str} (d:Dn K x st) (X:K.In h) (G:h.Ns mainGlobals mg) (b:∀ (kV doc pm:Value) (an:Option Addr) (cdv ct:Value) (us:List Value),us.length = ps.length -> bindArgs (PySem.W.fnOf x x (defArgs st) (defBody st) (defScope st) .none kV doc pm an cdv ct) ⟨us,[]⟩ = pure (ps.zip us)) (ok:∀ (f:Addr) (fd:FuncData),Fun K x x st f fd -> FnOk P w K mg base (CX1 P w) kk f fd ps (spX K C k t)):FnX P w K mg base x kk k C t:=by
 obtain ⟨f,fd,a,F⟩:=d.ex
 exact ⟨f,fd,ps,ok f fd F,PySem.W.mg_of X G a,F.kp,F.binds b⟩
theorem all_mk {l:PySem.W.OpenLaw} {w:World} {K:PySem.W.Frag} {h:Heap} {mg:Str -> Option Value} {fa f40:Addr} (X:K.In h) (G:h.Ns mainGlobals mg) (hfa:mg "law" = some (.ref fa))
  {od40 an40:Option Addr} {sl40:Array (Option Value)} {oc40 kV40 dc40 pm40 cd40 ct40:Value}
  (d0:Dn K "is_whole" s_is_whole)
  (d1:Dn K "is_from_zero" s_is_from_zero)
  (d2:Dn K "is_below" s_is_below)
  (d3:Dn K "is_d" s_is_d)
  (d4:Dn K "is_tuple_of" s_is_tuple_of)
  (d5:Dn K "is_place" s_is_place)
  (d6:Dn K "is_end" s_is_end)
  (d7:Dn K "is_span" s_is_span)
  (d8:Dn K "is_box" s_is_box)
  (d9:Dn K "has_form" s_has_form)
  (d10:Dn K "is_part" s_is_part)
  (d11:Dn K "has_parts" s_has_parts)
  (d12:Dn K "is_ask" s_is_ask)
  (d13:Dn K "parted" s_parted)
  (d14:Dn K "read_number" s_read_number)
  (d15:Dn K "read_end" s_read_end)
  (d16:Dn K "read_span" s_read_span)
  (d17:Dn K "read_spans" s_read_spans)
  (d18:Dn K "read_place" s_read_place)
  (d19:Dn K "read_ask" s_read_ask)
  (d20:Dn K "_law_cell_at" s__law_cell_at)
  (d21:Dn K "_law_left" s__law_left)
  (d22:Dn K "_law_pick" s__law_pick)
  (d23:Dn K "_law_pool" s__law_pool)
  (d24:Dn K "_law_number" s__law_number)
  (d25:Dn K "_law_end" s__law_end)
  (d26:Dn K "_law_box" s__law_box)
  (d27:Dn K "_law_box_text" s__law_box_text)
  (d28:Dn K "_law_ask_text" s__law_ask_text)
  (d29:Dn K "_law_ask" s__law_ask)
  (d30:Dn K "_law_read_number" s__law_read_number)
  (d31:Dn K "_law_read_end" s__law_read_end)
  (d32:Dn K "_law_read_box" s__law_read_box)
  (d33:Dn K "_law_read_place" s__law_read_place)
  (d34:Dn K "_law_read_count" s__law_read_count)
  (d35:Dn K "_law_read_ask" s__law_read_ask)
  (d36:Dn K "_law_long" s__law_long)
  (d37:Dn K "_law_changed" s__law_changed)
  (d38:Dn K "_law_same" s__law_same)
  (d39:Dn K "_law_told" s__law_told)
  (a40:PySem.W.nsIn K mainGlobals "law" = some (some (.ref f40))) (l40:K.lookup f40 = some ⟨oc40,od40,.func (PySem.W.fnOf "law" "law" (defArgs s_law) (defBody s_law) (defScope s_law) .none kV40 dc40 pm40 an40 cd40 ct40),sl40⟩) (c40:PySem.W.codeIn K cd40 "law" = true) (k40:PySem.W.keepIn K (.ref f40) = true)
  {C_BoxError:Addr} (cn0:PySem.W.nsIn K mainGlobals "BoxError" = some (some (.ref C_BoxError)))
  {C_NoThing:Addr} (cn1:PySem.W.nsIn K mainGlobals "NoThing" = some (some (.ref C_NoThing)))
  {C_Taken:Addr} (cn2:PySem.W.nsIn K mainGlobals "Taken" = some (some (.ref C_Taken)))
  {C_NoText:Addr} (cn3:PySem.W.nsIn K mainGlobals "NoText" = some (some (.ref C_NoText)))
  {C_NoLine:Addr} (cn4:PySem.W.nsIn K mainGlobals "NoLine" = some (some (.ref C_NoLine)))
  {C_NoNumber:Addr} (cn5:PySem.W.nsIn K mainGlobals "NoNumber" = some (some (.ref C_NoNumber)))
  (xh_ga:PySem.W.findIn K (.ref C_NoText) "__getattribute__" = some (some (.builtin "BaseException.__getattribute__")))
  (xh_gt:PySem.W.findIn K (.ref C_NoText) "__getattr__" = some none)
  (xh_cl:PySem.W.findIn K (.ref C_NoText) "__class__" = some (some (.builtin "object.__class__")))
  (xh_gs:PySem.W.specialIn K (.builtin "object.__class__") "__get__" = some (some (.builtin "getset_descriptor.__get__")))
  (xh_tk:PySem.W.takesIn K (.builtin "object.__class__") = some true)
  (xh_ob:PySem.W.mroIn K C_NoText (.type "object") = some true)
  (xh_be:PySem.W.mroIn K C_NoText (.type "BaseException") = some true)
  (xh_hd:PySem.W.hasDictIn K C_NoText = true)
  (xh_ei:PySem.W.excIn K C_NoText veMro "ValueError.__new__" = true)
  (xh_em:PySem.W.exmOne K (.ref C_NoText) (.ref C_BoxError) = some true)
  (xh_kn:PySem.W.kitOne K (.ref C_NoText) (.ref C_NoText) = some true)
  (xh_kv:PySem.W.kitOne K (.ref C_NoText) (.type "ValueError") = some true)
  (xh_kt:PySem.W.kitAny K (.ref C_NoText) ([V.ref C_NoLine,V.ref C_NoNumber,V.ref C_NoThing,V.ref C_Taken].map clsV) = some false)
  (zn0:PySem.W.nsIn K mainGlobals "ValueError" = some none)
  {et0:Tok} (yy0:PySem.W.nsIn K mainGlobals "MOST_NUMBERS" = some (some (.int 4 et0)))
  {gst0:Tok} (gsy0:PySem.W.nsIn K mainGlobals "FIGURES" = some (some (.str "0123456789" gst0)))
  {xe0:Addr} {xo0:Option Addr} {xn0:Nat} {xt0_0 xt0_1 xt0_2 xt0_3 xt0_4 xt0_5 xt0_6 xt0_7:Tok} {xs0:Array (Option Value)} (xy0:PySem.W.nsIn K mainGlobals "BOX_WORDS" = some (some (.ref xe0))) (xh0:K.lookup xe0 = some ⟨.type "tuple",xo0,.seq #[.str "count" xt0_0,.str "sum" xt0_1,.str "least" xt0_2,.str "most" xt0_3,.str "all" xt0_4,.str "first" xt0_5,.str "best" xt0_6,.str "near" xt0_7] xn0,xs0⟩)
  {ge rr0 rr1 rr2 rr3 rr4 rr5 rr6 rr7 rr8 rr9:Addr} {gep nn0 nn1 nn2 nn3 nn4 nn5 nn6 nn7 nn8 nn9:Nat} {tt0 tt1 tt2 tt3 tt4 tt5 tt6 tt7 tt8 tt9 uu0_0 uu1_0 uu2_0 uu3_0 uu4_0 uu5_0 uu5_1 uu6_0 uu6_1 uu7_0 uu7_1 uu7_2 uu8_0 uu8_1 uu9_0:Tok} {dd0 dd1 dd2 dd3 dd4 dd5 dd6 dd7 dd8 dd9:Option Addr} {ss0 ss1 ss2 ss3 ss4 ss5 ss6 ss7 ss8 ss9:Array (Option Value)}
  (gy:PySem.W.nsIn K mainGlobals "PARTS" = some (some (.ref ge))) (gs:(ge == sysModules) = false) {go:Obj} (gh:K.lookup ge = some go) (gw:go = { cls:=.type "dict",data:=.dict #[{ hash:=PyData.keyHash w.params "count",key:=.str "count" tt0,val:=.ref rr0 },{ hash:=PyData.keyHash w.params "sum",key:=.str "sum" tt1,val:=.ref rr1 },{ hash:=PyData.keyHash w.params "least",key:=.str "least" tt2,val:=.ref rr2 },{ hash:=PyData.keyHash w.params "most",key:=.str "most" tt3,val:=.ref rr3 },{ hash:=PyData.keyHash w.params "all",key:=.str "all" tt4,val:=.ref rr4 },{ hash:=PyData.keyHash w.params "first",key:=.str "first" tt5,val:=.ref rr5 },{ hash:=PyData.keyHash w.params "best",key:=.str "best" tt6,val:=.ref rr6 },{ hash:=PyData.keyHash w.params "near",key:=.str "near" tt7,val:=.ref rr7 },{ hash:=PyData.keyHash w.params "number",key:=.str "number" tt8,val:=.ref rr8 },{ hash:=PyData.keyHash w.params "worth",key:=.str "worth" tt9,val:=.ref rr9 }] gep })
  (gq0:K.lookup rr0 = some ⟨.type "tuple",dd0,.seq #[.str "box" uu0_0] nn0,ss0⟩)
  (gq1:K.lookup rr1 = some ⟨.type "tuple",dd1,.seq #[.str "box" uu1_0] nn1,ss1⟩)
  (gq2:K.lookup rr2 = some ⟨.type "tuple",dd2,.seq #[.str "box" uu2_0] nn2,ss2⟩)
  (gq3:K.lookup rr3 = some ⟨.type "tuple",dd3,.seq #[.str "box" uu3_0] nn3,ss3⟩)
  (gq4:K.lookup rr4 = some ⟨.type "tuple",dd4,.seq #[.str "box" uu4_0] nn4,ss4⟩)
  (gq5:K.lookup rr5 = some ⟨.type "tuple",dd5,.seq #[.str "box" uu5_0,.str "k" uu5_1] nn5,ss5⟩)
  (gq6:K.lookup rr6 = some ⟨.type "tuple",dd6,.seq #[.str "box" uu6_0,.str "k" uu6_1] nn6,ss6⟩)
  (gq7:K.lookup rr7 = some ⟨.type "tuple",dd7,.seq #[.str "box" uu7_0,.str "place" uu7_1,.str "k" uu7_2] nn7,ss7⟩)
  (gq8:K.lookup rr8 = some ⟨.type "tuple",dd8,.seq #[.str "name" uu8_0,.str "i" uu8_1] nn8,ss8⟩)
  (gq9:K.lookup rr9 = some ⟨.type "tuple",dd9,.seq #[.str "name" uu9_0] nn9,ss9⟩)
  (z0:PySem.W.nsIn K mainGlobals "len" = some none) (z1:PySem.W.nsIn K mainGlobals "abs" = some none) (z2:PySem.W.nsIn K mainGlobals "all" = some none) (z3:PySem.W.nsIn K mainGlobals "any" = some none) (z4:PySem.W.nsIn K mainGlobals "isinstance" = some none) (z5:PySem.W.nsIn K mainGlobals "int" = some none) (z6:PySem.W.nsIn K mainGlobals "bool" = some none) (z7:PySem.W.nsIn K mainGlobals "str" = some none) (z8:PySem.W.nsIn K mainGlobals "tuple" = some none) (z9:PySem.W.nsIn K mainGlobals "list" = some none) (z10:PySem.W.nsIn K mainGlobals "range" = some none) (z11:PySem.W.nsIn K mainGlobals "zip" = some none) (z12:PySem.W.nsIn K mainGlobals "enumerate" = some none) (z13:PySem.W.nsIn K mainGlobals "max" = some none) (z14:PySem.W.nsIn K mainGlobals "min" = some none) (z15:PySem.W.nsIn K mainGlobals "sorted" = some none) :
  ∃ fd:FuncData,(∀ (s:Shared) (v:Value),BindsTo s fd ⟨[v],[]⟩ [("_law_script",v)]) /\ ∀ base:Heap,K.In base -> base.Ns mainGlobals mg -> base.NoDigits -> FnOk l.prog w K mg base CX0 10 fa fd ["_law_script"] (spLawD K):=by
 have e:=hfa.symm.trans (PySem.W.mg_of X G a40)
 cases e
 have T:Blt mg:=⟨PySem.W.mg_none_of X G z0,PySem.W.mg_none_of X G z1,PySem.W.mg_none_of X G z2,PySem.W.mg_none_of X G z3,PySem.W.mg_none_of X G z4,PySem.W.mg_none_of X G z5,PySem.W.mg_none_of X G z6,PySem.W.mg_none_of X G z7,PySem.W.mg_none_of X G z8,PySem.W.mg_none_of X G z9,PySem.W.mg_none_of X G z10,PySem.W.mg_none_of X G z11,PySem.W.mg_none_of X G z12,PySem.W.mg_none_of X G z13,PySem.W.mg_none_of X G z14,PySem.W.mg_none_of X G z15⟩
 have CX_BoxError:=PySem.W.mg_of X G cn0
 have CX_NoThing:=PySem.W.mg_of X G cn1
 have CX_Taken:=PySem.W.mg_of X G cn2
 have CX_NoText:=PySem.W.mg_of X G cn3
 have CX_NoLine:=PySem.W.mg_of X G cn4
 have CX_NoNumber:=PySem.W.mg_of X G cn5
 have N_ValueError:=PySem.W.mg_none_of X G zn0
 have EC:ExcC K C_NoText:=⟨xh_ga,xh_gt,xh_cl,xh_gs,xh_tk,xh_ob,xh_be,xh_hd⟩
 have CN_NoText:ClsX K mg "NoText" C_NoText:=⟨CX_NoText,EC,xh_ei⟩
 have G_MOST_NUMBERS:GDat K mg "MOST_NUMBERS" (.int 4):=gdat_int (PySem.W.mg_of X G yy0)
 have G_FIGURES:=fig_tx ▸ gdat_str (K:=K) (PySem.W.mg_of X G gsy0)
 have G_BOX_WORDS:GDat K mg "BOX_WORDS" (.tup ([("count" : Str),("sum" : Str),("least" : Str),("most" : Str),("all" : Str),("first" : Str),("best" : Str),("near" : Str)].map D.str)):=gdat_tup (PySem.W.mg_of X G xy0) xh0 rfl rfl (le_size (by simp)) (xs:=[(.str "count" : V),(.str "sum" : V),(.str "least" : V),(.str "most" : V),(.str "all" : V),(.str "first" : V),(.str "best" : V),(.str "near" : V)]) (.cons ⟨xt0_0,rfl⟩ (.cons ⟨xt0_1,rfl⟩ (.cons ⟨xt0_2,rfl⟩ (.cons ⟨xt0_3,rfl⟩ (.cons ⟨xt0_4,rfl⟩ (.cons ⟨xt0_5,rfl⟩ (.cons ⟨xt0_6,rfl⟩ (.cons ⟨xt0_7,rfl⟩ (.nil))))))))) (fun _ _ _=>reps_strs _)
 have G_PARTS:=parts_mk (PySem.W.mg_of X G gy) gs (gw ▸ gh) gq0 gq1 gq2 gq3 gq4 gq5 gq6 gq7 gq8 gq9
 have U40:=fun_mk (st:=s_law) l40 c40 k40
 refine ⟨PySem.W.fnOf "law" "law" (defArgs s_law) (defBody s_law) (defScope s_law) .none kV40 dc40 pm40 an40 cd40 ct40,fun s v=>.of_eq rfl,fun base _ _ ND=>?_⟩
 have F_is_whole:Fn l.prog w K mg base "is_whole" 1 1 t_whole:=d0.fn X G (ps:=["thing"]) (fun _ _ _ _ _ _ us hl=>us_1 hl fun _=>rfl) fun _ _ U M N B=>ok_whole T U
 have F_is_from_zero:Fn l.prog w K mg base "is_from_zero" 2 1 t_fz:=d1.fn X G (ps:=["thing"]) (fun _ _ _ _ _ _ us hl=>us_1 hl fun _=>rfl) fun _ _ U M N B=>ok_fz U F_is_whole
 have F_is_below:Fn l.prog w K mg base "is_below" 3 2 t_none:=d2.fn X G (ps:=["thing", "limit"]) (fun _ _ _ _ _ _ us hl=>us_2 hl fun _ _=>rfl) fun _ _ U M N B=>FnOk.botK fun _ _ _ z=>z
 have F_is_d:Fn l.prog w K mg base "is_d" 2 1 t_is_d:=d3.fn X G (ps:=["thing"]) (fun _ _ _ _ _ _ us hl=>us_1 hl fun _=>rfl) fun _ _ U M N B=>ok_is_d G_MOST_NUMBERS U F_is_whole
 have F_is_tuple_of:Fn l.prog w K mg base "is_tuple_of" 1 2 t_tupof:=d4.fn X G (ps:=["thing", "length"]) (fun _ _ _ _ _ _ us hl=>us_2 hl fun _ _=>rfl) fun _ _ U M N B=>ok_tupof T U
 have F_is_place:Fn l.prog w K mg base "is_place" 3 2 t_is_place:=d5.fn X G (ps:=["thing", "d"]) (fun _ _ _ _ _ _ us hl=>us_2 hl fun _ _=>rfl) fun _ _ U M N B=>ok_is_place T U F_is_whole F_is_d F_is_tuple_of
 have F_is_end:Fn l.prog w K mg base "is_end" 2 1 t_is_end:=d6.fn X G (ps:=["thing"]) (fun _ _ _ _ _ _ us hl=>us_1 hl fun _=>rfl) fun _ _ U M N B=>ok_is_end T U F_is_whole F_is_tuple_of
 have F_is_span:Fn l.prog w K mg base "is_span" 3 1 t_is_span:=d7.fn X G (ps:=["thing"]) (fun _ _ _ _ _ _ us hl=>us_1 hl fun _=>rfl) fun _ _ U M N B=>ok_is_span U F_is_end F_is_tuple_of
 have F_is_box:Fn l.prog w K mg base "is_box" 4 2 t_is_box:=d8.fn X G (ps:=["thing", "d"]) (fun _ _ _ _ _ _ us hl=>us_2 hl fun _ _=>rfl) fun _ _ U M N B=>ok_is_box T U F_is_d F_is_tuple_of F_is_span
 have F_has_form:Fn l.prog w K mg base "has_form" 1 2 t_has_form:=d9.fn X G (ps:=["thing", "words"]) (fun _ _ _ _ _ _ us hl=>us_2 hl fun _ _=>rfl) fun _ _ U M N B=>ok_has_form T G_PARTS U
 have F_is_part:Fn l.prog w K mg base "is_part" 5 3 t_is_part:=d10.fn X G (ps:=["thing", "kind", "d"]) (fun _ _ _ _ _ _ us hl=>us_3 hl fun _ _ _=>rfl) fun _ _ U M N B=>ok_is_part T U F_is_box F_is_place F_is_from_zero F_is_below
 have F_has_parts:Fn l.prog w K mg base "has_parts" 6 2 t_has_parts:=d11.fn X G (ps:=["ask", "d"]) (fun _ _ _ _ _ _ us hl=>us_2 hl fun _ _=>rfl) fun _ _ U M N B=>ok_has_parts T G_PARTS U F_is_part
 have F_is_ask:Fn l.prog w K mg base "is_ask" 7 2 t_is_ask:=d12.fn X G (ps:=["thing", "d"]) (fun _ _ _ _ _ _ us hl=>us_2 hl fun _ _=>rfl) fun _ _ U M N B=>ok_is_ask G_BOX_WORDS U F_has_form F_has_parts
 have FX_parted:FnX l.prog w K mg base "parted" 1 2 C_NoText t_partedX:=d13.fnX X G (ps:=["text", "sign"]) (fun _ _ _ _ _ _ us hl=>us_2 hl fun _ _=>rfl) fun _ _ U=>ok_partedX T CN_NoText U
 have FX_read_number:FnX l.prog w K mg base "read_number" 1 1 C_NoText t_read_number:=d14.fnX X G (ps:=["text"]) (fun _ _ _ _ _ _ us hl=>us_1 hl fun _=>rfl) fun _ _ U=>ok_read_number T CN_NoText G_FIGURES U
 have FX_read_end:FnX l.prog w K mg base "read_end" 2 4 C_NoText t_read_end:=d15.fnX X G (ps:=["text", "bracket", "number", "brackets"]) (fun _ _ _ _ _ _ us hl=>us_4 hl fun _ _ _ _=>rfl) fun _ _ U=>ok_read_end CN_NoText U FX_read_number
 have FX_read_span:FnX l.prog w K mg base "read_span" 3 1 C_NoText t_read_span:=d16.fnX X G (ps:=["text"]) (fun _ _ _ _ _ _ us hl=>us_1 hl fun _=>rfl) fun _ _ U=>ok_read_span U FX_read_end
 have FX_read_spans:FnX l.prog w K mg base "read_spans" 5 2 C_NoText t_read_spans:=d17.fnX X G (ps:=["words", "d"]) (fun _ _ _ _ _ _ us hl=>us_2 hl fun _ _=>rfl) fun _ _ U=>ok_read_spans T CN_NoText U FX_read_span F_is_box
 have FX_read_place:FnX l.prog w K mg base "read_place" 2 1 C_NoText t_read_place:=d18.fnX X G (ps:=["text"]) (fun _ _ _ _ _ _ us hl=>us_1 hl fun _=>rfl) fun _ _ U=>ok_read_place T U FX_read_number
 have FX_read_ask:FnX l.prog w K mg base "read_ask" 8 2 C_NoText t_read_ask:=d19.fnX X G (ps:=["text", "d"]) (fun _ _ _ _ _ _ us hl=>us_2 hl fun _ _=>rfl) fun _ _ U=>ok_read_ask T CN_NoText G_BOX_WORDS G_PARTS U FX_parted FX_read_number FX_read_place FX_read_spans F_is_ask
 have F__law_cell_at:Fn l.prog w K mg base "_law_cell_at" 1 2 t_cell_at:=d20.fn X G (ps:=["_law_script", "_law_k"]) (fun _ _ _ _ _ _ us hl=>us_2 hl fun _ _=>rfl) fun _ _ U M N B=>ok_cell_at T U
 have F__law_left:Fn l.prog w K mg base "_law_left" 2 2 t_left:=d21.fn X G (ps:=["_law_script", "_law_k"]) (fun _ _ _ _ _ _ us hl=>us_2 hl fun _ _=>rfl) fun _ _ U M N B=>ok_left T ND U F__law_cell_at
 have F__law_pick:Fn l.prog w K mg base "_law_pick" 1 2 t_pick:=d22.fn X G (ps:=["_law_left_here", "_law_many"]) (fun _ _ _ _ _ _ us hl=>us_2 hl fun _ _=>rfl) fun _ _ U M N B=>ok_pick U
 have F__law_pool:Fn l.prog w K mg base "_law_pool" 2 1 t_pool:=d23.fn X G (ps:=["_law_left_here"]) (fun _ _ _ _ _ _ us hl=>us_1 hl fun _=>rfl) fun _ _ U M N B=>ok_pool T U F__law_pick
 have F__law_number:Fn l.prog w K mg base "_law_number" 2 2 t_number:=d24.fn X G (ps:=["_law_left_here", "_law_pool_here"]) (fun _ _ _ _ _ _ us hl=>us_2 hl fun _ _=>rfl) fun _ _ U M N B=>ok_number T U F__law_pick
 have F__law_end:Fn l.prog w K mg base "_law_end" 3 2 t_end:=d25.fn X G (ps:=["_law_left_here", "_law_pool_here"]) (fun _ _ _ _ _ _ us hl=>us_2 hl fun _ _=>rfl) fun _ _ U M N B=>ok_end T U F__law_pick F__law_number
 have F__law_box:Fn l.prog w K mg base "_law_box" 4 3 t_box:=d26.fn X G (ps:=["_law_left_here", "_law_d", "_law_pool_here"]) (fun _ _ _ _ _ _ us hl=>us_3 hl fun _ _ _=>rfl) fun _ _ U M N B=>ok_box T U F__law_pick F__law_end
 have F__law_box_text:Fn l.prog w K mg base "_law_box_text" 1 1 t_box_text:=d27.fn X G (ps:=["_law_box_here"]) (fun _ _ _ _ _ _ us hl=>us_1 hl fun _=>rfl) fun _ _ U M N B=>ok_box_text T U
 have F__law_ask_text:Fn l.prog w K mg base "_law_ask_text" 2 1 t_ask_text:=d28.fn X G (ps:=["_law_ask_here"]) (fun _ _ _ _ _ _ us hl=>us_1 hl fun _=>rfl) fun _ _ U M N B=>ok_ask_text T U F__law_box_text
 have F__law_ask:Fn l.prog w K mg base "_law_ask" 5 3 t_ask:=d29.fn X G (ps:=["_law_left_here", "_law_d", "_law_pool_here"]) (fun _ _ _ _ _ _ us hl=>us_3 hl fun _ _ _=>rfl) fun _ _ U M N B=>ok_ask T U F__law_pick F__law_number F__law_box
 have F__law_read_number:Fn l.prog w K mg base "_law_read_number" 1 1 t_lnum:=d30.fn X G (ps:=["_law_word"]) (fun _ _ _ _ _ _ us hl=>us_1 hl fun _=>rfl) fun _ _ U M N B=>ok_lnum T U
 have F__law_read_end:Fn l.prog w K mg base "_law_read_end" 2 2 t_lend:=d31.fn X G (ps:=["_law_word", "_law_low"]) (fun _ _ _ _ _ _ us hl=>us_2 hl fun _ _=>rfl) fun _ _ U M N B=>ok_lend U F__law_read_number
 have F__law_read_box:Fn l.prog w K mg base "_law_read_box" 3 2 t_lbox:=d32.fn X G (ps:=["_law_words", "_law_d"]) (fun _ _ _ _ _ _ us hl=>us_2 hl fun _ _=>rfl) fun _ _ U M N B=>ok_lbox T U F__law_read_end
 have F__law_read_place:Fn l.prog w K mg base "_law_read_place" 2 2 t_lplace:=d33.fn X G (ps:=["_law_word", "_law_d"]) (fun _ _ _ _ _ _ us hl=>us_2 hl fun _ _=>rfl) fun _ _ U M N B=>ok_lplace T U F__law_read_number
 have F__law_read_count:Fn l.prog w K mg base "_law_read_count" 2 1 t_lcount:=d34.fn X G (ps:=["_law_word"]) (fun _ _ _ _ _ _ us hl=>us_1 hl fun _=>rfl) fun _ _ U M N B=>ok_lcount U F__law_read_number
 have F__law_read_ask:Fn l.prog w K mg base "_law_read_ask" 4 2 t_lask:=d35.fn X G (ps:=["_law_text", "_law_d"]) (fun _ _ _ _ _ _ us hl=>us_2 hl fun _ _=>rfl) fun _ _ U M N B=>ok_lask T U F__law_read_box F__law_read_count F__law_read_place
 have F__law_long:Fn l.prog w K mg base "_law_long" 1 1 t_long:=d36.fn X G (ps:=["_law_text"]) (fun _ _ _ _ _ _ us hl=>us_1 hl fun _=>rfl) fun _ _ U M N B=>ok_long U
 have F__law_changed:Fn l.prog w K mg base "_law_changed" 2 2 t_changed:=d37.fn X G (ps:=["_law_left_here", "_law_text"]) (fun _ _ _ _ _ _ us hl=>us_2 hl fun _ _=>rfl) fun _ _ U M N B=>ok_changed T U F__law_pick
 have F__law_same:Fn l.prog w K mg base "_law_same" 5 2 (t_same 5):=d38.fn X G (ps:=["_law_found", "_law_due"]) (fun _ _ _ _ _ _ us hl=>us_2 hl fun _ _=>rfl) fun _ _ U M N B=>ok_same T U M N B 5
 have F__law_told:Fn l.prog w K mg base "_law_told" 9 1 t_told:=d39.fn X G (ps:=["_law_handed"]) (fun _ _ _ _ _ _ us hl=>us_1 hl fun _=>rfl) fun _ _ U M N B=>ok_told T U FX_read_ask EC CX_BoxError xh_em CX_NoText xh_kn N_ValueError xh_kv CX_NoLine CX_NoNumber CX_NoThing CX_Taken xh_kt
 exact ok_law T U40 F__law_left F__law_pick F__law_pool F__law_ask F__law_ask_text F__law_changed F__law_long F__law_read_ask F__law_same F__law_told
theorem walk {l:PySem.W.OpenLaw} {q:Program} {loose:List Str} {XP:(Str -> Option Value) -> Heap -> Prop} {YP:World -> Heap -> Prop} {d:DefRec} {K:Params -> PySem.W.Frag} (hn:l.most = some 63) (hdf:d.params.defaults = [])
  (hY:∀ (w:World) (h:Heap),YP w h -> (K w.params).In h)
  (F : ∀ (w : World) (mg : Str -> Option Value) (fa : Addr) (h : Heap), (K w.params).In h -> h.Ns mainGlobals mg -> mg d.name = some (.ref fa) ->
   ∃ fd:FuncData,(∀ (s:Shared) (u:Value),BindsTo s fd ⟨[u],[]⟩ [("_law_script",u)]) /\ ∀ base:Heap,(K w.params).In base -> base.Ns mainGlobals mg -> base.NoDigits -> FnOk l.prog w (K w.params) mg base CX0 10 fa fd ["_law_script"] (spLawD (K w.params))) :
  PySem.W.WalkO q loose XP YP l.row.toRowW d [] (fun f vs=>PySem.call f vs) :=
 L2.walk_ofN (n:=63) (k:=10) (x := "_law_script") (CX:=fun _=>CX0) (sp:=fun w=>spLawD (K w.params)) hn (by decide) hdf ⟨rfl,by decide,by decide,rfl⟩ hY F (fun _ _ a ns hl hO hS=>⟨a,ns,rfl,hO,hS,hl,fun _=>rfl⟩) fun _ _ _ _ _ z=>z
end K75
open PySem PySem.W PyProof.Rows
set_option maxRecDepth 100000 in
set_option maxHeartbeats 0 in
theorem PySem.Challenge.cw_boxlayers_k75_texts_of_no_ask_holds : PySem.Challenge.rw_boxlayers_k75_texts_of_no_ask.Holds := by
 w_on; o_law; refine holds_open (q:=K75H.view) (loose:=["PARTS"]) (N:=10000) (XP:=XL K75H.view []) (Xt:=fun s=>xlAt K75H.view [] s && recOk (RowW.records (OpenRow.toRowW (OpenLaw.row PySem.Challenge.rw_boxlayers_k75_texts_of_no_ask))) s) (Yf:=Hook.obs K75H.hook) (Ya:=Hook.val K75H.hook) (YP:=Hook.says K75H.hook) K75H.left (Hook.of K75H.hook) (Hook.keeps K75H.hook) (fun s e=>xl_of s (Bool.and_eq_true_iff.mp e).1) XL.keeps rfl rfl rfl (fun s e=>recFacts_of (Bool.and_eq_true_iff.mp e).2) rfl (by first | assumption | decide +kernel) (by decide +kernel) ⟨rfl,rfl,rfl,rfl,rfl,by decide +kernel⟩ ?_ ?_
 ·w_witness2
 k_fill
 refine K75.walk (l:=PySem.Challenge.rw_boxlayers_k75_texts_of_no_ask) rfl rfl (fun w h Y=>PySem.W.kIn_of Y) ?F
 case F =>
  intro w mg fa h KX G hmg
  refine' K75.all_mk KX G hmg ?d0 ?d1 ?d2 ?d3 ?d4 ?d5 ?d6 ?d7 ?d8 ?d9 ?d10 ?d11 ?d12 ?d13 ?d14 ?d15 ?d16 ?d17 ?d18 ?d19 ?d20 ?d21 ?d22 ?d23 ?d24 ?d25 ?d26 ?d27 ?d28 ?d29 ?d30 ?d31 ?d32 ?d33 ?d34 ?d35 ?d36 ?d37 ?d38 ?d39 ?a40 ?l40 ?c40 ?k40 ?cn0 ?cn1 ?cn2 ?cn3 ?cn4 ?cn5 ?xh_ga ?xh_gt ?xh_cl ?xh_gs ?xh_tk ?xh_ob ?xh_be ?xh_hd ?xh_ei ?xh_em ?xh_kn ?xh_kv ?xh_kt ?zn0 ?yy0 ?gsy0 ?xy0 ?xh0 ?gy ?gs ?gh ?gw ?gq0 ?gq1 ?gq2 ?gq3 ?gq4 ?gq5 ?gq6 ?gq7 ?gq8 ?gq9 ?z0 ?z1 ?z2 ?z3 ?z4 ?z5 ?z6 ?z7 ?z8 ?z9 ?z10 ?z11 ?z12 ?z13 ?z14 ?z15
  (case a40=>k_is)
  (case l40=>k_is)
  (case c40=>k_is)
  (case k40=>k_is)
  (case cn0=>k_is)
  (case cn1=>k_is)
  (case cn2=>k_is)
  (case cn3=>k_is)
  (case cn4=>k_is)
  (case cn5=>k_is)
  (case xh_ga=>(first | k_is | rfl | kernel_rfl))
  (case xh_gt=>(first | k_is | rfl | kernel_rfl))
  (case xh_cl=>(first | k_is | rfl | kernel_rfl))
  (case xh_gs=>(first | k_is | rfl | kernel_rfl))
  (case xh_tk=>(first | k_is | rfl | kernel_rfl))
  (case xh_ob=>(first | k_is | rfl | kernel_rfl))
  (case xh_be=>(first | k_is | rfl | kernel_rfl))
  (case xh_hd=>(first | k_is | rfl | kernel_rfl))
  (case xh_ei=>(first | k_is | rfl | kernel_rfl))
  (case xh_em=>(first | k_is | rfl | kernel_rfl))
  (case xh_kn=>(first | k_is | rfl | kernel_rfl))
  (case xh_kv=>(first | k_is | rfl | kernel_rfl))
  (case xh_kt=>(first | k_is | rfl | kernel_rfl))
  (case zn0=>k_is)
  (case yy0=>k_is)
  (case gsy0=>k_is)
  (case xy0=>k_is)
  (case xh0=>k_is)
  (case gy=>k_is)
  (case gh=>k_is)
  (case gw=>rfl)
  (case gs=>rfl)
  (case gq0=>k_is)
  (case gq1=>k_is)
  (case gq2=>k_is)
  (case gq3=>k_is)
  (case gq4=>k_is)
  (case gq5=>k_is)
  (case gq6=>k_is)
  (case gq7=>k_is)
  (case gq8=>k_is)
  (case gq9=>k_is)
  (case z0=>k_is)
  (case z1=>k_is)
  (case z2=>k_is)
  (case z3=>k_is)
  (case z4=>k_is)
  (case z5=>k_is)
  (case z6=>k_is)
  (case z7=>k_is)
  (case z8=>k_is)
  (case z9=>k_is)
  (case z10=>k_is)
  (case z11=>k_is)
  (case z12=>k_is)
  (case z13=>k_is)
  (case z14=>k_is)
  (case z15=>k_is)
  all_goals (apply K75.dn; k_is; k_is; k_is; k_is)
end
#print axioms PySem.Challenge.cw_boxlayers_k75_texts_of_no_ask_holds
