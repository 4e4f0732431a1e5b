import PyProof.Rows.All
import Wide.All
import OpenK.AllK
import Wide.FinOn
import Lean
import PyProof.EqAt
import PyProof.EqKinds
import PyProof.TupleCall
import PyProof.CompFree
import PyProof.ZipIter
import PyProof.Cells
import PyProof.Rows.CellsFrame
import PyProof.EnumMake
import PyProof.TupleIter
import PyProof.IsiPairs
import PyProof.IsiSeqPairs
import PyProof.IsiNone
import PyProof.ConsumeWalk
import PyProof.DictCompW
import PyProof.NeKinds
import PyProof.MinMaxWalk
import PyProof.Rows.SortRev
import KE.KIsAll
import KE.KDictOf
import PyProof.AttrMissHeap
import PyProof.CallFns
import KE.KDictSum
import PyProof.Draws
import PySem.Challenge.RW_boxlayers_k16_corners
set_option Elab.async false
set_option linter.all false
namespace K16H
section
open PySem PySem.W PyProof.Rows
def top (i : Nat) : Stmt := PySem.Challenge.pw_boxlayers_k16_corners.main.body.getD i (.Pass ⟨0, 0, 0, 0⟩)
noncomputable def view : Program := { PySem.Challenge.pw_boxlayers_k16_corners with main := { PySem.Challenge.pw_boxlayers_k16_corners.main with body := [top 0, top 2, top 3, top 4, top 5, top 7, top 8, top 9, top 10, top 11, top 12, top 13, top 14, top 15, top 16, top 17, top 18] } }
local macro_rules | `(tactic| o_head (kHook $k $a $e)) => `(tactic| (assumption; exact ($a, [])))
set_option maxRecDepth 100000 in
set_option maxHeartbeats 0 in
noncomputable def hk : List Addr × List Addr := by
  refine (fun (_ : (OpenLaw.row PySem.Challenge.rw_boxlayers_k16_corners).Holds → (OpenLaw.row PySem.Challenge.rw_boxlayers_k16_corners).Holds) => ?a) (fun h => ?b)
  rotate_left
  k_head
noncomputable abbrev hook : Hook := kHook hk.heap_1 hk.1 (fun _ => by kernel_rfl)
theorem four {u v a1 a2 a3 a4 a5 : Type} {o : Option u} {g : u → Option v} {A : v → a1} {B1 : v → a2} {B2 : v → a3} {C : v → a4} {E : v → a5} {a : a1} {b1 : a2} {b2 : a3} {c : a4} {e : a5} (h1 : o.map (fun x => (g x).map A) = some (some a)) (h2 : o.map (fun x => (g x).map fun s => (B1 s, B2 s)) = some (some (b1, b2))) (h3 : o.map (fun x => (g x).map C) = some (some c)) (h4 : o.map (fun x => (g x).map E) = some (some e)) : o.map (fun x => (g x).map fun s => ((A s, B1 s, B2 s, C s), E s)) = some (some ((a, b1, b2, c), e)) := by
  cases o with
  | none => cases h1
  | some x =>
    have k1 : (g x).map A = some a := Option.some.inj h1
    have k2 : ((g x).map fun s => (B1 s, B2 s)) = some (b1, b2) := Option.some.inj h2
    have k3 : (g x).map C = some c := Option.some.inj h3
    have k4 : (g x).map E = some e := Option.some.inj h4
    show some ((g x).map _) = _
    cases hg : g x with
    | none => rw [hg] at k1; cases k1
    | some s =>
      rw [hg] at k1 k2 k3 k4
      have m1 : A s = a := Option.some.inj k1
      have m2 : (B1 s, B2 s) = (b1, b2) := Option.some.inj k2
      have m3 : C s = c := Option.some.inj k3
      have m4 : E s = e := Option.some.inj k4
      have m5 : B1 s = b1 := (Prod.mk.inj m2).1
      have m6 : B2 s = b2 := (Prod.mk.inj m2).2
      subst m1 m3 m4 m5 m6
      rfl
set_option maxRecDepth 100000 in
set_option maxHeartbeats 0 in
theorem headFa (w : World) : (fencedOpening treeTable (OpenLaw.row PySem.Challenge.rw_boxlayers_k16_corners).prog w 10000).map (fun a => (topFrom treeTable (OpenLaw.row PySem.Challenge.rw_boxlayers_k16_corners).prog (w.withFollow "special-get-raises" false) 10000 a).map (fun s => (openSeen view [] (importedModules (OpenLaw.row PySem.Challenge.rw_boxlayers_k16_corners).prog.main.body) (fun s => xlAt view [] s && recOk (RowW.records (OpenRow.toRowW (OpenLaw.row PySem.Challenge.rw_boxlayers_k16_corners))) s) true s).1)) = some (some ((openGood view []).1)) := by kernel_rfl
set_option maxRecDepth 100000 in
set_option maxHeartbeats 0 in
theorem headFb (w : World) : (fencedOpening treeTable (OpenLaw.row PySem.Challenge.rw_boxlayers_k16_corners).prog w 10000).map (fun a => (topFrom treeTable (OpenLaw.row PySem.Challenge.rw_boxlayers_k16_corners).prog (w.withFollow "special-get-raises" false) 10000 a).map (fun s => ((openSeen view [] (importedModules (OpenLaw.row PySem.Challenge.rw_boxlayers_k16_corners).prog.main.body) (fun s => xlAt view [] s && recOk (RowW.records (OpenRow.toRowW (OpenLaw.row PySem.Challenge.rw_boxlayers_k16_corners))) s) true s).2.1, (openSeen view [] (importedModules (OpenLaw.row PySem.Challenge.rw_boxlayers_k16_corners).prog.main.body) (fun s => xlAt view [] s && recOk (RowW.records (OpenRow.toRowW (OpenLaw.row PySem.Challenge.rw_boxlayers_k16_corners))) s) true s).2.2.1))) = some (some (((openGood view []).2.1, (openGood view []).2.2.1))) := by kernel_rfl
set_option maxRecDepth 100000 in
set_option maxHeartbeats 0 in
theorem headFc (w : World) : (fencedOpening treeTable (OpenLaw.row PySem.Challenge.rw_boxlayers_k16_corners).prog w 10000).map (fun a => (topFrom treeTable (OpenLaw.row PySem.Challenge.rw_boxlayers_k16_corners).prog (w.withFollow "special-get-raises" false) 10000 a).map (fun s => (openSeen view [] (importedModules (OpenLaw.row PySem.Challenge.rw_boxlayers_k16_corners).prog.main.body) (fun s => xlAt view [] s && recOk (RowW.records (OpenRow.toRowW (OpenLaw.row PySem.Challenge.rw_boxlayers_k16_corners))) s) true s).2.2.2)) = some (some ((openGood view []).2.2.2)) := by kernel_rfl
set_option maxRecDepth 100000 in
set_option maxHeartbeats 0 in
theorem headFd (w : World) : (fencedOpening treeTable (OpenLaw.row PySem.Challenge.rw_boxlayers_k16_corners).prog w 10000).map (fun a => (topFrom treeTable (OpenLaw.row PySem.Challenge.rw_boxlayers_k16_corners).prog (w.withFollow "special-get-raises" false) 10000 a).map (fun s => Hook.obs hook s)) = some (some (Hook.val hook (w.withFollow "special-get-raises" false))) := by kernel_rfl
theorem headF (w : World) : (fencedOpening treeTable (OpenLaw.row PySem.Challenge.rw_boxlayers_k16_corners).prog w 10000).map (fun a => (topFrom treeTable (OpenLaw.row PySem.Challenge.rw_boxlayers_k16_corners).prog (w.withFollow "special-get-raises" false) 10000 a).map (fun s => ((openSeen view [] (importedModules (OpenLaw.row PySem.Challenge.rw_boxlayers_k16_corners).prog.main.body) (fun s => xlAt view [] s && recOk (RowW.records (OpenRow.toRowW (OpenLaw.row PySem.Challenge.rw_boxlayers_k16_corners))) s) true s), Hook.obs hook s))) = some (some ((openGood view []), Hook.val hook (w.withFollow "special-get-raises" false))) := four (headFa w) (headFb w) (headFc w) (headFd w)
set_option maxRecDepth 100000 in
set_option maxHeartbeats 0 in
theorem headTa (w : World) : (fencedOpening treeTable (OpenLaw.row PySem.Challenge.rw_boxlayers_k16_corners).prog w 10000).map (fun a => (topFrom treeTable (OpenLaw.row PySem.Challenge.rw_boxlayers_k16_corners).prog (w.withFollow "special-get-raises" true) 10000 a).map (fun s => (openSeen view [] (importedModules (OpenLaw.row PySem.Challenge.rw_boxlayers_k16_corners).prog.main.body) (fun s => xlAt view [] s && recOk (RowW.records (OpenRow.toRowW (OpenLaw.row PySem.Challenge.rw_boxlayers_k16_corners))) s) true s).1)) = some (some ((openGood view []).1)) := by kernel_rfl
set_option maxRecDepth 100000 in
set_option maxHeartbeats 0 in
theorem headTb (w : World) : (fencedOpening treeTable (OpenLaw.row PySem.Challenge.rw_boxlayers_k16_corners).prog w 10000).map (fun a => (topFrom treeTable (OpenLaw.row PySem.Challenge.rw_boxlayers_k16_corners).prog (w.withFollow "special-get-raises" true) 10000 a).map (fun s => ((openSeen view [] (importedModules (OpenLaw.row PySem.Challenge.rw_boxlayers_k16_corners).prog.main.body) (fun s => xlAt view [] s && recOk (RowW.records (OpenRow.toRowW (OpenLaw.row PySem.Challenge.rw_boxlayers_k16_corners))) s) true s).2.1, (openSeen view [] (importedModules (OpenLaw.row PySem.Challenge.rw_boxlayers_k16_corners).prog.main.body) (fun s => xlAt view [] s && recOk (RowW.records (OpenRow.toRowW (OpenLaw.row PySem.Challenge.rw_boxlayers_k16_corners))) s) true s).2.2.1))) = some (some (((openGood view []).2.1, (openGood view []).2.2.1))) := by kernel_rfl
set_option maxRecDepth 100000 in
set_option maxHeartbeats 0 in
theorem headTc (w : World) : (fencedOpening treeTable (OpenLaw.row PySem.Challenge.rw_boxlayers_k16_corners).prog w 10000).map (fun a => (topFrom treeTable (OpenLaw.row PySem.Challenge.rw_boxlayers_k16_corners).prog (w.withFollow "special-get-raises" true) 10000 a).map (fun s => (openSeen view [] (importedModules (OpenLaw.row PySem.Challenge.rw_boxlayers_k16_corners).prog.main.body) (fun s => xlAt view [] s && recOk (RowW.records (OpenRow.toRowW (OpenLaw.row PySem.Challenge.rw_boxlayers_k16_corners))) s) true s).2.2.2)) = some (some ((openGood view []).2.2.2)) := by kernel_rfl
set_option maxRecDepth 100000 in
set_option maxHeartbeats 0 in
theorem headTd (w : World) : (fencedOpening treeTable (OpenLaw.row PySem.Challenge.rw_boxlayers_k16_corners).prog w 10000).map (fun a => (topFrom treeTable (OpenLaw.row PySem.Challenge.rw_boxlayers_k16_corners).prog (w.withFollow "special-get-raises" true) 10000 a).map (fun s => Hook.obs hook s)) = some (some (Hook.val hook (w.withFollow "special-get-raises" true))) := by kernel_rfl
theorem headT (w : World) : (fencedOpening treeTable (OpenLaw.row PySem.Challenge.rw_boxlayers_k16_corners).prog w 10000).map (fun a => (topFrom treeTable (OpenLaw.row PySem.Challenge.rw_boxlayers_k16_corners).prog (w.withFollow "special-get-raises" true) 10000 a).map (fun s => ((openSeen view [] (importedModules (OpenLaw.row PySem.Challenge.rw_boxlayers_k16_corners).prog.main.body) (fun s => xlAt view [] s && recOk (RowW.records (OpenRow.toRowW (OpenLaw.row PySem.Challenge.rw_boxlayers_k16_corners))) s) true s), Hook.obs hook s))) = some (some ((openGood view []), Hook.val hook (w.withFollow "special-get-raises" true))) := four (headTa w) (headTb w) (headTc w) (headTd w)
theorem two_map {u v : Type} {o : Option u} {A B : u → v} {a b : v} (h1 : o.map A = some a) (h2 : o.map B = some b) : o.map (fun s => (A s, B s)) = some (a, b) := by
  cases o with
  | none => cases h1
  | some s => exact congrArg some (congr (congrArg Prod.mk (Option.some.inj h1)) (Option.some.inj h2))
theorem left : LeftO (OpenLaw.row PySem.Challenge.rw_boxlayers_k16_corners).prog view [] (fun s => xlAt view [] s && recOk (RowW.records (OpenRow.toRowW (OpenLaw.row PySem.Challenge.rw_boxlayers_k16_corners))) s) (Hook.obs hook) (Hook.val hook) 10000 := LeftO.of_split "special-get-raises" fun w => @two_map _ _ _ _ _ _ _ (headF w) (headT w)
end
end K16H
noncomputable section
set_option Elab.async false
set_option linter.all false
set_option maxRecDepth 100000
namespace L2
open PySem PySem.Spec PyProof.Rows
abbrev Key := Sum Int Str
def keyIs : Key → Value → Bool
  | .inl k, v => Value.isInt k v
  | .inr x, v => Value.isStrOf x v
def keyH (w : World) : Key → Int
  | .inl k => hashInt k
  | .inr x => hashStr w x
theorem keyIs_shape : ∀ {k : Key} {v : Value}, keyIs k v = true → (∃ i t, k = Sum.inl i ∧ v = Value.int i t) ∨ (∃ x t, k = Sum.inr x ∧ v = Value.str x t)
  | .inl i, v, h => by
    obtain ⟨t, e⟩ := Value.isInt_shape (k := i) (v := v) h
    exact .inl ⟨i, t, rfl, e⟩
  | .inr x, v, h => by
    obtain ⟨t, e⟩ := Value.isStrOf_shape (x := x) (v := v) h
    exact .inr ⟨x, t, rfl, e⟩
theorem keyIs_int (i : Int) (t : Tok) : keyIs (.inl i) (.int i t) = true := by simp [keyIs, Value.isInt]
theorem keyIs_str (x : Str) (t : Tok) : keyIs (.inr x) (.str x t) = true := by simp [keyIs, Value.isStrOf]
theorem key_ll (a b : Int) : decide ((Sum.inl a : Key) = Sum.inl b) = (a == b) := by
  by_cases e : a = b
  · subst e; simp
  · have h : ¬ (Sum.inl a : Key) = Sum.inl b := fun q => e (Sum.inl.inj q)
    rw [decide_eq_false h]
    exact (beq_eq_false_iff_ne.mpr e).symm
theorem key_rr (a b : Str) : decide ((Sum.inr a : Key) = Sum.inr b) = decide (a = b) := by
  by_cases e : a = b
  · subst e; simp
  · have h : ¬ (Sum.inr a : Key) = Sum.inr b := fun q => e (Sum.inr.inj q)
    rw [decide_eq_false h, decide_eq_false e]
theorem key_lr (a : Int) (b : Str) : decide ((Sum.inl a : Key) = Sum.inr b) = false := decide_eq_false (fun q => nomatch q)
theorem key_rl (a : Str) (b : Int) : decide ((Sum.inr a : Key) = Sum.inl b) = false := decide_eq_false (fun q => nomatch q)
def mixKind (prog : Program) (w : World) : PySem.KeyKind prog w Key where
  is := keyIs
  hash := keyH w
  inj := fun v a b ha hb => by
    rcases keyIs_shape ha with ⟨i, t, rfl, rfl⟩ | ⟨x, t, rfl, rfl⟩
    · rcases keyIs_shape hb with ⟨j, u, rfl, e⟩ | ⟨y, u, rfl, e⟩
      · injection e with e1 _; rw [e1]
      · exact nomatch e
    · rcases keyIs_shape hb with ⟨j, u, rfl, e⟩ | ⟨y, u, rfl, e⟩
      · exact nomatch e
      · injection e with e1 _; rw [e1]
  byValue := fun k v h => by
    rcases keyIs_shape h with ⟨i, t, rfl, rfl⟩ | ⟨x, t, rfl, rfl⟩ <;> rfl
  pyHash := fun hv h => by
    rcases keyIs_shape hv with ⟨i, t, rfl, rfl⟩ | ⟨x, t, rfl, rfl⟩
    · exact wpAny_pyHash_int h
    · exact wpAny_pyHash_str h
  eqBool := fun hu hv h => by
    rcases keyIs_shape hu with ⟨i, t, rfl, rfl⟩ | ⟨x, t, rfl, rfl⟩
    · rcases keyIs_shape hv with ⟨j, u, rfl, rfl⟩ | ⟨y, u, rfl, rfl⟩
      · rw [key_ll] at h; exact wpAny_eqBool_int h
      · rw [key_lr] at h; exact SeqAt.EqAt.int_str i t y u _ _ _ _ h
    · rcases keyIs_shape hv with ⟨j, u, rfl, rfl⟩ | ⟨y, u, rfl, rfl⟩
      · rw [key_rl] at h; exact SeqAt.EqAt.str_int x t j u _ _ _ _ h
      · rw [key_rr] at h; exact wpAny_eqBool_str h
  «strs» := fun k x t v h => by
    rcases keyIs_shape h with ⟨i, u, rfl, e⟩ | ⟨y, u, rfl, e⟩
    · exact nomatch e
    · injection e with e1 _
      subst e1
      cases v <;> rfl
theorem mixKind_int (prog : Program) (w : World) (i : Int) (t : Tok) : (mixKind prog w).is (.inl i) (.int i t) = true := keyIs_int i t
theorem mixKind_str (prog : Program) (w : World) (x : Str) (t : Tok) : (mixKind prog w).is (.inr x) (.str x t) = true := keyIs_str x t
end L2
namespace L2
open PySem PySem.Spec PyProof.Rows
inductive V where
  | non | bl (b : Bool) | int (i : Int) | str (x : Str) | byt (b : Array UInt8) | flt (b : UInt64) | ref (a : Addr) | ty (n : String)
  deriving DecidableEq
def RelV : V → Value → Prop
  | .non, u => u = Value.none
  | .bl b, u => u = Value.bool b
  | .int i, u => ∃ t, u = Value.int i t
  | .str x, u => ∃ t, u = Value.str x t
  | .byt b, u => ∃ t, u = Value.bytes b t
  | .flt b, u => ∃ t, u = Value.float b t
  | .ref a, u => u = Value.ref a
  | .ty n, u => u = Value.type n
abbrev Vals : List V → List Value → Prop := Paired RelV
theorem Vals.length {xs : List V} {us : List Value} (r : Vals xs us) : xs.length = us.length := Paired.length r
theorem Vals.get : ∀ {xs : List V} {us : List Value} {i : Nat} {x : V}, Vals xs us → xs[i]? = some x → ∃ u, us[i]? = some u ∧ RelV x u
  | _, _, _, _, .nil, e => by simp at e
  | _, _, 0, _, .cons r _, e => by simp at e; subst e; exact ⟨_, rfl, r⟩
  | _, _, i + 1, x, .cons _ t, e => by
    obtain ⟨u, h1, h2⟩ := Vals.get (i := i) (x := x) t (by simpa using e)
    exact ⟨u, by simpa using h1, h2⟩
theorem Vals.set {x : V} {u : Value} (r : RelV x u) : ∀ {xs : List V} {us : List Value} (i : Nat), Vals xs us → Vals (xs.set i x) (us.set i u)
  | _, _, _, .nil => .nil
  | _, _, 0, .cons _ t => .cons r t
  | _, _, i + 1, .cons q t => .cons q (Vals.set r i t)
theorem Vals.append : ∀ {xs ys : List V} {us ws : List Value}, Vals xs us → Vals ys ws → Vals (xs ++ ys) (us ++ ws)
  | _, _, _, _, .nil, s => s
  | _, _, _, _, .cons r t, s => .cons r (Vals.append t s)
theorem Vals.take : ∀ {xs : List V} {us : List Value} (n : Nat), Vals xs us → Vals (xs.take n) (us.take n)
  | _, _, 0, _ => .nil
  | _, _, _ + 1, .nil => .nil
  | _, _, n + 1, .cons r t => .cons r (Vals.take n t)
theorem Vals.drop : ∀ {xs : List V} {us : List Value} (n : Nat), Vals xs us → Vals (xs.drop n) (us.drop n)
  | _, _, 0, r => r
  | _, _, _ + 1, .nil => .nil
  | _, _, n + 1, .cons _ t => Vals.drop n t
def RelO : Option V → Option Value → Prop
  | some v, some u => RelV v u
  | none, none => True
  | _, _ => False
def KV {κ : Type} : List (κ × V) → List (κ × Value) → Prop := Paired fun (p : κ × V) (q : κ × Value) => p.1 = q.1 ∧ RelV p.2 q.2
def kV : Key → V
  | .inl i => .int i
  | .inr x => .str x
inductive HO where
  /-- a list -/
  | lst (xs : List V)
  /-- a tuple (never changes) -/
  | tup (xs : List V)
  /-- a dict whose keys are ints and texts; one whose keys are tuples of ints and texts (the empty one is both) -/
  | dK (kvs : List (Key × V)) | dT (kvs : List (List Key × V))
  /-- a set of ints: its members, its size -/
  | set (S : Int → Bool) (n : Nat)
  /-- an instance of the class at C, its dict at dx, its attributes -/
  | ins (C dx : Addr) (fs : List (Str × V))
  /-- the dict of the instance at x -/
  | own (x : Addr)
  /-- the dict of an exception -/
  | xd (fs : List (Str × V))
  /-- a bound method, f of x -/
  | met (f x : Addr)
  /-- a range object lo, lo + 1, .. below hi -/
  | rng (lo hi : Int)
  /-- a thing that is known to the object (the script; a dict while a loop walks it): read, never written while it is so -/
  | frz (o : Obj) (u : HO)
  /-- a code object's table -/
  | tbl (ps : Array Value)
  /-- a memo: keys and values are tuples of numbers (tracked, or constant by C), F holds of each key and its value; the keys in hits are there -/
  | mem (C : Addr → List Int → Prop) (F : List Int → List Int → Prop) (hits : List (List Int))
  /-- any other thing, by what is true of its one object (a def of one's own: SetO a S n := HO.ext fun h => ..) -/
  | ext (φ : Heap → Prop)
abbrev Hp := Addr → Option HO
def upd (H : Hp) (a : Addr) (o : HO) : Hp := fun b => if b = a then some o else H b
theorem upd_same {H : Hp} {a : Addr} {o : HO} : upd H a o a = some o := by unfold upd; rw [if_pos rfl]
theorem upd_ne {H : Hp} {a b : Addr} {o : HO} (h : b ≠ a) : upd H a o b = H b := by unfold upd; rw [if_neg h]
theorem upd_upd {H : Hp} {a : Addr} {o u : HO} : upd (upd H a o) a u = upd H a u := by
  funext b; unfold upd; split <;> rfl
theorem ne_of_none {H : Hp} {a b : Addr} {o : HO} (h : H a = some o) (h' : H b = none) : a ≠ b := by
  intro e; subst e; rw [h] at h'; cases h'
structure MemAt (P : Program) (w : World) (h : Heap) (a : Addr) (xs : List (List Int × Addr × Addr)) : Prop where
  sys : (a == sysModules) = false
  len : xs.length ≤ sizeLine
  nd : (xs.map (·.1)).Nodup
  obj : ∃ o es ep, h.get? a = some o ∧ o.ExactDict ∧ o.data = .dict es ep ∧ es.toList = xs.map (fun x => entryOfKey (tupleKind (mixKind P w)) (x.1.map Sum.inl, x.2.1, Value.ref x.2.2))
theorem MemAt.at {P : Program} {w : World} {h h' : Heap} {a : Addr} {xs : List (List Int × Addr × Addr)} (m : MemAt P w h a xs) (k : ∀ o, h.get? a = some o → h'.get? a = some o) : MemAt P w h' a xs :=
  ⟨m.sys, m.len, m.nd, let ⟨o, es, ep, e, c⟩ := m.obj; ⟨o, es, ep, k o e, c⟩⟩
def MemT (H : Hp) (C : Addr → List Int → Prop) (b : Addr) (ys : List Int) : Prop := (H b = some (.tup (ys.map V.int)) ∨ ∃ o, H b = some (.frz o (.tup (ys.map V.int)))) ∨ C b ys
def TupP (h : Heap) (a : Addr) (its : Array Value) : Prop := ∃ o, h.get? a = some o ∧ o.cls = .type "tuple" ∧ (∃ n, o.data = .seq its n) ∧ o.dict = none
theorem TupP.tup {h : Heap} {a : Addr} {its : Array Value} (x : TupP h a its) : IsTup h a its := let ⟨o, e, c, d, _⟩ := x; ⟨o, e, c, d⟩
theorem TupP.new (h : Heap) (its : Array Value) : TupP (h.push { cls := .type "tuple", data := .seq its }) h.objs.size its := ⟨_, Heap.get?_push_size _ rfl, rfl, ⟨_, rfl⟩, rfl⟩
section
variable (P : Program) (w : World)
def ObjOk (H : Hp) (h : Heap) (a : Addr) : HO → Prop
  | .lst xs => xs.length ≤ sizeLine ∧ ∃ (its : List Value) (n : Nat), Vals xs its ∧ h.get? a = some { cls := .type "list", data := .seq its.toArray n }
  | .tup xs => xs.length ≤ sizeLine ∧ ∃ its : List Value, Vals xs its ∧ TupP h a its.toArray
  | .dK kvs => kvs.length ≤ sizeLine ∧ (a == sysModules) = false ∧ ∃ vs, KV kvs vs ∧ h.DictOf (mixKind P w) a vs
  | .dT kvs => kvs.length ≤ sizeLine ∧ (a == sysModules) = false ∧ ∃ xs : List (List Key × Addr × Value),
      Paired (fun (p : List Key × V) (q : List Key × Addr × Value) => p.1 = q.1 ∧ H q.2.1 = some (.tup (p.1.map kV)) ∧ RelV p.2 q.2.2) kvs xs ∧
      ∃ o es ep, h.get? a = some o ∧ o.ExactDict ∧ o.data = .dict es ep ∧ es.toList = xs.map (entryOfKey (tupleKind (mixKind P w))) ∧ (xs.map (·.1)).Nodup
  | .set S n => h.SetOf (intKind P w) a S n
  | .ins C dx fs => H dx = some (.own a) ∧ fs.length ≤ 1000 ∧ dx ≠ a ∧ h.get? a = some (PySem.W.instObj C dx) ∧
      ∃ mA, h.Ns1 dx mA ∧ (∀ f, RelO (fs.lookup f) (mA f)) ∧ PySem.Within mA (fs.map (·.1))
  | .own _ => ∃ o, h.get? a = some o
  | .xd fs => ∃ mA, h.Ns1 a mA ∧ ∀ f, RelO (fs.lookup f) (mA f)
  | .rng lo hi => ∃ t u v, h.get? a = some { cls := .type "range", data := .fields #[.int lo t, .int hi u, .int 1 v] }
  | .frz o u => h.get? a = some o ∧ ObjOk H h a u
  | .tbl ps => h.get? a = some { cls := .none, data := .fields ps }
  | .mem C F hits => ∃ xs : List (List Int × Addr × Addr), MemAt P w h a xs ∧ (∀ x ∈ xs, MemT H C x.2.1 x.1 ∧ ∃ ys, MemT H C x.2.2 ys ∧ F x.1 ys) ∧ ∀ k ∈ hits, k ∈ xs.map (·.1)
  | .met f x => h.get? a = some (PySem.W.methodObj (.ref f) (.ref x))
  | .ext φ => φ h ∧ (∃ o, h.get? a = some o) ∧ ∀ h1 h2 : Heap, φ h1 → (∀ o, h1.get? a = some o → h2.get? a = some o) → φ h2
def HOk (H : Hp) (h : Heap) : Prop := ∀ a o, H a = some o → ObjOk P w H h a o
end
section
variable {P : Program} {w : World} {H H' : Hp} {h h' : Heap} {a : Addr} {o : HO}
theorem ObjOk.lt (x : ObjOk P w H h a o) : a < h.objs.size := by
  cases o with
  | lst xs => obtain ⟨_, _, _, _, e⟩ := x; exact Heap.lt_size e
  | tup xs => obtain ⟨_, _, _, p⟩ := x; exact p.tup.lt
  | dK kvs => obtain ⟨_, _, _, _, o, _, _, e, _⟩ := x; exact Heap.lt_size e
  | dT kvs => obtain ⟨_, _, _, _, o, _, _, e, _⟩ := x; exact Heap.lt_size e
  | set S n => obtain ⟨o, _, _, _, e, _⟩ := x; exact Heap.lt_size e
  | ins C dx fs => obtain ⟨_, _, _, e, _⟩ := x; exact Heap.lt_size e
  | own y => obtain ⟨_, e⟩ := x; exact Heap.lt_size e
  | xd fs => obtain ⟨_, ⟨_, _, _, e, _⟩, _⟩ := x; exact Heap.lt_size e
  | rng lo hi => obtain ⟨_, _, _, e⟩ := x; exact Heap.lt_size e
  | frz ob u => obtain ⟨e, _⟩ := x; exact Heap.lt_size e
  | tbl ps => exact Heap.lt_size (show h.get? a = some _ from x)
  | mem C F hits => obtain ⟨_, m, _⟩ := x; obtain ⟨_, _, _, e, _⟩ := m.obj; exact Heap.lt_size e
  | met f y => exact Heap.lt_size (show h.get? a = some _ from x)
  | ext φ => obtain ⟨_, ⟨_, e⟩, _⟩ := x; exact Heap.lt_size e
theorem Paired.mapP {α β : Type} {F G : α → β → Prop} : ∀ {l₁ : List α} {l₂ : List β}, Paired F l₁ l₂ → (∀ a b, F a b → G a b) → Paired G l₁ l₂
  | _, _, .nil, _ => .nil
  | _, _, .cons r t, f => .cons (f _ _ r) (Paired.mapP t f)
theorem ObjOk.stay (x : ObjOk P w H h a o) (k : ∀ b u, (b = a ∨ H b = some (.own a)) → h.get? b = some u → h'.get? b = some u)
    (ho : ∀ b, H b = some (.own a) → H' b = some (.own a)) (ht : ∀ b xs, H b = some (.tup xs) → H' b = some (.tup xs)) (hz : ∀ b o u, H b = some (.frz o u) → H' b = some (.frz o u)) : ObjOk P w H' h' a o := by
  induction o with
  | lst xs => obtain ⟨z, its, n, r, e⟩ := x; exact ⟨z, its, n, r, k _ _ (.inl rfl) e⟩
  | tup xs => obtain ⟨z, its, r, ob, e, c⟩ := x; exact ⟨z, its, r, ob, k _ _ (.inl rfl) e, c⟩
  | dK kvs => obtain ⟨z, y, vs, r, ob, es, ep, e, c⟩ := x; exact ⟨z, y, vs, r, ob, es, ep, k _ _ (.inl rfl) e, c⟩
  | dT kvs =>
    obtain ⟨z, y, xs, r, ob, es, ep, e, c⟩ := x
    exact ⟨z, y, xs, Paired.mapP r fun p q z => ⟨z.1, ht _ _ z.2.1, z.2.2⟩, ob, es, ep, k _ _ (.inl rfl) e, c⟩
  | set S n => obtain ⟨ob, es, ep, t, e, c⟩ := x; exact ⟨ob, es, ep, t, k _ _ (.inl rfl) e, c⟩
  | ins C dx fs =>
    obtain ⟨d, z, ne, e, mA, ⟨od, es, ep, e2, c⟩, r⟩ := x
    exact ⟨ho _ d, z, ne, k _ _ (.inl rfl) e, mA, ⟨od, es, ep, k _ _ (.inr d) e2, c⟩, r⟩
  | own y => obtain ⟨ob, e⟩ := x; exact ⟨ob, k _ _ (.inl rfl) e⟩
  | xd fs => obtain ⟨mA, ⟨od, es, ep, e, c⟩, r⟩ := x; exact ⟨mA, ⟨od, es, ep, k _ _ (.inl rfl) e, c⟩, r⟩
  | rng lo hi => obtain ⟨t, u, v, e⟩ := x; exact ⟨t, u, v, k _ _ (.inl rfl) e⟩
  | frz ob u ih => obtain ⟨e, q⟩ := x; exact ⟨k _ _ (.inl rfl) e, ih q⟩
  | mem C F hits => obtain ⟨xs, m, r, q⟩ := x; exact ⟨xs, m.at fun o e => k a o (.inl rfl) e, fun y hy => ⟨(r y hy).1.imp (Or.imp (ht _ _) fun ⟨o, e⟩ => ⟨o, hz _ _ _ e⟩) id, let ⟨ys, z, f⟩ := (r y hy).2; ⟨ys, z.imp (Or.imp (ht _ _) fun ⟨o, e⟩ => ⟨o, hz _ _ _ e⟩) id, f⟩⟩, q⟩
  | tbl ps =>
    have e : h.get? a = some { cls := .none, data := .fields ps } := x
    show h'.get? a = some { cls := .none, data := .fields ps }
    exact k a _ (.inl rfl) e
  | met f y =>
    have e : h.get? a = some (PySem.W.methodObj (.ref f) (.ref y)) := x
    show h'.get? a = some (PySem.W.methodObj (.ref f) (.ref y))
    exact k a _ (.inl rfl) e
  | ext φ => obtain ⟨p, ⟨o, e⟩, st⟩ := x; exact ⟨st _ _ p fun o q => k _ _ (.inl rfl) q, ⟨o, k _ _ (.inl rfl) e⟩, st⟩
theorem HOk.lt (x : HOk P w H h) (e : H a = some o) : a < h.objs.size := (x a o e).lt
theorem HOk.fresh (x : HOk P w H h) (e : h.objs.size ≤ a) : H a = none := by
  cases q : H a with
  | none => rfl
  | some u => exact absurd (Nat.lt_of_lt_of_le (x.lt q) e) (Nat.lt_irrefl _)
theorem HOk.kept (x : HOk P w H h) (k : ∀ b u, h.get? b = some u → h'.get? b = some u) : HOk P w H h' := fun a o e =>
  (x a o e).stay (fun b u _ q => k b u q) (fun _ q => q) (fun _ _ q => q) fun _ _ _ q => q
theorem HOk.laid (x : HOk P w H h) (k : ∀ b u, h.get? b = some u → h'.get? b = some u) (hp : h.objs.size ≤ a) (new : ObjOk P w (upd H a o) h' a o) : HOk P w (upd H a o) h' := fun b u e => by
  have hn := x.fresh hp
  by_cases hb : b = a
  · subst hb; rw [upd_same] at e; cases e; exact new
  · rw [upd_ne hb] at e
    exact (x b u e).stay (fun c v _ q => k c v q) (fun c q => by rw [upd_ne (ne_of_none q hn)]; exact q) (fun c xs q => by rw [upd_ne (ne_of_none q hn)]; exact q) fun c o u q => by rw [upd_ne (ne_of_none q hn)]; exact q
end
def Rd (H : Hp) (a : Addr) (u : HO) : Prop := H a = some u ∨ ∃ o, H a = some (.frz o u)
theorem Rd.ok {P : Program} {w : World} {H : Hp} {h : Heap} {a : Addr} {u : HO} (r : Rd H a u) (x : HOk P w H h) : ObjOk P w H h a u := by
  rcases r with r | ⟨o, r⟩
  · exact x a u r
  · obtain ⟨_, q⟩ := x a _ r
    exact q
def Mut : Option HO → Prop
  | some (.lst _) => True
  | some (.dK _) => True
  | some (.dT _) => True
  | some (.set _ _) => True
  | some (.ins _ _ _) => True
  | some (.ext _) => True
  | some (.mem _ _ _) => True
  | _ => False
section
variable {P : Program} {w : World} {H : Hp} {h h' : Heap} {x e : Addr} {o' : HO}
theorem HOk.write (ok : HOk P w H h) (mu : Mut (H x)) (he : e = x ∨ H e = some (.own x)) (k : ∀ b u, b ≠ e → h.get? b = some u → h'.get? b = some u) (heo : ∃ u, h'.get? e = some u)
    (new : ObjOk P w (upd H x o') h' x o') : HOk P w (upd H x o') h' := fun b u q => by
  have nown : ∀ c y, H c = some (.own y) → c ≠ x := fun c y r z => by subst z; rw [r] at mu; exact mu
  have ntup : ∀ c xs, H c = some (.tup xs) → c ≠ x := fun c xs r z => by subst z; rw [r] at mu; exact mu
  by_cases hb : b = x
  · subst hb; rw [upd_same] at q; cases q; exact new
  · rw [upd_ne hb] at q
    by_cases hbe : b = e
    · have q' : H b = some (.own x) := by
        rcases he with z | z
        · exact absurd (hbe.trans z) hb
        · rw [hbe]; exact z
      rw [q] at q'; cases q'
      obtain ⟨v, hv⟩ := heo
      exact ⟨v, by rw [hbe]; exact hv⟩
    · refine (ok b u q).stay (fun c v hc r => k c v ?_ r) (fun c r => by rw [upd_ne (nown c b r)]; exact r) (fun c xs r => by rw [upd_ne (ntup c xs r)]; exact r) fun c o u r => by rw [upd_ne (fun z => by rw [← z, r] at mu; exact mu)]; exact r
      rcases hc with rfl | hc
      · exact hbe
      · rintro rfl
        rcases he with z | z
        · exact nown c b hc z
        · rw [hc] at z; cases z; exact hb rfl
end
structure Un (fs ex : List Addr) (H H' : Hp) (h h' : Heap) : Prop where
  keep : ∀ b o, h.get? b = some o → H b = none → b ∉ fs → b ∉ ex → h'.get? b = some o
  slot : ∀ b o, h.get? b = some o → H b = none → b ∈ fs → b ∉ ex → ∃ sl, h'.get? b = some { o with slots := sl }
  free : ∀ b o, h.get? b = some o → H b = none → b ∉ ex → H' b = none
  there : ∀ b o, h.get? b = some o → b ∉ ex → ∃ o', h'.get? b = some o'
  tups : ∀ b xs, H b = some (.tup xs) → H' b = some (.tup xs)
  frzs : ∀ b o u, H b = some (.frz o u) → H' b = some (.frz o u)
  tbls : ∀ b ps, H b = some (.tbl ps) → ∃ more, H' b = some (.tbl (ps ++ more))
section
variable {fs fs' ex ex' : List Addr} {H H1 H2 : Hp} {h h1 h2 h' : Heap} {a x e : Addr} {o : HO}
theorem Un.any (u : Un fs ex H H1 h h1) {b : Addr} {ob : Obj} (q : h.get? b = some ob) (n : H b = none) (hx : b ∉ ex) : ∃ sl, h1.get? b = some { ob with slots := sl } := by
  by_cases hb : b ∈ fs
  · exact u.slot b ob q n hb hx
  · exact ⟨ob.slots, u.keep b ob q n hb hx⟩
theorem Un.kept (k : ∀ b u, h.get? b = some u → h'.get? b = some u) : Un fs ex H H h h' :=
  ⟨fun b ob q _ _ _ => k b ob q, fun b ob q _ _ _ => ⟨ob.slots, k b ob q⟩, fun _ _ _ n _ => n, fun b ob q _ => ⟨ob, k b ob q⟩, fun _ _ q => q, fun _ _ _ q => q, fun _ ps q => ⟨#[], by rw [q]; simp⟩⟩
theorem Un.refl : Un fs ex H H h h := Un.kept fun _ _ q => q
theorem Un.laid (k : ∀ b u, h.get? b = some u → h'.get? b = some u) (hp : h.objs.size ≤ a) (hn : H a = none) : Un fs ex H (upd H a o) h h' where
  keep := fun b u q _ _ _ => k b u q
  slot := fun b u q _ _ _ => ⟨u.slots, k b u q⟩
  free := fun b u q n _ => by rw [upd_ne (Nat.ne_of_lt (Nat.lt_of_lt_of_le (Heap.lt_size q) hp))]; exact n
  there := fun b u q _ => ⟨u, k b u q⟩
  tups := fun b xs q => by rw [upd_ne (ne_of_none q hn)]; exact q
  frzs := fun b u xs q => by rw [upd_ne (ne_of_none q hn)]; exact q
  tbls := fun b ps q => ⟨#[], by rw [upd_ne (ne_of_none q hn), q]; simp⟩
theorem Un.write (mu : Mut (H x)) (he : e = x ∨ H e = some (.own x)) (k : ∀ b u, b ≠ e → h.get? b = some u → h'.get? b = some u) (heo : ∃ u, h'.get? e = some u) : Un fs ex H (upd H x o) h h' := by
  have hx : ∀ b, H b = none → b ≠ x := fun b n z => by subst z; rw [n] at mu; exact mu
  have hb : ∀ b, H b = none → b ≠ e := fun b n z => by
    subst z
    rcases he with r | r
    · exact hx b n r
    · rw [n] at r; cases r
  have hm : ∀ b u, H b = some u → ¬ Mut (some u) → b ≠ x := fun b u q nm z => by subst z; rw [q] at mu; exact nm mu
  refine ⟨fun b u q n _ _ => k b u (hb b n) q, fun b u q n _ _ => ⟨u.slots, k b u (hb b n) q⟩, fun b u q n _ => by rw [upd_ne (hx b n)]; exact n, fun b u q _ => ?_,
    fun b xs q => by rw [upd_ne (hm b _ q fun z => z)]; exact q, fun b u xs q => by rw [upd_ne (hm b _ q fun z => z)]; exact q, fun b ps q => ⟨#[], by rw [upd_ne (hm b _ q fun z => z), q]; simp⟩⟩
  by_cases hbe : b = e
  · subst hbe; exact heo
  · exact ⟨u, k b u hbe q⟩
end
def trk (h : Heap) (H : Hp) : List Addr := (List.range h.objs.size).filter fun a => (H a).isSome
def hidT (h : Heap) (H : Hp) : Heap := PySem.W.hideAll h (trk h H)
theorem hidT_size (h : Heap) (H : Hp) : (hidT h H).objs.size = h.objs.size := PySem.W.hideAll_size _ _
theorem hidT_get {h : Heap} {H : Hp} {b : Addr} {o : Obj} (e : h.get? b = some o) (n : H b = none) : (hidT h H).get? b = some o :=
  PySem.W.hideAll_get _ e fun hm => by
    have q : (H b).isSome = true := (List.mem_filter.mp hm).2
    rw [n] at q; simp at q
theorem of_hidT {h : Heap} {H : Hp} {b : Addr} {o : Obj} (e : (hidT h H).get? b = some o) : h.get? b = some o ∧ H b = none := by
  have e' : h.get? b = some o := PySem.W.of_hideAll (trk h H) e
  refine ⟨e', ?_⟩
  cases q : H b with
  | none => rfl
  | some x =>
    have hm : b ∈ trk h H := List.mem_filter.mpr ⟨List.mem_range.mpr (Heap.lt_size e'), by simp [q]⟩
    have z : (hidT h H).get? b = none := PySem.W.hideAll_none (trk h H) hm
    rw [z] at e; cases e
def allNews (g h : Heap) (L : Addr) : List (Addr × Obj) := (List.range h.objs.size).filterMap fun a => if a = L ∨ (g.get? a).isSome = true then none else (h.get? a).map fun o => (a, o)
def rest (g h : Heap) (L d : Addr) : List (Addr × Obj) := (allNews g h L).filter fun p => decide (p.1 ≠ d)
end L2
namespace L2
open PySem PySem.Spec PyProof.Rows
structure Mod (K : PySem.W.Frag) (mg : Str → Option Value) (base : Heap) : Prop where
  kin : K.In base
  glob : base.Ns mainGlobals mg
  blt : ∃ mb, base.Ns builtinsNs mb ∧ ∀ x : Str, x ≠ "__name__" → mb x = bootBuiltins x
  nolimit : base.NoLimit
structure Cx where
  prog : Program
  w : World
  K : PySem.W.Frag
  mg : Str → Option Value
  base : Heap
  A : Around
  N : List Str
  s₀ : Shared
  H₀ : Hp
  env : Env
  outer : List Env
  stack : List Env
  ex : List Addr
  fn : Str → Bool
  calm : Bool
  pn : List (Addr × Obj)
  xe : Value → Shared → Prop
def frs (l : List Env) : List Addr := l.filterMap (·.frame)
abbrev Cx.fs (X : Cx) : List Addr := frs X.outer
def Vis (sc : Scope) (x : Str) : Prop := sc.names.lookup x = some .local ∨ sc.names.lookup x = some .cell ∨ sc.names.lookup x = some .free
def Loc (sc : Scope) (x : Str) : Prop := sc.names.lookup x = some .local ∨ sc.names.lookup x = some .cell
def Look (env : Env) (h : Heap) (m : Str → Option Value) (x : Str) (u : Value) : Prop :=
  (env.kindOf x = some .local ∧ m x = some u) ∨ ((env.kindOf x = some .cell ∨ env.kindOf x = some .free) ∧ ∃ c, env.cells.lookup x = some c ∧ h.IsCell c (some u))
structure Cx.Ok (X : Cx) : Prop where
  mod : Mod X.K X.mg X.base
  kind : X.env.scope.kind = .function
  glob : X.env.globals = mainGlobals
  blt : X.env.builtins = builtinsNs
  above : X.s₀.heap.objs.size ≤ X.env.locals
  inj : ∀ x y c, X.env.cells.lookup x = some c → X.env.cells.lookup y = some c → x = y
  has : ∀ x, (X.env.kindOf x = some .cell ∨ X.env.kindOf x = some .free) → ∃ c, X.env.cells.lookup x = some c
  cab : ∀ x c, X.fn x = true → X.env.cells.lookup x = some c → X.s₀.heap.objs.size ≤ c
  hd : X.calm = true → X.A.handled = none
  frames : X.A.frames = some X.stack
  stk : X.stack = X.outer ∨ (X.stack = X.env :: X.outer ∧ X.env.frame = some X.env.locals)
  exf : ∀ b ∈ X.ex, b ≠ X.env.locals ∧ ∀ x c, X.env.cells.lookup x = some c → c ≠ b
  bs : ∀ b o, X.base.get? b = some o → X.s₀.heap.get? b = some o ∧ X.H₀ b = none
  bsz : X.base.objs.size ≤ X.s₀.heap.objs.size
  noex : ∀ b o, X.base.get? b = some o → b ∉ X.ex
  exfs : ∀ b ∈ X.ex, b ∉ X.fs
  funs : X.s₀.heap.FunFrames X.base X.outer
  frf : ∀ b ∈ X.fs, X.H₀ b = none
structure Inv (X : Cx) (pins : List (Addr × Obj)) (σ : List (Option V)) (H : Hp) (s : Shared) : Prop where
  ok : X.Ok
  os : s.os = X.s₀.os
  bare : AllBare s.gens
  base : Un X.fs X.ex X.H₀ H X.s₀.heap s.heap
  loc : ∃ m, s.heap.Ns X.env.locals m ∧ ∀ (i : Nat) (x : Str) (v : V), X.N[i]? = some x → σ[i]? = some (some v) → Vis X.env.scope x → ∃ u, RelV v u ∧ Look X.env s.heap m x u
  cell : ∀ x c, X.env.cells.lookup x = some c → ∃ v, s.heap.IsCell c v
  free : H X.env.locals = none
  freeC : ∀ x c, X.env.cells.lookup x = some c → H c = none
  pin : ∀ p ∈ X.pn ++ pins, s.heap.get? p.1 = some p.2 ∧ H p.1 = none ∧ p.1 ≠ X.env.locals ∧ p.1 ∉ X.fs ∧ ∀ v, p.2.data ≠ .cell v
  hok : HOk X.prog X.w H s.heap
  len : σ.length = X.N.length
section
variable {X : Cx} {pins : List (Addr × Obj)} {σ : List (Option V)} {H H' : Hp} {s : Shared} {h' : Heap}
theorem Cx.Ok.nofr (ok : X.Ok) {b : Addr} {o : Obj} (e : X.base.get? b = some o) : b ∉ X.fs := fun hb => by
  have := (ok.funs.mem hb).1
  rw [e] at this; cases this
theorem Inv.bs (I : Inv X pins σ H s) : ∀ b o, X.base.get? b = some o → s.heap.get? b = some o ∧ H b = none := fun b o e =>
  ⟨I.base.keep b o (I.ok.bs b o e).1 (I.ok.bs b o e).2 (I.ok.nofr e) (I.ok.noex b o e), I.base.free b o (I.ok.bs b o e).1 (I.ok.bs b o e).2 (I.ok.noex b o e)⟩
theorem Inv.bk (I : Inv X pins σ H s) : ∀ b o, X.base.get? b = some o → s.heap.get? b = some o := fun b o e => (I.bs b o e).1
theorem Inv.mod (I : Inv X pins σ H s) : Mod X.K X.mg X.base := I.ok.mod
theorem Inv.kIn (I : Inv X pins σ H s) : X.K.In s.heap := I.ok.mod.kin.keeps I.bk
theorem Inv.lt (I : Inv X pins σ H s) : X.env.locals < s.heap.objs.size := let ⟨_, hn, _⟩ := I.loc; hn.lt
theorem Inv.sz (I : Inv X pins σ H s) : X.s₀.heap.objs.size ≤ s.heap.objs.size := Nat.le_trans I.ok.above (Nat.le_of_lt I.lt)
theorem Inv.nofs (I : Inv X pins σ H s) {a : Addr} (h : s.heap.objs.size ≤ a) : a ∉ X.fs := fun hb => by
  obtain ⟨_, o, ho, _⟩ := I.ok.funs.mem hb
  exact absurd (Nat.lt_of_lt_of_le (Heap.lt_size ho) (Nat.le_trans I.sz h)) (Nat.lt_irrefl _)
theorem Inv.cne (I : Inv X pins σ H s) : ∀ x c, X.env.cells.lookup x = some c → c ≠ X.env.locals := fun x c e z => by
  obtain ⟨v, o, ho, hd⟩ := I.cell x c e
  obtain ⟨m, ⟨o', es, ep, ho', hd', _⟩, _⟩ := I.loc
  rw [z, ho'] at ho; cases ho; rw [hd'] at hd; cases hd
theorem Inv.funs (I : Inv X pins σ H s) : s.heap.FunFrames X.base X.outer := by
  have all : ∀ (l : List Env), (∀ b ∈ frs l, b ∈ X.fs) → X.s₀.heap.FunFrames X.base l → s.heap.FunFrames X.base l := by
    intro l
    induction l with
    | nil => intro _ _; trivial
    | cons env r ih =>
      intro hs hl
      obtain ⟨hk, ⟨L, o, hf, hn, ho, hd⟩, hr⟩ := hl
      have hL : L ∈ X.fs := hs L (by unfold frs; rw [List.filterMap_cons, hf]; exact List.mem_cons_self)
      obtain ⟨sl, e⟩ := I.base.slot L o ho (I.ok.frf L hL) hL fun z => I.ok.exfs L z hL
      exact ⟨hk, ⟨L, _, hf, hn, e, hd⟩, ih (fun b hb => hs b (by unfold frs; rw [List.filterMap_cons, hf]; exact List.mem_cons_of_mem _ hb)) hr⟩
  exact all X.outer (fun _ hb => hb) I.ok.funs
theorem Inv.stack (I : Inv X pins σ H s) : s.heap.FunFrames X.base X.stack := by
  rcases I.ok.stk with e | ⟨e, hf⟩
  · rw [e]; exact I.funs
  · rw [e]
    obtain ⟨m, hn, _⟩ := I.loc
    refine .cons (by rw [I.ok.kind]; decide) hf hn ?_ I.funs
    exact Heap.get?_none_of_le (Nat.le_trans I.ok.bsz I.ok.above)
theorem Inv.stkSub (I : Inv X pins σ H s) : ∀ b ∈ frs X.stack, b ∈ X.env.locals :: X.fs := fun b hb => by
  rcases I.ok.stk with e | ⟨e, hf⟩
  · rw [e] at hb; exact List.mem_cons_of_mem _ hb
  · rw [e] at hb
    unfold frs at hb
    rw [List.filterMap_cons, hf] at hb
    exact hb
theorem Inv.stkFree (I : Inv X pins σ H s) : ∀ b ∈ frs X.stack, H b = none := fun b hb => by
  rcases List.mem_cons.mp (I.stkSub b hb) with e | hb
  · rw [e]; exact I.free
  · obtain ⟨_, o, ho, _⟩ := I.ok.funs.mem hb
    exact I.base.free b o ho (I.ok.frf b hb) fun z => I.ok.exfs b z hb
theorem Inv.step {g' : Array GenState} {t' : Nat} {d' : Drawn} {ch : List Addr} (I : Inv X pins σ H s)
    (hch : ∀ b ∈ ch, (b ∈ X.ex ∨ X.s₀.heap.objs.size ≤ b) ∧ b ≠ X.env.locals ∧ (∀ x c, X.env.cells.lookup x = some c → c ≠ b) ∧ ∀ p ∈ X.pn ++ pins, p.1 ≠ b)
    (keep : ∀ b o, b ≠ X.env.locals → b ∉ X.fs → b ∉ ch → s.heap.get? b = some o → H b = none → h'.get? b = some o)
    (slot : ∀ b o, b ≠ X.env.locals → b ∈ X.fs → b ∉ ch → s.heap.get? b = some o → H b = none → ∃ sl, h'.get? b = some { o with slots := sl }) (free : ∀ b o, b ∉ ch → s.heap.get? b = some o → H b = none → H' b = none)
    (there : ∀ b o, b ∉ ch → s.heap.get? b = some o → ∃ o', h'.get? b = some o')
    (tups : ∀ b xs, H b = some (.tup xs) → H' b = some (.tup xs)) (frzs : ∀ b o u, H b = some (.frz o u) → H' b = some (.frz o u)) (tbls : ∀ b ps, H b = some (.tbl ps) → ∃ more, H' b = some (.tbl (ps ++ more)))
    (ns : ∀ m, s.heap.Ns X.env.locals m → h'.Ns X.env.locals m) (hok : HOk X.prog X.w H' h') (hg : AllBare g') :
    Inv X pins σ H' { s with heap := h', gens := g', drawn := d', toks := t' } := by
  have neL : ∀ b o, X.s₀.heap.get? b = some o → b ≠ X.env.locals := fun b o e => Nat.ne_of_lt (Nat.lt_of_lt_of_le (Heap.lt_size e) I.ok.above)
  have neC : ∀ b o, X.s₀.heap.get? b = some o → b ∉ X.ex → b ∉ ch := fun b o e hx hb => by
    rcases (hch b hb).1 with z | z
    · exact hx z
    · exact absurd (Nat.lt_of_lt_of_le (Heap.lt_size e) z) (Nat.lt_irrefl _)
  have cellK : ∀ x c, X.env.cells.lookup x = some c → ∀ v, s.heap.IsCell c v → h'.IsCell c v := fun x c e v ⟨o, ho, hd⟩ => by
    have nch : c ∉ ch := fun z => (hch c z).2.2.1 x c e rfl
    by_cases hc : c ∈ X.fs
    · obtain ⟨sl, q⟩ := slot c o (I.cne x c e) hc nch ho (I.freeC x c e)
      exact ⟨_, q, hd⟩
    · exact ⟨o, keep c o (I.cne x c e) hc nch ho (I.freeC x c e), hd⟩
  refine ⟨I.ok, I.os, hg, ⟨fun b o e n hb hx => ?_, fun b o e n hb hx => ?_, fun b o e n hx => ?_, fun b o e hx => ?_, fun b xs e => tups b xs (I.base.tups b xs e), fun b o xs e => frzs b o xs (I.base.frzs b o xs e), fun b ps e => ?_⟩, ?_, fun x c e => ?_, ?_, fun x c e => ?_, fun p hp => ?_, hok, I.len⟩
  · exact keep b o (neL b o e) hb (neC b o e hx) (I.base.keep b o e n hb hx) (I.base.free b o e n hx)
  · obtain ⟨sl, e1⟩ := I.base.slot b o e n hb hx
    obtain ⟨sl', e2⟩ := slot b _ (neL b o e) hb (neC b o e hx) e1 (I.base.free b o e n hx)
    exact ⟨sl', e2⟩
  · obtain ⟨o', e1⟩ := I.base.there b o e hx
    exact free b o' (neC b o e hx) e1 (I.base.free b o e n hx)
  · obtain ⟨o', e1⟩ := I.base.there b o e hx
    exact there b o' (neC b o e hx) e1
  · obtain ⟨m1, e1⟩ := I.base.tbls b ps e
    obtain ⟨m2, e2⟩ := tbls b _ e1
    exact ⟨m1 ++ m2, by rw [e2, Array.append_assoc]⟩
  · obtain ⟨m, hn, hl⟩ := I.loc
    refine ⟨m, ns m hn, fun i x v e1 e2 e3 => ?_⟩
    obtain ⟨u, r, l⟩ := hl i x v e1 e2 e3
    refine ⟨u, r, ?_⟩
    rcases l with l | ⟨k, c, e, z⟩
    · exact .inl l
    · exact .inr ⟨k, c, e, cellK x c e _ z⟩
  · obtain ⟨v, z⟩ := I.cell x c e
    exact ⟨v, cellK x c e v z⟩
  · obtain ⟨m, ⟨o, _, _, ho, _⟩, _⟩ := I.loc
    exact free _ o (fun z => (hch _ z).2.1 rfl) ho I.free
  · obtain ⟨v, o, ho, hd⟩ := I.cell x c e
    exact free c o (fun z => (hch c z).2.2.1 x c e rfl) ho (I.freeC x c e)
  · obtain ⟨e, n, ne, nf, d⟩ := I.pin p hp
    have nch : p.1 ∉ ch := fun z => (hch p.1 z).2.2.2 p hp rfl
    exact ⟨keep p.1 p.2 ne nf nch e n, free p.1 p.2 nch e n, ne, nf, d⟩
theorem Inv.un {t' : Nat} (I : Inv X pins σ H s) (u : Un X.fs [] H H' s.heap h') (hok : HOk X.prog X.w H' h') : Inv X pins σ H' { s with heap := h', toks := t' } := by
  obtain ⟨m, ⟨o, es, ep, ho, r⟩, _⟩ := id I.loc
  obtain ⟨sl, hL⟩ := u.any ho I.free (by simp)
  exact I.step (g' := s.gens) (d' := s.drawn) (ch := []) (fun _ z => nomatch z) (fun b o _ hb _ e n => u.keep b o e n hb (by simp)) (fun b o _ hb _ e n => u.slot b o e n hb (by simp)) (fun b o _ e n => u.free b o e n (by simp)) (fun b o _ e => u.there b o e (by simp)) u.tups u.frzs u.tbls (fun m' hm => by
    obtain ⟨o', es', ep', ho', r'⟩ := hm
    rw [ho] at ho'; cases ho'
    exact ⟨_, es', ep', hL, r'⟩) hok I.bare
theorem Inv.call {g' : Array GenState} {t' : Nat} {d' : Drawn} {ch : List Addr} (I : Inv X pins σ H s) (u : Un (frs X.stack) ch H H' s.heap h') (hok : HOk X.prog X.w H' h') (hg : AllBare g')
    (hch : ∀ b ∈ ch, (b ∈ X.ex ∨ X.s₀.heap.objs.size ≤ b) ∧ b ≠ X.env.locals ∧ (∀ x c, X.env.cells.lookup x = some c → c ≠ b) ∧ ∀ p ∈ X.pn ++ pins, p.1 ≠ b) :
    Inv X pins σ H' { s with heap := h', gens := g', drawn := d', toks := t' } := by
  obtain ⟨m, ⟨o, es, ep, ho, r⟩, _⟩ := id I.loc
  obtain ⟨sl, hL⟩ := u.any ho I.free fun z => (hch _ z).2.1 rfl
  exact I.step (ch := ch) hch (fun b o hL hb hc e n => u.keep b o e n (fun z => (List.mem_cons.mp (I.stkSub b z)).elim hL hb) hc) (fun b o _ _ hc e n => u.any e n hc) (fun b o hc e n => u.free b o e n hc) (fun b o hc e => u.there b o e hc) u.tups u.frzs u.tbls (fun m' hm => by
    obtain ⟨o', es', ep', ho', r'⟩ := hm
    rw [ho] at ho'; cases ho'
    exact ⟨_, es', ep', hL, r'⟩) hok hg
theorem Inv.turned {t' : Nat} {it : Addr} (I : Inv X pins σ H s) (k : ∀ b o, b ≠ it → s.heap.get? b = some o → h'.get? b = some o) (hn : H it = none) (hL : it ≠ X.env.locals)
    (h1 : it ∈ X.ex ∨ X.s₀.heap.objs.size ≤ it) (h2 : ∀ x c, X.env.cells.lookup x = some c → c ≠ it) (h3 : ∀ p ∈ X.pn ++ pins, p.1 ≠ it) : Inv X pins σ H { s with heap := h', toks := t' } := by
  have nit : ∀ b u, H b = some u → b ≠ it := fun b u e z => by rw [z, hn] at e; cases e
  refine I.step (g' := s.gens) (d' := s.drawn) (ch := [it]) (fun b hb => ?_) (fun b o _ _ hc e _ => k b o (fun z => hc (by simp [z])) e) (fun b o _ _ hc e _ => ⟨o.slots, k b o (fun z => hc (by simp [z])) e⟩) (fun _ _ _ _ n => n)
    (fun b o hc e => ⟨o, k b o (fun z => hc (by simp [z])) e⟩) (fun _ _ e => e) (fun _ _ _ e => e) (fun b ps e => ⟨#[], by rw [e]; simp⟩) (fun m hm => ?_) (fun b u e => ?_) I.bare
  · have e : b = it := by simpa using hb
    subst e
    exact ⟨h1, hL, h2, h3⟩
  · obtain ⟨o, es, ep, ho, r⟩ := hm
    exact ⟨o, es, ep, k _ o (Ne.symm hL) ho, r⟩
  · refine (I.hok b u e).stay (fun c v hc q => k c v ?_ q) (fun _ q => q) (fun _ _ q => q) fun _ _ _ q => q
    rcases hc with z | z
    · rw [z]; exact nit b u e
    · exact nit c _ z
theorem Inv.tok (I : Inv X pins σ H s) (t : Nat) : Inv X pins σ H { s with toks := t } := I.un (h' := s.heap) (t' := t) Un.refl I.hok
theorem Inv.kept {t' : Nat} (I : Inv X pins σ H s) (k : ∀ b u, s.heap.get? b = some u → h'.get? b = some u) : Inv X pins σ H { s with heap := h', toks := t' } := I.un (Un.kept k) (I.hok.kept k)
theorem Inv.laid {a : Addr} {o : HO} {t' : Nat} (I : Inv X pins σ H s) (k : ∀ b u, s.heap.get? b = some u → h'.get? b = some u) (hp : s.heap.objs.size ≤ a) (new : ObjOk X.prog X.w (upd H a o) h' a o) :
    Inv X pins σ (upd H a o) { s with heap := h', toks := t' } := I.un (Un.laid k hp (I.hok.fresh hp)) (I.hok.laid k hp new)
theorem Inv.write {x e : Addr} {o : HO} {t' : Nat} (I : Inv X pins σ H s) (mu : Mut (H x)) (he : e = x ∨ H e = some (.own x)) (k : ∀ b u, b ≠ e → s.heap.get? b = some u → h'.get? b = some u) (heo : ∃ u, h'.get? e = some u)
    (new : ObjOk X.prog X.w (upd H x o) h' x o) : Inv X pins σ (upd H x o) { s with heap := h', toks := t' } := I.un (Un.write mu he k heo) (I.hok.write mu he k heo new)
theorem Inv.weak {σ' : List (Option V)} (I : Inv X pins σ H s) (hl : σ'.length = σ.length) (w : ∀ (i : Nat) v, σ'[i]? = some (some v) → σ[i]? = some (some v)) : Inv X pins σ' H s :=
  ⟨I.ok, I.os, I.bare, I.base, let ⟨m, hn, hl'⟩ := I.loc; ⟨m, hn, fun i x v e1 e2 e3 => hl' i x v e1 (w i v e2) e3⟩, I.cell, I.free, I.freeC, I.pin, I.hok, hl.trans I.len⟩
theorem Inv.pins_of {pins' : List (Addr × Obj)} (I : Inv X pins σ H s) (h : ∀ p ∈ pins', s.heap.get? p.1 = some p.2 ∧ H p.1 = none ∧ p.1 ≠ X.env.locals ∧ p.1 ∉ X.fs ∧ ∀ v, p.2.data ≠ .cell v) : Inv X pins' σ H s :=
  ⟨I.ok, I.os, I.bare, I.base, I.loc, I.cell, I.free, I.freeC, fun p hp => (List.mem_append.mp hp).elim (fun z => I.pin p (List.mem_append_left _ z)) (h p), I.hok, I.len⟩
theorem nodup_ix {N : List Str} (hN : N.Nodup) {i j : Nat} {x : Str} (a : N[i]? = some x) (b : N[j]? = some x) : i = j := by
  obtain ⟨h1, e1⟩ := List.getElem?_eq_some_iff.mp a
  obtain ⟨h2, e2⟩ := List.getElem?_eq_some_iff.mp b
  exact (List.getElem_inj hN).mp (e1.trans e2.symm)
theorem store_ok2 {M : Model} {A : Around} {E : Value → Shared → Prop} {i : Nat} {x : Str} {v : V} {u : Value} {Q : Unit → Shared → Prop} (I : Inv X pins σ H s) (hN : X.N.Nodup) (hi : X.N[i]? = some x) (hx : Loc X.env.scope x) (r : RelV v u)
    (h : ∀ s', Inv X pins (σ.set i (some v)) H s' → (∃ a, Heap.SameBut a s.heap s'.heap ∧ (a = X.env.locals ∨ X.env.cells.lookup x = some a)) → Q () s') (hf : X.fn x = true ∨ X.env.scope.names.lookup x = some .local := by first | exact .inl rfl | exact .inr rfl | assumption) : wpAny M A (storeName X.env x u) Q E s := by
  obtain ⟨m, hn, hl⟩ := id I.loc
  have hcls : (X.env.scope.kind == .class || (X.env.scope.kind == .module && X.env.locals != X.env.globals)) = false := by rw [I.ok.kind]; rfl
  have hiσ : i < σ.length := by rw [I.len]; exact (List.getElem?_eq_some_iff.mp hi).1
  have cne := I.cne
  have tracked : ∀ {a : Addr} {h' : Heap}, (∃ o, s.heap.get? a = some o ∧ H a = none) → Heap.SameBut a s.heap h' → HOk X.prog X.w H h' := fun {a h'} ha hs b ob e => by
    obtain ⟨_, _, hfree⟩ := ha
    refine (I.hok b ob e).stay (fun c w' hc q => (hs.2 c ?_).trans q) (fun _ q => q) (fun _ _ q => q) fun _ _ _ q => q
    rintro rfl
    rcases hc with rfl | hc
    · rw [hfree] at e; cases e
    · rw [hfree] at hc; cases hc
  rcases hx with hk | hk
  · refine wpAny_storeName_local hk hn (fun h' hn' hs => ?_) hcls
    obtain ⟨oL, _, _, hoL, _⟩ := id hn
    refine h _ ⟨I.ok, I.os, I.bare, ⟨fun b o e n hb hx => ?_, fun b o e n hb hx => ?_, I.base.free, fun b o e hx => ?_, I.base.tups, I.base.frzs, I.base.tbls⟩, ⟨_, hn', fun j y v' e1 e2 e3 => ?_⟩, fun y c e => ?_, I.free, I.freeC, fun p hp => ?_, tracked ⟨oL, hoL, I.free⟩ hs, by simpa using I.len⟩ ⟨_, hs, .inl rfl⟩
    · exact (hs.2 b (Nat.ne_of_lt (Nat.lt_of_lt_of_le (Heap.lt_size e) I.ok.above))).trans (I.base.keep b o e n hb hx)
    · obtain ⟨sl, e1⟩ := I.base.slot b o e n hb hx
      exact ⟨sl, (hs.2 b (Nat.ne_of_lt (Nat.lt_of_lt_of_le (Heap.lt_size e) I.ok.above))).trans e1⟩
    · obtain ⟨o', e1⟩ := I.base.there b o e hx
      exact ⟨o', (hs.2 b (Nat.ne_of_lt (Nat.lt_of_lt_of_le (Heap.lt_size e) I.ok.above))).trans e1⟩
    · by_cases hj : j = i
      · subst hj
        rw [hi] at e1; cases e1
        rw [List.getElem?_set_self hiσ] at e2
        cases e2
        exact ⟨u, r, .inl ⟨hk, by simp⟩⟩
      · rw [List.getElem?_set_ne (Ne.symm hj)] at e2
        obtain ⟨u', r', q⟩ := hl j y v' e1 e2 e3
        refine ⟨u', r', ?_⟩
        rcases q with ⟨k, e⟩ | ⟨k, c, e, z⟩
        · refine .inl ⟨k, ?_⟩
          have : y ≠ x := fun e => hj (nodup_ix hN e1 (e ▸ hi))
          simp [this, e]
        · exact .inr ⟨k, c, e, z.sameBut hs (cne y c e)⟩
    · obtain ⟨w', z⟩ := I.cell y c e
      exact ⟨w', z.sameBut hs (cne y c e)⟩
    · obtain ⟨e, n, ne, nf, d⟩ := I.pin p hp
      exact ⟨(hs.2 p.1 ne).trans e, n, ne, nf, d⟩
  · have hfn : X.fn x = true := by
      rcases hf with z | z
      · exact z
      · rw [z] at hk; cases hk
    obtain ⟨c, hc⟩ := I.ok.has x (.inl hk)
    obtain ⟨w', z⟩ := I.cell x c hc
    refine wpAny_storeName_cell I.ok.kind hk hc z (fun h' hc' hs => ?_)
    obtain ⟨oc, hoc, hocd⟩ := id z
    refine h { s with heap := h' } ⟨I.ok, I.os, I.bare, ⟨fun b o e n hb hx => ?_, fun b o e n hb hx => ?_, I.base.free, fun b o e hx => ?_, I.base.tups, I.base.frzs, I.base.tbls⟩, ⟨m, hn.sameBut hs (Ne.symm (cne x c hc)), fun j y v' e1 e2 e3 => ?_⟩, fun y c' e => ?_, I.free, I.freeC, fun p hp => ?_, tracked ⟨oc, hoc, I.freeC x c hc⟩ hs, by simpa using I.len⟩ ⟨c, hs, .inr hc⟩
    · exact (hs.2 b (Nat.ne_of_lt (Nat.lt_of_lt_of_le (Heap.lt_size e) (I.ok.cab x c hfn hc)))).trans (I.base.keep b o e n hb hx)
    · obtain ⟨sl, e1⟩ := I.base.slot b o e n hb hx
      exact ⟨sl, (hs.2 b (Nat.ne_of_lt (Nat.lt_of_lt_of_le (Heap.lt_size e) (I.ok.cab x c hfn hc)))).trans e1⟩
    · obtain ⟨o', e1⟩ := I.base.there b o e hx
      exact ⟨o', (hs.2 b (Nat.ne_of_lt (Nat.lt_of_lt_of_le (Heap.lt_size e) (I.ok.cab x c hfn hc)))).trans e1⟩
    · by_cases hj : j = i
      · subst hj
        rw [hi] at e1; cases e1
        rw [List.getElem?_set_self hiσ] at e2
        cases e2
        exact ⟨u, r, .inr ⟨.inl hk, c, hc, hc'⟩⟩
      · rw [List.getElem?_set_ne (Ne.symm hj)] at e2
        obtain ⟨u', r', q⟩ := hl j y v' e1 e2 e3
        refine ⟨u', r', ?_⟩
        rcases q with q | ⟨k, c', e, z'⟩
        · exact .inl q
        · refine .inr ⟨k, c', e, z'.sameBut hs ?_⟩
          rintro rfl
          exact hj (nodup_ix hN e1 (I.ok.inj _ _ _ e hc ▸ hi))
    · by_cases hcc : c' = c
      · subst hcc; exact ⟨_, hc'⟩
      · obtain ⟨w2, z2⟩ := I.cell y c' e
        exact ⟨w2, z2.sameBut hs hcc⟩
    · obtain ⟨e, n, ne, nf, d⟩ := I.pin p hp
      refine ⟨(hs.2 p.1 ?_).trans e, n, ne, nf, d⟩
      intro q
      rw [q, hoc] at e
      have q' : oc = p.2 := Option.some.inj e
      exact d w' (by rw [← q']; exact hocd)
theorem store_ok {M : Model} {A : Around} {E : Value → Shared → Prop} {i : Nat} {x : Str} {v : V} {u : Value} {Q : Unit → Shared → Prop} (I : Inv X pins σ H s) (hN : X.N.Nodup) (hi : X.N[i]? = some x) (hx : Loc X.env.scope x) (r : RelV v u)
    (h : ∀ s', Inv X pins (σ.set i (some v)) H s' → Q () s') (hf : X.fn x = true ∨ X.env.scope.names.lookup x = some .local := by first | exact .inl rfl | exact .inr rfl | assumption) : wpAny M A (storeName X.env x u) Q E s :=
  store_ok2 I hN hi hx r (fun s' I' _ => h s' I') hf
theorem Inv.call' {s' : Shared} {ch : List Addr} (I : Inv X pins σ H s) (ho : s'.os = s.os) (u : Un (frs X.stack) ch H H' s.heap s'.heap) (hok : HOk X.prog X.w H' s'.heap) (hg : AllBare s'.gens)
    (hch : ∀ b ∈ ch, (b ∈ X.ex ∨ X.s₀.heap.objs.size ≤ b) ∧ b ≠ X.env.locals ∧ (∀ x c, X.env.cells.lookup x = some c → c ≠ b) ∧ ∀ p ∈ X.pn ++ pins, p.1 ≠ b) : Inv X pins σ H' s' := by
  obtain ⟨h', g', d', t', o'⟩ := s'
  have e : o' = s.os := ho
  subst e
  exact I.call (g' := g') (t' := t') (d' := d') u hok hg hch
end
abbrev XK := Value → Option Addr → Hp → Prop
abbrev St := List (Option V)
abbrev VK := V → Hp → Prop
abbrev TE := St → Hp → VK → Prop
abbrev TT := St → Hp → (Bool → Hp → Prop) → Prop
abbrev TA := St → Hp → (List V → Hp → Prop) → Prop
structure Ends where
  nx : St → Hp → Prop
  rt : VK
  bk : St → Hp → Prop := fun _ _ => False
  ct : St → Hp → Prop := fun _ _ => False
abbrev TS := Ends → St → Hp → Prop
def EP (X : Cx) (pins : List (Addr × Obj)) (σ : St) (Q : VK) (u : Value) (s' : Shared) : Prop := ∃ v H', Inv X pins σ H' s' ∧ RelV v u ∧ Q v H'
def TP (X : Cx) (pins : List (Addr × Obj)) (σ : St) (Q : Bool → Hp → Prop) (b : Bool) (s' : Shared) : Prop := ∃ H', Inv X pins σ H' s' ∧ Q b H'
def AP (X : Cx) (pins : List (Addr × Obj)) (σ : St) (Q : List V → Hp → Prop) (us : List Value) (s' : Shared) : Prop := ∃ vs H', Inv X pins σ H' s' ∧ Vals vs us ∧ Q vs H'
def SP (X : Cx) (pins : List (Addr × Obj)) (D : Ends) (f : Flow) (s' : Shared) : Prop :=
  match f with
  | .next => ∃ σ' H', Inv X pins σ' H' s' ∧ D.nx σ' H'
  | .brk => ∃ σ' H', Inv X pins σ' H' s' ∧ D.bk σ' H'
  | .cont => ∃ σ' H', Inv X pins σ' H' s' ∧ D.ct σ' H'
  | .ret u => ∃ v σ' H', Inv X pins σ' H' s' ∧ RelV v u ∧ D.rt v H'
def PE (X : Cx) (e : Expr) (t : TE) : Prop :=
  ∀ (pins : List (Addr × Obj)) (s : Shared) (σ : St) (H : Hp) (Q : VK), Inv X pins σ H s → t σ H Q → wpAny (model X.prog X.w) X.A (eval e X.env) (EP X pins σ Q) X.xe s
def PT (X : Cx) (e : Expr) (t : TT) : Prop :=
  ∀ (pins : List (Addr × Obj)) (s : Shared) (σ : St) (H : Hp) (Q : Bool → Hp → Prop), Inv X pins σ H s → t σ H Q → wpAny (model X.prog X.w) X.A (isTrue e X.env (eval e X.env)) (TP X pins σ Q) X.xe s
def PW (X : Cx) (e : Expr) (t : TT) : Prop :=
  ∀ (whole : Sem Value) (pins : List (Addr × Obj)) (s : Shared) (σ : St) (H : Hp) (Q : Bool → Hp → Prop), Inv X pins σ H s → t σ H Q → wpAny (model X.prog X.w) X.A (isTrue e X.env whole) (TP X pins σ Q) X.xe s
theorem PW.pt {X : Cx} {e : Expr} {t : TT} (h : PW X e t) : PT X e t := h _
def PA (X : Cx) (es : List Expr) (t : TA) : Prop :=
  ∀ (pos : Pos) (pins : List (Addr × Obj)) (s : Shared) (σ : St) (H : Hp) (Q : List V → Hp → Prop), Inv X pins σ H s → t σ H Q → wpAny (model X.prog X.w) X.A (spliced (backTo pos (starEach es X.env))) (AP X pins σ Q) X.xe s
def PS (X : Cx) (st : Stmt) (t : TS) : Prop :=
  ∀ (pins : List (Addr × Obj)) (s : Shared) (σ : St) (H : Hp) (D : Ends), Inv X pins σ H s → t D σ H → wpAny (model X.prog X.w) X.A (exec st X.env) (SP X pins D) X.xe s
def PSs (X : Cx) (st : List Stmt) (t : TS) : Prop :=
  ∀ (pins : List (Addr × Obj)) (s : Shared) (σ : St) (H : Hp) (D : Ends), Inv X pins σ H s → t D σ H → wpAny (model X.prog X.w) X.A (execs st X.env) (SP X pins D) X.xe s
theorem thn {α : Type} {t : Sem α} {Q Q' : α → Shared → Prop} {M : Model} {A : Around} {E : Value → Shared → Prop} {s : Shared} (h : wpAny M A t Q E s) (hQ : ∀ a s, Q a s → Q' a s) : wpAny M A t Q' E s := wpAny_mono h hQ fun _ _ x => x
end L2
namespace L2
open PySem PySem.Spec PyProof.Rows
section
variable {X : Cx}
def tVar (i : Nat) : TE := fun σ H Q => ∃ v, σ[i]? = some (some v) ∧ Q v H
def tC (v : V) : TE := fun _ H Q => Q v H
theorem pe_var {i : Nat} {x : Str} {pos : Pos} (hN : X.N[i]? = some x) (hv : Vis X.env.scope x) (hd : (x == ("__debug__" : Str)) = false := by decide) (hcd : (x == ("__classdict__" : Str)) = false := by decide) : PE X (.Name x pos) (tVar i) := by
  intro pins s σ H Q I h
  obtain ⟨v, e, h⟩ := h
  obtain ⟨m, hn, hl⟩ := I.loc
  obtain ⟨u, r, l⟩ := hl i x v hN e hv
  have fin : EP X pins σ Q u s := ⟨v, H, I, r, h⟩
  rcases l with ⟨hk, hm⟩ | ⟨hk, c, hc, hcell⟩
  · exact wpAny_Name (wpAny_loadName_local I.ok.kind hk hn hm fin) hd
  · rcases hk with hk | hk
    · exact wpAny_Name (wpAny_loadName_cell I.ok.kind hk hc hcell fin) hd
    · exact wpAny_Name (wpAny_loadName_free I.ok.kind hk hc hcell fin hcd) hd
theorem pe_int {i j pos} : PE X (.Constant (.int i) j pos) (tC (.int i)) := fun _ _ _ H _ I h => wpAny_Constant_int ⟨.int i, H, I.tok _, ⟨_, rfl⟩, h⟩
theorem pe_bl {b j pos} : PE X (.Constant (.bool b) j pos) (tC (.bl b)) := fun _ _ _ H _ I h => Constant_bool ⟨.bl b, H, I, rfl, h⟩
theorem pe_non {j pos} : PE X (.Constant .none j pos) (tC .non) := fun _ _ _ H _ I h => Constant_none ⟨.non, H, I, rfl, h⟩
theorem pe_str {x j pos} : PE X (.Constant (.str x) j pos) (tC (.str x)) := fun _ _ _ H _ I h => Calls.Constant_str ⟨.str x, H, I.tok _, ⟨_, rfl⟩, h⟩
def Gl (X : Cx) (x : Str) : Prop := X.env.kindOf x = some .globalImplicit
theorem ld_glob {E : Value → Shared → Prop} {pins : List (Addr × Obj)} {s : Shared} {σ : St} {H : Hp} {x : Str} {u : Value} {pos : Pos} {Q : Value → Shared → Prop} (I : Inv X pins σ H s) (hg : Gl X x) (hm : X.mg x = some u) (h : Q u s)
    (hd : (x == ("__debug__" : Str)) = false := by decide) : wpAny (model X.prog X.w) X.A (eval (.Name x pos) X.env) Q E s :=
  Calls.Name_function_global I.ok.kind hg (Calls.loadGlobal_global (by rw [I.ok.glob]; exact I.mod.glob.keeps I.bk) hm h) hd
theorem ld_blt {E : Value → Shared → Prop} {pins : List (Addr × Obj)} {s : Shared} {σ : St} {H : Hp} {x : Str} {u : Value} {pos : Pos} {Q : Value → Shared → Prop} (I : Inv X pins σ H s) (hg : Gl X x) (hm : X.mg x = none) (hv : bootBuiltins x = some u) (h : Q u s)
    (hn : x ≠ "__name__" := by decide) (hd : (x == ("__debug__" : Str)) = false := by decide) : wpAny (model X.prog X.w) X.A (eval (.Name x pos) X.env) Q E s := by
  obtain ⟨mb, h1, h2⟩ := I.mod.blt
  exact Calls.Name_function_global I.ok.kind hg (Calls.loadGlobal_builtin (by rw [I.ok.glob]; exact I.mod.glob.keeps I.bk) hm (by rw [I.ok.blt]; exact h1.keeps I.bk) ((h2 x hn).trans hv) h) hd
theorem pe_bltn {x : Str} {v : V} {u : Value} {pos : Pos} (hg : Gl X x) (hm : X.mg x = none) (hv : bootBuiltins x = some u) (r : RelV v u) (hn : x ≠ "__name__" := by decide) (hd : (x == ("__debug__" : Str)) = false := by decide) : PE X (.Name x pos) (tC v) :=
  fun _ _ _ H _ I h => ld_blt I hg hm hv ⟨v, H, I, r, h⟩ hn hd
variable {a b : Expr} {ta tb : TE} {pos : Pos}
def PC (X : Cx) (op : CmpOp) (a b : Expr) (t : TE) : Prop :=
  ∀ (pins : List (Addr × Obj)) (s : Shared) (σ : St) (H : Hp) (Q : VK), Inv X pins σ H s → t σ H Q →
    wpAny (model X.prog X.w) X.A (eval a X.env) (fun v s₁ => wpAny (model X.prog X.w) X.A (eval b X.env) (fun u s₂ => wpAny (model X.prog X.w) X.A (compareOp op v u) (EP X pins σ Q) X.xe s₂) X.xe s₁) X.xe s
theorem nobehind (b : Expr) {op : CmpOp} (h : op ≠ .In) (h2 : op ≠ .NotIn) : behindInMarks op b = false := by
  have e1 : (op == CmpOp.In) = false := by cases op <;> first | rfl | exact absurd rfl h
  have e2 : (op == CmpOp.NotIn) = false := by cases op <;> first | rfl | exact absurd rfl h2
  cases b <;> simp [behindInMarks, e1, e2]
def tB (t : TE) : TT := fun σ H Q => t σ H fun x H1 => ∃ c, x = .bl c ∧ Q c H1
theorem pt_cmp {op : CmpOp} {t : TE} (h : PC X op a b t) (h1 : behindInMarks op b = false := by first | exact nobehind _ (by decide) (by decide) | rfl) : PT X (.Compare a [op] [b] pos) (tB t) := by
  intro pins s σ H Q I hw
  refine wpAny_isTrue_Compare1 (thn (h pins s σ H _ I hw) fun v s1 h1 => thn h1 fun u s2 h2 => thn h2 fun c s3 ⟨x, H1, I1, r1, q1⟩ => ?_) h1
  obtain ⟨d, rfl, q⟩ := q1
  cases r1
  exact wpAny_truthy_bool ⟨H1, I1, q⟩
theorem pt_val {e : Expr} {t : TE} (h : PE X e t) (he : ∀ whole, isTrue e X.env whole = (do let v ← whole; standAt e.pos; holding [v] (truthy v)) := by intro _; rfl) : PT X e (tB t) := by
  intro pins s σ H Q I hw
  refine isTrue_plain (thn (h pins s σ H _ I hw) fun v s1 ⟨x, H1, I1, r1, q1⟩ => ?_) (he _)
  obtain ⟨d, rfl, q⟩ := q1
  cases r1
  exact wpAny_truthy_bool ⟨H1, I1, q⟩
variable {tA tB' : TT} {rest : List Expr}
def tAnd (t u : TT) : TT := fun σ H Q => t σ H fun c H1 => if c = true then u σ H1 Q else Q false H1
def tOr (t u : TT) : TT := fun σ H Q => t σ H fun c H1 => if c = true then Q true H1 else u σ H1 Q
def tNot (t : TT) : TT := fun σ H Q => t σ H fun c H1 => Q (!c) H1
theorem pw_and1 (ha : PT X a tA) : PW X (.BoolOp .And [a] pos) tA := by
  intro wh pins s σ H Q I h
  refine isTrue_and (thn (ha pins s σ H Q I h) fun c s1 e => ?_)
  cases c with
  | true => exact isTrue_and_nil e
  | false => exact e
theorem pw_or1 (ha : PT X a tA) : PW X (.BoolOp .Or [a] pos) tA := by
  intro wh pins s σ H Q I h
  refine isTrue_or (thn (ha pins s σ H Q I h) fun c s1 e => ?_)
  cases c with
  | false => exact isTrue_or_nil e
  | true => exact e
theorem pw_and (ha : PT X a tA) (hb : PW X (.BoolOp .And (b :: rest) pos) tB') : PW X (.BoolOp .And (a :: b :: rest) pos) (tAnd tA tB') := by
  intro wh pins s σ H Q I h
  refine isTrue_and (thn (ha pins s σ H _ I h) fun c s1 ⟨H1, I1, q1⟩ => ?_)
  cases c with
  | true => exact hb wh pins s1 σ H1 Q I1 q1
  | false => exact ⟨H1, I1, q1⟩
theorem pw_or (ha : PT X a tA) (hb : PW X (.BoolOp .Or (b :: rest) pos) tB') : PW X (.BoolOp .Or (a :: b :: rest) pos) (tOr tA tB') := by
  intro wh pins s σ H Q I h
  refine isTrue_or (thn (ha pins s σ H _ I h) fun c s1 ⟨H1, I1, q1⟩ => ?_)
  cases c with
  | true => exact ⟨H1, I1, q1⟩
  | false => exact hb wh pins s1 σ H1 Q I1 q1
theorem pt_not (ha : PT X a tA) : PT X (.UnaryOp .Not a pos) (tNot tA) := by
  intro pins s σ H Q I h
  exact isTrue_not (ha pins s σ H (fun c H1 => Q (!c) H1) I h)
def tAndV (ta tb : TE) : TE := fun σ H Q => ta σ H fun x H1 => ∃ c, x = .bl c ∧ if c = true then tb σ H1 Q else Q (.bl false) H1
theorem pe_one {op} {t : TE} (h : PE X a t) : PE X (.BoolOp op [a] pos) t := fun pins s σ H Q I hw => BoolOp_one (h pins s σ H Q I hw)
theorem pe_and (ha : PE X a ta) (hb : PE X (.BoolOp .And (b :: rest) pos) tb) : PE X (.BoolOp .And (a :: b :: rest) pos) (tAndV ta tb) := by
  intro pins s σ H Q I h
  refine BoolOp_and (thn (ha pins s σ H _ I h) fun v s1 ⟨x, H1, I1, r1, q1⟩ => ?_)
  obtain ⟨c, rfl, q1⟩ := q1
  cases r1
  refine wpAny_truthy_bool ?_
  cases c with
  | true => exact hb pins s1 σ H1 Q I1 q1
  | false => exact ⟨.bl false, H1, I1, rfl, q1⟩
end
end L2
namespace L2
open PySem PySem.Spec PyProof.Rows
def SqL (K : PySem.W.Frag) (H : Hp) (a : Addr) (xs : List V) : Prop :=
  Rd H a (.lst xs) ∨
    ∃ (o : Obj) (its : Array Value) (n : Nat), K.lookup a = some o ∧ o.cls = .type "list" ∧ o.dict = none ∧ o.data = .seq its n ∧ its.size ≤ sizeLine ∧ Vals xs its.toList
def SqT (K : PySem.W.Frag) (H : Hp) (a : Addr) (xs : List V) : Prop :=
  Rd H a (.tup xs) ∨
    ∃ (o : Obj) (its : Array Value) (n : Nat), K.lookup a = some o ∧ o.cls = .type "tuple" ∧ o.data = .seq its n ∧ its.size ≤ sizeLine ∧ Vals xs its.toList
def absV : Value → Option V
  | .none => some .non
  | .bool b => some (.bl b)
  | .int i _ => some (.int i)
  | .str x _ => some (.str x)
  | .bytes b _ => some (.byt b)
  | .float b _ => some (.flt b)
  | .ref a => some (.ref a)
  | .type n => some (.ty n)
  | _ => none
theorem RelV.abs {x : V} {u : Value} (r : RelV x u) : absV u = some x := by
  cases x with
  | non => cases r; rfl
  | bl _ => cases r; rfl
  | int _ => obtain ⟨t, rfl⟩ := r; rfl
  | str _ => obtain ⟨t, rfl⟩ := r; rfl
  | byt _ => obtain ⟨t, rfl⟩ := r; rfl
  | flt _ => obtain ⟨t, rfl⟩ := r; rfl
  | ref _ => cases r; rfl
  | ty _ => cases r; rfl
theorem RelV.inj {x y : V} {u : Value} (r : RelV x u) (q : RelV y u) : x = y := Option.some.inj (r.abs.symm.trans q.abs)
theorem Vals.inj : ∀ {xs ys : List V} {us : List Value}, Vals xs us → Vals ys us → xs = ys
  | _, _, _, .nil, .nil => rfl
  | _, _, _, .cons r t, .cons r' t' => by rw [r.inj r', Vals.inj t t']
section
variable {X : Cx} {pins : List (Addr × Obj)} {σ : St} {H : Hp} {s : Shared} {a : Addr} {xs ys : List V}
theorem SqL.of {K : PySem.W.Frag} (h : H a = some (.lst xs)) : SqL K H a xs := .inl (.inl h)
theorem Inv.list (I : Inv X pins σ H s) (h : SqL X.K H a xs) : ∃ its : List Value, Vals xs its ∧ PlainL s.heap a its.toArray ∧ xs.length ≤ sizeLine := by
  rcases h with h | ⟨o, its, n, hk, hc, hd, hs, hz, r⟩
  · obtain ⟨z, its, n, r, e⟩ := h.ok I.hok
    exact ⟨its, r, ⟨_, n, e, rfl, rfl, rfl⟩, z⟩
  · refine ⟨its.toList, r, ⟨o, n, I.kIn a o hk, hc, hd, by simpa using hs⟩, ?_⟩
    have e := r.length
    simp only [Array.length_toList] at e
    lia
theorem Inv.tuple (I : Inv X pins σ H s) (h : SqT X.K H a xs) : ∃ its : List Value, Vals xs its ∧ IsTup s.heap a its.toArray ∧ xs.length ≤ sizeLine := by
  rcases h with h | ⟨o, its, n, hk, hc, hs, hz, r⟩
  · obtain ⟨z, its, r, p⟩ := h.ok I.hok
    exact ⟨its, r, p.tup, z⟩
  · refine ⟨its.toList, r, ⟨o, I.kIn a o hk, hc, n, by simpa using hs⟩, ?_⟩
    have e := r.length
    simp only [Array.length_toList] at e
    lia
theorem Inv.list_inj (I : Inv X pins σ H s) (h : SqL X.K H a xs) (h' : SqL X.K H a ys) : xs = ys := by
  obtain ⟨its, r, ⟨o, n, e, _, _, d⟩, _⟩ := I.list h
  obtain ⟨its', r', ⟨o', n', e', _, _, d'⟩, _⟩ := I.list h'
  rw [e] at e'; cases e'
  rw [d] at d'
  injection d' with d1 _
  have : its = its' := by simpa using congrArg Array.toList d1
  subst this
  exact r.inj r'
theorem Inv.tuple_inj (I : Inv X pins σ H s) (h : SqT X.K H a xs) (h' : SqT X.K H a ys) : xs = ys := by
  obtain ⟨its, r, ⟨o, e, _, n, d⟩, _⟩ := I.tuple h
  obtain ⟨its', r', ⟨o', e', _, n', d'⟩, _⟩ := I.tuple h'
  rw [e] at e'; cases e'
  rw [d] at d'
  injection d' with d1 _
  have : its = its' := by simpa using congrArg Array.toList d1
  subst this
  exact r.inj r'
end
abbrev Cx.wish (X : Cx) (E : Value → Shared → Prop) : Cx := { X with xe := E }
abbrev Cx.nox (X : Cx) : Cx := X.wish fun _ _ => False
theorem Cx.Ok.wish {X : Cx} (ok : X.Ok) (E : Value → Shared → Prop) : (X.wish E).Ok :=
  ⟨ok.mod, ok.kind, ok.glob, ok.blt, ok.above, ok.inj, ok.has, ok.cab, ok.hd, ok.frames, ok.stk, ok.exf, ok.bs, ok.bsz, ok.noex, ok.exfs, ok.funs, ok.frf⟩
theorem Cx.Ok.unwish {X : Cx} {E : Value → Shared → Prop} (ok : (X.wish E).Ok) : X.Ok :=
  ⟨ok.mod, ok.kind, ok.glob, ok.blt, ok.above, ok.inj, ok.has, ok.cab, ok.hd, ok.frames, ok.stk, ok.exf, ok.bs, ok.bsz, ok.noex, ok.exfs, ok.funs, ok.frf⟩
section
variable {X : Cx} {pins : List (Addr × Obj)} {σ : St} {H : Hp} {s : Shared} {E : Value → Shared → Prop}
theorem Inv.wish (I : Inv X pins σ H s) (E : Value → Shared → Prop) : Inv (X.wish E) pins σ H s := ⟨I.ok.wish E, I.os, I.bare, I.base, I.loc, I.cell, I.free, I.freeC, I.pin, I.hok, I.len⟩
theorem Inv.unwish (I : Inv (X.wish E) pins σ H s) : Inv X pins σ H s := ⟨I.ok.unwish, I.os, I.bare, I.base, I.loc, I.cell, I.free, I.freeC, I.pin, I.hok, I.len⟩
theorem SP.unwish {D : Ends} {f : Flow} {s' : Shared} (h : SP (X.wish E) pins D f s') : SP X pins D f s' := by
  cases f with
  | next => obtain ⟨σ', H', I, q⟩ := h; exact ⟨σ', H', I.unwish, q⟩
  | brk => obtain ⟨σ', H', I, q⟩ := h; exact ⟨σ', H', I.unwish, q⟩
  | cont => obtain ⟨σ', H', I, q⟩ := h; exact ⟨σ', H', I.unwish, q⟩
  | ret u => obtain ⟨v, σ', H', I, r, q⟩ := h; exact ⟨v, σ', H', I.unwish, r, q⟩
theorem PSs.nox {st : List Stmt} {t : TS} (h : PSs X.nox st t) : PSs X st t := fun pins s σ H D I hw =>
  wpAny_mono (h pins s σ H D (I.wish _) hw) (fun _ _ q => q.unwish) fun _ _ z => False.elim z
end
section
variable {X : Cx} {st : Stmt} {rest : List Stmt} {t u : TS} {e : Expr} {te : TE} {pos : Pos}
def tNext : TS := fun D σ H => D.nx σ H
def tSeq (t u : TS) : TS := fun D σ H => t { D with nx := u D } σ H
theorem pss_nil : PSs X [] tNext := fun _ _ σ H _ I h => wpAny_execs_nil ⟨σ, H, I, h⟩
theorem pss_cons (h1 : PS X st t) (h2 : PSs X rest u) : PSs X (st :: rest) (tSeq t u) := by
  intro pins s σ H D I h
  refine wpAny_execs_cons (thn (h1 pins s σ H { D with nx := u D } I h) fun f s1 q => ?_)
  cases f with
  | next =>
    obtain ⟨σ', H', I', q⟩ := q
    exact h2 pins s1 σ' H' D I' q
  | ret v => exact q
  | brk => exact q
  | cont => exact q
theorem pss_one (h1 : PS X st t) : PSs X [st] t := by
  intro pins s σ H D I h
  refine wpAny_execs_cons (thn (h1 pins s σ H D I h) fun f s1 q => ?_)
  cases f with
  | next => exact wpAny_execs_nil q
  | ret v => exact q
  | brk => exact q
  | cont => exact q
theorem Inv.quiet {pins : List (Addr × Obj)} {σ : St} {H : Hp} {s : Shared} (I : Inv X pins σ H s) : interactive X.env = false := by simp [interactive, I.ok.kind]
def tDrop (te : TE) : TS := fun D σ H => te σ H fun _ H1 => D.nx σ H1
theorem ps_expr (he : PE X e te) (hs : swapsWith e none pos.line X.env = pure false := by rfl) : PS X (.Expr e pos) (tDrop te) := by
  intro pins s σ H D I h
  exact wpAny_Expr_any (thn (he pins s σ H _ I h) fun v s1 ⟨x, H1, I1, r1, q1⟩ => ⟨σ, H1, I1, q1⟩) I.quiet hs
def tRet (te : TE) : TS := fun D σ H => te σ H D.rt
theorem ps_ret (he : PE X e te) : PS X (.Return (some e) pos) (tRet te) := by
  intro pins s σ H D I h
  exact wpAny_Return_some (thn (he pins s σ H _ I h) fun v s1 ⟨x, H1, I1, r1, q1⟩ => ⟨x, σ, H1, I1, r1, q1⟩)
def tIfS (c : TT) (t u : TS) : TS := fun D σ H => c σ H fun b H1 => if b = true then t D σ H1 else u D σ H1
theorem ps_if {c : Expr} {a b : List Stmt} {tc : TT} (hc : PT X c tc) (ha : PSs X a t) (hb : PSs X b u) : PS X (.If c a b pos) (tIfS tc t u) := by
  intro pins s σ H D I h
  refine wpAny_If (thn (hc pins s σ H _ I h) fun d s1 ⟨H1, I1, q1⟩ => ?_)
  cases d with
  | true => exact ha pins s1 σ H1 D I1 q1
  | false => exact hb pins s1 σ H1 D I1 q1
end
abbrev TG := V → St → Hp → (St → Hp → Prop) → Prop
abbrev TGs := List V → St → Hp → (St → Hp → Prop) → Prop
def PG (X : Cx) (target : Expr) (t : TG) : Prop :=
  ∀ (pins : List (Addr × Obj)) (s : Shared) (σ : St) (H : Hp) (v : V) (u : Value) (Q : St → Hp → Prop), Inv X pins σ H s → RelV v u → t v σ H Q →
    wpAny (model X.prog X.w) X.A (assign target X.env u) (fun _ s' => ∃ σ' H', Inv X pins σ' H' s' ∧ Q σ' H') X.xe s
def PGs (X : Cx) (ts : List Expr) (t : TGs) : Prop :=
  ∀ (pins : List (Addr × Obj)) (s : Shared) (σ : St) (H : Hp) (vs : List V) (us : List Value) (Q : St → Hp → Prop), Inv X pins σ H s → Vals vs us → t vs σ H Q →
    wpAny (model X.prog X.w) X.A (assignInOrder ((assignEach ts X.env).map (·.2)) us) (fun _ s' => ∃ σ' H', Inv X pins σ' H' s' ∧ Q σ' H') X.xe s
abbrev TSet := V → V → V → Hp → (Hp → Prop) → Prop
def PSet (X : Cx) (t : TSet) : Prop :=
  ∀ (pins : List (Addr × Obj)) (s : Shared) (σ : St) (H : Hp) (o i v : V) (ov iv u : Value) (Q : Hp → Prop), Inv X pins σ H s → RelV o ov → RelV i iv → RelV v u → t o i v H Q →
    wpAny (model X.prog X.w) X.A (setItem ov iv u) (fun _ s' => ∃ H', Inv X pins σ H' s' ∧ Q H') X.xe s
section
variable {X : Cx} {pos : Pos}
def gName (i : Nat) : TG := fun v σ H Q => Q (σ.set i (some v)) H
theorem pg_name {i : Nat} {x : Str} (hN : X.N.Nodup) (hi : X.N[i]? = some x) (hx : Loc X.env.scope x) (hf : X.fn x = true ∨ X.env.scope.names.lookup x = some .local := by first | exact .inl rfl | exact .inr rfl | assumption) : PG X (.Name x pos) (gName i) := by
  intro pins s σ H v u Q I r h
  exact wpAny_assign_Name (store_ok I hN hi hx r (fun s' I' => ⟨_, H, I', h⟩) hf)
def gNil : TGs := fun vs σ H Q => vs = [] ∧ Q σ H
def gCons (t : TG) (u : TGs) : TGs := fun vs σ H Q => ∃ v r, vs = v :: r ∧ t v σ H fun σ' H' => u r σ' H' Q
theorem pgs_nil : PGs X [] gNil := by
  intro pins s σ H vs us Q I r h
  obtain ⟨e, h⟩ := h
  subst e
  cases r
  exact assignInOrder_nil ⟨σ, H, I, h⟩
theorem pgs_cons {e : Expr} {es : List Expr} {t : TG} {u : TGs} (h1 : PG X e t) (h2 : PGs X es u)
    (hs : (assignEach (e :: es) X.env).map (·.2) = assign e X.env :: (assignEach es X.env).map (·.2) := by rfl) : PGs X (e :: es) (gCons t u) := by
  intro pins s σ H vs us Q I r h
  obtain ⟨v, vr, e1, h⟩ := h
  subst e1
  cases r with
  | cons r rr =>
    rw [hs]
    refine assignInOrder_cons (thn (h1 pins s σ H _ _ _ I r h) fun _ s1 ⟨σ1, H1, I1, q1⟩ => ?_)
    exact h2 pins s1 σ1 H1 _ _ Q I1 rr q1
def gTup (K : PySem.W.Frag) (n : Nat) (t : TGs) : TG := fun v σ H Q => ∃ a xs, v = .ref a ∧ SqT K H a xs ∧ xs.length = n ∧ t xs σ H Q
theorem pg_tup {es : List Expr} {k : Nat} {t : TGs} {n : Nat} (hc : X.calm = true) (h : PGs X es t)
    (hn : (assignEach es X.env).length = n := by rfl) (hst : (assignEach es X.env).findIdx? (·.1) = none := by rfl) : PG X (.Tuple es k pos) (gTup X.K n t) := by
  intro pins s σ H v u Q I r hw
  obtain ⟨a, xs, e1, hq, hl, hw⟩ := hw
  subst e1
  cases r
  obtain ⟨its, rv, ht, hz⟩ := I.tuple hq
  refine assign_Tuple_tuple (I.ok.hd hc) ht (by simp [hn, ← hl, rv.length]) hst fun h' hx => ?_
  have I1 : Inv X pins σ H { s with heap := h' } := I.kept (t' := s.toks) fun b o e => hx b o (Nat.ne_of_lt (Heap.lt_size e)) e
  exact h pins _ σ H xs _ Q I1 (by simpa using rv) hw
def gSub (to ti : TE) (t : TSet) : TG := fun v σ H Q => to σ H fun o H1 => ti σ H1 fun i H2 => t o i v H2 fun H3 => Q σ H3
theorem pg_sub {o i : Expr} {to ti : TE} {t : TSet} (ho : PE X o to) (hi : PE X i ti) (hs : PSet X t)
    (ha : ∀ v, assign (.Subscript o i pos) X.env v = (do
      let ov ← holding [v] (eval o X.env)
      let iv ← holding [v, ov] (eval i X.env)
      standAt pos
      holding [v, ov, iv] (setItem ov iv v)
      release [v, ov, iv] []) := by intro _; rfl) : PG X (.Subscript o i pos) (gSub to ti t) := by
  intro pins s σ H v u Q I r h
  rw [ha]
  refine wpAny_bind (wpAny_holding (thn (ho pins s σ H _ I h) fun ov s1 ⟨x, H1, I1, r1, q1⟩ => ?_))
  refine wpAny_bind (wpAny_holding (thn (hi pins s1 σ H1 _ I1 q1) fun iv s2 ⟨y, H2, I2, r2, q2⟩ => ?_))
  refine wpAny_bind (wpAny_standAt (wpAny_bind (wpAny_holding (thn (hs pins s2 σ H2 x y v ov iv u _ I2 r1 r2 r q2) fun _ s3 ⟨H3, I3, q3⟩ => ?_))))
  exact wpAny_release ⟨σ, H3, I3, q3⟩
def tAsg (te : TE) (g : TG) : TS := fun D σ H => te σ H fun x H1 => g x σ H1 D.nx
theorem ps_asg {tg e : Expr} {te : TE} {g : TG} (he : PE X e te) (hg : PG X tg g) (hs : swapsWithSole [tg] e pos.line X.env = pure false := by rfl) (hw : swappedStores [tg] e X.env = pure none := by rfl)
    (h1 : (assignEach [tg] X.env).map (·.2) = [assign tg X.env] := by rfl) : PS X (.Assign [tg] e pos) (tAsg te g) := by
  intro pins s σ H D I h
  refine wpAny_Assign_stores (thn (he pins s σ H _ I h) fun v s1 ⟨x, H1, I1, r1, q1⟩ => ?_) hs hw
  rw [h1]
  exact thn (hg pins s1 σ H1 x v _ I1 r1 q1) fun _ s2 q => q
theorem ps_set {i : Nat} {x : Str} {e : Expr} {te : TE} {pos' : Pos} (hN : X.N.Nodup) (hi : X.N[i]? = some x) (hx : Loc X.env.scope x) (he : PE X e te) (hs : swapsWith e (some (.Name x pos')) pos.line X.env = pure false := by rfl) (hf : X.fn x = true ∨ X.env.scope.names.lookup x = some .local := by first | exact .inl rfl | exact .inr rfl | assumption) :
    PS X (.Assign [.Name x pos'] e pos) (tAsg te (gName i)) := by
  intro pins s σ H D I h
  refine wpAny_Assign_Name (thn (he pins s σ H _ I h) fun v s1 ⟨y, H1, I1, r1, q1⟩ => ?_) hs
  exact store_ok I1 hN hi hx r1 (fun s2 I2 => ⟨_, H1, I2, q1⟩) hf
end
section
variable {X : Cx} {pos : Pos}
end
structure It where
  go : Nat → Hp → Prop
  yld : Nat → Hp → V → Hp → Prop
  stop : Nat → Hp → Prop
def FpOk (X : Cx) (pins : List (Addr × Obj)) (H : Hp) (b : Addr) : Prop :=
  H b = none ∧ b ≠ X.env.locals ∧ b ∉ X.fs ∧ (b ∈ X.ex ∨ X.s₀.heap.objs.size ≤ b) ∧ (∀ x c, X.env.cells.lookup x = some c → c ≠ b) ∧ ∀ p ∈ X.pn ++ pins, p.1 ≠ b
theorem Inv.fpOk {X : Cx} {pins : List (Addr × Obj)} {σ : St} {H H' : Hp} {s : Shared} {b : Addr} (I : Inv X pins σ H s) (hb : s.heap.objs.size ≤ b) (hn : H' b = none) : FpOk X pins H' b := by
  refine ⟨hn, Nat.ne_of_gt (Nat.lt_of_lt_of_le I.lt hb), I.nofs hb, .inr (Nat.le_trans I.sz hb), fun x c e z => ?_, fun p hp z => ?_⟩
  · obtain ⟨v, q⟩ := I.cell x c e
    exact absurd (Nat.lt_of_lt_of_le q.lt (by rw [z]; exact hb)) (Nat.lt_irrefl _)
  · exact absurd (Nat.lt_of_lt_of_le (Heap.lt_size (I.pin p hp).1) (by rw [z]; exact hb)) (Nat.lt_irrefl _)
structure Turn (P : Program) (w : World) (K : PySem.W.Frag) (tg : Expr) (J : It) (fp : List Addr) (it : Addr) (tn : Nat → Heap → Prop) : Prop where
  mem : it ∈ fp
  obj : ∀ i h, tn i h → ∀ b ∈ fp, ∃ o, h.get? b = some o ∧ ∀ v, o.data ≠ .cell v
  keep : ∀ i h h', tn i h → (∀ b ∈ fp, ∀ o, h.get? b = some o → h'.get? b = some o) → tn i h'
  item : ∀ (X : Cx), X.prog = P → X.w = w → X.K = K → X.calm = true → ∀ (i : Nat) (pins : List (Addr × Obj)) (s : Shared) (σ : St) (H : Hp) (E : Value → Shared → Prop), Inv X pins σ H s → (∀ b ∈ fp, FpOk X pins H b) → tn i s.heap → J.go i H →
    wpAny (model P w) X.A (pyNext (.ref it)) (fun r s1 => ∃ u, r = some u ∧
      wpAny (model P w) X.A (letOwnedTupleGo tg (.ref it) u) (fun _ s2 => ∃ x H', Inv X pins σ H' s2 ∧ RelV x u ∧ J.yld i H x H' ∧ tn (i + 1) s2.heap ∧ ∀ b ∈ fp, H' b = none) E s1) E s
  done : ∀ (X : Cx), X.prog = P → X.w = w → X.K = K → X.calm = true → ∀ (i : Nat) (pins : List (Addr × Obj)) (s : Shared) (σ : St) (H : Hp) (E : Value → Shared → Prop), Inv X pins σ H s → (∀ b ∈ fp, FpOk X pins H b) → tn i s.heap → J.stop i H →
    wpAny (model P w) X.A (pyNext (.ref it)) (fun r s1 => r = none ∧ Inv X pins σ H s1) E s
  self : ∀ (A : Around) (i : Nat) (s : Shared) (Q : Value → Shared → Prop) (E : Value → Shared → Prop), tn i s.heap → Q (.ref it) s → wpAny (model P w) A (pyIter (.ref it)) Q E s
abbrev TI := St → Hp → (It → Hp → Prop) → Prop
def PIE (X : Cx) (pins : List (Addr × Obj)) (σ : St) (tg : Expr) (R : It → Hp → Prop) (itv : Value) (s2 : Shared) : Prop :=
  ∃ (it : Addr) (fp : List Addr) (tn : Nat → Heap → Prop) (J : It) (H' : Hp), itv = .ref it ∧ Inv X pins σ H' s2 ∧ Turn X.prog X.w X.K tg J fp it tn ∧ tn 0 s2.heap ∧ (∀ b ∈ fp, FpOk X pins H' b) ∧ R J H'
def PI (X : Cx) (tg iter : Expr) (wi : TI) : Prop :=
  ∀ (pins : List (Addr × Obj)) (s : Shared) (σ : St) (H : Hp) (R : It → Hp → Prop), Inv X pins σ H s → wi σ H R →
    wpAny (model X.prog X.w) X.A (eval iter X.env) (fun v s1 => wpAny (model X.prog X.w) X.A (pyIter v) (PIE X pins σ tg R) X.xe s1) X.xe s
theorem go_of {M : Model} {A : Around} {E : Value → Shared → Prop} {s : Shared} {tg : Expr} {it : Addr} {u : Value} {o : Obj} {n : String} {vs : Array Value} {Q : Unit → Shared → Prop} (ho : s.heap.get? it = some o) (hc : o.cls = .type n) (hd : o.data = .fields vs)
    (hn : ["enumerate", "zip", "dict_itemiterator", "dict_reverseitemiterator", "odict_iterator", "itertools.zip_longest", "itertools.pairwise"].contains n = false) (hQ : Q () s) : wpAny M A (letOwnedTupleGo tg (.ref it) u) Q E s := by
  unfold letOwnedTupleGo
  cases tg <;> first
    | exact wpAny_pure hQ
    | (cases u <;> first
        | exact wpAny_pure hQ
        | (refine wpAny_bind (wpAny_load ho ?_)
           rw [hc, hd]
           show wpAny M A (if (["enumerate", "zip", "dict_itemiterator", "dict_reverseitemiterator", "odict_iterator", "itertools.zip_longest", "itertools.pairwise"].contains n && vs[0]? == some (rawInt _)) = true then _ else _) Q E s
           rw [if_neg (by intro h; rw [hn, Bool.false_and] at h; cases h)]
           exact wpAny_pure hQ))
def Itl (K : PySem.W.Frag) (a : Addr) : It :=
  ⟨fun i H => ∃ xs x, SqL K H a xs ∧ xs[i]? = some x, fun i H x H' => H' = H ∧ ∀ xs, SqL K H a xs → xs[i]? = some x, fun i H => ∃ xs, SqL K H a xs ∧ xs.length ≤ i⟩
def Itt (K : PySem.W.Frag) (a : Addr) : It :=
  ⟨fun i H => ∃ xs x, SqT K H a xs ∧ xs[i]? = some x, fun i H x H' => H' = H ∧ ∀ xs, SqT K H a xs → xs[i]? = some x, fun i H => ∃ xs, SqT K H a xs ∧ xs.length ≤ i⟩
def Itr (lo : Int) (n : Nat) : It := ⟨fun i _ => i < n, fun i H x H' => H' = H ∧ x = .int (lo + i), fun i _ => n ≤ i⟩
theorem turn_list {P : Program} {w : World} {K : PySem.W.Frag} {tg : Expr} (a it : Addr) : Turn P w K tg (Itl K a) [it] it (fun i h => h.IsListIter it a i) where
  mem := by simp
  obj := fun i h st b hb => by
    have e : b = it := by simpa using hb
    subst e
    obtain ⟨o, e, c, d⟩ := st
    exact ⟨o, e, fun v z => by rw [d] at z; cases z⟩
  keep := fun i h h' st k => st.at fun o e => k it (by simp) o e
  item := by
    intro X hP hw hK hc i pins s σ H E I hf st hg
    subst hP hw hK
    obtain ⟨xs, x, hq, hx⟩ := hg
    obtain ⟨its, rv, p, hz⟩ := I.list hq
    obtain ⟨u, hu, ru⟩ := rv.get hx
    obtain ⟨f0, f1, f2, f3, f4, f5⟩ := hf it (by simp)
    refine wpAny_pyNext_list_item st p.isList (x := u) (by simpa using hu) fun h' st' sb => ?_
    have I1 : Inv X pins σ H { s with heap := h' } := I.turned (t' := s.toks) (fun b o hb e => (sb.2 b hb).trans e) f0 f1 f3 f4 f5
    obtain ⟨o, e, c, d⟩ := id st'
    exact ⟨u, rfl, go_of (s := { s with heap := h' }) e c d (by decide) ⟨x, H, I1, ru, ⟨rfl, fun ys hy => by rw [I.list_inj hy hq]; exact hx⟩, st', fun b hb => (hf b hb).1⟩⟩
  done := by
    intro X hP hw hK hc i pins s σ H E I hf st hg
    subst hP hw hK
    obtain ⟨xs, hq, hx⟩ := hg
    obtain ⟨its, rv, p, hz⟩ := I.list hq
    obtain ⟨f0, f1, f2, f3, f4, f5⟩ := hf it (by simp)
    have hl := rv.length
    exact wpAny_pyNext_list_end (I.ok.hd hc) st p.isList (by simp; lia) fun h' eb => ⟨rfl, I.turned (t' := s.toks) (fun b o hb e => eb b o hb e) f0 f1 f3 f4 f5⟩
  self := fun _ _ _ _ _ st h => wpAny_pyIter_listiter st h
theorem turn_tuple {P : Program} {w : World} {K : PySem.W.Frag} {tg : Expr} (a it : Addr) : Turn P w K tg (Itt K a) [it] it (fun i h => h.IsTupleIter it a i) where
  mem := by simp
  obj := fun i h st b hb => by
    have e : b = it := by simpa using hb
    subst e
    obtain ⟨o, e, c, d⟩ := st
    exact ⟨o, e, fun v z => by rw [d] at z; cases z⟩
  keep := fun i h h' st k => st.at fun o e => k it (by simp) o e
  item := by
    intro X hP hw hK hc i pins s σ H E I hf st hg
    subst hP hw hK
    obtain ⟨xs, x, hq, hx⟩ := hg
    obtain ⟨its, rv, p, hz⟩ := I.tuple hq
    obtain ⟨u, hu, ru⟩ := rv.get hx
    obtain ⟨f0, f1, f2, f3, f4, f5⟩ := hf it (by simp)
    refine wpAny_pyNext_tuple_item st (show s.heap.IsTuple a its.toArray from p) (x := u) (by simpa using hu) fun h' st' sb => ?_
    have I1 : Inv X pins σ H { s with heap := h' } := I.turned (t' := s.toks) (fun b o hb e => (sb.2 b hb).trans e) f0 f1 f3 f4 f5
    obtain ⟨o, e, c, d⟩ := id st'
    exact ⟨u, rfl, go_of (s := { s with heap := h' }) e c d (by decide) ⟨x, H, I1, ru, ⟨rfl, fun ys hy => by rw [I.tuple_inj hy hq]; exact hx⟩, st', fun b hb => (hf b hb).1⟩⟩
  done := by
    intro X hP hw hK hc i pins s σ H E I hf st hg
    subst hP hw hK
    obtain ⟨xs, hq, hx⟩ := hg
    obtain ⟨its, rv, p, hz⟩ := I.tuple hq
    obtain ⟨f0, f1, f2, f3, f4, f5⟩ := hf it (by simp)
    have hl := rv.length
    exact wpAny_pyNext_tuple_end (I.ok.hd hc) st (show s.heap.IsTuple a its.toArray from p) (by simp; lia) fun h' eb => ⟨rfl, I.turned (t' := s.toks) (fun b o hb e => eb b o hb e) f0 f1 f3 f4 f5⟩
  self := fun _ _ _ _ _ st h => wpAny_pyIter_tupleiter st h
theorem turn_range {P : Program} {w : World} {K : PySem.W.Frag} {tg : Expr} (it : Addr) (lo : Int) (n : Nat) : Turn P w K tg (Itr lo n) [it] it (fun i h => IsRangeIter h it (lo + (i : Nat) * 1) ((n : Int) - (i : Nat)) 1) where
  mem := by simp
  obj := fun i h st b hb => by
    have e : b = it := by simpa using hb
    subst e
    exact ⟨_, st, fun v z => by
      have z' : Data.fields _ = Data.cell v := z
      cases z'⟩
  keep := fun i h h' st k => k it (by simp) _ st
  item := by
    intro X hP hw hK hc i pins s σ H E I hf st hg
    subst hP hw hK
    obtain ⟨f0, f1, f2, f3, f4, f5⟩ := hf it (by simp)
    have W := Walks.range (prog := X.prog) (w := X.w) (I.ok.hd hc) it lo 1 n
    refine W.item i s _ _ hg st fun v h' tk hv st' kk => ?_
    obtain ⟨t, rfl⟩ := hv
    have I1 : Inv X pins σ H { s with heap := h', toks := tk } := I.turned (fun b o hb e => kk b o (by simpa using hb) e) f0 f1 f3 f4 f5
    refine ⟨_, rfl, go_of (s := { s with heap := h', toks := tk }) (n := "range_iterator") st' rfl rfl (by decide) ⟨.int (lo + i), H, I1, ⟨t, ?_⟩, ⟨rfl, rfl⟩, st', fun b hb => (hf b hb).1⟩⟩
    rw [Int.mul_one]
  done := by
    intro X hP hw hK hc i pins s σ H E I hf st hg
    subst hP hw hK
    obtain ⟨f0, f1, f2, f3, f4, f5⟩ := hf it (by simp)
    exact wpAny_pyNext_range_end (I.ok.hd hc) st (by have : n ≤ i := hg; lia) fun h' eb => ⟨rfl, I.turned (t' := s.toks) (fun b o hb e => eb b o hb e) f0 f1 f3 f4 f5⟩
  self := fun _ _ _ _ _ st h => wpAny_pyIter_rangeiter st h
end L2
namespace L2
open PySem PySem.Spec PyProof.Rows
section
variable {X : Cx} {tg : Expr}
theorem range_it {pins : List (Addr × Obj)} {σ : St} {H : Hp} {s : Shared} {R : It → Hp → Prop} {E : Value → Shared → Prop} {lo hi : Int} {t u v : Tok} {tk : Nat} (I : Inv X pins σ H s) (h1 : -(2 ^ 62) ≤ lo) (h2 : lo < 2 ^ 62) (h3 : -(2 ^ 62) ≤ hi) (h4 : hi < 2 ^ 62)
    (q : R (Itr lo (hi - lo).toNat) H) : wpAny (model X.prog X.w) X.A (pyIter (.ref s.heap.objs.size)) (PIE X pins σ tg R) E { s with heap := s.heap.push { cls := .type "range", data := .fields #[.int lo t, .int hi u, .int 1 v] }, toks := tk } := by
  refine wpAny_pyIter_range (IsRange.new ..) (small_one h1 h2 h3 h4) ?_
  have I1 : Inv X pins σ H { s with heap := s.heap.push { cls := .type "range", data := .fields #[.int lo t, .int hi u, .int 1 v] }, toks := tk } := I.kept fun b o e => Heap.get?_push_of_some _ e
  refine ⟨(s.heap.push { cls := .type "range", data := .fields #[.int lo t, .int hi u, .int 1 v] }).objs.size, [(s.heap.push { cls := .type "range", data := .fields #[.int lo t, .int hi u, .int 1 v] }).objs.size], _, _, H, rfl,
    I1.kept (t' := tk) fun b o e => Heap.get?_push_of_some _ e, turn_range _ lo (hi - lo).toNat, ?_, fun b hb => ?_, q⟩
  · have e1 : lo + ((0 : Nat) : Int) * 1 = lo := by simp
    have e2 : (((hi - lo).toNat : Nat) : Int) - ((0 : Nat) : Int) = Builtin.Range.rangeSize lo hi 1 := by rw [rangeSize_one]; split <;> lia
    show IsRangeIter _ _ (lo + ((0 : Nat) : Int) * 1) ((((hi - lo).toNat : Nat) : Int) - ((0 : Nat) : Int)) 1
    rw [e1, e2]
    exact Heap.get?_push_size _ rfl
  · have e : b = (s.heap.push { cls := .type "range", data := .fields #[.int lo t, .int hi u, .int 1 v] }).objs.size := by simpa using hb
    subst e
    exact I1.fpOk (Nat.le_refl _) (I1.hok.fresh (Nat.le_refl _))
def iRng1 (ta : TA) : TI := fun σ H R => ta σ H fun vs H1 => ∃ j : Int, vs = [.int j] ∧ -(2 ^ 62) ≤ j ∧ j < 2 ^ 62 ∧ R (Itr 0 j.toNat) H1
theorem pi_range1 {a : Expr} {ta : TA} {p pos : Pos} (hg : Gl X "range") (hm : X.mg "range" = none) (ha : PA X [a] ta) (hs : starEach [a] X.env = [(false, eval a X.env)] := by rfl) : PI X tg (.Call (.Name "range" p) [a] [] pos) (iRng1 ta) := by
  intro pins s σ H R I h
  refine Call_ (ld_blt I hg hm boot_range (PyProof.Rows.callWith_type1 (thn (ha pos pins s σ H _ I h) fun us s1 ⟨vs, H1, I1, r1, q1⟩ => ?_) hs rfl))
  obtain ⟨j, e, q1, q2, q⟩ := q1
  subst e
  cases r1 with
  | cons r rr =>
    cases rr
    obtain ⟨t, rfl⟩ := r
    exact call_range_1 (range_it I1 (by lia) (by lia) q1 q2 (by simpa using q))
def tFor (wi : TI) (g : TG) (tb : TS) : TS := fun D σ H => wi σ H fun J H1 => ∃ W : Nat → Nat → St → Hp → Prop, (∃ m, W 0 m σ H1) ∧ ∀ i m σ H, W i m σ H →
  (J.stop i H ∧ D.nx σ H) ∨ (J.go i H ∧ ∃ N : St → Hp → Prop, (∀ σ' H', N σ' H' → ∃ m', m' < m ∧ W (i + 1) m' σ' H') ∧ ∀ x H', J.yld i H x H' → g x σ H' fun σ2 H2 => tb { D with nx := N, ct := N, bk := D.nx } σ2 H2)
def pinsAt (fp : List Addr) (h : Heap) : List (Addr × Obj) := fp.filterMap fun b => (h.get? b).map fun o => (b, o)
theorem mem_pinsAt {fp : List Addr} {h : Heap} {b : Addr} {o : Obj} (hb : b ∈ fp) (e : h.get? b = some o) : (b, o) ∈ pinsAt fp h := List.mem_filterMap.mpr ⟨b, hb, by rw [e]; rfl⟩
theorem of_pinsAt {fp : List Addr} {h : Heap} {p : Addr × Obj} (hp : p ∈ pinsAt fp h) : p.1 ∈ fp ∧ h.get? p.1 = some p.2 := by
  obtain ⟨b, hb, e⟩ := List.mem_filterMap.mp hp
  cases q : h.get? b with
  | none => rw [q] at e; cases e
  | some o =>
    rw [q] at e
    have e' : (b, o) = p := Option.some.inj e
    subst e'
    exact ⟨hb, q⟩
theorem Inv.pinned {pins : List (Addr × Obj)} {σ : St} {H : Hp} {s : Shared} {fp : List Addr} (I : Inv X pins σ H s) (hf : ∀ b ∈ fp, FpOk X pins H b) (ho : ∀ b ∈ fp, ∃ o, s.heap.get? b = some o ∧ ∀ v, o.data ≠ .cell v) : Inv X (pins ++ pinsAt fp s.heap) σ H s :=
  I.pins_of fun p hp => (List.mem_append.mp hp).elim (fun z => I.pin p (List.mem_append_right _ z)) fun z => by
    obtain ⟨hb, e⟩ := of_pinsAt z
    obtain ⟨f0, f1, f2, _⟩ := hf p.1 hb
    obtain ⟨o, e', d⟩ := ho p.1 hb
    rw [e] at e'; cases e'
    exact ⟨e, f0, f1, f2, d⟩
theorem Inv.unpinned {pins pl : List (Addr × Obj)} {σ : St} {H : Hp} {s : Shared} (I : Inv X (pins ++ pl) σ H s) : Inv X pins σ H s := I.pins_of fun p hp => I.pin p (List.mem_append_right _ (List.mem_append_left _ hp))
theorem ps_for {iter : Expr} {body : List Stmt} {wi : TI} {g : TG} {tb : TS} {pos : Pos} (hp : PassesOwn (model X.prog X.w) X.A X.env X.xe) (hc : X.calm = true) (hi : PI X tg iter wi) (hg : PG X tg g) (hb : PSs X body tb)
    (hs : ∀ x, foldedSetIterable iter X.env x = pure x := by intro _; rfl) : PS X (.For tg iter body [] pos) (tFor wi g tb) := by
  intro pins s σ H D I h
  refine wpAny_For (thn (hi pins s σ H _ I h) fun v s1 h1 => thn h1 fun itv s2 h2 => ?_) hs
  obtain ⟨it, fp, tn, J, H2, e, I2, T, st2, f2, W, ⟨m0, w0⟩, turn⟩ := h2
  subst e
  have stat : ∀ {H' : Hp}, (∀ b ∈ fp, H' b = none) → ∀ b ∈ fp, FpOk X pins H' b := fun hn b hb => ⟨hn b hb, (f2 b hb).2⟩
  refine codeAny_forLoop_any (fun n s' => ∃ i σ' H', Inv X pins σ' H' s' ∧ tn i s'.heap ∧ (∀ b ∈ fp, H' b = none) ∧ W i n σ' H') ?_ m0 ⟨0, σ, H2, I2, st2, fun b hb => (f2 b hb).1, w0⟩
  rintro n s3 ⟨i, σ3, H3, I3, st3, fr3, w3⟩
  rcases turn i n σ3 H3 w3 with ⟨stop, qn⟩ | ⟨go, N, hN, step⟩
  · refine wpAny_passesOwn hp (thn (T.done X rfl rfl rfl hc i pins s3 σ3 H3 X.xe I3 (stat fr3) st3 stop) fun r s4 ⟨hr, I4⟩ => ?_)
    subst hr
    exact wpAny_execs_nil ⟨σ3, H3, I4, qn⟩
  · refine wpAny_passesOwn hp (thn (T.item X rfl rfl rfl hc i pins s3 σ3 H3 X.xe I3 (stat fr3) st3 go) fun r s4 ⟨u, hr, h4⟩ => ?_)
    subst hr
    refine wpAny_passesOwn hp (thn h4 fun _ s5 ⟨x, H5, I5, r5, y5, st5, fr5⟩ => ?_)
    have I5' := I5.pinned (stat fr5) (T.obj _ _ st5)
    refine wpAny_passesOwn hp (thn (hg _ s5 σ3 H5 x u _ I5' r5 (step x H5 y5)) fun _ s6 ⟨σ6, H6, I6, q6⟩ => ?_)
    refine wpAny_passesOwn hp (thn (hb _ s6 σ6 H6 _ I6 q6) fun f s7 q7 => ?_)
    have again : ∀ {σ7 : St} {H7 : Hp}, Inv X (pins ++ pinsAt fp s5.heap) σ7 H7 s7 → N σ7 H7 → ∃ m, m < n ∧ ∃ i σ' H', Inv X pins σ' H' s7 ∧ tn i s7.heap ∧ (∀ b ∈ fp, H' b = none) ∧ W i m σ' H' := fun {σ7 H7} I7 n7 => by
      obtain ⟨m', hm, w7⟩ := hN σ7 H7 n7
      refine ⟨m', hm, i + 1, σ7, H7, I7.unpinned, T.keep _ _ _ st5 fun b hb o e => (I7.pin (b, o) (List.mem_append_right _ (List.mem_append_right _ (mem_pinsAt hb e)))).1, fun b hb => ?_, w7⟩
      obtain ⟨o, e, d⟩ := T.obj _ _ st5 b hb
      exact (I7.pin (b, o) (List.mem_append_right _ (List.mem_append_right _ (mem_pinsAt hb e)))).2.1
    cases f with
    | next => obtain ⟨σ7, H7, I7, n7⟩ := q7; exact again I7 n7
    | cont => obtain ⟨σ7, H7, I7, n7⟩ := q7; exact again I7 n7
    | brk => obtain ⟨σ7, H7, I7, q7⟩ := q7; exact ⟨σ7, H7, I7.unpinned, q7⟩
    | ret v => obtain ⟨x7, σ7, H7, I7, r7, q7⟩ := q7; exact ⟨x7, σ7, H7, I7.unpinned, r7, q7⟩
end
end L2
namespace L2
open PySem PySem.Spec PyProof.Rows
abbrev R2 := V → V → Hp → VK → Prop
def OpR (X : Cx) (f : Value → Value → Sem Value) (r : R2) : Prop :=
  ∀ (pins : List (Addr × Obj)) (s : Shared) (σ : St) (H : Hp) (x y : V) (v u : Value) (Q : VK), Inv X pins σ H s → RelV x v → RelV y u → r x y H Q →
    wpAny (model X.prog X.w) X.A (f v u) (EP X pins σ Q) X.xe s
def UnR (X : Cx) (f : Value → Sem Value) (r : V → Hp → VK → Prop) : Prop :=
  ∀ (pins : List (Addr × Obj)) (s : Shared) (σ : St) (H : Hp) (x : V) (v : Value) (Q : VK), Inv X pins σ H s → RelV x v → r x H Q →
    wpAny (model X.prog X.w) X.A (f v) (EP X pins σ Q) X.xe s
def CallR (X : Cx) (f : Value) (r : List V → Hp → VK → Prop) : Prop :=
  ∀ (pins : List (Addr × Obj)) (s : Shared) (σ : St) (H : Hp) (xs : List V) (us : List Value) (Q : VK), Inv X pins σ H s → Vals xs us → r xs H Q →
    wpAny (model X.prog X.w) X.A (call f us) (EP X pins σ Q) X.xe s
def tOp (r : R2) (ta tb : TE) : TE := fun σ H Q => ta σ H fun x H1 => tb σ H1 fun y H2 => r x y H2 Q
def tUn (r : V → Hp → VK → Prop) (ta : TE) : TE := fun σ H Q => ta σ H fun x H1 => r x H1 Q
def rI (C : Int → Int → Prop) (g : Int → Int → V) : R2 := fun x y H Q => ∃ i j, x = .int i ∧ y = .int j ∧ C i j ∧ Q (g i j) H
def rI0 (g : Int → Int → V) : R2 := fun x y H Q => ∃ i j, x = .int i ∧ y = .int j ∧ Q (g i j) H
def rU (g : Int → V) : V → Hp → VK → Prop := fun x H Q => ∃ i, x = .int i ∧ Q (g i) H
section
variable {X : Cx} {a b c : Expr} {ta tb tc : TE} {pos : Pos}
theorem binT (ha : PE X a ta) (hb : PE X b tb) {pins : List (Addr × Obj)} {s : Shared} {σ : St} {H : Hp} {R : V → V → Hp → Prop} (I : Inv X pins σ H s)
    (h : ta σ H fun x H1 => tb σ H1 fun y H2 => R x y H2) {Q : Value → Shared → Prop} {f : Value → Value → Sem Value}
    (hf : ∀ v u s2 x y H2, Inv X pins σ H2 s2 → RelV x v → RelV y u → R x y H2 → wpAny (model X.prog X.w) X.A (f v u) Q X.xe s2) :
    wpAny (model X.prog X.w) X.A (eval a X.env) (fun v s₁ => wpAny (model X.prog X.w) X.A (eval b X.env) (fun u s₂ => wpAny (model X.prog X.w) X.A (f v u) Q X.xe s₂) X.xe s₁) X.xe s := by
  refine thn (ha pins s σ H _ I h) fun v s1 ⟨x, H1, I1, r1, q1⟩ => ?_
  refine thn (hb pins s1 σ H1 _ I1 q1) fun u s2 ⟨y, H2, I2, r2, q2⟩ => ?_
  exact hf v u s2 x y H2 I2 r1 r2 q2
theorem pe_op {op : Operator} {r : R2} (ho : OpR X (binaryOp op) r) (ha : PE X a ta) (hb : PE X b tb) : PE X (.BinOp a op b pos) (tOp r ta tb) := by
  intro pins s σ H Q I h
  exact wpAny_BinOp (binT ha hb I h fun v u s2 x y H2 I2 rx ry q => ho pins s2 σ H2 x y v u Q I2 rx ry q)
theorem pe_un {op : UnaryOp} {r : V → Hp → VK → Prop} (ho : UnR X (unaryOp op) r) (ha : PE X a ta) : PE X (.UnaryOp op a pos) (tUn r ta) := by
  intro pins s σ H Q I h
  exact UnaryOp_ (thn (ha pins s σ H _ I h) fun v s1 ⟨x, H1, I1, r1, q1⟩ => ho pins s1 σ H1 x v Q I1 r1 q1)
theorem opI {f : Value → Value → Sem Value} {C : Int → Int → Prop} {g : Int → Int → Int}
    (rule : ∀ (i j : Int) (t u : Tok) (s : Shared) (Q : Value → Shared → Prop) (E : Value → Shared → Prop), C i j → Q (.int (g i j) s.toks) { s with toks := s.toks + 1 } → wpAny (model X.prog X.w) X.A (f (.int i t) (.int j u)) Q E s) :
    OpR X f (rI C fun i j => .int (g i j)) := by
  intro pins s σ H x y v u Q I rx ry h
  obtain ⟨i, j, rfl, rfl, hc, q⟩ := h
  obtain ⟨t, rfl⟩ := rx
  obtain ⟨t', rfl⟩ := ry
  exact rule i j t t' s _ _ hc ⟨.int (g i j), H, I.tok _, ⟨_, rfl⟩, q⟩
theorem opI0 {f : Value → Value → Sem Value} {g : Int → Int → Int}
    (rule : ∀ (i j : Int) (t u : Tok) (s : Shared) (Q : Value → Shared → Prop) (E : Value → Shared → Prop), Q (.int (g i j) s.toks) { s with toks := s.toks + 1 } → wpAny (model X.prog X.w) X.A (f (.int i t) (.int j u)) Q E s) :
    OpR X f (rI0 fun i j => .int (g i j)) := by
  intro pins s σ H x y v u Q I rx ry h
  obtain ⟨i, j, rfl, rfl, q⟩ := h
  obtain ⟨t, rfl⟩ := rx
  obtain ⟨t', rfl⟩ := ry
  exact rule i j t t' s _ _ ⟨.int (g i j), H, I.tok _, ⟨_, rfl⟩, q⟩
theorem opB0 {f : Value → Value → Sem Value} {g : Int → Int → Bool}
    (rule : ∀ (i j : Int) (t u : Tok) (s : Shared) (Q : Value → Shared → Prop) (E : Value → Shared → Prop), Q (.bool (g i j)) s → wpAny (model X.prog X.w) X.A (f (.int i t) (.int j u)) Q E s) :
    OpR X f (rI0 fun i j => .bl (g i j)) := by
  intro pins s σ H x y v u Q I rx ry h
  obtain ⟨i, j, rfl, rfl, q⟩ := h
  obtain ⟨t, rfl⟩ := rx
  obtain ⟨t', rfl⟩ := ry
  exact rule i j t t' s _ _ ⟨.bl (g i j), H, I, rfl, q⟩
def CDiv (i j : Int) : Prop := 0 < j ∧ j < 1073741824
def CPow (i j : Int) : Prop := 0 ≤ j ∧ j ≤ 1000000 ∧ i.natAbs < 2 ^ 64
def CMul (i j : Int) : Prop := (-(2 ^ 64) < i ∧ i < 2 ^ 64) ∨ (-(2 ^ 64) < j ∧ j < 2 ^ 64)
theorem CMul.ok {i j : Int} (h : CMul i j) : IntMulOk i j := by
  rcases h with ⟨h1, h2⟩ | ⟨h1, h2⟩
  · exact .of_left (intBits_le_64 h1 h2)
  · exact .of_right (intBits_le_64 h1 h2)
theorem op_add : OpR X (binaryOp .Add) (rI0 fun i j => .int (i + j)) := opI0 fun _ _ _ _ _ _ _ q => add_int q
theorem op_sub : OpR X (binaryOp .Sub) (rI0 fun i j => .int (i - j)) := opI0 fun _ _ _ _ _ _ _ q => sub_int q
theorem op_mul : OpR X (binaryOp .Mult) (rI CMul fun i j => .int (i * j)) := opI fun _ _ _ _ _ _ _ hc q => mul_int q hc.ok
theorem op_fdiv : OpR X (binaryOp .FloorDiv) (rI CDiv fun i j => .int (i / j)) := opI fun i j _ _ _ _ _ hc q => by
  have h1 : (0 : Int) < j := hc.1
  have h2 : j < 1073741824 := hc.2
  exact floordiv_int (by lia) (by rw [Int.fdiv_eq_ediv_of_nonneg i (by lia)]; exact q) (.inl (PyProof.noPylong_small (by lia)))
theorem op_mod : OpR X (binaryOp .Mod) (rI (fun _ j => 0 < j) fun i j => .int (i % j)) := opI fun i j _ _ _ _ _ hc q => by
  have h1 : (0 : Int) < j := hc
  exact mod_int' (by lia) (by rw [Int.fmod_eq_emod_of_nonneg i (by lia)]; exact q)
theorem op_pow : OpR X (binaryOp .Pow) (rI CPow fun i j => .int (i ^ j.toNat)) := opI fun _ _ _ _ _ _ _ hc q => pow_int_small hc.1 hc.2.1 hc.2.2 q
theorem unI {f : Value → Sem Value} {g : Int → Int}
    (rule : ∀ (i : Int) (t : Tok) (s : Shared) (Q : Value → Shared → Prop) (E : Value → Shared → Prop), Q (.int (g i) s.toks) { s with toks := s.toks + 1 } → wpAny (model X.prog X.w) X.A (f (.int i t)) Q E s) :
    UnR X f (rU fun i => .int (g i)) := by
  intro pins s σ H x v Q I rx h
  obtain ⟨i, rfl, q⟩ := h
  obtain ⟨t, rfl⟩ := rx
  exact rule i t s _ _ ⟨.int (g i), H, I.tok _, ⟨_, rfl⟩, q⟩
theorem un_neg : UnR X (unaryOp .USub) (rU fun i => .int (-i)) := unI fun _ _ _ _ _ q => neg_int q
end
def scal : V → V → Bool
  | .non, .non => true | .non, .int _ => true | .int _, .non => true | .non, .bl _ => true | .bl _, .non => true | .non, .str _ => true | .str _, .non => true
  | .int _, .int _ => true | .bl _, .bl _ => true | .str _, .str _ => true | .byt _, .byt _ => true
  | .int _, .str _ => true | .str _, .int _ => true | .bl _, .str _ => true | .str _, .bl _ => true
  | _, _ => false
def rEq : R2 := fun x y H Q => scal x y = true ∧ Q (.bl (decide (x = y))) H
def rNe : R2 := fun x y H Q => scal x y = true ∧ Q (.bl (!decide (x = y))) H
theorem dec_int {i j : Int} : decide (V.int i = V.int j) = (i == j) := by
  rw [Bool.eq_iff_iff]
  simp
theorem dec_bl {i j : Bool} : decide (V.bl i = V.bl j) = (i == j) := by
  rw [Bool.eq_iff_iff]
  simp
theorem dec_str {i j : Str} : decide (V.str i = V.str j) = (i == j) := by
  rw [Bool.eq_iff_iff]
  simp
theorem dec_byt {i j : Array UInt8} : decide (V.byt i = V.byt j) = (i.toList == j.toList) := by
  rw [Bool.eq_iff_iff]
  cases i
  cases j
  simp
section
variable {X : Cx} {a b c : Expr} {ta tb tc : TE} {pos : Pos}
theorem fin_bl {pins : List (Addr × Obj)} {σ : St} {H : Hp} {s : Shared} {Q : VK} {k k' : Bool} (I : Inv X pins σ H s) (q : Q (.bl k) H) (e : k = k') : EP X pins σ Q (.bool k') s := by
  subst e
  exact ⟨.bl k, H, I, rfl, q⟩
theorem op_eq : OpR X (compareOp .Eq) rEq := by
  intro pins s σ H x y v u Q I rx ry h
  obtain ⟨hs, q⟩ := h
  cases x with
  | non =>
    cases rx
    cases y with
    | non => cases ry; exact PySem.EqNone.eq_none_none (fin_bl I q (by simp))
    | bl j => cases ry; exact PySem.EqNone.eq_none_bool (fin_bl I q (by simp))
    | int j => obtain ⟨t', rfl⟩ := ry; exact PySem.EqNone.eq_none_int (fin_bl I q (by simp))
    | str j => obtain ⟨t', rfl⟩ := ry; exact PySem.EqNone.eq_none_str (fin_bl I q (by simp))
    | _ => exact absurd (show false = true from hs) Bool.false_ne_true
  | bl i =>
    cases rx
    cases y with
    | non => cases ry; exact PySem.EqNone.eq_bool_none (fin_bl I q (by simp))
    | bl j => cases ry; exact eq_bool (fin_bl I q dec_bl)
    | str j => obtain ⟨t', rfl⟩ := ry; exact PySem.EqMixed.eq_bool_str (fin_bl I q (by simp))
    | _ => exact absurd (show false = true from hs) Bool.false_ne_true
  | int i =>
    obtain ⟨t, rfl⟩ := rx
    cases y with
    | non => cases ry; exact PySem.EqNone.eq_int_none (fin_bl I q (by simp))
    | int j => obtain ⟨t', rfl⟩ := ry; exact eq_int (fin_bl I q dec_int)
    | str j => obtain ⟨t', rfl⟩ := ry; exact PySem.EqMixed.eq_int_str (fin_bl I q (by simp))
    | _ => exact absurd (show false = true from hs) Bool.false_ne_true
  | str i =>
    obtain ⟨t, rfl⟩ := rx
    cases y with
    | non => cases ry; exact PySem.EqNone.eq_str_none (fin_bl I q (by simp))
    | bl j => cases ry; exact PySem.EqMixed.eq_str_bool (fin_bl I q (by simp))
    | int j => obtain ⟨t', rfl⟩ := ry; exact PySem.EqMixed.eq_str_int (fin_bl I q (by simp))
    | str j => obtain ⟨t', rfl⟩ := ry; exact eq_str (fin_bl I q dec_str)
    | _ => exact absurd (show false = true from hs) Bool.false_ne_true
  | byt i =>
    obtain ⟨t, rfl⟩ := rx
    cases y with
    | byt j => obtain ⟨t', rfl⟩ := ry; exact PySem.W.eq_bytes (fin_bl I q dec_byt)
    | _ => exact absurd (show false = true from hs) Bool.false_ne_true
  | _ => cases y <;> exact absurd (show false = true from hs) Bool.false_ne_true
theorem op_ne : OpR X (compareOp .NotEq) rNe := by
  intro pins s σ H x y v u Q I rx ry h
  obtain ⟨hs, q⟩ := h
  cases x with
  | non =>
    cases rx
    cases y with
    | non => cases ry; exact PySem.EqNone.ne_none_none (fin_bl I q (by simp))
    | bl j => cases ry; exact PySem.EqNone.ne_none_bool (fin_bl I q (by simp))
    | int j => obtain ⟨t', rfl⟩ := ry; exact PySem.EqNone.ne_none_int (fin_bl I q (by simp))
    | str j => obtain ⟨t', rfl⟩ := ry; exact PySem.EqNone.ne_none_str (fin_bl I q (by simp))
    | _ => exact absurd (show false = true from hs) Bool.false_ne_true
  | bl i =>
    cases rx
    cases y with
    | non => cases ry; exact PySem.EqNone.ne_bool_none (fin_bl I q (by simp))
    | bl j => cases ry; exact ne_bool (fin_bl I q (congrArg not dec_bl))
    | str j => obtain ⟨t', rfl⟩ := ry; exact PySem.EqMixed.ne_bool_str (fin_bl I q (by simp))
    | _ => exact absurd (show false = true from hs) Bool.false_ne_true
  | int i =>
    obtain ⟨t, rfl⟩ := rx
    cases y with
    | non => cases ry; exact PySem.EqNone.ne_int_none (fin_bl I q (by simp))
    | int j => obtain ⟨t', rfl⟩ := ry; exact ne_int (fin_bl I q (congrArg not dec_int))
    | str j => obtain ⟨t', rfl⟩ := ry; exact PySem.EqMixed.ne_int_str (fin_bl I q (by simp))
    | _ => exact absurd (show false = true from hs) Bool.false_ne_true
  | str i =>
    obtain ⟨t, rfl⟩ := rx
    cases y with
    | non => cases ry; exact PySem.EqNone.ne_str_none (fin_bl I q (by simp))
    | bl j => cases ry; exact PySem.EqMixed.ne_str_bool (fin_bl I q (by simp))
    | int j => obtain ⟨t', rfl⟩ := ry; exact PySem.EqMixed.ne_str_int (fin_bl I q (by simp))
    | str j => obtain ⟨t', rfl⟩ := ry; exact ne_str (fin_bl I q (congrArg not dec_str))
    | _ => exact absurd (show false = true from hs) Bool.false_ne_true
  | byt i =>
    obtain ⟨t, rfl⟩ := rx
    cases y with
    | byt j => obtain ⟨t', rfl⟩ := ry; exact PySem.W.ne_bytes (fin_bl I q (congrArg not dec_byt))
    | _ => exact absurd (show false = true from hs) Bool.false_ne_true
  | _ => cases y <;> exact absurd (show false = true from hs) Bool.false_ne_true
theorem op_lt : OpR X (compareOp .Lt) (rI0 fun i j => .bl (decide (i < j))) := opB0 fun _ _ _ _ _ _ _ q => lt_int q
theorem op_gt : OpR X (compareOp .Gt) (rI0 fun i j => .bl (decide (j < i))) := opB0 fun _ _ _ _ _ _ _ q => gt_int q
theorem op_ge : OpR X (compareOp .GtE) (rI0 fun i j => .bl (decide (j ≤ i))) := opB0 fun _ _ _ _ _ _ _ q => ge_int q
theorem op_isN : OpR X (compareOp .Is) (fun x y H Q => y = .non ∧ Q (.bl (decide (x = .non))) H) := by
  intro pins s σ H x y v u Q I rx ry h
  obtain ⟨rfl, q⟩ := h
  cases ry
  refine is_none_gen (fin_bl I q ?_)
  cases x <;> first
    | (cases rx; rfl)
    | (obtain ⟨t, rfl⟩ := rx; rfl)
theorem nomark (b : Expr) {op : CmpOp} (h : op ≠ .In := by decide) (h2 : op ≠ .NotIn := by decide) : behindInMarks op b = false := by
  have e1 : (op == CmpOp.In) = false := by cases op <;> first | rfl | exact absurd rfl h
  have e2 : (op == CmpOp.NotIn) = false := by cases op <;> first | rfl | exact absurd rfl h2
  cases b <;> simp [behindInMarks, e1, e2]
theorem pe_cmpR {op : CmpOp} {r : R2} (ho : OpR X (compareOp op) r) (ha : PE X a ta) (hb : PE X b tb) (hm : behindInMarks op b = false) : PE X (.Compare a [op] [b] pos) (tOp r ta tb) := by
  intro pins s σ H Q I h
  exact wpAny_Compare1 (binT ha hb I h fun v u s2 x y H2 I2 rx ry q => ho pins s2 σ H2 x y v u Q I2 rx ry q) hm
def tTest (t : TE) : TT := fun σ H Q => t σ H fun x H' => ∃ k, x = .bl k ∧ Q k H'
theorem pt_cmpR {op : CmpOp} {r : R2} (ho : OpR X (compareOp op) r) (ha : PE X a ta) (hb : PE X b tb) (hm : behindInMarks op b = false) : PT X (.Compare a [op] [b] pos) (tTest (tOp r ta tb)) := by
  intro pins s σ H Q I h
  refine wpAny_isTrue_Compare1 (thn (ha pins s σ H _ I h) fun v s1 ⟨x, H1, I1, r1, q1⟩ => thn (hb pins s1 σ H1 _ I1 q1) fun u s2 ⟨y, H2, I2, r2, q2⟩ =>
    thn (ho pins s2 σ H2 x y v u _ I2 r1 r2 q2) fun c s3 ⟨z, H3, I3, r3, k, e, q3⟩ => ?_) hm
  subst e
  cases r3
  exact wpAny_truthy_bool ⟨H3, I3, q3⟩
theorem line63 : (sizeLine : Nat) < 2 ^ 63 := by rw [sizeLine_eq]; decide
theorem op_add_str : OpR X (binaryOp .Add) (fun x y H Q => ∃ i j, x = .str i ∧ y = .str j ∧ i.length + j.length ≤ sizeLine ∧ Q (.str (i ++ j)) H) := by
  intro pins s σ H x y v u Q I rx ry h
  obtain ⟨i, j, rfl, rfl, hz, q⟩ := h
  obtain ⟨t, rfl⟩ := rx
  obtain ⟨t', rfl⟩ := ry
  exact add_str (fun t' tk => ⟨.str (i ++ j), H, I.tok _, ⟨_, rfl⟩, q⟩) hz
theorem vals1 {x : V} {us : List Value} (r : Vals [x] us) : ∃ u, us = [u] ∧ RelV x u := by
  cases r with
  | cons r1 r2 => cases r2; exact ⟨_, rfl, r1⟩
theorem vals2 {x y : V} {us : List Value} (r : Vals [x, y] us) : ∃ u w', us = [u, w'] ∧ RelV x u ∧ RelV y w' := by
  cases r with
  | cons r1 r2 =>
    cases r2 with
    | cons r3 r4 => cases r4; exact ⟨_, _, rfl, r1, r3⟩
theorem call_max2 (hc : X.calm = true) : CallR X (.builtin "max") (fun xs H Q => ∃ i j, xs = [.int i, .int j] ∧ Q (.int (if j > i then j else i)) H) := by
  intro pins s σ H xs us Q I r h
  obtain ⟨i, j, rfl, q⟩ := h
  obtain ⟨u, w', rfl, ⟨t, rfl⟩, ⟨t', rfl⟩⟩ := vals2 r
  refine max_two_ints (I.ok.hd hc) fun h' tk k => ⟨_, H, I.kept k, ?_, q⟩
  by_cases hj : j > i
  · rw [if_pos hj, if_pos hj]; exact ⟨_, rfl⟩
  · rw [if_neg hj, if_neg hj]; exact ⟨_, rfl⟩
theorem call_min2 (hc : X.calm = true) : CallR X (.builtin "min") (fun xs H Q => ∃ i j, xs = [.int i, .int j] ∧ Q (.int (if j < i then j else i)) H) := by
  intro pins s σ H xs us Q I r h
  obtain ⟨i, j, rfl, q⟩ := h
  obtain ⟨u, w', rfl, ⟨t, rfl⟩, ⟨t', rfl⟩⟩ := vals2 r
  refine min_two_ints (I.ok.hd hc) fun h' tk k => ⟨_, H, I.kept k, ?_, q⟩
  by_cases hj : j < i
  · rw [if_pos hj, if_pos hj]; exact ⟨_, rfl⟩
  · rw [if_neg hj, if_neg hj]; exact ⟨_, rfl⟩
theorem call_int1 : CallR X (.type "int") (fun xs H Q => (∃ i, xs = [.int i] ∧ Q (.int i) H) ∨ ∃ k, xs = [.bl k] ∧ Q (.int (if k then 1 else 0)) H) := by
  intro pins s σ H xs us Q I r h
  rcases h with ⟨i, rfl, q⟩ | ⟨k, rfl, q⟩
  · obtain ⟨u, rfl, t, rfl⟩ := vals1 r
    exact call_int_int ⟨.int i, H, I, ⟨_, rfl⟩, q⟩
  · obtain ⟨u, rfl, r1⟩ := vals1 r
    cases r1
    exact call_int_bool ⟨.int (if k then 1 else 0), H, I.tok _, ⟨_, rfl⟩, q⟩
end
end L2
namespace L2
open PySem PySem.Spec PyProof.Rows
structure ObjM (h : Heap) (x dx C : Addr) (mA : Str → Option Value) : Prop where
  obj : h.get? x = some (PySem.W.instObj C dx)
  ns : h.Ns1 dx mA
  ne : dx ≠ x
theorem lookIn_ns {h : Heap} {dx : Addr} {mA : Str → Option Value} (n : h.Ns1 dx mA) : ∃ od, h.get? dx = some od ∧ ∀ name, PySem.W.lookIn name od = some (mA name) := by
  obtain ⟨o, es, ep, ho, hd, hk, _, hm⟩ := n
  refine ⟨o, ho, fun name => ?_⟩
  have e := hm name
  unfold nsFind findBy at e
  rw [← Array.find?_toList] at e
  unfold PySem.W.lookIn
  rw [hd]
  dsimp only
  split
  · rename_i y q
    rw [q] at e
    exact congrArg some e
  · rename_i q
    rw [q] at e
    have a : es.toList.any (·.refKey) = false := by
      rw [List.any_eq_false]
      intro y hy
      obtain ⟨z, t, hkey⟩ := hk y (Array.mem_toList_iff.mp hy)
      simp [DictEntry.refKey, hkey]
    have a' : ¬ es.toList.any (·.refKey) = true := by rw [a]; exact Bool.false_ne_true
    rw [if_neg a']
    exact congrArg some e
theorem ObjM.look {h : Heap} {x dx C : Addr} {mA : Str → Option Value} (I : ObjM h x dx C mA) : ∃ od, PySem.W.InstAt h x (PySem.W.instObj C dx) C (some od) ∧ ∀ name, PySem.W.lookIn name od = some (mA name) :=
  let ⟨od, ho, hl⟩ := lookIn_ns I.ns
  ⟨od, ⟨I.obj, rfl, rfl, ho⟩, hl⟩
section
variable {prog : Program} {w : World} {A : Around} {E : Value → Shared → Prop} {s : Shared} {K : PySem.W.Frag} {x dx C f : Addr} {mA : Str → Option Value} {name : Str} {v : Value}
theorem get_map {expr : Bool} {Q : Value → Shared → Prop} (X : K.In s.heap) (I : ObjM s.heap x dx C mA) (hg : PySem.W.plainGet K C name = true) (hh : PySem.W.hasDictIn K C = true)
    (ha : PySem.W.findIn K (.ref C) name = some none) (hv : mA name = some v) (hv' : PySem.W.handedIn v = true) (h : Q v { s with toks := s.toks + 1 }) :
    wpAny (model prog w) A (getAttr (.ref x) name expr) Q E s := by
  obtain ⟨od, J, hl⟩ := I.look
  exact PySem.W.get_value X J (PySem.W.plainGet_of hg).1 (PySem.W.findObj_own hh ha rfl (by rw [hl, hv])) hv' h
theorem get_meth {pl : Sem Bool} {Q : Value × List Value → Shared → Prop} (X : K.In s.heap) (I : ObjM s.heap x dx C mA) (hg : PySem.W.plainGet K C name = true)
    (hf : PySem.W.findIn K (.ref C) name = some (some (.ref f))) (ht : PySem.W.isFn K (.ref f) = true) (hv : mA name = none) (h : Q (.ref f, [.ref x]) s) :
    wpAny (model prog w) A (getMethod (.ref x) name pl) Q E s := by
  obtain ⟨od, J, hl⟩ := I.look
  exact PySem.W.method_fn X J (PySem.W.plainGet_of hg).1 (PySem.W.plainGet_of hg).2 hf (beq_iff_eq.mp ht) (by show (PySem.W.lookIn name od).map (·.isSome) = some false; rw [hl, hv]; rfl) h
theorem set_map {ns : List Str} {Q : Unit → Shared → Prop} (X : K.In s.heap) (I : ObjM s.heap x dx C mA)
    (hs : PySem.W.findIn K (.ref C) "__setattr__" = some (some (.builtin "object.__setattr__"))) (hp : PySem.W.plainOver K C = true) (ht : PySem.W.takerIn K C name = some none) (hh : PySem.W.hasDictIn K C = true)
    (hw : PySem.Within mA ns) (hsz : ns.length ≤ sizeLine)
    (h : ∀ h', ObjM h' x dx C (fun y => if y = name then some v else mA y) → Heap.SameBut dx s.heap h' → Q () { s with heap := h', toks := s.toks + 2 }) :
    wpAny (model prog w) A (setAttr (.ref x) name v) Q E s := by
  obtain ⟨od, J, hl⟩ := I.look
  refine PySem.W.set_plain X J hs (PySem.W.osa_open (s := { s with toks := s.toks + 1 }) (r := none) X J hp ht fun b => ?_)
  obtain ⟨cd, hc, hd'⟩ := PySem.W.any_some hh
  have hx : s.heap.get? x = some ⟨.ref C, some dx, .plain, #[]⟩ := I.obj
  refine wpAny_bind (wpAny_pure (wpAny_bind (wpAny_bind (wpAny_loadPart hx (wpAny_bind (PySem.W.Looks.here (s := { s with toks := s.toks + 1 }) (PySem.W.looks_clsIn X hc) ?_))))))
  rw [hd']
  refine wpAny_pure (a := some dx) (wpAny_bind (wpAny_pure (wpAny_bind ?_)))
  refine wpAny_nsSet1 (s := { s with toks := s.toks + 1 }) I.ns fun h' hn2 hs2 => ?_
  obtain ⟨oD, esD, epD, hoD, hdD, hcD⟩ := hn2.count (PySem.Within.cons name v hw)
  refine wpAny_bind (wpAny_lookBehind hoD (by rw [hdD]; exact pastItsLine_dict (Nat.le_trans hcD (by rw [List.length_cons]; lia))) ?_)
  exact wpAny_pure (h _ ⟨(hs2.2 _ (Ne.symm I.ne)).trans I.obj, hn2, I.ne⟩ hs2)
theorem make_map {R : Result → Shared → Prop} {vs : List Value} {kw : List (Str × Value)} (X : K.In s.heap) (hm : PySem.W.makesIn K C = true)
    (hi : PySem.W.findIn K (.ref C) "__init__" = some (some (.ref f))) (hf : PySem.W.typeIn K (.ref f) = some (.type "function"))
    (h : codeAny (model prog w) (A.under (.builtin "type.__call__" ⟨.ref C :: vs, kw⟩)) (.call (.ref f) ⟨.ref (s.heap.objs.size + 1) :: vs, kw⟩) (PySem.W.InitBack (s.heap.objs.size + 1) R)
      { s with heap := (s.heap.push PySem.W.emptyDict).push (PySem.W.instObj C s.heap.objs.size) }) :
    codeAny (model prog w) A (.call (.ref C) ⟨vs, kw⟩) R s := by
  obtain ⟨hh, g, d, t, os⟩ := s
  exact PySem.W.make_core (PySem.W.makes_of X hm) (PySem.W.looks_findIn X hi) (fun self => PySem.W.bind_fn X self hf) (.inl rfl) h
end
def putF (f : Str) (v : V) : List (Str × V) → List (Str × V)
  | [] => [(f, v)]
  | (g, x) :: r => if g = f then (g, v) :: r else (g, x) :: putF f v r
theorem lookup_putF (f g : Str) (v : V) : ∀ fs : List (Str × V), (putF f v fs).lookup g = if g = f then some v else fs.lookup g
  | [] => by
    show List.lookup g [(f, v)] = _
    by_cases h : g = f
    · have hb : (g == f) = true := beq_iff_eq.mpr h
      simp only [List.lookup, hb, if_pos h]
    · have hb : (g == f) = false := beq_eq_false_iff_ne.mpr h
      simp only [List.lookup, hb, if_neg h]
  | (k, x) :: r => by
    have ih := lookup_putF f g v r
    rw [show putF f v ((k, x) :: r) = (if k = f then (k, v) :: r else (k, x) :: putF f v r) from rfl]
    by_cases hk : k = f
    · rw [if_pos hk]
      by_cases h : g = k
      · have hb : (g == k) = true := beq_iff_eq.mpr h
        simp only [List.lookup, hb, if_pos (h.trans hk)]
      · have hb : (g == k) = false := beq_eq_false_iff_ne.mpr h
        simp only [List.lookup, hb, if_neg (fun e : g = f => h (e.trans hk.symm))]
    · rw [if_neg hk]
      by_cases h : g = k
      · have hb : (g == k) = true := beq_iff_eq.mpr h
        simp only [List.lookup, hb, if_neg (fun e : g = f => hk (h.symm.trans e))]
      · have hb : (g == k) = false := beq_eq_false_iff_ne.mpr h
        simp only [List.lookup, hb]
        exact ih
theorem keys_putF (f : Str) (v : V) : ∀ fs : List (Str × V), f ∈ (putF f v fs).map (·.1) ∧ ∀ g, g ∈ fs.map (·.1) → g ∈ (putF f v fs).map (·.1)
  | [] => ⟨by simp [putF], fun g h => by simp at h⟩
  | (k, x) :: r => by
    obtain ⟨i1, i2⟩ := keys_putF f v r
    rw [show putF f v ((k, x) :: r) = (if k = f then (k, v) :: r else (k, x) :: putF f v r) from rfl]
    by_cases hk : k = f
    · rw [if_pos hk]
      subst hk
      exact ⟨by simp, fun g h => by simpa using h⟩
    · rw [if_neg hk]
      refine ⟨?_, fun g h => ?_⟩
      · rw [List.map_cons]
        exact List.mem_cons_of_mem _ i1
      · rw [List.map_cons] at h ⊢
        rcases List.mem_cons.mp h with e | e
        · exact List.mem_cons.mpr (.inl e)
        · exact List.mem_cons_of_mem _ (i2 g e)
theorem length_putF (f : Str) (v : V) : ∀ fs : List (Str × V), (putF f v fs).length ≤ fs.length + 1
  | [] => by simp [putF]
  | (k, x) :: r => by
    have ih := length_putF f v r
    rw [show putF f v ((k, x) :: r) = (if k = f then (k, v) :: r else (k, x) :: putF f v r) from rfl]
    by_cases hk : k = f
    · rw [if_pos hk, List.length_cons, List.length_cons]; lia
    · rw [if_neg hk, List.length_cons, List.length_cons]; lia
theorem RelO.some_of {v : V} {o : Option Value} (r : RelO (some v) o) : ∃ u, o = some u ∧ RelV v u := by
  cases o with
  | none => exact (show False from r).elim
  | some u => exact ⟨u, rfl, r⟩
theorem RelO.none_of {o : Option Value} (r : RelO none o) : o = none := by
  cases o with
  | none => rfl
  | some u => exact (show False from r).elim
theorem handed_of {v : V} {u : Value} (r : RelV v u) : PySem.W.handedIn u = true := by
  cases v with
  | non => cases (show u = Value.none from r); rfl
  | bl b => cases (show u = Value.bool b from r); rfl
  | int i => obtain ⟨t, e⟩ := (show ∃ t, u = Value.int i t from r); cases e; rfl
  | str x => obtain ⟨t, e⟩ := (show ∃ t, u = Value.str x t from r); cases e; rfl
  | byt b => obtain ⟨t, e⟩ := (show ∃ t, u = Value.bytes b t from r); cases e; rfl
  | flt b => obtain ⟨t, e⟩ := (show ∃ t, u = Value.float b t from r); cases e; rfl
  | ref a => cases (show u = Value.ref a from r); rfl
  | ty n => cases (show u = Value.type n from r); rfl
section
variable {P : Program} {w : World} {H H' : Hp} {h h' : Heap} {a C dx : Addr} {fs fs' : List (Str × V)}
theorem ins_get (hok : HOk P w H h) (e : H a = some (.ins C dx fs)) : ∃ mA, ObjM h a dx C mA ∧ (∀ f, RelO (fs.lookup f) (mA f)) ∧ PySem.Within mA (fs.map (·.1)) ∧ fs.length ≤ 1000 ∧ H dx = some (.own a) := by
  obtain ⟨d, z, ne, ob, mA, n, r, q⟩ := (show ObjOk P w H h a (.ins C dx fs) from hok a _ e)
  exact ⟨mA, ⟨ob, n, ne⟩, r, q, z, d⟩
end
structure Cls (K : PySem.W.Frag) (C : Addr) : Prop where
  pg : PySem.W.plainGet K C Str.empty = true
  hd : PySem.W.hasDictIn K C = true
  po : PySem.W.plainOver K C = true
  sa : PySem.W.findIn K (.ref C) "__setattr__" = some (some (.builtin "object.__setattr__"))
theorem Cls.get {K : PySem.W.Frag} {C : Addr} (c : Cls K C) (f : Str) : PySem.W.plainGet K C f = true := c.pg
def NoAttr (K : PySem.W.Frag) (C : Addr) (f : Str) : Prop := PySem.W.findIn K (.ref C) f = some none
theorem NoAttr.taker {K : PySem.W.Frag} {C : Addr} {f : Str} (n : NoAttr K C f) : PySem.W.takerIn K C f = some none := by
  unfold PySem.W.takerIn
  rw [show PySem.W.findIn K (.ref C) f = some none from n]
  rfl
structure Meth (K : PySem.W.Frag) (C : Addr) (m : Str) (f : Addr) : Prop where
  at_ : PySem.W.findIn K (.ref C) m = some (some (.ref f))
  fn : PySem.W.isFn K (.ref f) = true
  kp : PySem.W.keepIn K (.ref f) = true
section
variable {X : Cx} {pins : List (Addr × Obj)} {σ : St} {H : Hp} {s : Shared} {a C dx : Addr} {fs : List (Str × V)} {f : Str} {v : V} {A : Around} {E : Value → Shared → Prop}
theorem getattr_ok {b : Bool} {Q : Value → Shared → Prop} (I : Inv X pins σ H s) (e : H a = some (.ins C dx fs)) (c : Cls X.K C) (n : NoAttr X.K C f) (l : fs.lookup f = some v)
    (h : ∀ u s', Inv X pins σ H s' → RelV v u → Q u s') : wpAny (model X.prog X.w) A (getAttr (.ref a) f b) Q E s := by
  obtain ⟨mA, O, r, _, _, _⟩ := ins_get I.hok e
  obtain ⟨u, hu, ru⟩ := RelO.some_of (v := v) (o := mA f) (by rw [← l]; exact r f)
  exact get_map I.kIn O (c.get f) c.hd n hu (handed_of ru) (h u _ (I.tok _) ru)
theorem getmeth_ok {m : Str} {g : Addr} {pl : Sem Bool} {Q : Value × List Value → Shared → Prop} (I : Inv X pins σ H s) (e : H a = some (.ins C dx fs)) (c : Cls X.K C) (k : Meth X.K C m g) (l : fs.lookup m = none)
    (h : Q (.ref g, [.ref a]) s) : wpAny (model X.prog X.w) A (getMethod (.ref a) m pl) Q E s := by
  obtain ⟨mA, O, r, _, _, _⟩ := ins_get I.hok e
  have hn : mA m = none := RelO.none_of (by rw [← l]; exact r m)
  exact get_meth I.kIn O (c.get m) k.at_ k.fn hn h
theorem setattr_ok {y : V} {u : Value} {Q : Unit → Shared → Prop} (I : Inv X pins σ H s) (e : H a = some (.ins C dx fs)) (c : Cls X.K C) (n : NoAttr X.K C f) (hl : fs.length < 1000) (ry : RelV y u)
    (h : ∀ s', Inv X pins σ (upd H a (.ins C dx (putF f y fs))) s' → Q () s') : wpAny (model X.prog X.w) A (setAttr (.ref a) f u) Q E s := by
  obtain ⟨mA, O, r, wi, _, ho⟩ := ins_get I.hok e
  have hz : (fs.map (·.1)).length ≤ sizeLine := by rw [List.length_map, sizeLine_eq]; lia
  refine set_map I.kIn O c.sa c.po n.taker c.hd wi hz fun h' O' sb => h _ ?_
  have hd : ∃ o, h'.get? dx = some o := let ⟨o, _, _, e', _⟩ := O'.ns; ⟨o, e'⟩
  refine I.write (x := a) (e := dx) (by rw [e]; exact True.intro) (.inr ho) (fun b q hb z => (sb.2 b hb).trans z) hd ?_
  refine ⟨by rw [upd_ne O.ne]; exact ho, ?_, O.ne, O'.obj, _, O'.ns, fun g => ?_, fun g hg => ?_⟩
  · have := length_putF f y fs; lia
  · show RelO ((putF f y fs).lookup g) (if g = f then some u else mA g)
    rw [lookup_putF]
    by_cases q : g = f
    · rw [if_pos q, if_pos q]; exact ry
    · rw [if_neg q, if_neg q]; exact r g
  · by_cases q : g = f
    · rw [q]; exact (keys_putF f y fs).1
    · refine (keys_putF f y fs).2 g (wi g fun z => hg ?_)
      show (if g = f then some u else mA g) = none
      rw [if_neg q]; exact z
theorem Inv.made (I : Inv X pins σ H s) : Inv X pins σ (upd (upd H s.heap.objs.size (.own (s.heap.objs.size + 1))) (s.heap.objs.size + 1) (.ins C s.heap.objs.size []))
    { s with heap := (s.heap.push PySem.W.emptyDict).push (PySem.W.instObj C s.heap.objs.size) } := by
  have e1 : (s.heap.push PySem.W.emptyDict).get? s.heap.objs.size = some PySem.W.emptyDict := Heap.get?_push_size s.heap rfl
  have e2 : ((s.heap.push PySem.W.emptyDict).push (PySem.W.instObj C s.heap.objs.size)).get? (s.heap.objs.size + 1) = some (PySem.W.instObj C s.heap.objs.size) := by
    have := Heap.get?_push_size (s.heap.push PySem.W.emptyDict) (o := PySem.W.instObj C s.heap.objs.size) rfl
    rwa [Heap.size_push] at this
  have e3 : (s.heap.push PySem.W.emptyDict).Ns s.heap.objs.size (fun _ => none) := ⟨PySem.W.emptyDict, #[], _, e1, rfl, (fun e he => absurd he (by simp)), fun _ => rfl⟩
  have I1 := I.laid (a := s.heap.objs.size) (o := .own (s.heap.objs.size + 1)) (h' := s.heap.push PySem.W.emptyDict) (t' := s.toks) (fun b u q => Heap.get?_push_of_some _ q) (Nat.le_refl _) ⟨_, e1⟩
  refine I1.laid (a := s.heap.objs.size + 1) (o := .ins C s.heap.objs.size []) (t' := s.toks) (fun b u q => Heap.get?_push_of_some _ q) (Nat.le_of_eq (Heap.size_push _ _)) ?_
  have ne : s.heap.objs.size ≠ s.heap.objs.size + 1 := Nat.ne_of_lt (Nat.lt_succ_self _)
  refine ⟨by rw [upd_ne ne, upd_same], Nat.zero_le _, ne, e2, fun _ => none, (Heap.Ns1.of_empty e3).at fun o q => Heap.get?_push_of_some _ q, fun _ => True.intro, fun y hy => absurd rfl hy⟩
theorem attr_of {prog : Program} {w : World} {env : Env} {e : Expr} {f : Str} {pos : Pos} {s : Shared} {Q : Value → Shared → Prop} (hb : attributeBase e f env (eval e env) = eval e env)
    (h : wpAny (model prog w) A (eval e env) (fun o s₁ => wpAny (model prog w) A (getAttr o f true) Q E s₁) E s) : wpAny (model prog w) A (eval (.Attribute e f pos) env) Q E s :=
  Attribute_any_ h (by rw [arm_eval_Attribute, hb])
end
def tFld (K : PySem.W.Frag) (ta : TE) (f : Str) : TE := fun σ H Q => ta σ H fun x H1 => ∃ a C dx fs v, x = .ref a ∧ H1 a = some (.ins C dx fs) ∧ Cls K C ∧ NoAttr K C f ∧ fs.lookup f = some v ∧ Q v H1
def sFld (K : PySem.W.Frag) (ta tv : TE) (f : Str) : TS := fun D σ H => tv σ H fun y H1 => ta σ H1 fun x H2 => ∃ a C dx fs, x = .ref a ∧ H2 a = some (.ins C dx fs) ∧ Cls K C ∧ NoAttr K C f ∧ fs.length < 1000 ∧
  D.nx σ (upd H2 a (.ins C dx (putF f y fs)))
section
variable {X : Cx} {o e value : Expr} {f : Str} {pos pos' tpos : Pos} {ta tv : TE}
theorem pe_fld (he : PE X e ta) (hb : attributeBase e f X.env (eval e X.env) = eval e X.env) : PE X (.Attribute e f pos) (tFld X.K ta f) := by
  intro pins s σ H Q I h
  refine attr_of hb (thn (he pins s σ H _ I h) fun u s1 ⟨x, H1, I1, rx, a, C, dx, fs, v, ex, ea, c, n, l, q⟩ => ?_)
  subst ex
  obtain rfl : u = Value.ref a := rx
  exact getattr_ok I1 ea c n l fun u' s2 I2 ru => ⟨v, H1, I2, ru, q⟩
theorem ps_fld (ha : PE X o ta) (hv : PE X value tv) (hs : swapsWith value (some (.Attribute o f pos')) pos.line X.env = pure false) : PS X (.Assign [.Attribute o f pos'] value pos) (sFld X.K ta tv f) := by
  intro pins s σ H D I h
  refine plainObj_wpAny_Assign_Attribute (thn (hv pins s σ H _ I h) fun u s1 ⟨y, H1, I1, ry, q⟩ => thn (ha pins s1 σ H1 _ I1 q) fun ov s2 ⟨x, H2, I2, rx, a, C, dx, fs, ex, ea, c, n, l, q2⟩ => ?_) hs
  subst ex
  obtain rfl : ov = Value.ref a := rx
  exact setattr_ok I2 ea c n l ry fun s3 I3 => ⟨σ, _, I3, q2⟩
end
section
variable {X : Cx} {pins : List (Addr × Obj)} {σ : St} {H : Hp} {s : Shared} {A : Around} {E : Value → Shared → Prop} {Q : Value → Shared → Prop} {c : Value} {b : Bool}
end
end L2
namespace L2
open PySem PySem.Spec PyProof.Rows
structure Room (k : Nat) (A : Around) : Prop where
  hd : A.handled = none
  dp : A.depth + 3 * k + 5 < recursionLimit
  un : A.units + 16 * k + 200 < cLine
  gd : A.guards = some []
theorem Room.mono {j k : Nat} {A : Around} (r : Room k A) (h : j ≤ k) : Room j A := ⟨r.hd, by have := r.dp; lia, by have := r.un; lia, r.gd⟩
theorem Room.deeper {k : Nat} {A : Around} (r : Room (k + 1) A) (env : Env) : Room k (A.deeper env) :=
  ⟨r.hd, by have := r.dp; show A.depth + 1 + 3 * k + 5 < _; lia, by have := r.un; show A.units + 3 + 16 * k + 200 < _; lia, r.gd⟩
theorem make_depth {A : Around} {C : Addr} {us : List Value} {kw : List (Str × Value)} : (A.under (.builtin "type.__call__" ⟨.ref C :: us, kw⟩)).depth = A.depth + 1 := by
  first | rfl | simp [Around.under, Code.weight, Code.isCreation, Code.isGuard, Code.isCaller, Code.frames, Code.isFrame, guardIds]
theorem make_units {A : Around} {C : Addr} {us : List Value} {kw : List (Str × Value)} : (A.under (.builtin "type.__call__" ⟨.ref C :: us, kw⟩)).units = A.units + 1 := by
  first | rfl | simp [Around.under, Code.cUnits, Code.frames, Code.isFrame]
theorem make_guards {A : Around} {C : Addr} {us : List Value} {kw : List (Str × Value)} : (A.under (.builtin "type.__call__" ⟨.ref C :: us, kw⟩)).guards = A.guards := by
  first | rfl | simp [Around.under, Code.guards, Code.isGuard, guardIds, pushGuards]
theorem Room.make {k : Nat} {A : Around} (r : Room (k + 1) A) (C : Addr) (us : List Value) (kw : List (Str × Value)) : Room k (A.under (.builtin "type.__call__" ⟨.ref C :: us, kw⟩)) :=
  ⟨r.hd, by have := r.dp; rw [make_depth]; lia, by have := r.un; rw [make_units]; lia, by rw [make_guards]; exact r.gd⟩
theorem Room.depth {k : Nat} {A : Around} (r : Room k A) : A.depth < recursionLimit := by have := r.dp; lia
theorem Room.units {k : Nat} {A : Around} (r : Room k A) : A.units + 64 < cLine := by have := r.un; lia
def tNil : TA := fun _ H Q => Q [] H
def tCons (ta : TE) (tr : TA) : TA := fun σ H Q => ta σ H fun x H1 => tr σ H1 fun xs H2 => Q (x :: xs) H2
section
variable {X : Cx} {e : Expr} {es : List Expr} {te : TE} {t : TA} {pos : Pos}
theorem pa_nil : PA X [] tNil := fun _ _ _ _ H Q I h => Calls.spliced_nil ⟨[], H, I, .nil, h⟩
theorem pa_cons (ha : PE X e te) (hr : PA X es t) (hs : starEach (e :: es) X.env = (false, eval e X.env) :: starEach es X.env := by rfl) : PA X (e :: es) (tCons te t) := by
  intro pos pins s σ H Q I h
  rw [hs]
  show wpAny _ _ (spliced ((false, eval e X.env) :: backTo pos (starEach es X.env))) _ _ s
  refine Calls.spliced_cons (thn (ha pins s σ H _ I h) fun u s1 ⟨x, H1, I1, r1, q1⟩ => ?_)
  exact thn (hr pos pins s1 σ H1 _ I1 q1) fun us s2 ⟨xs, H2, I2, r2, q2⟩ => ⟨x :: xs, H2, I2, .cons r1 r2, q2⟩
def tTup (t : TA) : TE := fun σ H Q => t σ H fun xs H1 => xs.length ≤ sizeLine ∧ ∀ p, H1 p = none → Q (.ref p) (upd H1 p (.tup xs))
def tLst (t : TA) : TE := fun σ H Q => t σ H fun xs H1 => xs.length ≤ sizeLine ∧ ∀ p, H1 p = none → Q (.ref p) (upd H1 p (.lst xs))
theorem pe_tup {x1} (h : PA X es t) : PE X (.Tuple es x1 pos) (tTup t) := by
  intro pins s σ H Q I hq
  refine wpAny_Tuple_spliced (thn (h pos pins s σ H _ I hq) fun us s1 ⟨xs, H1, I1, r, z, q⟩ => ⟨by rw [← r.length]; exact z, ?_⟩)
  have hf : H1 s1.heap.objs.size = none := I1.hok.fresh (Nat.le_refl _)
  refine ⟨.ref s1.heap.objs.size, upd H1 s1.heap.objs.size (.tup xs), I1.laid (t' := s1.toks) (fun b u e => Heap.get?_push_of_some _ e) (Nat.le_refl _) ?_, rfl, q _ hf⟩
  exact ⟨z, us, r, TupP.new _ _⟩
theorem pe_lst (h : PA X es t) : PE X (.List es pos) (tLst t) := by
  intro pins s σ H Q I hq
  refine wpAny_List_spliced (thn (h pos pins s σ H _ I hq) fun us s1 ⟨xs, H1, I1, r, z, q⟩ => ⟨by rw [← r.length]; exact z, ?_⟩)
  have hf : H1 s1.heap.objs.size = none := I1.hok.fresh (Nat.le_refl _)
  refine ⟨.ref s1.heap.objs.size, upd H1 s1.heap.objs.size (.lst xs), I1.laid (t' := s1.toks) (fun b u e => Heap.get?_push_of_some _ e) (Nat.le_refl _) ?_, rfl, q _ hf⟩
  exact ⟨z, us, 0, r, Heap.get?_push_size _ rfl⟩
end
abbrev Sp := List V → Hp → VK → XK → Prop
abbrev CXT := List Env → Hp → Shared → XK → Value → Shared → Prop
structure Env0 (P : Program) (w : World) (K : PySem.W.Frag) (mg : Str → Option Value) (base : Heap) (A : Around) (outer : List Env) (s : Shared) (H : Hp) : Prop where
  frames : A.frames = some outer
  mod : Mod K mg base
  bs : ∀ b o, base.get? b = some o → s.heap.get? b = some o ∧ H b = none
  bsz : base.objs.size ≤ s.heap.objs.size
  funs : s.heap.FunFrames base outer
  frf : ∀ b ∈ frs outer, H b = none
  hok : HOk P w H s.heap
  bare : AllBare s.gens
def CE (outer : List Env) (P : Program) (w : World) (H : Hp) (s : Shared) (Q : VK) (u : Value) (s' : Shared) : Prop :=
  ∃ v H', s'.os = s.os ∧ AllBare s'.gens ∧ Un (frs outer) [] H H' s.heap s'.heap ∧ HOk P w H' s'.heap ∧ RelV v u ∧ Q v H'
def CR (CX : CXT) (outer : List Env) (P : Program) (w : World) (H : Hp) (s : Shared) (Q : VK) (E : XK) (r : Result) (s' : Shared) : Prop :=
  match r with
  | .ok (.ret u) => CE outer P w H s Q u s'
  | .ok _ => False
  | .error e => CX outer H s E e s'
structure FnOk (P : Program) (w : World) (K : PySem.W.Frag) (mg : Str → Option Value) (base : Heap) (CX : CXT) (k : Nat) (f : Addr) (fd : FuncData) (ps : List Str) (sp : Sp) : Prop where
  len : ∀ vs H Q E, sp vs H Q E → vs.length = ps.length
  run : ∀ (A : Around) (outer : List Env) (s : Shared) (H : Hp) (args : Args) (us : List Value) (vs : List V) (Q : VK) (E : XK), Room k A → Env0 P w K mg base A outer s H → BindsTo s fd args (ps.zip us) → Vals vs us → sp vs H Q E →
    codeAny (model P w) A (.call (.ref f) args) (CR CX outer P w H s Q E) s
theorem Env0.make {P : Program} {w : World} {K : PySem.W.Frag} {mg : Str → Option Value} {base : Heap} {A : Around} {outer : List Env} {s : Shared} {H : Hp} (e : Env0 P w K mg base A outer s H) (C : Addr) (us : List Value) (kw : List (Str × Value)) :
    Env0 P w K mg base (A.under (.builtin "type.__call__" ⟨.ref C :: us, kw⟩)) outer s H := ⟨by first | exact e.frames | (simpa [Around.under, Code.envs, Code.isFrame, pushEnvs] using e.frames), e.mod, e.bs, e.bsz, e.funs, e.frf, e.hok, e.bare⟩
section
variable {X : Cx} {pins : List (Addr × Obj)} {σ : St} {H : Hp} {s s' : Shared}
theorem Inv.env0 (I : Inv X pins σ H s) : Env0 X.prog X.w X.K X.mg X.base X.A X.stack s H :=
  ⟨I.ok.frames, I.ok.mod, I.bs, Nat.le_trans I.ok.bsz I.sz, I.stack, I.stkFree, I.hok, I.bare⟩
theorem Inv.after {Q : VK} {u : Value} (I : Inv X pins σ H s) (h : CE X.stack X.prog X.w H s Q u s') : EP X pins σ Q u s' := by
  obtain ⟨v, H', os, bare, un, hok, r, q⟩ := h
  obtain ⟨hh, g, d, t, os'⟩ := s'
  obtain rfl : os' = s.os := os
  exact ⟨v, H', I.call (h' := hh) (g' := g) (d' := d) (t' := t) (ch := []) un hok bare (fun b z => absurd z (by simp)), r, q⟩
end
def tCall (sp : Sp) (dvs : List V) (E : XK) (t : TA) : TE := fun σ H Q => t σ H fun vs H1 => sp (vs ++ dvs) H1 Q E
def tMeth (C : Addr) (m : Str) (sp : Sp) (dvs : List V) (E : XK) (ta : TE) (t : TA) : TE := fun σ H Q => ta σ H fun x H1 => ∃ a dx fs, x = .ref a ∧ H1 a = some (.ins C dx fs) ∧ fs.lookup m = none ∧
  t σ H1 fun vs H2 => sp (x :: (vs ++ dvs)) H2 Q E
def tMake (C : Addr) (sp : Sp) (dvs : List V) (E : XK) (t : TA) : TE := fun σ H Q => t σ H fun vs H1 => ∀ x dx, H1 x = none → H1 dx = none → dx ≠ x →
  sp (.ref x :: (vs ++ dvs)) (upd (upd H1 dx (.own x)) x (.ins C dx [])) (fun v H2 => v = .non ∧ Q (.ref x) H2) E
def Binds (K : PySem.W.Frag) (fd : FuncData) (ps : List Str) (ds : List Value) : Prop :=
  ∀ (s : Shared) (us : List Value), K.In s.heap → (us ++ ds).length = ps.length → BindsTo s fd ⟨us, []⟩ (ps.zip (us ++ ds))
theorem Binds.all {K : PySem.W.Frag} {fd : FuncData} {ps : List Str} (h : ∀ us : List Value, us.length = ps.length → bindArgs fd ⟨us, []⟩ = pure (ps.zip us)) : Binds K fd ps [] := fun s us _ hl => by
  rw [List.append_nil] at hl ⊢
  exact .of_eq (h us hl)
def Passes (CX : CXT) (X : Cx) (E : XK) : Prop := ∀ (pins : List (Addr × Obj)) (σ : St) (H : Hp) (s : Shared) (e : Value) (s' : Shared), Inv X pins σ H s → CX X.stack H s E e s' → X.xe e s'
section
variable {X : Cx} {CX : CXT} {k : Nat} {f C : Addr} {fd : FuncData} {ps : List Str} {sp : Sp} {dvs : List V} {ds : List Value} {E : XK} {x m : Str} {p pos apos : Pos} {e o : Expr} {es : List Expr} {ta : TE} {t : TA}
theorem run_fn {pins : List (Addr × Obj)} {σ : St} {H : Hp} {s : Shared} {Q : VK} {us : List Value} {vs : List V} (F : FnOk X.prog X.w X.K X.mg X.base CX k f fd ps sp) (hr : Room k X.A) (hb : Binds X.K fd ps ds) (hd : Vals dvs ds) (hx : Passes CX X E)
    (I : Inv X pins σ H s) (r : Vals vs us) (h : sp (vs ++ dvs) H Q E) : wpAny (model X.prog X.w) X.A (call (.ref f) us) (EP X pins σ Q) X.xe s := by
  have r2 : Vals (vs ++ dvs) (us ++ ds) := r.append hd
  have hl : (us ++ ds).length = ps.length := by rw [← r2.length]; exact F.len _ _ _ _ h
  refine wpAny_call (codeAny_mono (F.run X.A X.stack s H ⟨us, []⟩ (us ++ ds) (vs ++ dvs) Q E hr I.env0 (hb s us I.kIn hl) r2 h) fun r s' hq => ?_)
  cases r with
  | error e => exact hx pins σ H s e s' I hq
  | ok fl =>
    cases fl with
    | ret u => exact I.after hq
    | next => exact False.elim hq
    | brk => exact False.elim hq
    | cont => exact False.elim hq
theorem pe_call (F : FnOk X.prog X.w X.K X.mg X.base CX k f fd ps sp) (hr : Room k X.A) (hg : Gl X x) (hm : X.mg x = some (.ref f)) (hk : PySem.W.keepIn X.K (.ref f) = true) (hb : Binds X.K fd ps ds) (hd : Vals dvs ds) (hx : Passes CX X E)
    (ha : PA X (e :: es) t) (hdb : (x == ("__debug__" : Str)) = false := by decide) (he : starEach (e :: es) X.env = (false, eval e X.env) :: starEach es X.env := by rfl) (hpl : (backTo pos (starEach es X.env)).any (·.1) = false := by rfl) :
    PE X (.Call (.Name x p) (e :: es) [] pos) (tCall sp dvs E t) := by
  intro pins s σ H Q I h
  refine wpAny_Call_Name_kw (ld_glob I hg hm ?_ hdb)
  refine PySem.W.callWith_K (h₀ := X.base) I.ok.mod.kin hk (thn (ha pos pins s σ H _ I h) fun us s1 ⟨vs, H1, I1, r, q⟩ => ⟨I1.kIn, ?_⟩) he hpl
  exact run_fn F hr hb hd hx I1 r q
theorem pe_meth {pl : Sem Bool} (he : PE X o ta) (c : Cls X.K C) (hm : Meth X.K C m f) (F : FnOk X.prog X.w X.K X.mg X.base CX k f fd ps sp) (hr : Room k X.A) (hb : Binds X.K fd ps ds) (hd : Vals dvs ds) (hx : Passes CX X E) (ha : PA X (e :: es) t)
    (hst : starEach (e :: es) X.env = (false, eval e X.env) :: starEach es X.env := by rfl) (hpl : (backTo pos (starEach es X.env)).any (·.1) = false := by rfl)
    (ht : eval (.Call (.Attribute o m apos) (e :: es) [] pos) X.env = (do
      let ov ← eval o X.env
      standAt apos.atName
      let (f, first) ← holding [ov] (getMethod ov m pl)
      callWith pos f first (backTo pos (starEach (e :: es) X.env)) (backToKw pos (keywordEach [] X.env))) := by rfl) :
    PE X (.Call (.Attribute o m apos) (e :: es) [] pos) (tMeth C m sp dvs E ta t) := by
  intro pins s σ H Q I h
  refine PySem.W.methodCall_KW (pl := pl) (thn (he pins s σ H _ I h) fun u s1 ⟨x, H1, I1, rx, a, dx, fs, ex, ea, l, q⟩ => ?_) ht
  subst ex
  obtain rfl : u = Value.ref a := rx
  refine getmeth_ok I1 ea c hm l ?_
  refine PySem.W.callWith_K (first := [.ref a]) (h₀ := X.base) I.ok.mod.kin hm.kp (thn (ha pos pins s1 σ H1 _ I1 q) fun us s2 ⟨vs, H2, I2, r, q2⟩ => ⟨I2.kIn, ?_⟩) hst hpl
  exact run_fn (us := .ref a :: us) (vs := .ref a :: vs) F hr hb hd hx I2 (.cons rfl r) q2
structure Mk (K : PySem.W.Frag) (C f : Addr) : Prop where
  makes : PySem.W.makesIn K C = true
  init : PySem.W.findIn K (.ref C) "__init__" = some (some (.ref f))
  fn : PySem.W.isFn K (.ref f) = true
  kp : PySem.W.keepIn K (.ref C) = true
theorem run_make {pins : List (Addr × Obj)} {σ : St} {H : Hp} {s : Shared} {Q : VK} {us : List Value} {vs : List V} (M : Mk X.K C f) (F : FnOk X.prog X.w X.K X.mg X.base CX k f fd ps sp) (hr : Room (k + 1) X.A) (hb : Binds X.K fd ps ds) (hd : Vals dvs ds)
    (hx : Passes CX X E) (I : Inv X pins σ H s) (r : Vals vs us)
    (h : ∀ x dx, H x = none → H dx = none → dx ≠ x → sp (.ref x :: (vs ++ dvs)) (upd (upd H dx (.own x)) x (.ins C dx [])) (fun v H2 => v = .non ∧ Q (.ref x) H2) E) :
    wpAny (model X.prog X.w) X.A (call (.ref C) us) (EP X pins σ Q) X.xe s := by
  have hq := h (s.heap.objs.size + 1) s.heap.objs.size (I.hok.fresh (Nat.le_succ _)) (I.hok.fresh (Nat.le_refl _)) (Nat.ne_of_lt (Nat.lt_succ_self _))
  have I2 := Inv.made (C := C) I
  have r2 : Vals (V.ref (s.heap.objs.size + 1) :: (vs ++ dvs)) (Value.ref (s.heap.objs.size + 1) :: (us ++ ds)) := .cons rfl (r.append hd)
  have hl : (Value.ref (s.heap.objs.size + 1) :: us ++ ds).length = ps.length := by
    have e := r2.length
    rw [F.len _ _ _ _ hq] at e
    exact e.symm
  refine wpAny_call (make_map (f := f) I.kIn M.makes M.init (beq_iff_eq.mp M.fn) (codeAny_mono (F.run _ X.stack _ _ ⟨Value.ref (s.heap.objs.size + 1) :: us, []⟩ (Value.ref (s.heap.objs.size + 1) :: (us ++ ds)) _ _ E (hr.make C us [])
    (I2.env0.make C us []) (hb _ (Value.ref (s.heap.objs.size + 1) :: us) I2.kIn hl) r2 hq) fun r s' hq' => ?_))
  cases r with
  | error e => exact hx pins σ _ _ e s' I2 hq'
  | ok fl =>
    cases fl with
    | ret u =>
      obtain ⟨v, H', I3, rv, ev, q3⟩ := I2.after hq'
      subst ev
      exact ⟨rv, ⟨V.ref (s.heap.objs.size + 1), H', I3, rfl, q3⟩⟩
    | next => exact False.elim hq'
    | brk => exact False.elim hq'
    | cont => exact False.elim hq'
theorem pe_make (M : Mk X.K C f) (F : FnOk X.prog X.w X.K X.mg X.base CX k f fd ps sp) (hr : Room (k + 1) X.A) (hg : Gl X x) (hm : X.mg x = some (.ref C)) (hb : Binds X.K fd ps ds) (hd : Vals dvs ds) (hx : Passes CX X E)
    (ha : PA X (e :: es) t) (hdb : (x == ("__debug__" : Str)) = false := by decide) (he : starEach (e :: es) X.env = (false, eval e X.env) :: starEach es X.env := by rfl) (hpl : (backTo pos (starEach es X.env)).any (·.1) = false := by rfl) :
    PE X (.Call (.Name x p) (e :: es) [] pos) (tMake C sp dvs E t) := by
  intro pins s σ H Q I h
  refine wpAny_Call_Name_kw (ld_glob I hg hm ?_ hdb)
  refine PySem.W.callWith_K (h₀ := X.base) I.ok.mod.kin M.kp (thn (ha pos pins s σ H _ I h) fun us s1 ⟨vs, H1, I1, r, q⟩ => ⟨I1.kIn, ?_⟩) he hpl
  exact run_make M F hr hb hd hx I1 r q
end
section
variable {X : Cx} {CX : CXT} {k : Nat} {f C : Addr} {fd : FuncData} {ps ks : List Str} {sp : Sp} {E : XK} {x m : Str} {p pos apos kpos : Pos} {e o : Expr} {es : List Expr} {kws : List Keyword} {te ta : TE} {t tk : TA} {nm : Option Str}
variable {g : List Value → List Value → List Value} {gV : List V → List V → List V}
end
structure FnScope (N P : List Str) (sc : Scope) : Prop where
  kind : sc.kind = .function
  co : sc.isCoroutine = false
  gen : sc.isGenerator = false
  nd : N.Nodup
  pre : N.take P.length = P
  par : ∀ x ∈ P, sc.names.lookup x = some .local ∨ sc.names.lookup x = some .cell
  nofree : ∀ y ∈ sc.names, y.2 ≠ .free
theorem bindL_out {kindOf : Str → Option NameKind} {x : Str} : ∀ {binds : List (Str × Value)} {m : Str → Option Value}, (∀ v, (x, v) ∉ binds) → bindL kindOf binds m x = m x
  | [], _, _ => rfl
  | (n, v) :: r, m, h => by
    unfold bindL
    rw [bindL_out fun w hw => h w (List.mem_cons_of_mem _ hw)]
    split
    · have : x ≠ n := by rintro rfl; exact h v List.mem_cons_self
      simp [this]
    · rfl
theorem bindC_out {kindOf : Str → Option NameKind} {x : Str} : ∀ {binds : List (Str × Value)} {m : Str → Option Value}, (∀ v, (x, v) ∉ binds) → bindC kindOf binds m x = m x
  | [], _, _ => rfl
  | (n, v) :: r, m, h => by
    unfold bindC
    rw [bindC_out fun w hw => h w (List.mem_cons_of_mem _ hw)]
    split
    · rfl
    · have : x ≠ n := by rintro rfl; exact h v List.mem_cons_self
      simp [this]
theorem bindL_get {kindOf : Str → Option NameKind} {x : Str} {v : Value} : ∀ {P : List Str} {vs : List Value} {i : Nat} {m : Str → Option Value}, P.Nodup → P[i]? = some x → vs[i]? = some v → kindOf x = some .local →
    bindL kindOf (P.zip vs) m x = some v
  | [], _, _, _, _, h, _, _ => by simp at h
  | _ :: _, [], _, _, _, _, h, _ => by simp at h
  | p :: P, w :: vs, 0, m, nd, h1, h2, hk => by
    simp at h1 h2; subst h1; subst h2
    show bindL kindOf ((p, w) :: P.zip vs) m p = _
    unfold bindL
    rw [bindL_out fun v hv => (List.nodup_cons.mp nd).1 (List.of_mem_zip hv).1, if_pos hk]
    simp
  | p :: P, w :: vs, i + 1, m, nd, h1, h2, hk => by
    show bindL kindOf ((p, w) :: P.zip vs) m x = _
    unfold bindL
    exact bindL_get (i := i) (List.nodup_cons.mp nd).2 (by simpa using h1) (by simpa using h2) hk
theorem bindC_get {kindOf : Str → Option NameKind} {x : Str} {v : Value} : ∀ {P : List Str} {vs : List Value} {i : Nat} {m : Str → Option Value}, P.Nodup → P[i]? = some x → vs[i]? = some v → kindOf x ≠ some .local →
    bindC kindOf (P.zip vs) m x = some v
  | [], _, _, _, _, h, _, _ => by simp at h
  | _ :: _, [], _, _, _, _, h, _ => by simp at h
  | p :: P, w :: vs, 0, m, nd, h1, h2, hk => by
    simp at h1 h2; subst h1; subst h2
    show bindC kindOf ((p, w) :: P.zip vs) m p = _
    unfold bindC
    rw [bindC_out fun v hv => (List.nodup_cons.mp nd).1 (List.of_mem_zip hv).1, if_neg hk]
    simp
  | p :: P, w :: vs, i + 1, m, nd, h1, h2, hk => by
    show bindC kindOf ((p, w) :: P.zip vs) m x = _
    unfold bindC
    exact bindC_get (i := i) (List.nodup_cons.mp nd).2 (by simpa using h1) (by simpa using h2) hk
def start (N : List Str) (vs : List V) : St := vs.map some ++ List.replicate (N.length - vs.length) none
def cxOf (CX : CXT) (P : Program) (w : World) (K : PySem.W.Frag) (mg : Str → Option Value) (base : Heap) (N : List Str) (qual : Str) (scope : Scope) (f : Addr) (cd : Value) (A : Around) (outer : List Env) (s : Shared) (H : Hp) (E : XK) : Cx where
  prog := P
  w := w
  K := K
  mg := mg
  base := base
  A := A.deeper (envOfC qual scope s.heap.objs.size f cd)
  N := N
  s₀ := s
  H₀ := H
  env := envOfC qual scope s.heap.objs.size f cd
  outer := outer
  stack := envOfC qual scope s.heap.objs.size f cd :: outer
  ex := []
  calm := true
  fn := fun _ => true
  pn := []
  xe := fun e s' => wpAny (model P w) (A.deeper (envOfC qual scope s.heap.objs.size f cd)) (leaving (envOfC qual scope s.heap.objs.size f cd) e) (fun _ s'' => CX outer H s E e s'') (fun e' s'' => CX outer H s E e' s'') s'
theorem cell_has {sc : Scope} {n : Nat} {x : Str} (h : sc.names.lookup x = some .cell) : ∃ c, (cellsFrom n sc.names []).lookup x = some c := by
  have q := PySem.W.cellsFrom_some sc.names n [] (.inl h)
  exact Option.isSome_iff_exists.mp q
theorem inv_start {CX : CXT} {P : Program} {w : World} {K : PySem.W.Frag} {mg : Str → Option Value} {base : Heap} {N ps : List Str} {qual : Str} {scope : Scope} {f : Addr} {cd : Value} {A : Around} {outer : List Env} {s s1 : Shared} {H : Hp} {E : XK} {us : List Value} {vs : List V}
    (S : FnScope N ps scope) (hd : A.handled = none) (e0 : Env0 P w K mg base A outer s H) (hl : vs.length = ps.length) (r : Vals vs us)
    (x : InCallC s s.heap.objs.size (bindL (envOfC qual scope s.heap.objs.size f cd).kindOf (ps.zip us) fun _ => none) (cellsFrom (s.heap.objs.size + 1) scope.names []) (bindC (envOfC qual scope s.heap.objs.size f cd).kindOf (ps.zip us) fun _ => none) s1) :
    Inv (cxOf CX P w K mg base N qual scope f cd A outer s H E) [] (start N vs) H s1 := by
  have hpl : ps.length ≤ N.length := by have := congrArg List.length S.pre; rw [List.length_take] at this; lia
  obtain ⟨h1, tk, rfl, hk⟩ := x.done
  have noA : ∀ b : Addr, b ∉ (cxOf CX P w K mg base N qual scope f cd A outer s H E).ex := fun b z => absurd (show b ∈ ([] : List Addr) from z) (by simp)
  refine ⟨⟨e0.mod, S.kind, rfl, rfl, Nat.le_refl _, fun y z c h1 h2 => ?_, fun y hy => ?_, fun y c _ h => ?_, fun _ => hd, Around.frames_deeper e0.frames, .inr ⟨rfl, rfl⟩, fun b z => absurd z (noA b), e0.bs, e0.bsz, fun b _ _ => noA b, fun b z => absurd z (noA b), e0.funs, e0.frf⟩,
    rfl, e0.bare, Un.kept hk, ⟨_, x.toInCall.ns, fun i y v h1 h2 h3 => ?_⟩, fun y c h => ⟨_, x.cell y c h⟩, e0.hok.fresh (Nat.le_refl _), fun y c h => ?_, fun p hp => absurd (show p ∈ ([] : List (Addr × Obj)) from hp) (by simp), e0.hok.kept hk, ?_⟩
  · exact name_of_addr x.apart (PySem.mem_of_lookup h1) (PySem.mem_of_lookup h2)
  · have hy : scope.names.lookup y = some .cell ∨ scope.names.lookup y = some .free := hy
    rcases hy with hy | hy
    · exact cell_has hy
    · exact absurd rfl (S.nofree _ (PySem.mem_of_lookup hy))
  · exact Nat.le_of_lt (x.above y c (PySem.mem_of_lookup h))
  · have hi : i < vs.length := by
      unfold start at h2
      by_cases hi : i < vs.length
      · exact hi
      · rw [List.getElem?_append_right (by simpa using hi)] at h2
        rw [List.getElem?_replicate] at h2
        split at h2 <;> cases h2
    have ha : vs[i]? = some v := by
      unfold start at h2
      rw [List.getElem?_append_left (by simpa using hi), List.getElem?_map] at h2
      cases e : vs[i]? with
      | none => rw [e] at h2; cases h2
      | some a => rw [e] at h2; cases h2; rfl
    obtain ⟨u, hu, rv⟩ := r.get ha
    have hp : ps[i]? = some y := by
      rw [← S.pre, List.getElem?_take_of_lt (by lia)]; exact h1
    have ndP : ps.Nodup := by rw [← S.pre]; exact S.nd.sublist (List.take_sublist _ _)
    refine ⟨u, rv, ?_⟩
    rcases S.par y (List.mem_of_getElem? hp) with k | k
    · exact .inl ⟨k, bindL_get ndP hp hu k⟩
    · obtain ⟨c, e⟩ := cell_has (n := s.heap.objs.size + 1) k
      refine .inr ⟨.inl k, c, e, ?_⟩
      have q := x.cell y c e
      rw [bindC_get ndP hp hu (by show scope.names.lookup y ≠ _; rw [k]; decide)] at q
      exact q
  · exact e0.hok.fresh (Nat.le_of_lt (x.above y c (PySem.mem_of_lookup h)))
  · unfold start
    show _ = N.length
    rw [List.length_append, List.length_map, List.length_replicate]
    lia
theorem fn_of {CX : CXT} {P : Program} {w : World} {K : PySem.W.Frag} {mg : Str → Option Value} {base : Heap} {k : Nat} {f : Addr} {name qual : Str} {params : Arguments} {body : List Stmt} {scope : Scope} {dV kV doc pm cdv ct oc : Value} {an od : Option Addr}
    {osl : Array (Option Value)} {N ps : List Str} {sp : Sp} (lk : K.lookup f = some ⟨oc, od, .func (PySem.W.fnOf name qual params body scope dV kV doc pm an cdv ct), osl⟩) (hcd : PySem.W.codeIn K cdv qual = true) (S : FnScope N ps scope)
    (len : ∀ vs H Q E, sp vs H Q E → vs.length = ps.length)
    (hbody : ∀ (A : Around) (outer : List Env) (s : Shared) (H : Hp) (vs : List V) (Q : VK) (E : XK), Room k (A.deeper (envOfC qual scope s.heap.objs.size f cdv)) → sp vs H Q E →
      ∃ t, PSs (cxOf CX P w K mg base N qual scope f cdv A outer s H E) body t ∧ t { nx := fun _ H' => Q .non H', rt := Q } (start N vs) H) :
    FnOk P w K mg base CX (k + 1) f (PySem.W.fnOf name qual params body scope dV kV doc pm an cdv ct) ps sp := by
  refine ⟨len, fun A outer s H args us vs Q E hr e0 hb r hsp => ?_⟩
  have hl := len _ _ _ _ hsp
  have KX : K.In s.heap := e0.mod.kin.keeps fun b o e => (e0.bs b o e).1
  have lim : s.heap.NoLimit := e0.mod.nolimit.keeps fun b o e => (e0.bs b o e).1
  have hkind : ∀ y ∈ ps.zip us, scope.names.lookup y.1 = some .local ∨ (scope.names.lookup y.1 = some .cell ∧ ((cellsFrom (s.heap.objs.size + 1) scope.names []).lookup y.1).isSome = true) := fun ⟨n, v⟩ hy => by
    rcases S.par n (List.of_mem_zip hy).1 with q | q
    · exact .inl q
    · exact .inr ⟨q, PySem.W.cellsFrom_some _ _ _ (.inl q)⟩
  refine codeAny_call_function hr.depth (KX _ _ lk) rfl S.co S.gen rfl (PySem.W.codeRec_of KX hcd) (hb _ _ _ _ ?_)
  refine wpAny_newFunctionEnv_cells S.kind hkind fun env he s1 x => ?_
  subst he
  refine ⟨lim.keeps x.toInCall.keep, codeAny_func ?_⟩
  obtain ⟨t, ht, hq⟩ := hbody A outer s H vs Q E (hr.deeper _) hsp
  have I : Inv (cxOf CX P w K mg base N qual scope f cdv A outer s H E) [] (start N vs) H s1 := inv_start S hr.hd e0 hl r x
  refine wpAny_mono (ht [] s1 (start N vs) H _ I hq) (fun fl s' hs => ?_) fun e s' hs => hs
  have fin : ∀ {σ' : St} {H' : Hp} {v : V} {u : Value}, Inv (cxOf CX P w K mg base N qual scope f cdv A outer s H E) [] σ' H' s' → RelV v u → Q v H' → CE outer P w H s Q u s' :=
    fun {σ' H' v u} J rv q => ⟨v, H', J.os, J.bare, J.base, J.hok, rv, q⟩
  cases fl with
  | ret u =>
    obtain ⟨v, σ', H', J, rv, q⟩ := hs
    exact fin J rv q
  | next =>
    obtain ⟨σ', H', J, q⟩ := hs
    exact fin (v := V.non) (u := Value.none) J rfl q
  | brk =>
    obtain ⟨_, _, _, q⟩ := hs
    exact False.elim q
  | cont =>
    obtain ⟨_, _, _, q⟩ := hs
    exact False.elim q
end L2
namespace L2
open PySem PySem.Spec PyProof.Rows
section
variable {X : Cx} {x : Str} {p pos : Pos} {e : Expr} {es : List Expr} {t : TA} {id T : String} {r : List V → Hp → VK → Prop}
def tCB (r : List V → Hp → VK → Prop) (t : TA) : TE := fun σ H Q => t σ H fun vs H1 => r vs H1 Q
theorem pe_callB (hc : CallR X (.builtin id) r) (hg : Gl X x) (hm : X.mg x = none) (hv : bootBuiltins x = some (.builtin id)) (ha : PA X (e :: es) t) (hn : x ≠ "__name__" := by decide) (hdb : (x == ("__debug__" : Str)) = false := by decide)
    (he : starEach (e :: es) X.env = (false, eval e X.env) :: starEach es X.env := by rfl) (hpl : (backTo pos (starEach es X.env)).any (·.1) = false := by rfl) : PE X (.Call (.Name x p) (e :: es) [] pos) (tCB r t) := by
  intro pins s σ H Q I h
  refine wpAny_Call_Name_kw (ld_blt I hg hm hv ?_ hn hdb)
  exact PyProof.Rows.callWith_builtin1 (thn (ha pos pins s σ H _ I h) fun us s1 ⟨vs, H1, I1, r1, q1⟩ => hc pins s1 σ H1 vs us Q I1 r1 q1) he hpl
theorem pe_callTy (hc : CallR X (.type T) r) (hg : Gl X x) (hm : X.mg x = none) (hv : bootBuiltins x = some (.type T)) (ha : PA X (e :: es) t) (hn : x ≠ "__name__" := by decide) (hdb : (x == ("__debug__" : Str)) = false := by decide)
    (he : starEach (e :: es) X.env = (false, eval e X.env) :: starEach es X.env := by rfl) (hpl : (backTo pos (starEach es X.env)).any (·.1) = false := by rfl) : PE X (.Call (.Name x p) (e :: es) [] pos) (tCB r t) := by
  intro pins s σ H Q I h
  refine wpAny_Call_Name_kw (ld_blt I hg hm hv ?_ hn hdb)
  exact PyProof.Rows.callWith_type1 (thn (ha pos pins s σ H _ I h) fun us s1 ⟨vs, H1, I1, r1, q1⟩ => hc pins s1 σ H1 vs us Q I1 r1 q1) he hpl
end
end L2
namespace HT
open PySem PyProof.Rows
section
open PySem.SeqAt
open PySem.AutoSeq1 (wpAny_loadPart')
open PySem.MeetsSeq PySem.MeetsSeq2 PySem.MeetsSeq3
end
section
variable {prog : Program} {w : World} {A : Around} {E : Value → Shared → Prop} {s : Shared}
def sIx (n d : Nat) : Option Int → Nat
  | none => d
  | some v => if v < 0 then (v + (n : Int)).toNat else min v.toNat n
theorem sIx_none (n d : Nat) : sIx n d none = d := rfl
theorem sIx_nat (n d k : Nat) : sIx n d (some (k : Int)) = min k n := by
  show (if (k : Int) < 0 then ((k : Int) + (n : Int)).toNat else min (k : Int).toNat n) = min k n
  rw [if_neg (by lia), Int.toNat_natCast]
theorem sIx_le (n d : Nat) (hd : d ≤ n) (o : Option Int) : sIx n d o ≤ n := by
  cases o with
  | none => exact hd
  | some v =>
    show (if v < 0 then (v + (n : Int)).toNat else min v.toNat n) ≤ n
    by_cases hv : v < 0
    · rw [if_pos hv]; lia
    · rw [if_neg hv]; exact Nat.min_le_right _ _
theorem clip_eq (v : Int) (n d : Nat) : (if v < 0 then max (v + (n : Int)) 0 else min v (n : Int)) = ((sIx n d (some v) : Nat) : Int) := by
  show (if v < 0 then max (v + (n : Int)) 0 else min v (n : Int)) = (((if v < 0 then (v + (n : Int)).toNat else min v.toNat n) : Nat) : Int)
  by_cases hv : v < 0
  · simp only [if_pos hv]; lia
  · simp only [if_neg hv]; lia
theorem adjust_gen (lo hi : Option Int) (n : Nat) : Builtin.Slice.sliceAdjust lo hi 1 (n : Int) = (((sIx n 0 lo : Nat) : Int), ((sIx n n hi : Nat) : Int)) := by
  have h1 : ¬ ((1 : Int) < 0) := by lia
  unfold Builtin.Slice.sliceAdjust
  simp only [h1, if_false]
  refine Prod.ext ?_ ?_
  · cases lo with
    | none => rfl
    | some v => exact clip_eq v n 0
  · cases hi with
    | none => rfl
    | some v => exact clip_eq v n n
theorem places_gen (i j : Nat) : Builtin.Slice.slicePlaces (i : Int) (j : Int) 1 = j - i := by
  unfold Builtin.Slice.slicePlaces
  have h1 : (1 : Int) > 0 := by lia
  simp only [h1, if_true, Int.ediv_one]
  split <;> lia
theorem slicePart_ {v : Value} {o : Option Int} {Q : Option Int → Shared → Prop} (p : IsPart v o) (h : Q o s) : wpAny (model prog w) A (Builtin.Slice.slicePartIndex v) Q E s := by
  cases p with
  | none => exact slicePart_none h
  | int i t => exact slicePart_int h
theorem sliceApplied_gen {sl : Addr} {vl vu : Value} {lo hi : Option Int} {n : Nat} {Q : Int × Int × Nat → Shared → Prop} (hs : s.heap.IsSliceOf sl vl vu .none) (pl : IsPart vl lo) (pu : IsPart vu hi)
    (h : Q (((sIx n 0 lo : Nat) : Int), 1, sIx n n hi - sIx n 0 lo) s) : wpAny (model prog w) A (Builtin.Slice.sliceApplied (.ref sl) (pure (n : Int))) Q E s := by
  obtain ⟨os, hos, hcs, hds⟩ := id hs
  unfold Builtin.Slice.sliceApplied Builtin.Slice.sliceFields
  refine wpAny_bind (wpAny_bind (wpAny_field hos hds (x := vl) rfl (wpAny_bind (wpAny_field hos hds (x := vu) rfl (wpAny_bind (wpAny_field hos hds (x := .none) rfl (wpAny_pure ?_)))))))
  refine wpAny_bind (slicePart_none ?_)
  show wpAny _ _ (if ((1 : Int) == 0) = true then _ else _) _ _ s
  rw [if_neg (by decide)]
  refine wpAny_bind (slicePart_ pl (wpAny_bind (slicePart_ pu (wpAny_bind (wpAny_pure ?_)))))
  show wpAny _ _ (match Builtin.Slice.sliceAdjust lo hi 1 (n : Int) with | (lo, hi) => pure (lo, (1 : Int), Builtin.Slice.slicePlaces lo hi 1)) _ _ s
  rw [adjust_gen lo hi n]
  show wpAny _ _ (pure (((sIx n 0 lo : Nat) : Int), (1 : Int), Builtin.Slice.slicePlaces ((sIx n 0 lo : Nat) : Int) ((sIx n n hi : Nat) : Int) 1)) _ _ s
  rw [places_gen]
  exact wpAny_pure h
theorem pick_gen (xs : Array Value) (i k : Nat) : ((List.range k).filterMap fun (m : Nat) => xs[((i : Int) + (m : Int) * 1).toNat]?).toArray = ((xs.toList.drop i).take k).toArray := by
  have e : (fun (m : Nat) => xs[((i : Int) + (m : Int) * 1).toNat]?) = fun m => xs[i + m]? := by
    funext m
    have : ((i : Int) + (m : Int) * 1).toNat = i + m := by lia
    rw [this]
  rw [e]
  have := pick_run xs i k
  rw [List.filterMap_map] at this
  have e2 : ((fun x => xs[x]?) ∘ fun x => i + x) = fun m => xs[i + m]? := rfl
  rw [e2] at this
  rw [this]
theorem getItem_tuple_cut {t sl : Addr} {items : Array Value} {vl vu : Value} {lo hi : Option Int} {Q : Value → Shared → Prop} (ht : IsTup s.heap t items) (hs : s.heap.IsSliceOf sl vl vu .none) (pl : IsPart vl lo) (pu : IsPart vu hi)
    (hw : ¬ (sIx items.size 0 lo = 0 ∧ sIx items.size items.size hi = items.size))
    (h : Q (.ref s.heap.objs.size) { s with heap := s.heap.push { cls := .type "tuple", data := .seq ((items.toList.drop (sIx items.size 0 lo)).take (sIx items.size items.size hi - sIx items.size 0 lo)).toArray } })
    (hsz : items.size ≤ sizeLine) : wpAny (model prog w) A (getItem (.ref t) (.ref sl)) Q E s := by
  have htake : sizeOk (.seq ((items.toList.drop (sIx items.size 0 lo)).take (sIx items.size items.size hi - sIx items.size 0 lo)).toArray) := by
    show ((items.toList.drop (sIx items.size 0 lo)).take (sIx items.size items.size hi - sIx items.size 0 lo)).toArray.size ≤ sizeLine
    rw [List.size_toArray, List.length_take, List.length_drop, Array.length_toList]
    lia
  have hj : sIx items.size items.size hi ≤ items.size := sIx_le _ _ (Nat.le_refl _) hi
  obtain ⟨os, hos, hcs, hds⟩ := id hs
  have hTs : s.TypeIs (.ref sl) "slice" := ⟨os, hos, hcs⟩
  unfold getItem
  try with_reducible refine wpAny_holding ?_
  first | refine wpAny_bind (wpAny_pure ?_) | skip
  refine wpAny_bind (wpAny_sequenceKey ht.typeIs (by decide) ?_)
  refine wpAny_bind (wpAny_callSpecial?_slot (name := Str.ofString "__getitem__") ht.typeIs PyProof.Rows.slot_tuple_getitem
    (wpAny_call_entry PyProof.Rows.slot_tuple_getitem ht.typeIs entry_tuple_getitem ?_ (args_tuple_getitem _ _)))
  show wpAny _ _ (Builtin.Tuple.tupleItemsOf (.ref t) >>= _) _ _ s
  refine wpAny_bind (tupleItemsOf_ ht ?_)
  refine wpAny_bind (wpAny_typeOf hTs ?_)
  rw [if_pos (by decide)]
  refine wpAny_bind (sliceApplied_gen hs pl pu ?_)
  have hno : ¬ ((((sIx items.size 0 lo : Nat) : Int) == 0 && (1 : Int) == 1 && (sIx items.size items.size hi - sIx items.size 0 lo) == items.size) = true) := by
    intro q
    rw [Bool.and_eq_true, Bool.and_eq_true] at q
    have q1 : ((sIx items.size 0 lo : Nat) : Int) = 0 := eq_of_beq q.1.1
    have q2 : sIx items.size items.size hi - sIx items.size 0 lo = items.size := eq_of_beq q.2
    exact hw ⟨by lia, by lia⟩
  show wpAny _ _ (if (((sIx items.size 0 lo : Nat) : Int) == 0 && (1 : Int) == 1 && (sIx items.size items.size hi - sIx items.size 0 lo) == items.size) = true then _ else _) _ _ s
  rw [if_neg hno, pick_gen]
  first
    | exact wpAny_bind (m := Builtin.Tuple.tupleExact _) (wpAny_newObj_type (wpAny_pure ⟨_, rfl, wpAny_pure h⟩) htake)
    | exact wpAny_bind (m := Builtin.Tuple.tupleExact _) (wpAny_newObj_type (wpAny_bind (wpAny_pure (wpAny_pure ⟨_, rfl, wpAny_pure h⟩))) htake)
    | exact wpAny_bind (wpAny_bind (m := Builtin.Tuple.tupleExact _) (wpAny_newObj_type (wpAny_pure (wpAny_pure ⟨_, rfl, wpAny_pure h⟩)) htake))
    | exact wpAny_bind (wpAny_bind (m := Builtin.Tuple.tupleExact _) (wpAny_newObj_type (wpAny_pure ⟨_, rfl, wpAny_pure h⟩) htake))
end
end HT
namespace L2
open PySem PySem.Spec PyProof.Rows
abbrev TO := St → Hp → (Option Int → Hp → Prop) → Prop
def PO (X : Cx) (e : Option Expr) (t : TO) : Prop :=
  ∀ (pins : List (Addr × Obj)) (s : Shared) (σ : St) (H : Hp) (Q : Option Int → Hp → Prop), Inv X pins σ H s → t σ H Q →
    wpAny (model X.prog X.w) X.A (evalPart e X.env) (fun u s' => ∃ o H', Inv X pins σ H' s' ∧ IsPart u o ∧ Q o H') X.xe s
def tNoPart : TO := fun _ H Q => Q none H
def tPart (t : TE) : TO := fun σ H Q => t σ H fun x H1 => ∃ i, x = .int i ∧ Q (some i) H1
theorem intsAre_of {ns : List Int} : ∀ {us : List Value}, Vals (ns.map V.int) us → IntsAre us ns := by
  induction ns with
  | nil => intro us r; rw [List.map_nil] at r; cases r; exact .nil
  | cons n ns ih =>
    intro us r
    rw [List.map_cons] at r
    cases r with
    | cons r1 r2 =>
      obtain ⟨t, e⟩ := r1
      subst e
      exact .cons n t (ih r2)
section
variable {X : Cx} {e : Expr} {te : TE} {lo hi : Option Expr} {tl th : TO} {pos p2 : Pos}
theorem po_none : PO X none tNoPart := by
  intro pins s σ H Q I h
  rw [evalPart_none]
  exact wpAny_pure ⟨none, H, I, .none, h⟩
theorem po_some (h : PE X e te) : PO X (some e) (tPart te) := by
  intro pins s σ H Q I hw
  rw [evalPart_some]
  refine thn (h pins s σ H _ I hw) fun u s1 ⟨x, H1, I1, r1, q1⟩ => ?_
  obtain ⟨i, rfl, q⟩ := q1
  obtain ⟨t, rfl⟩ := r1
  exact ⟨some i, H1, I1, .int i t, q⟩
def SlR (X : Cx) (r : V → Option Int → Option Int → Hp → VK → Prop) : Prop :=
  ∀ (pins : List (Addr × Obj)) (s : Shared) (σ : St) (H : Hp) (x : V) (v vl vu : Value) (lo hi : Option Int) (sl : Addr) (Q : VK), Inv X pins σ H s → RelV x v → s.heap.IsSliceOf sl vl vu .none → IsPart vl lo → IsPart vu hi → r x lo hi H Q →
    ∃ T id, typeLookup (.type T) "__getitem__" = pure (some (.builtin id)) ∧ s.TypeIs v T ∧ wpAny (model X.prog X.w) X.A (getItem v (.ref sl)) (EP X pins σ Q) X.xe s
def tSl (r : V → Option Int → Option Int → Hp → VK → Prop) (te : TE) (tl th : TO) : TE := fun σ H Q => te σ H fun x H1 => tl σ H1 fun l H2 => th σ H2 fun u H3 => r x l u H3 Q
theorem pe_slice {r : V → Option Int → Option Int → Hp → VK → Prop} (hr : SlR X r) (he : PE X e te) (hl : PO X lo tl) (hu : PO X hi th) : PE X (.Subscript e (.Slice lo hi none p2) pos) (tSl r te tl th) := by
  intro pins s σ H Q I h
  refine Subscript_ (thn (he pins s σ H _ I h) fun v s1 ⟨x, H1, I1, r1, q1⟩ => ?_)
  refine wpAny_Slice (thn (hl pins s1 σ H1 _ I1 q1) fun vl s2 ⟨l, H2, I2, pl, q2⟩ => thn (hu pins s2 σ H2 _ I2 q2) fun vu s3 ⟨u, H3, I3, pu, q3⟩ => ?_)
  rw [evalPart_none]
  refine wpAny_pure ?_
  have I4 : Inv X pins σ H3 { s3 with heap := s3.heap.push { cls := .type "slice", data := .fields #[vl, vu, .none] } } := I3.kept (t' := s3.toks) fun b ob q => Heap.get?_push_of_some _ q
  obtain ⟨T, id, hT, ht, hg⟩ := hr pins { s3 with heap := s3.heap.push { cls := .type "slice", data := .fields #[vl, vu, .none] } } σ H3 x v vl vu l u s3.heap.objs.size Q I4 r1 (Heap.IsSliceOf.new ..) pl pu q3
  show wpAny (model X.prog X.w) X.A (subscriptTail e (.Slice lo hi none p2) v (.ref s3.heap.objs.size)) (EP X pins σ Q) X.xe { s3 with heap := s3.heap.push { cls := .type "slice", data := .fields #[vl, vu, .none] } }
  exact tail_any (ops := [.ref s3.heap.objs.size, v]) ht hT hg (by with_unfolding_all rfl)
def cutV (xs : List V) (lo hi : Option Int) : List V := (xs.drop (HT.sIx xs.length 0 lo)).take (HT.sIx xs.length xs.length hi - HT.sIx xs.length 0 lo)
theorem cutV_length (xs : List V) (lo hi : Option Int) : (cutV xs lo hi).length ≤ xs.length := by
  unfold cutV
  rw [List.length_take, List.length_drop]
  lia
def rSlT (K : PySem.W.Frag) : V → Option Int → Option Int → Hp → VK → Prop := fun x lo hi H Q => ∃ a xs, x = .ref a ∧ SqT K H a xs ∧
  ¬ (HT.sIx xs.length 0 lo = 0 ∧ HT.sIx xs.length xs.length hi = xs.length) ∧ ∀ p, H p = none → Q (.ref p) (upd H p (.tup (cutV xs lo hi)))
theorem sl_tup : SlR X (rSlT X.K) := by
  intro pins s σ H x v vl vu lo hi sl Q I rx hs pl pu h
  obtain ⟨a, xs, rfl, hx, hw, q⟩ := h
  cases rx
  obtain ⟨its, r, ht, hz⟩ := I.tuple hx
  have hlen : its.toArray.size = xs.length := by rw [List.size_toArray]; exact r.length.symm
  refine ⟨"tuple", _, PyProof.Rows.slot_tuple_getitem.lookup, ht.typeIs, ?_⟩
  refine HT.getItem_tuple_cut ht hs pl pu (by rw [hlen]; exact hw) ?_ (by rw [hlen]; exact hz)
  rw [hlen]
  refine ⟨.ref s.heap.objs.size, _, I.laid (t' := s.toks) (o := .tup (cutV xs lo hi)) (fun b ob q => Heap.get?_push_of_some _ q) (Nat.le_refl _) ?_, rfl, q _ (I.hok.fresh (Nat.le_refl _))⟩
  exact ⟨Nat.le_trans (cutV_length xs lo hi) hz, _, (r.drop (HT.sIx xs.length 0 lo)).take (HT.sIx xs.length xs.length hi - HT.sIx xs.length 0 lo), TupP.new _ _⟩
end
end L2
namespace L2
open PySem PySem.Spec PyProof.Rows
def ixN (n : Nat) (i : Int) : Option Nat := if 0 ≤ i then (if i < n then some i.toNat else none) else if -(n : Int) ≤ i then some (i + n).toNat else none
def atI {α : Type} (xs : List α) (i : Int) : Option α := (ixN xs.length i).bind fun j => xs[j]?
theorem ixN_seq {n : Nat} {i : Int} {j : Nat} (h : ixN n i = some j) : seqIndex? i n = some j ∧ j < n ∧ -(n : Int) ≤ i ∧ i < n := by
  unfold ixN at h
  by_cases h0 : 0 ≤ i
  · rw [if_pos h0] at h
    by_cases h1 : i < n
    · rw [if_pos h1] at h
      have e : i.toNat = j := Option.some.inj h
      exact ⟨by rw [seqIndex_of h0 h1, e], by lia, by lia, h1⟩
    · rw [if_neg h1] at h; cases h
  · rw [if_neg h0] at h
    by_cases h1 : -(n : Int) ≤ i
    · rw [if_pos h1] at h
      have e : (i + n).toNat = j := Option.some.inj h
      exact ⟨by rw [seqIndex_neg (by lia) h1, e], by lia, h1, by lia⟩
    · rw [if_neg h1] at h; cases h
theorem atI_get {α : Type} {xs : List α} {i : Int} {v : α} (h : atI xs i = some v) : ∃ j, seqIndex? i xs.length = some j ∧ xs[j]? = some v ∧ j < xs.length ∧ -(xs.length : Int) ≤ i ∧ i < xs.length := by
  unfold atI at h
  cases e : ixN xs.length i with
  | none => rw [e] at h; cases h
  | some j =>
    rw [e] at h
    obtain ⟨h1, h2, h3, h4⟩ := ixN_seq e
    exact ⟨j, h1, h, h2, h3, h4⟩
theorem atI_nat {α : Type} {xs : List α} {j : Nat} {v : α} (h : xs[j]? = some v) : atI xs (j : Int) = some v := by
  have hj : j < xs.length := (List.getElem?_eq_some_iff.mp h).1
  have e : ixN xs.length (j : Int) = some j := by
    unfold ixN
    rw [if_pos (by lia), if_pos (by lia)]; simp
  unfold atI; rw [e]; exact h
def PlainIx (b : Expr) : Prop := ∀ o i, subscripted b false o i = operate [o, i] (getItem o i)
def IxR (X : Cx) (r : R2) : Prop :=
  ∀ (value slice : Expr) (pins : List (Addr × Obj)) (s : Shared) (σ : St) (H : Hp) (x y : V) (v u : Value) (Q : VK), Inv X pins σ H s → RelV x v → RelV y u → r x y H Q →
    subscripted slice false v u = operate [v, u] (getItem v u) → wpAny (model X.prog X.w) X.A (subscriptTail value slice v u) (EP X pins σ Q) X.xe s
def MtR (X : Cx) (id : String) (r : V → List V → Hp → VK → Prop) : Prop :=
  ∀ (pins : List (Addr × Obj)) (s : Shared) (σ : St) (H : Hp) (x : V) (xs : List V) (v : Value) (us : List Value) (Q : VK), Inv X pins σ H s → RelV x v → Vals xs us → r x xs H Q →
    wpAny (model X.prog X.w) X.A (call (.builtin id) (v :: us)) (EP X pins σ Q) X.xe s
section
variable {X : Cx} {a b : Expr} {ta tb : TE} {pos : Pos}
theorem IxR.or {r r' : R2} (h : IxR X r) (h' : IxR X r') : IxR X (fun x y H Q => r x y H Q ∨ r' x y H Q) := by
  intro value slice pins s σ H x y v u Q I rx ry q hs
  rcases q with q | q
  · exact h value slice pins s σ H x y v u Q I rx ry q hs
  · exact h' value slice pins s σ H x y v u Q I rx ry q hs
theorem pe_ix {r : R2} (hr : IxR X r) (ha : PE X a ta) (hb : PE X b tb) (hs : PlainIx b) : PE X (.Subscript a b pos) (tOp r ta tb) := by
  intro pins s σ H Q I h
  exact Subscript_ (binT ha hb I h fun v u s2 x y H2 I2 rx ry q => hr a b pins s2 σ H2 x y v u Q I2 rx ry q (hs _ _))
def rIxL (K : PySem.W.Frag) : R2 := fun x y H Q => ∃ p xs i v, x = .ref p ∧ y = .int i ∧ SqL K H p xs ∧ atI xs i = some v ∧ Q v H
def rIxT (K : PySem.W.Frag) : R2 := fun x y H Q => ∃ p xs i v, x = .ref p ∧ y = .int i ∧ SqT K H p xs ∧ atI xs i = some v ∧ Q v H
def rIxS : R2 := fun x y H Q => ∃ z i c, x = .str z ∧ y = .int i ∧ z.length ≤ sizeLine ∧ atI z.cps.toList i = some c ∧ Q (.str ⟨#[c]⟩) H
theorem ix_list : IxR X (rIxL X.K) := by
  intro value slice pins s σ H x y v u Q I rx ry h hs
  obtain ⟨p, xs, i, z, rfl, rfl, hq, he, q⟩ := h
  cases rx
  obtain ⟨t, rfl⟩ := ry
  obtain ⟨its, r, pl, hz⟩ := I.list hq
  obtain ⟨j, h1, h2, h3, h4, h5⟩ := atI_get he
  obtain ⟨w, ew, rw'⟩ := r.get h2
  have hl := r.length
  have hn := line63
  have fin : EP X pins σ Q w s := ⟨z, H, I, rw', q⟩
  by_cases h0 : 0 ≤ i
  · have hj : i.toNat = j := by
      rw [seqIndex_of h0 h5] at h1
      exact Option.some.inj h1
    exact item_listR pl.isList h0 (by lia) (by rw [hj]; simpa using ew) fin hs
  · have hj : (i + (its.toArray.size : Int)).toNat = j := by
      rw [seqIndex_neg (by lia) h4] at h1
      rw [List.size_toArray, ← hl]
      exact Option.some.inj h1
    exact subscriptTail_builtinR (x := w) pl.isList.typeIs slot_list_getitem.lookup
      (wpAny_getItem_list_neg (Q := fun r s' => r = w ∧ EP X pins σ Q r s') pl.isList (by lia) (by rw [List.size_toArray] <;> lia) (by lia) (by rw [hj]; simpa using ew) ⟨rfl, fin⟩) hs
theorem ix_tup : IxR X (rIxT X.K) := by
  intro value slice pins s σ H x y v u Q I rx ry h hs
  obtain ⟨p, xs, i, z, rfl, rfl, hq, he, q⟩ := h
  cases rx
  obtain ⟨t, rfl⟩ := ry
  obtain ⟨its, r, pl, hz⟩ := I.tuple hq
  obtain ⟨j, h1, h2, h3, h4, h5⟩ := atI_get he
  obtain ⟨w, ew, rw'⟩ := r.get h2
  have hl := r.length
  have hn := line63
  have fin : EP X pins σ Q w s := ⟨z, H, I, rw', q⟩
  exact subscriptTail_builtinR (x := w) pl.typeIs slot_tuple_getitem.lookup
    (getItem_tuple (j := j) (Q := fun r s' => r = w ∧ EP X pins σ Q r s') pl (by lia) (by lia) (by rw [List.size_toArray, ← hl]; exact h1) (by simpa using ew) ⟨rfl, fin⟩) hs
theorem ix_str : IxR X rIxS := by
  intro value slice pins s σ H x y v u Q I rx ry h hs
  obtain ⟨z, i, c, rfl, rfl, hz, he, q⟩ := h
  obtain ⟨t, rfl⟩ := rx
  obtain ⟨t', rfl⟩ := ry
  obtain ⟨j, h1, h2, h3, h4, h5⟩ := atI_get he
  have hl : z.cps.toList.length = z.length := by simp [Str.length]
  rw [hl] at h1 h4 h5
  have hn := line63
  exact tail_any (typeIs_str s z t) slot_str_getitem.lookup (getItem_str (c := c) (by
    have e1 : decide (i < -(2 ^ 63 : Int)) = false := decide_eq_false (by lia)
    have e2 : decide (i ≥ 2 ^ 63) = false := decide_eq_false (by lia)
    rw [e1, e2, Bool.or_false]) (by rw [h1]; simpa using h2) ⟨.str ⟨#[c]⟩, H, I.tok _, ⟨_, rfl⟩, q⟩) hs
def rIx (K : PySem.W.Frag) : R2 := fun x y H Q => rIxL K x y H Q ∨ rIxT K x y H Q ∨ rIxS x y H Q
theorem ix_seq : IxR X (rIx X.K) := ix_list.or (ix_tup.or ix_str)
theorem mapSeq_set (its : List Value) (n j : Nat) (u : Value) : Obj.mapSeq (·.setIfInBounds j u) { cls := .type "list", data := .seq its.toArray n } = { cls := .type "list", data := .seq (its.set j u).toArray n } := by
  simp [Obj.mapSeq]
theorem Inv.lst {pins : List (Addr × Obj)} {σ : St} {H : Hp} {s : Shared} {p : Addr} {xs : List V} (I : Inv X pins σ H s) (h : H p = some (.lst xs)) :
    ∃ (its : List Value) (n : Nat), Vals xs its ∧ s.heap.get? p = some { cls := .type "list", data := .seq its.toArray n } ∧ xs.length ≤ sizeLine := by
  obtain ⟨z, its, n, r, e⟩ := I.hok p _ h
  exact ⟨its, n, r, e, z⟩
theorem Inv.lstUpd {pins : List (Addr × Obj)} {σ : St} {H : Hp} {s : Shared} {p : Addr} {xs ys : List V} {its its' : List Value} {n n' : Nat} {f : Obj → Obj} (I : Inv X pins σ H s) (h : H p = some (.lst xs))
    (ho : s.heap.get? p = some { cls := .type "list", data := .seq its.toArray n }) (hf : f { cls := .type "list", data := .seq its.toArray n } = { cls := .type "list", data := .seq its'.toArray n' }) (r : Vals ys its') (hz : ys.length ≤ sizeLine) (t : Nat) :
    Inv X pins σ (upd H p (.lst ys)) { s with heap := s.heap.update p f, toks := t } := by
  have e : (s.heap.update p f).get? p = some { cls := .type "list", data := .seq its'.toArray n' } := by
    rw [Heap.get?_update_self f ho (by rw [hf] <;> rfl), hf]
  refine I.write (x := p) (e := p) (by rw [h]; trivial) (.inl rfl) (fun b u hb q => (Heap.get?_update_other _ _ (Ne.symm hb)).trans q) ⟨_, e⟩ ?_
  exact ⟨hz, its', n', r, e⟩
def rSetL : V → V → V → Hp → (Hp → Prop) → Prop := fun o i v H Q => ∃ p xs k j, o = .ref p ∧ i = .int k ∧ H p = some (.lst xs) ∧ ixN xs.length k = some j ∧ Q (upd H p (.lst (xs.set j v)))
theorem set_list : PSet X rSetL := by
  intro pins s σ H o i v ov iv u Q I ro ri rv h
  obtain ⟨p, xs, k, j, rfl, rfl, hp, hj, q⟩ := h
  cases ro
  obtain ⟨t, rfl⟩ := ri
  obtain ⟨its, n, r, ho, hz⟩ := I.lst hp
  obtain ⟨h1, h2, h3, h4⟩ := ixN_seq hj
  have hl := r.length
  have hn := line63
  have I' : Inv X pins σ (upd H p (.lst (xs.set j v))) { s with heap := s.heap.update p (Obj.mapSeq (·.setIfInBounds j u)) } :=
    I.lstUpd hp ho (mapSeq_set its n j u) (r.set rv j) (by rw [List.length_set]; exact hz) s.toks
  by_cases h0 : 0 ≤ k
  · have hk : k.toNat = j := by
      rw [seqIndex_of h0 h4] at h1
      exact Option.some.inj h1
    exact PySem.W.ki_setAt ho h0 (by lia) (by rw [List.size_toArray, ← hl]; exact h4) (by rw [hk]; exact ⟨_, I', q⟩)
  · have hk : (k + (its.toArray.size : Int)).toNat = j := by
      rw [seqIndex_neg (by lia) h3] at h1
      rw [List.size_toArray, ← hl]
      exact Option.some.inj h1
    exact PySem.W.ki_setBack ho (by lia) (by rw [List.size_toArray, ← hl]; exact h3) (by lia) (by rw [hk]; exact ⟨_, I', q⟩)
def flatV : V → Bool
  | .non => true
  | .bl _ => true
  | .int _ => true
  | .str _ => true
  | _ => false
def eqV : V → V → Bool
  | .non, .non => true
  | .bl a, .bl b => a == b
  | .bl a, .int b => (if a then 1 else 0) == b
  | .int a, .bl b => a == (if b then 1 else 0)
  | .int a, .int b => a == b
  | .str a, .str b => a == b
  | _, _ => false
theorem eqAt_V {A : Around} {s : Shared} {y x : V} {u v : Value} (ry : RelV y u) (rx : RelV x v) (fy : flatV y = true) (fx : flatV x = true) : SeqAt.EqAt A s u v (eqV y x) := by
  cases y with
  | non =>
    cases ry
    cases x with
    | non => cases rx; exact SeqAt.EqAt.same _
    | bl b => cases rx; exact SeqAt.EqAt.none_bool b
    | int b => obtain ⟨t, rfl⟩ := rx; exact SeqAt.EqAt.none_int b t
    | str b => obtain ⟨t, rfl⟩ := rx; exact SeqAt.EqAt.none_str b t
    | _ => exact absurd (show false = true from fx) Bool.false_ne_true
  | bl a =>
    cases ry
    cases x with
    | non => cases rx; exact SeqAt.EqAt.bool_none a
    | bl b => cases rx; exact SeqAt.EqAt.bool_bool a b
    | int b => obtain ⟨t, rfl⟩ := rx; exact SeqAt.EqAt.bool_int a b t
    | str b => obtain ⟨t, rfl⟩ := rx; exact SeqAt.EqAt.bool_str a b t
    | _ => exact absurd (show false = true from fx) Bool.false_ne_true
  | int a =>
    obtain ⟨t', rfl⟩ := ry
    cases x with
    | non => cases rx; exact SeqAt.EqAt.int_none a t'
    | bl b => cases rx; exact SeqAt.EqAt.int_bool a t' b
    | int b => obtain ⟨t, rfl⟩ := rx; exact SeqAt.EqAt.int_int a t' b t
    | str b => obtain ⟨t, rfl⟩ := rx; exact SeqAt.EqAt.int_str a t' b t
    | _ => exact absurd (show false = true from fx) Bool.false_ne_true
  | str a =>
    obtain ⟨t', rfl⟩ := ry
    cases x with
    | non => cases rx; exact SeqAt.EqAt.str_none a t'
    | bl b => cases rx; exact SeqAt.EqAt.str_bool a t' b
    | int b => obtain ⟨t, rfl⟩ := rx; exact SeqAt.EqAt.str_int a t' b t
    | str b => obtain ⟨t, rfl⟩ := rx; exact SeqAt.EqAt.str_str a t' b t
    | _ => exact absurd (show false = true from fx) Bool.false_ne_true
  | _ => exact absurd (show false = true from fy) Bool.false_ne_true
def eqU (x : V) (u : Value) : Bool := match u with
  | .none => eqV .non x
  | .bool b => eqV (.bl b) x
  | .int i _ => eqV (.int i) x
  | .str z _ => eqV (.str z) x
  | _ => false
theorem eqU_of {x y : V} {u : Value} (r : RelV y u) (f : flatV y = true) : eqU x u = eqV y x := by
  cases y with
  | non => cases r; rfl
  | bl b => cases r; rfl
  | int i => obtain ⟨t, rfl⟩ := r; rfl
  | str z => obtain ⟨t, rfl⟩ := r; rfl
  | _ => exact absurd (show false = true from f) Bool.false_ne_true
theorem any_eqU {x : V} : ∀ {xs : List V} {us : List Value}, Vals xs us → xs.all flatV = true → us.any (eqU x) = xs.any fun y => eqV y x
  | _, _, .nil, _ => rfl
  | y :: xs, u :: us, .cons r t, f => by
    rw [List.all_cons, Bool.and_eq_true] at f
    rw [List.any_cons, List.any_cons, eqU_of r f.1, any_eqU t f.2]
theorem mem_eqAt {A : Around} {s : Shared} {x : V} {v : Value} (rx : RelV x v) (fx : flatV x = true) : ∀ {xs : List V} {us : List Value}, Vals xs us → xs.all flatV = true → ∀ u ∈ us, SeqAt.EqAt A s u v (eqU x u)
  | _, _, .nil, _ => fun u hu => by cases hu
  | y :: xs, u :: us, .cons r t, f => fun u' hu => by
    rw [List.all_cons, Bool.and_eq_true] at f
    rcases List.mem_cons.mp hu with rfl | hu
    · rw [eqU_of r f.1]; exact eqAt_V r rx f.1 fx
    · exact mem_eqAt rx fx t f.2 u' hu
def inV (x : V) (xs : List V) : Bool := xs.any fun y => eqV y x
def rIn (K : PySem.W.Frag) (neg : Bool) : R2 := fun x y H Q => ∃ p xs, y = .ref p ∧ (SqL K H p xs ∨ SqT K H p xs) ∧ flatV x = true ∧ xs.all flatV = true ∧ Q (.bl (if neg then !inV x xs else inV x xs)) H
theorem op_in_seq : OpR X (compareOp .In) (rIn X.K false) := by
  intro pins s σ H x y v u Q I rx ry h
  obtain ⟨p, xs, rfl, hq, fx, fs, q⟩ := h
  cases ry
  rcases hq with hq | hq
  · obtain ⟨its, r, pl, hz⟩ := I.list hq
    refine SeqAt.in_listAt (eqU x) pl.isList (fun w hw => mem_eqAt rx fx r fs w (by simpa using hw)) ⟨.bl _, H, I, rfl, ?_⟩
    rw [show its.toArray.any (eqU x) = its.any (eqU x) by simp, any_eqU r fs]
    exact q
  · obtain ⟨its, r, pl, hz⟩ := I.tuple hq
    refine SeqAt.in_tupleAt (eqU x) pl (fun w hw => mem_eqAt rx fx r fs w (by simpa using hw)) ⟨.bl _, H, I, rfl, ?_⟩
    rw [show its.toArray.any (eqU x) = its.any (eqU x) by simp, any_eqU r fs]
    exact q
theorem op_notIn_seq : OpR X (compareOp .NotIn) (rIn X.K true) := by
  intro pins s σ H x y v u Q I rx ry h
  obtain ⟨p, xs, rfl, hq, fx, fs, q⟩ := h
  cases ry
  rcases hq with hq | hq
  · obtain ⟨its, r, pl, hz⟩ := I.list hq
    refine SeqAt.notIn_listAt (eqU x) pl.isList (fun w hw => mem_eqAt rx fx r fs w (by simpa using hw)) ⟨.bl _, H, I, rfl, ?_⟩
    rw [show its.toArray.any (eqU x) = its.any (eqU x) by simp, any_eqU r fs]
    exact q
  · obtain ⟨its, r, pl, hz⟩ := I.tuple hq
    refine SeqAt.notIn_tupleAt (eqU x) pl (fun w hw => mem_eqAt rx fx r fs w (by simpa using hw)) ⟨.bl _, H, I, rfl, ?_⟩
    rw [show its.toArray.any (eqU x) = its.any (eqU x) by simp, any_eqU r fs]
    exact q
theorem call_len_seq : CallR X (.builtin "len") (fun xs H Q => ∃ p ys, xs = [.ref p] ∧ (SqL X.K H p ys ∨ SqT X.K H p ys) ∧ Q (.int ys.length) H) := by
  intro pins s σ H xs us Q I r h
  obtain ⟨p, ys, rfl, hq, q⟩ := h
  obtain ⟨u, rfl, rx⟩ := vals1 r
  cases rx
  have hn := line63
  rcases hq with hq | hq
  · obtain ⟨its, r', pl, hz⟩ := I.list hq
    have hlen := r'.length
    exact Calls.call_len_list pl.isList (by simp only [List.size_toArray] <;> lia) ⟨.int ys.length, H, I.tok _, ⟨s.toks + 1, by rw [List.size_toArray, hlen]⟩, q⟩
  · obtain ⟨its, r', pl, hz⟩ := I.tuple hq
    have hlen := r'.length
    exact len_tuple pl (by simp only [List.size_toArray] <;> lia) ⟨.int ys.length, H, I.tok _, ⟨s.toks + 1, by rw [List.size_toArray, hlen]⟩, q⟩
theorem call_tuple_of : CallR X (.type "tuple") (fun xs H Q => ∃ p ys, xs = [.ref p] ∧ ((SqL X.K H p ys ∧ ∀ l, H l = none → Q (.ref l) (upd H l (.tup ys))) ∨ (SqT X.K H p ys ∧ Q (.ref p) H))) := by
  intro pins s σ H xs us Q I r h
  obtain ⟨p, ys, rfl, h⟩ := h
  obtain ⟨u, rfl, rx⟩ := vals1 r
  cases rx
  rcases h with ⟨hq, q⟩ | ⟨hq, q⟩
  · obtain ⟨its, r', pl, hz⟩ := I.list hq
    have hlen := r'.length
    refine call_tuple_list pl.isList (fun h' kp => ?_) (by simp only [List.size_toArray] <;> lia)
    have I1 : Inv X pins σ H { s with heap := h' } := I.kept (t' := s.toks) kp
    have I2 : Inv X pins σ (upd H h'.objs.size (.tup ys)) { s with heap := h'.push { cls := .type "tuple", data := .seq its.toArray } } :=
      I1.laid (t' := s.toks) (fun b o e => Heap.get?_push_of_some _ e) (Nat.le_refl _) (show ObjOk X.prog X.w _ _ _ (.tup ys) from ⟨hz, its, r', TupP.new _ _⟩)
    exact ⟨.ref h'.objs.size, _, I2, rfl, q _ (I1.hok.fresh (Nat.le_refl _))⟩
  · obtain ⟨its, r', pl, hz⟩ := I.tuple hq
    exact call_tuple_same pl ⟨.ref p, H, I, rfl, q⟩
def tyV (K : PySem.W.Frag) (T : String) (x : V) (H : Hp) : Prop := match x with
  | .str _ => T = "str"
  | .int _ => T = "int"
  | .ref p => (T = "list" ∧ ∃ xs, SqL K H p xs) ∨ (T = "tuple" ∧ ∃ o, K.lookup p = some o ∧ o.cls = .type "tuple" ∧ o.dict = none) ∨
      (T = "dict" ∧ ((∃ kvs, H p = some (.dK kvs)) ∨ ∃ kvs, H p = some (.dT kvs))) ∨ (T = "set" ∧ ∃ S n, H p = some (.set S n))
  | _ => False
theorem tyV_is {pins : List (Addr × Obj)} {σ : St} {H : Hp} {s : Shared} {T : String} {x : V} {v : Value} (I : Inv X pins σ H s) (r : RelV x v) (ty : tyV X.K T x H) :
    s.TypeIs v T ∧ ∀ a, v = .ref a → ∃ ob, s.heap.get? a = some ob ∧ ob.dict = none := by
  cases x with
  | str z =>
    obtain ⟨t, rfl⟩ := r
    cases (show T = "str" from ty)
    exact ⟨typeIs_str s z t, fun _ e => nomatch e⟩
  | int i =>
    obtain ⟨t, rfl⟩ := r
    cases (show T = "int" from ty)
    exact ⟨typeIs_int s i t, fun _ e => nomatch e⟩
  | ref p =>
    cases r
    rcases ty with ⟨rfl, xs, hq⟩ | ⟨rfl, o, hk, hc, hd⟩ | ⟨rfl, hk⟩ | ⟨rfl, S, n, hk⟩
    · obtain ⟨its, _, pl, _⟩ := I.list hq
      refine ⟨pl.isList.typeIs, fun a e => ?_⟩
      cases e
      obtain ⟨o, n, e, c, hd, _⟩ := pl
      exact ⟨o, e, hd⟩
    · refine ⟨⟨o, I.kIn p o hk, hc⟩, fun a e => ?_⟩
      cases e
      exact ⟨o, I.kIn _ o hk, hd⟩
    · have z : ∃ o, s.heap.get? p = some o ∧ o.ExactDict := by
        rcases hk with ⟨kvs, hk⟩ | ⟨kvs, hk⟩
        · obtain ⟨_, _, _, _, o, _, _, e, ex, _⟩ := I.hok p _ hk
          exact ⟨o, e, ex⟩
        · obtain ⟨_, _, _, _, o, _, _, e, ex, _⟩ := I.hok p _ hk
          exact ⟨o, e, ex⟩
      obtain ⟨o, e, ex⟩ := z
      refine ⟨⟨o, e, ex.1⟩, fun a e2 => ?_⟩
      cases e2
      exact ⟨o, e, ex.2.1⟩
    · obtain ⟨o, _, _, _, e, ex, _⟩ := I.hok p _ hk
      refine ⟨⟨o, e, ex.1⟩, fun a e2 => ?_⟩
      cases e2
      exact ⟨o, e, ex.2.1⟩
  | _ => exact False.elim ty
def tBM (K : PySem.W.Frag) (T : String) (r : V → List V → Hp → VK → Prop) (to : TE) (t : TA) : TE := fun σ H Q => to σ H fun x H1 => tyV K T x H1 ∧ t σ H1 fun xs H2 => r x xs H2 Q
variable {o e : Expr} {es : List Expr} {to : TE} {t : TA} {name : Str} {apos cpos : Pos} {T id : String} {r : V → List V → Hp → VK → Prop}
theorem pe_bm (pa : PlainAttrs T) (slot : Slot T name id) (hty : typeOf (.builtin id) = pure (.type "method_descriptor")) (hm : MtR X id r) (ho : PE X o to) (ha : PA X (e :: es) t)
    (hbase : attributeBase o name X.env (eval o X.env) = eval o X.env := by rfl)
    (hfew : ((backTo cpos (starEach (e :: es) X.env)).all (fun x => !x.1) && (backToKw cpos (keywordEach [] X.env)).all (fun x => x.1.isSome)
      && decide ((e :: es).length + ([] : List Keyword).length + (if ([] : List Keyword).isEmpty then 0 else 1) < 30)) = true := by rfl)
    (hline : (apos.endLine == cpos.line) = true := by rfl) (hs : starEach (e :: es) X.env = (false, eval e X.env) :: starEach es X.env := by rfl) (hplain : (backTo cpos (starEach es X.env)).any (·.1) = false := by rfl) :
    PE X (.Call (.Attribute o name apos) (e :: es) [] cpos) (tBM X.K T r to t) := by
  intro pins s σ H Q I h
  refine wpAny_Call_method_late hbase hfew hline rfl (thn (ho pins s σ H _ I h) fun v s1 ⟨x, H1, I1, r1, ty, q1⟩ => ?_)
  obtain ⟨h1, h2⟩ := tyV_is I1 r1 ty
  refine ⟨T, id, pa, slot, hty, h1, h2, ?_⟩
  have hA := ha cpos pins s1 σ H1 _ I1 q1
  rw [hs] at hA ⊢
  refine Calls.callWith_builtin (by show (false || (backTo cpos (starEach es X.env)).any (·.1)) = false; rw [hplain] <;> rfl) (Calls.evalArgs_plain ?_)
  exact thn hA fun us s2 ⟨vs, H2, I2, r2, q2⟩ => hm pins s2 σ H2 x vs v us Q I2 r1 r2 q2
end
end L2
namespace L2
open PySem PySem.Spec PyProof.Rows
def MtM (X : Cx) (id : String) (r : V → List V → Hp → VK → Prop) : Prop :=
  ∀ (pins : List (Addr × Obj)) (s : Shared) (σ : St) (H : Hp) (x : V) (xs : List V) (v : Value) (us : List Value) (Q : VK), Inv X pins σ H s → RelV x v → Vals xs us → r x xs H Q →
    wpAny (model X.prog X.w) X.A (call (.builtin id) (v :: us)) (EP X pins σ Q) X.xe s
theorem Vals.one : ∀ {x : V} {us : List Value}, Vals [x] us → ∃ u, us = [u] ∧ RelV x u
  | _, _, .cons r .nil => ⟨_, rfl, r⟩
theorem Vals.rep {xs : List V} {us : List Value} (h : Vals xs us) : ∀ k : Nat, Vals (List.replicate k xs).flatten (List.replicate k us).flatten
  | 0 => .nil
  | k + 1 => by
    rw [List.replicate_succ, List.replicate_succ, List.flatten_cons, List.flatten_cons]
    exact Vals.append h (Vals.rep h k)
theorem foldl_rep (its : List Value) : ∀ (k : Nat) (acc : List Value),
    List.foldl (fun x1 x2 => x1 ++ x2) acc.toArray (List.replicate k its.toArray) = (acc ++ (List.replicate k its).flatten).toArray
  | 0, acc => by simp
  | k + 1, acc => by
    have e : acc.toArray ++ its.toArray = (acc ++ its).toArray := by simp
    have e2 : (acc ++ its) ++ (List.replicate k its).flatten = acc ++ (List.replicate (k + 1) its).flatten := by
      rw [List.replicate_succ, List.flatten_cons, List.append_assoc]
    rw [← e2, ← foldl_rep its k (acc ++ its), ← e, List.replicate_succ, List.foldl_cons]
section
variable {X : Cx} {pins : List (Addr × Obj)} {σ : St} {H : Hp} {s : Shared} {l b : Addr} {xs ys zs : List V}
theorem Inv.lset {its its' : List Value} {n : Nat} {f : Array Value → Array Value} {t' : Nat} (I : Inv X pins σ H s) (hH : H l = some (.lst xs))
    (e : s.heap.get? l = some { cls := .type "list", data := .seq its.toArray n }) (hf : f its.toArray = its'.toArray) (hv : Vals ys its') (hz : ys.length ≤ sizeLine) :
    Inv X pins σ (upd H l (.lst ys)) { s with heap := s.heap.update l (Obj.mapSeq f), toks := t' } := by
  have q := PySem.IsL.update e f
  rw [hf] at q
  refine I.write (x := l) (e := l) (by rw [hH]; exact trivial) (.inl rfl) (fun b' u hb hu => (Heap.get?_update_other s.heap (Obj.mapSeq f) (Ne.symm hb)).trans hu) ⟨_, q⟩ ?_
  exact ⟨hz, its', _, hv, q⟩
theorem Inv.fresh (I : Inv X pins σ H s) : H s.heap.objs.size = none := I.hok.fresh (Nat.le_refl _)
theorem Inv.lstM (I : Inv X pins σ H s) (hH : H l = some (.lst xs)) : xs.length ≤ sizeLine ∧ ∃ (its : List Value) (n : Nat), Vals xs its ∧ xs.length = its.length ∧ s.heap.get? l = some { cls := .type "list", data := .seq its.toArray n } := by
  obtain ⟨z, its, n, r, e⟩ := I.hok l _ hH
  exact ⟨z, its, n, r, r.length, e⟩
end
section
variable {X : Cx}
def rAppend : V → List V → Hp → VK → Prop := fun x vs H Q => ∃ l xs y, x = .ref l ∧ vs = [y] ∧ H l = some (.lst xs) ∧ xs.length < sizeLine ∧ Q .non (upd H l (.lst (xs ++ [y])))
theorem mt_append : MtM X "list.append" rAppend := by
  intro pins s σ H x vs v us Q I rx rv h
  obtain ⟨l, xs, y, rfl, rfl, hH, hz, q⟩ := h
  cases rx
  obtain ⟨u, rfl, ru⟩ := rv.one
  obtain ⟨z, its, n, r, hl, e⟩ := I.lstM hH
  refine call_meets F.slot_list_append ⟨_, e, rfl⟩ F.entry_list_append (F.args_list_append_2 _ _) (PySem.list_append l its.toArray n u (by rw [List.size_toArray]; lia)) ⟨e, ?_⟩
  refine ⟨.non, _, I.lset (its' := its ++ [u]) hH e (by simp) (r.append (.cons ru .nil)) ?_, rfl, q⟩
  rw [List.length_append, List.length_singleton]
  lia
theorem len_rep {α : Type} (xs : List α) (k : Nat) : (List.replicate k xs).flatten.length = k * xs.length := by
  induction k with
  | zero => simp
  | succ k ih => rw [List.replicate_succ, List.flatten_cons, List.length_append, ih, Nat.succ_mul, Nat.add_comm]
end
section
variable {prog : Program} {w : World} {A : Around} {E : Value → Shared → Prop} {s : Shared}
end
section
variable {X : Cx}
end
end L2
namespace Att
open PySem PySem.W PySem.Calls PyProof.Rows
theorem ints_of_wellAll {P : Params} {h : Heap} : ∀ (ns : List Int) (vs : List Value), WellAll P h vs (ns.map WData.int) → IntsAre vs ns := by
  intro ns
  induction ns with
  | nil =>
    intro vs w
    rw [List.map_nil] at w
    cases w
    exact .nil
  | cons n ns ih =>
    intro vs w
    rw [List.map_cons] at w
    cases w with
    | cons a b =>
      cases a
      exact .cons _ _ (ih _ b)
theorem script_of {l : OpenLaw} {n : Nat} (hn : l.most = some n) {P : Params} {h : Heap} {args : List WData} {vals : List Value}
    (hpre : l.row.toRowW.claim.pre args = true) (hwl : WellAll P h vals args) :
    ∃ a vs ns, vals = [Value.ref a] ∧ args = [WData.list (ns.map WData.int)] ∧ h.get? a = some { cls := .type "list", data := .seq vs.toArray } ∧ IntsAre vs ns ∧ ns.length ≤ n := by
  have hsh : WShape.hasAll [] args [.list .int] = true := (pre_splitW hpre).1
  have hc : l.pre.holds [] { args := args } = true := (pre_splitW hpre).2
  obtain ⟨d, r, rfl, h1, h2⟩ := hasAllW_cons hsh
  obtain rfl := hasAllW_nil h2
  obtain ⟨xs, rfl, h3⟩ := hasW_list h1
  obtain ⟨ns, rfl⟩ := items_int h3
  have hlen : ns.length ≤ n := by
    unfold OpenLaw.pre at hc
    have h4 : (WTm.not (.lt (.lit (.int (n : Int))) (.len (.arg 0)))).holds [] { args := [.list (ns.map .int)] } = true := by
      have h4 := (holds_andW hc).1
      rw [hn] at h4
      exact h4
    have h5 := condW_of h4 (w_not (w_lt w_lit (w_len_list (w_arg rfl))))
    rw [List.length_map] at h5
    refine Nat.le_of_not_lt fun q => ?_
    have q' : (n : Int) < ((ns.length : Nat) : Int) := by lia
    first
      | (rw [decide_eq_true q'] at h5; exact absurd h5 (by decide))
      | (simp at h5; lia)
  cases hwl with
  | cons w1 w2 =>
    cases w2
    cases w1 with
    | list ho hall => exact ⟨_, _, ns, rfl, rfl, ho, ints_of_wellAll ns _ hall, hlen⟩
theorem post_true (l : OpenLaw) (args : List WData) : l.row.toRowW.claim.post args (.bool true) args = true :=
  postW_of (r := l.row.toRowW) (X := (true == true))
    (show WShape.has [] (.bool true) .bool = true by first | rfl | decide | simp [WShape.has, WShape.arms, WShape.armsAll])
    (show (WTm.eq .res (.lit (.bool true))).value [] { args := args, res := some (.bool true), after := args } = some (.bool (true == true)) from w_eq_bool (w_res rfl) w_lit) rfl
theorem attach_call {l : OpenLaw} {n : Nat} {q : Program} {loose : List Str} {XP : (Str → Option Value) → Heap → Prop} {YP : World → Heap → Prop} {d : DefRec}
    (hn : l.most = some n) (hdf : d.params.defaults = [])
    (call : ∀ (w : World) (s₀ s₁ : Shared) (mg mb : Str → Option Value) (fa : Addr) (o : Obj) (pm cd doc : Value) (a : Addr) (vs : List Value) (ns : List Int),
      Ground q loose [] XP w s₀ mg mb s₁.heap → YP w s₁.heap →
      s₁.heap.get? fa = some o → o.data = .func (docDef d.name d.params d.body d.scope pm cd doc) → s₁.heap.CodeRec cd d.name → mg d.name = some (.ref fa) →
      s₁.heap.get? a = some { cls := .type "list", data := .seq vs.toArray } → IntsAre vs ns → ns.length ≤ n → s₁.gens = #[] →
      codeAny (model l.prog w) callerA (.call (.ref fa) ⟨[.ref a], []⟩) (fun r s' => r = .ok (.ret (.bool true)) ∧ OldK s₁.heap s'.heap ∧ s'.os = s₁.os ∧ AllBare s'.gens) s₁) :
    WalkO q loose XP YP l.row.toRowW d [] (fun f vs => PySem.call f vs) := by
  intro w s₀ s₁ mg mb G Y fa o pm cd doc dV kV ho hd hcd hD hmg hg args vals as hpre hlay hrd hwl hlo
  obtain rfl : dV = .none := Dflts.none hD hdf
  obtain rfl : kV = .none := Dflts.noKw hD
  obtain ⟨a, vs, ns, rfl, rfl, hobj, hints, hlen⟩ := script_of hn hpre hwl
  refine enter_call (codeAny_mono (call w s₀ s₁ mg mb fa o pm cd doc a vs ns G Y ho (fd_plain hd) hcd hmg hobj hints hlen hg) fun r s' hq => ?_)
  obtain ⟨rfl, h2, h3, h4⟩ := hq
  exact ⟨.inl ⟨.bool true, .bool true, [], rfl, fun _ => rfl, .bool true, post_true l _, fun _ => ⟨List.Pairwise.nil, fun _ hm => (nomatch hm)⟩⟩, h2, h3, h4⟩
section
variable {prog : Program} {w : World} {A : Around} {E : Value → Shared → Prop} {s : Shared} {K : Frag}
end
end Att
namespace L2
open PySem PySem.Spec PyProof.Rows
theorem vals_ints : ∀ {vs : List Value} {ns : List Int}, IntsAre vs ns → Vals (ns.map V.int) vs
  | _, _, .nil => .nil
  | _, _, .cons n t h => .cons ⟨t, rfl⟩ (vals_ints h)
def Only (H : Hp) : Prop := ∀ b, H b = none ∨ ∃ o xs, H b = some (.frz o (.lst xs))
end L2
namespace L2
open PySem PySem.Spec PyProof.Rows
end L2
namespace L2
open PySem PySem.Spec PyProof.Rows
def inClass (s : Stmt) (j : Nat) : Stmt := match s with
  | .ClassDef _ _ _ body _ _ _ _ _ _ _ => body.getD j (.Pass ⟨0, 0, 0, 0⟩)
  | _ => .Pass ⟨0, 0, 0, 0⟩
def defArgs (s : Stmt) : Arguments := match s with
  | .FunctionDef _ a _ _ _ _ _ _ _ _ => a
  | _ => { posonlyargs := [], args := [], vararg := none, kwonlyargs := [], kw_defaults := [], kwarg := none, defaults := [] }
def defBody (s : Stmt) : List Stmt := match s with
  | .FunctionDef _ _ b _ _ _ _ _ _ _ => b
  | _ => []
def defScope (s : Stmt) : Scope := match s with
  | .FunctionDef _ _ _ _ _ _ sc _ _ _ => sc
  | _ => { kind := .function, names := [], isGenerator := false, isCoroutine := false }
abbrev CX0 : CXT := fun _ _ _ _ _ _ => False
abbrev E0 : XK := fun _ _ _ => False
theorem pass0 {X : Cx} : Passes CX0 X E0 := fun _ _ _ _ _ _ _ h => h.elim
structure Fun (K : PySem.W.Frag) (x qual : Str) (st : Stmt) (f : Addr) (fd : FuncData) : Prop where
  ex : ∃ (oc : Value) (od : Option Addr) (kV doc pm : Value) (an : Option Addr) (cdv ct : Value) (osl : Array (Option Value)),
    fd = PySem.W.fnOf x qual (defArgs st) (defBody st) (defScope st) .none kV doc pm an cdv ct ∧ K.lookup f = some ⟨oc, od, .func fd, osl⟩ ∧ PySem.W.codeIn K cdv qual = true
  kp : PySem.W.keepIn K (.ref f) = true
section
variable {P : Program} {w : World} {K : PySem.W.Frag} {mg : Str → Option Value} {base : Heap}
theorem Fun.ok {x qual : Str} {st : Stmt} {f : Addr} {fd : FuncData} {N ps : List Str} {k : Nat} {sp : Sp} (F : Fun K x qual st f fd) (S : FnScope N ps (defScope st)) (len : ∀ vs H Q E, sp vs H Q E → vs.length = ps.length)
    (hbody : ∀ (cdv : Value) (A : Around) (outer : List Env) (s : Shared) (H : Hp) (vs : List V) (Q : VK) (E : XK), Room k (A.deeper (envOfC qual (defScope st) s.heap.objs.size f cdv)) → sp vs H Q E →
      ∃ t, PSs (cxOf CX0 P w K mg base N qual (defScope st) f cdv A outer s H E).nox (defBody st) t ∧ t { nx := fun _ H' => Q .non H', rt := Q } (start N vs) H) : FnOk P w K mg base CX0 (k + 1) f fd ps sp := by
  obtain ⟨oc, od, kV, doc, pm, an, cdv, ct, osl, rfl, lk, hcd⟩ := F.ex
  refine fn_of lk hcd S len fun A outer s H vs Q E hr hsp => ?_
  obtain ⟨t, h, q⟩ := hbody cdv A outer s H vs Q E hr hsp
  exact ⟨t, h.nox, q⟩
theorem Fun.binds {x qual : Str} {st : Stmt} {f : Addr} {fd : FuncData} {ps : List Str} (F : Fun K x qual st f fd)
    (h : ∀ (kV doc pm : Value) (an : Option Addr) (cdv ct : Value) (us : List Value), us.length = ps.length → bindArgs (PySem.W.fnOf x qual (defArgs st) (defBody st) (defScope st) .none kV doc pm an cdv ct) ⟨us, []⟩ = pure (ps.zip us)) : Binds K fd ps [] := by
  obtain ⟨oc, od, kV, doc, pm, an, cdv, ct, osl, rfl, lk, hcd⟩ := F.ex
  exact .all (h kV doc pm an cdv ct)
theorem fun_mk {x qual : Str} {st : Stmt} {f : Addr} {oc : Value} {od an : Option Addr} {osl : Array (Option Value)} {kV doc pm cdv ct : Value} (l : K.lookup f = some ⟨oc, od, .func (PySem.W.fnOf x qual (defArgs st) (defBody st) (defScope st) .none kV doc pm an cdv ct), osl⟩)
    (c : PySem.W.codeIn K cdv qual = true) (k : PySem.W.keepIn K (.ref f) = true) : Fun K x qual st f (PySem.W.fnOf x qual (defArgs st) (defBody st) (defScope st) .none kV doc pm an cdv ct) := ⟨⟨oc, od, kV, doc, pm, an, cdv, ct, osl, rfl, l, c⟩, k⟩
end
section
variable {X : Cx}
end
theorem iteF {A B : Prop} (h : B) : if false = true then A else B := by
  rw [if_neg Bool.false_ne_true]
  exact h
theorem iteT {A B : Prop} (h : A) : if true = true then A else B := by
  rw [if_pos rfl]
  exact h
end L2
set_option maxRecDepth 100000
namespace L2
open PySem
def closL (env : Env) : List (Str × NameKind) → List (Str × Addr) → List (Str × Addr)
  | [], acc => acc
  | y :: r, acc => if y.2 == .free then closL env r ((y.1, (env.cells.lookup y.1).getD 0) :: acc) else closL env r acc
theorem closL_sub {env : Env} : ∀ (l : List (Str × NameKind)) (acc : List (Str × Addr)), (∀ y ∈ l, y.2 = .free → ∃ c, env.cells.lookup y.1 = some c) → (∀ x c, acc.lookup x = some c → env.cells.lookup x = some c) →
    ∀ x c, (closL env l acc).lookup x = some c → env.cells.lookup x = some c
  | [], acc, _, ha, x, c, h => ha x c h
  | y :: r, acc, hf, ha, x, c, h => by
    unfold closL at h
    split at h
    · rename_i hk
      have hk' : y.2 = .free := by simpa using hk
      obtain ⟨d, hd⟩ := hf y List.mem_cons_self hk'
      refine closL_sub r _ (fun z hz => hf z (List.mem_cons_of_mem _ hz)) (fun z e hz => ?_) x c h
      rw [List.lookup_cons] at hz
      cases hb : z == y.1 with
      | true =>
        rw [hb, hd] at hz
        have e2 : z = y.1 := by simpa using hb
        have e3 : d = e := by simpa using hz
        rw [e2, hd, e3]
      | false => rw [hb] at hz; exact ha z e hz
    · exact closL_sub r acc (fun z hz => hf z (List.mem_cons_of_mem _ hz)) ha x c h
theorem closL_keep {env : Env} {x : Str} : ∀ (l : List (Str × NameKind)) (acc : List (Str × Addr)), (∃ c, acc.lookup x = some c) → ∃ c, (closL env l acc).lookup x = some c
  | [], acc, h => h
  | y :: r, acc, h => by
    unfold closL
    split
    · refine closL_keep r _ ?_
      rw [List.lookup_cons]
      cases hb : x == y.1 with
      | true => exact ⟨_, rfl⟩
      | false => exact h
    · exact closL_keep r acc h
theorem closL_has {env : Env} {y : Str × NameKind} (hk : y.2 = .free) : ∀ (l : List (Str × NameKind)) (acc : List (Str × Addr)), y ∈ l → ∃ c, (closL env l acc).lookup y.1 = some c
  | [], acc, h => by simp at h
  | z :: r, acc, h => by
    unfold closL
    rcases List.mem_cons.mp h with rfl | h
    · rw [if_pos (by rw [hk]; rfl)]
      exact closL_keep r _ ⟨_, List.lookup_cons_self⟩
    · split
      · exact closL_has hk r _ h
      · exact closL_has hk r _ h
theorem clos_forIn {env : Env} (f : Str × NameKind → List (Str × Addr) → Sem (ForInStep (List (Str × Addr))))
    (hf : ∀ y acc, f y acc = if y.2 == .free then (cellOf env y.1 >>= fun c => pure (.yield ((y.1, c) :: acc))) else pure (.yield acc)) :
    ∀ (l : List (Str × NameKind)) (acc : List (Str × Addr)), (∀ y ∈ l, y.2 = .free → ∃ c, env.cells.lookup y.1 = some c) → forIn l acc f = (pure (closL env l acc) : Sem _)
  | [], acc, _ => by rw [List.forIn_nil]; rfl
  | y :: r, acc, h => by
    have ih := fun acc => clos_forIn f hf r acc fun z hz => h z (List.mem_cons_of_mem _ hz)
    rw [List.forIn_cons, hf]
    unfold closL
    split
    · rename_i hk
      obtain ⟨c, hc⟩ := h y List.mem_cons_self (by simpa using hk)
      have e : cellOf env y.1 = pure c := by unfold cellOf; rw [hc]
      rw [e, hc]
      exact ih _
    · exact ih _
theorem clos_for {scope : Scope} {env : Env} (h : ∀ y ∈ scope.names, y.2 = .free → ∃ c, env.cells.lookup y.1 = some c) : closureFor scope env = pure (closL env scope.names []) := by
  have e := clos_forIn (env := env) (fun x cs => match x with | (name, kind) => if (kind == NameKind.free) = true then (do let c ← cellOf env name; pure (.yield ((name, c) :: cs))) else pure (.yield cs)) (fun y acc => rfl) scope.names [] h
  have e2 : closureFor scope env = ((forIn scope.names [] (fun x cs => match x with | (name, kind) => if (kind == NameKind.free) = true then (do let c ← cellOf env name; pure (ForInStep.yield ((name, c) :: cs))) else pure (ForInStep.yield cs)) : Sem (List (Str × Addr))) >>= fun cs => pure cs) := rfl
  rw [e2, e]
  rfl
theorem relab_lookup {env : Env} {x : Str} : ∀ (l : List (Str × NameKind)),
    (l.map fun (n, k) => if (k == NameKind.free && env.scope.kind == .function && env.kindOf n == some .cell) then (n, NameKind.cell) else (n, k)).lookup x =
      (l.lookup x).map fun k => if (k == NameKind.free && env.scope.kind == .function && env.kindOf x == some .cell) then NameKind.cell else k
  | [] => rfl
  | (n, k) :: r => by
    have ih := @relab_lookup env x r
    rw [List.map_cons]
    by_cases e : x = n
    · subst e
      dsimp only
      split
      · rename_i h; rw [List.lookup_cons_self, List.lookup_cons_self, Option.map_some, if_pos h]
      · rename_i h; rw [List.lookup_cons_self, List.lookup_cons_self, Option.map_some, if_neg h]
    · have e' : (x == n) = false := by simpa using e
      dsimp only
      split
      · rw [List.lookup_cons, e', List.lookup_cons, e']; exact ih
      · rw [List.lookup_cons, e', List.lookup_cons, e']; exact ih
theorem cf_all : ∀ (l : List (Str × NameKind)) (h : Heap) (acc : List (Str × Addr)) (x : Str) (c : Addr), (cellsFrom h.objs.size l acc).lookup x = some c →
    ((pushCells h l).IsCell c none ∧ h.objs.size ≤ c ∧ (x, NameKind.cell) ∈ l) ∨ acc.lookup x = some c
  | [], _, _, _, _, e => .inr e
  | (n, k) :: r, h, acc, x, c, e => by
    unfold cellsFrom at e
    unfold pushCells
    split at e
    · rename_i hk
      have hk' : k = .cell := by simpa using hk
      rw [if_pos hk]
      have hz : (h.push { cls := .type "cell", data := .cell none }).objs.size = h.objs.size + 1 := Heap.size_push ..
      rw [← hz] at e
      rcases cf_all r (h.push { cls := .type "cell", data := .cell none }) _ x c e with ⟨a, b, d⟩ | q
      · exact .inl ⟨a, by rw [hz] at b; lia, List.mem_cons_of_mem _ d⟩
      · rw [List.lookup_cons] at q
        cases hb : x == n with
        | false => rw [hb] at q; exact .inr q
        | true =>
          rw [hb] at q
          have e1 : h.objs.size = c := by simpa using q
          have e2 : x = n := by simpa using hb
          subst e1 e2
          refine .inl ⟨?_, Nat.le_refl _, by rw [hk']; exact List.mem_cons_self⟩
          exact ⟨_, pushCells_keeps _ _ _ _ (Heap.get?_push_size _ rfl), rfl⟩
    · rename_i hk
      rw [if_neg hk]
      rcases cf_all r h acc x c e with ⟨a, b, d⟩ | q
      · exact .inl ⟨a, b, List.mem_cons_of_mem _ d⟩
      · exact .inr q
theorem cf_inj : ∀ (l : List (Str × NameKind)) (n : Nat) (acc : List (Str × Addr)), (∀ x y c, acc.lookup x = some c → acc.lookup y = some c → x = y) → (∀ x c, acc.lookup x = some c → c < n) →
    ∀ x y c, (cellsFrom n l acc).lookup x = some c → (cellsFrom n l acc).lookup y = some c → x = y
  | [], _, _, hi, _, x, y, c, e, e' => hi x y c e e'
  | (m, k) :: r, n, acc, hi, hl, x, y, c, e, e' => by
    unfold cellsFrom at e e'
    have one : ∀ z d, ((m, n) :: acc).lookup z = some d → (z = m ∧ d = n) ∨ acc.lookup z = some d := fun z d q => by
      rw [List.lookup_cons] at q
      cases hb : z == m with
      | true => rw [hb] at q; exact .inl ⟨by simpa using hb, by simpa using q.symm⟩
      | false => rw [hb] at q; exact .inr q
    split at e
    · rename_i hk
      rw [if_pos hk] at e'
      refine cf_inj r (n + 1) ((m, n) :: acc) (fun a b d q q' => ?_) (fun a d q => ?_) x y c e e'
      · rcases one a d q with ⟨a1, a2⟩ | a1 <;> rcases one b d q' with ⟨b1, b2⟩ | b1
        · rw [a1, b1]
        · exact absurd (hl b d b1) (by rw [a2]; exact Nat.lt_irrefl _)
        · exact absurd (hl a d a1) (by rw [b2]; exact Nat.lt_irrefl _)
        · exact hi a b d a1 b1
      · rcases one a d q with ⟨_, a2⟩ | a1
        · rw [a2]; exact Nat.lt_succ_self _
        · exact Nat.lt_succ_of_lt (hl a d a1)
    · rename_i hk
      rw [if_neg hk] at e'
      exact cf_inj r n acc hi hl x y c e e'
theorem cf_keep {x : Str} : ∀ (l : List (Str × NameKind)) (n : Nat) (acc : List (Str × Addr)), (∃ c, acc.lookup x = some c) → ∃ c, (cellsFrom n l acc).lookup x = some c
  | [], _, _, h => h
  | (m, k) :: r, n, acc, h => by
    unfold cellsFrom
    split
    · refine cf_keep r _ _ ?_
      rw [List.lookup_cons]
      cases hb : x == m with
      | true => exact ⟨_, rfl⟩
      | false => exact h
    · exact cf_keep r _ _ h
theorem cf_has {x : Str} : ∀ (l : List (Str × NameKind)) (n : Nat) (acc : List (Str × Addr)), (x, NameKind.cell) ∈ l → ∃ c, (cellsFrom n l acc).lookup x = some c
  | [], _, _, h => by simp at h
  | (m, k) :: r, n, acc, h => by
    unfold cellsFrom
    rcases List.mem_cons.mp h with e | h
    · cases e
      exact cf_keep r _ _ ⟨_, List.lookup_cons_self⟩
    · split
      · exact cf_has r _ _ h
      · exact cf_has r _ _ h
theorem cf_ge {x : Str} : ∀ (l : List (Str × NameKind)) (n : Nat) (acc : List (Str × Addr)) (lo : Nat), lo ≤ n → ((x, NameKind.cell) ∈ l ∨ ∀ c, acc.lookup x = some c → lo ≤ c) → ∀ c, (cellsFrom n l acc).lookup x = some c → lo ≤ c
  | [], n, acc, lo, hn, h, c, e => by
    rcases h with h | h
    · simp at h
    · exact h c e
  | (m, k) :: r, n, acc, lo, hn, h, c, e => by
    unfold cellsFrom at e
    split at e
    · rename_i hk
      refine cf_ge r (n + 1) ((m, n) :: acc) lo (by lia) ?_ c e
      rcases h with h | h
      · rcases List.mem_cons.mp h with z | z
        · cases z
          refine .inr fun d q => ?_
          rw [List.lookup_cons_self] at q
          have : n = d := by simpa using q
          lia
        · exact .inl z
      · refine .inr fun d q => ?_
        rw [List.lookup_cons] at q
        cases hb : x == m with
        | true => rw [hb] at q; have : n = d := by simpa using q; 
                  lia
        | false => rw [hb] at q; exact h d q
    · rename_i hk
      refine cf_ge r n acc lo hn ?_ c e
      rcases h with h | h
      · rcases List.mem_cons.mp h with z | z
        · cases z; exact absurd rfl hk
        · exact .inl z
      · exact .inr h
section
variable {M : Model} {A : Around} {E : Value → Shared → Prop} {s : Shared}
theorem newEnv_comp {scope : Scope} {env : Env} {cl : List (Str × Addr)} {Q : Env → Shared → Prop}
    (h : Q (newEnv scope s.heap.objs.size env.globals (cellsFrom (s.heap.objs.size + 1) scope.names cl) env.qual none .none (some env) builtinsNs)
      { s with heap := pushCells (s.heap.push { cls := .type "dict", data := .dict #[] }) scope.names }) :
    wpAny M A (newFunctionEnv scope env.globals cl [] env.qual none .none (some env)) Q E s := by
  simp only [newFunctionEnv, Option.isSome_some, if_true]
  refine wpAny_bind (wpAny_alloc ?_)
  refine wpAny_bind (wpAny_layCells _ (fun name kind cells => ?_) _ _ _ _ ?_)
  · cases hkc : kind == NameKind.cell <;> simp [hkc]
  · rw [List.forIn_nil]
    refine wpAny_bind (wpAny_pure (wpAny_pure ?_))
    have hz : ({ s with heap := s.heap.push { cls := .type "dict", data := .dict #[] } } : Shared).heap.objs.size = s.heap.objs.size + 1 := Heap.size_push ..
    rw [hz]
    exact h
end
abbrev cTests (ifs : List Expr) (env : Env) : Sem Bool := forIn ifs true fun c r => if r = true then do let ok ← isTrue c env (eval c env); pure (ForInStep.yield ok) else pure (ForInStep.yield r)
section
variable {prog : Program} {w : World} {A : Around} {R : Result → Shared → Prop} {s : Shared}
theorem comp_loop {elt target iter : Expr} {ifs : List Expr} {scope : Scope} {pos : Pos} {it acc : Value} {env : Env} (J : Nat → Shared → Prop)
    (turn : ∀ n s, J n s → wpAny (model prog w) A (pyNext it) (fun r s1 => match r with
      | none => R (.ok .next) s1
      | some v => wpAny (model prog w) A (letOwnedTupleGo target it v) (fun _ s2 => wpAny (model prog w) A (assign target env v) (fun _ s3 => wpAny (model prog w) A (cTests ifs env) (fun ok s4 =>
          if ok = true then wpAny (model prog w) A (eval elt env) (fun x s5 => wpAny (model prog w) A (call (.builtin "list.append") [acc, x]) (fun _ s6 => ∃ m, m < n ∧ J m s6) (fun _ _ => False) s5) (fun _ _ => False) s4
          else ∃ m, m < n ∧ J m s4) (fun _ _ => False) s3) (fun _ _ => False) s2) (fun _ _ => False) s1) (fun _ _ => False) s)
    (n : Nat) (h : J n s) : codeAny (model prog w) A (.compLoop (.ListComp elt [⟨target, iter, ifs, 0⟩] scope pos) 0 it acc env) R s := by
  refine codeAny_loop rfl J (fun n s hJ => ?_) n h
  show wpAny _ A ((compTurn (.ListComp elt [⟨target, iter, ifs, 0⟩] scope pos) 0 it acc env).onRaise (fun x => do noteFrame x env; theTreesLotGoes x)) _ _ s
  refine wpAny_noted ?_
  rw [compTurn_list]
  have up : ∀ {α : Type} {t : Sem α} {Q Q' : α → Shared → Prop} {E : Value → Shared → Prop} {s : Shared}, wpAny (model prog w) A t Q (fun _ _ => False) s → (∀ a s, Q a s → Q' a s) → wpAny (model prog w) A t Q' E s :=
    fun h f => wpAny_mono h f fun _ _ z => False.elim z
  refine wpAny_bind (wpAny_standAt (wpAny_bind (up (turn n s hJ) fun r s1 h1 => ?_)))
  cases r with
  | none => exact wpAny_pure h1
  | some v =>
    refine wpAny_bind (up h1 fun _ s2 h2 => ?_)
    refine wpAny_bind (up h2 fun _ s3 h3 => ?_)
    refine wpAny_bind (up h3 fun ok s4 h4 => ?_)
    cases ok with
    | false => exact wpAny_pure ⟨rfl, h4⟩
    | true => exact wpAny_bind (wpAny_bind (up h4 fun x s5 h5 => wpAny_bind (up h5 fun _ s6 h6 => wpAny_pure (wpAny_pure ⟨rfl, h6⟩))))
end
end L2
set_option maxRecDepth 100000
namespace L2
open PySem
def itName (b : Bool) : String := if b then "list_iterator" else "tuple_iterator"
def SeqIs (b : Bool) (h : Heap) (l : Addr) (xs : Array Value) : Prop := match b with | true => h.IsList l xs | false => h.IsTuple l xs
def IterIs (b : Bool) (h : Heap) (i l : Addr) (k : Nat) : Prop := match b with | true => h.IsListIter i l k | false => h.IsTupleIter i l k
theorem SeqIs.at {b : Bool} {h h' : Heap} {l : Addr} {xs : Array Value} (x : SeqIs b h l xs) (hk : ∀ o, h.get? l = some o → h'.get? l = some o) : SeqIs b h' l xs := by
  cases b <;> (obtain ⟨o, e, r⟩ := x; exact ⟨o, hk o e, r⟩)
theorem IterIs.at {b : Bool} {h h' : Heap} {i l : Addr} {k : Nat} (x : IterIs b h i l k) (hk : ∀ o, h.get? i = some o → h'.get? i = some o) : IterIs b h' i l k := by
  cases b <;> (obtain ⟨o, e, r⟩ := x; exact ⟨o, hk o e, r⟩)
theorem IterIs.obj {b : Bool} {h : Heap} {i l : Addr} {k : Nat} (x : IterIs b h i l k) : ∃ o, h.get? i = some o ∧ o.cls = .type (itName b) ∧ o.data = .fields #[.ref l, .int k 0] := by
  cases b <;> exact x
theorem SeqIs.ne {b c : Bool} {h : Heap} {l i m : Addr} {k : Nat} {xs : Array Value} (x : SeqIs b h l xs) (y : IterIs c h i m k) : l ≠ i := by
  rintro rfl
  obtain ⟨o, e, hc, _⟩ := y.obj
  cases b <;> (obtain ⟨o', e', hc', _⟩ := x; rw [e] at e'; cases e'; rw [hc] at hc'; cases c <;> exact absurd (Value.type.inj hc') (by decide))
section
variable {prog : Program} {w : World} {A : Around} {E : Value → Shared → Prop} {s : Shared}
theorem pyIter_seq {b : Bool} {l : Addr} {xs : Array Value} {Q : Value → Shared → Prop} (hl : SeqIs b s.heap l xs)
    (hQ : Q (.ref s.heap.objs.size) { s with heap := s.heap.push { cls := .type (itName b), data := .fields #[.ref l, .int 0 0] } }) : wpAny (model prog w) A (pyIter (.ref l)) Q E s := by
  cases b with
  | true => exact wpAny_pyIter_list hl hQ
  | false => exact wpAny_pyIter_tuple hl hQ
theorem nextOf_tup {it l : Addr} {i : Nat} {items : Array Value} {x : Value} {Q : Value → Shared → Prop} (hit : s.heap.IsTupleIter it l i) (hl : s.heap.IsTuple l items) (hx : items[i]? = some x)
    (hQ : ∀ h', h'.IsTupleIter it l (i + 1) → Heap.SameBut it s.heap h' → Q x { s with heap := h' }) : wpAny (model prog w) A (Builtin.SmallTypes.nextOf (.ref it)) Q E s := by
  obtain ⟨o, ho, hc, hd⟩ := id hit
  obtain ⟨ol, hol, _, nl, hdl⟩ := hl
  unfold Builtin.SmallTypes.nextOf
  refine wpAny_bind (wpAny_callSpecial?_slot (name := Str.ofString "__next__") hit.typeIs F.slot_tuple_iterator_next (wpAny_call_entry F.slot_tuple_iterator_next hit.typeIs F.entry_tuple_iterator_next ?_ (F.args_tuple_iterator_next_1 _)))
  show wpAny _ A.in1 (field (.ref it) 0 >>= _) _ _ s
  refine wpAny_bind (wpAny_field (x := .ref l) ho hd rfl ?_)
  show wpAny _ A.in1 (if (Value.ref l == Value.none) = true then _ else _) _ _ s
  have nn : ¬ ((Value.ref l == Value.none) = true) := Bool.false_ne_true
  rw [if_neg nn]
  show wpAny _ A.in1 (field (.ref it) 1 >>= _) _ _ s
  refine wpAny_bind (wpAny_field (x := .int i 0) ho hd rfl ?_)
  show wpAny _ A.in1 (seqItems? (.ref l) >>= _) _ _ s
  refine wpAny_bind (wpAny_seqItems hol hdl ?_)
  simp only [hx, Int.toNat_natCast]
  refine wpAny_bind (wpAny_setField ho hd (by simp) (wpAny_pure ⟨x, rfl, wpAny_pure (hQ _ ⟨_, Heap.get?_update_self _ ho (Obj.isFreed_of_fields (Obj.data_mapFields hd _)), (Obj.cls_mapFields ..).trans hc, ?_⟩ (Heap.SameBut.update ..))⟩))
  rw [Obj.data_mapFields hd]
  simp [rawInt]
theorem nextOf_tup_end {it l : Addr} {i : Nat} {items : Array Value} {Q : Value → Shared → Prop} (hh : A.handled = none) (hit : s.heap.IsTupleIter it l i) (hl : s.heap.IsTuple l items) (hx : items[i]? = none)
    (hE : ∀ h' e, Heap.ExtBut it s.heap h' → (∃ o, h'.get? e = some o ∧ o.cls = .type "StopIteration") → E (.ref e) { s with heap := h' }) : wpAny (model prog w) A (Builtin.SmallTypes.nextOf (.ref it)) Q E s := by
  obtain ⟨o, ho, hc, hd⟩ := id hit
  obtain ⟨ol, hol, _, nl, hdl⟩ := hl
  unfold Builtin.SmallTypes.nextOf
  refine wpAny_bind (wpAny_callSpecial?_slot (name := Str.ofString "__next__") hit.typeIs F.slot_tuple_iterator_next (wpAny_call_entry F.slot_tuple_iterator_next hit.typeIs F.entry_tuple_iterator_next ?_ (F.args_tuple_iterator_next_1 _)))
  show wpAny _ A.in1 (field (.ref it) 0 >>= _) _ _ s
  refine wpAny_bind (wpAny_field (x := .ref l) ho hd rfl ?_)
  show wpAny _ A.in1 (if (Value.ref l == Value.none) = true then _ else _) _ _ s
  have nn : ¬ ((Value.ref l == Value.none) = true) := Bool.false_ne_true
  rw [if_neg nn]
  show wpAny _ A.in1 (field (.ref it) 1 >>= _) _ _ s
  refine wpAny_bind (wpAny_field (x := .int i 0) ho hd rfl ?_)
  show wpAny _ A.in1 (seqItems? (.ref l) >>= _) _ _ s
  refine wpAny_bind (wpAny_seqItems hol hdl ?_)
  simp only [hx, Int.toNat_natCast]
  refine wpAny_bind (wpAny_rule (wpAny_bind (wpAny_setField ho hd (by simp) ?_)))
  show wpAny _ A.in1 (newExc (.type "StopIteration") [] >>= _) _ _ _
  refine wpAny_bind ?_
  simp only [newExc, newTuple]
  refine wpAny_bind (wpAny_newObj_type ?_ (by size_fits))
  refine wpAny_bind (m := firstArgMember _ _) (wpAny_of_eq (a := Value.none) (by simp only [firstArgMember]; rfl) ?_)
  refine wpAny_newObj_type ?_ (by size_fits)
  simp only [raiseNew]
  refine wpAny_bind (wpAny_handled ?_)
  rw [show A.in1.handled = none from hh]
  refine wpAny_bind (wpAny_pure (wpAny_throw ?_))
  exact hE _ _ (((Heap.SameBut.update ..).extBut.push _).push _) ⟨_, Heap.get?_push_size _ rfl, rfl⟩
theorem nextOf_seq {b : Bool} {it l : Addr} {i : Nat} {items : Array Value} {x : Value} {Q : Value → Shared → Prop} (hit : IterIs b s.heap it l i) (hl : SeqIs b s.heap l items) (hx : items[i]? = some x)
    (hQ : ∀ h', IterIs b h' it l (i + 1) → Heap.SameBut it s.heap h' → Q x { s with heap := h' }) : wpAny (model prog w) A (Builtin.SmallTypes.nextOf (.ref it)) Q E s := by
  cases b with
  | true => exact wpAny_nextOf_list_item hit hl hx hQ
  | false => exact nextOf_tup hit hl hx hQ
theorem nextOf_seq_end {b : Bool} {it l : Addr} {i : Nat} {items : Array Value} {Q : Value → Shared → Prop} (hh : A.handled = none) (hit : IterIs b s.heap it l i) (hl : SeqIs b s.heap l items) (hx : items[i]? = none)
    (hE : ∀ h' e, Heap.ExtBut it s.heap h' → (∃ o, h'.get? e = some o ∧ o.cls = .type "StopIteration") → E (.ref e) { s with heap := h' }) : wpAny (model prog w) A (Builtin.SmallTypes.nextOf (.ref it)) Q E s := by
  cases b with
  | true => exact wpAny_nextOf_list_end hh hit hl hx hE
  | false => exact nextOf_tup_end hh hit hl hx hE
structure ZApart (z ti to i1 i2 : Addr) : Prop where
  a1 : ti ≠ z
  a2 : to ≠ z
  a3 : i1 ≠ z
  a4 : i2 ≠ z
  a5 : ti ≠ to
  a6 : ti ≠ i1
  a7 : ti ≠ i2
  a8 : to ≠ i1
  a9 : to ≠ i2
  a10 : i1 ≠ i2
structure ZSt (b c : Bool) (z ti to i1 i2 l1 l2 : Addr) (k : Nat) (h : Heap) : Prop where
  z : IsZip h z ti to .none
  ti : IsPair h ti (.ref i1) (.ref i2)
  to : ∃ u v, IsPair h to u v
  i1 : IterIs b h i1 l1 k
  i2 : IterIs c h i2 l2 k
structure ZMid (b c : Bool) (z ti to i1 i2 l1 l2 : Addr) (k : Nat) (T : Addr) (h : Heap) : Prop where
  z : IsZip h z ti to (rawInt T)
  ti : IsPair h ti (.ref i1) (.ref i2)
  to : ∃ u v, IsPair h to u v
  i1 : IterIs b h i1 l1 (k + 1)
  i2 : IterIs c h i2 l2 (k + 1)
theorem ZSt.apartL {b c d : Bool} {z ti to i1 i2 l1 l2 l : Addr} {k : Nat} {h : Heap} {xs : Array Value} (x : ZSt b c z ti to i1 i2 l1 l2 k h) (hl : SeqIs d h l xs) (hto : l ≠ to) : l ≠ z ∧ l ≠ i1 ∧ l ≠ i2 := by
  refine ⟨?_, hl.ne x.i1, hl.ne x.i2⟩
  rintro rfl
  have e := x.z
  cases d <;> (obtain ⟨o', e', hc', _⟩ := hl; rw [e] at e'; cases e'; exact absurd (Value.type.inj hc') (by decide))
theorem zip_item {b c : Bool} {z ti to i1 i2 l1 l2 : Addr} {k : Nat} {xs ys : Array Value} {x y : Value} {Q : Value → Shared → Prop} (D : ZApart z ti to i1 i2) (S : ZSt b c z ti to i1 i2 l1 l2 k s.heap)
    (hl1 : SeqIs b s.heap l1 xs) (hl2 : SeqIs c s.heap l2 ys) (n1 : l1 ≠ to) (n2 : l2 ≠ to) (hx : xs[k]? = some x) (hy : ys[k]? = some y)
    (hQ : ∀ h', ZMid b c z ti to i1 i2 l1 l2 k s.heap.objs.size h' → IsPair h' s.heap.objs.size x y → (∀ d o, d ≠ z → d ≠ to → d ≠ i1 → d ≠ i2 → s.heap.get? d = some o → h'.get? d = some o) → Q (.ref s.heap.objs.size) { s with heap := h' }) :
    wpAny (model prog w) A (Builtin.«zip.__next__» ⟨[.ref z], []⟩) (fun fin s' => ∃ v, fin = .done (.ret v) ∧ Q v s') E s := by
  obtain ⟨m1, m2, m3⟩ := S.apartL hl1 n1
  obtain ⟨m4, m5, m6⟩ := S.apartL hl2 n2
  obtain ⟨hz, hTI, ⟨u, v, hTO⟩, h1, h2⟩ := S
  show wpAny _ A (field (.ref z) 2 >>= _) _ _ _
  refine wpAny_bind (wpAny_field (x := .bool false) hz rfl rfl ?_)
  show wpAny _ A (field (.ref z) 3 >>= _) _ _ _
  refine wpAny_bind (wpAny_field (x := .ref ti) hz rfl rfl ?_)
  refine wpAny_bind (wpAny_seqItems hTI rfl ?_)
  show wpAny _ A (Builtin.SmallTypes.ownedTupleIsFree (.ref z) >>= _) _ _ _
  refine wpAny_bind ?_
  unfold Builtin.SmallTypes.ownedTupleIsFree
  refine wpAny_bind (wpAny_field (x := .none) hz rfl rfl (wpAny_pure ?_))
  simp only [if_true]
  refine wpAny_bind (wpAny_rule ?_)
  refine wpAny_bind (wpAny_field (x := .ref to) hz rfl rfl ?_)
  refine wpAny_bind (wpAny_setField_rec hz (by simp) fun g1 hz1 s1 => ?_)
  replace hz1 : IsZip g1 z ti to .ellipsis := hz1
  refine wpAny_bind ?_
  simp only [List.forIn_cons, List.forIn_nil, List.zipIdx_cons, List.zipIdx_nil]
  refine wpAny_bind (wpAny_bind (wpAny_onRaise ?_))
  show wpAny _ A (Builtin.SmallTypes.nextOf (.ref i1) >>= _) _ _ _
  refine wpAny_bind (nextOf_seq (h1.at fun o e => s1.extBut _ _ D.a3 e) (hl1.at fun o e => s1.extBut _ _ m1 e) hx fun g2 k1 s2 => wpAny_pure ?_)
  have hTO2 : IsPair g2 to u v := s2.extBut _ _ D.a8 (s1.extBut _ _ D.a2 hTO)
  refine wpAny_bind (wpAny_seqItems hTO2 rfl ?_)
  refine wpAny_bind (wpAny_updateSeq_pair hTO2 fun g3 hTO3 s3 => ?_)
  replace hTO3 : IsPair g3 to x v := hTO3
  refine wpAny_bind (wpAny_letGo (wpAny_pure ?_))
  refine wpAny_bind (wpAny_bind (wpAny_onRaise ?_))
  show wpAny _ A (Builtin.SmallTypes.nextOf (.ref i2) >>= _) _ _ _
  refine wpAny_bind (nextOf_seq (h2.at fun o e => s3.extBut _ _ D.a9.symm (s2.extBut _ _ D.a10.symm (s1.extBut _ _ D.a4 e))) (hl2.at fun o e => s3.extBut _ _ n2 (s2.extBut _ _ m5 (s1.extBut _ _ m4 e))) hy fun g4 k2 s4 => wpAny_pure ?_)
  have hTO4 : IsPair g4 to x v := s4.extBut _ _ D.a9 hTO3
  refine wpAny_bind (wpAny_seqItems hTO4 rfl ?_)
  refine wpAny_bind (wpAny_updateSeq_pair hTO4 fun g5 hTO5 s5 => ?_)
  replace hTO5 : IsPair g5 to x y := hTO5
  refine wpAny_bind (wpAny_letGo (wpAny_pure (wpAny_pure ?_)))
  refine wpAny_bind (wpAny_seqItems hTO5 rfl ?_)
  refine wpAny_bind (wpAny_newTuple ?_)
  have sz : g5.objs.size = s.heap.objs.size := by rw [s5.1, s4.1, s3.1, s2.1, s1.1]
  have z5 : IsZip g5 z ti to .ellipsis := s5.extBut _ _ D.a2.symm (s4.extBut _ _ D.a4.symm (s3.extBut _ _ D.a2.symm (s2.extBut _ _ D.a3.symm hz1)))
  have kp : ∀ d o, d ≠ z → d ≠ to → d ≠ i1 → d ≠ i2 → s.heap.get? d = some o → g5.get? d = some o := fun d o d1 d2 d3 d4 e => s5.extBut _ _ d2 (s4.extBut _ _ d4 (s3.extBut _ _ d2 (s2.extBut _ _ d3 (s1.extBut _ _ d1 e))))
  have j1 : IterIs b g5 i1 l1 (k + 1) := k1.at fun o e => s5.extBut _ _ D.a8.symm (s4.extBut _ _ D.a10 (s3.extBut _ _ D.a8.symm e))
  have j2 : IterIs c g5 i2 l2 (k + 1) := k2.at fun o e => s5.extBut _ _ D.a9.symm e
  have zl : z < g5.objs.size := Heap.lt_size z5
  show wpAny _ A (Builtin.SmallTypes.ownedTupleHandOut (.ref z) (.ref g5.objs.size) >>= _) _ _ _
  refine wpAny_bind ?_
  unfold Builtin.SmallTypes.ownedTupleHandOut
  have z6 : IsZip (g5.push { cls := .type "tuple", data := .seq #[x, y] }) z ti to .ellipsis := Heap.get?_push_of_some _ z5
  refine wpAny_bind (wpAny_setField_rec z6 (by simp) fun g7 z7 s7 => ?_)
  replace z7 : IsZip g7 z ti to (rawInt g5.objs.size) := z7
  refine wpAny_setField_rec z7 (by simp) fun g8 z8 s8 => ?_
  replace z8 : IsZip g8 z ti to (rawInt g5.objs.size) := z8
  have up : ∀ d o, d ≠ z → g5.get? d = some o → g8.get? d = some o := fun d o d1 e => s8.extBut _ _ d1 (s7.extBut _ _ d1 (Heap.get?_push_of_some _ e))
  have T8 : IsPair g8 g5.objs.size x y := s8.extBut _ _ (Nat.ne_of_gt zl) (s7.extBut _ _ (Nat.ne_of_gt zl) (Heap.get?_push_size _ rfl))
  rw [sz] at z8 T8
  refine wpAny_pure ⟨_, rfl, ?_⟩
  show Q (.ref g5.objs.size) _
  rw [sz]
  exact hQ g8 ⟨z8, up _ _ D.a1 (kp _ _ D.a1 D.a5 D.a6 D.a7 hTI), ⟨_, _, up _ _ D.a2 hTO5⟩, j1.at fun o e => up _ o D.a3 e, j2.at fun o e => up _ o D.a4 e⟩ T8 fun d o d1 d2 d3 d4 e => up d o d1 (kp d o d1 d2 d3 d4 e)
theorem zip_stop {b c : Bool} {z ti to i1 i2 l1 l2 : Addr} {k : Nat} {xs ys : Array Value} {Q : Fin → Shared → Prop} (hh : A.handled = none) (D : ZApart z ti to i1 i2) (S : ZSt b c z ti to i1 i2 l1 l2 k s.heap)
    (hl1 : SeqIs b s.heap l1 xs) (hl2 : SeqIs c s.heap l2 ys) (n1 : l1 ≠ to) (n2 : l2 ≠ to) (hend : xs[k]? = none ∨ ys[k]? = none)
    (hE : ∀ h' e, (∀ d o, d ≠ z → d ≠ to → d ≠ i1 → d ≠ i2 → s.heap.get? d = some o → h'.get? d = some o) → (∃ o, h'.get? e = some o ∧ o.cls = .type "StopIteration") → E (.ref e) { s with heap := h' }) :
    wpAny (model prog w) A (Builtin.«zip.__next__» ⟨[.ref z], []⟩) Q E s := by
  obtain ⟨m1, m2, m3⟩ := S.apartL hl1 n1
  obtain ⟨m4, m5, m6⟩ := S.apartL hl2 n2
  obtain ⟨hz, hTI, ⟨u, v, hTO⟩, h1, h2⟩ := S
  show wpAny _ A (field (.ref z) 2 >>= _) _ _ _
  refine wpAny_bind (wpAny_field (x := .bool false) hz rfl rfl ?_)
  show wpAny _ A (field (.ref z) 3 >>= _) _ _ _
  refine wpAny_bind (wpAny_field (x := .ref ti) hz rfl rfl ?_)
  refine wpAny_bind (wpAny_seqItems hTI rfl ?_)
  show wpAny _ A (Builtin.SmallTypes.ownedTupleIsFree (.ref z) >>= _) _ _ _
  refine wpAny_bind ?_
  unfold Builtin.SmallTypes.ownedTupleIsFree
  refine wpAny_bind (wpAny_field (x := .none) hz rfl rfl (wpAny_pure ?_))
  simp only [if_true]
  refine wpAny_bind (wpAny_rule ?_)
  refine wpAny_bind (wpAny_field (x := .ref to) hz rfl rfl ?_)
  refine wpAny_bind (wpAny_setField_rec hz (by simp) fun g1 hz1 s1 => ?_)
  replace hz1 : IsZip g1 z ti to .ellipsis := hz1
  refine wpAny_bind ?_
  simp only [List.forIn_cons, List.forIn_nil, List.zipIdx_cons, List.zipIdx_nil]
  refine wpAny_bind (wpAny_bind (wpAny_onRaise ?_))
  show wpAny _ A (Builtin.SmallTypes.nextOf (.ref i1) >>= _) _ _ _
  have q1 : IterIs b g1 i1 l1 k := h1.at fun o e => s1.extBut _ _ D.a3 e
  have q2 : SeqIs b g1 l1 xs := hl1.at fun o e => s1.extBut _ _ m1 e
  cases hx : xs[k]? with
  | none =>
    refine wpAny_bind (nextOf_seq_end hh q1 q2 hx fun g2 e s2 he => ?_)
    obtain ⟨oe, hoe, hce⟩ := he
    have z2 : IsZip g2 z ti to .ellipsis := s2 _ _ D.a3.symm hz1
    have hez : e ≠ z := fun q => by subst q; rw [z2] at hoe; cases hoe; exact absurd (Value.type.inj hce) (by decide)
    exact wpAny_setField_rec z2 (by simp) fun g3 _ s3 => hE g3 e (fun d o d1 _ d3 _ q => s3.extBut _ _ d1 (s2 _ _ d3 (s1.extBut _ _ d1 q))) ⟨oe, s3.extBut _ _ hez hoe, hce⟩
  | some x =>
    have hy : ys[k]? = none := by
      rcases hend with h | h
      · rw [hx] at h; cases h
      · exact h
    refine wpAny_bind (nextOf_seq q1 q2 hx fun g2 k1 s2 => wpAny_pure ?_)
    have hTO2 : IsPair g2 to u v := s2.extBut _ _ D.a8 (s1.extBut _ _ D.a2 hTO)
    refine wpAny_bind (wpAny_seqItems hTO2 rfl ?_)
    refine wpAny_bind (wpAny_updateSeq_pair hTO2 fun g3 hTO3 s3 => ?_)
    refine wpAny_bind (wpAny_letGo (wpAny_pure ?_))
    refine wpAny_bind (wpAny_bind (wpAny_onRaise ?_))
    show wpAny _ A (Builtin.SmallTypes.nextOf (.ref i2) >>= _) _ _ _
    refine wpAny_bind (nextOf_seq_end hh (h2.at fun o e => s3.extBut _ _ D.a9.symm (s2.extBut _ _ D.a10.symm (s1.extBut _ _ D.a4 e))) (hl2.at fun o e => s3.extBut _ _ n2 (s2.extBut _ _ m5 (s1.extBut _ _ m4 e))) hy fun g4 e s4 he => ?_)
    obtain ⟨oe, hoe, hce⟩ := he
    have z4 : IsZip g4 z ti to .ellipsis := s4 _ _ D.a4.symm (s3.extBut _ _ D.a2.symm (s2.extBut _ _ D.a3.symm hz1))
    have hez : e ≠ z := fun q => by subst q; rw [z4] at hoe; cases hoe; exact absurd (Value.type.inj hce) (by decide)
    exact wpAny_setField_rec z4 (by simp) fun g5 _ s5 => hE g5 e (fun d o d1 d2 d3 d4 q => s5.extBut _ _ d1 (s4 _ _ d4 (s3.extBut _ _ d2 (s2.extBut _ _ d3 (s1.extBut _ _ d1 q))))) ⟨oe, s5.extBut _ _ hez hoe, hce⟩
theorem next_zip {b c : Bool} {z ti to i1 i2 l1 l2 : Addr} {k : Nat} {xs ys : Array Value} {x y : Value} {Q : Option Value → Shared → Prop} (D : ZApart z ti to i1 i2) (S : ZSt b c z ti to i1 i2 l1 l2 k s.heap)
    (hl1 : SeqIs b s.heap l1 xs) (hl2 : SeqIs c s.heap l2 ys) (n1 : l1 ≠ to) (n2 : l2 ≠ to) (hx : xs[k]? = some x) (hy : ys[k]? = some y)
    (hQ : ∀ h', ZMid b c z ti to i1 i2 l1 l2 k s.heap.objs.size h' → IsPair h' s.heap.objs.size x y → (∀ d o, d ≠ z → d ≠ to → d ≠ i1 → d ≠ i2 → s.heap.get? d = some o → h'.get? d = some o) → Q (some (.ref s.heap.objs.size)) { s with heap := h' }) :
    wpAny (model prog w) A (pyNext (.ref z)) Q E s := by
  have hT : s.TypeIs (.ref z) "zip" := ⟨_, S.z, rfl⟩
  unfold pyNext
  exact wpAny_bind (wpAny_attempt (wpAny_callSpecial?_slot (name := Str.ofString "__next__") hT F.slot_zip_next (wpAny_call_entry F.slot_zip_next hT F.entry_zip_next
    (zip_item D S hl1 hl2 n1 n2 hx hy fun h' a1 a2 a3 => wpAny_pure (hQ h' a1 a2 a3)) (F.args_zip_next_1 _))))
theorem next_zip_end {b c : Bool} {z ti to i1 i2 l1 l2 : Addr} {k : Nat} {xs ys : Array Value} {Q : Option Value → Shared → Prop} (hh : A.handled = none) (D : ZApart z ti to i1 i2) (S : ZSt b c z ti to i1 i2 l1 l2 k s.heap)
    (hl1 : SeqIs b s.heap l1 xs) (hl2 : SeqIs c s.heap l2 ys) (n1 : l1 ≠ to) (n2 : l2 ≠ to) (hend : xs[k]? = none ∨ ys[k]? = none)
    (hQ : ∀ h', (∀ d o, d ≠ z → d ≠ to → d ≠ i1 → d ≠ i2 → s.heap.get? d = some o → h'.get? d = some o) → Q none { s with heap := h' }) : wpAny (model prog w) A (pyNext (.ref z)) Q E s := by
  have hT : s.TypeIs (.ref z) "zip" := ⟨_, S.z, rfl⟩
  unfold pyNext
  refine wpAny_bind (wpAny_attempt (wpAny_callSpecial?_slot (name := Str.ofString "__next__") hT F.slot_zip_next (wpAny_call_entry F.slot_zip_next hT F.entry_zip_next
    (zip_stop hh D S hl1 hl2 n1 n2 hend fun h' e hk he => ?_) (F.args_zip_next_1 _))))
  obtain ⟨o, ho, hc⟩ := he
  refine wpAny_bind (wpAny_isInstance (T := "StopIteration") (b := true) ⟨o, ho, hc⟩ isSubtype_stop (wpAny_pure (hQ _ hk)))
def zh1 (h : Heap) (b : Bool) (l : Addr) : Heap := h.push { cls := .type (itName b), data := .fields #[.ref l, .int 0 0] }
def zh3 (h : Heap) (b c : Bool) (l1 l2 : Addr) : Heap := (zh1 (zh1 h b l1) c l2).push { cls := .type "tuple", data := .seq #[.ref h.objs.size, .ref (zh1 h b l1).objs.size] }
def zh4 (h : Heap) (b c : Bool) (l1 l2 : Addr) : Heap := (zh3 h b c l1 l2).push { cls := .type "tuple", data := .seq #[.none, .none] }
def zh5 (h : Heap) (b c : Bool) (l1 l2 : Addr) : Heap := (zh4 h b c l1 l2).push { cls := .type "zip", data := .fields #[.none, .bool false, .bool false, .ref (zh1 (zh1 h b l1) c l2).objs.size, .ref (zh3 h b c l1 l2).objs.size] }
end
theorem meets_zip (b c : Bool) (l1 l2 : Addr) (xs ys : Array Value) :
    Meets (Builtin.«zip.__new__» ⟨[.type "zip", .ref l1, .ref l2], []⟩) (fun _ R s => SeqIs b s.heap l1 xs ∧ SeqIs c s.heap l2 ys ∧
      R (.ok (.ret (.ref (zh4 s.heap b c l1 l2).objs.size))) { s with heap := zh5 s.heap b c l1 l2 }) :=
  .of_wp fun prog w A R s h => by
    obtain ⟨hp, g, d, tk, os⟩ := s
    obtain ⟨hl1, hl2, h⟩ := h
    have hsub := sub_zip
    have q1 : SeqIs b (Shared.heap ⟨hp, g, d, tk, os⟩) l1 xs := hl1
    have q2 : SeqIs c (Shared.heap ⟨hp.push { cls := .type (itName b), data := .fields #[.ref l1, .int 0 0] }, g, d, tk, os⟩) l2 ys := hl2.at fun o e => Heap.get?_push_of_some _ e
    wp_walk using pyIter_seq q1, pyIter_seq q2
    exact ⟨_, rfl, h⟩
section
variable {prog : Program} {w : World} {A : Around} {E : Value → Shared → Prop} {s : Shared}
theorem call_zip {b c : Bool} {l1 l2 : Addr} {xs ys : Array Value} {Q : Value → Shared → Prop} (hl1 : SeqIs b s.heap l1 xs) (hl2 : SeqIs c s.heap l2 ys)
    (h : ∀ h' z ti to i1 i2, ZApart z ti to i1 i2 → ZSt b c z ti to i1 i2 l1 l2 0 h' → (∀ d ∈ [z, ti, to, i1, i2], s.heap.objs.size ≤ d) → (∀ d o, s.heap.get? d = some o → h'.get? d = some o) → Q (.ref z) { s with heap := h' }) :
    wpAny (model prog w) A (call (.type "zip") [.ref l1, .ref l2]) Q E s := by
  refine callType_new F.called_zip (by decide) (F.typeCall_zip_2 _ _) (F.newCall_zip_2 _ _) (fun obj => F.args_object_init_3 obj _ _) F.entry_zip_new (meets_zip b c l1 l2 xs ys) ⟨hl1, hl2, ?_⟩
  unfold zh5 zh4 zh3
  generalize h1 : zh1 s.heap b l1 = g1
  generalize h2 : zh1 g1 c l2 = g2
  have z1 : g1.objs.size = s.heap.objs.size + 1 := by rw [← h1]; exact Heap.size_push ..
  have z2 : g2.objs.size = s.heap.objs.size + 2 := by rw [← h2]; exact (Heap.size_push ..).trans (by rw [z1])
  generalize h3 : g2.push { cls := .type "tuple", data := .seq #[.ref s.heap.objs.size, .ref g1.objs.size] } = g3
  have z3 : g3.objs.size = s.heap.objs.size + 3 := by rw [← h3, Heap.size_push, z2]
  generalize h4 : g3.push { cls := .type "tuple", data := .seq #[.none, .none] } = g4
  have z4 : g4.objs.size = s.heap.objs.size + 4 := by rw [← h4, Heap.size_push, z3]
  have e1 : g1.get? s.heap.objs.size = some { cls := .type (itName b), data := .fields #[.ref l1, .int 0 0] } := by rw [← h1]; exact Heap.get?_push_size _ rfl
  have e2 : g2.get? g1.objs.size = some { cls := .type (itName c), data := .fields #[.ref l2, .int 0 0] } := by rw [← h2]; exact Heap.get?_push_size _ rfl
  have e3 : g3.get? g2.objs.size = some { cls := .type "tuple", data := .seq #[.ref s.heap.objs.size, .ref g1.objs.size] } := by rw [← h3]; exact Heap.get?_push_size _ rfl
  have e4 : g4.get? g3.objs.size = some { cls := .type "tuple", data := .seq #[.none, .none] } := by rw [← h4]; exact Heap.get?_push_size _ rfl
  have k1 : ∀ d o, s.heap.get? d = some o → g1.get? d = some o := fun d o e => by rw [← h1]; exact Heap.get?_push_of_some _ e
  have k2 : ∀ d o, g1.get? d = some o → g2.get? d = some o := fun d o e => by rw [← h2]; exact Heap.get?_push_of_some _ e
  have k3 : ∀ d o, g2.get? d = some o → g3.get? d = some o := fun d o e => by rw [← h3]; exact Heap.get?_push_of_some _ e
  have k4 : ∀ d o, g3.get? d = some o → g4.get? d = some o := fun d o e => by rw [← h4]; exact Heap.get?_push_of_some _ e
  show _ ∧ _
  refine ⟨⟨_, Heap.get?_push_size _ rfl, rfl⟩, ?_⟩
  refine h _ g4.objs.size g2.objs.size g3.objs.size s.heap.objs.size g1.objs.size ⟨?_, ?_, ?_, ?_, ?_, ?_, ?_, ?_, ?_, ?_⟩ ⟨Heap.get?_push_size _ rfl, Heap.get?_push_of_some _ (k4 _ _ e3), ⟨_, _, Heap.get?_push_of_some _ e4⟩, ?_, ?_⟩ (fun d hd => ?_) fun d o e => Heap.get?_push_of_some _ (k4 _ _ (k3 _ _ (k2 _ _ (k1 _ _ e))))
  · rw [z2, z4]; first | exact Nat.ne_of_lt (by lia) | exact Nat.ne_of_gt (by lia)
  · rw [z3, z4]; first | exact Nat.ne_of_lt (by lia) | exact Nat.ne_of_gt (by lia)
  · rw [z4]; first | exact Nat.ne_of_lt (by lia) | exact Nat.ne_of_gt (by lia)
  · rw [z1, z4]; first | exact Nat.ne_of_lt (by lia) | exact Nat.ne_of_gt (by lia)
  · rw [z2, z3]; first | exact Nat.ne_of_lt (by lia) | exact Nat.ne_of_gt (by lia)
  · rw [z2]; first | exact Nat.ne_of_lt (by lia) | exact Nat.ne_of_gt (by lia)
  · rw [z2, z1]; first | exact Nat.ne_of_lt (by lia) | exact Nat.ne_of_gt (by lia)
  · rw [z3]; first | exact Nat.ne_of_lt (by lia) | exact Nat.ne_of_gt (by lia)
  · rw [z3, z1]; first | exact Nat.ne_of_lt (by lia) | exact Nat.ne_of_gt (by lia)
  · rw [z1]; first | exact Nat.ne_of_lt (by lia) | exact Nat.ne_of_gt (by lia)
  · cases b <;> exact ⟨_, Heap.get?_push_of_some _ (k4 _ _ (k3 _ _ (k2 _ _ e1))), rfl, rfl⟩
  · cases c <;> exact ⟨_, Heap.get?_push_of_some _ (k4 _ _ (k3 _ _ e2)), rfl, rfl⟩
  · simp only [List.mem_cons, List.not_mem_nil, or_false] at hd
    rcases hd with rfl | rfl | rfl | rfl | rfl
    · rw [z4]; lia
    · rw [z2]; lia
    · rw [z3]; lia
    · exact Nat.le_refl _
    · rw [z1]; lia
end
end L2
set_option maxRecDepth 100000
namespace L2
open PySem PySem.Spec PyProof.Rows
theorem Inv.track {X : Cx} {pins : List (Addr × Obj)} {σ : St} {H : Hp} {s : Shared} {a : Addr} {o : HO} (I : Inv X pins σ H s) (hn : H a = none) (hz : X.s₀.heap.objs.size ≤ a) (hL : a ≠ X.env.locals)
    (hc : ∀ x c, X.env.cells.lookup x = some c → c ≠ a) (hp : ∀ p ∈ X.pn ++ pins, p.1 ≠ a) (new : ObjOk X.prog X.w (upd H a o) s.heap a o) : Inv X pins σ (upd H a o) s := by
  have nb : ∀ b u, H b = some u → b ≠ a := fun b u e => ne_of_none e hn
  refine ⟨I.ok, I.os, I.bare, ⟨I.base.keep, I.base.slot, fun b u e n hx => ?_, I.base.there, fun b xs e => ?_, fun b u xs e => ?_, fun b ps e => ?_⟩, I.loc, I.cell, ?_, fun x c e => ?_, fun p hq => ?_, fun b u e => ?_, I.len⟩
  · rw [upd_ne (Nat.ne_of_lt (Nat.lt_of_lt_of_le (Heap.lt_size e) hz))]; exact I.base.free b u e n hx
  · have q := I.base.tups b xs e; rw [upd_ne (nb b _ q)]; exact q
  · have q := I.base.frzs b u xs e; rw [upd_ne (nb b _ q)]; exact q
  · obtain ⟨m, q⟩ := I.base.tbls b ps e; exact ⟨m, by rw [upd_ne (nb b _ q)]; exact q⟩
  · rw [upd_ne (Ne.symm hL)]; exact I.free
  · rw [upd_ne (hc x c e)]; exact I.freeC x c e
  · obtain ⟨q1, q2, q3⟩ := I.pin p hq
    exact ⟨q1, by rw [upd_ne (hp p hq)]; exact q2, q3⟩
  · by_cases hb : b = a
    · subst hb; rw [upd_same] at e; cases e; exact new
    · rw [upd_ne hb] at e
      exact (I.hok b u e).stay (fun _ _ _ q => q) (fun c q => by rw [upd_ne (nb c _ q)]; exact q) (fun c xs q => by rw [upd_ne (nb c _ q)]; exact q) fun c o u q => by rw [upd_ne (nb c _ q)]; exact q
structure CompOk (X : Cx) (scope : Scope) (M : List Str) : Prop where
  kind : scope.kind = .function
  uniq : ∀ y ∈ scope.names, scope.names.lookup y.1 = some y.2
  frees : ∀ y ∈ scope.names, y.2 = .free → (X.env.kindOf y.1 = some .cell ∨ X.env.kindOf y.1 = some .free)
  shadow : ∀ x ∈ M, scope.names.lookup x ≠ some .local ∧ scope.names.lookup x ≠ some .cell
  same : ∀ (i : Nat) (x : Str), M[i]? = some x → scope.names.lookup x = some .free → X.N[i]? = some x
  mlen : M.length = X.N.length
def compChk (N M : List Str) (out sc : Scope) : Bool :=
  (sc.kind == .function && sc.names.all (fun y => sc.names.lookup y.1 == some y.2 && (y.2 != .free || (out.names.lookup y.1 == some .cell || out.names.lookup y.1 == some .free))) &&
    M.all (fun x => sc.names.lookup x != some .local && sc.names.lookup x != some .cell)) && (M.length == N.length && (M.zip N).all (fun p => sc.names.lookup p.1 != some .free || p.1 == p.2))
theorem compOk {X : Cx} {sc : Scope} {M : List Str} (h : compChk X.N M X.env.scope sc = true) : CompOk X sc M := by
  unfold compChk at h
  rw [Bool.and_eq_true, Bool.and_eq_true, Bool.and_eq_true, Bool.and_eq_true, List.all_eq_true, List.all_eq_true, List.all_eq_true] at h
  obtain ⟨⟨⟨h1, h2⟩, h3⟩, h4, h5⟩ := h
  have hl : M.length = X.N.length := by simpa using h4
  refine ⟨by simpa using h1, fun y hy => ?_, fun y hy hf => ?_, fun x hx => ?_, fun i x hi hf => ?_, hl⟩
  · have := h2 y hy
    rw [Bool.and_eq_true] at this
    simpa using this.1
  · have := h2 y hy
    rw [Bool.and_eq_true] at this
    have q := this.2
    rw [hf] at q
    have q' : (X.env.scope.names.lookup y.1 == some .cell || X.env.scope.names.lookup y.1 == some .free) = true := by simpa using q
    rw [Bool.or_eq_true] at q'
    exact q'.imp (fun z => (show X.env.scope.names.lookup y.1 = some .cell by simpa using z)) fun z => (show X.env.scope.names.lookup y.1 = some .free by simpa using z)
  · have := h3 x hx
    rw [Bool.and_eq_true] at this
    exact ⟨by simpa using this.1, by simpa using this.2⟩
  · have hlt : i < X.N.length := by rw [← hl]; exact (List.getElem?_eq_some_iff.mp hi).1
    have hn : X.N[i]? = some X.N[i] := List.getElem?_eq_getElem hlt
    have hz : (M.zip X.N)[i]? = some (x, X.N[i]) := by rw [List.getElem?_zip_eq_some]; exact ⟨hi, hn⟩
    have := h5 _ (List.mem_of_getElem? hz)
    rw [Bool.or_eq_true] at this
    rcases this with z | z
    · rw [hf] at z; simp at z
    · have e : x = X.N[i] := by simpa using z
      rw [hn, ← e]
def cellsC (X : Cx) (scope : Scope) (C : Addr) : List (Str × Addr) := cellsFrom (C + 1) scope.names (closL X.env scope.names [])
def cxComp (X : Cx) (scope : Scope) (own M : List Str) (C : Addr) (s2 : Shared) (H2 : Hp) (fp : List Addr) : Cx where
  prog := X.prog
  w := X.w
  K := X.K
  mg := X.mg
  base := X.base
  A := X.A
  N := own ++ M
  s₀ := s2
  H₀ := H2
  env := compEnvC scope (cellsC X scope C) C X.env
  outer := X.stack
  stack := X.stack
  ex := fp
  fn := fun x => scope.names.lookup x == some .cell
  calm := X.calm
  pn := []
  xe := fun _ _ => False
def PTs (X : Cx) (ifs : List Expr) (t : TT) : Prop :=
  ∀ (pins : List (Addr × Obj)) (s : Shared) (σ : St) (H : Hp) (Q : Bool → Hp → Prop), Inv X pins σ H s → t σ H Q → wpAny (model X.prog X.w) X.A (cTests ifs X.env) (TP X pins σ Q) X.xe s
def tYes : TT := fun _ H Q => Q true H
theorem pts_nil {X : Cx} : PTs X [] tYes := fun _ _ _ H _ I h => wpAny_pure ⟨H, I, h⟩
theorem pts_one {X : Cx} {c : Expr} {t : TT} (hc : PT X c t) : PTs X [c] t := by
  intro pins s σ H Q I h
  show wpAny _ _ (forIn [c] true _) _ _ s
  simp only [List.forIn_cons, List.forIn_nil, if_true]
  exact wpAny_bind (wpAny_bind (thn (hc pins s σ H Q I h) fun b s' hb => wpAny_pure (wpAny_pure hb)))
def tComp (wi : TI) (own : Nat) (g : TG) (tt : TT) (te : TE) : TE := fun σ H Q => wi σ H fun J H1 => ∃ W : Nat → Nat → List V → Hp → Prop, (∃ m, W 0 m [] H1) ∧ ∀ i m acc H, W i m acc H →
  (J.stop i H ∧ acc.length ≤ sizeLine ∧ ∀ D, H D = none → Q (.ref D) (upd H D (.lst acc))) ∨
  (J.go i H ∧ acc.length < sizeLine ∧ ∀ x H', J.yld i H x H' → g x (List.replicate own none ++ σ) H' fun σ2 H2 => σ2.drop own = σ ∧ tt σ2 H2 fun c H3 =>
    if c = true then te σ2 H3 fun v H4 => ∃ m', m' < m ∧ W (i + 1) m' (acc ++ [v]) H4 else ∃ m', m' < m ∧ W (i + 1) m' acc H3)
section
variable {X : Cx} {scope : Scope} {own M : List Str} {pins : List (Addr × Obj)} {σ : St} {H2 : Hp} {s2 : Shared} {fp : List Addr}
theorem CompOk.cells (ok : CompOk X scope M) (I : Inv X pins σ H2 s2) : ∀ y ∈ scope.names, y.2 = .free → ∃ c, X.env.cells.lookup y.1 = some c := fun y hy hf => I.ok.has y.1 (ok.frees y hy hf)
theorem CompOk.kindIn (ok : CompOk X scope M) {x : Str} {C : Addr} {k : NameKind} (h : (compEnvC scope (cellsC X scope C) C X.env).kindOf x = some k) :
    scope.names.lookup x = some k ∨ (k = .cell ∧ scope.names.lookup x = some .free) := by
  have h' : (relabel scope X.env).names.lookup x = some k := h
  unfold relabel at h'
  rw [relab_lookup] at h'
  cases e : scope.names.lookup x with
  | none => rw [e] at h'; simp at h'
  | some j =>
    rw [e, Option.map_some] at h'
    have h2 := Option.some.inj h'
    split at h2
    · rename_i hc
      have : j = .free := by
        rw [Bool.and_eq_true, Bool.and_eq_true] at hc
        simpa using hc.1.1
      exact .inr ⟨h2.symm, by rw [this]⟩
    · exact .inl (by rw [h2])
theorem CompOk.cellsFrom_old (ok : CompOk X scope M) (I : Inv X pins σ H2 s2) {C : Addr} {x : Str} {c : Addr} (h : (cellsC X scope C).lookup x = some c) (hx : scope.names.lookup x ≠ some .cell) : X.env.cells.lookup x = some c := by
  have e0 : ∀ (l : List (Str × NameKind)) (n : Nat) (acc : List (Str × Addr)), (x, NameKind.cell) ∉ l → (cellsFrom n l acc).lookup x = acc.lookup x := by
    intro l
    induction l with
    | nil => intro n acc _; rfl
    | cons y r ih =>
      intro n acc hy
      obtain ⟨m, k⟩ := y
      unfold cellsFrom
      split
      · rename_i hk
        have hk' : k = .cell := by simpa using hk
        rw [ih _ _ fun z => hy (List.mem_cons_of_mem _ z), List.lookup_cons]
        have : (x == m) = false := by
          cases hb : x == m with
          | false => rfl
          | true =>
            have e : x = m := by simpa using hb
            exact absurd (by rw [hk', e]; exact List.mem_cons_self) hy
        rw [this]
      · exact ih _ _ fun z => hy (List.mem_cons_of_mem _ z)
  unfold cellsC at h
  rw [e0 _ _ _ fun hm => hx (ok.uniq _ hm)] at h
  exact closL_sub scope.names [] (ok.cells I) (fun _ _ z => by simp at z) x c h
theorem inv_comp (ok : CompOk X scope M) (hc : X.calm = true) (I : Inv X pins σ H2 s2) (hf : ∀ b ∈ fp, FpOk X pins H2 b ∧ b < s2.heap.objs.size) {C : Addr} (hC : C = s2.heap.objs.size + 1) {h4 : Heap}
    (hh : h4 = pushCells ((s2.heap.push { cls := .type "list", dict := none, data := .seq ([] : List Value).toArray }).push { cls := .type "dict", data := .dict #[] }) scope.names) :
    Inv (cxComp X scope own M C s2 H2 fp) [] (List.replicate own.length none ++ σ) H2 { s2 with heap := h4 } := by
  have zC : (s2.heap.push { cls := .type "list", dict := none, data := .seq ([] : List Value).toArray }).objs.size = C := by rw [Heap.size_push, hC]
  have zC1 : ((s2.heap.push { cls := .type "list", dict := none, data := .seq ([] : List Value).toArray }).push { cls := .type "dict", data := .dict #[] }).objs.size = C + 1 := by rw [Heap.size_push, zC]
  have keep : ∀ b o, s2.heap.get? b = some o → h4.get? b = some o := fun b o e => by
    rw [hh]; exact pushCells_keeps _ _ _ _ (Heap.get?_push_of_some _ (Heap.get?_push_of_some _ e))
  have cellOld : ∀ x c, X.env.cells.lookup x = some c → c < s2.heap.objs.size := fun x c e => by obtain ⟨v, q⟩ := I.cell x c e; exact q.lt
  have cellB : ∀ x c, (cellsC X scope C).lookup x = some c → (h4.IsCell c none ∧ C + 1 ≤ c ∧ scope.names.lookup x = some .cell) ∨ X.env.cells.lookup x = some c := fun x c e => by
    by_cases hx : scope.names.lookup x = some .cell
    · have e' := e
      unfold cellsC at e'
      rw [← zC1] at e'
      rcases cf_all _ _ _ x c e' with ⟨a, b, d⟩ | q
      · exact .inl ⟨by rw [hh]; exact a, by rw [zC1] at b; exact b, hx⟩
      · exact .inr (closL_sub scope.names [] (ok.cells I) (fun _ _ z => by simp at z) x c q)
    · exact .inr (ok.cellsFrom_old I e hx)
  have hNs : ∃ m, h4.Ns C m := by
    have q : ((s2.heap.push { cls := .type "list", dict := none, data := .seq ([] : List Value).toArray }).push { cls := .type "dict", data := .dict #[] }).Ns C (fun _ => none) := by
      have := Heap.Ns.new (s2.heap.push { cls := .type "list", dict := none, data := .seq ([] : List Value).toArray }) (.type "dict")
      rw [zC] at this
      exact this
    exact ⟨_, q.keeps fun b o e => by rw [hh]; exact pushCells_keeps _ _ _ _ e⟩
  have nfs : ∀ b ∈ fp, b ∉ frs X.stack := fun b hb hx => by
    obtain ⟨⟨_, f1, f2, _⟩, _⟩ := hf b hb
    rcases List.mem_cons.mp (I.stkSub b hx) with e | e
    · exact f1 e
    · exact f2 e
  obtain ⟨mC, hmC⟩ := hNs
  refine ⟨⟨I.ok.mod, ok.kind, I.ok.glob, I.ok.blt, ?_, ?_, ?_, ?_, I.ok.hd, I.ok.frames, .inl rfl, ?_, I.bs, ?_, ?_, nfs, I.stack, I.stkFree⟩, rfl, I.bare, Un.kept keep, ⟨mC, hmC, ?_⟩, ?_, I.hok.fresh (by show s2.heap.objs.size ≤ C; rw [hC]; exact Nat.le_succ _), ?_, fun p hp => absurd (show p ∈ ([] : List (Addr × Obj)) from hp) (by simp), I.hok.kept keep, ?_⟩
  · show s2.heap.objs.size ≤ C; rw [hC]; exact Nat.le_succ _
  · intro x y c h1 h2
    refine cf_inj scope.names (C + 1) (closL X.env scope.names []) (fun a b d p q => ?_) (fun a d p => ?_) x y c h1 h2
    · exact I.ok.inj a b d (closL_sub scope.names [] (ok.cells I) (fun _ _ z => by simp at z) a d p) (closL_sub scope.names [] (ok.cells I) (fun _ _ z => by simp at z) b d q)
    · have := cellOld a d (closL_sub scope.names [] (ok.cells I) (fun _ _ z => by simp at z) a d p)
      rw [hC]; exact Nat.lt_succ_of_lt (Nat.lt_succ_of_lt this)
  · intro x hx
    have go : ∀ k, (k = NameKind.cell ∨ k = NameKind.free) → (compEnvC scope (cellsC X scope C) C X.env).kindOf x = some k → ∃ c, (cellsC X scope C).lookup x = some c := fun k hk e => by
      rcases ok.kindIn e with e | ⟨_, e⟩
      · rcases hk with rfl | rfl
        · exact cf_has _ _ _ (PySem.mem_of_lookup e)
        · exact cf_keep _ _ _ (closL_has (y := (x, .free)) rfl _ _ (PySem.mem_of_lookup e))
      · exact cf_keep _ _ _ (closL_has (y := (x, .free)) rfl _ _ (PySem.mem_of_lookup e))
    rcases hx with e | e
    · exact go _ (.inl rfl) e
    · exact go _ (.inr rfl) e
  · intro x c hx h
    have hx' : scope.names.lookup x = some .cell := by simpa [cxComp] using hx
    have := cf_ge (x := x) scope.names (C + 1) (closL X.env scope.names []) (C + 1) (Nat.le_refl _) (.inl (PySem.mem_of_lookup hx')) c h
    show s2.heap.objs.size ≤ c
    exact Nat.le_trans (by rw [hC]; exact Nat.le_trans (Nat.le_succ _) (Nat.le_succ _)) this
  · intro b hb
    obtain ⟨⟨_, _, _, _, f4, _⟩, f6⟩ := hf b hb
    refine ⟨?_, fun x c h => ?_⟩
    · show b ≠ C
      rw [hC]; exact Nat.ne_of_lt (Nat.lt_succ_of_lt f6)
    · rcases cellB x c h with ⟨_, q, _⟩ | q
      · rw [hC] at q
        exact Nat.ne_of_gt (Nat.lt_of_lt_of_le f6 (Nat.le_trans (Nat.le_trans (Nat.le_succ _) (Nat.le_succ _)) q))
      · exact f4 x c q
  · exact Nat.le_trans I.ok.bsz I.sz
  · intro b o e hb
    obtain ⟨⟨_, _, _, f3, _⟩, _⟩ := hf b hb
    rcases f3 with z | z
    · exact I.ok.noex b o e z
    · exact absurd (Nat.lt_of_lt_of_le (Heap.lt_size (I.ok.bs b o e).1) z) (Nat.lt_irrefl _)
  · intro i x v h1 h2 h3
    have h2' : (List.replicate own.length (none : Option V) ++ σ)[i]? = some (some v) := h2
    have hi : own.length ≤ i := by
      apply Nat.le_of_not_lt
      intro hlt
      rw [List.getElem?_append_left (by simpa using hlt), List.getElem?_replicate] at h2'
      rw [if_pos hlt] at h2'
      cases h2'
    rw [List.getElem?_append_right (by simpa using hi), List.length_replicate] at h2'
    have h1' : (own ++ M)[i]? = some x := h1
    rw [List.getElem?_append_right hi] at h1'
    obtain ⟨n1, n2⟩ := ok.shadow x (List.mem_of_getElem? h1')
    have hfree : scope.names.lookup x = some .free ∧ ((compEnvC scope (cellsC X scope C) C X.env).kindOf x = some .cell ∨ (compEnvC scope (cellsC X scope C) C X.env).kindOf x = some .free) := by
      rcases h3 with e | e | e
      · rcases ok.kindIn (x := x) (C := C) e with q | ⟨q, _⟩
        · exact absurd q n1
        · cases q
      · rcases ok.kindIn (x := x) (C := C) e with q | ⟨_, q⟩
        · exact absurd q n2
        · exact ⟨q, .inl e⟩
      · rcases ok.kindIn (x := x) (C := C) e with q | ⟨q, _⟩
        · exact ⟨q, .inr e⟩
        · cases q
    obtain ⟨hfr, hk⟩ := hfree
    obtain ⟨m, hn, hl⟩ := I.loc
    have hkX := ok.frees (x, .free) (PySem.mem_of_lookup hfr) rfl
    have h1' := ok.same _ _ h1' hfr
    obtain ⟨u, ru, lk⟩ := hl (i - own.length) x v h1' h2' (hkX.elim (fun z => .inr (.inl z)) fun z => .inr (.inr z))
    refine ⟨u, ru, .inr ⟨hk, ?_⟩⟩
    rcases lk with ⟨k, _⟩ | ⟨_, c, ec, ic⟩
    · rcases hkX with z | z <;> (rw [k] at z; cases z)
    · obtain ⟨c', e'⟩ : ∃ c', (cellsC X scope C).lookup x = some c' := cf_keep _ _ _ (closL_has (y := (x, .free)) rfl _ _ (PySem.mem_of_lookup hfr))
      refine ⟨c', e', ?_⟩
      have := ok.cellsFrom_old I e' (by rw [hfr]; simp)
      have e2 : some c = some c' := ec.symm.trans this
      cases e2
      exact ic.keeps keep
  · intro x c h
    rcases cellB x c h with ⟨q, _⟩ | q
    · exact ⟨_, q⟩
    · obtain ⟨v, z⟩ := I.cell x c q
      exact ⟨v, z.keeps keep⟩
  · intro x c h
    rcases cellB x c h with ⟨q, q2, _⟩ | q
    · exact I.hok.fresh (by rw [hC] at q2; exact Nat.le_trans (Nat.le_trans (Nat.le_succ _) (Nat.le_succ _)) q2)
    · exact I.freeC x c q
  · show (List.replicate own.length (none : Option V) ++ σ).length = (own ++ M).length
    rw [List.length_append, List.length_append, List.length_replicate, I.len, ok.mlen]
end
end L2
set_option maxRecDepth 100000
namespace L2
open PySem PySem.Spec PyProof.Rows
section
variable {X : Cx} {scope : Scope} {own M : List Str} {pins : List (Addr × Obj)} {σ : St} {H2 : Hp} {s2 : Shared} {tg iter elt : Expr} {ifs : List Expr} {pos : Pos} {g : TG} {tt : TT} {te : TE}
theorem comp_core (ok : CompOk X scope M) (hc : X.calm = true) (hg : ∀ C s2 H2 fp, PG (cxComp X scope own M C s2 H2 fp) tg g) (ht : ∀ C s2 H2 fp, PTs (cxComp X scope own M C s2 H2 fp) ifs tt) (he : ∀ C s2 H2 fp, PE (cxComp X scope own M C s2 H2 fp) elt te)
    (I2 : Inv X pins σ H2 s2) {it : Addr} {fp : List Addr} {tn : Nat → Heap → Prop} {J : It} (T : Turn X.prog X.w X.K tg J fp it tn) (st2 : tn 0 s2.heap) (f2 : ∀ b ∈ fp, FpOk X pins H2 b)
    {W : Nat → Nat → List V → Hp → Prop} (w0 : ∃ m, W 0 m [] H2) {Qf : V → Hp → Prop}
    (turn : ∀ i m acc H, W i m acc H → (J.stop i H ∧ acc.length ≤ sizeLine ∧ ∀ D, H D = none → Qf (.ref D) (upd H D (.lst acc))) ∨
      (J.go i H ∧ acc.length < sizeLine ∧ ∀ x H', J.yld i H x H' → g x (List.replicate own.length none ++ σ) H' fun σ2 H2 => σ2.drop own.length = σ ∧ tt σ2 H2 fun c H3 =>
        if c = true then te σ2 H3 fun v H4 => ∃ m', m' < m ∧ W (i + 1) m' (acc ++ [v]) H4 else ∃ m', m' < m ∧ W (i + 1) m' acc H3))
    {RR : Value → Addr → Result → Shared → Prop} {E : Value → Shared → Prop}
    (fin : ∀ D C H' s' m, Inv X pins σ H' s' → Qf (.ref D) H' → s'.heap.Ns C m → H' C = none → C ≠ X.env.locals → X.s₀.heap.objs.size ≤ C → (∀ x c, X.env.cells.lookup x = some c → c ≠ C) → (∀ p ∈ X.pn ++ pins, p.1 ≠ C) → RR (.ref D) C (.ok .next) s') :
    wpAny (model X.prog X.w) X.A (newList []) (fun acc s3 => wpAny (model X.prog X.w) X.A (newFunctionEnv scope X.env.globals (closL X.env scope.names []) [] X.env.qual none .none (some X.env)) (fun cenv s4 =>
      codeAny (model X.prog X.w) X.A (.compStart (.ListComp elt [⟨tg, iter, ifs, 0⟩] scope pos) 0 (.ref it) acc { cenv with scope := relabel scope X.env }) (RR acc cenv.locals) s4) E s3) E s2 := by
  refine wpAny_newObj_type (newEnv_comp ?_)
  have zC : (s2.heap.push { cls := .type "list", dict := none, data := .seq ([] : List Value).toArray }).objs.size = s2.heap.objs.size + 1 := Heap.size_push ..
  dsimp only
  rw [zC]
  generalize hC : s2.heap.objs.size + 1 = C
  generalize hh : pushCells ((s2.heap.push { cls := .type "list", dict := none, data := .seq ([] : List Value).toArray }).push { cls := .type "dict", data := .dict #[] }) scope.names = h4
  have fpl : ∀ b ∈ fp, FpOk X pins H2 b ∧ b < s2.heap.objs.size := fun b hb => by
    obtain ⟨o, e, _⟩ := T.obj 0 _ st2 b hb
    exact ⟨f2 b hb, Heap.lt_size e⟩
  have I4 : Inv (cxComp X scope own M C s2 H2 fp) [] (List.replicate own.length none ++ σ) H2 { s2 with heap := h4 } := inv_comp ok hc I2 fpl hC.symm hh.symm
  generalize hX : cxComp X scope own M C s2 H2 fp = X' at I4
  have keep4 : ∀ b o, s2.heap.get? b = some o → h4.get? b = some o := fun b o e => by
    rw [← hh]; exact pushCells_keeps _ _ _ _ (Heap.get?_push_of_some _ (Heap.get?_push_of_some _ e))
  have hD4 : h4.get? s2.heap.objs.size = some { cls := .type "list", dict := none, data := .seq ([] : List Value).toArray } := by
    rw [← hh]; exact pushCells_keeps _ _ _ _ (Heap.get?_push_of_some _ (Heap.get?_push_size _ rfl))
  have st4 : tn 0 h4 := T.keep _ _ _ st2 fun b hb o e => keep4 b o e
  have gg : PG X' tg g := by rw [← hX]; exact hg C s2 H2 fp
  have gt : PTs X' ifs tt := by rw [← hX]; exact ht C s2 H2 fp
  have ge : PE X' elt te := by rw [← hX]; exact he C s2 H2 fp
  have xP : X'.prog = X.prog := by rw [← hX]; rfl
  have xw : X'.w = X.w := by rw [← hX]; rfl
  have xK : X'.K = X.K := by rw [← hX]; rfl
  have xA : X'.A = X.A := by rw [← hX]; rfl
  have xc : X'.calm = true := by rw [← hX]; exact hc
  have xpn : X'.pn = [] := by rw [← hX]; rfl
  have xs : X'.s₀ = s2 := by rw [← hX]; rfl
  have xH : X'.H₀ = H2 := by rw [← hX]; rfl
  have xL : X'.env.locals = C := by rw [← hX]; rfl
  have xfs : X'.fs = frs X.stack := by rw [← hX]; rfl
  have xex : X'.ex = fp := by rw [← hX]; rfl
  have xe : X'.xe = fun _ _ => False := by rw [← hX]; rfl
  have xenv : ({ newEnv scope C X.env.globals (cellsFrom (C + 1) scope.names (closL X.env scope.names [])) X.env.qual none .none (some X.env) builtinsNs with scope := relabel scope X.env } : Env) = X'.env := by rw [← hX]; rfl
  have Dlt : s2.heap.objs.size < C := by rw [← hC]; exact Nat.lt_succ_self _
  have fpb : ∀ {pl : List (Addr × Obj)} {H : Hp}, (∀ b ∈ fp, H b = none) → (∀ p ∈ pl, p.1 ∉ fp) → ∀ b ∈ fp, FpOk X' pl H b := fun {pl H} hn hpl b hb => by
    refine ⟨hn b hb, ?_, ?_, .inl (by rw [xex]; exact hb), fun x c e => (I4.ok.exf b (by rw [xex]; exact hb)).2 x c e, fun p hp z => ?_⟩
    · exact (I4.ok.exf b (by rw [xex]; exact hb)).1
    · exact I4.ok.exfs b (by rw [xex]; exact hb)
    · rw [xpn, List.nil_append] at hp
      exact hpl p hp (by rw [z]; exact hb)
  have Dfp : s2.heap.objs.size ∉ fp := fun z => Nat.lt_irrefl _ (fpl _ z).2
  have DC : s2.heap.objs.size ≠ C := Nat.ne_of_lt Dlt
  have Dcell : ∀ x c, X'.env.cells.lookup x = some c → c ≠ s2.heap.objs.size := fun x c e z => by
    obtain ⟨v, o, q, hd⟩ := I4.cell x c e
    rw [z] at q
    have q' : h4.get? s2.heap.objs.size = some o := q
    rw [hD4] at q'
    cases q'
    cases hd
  have Dfs : s2.heap.objs.size ∉ X'.fs := fun z => by
    obtain ⟨_, o, ho, _⟩ := I4.ok.funs.mem (by exact z)
    rw [xs] at ho
    exact Nat.lt_irrefl _ (Heap.lt_size ho)
  rw [xenv]
  have goal : ∀ s5 : Shared, s5 = { s2 with heap := h4 } → codeAny (model X.prog X.w) X.A (.compLoop (.ListComp elt [⟨tg, iter, ifs, 0⟩] scope pos) 0 (.ref it) (.ref s2.heap.objs.size) X'.env) (RR (.ref s2.heap.objs.size) C) s5 := by
    rintro s5 rfl
    obtain ⟨m0, w0⟩ := w0
    refine comp_loop (fun n s' => ∃ i acc σ' H' its k, Inv X' [] σ' H' s' ∧ σ'.drop own.length = σ ∧ tn i s'.heap ∧ (∀ b ∈ fp, H' b = none) ∧ H' s2.heap.objs.size = none ∧
      s'.heap.get? s2.heap.objs.size = some { cls := .type "list", data := .seq (List.toArray its) k } ∧ Vals acc its ∧ W i n acc H') ?_ m0
      ⟨0, [], _, H2, [], 0, I4, by simp, st4, fun b hb => (f2 b hb).1, I2.hok.fresh (Nat.le_refl _), hD4, .nil, w0⟩
    rintro n s3 ⟨i, acc, σ3, H3, its, k, I3, hσ, st3, fr3, hD, hDo, rv, w3⟩
    have pinD : ∀ {H : Hp} {s : Shared} {σ : St}, Inv X' [] σ H s → H s2.heap.objs.size = none → s.heap.get? s2.heap.objs.size = some { cls := .type "list", data := .seq (List.toArray its) k } →
        Inv X' [(s2.heap.objs.size, { cls := .type "list", data := .seq (List.toArray its) k })] σ H s := fun {H s σ} I hn ho => I.pins_of fun p hp => by
      have e : p = (s2.heap.objs.size, { cls := .type "list", data := .seq (List.toArray its) k }) := by simpa using hp
      subst e
      exact ⟨ho, hn, by rw [xL]; exact DC, Dfs, fun v z => by cases z⟩
    have plD : ∀ p ∈ [((s2.heap.objs.size, { cls := .type "list", data := .seq (List.toArray its) k }) : Addr × Obj)], p.1 ∉ fp := fun p hp => by
      have e : p = (s2.heap.objs.size, { cls := .type "list", data := .seq (List.toArray its) k }) := by simpa using hp
      subst e
      exact Dfp
    have I3' := pinD I3 hD hDo
    rcases turn i n acc H3 w3 with ⟨stop, hsz, q⟩ | ⟨go, hsz, step⟩
    · have := T.done X' xP xw xK xc i _ s3 σ3 H3 (fun _ _ => False) I3' (fpb fr3 plD) st3 stop
      rw [xA] at this
      refine thn this fun r s4 ⟨hr, I5⟩ => ?_
      subst hr
      have hDo5 := (I5.pin (s2.heap.objs.size, { cls := .type "list", data := .seq (List.toArray its) k }) (by rw [xpn]; simp)).1
      have un : Un (frs X.stack) fp H2 H3 s2.heap s4.heap := by
        have := I5.base
        rw [xfs, xex, xH, xs] at this
        exact this
      have os : s4.os = s2.os := by rw [I5.os, xs]
      have hok : HOk X.prog X.w H3 s4.heap := by have := I5.hok; rw [xP, xw] at this; exact this
      have IX : Inv X pins σ H3 s4 := I2.call' os un hok I5.bare fun b hb => by
        obtain ⟨_, f1, _, f3, f4, f5⟩ := f2 b hb
        exact ⟨f3, f1, f4, f5⟩
      have old : ∀ {b : Addr}, s2.heap.objs.size ≤ b → (X.s₀.heap.objs.size ≤ b ∧ b ≠ X.env.locals ∧ (∀ x c, X.env.cells.lookup x = some c → c ≠ b) ∧ ∀ p ∈ X.pn ++ pins, p.1 ≠ b) := fun {b} hb => by
        obtain ⟨_, f1, _, f3, f4, f5⟩ := I2.fpOk (H' := fun _ => none) hb rfl
        exact ⟨Nat.le_trans I2.sz hb, f1, f4, f5⟩
      obtain ⟨d1, d2, d3, d4⟩ := old (Nat.le_refl s2.heap.objs.size)
      obtain ⟨c1, c2, c3, c4⟩ := old (b := C) (Nat.le_of_lt Dlt)
      have IY : Inv X pins σ (upd H3 s2.heap.objs.size (.lst acc)) s4 := IX.track hD d1 d2 d3 d4 ⟨hsz, its, k, rv, hDo5⟩
      obtain ⟨m, hm, _⟩ := I5.loc
      rw [xL] at hm
      have hCn : H3 C = none := by have := I5.free; rw [xL] at this; exact this
      exact fin _ C _ s4 m IY (q _ hD) hm (by rw [upd_ne (Ne.symm DC)]; exact hCn) c2 c1 c3 c4
    · have := T.item X' xP xw xK xc i _ s3 σ3 H3 (fun _ _ => False) I3' (fpb fr3 plD) st3 go
      rw [xA] at this
      refine thn this fun r s4 ⟨u, hr, h4⟩ => ?_
      subst hr
      refine thn h4 fun _ s5 ⟨x, H5, I5, r5, y5, st5, fr5⟩ => ?_
      have hσn : ∀ (j : Nat) v, (List.replicate own.length none ++ σ)[j]? = some (some v) → σ3[j]? = some (some v) := fun j v e => by
        by_cases hlt : j < own.length
        · rw [List.getElem?_append_left (by simpa using hlt), List.getElem?_replicate, if_pos hlt] at e
          cases e
        · have hle := Nat.le_of_not_lt hlt
          rw [List.getElem?_append_right (by simpa using hle), List.length_replicate, ← hσ, List.getElem?_drop] at e
          rw [show own.length + (j - own.length) = j by lia] at e
          exact e
      have hlen : (List.replicate own.length none ++ σ).length = σ3.length := by
        have e1 : σ3.length = X'.N.length := I5.len
        have e2 := I4.len
        exact e2.trans e1.symm
      have I5w : Inv X' _ (List.replicate own.length none ++ σ) H5 s5 := I5.weak hlen hσn
      have I5p := I5w.pinned (fpb fr5 plD) (T.obj _ _ st5)
      have a1 := gg _ s5 _ H5 x u _ I5p r5 (step x H5 y5)
      rw [xP, xw, xA, xe] at a1
      refine thn a1 fun _ s6 ⟨σ6, H6, I6, d6, q6⟩ => ?_
      have a2 := gt _ s6 σ6 H6 _ I6 q6
      rw [xP, xw, xA, xe] at a2
      refine thn a2 fun b s7 ⟨H7, I7, q7⟩ => ?_
      have pin7 : ∀ {H : Hp} {s : Shared}, Inv X' ([((s2.heap.objs.size, { cls := .type "list", data := .seq (List.toArray its) k }) : Addr × Obj)] ++ pinsAt fp s5.heap) σ6 H s →
          (tn (i + 1) s.heap ∧ (∀ b ∈ fp, H b = none) ∧ H s2.heap.objs.size = none ∧ s.heap.get? s2.heap.objs.size = some { cls := .type "list", data := .seq (List.toArray its) k } ∧ Inv X' [] σ6 H s) := fun {H s} I => by
        refine ⟨T.keep _ _ _ st5 fun b hb o e => (I.pin (b, o) (List.mem_append_right _ (List.mem_append_right _ (mem_pinsAt hb e)))).1, fun b hb => ?_, ?_, ?_, I.pins_of fun p hp => by simp at hp⟩
        · obtain ⟨o, e, d⟩ := T.obj _ _ st5 b hb
          exact (I.pin (b, o) (List.mem_append_right _ (List.mem_append_right _ (mem_pinsAt hb e)))).2.1
        · exact (I.pin (s2.heap.objs.size, { cls := .type "list", data := .seq (List.toArray its) k }) (by rw [xpn]; simp)).2.1
        · exact (I.pin (s2.heap.objs.size, { cls := .type "list", data := .seq (List.toArray its) k }) (by rw [xpn]; simp)).1
      cases b with
      | false =>
        obtain ⟨p1, p2, p3, p4, p5⟩ := pin7 I7
        obtain ⟨m', hm, w7⟩ := q7
        exact ⟨m', hm, i + 1, acc, σ6, H7, its, k, p5, d6, p1, p2, p3, p4, rv, w7⟩
      | true =>
        rw [if_pos rfl] at q7 ⊢
        have a3 := ge _ s7 σ6 H7 _ I7 q7
        rw [xP, xw, xA, xe] at a3
        refine thn a3 fun y s8 ⟨v, H8, I8, r8, q8⟩ => ?_
        obtain ⟨p1, p2, p3, p4, p5⟩ := pin7 I8
        obtain ⟨m', hm, w8⟩ := q8
        have hl := rv.length
        refine wpAny_list_append_plain (items := List.toArray its) ⟨k, p4⟩ (fun h' hpl hs => ?_) (by simp; lia)
        obtain ⟨k', hpl⟩ := hpl
        have I9 : Inv X' [] σ6 H8 { s8 with heap := h' } := p5.turned (t' := s8.toks) (fun b o hb e => hs.extBut b o hb e) p3 (by rw [xL]; exact DC) (.inr (by rw [xs]; exact Nat.le_refl _)) Dcell (fun p hp => by rw [xpn] at hp; simp at hp)
        refine ⟨m', hm, i + 1, acc ++ [v], σ6, H8, its ++ [y], k', I9, d6, T.keep _ _ _ p1 fun b hb o e => hs.extBut b o (fun z => Dfp (by rw [← z]; exact hb)) e, p2, p3, ?_, rv.append (.cons r8 .nil), w8⟩
        rw [hpl]; simp
  exact codeAny_compStart_list (goal _ rfl) (T.self _ 0 _ _ _ st4 (goal _ rfl))
theorem pe_comp {wi : TI} (ok : CompOk X scope M) (hc : X.calm = true) (hi : PI X tg iter wi) (hg : ∀ C s2 H2 fp, PG (cxComp X scope own M C s2 H2 fp) tg g) (ht : ∀ C s2 H2 fp, PTs (cxComp X scope own M C s2 H2 fp) ifs tt)
    (he : ∀ C s2 H2 fp, PE (cxComp X scope own M C s2 H2 fp) elt te) (hs : ∀ x, foldedSetIterable iter X.env x = pure x := by intro _; rfl) :
    PE X (.ListComp elt [⟨tg, iter, ifs, 0⟩] scope pos) (tComp wi own.length g tt te) := by
  intro pins s σ H Q I h
  rw [eval_ListComp]
  refine wpAny_comprehension_free (use := none) rfl hs (clos_for (ok.cells I)) ok.kind (fun x hx hl => by rw [ok.uniq x hx, hl]) ?_
  refine thn (hi pins s σ H _ I h) fun v s1 h1 => thn h1 fun itv s2 h2 => ?_
  obtain ⟨it, fp, tn, J, H2, e, I2, T, st2, f2, W, w0, turn⟩ := h2
  subst e
  refine comp_core (Qf := Q) ok hc hg ht he I2 T st2 f2 w0 turn fun D C H' s' m IY q hm hCn c2 c1 c3 c4 => ⟨m, hm, fun h' hs' => ?_⟩
  exact ⟨.ref D, H', IY.turned (t' := s'.toks) (fun b o hb e => hs'.extBut b o hb e) hCn c2 (.inr c1) c3 c4, rfl, q⟩
theorem ps_setComp {wi : TI} {i : Nat} {x : Str} {pos' spos : Pos} (hN : X.N.Nodup) (hix : X.N[i]? = some x) (hx : Loc X.env.scope x) (ok : CompOk X scope M) (hc : X.calm = true) (hi : PI X tg iter wi) (hg : ∀ C s2 H2 fp, PG (cxComp X scope own M C s2 H2 fp) tg g)
    (ht : ∀ C s2 H2 fp, PTs (cxComp X scope own M C s2 H2 fp) ifs tt) (he : ∀ C s2 H2 fp, PE (cxComp X scope own M C s2 H2 fp) elt te)
    (hsw : swapsWith (.ListComp elt [⟨tg, iter, ifs, 0⟩] scope pos) (some (.Name x pos')) spos.line X.env = pure true := by rfl) (hf : X.fn x = true ∨ X.env.scope.names.lookup x = some .local := by first | exact .inl rfl | exact .inr rfl | assumption)
    (hs : ∀ x, foldedSetIterable iter X.env x = pure x := by intro _; rfl) : PS X (.Assign [.Name x pos'] (.ListComp elt [⟨tg, iter, ifs, 0⟩] scope pos) spos) (tAsg (tComp wi own.length g tt te) (gName i)) := by
  intro pins s σ H D I h
  rw [exec_Assign_Name_used _ _ _ _ hsw]
  refine wpAny_bind (wpAny_standAt (wpAny_bind ?_))
  show wpAny _ _ (do let _ ← comprehension (.ListComp elt [⟨tg, iter, ifs, 0⟩] scope pos) scope X.env _ (newList []) false (eval iter X.env) (some (assign (.Name x pos') X.env))) _ _ s
  refine wpAny_bind (thn (wpAny_comprehension_free (use := some (assign (.Name x pos') X.env)) (Q := fun _ s' => SP X pins D .next s') rfl hs (clos_for (ok.cells I)) ok.kind (fun x hx hl => by rw [ok.uniq x hx, hl]) ?_)
    fun _ s' hq => wpAny_pure (wpAny_pure hq))
  refine thn (hi pins s σ H _ I h) fun v s1 h1 => thn h1 fun itv s2 h2 => ?_
  obtain ⟨it, fp, tn, J, H2, e, I2, T, st2, f2, W, w0, turn⟩ := h2
  subst e
  refine comp_core (Qf := fun x H1 => gName i x σ H1 D.nx) ok hc hg ht he I2 T st2 f2 w0 turn fun D' C H' s' m IY q hm hCn c2 c1 c3 c4 => ?_
  show wpAny _ _ (assign (.Name x pos') X.env (.ref D')) _ _ s'
  refine wpAny_assign_Name (store_ok2 IY hN hix hx (v := .ref D') rfl (fun s'' I'' ⟨a, hsb, ha⟩ => ?_) hf)
  have hCa : C ≠ a := by
    rcases ha with z | z
    · rw [z]; exact c2
    · exact fun e => c3 x a z e.symm
  exact ⟨m, hm.sameBut hsb hCa, fun h' hs' => ⟨_, H', I''.turned (t' := s''.toks) (fun b o hb e => hs'.extBut b o hb e) hCn c2 (.inr c1) c3 c4, q⟩⟩
end
end L2
set_option maxRecDepth 100000
namespace L2
open PySem PySem.Spec PyProof.Rows
section
variable {X : Cx} {pins : List (Addr × Obj)} {σ : St} {H : Hp} {s : Shared}
theorem Inv.turnedL {t' : Nat} {h' : Heap} {ch : List Addr} (I : Inv X pins σ H s) (k : ∀ b o, b ∉ ch → s.heap.get? b = some o → h'.get? b = some o) (hf : ∀ b ∈ ch, FpOk X pins H b) : Inv X pins σ H { s with heap := h', toks := t' } := by
  have nit : ∀ b u, H b = some u → b ∉ ch := fun b u e z => by rw [(hf b z).1] at e; cases e
  refine I.step (g' := s.gens) (d' := s.drawn) (ch := ch) (fun b hb => ?_) (fun b o _ _ hc e _ => k b o hc e) (fun b o _ _ hc e _ => ⟨o.slots, k b o hc e⟩) (fun _ _ _ _ n => n)
    (fun b o hc e => ⟨o, k b o hc e⟩) (fun _ _ e => e) (fun _ _ _ e => e) (fun b ps e => ⟨#[], by rw [e]; simp⟩) (fun m hm => ?_) (fun b u e => ?_) I.bare
  · obtain ⟨_, f1, _, f3, f4, f5⟩ := hf b hb
    exact ⟨f3, f1, f4, f5⟩
  · obtain ⟨o, es, ep, ho, r⟩ := hm
    exact ⟨o, es, ep, k _ o (fun z => (hf _ z).2.1 rfl) ho, r⟩
  · refine (I.hok b u e).stay (fun c v hc q => k c v ?_ q) (fun _ q => q) (fun _ _ q => q) fun _ _ _ q => q
    rcases hc with z | z
    · rw [z]; exact nit b u e
    · exact nit c _ z
def SqB (K : PySem.W.Frag) (b : Bool) (H : Hp) (a : Addr) (xs : List V) : Prop := match b with | true => SqL K H a xs | false => SqT K H a xs
theorem Inv.seqB {b : Bool} {a : Addr} {xs : List V} (I : Inv X pins σ H s) (h : SqB X.K b H a xs) : ∃ its : List Value, Vals xs its ∧ SeqIs b s.heap a its.toArray := by
  cases b with
  | true => obtain ⟨its, r, p, _⟩ := I.list h; exact ⟨its, r, p.isList⟩
  | false => obtain ⟨its, r, p, _⟩ := I.tuple h; exact ⟨its, r, p⟩
theorem Inv.seqB_inj {b : Bool} {a : Addr} {xs ys : List V} (I : Inv X pins σ H s) (h : SqB X.K b H a xs) (h' : SqB X.K b H a ys) : xs = ys := by
  cases b with
  | true => exact I.list_inj h h'
  | false => exact I.tuple_inj h h'
theorem Inv.ne_fp {b : Bool} {a c : Addr} {xs : List V} (I : Inv X pins σ H s) (h : SqB X.K b H a xs) (hf : FpOk X pins H c) : a ≠ c := by
  have old : ∀ o, X.K.lookup a = some o → a ≠ c := fun o e z => by
    have eb := I.ok.mod.kin a o e
    rw [z] at eb
    obtain ⟨_, _, _, f3, _⟩ := hf
    rcases f3 with q | q
    · exact I.ok.noex c o eb q
    · exact absurd (Nat.lt_of_lt_of_le (Heap.lt_size (I.ok.bs c o eb).1) q) (Nat.lt_irrefl _)
  have trk : ∀ u, H a = some u → a ≠ c := fun u e => ne_of_none e hf.1
  cases b with
  | true =>
    rcases h with (h | ⟨o, h⟩) | ⟨o, _, _, hk, _⟩
    · exact trk _ h
    · exact trk _ h
    · exact old o hk
  | false =>
    rcases h with (h | ⟨o, h⟩) | ⟨o, _, _, hk, _⟩
    · exact trk _ h
    · exact trk _ h
    · exact old o hk
def Itz (K : PySem.W.Frag) (b c : Bool) (l1 l2 : Addr) : It :=
  ⟨fun i H => ∃ xs ys x y, SqB K b H l1 xs ∧ SqB K c H l2 ys ∧ xs[i]? = some x ∧ ys[i]? = some y,
   fun i H v H' => ∃ T, H T = none ∧ v = .ref T ∧ ∀ xs ys, SqB K b H l1 xs → SqB K c H l2 ys → ∃ x y, xs[i]? = some x ∧ ys[i]? = some y ∧ H' = upd H T (.tup [x, y]),
   fun i H => ∃ xs ys, SqB K b H l1 xs ∧ SqB K c H l2 ys ∧ (xs.length ≤ i ∨ ys.length ≤ i)⟩
theorem newTup {T : Addr} {x y : V} {u v : Value} {s1 : Shared} (I : Inv X pins σ H s) (I1 : Inv X pins σ H s1) (hT : s.heap.objs.size ≤ T) (hn : H T = none) (ho : s1.heap.get? T = some { cls := .type "tuple", data := .seq #[u, v] }) (rx : RelV x u) (ry : RelV y v) :
    Inv X pins σ (upd H T (.tup [x, y])) s1 := by
  obtain ⟨_, f1, _, f3, f4, f5⟩ := I.fpOk (H' := H) hT hn
  exact I1.track hn (Nat.le_trans I.sz hT) f1 f4 f5 ⟨(by show 2 ≤ sizeLine; decide), [u, v], .cons rx (.cons ry .nil), ⟨_, ho, rfl, ⟨_, rfl⟩, rfl⟩⟩
theorem turn_zip {P : Program} {w : World} {K : PySem.W.Frag} {es : List Expr} {kk : Nat} {ps : Pos} {b c : Bool} {z ti to i1 i2 l1 l2 : Addr} (D : ZApart z ti to i1 i2) :
    Turn P w K (.Tuple es kk ps) (Itz K b c l1 l2) [z, ti, to, i1, i2] z (fun i h => ZSt b c z ti to i1 i2 l1 l2 i h) where
  mem := by simp
  obj := fun i h st d hd => by
    have nc : ∀ {o : Obj} {vs : Array Value}, o.data = .fields vs → ∀ v, o.data ≠ .cell v := fun e v q => by rw [e] at q; cases q
    simp only [List.mem_cons, List.not_mem_nil, or_false] at hd
    rcases hd with rfl | rfl | rfl | rfl | rfl
    · exact ⟨_, st.z, fun v q => by cases q⟩
    · exact ⟨_, st.ti, fun v q => by cases q⟩
    · obtain ⟨u, v, e⟩ := st.to
      exact ⟨_, e, fun v q => by cases q⟩
    · obtain ⟨o, e, _, hd⟩ := st.i1.obj
      exact ⟨o, e, nc hd⟩
    · obtain ⟨o, e, _, hd⟩ := st.i2.obj
      exact ⟨o, e, nc hd⟩
  keep := fun i h h' st k => by
    obtain ⟨u, v, e⟩ := st.to
    exact ⟨k z (by simp) _ st.z, k ti (by simp) _ st.ti, ⟨u, v, k to (by simp) _ e⟩, st.i1.at fun o q => k i1 (by simp) o q, st.i2.at fun o q => k i2 (by simp) o q⟩
  item := by
    intro X hP hw hK hc i pins s σ H E I hf st hg
    subst hP hw hK
    obtain ⟨xs, ys, x, y, q1, q2, hx, hy⟩ := hg
    obtain ⟨is1, r1, p1⟩ := I.seqB q1
    obtain ⟨is2, r2, p2⟩ := I.seqB q2
    obtain ⟨u, hu, ru⟩ := r1.get hx
    obtain ⟨v, hv, rv⟩ := r2.get hy
    have hfto := hf to (by simp)
    refine next_zip D st p1 p2 (I.ne_fp q1 hfto) (I.ne_fp q2 hfto) (x := u) (y := v) (by simpa using hu) (by simpa using hv) fun h' M hT kp => ?_
    have lt : ∀ {d : Addr}, d ∈ [z, ti, to, i1, i2] → s.heap.objs.size ≠ d := fun {d} hd e => by
      obtain ⟨o, q⟩ : ∃ o, s.heap.get? d = some o := by
        simp only [List.mem_cons, List.not_mem_nil, or_false] at hd
        rcases hd with rfl | rfl | rfl | rfl | rfl
        · exact ⟨_, st.z⟩
        · exact ⟨_, st.ti⟩
        · obtain ⟨u, v, e⟩ := st.to; exact ⟨_, e⟩
        · obtain ⟨o, e, _⟩ := st.i1.obj; exact ⟨o, e⟩
        · obtain ⟨o, e, _⟩ := st.i2.obj; exact ⟨o, e⟩
      have := Heap.lt_size q
      rw [← e] at this
      exact Nat.lt_irrefl _ this
    refine ⟨_, rfl, wpAny_letOwnedTupleGo_zip (s := { s with heap := h' }) M.z fun h'' z' sb => ?_⟩
    have kp2 : ∀ d o, d ∉ [z, ti, to, i1, i2] → s.heap.get? d = some o → h''.get? d = some o := fun d o hd e => by
      simp only [List.mem_cons, List.not_mem_nil, or_false, not_or] at hd
      exact sb.extBut _ _ hd.1 (kp d o hd.1 hd.2.2.1 hd.2.2.2.1 hd.2.2.2.2 e)
    have I1 : Inv X pins σ H { s with heap := h'' } := I.turnedL (t' := s.toks) kp2 hf
    have hn : H s.heap.objs.size = none := I.hok.fresh (Nat.le_refl _)
    have I2 : Inv X pins σ (upd H s.heap.objs.size (.tup [x, y])) { s with heap := h'' } := newTup I I1 (Nat.le_refl _) hn (sb.extBut _ _ (lt (by simp)) hT) ru rv
    obtain ⟨u', v', eto⟩ := M.to
    refine ⟨.ref s.heap.objs.size, _, I2, rfl, ⟨_, hn, rfl, fun xs' ys' e1 e2 => ⟨x, y, by rw [I.seqB_inj e1 q1]; exact hx, by rw [I.seqB_inj e2 q2]; exact hy, rfl⟩⟩, ?_, fun d hd => ?_⟩
    · exact ⟨z', sb.extBut _ _ D.a1 M.ti, ⟨u', v', sb.extBut _ _ D.a2 eto⟩, M.i1.at fun o e => sb.extBut _ _ D.a3 e, M.i2.at fun o e => sb.extBut _ _ D.a4 e⟩
    · rw [upd_ne (Ne.symm (lt hd))]; exact (hf d hd).1
  done := by
    intro X hP hw hK hc i pins s σ H E I hf st hg
    subst hP hw hK
    obtain ⟨xs, ys, q1, q2, hx⟩ := hg
    obtain ⟨is1, r1, p1⟩ := I.seqB q1
    obtain ⟨is2, r2, p2⟩ := I.seqB q2
    have hfto := hf to (by simp)
    have e1 := r1.length
    have e2 := r2.length
    refine next_zip_end (I.ok.hd hc) D st p1 p2 (I.ne_fp q1 hfto) (I.ne_fp q2 hfto) (hx.imp (fun z => by simp; lia) fun z => by simp; lia) fun h' kp => ⟨rfl, I.turnedL (t' := s.toks) (fun d o hd e => ?_) hf⟩
    simp only [List.mem_cons, List.not_mem_nil, or_false, not_or] at hd
    exact kp d o hd.1 hd.2.2.1 hd.2.2.2.1 hd.2.2.2.2 e
  self := fun _ _ _ _ _ st h => wpAny_pyIter_zip st.z h
def iZip (K : PySem.W.Frag) (ta : TA) : TI := fun σ H R => ta σ H fun vs H1 => ∃ b c l1 l2 xs ys, vs = [.ref l1, .ref l2] ∧ SqB K b H1 l1 xs ∧ SqB K c H1 l2 ys ∧ R (Itz K b c l1 l2) H1
theorem pi_zip {es : List Expr} {kk : Nat} {ps : Pos} {a b : Expr} {ta : TA} {p pos : Pos} (hg : Gl X "zip") (hm : X.mg "zip" = none) (ha : PA X [a, b] ta) (hs : starEach [a, b] X.env = [(false, eval a X.env), (false, eval b X.env)] := by rfl) (hs2 : starEach [b] X.env = [(false, eval b X.env)] := by rfl) :
    PI X (.Tuple es kk ps) (.Call (.Name "zip" p) [a, b] [] pos) (iZip X.K ta) := by
  intro pins s σ H R I h
  refine Call_ (ld_blt I hg hm boot_zip (PyProof.Rows.callWith_type1 (thn (ha pos pins s σ H _ I h) fun us s1 ⟨vs, H1, I1, r1, q1⟩ => ?_) (by rw [hs, hs2]) (by rw [hs2]; rfl)))
  obtain ⟨bb, cc, l1, l2, xs, ys, e, q1, q2, q⟩ := q1
  subst e
  cases r1 with
  | cons r rr =>
    cases rr with
    | cons r' rr =>
      cases rr
      cases r
      cases r'
      obtain ⟨is1, r1, p1⟩ := I1.seqB q1
      obtain ⟨is2, r2, p2⟩ := I1.seqB q2
      refine call_zip p1 p2 fun h' z ti to i1 i2 D S new kp => wpAny_pyIter_zip S.z ?_
      exact ⟨z, [z, ti, to, i1, i2], _, _, H1, rfl, I1.kept (t' := s1.toks) kp, turn_zip D, S, fun d hd => I1.fpOk (new d hd) (I1.hok.fresh (new d hd)), q⟩
end
end L2
set_option maxRecDepth 100000
namespace L2
open PySem PySem.Spec PyProof.Rows
section
variable {X : Cx} {pins : List (Addr × Obj)} {σ : St} {H : Hp} {s : Shared}
theorem Vals.bools {us : List Value} : ∀ {bs : List Bool}, Vals (bs.map V.bl) us → us = bs.map Value.bool := by
  induction us with
  | nil => intro bs h; cases bs with | nil => rfl | cons => cases h
  | cons u us ih =>
    intro bs h
    cases bs with
    | nil => cases h
    | cons b bs =>
      cases h with
      | cons r t =>
        have e : u = Value.bool b := r
        rw [e, ih t]; rfl
theorem rng_all (bs : List Bool) : ((List.range bs.length).all fun i => (bs[i]?).getD true) = bs.all id := by
  rw [Bool.eq_iff_iff, List.all_eq_true, List.all_eq_true]
  constructor
  · intro h b hb
    obtain ⟨i, hi, e⟩ := List.mem_iff_getElem.mp hb
    have := h i (List.mem_range.mpr hi)
    rw [List.getElem?_eq_getElem hi, e] at this
    exact this
  · intro h i hi
    have hi' := List.mem_range.mp hi
    rw [List.getElem?_eq_getElem hi']
    exact h _ (List.getElem_mem hi')
theorem old_of {h h' : Heap} {o : Obj} (hk : ∀ b x, b ∉ [h.objs.size] → (h.push o).get? b = some x → h'.get? b = some x) : ∀ b x, h.get? b = some x → h'.get? b = some x :=
  fun b x e => hk b x (fun z => absurd (Heap.lt_size e) (by rw [List.mem_singleton.mp z]; exact Nat.lt_irrefl _)) (Heap.get?_push_of_some _ e)
theorem call_all (hc : X.calm = true) : CallR X (.builtin "all") (fun xs H Q => ∃ (p : Addr) (bs : List Bool), xs = [.ref p] ∧ SqL X.K H p (bs.map V.bl) ∧ Q (.bl (bs.all id)) H) := by
  intro pins s σ H xs us Q I r h
  obtain ⟨p, bs, rfl, hq, q⟩ := h
  cases r with
  | cons r rr =>
    cases rr
    cases r
    obtain ⟨its, rv, pl, _⟩ := I.list hq
    have ei := Vals.bools rv
    subst ei
    have hl := pl.isList
    have hlt : p < s.heap.objs.size := by obtain ⟨_, e, _⟩ := hl; exact Heap.lt_size e
    refine call_all_walk (wpAny_pyIter_list hl ⟨s.heap.objs.size, [s.heap.objs.size, p], [s.heap.objs.size], (bs.map Value.bool).toArray.size, _, _, fun i => (bs[i]?).getD true, rfl,
      Walks.list (A := X.A.in1) (I.ok.hd hc) _ p (Nat.ne_of_lt hlt) _, ⟨⟨_, Heap.get?_push_size _ rfl, rfl, rfl⟩, hl.push _⟩, fun i v s' Q' E' hP hQ => ?_, fun h' tk hk => ?_⟩)
    · have hP' : (bs.map Value.bool)[i]? = some v := by simpa using hP
      rw [List.getElem?_map] at hP'
      cases e : bs[i]? with
      | none => rw [e] at hP'; cases hP'
      | some b =>
        rw [e] at hP'
        have hQ' : Q' ((bs[i]?).getD true) s' := hQ
        rw [e] at hQ'
        cases hP'
        exact wpAny_truthy_bool hQ'
    · refine ⟨.bl (bs.all id), H, I.kept (old_of hk), ?_, q⟩
      show Value.bool _ = Value.bool _
      rw [List.size_toArray, List.length_map, rng_all]
theorem noFill_tup_mul : fillsNumberSlot (.type "tuple") "mul" = pure false :=
  PySem.fillsNumberSlot_seq (id := "tuple.__mul__") (r := some (.builtin "tuple.__rmul__")) F.slot_tuple_mul.lookup (by decide +kernel) F.slot_tuple_rmul.lookup (by decide +kernel)
theorem rep_tup : seqRepeat? (.type "tuple") = pure (some (.builtin "tuple.__mul__")) := by
  unfold seqRepeat?
  rw [PySem.seqSlot_of (T := "tuple") (name := "__mul__") (id := "tuple.__mul__") F.slot_tuple_mul.lookup (by decide +kernel), PySem.seqSlot_of (T := "tuple") (name := "__rmul__") (id := "tuple.__rmul__") F.slot_tuple_rmul.lookup (by decide +kernel)]
  rfl
theorem rmul_tup (a : Int) (t : Tok) (l : Addr) (o : Obj) (items : Array Value) (n : Nat) :
    Meets (Builtin.«int.__rmul__» ⟨[.int a t, .ref l], []⟩) (fun _ R s => s.heap.get? l = some o ∧ o.cls = .type "tuple" ∧ o.data = .seq items n ∧ R (.ok (.ret Value.notImplemented)) s) :=
  .of_wp fun prog w A R s h => by
    obtain ⟨hp, g, d, tk, os⟩ := s
    obtain ⟨hl, hc, hd, h⟩ := h
    obtain ⟨c, dd, dt, sl⟩ := o
    replace hc : c = .type "tuple" := hc
    replace hd : dt = .seq items n := hd
    subst hc hd
    wp_walk
    exact ⟨_, rfl, h⟩
theorem mul_tup (l : Addr) (o : Obj) (items : Array Value) (n : Nat) (k : Int) (t : Tok) (h1 : ¬ (decide (k < -(2 ^ 63)) || decide (k ≥ 2 ^ 63)) = true) (he : items.isEmpty = false) (hk1 : (k == 1) = false) (hk0 : (decide (k ≤ 0) || items.isEmpty) = false)
    (hcap : ¬ (items.size : Int) * k > (2 ^ 63 - 1) / 8) (htoo : ¬ Builtin.Tuple.tupleTooMany ((items.size : Int) * k) = true) (hz : ((List.replicate k.toNat items).foldl (· ++ ·) #[]).size ≤ sizeLine) :
    Meets (Builtin.«tuple.__mul__» ⟨[.ref l, .int k t], []⟩) (fun _ R s => s.heap.get? l = some o ∧ o.cls = .type "tuple" ∧ o.data = .seq items n ∧
      R (.ok (.ret (.ref s.heap.objs.size))) { s with heap := s.heap.push { cls := .type "tuple", data := .seq ((List.replicate k.toNat items).foldl (· ++ ·) #[]) } }) :=
  .of_wp fun prog w A R s h => by
    obtain ⟨hp, g, d, tk, os⟩ := s
    obtain ⟨hl, hc, hd, h⟩ := h
    obtain ⟨c, dd, dt, sl⟩ := o
    replace hc : c = .type "tuple" := hc
    replace hd : dt = .seq items n := hd
    subst hc hd
    wp_walk
    rw [if_neg h1]
    wp_walk
    rw [hk0, if_neg Bool.false_ne_true]
    dsimp only
    rw [if_neg hcap, if_neg htoo]
    unfold Builtin.Tuple.tupleExact
    refine wpAny_bind (wpAny_newTuple ?_)
    exact wpAny_pure ⟨_, rfl, h⟩
theorem mul_tup1 (l : Addr) (o : Obj) (items : Array Value) (n : Nat) (t : Tok) :
    Meets (Builtin.«tuple.__mul__» ⟨[.ref l, .int 1 t], []⟩) (fun _ R s => s.heap.get? l = some o ∧ o.cls = .type "tuple" ∧ o.data = .seq items n ∧ R (.ok (.ret (.ref l))) s) :=
  .of_wp fun prog w A R s h => by
    obtain ⟨hp, g, d, tk, os⟩ := s
    obtain ⟨hl, hc, hd, h⟩ := h
    obtain ⟨c, dd, dt, sl⟩ := o
    replace hc : c = .type "tuple" := hc
    replace hd : dt = .seq items n := hd
    subst hc hd
    wp_walk
    exact ⟨_, rfl, h⟩
def rRepT (K : PySem.W.Frag) : R2 := fun x y H Q => ∃ l k xs, x = .ref l ∧ y = .int k ∧ SqT K H l xs ∧ xs ≠ [] ∧ 1 ≤ k ∧ xs.length * k.toNat ≤ sizeLine ∧
  (k = 1 → Q (.ref l) H) ∧ (k ≠ 1 → ∀ p, H p = none → Q (.ref p) (upd H p (.tup (List.replicate k.toNat xs).flatten)))
theorem op_repT : OpR X (binaryOp .Mult) (rRepT X.K) := by
  intro pins s σ H x y v u Q I rx ry h
  obtain ⟨l, k, xs, rfl, rfl, hq, hne, h1, hz, q1, q2⟩ := h
  cases rx
  obtain ⟨t, rfl⟩ := ry
  obtain ⟨its, rv, ⟨o, e, hc, n, hd⟩, _⟩ := I.tuple hq
  have hlen := rv.length
  have hpos : 0 < its.length := by rw [← hlen]; exact List.length_pos_iff.mpr hne
  have tyT : s.TypeIs (.ref l) "tuple" := ⟨o, e, hc⟩
  refine wpAny_binaryOp_repeat_ref (T := "tuple") (U := "int") (by decide) tyT (fun s' => typeIs_int s' k t) noFill_tup_mul F.fills_int_mul F.slot_int_rmul rep_tup F.slot_int_index.lookup
    (call_meets F.slot_int_rmul (typeIs_int s k t) F.entry_int_rmul (F.args_int_rmul_2 _ _) (rmul_tup k t l o its.toArray n) ⟨e, hc, hd, rfl, tyT, ?_⟩)
  by_cases hk : k = 1
  · subst hk
    exact call_meets F.slot_tuple_mul tyT F.entry_tuple_mul (F.args_tuple_mul_2 _ _) (mul_tup1 l o its.toArray n t) ⟨e, hc, hd, ⟨.ref l, H, I, rfl, q1 rfl⟩⟩
  · have hk2 : (2 : Int) ≤ k := by lia
    have hnat : its.length * k.toNat ≤ sizeLine := by rw [← hlen]; exact hz
    have hprod : ((its.toArray.size : Nat) : Int) * k = ((its.length * k.toNat : Nat) : Int) := by
      rw [List.size_toArray, Int.natCast_mul, Int.toNat_of_nonneg (by lia)]
    have hsl : (sizeLine : Int) = 16777216 := by decide
    have hb : ((its.length * k.toNat : Nat) : Int) ≤ 16777216 := by rw [← hsl]; exact Int.ofNat_le.mpr hnat
    have hkle : k ≤ 16777216 := by
      have : k.toNat ≤ its.length * k.toNat := Nat.le_mul_of_pos_left _ hpos
      lia
    have hnew : List.foldl (fun x1 x2 => x1 ++ x2) #[] (List.replicate k.toNat its.toArray) = (List.replicate k.toNat its).flatten.toArray := by
      have := foldl_rep its k.toNat []
      rw [List.nil_append] at this
      exact this
    refine call_meets F.slot_tuple_mul tyT F.entry_tuple_mul (F.args_tuple_mul_2 _ _) (mul_tup l o its.toArray n k t ?_ ?_ ?_ ?_ ?_ ?_ ?_) ⟨e, hc, hd, ?_⟩
    · rw [Bool.or_eq_true, decide_eq_true_eq, decide_eq_true_eq]; lia
    · cases its with
      | nil => simp at hpos
      | cons => rfl
    · simpa using hk
    · rw [Bool.or_eq_false_iff]
      refine ⟨decide_eq_false (by lia), ?_⟩
      cases its with
      | nil => simp at hpos
      | cons => rfl
    · rw [hprod]; lia
    · unfold Builtin.Tuple.tupleTooMany
      rw [hprod, decide_eq_true_eq, hsl]; lia
    · rw [hnew, List.size_toArray, len_rep, Nat.mul_comm]; exact hnat
    · rw [hnew]
      refine ⟨.ref _, _, I.laid (o := .tup (List.replicate k.toNat xs).flatten) (t' := s.toks) (fun _ _ z => Heap.get?_push_of_some _ z) (Nat.le_refl _) ⟨by rw [len_rep, Nat.mul_comm]; exact hz, _, rv.rep k.toNat, TupP.new _ _⟩, rfl, q2 hk _ I.fresh⟩
def isTy (T : String) : V → Bool
  | .bl _ => T == "bool" || T == "int"
  | .int _ => T == "int"
  | .str _ => T == "str"
  | _ => false
def rIsi (K : PySem.W.Frag) (T : String) (x : V) (H : Hp) (Q : VK) : Prop := match x with
  | .ref a => (∃ xs, SqT K H a xs ∧ Q (.bl (T == "tuple")) H) ∨ (∃ xs, SqL K H a xs ∧ Q (.bl (T == "list")) H) ∨ (∃ kvs, H a = some (.dK kvs) ∧ Q (.bl false) H)
  | .non => Q (.bl false) H
  | .bl b => Q (.bl (isTy T (.bl b))) H
  | .int i => Q (.bl (isTy T (.int i))) H
  | .str i => Q (.bl (isTy T (.str i))) H
  | _ => False
theorem call_isi : CallR X (.builtin "isinstance") (fun xs H Q => ∃ x T, xs = [x, .ty T] ∧ (T = "bool" ∨ T = "int" ∨ T = "str" ∨ T = "tuple" ∨ T = "list") ∧ rIsi X.K T x H Q) := by
  intro pins s σ H xs us Q I r h
  obtain ⟨x, T, rfl, hT, q⟩ := h
  cases r with
  | cons r rr =>
    cases rr with
    | cons r' rr =>
      cases rr
      cases r'
      cases x with
      | non =>
        cases r
        rcases hT with rfl | rfl | rfl | rfl | rfl
        · exact IsiPair.NoneType_bool ⟨.bl false, H, I.tok _, rfl, q⟩
        · exact IsiPair.NoneType_int ⟨.bl false, H, I.tok _, rfl, q⟩
        · exact IsiPair.NoneType_str ⟨.bl false, H, I.tok _, rfl, q⟩
        · exact IsiPair.NoneType_tuple ⟨.bl false, H, I.tok _, rfl, q⟩
        · exact IsiPair.NoneType_list ⟨.bl false, H, I.tok _, rfl, q⟩
      | bl b =>
        cases r
        rcases hT with rfl | rfl | rfl | rfl | rfl
        · exact IsiPair.bool_bool ⟨.bl true, H, I, rfl, q⟩
        · exact IsiPair.bool_int ⟨.bl true, H, I, rfl, q⟩
        · exact IsiPair.bool_str ⟨.bl false, H, I.tok _, rfl, q⟩
        · exact IsiPair.bool_tuple ⟨.bl false, H, I.tok _, rfl, q⟩
        · exact IsiPair.bool_list ⟨.bl false, H, I.tok _, rfl, q⟩
      | int i =>
        obtain ⟨t, rfl⟩ := r
        rcases hT with rfl | rfl | rfl | rfl | rfl
        · exact IsiPair.int_bool ⟨.bl false, H, I.tok _, rfl, q⟩
        · exact IsiPair.int_int ⟨.bl true, H, I, rfl, q⟩
        · exact IsiPair.int_str ⟨.bl false, H, I.tok _, rfl, q⟩
        · exact IsiPair.int_tuple ⟨.bl false, H, I.tok _, rfl, q⟩
        · exact IsiPair.int_list ⟨.bl false, H, I.tok _, rfl, q⟩
      | str i =>
        obtain ⟨t, rfl⟩ := r
        rcases hT with rfl | rfl | rfl | rfl | rfl
        · exact IsiPair.str_bool ⟨.bl false, H, I.tok _, rfl, q⟩
        · exact IsiPair.str_int ⟨.bl false, H, I.tok _, rfl, q⟩
        · exact IsiPair.str_str ⟨.bl true, H, I, rfl, q⟩
        · exact IsiPair.str_tuple ⟨.bl false, H, I.tok _, rfl, q⟩
        · exact IsiPair.str_list ⟨.bl false, H, I.tok _, rfl, q⟩
      | byt _ => exact q.elim
      | flt _ => exact q.elim
      | ty _ => exact q.elim
      | ref a =>
        cases r
        rcases q with ⟨ys, hq, q⟩ | ⟨ys, hq, q⟩ | ⟨kvs, hq, q⟩
        · obtain ⟨its, rv, ⟨o, e, hc, n, hd⟩, _⟩ := I.tuple hq
          rcases hT with rfl | rfl | rfl | rfl | rfl
          · exact IsiPair.tuple_bool e hc ⟨.bl false, H, I.tok _, rfl, q⟩
          · exact IsiPair.tuple_int e hc ⟨.bl false, H, I.tok _, rfl, q⟩
          · exact IsiPair.tuple_str e hc ⟨.bl false, H, I.tok _, rfl, q⟩
          · exact IsiPair.tuple_tuple e hc ⟨.bl true, H, I, rfl, q⟩
          · exact IsiPair.tuple_list e hc ⟨.bl false, H, I.tok _, rfl, q⟩
        · obtain ⟨its, rv, ⟨o, n, e, hc, hd, hs⟩, _⟩ := I.list hq
          rcases hT with rfl | rfl | rfl | rfl | rfl
          · exact IsiPair.list_bool e hc ⟨.bl false, H, I.tok _, rfl, q⟩
          · exact IsiPair.list_int e hc ⟨.bl false, H, I.tok _, rfl, q⟩
          · exact IsiPair.list_str e hc ⟨.bl false, H, I.tok _, rfl, q⟩
          · exact IsiPair.list_tuple e hc ⟨.bl false, H, I.tok _, rfl, q⟩
          · exact IsiPair.list_list e hc ⟨.bl true, H, I, rfl, q⟩
        · obtain ⟨_, _, vs, _, p⟩ := (show ObjOk X.prog X.w H s.heap a (.dK kvs) from I.hok a _ hq)
          obtain ⟨o, es, ep, e, h2, _⟩ := p
          have hc := h2.1
          rcases hT with rfl | rfl | rfl | rfl | rfl
          · exact IsiPair.dict_bool e hc ⟨.bl false, H, I.tok _, rfl, q⟩
          · exact IsiPair.dict_int e hc ⟨.bl false, H, I.tok _, rfl, q⟩
          · exact IsiPair.dict_str e hc ⟨.bl false, H, I.tok _, rfl, q⟩
          · exact IsiPair.dict_tuple e hc ⟨.bl false, H, I.tok _, rfl, q⟩
          · exact IsiPair.dict_list e hc ⟨.bl false, H, I.tok _, rfl, q⟩
end
end L2
set_option maxRecDepth 100000
namespace L2
open PySem PySem.Spec PyProof.Rows
end L2
namespace L2
open PySem PySem.Spec PyProof.Rows
section
variable (P : Program) (w : World)
end
section
variable {P : Program} {w : World} {H H' : Hp} {h h' : Heap} {a : Addr} {o : HO}
end
section
variable {P : Program} {w : World} {H : Hp} {h h' : Heap} {x e : Addr} {o' : HO}
end
section
variable {fs fs' ex ex' : List Addr} {H H1 H2 : Hp} {h h1 h2 h' : Heap} {a x e : Addr} {o : HO}
end
end L2
namespace L2
open PySem PySem.Spec PyProof.Rows
section
variable {X : Cx} {pins : List (Addr × Obj)} {σ : List (Option V)} {H H' : Hp} {s : Shared} {h' : Heap}
end
end L2
namespace L2
open PySem PySem.Spec PyProof.Rows
section
variable {X : Cx}
variable {a b : Expr} {ta tb : TE} {pos : Pos}
variable {tA tB' : TT} {rest : List Expr}
end
end L2
namespace L2
open PySem PySem.Spec PyProof.Rows
section
variable {X : Cx} {pins : List (Addr × Obj)} {σ : St} {H : Hp} {s : Shared} {a : Addr} {xs ys : List V}
end
section
variable {X : Cx} {pins : List (Addr × Obj)} {σ : St} {H : Hp} {s : Shared} {E : Value → Shared → Prop}
end
section
variable {X : Cx} {st : Stmt} {rest : List Stmt} {t u : TS} {e : Expr} {te : TE} {pos : Pos}
end
section
variable {X : Cx} {pos : Pos}
end
section
variable {X : Cx} {pos : Pos}
end
end L2
namespace L2
open PySem PySem.Spec PyProof.Rows
section
variable {X : Cx} {tg : Expr}
end
end L2
namespace L2
open PySem PySem.Spec PyProof.Rows
section
variable {X : Cx} {a b c : Expr} {ta tb tc : TE} {pos : Pos}
end
section
variable {X : Cx} {a b c : Expr} {ta tb tc : TE} {pos : Pos}
end
end L2
namespace L2
open PySem PySem.Spec PyProof.Rows
section
variable {prog : Program} {w : World} {A : Around} {E : Value → Shared → Prop} {s : Shared} {K : PySem.W.Frag} {x dx C f : Addr} {mA : Str → Option Value} {name : Str} {v : Value}
end
section
variable {P : Program} {w : World} {H H' : Hp} {h h' : Heap} {a C dx : Addr} {fs fs' : List (Str × V)}
end
section
variable {X : Cx} {pins : List (Addr × Obj)} {σ : St} {H : Hp} {s : Shared} {a C dx : Addr} {fs : List (Str × V)} {f : Str} {v : V} {A : Around} {E : Value → Shared → Prop}
end
section
variable {X : Cx} {o e value : Expr} {f : Str} {pos pos' tpos : Pos} {ta tv : TE}
end
section
variable {X : Cx} {pins : List (Addr × Obj)} {σ : St} {H : Hp} {s : Shared} {A : Around} {E : Value → Shared → Prop} {Q : Value → Shared → Prop} {c : Value} {b : Bool}
end
end L2
namespace L2
open PySem PySem.Spec PyProof.Rows
section
variable {X : Cx} {e : Expr} {es : List Expr} {te : TE} {t : TA} {pos : Pos}
end
section
variable {X : Cx} {pins : List (Addr × Obj)} {σ : St} {H : Hp} {s s' : Shared}
end
section
variable {X : Cx} {CX : CXT} {k : Nat} {f C : Addr} {fd : FuncData} {ps : List Str} {sp : Sp} {dvs : List V} {ds : List Value} {E : XK} {x m : Str} {p pos apos : Pos} {e o : Expr} {es : List Expr} {ta : TE} {t : TA}
end
section
variable {X : Cx} {CX : CXT} {k : Nat} {f C : Addr} {fd : FuncData} {ps ks : List Str} {sp : Sp} {E : XK} {x m : Str} {p pos apos kpos : Pos} {e o : Expr} {es : List Expr} {kws : List Keyword} {te ta : TE} {t tk : TA} {nm : Option Str}
variable {g : List Value → List Value → List Value} {gV : List V → List V → List V}
end
end L2
namespace L2
open PySem PySem.Spec PyProof.Rows
section
variable {X : Cx} {x : Str} {p pos : Pos} {e : Expr} {es : List Expr} {t : TA} {id T : String} {r : List V → Hp → VK → Prop}
end
end L2
namespace L2
open PySem PySem.Spec PyProof.Rows
section
variable {κ : Type} [DecidableEq κ]
end
theorem kV_is {P : Program} {w : World} {k : Key} {u : Value} (r : RelV (kV k) u) : (mixKind P w).is k u = true := by
  cases k with
  | inl i => obtain ⟨t, e⟩ := (show ∃ t, u = Value.int i t from r); subst e; exact mixKind_int P w i t
  | inr x => obtain ⟨t, e⟩ := (show ∃ t, u = Value.str x t from r); subst e; exact mixKind_str P w x t
theorem items_are {P : Program} {w : World} : ∀ {ks : List Key} {us : List Value}, Vals (ks.map kV) us → ItemsAre (mixKind P w) ks us
  | [], _, r => by rw [List.map_nil] at r; cases r; exact .nil
  | k :: ks, _, r => by
    rw [List.map_cons] at r
    cases r with
    | cons h t => exact .cons (kV_is h) (items_are t)
section
variable {P : Program} {w : World} {H : Hp} {h : Heap} {a : Addr}
end
section
variable {X : Cx} {pins : List (Addr × Obj)} {σ : St} {H : Hp} {s : Shared} {a : Addr} {y v : V} {u r : Value} {o : Option V} {A : Around} {E : Value → Shared → Prop}
theorem Inv.big (I : Inv X pins σ H s) : sysModules < s.heap.objs.size := by
  have h : mainGlobals < s.heap.objs.size := (I.mod.glob.keeps I.bk).lt
  exact Nat.lt_trans (by decide) h
theorem d_write {h' : Heap} {t' : Nat} {ob : HO} (I : Inv X pins σ H s) (mu : Mut (H a)) (hs : Heap.SameBut a s.heap h') (he : ∃ q, h'.get? a = some q) (new : ObjOk X.prog X.w (upd H a ob) h' a ob) :
    Inv X pins σ (upd H a ob) { s with heap := h', toks := t' } :=
  I.write (x := a) (e := a) mu (.inl rfl) (fun b q hb z => (hs.2 b hb).trans z) he new
end
section
variable {X : Cx} {pins : List (Addr × Obj)} {σ : St} {H : Hp} {s : Shared} {a : Addr} {kvs : List (Key × V)} {k : Key} {u : Value} {A : Around} {E : Value → Shared → Prop}
end
def NoSl (i : Expr) : Prop := ∀ ov iv, subscripted i false ov iv = operate [ov, iv] (getItem ov iv)
theorem subD_of {prog : Program} {w : World} {A : Around} {E : Value → Shared → Prop} {s : Shared} {env : Env} {value slice : Expr} {pos : Pos} {T id : String} {Q : Value → Shared → Prop}
    (hl : typeLookup (.type T) "__getitem__" = pure (some (.builtin id))) (hs : NoSl slice)
    (h : wpAny (model prog w) A (eval value env) (fun o s₁ => wpAny (model prog w) A (eval slice env) (fun i s₂ => s₂.TypeIs o T ∧ wpAny (model prog w) A (getItem o i) Q E s₂) E s₁) E s) :
    wpAny (model prog w) A (eval (.Subscript value slice pos) env) Q E s := by
  refine Subscript_ (wpAny_mono h (fun o s₁ h₁ => wpAny_mono h₁ (fun i s₂ h₂ => ?_) fun _ _ x => x) fun _ _ x => x)
  obtain ⟨hT, h₂⟩ := h₂
  unfold subscriptTail
  refine wpAny_bind ?_
  rw [getitemInPython_of_ne hT.not_modules]
  refine wpAny_bind (wpAny_specialOf hT hl ?_)
  have fin : wpAny (model prog w) A (subscripted slice false o i) (fun r s₃ => wpAny (model prog w) A (letTemporaryGo value o r >>= fun _ => pure r) Q E s₃) E s₂ := by
    rw [hs o i]
    exact wpAny_operating (wpAny_mono h₂ (fun r s₃ h₃ => wpAny_bind (wpAny_letTemporaryGo (wpAny_pure h₃))) fun _ _ x => x)
  first
    | exact wpAny_pure (wpAny_bind fin)
    | exact wpAny_bind (wpAny_pure (wpAny_bind fin))
    | exact wpAny_bind fin
section
variable {X : Cx} {o i e value : Expr} {pos pos' tpos : Pos} {td ty tv : TE}
end
section
variable {X : Cx} {pos : Pos}
end
section
variable {X : Cx} {pins : List (Addr × Obj)} {σ : St} {H : Hp} {s : Shared} {a : Addr} {y d : V} {u r : Value} {o : Option V} {A : Around} {E : Value → Shared → Prop}
end
section
variable {X : Cx} {o e f : Expr} {apos cpos : Pos} {td ty tx : TE}
end
section
variable {X : Cx} {pins : List (Addr × Obj)} {σ : St} {H : Hp} {s : Shared} {a : Addr} {kvs : List (Key × V)} {A : Around} {E : Value → Shared → Prop}
end
section
variable {X : Cx} {pins : List (Addr × Obj)} {σ : St} {H : Hp} {s : Shared} {a : Addr} {y : V} {u : Value} {A : Around} {E : Value → Shared → Prop}
end
end L2
namespace Att
open PySem PySem.W PySem.Calls PyProof.Rows
section
variable {prog : Program} {w : World} {A : Around} {E : Value → Shared → Prop} {s : Shared} {K : Frag}
end
end Att
namespace L2
open PySem PySem.Spec PyProof.Rows
end L2
namespace L2
open PySem PySem.Spec PyProof.Rows
end L2
namespace L2
open PySem PySem.Spec PyProof.Rows
section
variable {P : Program} {w : World} {K : PySem.W.Frag} {mg : Str → Option Value} {base : Heap}
end
section
variable {X : Cx}
end
section
variable {κ : Type} [DecidableEq κ]
end
end L2
set_option maxRecDepth 100000
namespace L2
open PySem PySem.Spec PyProof.Rows
section
variable {prog : Program} {w : World} {A : Around} {R : Result → Shared → Prop} {s : Shared}
end
section
variable {X : Cx} {scope : Scope} {own M : List Str} {pins : List (Addr × Obj)} {σ : St} {H2 : Hp} {s2 : Shared} {fp : List Addr}
theorem inv_compD {o0 : Obj} (ok : CompOk X scope M) (hc : X.calm = true) (I : Inv X pins σ H2 s2) (hf : ∀ b ∈ fp, FpOk X pins H2 b ∧ b < s2.heap.objs.size) {C : Addr} (hC : C = s2.heap.objs.size + 1) {h4 : Heap}
    (hh : h4 = pushCells ((s2.heap.push o0).push { cls := .type "dict", data := .dict #[] }) scope.names) :
    Inv (cxComp X scope own M C s2 H2 fp) [] (List.replicate own.length none ++ σ) H2 { s2 with heap := h4 } := by
  have zC : (s2.heap.push o0).objs.size = C := by rw [Heap.size_push, hC]
  have zC1 : ((s2.heap.push o0).push { cls := .type "dict", data := .dict #[] }).objs.size = C + 1 := by rw [Heap.size_push, zC]
  have keep : ∀ b o, s2.heap.get? b = some o → h4.get? b = some o := fun b o e => by
    rw [hh]; exact pushCells_keeps _ _ _ _ (Heap.get?_push_of_some _ (Heap.get?_push_of_some _ e))
  have cellOld : ∀ x c, X.env.cells.lookup x = some c → c < s2.heap.objs.size := fun x c e => by obtain ⟨v, q⟩ := I.cell x c e; exact q.lt
  have cellB : ∀ x c, (cellsC X scope C).lookup x = some c → (h4.IsCell c none ∧ C + 1 ≤ c ∧ scope.names.lookup x = some .cell) ∨ X.env.cells.lookup x = some c := fun x c e => by
    by_cases hx : scope.names.lookup x = some .cell
    · have e' := e
      unfold cellsC at e'
      rw [← zC1] at e'
      rcases cf_all _ _ _ x c e' with ⟨a, b, d⟩ | q
      · exact .inl ⟨by rw [hh]; exact a, by rw [zC1] at b; exact b, hx⟩
      · exact .inr (closL_sub scope.names [] (ok.cells I) (fun _ _ z => by simp at z) x c q)
    · exact .inr (ok.cellsFrom_old I e hx)
  have hNs : ∃ m, h4.Ns C m := by
    have q : ((s2.heap.push o0).push { cls := .type "dict", data := .dict #[] }).Ns C (fun _ => none) := by
      have := Heap.Ns.new (s2.heap.push o0) (.type "dict")
      rw [zC] at this
      exact this
    exact ⟨_, q.keeps fun b o e => by rw [hh]; exact pushCells_keeps _ _ _ _ e⟩
  have nfs : ∀ b ∈ fp, b ∉ frs X.stack := fun b hb hx => by
    obtain ⟨⟨_, f1, f2, _⟩, _⟩ := hf b hb
    rcases List.mem_cons.mp (I.stkSub b hx) with e | e
    · exact f1 e
    · exact f2 e
  obtain ⟨mC, hmC⟩ := hNs
  refine ⟨⟨I.ok.mod, ok.kind, I.ok.glob, I.ok.blt, ?_, ?_, ?_, ?_, I.ok.hd, I.ok.frames, .inl rfl, ?_, I.bs, ?_, ?_, nfs, I.stack, I.stkFree⟩, rfl, I.bare, Un.kept keep, ⟨mC, hmC, ?_⟩, ?_, I.hok.fresh (by show s2.heap.objs.size ≤ C; rw [hC]; exact Nat.le_succ _), ?_, fun p hp => absurd (show p ∈ ([] : List (Addr × Obj)) from hp) (by simp), I.hok.kept keep, ?_⟩
  · show s2.heap.objs.size ≤ C; rw [hC]; exact Nat.le_succ _
  · intro x y c h1 h2
    refine cf_inj scope.names (C + 1) (closL X.env scope.names []) (fun a b d p q => ?_) (fun a d p => ?_) x y c h1 h2
    · exact I.ok.inj a b d (closL_sub scope.names [] (ok.cells I) (fun _ _ z => by simp at z) a d p) (closL_sub scope.names [] (ok.cells I) (fun _ _ z => by simp at z) b d q)
    · have := cellOld a d (closL_sub scope.names [] (ok.cells I) (fun _ _ z => by simp at z) a d p)
      rw [hC]; exact Nat.lt_succ_of_lt (Nat.lt_succ_of_lt this)
  · intro x hx
    have go : ∀ k, (k = NameKind.cell ∨ k = NameKind.free) → (compEnvC scope (cellsC X scope C) C X.env).kindOf x = some k → ∃ c, (cellsC X scope C).lookup x = some c := fun k hk e => by
      rcases ok.kindIn e with e | ⟨_, e⟩
      · rcases hk with rfl | rfl
        · exact cf_has _ _ _ (PySem.mem_of_lookup e)
        · exact cf_keep _ _ _ (closL_has (y := (x, .free)) rfl _ _ (PySem.mem_of_lookup e))
      · exact cf_keep _ _ _ (closL_has (y := (x, .free)) rfl _ _ (PySem.mem_of_lookup e))
    rcases hx with e | e
    · exact go _ (.inl rfl) e
    · exact go _ (.inr rfl) e
  · intro x c hx h
    have hx' : scope.names.lookup x = some .cell := by simpa [cxComp] using hx
    have := cf_ge (x := x) scope.names (C + 1) (closL X.env scope.names []) (C + 1) (Nat.le_refl _) (.inl (PySem.mem_of_lookup hx')) c h
    show s2.heap.objs.size ≤ c
    exact Nat.le_trans (by rw [hC]; exact Nat.le_trans (Nat.le_succ _) (Nat.le_succ _)) this
  · intro b hb
    obtain ⟨⟨_, _, _, _, f4, _⟩, f6⟩ := hf b hb
    refine ⟨?_, fun x c h => ?_⟩
    · show b ≠ C
      rw [hC]; exact Nat.ne_of_lt (Nat.lt_succ_of_lt f6)
    · rcases cellB x c h with ⟨_, q, _⟩ | q
      · rw [hC] at q
        exact Nat.ne_of_gt (Nat.lt_of_lt_of_le f6 (Nat.le_trans (Nat.le_trans (Nat.le_succ _) (Nat.le_succ _)) q))
      · exact f4 x c q
  · exact Nat.le_trans I.ok.bsz I.sz
  · intro b o e hb
    obtain ⟨⟨_, _, _, f3, _⟩, _⟩ := hf b hb
    rcases f3 with z | z
    · exact I.ok.noex b o e z
    · exact absurd (Nat.lt_of_lt_of_le (Heap.lt_size (I.ok.bs b o e).1) z) (Nat.lt_irrefl _)
  · intro i x v h1 h2 h3
    have h2' : (List.replicate own.length (none : Option V) ++ σ)[i]? = some (some v) := h2
    have hi : own.length ≤ i := by
      apply Nat.le_of_not_lt
      intro hlt
      rw [List.getElem?_append_left (by simpa using hlt), List.getElem?_replicate] at h2'
      rw [if_pos hlt] at h2'
      cases h2'
    rw [List.getElem?_append_right (by simpa using hi), List.length_replicate] at h2'
    have h1' : (own ++ M)[i]? = some x := h1
    rw [List.getElem?_append_right hi] at h1'
    obtain ⟨n1, n2⟩ := ok.shadow x (List.mem_of_getElem? h1')
    have hfree : scope.names.lookup x = some .free ∧ ((compEnvC scope (cellsC X scope C) C X.env).kindOf x = some .cell ∨ (compEnvC scope (cellsC X scope C) C X.env).kindOf x = some .free) := by
      rcases h3 with e | e | e
      · rcases ok.kindIn (x := x) (C := C) e with q | ⟨q, _⟩
        · exact absurd q n1
        · cases q
      · rcases ok.kindIn (x := x) (C := C) e with q | ⟨_, q⟩
        · exact absurd q n2
        · exact ⟨q, .inl e⟩
      · rcases ok.kindIn (x := x) (C := C) e with q | ⟨q, _⟩
        · exact ⟨q, .inr e⟩
        · cases q
    obtain ⟨hfr, hk⟩ := hfree
    obtain ⟨m, hn, hl⟩ := I.loc
    have hkX := ok.frees (x, .free) (PySem.mem_of_lookup hfr) rfl
    have h1' := ok.same _ _ h1' hfr
    obtain ⟨u, ru, lk⟩ := hl (i - own.length) x v h1' h2' (hkX.elim (fun z => .inr (.inl z)) fun z => .inr (.inr z))
    refine ⟨u, ru, .inr ⟨hk, ?_⟩⟩
    rcases lk with ⟨k, _⟩ | ⟨_, c, ec, ic⟩
    · rcases hkX with z | z <;> (rw [k] at z; cases z)
    · obtain ⟨c', e'⟩ : ∃ c', (cellsC X scope C).lookup x = some c' := cf_keep _ _ _ (closL_has (y := (x, .free)) rfl _ _ (PySem.mem_of_lookup hfr))
      refine ⟨c', e', ?_⟩
      have := ok.cellsFrom_old I e' (by rw [hfr]; simp)
      have e2 : some c = some c' := ec.symm.trans this
      cases e2
      exact ic.keeps keep
  · intro x c h
    rcases cellB x c h with ⟨q, _⟩ | q
    · exact ⟨_, q⟩
    · obtain ⟨v, z⟩ := I.cell x c q
      exact ⟨v, z.keeps keep⟩
  · intro x c h
    rcases cellB x c h with ⟨q, q2, _⟩ | q
    · exact I.hok.fresh (by rw [hC] at q2; exact Nat.le_trans (Nat.le_trans (Nat.le_succ _) (Nat.le_succ _)) q2)
    · exact I.freeC x c q
  · show (List.replicate own.length (none : Option V) ++ σ).length = (own ++ M).length
    rw [List.length_append, List.length_append, List.length_replicate, I.len, ok.mlen]
end
section
variable {X : Cx} {scope : Scope} {own M : List Str} {pins : List (Addr × Obj)} {σ : St} {H2 : Hp} {s2 : Shared} {tg iter kx vx : Expr} {ifs : List Expr} {pos : Pos} {g : TG} {tt : TT} {tk tv : TE}
end
end L2
set_option maxRecDepth 100000
namespace L2
open PySem PySem.Spec PyProof.Rows
inductive D where
  | non | bl (b : Bool) | int (i : Int) | str (x : Str) | ty (n : String) | tup (ds : List D) | lst (ds : List D)
  /-- a list that is known and stays -/
  | fz (ds : List D)
  /-- the list that the drawing keeps -/
  | st
  /-- a list of the frame's own (in a slot alone) -/
  | own (ds : List D)
  /-- a dict, whatever it holds -/
  | dic
  /-- a dict, known, that stays -/
  | dct (ks : List Key) (ds : List D)
  /-- an instance of the class at C that stays: its attributes -/
  | ob (C : Addr) (ns : List Str) (ds : List D)
  /-- a memo -/
  | mem (F : List Int → List Int → Prop)
  /-- an instance at p that is being made (in a slot alone) -/
  | oi (p C : Addr) (ns : List Str) (ds : List D)
def kvsV (ks : List Key) (xs : List V) : List (Key × V) := List.zipWith (fun k x => (k, x)) ks xs
def attrs (ns : List Str) (xs : List V) : List (Str × V) := List.zipWith (fun n x => (n, x)) ns xs
abbrev hNone : Hp := fun _ => none
def SqZ (K : PySem.W.Frag) (Z : Addr → Prop) (H : Hp) (b : Bool) (a : Addr) (xs : List V) : Prop :=
  match b with
  | true => ¬ Z a ∧ H a = some (.lst xs)
  | false => (¬ Z a ∧ Rd H a (.tup xs)) ∨ SqT K hNone a xs
def SqF (K : PySem.W.Frag) (Z : Addr → Prop) (H : Hp) (a : Addr) (xs : List V) : Prop := (¬ Z a ∧ ∃ o, H a = some (.frz o (.lst xs))) ∨ SqL K hNone a xs
def cInt (K : PySem.W.Frag) (q : Addr) (k : List Int) : Prop := SqT K hNone q (k.map V.int)
mutual
def Rep (K : PySem.W.Frag) (G : Option Addr) (Z : Addr → Prop) (H : Hp) : D → V → Prop
  | .non, v => v = .non
  | .bl b, v => v = .bl b
  | .int i, v => v = .int i
  | .str x, v => v = .str x
  | .ty n, v => v = .ty n
  | .tup ds, v => ∃ a xs, v = .ref a ∧ SqZ K Z H false a xs ∧ Reps K G Z H ds xs
  | .lst ds, v => ∃ a xs, v = .ref a ∧ SqZ K Z H true a xs ∧ Reps K G Z H ds xs
  | .fz ds, v => ∃ a xs, v = .ref a ∧ SqF K Z H a xs ∧ Reps K G Z H ds xs
  | .st, v => ∃ a, G = some a ∧ v = .ref a
  | .own _, _ => False
  | .dic, v => ∃ a kvs, v = .ref a ∧ ¬ Z a ∧ H a = some (.dK kvs)
  | .dct ks ds, v => ∃ a xs, v = .ref a ∧ (¬ Z a ∧ H a = some (.dK (kvsV ks xs))) ∧ Reps K G Z H ds xs
  | .ob C ns ds, v => ∃ p dx xs, v = .ref p ∧ (¬ Z p ∧ H p = some (.ins C dx (attrs ns xs))) ∧ ns.length = xs.length ∧ Reps K G Z H ds xs
  | .mem F, v => ∃ p, v = .ref p ∧ ¬ Z p ∧ H p = some (.mem (cInt K) F [])
  | .oi _ _ _ _, _ => False
def Reps (K : PySem.W.Frag) (G : Option Addr) (Z : Addr → Prop) (H : Hp) : List D → List V → Prop
  | [], vs => vs = []
  | d :: ds, vs => ∃ v r, vs = v :: r ∧ Rep K G Z H d v ∧ Reps K G Z H ds r
end
section
variable {K : PySem.W.Frag} {G : Option Addr} {Z Z' : Addr → Prop} {H H' : Hp}
theorem SqT.anyH {a : Addr} {xs : List V} (h : SqT K hNone a xs) : SqT K H a xs := by
  rcases h with (h | ⟨o, h⟩) | h
  · cases h
  · cases h
  · exact .inr h
theorem SqZ.sq {b : Bool} {a : Addr} {xs : List V} (h : SqZ K Z H b a xs) : SqB K b H a xs := by
  cases b with
  | true => exact SqL.of h.2
  | false =>
    rcases h with ⟨_, h⟩ | h
    · exact .inl h
    · exact SqT.anyH h
theorem SqZ.mono {b : Bool} {a : Addr} {xs : List V} (h : SqZ K Z H b a xs) (hz : ∀ a, H a ≠ none → Z' a → Z a) (hf : ∀ a o, ¬ Z a → H a = some o → H' a = some o) : SqZ K Z' H' b a xs := by
  cases b with
  | true => exact ⟨fun z => h.1 (hz a (by rw [h.2]; simp) z), hf a _ h.1 h.2⟩
  | false =>
    rcases h with ⟨n, h⟩ | h
    · refine .inl ⟨fun z => n (hz a ?_ z), ?_⟩
      · rcases h with h | ⟨o, h⟩ <;> (rw [h]; simp)
      · rcases h with h | ⟨o, h⟩
        · exact .inl (hf a _ n h)
        · exact .inr ⟨o, hf a _ n h⟩
    · exact .inr h
mutual
theorem Rep.mono (hz : ∀ a, H a ≠ none → Z' a → Z a) (hf : ∀ a o, ¬ Z a → H a = some o → H' a = some o) : ∀ (d : D) (v : V), Rep K G Z H d v → Rep K G Z' H' d v
  | .non, v, h => by unfold Rep at h ⊢; exact h
  | .bl b, v, h => by unfold Rep at h ⊢; exact h
  | .int b, v, h => by unfold Rep at h ⊢; exact h
  | .str b, v, h => by unfold Rep at h ⊢; exact h
  | .ty b, v, h => by unfold Rep at h ⊢; exact h
  | .st, v, h => by unfold Rep at h ⊢; exact h
  | .own _, v, h => by unfold Rep at h; exact h.elim
  | .dic, v, h => by
    unfold Rep at h ⊢
    obtain ⟨a, kvs, e, n, q⟩ := h
    exact ⟨a, kvs, e, fun z => n (hz a (by rw [q]; simp) z), hf a _ n q⟩
  | .dct ks ds, v, h => by
    unfold Rep at h ⊢
    obtain ⟨a, xs, e, ⟨n, q⟩, r⟩ := h
    exact ⟨a, xs, e, ⟨fun z => n (hz a (by rw [q]; simp) z), hf a _ n q⟩, Reps.mono hz hf ds xs r⟩
  | .ob C ns ds, v, h => by
    unfold Rep at h ⊢
    obtain ⟨a, dx, xs, e, ⟨n, q⟩, l, r⟩ := h
    exact ⟨a, dx, xs, e, ⟨fun z => n (hz a (by rw [q]; simp) z), hf a _ n q⟩, l, Reps.mono hz hf ds xs r⟩
  | .mem F, v, h => by
    unfold Rep at h ⊢
    obtain ⟨a, e, n, q⟩ := h
    exact ⟨a, e, fun z => n (hz a (by rw [q]; simp) z), hf a _ n q⟩
  | .oi _ _ _ _, v, h => by unfold Rep at h; exact h.elim
  | .tup ds, v, h => by
    unfold Rep at h ⊢
    obtain ⟨a, xs, e, q, r⟩ := h
    exact ⟨a, xs, e, q.mono hz hf, Reps.mono hz hf ds xs r⟩
  | .lst ds, v, h => by
    unfold Rep at h ⊢
    obtain ⟨a, xs, e, q, r⟩ := h
    exact ⟨a, xs, e, q.mono hz hf, Reps.mono hz hf ds xs r⟩
  | .fz ds, v, h => by
    unfold Rep at h ⊢
    obtain ⟨a, xs, e, q, r⟩ := h
    refine ⟨a, xs, e, ?_, Reps.mono hz hf ds xs r⟩
    rcases q with ⟨n, o, q⟩ | q
    · exact .inl ⟨fun z => n (hz a (by rw [q]; simp) z), o, hf a _ n q⟩
    · exact .inr q
theorem Reps.mono (hz : ∀ a, H a ≠ none → Z' a → Z a) (hf : ∀ a o, ¬ Z a → H a = some o → H' a = some o) : ∀ (ds : List D) (vs : List V), Reps K G Z H ds vs → Reps K G Z' H' ds vs
  | [], vs, h => by unfold Reps at h ⊢; exact h
  | d :: ds, vs, h => by
    unfold Reps at h ⊢
    obtain ⟨v, r, e, q, t⟩ := h
    exact ⟨v, r, e, Rep.mono hz hf d v q, Reps.mono hz hf ds r t⟩
end
theorem Reps.nil : Reps K G Z H [] [] := by unfold Reps; rfl
theorem Reps.cons {d : D} {ds : List D} {v : V} {vs : List V} (h : Rep K G Z H d v) (t : Reps K G Z H ds vs) : Reps K G Z H (d :: ds) (v :: vs) := by unfold Reps; exact ⟨v, vs, rfl, h, t⟩
theorem Reps.inv {d : D} {ds : List D} {v : V} {vs : List V} (h : Reps K G Z H (d :: ds) (v :: vs)) : Rep K G Z H d v ∧ Reps K G Z H ds vs := by
  unfold Reps at h
  obtain ⟨v', r, e, q, t⟩ := h
  cases e
  exact ⟨q, t⟩
theorem Reps.split {d : D} {ds : List D} {vs : List V} (h : Reps K G Z H (d :: ds) vs) : ∃ v r, vs = v :: r ∧ Rep K G Z H d v ∧ Reps K G Z H ds r := by unfold Reps at h; exact h
theorem Reps.nil_inv {vs : List V} (h : Reps K G Z H [] vs) : vs = [] := by unfold Reps at h; exact h
theorem Reps.length : ∀ {ds : List D} {vs : List V}, Reps K G Z H ds vs → vs.length = ds.length
  | [], vs, h => by rw [h.nil_inv]; rfl
  | d :: ds, vs, h => by
    obtain ⟨v, r, rfl, _, t⟩ := h.split
    rw [List.length_cons, List.length_cons, Reps.length t]
theorem Reps.get : ∀ {ds : List D} {vs : List V} {i : Nat} {d : D}, Reps K G Z H ds vs → ds[i]? = some d → ∃ v, vs[i]? = some v ∧ Rep K G Z H d v
  | [], vs, i, d, _, e => by simp at e
  | c :: ds, vs, 0, d, h, e => by
    obtain ⟨v, r, rfl, q, t⟩ := h.split
    simp at e; subst e
    exact ⟨v, rfl, q⟩
  | c :: ds, vs, i + 1, d, h, e => by
    obtain ⟨v, r, rfl, q, t⟩ := h.split
    obtain ⟨u, e1, e2⟩ := Reps.get (i := i) t (by simpa using e)
    exact ⟨u, by simpa using e1, e2⟩
theorem Reps.append : ∀ {ds es : List D} {vs ws : List V}, Reps K G Z H ds vs → Reps K G Z H es ws → Reps K G Z H (ds ++ es) (vs ++ ws)
  | [], es, vs, ws, h, h' => by rw [h.nil_inv]; exact h'
  | d :: ds, es, vs, ws, h, h' => by
    obtain ⟨v, r, rfl, q, t⟩ := h.split
    exact .cons q (Reps.append t h')
theorem Reps.drop : ∀ {ds : List D} {vs : List V} (n : Nat), Reps K G Z H ds vs → Reps K G Z H (ds.drop n) (vs.drop n)
  | ds, vs, 0, h => h
  | [], vs, n + 1, h => by rw [h.nil_inv]; exact .nil
  | d :: ds, vs, n + 1, h => by
    obtain ⟨v, r, rfl, q, t⟩ := h.split
    exact Reps.drop n t
theorem Reps.take : ∀ {ds : List D} {vs : List V} (n : Nat), Reps K G Z H ds vs → Reps K G Z H (ds.take n) (vs.take n)
  | ds, vs, 0, h => .nil
  | [], vs, n + 1, h => by rw [h.nil_inv]; exact .nil
  | d :: ds, vs, n + 1, h => by
    obtain ⟨v, r, rfl, q, t⟩ := h.split
    exact .cons q (Reps.take n t)
theorem Reps.flatRep {ds : List D} {vs : List V} (h : Reps K G Z H ds vs) : ∀ k : Nat, Reps K G Z H (List.replicate k ds).flatten (List.replicate k vs).flatten
  | 0 => .nil
  | k + 1 => by
    rw [List.replicate_succ, List.replicate_succ, List.flatten_cons, List.flatten_cons]
    exact h.append (Reps.flatRep h k)
end
def scalD : D → Bool
  | .non => true | .bl _ => true | .int _ => true | .str _ => true | .ty _ => true | _ => false
def ofS : D → V
  | .bl b => .bl b | .int i => .int i | .str x => .str x | .ty n => .ty n | _ => .non
theorem Rep.ofS {K : PySem.W.Frag} {G : Option Addr} {Z : Addr → Prop} {H : Hp} : ∀ {d : D}, scalD d = true → Rep K G Z H d (ofS d)
  | .non, _ => by unfold Rep; rfl
  | .bl b, _ => by unfold Rep; rfl
  | .int b, _ => by unfold Rep; rfl
  | .str b, _ => by unfold Rep; rfl
  | .ty b, _ => by unfold Rep; rfl
  | .tup ds, h => by simp [scalD] at h
  | .lst ds, h => by simp [scalD] at h
  | .st, h => by simp [scalD] at h
  | .fz ds, h => by simp [scalD] at h
  | .own ds, h => by simp [scalD] at h
  | .ob _ _ _, h => by simp [scalD] at h
  | .mem _, h => by simp [scalD] at h
  | .oi _ _ _ _, h => by simp [scalD] at h
theorem Rep.toS {K : PySem.W.Frag} {G : Option Addr} {Z : Addr → Prop} {H : Hp} {v : V} : ∀ {d : D}, scalD d = true → Rep K G Z H d v → v = L2.ofS d
  | .non, _, h => by unfold Rep at h; exact h
  | .bl b, _, h => by unfold Rep at h; exact h
  | .int b, _, h => by unfold Rep at h; exact h
  | .str b, _, h => by unfold Rep at h; exact h
  | .ty b, _, h => by unfold Rep at h; exact h
  | .tup ds, h, _ => by simp [scalD] at h
  | .lst ds, h, _ => by simp [scalD] at h
  | .st, h, _ => by simp [scalD] at h
  | .fz ds, h, _ => by simp [scalD] at h
  | .own ds, h, _ => by simp [scalD] at h
  | .ob _ _ _, h, _ => by simp [scalD] at h
  | .mem _, h, _ => by simp [scalD] at h
  | .oi _ _ _ _, h, _ => by simp [scalD] at h
theorem Rep.int_inv {K : PySem.W.Frag} {G : Option Addr} {Z : Addr → Prop} {H : Hp} {v : V} {i : Int} (h : Rep K G Z H (.int i) v) : v = .int i := by unfold Rep at h; exact h
theorem Rep.bl_inv {K : PySem.W.Frag} {G : Option Addr} {Z : Addr → Prop} {H : Hp} {v : V} {i : Bool} (h : Rep K G Z H (.bl i) v) : v = .bl i := by unfold Rep at h; exact h
theorem Rep.tup_inv {K : PySem.W.Frag} {G : Option Addr} {Z : Addr → Prop} {H : Hp} {v : V} {ds : List D} (h : Rep K G Z H (.tup ds) v) : ∃ a xs, v = .ref a ∧ SqZ K Z H false a xs ∧ Reps K G Z H ds xs := by unfold Rep at h; exact h
theorem Rep.lst_inv {K : PySem.W.Frag} {G : Option Addr} {Z : Addr → Prop} {H : Hp} {v : V} {ds : List D} (h : Rep K G Z H (.lst ds) v) : ∃ a xs, v = .ref a ∧ SqZ K Z H true a xs ∧ Reps K G Z H ds xs := by unfold Rep at h; exact h
theorem Rep.fz_inv {K : PySem.W.Frag} {G : Option Addr} {Z : Addr → Prop} {H : Hp} {v : V} {ds : List D} (h : Rep K G Z H (.fz ds) v) : ∃ a xs, v = .ref a ∧ SqL K H a xs ∧ Reps K G Z H ds xs := by
  unfold Rep at h
  obtain ⟨a, xs, e, q, r⟩ := h
  refine ⟨a, xs, e, ?_, r⟩
  rcases q with ⟨_, o, q⟩ | q
  · exact .inl (.inr ⟨o, q⟩)
  · rcases q with (q | ⟨o, q⟩) | q
    · cases q
    · cases q
    · exact .inr q
theorem Rep.tup_mk {K : PySem.W.Frag} {G : Option Addr} {Z : Addr → Prop} {H : Hp} {a : Addr} {xs : List V} {ds : List D} (q : SqZ K Z H false a xs) (r : Reps K G Z H ds xs) : Rep K G Z H (.tup ds) (.ref a) := by unfold Rep; exact ⟨a, xs, rfl, q, r⟩
theorem Rep.lst_mk {K : PySem.W.Frag} {G : Option Addr} {Z : Addr → Prop} {H : Hp} {a : Addr} {xs : List V} {ds : List D} (q : SqZ K Z H true a xs) (r : Reps K G Z H ds xs) : Rep K G Z H (.lst ds) (.ref a) := by unfold Rep; exact ⟨a, xs, rfl, q, r⟩
def StOk (G : Option Addr) (n : Nat) (H : Hp) : Prop := ∀ a, G = some a → ∃ (zs : List Int) (_ _ : Nat), H a = some (.lst (zs.map V.int)) ∧ zs.length = n ∧ (∀ x ∈ zs, 0 ≤ x) ∧ ∀ x, zs[1]? = some x → x < 2147483647
structure AC where
  K : PySem.W.Frag
  G : Option Addr
  Z0 : Addr → Prop
  H0 : Hp
abbrev Rho := List (Option D)
def Zof (A : AC) (os : List (Nat × Addr)) : Addr → Prop := fun a => A.Z0 a ∨ ∃ p ∈ os, p.2 = a
def SlotR (A : AC) (os : List (Nat × Addr)) (H : Hp) (i : Nat) : D → V → Prop
  | .own ds, v => ∃ a xs, v = .ref a ∧ (i, a) ∈ os ∧ H a = some (.lst xs) ∧ Reps A.K A.G (Zof A os) H ds xs
  | .oi p C ns ds, v => ∃ dx xs, v = .ref p ∧ (i, p) ∈ os ∧ H p = some (.ins C dx (attrs ns xs)) ∧ ns.length = xs.length ∧ Reps A.K A.G (Zof A os) H ds xs
  | d, v => Rep A.K A.G (Zof A os) H d v
def Hot (o : Option HO) : Prop := ∃ u, o = some u ∧ (∀ ys, u ≠ .tup ys) ∧ ∀ q v, u ≠ .frz q v
theorem Hot.ne {o : Option HO} (h : Hot o) : o ≠ none := by obtain ⟨u, e, _⟩ := h; rw [e]; simp
theorem Hot.lst {xs : List V} : Hot (some (.lst xs)) := ⟨_, rfl, (fun _ z => by cases z), fun _ _ z => by cases z⟩
theorem Hot.ins {C dx : Addr} {fs : List (Str × V)} : Hot (some (.ins C dx fs)) := ⟨_, rfl, (fun _ z => by cases z), fun _ _ z => by cases z⟩
theorem Hot.of {o o' : Option HO} (h : Hot o) (f : ∀ u, o = some u → o' = some u) : Hot o' := let ⟨u, e, t⟩ := h; ⟨u, f u e, t⟩
structure AmO (A : AC) (os : List (Nat × Addr)) (n : Nat) (rho : Rho) (sg : St) (H : Hp) (ds : List D) (vs : List V) : Prop where
  len : rho.length = sg.length
  slot : ∀ i d, rho[i]? = some (some d) → ∃ v, sg[i]? = some (some v) ∧ SlotR A os H i d v
  pend : Reps A.K A.G (Zof A os) H ds vs
  nd : os.Pairwise fun p q => p.1 ≠ q.1 ∧ p.2 ≠ q.2
  fresh : ∀ p ∈ os, A.H0 p.2 = none ∧ ¬ A.Z0 p.2 ∧ Hot (H p.2)
  st : StOk A.G n H
  gz : ∀ a, A.G = some a → A.Z0 a
  fr : ∀ a o, A.G ≠ some a → A.H0 a = some o → H a = some o
  z0 : ∀ a, A.Z0 a → Hot (A.H0 a)
def Am (A : AC) (n : Nat) (rho : Rho) (sg : St) (H : Hp) (ds : List D) (vs : List V) : Prop := ∃ os, AmO A os n rho sg H ds vs
section
variable {A : AC} {os : List (Nat × Addr)} {n : Nat} {rho : Rho} {sg : St} {H : Hp} {ds : List D} {vs : List V} {d : D} {v : V}
theorem AmO.zHot (I : AmO A os n rho sg H ds vs) : ∀ a, Zof A os a → Hot (H a) := fun a h => by
  rcases h with h | ⟨p, hp, rfl⟩
  · by_cases e : A.G = some a
    · obtain ⟨x, y, z, q, _⟩ := I.st a e
      rw [q]; exact Hot.lst
    · exact (I.z0 a h).of fun o q => I.fr a o e q
  · exact (I.fresh p hp).2.2
theorem AmO.zH (I : AmO A os n rho sg H ds vs) : ∀ a, Zof A os a → H a ≠ none := fun a h => (I.zHot a h).ne
theorem SlotR.mono {os' : List (Nat × Addr)} {H' : Hp} {i : Nat} (hz : ∀ a, H a ≠ none → Zof A os' a → Zof A os a) (hf : ∀ a o, ¬ Zof A os a → H a = some o → H' a = some o)
    (ho : ∀ a xs, (i, a) ∈ os → H a = some xs → (i, a) ∈ os' ∧ H' a = some xs) : ∀ (d : D) (v : V), SlotR A os H i d v → SlotR A os' H' i d v
  | .own ds, v, h => by
    obtain ⟨a, xs, e, m, q, r⟩ := h
    obtain ⟨m', q'⟩ := ho a _ m q
    exact ⟨a, xs, e, m', q', Reps.mono hz hf ds xs r⟩
  | .oi p C ns ds, v, h => by
    obtain ⟨dx, xs, e, m, q, l, r⟩ := h
    obtain ⟨m', q'⟩ := ho p _ m q
    exact ⟨dx, xs, e, m', q', l, Reps.mono hz hf ds xs r⟩
  | .non, v, h => Rep.mono hz hf _ _ h
  | .bl _, v, h => Rep.mono hz hf _ _ h
  | .int _, v, h => Rep.mono hz hf _ _ h
  | .str _, v, h => Rep.mono hz hf _ _ h
  | .ty _, v, h => Rep.mono hz hf _ _ h
  | .tup _, v, h => Rep.mono hz hf _ _ h
  | .lst _, v, h => Rep.mono hz hf _ _ h
  | .st, v, h => Rep.mono hz hf _ _ h
  | .fz _, v, h => Rep.mono hz hf _ _ h
  | .dic, v, h => Rep.mono hz hf _ _ h
  | .dct _ _, v, h => Rep.mono hz hf _ _ h
  | .ob _ _ _, v, h => Rep.mono hz hf _ _ h
  | .mem _, v, h => Rep.mono hz hf _ _ h
def notOwn : D → Bool
  | .own _ => false
  | .oi _ _ _ _ => false
  | _ => true
theorem SlotR.rep {i : Nat} : ∀ {d : D} {v : V}, notOwn d = true → SlotR A os H i d v → Rep A.K A.G (Zof A os) H d v
  | .own _, _, h, _ => by simp [notOwn] at h
  | .oi _ _ _ _, _, h, _ => by simp [notOwn] at h
  | .non, _, _, h => h
  | .bl _, _, _, h => h
  | .int _, _, _, h => h
  | .str _, _, _, h => h
  | .ty _, _, _, h => h
  | .tup _, _, _, h => h
  | .lst _, _, _, h => h
  | .st, _, _, h => h
  | .fz _, _, _, h => h
  | .dic, _, _, h => h
  | .dct _ _, _, _, h => h
  | .ob _ _ _, _, _, h => h
  | .mem _, _, _, h => h
theorem SlotR.of {i : Nat} : ∀ {d : D} {v : V}, Rep A.K A.G (Zof A os) H d v → SlotR A os H i d v
  | .own _, _, h => by unfold Rep at h; exact h.elim
  | .oi _ _ _ _, _, h => by unfold Rep at h; exact h.elim
  | .non, _, h => h
  | .bl _, _, h => h
  | .int _, _, h => h
  | .str _, _, h => h
  | .ty _, _, h => h
  | .tup _, _, h => h
  | .lst _, _, h => h
  | .st, _, h => h
  | .fz _, _, h => h
  | .dic, _, h => h
  | .dct _ _, _, h => h
  | .ob _ _ _, _, h => h
  | .mem _, _, h => h
theorem AmO.push (I : AmO A os n rho sg H ds vs) (h : Rep A.K A.G (Zof A os) H d v) : AmO A os n rho sg H (d :: ds) (v :: vs) :=
  ⟨I.len, I.slot, .cons h I.pend, I.nd, I.fresh, I.st, I.gz, I.fr, I.z0⟩
theorem AmO.pends {es : List D} {ws : List V} (I : AmO A os n rho sg H ds vs) (h : Reps A.K A.G (Zof A os) H es ws) : AmO A os n rho sg H es ws :=
  ⟨I.len, I.slot, h, I.nd, I.fresh, I.st, I.gz, I.fr, I.z0⟩
theorem AmO.pop (I : AmO A os n rho sg H (d :: ds) (v :: vs)) : AmO A os n rho sg H ds vs ∧ Rep A.K A.G (Zof A os) H d v := ⟨I.pends I.pend.inv.2, I.pend.inv.1⟩
theorem AmO.grow {p : Addr} {o : HO} (I : AmO A os n rho sg H ds vs) (hp : H p = none) : AmO A os n rho sg (upd H p o) ds vs := by
  have hf : ∀ a u, H a = some u → upd H p o a = some u := fun a u e => by rw [upd_ne (ne_of_none e hp)]; exact e
  refine ⟨I.len, fun i d e => ?_, Reps.mono (fun _ _ z => z) (fun a u _ e => hf a u e) _ _ I.pend, I.nd, fun q hq => ?_, fun a e => ?_, I.gz, fun a u h e => hf a u (I.fr a u h e), I.z0⟩
  · obtain ⟨v, e1, e2⟩ := I.slot i d e
    exact ⟨v, e1, SlotR.mono (fun _ _ z => z) (fun a u _ e => hf a u e) (fun a xs m q => ⟨m, hf a _ q⟩) _ _ e2⟩
  · obtain ⟨f1, f2, f3⟩ := I.fresh q hq
    exact ⟨f1, f2, f3.of fun u e => hf _ _ e⟩
  · obtain ⟨x, y, z, q, r⟩ := I.st a e
    exact ⟨x, y, z, hf _ _ q, r⟩
theorem AmO.newTup {p : Addr} {es : List D} {xs : List V} (I : AmO A os n rho sg H ds vs) (r : Reps A.K A.G (Zof A os) H es xs) (hp : H p = none) : AmO A os n rho sg (upd H p (.tup xs)) (.tup es :: ds) (.ref p :: vs) := by
  have g := I.grow (o := .tup xs) hp
  refine g.push (.tup_mk (.inl ⟨fun z => I.zH p z hp, .inl upd_same⟩) ?_)
  exact Reps.mono (fun _ _ z => z) (fun a u _ e => by rw [upd_ne (ne_of_none e hp)]; exact e) _ _ r
theorem AmO.newLst {p : Addr} {es : List D} {xs : List V} (I : AmO A os n rho sg H ds vs) (r : Reps A.K A.G (Zof A os) H es xs) (hp : H p = none) : AmO A os n rho sg (upd H p (.lst xs)) (.lst es :: ds) (.ref p :: vs) := by
  have g := I.grow (o := .lst xs) hp
  refine g.push (.lst_mk ⟨fun z => I.zH p z hp, upd_same⟩ ?_)
  exact Reps.mono (fun _ _ z => z) (fun a u _ e => by rw [upd_ne (ne_of_none e hp)]; exact e) _ _ r
theorem AmO.set {i : Nat} (I : AmO A os n rho sg H (d :: ds) (v :: vs)) (hi : i < rho.length) : AmO A (os.filter fun p => decide (p.1 ≠ i)) n (rho.set i (some d)) (sg.set i (some v)) H ds vs := by
  obtain ⟨J, hr⟩ := I.pop
  have sub : ∀ a, H a ≠ none → Zof A (os.filter fun p => decide (p.1 ≠ i)) a → Zof A os a := fun a _ z => by
    rcases z with z | ⟨p, hp, e⟩
    · exact .inl z
    · exact .inr ⟨p, (List.mem_filter.mp hp).1, e⟩
  refine ⟨by simp [I.len], fun j c e => ?_, Reps.mono sub (fun _ _ _ e => e) _ _ J.pend, I.nd.filter _, fun p hp => I.fresh p (List.mem_filter.mp hp).1, I.st, I.gz, I.fr, I.z0⟩
  by_cases hj : j = i
  · subst hj
    rw [List.getElem?_set_self hi] at e
    cases e
    exact ⟨v, List.getElem?_set_self (by rw [← I.len]; exact hi), SlotR.of (Rep.mono sub (fun _ _ _ e => e) _ _ hr)⟩
  · rw [List.getElem?_set_ne (Ne.symm hj)] at e
    obtain ⟨u, e1, e2⟩ := I.slot j c e
    exact ⟨u, by rw [List.getElem?_set_ne (Ne.symm hj)]; exact e1, SlotR.mono sub (fun _ _ _ e => e) (fun a xs m q => ⟨List.mem_filter.mpr ⟨m, by simpa using hj⟩, q⟩) _ _ e2⟩
end
abbrev TD := Rho → Nat → (D → Nat → Prop) → Prop
abbrev TBD := Rho → Nat → (Bool → Nat → Prop) → Prop
abbrev TAD := Rho → Nat → (List D → Nat → Prop) → Prop
def tOf (A : AC) (t : TD) : TE := fun sg H Q => ∃ rho n P ds vs, Am A n rho sg H ds vs ∧ t rho n P ∧ ∀ v H' n' d, Am A n' rho sg H' (d :: ds) (v :: vs) → P d n' → Q v H'
def ttOf (A : AC) (t : TBD) : TT := fun sg H Q => ∃ rho n P ds vs, Am A n rho sg H ds vs ∧ t rho n P ∧ ∀ b H' n', Am A n' rho sg H' ds vs → P b n' → Q b H'
def taOf (A : AC) (t : TAD) : TA := fun sg H Q => ∃ rho n P ds vs, Am A n rho sg H ds vs ∧ t rho n P ∧ ∀ ws H' n' es, Am A n' rho sg H' (es ++ ds) (ws ++ vs) → ws.length = es.length → P es n' → Q ws H'
@[irreducible] def PD (A : AC) (X : Cx) (e : Expr) (t : TD) : Prop := PE X e (tOf A t)
@[irreducible] def PTD (A : AC) (X : Cx) (e : Expr) (t : TBD) : Prop := PT X e (ttOf A t)
@[irreducible] def PWD (A : AC) (X : Cx) (e : Expr) (t : TBD) : Prop := PW X e (ttOf A t)
@[irreducible] def PAD (A : AC) (X : Cx) (es : List Expr) (t : TAD) : Prop := PA X es (taOf A t)
theorem PE.imp {X : Cx} {e : Expr} {t t' : TE} (h : PE X e t) (hi : ∀ sg H Q, t' sg H Q → t sg H Q) : PE X e t' := fun pins s sg H Q I q => h pins s sg H Q I (hi _ _ _ q)
theorem PT.imp {X : Cx} {e : Expr} {t t' : TT} (h : PT X e t) (hi : ∀ sg H Q, t' sg H Q → t sg H Q) : PT X e t' := fun pins s sg H Q I q => h pins s sg H Q I (hi _ _ _ q)
theorem PW.imp {X : Cx} {e : Expr} {t t' : TT} (h : PW X e t) (hi : ∀ sg H Q, t' sg H Q → t sg H Q) : PW X e t' := fun wh pins s sg H Q I q => h wh pins s sg H Q I (hi _ _ _ q)
theorem PA.imp {X : Cx} {e : List Expr} {t t' : TA} (h : PA X e t) (hi : ∀ sg H Q, t' sg H Q → t sg H Q) : PA X e t' := fun ps pins s sg H Q I q => h ps pins s sg H Q I (hi _ _ _ q)
theorem PS.imp {X : Cx} {e : Stmt} {t t' : TS} (h : PS X e t) (hi : ∀ E sg H, t' E sg H → t E sg H) : PS X e t' := fun pins s sg H Q I q => h pins s sg H Q I (hi _ _ _ q)
theorem PSs.imp {X : Cx} {e : List Stmt} {t t' : TS} (h : PSs X e t) (hi : ∀ E sg H, t' E sg H → t E sg H) : PSs X e t' := fun pins s sg H Q I q => h pins s sg H Q I (hi _ _ _ q)
end L2
set_option maxRecDepth 100000
namespace L2
open PySem PySem.Spec PyProof.Rows
section
variable {A : AC} {X : Cx} {a b c e : Expr} {es : List Expr} {ta tb tc : TD} {pos : Pos}
def atD (d : D) (k : D → Prop) : Prop := match d with
  | .own _ => False
  | .oi _ _ _ _ => False
  | .non => k .non
  | .bl b => k (.bl b)
  | .int b => k (.int b)
  | .str b => k (.str b)
  | .ty b => k (.ty b)
  | .tup b => k (.tup b)
  | .lst b => k (.lst b)
  | .fz b => k (.fz b)
  | .st => k .st
  | .dic => k .dic
  | .dct a b => k (.dct a b)
  | .ob a b c => k (.ob a b c)
  | .mem a => k (.mem a)
theorem atD_inv {d : D} {k : D → Prop} (h : atD d k) : notOwn d = true ∧ k d := by
  cases d <;> first | exact ⟨rfl, h⟩ | exact h.elim
theorem atD_mk {d : D} {k : D → Prop} (h : notOwn d = true) (q : k d) : atD d k := by
  cases d <;> first | exact q | (simp [notOwn] at h; done)
def atV (o : Option (Option D)) (k : D → Prop) : Prop := match o with | some (some d) => atD d k | _ => False
theorem atV_inv {o : Option (Option D)} {k : D → Prop} (h : atV o k) : ∃ d, o = some (some d) ∧ notOwn d = true ∧ k d := by
  match o, h with
  | some (some d), h => exact ⟨d, rfl, atD_inv h⟩
def dVar (i : Nat) : TD := fun rho n P => atV rho[i]? fun d => P d n
def dC (d : D) : TD := fun _ n P => P d n
theorem pd_var (i : Nat) {x : Str} (hN : X.N[i]? = some x := by rfl) (hv : Vis X.env.scope x := by first | exact Or.inl rfl | exact Or.inr (Or.inl rfl) | exact Or.inr (Or.inr rfl)) (hd : (x == ("__debug__" : Str)) = false := by decide)
    (hcd : (x == ("__classdict__" : Str)) = false := by decide) : PD A X (.Name x pos) (dVar i) := by
  with_unfolding_all
    exact (pe_var hN hv hd hcd).imp fun sg H Q h => by
      obtain ⟨rho, n, P, ds, vs, ⟨os, I⟩, hh, hQ⟩ := h
      obtain ⟨d, e, hd, q⟩ := atV_inv hh
      obtain ⟨v, e1, e2⟩ := I.slot i d e
      exact ⟨v, e1, hQ v H n d ⟨os, I.push (e2.rep hd)⟩ q⟩
theorem dC_ok {d : D} (hs : scalD d = true) {t : TE} (ht : ∀ sg H Q, Q (ofS d) H → t sg H Q) (h : PE X e t) : PD A X e (dC d) := by
  with_unfolding_all
    exact h.imp fun sg H Q q => by
      obtain ⟨rho, n, P, ds, vs, ⟨os, I⟩, q, hQ⟩ := q
      exact ht _ _ _ (hQ _ H n d ⟨os, I.push (Rep.ofS hs)⟩ q)
theorem pd_int {i : Int} {j : Nat} : PD A X (.Constant (.int i) j pos) (dC (.int i)) := by
  with_unfolding_all
    exact dC_ok rfl (fun _ _ _ q => q) pe_int
theorem pd_bl {i : Bool} {j : Nat} : PD A X (.Constant (.bool i) j pos) (dC (.bl i)) := by
  with_unfolding_all
    exact dC_ok rfl (fun _ _ _ q => q) pe_bl
theorem pd_non {j : Nat} : PD A X (.Constant .none j pos) (dC .non) := by
  with_unfolding_all
    exact dC_ok rfl (fun _ _ _ q => q) pe_non
theorem pd_str {x : Str} {j : Nat} : PD A X (.Constant (.str x) j pos) (dC (.str x)) := by
  with_unfolding_all
    exact dC_ok rfl (fun _ _ _ q => q) pe_str
theorem pd_ty {x : Str} {T : String} (hg : Gl X x := by rfl) (hm : X.mg x = none) (hv : bootBuiltins x = some (.type T)) (hn : x ≠ "__name__" := by decide) (hd : (x == ("__debug__" : Str)) = false := by decide) : PD A X (.Name x pos) (dC (.ty T)) := by
  with_unfolding_all
    exact 
      dC_ok rfl (fun _ _ _ q => q) (pe_bltn hg hm hv (v := .ty T) rfl hn hd)
abbrev RD2 := D → D → (D → Prop) → Prop
def OpRel (A : AC) (r : R2) (rd : RD2) : Prop :=
  ∀ os n rho sg H ds vs d1 d2 v1 v2 (k : D → Prop) (Q : VK), AmO A os n rho sg H (d2 :: d1 :: ds) (v2 :: v1 :: vs) → rd d1 d2 k → (∀ v H' d, Am A n rho sg H' (d :: ds) (v :: vs) → k d → Q v H') → r v1 v2 H Q
def dOp (rd : RD2) (ta tb : TD) : TD := fun rho n P => ta rho n fun d1 n1 => tb rho n1 fun d2 n2 => rd d1 d2 fun d => P d n2
def dTest (t : TD) : TBD := fun rho n P => t rho n fun d n' => ∃ b, d = .bl b ∧ P b n'
theorem tOp_of {r : R2} {rd : RD2} (hr : OpRel A r rd) {sg : St} {H : Hp} {Q : VK} (h : tOf A (dOp rd ta tb) sg H Q) : tOp r (tOf A ta) (tOf A tb) sg H Q := by
  obtain ⟨rho, n, P, ds, vs, I, ht, hQ⟩ := h
  exact ⟨rho, n, _, ds, vs, I, ht, fun v1 H1 n1 d1 I1 h1 => ⟨rho, n1, _, d1 :: ds, v1 :: vs, I1, h1, fun v2 H2 n2 d2 ⟨os2, I2⟩ h2 => hr _ _ _ _ _ _ _ _ _ _ _ _ Q I2 h2 fun v H' d J k => hQ v H' n2 d J k⟩⟩
theorem tTest_of {t : TE} {td : TD} (h : ∀ sg H Q, tOf A td sg H Q → t sg H Q) {sg : St} {H : Hp} {Q : Bool → Hp → Prop} (q : ttOf A (dTest td) sg H Q) : tTest t sg H Q := by
  obtain ⟨rho, n, P, ds, vs, I, ht, hQ⟩ := q
  refine h _ _ _ ⟨rho, n, _, ds, vs, I, ht, fun v H' n' d ⟨os, J⟩ k => ?_⟩
  obtain ⟨b, rfl, k⟩ := k
  obtain ⟨J1, r⟩ := J.pop
  exact ⟨b, r.bl_inv, hQ b H' n' ⟨os, J1⟩ k⟩
theorem pd_op {op : Operator} {r : R2} {rd : RD2} (ho : OpR X (binaryOp op) r) (hr : OpRel A r rd) (ha : PD A X a ta) (hb : PD A X b tb) : PD A X (.BinOp a op b pos) (dOp rd ta tb) := by
  with_unfolding_all
    exact (pe_op ho ha hb).imp fun _ _ _ => tOp_of hr
theorem pd_cmp {op : CmpOp} {r : R2} {rd : RD2} (ho : OpR X (compareOp op) r) (hr : OpRel A r rd) (ha : PD A X a ta) (hb : PD A X b tb) (hm : behindInMarks op b = false) : PD A X (.Compare a [op] [b] pos) (dOp rd ta tb) := by
  with_unfolding_all
    exact (pe_cmpR ho ha hb hm).imp fun _ _ _ => tOp_of hr
theorem ptd_cmp {op : CmpOp} {r : R2} {rd : RD2} (ho : OpR X (compareOp op) r) (hr : OpRel A r rd) (ha : PD A X a ta) (hb : PD A X b tb) (hm : behindInMarks op b = false) : PTD A X (.Compare a [op] [b] pos) (dTest (dOp rd ta tb)) := by
  with_unfolding_all
    exact 
      (pt_cmpR ho ha hb hm).imp fun _ _ _ => tTest_of fun _ _ _ => tOp_of hr
theorem pd_ix {r : R2} {rd : RD2} (hi : IxR X r) (hr : OpRel A r rd) (ha : PD A X a ta) (hb : PD A X b tb) (hs : PlainIx b) : PD A X (.Subscript a b pos) (dOp rd ta tb) := by
  with_unfolding_all
    exact (pe_ix hi ha hb hs).imp fun _ _ _ => tOp_of hr
theorem ptd_val (ha : PD A X a ta) (he : ∀ whole, isTrue a X.env whole = (do let v ← whole; standAt a.pos; holding [v] (truthy v)) := by intro _; rfl) : PTD A X a (dTest ta) := by
  with_unfolding_all
    exact (pt_val ha he).imp fun _ _ _ => tTest_of fun _ _ _ q => q
def rdI (C : Int → Int → Prop) (g : Int → Int → D) : RD2 := fun d1 d2 k => match d1, d2 with | .int i, .int j => C i j ∧ k (g i j) | _, _ => False
theorem rdI_inv {C : Int → Int → Prop} {g : Int → Int → D} {d1 d2 : D} {k : D → Prop} (h : rdI C g d1 d2 k) : ∃ i j, d1 = .int i ∧ d2 = .int j ∧ C i j ∧ k (g i j) := by
  unfold rdI at h
  split at h
  · exact ⟨_, _, rfl, rfl, h⟩
  · exact h.elim
def rdI0 (g : Int → Int → D) : RD2 := fun d1 d2 k => match d1, d2 with | .int i, .int j => k (g i j) | _, _ => False
theorem rdI0_inv {g : Int → Int → D} {d1 d2 : D} {k : D → Prop} (h : rdI0 g d1 d2 k) : ∃ i j, d1 = .int i ∧ d2 = .int j ∧ k (g i j) := by
  unfold rdI0 at h
  split at h
  · exact ⟨_, _, rfl, rfl, h⟩
  · exact h.elim
theorem rel_I {C : Int → Int → Prop} {g : Int → Int → V} {gd : Int → Int → D} (hs : ∀ i j, scalD (gd i j) = true) (hg : ∀ i j, ofS (gd i j) = g i j) : OpRel A (rI C g) (rdI C gd) := by
  rintro os n rho sg H ds vs d1 d2 v1 v2 k Q I hh hQ
  obtain ⟨i, j, rfl, rfl, hc, q⟩ := rdI_inv hh
  obtain ⟨I1, r2⟩ := I.pop
  obtain ⟨I2, r1⟩ := I1.pop
  exact ⟨i, j, r1.int_inv, r2.int_inv, hc, hQ _ H _ ⟨os, I2.push (by rw [← hg]; exact Rep.ofS (hs i j))⟩ q⟩
theorem rel_I0 {g : Int → Int → V} {gd : Int → Int → D} (hs : ∀ i j, scalD (gd i j) = true) (hg : ∀ i j, ofS (gd i j) = g i j) : OpRel A (rI0 g) (rdI0 gd) := by
  rintro os n rho sg H ds vs d1 d2 v1 v2 k Q I hh hQ
  obtain ⟨i, j, rfl, rfl, q⟩ := rdI0_inv hh
  obtain ⟨I1, r2⟩ := I.pop
  obtain ⟨I2, r1⟩ := I1.pop
  exact ⟨i, j, r1.int_inv, r2.int_inv, hQ _ H _ ⟨os, I2.push (by rw [← hg]; exact Rep.ofS (hs i j))⟩ q⟩
abbrev dAdd : TD → TD → TD := dOp (rdI0 fun i j => .int (i + j))
abbrev dSub : TD → TD → TD := dOp (rdI0 fun i j => .int (i - j))
abbrev dMul : TD → TD → TD := dOp (rdI CMul fun i j => .int (i * j))
abbrev dMod : TD → TD → TD := dOp (rdI (fun _ j => 0 < j) fun i j => .int (i % j))
abbrev dDiv : TD → TD → TD := dOp (rdI CDiv fun i j => .int (i / j))
abbrev dPow : TD → TD → TD := dOp (rdI CPow fun i j => .int (i ^ j.toNat))
theorem pd_add (ha : PD A X a ta) (hb : PD A X b tb) : PD A X (.BinOp a .Add b pos) (dAdd ta tb) := by
  with_unfolding_all
    exact pd_op op_add (rel_I0 (fun _ _ => rfl) fun _ _ => rfl) ha hb
theorem pd_sub (ha : PD A X a ta) (hb : PD A X b tb) : PD A X (.BinOp a .Sub b pos) (dSub ta tb) := by
  with_unfolding_all
    exact pd_op op_sub (rel_I0 (fun _ _ => rfl) fun _ _ => rfl) ha hb
theorem pd_mul (ha : PD A X a ta) (hb : PD A X b tb) : PD A X (.BinOp a .Mult b pos) (dMul ta tb) := by
  with_unfolding_all
    exact pd_op op_mul (rel_I (fun _ _ => rfl) fun _ _ => rfl) ha hb
theorem pd_mod (ha : PD A X a ta) (hb : PD A X b tb) : PD A X (.BinOp a .Mod b pos) (dMod ta tb) := by
  with_unfolding_all
    exact pd_op op_mod (rel_I (fun _ _ => rfl) fun _ _ => rfl) ha hb
theorem pd_div (ha : PD A X a ta) (hb : PD A X b tb) : PD A X (.BinOp a .FloorDiv b pos) (dDiv ta tb) := by
  with_unfolding_all
    exact pd_op op_fdiv (rel_I (fun _ _ => rfl) fun _ _ => rfl) ha hb
theorem pd_pow (ha : PD A X a ta) (hb : PD A X b tb) : PD A X (.BinOp a .Pow b pos) (dPow ta tb) := by
  with_unfolding_all
    exact pd_op op_pow (rel_I (fun _ _ => rfl) fun _ _ => rfl) ha hb
abbrev rdLt : RD2 := rdI0 fun i j => .bl (decide (i < j))
abbrev rdGt : RD2 := rdI0 fun i j => .bl (decide (j < i))
abbrev rdGe : RD2 := rdI0 fun i j => .bl (decide (j ≤ i))
theorem re_lt : OpRel A (rI0 fun i j => .bl (decide (i < j))) rdLt := rel_I0 (g := fun i j => .bl (decide (i < j))) (fun _ _ => rfl) fun _ _ => rfl
theorem re_gt : OpRel A (rI0 fun i j => .bl (decide (j < i))) rdGt := rel_I0 (g := fun i j => .bl (decide (j < i))) (fun _ _ => rfl) fun _ _ => rfl
theorem re_ge : OpRel A (rI0 fun i j => .bl (decide (j ≤ i))) rdGe := rel_I0 (g := fun i j => .bl (decide (j ≤ i))) (fun _ _ => rfl) fun _ _ => rfl
def rdEq : RD2 := fun d1 d2 k => scalD d1 = true ∧ scalD d2 = true ∧ scal (ofS d1) (ofS d2) = true ∧ k (.bl (decide (ofS d1 = ofS d2)))
def rdNe : RD2 := fun d1 d2 k => scalD d1 = true ∧ scalD d2 = true ∧ scal (ofS d1) (ofS d2) = true ∧ k (.bl (!decide (ofS d1 = ofS d2)))
theorem re_eq : OpRel A rEq rdEq := by
  rintro os n rho sg H ds vs d1 d2 v1 v2 k Q I ⟨h1, h2, h3, q⟩ hQ
  obtain ⟨I1, r2⟩ := I.pop
  obtain ⟨I2, r1⟩ := I1.pop
  rw [r1.toS h1, r2.toS h2]
  exact ⟨h3, hQ _ H _ ⟨os, I2.push (Rep.ofS rfl)⟩ q⟩
theorem re_ne : OpRel A rNe rdNe := by
  rintro os n rho sg H ds vs d1 d2 v1 v2 k Q I ⟨h1, h2, h3, q⟩ hQ
  obtain ⟨I1, r2⟩ := I.pop
  obtain ⟨I2, r1⟩ := I1.pop
  rw [r1.toS h1, r2.toS h2]
  exact ⟨h3, hQ _ H _ ⟨os, I2.push (Rep.ofS rfl)⟩ q⟩
def isNon : D → Bool
  | .non => true
  | _ => false
theorem Rep.non_iff {K : PySem.W.Frag} {G : Option Addr} {Z : Addr → Prop} {H : Hp} {v : V} : ∀ {d : D}, Rep K G Z H d v → decide (v = .non) = isNon d
  | .non, h => by unfold Rep at h; rw [h]; rfl
  | .bl b, h => by unfold Rep at h; rw [h]; rfl
  | .int b, h => by unfold Rep at h; rw [h]; rfl
  | .str b, h => by unfold Rep at h; rw [h]; rfl
  | .ty b, h => by unfold Rep at h; rw [h]; rfl
  | .st, h => by unfold Rep at h; obtain ⟨a, _, h⟩ := h; rw [h]; rfl
  | .tup ds, h => by obtain ⟨a, xs, h, _⟩ := h.tup_inv; rw [h]; rfl
  | .lst ds, h => by obtain ⟨a, xs, h, _⟩ := h.lst_inv; rw [h]; rfl
  | .own ds, h => by unfold Rep at h; exact h.elim
  | .fz ds, h => by obtain ⟨a, xs, h, _⟩ := h.fz_inv; rw [h]; rfl
  | .dic, h => by unfold Rep at h; obtain ⟨a, kvs, h, _⟩ := h; rw [h]; rfl
  | .dct _ _, h => by unfold Rep at h; obtain ⟨a, xs, h, _⟩ := h; rw [h]; rfl
  | .ob _ _ _, h => by unfold Rep at h; obtain ⟨a, dx, xs, h, _⟩ := h; rw [h]; rfl
  | .mem _, h => by unfold Rep at h; obtain ⟨a, h, _⟩ := h; rw [h]; rfl
  | .oi _ _ _ _, h => by unfold Rep at h; exact h.elim
def rdIsN : RD2 := fun d1 d2 k => d2 = .non ∧ k (.bl (isNon d1))
def rdNotN : RD2 := fun d1 d2 k => d2 = .non ∧ k (.bl (!isNon d1))
theorem re_isN : OpRel A (fun x y H Q => y = .non ∧ Q (.bl (decide (x = .non))) H) rdIsN := by
  rintro os n rho sg H ds vs d1 d2 v1 v2 k Q I ⟨rfl, q⟩ hQ
  obtain ⟨I1, r2⟩ := I.pop
  obtain ⟨I2, r1⟩ := I1.pop
  have e : v2 = .non := r2.toS rfl
  exact ⟨e, by rw [r1.non_iff]; exact hQ _ H _ ⟨os, I2.push (Rep.ofS (d := .bl (isNon d1)) rfl)⟩ q⟩
def rdB (f : Bool → Bool → Bool) : RD2 := fun d1 d2 k => match d1, d2 with | .bl c, .bl d => k (.bl (f c d)) | _, _ => False
def rdIx : RD2 := fun d1 d2 k => ∃ es i d, (d1 = .lst es ∨ d1 = .tup es ∨ d1 = .fz es) ∧ d2 = .int i ∧ atI es i = some d ∧ k d
theorem atI_rep {K : PySem.W.Frag} {G : Option Addr} {Z : Addr → Prop} {H : Hp} {es : List D} {xs : List V} {i : Int} {d : D} (h : Reps K G Z H es xs) (e : atI es i = some d) : ∃ v, atI xs i = some v ∧ Rep K G Z H d v := by
  unfold atI at e ⊢
  rw [h.length]
  cases q : ixN es.length i with
  | none => rw [q] at e; cases e
  | some j =>
    rw [q] at e
    exact h.get (i := j) e
theorem re_ix : OpRel A (rIx A.K) rdIx := by
  rintro os n rho sg H ds vs d1 d2 v1 v2 k Q I ⟨es, i, d, h1, rfl, h2, q⟩ hQ
  obtain ⟨I1, r2⟩ := I.pop
  obtain ⟨I2, r1⟩ := I1.pop
  rcases h1 with rfl | rfl | rfl
  · obtain ⟨a, xs, e, sq, rs⟩ := r1.lst_inv
    obtain ⟨v, e1, rv⟩ := atI_rep rs h2
    exact .inl ⟨a, xs, i, v, e, r2.int_inv, sq.sq, e1, hQ v H d ⟨os, I2.push rv⟩ q⟩
  · obtain ⟨a, xs, e, sq, rs⟩ := r1.tup_inv
    obtain ⟨v, e1, rv⟩ := atI_rep rs h2
    exact .inr (.inl ⟨a, xs, i, v, e, r2.int_inv, sq.sq, e1, hQ v H d ⟨os, I2.push rv⟩ q⟩)
  · obtain ⟨a, xs, e, sq, rs⟩ := r1.fz_inv
    obtain ⟨v, e1, rv⟩ := atI_rep rs h2
    exact .inl ⟨a, xs, i, v, e, r2.int_inv, sq, e1, hQ v H d ⟨os, I2.push rv⟩ q⟩
def rdCat : RD2 := fun d1 d2 k => ∃ es fs, d1 = .lst es ∧ d2 = .lst fs ∧ es.length + fs.length ≤ sizeLine ∧ k (.lst (es ++ fs))
def rdRepT : RD2 := fun d1 d2 k => ∃ es i, d1 = .tup es ∧ d2 = .int i ∧ es ≠ [] ∧ 1 ≤ i ∧ es.length * i.toNat ≤ sizeLine ∧ k (.tup (List.replicate i.toNat es).flatten)
theorem re_repT : OpRel A (rRepT A.K) rdRepT := by
  rintro os n rho sg H ds vs d1 d2 v1 v2 k Q I ⟨es, i, rfl, rfl, hne, h1, hz, q⟩ hQ
  obtain ⟨I1, r2⟩ := I.pop
  obtain ⟨I2, r1⟩ := I1.pop
  have r1' := r1
  obtain ⟨a, xs, e, sq, rs⟩ := r1.tup_inv
  have hl := rs.length
  refine ⟨a, i, xs, e, r2.int_inv, sq.sq, fun z => hne ?_, h1, by rw [hl]; exact hz, fun hi => ?_, fun hi p hp => ?_⟩
  · rw [z] at hl
    exact List.length_eq_zero_iff.mp hl.symm
  · subst hi
    have e1 : (List.replicate (1 : Int).toNat es).flatten = es := by simp
    rw [e1] at q
    rw [e] at r1'
    exact hQ _ H _ ⟨os, I2.push r1'⟩ q
  · exact hQ _ _ _ ⟨os, I2.newTup (rs.flatRep i.toNat) hp⟩ q
theorem pd_neg (ha : PD A X a ta) : PD A X (.UnaryOp .USub a pos) (fun rho n P => ta rho n fun d n' => ∃ i, d = .int i ∧ P (.int (-i)) n') := by
  with_unfolding_all
    exact (pe_un un_neg ha).imp fun sg H Q h => by
      obtain ⟨rho, n, P, ds, vs, I, ht, hQ⟩ := h
      refine ⟨rho, n, _, ds, vs, I, ht, fun v H' n' d ⟨os, J⟩ k => ?_⟩
      obtain ⟨i, rfl, k⟩ := k
      obtain ⟨J1, r⟩ := J.pop
      exact ⟨i, r.int_inv, hQ _ H' n' _ ⟨os, J1.push (Rep.ofS (d := .int (-i)) rfl)⟩ k⟩
variable {t u : TBD} {rest : List Expr}
def bAnd (t u : TBD) : TBD := fun rho n P => t rho n fun c n1 => if c = true then u rho n1 P else P false n1
def bOr (t u : TBD) : TBD := fun rho n P => t rho n fun c n1 => if c = true then P true n1 else u rho n1 P
def bNot (t : TBD) : TBD := fun rho n P => t rho n fun c n1 => P (!c) n1
theorem pwd_and1 (ha : PTD A X a t) : PWD A X (.BoolOp .And [a] pos) t := by
  with_unfolding_all
    exact pw_and1 ha
theorem pwd_or1 (ha : PTD A X a t) : PWD A X (.BoolOp .Or [a] pos) t := by
  with_unfolding_all
    exact pw_or1 ha
theorem pwd_and (ha : PTD A X a t) (hb : PWD A X (.BoolOp .And (b :: rest) pos) u) : PWD A X (.BoolOp .And (a :: b :: rest) pos) (bAnd t u) := by
  with_unfolding_all
    exact (pw_and ha hb).imp fun sg H Q h => by
      obtain ⟨rho, n, P, ds, vs, I, ht, hQ⟩ := h
      refine ⟨rho, n, _, ds, vs, I, ht, fun c H' n' J k => ?_⟩
      cases c with
      | true => exact ⟨rho, n', P, ds, vs, J, k, hQ⟩
      | false => exact hQ _ _ _ J k
theorem pwd_or (ha : PTD A X a t) (hb : PWD A X (.BoolOp .Or (b :: rest) pos) u) : PWD A X (.BoolOp .Or (a :: b :: rest) pos) (bOr t u) := by
  with_unfolding_all
    exact (pw_or ha hb).imp fun sg H Q h => by
      obtain ⟨rho, n, P, ds, vs, I, ht, hQ⟩ := h
      refine ⟨rho, n, _, ds, vs, I, ht, fun c H' n' J k => ?_⟩
      cases c with
      | false => exact ⟨rho, n', P, ds, vs, J, k, hQ⟩
      | true => exact hQ _ _ _ J k
theorem PWD.pt (h : PWD A X e t) : PTD A X e t := by
  with_unfolding_all
    exact PW.pt h
theorem ptd_not (ha : PTD A X a t) : PTD A X (.UnaryOp .Not a pos) (bNot t) := by
  with_unfolding_all
    exact (pt_not ha).imp fun sg H Q h => by
      obtain ⟨rho, n, P, ds, vs, I, ht, hQ⟩ := h
      exact ⟨rho, n, _, ds, vs, I, ht, fun c H' n' J k => hQ _ _ _ J k⟩
def dAnd (ta tb : TD) : TD := fun rho n P => ta rho n fun d n1 => ∃ c, d = .bl c ∧ if c = true then tb rho n1 P else P (.bl false) n1
def dOr (ta tb : TD) : TD := fun rho n P => ta rho n fun d n1 => ∃ c, d = .bl c ∧ if c = true then P (.bl true) n1 else tb rho n1 P
def dNot (ta : TD) : TD := fun rho n P => ta rho n fun d n1 => ∃ c, d = .bl c ∧ P (.bl (!c)) n1
theorem pd_one {op : BoolOp} (h : PD A X a ta) : PD A X (.BoolOp op [a] pos) ta := by
  with_unfolding_all
    exact pe_one h
theorem pd_and (ha : PD A X a ta) (hb : PD A X (.BoolOp .And (b :: rest) pos) tb) : PD A X (.BoolOp .And (a :: b :: rest) pos) (dAnd ta tb) := by
  with_unfolding_all
    exact (pe_and ha hb).imp fun sg H Q h => by
      obtain ⟨rho, n, P, ds, vs, I, ht, hQ⟩ := h
      refine ⟨rho, n, _, ds, vs, I, ht, fun v H' n' d ⟨os, J⟩ k => ?_⟩
      obtain ⟨c, rfl, k⟩ := k
      obtain ⟨J1, r⟩ := J.pop
      refine ⟨c, r.bl_inv, ?_⟩
      cases c with
      | true => exact ⟨rho, n', P, ds, vs, ⟨os, J1⟩, k, hQ⟩
      | false => exact hQ _ _ _ _ ⟨os, J1.push (Rep.ofS (d := .bl false) rfl)⟩ k
def dIf (t : TBD) (ta tb : TD) : TD := fun rho n P => t rho n fun c n1 => if c = true then ta rho n1 P else tb rho n1 P
variable {t1 : TAD}
def aNil : TAD := fun _ n P => P [] n
def aCons (t : TD) (r : TAD) : TAD := fun rho n P => t rho n fun d n1 => r rho n1 fun ds n2 => P (d :: ds) n2
theorem pad_nil : PAD A X [] aNil := by
  with_unfolding_all
    exact pa_nil.imp fun sg H Q h => by
      obtain ⟨rho, n, P, ds, vs, I, ht, hQ⟩ := h
      exact hQ [] H n [] I rfl ht
theorem reps_rot {K : PySem.W.Frag} {G : Option Addr} {Z : Addr → Prop} {H : Hp} {es ds : List D} {ws vs : List V} {d : D} {v : V} (h : Reps K G Z H (es ++ d :: ds) (ws ++ v :: vs)) (hl : ws.length = es.length) : Reps K G Z H (d :: es ++ ds) (v :: ws ++ vs) := by
  have h1 := h.take es.length
  have h2 := h.drop es.length
  rw [List.take_left' rfl, List.take_left' hl] at h1
  rw [List.drop_left' rfl, List.drop_left' hl] at h2
  obtain ⟨r, t⟩ := h2.inv
  exact .cons r (h1.append t)
def starred : Expr → Bool
  | .Starred .. => true
  | _ => false
theorem sE {e : Expr} {es : List Expr} {env : Env} (h : starred e = false) : starEach (e :: es) env = (false, eval e env) :: starEach es env := by
  cases e <;> first | (simp [starEach]; done) | (simp [starred] at h; done)
theorem pad_cons (ha : PD A X a ta) (hr : PAD A X es t1) (hs : starred a = false := by rfl) : PAD A X (a :: es) (aCons ta t1) := by
  with_unfolding_all
    exact (pa_cons ha hr (sE hs)).imp fun sg H Q h => by
      obtain ⟨rho, n, P, ds, vs, I, ht, hQ⟩ := h
      refine ⟨rho, n, _, ds, vs, I, ht, fun v H' n' d J k => ⟨rho, n', _, d :: ds, v :: vs, J, k, fun ws H2 n2 es' ⟨os, J2⟩ hl k2 => ?_⟩⟩
      exact hQ (v :: ws) H2 n2 (d :: es') ⟨os, J2.pends (reps_rot J2.pend hl)⟩ (by rw [List.length_cons, List.length_cons, hl]) k2
theorem reps_pre {K : PySem.W.Frag} {G : Option Addr} {Z : Addr → Prop} {H : Hp} {es ds : List D} {ws vs : List V} (h : Reps K G Z H (es ++ ds) (ws ++ vs)) (hl : ws.length = es.length) : Reps K G Z H es ws ∧ Reps K G Z H ds vs := by
  have h1 := h.take es.length
  have h2 := h.drop es.length
  rw [List.take_left' rfl, List.take_left' hl] at h1
  rw [List.drop_left' rfl, List.drop_left' hl] at h2
  exact ⟨h1, h2⟩
def dTup (t : TAD) : TD := fun rho n P => t rho n fun ds n1 => ds.length ≤ sizeLine ∧ P (.tup ds) n1
def dLst (t : TAD) : TD := fun rho n P => t rho n fun ds n1 => ds.length ≤ sizeLine ∧ P (.lst ds) n1
theorem pd_tup {x1} (h : PAD A X es t1) : PD A X (.Tuple es x1 pos) (dTup t1) := by
  with_unfolding_all
    exact (pe_tup h).imp fun sg H Q h => by
      obtain ⟨rho, n, P, ds, vs, I, ht, hQ⟩ := h
      refine ⟨rho, n, _, ds, vs, I, ht, fun ws H' n' es' ⟨os, J⟩ hl k => ⟨by rw [hl]; exact k.1, fun p hp => ?_⟩⟩
      obtain ⟨q1, q2⟩ := reps_pre J.pend hl
      exact hQ _ _ n' _ ⟨os, (J.pends q2).newTup q1 hp⟩ k.2
theorem pd_lst (h : PAD A X es t1) : PD A X (.List es pos) (dLst t1) := by
  with_unfolding_all
    exact (pe_lst h).imp fun sg H Q h => by
      obtain ⟨rho, n, P, ds, vs, I, ht, hQ⟩ := h
      refine ⟨rho, n, _, ds, vs, I, ht, fun ws H' n' es' ⟨os, J⟩ hl k => ⟨by rw [hl]; exact k.1, fun p hp => ?_⟩⟩
      obtain ⟨q1, q2⟩ := reps_pre J.pend hl
      exact hQ _ _ n' _ ⟨os, (J.pends q2).newLst q1 hp⟩ k.2
def CallRel (A : AC) (r : List V → Hp → VK → Prop) (rd : List D → (D → Prop) → Prop) : Prop :=
  ∀ os n rho sg H ds vs es ws (k : D → Prop) (Q : VK), AmO A os n rho sg H ds vs → Reps A.K A.G (Zof A os) H es ws → rd es k → (∀ v H' d, Am A n rho sg H' (d :: ds) (v :: vs) → k d → Q v H') → r ws H Q
def dCall (rd : List D → (D → Prop) → Prop) (t : TAD) : TD := fun rho n P => t rho n fun es n1 => rd es fun d => P d n1
theorem tCB_of {r : List V → Hp → VK → Prop} {rd : List D → (D → Prop) → Prop} (hr : CallRel A r rd) {sg : St} {H : Hp} {Q : VK} (h : tOf A (dCall rd t1) sg H Q) : tCB r (taOf A t1) sg H Q := by
  obtain ⟨rho, n, P, ds, vs, I, ht, hQ⟩ := h
  refine ⟨rho, n, _, ds, vs, I, ht, fun ws H' n' es' ⟨os, J⟩ hl k => ?_⟩
  obtain ⟨q1, q2⟩ := reps_pre J.pend hl
  exact hr _ _ _ _ _ _ _ _ _ _ Q (J.pends q2) q1 k fun v H2 d J2 k2 => hQ v H2 n' d J2 k2
theorem pd_callB {x : Str} {p : Pos} {id : String} {r : List V → Hp → VK → Prop} {rd : List D → (D → Prop) → Prop} (hc : CallR X (.builtin id) r) (hr : CallRel A r rd) (hm : X.mg x = none) (hv : bootBuiltins x = some (.builtin id)) (ha : PAD A X (e :: es) t1) (hg : Gl X x := by rfl) (hn : x ≠ "__name__" := by decide) (hdb : (x == ("__debug__" : Str)) = false := by decide)
    (he : starEach (e :: es) X.env = (false, eval e X.env) :: starEach es X.env := by rfl) (hpl : (backTo pos (starEach es X.env)).any (·.1) = false := by rfl) : PD A X (.Call (.Name x p) (e :: es) [] pos) (dCall rd t1) := by
  with_unfolding_all
    exact 
      (pe_callB hc hg hm hv ha hn hdb he hpl).imp fun _ _ _ => tCB_of hr
theorem pd_callTy {x : Str} {p : Pos} {T : String} {r : List V → Hp → VK → Prop} {rd : List D → (D → Prop) → Prop} (hc : CallR X (.type T) r) (hr : CallRel A r rd) (hm : X.mg x = none) (hv : bootBuiltins x = some (.type T)) (ha : PAD A X (e :: es) t1) (hg : Gl X x := by rfl) (hn : x ≠ "__name__" := by decide) (hdb : (x == ("__debug__" : Str)) = false := by decide)
    (he : starEach (e :: es) X.env = (false, eval e X.env) :: starEach es X.env := by rfl) (hpl : (backTo pos (starEach es X.env)).any (·.1) = false := by rfl) : PD A X (.Call (.Name x p) (e :: es) [] pos) (dCall rd t1) := by
  with_unfolding_all
    exact 
      (pe_callTy hc hg hm hv ha hn hdb he hpl).imp fun _ _ _ => tCB_of hr
theorem reps1 {K : PySem.W.Frag} {G : Option Addr} {Z : Addr → Prop} {H : Hp} {d : D} {ws : List V} (h : Reps K G Z H [d] ws) : ∃ v, ws = [v] ∧ Rep K G Z H d v := by
  obtain ⟨v, r, rfl, q, t⟩ := h.split
  rw [t.nil_inv]
  exact ⟨v, rfl, q⟩
theorem reps2 {K : PySem.W.Frag} {G : Option Addr} {Z : Addr → Prop} {H : Hp} {d d' : D} {ws : List V} (h : Reps K G Z H [d, d'] ws) : ∃ v v', ws = [v, v'] ∧ Rep K G Z H d v ∧ Rep K G Z H d' v' := by
  obtain ⟨v, r, rfl, q, t⟩ := h.split
  obtain ⟨v', rfl, q'⟩ := reps1 t
  exact ⟨v, v', rfl, q, q'⟩
def kLen : List D → (D → Prop) → Prop := fun es k => ∃ fs, (es = [.lst fs] ∨ es = [.tup fs] ∨ es = [.fz fs]) ∧ k (.int fs.length)
def kAbs : List D → (D → Prop) → Prop := fun es k => ∃ i, es = [.int i] ∧ k (.int (if i < 0 then -i else i))
def kIntB : List D → (D → Prop) → Prop := fun es k => ∃ c, es = [.bl c] ∧ k (.int (if c then 1 else 0))
def kAll : List D → (D → Prop) → Prop := fun es k => ∃ bs : List Bool, es = [.lst (bs.map D.bl)] ∧ k (.bl (bs.all id))
def kTuple : List D → (D → Prop) → Prop := fun es k => ∃ fs, (es = [.lst fs] ∨ es = [.tup fs]) ∧ k (.tup fs)
def kList : List D → (D → Prop) → Prop := fun es k => ∃ fs, (es = [.lst fs] ∨ es = [.tup fs]) ∧ k (.lst fs)
theorem cr_len : CallRel A (fun xs H Q => ∃ p ys, xs = [.ref p] ∧ (SqL A.K H p ys ∨ SqT A.K H p ys) ∧ Q (.int ys.length) H) kLen := by
  rintro os n rho sg H ds vs es ws k Q I rs ⟨fs, h, q⟩ hQ
  rcases h with rfl | rfl | rfl
  · obtain ⟨v, rfl, r⟩ := reps1 rs
    obtain ⟨a, xs, rfl, sq, rr⟩ := r.lst_inv
    exact ⟨a, xs, rfl, .inl sq.sq, by rw [rr.length]; exact hQ _ H _ ⟨os, I.push (Rep.ofS rfl)⟩ q⟩
  · obtain ⟨v, rfl, r⟩ := reps1 rs
    obtain ⟨a, xs, rfl, sq, rr⟩ := r.tup_inv
    exact ⟨a, xs, rfl, .inr sq.sq, by rw [rr.length]; exact hQ _ H _ ⟨os, I.push (Rep.ofS rfl)⟩ q⟩
  · obtain ⟨v, rfl, r⟩ := reps1 rs
    obtain ⟨a, xs, rfl, sq, rr⟩ := r.fz_inv
    exact ⟨a, xs, rfl, .inl sq, by rw [rr.length]; exact hQ _ H _ ⟨os, I.push (Rep.ofS rfl)⟩ q⟩
theorem cr_intB : CallRel A (fun xs H Q => (∃ i, xs = [.int i] ∧ Q (.int i) H) ∨ ∃ k, xs = [.bl k] ∧ Q (.int (if k then 1 else 0)) H) kIntB := by
  rintro os n rho sg H ds vs es ws k Q I rs ⟨i, rfl, q⟩ hQ
  obtain ⟨v, rfl, r⟩ := reps1 rs
  exact .inr ⟨i, by rw [r.bl_inv], hQ _ H _ ⟨os, I.push (Rep.ofS rfl)⟩ q⟩
theorem reps_bools {K : PySem.W.Frag} {G : Option Addr} {Z : Addr → Prop} {H : Hp} : ∀ {bs : List Bool} {ws : List V}, Reps K G Z H (bs.map D.bl) ws → ws = bs.map V.bl
  | [], ws, h => h.nil_inv
  | b :: bs, ws, h => by
    obtain ⟨v, r, rfl, q, t⟩ := h.split
    rw [q.bl_inv, reps_bools t]; rfl
theorem cr_all : CallRel A (fun xs H Q => ∃ (p : Addr) (bs : List Bool), xs = [.ref p] ∧ SqL A.K H p (bs.map V.bl) ∧ Q (.bl (bs.all id)) H) kAll := by
  rintro os n rho sg H ds vs es ws k Q I rs ⟨bs, rfl, q⟩ hQ
  obtain ⟨v, rfl, r⟩ := reps1 rs
  obtain ⟨a, xs, rfl, sq, rr⟩ := r.lst_inv
  have e := reps_bools rr
  subst e
  exact ⟨a, bs, rfl, sq.sq, hQ _ H _ ⟨os, I.push (Rep.ofS rfl)⟩ q⟩
theorem cr_tuple : CallRel A (fun xs H Q => ∃ p ys, xs = [.ref p] ∧ ((SqL A.K H p ys ∧ ∀ l, H l = none → Q (.ref l) (upd H l (.tup ys))) ∨ (SqT A.K H p ys ∧ Q (.ref p) H))) kTuple := by
  rintro os n rho sg H ds vs es ws k Q I rs ⟨fs, h, q⟩ hQ
  rcases h with rfl | rfl
  · obtain ⟨v, rfl, r⟩ := reps1 rs
    obtain ⟨a, xs, rfl, sq, rr⟩ := r.lst_inv
    exact ⟨a, xs, rfl, .inl ⟨sq.sq, fun l hl => hQ _ _ _ ⟨os, I.newTup rr hl⟩ q⟩⟩
  · obtain ⟨v, rfl, r⟩ := reps1 rs
    have r' := r
    obtain ⟨a, xs, rfl, sq, rr⟩ := r.tup_inv
    exact ⟨a, xs, rfl, .inr ⟨sq.sq, hQ _ _ _ ⟨os, I.push r'⟩ q⟩⟩
def isiD (T : String) : D → Bool
  | .bl _ => T == "bool" || T == "int"
  | .int _ => T == "int"
  | .str _ => T == "str"
  | .tup _ => T == "tuple"
  | .lst _ => T == "list"
  | _ => false
def isiOk : D → Bool
  | .non => true | .bl _ => true | .int _ => true | .str _ => true | .tup _ => true | .lst _ => true | .dic => true | _ => false
def kIsi : List D → (D → Prop) → Prop := fun es k => ∃ d T, es = [d, .ty T] ∧ (T = "bool" ∨ T = "int" ∨ T = "str" ∨ T = "tuple" ∨ T = "list") ∧ isiOk d = true ∧ k (.bl (isiD T d))
theorem cr_isi : CallRel A (fun xs H Q => ∃ x T, xs = [x, .ty T] ∧ (T = "bool" ∨ T = "int" ∨ T = "str" ∨ T = "tuple" ∨ T = "list") ∧ rIsi A.K T x H Q) kIsi := by
  rintro os n rho sg H ds vs es ws k Q I rs ⟨d, T, rfl, hT, ho, q⟩ hQ
  obtain ⟨v, v', rfl, r, r'⟩ := reps2 rs
  have e' : v' = .ty T := r'.toS rfl
  subst e'
  refine ⟨v, T, rfl, hT, ?_⟩
  have fin : Q (.bl (isiD T d)) H := hQ _ H _ ⟨os, I.push (Rep.ofS rfl)⟩ q
  cases d with
  | non => have e := r.toS rfl; subst e; exact fin
  | bl b => have e := r.toS rfl; subst e; exact fin
  | int b => have e := r.toS rfl; subst e; exact fin
  | str b => have e := r.toS rfl; subst e; exact fin
  | tup fs => obtain ⟨a, xs, rfl, sq, rr⟩ := r.tup_inv; exact .inl ⟨xs, sq.sq, fin⟩
  | lst fs => obtain ⟨a, xs, rfl, sq, rr⟩ := r.lst_inv; exact .inr (.inl ⟨xs, sq.sq, fin⟩)
  | dic => unfold Rep at r; obtain ⟨a, kvs, rfl, _, e⟩ := r; exact .inr (.inr ⟨kvs, e, fin⟩)
  | ty _ => simp [isiOk] at ho
  | dct _ _ => simp [isiOk] at ho
  | ob _ _ _ => simp [isiOk] at ho
  | mem _ => simp [isiOk] at ho
  | oi _ _ _ _ => simp [isiOk] at ho
  | st => simp [isiOk] at ho
  | own _ => simp [isiOk] at ho
  | fz _ => simp [isiOk] at ho
end
end L2
set_option maxRecDepth 100000
namespace L2
open PySem PySem.Spec PyProof.Rows
section
variable {A : AC} {os : List (Nat × Addr)} {n : Nat} {rho : Rho} {sg : St} {H : Hp} {ds es : List D} {vs ws : List V} {d : D} {v : V}
theorem AmO.split (I : AmO A os n rho sg H (es ++ ds) (ws ++ vs)) (hl : ws.length = es.length) : AmO A os n rho sg H ds vs ∧ Reps A.K A.G (Zof A os) H es ws :=
  let ⟨q1, q2⟩ := reps_pre I.pend hl
  ⟨I.pends q2, q1⟩
theorem AmO.join (I : AmO A os n rho sg H ds vs) (h : Reps A.K A.G (Zof A os) H es ws) : AmO A os n rho sg H (es ++ ds) (ws ++ vs) := I.pends (h.append I.pend)
theorem AmO.under (I : AmO A os n rho sg H (d :: (es ++ ds)) (v :: (ws ++ vs))) (hl : ws.length = es.length) : AmO A os n rho sg H (d :: ds) (v :: vs) := by
  obtain ⟨J, r⟩ := I.pop
  exact (J.split hl).1.push r
theorem AmO.front (m : Nat) (I : AmO A os n rho sg H ds vs) : AmO A (os.map fun p => (p.1 + m, p.2)) n (List.replicate m none ++ rho) (List.replicate m none ++ sg) H ds vs := by
  have zz : ∀ a, Zof A (os.map fun p => (p.1 + m, p.2)) a → Zof A os a := fun a z => by
    rcases z with z | ⟨p, hp, e⟩
    · exact .inl z
    · obtain ⟨q, hq, rfl⟩ := List.mem_map.mp hp
      exact .inr ⟨q, hq, e⟩
  refine ⟨by simp [I.len], fun i c e => ?_, Reps.mono (fun a _ z => zz a z) (fun _ _ _ e => e) _ _ I.pend, ?_, fun p hp => ?_, I.st, I.gz, I.fr, I.z0⟩
  · have hi : m ≤ i := by
      apply Nat.le_of_not_lt
      intro hlt
      rw [List.getElem?_append_left (by simpa using hlt), List.getElem?_replicate, if_pos hlt] at e
      cases e
    rw [List.getElem?_append_right (by simpa using hi), List.length_replicate] at e
    obtain ⟨u, e1, e2⟩ := I.slot _ c e
    refine ⟨u, by rw [List.getElem?_append_right (by simpa using hi), List.length_replicate]; exact e1, ?_⟩
    have key : ∀ j, j + m = i → SlotR A os H j c u → SlotR A (os.map fun p => (p.1 + m, p.2)) H i c u := fun j hj h => by
      subst hj
      cases c with
      | own fs =>
        obtain ⟨a, xs, q1, q2, q3, q4⟩ := h
        exact ⟨a, xs, q1, List.mem_map.mpr ⟨_, q2, rfl⟩, q3, Reps.mono (fun a _ z => zz a z) (fun _ _ _ e => e) _ _ q4⟩
      | oi p C ns fs =>
        obtain ⟨dx, xs, q1, q2, q3, ql, q4⟩ := h
        exact ⟨dx, xs, q1, List.mem_map.mpr ⟨_, q2, rfl⟩, q3, ql, Reps.mono (fun a _ z => zz a z) (fun _ _ _ e => e) _ _ q4⟩
      | non => exact Rep.mono (fun a _ z => zz a z) (fun _ _ _ e => e) _ _ h
      | bl _ => exact Rep.mono (fun a _ z => zz a z) (fun _ _ _ e => e) _ _ h
      | int _ => exact Rep.mono (fun a _ z => zz a z) (fun _ _ _ e => e) _ _ h
      | str _ => exact Rep.mono (fun a _ z => zz a z) (fun _ _ _ e => e) _ _ h
      | ty _ => exact Rep.mono (fun a _ z => zz a z) (fun _ _ _ e => e) _ _ h
      | tup _ => exact Rep.mono (fun a _ z => zz a z) (fun _ _ _ e => e) _ _ h
      | lst _ => exact Rep.mono (fun a _ z => zz a z) (fun _ _ _ e => e) _ _ h
      | st => exact Rep.mono (fun a _ z => zz a z) (fun _ _ _ e => e) _ _ h
      | fz _ => exact Rep.mono (fun a _ z => zz a z) (fun _ _ _ e => e) _ _ h
      | dic => exact Rep.mono (fun a _ z => zz a z) (fun _ _ _ e => e) _ _ h
      | dct _ _ => exact Rep.mono (fun a _ z => zz a z) (fun _ _ _ e => e) _ _ h
      | ob _ _ _ => exact Rep.mono (fun a _ z => zz a z) (fun _ _ _ e => e) _ _ h
      | mem _ => exact Rep.mono (fun a _ z => zz a z) (fun _ _ _ e => e) _ _ h
    exact key (i - m) (by lia) e2
  · rw [List.pairwise_map]
    exact I.nd.imp fun {p q} h => ⟨fun z => h.1 (by simpa using z), h.2⟩
  · obtain ⟨q, hq, rfl⟩ := List.mem_map.mp hp
    exact I.fresh q hq
theorem AmO.back {m : Nat} {rho' : Rho} {sg' : St} (I : AmO A os n rho' sg' H ds vs) (h1 : rho'.drop m = rho) (h2 : sg'.drop m = sg) : ∃ os', AmO A os' n rho sg H ds vs := by
  refine ⟨(os.filter fun p => decide (m ≤ p.1)).map fun p => (p.1 - m, p.2), ?_⟩
  have zz : ∀ a, Zof A ((os.filter fun p => decide (m ≤ p.1)).map fun p => (p.1 - m, p.2)) a → Zof A os a := fun a z => by
    rcases z with z | ⟨p, hp, e⟩
    · exact .inl z
    · obtain ⟨q, hq, rfl⟩ := List.mem_map.mp hp
      exact .inr ⟨q, (List.mem_filter.mp hq).1, e⟩
  subst h1 h2
  refine ⟨by simp [I.len], fun i c e => ?_, Reps.mono (fun a _ z => zz a z) (fun _ _ _ e => e) _ _ I.pend, ?_, fun p hp => ?_, I.st, I.gz, I.fr, I.z0⟩
  · rw [List.getElem?_drop] at e
    obtain ⟨u, e1, e2⟩ := I.slot _ c e
    refine ⟨u, by rw [List.getElem?_drop]; exact e1, ?_⟩
    cases c with
    | own fs =>
      obtain ⟨a, xs, q1, q2, q3, q4⟩ := e2
      exact ⟨a, xs, q1, List.mem_map.mpr ⟨_, List.mem_filter.mpr ⟨q2, by simp⟩, by simp⟩, q3, Reps.mono (fun a _ z => zz a z) (fun _ _ _ e => e) _ _ q4⟩
    | oi p C ns fs =>
      obtain ⟨dx, xs, q1, q2, q3, ql, q4⟩ := e2
      exact ⟨dx, xs, q1, List.mem_map.mpr ⟨_, List.mem_filter.mpr ⟨q2, by simp⟩, by simp⟩, q3, ql, Reps.mono (fun a _ z => zz a z) (fun _ _ _ e => e) _ _ q4⟩
    | non => exact Rep.mono (fun a _ z => zz a z) (fun _ _ _ e => e) _ _ e2
    | bl _ => exact Rep.mono (fun a _ z => zz a z) (fun _ _ _ e => e) _ _ e2
    | int _ => exact Rep.mono (fun a _ z => zz a z) (fun _ _ _ e => e) _ _ e2
    | str _ => exact Rep.mono (fun a _ z => zz a z) (fun _ _ _ e => e) _ _ e2
    | ty _ => exact Rep.mono (fun a _ z => zz a z) (fun _ _ _ e => e) _ _ e2
    | tup _ => exact Rep.mono (fun a _ z => zz a z) (fun _ _ _ e => e) _ _ e2
    | lst _ => exact Rep.mono (fun a _ z => zz a z) (fun _ _ _ e => e) _ _ e2
    | st => exact Rep.mono (fun a _ z => zz a z) (fun _ _ _ e => e) _ _ e2
    | fz _ => exact Rep.mono (fun a _ z => zz a z) (fun _ _ _ e => e) _ _ e2
    | dic => exact Rep.mono (fun a _ z => zz a z) (fun _ _ _ e => e) _ _ e2
    | dct _ _ => exact Rep.mono (fun a _ z => zz a z) (fun _ _ _ e => e) _ _ e2
    | ob _ _ _ => exact Rep.mono (fun a _ z => zz a z) (fun _ _ _ e => e) _ _ e2
    | mem _ => exact Rep.mono (fun a _ z => zz a z) (fun _ _ _ e => e) _ _ e2
  · rw [List.pairwise_map, List.pairwise_filter]
    refine I.nd.imp fun {p q} h hp hq => ⟨fun z => h.1 ?_, h.2⟩
    have a1 : m ≤ p.1 := by simpa using hp
    have a2 : m ≤ q.1 := by simpa using hq
    have z' : p.1 - m = q.1 - m := z
    lia
  · obtain ⟨q, hq, rfl⟩ := List.mem_map.mp hp
    exact I.fresh q (List.mem_filter.mp hq).1
end
abbrev TGD := D → Rho → (Rho → Prop) → Prop
abbrev TGsD := List D → Rho → (Rho → Prop) → Prop
def gOf (A : AC) (m : Nat) (g : TGD) : TG := fun v sg H Q => ∃ rho n P d ds vs, Am A n rho sg H (d :: ds) (v :: vs) ∧ g d rho P ∧ ∀ rho' sg', Am A n rho' sg' H ds vs → sg'.drop m = sg.drop m → P rho' → Q sg' H
def gsOf (A : AC) (m : Nat) (g : TGsD) : TGs := fun us sg H Q => ∃ rho n P es ds vs, Am A n rho sg H (es ++ ds) (us ++ vs) ∧ us.length = es.length ∧ g es rho P ∧ ∀ rho' sg', Am A n rho' sg' H ds vs → sg'.drop m = sg.drop m → P rho' → Q sg' H
@[irreducible] def PGD (A : AC) (X : Cx) (m : Nat) (tg : Expr) (g : TGD) : Prop := PG X tg (gOf A m g)
@[irreducible] def PGsD (A : AC) (X : Cx) (m : Nat) (tg : List Expr) (g : TGsD) : Prop := PGs X tg (gsOf A m g)
theorem PG.imp {X : Cx} {tg : Expr} {g g' : TG} (h : PG X tg g) (hi : ∀ v sg H Q, g' v sg H Q → g v sg H Q) : PG X tg g' := fun pins s sg H v u Q I r q => h pins s sg H v u Q I r (hi _ _ _ _ q)
theorem PGs.imp {X : Cx} {tg : List Expr} {g g' : TGs} (h : PGs X tg g) (hi : ∀ v sg H Q, g' v sg H Q → g v sg H Q) : PGs X tg g' := fun pins s sg H v u Q I r q => h pins s sg H v u Q I r (hi _ _ _ _ q)
section
variable {A : AC} {X : Cx} {m : Nat} {pos : Pos}
def gdName (i : Nat) : TGD := fun d rho P => i < rho.length ∧ P (rho.set i (some d))
theorem pgd_name {i : Nat} {x : Str} (hN : X.N.Nodup) (hi : X.N[i]? = some x) (hx : Loc X.env.scope x) (hm : i < m) (hf : X.fn x = true ∨ X.env.scope.names.lookup x = some .local := by first | exact .inl rfl | exact .inr rfl | assumption) : PGD A X m (.Name x pos) (gdName i) := by
  with_unfolding_all
    exact 
      (pg_name hN hi hx hf).imp fun v sg H Q h => by
        obtain ⟨rho, n, P, d, ds, vs, ⟨os, I⟩, ⟨hl, k⟩, hQ⟩ := h
        refine hQ (rho.set i (some d)) (sg.set i (some v)) ⟨_, I.set hl⟩ ?_ k
        rw [List.drop_set_of_lt hm]
def gdNil : TGsD := fun es rho P => es = [] ∧ P rho
def gdCons (g : TGD) (gs : TGsD) : TGsD := fun es rho P => ∃ d r, es = d :: r ∧ g d rho fun rho' => gs r rho' P
theorem pgsd_nil : PGsD A X m [] gdNil := by
  with_unfolding_all
    exact pgs_nil.imp fun us sg H Q h => by
      obtain ⟨rho, n, P, es, ds, vs, I, hl, ⟨rfl, k⟩, hQ⟩ := h
      have e : us = [] := List.length_eq_zero_iff.mp hl
      subst e
      exact ⟨rfl, hQ rho sg I rfl k⟩
theorem pgsd_cons {e : Expr} {es : List Expr} {g : TGD} {gs : TGsD} (h1 : PGD A X m e g) (h2 : PGsD A X m es gs) (hs : (assignEach (e :: es) X.env).map (·.2) = assign e X.env :: (assignEach es X.env).map (·.2) := by rfl) : PGsD A X m (e :: es) (gdCons g gs) := by
  with_unfolding_all
    exact 
      (pgs_cons h1 h2 hs).imp fun us sg H Q h => by
        obtain ⟨rho, n, P, es', ds, vs, I, hl, ⟨d, r, rfl, k⟩, hQ⟩ := h
        cases us with
        | nil => simp at hl
        | cons u us =>
          refine ⟨u, us, rfl, ⟨rho, n, _, d, r ++ ds, us ++ vs, I, k, fun rho' sg' I' e1 k' => ⟨rho', n, P, r, ds, vs, I', by simpa using hl, k', fun rho2 sg2 I2 e2 k2 => hQ rho2 sg2 I2 (e2.trans e1) k2⟩⟩⟩
def gdTup (k : Nat) (gs : TGsD) : TGD := fun d rho P => ∃ es, d = .tup es ∧ es.length = k ∧ gs es rho P
theorem pgd_tup {es : List Expr} {k : Nat} {gs : TGsD} {kt : Nat} (hK : X.K = A.K) (hc : X.calm = true) (h : PGsD A X m es gs) (hn : (assignEach es X.env).length = k := by rfl) (hst : (assignEach es X.env).findIdx? (·.1) = none := by rfl) : PGD A X m (.Tuple es kt pos) (gdTup k gs) := by
  with_unfolding_all
    exact 
      (pg_tup (n := k) hc h hn hst).imp fun v sg H Q h => by
        obtain ⟨rho, n, P, d, ds, vs, ⟨os, I⟩, ⟨fs, rfl, hl, q⟩, hQ⟩ := h
        obtain ⟨J, r⟩ := I.pop
        obtain ⟨a, xs, rfl, sq, rs⟩ := r.tup_inv
        have hx := rs.length
        rw [hK]
        exact ⟨a, xs, rfl, sq.sq, by rw [hx]; exact hl, rho, n, P, fs, ds, vs, ⟨os, J.join rs⟩, hx, q, hQ⟩
end
abbrev TID := Rho → Nat → (List D → Nat → Prop) → Prop
def JIs (A : AC) (J : It) (es : List D) (ws : List V) (items : List D) : Prop := ∀ n rho sg H ds vs i, Am A n rho sg H (es ++ ds) (ws ++ vs) →
  (∀ d, items[i]? = some d → J.go i H ∧ ∀ x H', J.yld i H x H' → Am A n rho sg H' (d :: (es ++ ds)) (x :: (ws ++ vs))) ∧ (items.length ≤ i → J.stop i H)
def iOf (A : AC) (it : TID) : TI := fun sg H R => ∃ rho n P ds vs, Am A n rho sg H ds vs ∧ it rho n P ∧ ∀ J H' n' items es ws, Am A n' rho sg H' (es ++ ds) (ws ++ vs) → ws.length = es.length → JIs A J es ws items → P items n' → R J H'
@[irreducible] def PID (A : AC) (X : Cx) (tg iter : Expr) (it : TID) : Prop := PI X tg iter (iOf A it)
theorem PI.imp {X : Cx} {tg e : Expr} {t t' : TI} (h : PI X tg e t) (hi : ∀ sg H Q, t' sg H Q → t sg H Q) : PI X tg e t' := fun pins s sg H Q I q => h pins s sg H Q I (hi _ _ _ q)
section
variable {A : AC} {X : Cx} {tg a b : Expr} {ta tb : TD} {pos p : Pos} {t1 : TAD}
def rngD (lo : Int) (k : Nat) : List D := (List.range k).map fun (i : Nat) => D.int (lo + (i : Int))
def iRngD (t : TAD) : TID := fun rho n P => t rho n fun es n1 => ∃ j : Int, es = [.int j] ∧ -(2 ^ 62) ≤ j ∧ j < 2 ^ 62 ∧ P (rngD 0 j.toNat) n1
theorem jis_rng {lo : Int} {k : Nat} : JIs A (Itr lo k) [] [] (rngD lo k) := fun n2 rho2 sg2 H2 ds2 vs2 i ⟨os2, I2⟩ => by
  refine ⟨fun d e => ?_, fun hi => ?_⟩
  · unfold rngD at e
    rw [List.getElem?_map] at e
    cases q : (List.range k)[i]? with
    | none => rw [q] at e; cases e
    | some j =>
      rw [q] at e
      cases e
      have hj := List.getElem?_eq_some_iff.mp q
      obtain ⟨hlt, ej⟩ := hj
      rw [List.getElem_range] at ej
      subst ej
      refine ⟨(show i < k by simpa using hlt), fun x H3 y => ?_⟩
      obtain ⟨e3, e4⟩ := y
      subst e3 e4
      exact ⟨os2, I2.push (Rep.ofS (d := .int (lo + i)) rfl)⟩
  · unfold rngD at hi
    exact (show k ≤ i by simpa using hi)
theorem pid_rng (hm : X.mg "range" = none) (ha : PAD A X [a] t1) (hg : Gl X "range" := by rfl) (hs : starEach [a] X.env = [(false, eval a X.env)] := by rfl) : PID A X tg (.Call (.Name "range" p) [a] [] pos) (iRngD t1) := by
  with_unfolding_all
    exact 
      (pi_range1 hg hm ha hs).imp fun sg H R h => by
        obtain ⟨rho, n, P, ds, vs, I, ht, hQ⟩ := h
        refine ⟨rho, n, _, ds, vs, I, ht, fun ws H' n' es' ⟨os, J⟩ hl k => ?_⟩
        obtain ⟨j, rfl, h1, h2, k⟩ := k
        obtain ⟨J1, rs⟩ := J.split hl
        obtain ⟨v, rfl, r⟩ := reps1 rs
        exact ⟨j, by rw [r.int_inv], h1, h2, hQ _ H' n' _ [] [] ⟨os, J1⟩ rfl jis_rng k⟩
def seqOf : D → Option (Bool × List D)
  | .lst es => some (true, es)
  | .tup es => some (false, es)
  | _ => none
theorem Rep.seq {K : PySem.W.Frag} {G : Option Addr} {Z : Addr → Prop} {H : Hp} {v : V} {b : Bool} {es : List D} : ∀ {d : D}, seqOf d = some (b, es) → Rep K G Z H d v → ∃ a xs, v = .ref a ∧ SqZ K Z H b a xs ∧ Reps K G Z H es xs
  | .lst fs, h, r => by cases h; exact r.lst_inv
  | .tup fs, h, r => by cases h; exact r.tup_inv
  | .non, h, _ => by cases h
  | .bl _, h, _ => by cases h
  | .int _, h, _ => by cases h
  | .str _, h, _ => by cases h
  | .ty _, h, _ => by cases h
  | .st, h, _ => by cases h
  | .own _, h, _ => by cases h
  | .oi _ _ _ _, h, _ => by cases h
  | .fz _, h, _ => by cases h
def zipD (xs ys : List D) : List D := List.zipWith (fun x y => D.tup [x, y]) xs ys
def iZipD (t : TAD) : TID := fun rho n P => t rho n fun es n1 => ∃ d1 d2 b1 xs b2 ys, es = [d1, d2] ∧ seqOf d1 = some (b1, xs) ∧ seqOf d2 = some (b2, ys) ∧ P (zipD xs ys) n1
theorem jis_zip {d1 d2 : D} {l1 l2 : Addr} {b1 b2 : Bool} {xs ys : List D} (h1 : seqOf d1 = some (b1, xs)) (h2 : seqOf d2 = some (b2, ys)) : JIs A (Itz A.K b1 b2 l1 l2) [d1, d2] [.ref l1, .ref l2] (zipD xs ys) := fun n rho sg H ds vs i ⟨os, I⟩ => by
  obtain ⟨I1, r1⟩ := AmO.pop (d := d1) (v := .ref l1) (ds := d2 :: ds) (vs := .ref l2 :: vs) I
  obtain ⟨I2, r2⟩ := I1.pop
  obtain ⟨a1, us, e1, sq1, rs1⟩ := r1.seq h1
  obtain ⟨a2, ws, e2, sq2, rs2⟩ := r2.seq h2
  cases e1; cases e2
  refine ⟨fun d e => ?_, fun hi => ⟨us, ws, sq1.sq, sq2.sq, ?_⟩⟩
  · unfold zipD at e
    rw [List.getElem?_zipWith] at e
    cases q1 : xs[i]? with
    | none => rw [q1] at e; cases e
    | some x =>
      cases q2 : ys[i]? with
      | none => rw [q1, q2] at e; cases e
      | some y =>
        rw [q1, q2] at e
        cases e
        obtain ⟨u, eu, ru⟩ := rs1.get q1
        obtain ⟨w, ew, rw'⟩ := rs2.get q2
        refine ⟨⟨us, ws, u, w, sq1.sq, sq2.sq, eu, ew⟩, fun v H3 yy => ?_⟩
        obtain ⟨T, hT, rfl, k⟩ := yy
        obtain ⟨u', w', eu', ew', rfl⟩ := k us ws sq1.sq sq2.sq
        rw [eu] at eu'; cases eu'
        rw [ew] at ew'; cases ew'
        exact ⟨os, I.newTup (.cons ru (.cons rw' .nil)) hT⟩
  · rw [rs1.length, rs2.length]
    unfold zipD at hi
    rw [List.length_zipWith] at hi
    lia
theorem pid_zip {es : List Expr} {kk : Nat} {ps : Pos} (hK : X.K = A.K) (hm : X.mg "zip" = none) (ha : PAD A X [a, b] t1) (hg : Gl X "zip" := by rfl) (hs : starEach [a, b] X.env = [(false, eval a X.env), (false, eval b X.env)] := by rfl) (hs2 : starEach [b] X.env = [(false, eval b X.env)] := by rfl) :
    PID A X (.Tuple es kk ps) (.Call (.Name "zip" p) [a, b] [] pos) (iZipD t1) := by
  with_unfolding_all
    exact (pi_zip hg hm ha hs hs2).imp fun sg H R h => by
      obtain ⟨rho, n, P, ds, vs, I, ht, hQ⟩ := h
      refine ⟨rho, n, _, ds, vs, I, ht, fun ws H' n' es' ⟨os, J⟩ hl k => ?_⟩
      obtain ⟨d1, d2, b1, xs, b2, ys, rfl, h1, h2, k⟩ := k
      obtain ⟨J1, rs⟩ := J.split hl
      obtain ⟨v1, v2, rfl, r1, r2⟩ := reps2 rs
      obtain ⟨a1, us, rfl, sq1, rs1⟩ := r1.seq h1
      obtain ⟨a2, ws', rfl, sq2, rs2⟩ := r2.seq h2
      rw [hK]
      exact ⟨b1, b2, a1, a2, us, ws', rfl, sq1.sq, sq2.sq, hQ _ H' n' _ [d1, d2] [.ref a1, .ref a2] ⟨os, J⟩ rfl (jis_zip h1 h2) k⟩
end
section
variable {A : AC} {X : Cx} {tg iter elt : Expr} {ifs : List Expr} {scope : Scope} {own M : List Str} {pos : Pos} {it : TID} {g : TGD} {tt : TBD} {te : TD}
def dComp (it : TID) (own : Nat) (g : TGD) (tt : TBD) (te : TD) : TD := fun rho n P => it rho n fun items n1 => items.length ≤ sizeLine ∧ ∃ J : Nat → List D → Nat → Prop, J 0 [] n1 ∧
  (∀ i d acc n, items[i]? = some d → J i acc n → g d (List.replicate own none ++ rho) fun rho' => rho'.drop own = rho ∧ tt rho' n fun c n2 => if c = true then te rho' n2 fun e n3 => J (i + 1) (acc ++ [e]) n3 else J (i + 1) acc n2) ∧
  ∀ acc n, J items.length acc n → P (.lst acc) n
def bYes : TBD := fun _ n P => P true n
theorem PTs.imp {X : Cx} {e : List Expr} {t t' : TT} (h : PTs X e t) (hi : ∀ sg H Q, t' sg H Q → t sg H Q) : PTs X e t' := by
  with_unfolding_all
    exact fun pins s sg H Q I q => h pins s sg H Q I (hi _ _ _ q)
theorem ptsd_nil {X : Cx} : PTs X [] (ttOf A bYes) := by
  with_unfolding_all
    exact pts_nil.imp fun sg H Q h => by
      obtain ⟨rho, n, P, ds, vs, I, ht, hQ⟩ := h
      exact hQ true H n I ht
theorem tComp_ofG {sg : St} {H : Hp} {Q : VK} {m : Nat} {rho : Rho} {n : Nat} {P : D → Nat → Prop} {ds : List D} {vs : List V} (I : Am A n rho sg H ds vs) (ht : dComp it m g tt te rho n P)
    (hQ : ∀ os n' H' fs xs p, AmO A os n' rho sg H' ds vs → Reps A.K A.G (Zof A os) H' fs xs → H' p = none → P (.lst fs) n' → Q (.ref p) (upd H' p (.lst xs))) : tComp (iOf A it) m (gOf A m g) (ttOf A tt) (tOf A te) sg H Q := by
  refine ⟨rho, n, _, ds, vs, I, ht, fun J H' n' items es ws I1 hl hJ k => ?_⟩
  obtain ⟨hsz, W, w0, turn, fin⟩ := k
  refine ⟨fun i mm acc H => mm = items.length - i ∧ i ≤ items.length ∧ acc.length ≤ i ∧ ∃ accD n, acc.length = accD.length ∧ Am A n rho sg H (es ++ (accD ++ ds)) (ws ++ (acc ++ vs)) ∧ W i accD n,
    ⟨items.length, rfl, Nat.zero_le _, Nat.le_refl _, [], n', rfl, I1, w0⟩, ?_⟩
  rintro i mm acc H3 ⟨rfl, hi, hai, accD, n3, hal, ⟨os, I3⟩, w3⟩
  obtain ⟨j1, j2⟩ := hJ n3 rho sg H3 (accD ++ ds) (acc ++ vs) i ⟨os, I3⟩
  by_cases hlt : i < items.length
  · refine .inr ⟨(j1 items[i] (by simp [hlt])).1, by lia, fun x H4 y => ?_⟩
    obtain ⟨os4, I4⟩ := (j1 items[i] (by simp [hlt])).2 x H4 y
    refine ⟨List.replicate m none ++ rho, n3, _, items[i], es ++ (accD ++ ds), ws ++ (acc ++ vs), ⟨_, I4.front m⟩, turn i items[i] accD n3 (by simp [hlt]) w3, fun rho' sg' ⟨os5, I5⟩ e5 k5 => ?_⟩
    obtain ⟨k5, k6⟩ := k5
    have e6 : sg'.drop m = sg := by rw [e5, List.drop_left' (by simp)]
    refine ⟨e6, rho', n3, _, es ++ (accD ++ ds), ws ++ (acc ++ vs), ⟨os5, I5⟩, k6, fun c H6 n6 ⟨os6, I6⟩ k7 => ?_⟩
    cases c with
    | false =>
      obtain ⟨os7, I7⟩ := I6.back k5 e6
      exact ⟨items.length - (i + 1), by lia, rfl, hlt, by lia, accD, n6, hal, ⟨os7, I7⟩, k7⟩
    | true =>
      rw [if_pos rfl] at k7 ⊢
      refine ⟨rho', n6, _, es ++ (accD ++ ds), ws ++ (acc ++ vs), ⟨os6, I6⟩, k7, fun v H8 n8 d ⟨os8, I8⟩ k8 => ?_⟩
      obtain ⟨os9, I9⟩ := I8.back k5 e6
      obtain ⟨I10, rv⟩ := I9.pop
      obtain ⟨I11, r1⟩ := I10.split hl
      obtain ⟨I12, r2⟩ := I11.split hal
      refine ⟨items.length - (i + 1), by lia, rfl, hlt, by rw [List.length_append, List.length_singleton]; lia, accD ++ [d], n8, by simp [hal], ⟨os9, (I12.join (r2.append (.cons rv .nil))).join r1⟩, k8⟩
  · have e : i = items.length := by lia
    subst e
    refine .inl ⟨j2 (Nat.le_refl _), Nat.le_trans hai hsz, fun D hD => ?_⟩
    obtain ⟨I4, r1⟩ := I3.split hl
    obtain ⟨I5, r2⟩ := I4.split hal
    exact hQ os n3 _ accD acc D I5 r2 hD (fin accD n3 w3)
theorem tComp_of {sg : St} {H : Hp} {Q : VK} {m : Nat} (h : tOf A (dComp it m g tt te) sg H Q) : tComp (iOf A it) m (gOf A m g) (ttOf A tt) (tOf A te) sg H Q := by
  obtain ⟨rho, n, P, ds, vs, I, ht, hQ⟩ := h
  exact tComp_ofG I ht fun os n' H' fs xs p J r hp k => hQ _ _ n' _ ⟨os, J.newLst r hp⟩ k
theorem pd_comp (ok : CompOk X scope M) (hc : X.calm = true) (hi : PID A X tg iter it) (hg : ∀ C s2 H2 fp, PGD A (cxComp X scope own M C s2 H2 fp) own.length tg g) (ht : ∀ C s2 H2 fp, PTs (cxComp X scope own M C s2 H2 fp) ifs (ttOf A tt))
    (he : ∀ C s2 H2 fp, PD A (cxComp X scope own M C s2 H2 fp) elt te) (hs : ∀ x, foldedSetIterable iter X.env x = pure x := by intro _; rfl) : PD A X (.ListComp elt [⟨tg, iter, ifs, 0⟩] scope pos) (dComp it own.length g tt te) := by
  with_unfolding_all
    exact 
      (pe_comp ok hc hi hg ht he hs).imp fun _ _ _ => tComp_of
end
end L2
set_option maxRecDepth 100000
namespace L2
open PySem PySem.Spec PyProof.Rows
structure EndsD where
  nx : Rho → Nat → Prop
  rt : D → Nat → Prop
  bk : Rho → Nat → Prop := fun _ _ => False
  ct : Rho → Nat → Prop := fun _ _ => False
abbrev TSD := EndsD → Rho → Nat → Prop
structure EOk (A : AC) (E : Ends) (F : EndsD) (ds : List D) (vs : List V) : Prop where
  nx : ∀ rho n sg H, Am A n rho sg H ds vs → F.nx rho n → E.nx sg H
  rt : ∀ d n v rho sg H, Am A n rho sg H (d :: ds) (v :: vs) → F.rt d n → E.rt v H
  bk : ∀ rho n sg H, Am A n rho sg H ds vs → F.bk rho n → E.bk sg H
  ct : ∀ rho n sg H, Am A n rho sg H ds vs → F.ct rho n → E.ct sg H
def sOf (A : AC) (t : TSD) : TS := fun E sg H => ∃ rho n F ds vs, Am A n rho sg H ds vs ∧ t F rho n ∧ EOk A E F ds vs
@[irreducible] def PSD (A : AC) (X : Cx) (s : Stmt) (t : TSD) : Prop := PS X s (sOf A t)
@[irreducible] def PSsD (A : AC) (X : Cx) (s : List Stmt) (t : TSD) : Prop := PSs X s (sOf A t)
section
variable {A : AC} {X : Cx} {st : Stmt} {rest : List Stmt} {t u : TSD} {e a b : Expr} {te : TD} {tc : TBD} {pos : Pos}
def sNext : TSD := fun F rho n => F.nx rho n
def sSeq (t u : TSD) : TSD := fun F rho n => t { F with nx := u F } rho n
theorem pssd_nil : PSsD A X [] sNext := by
  with_unfolding_all
    exact pss_nil.imp fun E sg H h => by
      obtain ⟨rho, n, F, ds, vs, I, ht, ok⟩ := h
      exact ok.nx _ _ _ _ I ht
theorem pssd_cons (h1 : PSD A X st t) (h2 : PSsD A X rest u) : PSsD A X (st :: rest) (sSeq t u) := by
  with_unfolding_all
    exact (pss_cons h1 h2).imp fun E sg H h => by
      obtain ⟨rho, n, F, ds, vs, I, ht, ok⟩ := h
      exact ⟨rho, n, { F with nx := u F }, ds, vs, I, ht, ⟨fun rho' n' sg' H' I' k => ⟨rho', n', F, ds, vs, I', k, ok⟩, ok.rt, ok.bk, ok.ct⟩⟩
theorem pssd_one (h1 : PSD A X st t) : PSsD A X [st] t := by
  with_unfolding_all
    exact pss_one h1
def sRet (te : TD) : TSD := fun F rho n => te rho n F.rt
theorem psd_ret (he : PD A X e te) : PSD A X (.Return (some e) pos) (sRet te) := by
  with_unfolding_all
    exact (ps_ret he).imp fun E sg H h => by
      obtain ⟨rho, n, F, ds, vs, I, ht, ok⟩ := h
      exact ⟨rho, n, _, ds, vs, I, ht, fun v H' n' d I' k => ok.rt _ _ _ _ _ _ I' k⟩
def sIf (c : TBD) (t u : TSD) : TSD := fun F rho n => c rho n fun b n1 => if b = true then t F rho n1 else u F rho n1
theorem psd_if {c : Expr} {sa sb : List Stmt} (hc : PTD A X c tc) (ha : PSsD A X sa t) (hb : PSsD A X sb u) : PSD A X (.If c sa sb pos) (sIf tc t u) := by
  with_unfolding_all
    exact (ps_if hc ha hb).imp fun E sg H h => by
      obtain ⟨rho, n, F, ds, vs, I, ht, ok⟩ := h
      refine ⟨rho, n, _, ds, vs, I, ht, fun c H' n' J k => ?_⟩
      cases c with
      | true => exact ⟨rho, n', F, ds, vs, J, k, ok⟩
      | false => exact ⟨rho, n', F, ds, vs, J, k, ok⟩
def sSet (i : Nat) (te : TD) : TSD := fun F rho n => i < rho.length ∧ te rho n fun d n1 => F.nx (rho.set i (some d)) n1
theorem psd_set {i : Nat} {x : Str} {pos' : Pos} (hN : X.N.Nodup) (hi : X.N[i]? = some x) (hx : Loc X.env.scope x) (he : PD A X e te) (hs : swapsWith e (some (.Name x pos')) pos.line X.env = pure false := by rfl) (hf : X.fn x = true ∨ X.env.scope.names.lookup x = some .local := by first | exact .inl rfl | exact .inr rfl | assumption) :
    PSD A X (.Assign [.Name x pos'] e pos) (sSet i te) := by
  with_unfolding_all
    exact (ps_set hN hi hx he hs hf).imp fun E sg H h => by
      obtain ⟨rho, n, F, ds, vs, I, ⟨hl, ht⟩, ok⟩ := h
      exact ⟨rho, n, _, ds, vs, I, ht, fun v H' n' d ⟨os, J⟩ k => ok.nx _ _ _ _ ⟨_, J.set hl⟩ k⟩
theorem psd_setComp {i : Nat} {x : Str} {pos' spos : Pos} {tg iter elt : Expr} {ifs : List Expr} {scope : Scope} {own M : List Str} {it : TID} {g : TGD} {tt : TBD} (hN : X.N.Nodup) (hix : X.N[i]? = some x) (hx : Loc X.env.scope x) (ok : CompOk X scope M) (hc : X.calm = true) (hi : PID A X tg iter it)
    (hg : ∀ C s2 H2 fp, PGD A (cxComp X scope own M C s2 H2 fp) own.length tg g) (ht : ∀ C s2 H2 fp, PTs (cxComp X scope own M C s2 H2 fp) ifs (ttOf A tt)) (he : ∀ C s2 H2 fp, PD A (cxComp X scope own M C s2 H2 fp) elt te)
    (hsw : swapsWith (.ListComp elt [⟨tg, iter, ifs, 0⟩] scope pos) (some (.Name x pos')) spos.line X.env = pure true := by rfl) (hf : X.fn x = true ∨ X.env.scope.names.lookup x = some .local := by first | exact .inl rfl | exact .inr rfl | assumption)
    (hs : ∀ x, foldedSetIterable iter X.env x = pure x := by intro _; rfl) : PSD A X (.Assign [.Name x pos'] (.ListComp elt [⟨tg, iter, ifs, 0⟩] scope pos) spos) (sSet i (dComp it own.length g tt te)) := by
  with_unfolding_all
    exact 
      (ps_setComp hN hix hx ok hc hi hg ht he hsw hf hs).imp fun E sg H h => by
        obtain ⟨rho, n, F, ds, vs, I, ⟨hl, ht⟩, ok⟩ := h
        exact tComp_of (A := A) ⟨rho, n, _, ds, vs, I, ht, fun v H' n' d ⟨os, J⟩ k => ok.nx _ _ _ _ ⟨_, J.set hl⟩ k⟩
def sUnp (te : TD) (g : TGD) : TSD := fun F rho n => te rho n fun d n1 => g d rho fun rho' => F.nx rho' n1
theorem psd_unp {tg : Expr} {g : TGD} {m : Nat} (he : PD A X e te) (hg : PGD A X m tg g) (hs : swapsWithSole [tg] e pos.line X.env = pure false := by rfl) (hw : swappedStores [tg] e X.env = pure none := by rfl)
    (h1 : (assignEach [tg] X.env).map (·.2) = [assign tg X.env] := by rfl) : PSD A X (.Assign [tg] e pos) (sUnp te g) := by
  with_unfolding_all
    exact (ps_asg he hg hs hw h1).imp fun E sg H h => by
      obtain ⟨rho, n, F, ds, vs, I, ht, ok⟩ := h
      exact ⟨rho, n, _, ds, vs, I, ht, fun v H' n' d J k => ⟨rho, n', _, d, ds, vs, J, k, fun rho' sg' J' _ k' => ok.nx _ _ _ _ J' k'⟩⟩
def sPar (i j : Nat) (t : TAD) : TSD := fun F rho n => i < rho.length ∧ j < rho.length ∧ t rho n fun es n1 => ∃ d d', es = [d, d'] ∧ F.nx ((rho.set i (some d)).set j (some d')) n1
def sFor (it : TID) (g : TGD) (tb : TSD) : TSD := fun F rho n => it rho n fun items n1 => ∃ J : Nat → Rho → Nat → Prop, J 0 rho n1 ∧
  (∀ i d rho n, items[i]? = some d → J i rho n → g d rho fun rho' => tb { F with nx := J (i + 1), ct := J (i + 1), bk := F.nx } rho' n) ∧ ∀ rho n, J items.length rho n → F.nx rho n
theorem psd_for {tg iter : Expr} {body : List Stmt} {it : TID} {g : TGD} {tb : TSD} {m : Nat} (hp : PassesOwn (model X.prog X.w) X.A X.env X.xe) (hc : X.calm = true) (hi : PID A X tg iter it) (hg : PGD A X m tg g) (hb : PSsD A X body tb)
    (hs : ∀ x, foldedSetIterable iter X.env x = pure x := by intro _; rfl) : PSD A X (.For tg iter body [] pos) (sFor it g tb) := by
  with_unfolding_all
    exact (ps_for hp hc hi hg hb hs).imp fun E sg H h => by
      obtain ⟨rho, n, F, ds, vs, I, ht, ok⟩ := h
      refine ⟨rho, n, _, ds, vs, I, ht, fun J H' n' items es ws I1 hl hJ k => ?_⟩
      obtain ⟨W, w0, turn, fin⟩ := k
      refine ⟨fun i mm sg H => mm = items.length - i ∧ i ≤ items.length ∧ ∃ rho n, Am A n rho sg H (es ++ ds) (ws ++ vs) ∧ W i rho n, ⟨items.length, rfl, Nat.zero_le _, rho, n', I1, w0⟩, ?_⟩
      rintro i mm sg3 H3 ⟨rfl, hi, rho3, n3, I3, w3⟩
      obtain ⟨j1, j2⟩ := hJ n3 rho3 sg3 H3 ds vs i I3
      by_cases hlt : i < items.length
      · refine .inr ⟨(j1 items[i] (by simp [hlt])).1, fun sg' H' => ∃ rho n, Am A n rho sg' H' (es ++ ds) (ws ++ vs) ∧ W (i + 1) rho n, fun sg' H' ⟨rho', n', I', w'⟩ => ⟨items.length - (i + 1), by lia, rfl, hlt, rho', n', I', w'⟩, fun x H4 y => ?_⟩
        have I4 := (j1 items[i] (by simp [hlt])).2 x H4 y
        refine ⟨rho3, n3, _, items[i], es ++ ds, ws ++ vs, I4, turn i items[i] rho3 n3 (by simp [hlt]) w3, fun rho' sg' I5 _ k5 => ⟨rho', n3, { F with nx := W (i + 1), ct := W (i + 1), bk := F.nx }, es ++ ds, ws ++ vs, I5, k5, ?_⟩⟩
        refine ⟨fun rho6 n6 sg6 H6 I6 k6 => ⟨rho6, n6, I6, k6⟩, fun d n6 v rho6 sg6 H6 ⟨os6, I6⟩ k6 => ok.rt _ _ _ _ _ _ ⟨os6, I6.under hl⟩ k6, fun rho6 n6 sg6 H6 ⟨os6, I6⟩ k6 => ok.nx _ _ _ _ ⟨os6, (I6.split hl).1⟩ k6, fun rho6 n6 sg6 H6 I6 k6 => ⟨rho6, n6, I6, k6⟩⟩
      · have e : i = items.length := by lia
        subst e
        obtain ⟨os, I3⟩ := I3
        exact .inl ⟨j2 (Nat.le_refl _), ok.nx _ _ _ _ ⟨os, (I3.split hl).1⟩ (fin rho3 n3 w3)⟩
def sDrop (te : TD) : TSD := fun F rho n => te rho n fun _ n1 => F.nx rho n1
theorem AmO.setOwn {os : List (Nat × Addr)} {n : Nat} {rho : Rho} {sg : St} {H : Hp} {ds es : List D} {vs xs : List V} {i : Nat} {p : Addr} (I : AmO A os n rho sg H ds vs) (hi : i < rho.length) (hp : H p = none) (r : Reps A.K A.G (Zof A os) H es xs) :
    ∃ os', AmO A os' n (rho.set i (some (.own es))) (sg.set i (some (.ref p))) (upd H p (.lst xs)) ds vs := by
  have hf : ∀ a u, H a = some u → upd H p (.lst xs) a = some u := fun a u e => by rw [upd_ne (ne_of_none e hp)]; exact e
  refine ⟨(i, p) :: os.filter fun q => decide (q.1 ≠ i), ?_⟩
  have zz : ∀ a, H a ≠ none → Zof A ((i, p) :: os.filter fun q => decide (q.1 ≠ i)) a → Zof A os a := fun a ha z => by
    rcases z with z | ⟨q, hq, e⟩
    · exact .inl z
    · rcases List.mem_cons.mp hq with rfl | hq
      · exact absurd (by rw [← e]; exact hp) ha
      · exact .inr ⟨q, (List.mem_filter.mp hq).1, e⟩
  have h0 : A.H0 p = none := by
    cases q : A.H0 p with
    | none => rfl
    | some o =>
      by_cases e : A.G = some p
      · obtain ⟨x, y, z, w, _⟩ := I.st p e
        rw [w] at hp; cases hp
      · have := I.fr p o e q
        rw [this] at hp; cases hp
  refine ⟨by simp [I.len], fun j c e => ?_, Reps.mono zz (fun a u _ e => hf a u e) _ _ I.pend, ?_, fun q hq => ?_, fun a e => ?_, I.gz, fun a u h e => hf a u (I.fr a u h e), I.z0⟩
  · by_cases hj : j = i
    · subst hj
      rw [List.getElem?_set_self hi] at e
      cases e
      exact ⟨.ref p, List.getElem?_set_self (by rw [← I.len]; exact hi), p, xs, rfl, List.mem_cons_self, upd_same, Reps.mono zz (fun a u _ e => hf a u e) _ _ r⟩
    · rw [List.getElem?_set_ne (Ne.symm hj)] at e
      obtain ⟨u, e1, e2⟩ := I.slot j c e
      exact ⟨u, by rw [List.getElem?_set_ne (Ne.symm hj)]; exact e1, SlotR.mono zz (fun a u _ e => hf a u e) (fun a ys m q => ⟨List.mem_cons_of_mem _ (List.mem_filter.mpr ⟨m, by simpa using hj⟩), hf a _ q⟩) _ _ e2⟩
  · refine List.pairwise_cons.mpr ⟨fun q hq => ?_, I.nd.filter _⟩
    obtain ⟨m1, m2⟩ := List.mem_filter.mp hq
    refine ⟨fun z => by simp [← z] at m2, fun z => (I.fresh q m1).2.2.ne ?_⟩
    have z' : p = q.2 := z
    rw [← z']; exact hp
  · rcases List.mem_cons.mp hq with rfl | hq
    · exact ⟨h0, fun z => (I.z0 p z).ne h0, by show Hot (upd H p _ p); rw [upd_same]; exact Hot.lst⟩
    · obtain ⟨f1, f2, f3⟩ := I.fresh q (List.mem_filter.mp hq).1
      exact ⟨f1, f2, f3.of fun u w => hf _ _ w⟩
  · obtain ⟨x, y, z, q, rr⟩ := I.st a e
    exact ⟨x, y, z, hf _ _ q, rr⟩
def sOwn (i : Nat) (t : TAD) : TSD := fun F rho n => i < rho.length ∧ t rho n fun es n1 => es.length ≤ sizeLine ∧ F.nx (rho.set i (some (.own es))) n1
theorem psd_own {i : Nat} {x : Str} {pos' pos2 : Pos} {els : List Expr} {ta : TAD} (hN : X.N.Nodup) (hi : X.N[i]? = some x) (hx : Loc X.env.scope x) (ha : PAD A X els ta) (hf : X.fn x = true ∨ X.env.scope.names.lookup x = some .local := by first | exact .inl rfl | exact .inr rfl | assumption)
    (hs : swapsWith (.List els pos2) (some (.Name x pos')) pos.line X.env = pure false := by rfl) : PSD A X (.Assign [.Name x pos'] (.List els pos2) pos) (sOwn i ta) := by
  with_unfolding_all
    exact (ps_set hN hi hx (pe_lst ha) hs hf).imp fun E sg H h => by
      obtain ⟨rho, n, F, ds, vs, I, ⟨hl, ht⟩, ok⟩ := h
      refine ⟨rho, n, _, ds, vs, I, ht, fun ws H' n' es ⟨os, J⟩ hlen k => ⟨by rw [hlen]; exact k.1, fun p hp => ?_⟩⟩
      obtain ⟨J1, rs⟩ := J.split hlen
      exact ok.nx _ _ _ _ (J1.setOwn hl hp rs) k.2
theorem AmO.own {os : List (Nat × Addr)} {n : Nat} {rho : Rho} {sg : St} {H : Hp} {ds es es' : List D} {vs xs' : List V} {i : Nat} (I : AmO A os n rho sg H ds vs) (hi : rho[i]? = some (some (.own es))) :
    ∃ a xs, sg[i]? = some (some (.ref a)) ∧ H a = some (.lst xs) ∧ Reps A.K A.G (Zof A os) H es xs ∧ ∀ es' xs', Reps A.K A.G (Zof A os) H es' xs' → AmO A os n (rho.set i (some (.own es'))) sg (upd H a (.lst xs')) ds vs := by
  obtain ⟨v, e1, a, xs, rfl, hm, hH, rs⟩ := I.slot i _ hi
  have hil : i < rho.length := (List.getElem?_eq_some_iff.mp hi).1
  have za : Zof A os a := .inr ⟨_, hm, rfl⟩
  have hf : ∀ (xs' : List V) b u, ¬ Zof A os b → H b = some u → upd H a (.lst xs') b = some u := fun xs' b u nz e => by
    rw [upd_ne fun z => nz (by rw [z]; exact za)]; exact e
  have uniq : ∀ j, (j, a) ∈ os → j = i := fun j hj => by
    by_cases hji : j = i
    · exact hji
    · have key : ∀ (l : List (Nat × Addr)), l.Pairwise (fun p q => p.1 ≠ q.1 ∧ p.2 ≠ q.2) → (j, a) ∈ l → (i, a) ∈ l → False := by
        intro l
        induction l with
        | nil => intro _ h; simp at h
        | cons c l ih =>
          intro hp h1 h2
          obtain ⟨p1, p2⟩ := List.pairwise_cons.mp hp
          rcases List.mem_cons.mp h1 with e1 | h1 <;> rcases List.mem_cons.mp h2 with e2 | h2
          · rw [← e2] at e1; exact hji (Prod.mk.inj e1).1
          · exact (p1 _ h2).2 (by rw [← e1])
          · exact (p1 _ h1).2 (by rw [← e2])
          · exact ih p2 h1 h2
      exact (key os I.nd hj hm).elim
  obtain ⟨fa1, fa2, fa3⟩ := I.fresh _ hm
  refine ⟨a, xs, e1, hH, rs, fun es' xs' r => ⟨by simp [I.len], fun j c e => ?_, Reps.mono (fun _ _ z => z) (hf xs') _ _ I.pend, I.nd, fun q hq => ?_, fun b e => ?_, I.gz, fun b u h e => ?_, I.z0⟩⟩
  · by_cases hj : j = i
    · subst hj
      rw [List.getElem?_set_self hil] at e
      cases e
      exact ⟨.ref a, e1, a, xs', rfl, hm, upd_same, Reps.mono (fun _ _ z => z) (hf xs') _ _ r⟩
    · rw [List.getElem?_set_ne (Ne.symm hj)] at e
      obtain ⟨u, e2, e3⟩ := I.slot j c e
      exact ⟨u, e2, SlotR.mono (fun _ _ z => z) (hf xs') (fun b ys m q => ⟨m, by rw [upd_ne fun z => hj (uniq j (by rw [← z]; exact m))]; exact q⟩) _ _ e3⟩
  · obtain ⟨f1, f2, f3⟩ := I.fresh q hq
    refine ⟨f1, f2, ?_⟩
    by_cases e : q.2 = a
    · rw [e, upd_same]; exact Hot.lst
    · rw [upd_ne e]; exact f3
  · obtain ⟨x, y, z, q, rr⟩ := I.st b e
    exact ⟨x, y, z, by rw [upd_ne fun w => fa2 (by rw [← w]; exact I.gz b e)]; exact q, rr⟩
  · rw [upd_ne fun w => by rw [w, fa1] at e; cases e]
    exact I.fr b u h e
theorem AmO.freeze {os : List (Nat × Addr)} {n : Nat} {rho : Rho} {sg : St} {H : Hp} {ds es : List D} {vs : List V} {i : Nat} (I : AmO A os n rho sg H ds vs) (hi : rho[i]? = some (some (.own es))) : ∃ os', AmO A os' n (rho.set i (some (.lst es))) sg H ds vs := by
  obtain ⟨v, e1, a, xs, rfl, hm, hH, rs⟩ := I.slot i _ hi
  have hil : i < rho.length := (List.getElem?_eq_some_iff.mp hi).1
  refine ⟨os.filter fun q => decide (q.1 ≠ i), ?_⟩
  have sub : ∀ b, H b ≠ none → Zof A (os.filter fun p => decide (p.1 ≠ i)) b → Zof A os b := fun b _ z => by
    rcases z with z | ⟨p, hp, e⟩
    · exact .inl z
    · exact .inr ⟨p, (List.mem_filter.mp hp).1, e⟩
  have key : ∀ (l : List (Nat × Addr)), l.Pairwise (fun p q => p.1 ≠ q.1 ∧ p.2 ≠ q.2) → (i, a) ∈ l → ∀ q ∈ l, q.2 = a → q.1 = i := by
    intro l
    induction l with
    | nil => intro _ h; simp at h
    | cons c l ih =>
      intro hp h1 q hq hqa
      obtain ⟨p1, p2⟩ := List.pairwise_cons.mp hp
      rcases List.mem_cons.mp h1 with e1 | h1 <;> rcases List.mem_cons.mp hq with e2 | h2
      · rw [e2, ← e1]
      · exact absurd (by rw [← e1, hqa]) (p1 _ h2).2
      · exact absurd (by rw [← e2, hqa]) (p1 _ h1).2
      · exact ih p2 h1 q h2 hqa
  refine ⟨by simp [I.len], fun j c e => ?_, Reps.mono sub (fun _ _ _ e => e) _ _ I.pend, I.nd.filter _, fun p hp => I.fresh p (List.mem_filter.mp hp).1, I.st, I.gz, I.fr, I.z0⟩
  by_cases hj : j = i
  · subst hj
    rw [List.getElem?_set_self hil] at e
    cases e
    refine ⟨.ref a, e1, Rep.lst_mk ⟨fun z => ?_, hH⟩ (Reps.mono sub (fun _ _ _ e => e) _ _ rs)⟩
    rcases z with z | ⟨p, hp, e⟩
    · exact (I.fresh _ hm).2.1 z
    · obtain ⟨m1, m2⟩ := List.mem_filter.mp hp
      have := key os I.nd hm p m1 e
      simp [this] at m2
  · rw [List.getElem?_set_ne (Ne.symm hj)] at e
    obtain ⟨u, e2, e3⟩ := I.slot j c e
    exact ⟨u, e2, SlotR.mono sub (fun _ _ _ e => e) (fun b ys m q => ⟨List.mem_filter.mpr ⟨m, by simpa using hj⟩, q⟩) _ _ e3⟩
def sFrz (i : Nat) (t : TSD) : TSD := fun F rho n => ∃ es, rho[i]? = some (some (.own es)) ∧ t F (rho.set i (some (.lst es))) n
theorem psd_frz (i : Nat) (h : PSD A X st t) : PSD A X st (sFrz i t) := by
  with_unfolding_all
    exact PS.imp h fun E sg H q => by
      obtain ⟨rho, n, F, ds, vs, ⟨os, I⟩, ⟨es, hi, ht⟩, ok⟩ := q
      exact ⟨_, n, F, ds, vs, I.freeze hi, ht, ok⟩
end
end L2
set_option maxRecDepth 100000
namespace L2
open PySem PySem.Spec PyProof.Rows
section
variable {A : AC} {X : Cx} {e a b : Expr} {es : List Expr} {te ta tb : TD} {t1 : TAD} {pos : Pos}
def sAppend (i : Nat) (t : TAD) : TSD := fun F rho n => ∃ es, rho[i]? = some (some (.own es)) ∧ es.length < sizeLine ∧ t rho n fun ds n1 => ∃ d, ds = [d] ∧ F.nx (rho.set i (some (.own (es ++ [d])))) n1
theorem psd_append {i : Nat} {x : Str} {px apos cpos : Pos} (ha : PAD A X [e] t1) (hK : X.K = A.K) (hN : X.N[i]? = some x := by rfl) (hv : Vis X.env.scope x := by first | exact Or.inl rfl | exact Or.inr (Or.inl rfl) | exact Or.inr (Or.inr rfl)) (hd : (x == ("__debug__" : Str)) = false := by decide)
    (hcd : (x == ("__classdict__" : Str)) = false := by decide) (hbase : attributeBase (.Name x px) "append" X.env (eval (.Name x px) X.env) = eval (.Name x px) X.env := by rfl)
    (hfew : ((backTo cpos (starEach [e] X.env)).all (fun x => !x.1) && (backToKw cpos (keywordEach [] X.env)).all (fun x => x.1.isSome)
      && decide ([e].length + ([] : List Keyword).length + (if ([] : List Keyword).isEmpty then 0 else 1) < 30)) = true := by rfl)
    (hline : (apos.endLine == cpos.line) = true := by rfl) (hs : starEach [e] X.env = (false, eval e X.env) :: starEach [] X.env := by rfl) (hplain : (backTo cpos (starEach [] X.env)).any (·.1) = false := by rfl)
    (hsw : swapsWith (.Call (.Attribute (.Name x px) "append" apos) [e] [] cpos) none pos.line X.env = pure false := by rfl) :
    PSD A X (.Expr (.Call (.Attribute (.Name x px) "append" apos) [e] [] cpos) pos) (sAppend i t1) := by
  with_unfolding_all
    exact 
      (ps_expr (pe_bm PySem.F.plainAttrs_list PySem.F.slot_list_append PySem.F.type_list_append mt_append (pe_var hN hv hd hcd) ha hbase hfew hline hs hplain) hsw).imp fun E sg H h => by
        obtain ⟨rho, n, F, ds, vs, ⟨os, I⟩, ⟨es, hi, hz, ht⟩, ok⟩ := h
        obtain ⟨a, xs, e1, hH, rs, _⟩ := I.own (es' := es) (xs' := []) hi
        refine ⟨.ref a, e1, .inl ⟨rfl, xs, SqL.of hH⟩, rho, n, _, ds, vs, ⟨os, I⟩, ht, fun ws H' n' fs ⟨os', J⟩ hl k => ?_⟩
        obtain ⟨d, rfl, k⟩ := k
        obtain ⟨J1, rs1⟩ := J.split hl
        obtain ⟨v, rfl, r⟩ := reps1 rs1
        obtain ⟨a', xs', e2, hH', rs', up⟩ := J1.own (es' := es) (xs' := []) hi
        rw [e1] at e2
        cases e2
        exact ⟨a, xs', v, rfl, rfl, hH', by rw [rs'.length]; exact hz, ok.nx _ _ _ _ ⟨os', up _ _ (rs'.append (.cons r .nil))⟩ k⟩
def ownAt (o : Option (Option D)) (p : List D → Prop) : Prop := ∃ es, o = some (some (.own es)) ∧ p es
def dOwnIx (i : Nat) (tb : TD) : TD := fun rho n P => ownAt rho[i]? fun es => tb rho n fun d n1 => ∃ j c, d = .int j ∧ atI es j = some c ∧ P c n1
theorem pd_ownIx {i : Nat} {x : Str} {px : Pos} (hb : PD A X b tb) (hpl : PlainIx b) (hN : X.N[i]? = some x := by rfl) (hv : Vis X.env.scope x := by first | exact Or.inl rfl | exact Or.inr (Or.inl rfl) | exact Or.inr (Or.inr rfl)) (hd : (x == ("__debug__" : Str)) = false := by decide)
    (hcd : (x == ("__classdict__" : Str)) = false := by decide) : PD A X (.Subscript (.Name x px) b pos) (dOwnIx i tb) := by
  with_unfolding_all
    exact 
      (pe_ix ix_list (pe_var hN hv hd hcd) hb hpl).imp fun sg H Q h => by
        obtain ⟨rho, n, P, ds, vs, ⟨os, I⟩, ⟨es, hi, ht⟩, hQ⟩ := h
        obtain ⟨a, xs, e1, hH, rs, _⟩ := I.own (es' := es) (xs' := []) hi
        refine ⟨.ref a, e1, rho, n, _, ds, vs, ⟨os, I⟩, ht, fun v H' n' d ⟨os', J⟩ k => ?_⟩
        obtain ⟨j, c, rfl, hc, k⟩ := k
        obtain ⟨J1, r⟩ := J.pop
        obtain ⟨a', xs', e2, hH', rs', _⟩ := J1.own (es' := es) (xs' := []) hi
        rw [e1] at e2
        cases e2
        obtain ⟨w, e3, rw'⟩ := atI_rep rs' hc
        exact ⟨a, xs', j, w, rfl, r.int_inv, SqL.of hH', e3, hQ w H' n' c ⟨os', J1.push rw'⟩ k⟩
def sOwnSet (i : Nat) (te tb : TD) : TSD := fun F rho n => ownAt rho[i]? fun es => te rho n fun d n1 => tb rho n1 fun d2 n2 => ∃ j m, d2 = .int j ∧ ixN es.length j = some m ∧ F.nx (rho.set i (some (.own (es.set m d)))) n2
def dStIx (i : Nat) (tb : TD) : TD := fun rho n P => rho[i]? = some (some .st) ∧ tb rho n fun d n1 => ∃ j : Int, d = .int j ∧ 0 ≤ j ∧ j < n1 ∧ ∀ z : Int, 0 ≤ z → (j = 1 → z < 2147483647) → P (.int z) n1
theorem ixN_of {n : Nat} {i : Int} (h0 : 0 ≤ i) (h1 : i < n) : ixN n i = some i.toNat := by unfold ixN; rw [if_pos h0, if_pos h1]
theorem pd_stIx {i : Nat} {x : Str} {px : Pos} (hb : PD A X b tb) (hpl : PlainIx b) (hN : X.N[i]? = some x := by rfl) (hv : Vis X.env.scope x := by first | exact Or.inl rfl | exact Or.inr (Or.inl rfl) | exact Or.inr (Or.inr rfl)) (hd : (x == ("__debug__" : Str)) = false := by decide)
    (hcd : (x == ("__classdict__" : Str)) = false := by decide) : PD A X (.Subscript (.Name x px) b pos) (dStIx i tb) := by
  with_unfolding_all
    exact 
      (pe_ix ix_list (pe_var hN hv hd hcd) hb hpl).imp fun sg H Q h => by
        obtain ⟨rho, n, P, ds, vs, ⟨os, I⟩, ⟨hi, ht⟩, hQ⟩ := h
        obtain ⟨v, e1, e2⟩ := I.slot i _ hi
        obtain ⟨a, ha, rfl⟩ : ∃ a, A.G = some a ∧ v = .ref a := by
          have e3 := SlotR.rep (d := .st) rfl e2
          unfold Rep at e3
          exact e3
        refine ⟨.ref a, e1, rho, n, _, ds, vs, ⟨os, I⟩, ht, fun w H' n' d ⟨os', J⟩ k => ?_⟩
        obtain ⟨j, rfl, h0, h3, k⟩ := k
        obtain ⟨J1, r⟩ := J.pop
        obtain ⟨zs, _, _, hH, p1, p2, p3⟩ := J1.st a ha
        obtain ⟨jn, rfl⟩ := Int.eq_ofNat_of_zero_le h0
        have hjl : jn < zs.length := by lia
        have ej : zs[jn]? = some zs[jn] := List.getElem?_eq_getElem hjl
        refine ⟨a, _, (jn : Int), .int zs[jn], rfl, r.int_inv, SqL.of hH, ?_, hQ _ H' n' _ ⟨os', J1.push (Rep.ofS (d := .int zs[jn]) rfl)⟩ (k zs[jn] (p2 _ (List.getElem_mem hjl)) fun e => p3 _ (by rw [← ej]; congr 1; lia))⟩
        unfold atI
        rw [ixN_of (by lia) (by rw [List.length_map]; lia)]
        simp [hjl]
theorem ints_set (zs : List Int) (j : Nat) (z : Int) : (zs.map V.int).set j (.int z) = (zs.set j z).map V.int := by rw [List.map_set]
theorem AmO.setSt {os : List (Nat × Addr)} {n : Nat} {rho : Rho} {sg : St} {H : Hp} {ds : List D} {vs : List V} {a : Addr} {zs : List Int} (I : AmO A os n rho sg H ds vs) (ha : A.G = some a) (h : zs.length = n ∧ (∀ x ∈ zs, 0 ≤ x) ∧ ∀ x, zs[1]? = some x → x < 2147483647) :
    AmO A os n rho sg (upd H a (.lst (zs.map V.int))) ds vs := by
  have za : Zof A os a := .inl (I.gz a ha)
  have hf : ∀ b u, ¬ Zof A os b → H b = some u → upd H a (.lst (zs.map V.int)) b = some u := fun b u nz e => by
    rw [upd_ne fun w => nz (by rw [w]; exact za)]; exact e
  have no : ∀ p ∈ os, p.2 ≠ a := fun p hp e => (I.fresh p hp).2.1 (by rw [e]; exact I.gz a ha)
  refine ⟨I.len, fun j c e => ?_, Reps.mono (fun _ _ w => w) hf _ _ I.pend, I.nd, fun q hq => ?_, fun b e => ?_, I.gz, fun b u h e => ?_, I.z0⟩
  · obtain ⟨u, e1, e2⟩ := I.slot j c e
    exact ⟨u, e1, SlotR.mono (fun _ _ w => w) hf (fun b ys m q => ⟨m, by rw [upd_ne (no _ m)]; exact q⟩) _ _ e2⟩
  · obtain ⟨f1, f2, f3⟩ := I.fresh q hq
    exact ⟨f1, f2, by rw [upd_ne (no q hq)]; exact f3⟩
  · rw [ha] at e
    cases e
    exact ⟨zs, 0, 0, upd_same, h⟩
  · rw [upd_ne fun w => h (by rw [w]; exact ha)]
    exact I.fr b u h e
def sStSet (i : Nat) (te tb : TD) : TSD := fun F rho n => rho[i]? = some (some .st) ∧ te rho n fun d n1 => tb rho n1 fun d2 n2 => ∃ j z : Int, d = .int z ∧ d2 = .int j ∧ 0 ≤ j ∧ j < n2 ∧ 0 ≤ z ∧ (j = 1 → z < 2147483647) ∧ F.nx rho n2
theorem psd_stSet {i : Nat} {x : Str} {px ps : Pos} (he : PD A X e te) (hb : PD A X b tb) (hN : X.N[i]? = some x := by rfl) (hv : Vis X.env.scope x := by first | exact Or.inl rfl | exact Or.inr (Or.inl rfl) | exact Or.inr (Or.inr rfl)) (hd : (x == ("__debug__" : Str)) = false := by decide)
    (hcd : (x == ("__classdict__" : Str)) = false := by decide) (ha : ∀ v, assign (.Subscript (.Name x px) b ps) X.env v = (do
      let ov ← holding [v] (eval (.Name x px) X.env)
      let iv ← holding [v, ov] (eval b X.env)
      standAt ps
      holding [v, ov, iv] (setItem ov iv v)
      release [v, ov, iv] []) := by intro _; rfl) (hs : swapsWithSole [.Subscript (.Name x px) b ps] e pos.line X.env = pure false := by rfl) (hw : swappedStores [.Subscript (.Name x px) b ps] e X.env = pure none := by rfl)
    (h1 : (assignEach [.Subscript (.Name x px) b ps] X.env).map (·.2) = [assign (.Subscript (.Name x px) b ps) X.env] := by rfl) :
    PSD A X (.Assign [.Subscript (.Name x px) b ps] e pos) (sStSet i te tb) := by
  with_unfolding_all
    exact 
      (ps_asg he (pg_sub (pe_var hN hv hd hcd) hb set_list ha) hs hw h1).imp fun E sg H h => by
        obtain ⟨rho, n, F, ds, vs, ⟨os, I⟩, ⟨hi, ht⟩, ok⟩ := h
        obtain ⟨v, e1, e2⟩ := I.slot i _ hi
        obtain ⟨a, hG, rfl⟩ : ∃ a, A.G = some a ∧ v = .ref a := by
          have e3 := SlotR.rep (d := .st) rfl e2
          unfold Rep at e3
          exact e3
        refine ⟨rho, n, _, ds, vs, ⟨os, I⟩, ht, fun v H' n' d J k => ⟨.ref a, e1, rho, n', _, d :: ds, v :: vs, J, k, fun w H2 n2 d2 ⟨os2, J2⟩ k2 => ?_⟩⟩
        obtain ⟨j, z, rfl, rfl, h0, h3, hz, h2, k2⟩ := k2
        obtain ⟨J3, r2⟩ := J2.pop
        obtain ⟨J4, r1⟩ := J3.pop
        obtain ⟨zs, _, _, hH, p1, p2, p3⟩ := J4.st a hG
        rw [r1.int_inv, r2.int_inv]
        obtain ⟨jn, rfl⟩ := Int.eq_ofNat_of_zero_le h0
        have hjl : jn < zs.length := by lia
        refine ⟨a, _, (jn : Int), jn, rfl, rfl, hH, by rw [ixN_of (by lia) (by rw [List.length_map]; lia)]; simp, ?_⟩
        rw [ints_set]
        refine ok.nx _ _ _ _ ⟨os2, J4.setSt hG ⟨by rw [List.length_set]; exact p1, fun x hx => ?_, fun x hx => ?_⟩⟩ k2
        · rcases List.mem_or_eq_of_mem_set hx with hx | rfl
          · exact p2 x hx
          · exact hz
        · by_cases e : jn = 1
          · subst e
            rw [List.getElem?_set_self hjl] at hx
            cases hx
            exact h2 rfl
          · rw [List.getElem?_set_ne e] at hx
            exact p3 x hx
def cutL (es : List D) (lo hi : Option Int) : List D := (es.drop (HT.sIx es.length 0 lo)).take (HT.sIx es.length es.length hi - HT.sIx es.length 0 lo)
theorem reps_cut {K : PySem.W.Frag} {G : Option Addr} {Z : Addr → Prop} {H : Hp} {fs : List D} {xs : List V} (h : Reps K G Z H fs xs) (lo hi : Option Int) : Reps K G Z H (cutL fs lo hi) (cutV xs lo hi) := by
  unfold cutL cutV
  rw [h.length]
  exact (h.drop _).take _
def dSlL (lo hi : Option Int) (ta : TD) : TD := fun rho n P => ta rho n fun d n1 => ∃ fs, (d = .lst fs ∨ d = .fz fs) ∧ P (.lst (cutL fs lo hi)) n1
def enumD (es : List D) : List D := es.zipIdx.map fun p => .tup [.int (p.2 : Nat), p.1]
def iEnumD (t : TAD) : TID := fun rho n P => t rho n fun es n1 => ∃ fs, es = [.lst fs] ∧ P (enumD fs) n1
end
abbrev TF := List D → Nat → (D → Nat → Prop) → Prop
def spD (K : PySem.W.Frag) (k : Nat) (t : TF) : Sp := fun vs H Q _ => ∃ (G : Option Addr) (Z : Addr → Prop) (n : Nat) (P : D → Nat → Prop) (ds : List D), ds.length = k ∧ Reps K G Z H ds vs ∧ StOk G n H ∧ (∀ a, G = some a → Z a) ∧ (∀ a, Z a → Hot (H a)) ∧ t ds n P ∧
  ∀ v H' n' d, (∀ a o, G ≠ some a → H a = some o → H' a = some o) → StOk G n' H' → Rep K G Z H' d v → P d n' → Q v H'
def startD (N : List Str) (ds : List D) : Rho := ds.map some ++ List.replicate (N.length - ds.length) none
theorem amo_start {K : PySem.W.Frag} {G : Option Addr} {Z : Addr → Prop} {H : Hp} {N : List Str} {ds : List D} {vs : List V} {n : Nat} (rs : Reps K G Z H ds vs) (st : StOk G n H) (gz : ∀ a, G = some a → Z a) (z0 : ∀ a, Z a → Hot (H a)) :
    AmO ⟨K, G, Z, H⟩ [] n (startD N ds) (start N vs) H [] [] := by
  have hl := rs.length
  have zz : ∀ a, Zof ⟨K, G, Z, H⟩ [] a → Z a := fun a z => by
    rcases z with z | ⟨p, hp, _⟩
    · exact z
    · simp at hp
  have rs' : Reps K G (Zof ⟨K, G, Z, H⟩ []) H ds vs := Reps.mono (fun a _ z => zz a z) (fun _ _ _ e => e) _ _ rs
  refine ⟨by simp [startD, start, hl], fun i d e => ?_, .nil, .nil, fun p hp => by simp at hp, st, gz, fun a o _ e => e, z0⟩
  unfold startD at e
  by_cases hi : i < ds.length
  · rw [List.getElem?_append_left (by simpa using hi), List.getElem?_map] at e
    cases q : ds[i]? with
    | none => rw [q] at e; cases e
    | some c =>
      rw [q] at e
      cases e
      obtain ⟨v, e1, r⟩ := rs'.get q
      refine ⟨v, ?_, SlotR.of r⟩
      unfold start
      rw [List.getElem?_append_left (by rw [List.length_map, hl]; exact hi), List.getElem?_map, e1]
      rfl
  · rw [List.getElem?_append_right (by simpa using hi), List.getElem?_replicate] at e
    split at e <;> cases e
section
variable {P : Program} {w : World} {K : PySem.W.Frag} {mg : Str → Option Value} {base : Heap}
theorem Fun.okD {x qual : Str} {st : Stmt} {f : Addr} {fd : FuncData} {N ps : List Str} {k : Nat} {t : TF} {tb : TSD} (F : Fun K x qual st f fd) (S : FnScope N ps (defScope st))
    (body : ∀ (cdv : Value) (A0 : Around) (outer : List Env) (s : Shared) (H : Hp) (E : XK) (G : Option Addr) (Z : Addr → Prop), Room k (A0.deeper (envOfC qual (defScope st) s.heap.objs.size f cdv)) →
      PSsD ⟨K, G, Z, H⟩ (cxOf CX0 P w K mg base N qual (defScope st) f cdv A0 outer s H E).nox (defBody st) tb)
    (spec : ∀ ds n Q, ds.length = ps.length → t ds n Q → tb { nx := fun _ n => Q .non n, rt := Q } (startD N ds) n) : FnOk P w K mg base CX0 (k + 1) f fd ps (spD K ps.length t) := by
  with_unfolding_all
    exact (by
      refine F.ok S (fun vs H Q E h => ?_) (fun cdv A0 outer s H vs Q E hr h => ?_)
      · obtain ⟨G, Z, n, R, ds, hl, rs, _⟩ := h
        rw [rs.length]; exact hl
      · obtain ⟨G, Z, n, R, ds, hl, rs, hst, gz, z0, ht, hQ⟩ := h
        refine ⟨_, body cdv A0 outer s H E G Z hr, startD N ds, n, _, [], [], ⟨[], amo_start rs hst gz z0⟩, spec ds n R hl ht, ?_⟩
        have zz : ∀ (os : List (Nat × Addr)) a, Z a → Zof ⟨K, G, Z, H⟩ os a := fun os a z => .inl z
        refine ⟨fun rho' n' sg' H' ⟨os, I⟩ q => ?_, fun d n' v rho' sg' H' ⟨os, I⟩ q => ?_, fun _ _ _ _ _ q => q.elim, fun _ _ _ _ _ q => q.elim⟩
        · exact hQ .non H' n' .non I.fr I.st (Rep.ofS rfl) q
        · exact hQ v H' n' d I.fr I.st (Rep.mono (fun a _ z => zz os a z) (fun _ _ _ e => e) _ _ I.pop.2) q)
end
section
variable {A : AC} {X : Cx} {e : Expr} {es : List Expr} {t1 : TAD} {pos p : Pos}
def dFn (k : Nat) (t : TF) (t1 : TAD) : TD := fun rho n P => t1 rho n fun es n1 => es.length = k ∧ t es n1 P
theorem AmO.called {os : List (Nat × Addr)} {n n' : Nat} {rho : Rho} {sg : St} {H H' : Hp} {ds : List D} {vs : List V} (I : AmO A os n rho sg H ds vs) (fr : ∀ a o, A.G ≠ some a → H a = some o → H' a = some o) (st : StOk A.G n' H') : AmO A os n' rho sg H' ds vs := by
  have hf : ∀ b u, ¬ Zof A os b → H b = some u → H' b = some u := fun b u nz e => fr b u (fun z => nz (.inl (I.gz b z))) e
  have no : ∀ p ∈ os, A.G ≠ some p.2 := fun p hp e => (I.fresh p hp).2.1 (I.gz _ e)
  refine ⟨I.len, fun j c e => ?_, Reps.mono (fun _ _ w => w) hf _ _ I.pend, I.nd, fun q hq => ?_, st, I.gz, fun b u h e => fr b u h (I.fr b u h e), I.z0⟩
  · obtain ⟨u, e1, e2⟩ := I.slot j c e
    exact ⟨u, e1, SlotR.mono (fun _ _ w => w) hf (fun b ys m q => ⟨m, fr _ _ (no _ m) q⟩) _ _ e2⟩
  · obtain ⟨f1, f2, f3⟩ := I.fresh q hq
    exact ⟨f1, f2, f3.of fun u z => fr _ _ (no q hq) z⟩
theorem pd_call {x : Str} {f : Addr} {fd : FuncData} {ps : List Str} {t : TF} {kk k : Nat} (F : FnOk X.prog X.w X.K X.mg X.base CX0 kk f fd ps (spD X.K k t)) (hr : Room kk X.A) (hm : X.mg x = some (.ref f)) (hk : PySem.W.keepIn X.K (.ref f) = true) (hb : Binds X.K fd ps []) (hK : X.K = A.K)
    (ha : PAD A X (e :: es) t1) (hg : Gl X x := by rfl) (hdb : (x == ("__debug__" : Str)) = false := by decide) (he : starEach (e :: es) X.env = (false, eval e X.env) :: starEach es X.env := by rfl) (hpl : (backTo pos (starEach es X.env)).any (·.1) = false := by rfl) :
    PD A X (.Call (.Name x p) (e :: es) [] pos) (dFn k t t1) := by
  with_unfolding_all
    exact (pe_call F hr hg hm hk hb .nil pass0 ha hdb he hpl).imp fun sg H Q h => by
      obtain ⟨rho, n, R, ds, vs, I, ht, hQ⟩ := h
      refine ⟨rho, n, _, ds, vs, I, ht, fun ws H' n' es' ⟨os, J⟩ hl k => ?_⟩
      obtain ⟨J1, rs⟩ := J.split hl
      rw [List.append_nil, hK]
      refine ⟨A.G, Zof A os, n', R, es', k.1, rs, J1.st, fun a z => .inl (J1.gz a z), J1.zHot, k.2, fun v H2 n2 d fr st r q => hQ v H2 n2 d ⟨os, (J1.called fr st).push r⟩ q⟩
end
end L2
set_option maxRecDepth 100000
namespace L2
open PySem PySem.Spec PyProof.Rows
section
variable {A : AC} {X : Cx} {tg a : Expr} {ta : TD} {pos p : Pos}
def iSeq2 (K : PySem.W.Frag) (tl : TE) : TI := fun sg H R => tl sg H fun x H1 => ∃ l, x = .ref l ∧ (((∃ xs, SqL K H1 l xs) ∧ R (Itl K l) H1) ∨ ((∃ xs, SqT K H1 l xs) ∧ R (Itt K l) H1))
theorem pi_seq2 {l : Expr} {tl : TE} (hl : PE X l tl) : PI X tg l (iSeq2 X.K tl) := by
  intro pins s sg H R I h
  refine thn (hl pins s sg H _ I h) fun v s1 ⟨x, H1, I1, r1, q1⟩ => ?_
  obtain ⟨c, e, q1⟩ := q1
  subst e
  cases r1
  have new : ∀ b ∈ [s1.heap.objs.size], FpOk X pins H1 b := fun b hb => by
    obtain rfl : b = s1.heap.objs.size := by simpa using hb
    exact I1.fpOk (Nat.le_refl _) (I1.hok.fresh (Nat.le_refl _))
  rcases q1 with ⟨⟨xs, hq⟩, q⟩ | ⟨⟨xs, hq⟩, q⟩
  · obtain ⟨its, rv, pl, hz⟩ := I1.list hq
    exact wpAny_pyIter_list pl.isList ⟨s1.heap.objs.size, [s1.heap.objs.size], _, _, H1, rfl, I1.kept (t' := s1.toks) fun b o e => Heap.get?_push_of_some _ e, turn_list c _, ⟨_, Heap.get?_push_size _ rfl, rfl, rfl⟩, new, q⟩
  · obtain ⟨its, rv, pl, hz⟩ := I1.tuple hq
    exact wpAny_pyIter_tuple (show s1.heap.IsTuple c its.toArray from pl) ⟨s1.heap.objs.size, [s1.heap.objs.size], _, _, H1, rfl, I1.kept (t' := s1.toks) fun b o e => Heap.get?_push_of_some _ e, turn_tuple c _, ⟨_, Heap.get?_push_size _ rfl, rfl, rfl⟩, new, q⟩
def iSeqD (ta : TD) : TID := fun rho n P => ta rho n fun d n1 => ∃ es, (d = .lst es ∨ d = .tup es) ∧ P es n1
theorem pid_seq (hK : X.K = A.K) (ha : PD A X a ta) : PID A X tg a (iSeqD ta) := by
  with_unfolding_all
    exact (pi_seq2 ha).imp fun sg H R h => by
      obtain ⟨rho, n, P, ds, vs, I, ht, hQ⟩ := h
      refine ⟨rho, n, _, ds, vs, I, ht, fun v H' n' d ⟨os, J⟩ k => ?_⟩
      obtain ⟨es, hd, k⟩ := k
      have r := J.pop.2
      rw [hK]
      rcases hd with rfl | rfl
      · obtain ⟨l, xs, rfl, sq, rs⟩ := r.lst_inv
        refine ⟨l, rfl, .inl ⟨⟨xs, sq.sq⟩, hQ _ H' n' es [.lst es] [.ref l] ⟨os, J⟩ rfl (fun n2 rho2 sg2 H2 ds2 vs2 i ⟨os2, I2⟩ => ?_) k⟩⟩
        obtain ⟨I3, r2⟩ := AmO.pop (d := .lst es) (v := .ref l) (ds := ds2) (vs := vs2) I2
        obtain ⟨l', xs2, e, sq2, rs2⟩ := r2.lst_inv
        cases e
        refine ⟨fun d e => ?_, fun hi => ⟨xs2, sq2.sq, by rw [rs2.length]; exact hi⟩⟩
        obtain ⟨v, e1, rv⟩ := rs2.get e
        refine ⟨⟨xs2, v, sq2.sq, e1⟩, fun x H3 y => ?_⟩
        obtain ⟨e3, y⟩ := y
        subst e3
        have e4 := y xs2 sq2.sq
        rw [e1] at e4; cases e4
        exact ⟨os2, I2.push rv⟩
      · obtain ⟨l, xs, rfl, sq, rs⟩ := r.tup_inv
        refine ⟨l, rfl, .inr ⟨⟨xs, sq.sq⟩, hQ _ H' n' es [.tup es] [.ref l] ⟨os, J⟩ rfl (fun n2 rho2 sg2 H2 ds2 vs2 i ⟨os2, I2⟩ => ?_) k⟩⟩
        obtain ⟨I3, r2⟩ := AmO.pop (d := .tup es) (v := .ref l) (ds := ds2) (vs := vs2) I2
        obtain ⟨l', xs2, e, sq2, rs2⟩ := r2.tup_inv
        cases e
        refine ⟨fun d e => ?_, fun hi => ⟨xs2, sq2.sq, by rw [rs2.length]; exact hi⟩⟩
        obtain ⟨v, e1, rv⟩ := rs2.get e
        refine ⟨⟨xs2, v, sq2.sq, e1⟩, fun x H3 y => ?_⟩
        obtain ⟨e3, y⟩ := y
        subst e3
        have e4 := y xs2 sq2.sq
        rw [e1] at e4; cases e4
        exact ⟨os2, I2.push rv⟩
end
structure Fn (P : Program) (w : World) (K : PySem.W.Frag) (mg : Str → Option Value) (base : Heap) (x : Str) (kk k : Nat) (t : TF) : Prop where
  ex : ∃ (f : Addr) (fd : FuncData) (ps : List Str), FnOk P w K mg base CX0 kk f fd ps (spD K k t) ∧ mg x = some (.ref f) ∧ PySem.W.keepIn K (.ref f) = true ∧ Binds K fd ps []
theorem pd_fn {A : AC} {X : Cx} {e : Expr} {es : List Expr} {t1 : TAD} {pos p : Pos} {x : Str} {t : TF} {kk k : Nat} (F : Fn X.prog X.w X.K X.mg X.base x kk k t) (hr : Room kk X.A) (hK : X.K = A.K)
    (ha : PAD A X (e :: es) t1) (hg : Gl X x := by rfl) (hdb : (x == ("__debug__" : Str)) = false := by decide) (he : starEach (e :: es) X.env = (false, eval e X.env) :: starEach es X.env := by rfl) (hpl : (backTo pos (starEach es X.env)).any (·.1) = false := by rfl) :
    PD A X (.Call (.Name x p) (e :: es) [] pos) (dFn k t t1) := by
  with_unfolding_all
    exact (by
      obtain ⟨f, fd, ps, h1, h2, h3, h4⟩ := F.ex
      exact pd_call h1 hr h2 h3 h4 hK ha hg hdb he hpl)
structure Blt (mg : Str → Option Value) : Prop where
  len : mg "len" = none
  abs : mg "abs" = none
  all : mg "all" = none
  any : mg "any" = none
  isi : mg "isinstance" = none
  int : mg "int" = none
  bool : mg "bool" = none
  str : mg "str" = none
  tuple : mg "tuple" = none
  list : mg "list" = none
  range : mg "range" = none
  zip : mg "zip" = none
  enum : mg "enumerate" = none
  max : mg "max" = none
  min : mg "min" = none
  sorted : mg "sorted" = none
theorem bt_len : bootBuiltins "len" = some (.builtin "len") := by decide +kernel
theorem bt_all : bootBuiltins "all" = some (.builtin "all") := by decide +kernel
theorem bt_isi : bootBuiltins "isinstance" = some (.builtin "isinstance") := by decide +kernel
theorem bt_int : bootBuiltins "int" = some (.type "int") := by decide +kernel
theorem bt_bool : bootBuiltins "bool" = some (.type "bool") := by decide +kernel
theorem bt_str : bootBuiltins "str" = some (.type "str") := by decide +kernel
theorem bt_tuple : bootBuiltins "tuple" = some (.type "tuple") := by decide +kernel
end L2
set_option maxRecDepth 100000
namespace L2
open PySem PySem.Spec PyProof.Rows
def isB (d : D) (p : Bool → Prop) : Prop := ∃ c, d = .bl c ∧ p c
@[simp] theorem q_isB {b : Bool} {p : Bool → Prop} : isB (.bl b) p ↔ p b := ⟨fun ⟨_, e, h⟩ => by cases e; exact h, fun h => ⟨_, rfl, h⟩⟩
@[simp] theorem q_sNext {F rho n} : sNext F rho n = F.nx rho n := rfl
@[simp] theorem q_sSeq {t u F rho n} : sSeq t u F rho n = t { F with nx := u F } rho n := rfl
@[simp] theorem q_sRet {te F rho n} : sRet te F rho n = te rho n F.rt := rfl
@[simp] theorem q_sIf {c t u F rho n} : sIf c t u F rho n = c rho n fun b n1 => if b = true then t F rho n1 else u F rho n1 := rfl
@[simp] theorem q_sSet {i te F rho n} : sSet i te F rho n = (i < rho.length ∧ te rho n fun d n1 => F.nx (rho.set i (some d)) n1) := rfl
@[simp] theorem q_sUnp {te g F rho n} : sUnp te g F rho n = te rho n fun d n1 => g d rho fun rho' => F.nx rho' n1 := rfl
@[simp] theorem q_sOwn {i t F rho n} : sOwn i t F rho n = (i < rho.length ∧ t rho n fun es n1 => es.length ≤ sizeLine ∧ F.nx (rho.set i (some (.own es))) n1) := rfl
@[simp] theorem q_sDrop {te F rho n} : sDrop te F rho n = te rho n fun _ n1 => F.nx rho n1 := rfl
@[simp] theorem q_sFrz {i t F rho n} : sFrz i t F rho n = ∃ es, rho[i]? = some (some (.own es)) ∧ t F (rho.set i (some (.lst es))) n := rfl
@[simp] theorem q_sAppend {i t F rho n} : sAppend i t F rho n = ∃ es, rho[i]? = some (some (.own es)) ∧ es.length < sizeLine ∧ t rho n fun ds n1 => ∃ d, ds = [d] ∧ F.nx (rho.set i (some (.own (es ++ [d])))) n1 := rfl
@[simp] theorem q_gdName {i d rho P} : gdName i d rho P = (i < rho.length ∧ P (rho.set i (some d))) := rfl
@[simp] theorem q_dVar {i rho n P} : dVar i rho n P = atV rho[i]? fun d => P d n := rfl
@[simp] theorem q_atV {d k} : atV (some (some d)) k = atD d k := rfl
@[simp] theorem q_atD1 {k} : atD .non k = k .non := rfl
@[simp] theorem q_atD2 {k b} : atD (.bl b) k = k (.bl b) := rfl
@[simp] theorem q_atD3 {k b} : atD (.int b) k = k (.int b) := rfl
@[simp] theorem q_atD4 {k b} : atD (.str b) k = k (.str b) := rfl
@[simp] theorem q_atD5 {k b} : atD (.tup b) k = k (.tup b) := rfl
@[simp] theorem q_atD6 {k b} : atD (.lst b) k = k (.lst b) := rfl
@[simp] theorem q_atD7 {k b} : atD (.fz b) k = k (.fz b) := rfl
@[simp] theorem q_atD8 {k} : atD .st k = k .st := rfl
@[simp] theorem q_atD9 {k a b} : atD (.dct a b) k = k (.dct a b) := rfl
@[simp] theorem q_atD {d k} (h : notOwn d = true) : atD d k = k d := propext ⟨fun z => (atD_inv z).2, atD_mk h⟩
@[simp] theorem q_dC {d rho n P} : dC d rho n P = P d n := rfl
@[simp] theorem q_dOp {rd ta tb rho n P} : dOp rd ta tb rho n P = ta rho n fun d1 n1 => tb rho n1 fun d2 n2 => rd d1 d2 fun d => P d n2 := rfl
@[simp] theorem q_dTest {t rho n P} : dTest t rho n P = t rho n fun d n' => isB d fun b => P b n' := rfl
@[simp] theorem q_rdIsN {d1 d2 k} : rdIsN d1 d2 k = (d2 = .non ∧ k (.bl (isNon d1))) := rfl
@[simp] theorem q_rdNotN {d1 d2 k} : rdNotN d1 d2 k = (d2 = .non ∧ k (.bl (!isNon d1))) := rfl
@[simp] theorem q_bAnd {t u rho n P} : bAnd t u rho n P = t rho n fun c n1 => if c = true then u rho n1 P else P false n1 := rfl
@[simp] theorem q_bOr {t u rho n P} : bOr t u rho n P = t rho n fun c n1 => if c = true then P true n1 else u rho n1 P := rfl
@[simp] theorem q_bNot {t rho n P} : bNot t rho n P = t rho n fun c n1 => P (!c) n1 := rfl
@[simp] theorem q_bYes {rho n P} : bYes rho n P = P true n := rfl
@[simp] theorem q_dAnd {ta tb rho n P} : dAnd ta tb rho n P = ta rho n fun d n1 => isB d fun c => if c = true then tb rho n1 P else P (.bl false) n1 := rfl
@[simp] theorem q_dOr {ta tb rho n P} : dOr ta tb rho n P = ta rho n fun d n1 => isB d fun c => if c = true then P (.bl true) n1 else tb rho n1 P := rfl
@[simp] theorem q_dNot {ta rho n P} : dNot ta rho n P = ta rho n fun d n1 => isB d fun c => P (.bl (!c)) n1 := rfl
@[simp] theorem q_dIf {t ta tb rho n P} : dIf t ta tb rho n P = t rho n fun c n1 => if c = true then ta rho n1 P else tb rho n1 P := rfl
@[simp] theorem q_aNil {rho n P} : aNil rho n P = P [] n := rfl
@[simp] theorem q_aCons {t r rho n P} : aCons t r rho n P = t rho n fun d n1 => r rho n1 fun ds n2 => P (d :: ds) n2 := rfl
@[simp] theorem q_dTup {t rho n P} : dTup t rho n P = t rho n fun ds n1 => ds.length ≤ sizeLine ∧ P (.tup ds) n1 := rfl
@[simp] theorem q_dLst {t rho n P} : dLst t rho n P = t rho n fun ds n1 => ds.length ≤ sizeLine ∧ P (.lst ds) n1 := rfl
@[simp] theorem q_dCall {rd t rho n P} : dCall rd t rho n P = t rho n fun es n1 => rd es fun d => P d n1 := rfl
@[simp] theorem q_dFn {k t t1 rho n P} : dFn k t t1 rho n P = t1 rho n fun es n1 => es.length = k ∧ t es n1 P := rfl
@[simp] theorem q_iSeqD {ta rho n P} : iSeqD ta rho n P = ta rho n fun d n1 => ∃ es, (d = .lst es ∨ d = .tup es) ∧ P es n1 := rfl
@[simp] theorem q_iRngD {t rho n P} : iRngD t rho n P = t rho n fun es n1 => ∃ j : Int, es = [.int j] ∧ -(2 ^ 62) ≤ j ∧ j < 2 ^ 62 ∧ P (rngD 0 j.toNat) n1 := rfl
@[simp] theorem q_iEnumD {t rho n P} : iEnumD t rho n P = t rho n fun es n1 => ∃ fs, es = [.lst fs] ∧ P (enumD fs) n1 := rfl
@[simp] theorem q_dSlL {lo hi ta rho n P} : dSlL lo hi ta rho n P = ta rho n fun d n1 => ∃ fs, (d = .lst fs ∨ d = .fz fs) ∧ P (.lst (cutL fs lo hi)) n1 := rfl
@[simp] theorem q_gdNil {rho P} : gdNil [] rho P ↔ P rho := ⟨fun h => h.2, fun h => ⟨rfl, h⟩⟩
@[simp] theorem q_gdCons {g gs d r rho P} : gdCons g gs (d :: r) rho P ↔ g d rho fun rho' => gs r rho' P := ⟨fun ⟨_, _, e, h⟩ => by cases e; exact h, fun h => ⟨_, _, rfl, h⟩⟩
@[simp] theorem q_gdTup {k gs es rho P} : gdTup k gs (.tup es) rho P ↔ (es.length = k ∧ gs es rho P) := ⟨fun ⟨_, e, h⟩ => by cases e; exact h, fun h => ⟨_, rfl, h⟩⟩
@[simp] theorem q_rdI {C g i j k} : rdI C g (.int i) (.int j) k = (C i j ∧ k (g i j)) := rfl
@[simp] theorem q_rdI0 {g i j k} : rdI0 g (.int i) (.int j) k = k (g i j) := rfl
@[simp] theorem q_rdB {f c d k} : rdB f (.bl c) (.bl d) k = k (.bl (f c d)) := rfl
@[simp] theorem q_rdIxL {es i k} : rdIx (.lst es) (.int i) k ↔ ∃ d, atI es i = some d ∧ k d := ⟨fun ⟨_, _, d, e, e', h⟩ => by cases e' ; rcases e with e | e | e <;> cases e; exact ⟨d, h⟩, fun ⟨d, h⟩ => ⟨_, _, d, .inl rfl, rfl, h⟩⟩
@[simp] theorem q_rdIxT {es i k} : rdIx (.tup es) (.int i) k ↔ ∃ d, atI es i = some d ∧ k d := ⟨fun ⟨_, _, d, e, e', h⟩ => by cases e' ; rcases e with e | e | e <;> cases e; exact ⟨d, h⟩, fun ⟨d, h⟩ => ⟨_, _, d, .inr (.inl rfl), rfl, h⟩⟩
@[simp] theorem q_rdIxF {es i k} : rdIx (.fz es) (.int i) k ↔ ∃ d, atI es i = some d ∧ k d := ⟨fun ⟨_, _, d, e, e', h⟩ => by cases e' ; rcases e with e | e | e <;> cases e; exact ⟨d, h⟩, fun ⟨d, h⟩ => ⟨_, _, d, .inr (.inr rfl), rfl, h⟩⟩
@[simp] theorem q_rdCat {es fs k} : rdCat (.lst es) (.lst fs) k ↔ (es.length + fs.length ≤ sizeLine ∧ k (.lst (es ++ fs))) := ⟨fun ⟨_, _, e, e', h⟩ => by cases e; cases e'; exact h, fun h => ⟨_, _, rfl, rfl, h⟩⟩
@[simp] theorem q_rdRepT {es i k} : rdRepT (.tup es) (.int i) k ↔ (es ≠ [] ∧ 1 ≤ i ∧ es.length * i.toNat ≤ sizeLine ∧ k (.tup (List.replicate i.toNat es).flatten)) := ⟨fun ⟨_, _, e, e', h⟩ => by cases e; cases e'; exact h, fun h => ⟨_, _, rfl, rfl, h⟩⟩
def pair2 (es : List D) (p : D → D → Prop) : Prop := ∃ d d', es = [d, d'] ∧ p d d'
@[simp] theorem q_pair2 {a b p} : pair2 [a, b] p ↔ p a b := ⟨fun ⟨_, _, e, h⟩ => by cases e; exact h, fun h => ⟨_, _, rfl, h⟩⟩
@[simp] theorem q_sPar {i j t F rho n} : sPar i j t F rho n = (i < rho.length ∧ j < rho.length ∧ t rho n fun es n1 => pair2 es fun d d' => F.nx ((rho.set i (some d)).set j (some d')) n1) := rfl
@[simp] theorem q_rdEqI {i j : Int} {k} : rdEq (.int i) (.int j) k ↔ k (.bl (decide (i = j))) := by
  have e : decide (ofS (.int i) = ofS (.int j)) = decide (i = j) := by simp [ofS]
  unfold rdEq
  rw [e]
  exact ⟨fun h => h.2.2.2, fun h => ⟨rfl, rfl, rfl, h⟩⟩
@[simp] theorem q_rdEqB {i j : Bool} {k} : rdEq (.bl i) (.bl j) k ↔ k (.bl (decide (i = j))) := by
  have e : decide (ofS (.bl i) = ofS (.bl j)) = decide (i = j) := by simp [ofS]
  unfold rdEq
  rw [e]
  exact ⟨fun h => h.2.2.2, fun h => ⟨rfl, rfl, rfl, h⟩⟩
@[simp] theorem q_rdNeI {i j : Int} {k} : rdNe (.int i) (.int j) k ↔ k (.bl (!decide (i = j))) := by
  have e : decide (ofS (.int i) = ofS (.int j)) = decide (i = j) := by simp [ofS]
  unfold rdNe
  rw [e]
  exact ⟨fun h => h.2.2.2, fun h => ⟨rfl, rfl, rfl, h⟩⟩
@[simp] theorem q_rdNeB {i j : Bool} {k} : rdNe (.bl i) (.bl j) k ↔ k (.bl (!decide (i = j))) := by
  have e : decide (ofS (.bl i) = ofS (.bl j)) = decide (i = j) := by simp [ofS]
  unfold rdNe
  rw [e]
  exact ⟨fun h => h.2.2.2, fun h => ⟨rfl, rfl, rfl, h⟩⟩
@[simp] theorem q_kLenL {fs k} : kLen [.lst fs] k ↔ k (.int fs.length) := ⟨fun ⟨_, e, h⟩ => by rcases e with e | e | e <;> cases e; exact h, fun h => ⟨_, .inl rfl, h⟩⟩
@[simp] theorem q_kLenT {fs k} : kLen [.tup fs] k ↔ k (.int fs.length) := ⟨fun ⟨_, e, h⟩ => by rcases e with e | e | e <;> cases e; exact h, fun h => ⟨_, .inr (.inl rfl), h⟩⟩
@[simp] theorem q_kLenF {fs k} : kLen [.fz fs] k ↔ k (.int fs.length) := ⟨fun ⟨_, e, h⟩ => by rcases e with e | e | e <;> cases e; exact h, fun h => ⟨_, .inr (.inr rfl), h⟩⟩
@[simp] theorem q_kAbs {i k} : kAbs [.int i] k ↔ k (.int (if i < 0 then -i else i)) := ⟨fun ⟨_, e, h⟩ => by cases e; exact h, fun h => ⟨_, rfl, h⟩⟩
@[simp] theorem q_kIntB {i k} : kIntB [.bl i] k ↔ k (.int (if i then 1 else 0)) := ⟨fun ⟨_, e, h⟩ => by cases e; exact h, fun h => ⟨_, rfl, h⟩⟩
@[simp] theorem q_kTupleL {fs k} : kTuple [.lst fs] k ↔ k (.tup fs) := ⟨fun ⟨_, e, h⟩ => by rcases e with e | e <;> cases e; exact h, fun h => ⟨_, .inl rfl, h⟩⟩
@[simp] theorem q_kTupleT {fs k} : kTuple [.tup fs] k ↔ k (.tup fs) := ⟨fun ⟨_, e, h⟩ => by rcases e with e | e <;> cases e; exact h, fun h => ⟨_, .inr rfl, h⟩⟩
@[simp] theorem q_kListL {fs k} : kList [.lst fs] k ↔ k (.lst fs) := ⟨fun ⟨_, e, h⟩ => by rcases e with e | e <;> cases e; exact h, fun h => ⟨_, .inl rfl, h⟩⟩
@[simp] theorem q_kListT {fs k} : kList [.tup fs] k ↔ k (.lst fs) := ⟨fun ⟨_, e, h⟩ => by rcases e with e | e <;> cases e; exact h, fun h => ⟨_, .inr rfl, h⟩⟩
@[simp] theorem q_dStIx {i tb rho n P} : dStIx i tb rho n P = (rho[i]? = some (some .st) ∧ tb rho n fun d n1 => ∃ j : Int, d = .int j ∧ 0 ≤ j ∧ j < n1 ∧ ∀ z : Int, 0 ≤ z → (j = 1 → z < 2147483647) → P (.int z) n1) := rfl
@[simp] theorem q_sStSet {i te tb F rho n} : sStSet i te tb F rho n = (rho[i]? = some (some .st) ∧ te rho n fun d n1 => tb rho n1 fun d2 n2 => ∃ j z : Int, d = .int z ∧ d2 = .int j ∧ 0 ≤ j ∧ j < n2 ∧ 0 ≤ z ∧ (j = 1 → z < 2147483647) ∧ F.nx rho n2) := rfl
@[simp] theorem q_no1 : notOwn .non = true := rfl
@[simp] theorem q_no2 {b} : notOwn (.bl b) = true := rfl
@[simp] theorem q_no3 {b} : notOwn (.int b) = true := rfl
@[simp] theorem q_no4 {b} : notOwn (.str b) = true := rfl
@[simp] theorem q_no5 {b} : notOwn (.tup b) = true := rfl
@[simp] theorem q_no6 {b} : notOwn (.lst b) = true := rfl
@[simp] theorem q_no7 : notOwn .st = true := rfl
@[simp] theorem q_no8 {b} : notOwn (.fz b) = true := rfl
@[simp] theorem q_in1 : isNon .non = true := rfl
@[simp] theorem q_in2 {b} : isNon (.bl b) = false := rfl
@[simp] theorem q_in3 {b} : isNon (.int b) = false := rfl
@[simp] theorem q_in4 {b} : isNon (.str b) = false := rfl
@[simp] theorem q_in5 {b} : isNon (.tup b) = false := rfl
@[simp] theorem q_in6 {b} : isNon (.lst b) = false := rfl
@[simp] theorem q_so1 {b} : seqOf (.lst b) = some (true, b) := rfl
@[simp] theorem q_so2 {b} : seqOf (.tup b) = some (false, b) := rfl
@[simp] theorem q_size0 : (0 ≤ sizeLine) = True := by simp
@[simp] theorem q_size1 : (1 ≤ sizeLine) = True := by simp [sizeLine]
@[simp] theorem q_size2 : (2 ≤ sizeLine) = True := by simp [sizeLine]
@[simp] theorem q_size3 : (3 ≤ sizeLine) = True := by simp [sizeLine]
@[simp] theorem q_size4 : (4 ≤ sizeLine) = True := by simp [sizeLine]
@[simp] theorem q_size5 : (5 ≤ sizeLine) = True := by simp [sizeLine]
@[simp] theorem q_size6 : (6 ≤ sizeLine) = True := by simp [sizeLine]
@[simp] theorem q_size7 : (7 ≤ sizeLine) = True := by simp [sizeLine]
theorem le_size {k : Nat} (h : k ≤ 1000 := by decide) : k ≤ sizeLine := Nat.le_trans h (by decide)
theorem lt_size {k : Nat} (h : k ≤ 1000 := by decide) : k < sizeLine := Nat.lt_of_le_of_lt h (by decide)
def compIn (own : Nat) (g : TGD) (tt : TBD) (te : TD) (rho : Rho) (P : D → Nat → Prop) (items : List D) (n1 : Nat) : Prop := items.length ≤ sizeLine ∧ ∃ J : Nat → List D → Nat → Prop, J 0 [] n1 ∧
  (∀ i d acc n, items[i]? = some d → J i acc n → g d (List.replicate own none ++ rho) fun rho' => rho'.drop own = rho ∧ tt rho' n fun c n2 => if c = true then te rho' n2 fun e n3 => J (i + 1) (acc ++ [e]) n3 else J (i + 1) acc n2) ∧
  ∀ acc n, J items.length acc n → P (.lst acc) n
@[simp] theorem q_dComp {it own g tt te rho n P} : dComp it own g tt te rho n P = it rho n (compIn own g tt te rho P) := rfl
def loopIn (g : TGD) (tb : TSD) (F : EndsD) (rho : Rho) (items : List D) (n1 : Nat) : Prop := ∃ J : Nat → Rho → Nat → Prop, J 0 rho n1 ∧
  (∀ i d rho n, items[i]? = some d → J i rho n → g d rho fun rho' => tb { F with nx := J (i + 1), ct := J (i + 1), bk := F.nx } rho' n) ∧ ∀ rho n, J items.length rho n → F.nx rho n
@[simp] theorem q_sFor {it g tb F rho n} : sFor it g tb F rho n = it rho n (loopIn g tb F rho) := rfl
theorem comp_map {it : TID} {own : Nat} {g : TGD} {te : TD} {rho : Rho} {n : Nat} {P : D → Nat → Prop} {α : Type} (enc : α → D) (f : α → D) (xs : List α)
    (hi : ∀ R, R (xs.map enc) n → it rho n R) (hz : xs.length ≤ sizeLine) (he : ∀ x ∈ xs, ∀ Q, Q (f x) n → g (enc x) (List.replicate own none ++ rho) fun rho' => rho'.drop own = rho ∧ te rho' n Q) (hP : P (.lst (xs.map f)) n) : dComp it own g bYes te rho n P := by
  refine hi _ ⟨by simpa using hz, fun i acc n' => n' = n ∧ acc = (xs.take i).map f, ⟨rfl, rfl⟩, ?_, ?_⟩
  · rintro i d acc n' e ⟨rfl, rfl⟩
    rw [List.getElem?_map] at e
    cases q : xs[i]? with
    | none => rw [q] at e; cases e
    | some x =>
      rw [q] at e
      cases e
      have hm : x ∈ xs := List.mem_of_getElem? q
      refine he x hm (fun e n3 => n3 = n' ∧ (xs.take i).map f ++ [e] = (xs.take (i + 1)).map f) ⟨rfl, ?_⟩
      rw [List.take_add_one, q]
      simp
  · rintro acc n' ⟨rfl, rfl⟩
    rw [List.length_map, List.take_length]
    exact hP
end L2
namespace L2
open PySem PySem.Spec PyProof.Rows
theorem atI_lt {α : Type} {xs : List α} {i : Int} (h0 : 0 ≤ i) (h1 : i < xs.length) : ∃ d, atI xs i = some d ∧ d ∈ xs := by
  obtain ⟨k, rfl⟩ := Int.eq_ofNat_of_zero_le h0
  have hk : k < xs.length := by lia
  exact ⟨xs[k], atI_nat (by simp [hk]), List.getElem_mem hk⟩
@[simp] theorem q_at0 {α : Type} {a : α} {l : List α} : atI (a :: l) 0 = some a := atI_nat (j := 0) rfl
@[simp] theorem q_at1 {α : Type} {a b : α} {l : List α} : atI (a :: b :: l) 1 = some b := atI_nat (j := 1) rfl
@[simp] theorem q_at2 {α : Type} {a b c : α} {l : List α} : atI (a :: b :: c :: l) 2 = some c := atI_nat (j := 2) rfl
@[simp] theorem q_ownAt {es p} : ownAt (some (some (.own es))) p ↔ p es := ⟨fun ⟨_, e, h⟩ => by cases e; exact h, fun h => ⟨_, rfl, h⟩⟩
@[simp] theorem q_dOwnIx {i tb rho n P} : dOwnIx i tb rho n P = ownAt rho[i]? fun es => tb rho n fun d n1 => ∃ j c, d = .int j ∧ atI es j = some c ∧ P c n1 := rfl
@[simp] theorem q_sOwnSet {i te tb F rho n} : sOwnSet i te tb F rho n = ownAt rho[i]? fun es => te rho n fun d n1 => tb rho n1 fun d2 n2 => ∃ j m, d2 = .int j ∧ ixN es.length j = some m ∧ F.nx (rho.set i (some (.own (es.set m d)))) n2 := rfl
@[simp] theorem q_ix30 : ixN 3 0 = some 0 := rfl
@[simp] theorem q_ix31 : ixN 3 1 = some 1 := rfl
@[simp] theorem q_ix32 : ixN 3 2 = some 2 := rfl
end L2
set_option maxRecDepth 100000
namespace L2
open PySem PySem.Spec PyProof.Rows
def spLawD (K : PySem.W.Frag) : Sp := fun vs H Q _ => ∃ (a : Addr) (ns : List Int), vs = [.ref a] ∧ Only H ∧ SqL K H a (ns.map V.int) ∧ ns.length ≤ 63 ∧ ∀ H', Q (.bl true) H'
def scriptD (ns : List Int) : D := .fz (ns.map D.int)
theorem reps_ints {K : PySem.W.Frag} {G : Option Addr} {Z : Addr → Prop} {H : Hp} : ∀ {ns : List Int}, Reps K G Z H (ns.map D.int) (ns.map V.int)
  | [] => .nil
  | n :: ns => .cons (Rep.ofS (d := .int n) rfl) reps_ints
theorem reps_ints_inv {K : PySem.W.Frag} {G : Option Addr} {Z : Addr → Prop} {H : Hp} : ∀ {ns : List Int} {xs : List V}, Reps K G Z H (ns.map D.int) xs → xs = ns.map V.int
  | [], xs, h => by unfold Reps at h; exact h
  | n :: ns, xs, h => by
    obtain ⟨v, r, rfl, h1, h2⟩ := Reps.split h
    rw [h1.int_inv, reps_ints_inv h2]; rfl
section
variable {P : Program} {w : World} {K : PySem.W.Frag} {mg : Str → Option Value} {base : Heap}
theorem Fun.okLaw {x qual : Str} {st : Stmt} {f : Addr} {fd : FuncData} {N : List Str} {p : Str} {k : Nat} {t : TSD} (F : Fun K x qual st f fd) (S : FnScope N [p] (defScope st)) (n0 : Nat)
    (body : ∀ (cdv : Value) (A0 : Around) (outer : List Env) (s : Shared) (H : Hp) (E : XK), Room k (A0.deeper (envOfC qual (defScope st) s.heap.objs.size f cdv)) →
      PSsD ⟨K, none, fun _ => False, H⟩ (cxOf CX0 P w K mg base N qual (defScope st) f cdv A0 outer s H E).nox (defBody st) t)
    (h1 : ∀ (ns : List Int), ns.length ≤ 63 → t { nx := fun _ _ => False, rt := fun d _ => d = .bl true } (startD N [scriptD ns]) n0) : FnOk P w K mg base CX0 (k + 1) f fd [p] (spLawD K) := by
  with_unfolding_all
    exact (by
      refine F.ok S (fun vs H Q E h => ?_) (fun cdv A0 outer s H vs Q E hr h => ?_)
      · obtain ⟨a, ns, rfl, _⟩ := h
        rfl
      · obtain ⟨a, ns, rfl, hO, hS, hl, k⟩ := h
        refine ⟨_, body cdv A0 outer s H E hr, ?_⟩
        have rs : Reps K none (fun _ => False) H [scriptD ns] [.ref a] := by
          refine .cons ?_ .nil
          unfold scriptD Rep
          refine ⟨a, ns.map V.int, rfl, ?_, reps_ints⟩
          rcases hS with (q | ⟨o, q⟩) | q
          · rcases hO a with z | ⟨o, xs, z⟩
            · rw [z] at q; cases q
            · rw [z] at q; cases q
          · exact .inl ⟨fun z => z, o, q⟩
          · exact .inr (.inr q)
        refine ⟨startD N [scriptD ns], n0, _, [], [], ⟨[], amo_start rs (fun b e => by cases e) (fun b e => by cases e) (fun b e => e.elim)⟩, h1 ns hl, ?_⟩
        refine ⟨fun _ _ _ _ _ q => q.elim, fun d n v rho2 sg2 H2 ⟨os2, I2⟩ q => ?_, fun _ _ _ _ _ q => q.elim, fun _ _ _ _ _ q => q.elim⟩
        subst q
        rw [I2.pop.2.bl_inv]
        exact k H2)
end
@[simp] theorem q_noScript {ns : List Int} : notOwn (scriptD ns) = true := rfl
@[simp] theorem q_lenScript {ns : List Int} {k : D → Prop} : kLen [scriptD ns] k ↔ k (.int ns.length) := by unfold scriptD; simp
section
variable {A : AC} {X : Cx} {e : Expr} {es : List Expr} {t1 : TAD} {t2 : TSD} {pos p : Pos}
theorem rep_script {K : PySem.W.Frag} {G G' : Option Addr} {Z Z' : Addr → Prop} {H H' : Hp} {ns : List Int} {v : V} (h : Rep K G Z H (scriptD ns) v) (hz : ∀ a o u, ¬ Z a → H a = some (.frz o u) → ¬ Z' a ∧ H' a = some (.frz o u)) : Rep K G' Z' H' (scriptD ns) v := by
  unfold scriptD Rep at h ⊢
  obtain ⟨a, xs, rfl, sq, rs⟩ := h
  refine ⟨a, xs, rfl, ?_, by rw [reps_ints_inv rs]; exact reps_ints⟩
  rcases sq with ⟨nz, o, e⟩ | sq
  · obtain ⟨z1, z2⟩ := hz a o _ nz e
    exact .inl ⟨z1, o, z2⟩
  · exact .inr sq
end
end L2
set_option maxRecDepth 100000
namespace L2
open PySem PySem.Spec PyProof.Rows PySem.SeqAt
mutual
def eqD : D → D → Bool
  | .non, .non => true
  | .bl a, .bl b => a == b
  | .bl a, .int i => (if a then 1 else 0) == i
  | .int i, .bl a => i == (if a then 1 else 0)
  | .int i, .int j => i == j
  | .str x, .str y => x == y
  | .tup xs, .tup ys => eqDs xs ys
  | .lst xs, .lst ys => eqDs xs ys
  | _, _ => false
def eqDs : List D → List D → Bool
  | [], [] => true
  | x :: xs, y :: ys => eqD x y && eqDs xs ys
  | _, _ => false
end
mutual
def okE : D → Nat → Bool
  | .non, _ => true
  | .bl _, _ => true
  | .int _, _ => true
  | .str _, _ => true
  | .tup ds, k => match k with
    | 0 => false
    | k + 1 => okEs ds k
  | .lst ds, k => match k with
    | 0 => false
    | k + 1 => okEs ds k
  | _, _ => false
def okEs : List D → Nat → Bool
  | [], _ => true
  | d :: ds, k => okE d k && okEs ds k
end
theorem okEs_mem : ∀ {ds : List D} {k i : Nat} {d : D}, okEs ds k = true → ds[i]? = some d → okE d k = true
  | [], k, i, d, _, e => by simp at e
  | c :: ds, k, 0, d, h, e => by
    simp at e; subst e
    unfold okEs at h
    rw [Bool.and_eq_true] at h
    exact h.1
  | c :: ds, k, i + 1, d, h, e => by
    unfold okEs at h
    rw [Bool.and_eq_true] at h
    exact okEs_mem (i := i) h.2 (by simpa using e)
def eAt (xs ys : List D) (j : Nat) : Bool := match xs[j]?, ys[j]? with
  | some x, some y => eqD x y
  | _, _ => true
theorem range_succ_all (n : Nat) (e : Nat → Bool) : (List.range (n + 1)).all e = (e 0 && (List.range n).all fun j => e (j + 1)) := by
  rw [List.range_succ_eq_map, List.all_cons, List.all_map]
  rfl
theorem eqDs_all : ∀ (xs ys : List D), ((List.range (min xs.length ys.length)).all (eAt xs ys) && xs.length == ys.length) = eqDs xs ys
  | [], [] => by unfold eqDs; rfl
  | [], y :: ys => by unfold eqDs; simp
  | x :: xs, [] => by unfold eqDs; simp
  | x :: xs, y :: ys => by
    have ih := eqDs_all xs ys
    unfold eqDs
    rw [← ih]
    have e1 : min (x :: xs).length (y :: ys).length = min xs.length ys.length + 1 := by simp only [List.length_cons]; lia
    rw [e1, range_succ_all]
    have e2 : ((x :: xs).length == (y :: ys).length) = (xs.length == ys.length) := by simp
    rw [e2, Bool.and_assoc]
    rfl
theorem eqDs_all_len {xs ys : List D} (h : xs.length = ys.length) : (List.range xs.length).all (eAt xs ys) = eqDs xs ys := by
  rw [← eqDs_all, h]
  simp
theorem eqDs_len {xs ys : List D} (h : xs.length ≠ ys.length) : eqDs xs ys = false := by
  rw [← eqDs_all]
  simp [h]
theorem eqDs_of : ∀ {xs ys : List D}, xs.length = ys.length → (∀ (j : Nat) (x y : D), xs[j]? = some x → ys[j]? = some y → eqD x y = true) → eqDs xs ys = true
  | [], [], _, _ => by unfold eqDs; rfl
  | [], y :: ys, h, _ => by simp at h
  | x :: xs, [], h, _ => by simp at h
  | x :: xs, y :: ys, h, q => by
    unfold eqDs
    rw [q 0 x y rfl rfl, eqDs_of (by simpa using h) fun j a b ha hb => q (j + 1) a b (by simpa using ha) (by simpa using hb)]
    rfl
theorem Reps.get2 {K : PySem.W.Frag} {G : Option Addr} {Z : Addr → Prop} {H : Hp} {ds : List D} {vs : List V} {i : Nat} {d : D} {v : V} (h : Reps K G Z H ds vs) (e : ds[i]? = some d) (e' : vs[i]? = some v) : Rep K G Z H d v := by
  obtain ⟨u, h1, h2⟩ := h.get e
  rw [h1] at e'; cases e'
  exact h2
section
variable {X : Cx} {pins : List (Addr × Obj)} {σ : St} {H : Hp} {s : Shared} {G : Option Addr} {Z : Addr → Prop}
theorem rep_same (I : Inv X pins σ H s) : ∀ (k : Nat) (d1 d2 : D) (v : V), okE d1 k = true → okE d2 k = true → Rep X.K G Z H d1 v → Rep X.K G Z H d2 v → eqD d1 d2 = true := by
  intro k
  induction k with
  | zero =>
    intro d1 d2 v h1 h2 r1 r2
    cases d1 <;> cases d2 <;> first
      | (simp [okE] at h1; done) | (simp [okE] at h2; done)
      | (have e1 := r1.toS rfl; have e2 := r2.toS rfl; rw [e1] at e2; simp [ofS] at e2; done)
      | (have e1 := r1.toS rfl; have e2 := r2.toS rfl; rw [e1] at e2; simp [ofS] at e2; simp [eqD, e2])
  | succ k ih =>
    have seq : ∀ {ds es : List D} {xs : List V}, okEs ds k = true → okEs es k = true → Reps X.K G Z H ds xs → Reps X.K G Z H es xs → eqDs ds es = true := fun {ds es xs} h1 h2 r1 r2 => by
      refine eqDs_of (r1.length.symm.trans r2.length) fun j x y hx hy => ?_
      obtain ⟨u, hu, ru⟩ := r1.get hx
      exact ih x y u (okEs_mem h1 hx) (okEs_mem h2 hy) ru (r2.get2 hy hu)
    intro d1 d2 v h1 h2 r1 r2
    cases d1 <;> cases d2 <;> try (first
      | (simp [okE] at h1; done) | (simp [okE] at h2; done)
      | (have e1 := r1.toS rfl; have e2 := r2.toS rfl; rw [e1] at e2; simp [ofS] at e2; done)
      | (have e1 := r1.toS rfl; have e2 := r2.toS rfl; rw [e1] at e2; simp [ofS] at e2; simp [eqD, e2]; done)
      | (obtain ⟨a, xs, e, _⟩ := r1.tup_inv; have e2 := r2.toS rfl; rw [e] at e2; simp [ofS] at e2; done)
      | (obtain ⟨a, xs, e, _⟩ := r1.lst_inv; have e2 := r2.toS rfl; rw [e] at e2; simp [ofS] at e2; done)
      | (obtain ⟨a, xs, e, _⟩ := r2.tup_inv; have e2 := r1.toS rfl; rw [e] at e2; simp [ofS] at e2; done)
      | (obtain ⟨a, xs, e, _⟩ := r2.lst_inv; have e2 := r1.toS rfl; rw [e] at e2; simp [ofS] at e2; done))
    · rename_i ds es
      obtain ⟨a, xs, e, sq, rs⟩ := r1.tup_inv
      obtain ⟨b, ys, e', sq', rs'⟩ := r2.tup_inv
      rw [e] at e'; cases e'
      have := I.tuple_inj sq.sq sq'.sq
      subst this
      unfold eqD
      exact seq (by simpa [okE] using h1) (by simpa [okE] using h2) rs rs'
    · rename_i ds es
      obtain ⟨a, xs, e, sq, rs⟩ := r1.tup_inv
      obtain ⟨b, ys, e', sq', rs'⟩ := r2.lst_inv
      rw [e] at e'; cases e'
      obtain ⟨its, rv, pl, hz⟩ := I.tuple sq.sq
      obtain ⟨its', rv', pl', hz'⟩ := I.list sq'.sq
      exact absurd rfl (ne_of_list_tuple pl'.isList (show s.heap.IsTuple a its.toArray from pl))
    · rename_i ds es
      obtain ⟨a, xs, e, sq, rs⟩ := r1.lst_inv
      obtain ⟨b, ys, e', sq', rs'⟩ := r2.tup_inv
      rw [e] at e'; cases e'
      obtain ⟨its, rv, pl, hz⟩ := I.list sq.sq
      obtain ⟨its', rv', pl', hz'⟩ := I.tuple sq'.sq
      exact absurd rfl (ne_of_list_tuple pl.isList (show s.heap.IsTuple a its'.toArray from pl'))
    · rename_i ds es
      obtain ⟨a, xs, e, sq, rs⟩ := r1.lst_inv
      obtain ⟨b, ys, e', sq', rs'⟩ := r2.lst_inv
      rw [e] at e'; cases e'
      have := I.list_inj sq.sq sq'.sq
      subst this
      unfold eqD
      exact seq (by simpa [okE] using h1) (by simpa [okE] using h2) rs rs'
theorem rcC {A : Around} {s : Shared} {y x : Value} {b c : Bool} (h : RcAt A s y x b) (e : b = c) : RcAt A s y x c := e ▸ h
theorem rnC {A : Around} {s : Shared} {y x : Value} {b c : Bool} (h : RcNeAt A s y x b) (e : b = c) : RcNeAt A s y x c := e ▸ h
theorem eqC {A : Around} {s : Shared} {y x : Value} {b c : Bool} (h : EqAt A s y x b) (e : b = c) : EqAt A s y x c := e ▸ h
def E3 (A : Around) (s : Shared) (u1 u2 : Value) (b : Bool) : Prop := EqAt A s u1 u2 b ∧ RcAt A s u1 u2 b ∧ RcNeAt A s u1 u2 (!b)
theorem E3.cast {A : Around} {s : Shared} {y x : Value} {b c : Bool} (h : E3 A s y x b) (e : b = c) : E3 A s y x c := e ▸ h
def bothSeq : D → D → Bool
  | .tup _, .tup _ => true
  | .lst _, .lst _ => true
  | _, _ => false
def ShE (s : Shared) : D → Value → Prop
  | .non, u => u = .none
  | .bl x, u => u = .bool x
  | .int x, u => ∃ t, u = .int x t
  | .str x, u => ∃ t, u = .str x t
  | .tup _, u => ∃ a its, u = .ref a ∧ s.heap.IsTuple a its
  | .lst _, u => ∃ a its, u = .ref a ∧ s.heap.IsList a its
  | _, _ => False
theorem shE (I : Inv X pins σ H s) {k : Nat} {d : D} {v : V} {u : Value} (h : okE d k = true) (r : Rep X.K G Z H d v) (q : RelV v u) : ShE s d u := by
  cases d with
  | non => have := r.toS rfl; subst this; exact q
  | bl x => have := r.toS rfl; subst this; exact q
  | int x => have := r.toS rfl; subst this; exact q
  | str x => have := r.toS rfl; subst this; exact q
  | tup x =>
    obtain ⟨a, xs, w, sq, _⟩ := r.tup_inv
    subst w
    obtain ⟨its, _, pl, _⟩ := I.tuple sq.sq
    exact ⟨a, its.toArray, q, pl⟩
  | lst x =>
    obtain ⟨a, xs, w, sq, _⟩ := r.lst_inv
    subst w
    obtain ⟨its, _, pl, _⟩ := I.list sq.sq
    exact ⟨a, its.toArray, q, pl.isList⟩
  | _ => simp [okE] at h
section
local macro_rules
  | `(tactic| nomatch $n:ident, $t,*) => do
    let f := fun (p : Lean.Name) => Lean.mkIdent (p ++ n.getId)
    let t := t.getElems
    `(tactic| exact E3.cast ⟨$(f `EqAt) $t*, $(f `RcAt) $t*, $(f `RcNeAt) $t*⟩ (by unfold eqD; rfl))
theorem eq_mix (I : Inv X pins σ H s) {k : Nat} {d1 d2 : D} {v1 v2 : V} {u1 u2 : Value} {A : Around} (h1 : okE d1 k = true) (h2 : okE d2 k = true) (r1 : Rep X.K G Z H d1 v1) (r2 : Rep X.K G Z H d2 v2) (q1 : RelV v1 u1) (q2 : RelV v2 u2)
    (hu : A.units < cLine) (hb : bothSeq d1 d2 = false) : E3 A s u1 u2 (eqD d1 d2) := by
  have g1 := shE I h1 r1 q1
  have g2 := shE I h2 r2 q2
  clear h1 h2 r1 r2 q1 q2
  cases d1 with
  | non =>
    cases g1
    cases d2 with
    | non => cases g2; exact E3.cast ⟨EqAt.same _, RcAt.none_none, RcNeAt.none_none⟩ (by unfold eqD; rfl)
    | bl => cases g2; nomatch none_bool,_
    | int => obtain ⟨_, rfl⟩ := g2; nomatch none_int,_,_
    | str => obtain ⟨_, rfl⟩ := g2; nomatch none_str,_,_
    | tup => obtain ⟨_, _, rfl, L⟩ := g2; nomatch none_tuple,L,hu
    | lst => obtain ⟨_, _, rfl, L⟩ := g2; nomatch none_list,L,hu
    | _ => exact g2.elim
  | bl x1 =>
    cases g1
    cases d2 with
    | non => cases g2; nomatch bool_none,_
    | bl => cases g2; nomatch bool_bool,_,_
    | int => obtain ⟨_, rfl⟩ := g2; nomatch bool_int,_,_,_
    | str => obtain ⟨_, rfl⟩ := g2; nomatch bool_str,_,_,_
    | tup => obtain ⟨_, _, rfl, L⟩ := g2; nomatch bool_tuple,_,L,hu
    | lst => obtain ⟨_, _, rfl, L⟩ := g2; nomatch bool_list,_,L,hu
    | _ => exact g2.elim
  | int x1 =>
    obtain ⟨t1, rfl⟩ := g1
    cases d2 with
    | non => cases g2; nomatch int_none,_,_
    | bl => cases g2; nomatch int_bool,_,_,_
    | int => obtain ⟨_, rfl⟩ := g2; nomatch int_int,_,_,_,_
    | str => obtain ⟨_, rfl⟩ := g2; nomatch int_str,_,_,_,_
    | tup => obtain ⟨_, _, rfl, L⟩ := g2; nomatch int_tuple,_,_,L,hu
    | lst => obtain ⟨_, _, rfl, L⟩ := g2; nomatch int_list,_,_,L,hu
    | _ => exact g2.elim
  | str x1 =>
    obtain ⟨t1, rfl⟩ := g1
    cases d2 with
    | non => cases g2; nomatch str_none,_,_
    | bl => cases g2; nomatch str_bool,_,_,_
    | int => obtain ⟨_, rfl⟩ := g2; nomatch str_int,_,_,_,_
    | str => obtain ⟨_, rfl⟩ := g2; nomatch str_str,_,_,_,_
    | tup => obtain ⟨_, _, rfl, L⟩ := g2; nomatch str_tuple,_,_,L,hu
    | lst => obtain ⟨_, _, rfl, L⟩ := g2; nomatch str_list,_,_,L,hu
    | _ => exact g2.elim
  | tup x1 =>
    obtain ⟨a1, i1, rfl, L1⟩ := g1
    cases d2 with
    | non => cases g2; nomatch tuple_none,L1,hu
    | bl => cases g2; nomatch tuple_bool,_,L1,hu
    | int => obtain ⟨_, rfl⟩ := g2; nomatch tuple_int,_,_,L1,hu
    | str => obtain ⟨_, rfl⟩ := g2; nomatch tuple_str,_,_,L1,hu
    | tup => cases hb
    | lst => obtain ⟨_, _, rfl, L⟩ := g2; nomatch tuple_list,L1,L,hu
    | _ => exact g2.elim
  | lst x1 =>
    obtain ⟨a1, i1, rfl, L1⟩ := g1
    cases d2 with
    | non => cases g2; nomatch list_none,L1,hu
    | bl => cases g2; nomatch list_bool,_,L1,hu
    | int => obtain ⟨_, rfl⟩ := g2; nomatch list_int,_,_,L1,hu
    | str => obtain ⟨_, rfl⟩ := g2; nomatch list_str,_,_,L1,hu
    | tup => obtain ⟨_, _, rfl, L⟩ := g2; nomatch list_tuple,L1,L,hu
    | lst => cases hb
    | _ => exact g2.elim
  | _ => exact g1.elim
end
theorem eq_rep (I : Inv X pins σ H s) : ∀ (k : Nat) (d1 d2 : D) (v1 v2 : V) (u1 u2 : Value) (A : Around), okE d1 k = true → okE d2 k = true → Rep X.K G Z H d1 v1 → Rep X.K G Z H d2 v2 → RelV v1 u1 → RelV v2 u2 →
    A.units + k < cLine → E3 A s u1 u2 (eqD d1 d2) := by
  intro k
  induction k with
  | zero =>
    intro d1 d2 v1 v2 u1 u2 A h1 h2 r1 r2 q1 q2 hu
    refine eq_mix I h1 h2 r1 r2 q1 q2 (by lia) ?_
    cases d1 <;> first | rfl | (simp [okE] at h1; done)
  | succ k ih =>
    intro d1 d2 v1 v2 u1 u2 A h1 h2 r1 r2 q1 q2 hu
    by_cases hb : bothSeq d1 d2 = false
    · exact eq_mix I h1 h2 r1 r2 q1 q2 (by lia) hb
    have items : ∀ {ds es : List D} {xs ys : List V} {its its' : List Value}, okEs ds k = true → okEs es k = true → Reps X.K G Z H ds xs → Reps X.K G Z H es ys → Vals xs its → Vals ys its' →
        ∀ (j : Nat) (l1 : j < its.toArray.size) (l2 : j < its'.toArray.size), EqAt A.in1 s its.toArray[j] its'.toArray[j] (eAt ds es j) := fun {ds es xs ys its its'} h1 h2 r1 r2 rv rv' j l1 l2 => by
      have l1' : j < its.length := by simpa using l1
      have l2' : j < its'.length := by simpa using l2
      have a1 : j < ds.length := by rw [← r1.length, rv.length]; exact l1'
      have a2 : j < es.length := by rw [← r2.length, rv'.length]; exact l2'
      have g1 : ds[j]? = some ds[j] := List.getElem?_eq_getElem a1
      have g2 : es[j]? = some es[j] := List.getElem?_eq_getElem a2
      obtain ⟨w1, e1, p1⟩ := r1.get g1
      obtain ⟨w2, e2, p2⟩ := r2.get g2
      obtain ⟨z1, f1, t1⟩ := rv.get e1
      obtain ⟨z2, f2, t2⟩ := rv'.get e2
      have m1 : its.toArray[j] = z1 := by
        have : its[j]? = some its[j] := List.getElem?_eq_getElem l1'
        rw [f1] at this
        simpa using (Option.some.inj this).symm
      have m2 : its'.toArray[j] = z2 := by
        have : its'[j]? = some its'[j] := List.getElem?_eq_getElem l2'
        rw [f2] at this
        simpa using (Option.some.inj this).symm
      have e3 : eAt ds es j = eqD ds[j] es[j] := by unfold eAt; rw [g1, g2]
      rw [m1, m2, e3]
      exact (ih _ _ _ _ _ _ A.in1 (okEs_mem h1 g1) (okEs_mem h2 g2) p1 p2 t1 t2 (by show A.units + 1 + k < cLine; lia)).1
    cases d1 with
    | tup ds =>
      cases d2 with
      | tup es =>
        have s1 := r1
        have s2 := r2
        obtain ⟨a, xs, e, sq, rs⟩ := r1.tup_inv
        obtain ⟨b, ys, e', sq', rs'⟩ := r2.tup_inv
        subst e e'
        have c1 : u1 = .ref a := q1
        have c2 : u2 = .ref b := q2
        subst c1 c2
        obtain ⟨its, rv, pl, hz⟩ := I.tuple sq.sq
        obtain ⟨its', rv', pl', hz'⟩ := I.tuple sq'.sq
        have it := items (by simpa [okE] using h1) (by simpa [okE] using h2) rs rs' rv rv'
        have n1 : its.toArray.size = ds.length := by rw [← rs.length, rv.length]; simp
        have n2 : its'.toArray.size = es.length := by rw [← rs'.length, rv'.length]; simp
        have ev : ((List.range (min its.toArray.size its'.toArray.size)).all (eAt ds es) && its.toArray.size == its'.toArray.size) = eqD (.tup ds) (.tup es) := by
          rw [n1, n2, eqDs_all]; unfold eqD; rfl
        have R := rcC (RcAt.tuples (A := A) (show s.heap.IsTuple a its.toArray from pl) (show s.heap.IsTuple b its'.toArray from pl') (by lia) it) ev
        have N := rnC (RcNeAt.tuples (A := A) (show s.heap.IsTuple a its.toArray from pl) (show s.heap.IsTuple b its'.toArray from pl') (by lia) it) (congrArg (!·) ev)
        refine ⟨?_, R, N⟩
        by_cases hab : a = b
        · subst hab
          exact eqC (EqAt.same _) (rep_same I (k + 1) _ _ _ h1 h2 s1 s2).symm
        · exact .of_refs hab R
      | _ => exact absurd rfl hb
    | lst ds =>
      cases d2 with
      | lst es =>
        have s1 := r1
        have s2 := r2
        obtain ⟨a, xs, e, sq, rs⟩ := r1.lst_inv
        obtain ⟨b, ys, e', sq', rs'⟩ := r2.lst_inv
        subst e e'
        have c1 : u1 = .ref a := q1
        have c2 : u2 = .ref b := q2
        subst c1 c2
        obtain ⟨its, rv, pl, hz⟩ := I.list sq.sq
        obtain ⟨its', rv', pl', hz'⟩ := I.list sq'.sq
        have it := items (by simpa [okE] using h1) (by simpa [okE] using h2) rs rs' rv rv'
        have n1 : its.toArray.size = ds.length := by rw [← rs.length, rv.length]; simp
        have n2 : its'.toArray.size = es.length := by rw [← rs'.length, rv'.length]; simp
        have R : RcAt A s (.ref a) (.ref b) (eqD (.lst ds) (.lst es)) ∧ RcNeAt A s (.ref a) (.ref b) (!eqD (.lst ds) (.lst es)) := by
          by_cases hl : ds.length = es.length
          · have ev : (List.range its.toArray.size).all (eAt ds es) = eqD (.lst ds) (.lst es) := by rw [n1, eqDs_all_len hl]; unfold eqD; rfl
            exact ⟨rcC (RcAt.lists (A := A) pl.isList pl'.isList (by rw [n1, n2, hl]) (by lia) it) ev, rnC (RcNeAt.lists (A := A) pl.isList pl'.isList (by rw [n1, n2, hl]) (by lia) it) (congrArg (!·) ev)⟩
          · have ev : false = eqD (.lst ds) (.lst es) := by unfold eqD; exact (eqDs_len hl).symm
            have hs : (its.toArray.size != its'.toArray.size) = true := by rw [n1, n2]; simpa using hl
            exact ⟨rcC (RcAt.lists_lengths (A := A) pl.isList pl'.isList hs (by lia)) ev, rnC (RcNeAt.lists_lengths (A := A) pl.isList pl'.isList hs (by lia)) (congrArg (!·) ev)⟩
        refine ⟨?_, R⟩
        by_cases hab : a = b
        · subst hab
          exact eqC (EqAt.same _) (rep_same I (k + 1) _ _ _ h1 h2 s1 s2).symm
        · exact .of_refs hab R.1
      | _ => exact absurd rfl hb
    | _ => exact absurd rfl hb
def EqV (X : Cx) (H : Hp) (x y : V) (b : Bool) : Prop := ∀ pins s σ v u, Inv X pins σ H s → RelV x v → RelV y u → ∀ A : Around, A.units + 60 < cLine → E3 A s v u b
def rDeq (X : Cx) : R2 := fun x y H Q => ∃ b, EqV X H x y b ∧ Q (.bl b) H
def rDne (X : Cx) : R2 := fun x y H Q => ∃ b, EqV X H x y b ∧ Q (.bl (!b)) H
theorem op_deq {n : Nat} (hr : Room n X.A) : OpR X (compareOp .Eq) (rDeq X) := by
  intro pins s σ H x y v u Q I rx ry h
  obtain ⟨b, e, q⟩ := h
  exact (e pins s σ v u I rx ry X.A (by have := hr.units; lia)).2.1 X.prog X.w X.xe _ ⟨.bl b, H, I, rfl, q⟩
theorem op_dne {n : Nat} (hr : Room n X.A) : OpR X (compareOp .NotEq) (rDne X) := by
  intro pins s σ H x y v u Q I rx ry h
  obtain ⟨b, e, q⟩ := h
  exact (e pins s σ v u I rx ry X.A (by have := hr.units; lia)).2.2 X.prog X.w X.xe _ ⟨.bl (!b), H, I, rfl, q⟩
def rdDeq : RD2 := fun d1 d2 k => okE d1 20 = true ∧ okE d2 20 = true ∧ k (.bl (eqD d1 d2))
def rdDne : RD2 := fun d1 d2 k => okE d1 20 = true ∧ okE d2 20 = true ∧ k (.bl (!eqD d1 d2))
theorem re_deq {A : AC} (hK : X.K = A.K) : OpRel A (rDeq X) rdDeq := by
  rintro os n rho sg H ds vs d1 d2 v1 v2 k Q I ⟨h1, h2, q⟩ hQ
  obtain ⟨I1, r2⟩ := I.pop
  obtain ⟨I2, r1⟩ := I1.pop
  rw [← hK] at r1 r2
  exact ⟨eqD d1 d2, fun pins s σ v u J rx ry B hu => eq_rep J 20 d1 d2 v1 v2 v u B h1 h2 r1 r2 rx ry (by lia), hQ _ H _ ⟨os, I2.push (Rep.ofS rfl)⟩ q⟩
@[simp] theorem q_rdDeq {d1 d2 k} : rdDeq d1 d2 k = (okE d1 20 = true ∧ okE d2 20 = true ∧ k (.bl (eqD d1 d2))) := rfl
@[simp] theorem q_rdDne {d1 d2 k} : rdDne d1 d2 k = (okE d1 20 = true ∧ okE d2 20 = true ∧ k (.bl (!eqD d1 d2))) := rfl
end
end L2
set_option maxRecDepth 100000
namespace L2
open PySem PySem.Spec PyProof.Rows
section
variable {A : AC} {X : Cx} {e a b : Expr} {es : List Expr} {te ta tb : TD} {t1 : TAD} {pos p : Pos}
def lstOf (d : D) (p : List D → Prop) : Prop := ∃ fs, d = .lst fs ∧ p fs
@[simp] theorem q_lstOf {fs p} : lstOf (.lst fs) p ↔ p fs := ⟨fun ⟨_, e, h⟩ => by cases e; exact h, fun h => ⟨_, rfl, h⟩⟩
def sSetO (i : Nat) (te : TD) : TSD := fun F rho n => i < rho.length ∧ te rho n fun d n1 => lstOf d fun fs => F.nx (rho.set i (some (.own fs))) n1
@[simp] theorem q_sSetO {i te F rho n} : sSetO i te F rho n = (i < rho.length ∧ te rho n fun d n1 => lstOf d fun fs => F.nx (rho.set i (some (.own fs))) n1) := rfl
def dOwnLen (i : Nat) : TD := fun rho n P => ownAt rho[i]? fun es => P (.int es.length) n
@[simp] theorem q_dOwnLen {i rho n P} : dOwnLen i rho n P = ownAt rho[i]? fun es => P (.int es.length) n := rfl
theorem pd_ownLen {i : Nat} {x : Str} {px : Pos} (hm : X.mg "len" = none) (hK : X.K = A.K) (hN : X.N[i]? = some x := by rfl) (hv : Vis X.env.scope x := by first | exact Or.inl rfl | exact Or.inr (Or.inl rfl) | exact Or.inr (Or.inr rfl)) (hd : (x == ("__debug__" : Str)) = false := by decide)
    (hcd : (x == ("__classdict__" : Str)) = false := by decide) (hg : Gl X "len" := by rfl)
    (he : starEach [.Name x px] X.env = (false, eval (.Name x px) X.env) :: starEach [] X.env := by rfl) (hpl : (backTo pos (starEach [] X.env)).any (·.1) = false := by rfl) : PD A X (.Call (.Name "len" p) [.Name x px] [] pos) (dOwnLen i) := by
  with_unfolding_all
    exact 
      (pe_callB call_len_seq hg hm bt_len (pa_cons (pe_var hN hv hd hcd) pa_nil he) (by decide) (by decide) he hpl).imp fun sg H Q h => by
        obtain ⟨rho, n, P, ds, vs, ⟨os, I⟩, ⟨es, hi, k⟩, hQ⟩ := h
        obtain ⟨a, xs, e1, hH, rs, _⟩ := I.own (es' := es) (xs' := []) hi
        exact ⟨.ref a, e1, a, xs, rfl, .inl (SqL.of hH), by rw [rs.length]; exact hQ _ H n _ ⟨os, I.push (Rep.ofS (d := .int es.length) rfl)⟩ k⟩
theorem FnOk.bot {P : Program} {w : World} {K : PySem.W.Frag} {mg : Str → Option Value} {base : Heap} {f : Addr} {fd : FuncData} {ps : List Str} {k : Nat} {t : TF} (ht : ∀ ds n Q, ¬ t ds n Q) : FnOk P w K mg base CX0 0 f fd ps (spD K k t) := by
  refine ⟨fun vs H Q E h => ?_, fun A outer s H args us vs Q E _ _ _ _ h => ?_⟩
  · obtain ⟨G, Z, n, R, ds, hl, rs, hst, gz, z0, h, _⟩ := h
    exact (ht _ _ _ h).elim
  · obtain ⟨G, Z, n, R, ds, hl, rs, hst, gz, z0, h, _⟩ := h
    exact (ht _ _ _ h).elim
end
end L2
namespace L2
open PySem PySem.Spec PyProof.Rows
theorem comp_mapIn {own : Nat} {g : TGD} {te : TD} {rho : Rho} {n : Nat} {P : D → Nat → Prop} {α : Type} (enc : α → D) (f : α → D) (xs : List α)
    (hz : xs.length ≤ sizeLine) (he : ∀ x ∈ xs, ∀ Q, Q (f x) n → g (enc x) (List.replicate own none ++ rho) fun rho' => rho'.drop own = rho ∧ te rho' n Q) (hP : P (.lst (xs.map f)) n) : compIn own g bYes te rho P (xs.map enc) n :=
  comp_map (it := fun _ n R => R (xs.map enc) n) (rho := rho) enc f xs (fun R h => h) hz he hP
end L2
namespace L2
open PySem PySem.Spec PyProof.Rows
theorem q_isi {d : D} {T : String} {k : D → Prop} (hT : T = "bool" ∨ T = "int" ∨ T = "str" ∨ T = "tuple" ∨ T = "list") : kIsi [d, .ty T] k ↔ (isiOk d = true ∧ k (.bl (isiD T d))) :=
  ⟨fun ⟨d', T', e, _, h1, h2⟩ => by cases e; exact ⟨h1, h2⟩, fun h => ⟨d, T, rfl, hT, h.1, h.2⟩⟩
@[simp] theorem q_isiBool {d : D} {k : D → Prop} : kIsi [d, .ty "bool"] k ↔ (isiOk d = true ∧ k (.bl (isiD "bool" d))) := q_isi (by decide)
@[simp] theorem q_isiInt {d : D} {k : D → Prop} : kIsi [d, .ty "int"] k ↔ (isiOk d = true ∧ k (.bl (isiD "int" d))) := q_isi (by decide)
@[simp] theorem q_isiStr {d : D} {k : D → Prop} : kIsi [d, .ty "str"] k ↔ (isiOk d = true ∧ k (.bl (isiD "str" d))) := q_isi (by decide)
@[simp] theorem q_isiTuple {d : D} {k : D → Prop} : kIsi [d, .ty "tuple"] k ↔ (isiOk d = true ∧ k (.bl (isiD "tuple" d))) := q_isi (by decide)
@[simp] theorem q_isiList {d : D} {k : D → Prop} : kIsi [d, .ty "list"] k ↔ (isiOk d = true ∧ k (.bl (isiD "list" d))) := q_isi (by decide)
theorem zipD_self (ds : List D) : zipD ds ds = ds.map fun x => .tup [x, x] := by
  unfold zipD
  rw [List.zipWith_self]
@[simp] theorem q_rdEqS {i j : Str} {k} : rdEq (.str i) (.str j) k ↔ k (.bl (decide (i = j))) := by
  have e : decide (ofS (.str i) = ofS (.str j)) = decide (i = j) := by simp [ofS]
  unfold rdEq
  rw [e]
  exact ⟨fun h => h.2.2.2, fun h => ⟨rfl, rfl, rfl, h⟩⟩
mutual
def okT : D → Nat → Bool
  | .non, _ => true
  | .bl _, _ => true
  | .int _, _ => true
  | .str _, _ => true
  | .tup ds, k => match k with
    | 0 => false
    | k + 1 => decide (ds.length ≤ 1000) && okTs ds k
  | _, _ => false
def okTs : List D → Nat → Bool
  | [], _ => true
  | d :: ds, k => okT d k && okTs ds k
end
theorem okTs_iff : ∀ {ds : List D} {k : Nat}, okTs ds k = true ↔ ∀ d ∈ ds, okT d k = true
  | [], k => by unfold okTs; simp
  | c :: ds, k => by
    unfold okTs
    rw [Bool.and_eq_true, okTs_iff]
    simp
theorem okT_tup {ds : List D} {k : Nat} : okT (.tup ds) (k + 1) = true ↔ (ds.length ≤ 1000 ∧ ∀ d ∈ ds, okT d k = true) := by
  have e : okT (.tup ds) (k + 1) = (decide (ds.length ≤ 1000) && okTs ds k) := by rw [okT]
  rw [e, Bool.and_eq_true, decide_eq_true_iff, okTs_iff]
theorem okEs_iff : ∀ {ds : List D} {k : Nat}, okEs ds k = true ↔ ∀ d ∈ ds, okE d k = true
  | [], k => by unfold okEs; simp
  | c :: ds, k => by
    unfold okEs
    rw [Bool.and_eq_true, okEs_iff]
    simp
theorem okE_tup {ds : List D} {k : Nat} : okE (.tup ds) (k + 1) = true ↔ ∀ d ∈ ds, okE d k = true := by
  have e : okE (.tup ds) (k + 1) = okEs ds k := by rw [okE]
  rw [e, okEs_iff]
def kZip (es : List D) (k : List D → Prop) : Prop := ∃ d1 d2 b1 xs b2 ys, es = [d1, d2] ∧ seqOf d1 = some (b1, xs) ∧ seqOf d2 = some (b2, ys) ∧ k (zipD xs ys)
@[simp] theorem q_iZipD {t : TAD} {rho n P} : iZipD t rho n P ↔ t rho n fun es n1 => kZip es fun l => P l n1 := Iff.rfl
theorem q_kZip {d1 d2 : D} {b1 b2 xs ys} {k : List D → Prop} (h1 : seqOf d1 = some (b1, xs)) (h2 : seqOf d2 = some (b2, ys)) : kZip [d1, d2] k ↔ k (zipD xs ys) := by
  constructor
  · rintro ⟨_, _, _, _, _, _, e, e1, e2, h⟩
    cases e
    rw [h1] at e1; rw [h2] at e2
    cases e1; cases e2
    exact h
  · intro h
    exact ⟨_, _, _, _, _, _, rfl, h1, h2, h⟩
@[simp] theorem q_kZipTT {xs ys} {k : List D → Prop} : kZip [.tup xs, .tup ys] k ↔ k (zipD xs ys) := q_kZip rfl rfl
@[simp] theorem q_kZipTL {xs ys} {k : List D → Prop} : kZip [.tup xs, .lst ys] k ↔ k (zipD xs ys) := q_kZip rfl rfl
@[simp] theorem q_kZipLT {xs ys} {k : List D → Prop} : kZip [.lst xs, .tup ys] k ↔ k (zipD xs ys) := q_kZip rfl rfl
@[simp] theorem q_kZipLL {xs ys} {k : List D → Prop} : kZip [.lst xs, .lst ys] k ↔ k (zipD xs ys) := q_kZip rfl rfl
end L2
set_option maxRecDepth 100000
namespace L2
open PySem PySem.Spec PyProof.Rows
section
variable {X : Cx}
end
section
variable {A : AC}
theorem reps_intsV {K : PySem.W.Frag} {G : Option Addr} {Z : Addr → Prop} {H : Hp} : ∀ {bs : List Int} {ws : List V}, Reps K G Z H (bs.map D.int) ws → ws = bs.map V.int
  | [], ws, h => h.nil_inv
  | b :: bs, ws, h => by
    obtain ⟨v, r, rfl, q, t⟩ := h.split
    rw [q.int_inv, reps_intsV t]; rfl
def kMax2 : List D → (D → Prop) → Prop := fun es k => ∃ i j, es = [.int i, .int j] ∧ k (.int (if j > i then j else i))
def kMin2 : List D → (D → Prop) → Prop := fun es k => ∃ i j, es = [.int i, .int j] ∧ k (.int (if j < i then j else i))
@[simp] theorem q_kMax2 {i j k} : kMax2 [.int i, .int j] k ↔ k (.int (if j > i then j else i)) := ⟨fun ⟨_, _, e, h⟩ => by cases e; exact h, fun h => ⟨_, _, rfl, h⟩⟩
@[simp] theorem q_kMin2 {i j k} : kMin2 [.int i, .int j] k ↔ k (.int (if j < i then j else i)) := ⟨fun ⟨_, _, e, h⟩ => by cases e; exact h, fun h => ⟨_, _, rfl, h⟩⟩
theorem cr_max2 : CallRel A (fun xs H Q => ∃ i j, xs = [.int i, .int j] ∧ Q (.int (if j > i then j else i)) H) kMax2 := by
  rintro os n rho sg H ds vs es ws k Q I rs ⟨i, j, rfl, q⟩ hQ
  obtain ⟨v, v', rfl, r, r'⟩ := reps2 rs
  exact ⟨i, j, by rw [r.int_inv, r'.int_inv], hQ _ H _ ⟨os, I.push (Rep.ofS rfl)⟩ q⟩
theorem cr_min2 : CallRel A (fun xs H Q => ∃ i j, xs = [.int i, .int j] ∧ Q (.int (if j < i then j else i)) H) kMin2 := by
  rintro os n rho sg H ds vs es ws k Q I rs ⟨i, j, rfl, q⟩ hQ
  obtain ⟨v, v', rfl, r, r'⟩ := reps2 rs
  exact ⟨i, j, by rw [r.int_inv, r'.int_inv], hQ _ H _ ⟨os, I.push (Rep.ofS rfl)⟩ q⟩
theorem bt_max : bootBuiltins "max" = some (.builtin "max") := by decide +kernel
theorem bt_min : bootBuiltins "min" = some (.builtin "min") := by decide +kernel
end
end L2
namespace L2
open PySem PySem.Spec PyProof.Rows
theorem comp_filtIn {own : Nat} {g : TGD} {tt : TBD} {te : TD} {rho : Rho} {n : Nat} {P : D → Nat → Prop} {α : Type} (enc : α → D) (keep : α → Bool) (f : α → D) (xs : List α) (hz : xs.length ≤ sizeLine)
    (he : ∀ x ∈ xs, ∀ (R : D → Nat → Prop) (S : Nat → Prop), (keep x = true → R (f x) n) → (keep x = false → S n) → g (enc x) (List.replicate own none ++ rho) fun rho' => rho'.drop own = rho ∧ tt rho' n fun c n2 => if c = true then te rho' n2 R else S n2)
    (hP : P (.lst ((xs.filter keep).map f)) n) : compIn own g tt te rho P (xs.map enc) n := by
  refine ⟨by simpa using hz, fun i acc n' => n' = n ∧ acc = ((xs.take i).filter keep).map f, ⟨rfl, rfl⟩, ?_, ?_⟩
  · rintro i d acc n' e ⟨rfl, rfl⟩
    rw [List.getElem?_map] at e
    cases q : xs[i]? with
    | none => rw [q] at e; cases e
    | some x =>
      rw [q] at e
      cases e
      have hm : x ∈ xs := List.mem_of_getElem? q
      have et : xs.take (i + 1) = xs.take i ++ [x] := by rw [List.take_add_one, q]; rfl
      refine he x hm (fun e n3 => n3 = n' ∧ ((xs.take i).filter keep).map f ++ [e] = ((xs.take (i + 1)).filter keep).map f) (fun n3 => n3 = n' ∧ ((xs.take i).filter keep).map f = ((xs.take (i + 1)).filter keep).map f) (fun hk => ⟨rfl, ?_⟩) (fun hk => ⟨rfl, ?_⟩)
      · rw [et, List.filter_append]; simp [hk]
      · rw [et, List.filter_append]; simp [hk]
  · rintro acc n' ⟨rfl, rfl⟩
    rw [List.length_map, List.take_length]
    exact hP
theorem okE_lst {ds : List D} {k : Nat} : okE (.lst ds) (k + 1) = true ↔ ∀ d ∈ ds, okE d k = true := by
  have e : okE (.lst ds) (k + 1) = okEs ds k := by rw [okE]
  rw [e, okEs_iff]
theorem okE_int {i : Int} {k : Nat} : okE (.int i) k = true := by simp [okE]
end L2
set_option maxRecDepth 100000
namespace L2
open PySem PySem.Spec PyProof.Rows
section
variable {X : Cx}
end
section
variable {A : AC}
def rdCatT : RD2 := fun d1 d2 k => ∃ es fs, d1 = .tup es ∧ d2 = .tup fs ∧ es.length + fs.length ≤ sizeLine ∧ k (.tup (es ++ fs))
@[simp] theorem q_rdCatT {es fs k} : rdCatT (.tup es) (.tup fs) k ↔ (es.length + fs.length ≤ sizeLine ∧ k (.tup (es ++ fs))) := ⟨fun ⟨_, _, e, e', h⟩ => by cases e; cases e'; exact h, fun h => ⟨_, _, rfl, rfl, h⟩⟩
end
section
variable {A : AC} {X : Cx} {a b c e : Expr} {es : List Expr} {te ta tb tc : TD} {t1 : TAD} {pos p : Pos}
def intOf (d : D) (k : Int → Prop) : Prop := ∃ i, d = .int i ∧ k i
@[simp] theorem q_intOf {i : Int} {k} : intOf (.int i) k ↔ k i := ⟨fun ⟨_, e, h⟩ => by cases e; exact h, fun h => ⟨_, rfl, h⟩⟩
def dChain (f g : Int → Int → Bool) (ta tb tc : TD) : TD := fun rho n P => ta rho n fun d1 n1 => tb rho n1 fun d2 n2 => intOf d1 fun i => intOf d2 fun j => if f i j = true then tc rho n2 fun d3 n3 => intOf d3 fun k => P (.bl (g j k)) n3 else P (.bl false) n2
@[simp] theorem q_dChain {f g ta tb tc rho n P} : dChain f g ta tb tc rho n P = ta rho n fun d1 n1 => tb rho n1 fun d2 n2 => intOf d1 fun i => intOf d2 fun j => if f i j = true then tc rho n2 fun d3 n3 => intOf d3 fun k => P (.bl (g j k)) n3 else P (.bl false) n2 := rfl
def iRng2D (t : TAD) : TID := fun rho n P => t rho n fun es n1 => pair2 es fun d1 d2 => intOf d1 fun i => intOf d2 fun j => (-(2 ^ 62) ≤ i ∧ i < 2 ^ 62 ∧ -(2 ^ 62) ≤ j ∧ j < 2 ^ 62) ∧ P (rngD i (j - i).toNat) n1
@[simp] theorem q_iRng2D {t rho n P} : iRng2D t rho n P = t rho n fun es n1 => pair2 es fun d1 d2 => intOf d1 fun i => intOf d2 fun j => (-(2 ^ 62) ≤ i ∧ i < 2 ^ 62 ∧ -(2 ^ 62) ≤ j ∧ j < 2 ^ 62) ∧ P (rngD i (j - i).toNat) n1 := rfl
def sExtend (i : Nat) (t : TAD) : TSD := fun F rho n => ownAt rho[i]? fun es => t rho n fun ds n1 => ∃ fs, ds = [.lst fs] ∧ es.length + fs.length ≤ sizeLine ∧ F.nx (rho.set i (some (.own (es ++ fs)))) n1
@[simp] theorem q_sExtend {i t F rho n} : sExtend i t F rho n = ownAt rho[i]? fun es => t rho n fun ds n1 => ∃ fs, ds = [.lst fs] ∧ es.length + fs.length ≤ sizeLine ∧ F.nx (rho.set i (some (.own (es ++ fs)))) n1 := rfl
end
theorem vals_of_ints : ∀ {us : List Value} {ns : List Int}, IntsAre us ns → Vals (ns.map V.int) us
  | _, _, .nil => .nil
  | _, _, .cons n t h => .cons ⟨t, rfl⟩ (vals_of_ints h)
section
variable {X : Cx} {A : AC}
theorem call_sorted : CallR X (.builtin "sorted") (fun xs H Q => ∃ (p : Addr) (ns : List Int), xs = [.ref p] ∧ SqL X.K H p (ns.map V.int) ∧ ns.length < 64 ∧ ∀ ms : List Int, ms.Perm ns → ms.Pairwise (· ≤ ·) → ∀ l, H l = none → Q (.ref l) (upd H l (.lst (ms.map V.int)))) := by
  intro pins s σ H xs us Q I r h
  obtain ⟨p, ns, rfl, hq, hn, q⟩ := h
  cases r with
  | cons r rr =>
    cases rr
    cases r
    obtain ⟨its, rv, pl, _⟩ := I.list hq
    have hl := pl.isList
    have hsz : its.length = ns.length := by have := rv.length; simpa using this.symm
    refine sorted_ints hl (intsAre_of rv) (by lia) fun out ms hi hp hs => ?_
    obtain ⟨e, he⟩ := sortedAll_at s.heap its out
    have hml : ms.length = ns.length := hp.length_eq
    have hf : H (s.heap.objs.size + 1) = none := I.hok.fresh (Nat.le_succ _)
    refine ⟨.ref (s.heap.objs.size + 1), _, I.laid (t' := s.toks) (o := .lst (ms.map V.int)) (fun b u e => sortedAll_old e) (Nat.le_succ _) ?_, rfl, q ms hp hs _ hf⟩
    exact ⟨by rw [List.length_map]; exact Nat.le_trans (by lia) (le_size (k := 64) (by lia)), out.toList, e, vals_of_ints hi, he⟩
def kSorted : List D → (D → Prop) → Prop := fun es k => ∃ ns : List Int, es = [.lst (ns.map D.int)] ∧ ns.length < 64 ∧ ∀ ms : List Int, ms.Perm ns → ms.Pairwise (· ≤ ·) → k (.lst (ms.map D.int))
theorem cr_sorted : CallRel A (fun xs H Q => ∃ (p : Addr) (ns : List Int), xs = [.ref p] ∧ SqL A.K H p (ns.map V.int) ∧ ns.length < 64 ∧ ∀ ms : List Int, ms.Perm ns → ms.Pairwise (· ≤ ·) → ∀ l, H l = none → Q (.ref l) (upd H l (.lst (ms.map V.int)))) kSorted := by
  rintro os n rho sg H ds vs es ws k Q I rs ⟨ns, rfl, hn, q⟩ hQ
  obtain ⟨v, rfl, r⟩ := reps1 rs
  obtain ⟨a, xs, rfl, sq, rr⟩ := r.lst_inv
  have e := reps_intsV rr
  subst e
  exact ⟨a, ns, rfl, sq.sq, hn, fun ms h1 h2 l hl => hQ _ _ _ ⟨os, I.newLst reps_ints hl⟩ (q ms h1 h2)⟩
theorem bt_sorted : bootBuiltins "sorted" = some (.builtin "sorted") := by decide +kernel
end
end L2
namespace L2
open PySem PySem.Spec PyProof.Rows
section
variable {A : AC} {X : Cx} {a b : Expr} {pos : Pos}
end
theorem ptsd_one {A : AC} {X : Cx} {e : Expr} {t : TBD} (h : PTD A X e t) : PTs X [e] (ttOf A t) := by
  with_unfolding_all
    exact pts_one h
end L2
set_option maxRecDepth 100000
namespace L2
open PySem PySem.Spec PyProof.Rows HT
section
variable {prog : Program} {w : World} {A : Around} {E : Value → Shared → Prop} {s : Shared}
theorem getItem_tuple_whole {t sl : Addr} {items : Array Value} {vl vu : Value} {lo hi : Option Int} {Q : Value → Shared → Prop} (ht : IsTup s.heap t items) (hs : s.heap.IsSliceOf sl vl vu .none) (pl : IsPart vl lo) (pu : IsPart vu hi)
    (h1 : sIx items.size 0 lo = 0) (h2 : sIx items.size items.size hi = items.size) (h : Q (.ref t) s) : wpAny (model prog w) A (getItem (.ref t) (.ref sl)) Q E s := by
  obtain ⟨os, hos, hcs, hds⟩ := id hs
  have hTs : s.TypeIs (.ref sl) "slice" := ⟨os, hos, hcs⟩
  unfold getItem
  try with_reducible refine wpAny_holding ?_
  first | refine wpAny_bind (wpAny_pure ?_) | skip
  refine wpAny_bind (wpAny_sequenceKey ht.typeIs (by decide) ?_)
  refine wpAny_bind (wpAny_callSpecial?_slot (name := Str.ofString "__getitem__") ht.typeIs PyProof.Rows.slot_tuple_getitem
    (wpAny_call_entry PyProof.Rows.slot_tuple_getitem ht.typeIs entry_tuple_getitem ?_ (args_tuple_getitem _ _)))
  show wpAny _ _ (Builtin.Tuple.tupleItemsOf (.ref t) >>= _) _ _ s
  refine wpAny_bind (tupleItemsOf_ ht ?_)
  refine wpAny_bind (wpAny_typeOf hTs ?_)
  rw [if_pos (by decide)]
  refine wpAny_bind (sliceApplied_gen hs pl pu ?_)
  have hyes : ((((sIx items.size 0 lo : Nat) : Int) == 0 && (1 : Int) == 1 && (sIx items.size items.size hi - sIx items.size 0 lo) == items.size) = true) := by
    rw [h1, h2]; simp
  show wpAny _ _ (if (((sIx items.size 0 lo : Nat) : Int) == 0 && (1 : Int) == 1 && (sIx items.size items.size hi - sIx items.size 0 lo) == items.size) = true then _ else _) _ _ s
  rw [if_pos hyes]
  obtain ⟨⟨cls, dd, data, sl'⟩, ho, hc, n, hd⟩ := id ht
  simp only at hc hd
  subst hc hd
  unfold Builtin.Tuple.tupleIsExact
  obtain ⟨hp, g, d, tk, os'⟩ := s
  wp_walk
  exact ⟨_, rfl, wpAny_pure h⟩
end
section
variable {X : Cx}
def rSlTW (K : PySem.W.Frag) : V → Option Int → Option Int → Hp → VK → Prop := fun x lo hi H Q => ∃ a xs, x = .ref a ∧ SqT K H a xs ∧
  ((HT.sIx xs.length 0 lo = 0 ∧ HT.sIx xs.length xs.length hi = xs.length) → Q (.ref a) H) ∧ (¬ (HT.sIx xs.length 0 lo = 0 ∧ HT.sIx xs.length xs.length hi = xs.length) → ∀ p, H p = none → Q (.ref p) (upd H p (.tup (cutV xs lo hi))))
theorem sl_tupW : SlR X (rSlTW X.K) := by
  intro pins s σ H x v vl vu lo hi sl Q I rx hs pl pu h
  obtain ⟨a, xs, rfl, hx, q1, q2⟩ := h
  by_cases hw : HT.sIx xs.length 0 lo = 0 ∧ HT.sIx xs.length xs.length hi = xs.length
  · cases rx
    obtain ⟨its, r, ht, hz⟩ := I.tuple hx
    have hlen : its.toArray.size = xs.length := by rw [List.size_toArray]; exact r.length.symm
    refine ⟨"tuple", _, PyProof.Rows.slot_tuple_getitem.lookup, ht.typeIs, ?_⟩
    exact getItem_tuple_whole ht hs pl pu (by rw [hlen]; exact hw.1) (by rw [hlen]; exact hw.2) ⟨.ref a, H, I, rfl, q1 hw⟩
  · exact sl_tup pins s σ H (.ref a) v vl vu lo hi sl Q I rx hs pl pu ⟨a, xs, rfl, hx, hw, q2 hw⟩
end
abbrev TOD := Rho → Nat → (Option Int → Nat → Prop) → Prop
def oOf (A : AC) (t : TOD) : TO := fun sg H Q => ∃ rho n P ds vs, Am A n rho sg H ds vs ∧ t rho n P ∧ ∀ o H' n', Am A n' rho sg H' ds vs → P o n' → Q o H'
@[irreducible] def POD (A : AC) (X : Cx) (e : Option Expr) (t : TOD) : Prop := PO X e (oOf A t)
theorem PO.imp {X : Cx} {e : Option Expr} {t t' : TO} (h : PO X e t) (hi : ∀ sg H Q, t' sg H Q → t sg H Q) : PO X e t' := fun pins s sg H Q I q => h pins s sg H Q I (hi _ _ _ q)
section
variable {A : AC} {X : Cx} {a b c e : Expr} {es : List Expr} {te ta tb tc : TD} {t1 : TAD} {pos p : Pos}
def oNone : TOD := fun _ n P => P none n
def oSome (t : TD) : TOD := fun rho n P => t rho n fun d n1 => intOf d fun i => P (some i) n1
@[simp] theorem q_oNone {rho n P} : oNone rho n P = P none n := rfl
@[simp] theorem q_oSome {t rho n P} : oSome t rho n P = t rho n fun d n1 => intOf d fun i => P (some i) n1 := rfl
theorem pod_none : POD A X none oNone := by
  with_unfolding_all
    exact po_none.imp fun sg H Q h => by
      obtain ⟨rho, n, P, ds, vs, I, h, hQ⟩ := h
      exact hQ none H n I h
theorem pod_some (h : PD A X e te) : POD A X (some e) (oSome te) := by
  with_unfolding_all
    exact (po_some h).imp fun sg H Q h => by
      obtain ⟨rho, n, P, ds, vs, I, h, hQ⟩ := h
      refine ⟨rho, n, _, ds, vs, I, h, fun v H' n' d ⟨os, J⟩ k => ?_⟩
      obtain ⟨i, rfl, k⟩ := k
      obtain ⟨J1, r⟩ := J.pop
      exact ⟨i, r.int_inv, hQ _ H' n' ⟨os, J1⟩ k⟩
def tupAt (d : D) (k : List D → Prop) : Prop := ∃ fs, d = .tup fs ∧ k fs
@[simp] theorem q_tupAt {fs : List D} {k} : tupAt (.tup fs) k ↔ k fs := ⟨fun ⟨_, e, h⟩ => by cases e; exact h, fun h => ⟨_, rfl, h⟩⟩
def dSlT (ta : TD) (tl th : TOD) : TD := fun rho n P => ta rho n fun d n1 => tl rho n1 fun lo n2 => th rho n2 fun hi n3 => tupAt d fun fs => P (.tup (cutL fs lo hi)) n3
@[simp] theorem q_dSlT {ta tl th rho n P} : dSlT ta tl th rho n P = ta rho n fun d n1 => tl rho n1 fun lo n2 => th rho n2 fun hi n3 => tupAt d fun fs => P (.tup (cutL fs lo hi)) n3 := rfl
theorem cut_whole {fs : List D} {lo hi : Option Int} (h : HT.sIx fs.length 0 lo = 0 ∧ HT.sIx fs.length fs.length hi = fs.length) : cutL fs lo hi = fs := by
  unfold cutL
  rw [h.1, h.2, List.drop_zero, Nat.sub_zero, List.take_length]
theorem pd_slT {le he : Option Expr} {tl th : TOD} {p2 : Pos} (hK : X.K = A.K) (ha : PD A X a ta) (hl : POD A X le tl) (hh : POD A X he th) : PD A X (.Subscript a (.Slice le he none p2) pos) (dSlT ta tl th) := by
  with_unfolding_all
    exact (pe_slice sl_tupW ha hl hh).imp fun sg H Q h => by
      obtain ⟨rho, n, P, ds, vs, I, ht, hQ⟩ := h
      refine ⟨rho, n, _, ds, vs, I, ht, fun v H1 n1 d J1 h1 => ⟨rho, n1, _, _, _, J1, h1, fun lo H2 n2 J2 h2 => ⟨rho, n2, _, _, _, J2, h2, fun hi H3 n3 ⟨os, J3⟩ h3 => ?_⟩⟩⟩
      obtain ⟨fs, rfl, k⟩ := h3
      obtain ⟨J4, r⟩ := J3.pop
      have r' := r
      obtain ⟨l, xs, rfl, sq, rs⟩ := r.tup_inv
      rw [hK]
      have hlen : xs.length = fs.length := rs.length
      refine ⟨l, xs, rfl, sq.sq, fun hw => ?_, fun hw p hp => hQ _ _ n3 _ ⟨os, J4.newTup (reps_cut rs lo hi) hp⟩ k⟩
      rw [hlen] at hw
      rw [cut_whole hw] at k
      exact hQ _ H3 n3 _ ⟨os, J4.push r'⟩ k
def flatD : D → Bool
  | .non => true | .bl _ => true | .int _ => true | .str _ => true | _ => false
def inD (x : D) (es : List D) : Bool := es.any fun y => eqD y x
theorem flat_of {K : PySem.W.Frag} {G : Option Addr} {Z : Addr → Prop} {H : Hp} {d : D} {v : V} (h : flatD d = true) (r : Rep K G Z H d v) : v = ofS d ∧ flatV v = true := by
  cases d <;> first | (have e := r.toS rfl; subst e; exact ⟨rfl, rfl⟩) | (simp [flatD] at h; done)
theorem eqV_D {x y : D} (hx : flatD x = true) (hy : flatD y = true) : eqV (ofS y) (ofS x) = eqD y x := by
  cases x <;> cases y <;> first | (simp [flatD] at hx; done) | (simp [flatD] at hy; done) | (simp [eqV, eqD, ofS]; done) | (simp [eqV, eqD, ofS]; rfl)
theorem inV_D {K : PySem.W.Frag} {G : Option Addr} {Z : Addr → Prop} {H : Hp} {x : D} (hx : flatD x = true) : ∀ {es : List D} {vs : List V}, es.all flatD = true → Reps K G Z H es vs → inV (ofS x) vs = inD x es ∧ vs.all flatV = true
  | [], vs, _, r => by rw [r.nil_inv]; exact ⟨rfl, rfl⟩
  | d :: es, vs, h, r => by
    rw [List.all_cons, Bool.and_eq_true] at h
    obtain ⟨v, w, rfl, q, t⟩ := r.split
    obtain ⟨e, f⟩ := flat_of h.1 q
    obtain ⟨e2, f2⟩ := inV_D hx h.2 t
    subst e
    constructor
    · unfold inV inD at e2 ⊢
      rw [List.any_cons, List.any_cons, e2, eqV_D hx h.1]
    · rw [List.all_cons, f, f2]; rfl
def rdIn (neg : Bool) : RD2 := fun d1 d2 k => flatD d1 = true ∧ ∃ es, (d2 = .tup es ∨ d2 = .lst es) ∧ es.all flatD = true ∧ k (.bl (if neg then !inD d1 es else inD d1 es))
theorem re_in {neg : Bool} : OpRel A (rIn A.K neg) (rdIn neg) := by
  rintro os n rho sg H ds vs d1 d2 v1 v2 k Q I ⟨h1, es, hd, hf, q⟩ hQ
  obtain ⟨I1, r2⟩ := I.pop
  obtain ⟨I2, r1⟩ := I1.pop
  obtain ⟨e1, f1⟩ := flat_of h1 r1
  subst e1
  rcases hd with rfl | rfl
  · obtain ⟨a, xs, e, sq, rs⟩ := r2.tup_inv
    obtain ⟨z1, z2⟩ := inV_D h1 hf rs
    exact ⟨a, xs, e, .inr sq.sq, f1, z2, by rw [z1]; exact hQ _ H _ ⟨os, I2.push (Rep.ofS rfl)⟩ q⟩
  · obtain ⟨a, xs, e, sq, rs⟩ := r2.lst_inv
    obtain ⟨z1, z2⟩ := inV_D h1 hf rs
    exact ⟨a, xs, e, .inl sq.sq, f1, z2, by rw [z1]; exact hQ _ H _ ⟨os, I2.push (Rep.ofS rfl)⟩ q⟩
end
end L2
namespace L2
open PySem PySem.Spec PyProof.Rows
section
variable {A : AC} {X : Cx} {a b c e : Expr} {es : List Expr} {te ta tb tc : TD} {t1 : TAD} {pos p : Pos}
end
section
variable {A : AC} {X : Cx}
end
end L2
namespace L2
open PySem PySem.Spec PyProof.Rows
section
variable {A : AC} {X : Cx} {pos p : Pos}
def dFn0 (t : TF) : TD := fun _ n P => t [] n P
@[simp] theorem q_dFn0 {t rho n P} : dFn0 t rho n P = t [] n P := rfl
end
end L2
set_option maxRecDepth 100000
namespace L2
open PySem PySem.Spec PyProof.Rows
section
variable {A : AC} {X : Cx} {a b e : Expr} {ta tb : TD} {pos p : Pos}
def sSetCatO (i : Nat) (ta tb : TD) : TSD := fun F rho n => i < rho.length ∧ ta rho n fun d1 n1 => tb rho n1 fun d2 n2 => lstOf d1 fun es => lstOf d2 fun fs => es.length + fs.length ≤ sizeLine ∧ F.nx (rho.set i (some (.own (es ++ fs)))) n2
@[simp] theorem q_sSetCatO {i ta tb F rho n} : sSetCatO i ta tb F rho n = (i < rho.length ∧ ta rho n fun d1 n1 => tb rho n1 fun d2 n2 => lstOf d1 fun es => lstOf d2 fun fs => es.length + fs.length ≤ sizeLine ∧ F.nx (rho.set i (some (.own (es ++ fs)))) n2) := rfl
def kStr : List D → (D → Prop) → Prop := fun es k => ∃ i : Int, es = [.int i] ∧ i.natAbs.log2 < 1920 ∧ k (.str (toString i))
@[simp] theorem q_kStr {i : Int} {k} : kStr [.int i] k ↔ (i.natAbs.log2 < 1920 ∧ k (.str (toString i))) := ⟨fun ⟨_, e, h⟩ => by cases e; exact h, fun h => ⟨_, rfl, h⟩⟩
end
end L2
namespace L2
open PySem PySem.Spec PyProof.Rows HT
section
variable {prog : Program} {w : World} {A : Around} {E : Value → Shared → Prop} {s : Shared}
end
section
variable {X : Cx} {e : Expr} {te : TE} {pos p2 : Pos}
end
section
variable {A : AC} {X : Cx} {a : Expr} {ta : TD} {pos p2 p3 p4 : Pos}
def dRev (ta : TD) : TD := fun rho n P => ta rho n fun d n1 => tupAt d fun fs => P (.tup fs.reverse) n1
@[simp] theorem q_dRev {ta rho n P} : dRev ta rho n P = ta rho n fun d n1 => tupAt d fun fs => P (.tup fs.reverse) n1 := rfl
end
end L2
set_option maxRecDepth 100000
namespace L2
open PySem PySem.Spec PyProof.Rows PySem.W PySem.Calls PySem.NumText
section
variable {A : AC} {X : Cx} {e : Expr} {te : TD} {pos : Pos}
def sWhile (tc : TBD) (tb : TSD) : TSD := fun F rho n => ∃ J : Nat → Rho → Nat → Prop, (∃ m, J m rho n) ∧ ∀ m rho n, J m rho n → tc rho n fun b n1 => if b = true then tb { F with nx := fun rho' n' => ∃ m', m' < m ∧ J m' rho' n', ct := fun rho' n' => ∃ m', m' < m ∧ J m' rho' n', bk := F.nx } rho n1 else F.nx rho n1
@[simp] theorem q_sWhile {tc tb F rho n} : sWhile tc tb F rho n = ∃ J : Nat → Rho → Nat → Prop, (∃ m, J m rho n) ∧ ∀ m rho n, J m rho n → tc rho n fun b n1 => if b = true then tb { F with nx := fun rho' n' => ∃ m', m' < m ∧ J m' rho' n', ct := fun rho' n' => ∃ m', m' < m ∧ J m' rho' n', bk := F.nx } rho n1 else F.nx rho n1 := rfl
def sAugI (f : Int → Int → Int) (i : Nat) (te : TD) : TSD := fun F rho n => i < rho.length ∧ ∃ a : Int, rho[i]? = some (some (.int a)) ∧ te rho n fun d n1 => ∃ b : Int, d = .int b ∧ F.nx (rho.set i (some (.int (f a b)))) n1
@[simp] theorem q_sAugI {f i te F rho n} : sAugI f i te F rho n = (i < rho.length ∧ ∃ a : Int, rho[i]? = some (some (.int a)) ∧ te rho n fun d n1 => ∃ b : Int, d = .int b ∧ F.nx (rho.set i (some (.int (f a b)))) n1) := rfl
def rdCatS : RD2 := fun d1 d2 k => ∃ x y, d1 = .str x ∧ d2 = .str y ∧ x.length + y.length ≤ sizeLine ∧ k (.str (x ++ y))
theorem re_catS : OpRel A (fun x y H Q => ∃ i j, x = .str i ∧ y = .str j ∧ i.length + j.length ≤ sizeLine ∧ Q (.str (i ++ j)) H) rdCatS := by
  rintro os n rho sg H ds vs d1 d2 v1 v2 k Q I ⟨x, y, rfl, rfl, hz, q⟩ hQ
  obtain ⟨I1, r2⟩ := I.pop
  obtain ⟨I2, r1⟩ := I1.pop
  exact ⟨x, y, r1.toS rfl, r2.toS rfl, hz, hQ _ H _ ⟨os, I2.push (Rep.ofS rfl)⟩ q⟩
@[simp] theorem q_rdCatS {x y k} : rdCatS (.str x) (.str y) k ↔ (x.length + y.length ≤ sizeLine ∧ k (.str (x ++ y))) := ⟨fun ⟨_, _, e, e', h⟩ => by cases e; cases e'; exact h, fun h => ⟨_, _, rfl, rfl, h⟩⟩
theorem op_mulS : OpR X (binaryOp .Mult) (fun x y H Q => ∃ i n, x = .str i ∧ y = .int n ∧ MulOk i n ∧ Q (.str (Txt.mul i n)) H) := by
  intro pins s σ H x y v u Q I rx ry h
  obtain ⟨i, n, rfl, rfl, hz, q⟩ := h
  obtain ⟨t, rfl⟩ := rx
  obtain ⟨t', rfl⟩ := ry
  exact SB.mul hz fun t' k => ⟨.str (Txt.mul i n), H, I.tok _, ⟨_, rfl⟩, q⟩
def rdMulS : RD2 := fun d1 d2 k => ∃ x i, d1 = .str x ∧ d2 = .int i ∧ MulOk x i ∧ k (.str (Txt.mul x i))
theorem re_mulS : OpRel A (fun x y H Q => ∃ i n, x = .str i ∧ y = .int n ∧ MulOk i n ∧ Q (.str (Txt.mul i n)) H) rdMulS := by
  rintro os n rho sg H ds vs d1 d2 v1 v2 k Q I ⟨x, y, rfl, rfl, hz, q⟩ hQ
  obtain ⟨I1, r2⟩ := I.pop
  obtain ⟨I2, r1⟩ := I1.pop
  exact ⟨x, y, r1.toS rfl, r2.toS rfl, hz, hQ _ H _ ⟨os, I2.push (Rep.ofS rfl)⟩ q⟩
@[simp] theorem q_rdMulS {x i k} : rdMulS (.str x) (.int i) k ↔ (MulOk x i ∧ k (.str (Txt.mul x i))) := ⟨fun ⟨_, _, e, e', h⟩ => by cases e; cases e'; exact h, fun h => ⟨_, _, rfl, rfl, h⟩⟩
end
theorem wp_long {M : Model} {A : Around} {E : Value → Shared → Prop} {s : Shared} {Q : Value → Shared → Prop} {v : Value} {text : List Nat} {n : Int}
    (hs : ¬ (text.takeWhile (· != 0)).length ≤ 640) (hr : (int_private% "readNumeral") 4300 10 (text.takeWhile (· != 0)) = (int_private% "Numeral.value") n)
    (ha : ((text.takeWhile (· != 0)).length == text.length) = true) (hn : s.heap.NoDigits) (h : Q (.int n s.toks) { s with toks := s.toks + 1 }) :
    wpAny M A ((int_private% "intFromText") v text 10) Q E s := by
  obtain ⟨mc, hns, hnone⟩ := hn
  obtain ⟨hp, g, d, tk, os⟩ := s
  have hi : ∀ {Q : Nat → Shared → Prop}, Q 4300 ⟨hp, g, d, tk, os⟩ → wpAny M A Builtin.intMaxStrDigits Q E ⟨hp, g, d, tk, os⟩ := fun {Q} q => by
    unfold Builtin.intMaxStrDigits
    refine wpAny_bind (wpAny_nsGet hns ?_)
    rw [hnone]
    exact wpAny_pure q
  repeat (any_goals (first
    | assumption
    | (with_reducible refine wpAny_ite_false (decide_eq_false hs) ?_)
    | (with_reducible refine wpAny_ite_true (decide_eq_true ha) ?_)
    | (with_reducible refine hi ?_)
    | wp_step))
  all_goals (try rw [hr])
  all_goals (try dsimp only)
  repeat (any_goals (first
    | assumption
    | (with_reducible refine wpAny_ite_true (decide_eq_true ha) ?_)
    | wp_step))
set_option maxHeartbeats 4000000 in
theorem meets_long {x : PySem.Str} {u : Tok} {n : Int} (hs : ¬ (numSeenOf x).length ≤ 640) (hl : x.length ≤ sizeLine) (hn : PySem.intText? x = some n) : Meets (Builtin.«int.__new__» ⟨[.type "int", .str x u], []⟩) (fun A R s => s.heap.NoDigits ∧ R (.ok (.ret (.int n s.toks))) { s with toks := s.toks + 1 }) := by
  intro prog w A R s h
  obtain ⟨hd, h⟩ := h
  obtain ⟨hp, g, d, tk, os⟩ := s
  have f1 := F.conv_sub_int
  have f2 := F.madeHere_int
  have f3 := KIN.str_int
  have f4 := KIN.str_idx
  have f5 := KIN.str_trunc
  have f6 : typeOf (.str x u) = pure (.type "str") := rfl
  have hr : (int_private% "readNumeral") 4300 10 (numSeenOf x) = (int_private% "Numeral.value") n ∧ ((numSeenOf x).length == (numTextOf x).length) = true := by
    rcases read4300 x hl with ⟨m, h1, h2, h3⟩ | ⟨h1, _⟩
    · rw [hn] at h1
      injection h1 with h1
      subst h1
      exact ⟨h3, h2⟩
    · rw [hn] at h1
      cases h1
  have hk := KIN.Hid.mk (And.intro hs (And.intro hr hd))
  clear hs hr hl hn hd
  repeat (any_goals (first
    | assumption
    | ((with_reducible show wpAny _ _ ((int_private% "intFromText") _ _ _) _ _ _); refine wp_long hk.out.1 hk.out.2.1.1 hk.out.2.1.2 hk.out.2.2 ?_)
    | wp_step))
theorem call_long {prog : Program} {w : World} {A : Around} {E : Value → Shared → Prop} {s : Shared} {Q : Value → Shared → Prop} {x : PySem.Str} {t : Tok} {n : Int} (hs : ¬ (numSeenOf x).length ≤ 640) (hl : x.length ≤ sizeLine) (hn : PySem.intText? x = some n) (hd : s.heap.NoDigits) (h : Q (.int n s.toks) { s with toks := s.toks + 1 }) : wpAny (model prog w) A (call (.type "int") [.str x t]) Q E s :=
  call_int_1 (meets_long hs hl hn) ⟨hd, rfl, h⟩
section
variable {A : AC} {X : Cx}
theorem call_int_long (hd : X.base.NoDigits) : CallR X (.type "int") (fun xs H Q => ∃ x n, xs = [.str x] ∧ ¬ (numSeenOf x).length ≤ 640 ∧ x.length ≤ sizeLine ∧ PySem.intText? x = some n ∧ Q (.int n) H) := by
  intro pins s σ H xs us Q I r h
  obtain ⟨x, n, rfl, h1, h2, h3, q⟩ := h
  obtain ⟨u, rfl, t, rfl⟩ := vals1 r
  exact call_long h1 h2 h3 (hd.keeps I.bk) ⟨.int n, H, I.tok _, ⟨_, rfl⟩, q⟩
def kIntL : List D → (D → Prop) → Prop := fun es k => ∃ x n, es = [.str x] ∧ ¬ (numSeenOf x).length ≤ 640 ∧ x.length ≤ sizeLine ∧ PySem.intText? x = some n ∧ k (.int n)
theorem cr_intL : CallRel A (fun xs H Q => ∃ x n, xs = [.str x] ∧ ¬ (numSeenOf x).length ≤ 640 ∧ x.length ≤ sizeLine ∧ PySem.intText? x = some n ∧ Q (.int n) H) kIntL := by
  rintro os n rho sg H ds vs es ws k Q I rs ⟨x, m, rfl, h1, h2, h3, q⟩ hQ
  obtain ⟨v, rfl, r⟩ := reps1 rs
  exact ⟨x, m, by rw [r.toS rfl]; rfl, h1, h2, h3, hQ _ H _ ⟨os, I.push (Rep.ofS rfl)⟩ q⟩
end
theorem fold_rep : ∀ (k : Nat) (a : Array Nat), ((List.replicate k #[48]).foldl (· ++ ·) a).toList = a.toList ++ List.replicate k 48
  | 0, a => by simp
  | k + 1, a => by
    rw [List.replicate_succ, List.foldl_cons, fold_rep k, Array.toList_append, List.append_assoc]
    rfl
theorem cps_noughts (k : Int) (h : 1 < k) : (Str.ofString "1" ++ Txt.mul (Str.ofString "0") k).cps.toList = 49 :: List.replicate k.toNat 48 := by
  have e : (Str.ofString "0").cps = #[48] := by decide +kernel
  have e1 : (Str.ofString "1").cps = #[49] := by decide +kernel
  have el : (Str.ofString "0").length = 1 := by decide +kernel
  unfold Txt.mul
  rw [if_neg (by lia), if_neg (by simp [el]; lia)]
  show ((Str.ofString "1").cps ++ _).toList = _
  rw [e1, Array.toList_append, e, fold_rep]
  rfl
theorem int_noughts (k : Int) (h : 700 < k) (h2 : k < 4200) : ∃ m : Int, 0 < m ∧ ¬ (numSeenOf (Str.ofString "1" ++ Txt.mul (Str.ofString "0") k)).length ≤ 640 ∧ (Str.ofString "1" ++ Txt.mul (Str.ofString "0") k).length ≤ sizeLine ∧ PySem.intText? (Str.ofString "1" ++ Txt.mul (Str.ofString "0") k) = some m := by
  have ec := cps_noughts k (by lia)
  generalize hx : Str.ofString "1" ++ Txt.mul (Str.ofString "0") k = x at *
  have hl : x.length = k.toNat + 1 := by
    have : x.cps.toList.length = x.length := Array.length_toList
    rw [← this, ec]; simp
  have hd : NumText.AllDigits x.cps.toList := fun c hc => by
    rw [ec] at hc
    rcases List.mem_cons.mp hc with rfl | hc
    · lia
    · rw [(List.mem_replicate.mp hc).2]; lia
  refine ⟨(NumText.digitsVal x.cps.toList : Nat), ?_, ?_, ?_, intText_digits hd (by rw [ec]; simp) (by lia)⟩
  · rw [ec]
    have := NumText.digitsVal_pos (c := 49) (cs := List.replicate k.toNat 48) (by decide)
    lia
  · rw [(numText_signs fun c hc => Or.inr (hd c hc)).2, ec]; simp; lia
  · rw [hl, sizeLine_eq]; lia
theorem mulok_nought (k : Int) (h : 1 < k) (h2 : k < 10000) : MulOk (Str.ofString "0") k := by
  have el : (Str.ofString "0").length = 1 := by decide +kernel
  refine ⟨by simp; lia, fun _ _ => ?_, fun _ _ => ?_⟩
  · rw [el]
    have : 1 ≤ (2 ^ 63 - 1 : Int) / k := (Int.le_ediv_iff_mul_le (by lia)).mpr (by lia)
    intro z
    exact absurd z (Int.not_lt.mpr this)
  · rw [el]
    unfold Builtin.Str.tooLong
    exact decide_eq_false (by rw [sizeLine_eq]; lia)
end L2
set_option maxRecDepth 100000
namespace L2
open PySem PySem.Spec PyProof.Rows
theorem law_callN {P : Program} {w : World} {K : PySem.W.Frag} {mg mb : Str → Option Value} {CX : CXT} {k : Nat} {fa a : Addr} {fd : FuncData} {x : Str} {sp : Sp} {s₁ : Shared} {vs : List Value} {ns : List Int}
    (KX : K.In s₁.heap) (hns : s₁.heap.Ns mainGlobals mg) (hb : s₁.heap.Ns builtinsNs mb) (hbb : ∀ x : Str, x ≠ "__name__" → mb x = bootBuiltins x) (hlim : s₁.heap.NoLimit) (hdig : s₁.heap.NoDigits) (hg : s₁.gens = #[])
    (ha : s₁.heap.get? a = some { cls := .type "list", data := .seq vs.toArray }) (hi : IntsAre vs ns) (hl : ns.length ≤ sizeLine) (hr : Room k callerA)
    (F : ∀ base : Heap, K.In base → base.Ns mainGlobals mg → base.NoDigits → FnOk P w K mg base CX k fa fd [x] sp) (hbind : ∀ (s : Shared) (u : Value), BindsTo s fd ⟨[u], []⟩ [(x, u)])
    (hsp : ∀ H : Hp, Only H → SqL K H a (ns.map V.int) → sp [.ref a] H (fun v _ => v = .bl true) fun _ _ _ => False)
    (hCX : ∀ H e s', CX [] H s₁ (fun _ _ _ => False) e s' → False) :
    codeAny (model P w) callerA (.call (.ref fa) ⟨[.ref a], []⟩) (fun r s' => r = .ok (.ret (.bool true)) ∧ OldK s₁.heap s'.heap ∧ s'.os = s₁.os ∧ AllBare s'.gens) s₁ := by
  have rv := vals_ints hi
  have lenV := hi.length
  have core : ∀ H : Hp, Only H → SqL K H a (ns.map V.int) → HOk P w H s₁.heap → (∀ b, H b ≠ none → b = a) → (H a ≠ none → K.lookup a = none) →
      codeAny (model P w) callerA (.call (.ref fa) ⟨[.ref a], []⟩) (fun r s' => r = .ok (.ret (.bool true)) ∧ OldK s₁.heap s'.heap ∧ s'.os = s₁.os ∧ AllBare s'.gens) s₁ := by
    intro H hO hS hok hA hK
    have base_of : ∀ {b : Addr} {o : Obj}, s₁.heap.get? b = some o → H b = none → (hidT s₁.heap H).get? b = some o := fun e n => hidT_get e n
    have noA : ∀ {b : Addr} {o : Obj} {es : Array DictEntry} {ep : Nat}, s₁.heap.get? b = some o → o.data = .dict es ep → H b = none := fun {b o es ep} e d => by
      cases q : H b with
      | none => rfl
      | some u =>
        have e' : b = a := hA b (by rw [q]; simp)
        subst e'
        rw [ha] at e; cases e
        have d' : Data.seq vs.toArray _ = Data.dict es ep := d
        cases d'
    have nsK : ∀ {b : Addr} {m : Str → Option Value}, s₁.heap.Ns b m → (hidT s₁.heap H).Ns b m := fun {b m} ⟨o, es, ep, e, d, r⟩ => ⟨o, es, ep, base_of e (noA e d), d, r⟩
    have hKb : K.In (hidT s₁.heap H) := fun b o e => base_of (KX b o e) (by
      cases q : H b with
      | none => rfl
      | some u =>
        have e' : b = a := hA b (by rw [q]; simp)
        subst e'
        rw [hK (by rw [q]; simp)] at e; cases e)
    have hM : Mod K mg (hidT s₁.heap H) := ⟨hKb, nsK hns, ⟨mb, nsK hb, hbb⟩, let ⟨mc, h1, h2⟩ := hlim; ⟨mc, nsK h1, h2⟩⟩
    have e0 : Env0 P w K mg (hidT s₁.heap H) callerA [] s₁ H := ⟨rfl, hM, fun b o e => of_hidT e, Nat.le_of_eq (hidT_size _ _), trivial, fun b hb => absurd (show b ∈ ([] : List Addr) from hb) (by simp), hok, .of_eq hg⟩
    refine codeAny_mono ((F _ hKb (nsK hns) (let ⟨mc, h1, h2⟩ := hdig; ⟨mc, nsK h1, h2⟩)).run callerA [] s₁ H ⟨[.ref a], []⟩ [.ref a] [.ref a] _ _ hr e0 (hbind s₁ (.ref a)) (.cons rfl .nil) (hsp H hO hS)) fun r s' h => ?_
    cases r with
    | error e => exact (hCX H e s' h).elim
    | ok fl =>
      cases fl with
      | next => exact False.elim h
      | brk => exact False.elim h
      | cont => exact False.elim h
      | ret u =>
        obtain ⟨v, H', os, bare, un, hok', r', q⟩ := h
        have q' : v = .bl true := q
        subst q'
        obtain rfl : u = Value.bool true := r'
        refine ⟨rfl, OldK.of_keep fun b o e => ?_, os, bare⟩
        cases q : H b with
        | none => exact un.keep b o e q (by intro z; exact absurd (show b ∈ ([] : List Addr) from z) (by simp)) (by simp)
        | some u =>
          rcases hO b with z | ⟨ob, xs, z⟩
          · rw [q] at z; cases z
          · have z2 := un.frzs b ob _ z
            obtain ⟨e1, _⟩ := hok b _ z
            obtain ⟨e2, _⟩ := hok' b _ z2
            rw [e] at e1; cases e1
            exact e2
  cases hk : K.lookup a with
  | some o =>
    have e := KX a o hk
    rw [ha] at e
    cases e
    refine core (fun _ => none) (fun _ => .inl rfl) (.inr ⟨_, vs.toArray, _, hk, rfl, rfl, rfl, by rw [List.size_toArray, lenV]; exact hl, by simpa using rv⟩) (fun b u z => by have z' : (none : Option HO) = some u := z; cases z') (fun b z => absurd rfl z) fun z => absurd rfl z
  | none =>
    refine core (fun b => if b = a then some (.frz { cls := .type "list", data := .seq vs.toArray } (.lst (ns.map V.int))) else none) (fun b => ?_) (.inl (.inr ⟨{ cls := .type "list", data := .seq vs.toArray }, if_pos rfl⟩)) (fun b u z => ?_) (fun b z => ?_) fun _ => hk
    · by_cases hb : b = a
      · exact .inr ⟨_, _, if_pos hb⟩
      · exact .inl (if_neg hb)
    · by_cases hb : b = a
      · have z' := (if_pos hb).symm.trans z
        cases z'
        subst hb
        exact ⟨ha, by rw [List.length_map]; exact hl, vs, _, rv, ha⟩
      · have z' := (if_neg hb).symm.trans z
        cases z'
    · by_cases hb : b = a
      · exact hb
      · exact absurd (if_neg hb) z
theorem walk_ofN {l : PySem.W.OpenLaw} {n k : Nat} {q : Program} {loose : List Str} {XP : (Str → Option Value) → Heap → Prop} {YP : World → Heap → Prop} {d : DefRec} {K : Params → PySem.W.Frag} {CX : World → CXT} {sp : World → Sp} {x : Str}
    (hn : l.most = some n) (hn2 : n ≤ sizeLine) (hdf : d.params.defaults = []) (hr : Room k callerA)
    (hY : ∀ (w : World) (h : Heap), YP w h → (K w.params).In h)
    (F : ∀ (w : World) (mg : Str → Option Value) (fa : Addr) (h : Heap), (K w.params).In h → h.Ns mainGlobals mg → mg d.name = some (.ref fa) →
      ∃ fd : FuncData, (∀ (s : Shared) (u : Value), BindsTo s fd ⟨[u], []⟩ [(x, u)]) ∧
        ∀ base : Heap, (K w.params).In base → base.Ns mainGlobals mg → base.NoDigits → FnOk l.prog w (K w.params) mg base (CX w) k fa fd [x] (sp w))
    (hsp : ∀ (w : World) (H : Hp) (a : Addr) (ns : List Int), ns.length ≤ n → Only H → SqL (K w.params) H a (ns.map V.int) → sp w [.ref a] H (fun v _ => v = .bl true) fun _ _ _ => False)
    (hCX : ∀ (w : World) (H : Hp) (s : Shared) (e : Value) (s' : Shared), CX w [] H s (fun _ _ _ => False) e s' → False) :
    PySem.W.WalkO q loose XP YP l.row.toRowW d [] (fun f vs => PySem.call f vs) := by
  refine Att.attach_call hn hdf fun w s₀ s₁ mg mb fa o pm cd doc a vs ns G Y ho hd hcd hmg hobj hints hlen hg => ?_
  have KX := hY w _ Y
  obtain ⟨fd, hb, hF⟩ := F w mg fa _ KX G.T.g hmg
  exact law_callN KX G.T.g G.T.b G.T.builtins G.T.nolimit G.T.nodigits hg hobj hints (Nat.le_trans hlen hn2) hr hF hb (fun H hO hS => hsp w H a ns hlen hO hS) fun H e s' => hCX w H s₁ e s'
end L2
set_option maxRecDepth 100000
namespace L2
open PySem PySem.Spec PyProof.Rows PySem.W PySem.Calls
section
variable {X : Cx} {pos : Pos}
end
section
variable {A : AC} {X : Cx} {a b c : Expr} {pos : Pos}
def sPar3 (i j k : Nat) (t : TAD) : TSD := fun F rho n => i < rho.length ∧ j < rho.length ∧ k < rho.length ∧ t rho n fun es n1 => ∃ d d' d2, es = [d, d', d2] ∧ F.nx (((rho.set k (some d2)).set j (some d')).set i (some d)) n1
@[simp] theorem q_sPar3 {i j k t F rho n} : sPar3 i j k t F rho n = (i < rho.length ∧ j < rho.length ∧ k < rho.length ∧ t rho n fun es n1 => ∃ d d' d2, es = [d, d', d2] ∧ F.nx (((rho.set k (some d2)).set j (some d')).set i (some d)) n1) := rfl
end
end L2
set_option maxRecDepth 100000
namespace L2.Srt
open PySem PyProof.Rows
section
variable {n : Nat} {item : Nat → Keyed} {kd : SortKind} {r : Nat → Nat → Bool} {ls : Array Nat} {t : SortSt}
end
section
variable {prog : Program} {w : World} {A : Around} {E : Value → Shared → Prop} {s : Shared} {n : Nat} {item : Nat → Keyed} {kd : SortKind} {r : Nat → Nat → Bool} {ls : Array Nat} {t : SortSt}
end
end L2.Srt
set_option maxRecDepth 100000
namespace L2.Srt
open PySem PyProof.Rows
section
variable {prog : Program} {w : World} {A : Around} {E : Value → Shared → Prop} {s : Shared} {r : Nat → Nat → Bool} {kd : SortKind}
end
end L2.Srt
set_option maxRecDepth 100000
namespace L2.Srt
open PySem PyProof.Rows PySem.SeqAt
section
variable {prog : Program} {w : World} {M : Model} {A : Around} {E : Value → Shared → Prop} {s : Shared}
end
end L2.Srt
set_option maxRecDepth 100000
namespace L2
open PySem PySem.Spec PyProof.Rows PySem.SeqAt
section
variable {X : Cx}
end
end L2
set_option maxRecDepth 100000
namespace L2
open PySem PySem.Spec PyProof.Rows PySem.SeqAt
section
variable {X : Cx} {pins : List (Addr × Obj)} {σ : St} {H : Hp} {s : Shared} {G : Option Addr} {Z : Addr → Prop}
end
end L2
set_option maxRecDepth 100000
namespace L2
open PySem PySem.Spec PyProof.Rows PySem.SeqAt
theorem call_sum {X : Cx} (hc : X.calm = true) : CallR X (.builtin "sum") (fun xs H Q => ∃ (p : Addr) (ns : List Int), xs = [.ref p] ∧ SqL X.K H p (ns.map V.int) ∧ Q (.int ns.sum) H) := by
  intro pins s σ H xs us Q I r h
  obtain ⟨p, ns, rfl, hq, q⟩ := h
  obtain ⟨u, rfl, hu⟩ := vals1 r
  have e : u = .ref p := hu
  subst e
  obtain ⟨its, rv, pl, _⟩ := I.list hq
  have hi := intsAre_of rv
  obtain ⟨ys, hys⟩ := hi.allInts.items
  have hl := pl.isList
  rw [hys] at hl
  refine sum_intListG (I.ok.hd hc) hl fun h' tk t' hk => ?_
  refine ⟨.int ns.sum, H, I.kept hk, ⟨t', ?_⟩, q⟩
  rw [preSum_eq, List.take_of_length_le (by simp)]
  have e2 := nums_intItems ys
  rw [← hys] at e2
  rw [← e2]
  show Value.int (numsOf its.toArray.toList).sum t' = _
  rw [show its.toArray.toList = its from rfl, hi.numsOf]
def kSum : List D → (D → Prop) → Prop := fun es k => ∃ ns : List Int, es = [.lst (ns.map D.int)] ∧ k (.int ns.sum)
theorem cr_sum {A : AC} : CallRel A (fun xs H Q => ∃ (p : Addr) (ns : List Int), xs = [.ref p] ∧ SqL A.K H p (ns.map V.int) ∧ Q (.int ns.sum) H) kSum := by
  rintro os n rho sg H ds vs es ws k Q I rs ⟨ns, rfl, q⟩ hQ
  obtain ⟨v, rfl, r⟩ := reps1 rs
  obtain ⟨a, xs, rfl, sq, rr⟩ := r.lst_inv
  have e := reps_intsV rr
  subst e
  exact ⟨a, ns, rfl, sq.sq, hQ _ _ _ ⟨os, I.push (Rep.ofS (d := .int ns.sum) rfl)⟩ q⟩
structure Blt2 (mg : Str → Option Value) : Prop where
  sum : mg "sum" = none
theorem bt_sum : bootBuiltins "sum" = some (.builtin "sum") := by decide +kernel
section
variable {A : AC} {X : Cx} {a : Expr} {ta : TD} {pos : Pos}
def lstAt (d : D) (k : List D → Prop) : Prop := ∃ fs, (d = .lst fs ∨ d = .fz fs) ∧ k fs
@[simp] theorem q_lstAt {fs : List D} {k} : lstAt (.lst fs) k ↔ k fs := ⟨fun ⟨_, e, h⟩ => by rcases e with e | e <;> cases e; exact h, fun h => ⟨_, .inl rfl, h⟩⟩
def dSlV (ta : TD) (tl th : TOD) : TD := fun rho n P => ta rho n fun d n1 => tl rho n1 fun lo n2 => th rho n2 fun hi n3 => lstAt d fun fs => P (.lst (cutL fs lo hi)) n3
@[simp] theorem q_dSlV {ta tl th rho n P} : dSlV ta tl th rho n P = ta rho n fun d n1 => tl rho n1 fun lo n2 => th rho n2 fun hi n3 => lstAt d fun fs => P (.lst (cutL fs lo hi)) n3 := rfl
def dOwnNe (i : Nat) : TD := fun rho n P => ∃ es, rho[i]? = some (some (.own es)) ∧ okE (.lst es) 20 = true ∧ P (.bl (!eqDs es [])) n
@[simp] theorem q_dOwnNe {i rho n P} : dOwnNe i rho n P = ∃ es, rho[i]? = some (some (.own es)) ∧ okE (.lst es) 20 = true ∧ P (.bl (!eqDs es [])) n := rfl
theorem tOp_ownNe {i : Nat} (hK : X.K = A.K) {sg : St} {H : Hp} {Q : VK} (h : tOf A (dOwnNe i) sg H Q) : tOp (rDne X) (tVar i) (tOf A (dLst aNil)) sg H Q := by
  obtain ⟨rho, n, P, ds, vs, ⟨os, I⟩, ⟨es, hi, ok, q⟩, hQ⟩ := h
  obtain ⟨a, xs, e1, hH, rs, _⟩ := I.own (es' := es) (xs' := []) hi
  refine ⟨.ref a, e1, rho, n, fun d n1 => d = .lst [] ∧ n1 = n, ds, vs, ⟨os, I⟩, ⟨Nat.zero_le _, rfl, rfl⟩, fun v2 H2 n2 d2 ⟨os2, J⟩ k => ?_⟩
  obtain ⟨rfl, rfl⟩ := k
  obtain ⟨J1, r2⟩ := J.pop
  obtain ⟨a', xs', e2, hH', rs', _⟩ := J1.own (es' := es) (xs' := []) hi
  rw [e1] at e2
  cases e2
  have no : ∀ b, H2 b ≠ none → False → Zof A os2 b := fun _ _ z => z.elim
  have rA : Rep X.K A.G (fun _ => False) H2 (.lst es) (.ref a) := by
    rw [hK]
    exact .lst_mk ⟨fun z => z, hH'⟩ (Reps.mono no (fun _ _ _ e => e) _ _ rs')
  have rB : Rep X.K A.G (fun _ => False) H2 (.lst []) v2 := by
    rw [hK]
    exact Rep.mono no (fun _ _ _ e => e) _ _ r2
  have ok0 : okE (.lst []) 20 = true := by unfold okE; rfl
  refine ⟨eqD (.lst es) (.lst []), fun pins s σ v u J rx ry B hu => eq_rep J 20 _ _ _ _ v u B ok ok0 rA rB rx ry (by lia), ?_⟩
  have eqe : eqD (.lst es) (.lst []) = eqDs es [] := by unfold eqD; rfl
  rw [eqe]
  exact hQ _ H2 _ _ ⟨os2, J1.push (Rep.ofS (d := .bl (!eqDs es [])) rfl)⟩ q
theorem ptd_ownNe {i : Nat} {x : Str} {px p2 : Pos} {n : Nat} (hr : Room n X.A) (hK : X.K = A.K) (hN : X.N[i]? = some x := by rfl) (hv : Vis X.env.scope x := by first | exact Or.inl rfl | exact Or.inr (Or.inl rfl) | exact Or.inr (Or.inr rfl)) (hd : (x == ("__debug__" : Str)) = false := by decide)
    (hcd : (x == ("__classdict__" : Str)) = false := by decide) : PTD A X (.Compare (.Name x px) [.NotEq] [.List [] p2] pos) (dTest (dOwnNe i)) := by
  with_unfolding_all
    exact (pt_cmpR (op_dne hr) (pe_var hN hv hd hcd) (pd_lst (A := A) pad_nil) (nomark _)).imp fun _ _ _ => tTest_of fun _ _ _ => tOp_ownNe hK
end
end L2
set_option maxRecDepth 100000
namespace L2
open PySem PySem.Spec PyProof.Rows PySem.SeqAt
mutual
def toPy : D → PyData
  | .int i => .int i
  | .tup ds => .tuple (toPys ds)
  | _ => .none
def toPys : List D → List PyData
  | [] => []
  | d :: ds => toPy d :: toPys ds
end
mutual
def okS : D → Nat → Bool
  | .int i, _ => decide (i.natAbs.log2 < 1920)
  | .tup ds, k => match k with
    | 0 => false
    | k + 1 => okSs ds k
  | _, _ => false
def okSs : List D → Nat → Bool
  | [], _ => true
  | d :: ds, k => okS d k && okSs ds k
end
mutual
def nodes : D → Nat
  | .tup ds => nodess ds + 1
  | _ => 1
def nodess : List D → Nat
  | [] => 0
  | d :: ds => nodes d + nodess ds
end
def showD (d : D) : Str := (toPy d).shown
section
variable {X : Cx} {pins : List (Addr × Obj)} {σ : St} {H : Hp} {s : Shared} {G : Option Addr} {Z : Addr → Prop}
end
def kStrT : List D → (D → Prop) → Prop := fun es k => ∃ ds, es = [.tup ds] ∧ okS (.tup ds) 15 = true ∧ nodes (.tup ds) ≤ 8000 ∧ k (.str (showD (.tup ds)))
@[simp] theorem q_kStrT {ds k} : kStrT [.tup ds] k ↔ (okS (.tup ds) 15 = true ∧ nodes (.tup ds) ≤ 8000 ∧ k (.str (showD (.tup ds)))) := ⟨fun ⟨_, e, h⟩ => by cases e; exact h, fun h => ⟨_, rfl, h⟩⟩
end L2
set_option maxRecDepth 100000
namespace L2
open PySem PySem.Spec PyProof.Rows
section
variable {X : Cx} {A : AC}
def rdRepZ : RD2 := fun d1 d2 k => ∃ es i, d1 = .tup es ∧ d2 = .int i ∧ es ≠ [] ∧ 0 ≤ i ∧ es.length * i.toNat ≤ sizeLine ∧ k (.tup (List.replicate i.toNat es).flatten)
@[simp] theorem q_rdRepZ {es i k} : rdRepZ (.tup es) (.int i) k ↔ (es ≠ [] ∧ 0 ≤ i ∧ es.length * i.toNat ≤ sizeLine ∧ k (.tup (List.replicate i.toNat es).flatten)) := ⟨fun ⟨_, _, e, e', h⟩ => by cases e; cases e'; exact h, fun h => ⟨_, _, rfl, rfl, h⟩⟩
end
end L2
set_option maxRecDepth 100000
namespace L2.Srt
open PySem PyProof.Rows
section
variable {prog : Program} {w : World} {A : Around} {E : Value → Shared → Prop} {s : Shared}
end
end L2.Srt
namespace L2
open PySem PySem.Spec PyProof.Rows
section
variable {X : Cx} {A : AC} {pos : Pos} {e : Expr} {t1 : TAD}
def sNever : TSD := fun _ _ _ => False
@[simp] theorem q_never {F : EndsD} {rho : Rho} {n : Nat} : sNever F rho n ↔ False := Iff.rfl
end
end L2
set_option maxRecDepth 100000
namespace L2
open PySem PySem.Spec PyProof.Rows
mutual
/-- neither the drawing's list nor an own one is in it -/
def noSt : D → Bool
  | .st => false
  | .own _ => false
  | .tup ds => noSts ds
  | .lst ds => noSts ds
  | .fz ds => noSts ds
  | .dct _ ds => noSts ds
  | .ob _ _ ds => noSts ds
  | .oi _ _ _ _ => false
  | _ => true
def noSts : List D → Bool
  | [] => true
  | d :: ds => noSt d && noSts ds
end
theorem noSts_iff : ∀ {ds : List D}, noSts ds = true ↔ ∀ d ∈ ds, noSt d = true
  | [] => by simp [noSts]
  | d :: ds => by simp [noSts, noSts_iff (ds := ds)]
theorem noSt_own {d : D} (h : noSt d = true) : notOwn d = true := by
  cases d <;> first | rfl | (simp [noSt] at h; done)
section
variable {K : PySem.W.Frag} {G G' : Option Addr} {Z : Addr → Prop} {H : Hp}
mutual
theorem Rep.reG : ∀ (d : D) (v : V), noSt d = true → Rep K G Z H d v → Rep K G' Z H d v
  | .st, v, hn, h => by simp [noSt] at hn
  | .own _, v, hn, h => by simp [noSt] at hn
  | .tup ds, v, hn, h => by
    unfold Rep at h ⊢
    obtain ⟨a, xs, e, q, r⟩ := h
    exact ⟨a, xs, e, q, Reps.reG ds xs (by simpa [noSt] using hn) r⟩
  | .lst ds, v, hn, h => by
    unfold Rep at h ⊢
    obtain ⟨a, xs, e, q, r⟩ := h
    exact ⟨a, xs, e, q, Reps.reG ds xs (by simpa [noSt] using hn) r⟩
  | .fz ds, v, hn, h => by
    unfold Rep at h ⊢
    obtain ⟨a, xs, e, q, r⟩ := h
    exact ⟨a, xs, e, q, Reps.reG ds xs (by simpa [noSt] using hn) r⟩
  | .non, v, hn, h => by unfold Rep at h ⊢; exact h
  | .bl b, v, hn, h => by unfold Rep at h ⊢; exact h
  | .int b, v, hn, h => by unfold Rep at h ⊢; exact h
  | .str b, v, hn, h => by unfold Rep at h ⊢; exact h
  | .ty b, v, hn, h => by unfold Rep at h ⊢; exact h
  | .dic, v, hn, h => by unfold Rep at h ⊢; exact h
  | .dct ks ds, v, hn, h => by
    unfold Rep at h ⊢
    obtain ⟨a, xs, e, q, r⟩ := h
    exact ⟨a, xs, e, q, Reps.reG ds xs (by simpa [noSt] using hn) r⟩
  | .ob C ns ds, v, hn, h => by
    unfold Rep at h ⊢
    obtain ⟨a, dx, xs, e, q, l, r⟩ := h
    exact ⟨a, dx, xs, e, q, l, Reps.reG ds xs (by simpa [noSt] using hn) r⟩
  | .mem F, v, hn, h => by unfold Rep at h ⊢; exact h
  | .oi _ _ _ _, v, hn, h => by simp [noSt] at hn
theorem Reps.reG : ∀ (ds : List D) (vs : List V), noSts ds = true → Reps K G Z H ds vs → Reps K G' Z H ds vs
  | [], vs, hn, h => by unfold Reps at h ⊢; exact h
  | d :: ds, vs, hn, h => by
    unfold Reps at h ⊢
    obtain ⟨v, r, e, q, t⟩ := h
    have hn' : noSt d = true ∧ noSts ds = true := by simpa [noSts] using hn
    exact ⟨v, r, e, Rep.reG d v hn'.1 q, Reps.reG ds r hn'.2 t⟩
end
end
def keepO : Option D → Option D
  | some d => if noSt d = true then some d else none
  | none => none
theorem keepO_pos {d : D} (h : noSt d = true) : keepO (some d) = some d := by show (if noSt d = true then some d else none) = _; rw [if_pos h]
def keepRho (rho : Rho) : Rho := rho.map keepO
theorem keepRho_at {rho : Rho} {j : Nat} {d : D} (h : (keepRho rho)[j]? = some (some d)) : rho[j]? = some (some d) ∧ noSt d = true := by
  unfold keepRho at h
  rw [List.getElem?_map] at h
  cases q : rho[j]? with
  | none => rw [q] at h; cases h
  | some o =>
    rw [q] at h
    cases o with
    | none => cases h
    | some c =>
      have h' : (if noSt c = true then some c else none) = some d := Option.some.inj h
      by_cases hc : noSt c = true
      · rw [if_pos hc] at h'
        cases h'
        exact ⟨rfl, hc⟩
      · rw [if_neg hc] at h'; cases h'
def sNewK (i : Nat) (t : TF) (t1 : TAD) (t2 : TSD) : TSD := fun F rho n => ∃ ns : List Int, i < rho.length ∧ t1 rho n fun es n1 => ∃ j : Int, es = [scriptD ns, .int j] ∧ n1 = n ∧ t es n fun d n2 => ∃ zs : List Int, d = .lst (zs.map D.int) ∧ zs.length = n ∧ (∀ x ∈ zs, 0 ≤ x) ∧ (∀ x, zs[1]? = some x → x < 2147483647) ∧
  t2 { nx := fun rho' n' => n' = n ∧ F.nx (keepRho rho') n, rt := fun d n' => n' = n ∧ scalD d = true ∧ F.rt d n, bk := fun rho' n' => n' = n ∧ F.bk (keepRho rho') n, ct := fun rho' n' => n' = n ∧ F.ct (keepRho rho') n } ((keepRho rho).set i (some .st)) n
theorem newK_intro {i : Nat} {t : TF} {t1 : TAD} {t2 : TSD} {F : EndsD} {rho : Rho} {n : Nat} (ns : List Int) (hi : i < rho.length) (j : Int) (ht : t1 rho n fun es n1 => es = [scriptD ns, .int j] ∧ n1 = n)
    (ht1 : ∀ (P P' : List D → Nat → Prop), (∀ es n1, P es n1 → P' es n1) → t1 rho n P → t1 rho n P')
    (h : t [scriptD ns, .int j] n fun d n2 => ∃ zs : List Int, d = .lst (zs.map D.int) ∧ zs.length = n ∧ (∀ x ∈ zs, 0 ≤ x) ∧ (∀ x, zs[1]? = some x → x < 2147483647) ∧
      t2 { nx := fun rho' n' => n' = n ∧ F.nx (keepRho rho') n, rt := fun d n' => n' = n ∧ scalD d = true ∧ F.rt d n, bk := fun rho' n' => n' = n ∧ F.bk (keepRho rho') n, ct := fun rho' n' => n' = n ∧ F.ct (keepRho rho') n } ((keepRho rho).set i (some .st)) n) : sNewK i t t1 t2 F rho n :=
  ⟨ns, hi, ht1 _ _ (fun es n1 ⟨e1, e2⟩ => ⟨j, e1, e2, by rw [e1]; exact h⟩) ht⟩
section
variable {A : AC} {X : Cx} {e : Expr} {es : List Expr} {t1 : TAD} {t2 : TSD} {pos p : Pos}
theorem pssd_newK {x g : Str} {i : Nat} {t : TF} {kk : Nat} {pos' spos : Pos} {rest : List Stmt} (hG : A.G = none) (hN : X.N.Nodup) (hi : X.N[i]? = some x) (hx : Loc X.env.scope x) (F : Fn X.prog X.w X.K X.mg X.base g kk 2 t) (hr : Room kk X.A) (hK : X.K = A.K)
    (ha : PAD A X (e :: es) t1) (h2 : ∀ (c : Addr) (Z : Addr → Prop) (H0 : Hp), PSsD ⟨A.K, some c, Z, H0⟩ X rest t2) (hg : Gl X g := by rfl) (hdb : (g == ("__debug__" : Str)) = false := by decide) (he : starEach (e :: es) X.env = (false, eval e X.env) :: starEach es X.env := by rfl) (hpl : (backTo pos (starEach es X.env)).any (·.1) = false := by rfl)
    (hs : swapsWith (.Call (.Name g p) (e :: es) [] pos) (some (.Name x pos')) spos.line X.env = pure false := by rfl) (hf : X.fn x = true ∨ X.env.scope.names.lookup x = some .local := by first | exact .inl rfl | exact .inr rfl | assumption) :
    PSsD A X (.Assign [.Name x pos'] (.Call (.Name g p) (e :: es) [] pos) spos :: rest) (sNewK i t t1 t2) := by
  with_unfolding_all
    exact (by
      obtain ⟨f, fd, ps, f1, f2, f3, f4⟩ := F.ex
      have c1 := ps_set (pos := spos) hN hi hx (pe_call (p := p) f1 hr hg f2 f3 f4 .nil pass0 ha hdb he hpl) hs hf
      have c2 : PSs X rest (fun E' sg' H' => ∃ c Z H0, sOf ⟨A.K, some c, Z, H0⟩ t2 E' sg' H') := fun pins s' sg' H' D I q => by
        obtain ⟨c, Z, H0, q⟩ := q
        exact h2 c Z H0 pins s' sg' H' D I q
      refine (pss_cons c1 c2).imp fun E sg H h => ?_
      obtain ⟨rho, n, F, ds, vs, I, ⟨ns, hi', ht⟩, ok⟩ := h
      refine ⟨rho, n, _, ds, vs, I, ht, fun ws H' n' es' ⟨os', J⟩ hl k => ?_⟩
      obtain ⟨j, rfl, rfl, k⟩ := k
      obtain ⟨J1, rs⟩ := J.split hl
      obtain ⟨v1, v2, rfl, r1, r2⟩ := reps2 rs
      have r1' : Rep A.K none (fun a => Hot (H' a) ∧ ¬ ∃ o u, H' a = some (.frz o u)) H' (scriptD ns) v1 := rep_script r1 fun a o u _ e => ⟨fun z => z.2 ⟨o, u, e⟩, e⟩
      have r2' : Rep A.K none (fun a => Hot (H' a) ∧ ¬ ∃ o u, H' a = some (.frz o u)) H' (.int j) v2 := by rw [r2.int_inv]; exact Rep.ofS (d := .int j) rfl
      rw [List.append_nil, hK]
      refine ⟨none, fun a => Hot (H' a) ∧ ¬ ∃ o u, H' a = some (.frz o u), n', _, _, rfl, .cons r1' (.cons r2' .nil), fun b e => (by cases e), fun b e => (by cases e), fun b z => z.1, k, fun v H2 n2 d fr st r q => ?_⟩
      obtain ⟨zs, rfl, q1, q2, q3, q⟩ := q
      obtain ⟨c, xs, rfl, sq, rr⟩ := r.lst_inv
      rw [reps_ints_inv rr] at sq
      have hc : H' c = none := by
        cases z : H' c with
        | none => rfl
        | some o =>
          have z2 := fr c o (by simp) z
          rw [sq.2] at z2
          cases z2
          exact absurd ⟨by rw [z]; exact Hot.lst, fun ⟨o, u, z3⟩ => by rw [z] at z3; cases z3⟩ sq.1
      have ne : ∀ {a : Addr} {o : HO}, H' a = some o → a ≠ c := fun {a o} e h => by rw [h, hc] at e; cases e
      have back : ∀ {os : List (Nat × Addr)} {rho' rho2 : Rho} {sg' : St} {H3 : Hp} {ds3 : List D} {vs3 : List V}, AmO ⟨A.K, some c, fun b => Zof A os' b ∨ b = c, H2⟩ os n' rho' sg' H3 ds3 vs3 → rho2.length = sg'.length → (∀ j d, rho2[j]? = some (some d) → ∃ v, sg'[j]? = some (some v) ∧ Rep A.K A.G (Zof A []) H3 d v) → AmO A [] n' rho2 sg' H3 ds vs := fun {os rho' rho2 sg' H3 ds3 vs3} I3 hl2 hs2 => by
        have keep : ∀ a o, H' a = some o → H3 a = some o := fun a o e => I3.fr a o (fun z => ne e (Option.some.inj z).symm) (fr a o (by simp) e)
        refine ⟨hl2, fun j d e => ?_, ?_, .nil, fun p hp => (by simp at hp), fun b e => (by rw [hG] at e; cases e), J1.gz, fun a o z e => keep a o (J1.fr a o z e), J1.z0⟩
        · obtain ⟨v, e1, e2⟩ := hs2 j d e
          exact ⟨v, e1, SlotR.of e2⟩
        · refine Reps.mono (fun a _ z => ?_) (fun a o _ e => keep a o e) _ _ J1.pend
          rcases z with z | ⟨p, hp, _⟩
          · exact .inl z
          · simp at hp
      have scr : ∀ {os : List (Nat × Addr)} {rho' : Rho} {sg' : St} {H3 : Hp} {ds3 : List D} {vs3 : List V}, AmO ⟨A.K, some c, fun b => Zof A os' b ∨ b = c, H2⟩ os n' rho' sg' H3 ds3 vs3 → AmO A [] n' (keepRho rho') sg' H3 ds vs := fun {os rho' sg' H3 ds3 vs3} I3 => by
        refine back I3 (by unfold keepRho; rw [List.length_map]; exact I3.len) fun j d e => ?_
        obtain ⟨e, hn⟩ := keepRho_at e
        obtain ⟨v, e1, e2⟩ := I3.slot j d e
        have e3 := SlotR.rep (noSt_own hn) e2
        refine ⟨v, e1, Rep.reG d v hn (Rep.mono (fun a _ z => ?_) (fun a o _ e => e) d v e3)⟩
        rcases z with z | ⟨p, hp, _⟩
        · exact .inl (.inl (.inl z))
        · simp at hp
      have hl0 : rho.length = sg.length := J1.len
      refine ⟨c, fun b => Zof A os' b ∨ b = c, H2, (keepRho rho).set i (some .st), n', _, [], [], ⟨[], ?_⟩, q, ?_⟩
      · refine ⟨by simp [keepRho, hl0], fun j d e => ?_, .nil, .nil, fun p hp => by simp at hp, fun b e => ?_, fun b e => ?_, fun b o _ e => e, fun b e => ?_⟩
        · by_cases hj : j = i
          · subst hj
            rw [List.getElem?_set_self (by simp [keepRho]; lia)] at e
            cases e
            exact ⟨.ref c, List.getElem?_set_self (by lia), SlotR.of (by unfold Rep; exact ⟨c, rfl, rfl⟩)⟩
          · rw [List.getElem?_set_ne (Ne.symm hj)] at e
            obtain ⟨e, hn⟩ := keepRho_at e
            obtain ⟨v, e1, e2⟩ := J1.slot j d e
            have e3 := SlotR.rep (noSt_own hn) e2
            refine ⟨v, by rw [List.getElem?_set_ne (Ne.symm hj)]; exact e1, SlotR.of (Rep.reG d v hn (Rep.mono (fun a ha z => ?_) (fun a o _ e => fr a _ (by simp) e) d v e3))⟩
            rcases z with (z | z) | ⟨p, hp, _⟩
            · exact z
            · exact absurd (z ▸ hc) ha
            · simp at hp
        · cases e
          exact ⟨zs, 0, 0, sq.2, q1, q2, q3⟩
        · exact .inr (Option.some.inj e).symm
        · rcases e with e | e
          · exact (J1.zHot b e).of fun o z => fr b o (by simp) z
          · show Hot (H2 b)
            rw [e, sq.2]; exact Hot.lst
      · refine ⟨fun rho3 n3 sg3 H3 ⟨os3, I3⟩ q => ?_, fun d n3 v rho3 sg3 H3 ⟨os3, I3⟩ q => ?_, fun rho3 n3 sg3 H3 ⟨os3, I3⟩ q => ?_, fun rho3 n3 sg3 H3 ⟨os3, I3⟩ q => ?_⟩
        · obtain ⟨rfl, q⟩ := q
          exact ok.nx _ _ _ _ ⟨[], scr I3⟩ q
        · obtain ⟨rfl, hd, q⟩ := q
          have I4 : AmO A [] n3 (List.replicate sg3.length none) sg3 H3 ds vs := back I3 (by simp) fun j d e => by
            rw [List.getElem?_replicate] at e
            split at e <;> cases e
          refine ok.rt _ _ _ _ _ _ ⟨[], I4.push ?_⟩ q
          rw [I3.pop.2.toS hd]
          exact Rep.ofS hd
        · obtain ⟨rfl, q⟩ := q
          exact ok.bk _ _ _ _ ⟨[], scr I3⟩ q
        · obtain ⟨rfl, q⟩ := q
          exact ok.ct _ _ _ _ ⟨[], scr I3⟩ q)
end
end L2
set_option maxRecDepth 100000
namespace L2
open PySem PySem.Spec PyProof.Rows
def hasK (ks : List Key) (k : Key) : Bool := ks.any fun j => decide (j = k)
def putKs (ks : List Key) (k : Key) : List Key := if hasK ks k = true then ks else ks ++ [k]
def putG {α : Type} (ks : List Key) (xs : List α) (k : Key) (x : α) : List α := if hasK ks k = true then List.zipWith (fun j y => if j = k then x else y) ks xs else xs ++ [x]
section
variable {K : PySem.W.Frag} {G : Option Addr} {Z : Addr → Prop} {H : Hp}
end
def keyOf : D → Option Key
  | .int i => some (Sum.inl i)
  | .str x => some (Sum.inr x)
  | _ => none
@[simp] theorem keyOf_int {i : Int} : keyOf (.int i) = some (Sum.inl i) := rfl
@[simp] theorem keyOf_str {i : Str} : keyOf (.str i) = some (Sum.inr i) := rfl
section
variable {A : AC} {X : Cx} {tg iter kx vx : Expr} {ifs : List Expr} {scope : Scope} {own M : List Str} {pos : Pos} {it : TID} {g : TGD} {tt : TBD} {tk tv : TD}
def dcompIn (own : Nat) (g : TGD) (tt : TBD) (tk tv : TD) (rho : Rho) (P : D → Nat → Prop) (items : List D) (n1 : Nat) : Prop := items.length ≤ sizeLine ∧ ∃ J : Nat → List Key → List D → Nat → Prop, J 0 [] [] n1 ∧
  (∀ i d ks es n, items[i]? = some d → J i ks es n → g d (List.replicate own none ++ rho) fun rho' => rho'.drop own = rho ∧ tt rho' n fun c n2 => if c = true then tk rho' n2 fun dk n3 => tv rho' n3 fun dv n4 => ∃ k, keyOf dk = some k ∧ J (i + 1) (putKs ks k) (putG ks es k dv) n4 else J (i + 1) ks es n2) ∧
  ∀ ks es n, J items.length ks es n → P (.dct ks es) n
def dDComp (it : TID) (own : Nat) (g : TGD) (tt : TBD) (tk tv : TD) : TD := fun rho n P => it rho n (dcompIn own g tt tk tv rho P)
@[simp] theorem q_dDComp {it own g tt tk tv rho n P} : dDComp it own g tt tk tv rho n P = it rho n (dcompIn own g tt tk tv rho P) := rfl
end
def atK : List Key → List D → Key → Option D
  | k :: ks, d :: ds, x => if k = x then some d else atK ks ds x
  | _, _, _ => none
section
variable {A : AC} {X : Cx} {a b : Expr} {ta tb : TD} {pos : Pos}
def rdDx : RD2 := fun d1 d2 k => ∃ ks ds x d, d1 = .dct ks ds ∧ keyOf d2 = some x ∧ atK ks ds x = some d ∧ k d
@[simp] theorem q_rdDxI {ks ds x k} : rdDx (.dct ks ds) (.int x) k ↔ ∃ d, atK ks ds (Sum.inl x) = some d ∧ k d := ⟨fun ⟨_, _, _, d, e, e', h⟩ => by cases e; cases e'; exact ⟨d, h⟩, fun ⟨d, h⟩ => ⟨_, _, _, d, rfl, rfl, h⟩⟩
def rdDin (neg : Bool) : RD2 := fun d1 d2 k => ∃ ks ds x, d2 = .dct ks ds ∧ keyOf d1 = some x ∧ k (.bl ((atK ks ds x).isSome != neg))
@[simp] theorem q_rdDinI {neg ks ds x k} : rdDin neg (.int x) (.dct ks ds) k ↔ k (.bl ((atK ks ds (Sum.inl x)).isSome != neg)) := ⟨fun ⟨_, _, _, e, e', h⟩ => by cases e; cases e'; exact h, fun h => ⟨_, _, _, rfl, rfl, h⟩⟩
def sPop (i : Nat) (g : TGD) : TSD := fun F rho n => ∃ es d, rho[i]? = some (some (.own (es ++ [d]))) ∧ g d (rho.set i (some (.own es))) fun rho' => F.nx rho' n
@[simp] theorem q_sPop {i g F rho n} : sPop i g F rho n = ∃ es d, rho[i]? = some (some (.own (es ++ [d]))) ∧ g d (rho.set i (some (.own es))) fun rho' => F.nx rho' n := rfl
def sCont : TSD := fun F rho n => F.ct rho n
@[simp] theorem q_sCont {F rho n} : sCont F rho n = F.ct rho n := rfl
def sOwnIf (i : Nat) (tc : TBD) (t u : TAD) : TSD := fun F rho n => i < rho.length ∧ tc rho n fun c n0 => if c = true then t rho n0 (fun es n1 => es.length ≤ sizeLine ∧ F.nx (rho.set i (some (.own es))) n1) else u rho n0 fun es n1 => es.length ≤ sizeLine ∧ F.nx (rho.set i (some (.own es))) n1
@[simp] theorem q_sOwnIf {i tc t u F rho n} : sOwnIf i tc t u F rho n = (i < rho.length ∧ tc rho n fun c n0 => if c = true then t rho n0 (fun es n1 => es.length ≤ sizeLine ∧ F.nx (rho.set i (some (.own es))) n1) else u rho n0 fun es n1 => es.length ≤ sizeLine ∧ F.nx (rho.set i (some (.own es))) n1) := rfl
end
end L2
set_option maxRecDepth 100000
namespace L2
open PySem PySem.Spec PyProof.Rows
section
variable {X : Cx} {A : AC}
def isTL : D → Bool
  | .tup _ => true
  | .lst _ => true
  | _ => false
def kIsi2 : List D → (D → Prop) → Prop := fun es k => ∃ d, es = [d, .tup [.ty "tuple", .ty "list"]] ∧ isiOk d = true ∧ k (.bl (isTL d))
@[simp] theorem q_kIsi2 {d k} : kIsi2 [d, .tup [.ty "tuple", .ty "list"]] k ↔ (isiOk d = true ∧ k (.bl (isTL d))) := ⟨fun ⟨_, e, h⟩ => by cases e; exact h, fun h => ⟨_, rfl, h⟩⟩
end
end L2
set_option maxRecDepth 100000
namespace L2
open PySem PySem.Spec PyProof.Rows
section
variable {A : AC} {X : Cx} {a b c : Expr} {ta tb tc : TD} {pos : Pos}
end
end L2
set_option maxRecDepth 100000
namespace L2
open PySem PySem.Spec PyProof.Rows
def noOwns (rho : Rho) : Bool := rho.all fun o => match o with
  | some d => notOwn d
  | none => true
def sParO (i j : Nat) (tb : TD) : TSD := fun F rho n => i < rho.length ∧ j < rho.length ∧ noOwns rho = true ∧ tb rho n fun d n1 => F.nx ((rho.set i (some (.own []))).set j (some d)) n1
@[simp] theorem q_sParO {i j tb F rho n} : sParO i j tb F rho n = (i < rho.length ∧ j < rho.length ∧ noOwns rho = true ∧ tb rho n fun d n1 => F.nx ((rho.set i (some (.own []))).set j (some d)) n1) := rfl
section
variable {A : AC} {X : Cx} {b : Expr} {tb : TD} {pos : Pos}
end
end L2
set_option maxRecDepth 100000
namespace L2
open PySem PySem.Spec PyProof.Rows PySem.SeqAt
section
variable {A : AC} {X : Cx} {a b c e : Expr} {ta tb tc te : TD} {pos : Pos}
def rdTeq : RD2 := fun d1 d2 k => tupAt d1 fun es => d2 = .tup [] ∧ k (.bl es.isEmpty)
@[simp] theorem q_rdTeq {d1 d2 k} : rdTeq d1 d2 k = tupAt d1 fun es => d2 = .tup [] ∧ k (.bl es.isEmpty) := rfl
def rdRepL : RD2 := fun d1 d2 k => ∃ es i, d1 = .lst es ∧ d2 = .int i ∧ 0 ≤ i ∧ i < 1000 ∧ es.length * i.toNat ≤ sizeLine ∧ k (.lst (List.replicate i.toNat es).flatten)
@[simp] theorem q_rdRepL {es i k} : rdRepL (.lst es) (.int i) k ↔ (0 ≤ i ∧ i < 1000 ∧ es.length * i.toNat ≤ sizeLine ∧ k (.lst (List.replicate i.toNat es).flatten)) := ⟨fun ⟨_, _, e, e', h⟩ => by cases e; cases e'; exact h, fun h => ⟨_, _, rfl, rfl, h⟩⟩
def seqL (es : List D) (k : List D → Prop) : Prop := ∃ fs, (es = [.lst fs] ∨ es = [.tup fs]) ∧ k fs
@[simp] theorem q_seqL1 {fs : List D} {k} : seqL [.lst fs] k ↔ k fs := ⟨fun ⟨_, e, h⟩ => by rcases e with e | e <;> cases e; exact h, fun h => ⟨_, .inl rfl, h⟩⟩
@[simp] theorem q_seqL2 {fs : List D} {k} : seqL [.tup fs] k ↔ k fs := ⟨fun ⟨_, e, h⟩ => by rcases e with e | e <;> cases e; exact h, fun h => ⟨_, .inr rfl, h⟩⟩
def sListO (i : Nat) (t : TAD) : TSD := fun F rho n => i < rho.length ∧ t rho n fun es n1 => seqL es fun fs => F.nx (rho.set i (some (.own fs))) n1
@[simp] theorem q_sListO {i t F rho n} : sListO i t F rho n = (i < rho.length ∧ t rho n fun es n1 => seqL es fun fs => F.nx (rho.set i (some (.own fs))) n1) := rfl
end
end L2
set_option maxRecDepth 100000
namespace L2
open PySem PySem.Spec PyProof.Rows PySem.SeqAt
mutual
def toPyA : D → PyData
  | .bl b => .bool b
  | .int i => .int i
  | .str x => .str x
  | .tup ds => .tuple (toPyAs ds)
  | .lst ds => .list (toPyAs ds)
  | _ => .none
def toPyAs : List D → List PyData
  | [] => []
  | d :: ds => toPyA d :: toPyAs ds
end
mutual
def okR : D → Nat → Bool
  | .non, _ => true
  | .bl _, _ => true
  | .int i, _ => decide (i.natAbs.log2 < 1920)
  | .str x, _ => decide ((reprText x).length ≤ 2000)
  | .tup ds, k => match k with
    | 0 => false
    | k + 1 => okRs ds k
  | .lst ds, k => match k with
    | 0 => false
    | k + 1 => okRs ds k
  | _, _ => false
def okRs : List D → Nat → Bool
  | [], _ => true
  | d :: ds, k => okR d k && okRs ds k
end
mutual
def nodR : D → Nat
  | .tup ds => nodRs ds + 1
  | .lst ds => nodRs ds + 1
  | _ => 1
def nodRs : List D → Nat
  | [] => 0
  | d :: ds => nodR d + nodRs ds
end
def showA (d : D) : Str := (toPyA d).shown
section
variable {X : Cx} {pins : List (Addr × Obj)} {σ : St} {H : Hp} {s : Shared} {G : Option Addr} {Z : Addr → Prop}
end
def kRepr : List D → (D → Prop) → Prop := fun es k => ∃ d, es = [d] ∧ isTL d = true ∧ okR d 15 = true ∧ nodR d ≤ 8000 ∧ k (.str (showA d))
@[simp] theorem q_kRepr {d k} : kRepr [d] k ↔ (isTL d = true ∧ okR d 15 = true ∧ nodR d ≤ 8000 ∧ k (.str (showA d))) := ⟨fun ⟨_, e, h⟩ => by cases e; exact h, fun h => ⟨_, rfl, h⟩⟩
end L2
set_option maxRecDepth 100000
namespace L2
open PySem PySem.Spec PyProof.Rows
def setAt (es : List D) (e d : D) (k : List D → Prop) : Prop := ∃ j m, e = .int j ∧ ixN es.length j = some m ∧ k (es.set m d)
def sOwnSet2 (i : Nat) (ta : TAD) (tb1 tb2 : TD) : TSD := fun F rho n => ownAt rho[i]? fun es => ta rho n fun cs n1 => pair2 cs fun d1 d2 => tb1 rho n1 fun e1 n2 => setAt es e1 d1 fun es1 =>
  tb2 (rho.set i (some (.own es1))) n2 fun e2 n3 => setAt es1 e2 d2 fun es2 => F.nx (rho.set i (some (.own es2))) n3
@[simp] theorem q_sOwnSet2 {i ta tb1 tb2 F rho n} : sOwnSet2 i ta tb1 tb2 F rho n = ownAt rho[i]? fun es => ta rho n fun cs n1 => pair2 cs fun d1 d2 => tb1 rho n1 fun e1 n2 => setAt es e1 d1 fun es1 =>
  tb2 (rho.set i (some (.own es1))) n2 fun e2 n3 => setAt es1 e2 d2 fun es2 => F.nx (rho.set i (some (.own es2))) n3 := rfl
section
variable {A : AC} {X : Cx} {a1 a2 b1 b2 : Expr} {ta : TAD} {tb1 tb2 : TD} {pos : Pos}
end
end L2
set_option maxRecDepth 100000
namespace PySem
open Sem (wp)
namespace F
end F
section
variable {prog : Program} {w : World} {K : Type} [DecidableEq K] {knd : KeyKind prog w K} {A : Around} {R : Result → Shared → Prop}
end
end PySem
set_option maxRecDepth 100000
namespace PySem
open Sem (wp)
section
variable {prog : Program} {w : World} {K : Type} [DecidableEq K] {knd : KeyKind prog w K} {A : Around} {E : Value → Shared → Prop} {s : Shared}
end
end PySem
set_option maxRecDepth 100000
namespace L2
open PySem PySem.Spec PyProof.Rows
section
variable {X : Cx} {A : AC}
end
end L2
set_option maxRecDepth 100000
namespace L2
open PySem PySem.Spec PyProof.Rows PySem.SeqAt
section
variable {A : AC} {X : Cx}
def tupsAt (d : D) (k : List (List D) → Prop) : Prop := ∃ ess : List (List D), d = .tup (ess.map D.tup) ∧ k ess
def rdInE : RD2 := fun d1 d2 k => d1 = .tup [] ∧ tupsAt d2 fun ess => k (.bl (ess.any List.isEmpty))
@[simp] theorem q_rdInE2 {a b k} : rdInE (.tup []) (.tup [.tup a, .tup b]) k ↔ k (.bl (a.isEmpty || b.isEmpty)) := by
  constructor
  · rintro ⟨_, ess, e, h⟩
    have : ess = [a, b] := by
      have e' := D.tup.inj e
      match ess, e' with
      | [x, y], e' => simp at e'; rw [e'.1, e'.2]
      | [], e' => simp at e'
      | [x], e' => simp at e'
      | x :: y :: z :: r, e' => simp at e'
    subst this
    simpa using h
  · intro h
    exact ⟨rfl, [a, b], rfl, by simpa using h⟩
end
end L2
set_option maxRecDepth 100000
namespace L2
open PySem PySem.Spec PyProof.Rows PySem.SeqAt
mutual
def okN : D → Nat → Bool
  | .non, _ => true
  | .int i, _ => decide (i.natAbs.log2 < 20)
  | .tup ds, k => match k with
    | 0 => false
    | k + 1 => okNs ds k
  | _, _ => false
def okNs : List D → Nat → Bool
  | [], _ => true
  | d :: ds, k => okN d k && okNs ds k
end
def kStrN : List D → (D → Prop) → Prop := fun es k => ∃ ds, es = [.tup ds] ∧ okN (.tup ds) 20 = true ∧ nodR (.tup ds) ≤ 400000 ∧ k (.str (showA (.tup ds)))
@[simp] theorem q_kStrN {ds k} : kStrN [.tup ds] k ↔ (okN (.tup ds) 20 = true ∧ nodR (.tup ds) ≤ 400000 ∧ k (.str (showA (.tup ds)))) := ⟨fun ⟨_, e, h⟩ => by cases e; exact h, fun h => ⟨_, rfl, h⟩⟩
end L2
set_option maxRecDepth 100000
namespace L2
open PySem PySem.Spec PyProof.Rows
section
variable {A : AC}
def kBool : List D → (D → Prop) → Prop := fun es k => ∃ i : Int, es = [.int i] ∧ k (.bl (i != 0))
@[simp] theorem q_kBool {i : Int} {k} : kBool [.int i] k ↔ k (.bl (i != 0)) := ⟨fun ⟨_, e, h⟩ => by cases e; exact h, fun h => ⟨_, rfl, h⟩⟩
end
end L2
set_option maxRecDepth 100000
namespace L2
open PySem PySem.Spec PyProof.Rows
section
variable {A : AC} {X : Cx} {pos : Pos} {m : Nat}
def gdLst (k : Nat) (gs : TGsD) : TGD := fun d rho P => ∃ es, d = .lst es ∧ es.length = k ∧ gs es rho P
@[simp] theorem q_gdLst {k gs es rho P} : gdLst k gs (.lst es) rho P ↔ (es.length = k ∧ gs es rho P) := ⟨fun ⟨_, e, h⟩ => by cases e; exact h, fun h => ⟨_, rfl, h⟩⟩
end
end L2
set_option maxRecDepth 100000
namespace L2
open PySem PySem.Spec PyProof.Rows
section
variable {A : AC} {X : Cx}
def showN : D → Str
  | .non => "None"
  | d => showA d
def okRN (d : D) : Prop := d = .non ∨ (isTL d = true ∧ okR d 20 = true ∧ nodR d ≤ 8000)
def kReprN : List D → (D → Prop) → Prop := fun es k => ∃ d, es = [d] ∧ okRN d ∧ k (.str (showN d))
@[simp] theorem q_kReprN {d k} : kReprN [d] k ↔ (okRN d ∧ k (.str (showN d))) := ⟨fun ⟨_, e, h⟩ => by cases e; exact h, fun h => ⟨_, rfl, h⟩⟩
end
theorem lo {sc : Scope} {x : Str} (h : (match sc.names.lookup x with | some .local => true | some .cell => true | _ => false) = true) : Loc sc x := by
  unfold Loc
  split at h
  · exact .inl (by assumption)
  · exact .inr (by assumption)
  · cases h
end L2
set_option maxRecDepth 100000
namespace L2
open PySem PySem.Spec PyProof.Rows PySem.SeqAt
section
variable {A : AC} {X : Cx}
def rdNoneIn : RD2 := fun d1 d2 k => d1 = .non ∧ ∃ ess : List (List D), d2 = .lst (ess.map D.lst) ∧ k (.bl false)
@[simp] theorem q_noneIn {a b k} : rdNoneIn .non (.lst [.lst a, .lst b]) k ↔ k (.bl false) := ⟨fun ⟨_, _, _, h⟩ => h, fun h => ⟨rfl, [a, b], rfl, h⟩⟩
def kLenD : List D → (D → Prop) → Prop := fun es k => ∃ ks ds, es = [.dct ks ds] ∧ ks.length = ds.length ∧ k (.int (ks.length : Int))
@[simp] theorem q_kLenD {ks ds k} : kLenD [.dct ks ds] k ↔ (ks.length = ds.length ∧ k (.int (ks.length : Int))) := ⟨fun ⟨_, _, e, h⟩ => by cases e; exact h, fun h => ⟨_, _, rfl, h⟩⟩
end
end L2
set_option maxRecDepth 100000
namespace L2
open PySem PySem.Spec PyProof.Rows PySem.SeqAt
section
variable {A : AC} {X : Cx}
def dBits (te : TD) : TD := fun rho n P => te rho n fun d n1 => ∃ x : Int, d = .int x ∧ P (.int ((Builtin.Int.intBits x : Nat) : Int)) n1
@[simp] theorem q_dBits {te : TD} {rho : Rho} {n : Nat} {P : D → Nat → Prop} : dBits te rho n P = te rho n fun d n1 => ∃ x : Int, d = .int x ∧ P (.int ((Builtin.Int.intBits x : Nat) : Int)) n1 := rfl
end
end L2
set_option maxRecDepth 100000
namespace L2
open PySem PySem.Spec PyProof.Rows PySem.SeqAt
section
variable {A : AC} {X : Cx}
def kListR : List D → (D → Prop) → Prop := fun es k => ∃ j : Int, es = [.int j] ∧ 0 ≤ j ∧ j ≤ 1000 ∧ k (.lst ((List.range j.toNat).map fun i : Nat => D.int (i : Int)))
@[simp] theorem q_kListR {j : Int} {k : D → Prop} : kListR [.int j] k ↔ (0 ≤ j ∧ j ≤ 1000 ∧ k (.lst ((List.range j.toNat).map fun i : Nat => D.int (i : Int)))) := ⟨fun ⟨_, e, h⟩ => by cases e; exact h, fun h => ⟨_, rfl, h⟩⟩
end
end L2
set_option maxRecDepth 100000
namespace L2
open PySem
namespace Stb
abbrev Up (l : List Nat) : Prop := l.Pairwise (· < ·)
theorem up_get {l : List Nat} (h : Up l) {i k : Nat} (hik : i < k) (hk : k < l.length) : l.getD i 0 < l.getD k 0 := by
  have := List.pairwise_iff_getElem.mp h i k (by lia) hk hik
  simpa [List.getD_eq_getElem?_getD, List.getElem?_eq_getElem, hk, show i < l.length by lia] using this
theorem below_go {xs : Array Nat} {j : Nat} (h : Up xs.toList) : ∀ (fuel lo hi : Nat), hi - lo ≤ fuel → lo ≤ hi → hi ≤ xs.size → (∀ i, i < lo → xs.getD i 0 < j) → (∀ i, hi ≤ i → i < xs.size → j ≤ xs.getD i 0) →
    SetTable.below.go xs j fuel lo hi ≤ xs.size ∧ (∀ i, i < SetTable.below.go xs j fuel lo hi → xs.getD i 0 < j) ∧ ∀ i, SetTable.below.go xs j fuel lo hi ≤ i → i < xs.size → j ≤ xs.getD i 0 := by
  have mono : ∀ i k, i < k → k < xs.size → xs.getD i 0 < xs.getD k 0 := fun i k a b => by
    have := up_get h a (by simpa using b)
    simpa [Array.getD_eq_getD_getElem?, List.getD_eq_getElem?_getD] using this
  intro fuel
  induction fuel with
  | zero => intro lo hi h1 h2 h3 h4 h5; unfold SetTable.below.go; exact ⟨by lia, h4, fun i a b => h5 i (by lia) b⟩
  | succ fuel ih =>
    intro lo hi h1 h2 h3 h4 h5
    unfold SetTable.below.go
    by_cases c : lo < hi
    · rw [if_pos c]
      dsimp only
      have gd : xs.getD ((lo + hi) / 2) j = xs.getD ((lo + hi) / 2) 0 := by
        have q : (lo + hi) / 2 < xs.size := by lia
        simp [Array.getD_eq_getD_getElem?, q]
      rw [gd]
      by_cases d : xs.getD ((lo + hi) / 2) 0 < j
      · rw [if_pos d]
        refine ih _ _ (by lia) (by lia) h3 (fun i a => ?_) h5
        by_cases e : i = (lo + hi) / 2
        · rw [e]; exact d
        · exact Nat.lt_trans (mono i _ (by lia) (by lia)) d
      · rw [if_neg d]
        refine ih _ _ (by lia) (by lia) (by lia) h4 (fun i a b => ?_)
        by_cases e : i = (lo + hi) / 2
        · rw [e]; lia
        · have := mono ((lo + hi) / 2) i (by lia) b
          lia
    · rw [if_neg c]
      exact ⟨by lia, h4, fun i a b => h5 i (by lia) b⟩
theorem below_spec {xs : Array Nat} {j : Nat} (h : Up xs.toList) : SetTable.below xs j ≤ xs.size ∧ (∀ i, i < SetTable.below xs j → xs.getD i 0 < j) ∧ ∀ i, SetTable.below xs j ≤ i → i < xs.size → j ≤ xs.getD i 0 :=
  below_go h _ _ _ (by lia) (by lia) (by lia) (fun i a => by lia) (fun i a b => by lia)
theorem below_eq {xs : Array Nat} {j p : Nat} (h : Up xs.toList) (hp : p ≤ xs.size) (h1 : ∀ i, i < p → xs.getD i 0 < j) (h2 : ∀ i, p ≤ i → i < xs.size → j ≤ xs.getD i 0) : SetTable.below xs j = p := by
  obtain ⟨a, b, c⟩ := below_spec (j := j) h
  rcases Nat.lt_trichotomy (SetTable.below xs j) p with q | q | q
  · have := h1 _ q
    have := c _ (Nat.le_refl _) (by lia)
    lia
  · exact q
  · have := b _ q
    have := h2 _ (Nat.le_refl _) (by lia)
    lia
theorem empty_not {t : SetTable} {j : Nat} (h : Up t.place.toList) (e : t.slot j = .empty) : j ∉ t.place.toList := fun hm => by
  obtain ⟨i, hi, q⟩ := List.getElem_of_mem hm
  have hi' : i < t.place.size := by simpa using hi
  have gi : t.place.getD i 0 = j := by simpa [Array.getD_eq_getD_getElem?, hi'] using q
  have mono : ∀ i k, i < k → k < t.place.size → t.place.getD i 0 < t.place.getD k 0 := fun i k a b => by
    have := up_get h a (by simpa using b)
    simpa [Array.getD_eq_getD_getElem?, List.getD_eq_getElem?_getD] using this
  have be : SetTable.below t.place j = i := below_eq h (by lia) (fun k a => by rw [← gi]; exact mono _ _ a hi') fun k a b => by
    by_cases c : k = i
    · rw [c, gi]; exact Nat.le_refl _
    · have := mono i k (by lia) b
      lia
  unfold SetTable.slot at e
  rw [be] at e
  have : t.place[i]? = some j := by rw [Array.getElem?_eq_getElem hi']; simpa [Array.getD_eq_getD_getElem?, hi'] using gi
  simp [this] at e
theorem insert_list {α : Type} {xs : Array α} {p : Nat} {x : α} : (SetTable.insertAt xs p x).toList = xs.toList.take p ++ x :: xs.toList.drop p := by
  unfold SetTable.insertAt
  simp
  exact List.take_of_length_le (by simp)
theorem insert_up {xs : Array Nat} {j : Nat} (h : Up xs.toList) (hj : j ∉ xs.toList) : Up (SetTable.insertAt xs (SetTable.below xs j) j).toList := by
  obtain ⟨a, b, c⟩ := below_spec (j := j) h
  rw [insert_list]
  generalize SetTable.below xs j = p at *
  have hl : ∀ y ∈ xs.toList.take p, y < j := fun y hy => by
    obtain ⟨i, hi, q⟩ := List.getElem_of_mem hy
    have hi2 : i < p ∧ i < xs.size := by simp at hi; lia
    have := b i hi2.1
    simp [Array.getD_eq_getD_getElem?, hi2.2] at this
    simp at q
    lia
  have hr : ∀ y ∈ xs.toList.drop p, j < y := fun y hy => by
    obtain ⟨i, hi, q⟩ := List.getElem_of_mem hy
    have hi2 : p + i < xs.size := by simp at hi; lia
    have := c (p + i) (by lia) hi2
    simp [Array.getD_eq_getD_getElem?, hi2] at this
    simp at q
    have ne : y ≠ j := fun z => hj (by rw [← z]; exact List.mem_of_mem_drop hy)
    lia
  have s : xs.toList = xs.toList.take p ++ xs.toList.drop p := (List.take_append_drop p _).symm
  rw [s] at h
  obtain ⟨h1, h2, h3⟩ := List.pairwise_append.mp h
  refine List.pairwise_append.mpr ⟨h1, List.pairwise_cons.mpr ⟨hr, h2⟩, fun x hx y hy => ?_⟩
  rcases List.mem_cons.mp hy with rfl | hy
  · exact hl x hx
  · exact h3 x hx y hy
def leapN (m : Nat) : Nat → Nat → Nat → Nat × Nat
  | 0, i, p => (i, p)
  | n + 1, i, p => leapN m n (SetTable.leap m i p).1 (SetTable.leap m i p).2
theorem leapN_p (m : Nat) : ∀ (n i p : Nat), (leapN m n i p).2 = p / 32 ^ n
  | 0, i, p => by simp [leapN]
  | n + 1, i, p => by
    rw [leapN, leapN_p m n, SetTable.leap]
    dsimp only
    rw [Nat.div_div_eq_div_mul, Nat.pow_succ, Nat.mul_comm]
theorem leapN_add (m : Nat) : ∀ (a b i p : Nat), leapN m (a + b) i p = leapN m b (leapN m a i p).1 (leapN m a i p).2
  | 0, b, i, p => by simp [leapN]
  | a + 1, b, i, p => by rw [show a + 1 + b = (a + b) + 1 by lia, leapN, leapN_add m a b]; rfl
theorem leapN_lt (m : Nat) : ∀ (n i p : Nat), i ≤ m → (leapN m n i p).1 ≤ m
  | 0, i, p, h => h
  | n + 1, i, p, h => by
    rw [leapN]
    refine leapN_lt m n _ _ ?_
    show (i * 5 + 1 + p / 32) % (m + 1) ≤ m
    exact Nat.lt_succ_iff.mp (Nat.mod_lt _ (Nat.succ_pos m))
theorem cover7 : ∀ i : Fin 8, ∀ e : Fin 8, ∃ r : Fin 8, (leapN 7 r i 0).1 = e := by decide +kernel
theorem cover31 : ∀ i : Fin 32, ∀ e : Fin 32, ∃ r : Fin 32, (leapN 31 r i 0).1 = e := by decide +kernel
def Ms (m : Nat) : Prop := m = 7 ∨ m = 31
theorem covers {m : Nat} (hm : Ms m) {i p e : Nat} (hi : i ≤ m) (hp : p < 2 ^ 64) (he : e ≤ m) : ∃ k, k < SetTable.turns m ∧ (leapN m k i p).1 = e := by
  have z : (leapN m 13 i p).2 = 0 := by
    rw [leapN_p]
    exact Nat.div_eq_of_lt (Nat.lt_of_lt_of_le hp (by decide))
  have l := leapN_lt m 13 i p hi
  have go : ∃ r, r ≤ m ∧ (leapN m r (leapN m 13 i p).1 0).1 = e := by
    rcases hm with rfl | rfl
    · obtain ⟨r, h⟩ := cover7 ⟨(leapN 7 13 i p).1, by lia⟩ ⟨e, by lia⟩
      exact ⟨r, by lia, h⟩
    · obtain ⟨r, h⟩ := cover31 ⟨(leapN 31 13 i p).1, by lia⟩ ⟨e, by lia⟩
      exact ⟨r, by lia, h⟩
  obtain ⟨r, h1, h2⟩ := go
  refine ⟨13 + r, by unfold SetTable.turns; lia, ?_⟩
  rw [leapN_add, z]
  exact h2
theorem run_le {m i : Nat} (h : i ≤ m) : i ≤ SetTable.runEnd m i ∧ SetTable.runEnd m i ≤ m ∧ SetTable.runEnd m i ≤ i + 9 := by
  unfold SetTable.runEnd
  split <;> lia
theorem no_dummy {t : SetTable} (hd : t.dummies = #[]) (j : Nat) : t.slot j ≠ .dummy := fun e => by
  have nh : SetTable.has #[] j = false := by simp [SetTable.has]
  unfold SetTable.slot at e
  rw [hd, nh] at e
  dsimp only at e
  split at e
  · cases e
  · simp at e
theorem probe_run {t : SetTable} {f : Nat → Int} {h : Int} (hf : ∀ n, f n ≠ h) (hd : t.dummies = #[]) (i p : Nat) : ∀ (m j fuel : Nat), m + 1 ≤ fuel → j + m ≤ t.mask →
    (∃ x, x ≤ t.mask ∧ t.slot x = .empty ∧ SetTable.probe.go t f h fuel ⟨j, m, i, p, none⟩ = some (.empty x none)) ∨
    ((∀ x, j ≤ x → x ≤ j + m → t.slot x ≠ .empty) ∧ SetTable.probe.go t f h fuel ⟨j, m, i, p, none⟩ = SetTable.probe.go t f h (fuel - (m + 1)) ⟨(SetTable.leap t.mask i p).1, SetTable.runEnd t.mask (SetTable.leap t.mask i p).1 - (SetTable.leap t.mask i p).1, (SetTable.leap t.mask i p).1, (SetTable.leap t.mask i p).2, none⟩) := by
  intro m
  induction m with
  | zero =>
    intro j fuel hfu hj
    obtain ⟨fuel, rfl⟩ : ∃ c, fuel = c + 1 := ⟨fuel - 1, by lia⟩
    rw [SetTable.probe.go]
    cases e : t.slot j with
    | empty => exact .inl ⟨j, by lia, e, rfl⟩
    | dummy =>
      exact absurd e (no_dummy hd j)
    | live k =>
      refine .inr ⟨fun x a b => by rw [show x = j by lia, e]; simp, ?_⟩
      have : (f k == h) = false := by simpa using hf k
      simp [this, SetTable.advance]
  | succ m ih =>
    intro j fuel hfu hj
    obtain ⟨fuel, rfl⟩ : ∃ c, fuel = c + 1 := ⟨fuel - 1, by lia⟩
    rw [SetTable.probe.go]
    cases e : t.slot j with
    | empty => exact .inl ⟨j, by lia, e, rfl⟩
    | dummy =>
      exact absurd e (no_dummy hd j)
    | live k =>
      have q : (f k == h) = false := by simpa using hf k
      have st : t.advance ⟨j, m + 1, i, p, none⟩ = ⟨j + 1, m, i, p, none⟩ := by simp [SetTable.advance]
      simp only [q, st]
      rcases ih (j + 1) fuel (by lia) (by lia) with ⟨x, a, b, c⟩ | ⟨a, b⟩
      · exact .inl ⟨x, a, b, by simpa using c⟩
      · refine .inr ⟨fun x c d => ?_, ?_⟩
        · by_cases z : x = j
          · rw [z, e]; simp
          · exact a x (by lia) (by lia)
        · rw [show fuel + 1 - (m + 1 + 1) = fuel - (m + 1) by lia]
          simpa using b
theorem probe_some {t : SetTable} {f : Nat → Int} {h : Int} (hf : ∀ n, f n ≠ h) (hd : t.dummies = #[]) {e : Nat} (he : t.slot e = .empty) : ∀ (n i p fuel : Nat), i ≤ t.mask → 10 * n ≤ fuel → (∃ k, k < n ∧ (leapN t.mask k i p).1 = e) →
    ∃ x, x ≤ t.mask ∧ t.slot x = .empty ∧ SetTable.probe.go t f h fuel ⟨i, SetTable.runEnd t.mask i - i, i, p, none⟩ = some (.empty x none) := by
  intro n
  induction n with
  | zero => intro i p fuel _ _ ⟨k, hk, _⟩; lia
  | succ n ih =>
    intro i p fuel hi hfu ⟨k, hk, q⟩
    obtain ⟨r1, r2, r3⟩ := run_le hi
    rcases probe_run hf hd i p (SetTable.runEnd t.mask i - i) i fuel (by lia) (by lia) with z | ⟨a, b⟩
    · exact z
    · rw [b]
      cases k with
      | zero => exact absurd (by rw [show i = e from q]; exact he) (a i (Nat.le_refl _) (by lia))
      | succ k => exact ih _ _ _ (leapN_lt t.mask 1 i p hi) (by lia) ⟨k, by lia, q⟩
theorem bits_lt (h : Int) : SetTable.bits h < 2 ^ 64 := by unfold SetTable.bits; lia
theorem not_in_of_up {l : List Nat} {m : Nat} (h : Up l) (hl : l.length ≤ m) : ∃ e, e ≤ m ∧ e ∉ l := by
  apply Classical.byContradiction
  intro c
  have all : ∀ e, e ≤ m → e ∈ l := fun e he => Classical.byContradiction fun q => c ⟨e, he, q⟩
  have nd : l.Nodup := h.imp fun a => Nat.ne_of_lt a
  have := (List.nodup_range (n := m + 1)).length_le_of_subset (fun e he => all e (by simpa using Nat.lt_succ_iff.mp (List.mem_range.mp he)))
  simp at this
  lia
theorem slot_empty {t : SetTable} (hd : t.dummies = #[]) {e : Nat} (he : e ∉ t.place.toList) : t.slot e = .empty := by
  unfold SetTable.slot
  rw [hd]
  have : ¬ (t.place[SetTable.below t.place e]? == some e) = true := fun z => he (by
    have z' : t.place[SetTable.below t.place e]? = some e := by simpa using z
    rw [← Array.getElem?_toList] at z'
    exact List.mem_of_getElem? z')
  have nh : SetTable.has #[] e = false := by simp [SetTable.has]
  rw [nh]
  dsimp only
  rw [if_neg this]
  simp
structure Tb (t : SetTable) (n : Nat) : Prop where
  ms : Ms t.mask
  len : t.place.size = n
  most : n * 5 < t.mask * 3
  up : Up t.place.toList
  dm : t.dummies = #[]
  pl : t.plain = true
theorem Tb.fits {t : SetTable} {n : Nat} (h : Tb t n) : t.fits n = true := by
  have := h.most
  simp [SetTable.fits, SetTable.fill, h.len, h.dm]
  lia
theorem free_some {t : SetTable} {n : Nat} (T : Tb t n) (h : Int) : ∃ x, x ∉ t.place.toList ∧ t.freeSlot h = some (x, false) := by
  have hm := T.most
  obtain ⟨e, e1, e2⟩ := not_in_of_up (m := t.mask) T.up (by simp [T.len]; lia)
  have he := slot_empty T.dm e2
  have hi : SetTable.bits h % (t.mask + 1) ≤ t.mask := by
    exact Nat.lt_succ_iff.mp (Nat.mod_lt _ (Nat.succ_pos t.mask))
  obtain ⟨x, a, b, c⟩ := probe_some (t := t) (f := fun _ => h + 1) (h := h) (fun _ => by lia) T.dm he (SetTable.turns t.mask) _ (SetTable.bits h) (10 * SetTable.turns t.mask) hi (Nat.le_refl _) (covers T.ms hi (bits_lt h) e1)
  refine ⟨x, empty_not T.up b, ?_⟩
  unfold SetTable.freeSlot SetTable.probe SetTable.probeStart
  dsimp only
  rw [c]
  rfl
theorem free_lay {m : Nat} {owner : Array (Option Nat)} {e : Nat} (he : owner.getD e (some 0) = none) : ∀ (fuel i p : Nat), i ≤ m → (∃ k, k < fuel ∧ (leapN m k i p).1 = e) →
    ∃ x, x ≤ m ∧ owner.getD x (some 0) = none ∧ SetTable.layClean.free m owner fuel i p = some x := by
  intro fuel
  induction fuel with
  | zero => intro i p _ ⟨k, hk, _⟩; lia
  | succ fuel ih =>
    intro i p hi ⟨k, hk, q⟩
    obtain ⟨r1, r2, r3⟩ := run_le hi
    rw [SetTable.layClean.free]
    cases f : (List.range (SetTable.runEnd m i + 1 - i)).find? (fun k => (owner.getD (i + k) (some 0)).isNone) with
    | some y =>
      have a := List.mem_range.mp (List.mem_of_find?_eq_some f)
      have b := List.find?_some f
      exact ⟨i + y, by lia, by simpa using b, rfl⟩
    | none =>
      dsimp only
      cases k with
      | zero =>
        have z : i = e := q
        have := List.find?_eq_none.mp f 0 (List.mem_range.mpr (by lia))
        rw [Nat.add_zero, z, he] at this
        exact absurd rfl this
      | succ k => exact ih _ _ (leapN_lt m 1 i p hi) ⟨k, by lia, q⟩
theorem set_perm : ∀ (l : List (Option Nat)) (j k : Nat), l[j]? = some none → ((l.set j (some k)).filterMap id).Perm (k :: l.filterMap id)
  | [], _, _, h => by simp at h
  | a :: l, 0, k, h => by
    have : a = none := by simpa using h
    subst this
    simp
  | a :: l, j + 1, k, h => by
    have ih := set_perm l j k (by simpa using h)
    cases a with
    | none => simpa using ih
    | some b =>
      simp only [List.set_cons_succ, List.filterMap_cons, id]
      exact (ih.cons b).trans (.swap _ _ _)
theorem free_one {l : List (Option Nat)} (h : (l.filterMap id).length < l.length) : ∃ e : Nat, l[e]? = some none := by
  induction l with
  | nil => simp at h
  | cons a l ih =>
    cases a with
    | none => exact ⟨0, rfl⟩
    | some b =>
      obtain ⟨e, q⟩ := ih (by simpa using h)
      exact ⟨e + 1, by simpa using q⟩
theorem lay_fold {m : Nat} (hm : Ms m) : ∀ (hs : List Int) (owner : Array (Option Nat)) (k : Nat), owner.size = m + 1 → (owner.toList.filterMap id).Perm (List.range k) → k + hs.length ≤ m →
    ∃ o', (hs.foldl (init := some (owner, k)) fun acc h => do
      let (owner, k) ← acc
      let j ← SetTable.layClean.free m owner (SetTable.turns m) (SetTable.bits h % (m + 1)) (SetTable.bits h)
      pure (owner.setIfInBounds j (some k), k + 1)) = some (o', k + hs.length) ∧ o'.size = m + 1 ∧ (o'.toList.filterMap id).Perm (List.range (k + hs.length)) := by
  intro hs
  induction hs with
  | nil => intro owner k h1 h2 _; exact ⟨owner, rfl, h1, h2⟩
  | cons h hs ih =>
    intro owner k h1 h2 h3
    rw [List.length_cons] at h3
    have hlen : (owner.toList.filterMap id).length < owner.toList.length := by
      rw [h2.length_eq, List.length_range, Array.length_toList]
      lia
    obtain ⟨e, he⟩ := free_one hlen
    have hes : e < owner.size := by
      have := (List.getElem?_eq_some_iff.mp he).1
      simpa using this
    have he2 : owner.getD e (some 0) = none := by
      rw [Array.getElem?_toList] at he
      simp [Array.getD_eq_getD_getElem?, he]
    have hi : SetTable.bits h % (m + 1) ≤ m := Nat.lt_succ_iff.mp (Nat.mod_lt _ (Nat.succ_pos m))
    obtain ⟨x, a, b, c⟩ := free_lay (m := m) he2 (SetTable.turns m) _ (SetTable.bits h) hi (covers hm hi (bits_lt h) (by lia))
    have hx : x < owner.size := by lia
    have bx : owner.toList[x]? = some none := by
      have : owner.getD x (some 0) = owner[x] := by simp [Array.getD_eq_getD_getElem?, hx]
      rw [Array.getElem?_toList, Array.getElem?_eq_getElem hx, ← this, b]
    obtain ⟨o', q1, q2, q3⟩ := ih (owner.setIfInBounds x (some k)) (k + 1) (by simp [h1]) (by
      rw [Array.toList_setIfInBounds]
      refine (set_perm _ _ _ bx).trans ((h2.cons k).trans ?_)
      rw [List.range_succ]
      exact (List.perm_append_singleton k (List.range k)).symm) (by lia)
    refine ⟨o', ?_, q2, ?_⟩
    · rw [List.foldl_cons]
      simp only [c, Option.bind_eq_bind, Option.bind_some, Option.pure_def] at q1 ⊢
      rw [List.length_cons, show k + (hs.length + 1) = k + 1 + hs.length by lia]
      exact q1
    · rw [List.length_cons, show k + (hs.length + 1) = k + 1 + hs.length by lia]
      exact q3
theorem range_all {l : List (Option Nat)} {n : Nat} (h : l.length = n) : (List.range n).filterMap (fun j => l.getD j none) = l.filterMap id := by
  subst h
  induction l with
  | nil => rfl
  | cons a l ih =>
    rw [List.length_cons, List.range_succ_eq_map, List.filterMap_cons, List.filterMap_map]
    have e : ((fun j => (a :: l).getD j none) ∘ Nat.succ) = fun j => l.getD j none := by funext j; simp
    rw [e, ih]
    cases a <;> simp
theorem up_filterMap {f : Nat → Option (Nat × Nat)} (hf : ∀ j y, f j = some y → y.1 = j) : ∀ {l : List Nat}, Up l → Up ((l.filterMap f).map (·.1))
  | [], _ => by simp
  | a :: l, h => by
    obtain ⟨h1, h2⟩ := List.pairwise_cons.mp h
    have ih := up_filterMap hf h2
    rw [List.filterMap_cons]
    cases e : f a with
    | none => exact ih
    | some y =>
      rw [List.map_cons]
      refine List.pairwise_cons.mpr ⟨fun z hz => ?_, ih⟩
      obtain ⟨⟨b, c⟩, hb, rfl⟩ := List.mem_map.mp hz
      obtain ⟨d, hd, q⟩ := List.mem_filterMap.mp hb
      rw [hf a y e, hf d _ q]
      exact h1 d hd
theorem laid_some {m finger moves : Nat} {led plain : Bool} (hm : Ms m) (hs : Array Int) (hl : hs.size ≤ m) : ∃ t' order, SetTable.laid m finger moves led plain hs = some (t', order) ∧ t'.mask = m ∧ t'.led = led ∧ t'.plain = plain ∧ t'.dummies = #[] ∧ Up t'.place.toList ∧ t'.place.size = hs.size ∧ order.toList.Perm (List.range hs.size) := by
  have z0 : ((Array.replicate (m + 1) (none : Option Nat)).toList.filterMap id) = [] := by simp [List.filterMap_replicate]
  obtain ⟨o', q1, q2, q3⟩ := lay_fold hm hs.toList (Array.replicate (m + 1) none) 0 (by simp) (by rw [z0]; exact .nil) (by simpa using hl)
  have q3' : (o'.toList.filterMap id).Perm (List.range hs.size) := by simpa using q3
  have lc : SetTable.layClean m hs = some o' := by
    unfold SetTable.layClean
    rw [← Array.foldl_toList, q1]
    rfl
  have ord : ((List.range (m + 1)).filterMap fun j => (o'.getD j none).map fun x => (j, x)).map (·.2) = o'.toList.filterMap id := by
    rw [List.map_filterMap, ← range_all (l := o'.toList) (n := m + 1) (by simp [q2])]
    congr 1
    funext j
    have : o'.getD j none = o'.toList.getD j none := by simp [Array.getD_eq_getD_getElem?, List.getD_eq_getElem?_getD]
    rw [this]
    cases o'.toList.getD j none <;> rfl
  unfold SetTable.laid
  rw [lc]
  refine ⟨_, _, rfl, rfl, rfl, rfl, rfl, ?_, ?_, ?_⟩
  · refine up_filterMap (fun j y e => ?_) (List.pairwise_lt_range)
    obtain ⟨x, _, rfl⟩ := Option.map_eq_some_iff.mp e
    rfl
  · have := congrArg List.length ord
    rw [List.length_map] at this
    simp only [List.size_toArray, List.length_map]
    rw [this, q3'.length_eq, List.length_range]
  · rw [show (((List.range (m + 1)).filterMap fun j => (o'.getD j none).map fun x => (j, x)).map (·.2)).toArray.toList = o'.toList.filterMap id from ord]
    exact q3'
end Stb
end L2
set_option maxRecDepth 100000
namespace L2
open PySem PySem.Spec PyProof.Rows
namespace Stb
def nOf (e : Int × Value) : Int := match e.2 with
  | .int k _ => k
  | _ => 0
def SetN (prog : Program) (w : World) (h : Heap) (a : Addr) (L : List Int) : Prop :=
  ∃ o es ep t, h.get? a = some o ∧ o.ExactSet ∧ o.data = .set es ep t ∧ ElemsOf (intKind prog w) es.toList ∧ (es.toList.map nOf).Perm L ∧ Tb t es.size ∧ (w.params.followText "set-order" = true ∨ t.led = true)
section
variable {prog : Program} {w : World} {A : Around} {E : Value → Shared → Prop} {s : Shared} {a : Addr} {L : List Int}
theorem el_shape {e : Int × Value} {l : List (Int × Value)} (h : ElemsOf (intKind prog w) l) (he : e ∈ l) : ∃ t, e = (hashInt (nOf e), .int (nOf e) t) := by
  obtain ⟨⟨k, hk, hh⟩, _⟩ := h e he
  obtain ⟨t, q⟩ := Value.isInt_shape (show Value.isInt k e.2 = true from hk)
  obtain ⟨x, v⟩ := e
  dsimp only at q hh
  subst q
  subst hh
  exact ⟨t, rfl⟩
theorem SetN.at {h h' : Heap} (x : SetN prog w h a L) (k : ∀ o, h.get? a = some o → h'.get? a = some o) : SetN prog w h' a L := let ⟨o, es, ep, t, e, r⟩ := x; ⟨o, es, ep, t, k o e, r⟩
theorem new_setN {Q : Value → Shared → Prop} (h : ∀ o : Obj, SetN prog w (s.heap.push o) s.heap.objs.size [] → Q (.ref s.heap.objs.size) { s with heap := s.heap.push o }) : wpAny (model prog w) A (newSet (.type "set")) Q E s := by
  unfold newSet
  have q : wpAny (model prog w) A setsByText (fun b s1 => b = w.params.followText "set-order" ∧ s1 = s) E s := by
    unfold setsByText
    exact wpAny_bind (wpAny_askSetting (wpAny_pure ⟨rfl, rfl⟩))
  refine wpAny_bind (wpAny_mono q (fun b s1 hb => ?_) fun _ _ z => z)
  obtain ⟨rfl, rfl⟩ := hb
  refine wpAny_bind (wpAny_alloc (wpAny_pure (h _ ⟨_, #[], 0, _, Heap.get?_push_size _ rfl, ⟨rfl, rfl, rfl⟩, rfl, fun e he => by simp at he, .nil, ⟨.inl rfl, rfl, by show 0 * 5 < 7 * 3; decide, .nil, rfl, rfl⟩, ?_⟩)))
  cases w.params.followText "set-order"
  · exact .inr rfl
  · exact .inl rfl
theorem find_mem {l : List (Int × Value)} {x : Int} (hl : ElemsOf (intKind prog w) l) : (l.findIdx? fun e => (intKind prog w).is x e.2) = none ↔ x ∉ l.map nOf := by
  rw [List.findIdx?_eq_none_iff]
  constructor
  · intro h hm
    obtain ⟨e, he, q⟩ := List.mem_map.mp hm
    obtain ⟨t, z⟩ := el_shape hl he
    have := h e he
    rw [z, q] at this
    exact absurd this (by simp [intKind, Value.isInt])
  · intro h e he
    obtain ⟨t, z⟩ := el_shape hl he
    rw [z]
    have ne : nOf e ≠ x := fun q => h (by rw [← q]; exact List.mem_map_of_mem he)
    simpa [intKind, Value.isInt] using fun q => ne q
theorem put_tb {t : SetTable} {n x : Nat} (T : Tb t n) (hx : x ∉ t.place.toList) : (t.put x).1.mask = t.mask ∧ (t.put x).1.place.size = n + 1 ∧ Up (t.put x).1.place.toList ∧ (t.put x).1.dummies = #[] ∧ (t.put x).1.plain = true ∧ (t.put x).1.led = t.led := by
  obtain ⟨b1, _, _⟩ := below_spec (j := x) T.up
  have nh : SetTable.has t.dummies x = false := by rw [T.dm]; simp [SetTable.has]
  unfold SetTable.put
  dsimp only
  rw [nh]
  refine ⟨rfl, ?_, insert_up T.up hx, T.dm, T.pl, rfl⟩
  show (SetTable.insertAt t.place (SetTable.below t.place x) x).size = n + 1
  rw [← Array.length_toList, insert_list, List.length_append, List.length_cons, List.length_take, List.length_drop, Array.length_toList, T.len]
  rw [T.len] at b1
  lia
theorem lay_new {t : SetTable} {es : Array (Int × Value)} {h : Int} {x : Value} (T : Tb t es.size) : ∃ es1 t1, layNew t es h x = (es1, t1, false, false) ∧ es1.toList.Perm ((h, x) :: es.toList) ∧ es1.size = es.size + 1 ∧ t1.mask = t.mask ∧ t1.place.size = es.size + 1 ∧ Up t1.place.toList ∧ t1.dummies = #[] ∧ t1.plain = true ∧ t1.led = t.led := by
  obtain ⟨y, hy, q⟩ := free_some T h
  obtain ⟨p1, p2, p3, p4, p5, p6⟩ := put_tb T hy
  have P := layNew_perm t es h x
  have sz : (layNew t es h x).1.size = es.size + 1 := by rw [← Array.length_toList, P.length_eq]; simp
  have fit : (t.put y).1.fits (es.size + 1) = true := by
    have := T.most
    have m := T.ms
    simp [SetTable.fits, SetTable.fill, p2, p4, p1]
    rcases m with m | m <;> rw [m] at this ⊢ <;> lia
  have e : layNew t es h x = ((layNew t es h x).1, (t.put y).1, false, false) := by
    have sz' := sz
    unfold layNew at sz' ⊢
    rw [q] at sz' ⊢
    dsimp only at sz' ⊢
    rw [sz']
    simp [SetTable.orStandIn, fit]
  refine ⟨_, _, e, ?_, sz, p1, p2, p3, p4, p5, p6⟩
  refine P.trans ?_
  rw [Array.toList_push]
  exact List.perm_append_singleton _ _
theorem relay_ok {t : SetTable} {es : Array (Int × Value)} (h7 : t.mask = 7) (h5 : es.size = 5) (hd : t.dummies = #[]) (hp : t.plain = true) : ∃ es2 t2, relayAll t es (SetTable.grown es.size) = (es2, t2, false) ∧ es2.toList.Perm es.toList ∧ es2.size = es.size ∧ Tb t2 es2.size ∧ t2.led = t.led := by
  obtain ⟨t', order, e, q1, q2, q3, q4, q5, q6, q7⟩ := laid_some (m := 31) (finger := t.finger) (moves := t.movedTo 31) (led := t.led) (plain := t.plain) (.inr rfl) (es.map (·.1)) (by simp [h5])
  have P := relayAll_perm t es (SetTable.grown es.size)
  have sz : (relayAll t es (SetTable.grown es.size)).1.size = es.size := by rw [← Array.length_toList, P.length_eq, Array.length_toList]
  have w : t.relaid (es.map (·.1)) (SetTable.grown es.size) = some (t', order) := by
    rw [h5]
    exact e
  have c : coversAll order es.size = true := by
    unfold coversAll
    rw [List.isPerm_iff]
    simpa using q7
  have T : Tb t' es.size := ⟨.inr q1, by simpa using q6, by rw [q1, h5]; decide, q5, q4, by rw [q3]; exact hp⟩
  have f : relayAll t es (SetTable.grown es.size) = ((relayAll t es (SetTable.grown es.size)).1, t', false) := by
    have R := relayAll_fits t es (SetTable.grown es.size)
    have osz : (order.filterMap (es[·]?)).size = es.size := by
      have z : (order.filterMap (es[·]?)).toList = order.toList.filterMap (es[·]?) := by simp
      rw [← Array.length_toList, z, (List.Perm.filterMap (es[·]?) q7).length_eq]
      have : (List.range (es.map (·.1)).size).filterMap (es[·]?) = es.toList := by
        rw [Array.size_map]
        apply List.ext_getElem?
        intro i
        have all : ∀ (l : List (Int × Value)), (List.range l.length).filterMap (l[·]?) = l := by
          intro l
          induction l with
          | nil => rfl
          | cons b l ih =>
            rw [List.length_cons, List.range_succ_eq_map, List.filterMap_cons, List.filterMap_map]
            exact congrArg (b :: ·) ih
        have := all es.toList
        rw [Array.length_toList] at this
        simpa [Array.getElem?_toList] using congrArg (·[i]?) this
      rw [this, Array.length_toList]
    unfold relayAll
    rw [w]
    dsimp only
    rw [osz, c, T.fits]
    rfl
  exact ⟨_, _, f, P, sz, by rw [sz]; exact T, q2⟩
theorem add_setN {x : Int} {tk : Tok} {Q : Bool → Shared → Prop} (hS : SetN prog w s.heap a L) (hr : L.length < 18)
    (h : ∀ h', Heap.SameBut a s.heap h' → SetN prog w h' a (if x ∈ L then L else x :: L) → Q (!decide (x ∈ L)) { s with heap := h' }) :
    wpAny (model prog w) A (setAddHashed a (.int x tk) (hashInt x)) Q E s := by
  obtain ⟨o, es, ep, t, ho, hex, hd, hel, hp, T, hb⟩ := hS
  have hn : es.size = L.length := by rw [← hp.length_eq, List.length_map, Array.length_toList]
  have ss : es.size < scanBound := Nat.lt_of_lt_of_le (show es.size < 18 by lia) (by decide)
  have mem : x ∈ L ↔ x ∈ es.toList.map nOf := hp.mem_iff.symm
  unfold setAddHashed setAddHashedIn
  apply wpAny_holding
  refine wpAny_bind ((wpAny_setState_of ho hd T.fits) ?_)
  dsimp only
  rw [if_pos (byScan_of (knd := intKind prog w) (x := .int x tk) rfl ss hel)]
  have one : wpAny (model prog w) A (setAddByScan a (.int x tk) (hashInt x) es t) (fun r s1 => ∃ h', r = some (!decide (x ∈ L)) ∧ s1 = { s with heap := h' } ∧ Heap.SameBut a s.heap h' ∧ SetN prog w h' a (if x ∈ L then L else x :: L)) E s := by
    unfold setAddByScan
    refine wpAny_bind (wpAny_rule (wpAny_bind (wpAny_setScan_of (knd := intKind prog w) (k := x) (intKind_is _ _ _ _) ho hd T.fits hel ?_)))
    cases c : es.toList.findIdx? (fun e => (intKind prog w).is x e.2) with
    | some j =>
      have hm : x ∈ L := mem.mpr (Classical.byContradiction fun z => by rw [find_mem hel |>.mpr z] at c; cases c)
      refine wpAny_pure ⟨s.heap, by simp [hm], rfl, Heap.SameBut.refl _ _, ?_⟩
      rw [if_pos hm]
      exact ⟨o, es, ep, t, ho, hex, hd, hel, hp, T, hb⟩
    | none =>
      have hm : x ∉ L := fun z => (find_mem hel).mp c (mem.mp z)
      obtain ⟨es1, t1, eL, P1, z1, m1, l1, u1, d1, p1, ld1⟩ := lay_new (h := hashInt x) (x := .int x tk) T
      have hel1 : ElemsOf (intKind prog w) es1.toList := fun e he => by
        rcases List.mem_cons.mp (P1.mem_iff.mp he) with rfl | he
        · exact ⟨⟨x, intKind_is _ _ _ _, rfl⟩, rfl⟩
        · exact hel e he
      have hp1 : (es1.toList.map nOf).Perm (x :: L) := (P1.map nOf).trans (hp.cons x)
      have b1 : es1.size < scanBound := Nat.lt_of_lt_of_le (show es1.size < 19 by lia) (by decide)
      have mo := T.most
      dsimp only
      rw [eL]
      refine wpAny_bind (wpAny_pure ?_)
      dsimp only
      rw [p1, if_pos rfl]
      refine wpAny_bind ?_
      rw [hashByValue_scannable 8 (x := .int x tk) rfl]
      refine wpAny_pure ?_
      rw [show plainKind (.int x tk) = true from rfl, if_pos rfl]
      refine wpAny_bind (wpAny_storeSet_of ho hd ?_ (fits_of_scanBound b1))
      have g1 : (s.heap.update a (Obj.putSet es1 t1)).get? a = some { o with data := .set es1 (ep + 1) t1 } := by
        have q := Heap.get?_update_self (Obj.putSet es1 t1) ho (by rw [putSet_of es1 t1 hd]; rfl)
        rw [putSet_of es1 t1 hd] at q
        exact q
      have sb := Heap.SameBut.update s.heap a (Obj.putSet es1 t1)
      have led : w.params.followText "set-order" = true ∨ t1.led = true := hb.imp id fun z => by rw [ld1]; exact z
      by_cases tf : t1.tooFull = true
      · have h5 : t1.mask = 7 ∧ es1.size = 5 := by
          have : (t1.place.size + t1.dummies.size) * 5 ≥ t1.mask * 3 := by simpa [SetTable.tooFull, SetTable.fill] using tf
          rw [l1, d1, m1] at this
          have m := T.ms
          rw [m1]
          rcases m with m | m <;> rw [m] at this mo ⊢
          · simp at this; lia
          · simp at this; lia
        obtain ⟨es2, t2, eR, P2, z2, T2, ld2⟩ := relay_ok (t := t1) (es := es1) h5.1 h5.2 d1 p1
        rw [tf]
        simp only [Bool.not_false, Bool.and_self, if_true]
        rw [eR]
        refine wpAny_bind (wpAny_pure (wpAny_bind (wpAny_storeSet_of g1 rfl ?_ (by rw [z2]; exact fits_of_scanBound b1))))
        have g2 : ((s.heap.update a (Obj.putSet es1 t1)).update a (Obj.putSet es2 t2)).get? a = some { o with data := .set es2 (ep + 1 + 1) t2 } := by
          have q := Heap.get?_update_self (Obj.putSet es2 t2) g1 (by rw [putSet_of es2 t2 rfl]; rfl)
          rw [putSet_of es2 t2 rfl] at q
          exact q
        refine wpAny_pure ⟨_, by simp [hm], rfl, sb.trans (Heap.SameBut.update _ a _), ?_⟩
        rw [if_neg hm]
        exact ⟨_, es2, _, t2, g2, hex, rfl, fun e he => hel1 e (P2.mem_iff.mp he), (P2.map nOf).trans hp1, T2, led.imp id fun z => by rw [ld2]; exact z⟩
      · have tf' : t1.tooFull = false := by simpa using tf
        rw [tf']
        simp only [Bool.not_false, Bool.and_false, Bool.false_eq_true, if_false]
        refine wpAny_pure ⟨_, by simp [hm], rfl, sb, ?_⟩
        rw [if_neg hm]
        refine ⟨_, es1, _, t1, g1, hex, rfl, hel1, hp1, ⟨by rw [m1]; exact T.ms, by rw [l1, z1], ?_, u1, d1, p1⟩, led⟩
        have : ¬ (t1.place.size + t1.dummies.size) * 5 ≥ t1.mask * 3 := by simpa [SetTable.tooFull, SetTable.fill] using tf'
        rw [l1, d1] at this
        rw [z1]
        simp at this
        lia
  refine wpAny_bind (wpAny_mono one (fun r s1 hq => ?_) fun _ _ z => z)
  obtain ⟨h', rfl, rfl, sb, S'⟩ := hq
  exact wpAny_pure (h h' sb S')
end
end Stb
end L2
set_option maxRecDepth 100000
namespace L2
open PySem PySem.Spec PyProof.Rows PySem.Calls
namespace Stb
theorem own_sit : Manifest.owners.lookup (String.ofList "rotareti_tes".toList.reverse) = some Manifest.sig_set_iterator := by kernel_rfl
theorem sit_next : Slot "set_iterator" "__next__" "set_iterator.__next__" := by
  refine .of (owner := "set_iterator") (n := "__next__") ?_ ?_ ?_ ?_ ?_ ?_
  · rw [typeLookup_type, builtinLookup_eq_fast]; kernel_rfl
  · decide +kernel
  · decide +kernel
  · decide +kernel
  · exact .inl (by decide +kernel)
  · rw [isSubtype_type]; kernel_rfl
theorem sit_iter : Slot "set_iterator" "__iter__" "set_iterator.__iter__" := by
  refine .of (owner := "set_iterator") (n := "__iter__") ?_ ?_ ?_ ?_ ?_ ?_
  · rw [typeLookup_type, builtinLookup_eq_fast]; kernel_rfl
  · decide +kernel
  · decide +kernel
  · decide +kernel
  · exact .inl (by decide +kernel)
  · rw [isSubtype_type]; kernel_rfl
theorem args_snext (a : Value) : argsOk "set_iterator.__next__" ⟨[a], []⟩ := by
  unfold argsOk
  rw [signature?_of (id := "set_iterator.__next__") (n := "__txen__".toList) (o := "rotareti_tes".toList) (by kernel_rfl) own_sit]
  kernel_rfl
theorem args_siter (a : Value) : argsOk "set_iterator.__iter__" ⟨[a], []⟩ := by
  unfold argsOk
  rw [signature?_of (id := "set_iterator.__iter__") (n := "__reti__".toList) (o := "rotareti_tes".toList) (by kernel_rfl) own_sit]
  kernel_rfl
theorem ent_snext : entryFor table "set_iterator.__next__" = some Builtin.«set_iterator.__next__» := entryFor_of_tree (by kernel_rfl)
theorem ent_siter : entryFor table "set_iterator.__iter__" = some Builtin.«dict_keyiterator.__iter__» := by
  refine entryFor_alias (id' := "dict_keyiterator.__iter__") ?_ rfl (by decide +kernel) ?_ <;> kernel_rfl
theorem ent_set_iter : entryFor table "set.__iter__" = some Builtin.«frozenset.__iter__» := by
  refine entryFor_alias (id' := "frozenset.__iter__") ?_ rfl (by decide +kernel) ?_ <;> kernel_rfl
theorem cons_erase {α : Type} : ∀ {l : List α} {i : Nat} (h : i < l.length), (l[i] :: l.eraseIdx i).Perm l
  | [], _, h => by simp at h
  | a :: l, 0, _ => .refl _
  | a :: l, i + 1, h => by
    have := cons_erase (l := l) (i := i) (by simpa using h)
    simp only [List.getElem_cons_succ, List.eraseIdx_cons_succ]
    exact (List.Perm.swap _ _ _).trans (this.cons a)
theorem pick_go {α : Type} (f : Nat → Nat) : ∀ (fuel k : Nat) (l : List α) (out : Array α), l.length ≤ fuel → (pickOrder.go f fuel k l out).toList.Perm (out.toList ++ l)
  | 0, k, l, out, h => by
    have : l = [] := List.length_eq_zero_iff.mp (by lia)
    subst this
    simp [pickOrder.go]
  | fuel + 1, k, l, out, h => by
    rw [pickOrder.go]
    cases e : l[f k % l.length]? with
    | none =>
      have : l = [] := by
        cases l with
        | nil => rfl
        | cons a l =>
          have := List.getElem?_eq_none_iff.mp e
          have := Nat.mod_lt (f k) (show 0 < (a :: l).length by simp)
          lia
      subst this
      simp
    | some x =>
      obtain ⟨hi, q⟩ := List.getElem?_eq_some_iff.mp e
      dsimp only
      refine (pick_go f fuel (k + 1) _ _ (by rw [List.length_eraseIdx_of_lt hi]; lia)).trans ?_
      rw [Array.toList_push, List.append_assoc]
      refine List.Perm.append_left _ ?_
      rw [← q]
      exact cons_erase hi
theorem pick_perm {α : Type} (f : Nat → Nat) (xs : Array α) : (pickOrder f xs).toList.Perm xs.toList := by
  have := pick_go f xs.size 0 xs.toList #[] (by simp)
  simpa [pickOrder] using this
section
variable {prog : Program} {w : World} {A : Around} {E : Value → Shared → Prop} {s : Shared} {d : Addr} {o : Obj} {es : Array (Int × Value)} {ep : Nat} {t : SetTable}
def orderOf (w : World) (d ep : Nat) (es : Array (Int × Value)) : Array (Int × Value) := if w.params.followText "set-order" = true then pickOrder (w.params.setOrder d ep) es else es
theorem order_perm {ep : Nat} : (orderOf w d ep es).toList.Perm es.toList := by
  unfold orderOf
  split
  · exact pick_perm _ _
  · exact .refl _
def slotOf (w : World) (t : SetTable) (i : Nat) : Nat := if w.params.followText "set-order" = true then 0 else match i with
  | 0 => 0
  | i + 1 => t.place.getD i 0 + 1
def sitObj (w : World) (d ep : Nat) (t : SetTable) (n i : Nat) : Obj := { cls := .type "set_iterator", data := .fields #[.int (slotOf w t i) 0, .int i 0, .ref d, .int n 0, .int ep 0] }
theorem setsText {Q : Bool → Shared → Prop} (h : Q (w.params.followText "set-order") s) : wpAny (model prog w) A setsByText Q E s := by
  unfold setsByText
  exact wpAny_bind (wpAny_askSetting (wpAny_pure h))
theorem iter_setN {Q : Value → Shared → Prop} (ho : s.heap.get? d = some o) (hex : o.ExactSet) (hd : o.data = .set es ep t) (T : Tb t es.size)
    (h : Q (.ref s.heap.objs.size) { s with heap := s.heap.push (sitObj w d ep t es.size 0) }) : wpAny (model prog w) A (pyIter (.ref d)) Q E s := by
  have hT : s.TypeIs (.ref d) "set" := ⟨o, ho, hex.1⟩
  refine wpAny_pyIter_slot hT PySem.F.slot_set_iter (wpAny_call_entry PySem.F.slot_set_iter hT ent_set_iter ?_ (PySem.F.args_set_iter_1 _))
  show wpAny _ _ (do
    let n ← Builtin.Frozenset.sizeOf d
    let first ← if ← setDrawn d then newTuple ((← drawOrder n (List.range n)).map fun (i : Nat) => rawInt i) else pure (rawInt 0)
    ret (← newFields "set_iterator" [first, rawInt 0, .ref d, rawInt n, rawInt (← setEpoch d)])) _ _ s
  have up : ∀ {α : Type} {m : Sem α} {Q Q' : α → Shared → Prop} {E' : Value → Shared → Prop} {s : Shared}, wpAny (model prog w) A.in1 m Q E' s → (∀ a s, Q a s → Q' a s) → wpAny (model prog w) A.in1 m Q' E' s := fun h f => wpAny_mono h f fun _ _ z => z
  refine wpAny_bind (up (Q := fun n s1 => n = es.size ∧ s1 = s) ?_ fun n s1 hn => ?_)
  · unfold Builtin.Frozenset.sizeOf setEntries
    exact wpAny_bind (wpAny_bind (wpAny_setState_of ho hd T.fits (wpAny_pure (wpAny_pure ⟨rfl, rfl⟩))))
  obtain ⟨rfl, rfl⟩ := hn
  refine wpAny_bind (up (Q := fun b s2 => b = false ∧ s2 = s1) ?_ fun b s2 hb => ?_)
  · unfold setDrawn
    refine wpAny_bind (wpAny_setState_of ho hd T.fits (wpAny_bind (setsText (wpAny_pure ⟨?_, rfl⟩))))
    show (!w.params.followText "set-order" && (!t.plain && decide (es.size > 1))) = false
    rw [T.pl]
    simp
  obtain ⟨rfl, rfl⟩ := hb
  simp only [Bool.false_eq_true, if_false]
  refine wpAny_bind (wpAny_pure ?_)
  refine wpAny_bind (wpAny_setEpoch_of ho hd T.fits (wpAny_bind ?_))
  refine wpAny_newObj_type (wpAny_pure ⟨_, rfl, "set_iterator", _, ⟨_, Heap.get?_push_size _ rfl, rfl⟩, sit_next.lookup, ?_⟩)
  have e : slotOf w t 0 = 0 := by unfold slotOf; split <;> rfl
  have h' := h
  unfold sitObj at h'
  rw [e] at h'
  exact h'
theorem next_setN {I : Addr} {i : Nat} {Q : Option Value → Shared → Prop} (ho : s.heap.get? d = some o) (hd : o.data = .set es ep t) (T : Tb t es.size) (hb : w.params.followText "set-order" = true ∨ t.led = true)
    (hI : s.heap.get? I = some (sitObj w d ep t es.size i)) (hi : i < es.size)
    (h : ∀ h', h'.get? I = some (sitObj w d ep t es.size (i + 1)) → Heap.SameBut I s.heap h' → Q (((orderOf w d ep es)[i]?).map (·.2)) { s with heap := h' }) : wpAny (model prog w) A (pyNext (.ref I)) Q E s := by
  have hT : s.TypeIs (.ref I) "set_iterator" := ⟨_, hI, rfl⟩
  unfold pyNext
  refine wpAny_bind (wpAny_attempt (wpAny_callSpecial?_slot (name := Str.ofString "__next__") hT sit_next (wpAny_call_entry sit_next hT ent_snext ?_ (args_snext _))))
  have up : ∀ {α : Type} {m : Sem α} {Q Q' : α → Shared → Prop} {E' : Value → Shared → Prop} {s : Shared}, wpAny (model prog w) A.in1 m Q E' s → (∀ a s, Q a s → Q' a s) → wpAny (model prog w) A.in1 m Q' E' s := fun h f => wpAny_mono h f fun _ _ z => z
  have hse : s.heap.get? I = some { cls := .type "set_iterator", data := .fields #[.int (slotOf w t i) 0, .int i 0, .ref d, .int es.size 0, .int ep 0] } := hI
  unfold Builtin.«set_iterator.__next__»
  refine wpAny_bind (wpAny_pure ?_)
  refine wpAny_bind (wpAny_fieldsOf hse rfl ?_)
  dsimp only
  refine wpAny_bind (wpAny_setEntries_of ho hd T.fits ?_)
  rw [if_neg (by simp)]
  show wpAny _ _ (do
    match ← setNext d (slotOf w t i) i ep with
      | some (x, next) =>
        setField (.ref I) 0 (rawInt next)
        setField (.ref I) 1 (rawInt ((i : Int) + 1))
        ret x
      | none => setField (.ref I) 2 .none; raiseNew (← newExc (.type "StopIteration") [])) _ _ s
  have hz : (orderOf w d ep es).size = es.size := by rw [← Array.length_toList, order_perm.length_eq, Array.length_toList]
  obtain ⟨x, hx⟩ : ∃ x, (orderOf w d ep es)[i]? = some x := ⟨(orderOf w d ep es)[i]'(by rw [hz]; exact hi), by simp [hz, hi]⟩
  refine wpAny_bind (up (Q := fun r s1 => r = some (x.2, slotOf w t (i + 1)) ∧ s1 = s) ?_ fun r s1 hr => ?_)
  · unfold setNext
    refine wpAny_bind (wpAny_setState_of ho hd T.fits (wpAny_bind (setsText ?_)))
    cases c : w.params.followText "set-order" with
    | true =>
      rw [if_pos rfl, if_neg (by simp)]
      refine wpAny_bind ?_
      unfold setWalk
      refine wpAny_bind (wpAny_setState_of ho hd T.fits (wpAny_bind (setsText ?_)))
      rw [c, if_pos rfl]
      refine wpAny_bind (wpAny_askSetting (wpAny_pure (wpAny_pure ⟨?_, rfl⟩)))
      unfold orderOf at hx
      rw [if_pos c] at hx
      show Option.map _ ((pickOrder (w.params.setOrder d ep) es)[i]?) = _
      rw [hx]
      unfold slotOf
      rw [if_pos c, if_pos c]
      rfl
    | false =>
      have led : t.led = true := hb.elim (fun z => by rw [c] at z; cases z) id
      simp only [Bool.false_eq_true, if_false]
      have dr : ∀ {α : Type} {x y : Sem α} {Q' : α → Shared → Prop} {E' : Value → Shared → Prop}, wpAny (model prog w) A.in1 y Q' E' s → wpAny (model prog w) A.in1 (if (!t.plain && decide (es.size > 1)) = true then x else y) Q' E' s := fun h => by
        rw [T.pl]
        simpa using h
      refine dr ?_
      have lb : ∀ {Q' : Unit → Shared → Prop} {E' : Value → Shared → Prop}, Q' () s → wpAny (model prog w) A.in1 (if (!t.led && !es.isEmpty) = true then unsupported "set:maker-not-led" else pure ()) Q' E' s := fun h => by
        rw [led]
        simpa using wpAny_pure h
      refine wpAny_bind (lb ?_)
      have be : SetTable.below t.place (slotOf w t i) = i := by
        unfold slotOf
        rw [c]
        simp only [Bool.false_eq_true, if_false]
        have mono : ∀ i k, i < k → k < t.place.size → t.place.getD i 0 < t.place.getD k 0 := fun i k a b => by
          have := up_get T.up a (by simpa using b)
          simpa [Array.getD_eq_getD_getElem?, List.getD_eq_getElem?_getD] using this
        have sz := T.len
        refine below_eq T.up (by lia) (fun k hk => ?_) fun k hk hk2 => ?_
        · cases i with
          | zero => lia
          | succ i =>
            dsimp only
            by_cases e : k = i
            · rw [e]; lia
            · have := mono k i (by lia) (by lia)
              lia
        · cases i with
          | zero => exact Nat.zero_le _
          | succ i =>
            dsimp only
            have := mono i k (by lia) hk2
            lia
      have pi : t.place[i]? = some (t.place.getD i 0) := by
        have : i < t.place.size := by rw [T.len]; exact hi
        simp [Array.getD_eq_getD_getElem?, this]
      have ei : es[i]? = some x := by
        unfold orderOf at hx
        rw [c] at hx
        simpa using hx
      refine wpAny_pure ⟨?_, rfl⟩
      show (match es[SetTable.below t.place (slotOf w t i)]?, t.place[SetTable.below t.place (slotOf w t i)]? with
        | some (_, x), some j => some (x, j + 1)
        | _, _ => none) = _
      rw [be, pi, ei]
      unfold slotOf
      rw [c]
      rfl
  · obtain ⟨rfl, rfl⟩ := hr
    dsimp only
    refine wpAny_bind (wpAny_setField hse rfl (by simp) ?_)
    have g1 := Heap.get?_update_self (Obj.mapFields (·.setIfInBounds 0 (rawInt (slotOf w t (i + 1) : Nat)))) hse (Obj.isFreed_of_fields (Obj.data_mapFields rfl _))
    refine wpAny_bind (wpAny_setField g1 (by rw [Obj.data_mapFields rfl]) (by simp) ?_)
    have g2 := Heap.get?_update_self (Obj.mapFields (·.setIfInBounds 1 (rawInt ((i : Int) + 1)))) g1 (Obj.isFreed_of_fields (Obj.data_mapFields (Obj.data_mapFields rfl _) _))
    refine wpAny_pure ⟨_, rfl, wpAny_pure ?_⟩
    rw [show (some x.2 : Option Value) = ((orderOf w d ep es)[i]?).map (·.2) by rw [hx]; rfl]
    refine h _ ?_ ((Heap.SameBut.update ..).trans (Heap.SameBut.update ..))
    rw [g2]
    rfl
theorem end_setN {I : Addr} {Q : Option Value → Shared → Prop} (hh : A.handled = none) (ho : s.heap.get? d = some o) (hd : o.data = .set es ep t) (T : Tb t es.size) (hb : w.params.followText "set-order" = true ∨ t.led = true)
    (hI : s.heap.get? I = some (sitObj w d ep t es.size es.size))
    (h : ∀ h', Heap.ExtBut I s.heap h' → Q none { s with heap := h' }) : wpAny (model prog w) A (pyNext (.ref I)) Q E s := by
  have hT : s.TypeIs (.ref I) "set_iterator" := ⟨_, hI, rfl⟩
  unfold pyNext
  refine wpAny_bind (wpAny_attempt (wpAny_callSpecial?_slot (name := Str.ofString "__next__") hT sit_next (wpAny_call_entry sit_next hT ent_snext ?_ (args_snext _))))
  have up : ∀ {α : Type} {m : Sem α} {Q Q' : α → Shared → Prop} {E' : Value → Shared → Prop} {s : Shared}, wpAny (model prog w) A.in1 m Q E' s → (∀ a s, Q a s → Q' a s) → wpAny (model prog w) A.in1 m Q' E' s := fun h f => wpAny_mono h f fun _ _ z => z
  have hse : s.heap.get? I = some { cls := .type "set_iterator", data := .fields #[.int (slotOf w t es.size) 0, .int es.size 0, .ref d, .int es.size 0, .int ep 0] } := hI
  unfold Builtin.«set_iterator.__next__»
  refine wpAny_bind (wpAny_pure ?_)
  refine wpAny_bind (wpAny_fieldsOf hse rfl ?_)
  dsimp only
  refine wpAny_bind (wpAny_setEntries_of ho hd T.fits ?_)
  rw [if_neg (by simp)]
  show wpAny _ _ (do
    match ← setNext d (slotOf w t es.size) es.size ep with
      | some (x, next) =>
        setField (.ref I) 0 (rawInt next)
        setField (.ref I) 1 (rawInt ((es.size : Int) + 1))
        ret x
      | none => setField (.ref I) 2 .none; raiseNew (← newExc (.type "StopIteration") [])) _ _ s
  refine wpAny_bind (up (Q := fun r s1 => r = none ∧ s1 = s) ?_ fun r s1 hr => ?_)
  · unfold setNext
    refine wpAny_bind (wpAny_setState_of ho hd T.fits (wpAny_bind (setsText ?_)))
    cases c : w.params.followText "set-order" with
    | true =>
      rw [if_pos rfl, if_neg (by simp)]
      refine wpAny_bind ?_
      unfold setWalk
      refine wpAny_bind (wpAny_setState_of ho hd T.fits (wpAny_bind (setsText ?_)))
      rw [c, if_pos rfl]
      refine wpAny_bind (wpAny_askSetting (wpAny_pure (wpAny_pure ⟨?_, rfl⟩)))
      show Option.map _ ((pickOrder (w.params.setOrder d ep) es)[es.size]?) = _
      have : (pickOrder (w.params.setOrder d ep) es).size = es.size := by rw [← Array.length_toList, (pick_perm _ _).length_eq, Array.length_toList]
      rw [Array.getElem?_eq_none (by lia)]
      rfl
    | false =>
      have led : t.led = true := hb.elim (fun z => by rw [c] at z; cases z) id
      simp only [Bool.false_eq_true, if_false]
      have dr : ∀ {α : Type} {x y : Sem α} {Q' : α → Shared → Prop} {E' : Value → Shared → Prop}, wpAny (model prog w) A.in1 y Q' E' s → wpAny (model prog w) A.in1 (if (!t.plain && decide (es.size > 1)) = true then x else y) Q' E' s := fun h => by
        rw [T.pl]
        simpa using h
      refine dr ?_
      have lb : ∀ {Q' : Unit → Shared → Prop} {E' : Value → Shared → Prop}, Q' () s → wpAny (model prog w) A.in1 (if (!t.led && !es.isEmpty) = true then unsupported "set:maker-not-led" else pure ()) Q' E' s := fun h => by
        rw [led]
        simpa using wpAny_pure h
      refine wpAny_bind (lb ?_)
      have be : SetTable.below t.place (slotOf w t es.size) = es.size := by
        unfold slotOf
        rw [c]
        simp only [Bool.false_eq_true, if_false]
        have mono : ∀ i k, i < k → k < t.place.size → t.place.getD i 0 < t.place.getD k 0 := fun i k a b => by
          have := up_get T.up a (by simpa using b)
          simpa [Array.getD_eq_getD_getElem?, List.getD_eq_getElem?_getD] using this
        have sz := T.len
        refine below_eq T.up (by lia) (fun k hk => ?_) fun k hk hk2 => (by lia)
        cases e : es.size with
        | zero => lia
        | succ i =>
          dsimp only
          by_cases e2 : k = i
          · rw [e2]; lia
          · have := mono k i (by lia) (by lia)
            lia
      refine wpAny_pure ⟨?_, rfl⟩
      show (match es[SetTable.below t.place (slotOf w t es.size)]?, t.place[SetTable.below t.place (slotOf w t es.size)]? with
        | some (_, x), some j => some (x, j + 1)
        | _, _ => none) = _
      rw [be, Array.getElem?_eq_none (Nat.le_refl _)]
  · obtain ⟨rfl, rfl⟩ := hr
    dsimp only
    refine wpAny_bind (wpAny_setField hse rfl (by simp) ?_)
    refine wpAny_bind ?_
    simp only [newExc, newTuple]
    refine wpAny_bind (wpAny_newObj_type ?_ (by size_fits))
    have fa : firstArgMember (.type "StopIteration") [] = pure Value.none := by first | rfl | (simp only [firstArgMember]; rfl)
    refine wpAny_bind (m := firstArgMember _ _) (wpAny_of_eq fa ?_)
    refine wpAny_newObj_type ?_ (by size_fits)
    simp only [raiseNew]
    refine wpAny_bind (wpAny_handled ?_)
    have h1 : A.in1.handled = none := hh
    rw [h1]
    refine wpAny_bind (wpAny_pure (wpAny_throw ?_))
    apply wpAny_bind
    refine wpAny_isInstance (b := true) (T := "StopIteration") ⟨_, Heap.get?_push_size _ rfl, rfl⟩ isSubtype_stop ?_
    exact wpAny_pure (h _ (((Heap.SameBut.update ..).extBut.push _).push _))
theorem self_setN {I : Addr} {ob : Obj} {Q : Value → Shared → Prop} (hI : s.heap.get? I = some ob) (hc : ob.cls = .type "set_iterator") (h : Q (.ref I) s) : wpAny (model prog w) A (pyIter (.ref I)) Q E s := by
  have hT : s.TypeIs (.ref I) "set_iterator" := ⟨_, hI, hc⟩
  refine wpAny_pyIter_slot hT sit_iter (wpAny_call_entry sit_iter hT ent_siter ?_ (args_siter _))
  exact wpAny_pure (M := model prog w) (a := Fin.done (.ret (.ref I))) ⟨_, rfl, "set_iterator", _, hT, sit_next.lookup, h⟩
theorem walk_setN (hh : A.handled = none) (I : Addr) (hne : d ≠ I) (hd : o.data = .set es ep t) (T : Tb t es.size) (hb : w.params.followText "set-order" = true ∨ t.led = true) :
    Walks prog w A I [I, d] [I] es.size (fun i v => ((orderOf w d ep es)[i]?).map (·.2) = some v) (fun i h => h.get? I = some (sitObj w d ep t es.size i) ∧ h.get? d = some o) where
  sub := fun b hb => by simp at hb; simp [hb]
  frame := fun _ _ _ st hk => ⟨hk I (by simp) _ st.1, hk d (by simp) _ st.2⟩
  item := fun i s Q E hi st hQ => by
    have hz : (orderOf w d ep es).size = es.size := by rw [← Array.length_toList, order_perm.length_eq, Array.length_toList]
    obtain ⟨x, hx⟩ : ∃ x, ((orderOf w d ep es)[i]?).map (·.2) = some x := ⟨((orderOf w d ep es)[i]'(by rw [hz]; exact hi)).2, by simp [hz, hi]⟩
    refine next_setN st.2 hd T hb st.1 hi fun h' g sb => ?_
    rw [hx]
    exact hQ x h' s.toks hx ⟨g, (sb.2 d hne).trans st.2⟩ fun b o' hb e => sb.extBut b o' (fun z => hb (by simp [z])) e
  done := fun s Q E st hQ => end_setN hh st.2 hd T hb st.1 fun h' he => hQ h' s.toks fun b o' hb e => he b o' (fun z => hb (by simp [z])) e
  self := fun _ _ _ _ st hQ => self_setN st.1 rfl hQ
theorem hint_set {Q : Bool → Shared → Prop} (hT : s.TypeIs (.ref d) "set") (h : Q false s) : wpAny (model prog w) A (Builtin.List.listLengthHint (.ref d)) Q E s := by
  unfold Builtin.List.listLengthHint
  refine wpAny_bind (wpAny_specialOf hT PySem.F.slot_set_len.lookup ?_)
  generalize hid : ("set.__len__" : String) = id0
  wp_delta
  have sp : splitId id0 = some ("set", "__len__") := by subst hid; decide +kernel
  rw [sp]
  subst hid
  refine wpAny_bind (wpAny_isInstance (T := "set") (b := true) hT (by rw [isSubtype_type]; kernel_rfl) ?_)
  refine wpAny_ite_split (fun z => absurd z (by decide)) fun _ => wpAny_ite_split (fun _ => wpAny_bind (wpAny_typeOf hT (wpAny_pure h))) fun z => absurd (by decide +kernel) z
theorem src_setN (ho : o.ExactSet) (hd : o.data = .set es ep t) (T : Tb t es.size) (hb : w.params.followText "set-order" = true ∨ t.led = true) :
    PySem.W.KdlSrc prog w "set" d d es.size (fun i v => ((orderOf w d ep es)[i]?).map (·.2) = some v) (fun h => h.get? d = some o) where
  type := fun s h => ⟨o, h, ho.1⟩
  there := fun h e => ⟨Heap.lt_size e, Heap.lt_size e⟩
  keep := fun _ _ e k => k d (.inl rfl) _ e
  notList := by decide
  notTuple := by decide
  hint := fun A E s Q e h => hint_set ⟨o, e, ho.1⟩ h
  iter := fun A s hh e => ⟨sitObj w d ep t es.size 0, _, fun E Q h => iter_setN e ho hd T h, walk_setN hh _ (Nat.ne_of_lt (Heap.lt_size e)) hd T hb, Heap.get?_push_size _ rfl, Heap.get?_push_of_some _ e⟩
end
end Stb
end L2
set_option maxRecDepth 100000
namespace L2
open PySem PySem.Spec PyProof.Rows
theorem Stb.call_addN {prog : Program} {w : World} {A : Around} {E : Value → Shared → Prop} {s : Shared} {a : Addr} {L : List Int} {x : Int} {tk : Tok} {Q : Value → Shared → Prop} (hS : Stb.SetN prog w s.heap a L) (hr : L.length < 18)
    (h : ∀ h', Heap.SameBut a s.heap h' → Stb.SetN prog w h' a (if x ∈ L then L else x :: L) → Q .none { s with heap := h', toks := s.toks + 1 }) : wpAny (model prog w) A (call (.builtin "set.add") [.ref a, .int x tk]) Q E s := by
  have hT : s.TypeIs (.ref a) "set" := by
    obtain ⟨o, es, ep, t, ho, hex, _⟩ := id hS
    exact ⟨o, ho, hex.1⟩
  refine wpAny_call_entry PySem.F.slot_set_add hT PySem.F.entry_set_add ?_ (PySem.F.args_set_add_2 _ _)
  show wpAny _ _ (do let _ ← setAdd a (.int x tk); ret .none) _ _ s
  unfold setAdd
  refine wpAny_bind (wpAny_holding (wpAny_bind ((intKind prog w).pyHash (k := x) (intKind_is _ _ _ _) ?_)))
  refine Stb.add_setN (s := { s with toks := s.toks + 1 }) hS hr fun h' sb S' => wpAny_pure ⟨_, rfl, h h' sb S'⟩
theorem compTurn_setS (vx target iter : Expr) (ifs : List Expr) (scope : Scope) (pos : Pos) (it acc : Value) (env : Env) : compTurn (.SetComp vx [⟨target, iter, ifs, 0⟩] scope pos) 0 it acc env = (do
    standAt iter.pos
    match ← pyNext it with
      | none => pure (.done .next)
      | some v =>
        letOwnedTupleGo target it v
        assign target env v
        let mut ok := true
        for c in ifs do
          if ok then ok ← isTrue c env (eval c env)
        if ok then
          (do let v ← eval vx env; standAt vx.pos; let _ ← call (.builtin "set.add") [acc, v])
        again (.compLoop (.SetComp vx [⟨target, iter, ifs, 0⟩] scope pos) 0 it acc env)) := by rfl
theorem codeAny_compStart_setS {prog : Program} {w : World} {A : Around} {R : Result → Shared → Prop} {s : Shared} {vx target iter ifs rest scope pos it acc env}
    (h0 : codeAny (model prog w) A (.compLoop (.SetComp vx (⟨target, iter, ifs, 0⟩ :: rest) scope pos) 0 it acc env) R s)
    (h : wpAny (model prog w) A (pyIter it) (fun it' s' => codeAny (model prog w) A (.compLoop (.SetComp vx (⟨target, iter, ifs, 0⟩ :: rest) scope pos) 0 it' acc env) R s') (notedBy (model prog w) A env fun x s' => R (.error x) s') s) :
    codeAny (model prog w) A (.compStart (.SetComp vx (⟨target, iter, ifs, 0⟩ :: rest) scope pos) 0 it acc env) R s := by
  refine codeAny_of_tree (?_ : wpAny _ A ((compStart (.SetComp vx (⟨target, iter, ifs, 0⟩ :: rest) scope pos) 0 it acc env).onRaise (fun x => do noteFrame x env; standAt theWindowsPlace)) _ _ s)
  apply wpAny_notedAt
  unfold compStart
  refine (?_ : wpAny _ A (ask >>= _) _ _ s)
  refine wpAny_bind (wpAny_askSetting (wpAny_ite ?_))
  split
  · first | exact wpAny_pure ⟨rfl, h0⟩ | exact wpAny_bind (wpAny_pure (wpAny_pure ⟨rfl, h0⟩))
  · refine wpAny_bind (wpAny_rule ?_)
    refine (?_ : wpAny _ _ (standAt iter.pos >>= _) _ _ s)
    exact wpAny_bind (wpAny_standAt (wpAny_bind (wpAny_mono h (fun it' s' z => wpAny_pure ⟨rfl, z⟩) fun _ _ z => z)))
section
variable {prog : Program} {w : World} {A : Around} {R : Result → Shared → Prop} {s : Shared}
theorem scomp_loop {vx target iter : Expr} {ifs : List Expr} {scope : Scope} {pos : Pos} {it : Value} {D : Addr} {env : Env} (J : Nat → Shared → Prop)
    (turn : ∀ n s, J n s → wpAny (model prog w) A (pyNext it) (fun r s1 => match r with
      | none => R (.ok .next) s1
      | some v => wpAny (model prog w) A (letOwnedTupleGo target it v) (fun _ s2 => wpAny (model prog w) A (assign target env v) (fun _ s3 => wpAny (model prog w) A (cTests ifs env) (fun ok s4 =>
          if ok = true then wpAny (model prog w) A (eval vx env) (fun vv s6 => wpAny (model prog w) A (call (.builtin "set.add") [.ref D, vv]) (fun _ s7 => ∃ m, m < n ∧ J m s7) (fun _ _ => False) s6) (fun _ _ => False) s4
          else ∃ m, m < n ∧ J m s4) (fun _ _ => False) s3) (fun _ _ => False) s2) (fun _ _ => False) s1) (fun _ _ => False) s)
    (n : Nat) (h : J n s) : codeAny (model prog w) A (.compLoop (.SetComp vx [⟨target, iter, ifs, 0⟩] scope pos) 0 it (.ref D) env) R s := by
  refine codeAny_loop rfl J (fun n s hJ => ?_) n h
  show wpAny _ A ((compTurn (.SetComp vx [⟨target, iter, ifs, 0⟩] scope pos) 0 it (.ref D) env).onRaise (fun x => do noteFrame x env; theTreesLotGoes x)) _ _ s
  refine wpAny_noted ?_
  rw [compTurn_setS]
  have up : ∀ {α : Type} {t : Sem α} {Q Q' : α → Shared → Prop} {E : Value → Shared → Prop} {s : Shared}, wpAny (model prog w) A t Q (fun _ _ => False) s → (∀ a s, Q a s → Q' a s) → wpAny (model prog w) A t Q' E s :=
    fun h f => wpAny_mono h f fun _ _ z => False.elim z
  refine wpAny_bind (wpAny_standAt (wpAny_bind (up (turn n s hJ) fun r s1 h1 => ?_)))
  cases r with
  | none => exact wpAny_pure h1
  | some v =>
    refine wpAny_bind (up h1 fun _ s2 h2 => ?_)
    refine wpAny_bind (up h2 fun _ s3 h3 => ?_)
    refine wpAny_bind (up h3 fun ok s4 h4 => ?_)
    cases ok with
    | false => exact wpAny_pure ⟨rfl, h4⟩
    | true => exact wpAny_bind (wpAny_bind (up h4 fun vv s6 h6 => wpAny_bind (wpAny_standAt (wpAny_bind (up h6 fun _ s7 h7 => wpAny_pure (wpAny_pure ⟨rfl, h7⟩))))))
end
section
variable {X : Cx} {scope : Scope} {own M : List Str} {pins : List (Addr × Obj)} {σ : St} {H2 : Hp} {s2 : Shared} {tg iter vx : Expr} {ifs : List Expr} {pos : Pos} {g : TG} {tt : TT} {tv : TE}
theorem scomp_core (ok : CompOk X scope M) (hc : X.calm = true) (hg : ∀ C s2 H2 fp, PG (cxComp X scope own M C s2 H2 fp) tg g) (ht : ∀ C s2 H2 fp, PTs (cxComp X scope own M C s2 H2 fp) ifs tt) (he : ∀ C s2 H2 fp, PE (cxComp X scope own M C s2 H2 fp) vx tv)
    (I2 : Inv X pins σ H2 s2) {it : Addr} {fp : List Addr} {tn : Nat → Heap → Prop} {J : It} (T : Turn X.prog X.w X.K tg J fp it tn) (st2 : tn 0 s2.heap) (f2 : ∀ b ∈ fp, FpOk X pins H2 b)
    {W : Nat → Nat → List Int → Hp → Prop} (w0 : ∃ m, W 0 m [] H2) {Qf : V → Hp → Prop}
    (turn : ∀ i m acc H, W i m acc H → (J.stop i H ∧ acc.length ≤ 18 ∧ ∀ D, H D = none → Qf (.ref D) (upd H D (.ext fun h => Stb.SetN X.prog X.w h D acc))) ∨
      (J.go i H ∧ acc.length < 18 ∧ ∀ x H', J.yld i H x H' → g x (List.replicate own.length none ++ σ) H' fun σ2 H2 => σ2.drop own.length = σ ∧ tt σ2 H2 fun c H3 =>
        if c = true then tv σ2 H3 fun v H5 => ∃ k m', v = .int k ∧ m' < m ∧ W (i + 1) m' (if k ∈ acc then acc else k :: acc) H5 else ∃ m', m' < m ∧ W (i + 1) m' acc H3))
    {RR : Value → Addr → Result → Shared → Prop} {E : Value → Shared → Prop}
    (fin : ∀ D C H' s' m, Inv X pins σ H' s' → Qf (.ref D) H' → s'.heap.Ns C m → H' C = none → C ≠ X.env.locals → X.s₀.heap.objs.size ≤ C → (∀ x c, X.env.cells.lookup x = some c → c ≠ C) → (∀ p ∈ X.pn ++ pins, p.1 ≠ C) → RR (.ref D) C (.ok .next) s') :
    wpAny (model X.prog X.w) X.A (newSet (.type "set")) (fun acc s3 => wpAny (model X.prog X.w) X.A (newFunctionEnv scope X.env.globals (closL X.env scope.names []) [] X.env.qual none .none (some X.env)) (fun cenv s4 =>
      codeAny (model X.prog X.w) X.A (.compStart (.SetComp vx [⟨tg, iter, ifs, 0⟩] scope pos) 0 (.ref it) acc { cenv with scope := relabel scope X.env }) (RR acc cenv.locals) s4) E s3) E s2 := by
  refine Stb.new_setN fun o0 hN => newEnv_comp ?_
  have zC : (s2.heap.push o0).objs.size = s2.heap.objs.size + 1 := Heap.size_push ..
  dsimp only
  rw [zC]
  generalize hC : s2.heap.objs.size + 1 = C
  generalize hh : pushCells ((s2.heap.push o0).push { cls := .type "dict", data := .dict #[] }) scope.names = h4
  have fpl : ∀ b ∈ fp, FpOk X pins H2 b ∧ b < s2.heap.objs.size := fun b hb => by
    obtain ⟨o, e, _⟩ := T.obj 0 _ st2 b hb
    exact ⟨f2 b hb, Heap.lt_size e⟩
  have I4 : Inv (cxComp X scope own M C s2 H2 fp) [] (List.replicate own.length none ++ σ) H2 { s2 with heap := h4 } := inv_compD (o0 := o0) ok hc I2 fpl hC.symm hh.symm
  generalize hX : cxComp X scope own M C s2 H2 fp = X' at I4
  have keep4 : ∀ b o, s2.heap.get? b = some o → h4.get? b = some o := fun b o e => by
    rw [← hh]; exact pushCells_keeps _ _ _ _ (Heap.get?_push_of_some _ (Heap.get?_push_of_some _ e))
  obtain ⟨o1, hD4⟩ : ∃ o1, h4.get? s2.heap.objs.size = some o1 := by
    obtain ⟨o1, _, _, _, e, _⟩ := id hN
    exact ⟨o1, by rw [← hh]; exact pushCells_keeps _ _ _ _ (Heap.get?_push_of_some _ e)⟩
  have isD0 : Stb.SetN X.prog X.w h4 s2.heap.objs.size [] := hN.at fun o e => by rw [← hh]; exact pushCells_keeps _ _ _ _ (Heap.get?_push_of_some _ e)
  have st4 : tn 0 h4 := T.keep _ _ _ st2 fun b hb o e => keep4 b o e
  have gg : PG X' tg g := by rw [← hX]; exact hg C s2 H2 fp
  have gt : PTs X' ifs tt := by rw [← hX]; exact ht C s2 H2 fp
  have ge : PE X' vx tv := by rw [← hX]; exact he C s2 H2 fp
  have xP : X'.prog = X.prog := by rw [← hX]; rfl
  have xw : X'.w = X.w := by rw [← hX]; rfl
  have xK : X'.K = X.K := by rw [← hX]; rfl
  have xA : X'.A = X.A := by rw [← hX]; rfl
  have xc : X'.calm = true := by rw [← hX]; exact hc
  have xpn : X'.pn = [] := by rw [← hX]; rfl
  have xs : X'.s₀ = s2 := by rw [← hX]; rfl
  have xH : X'.H₀ = H2 := by rw [← hX]; rfl
  have xL : X'.env.locals = C := by rw [← hX]; rfl
  have xfs : X'.fs = frs X.stack := by rw [← hX]; rfl
  have xex : X'.ex = fp := by rw [← hX]; rfl
  have xe : X'.xe = fun _ _ => False := by rw [← hX]; rfl
  have xenv : ({ newEnv scope C X.env.globals (cellsFrom (C + 1) scope.names (closL X.env scope.names [])) X.env.qual none .none (some X.env) builtinsNs with scope := relabel scope X.env } : Env) = X'.env := by rw [← hX]; rfl
  have Dlt : s2.heap.objs.size < C := by rw [← hC]; exact Nat.lt_succ_self _
  have fpb : ∀ {pl : List (Addr × Obj)} {H : Hp}, (∀ b ∈ fp, H b = none) → (∀ p ∈ pl, p.1 ∉ fp) → ∀ b ∈ fp, FpOk X' pl H b := fun {pl H} hn hpl b hb => by
    refine ⟨hn b hb, ?_, ?_, .inl (by rw [xex]; exact hb), fun x c e => (I4.ok.exf b (by rw [xex]; exact hb)).2 x c e, fun p hp z => ?_⟩
    · exact (I4.ok.exf b (by rw [xex]; exact hb)).1
    · exact I4.ok.exfs b (by rw [xex]; exact hb)
    · rw [xpn, List.nil_append] at hp
      exact hpl p hp (by rw [z]; exact hb)
  have Dfp : s2.heap.objs.size ∉ fp := fun z => Nat.lt_irrefl _ (fpl _ z).2
  have DC : s2.heap.objs.size ≠ C := Nat.ne_of_lt Dlt
  have nocell : ∀ {h : Heap} {L : List Int} {o : Obj}, Stb.SetN X.prog X.w h s2.heap.objs.size L → h.get? s2.heap.objs.size = some o → ∀ v, o.data ≠ .cell v := fun S e v z => by
    obtain ⟨o', es, ep, t, e', _, dd, _⟩ := S
    rw [e] at e'
    cases e'
    rw [dd] at z
    cases z
  have Dcell : ∀ x c, X'.env.cells.lookup x = some c → c ≠ s2.heap.objs.size := fun x c e z => by
    obtain ⟨v, o, q, hd⟩ := I4.cell x c e
    rw [z] at q
    exact nocell isD0 q _ hd
  have Dfs : s2.heap.objs.size ∉ X'.fs := fun z => by
    obtain ⟨_, o, ho, _⟩ := I4.ok.funs.mem (by exact z)
    rw [xs] at ho
    exact Nat.lt_irrefl _ (Heap.lt_size ho)
  rw [xenv]
  have goal : ∀ s5 : Shared, s5 = { s2 with heap := h4 } → codeAny (model X.prog X.w) X.A (.compLoop (.SetComp vx [⟨tg, iter, ifs, 0⟩] scope pos) 0 (.ref it) (.ref s2.heap.objs.size) X'.env) (RR (.ref s2.heap.objs.size) C) s5 := by
    rintro s5 rfl
    obtain ⟨m0, w0⟩ := w0
    refine scomp_loop (fun n s' => ∃ i acc σ' H' ob, Inv X' [] σ' H' s' ∧ σ'.drop own.length = σ ∧ tn i s'.heap ∧ (∀ b ∈ fp, H' b = none) ∧ H' s2.heap.objs.size = none ∧
      s'.heap.get? s2.heap.objs.size = some ob ∧ Stb.SetN X.prog X.w s'.heap s2.heap.objs.size acc ∧ W i n acc H') ?_ m0
      ⟨0, [], _, H2, _, I4, by simp, st4, fun b hb => (f2 b hb).1, I2.hok.fresh (Nat.le_refl _), hD4, isD0, w0⟩
    rintro n s3 ⟨i, acc, σ3, H3, ob, I3, hσ, st3, fr3, hD, hDo, isD, w3⟩
    have noc : ∀ v, ob.data ≠ .cell v := nocell isD hDo
    have stay : ∀ {h : Heap}, h.get? s2.heap.objs.size = some ob → Stb.SetN X.prog X.w h s2.heap.objs.size acc := fun e => isD.at fun o q => by rw [hDo] at q; cases q; exact e
    have pinD : ∀ {H : Hp} {s : Shared} {σ : St}, Inv X' [] σ H s → H s2.heap.objs.size = none → s.heap.get? s2.heap.objs.size = some ob →
        Inv X' [(s2.heap.objs.size, ob)] σ H s := fun {H s σ} I hn ho => I.pins_of fun p hp => by
      have e : p = (s2.heap.objs.size, ob) := by simpa using hp
      subst e
      exact ⟨ho, hn, by rw [xL]; exact DC, Dfs, noc⟩
    have plD : ∀ p ∈ [((s2.heap.objs.size, ob) : Addr × Obj)], p.1 ∉ fp := fun p hp => by
      have e : p = (s2.heap.objs.size, ob) := by simpa using hp
      subst e
      exact Dfp
    have I3' := pinD I3 hD hDo
    rcases turn i n acc H3 w3 with ⟨stop, hsz, q⟩ | ⟨go, hsz, step⟩
    · have := T.done X' xP xw xK xc i _ s3 σ3 H3 (fun _ _ => False) I3' (fpb fr3 plD) st3 stop
      rw [xA] at this
      refine thn this fun r s4 ⟨hr, I5⟩ => ?_
      subst hr
      have hDo5 := (I5.pin (s2.heap.objs.size, ob) (by rw [xpn]; simp)).1
      have un : Un (frs X.stack) fp H2 H3 s2.heap s4.heap := by
        have := I5.base
        rw [xfs, xex, xH, xs] at this
        exact this
      have os : s4.os = s2.os := by rw [I5.os, xs]
      have hok : HOk X.prog X.w H3 s4.heap := by have := I5.hok; rw [xP, xw] at this; exact this
      have IX : Inv X pins σ H3 s4 := I2.call' os un hok I5.bare fun b hb => by
        obtain ⟨_, f1, _, f3, f4, f5⟩ := f2 b hb
        exact ⟨f3, f1, f4, f5⟩
      have old : ∀ {b : Addr}, s2.heap.objs.size ≤ b → (X.s₀.heap.objs.size ≤ b ∧ b ≠ X.env.locals ∧ (∀ x c, X.env.cells.lookup x = some c → c ≠ b) ∧ ∀ p ∈ X.pn ++ pins, p.1 ≠ b) := fun {b} hb => by
        obtain ⟨_, f1, _, f3, f4, f5⟩ := I2.fpOk (H' := fun _ => none) hb rfl
        exact ⟨Nat.le_trans I2.sz hb, f1, f4, f5⟩
      obtain ⟨d1, d2, d3, d4⟩ := old (Nat.le_refl s2.heap.objs.size)
      obtain ⟨c1, c2, c3, c4⟩ := old (b := C) (Nat.le_of_lt Dlt)
      have IY : Inv X pins σ (upd H3 s2.heap.objs.size (.ext fun h => Stb.SetN X.prog X.w h s2.heap.objs.size acc)) s4 := IX.track hD d1 d2 d3 d4 ⟨stay hDo5, ⟨ob, hDo5⟩, fun h1 h2 x k => x.at k⟩
      obtain ⟨m, hm, _⟩ := I5.loc
      rw [xL] at hm
      have hCn : H3 C = none := by have := I5.free; rw [xL] at this; exact this
      exact fin _ C _ s4 m IY (q _ hD) hm (by rw [upd_ne (Ne.symm DC)]; exact hCn) c2 c1 c3 c4
    · have := T.item X' xP xw xK xc i _ s3 σ3 H3 (fun _ _ => False) I3' (fpb fr3 plD) st3 go
      rw [xA] at this
      refine thn this fun r s4 ⟨u, hr, h4⟩ => ?_
      subst hr
      refine thn h4 fun _ s5 ⟨x, H5, I5, r5, y5, st5, fr5⟩ => ?_
      have hσn : ∀ (j : Nat) v, (List.replicate own.length none ++ σ)[j]? = some (some v) → σ3[j]? = some (some v) := fun j v e => by
        by_cases hlt : j < own.length
        · rw [List.getElem?_append_left (by simpa using hlt), List.getElem?_replicate, if_pos hlt] at e
          cases e
        · have hle := Nat.le_of_not_lt hlt
          rw [List.getElem?_append_right (by simpa using hle), List.length_replicate, ← hσ, List.getElem?_drop] at e
          rw [show own.length + (j - own.length) = j by lia] at e
          exact e
      have hlen : (List.replicate own.length none ++ σ).length = σ3.length := by
        have e1 : σ3.length = X'.N.length := I5.len
        have e2 := I4.len
        exact e2.trans e1.symm
      have I5w : Inv X' _ (List.replicate own.length none ++ σ) H5 s5 := I5.weak hlen hσn
      have I5p := I5w.pinned (fpb fr5 plD) (T.obj _ _ st5)
      have a1 := gg _ s5 _ H5 x u _ I5p r5 (step x H5 y5)
      rw [xP, xw, xA, xe] at a1
      refine thn a1 fun _ s6 ⟨σ6, H6, I6, d6, q6⟩ => ?_
      have a2 := gt _ s6 σ6 H6 _ I6 q6
      rw [xP, xw, xA, xe] at a2
      refine thn a2 fun b s7 ⟨H7, I7, q7⟩ => ?_
      have pin7 : ∀ {H : Hp} {s : Shared}, Inv X' ([((s2.heap.objs.size, ob) : Addr × Obj)] ++ pinsAt fp s5.heap) σ6 H s →
          (tn (i + 1) s.heap ∧ (∀ b ∈ fp, H b = none) ∧ H s2.heap.objs.size = none ∧ s.heap.get? s2.heap.objs.size = some ob ∧ Inv X' [] σ6 H s) := fun {H s} I => by
        refine ⟨T.keep _ _ _ st5 fun b hb o e => (I.pin (b, o) (List.mem_append_right _ (List.mem_append_right _ (mem_pinsAt hb e)))).1, fun b hb => ?_, ?_, ?_, I.pins_of fun p hp => by simp at hp⟩
        · obtain ⟨o, e, d⟩ := T.obj _ _ st5 b hb
          exact (I.pin (b, o) (List.mem_append_right _ (List.mem_append_right _ (mem_pinsAt hb e)))).2.1
        · exact (I.pin (s2.heap.objs.size, ob) (by rw [xpn]; simp)).2.1
        · exact (I.pin (s2.heap.objs.size, ob) (by rw [xpn]; simp)).1
      cases b with
      | false =>
        obtain ⟨p1, p2, p3, p4, p5⟩ := pin7 I7
        obtain ⟨m', hm, w7⟩ := q7
        exact ⟨m', hm, i + 1, acc, σ6, H7, ob, p5, d6, p1, p2, p3, p4, stay p4, w7⟩
      | true =>
        rw [if_pos rfl] at q7 ⊢
        have a4 := ge _ s7 σ6 H7 _ I7 q7
        rw [xP, xw, xA, xe] at a4
        refine thn a4 fun y2 s9 ⟨v2, H9, I9, r9, q9⟩ => ?_
        obtain ⟨p1, p2, p3, p4, p5⟩ := pin7 I9
        obtain ⟨kk, m', ek, hm, w8⟩ := q9
        subst ek
        obtain ⟨tk, rfl⟩ := (show ∃ t, y2 = Value.int kk t from r9)
        refine Stb.call_addN (stay p4) hsz fun h' hs S' => ?_
        obtain ⟨ob', es', ep', t', ho', r'⟩ := id S'
        have I10 : Inv X' [] σ6 H9 { s9 with heap := h', toks := s9.toks + 1 } := p5.turned (t' := s9.toks + 1) (fun b o hb e => hs.extBut b o hb e) p3 (by rw [xL]; exact DC) (.inr (by rw [xs]; exact Nat.le_refl _)) Dcell (fun p hp => by rw [xpn] at hp; simp at hp)
        exact ⟨m', hm, i + 1, _, σ6, H9, ob', I10, d6, T.keep _ _ _ p1 fun b hb o e => hs.extBut b o (fun z => Dfp (by rw [← z]; exact hb)) e, p2, p3, ho', S', w8⟩
  exact codeAny_compStart_setS (goal _ rfl) (T.self _ 0 _ _ _ st4 (goal _ rfl))
theorem eval_scomp (vx : Expr) (gens : List Comprehension) (scope : Scope) (pos : Pos) (env : Env) : eval (.SetComp vx gens scope pos) env = comprehension (.SetComp vx gens scope pos) scope env (firstIterPos gens pos) (newSet (.type "set")) (firstAsync gens) (firstIter gens env) := by
  first | rfl | (unfold eval; rfl) | (rw [eval]; rfl) | rw [eval]
def tSComp (P : Program) (w : World) (wi : TI) (own : Nat) (g : TG) (tt : TT) (tv : TE) : TE := fun σ H Q => wi σ H fun J H1 => ∃ W : Nat → Nat → List Int → Hp → Prop, (∃ m, W 0 m [] H1) ∧ ∀ i m acc H, W i m acc H →
  (J.stop i H ∧ acc.length ≤ 18 ∧ ∀ D, H D = none → Q (.ref D) (upd H D (.ext fun h => Stb.SetN P w h D acc))) ∨
  (J.go i H ∧ acc.length < 18 ∧ ∀ x H', J.yld i H x H' → g x (List.replicate own none ++ σ) H' fun σ2 H2 => σ2.drop own = σ ∧ tt σ2 H2 fun c H3 =>
    if c = true then tv σ2 H3 fun v H5 => ∃ k m', v = .int k ∧ m' < m ∧ W (i + 1) m' (if k ∈ acc then acc else k :: acc) H5 else ∃ m', m' < m ∧ W (i + 1) m' acc H3)
theorem pe_scomp {wi : TI} (ok : CompOk X scope M) (hc : X.calm = true) (hi : PI X tg iter wi) (hg : ∀ C s2 H2 fp, PG (cxComp X scope own M C s2 H2 fp) tg g) (ht : ∀ C s2 H2 fp, PTs (cxComp X scope own M C s2 H2 fp) ifs tt)
    (he : ∀ C s2 H2 fp, PE (cxComp X scope own M C s2 H2 fp) vx tv) (hs : ∀ x, foldedSetIterable iter X.env x = pure x := by intro _; rfl) :
    PE X (.SetComp vx [⟨tg, iter, ifs, 0⟩] scope pos) (tSComp X.prog X.w wi own.length g tt tv) := by
  intro pins s σ H Q I h
  rw [eval_scomp]
  refine wpAny_comprehension_free (use := none) rfl hs (clos_for (ok.cells I)) ok.kind (fun x hx hl => by rw [ok.uniq x hx, hl]) ?_
  refine thn (hi pins s σ H _ I h) fun v s1 h1 => thn h1 fun itv s2 h2 => ?_
  obtain ⟨it, fp, tn, J, H2, e, I2, T, st2, f2, W, w0, turn⟩ := h2
  subst e
  refine scomp_core (Qf := Q) ok hc hg ht he I2 T st2 f2 w0 turn fun D C H' s' m IY q hm hCn c2 c1 c3 c4 => ⟨m, hm, fun h' hs' => ?_⟩
  exact ⟨.ref D, H', IY.turned (t' := s'.toks) (fun b o hb e => hs'.extBut b o hb e) hCn c2 (.inr c1) c3 c4, rfl, q⟩
end
end L2
set_option maxRecDepth 100000
namespace L2
open PySem PySem.Spec PyProof.Rows
theorem attrs_snoc {ns : List Str} {xs : List V} {f : Str} {y : V} : ns.length = xs.length → f ∉ ns → putF f y (attrs ns xs) = attrs (ns ++ [f]) (xs ++ [y]) := by
  induction ns generalizing xs with
  | nil =>
    intro hl _
    have : xs = [] := List.length_eq_zero_iff.mp hl.symm
    subst this
    rfl
  | cons n ns ih =>
    intro hl hf
    cases xs with
    | nil => simp at hl
    | cons x xs =>
      have hn : ¬ n = f := fun z => hf (by rw [z]; exact List.mem_cons_self)
      show (if n = f then (n, y) :: attrs ns xs else (n, x) :: putF f y (attrs ns xs)) = (n, x) :: attrs (ns ++ [f]) (xs ++ [y])
      rw [if_neg hn, ih (by simpa using hl) fun z => hf (List.mem_cons_of_mem _ z)]
theorem attrs_len {ns : List Str} {xs : List V} (h : ns.length = xs.length) : (attrs ns xs).length = ns.length := by
  unfold attrs
  rw [List.length_zipWith]
  lia
def atN {α : Type} : List Str → List α → Str → Option α
  | n :: ns, e :: es, f => if n = f then some e else atN ns es f
  | _, _, _ => none
theorem atN_lookup {f : Str} : ∀ {ns : List Str} {xs : List V}, (attrs ns xs).lookup f = atN ns xs f
  | [], xs => by simp [attrs, atN]
  | n :: ns, [] => by simp [attrs, atN]
  | n :: ns, x :: xs => by
    show List.lookup f ((n, x) :: attrs ns xs) = if n = f then some x else atN ns xs f
    by_cases h : n = f
    · subst h; simp [List.lookup]
    · have hb : (f == n) = false := beq_eq_false_iff_ne.mpr fun z => h z.symm
      rw [if_neg h, List.lookup, hb]
      exact atN_lookup
theorem atN_none {f : Str} : ∀ {ns : List Str} {xs : List V}, f ∉ ns → atN ns xs f = none
  | [], xs, _ => by simp [atN]
  | n :: ns, [], _ => by simp [atN]
  | n :: ns, x :: xs, h => by
    unfold atN
    rw [if_neg fun z => h (by rw [z]; exact List.mem_cons_self)]
    exact atN_none fun z => h (List.mem_cons_of_mem _ z)
theorem atN_rep {K : PySem.W.Frag} {G : Option Addr} {Z : Addr → Prop} {H : Hp} {f : Str} {d : D} : ∀ {ns : List Str} {es : List D} {xs : List V}, Reps K G Z H es xs → atN ns es f = some d → ∃ v, atN ns xs f = some v ∧ Rep K G Z H d v
  | [], _, _, _, e => by simp [atN] at e
  | _ :: _, [], _, _, e => by simp [atN] at e
  | n :: ns, c :: es, xs, r, e => by
    obtain ⟨v, r', rfl, q, t⟩ := r.split
    unfold atN at e ⊢
    by_cases h : n = f
    · rw [if_pos h] at e ⊢; cases e; exact ⟨v, rfl, q⟩
    · rw [if_neg h] at e ⊢; exact atN_rep t e
section
variable {A : AC} {X : Cx} {C : Addr} {a e : Expr} {ta te : TD} {pos pos' : Pos} {f : Str}
def dFld (C : Addr) (f : Str) (t : TD) : TD := fun rho n P => t rho n fun d n' => ∃ ns ds e, d = .ob C ns ds ∧ atN ns ds f = some e ∧ P e n'
theorem pd_fld (c : Cls X.K C) (na : NoAttr X.K C f) (ha : PD A X a ta) (hb : attributeBase a f X.env (eval a X.env) = eval a X.env := by rfl) : PD A X (.Attribute a f pos) (dFld C f ta) := by
  with_unfolding_all
    exact (pe_fld ha hb).imp fun sg H Q h => by
      obtain ⟨rho, n, P, ds, vs, I, ht, hQ⟩ := h
      refine ⟨rho, n, _, ds, vs, I, ht, fun v H' n' d ⟨os, J⟩ k => ?_⟩
      obtain ⟨ns, es, d', rfl, ha, k⟩ := k
      obtain ⟨J1, r⟩ := J.pop
      unfold Rep at r
      obtain ⟨p, dx, xs, rfl, ⟨_, hp⟩, hl, rs⟩ := r
      obtain ⟨u, hu, ru⟩ := atN_rep rs ha
      exact ⟨p, C, dx, _, u, rfl, hp, c, na, by rw [atN_lookup]; exact hu, hQ u H' n' d' ⟨os, J1.push ru⟩ k⟩
def dFldO (C : Addr) (i : Nat) (f : Str) : TD := fun rho n P => ∃ p ns ds e, rho[i]? = some (some (.oi p C ns ds)) ∧ atN ns ds f = some e ∧ P e n
theorem pd_fldO {i : Nat} {x : Str} {xp : Pos} (c : Cls X.K C) (na : NoAttr X.K C f) (hN : X.N[i]? = some x := by rfl) (hv : Vis X.env.scope x := by first | exact Or.inl rfl | exact Or.inr (Or.inl rfl) | exact Or.inr (Or.inr rfl)) (hd : (x == ("__debug__" : Str)) = false := by decide)
    (hcd : (x == ("__classdict__" : Str)) = false := by decide) (hb : attributeBase (.Name x xp) f X.env (eval (.Name x xp) X.env) = eval (.Name x xp) X.env := by rfl) : PD A X (.Attribute (.Name x xp) f pos) (dFldO C i f) := by
  with_unfolding_all
    exact (pe_fld (pe_var hN hv hd hcd) hb).imp fun sg H Q h => by
      obtain ⟨rho, n, P, ds, vs, ⟨os, I⟩, ⟨p, ns, es, d', hr, ha, k⟩, hQ⟩ := h
      obtain ⟨v, e1, dx, xs, rfl, hm, hp, hl, rs⟩ := I.slot i _ hr
      obtain ⟨u, hu, ru⟩ := atN_rep rs ha
      exact ⟨_, e1, p, C, dx, _, u, rfl, hp, c, na, by rw [atN_lookup]; exact hu, hQ u H n d' ⟨os, I.push ru⟩ k⟩
theorem AmO.setFld {os : List (Nat × Addr)} {n : Nat} {rho : Rho} {sg : St} {H : Hp} {ds es : List D} {vs xs : List V} {d : D} {v : V} {i : Nat} {p dx : Addr} {ns : List Str} (I : AmO A os n rho sg H (d :: ds) (v :: vs)) (hr : rho[i]? = some (some (.oi p C ns es)))
    (hs : sg[i]? = some (some (.ref p))) (hm : (i, p) ∈ os) (hl : ns.length = xs.length) (rs : Reps A.K A.G (Zof A os) H es xs) : AmO A os n (rho.set i (some (.oi p C (ns ++ [f]) (es ++ [d])))) sg (upd H p (.ins C dx (attrs (ns ++ [f]) (xs ++ [v])))) ds vs := by
  obtain ⟨J, rv⟩ := I.pop
  have zp : Zof A os p := .inr ⟨(i, p), hm, rfl⟩
  have hf : ∀ a o, ¬ Zof A os a → H a = some o → upd H p (.ins C dx (attrs (ns ++ [f]) (xs ++ [v]))) a = some o := fun a o nz e => by rw [upd_ne fun z => nz (by rw [z]; exact zp)]; exact e
  obtain ⟨f1, f2, f3⟩ := J.fresh _ hm
  have hi : i < rho.length := (List.getElem?_eq_some_iff.mp hr).1
  refine ⟨by simp [J.len], fun j c e => ?_, Reps.mono (fun _ _ z => z) hf _ _ J.pend, J.nd, fun q hq => ?_, fun a e => ?_, J.gz, fun a o h e => ?_, J.z0⟩
  · by_cases hj : j = i
    · subst hj
      rw [List.getElem?_set_self hi] at e
      cases e
      exact ⟨_, hs, dx, _, rfl, hm, upd_same, by simp [hl], (Reps.mono (fun _ _ z => z) hf _ _ rs).append (.cons (Rep.mono (fun _ _ z => z) hf _ _ rv) .nil)⟩
    · rw [List.getElem?_set_ne (Ne.symm hj)] at e
      obtain ⟨u, e1, e2⟩ := J.slot j c e
      refine ⟨u, e1, SlotR.mono (fun _ _ z => z) hf (fun a ys m q => ⟨m, ?_⟩) _ _ e2⟩
      have ne : a ≠ p := fun z => by
        subst z
        have : ∀ (l : List (Nat × Addr)), (l.Pairwise fun p q => p.1 ≠ q.1 ∧ p.2 ≠ q.2) → (j, a) ∈ l → (i, a) ∈ l → j = i := by
          intro l
          induction l with
          | nil => intro _ h; simp at h
          | cons b l ih =>
            intro hp h1 h2
            obtain ⟨hp1, hp2⟩ := List.pairwise_cons.mp hp
            rcases List.mem_cons.mp h1 with e1 | k1 <;> rcases List.mem_cons.mp h2 with e2 | k2
            · rw [← e2] at e1; exact (Prod.mk.inj e1).1
            · exact absurd (by rw [← e1]) (hp1 _ k2).2
            · exact absurd (by rw [← e2]) (hp1 _ k1).2
            · exact ih hp2 k1 k2
        exact hj (this os J.nd m hm)
      rw [upd_ne ne]; exact q
  · obtain ⟨g1, g2, g3⟩ := J.fresh q hq
    refine ⟨g1, g2, ?_⟩
    by_cases z : q.2 = p
    · rw [z, upd_same]; exact Hot.ins
    · rw [upd_ne z]; exact g3
  · obtain ⟨zs, z1, z2, q, r⟩ := J.st a e
    exact ⟨zs, z1, z2, by rw [upd_ne fun z => f2 (by rw [← z]; exact J.gz _ e)]; exact q, r⟩
  · rw [upd_ne fun z => by rw [z, f1] at e; cases e]
    exact J.fr a o h e
def sFldD (C : Addr) (i : Nat) (f : Str) (te : TD) : TSD := fun F rho n => te rho n fun d n' => ∃ p ns ds, rho[i]? = some (some (.oi p C ns ds)) ∧ f ∉ ns ∧ ns.length < 1000 ∧ F.nx (rho.set i (some (.oi p C (ns ++ [f]) (ds ++ [d])))) n'
theorem psd_fld {i : Nat} {x : Str} {xp tp : Pos} (c : Cls X.K C) (na : NoAttr X.K C f) (he : PD A X e te) (hN : X.N[i]? = some x := by rfl) (hv : Vis X.env.scope x := by first | exact Or.inl rfl | exact Or.inr (Or.inl rfl) | exact Or.inr (Or.inr rfl)) (hd : (x == ("__debug__" : Str)) = false := by decide)
    (hcd : (x == ("__classdict__" : Str)) = false := by decide) (hs : swapsWith e (some (.Attribute (.Name x xp) f tp)) pos.line X.env = pure false := by rfl) : PSD A X (.Assign [.Attribute (.Name x xp) f tp] e pos) (sFldD C i f te) := by
  with_unfolding_all
    exact (ps_fld (pe_var hN hv hd hcd) he hs).imp fun E sg H h => by
      obtain ⟨rho, n, F, ds, vs, I, ht, ok⟩ := h
      refine ⟨rho, n, _, ds, vs, I, ht, fun v H' n' d ⟨os, J⟩ k => ?_⟩
      obtain ⟨p, ns, es, hr, hf, hl, k⟩ := k
      obtain ⟨w', e1, dx, xs, rfl, hm, hp, hll, rs⟩ := J.slot i _ hr
      refine ⟨_, e1, p, C, dx, attrs ns xs, rfl, hp, c, na, by rw [attrs_len hll]; exact hl, ?_⟩
      rw [attrs_snoc hll hf]
      exact ok.nx _ _ _ _ ⟨os, J.setFld hr e1 hm hll rs⟩ k
def dMem : TD := fun _ n P => ∃ F, P (.mem F) n
theorem mem_empty {P : Program} {w : World} {H : Hp} {C : Addr → List Int → Prop} {F : List Int → List Int → Prop} (h : Heap) (hb : sysModules < h.objs.size) : ObjOk P w H (h.push { cls := .type "dict", data := .dict #[] }) h.objs.size (.mem C F []) :=
  ⟨[], ⟨beq_eq_false_iff_ne.mpr (Ne.symm (Nat.ne_of_lt hb)), Nat.zero_le _, List.nodup_nil, _, #[], 0, Heap.get?_push_size _ rfl, ⟨rfl, rfl, rfl⟩, rfl, rfl⟩, fun x hx => (by simp at hx), fun k hk => (by simp at hk)⟩
theorem pd_memNew : PD A X (.Dict [] [] pos) dMem := by
  with_unfolding_all
    exact fun pins s sg H Q I0 h => by
      obtain ⟨rho, n, P, ds, vs, ⟨os, I⟩, ⟨F, k⟩, hQ⟩ := h
      have hp : H s.heap.objs.size = none := I0.hok.fresh (Nat.le_refl _)
      refine wpAny_Dict_empty ⟨.ref s.heap.objs.size, _, I0.laid (a := s.heap.objs.size) (o := .mem (cInt A.K) F []) (t' := s.toks) (fun _ _ q => Heap.get?_push_of_some _ q) (Nat.le_refl _) (mem_empty s.heap I0.big), rfl, hQ _ _ n _ ⟨os, ?_⟩ k⟩
      exact (I.grow (o := .mem (cInt A.K) F []) hp).push (by unfold Rep; exact ⟨_, rfl, fun z => I.zH _ z hp, upd_same⟩)
structure Mth (P : Program) (w : World) (K : PySem.W.Frag) (mg : Str → Option Value) (base : Heap) (C : Addr) (m : Str) (kk k : Nat) (t : TF) : Prop where
  ex : ∃ (g : Addr) (fd : FuncData) (ps : List Str), FnOk P w K mg base CX0 kk g fd ps (spD K (k + 1) t) ∧ Meth K C m g ∧ Cls K C ∧ Binds K fd ps []
def dMeth (C : Addr) (m : Str) (k : Nat) (t : TF) (ta : TD) (t1 : TAD) : TD := fun rho n P => ta rho n fun d n1 => ∃ ns ds, d = .ob C ns ds ∧ m ∉ ns ∧ t1 rho n1 fun es n2 => es.length = k ∧ t (d :: es) n2 P
theorem pd_meth {m : Str} {kk k : Nat} {t : TF} {t1 : TAD} {b : Expr} {es : List Expr} {apos : Pos} {pl : Sem Bool} (M : Mth X.prog X.w X.K X.mg X.base C m kk k t) (hr : Room kk X.A) (hK : X.K = A.K) (ha : PD A X a ta) (h1 : PAD A X (b :: es) t1)
    (hst : starEach (b :: es) X.env = (false, eval b X.env) :: starEach es X.env := by rfl) (hpl : (backTo pos (starEach es X.env)).any (·.1) = false := by rfl)
    (ht : eval (.Call (.Attribute a m apos) (b :: es) [] pos) X.env = (do
      let ov ← eval a X.env
      standAt apos.atName
      let (f, first) ← holding [ov] (getMethod ov m pl)
      callWith pos f first (backTo pos (starEach (b :: es) X.env)) (backToKw pos (keywordEach [] X.env))) := by rfl) :
    PD A X (.Call (.Attribute a m apos) (b :: es) [] pos) (dMeth C m k t ta t1) := by
  obtain ⟨g, fd, ps, F, hm, c, hb⟩ := M.ex
  with_unfolding_all
    exact (pe_meth (pl := pl) ha c hm F hr hb .nil pass0 h1 hst hpl ht).imp fun sg H Q h => by
      obtain ⟨rho, n, R, ds, vs, I, ht, hQ⟩ := h
      refine ⟨rho, n, _, ds, vs, I, ht, fun v H' n' d ⟨os, J⟩ k => ?_⟩
      obtain ⟨ns, es', rfl, hn, k⟩ := k
      have r := J.pop.2
      unfold Rep at r
      obtain ⟨p, dx, xs, rfl, ⟨_, hp⟩, hl, rs⟩ := r
      refine ⟨p, dx, _, rfl, hp, by rw [atN_lookup]; exact atN_none hn, rho, n', _, .ob C ns es' :: ds, .ref p :: vs, ⟨os, J⟩, k, fun ws H2 n2 es2 ⟨os2, J2⟩ hl2 k2 => ?_⟩
      obtain ⟨J3, rs2⟩ := J2.split hl2
      obtain ⟨J4, r2⟩ := J3.pop
      rw [List.append_nil, hK]
      exact ⟨A.G, Zof A os2, n2, R, .ob C ns es' :: es2, by rw [List.length_cons, k2.1], .cons r2 rs2, J4.st, fun a z => .inl (J4.gz a z), J4.zHot, k2.2, fun v H3 n3 d fr st r q => hQ v H3 n3 d ⟨os2, (J4.called fr st).push r⟩ q⟩
end
end L2
set_option maxRecDepth 100000
namespace L2
open PySem PySem.Spec PyProof.Rows
def offH (H : Hp) (p : Addr) : Hp := fun a => if a = p then none else H a
theorem offH_p {H : Hp} {p : Addr} : offH H p p = none := by unfold offH; rw [if_pos rfl]
theorem offH_ne {H : Hp} {p a : Addr} (h : a ≠ p) : offH H p a = H a := by unfold offH; rw [if_neg h]
theorem offH_some {H : Hp} {p a : Addr} {o : HO} (h : offH H p a = some o) : a ≠ p ∧ H a = some o := by
  by_cases e : a = p
  · rw [e, offH_p] at h; cases h
  · exact ⟨e, by rw [offH_ne e] at h; exact h⟩
abbrev TFI := List D → Nat → (List Str → List D → Nat → Prop) → Prop
def spI (K : PySem.W.Frag) (C : Addr) (k : Nat) (t : TFI) : Sp := fun vs H Q _ => ∃ (G : Option Addr) (Z : Addr → Prop) (n : Nat) (P : List Str → List D → Nat → Prop) (ds : List D) (p dx : Addr) (ws : List V), vs = .ref p :: ws ∧ H p = some (.ins C dx []) ∧ ds.length = k ∧ Reps K G Z (offH H p) ds ws ∧
  StOk G n H ∧ (∀ a, G = some a → Z a) ∧ (∀ a, Z a → Hot (offH H p a)) ∧ t ds n P ∧
  ∀ H' n' ns es xs dx', (∀ a o, a ≠ p → G ≠ some a → H a = some o → H' a = some o) → StOk G n' H' → H' p = some (.ins C dx' (attrs ns xs)) → ns.length = xs.length → Reps K G Z H' es xs → P ns es n' → Q .non H'
section
variable {P : Program} {w : World} {K : PySem.W.Frag} {mg : Str → Option Value} {base : Heap}
theorem Fun.okI {x qual : Str} {st : Stmt} {f C : Addr} {fd : FuncData} {N ps : List Str} {sf : Str} {k : Nat} {t : TFI} {tb : TSD} (F : Fun K x qual st f fd) (S : FnScope N (sf :: ps) (defScope st))
    (body : ∀ (cdv : Value) (A0 : Around) (outer : List Env) (s : Shared) (H H0 : Hp) (E : XK) (G : Option Addr) (Z : Addr → Prop), Room k (A0.deeper (envOfC qual (defScope st) s.heap.objs.size f cdv)) →
      PSsD ⟨K, G, Z, H0⟩ (cxOf CX0 P w K mg base N qual (defScope st) f cdv A0 outer s H E).nox (defBody st) tb)
    (spec : ∀ p ds n Q, ds.length = ps.length → t ds n Q → tb { nx := fun rho n => ∃ ns es, rho[0]? = some (some (.oi p C ns es)) ∧ Q ns es n, rt := fun _ _ => False } (startD N (.oi p C [] [] :: ds)) n) : FnOk P w K mg base CX0 (k + 1) f fd (sf :: ps) (spI K C ps.length t) := by
  with_unfolding_all
    exact (by
      refine F.ok S (fun vs H Q E h => ?_) (fun cdv A0 outer s H vs Q E hr h => ?_)
      · obtain ⟨G, Z, n, R, ds, p, dx, ws, rfl, _, hl, rs, _⟩ := h
        rw [List.length_cons, rs.length, hl, List.length_cons]
      · obtain ⟨G, Z, n, R, ds, p, dx, ws, rfl, hp, hl, rs, hst, gz, z0, ht, hQ⟩ := h
        have hlen := rs.length
        have nzp : ¬ Z p := fun z => (z0 p z).ne offH_p
        have sub : ∀ a, offH H p a ≠ none → Zof ⟨K, G, Z, offH H p⟩ [(0, p)] a → Z a := fun a ha z => by
          rcases z with z | ⟨q, hq, e⟩
          · exact z
          · have : q = (0, p) := by simpa using hq
            subst this
            rw [← e] at ha
            exact absurd offH_p ha
        have rs' : Reps K G (Zof ⟨K, G, Z, offH H p⟩ [(0, p)]) H ds ws := Reps.mono sub (fun a o _ e => (offH_some e).2) _ _ rs
        have I0 : AmO ⟨K, G, Z, offH H p⟩ [(0, p)] n (startD N (.oi p C [] [] :: ds)) (start N (.ref p :: ws)) H [] [] := by
          refine ⟨by simp [startD, start, hlen], fun i d e => ?_, .nil, by simp, fun q hq => ?_, hst, gz, fun a o _ e => (offH_some e).2, z0⟩
          · cases i with
            | zero =>
              cases e
              exact ⟨.ref p, rfl, dx, [], rfl, by simp, hp, rfl, .nil⟩
            | succ i =>
              have e' : (ds.map some ++ List.replicate (N.length - (ds.length + 1)) none)[i]? = some (some d) := e
              by_cases hi : i < ds.length
              · rw [List.getElem?_append_left (by simpa using hi), List.getElem?_map] at e'
                cases q : ds[i]? with
                | none => rw [q] at e'; cases e'
                | some c =>
                  rw [q] at e'
                  cases e'
                  obtain ⟨v, e1, r⟩ := rs'.get q
                  refine ⟨v, ?_, SlotR.of r⟩
                  show ((V.ref p :: ws).map some ++ List.replicate _ none)[i + 1]? = _
                  rw [List.map_cons, List.cons_append, List.getElem?_cons_succ, List.getElem?_append_left (by rw [List.length_map, hlen]; exact hi), List.getElem?_map, e1]
                  rfl
              · rw [List.getElem?_append_right (by simpa using hi), List.getElem?_replicate] at e'
                split at e' <;> cases e'
          · have : q = (0, p) := by simpa using hq
            subst this
            exact ⟨offH_p, nzp, by show Hot (H p); rw [hp]; exact Hot.ins⟩
        refine ⟨_, body cdv A0 outer s H (offH H p) E G Z hr, startD N (.oi p C [] [] :: ds), n, _, [], [], ⟨_, I0⟩, spec p ds n R hl ht, ?_⟩
        refine ⟨fun rho' n' sg' H' ⟨os, I⟩ q => ?_, fun d n' v rho' sg' H' ⟨os, I⟩ q => q.elim, fun _ _ _ _ _ q => q.elim, fun _ _ _ _ _ q => q.elim⟩
        obtain ⟨ns, es, hr0, q⟩ := q
        obtain ⟨v, e1, dx', xs, _, _, hp', hl', rs2⟩ := I.slot 0 _ hr0
        exact hQ H' n' ns es xs dx' (fun a o ne hg e => I.fr a o hg ((offH_ne ne).trans e)) I.st hp' hl' (Reps.mono (fun a _ z => .inl z) (fun _ _ _ e => e) _ _ rs2) q)
end
structure Mke (P : Program) (w : World) (K : PySem.W.Frag) (mg : Str → Option Value) (base : Heap) (C : Addr) (x : Str) (kk k : Nat) (t : TFI) : Prop where
  ex : ∃ (f : Addr) (fd : FuncData) (ps : List Str), FnOk P w K mg base CX0 kk f fd ps (spI K C k t) ∧ Mk K C f ∧ mg x = some (.ref C) ∧ Binds K fd ps []
section
variable {A : AC} {X : Cx} {C : Addr} {e : Expr} {es : List Expr} {t1 : TAD} {pos p : Pos}
def dMake (C : Addr) (k : Nat) (t : TFI) (t1 : TAD) : TD := fun rho n P => t1 rho n fun es n1 => es.length = k ∧ t es n1 fun ns ds n2 => P (.ob C ns ds) n2
theorem pd_make {x : Str} {kk k : Nat} {t : TFI} (M : Mke X.prog X.w X.K X.mg X.base C x kk k t) (hr : Room (kk + 1) X.A) (hK : X.K = A.K) (ha : PAD A X (e :: es) t1) (hg : Gl X x := by rfl) (hdb : (x == ("__debug__" : Str)) = false := by decide)
    (he : starEach (e :: es) X.env = (false, eval e X.env) :: starEach es X.env := by rfl) (hpl : (backTo pos (starEach es X.env)).any (·.1) = false := by rfl) : PD A X (.Call (.Name x p) (e :: es) [] pos) (dMake C k t t1) := by
  obtain ⟨f, fd, ps, F, M, hm, hb⟩ := M.ex
  with_unfolding_all
    exact (pe_make M F hr hg hm hb .nil pass0 ha hdb he hpl).imp fun sg H Q h => by
      obtain ⟨rho, n, R, ds, vs, I, ht, hQ⟩ := h
      refine ⟨rho, n, _, ds, vs, I, ht, fun ws H1 n1 es1 ⟨os, J⟩ hl k => ?_⟩
      obtain ⟨J1, rs⟩ := J.split hl
      intro x dx nx ndx nxd
      rw [List.append_nil, hK]
      have sm : ∀ a o, H1 a = some o → (upd (upd H1 dx (.own x)) x (.ins C dx [])) a = some o := fun a o e => by
        rw [upd_ne (fun z => by rw [z, nx] at e; cases e), upd_ne (fun z => by rw [z, ndx] at e; cases e)]; exact e
      have so : ∀ a o, H1 a = some o → offH (upd (upd H1 dx (.own x)) x (.ins C dx [])) x a = some o := fun a o e => by
        rw [offH_ne (fun z => by rw [z, nx] at e; cases e)]; exact sm a o e
      refine ⟨A.G, Zof A os, n1, _, es1, x, dx, ws, rfl, upd_same, k.1, Reps.mono (fun _ _ z => z) (fun a o _ e => so a o e) _ _ rs, fun a e => ?_, fun a z => .inl (J1.gz a z), fun a z => (J1.zHot a z).of fun o e => so a o e, k.2, fun H2 n2 ns ds2 xs dx' fr st hp hlx r q => ?_⟩
      · obtain ⟨zs, z1, z2, q, r⟩ := J1.st a e
        exact ⟨zs, z1, z2, sm _ _ q, r⟩
      · have fr' : ∀ a o, A.G ≠ some a → H1 a = some o → H2 a = some o := fun a o hg e => fr a o (fun z => by rw [z, nx] at e; cases e) hg (sm a o e)
        refine ⟨rfl, hQ _ H2 n2 _ ⟨os, (J1.called fr' st).push ?_⟩ q⟩
        unfold Rep
        exact ⟨x, dx', xs, rfl, ⟨fun z => J1.zH x z nx, hp⟩, hlx, r⟩
end
end L2
set_option maxRecDepth 100000
namespace L2
open PySem PySem.Spec PyProof.Rows
def kLn (k : List Int) : List Key := k.map Sum.inl
theorem kLn_vals (k : List Int) : (kLn k).map kV = k.map V.int := by unfold kLn; rw [List.map_map]; rfl
theorem kLn_inj {x y : List Int} (h : kLn x = kLn y) : x = y := by
  unfold kLn at h
  induction x generalizing y with
  | nil => cases y with | nil => rfl | cons => simp at h
  | cons a x ih =>
    cases y with
    | nil => simp at h
    | cons b y =>
      simp only [List.map_cons, List.cons.injEq, Sum.inl.injEq] at h
      rw [h.1, ih h.2]
def memL (xs : List (List Int × Addr × Addr)) : List (List Key × Addr × Value) := xs.map fun x => (kLn x.1, x.2.1, Value.ref x.2.2)
theorem memL_at {k : List Int} : ∀ {xs : List (List Int × Addr × Addr)}, (xs.map (·.1)).Nodup → ((atKey (memL xs) (kLn k)).isSome = true ↔ k ∈ xs.map (·.1)) ∧ ∀ p, atKey (memL xs) (kLn k) = some p → ∃ x ∈ xs, x.1 = k ∧ p = (x.2.1, Value.ref x.2.2)
  | [], _ => ⟨by simp [memL, atKey], fun p h => by simp [memL, atKey] at h⟩
  | x :: xs, h => by
    obtain ⟨h1, h2⟩ := List.nodup_cons.mp (by simpa using h : (x.1 :: xs.map (·.1)).Nodup)
    obtain ⟨i1, i2⟩ := memL_at (k := k) h2
    have e : atKey (memL (x :: xs)) (kLn k) = if x.1 = k then some (x.2.1, Value.ref x.2.2) else atKey (memL xs) (kLn k) := by
      unfold atKey
      rw [show memL (x :: xs) = (kLn x.1, x.2.1, Value.ref x.2.2) :: memL xs from rfl, List.find?_cons]
      by_cases c : x.1 = k
      · rw [if_pos c, c]; simp
      · rw [if_neg c, decide_eq_false (fun z => c (kLn_inj z))]
    rw [e]
    by_cases c : x.1 = k
    · rw [if_pos c]
      refine ⟨by simp [c], fun p hp => ?_⟩
      cases hp
      exact ⟨x, by simp, c, rfl⟩
    · rw [if_neg c]
      refine ⟨i1.trans (by simp [List.map_cons, show ¬ k = x.1 from fun z => c z.symm]), fun p hp => ?_⟩
      obtain ⟨y, hy, q⟩ := i2 p hp
      exact ⟨y, List.mem_cons_of_mem _ hy, q⟩
section
variable {X : Cx} {pins : List (Addr × Obj)} {σ : St} {H : Hp} {s : Shared} {a b : Addr} {B : Around} {E : Value → Shared → Prop} {k : List Int} {F : List Int → List Int → Prop} {hits : List (List Int)}
theorem keyM_sq {k : List Key} (I : Inv X pins σ H s) (h : SqT X.K H b (k.map kV)) : (tupleKind (mixKind X.prog X.w)).is s.heap k b := by
  obtain ⟨its, r, ⟨o, h1, h2, n, h3⟩, _⟩ := I.tuple h
  exact ⟨o, its.toArray, n, h1, h2, h3, by simpa using items_are r⟩
theorem MemT.sq {ys : List Int} (h : MemT H (cInt X.K) b ys) : SqT X.K H b (ys.map V.int) := by
  rcases h with h | h
  · exact .inl h
  · exact SqT.anyH h
theorem MemT.of {ys : List Int} (h : SqT X.K H b (ys.map V.int)) : MemT H (cInt X.K) b ys := by
  rcases h with h | h
  · exact .inl h
  · exact .inr (.inr h)
theorem mem_dict (I : Inv X pins σ H s) (e : H a = some (.mem (cInt X.K) F hits)) : ∃ xs, MemAt X.prog X.w s.heap a xs ∧ (∀ x ∈ xs, MemT H (cInt X.K) x.2.1 x.1 ∧ ∃ ys, MemT H (cInt X.K) x.2.2 ys ∧ F x.1 ys) ∧ (∀ k ∈ hits, k ∈ xs.map (·.1)) ∧ s.heap.DictOfH (tupleKind (mixKind X.prog X.w)) a (memL xs) := by
  obtain ⟨xs, m, r, q⟩ := (show ObjOk X.prog X.w H s.heap a (.mem (cInt X.K) F hits) from I.hok a _ e)
  obtain ⟨o, es, ep, h1, h2, h3, h4⟩ := m.obj
  refine ⟨xs, m, r, q, o, es, ep, h1, h2, h3, by rw [h4]; unfold memL; rw [List.map_map]; rfl, fun x hx => ?_, ?_⟩
  · obtain ⟨y, hy, rfl⟩ := List.mem_map.mp hx
    exact keyM_sq I (by rw [kLn_vals]; exact (r y hy).1.sq)
  · have nd := m.nd
    unfold memL
    rw [List.map_map, List.nodup_iff_pairwise_ne, List.pairwise_map]
    rw [List.nodup_iff_pairwise_ne, List.pairwise_map] at nd
    exact nd.imp fun hne z => hne (kLn_inj z)
theorem Inv.memo {hits' : List (List Int)} (I : Inv X pins σ H s) (e : H a = some (.mem (cInt X.K) F hits)) {h' : Heap} {t' : Nat} (sb : Heap.SameBut a s.heap h') {xs : List (List Int × Addr × Addr)} (m : MemAt X.prog X.w h' a xs) (r : ∀ x ∈ xs, MemT H (cInt X.K) x.2.1 x.1 ∧ ∃ ys, MemT H (cInt X.K) x.2.2 ys ∧ F x.1 ys) (q : ∀ k ∈ hits', k ∈ xs.map (·.1)) :
    Inv X pins σ (upd H a (.mem (cInt X.K) F hits')) { s with heap := h', toks := t' } := by
  obtain ⟨o, _, _, ho, _⟩ := m.obj
  have over : ∀ c ys, MemT H (cInt X.K) c ys → MemT (upd H a (.mem (cInt X.K) F hits')) (cInt X.K) c ys := fun c ys h => h.imp (Or.imp (fun h => by rw [upd_ne fun z => by rw [z, e] at h; cases h]; exact h) fun ⟨o, h⟩ => ⟨o, by rw [upd_ne fun z => by rw [z, e] at h; cases h]; exact h⟩) id
  exact d_write I (by rw [e]; exact True.intro) sb ⟨o, ho⟩ ⟨xs, m, fun x hx => ⟨over _ _ (r x hx).1, let ⟨ys, h1, h2⟩ := (r x hx).2; ⟨ys, over _ _ h1, h2⟩⟩, q⟩
theorem upd_id {o : HO} (e : H a = some o) : upd H a o = H := by
  funext b
  by_cases h : b = a
  · rw [h, upd_same, e]
  · rw [upd_ne h]
theorem m_notIn {Q : Value → Shared → Prop} (hu : B.units + 1 < cLine) (I : Inv X pins σ H s) (e : H a = some (.mem (cInt X.K) F [])) (eb : SqT X.K H b (k.map V.int)) (h1 : ∀ s', Inv X pins σ H s' → Q (.bool true) s')
    (h2 : ∀ s', Inv X pins σ (upd H a (.mem (cInt X.K) F [k])) s' → Q (.bool false) s') : wpAny (model X.prog X.w) B (compareOp .NotIn (.ref b) (.ref a)) Q E s := by
  obtain ⟨xs, m, r, q, dd⟩ := mem_dict I e
  refine wpAny_notIn_heap (tupleKind_room_in1 hu) (keyM_sq (k := kLn k) I (by rw [kLn_vals]; exact eb)) m.sys dd ?_
  cases c : (atKey (memL xs) (kLn k)).isSome with
  | false => exact h1 _ (I.tok _)
  | true =>
    have hk := (memL_at (k := k) m.nd).1.mp c
    refine h2 _ ?_
    exact (I.tok _).memo (t' := _) e (Heap.SameBut.refl _ _) m r fun y hy => by rw [List.mem_singleton.mp hy]; exact hk
theorem memL_put {xs : List (List Int × Addr × Addr)} {c : Addr} : ∃ xs' : List (List Int × Addr × Addr), memL xs' = storedH (memL xs) (kLn k) b (.ref c) ∧ k ∈ xs'.map (·.1) ∧ ∀ x ∈ xs', (x ∈ xs) ∨ (x.1 = k ∧ x.2.2 = c ∧ (x.2.1 = b ∨ ∃ y ∈ xs, y.1 = k ∧ y.2.1 = x.2.1)) := by
  unfold storedH
  by_cases h : (atKey (memL xs) (kLn k)).isSome = true
  · rw [if_pos h]
    refine ⟨xs.map fun x => if x.1 = k then (x.1, x.2.1, c) else x, ?_, ?_, fun x hx => ?_⟩
    · unfold memL
      rw [List.map_map, List.map_map]
      refine List.map_congr_left fun x _ => ?_
      by_cases e : x.1 = k
      · simp [putAt, e, Function.comp]
      · have e2 : ¬ kLn x.1 = kLn k := fun z => e (kLn_inj z)
        simp [putAt, e, e2, Function.comp]
    · have : ∃ p, atKey (memL xs) (kLn k) = some p := Option.isSome_iff_exists.mp h
      obtain ⟨p, hp⟩ := this
      unfold atKey at hp
      obtain ⟨y, hy, _⟩ := Option.map_eq_some_iff.mp hp
      have m := List.mem_of_find?_eq_some hy
      have q := List.find?_some hy
      obtain ⟨x, hx, rfl⟩ := List.mem_map.mp m
      have e : x.1 = k := kLn_inj (by simpa using q)
      rw [List.map_map]
      exact List.mem_map.mpr ⟨x, hx, by simp [e]⟩
    · obtain ⟨y, hy, rfl⟩ := List.mem_map.mp hx
      by_cases e : y.1 = k
      · rw [if_pos e]; exact .inr ⟨e, rfl, .inr ⟨y, hy, e, rfl⟩⟩
      · rw [if_neg e]; exact .inl hy
  · rw [if_neg h]
    refine ⟨xs ++ [(k, b, c)], by unfold memL; rw [List.map_append]; rfl, by simp, fun x hx => ?_⟩
    rcases List.mem_append.mp hx with hx | hx
    · exact .inl hx
    · rw [List.mem_singleton.mp hx]; exact .inr ⟨rfl, rfl, .inl rfl⟩
theorem m_put {c : Addr} {ys : List Int} {L : List (List Int)} {Q : Unit → Shared → Prop} (hu : B.units + 1 < cLine) (I : Inv X pins σ H s) (e : H a = some (.mem (cInt X.K) F [])) (eb : SqT X.K H b (k.map V.int)) (ec : SqT X.K H c (ys.map V.int)) (hF : F k ys)
    (hL : ∀ k ys, F k ys → k ∈ L) (hz : L.length ≤ sizeLine) (h : ∀ s', Inv X pins σ (upd H a (.mem (cInt X.K) F [k])) s' → Q () s') : wpAny (model X.prog X.w) B (setItem (.ref a) (.ref b) (.ref c)) Q E s := by
  obtain ⟨xs, m, r, q, dd⟩ := mem_dict I e
  have len : (memL xs).length = xs.length := by unfold memL; rw [List.length_map]
  refine wpAny_setItem_heap (hsz := by rw [len]; exact m.len) (tupleKind_room_in1 hu) (keyM_sq (k := kLn k) I (by rw [kLn_vals]; exact eb)) dd fun h' dd' hs => h _ ?_
  obtain ⟨xs', e', hk, hx⟩ := memL_put (k := k) (b := b) (xs := xs) (c := c)
  rw [← e'] at dd'
  obtain ⟨o, es, ep, h1, h2, h3, h4, h5, h6⟩ := dd'
  have nd : (xs'.map (·.1)).Nodup := by
    have : (xs'.map (·.1)).map kLn = (memL xs').map (·.1) := by unfold memL; rw [List.map_map, List.map_map]; rfl
    rw [← this] at h6
    exact (List.pairwise_map.mp (List.nodup_iff_pairwise_ne.mp h6)).imp fun h z => h (congrArg kLn z)
  have r' : ∀ x ∈ xs', MemT H (cInt X.K) x.2.1 x.1 ∧ ∃ ys, MemT H (cInt X.K) x.2.2 ys ∧ F x.1 ys := fun x hx' => by
    rcases hx x hx' with z | ⟨z1, z2, z3⟩
    · exact r x z
    · rw [z1, z2]
      refine ⟨?_, ys, MemT.of ec, hF⟩
      rcases z3 with z3 | ⟨y, hy, y1, y2⟩
      · rw [z3]; exact MemT.of eb
      · rw [← y2, ← y1]; exact (r y hy).1
  refine I.memo (t' := _) e hs (xs := xs') ⟨m.sys, ?_, nd, o, es, ep, h1, h2, h3, ?_⟩ r' fun y hy => by rw [List.mem_singleton.mp hy]; exact hk
  · have sub : ∀ y ∈ xs'.map (·.1), y ∈ L := fun y hy => by
      obtain ⟨x, hx, rfl⟩ := List.mem_map.mp hy
      obtain ⟨_, ys, _, f⟩ := r' x hx
      exact hL _ _ f
    have := nd.length_le_of_subset sub
    rw [List.length_map] at this
    lia
  · rw [h4]; unfold memL; rw [List.map_map]; rfl
theorem m_get {Q : Value → Shared → Prop} (hu : B.units + 1 < cLine) (I : Inv X pins σ H s) (e : H a = some (.mem (cInt X.K) F [k])) (eb : SqT X.K H b (k.map V.int))
    (h : ∀ c ys s', Inv X pins σ (upd H a (.mem (cInt X.K) F [])) s' → F k ys → MemT (upd H a (.mem (cInt X.K) F [])) (cInt X.K) c ys → Q (.ref c) s') : s.TypeIs (.ref a) "dict" ∧ wpAny (model X.prog X.w) B (getItem (.ref a) (.ref b)) Q E s := by
  obtain ⟨xs, m, r, q, dd⟩ := mem_dict I e
  obtain ⟨p, hp⟩ := Option.isSome_iff_exists.mp ((memL_at (k := k) m.nd).1.mpr (q k (by simp)))
  obtain ⟨x, hx, ex, rfl⟩ := (memL_at (k := k) m.nd).2 p hp
  obtain ⟨ys, t, f⟩ := (r x hx).2
  refine ⟨dd.typeIs, wpAny_getItem_heap (tupleKind_room_in1 hu) (keyM_sq (k := kLn k) I (by rw [kLn_vals]; exact eb)) dd hp (h _ ys _ ?_ (by rw [← ex]; exact f) ?_)⟩
  · exact (I.tok _).memo (t' := _) e (Heap.SameBut.refl _ _) m r fun y hy => by simp at hy
  · exact t.imp (Or.imp (fun h => by rw [upd_ne fun z => by rw [z, e] at h; cases h]; exact h) fun ⟨o, h⟩ => ⟨o, by rw [upd_ne fun z => by rw [z, e] at h; cases h]; exact h⟩) id
end
section
variable {X : Cx} {o i value : Expr} {pos pos' : Pos} {td ty tv : TE}
def tMNot (K : PySem.W.Frag) (ty td : TE) : TE := fun σ H Q => ty σ H fun y H1 => td σ H1 fun x H2 => ∃ a b F k, x = .ref a ∧ y = .ref b ∧ H2 a = some (.mem (cInt K) F []) ∧ SqT K H2 b (k.map V.int) ∧ Q (.bl true) H2 ∧ Q (.bl false) (upd H2 a (.mem (cInt K) F [k]))
theorem pc_mnot (hu : X.A.units + 1 < cLine) (hi : PE X i ty) (ho : PE X o td) : PC X .NotIn i o (tMNot X.K ty td) := by
  intro pins s σ H Q I h
  refine thn (hi pins s σ H _ I h) fun iv s1 ⟨y, H1, I1, ry, q1⟩ => thn (ho pins s1 σ H1 _ I1 q1) fun u s2 ⟨x, H2, I2, rx, a, b, F, k, ex, ey, e, eb, k1, k2⟩ => ?_
  subst ex ey
  obtain rfl : u = Value.ref a := rx
  obtain rfl : iv = Value.ref b := ry
  exact m_notIn hu I2 e eb (fun s3 I3 => ⟨.bl true, _, I3, rfl, k1⟩) fun s3 I3 => ⟨.bl false, _, I3, rfl, k2⟩
def sMPut (K : PySem.W.Frag) (td ty tv : TE) : TS := fun D σ H => tv σ H fun v H1 => td σ H1 fun x H2 => ty σ H2 fun y H3 => ∃ a b c F k ys, ∃ L : List (List Int), x = .ref a ∧ y = .ref b ∧ v = .ref c ∧ H3 a = some (.mem (cInt K) F []) ∧ SqT K H3 b (k.map V.int) ∧ SqT K H3 c (ys.map V.int) ∧ F k ys ∧
  (∀ k ys, F k ys → k ∈ L) ∧ L.length ≤ sizeLine ∧ D.nx σ (upd H3 a (.mem (cInt K) F [k]))
theorem ps_mput (hu : X.A.units + 1 < cLine) (ho : PE X o td) (hi : PE X i ty) (hv : PE X value tv) (hs : swapsWith value (some (.Subscript o i pos')) pos.line X.env = pure false) :
    PS X (.Assign [.Subscript o i pos'] value pos) (sMPut X.K td ty tv) := by
  intro pins s σ H D I h
  refine wpAny_Assign_Subscript (thn (hv pins s σ H _ I h) fun r s1 ⟨v, H1, I1, rv, q1⟩ => thn (ho pins s1 σ H1 _ I1 q1) fun u s2 ⟨x, H2, I2, rx, q2⟩ => thn (hi pins s2 σ H2 _ I2 q2) fun iv s3 ⟨y, H3, I3, ry, a, b, c, F, k, ys, L, ex, ey, ev, e, eb, ec, hF, hL, hz, q3⟩ => ?_) hs
  subst ex ey ev
  obtain rfl : u = Value.ref a := rx
  obtain rfl : iv = Value.ref b := ry
  obtain rfl : r = Value.ref c := rv
  exact m_put hu I3 e eb ec hF hL hz fun s4 I4 => ⟨σ, _, I4, q3⟩
def tMGet (K : PySem.W.Frag) (td ty : TE) : TE := fun σ H Q => td σ H fun x H1 => ty σ H1 fun y H2 => ∃ a b F k, x = .ref a ∧ y = .ref b ∧ H2 a = some (.mem (cInt K) F [k]) ∧ SqT K H2 b (k.map V.int) ∧
  ∀ c ys, F k ys → MemT (upd H2 a (.mem (cInt K) F [])) (cInt K) c ys → Q (.ref c) (upd H2 a (.mem (cInt K) F []))
theorem pe_mget (hu : X.A.units + 1 < cLine) (ho : PE X o td) (hi : PE X i ty) (hs : NoSl i) : PE X (.Subscript o i pos) (tMGet X.K td ty) := by
  intro pins s σ H Q I h
  refine subD_of PySem.F.slot_dict_getitem.lookup hs (thn (ho pins s σ H _ I h) fun u s1 ⟨x, H1, I1, rx, q1⟩ => thn (hi pins s1 σ H1 _ I1 q1) fun iv s2 ⟨y, H2, I2, ry, a, b, F, k, ex, ey, e, eb, q2⟩ => ?_)
  subst ex ey
  obtain rfl : u = Value.ref a := rx
  obtain rfl : iv = Value.ref b := ry
  exact m_get hu I2 e eb fun c ys s3 I3 hf ht => ⟨.ref c, _, I3, rfl, q2 c ys hf ht⟩
end
theorem intsM_of {K : PySem.W.Frag} {G : Option Addr} {Z : Addr → Prop} {H : Hp} : ∀ {k : List Int} {xs : List V}, Reps K G Z H (k.map D.int) xs → xs = k.map V.int
  | [], xs, h => by unfold List.map at h; exact h.nil_inv
  | i :: k, xs, h => by
    obtain ⟨v, r, rfl, q, t⟩ := h.split
    rw [q.int_inv, intsM_of t]
    rfl
section
variable {A : AC} {X : Cx} {C : Addr} {e : Expr} {te : TD} {t1 : TSD} {S1 : Stmt} {f : Str}
theorem memo_at {os : List (Nat × Addr)} {n : Nat} {rho : Rho} {sg : St} {H : Hp} {ds es : List D} {vs : List V} {i j : Nat} {ns : List Str} {F : List Int → List Int → Prop} {k : List Int} (I : AmO A os n rho sg H ds vs) (hi : rho[i]? = some (some (.ob C ns es))) (hf : atN ns es f = some (.mem F)) (hj : rho[j]? = some (some (.tup (k.map D.int)))) :
    ∃ p dx xs a b, sg[i]? = some (some (.ref p)) ∧ H p = some (.ins C dx (attrs ns xs)) ∧ (attrs ns xs).lookup f = some (.ref a) ∧ H a = some (.mem (cInt A.K) F []) ∧ sg[j]? = some (some (.ref b)) ∧ SqT A.K H b (k.map V.int) := by
  obtain ⟨v, e1, r⟩ := I.slot i _ hi
  have r' : Rep A.K A.G (Zof A os) H (.ob C ns es) v := r
  unfold Rep at r'
  obtain ⟨p, dx, xs, rfl, ⟨_, hp⟩, hl, rs⟩ := r'
  obtain ⟨u, hu, ru⟩ := atN_rep rs hf
  unfold Rep at ru
  obtain ⟨a, rfl, _, ha⟩ := ru
  obtain ⟨w', e2, r2⟩ := I.slot j _ hj
  have r2' : Rep A.K A.G (Zof A os) H (.tup (k.map D.int)) w' := r2
  obtain ⟨b, ys, rfl, sq, rr⟩ := r2'.tup_inv
  rw [intsM_of rr] at sq
  exact ⟨p, dx, xs, a, b, e1, hp, by rw [atN_lookup]; exact hu, ha, e2, sq.sq⟩
def sMemo (C : Addr) (i j : Nat) (f : Str) (t1 : TSD) (te : TD) : TSD := fun F rho n => ∃ ns es M k, ∃ L : List (List Int), rho[i]? = some (some (.ob C ns es)) ∧ atN ns es f = some (.mem M) ∧ rho[j]? = some (some (.tup (k.map D.int))) ∧ (∀ k ys, M k ys → k ∈ L) ∧ L.length ≤ sizeLine ∧
  (∀ ys, M k ys → F.rt (.tup (ys.map D.int)) n) ∧
  t1 { nx := fun rho' n' => rho'[i]? = rho[i]? ∧ rho'[j]? = rho[j]? ∧ te rho' n' fun d n2 => ∃ ys, d = .tup (ys.map D.int) ∧ M k ys ∧ ∀ ys', M k ys' → F.rt (.tup (ys'.map D.int)) n2, rt := fun _ _ => False } rho n
theorem pssd_memo {l i j : Nat} {x y : Str} {p1 p2 p3 p4 p5 p6 p7 p8 p9 q1 q2 q3 q4 q5 q6 : Pos} (hr : Room l X.A) (hK : X.K = A.K) (c : Cls X.K C) (na : NoAttr X.K C f) (h1 : PSD A X S1 t1) (he : PD A X e te) (hN : X.N[i]? = some x := by rfl) (hN2 : X.N[j]? = some y := by rfl)
    (hv : Vis X.env.scope x := by first | exact Or.inl rfl | exact Or.inr (Or.inl rfl) | exact Or.inr (Or.inr rfl)) (hv2 : Vis X.env.scope y := by first | exact Or.inl rfl | exact Or.inr (Or.inl rfl) | exact Or.inr (Or.inr rfl))
    (hd : (x == ("__debug__" : Str)) = false := by decide) (hcd : (x == ("__classdict__" : Str)) = false := by decide) (hd2 : (y == ("__debug__" : Str)) = false := by decide) (hcd2 : (y == ("__classdict__" : Str)) = false := by decide)
    (hb1 : attributeBase (.Name x p3) f X.env (eval (.Name x p3) X.env) = eval (.Name x p3) X.env := by rfl) (hb2 : attributeBase (.Name x p6) f X.env (eval (.Name x p6) X.env) = eval (.Name x p6) X.env := by rfl) (hb3 : attributeBase (.Name x q3) f X.env (eval (.Name x q3) X.env) = eval (.Name x q3) X.env := by rfl)
    (hm : behindInMarks .NotIn (.Attribute (.Name x p3) f p2) = false := by rfl) (hs : swapsWith e (some (.Subscript (.Attribute (.Name x p6) f p5) (.Name y p7) p8)) p4.line X.env = pure false := by rfl) (hns : NoSl (.Name y q4) := by intro _ _; rfl) :
    PSsD A X [.If (.Compare (.Name y p1) [.NotIn] [.Attribute (.Name x p3) f p2] p9) [S1, .Assign [.Subscript (.Attribute (.Name x p6) f p5) (.Name y p7) p8] e p4] [] q5, .Return (some (.Subscript (.Attribute (.Name x q3) f q2) (.Name y q4) q1)) q6] (sMemo C i j f t1 te) := by
  have hu : X.A.units + 1 < cLine := by have := hr.units; lia
  with_unfolding_all
    exact (pss_cons (ps_if (pt_cmp (pc_mnot hu (pe_var (i := j) hN2 hv2 hd2 hcd2) (pe_fld (pe_var (i := i) hN hv hd hcd) hb1)) hm) (pss_cons h1 (pss_one (ps_mput hu (pe_fld (pe_var (i := i) hN hv hd hcd) hb2) (pe_var (i := j) hN2 hv2 hd2 hcd2) he hs))) pss_nil)
      (pss_one (ps_ret (pe_mget hu (pe_fld (pe_var (i := i) hN hv hd hcd) hb3) (pe_var (i := j) hN2 hv2 hd2 hcd2) hns)))).imp fun E sg H h => by
      obtain ⟨rho, n, F, ds, vs, ⟨os, I⟩, ⟨ns, es, M, k, L, r1, r2, r3, hL, hz, hit, miss⟩, ok⟩ := h
      have cK : cInt X.K = cInt A.K := by rw [hK]
      have last : ∀ {os : List (Nat × Addr)} {rho' : Rho} {sg' : St} {H' : Hp} {n' : Nat}, AmO A os n' rho' sg' H' ds vs → rho'[i]? = some (some (.ob C ns es)) → rho'[j]? = some (some (.tup (k.map D.int))) → (∀ ys, M k ys → F.rt (.tup (ys.map D.int)) n') →
          ∀ a, H' a = some (.mem (cInt A.K) M []) → ∀ p dx xs, sg'[i]? = some (some (.ref p)) → H' p = some (.ins C dx (attrs ns xs)) → (attrs ns xs).lookup f = some (.ref a) →
          tMGet X.K (tFld X.K (tVar i) f) (tVar j) sg' (upd H' a (.mem (cInt A.K) M [k])) E.rt := fun {os rho' sg' H' n'} I2 k1 k2 kr a ha p dx xs e1 hp lk => by
        obtain ⟨_, _, _, _, b, _, _, _, _, e2, sq⟩ := memo_at I2 k1 r2 k2
        have pa : p ≠ a := fun z => by rw [z, ha] at hp; cases hp
        refine ⟨_, e1, p, C, dx, _, .ref a, rfl, by rw [upd_ne pa]; exact hp, c, na, lk, _, e2, a, b, M, k, rfl, rfl, by rw [hK]; exact upd_same, ?_, fun c' ys hM ht => ?_⟩
        · rw [hK]
          rcases sq with (q | ⟨o, q⟩) | q
          · exact .inl (.inl (by rw [upd_ne fun z => by rw [z, ha] at q; cases q]; exact q))
          · exact .inl (.inr ⟨o, by rw [upd_ne fun z => by rw [z, ha] at q; cases q]; exact q⟩)
          · exact .inr q
        · rw [hK, upd_upd, upd_id ha] at ht ⊢
          refine ok.rt _ n' _ rho' sg' H' ⟨os, I2.push (.tup_mk ?_ reps_ints)⟩ (kr ys hM)
          rcases ht with ht | ht
          · refine .inl ⟨fun z => ?_, ht⟩
            obtain ⟨u, hu', hnt, hnf⟩ := I2.zHot _ z
            rcases ht with ht | ⟨o, ht⟩
            · rw [hu'] at ht; cases ht; exact hnt _ rfl
            · rw [hu'] at ht; cases ht; exact hnf _ _ rfl
          · exact .inr ht
      obtain ⟨p, dx, xs, a, b, e1, hp, lk, ha, e2, sq⟩ := memo_at I r1 r2 r3
      refine ⟨_, e2, _, e1, p, C, dx, _, .ref a, rfl, hp, c, na, lk, a, b, M, k, rfl, rfl, by rw [hK]; exact ha, by rw [hK]; exact sq, ⟨true, rfl, ?_⟩, ⟨false, rfl, ?_⟩⟩
      · refine iteT ?_
        refine ⟨rho, n, _, ds, vs, ⟨os, I⟩, miss, ⟨fun rho' n' sg' H' ⟨os', I'⟩ q => ?_, fun _ _ _ _ _ _ _ q => q.elim, fun _ _ _ _ _ q => q.elim, fun _ _ _ _ _ q => q.elim⟩⟩
        obtain ⟨k1, k2, k3⟩ := q
        refine ⟨rho', n', _, ds, vs, ⟨os', I'⟩, k3, fun v H2 n2 d ⟨os2, J⟩ kd => ?_⟩
        obtain ⟨ys, rfl, hM, kr⟩ := kd
        obtain ⟨J1, rv⟩ := J.pop
        obtain ⟨c', zs, rfl, sqv, rr⟩ := rv.tup_inv
        rw [intsM_of rr] at sqv
        obtain ⟨p', dx', xs', a', b', e1', hp', lk', ha', e2', sq'⟩ := memo_at J1 (k1.trans r1) r2 (k2.trans r3)
        refine ⟨_, e1', p', C, dx', _, .ref a', rfl, hp', c, na, lk', _, e2', a', b', c', M, k, ys, L, rfl, rfl, rfl, by rw [hK]; exact ha', by rw [hK]; exact sq', by rw [hK]; exact sqv.sq, hM, hL, hz, ?_⟩
        have z := last J1 (k1.trans r1) (k2.trans r3) kr a' ha' p' dx' xs' e1' hp' lk'
        rw [← cK] at z
        exact z
      · refine iteF ?_
        have z := last I r1 r3 hit a ha p dx xs e1 hp lk
        rw [← cK] at z
        exact z
end
end L2
set_option maxRecDepth 100000
namespace L2
open PySem PySem.Spec PyProof.Rows PySem.Calls PyProof.V
theorem ints_fromS : ∀ {vs : List Value} {ns : List Int}, vs.length = ns.length → (∀ (j : Nat) (v : Value), vs[j]? = some v → ∃ n t, ns[j]? = some n ∧ v = .int n t) → IntsAre vs ns
  | [], [], _, _ => .nil
  | [], _ :: _, h, _ => by simp at h
  | _ :: _, [], h, _ => by simp at h
  | v :: vs, n :: ns, h, q => by
    obtain ⟨m, t, e1, e2⟩ := q 0 v rfl
    have e1' : n = m := by simpa using e1
    subst e1' e2
    exact .cons _ t (ints_fromS (by simpa using h) fun j u e => q (j + 1) u (by simpa using e))
section
variable {prog : Program} {w : World} {A : Around} {E : Value → Shared → Prop} {s : Shared}
theorem gatheredS {T : String} {r d : Addr} {n : Nat} {P : Nat → Value → Prop} {OK : Heap → Prop} {R : List Value → Shared → Prop} (src : PySem.W.KdlSrc prog w T r d n P OK) (hA : A.handled = none) (h0 : OK s.heap) (hz : n ≤ sizeLine)
    (fin : ∀ (g : Heap) (tk : Nat) (its : Array Value), (∀ b o, s.heap.get? b = some o → g.get? b = some o) → s.heap.objs.size < g.objs.size → ItemsOf P its n → R its.toList { s with heap := g, toks := tk }) :
    wpAny (model prog w) A (collect (.ref r)) R E s := by
  obtain ⟨lr, ld⟩ := src.there _ h0
  have grown : ∀ b o, s.heap.get? b = some o → (s.heap.push { cls := .type "list", data := .seq ([] : List Value).toArray }).get? b = some o := fun b o e => Heap.get?_push_of_some _ e
  have ok1 : OK (s.heap.push { cls := .type "list", data := .seq ([] : List Value).toArray }) := src.keep _ _ h0 fun b _ o e => grown b o e
  let Post : Result → Shared → Prop := fun q t => ∃ (g : Heap) (tk : Nat) (its : Array Value) (c : Nat), q = .ok (.ret (.ref s.heap.objs.size)) ∧ t = { s with heap := g, toks := tk } ∧ (∀ b o, s.heap.get? b = some o → g.get? b = some o) ∧
    g.get? s.heap.objs.size = some { cls := .type "list", dict := none, data := .seq its c, slots := #[] } ∧ ItemsOf P its n
  have run := PySem.W.kdl_extend (A := A) (s := { s with heap := s.heap.push { cls := .type "list", data := .seq ([] : List Value).toArray } }) (R := Post) src hA ok1 s.heap.objs.size (Nat.ne_of_gt lr) (Nat.ne_of_gt ld)
    (.ref s.heap.objs.size) 0 (Heap.get?_push_size _ rfl) (fun g tk its c kp at1 hi => ⟨g, tk, its, c, rfl, rfl, fun b o e => kp b o (Nat.ne_of_lt (Heap.lt_size e)) (grown b o e), at1, hi⟩) hz
  have last : ∀ t, Post (.ok (.ret (.ref s.heap.objs.size))) t → wpAny (model prog w) A (do
      let o ← load s.heap.objs.size
      match o.data with
      | .seq xs _ => pure xs.toList
      | _ => unsupported "internal:collect") R E t := by
    rintro t ⟨g, tk, its, c, _, rfl, kp, at1, hi⟩
    exact wpAny_bind (wpAny_load at1 (wpAny_pure (fin g tk its kp (Heap.lt_size at1) hi)))
  unfold collect
  refine wpAny_bind (wpAny_runValue (codeAny_builtin entry_proto_collect' ?_))
  rw [Around.under_plainId PySem.F.plain_proto_collect _]
  refine wpAny_bind (m := newList []) (wpAny_newObj_type (wpAny_pure ⟨plainId_quiet PySem.F.plain_list_iadd _, codeAny_builtin entry_list_iadd' ?_⟩))
  rw [Around.under_plainId PySem.F.plain_list_iadd _]
  refine wpAny_mono run (fun f t x => ?_) fun e t x => ?_
  · cases f with
    | done v =>
      have x' : Post (.ok v) t := x
      obtain ⟨_, _, _, _, ev, _⟩ := id x'
      cases ev
      exact last t x'
    | again c1 =>
      refine ⟨x.1, codeAny_mono x.2 fun q t2 y => ?_⟩
      obtain ⟨_, _, _, _, ev, _⟩ := id y
      subst ev
      exact last t2 y
  · obtain ⟨_, _, _, _, ev, _⟩ := x
    cases ev
theorem sorted_setI {d : Addr} {L : List Int} {Q : Value → Shared → Prop} (hS : Stb.SetN prog w s.heap d L) (hh : A.handled = none) (h64 : L.length < 64)
    (h : ∀ (h' : Heap) (tk : Nat) (D : Addr) (out : Array Value) (ms : List Int) (e : Nat), (∀ b o, s.heap.get? b = some o → h'.get? b = some o) → s.heap.objs.size ≤ D → h'.get? D = some (seqObj "list" out e) → IntsAre out.toList ms → ms.Perm L → ms.Pairwise (· ≤ ·) → Q (.ref D) { s with heap := h', toks := tk }) :
    wpAny (model prog w) A (call (.builtin "sorted") [.ref d]) Q E s := by
  obtain ⟨o, es, ep, t, ho, hex, hd, hel, hp, T, hb⟩ := hS
  refine Calls.call_function_entry kind_sorted plain_sorted entry_sorted (args_sorted1 _) ?_
  unfold Builtin.«sorted»
  refine wpAny_bind (m := checkCount "sorted" 1 1 _) (wpAny_pure ?_)
  have hz : (Stb.orderOf w d ep es).size = es.size := by rw [← Array.length_toList, Stb.order_perm.length_eq, Array.length_toList]
  have hn : es.size = L.length := by rw [← hp.length_eq, List.length_map, Array.length_toList]
  refine wpAny_bind (gatheredS (A := A.in1) (Stb.src_setN hex hd T hb) hh ho (le_size (by lia)) fun h' tk acc keeps grows hacc => ?_)
  have hL : ((Stb.orderOf w d ep es).toList.map Stb.nOf).Perm L := (Stb.order_perm.map _).trans hp
  have hI : IntsAre acc.toList ((Stb.orderOf w d ep es).toList.map Stb.nOf) := by
    refine ints_fromS (by rw [List.length_map, Array.length_toList, Array.length_toList, hacc.1, hz]) fun j v e => ?_
    have q := hacc.2 j v (by rw [← Array.getElem?_toList]; exact e)
    obtain ⟨x, hx, rfl⟩ := Option.map_eq_some_iff.mp q
    have hx' : (Stb.orderOf w d ep es).toList[j]? = some x := by rw [Array.getElem?_toList]; exact hx
    obtain ⟨t, z⟩ := Stb.el_shape hel (Stb.order_perm.mem_iff.mp (List.mem_of_getElem? hx'))
    exact ⟨Stb.nOf x, t, by rw [List.getElem?_map, hx']; rfl, congrArg Prod.snd z⟩
  have hl : acc.toList.length < 64 := by rw [Array.length_toList, hacc.1]; lia
  refine wpAny_bind (wpAny_newList ?_)
  have hoL : (h'.push (seqObj "list" acc.toList.toArray 0)).get? h'.objs.size = some (seqObj "list" acc.toList.toArray 0) := Heap.get?_push_size _ rfl
  have hz2 : s.heap.objs.size ≤ h'.objs.size := Nat.le_of_lt grows
  refine (?_ : wpAny _ _ _ _ _ { s with heap := h'.push (seqObj "list" acc.toList.toArray 0), toks := tk })
  refine wpAny_bind (wpAny_holding (wpAny_call_entry slot_list_sort ⟨_, hoL, rfl⟩ entry_list_sort (list_sort_tree hoL hI hl fun out ms a1 a2 a3 => ⟨_, rfl, ?_⟩) (args_list_sort _)))
  obtain ⟨e, he⟩ := sortedHeap_at (out := out) hoL
  refine wpAny_pure ⟨_, rfl, h _ _ _ out ms e (fun b o eb => ?_) hz2 he a1 (a2.trans hL) a3⟩
  have lb := Heap.lt_size (keeps b o eb)
  rw [sortedHeap_old (Nat.ne_of_lt lb) (by rw [size_push']; exact Nat.lt_succ_of_lt lb)]
  exact Heap.get?_push_of_some _ (keeps b o eb)
end
section
variable {A : AC} {X : Cx} {tg iter vx : Expr} {ifs : List Expr} {scope : Scope} {own M : List Str} {pos p0 pos2 : Pos} {it : TID} {g : TGD} {tt : TBD} {tv : TD}
def rSortS (X : Cx) : List V → Hp → VK → Prop := fun xs H Q => ∃ (p : Addr) (L : List Int), xs = [.ref p] ∧ (∃ o, H p = some o) ∧ (∀ h, HOk X.prog X.w H h → Stb.SetN X.prog X.w h p L) ∧ L.length < 64 ∧ ∀ ms : List Int, ms.Perm L → ms.Pairwise (· ≤ ·) → ∀ l, H l = none → Q (.ref l) (upd H l (.lst (ms.map V.int)))
theorem call_sortedS (hc : X.calm = true) : CallR X (.builtin "sorted") (rSortS X) := by
  intro pins s σ H xs us Q I r h
  obtain ⟨p, L, rfl, _, hS, hn, q⟩ := h
  obtain ⟨u, rfl, ru⟩ := vals1 r
  cases ru
  refine sorted_setI (hS _ I.hok) (I.ok.hd hc) hn fun h' tk D out ms e keeps hD he hi hp hs => ?_
  have hml : ms.length = L.length := hp.length_eq
  have hf : H D = none := I.hok.fresh hD
  refine ⟨.ref D, _, I.laid (t' := tk) (o := .lst (ms.map V.int)) keeps hD ?_, rfl, q ms hp hs _ hf⟩
  exact ⟨by rw [List.length_map]; exact le_size (by lia), out.toList, e, vals_of_ints hi, he⟩
def scompIn (own : Nat) (g : TGD) (tt : TBD) (tv : TD) (rho : Rho) (P : D → Nat → Prop) (items : List D) (n1 : Nat) : Prop := ∃ J : Nat → List Int → Nat → Prop, J 0 [] n1 ∧
  (∀ i d acc n, items[i]? = some d → J i acc n → acc.length < 18 ∧ g d (List.replicate own none ++ rho) fun rho' => rho'.drop own = rho ∧ tt rho' n fun c n2 => if c = true then tv rho' n2 fun dv n3 => ∃ k, dv = .int k ∧ J (i + 1) (if k ∈ acc then acc else k :: acc) n3 else J (i + 1) acc n2) ∧
  ∀ acc n, J items.length acc n → acc.length ≤ 18 ∧ ∀ ms : List Int, ms.Perm acc → ms.Pairwise (· ≤ ·) → P (.lst (ms.map D.int)) n
def dSortSet (it : TID) (own : Nat) (g : TGD) (tt : TBD) (tv : TD) : TD := fun rho n P => it rho n (scompIn own g tt tv rho P)
@[simp] theorem q_dSortSet {it own g tt tv rho n P} : dSortSet it own g tt tv rho n P = it rho n (scompIn own g tt tv rho P) := rfl
theorem tSortSet_of {sg : St} {H : Hp} {Q : VK} {m : Nat} (h : tOf A (dSortSet it m g tt tv) sg H Q) : tSComp X.prog X.w (iOf A it) m (gOf A m g) (ttOf A tt) (tOf A tv) sg H fun v H1 => rSortS X [v] H1 Q := by
  obtain ⟨rho, n, P, ds, vs, I, ht, hQ⟩ := h
  refine ⟨rho, n, _, ds, vs, I, ht, fun J H' n' items es ws I1 hl hJ k => ?_⟩
  obtain ⟨W, w0, turn, fin⟩ := k
  refine ⟨fun i mm acc H => mm = items.length - i ∧ i ≤ items.length ∧ ∃ n, Am A n rho sg H (es ++ ds) (ws ++ vs) ∧ W i acc n, ⟨items.length, rfl, Nat.zero_le _, n', I1, w0⟩, ?_⟩
  rintro i mm acc H3 ⟨rfl, hi, n3, ⟨os, I3⟩, w3⟩
  obtain ⟨j1, j2⟩ := hJ n3 rho sg H3 ds vs i ⟨os, I3⟩
  by_cases hlt : i < items.length
  · obtain ⟨t1, t2⟩ := turn i items[i] acc n3 (by simp [hlt]) w3
    refine .inr ⟨(j1 items[i] (by simp [hlt])).1, t1, fun x H4 y => ?_⟩
    obtain ⟨os4, I4⟩ := (j1 items[i] (by simp [hlt])).2 x H4 y
    refine ⟨List.replicate m none ++ rho, n3, _, items[i], es ++ ds, ws ++ vs, ⟨_, I4.front m⟩, t2, fun rho' sg' ⟨os5, I5⟩ e5 k5 => ?_⟩
    obtain ⟨k5, k6⟩ := k5
    have e6 : sg'.drop m = sg := by rw [e5, List.drop_left' (by simp)]
    refine ⟨e6, rho', n3, _, es ++ ds, ws ++ vs, ⟨os5, I5⟩, k6, fun c H6 n6 ⟨os6, I6⟩ k7 => ?_⟩
    cases c with
    | false =>
      obtain ⟨os7, I7⟩ := I6.back k5 e6
      exact ⟨items.length - (i + 1), by lia, rfl, hlt, n6, ⟨os7, I7⟩, k7⟩
    | true =>
      rw [if_pos rfl] at k7 ⊢
      refine ⟨rho', n6, _, es ++ ds, ws ++ vs, ⟨os6, I6⟩, k7, fun v H9 n9 d ⟨os9, I9⟩ k9 => ?_⟩
      obtain ⟨kk, rfl, w9⟩ := k9
      obtain ⟨os10, I10⟩ := I9.back k5 e6
      obtain ⟨I11, rv⟩ := I10.pop
      exact ⟨kk, items.length - (i + 1), rv.int_inv, by lia, rfl, hlt, n9, ⟨os10, I11⟩, w9⟩
  · have e : i = items.length := by lia
    subst e
    obtain ⟨f1, f2⟩ := fin acc n3 w3
    refine .inl ⟨j2 (Nat.le_refl _), f1, fun D hD => ⟨D, acc, rfl, ⟨_, upd_same⟩, fun h ok => (ok D _ upd_same).1, by lia, fun ms hp hs l hl2 => ?_⟩⟩
    obtain ⟨I4, r1⟩ := I3.split hl
    exact hQ _ _ n3 _ ⟨os, (I4.grow hD).newLst reps_ints hl2⟩ (f2 ms hp hs)
theorem pd_sortSet (ok : CompOk X scope M) (hc : X.calm = true) (hi : PID A X tg iter it) (hg : ∀ C s2 H2 fp, PGD A (cxComp X scope own M C s2 H2 fp) own.length tg g) (ht : ∀ C s2 H2 fp, PTs (cxComp X scope own M C s2 H2 fp) ifs (ttOf A tt))
    (he : ∀ C s2 H2 fp, PD A (cxComp X scope own M C s2 H2 fp) vx tv) (hm : X.mg "sorted" = none) (hs : ∀ x, foldedSetIterable iter X.env x = pure x := by intro _; rfl) (hgl : Gl X "sorted" := by rfl)
    (hst : starEach [.SetComp vx [⟨tg, iter, ifs, 0⟩] scope pos] X.env = [(false, eval (.SetComp vx [⟨tg, iter, ifs, 0⟩] scope pos) X.env)] := by rfl) : PD A X (.Call (.Name "sorted" p0) [.SetComp vx [⟨tg, iter, ifs, 0⟩] scope pos] [] pos2) (dSortSet it own.length g tt tv) := by
  with_unfolding_all
    exact (pe_callB (call_sortedS hc) hgl hm bt_sorted (pa_cons (pe_scomp ok hc hi hg ht he hs) pa_nil)).imp fun _ _ _ h => tSortSet_of h
end
end L2
set_option maxRecDepth 100000
namespace L2
open PySem PySem.Spec PyProof.Rows PySem.Calls
def rIndexT (K : PySem.W.Frag) : V → List V → Hp → VK → Prop := fun x vs H Q => ∃ (l : Addr) (ns : List Int) (k : Int) (j : Nat), x = .ref l ∧ vs = [.int k] ∧ SqT K H l (ns.map V.int) ∧ ns[j]? = some k ∧ (∀ m, m < j → ns[m]? ≠ some k) ∧ Q (.int j) H
theorem vals_intsT {ns : List Int} : ∀ {us : List Value}, Vals (ns.map V.int) us → us.length = ns.length ∧ ∀ (m : Nat) (i : Int), ns[m]? = some i → ∃ t, us[m]? = some (.int i t) := by
  induction ns with
  | nil => intro us r; cases r; exact ⟨rfl, fun m i h => by simp at h⟩
  | cons n ns ih =>
    intro us r
    cases r with
    | cons r1 r2 =>
      obtain ⟨t, rfl⟩ := r1
      obtain ⟨h1, h2⟩ := ih r2
      refine ⟨by simp [h1], fun m i h => ?_⟩
      cases m with
      | zero => exact ⟨t, by simpa using h⟩
      | succ m => exact h2 m i (by simpa using h)
section
variable {X : Cx}
theorem mt_indexT : MtR X "tuple.index" (rIndexT X.K) := by
  intro pins s σ H x vs v us Q I rx rv h
  obtain ⟨l, ns, k, j, rfl, rfl, hS, h1, h2, q⟩ := h
  cases rx
  obtain ⟨u, rfl, ru⟩ := vals1 rv
  obtain ⟨tk, rfl⟩ := ru
  obtain ⟨its, r, ⟨o, ho, hc, n, hd⟩, hz⟩ := I.tuple hS
  have hT : s.TypeIs (.ref l) "tuple" := ⟨o, ho, hc⟩
  obtain ⟨hl, hat⟩ := vals_intsT r
  refine wpAny_call_entry PySem.F.slot_tuple_index hT PySem.F.entry_tuple_index ?_ (PySem.F.args_tuple_index_2 _ _)
  unfold Builtin.«tuple.index»
  refine wpAny_bind (m := selfAndSome _ _ _ _ _) (wpAny_pure ?_)
  refine wpAny_bind ?_
  unfold Builtin.Tuple.tupleItemsOf
  refine wpAny_bind (wpAny_seqItems ho hd (wpAny_pure ?_))
  dsimp only
  refine wpAny_bind (wpAny_pure ?_)
  refine wpAny_bind (wpAny_pure ?_)
  have hj : j < ns.length := (List.getElem?_eq_some_iff.mp h1).1
  refine wpAny_bind ?_
  rw [Std.Legacy.Range.forIn_eq_forIn_range']
  refine wpAny_forIn_list _ (fun rest b s' => b = (none, ()) ∧ Inv X pins σ H s' ∧ ∃ m, m ≤ j ∧ rest = List.range' m (ns.length - m)) _ (fun x rest b s1 h => ?_) (fun b s1 h => ?_) _ _ ⟨rfl, I, 0, Nat.zero_le _, ?_⟩
  · obtain ⟨rfl, I1, m, hm, hr⟩ := h
    have hmn : m < ns.length := by lia
    rw [show ns.length - m = (ns.length - (m + 1)) + 1 by lia, List.range'_succ] at hr
    obtain ⟨rfl, rfl⟩ := List.cons.inj hr
    obtain ⟨t, ht⟩ := hat x ns[x] (List.getElem?_eq_getElem hmn)
    have ht' : its.toArray[x]? = some (.int ns[x] t) := by simpa using ht
    simp only [ht']
    refine wpAny_bind (wpAny_eqBool_int ?_)
    by_cases e : ns[x] = k
    · have hx : x = j := by
        apply Classical.byContradiction
        intro ne
        exact h2 x (by lia) (by rw [List.getElem?_eq_getElem hmn, e])
      subst hx
      rw [if_pos (by simpa using e)]
      unfold retInt mkInt
      exact wpAny_bind (wpAny_bind (wpAny_bind (wpAny_fresh (wpAny_pure (wpAny_pure (wpAny_pure (wpAny_pure ⟨_, rfl, .int x, H, I1.tok _, ⟨_, rfl⟩, q⟩)))))))
    · rw [if_neg (by simpa using e)]
      refine wpAny_pure ⟨rfl, I1, x + 1, ?_, rfl⟩
      apply Nat.lt_of_le_of_ne hm
      intro z
      subst z
      rw [List.getElem?_eq_getElem hmn] at h1
      exact e (Option.some.inj h1)
  · obtain ⟨rfl, _, m, hm, hr⟩ := h
    have := congrArg List.length hr
    simp at this
    lia
  · simp [hl]
end
theorem reps_intsT {K : PySem.W.Frag} {G : Option Addr} {Z : Addr → Prop} {H : Hp} {ns : List Int} {xs : List V} (h : Reps K G Z H (ns.map D.int) xs) : xs = ns.map V.int := reps_ints_inv h
def tupsPlain (K : PySem.W.Frag) : Bool := K.all fun p => p.2.cls != .type "tuple" || p.2.dict.isNone
theorem tups_none {K : PySem.W.Frag} (h : tupsPlain K = true) {a : Addr} {o : Obj} (e : K.lookup a = some o) (c : o.cls = .type "tuple") : o.dict = none := by
  have q := List.all_eq_true.mp h (a, o) (PySem.W.mem_of_lookupK e)
  rw [c] at q
  cases d : o.dict with
  | none => rfl
  | some x =>
    dsimp only at q
    rw [d] at q
    simp at q
theorem tup_plain {X : Cx} {pins : List (Addr × Obj)} {σ : St} {H : Hp} {s : Shared} {l : Addr} {xs : List V} (h : tupsPlain X.K = true) (I : Inv X pins σ H s) (q : SqT X.K H l xs) : s.TypeIs (.ref l) "tuple" ∧ ∀ a, Value.ref l = .ref a → ∃ ob, s.heap.get? a = some ob ∧ ob.dict = none := by
  rcases q with q | ⟨o, its, n, hk, hc, _⟩
  · obtain ⟨_, its, _, o, e, c, _, d⟩ := q.ok I.hok
    refine ⟨⟨o, e, c⟩, fun a z => ?_⟩
    cases z
    exact ⟨o, e, d⟩
  · refine ⟨⟨o, I.kIn l o hk, hc⟩, fun a z => ?_⟩
    cases z
    exact ⟨o, I.kIn _ o hk, tups_none h hk hc⟩
def tBMT (K : PySem.W.Frag) (r : V → List V → Hp → VK → Prop) (to : TE) (t : TA) : TE := fun σ H Q => to σ H fun x H1 => (∃ l xs, x = .ref l ∧ SqT K H1 l xs) ∧ t σ H1 fun xs H2 => r x xs H2 Q
theorem pe_bmT {X : Cx} {o e : Expr} {es : List Expr} {to : TE} {t : TA} {name : Str} {apos cpos : Pos} {id : String} {r : V → List V → Hp → VK → Prop} (tp : tupsPlain X.K = true) (pa : PlainAttrs "tuple") (slot : Slot "tuple" name id) (hty : typeOf (.builtin id) = pure (.type "method_descriptor")) (hm : MtR X id r) (ho : PE X o to) (ha : PA X (e :: es) t)
    (hbase : attributeBase o name X.env (eval o X.env) = eval o X.env := by rfl)
    (hfew : ((backTo cpos (starEach (e :: es) X.env)).all (fun x => !x.1) && (backToKw cpos (keywordEach [] X.env)).all (fun x => x.1.isSome)
      && decide ((e :: es).length + ([] : List Keyword).length + (if ([] : List Keyword).isEmpty then 0 else 1) < 30)) = true := by rfl)
    (hline : (apos.endLine == cpos.line) = true := by rfl) (hs : starEach (e :: es) X.env = (false, eval e X.env) :: starEach es X.env := by rfl) (hplain : (backTo cpos (starEach es X.env)).any (·.1) = false := by rfl) :
    PE X (.Call (.Attribute o name apos) (e :: es) [] cpos) (tBMT X.K r to t) := by
  intro pins s σ H Q I h
  refine wpAny_Call_method_late hbase hfew hline rfl (thn (ho pins s σ H _ I h) fun v s1 ⟨x, H1, I1, r1, ty, q1⟩ => ?_)
  obtain ⟨l, xs, rfl, sq⟩ := ty
  obtain rfl : v = Value.ref l := r1
  obtain ⟨h1, h2⟩ := tup_plain tp I1 sq
  refine ⟨"tuple", id, pa, slot, hty, h1, h2, ?_⟩
  have hA := ha cpos pins s1 σ H1 _ I1 q1
  rw [hs] at hA ⊢
  refine Calls.callWith_builtin (by show (false || (backTo cpos (starEach es X.env)).any (·.1)) = false; rw [hplain] <;> rfl) (Calls.evalArgs_plain ?_)
  exact thn hA fun us s2 ⟨vs, H2, I2, r2, q2⟩ => hm pins s2 σ H2 (.ref l) vs _ us Q I2 rfl r2 q2
def dIndexT (te t1 : TD) : TD := fun rho n P => te rho n fun d n1 => ∃ ns : List Int, d = .tup (ns.map D.int) ∧ t1 rho n1 fun e n2 => ∃ (k : Int) (j : Nat), e = .int k ∧ ns[j]? = some k ∧ (∀ m, m < j → ns[m]? ≠ some k) ∧ P (.int j) n2
@[simp] theorem q_dIndexT {te t1 rho n P} : dIndexT te t1 rho n P = te rho n fun d n1 => ∃ ns : List Int, d = .tup (ns.map D.int) ∧ t1 rho n1 fun e n2 => ∃ (k : Int) (j : Nat), e = .int k ∧ ns[j]? = some k ∧ (∀ m, m < j → ns[m]? ≠ some k) ∧ P (.int j) n2 := rfl
section
variable {A : AC} {X : Cx}
theorem pd_indexT {o e : Expr} {te t1 : TD} {apos cpos : Pos} (tp : tupsPlain X.K = true) (hK : X.K = A.K) (ho : PD A X o te) (h1 : PD A X e t1) (hbase : attributeBase o "index" X.env (eval o X.env) = eval o X.env := by rfl) (hline : (apos.endLine == cpos.line) = true := by rfl)
    (hfew : ((backTo cpos (starEach [e] X.env)).all (fun x => !x.1) && (backToKw cpos (keywordEach [] X.env)).all (fun x => x.1.isSome)
      && decide ([e].length + ([] : List Keyword).length + (if ([] : List Keyword).isEmpty then 0 else 1) < 30)) = true := by rfl) (hs : starEach [e] X.env = [(false, eval e X.env)] := by rfl) : PD A X (.Call (.Attribute o "index" apos) [e] [] cpos) (dIndexT te t1) := by
  with_unfolding_all
    exact (pe_bmT tp PySem.F.plainAttrs_tuple PySem.F.slot_tuple_index PySem.F.type_tuple_index mt_indexT ho (pa_cons h1 pa_nil hs) hbase hfew hline hs rfl).imp fun sg H Q h => by
      obtain ⟨rho, n, P, ds, vs, I, ht, hQ⟩ := h
      refine ⟨rho, n, _, ds, vs, I, ht, fun v H1 n1 d ⟨os, J⟩ k => ?_⟩
      obtain ⟨ns, rfl, k⟩ := k
      obtain ⟨l, xs, rfl, sq, rs⟩ := J.pop.2.tup_inv
      rw [reps_intsT rs] at sq
      refine ⟨⟨l, _, rfl, by rw [hK]; exact sq.sq⟩, rho, n1, _, _, _, ⟨os, J⟩, k, fun u H2 n2 e2 ⟨os2, J2⟩ k2 => ?_⟩
      obtain ⟨i, j, rfl, k3, k4, k5⟩ := k2
      obtain ⟨J3, ru⟩ := J2.pop
      obtain ⟨J4, rl⟩ := J3.pop
      obtain ⟨l', xs', e', sq', rs'⟩ := rl.tup_inv
      cases e'
      rw [reps_intsT rs'] at sq'
      exact ⟨l, ns, i, j, rfl, by rw [ru.int_inv], by rw [hK]; exact sq'.sq, k3, k4, hQ _ _ n2 _ ⟨os2, J4.push (Rep.ofS (d := .int j) rfl)⟩ k5⟩
end
end L2
set_option maxRecDepth 100000
namespace L2
open PySem PySem.Spec PyProof.Rows
@[simp] theorem q_atN1 {α : Type} {n f : Str} {ns : List Str} {e : α} {es : List α} : atN (n :: ns) (e :: es) f = if n = f then some e else atN ns es f := rfl
@[simp] theorem q_atN0 {α : Type} {es : List α} {f : Str} : atN ([] : List Str) es f = none := by unfold atN; rfl
@[simp] theorem q_dFld {C : Addr} {f : Str} {t : TD} {rho n P} : dFld C f t rho n P = t rho n fun d n' => ∃ ns ds e, d = .ob C ns ds ∧ atN ns ds f = some e ∧ P e n' := rfl
@[simp] theorem q_dFldO {C : Addr} {i : Nat} {f : Str} {rho n P} : dFldO C i f rho n P = ∃ p ns ds e, rho[i]? = some (some (.oi p C ns ds)) ∧ atN ns ds f = some e ∧ P e n := rfl
@[simp] theorem q_sFldD {C : Addr} {i : Nat} {f : Str} {te : TD} {F rho n} : sFldD C i f te F rho n = te rho n fun d n' => ∃ p ns ds, rho[i]? = some (some (.oi p C ns ds)) ∧ f ∉ ns ∧ ns.length < 1000 ∧ F.nx (rho.set i (some (.oi p C (ns ++ [f]) (ds ++ [d])))) n' := rfl
@[simp] theorem q_dMem {rho n P} : dMem rho n P = ∃ F, P (.mem F) n := rfl
@[simp] theorem q_dMeth {C : Addr} {m : Str} {k : Nat} {t : TF} {ta : TD} {t1 : TAD} {rho n P} : dMeth C m k t ta t1 rho n P = ta rho n fun d n1 => ∃ ns ds, d = .ob C ns ds ∧ m ∉ ns ∧ t1 rho n1 fun es n2 => es.length = k ∧ t (d :: es) n2 P := rfl
@[simp] theorem q_dMake {C : Addr} {k : Nat} {t : TFI} {t1 : TAD} {rho n P} : dMake C k t t1 rho n P = t1 rho n fun es n1 => es.length = k ∧ t es n1 fun ns ds n2 => P (.ob C ns ds) n2 := rfl
end L2
set_option maxRecDepth 100000
namespace L2
open PySem PySem.Spec PyProof.Rows PySem.Calls
section
variable {X : Cx}
end
section
variable {A : AC} {X : Cx} {a : Expr} {t1 : TAD} {pos : Pos}
def iEnumTD (t : TAD) : TID := fun rho n P => t rho n fun es n1 => ∃ fs, es = [.tup fs] ∧ P (enumD fs) n1
@[simp] theorem q_iEnumTD {t rho n P} : iEnumTD t rho n P = t rho n fun es n1 => ∃ fs, es = [.tup fs] ∧ P (enumD fs) n1 := rfl
end
end L2
set_option maxRecDepth 100000
namespace L2
open PySem PySem.Spec PyProof.Rows
section
variable {A : AC} {X : Cx} {e : Expr} {te : TD} {pos : Pos}
def dOwnIn (neg : Bool) (i : Nat) (te : TD) : TD := fun rho n P => te rho n fun d n' => ∃ es, rho[i]? = some (some (.own es)) ∧ flatD d = true ∧ es.all flatD = true ∧ P (.bl (if neg then !inD d es else inD d es)) n'
@[simp] theorem q_dOwnIn {neg i te rho n P} : dOwnIn neg i te rho n P = te rho n fun d n' => ∃ es, rho[i]? = some (some (.own es)) ∧ flatD d = true ∧ es.all flatD = true ∧ P (.bl (if neg then !inD d es else inD d es)) n' := rfl
theorem tOp_ownIn {neg : Bool} {i : Nat} (hK : X.K = A.K) {sg : St} {H : Hp} {Q : VK} (h : tOf A (dOwnIn neg i te) sg H Q) : tOp (rIn X.K neg) (tOf A te) (tVar i) sg H Q := by
  obtain ⟨rho, n, P, ds, vs, ⟨os, I⟩, ht, hQ⟩ := h
  refine ⟨rho, n, _, ds, vs, ⟨os, I⟩, ht, fun v H2 n2 d ⟨os2, J⟩ k => ?_⟩
  obtain ⟨es, hi, f1, fe, q⟩ := k
  obtain ⟨J1, r1⟩ := J.pop
  obtain ⟨a, xs, e1, hH, rs, _⟩ := J1.own (es' := es) (xs' := []) hi
  obtain ⟨e2, f2⟩ := flat_of f1 r1
  obtain ⟨z1, z2⟩ := inV_D f1 fe rs
  subst e2
  refine ⟨.ref a, e1, a, xs, rfl, .inl (SqL.of hH), f2, z2, ?_⟩
  rw [z1]
  exact hQ _ H2 _ _ ⟨os2, J1.push (Rep.ofS (d := .bl (if neg then !inD d es else inD d es)) rfl)⟩ q
theorem ptd_ownIn {i : Nat} {x : Str} {px : Pos} (hK : X.K = A.K) (he : PD A X e te) (hN : X.N[i]? = some x := by rfl) (hv : Vis X.env.scope x := by first | exact Or.inl rfl | exact Or.inr (Or.inl rfl) | exact Or.inr (Or.inr rfl)) (hd : (x == ("__debug__" : Str)) = false := by decide)
    (hcd : (x == ("__classdict__" : Str)) = false := by decide) : PTD A X (.Compare e [.NotIn] [.Name x px] pos) (dTest (dOwnIn true i te)) := by
  with_unfolding_all
    exact (pt_cmpR op_notIn_seq he (pe_var hN hv hd hcd) (by rfl)).imp fun _ _ _ => tTest_of fun _ _ _ => tOp_ownIn hK
end
end L2
set_option maxRecDepth 100000
namespace L2
open PySem PySem.Spec PyProof.Rows PySem.Calls
abbrev IsTrip (h : Heap) (T : Addr) (a b c : Value) : Prop := h.get? T = some { cls := .type "tuple", data := .seq #[a, b, c] }
theorem nez {n a b : Nat} (h : a ≠ b) : (n + a : Addr) ≠ (n + b : Addr) := fun z => h (Nat.add_left_cancel z)
structure Z3St (b1 b2 b3 : Bool) (n l1 l2 l3 : Addr) (k : Nat) (f0 : Value) (h : Heap) : Prop where
  z : IsZip h (n + 5) (n + 3) (n + 4) f0
  ti : IsTrip h (n + 3) (.ref (n + 0)) (.ref (n + 1)) (.ref (n + 2))
  to : ∃ u v w, IsTrip h (n + 4) u v w
  i1 : IterIs b1 h (n + 0) l1 k
  i2 : IterIs b2 h (n + 1) l2 k
  i3 : IterIs b3 h (n + 2) l3 k
section
variable {prog : Program} {w : World} {A : Around} {E : Value → Shared → Prop} {s : Shared} {b1 b2 b3 : Bool} {n l1 l2 l3 : Addr} {k : Nat} {xs ys zs : Array Value}
theorem updTrip {T : Addr} {a b c x : Value} {k : Nat} {Q : Unit → Shared → Prop} (hT : IsTrip s.heap T a b c)
    (h : ∀ h', h'.get? T = some { cls := .type "tuple", data := .seq ((#[a, b, c] : Array Value).setIfInBounds k x) } → Heap.SameBut T s.heap h' → Q () { s with heap := h' }) :
    wpAny (model prog w) A (updateSeq T (·.setIfInBounds k x)) Q E s := by
  refine wpAny_updateSeq hT rfl (h _ ?_ (Heap.SameBut.update ..))
  rw [Heap.get?_update_self _ hT rfl]
  simp [Obj.mapSeq]
theorem Z3St.apartL {d : Bool} {l : Addr} {f0 : Value} {h : Heap} {xs : Array Value} (x : Z3St b1 b2 b3 n l1 l2 l3 k f0 h) (hl : SeqIs d h l xs) : l ≠ n + 5 ∧ l ≠ n + 0 ∧ l ≠ n + 1 ∧ l ≠ n + 2 := by
  refine ⟨?_, hl.ne x.i1, hl.ne x.i2, hl.ne x.i3⟩
  rintro rfl
  have e := x.z
  cases d <;> (obtain ⟨o', e', hc', _⟩ := hl; rw [e] at e'; cases e'; exact absurd (Value.type.inj hc') (by decide))
theorem zip_item3 {x y z : Value} {Q : Value → Shared → Prop} (S : Z3St b1 b2 b3 n l1 l2 l3 k .none s.heap)
    (hl1 : SeqIs b1 s.heap l1 xs) (hl2 : SeqIs b2 s.heap l2 ys) (hl3 : SeqIs b3 s.heap l3 zs) (n1 : l1 ≠ n + 4) (n2 : l2 ≠ n + 4) (n3 : l3 ≠ n + 4) (hx : xs[k]? = some x) (hy : ys[k]? = some y) (hz' : zs[k]? = some z)
    (hQ : ∀ h', Z3St b1 b2 b3 n l1 l2 l3 (k + 1) (rawInt s.heap.objs.size) h' → IsTrip h' s.heap.objs.size x y z → (∀ d o, d ≠ n + 5 → d ≠ n + 4 → d ≠ n + 0 → d ≠ n + 1 → d ≠ n + 2 → s.heap.get? d = some o → h'.get? d = some o) → Q (.ref s.heap.objs.size) { s with heap := h' }) :
    wpAny (model prog w) A (Builtin.«zip.__next__» ⟨[.ref (n + 5)], []⟩) (fun fin s' => ∃ v, fin = .done (.ret v) ∧ Q v s') E s := by
  obtain ⟨m1, m2, m3, m4⟩ := S.apartL hl1
  obtain ⟨m5, m6, m7, m8⟩ := S.apartL hl2
  obtain ⟨m9, mA, mB, mC⟩ := S.apartL hl3
  obtain ⟨hz, hTI, ⟨u, v, t, hTO⟩, h1, h2, h3⟩ := S
  show wpAny _ A (field (.ref (n + 5)) 2 >>= _) _ _ _
  refine wpAny_bind (wpAny_field (x := .bool false) hz rfl rfl ?_)
  show wpAny _ A (field (.ref (n + 5)) 3 >>= _) _ _ _
  refine wpAny_bind (wpAny_field (x := .ref (n + 3)) hz rfl rfl ?_)
  refine wpAny_bind (wpAny_seqItems hTI rfl ?_)
  show wpAny _ A (Builtin.SmallTypes.ownedTupleIsFree (.ref (n + 5)) >>= _) _ _ _
  refine wpAny_bind ?_
  unfold Builtin.SmallTypes.ownedTupleIsFree
  refine wpAny_bind (wpAny_field (x := .none) hz rfl rfl (wpAny_pure ?_))
  simp only [if_true]
  refine wpAny_bind (wpAny_rule ?_)
  refine wpAny_bind (wpAny_field (x := .ref (n + 4)) hz rfl rfl ?_)
  refine wpAny_bind (wpAny_setField_rec hz (by simp) fun g1 hz1 s1 => ?_)
  replace hz1 : IsZip g1 (n + 5) (n + 3) (n + 4) .ellipsis := hz1
  refine wpAny_bind ?_
  simp only [List.forIn_cons, List.forIn_nil, List.zipIdx_cons, List.zipIdx_nil]
  refine wpAny_bind (wpAny_bind (wpAny_onRaise ?_))
  show wpAny _ A (Builtin.SmallTypes.nextOf (.ref (n + 0)) >>= _) _ _ _
  refine wpAny_bind (nextOf_seq (h1.at fun o e => s1.extBut _ _ (nez (by decide)) e) (hl1.at fun o e => s1.extBut _ _ m1 e) hx fun g2 k1 s2 => wpAny_pure ?_)
  have hTO2 : IsTrip g2 (n + 4) u v t := s2.extBut _ _ (nez (by decide)) (s1.extBut _ _ (nez (by decide)) hTO)
  refine wpAny_bind (wpAny_seqItems hTO2 rfl ?_)
  refine wpAny_bind (updTrip hTO2 fun g3 hTO3 s3 => ?_)
  replace hTO3 : IsTrip g3 (n + 4) x v t := hTO3
  refine wpAny_bind (wpAny_letGo (wpAny_pure ?_))
  refine wpAny_bind (wpAny_bind (wpAny_onRaise ?_))
  show wpAny _ A (Builtin.SmallTypes.nextOf (.ref (n + 1)) >>= _) _ _ _
  refine wpAny_bind (nextOf_seq (h2.at fun o e => s3.extBut _ _ (nez (by decide)) (s2.extBut _ _ (nez (by decide)) (s1.extBut _ _ (nez (by decide)) e))) (hl2.at fun o e => s3.extBut _ _ n2 (s2.extBut _ _ m6 (s1.extBut _ _ m5 e))) hy fun g4 k2 s4 => wpAny_pure ?_)
  have hTO4 : IsTrip g4 (n + 4) x v t := s4.extBut _ _ (nez (by decide)) hTO3
  refine wpAny_bind (wpAny_seqItems hTO4 rfl ?_)
  refine wpAny_bind (updTrip hTO4 fun g5 hTO5 s5 => ?_)
  replace hTO5 : IsTrip g5 (n + 4) x y t := hTO5
  refine wpAny_bind (wpAny_letGo (wpAny_pure ?_))
  refine wpAny_bind (wpAny_bind (wpAny_onRaise ?_))
  show wpAny _ A (Builtin.SmallTypes.nextOf (.ref (n + 2)) >>= _) _ _ _
  refine wpAny_bind (nextOf_seq (h3.at fun o e => s5.extBut _ _ (nez (by decide)) (s4.extBut _ _ (nez (by decide)) (s3.extBut _ _ (nez (by decide)) (s2.extBut _ _ (nez (by decide)) (s1.extBut _ _ (nez (by decide)) e))))) (hl3.at fun o e => s5.extBut _ _ n3 (s4.extBut _ _ mB (s3.extBut _ _ n3 (s2.extBut _ _ mA (s1.extBut _ _ m9 e))))) hz' fun g6 k3 s6 => wpAny_pure ?_)
  have hTO6 : IsTrip g6 (n + 4) x y t := s6.extBut _ _ (nez (by decide)) hTO5
  refine wpAny_bind (wpAny_seqItems hTO6 rfl ?_)
  refine wpAny_bind (updTrip hTO6 fun g7 hTO7 s7 => ?_)
  replace hTO7 : IsTrip g7 (n + 4) x y z := hTO7
  refine wpAny_bind (wpAny_letGo (wpAny_pure (wpAny_pure ?_)))
  refine wpAny_bind (wpAny_seqItems hTO7 rfl ?_)
  refine wpAny_bind (wpAny_newTuple ?_)
  have sz : g7.objs.size = s.heap.objs.size := by rw [s7.1, s6.1, s5.1, s4.1, s3.1, s2.1, s1.1]
  have kp : ∀ d o, d ≠ n + 5 → d ≠ n + 4 → d ≠ n + 0 → d ≠ n + 1 → d ≠ n + 2 → s.heap.get? d = some o → g7.get? d = some o := fun d o d1 d2 d3 d4 d5 e => s7.extBut _ _ d2 (s6.extBut _ _ d5 (s5.extBut _ _ d2 (s4.extBut _ _ d4 (s3.extBut _ _ d2 (s2.extBut _ _ d3 (s1.extBut _ _ d1 e))))))
  have z7 : IsZip g7 (n + 5) (n + 3) (n + 4) .ellipsis := s7.extBut _ _ (nez (by decide)) (s6.extBut _ _ (nez (by decide)) (s5.extBut _ _ (nez (by decide)) (s4.extBut _ _ (nez (by decide)) (s3.extBut _ _ (nez (by decide)) (s2.extBut _ _ (nez (by decide)) hz1)))))
  have j1 : IterIs b1 g7 (n + 0) l1 (k + 1) := k1.at fun o e => s7.extBut _ _ (nez (by decide)) (s6.extBut _ _ (nez (by decide)) (s5.extBut _ _ (nez (by decide)) (s4.extBut _ _ (nez (by decide)) (s3.extBut _ _ (nez (by decide)) e))))
  have j2 : IterIs b2 g7 (n + 1) l2 (k + 1) := k2.at fun o e => s7.extBut _ _ (nez (by decide)) (s6.extBut _ _ (nez (by decide)) (s5.extBut _ _ (nez (by decide)) e))
  have j3 : IterIs b3 g7 (n + 2) l3 (k + 1) := k3.at fun o e => s7.extBut _ _ (nez (by decide)) e
  have zl : n + 5 < g7.objs.size := Heap.lt_size z7
  show wpAny _ A (Builtin.SmallTypes.ownedTupleHandOut (.ref (n + 5)) (.ref g7.objs.size) >>= _) _ _ _
  refine wpAny_bind ?_
  unfold Builtin.SmallTypes.ownedTupleHandOut
  have z8 : IsZip (g7.push { cls := .type "tuple", data := .seq #[x, y, z] }) (n + 5) (n + 3) (n + 4) .ellipsis := Heap.get?_push_of_some _ z7
  refine wpAny_bind (wpAny_setField_rec z8 (by simp) fun g9 z9 s9 => ?_)
  replace z9 : IsZip g9 (n + 5) (n + 3) (n + 4) (rawInt g7.objs.size) := z9
  refine wpAny_setField_rec z9 (by simp) fun gA zA sA => ?_
  replace zA : IsZip gA (n + 5) (n + 3) (n + 4) (rawInt g7.objs.size) := zA
  have up : ∀ d o, d ≠ n + 5 → g7.get? d = some o → gA.get? d = some o := fun d o d1 e => sA.extBut _ _ d1 (s9.extBut _ _ d1 (Heap.get?_push_of_some _ e))
  have TA : IsTrip gA g7.objs.size x y z := sA.extBut _ _ (Nat.ne_of_gt zl) (s9.extBut _ _ (Nat.ne_of_gt zl) (Heap.get?_push_size _ rfl))
  rw [sz] at zA TA
  refine wpAny_pure ⟨_, rfl, ?_⟩
  show Q (.ref g7.objs.size) _
  rw [sz]
  exact hQ gA ⟨zA, up _ _ (nez (by decide)) (kp _ _ (nez (by decide)) (nez (by decide)) (nez (by decide)) (nez (by decide)) (nez (by decide)) hTI), ⟨_, _, _, up _ _ (nez (by decide)) hTO7⟩, j1.at fun o e => up _ o (nez (by decide)) e, j2.at fun o e => up _ o (nez (by decide)) e, j3.at fun o e => up _ o (nez (by decide)) e⟩ TA fun d o d1 d2 d3 d4 d5 e => up d o d1 (kp d o d1 d2 d3 d4 d5 e)
theorem zip_stop3 {Q : Fin → Shared → Prop} (hh : A.handled = none) (S : Z3St b1 b2 b3 n l1 l2 l3 k .none s.heap)
    (hl1 : SeqIs b1 s.heap l1 xs) (hx : xs[k]? = none)
    (hE : ∀ h' e, (∀ d o, d ≠ n + 5 → d ≠ n + 0 → s.heap.get? d = some o → h'.get? d = some o) → (∃ o, h'.get? e = some o ∧ o.cls = .type "StopIteration") → E (.ref e) { s with heap := h' }) :
    wpAny (model prog w) A (Builtin.«zip.__next__» ⟨[.ref (n + 5)], []⟩) Q E s := by
  obtain ⟨m1, m2, m3, m4⟩ := S.apartL hl1
  obtain ⟨hz, hTI, ⟨u, v, t, hTO⟩, h1, h2, h3⟩ := S
  show wpAny _ A (field (.ref (n + 5)) 2 >>= _) _ _ _
  refine wpAny_bind (wpAny_field (x := .bool false) hz rfl rfl ?_)
  show wpAny _ A (field (.ref (n + 5)) 3 >>= _) _ _ _
  refine wpAny_bind (wpAny_field (x := .ref (n + 3)) hz rfl rfl ?_)
  refine wpAny_bind (wpAny_seqItems hTI rfl ?_)
  show wpAny _ A (Builtin.SmallTypes.ownedTupleIsFree (.ref (n + 5)) >>= _) _ _ _
  refine wpAny_bind ?_
  unfold Builtin.SmallTypes.ownedTupleIsFree
  refine wpAny_bind (wpAny_field (x := .none) hz rfl rfl (wpAny_pure ?_))
  simp only [if_true]
  refine wpAny_bind (wpAny_rule ?_)
  refine wpAny_bind (wpAny_field (x := .ref (n + 4)) hz rfl rfl ?_)
  refine wpAny_bind (wpAny_setField_rec hz (by simp) fun g1 hz1 s1 => ?_)
  replace hz1 : IsZip g1 (n + 5) (n + 3) (n + 4) .ellipsis := hz1
  refine wpAny_bind ?_
  simp only [List.forIn_cons, List.forIn_nil, List.zipIdx_cons, List.zipIdx_nil]
  refine wpAny_bind (wpAny_bind (wpAny_onRaise ?_))
  show wpAny _ A (Builtin.SmallTypes.nextOf (.ref (n + 0)) >>= _) _ _ _
  have q1 : IterIs b1 g1 (n + 0) l1 k := h1.at fun o e => s1.extBut _ _ (nez (by decide)) e
  have q2 : SeqIs b1 g1 l1 xs := hl1.at fun o e => s1.extBut _ _ m1 e
  refine wpAny_bind (nextOf_seq_end hh q1 q2 hx fun g2 e s2 he => ?_)
  obtain ⟨oe, hoe, hce⟩ := he
  have z2 : IsZip g2 (n + 5) (n + 3) (n + 4) .ellipsis := s2 _ _ (nez (by decide)) hz1
  have hez : e ≠ n + 5 := fun q => by subst q; rw [z2] at hoe; cases hoe; exact absurd (Value.type.inj hce) (by decide)
  exact wpAny_setField_rec z2 (by simp) fun g3 _ s3 => hE g3 e (fun d o d1 d3 q => s3.extBut _ _ d1 (s2 _ _ d3 (s1.extBut _ _ d1 q))) ⟨oe, s3.extBut _ _ hez hoe, hce⟩
end
end L2
set_option maxRecDepth 100000
namespace L2
open PySem PySem.Spec PyProof.Rows PySem.Calls
section
variable {prog : Program} {w : World} {A : Around} {E : Value → Shared → Prop} {s : Shared} {b1 b2 b3 : Bool} {n l1 l2 l3 : Addr} {k : Nat} {xs ys zs : Array Value}
theorem next_zip3 {x y z : Value} {Q : Option Value → Shared → Prop} (S : Z3St b1 b2 b3 n l1 l2 l3 k .none s.heap)
    (hl1 : SeqIs b1 s.heap l1 xs) (hl2 : SeqIs b2 s.heap l2 ys) (hl3 : SeqIs b3 s.heap l3 zs) (n1 : l1 ≠ n + 4) (n2 : l2 ≠ n + 4) (n3 : l3 ≠ n + 4) (hx : xs[k]? = some x) (hy : ys[k]? = some y) (hz : zs[k]? = some z)
    (hQ : ∀ h', Z3St b1 b2 b3 n l1 l2 l3 (k + 1) (rawInt s.heap.objs.size) h' → IsTrip h' s.heap.objs.size x y z → (∀ d o, d ≠ n + 5 → d ≠ n + 4 → d ≠ n + 0 → d ≠ n + 1 → d ≠ n + 2 → s.heap.get? d = some o → h'.get? d = some o) → Q (some (.ref s.heap.objs.size)) { s with heap := h' }) :
    wpAny (model prog w) A (pyNext (.ref (n + 5))) Q E s := by
  have hT : s.TypeIs (.ref (n + 5)) "zip" := ⟨_, S.z, rfl⟩
  unfold pyNext
  exact wpAny_bind (wpAny_attempt (wpAny_callSpecial?_slot (name := Str.ofString "__next__") hT F.slot_zip_next (wpAny_call_entry F.slot_zip_next hT F.entry_zip_next
    (zip_item3 S hl1 hl2 hl3 n1 n2 n3 hx hy hz fun h' a1 a2 a3 => wpAny_pure (hQ h' a1 a2 a3)) (F.args_zip_next_1 _))))
theorem next_zip3_end {Q : Option Value → Shared → Prop} (hh : A.handled = none) (S : Z3St b1 b2 b3 n l1 l2 l3 k .none s.heap)
    (hl1 : SeqIs b1 s.heap l1 xs) (hx : xs[k]? = none)
    (hQ : ∀ h', (∀ d o, d ≠ n + 5 → d ≠ n + 0 → s.heap.get? d = some o → h'.get? d = some o) → Q none { s with heap := h' }) : wpAny (model prog w) A (pyNext (.ref (n + 5))) Q E s := by
  have hT : s.TypeIs (.ref (n + 5)) "zip" := ⟨_, S.z, rfl⟩
  unfold pyNext
  refine wpAny_bind (wpAny_attempt (wpAny_callSpecial?_slot (name := Str.ofString "__next__") hT F.slot_zip_next (wpAny_call_entry F.slot_zip_next hT F.entry_zip_next
    (zip_stop3 hh S hl1 hx fun h' e hk he => ?_) (F.args_zip_next_1 _))))
  obtain ⟨o, ho, hc⟩ := he
  refine wpAny_bind (wpAny_isInstance (T := "StopIteration") (b := true) ⟨o, ho, hc⟩ isSubtype_stop (wpAny_pure (hQ _ hk)))
end
theorem typeCall_zip_3 (a b c : Value) : checkTypeCall "zip" ⟨[a, b, c], []⟩ = pure () := by kernel_rfl
theorem newCall_zip_3 (a b c : Value) : checkBuiltinCall "zip.__new__" ⟨[.type "zip", a, b, c], []⟩ = pure () := by kernel_rfl
theorem args_object_init_4 (a b c d : Value) : argsOk "object.__init__" ⟨[a, b, c, d], []⟩ := by
  unfold argsOk; rw [signature?_of (id := "object.__init__") (n := ['_', '_', 't', 'i', 'n', 'i', '_', '_']) (o := ['t', 'c', 'e', 'j', 'b', 'o']) (by kernel_rfl) F.owner_object]; kernel_rfl
def zp1 (h : Heap) (b : Bool) (l : Addr) : Heap := h.push { cls := .type (itName b), data := .fields #[.ref l, .int 0 0] }
def zp3 (h : Heap) (b1 b2 b3 : Bool) (l1 l2 l3 : Addr) : Heap := zp1 (zp1 (zp1 h b1 l1) b2 l2) b3 l3
def zp4 (h : Heap) (b1 b2 b3 : Bool) (l1 l2 l3 : Addr) : Heap := (zp3 h b1 b2 b3 l1 l2 l3).push { cls := .type "tuple", data := .seq #[.ref h.objs.size, .ref (zp1 h b1 l1).objs.size, .ref (zp1 (zp1 h b1 l1) b2 l2).objs.size] }
def zp5 (h : Heap) (b1 b2 b3 : Bool) (l1 l2 l3 : Addr) : Heap := (zp4 h b1 b2 b3 l1 l2 l3).push { cls := .type "tuple", data := .seq #[.none, .none, .none] }
def zp6 (h : Heap) (b1 b2 b3 : Bool) (l1 l2 l3 : Addr) : Heap := (zp5 h b1 b2 b3 l1 l2 l3).push { cls := .type "zip", data := .fields #[.none, .bool false, .bool false, .ref (zp3 h b1 b2 b3 l1 l2 l3).objs.size, .ref (zp4 h b1 b2 b3 l1 l2 l3).objs.size] }
set_option maxHeartbeats 4000000 in
theorem meets_zip3 (b1 b2 b3 : Bool) (l1 l2 l3 : Addr) (xs ys zs : Array Value) :
    Meets (Builtin.«zip.__new__» ⟨[.type "zip", .ref l1, .ref l2, .ref l3], []⟩) (fun _ R s => SeqIs b1 s.heap l1 xs ∧ SeqIs b2 s.heap l2 ys ∧ SeqIs b3 s.heap l3 zs ∧
      R (.ok (.ret (.ref (zp5 s.heap b1 b2 b3 l1 l2 l3).objs.size))) { s with heap := zp6 s.heap b1 b2 b3 l1 l2 l3 }) :=
  .of_wp fun prog w A R s h => by
    obtain ⟨hp, g, d, tk, os⟩ := s
    obtain ⟨hl1, hl2, hl3, h⟩ := h
    have hsub := sub_zip
    have q1 : SeqIs b1 (Shared.heap ⟨hp, g, d, tk, os⟩) l1 xs := hl1
    have q2 : SeqIs b2 (Shared.heap ⟨hp.push { cls := .type (itName b1), data := .fields #[.ref l1, .int 0 0] }, g, d, tk, os⟩) l2 ys := hl2.at fun o e => Heap.get?_push_of_some _ e
    have q3 : SeqIs b3 (Shared.heap ⟨(hp.push { cls := .type (itName b1), data := .fields #[.ref l1, .int 0 0] }).push { cls := .type (itName b2), data := .fields #[.ref l2, .int 0 0] }, g, d, tk, os⟩) l3 zs := hl3.at fun o e => Heap.get?_push_of_some _ (Heap.get?_push_of_some _ e)
    wp_walk using pyIter_seq q1, pyIter_seq q2, pyIter_seq q3
    exact ⟨_, rfl, h⟩
section
variable {prog : Program} {w : World} {A : Around} {E : Value → Shared → Prop} {s : Shared} {b1 b2 b3 : Bool} {l1 l2 l3 : Addr} {xs ys zs : Array Value}
theorem call_zip3 {Q : Value → Shared → Prop} (hl1 : SeqIs b1 s.heap l1 xs) (hl2 : SeqIs b2 s.heap l2 ys) (hl3 : SeqIs b3 s.heap l3 zs)
    (h : ∀ h', Z3St b1 b2 b3 s.heap.objs.size l1 l2 l3 0 .none h' → (∀ d o, s.heap.get? d = some o → h'.get? d = some o) → Q (.ref (s.heap.objs.size + 5)) { s with heap := h' }) :
    wpAny (model prog w) A (call (.type "zip") [.ref l1, .ref l2, .ref l3]) Q E s := by
  refine callType_new F.called_zip (by decide) (typeCall_zip_3 _ _ _) (newCall_zip_3 _ _ _) (fun obj => args_object_init_4 obj _ _ _) F.entry_zip_new (meets_zip3 b1 b2 b3 l1 l2 l3 xs ys zs) ⟨hl1, hl2, hl3, ?_⟩
  unfold zp6 zp5 zp4 zp3
  generalize h1 : zp1 s.heap b1 l1 = g1
  generalize h2 : zp1 g1 b2 l2 = g2
  generalize h3 : zp1 g2 b3 l3 = g3
  have z1 : g1.objs.size = s.heap.objs.size + 1 := by rw [← h1]; exact Heap.size_push ..
  have z2 : g2.objs.size = s.heap.objs.size + 2 := by rw [← h2]; exact (Heap.size_push ..).trans (by rw [z1])
  have z3 : g3.objs.size = s.heap.objs.size + 3 := by rw [← h3]; exact (Heap.size_push ..).trans (by rw [z2])
  generalize h4 : g3.push { cls := .type "tuple", data := .seq #[.ref s.heap.objs.size, .ref g1.objs.size, .ref g2.objs.size] } = g4
  have z4 : g4.objs.size = s.heap.objs.size + 4 := by rw [← h4, Heap.size_push, z3]
  generalize h5 : g4.push { cls := .type "tuple", data := .seq #[.none, .none, .none] } = g5
  have z5 : g5.objs.size = s.heap.objs.size + 5 := by rw [← h5, Heap.size_push, z4]
  have e1 : g1.get? (s.heap.objs.size + 0) = some { cls := .type (itName b1), data := .fields #[.ref l1, .int 0 0] } := by rw [← h1]; exact Heap.get?_push_size _ rfl
  have e2 : g2.get? (s.heap.objs.size + 1) = some { cls := .type (itName b2), data := .fields #[.ref l2, .int 0 0] } := by rw [← z1, ← h2]; exact Heap.get?_push_size _ rfl
  have e3 : g3.get? (s.heap.objs.size + 2) = some { cls := .type (itName b3), data := .fields #[.ref l3, .int 0 0] } := by rw [← z2, ← h3]; exact Heap.get?_push_size _ rfl
  have e4 : IsTrip g4 (s.heap.objs.size + 3) (.ref (s.heap.objs.size + 0)) (.ref (s.heap.objs.size + 1)) (.ref (s.heap.objs.size + 2)) := by
    have := Heap.get?_push_size g3 (o := { cls := .type "tuple", data := .seq #[.ref s.heap.objs.size, .ref g1.objs.size, .ref g2.objs.size] }) rfl
    rw [h4, z3, z1, z2] at this; exact this
  have e5 : IsTrip g5 (s.heap.objs.size + 4) .none .none .none := by
    have := Heap.get?_push_size g4 (o := { cls := .type "tuple", data := .seq #[.none, .none, .none] }) rfl
    rw [h5, z4] at this; exact this
  have k1 : ∀ d o, s.heap.get? d = some o → g1.get? d = some o := fun d o e => by rw [← h1]; exact Heap.get?_push_of_some _ e
  have k2 : ∀ d o, g1.get? d = some o → g2.get? d = some o := fun d o e => by rw [← h2]; exact Heap.get?_push_of_some _ e
  have k3 : ∀ d o, g2.get? d = some o → g3.get? d = some o := fun d o e => by rw [← h3]; exact Heap.get?_push_of_some _ e
  have k4 : ∀ d o, g3.get? d = some o → g4.get? d = some o := fun d o e => by rw [← h4]; exact Heap.get?_push_of_some _ e
  have k5 : ∀ d o, g4.get? d = some o → g5.get? d = some o := fun d o e => by rw [← h5]; exact Heap.get?_push_of_some _ e
  have e6 : IsZip (g5.push { cls := .type "zip", data := .fields #[.none, .bool false, .bool false, .ref g3.objs.size, .ref g4.objs.size] }) (s.heap.objs.size + 5) (s.heap.objs.size + 3) (s.heap.objs.size + 4) .none := by
    have := Heap.get?_push_size g5 (o := { cls := .type "zip", data := .fields #[.none, .bool false, .bool false, .ref g3.objs.size, .ref g4.objs.size] }) rfl
    rw [z5] at this
    rw [z3, z4] at this ⊢
    exact this
  show _ ∧ _
  rw [z5]
  refine ⟨⟨_, e6, rfl⟩, ?_⟩
  refine h _ ⟨e6, Heap.get?_push_of_some _ (k5 _ _ e4), ⟨_, _, _, Heap.get?_push_of_some _ e5⟩, ?_, ?_, ?_⟩ fun d o e => Heap.get?_push_of_some _ (k5 _ _ (k4 _ _ (k3 _ _ (k2 _ _ (k1 _ _ e)))))
  · cases b1 <;> exact ⟨_, Heap.get?_push_of_some _ (k5 _ _ (k4 _ _ (k3 _ _ (k2 _ _ e1)))), rfl, rfl⟩
  · cases b2 <;> exact ⟨_, Heap.get?_push_of_some _ (k5 _ _ (k4 _ _ (k3 _ _ e2))), rfl, rfl⟩
  · cases b3 <;> exact ⟨_, Heap.get?_push_of_some _ (k5 _ _ (k4 _ _ e3)), rfl, rfl⟩
end
end L2
set_option maxRecDepth 100000
namespace L2
open PySem PySem.Spec PyProof.Rows PySem.Calls
theorem newTup3 {X : Cx} {pins : List (Addr × Obj)} {σ : St} {H : Hp} {s : Shared} {T : Addr} {x y z : V} {u v t : Value} {s1 : Shared} (I : Inv X pins σ H s) (I1 : Inv X pins σ H s1) (hT : s.heap.objs.size ≤ T) (hn : H T = none) (ho : s1.heap.get? T = some { cls := .type "tuple", data := .seq #[u, v, t] }) (rx : RelV x u) (ry : RelV y v) (rz : RelV z t) :
    Inv X pins σ (upd H T (.tup [x, y, z])) s1 := by
  obtain ⟨_, f1, _, f3, f4, f5⟩ := I.fpOk (H' := H) hT hn
  exact I1.track hn (Nat.le_trans I.sz hT) f1 f4 f5 ⟨(by show 3 ≤ sizeLine; decide), [u, v, t], .cons rx (.cons ry (.cons rz .nil)), ⟨_, ho, rfl, ⟨_, rfl⟩, rfl⟩⟩
def Itz3 (K : PySem.W.Frag) (b1 b2 b3 : Bool) (l1 l2 l3 : Addr) : It :=
  ⟨fun i H => ∃ xs ys zs x y z, SqB K b1 H l1 xs ∧ SqB K b2 H l2 ys ∧ SqB K b3 H l3 zs ∧ xs[i]? = some x ∧ ys[i]? = some y ∧ zs[i]? = some z,
   fun i H v H' => ∃ T, H T = none ∧ v = .ref T ∧ ∀ xs ys zs, SqB K b1 H l1 xs → SqB K b2 H l2 ys → SqB K b3 H l3 zs → ∃ x y z, xs[i]? = some x ∧ ys[i]? = some y ∧ zs[i]? = some z ∧ H' = upd H T (.tup [x, y, z]),
   fun i H => ∃ xs, SqB K b1 H l1 xs ∧ xs.length ≤ i⟩
theorem turn_zip3 {P : Program} {w : World} {K : PySem.W.Frag} {es : List Expr} {kk : Nat} {ps : Pos} {b1 b2 b3 : Bool} {n l1 l2 l3 : Addr} :
    Turn P w K (.Tuple es kk ps) (Itz3 K b1 b2 b3 l1 l2 l3) [n + 5, n + 3, n + 4, n + 0, n + 1, n + 2] (n + 5) (fun i h => Z3St b1 b2 b3 n l1 l2 l3 i .none h) where
  mem := by simp
  obj := fun i h st d hd => by
    have nc : ∀ {o : Obj} {vs : Array Value}, o.data = .fields vs → ∀ v, o.data ≠ .cell v := fun e v q => by rw [e] at q; cases q
    simp only [List.mem_cons, List.not_mem_nil, or_false] at hd
    rcases hd with rfl | rfl | rfl | rfl | rfl | rfl
    · exact ⟨_, st.z, fun v q => by cases q⟩
    · exact ⟨_, st.ti, fun v q => by cases q⟩
    · obtain ⟨u, v, t, e⟩ := st.to
      exact ⟨_, e, fun v q => by cases q⟩
    · obtain ⟨o, e, _, hd⟩ := st.i1.obj
      exact ⟨o, e, nc hd⟩
    · obtain ⟨o, e, _, hd⟩ := st.i2.obj
      exact ⟨o, e, nc hd⟩
    · obtain ⟨o, e, _, hd⟩ := st.i3.obj
      exact ⟨o, e, nc hd⟩
  keep := fun i h h' st k => by
    obtain ⟨u, v, t, e⟩ := st.to
    exact ⟨k (n + 5) (by simp) _ st.z, k (n + 3) (by simp) _ st.ti, ⟨u, v, t, k (n + 4) (by simp) _ e⟩, st.i1.at fun o q => k (n + 0) (by simp) o q, st.i2.at fun o q => k (n + 1) (by simp) o q, st.i3.at fun o q => k (n + 2) (by simp) o q⟩
  item := by
    intro X hP hw hK hc i pins s σ H E I hf st hg
    subst hP hw hK
    obtain ⟨xs, ys, zs, x, y, z, q1, q2, q3, hx, hy, hz⟩ := hg
    obtain ⟨is1, r1, p1⟩ := I.seqB q1
    obtain ⟨is2, r2, p2⟩ := I.seqB q2
    obtain ⟨is3, r3, p3⟩ := I.seqB q3
    obtain ⟨u, hu, ru⟩ := r1.get hx
    obtain ⟨v, hv, rv⟩ := r2.get hy
    obtain ⟨t, ht, rt⟩ := r3.get hz
    have hfto := hf (n + 4) (by simp)
    refine next_zip3 st p1 p2 p3 (I.ne_fp q1 hfto) (I.ne_fp q2 hfto) (I.ne_fp q3 hfto) (x := u) (y := v) (z := t) (by simpa using hu) (by simpa using hv) (by simpa using ht) fun h' M hT kp => ?_
    have lt : ∀ {d : Addr}, d ∈ [n + 5, n + 3, n + 4, n + 0, n + 1, n + 2] → s.heap.objs.size ≠ d := fun {d} hd e => by
      obtain ⟨o, q⟩ : ∃ o, s.heap.get? d = some o := by
        simp only [List.mem_cons, List.not_mem_nil, or_false] at hd
        rcases hd with rfl | rfl | rfl | rfl | rfl | rfl
        · exact ⟨_, st.z⟩
        · exact ⟨_, st.ti⟩
        · obtain ⟨u, v, t, e⟩ := st.to; exact ⟨_, e⟩
        · obtain ⟨o, e, _⟩ := st.i1.obj; exact ⟨o, e⟩
        · obtain ⟨o, e, _⟩ := st.i2.obj; exact ⟨o, e⟩
        · obtain ⟨o, e, _⟩ := st.i3.obj; exact ⟨o, e⟩
      have := Heap.lt_size q
      rw [← e] at this
      exact Nat.lt_irrefl _ this
    refine ⟨_, rfl, wpAny_letOwnedTupleGo_zip (s := { s with heap := h' }) M.z fun h'' z' sb => ?_⟩
    have kp2 : ∀ d o, d ∉ [n + 5, n + 3, n + 4, n + 0, n + 1, n + 2] → s.heap.get? d = some o → h''.get? d = some o := fun d o hd e => by
      simp only [List.mem_cons, List.not_mem_nil, or_false, not_or] at hd
      exact sb.extBut _ _ hd.1 (kp d o hd.1 hd.2.2.1 hd.2.2.2.1 hd.2.2.2.2.1 hd.2.2.2.2.2 e)
    have I1 : Inv X pins σ H { s with heap := h'' } := I.turnedL (t' := s.toks) kp2 hf
    have hn : H s.heap.objs.size = none := I.hok.fresh (Nat.le_refl _)
    have I2 : Inv X pins σ (upd H s.heap.objs.size (.tup [x, y, z])) { s with heap := h'' } := newTup3 I I1 (Nat.le_refl _) hn (sb.extBut _ _ (lt (by simp)) hT) ru rv rt
    obtain ⟨u', v', t', eto⟩ := M.to
    refine ⟨.ref s.heap.objs.size, _, I2, rfl, ⟨_, hn, rfl, fun xs' ys' zs' e1 e2 e3 => ⟨x, y, z, by rw [I.seqB_inj e1 q1]; exact hx, by rw [I.seqB_inj e2 q2]; exact hy, by rw [I.seqB_inj e3 q3]; exact hz, rfl⟩⟩, ?_, fun d hd => ?_⟩
    · exact ⟨z', sb.extBut _ _ (nez (by decide)) M.ti, ⟨u', v', t', sb.extBut _ _ (nez (by decide)) eto⟩, M.i1.at fun o e => sb.extBut _ _ (nez (by decide)) e, M.i2.at fun o e => sb.extBut _ _ (nez (by decide)) e, M.i3.at fun o e => sb.extBut _ _ (nez (by decide)) e⟩
    · rw [upd_ne (Ne.symm (lt hd))]; exact (hf d hd).1
  done := by
    intro X hP hw hK hc i pins s σ H E I hf st hg
    subst hP hw hK
    obtain ⟨xs, q1, hx⟩ := hg
    obtain ⟨is1, r1, p1⟩ := I.seqB q1
    have e1 := r1.length
    refine next_zip3_end (I.ok.hd hc) st p1 (by simp; lia) fun h' kp => ⟨rfl, I.turnedL (t' := s.toks) (fun d o hd e => ?_) hf⟩
    simp only [List.mem_cons, List.not_mem_nil, or_false, not_or] at hd
    exact kp d o hd.1 hd.2.2.2.1 e
  self := fun _ _ _ _ _ st h => wpAny_pyIter_zip st.z h
section
variable {X : Cx}
def iZip3 (K : PySem.W.Frag) (ta : TA) : TI := fun σ H R => ta σ H fun vs H1 => ∃ b1 b2 b3 l1 l2 l3 xs ys zs, vs = [.ref l1, .ref l2, .ref l3] ∧ SqB K b1 H1 l1 xs ∧ SqB K b2 H1 l2 ys ∧ SqB K b3 H1 l3 zs ∧ R (Itz3 K b1 b2 b3 l1 l2 l3) H1
theorem pi_zip3 {es : List Expr} {kk : Nat} {ps : Pos} {a b c : Expr} {ta : TA} {p pos : Pos} (hg : Gl X "zip") (hm : X.mg "zip" = none) (ha : PA X [a, b, c] ta) (hs : starEach [a, b, c] X.env = [(false, eval a X.env), (false, eval b X.env), (false, eval c X.env)] := by rfl) (hs2 : starEach [b, c] X.env = [(false, eval b X.env), (false, eval c X.env)] := by rfl) :
    PI X (.Tuple es kk ps) (.Call (.Name "zip" p) [a, b, c] [] pos) (iZip3 X.K ta) := by
  intro pins s σ H R I h
  refine Call_ (ld_blt I hg hm boot_zip (PyProof.Rows.callWith_type1 (thn (ha pos pins s σ H _ I h) fun us s1 ⟨vs, H1, I1, r1, q1⟩ => ?_) (by rw [hs, hs2]) (by rw [hs2]; rfl)))
  obtain ⟨b1, b2, b3, l1, l2, l3, xs, ys, zs, e, q1, q2, q3, q⟩ := q1
  subst e
  cases r1 with
  | cons r rr =>
    cases rr with
    | cons r' rr =>
      cases rr with
      | cons r'' rr =>
        cases rr
        cases r
        cases r'
        cases r''
        obtain ⟨is1, r1, p1⟩ := I1.seqB q1
        obtain ⟨is2, r2, p2⟩ := I1.seqB q2
        obtain ⟨is3, r3, p3⟩ := I1.seqB q3
        refine call_zip3 p1 p2 p3 fun h' S kp => wpAny_pyIter_zip S.z ?_
        refine ⟨s1.heap.objs.size + 5, [s1.heap.objs.size + 5, s1.heap.objs.size + 3, s1.heap.objs.size + 4, s1.heap.objs.size + 0, s1.heap.objs.size + 1, s1.heap.objs.size + 2], _, _, H1, rfl, I1.kept (t' := s1.toks) kp, turn_zip3, S, fun d hd => ?_, q⟩
        have hd' : s1.heap.objs.size ≤ d := by
          simp only [List.mem_cons, List.not_mem_nil, or_false] at hd
          rcases hd with rfl | rfl | rfl | rfl | rfl | rfl <;> exact Nat.le_add_right _ _
        exact I1.fpOk hd' (I1.hok.fresh hd')
end
theorem reps3' {K : PySem.W.Frag} {G : Option Addr} {Z : Addr → Prop} {H : Hp} {d1 d2 d3 : D} {ws : List V} (h : Reps K G Z H [d1, d2, d3] ws) : ∃ v1 v2 v3, ws = [v1, v2, v3] ∧ Rep K G Z H d1 v1 ∧ Rep K G Z H d2 v2 ∧ Rep K G Z H d3 v3 := by
  obtain ⟨v1, r, rfl, q1, t⟩ := h.split
  obtain ⟨v2, v3, rfl, q2, q3⟩ := reps2 t
  exact ⟨v1, v2, v3, rfl, q1, q2, q3⟩
section
variable {A : AC} {X : Cx} {a b c : Expr} {t1 : TAD} {pos p : Pos}
def zipD3 (xs ys zs : List D) : List D := (xs.zip (ys.zip zs)).map fun q => D.tup [q.1, q.2.1, q.2.2]
def iZipD3 (t : TAD) : TID := fun rho n P => t rho n fun es n1 => ∃ d1 d2 d3 b1 xs b2 ys b3 zs, es = [d1, d2, d3] ∧ seqOf d1 = some (b1, xs) ∧ seqOf d2 = some (b2, ys) ∧ seqOf d3 = some (b3, zs) ∧ xs.length ≤ ys.length ∧ xs.length ≤ zs.length ∧ P (zipD3 xs ys zs) n1
def kZip3 (es : List D) (k : List D → Prop) : Prop := ∃ d1 d2 d3 b1 xs b2 ys b3 zs, es = [d1, d2, d3] ∧ seqOf d1 = some (b1, xs) ∧ seqOf d2 = some (b2, ys) ∧ seqOf d3 = some (b3, zs) ∧ xs.length ≤ ys.length ∧ xs.length ≤ zs.length ∧ k (zipD3 xs ys zs)
@[simp] theorem q_iZipD3 {t : TAD} {rho n P} : iZipD3 t rho n P ↔ t rho n fun es n1 => kZip3 es fun l => P l n1 := Iff.rfl
theorem kZip3_mk {d1 d2 d3 : D} {b1 b2 b3 xs ys zs} {k : List D → Prop} (h1 : seqOf d1 = some (b1, xs)) (h2 : seqOf d2 = some (b2, ys)) (h3 : seqOf d3 = some (b3, zs)) (z1 : xs.length ≤ ys.length) (z2 : xs.length ≤ zs.length) (h : k (zipD3 xs ys zs)) : kZip3 [d1, d2, d3] k := ⟨d1, d2, d3, b1, xs, b2, ys, b3, zs, rfl, h1, h2, h3, z1, z2, h⟩
theorem jis_zip3 {d1 d2 d3 : D} {l1 l2 l3 : Addr} {b1 b2 b3 : Bool} {xs ys zs : List D} (h1 : seqOf d1 = some (b1, xs)) (h2 : seqOf d2 = some (b2, ys)) (h3 : seqOf d3 = some (b3, zs)) (z1 : xs.length ≤ ys.length) (z2 : xs.length ≤ zs.length) : JIs A (Itz3 A.K b1 b2 b3 l1 l2 l3) [d1, d2, d3] [.ref l1, .ref l2, .ref l3] (zipD3 xs ys zs) := fun n rho sg H ds vs i ⟨os, I⟩ => by
  obtain ⟨I1, r1⟩ := AmO.pop (d := d1) (v := .ref l1) (ds := d2 :: d3 :: ds) (vs := .ref l2 :: .ref l3 :: vs) I
  obtain ⟨I2, r2⟩ := I1.pop
  obtain ⟨I3, r3⟩ := I2.pop
  obtain ⟨a1, us, e1, sq1, rs1⟩ := r1.seq h1
  obtain ⟨a2, ws, e2, sq2, rs2⟩ := r2.seq h2
  obtain ⟨a3, ts, e3, sq3, rs3⟩ := r3.seq h3
  cases e1; cases e2; cases e3
  refine ⟨fun d e => ?_, fun hi => ⟨us, sq1.sq, ?_⟩⟩
  · unfold zipD3 at e
    rw [List.getElem?_map] at e
    cases q : (xs.zip (ys.zip zs))[i]? with
    | none => rw [q] at e; cases e
    | some t =>
      rw [q] at e
      cases e
      obtain ⟨q1, q23⟩ := List.getElem?_zip_eq_some.mp q
      obtain ⟨q2, q3⟩ := List.getElem?_zip_eq_some.mp q23
      obtain ⟨u, eu, ru⟩ := rs1.get q1
      obtain ⟨w, ew, rw'⟩ := rs2.get q2
      obtain ⟨t', et, rt'⟩ := rs3.get q3
      refine ⟨⟨us, ws, ts, u, w, t', sq1.sq, sq2.sq, sq3.sq, eu, ew, et⟩, fun v H3 yy => ?_⟩
      obtain ⟨T, hT, rfl, k⟩ := yy
      obtain ⟨u', w', t'', eu', ew', et', rfl⟩ := k us ws ts sq1.sq sq2.sq sq3.sq
      rw [eu] at eu'; cases eu'
      rw [ew] at ew'; cases ew'
      rw [et] at et'; cases et'
      exact ⟨os, I.newTup (.cons ru (.cons rw' (.cons rt' .nil))) hT⟩
  · rw [rs1.length]
    unfold zipD3 at hi
    rw [List.length_map, List.length_zip, List.length_zip] at hi
    lia
theorem pid_zip3 {es : List Expr} {kk : Nat} {ps : Pos} (hK : X.K = A.K) (hm : X.mg "zip" = none) (ha : PAD A X [a, b, c] t1) (hg : Gl X "zip" := by rfl) (hs : starEach [a, b, c] X.env = [(false, eval a X.env), (false, eval b X.env), (false, eval c X.env)] := by rfl) (hs2 : starEach [b, c] X.env = [(false, eval b X.env), (false, eval c X.env)] := by rfl) :
    PID A X (.Tuple es kk ps) (.Call (.Name "zip" p) [a, b, c] [] pos) (iZipD3 t1) := by
  with_unfolding_all
    exact (pi_zip3 hg hm ha hs hs2).imp fun sg H R h => by
      obtain ⟨rho, n, P, ds, vs, I, ht, hQ⟩ := h
      refine ⟨rho, n, _, ds, vs, I, ht, fun ws H' n' es' ⟨os, J⟩ hl k => ?_⟩
      obtain ⟨d1, d2, d3, b1, xs, b2, ys, b3, zs, rfl, h1, h2, h3, z1, z2, k⟩ := k
      obtain ⟨J1, rs⟩ := J.split hl
      obtain ⟨v1, v2, v3, rfl, r1, r2, r3⟩ := reps3' rs
      obtain ⟨a1, us, rfl, sq1, rs1⟩ := r1.seq h1
      obtain ⟨a2, ws', rfl, sq2, rs2⟩ := r2.seq h2
      obtain ⟨a3, ts, rfl, sq3, rs3⟩ := r3.seq h3
      rw [hK]
      exact ⟨b1, b2, b3, a1, a2, a3, us, ws', ts, rfl, sq1.sq, sq2.sq, sq3.sq, hQ _ H' n' _ [d1, d2, d3] [.ref a1, .ref a2, .ref a3] ⟨os, J⟩ rfl (jis_zip3 h1 h2 h3 z1 z2) k⟩
end
end L2
set_option maxRecDepth 100000
set_option maxHeartbeats 1000000
namespace K16
open PySem L2 PySem.Spec PyProof.Rows
def top (i : Nat) : Stmt := PySem.Challenge.pw_boxlayers_k16_corners.main.body.getD i (.Pass ⟨0, 0, 0, 0⟩)
abbrev End := Option (Int × Bool)
def encEnd : End → D
  | none => .non
  | some (n, s) => .tup [.int n, .bl s]
def encPlace (p : List Int) : D := .tup (p.map D.int)
@[simp] theorem end_none : encEnd none = .non := rfl
@[simp] theorem end_some {n : Int} {s : Bool} : encEnd (some (n, s)) = .tup [.int n, .bl s] := rfl
section
variable {P : Program} {w : World} {K : PySem.W.Frag} {mg : Str → Option Value} {base : Heap}
end
end K16
set_option maxRecDepth 100000
set_option maxHeartbeats 1000000
namespace K16
open PySem L2 PySem.Spec PyProof.Rows
theorem pick {es : List D} {k : Int} {R : D → Prop} (h0 : 0 ≤ k) (h1 : k < es.length) (h : ∀ d ∈ es, R d) : rdIx (.lst es) (.int k) R := by
  obtain ⟨d, e, m⟩ := atI_lt h0 h1
  exact q_rdIxL.mpr ⟨d, e, h d m⟩
theorem pickI {js : List Int} {k : Int} {R : D → Prop} (lo hi : Int) (h0 : 0 ≤ k) (h1 : k < js.length) (hb : ∀ j ∈ js, lo ≤ j ∧ j ≤ hi) (h : ∀ j : Int, lo ≤ j → j ≤ hi → R (.int j)) : rdIx (.lst (js.map D.int)) (.int k) R := by
  refine pick h0 (by simpa using h1) fun d hd => ?_
  obtain ⟨j, hj, rfl⟩ := List.mem_map.mp hd
  exact h j (hb j hj).1 (hb j hj).2
def numsD (xs : List Int) : D := .lst (xs.map D.int)
theorem rng_len (c : Nat) : (rngD 0 c).length = c := by unfold rngD; rw [List.length_map, List.length_range]
theorem rng_at {c i : Nat} {d : D} (h : (rngD 0 c)[i]? = some d) : i < c ∧ d = .int (i : Int) := by
  have hi : i < c := by have := (List.getElem?_eq_some_iff.mp h).1; rw [rng_len] at this; exact this
  refine ⟨hi, ?_⟩
  unfold rngD at h
  rw [List.getElem?_map, List.getElem?_range hi] at h
  have := Option.some.inj h
  rw [← this]
  simp
theorem comp_dem0 {own : Nat} {g : TGD} {te : TD} {rho : Rho} {P : D → Nat → Prop} (items : List D) (n1 : Nat) (Good : D → D → Prop) (hz : items.length ≤ sizeLine)
    (he : ∀ (i : Nat) (d : D), items[i]? = some d → ∀ Q : D → Nat → Prop, (∀ e, Good d e → Q e n1) → g d (List.replicate own none ++ rho) fun rho' => rho'.drop own = rho ∧ te rho' n1 Q)
    (hP : ∀ es, Paired Good items es → P (.lst es) n1) : compIn own g bYes te rho P items n1 := by
  refine ⟨hz, fun i acc n => Paired Good (items.take i) acc ∧ n = n1, ⟨.nil, rfl⟩, ?_, ?_⟩
  · rintro i d acc n e ⟨h1, rfl⟩
    refine he i d e (fun e n3 => Paired Good (items.take (i + 1)) (acc ++ [e]) ∧ n3 = n) fun c hg => ⟨?_, rfl⟩
    rw [List.take_add_one, e]
    exact Paired.snoc h1 hg
  · rintro acc n ⟨h1, rfl⟩
    rw [List.take_length] at h1
    exact hP acc h1
section
variable {P : Program} {w : World} {K : PySem.W.Frag} {mg : Str → Option Value} {base : Heap}
abbrev s__law_cell_at : Stmt := top 7
abbrev N__law_cell_at : List Str := ["_law_script", "_law_k"]
theorem sc__law_cell_at : FnScope N__law_cell_at ["_law_script", "_law_k"] (defScope s__law_cell_at) := ⟨rfl, rfl, rfl, by decide +kernel, rfl, by decide +kernel, by decide +kernel⟩
def t_cell_at : TF := fun ds n Q => ∃ (ns : List Int) (j : Int), ds = [scriptD ns, .int j] ∧ 0 ≤ j ∧ ∀ x : Int, Q (.int x) n
theorem ok_cell_at {f : Addr} {fd : FuncData} (T : Blt mg) (F : Fun K "_law_cell_at" "_law_cell_at" s__law_cell_at f fd) : FnOk P w K mg base CX0 1 f fd ["_law_script", "_law_k"] (spD K 2 t_cell_at) := by
  refine Fun.okD F sc__law_cell_at (fun cdv A0 outer s H E G Z hr => (pssd_cons (psd_if (ptd_cmp op_lt re_lt (pd_var 1) (pd_callB call_len_seq cr_len T.len bt_len (pad_cons (pd_var 0) pad_nil)) (nomark _)) (pssd_one (psd_ret (pd_ix ix_seq re_ix (pd_var 0) (pd_var 1) (fun _ _ => rfl)))) pssd_nil)
    (pssd_one (psd_ret pd_int)))) ?_
  rintro ds n Q hl ⟨ns, j, rfl, hj, q⟩
  simp [startD, scriptD]
  split
  · rename_i h
    obtain ⟨d, e, m⟩ := atI_lt (xs := ns.map D.int) hj (by simpa using h)
    obtain ⟨x, _, rfl⟩ := List.mem_map.mp m
    exact ⟨_, e, q x⟩
  · exact q 0
abbrev s__law_left : Stmt := top 8
abbrev N__law_left : List Str := ["_law_script", "_law_k", "_law_cell", "_law_seed"]
theorem sc__law_left : FnScope N__law_left ["_law_script", "_law_k"] (defScope s__law_left) := ⟨rfl, rfl, rfl, by decide +kernel, rfl, by decide +kernel, by decide +kernel⟩
def t_left : TF := fun ds n Q => ∃ (ns : List Int) (j : Int), ds = [scriptD ns, .int j] ∧ ns.length ≤ 63 ∧ 0 ≤ j ∧ j < 1000 ∧ ∀ x y : Int, 0 ≤ x → 0 ≤ y → y < 2147483647 → Q (.lst [.int x, .int y]) n
theorem ok_left {f : Addr} {fd : FuncData} (T : Blt mg) (ND : base.NoDigits) (F : Fun K "_law_left" "_law_left" s__law_left f fd) (F__law_cell_at : Fn P w K mg base "_law_cell_at" 1 2 t_cell_at) : FnOk P w K mg base CX0 2 f fd ["_law_script", "_law_k"] (spD K 2 t_left) := by
  refine Fun.okD F sc__law_left (fun cdv A0 outer s H E G Z hr => (pssd_cons (psd_set (i := 2) sc__law_left.nd rfl (lo rfl) (pd_fn F__law_cell_at (hr.mono (by decide)) rfl (pad_cons (pd_var 0) (pad_cons (pd_mod (pd_var 1) (pd_callB (call_max2 rfl) cr_max2 T.max bt_max (pad_cons pd_int (pad_cons (pd_callB call_len_seq cr_len T.len bt_len (pad_cons (pd_var 0) pad_nil)) pad_nil)))) pad_nil))))
    (pssd_cons (psd_set (i := 3) sc__law_left.nd rfl (lo rfl) (pd_mod (pd_mul (pd_add (pd_add (pd_mod (pd_var 2) pd_int) (pd_mul (pd_mul pd_int (pd_var 1)) (pd_var 1))) pd_int) pd_int) pd_int))
    (pssd_one (psd_ret (pd_lst (pad_cons (pd_mod (pd_mul (pd_var 2) (pd_callTy call_int1 cr_intB T.int bt_int (pad_cons (pd_cmp op_ge re_ge (pd_var 2) (pd_pow pd_int pd_int) (nomark _)) pad_nil))) (pd_callTy (call_int_long ND) cr_intL T.int bt_int (pad_cons (pd_op op_add_str re_catS pd_str (pd_op op_mulS re_mulS pd_str pd_int)) pad_nil))) (pad_cons (pd_var 3) pad_nil)))))))) ?_
  rintro ds n Q hl ⟨ns, j, rfl, hns, hj0, hj1, q⟩
  have cm : ∀ {i j : Int}, (-(2 ^ 64) < i ∧ i < 2 ^ 64) → CMul i j := fun h => .inl h
  have cm' : ∀ {i j : Int}, (-(2 ^ 64) < j ∧ j < 2 ^ 64) → CMul i j := fun h => .inr h
  obtain ⟨big, hb0, hb1, hb2, hb3⟩ := int_noughts 4000 (by decide) (by decide)
  have hlen : (Str.ofString "1").length + (Txt.mul (Str.ofString "0") 4000).length ≤ sizeLine := by
    have ec := cps_noughts 4000 (by decide)
    have e1 : (Str.ofString "1").length = 1 := by decide +kernel
    have e2 : (Str.ofString "1" ++ Txt.mul (Str.ofString "0") 4000).cps.toList.length = (Str.ofString "1").cps.toList.length + (Txt.mul (Str.ofString "0") 4000).cps.toList.length := by
      rw [← List.length_append, ← Array.toList_append]; rfl
    rw [ec, List.length_cons, List.length_replicate] at e2
    have e3 : ∀ x : Str, x.cps.toList.length = x.length := fun x => Array.length_toList
    rw [e3, e3] at e2
    rw [sizeLine_eq]
    lia
  simp [startD, scriptD]
  refine ⟨by split <;> lia, ns, _, rfl, Int.emod_nonneg _ (by split <;> lia), fun x => ?_⟩
  have h7 : 0 ≤ 7919 * j * j := Int.mul_nonneg (by lia) hj0
  have h8 : 7919 * j * j ≤ 7919 * j * 1000 := Int.mul_le_mul_of_nonneg_left (by lia) (by lia)
  simp
  refine ⟨cm ⟨by decide, by decide⟩, cm ⟨by lia, by lia⟩, cm' ⟨by decide, by decide⟩, ⟨by decide, by decide, by decide⟩, cm' ⟨by split <;> decide, by split <;> decide⟩, mulok_nought 4000 (by decide) (by decide), hlen, ?_⟩
  refine ⟨_, big, rfl, hb1, hb2, hb3, ?_⟩
  simp
  exact ⟨hb0, q _ _ (Int.emod_nonneg _ (by lia)) (Int.emod_nonneg _ (by decide)) (Int.emod_lt_of_pos _ (by decide))⟩
abbrev s__law_pick : Stmt := top 9
abbrev N__law_pick : List Str := ["_law_left_here", "_law_many", "_law_digit"]
theorem sc__law_pick : FnScope N__law_pick ["_law_left_here", "_law_many"] (defScope s__law_pick) := ⟨rfl, rfl, rfl, by decide +kernel, rfl, by decide +kernel, by decide +kernel⟩
def t_pick : TF := fun ds n Q => ∃ m : Int, ds = [.st, .int m] ∧ n = 2 ∧ 0 < m ∧ m < 10000000 ∧ ∀ k : Int, 0 ≤ k → k < m → Q (.int k) n
theorem ok_pick {f : Addr} {fd : FuncData} (F : Fun K "_law_pick" "_law_pick" s__law_pick f fd) : FnOk P w K mg base CX0 1 f fd ["_law_left_here", "_law_many"] (spD K 2 t_pick) := by
  refine Fun.okD F sc__law_pick (fun cdv A0 outer s H E G Z hr => (pssd_cons (psd_if (ptd_cmp op_gt re_gt (pd_stIx (i := 0) pd_int (fun _ _ => rfl)) pd_int (nomark _)) (pssd_cons (psd_set (i := 2) sc__law_pick.nd rfl (lo rfl) (pd_mod (pd_stIx (i := 0) pd_int (fun _ _ => rfl)) (pd_var 1)))
    (pssd_cons (psd_stSet (i := 0) (pd_div (pd_stIx (i := 0) pd_int (fun _ _ => rfl)) (pd_var 1)) pd_int)
    (pssd_one (psd_ret (pd_var 2))))) pssd_nil)
    (pssd_cons (psd_stSet (i := 0) (pd_mod (pd_add (pd_mul (pd_stIx (i := 0) pd_int (fun _ _ => rfl)) pd_int) pd_int) pd_int) pd_int)
    (pssd_one (psd_ret (pd_mod (pd_mod (pd_mul (pd_stIx (i := 0) pd_int (fun _ _ => rfl)) (pd_stIx (i := 0) pd_int (fun _ _ => rfl))) pd_int) (pd_var 1))))))) ?_
  rintro ds n Q hl ⟨m, rfl, rfl, hm, hm2, q⟩
  have cm : ∀ {i j : Int}, (-(2 ^ 64) < i ∧ i < 2 ^ 64) → CMul i j := fun h => .inl h
  simp [startD]
  intro z0 h0
  split
  · intro z hz
    exact ⟨hm, fun z1 hz1 => ⟨⟨hm, by lia⟩, Int.ediv_nonneg hz1 (by lia), q _ (Int.emod_nonneg _ (by lia)) (Int.emod_lt_of_pos _ hm)⟩⟩
  · intro z hz hz2
    exact ⟨cm ⟨by lia, by lia⟩, Int.emod_nonneg _ (by decide), Int.emod_lt_of_pos _ (by decide), fun y hy hy2 z1 h1 h1' => ⟨cm ⟨by lia, by lia⟩, hm, q _ (Int.emod_nonneg _ (by lia)) (Int.emod_lt_of_pos _ hm)⟩⟩
theorem pick_intro {m : Int} {Q : D → Nat → Prop} (h0 : 0 < m) (h1 : m < 10000000) (h : ∀ k : Int, 0 ≤ k → k < m → Q (.int k) 2) : t_pick [.st, .int m] 2 Q := ⟨m, rfl, rfl, h0, h1, h⟩
end
end K16
set_option maxRecDepth 100000
set_option maxHeartbeats 1000000
namespace K16
open PySem L2 PySem.Spec PyProof.Rows
abbrev Thing := Int × List Int × Int
def encThing (t : Thing) : D := .tup [.int t.1, encPlace t.2.1, .int t.2.2]
def small (x : Int) : Prop := -1000000000000000000 ≤ x ∧ x ≤ 1000000000000000000
def inP (X : List Int) (x : Int) : Prop := x ∈ X ∧ small x
structure GoodT (X : List Int) (d : Nat) (ts : List Thing) (top : Int) : Prop where
  each : ∀ t ∈ ts, 0 ≤ t.1 ∧ t.1 < top ∧ t.2.1.length = d ∧ (∀ x ∈ t.2.1, inP X x) ∧ small t.2.2
  up : ts.Pairwise fun a b => a.1 < b.1
theorem GoodT.nil (X : List Int) (d : Nat) (top : Int) : GoodT X d [] top := ⟨by simp, .nil⟩
theorem GoodT.snoc {X : List Int} {d : Nat} {ts : List Thing} {x top : Int} (h : GoodT X d ts x) (hx : 0 ≤ x) (ht : x < top) {p : List Int} (hp : p.length = d) (hs : ∀ x ∈ p, inP X x) {y : Int} (hy : small y) : GoodT X d (ts ++ [(x, p, y)]) top := by
  refine ⟨fun t hm => ?_, ?_⟩
  · rcases List.mem_append.mp hm with hm | hm
    · have := h.each t hm
      exact ⟨this.1, by lia, this.2.2⟩
    · rw [List.mem_singleton.mp hm]; exact ⟨hx, ht, hp, hs, hy⟩
  · rw [List.pairwise_append]
    refine ⟨h.up, by simp, fun a ha b hb => ?_⟩
    rw [List.mem_singleton.mp hb]
    exact (h.each a ha).2.1
theorem GoodT.more {X : List Int} {d : Nat} {ts : List Thing} {x top : Int} (h : GoodT X d ts x) (ht : x ≤ top) : GoodT X d ts top := ⟨fun t hm => by have := h.each t hm; exact ⟨this.1, by lia, this.2.2⟩, h.up⟩
theorem okE_thing (t : Thing) (k : Nat) : okE (encThing t) (k + 2) = true := by
  refine okE_tup.mpr fun d hd => ?_
  simp only [List.mem_cons, List.not_mem_nil, or_false] at hd
  rcases hd with rfl | rfl | rfl
  · exact okE_int
  · refine okE_tup.mpr fun d hd => ?_
    obtain ⟨x, _, rfl⟩ := List.mem_map.mp hd
    exact okE_int
  · exact okE_int
theorem okE_thingsL (ts : List Thing) : okE (.lst (ts.map encThing)) 20 = true := okE_lst.mpr fun d hd => by
  obtain ⟨t, _, rfl⟩ := List.mem_map.mp hd
  exact okE_thing t 17
theorem paired_small {X : List Int} : ∀ {l es : List D}, Paired (fun _ e => ∃ x : Int, inP X x ∧ e = .int x) l es → ∃ xs : List Int, es = xs.map D.int ∧ ∀ x ∈ xs, inP X x
  | _, _, .nil => ⟨[], rfl, by simp⟩
  | _, _, .cons r t => by
    obtain ⟨x, hx, rfl⟩ := r
    obtain ⟨xs, rfl, h⟩ := paired_small t
    exact ⟨x :: xs, rfl, fun y hy => by rcases List.mem_cons.mp hy with rfl | hy; exact hx; exact h y hy⟩
structure JThs (X : List Int) (d : Nat) (dd mm pp : Option D) (i : Nat) (rho : Rho) (n : Nat) : Prop where
  e : n = 2
  r : ∃ (ts : List Thing) (x : Int) (u v w : Option D), ts.length = i ∧ -1 ≤ x ∧ x + 1 ≤ 6 * i ∧ GoodT X d ts (x + 1) ∧ rho = [some .st, dd, mm, pp, some (.own (ts.map encThing)), some (.int x), u, v, w]
section
variable {P : Program} {w : World} {K : PySem.W.Frag} {mg : Str → Option Value} {base : Heap}
abbrev s__law_pool : Stmt := top 10
abbrev N__law_pool : List Str := ["_law_left_here", "_law_low", "_law_stride"]
theorem sc__law_pool : FnScope N__law_pool ["_law_left_here"] (defScope s__law_pool) := ⟨rfl, rfl, rfl, by decide +kernel, rfl, by decide +kernel, by decide +kernel⟩
theorem nd__law_pool_0 : ("_law_k" :: N__law_pool : List Str).Nodup := by decide +kernel
def t_pool : TF := fun ds n Q => ds = [.st] ∧ n = 2 ∧ ∀ xs : List Int, 1 ≤ xs.length → xs.length ≤ 8 → (∀ x ∈ xs, small x) → Q (numsD xs) n
theorem ok_pool {f : Addr} {fd : FuncData} (T : Blt mg) (F : Fun K "_law_pool" "_law_pool" s__law_pool f fd) (F__law_pick : Fn P w K mg base "_law_pick" 1 2 t_pick) : FnOk P w K mg base CX0 2 f fd ["_law_left_here"] (spD K 1 t_pool) := by
  refine Fun.okD F sc__law_pool (fun cdv A0 outer s H E G Z hr => (pssd_cons (psd_set (i := 1) sc__law_pool.nd rfl (lo rfl) (pd_ix ix_seq re_ix (pd_lst (pad_cons pd_int (pad_cons (pd_neg pd_int) (pad_cons (pd_pow pd_int pd_int) (pad_cons (pd_neg (pd_pow pd_int pd_int)) (pad_cons pd_int pad_nil)))))) (pd_fn F__law_pick (hr.mono (by decide)) rfl (pad_cons (pd_var 0) (pad_cons pd_int pad_nil))) (fun _ _ => rfl)))
    (pssd_cons (psd_set (i := 2) sc__law_pool.nd rfl (lo rfl) (pd_ix ix_seq re_ix (pd_lst (pad_cons pd_int (pad_cons pd_int (pad_cons pd_int (pad_cons pd_int (pad_cons pd_int (pad_cons (pd_pow pd_int pd_int) pad_nil))))))) (pd_fn F__law_pick (hr.mono (by decide)) rfl (pad_cons (pd_var 0) (pad_cons pd_int pad_nil))) (fun _ _ => rfl)))
    (pssd_one (psd_ret (pd_comp (own := ["_law_k"]) (M := N__law_pool) (compOk (by rfl)) rfl (pid_rng T.range (pad_cons (pd_ix ix_seq re_ix (pd_lst (pad_cons pd_int (pad_cons pd_int (pad_cons pd_int (pad_cons pd_int (pad_cons pd_int (pad_cons pd_int pad_nil))))))) (pd_fn F__law_pick (hr.mono (by decide)) rfl (pad_cons (pd_var 0) (pad_cons pd_int pad_nil))) (fun _ _ => rfl)) pad_nil)) (fun C s2 H2 fp => (pgd_name (i := 0) nd__law_pool_0 rfl (lo rfl) (by decide))) (fun C s2 H2 fp => ptsd_nil) (fun C s2 H2 fp => (pd_add (pd_var 2) (pd_mul (pd_var 3) (pd_var 0)))))))))) ?_
  rintro ds n Q hl ⟨rfl, rfl, q⟩
  simp [startD]
  refine ⟨⟨by decide, by decide, by decide⟩, pick_intro (by decide) (by decide) fun k h0 h1 => pickI (js := [0, -3, 10000000000000000, -10000000000000000, 7]) (-10000000000000000) 10000000000000000 h0 (by simpa using h1) (by decide) fun a ha0 ha1 => ?_⟩
  refine ⟨⟨by decide, by decide, by decide⟩, pick_intro (by decide) (by decide) fun k2 h2 h3 => pickI (js := [1, 1, 2, 3, 1000, 1000000000000000]) 1 1000000000000000 h2 (by simpa using h3) (by decide) fun b hb0 hb1 => ?_⟩
  refine pick_intro (by decide) (by decide) fun k3 h4 h5 => pickI (js := [1, 2, 3, 5, 8, 8]) 1 8 h4 (by simpa using h5) (by decide) fun c hc0 hc1 => ?_
  obtain ⟨cn, rfl⟩ := Int.eq_ofNat_of_zero_le (show 0 ≤ c by lia)
  refine ⟨_, rfl, by lia, by lia, ?_⟩
  have er : rngD 0 ((cn : Int)).toNat = (List.range cn).map fun (i : Nat) => .int (i : Int) := by
    unfold rngD
    rw [Int.toNat_natCast]
    refine List.map_congr_left fun i _ => ?_
    simp
  rw [er]
  refine comp_mapIn (fun (i : Nat) => .int (i : Int)) (fun (i : Nat) => .int (a + b * i)) (List.range cn) (le_size (by simp; lia)) (fun i hi R hR => ?_) ?_
  · simp
    exact ⟨.inl ⟨by lia, by lia⟩, hR⟩
  · have e2 : ((List.range cn).map fun (i : Nat) => D.int (a + b * i)) = ((List.range cn).map fun (i : Nat) => a + b * (i : Int)).map D.int := by rw [List.map_map]; rfl
    rw [e2]
    refine q _ (by simp; lia) (by simp; lia) fun x hx => ?_
    obtain ⟨i, hi, rfl⟩ := List.mem_map.mp hx
    have hi' := List.mem_range.mp hi
    have p1 : 0 ≤ b * (i : Int) := Int.mul_nonneg (by lia) (by lia)
    have p2 : b * (i : Int) ≤ 1000000000000000 * 8 := Int.mul_le_mul hb1 (by lia) (by lia) (by lia)
    constructor <;> lia
abbrev s__law_number : Stmt := top 11
abbrev N__law_number : List Str := ["_law_left_here", "_law_pool_here"]
theorem sc__law_number : FnScope N__law_number ["_law_left_here", "_law_pool_here"] (defScope s__law_number) := ⟨rfl, rfl, rfl, by decide +kernel, rfl, by decide +kernel, by decide +kernel⟩
def t_number : TF := fun ds n Q => ∃ xs : List Int, ds = [.st, numsD xs] ∧ n = 2 ∧ 1 ≤ xs.length ∧ xs.length ≤ 1000 ∧ ∀ x ∈ xs, Q (.int x) n
theorem ok_number {f : Addr} {fd : FuncData} (T : Blt mg) (F : Fun K "_law_number" "_law_number" s__law_number f fd) (F__law_pick : Fn P w K mg base "_law_pick" 1 2 t_pick) : FnOk P w K mg base CX0 2 f fd ["_law_left_here", "_law_pool_here"] (spD K 2 t_number) := by
  refine Fun.okD F sc__law_number (fun cdv A0 outer s H E G Z hr => (pssd_one (psd_ret (pd_ix ix_seq re_ix (pd_var 1) (pd_fn F__law_pick (hr.mono (by decide)) rfl (pad_cons (pd_var 0) (pad_cons (pd_callB call_len_seq cr_len T.len bt_len (pad_cons (pd_var 1) pad_nil)) pad_nil))) (fun _ _ => rfl))))) ?_
  rintro ds n Q hl ⟨xs, rfl, rfl, h1, h2, q⟩
  simp [startD, numsD]
  refine pick_intro (by lia) (by lia) fun k h3 h4 => pick h3 (by simpa using h4) fun d hd => ?_
  obtain ⟨x, hx, rfl⟩ := List.mem_map.mp hd
  exact q x hx
abbrev s__law_things : Stmt := top 12
abbrev N__law_things : List Str := ["_law_left_here", "_law_d", "_law_many", "_law_pool_here", "_law_things_here", "_law_name", "_law_k", "_law_place", "_law_worth"]
theorem sc__law_things : FnScope N__law_things ["_law_left_here", "_law_d", "_law_many", "_law_pool_here"] (defScope s__law_things) := ⟨rfl, rfl, rfl, by decide +kernel, rfl, by decide +kernel, by decide +kernel⟩
theorem nd__law_things_0 : ("_law_i" :: N__law_things : List Str).Nodup := by decide +kernel
def t_things : TF := fun ds n Q => ∃ (d m : Nat) (xs : List Int), ds = [.st, .int d, .int m, numsD xs] ∧ n = 2 ∧ 1 ≤ d ∧ d ≤ 4 ∧ m ≤ 300 ∧ 1 ≤ xs.length ∧ xs.length ≤ 8 ∧ (∀ x ∈ xs, small x) ∧ ∀ ts : List Thing, GoodT xs d ts 2000 → ts.length = m → Q (.tup (ts.map encThing)) n
theorem ok_things {f : Addr} {fd : FuncData} (T : Blt mg) (F : Fun K "_law_things" "_law_things" s__law_things f fd) (F__law_pick : Fn P w K mg base "_law_pick" 1 2 t_pick) (F__law_number : Fn P w K mg base "_law_number" 2 2 t_number) : FnOk P w K mg base CX0 3 f fd ["_law_left_here", "_law_d", "_law_many", "_law_pool_here"] (spD K 4 t_things) := by
  refine Fun.okD F sc__law_things (fun cdv A0 outer s H E G Z hr => (pssd_cons (psd_own (i := 4) sc__law_things.nd rfl (lo rfl) pad_nil)
    (pssd_cons (psd_set (i := 5) sc__law_things.nd rfl (lo rfl) (pd_neg pd_int))
    (pssd_cons (psd_for (m := 9) PassesOwn.never rfl (pid_rng T.range (pad_cons (pd_var 2) pad_nil)) (pgd_name (i := 6) sc__law_things.nd rfl (lo rfl) (by decide))
    (pssd_cons (psd_set (i := 5) sc__law_things.nd rfl (lo rfl) (pd_add (pd_add (pd_var 5) pd_int) (pd_ix ix_seq re_ix (pd_lst (pad_cons pd_int (pad_cons pd_int (pad_cons pd_int (pad_cons pd_int pad_nil))))) (pd_fn F__law_pick (hr.mono (by decide)) rfl (pad_cons (pd_var 0) (pad_cons pd_int pad_nil))) (fun _ _ => rfl))))
    (pssd_cons (psd_set (i := 7) sc__law_things.nd rfl (lo rfl) (pd_callTy call_tuple_of cr_tuple T.tuple bt_tuple (pad_cons (pd_comp (own := ["_law_i"]) (M := N__law_things) (compOk (by rfl)) rfl (pid_rng T.range (pad_cons (pd_var 1) pad_nil)) (fun C s2 H2 fp => (pgd_name (i := 0) nd__law_things_0 rfl (lo rfl) (by decide))) (fun C s2 H2 fp => ptsd_nil) (fun C s2 H2 fp => (pd_fn F__law_number (hr.mono (by decide)) rfl (pad_cons (pd_var 1) (pad_cons (pd_var 4) pad_nil))))) pad_nil)))
    (pssd_cons (psd_if (PWD.pt (pwd_and (ptd_ownNe (i := 4) hr rfl) (pwd_and1 (ptd_cmp (op_deq hr) (re_deq rfl) (pd_fn F__law_pick (hr.mono (by decide)) rfl (pad_cons (pd_var 0) (pad_cons pd_int pad_nil))) pd_int (nomark _))))) (pssd_one (psd_set (i := 7) sc__law_things.nd rfl (lo rfl) (pd_ix ix_seq re_ix (pd_ownIx (i := 4) (pd_fn F__law_pick (hr.mono (by decide)) rfl (pad_cons (pd_var 0) (pad_cons (pd_ownLen (i := 4) T.len rfl) pad_nil))) (fun _ _ => rfl)) pd_int (fun _ _ => rfl)))) pssd_nil)
    (pssd_cons (psd_set (i := 8) sc__law_things.nd rfl (lo rfl) (pd_ix ix_seq re_ix (pd_lst (pad_cons (pd_fn F__law_pick (hr.mono (by decide)) rfl (pad_cons (pd_var 0) (pad_cons pd_int pad_nil))) (pad_cons (pd_sub (pd_neg pd_int) (pd_fn F__law_pick (hr.mono (by decide)) rfl (pad_cons (pd_var 0) (pad_cons pd_int pad_nil)))) (pad_cons (pd_add (pd_pow pd_int pd_int) (pd_fn F__law_pick (hr.mono (by decide)) rfl (pad_cons (pd_var 0) (pad_cons pd_int pad_nil)))) (pad_cons pd_int pad_nil))))) (pd_fn F__law_pick (hr.mono (by decide)) rfl (pad_cons (pd_var 0) (pad_cons pd_int pad_nil))) (fun _ _ => rfl)))
    (pssd_one (psd_append (i := 4) (pad_cons (pd_tup (pad_cons (pd_var 5) (pad_cons (pd_var 7) (pad_cons (pd_var 8) pad_nil)))) pad_nil) rfl)))))))
    (pssd_one (psd_frz 4 (psd_ret (pd_callTy call_tuple_of cr_tuple T.tuple bt_tuple (pad_cons (pd_var 4) pad_nil))))))))) ?_
  rintro ds n Q hl ⟨d, m, xs, rfl, rfl, hd1, hd4, hm, hx1, hx8, hxs, q⟩
  simp [startD]
  refine ⟨by lia, JThs xs d _ _ _, ⟨rfl, [], -1, _, _, _, rfl, by lia, by lia, GoodT.nil xs d _, rfl⟩, ?_, ?_⟩
  · rintro i d' rho n' e ⟨rfl, ts, x, u, v, w', hl, hx0, hx1', hg, rfl⟩
    obtain ⟨hi, rfl⟩ := rng_at e
    generalize hS : sSeq (sSet 8 _) _ = S
    have cont : ∀ (x' : Int) (p : List Int) (F : EndsD), F.nx = JThs xs d (some (.int d)) (some (.int m)) (some (numsD xs)) (i + 1) → x + 1 ≤ x' → x' ≤ x + 6 → p.length = d → (∀ y ∈ p, inP xs y) →
        S F [some .st, some (.int d), some (.int m), some (numsD xs), some (.own (ts.map encThing)), some (.int x'), some (.int i), some (encPlace p), w'] 2 := fun x' p F hF hx' hx6 hp hps => by
      subst hS
      have np : notOwn (encPlace p) = true := rfl
      simp [np]
      refine pick_intro (by decide) (by decide) fun a1 b1 c1 => pick_intro (by decide) (by decide) fun a2 b2 c2 => ?_
      simp
      refine ⟨⟨by decide, by decide, by decide⟩, pick_intro (by decide) (by decide) fun a3 b3 c3 => ?_⟩
      simp
      refine pick_intro (by decide) (by decide) fun a4 b4 c4 => ?_
      obtain ⟨y, ey, my⟩ := atI_lt (xs := [D.int a1, D.int (-1 - a2), D.int (10000000000000000 + a3), D.int 0]) (i := a4) b4 (by simpa using c4)
      obtain ⟨z, hz, rfl⟩ : ∃ z : Int, small z ∧ y = .int z := by
        simp only [List.mem_cons, List.not_mem_nil, or_false] at my
        rcases my with rfl | rfl | rfl | rfl
        · exact ⟨_, ⟨by lia, by lia⟩, rfl⟩
        · exact ⟨_, ⟨by lia, by lia⟩, rfl⟩
        · exact ⟨_, ⟨by lia, by lia⟩, rfl⟩
        · exact ⟨_, ⟨by lia, by lia⟩, rfl⟩
      refine q_rdIxL.mpr ⟨_, ey, ?_⟩
      simp [hF, np]
      refine ⟨lt_size (by lia), rfl, ts ++ [(x', p, z)], x', _, _, _, by simp [hl], by lia, by lia, (hg.more (by lia)).snoc (by lia) (by lia) hp hps hz, by rw [List.map_append]; rfl⟩
    simp
    refine pick_intro (by decide) (by decide) fun k1 g1 g2 => pickI (js := [0, 0, 1, 5]) 0 5 g1 (by simpa using g2) (by decide) fun t ht0 ht1 => ?_
    simp
    refine ⟨by lia, comp_dem0 (rngD 0 d) 2 (fun _ e => ∃ x : Int, inP xs x ∧ e = .int x) (by rw [rng_len]; exact le_size (by lia)) (fun j d2 e2 Q' hQ' => ?_) (fun es hp => ?_)⟩
    · have nn : notOwn (numsD xs) = true := rfl
      simp [nn]
      exact ⟨xs, rfl, rfl, hx1, by lia, fun y hy => hQ' _ ⟨y, ⟨hy, hxs y hy⟩, rfl⟩⟩
    · have hlen := hp.length
      obtain ⟨ps, rfl, hps⟩ := paired_small hp
      rw [rng_len, List.length_map] at hlen
      have okt := okE_thingsL ts
      simp [okt]
      split
      · exact cont _ ps _ rfl (by lia) (by lia) (by lia) hps
      · rename_i hne
        have hpos : 0 < ts.length := by
          rcases ts with _ | ⟨b, ts⟩
          · exact absurd (by unfold eqDs; rfl) hne
          · simp
        refine pick_intro (by decide) (by decide) fun k2 g3 g4 => ?_
        first | simp | simp [okE, eqD]
        split
        · refine pick_intro (by lia) (by lia) fun k3 g5 g6 => ?_
          obtain ⟨y, ey, my⟩ := atI_lt (xs := ts.map encThing) (i := k3) g5 (by simpa using g6)
          obtain ⟨t', ht', rfl⟩ := List.mem_map.mp my
          obtain ⟨y1, p1, w1⟩ := t'
          have he := hg.each _ ht'
          refine ⟨_, rfl, _, ey, ?_⟩
          refine ⟨_, _, encPlace p1, .inr (.inl rfl), rfl, rfl, ?_⟩
          exact cont _ p1 _ rfl (by lia) (by lia) he.2.2.1 he.2.2.2.1
        · exact cont _ ps _ rfl (by lia) (by lia) (by lia) hps
  · rintro rho n' ⟨rfl, ts, x, u, v, w', hl, hx0, hx1', hg, rfl⟩
    rw [rng_len] at hl hx1'
    simp
    exact q ts (hg.more (by lia)) hl
abbrev s__law_house : Stmt := top 13
abbrev N__law_house : List Str := ["_law_left_here", "_law_most", "_law_pool_here", "_law_numbers", "_law_d", "_law_many"]
theorem sc__law_house : FnScope N__law_house ["_law_left_here", "_law_most", "_law_pool_here", "_law_numbers"] (defScope s__law_house) := ⟨rfl, rfl, rfl, by decide +kernel, rfl, by decide +kernel, by decide +kernel⟩
def t_house : TF := fun ds n Q => ∃ (most nn : Nat) (xs : List Int), ds = [.st, .int most, numsD xs, .int nn] ∧ n = 2 ∧ most ≤ 300 ∧ 1 ≤ nn ∧ nn ≤ 4 ∧ 1 ≤ xs.length ∧ xs.length ≤ 8 ∧ (∀ x ∈ xs, small x) ∧ ∀ (d : Nat) (ts : List Thing), 1 ≤ d → d ≤ nn → GoodT xs d ts 2000 → ts.length ≤ most → Q (.tup [.int d, .tup (ts.map encThing)]) n
theorem ok_house {f : Addr} {fd : FuncData} (T : Blt mg) (F : Fun K "_law_house" "_law_house" s__law_house f fd) (F__law_pick : Fn P w K mg base "_law_pick" 1 2 t_pick) (F__law_things : Fn P w K mg base "_law_things" 3 4 t_things) : FnOk P w K mg base CX0 4 f fd ["_law_left_here", "_law_most", "_law_pool_here", "_law_numbers"] (spD K 4 t_house) := by
  refine Fun.okD F sc__law_house (fun cdv A0 outer s H E G Z hr => (pssd_cons (psd_set (i := 4) sc__law_house.nd rfl (lo rfl) (pd_add pd_int (pd_fn F__law_pick (hr.mono (by decide)) rfl (pad_cons (pd_var 0) (pad_cons (pd_var 3) pad_nil)))))
    (pssd_cons (psd_set (i := 5) sc__law_house.nd rfl (lo rfl) (pd_ix ix_seq re_ix (pd_lst (pad_cons pd_int (pad_cons pd_int (pad_cons pd_int (pad_cons pd_int (pad_cons pd_int (pad_cons pd_int (pad_cons pd_int (pad_cons (pd_var 1) pad_nil))))))))) (pd_fn F__law_pick (hr.mono (by decide)) rfl (pad_cons (pd_var 0) (pad_cons pd_int pad_nil))) (fun _ _ => rfl)))
    (pssd_one (psd_ret (pd_tup (pad_cons (pd_var 4) (pad_cons (pd_fn F__law_things (hr.mono (by decide)) rfl (pad_cons (pd_var 0) (pad_cons (pd_var 4) (pad_cons (pd_callB (call_min2 rfl) cr_min2 T.min bt_min (pad_cons (pd_var 5) (pad_cons (pd_var 1) pad_nil))) (pad_cons (pd_var 2) pad_nil))))) pad_nil)))))))) ?_
  rintro ds n Q hl ⟨most, nn, xs, rfl, rfl, hm, hn1, hn4, hx1, hx8, hxs, q⟩
  have nn' : notOwn (numsD xs) = true := rfl
  simp [startD]
  refine pick_intro (by lia) (by lia) fun k h0 h1 => ?_
  simp
  refine ⟨le_size (by decide), pick_intro (by decide) (by decide) fun k2 h2 h3 => ?_⟩
  obtain ⟨y, ey, my⟩ := atI_lt (xs := [0, 1, 2, 3, 5, 8, 12, (most : Int)].map D.int) (i := k2) h2 (by simpa using h3)
  obtain ⟨z, hz, rfl⟩ := List.mem_map.mp my
  have hz0 : 0 ≤ z := by
    simp only [List.mem_cons, List.not_mem_nil, or_false] at hz
    lia
  refine q_rdIxL.mpr ⟨_, ey, ?_⟩
  simp [nn']
  obtain ⟨dn, hdn⟩ := Int.eq_ofNat_of_zero_le (show 0 ≤ 1 + k by lia)
  obtain ⟨mn, hmn⟩ := Int.eq_ofNat_of_zero_le (show 0 ≤ (if (most : Int) < z then (most : Int) else z) by split <;> lia)
  have hmm : mn ≤ most := by
    have : (if (most : Int) < z then (most : Int) else z) ≤ most := by split <;> lia
    lia
  rw [hdn, hmn]
  exact ⟨dn, mn, xs, rfl, rfl, by lia, by lia, by lia, hx1, hx8, hxs, fun ts hg hlen => q dn ts (by lia) (by lia) hg (by lia)⟩
end
end K16
set_option maxRecDepth 100000
set_option maxHeartbeats 1000000
namespace K16
open PySem L2 PySem.Spec PyProof.Rows
section
variable {P : Program} {w : World} {K : PySem.W.Frag} {mg : Str → Option Value} {base : Heap}
abbrev s__law_same : Stmt := top 14
abbrev N__law_same : List Str := ["_law_found", "_law_due"]
theorem sc__law_same : FnScope N__law_same ["_law_found", "_law_due"] (defScope s__law_same) := ⟨rfl, rfl, rfl, by decide +kernel, rfl, by decide +kernel, by decide +kernel⟩
theorem nd__law_same_0 : ("_law_one" :: "_law_other" :: N__law_same : List Str).Nodup := by decide +kernel
def t_same : Nat → TF
  | 0 => fun _ _ _ => False
  | j + 1 => fun ds n Q => ∃ d, ds = [d, d] ∧ okT d j = true ∧ Q (.bl true) n
theorem ok_same {f : Addr} {fd : FuncData} (T : Blt mg) (F : Fun K "_law_same" "_law_same" s__law_same f fd) (hm : mg "_law_same" = some (.ref f)) (hk : PySem.W.keepIn K (.ref f) = true) (hb : Binds K fd ["_law_found", "_law_due"] []) : ∀ j : Nat, FnOk P w K mg base CX0 j f fd ["_law_found", "_law_due"] (spD K 2 (t_same j)) := by
  intro j
  induction j with
  | zero => exact FnOk.bot fun ds n Q h => h
  | succ j ih =>
    have F__law_same : Fn P w K mg base "_law_same" j 2 (t_same j) := ⟨f, fd, _, ih, hm, hk, hb⟩
    refine Fun.okD F sc__law_same (fun cdv A0 outer s H E G Z hr => (pssd_cons (psd_if (ptd_val (pd_callB call_isi cr_isi T.isi bt_isi (pad_cons (pd_var 1) (pad_cons (pd_ty (hm := T.tuple) (hv := bt_tuple)) pad_nil)))) (pssd_cons (psd_if (PWD.pt (pwd_or (ptd_not (ptd_val (pd_callB call_isi cr_isi T.isi bt_isi (pad_cons (pd_var 0) (pad_cons (pd_ty (hm := T.tuple) (hv := bt_tuple)) pad_nil))))) (pwd_or1 (ptd_cmp op_ne re_ne (pd_callB call_len_seq cr_len T.len bt_len (pad_cons (pd_var 0) pad_nil)) (pd_callB call_len_seq cr_len T.len bt_len (pad_cons (pd_var 1) pad_nil)) (nomark _))))) (pssd_one (psd_ret pd_bl)) pssd_nil)
    (pssd_one (psd_ret (pd_callB (call_all rfl) cr_all T.all bt_all (pad_cons (pd_comp (own := ["_law_one", "_law_other"]) (M := N__law_same) (compOk (by rfl)) rfl (pid_zip rfl T.zip (pad_cons (pd_var 0) (pad_cons (pd_var 1) pad_nil))) (fun C s2 H2 fp => (pgd_tup (k := 2) rfl rfl (pgsd_cons (pgd_name (i := 0) nd__law_same_0 rfl (lo rfl) (by decide)) (pgsd_cons (pgd_name (i := 1) nd__law_same_0 rfl (lo rfl) (by decide)) pgsd_nil)))) (fun C s2 H2 fp => ptsd_nil) (fun C s2 H2 fp => (pd_fn F__law_same hr rfl (pad_cons (pd_var 0) (pad_cons (pd_var 1) pad_nil))))) pad_nil))))) pssd_nil)
    (pssd_cons (psd_if (ptd_cmp op_isN re_isN (pd_var 1) pd_non (nomark _)) (pssd_one (psd_ret (pd_cmp op_isN re_isN (pd_var 0) pd_non (nomark _)))) pssd_nil)
    (pssd_cons (psd_if (ptd_val (pd_callB call_isi cr_isi T.isi bt_isi (pad_cons (pd_var 1) (pad_cons (pd_ty (hm := T.str) (hv := bt_str)) pad_nil)))) (pssd_one (psd_ret (pd_and (pd_callB call_isi cr_isi T.isi bt_isi (pad_cons (pd_var 0) (pad_cons (pd_ty (hm := T.str) (hv := bt_str)) pad_nil))) (pd_one (pd_cmp op_eq re_eq (pd_var 0) (pd_var 1) (nomark _)))))) pssd_nil)
    (pssd_cons (psd_if (PWD.pt (pwd_or (ptd_val (pd_callB call_isi cr_isi T.isi bt_isi (pad_cons (pd_var 1) (pad_cons (pd_ty (hm := T.bool) (hv := bt_bool)) pad_nil)))) (pwd_or1 (ptd_val (pd_callB call_isi cr_isi T.isi bt_isi (pad_cons (pd_var 0) (pad_cons (pd_ty (hm := T.bool) (hv := bt_bool)) pad_nil))))))) (pssd_one (psd_ret (pd_and (pd_callB call_isi cr_isi T.isi bt_isi (pad_cons (pd_var 0) (pad_cons (pd_ty (hm := T.bool) (hv := bt_bool)) pad_nil))) (pd_and (pd_callB call_isi cr_isi T.isi bt_isi (pad_cons (pd_var 1) (pad_cons (pd_ty (hm := T.bool) (hv := bt_bool)) pad_nil))) (pd_one (pd_cmp op_eq re_eq (pd_var 0) (pd_var 1) (nomark _))))))) pssd_nil)
    (pssd_one (psd_ret (pd_and (pd_callB call_isi cr_isi T.isi bt_isi (pad_cons (pd_var 0) (pad_cons (pd_ty (hm := T.int) (hv := bt_int)) pad_nil))) (pd_one (pd_cmp op_eq re_eq (pd_var 0) (pd_var 1) (nomark _))))))))))) ?_
    rintro ds n Q hl ⟨d, rfl, hd, q⟩
    cases d with
    | non => simp [startD, isiD, isiOk]; exact q
    | bl b => simp [startD, isiD, isiOk]; exact q
    | int b => simp [startD, isiD, isiOk]; exact q
    | str b => simp [startD, isiD, isiOk]; exact q
    | tup ds =>
      cases j with
      | zero => simp [okT] at hd
      | succ j =>
        obtain ⟨h1, h2⟩ := okT_tup.mp hd
        simp [startD, isiD, isiOk]
        rw [zipD_self]
        refine comp_mapIn (fun x => .tup [x, x]) (fun _ => .bl true) ds (le_size h1) (fun x hx R hR => ?_) ?_
        · have hx2 := h2 x hx
          have hno : notOwn x = true := by cases x <;> first | rfl | (simp [okT] at hx2; done)
          simp [hno]
          exact ⟨x, rfl, hx2, hR⟩
        · refine ⟨ds.map fun _ => true, by rw [List.map_map]; rfl, ?_⟩
          have e : (ds.map fun _ => true).all id = true := by simp
          rw [e]; exact q
    | _ => simp [okT] at hd
end
end K16
set_option maxRecDepth 100000
set_option maxHeartbeats 1000000
namespace K16
open PySem L2 PySem.Spec PyProof.Rows
def posT : List Int → Int → Nat
  | [], _ => 0
  | a :: c, x => if a = x then 0 else posT c x + 1
theorem posT_at : ∀ {c : List Int} {x : Int}, x ∈ c → c[posT c x]? = some x ∧ ∀ m, m < posT c x → c[m]? ≠ some x
  | [], _, h => by simp at h
  | a :: c, x, h => by
    unfold posT
    by_cases e : a = x
    · rw [if_pos e]; exact ⟨by simp [e], fun m hm => by lia⟩
    · rw [if_neg e]
      have h' : x ∈ c := by
        rcases List.mem_cons.mp h with h | h
        · exact absurd h.symm e
        · exact h
      obtain ⟨h1, h2⟩ := posT_at h'
      refine ⟨by simpa using h1, fun m hm => ?_⟩
      cases m with
      | zero => simpa using e
      | succ m => simpa using h2 m (by lia)
theorem asc_of {ms : List Int} (h : ms.Pairwise (· ≤ ·)) (n : ms.Nodup) : ms.Pairwise (· < ·) := by
  rw [List.Nodup] at n
  exact (h.and n).imp fun h => by have := h.1; have := h.2; lia
theorem asc_unique : ∀ {a b : List Int}, a.Pairwise (· < ·) → b.Pairwise (· < ·) → (∀ x, x ∈ a ↔ x ∈ b) → a = b
  | [], [], _, _, _ => rfl
  | [], y :: b, _, _, h => by have := (h y).mpr (by simp); simp at this
  | x :: a, [], _, _, h => by have := (h x).mp (by simp); simp at this
  | x :: a, y :: b, ha, hb, h => by
    obtain ⟨ha1, ha2⟩ := List.pairwise_cons.mp ha
    obtain ⟨hb1, hb2⟩ := List.pairwise_cons.mp hb
    have e : x = y := by
      have h1 := (h x).mp (by simp)
      have h2 := (h y).mpr (by simp)
      rcases List.mem_cons.mp h1 with h1 | h1
      · exact h1
      · rcases List.mem_cons.mp h2 with h2 | h2
        · exact h2.symm
        · have := hb1 x h1; have := ha1 y h2; lia
    subst e
    rw [asc_unique ha2 hb2 fun z => ?_]
    constructor
    · intro hz
      rcases List.mem_cons.mp ((h z).mp (by simp [hz])) with e | e
      · subst e; have := ha1 z hz; lia
      · exact e
    · intro hz
      rcases List.mem_cons.mp ((h z).mpr (by simp [hz])) with e | e
      · subst e; have := hb1 z hz; lia
      · exact e
structure Col (ts : List Thing) (i : Nat) (c : List Int) : Prop where
  asc : c.Pairwise (· < ·)
  mem : ∀ x, x ∈ c ↔ ∃ t ∈ ts, t.2.1[i]? = some x
theorem Col.unique {ts : List Thing} {i : Nat} {c c' : List Int} (h : Col ts i c) (h' : Col ts i c') : c = c' := asc_unique h.asc h'.asc fun x => (h.mem x).trans (h'.mem x).symm
theorem Col.few {X : List Int} {d : Nat} {ts : List Thing} {top : Int} (g : GoodT X d ts top) {i : Nat} {c : List Int} (h : Col ts i c) : c.length ≤ X.length := by
  have nd : c.Nodup := by rw [List.Nodup]; exact h.asc.imp fun h => by lia
  refine nd.length_le_of_subset fun x hx => ?_
  obtain ⟨t, ht, e⟩ := (h.mem x).mp hx
  exact ((g.each t ht).2.2.2.1 x (List.mem_of_getElem? e)).1
structure Cols (ts : List Thing) (d : Nat) (cols : List (List Int)) : Prop where
  len : cols.length = d
  each : ∀ i c, cols[i]? = some c → Col ts i c
def rkT (p : List Int) (cols : List (List Int)) : List Int := List.zipWith (fun x c => (posT c x : Int)) p cols
def belT (a b : List Int) : Bool := (List.zipWith (fun x y => decide (x < y)) a b).all id
def bitI (b : Bool) : Int := if b then 1 else 0
def wsumT (w : Thing → Int) (keep : Thing → Bool) (ts : List Thing) : Int := ((ts.filter keep).map w).sum
theorem wsumT_take {w : Thing → Int} {keep : Thing → Bool} {ts : List Thing} {i : Nat} {t : Thing} (h : ts[i]? = some t) : wsumT w keep (ts.take (i + 1)) = wsumT w keep (ts.take i) + w t * bitI (keep t) := by
  unfold wsumT
  rw [List.take_add_one, h, List.filter_append, List.map_append, List.sum_append]
  cases hk : keep t <;> simp [hk, bitI]
theorem mem_take {c : List Int} (hc : c.Pairwise (· < ·)) {x : Int} (hx : x ∈ c) (m : Nat) : x ∈ c.take m ↔ posT c x < m := by
  obtain ⟨h1, h2⟩ := posT_at hx
  constructor
  · intro h
    obtain ⟨j, hj⟩ := List.mem_iff_getElem?.mp h
    rw [List.getElem?_take] at hj
    split at hj
    · apply Classical.byContradiction
      intro hn
      exact h2 j (by lia) hj
    · cases hj
  · intro h
    exact List.mem_iff_getElem?.mpr ⟨posT c x, by rw [List.getElem?_take, if_pos h]; exact h1⟩
theorem bel_take : ∀ {cols : List (List Int)} {p : List Int} {k : List Nat}, (∀ (i : Nat) (c : List Int) (x : Int), cols[i]? = some c → p[i]? = some x → x ∈ c ∧ c.Pairwise (· < ·)) → ((p.zip (cols.zip k)).all fun q => decide (q.1 ∈ q.2.1.take q.2.2)) = belT (rkT p cols) (k.map fun m : Nat => (m : Int))
  | [], [], k, _ => by unfold belT rkT; simp
  | [], _ :: _, k, _ => by unfold belT rkT; simp
  | _ :: _, [], k, _ => by unfold belT rkT; simp
  | _ :: _, _ :: _, [], _ => by unfold belT rkT; simp
  | c :: cols, x :: p, m :: k, h => by
    have ih := bel_take (cols := cols) (p := p) (k := k) fun i c x h1 h2 => h (i + 1) c x (by simpa using h1) (by simpa using h2)
    obtain ⟨hx, hc⟩ := h 0 c x rfl rfl
    have := mem_take hc hx m
    unfold belT rkT at ih ⊢
    rw [List.zip_cons_cons, List.zip_cons_cons, List.all_cons, ih, List.zipWith_cons_cons, List.map_cons, List.zipWith_cons_cons, List.all_cons]
    congr 1
    simp [this]
end K16
set_option maxRecDepth 100000
set_option maxHeartbeats 1000000
namespace K16
open PySem L2 PySem.Spec PyProof.Rows
def colD (c : List Int) : D := .tup (c.map D.int)
structure Met (ts : List Thing) (j i : Nat) (acc : List Int) : Prop where
  nd : acc.Nodup
  mem : ∀ x, x ∈ acc ↔ ∃ t ∈ ts.take i, t.2.1[j]? = some x
theorem Met.nil {ts : List Thing} {j : Nat} : Met ts j 0 [] := ⟨List.nodup_nil, fun x => by simp⟩
theorem Met.old {ts : List Thing} {j i : Nat} {acc : List Int} {t : Thing} {x : Int} (h : Met ts j i acc) (ht : ts[i]? = some t) (hx : t.2.1[j]? = some x) (hm : x ∈ acc) : Met ts j (i + 1) acc := by
  refine ⟨h.nd, fun y => ?_⟩
  rw [List.take_add_one, ht, h.mem]
  constructor
  · rintro ⟨u, hu, e⟩; exact ⟨u, List.mem_append_left _ hu, e⟩
  · rintro ⟨u, hu, e⟩
    rcases List.mem_append.mp hu with hu | hu
    · exact ⟨u, hu, e⟩
    · have : u = t := by simpa using hu
      subst this
      rw [hx] at e
      cases e
      exact (h.mem x).mp hm
theorem Met.new {ts : List Thing} {j i : Nat} {acc acc' : List Int} {t : Thing} {x : Int} (h : Met ts j i acc) (ht : ts[i]? = some t) (hx : t.2.1[j]? = some x) (hm : x ∉ acc) (hp : acc'.Perm (x :: acc)) : Met ts j (i + 1) acc' := by
  refine ⟨hp.nodup_iff.mpr (List.nodup_cons.mpr ⟨hm, h.nd⟩), fun y => ?_⟩
  rw [List.take_add_one, ht, hp.mem_iff, List.mem_cons, h.mem]
  constructor
  · rintro (rfl | ⟨u, hu, e⟩)
    · exact ⟨t, by simp, hx⟩
    · exact ⟨u, List.mem_append_left _ hu, e⟩
  · rintro ⟨u, hu, e⟩
    rcases List.mem_append.mp hu with hu | hu
    · exact .inr ⟨u, hu, e⟩
    · have : u = t := by simpa using hu
      subst this
      rw [hx] at e
      cases e
      exact .inl rfl
theorem Met.few {X : List Int} {d : Nat} {ts : List Thing} {top : Int} (g : GoodT X d ts top) {j i : Nat} {acc : List Int} (h : Met ts j i acc) : acc.length ≤ X.length := by
  refine h.nd.length_le_of_subset fun x hx => ?_
  obtain ⟨t, ht, e⟩ := (h.mem x).mp hx
  exact ((g.each t (List.mem_of_mem_take ht)).2.2.2.1 x (List.mem_of_getElem? e)).1
theorem Met.col {ts : List Thing} {j : Nat} {acc ms : List Int} (h : Met ts j ts.length acc) (hp : ms.Perm acc) (hs : ms.Pairwise (· ≤ ·)) : Col ts j ms := by
  refine ⟨asc_of hs (hp.nodup_iff.mpr h.nd), fun x => ?_⟩
  rw [hp.mem_iff, h.mem, List.take_length]
section
variable {P : Program} {w : World} {K : PySem.W.Frag} {mg : Str → Option Value} {base : Heap}
abbrev s_unlike_numbers : Stmt := top 2
abbrev N_unlike_numbers : List Str := ["things", "i"]
theorem sc_unlike_numbers : FnScope N_unlike_numbers ["things", "i"] (defScope s_unlike_numbers) := ⟨rfl, rfl, rfl, by decide +kernel, rfl, by decide +kernel, by decide +kernel⟩
theorem nd_unlike_numbers_0 : ("name" :: "place" :: "worth" :: N_unlike_numbers : List Str).Nodup := by decide +kernel
def t_unlike : TF := fun ds n Q => ∃ (X : List Int) (d : Nat) (ts : List Thing) (top : Int) (j : Nat), ds = [.tup (ts.map encThing), .int j] ∧ GoodT X d ts top ∧ X.length ≤ 8 ∧ j < d ∧ ∀ c : List Int, Col ts j c → Q (colD c) n
theorem ok_unlike {f : Addr} {fd : FuncData} (T : Blt mg) (F : Fun K "unlike_numbers" "unlike_numbers" s_unlike_numbers f fd) : FnOk P w K mg base CX0 1 f fd ["things", "i"] (spD K 2 t_unlike) := by
  refine Fun.okD F sc_unlike_numbers (fun cdv A0 outer s H E G Z hr => (pssd_one (psd_ret (pd_callTy call_tuple_of cr_tuple T.tuple bt_tuple (pad_cons (pd_sortSet (own := ["name", "place", "worth"]) (M := N_unlike_numbers) (compOk (by rfl)) rfl (pid_seq rfl (pd_var 0)) (fun C s2 H2 fp => (pgd_tup (k := 3) rfl rfl (pgsd_cons (pgd_name (i := 0) nd_unlike_numbers_0 rfl (lo rfl) (by decide)) (pgsd_cons (pgd_name (i := 1) nd_unlike_numbers_0 rfl (lo rfl) (by decide)) (pgsd_cons (pgd_name (i := 2) nd_unlike_numbers_0 rfl (lo rfl) (by decide)) pgsd_nil))))) (fun C s2 H2 fp => ptsd_nil) (fun C s2 H2 fp => (pd_ix ix_seq re_ix (pd_var 1) (pd_var 4) (fun _ _ => rfl))) T.sorted) pad_nil))))) ?_
  rintro ds n Q hl ⟨X, d, ts, top, j, rfl, hg, hX, hj, q⟩
  simp [startD]
  refine ⟨fun i acc n' => n' = n ∧ Met ts j i acc, ⟨rfl, Met.nil⟩, ?_, ?_⟩
  · rintro i e acc n' he ⟨rfl, hm⟩
    have hf := hm.few hg
    rw [List.getElem?_map] at he
    cases hc : ts[i]? with
    | none => rw [hc] at he; cases he
    | some t =>
      rw [hc] at he
      cases he
      have ht := hg.each t (List.mem_of_getElem? hc)
      obtain ⟨nm, p, wt⟩ := t
      have hp : p.length = d := ht.2.2.1
      have hx : p[j]? = some p[j] := List.getElem?_eq_getElem (by lia)
      have rx : ∀ (R : D → Prop), R (.int p[j]) → rdIx (encPlace p) (.int (j : Int)) R := fun R h => q_rdIxT.mpr ⟨_, by unfold atI; rw [ixN_of (by lia) (by simp; lia)]; simp [hx], h⟩
      have np : notOwn (encPlace p) = true := rfl
      refine ⟨by lia, ?_⟩
      simp [encThing, np]
      refine rx _ ?_
      refine ⟨_, rfl, ?_⟩
      split
      · rename_i h; exact hm.old hc hx h
      · rename_i h; exact hm.new hc hx h (List.Perm.refl _)
  · rintro acc n' ⟨rfl, hm⟩
    rw [List.length_map] at hm
    have hf := hm.few hg
    refine ⟨by lia, fun ms hp hs => ?_⟩
    simp
    exact q ms (hm.col hp hs)
abbrev s_ranks_of : Stmt := top 3
abbrev N_ranks_of : List Str := ["place", "columns"]
theorem sc_ranks_of : FnScope N_ranks_of ["place", "columns"] (defScope s_ranks_of) := ⟨rfl, rfl, rfl, by decide +kernel, rfl, by decide +kernel, by decide +kernel⟩
theorem nd_ranks_of_0 : ("number" :: "column" :: N_ranks_of : List Str).Nodup := by decide +kernel
def t_ranks : TF := fun ds n Q => ∃ (p : List Int) (cols : List (List Int)), ds = [encPlace p, .tup (cols.map colD)] ∧ p.length ≤ 8 ∧ (∀ (i : Nat) (x : Int) (c : List Int), p[i]? = some x → cols[i]? = some c → x ∈ c) ∧ Q (.tup ((rkT p cols).map D.int)) n
theorem zip_rk (p : List Int) (cols : List (List Int)) : zipD (p.map D.int) (cols.map colD) = (p.zip cols).map fun x => .tup [.int x.1, colD x.2] := by
  unfold zipD
  rw [List.zipWith_map, List.map_zip_eq_zipWith]
  rfl
theorem ok_ranks {f : Addr} {fd : FuncData} (T : Blt mg) (TP : tupsPlain K = true) (F : Fun K "ranks_of" "ranks_of" s_ranks_of f fd) : FnOk P w K mg base CX0 1 f fd ["place", "columns"] (spD K 2 t_ranks) := by
  refine Fun.okD F sc_ranks_of (fun cdv A0 outer s H E G Z hr => (pssd_one (psd_ret (pd_callTy call_tuple_of cr_tuple T.tuple bt_tuple (pad_cons (pd_comp (own := ["number", "column"]) (M := N_ranks_of) (compOk (by rfl)) rfl (pid_zip rfl T.zip (pad_cons (pd_var 0) (pad_cons (pd_var 1) pad_nil))) (fun C s2 H2 fp => (pgd_tup (k := 2) rfl rfl (pgsd_cons (pgd_name (i := 0) nd_ranks_of_0 rfl (lo rfl) (by decide)) (pgsd_cons (pgd_name (i := 1) nd_ranks_of_0 rfl (lo rfl) (by decide)) pgsd_nil)))) (fun C s2 H2 fp => ptsd_nil) (fun C s2 H2 fp => (pd_indexT TP rfl (pd_var 1) (pd_var 0)))) pad_nil))))) ?_
  rintro ds n Q hl ⟨p, cols, rfl, hp, hin, q⟩
  have np : notOwn (encPlace p) = true := rfl
  simp [startD, np]
  refine (q_kZip (d1 := encPlace p) (d2 := .tup (cols.map colD)) rfl rfl).mpr ?_
  rw [zip_rk]
  refine comp_mapIn _ (fun x => .int (posT x.2 x.1 : Int)) (p.zip cols) (le_size (by rw [List.length_zip]; lia)) (fun x hx R hR => ?_) ?_
  · obtain ⟨i, hi, e⟩ := List.mem_iff_getElem.mp hx
    rw [List.length_zip] at hi
    rw [List.getElem_zip] at e
    have hm := hin i _ _ (List.getElem?_eq_getElem (by lia)) (List.getElem?_eq_getElem (by lia : i < cols.length))
    rw [← e]
    obtain ⟨h1, h2⟩ := posT_at hm
    have nc : ∀ c, notOwn (colD c) = true := fun c => rfl
    simp [nc]
    exact ⟨_, rfl, _, h1, h2, by rw [← e] at hR; exact hR⟩
  · simp
    have e : (p.zip cols).map (fun x => D.int (posT x.2 x.1 : Int)) = (rkT p cols).map D.int := by
      unfold rkT
      rw [List.map_zipWith, List.map_zip_eq_zipWith]
      rfl
    rw [e]
    exact q
abbrev s_are_below : Stmt := top 4
abbrev N_are_below : List Str := ["ranks", "others"]
theorem sc_are_below : FnScope N_are_below ["ranks", "others"] (defScope s_are_below) := ⟨rfl, rfl, rfl, by decide +kernel, rfl, by decide +kernel, by decide +kernel⟩
theorem nd_are_below_0 : ("mine" :: "yours" :: N_are_below : List Str).Nodup := by decide +kernel
def t_below : TF := fun ds n Q => ∃ a b : List Int, ds = [.tup (a.map D.int), .tup (b.map D.int)] ∧ a.length ≤ 8 ∧ Q (.bl (belT a b)) n
theorem zip_bel (a b : List Int) : zipD (a.map D.int) (b.map D.int) = (a.zip b).map fun x => .tup [.int x.1, .int x.2] := by
  unfold zipD
  rw [List.zipWith_map, List.map_zip_eq_zipWith]
  rfl
theorem ok_below {f : Addr} {fd : FuncData} (T : Blt mg) (F : Fun K "are_below" "are_below" s_are_below f fd) : FnOk P w K mg base CX0 1 f fd ["ranks", "others"] (spD K 2 t_below) := by
  refine Fun.okD F sc_are_below (fun cdv A0 outer s H E G Z hr => (pssd_one (psd_ret (pd_callB (call_all rfl) cr_all T.all bt_all (pad_cons (pd_comp (own := ["mine", "yours"]) (M := N_are_below) (compOk (by rfl)) rfl (pid_zip rfl T.zip (pad_cons (pd_var 0) (pad_cons (pd_var 1) pad_nil))) (fun C s2 H2 fp => (pgd_tup (k := 2) rfl rfl (pgsd_cons (pgd_name (i := 0) nd_are_below_0 rfl (lo rfl) (by decide)) (pgsd_cons (pgd_name (i := 1) nd_are_below_0 rfl (lo rfl) (by decide)) pgsd_nil)))) (fun C s2 H2 fp => ptsd_nil) (fun C s2 H2 fp => (pd_cmp op_lt re_lt (pd_var 0) (pd_var 1) (nomark _)))) pad_nil))))) ?_
  rintro ds n Q hl ⟨a, b, rfl, ha, q⟩
  simp [startD]
  rw [zip_bel]
  refine comp_mapIn _ (fun x => .bl (decide (x.1 < x.2))) (a.zip b) (le_size (by rw [List.length_zip]; lia)) (fun x hx R hR => ?_) ?_
  · simp
    exact hR
  · refine ⟨(a.zip b).map fun x => decide (x.1 < x.2), by rw [List.map_map]; rfl, ?_⟩
    unfold belT at q
    rw [List.map_zip_eq_zipWith]
    exact q
end
end K16
set_option maxRecDepth 100000
set_option maxHeartbeats 1000000
namespace K16
open PySem L2 PySem.Spec PyProof.Rows
def houseD (d : Nat) (ts : List Thing) : D := .tup [.int d, .tup (ts.map encThing)]
def rkD (cols : List (List Int)) (t : Thing) : D := .tup [.tup ((rkT t.2.1 cols).map D.int), .int t.2.2]
def keysN : Nat → List (List Int)
  | 0 => [[]]
  | d + 1 => (List.range 9).flatMap fun (x : Nat) => (keysN d).map ((x : Int) :: ·)
theorem keys_mem : ∀ {d : Nat} {k : List Int}, k.length = d → (∀ x ∈ k, 0 ≤ x ∧ x ≤ 8) → k ∈ keysN d
  | 0, k, h, _ => by rw [List.length_eq_zero_iff.mp h]; simp [keysN]
  | d + 1, [], h, _ => by simp at h
  | d + 1, x :: k, h, hx => by
    obtain ⟨m, hm⟩ := Int.eq_ofNat_of_zero_le (hx x (by simp)).1
    have := (hx x (by simp)).2
    unfold keysN
    refine List.mem_flatMap.mpr ⟨m, List.mem_range.mpr (by lia), List.mem_map.mpr ⟨k, keys_mem (by simpa using h) fun y hy => hx y (by simp [hy]), by rw [hm]⟩⟩
theorem flat_len {α β : Type} {m : Nat} (f : α → List β) : ∀ (xs : List α), (∀ x ∈ xs, (f x).length = m) → (xs.flatMap f).length = xs.length * m
  | [], _ => by simp
  | x :: xs, h => by
    rw [List.flatMap_cons, List.length_append, h x (by simp), flat_len f xs fun y hy => h y (by simp [hy]), List.length_cons, Nat.succ_mul, Nat.add_comm]
theorem keys_len : ∀ d : Nat, (keysN d).length = 9 ^ d
  | 0 => rfl
  | d + 1 => by
    unfold keysN
    rw [flat_len (m := 9 ^ d) _ _ fun x _ => by rw [List.length_map, keys_len d], List.length_range, Nat.pow_succ, Nat.mul_comm]
def cntC (cols : List (List Int)) (ts : List Thing) (k : List Int) : Int := wsumT (fun _ => 1) (fun t => belT (rkT t.2.1 cols) k) ts
def totC (cols : List (List Int)) (ts : List Thing) (k : List Int) : Int := wsumT (fun t => t.2.2) (fun t => belT (rkT t.2.1 cols) k) ts
def memF (d : Nat) (cols : List (List Int)) (ts : List Thing) : List Int → List Int → Prop := fun k ys => k ∈ keysN d ∧ ys = [cntC cols ts k, totC cols ts k]
def attsN : List Str := ["columns", "ranked", "sums"]
def attsD (d : Nat) (cols : List (List Int)) (ts : List Thing) : List D := [.tup (cols.map colD), .tup (ts.map (rkD cols)), .mem (memF d cols ts)]
theorem count_wsum (keep : Thing → Bool) (ts : List Thing) : (((ts.filter keep).length : Nat) : Int) = wsumT (fun _ => 1) keep ts := by
  unfold wsumT
  induction ts.filter keep with
  | nil => rfl
  | cons t l ih => rw [List.length_cons, List.map_cons, List.sum_cons, ← ih]; lia
theorem at_columns {d : Nat} {cols : List (List Int)} {ts : List Thing} : atN attsN (attsD d cols ts) "columns" = some (.tup (cols.map colD)) := by
  unfold attsN attsD
  rw [q_atN1, if_pos rfl]
theorem at_ranked {d : Nat} {cols : List (List Int)} {ts : List Thing} : atN attsN (attsD d cols ts) "ranked" = some (.tup (ts.map (rkD cols))) := by
  unfold attsN attsD
  rw [q_atN1, if_neg (by decide +kernel), q_atN1, if_pos rfl]
theorem at_sums {d : Nat} {cols : List (List Int)} {ts : List Thing} : atN attsN (attsD d cols ts) "sums" = some (.mem (memF d cols ts)) := by
  unfold attsN attsD
  rw [q_atN1, if_neg (by decide +kernel), q_atN1, if_neg (by decide +kernel), q_atN1, if_pos rfl]
section
variable {P : Program} {w : World} {K : PySem.W.Frag} {mg : Str → Option Value} {base : Heap} {C : Addr}
abbrev s_Corners_init : Stmt := inClass (top 5) 0
abbrev N_Corners_init : List Str := ["self", "house", "d", "things"]
theorem sc_Corners_init : FnScope N_Corners_init ["self", "house"] (defScope s_Corners_init) := ⟨rfl, rfl, rfl, by decide +kernel, rfl, by decide +kernel, by decide +kernel⟩
theorem nd_Corners_init_0 : ("i" :: N_Corners_init : List Str).Nodup := by decide +kernel
theorem nd_Corners_init_1 : ("name" :: "place" :: "worth" :: N_Corners_init : List Str).Nodup := by decide +kernel
def t_init : TFI := fun ds n Q => ∃ (X : List Int) (d : Nat) (ts : List Thing) (top : Int), ds = [houseD d ts] ∧ GoodT X d ts top ∧ X.length ≤ 8 ∧ d ≤ 3 ∧ ts.length ≤ 300 ∧ ∀ cols, Cols ts d cols → Q attsN (attsD d cols ts) n
theorem ok_init {f : Addr} {fd : FuncData} (T : Blt mg) (CL : Cls K C) (NA_columns : NoAttr K C "columns") (NA_ranked : NoAttr K C "ranked") (NA_sums : NoAttr K C "sums") (F : Fun K "__init__" "Corners.__init__" s_Corners_init f fd) (F_unlike_numbers : Fn P w K mg base "unlike_numbers" 1 2 t_unlike) (F_ranks_of : Fn P w K mg base "ranks_of" 1 2 t_ranks) : FnOk P w K mg base CX0 2 f fd ["self", "house"] (spI K C 1 t_init) := by
  refine Fun.okI F sc_Corners_init (fun cdv A0 outer s H H0 E G Z hr => (pssd_cons (psd_unp (m := 4) (pd_var 1) (pgd_tup (k := 2) rfl rfl (pgsd_cons (pgd_name (i := 2) sc_Corners_init.nd rfl (lo rfl) (by decide)) (pgsd_cons (pgd_name (i := 3) sc_Corners_init.nd rfl (lo rfl) (by decide)) pgsd_nil))))
    (pssd_cons (psd_fld (i := 0) CL NA_columns (pd_callTy call_tuple_of cr_tuple T.tuple bt_tuple (pad_cons (pd_comp (own := ["i"]) (M := N_Corners_init) (compOk (by rfl)) rfl (pid_rng T.range (pad_cons (pd_var 2) pad_nil)) (fun C s2 H2 fp => (pgd_name (i := 0) nd_Corners_init_0 rfl (lo rfl) (by decide))) (fun C s2 H2 fp => ptsd_nil) (fun C s2 H2 fp => (pd_fn F_unlike_numbers (hr.mono (by decide)) rfl (pad_cons (pd_var 4) (pad_cons (pd_var 0) pad_nil))))) pad_nil)))
    (pssd_cons (psd_fld (i := 0) CL NA_ranked (pd_callTy call_tuple_of cr_tuple T.tuple bt_tuple (pad_cons (pd_comp (own := ["name", "place", "worth"]) (M := N_Corners_init) (compOk (by rfl)) rfl (pid_seq rfl (pd_var 3)) (fun C s2 H2 fp => (pgd_tup (k := 3) rfl rfl (pgsd_cons (pgd_name (i := 0) nd_Corners_init_1 rfl (lo rfl) (by decide)) (pgsd_cons (pgd_name (i := 1) nd_Corners_init_1 rfl (lo rfl) (by decide)) (pgsd_cons (pgd_name (i := 2) nd_Corners_init_1 rfl (lo rfl) (by decide)) pgsd_nil))))) (fun C s2 H2 fp => ptsd_nil) (fun C s2 H2 fp => (pd_tup (pad_cons (pd_fn F_ranks_of (hr.mono (by decide)) rfl (pad_cons (pd_var 1) (pad_cons (pd_fldO (i := 3) CL NA_columns) pad_nil))) (pad_cons (pd_var 2) pad_nil))))) pad_nil)))
    (pssd_one (psd_fld (i := 0) CL NA_sums pd_memNew)))))) ?_
  rintro p ds n Q hl ⟨X, d, ts, top, rfl, hg, hX, hd, hn, q⟩
  simp [startD, houseD]
  refine ⟨by lia, le_size (by rw [rng_len]; lia), fun (i : Nat) (acc : List D) (n' : Nat) => n' = n ∧ ∃ cols : List (List Int), acc = cols.map colD ∧ cols.length = i ∧ ∀ j c, cols[j]? = some c → Col ts j c, ⟨rfl, [], rfl, rfl, by simp⟩, ?_, ?_⟩
  · rintro i e acc n' he ⟨rfl, cols, rfl, hc1, hc2⟩
    obtain ⟨hi, rfl⟩ := rng_at he
    simp
    refine ⟨X, d, ts, top, i, rfl, hg, hX, hi, fun c hc => ⟨rfl, cols ++ [c], by simp, by simp [hc1], fun j c' hj => ?_⟩⟩
    by_cases hji : j < cols.length
    · rw [List.getElem?_append_left hji] at hj
      exact hc2 j c' hj
    · rw [List.getElem?_append_right (by lia)] at hj
      have : j = i := by
        apply Classical.byContradiction
        intro hne
        rw [List.getElem?_eq_none (by simp; lia)] at hj
        cases hj
      subst this
      rw [hc1] at hj
      simp at hj
      subst hj
      exact hc
  · rintro acc n' ⟨rfl, cols, rfl, hc1, hc2⟩
    rw [rng_len] at hc1
    have hcs : Cols ts d cols := ⟨hc1, hc2⟩
    simp
    refine ⟨_, _, _, ⟨rfl, rfl, rfl⟩, by simp, by simp, ?_⟩
    refine comp_mapIn encThing (rkD cols) ts (le_size (by lia)) (fun t ht R hR => ?_) ?_
    · have ht' := hg.each t ht
      have np : notOwn (encPlace t.2.1) = true := rfl
      simp [encThing, np]
      refine ⟨_, _, _, ⟨rfl, rfl, rfl⟩, _, rfl, t.2.1, cols, rfl, by lia, fun i x c h1 h2 => ((hc2 i c h2).mem x).mpr ⟨t, ht, h1⟩, ?_⟩
      simp
      exact hR
    · simp
      exact ⟨_, _, _, ⟨rfl, rfl, rfl⟩, by decide +kernel, by decide, memF d cols ts, _, _, _, ⟨rfl, rfl, rfl⟩, by decide +kernel, by decide, _, _, ⟨rfl, rfl, rfl⟩, q cols hcs⟩
abbrev s_Corners_values : Stmt := inClass (top 5) 1
abbrev N_Corners_values : List Str := ["self", "i"]
theorem sc_Corners_values : FnScope N_Corners_values ["self", "i"] (defScope s_Corners_values) := ⟨rfl, rfl, rfl, by decide +kernel, rfl, by decide +kernel, by decide +kernel⟩
def t_values (C : Addr) : TF := fun ds n Q => ∃ (d : Nat) (cols : List (List Int)) (ts : List Thing) (j : Nat) (c : List Int), ds = [.ob C attsN (attsD d cols ts), .int j] ∧ cols[j]? = some c ∧ Q (colD c) n
theorem ok_values {f : Addr} {fd : FuncData} (CL : Cls K C) (NA_columns : NoAttr K C "columns") (F : Fun K "values" "Corners.values" s_Corners_values f fd) : FnOk P w K mg base CX0 1 f fd ["self", "i"] (spD K 2 (t_values C)) := by
  refine Fun.okD F sc_Corners_values (fun cdv A0 outer s H E G Z hr => (pssd_one (psd_ret (pd_ix ix_seq re_ix (pd_fld CL NA_columns (pd_var 0)) (pd_var 1) (fun _ _ => rfl))))) ?_
  rintro ds n Q hl ⟨d, cols, ts, j, c, rfl, hc, q⟩
  have no : notOwn (.ob C attsN (attsD d cols ts)) = true := rfl
  simp [startD, no]
  refine ⟨_, _, ⟨rfl, rfl⟩, _, at_columns, ?_⟩
  refine q_rdIxT.mpr ⟨colD c, ?_, q⟩
  unfold atI
  rw [ixN_of (by lia) (by have := (List.getElem?_eq_some_iff.mp hc).1; simp; lia)]
  simp [hc]
abbrev s_Corners_corner : Stmt := inClass (top 5) 2
abbrev N_Corners_corner : List Str := ["self", "ranks", "worths"]
theorem sc_Corners_corner : FnScope N_Corners_corner ["self", "ranks"] (defScope s_Corners_corner) := ⟨rfl, rfl, rfl, by decide +kernel, rfl, by decide +kernel, by decide +kernel⟩
theorem nd_Corners_corner_0 : ("thing_ranks" :: "worth" :: N_Corners_corner : List Str).Nodup := by decide +kernel
def t_corner (C : Addr) : TF := fun ds n Q => ∃ (X : List Int) (d : Nat) (cols : List (List Int)) (ts : List Thing) (top : Int) (k : List Int), ds = [.ob C attsN (attsD d cols ts), .tup (k.map D.int)] ∧ GoodT X d ts top ∧ d ≤ 3 ∧ ts.length ≤ 300 ∧ k ∈ keysN d ∧ Q (.tup [.int (cntC cols ts k), .int (totC cols ts k)]) n
theorem ok_corner {f : Addr} {fd : FuncData} (T : Blt mg) (T2 : Blt2 mg) (CL : Cls K C) (NA_ranked : NoAttr K C "ranked") (NA_sums : NoAttr K C "sums") (F : Fun K "corner" "Corners.corner" s_Corners_corner f fd) (F_are_below : Fn P w K mg base "are_below" 1 2 t_below) : FnOk P w K mg base CX0 2 f fd ["self", "ranks"] (spD K 2 (t_corner C)) := by
  refine Fun.okD F sc_Corners_corner (fun cdv A0 outer s H E G Z hr => (pssd_memo (i := 0) (j := 1) hr rfl CL NA_sums (psd_setComp (i := 2) sc_Corners_corner.nd rfl (lo rfl) (own := ["thing_ranks", "worth"]) (M := N_Corners_corner) (compOk (by rfl)) rfl (pid_seq rfl (pd_fld CL NA_ranked (pd_var 0))) (fun C s2 H2 fp => (pgd_tup (k := 2) rfl rfl (pgsd_cons (pgd_name (i := 0) nd_Corners_corner_0 rfl (lo rfl) (by decide)) (pgsd_cons (pgd_name (i := 1) nd_Corners_corner_0 rfl (lo rfl) (by decide)) pgsd_nil)))) (fun C s2 H2 fp => (ptsd_one (ptd_val (pd_fn F_are_below (hr.mono (by decide)) rfl (pad_cons (pd_var 0) (pad_cons (pd_var 3) pad_nil)))))) (fun C s2 H2 fp => (pd_var 1))) (pd_tup (pad_cons (pd_callB call_len_seq cr_len T.len bt_len (pad_cons (pd_var 2) pad_nil)) (pad_cons (pd_callB (call_sum rfl) cr_sum T2.sum bt_sum (pad_cons (pd_var 2) pad_nil)) pad_nil))))) ?_
  rintro ds n Q hl ⟨X, d, cols, ts, top, k, rfl, hg, hd, hn, hk, q⟩
  refine ⟨attsN, attsD d cols ts, memF d cols ts, k, keysN d, rfl, at_sums, rfl, fun k ys h => h.1, ?_, ?_, ?_⟩
  · rw [keys_len]
    exact le_size (Nat.le_trans (Nat.pow_le_pow_right (n := 9) (by decide) hd) (by decide))
  · rintro ys ⟨_, rfl⟩
    exact q
  · have no : notOwn (.ob C attsN (attsD d cols ts)) = true := rfl
    generalize hT : D.tup [.int (cntC cols ts k), .int (totC cols ts k)] = TT at q
    simp [startD, no]
    refine ⟨_, _, ⟨rfl, rfl⟩, _, at_ranked, _, .inr rfl, ?_⟩
    refine comp_filtIn (rkD cols) (fun t => belT (rkT t.2.1 cols) k) (fun t => .int t.2.2) ts (le_size (by lia)) (fun t ht R S hR hS => ?_) ?_
    · have ht' := hg.each t ht
      have hl : (rkT t.2.1 cols).length ≤ 8 := by unfold rkT; rw [List.length_zipWith]; lia
      simp [rkD]
      refine ⟨_, _, rfl, hl, ?_⟩
      cases hb : belT (rkT t.2.1 cols) k with
      | true => simp; exact hR hb
      | false => simp; exact hS hb
    · have e : ((ts.filter fun t => belT (rkT t.2.1 cols) k).map fun t => D.int t.2.2) = ((ts.filter fun t => belT (rkT t.2.1 cols) k).map fun t => t.2.2).map D.int := by rw [List.map_map]; rfl
      rw [e]
      simp
      refine ⟨_, by rw [← List.map_map], [_, _], rfl, ⟨hk, by rw [count_wsum]; rfl⟩, fun ys h => ?_⟩
      rw [h.2]
      exact hT ▸ q
end
end K16
set_option maxRecDepth 100000
set_option maxHeartbeats 1000000
namespace K16
open PySem L2 PySem.Spec PyProof.Rows
theorem paired_ex {α : Type} (enc : α → D) (Pr : α → Prop) : ∀ {l es : List D}, Paired (fun _ e => ∃ a, Pr a ∧ e = enc a) l es → ∃ as : List α, es = as.map enc ∧ (∀ a ∈ as, Pr a) ∧ as.length = l.length
  | _, _, .nil => ⟨[], rfl, by simp, rfl⟩
  | _, _, .cons r t => by
    obtain ⟨x, hx, rfl⟩ := r
    obtain ⟨xs, rfl, h, hl⟩ := paired_ex enc Pr t
    exact ⟨x :: xs, rfl, fun y hy => by rcases List.mem_cons.mp hy with rfl | hy; exact hx; exact h y hy, by simp [hl]⟩
theorem rep_ranks : ∀ d : Nat, (List.replicate d [D.int 0]).flatten = (List.replicate d 0).map fun m : Nat => D.int (m : Int)
  | 0 => rfl
  | d + 1 => by
    rw [List.replicate_succ, List.flatten_cons, rep_ranks d, List.replicate_succ, List.map_cons]
    rfl
theorem in_ints {x : Int} {acc : List Int} : inD (.int x) (acc.map D.int) = true ↔ x ∈ acc := by
  unfold inD
  induction acc with
  | nil => simp
  | cons a acc ih =>
    rw [List.map_cons, List.any_cons, Bool.or_eq_true, ih, List.mem_cons]
    refine or_congr ?_ Iff.rfl
    unfold eqD
    simp
    exact eq_comm
theorem cutL_take (xs : List D) (k : Nat) : cutL xs none (some (k : Int)) = xs.take k := by
  unfold cutL
  rw [HT.sIx_nat, HT.sIx_none, List.drop_zero, Nat.sub_zero]
  by_cases h : k ≤ xs.length
  · rw [Nat.min_eq_left h]
  · rw [Nat.min_eq_right (by lia), List.take_of_length_le (Nat.le_refl _), List.take_of_length_le (by lia)]
structure JM (hd ii : Option D) (ts : List Thing) (j n i : Nat) (rho : Rho) (n' : Nat) : Prop where
  e : n' = n
  r : ∃ (acc : List Int) (z6 z7 z8 : Option D), Met ts j i acc ∧ rho = [hd, ii, some (.own (acc.map D.int)), z6, z7, z8]
structure JC (hd rw' kk : Option D) (cn tt : Thing → Bool) (ts : List Thing) (n i : Nat) (rho : Rho) (n' : Nat) : Prop where
  e : n' = n
  r : ∃ (z6 z7 z8 : Option D), rho = [hd, rw', kk, some (.int (wsumT (fun _ => 1) cn (ts.take i))), some (.int (wsumT (fun t => t.2.2) tt (ts.take i))), z6, z7, z8]
def ranksD (k : List Nat) : D := .tup (k.map fun m : Nat => D.int (m : Int))
theorem ranksD_eq (k : List Nat) : ranksD k = .tup ((k.map fun m : Nat => (m : Int)).map D.int) := by unfold ranksD; rw [List.map_map]; rfl
section
variable {P : Program} {w : World} {K : PySem.W.Frag} {mg : Str → Option Value} {base : Heap} {C : Addr}
abbrev s__law_values : Stmt := top 15
abbrev N__law_values : List Str := ["_law_house_here", "_law_i", "_law_met", "_law_name", "_law_place", "_law_worth"]
theorem sc__law_values : FnScope N__law_values ["_law_house_here", "_law_i"] (defScope s__law_values) := ⟨rfl, rfl, rfl, by decide +kernel, rfl, by decide +kernel, by decide +kernel⟩
def t_lvalues : TF := fun ds n Q => ∃ (X : List Int) (d : Nat) (ts : List Thing) (top : Int) (j : Nat) (c : List Int), ds = [houseD d ts, .int j] ∧ GoodT X d ts top ∧ X.length ≤ 8 ∧ j < d ∧ Col ts j c ∧ ts.length ≤ 300 ∧ Q (colD c) n
theorem ok_lvalues {f : Addr} {fd : FuncData} (T : Blt mg) (F : Fun K "_law_values" "_law_values" s__law_values f fd) : FnOk P w K mg base CX0 1 f fd ["_law_house_here", "_law_i"] (spD K 2 t_lvalues) := by
  refine Fun.okD F sc__law_values (fun cdv A0 outer s H E G Z hr => (pssd_cons (psd_own (i := 2) sc__law_values.nd rfl (lo rfl) pad_nil)
    (pssd_cons (psd_for (m := 6) PassesOwn.never rfl (pid_seq rfl (pd_ix ix_seq re_ix (pd_var 0) pd_int (fun _ _ => rfl))) (pgd_tup (k := 3) rfl rfl (pgsd_cons (pgd_name (i := 3) sc__law_values.nd rfl (lo rfl) (by decide)) (pgsd_cons (pgd_name (i := 4) sc__law_values.nd rfl (lo rfl) (by decide)) (pgsd_cons (pgd_name (i := 5) sc__law_values.nd rfl (lo rfl) (by decide)) pgsd_nil))))
    (pssd_one (psd_if (ptd_ownIn (i := 2) rfl (pd_ix ix_seq re_ix (pd_var 4) (pd_var 1) (fun _ _ => rfl))) (pssd_one (psd_append (i := 2) (pad_cons (pd_ix ix_seq re_ix (pd_var 4) (pd_var 1) (fun _ _ => rfl)) pad_nil) rfl)) pssd_nil)))
    (pssd_one (psd_frz 2 (psd_ret (pd_callTy call_tuple_of cr_tuple T.tuple bt_tuple (pad_cons (pd_callB call_sorted cr_sorted T.sorted bt_sorted (pad_cons (pd_var 2) pad_nil)) pad_nil)))))))) ?_
  rintro ds n Q hl ⟨X, d, ts, top, i, c, rfl, hg, hX, hi, hC, hn, q⟩
  have nh : notOwn (houseD d ts) = true := rfl
  have h1 : ∀ R : D → Prop, R (.tup (ts.map encThing)) → rdIx (houseD d ts) (.int 1) R := fun R h => q_rdIxT.mpr ⟨_, rfl, h⟩
  simp [startD, nh]
  refine h1 _ ⟨_, .inr rfl, JM (some (houseD d ts)) (some (.int i)) ts i n, ⟨rfl, [], none, none, none, Met.nil, rfl⟩, ?_, ?_⟩
  · rintro k e rho n' he ⟨rfl, acc, z6, z7, z8, hm, rfl⟩
    rw [List.getElem?_map] at he
    cases hc : ts[k]? with
    | none => rw [hc] at he; cases he
    | some t =>
      rw [hc] at he
      cases he
      have ht := hg.each t (List.mem_of_getElem? hc)
      obtain ⟨nm, p, wt⟩ := t
      have hp : p.length = d := ht.2.2.1
      have hx : p[i]? = some (p[i]'(by rw [hp]; exact hi)) := List.getElem?_eq_getElem _
      generalize p[i]'(by rw [hp]; exact hi) = x at hx
      have rx : ∀ (R : D → Prop), R (.int x) → rdIx (encPlace p) (.int (i : Int)) R := fun R h => q_rdIxT.mpr ⟨_, by unfold atI; rw [ixN_of (by lia) (by simp; lia)]; simp [hx], h⟩
      have nP : notOwn (encPlace p) = true := rfl
      simp [encThing, nP]
      refine rx _ ⟨rfl, fun y hy => rfl, ?_⟩
      split
      · rename_i h
        exact ⟨rfl, acc, _, _, _, hm.old hc hx (in_ints.mp h), rfl⟩
      · rename_i h
        have hf := hm.few hg
        refine ⟨lt_size (by lia), rx _ ?_⟩
        exact ⟨rfl, acc ++ [x], _, _, _, hm.new hc hx (fun z => h (in_ints.mpr z)) (List.perm_append_comm), by rw [List.map_append]; rfl⟩
  · rintro rho n' ⟨rfl, acc, z6, z7, z8, hm, rfl⟩
    rw [List.length_map] at hm
    simp
    have hf := hm.few hg
    refine ⟨acc, rfl, by lia, fun ms hp hs => ?_⟩
    have ec : ms = c := (hm.col hp hs).unique hC
    subst ec
    simp
    exact q
abbrev s__law_corner : Stmt := top 16
abbrev N__law_corner : List Str := ["_law_house_here", "_law_rows", "_law_ranks", "_law_count", "_law_total", "_law_name", "_law_place", "_law_worth"]
theorem sc__law_corner : FnScope N__law_corner ["_law_house_here", "_law_rows", "_law_ranks"] (defScope s__law_corner) := ⟨rfl, rfl, rfl, by decide +kernel, rfl, by decide +kernel, by decide +kernel⟩
theorem nd__law_corner_0 : ("_law_number_here" :: "_law_row" :: "_law_rank" :: N__law_corner : List Str).Nodup := by decide +kernel
def t_lcorner : TF := fun ds n Q => ∃ (X : List Int) (d : Nat) (cols : List (List Int)) (ts : List Thing) (top : Int) (k : List Nat), ds = [houseD d ts, .lst (cols.map colD), ranksD k] ∧ GoodT X d ts top ∧ Cols ts d cols ∧ k.length = d ∧ d ≤ 4 ∧ ts.length ≤ 300 ∧ Q (.tup [.int (cntC cols ts (k.map fun m : Nat => (m : Int))), .int (totC cols ts (k.map fun m : Nat => (m : Int)))]) n
theorem ok_lcorner {f : Addr} {fd : FuncData} (T : Blt mg) (F : Fun K "_law_corner" "_law_corner" s__law_corner f fd) : FnOk P w K mg base CX0 1 f fd ["_law_house_here", "_law_rows", "_law_ranks"] (spD K 3 t_lcorner) := by
  refine Fun.okD F sc__law_corner (fun cdv A0 outer s H E G Z hr => (pssd_cons (psd_unp (m := 8) (pd_tup (pad_cons pd_int (pad_cons pd_int pad_nil))) (pgd_tup (k := 2) rfl rfl (pgsd_cons (pgd_name (i := 3) sc__law_corner.nd rfl (lo rfl) (by decide)) (pgsd_cons (pgd_name (i := 4) sc__law_corner.nd rfl (lo rfl) (by decide)) pgsd_nil))))
    (pssd_cons (psd_for (m := 8) PassesOwn.never rfl (pid_seq rfl (pd_ix ix_seq re_ix (pd_var 0) pd_int (fun _ _ => rfl))) (pgd_tup (k := 3) rfl rfl (pgsd_cons (pgd_name (i := 5) sc__law_corner.nd rfl (lo rfl) (by decide)) (pgsd_cons (pgd_name (i := 6) sc__law_corner.nd rfl (lo rfl) (by decide)) (pgsd_cons (pgd_name (i := 7) sc__law_corner.nd rfl (lo rfl) (by decide)) pgsd_nil))))
    (pssd_one (psd_if (ptd_val (pd_callB (call_all rfl) cr_all T.all bt_all (pad_cons (pd_comp (own := ["_law_number_here", "_law_row", "_law_rank"]) (M := N__law_corner) (compOk (by rfl)) rfl (pid_zip3 rfl T.zip (pad_cons (pd_var 6) (pad_cons (pd_var 1) (pad_cons (pd_var 2) pad_nil)))) (fun C s2 H2 fp => (pgd_tup (k := 3) rfl rfl (pgsd_cons (pgd_name (i := 0) nd__law_corner_0 rfl (lo rfl) (by decide)) (pgsd_cons (pgd_name (i := 1) nd__law_corner_0 rfl (lo rfl) (by decide)) (pgsd_cons (pgd_name (i := 2) nd__law_corner_0 rfl (lo rfl) (by decide)) pgsd_nil))))) (fun C s2 H2 fp => ptsd_nil) (fun C s2 H2 fp => (pd_cmp op_in_seq (re_in (neg := false)) (pd_var 0) (pd_slT rfl (pd_var 1) pod_none (pod_some (pd_var 2))) (by with_unfolding_all rfl)))) pad_nil))) (pssd_cons (psd_set (i := 3) sc__law_corner.nd rfl (lo rfl) (pd_add (pd_var 3) pd_int))
    (pssd_one (psd_set (i := 4) sc__law_corner.nd rfl (lo rfl) (pd_add (pd_var 4) (pd_var 7))))) pssd_nil)))
    (pssd_one (psd_ret (pd_tup (pad_cons (pd_var 3) (pad_cons (pd_var 4) pad_nil)))))))) ?_
  rintro ds n Q hl ⟨X, d, cols, ts, top, k, rfl, hg, hcs, hk, hd, hn, q⟩
  have nh : notOwn (houseD d ts) = true := rfl
  have nk : notOwn (ranksD k) = true := rfl
  have h1 : ∀ R : D → Prop, R (.tup (ts.map encThing)) → rdIx (houseD d ts) (.int 1) R := fun R h => q_rdIxT.mpr ⟨_, rfl, h⟩
  simp [startD, nh]
  refine h1 _ ⟨_, .inr rfl, JC (some (houseD d ts)) (some (.lst (cols.map colD))) (some (ranksD k)) (fun t => belT (rkT t.2.1 cols) (k.map fun m : Nat => (m : Int))) (fun t => belT (rkT t.2.1 cols) (k.map fun m : Nat => (m : Int))) ts n, ⟨rfl, none, none, none, rfl⟩, ?_, ?_⟩
  · rintro i e rho n' he ⟨rfl, z6, z7, z8, rfl⟩
    rw [List.getElem?_map] at he
    cases hc : ts[i]? with
    | none => rw [hc] at he; cases he
    | some t =>
      rw [hc] at he
      cases he
      have ht := hg.each t (List.mem_of_getElem? hc)
      have mem : ∀ (i : Nat) (c : List Int) (x : Int), cols[i]? = some c → t.2.1[i]? = some x → x ∈ c ∧ c.Pairwise (· < ·) := fun j c x h1 h2 => ⟨((hcs.each j c h1).mem x).mpr ⟨t, List.mem_of_getElem? hc, h2⟩, (hcs.each j c h1).asc⟩
      have w1 := wsumT_take (w := fun _ => (1 : Int)) (keep := fun t => belT (rkT t.2.1 cols) (k.map fun m : Nat => (m : Int))) hc
      have w2 := wsumT_take (w := fun t => t.2.2) (keep := fun t => belT (rkT t.2.1 cols) (k.map fun m : Nat => (m : Int))) hc
      obtain ⟨nm, p, wt⟩ := t
      have hp : p.length = d := ht.2.2.1
      have bt := bel_take (cols := cols) (p := p) (k := k) mem
      have nP : notOwn (encPlace p) = true := rfl
      have ez : zipD3 (p.map D.int) (cols.map colD) (k.map fun m : Nat => D.int (m : Int)) = (p.zip (cols.zip k)).map fun q => .tup [.int q.1, colD q.2.1, .int (q.2.2 : Nat)] := by
        unfold zipD3
        rw [List.zip_map, List.zip_map, List.map_map]
        rfl
      simp only at w1 w2 bt
      generalize hW1 : wsumT (fun _ => 1) (fun t => belT (rkT t.2.1 cols) (k.map fun m : Nat => (m : Int))) (ts.take i) = W1 at *
      generalize hW2 : wsumT (fun t => t.2.2) (fun t => belT (rkT t.2.1 cols) (k.map fun m : Nat => (m : Int))) (ts.take i) = W2 at *
      simp [encThing, nP, nk]
      refine kZip3_mk (d1 := encPlace p) (d2 := .lst (cols.map colD)) (d3 := ranksD k) rfl rfl rfl (by simp [hp, hcs.len]) (by simp [hp, hk]) ?_
      rw [ez]
      refine comp_mapIn _ (fun q => .bl (decide (q.1 ∈ q.2.1.take q.2.2))) (p.zip (cols.zip k)) (le_size (by rw [List.length_zip]; lia)) (fun x hx R hR => ?_) ?_
      · obtain ⟨a, c, m⟩ := x
        have nc : notOwn (colD c) = true := rfl
        have ct : cutL (c.map D.int) none (some (m : Int)) = (c.take m).map D.int := by rw [cutL_take, List.map_take]
        simp [nc]
        refine ⟨_, rfl, rfl, _, .inl rfl, ?_, ?_⟩
        · rw [ct]
          refine List.all_eq_true.mpr fun x hx => ?_
          obtain ⟨y, _, rfl⟩ := List.mem_map.mp hx
          rfl
        · rw [ct]
          have e : inD (.int a) ((c.take m).map D.int) = decide (a ∈ c.take m) := by
            rw [Bool.eq_iff_iff, in_ints, decide_eq_true_eq]
          rw [e]
          exact hR
      · refine ⟨(p.zip (cols.zip k)).map fun q => decide (q.1 ∈ q.2.1.take q.2.2), by rw [List.map_map]; rfl, ?_⟩
        rw [show ((p.zip (cols.zip k)).map fun q => decide (q.1 ∈ q.2.1.take q.2.2)).all id = (p.zip (cols.zip k)).all fun q => decide (q.1 ∈ q.2.1.take q.2.2) by rw [List.all_map]; rfl, bt]
        simp
        split
        · rename_i hb
          rw [hb] at w1 w2
          refine ⟨rfl, some (.int nm), some (encPlace p), some (.int wt), ?_⟩
          rw [w1, w2]
          simp [bitI]
        · rename_i hb
          have hb' : belT (rkT p cols) (k.map fun m : Nat => (m : Int)) = false := by simpa using hb
          rw [hb'] at w1 w2
          refine ⟨rfl, some (.int nm), some (encPlace p), some (.int wt), ?_⟩
          rw [w1, w2]
          simp [bitI]
  · rintro rho n' ⟨rfl, z6, z7, z8, rfl⟩
    rw [List.length_map, List.take_length]
    simp
    exact q
abbrev s__law_right : Stmt := top 17
abbrev N__law_right : List Str := ["_law_left_here", "_law_house_here", "_law_kept", "_law_rows", "_law_some", "_law_turn", "_law_ranks"]
theorem sc__law_right : FnScope N__law_right ["_law_left_here", "_law_house_here", "_law_kept"] (defScope s__law_right) := ⟨rfl, rfl, rfl, by decide +kernel, rfl, by decide +kernel, by decide +kernel⟩
theorem nd__law_right_0 : ("_law_i" :: N__law_right : List Str).Nodup := by decide +kernel
theorem nd__law_right_1 : ("_law_i" :: N__law_right : List Str).Nodup := by decide +kernel
theorem nd__law_right_2 : ("_law_row" :: N__law_right : List Str).Nodup := by decide +kernel
theorem nd__law_right_3 : ("_law_row" :: N__law_right : List Str).Nodup := by decide +kernel
structure JA (hd : List (Option D)) (d i : Nat) (rho : Rho) (n' : Nat) : Prop where
  e : n' = 2
  r : ∃ (ks : List (List Nat)) (z5 z6 : Option D), ks.length = i + 2 ∧ (∀ k ∈ ks, k.length = d ∧ ∀ m ∈ k, m ≤ 8) ∧ rho = hd ++ [some (.own (ks.map ranksD)), z5, z6]
structure JB (hd : List (Option D)) (i : Nat) (rho : Rho) (n' : Nat) : Prop where
  e : n' = 2
  r : ∃ (z6 : Option D), rho = hd ++ [z6]
def t_right (C : Addr) : TF := fun ds n Q => ∃ (X : List Int) (d : Nat) (cols : List (List Int)) (ts : List Thing) (top : Int), ds = [.st, houseD d ts, .ob C attsN (attsD d cols ts)] ∧ n = 2 ∧ GoodT X d ts top ∧ X.length ≤ 8 ∧ Cols ts d cols ∧ 1 ≤ d ∧ d ≤ 3 ∧ ts.length ≤ 300 ∧ Q (.bl true) n
theorem ok_right {f : Addr} {fd : FuncData} (T : Blt mg) (F : Fun K "_law_right" "_law_right" s__law_right f fd) (M_values : Mth P w K mg base C "values" 1 1 (t_values C)) (M_corner : Mth P w K mg base C "corner" 2 1 (t_corner C)) (F__law_pick : Fn P w K mg base "_law_pick" 1 2 t_pick) (F__law_values : Fn P w K mg base "_law_values" 1 2 t_lvalues) (F__law_corner : Fn P w K mg base "_law_corner" 1 3 t_lcorner) (F__law_same : Fn P w K mg base "_law_same" 4 2 (t_same 4)) : FnOk P w K mg base CX0 5 f fd ["_law_left_here", "_law_house_here", "_law_kept"] (spD K 3 (t_right C)) := by
  refine Fun.okD F sc__law_right (fun cdv A0 outer s H E G Z hr => (pssd_cons (psd_setComp (i := 3) sc__law_right.nd rfl (lo rfl) (own := ["_law_i"]) (M := N__law_right) (compOk (by rfl)) rfl (pid_rng T.range (pad_cons (pd_ix ix_seq re_ix (pd_var 1) pd_int (fun _ _ => rfl)) pad_nil)) (fun C s2 H2 fp => (pgd_name (i := 0) nd__law_right_0 rfl (lo rfl) (by decide))) (fun C s2 H2 fp => ptsd_nil) (fun C s2 H2 fp => (pd_fn F__law_values (hr.mono (by decide)) rfl (pad_cons (pd_var 2) (pad_cons (pd_var 0) pad_nil)))))
    (pssd_cons (psd_if (ptd_not (ptd_val (pd_fn F__law_same (hr.mono (by decide)) rfl (pad_cons (pd_callTy call_tuple_of cr_tuple T.tuple bt_tuple (pad_cons (pd_comp (own := ["_law_i"]) (M := N__law_right) (compOk (by rfl)) rfl (pid_rng T.range (pad_cons (pd_ix ix_seq re_ix (pd_var 1) pd_int (fun _ _ => rfl)) pad_nil)) (fun C s2 H2 fp => (pgd_name (i := 0) nd__law_right_1 rfl (lo rfl) (by decide))) (fun C s2 H2 fp => ptsd_nil) (fun C s2 H2 fp => (pd_meth M_values (hr.mono (by decide)) rfl (pd_var 3) (pad_cons (pd_var 0) pad_nil)))) pad_nil)) (pad_cons (pd_callTy call_tuple_of cr_tuple T.tuple bt_tuple (pad_cons (pd_var 3) pad_nil)) pad_nil))))) (pssd_one (psd_ret pd_bl)) pssd_nil)
    (pssd_cons (psd_own (i := 4) sc__law_right.nd rfl (lo rfl) (pad_cons (pd_callTy call_tuple_of cr_tuple T.tuple bt_tuple (pad_cons (pd_comp (own := ["_law_row"]) (M := N__law_right) (compOk (by rfl)) rfl (pid_seq rfl (pd_var 3)) (fun C s2 H2 fp => (pgd_name (i := 0) nd__law_right_2 rfl (lo rfl) (by decide))) (fun C s2 H2 fp => ptsd_nil) (fun C s2 H2 fp => (pd_callB call_len_seq cr_len T.len bt_len (pad_cons (pd_var 0) pad_nil)))) pad_nil)) (pad_cons (pd_op op_repT re_repT (pd_tup (pad_cons pd_int pad_nil)) (pd_ix ix_seq re_ix (pd_var 1) pd_int (fun _ _ => rfl))) pad_nil)))
    (pssd_cons (psd_for (m := 7) PassesOwn.never rfl (pid_rng T.range (pad_cons pd_int pad_nil)) (pgd_name (i := 5) sc__law_right.nd rfl (lo rfl) (by decide))
    (pssd_one (psd_append (i := 4) (pad_cons (pd_callTy call_tuple_of cr_tuple T.tuple bt_tuple (pad_cons (pd_comp (own := ["_law_row"]) (M := N__law_right) (compOk (by rfl)) rfl (pid_seq rfl (pd_var 3)) (fun C s2 H2 fp => (pgd_name (i := 0) nd__law_right_3 rfl (lo rfl) (by decide))) (fun C s2 H2 fp => ptsd_nil) (fun C s2 H2 fp => (pd_fn F__law_pick (hr.mono (by decide)) rfl (pad_cons (pd_var 1) (pad_cons (pd_add (pd_callB call_len_seq cr_len T.len bt_len (pad_cons (pd_var 0) pad_nil)) pd_int) pad_nil))))) pad_nil)) pad_nil) rfl)))
    (pssd_cons (psd_frz 4 (psd_for (m := 7) PassesOwn.never rfl (pid_seq rfl (pd_var 4)) (pgd_name (i := 6) sc__law_right.nd rfl (lo rfl) (by decide))
    (pssd_one (psd_if (ptd_not (ptd_val (pd_fn F__law_same (hr.mono (by decide)) rfl (pad_cons (pd_meth M_corner (hr.mono (by decide)) rfl (pd_var 2) (pad_cons (pd_var 6) pad_nil)) (pad_cons (pd_fn F__law_corner (hr.mono (by decide)) rfl (pad_cons (pd_var 1) (pad_cons (pd_var 3) (pad_cons (pd_var 6) pad_nil)))) pad_nil))))) (pssd_one (psd_ret pd_bl)) pssd_nil))))
    (pssd_one (psd_ret pd_bl)))))))) ?_
  rintro ds n Q hl ⟨X, d, cols, ts, top, rfl, rfl, hg, hX, hcs, hd1, hd3, hn, q⟩
  have nh : notOwn (houseD d ts) = true := rfl
  have no : notOwn (.ob C attsN (attsD d cols ts)) = true := rfl
  have at0 : ∀ R : D → Prop, R (.int (d : Int)) → rdIx (houseD d ts) (.int 0) R := fun R h => q_rdIxT.mpr ⟨_, rfl, h⟩
  have er : rngD 0 d = (List.range d).map fun (j : Nat) => .int (j : Int) := by
    unfold rngD
    refine List.map_congr_left fun j _ => ?_
    simp
  have ec : ((List.range d).map fun (j : Nat) => colD (cols.getD j [])) = cols.map colD := by
    rw [← hcs.len]
    refine List.ext_getElem (by simp) fun i h1 h2 => ?_
    have hi : i < cols.length := by simpa using h1
    simp [List.getD_eq_getElem?_getD, hi]
  generalize hOb : D.ob C attsN (attsD d cols ts) = ob at no
  generalize hS : sSeq (sOwn 4 _) _ = S
  simp [startD, nh, no]
  refine at0 _ ⟨_, rfl, by lia, by lia, ?_⟩
  simp only [Int.toNat_natCast]
  rw [er]
  refine comp_mapIn (fun (j : Nat) => .int (j : Int)) (fun (j : Nat) => colD (cols.getD j [])) (List.range d) (le_size (by simp; lia)) (fun j hj R hR => ?_) ?_
  · have hj' : j < cols.length := by rw [hcs.len]; simpa using hj
    have ej : cols.getD j [] = cols[j] := by simp [List.getD_eq_getElem?_getD, hj']
    rw [ej] at hR
    simp [nh]
    exact ⟨X, d, ts, top, j, cols[j], rfl, hg, hX, by simpa using hj, hcs.each j _ (List.getElem?_eq_getElem hj'), hn, hR⟩
  · rw [ec]
    simp [nh, no]
    refine at0 _ ⟨_, rfl, by lia, by lia, ?_⟩
    simp only [Int.toNat_natCast]
    rw [er]
    refine comp_mapIn (fun (j : Nat) => .int (j : Int)) (fun (j : Nat) => colD (cols.getD j [])) (List.range d) (le_size (by simp; lia)) (fun j hj R hR => ?_) ?_
    · have hj' : j < cols.length := by rw [hcs.len]; simpa using hj
      have ej : cols.getD j [] = cols[j] := by simp [List.getD_eq_getElem?_getD, hj']
      rw [ej] at hR
      simp [no]
      exact ⟨attsN, ⟨_, hOb.symm⟩, by decide +kernel, d, cols, ts, j, cols[j], by rw [← hOb], List.getElem?_eq_getElem hj', hR⟩
    · rw [ec]
      simp
      refine ⟨_, rfl, ?_, ?_⟩
      · refine okT_tup.mpr ⟨by rw [List.length_map, hcs.len]; lia, fun e he => ?_⟩
        obtain ⟨c, hc, rfl⟩ := List.mem_map.mp he
        obtain ⟨j, hj⟩ := List.mem_iff_getElem?.mp hc
        have := (hcs.each j c hj).few hg
        refine okT_tup.mpr ⟨by rw [List.length_map]; lia, fun e he => ?_⟩
        obtain ⟨x, _, rfl⟩ := List.mem_map.mp he
        rfl
      · simp
        subst hS
        generalize hFz : sSeq (sFrz 4 _) _ = Fz
        simp
        refine comp_mapIn colD (fun c => .int (c.length : Int)) cols (le_size (by rw [hcs.len]; lia)) (fun c hc R hR => ?_) ?_
        · have nc : notOwn (colD c) = true := rfl
          simp [colD]
          exact hR
        · simp [nh]
          have rp : ∀ (R : D → Prop), R (ranksD (List.replicate d 0)) → rdRepT (.tup [.int 0]) (.int (d : Int)) R := fun R h => by
            refine ⟨_, _, rfl, rfl, by simp, by lia, le_size (by simp; lia), ?_⟩
            rw [Int.toNat_natCast]
            rw [rep_ranks]
            exact h
          refine at0 _ (rp _ ?_)
          have eL : D.tup (cols.map fun c => D.int (c.length : Int)) = ranksD (cols.map List.length) := by unfold ranksD; rw [List.map_map]; rfl
          have hcl : ∀ c ∈ cols, c.length ≤ 8 := fun c hc => by
            obtain ⟨j, hj⟩ := List.mem_iff_getElem?.mp hc
            have := (hcs.each j c hj).few hg
            lia
          refine ⟨JA [some D.st, some (houseD d ts), some ob, some (D.lst (cols.map colD))] d, ⟨rfl, [cols.map List.length, List.replicate d 0], none, none, rfl, fun k hk => ?_, by rw [eL]; rfl⟩, ?_, ?_⟩
          · simp only [List.mem_cons, List.not_mem_nil, or_false] at hk
            rcases hk with rfl | rfl
            · refine ⟨by rw [List.length_map]; exact hcs.len, fun m hm => ?_⟩
              obtain ⟨c, hc, rfl⟩ := List.mem_map.mp hm
              exact hcl c hc
            · refine ⟨List.length_replicate, fun m hm => ?_⟩
              rw [List.eq_of_mem_replicate hm]; lia
          · rintro i e rho n' he ⟨rfl, ks, z5, z6, hkl, hks, rfl⟩
            obtain ⟨hi, rfl⟩ := rng_at he
            simp
            refine ⟨lt_size (by lia), ?_⟩
            refine comp_dem0 (cols.map colD) 2 (fun _ e => ∃ m : Nat, m ≤ 8 ∧ e = .int (m : Int)) (le_size (by rw [List.length_map, hcs.len]; lia)) (fun j e he Q' hq => ?_) fun es hes => ?_
            · rw [List.getElem?_map] at he
              cases hc : cols[j]? with
              | none => rw [hc] at he; cases he
              | some c =>
                rw [hc] at he
                cases he
                have := hcl c (List.mem_of_getElem? hc)
                simp [colD]
                refine pick_intro (by lia) (by lia) fun m hm0 hm1 => ?_
                obtain ⟨mN, rfl⟩ := Int.eq_ofNat_of_zero_le hm0
                exact hq _ ⟨mN, by lia, rfl⟩
            · obtain ⟨ms, rfl, hm1, hm2⟩ := paired_ex (fun m : Nat => D.int (m : Int)) (fun m => m ≤ 8) hes
              rw [List.length_map, hcs.len] at hm2
              simp
              refine ⟨rfl, ks ++ [ms], _, _, by rw [List.length_append, hkl]; rfl, fun k hk => ?_, by rw [List.map_append]; rfl⟩
              rcases List.mem_append.mp hk with hk | hk
              · exact hks k hk
              · rw [List.mem_singleton.mp hk]; exact ⟨hm2, hm1⟩
          · rintro rho n' ⟨rfl, ks, z5, z6, hkl, hks, rfl⟩
            subst hFz
            simp
            refine ⟨JB [some D.st, some (houseD d ts), some ob, some (D.lst (cols.map colD)), some (D.lst (ks.map ranksD)), z5], ⟨rfl, z6, rfl⟩, ?_, ?_⟩
            · rintro i e rho n' he ⟨rfl, z, rfl⟩
              rw [List.getElem?_map] at he
              cases hc : ks[i]? with
              | none => rw [hc] at he; cases he
              | some k =>
                rw [hc] at he
                cases he
                obtain ⟨k1, k2⟩ := hks k (List.mem_of_getElem? hc)
                have nk : notOwn (ranksD k) = true := rfl
                simp [no, nh, nk]
                refine ⟨attsN, ⟨_, hOb.symm⟩, by decide +kernel, ?_⟩
                rw [← hOb]
                refine ⟨X, d, cols, ts, top, k.map fun m : Nat => (m : Int), by rw [ranksD_eq], hg, hd3, hn, keys_mem (by simpa using k1) fun x hx => ?_, ?_⟩
                · obtain ⟨m, hm, rfl⟩ := List.mem_map.mp hx
                  have := k2 m hm
                  lia
                · simp
                  refine ⟨X, d, cols, ts, top, k, rfl, hg, hcs, k1, by lia, hn, ?_⟩
                  refine ⟨_, rfl, okT_tup.mpr ⟨by simp, fun e he => ?_⟩, ?_⟩
                  · simp only [List.mem_cons, List.not_mem_nil, or_false] at he
                    rcases he with rfl | rfl <;> rfl
                  · simp
                    exact ⟨rfl, _, rfl⟩
            · rintro rho n' ⟨rfl, z, rfl⟩
              simp
              exact q
end
end K16
set_option maxRecDepth 100000
set_option maxHeartbeats 1000000
namespace K16
open PySem L2 PySem.Spec PyProof.Rows
theorem noSt_script (ns : List Int) : noSt (scriptD ns) = true := noSts_iff.mpr fun e he => by
  obtain ⟨m, _, rfl⟩ := List.mem_map.mp he
  rfl
structure JLaw (ns : List Int) (i : Nat) (rho : Rho) (n : Nat) : Prop where
  e : n = 2
  r : ∃ (a b c d e : Option D), rho = [some (scriptD ns), a, b, c, d, e]
structure JL (ns : List Int) (hd : List (Option D)) (i : Nat) (rho : Rho) (n : Nat) : Prop where
  e : n = 2
  r : ∃ (a : Option D), rho = some (scriptD ns) :: hd ++ [a]
theorem JLaw.keep {ns : List Int} {i : Nat} {a b c d e : Option D} : JLaw ns i (keepRho [some (scriptD ns), a, b, c, d, e]) 2 := by
  refine ⟨rfl, keepO a, keepO b, keepO c, keepO d, keepO e, ?_⟩
  have h1 : keepO (some (scriptD ns)) = some (scriptD ns) := keepO_pos (noSt_script ns)
  simp [keepRho, h1]
structure HK (C : Addr) (h o : D) : Prop where
  ex : ∃ (X : List Int) (d : Nat) (ts : List Thing) (cols : List (List Int)), h = houseD d ts ∧ o = .ob C attsN (attsD d cols ts) ∧ GoodT X d ts 2000 ∧ X.length ≤ 8 ∧ Cols ts d cols ∧ 1 ≤ d ∧ d ≤ 3 ∧ ts.length ≤ 300
def HD (h : D) : Prop := ∃ (X : List Int) (d : Nat) (ts : List Thing), h = houseD d ts ∧ GoodT X d ts 2000 ∧ X.length ≤ 8 ∧ 1 ≤ d ∧ d ≤ 3 ∧ ts.length ≤ 300
theorem two_of {R : D → D → Prop} {l es : List D} (h : Paired R l es) (hl : l.length = 2) : ∃ a b x y, l = [a, b] ∧ es = [x, y] ∧ R a x ∧ R b y := by
  cases h with
  | nil => simp at hl
  | cons r t =>
    cases t with
    | nil => simp at hl
    | cons r2 t2 =>
      cases t2 with
      | nil => exact ⟨_, _, _, _, rfl, rfl, r, r2⟩
      | cons _ _ => simp at hl
section
variable {P : Program} {w : World} {K : PySem.W.Frag} {mg : Str → Option Value} {base : Heap} {C : Addr}
abbrev s_law : Stmt := top 18
abbrev N_law : List Str := ["_law_script", "_law_k", "_law_left_here", "_law_houses", "_law_kept", "_law_j"]
theorem sc_law : FnScope N_law ["_law_script"] (defScope s_law) := ⟨rfl, rfl, rfl, by decide +kernel, rfl, by decide +kernel, by decide +kernel⟩
theorem nd_law_0 : ("_law_j" :: ["_law_script", "_law_k", "_law_left_here", "_law_houses", "_law_kept", "_law_j'"] : List Str).Nodup := by decide +kernel
theorem nd_law_1 : ("_law_house_here" :: N_law : List Str).Nodup := by decide +kernel
theorem ok_law {f : Addr} {fd : FuncData} (T : Blt mg) (F : Fun K "law" "law" s_law f fd) (MK_Corners : Mke P w K mg base C "Corners" 2 1 t_init) (F__law_left : Fn P w K mg base "_law_left" 2 2 t_left) (F__law_pool : Fn P w K mg base "_law_pool" 2 1 t_pool) (F__law_house : Fn P w K mg base "_law_house" 4 4 t_house) (F__law_right : Fn P w K mg base "_law_right" 5 3 (t_right C)) : FnOk P w K mg base CX0 8 f fd ["_law_script"] (spLawD K) := by
  refine Fun.okLaw F sc_law 2 (fun cdv A0 outer s H E hr => (pssd_cons (psd_for (m := 6) PassesOwn.never rfl (pid_rng T.range (pad_cons (pd_callB (call_max2 rfl) cr_max2 T.max bt_max (pad_cons pd_int (pad_cons (pd_callB (call_min2 rfl) cr_min2 T.min bt_min (pad_cons pd_int (pad_cons (pd_callB call_len_seq cr_len T.len bt_len (pad_cons (pd_var 0) pad_nil)) pad_nil))) pad_nil))) pad_nil)) (pgd_name (i := 1) sc_law.nd rfl (lo rfl) (by decide))
    (pssd_newK (i := 2) rfl sc_law.nd rfl (lo rfl) F__law_left (hr.mono (by decide)) rfl (pad_cons (pd_var 0) (pad_cons (pd_var 1) pad_nil)) (fun c Z H0 => (pssd_cons (psd_setComp (i := 3) sc_law.nd rfl (lo rfl) (own := ["_law_j"]) (M := ["_law_script", "_law_k", "_law_left_here", "_law_houses", "_law_kept", "_law_j'"]) (compOk (by rfl)) rfl (pid_rng T.range (pad_cons pd_int pad_nil)) (fun C s2 H2 fp => (pgd_name (i := 0) nd_law_0 rfl (lo rfl) (by decide))) (fun C s2 H2 fp => ptsd_nil) (fun C s2 H2 fp => (pd_fn F__law_house (hr.mono (by decide)) rfl (pad_cons (pd_var 3) (pad_cons pd_int (pad_cons (pd_fn F__law_pool (hr.mono (by decide)) rfl (pad_cons (pd_var 3) pad_nil)) (pad_cons pd_int pad_nil)))))))
    (pssd_cons (psd_setComp (i := 4) sc_law.nd rfl (lo rfl) (own := ["_law_house_here"]) (M := N_law) (compOk (by rfl)) rfl (pid_seq rfl (pd_var 3)) (fun C s2 H2 fp => (pgd_name (i := 0) nd_law_1 rfl (lo rfl) (by decide))) (fun C s2 H2 fp => ptsd_nil) (fun C s2 H2 fp => (pd_make MK_Corners (hr.mono (by decide)) rfl (pad_cons (pd_var 0) pad_nil))))
    (pssd_one (psd_for (m := 6) PassesOwn.never rfl (pid_seq rfl (pd_lst (pad_cons pd_int (pad_cons pd_int (pad_cons pd_int (pad_cons pd_int pad_nil)))))) (pgd_name (i := 5) sc_law.nd rfl (lo rfl) (by decide))
    (pssd_one (psd_if (ptd_not (ptd_val (pd_fn F__law_right (hr.mono (by decide)) rfl (pad_cons (pd_var 2) (pad_cons (pd_ix ix_seq re_ix (pd_var 3) (pd_var 5) (fun _ _ => rfl)) (pad_cons (pd_ix ix_seq re_ix (pd_var 4) (pd_var 5) (fun _ _ => rfl)) pad_nil)))))) (pssd_one (psd_ret pd_bl)) pssd_nil)))))))))
    (pssd_one (psd_ret pd_bl)))) ?_
  intro ns hns
  have nsc : notOwn (scriptD ns) = true := id rfl
  simp [startD, nsc]
  generalize hJ : (if 4 < if (ns.length : Int) < 12 then (ns.length : Int) else 12 then if (ns.length : Int) < 12 then (ns.length : Int) else 12 else 4) = J
  have hJ1 : 4 ≤ J ∧ J ≤ 12 := by rw [← hJ]; split <;> (try split) <;> lia
  clear hJ
  refine ⟨by lia, by lia, JLaw ns, ⟨rfl, _, _, _, _, _, rfl⟩, ?_, ?_⟩
  · rintro i d' rho m e ⟨rfl, a, b, c, d1, e1, rfl⟩
    obtain ⟨hi, rfl⟩ := rng_at e
    simp
    refine newK_intro ns (by simp) (i : Int) (by simp [nsc]) (fun P P' h => by simp [nsc]; exact h _ _) ?_
    refine ⟨ns, _, rfl, hns, by lia, by lia, fun x y hx hy hy2 => ⟨[x, y], rfl, rfl, by simp [hx, hy], by simp [hy2], ?_⟩⟩
    have h1 : keepO (some (scriptD ns)) = some (scriptD ns) := keepO_pos (noSt_script ns)
    simp [keepRho, h1]
    generalize keepO (some (D.int (i : Int))) = k1
    generalize keepO c = k2
    generalize keepO d1 = k3
    generalize keepO e1 = k4
    refine comp_dem0 (rngD 0 2) 2 (fun _ e => HD e) (le_size (by rw [rng_len]; decide)) (fun j e he Q' hq => ?_) fun es hes => ?_
    · simp
      refine ⟨rfl, rfl, fun xs hx1 hx8 hxs => ?_⟩
      have nx : notOwn (numsD xs) = true := rfl
      simp [nx]
      exact ⟨40, 3, xs, rfl, rfl, by decide, by decide, by decide, hx1, hx8, hxs, fun d ts hd1 hd3 hg hlen => hq _ ⟨xs, d, ts, rfl, hg, hx8, hd1, hd3, by lia⟩⟩
    · obtain ⟨a1, a2, g1, g2, _, rfl, hA, hB⟩ := two_of hes (rng_len 2)
      have nA : notOwn g1 = true := by obtain ⟨X, d, ts, rfl, _⟩ := hA; rfl
      have nB : notOwn g2 = true := by obtain ⟨X, d, ts, rfl, _⟩ := hB; rfl
      simp
      refine comp_dem0 [g1, g2] 2 (fun h o => HK C h o) (le_size (by simp)) (fun j e he Q' hq => ?_) fun es2 hes2 => ?_
      · have hm := List.mem_of_getElem? he
        have hE : HD e := by
          simp only [List.mem_cons, List.not_mem_nil, or_false] at hm
          rcases hm with rfl | rfl
          · exact hA
          · exact hB
        obtain ⟨X, d, ts, rfl, hg, hX, hd1, hd3, hn⟩ := hE
        have nh : notOwn (houseD d ts) = true := rfl
        simp [nh]
        exact ⟨X, d, ts, 2000, rfl, hg, hX, hd3, hn, fun cols hcs => hq _ ⟨X, d, ts, cols, rfl, rfl, hg, hX, hcs, hd1, hd3, hn⟩⟩
      · obtain ⟨b1, b2, o1, o2, eb, rfl, hO1, hO2⟩ := two_of hes2 rfl
        cases eb
        refine ⟨JL ns [k1, some D.st, some (.lst [g1, g2]), some (.lst [o1, o2])], ⟨rfl, k4, rfl⟩, ?_, ?_⟩
        · rintro j e rho n' he ⟨rfl, z, rfl⟩
          have hj : e = .int 0 ∨ e = .int 1 := by
            have hm := List.mem_of_getElem? he
            simp only [List.mem_cons, List.not_mem_nil, or_false] at hm
            rcases hm with h | h | h | h <;> simp [h]
          have go : ∀ (h o : D), HK C h o → ∀ Q : D → Nat → Prop, Q (.bl true) 2 → t_right C [.st, h, o] 2 Q := fun h o hk Q q => by
            obtain ⟨X, d, ts, cols, rfl, rfl, hg, hX, hcs, hd1, hd3, hn⟩ := hk
            exact ⟨X, d, cols, ts, 2000, rfl, rfl, hg, hX, hcs, hd1, hd3, hn, q⟩
          have nO1 : notOwn o1 = true := by obtain ⟨X, d, ts, cols, _, rfl, _⟩ := hO1; rfl
          have nO2 : notOwn o2 = true := by obtain ⟨X, d, ts, cols, _, rfl, _⟩ := hO2; rfl
          rcases hj with rfl | rfl
          · simp
            refine go _ _ hO1 _ ?_
            simp
            exact ⟨rfl, _, rfl⟩
          · simp
            refine go _ _ hO2 _ ?_
            simp
            exact ⟨rfl, _, rfl⟩
        · rintro rho n' ⟨rfl, z, rfl⟩
          exact ⟨rfl, JLaw.keep⟩
  · rintro rho m ⟨rfl, a, b, c, d1, e1, rfl⟩
    simp
end
end K16
set_option maxRecDepth 100000
set_option maxHeartbeats 1000000
namespace K16
open PySem L2 PySem.Spec PyProof.Rows
theorem len_succ {α : Type} {us : List α} {c : Nat} (h : us.length = c + 1) : ∃ a r, us = a :: r ∧ r.length = c := by
  cases us with
  | nil => cases h
  | cons a r => exact ⟨a, r, rfl, Nat.succ.inj h⟩
theorem us_1 {fd : FuncData} {ps : List Str} {us : List Value} (h : us.length = 1) (q : ∀ x0, bindArgs fd ⟨[x0], []⟩ = pure (ps.zip [x0])) : bindArgs fd ⟨us, []⟩ = pure (ps.zip us) := by
  obtain ⟨x0, u0, rfl, h0⟩ := len_succ h
  obtain rfl := List.length_eq_zero_iff.mp h0
  exact q x0
theorem us_2 {fd : FuncData} {ps : List Str} {us : List Value} (h : us.length = 2) (q : ∀ x0 x1, bindArgs fd ⟨[x0, x1], []⟩ = pure (ps.zip [x0, x1])) : bindArgs fd ⟨us, []⟩ = pure (ps.zip us) := by
  obtain ⟨x0, u0, rfl, h0⟩ := len_succ h
  obtain ⟨x1, u1, rfl, h1⟩ := len_succ h0
  obtain rfl := List.length_eq_zero_iff.mp h1
  exact q x0 x1
theorem us_3 {fd : FuncData} {ps : List Str} {us : List Value} (h : us.length = 3) (q : ∀ x0 x1 x2, bindArgs fd ⟨[x0, x1, x2], []⟩ = pure (ps.zip [x0, x1, x2])) : bindArgs fd ⟨us, []⟩ = pure (ps.zip us) := by
  obtain ⟨x0, u0, rfl, h0⟩ := len_succ h
  obtain ⟨x1, u1, rfl, h1⟩ := len_succ h0
  obtain ⟨x2, u2, rfl, h2⟩ := len_succ h1
  obtain rfl := List.length_eq_zero_iff.mp h2
  exact q x0 x1 x2
theorem us_4 {fd : FuncData} {ps : List Str} {us : List Value} (h : us.length = 4) (q : ∀ x0 x1 x2 x3, bindArgs fd ⟨[x0, x1, x2, x3], []⟩ = pure (ps.zip [x0, x1, x2, x3])) : bindArgs fd ⟨us, []⟩ = pure (ps.zip us) := by
  obtain ⟨x0, u0, rfl, h0⟩ := len_succ h
  obtain ⟨x1, u1, rfl, h1⟩ := len_succ h0
  obtain ⟨x2, u2, rfl, h2⟩ := len_succ h1
  obtain ⟨x3, u3, rfl, h3⟩ := len_succ h2
  obtain rfl := List.length_eq_zero_iff.mp h3
  exact q x0 x1 x2 x3
structure Dn (K : PySem.W.Frag) (x : Str) (st : Stmt) : Prop where
  ex : ∃ (f : Addr) (fd : FuncData), PySem.W.nsIn K mainGlobals x = some (some (.ref f)) ∧ Fun K x x st f fd
theorem dn {K : PySem.W.Frag} {x : Str} {st : Stmt} {f : Addr} {oc : Value} {od an : Option Addr} {osl : Array (Option Value)} {kV doc pm cdv ct : Value} (a : PySem.W.nsIn K mainGlobals x = some (some (.ref f))) (l : K.lookup f = some ⟨oc, od, .func (PySem.W.fnOf x x (defArgs st) (defBody st) (defScope st) .none kV doc pm an cdv ct), osl⟩) (c : PySem.W.codeIn K cdv x = true) (k : PySem.W.keepIn K (.ref f) = true) : Dn K x st := ⟨f, _, a, fun_mk (st := st) l c k⟩
theorem Dn.fn {P : Program} {w : World} {K : PySem.W.Frag} {mg : Str → Option Value} {base h : Heap} {x : Str} {st : Stmt} {kk k : Nat} {t : TF} {ps : List Str} (d : Dn K x st) (X : K.In h) (G : h.Ns mainGlobals mg) (b : ∀ (kV doc pm : Value) (an : Option Addr) (cdv ct : Value) (us : List Value), us.length = ps.length → bindArgs (PySem.W.fnOf x x (defArgs st) (defBody st) (defScope st) .none kV doc pm an cdv ct) ⟨us, []⟩ = pure (ps.zip us)) (ok : ∀ (f : Addr) (fd : FuncData), Fun K x x st f fd → mg x = some (.ref f) → PySem.W.keepIn K (.ref f) = true → Binds K fd ps [] → FnOk P w K mg base CX0 kk f fd ps (spD K k t)) : Fn P w K mg base x kk k t := by
  obtain ⟨f, fd, a, F⟩ := d.ex
  have m := PySem.W.mg_of X G a
  have B := F.binds b
  exact ⟨f, fd, ps, ok f fd F m F.kp B, m, F.kp, B⟩
structure Dm (K : PySem.W.Frag) (C : Addr) (m qual : Str) (st : Stmt) : Prop where
  ex : ∃ (f : Addr) (fd : FuncData), Meth K C m f ∧ Fun K m qual st f fd
theorem dm {K : PySem.W.Frag} {C : Addr} {m qual : Str} {st : Stmt} {f : Addr} {oc : Value} {od an : Option Addr} {osl : Array (Option Value)} {kV doc pm cdv ct : Value} (a : PySem.W.findIn K (.ref C) m = some (some (.ref f))) (i : PySem.W.isFn K (.ref f) = true) (l : K.lookup f = some ⟨oc, od, .func (PySem.W.fnOf m qual (defArgs st) (defBody st) (defScope st) .none kV doc pm an cdv ct), osl⟩) (c : PySem.W.codeIn K cdv qual = true) (k : PySem.W.keepIn K (.ref f) = true) : Dm K C m qual st := ⟨f, _, ⟨a, i, k⟩, fun_mk (st := st) l c k⟩
theorem Dm.mth {P : Program} {w : World} {K : PySem.W.Frag} {mg : Str → Option Value} {base : Heap} {C : Addr} {m qual : Str} {st : Stmt} {kk k : Nat} {t : TF} {ps : List Str} (d : Dm K C m qual st) (c : Cls K C) (b : ∀ (kV doc pm : Value) (an : Option Addr) (cdv ct : Value) (us : List Value), us.length = ps.length → bindArgs (PySem.W.fnOf m qual (defArgs st) (defBody st) (defScope st) .none kV doc pm an cdv ct) ⟨us, []⟩ = pure (ps.zip us)) (ok : ∀ (f : Addr) (fd : FuncData), Fun K m qual st f fd → FnOk P w K mg base CX0 kk f fd ps (spD K (k + 1) t)) : Mth P w K mg base C m kk k t := by
  obtain ⟨f, fd, M, F⟩ := d.ex
  exact ⟨f, fd, ps, ok f fd F, M, c, F.binds b⟩
theorem Dm.mke {P : Program} {w : World} {K : PySem.W.Frag} {mg : Str → Option Value} {base : Heap} {C : Addr} {x qual : Str} {st : Stmt} {kk k : Nat} {t : TFI} {ps : List Str} (d : Dm K C "__init__" qual st) (mk : PySem.W.makesIn K C = true) (kc : PySem.W.keepIn K (.ref C) = true) (hm : mg x = some (.ref C)) (b : ∀ (kV doc pm : Value) (an : Option Addr) (cdv ct : Value) (us : List Value), us.length = ps.length → bindArgs (PySem.W.fnOf "__init__" qual (defArgs st) (defBody st) (defScope st) .none kV doc pm an cdv ct) ⟨us, []⟩ = pure (ps.zip us)) (ok : ∀ (f : Addr) (fd : FuncData), Fun K "__init__" qual st f fd → FnOk P w K mg base CX0 kk f fd ps (spI K C k t)) : Mke P w K mg base C x kk k t := by
  obtain ⟨f, fd, M, F⟩ := d.ex
  exact ⟨f, fd, ps, ok f fd F, ⟨mk, M.at_, M.fn, kc⟩, hm, F.binds b⟩
theorem all_mk {l : PySem.W.OpenLaw} {w : World} {K : PySem.W.Frag} {h : Heap} {mg : Str → Option Value} {fa f17 : Addr} (X : K.In h) (G : h.Ns mainGlobals mg) (hfa : mg "law" = some (.ref fa))
    {od17 an17 : Option Addr} {sl17 : Array (Option Value)} {oc17 kV17 dc17 pm17 cd17 ct17 : Value}
    {C_Corners : Addr}
    (d0 : Dn K "unlike_numbers" s_unlike_numbers)
    (d1 : Dn K "ranks_of" s_ranks_of)
    (d2 : Dn K "are_below" s_are_below)
    (d3 : Dm K C_Corners "__init__" "Corners.__init__" s_Corners_init)
    (d4 : Dm K C_Corners "values" "Corners.values" s_Corners_values)
    (d5 : Dm K C_Corners "corner" "Corners.corner" s_Corners_corner)
    (d6 : Dn K "_law_cell_at" s__law_cell_at)
    (d7 : Dn K "_law_left" s__law_left)
    (d8 : Dn K "_law_pick" s__law_pick)
    (d9 : Dn K "_law_pool" s__law_pool)
    (d10 : Dn K "_law_number" s__law_number)
    (d11 : Dn K "_law_things" s__law_things)
    (d12 : Dn K "_law_house" s__law_house)
    (d13 : Dn K "_law_same" s__law_same)
    (d14 : Dn K "_law_values" s__law_values)
    (d15 : Dn K "_law_corner" s__law_corner)
    (d16 : Dn K "_law_right" s__law_right)
    (a17 : PySem.W.nsIn K mainGlobals "law" = some (some (.ref f17))) (l17 : K.lookup f17 = some ⟨oc17, od17, .func (PySem.W.fnOf "law" "law" (defArgs s_law) (defBody s_law) (defScope s_law) .none kV17 dc17 pm17 an17 cd17 ct17), sl17⟩) (c17 : PySem.W.codeIn K cd17 "law" = true) (k17 : PySem.W.keepIn K (.ref f17) = true)
    (cn0 : PySem.W.nsIn K mainGlobals "Corners" = some (some (.ref C_Corners)))
    (xh_pg : PySem.W.plainGet K C_Corners Str.empty = true)
    (xh_hd : PySem.W.hasDictIn K C_Corners = true)
    (xh_po : PySem.W.plainOver K C_Corners = true)
    (xh_sa : PySem.W.findIn K (.ref C_Corners) "__setattr__" = some (some (.builtin "object.__setattr__")))
    (xh_mkCorners : PySem.W.makesIn K C_Corners = true)
    (xh_kcCorners : PySem.W.keepIn K (.ref C_Corners) = true)
    (xh_nc : PySem.W.findIn K (.ref C_Corners) "columns" = some none)
    (xh_nr : PySem.W.findIn K (.ref C_Corners) "ranked" = some none)
    (xh_ns : PySem.W.findIn K (.ref C_Corners) "sums" = some none)
    (xh_tp : tupsPlain K = true)
    (z0 : PySem.W.nsIn K mainGlobals "len" = some none) (z1 : PySem.W.nsIn K mainGlobals "abs" = some none) (z2 : PySem.W.nsIn K mainGlobals "all" = some none) (z3 : PySem.W.nsIn K mainGlobals "any" = some none) (z4 : PySem.W.nsIn K mainGlobals "isinstance" = some none) (z5 : PySem.W.nsIn K mainGlobals "int" = some none) (z6 : PySem.W.nsIn K mainGlobals "bool" = some none) (z7 : PySem.W.nsIn K mainGlobals "str" = some none) (z8 : PySem.W.nsIn K mainGlobals "tuple" = some none) (z9 : PySem.W.nsIn K mainGlobals "list" = some none) (z10 : PySem.W.nsIn K mainGlobals "range" = some none) (z11 : PySem.W.nsIn K mainGlobals "zip" = some none) (z12 : PySem.W.nsIn K mainGlobals "enumerate" = some none) (z13 : PySem.W.nsIn K mainGlobals "max" = some none) (z14 : PySem.W.nsIn K mainGlobals "min" = some none) (z15 : PySem.W.nsIn K mainGlobals "sorted" = some none) (z16 : PySem.W.nsIn K mainGlobals "sum" = some none) :
    ∃ fd : FuncData, (∀ (s : Shared) (v : Value), BindsTo s fd ⟨[v], []⟩ [("_law_script", v)]) ∧ ∀ base : Heap, K.In base → base.Ns mainGlobals mg → base.NoDigits → FnOk l.prog w K mg base CX0 8 fa fd ["_law_script"] (spLawD K) := by
  have e := hfa.symm.trans (PySem.W.mg_of X G a17)
  cases e
  have T : Blt mg := ⟨PySem.W.mg_none_of X G z0, PySem.W.mg_none_of X G z1, PySem.W.mg_none_of X G z2, PySem.W.mg_none_of X G z3, PySem.W.mg_none_of X G z4, PySem.W.mg_none_of X G z5, PySem.W.mg_none_of X G z6, PySem.W.mg_none_of X G z7, PySem.W.mg_none_of X G z8, PySem.W.mg_none_of X G z9, PySem.W.mg_none_of X G z10, PySem.W.mg_none_of X G z11, PySem.W.mg_none_of X G z12, PySem.W.mg_none_of X G z13, PySem.W.mg_none_of X G z14, PySem.W.mg_none_of X G z15⟩
  have T2 : Blt2 mg := ⟨PySem.W.mg_none_of X G z16⟩
  have CX_Corners := PySem.W.mg_of X G cn0
  have CL : Cls K C_Corners := ⟨xh_pg, xh_hd, xh_po, xh_sa⟩
  have NA_columns : NoAttr K C_Corners "columns" := xh_nc
  have NA_ranked : NoAttr K C_Corners "ranked" := xh_nr
  have NA_sums : NoAttr K C_Corners "sums" := xh_ns
  have U17 := fun_mk (st := s_law) l17 c17 k17
  refine ⟨PySem.W.fnOf "law" "law" (defArgs s_law) (defBody s_law) (defScope s_law) .none kV17 dc17 pm17 an17 cd17 ct17, fun s v => .of_eq rfl, fun base _ _ ND => ?_⟩
  have F_unlike_numbers : Fn l.prog w K mg base "unlike_numbers" 1 2 t_unlike := d0.fn X G (ps := ["things", "i"]) (fun _ _ _ _ _ _ us hl => us_2 hl fun _ _ => rfl) fun _ _ U M N B => ok_unlike T U
  have F_ranks_of : Fn l.prog w K mg base "ranks_of" 1 2 t_ranks := d1.fn X G (ps := ["place", "columns"]) (fun _ _ _ _ _ _ us hl => us_2 hl fun _ _ => rfl) fun _ _ U M N B => ok_ranks T xh_tp U
  have F_are_below : Fn l.prog w K mg base "are_below" 1 2 t_below := d2.fn X G (ps := ["ranks", "others"]) (fun _ _ _ _ _ _ us hl => us_2 hl fun _ _ => rfl) fun _ _ U M N B => ok_below T U
  have MK_Corners : Mke l.prog w K mg base C_Corners "Corners" 2 1 t_init := d3.mke xh_mkCorners xh_kcCorners CX_Corners (ps := ["self", "house"]) (fun _ _ _ _ _ _ us hl => us_2 hl fun _ _ => rfl) fun _ _ U => ok_init T CL NA_columns NA_ranked NA_sums U F_unlike_numbers F_ranks_of
  have M_values : Mth l.prog w K mg base C_Corners "values" 1 1 (t_values C_Corners) := d4.mth CL (ps := ["self", "i"]) (fun _ _ _ _ _ _ us hl => us_2 hl fun _ _ => rfl) fun _ _ U => ok_values CL NA_columns U
  have M_corner : Mth l.prog w K mg base C_Corners "corner" 2 1 (t_corner C_Corners) := d5.mth CL (ps := ["self", "ranks"]) (fun _ _ _ _ _ _ us hl => us_2 hl fun _ _ => rfl) fun _ _ U => ok_corner T T2 CL NA_ranked NA_sums U F_are_below
  have F__law_cell_at : Fn l.prog w K mg base "_law_cell_at" 1 2 t_cell_at := d6.fn X G (ps := ["_law_script", "_law_k"]) (fun _ _ _ _ _ _ us hl => us_2 hl fun _ _ => rfl) fun _ _ U M N B => ok_cell_at T U
  have F__law_left : Fn l.prog w K mg base "_law_left" 2 2 t_left := d7.fn X G (ps := ["_law_script", "_law_k"]) (fun _ _ _ _ _ _ us hl => us_2 hl fun _ _ => rfl) fun _ _ U M N B => ok_left T ND U F__law_cell_at
  have F__law_pick : Fn l.prog w K mg base "_law_pick" 1 2 t_pick := d8.fn X G (ps := ["_law_left_here", "_law_many"]) (fun _ _ _ _ _ _ us hl => us_2 hl fun _ _ => rfl) fun _ _ U M N B => ok_pick U
  have F__law_pool : Fn l.prog w K mg base "_law_pool" 2 1 t_pool := d9.fn X G (ps := ["_law_left_here"]) (fun _ _ _ _ _ _ us hl => us_1 hl fun _ => rfl) fun _ _ U M N B => ok_pool T U F__law_pick
  have F__law_number : Fn l.prog w K mg base "_law_number" 2 2 t_number := d10.fn X G (ps := ["_law_left_here", "_law_pool_here"]) (fun _ _ _ _ _ _ us hl => us_2 hl fun _ _ => rfl) fun _ _ U M N B => ok_number T U F__law_pick
  have F__law_things : Fn l.prog w K mg base "_law_things" 3 4 t_things := d11.fn X G (ps := ["_law_left_here", "_law_d", "_law_many", "_law_pool_here"]) (fun _ _ _ _ _ _ us hl => us_4 hl fun _ _ _ _ => rfl) fun _ _ U M N B => ok_things T U F__law_pick F__law_number
  have F__law_house : Fn l.prog w K mg base "_law_house" 4 4 t_house := d12.fn X G (ps := ["_law_left_here", "_law_most", "_law_pool_here", "_law_numbers"]) (fun _ _ _ _ _ _ us hl => us_4 hl fun _ _ _ _ => rfl) fun _ _ U M N B => ok_house T U F__law_pick F__law_things
  have F__law_same : Fn l.prog w K mg base "_law_same" 4 2 (t_same 4) := d13.fn X G (ps := ["_law_found", "_law_due"]) (fun _ _ _ _ _ _ us hl => us_2 hl fun _ _ => rfl) fun _ _ U M N B => ok_same T U M N B 4
  have F__law_values : Fn l.prog w K mg base "_law_values" 1 2 t_lvalues := d14.fn X G (ps := ["_law_house_here", "_law_i"]) (fun _ _ _ _ _ _ us hl => us_2 hl fun _ _ => rfl) fun _ _ U M N B => ok_lvalues T U
  have F__law_corner : Fn l.prog w K mg base "_law_corner" 1 3 t_lcorner := d15.fn X G (ps := ["_law_house_here", "_law_rows", "_law_ranks"]) (fun _ _ _ _ _ _ us hl => us_3 hl fun _ _ _ => rfl) fun _ _ U M N B => ok_lcorner T U
  have F__law_right : Fn l.prog w K mg base "_law_right" 5 3 (t_right C_Corners) := d16.fn X G (ps := ["_law_left_here", "_law_house_here", "_law_kept"]) (fun _ _ _ _ _ _ us hl => us_3 hl fun _ _ _ => rfl) fun _ _ U M N B => ok_right T U M_values M_corner F__law_pick F__law_values F__law_corner F__law_same
  exact ok_law T U17 MK_Corners F__law_left F__law_pool F__law_house F__law_right
theorem walk {l : PySem.W.OpenLaw} {q : Program} {loose : List Str} {XP : (Str → Option Value) → Heap → Prop} {YP : World → Heap → Prop} {d : DefRec} {K : Params → PySem.W.Frag} (hn : l.most = some 63) (hdf : d.params.defaults = [])
    (hY : ∀ (w : World) (h : Heap), YP w h → (K w.params).In h)
    (F : ∀ (w : World) (mg : Str → Option Value) (fa : Addr) (h : Heap), (K w.params).In h → h.Ns mainGlobals mg → mg d.name = some (.ref fa) →
      ∃ fd : FuncData, (∀ (s : Shared) (u : Value), BindsTo s fd ⟨[u], []⟩ [("_law_script", u)]) ∧ ∀ base : Heap, (K w.params).In base → base.Ns mainGlobals mg → base.NoDigits → FnOk l.prog w (K w.params) mg base CX0 8 fa fd ["_law_script"] (spLawD (K w.params))) :
    PySem.W.WalkO q loose XP YP l.row.toRowW d [] (fun f vs => PySem.call f vs) :=
  L2.walk_ofN (n := 63) (k := 8) (x := "_law_script") (CX := fun _ => CX0) (sp := fun w => spLawD (K w.params)) hn (by decide) hdf ⟨rfl, by decide, by decide, rfl⟩ hY F (fun _ _ a ns hl hO hS => ⟨a, ns, rfl, hO, hS, hl, fun _ => rfl⟩) fun _ _ _ _ _ z => z
end K16
open PySem PySem.W PyProof.Rows
set_option maxRecDepth 100000 in
set_option maxHeartbeats 0 in
theorem PySem.Challenge.cw_boxlayers_k16_corners_holds : PySem.Challenge.rw_boxlayers_k16_corners.Holds := by
  w_on; refine holds_law (by kernel_rfl) fun said => ?_; refine holds_open (q := K16H.view) (loose := []) (N := 10000) (XP := XL K16H.view []) (Xt := fun s => xlAt K16H.view [] s && recOk (RowW.records (OpenRow.toRowW (OpenLaw.row PySem.Challenge.rw_boxlayers_k16_corners))) s) (Yf := Hook.obs K16H.hook) (Ya := Hook.val K16H.hook) (YP := Hook.says K16H.hook) K16H.left (Hook.of K16H.hook) (Hook.keeps K16H.hook) (fun s e => xl_of s (Bool.and_eq_true_iff.mp e).1) XL.keeps rfl rfl rfl (fun s e => recFacts_of (Bool.and_eq_true_iff.mp e).2) rfl (by first | assumption | decide +kernel) (by decide +kernel) ⟨rfl, rfl, rfl, rfl, rfl, by decide +kernel⟩ ?_ ?_
  · w_witness2
  k_fill
  refine K16.walk (l := PySem.Challenge.rw_boxlayers_k16_corners) rfl rfl (fun w h Y => PySem.W.kIn_of Y) ?F
  case F =>
    intro w mg fa h KX G hmg
    refine' K16.all_mk KX G hmg ?d0 ?d1 ?d2 ?d3 ?d4 ?d5 ?d6 ?d7 ?d8 ?d9 ?d10 ?d11 ?d12 ?d13 ?d14 ?d15 ?d16 ?a17 ?l17 ?c17 ?k17 ?cn0 ?xh_pg ?xh_hd ?xh_po ?xh_sa ?xh_mkCorners ?xh_kcCorners ?xh_nc ?xh_nr ?xh_ns ?xh_tp ?z0 ?z1 ?z2 ?z3 ?z4 ?z5 ?z6 ?z7 ?z8 ?z9 ?z10 ?z11 ?z12 ?z13 ?z14 ?z15 ?z16
    (case a17 => k_is)
    (case l17 => k_is)
    (case c17 => k_is)
    (case k17 => k_is)
    (case cn0 => k_is)
    (case xh_pg => (first | k_is | rfl | kernel_rfl))
    (case xh_hd => (first | k_is | rfl | kernel_rfl))
    (case xh_po => (first | k_is | rfl | kernel_rfl))
    (case xh_sa => (first | k_is | rfl | kernel_rfl))
    (case xh_mkCorners => (first | k_is | rfl | kernel_rfl))
    (case xh_kcCorners => (first | k_is | rfl | kernel_rfl))
    (case xh_nc => (first | k_is | rfl | kernel_rfl))
    (case xh_nr => (first | k_is | rfl | kernel_rfl))
    (case xh_ns => (first | k_is | rfl | kernel_rfl))
    (case xh_tp => (first | k_is | rfl | kernel_rfl))
    (case z0 => k_is)
    (case z1 => k_is)
    (case z2 => k_is)
    (case z3 => k_is)
    (case z4 => k_is)
    (case z5 => k_is)
    (case z6 => k_is)
    (case z7 => k_is)
    (case z8 => k_is)
    (case z9 => k_is)
    (case z10 => k_is)
    (case z11 => k_is)
    (case z12 => k_is)
    (case z13 => k_is)
    (case z14 => k_is)
    (case z15 => k_is)
    (case z16 => k_is)
    all_goals first | (apply K16.dn; k_is; k_is; k_is; k_is) | (apply K16.dm; k_is; k_is; k_is; k_is; k_is)
end
#print axioms PySem.Challenge.cw_boxlayers_k16_corners_holds
