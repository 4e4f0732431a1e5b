import PyProof.Rows.All
import Wide.All
import OpenK.AllK
import Wide.FinOn
import Lean
import PyProof.EqAt
import PyProof.EqKinds
import PyProof.TupleCall
import PyProof.CompFree
import PyProof.ZipIter
import PyProof.Cells
import PyProof.Rows.CellsFrame
import PyProof.EnumMake
import PyProof.TupleIter
import PyProof.IsiPairs
import PyProof.IsiSeqPairs
import PyProof.IsiNone
import PyProof.ConsumeWalk
import PyProof.DictCompW
import PyProof.NeKinds
import PyProof.MinMaxWalk
import PyProof.Rows.SortRev
import KE.KIsAll
import KE.KDictOf
import PyProof.AttrMissHeap
import PyProof.CallFns
import KE.KDictSum
import PySem.Challenge.RW_boxlayers_k33_marked_or_none
noncomputable section
set_option Elab.async false
set_option linter.all false
set_option maxRecDepth 100000
namespace L2
open PySem PySem.Spec PyProof.Rows
abbrev Key := Sum Int Str
def keyIs : Key → Value → Bool
  | .inl k, v => Value.isInt k v
  | .inr x, v => Value.isStrOf x v
def keyH (w : World) : Key → Int
  | .inl k => hashInt k
  | .inr x => hashStr w x
theorem keyIs_shape : ∀ {k : Key} {v : Value}, keyIs k v = true → (∃ i t, k = Sum.inl i ∧ v = Value.int i t) ∨ (∃ x t, k = Sum.inr x ∧ v = Value.str x t)
  | .inl i, v, h => by
    obtain ⟨t, e⟩ := Value.isInt_shape (k := i) (v := v) h
    exact .inl ⟨i, t, rfl, e⟩
  | .inr x, v, h => by
    obtain ⟨t, e⟩ := Value.isStrOf_shape (x := x) (v := v) h
    exact .inr ⟨x, t, rfl, e⟩
theorem keyIs_int (i : Int) (t : Tok) : keyIs (.inl i) (.int i t) = true := by simp [keyIs, Value.isInt]
theorem keyIs_str (x : Str) (t : Tok) : keyIs (.inr x) (.str x t) = true := by simp [keyIs, Value.isStrOf]
theorem key_ll (a b : Int) : decide ((Sum.inl a : Key) = Sum.inl b) = (a == b) := by
  by_cases e : a = b
  · subst e; simp
  · have h : ¬ (Sum.inl a : Key) = Sum.inl b := fun q => e (Sum.inl.inj q)
    rw [decide_eq_false h]
    exact (beq_eq_false_iff_ne.mpr e).symm
theorem key_rr (a b : Str) : decide ((Sum.inr a : Key) = Sum.inr b) = decide (a = b) := by
  by_cases e : a = b
  · subst e; simp
  · have h : ¬ (Sum.inr a : Key) = Sum.inr b := fun q => e (Sum.inr.inj q)
    rw [decide_eq_false h, decide_eq_false e]
theorem key_lr (a : Int) (b : Str) : decide ((Sum.inl a : Key) = Sum.inr b) = false := decide_eq_false (fun q => nomatch q)
theorem key_rl (a : Str) (b : Int) : decide ((Sum.inr a : Key) = Sum.inl b) = false := decide_eq_false (fun q => nomatch q)
def mixKind (prog : Program) (w : World) : PySem.KeyKind prog w Key where
  is := keyIs
  hash := keyH w
  inj := fun v a b ha hb => by
    rcases keyIs_shape ha with ⟨i, t, rfl, rfl⟩ | ⟨x, t, rfl, rfl⟩
    · rcases keyIs_shape hb with ⟨j, u, rfl, e⟩ | ⟨y, u, rfl, e⟩
      · injection e with e1 _; rw [e1]
      · exact nomatch e
    · rcases keyIs_shape hb with ⟨j, u, rfl, e⟩ | ⟨y, u, rfl, e⟩
      · exact nomatch e
      · injection e with e1 _; rw [e1]
  byValue := fun k v h => by
    rcases keyIs_shape h with ⟨i, t, rfl, rfl⟩ | ⟨x, t, rfl, rfl⟩ <;> rfl
  pyHash := fun hv h => by
    rcases keyIs_shape hv with ⟨i, t, rfl, rfl⟩ | ⟨x, t, rfl, rfl⟩
    · exact wpAny_pyHash_int h
    · exact wpAny_pyHash_str h
  eqBool := fun hu hv h => by
    rcases keyIs_shape hu with ⟨i, t, rfl, rfl⟩ | ⟨x, t, rfl, rfl⟩
    · rcases keyIs_shape hv with ⟨j, u, rfl, rfl⟩ | ⟨y, u, rfl, rfl⟩
      · rw [key_ll] at h; exact wpAny_eqBool_int h
      · rw [key_lr] at h; exact SeqAt.EqAt.int_str i t y u _ _ _ _ h
    · rcases keyIs_shape hv with ⟨j, u, rfl, rfl⟩ | ⟨y, u, rfl, rfl⟩
      · rw [key_rl] at h; exact SeqAt.EqAt.str_int x t j u _ _ _ _ h
      · rw [key_rr] at h; exact wpAny_eqBool_str h
  «strs» := fun k x t v h => by
    rcases keyIs_shape h with ⟨i, u, rfl, e⟩ | ⟨y, u, rfl, e⟩
    · exact nomatch e
    · injection e with e1 _
      subst e1
      cases v <;> rfl
theorem mixKind_int (prog : Program) (w : World) (i : Int) (t : Tok) : (mixKind prog w).is (.inl i) (.int i t) = true := keyIs_int i t
theorem mixKind_str (prog : Program) (w : World) (x : Str) (t : Tok) : (mixKind prog w).is (.inr x) (.str x t) = true := keyIs_str x t
end L2
namespace L2
open PySem PySem.Spec PyProof.Rows
inductive V where
  | non | bl (b : Bool) | int (i : Int) | str (x : Str) | byt (b : Array UInt8) | flt (b : UInt64) | ref (a : Addr) | ty (n : String)
  deriving DecidableEq
def RelV : V → Value → Prop
  | .non, u => u = Value.none
  | .bl b, u => u = Value.bool b
  | .int i, u => ∃ t, u = Value.int i t
  | .str x, u => ∃ t, u = Value.str x t
  | .byt b, u => ∃ t, u = Value.bytes b t
  | .flt b, u => ∃ t, u = Value.float b t
  | .ref a, u => u = Value.ref a
  | .ty n, u => u = Value.type n
abbrev Vals : List V → List Value → Prop := Paired RelV
theorem Vals.length {xs : List V} {us : List Value} (r : Vals xs us) : xs.length = us.length := Paired.length r
theorem Vals.get : ∀ {xs : List V} {us : List Value} {i : Nat} {x : V}, Vals xs us → xs[i]? = some x → ∃ u, us[i]? = some u ∧ RelV x u
  | _, _, _, _, .nil, e => by simp at e
  | _, _, 0, _, .cons r _, e => by simp at e; subst e; exact ⟨_, rfl, r⟩
  | _, _, i + 1, x, .cons _ t, e => by
    obtain ⟨u, h1, h2⟩ := Vals.get (i := i) (x := x) t (by simpa using e)
    exact ⟨u, by simpa using h1, h2⟩
theorem Vals.set {x : V} {u : Value} (r : RelV x u) : ∀ {xs : List V} {us : List Value} (i : Nat), Vals xs us → Vals (xs.set i x) (us.set i u)
  | _, _, _, .nil => .nil
  | _, _, 0, .cons _ t => .cons r t
  | _, _, i + 1, .cons q t => .cons q (Vals.set r i t)
theorem Vals.append : ∀ {xs ys : List V} {us ws : List Value}, Vals xs us → Vals ys ws → Vals (xs ++ ys) (us ++ ws)
  | _, _, _, _, .nil, s => s
  | _, _, _, _, .cons r t, s => .cons r (Vals.append t s)
theorem Vals.take : ∀ {xs : List V} {us : List Value} (n : Nat), Vals xs us → Vals (xs.take n) (us.take n)
  | _, _, 0, _ => .nil
  | _, _, _ + 1, .nil => .nil
  | _, _, n + 1, .cons r t => .cons r (Vals.take n t)
theorem Vals.drop : ∀ {xs : List V} {us : List Value} (n : Nat), Vals xs us → Vals (xs.drop n) (us.drop n)
  | _, _, 0, r => r
  | _, _, _ + 1, .nil => .nil
  | _, _, n + 1, .cons _ t => Vals.drop n t
def RelO : Option V → Option Value → Prop
  | some v, some u => RelV v u
  | none, none => True
  | _, _ => False
def KV {κ : Type} : List (κ × V) → List (κ × Value) → Prop := Paired fun (p : κ × V) (q : κ × Value) => p.1 = q.1 ∧ RelV p.2 q.2
def kV : Key → V
  | .inl i => .int i
  | .inr x => .str x
inductive HO where
  /-- a list -/
  | lst (xs : List V)
  /-- a tuple (never changes) -/
  | tup (xs : List V)
  /-- a dict whose keys are ints and texts; one whose keys are tuples of ints and texts (the empty one is both) -/
  | dK (kvs : List (Key × V)) | dT (kvs : List (List Key × V))
  /-- a set of ints: its members, its size -/
  | set (S : Int → Bool) (n : Nat)
  /-- an instance of the class at C, its dict at dx, its attributes -/
  | ins (C dx : Addr) (fs : List (Str × V))
  /-- the dict of the instance at x -/
  | own (x : Addr)
  /-- the dict of an exception -/
  | xd (fs : List (Str × V))
  /-- a bound method, f of x -/
  | met (f x : Addr)
  /-- a range object lo, lo + 1, .. below hi -/
  | rng (lo hi : Int)
  /-- a thing that is known to the object (the script; a dict while a loop walks it): read, never written while it is so -/
  | frz (o : Obj) (u : HO)
  /-- a code object's table -/
  | tbl (ps : Array Value)
  /-- any other thing, by what is true of its one object (a def of one's own: SetO a S n := HO.ext fun h => ..) -/
  | ext (φ : Heap → Prop)
abbrev Hp := Addr → Option HO
def upd (H : Hp) (a : Addr) (o : HO) : Hp := fun b => if b = a then some o else H b
theorem upd_same {H : Hp} {a : Addr} {o : HO} : upd H a o a = some o := by unfold upd; rw [if_pos rfl]
theorem upd_ne {H : Hp} {a b : Addr} {o : HO} (h : b ≠ a) : upd H a o b = H b := by unfold upd; rw [if_neg h]
theorem ne_of_none {H : Hp} {a b : Addr} {o : HO} (h : H a = some o) (h' : H b = none) : a ≠ b := by
  intro e; subst e; rw [h] at h'; cases h'
section
variable (P : Program) (w : World)
def ObjOk (H : Hp) (h : Heap) (a : Addr) : HO → Prop
  | .lst xs => xs.length ≤ sizeLine ∧ ∃ (its : List Value) (n : Nat), Vals xs its ∧ h.get? a = some { cls := .type "list", data := .seq its.toArray n }
  | .tup xs => xs.length ≤ sizeLine ∧ ∃ its : List Value, Vals xs its ∧ IsTup h a its.toArray
  | .dK kvs => kvs.length ≤ sizeLine ∧ (a == sysModules) = false ∧ ∃ vs, KV kvs vs ∧ h.DictOf (mixKind P w) a vs
  | .dT kvs => kvs.length ≤ sizeLine ∧ (a == sysModules) = false ∧ ∃ xs : List (List Key × Addr × Value),
      Paired (fun (p : List Key × V) (q : List Key × Addr × Value) => p.1 = q.1 ∧ H q.2.1 = some (.tup (p.1.map kV)) ∧ RelV p.2 q.2.2) kvs xs ∧
      ∃ o es ep, h.get? a = some o ∧ o.ExactDict ∧ o.data = .dict es ep ∧ es.toList = xs.map (entryOfKey (tupleKind (mixKind P w))) ∧ (xs.map (·.1)).Nodup
  | .set S n => h.SetOf (intKind P w) a S n
  | .ins C dx fs => H dx = some (.own a) ∧ fs.length ≤ 1000 ∧ dx ≠ a ∧ h.get? a = some (PySem.W.instObj C dx) ∧
      ∃ mA, h.Ns1 dx mA ∧ (∀ f, RelO (fs.lookup f) (mA f)) ∧ PySem.Within mA (fs.map (·.1))
  | .own _ => ∃ o, h.get? a = some o
  | .xd fs => ∃ mA, h.Ns1 a mA ∧ ∀ f, RelO (fs.lookup f) (mA f)
  | .rng lo hi => ∃ t u v, h.get? a = some { cls := .type "range", data := .fields #[.int lo t, .int hi u, .int 1 v] }
  | .frz o u => h.get? a = some o ∧ ObjOk H h a u
  | .tbl ps => h.get? a = some { cls := .none, data := .fields ps }
  | .met f x => h.get? a = some (PySem.W.methodObj (.ref f) (.ref x))
  | .ext φ => φ h ∧ (∃ o, h.get? a = some o) ∧ ∀ h1 h2 : Heap, φ h1 → (∀ o, h1.get? a = some o → h2.get? a = some o) → φ h2
def HOk (H : Hp) (h : Heap) : Prop := ∀ a o, H a = some o → ObjOk P w H h a o
end
section
variable {P : Program} {w : World} {H H' : Hp} {h h' : Heap} {a : Addr} {o : HO}
theorem ObjOk.lt (x : ObjOk P w H h a o) : a < h.objs.size := by
  cases o with
  | lst xs => obtain ⟨_, _, _, _, e⟩ := x; exact Heap.lt_size e
  | tup xs => obtain ⟨_, _, _, p⟩ := x; exact p.lt
  | dK kvs => obtain ⟨_, _, _, _, o, _, _, e, _⟩ := x; exact Heap.lt_size e
  | dT kvs => obtain ⟨_, _, _, _, o, _, _, e, _⟩ := x; exact Heap.lt_size e
  | set S n => obtain ⟨o, _, _, _, e, _⟩ := x; exact Heap.lt_size e
  | ins C dx fs => obtain ⟨_, _, _, e, _⟩ := x; exact Heap.lt_size e
  | own y => obtain ⟨_, e⟩ := x; exact Heap.lt_size e
  | xd fs => obtain ⟨_, ⟨_, _, _, e, _⟩, _⟩ := x; exact Heap.lt_size e
  | rng lo hi => obtain ⟨_, _, _, e⟩ := x; exact Heap.lt_size e
  | frz ob u => obtain ⟨e, _⟩ := x; exact Heap.lt_size e
  | tbl ps => exact Heap.lt_size (show h.get? a = some _ from x)
  | met f y => exact Heap.lt_size (show h.get? a = some _ from x)
  | ext φ => obtain ⟨_, ⟨_, e⟩, _⟩ := x; exact Heap.lt_size e
theorem Paired.mapP {α β : Type} {F G : α → β → Prop} : ∀ {l₁ : List α} {l₂ : List β}, Paired F l₁ l₂ → (∀ a b, F a b → G a b) → Paired G l₁ l₂
  | _, _, .nil, _ => .nil
  | _, _, .cons r t, f => .cons (f _ _ r) (Paired.mapP t f)
theorem ObjOk.stay (x : ObjOk P w H h a o) (k : ∀ b u, (b = a ∨ H b = some (.own a)) → h.get? b = some u → h'.get? b = some u)
    (ho : ∀ b, H b = some (.own a) → H' b = some (.own a)) (ht : ∀ b xs, H b = some (.tup xs) → H' b = some (.tup xs)) : ObjOk P w H' h' a o := by
  induction o with
  | lst xs => obtain ⟨z, its, n, r, e⟩ := x; exact ⟨z, its, n, r, k _ _ (.inl rfl) e⟩
  | tup xs => obtain ⟨z, its, r, ob, e, c⟩ := x; exact ⟨z, its, r, ob, k _ _ (.inl rfl) e, c⟩
  | dK kvs => obtain ⟨z, y, vs, r, ob, es, ep, e, c⟩ := x; exact ⟨z, y, vs, r, ob, es, ep, k _ _ (.inl rfl) e, c⟩
  | dT kvs =>
    obtain ⟨z, y, xs, r, ob, es, ep, e, c⟩ := x
    exact ⟨z, y, xs, Paired.mapP r fun p q z => ⟨z.1, ht _ _ z.2.1, z.2.2⟩, ob, es, ep, k _ _ (.inl rfl) e, c⟩
  | set S n => obtain ⟨ob, es, ep, t, e, c⟩ := x; exact ⟨ob, es, ep, t, k _ _ (.inl rfl) e, c⟩
  | ins C dx fs =>
    obtain ⟨d, z, ne, e, mA, ⟨od, es, ep, e2, c⟩, r⟩ := x
    exact ⟨ho _ d, z, ne, k _ _ (.inl rfl) e, mA, ⟨od, es, ep, k _ _ (.inr d) e2, c⟩, r⟩
  | own y => obtain ⟨ob, e⟩ := x; exact ⟨ob, k _ _ (.inl rfl) e⟩
  | xd fs => obtain ⟨mA, ⟨od, es, ep, e, c⟩, r⟩ := x; exact ⟨mA, ⟨od, es, ep, k _ _ (.inl rfl) e, c⟩, r⟩
  | rng lo hi => obtain ⟨t, u, v, e⟩ := x; exact ⟨t, u, v, k _ _ (.inl rfl) e⟩
  | frz ob u ih => obtain ⟨e, q⟩ := x; exact ⟨k _ _ (.inl rfl) e, ih q⟩
  | tbl ps =>
    have e : h.get? a = some { cls := .none, data := .fields ps } := x
    show h'.get? a = some { cls := .none, data := .fields ps }
    exact k a _ (.inl rfl) e
  | met f y =>
    have e : h.get? a = some (PySem.W.methodObj (.ref f) (.ref y)) := x
    show h'.get? a = some (PySem.W.methodObj (.ref f) (.ref y))
    exact k a _ (.inl rfl) e
  | ext φ => obtain ⟨p, ⟨o, e⟩, st⟩ := x; exact ⟨st _ _ p fun o q => k _ _ (.inl rfl) q, ⟨o, k _ _ (.inl rfl) e⟩, st⟩
theorem HOk.lt (x : HOk P w H h) (e : H a = some o) : a < h.objs.size := (x a o e).lt
theorem HOk.fresh (x : HOk P w H h) (e : h.objs.size ≤ a) : H a = none := by
  cases q : H a with
  | none => rfl
  | some u => exact absurd (Nat.lt_of_lt_of_le (x.lt q) e) (Nat.lt_irrefl _)
theorem HOk.kept (x : HOk P w H h) (k : ∀ b u, h.get? b = some u → h'.get? b = some u) : HOk P w H h' := fun a o e =>
  (x a o e).stay (fun b u _ q => k b u q) (fun _ q => q) fun _ _ q => q
theorem HOk.laid (x : HOk P w H h) (k : ∀ b u, h.get? b = some u → h'.get? b = some u) (hp : h.objs.size ≤ a) (new : ObjOk P w (upd H a o) h' a o) : HOk P w (upd H a o) h' := fun b u e => by
  have hn := x.fresh hp
  by_cases hb : b = a
  · subst hb; rw [upd_same] at e; cases e; exact new
  · rw [upd_ne hb] at e
    exact (x b u e).stay (fun c v _ q => k c v q) (fun c q => by rw [upd_ne (ne_of_none q hn)]; exact q) fun c xs q => by rw [upd_ne (ne_of_none q hn)]; exact q
end
def Rd (H : Hp) (a : Addr) (u : HO) : Prop := H a = some u ∨ ∃ o, H a = some (.frz o u)
theorem Rd.ok {P : Program} {w : World} {H : Hp} {h : Heap} {a : Addr} {u : HO} (r : Rd H a u) (x : HOk P w H h) : ObjOk P w H h a u := by
  rcases r with r | ⟨o, r⟩
  · exact x a u r
  · obtain ⟨_, q⟩ := x a _ r
    exact q
def Mut : Option HO → Prop
  | some (.lst _) => True
  | some (.dK _) => True
  | some (.dT _) => True
  | some (.set _ _) => True
  | some (.ins _ _ _) => True
  | some (.ext _) => True
  | _ => False
section
variable {P : Program} {w : World} {H : Hp} {h h' : Heap} {x e : Addr} {o' : HO}
theorem HOk.write (ok : HOk P w H h) (mu : Mut (H x)) (he : e = x ∨ H e = some (.own x)) (k : ∀ b u, b ≠ e → h.get? b = some u → h'.get? b = some u) (heo : ∃ u, h'.get? e = some u)
    (new : ObjOk P w (upd H x o') h' x o') : HOk P w (upd H x o') h' := fun b u q => by
  have nown : ∀ c y, H c = some (.own y) → c ≠ x := fun c y r z => by subst z; rw [r] at mu; exact mu
  have ntup : ∀ c xs, H c = some (.tup xs) → c ≠ x := fun c xs r z => by subst z; rw [r] at mu; exact mu
  by_cases hb : b = x
  · subst hb; rw [upd_same] at q; cases q; exact new
  · rw [upd_ne hb] at q
    by_cases hbe : b = e
    · have q' : H b = some (.own x) := by
        rcases he with z | z
        · exact absurd (hbe.trans z) hb
        · rw [hbe]; exact z
      rw [q] at q'; cases q'
      obtain ⟨v, hv⟩ := heo
      exact ⟨v, by rw [hbe]; exact hv⟩
    · refine (ok b u q).stay (fun c v hc r => k c v ?_ r) (fun c r => by rw [upd_ne (nown c b r)]; exact r) fun c xs r => by rw [upd_ne (ntup c xs r)]; exact r
      rcases hc with rfl | hc
      · exact hbe
      · rintro rfl
        rcases he with z | z
        · exact nown c b hc z
        · rw [hc] at z; cases z; exact hb rfl
end
structure Un (fs ex : List Addr) (H H' : Hp) (h h' : Heap) : Prop where
  keep : ∀ b o, h.get? b = some o → H b = none → b ∉ fs → b ∉ ex → h'.get? b = some o
  slot : ∀ b o, h.get? b = some o → H b = none → b ∈ fs → b ∉ ex → ∃ sl, h'.get? b = some { o with slots := sl }
  free : ∀ b o, h.get? b = some o → H b = none → b ∉ ex → H' b = none
  there : ∀ b o, h.get? b = some o → b ∉ ex → ∃ o', h'.get? b = some o'
  tups : ∀ b xs, H b = some (.tup xs) → H' b = some (.tup xs)
  frzs : ∀ b o u, H b = some (.frz o u) → H' b = some (.frz o u)
  tbls : ∀ b ps, H b = some (.tbl ps) → ∃ more, H' b = some (.tbl (ps ++ more))
section
variable {fs fs' ex ex' : List Addr} {H H1 H2 : Hp} {h h1 h2 h' : Heap} {a x e : Addr} {o : HO}
theorem Un.any (u : Un fs ex H H1 h h1) {b : Addr} {ob : Obj} (q : h.get? b = some ob) (n : H b = none) (hx : b ∉ ex) : ∃ sl, h1.get? b = some { ob with slots := sl } := by
  by_cases hb : b ∈ fs
  · exact u.slot b ob q n hb hx
  · exact ⟨ob.slots, u.keep b ob q n hb hx⟩
theorem Un.kept (k : ∀ b u, h.get? b = some u → h'.get? b = some u) : Un fs ex H H h h' :=
  ⟨fun b ob q _ _ _ => k b ob q, fun b ob q _ _ _ => ⟨ob.slots, k b ob q⟩, fun _ _ _ n _ => n, fun b ob q _ => ⟨ob, k b ob q⟩, fun _ _ q => q, fun _ _ _ q => q, fun _ ps q => ⟨#[], by rw [q]; simp⟩⟩
theorem Un.refl : Un fs ex H H h h := Un.kept fun _ _ q => q
theorem Un.laid (k : ∀ b u, h.get? b = some u → h'.get? b = some u) (hp : h.objs.size ≤ a) (hn : H a = none) : Un fs ex H (upd H a o) h h' where
  keep := fun b u q _ _ _ => k b u q
  slot := fun b u q _ _ _ => ⟨u.slots, k b u q⟩
  free := fun b u q n _ => by rw [upd_ne (Nat.ne_of_lt (Nat.lt_of_lt_of_le (Heap.lt_size q) hp))]; exact n
  there := fun b u q _ => ⟨u, k b u q⟩
  tups := fun b xs q => by rw [upd_ne (ne_of_none q hn)]; exact q
  frzs := fun b u xs q => by rw [upd_ne (ne_of_none q hn)]; exact q
  tbls := fun b ps q => ⟨#[], by rw [upd_ne (ne_of_none q hn), q]; simp⟩
theorem Un.write (mu : Mut (H x)) (he : e = x ∨ H e = some (.own x)) (k : ∀ b u, b ≠ e → h.get? b = some u → h'.get? b = some u) (heo : ∃ u, h'.get? e = some u) : Un fs ex H (upd H x o) h h' := by
  have hx : ∀ b, H b = none → b ≠ x := fun b n z => by subst z; rw [n] at mu; exact mu
  have hb : ∀ b, H b = none → b ≠ e := fun b n z => by
    subst z
    rcases he with r | r
    · exact hx b n r
    · rw [n] at r; cases r
  have hm : ∀ b u, H b = some u → ¬ Mut (some u) → b ≠ x := fun b u q nm z => by subst z; rw [q] at mu; exact nm mu
  refine ⟨fun b u q n _ _ => k b u (hb b n) q, fun b u q n _ _ => ⟨u.slots, k b u (hb b n) q⟩, fun b u q n _ => by rw [upd_ne (hx b n)]; exact n, fun b u q _ => ?_,
    fun b xs q => by rw [upd_ne (hm b _ q fun z => z)]; exact q, fun b u xs q => by rw [upd_ne (hm b _ q fun z => z)]; exact q, fun b ps q => ⟨#[], by rw [upd_ne (hm b _ q fun z => z), q]; simp⟩⟩
  by_cases hbe : b = e
  · subst hbe; exact heo
  · exact ⟨u, k b u hbe q⟩
end
def trk (h : Heap) (H : Hp) : List Addr := (List.range h.objs.size).filter fun a => (H a).isSome
def hidT (h : Heap) (H : Hp) : Heap := PySem.W.hideAll h (trk h H)
theorem hidT_size (h : Heap) (H : Hp) : (hidT h H).objs.size = h.objs.size := PySem.W.hideAll_size _ _
theorem hidT_get {h : Heap} {H : Hp} {b : Addr} {o : Obj} (e : h.get? b = some o) (n : H b = none) : (hidT h H).get? b = some o :=
  PySem.W.hideAll_get _ e fun hm => by
    have q : (H b).isSome = true := (List.mem_filter.mp hm).2
    rw [n] at q; simp at q
theorem of_hidT {h : Heap} {H : Hp} {b : Addr} {o : Obj} (e : (hidT h H).get? b = some o) : h.get? b = some o ∧ H b = none := by
  have e' : h.get? b = some o := PySem.W.of_hideAll (trk h H) e
  refine ⟨e', ?_⟩
  cases q : H b with
  | none => rfl
  | some x =>
    have hm : b ∈ trk h H := List.mem_filter.mpr ⟨List.mem_range.mpr (Heap.lt_size e'), by simp [q]⟩
    have z : (hidT h H).get? b = none := PySem.W.hideAll_none (trk h H) hm
    rw [z] at e; cases e
def allNews (g h : Heap) (L : Addr) : List (Addr × Obj) := (List.range h.objs.size).filterMap fun a => if a = L ∨ (g.get? a).isSome = true then none else (h.get? a).map fun o => (a, o)
def rest (g h : Heap) (L d : Addr) : List (Addr × Obj) := (allNews g h L).filter fun p => decide (p.1 ≠ d)
end L2
namespace L2
open PySem PySem.Spec PyProof.Rows
structure Mod (K : PySem.W.Frag) (mg : Str → Option Value) (base : Heap) : Prop where
  kin : K.In base
  glob : base.Ns mainGlobals mg
  blt : ∃ mb, base.Ns builtinsNs mb ∧ ∀ x : Str, x ≠ "__name__" → mb x = bootBuiltins x
  nolimit : base.NoLimit
structure Cx where
  prog : Program
  w : World
  K : PySem.W.Frag
  mg : Str → Option Value
  base : Heap
  A : Around
  N : List Str
  s₀ : Shared
  H₀ : Hp
  env : Env
  outer : List Env
  stack : List Env
  ex : List Addr
  fn : Str → Bool
  calm : Bool
  pn : List (Addr × Obj)
  xe : Value → Shared → Prop
def frs (l : List Env) : List Addr := l.filterMap (·.frame)
abbrev Cx.fs (X : Cx) : List Addr := frs X.outer
def Vis (sc : Scope) (x : Str) : Prop := sc.names.lookup x = some .local ∨ sc.names.lookup x = some .cell ∨ sc.names.lookup x = some .free
def Loc (sc : Scope) (x : Str) : Prop := sc.names.lookup x = some .local ∨ sc.names.lookup x = some .cell
def Look (env : Env) (h : Heap) (m : Str → Option Value) (x : Str) (u : Value) : Prop :=
  (env.kindOf x = some .local ∧ m x = some u) ∨ ((env.kindOf x = some .cell ∨ env.kindOf x = some .free) ∧ ∃ c, env.cells.lookup x = some c ∧ h.IsCell c (some u))
structure Cx.Ok (X : Cx) : Prop where
  mod : Mod X.K X.mg X.base
  kind : X.env.scope.kind = .function
  glob : X.env.globals = mainGlobals
  blt : X.env.builtins = builtinsNs
  above : X.s₀.heap.objs.size ≤ X.env.locals
  inj : ∀ x y c, X.env.cells.lookup x = some c → X.env.cells.lookup y = some c → x = y
  has : ∀ x, (X.env.kindOf x = some .cell ∨ X.env.kindOf x = some .free) → ∃ c, X.env.cells.lookup x = some c
  cab : ∀ x c, X.fn x = true → X.env.cells.lookup x = some c → X.s₀.heap.objs.size ≤ c
  hd : X.calm = true → X.A.handled = none
  frames : X.A.frames = some X.stack
  stk : X.stack = X.outer ∨ (X.stack = X.env :: X.outer ∧ X.env.frame = some X.env.locals)
  exf : ∀ b ∈ X.ex, b ≠ X.env.locals ∧ ∀ x c, X.env.cells.lookup x = some c → c ≠ b
  bs : ∀ b o, X.base.get? b = some o → X.s₀.heap.get? b = some o ∧ X.H₀ b = none
  bsz : X.base.objs.size ≤ X.s₀.heap.objs.size
  noex : ∀ b o, X.base.get? b = some o → b ∉ X.ex
  exfs : ∀ b ∈ X.ex, b ∉ X.fs
  funs : X.s₀.heap.FunFrames X.base X.outer
  frf : ∀ b ∈ X.fs, X.H₀ b = none
structure Inv (X : Cx) (pins : List (Addr × Obj)) (σ : List (Option V)) (H : Hp) (s : Shared) : Prop where
  ok : X.Ok
  os : s.os = X.s₀.os
  bare : AllBare s.gens
  base : Un X.fs X.ex X.H₀ H X.s₀.heap s.heap
  loc : ∃ m, s.heap.Ns X.env.locals m ∧ ∀ (i : Nat) (x : Str) (v : V), X.N[i]? = some x → σ[i]? = some (some v) → Vis X.env.scope x → ∃ u, RelV v u ∧ Look X.env s.heap m x u
  cell : ∀ x c, X.env.cells.lookup x = some c → ∃ v, s.heap.IsCell c v
  free : H X.env.locals = none
  freeC : ∀ x c, X.env.cells.lookup x = some c → H c = none
  pin : ∀ p ∈ X.pn ++ pins, s.heap.get? p.1 = some p.2 ∧ H p.1 = none ∧ p.1 ≠ X.env.locals ∧ p.1 ∉ X.fs ∧ ∀ v, p.2.data ≠ .cell v
  hok : HOk X.prog X.w H s.heap
  len : σ.length = X.N.length
section
variable {X : Cx} {pins : List (Addr × Obj)} {σ : List (Option V)} {H H' : Hp} {s : Shared} {h' : Heap}
theorem Cx.Ok.nofr (ok : X.Ok) {b : Addr} {o : Obj} (e : X.base.get? b = some o) : b ∉ X.fs := fun hb => by
  have := (ok.funs.mem hb).1
  rw [e] at this; cases this
theorem Inv.bs (I : Inv X pins σ H s) : ∀ b o, X.base.get? b = some o → s.heap.get? b = some o ∧ H b = none := fun b o e =>
  ⟨I.base.keep b o (I.ok.bs b o e).1 (I.ok.bs b o e).2 (I.ok.nofr e) (I.ok.noex b o e), I.base.free b o (I.ok.bs b o e).1 (I.ok.bs b o e).2 (I.ok.noex b o e)⟩
theorem Inv.bk (I : Inv X pins σ H s) : ∀ b o, X.base.get? b = some o → s.heap.get? b = some o := fun b o e => (I.bs b o e).1
theorem Inv.mod (I : Inv X pins σ H s) : Mod X.K X.mg X.base := I.ok.mod
theorem Inv.kIn (I : Inv X pins σ H s) : X.K.In s.heap := I.ok.mod.kin.keeps I.bk
theorem Inv.lt (I : Inv X pins σ H s) : X.env.locals < s.heap.objs.size := let ⟨_, hn, _⟩ := I.loc; hn.lt
theorem Inv.sz (I : Inv X pins σ H s) : X.s₀.heap.objs.size ≤ s.heap.objs.size := Nat.le_trans I.ok.above (Nat.le_of_lt I.lt)
theorem Inv.nofs (I : Inv X pins σ H s) {a : Addr} (h : s.heap.objs.size ≤ a) : a ∉ X.fs := fun hb => by
  obtain ⟨_, o, ho, _⟩ := I.ok.funs.mem hb
  exact absurd (Nat.lt_of_lt_of_le (Heap.lt_size ho) (Nat.le_trans I.sz h)) (Nat.lt_irrefl _)
theorem Inv.cne (I : Inv X pins σ H s) : ∀ x c, X.env.cells.lookup x = some c → c ≠ X.env.locals := fun x c e z => by
  obtain ⟨v, o, ho, hd⟩ := I.cell x c e
  obtain ⟨m, ⟨o', es, ep, ho', hd', _⟩, _⟩ := I.loc
  rw [z, ho'] at ho; cases ho; rw [hd'] at hd; cases hd
theorem Inv.funs (I : Inv X pins σ H s) : s.heap.FunFrames X.base X.outer := by
  have all : ∀ (l : List Env), (∀ b ∈ frs l, b ∈ X.fs) → X.s₀.heap.FunFrames X.base l → s.heap.FunFrames X.base l := by
    intro l
    induction l with
    | nil => intro _ _; trivial
    | cons env r ih =>
      intro hs hl
      obtain ⟨hk, ⟨L, o, hf, hn, ho, hd⟩, hr⟩ := hl
      have hL : L ∈ X.fs := hs L (by unfold frs; rw [List.filterMap_cons, hf]; exact List.mem_cons_self)
      obtain ⟨sl, e⟩ := I.base.slot L o ho (I.ok.frf L hL) hL fun z => I.ok.exfs L z hL
      exact ⟨hk, ⟨L, _, hf, hn, e, hd⟩, ih (fun b hb => hs b (by unfold frs; rw [List.filterMap_cons, hf]; exact List.mem_cons_of_mem _ hb)) hr⟩
  exact all X.outer (fun _ hb => hb) I.ok.funs
theorem Inv.stack (I : Inv X pins σ H s) : s.heap.FunFrames X.base X.stack := by
  rcases I.ok.stk with e | ⟨e, hf⟩
  · rw [e]; exact I.funs
  · rw [e]
    obtain ⟨m, hn, _⟩ := I.loc
    refine .cons (by rw [I.ok.kind]; decide) hf hn ?_ I.funs
    exact Heap.get?_none_of_le (Nat.le_trans I.ok.bsz I.ok.above)
theorem Inv.stkSub (I : Inv X pins σ H s) : ∀ b ∈ frs X.stack, b ∈ X.env.locals :: X.fs := fun b hb => by
  rcases I.ok.stk with e | ⟨e, hf⟩
  · rw [e] at hb; exact List.mem_cons_of_mem _ hb
  · rw [e] at hb
    unfold frs at hb
    rw [List.filterMap_cons, hf] at hb
    exact hb
theorem Inv.stkFree (I : Inv X pins σ H s) : ∀ b ∈ frs X.stack, H b = none := fun b hb => by
  rcases List.mem_cons.mp (I.stkSub b hb) with e | hb
  · rw [e]; exact I.free
  · obtain ⟨_, o, ho, _⟩ := I.ok.funs.mem hb
    exact I.base.free b o ho (I.ok.frf b hb) fun z => I.ok.exfs b z hb
theorem Inv.step {g' : Array GenState} {t' : Nat} {d' : Drawn} {ch : List Addr} (I : Inv X pins σ H s)
    (hch : ∀ b ∈ ch, (b ∈ X.ex ∨ X.s₀.heap.objs.size ≤ b) ∧ b ≠ X.env.locals ∧ (∀ x c, X.env.cells.lookup x = some c → c ≠ b) ∧ ∀ p ∈ X.pn ++ pins, p.1 ≠ b)
    (keep : ∀ b o, b ≠ X.env.locals → b ∉ X.fs → b ∉ ch → s.heap.get? b = some o → H b = none → h'.get? b = some o)
    (slot : ∀ b o, b ≠ X.env.locals → b ∈ X.fs → b ∉ ch → s.heap.get? b = some o → H b = none → ∃ sl, h'.get? b = some { o with slots := sl }) (free : ∀ b o, b ∉ ch → s.heap.get? b = some o → H b = none → H' b = none)
    (there : ∀ b o, b ∉ ch → s.heap.get? b = some o → ∃ o', h'.get? b = some o')
    (tups : ∀ b xs, H b = some (.tup xs) → H' b = some (.tup xs)) (frzs : ∀ b o u, H b = some (.frz o u) → H' b = some (.frz o u)) (tbls : ∀ b ps, H b = some (.tbl ps) → ∃ more, H' b = some (.tbl (ps ++ more)))
    (ns : ∀ m, s.heap.Ns X.env.locals m → h'.Ns X.env.locals m) (hok : HOk X.prog X.w H' h') (hg : AllBare g') :
    Inv X pins σ H' { s with heap := h', gens := g', drawn := d', toks := t' } := by
  have neL : ∀ b o, X.s₀.heap.get? b = some o → b ≠ X.env.locals := fun b o e => Nat.ne_of_lt (Nat.lt_of_lt_of_le (Heap.lt_size e) I.ok.above)
  have neC : ∀ b o, X.s₀.heap.get? b = some o → b ∉ X.ex → b ∉ ch := fun b o e hx hb => by
    rcases (hch b hb).1 with z | z
    · exact hx z
    · exact absurd (Nat.lt_of_lt_of_le (Heap.lt_size e) z) (Nat.lt_irrefl _)
  have cellK : ∀ x c, X.env.cells.lookup x = some c → ∀ v, s.heap.IsCell c v → h'.IsCell c v := fun x c e v ⟨o, ho, hd⟩ => by
    have nch : c ∉ ch := fun z => (hch c z).2.2.1 x c e rfl
    by_cases hc : c ∈ X.fs
    · obtain ⟨sl, q⟩ := slot c o (I.cne x c e) hc nch ho (I.freeC x c e)
      exact ⟨_, q, hd⟩
    · exact ⟨o, keep c o (I.cne x c e) hc nch ho (I.freeC x c e), hd⟩
  refine ⟨I.ok, I.os, hg, ⟨fun b o e n hb hx => ?_, fun b o e n hb hx => ?_, fun b o e n hx => ?_, fun b o e hx => ?_, fun b xs e => tups b xs (I.base.tups b xs e), fun b o xs e => frzs b o xs (I.base.frzs b o xs e), fun b ps e => ?_⟩, ?_, fun x c e => ?_, ?_, fun x c e => ?_, fun p hp => ?_, hok, I.len⟩
  · exact keep b o (neL b o e) hb (neC b o e hx) (I.base.keep b o e n hb hx) (I.base.free b o e n hx)
  · obtain ⟨sl, e1⟩ := I.base.slot b o e n hb hx
    obtain ⟨sl', e2⟩ := slot b _ (neL b o e) hb (neC b o e hx) e1 (I.base.free b o e n hx)
    exact ⟨sl', e2⟩
  · obtain ⟨o', e1⟩ := I.base.there b o e hx
    exact free b o' (neC b o e hx) e1 (I.base.free b o e n hx)
  · obtain ⟨o', e1⟩ := I.base.there b o e hx
    exact there b o' (neC b o e hx) e1
  · obtain ⟨m1, e1⟩ := I.base.tbls b ps e
    obtain ⟨m2, e2⟩ := tbls b _ e1
    exact ⟨m1 ++ m2, by rw [e2, Array.append_assoc]⟩
  · obtain ⟨m, hn, hl⟩ := I.loc
    refine ⟨m, ns m hn, fun i x v e1 e2 e3 => ?_⟩
    obtain ⟨u, r, l⟩ := hl i x v e1 e2 e3
    refine ⟨u, r, ?_⟩
    rcases l with l | ⟨k, c, e, z⟩
    · exact .inl l
    · exact .inr ⟨k, c, e, cellK x c e _ z⟩
  · obtain ⟨v, z⟩ := I.cell x c e
    exact ⟨v, cellK x c e v z⟩
  · obtain ⟨m, ⟨o, _, _, ho, _⟩, _⟩ := I.loc
    exact free _ o (fun z => (hch _ z).2.1 rfl) ho I.free
  · obtain ⟨v, o, ho, hd⟩ := I.cell x c e
    exact free c o (fun z => (hch c z).2.2.1 x c e rfl) ho (I.freeC x c e)
  · obtain ⟨e, n, ne, nf, d⟩ := I.pin p hp
    have nch : p.1 ∉ ch := fun z => (hch p.1 z).2.2.2 p hp rfl
    exact ⟨keep p.1 p.2 ne nf nch e n, free p.1 p.2 nch e n, ne, nf, d⟩
theorem Inv.un {t' : Nat} (I : Inv X pins σ H s) (u : Un X.fs [] H H' s.heap h') (hok : HOk X.prog X.w H' h') : Inv X pins σ H' { s with heap := h', toks := t' } := by
  obtain ⟨m, ⟨o, es, ep, ho, r⟩, _⟩ := id I.loc
  obtain ⟨sl, hL⟩ := u.any ho I.free (by simp)
  exact I.step (g' := s.gens) (d' := s.drawn) (ch := []) (fun _ z => nomatch z) (fun b o _ hb _ e n => u.keep b o e n hb (by simp)) (fun b o _ hb _ e n => u.slot b o e n hb (by simp)) (fun b o _ e n => u.free b o e n (by simp)) (fun b o _ e => u.there b o e (by simp)) u.tups u.frzs u.tbls (fun m' hm => by
    obtain ⟨o', es', ep', ho', r'⟩ := hm
    rw [ho] at ho'; cases ho'
    exact ⟨_, es', ep', hL, r'⟩) hok I.bare
theorem Inv.call {g' : Array GenState} {t' : Nat} {d' : Drawn} {ch : List Addr} (I : Inv X pins σ H s) (u : Un (frs X.stack) ch H H' s.heap h') (hok : HOk X.prog X.w H' h') (hg : AllBare g')
    (hch : ∀ b ∈ ch, (b ∈ X.ex ∨ X.s₀.heap.objs.size ≤ b) ∧ b ≠ X.env.locals ∧ (∀ x c, X.env.cells.lookup x = some c → c ≠ b) ∧ ∀ p ∈ X.pn ++ pins, p.1 ≠ b) :
    Inv X pins σ H' { s with heap := h', gens := g', drawn := d', toks := t' } := by
  obtain ⟨m, ⟨o, es, ep, ho, r⟩, _⟩ := id I.loc
  obtain ⟨sl, hL⟩ := u.any ho I.free fun z => (hch _ z).2.1 rfl
  exact I.step (ch := ch) hch (fun b o hL hb hc e n => u.keep b o e n (fun z => (List.mem_cons.mp (I.stkSub b z)).elim hL hb) hc) (fun b o _ _ hc e n => u.any e n hc) (fun b o hc e n => u.free b o e n hc) (fun b o hc e => u.there b o e hc) u.tups u.frzs u.tbls (fun m' hm => by
    obtain ⟨o', es', ep', ho', r'⟩ := hm
    rw [ho] at ho'; cases ho'
    exact ⟨_, es', ep', hL, r'⟩) hok hg
theorem Inv.turned {t' : Nat} {it : Addr} (I : Inv X pins σ H s) (k : ∀ b o, b ≠ it → s.heap.get? b = some o → h'.get? b = some o) (hn : H it = none) (hL : it ≠ X.env.locals)
    (h1 : it ∈ X.ex ∨ X.s₀.heap.objs.size ≤ it) (h2 : ∀ x c, X.env.cells.lookup x = some c → c ≠ it) (h3 : ∀ p ∈ X.pn ++ pins, p.1 ≠ it) : Inv X pins σ H { s with heap := h', toks := t' } := by
  have nit : ∀ b u, H b = some u → b ≠ it := fun b u e z => by rw [z, hn] at e; cases e
  refine I.step (g' := s.gens) (d' := s.drawn) (ch := [it]) (fun b hb => ?_) (fun b o _ _ hc e _ => k b o (fun z => hc (by simp [z])) e) (fun b o _ _ hc e _ => ⟨o.slots, k b o (fun z => hc (by simp [z])) e⟩) (fun _ _ _ _ n => n)
    (fun b o hc e => ⟨o, k b o (fun z => hc (by simp [z])) e⟩) (fun _ _ e => e) (fun _ _ _ e => e) (fun b ps e => ⟨#[], by rw [e]; simp⟩) (fun m hm => ?_) (fun b u e => ?_) I.bare
  · have e : b = it := by simpa using hb
    subst e
    exact ⟨h1, hL, h2, h3⟩
  · obtain ⟨o, es, ep, ho, r⟩ := hm
    exact ⟨o, es, ep, k _ o (Ne.symm hL) ho, r⟩
  · refine (I.hok b u e).stay (fun c v hc q => k c v ?_ q) (fun _ q => q) fun _ _ q => q
    rcases hc with z | z
    · rw [z]; exact nit b u e
    · exact nit c _ z
theorem Inv.tok (I : Inv X pins σ H s) (t : Nat) : Inv X pins σ H { s with toks := t } := I.un (h' := s.heap) (t' := t) Un.refl I.hok
theorem Inv.kept {t' : Nat} (I : Inv X pins σ H s) (k : ∀ b u, s.heap.get? b = some u → h'.get? b = some u) : Inv X pins σ H { s with heap := h', toks := t' } := I.un (Un.kept k) (I.hok.kept k)
theorem Inv.laid {a : Addr} {o : HO} {t' : Nat} (I : Inv X pins σ H s) (k : ∀ b u, s.heap.get? b = some u → h'.get? b = some u) (hp : s.heap.objs.size ≤ a) (new : ObjOk X.prog X.w (upd H a o) h' a o) :
    Inv X pins σ (upd H a o) { s with heap := h', toks := t' } := I.un (Un.laid k hp (I.hok.fresh hp)) (I.hok.laid k hp new)
theorem Inv.write {x e : Addr} {o : HO} {t' : Nat} (I : Inv X pins σ H s) (mu : Mut (H x)) (he : e = x ∨ H e = some (.own x)) (k : ∀ b u, b ≠ e → s.heap.get? b = some u → h'.get? b = some u) (heo : ∃ u, h'.get? e = some u)
    (new : ObjOk X.prog X.w (upd H x o) h' x o) : Inv X pins σ (upd H x o) { s with heap := h', toks := t' } := I.un (Un.write mu he k heo) (I.hok.write mu he k heo new)
theorem Inv.weak {σ' : List (Option V)} (I : Inv X pins σ H s) (hl : σ'.length = σ.length) (w : ∀ (i : Nat) v, σ'[i]? = some (some v) → σ[i]? = some (some v)) : Inv X pins σ' H s :=
  ⟨I.ok, I.os, I.bare, I.base, let ⟨m, hn, hl'⟩ := I.loc; ⟨m, hn, fun i x v e1 e2 e3 => hl' i x v e1 (w i v e2) e3⟩, I.cell, I.free, I.freeC, I.pin, I.hok, hl.trans I.len⟩
theorem Inv.pins_of {pins' : List (Addr × Obj)} (I : Inv X pins σ H s) (h : ∀ p ∈ pins', s.heap.get? p.1 = some p.2 ∧ H p.1 = none ∧ p.1 ≠ X.env.locals ∧ p.1 ∉ X.fs ∧ ∀ v, p.2.data ≠ .cell v) : Inv X pins' σ H s :=
  ⟨I.ok, I.os, I.bare, I.base, I.loc, I.cell, I.free, I.freeC, fun p hp => (List.mem_append.mp hp).elim (fun z => I.pin p (List.mem_append_left _ z)) (h p), I.hok, I.len⟩
theorem nodup_ix {N : List Str} (hN : N.Nodup) {i j : Nat} {x : Str} (a : N[i]? = some x) (b : N[j]? = some x) : i = j := by
  obtain ⟨h1, e1⟩ := List.getElem?_eq_some_iff.mp a
  obtain ⟨h2, e2⟩ := List.getElem?_eq_some_iff.mp b
  exact (List.getElem_inj hN).mp (e1.trans e2.symm)
theorem store_ok2 {M : Model} {A : Around} {E : Value → Shared → Prop} {i : Nat} {x : Str} {v : V} {u : Value} {Q : Unit → Shared → Prop} (I : Inv X pins σ H s) (hN : X.N.Nodup) (hi : X.N[i]? = some x) (hx : Loc X.env.scope x) (r : RelV v u)
    (h : ∀ s', Inv X pins (σ.set i (some v)) H s' → (∃ a, Heap.SameBut a s.heap s'.heap ∧ (a = X.env.locals ∨ X.env.cells.lookup x = some a)) → Q () s') (hf : X.fn x = true ∨ X.env.scope.names.lookup x = some .local := by first | exact .inl rfl | exact .inr rfl | assumption) : wpAny M A (storeName X.env x u) Q E s := by
  obtain ⟨m, hn, hl⟩ := id I.loc
  have hcls : (X.env.scope.kind == .class || (X.env.scope.kind == .module && X.env.locals != X.env.globals)) = false := by rw [I.ok.kind]; rfl
  have hiσ : i < σ.length := by rw [I.len]; exact (List.getElem?_eq_some_iff.mp hi).1
  have cne := I.cne
  have tracked : ∀ {a : Addr} {h' : Heap}, (∃ o, s.heap.get? a = some o ∧ H a = none) → Heap.SameBut a s.heap h' → HOk X.prog X.w H h' := fun {a h'} ha hs b ob e => by
    obtain ⟨_, _, hfree⟩ := ha
    refine (I.hok b ob e).stay (fun c w' hc q => (hs.2 c ?_).trans q) (fun _ q => q) fun _ _ q => q
    rintro rfl
    rcases hc with rfl | hc
    · rw [hfree] at e; cases e
    · rw [hfree] at hc; cases hc
  rcases hx with hk | hk
  · refine wpAny_storeName_local hk hn (fun h' hn' hs => ?_) hcls
    obtain ⟨oL, _, _, hoL, _⟩ := id hn
    refine h _ ⟨I.ok, I.os, I.bare, ⟨fun b o e n hb hx => ?_, fun b o e n hb hx => ?_, I.base.free, fun b o e hx => ?_, I.base.tups, I.base.frzs, I.base.tbls⟩, ⟨_, hn', fun j y v' e1 e2 e3 => ?_⟩, fun y c e => ?_, I.free, I.freeC, fun p hp => ?_, tracked ⟨oL, hoL, I.free⟩ hs, by simpa using I.len⟩ ⟨_, hs, .inl rfl⟩
    · exact (hs.2 b (Nat.ne_of_lt (Nat.lt_of_lt_of_le (Heap.lt_size e) I.ok.above))).trans (I.base.keep b o e n hb hx)
    · obtain ⟨sl, e1⟩ := I.base.slot b o e n hb hx
      exact ⟨sl, (hs.2 b (Nat.ne_of_lt (Nat.lt_of_lt_of_le (Heap.lt_size e) I.ok.above))).trans e1⟩
    · obtain ⟨o', e1⟩ := I.base.there b o e hx
      exact ⟨o', (hs.2 b (Nat.ne_of_lt (Nat.lt_of_lt_of_le (Heap.lt_size e) I.ok.above))).trans e1⟩
    · by_cases hj : j = i
      · subst hj
        rw [hi] at e1; cases e1
        rw [List.getElem?_set_self hiσ] at e2
        cases e2
        exact ⟨u, r, .inl ⟨hk, by simp⟩⟩
      · rw [List.getElem?_set_ne (Ne.symm hj)] at e2
        obtain ⟨u', r', q⟩ := hl j y v' e1 e2 e3
        refine ⟨u', r', ?_⟩
        rcases q with ⟨k, e⟩ | ⟨k, c, e, z⟩
        · refine .inl ⟨k, ?_⟩
          have : y ≠ x := fun e => hj (nodup_ix hN e1 (e ▸ hi))
          simp [this, e]
        · exact .inr ⟨k, c, e, z.sameBut hs (cne y c e)⟩
    · obtain ⟨w', z⟩ := I.cell y c e
      exact ⟨w', z.sameBut hs (cne y c e)⟩
    · obtain ⟨e, n, ne, nf, d⟩ := I.pin p hp
      exact ⟨(hs.2 p.1 ne).trans e, n, ne, nf, d⟩
  · have hfn : X.fn x = true := by
      rcases hf with z | z
      · exact z
      · rw [z] at hk; cases hk
    obtain ⟨c, hc⟩ := I.ok.has x (.inl hk)
    obtain ⟨w', z⟩ := I.cell x c hc
    refine wpAny_storeName_cell I.ok.kind hk hc z (fun h' hc' hs => ?_)
    obtain ⟨oc, hoc, hocd⟩ := id z
    refine h { s with heap := h' } ⟨I.ok, I.os, I.bare, ⟨fun b o e n hb hx => ?_, fun b o e n hb hx => ?_, I.base.free, fun b o e hx => ?_, I.base.tups, I.base.frzs, I.base.tbls⟩, ⟨m, hn.sameBut hs (Ne.symm (cne x c hc)), fun j y v' e1 e2 e3 => ?_⟩, fun y c' e => ?_, I.free, I.freeC, fun p hp => ?_, tracked ⟨oc, hoc, I.freeC x c hc⟩ hs, by simpa using I.len⟩ ⟨c, hs, .inr hc⟩
    · exact (hs.2 b (Nat.ne_of_lt (Nat.lt_of_lt_of_le (Heap.lt_size e) (I.ok.cab x c hfn hc)))).trans (I.base.keep b o e n hb hx)
    · obtain ⟨sl, e1⟩ := I.base.slot b o e n hb hx
      exact ⟨sl, (hs.2 b (Nat.ne_of_lt (Nat.lt_of_lt_of_le (Heap.lt_size e) (I.ok.cab x c hfn hc)))).trans e1⟩
    · obtain ⟨o', e1⟩ := I.base.there b o e hx
      exact ⟨o', (hs.2 b (Nat.ne_of_lt (Nat.lt_of_lt_of_le (Heap.lt_size e) (I.ok.cab x c hfn hc)))).trans e1⟩
    · by_cases hj : j = i
      · subst hj
        rw [hi] at e1; cases e1
        rw [List.getElem?_set_self hiσ] at e2
        cases e2
        exact ⟨u, r, .inr ⟨.inl hk, c, hc, hc'⟩⟩
      · rw [List.getElem?_set_ne (Ne.symm hj)] at e2
        obtain ⟨u', r', q⟩ := hl j y v' e1 e2 e3
        refine ⟨u', r', ?_⟩
        rcases q with q | ⟨k, c', e, z'⟩
        · exact .inl q
        · refine .inr ⟨k, c', e, z'.sameBut hs ?_⟩
          rintro rfl
          exact hj (nodup_ix hN e1 (I.ok.inj _ _ _ e hc ▸ hi))
    · by_cases hcc : c' = c
      · subst hcc; exact ⟨_, hc'⟩
      · obtain ⟨w2, z2⟩ := I.cell y c' e
        exact ⟨w2, z2.sameBut hs hcc⟩
    · obtain ⟨e, n, ne, nf, d⟩ := I.pin p hp
      refine ⟨(hs.2 p.1 ?_).trans e, n, ne, nf, d⟩
      intro q
      rw [q, hoc] at e
      have q' : oc = p.2 := Option.some.inj e
      exact d w' (by rw [← q']; exact hocd)
theorem store_ok {M : Model} {A : Around} {E : Value → Shared → Prop} {i : Nat} {x : Str} {v : V} {u : Value} {Q : Unit → Shared → Prop} (I : Inv X pins σ H s) (hN : X.N.Nodup) (hi : X.N[i]? = some x) (hx : Loc X.env.scope x) (r : RelV v u)
    (h : ∀ s', Inv X pins (σ.set i (some v)) H s' → Q () s') (hf : X.fn x = true ∨ X.env.scope.names.lookup x = some .local := by first | exact .inl rfl | exact .inr rfl | assumption) : wpAny M A (storeName X.env x u) Q E s :=
  store_ok2 I hN hi hx r (fun s' I' _ => h s' I') hf
theorem Inv.call' {s' : Shared} {ch : List Addr} (I : Inv X pins σ H s) (ho : s'.os = s.os) (u : Un (frs X.stack) ch H H' s.heap s'.heap) (hok : HOk X.prog X.w H' s'.heap) (hg : AllBare s'.gens)
    (hch : ∀ b ∈ ch, (b ∈ X.ex ∨ X.s₀.heap.objs.size ≤ b) ∧ b ≠ X.env.locals ∧ (∀ x c, X.env.cells.lookup x = some c → c ≠ b) ∧ ∀ p ∈ X.pn ++ pins, p.1 ≠ b) : Inv X pins σ H' s' := by
  obtain ⟨h', g', d', t', o'⟩ := s'
  have e : o' = s.os := ho
  subst e
  exact I.call (g' := g') (t' := t') (d' := d') u hok hg hch
end
abbrev XK := Value → Option Addr → Hp → Prop
abbrev St := List (Option V)
abbrev VK := V → Hp → Prop
abbrev TE := St → Hp → VK → Prop
abbrev TT := St → Hp → (Bool → Hp → Prop) → Prop
abbrev TA := St → Hp → (List V → Hp → Prop) → Prop
structure Ends where
  nx : St → Hp → Prop
  rt : VK
  bk : St → Hp → Prop := fun _ _ => False
  ct : St → Hp → Prop := fun _ _ => False
abbrev TS := Ends → St → Hp → Prop
def EP (X : Cx) (pins : List (Addr × Obj)) (σ : St) (Q : VK) (u : Value) (s' : Shared) : Prop := ∃ v H', Inv X pins σ H' s' ∧ RelV v u ∧ Q v H'
def TP (X : Cx) (pins : List (Addr × Obj)) (σ : St) (Q : Bool → Hp → Prop) (b : Bool) (s' : Shared) : Prop := ∃ H', Inv X pins σ H' s' ∧ Q b H'
def AP (X : Cx) (pins : List (Addr × Obj)) (σ : St) (Q : List V → Hp → Prop) (us : List Value) (s' : Shared) : Prop := ∃ vs H', Inv X pins σ H' s' ∧ Vals vs us ∧ Q vs H'
def SP (X : Cx) (pins : List (Addr × Obj)) (D : Ends) (f : Flow) (s' : Shared) : Prop :=
  match f with
  | .next => ∃ σ' H', Inv X pins σ' H' s' ∧ D.nx σ' H'
  | .brk => ∃ σ' H', Inv X pins σ' H' s' ∧ D.bk σ' H'
  | .cont => ∃ σ' H', Inv X pins σ' H' s' ∧ D.ct σ' H'
  | .ret u => ∃ v σ' H', Inv X pins σ' H' s' ∧ RelV v u ∧ D.rt v H'
def PE (X : Cx) (e : Expr) (t : TE) : Prop :=
  ∀ (pins : List (Addr × Obj)) (s : Shared) (σ : St) (H : Hp) (Q : VK), Inv X pins σ H s → t σ H Q → wpAny (model X.prog X.w) X.A (eval e X.env) (EP X pins σ Q) X.xe s
def PT (X : Cx) (e : Expr) (t : TT) : Prop :=
  ∀ (pins : List (Addr × Obj)) (s : Shared) (σ : St) (H : Hp) (Q : Bool → Hp → Prop), Inv X pins σ H s → t σ H Q → wpAny (model X.prog X.w) X.A (isTrue e X.env (eval e X.env)) (TP X pins σ Q) X.xe s
def PW (X : Cx) (e : Expr) (t : TT) : Prop :=
  ∀ (whole : Sem Value) (pins : List (Addr × Obj)) (s : Shared) (σ : St) (H : Hp) (Q : Bool → Hp → Prop), Inv X pins σ H s → t σ H Q → wpAny (model X.prog X.w) X.A (isTrue e X.env whole) (TP X pins σ Q) X.xe s
theorem PW.pt {X : Cx} {e : Expr} {t : TT} (h : PW X e t) : PT X e t := h _
def PA (X : Cx) (es : List Expr) (t : TA) : Prop :=
  ∀ (pos : Pos) (pins : List (Addr × Obj)) (s : Shared) (σ : St) (H : Hp) (Q : List V → Hp → Prop), Inv X pins σ H s → t σ H Q → wpAny (model X.prog X.w) X.A (spliced (backTo pos (starEach es X.env))) (AP X pins σ Q) X.xe s
def PS (X : Cx) (st : Stmt) (t : TS) : Prop :=
  ∀ (pins : List (Addr × Obj)) (s : Shared) (σ : St) (H : Hp) (D : Ends), Inv X pins σ H s → t D σ H → wpAny (model X.prog X.w) X.A (exec st X.env) (SP X pins D) X.xe s
def PSs (X : Cx) (st : List Stmt) (t : TS) : Prop :=
  ∀ (pins : List (Addr × Obj)) (s : Shared) (σ : St) (H : Hp) (D : Ends), Inv X pins σ H s → t D σ H → wpAny (model X.prog X.w) X.A (execs st X.env) (SP X pins D) X.xe s
theorem thn {α : Type} {t : Sem α} {Q Q' : α → Shared → Prop} {M : Model} {A : Around} {E : Value → Shared → Prop} {s : Shared} (h : wpAny M A t Q E s) (hQ : ∀ a s, Q a s → Q' a s) : wpAny M A t Q' E s := wpAny_mono h hQ fun _ _ x => x
end L2
namespace L2
open PySem PySem.Spec PyProof.Rows
section
variable {X : Cx}
def tVar (i : Nat) : TE := fun σ H Q => ∃ v, σ[i]? = some (some v) ∧ Q v H
def tC (v : V) : TE := fun _ H Q => Q v H
theorem pe_var {i : Nat} {x : Str} {pos : Pos} (hN : X.N[i]? = some x) (hv : Vis X.env.scope x) (hd : (x == ("__debug__" : Str)) = false := by decide) (hcd : (x == ("__classdict__" : Str)) = false := by decide) : PE X (.Name x pos) (tVar i) := by
  intro pins s σ H Q I h
  obtain ⟨v, e, h⟩ := h
  obtain ⟨m, hn, hl⟩ := I.loc
  obtain ⟨u, r, l⟩ := hl i x v hN e hv
  have fin : EP X pins σ Q u s := ⟨v, H, I, r, h⟩
  rcases l with ⟨hk, hm⟩ | ⟨hk, c, hc, hcell⟩
  · exact wpAny_Name (wpAny_loadName_local I.ok.kind hk hn hm fin) hd
  · rcases hk with hk | hk
    · exact wpAny_Name (wpAny_loadName_cell I.ok.kind hk hc hcell fin) hd
    · exact wpAny_Name (wpAny_loadName_free I.ok.kind hk hc hcell fin hcd) hd
theorem pe_int {i j pos} : PE X (.Constant (.int i) j pos) (tC (.int i)) := fun _ _ _ H _ I h => wpAny_Constant_int ⟨.int i, H, I.tok _, ⟨_, rfl⟩, h⟩
theorem pe_bl {b j pos} : PE X (.Constant (.bool b) j pos) (tC (.bl b)) := fun _ _ _ H _ I h => Constant_bool ⟨.bl b, H, I, rfl, h⟩
theorem pe_non {j pos} : PE X (.Constant .none j pos) (tC .non) := fun _ _ _ H _ I h => Constant_none ⟨.non, H, I, rfl, h⟩
theorem pe_str {x j pos} : PE X (.Constant (.str x) j pos) (tC (.str x)) := fun _ _ _ H _ I h => Calls.Constant_str ⟨.str x, H, I.tok _, ⟨_, rfl⟩, h⟩
def Gl (X : Cx) (x : Str) : Prop := X.env.kindOf x = some .globalImplicit
theorem ld_glob {E : Value → Shared → Prop} {pins : List (Addr × Obj)} {s : Shared} {σ : St} {H : Hp} {x : Str} {u : Value} {pos : Pos} {Q : Value → Shared → Prop} (I : Inv X pins σ H s) (hg : Gl X x) (hm : X.mg x = some u) (h : Q u s)
    (hd : (x == ("__debug__" : Str)) = false := by decide) : wpAny (model X.prog X.w) X.A (eval (.Name x pos) X.env) Q E s :=
  Calls.Name_function_global I.ok.kind hg (Calls.loadGlobal_global (by rw [I.ok.glob]; exact I.mod.glob.keeps I.bk) hm h) hd
theorem ld_blt {E : Value → Shared → Prop} {pins : List (Addr × Obj)} {s : Shared} {σ : St} {H : Hp} {x : Str} {u : Value} {pos : Pos} {Q : Value → Shared → Prop} (I : Inv X pins σ H s) (hg : Gl X x) (hm : X.mg x = none) (hv : bootBuiltins x = some u) (h : Q u s)
    (hn : x ≠ "__name__" := by decide) (hd : (x == ("__debug__" : Str)) = false := by decide) : wpAny (model X.prog X.w) X.A (eval (.Name x pos) X.env) Q E s := by
  obtain ⟨mb, h1, h2⟩ := I.mod.blt
  exact Calls.Name_function_global I.ok.kind hg (Calls.loadGlobal_builtin (by rw [I.ok.glob]; exact I.mod.glob.keeps I.bk) hm (by rw [I.ok.blt]; exact h1.keeps I.bk) ((h2 x hn).trans hv) h) hd
theorem pe_bltn {x : Str} {v : V} {u : Value} {pos : Pos} (hg : Gl X x) (hm : X.mg x = none) (hv : bootBuiltins x = some u) (r : RelV v u) (hn : x ≠ "__name__" := by decide) (hd : (x == ("__debug__" : Str)) = false := by decide) : PE X (.Name x pos) (tC v) :=
  fun _ _ _ H _ I h => ld_blt I hg hm hv ⟨v, H, I, r, h⟩ hn hd
variable {a b : Expr} {ta tb : TE} {pos : Pos}
def tB (t : TE) : TT := fun σ H Q => t σ H fun x H1 => ∃ c, x = .bl c ∧ Q c H1
theorem pt_val {e : Expr} {t : TE} (h : PE X e t) (he : ∀ whole, isTrue e X.env whole = (do let v ← whole; standAt e.pos; holding [v] (truthy v)) := by intro _; rfl) : PT X e (tB t) := by
  intro pins s σ H Q I hw
  refine isTrue_plain (thn (h pins s σ H _ I hw) fun v s1 ⟨x, H1, I1, r1, q1⟩ => ?_) (he _)
  obtain ⟨d, rfl, q⟩ := q1
  cases r1
  exact wpAny_truthy_bool ⟨H1, I1, q⟩
variable {tA tB' : TT} {rest : List Expr}
def tAnd (t u : TT) : TT := fun σ H Q => t σ H fun c H1 => if c = true then u σ H1 Q else Q false H1
def tOr (t u : TT) : TT := fun σ H Q => t σ H fun c H1 => if c = true then Q true H1 else u σ H1 Q
def tNot (t : TT) : TT := fun σ H Q => t σ H fun c H1 => Q (!c) H1
theorem pw_and1 (ha : PT X a tA) : PW X (.BoolOp .And [a] pos) tA := by
  intro wh pins s σ H Q I h
  refine isTrue_and (thn (ha pins s σ H Q I h) fun c s1 e => ?_)
  cases c with
  | true => exact isTrue_and_nil e
  | false => exact e
theorem pw_or1 (ha : PT X a tA) : PW X (.BoolOp .Or [a] pos) tA := by
  intro wh pins s σ H Q I h
  refine isTrue_or (thn (ha pins s σ H Q I h) fun c s1 e => ?_)
  cases c with
  | false => exact isTrue_or_nil e
  | true => exact e
theorem pw_and (ha : PT X a tA) (hb : PW X (.BoolOp .And (b :: rest) pos) tB') : PW X (.BoolOp .And (a :: b :: rest) pos) (tAnd tA tB') := by
  intro wh pins s σ H Q I h
  refine isTrue_and (thn (ha pins s σ H _ I h) fun c s1 ⟨H1, I1, q1⟩ => ?_)
  cases c with
  | true => exact hb wh pins s1 σ H1 Q I1 q1
  | false => exact ⟨H1, I1, q1⟩
theorem pw_or (ha : PT X a tA) (hb : PW X (.BoolOp .Or (b :: rest) pos) tB') : PW X (.BoolOp .Or (a :: b :: rest) pos) (tOr tA tB') := by
  intro wh pins s σ H Q I h
  refine isTrue_or (thn (ha pins s σ H _ I h) fun c s1 ⟨H1, I1, q1⟩ => ?_)
  cases c with
  | true => exact ⟨H1, I1, q1⟩
  | false => exact hb wh pins s1 σ H1 Q I1 q1
theorem pt_not (ha : PT X a tA) : PT X (.UnaryOp .Not a pos) (tNot tA) := by
  intro pins s σ H Q I h
  exact isTrue_not (ha pins s σ H (fun c H1 => Q (!c) H1) I h)
def tAndV (ta tb : TE) : TE := fun σ H Q => ta σ H fun x H1 => ∃ c, x = .bl c ∧ if c = true then tb σ H1 Q else Q (.bl false) H1
def tNotV (ta : TE) : TE := fun σ H Q => ta σ H fun x H1 => ∃ c, x = .bl c ∧ Q (.bl (!c)) H1
theorem pe_one {op} {t : TE} (h : PE X a t) : PE X (.BoolOp op [a] pos) t := fun pins s σ H Q I hw => BoolOp_one (h pins s σ H Q I hw)
theorem pe_and (ha : PE X a ta) (hb : PE X (.BoolOp .And (b :: rest) pos) tb) : PE X (.BoolOp .And (a :: b :: rest) pos) (tAndV ta tb) := by
  intro pins s σ H Q I h
  refine BoolOp_and (thn (ha pins s σ H _ I h) fun v s1 ⟨x, H1, I1, r1, q1⟩ => ?_)
  obtain ⟨c, rfl, q1⟩ := q1
  cases r1
  refine wpAny_truthy_bool ?_
  cases c with
  | true => exact hb pins s1 σ H1 Q I1 q1
  | false => exact ⟨.bl false, H1, I1, rfl, q1⟩
theorem pe_not (ha : PE X a ta) : PE X (.UnaryOp .Not a pos) (tNotV ta) := by
  intro pins s σ H Q I h
  refine UnaryOp_ (thn (ha pins s σ H _ I h) fun v s1 ⟨x, H1, I1, r1, q1⟩ => ?_)
  obtain ⟨c, rfl, q1⟩ := q1
  cases r1
  exact not_of (wpAny_truthy_bool ⟨.bl (!c), H1, I1, rfl, q1⟩)
def tIf (t : TT) (ta tb : TE) : TE := fun σ H Q => t σ H fun c H1 => if c = true then ta σ H1 Q else tb σ H1 Q
theorem pe_ifExp {c : Expr} (hc : PT X c tA) (ha : PE X a ta) (hb : PE X b tb) : PE X (.IfExp c a b pos) (tIf tA ta tb) := by
  intro pins s σ H Q I h
  refine wpAny_IfExp (thn (hc pins s σ H _ I h) fun d s1 ⟨H1, I1, q1⟩ => ?_)
  cases d with
  | true => exact ha pins s1 σ H1 Q I1 q1
  | false => exact hb pins s1 σ H1 Q I1 q1
end
end L2
namespace L2
open PySem PySem.Spec PyProof.Rows
def SqL (K : PySem.W.Frag) (H : Hp) (a : Addr) (xs : List V) : Prop :=
  Rd H a (.lst xs) ∨
    ∃ (o : Obj) (its : Array Value) (n : Nat), K.lookup a = some o ∧ o.cls = .type "list" ∧ o.dict = none ∧ o.data = .seq its n ∧ its.size ≤ sizeLine ∧ Vals xs its.toList
def SqT (K : PySem.W.Frag) (H : Hp) (a : Addr) (xs : List V) : Prop :=
  Rd H a (.tup xs) ∨
    ∃ (o : Obj) (its : Array Value) (n : Nat), K.lookup a = some o ∧ o.cls = .type "tuple" ∧ o.data = .seq its n ∧ its.size ≤ sizeLine ∧ Vals xs its.toList
def absV : Value → Option V
  | .none => some .non
  | .bool b => some (.bl b)
  | .int i _ => some (.int i)
  | .str x _ => some (.str x)
  | .bytes b _ => some (.byt b)
  | .float b _ => some (.flt b)
  | .ref a => some (.ref a)
  | .type n => some (.ty n)
  | _ => none
theorem RelV.abs {x : V} {u : Value} (r : RelV x u) : absV u = some x := by
  cases x with
  | non => cases r; rfl
  | bl _ => cases r; rfl
  | int _ => obtain ⟨t, rfl⟩ := r; rfl
  | str _ => obtain ⟨t, rfl⟩ := r; rfl
  | byt _ => obtain ⟨t, rfl⟩ := r; rfl
  | flt _ => obtain ⟨t, rfl⟩ := r; rfl
  | ref _ => cases r; rfl
  | ty _ => cases r; rfl
theorem RelV.inj {x y : V} {u : Value} (r : RelV x u) (q : RelV y u) : x = y := Option.some.inj (r.abs.symm.trans q.abs)
theorem Vals.inj : ∀ {xs ys : List V} {us : List Value}, Vals xs us → Vals ys us → xs = ys
  | _, _, _, .nil, .nil => rfl
  | _, _, _, .cons r t, .cons r' t' => by rw [r.inj r', Vals.inj t t']
section
variable {X : Cx} {pins : List (Addr × Obj)} {σ : St} {H : Hp} {s : Shared} {a : Addr} {xs ys : List V}
theorem SqL.of {K : PySem.W.Frag} (h : H a = some (.lst xs)) : SqL K H a xs := .inl (.inl h)
theorem Inv.list (I : Inv X pins σ H s) (h : SqL X.K H a xs) : ∃ its : List Value, Vals xs its ∧ PlainL s.heap a its.toArray ∧ xs.length ≤ sizeLine := by
  rcases h with h | ⟨o, its, n, hk, hc, hd, hs, hz, r⟩
  · obtain ⟨z, its, n, r, e⟩ := h.ok I.hok
    exact ⟨its, r, ⟨_, n, e, rfl, rfl, rfl⟩, z⟩
  · refine ⟨its.toList, r, ⟨o, n, I.kIn a o hk, hc, hd, by simpa using hs⟩, ?_⟩
    have e := r.length
    simp only [Array.length_toList] at e
    lia
theorem Inv.tuple (I : Inv X pins σ H s) (h : SqT X.K H a xs) : ∃ its : List Value, Vals xs its ∧ IsTup s.heap a its.toArray ∧ xs.length ≤ sizeLine := by
  rcases h with h | ⟨o, its, n, hk, hc, hs, hz, r⟩
  · obtain ⟨z, its, r, p⟩ := h.ok I.hok
    exact ⟨its, r, p, z⟩
  · refine ⟨its.toList, r, ⟨o, I.kIn a o hk, hc, n, by simpa using hs⟩, ?_⟩
    have e := r.length
    simp only [Array.length_toList] at e
    lia
theorem Inv.list_inj (I : Inv X pins σ H s) (h : SqL X.K H a xs) (h' : SqL X.K H a ys) : xs = ys := by
  obtain ⟨its, r, ⟨o, n, e, _, _, d⟩, _⟩ := I.list h
  obtain ⟨its', r', ⟨o', n', e', _, _, d'⟩, _⟩ := I.list h'
  rw [e] at e'; cases e'
  rw [d] at d'
  injection d' with d1 _
  have : its = its' := by simpa using congrArg Array.toList d1
  subst this
  exact r.inj r'
theorem Inv.tuple_inj (I : Inv X pins σ H s) (h : SqT X.K H a xs) (h' : SqT X.K H a ys) : xs = ys := by
  obtain ⟨its, r, ⟨o, e, _, n, d⟩, _⟩ := I.tuple h
  obtain ⟨its', r', ⟨o', e', _, n', d'⟩, _⟩ := I.tuple h'
  rw [e] at e'; cases e'
  rw [d] at d'
  injection d' with d1 _
  have : its = its' := by simpa using congrArg Array.toList d1
  subst this
  exact r.inj r'
end
abbrev Cx.wish (X : Cx) (E : Value → Shared → Prop) : Cx := { X with xe := E }
abbrev Cx.nox (X : Cx) : Cx := X.wish fun _ _ => False
theorem Cx.Ok.wish {X : Cx} (ok : X.Ok) (E : Value → Shared → Prop) : (X.wish E).Ok :=
  ⟨ok.mod, ok.kind, ok.glob, ok.blt, ok.above, ok.inj, ok.has, ok.cab, ok.hd, ok.frames, ok.stk, ok.exf, ok.bs, ok.bsz, ok.noex, ok.exfs, ok.funs, ok.frf⟩
theorem Cx.Ok.unwish {X : Cx} {E : Value → Shared → Prop} (ok : (X.wish E).Ok) : X.Ok :=
  ⟨ok.mod, ok.kind, ok.glob, ok.blt, ok.above, ok.inj, ok.has, ok.cab, ok.hd, ok.frames, ok.stk, ok.exf, ok.bs, ok.bsz, ok.noex, ok.exfs, ok.funs, ok.frf⟩
section
variable {X : Cx} {pins : List (Addr × Obj)} {σ : St} {H : Hp} {s : Shared} {E : Value → Shared → Prop}
theorem Inv.wish (I : Inv X pins σ H s) (E : Value → Shared → Prop) : Inv (X.wish E) pins σ H s := ⟨I.ok.wish E, I.os, I.bare, I.base, I.loc, I.cell, I.free, I.freeC, I.pin, I.hok, I.len⟩
theorem Inv.unwish (I : Inv (X.wish E) pins σ H s) : Inv X pins σ H s := ⟨I.ok.unwish, I.os, I.bare, I.base, I.loc, I.cell, I.free, I.freeC, I.pin, I.hok, I.len⟩
theorem SP.unwish {D : Ends} {f : Flow} {s' : Shared} (h : SP (X.wish E) pins D f s') : SP X pins D f s' := by
  cases f with
  | next => obtain ⟨σ', H', I, q⟩ := h; exact ⟨σ', H', I.unwish, q⟩
  | brk => obtain ⟨σ', H', I, q⟩ := h; exact ⟨σ', H', I.unwish, q⟩
  | cont => obtain ⟨σ', H', I, q⟩ := h; exact ⟨σ', H', I.unwish, q⟩
  | ret u => obtain ⟨v, σ', H', I, r, q⟩ := h; exact ⟨v, σ', H', I.unwish, r, q⟩
theorem PSs.nox {st : List Stmt} {t : TS} (h : PSs X.nox st t) : PSs X st t := fun pins s σ H D I hw =>
  wpAny_mono (h pins s σ H D (I.wish _) hw) (fun _ _ q => q.unwish) fun _ _ z => False.elim z
end
section
variable {X : Cx} {st : Stmt} {rest : List Stmt} {t u : TS} {e : Expr} {te : TE} {pos : Pos}
def tNext : TS := fun D σ H => D.nx σ H
def tSeq (t u : TS) : TS := fun D σ H => t { D with nx := u D } σ H
theorem pss_nil : PSs X [] tNext := fun _ _ σ H _ I h => wpAny_execs_nil ⟨σ, H, I, h⟩
theorem pss_cons (h1 : PS X st t) (h2 : PSs X rest u) : PSs X (st :: rest) (tSeq t u) := by
  intro pins s σ H D I h
  refine wpAny_execs_cons (thn (h1 pins s σ H { D with nx := u D } I h) fun f s1 q => ?_)
  cases f with
  | next =>
    obtain ⟨σ', H', I', q⟩ := q
    exact h2 pins s1 σ' H' D I' q
  | ret v => exact q
  | brk => exact q
  | cont => exact q
theorem pss_one (h1 : PS X st t) : PSs X [st] t := by
  intro pins s σ H D I h
  refine wpAny_execs_cons (thn (h1 pins s σ H D I h) fun f s1 q => ?_)
  cases f with
  | next => exact wpAny_execs_nil q
  | ret v => exact q
  | brk => exact q
  | cont => exact q
theorem Inv.quiet {pins : List (Addr × Obj)} {σ : St} {H : Hp} {s : Shared} (I : Inv X pins σ H s) : interactive X.env = false := by simp [interactive, I.ok.kind]
def tDrop (te : TE) : TS := fun D σ H => te σ H fun _ H1 => D.nx σ H1
theorem ps_expr (he : PE X e te) (hs : swapsWith e none pos.line X.env = pure false := by rfl) : PS X (.Expr e pos) (tDrop te) := by
  intro pins s σ H D I h
  exact wpAny_Expr_any (thn (he pins s σ H _ I h) fun v s1 ⟨x, H1, I1, r1, q1⟩ => ⟨σ, H1, I1, q1⟩) I.quiet hs
def tRet (te : TE) : TS := fun D σ H => te σ H D.rt
theorem ps_ret (he : PE X e te) : PS X (.Return (some e) pos) (tRet te) := by
  intro pins s σ H D I h
  exact wpAny_Return_some (thn (he pins s σ H _ I h) fun v s1 ⟨x, H1, I1, r1, q1⟩ => ⟨x, σ, H1, I1, r1, q1⟩)
def tIfS (c : TT) (t u : TS) : TS := fun D σ H => c σ H fun b H1 => if b = true then t D σ H1 else u D σ H1
theorem ps_if {c : Expr} {a b : List Stmt} {tc : TT} (hc : PT X c tc) (ha : PSs X a t) (hb : PSs X b u) : PS X (.If c a b pos) (tIfS tc t u) := by
  intro pins s σ H D I h
  refine wpAny_If (thn (hc pins s σ H _ I h) fun d s1 ⟨H1, I1, q1⟩ => ?_)
  cases d with
  | true => exact ha pins s1 σ H1 D I1 q1
  | false => exact hb pins s1 σ H1 D I1 q1
end
abbrev TG := V → St → Hp → (St → Hp → Prop) → Prop
abbrev TGs := List V → St → Hp → (St → Hp → Prop) → Prop
def PG (X : Cx) (target : Expr) (t : TG) : Prop :=
  ∀ (pins : List (Addr × Obj)) (s : Shared) (σ : St) (H : Hp) (v : V) (u : Value) (Q : St → Hp → Prop), Inv X pins σ H s → RelV v u → t v σ H Q →
    wpAny (model X.prog X.w) X.A (assign target X.env u) (fun _ s' => ∃ σ' H', Inv X pins σ' H' s' ∧ Q σ' H') X.xe s
def PGs (X : Cx) (ts : List Expr) (t : TGs) : Prop :=
  ∀ (pins : List (Addr × Obj)) (s : Shared) (σ : St) (H : Hp) (vs : List V) (us : List Value) (Q : St → Hp → Prop), Inv X pins σ H s → Vals vs us → t vs σ H Q →
    wpAny (model X.prog X.w) X.A (assignInOrder ((assignEach ts X.env).map (·.2)) us) (fun _ s' => ∃ σ' H', Inv X pins σ' H' s' ∧ Q σ' H') X.xe s
abbrev TSet := V → V → V → Hp → (Hp → Prop) → Prop
def PSet (X : Cx) (t : TSet) : Prop :=
  ∀ (pins : List (Addr × Obj)) (s : Shared) (σ : St) (H : Hp) (o i v : V) (ov iv u : Value) (Q : Hp → Prop), Inv X pins σ H s → RelV o ov → RelV i iv → RelV v u → t o i v H Q →
    wpAny (model X.prog X.w) X.A (setItem ov iv u) (fun _ s' => ∃ H', Inv X pins σ H' s' ∧ Q H') X.xe s
section
variable {X : Cx} {pos : Pos}
def gName (i : Nat) : TG := fun v σ H Q => Q (σ.set i (some v)) H
theorem pg_name {i : Nat} {x : Str} (hN : X.N.Nodup) (hi : X.N[i]? = some x) (hx : Loc X.env.scope x) (hf : X.fn x = true ∨ X.env.scope.names.lookup x = some .local := by first | exact .inl rfl | exact .inr rfl | assumption) : PG X (.Name x pos) (gName i) := by
  intro pins s σ H v u Q I r h
  exact wpAny_assign_Name (store_ok I hN hi hx r (fun s' I' => ⟨_, H, I', h⟩) hf)
def gNil : TGs := fun vs σ H Q => vs = [] ∧ Q σ H
def gCons (t : TG) (u : TGs) : TGs := fun vs σ H Q => ∃ v r, vs = v :: r ∧ t v σ H fun σ' H' => u r σ' H' Q
theorem pgs_nil : PGs X [] gNil := by
  intro pins s σ H vs us Q I r h
  obtain ⟨e, h⟩ := h
  subst e
  cases r
  exact assignInOrder_nil ⟨σ, H, I, h⟩
theorem pgs_cons {e : Expr} {es : List Expr} {t : TG} {u : TGs} (h1 : PG X e t) (h2 : PGs X es u)
    (hs : (assignEach (e :: es) X.env).map (·.2) = assign e X.env :: (assignEach es X.env).map (·.2) := by rfl) : PGs X (e :: es) (gCons t u) := by
  intro pins s σ H vs us Q I r h
  obtain ⟨v, vr, e1, h⟩ := h
  subst e1
  cases r with
  | cons r rr =>
    rw [hs]
    refine assignInOrder_cons (thn (h1 pins s σ H _ _ _ I r h) fun _ s1 ⟨σ1, H1, I1, q1⟩ => ?_)
    exact h2 pins s1 σ1 H1 _ _ Q I1 rr q1
def gTup (K : PySem.W.Frag) (n : Nat) (t : TGs) : TG := fun v σ H Q => ∃ a xs, v = .ref a ∧ SqT K H a xs ∧ xs.length = n ∧ t xs σ H Q
theorem pg_tup {es : List Expr} {k : Nat} {t : TGs} {n : Nat} (hc : X.calm = true) (h : PGs X es t)
    (hn : (assignEach es X.env).length = n := by rfl) (hst : (assignEach es X.env).findIdx? (·.1) = none := by rfl) : PG X (.Tuple es k pos) (gTup X.K n t) := by
  intro pins s σ H v u Q I r hw
  obtain ⟨a, xs, e1, hq, hl, hw⟩ := hw
  subst e1
  cases r
  obtain ⟨its, rv, ht, hz⟩ := I.tuple hq
  refine assign_Tuple_tuple (I.ok.hd hc) ht (by simp [hn, ← hl, rv.length]) hst fun h' hx => ?_
  have I1 : Inv X pins σ H { s with heap := h' } := I.kept (t' := s.toks) fun b o e => hx b o (Nat.ne_of_lt (Heap.lt_size e)) e
  exact h pins _ σ H xs _ Q I1 (by simpa using rv) hw
def gSub (to ti : TE) (t : TSet) : TG := fun v σ H Q => to σ H fun o H1 => ti σ H1 fun i H2 => t o i v H2 fun H3 => Q σ H3
theorem pg_sub {o i : Expr} {to ti : TE} {t : TSet} (ho : PE X o to) (hi : PE X i ti) (hs : PSet X t)
    (ha : ∀ v, assign (.Subscript o i pos) X.env v = (do
      let ov ← holding [v] (eval o X.env)
      let iv ← holding [v, ov] (eval i X.env)
      standAt pos
      holding [v, ov, iv] (setItem ov iv v)
      release [v, ov, iv] []) := by intro _; rfl) : PG X (.Subscript o i pos) (gSub to ti t) := by
  intro pins s σ H v u Q I r h
  rw [ha]
  refine wpAny_bind (wpAny_holding (thn (ho pins s σ H _ I h) fun ov s1 ⟨x, H1, I1, r1, q1⟩ => ?_))
  refine wpAny_bind (wpAny_holding (thn (hi pins s1 σ H1 _ I1 q1) fun iv s2 ⟨y, H2, I2, r2, q2⟩ => ?_))
  refine wpAny_bind (wpAny_standAt (wpAny_bind (wpAny_holding (thn (hs pins s2 σ H2 x y v ov iv u _ I2 r1 r2 r q2) fun _ s3 ⟨H3, I3, q3⟩ => ?_))))
  exact wpAny_release ⟨σ, H3, I3, q3⟩
def tAsg (te : TE) (g : TG) : TS := fun D σ H => te σ H fun x H1 => g x σ H1 D.nx
theorem ps_asg {tg e : Expr} {te : TE} {g : TG} (he : PE X e te) (hg : PG X tg g) (hs : swapsWithSole [tg] e pos.line X.env = pure false := by rfl) (hw : swappedStores [tg] e X.env = pure none := by rfl)
    (h1 : (assignEach [tg] X.env).map (·.2) = [assign tg X.env] := by rfl) : PS X (.Assign [tg] e pos) (tAsg te g) := by
  intro pins s σ H D I h
  refine wpAny_Assign_stores (thn (he pins s σ H _ I h) fun v s1 ⟨x, H1, I1, r1, q1⟩ => ?_) hs hw
  rw [h1]
  exact thn (hg pins s1 σ H1 x v _ I1 r1 q1) fun _ s2 q => q
theorem ps_set {i : Nat} {x : Str} {e : Expr} {te : TE} {pos' : Pos} (hN : X.N.Nodup) (hi : X.N[i]? = some x) (hx : Loc X.env.scope x) (he : PE X e te) (hs : swapsWith e (some (.Name x pos')) pos.line X.env = pure false := by rfl) (hf : X.fn x = true ∨ X.env.scope.names.lookup x = some .local := by first | exact .inl rfl | exact .inr rfl | assumption) :
    PS X (.Assign [.Name x pos'] e pos) (tAsg te (gName i)) := by
  intro pins s σ H D I h
  refine wpAny_Assign_Name (thn (he pins s σ H _ I h) fun v s1 ⟨y, H1, I1, r1, q1⟩ => ?_) hs
  exact store_ok I1 hN hi hx r1 (fun s2 I2 => ⟨_, H1, I2, q1⟩) hf
end
section
variable {X : Cx} {pos : Pos}
end
structure It where
  go : Nat → Hp → Prop
  yld : Nat → Hp → V → Hp → Prop
  stop : Nat → Hp → Prop
def FpOk (X : Cx) (pins : List (Addr × Obj)) (H : Hp) (b : Addr) : Prop :=
  H b = none ∧ b ≠ X.env.locals ∧ b ∉ X.fs ∧ (b ∈ X.ex ∨ X.s₀.heap.objs.size ≤ b) ∧ (∀ x c, X.env.cells.lookup x = some c → c ≠ b) ∧ ∀ p ∈ X.pn ++ pins, p.1 ≠ b
theorem Inv.fpOk {X : Cx} {pins : List (Addr × Obj)} {σ : St} {H H' : Hp} {s : Shared} {b : Addr} (I : Inv X pins σ H s) (hb : s.heap.objs.size ≤ b) (hn : H' b = none) : FpOk X pins H' b := by
  refine ⟨hn, Nat.ne_of_gt (Nat.lt_of_lt_of_le I.lt hb), I.nofs hb, .inr (Nat.le_trans I.sz hb), fun x c e z => ?_, fun p hp z => ?_⟩
  · obtain ⟨v, q⟩ := I.cell x c e
    exact absurd (Nat.lt_of_lt_of_le q.lt (by rw [z]; exact hb)) (Nat.lt_irrefl _)
  · exact absurd (Nat.lt_of_lt_of_le (Heap.lt_size (I.pin p hp).1) (by rw [z]; exact hb)) (Nat.lt_irrefl _)
structure Turn (P : Program) (w : World) (K : PySem.W.Frag) (tg : Expr) (J : It) (fp : List Addr) (it : Addr) (tn : Nat → Heap → Prop) : Prop where
  mem : it ∈ fp
  obj : ∀ i h, tn i h → ∀ b ∈ fp, ∃ o, h.get? b = some o ∧ ∀ v, o.data ≠ .cell v
  keep : ∀ i h h', tn i h → (∀ b ∈ fp, ∀ o, h.get? b = some o → h'.get? b = some o) → tn i h'
  item : ∀ (X : Cx), X.prog = P → X.w = w → X.K = K → X.calm = true → ∀ (i : Nat) (pins : List (Addr × Obj)) (s : Shared) (σ : St) (H : Hp) (E : Value → Shared → Prop), Inv X pins σ H s → (∀ b ∈ fp, FpOk X pins H b) → tn i s.heap → J.go i H →
    wpAny (model P w) X.A (pyNext (.ref it)) (fun r s1 => ∃ u, r = some u ∧
      wpAny (model P w) X.A (letOwnedTupleGo tg (.ref it) u) (fun _ s2 => ∃ x H', Inv X pins σ H' s2 ∧ RelV x u ∧ J.yld i H x H' ∧ tn (i + 1) s2.heap ∧ ∀ b ∈ fp, H' b = none) E s1) E s
  done : ∀ (X : Cx), X.prog = P → X.w = w → X.K = K → X.calm = true → ∀ (i : Nat) (pins : List (Addr × Obj)) (s : Shared) (σ : St) (H : Hp) (E : Value → Shared → Prop), Inv X pins σ H s → (∀ b ∈ fp, FpOk X pins H b) → tn i s.heap → J.stop i H →
    wpAny (model P w) X.A (pyNext (.ref it)) (fun r s1 => r = none ∧ Inv X pins σ H s1) E s
  self : ∀ (A : Around) (i : Nat) (s : Shared) (Q : Value → Shared → Prop) (E : Value → Shared → Prop), tn i s.heap → Q (.ref it) s → wpAny (model P w) A (pyIter (.ref it)) Q E s
abbrev TI := St → Hp → (It → Hp → Prop) → Prop
def PIE (X : Cx) (pins : List (Addr × Obj)) (σ : St) (tg : Expr) (R : It → Hp → Prop) (itv : Value) (s2 : Shared) : Prop :=
  ∃ (it : Addr) (fp : List Addr) (tn : Nat → Heap → Prop) (J : It) (H' : Hp), itv = .ref it ∧ Inv X pins σ H' s2 ∧ Turn X.prog X.w X.K tg J fp it tn ∧ tn 0 s2.heap ∧ (∀ b ∈ fp, FpOk X pins H' b) ∧ R J H'
def PI (X : Cx) (tg iter : Expr) (wi : TI) : Prop :=
  ∀ (pins : List (Addr × Obj)) (s : Shared) (σ : St) (H : Hp) (R : It → Hp → Prop), Inv X pins σ H s → wi σ H R →
    wpAny (model X.prog X.w) X.A (eval iter X.env) (fun v s1 => wpAny (model X.prog X.w) X.A (pyIter v) (PIE X pins σ tg R) X.xe s1) X.xe s
theorem go_of {M : Model} {A : Around} {E : Value → Shared → Prop} {s : Shared} {tg : Expr} {it : Addr} {u : Value} {o : Obj} {n : String} {vs : Array Value} {Q : Unit → Shared → Prop} (ho : s.heap.get? it = some o) (hc : o.cls = .type n) (hd : o.data = .fields vs)
    (hn : ["enumerate", "zip", "dict_itemiterator", "dict_reverseitemiterator", "odict_iterator", "itertools.zip_longest", "itertools.pairwise"].contains n = false) (hQ : Q () s) : wpAny M A (letOwnedTupleGo tg (.ref it) u) Q E s := by
  unfold letOwnedTupleGo
  cases tg <;> first
    | exact wpAny_pure hQ
    | (cases u <;> first
        | exact wpAny_pure hQ
        | (refine wpAny_bind (wpAny_load ho ?_)
           rw [hc, hd]
           show wpAny M A (if (["enumerate", "zip", "dict_itemiterator", "dict_reverseitemiterator", "odict_iterator", "itertools.zip_longest", "itertools.pairwise"].contains n && vs[0]? == some (rawInt _)) = true then _ else _) Q E s
           rw [if_neg (by intro h; rw [hn, Bool.false_and] at h; cases h)]
           exact wpAny_pure hQ))
def Itl (K : PySem.W.Frag) (a : Addr) : It :=
  ⟨fun i H => ∃ xs x, SqL K H a xs ∧ xs[i]? = some x, fun i H x H' => H' = H ∧ ∀ xs, SqL K H a xs → xs[i]? = some x, fun i H => ∃ xs, SqL K H a xs ∧ xs.length ≤ i⟩
def Itt (K : PySem.W.Frag) (a : Addr) : It :=
  ⟨fun i H => ∃ xs x, SqT K H a xs ∧ xs[i]? = some x, fun i H x H' => H' = H ∧ ∀ xs, SqT K H a xs → xs[i]? = some x, fun i H => ∃ xs, SqT K H a xs ∧ xs.length ≤ i⟩
def Itr (lo : Int) (n : Nat) : It := ⟨fun i _ => i < n, fun i H x H' => H' = H ∧ x = .int (lo + i), fun i _ => n ≤ i⟩
theorem turn_list {P : Program} {w : World} {K : PySem.W.Frag} {tg : Expr} (a it : Addr) : Turn P w K tg (Itl K a) [it] it (fun i h => h.IsListIter it a i) where
  mem := by simp
  obj := fun i h st b hb => by
    have e : b = it := by simpa using hb
    subst e
    obtain ⟨o, e, c, d⟩ := st
    exact ⟨o, e, fun v z => by rw [d] at z; cases z⟩
  keep := fun i h h' st k => st.at fun o e => k it (by simp) o e
  item := by
    intro X hP hw hK hc i pins s σ H E I hf st hg
    subst hP hw hK
    obtain ⟨xs, x, hq, hx⟩ := hg
    obtain ⟨its, rv, p, hz⟩ := I.list hq
    obtain ⟨u, hu, ru⟩ := rv.get hx
    obtain ⟨f0, f1, f2, f3, f4, f5⟩ := hf it (by simp)
    refine wpAny_pyNext_list_item st p.isList (x := u) (by simpa using hu) fun h' st' sb => ?_
    have I1 : Inv X pins σ H { s with heap := h' } := I.turned (t' := s.toks) (fun b o hb e => (sb.2 b hb).trans e) f0 f1 f3 f4 f5
    obtain ⟨o, e, c, d⟩ := id st'
    exact ⟨u, rfl, go_of (s := { s with heap := h' }) e c d (by decide) ⟨x, H, I1, ru, ⟨rfl, fun ys hy => by rw [I.list_inj hy hq]; exact hx⟩, st', fun b hb => (hf b hb).1⟩⟩
  done := by
    intro X hP hw hK hc i pins s σ H E I hf st hg
    subst hP hw hK
    obtain ⟨xs, hq, hx⟩ := hg
    obtain ⟨its, rv, p, hz⟩ := I.list hq
    obtain ⟨f0, f1, f2, f3, f4, f5⟩ := hf it (by simp)
    have hl := rv.length
    exact wpAny_pyNext_list_end (I.ok.hd hc) st p.isList (by simp; lia) fun h' eb => ⟨rfl, I.turned (t' := s.toks) (fun b o hb e => eb b o hb e) f0 f1 f3 f4 f5⟩
  self := fun _ _ _ _ _ st h => wpAny_pyIter_listiter st h
theorem turn_tuple {P : Program} {w : World} {K : PySem.W.Frag} {tg : Expr} (a it : Addr) : Turn P w K tg (Itt K a) [it] it (fun i h => h.IsTupleIter it a i) where
  mem := by simp
  obj := fun i h st b hb => by
    have e : b = it := by simpa using hb
    subst e
    obtain ⟨o, e, c, d⟩ := st
    exact ⟨o, e, fun v z => by rw [d] at z; cases z⟩
  keep := fun i h h' st k => st.at fun o e => k it (by simp) o e
  item := by
    intro X hP hw hK hc i pins s σ H E I hf st hg
    subst hP hw hK
    obtain ⟨xs, x, hq, hx⟩ := hg
    obtain ⟨its, rv, p, hz⟩ := I.tuple hq
    obtain ⟨u, hu, ru⟩ := rv.get hx
    obtain ⟨f0, f1, f2, f3, f4, f5⟩ := hf it (by simp)
    refine wpAny_pyNext_tuple_item st (show s.heap.IsTuple a its.toArray from p) (x := u) (by simpa using hu) fun h' st' sb => ?_
    have I1 : Inv X pins σ H { s with heap := h' } := I.turned (t' := s.toks) (fun b o hb e => (sb.2 b hb).trans e) f0 f1 f3 f4 f5
    obtain ⟨o, e, c, d⟩ := id st'
    exact ⟨u, rfl, go_of (s := { s with heap := h' }) e c d (by decide) ⟨x, H, I1, ru, ⟨rfl, fun ys hy => by rw [I.tuple_inj hy hq]; exact hx⟩, st', fun b hb => (hf b hb).1⟩⟩
  done := by
    intro X hP hw hK hc i pins s σ H E I hf st hg
    subst hP hw hK
    obtain ⟨xs, hq, hx⟩ := hg
    obtain ⟨its, rv, p, hz⟩ := I.tuple hq
    obtain ⟨f0, f1, f2, f3, f4, f5⟩ := hf it (by simp)
    have hl := rv.length
    exact wpAny_pyNext_tuple_end (I.ok.hd hc) st (show s.heap.IsTuple a its.toArray from p) (by simp; lia) fun h' eb => ⟨rfl, I.turned (t' := s.toks) (fun b o hb e => eb b o hb e) f0 f1 f3 f4 f5⟩
  self := fun _ _ _ _ _ st h => wpAny_pyIter_tupleiter st h
theorem turn_range {P : Program} {w : World} {K : PySem.W.Frag} {tg : Expr} (it : Addr) (lo : Int) (n : Nat) : Turn P w K tg (Itr lo n) [it] it (fun i h => IsRangeIter h it (lo + (i : Nat) * 1) ((n : Int) - (i : Nat)) 1) where
  mem := by simp
  obj := fun i h st b hb => by
    have e : b = it := by simpa using hb
    subst e
    exact ⟨_, st, fun v z => by
      have z' : Data.fields _ = Data.cell v := z
      cases z'⟩
  keep := fun i h h' st k => k it (by simp) _ st
  item := by
    intro X hP hw hK hc i pins s σ H E I hf st hg
    subst hP hw hK
    obtain ⟨f0, f1, f2, f3, f4, f5⟩ := hf it (by simp)
    have W := Walks.range (prog := X.prog) (w := X.w) (I.ok.hd hc) it lo 1 n
    refine W.item i s _ _ hg st fun v h' tk hv st' kk => ?_
    obtain ⟨t, rfl⟩ := hv
    have I1 : Inv X pins σ H { s with heap := h', toks := tk } := I.turned (fun b o hb e => kk b o (by simpa using hb) e) f0 f1 f3 f4 f5
    refine ⟨_, rfl, go_of (s := { s with heap := h', toks := tk }) (n := "range_iterator") st' rfl rfl (by decide) ⟨.int (lo + i), H, I1, ⟨t, ?_⟩, ⟨rfl, rfl⟩, st', fun b hb => (hf b hb).1⟩⟩
    rw [Int.mul_one]
  done := by
    intro X hP hw hK hc i pins s σ H E I hf st hg
    subst hP hw hK
    obtain ⟨f0, f1, f2, f3, f4, f5⟩ := hf it (by simp)
    exact wpAny_pyNext_range_end (I.ok.hd hc) st (by have : n ≤ i := hg; lia) fun h' eb => ⟨rfl, I.turned (t' := s.toks) (fun b o hb e => eb b o hb e) f0 f1 f3 f4 f5⟩
  self := fun _ _ _ _ _ st h => wpAny_pyIter_rangeiter st h
end L2
namespace L2
open PySem PySem.Spec PyProof.Rows
section
variable {X : Cx} {tg : Expr}
theorem range_it {pins : List (Addr × Obj)} {σ : St} {H : Hp} {s : Shared} {R : It → Hp → Prop} {E : Value → Shared → Prop} {lo hi : Int} {t u v : Tok} {tk : Nat} (I : Inv X pins σ H s) (h1 : -(2 ^ 62) ≤ lo) (h2 : lo < 2 ^ 62) (h3 : -(2 ^ 62) ≤ hi) (h4 : hi < 2 ^ 62)
    (q : R (Itr lo (hi - lo).toNat) H) : wpAny (model X.prog X.w) X.A (pyIter (.ref s.heap.objs.size)) (PIE X pins σ tg R) E { s with heap := s.heap.push { cls := .type "range", data := .fields #[.int lo t, .int hi u, .int 1 v] }, toks := tk } := by
  refine wpAny_pyIter_range (IsRange.new ..) (small_one h1 h2 h3 h4) ?_
  have I1 : Inv X pins σ H { s with heap := s.heap.push { cls := .type "range", data := .fields #[.int lo t, .int hi u, .int 1 v] }, toks := tk } := I.kept fun b o e => Heap.get?_push_of_some _ e
  refine ⟨(s.heap.push { cls := .type "range", data := .fields #[.int lo t, .int hi u, .int 1 v] }).objs.size, [(s.heap.push { cls := .type "range", data := .fields #[.int lo t, .int hi u, .int 1 v] }).objs.size], _, _, H, rfl,
    I1.kept (t' := tk) fun b o e => Heap.get?_push_of_some _ e, turn_range _ lo (hi - lo).toNat, ?_, fun b hb => ?_, q⟩
  · have e1 : lo + ((0 : Nat) : Int) * 1 = lo := by simp
    have e2 : (((hi - lo).toNat : Nat) : Int) - ((0 : Nat) : Int) = Builtin.Range.rangeSize lo hi 1 := by rw [rangeSize_one]; split <;> lia
    show IsRangeIter _ _ (lo + ((0 : Nat) : Int) * 1) ((((hi - lo).toNat : Nat) : Int) - ((0 : Nat) : Int)) 1
    rw [e1, e2]
    exact Heap.get?_push_size _ rfl
  · have e : b = (s.heap.push { cls := .type "range", data := .fields #[.int lo t, .int hi u, .int 1 v] }).objs.size := by simpa using hb
    subst e
    exact I1.fpOk (Nat.le_refl _) (I1.hok.fresh (Nat.le_refl _))
def iRng1 (ta : TA) : TI := fun σ H R => ta σ H fun vs H1 => ∃ j : Int, vs = [.int j] ∧ -(2 ^ 62) ≤ j ∧ j < 2 ^ 62 ∧ R (Itr 0 j.toNat) H1
theorem pi_range1 {a : Expr} {ta : TA} {p pos : Pos} (hg : Gl X "range") (hm : X.mg "range" = none) (ha : PA X [a] ta) (hs : starEach [a] X.env = [(false, eval a X.env)] := by rfl) : PI X tg (.Call (.Name "range" p) [a] [] pos) (iRng1 ta) := by
  intro pins s σ H R I h
  refine Call_ (ld_blt I hg hm boot_range (PyProof.Rows.callWith_type1 (thn (ha pos pins s σ H _ I h) fun us s1 ⟨vs, H1, I1, r1, q1⟩ => ?_) hs rfl))
  obtain ⟨j, e, q1, q2, q⟩ := q1
  subst e
  cases r1 with
  | cons r rr =>
    cases rr
    obtain ⟨t, rfl⟩ := r
    exact call_range_1 (range_it I1 (by lia) (by lia) q1 q2 (by simpa using q))
def tFor (wi : TI) (g : TG) (tb : TS) : TS := fun D σ H => wi σ H fun J H1 => ∃ W : Nat → Nat → St → Hp → Prop, (∃ m, W 0 m σ H1) ∧ ∀ i m σ H, W i m σ H →
  (J.stop i H ∧ D.nx σ H) ∨ (J.go i H ∧ ∃ N : St → Hp → Prop, (∀ σ' H', N σ' H' → ∃ m', m' < m ∧ W (i + 1) m' σ' H') ∧ ∀ x H', J.yld i H x H' → g x σ H' fun σ2 H2 => tb { D with nx := N, ct := N, bk := D.nx } σ2 H2)
def pinsAt (fp : List Addr) (h : Heap) : List (Addr × Obj) := fp.filterMap fun b => (h.get? b).map fun o => (b, o)
theorem mem_pinsAt {fp : List Addr} {h : Heap} {b : Addr} {o : Obj} (hb : b ∈ fp) (e : h.get? b = some o) : (b, o) ∈ pinsAt fp h := List.mem_filterMap.mpr ⟨b, hb, by rw [e]; rfl⟩
theorem of_pinsAt {fp : List Addr} {h : Heap} {p : Addr × Obj} (hp : p ∈ pinsAt fp h) : p.1 ∈ fp ∧ h.get? p.1 = some p.2 := by
  obtain ⟨b, hb, e⟩ := List.mem_filterMap.mp hp
  cases q : h.get? b with
  | none => rw [q] at e; cases e
  | some o =>
    rw [q] at e
    have e' : (b, o) = p := Option.some.inj e
    subst e'
    exact ⟨hb, q⟩
theorem Inv.pinned {pins : List (Addr × Obj)} {σ : St} {H : Hp} {s : Shared} {fp : List Addr} (I : Inv X pins σ H s) (hf : ∀ b ∈ fp, FpOk X pins H b) (ho : ∀ b ∈ fp, ∃ o, s.heap.get? b = some o ∧ ∀ v, o.data ≠ .cell v) : Inv X (pins ++ pinsAt fp s.heap) σ H s :=
  I.pins_of fun p hp => (List.mem_append.mp hp).elim (fun z => I.pin p (List.mem_append_right _ z)) fun z => by
    obtain ⟨hb, e⟩ := of_pinsAt z
    obtain ⟨f0, f1, f2, _⟩ := hf p.1 hb
    obtain ⟨o, e', d⟩ := ho p.1 hb
    rw [e] at e'; cases e'
    exact ⟨e, f0, f1, f2, d⟩
theorem Inv.unpinned {pins pl : List (Addr × Obj)} {σ : St} {H : Hp} {s : Shared} (I : Inv X (pins ++ pl) σ H s) : Inv X pins σ H s := I.pins_of fun p hp => I.pin p (List.mem_append_right _ (List.mem_append_left _ hp))
theorem ps_for {iter : Expr} {body : List Stmt} {wi : TI} {g : TG} {tb : TS} {pos : Pos} (hp : PassesOwn (model X.prog X.w) X.A X.env X.xe) (hc : X.calm = true) (hi : PI X tg iter wi) (hg : PG X tg g) (hb : PSs X body tb)
    (hs : ∀ x, foldedSetIterable iter X.env x = pure x := by intro _; rfl) : PS X (.For tg iter body [] pos) (tFor wi g tb) := by
  intro pins s σ H D I h
  refine wpAny_For (thn (hi pins s σ H _ I h) fun v s1 h1 => thn h1 fun itv s2 h2 => ?_) hs
  obtain ⟨it, fp, tn, J, H2, e, I2, T, st2, f2, W, ⟨m0, w0⟩, turn⟩ := h2
  subst e
  have stat : ∀ {H' : Hp}, (∀ b ∈ fp, H' b = none) → ∀ b ∈ fp, FpOk X pins H' b := fun hn b hb => ⟨hn b hb, (f2 b hb).2⟩
  refine codeAny_forLoop_any (fun n s' => ∃ i σ' H', Inv X pins σ' H' s' ∧ tn i s'.heap ∧ (∀ b ∈ fp, H' b = none) ∧ W i n σ' H') ?_ m0 ⟨0, σ, H2, I2, st2, fun b hb => (f2 b hb).1, w0⟩
  rintro n s3 ⟨i, σ3, H3, I3, st3, fr3, w3⟩
  rcases turn i n σ3 H3 w3 with ⟨stop, qn⟩ | ⟨go, N, hN, step⟩
  · refine wpAny_passesOwn hp (thn (T.done X rfl rfl rfl hc i pins s3 σ3 H3 X.xe I3 (stat fr3) st3 stop) fun r s4 ⟨hr, I4⟩ => ?_)
    subst hr
    exact wpAny_execs_nil ⟨σ3, H3, I4, qn⟩
  · refine wpAny_passesOwn hp (thn (T.item X rfl rfl rfl hc i pins s3 σ3 H3 X.xe I3 (stat fr3) st3 go) fun r s4 ⟨u, hr, h4⟩ => ?_)
    subst hr
    refine wpAny_passesOwn hp (thn h4 fun _ s5 ⟨x, H5, I5, r5, y5, st5, fr5⟩ => ?_)
    have I5' := I5.pinned (stat fr5) (T.obj _ _ st5)
    refine wpAny_passesOwn hp (thn (hg _ s5 σ3 H5 x u _ I5' r5 (step x H5 y5)) fun _ s6 ⟨σ6, H6, I6, q6⟩ => ?_)
    refine wpAny_passesOwn hp (thn (hb _ s6 σ6 H6 _ I6 q6) fun f s7 q7 => ?_)
    have again : ∀ {σ7 : St} {H7 : Hp}, Inv X (pins ++ pinsAt fp s5.heap) σ7 H7 s7 → N σ7 H7 → ∃ m, m < n ∧ ∃ i σ' H', Inv X pins σ' H' s7 ∧ tn i s7.heap ∧ (∀ b ∈ fp, H' b = none) ∧ W i m σ' H' := fun {σ7 H7} I7 n7 => by
      obtain ⟨m', hm, w7⟩ := hN σ7 H7 n7
      refine ⟨m', hm, i + 1, σ7, H7, I7.unpinned, T.keep _ _ _ st5 fun b hb o e => (I7.pin (b, o) (List.mem_append_right _ (List.mem_append_right _ (mem_pinsAt hb e)))).1, fun b hb => ?_, w7⟩
      obtain ⟨o, e, d⟩ := T.obj _ _ st5 b hb
      exact (I7.pin (b, o) (List.mem_append_right _ (List.mem_append_right _ (mem_pinsAt hb e)))).2.1
    cases f with
    | next => obtain ⟨σ7, H7, I7, n7⟩ := q7; exact again I7 n7
    | cont => obtain ⟨σ7, H7, I7, n7⟩ := q7; exact again I7 n7
    | brk => obtain ⟨σ7, H7, I7, q7⟩ := q7; exact ⟨σ7, H7, I7.unpinned, q7⟩
    | ret v => obtain ⟨x7, σ7, H7, I7, r7, q7⟩ := q7; exact ⟨x7, σ7, H7, I7.unpinned, r7, q7⟩
end
end L2
namespace L2
open PySem PySem.Spec PyProof.Rows
abbrev R2 := V → V → Hp → VK → Prop
def OpR (X : Cx) (f : Value → Value → Sem Value) (r : R2) : Prop :=
  ∀ (pins : List (Addr × Obj)) (s : Shared) (σ : St) (H : Hp) (x y : V) (v u : Value) (Q : VK), Inv X pins σ H s → RelV x v → RelV y u → r x y H Q →
    wpAny (model X.prog X.w) X.A (f v u) (EP X pins σ Q) X.xe s
def UnR (X : Cx) (f : Value → Sem Value) (r : V → Hp → VK → Prop) : Prop :=
  ∀ (pins : List (Addr × Obj)) (s : Shared) (σ : St) (H : Hp) (x : V) (v : Value) (Q : VK), Inv X pins σ H s → RelV x v → r x H Q →
    wpAny (model X.prog X.w) X.A (f v) (EP X pins σ Q) X.xe s
def CallR (X : Cx) (f : Value) (r : List V → Hp → VK → Prop) : Prop :=
  ∀ (pins : List (Addr × Obj)) (s : Shared) (σ : St) (H : Hp) (xs : List V) (us : List Value) (Q : VK), Inv X pins σ H s → Vals xs us → r xs H Q →
    wpAny (model X.prog X.w) X.A (call f us) (EP X pins σ Q) X.xe s
def tOp (r : R2) (ta tb : TE) : TE := fun σ H Q => ta σ H fun x H1 => tb σ H1 fun y H2 => r x y H2 Q
def tUn (r : V → Hp → VK → Prop) (ta : TE) : TE := fun σ H Q => ta σ H fun x H1 => r x H1 Q
def rI (C : Int → Int → Prop) (g : Int → Int → V) : R2 := fun x y H Q => ∃ i j, x = .int i ∧ y = .int j ∧ C i j ∧ Q (g i j) H
def rI0 (g : Int → Int → V) : R2 := fun x y H Q => ∃ i j, x = .int i ∧ y = .int j ∧ Q (g i j) H
def rU (g : Int → V) : V → Hp → VK → Prop := fun x H Q => ∃ i, x = .int i ∧ Q (g i) H
section
variable {X : Cx} {a b c : Expr} {ta tb tc : TE} {pos : Pos}
theorem binT (ha : PE X a ta) (hb : PE X b tb) {pins : List (Addr × Obj)} {s : Shared} {σ : St} {H : Hp} {R : V → V → Hp → Prop} (I : Inv X pins σ H s)
    (h : ta σ H fun x H1 => tb σ H1 fun y H2 => R x y H2) {Q : Value → Shared → Prop} {f : Value → Value → Sem Value}
    (hf : ∀ v u s2 x y H2, Inv X pins σ H2 s2 → RelV x v → RelV y u → R x y H2 → wpAny (model X.prog X.w) X.A (f v u) Q X.xe s2) :
    wpAny (model X.prog X.w) X.A (eval a X.env) (fun v s₁ => wpAny (model X.prog X.w) X.A (eval b X.env) (fun u s₂ => wpAny (model X.prog X.w) X.A (f v u) Q X.xe s₂) X.xe s₁) X.xe s := by
  refine thn (ha pins s σ H _ I h) fun v s1 ⟨x, H1, I1, r1, q1⟩ => ?_
  refine thn (hb pins s1 σ H1 _ I1 q1) fun u s2 ⟨y, H2, I2, r2, q2⟩ => ?_
  exact hf v u s2 x y H2 I2 r1 r2 q2
theorem pe_op {op : Operator} {r : R2} (ho : OpR X (binaryOp op) r) (ha : PE X a ta) (hb : PE X b tb) : PE X (.BinOp a op b pos) (tOp r ta tb) := by
  intro pins s σ H Q I h
  exact wpAny_BinOp (binT ha hb I h fun v u s2 x y H2 I2 rx ry q => ho pins s2 σ H2 x y v u Q I2 rx ry q)
theorem pe_un {op : UnaryOp} {r : V → Hp → VK → Prop} (ho : UnR X (unaryOp op) r) (ha : PE X a ta) : PE X (.UnaryOp op a pos) (tUn r ta) := by
  intro pins s σ H Q I h
  exact UnaryOp_ (thn (ha pins s σ H _ I h) fun v s1 ⟨x, H1, I1, r1, q1⟩ => ho pins s1 σ H1 x v Q I1 r1 q1)
theorem opI {f : Value → Value → Sem Value} {C : Int → Int → Prop} {g : Int → Int → Int}
    (rule : ∀ (i j : Int) (t u : Tok) (s : Shared) (Q : Value → Shared → Prop) (E : Value → Shared → Prop), C i j → Q (.int (g i j) s.toks) { s with toks := s.toks + 1 } → wpAny (model X.prog X.w) X.A (f (.int i t) (.int j u)) Q E s) :
    OpR X f (rI C fun i j => .int (g i j)) := by
  intro pins s σ H x y v u Q I rx ry h
  obtain ⟨i, j, rfl, rfl, hc, q⟩ := h
  obtain ⟨t, rfl⟩ := rx
  obtain ⟨t', rfl⟩ := ry
  exact rule i j t t' s _ _ hc ⟨.int (g i j), H, I.tok _, ⟨_, rfl⟩, q⟩
theorem opI0 {f : Value → Value → Sem Value} {g : Int → Int → Int}
    (rule : ∀ (i j : Int) (t u : Tok) (s : Shared) (Q : Value → Shared → Prop) (E : Value → Shared → Prop), Q (.int (g i j) s.toks) { s with toks := s.toks + 1 } → wpAny (model X.prog X.w) X.A (f (.int i t) (.int j u)) Q E s) :
    OpR X f (rI0 fun i j => .int (g i j)) := by
  intro pins s σ H x y v u Q I rx ry h
  obtain ⟨i, j, rfl, rfl, q⟩ := h
  obtain ⟨t, rfl⟩ := rx
  obtain ⟨t', rfl⟩ := ry
  exact rule i j t t' s _ _ ⟨.int (g i j), H, I.tok _, ⟨_, rfl⟩, q⟩
theorem opB0 {f : Value → Value → Sem Value} {g : Int → Int → Bool}
    (rule : ∀ (i j : Int) (t u : Tok) (s : Shared) (Q : Value → Shared → Prop) (E : Value → Shared → Prop), Q (.bool (g i j)) s → wpAny (model X.prog X.w) X.A (f (.int i t) (.int j u)) Q E s) :
    OpR X f (rI0 fun i j => .bl (g i j)) := by
  intro pins s σ H x y v u Q I rx ry h
  obtain ⟨i, j, rfl, rfl, q⟩ := h
  obtain ⟨t, rfl⟩ := rx
  obtain ⟨t', rfl⟩ := ry
  exact rule i j t t' s _ _ ⟨.bl (g i j), H, I, rfl, q⟩
def CDiv (i j : Int) : Prop := 0 < j ∧ j < 1073741824
def CPow (i j : Int) : Prop := 0 ≤ j ∧ j ≤ 1000000 ∧ i.natAbs < 2 ^ 64
def CMul (i j : Int) : Prop := (-(2 ^ 64) < i ∧ i < 2 ^ 64) ∨ (-(2 ^ 64) < j ∧ j < 2 ^ 64)
theorem CMul.ok {i j : Int} (h : CMul i j) : IntMulOk i j := by
  rcases h with ⟨h1, h2⟩ | ⟨h1, h2⟩
  · exact .of_left (intBits_le_64 h1 h2)
  · exact .of_right (intBits_le_64 h1 h2)
theorem op_add : OpR X (binaryOp .Add) (rI0 fun i j => .int (i + j)) := opI0 fun _ _ _ _ _ _ _ q => add_int q
theorem op_sub : OpR X (binaryOp .Sub) (rI0 fun i j => .int (i - j)) := opI0 fun _ _ _ _ _ _ _ q => sub_int q
theorem op_mul : OpR X (binaryOp .Mult) (rI CMul fun i j => .int (i * j)) := opI fun _ _ _ _ _ _ _ hc q => mul_int q hc.ok
theorem op_fdiv : OpR X (binaryOp .FloorDiv) (rI CDiv fun i j => .int (i / j)) := opI fun i j _ _ _ _ _ hc q => by
  have h1 : (0 : Int) < j := hc.1
  have h2 : j < 1073741824 := hc.2
  exact floordiv_int (by lia) (by rw [Int.fdiv_eq_ediv_of_nonneg i (by lia)]; exact q) (.inl (PyProof.noPylong_small (by lia)))
theorem op_mod : OpR X (binaryOp .Mod) (rI (fun _ j => 0 < j) fun i j => .int (i % j)) := opI fun i j _ _ _ _ _ hc q => by
  have h1 : (0 : Int) < j := hc
  exact mod_int' (by lia) (by rw [Int.fmod_eq_emod_of_nonneg i (by lia)]; exact q)
theorem op_pow : OpR X (binaryOp .Pow) (rI CPow fun i j => .int (i ^ j.toNat)) := opI fun _ _ _ _ _ _ _ hc q => pow_int_small hc.1 hc.2.1 hc.2.2 q
theorem unI {f : Value → Sem Value} {g : Int → Int}
    (rule : ∀ (i : Int) (t : Tok) (s : Shared) (Q : Value → Shared → Prop) (E : Value → Shared → Prop), Q (.int (g i) s.toks) { s with toks := s.toks + 1 } → wpAny (model X.prog X.w) X.A (f (.int i t)) Q E s) :
    UnR X f (rU fun i => .int (g i)) := by
  intro pins s σ H x v Q I rx h
  obtain ⟨i, rfl, q⟩ := h
  obtain ⟨t, rfl⟩ := rx
  exact rule i t s _ _ ⟨.int (g i), H, I.tok _, ⟨_, rfl⟩, q⟩
theorem un_neg : UnR X (unaryOp .USub) (rU fun i => .int (-i)) := unI fun _ _ _ _ _ q => neg_int q
end
def scal : V → V → Bool
  | .non, .non => true | .non, .int _ => true | .int _, .non => true | .non, .bl _ => true | .bl _, .non => true | .non, .str _ => true | .str _, .non => true
  | .int _, .int _ => true | .bl _, .bl _ => true | .str _, .str _ => true | .byt _, .byt _ => true
  | .int _, .str _ => true | .str _, .int _ => true | .bl _, .str _ => true | .str _, .bl _ => true
  | _, _ => false
def rEq : R2 := fun x y H Q => scal x y = true ∧ Q (.bl (decide (x = y))) H
def rNe : R2 := fun x y H Q => scal x y = true ∧ Q (.bl (!decide (x = y))) H
theorem dec_int {i j : Int} : decide (V.int i = V.int j) = (i == j) := by
  rw [Bool.eq_iff_iff]
  simp
theorem dec_bl {i j : Bool} : decide (V.bl i = V.bl j) = (i == j) := by
  rw [Bool.eq_iff_iff]
  simp
theorem dec_str {i j : Str} : decide (V.str i = V.str j) = (i == j) := by
  rw [Bool.eq_iff_iff]
  simp
theorem dec_byt {i j : Array UInt8} : decide (V.byt i = V.byt j) = (i.toList == j.toList) := by
  rw [Bool.eq_iff_iff]
  cases i
  cases j
  simp
section
variable {X : Cx} {a b c : Expr} {ta tb tc : TE} {pos : Pos}
theorem fin_bl {pins : List (Addr × Obj)} {σ : St} {H : Hp} {s : Shared} {Q : VK} {k k' : Bool} (I : Inv X pins σ H s) (q : Q (.bl k) H) (e : k = k') : EP X pins σ Q (.bool k') s := by
  subst e
  exact ⟨.bl k, H, I, rfl, q⟩
theorem op_eq : OpR X (compareOp .Eq) rEq := by
  intro pins s σ H x y v u Q I rx ry h
  obtain ⟨hs, q⟩ := h
  cases x with
  | non =>
    cases rx
    cases y with
    | non => cases ry; exact PySem.EqNone.eq_none_none (fin_bl I q (by simp))
    | bl j => cases ry; exact PySem.EqNone.eq_none_bool (fin_bl I q (by simp))
    | int j => obtain ⟨t', rfl⟩ := ry; exact PySem.EqNone.eq_none_int (fin_bl I q (by simp))
    | str j => obtain ⟨t', rfl⟩ := ry; exact PySem.EqNone.eq_none_str (fin_bl I q (by simp))
    | _ => exact absurd (show false = true from hs) Bool.false_ne_true
  | bl i =>
    cases rx
    cases y with
    | non => cases ry; exact PySem.EqNone.eq_bool_none (fin_bl I q (by simp))
    | bl j => cases ry; exact eq_bool (fin_bl I q dec_bl)
    | str j => obtain ⟨t', rfl⟩ := ry; exact PySem.EqMixed.eq_bool_str (fin_bl I q (by simp))
    | _ => exact absurd (show false = true from hs) Bool.false_ne_true
  | int i =>
    obtain ⟨t, rfl⟩ := rx
    cases y with
    | non => cases ry; exact PySem.EqNone.eq_int_none (fin_bl I q (by simp))
    | int j => obtain ⟨t', rfl⟩ := ry; exact eq_int (fin_bl I q dec_int)
    | str j => obtain ⟨t', rfl⟩ := ry; exact PySem.EqMixed.eq_int_str (fin_bl I q (by simp))
    | _ => exact absurd (show false = true from hs) Bool.false_ne_true
  | str i =>
    obtain ⟨t, rfl⟩ := rx
    cases y with
    | non => cases ry; exact PySem.EqNone.eq_str_none (fin_bl I q (by simp))
    | bl j => cases ry; exact PySem.EqMixed.eq_str_bool (fin_bl I q (by simp))
    | int j => obtain ⟨t', rfl⟩ := ry; exact PySem.EqMixed.eq_str_int (fin_bl I q (by simp))
    | str j => obtain ⟨t', rfl⟩ := ry; exact eq_str (fin_bl I q dec_str)
    | _ => exact absurd (show false = true from hs) Bool.false_ne_true
  | byt i =>
    obtain ⟨t, rfl⟩ := rx
    cases y with
    | byt j => obtain ⟨t', rfl⟩ := ry; exact PySem.W.eq_bytes (fin_bl I q dec_byt)
    | _ => exact absurd (show false = true from hs) Bool.false_ne_true
  | _ => cases y <;> exact absurd (show false = true from hs) Bool.false_ne_true
theorem op_ne : OpR X (compareOp .NotEq) rNe := by
  intro pins s σ H x y v u Q I rx ry h
  obtain ⟨hs, q⟩ := h
  cases x with
  | non =>
    cases rx
    cases y with
    | non => cases ry; exact PySem.EqNone.ne_none_none (fin_bl I q (by simp))
    | bl j => cases ry; exact PySem.EqNone.ne_none_bool (fin_bl I q (by simp))
    | int j => obtain ⟨t', rfl⟩ := ry; exact PySem.EqNone.ne_none_int (fin_bl I q (by simp))
    | str j => obtain ⟨t', rfl⟩ := ry; exact PySem.EqNone.ne_none_str (fin_bl I q (by simp))
    | _ => exact absurd (show false = true from hs) Bool.false_ne_true
  | bl i =>
    cases rx
    cases y with
    | non => cases ry; exact PySem.EqNone.ne_bool_none (fin_bl I q (by simp))
    | bl j => cases ry; exact ne_bool (fin_bl I q (congrArg not dec_bl))
    | str j => obtain ⟨t', rfl⟩ := ry; exact PySem.EqMixed.ne_bool_str (fin_bl I q (by simp))
    | _ => exact absurd (show false = true from hs) Bool.false_ne_true
  | int i =>
    obtain ⟨t, rfl⟩ := rx
    cases y with
    | non => cases ry; exact PySem.EqNone.ne_int_none (fin_bl I q (by simp))
    | int j => obtain ⟨t', rfl⟩ := ry; exact ne_int (fin_bl I q (congrArg not dec_int))
    | str j => obtain ⟨t', rfl⟩ := ry; exact PySem.EqMixed.ne_int_str (fin_bl I q (by simp))
    | _ => exact absurd (show false = true from hs) Bool.false_ne_true
  | str i =>
    obtain ⟨t, rfl⟩ := rx
    cases y with
    | non => cases ry; exact PySem.EqNone.ne_str_none (fin_bl I q (by simp))
    | bl j => cases ry; exact PySem.EqMixed.ne_str_bool (fin_bl I q (by simp))
    | int j => obtain ⟨t', rfl⟩ := ry; exact PySem.EqMixed.ne_str_int (fin_bl I q (by simp))
    | str j => obtain ⟨t', rfl⟩ := ry; exact ne_str (fin_bl I q (congrArg not dec_str))
    | _ => exact absurd (show false = true from hs) Bool.false_ne_true
  | byt i =>
    obtain ⟨t, rfl⟩ := rx
    cases y with
    | byt j => obtain ⟨t', rfl⟩ := ry; exact PySem.W.ne_bytes (fin_bl I q (congrArg not dec_byt))
    | _ => exact absurd (show false = true from hs) Bool.false_ne_true
  | _ => cases y <;> exact absurd (show false = true from hs) Bool.false_ne_true
theorem op_lt : OpR X (compareOp .Lt) (rI0 fun i j => .bl (decide (i < j))) := opB0 fun _ _ _ _ _ _ _ q => lt_int q
theorem op_gt : OpR X (compareOp .Gt) (rI0 fun i j => .bl (decide (j < i))) := opB0 fun _ _ _ _ _ _ _ q => gt_int q
theorem op_ge : OpR X (compareOp .GtE) (rI0 fun i j => .bl (decide (j ≤ i))) := opB0 fun _ _ _ _ _ _ _ q => ge_int q
theorem op_isN : OpR X (compareOp .Is) (fun x y H Q => y = .non ∧ Q (.bl (decide (x = .non))) H) := by
  intro pins s σ H x y v u Q I rx ry h
  obtain ⟨rfl, q⟩ := h
  cases ry
  refine is_none_gen (fin_bl I q ?_)
  cases x <;> first
    | (cases rx; rfl)
    | (obtain ⟨t, rfl⟩ := rx; rfl)
theorem nomark (b : Expr) {op : CmpOp} (h : op ≠ .In := by decide) (h2 : op ≠ .NotIn := by decide) : behindInMarks op b = false := by
  have e1 : (op == CmpOp.In) = false := by cases op <;> first | rfl | exact absurd rfl h
  have e2 : (op == CmpOp.NotIn) = false := by cases op <;> first | rfl | exact absurd rfl h2
  cases b <;> simp [behindInMarks, e1, e2]
theorem pe_cmpR {op : CmpOp} {r : R2} (ho : OpR X (compareOp op) r) (ha : PE X a ta) (hb : PE X b tb) (hm : behindInMarks op b = false) : PE X (.Compare a [op] [b] pos) (tOp r ta tb) := by
  intro pins s σ H Q I h
  exact wpAny_Compare1 (binT ha hb I h fun v u s2 x y H2 I2 rx ry q => ho pins s2 σ H2 x y v u Q I2 rx ry q) hm
def tTest (t : TE) : TT := fun σ H Q => t σ H fun x H' => ∃ k, x = .bl k ∧ Q k H'
theorem pt_cmpR {op : CmpOp} {r : R2} (ho : OpR X (compareOp op) r) (ha : PE X a ta) (hb : PE X b tb) (hm : behindInMarks op b = false) : PT X (.Compare a [op] [b] pos) (tTest (tOp r ta tb)) := by
  intro pins s σ H Q I h
  refine wpAny_isTrue_Compare1 (thn (ha pins s σ H _ I h) fun v s1 ⟨x, H1, I1, r1, q1⟩ => thn (hb pins s1 σ H1 _ I1 q1) fun u s2 ⟨y, H2, I2, r2, q2⟩ =>
    thn (ho pins s2 σ H2 x y v u _ I2 r1 r2 q2) fun c s3 ⟨z, H3, I3, r3, k, e, q3⟩ => ?_) hm
  subst e
  cases r3
  exact wpAny_truthy_bool ⟨H3, I3, q3⟩
theorem line63 : (sizeLine : Nat) < 2 ^ 63 := by rw [sizeLine_eq]; decide
theorem op_add_str : OpR X (binaryOp .Add) (fun x y H Q => ∃ i j, x = .str i ∧ y = .str j ∧ i.length + j.length ≤ sizeLine ∧ Q (.str (i ++ j)) H) := by
  intro pins s σ H x y v u Q I rx ry h
  obtain ⟨i, j, rfl, rfl, hz, q⟩ := h
  obtain ⟨t, rfl⟩ := rx
  obtain ⟨t', rfl⟩ := ry
  exact add_str (fun t' tk => ⟨.str (i ++ j), H, I.tok _, ⟨_, rfl⟩, q⟩) hz
theorem vals1 {x : V} {us : List Value} (r : Vals [x] us) : ∃ u, us = [u] ∧ RelV x u := by
  cases r with
  | cons r1 r2 => cases r2; exact ⟨_, rfl, r1⟩
theorem vals2 {x y : V} {us : List Value} (r : Vals [x, y] us) : ∃ u w', us = [u, w'] ∧ RelV x u ∧ RelV y w' := by
  cases r with
  | cons r1 r2 =>
    cases r2 with
    | cons r3 r4 => cases r4; exact ⟨_, _, rfl, r1, r3⟩
theorem call_max2 (hc : X.calm = true) : CallR X (.builtin "max") (fun xs H Q => ∃ i j, xs = [.int i, .int j] ∧ Q (.int (if j > i then j else i)) H) := by
  intro pins s σ H xs us Q I r h
  obtain ⟨i, j, rfl, q⟩ := h
  obtain ⟨u, w', rfl, ⟨t, rfl⟩, ⟨t', rfl⟩⟩ := vals2 r
  refine max_two_ints (I.ok.hd hc) fun h' tk k => ⟨_, H, I.kept k, ?_, q⟩
  by_cases hj : j > i
  · rw [if_pos hj, if_pos hj]; exact ⟨_, rfl⟩
  · rw [if_neg hj, if_neg hj]; exact ⟨_, rfl⟩
theorem call_int1 : CallR X (.type "int") (fun xs H Q => (∃ i, xs = [.int i] ∧ Q (.int i) H) ∨ ∃ k, xs = [.bl k] ∧ Q (.int (if k then 1 else 0)) H) := by
  intro pins s σ H xs us Q I r h
  rcases h with ⟨i, rfl, q⟩ | ⟨k, rfl, q⟩
  · obtain ⟨u, rfl, t, rfl⟩ := vals1 r
    exact call_int_int ⟨.int i, H, I, ⟨_, rfl⟩, q⟩
  · obtain ⟨u, rfl, r1⟩ := vals1 r
    cases r1
    exact call_int_bool ⟨.int (if k then 1 else 0), H, I.tok _, ⟨_, rfl⟩, q⟩
theorem call_str_int : CallR X (.type "str") (fun xs H Q => ∃ i, xs = [.int i] ∧ i.natAbs.log2 < 1920 ∧ Q (.str (toString i)) H) := by
  intro pins s σ H xs us Q I r h
  obtain ⟨i, rfl, hz, q⟩ := h
  obtain ⟨u, rfl, t, rfl⟩ := vals1 r
  exact PySem.P.str_of_int hz ⟨.str _, H, I.tok _, ⟨_, rfl⟩, q⟩
end
end L2
namespace L2
open PySem PySem.Spec PyProof.Rows
section
variable {prog : Program} {w : World} {A : Around} {E : Value → Shared → Prop} {s : Shared} {K : PySem.W.Frag} {x dx C f : Addr} {mA : Str → Option Value} {name : Str} {v : Value}
end
theorem RelO.some_of {v : V} {o : Option Value} (r : RelO (some v) o) : ∃ u, o = some u ∧ RelV v u := by
  cases o with
  | none => exact (show False from r).elim
  | some u => exact ⟨u, rfl, r⟩
section
variable {P : Program} {w : World} {H H' : Hp} {h h' : Heap} {a C dx : Addr} {fs fs' : List (Str × V)}
end
section
variable {X : Cx} {pins : List (Addr × Obj)} {σ : St} {H : Hp} {s : Shared} {a C dx : Addr} {fs : List (Str × V)} {f : Str} {v : V} {A : Around} {E : Value → Shared → Prop}
end
section
variable {X : Cx} {o e value : Expr} {f : Str} {pos pos' tpos : Pos} {ta tv : TE}
end
section
variable {X : Cx} {pins : List (Addr × Obj)} {σ : St} {H : Hp} {s : Shared} {A : Around} {E : Value → Shared → Prop} {Q : Value → Shared → Prop} {c : Value} {b : Bool}
end
end L2
namespace L2
open PySem PySem.Spec PyProof.Rows
structure Room (k : Nat) (A : Around) : Prop where
  hd : A.handled = none
  dp : A.depth + 3 * k + 5 < recursionLimit
  un : A.units + 16 * k + 200 < cLine
  gd : A.guards = some []
theorem Room.mono {j k : Nat} {A : Around} (r : Room k A) (h : j ≤ k) : Room j A := ⟨r.hd, by have := r.dp; lia, by have := r.un; lia, r.gd⟩
theorem Room.deeper {k : Nat} {A : Around} (r : Room (k + 1) A) (env : Env) : Room k (A.deeper env) :=
  ⟨r.hd, by have := r.dp; show A.depth + 1 + 3 * k + 5 < _; lia, by have := r.un; show A.units + 3 + 16 * k + 200 < _; lia, r.gd⟩
theorem Room.depth {k : Nat} {A : Around} (r : Room k A) : A.depth < recursionLimit := by have := r.dp; lia
theorem Room.units {k : Nat} {A : Around} (r : Room k A) : A.units + 64 < cLine := by have := r.un; lia
def tNil : TA := fun _ H Q => Q [] H
def tCons (ta : TE) (tr : TA) : TA := fun σ H Q => ta σ H fun x H1 => tr σ H1 fun xs H2 => Q (x :: xs) H2
section
variable {X : Cx} {e : Expr} {es : List Expr} {te : TE} {t : TA} {pos : Pos}
theorem pa_nil : PA X [] tNil := fun _ _ _ _ H Q I h => Calls.spliced_nil ⟨[], H, I, .nil, h⟩
theorem pa_cons (ha : PE X e te) (hr : PA X es t) (hs : starEach (e :: es) X.env = (false, eval e X.env) :: starEach es X.env := by rfl) : PA X (e :: es) (tCons te t) := by
  intro pos pins s σ H Q I h
  rw [hs]
  show wpAny _ _ (spliced ((false, eval e X.env) :: backTo pos (starEach es X.env))) _ _ s
  refine Calls.spliced_cons (thn (ha pins s σ H _ I h) fun u s1 ⟨x, H1, I1, r1, q1⟩ => ?_)
  exact thn (hr pos pins s1 σ H1 _ I1 q1) fun us s2 ⟨xs, H2, I2, r2, q2⟩ => ⟨x :: xs, H2, I2, .cons r1 r2, q2⟩
def tTup (t : TA) : TE := fun σ H Q => t σ H fun xs H1 => xs.length ≤ sizeLine ∧ ∀ p, H1 p = none → Q (.ref p) (upd H1 p (.tup xs))
def tLst (t : TA) : TE := fun σ H Q => t σ H fun xs H1 => xs.length ≤ sizeLine ∧ ∀ p, H1 p = none → Q (.ref p) (upd H1 p (.lst xs))
theorem pe_tup {x1} (h : PA X es t) : PE X (.Tuple es x1 pos) (tTup t) := by
  intro pins s σ H Q I hq
  refine wpAny_Tuple_spliced (thn (h pos pins s σ H _ I hq) fun us s1 ⟨xs, H1, I1, r, z, q⟩ => ⟨by rw [← r.length]; exact z, ?_⟩)
  have hf : H1 s1.heap.objs.size = none := I1.hok.fresh (Nat.le_refl _)
  refine ⟨.ref s1.heap.objs.size, upd H1 s1.heap.objs.size (.tup xs), I1.laid (t' := s1.toks) (fun b u e => Heap.get?_push_of_some _ e) (Nat.le_refl _) ?_, rfl, q _ hf⟩
  exact ⟨z, us, r, ⟨_, Heap.get?_push_size _ rfl, rfl, _, rfl⟩⟩
theorem pe_lst (h : PA X es t) : PE X (.List es pos) (tLst t) := by
  intro pins s σ H Q I hq
  refine wpAny_List_spliced (thn (h pos pins s σ H _ I hq) fun us s1 ⟨xs, H1, I1, r, z, q⟩ => ⟨by rw [← r.length]; exact z, ?_⟩)
  have hf : H1 s1.heap.objs.size = none := I1.hok.fresh (Nat.le_refl _)
  refine ⟨.ref s1.heap.objs.size, upd H1 s1.heap.objs.size (.lst xs), I1.laid (t' := s1.toks) (fun b u e => Heap.get?_push_of_some _ e) (Nat.le_refl _) ?_, rfl, q _ hf⟩
  exact ⟨z, us, 0, r, Heap.get?_push_size _ rfl⟩
end
abbrev Sp := List V → Hp → VK → XK → Prop
abbrev CXT := List Env → Hp → Shared → XK → Value → Shared → Prop
structure Env0 (P : Program) (w : World) (K : PySem.W.Frag) (mg : Str → Option Value) (base : Heap) (A : Around) (outer : List Env) (s : Shared) (H : Hp) : Prop where
  frames : A.frames = some outer
  mod : Mod K mg base
  bs : ∀ b o, base.get? b = some o → s.heap.get? b = some o ∧ H b = none
  bsz : base.objs.size ≤ s.heap.objs.size
  funs : s.heap.FunFrames base outer
  frf : ∀ b ∈ frs outer, H b = none
  hok : HOk P w H s.heap
  bare : AllBare s.gens
def CE (outer : List Env) (P : Program) (w : World) (H : Hp) (s : Shared) (Q : VK) (u : Value) (s' : Shared) : Prop :=
  ∃ v H', s'.os = s.os ∧ AllBare s'.gens ∧ Un (frs outer) [] H H' s.heap s'.heap ∧ HOk P w H' s'.heap ∧ RelV v u ∧ Q v H'
def CR (CX : CXT) (outer : List Env) (P : Program) (w : World) (H : Hp) (s : Shared) (Q : VK) (E : XK) (r : Result) (s' : Shared) : Prop :=
  match r with
  | .ok (.ret u) => CE outer P w H s Q u s'
  | .ok _ => False
  | .error e => CX outer H s E e s'
structure FnOk (P : Program) (w : World) (K : PySem.W.Frag) (mg : Str → Option Value) (base : Heap) (CX : CXT) (k : Nat) (f : Addr) (fd : FuncData) (ps : List Str) (sp : Sp) : Prop where
  len : ∀ vs H Q E, sp vs H Q E → vs.length = ps.length
  run : ∀ (A : Around) (outer : List Env) (s : Shared) (H : Hp) (args : Args) (us : List Value) (vs : List V) (Q : VK) (E : XK), Room k A → Env0 P w K mg base A outer s H → BindsTo s fd args (ps.zip us) → Vals vs us → sp vs H Q E →
    codeAny (model P w) A (.call (.ref f) args) (CR CX outer P w H s Q E) s
section
variable {X : Cx} {pins : List (Addr × Obj)} {σ : St} {H : Hp} {s s' : Shared}
theorem Inv.env0 (I : Inv X pins σ H s) : Env0 X.prog X.w X.K X.mg X.base X.A X.stack s H :=
  ⟨I.ok.frames, I.ok.mod, I.bs, Nat.le_trans I.ok.bsz I.sz, I.stack, I.stkFree, I.hok, I.bare⟩
theorem Inv.after {Q : VK} {u : Value} (I : Inv X pins σ H s) (h : CE X.stack X.prog X.w H s Q u s') : EP X pins σ Q u s' := by
  obtain ⟨v, H', os, bare, un, hok, r, q⟩ := h
  obtain ⟨hh, g, d, t, os'⟩ := s'
  obtain rfl : os' = s.os := os
  exact ⟨v, H', I.call (h' := hh) (g' := g) (d' := d) (t' := t) (ch := []) un hok bare (fun b z => absurd z (by simp)), r, q⟩
end
def tCall (sp : Sp) (dvs : List V) (E : XK) (t : TA) : TE := fun σ H Q => t σ H fun vs H1 => sp (vs ++ dvs) H1 Q E
def Binds (K : PySem.W.Frag) (fd : FuncData) (ps : List Str) (ds : List Value) : Prop :=
  ∀ (s : Shared) (us : List Value), K.In s.heap → (us ++ ds).length = ps.length → BindsTo s fd ⟨us, []⟩ (ps.zip (us ++ ds))
theorem Binds.all {K : PySem.W.Frag} {fd : FuncData} {ps : List Str} (h : ∀ us : List Value, us.length = ps.length → bindArgs fd ⟨us, []⟩ = pure (ps.zip us)) : Binds K fd ps [] := fun s us _ hl => by
  rw [List.append_nil] at hl ⊢
  exact .of_eq (h us hl)
def Passes (CX : CXT) (X : Cx) (E : XK) : Prop := ∀ (pins : List (Addr × Obj)) (σ : St) (H : Hp) (s : Shared) (e : Value) (s' : Shared), Inv X pins σ H s → CX X.stack H s E e s' → X.xe e s'
section
variable {X : Cx} {CX : CXT} {k : Nat} {f C : Addr} {fd : FuncData} {ps : List Str} {sp : Sp} {dvs : List V} {ds : List Value} {E : XK} {x m : Str} {p pos apos : Pos} {e o : Expr} {es : List Expr} {ta : TE} {t : TA}
theorem run_fn {pins : List (Addr × Obj)} {σ : St} {H : Hp} {s : Shared} {Q : VK} {us : List Value} {vs : List V} (F : FnOk X.prog X.w X.K X.mg X.base CX k f fd ps sp) (hr : Room k X.A) (hb : Binds X.K fd ps ds) (hd : Vals dvs ds) (hx : Passes CX X E)
    (I : Inv X pins σ H s) (r : Vals vs us) (h : sp (vs ++ dvs) H Q E) : wpAny (model X.prog X.w) X.A (call (.ref f) us) (EP X pins σ Q) X.xe s := by
  have r2 : Vals (vs ++ dvs) (us ++ ds) := r.append hd
  have hl : (us ++ ds).length = ps.length := by rw [← r2.length]; exact F.len _ _ _ _ h
  refine wpAny_call (codeAny_mono (F.run X.A X.stack s H ⟨us, []⟩ (us ++ ds) (vs ++ dvs) Q E hr I.env0 (hb s us I.kIn hl) r2 h) fun r s' hq => ?_)
  cases r with
  | error e => exact hx pins σ H s e s' I hq
  | ok fl =>
    cases fl with
    | ret u => exact I.after hq
    | next => exact False.elim hq
    | brk => exact False.elim hq
    | cont => exact False.elim hq
theorem pe_call (F : FnOk X.prog X.w X.K X.mg X.base CX k f fd ps sp) (hr : Room k X.A) (hg : Gl X x) (hm : X.mg x = some (.ref f)) (hk : PySem.W.keepIn X.K (.ref f) = true) (hb : Binds X.K fd ps ds) (hd : Vals dvs ds) (hx : Passes CX X E)
    (ha : PA X (e :: es) t) (hdb : (x == ("__debug__" : Str)) = false := by decide) (he : starEach (e :: es) X.env = (false, eval e X.env) :: starEach es X.env := by rfl) (hpl : (backTo pos (starEach es X.env)).any (·.1) = false := by rfl) :
    PE X (.Call (.Name x p) (e :: es) [] pos) (tCall sp dvs E t) := by
  intro pins s σ H Q I h
  refine wpAny_Call_Name_kw (ld_glob I hg hm ?_ hdb)
  refine PySem.W.callWith_K (h₀ := X.base) I.ok.mod.kin hk (thn (ha pos pins s σ H _ I h) fun us s1 ⟨vs, H1, I1, r, q⟩ => ⟨I1.kIn, ?_⟩) he hpl
  exact run_fn F hr hb hd hx I1 r q
end
section
variable {X : Cx} {CX : CXT} {k : Nat} {f C : Addr} {fd : FuncData} {ps ks : List Str} {sp : Sp} {E : XK} {x m : Str} {p pos apos kpos : Pos} {e o : Expr} {es : List Expr} {kws : List Keyword} {te ta : TE} {t tk : TA} {nm : Option Str}
variable {g : List Value → List Value → List Value} {gV : List V → List V → List V}
end
structure FnScope (N P : List Str) (sc : Scope) : Prop where
  kind : sc.kind = .function
  co : sc.isCoroutine = false
  gen : sc.isGenerator = false
  nd : N.Nodup
  pre : N.take P.length = P
  par : ∀ x ∈ P, sc.names.lookup x = some .local ∨ sc.names.lookup x = some .cell
  nofree : ∀ y ∈ sc.names, y.2 ≠ .free
theorem bindL_out {kindOf : Str → Option NameKind} {x : Str} : ∀ {binds : List (Str × Value)} {m : Str → Option Value}, (∀ v, (x, v) ∉ binds) → bindL kindOf binds m x = m x
  | [], _, _ => rfl
  | (n, v) :: r, m, h => by
    unfold bindL
    rw [bindL_out fun w hw => h w (List.mem_cons_of_mem _ hw)]
    split
    · have : x ≠ n := by rintro rfl; exact h v List.mem_cons_self
      simp [this]
    · rfl
theorem bindC_out {kindOf : Str → Option NameKind} {x : Str} : ∀ {binds : List (Str × Value)} {m : Str → Option Value}, (∀ v, (x, v) ∉ binds) → bindC kindOf binds m x = m x
  | [], _, _ => rfl
  | (n, v) :: r, m, h => by
    unfold bindC
    rw [bindC_out fun w hw => h w (List.mem_cons_of_mem _ hw)]
    split
    · rfl
    · have : x ≠ n := by rintro rfl; exact h v List.mem_cons_self
      simp [this]
theorem bindL_get {kindOf : Str → Option NameKind} {x : Str} {v : Value} : ∀ {P : List Str} {vs : List Value} {i : Nat} {m : Str → Option Value}, P.Nodup → P[i]? = some x → vs[i]? = some v → kindOf x = some .local →
    bindL kindOf (P.zip vs) m x = some v
  | [], _, _, _, _, h, _, _ => by simp at h
  | _ :: _, [], _, _, _, _, h, _ => by simp at h
  | p :: P, w :: vs, 0, m, nd, h1, h2, hk => by
    simp at h1 h2; subst h1; subst h2
    show bindL kindOf ((p, w) :: P.zip vs) m p = _
    unfold bindL
    rw [bindL_out fun v hv => (List.nodup_cons.mp nd).1 (List.of_mem_zip hv).1, if_pos hk]
    simp
  | p :: P, w :: vs, i + 1, m, nd, h1, h2, hk => by
    show bindL kindOf ((p, w) :: P.zip vs) m x = _
    unfold bindL
    exact bindL_get (i := i) (List.nodup_cons.mp nd).2 (by simpa using h1) (by simpa using h2) hk
theorem bindC_get {kindOf : Str → Option NameKind} {x : Str} {v : Value} : ∀ {P : List Str} {vs : List Value} {i : Nat} {m : Str → Option Value}, P.Nodup → P[i]? = some x → vs[i]? = some v → kindOf x ≠ some .local →
    bindC kindOf (P.zip vs) m x = some v
  | [], _, _, _, _, h, _, _ => by simp at h
  | _ :: _, [], _, _, _, _, h, _ => by simp at h
  | p :: P, w :: vs, 0, m, nd, h1, h2, hk => by
    simp at h1 h2; subst h1; subst h2
    show bindC kindOf ((p, w) :: P.zip vs) m p = _
    unfold bindC
    rw [bindC_out fun v hv => (List.nodup_cons.mp nd).1 (List.of_mem_zip hv).1, if_neg hk]
    simp
  | p :: P, w :: vs, i + 1, m, nd, h1, h2, hk => by
    show bindC kindOf ((p, w) :: P.zip vs) m x = _
    unfold bindC
    exact bindC_get (i := i) (List.nodup_cons.mp nd).2 (by simpa using h1) (by simpa using h2) hk
def start (N : List Str) (vs : List V) : St := vs.map some ++ List.replicate (N.length - vs.length) none
def cxOf (CX : CXT) (P : Program) (w : World) (K : PySem.W.Frag) (mg : Str → Option Value) (base : Heap) (N : List Str) (qual : Str) (scope : Scope) (f : Addr) (cd : Value) (A : Around) (outer : List Env) (s : Shared) (H : Hp) (E : XK) : Cx where
  prog := P
  w := w
  K := K
  mg := mg
  base := base
  A := A.deeper (envOfC qual scope s.heap.objs.size f cd)
  N := N
  s₀ := s
  H₀ := H
  env := envOfC qual scope s.heap.objs.size f cd
  outer := outer
  stack := envOfC qual scope s.heap.objs.size f cd :: outer
  ex := []
  calm := true
  fn := fun _ => true
  pn := []
  xe := fun e s' => wpAny (model P w) (A.deeper (envOfC qual scope s.heap.objs.size f cd)) (leaving (envOfC qual scope s.heap.objs.size f cd) e) (fun _ s'' => CX outer H s E e s'') (fun e' s'' => CX outer H s E e' s'') s'
theorem cell_has {sc : Scope} {n : Nat} {x : Str} (h : sc.names.lookup x = some .cell) : ∃ c, (cellsFrom n sc.names []).lookup x = some c := by
  have q := PySem.W.cellsFrom_some sc.names n [] (.inl h)
  exact Option.isSome_iff_exists.mp q
theorem inv_start {CX : CXT} {P : Program} {w : World} {K : PySem.W.Frag} {mg : Str → Option Value} {base : Heap} {N ps : List Str} {qual : Str} {scope : Scope} {f : Addr} {cd : Value} {A : Around} {outer : List Env} {s s1 : Shared} {H : Hp} {E : XK} {us : List Value} {vs : List V}
    (S : FnScope N ps scope) (hd : A.handled = none) (e0 : Env0 P w K mg base A outer s H) (hl : vs.length = ps.length) (r : Vals vs us)
    (x : InCallC s s.heap.objs.size (bindL (envOfC qual scope s.heap.objs.size f cd).kindOf (ps.zip us) fun _ => none) (cellsFrom (s.heap.objs.size + 1) scope.names []) (bindC (envOfC qual scope s.heap.objs.size f cd).kindOf (ps.zip us) fun _ => none) s1) :
    Inv (cxOf CX P w K mg base N qual scope f cd A outer s H E) [] (start N vs) H s1 := by
  have hpl : ps.length ≤ N.length := by have := congrArg List.length S.pre; rw [List.length_take] at this; lia
  obtain ⟨h1, tk, rfl, hk⟩ := x.done
  have noA : ∀ b : Addr, b ∉ (cxOf CX P w K mg base N qual scope f cd A outer s H E).ex := fun b z => absurd (show b ∈ ([] : List Addr) from z) (by simp)
  refine ⟨⟨e0.mod, S.kind, rfl, rfl, Nat.le_refl _, fun y z c h1 h2 => ?_, fun y hy => ?_, fun y c _ h => ?_, fun _ => hd, Around.frames_deeper e0.frames, .inr ⟨rfl, rfl⟩, fun b z => absurd z (noA b), e0.bs, e0.bsz, fun b _ _ => noA b, fun b z => absurd z (noA b), e0.funs, e0.frf⟩,
    rfl, e0.bare, Un.kept hk, ⟨_, x.toInCall.ns, fun i y v h1 h2 h3 => ?_⟩, fun y c h => ⟨_, x.cell y c h⟩, e0.hok.fresh (Nat.le_refl _), fun y c h => ?_, fun p hp => absurd (show p ∈ ([] : List (Addr × Obj)) from hp) (by simp), e0.hok.kept hk, ?_⟩
  · exact name_of_addr x.apart (PySem.mem_of_lookup h1) (PySem.mem_of_lookup h2)
  · have hy : scope.names.lookup y = some .cell ∨ scope.names.lookup y = some .free := hy
    rcases hy with hy | hy
    · exact cell_has hy
    · exact absurd rfl (S.nofree _ (PySem.mem_of_lookup hy))
  · exact Nat.le_of_lt (x.above y c (PySem.mem_of_lookup h))
  · have hi : i < vs.length := by
      unfold start at h2
      by_cases hi : i < vs.length
      · exact hi
      · rw [List.getElem?_append_right (by simpa using hi)] at h2
        rw [List.getElem?_replicate] at h2
        split at h2 <;> cases h2
    have ha : vs[i]? = some v := by
      unfold start at h2
      rw [List.getElem?_append_left (by simpa using hi), List.getElem?_map] at h2
      cases e : vs[i]? with
      | none => rw [e] at h2; cases h2
      | some a => rw [e] at h2; cases h2; rfl
    obtain ⟨u, hu, rv⟩ := r.get ha
    have hp : ps[i]? = some y := by
      rw [← S.pre, List.getElem?_take_of_lt (by lia)]; exact h1
    have ndP : ps.Nodup := by rw [← S.pre]; exact S.nd.sublist (List.take_sublist _ _)
    refine ⟨u, rv, ?_⟩
    rcases S.par y (List.mem_of_getElem? hp) with k | k
    · exact .inl ⟨k, bindL_get ndP hp hu k⟩
    · obtain ⟨c, e⟩ := cell_has (n := s.heap.objs.size + 1) k
      refine .inr ⟨.inl k, c, e, ?_⟩
      have q := x.cell y c e
      rw [bindC_get ndP hp hu (by show scope.names.lookup y ≠ _; rw [k]; decide)] at q
      exact q
  · exact e0.hok.fresh (Nat.le_of_lt (x.above y c (PySem.mem_of_lookup h)))
  · unfold start
    show _ = N.length
    rw [List.length_append, List.length_map, List.length_replicate]
    lia
theorem fn_of {CX : CXT} {P : Program} {w : World} {K : PySem.W.Frag} {mg : Str → Option Value} {base : Heap} {k : Nat} {f : Addr} {name qual : Str} {params : Arguments} {body : List Stmt} {scope : Scope} {dV kV doc pm cdv ct oc : Value} {an od : Option Addr}
    {osl : Array (Option Value)} {N ps : List Str} {sp : Sp} (lk : K.lookup f = some ⟨oc, od, .func (PySem.W.fnOf name qual params body scope dV kV doc pm an cdv ct), osl⟩) (hcd : PySem.W.codeIn K cdv qual = true) (S : FnScope N ps scope)
    (len : ∀ vs H Q E, sp vs H Q E → vs.length = ps.length)
    (hbody : ∀ (A : Around) (outer : List Env) (s : Shared) (H : Hp) (vs : List V) (Q : VK) (E : XK), Room k (A.deeper (envOfC qual scope s.heap.objs.size f cdv)) → sp vs H Q E →
      ∃ t, PSs (cxOf CX P w K mg base N qual scope f cdv A outer s H E) body t ∧ t { nx := fun _ H' => Q .non H', rt := Q } (start N vs) H) :
    FnOk P w K mg base CX (k + 1) f (PySem.W.fnOf name qual params body scope dV kV doc pm an cdv ct) ps sp := by
  refine ⟨len, fun A outer s H args us vs Q E hr e0 hb r hsp => ?_⟩
  have hl := len _ _ _ _ hsp
  have KX : K.In s.heap := e0.mod.kin.keeps fun b o e => (e0.bs b o e).1
  have lim : s.heap.NoLimit := e0.mod.nolimit.keeps fun b o e => (e0.bs b o e).1
  have hkind : ∀ y ∈ ps.zip us, scope.names.lookup y.1 = some .local ∨ (scope.names.lookup y.1 = some .cell ∧ ((cellsFrom (s.heap.objs.size + 1) scope.names []).lookup y.1).isSome = true) := fun ⟨n, v⟩ hy => by
    rcases S.par n (List.of_mem_zip hy).1 with q | q
    · exact .inl q
    · exact .inr ⟨q, PySem.W.cellsFrom_some _ _ _ (.inl q)⟩
  refine codeAny_call_function hr.depth (KX _ _ lk) rfl S.co S.gen rfl (PySem.W.codeRec_of KX hcd) (hb _ _ _ _ ?_)
  refine wpAny_newFunctionEnv_cells S.kind hkind fun env he s1 x => ?_
  subst he
  refine ⟨lim.keeps x.toInCall.keep, codeAny_func ?_⟩
  obtain ⟨t, ht, hq⟩ := hbody A outer s H vs Q E (hr.deeper _) hsp
  have I : Inv (cxOf CX P w K mg base N qual scope f cdv A outer s H E) [] (start N vs) H s1 := inv_start S hr.hd e0 hl r x
  refine wpAny_mono (ht [] s1 (start N vs) H _ I hq) (fun fl s' hs => ?_) fun e s' hs => hs
  have fin : ∀ {σ' : St} {H' : Hp} {v : V} {u : Value}, Inv (cxOf CX P w K mg base N qual scope f cdv A outer s H E) [] σ' H' s' → RelV v u → Q v H' → CE outer P w H s Q u s' :=
    fun {σ' H' v u} J rv q => ⟨v, H', J.os, J.bare, J.base, J.hok, rv, q⟩
  cases fl with
  | ret u =>
    obtain ⟨v, σ', H', J, rv, q⟩ := hs
    exact fin J rv q
  | next =>
    obtain ⟨σ', H', J, q⟩ := hs
    exact fin (v := V.non) (u := Value.none) J rfl q
  | brk =>
    obtain ⟨_, _, _, q⟩ := hs
    exact False.elim q
  | cont =>
    obtain ⟨_, _, _, q⟩ := hs
    exact False.elim q
end L2
namespace L2
open PySem PySem.Spec PyProof.Rows
section
variable {X : Cx} {x : Str} {p pos : Pos} {e : Expr} {es : List Expr} {t : TA} {id T : String} {r : List V → Hp → VK → Prop}
def tCB (r : List V → Hp → VK → Prop) (t : TA) : TE := fun σ H Q => t σ H fun vs H1 => r vs H1 Q
theorem pe_callB (hc : CallR X (.builtin id) r) (hg : Gl X x) (hm : X.mg x = none) (hv : bootBuiltins x = some (.builtin id)) (ha : PA X (e :: es) t) (hn : x ≠ "__name__" := by decide) (hdb : (x == ("__debug__" : Str)) = false := by decide)
    (he : starEach (e :: es) X.env = (false, eval e X.env) :: starEach es X.env := by rfl) (hpl : (backTo pos (starEach es X.env)).any (·.1) = false := by rfl) : PE X (.Call (.Name x p) (e :: es) [] pos) (tCB r t) := by
  intro pins s σ H Q I h
  refine wpAny_Call_Name_kw (ld_blt I hg hm hv ?_ hn hdb)
  exact PyProof.Rows.callWith_builtin1 (thn (ha pos pins s σ H _ I h) fun us s1 ⟨vs, H1, I1, r1, q1⟩ => hc pins s1 σ H1 vs us Q I1 r1 q1) he hpl
theorem pe_callTy (hc : CallR X (.type T) r) (hg : Gl X x) (hm : X.mg x = none) (hv : bootBuiltins x = some (.type T)) (ha : PA X (e :: es) t) (hn : x ≠ "__name__" := by decide) (hdb : (x == ("__debug__" : Str)) = false := by decide)
    (he : starEach (e :: es) X.env = (false, eval e X.env) :: starEach es X.env := by rfl) (hpl : (backTo pos (starEach es X.env)).any (·.1) = false := by rfl) : PE X (.Call (.Name x p) (e :: es) [] pos) (tCB r t) := by
  intro pins s σ H Q I h
  refine wpAny_Call_Name_kw (ld_blt I hg hm hv ?_ hn hdb)
  exact PyProof.Rows.callWith_type1 (thn (ha pos pins s σ H _ I h) fun us s1 ⟨vs, H1, I1, r1, q1⟩ => hc pins s1 σ H1 vs us Q I1 r1 q1) he hpl
end
end L2
namespace HT
open PySem PyProof.Rows
def lexLt : List Int → List Int → Bool
  | [], [] => false
  | [], _ :: _ => true
  | _ :: _, [] => false
  | x :: xs, y :: ys => if x = y then lexLt xs ys else decide (x < y)
theorem lexLt_cons (x y : Int) (xs ys : List Int) : lexLt (x :: xs) (y :: ys) = if x = y then lexLt xs ys else decide (x < y) := rfl
theorem lexLt_nil_nil : lexLt [] [] = false := rfl
theorem lexLt_nil_cons (y : Int) (ys : List Int) : lexLt [] (y :: ys) = true := rfl
theorem lexLt_cons_nil (x : Int) (xs : List Int) : lexLt (x :: xs) [] = false := rfl
theorem eqAt_int (A : Around) (s : Shared) (a : Int) (t : Tok) (c : Int) (u : Tok) : ∃ e, SeqAt.EqAt A s (.int a t) (.int c u) e ∧ (e = true ↔ a = c) :=
  ⟨(a == c), SeqAt.EqAt.int_int a t c u, by simp⟩
theorem rcLt_int (A : Around) (s : Shared) (a : Int) (t : Tok) (c : Int) (u : Tok) (prog : Program) (w : World) (E : Value → Shared → Prop) (Q : Value → Shared → Prop) (h : Q (.bool (decide (a < c))) s) :
    wpAny (model prog w) A (richCompare .Lt (.int a t) (.int c u)) Q E s :=
  (PyProof.Rows.lt_int h : wpAny (model prog w) A (compareOp .Lt (.int a t) (.int c u)) Q E s)
section
open PySem.SeqAt
open PySem.AutoSeq1 (wpAny_loadPart')
open PySem.MeetsSeq PySem.MeetsSeq2 PySem.MeetsSeq3
theorem tuple_lt_ints (l b : Addr) (items items2 : Array Value) (n n2 : Nat) (dd dd2 : Option Addr) (sl sl2 : Array (Option Value)) (ns ms : List Int) (hi : IntsAre items.toList ns) (hj : IntsAre items2.toList ms) :
    Meets (Builtin.«tuple.__lt__» ⟨[.ref l, .ref b], []⟩)
      (fun _ R s => s.heap.get? l = some { cls := .type "tuple", dict := dd, data := .seq items n, slots := sl } ∧ s.heap.get? b = some { cls := .type "tuple", dict := dd2, data := .seq items2 n2, slots := sl2 } ∧
        R (.ok (.ret (.bool (lexLt ns ms)))) s) :=
  .of_wp fun prog w A R s h => by
    obtain ⟨hp, g, d, tk, os⟩ := s; obtain ⟨hl, hb, h⟩ := h
    have f2 := AutoSeq1.sub_tuple_tuple
    have z1 : items.size = ns.length := by rw [← hi.length]; simp
    have z2 : items2.size = ms.length := by rw [← hj.length]; simp
    wp_walk using wpAny_loadPart' hl, wpAny_loadPart' hb, wpAny_forIn_list _ (fun rest b s' => b.1 = none ∧ s' = ⟨hp, g, d, tk, os⟩ ∧ ∃ (vs ws : List Value) (ns' ms' : List Int), rest = vs.zip ws ∧
      IntsAre vs ns' ∧ IntsAre ws ms' ∧ ns'.length + items2.size = ms'.length + items.size ∧ R (.ok (.ret (.bool (lexLt ns' ms')))) ⟨hp, g, d, tk, os⟩) _
    case turn =>
      rintro ⟨y, x⟩ rest b s' ⟨hb', rfl, vs, ws, ns', ms', hz, hvi, hwi, hlen, hR⟩
      cases hvi with
      | nil => rw [List.zip_nil_left] at hz; cases hz
      | cons a t hvi' =>
        cases hwi with
        | nil => rw [List.zip_nil_right] at hz; cases hz
        | cons c u hwi' =>
          rw [List.zip_cons_cons] at hz
          injection hz with hyx hrest
          injection hyx with hy hx
          subst hy hx
          rw [lexLt_cons] at hR
          simp only [List.length_cons] at hlen
          obtain ⟨e, he, hiff⟩ := eqAt_int A.in1 ⟨hp, g, d, tk, os⟩ a t c u
          refine wpAny_bind (he prog w _ _ ?_)
          cases e with
          | true =>
            rw [if_pos (hiff.mp rfl)] at hR
            wp_walk
            exact ⟨rfl, rfl, _, _, _, _, hrest, hvi', hwi', by lia, hR⟩
          | false =>
            rw [if_neg (fun q => absurd (hiff.mpr q) Bool.false_ne_true)] at hR
            have hri := rcLt_int A.in1 ⟨hp, g, d, tk, os⟩ a t c u prog w
            wp_walk using hri
            exact ⟨_, rfl, by simpa using hR⟩
    case fin =>
      rintro ⟨b1, b2⟩ s' ⟨hb', rfl, vs, ws, ns', ms', hz, hvi, hwi, hlen, hR⟩
      simp only at hb'
      subst hb'
      have hv : lexLt ns' ms' = decide (items.size < items2.size) := by
        cases hvi with
        | nil =>
          cases hwi with
          | nil =>
            simp only [List.length_nil] at hlen
            rw [lexLt_nil_nil]
            exact (decide_eq_false (by lia)).symm
          | cons c u hw =>
            simp only [List.length_nil, List.length_cons] at hlen
            rw [lexLt_nil_cons]
            exact (decide_eq_true (by lia)).symm
        | cons a t hv =>
          cases hwi with
          | nil =>
            simp only [List.length_nil, List.length_cons] at hlen
            rw [lexLt_cons_nil]
            exact (decide_eq_false (by lia)).symm
          | cons c u hw =>
            rw [List.zip_cons_cons] at hz
            cases hz
      rw [hv] at hR
      wp_walk
      exact ⟨_, rfl, by simpa [Builtin.Tuple.tupleCompareSizes] using hR⟩
    case h =>
      exact ⟨rfl, rfl, items.toList, items2.toList, ns, ms, rfl, hi, hj, by lia, h⟩
end
section
variable {prog : Program} {w : World} {A : Around} {E : Value → Shared → Prop} {s : Shared}
theorem lt_tupInts {l b : Addr} {items items2 : Array Value} {ns ms : List Int} {Q : Value → Shared → Prop} (hl : IsTup s.heap l items) (hb : IsTup s.heap b items2) (hi : IntsAre items.toList ns) (hj : IntsAre items2.toList ms)
    (hu : A.units < cLine) (h : Q (.bool (lexLt ns ms)) s) : wpAny (model prog w) A (compareOp .Lt (.ref l) (.ref b)) Q E s := by
  obtain ⟨⟨cls, dd, data, sl⟩, ho, hc, n, hd⟩ := id hl
  obtain ⟨⟨cls2, dd2, data2, sl2⟩, ho2, hc2, n2, hd2⟩ := id hb
  simp only at hc hd hc2 hd2
  subst hc hd hc2 hd2
  exact richCompare_meets_room (op := .Lt) ⟨_, ho, rfl⟩ ⟨_, ho2, rfl⟩ PySem.F.slot_tuple_lt PySem.F.entry_tuple_lt (PySem.F.args_tuple_lt_2 _ _) (tuple_lt_ints l b items items2 n n2 dd dd2 sl sl2 ns ms hi hj)
    ⟨ho, ho2, show Value.bool (lexLt ns ms) ≠ Value.notImplemented ∧ Q (.bool (lexLt ns ms)) s from ⟨(fun x => nomatch x), h⟩⟩ hu
theorem cat_tup {t b : Addr} {vs ws : List Value} {Q : Value → Shared → Prop} (ht : IsTup s.heap t vs.toArray) (hb : IsTup s.heap b ws.toArray) (hv : vs ≠ [])
    (h1 : ws = [] → Q (.ref t) s) (h2 : ws ≠ [] → Q (.ref s.heap.objs.size) { s with heap := s.heap.push { cls := .type "tuple", data := .seq (vs ++ ws).toArray } })
    (hsz : vs.length + ws.length ≤ sizeLine) : wpAny (model prog w) A (binaryOp .Add (.ref t) (.ref b)) Q E s := by
  obtain ⟨⟨cls, dd, data, sl⟩, ho, hc, n, hd⟩ := id ht
  obtain ⟨⟨cls2, dd2, data2, sl2⟩, ho2, hc2, n2, hd2⟩ := id hb
  simp only at hc hd hc2 hd2
  subst hc hd hc2 hd2
  have e : vs.toArray ++ ws.toArray = (vs ++ ws).toArray := by simp
  by_cases hw : ws = []
  · exact concat_meets ⟨_, ho, rfl⟩ ⟨_, ho2, rfl⟩ noFill_tuple_add seq_tuple_add PySem.F.slot_tuple_add PySem.F.entry_tuple_add (PySem.F.args_tuple_add_2 _ _)
      (tuple_addW1 t b vs.toArray ws.toArray n n2 dd dd2 sl sl2 (by simpa using hv) (by simp [hw])) ⟨ho, ho2, h1 hw⟩
  · refine concat_meets ⟨_, ho, rfl⟩ ⟨_, ho2, rfl⟩ noFill_tuple_add seq_tuple_add PySem.F.slot_tuple_add PySem.F.entry_tuple_add (PySem.F.args_tuple_add_2 _ _)
      (tuple_addW2 t b vs.toArray ws.toArray n n2 dd dd2 sl sl2 (by simpa using hv) (by simpa using hw) (by rw [List.size_toArray, List.size_toArray]; exact hsz)) ⟨ho, ho2, ?_⟩
    rw [e]
    exact h2 hw
def sIx (n d : Nat) : Option Int → Nat
  | none => d
  | some v => if v < 0 then (v + (n : Int)).toNat else min v.toNat n
theorem sIx_none (n d : Nat) : sIx n d none = d := rfl
theorem sIx_nat (n d k : Nat) : sIx n d (some (k : Int)) = min k n := by
  show (if (k : Int) < 0 then ((k : Int) + (n : Int)).toNat else min (k : Int).toNat n) = min k n
  rw [if_neg (by lia), Int.toNat_natCast]
theorem sIx_le (n d : Nat) (hd : d ≤ n) (o : Option Int) : sIx n d o ≤ n := by
  cases o with
  | none => exact hd
  | some v =>
    show (if v < 0 then (v + (n : Int)).toNat else min v.toNat n) ≤ n
    by_cases hv : v < 0
    · rw [if_pos hv]; lia
    · rw [if_neg hv]; exact Nat.min_le_right _ _
theorem clip_eq (v : Int) (n d : Nat) : (if v < 0 then max (v + (n : Int)) 0 else min v (n : Int)) = ((sIx n d (some v) : Nat) : Int) := by
  show (if v < 0 then max (v + (n : Int)) 0 else min v (n : Int)) = (((if v < 0 then (v + (n : Int)).toNat else min v.toNat n) : Nat) : Int)
  by_cases hv : v < 0
  · simp only [if_pos hv]; lia
  · simp only [if_neg hv]; lia
theorem adjust_gen (lo hi : Option Int) (n : Nat) : Builtin.Slice.sliceAdjust lo hi 1 (n : Int) = (((sIx n 0 lo : Nat) : Int), ((sIx n n hi : Nat) : Int)) := by
  have h1 : ¬ ((1 : Int) < 0) := by lia
  unfold Builtin.Slice.sliceAdjust
  simp only [h1, if_false]
  refine Prod.ext ?_ ?_
  · cases lo with
    | none => rfl
    | some v => exact clip_eq v n 0
  · cases hi with
    | none => rfl
    | some v => exact clip_eq v n n
theorem places_gen (i j : Nat) : Builtin.Slice.slicePlaces (i : Int) (j : Int) 1 = j - i := by
  unfold Builtin.Slice.slicePlaces
  have h1 : (1 : Int) > 0 := by lia
  simp only [h1, if_true, Int.ediv_one]
  split <;> lia
theorem slicePart_ {v : Value} {o : Option Int} {Q : Option Int → Shared → Prop} (p : IsPart v o) (h : Q o s) : wpAny (model prog w) A (Builtin.Slice.slicePartIndex v) Q E s := by
  cases p with
  | none => exact slicePart_none h
  | int i t => exact slicePart_int h
theorem sliceApplied_gen {sl : Addr} {vl vu : Value} {lo hi : Option Int} {n : Nat} {Q : Int × Int × Nat → Shared → Prop} (hs : s.heap.IsSliceOf sl vl vu .none) (pl : IsPart vl lo) (pu : IsPart vu hi)
    (h : Q (((sIx n 0 lo : Nat) : Int), 1, sIx n n hi - sIx n 0 lo) s) : wpAny (model prog w) A (Builtin.Slice.sliceApplied (.ref sl) (pure (n : Int))) Q E s := by
  obtain ⟨os, hos, hcs, hds⟩ := id hs
  unfold Builtin.Slice.sliceApplied Builtin.Slice.sliceFields
  refine wpAny_bind (wpAny_bind (wpAny_field hos hds (x := vl) rfl (wpAny_bind (wpAny_field hos hds (x := vu) rfl (wpAny_bind (wpAny_field hos hds (x := .none) rfl (wpAny_pure ?_)))))))
  refine wpAny_bind (slicePart_none ?_)
  show wpAny _ _ (if ((1 : Int) == 0) = true then _ else _) _ _ s
  rw [if_neg (by decide)]
  refine wpAny_bind (slicePart_ pl (wpAny_bind (slicePart_ pu (wpAny_bind (wpAny_pure ?_)))))
  show wpAny _ _ (match Builtin.Slice.sliceAdjust lo hi 1 (n : Int) with | (lo, hi) => pure (lo, (1 : Int), Builtin.Slice.slicePlaces lo hi 1)) _ _ s
  rw [adjust_gen lo hi n]
  show wpAny _ _ (pure (((sIx n 0 lo : Nat) : Int), (1 : Int), Builtin.Slice.slicePlaces ((sIx n 0 lo : Nat) : Int) ((sIx n n hi : Nat) : Int) 1)) _ _ s
  rw [places_gen]
  exact wpAny_pure h
theorem pick_gen (xs : Array Value) (i k : Nat) : ((List.range k).filterMap fun (m : Nat) => xs[((i : Int) + (m : Int) * 1).toNat]?).toArray = ((xs.toList.drop i).take k).toArray := by
  have e : (fun (m : Nat) => xs[((i : Int) + (m : Int) * 1).toNat]?) = fun m => xs[i + m]? := by
    funext m
    have : ((i : Int) + (m : Int) * 1).toNat = i + m := by lia
    rw [this]
  rw [e]
  have := pick_run xs i k
  rw [List.filterMap_map] at this
  have e2 : ((fun x => xs[x]?) ∘ fun x => i + x) = fun m => xs[i + m]? := rfl
  rw [e2] at this
  rw [this]
theorem getItem_tuple_cut {t sl : Addr} {items : Array Value} {vl vu : Value} {lo hi : Option Int} {Q : Value → Shared → Prop} (ht : IsTup s.heap t items) (hs : s.heap.IsSliceOf sl vl vu .none) (pl : IsPart vl lo) (pu : IsPart vu hi)
    (hw : ¬ (sIx items.size 0 lo = 0 ∧ sIx items.size items.size hi = items.size))
    (h : Q (.ref s.heap.objs.size) { s with heap := s.heap.push { cls := .type "tuple", data := .seq ((items.toList.drop (sIx items.size 0 lo)).take (sIx items.size items.size hi - sIx items.size 0 lo)).toArray } })
    (hsz : items.size ≤ sizeLine) : wpAny (model prog w) A (getItem (.ref t) (.ref sl)) Q E s := by
  have htake : sizeOk (.seq ((items.toList.drop (sIx items.size 0 lo)).take (sIx items.size items.size hi - sIx items.size 0 lo)).toArray) := by
    show ((items.toList.drop (sIx items.size 0 lo)).take (sIx items.size items.size hi - sIx items.size 0 lo)).toArray.size ≤ sizeLine
    rw [List.size_toArray, List.length_take, List.length_drop, Array.length_toList]
    lia
  have hj : sIx items.size items.size hi ≤ items.size := sIx_le _ _ (Nat.le_refl _) hi
  obtain ⟨os, hos, hcs, hds⟩ := id hs
  have hTs : s.TypeIs (.ref sl) "slice" := ⟨os, hos, hcs⟩
  unfold getItem
  try with_reducible refine wpAny_holding ?_
  first | refine wpAny_bind (wpAny_pure ?_) | skip
  refine wpAny_bind (wpAny_sequenceKey ht.typeIs (by decide) ?_)
  refine wpAny_bind (wpAny_callSpecial?_slot (name := Str.ofString "__getitem__") ht.typeIs PyProof.Rows.slot_tuple_getitem
    (wpAny_call_entry PyProof.Rows.slot_tuple_getitem ht.typeIs entry_tuple_getitem ?_ (args_tuple_getitem _ _)))
  show wpAny _ _ (Builtin.Tuple.tupleItemsOf (.ref t) >>= _) _ _ s
  refine wpAny_bind (tupleItemsOf_ ht ?_)
  refine wpAny_bind (wpAny_typeOf hTs ?_)
  rw [if_pos (by decide)]
  refine wpAny_bind (sliceApplied_gen hs pl pu ?_)
  have hno : ¬ ((((sIx items.size 0 lo : Nat) : Int) == 0 && (1 : Int) == 1 && (sIx items.size items.size hi - sIx items.size 0 lo) == items.size) = true) := by
    intro q
    rw [Bool.and_eq_true, Bool.and_eq_true] at q
    have q1 : ((sIx items.size 0 lo : Nat) : Int) = 0 := eq_of_beq q.1.1
    have q2 : sIx items.size items.size hi - sIx items.size 0 lo = items.size := eq_of_beq q.2
    exact hw ⟨by lia, by lia⟩
  show wpAny _ _ (if (((sIx items.size 0 lo : Nat) : Int) == 0 && (1 : Int) == 1 && (sIx items.size items.size hi - sIx items.size 0 lo) == items.size) = true then _ else _) _ _ s
  rw [if_neg hno, pick_gen]
  first
    | exact wpAny_bind (m := Builtin.Tuple.tupleExact _) (wpAny_newObj_type (wpAny_pure ⟨_, rfl, wpAny_pure h⟩) htake)
    | exact wpAny_bind (m := Builtin.Tuple.tupleExact _) (wpAny_newObj_type (wpAny_bind (wpAny_pure (wpAny_pure ⟨_, rfl, wpAny_pure h⟩))) htake)
    | exact wpAny_bind (wpAny_bind (m := Builtin.Tuple.tupleExact _) (wpAny_newObj_type (wpAny_pure (wpAny_pure ⟨_, rfl, wpAny_pure h⟩)) htake))
    | exact wpAny_bind (wpAny_bind (m := Builtin.Tuple.tupleExact _) (wpAny_newObj_type (wpAny_pure ⟨_, rfl, wpAny_pure h⟩) htake))
end
end HT
namespace L2
open PySem PySem.Spec PyProof.Rows
abbrev TO := St → Hp → (Option Int → Hp → Prop) → Prop
def PO (X : Cx) (e : Option Expr) (t : TO) : Prop :=
  ∀ (pins : List (Addr × Obj)) (s : Shared) (σ : St) (H : Hp) (Q : Option Int → Hp → Prop), Inv X pins σ H s → t σ H Q →
    wpAny (model X.prog X.w) X.A (evalPart e X.env) (fun u s' => ∃ o H', Inv X pins σ H' s' ∧ IsPart u o ∧ Q o H') X.xe s
def tNoPart : TO := fun _ H Q => Q none H
def tPart (t : TE) : TO := fun σ H Q => t σ H fun x H1 => ∃ i, x = .int i ∧ Q (some i) H1
theorem intsAre_of {ns : List Int} : ∀ {us : List Value}, Vals (ns.map V.int) us → IntsAre us ns := by
  induction ns with
  | nil => intro us r; rw [List.map_nil] at r; cases r; exact .nil
  | cons n ns ih =>
    intro us r
    rw [List.map_cons] at r
    cases r with
    | cons r1 r2 =>
      obtain ⟨t, e⟩ := r1
      subst e
      exact .cons n t (ih r2)
section
variable {X : Cx} {e : Expr} {te : TE} {lo hi : Option Expr} {tl th : TO} {pos p2 : Pos}
theorem po_none : PO X none tNoPart := by
  intro pins s σ H Q I h
  rw [evalPart_none]
  exact wpAny_pure ⟨none, H, I, .none, h⟩
theorem po_some (h : PE X e te) : PO X (some e) (tPart te) := by
  intro pins s σ H Q I hw
  rw [evalPart_some]
  refine thn (h pins s σ H _ I hw) fun u s1 ⟨x, H1, I1, r1, q1⟩ => ?_
  obtain ⟨i, rfl, q⟩ := q1
  obtain ⟨t, rfl⟩ := r1
  exact ⟨some i, H1, I1, .int i t, q⟩
def SlR (X : Cx) (r : V → Option Int → Option Int → Hp → VK → Prop) : Prop :=
  ∀ (pins : List (Addr × Obj)) (s : Shared) (σ : St) (H : Hp) (x : V) (v vl vu : Value) (lo hi : Option Int) (sl : Addr) (Q : VK), Inv X pins σ H s → RelV x v → s.heap.IsSliceOf sl vl vu .none → IsPart vl lo → IsPart vu hi → r x lo hi H Q →
    ∃ T id, typeLookup (.type T) "__getitem__" = pure (some (.builtin id)) ∧ s.TypeIs v T ∧ wpAny (model X.prog X.w) X.A (getItem v (.ref sl)) (EP X pins σ Q) X.xe s
def tSl (r : V → Option Int → Option Int → Hp → VK → Prop) (te : TE) (tl th : TO) : TE := fun σ H Q => te σ H fun x H1 => tl σ H1 fun l H2 => th σ H2 fun u H3 => r x l u H3 Q
theorem pe_slice {r : V → Option Int → Option Int → Hp → VK → Prop} (hr : SlR X r) (he : PE X e te) (hl : PO X lo tl) (hu : PO X hi th) : PE X (.Subscript e (.Slice lo hi none p2) pos) (tSl r te tl th) := by
  intro pins s σ H Q I h
  refine Subscript_ (thn (he pins s σ H _ I h) fun v s1 ⟨x, H1, I1, r1, q1⟩ => ?_)
  refine wpAny_Slice (thn (hl pins s1 σ H1 _ I1 q1) fun vl s2 ⟨l, H2, I2, pl, q2⟩ => thn (hu pins s2 σ H2 _ I2 q2) fun vu s3 ⟨u, H3, I3, pu, q3⟩ => ?_)
  rw [evalPart_none]
  refine wpAny_pure ?_
  have I4 : Inv X pins σ H3 { s3 with heap := s3.heap.push { cls := .type "slice", data := .fields #[vl, vu, .none] } } := I3.kept (t' := s3.toks) fun b ob q => Heap.get?_push_of_some _ q
  obtain ⟨T, id, hT, ht, hg⟩ := hr pins { s3 with heap := s3.heap.push { cls := .type "slice", data := .fields #[vl, vu, .none] } } σ H3 x v vl vu l u s3.heap.objs.size Q I4 r1 (Heap.IsSliceOf.new ..) pl pu q3
  show wpAny (model X.prog X.w) X.A (subscriptTail e (.Slice lo hi none p2) v (.ref s3.heap.objs.size)) (EP X pins σ Q) X.xe { s3 with heap := s3.heap.push { cls := .type "slice", data := .fields #[vl, vu, .none] } }
  exact tail_any (ops := [.ref s3.heap.objs.size, v]) ht hT hg (by with_unfolding_all rfl)
def cutV (xs : List V) (lo hi : Option Int) : List V := (xs.drop (HT.sIx xs.length 0 lo)).take (HT.sIx xs.length xs.length hi - HT.sIx xs.length 0 lo)
theorem cutV_length (xs : List V) (lo hi : Option Int) : (cutV xs lo hi).length ≤ xs.length := by
  unfold cutV
  rw [List.length_take, List.length_drop]
  lia
def rSlT (K : PySem.W.Frag) : V → Option Int → Option Int → Hp → VK → Prop := fun x lo hi H Q => ∃ a xs, x = .ref a ∧ SqT K H a xs ∧
  ¬ (HT.sIx xs.length 0 lo = 0 ∧ HT.sIx xs.length xs.length hi = xs.length) ∧ ∀ p, H p = none → Q (.ref p) (upd H p (.tup (cutV xs lo hi)))
theorem sl_tup : SlR X (rSlT X.K) := by
  intro pins s σ H x v vl vu lo hi sl Q I rx hs pl pu h
  obtain ⟨a, xs, rfl, hx, hw, q⟩ := h
  cases rx
  obtain ⟨its, r, ht, hz⟩ := I.tuple hx
  have hlen : its.toArray.size = xs.length := by rw [List.size_toArray]; exact r.length.symm
  refine ⟨"tuple", _, PyProof.Rows.slot_tuple_getitem.lookup, ht.typeIs, ?_⟩
  refine HT.getItem_tuple_cut ht hs pl pu (by rw [hlen]; exact hw) ?_ (by rw [hlen]; exact hz)
  rw [hlen]
  refine ⟨.ref s.heap.objs.size, _, I.laid (t' := s.toks) (o := .tup (cutV xs lo hi)) (fun b ob q => Heap.get?_push_of_some _ q) (Nat.le_refl _) ?_, rfl, q _ (I.hok.fresh (Nat.le_refl _))⟩
  exact ⟨Nat.le_trans (cutV_length xs lo hi) hz, _, (r.drop (HT.sIx xs.length 0 lo)).take (HT.sIx xs.length xs.length hi - HT.sIx xs.length 0 lo), IsTup.new _ _⟩
def rCatT (K : PySem.W.Frag) : R2 := fun x y H Q => ∃ a b xs ys, x = .ref a ∧ y = .ref b ∧ SqT K H a xs ∧ SqT K H b ys ∧ xs ≠ [] ∧ xs.length + ys.length ≤ sizeLine ∧
  (ys = [] → Q (.ref a) H) ∧ (ys ≠ [] → ∀ p, H p = none → Q (.ref p) (upd H p (.tup (xs ++ ys))))
theorem Vals.nil_iff {xs : List V} {us : List Value} (r : Vals xs us) : us = [] ↔ xs = [] := by
  cases r with
  | nil => simp
  | cons _ _ => simp
theorem op_catT : OpR X (binaryOp .Add) (rCatT X.K) := by
  intro pins s σ H x y v u Q I rx ry h
  obtain ⟨a, b, xs, ys, rfl, rfl, ha, hb, hx, hz, q1, q2⟩ := h
  cases rx
  cases ry
  obtain ⟨its, r1, p1, _⟩ := I.tuple ha
  obtain ⟨its2, r2, p2, _⟩ := I.tuple hb
  refine HT.cat_tup p1 p2 (fun z => hx (r1.nil_iff.mp z)) (fun z => ⟨.ref a, H, I, rfl, q1 (r2.nil_iff.mp z)⟩) (fun z => ?_) (by rw [← r1.length, ← r2.length]; exact hz)
  refine ⟨.ref s.heap.objs.size, _, I.laid (t' := s.toks) (o := .tup (xs ++ ys)) (fun b ob q => Heap.get?_push_of_some _ q) (Nat.le_refl _) ?_, rfl, q2 (fun w => z (r2.nil_iff.mpr w)) _ (I.hok.fresh (Nat.le_refl _))⟩
  exact ⟨by rw [List.length_append]; exact hz, _, r1.append r2, IsTup.new _ _⟩
end
end L2
namespace L2
open PySem PySem.Spec PyProof.Rows
def ixN (n : Nat) (i : Int) : Option Nat := if 0 ≤ i then (if i < n then some i.toNat else none) else if -(n : Int) ≤ i then some (i + n).toNat else none
def atI {α : Type} (xs : List α) (i : Int) : Option α := (ixN xs.length i).bind fun j => xs[j]?
theorem ixN_seq {n : Nat} {i : Int} {j : Nat} (h : ixN n i = some j) : seqIndex? i n = some j ∧ j < n ∧ -(n : Int) ≤ i ∧ i < n := by
  unfold ixN at h
  by_cases h0 : 0 ≤ i
  · rw [if_pos h0] at h
    by_cases h1 : i < n
    · rw [if_pos h1] at h
      have e : i.toNat = j := Option.some.inj h
      exact ⟨by rw [seqIndex_of h0 h1, e], by lia, by lia, h1⟩
    · rw [if_neg h1] at h; cases h
  · rw [if_neg h0] at h
    by_cases h1 : -(n : Int) ≤ i
    · rw [if_pos h1] at h
      have e : (i + n).toNat = j := Option.some.inj h
      exact ⟨by rw [seqIndex_neg (by lia) h1, e], by lia, h1, by lia⟩
    · rw [if_neg h1] at h; cases h
theorem atI_get {α : Type} {xs : List α} {i : Int} {v : α} (h : atI xs i = some v) : ∃ j, seqIndex? i xs.length = some j ∧ xs[j]? = some v ∧ j < xs.length ∧ -(xs.length : Int) ≤ i ∧ i < xs.length := by
  unfold atI at h
  cases e : ixN xs.length i with
  | none => rw [e] at h; cases h
  | some j =>
    rw [e] at h
    obtain ⟨h1, h2, h3, h4⟩ := ixN_seq e
    exact ⟨j, h1, h, h2, h3, h4⟩
theorem atI_nat {α : Type} {xs : List α} {j : Nat} {v : α} (h : xs[j]? = some v) : atI xs (j : Int) = some v := by
  have hj : j < xs.length := (List.getElem?_eq_some_iff.mp h).1
  have e : ixN xs.length (j : Int) = some j := by
    unfold ixN
    rw [if_pos (by lia), if_pos (by lia)]; simp
  unfold atI; rw [e]; exact h
theorem atI_last {α : Type} (xs : List α) (v : α) : atI (xs ++ [v]) (-1) = some v := by
  have hl : (xs ++ [v]).length = xs.length + 1 := by simp
  have e : ixN (xs ++ [v]).length (-1) = some xs.length := by
    unfold ixN
    rw [hl, if_neg (by decide), if_pos (by lia)]
    congr 1
    lia
  unfold atI
  rw [e]
  show (xs ++ [v])[xs.length]? = some v
  simp
def PlainIx (b : Expr) : Prop := ∀ o i, subscripted b false o i = operate [o, i] (getItem o i)
def IxR (X : Cx) (r : R2) : Prop :=
  ∀ (value slice : Expr) (pins : List (Addr × Obj)) (s : Shared) (σ : St) (H : Hp) (x y : V) (v u : Value) (Q : VK), Inv X pins σ H s → RelV x v → RelV y u → r x y H Q →
    subscripted slice false v u = operate [v, u] (getItem v u) → wpAny (model X.prog X.w) X.A (subscriptTail value slice v u) (EP X pins σ Q) X.xe s
def MtR (X : Cx) (id : String) (r : V → List V → Hp → VK → Prop) : Prop :=
  ∀ (pins : List (Addr × Obj)) (s : Shared) (σ : St) (H : Hp) (x : V) (xs : List V) (v : Value) (us : List Value) (Q : VK), Inv X pins σ H s → RelV x v → Vals xs us → r x xs H Q →
    wpAny (model X.prog X.w) X.A (call (.builtin id) (v :: us)) (EP X pins σ Q) X.xe s
section
variable {X : Cx} {a b : Expr} {ta tb : TE} {pos : Pos}
theorem IxR.or {r r' : R2} (h : IxR X r) (h' : IxR X r') : IxR X (fun x y H Q => r x y H Q ∨ r' x y H Q) := by
  intro value slice pins s σ H x y v u Q I rx ry q hs
  rcases q with q | q
  · exact h value slice pins s σ H x y v u Q I rx ry q hs
  · exact h' value slice pins s σ H x y v u Q I rx ry q hs
theorem pe_ix {r : R2} (hr : IxR X r) (ha : PE X a ta) (hb : PE X b tb) (hs : PlainIx b) : PE X (.Subscript a b pos) (tOp r ta tb) := by
  intro pins s σ H Q I h
  exact Subscript_ (binT ha hb I h fun v u s2 x y H2 I2 rx ry q => hr a b pins s2 σ H2 x y v u Q I2 rx ry q (hs _ _))
def rIxL (K : PySem.W.Frag) : R2 := fun x y H Q => ∃ p xs i v, x = .ref p ∧ y = .int i ∧ SqL K H p xs ∧ atI xs i = some v ∧ Q v H
def rIxT (K : PySem.W.Frag) : R2 := fun x y H Q => ∃ p xs i v, x = .ref p ∧ y = .int i ∧ SqT K H p xs ∧ atI xs i = some v ∧ Q v H
def rIxS : R2 := fun x y H Q => ∃ z i c, x = .str z ∧ y = .int i ∧ z.length ≤ sizeLine ∧ atI z.cps.toList i = some c ∧ Q (.str ⟨#[c]⟩) H
theorem ix_list : IxR X (rIxL X.K) := by
  intro value slice pins s σ H x y v u Q I rx ry h hs
  obtain ⟨p, xs, i, z, rfl, rfl, hq, he, q⟩ := h
  cases rx
  obtain ⟨t, rfl⟩ := ry
  obtain ⟨its, r, pl, hz⟩ := I.list hq
  obtain ⟨j, h1, h2, h3, h4, h5⟩ := atI_get he
  obtain ⟨w, ew, rw'⟩ := r.get h2
  have hl := r.length
  have hn := line63
  have fin : EP X pins σ Q w s := ⟨z, H, I, rw', q⟩
  by_cases h0 : 0 ≤ i
  · have hj : i.toNat = j := by
      rw [seqIndex_of h0 h5] at h1
      exact Option.some.inj h1
    exact item_listR pl.isList h0 (by lia) (by rw [hj]; simpa using ew) fin hs
  · have hj : (i + (its.toArray.size : Int)).toNat = j := by
      rw [seqIndex_neg (by lia) h4] at h1
      rw [List.size_toArray, ← hl]
      exact Option.some.inj h1
    exact subscriptTail_builtinR (x := w) pl.isList.typeIs slot_list_getitem.lookup
      (wpAny_getItem_list_neg (Q := fun r s' => r = w ∧ EP X pins σ Q r s') pl.isList (by lia) (by rw [List.size_toArray] <;> lia) (by lia) (by rw [hj]; simpa using ew) ⟨rfl, fin⟩) hs
theorem ix_tup : IxR X (rIxT X.K) := by
  intro value slice pins s σ H x y v u Q I rx ry h hs
  obtain ⟨p, xs, i, z, rfl, rfl, hq, he, q⟩ := h
  cases rx
  obtain ⟨t, rfl⟩ := ry
  obtain ⟨its, r, pl, hz⟩ := I.tuple hq
  obtain ⟨j, h1, h2, h3, h4, h5⟩ := atI_get he
  obtain ⟨w, ew, rw'⟩ := r.get h2
  have hl := r.length
  have hn := line63
  have fin : EP X pins σ Q w s := ⟨z, H, I, rw', q⟩
  exact subscriptTail_builtinR (x := w) pl.typeIs slot_tuple_getitem.lookup
    (getItem_tuple (j := j) (Q := fun r s' => r = w ∧ EP X pins σ Q r s') pl (by lia) (by lia) (by rw [List.size_toArray, ← hl]; exact h1) (by simpa using ew) ⟨rfl, fin⟩) hs
theorem ix_str : IxR X rIxS := by
  intro value slice pins s σ H x y v u Q I rx ry h hs
  obtain ⟨z, i, c, rfl, rfl, hz, he, q⟩ := h
  obtain ⟨t, rfl⟩ := rx
  obtain ⟨t', rfl⟩ := ry
  obtain ⟨j, h1, h2, h3, h4, h5⟩ := atI_get he
  have hl : z.cps.toList.length = z.length := by simp [Str.length]
  rw [hl] at h1 h4 h5
  have hn := line63
  exact tail_any (typeIs_str s z t) slot_str_getitem.lookup (getItem_str (c := c) (by
    have e1 : decide (i < -(2 ^ 63 : Int)) = false := decide_eq_false (by lia)
    have e2 : decide (i ≥ 2 ^ 63) = false := decide_eq_false (by lia)
    rw [e1, e2, Bool.or_false]) (by rw [h1]; simpa using h2) ⟨.str ⟨#[c]⟩, H, I.tok _, ⟨_, rfl⟩, q⟩) hs
def rIx (K : PySem.W.Frag) : R2 := fun x y H Q => rIxL K x y H Q ∨ rIxT K x y H Q ∨ rIxS x y H Q
theorem ix_seq : IxR X (rIx X.K) := ix_list.or (ix_tup.or ix_str)
theorem mapSeq_set (its : List Value) (n j : Nat) (u : Value) : Obj.mapSeq (·.setIfInBounds j u) { cls := .type "list", data := .seq its.toArray n } = { cls := .type "list", data := .seq (its.set j u).toArray n } := by
  simp [Obj.mapSeq]
theorem Inv.lst {pins : List (Addr × Obj)} {σ : St} {H : Hp} {s : Shared} {p : Addr} {xs : List V} (I : Inv X pins σ H s) (h : H p = some (.lst xs)) :
    ∃ (its : List Value) (n : Nat), Vals xs its ∧ s.heap.get? p = some { cls := .type "list", data := .seq its.toArray n } ∧ xs.length ≤ sizeLine := by
  obtain ⟨z, its, n, r, e⟩ := I.hok p _ h
  exact ⟨its, n, r, e, z⟩
theorem Inv.lstUpd {pins : List (Addr × Obj)} {σ : St} {H : Hp} {s : Shared} {p : Addr} {xs ys : List V} {its its' : List Value} {n n' : Nat} {f : Obj → Obj} (I : Inv X pins σ H s) (h : H p = some (.lst xs))
    (ho : s.heap.get? p = some { cls := .type "list", data := .seq its.toArray n }) (hf : f { cls := .type "list", data := .seq its.toArray n } = { cls := .type "list", data := .seq its'.toArray n' }) (r : Vals ys its') (hz : ys.length ≤ sizeLine) (t : Nat) :
    Inv X pins σ (upd H p (.lst ys)) { s with heap := s.heap.update p f, toks := t } := by
  have e : (s.heap.update p f).get? p = some { cls := .type "list", data := .seq its'.toArray n' } := by
    rw [Heap.get?_update_self f ho (by rw [hf] <;> rfl), hf]
  refine I.write (x := p) (e := p) (by rw [h]; trivial) (.inl rfl) (fun b u hb q => (Heap.get?_update_other _ _ (Ne.symm hb)).trans q) ⟨_, e⟩ ?_
  exact ⟨hz, its', n', r, e⟩
def rSetL : V → V → V → Hp → (Hp → Prop) → Prop := fun o i v H Q => ∃ p xs k j, o = .ref p ∧ i = .int k ∧ H p = some (.lst xs) ∧ ixN xs.length k = some j ∧ Q (upd H p (.lst (xs.set j v)))
theorem set_list : PSet X rSetL := by
  intro pins s σ H o i v ov iv u Q I ro ri rv h
  obtain ⟨p, xs, k, j, rfl, rfl, hp, hj, q⟩ := h
  cases ro
  obtain ⟨t, rfl⟩ := ri
  obtain ⟨its, n, r, ho, hz⟩ := I.lst hp
  obtain ⟨h1, h2, h3, h4⟩ := ixN_seq hj
  have hl := r.length
  have hn := line63
  have I' : Inv X pins σ (upd H p (.lst (xs.set j v))) { s with heap := s.heap.update p (Obj.mapSeq (·.setIfInBounds j u)) } :=
    I.lstUpd hp ho (mapSeq_set its n j u) (r.set rv j) (by rw [List.length_set]; exact hz) s.toks
  by_cases h0 : 0 ≤ k
  · have hk : k.toNat = j := by
      rw [seqIndex_of h0 h4] at h1
      exact Option.some.inj h1
    exact PySem.W.ki_setAt ho h0 (by lia) (by rw [List.size_toArray, ← hl]; exact h4) (by rw [hk]; exact ⟨_, I', q⟩)
  · have hk : (k + (its.toArray.size : Int)).toNat = j := by
      rw [seqIndex_neg (by lia) h3] at h1
      rw [List.size_toArray, ← hl]
      exact Option.some.inj h1
    exact PySem.W.ki_setBack ho (by lia) (by rw [List.size_toArray, ← hl]; exact h3) (by lia) (by rw [hk]; exact ⟨_, I', q⟩)
theorem slice_bounds (lo hi : Option Int) (n : Nat) : (sliceBounds lo hi none n).1 = ((HT.sIx n 0 lo : Nat) : Int) ∧ (sliceBounds lo hi none n).2.1 = ((HT.sIx n n hi : Nat) : Int) ∧ (sliceBounds lo hi none n).2.2 = 1 := by
  refine ⟨?_, ?_, rfl⟩
  · cases lo with
    | none => simp [sliceBounds, HT.sIx]
    | some i =>
      simp only [sliceBounds, HT.sIx, Option.getD_none, show (1 : Int) > 0 by decide, if_true]
      by_cases h : i < 0
      · simp only [h, if_true] <;> lia
      · simp only [h, if_false] <;> lia
  · cases hi with
    | none => simp [sliceBounds, HT.sIx]
    | some i =>
      simp only [sliceBounds, HT.sIx, Option.getD_none, show (1 : Int) > 0 by decide, if_true]
      by_cases h : i < 0
      · simp only [h, if_true] <;> lia
      · simp only [h, if_false] <;> lia
theorem slicePick_cut (its : List Value) (lo hi : Option Int) : slicePick its.toArray lo hi none = ((its.drop (HT.sIx its.length 0 lo)).take (HT.sIx its.length its.length hi - HT.sIx its.length 0 lo)).toArray := by
  obtain ⟨h1, h2, h3⟩ := slice_bounds lo hi its.toArray.size
  unfold slicePick
  rw [h1, h2, h3]
  simp only [sliceRange_one, pick_run, List.size_toArray] <;> rfl
def rSlL (K : PySem.W.Frag) : V → Option Int → Option Int → Hp → VK → Prop := fun x lo hi H Q => ∃ a xs, x = .ref a ∧ SqL K H a xs ∧ ∀ p, H p = none → Q (.ref p) (upd H p (.lst (cutV xs lo hi)))
theorem sl_list : SlR X (rSlL X.K) := by
  intro pins s σ H x v vl vu lo hi sl Q I rx hs pl pu h
  obtain ⟨a, xs, rfl, hx, q⟩ := h
  cases rx
  obtain ⟨its, r, ht, hz⟩ := I.list hx
  have hlen := r.length
  refine ⟨"list", _, slot_list_getitem.lookup, ht.isList.typeIs, ?_⟩
  refine wpAny_getItem_list_slice ht.isList hs pl pu .none (by simp) ?_ (by rw [List.size_toArray] <;> lia)
  rw [slicePick_cut, ← hlen]
  refine ⟨.ref s.heap.objs.size, _, I.laid (t' := s.toks) (o := .lst (cutV xs lo hi)) (fun b ob q => Heap.get?_push_of_some _ q) (Nat.le_refl _) ?_, rfl, q _ (I.hok.fresh (Nat.le_refl _))⟩
  exact ⟨Nat.le_trans (cutV_length xs lo hi) hz, _, 0, (r.drop (HT.sIx xs.length 0 lo)).take (HT.sIx xs.length xs.length hi - HT.sIx xs.length 0 lo), Heap.get?_push_size _ rfl⟩
def flatV : V → Bool
  | .non => true
  | .bl _ => true
  | .int _ => true
  | .str _ => true
  | _ => false
def eqV : V → V → Bool
  | .non, .non => true
  | .bl a, .bl b => a == b
  | .bl a, .int b => (if a then 1 else 0) == b
  | .int a, .bl b => a == (if b then 1 else 0)
  | .int a, .int b => a == b
  | .str a, .str b => a == b
  | _, _ => false
theorem eqAt_V {A : Around} {s : Shared} {y x : V} {u v : Value} (ry : RelV y u) (rx : RelV x v) (fy : flatV y = true) (fx : flatV x = true) : SeqAt.EqAt A s u v (eqV y x) := by
  cases y with
  | non =>
    cases ry
    cases x with
    | non => cases rx; exact SeqAt.EqAt.same _
    | bl b => cases rx; exact SeqAt.EqAt.none_bool b
    | int b => obtain ⟨t, rfl⟩ := rx; exact SeqAt.EqAt.none_int b t
    | str b => obtain ⟨t, rfl⟩ := rx; exact SeqAt.EqAt.none_str b t
    | _ => exact absurd (show false = true from fx) Bool.false_ne_true
  | bl a =>
    cases ry
    cases x with
    | non => cases rx; exact SeqAt.EqAt.bool_none a
    | bl b => cases rx; exact SeqAt.EqAt.bool_bool a b
    | int b => obtain ⟨t, rfl⟩ := rx; exact SeqAt.EqAt.bool_int a b t
    | str b => obtain ⟨t, rfl⟩ := rx; exact SeqAt.EqAt.bool_str a b t
    | _ => exact absurd (show false = true from fx) Bool.false_ne_true
  | int a =>
    obtain ⟨t', rfl⟩ := ry
    cases x with
    | non => cases rx; exact SeqAt.EqAt.int_none a t'
    | bl b => cases rx; exact SeqAt.EqAt.int_bool a t' b
    | int b => obtain ⟨t, rfl⟩ := rx; exact SeqAt.EqAt.int_int a t' b t
    | str b => obtain ⟨t, rfl⟩ := rx; exact SeqAt.EqAt.int_str a t' b t
    | _ => exact absurd (show false = true from fx) Bool.false_ne_true
  | str a =>
    obtain ⟨t', rfl⟩ := ry
    cases x with
    | non => cases rx; exact SeqAt.EqAt.str_none a t'
    | bl b => cases rx; exact SeqAt.EqAt.str_bool a t' b
    | int b => obtain ⟨t, rfl⟩ := rx; exact SeqAt.EqAt.str_int a t' b t
    | str b => obtain ⟨t, rfl⟩ := rx; exact SeqAt.EqAt.str_str a t' b t
    | _ => exact absurd (show false = true from fx) Bool.false_ne_true
  | _ => exact absurd (show false = true from fy) Bool.false_ne_true
def eqU (x : V) (u : Value) : Bool := match u with
  | .none => eqV .non x
  | .bool b => eqV (.bl b) x
  | .int i _ => eqV (.int i) x
  | .str z _ => eqV (.str z) x
  | _ => false
theorem eqU_of {x y : V} {u : Value} (r : RelV y u) (f : flatV y = true) : eqU x u = eqV y x := by
  cases y with
  | non => cases r; rfl
  | bl b => cases r; rfl
  | int i => obtain ⟨t, rfl⟩ := r; rfl
  | str z => obtain ⟨t, rfl⟩ := r; rfl
  | _ => exact absurd (show false = true from f) Bool.false_ne_true
theorem any_eqU {x : V} : ∀ {xs : List V} {us : List Value}, Vals xs us → xs.all flatV = true → us.any (eqU x) = xs.any fun y => eqV y x
  | _, _, .nil, _ => rfl
  | y :: xs, u :: us, .cons r t, f => by
    rw [List.all_cons, Bool.and_eq_true] at f
    rw [List.any_cons, List.any_cons, eqU_of r f.1, any_eqU t f.2]
theorem mem_eqAt {A : Around} {s : Shared} {x : V} {v : Value} (rx : RelV x v) (fx : flatV x = true) : ∀ {xs : List V} {us : List Value}, Vals xs us → xs.all flatV = true → ∀ u ∈ us, SeqAt.EqAt A s u v (eqU x u)
  | _, _, .nil, _ => fun u hu => by cases hu
  | y :: xs, u :: us, .cons r t, f => fun u' hu => by
    rw [List.all_cons, Bool.and_eq_true] at f
    rcases List.mem_cons.mp hu with rfl | hu
    · rw [eqU_of r f.1]; exact eqAt_V r rx f.1 fx
    · exact mem_eqAt rx fx t f.2 u' hu
def inV (x : V) (xs : List V) : Bool := xs.any fun y => eqV y x
def rIn (K : PySem.W.Frag) (neg : Bool) : R2 := fun x y H Q => ∃ p xs, y = .ref p ∧ (SqL K H p xs ∨ SqT K H p xs) ∧ flatV x = true ∧ xs.all flatV = true ∧ Q (.bl (if neg then !inV x xs else inV x xs)) H
theorem op_in_seq : OpR X (compareOp .In) (rIn X.K false) := by
  intro pins s σ H x y v u Q I rx ry h
  obtain ⟨p, xs, rfl, hq, fx, fs, q⟩ := h
  cases ry
  rcases hq with hq | hq
  · obtain ⟨its, r, pl, hz⟩ := I.list hq
    refine SeqAt.in_listAt (eqU x) pl.isList (fun w hw => mem_eqAt rx fx r fs w (by simpa using hw)) ⟨.bl _, H, I, rfl, ?_⟩
    rw [show its.toArray.any (eqU x) = its.any (eqU x) by simp, any_eqU r fs]
    exact q
  · obtain ⟨its, r, pl, hz⟩ := I.tuple hq
    refine SeqAt.in_tupleAt (eqU x) pl (fun w hw => mem_eqAt rx fx r fs w (by simpa using hw)) ⟨.bl _, H, I, rfl, ?_⟩
    rw [show its.toArray.any (eqU x) = its.any (eqU x) by simp, any_eqU r fs]
    exact q
theorem op_notIn_seq : OpR X (compareOp .NotIn) (rIn X.K true) := by
  intro pins s σ H x y v u Q I rx ry h
  obtain ⟨p, xs, rfl, hq, fx, fs, q⟩ := h
  cases ry
  rcases hq with hq | hq
  · obtain ⟨its, r, pl, hz⟩ := I.list hq
    refine SeqAt.notIn_listAt (eqU x) pl.isList (fun w hw => mem_eqAt rx fx r fs w (by simpa using hw)) ⟨.bl _, H, I, rfl, ?_⟩
    rw [show its.toArray.any (eqU x) = its.any (eqU x) by simp, any_eqU r fs]
    exact q
  · obtain ⟨its, r, pl, hz⟩ := I.tuple hq
    refine SeqAt.notIn_tupleAt (eqU x) pl (fun w hw => mem_eqAt rx fx r fs w (by simpa using hw)) ⟨.bl _, H, I, rfl, ?_⟩
    rw [show its.toArray.any (eqU x) = its.any (eqU x) by simp, any_eqU r fs]
    exact q
theorem call_len_seq : CallR X (.builtin "len") (fun xs H Q => ∃ p ys, xs = [.ref p] ∧ (SqL X.K H p ys ∨ SqT X.K H p ys) ∧ Q (.int ys.length) H) := by
  intro pins s σ H xs us Q I r h
  obtain ⟨p, ys, rfl, hq, q⟩ := h
  obtain ⟨u, rfl, rx⟩ := vals1 r
  cases rx
  have hn := line63
  rcases hq with hq | hq
  · obtain ⟨its, r', pl, hz⟩ := I.list hq
    have hlen := r'.length
    exact Calls.call_len_list pl.isList (by simp only [List.size_toArray] <;> lia) ⟨.int ys.length, H, I.tok _, ⟨s.toks + 1, by rw [List.size_toArray, hlen]⟩, q⟩
  · obtain ⟨its, r', pl, hz⟩ := I.tuple hq
    have hlen := r'.length
    exact len_tuple pl (by simp only [List.size_toArray] <;> lia) ⟨.int ys.length, H, I.tok _, ⟨s.toks + 1, by rw [List.size_toArray, hlen]⟩, q⟩
theorem call_list_of : CallR X (.type "list") (fun xs H Q => ∃ p ys, xs = [.ref p] ∧ (SqL X.K H p ys ∨ SqT X.K H p ys) ∧ ∀ l, H l = none → Q (.ref l) (upd H l (.lst ys))) := by
  intro pins s σ H xs us Q I r h
  obtain ⟨p, ys, rfl, hq, q⟩ := h
  obtain ⟨u, rfl, rx⟩ := vals1 r
  cases rx
  have fin : ∀ (its : List Value), Vals ys its → ys.length ≤ sizeLine → ∀ (h' : Heap) (c' : Nat), (∀ b o', s.heap.get? b = some o' → h'.get? b = some o') →
      h'.get? s.heap.objs.size = some { cls := .type "list", dict := none, data := .seq its.toArray c', slots := #[] } → EP X pins σ Q (.ref s.heap.objs.size) { s with heap := h' } := fun its r' hz h' c' kp e =>
    ⟨.ref s.heap.objs.size, _, I.laid (t' := s.toks) kp (Nat.le_refl _) (show ObjOk X.prog X.w _ h' _ (.lst ys) from ⟨hz, its, c', r', e⟩), rfl, q _ (I.hok.fresh (Nat.le_refl _))⟩
  rcases hq with hq | hq
  · obtain ⟨its, r', pl, hz⟩ := I.list hq
    have hlen := r'.length
    obtain ⟨o, ho, hc, n, hd⟩ := pl.isList
    exact call_list_seq p (.inl rfl) ho hc hd (fun h' c' kp e => fin its r' hz h' c' kp e) (by simp only [List.size_toArray] <;> lia)
  · obtain ⟨its, r', pl, hz⟩ := I.tuple hq
    have hlen := r'.length
    obtain ⟨o, ho, hc, n, hd⟩ := pl
    exact call_list_seq p (.inr rfl) ho hc hd (fun h' c' kp e => fin its r' hz h' c' kp e) (by simp only [List.size_toArray] <;> lia)
theorem call_tuple_of : CallR X (.type "tuple") (fun xs H Q => ∃ p ys, xs = [.ref p] ∧ ((SqL X.K H p ys ∧ ∀ l, H l = none → Q (.ref l) (upd H l (.tup ys))) ∨ (SqT X.K H p ys ∧ Q (.ref p) H))) := by
  intro pins s σ H xs us Q I r h
  obtain ⟨p, ys, rfl, h⟩ := h
  obtain ⟨u, rfl, rx⟩ := vals1 r
  cases rx
  rcases h with ⟨hq, q⟩ | ⟨hq, q⟩
  · obtain ⟨its, r', pl, hz⟩ := I.list hq
    have hlen := r'.length
    refine call_tuple_list pl.isList (fun h' kp => ?_) (by simp only [List.size_toArray] <;> lia)
    have I1 : Inv X pins σ H { s with heap := h' } := I.kept (t' := s.toks) kp
    have I2 : Inv X pins σ (upd H h'.objs.size (.tup ys)) { s with heap := h'.push { cls := .type "tuple", data := .seq its.toArray } } :=
      I1.laid (t' := s.toks) (fun b o e => Heap.get?_push_of_some _ e) (Nat.le_refl _) (show ObjOk X.prog X.w _ _ _ (.tup ys) from ⟨hz, its, r', IsTup.new _ _⟩)
    exact ⟨.ref h'.objs.size, _, I2, rfl, q _ (I1.hok.fresh (Nat.le_refl _))⟩
  · obtain ⟨its, r', pl, hz⟩ := I.tuple hq
    exact call_tuple_same pl ⟨.ref p, H, I, rfl, q⟩
def tyV (K : PySem.W.Frag) (T : String) (x : V) (H : Hp) : Prop := match x with
  | .str _ => T = "str"
  | .int _ => T = "int"
  | .ref p => (T = "list" ∧ ∃ xs, SqL K H p xs) ∨ (T = "tuple" ∧ ∃ o, K.lookup p = some o ∧ o.cls = .type "tuple" ∧ o.dict = none) ∨
      (T = "dict" ∧ ((∃ kvs, H p = some (.dK kvs)) ∨ ∃ kvs, H p = some (.dT kvs))) ∨ (T = "set" ∧ ∃ S n, H p = some (.set S n))
  | _ => False
theorem tyV_is {pins : List (Addr × Obj)} {σ : St} {H : Hp} {s : Shared} {T : String} {x : V} {v : Value} (I : Inv X pins σ H s) (r : RelV x v) (ty : tyV X.K T x H) :
    s.TypeIs v T ∧ ∀ a, v = .ref a → ∃ ob, s.heap.get? a = some ob ∧ ob.dict = none := by
  cases x with
  | str z =>
    obtain ⟨t, rfl⟩ := r
    cases (show T = "str" from ty)
    exact ⟨typeIs_str s z t, fun _ e => nomatch e⟩
  | int i =>
    obtain ⟨t, rfl⟩ := r
    cases (show T = "int" from ty)
    exact ⟨typeIs_int s i t, fun _ e => nomatch e⟩
  | ref p =>
    cases r
    rcases ty with ⟨rfl, xs, hq⟩ | ⟨rfl, o, hk, hc, hd⟩ | ⟨rfl, hk⟩ | ⟨rfl, S, n, hk⟩
    · obtain ⟨its, _, pl, _⟩ := I.list hq
      refine ⟨pl.isList.typeIs, fun a e => ?_⟩
      cases e
      obtain ⟨o, n, e, c, hd, _⟩ := pl
      exact ⟨o, e, hd⟩
    · refine ⟨⟨o, I.kIn p o hk, hc⟩, fun a e => ?_⟩
      cases e
      exact ⟨o, I.kIn _ o hk, hd⟩
    · have z : ∃ o, s.heap.get? p = some o ∧ o.ExactDict := by
        rcases hk with ⟨kvs, hk⟩ | ⟨kvs, hk⟩
        · obtain ⟨_, _, _, _, o, _, _, e, ex, _⟩ := I.hok p _ hk
          exact ⟨o, e, ex⟩
        · obtain ⟨_, _, _, _, o, _, _, e, ex, _⟩ := I.hok p _ hk
          exact ⟨o, e, ex⟩
      obtain ⟨o, e, ex⟩ := z
      refine ⟨⟨o, e, ex.1⟩, fun a e2 => ?_⟩
      cases e2
      exact ⟨o, e, ex.2.1⟩
    · obtain ⟨o, _, _, _, e, ex, _⟩ := I.hok p _ hk
      refine ⟨⟨o, e, ex.1⟩, fun a e2 => ?_⟩
      cases e2
      exact ⟨o, e, ex.2.1⟩
  | _ => exact False.elim ty
def tBM (K : PySem.W.Frag) (T : String) (r : V → List V → Hp → VK → Prop) (to : TE) (t : TA) : TE := fun σ H Q => to σ H fun x H1 => tyV K T x H1 ∧ t σ H1 fun xs H2 => r x xs H2 Q
variable {o e : Expr} {es : List Expr} {to : TE} {t : TA} {name : Str} {apos cpos : Pos} {T id : String} {r : V → List V → Hp → VK → Prop}
theorem pe_bm (pa : PlainAttrs T) (slot : Slot T name id) (hty : typeOf (.builtin id) = pure (.type "method_descriptor")) (hm : MtR X id r) (ho : PE X o to) (ha : PA X (e :: es) t)
    (hbase : attributeBase o name X.env (eval o X.env) = eval o X.env := by rfl)
    (hfew : ((backTo cpos (starEach (e :: es) X.env)).all (fun x => !x.1) && (backToKw cpos (keywordEach [] X.env)).all (fun x => x.1.isSome)
      && decide ((e :: es).length + ([] : List Keyword).length + (if ([] : List Keyword).isEmpty then 0 else 1) < 30)) = true := by rfl)
    (hline : (apos.endLine == cpos.line) = true := by rfl) (hs : starEach (e :: es) X.env = (false, eval e X.env) :: starEach es X.env := by rfl) (hplain : (backTo cpos (starEach es X.env)).any (·.1) = false := by rfl) :
    PE X (.Call (.Attribute o name apos) (e :: es) [] cpos) (tBM X.K T r to t) := by
  intro pins s σ H Q I h
  refine wpAny_Call_method_late hbase hfew hline rfl (thn (ho pins s σ H _ I h) fun v s1 ⟨x, H1, I1, r1, ty, q1⟩ => ?_)
  obtain ⟨h1, h2⟩ := tyV_is I1 r1 ty
  refine ⟨T, id, pa, slot, hty, h1, h2, ?_⟩
  have hA := ha cpos pins s1 σ H1 _ I1 q1
  rw [hs] at hA ⊢
  refine Calls.callWith_builtin (by show (false || (backTo cpos (starEach es X.env)).any (·.1)) = false; rw [hplain] <;> rfl) (Calls.evalArgs_plain ?_)
  exact thn hA fun us s2 ⟨vs, H2, I2, r2, q2⟩ => hm pins s2 σ H2 x vs v us Q I2 r1 r2 q2
end
end L2
namespace L2
open PySem PySem.Spec PyProof.Rows
def MtM (X : Cx) (id : String) (r : V → List V → Hp → VK → Prop) : Prop :=
  ∀ (pins : List (Addr × Obj)) (s : Shared) (σ : St) (H : Hp) (x : V) (xs : List V) (v : Value) (us : List Value) (Q : VK), Inv X pins σ H s → RelV x v → Vals xs us → r x xs H Q →
    wpAny (model X.prog X.w) X.A (call (.builtin id) (v :: us)) (EP X pins σ Q) X.xe s
theorem Vals.one : ∀ {x : V} {us : List Value}, Vals [x] us → ∃ u, us = [u] ∧ RelV x u
  | _, _, .cons r .nil => ⟨_, rfl, r⟩
theorem Vals.reverse {xs : List V} {us : List Value} (h : Vals xs us) : Vals xs.reverse us.reverse := by
  induction h with
  | nil => exact .nil
  | cons r t ih => rw [List.reverse_cons, List.reverse_cons]; exact Vals.append ih (.cons r .nil)
theorem Vals.rep {xs : List V} {us : List Value} (h : Vals xs us) : ∀ k : Nat, Vals (List.replicate k xs).flatten (List.replicate k us).flatten
  | 0 => .nil
  | k + 1 => by
    rw [List.replicate_succ, List.replicate_succ, List.flatten_cons, List.flatten_cons]
    exact Vals.append h (Vals.rep h k)
theorem foldl_rep (its : List Value) : ∀ (k : Nat) (acc : List Value),
    List.foldl (fun x1 x2 => x1 ++ x2) acc.toArray (List.replicate k its.toArray) = (acc ++ (List.replicate k its).flatten).toArray
  | 0, acc => by simp
  | k + 1, acc => by
    have e : acc.toArray ++ its.toArray = (acc ++ its).toArray := by simp
    have e2 : (acc ++ its) ++ (List.replicate k its).flatten = acc ++ (List.replicate (k + 1) its).flatten := by
      rw [List.replicate_succ, List.flatten_cons, List.append_assoc]
    rw [← e2, ← foldl_rep its k (acc ++ its), ← e, List.replicate_succ, List.foldl_cons]
section
variable {X : Cx} {pins : List (Addr × Obj)} {σ : St} {H : Hp} {s : Shared} {l b : Addr} {xs ys zs : List V}
theorem Inv.lset {its its' : List Value} {n : Nat} {f : Array Value → Array Value} {t' : Nat} (I : Inv X pins σ H s) (hH : H l = some (.lst xs))
    (e : s.heap.get? l = some { cls := .type "list", data := .seq its.toArray n }) (hf : f its.toArray = its'.toArray) (hv : Vals ys its') (hz : ys.length ≤ sizeLine) :
    Inv X pins σ (upd H l (.lst ys)) { s with heap := s.heap.update l (Obj.mapSeq f), toks := t' } := by
  have q := PySem.IsL.update e f
  rw [hf] at q
  refine I.write (x := l) (e := l) (by rw [hH]; exact trivial) (.inl rfl) (fun b' u hb hu => (Heap.get?_update_other s.heap (Obj.mapSeq f) (Ne.symm hb)).trans hu) ⟨_, q⟩ ?_
  exact ⟨hz, its', _, hv, q⟩
theorem Inv.lnew {its : List Value} {t' : Nat} (I : Inv X pins σ H s) (hv : Vals ys its) (hz : ys.length ≤ sizeLine) :
    Inv X pins σ (upd H s.heap.objs.size (.lst ys)) { s with heap := s.heap.push { cls := .type "list", data := .seq its.toArray }, toks := t' } :=
  I.laid (fun _ _ q => Heap.get?_push_of_some _ q) (Nat.le_refl _) ⟨hz, its, 0, hv, Heap.get?_push_size _ rfl⟩
theorem Inv.fresh (I : Inv X pins σ H s) : H s.heap.objs.size = none := I.hok.fresh (Nat.le_refl _)
theorem Inv.lstM (I : Inv X pins σ H s) (hH : H l = some (.lst xs)) : xs.length ≤ sizeLine ∧ ∃ (its : List Value) (n : Nat), Vals xs its ∧ xs.length = its.length ∧ s.heap.get? l = some { cls := .type "list", data := .seq its.toArray n } := by
  obtain ⟨z, its, n, r, e⟩ := I.hok l _ hH
  exact ⟨z, its, n, r, r.length, e⟩
end
section
variable {X : Cx}
def rAppend : V → List V → Hp → VK → Prop := fun x vs H Q => ∃ l xs y, x = .ref l ∧ vs = [y] ∧ H l = some (.lst xs) ∧ xs.length < sizeLine ∧ Q .non (upd H l (.lst (xs ++ [y])))
theorem mt_append : MtM X "list.append" rAppend := by
  intro pins s σ H x vs v us Q I rx rv h
  obtain ⟨l, xs, y, rfl, rfl, hH, hz, q⟩ := h
  cases rx
  obtain ⟨u, rfl, ru⟩ := rv.one
  obtain ⟨z, its, n, r, hl, e⟩ := I.lstM hH
  refine call_meets F.slot_list_append ⟨_, e, rfl⟩ F.entry_list_append (F.args_list_append_2 _ _) (PySem.list_append l its.toArray n u (by rw [List.size_toArray]; lia)) ⟨e, ?_⟩
  refine ⟨.non, _, I.lset (its' := its ++ [u]) hH e (by simp) (r.append (.cons ru .nil)) ?_, rfl, q⟩
  rw [List.length_append, List.length_singleton]
  lia
def rCat : R2 := fun x y H Q => ∃ l b xs zs, x = .ref l ∧ y = .ref b ∧ H l = some (.lst xs) ∧ H b = some (.lst zs) ∧ xs.length + zs.length ≤ sizeLine ∧ ∀ p, H p = none → Q (.ref p) (upd H p (.lst (xs ++ zs)))
theorem op_cat : OpR X (binaryOp .Add) rCat := by
  intro pins s σ H x y v u Q I rx ry h
  obtain ⟨l, b, xs, zs, rfl, rfl, hH, hB, hz, q⟩ := h
  cases rx
  cases ry
  obtain ⟨z, its, n, r, hl, e⟩ := I.lstM hH
  obtain ⟨z2, its2, n2, r2, hl2, e2⟩ := I.lstM hB
  refine PySem.P.add_list e e2 ?_ (by rw [List.size_toArray, List.size_toArray]; lia)
  have ea : its.toArray ++ its2.toArray = (its ++ its2).toArray := by simp
  rw [ea]
  exact ⟨.ref _, _, I.lnew (t' := s.toks) (r.append r2) (by rw [List.length_append]; lia), rfl, q _ I.fresh⟩
theorem len_rep {α : Type} (xs : List α) (k : Nat) : (List.replicate k xs).flatten.length = k * xs.length := by
  induction k with
  | zero => simp
  | succ k ih => rw [List.replicate_succ, List.flatten_cons, List.length_append, ih, Nat.succ_mul, Nat.add_comm]
end
section
variable {prog : Program} {w : World} {A : Around} {E : Value → Shared → Prop} {s : Shared}
end
section
variable {X : Cx}
end
end L2
namespace Att
open PySem PySem.W PySem.Calls PyProof.Rows
theorem ints_of_wellAll {P : Params} {h : Heap} : ∀ (ns : List Int) (vs : List Value), WellAll P h vs (ns.map WData.int) → IntsAre vs ns := by
  intro ns
  induction ns with
  | nil =>
    intro vs w
    rw [List.map_nil] at w
    cases w
    exact .nil
  | cons n ns ih =>
    intro vs w
    rw [List.map_cons] at w
    cases w with
    | cons a b =>
      cases a
      exact .cons _ _ (ih _ b)
theorem script_of {l : OpenLaw} {n : Nat} (hn : l.most = some n) {P : Params} {h : Heap} {args : List WData} {vals : List Value}
    (hpre : l.row.toRowW.claim.pre args = true) (hwl : WellAll P h vals args) :
    ∃ a vs ns, vals = [Value.ref a] ∧ args = [WData.list (ns.map WData.int)] ∧ h.get? a = some { cls := .type "list", data := .seq vs.toArray } ∧ IntsAre vs ns ∧ ns.length ≤ n := by
  have hsh : WShape.hasAll [] args [.list .int] = true := (pre_splitW hpre).1
  have hc : l.pre.holds [] { args := args } = true := (pre_splitW hpre).2
  obtain ⟨d, r, rfl, h1, h2⟩ := hasAllW_cons hsh
  obtain rfl := hasAllW_nil h2
  obtain ⟨xs, rfl, h3⟩ := hasW_list h1
  obtain ⟨ns, rfl⟩ := items_int h3
  have hlen : ns.length ≤ n := by
    unfold OpenLaw.pre at hc
    have h4 : (WTm.not (.lt (.lit (.int (n : Int))) (.len (.arg 0)))).holds [] { args := [.list (ns.map .int)] } = true := by
      have h4 := (holds_andW hc).1
      rw [hn] at h4
      exact h4
    have h5 := condW_of h4 (w_not (w_lt w_lit (w_len_list (w_arg rfl))))
    rw [List.length_map] at h5
    refine Nat.le_of_not_lt fun q => ?_
    have q' : (n : Int) < ((ns.length : Nat) : Int) := by lia
    first
      | (rw [decide_eq_true q'] at h5; exact absurd h5 (by decide))
      | (simp at h5; lia)
  cases hwl with
  | cons w1 w2 =>
    cases w2
    cases w1 with
    | list ho hall => exact ⟨_, _, ns, rfl, rfl, ho, ints_of_wellAll ns _ hall, hlen⟩
theorem post_true (l : OpenLaw) (args : List WData) : l.row.toRowW.claim.post args (.bool true) args = true :=
  postW_of (r := l.row.toRowW) (X := (true == true))
    (show WShape.has [] (.bool true) .bool = true by first | rfl | decide | simp [WShape.has, WShape.arms, WShape.armsAll])
    (show (WTm.eq .res (.lit (.bool true))).value [] { args := args, res := some (.bool true), after := args } = some (.bool (true == true)) from w_eq_bool (w_res rfl) w_lit) rfl
theorem attach_call {l : OpenLaw} {n : Nat} {q : Program} {loose : List Str} {XP : (Str → Option Value) → Heap → Prop} {YP : World → Heap → Prop} {d : DefRec}
    (hn : l.most = some n) (hdf : d.params.defaults = [])
    (call : ∀ (w : World) (s₀ s₁ : Shared) (mg mb : Str → Option Value) (fa : Addr) (o : Obj) (pm cd doc : Value) (a : Addr) (vs : List Value) (ns : List Int),
      Ground q loose [] XP w s₀ mg mb s₁.heap → YP w s₁.heap →
      s₁.heap.get? fa = some o → o.data = .func (docDef d.name d.params d.body d.scope pm cd doc) → s₁.heap.CodeRec cd d.name → mg d.name = some (.ref fa) →
      s₁.heap.get? a = some { cls := .type "list", data := .seq vs.toArray } → IntsAre vs ns → ns.length ≤ n → s₁.gens = #[] →
      codeAny (model l.prog w) callerA (.call (.ref fa) ⟨[.ref a], []⟩) (fun r s' => r = .ok (.ret (.bool true)) ∧ OldK s₁.heap s'.heap ∧ s'.os = s₁.os ∧ AllBare s'.gens) s₁) :
    WalkO q loose XP YP l.row.toRowW d [] (fun f vs => PySem.call f vs) := by
  intro w s₀ s₁ mg mb G Y fa o pm cd doc dV kV ho hd hcd hD hmg hg args vals as hpre hlay hrd hwl hlo
  obtain rfl : dV = .none := Dflts.none hD hdf
  obtain rfl : kV = .none := Dflts.noKw hD
  obtain ⟨a, vs, ns, rfl, rfl, hobj, hints, hlen⟩ := script_of hn hpre hwl
  refine enter_call (codeAny_mono (call w s₀ s₁ mg mb fa o pm cd doc a vs ns G Y ho (fd_plain hd) hcd hmg hobj hints hlen hg) fun r s' hq => ?_)
  obtain ⟨rfl, h2, h3, h4⟩ := hq
  exact ⟨.inl ⟨.bool true, .bool true, [], rfl, fun _ => rfl, .bool true, post_true l _, fun _ => ⟨List.Pairwise.nil, fun _ hm => (nomatch hm)⟩⟩, h2, h3, h4⟩
section
variable {prog : Program} {w : World} {A : Around} {E : Value → Shared → Prop} {s : Shared} {K : Frag}
end
end Att
namespace L2
open PySem PySem.Spec PyProof.Rows
theorem vals_ints : ∀ {vs : List Value} {ns : List Int}, IntsAre vs ns → Vals (ns.map V.int) vs
  | _, _, .nil => .nil
  | _, _, .cons n t h => .cons ⟨t, rfl⟩ (vals_ints h)
def Only (H : Hp) : Prop := ∀ b, H b = none ∨ ∃ o xs, H b = some (.frz o (.lst xs))
end L2
namespace L2
open PySem PySem.Spec PyProof.Rows
end L2
namespace L2
open PySem PySem.Spec PyProof.Rows
def defArgs (s : Stmt) : Arguments := match s with
  | .FunctionDef _ a _ _ _ _ _ _ _ _ => a
  | _ => { posonlyargs := [], args := [], vararg := none, kwonlyargs := [], kw_defaults := [], kwarg := none, defaults := [] }
def defBody (s : Stmt) : List Stmt := match s with
  | .FunctionDef _ _ b _ _ _ _ _ _ _ => b
  | _ => []
def defScope (s : Stmt) : Scope := match s with
  | .FunctionDef _ _ _ _ _ _ sc _ _ _ => sc
  | _ => { kind := .function, names := [], isGenerator := false, isCoroutine := false }
abbrev CX0 : CXT := fun _ _ _ _ _ _ => False
abbrev E0 : XK := fun _ _ _ => False
theorem pass0 {X : Cx} : Passes CX0 X E0 := fun _ _ _ _ _ _ _ h => h.elim
structure Fun (K : PySem.W.Frag) (x qual : Str) (st : Stmt) (f : Addr) (fd : FuncData) : Prop where
  ex : ∃ (oc : Value) (od : Option Addr) (kV doc pm : Value) (an : Option Addr) (cdv ct : Value) (osl : Array (Option Value)),
    fd = PySem.W.fnOf x qual (defArgs st) (defBody st) (defScope st) .none kV doc pm an cdv ct ∧ K.lookup f = some ⟨oc, od, .func fd, osl⟩ ∧ PySem.W.codeIn K cdv qual = true
  kp : PySem.W.keepIn K (.ref f) = true
section
variable {P : Program} {w : World} {K : PySem.W.Frag} {mg : Str → Option Value} {base : Heap}
theorem Fun.ok {x qual : Str} {st : Stmt} {f : Addr} {fd : FuncData} {N ps : List Str} {k : Nat} {sp : Sp} (F : Fun K x qual st f fd) (S : FnScope N ps (defScope st)) (len : ∀ vs H Q E, sp vs H Q E → vs.length = ps.length)
    (hbody : ∀ (cdv : Value) (A : Around) (outer : List Env) (s : Shared) (H : Hp) (vs : List V) (Q : VK) (E : XK), Room k (A.deeper (envOfC qual (defScope st) s.heap.objs.size f cdv)) → sp vs H Q E →
      ∃ t, PSs (cxOf CX0 P w K mg base N qual (defScope st) f cdv A outer s H E).nox (defBody st) t ∧ t { nx := fun _ H' => Q .non H', rt := Q } (start N vs) H) : FnOk P w K mg base CX0 (k + 1) f fd ps sp := by
  obtain ⟨oc, od, kV, doc, pm, an, cdv, ct, osl, rfl, lk, hcd⟩ := F.ex
  refine fn_of lk hcd S len fun A outer s H vs Q E hr hsp => ?_
  obtain ⟨t, h, q⟩ := hbody cdv A outer s H vs Q E hr hsp
  exact ⟨t, h.nox, q⟩
theorem Fun.binds {x qual : Str} {st : Stmt} {f : Addr} {fd : FuncData} {ps : List Str} (F : Fun K x qual st f fd)
    (h : ∀ (kV doc pm : Value) (an : Option Addr) (cdv ct : Value) (us : List Value), us.length = ps.length → bindArgs (PySem.W.fnOf x qual (defArgs st) (defBody st) (defScope st) .none kV doc pm an cdv ct) ⟨us, []⟩ = pure (ps.zip us)) : Binds K fd ps [] := by
  obtain ⟨oc, od, kV, doc, pm, an, cdv, ct, osl, rfl, lk, hcd⟩ := F.ex
  exact .all (h kV doc pm an cdv ct)
theorem fun_mk {x qual : Str} {st : Stmt} {f : Addr} {oc : Value} {od an : Option Addr} {osl : Array (Option Value)} {kV doc pm cdv ct : Value} (l : K.lookup f = some ⟨oc, od, .func (PySem.W.fnOf x qual (defArgs st) (defBody st) (defScope st) .none kV doc pm an cdv ct), osl⟩)
    (c : PySem.W.codeIn K cdv qual = true) (k : PySem.W.keepIn K (.ref f) = true) : Fun K x qual st f (PySem.W.fnOf x qual (defArgs st) (defBody st) (defScope st) .none kV doc pm an cdv ct) := ⟨⟨oc, od, kV, doc, pm, an, cdv, ct, osl, rfl, l, c⟩, k⟩
end
theorem hu_of {A : Around} {k : Nat} (hr : Room k A) : A.units + 1 < cLine := Nat.lt_of_le_of_lt (Nat.add_le_add_left (by decide : 1 ≤ 64) _) hr.units
section
variable {X : Cx}
end
end L2
set_option maxRecDepth 100000
namespace L2
open PySem
def closL (env : Env) : List (Str × NameKind) → List (Str × Addr) → List (Str × Addr)
  | [], acc => acc
  | y :: r, acc => if y.2 == .free then closL env r ((y.1, (env.cells.lookup y.1).getD 0) :: acc) else closL env r acc
theorem closL_sub {env : Env} : ∀ (l : List (Str × NameKind)) (acc : List (Str × Addr)), (∀ y ∈ l, y.2 = .free → ∃ c, env.cells.lookup y.1 = some c) → (∀ x c, acc.lookup x = some c → env.cells.lookup x = some c) →
    ∀ x c, (closL env l acc).lookup x = some c → env.cells.lookup x = some c
  | [], acc, _, ha, x, c, h => ha x c h
  | y :: r, acc, hf, ha, x, c, h => by
    unfold closL at h
    split at h
    · rename_i hk
      have hk' : y.2 = .free := by simpa using hk
      obtain ⟨d, hd⟩ := hf y List.mem_cons_self hk'
      refine closL_sub r _ (fun z hz => hf z (List.mem_cons_of_mem _ hz)) (fun z e hz => ?_) x c h
      rw [List.lookup_cons] at hz
      cases hb : z == y.1 with
      | true =>
        rw [hb, hd] at hz
        have e2 : z = y.1 := by simpa using hb
        have e3 : d = e := by simpa using hz
        rw [e2, hd, e3]
      | false => rw [hb] at hz; exact ha z e hz
    · exact closL_sub r acc (fun z hz => hf z (List.mem_cons_of_mem _ hz)) ha x c h
theorem closL_keep {env : Env} {x : Str} : ∀ (l : List (Str × NameKind)) (acc : List (Str × Addr)), (∃ c, acc.lookup x = some c) → ∃ c, (closL env l acc).lookup x = some c
  | [], acc, h => h
  | y :: r, acc, h => by
    unfold closL
    split
    · refine closL_keep r _ ?_
      rw [List.lookup_cons]
      cases hb : x == y.1 with
      | true => exact ⟨_, rfl⟩
      | false => exact h
    · exact closL_keep r acc h
theorem closL_has {env : Env} {y : Str × NameKind} (hk : y.2 = .free) : ∀ (l : List (Str × NameKind)) (acc : List (Str × Addr)), y ∈ l → ∃ c, (closL env l acc).lookup y.1 = some c
  | [], acc, h => by simp at h
  | z :: r, acc, h => by
    unfold closL
    rcases List.mem_cons.mp h with rfl | h
    · rw [if_pos (by rw [hk]; rfl)]
      exact closL_keep r _ ⟨_, List.lookup_cons_self⟩
    · split
      · exact closL_has hk r _ h
      · exact closL_has hk r _ h
theorem clos_forIn {env : Env} (f : Str × NameKind → List (Str × Addr) → Sem (ForInStep (List (Str × Addr))))
    (hf : ∀ y acc, f y acc = if y.2 == .free then (cellOf env y.1 >>= fun c => pure (.yield ((y.1, c) :: acc))) else pure (.yield acc)) :
    ∀ (l : List (Str × NameKind)) (acc : List (Str × Addr)), (∀ y ∈ l, y.2 = .free → ∃ c, env.cells.lookup y.1 = some c) → forIn l acc f = (pure (closL env l acc) : Sem _)
  | [], acc, _ => by rw [List.forIn_nil]; rfl
  | y :: r, acc, h => by
    have ih := fun acc => clos_forIn f hf r acc fun z hz => h z (List.mem_cons_of_mem _ hz)
    rw [List.forIn_cons, hf]
    unfold closL
    split
    · rename_i hk
      obtain ⟨c, hc⟩ := h y List.mem_cons_self (by simpa using hk)
      have e : cellOf env y.1 = pure c := by unfold cellOf; rw [hc]
      rw [e, hc]
      exact ih _
    · exact ih _
theorem clos_for {scope : Scope} {env : Env} (h : ∀ y ∈ scope.names, y.2 = .free → ∃ c, env.cells.lookup y.1 = some c) : closureFor scope env = pure (closL env scope.names []) := by
  have e := clos_forIn (env := env) (fun x cs => match x with | (name, kind) => if (kind == NameKind.free) = true then (do let c ← cellOf env name; pure (.yield ((name, c) :: cs))) else pure (.yield cs)) (fun y acc => rfl) scope.names [] h
  have e2 : closureFor scope env = ((forIn scope.names [] (fun x cs => match x with | (name, kind) => if (kind == NameKind.free) = true then (do let c ← cellOf env name; pure (ForInStep.yield ((name, c) :: cs))) else pure (ForInStep.yield cs)) : Sem (List (Str × Addr))) >>= fun cs => pure cs) := rfl
  rw [e2, e]
  rfl
theorem relab_lookup {env : Env} {x : Str} : ∀ (l : List (Str × NameKind)),
    (l.map fun (n, k) => if (k == NameKind.free && env.scope.kind == .function && env.kindOf n == some .cell) then (n, NameKind.cell) else (n, k)).lookup x =
      (l.lookup x).map fun k => if (k == NameKind.free && env.scope.kind == .function && env.kindOf x == some .cell) then NameKind.cell else k
  | [] => rfl
  | (n, k) :: r => by
    have ih := @relab_lookup env x r
    rw [List.map_cons]
    by_cases e : x = n
    · subst e
      dsimp only
      split
      · rename_i h; rw [List.lookup_cons_self, List.lookup_cons_self, Option.map_some, if_pos h]
      · rename_i h; rw [List.lookup_cons_self, List.lookup_cons_self, Option.map_some, if_neg h]
    · have e' : (x == n) = false := by simpa using e
      dsimp only
      split
      · rw [List.lookup_cons, e', List.lookup_cons, e']; exact ih
      · rw [List.lookup_cons, e', List.lookup_cons, e']; exact ih
theorem cf_all : ∀ (l : List (Str × NameKind)) (h : Heap) (acc : List (Str × Addr)) (x : Str) (c : Addr), (cellsFrom h.objs.size l acc).lookup x = some c →
    ((pushCells h l).IsCell c none ∧ h.objs.size ≤ c ∧ (x, NameKind.cell) ∈ l) ∨ acc.lookup x = some c
  | [], _, _, _, _, e => .inr e
  | (n, k) :: r, h, acc, x, c, e => by
    unfold cellsFrom at e
    unfold pushCells
    split at e
    · rename_i hk
      have hk' : k = .cell := by simpa using hk
      rw [if_pos hk]
      have hz : (h.push { cls := .type "cell", data := .cell none }).objs.size = h.objs.size + 1 := Heap.size_push ..
      rw [← hz] at e
      rcases cf_all r (h.push { cls := .type "cell", data := .cell none }) _ x c e with ⟨a, b, d⟩ | q
      · exact .inl ⟨a, by rw [hz] at b; lia, List.mem_cons_of_mem _ d⟩
      · rw [List.lookup_cons] at q
        cases hb : x == n with
        | false => rw [hb] at q; exact .inr q
        | true =>
          rw [hb] at q
          have e1 : h.objs.size = c := by simpa using q
          have e2 : x = n := by simpa using hb
          subst e1 e2
          refine .inl ⟨?_, Nat.le_refl _, by rw [hk']; exact List.mem_cons_self⟩
          exact ⟨_, pushCells_keeps _ _ _ _ (Heap.get?_push_size _ rfl), rfl⟩
    · rename_i hk
      rw [if_neg hk]
      rcases cf_all r h acc x c e with ⟨a, b, d⟩ | q
      · exact .inl ⟨a, b, List.mem_cons_of_mem _ d⟩
      · exact .inr q
theorem cf_inj : ∀ (l : List (Str × NameKind)) (n : Nat) (acc : List (Str × Addr)), (∀ x y c, acc.lookup x = some c → acc.lookup y = some c → x = y) → (∀ x c, acc.lookup x = some c → c < n) →
    ∀ x y c, (cellsFrom n l acc).lookup x = some c → (cellsFrom n l acc).lookup y = some c → x = y
  | [], _, _, hi, _, x, y, c, e, e' => hi x y c e e'
  | (m, k) :: r, n, acc, hi, hl, x, y, c, e, e' => by
    unfold cellsFrom at e e'
    have one : ∀ z d, ((m, n) :: acc).lookup z = some d → (z = m ∧ d = n) ∨ acc.lookup z = some d := fun z d q => by
      rw [List.lookup_cons] at q
      cases hb : z == m with
      | true => rw [hb] at q; exact .inl ⟨by simpa using hb, by simpa using q.symm⟩
      | false => rw [hb] at q; exact .inr q
    split at e
    · rename_i hk
      rw [if_pos hk] at e'
      refine cf_inj r (n + 1) ((m, n) :: acc) (fun a b d q q' => ?_) (fun a d q => ?_) x y c e e'
      · rcases one a d q with ⟨a1, a2⟩ | a1 <;> rcases one b d q' with ⟨b1, b2⟩ | b1
        · rw [a1, b1]
        · exact absurd (hl b d b1) (by rw [a2]; exact Nat.lt_irrefl _)
        · exact absurd (hl a d a1) (by rw [b2]; exact Nat.lt_irrefl _)
        · exact hi a b d a1 b1
      · rcases one a d q with ⟨_, a2⟩ | a1
        · rw [a2]; exact Nat.lt_succ_self _
        · exact Nat.lt_succ_of_lt (hl a d a1)
    · rename_i hk
      rw [if_neg hk] at e'
      exact cf_inj r n acc hi hl x y c e e'
theorem cf_keep {x : Str} : ∀ (l : List (Str × NameKind)) (n : Nat) (acc : List (Str × Addr)), (∃ c, acc.lookup x = some c) → ∃ c, (cellsFrom n l acc).lookup x = some c
  | [], _, _, h => h
  | (m, k) :: r, n, acc, h => by
    unfold cellsFrom
    split
    · refine cf_keep r _ _ ?_
      rw [List.lookup_cons]
      cases hb : x == m with
      | true => exact ⟨_, rfl⟩
      | false => exact h
    · exact cf_keep r _ _ h
theorem cf_has {x : Str} : ∀ (l : List (Str × NameKind)) (n : Nat) (acc : List (Str × Addr)), (x, NameKind.cell) ∈ l → ∃ c, (cellsFrom n l acc).lookup x = some c
  | [], _, _, h => by simp at h
  | (m, k) :: r, n, acc, h => by
    unfold cellsFrom
    rcases List.mem_cons.mp h with e | h
    · cases e
      exact cf_keep r _ _ ⟨_, List.lookup_cons_self⟩
    · split
      · exact cf_has r _ _ h
      · exact cf_has r _ _ h
theorem cf_ge {x : Str} : ∀ (l : List (Str × NameKind)) (n : Nat) (acc : List (Str × Addr)) (lo : Nat), lo ≤ n → ((x, NameKind.cell) ∈ l ∨ ∀ c, acc.lookup x = some c → lo ≤ c) → ∀ c, (cellsFrom n l acc).lookup x = some c → lo ≤ c
  | [], n, acc, lo, hn, h, c, e => by
    rcases h with h | h
    · simp at h
    · exact h c e
  | (m, k) :: r, n, acc, lo, hn, h, c, e => by
    unfold cellsFrom at e
    split at e
    · rename_i hk
      refine cf_ge r (n + 1) ((m, n) :: acc) lo (by lia) ?_ c e
      rcases h with h | h
      · rcases List.mem_cons.mp h with z | z
        · cases z
          refine .inr fun d q => ?_
          rw [List.lookup_cons_self] at q
          have : n = d := by simpa using q
          lia
        · exact .inl z
      · refine .inr fun d q => ?_
        rw [List.lookup_cons] at q
        cases hb : x == m with
        | true => rw [hb] at q; have : n = d := by simpa using q; 
                  lia
        | false => rw [hb] at q; exact h d q
    · rename_i hk
      refine cf_ge r n acc lo hn ?_ c e
      rcases h with h | h
      · rcases List.mem_cons.mp h with z | z
        · cases z; exact absurd rfl hk
        · exact .inl z
      · exact .inr h
section
variable {M : Model} {A : Around} {E : Value → Shared → Prop} {s : Shared}
theorem newEnv_comp {scope : Scope} {env : Env} {cl : List (Str × Addr)} {Q : Env → Shared → Prop}
    (h : Q (newEnv scope s.heap.objs.size env.globals (cellsFrom (s.heap.objs.size + 1) scope.names cl) env.qual none .none (some env) builtinsNs)
      { s with heap := pushCells (s.heap.push { cls := .type "dict", data := .dict #[] }) scope.names }) :
    wpAny M A (newFunctionEnv scope env.globals cl [] env.qual none .none (some env)) Q E s := by
  simp only [newFunctionEnv, Option.isSome_some, if_true]
  refine wpAny_bind (wpAny_alloc ?_)
  refine wpAny_bind (wpAny_layCells _ (fun name kind cells => ?_) _ _ _ _ ?_)
  · cases hkc : kind == NameKind.cell <;> simp [hkc]
  · rw [List.forIn_nil]
    refine wpAny_bind (wpAny_pure (wpAny_pure ?_))
    have hz : ({ s with heap := s.heap.push { cls := .type "dict", data := .dict #[] } } : Shared).heap.objs.size = s.heap.objs.size + 1 := Heap.size_push ..
    rw [hz]
    exact h
end
abbrev cTests (ifs : List Expr) (env : Env) : Sem Bool := forIn ifs true fun c r => if r = true then do let ok ← isTrue c env (eval c env); pure (ForInStep.yield ok) else pure (ForInStep.yield r)
section
variable {prog : Program} {w : World} {A : Around} {R : Result → Shared → Prop} {s : Shared}
theorem comp_loop {elt target iter : Expr} {ifs : List Expr} {scope : Scope} {pos : Pos} {it acc : Value} {env : Env} (J : Nat → Shared → Prop)
    (turn : ∀ n s, J n s → wpAny (model prog w) A (pyNext it) (fun r s1 => match r with
      | none => R (.ok .next) s1
      | some v => wpAny (model prog w) A (letOwnedTupleGo target it v) (fun _ s2 => wpAny (model prog w) A (assign target env v) (fun _ s3 => wpAny (model prog w) A (cTests ifs env) (fun ok s4 =>
          if ok = true then wpAny (model prog w) A (eval elt env) (fun x s5 => wpAny (model prog w) A (call (.builtin "list.append") [acc, x]) (fun _ s6 => ∃ m, m < n ∧ J m s6) (fun _ _ => False) s5) (fun _ _ => False) s4
          else ∃ m, m < n ∧ J m s4) (fun _ _ => False) s3) (fun _ _ => False) s2) (fun _ _ => False) s1) (fun _ _ => False) s)
    (n : Nat) (h : J n s) : codeAny (model prog w) A (.compLoop (.ListComp elt [⟨target, iter, ifs, 0⟩] scope pos) 0 it acc env) R s := by
  refine codeAny_loop rfl J (fun n s hJ => ?_) n h
  show wpAny _ A ((compTurn (.ListComp elt [⟨target, iter, ifs, 0⟩] scope pos) 0 it acc env).onRaise (fun x => do noteFrame x env; theTreesLotGoes x)) _ _ s
  refine wpAny_noted ?_
  rw [compTurn_list]
  have up : ∀ {α : Type} {t : Sem α} {Q Q' : α → Shared → Prop} {E : Value → Shared → Prop} {s : Shared}, wpAny (model prog w) A t Q (fun _ _ => False) s → (∀ a s, Q a s → Q' a s) → wpAny (model prog w) A t Q' E s :=
    fun h f => wpAny_mono h f fun _ _ z => False.elim z
  refine wpAny_bind (wpAny_standAt (wpAny_bind (up (turn n s hJ) fun r s1 h1 => ?_)))
  cases r with
  | none => exact wpAny_pure h1
  | some v =>
    refine wpAny_bind (up h1 fun _ s2 h2 => ?_)
    refine wpAny_bind (up h2 fun _ s3 h3 => ?_)
    refine wpAny_bind (up h3 fun ok s4 h4 => ?_)
    cases ok with
    | false => exact wpAny_pure ⟨rfl, h4⟩
    | true => exact wpAny_bind (wpAny_bind (up h4 fun x s5 h5 => wpAny_bind (up h5 fun _ s6 h6 => wpAny_pure (wpAny_pure ⟨rfl, h6⟩))))
end
end L2
set_option maxRecDepth 100000
namespace L2
open PySem
def itName (b : Bool) : String := if b then "list_iterator" else "tuple_iterator"
def SeqIs (b : Bool) (h : Heap) (l : Addr) (xs : Array Value) : Prop := match b with | true => h.IsList l xs | false => h.IsTuple l xs
def IterIs (b : Bool) (h : Heap) (i l : Addr) (k : Nat) : Prop := match b with | true => h.IsListIter i l k | false => h.IsTupleIter i l k
theorem SeqIs.at {b : Bool} {h h' : Heap} {l : Addr} {xs : Array Value} (x : SeqIs b h l xs) (hk : ∀ o, h.get? l = some o → h'.get? l = some o) : SeqIs b h' l xs := by
  cases b <;> (obtain ⟨o, e, r⟩ := x; exact ⟨o, hk o e, r⟩)
theorem IterIs.at {b : Bool} {h h' : Heap} {i l : Addr} {k : Nat} (x : IterIs b h i l k) (hk : ∀ o, h.get? i = some o → h'.get? i = some o) : IterIs b h' i l k := by
  cases b <;> (obtain ⟨o, e, r⟩ := x; exact ⟨o, hk o e, r⟩)
theorem IterIs.obj {b : Bool} {h : Heap} {i l : Addr} {k : Nat} (x : IterIs b h i l k) : ∃ o, h.get? i = some o ∧ o.cls = .type (itName b) ∧ o.data = .fields #[.ref l, .int k 0] := by
  cases b <;> exact x
theorem SeqIs.ne {b c : Bool} {h : Heap} {l i m : Addr} {k : Nat} {xs : Array Value} (x : SeqIs b h l xs) (y : IterIs c h i m k) : l ≠ i := by
  rintro rfl
  obtain ⟨o, e, hc, _⟩ := y.obj
  cases b <;> (obtain ⟨o', e', hc', _⟩ := x; rw [e] at e'; cases e'; rw [hc] at hc'; cases c <;> exact absurd (Value.type.inj hc') (by decide))
section
variable {prog : Program} {w : World} {A : Around} {E : Value → Shared → Prop} {s : Shared}
theorem pyIter_seq {b : Bool} {l : Addr} {xs : Array Value} {Q : Value → Shared → Prop} (hl : SeqIs b s.heap l xs)
    (hQ : Q (.ref s.heap.objs.size) { s with heap := s.heap.push { cls := .type (itName b), data := .fields #[.ref l, .int 0 0] } }) : wpAny (model prog w) A (pyIter (.ref l)) Q E s := by
  cases b with
  | true => exact wpAny_pyIter_list hl hQ
  | false => exact wpAny_pyIter_tuple hl hQ
theorem nextOf_tup {it l : Addr} {i : Nat} {items : Array Value} {x : Value} {Q : Value → Shared → Prop} (hit : s.heap.IsTupleIter it l i) (hl : s.heap.IsTuple l items) (hx : items[i]? = some x)
    (hQ : ∀ h', h'.IsTupleIter it l (i + 1) → Heap.SameBut it s.heap h' → Q x { s with heap := h' }) : wpAny (model prog w) A (Builtin.SmallTypes.nextOf (.ref it)) Q E s := by
  obtain ⟨o, ho, hc, hd⟩ := id hit
  obtain ⟨ol, hol, _, nl, hdl⟩ := hl
  unfold Builtin.SmallTypes.nextOf
  refine wpAny_bind (wpAny_callSpecial?_slot (name := Str.ofString "__next__") hit.typeIs F.slot_tuple_iterator_next (wpAny_call_entry F.slot_tuple_iterator_next hit.typeIs F.entry_tuple_iterator_next ?_ (F.args_tuple_iterator_next_1 _)))
  show wpAny _ A.in1 (field (.ref it) 0 >>= _) _ _ s
  refine wpAny_bind (wpAny_field (x := .ref l) ho hd rfl ?_)
  show wpAny _ A.in1 (if (Value.ref l == Value.none) = true then _ else _) _ _ s
  have nn : ¬ ((Value.ref l == Value.none) = true) := Bool.false_ne_true
  rw [if_neg nn]
  show wpAny _ A.in1 (field (.ref it) 1 >>= _) _ _ s
  refine wpAny_bind (wpAny_field (x := .int i 0) ho hd rfl ?_)
  show wpAny _ A.in1 (seqItems? (.ref l) >>= _) _ _ s
  refine wpAny_bind (wpAny_seqItems hol hdl ?_)
  simp only [hx, Int.toNat_natCast]
  refine wpAny_bind (wpAny_setField ho hd (by simp) (wpAny_pure ⟨x, rfl, wpAny_pure (hQ _ ⟨_, Heap.get?_update_self _ ho (Obj.isFreed_of_fields (Obj.data_mapFields hd _)), (Obj.cls_mapFields ..).trans hc, ?_⟩ (Heap.SameBut.update ..))⟩))
  rw [Obj.data_mapFields hd]
  simp [rawInt]
theorem nextOf_tup_end {it l : Addr} {i : Nat} {items : Array Value} {Q : Value → Shared → Prop} (hh : A.handled = none) (hit : s.heap.IsTupleIter it l i) (hl : s.heap.IsTuple l items) (hx : items[i]? = none)
    (hE : ∀ h' e, Heap.ExtBut it s.heap h' → (∃ o, h'.get? e = some o ∧ o.cls = .type "StopIteration") → E (.ref e) { s with heap := h' }) : wpAny (model prog w) A (Builtin.SmallTypes.nextOf (.ref it)) Q E s := by
  obtain ⟨o, ho, hc, hd⟩ := id hit
  obtain ⟨ol, hol, _, nl, hdl⟩ := hl
  unfold Builtin.SmallTypes.nextOf
  refine wpAny_bind (wpAny_callSpecial?_slot (name := Str.ofString "__next__") hit.typeIs F.slot_tuple_iterator_next (wpAny_call_entry F.slot_tuple_iterator_next hit.typeIs F.entry_tuple_iterator_next ?_ (F.args_tuple_iterator_next_1 _)))
  show wpAny _ A.in1 (field (.ref it) 0 >>= _) _ _ s
  refine wpAny_bind (wpAny_field (x := .ref l) ho hd rfl ?_)
  show wpAny _ A.in1 (if (Value.ref l == Value.none) = true then _ else _) _ _ s
  have nn : ¬ ((Value.ref l == Value.none) = true) := Bool.false_ne_true
  rw [if_neg nn]
  show wpAny _ A.in1 (field (.ref it) 1 >>= _) _ _ s
  refine wpAny_bind (wpAny_field (x := .int i 0) ho hd rfl ?_)
  show wpAny _ A.in1 (seqItems? (.ref l) >>= _) _ _ s
  refine wpAny_bind (wpAny_seqItems hol hdl ?_)
  simp only [hx, Int.toNat_natCast]
  refine wpAny_bind (wpAny_rule (wpAny_bind (wpAny_setField ho hd (by simp) ?_)))
  show wpAny _ A.in1 (newExc (.type "StopIteration") [] >>= _) _ _ _
  refine wpAny_bind ?_
  simp only [newExc, newTuple]
  refine wpAny_bind (wpAny_newObj_type ?_ (by size_fits))
  refine wpAny_bind (m := firstArgMember _ _) (wpAny_of_eq (a := Value.none) (by simp only [firstArgMember]; rfl) ?_)
  refine wpAny_newObj_type ?_ (by size_fits)
  simp only [raiseNew]
  refine wpAny_bind (wpAny_handled ?_)
  rw [show A.in1.handled = none from hh]
  refine wpAny_bind (wpAny_pure (wpAny_throw ?_))
  exact hE _ _ (((Heap.SameBut.update ..).extBut.push _).push _) ⟨_, Heap.get?_push_size _ rfl, rfl⟩
theorem nextOf_seq {b : Bool} {it l : Addr} {i : Nat} {items : Array Value} {x : Value} {Q : Value → Shared → Prop} (hit : IterIs b s.heap it l i) (hl : SeqIs b s.heap l items) (hx : items[i]? = some x)
    (hQ : ∀ h', IterIs b h' it l (i + 1) → Heap.SameBut it s.heap h' → Q x { s with heap := h' }) : wpAny (model prog w) A (Builtin.SmallTypes.nextOf (.ref it)) Q E s := by
  cases b with
  | true => exact wpAny_nextOf_list_item hit hl hx hQ
  | false => exact nextOf_tup hit hl hx hQ
theorem nextOf_seq_end {b : Bool} {it l : Addr} {i : Nat} {items : Array Value} {Q : Value → Shared → Prop} (hh : A.handled = none) (hit : IterIs b s.heap it l i) (hl : SeqIs b s.heap l items) (hx : items[i]? = none)
    (hE : ∀ h' e, Heap.ExtBut it s.heap h' → (∃ o, h'.get? e = some o ∧ o.cls = .type "StopIteration") → E (.ref e) { s with heap := h' }) : wpAny (model prog w) A (Builtin.SmallTypes.nextOf (.ref it)) Q E s := by
  cases b with
  | true => exact wpAny_nextOf_list_end hh hit hl hx hE
  | false => exact nextOf_tup_end hh hit hl hx hE
structure ZApart (z ti to i1 i2 : Addr) : Prop where
  a1 : ti ≠ z
  a2 : to ≠ z
  a3 : i1 ≠ z
  a4 : i2 ≠ z
  a5 : ti ≠ to
  a6 : ti ≠ i1
  a7 : ti ≠ i2
  a8 : to ≠ i1
  a9 : to ≠ i2
  a10 : i1 ≠ i2
structure ZSt (b c : Bool) (z ti to i1 i2 l1 l2 : Addr) (k : Nat) (h : Heap) : Prop where
  z : IsZip h z ti to .none
  ti : IsPair h ti (.ref i1) (.ref i2)
  to : ∃ u v, IsPair h to u v
  i1 : IterIs b h i1 l1 k
  i2 : IterIs c h i2 l2 k
structure ZMid (b c : Bool) (z ti to i1 i2 l1 l2 : Addr) (k : Nat) (T : Addr) (h : Heap) : Prop where
  z : IsZip h z ti to (rawInt T)
  ti : IsPair h ti (.ref i1) (.ref i2)
  to : ∃ u v, IsPair h to u v
  i1 : IterIs b h i1 l1 (k + 1)
  i2 : IterIs c h i2 l2 (k + 1)
theorem ZSt.apartL {b c d : Bool} {z ti to i1 i2 l1 l2 l : Addr} {k : Nat} {h : Heap} {xs : Array Value} (x : ZSt b c z ti to i1 i2 l1 l2 k h) (hl : SeqIs d h l xs) (hto : l ≠ to) : l ≠ z ∧ l ≠ i1 ∧ l ≠ i2 := by
  refine ⟨?_, hl.ne x.i1, hl.ne x.i2⟩
  rintro rfl
  have e := x.z
  cases d <;> (obtain ⟨o', e', hc', _⟩ := hl; rw [e] at e'; cases e'; exact absurd (Value.type.inj hc') (by decide))
theorem zip_item {b c : Bool} {z ti to i1 i2 l1 l2 : Addr} {k : Nat} {xs ys : Array Value} {x y : Value} {Q : Value → Shared → Prop} (D : ZApart z ti to i1 i2) (S : ZSt b c z ti to i1 i2 l1 l2 k s.heap)
    (hl1 : SeqIs b s.heap l1 xs) (hl2 : SeqIs c s.heap l2 ys) (n1 : l1 ≠ to) (n2 : l2 ≠ to) (hx : xs[k]? = some x) (hy : ys[k]? = some y)
    (hQ : ∀ h', ZMid b c z ti to i1 i2 l1 l2 k s.heap.objs.size h' → IsPair h' s.heap.objs.size x y → (∀ d o, d ≠ z → d ≠ to → d ≠ i1 → d ≠ i2 → s.heap.get? d = some o → h'.get? d = some o) → Q (.ref s.heap.objs.size) { s with heap := h' }) :
    wpAny (model prog w) A (Builtin.«zip.__next__» ⟨[.ref z], []⟩) (fun fin s' => ∃ v, fin = .done (.ret v) ∧ Q v s') E s := by
  obtain ⟨m1, m2, m3⟩ := S.apartL hl1 n1
  obtain ⟨m4, m5, m6⟩ := S.apartL hl2 n2
  obtain ⟨hz, hTI, ⟨u, v, hTO⟩, h1, h2⟩ := S
  show wpAny _ A (field (.ref z) 2 >>= _) _ _ _
  refine wpAny_bind (wpAny_field (x := .bool false) hz rfl rfl ?_)
  show wpAny _ A (field (.ref z) 3 >>= _) _ _ _
  refine wpAny_bind (wpAny_field (x := .ref ti) hz rfl rfl ?_)
  refine wpAny_bind (wpAny_seqItems hTI rfl ?_)
  show wpAny _ A (Builtin.SmallTypes.ownedTupleIsFree (.ref z) >>= _) _ _ _
  refine wpAny_bind ?_
  unfold Builtin.SmallTypes.ownedTupleIsFree
  refine wpAny_bind (wpAny_field (x := .none) hz rfl rfl (wpAny_pure ?_))
  simp only [if_true]
  refine wpAny_bind (wpAny_rule ?_)
  refine wpAny_bind (wpAny_field (x := .ref to) hz rfl rfl ?_)
  refine wpAny_bind (wpAny_setField_rec hz (by simp) fun g1 hz1 s1 => ?_)
  replace hz1 : IsZip g1 z ti to .ellipsis := hz1
  refine wpAny_bind ?_
  simp only [List.forIn_cons, List.forIn_nil, List.zipIdx_cons, List.zipIdx_nil]
  refine wpAny_bind (wpAny_bind (wpAny_onRaise ?_))
  show wpAny _ A (Builtin.SmallTypes.nextOf (.ref i1) >>= _) _ _ _
  refine wpAny_bind (nextOf_seq (h1.at fun o e => s1.extBut _ _ D.a3 e) (hl1.at fun o e => s1.extBut _ _ m1 e) hx fun g2 k1 s2 => wpAny_pure ?_)
  have hTO2 : IsPair g2 to u v := s2.extBut _ _ D.a8 (s1.extBut _ _ D.a2 hTO)
  refine wpAny_bind (wpAny_seqItems hTO2 rfl ?_)
  refine wpAny_bind (wpAny_updateSeq_pair hTO2 fun g3 hTO3 s3 => ?_)
  replace hTO3 : IsPair g3 to x v := hTO3
  refine wpAny_bind (wpAny_letGo (wpAny_pure ?_))
  refine wpAny_bind (wpAny_bind (wpAny_onRaise ?_))
  show wpAny _ A (Builtin.SmallTypes.nextOf (.ref i2) >>= _) _ _ _
  refine wpAny_bind (nextOf_seq (h2.at fun o e => s3.extBut _ _ D.a9.symm (s2.extBut _ _ D.a10.symm (s1.extBut _ _ D.a4 e))) (hl2.at fun o e => s3.extBut _ _ n2 (s2.extBut _ _ m5 (s1.extBut _ _ m4 e))) hy fun g4 k2 s4 => wpAny_pure ?_)
  have hTO4 : IsPair g4 to x v := s4.extBut _ _ D.a9 hTO3
  refine wpAny_bind (wpAny_seqItems hTO4 rfl ?_)
  refine wpAny_bind (wpAny_updateSeq_pair hTO4 fun g5 hTO5 s5 => ?_)
  replace hTO5 : IsPair g5 to x y := hTO5
  refine wpAny_bind (wpAny_letGo (wpAny_pure (wpAny_pure ?_)))
  refine wpAny_bind (wpAny_seqItems hTO5 rfl ?_)
  refine wpAny_bind (wpAny_newTuple ?_)
  have sz : g5.objs.size = s.heap.objs.size := by rw [s5.1, s4.1, s3.1, s2.1, s1.1]
  have z5 : IsZip g5 z ti to .ellipsis := s5.extBut _ _ D.a2.symm (s4.extBut _ _ D.a4.symm (s3.extBut _ _ D.a2.symm (s2.extBut _ _ D.a3.symm hz1)))
  have kp : ∀ d o, d ≠ z → d ≠ to → d ≠ i1 → d ≠ i2 → s.heap.get? d = some o → g5.get? d = some o := fun d o d1 d2 d3 d4 e => s5.extBut _ _ d2 (s4.extBut _ _ d4 (s3.extBut _ _ d2 (s2.extBut _ _ d3 (s1.extBut _ _ d1 e))))
  have j1 : IterIs b g5 i1 l1 (k + 1) := k1.at fun o e => s5.extBut _ _ D.a8.symm (s4.extBut _ _ D.a10 (s3.extBut _ _ D.a8.symm e))
  have j2 : IterIs c g5 i2 l2 (k + 1) := k2.at fun o e => s5.extBut _ _ D.a9.symm e
  have zl : z < g5.objs.size := Heap.lt_size z5
  show wpAny _ A (Builtin.SmallTypes.ownedTupleHandOut (.ref z) (.ref g5.objs.size) >>= _) _ _ _
  refine wpAny_bind ?_
  unfold Builtin.SmallTypes.ownedTupleHandOut
  have z6 : IsZip (g5.push { cls := .type "tuple", data := .seq #[x, y] }) z ti to .ellipsis := Heap.get?_push_of_some _ z5
  refine wpAny_bind (wpAny_setField_rec z6 (by simp) fun g7 z7 s7 => ?_)
  replace z7 : IsZip g7 z ti to (rawInt g5.objs.size) := z7
  refine wpAny_setField_rec z7 (by simp) fun g8 z8 s8 => ?_
  replace z8 : IsZip g8 z ti to (rawInt g5.objs.size) := z8
  have up : ∀ d o, d ≠ z → g5.get? d = some o → g8.get? d = some o := fun d o d1 e => s8.extBut _ _ d1 (s7.extBut _ _ d1 (Heap.get?_push_of_some _ e))
  have T8 : IsPair g8 g5.objs.size x y := s8.extBut _ _ (Nat.ne_of_gt zl) (s7.extBut _ _ (Nat.ne_of_gt zl) (Heap.get?_push_size _ rfl))
  rw [sz] at z8 T8
  refine wpAny_pure ⟨_, rfl, ?_⟩
  show Q (.ref g5.objs.size) _
  rw [sz]
  exact hQ g8 ⟨z8, up _ _ D.a1 (kp _ _ D.a1 D.a5 D.a6 D.a7 hTI), ⟨_, _, up _ _ D.a2 hTO5⟩, j1.at fun o e => up _ o D.a3 e, j2.at fun o e => up _ o D.a4 e⟩ T8 fun d o d1 d2 d3 d4 e => up d o d1 (kp d o d1 d2 d3 d4 e)
theorem zip_stop {b c : Bool} {z ti to i1 i2 l1 l2 : Addr} {k : Nat} {xs ys : Array Value} {Q : Fin → Shared → Prop} (hh : A.handled = none) (D : ZApart z ti to i1 i2) (S : ZSt b c z ti to i1 i2 l1 l2 k s.heap)
    (hl1 : SeqIs b s.heap l1 xs) (hl2 : SeqIs c s.heap l2 ys) (n1 : l1 ≠ to) (n2 : l2 ≠ to) (hend : xs[k]? = none ∨ ys[k]? = none)
    (hE : ∀ h' e, (∀ d o, d ≠ z → d ≠ to → d ≠ i1 → d ≠ i2 → s.heap.get? d = some o → h'.get? d = some o) → (∃ o, h'.get? e = some o ∧ o.cls = .type "StopIteration") → E (.ref e) { s with heap := h' }) :
    wpAny (model prog w) A (Builtin.«zip.__next__» ⟨[.ref z], []⟩) Q E s := by
  obtain ⟨m1, m2, m3⟩ := S.apartL hl1 n1
  obtain ⟨m4, m5, m6⟩ := S.apartL hl2 n2
  obtain ⟨hz, hTI, ⟨u, v, hTO⟩, h1, h2⟩ := S
  show wpAny _ A (field (.ref z) 2 >>= _) _ _ _
  refine wpAny_bind (wpAny_field (x := .bool false) hz rfl rfl ?_)
  show wpAny _ A (field (.ref z) 3 >>= _) _ _ _
  refine wpAny_bind (wpAny_field (x := .ref ti) hz rfl rfl ?_)
  refine wpAny_bind (wpAny_seqItems hTI rfl ?_)
  show wpAny _ A (Builtin.SmallTypes.ownedTupleIsFree (.ref z) >>= _) _ _ _
  refine wpAny_bind ?_
  unfold Builtin.SmallTypes.ownedTupleIsFree
  refine wpAny_bind (wpAny_field (x := .none) hz rfl rfl (wpAny_pure ?_))
  simp only [if_true]
  refine wpAny_bind (wpAny_rule ?_)
  refine wpAny_bind (wpAny_field (x := .ref to) hz rfl rfl ?_)
  refine wpAny_bind (wpAny_setField_rec hz (by simp) fun g1 hz1 s1 => ?_)
  replace hz1 : IsZip g1 z ti to .ellipsis := hz1
  refine wpAny_bind ?_
  simp only [List.forIn_cons, List.forIn_nil, List.zipIdx_cons, List.zipIdx_nil]
  refine wpAny_bind (wpAny_bind (wpAny_onRaise ?_))
  show wpAny _ A (Builtin.SmallTypes.nextOf (.ref i1) >>= _) _ _ _
  have q1 : IterIs b g1 i1 l1 k := h1.at fun o e => s1.extBut _ _ D.a3 e
  have q2 : SeqIs b g1 l1 xs := hl1.at fun o e => s1.extBut _ _ m1 e
  cases hx : xs[k]? with
  | none =>
    refine wpAny_bind (nextOf_seq_end hh q1 q2 hx fun g2 e s2 he => ?_)
    obtain ⟨oe, hoe, hce⟩ := he
    have z2 : IsZip g2 z ti to .ellipsis := s2 _ _ D.a3.symm hz1
    have hez : e ≠ z := fun q => by subst q; rw [z2] at hoe; cases hoe; exact absurd (Value.type.inj hce) (by decide)
    exact wpAny_setField_rec z2 (by simp) fun g3 _ s3 => hE g3 e (fun d o d1 _ d3 _ q => s3.extBut _ _ d1 (s2 _ _ d3 (s1.extBut _ _ d1 q))) ⟨oe, s3.extBut _ _ hez hoe, hce⟩
  | some x =>
    have hy : ys[k]? = none := by
      rcases hend with h | h
      · rw [hx] at h; cases h
      · exact h
    refine wpAny_bind (nextOf_seq q1 q2 hx fun g2 k1 s2 => wpAny_pure ?_)
    have hTO2 : IsPair g2 to u v := s2.extBut _ _ D.a8 (s1.extBut _ _ D.a2 hTO)
    refine wpAny_bind (wpAny_seqItems hTO2 rfl ?_)
    refine wpAny_bind (wpAny_updateSeq_pair hTO2 fun g3 hTO3 s3 => ?_)
    refine wpAny_bind (wpAny_letGo (wpAny_pure ?_))
    refine wpAny_bind (wpAny_bind (wpAny_onRaise ?_))
    show wpAny _ A (Builtin.SmallTypes.nextOf (.ref i2) >>= _) _ _ _
    refine wpAny_bind (nextOf_seq_end hh (h2.at fun o e => s3.extBut _ _ D.a9.symm (s2.extBut _ _ D.a10.symm (s1.extBut _ _ D.a4 e))) (hl2.at fun o e => s3.extBut _ _ n2 (s2.extBut _ _ m5 (s1.extBut _ _ m4 e))) hy fun g4 e s4 he => ?_)
    obtain ⟨oe, hoe, hce⟩ := he
    have z4 : IsZip g4 z ti to .ellipsis := s4 _ _ D.a4.symm (s3.extBut _ _ D.a2.symm (s2.extBut _ _ D.a3.symm hz1))
    have hez : e ≠ z := fun q => by subst q; rw [z4] at hoe; cases hoe; exact absurd (Value.type.inj hce) (by decide)
    exact wpAny_setField_rec z4 (by simp) fun g5 _ s5 => hE g5 e (fun d o d1 d2 d3 d4 q => s5.extBut _ _ d1 (s4 _ _ d4 (s3.extBut _ _ d2 (s2.extBut _ _ d3 (s1.extBut _ _ d1 q))))) ⟨oe, s5.extBut _ _ hez hoe, hce⟩
theorem next_zip {b c : Bool} {z ti to i1 i2 l1 l2 : Addr} {k : Nat} {xs ys : Array Value} {x y : Value} {Q : Option Value → Shared → Prop} (D : ZApart z ti to i1 i2) (S : ZSt b c z ti to i1 i2 l1 l2 k s.heap)
    (hl1 : SeqIs b s.heap l1 xs) (hl2 : SeqIs c s.heap l2 ys) (n1 : l1 ≠ to) (n2 : l2 ≠ to) (hx : xs[k]? = some x) (hy : ys[k]? = some y)
    (hQ : ∀ h', ZMid b c z ti to i1 i2 l1 l2 k s.heap.objs.size h' → IsPair h' s.heap.objs.size x y → (∀ d o, d ≠ z → d ≠ to → d ≠ i1 → d ≠ i2 → s.heap.get? d = some o → h'.get? d = some o) → Q (some (.ref s.heap.objs.size)) { s with heap := h' }) :
    wpAny (model prog w) A (pyNext (.ref z)) Q E s := by
  have hT : s.TypeIs (.ref z) "zip" := ⟨_, S.z, rfl⟩
  unfold pyNext
  exact wpAny_bind (wpAny_attempt (wpAny_callSpecial?_slot (name := Str.ofString "__next__") hT F.slot_zip_next (wpAny_call_entry F.slot_zip_next hT F.entry_zip_next
    (zip_item D S hl1 hl2 n1 n2 hx hy fun h' a1 a2 a3 => wpAny_pure (hQ h' a1 a2 a3)) (F.args_zip_next_1 _))))
theorem next_zip_end {b c : Bool} {z ti to i1 i2 l1 l2 : Addr} {k : Nat} {xs ys : Array Value} {Q : Option Value → Shared → Prop} (hh : A.handled = none) (D : ZApart z ti to i1 i2) (S : ZSt b c z ti to i1 i2 l1 l2 k s.heap)
    (hl1 : SeqIs b s.heap l1 xs) (hl2 : SeqIs c s.heap l2 ys) (n1 : l1 ≠ to) (n2 : l2 ≠ to) (hend : xs[k]? = none ∨ ys[k]? = none)
    (hQ : ∀ h', (∀ d o, d ≠ z → d ≠ to → d ≠ i1 → d ≠ i2 → s.heap.get? d = some o → h'.get? d = some o) → Q none { s with heap := h' }) : wpAny (model prog w) A (pyNext (.ref z)) Q E s := by
  have hT : s.TypeIs (.ref z) "zip" := ⟨_, S.z, rfl⟩
  unfold pyNext
  refine wpAny_bind (wpAny_attempt (wpAny_callSpecial?_slot (name := Str.ofString "__next__") hT F.slot_zip_next (wpAny_call_entry F.slot_zip_next hT F.entry_zip_next
    (zip_stop hh D S hl1 hl2 n1 n2 hend fun h' e hk he => ?_) (F.args_zip_next_1 _))))
  obtain ⟨o, ho, hc⟩ := he
  refine wpAny_bind (wpAny_isInstance (T := "StopIteration") (b := true) ⟨o, ho, hc⟩ isSubtype_stop (wpAny_pure (hQ _ hk)))
def zh1 (h : Heap) (b : Bool) (l : Addr) : Heap := h.push { cls := .type (itName b), data := .fields #[.ref l, .int 0 0] }
def zh3 (h : Heap) (b c : Bool) (l1 l2 : Addr) : Heap := (zh1 (zh1 h b l1) c l2).push { cls := .type "tuple", data := .seq #[.ref h.objs.size, .ref (zh1 h b l1).objs.size] }
def zh4 (h : Heap) (b c : Bool) (l1 l2 : Addr) : Heap := (zh3 h b c l1 l2).push { cls := .type "tuple", data := .seq #[.none, .none] }
def zh5 (h : Heap) (b c : Bool) (l1 l2 : Addr) : Heap := (zh4 h b c l1 l2).push { cls := .type "zip", data := .fields #[.none, .bool false, .bool false, .ref (zh1 (zh1 h b l1) c l2).objs.size, .ref (zh3 h b c l1 l2).objs.size] }
end
theorem meets_zip (b c : Bool) (l1 l2 : Addr) (xs ys : Array Value) :
    Meets (Builtin.«zip.__new__» ⟨[.type "zip", .ref l1, .ref l2], []⟩) (fun _ R s => SeqIs b s.heap l1 xs ∧ SeqIs c s.heap l2 ys ∧
      R (.ok (.ret (.ref (zh4 s.heap b c l1 l2).objs.size))) { s with heap := zh5 s.heap b c l1 l2 }) :=
  .of_wp fun prog w A R s h => by
    obtain ⟨hp, g, d, tk, os⟩ := s
    obtain ⟨hl1, hl2, h⟩ := h
    have hsub := sub_zip
    have q1 : SeqIs b (Shared.heap ⟨hp, g, d, tk, os⟩) l1 xs := hl1
    have q2 : SeqIs c (Shared.heap ⟨hp.push { cls := .type (itName b), data := .fields #[.ref l1, .int 0 0] }, g, d, tk, os⟩) l2 ys := hl2.at fun o e => Heap.get?_push_of_some _ e
    wp_walk using pyIter_seq q1, pyIter_seq q2
    exact ⟨_, rfl, h⟩
section
variable {prog : Program} {w : World} {A : Around} {E : Value → Shared → Prop} {s : Shared}
theorem call_zip {b c : Bool} {l1 l2 : Addr} {xs ys : Array Value} {Q : Value → Shared → Prop} (hl1 : SeqIs b s.heap l1 xs) (hl2 : SeqIs c s.heap l2 ys)
    (h : ∀ h' z ti to i1 i2, ZApart z ti to i1 i2 → ZSt b c z ti to i1 i2 l1 l2 0 h' → (∀ d ∈ [z, ti, to, i1, i2], s.heap.objs.size ≤ d) → (∀ d o, s.heap.get? d = some o → h'.get? d = some o) → Q (.ref z) { s with heap := h' }) :
    wpAny (model prog w) A (call (.type "zip") [.ref l1, .ref l2]) Q E s := by
  refine callType_new F.called_zip (by decide) (F.typeCall_zip_2 _ _) (F.newCall_zip_2 _ _) (fun obj => F.args_object_init_3 obj _ _) F.entry_zip_new (meets_zip b c l1 l2 xs ys) ⟨hl1, hl2, ?_⟩
  unfold zh5 zh4 zh3
  generalize h1 : zh1 s.heap b l1 = g1
  generalize h2 : zh1 g1 c l2 = g2
  have z1 : g1.objs.size = s.heap.objs.size + 1 := by rw [← h1]; exact Heap.size_push ..
  have z2 : g2.objs.size = s.heap.objs.size + 2 := by rw [← h2]; exact (Heap.size_push ..).trans (by rw [z1])
  generalize h3 : g2.push { cls := .type "tuple", data := .seq #[.ref s.heap.objs.size, .ref g1.objs.size] } = g3
  have z3 : g3.objs.size = s.heap.objs.size + 3 := by rw [← h3, Heap.size_push, z2]
  generalize h4 : g3.push { cls := .type "tuple", data := .seq #[.none, .none] } = g4
  have z4 : g4.objs.size = s.heap.objs.size + 4 := by rw [← h4, Heap.size_push, z3]
  have e1 : g1.get? s.heap.objs.size = some { cls := .type (itName b), data := .fields #[.ref l1, .int 0 0] } := by rw [← h1]; exact Heap.get?_push_size _ rfl
  have e2 : g2.get? g1.objs.size = some { cls := .type (itName c), data := .fields #[.ref l2, .int 0 0] } := by rw [← h2]; exact Heap.get?_push_size _ rfl
  have e3 : g3.get? g2.objs.size = some { cls := .type "tuple", data := .seq #[.ref s.heap.objs.size, .ref g1.objs.size] } := by rw [← h3]; exact Heap.get?_push_size _ rfl
  have e4 : g4.get? g3.objs.size = some { cls := .type "tuple", data := .seq #[.none, .none] } := by rw [← h4]; exact Heap.get?_push_size _ rfl
  have k1 : ∀ d o, s.heap.get? d = some o → g1.get? d = some o := fun d o e => by rw [← h1]; exact Heap.get?_push_of_some _ e
  have k2 : ∀ d o, g1.get? d = some o → g2.get? d = some o := fun d o e => by rw [← h2]; exact Heap.get?_push_of_some _ e
  have k3 : ∀ d o, g2.get? d = some o → g3.get? d = some o := fun d o e => by rw [← h3]; exact Heap.get?_push_of_some _ e
  have k4 : ∀ d o, g3.get? d = some o → g4.get? d = some o := fun d o e => by rw [← h4]; exact Heap.get?_push_of_some _ e
  show _ ∧ _
  refine ⟨⟨_, Heap.get?_push_size _ rfl, rfl⟩, ?_⟩
  refine h _ g4.objs.size g2.objs.size g3.objs.size s.heap.objs.size g1.objs.size ⟨?_, ?_, ?_, ?_, ?_, ?_, ?_, ?_, ?_, ?_⟩ ⟨Heap.get?_push_size _ rfl, Heap.get?_push_of_some _ (k4 _ _ e3), ⟨_, _, Heap.get?_push_of_some _ e4⟩, ?_, ?_⟩ (fun d hd => ?_) fun d o e => Heap.get?_push_of_some _ (k4 _ _ (k3 _ _ (k2 _ _ (k1 _ _ e))))
  · rw [z2, z4]; first | exact Nat.ne_of_lt (by lia) | exact Nat.ne_of_gt (by lia)
  · rw [z3, z4]; first | exact Nat.ne_of_lt (by lia) | exact Nat.ne_of_gt (by lia)
  · rw [z4]; first | exact Nat.ne_of_lt (by lia) | exact Nat.ne_of_gt (by lia)
  · rw [z1, z4]; first | exact Nat.ne_of_lt (by lia) | exact Nat.ne_of_gt (by lia)
  · rw [z2, z3]; first | exact Nat.ne_of_lt (by lia) | exact Nat.ne_of_gt (by lia)
  · rw [z2]; first | exact Nat.ne_of_lt (by lia) | exact Nat.ne_of_gt (by lia)
  · rw [z2, z1]; first | exact Nat.ne_of_lt (by lia) | exact Nat.ne_of_gt (by lia)
  · rw [z3]; first | exact Nat.ne_of_lt (by lia) | exact Nat.ne_of_gt (by lia)
  · rw [z3, z1]; first | exact Nat.ne_of_lt (by lia) | exact Nat.ne_of_gt (by lia)
  · rw [z1]; first | exact Nat.ne_of_lt (by lia) | exact Nat.ne_of_gt (by lia)
  · cases b <;> exact ⟨_, Heap.get?_push_of_some _ (k4 _ _ (k3 _ _ (k2 _ _ e1))), rfl, rfl⟩
  · cases c <;> exact ⟨_, Heap.get?_push_of_some _ (k4 _ _ (k3 _ _ e2)), rfl, rfl⟩
  · simp only [List.mem_cons, List.not_mem_nil, or_false] at hd
    rcases hd with rfl | rfl | rfl | rfl | rfl
    · rw [z4]; lia
    · rw [z2]; lia
    · rw [z3]; lia
    · exact Nat.le_refl _
    · rw [z1]; lia
end
end L2
set_option maxRecDepth 100000
namespace L2
open PySem PySem.Spec PyProof.Rows
theorem Inv.track {X : Cx} {pins : List (Addr × Obj)} {σ : St} {H : Hp} {s : Shared} {a : Addr} {o : HO} (I : Inv X pins σ H s) (hn : H a = none) (hz : X.s₀.heap.objs.size ≤ a) (hL : a ≠ X.env.locals)
    (hc : ∀ x c, X.env.cells.lookup x = some c → c ≠ a) (hp : ∀ p ∈ X.pn ++ pins, p.1 ≠ a) (new : ObjOk X.prog X.w (upd H a o) s.heap a o) : Inv X pins σ (upd H a o) s := by
  have nb : ∀ b u, H b = some u → b ≠ a := fun b u e => ne_of_none e hn
  refine ⟨I.ok, I.os, I.bare, ⟨I.base.keep, I.base.slot, fun b u e n hx => ?_, I.base.there, fun b xs e => ?_, fun b u xs e => ?_, fun b ps e => ?_⟩, I.loc, I.cell, ?_, fun x c e => ?_, fun p hq => ?_, fun b u e => ?_, I.len⟩
  · rw [upd_ne (Nat.ne_of_lt (Nat.lt_of_lt_of_le (Heap.lt_size e) hz))]; exact I.base.free b u e n hx
  · have q := I.base.tups b xs e; rw [upd_ne (nb b _ q)]; exact q
  · have q := I.base.frzs b u xs e; rw [upd_ne (nb b _ q)]; exact q
  · obtain ⟨m, q⟩ := I.base.tbls b ps e; exact ⟨m, by rw [upd_ne (nb b _ q)]; exact q⟩
  · rw [upd_ne (Ne.symm hL)]; exact I.free
  · rw [upd_ne (hc x c e)]; exact I.freeC x c e
  · obtain ⟨q1, q2, q3⟩ := I.pin p hq
    exact ⟨q1, by rw [upd_ne (hp p hq)]; exact q2, q3⟩
  · by_cases hb : b = a
    · subst hb; rw [upd_same] at e; cases e; exact new
    · rw [upd_ne hb] at e
      exact (I.hok b u e).stay (fun _ _ _ q => q) (fun c q => by rw [upd_ne (nb c _ q)]; exact q) fun c xs q => by rw [upd_ne (nb c _ q)]; exact q
structure CompOk (X : Cx) (scope : Scope) (M : List Str) : Prop where
  kind : scope.kind = .function
  uniq : ∀ y ∈ scope.names, scope.names.lookup y.1 = some y.2
  frees : ∀ y ∈ scope.names, y.2 = .free → (X.env.kindOf y.1 = some .cell ∨ X.env.kindOf y.1 = some .free)
  shadow : ∀ x ∈ M, scope.names.lookup x ≠ some .local ∧ scope.names.lookup x ≠ some .cell
  same : ∀ (i : Nat) (x : Str), M[i]? = some x → scope.names.lookup x = some .free → X.N[i]? = some x
  mlen : M.length = X.N.length
def compChk (N M : List Str) (out sc : Scope) : Bool :=
  (sc.kind == .function && sc.names.all (fun y => sc.names.lookup y.1 == some y.2 && (y.2 != .free || (out.names.lookup y.1 == some .cell || out.names.lookup y.1 == some .free))) &&
    M.all (fun x => sc.names.lookup x != some .local && sc.names.lookup x != some .cell)) && (M.length == N.length && (M.zip N).all (fun p => sc.names.lookup p.1 != some .free || p.1 == p.2))
theorem compOk {X : Cx} {sc : Scope} {M : List Str} (h : compChk X.N M X.env.scope sc = true) : CompOk X sc M := by
  unfold compChk at h
  rw [Bool.and_eq_true, Bool.and_eq_true, Bool.and_eq_true, Bool.and_eq_true, List.all_eq_true, List.all_eq_true, List.all_eq_true] at h
  obtain ⟨⟨⟨h1, h2⟩, h3⟩, h4, h5⟩ := h
  have hl : M.length = X.N.length := by simpa using h4
  refine ⟨by simpa using h1, fun y hy => ?_, fun y hy hf => ?_, fun x hx => ?_, fun i x hi hf => ?_, hl⟩
  · have := h2 y hy
    rw [Bool.and_eq_true] at this
    simpa using this.1
  · have := h2 y hy
    rw [Bool.and_eq_true] at this
    have q := this.2
    rw [hf] at q
    have q' : (X.env.scope.names.lookup y.1 == some .cell || X.env.scope.names.lookup y.1 == some .free) = true := by simpa using q
    rw [Bool.or_eq_true] at q'
    exact q'.imp (fun z => (show X.env.scope.names.lookup y.1 = some .cell by simpa using z)) fun z => (show X.env.scope.names.lookup y.1 = some .free by simpa using z)
  · have := h3 x hx
    rw [Bool.and_eq_true] at this
    exact ⟨by simpa using this.1, by simpa using this.2⟩
  · have hlt : i < X.N.length := by rw [← hl]; exact (List.getElem?_eq_some_iff.mp hi).1
    have hn : X.N[i]? = some X.N[i] := List.getElem?_eq_getElem hlt
    have hz : (M.zip X.N)[i]? = some (x, X.N[i]) := by rw [List.getElem?_zip_eq_some]; exact ⟨hi, hn⟩
    have := h5 _ (List.mem_of_getElem? hz)
    rw [Bool.or_eq_true] at this
    rcases this with z | z
    · rw [hf] at z; simp at z
    · have e : x = X.N[i] := by simpa using z
      rw [hn, ← e]
def cellsC (X : Cx) (scope : Scope) (C : Addr) : List (Str × Addr) := cellsFrom (C + 1) scope.names (closL X.env scope.names [])
def cxComp (X : Cx) (scope : Scope) (own M : List Str) (C : Addr) (s2 : Shared) (H2 : Hp) (fp : List Addr) : Cx where
  prog := X.prog
  w := X.w
  K := X.K
  mg := X.mg
  base := X.base
  A := X.A
  N := own ++ M
  s₀ := s2
  H₀ := H2
  env := compEnvC scope (cellsC X scope C) C X.env
  outer := X.stack
  stack := X.stack
  ex := fp
  fn := fun x => scope.names.lookup x == some .cell
  calm := X.calm
  pn := []
  xe := fun _ _ => False
def PTs (X : Cx) (ifs : List Expr) (t : TT) : Prop :=
  ∀ (pins : List (Addr × Obj)) (s : Shared) (σ : St) (H : Hp) (Q : Bool → Hp → Prop), Inv X pins σ H s → t σ H Q → wpAny (model X.prog X.w) X.A (cTests ifs X.env) (TP X pins σ Q) X.xe s
def tYes : TT := fun _ H Q => Q true H
theorem pts_nil {X : Cx} : PTs X [] tYes := fun _ _ _ H _ I h => wpAny_pure ⟨H, I, h⟩
theorem pts_one {X : Cx} {c : Expr} {t : TT} (hc : PT X c t) : PTs X [c] t := by
  intro pins s σ H Q I h
  show wpAny _ _ (forIn [c] true _) _ _ s
  simp only [List.forIn_cons, List.forIn_nil, if_true]
  exact wpAny_bind (wpAny_bind (thn (hc pins s σ H Q I h) fun b s' hb => wpAny_pure (wpAny_pure hb)))
def tComp (wi : TI) (own : Nat) (g : TG) (tt : TT) (te : TE) : TE := fun σ H Q => wi σ H fun J H1 => ∃ W : Nat → Nat → List V → Hp → Prop, (∃ m, W 0 m [] H1) ∧ ∀ i m acc H, W i m acc H →
  (J.stop i H ∧ acc.length ≤ sizeLine ∧ ∀ D, H D = none → Q (.ref D) (upd H D (.lst acc))) ∨
  (J.go i H ∧ acc.length < sizeLine ∧ ∀ x H', J.yld i H x H' → g x (List.replicate own none ++ σ) H' fun σ2 H2 => σ2.drop own = σ ∧ tt σ2 H2 fun c H3 =>
    if c = true then te σ2 H3 fun v H4 => ∃ m', m' < m ∧ W (i + 1) m' (acc ++ [v]) H4 else ∃ m', m' < m ∧ W (i + 1) m' acc H3)
section
variable {X : Cx} {scope : Scope} {own M : List Str} {pins : List (Addr × Obj)} {σ : St} {H2 : Hp} {s2 : Shared} {fp : List Addr}
theorem CompOk.cells (ok : CompOk X scope M) (I : Inv X pins σ H2 s2) : ∀ y ∈ scope.names, y.2 = .free → ∃ c, X.env.cells.lookup y.1 = some c := fun y hy hf => I.ok.has y.1 (ok.frees y hy hf)
theorem CompOk.kindIn (ok : CompOk X scope M) {x : Str} {C : Addr} {k : NameKind} (h : (compEnvC scope (cellsC X scope C) C X.env).kindOf x = some k) :
    scope.names.lookup x = some k ∨ (k = .cell ∧ scope.names.lookup x = some .free) := by
  have h' : (relabel scope X.env).names.lookup x = some k := h
  unfold relabel at h'
  rw [relab_lookup] at h'
  cases e : scope.names.lookup x with
  | none => rw [e] at h'; simp at h'
  | some j =>
    rw [e, Option.map_some] at h'
    have h2 := Option.some.inj h'
    split at h2
    · rename_i hc
      have : j = .free := by
        rw [Bool.and_eq_true, Bool.and_eq_true] at hc
        simpa using hc.1.1
      exact .inr ⟨h2.symm, by rw [this]⟩
    · exact .inl (by rw [h2])
theorem CompOk.cellsFrom_old (ok : CompOk X scope M) (I : Inv X pins σ H2 s2) {C : Addr} {x : Str} {c : Addr} (h : (cellsC X scope C).lookup x = some c) (hx : scope.names.lookup x ≠ some .cell) : X.env.cells.lookup x = some c := by
  have e0 : ∀ (l : List (Str × NameKind)) (n : Nat) (acc : List (Str × Addr)), (x, NameKind.cell) ∉ l → (cellsFrom n l acc).lookup x = acc.lookup x := by
    intro l
    induction l with
    | nil => intro n acc _; rfl
    | cons y r ih =>
      intro n acc hy
      obtain ⟨m, k⟩ := y
      unfold cellsFrom
      split
      · rename_i hk
        have hk' : k = .cell := by simpa using hk
        rw [ih _ _ fun z => hy (List.mem_cons_of_mem _ z), List.lookup_cons]
        have : (x == m) = false := by
          cases hb : x == m with
          | false => rfl
          | true =>
            have e : x = m := by simpa using hb
            exact absurd (by rw [hk', e]; exact List.mem_cons_self) hy
        rw [this]
      · exact ih _ _ fun z => hy (List.mem_cons_of_mem _ z)
  unfold cellsC at h
  rw [e0 _ _ _ fun hm => hx (ok.uniq _ hm)] at h
  exact closL_sub scope.names [] (ok.cells I) (fun _ _ z => by simp at z) x c h
theorem inv_comp (ok : CompOk X scope M) (hc : X.calm = true) (I : Inv X pins σ H2 s2) (hf : ∀ b ∈ fp, FpOk X pins H2 b ∧ b < s2.heap.objs.size) {C : Addr} (hC : C = s2.heap.objs.size + 1) {h4 : Heap}
    (hh : h4 = pushCells ((s2.heap.push { cls := .type "list", dict := none, data := .seq ([] : List Value).toArray }).push { cls := .type "dict", data := .dict #[] }) scope.names) :
    Inv (cxComp X scope own M C s2 H2 fp) [] (List.replicate own.length none ++ σ) H2 { s2 with heap := h4 } := by
  have zC : (s2.heap.push { cls := .type "list", dict := none, data := .seq ([] : List Value).toArray }).objs.size = C := by rw [Heap.size_push, hC]
  have zC1 : ((s2.heap.push { cls := .type "list", dict := none, data := .seq ([] : List Value).toArray }).push { cls := .type "dict", data := .dict #[] }).objs.size = C + 1 := by rw [Heap.size_push, zC]
  have keep : ∀ b o, s2.heap.get? b = some o → h4.get? b = some o := fun b o e => by
    rw [hh]; exact pushCells_keeps _ _ _ _ (Heap.get?_push_of_some _ (Heap.get?_push_of_some _ e))
  have cellOld : ∀ x c, X.env.cells.lookup x = some c → c < s2.heap.objs.size := fun x c e => by obtain ⟨v, q⟩ := I.cell x c e; exact q.lt
  have cellB : ∀ x c, (cellsC X scope C).lookup x = some c → (h4.IsCell c none ∧ C + 1 ≤ c ∧ scope.names.lookup x = some .cell) ∨ X.env.cells.lookup x = some c := fun x c e => by
    by_cases hx : scope.names.lookup x = some .cell
    · have e' := e
      unfold cellsC at e'
      rw [← zC1] at e'
      rcases cf_all _ _ _ x c e' with ⟨a, b, d⟩ | q
      · exact .inl ⟨by rw [hh]; exact a, by rw [zC1] at b; exact b, hx⟩
      · exact .inr (closL_sub scope.names [] (ok.cells I) (fun _ _ z => by simp at z) x c q)
    · exact .inr (ok.cellsFrom_old I e hx)
  have hNs : ∃ m, h4.Ns C m := by
    have q : ((s2.heap.push { cls := .type "list", dict := none, data := .seq ([] : List Value).toArray }).push { cls := .type "dict", data := .dict #[] }).Ns C (fun _ => none) := by
      have := Heap.Ns.new (s2.heap.push { cls := .type "list", dict := none, data := .seq ([] : List Value).toArray }) (.type "dict")
      rw [zC] at this
      exact this
    exact ⟨_, q.keeps fun b o e => by rw [hh]; exact pushCells_keeps _ _ _ _ e⟩
  have nfs : ∀ b ∈ fp, b ∉ frs X.stack := fun b hb hx => by
    obtain ⟨⟨_, f1, f2, _⟩, _⟩ := hf b hb
    rcases List.mem_cons.mp (I.stkSub b hx) with e | e
    · exact f1 e
    · exact f2 e
  obtain ⟨mC, hmC⟩ := hNs
  refine ⟨⟨I.ok.mod, ok.kind, I.ok.glob, I.ok.blt, ?_, ?_, ?_, ?_, I.ok.hd, I.ok.frames, .inl rfl, ?_, I.bs, ?_, ?_, nfs, I.stack, I.stkFree⟩, rfl, I.bare, Un.kept keep, ⟨mC, hmC, ?_⟩, ?_, I.hok.fresh (by show s2.heap.objs.size ≤ C; rw [hC]; exact Nat.le_succ _), ?_, fun p hp => absurd (show p ∈ ([] : List (Addr × Obj)) from hp) (by simp), I.hok.kept keep, ?_⟩
  · show s2.heap.objs.size ≤ C; rw [hC]; exact Nat.le_succ _
  · intro x y c h1 h2
    refine cf_inj scope.names (C + 1) (closL X.env scope.names []) (fun a b d p q => ?_) (fun a d p => ?_) x y c h1 h2
    · exact I.ok.inj a b d (closL_sub scope.names [] (ok.cells I) (fun _ _ z => by simp at z) a d p) (closL_sub scope.names [] (ok.cells I) (fun _ _ z => by simp at z) b d q)
    · have := cellOld a d (closL_sub scope.names [] (ok.cells I) (fun _ _ z => by simp at z) a d p)
      rw [hC]; exact Nat.lt_succ_of_lt (Nat.lt_succ_of_lt this)
  · intro x hx
    have go : ∀ k, (k = NameKind.cell ∨ k = NameKind.free) → (compEnvC scope (cellsC X scope C) C X.env).kindOf x = some k → ∃ c, (cellsC X scope C).lookup x = some c := fun k hk e => by
      rcases ok.kindIn e with e | ⟨_, e⟩
      · rcases hk with rfl | rfl
        · exact cf_has _ _ _ (PySem.mem_of_lookup e)
        · exact cf_keep _ _ _ (closL_has (y := (x, .free)) rfl _ _ (PySem.mem_of_lookup e))
      · exact cf_keep _ _ _ (closL_has (y := (x, .free)) rfl _ _ (PySem.mem_of_lookup e))
    rcases hx with e | e
    · exact go _ (.inl rfl) e
    · exact go _ (.inr rfl) e
  · intro x c hx h
    have hx' : scope.names.lookup x = some .cell := by simpa [cxComp] using hx
    have := cf_ge (x := x) scope.names (C + 1) (closL X.env scope.names []) (C + 1) (Nat.le_refl _) (.inl (PySem.mem_of_lookup hx')) c h
    show s2.heap.objs.size ≤ c
    exact Nat.le_trans (by rw [hC]; exact Nat.le_trans (Nat.le_succ _) (Nat.le_succ _)) this
  · intro b hb
    obtain ⟨⟨_, _, _, _, f4, _⟩, f6⟩ := hf b hb
    refine ⟨?_, fun x c h => ?_⟩
    · show b ≠ C
      rw [hC]; exact Nat.ne_of_lt (Nat.lt_succ_of_lt f6)
    · rcases cellB x c h with ⟨_, q, _⟩ | q
      · rw [hC] at q
        exact Nat.ne_of_gt (Nat.lt_of_lt_of_le f6 (Nat.le_trans (Nat.le_trans (Nat.le_succ _) (Nat.le_succ _)) q))
      · exact f4 x c q
  · exact Nat.le_trans I.ok.bsz I.sz
  · intro b o e hb
    obtain ⟨⟨_, _, _, f3, _⟩, _⟩ := hf b hb
    rcases f3 with z | z
    · exact I.ok.noex b o e z
    · exact absurd (Nat.lt_of_lt_of_le (Heap.lt_size (I.ok.bs b o e).1) z) (Nat.lt_irrefl _)
  · intro i x v h1 h2 h3
    have h2' : (List.replicate own.length (none : Option V) ++ σ)[i]? = some (some v) := h2
    have hi : own.length ≤ i := by
      apply Nat.le_of_not_lt
      intro hlt
      rw [List.getElem?_append_left (by simpa using hlt), List.getElem?_replicate] at h2'
      rw [if_pos hlt] at h2'
      cases h2'
    rw [List.getElem?_append_right (by simpa using hi), List.length_replicate] at h2'
    have h1' : (own ++ M)[i]? = some x := h1
    rw [List.getElem?_append_right hi] at h1'
    obtain ⟨n1, n2⟩ := ok.shadow x (List.mem_of_getElem? h1')
    have hfree : scope.names.lookup x = some .free ∧ ((compEnvC scope (cellsC X scope C) C X.env).kindOf x = some .cell ∨ (compEnvC scope (cellsC X scope C) C X.env).kindOf x = some .free) := by
      rcases h3 with e | e | e
      · rcases ok.kindIn (x := x) (C := C) e with q | ⟨q, _⟩
        · exact absurd q n1
        · cases q
      · rcases ok.kindIn (x := x) (C := C) e with q | ⟨_, q⟩
        · exact absurd q n2
        · exact ⟨q, .inl e⟩
      · rcases ok.kindIn (x := x) (C := C) e with q | ⟨q, _⟩
        · exact ⟨q, .inr e⟩
        · cases q
    obtain ⟨hfr, hk⟩ := hfree
    obtain ⟨m, hn, hl⟩ := I.loc
    have hkX := ok.frees (x, .free) (PySem.mem_of_lookup hfr) rfl
    have h1' := ok.same _ _ h1' hfr
    obtain ⟨u, ru, lk⟩ := hl (i - own.length) x v h1' h2' (hkX.elim (fun z => .inr (.inl z)) fun z => .inr (.inr z))
    refine ⟨u, ru, .inr ⟨hk, ?_⟩⟩
    rcases lk with ⟨k, _⟩ | ⟨_, c, ec, ic⟩
    · rcases hkX with z | z <;> (rw [k] at z; cases z)
    · obtain ⟨c', e'⟩ : ∃ c', (cellsC X scope C).lookup x = some c' := cf_keep _ _ _ (closL_has (y := (x, .free)) rfl _ _ (PySem.mem_of_lookup hfr))
      refine ⟨c', e', ?_⟩
      have := ok.cellsFrom_old I e' (by rw [hfr]; simp)
      have e2 : some c = some c' := ec.symm.trans this
      cases e2
      exact ic.keeps keep
  · intro x c h
    rcases cellB x c h with ⟨q, _⟩ | q
    · exact ⟨_, q⟩
    · obtain ⟨v, z⟩ := I.cell x c q
      exact ⟨v, z.keeps keep⟩
  · intro x c h
    rcases cellB x c h with ⟨q, q2, _⟩ | q
    · exact I.hok.fresh (by rw [hC] at q2; exact Nat.le_trans (Nat.le_trans (Nat.le_succ _) (Nat.le_succ _)) q2)
    · exact I.freeC x c q
  · show (List.replicate own.length (none : Option V) ++ σ).length = (own ++ M).length
    rw [List.length_append, List.length_append, List.length_replicate, I.len, ok.mlen]
end
end L2
set_option maxRecDepth 100000
namespace L2
open PySem PySem.Spec PyProof.Rows
section
variable {X : Cx} {scope : Scope} {own M : List Str} {pins : List (Addr × Obj)} {σ : St} {H2 : Hp} {s2 : Shared} {tg iter elt : Expr} {ifs : List Expr} {pos : Pos} {g : TG} {tt : TT} {te : TE}
theorem comp_core (ok : CompOk X scope M) (hc : X.calm = true) (hg : ∀ C s2 H2 fp, PG (cxComp X scope own M C s2 H2 fp) tg g) (ht : ∀ C s2 H2 fp, PTs (cxComp X scope own M C s2 H2 fp) ifs tt) (he : ∀ C s2 H2 fp, PE (cxComp X scope own M C s2 H2 fp) elt te)
    (I2 : Inv X pins σ H2 s2) {it : Addr} {fp : List Addr} {tn : Nat → Heap → Prop} {J : It} (T : Turn X.prog X.w X.K tg J fp it tn) (st2 : tn 0 s2.heap) (f2 : ∀ b ∈ fp, FpOk X pins H2 b)
    {W : Nat → Nat → List V → Hp → Prop} (w0 : ∃ m, W 0 m [] H2) {Qf : V → Hp → Prop}
    (turn : ∀ i m acc H, W i m acc H → (J.stop i H ∧ acc.length ≤ sizeLine ∧ ∀ D, H D = none → Qf (.ref D) (upd H D (.lst acc))) ∨
      (J.go i H ∧ acc.length < sizeLine ∧ ∀ x H', J.yld i H x H' → g x (List.replicate own.length none ++ σ) H' fun σ2 H2 => σ2.drop own.length = σ ∧ tt σ2 H2 fun c H3 =>
        if c = true then te σ2 H3 fun v H4 => ∃ m', m' < m ∧ W (i + 1) m' (acc ++ [v]) H4 else ∃ m', m' < m ∧ W (i + 1) m' acc H3))
    {RR : Value → Addr → Result → Shared → Prop} {E : Value → Shared → Prop}
    (fin : ∀ D C H' s' m, Inv X pins σ H' s' → Qf (.ref D) H' → s'.heap.Ns C m → H' C = none → C ≠ X.env.locals → X.s₀.heap.objs.size ≤ C → (∀ x c, X.env.cells.lookup x = some c → c ≠ C) → (∀ p ∈ X.pn ++ pins, p.1 ≠ C) → RR (.ref D) C (.ok .next) s') :
    wpAny (model X.prog X.w) X.A (newList []) (fun acc s3 => wpAny (model X.prog X.w) X.A (newFunctionEnv scope X.env.globals (closL X.env scope.names []) [] X.env.qual none .none (some X.env)) (fun cenv s4 =>
      codeAny (model X.prog X.w) X.A (.compStart (.ListComp elt [⟨tg, iter, ifs, 0⟩] scope pos) 0 (.ref it) acc { cenv with scope := relabel scope X.env }) (RR acc cenv.locals) s4) E s3) E s2 := by
  refine wpAny_newObj_type (newEnv_comp ?_)
  have zC : (s2.heap.push { cls := .type "list", dict := none, data := .seq ([] : List Value).toArray }).objs.size = s2.heap.objs.size + 1 := Heap.size_push ..
  dsimp only
  rw [zC]
  generalize hC : s2.heap.objs.size + 1 = C
  generalize hh : pushCells ((s2.heap.push { cls := .type "list", dict := none, data := .seq ([] : List Value).toArray }).push { cls := .type "dict", data := .dict #[] }) scope.names = h4
  have fpl : ∀ b ∈ fp, FpOk X pins H2 b ∧ b < s2.heap.objs.size := fun b hb => by
    obtain ⟨o, e, _⟩ := T.obj 0 _ st2 b hb
    exact ⟨f2 b hb, Heap.lt_size e⟩
  have I4 : Inv (cxComp X scope own M C s2 H2 fp) [] (List.replicate own.length none ++ σ) H2 { s2 with heap := h4 } := inv_comp ok hc I2 fpl hC.symm hh.symm
  generalize hX : cxComp X scope own M C s2 H2 fp = X' at I4
  have keep4 : ∀ b o, s2.heap.get? b = some o → h4.get? b = some o := fun b o e => by
    rw [← hh]; exact pushCells_keeps _ _ _ _ (Heap.get?_push_of_some _ (Heap.get?_push_of_some _ e))
  have hD4 : h4.get? s2.heap.objs.size = some { cls := .type "list", dict := none, data := .seq ([] : List Value).toArray } := by
    rw [← hh]; exact pushCells_keeps _ _ _ _ (Heap.get?_push_of_some _ (Heap.get?_push_size _ rfl))
  have st4 : tn 0 h4 := T.keep _ _ _ st2 fun b hb o e => keep4 b o e
  have gg : PG X' tg g := by rw [← hX]; exact hg C s2 H2 fp
  have gt : PTs X' ifs tt := by rw [← hX]; exact ht C s2 H2 fp
  have ge : PE X' elt te := by rw [← hX]; exact he C s2 H2 fp
  have xP : X'.prog = X.prog := by rw [← hX]; rfl
  have xw : X'.w = X.w := by rw [← hX]; rfl
  have xK : X'.K = X.K := by rw [← hX]; rfl
  have xA : X'.A = X.A := by rw [← hX]; rfl
  have xc : X'.calm = true := by rw [← hX]; exact hc
  have xpn : X'.pn = [] := by rw [← hX]; rfl
  have xs : X'.s₀ = s2 := by rw [← hX]; rfl
  have xH : X'.H₀ = H2 := by rw [← hX]; rfl
  have xL : X'.env.locals = C := by rw [← hX]; rfl
  have xfs : X'.fs = frs X.stack := by rw [← hX]; rfl
  have xex : X'.ex = fp := by rw [← hX]; rfl
  have xe : X'.xe = fun _ _ => False := by rw [← hX]; rfl
  have xenv : ({ newEnv scope C X.env.globals (cellsFrom (C + 1) scope.names (closL X.env scope.names [])) X.env.qual none .none (some X.env) builtinsNs with scope := relabel scope X.env } : Env) = X'.env := by rw [← hX]; rfl
  have Dlt : s2.heap.objs.size < C := by rw [← hC]; exact Nat.lt_succ_self _
  have fpb : ∀ {pl : List (Addr × Obj)} {H : Hp}, (∀ b ∈ fp, H b = none) → (∀ p ∈ pl, p.1 ∉ fp) → ∀ b ∈ fp, FpOk X' pl H b := fun {pl H} hn hpl b hb => by
    refine ⟨hn b hb, ?_, ?_, .inl (by rw [xex]; exact hb), fun x c e => (I4.ok.exf b (by rw [xex]; exact hb)).2 x c e, fun p hp z => ?_⟩
    · exact (I4.ok.exf b (by rw [xex]; exact hb)).1
    · exact I4.ok.exfs b (by rw [xex]; exact hb)
    · rw [xpn, List.nil_append] at hp
      exact hpl p hp (by rw [z]; exact hb)
  have Dfp : s2.heap.objs.size ∉ fp := fun z => Nat.lt_irrefl _ (fpl _ z).2
  have DC : s2.heap.objs.size ≠ C := Nat.ne_of_lt Dlt
  have Dcell : ∀ x c, X'.env.cells.lookup x = some c → c ≠ s2.heap.objs.size := fun x c e z => by
    obtain ⟨v, o, q, hd⟩ := I4.cell x c e
    rw [z] at q
    have q' : h4.get? s2.heap.objs.size = some o := q
    rw [hD4] at q'
    cases q'
    cases hd
  have Dfs : s2.heap.objs.size ∉ X'.fs := fun z => by
    obtain ⟨_, o, ho, _⟩ := I4.ok.funs.mem (by exact z)
    rw [xs] at ho
    exact Nat.lt_irrefl _ (Heap.lt_size ho)
  rw [xenv]
  have goal : ∀ s5 : Shared, s5 = { s2 with heap := h4 } → codeAny (model X.prog X.w) X.A (.compLoop (.ListComp elt [⟨tg, iter, ifs, 0⟩] scope pos) 0 (.ref it) (.ref s2.heap.objs.size) X'.env) (RR (.ref s2.heap.objs.size) C) s5 := by
    rintro s5 rfl
    obtain ⟨m0, w0⟩ := w0
    refine comp_loop (fun n s' => ∃ i acc σ' H' its k, Inv X' [] σ' H' s' ∧ σ'.drop own.length = σ ∧ tn i s'.heap ∧ (∀ b ∈ fp, H' b = none) ∧ H' s2.heap.objs.size = none ∧
      s'.heap.get? s2.heap.objs.size = some { cls := .type "list", data := .seq (List.toArray its) k } ∧ Vals acc its ∧ W i n acc H') ?_ m0
      ⟨0, [], _, H2, [], 0, I4, by simp, st4, fun b hb => (f2 b hb).1, I2.hok.fresh (Nat.le_refl _), hD4, .nil, w0⟩
    rintro n s3 ⟨i, acc, σ3, H3, its, k, I3, hσ, st3, fr3, hD, hDo, rv, w3⟩
    have pinD : ∀ {H : Hp} {s : Shared} {σ : St}, Inv X' [] σ H s → H s2.heap.objs.size = none → s.heap.get? s2.heap.objs.size = some { cls := .type "list", data := .seq (List.toArray its) k } →
        Inv X' [(s2.heap.objs.size, { cls := .type "list", data := .seq (List.toArray its) k })] σ H s := fun {H s σ} I hn ho => I.pins_of fun p hp => by
      have e : p = (s2.heap.objs.size, { cls := .type "list", data := .seq (List.toArray its) k }) := by simpa using hp
      subst e
      exact ⟨ho, hn, by rw [xL]; exact DC, Dfs, fun v z => by cases z⟩
    have plD : ∀ p ∈ [((s2.heap.objs.size, { cls := .type "list", data := .seq (List.toArray its) k }) : Addr × Obj)], p.1 ∉ fp := fun p hp => by
      have e : p = (s2.heap.objs.size, { cls := .type "list", data := .seq (List.toArray its) k }) := by simpa using hp
      subst e
      exact Dfp
    have I3' := pinD I3 hD hDo
    rcases turn i n acc H3 w3 with ⟨stop, hsz, q⟩ | ⟨go, hsz, step⟩
    · have := T.done X' xP xw xK xc i _ s3 σ3 H3 (fun _ _ => False) I3' (fpb fr3 plD) st3 stop
      rw [xA] at this
      refine thn this fun r s4 ⟨hr, I5⟩ => ?_
      subst hr
      have hDo5 := (I5.pin (s2.heap.objs.size, { cls := .type "list", data := .seq (List.toArray its) k }) (by rw [xpn]; simp)).1
      have un : Un (frs X.stack) fp H2 H3 s2.heap s4.heap := by
        have := I5.base
        rw [xfs, xex, xH, xs] at this
        exact this
      have os : s4.os = s2.os := by rw [I5.os, xs]
      have hok : HOk X.prog X.w H3 s4.heap := by have := I5.hok; rw [xP, xw] at this; exact this
      have IX : Inv X pins σ H3 s4 := I2.call' os un hok I5.bare fun b hb => by
        obtain ⟨_, f1, _, f3, f4, f5⟩ := f2 b hb
        exact ⟨f3, f1, f4, f5⟩
      have old : ∀ {b : Addr}, s2.heap.objs.size ≤ b → (X.s₀.heap.objs.size ≤ b ∧ b ≠ X.env.locals ∧ (∀ x c, X.env.cells.lookup x = some c → c ≠ b) ∧ ∀ p ∈ X.pn ++ pins, p.1 ≠ b) := fun {b} hb => by
        obtain ⟨_, f1, _, f3, f4, f5⟩ := I2.fpOk (H' := fun _ => none) hb rfl
        exact ⟨Nat.le_trans I2.sz hb, f1, f4, f5⟩
      obtain ⟨d1, d2, d3, d4⟩ := old (Nat.le_refl s2.heap.objs.size)
      obtain ⟨c1, c2, c3, c4⟩ := old (b := C) (Nat.le_of_lt Dlt)
      have IY : Inv X pins σ (upd H3 s2.heap.objs.size (.lst acc)) s4 := IX.track hD d1 d2 d3 d4 ⟨hsz, its, k, rv, hDo5⟩
      obtain ⟨m, hm, _⟩ := I5.loc
      rw [xL] at hm
      have hCn : H3 C = none := by have := I5.free; rw [xL] at this; exact this
      exact fin _ C _ s4 m IY (q _ hD) hm (by rw [upd_ne (Ne.symm DC)]; exact hCn) c2 c1 c3 c4
    · have := T.item X' xP xw xK xc i _ s3 σ3 H3 (fun _ _ => False) I3' (fpb fr3 plD) st3 go
      rw [xA] at this
      refine thn this fun r s4 ⟨u, hr, h4⟩ => ?_
      subst hr
      refine thn h4 fun _ s5 ⟨x, H5, I5, r5, y5, st5, fr5⟩ => ?_
      have hσn : ∀ (j : Nat) v, (List.replicate own.length none ++ σ)[j]? = some (some v) → σ3[j]? = some (some v) := fun j v e => by
        by_cases hlt : j < own.length
        · rw [List.getElem?_append_left (by simpa using hlt), List.getElem?_replicate, if_pos hlt] at e
          cases e
        · have hle := Nat.le_of_not_lt hlt
          rw [List.getElem?_append_right (by simpa using hle), List.length_replicate, ← hσ, List.getElem?_drop] at e
          rw [show own.length + (j - own.length) = j by lia] at e
          exact e
      have hlen : (List.replicate own.length none ++ σ).length = σ3.length := by
        have e1 : σ3.length = X'.N.length := I5.len
        have e2 := I4.len
        exact e2.trans e1.symm
      have I5w : Inv X' _ (List.replicate own.length none ++ σ) H5 s5 := I5.weak hlen hσn
      have I5p := I5w.pinned (fpb fr5 plD) (T.obj _ _ st5)
      have a1 := gg _ s5 _ H5 x u _ I5p r5 (step x H5 y5)
      rw [xP, xw, xA, xe] at a1
      refine thn a1 fun _ s6 ⟨σ6, H6, I6, d6, q6⟩ => ?_
      have a2 := gt _ s6 σ6 H6 _ I6 q6
      rw [xP, xw, xA, xe] at a2
      refine thn a2 fun b s7 ⟨H7, I7, q7⟩ => ?_
      have pin7 : ∀ {H : Hp} {s : Shared}, Inv X' ([((s2.heap.objs.size, { cls := .type "list", data := .seq (List.toArray its) k }) : Addr × Obj)] ++ pinsAt fp s5.heap) σ6 H s →
          (tn (i + 1) s.heap ∧ (∀ b ∈ fp, H b = none) ∧ H s2.heap.objs.size = none ∧ s.heap.get? s2.heap.objs.size = some { cls := .type "list", data := .seq (List.toArray its) k } ∧ Inv X' [] σ6 H s) := fun {H s} I => by
        refine ⟨T.keep _ _ _ st5 fun b hb o e => (I.pin (b, o) (List.mem_append_right _ (List.mem_append_right _ (mem_pinsAt hb e)))).1, fun b hb => ?_, ?_, ?_, I.pins_of fun p hp => by simp at hp⟩
        · obtain ⟨o, e, d⟩ := T.obj _ _ st5 b hb
          exact (I.pin (b, o) (List.mem_append_right _ (List.mem_append_right _ (mem_pinsAt hb e)))).2.1
        · exact (I.pin (s2.heap.objs.size, { cls := .type "list", data := .seq (List.toArray its) k }) (by rw [xpn]; simp)).2.1
        · exact (I.pin (s2.heap.objs.size, { cls := .type "list", data := .seq (List.toArray its) k }) (by rw [xpn]; simp)).1
      cases b with
      | false =>
        obtain ⟨p1, p2, p3, p4, p5⟩ := pin7 I7
        obtain ⟨m', hm, w7⟩ := q7
        exact ⟨m', hm, i + 1, acc, σ6, H7, its, k, p5, d6, p1, p2, p3, p4, rv, w7⟩
      | true =>
        rw [if_pos rfl] at q7 ⊢
        have a3 := ge _ s7 σ6 H7 _ I7 q7
        rw [xP, xw, xA, xe] at a3
        refine thn a3 fun y s8 ⟨v, H8, I8, r8, q8⟩ => ?_
        obtain ⟨p1, p2, p3, p4, p5⟩ := pin7 I8
        obtain ⟨m', hm, w8⟩ := q8
        have hl := rv.length
        refine wpAny_list_append_plain (items := List.toArray its) ⟨k, p4⟩ (fun h' hpl hs => ?_) (by simp; lia)
        obtain ⟨k', hpl⟩ := hpl
        have I9 : Inv X' [] σ6 H8 { s8 with heap := h' } := p5.turned (t' := s8.toks) (fun b o hb e => hs.extBut b o hb e) p3 (by rw [xL]; exact DC) (.inr (by rw [xs]; exact Nat.le_refl _)) Dcell (fun p hp => by rw [xpn] at hp; simp at hp)
        refine ⟨m', hm, i + 1, acc ++ [v], σ6, H8, its ++ [y], k', I9, d6, T.keep _ _ _ p1 fun b hb o e => hs.extBut b o (fun z => Dfp (by rw [← z]; exact hb)) e, p2, p3, ?_, rv.append (.cons r8 .nil), w8⟩
        rw [hpl]; simp
  exact codeAny_compStart_list (goal _ rfl) (T.self _ 0 _ _ _ st4 (goal _ rfl))
theorem pe_comp {wi : TI} (ok : CompOk X scope M) (hc : X.calm = true) (hi : PI X tg iter wi) (hg : ∀ C s2 H2 fp, PG (cxComp X scope own M C s2 H2 fp) tg g) (ht : ∀ C s2 H2 fp, PTs (cxComp X scope own M C s2 H2 fp) ifs tt)
    (he : ∀ C s2 H2 fp, PE (cxComp X scope own M C s2 H2 fp) elt te) (hs : ∀ x, foldedSetIterable iter X.env x = pure x := by intro _; rfl) :
    PE X (.ListComp elt [⟨tg, iter, ifs, 0⟩] scope pos) (tComp wi own.length g tt te) := by
  intro pins s σ H Q I h
  rw [eval_ListComp]
  refine wpAny_comprehension_free (use := none) rfl hs (clos_for (ok.cells I)) ok.kind (fun x hx hl => by rw [ok.uniq x hx, hl]) ?_
  refine thn (hi pins s σ H _ I h) fun v s1 h1 => thn h1 fun itv s2 h2 => ?_
  obtain ⟨it, fp, tn, J, H2, e, I2, T, st2, f2, W, w0, turn⟩ := h2
  subst e
  refine comp_core (Qf := Q) ok hc hg ht he I2 T st2 f2 w0 turn fun D C H' s' m IY q hm hCn c2 c1 c3 c4 => ⟨m, hm, fun h' hs' => ?_⟩
  exact ⟨.ref D, H', IY.turned (t' := s'.toks) (fun b o hb e => hs'.extBut b o hb e) hCn c2 (.inr c1) c3 c4, rfl, q⟩
theorem ps_setComp {wi : TI} {i : Nat} {x : Str} {pos' spos : Pos} (hN : X.N.Nodup) (hix : X.N[i]? = some x) (hx : Loc X.env.scope x) (ok : CompOk X scope M) (hc : X.calm = true) (hi : PI X tg iter wi) (hg : ∀ C s2 H2 fp, PG (cxComp X scope own M C s2 H2 fp) tg g)
    (ht : ∀ C s2 H2 fp, PTs (cxComp X scope own M C s2 H2 fp) ifs tt) (he : ∀ C s2 H2 fp, PE (cxComp X scope own M C s2 H2 fp) elt te)
    (hsw : swapsWith (.ListComp elt [⟨tg, iter, ifs, 0⟩] scope pos) (some (.Name x pos')) spos.line X.env = pure true := by rfl) (hf : X.fn x = true ∨ X.env.scope.names.lookup x = some .local := by first | exact .inl rfl | exact .inr rfl | assumption)
    (hs : ∀ x, foldedSetIterable iter X.env x = pure x := by intro _; rfl) : PS X (.Assign [.Name x pos'] (.ListComp elt [⟨tg, iter, ifs, 0⟩] scope pos) spos) (tAsg (tComp wi own.length g tt te) (gName i)) := by
  intro pins s σ H D I h
  rw [exec_Assign_Name_used _ _ _ _ hsw]
  refine wpAny_bind (wpAny_standAt (wpAny_bind ?_))
  show wpAny _ _ (do let _ ← comprehension (.ListComp elt [⟨tg, iter, ifs, 0⟩] scope pos) scope X.env _ (newList []) false (eval iter X.env) (some (assign (.Name x pos') X.env))) _ _ s
  refine wpAny_bind (thn (wpAny_comprehension_free (use := some (assign (.Name x pos') X.env)) (Q := fun _ s' => SP X pins D .next s') rfl hs (clos_for (ok.cells I)) ok.kind (fun x hx hl => by rw [ok.uniq x hx, hl]) ?_)
    fun _ s' hq => wpAny_pure (wpAny_pure hq))
  refine thn (hi pins s σ H _ I h) fun v s1 h1 => thn h1 fun itv s2 h2 => ?_
  obtain ⟨it, fp, tn, J, H2, e, I2, T, st2, f2, W, w0, turn⟩ := h2
  subst e
  refine comp_core (Qf := fun x H1 => gName i x σ H1 D.nx) ok hc hg ht he I2 T st2 f2 w0 turn fun D' C H' s' m IY q hm hCn c2 c1 c3 c4 => ?_
  show wpAny _ _ (assign (.Name x pos') X.env (.ref D')) _ _ s'
  refine wpAny_assign_Name (store_ok2 IY hN hix hx (v := .ref D') rfl (fun s'' I'' ⟨a, hsb, ha⟩ => ?_) hf)
  have hCa : C ≠ a := by
    rcases ha with z | z
    · rw [z]; exact c2
    · exact fun e => c3 x a z e.symm
  exact ⟨m, hm.sameBut hsb hCa, fun h' hs' => ⟨_, H', I''.turned (t' := s''.toks) (fun b o hb e => hs'.extBut b o hb e) hCn c2 (.inr c1) c3 c4, q⟩⟩
end
end L2
set_option maxRecDepth 100000
namespace L2
open PySem PySem.Spec PyProof.Rows
section
variable {X : Cx} {pins : List (Addr × Obj)} {σ : St} {H : Hp} {s : Shared}
theorem Inv.turnedL {t' : Nat} {h' : Heap} {ch : List Addr} (I : Inv X pins σ H s) (k : ∀ b o, b ∉ ch → s.heap.get? b = some o → h'.get? b = some o) (hf : ∀ b ∈ ch, FpOk X pins H b) : Inv X pins σ H { s with heap := h', toks := t' } := by
  have nit : ∀ b u, H b = some u → b ∉ ch := fun b u e z => by rw [(hf b z).1] at e; cases e
  refine I.step (g' := s.gens) (d' := s.drawn) (ch := ch) (fun b hb => ?_) (fun b o _ _ hc e _ => k b o hc e) (fun b o _ _ hc e _ => ⟨o.slots, k b o hc e⟩) (fun _ _ _ _ n => n)
    (fun b o hc e => ⟨o, k b o hc e⟩) (fun _ _ e => e) (fun _ _ _ e => e) (fun b ps e => ⟨#[], by rw [e]; simp⟩) (fun m hm => ?_) (fun b u e => ?_) I.bare
  · obtain ⟨_, f1, _, f3, f4, f5⟩ := hf b hb
    exact ⟨f3, f1, f4, f5⟩
  · obtain ⟨o, es, ep, ho, r⟩ := hm
    exact ⟨o, es, ep, k _ o (fun z => (hf _ z).2.1 rfl) ho, r⟩
  · refine (I.hok b u e).stay (fun c v hc q => k c v ?_ q) (fun _ q => q) fun _ _ q => q
    rcases hc with z | z
    · rw [z]; exact nit b u e
    · exact nit c _ z
def SqB (K : PySem.W.Frag) (b : Bool) (H : Hp) (a : Addr) (xs : List V) : Prop := match b with | true => SqL K H a xs | false => SqT K H a xs
theorem Inv.seqB {b : Bool} {a : Addr} {xs : List V} (I : Inv X pins σ H s) (h : SqB X.K b H a xs) : ∃ its : List Value, Vals xs its ∧ SeqIs b s.heap a its.toArray := by
  cases b with
  | true => obtain ⟨its, r, p, _⟩ := I.list h; exact ⟨its, r, p.isList⟩
  | false => obtain ⟨its, r, p, _⟩ := I.tuple h; exact ⟨its, r, p⟩
theorem Inv.seqB_inj {b : Bool} {a : Addr} {xs ys : List V} (I : Inv X pins σ H s) (h : SqB X.K b H a xs) (h' : SqB X.K b H a ys) : xs = ys := by
  cases b with
  | true => exact I.list_inj h h'
  | false => exact I.tuple_inj h h'
theorem Inv.ne_fp {b : Bool} {a c : Addr} {xs : List V} (I : Inv X pins σ H s) (h : SqB X.K b H a xs) (hf : FpOk X pins H c) : a ≠ c := by
  have old : ∀ o, X.K.lookup a = some o → a ≠ c := fun o e z => by
    have eb := I.ok.mod.kin a o e
    rw [z] at eb
    obtain ⟨_, _, _, f3, _⟩ := hf
    rcases f3 with q | q
    · exact I.ok.noex c o eb q
    · exact absurd (Nat.lt_of_lt_of_le (Heap.lt_size (I.ok.bs c o eb).1) q) (Nat.lt_irrefl _)
  have trk : ∀ u, H a = some u → a ≠ c := fun u e => ne_of_none e hf.1
  cases b with
  | true =>
    rcases h with (h | ⟨o, h⟩) | ⟨o, _, _, hk, _⟩
    · exact trk _ h
    · exact trk _ h
    · exact old o hk
  | false =>
    rcases h with (h | ⟨o, h⟩) | ⟨o, _, _, hk, _⟩
    · exact trk _ h
    · exact trk _ h
    · exact old o hk
def Itz (K : PySem.W.Frag) (b c : Bool) (l1 l2 : Addr) : It :=
  ⟨fun i H => ∃ xs ys x y, SqB K b H l1 xs ∧ SqB K c H l2 ys ∧ xs[i]? = some x ∧ ys[i]? = some y,
   fun i H v H' => ∃ T, H T = none ∧ v = .ref T ∧ ∀ xs ys, SqB K b H l1 xs → SqB K c H l2 ys → ∃ x y, xs[i]? = some x ∧ ys[i]? = some y ∧ H' = upd H T (.tup [x, y]),
   fun i H => ∃ xs ys, SqB K b H l1 xs ∧ SqB K c H l2 ys ∧ (xs.length ≤ i ∨ ys.length ≤ i)⟩
theorem newTup {T : Addr} {x y : V} {u v : Value} {s1 : Shared} (I : Inv X pins σ H s) (I1 : Inv X pins σ H s1) (hT : s.heap.objs.size ≤ T) (hn : H T = none) (ho : s1.heap.get? T = some { cls := .type "tuple", data := .seq #[u, v] }) (rx : RelV x u) (ry : RelV y v) :
    Inv X pins σ (upd H T (.tup [x, y])) s1 := by
  obtain ⟨_, f1, _, f3, f4, f5⟩ := I.fpOk (H' := H) hT hn
  exact I1.track hn (Nat.le_trans I.sz hT) f1 f4 f5 ⟨(by show 2 ≤ sizeLine; decide), [u, v], .cons rx (.cons ry .nil), ⟨_, ho, rfl, _, rfl⟩⟩
theorem turn_zip {P : Program} {w : World} {K : PySem.W.Frag} {es : List Expr} {kk : Nat} {ps : Pos} {b c : Bool} {z ti to i1 i2 l1 l2 : Addr} (D : ZApart z ti to i1 i2) :
    Turn P w K (.Tuple es kk ps) (Itz K b c l1 l2) [z, ti, to, i1, i2] z (fun i h => ZSt b c z ti to i1 i2 l1 l2 i h) where
  mem := by simp
  obj := fun i h st d hd => by
    have nc : ∀ {o : Obj} {vs : Array Value}, o.data = .fields vs → ∀ v, o.data ≠ .cell v := fun e v q => by rw [e] at q; cases q
    simp only [List.mem_cons, List.not_mem_nil, or_false] at hd
    rcases hd with rfl | rfl | rfl | rfl | rfl
    · exact ⟨_, st.z, fun v q => by cases q⟩
    · exact ⟨_, st.ti, fun v q => by cases q⟩
    · obtain ⟨u, v, e⟩ := st.to
      exact ⟨_, e, fun v q => by cases q⟩
    · obtain ⟨o, e, _, hd⟩ := st.i1.obj
      exact ⟨o, e, nc hd⟩
    · obtain ⟨o, e, _, hd⟩ := st.i2.obj
      exact ⟨o, e, nc hd⟩
  keep := fun i h h' st k => by
    obtain ⟨u, v, e⟩ := st.to
    exact ⟨k z (by simp) _ st.z, k ti (by simp) _ st.ti, ⟨u, v, k to (by simp) _ e⟩, st.i1.at fun o q => k i1 (by simp) o q, st.i2.at fun o q => k i2 (by simp) o q⟩
  item := by
    intro X hP hw hK hc i pins s σ H E I hf st hg
    subst hP hw hK
    obtain ⟨xs, ys, x, y, q1, q2, hx, hy⟩ := hg
    obtain ⟨is1, r1, p1⟩ := I.seqB q1
    obtain ⟨is2, r2, p2⟩ := I.seqB q2
    obtain ⟨u, hu, ru⟩ := r1.get hx
    obtain ⟨v, hv, rv⟩ := r2.get hy
    have hfto := hf to (by simp)
    refine next_zip D st p1 p2 (I.ne_fp q1 hfto) (I.ne_fp q2 hfto) (x := u) (y := v) (by simpa using hu) (by simpa using hv) fun h' M hT kp => ?_
    have lt : ∀ {d : Addr}, d ∈ [z, ti, to, i1, i2] → s.heap.objs.size ≠ d := fun {d} hd e => by
      obtain ⟨o, q⟩ : ∃ o, s.heap.get? d = some o := by
        simp only [List.mem_cons, List.not_mem_nil, or_false] at hd
        rcases hd with rfl | rfl | rfl | rfl | rfl
        · exact ⟨_, st.z⟩
        · exact ⟨_, st.ti⟩
        · obtain ⟨u, v, e⟩ := st.to; exact ⟨_, e⟩
        · obtain ⟨o, e, _⟩ := st.i1.obj; exact ⟨o, e⟩
        · obtain ⟨o, e, _⟩ := st.i2.obj; exact ⟨o, e⟩
      have := Heap.lt_size q
      rw [← e] at this
      exact Nat.lt_irrefl _ this
    refine ⟨_, rfl, wpAny_letOwnedTupleGo_zip (s := { s with heap := h' }) M.z fun h'' z' sb => ?_⟩
    have kp2 : ∀ d o, d ∉ [z, ti, to, i1, i2] → s.heap.get? d = some o → h''.get? d = some o := fun d o hd e => by
      simp only [List.mem_cons, List.not_mem_nil, or_false, not_or] at hd
      exact sb.extBut _ _ hd.1 (kp d o hd.1 hd.2.2.1 hd.2.2.2.1 hd.2.2.2.2 e)
    have I1 : Inv X pins σ H { s with heap := h'' } := I.turnedL (t' := s.toks) kp2 hf
    have hn : H s.heap.objs.size = none := I.hok.fresh (Nat.le_refl _)
    have I2 : Inv X pins σ (upd H s.heap.objs.size (.tup [x, y])) { s with heap := h'' } := newTup I I1 (Nat.le_refl _) hn (sb.extBut _ _ (lt (by simp)) hT) ru rv
    obtain ⟨u', v', eto⟩ := M.to
    refine ⟨.ref s.heap.objs.size, _, I2, rfl, ⟨_, hn, rfl, fun xs' ys' e1 e2 => ⟨x, y, by rw [I.seqB_inj e1 q1]; exact hx, by rw [I.seqB_inj e2 q2]; exact hy, rfl⟩⟩, ?_, fun d hd => ?_⟩
    · exact ⟨z', sb.extBut _ _ D.a1 M.ti, ⟨u', v', sb.extBut _ _ D.a2 eto⟩, M.i1.at fun o e => sb.extBut _ _ D.a3 e, M.i2.at fun o e => sb.extBut _ _ D.a4 e⟩
    · rw [upd_ne (Ne.symm (lt hd))]; exact (hf d hd).1
  done := by
    intro X hP hw hK hc i pins s σ H E I hf st hg
    subst hP hw hK
    obtain ⟨xs, ys, q1, q2, hx⟩ := hg
    obtain ⟨is1, r1, p1⟩ := I.seqB q1
    obtain ⟨is2, r2, p2⟩ := I.seqB q2
    have hfto := hf to (by simp)
    have e1 := r1.length
    have e2 := r2.length
    refine next_zip_end (I.ok.hd hc) D st p1 p2 (I.ne_fp q1 hfto) (I.ne_fp q2 hfto) (hx.imp (fun z => by simp; lia) fun z => by simp; lia) fun h' kp => ⟨rfl, I.turnedL (t' := s.toks) (fun d o hd e => ?_) hf⟩
    simp only [List.mem_cons, List.not_mem_nil, or_false, not_or] at hd
    exact kp d o hd.1 hd.2.2.1 hd.2.2.2.1 hd.2.2.2.2 e
  self := fun _ _ _ _ _ st h => wpAny_pyIter_zip st.z h
def iZip (K : PySem.W.Frag) (ta : TA) : TI := fun σ H R => ta σ H fun vs H1 => ∃ b c l1 l2 xs ys, vs = [.ref l1, .ref l2] ∧ SqB K b H1 l1 xs ∧ SqB K c H1 l2 ys ∧ R (Itz K b c l1 l2) H1
theorem pi_zip {es : List Expr} {kk : Nat} {ps : Pos} {a b : Expr} {ta : TA} {p pos : Pos} (hg : Gl X "zip") (hm : X.mg "zip" = none) (ha : PA X [a, b] ta) (hs : starEach [a, b] X.env = [(false, eval a X.env), (false, eval b X.env)] := by rfl) (hs2 : starEach [b] X.env = [(false, eval b X.env)] := by rfl) :
    PI X (.Tuple es kk ps) (.Call (.Name "zip" p) [a, b] [] pos) (iZip X.K ta) := by
  intro pins s σ H R I h
  refine Call_ (ld_blt I hg hm boot_zip (PyProof.Rows.callWith_type1 (thn (ha pos pins s σ H _ I h) fun us s1 ⟨vs, H1, I1, r1, q1⟩ => ?_) (by rw [hs, hs2]) (by rw [hs2]; rfl)))
  obtain ⟨bb, cc, l1, l2, xs, ys, e, q1, q2, q⟩ := q1
  subst e
  cases r1 with
  | cons r rr =>
    cases rr with
    | cons r' rr =>
      cases rr
      cases r
      cases r'
      obtain ⟨is1, r1, p1⟩ := I1.seqB q1
      obtain ⟨is2, r2, p2⟩ := I1.seqB q2
      refine call_zip p1 p2 fun h' z ti to i1 i2 D S new kp => wpAny_pyIter_zip S.z ?_
      exact ⟨z, [z, ti, to, i1, i2], _, _, H1, rfl, I1.kept (t' := s1.toks) kp, turn_zip D, S, fun d hd => I1.fpOk (new d hd) (I1.hok.fresh (new d hd)), q⟩
end
end L2
set_option maxRecDepth 100000
namespace L2
open PySem PySem.Spec PyProof.Rows
section
variable {X : Cx} {pins : List (Addr × Obj)} {σ : St} {H : Hp} {s : Shared}
theorem Vals.bools {us : List Value} : ∀ {bs : List Bool}, Vals (bs.map V.bl) us → us = bs.map Value.bool := by
  induction us with
  | nil => intro bs h; cases bs with | nil => rfl | cons => cases h
  | cons u us ih =>
    intro bs h
    cases bs with
    | nil => cases h
    | cons b bs =>
      cases h with
      | cons r t =>
        have e : u = Value.bool b := r
        rw [e, ih t]; rfl
theorem rng_all (bs : List Bool) : ((List.range bs.length).all fun i => (bs[i]?).getD true) = bs.all id := by
  rw [Bool.eq_iff_iff, List.all_eq_true, List.all_eq_true]
  constructor
  · intro h b hb
    obtain ⟨i, hi, e⟩ := List.mem_iff_getElem.mp hb
    have := h i (List.mem_range.mpr hi)
    rw [List.getElem?_eq_getElem hi, e] at this
    exact this
  · intro h i hi
    have hi' := List.mem_range.mp hi
    rw [List.getElem?_eq_getElem hi']
    exact h _ (List.getElem_mem hi')
theorem old_of {h h' : Heap} {o : Obj} (hk : ∀ b x, b ∉ [h.objs.size] → (h.push o).get? b = some x → h'.get? b = some x) : ∀ b x, h.get? b = some x → h'.get? b = some x :=
  fun b x e => hk b x (fun z => absurd (Heap.lt_size e) (by rw [List.mem_singleton.mp z]; exact Nat.lt_irrefl _)) (Heap.get?_push_of_some _ e)
theorem call_all (hc : X.calm = true) : CallR X (.builtin "all") (fun xs H Q => ∃ (p : Addr) (bs : List Bool), xs = [.ref p] ∧ SqL X.K H p (bs.map V.bl) ∧ Q (.bl (bs.all id)) H) := by
  intro pins s σ H xs us Q I r h
  obtain ⟨p, bs, rfl, hq, q⟩ := h
  cases r with
  | cons r rr =>
    cases rr
    cases r
    obtain ⟨its, rv, pl, _⟩ := I.list hq
    have ei := Vals.bools rv
    subst ei
    have hl := pl.isList
    have hlt : p < s.heap.objs.size := by obtain ⟨_, e, _⟩ := hl; exact Heap.lt_size e
    refine call_all_walk (wpAny_pyIter_list hl ⟨s.heap.objs.size, [s.heap.objs.size, p], [s.heap.objs.size], (bs.map Value.bool).toArray.size, _, _, fun i => (bs[i]?).getD true, rfl,
      Walks.list (A := X.A.in1) (I.ok.hd hc) _ p (Nat.ne_of_lt hlt) _, ⟨⟨_, Heap.get?_push_size _ rfl, rfl, rfl⟩, hl.push _⟩, fun i v s' Q' E' hP hQ => ?_, fun h' tk hk => ?_⟩)
    · have hP' : (bs.map Value.bool)[i]? = some v := by simpa using hP
      rw [List.getElem?_map] at hP'
      cases e : bs[i]? with
      | none => rw [e] at hP'; cases hP'
      | some b =>
        rw [e] at hP'
        have hQ' : Q' ((bs[i]?).getD true) s' := hQ
        rw [e] at hQ'
        cases hP'
        exact wpAny_truthy_bool hQ'
    · refine ⟨.bl (bs.all id), H, I.kept (old_of hk), ?_, q⟩
      show Value.bool _ = Value.bool _
      rw [List.size_toArray, List.length_map, rng_all]
theorem noFill_tup_mul : fillsNumberSlot (.type "tuple") "mul" = pure false :=
  PySem.fillsNumberSlot_seq (id := "tuple.__mul__") (r := some (.builtin "tuple.__rmul__")) F.slot_tuple_mul.lookup (by decide +kernel) F.slot_tuple_rmul.lookup (by decide +kernel)
theorem rep_tup : seqRepeat? (.type "tuple") = pure (some (.builtin "tuple.__mul__")) := by
  unfold seqRepeat?
  rw [PySem.seqSlot_of (T := "tuple") (name := "__mul__") (id := "tuple.__mul__") F.slot_tuple_mul.lookup (by decide +kernel), PySem.seqSlot_of (T := "tuple") (name := "__rmul__") (id := "tuple.__rmul__") F.slot_tuple_rmul.lookup (by decide +kernel)]
  rfl
theorem rmul_tup (a : Int) (t : Tok) (l : Addr) (o : Obj) (items : Array Value) (n : Nat) :
    Meets (Builtin.«int.__rmul__» ⟨[.int a t, .ref l], []⟩) (fun _ R s => s.heap.get? l = some o ∧ o.cls = .type "tuple" ∧ o.data = .seq items n ∧ R (.ok (.ret Value.notImplemented)) s) :=
  .of_wp fun prog w A R s h => by
    obtain ⟨hp, g, d, tk, os⟩ := s
    obtain ⟨hl, hc, hd, h⟩ := h
    obtain ⟨c, dd, dt, sl⟩ := o
    replace hc : c = .type "tuple" := hc
    replace hd : dt = .seq items n := hd
    subst hc hd
    wp_walk
    exact ⟨_, rfl, h⟩
theorem mul_tup (l : Addr) (o : Obj) (items : Array Value) (n : Nat) (k : Int) (t : Tok) (h1 : ¬ (decide (k < -(2 ^ 63)) || decide (k ≥ 2 ^ 63)) = true) (he : items.isEmpty = false) (hk1 : (k == 1) = false) (hk0 : (decide (k ≤ 0) || items.isEmpty) = false)
    (hcap : ¬ (items.size : Int) * k > (2 ^ 63 - 1) / 8) (htoo : ¬ Builtin.Tuple.tupleTooMany ((items.size : Int) * k) = true) (hz : ((List.replicate k.toNat items).foldl (· ++ ·) #[]).size ≤ sizeLine) :
    Meets (Builtin.«tuple.__mul__» ⟨[.ref l, .int k t], []⟩) (fun _ R s => s.heap.get? l = some o ∧ o.cls = .type "tuple" ∧ o.data = .seq items n ∧
      R (.ok (.ret (.ref s.heap.objs.size))) { s with heap := s.heap.push { cls := .type "tuple", data := .seq ((List.replicate k.toNat items).foldl (· ++ ·) #[]) } }) :=
  .of_wp fun prog w A R s h => by
    obtain ⟨hp, g, d, tk, os⟩ := s
    obtain ⟨hl, hc, hd, h⟩ := h
    obtain ⟨c, dd, dt, sl⟩ := o
    replace hc : c = .type "tuple" := hc
    replace hd : dt = .seq items n := hd
    subst hc hd
    wp_walk
    rw [if_neg h1]
    wp_walk
    rw [hk0, if_neg Bool.false_ne_true]
    dsimp only
    rw [if_neg hcap, if_neg htoo]
    unfold Builtin.Tuple.tupleExact
    refine wpAny_bind (wpAny_newTuple ?_)
    exact wpAny_pure ⟨_, rfl, h⟩
theorem mul_tup1 (l : Addr) (o : Obj) (items : Array Value) (n : Nat) (t : Tok) :
    Meets (Builtin.«tuple.__mul__» ⟨[.ref l, .int 1 t], []⟩) (fun _ R s => s.heap.get? l = some o ∧ o.cls = .type "tuple" ∧ o.data = .seq items n ∧ R (.ok (.ret (.ref l))) s) :=
  .of_wp fun prog w A R s h => by
    obtain ⟨hp, g, d, tk, os⟩ := s
    obtain ⟨hl, hc, hd, h⟩ := h
    obtain ⟨c, dd, dt, sl⟩ := o
    replace hc : c = .type "tuple" := hc
    replace hd : dt = .seq items n := hd
    subst hc hd
    wp_walk
    exact ⟨_, rfl, h⟩
def rRepT (K : PySem.W.Frag) : R2 := fun x y H Q => ∃ l k xs, x = .ref l ∧ y = .int k ∧ SqT K H l xs ∧ xs ≠ [] ∧ 1 ≤ k ∧ xs.length * k.toNat ≤ sizeLine ∧
  (k = 1 → Q (.ref l) H) ∧ (k ≠ 1 → ∀ p, H p = none → Q (.ref p) (upd H p (.tup (List.replicate k.toNat xs).flatten)))
theorem op_repT : OpR X (binaryOp .Mult) (rRepT X.K) := by
  intro pins s σ H x y v u Q I rx ry h
  obtain ⟨l, k, xs, rfl, rfl, hq, hne, h1, hz, q1, q2⟩ := h
  cases rx
  obtain ⟨t, rfl⟩ := ry
  obtain ⟨its, rv, ⟨o, e, hc, n, hd⟩, _⟩ := I.tuple hq
  have hlen := rv.length
  have hpos : 0 < its.length := by rw [← hlen]; exact List.length_pos_iff.mpr hne
  have tyT : s.TypeIs (.ref l) "tuple" := ⟨o, e, hc⟩
  refine wpAny_binaryOp_repeat_ref (T := "tuple") (U := "int") (by decide) tyT (fun s' => typeIs_int s' k t) noFill_tup_mul F.fills_int_mul F.slot_int_rmul rep_tup F.slot_int_index.lookup
    (call_meets F.slot_int_rmul (typeIs_int s k t) F.entry_int_rmul (F.args_int_rmul_2 _ _) (rmul_tup k t l o its.toArray n) ⟨e, hc, hd, rfl, tyT, ?_⟩)
  by_cases hk : k = 1
  · subst hk
    exact call_meets F.slot_tuple_mul tyT F.entry_tuple_mul (F.args_tuple_mul_2 _ _) (mul_tup1 l o its.toArray n t) ⟨e, hc, hd, ⟨.ref l, H, I, rfl, q1 rfl⟩⟩
  · have hk2 : (2 : Int) ≤ k := by lia
    have hnat : its.length * k.toNat ≤ sizeLine := by rw [← hlen]; exact hz
    have hprod : ((its.toArray.size : Nat) : Int) * k = ((its.length * k.toNat : Nat) : Int) := by
      rw [List.size_toArray, Int.natCast_mul, Int.toNat_of_nonneg (by lia)]
    have hsl : (sizeLine : Int) = 16777216 := by decide
    have hb : ((its.length * k.toNat : Nat) : Int) ≤ 16777216 := by rw [← hsl]; exact Int.ofNat_le.mpr hnat
    have hkle : k ≤ 16777216 := by
      have : k.toNat ≤ its.length * k.toNat := Nat.le_mul_of_pos_left _ hpos
      lia
    have hnew : List.foldl (fun x1 x2 => x1 ++ x2) #[] (List.replicate k.toNat its.toArray) = (List.replicate k.toNat its).flatten.toArray := by
      have := foldl_rep its k.toNat []
      rw [List.nil_append] at this
      exact this
    refine call_meets F.slot_tuple_mul tyT F.entry_tuple_mul (F.args_tuple_mul_2 _ _) (mul_tup l o its.toArray n k t ?_ ?_ ?_ ?_ ?_ ?_ ?_) ⟨e, hc, hd, ?_⟩
    · rw [Bool.or_eq_true, decide_eq_true_eq, decide_eq_true_eq]; lia
    · cases its with
      | nil => simp at hpos
      | cons => rfl
    · simpa using hk
    · rw [Bool.or_eq_false_iff]
      refine ⟨decide_eq_false (by lia), ?_⟩
      cases its with
      | nil => simp at hpos
      | cons => rfl
    · rw [hprod]; lia
    · unfold Builtin.Tuple.tupleTooMany
      rw [hprod, decide_eq_true_eq, hsl]; lia
    · rw [hnew, List.size_toArray, len_rep, Nat.mul_comm]; exact hnat
    · rw [hnew]
      refine ⟨.ref _, _, I.laid (o := .tup (List.replicate k.toNat xs).flatten) (t' := s.toks) (fun _ _ z => Heap.get?_push_of_some _ z) (Nat.le_refl _) ⟨by rw [len_rep, Nat.mul_comm]; exact hz, _, rv.rep k.toNat, ⟨_, Heap.get?_push_size _ rfl, rfl, _, rfl⟩⟩, rfl, q2 hk _ I.fresh⟩
def isTy (T : String) : V → Bool
  | .bl _ => T == "bool" || T == "int"
  | .int _ => T == "int"
  | .str _ => T == "str"
  | _ => false
def rIsi (K : PySem.W.Frag) (T : String) (x : V) (H : Hp) (Q : VK) : Prop := match x with
  | .ref a => (∃ xs, SqT K H a xs ∧ Q (.bl (T == "tuple")) H) ∨ (∃ xs, SqL K H a xs ∧ Q (.bl (T == "list")) H) ∨ (∃ kvs, H a = some (.dK kvs) ∧ Q (.bl false) H)
  | .non => Q (.bl false) H
  | .bl b => Q (.bl (isTy T (.bl b))) H
  | .int i => Q (.bl (isTy T (.int i))) H
  | .str i => Q (.bl (isTy T (.str i))) H
  | _ => False
theorem call_isi : CallR X (.builtin "isinstance") (fun xs H Q => ∃ x T, xs = [x, .ty T] ∧ (T = "bool" ∨ T = "int" ∨ T = "str" ∨ T = "tuple" ∨ T = "list") ∧ rIsi X.K T x H Q) := by
  intro pins s σ H xs us Q I r h
  obtain ⟨x, T, rfl, hT, q⟩ := h
  cases r with
  | cons r rr =>
    cases rr with
    | cons r' rr =>
      cases rr
      cases r'
      cases x with
      | non =>
        cases r
        rcases hT with rfl | rfl | rfl | rfl | rfl
        · exact IsiPair.NoneType_bool ⟨.bl false, H, I.tok _, rfl, q⟩
        · exact IsiPair.NoneType_int ⟨.bl false, H, I.tok _, rfl, q⟩
        · exact IsiPair.NoneType_str ⟨.bl false, H, I.tok _, rfl, q⟩
        · exact IsiPair.NoneType_tuple ⟨.bl false, H, I.tok _, rfl, q⟩
        · exact IsiPair.NoneType_list ⟨.bl false, H, I.tok _, rfl, q⟩
      | bl b =>
        cases r
        rcases hT with rfl | rfl | rfl | rfl | rfl
        · exact IsiPair.bool_bool ⟨.bl true, H, I, rfl, q⟩
        · exact IsiPair.bool_int ⟨.bl true, H, I, rfl, q⟩
        · exact IsiPair.bool_str ⟨.bl false, H, I.tok _, rfl, q⟩
        · exact IsiPair.bool_tuple ⟨.bl false, H, I.tok _, rfl, q⟩
        · exact IsiPair.bool_list ⟨.bl false, H, I.tok _, rfl, q⟩
      | int i =>
        obtain ⟨t, rfl⟩ := r
        rcases hT with rfl | rfl | rfl | rfl | rfl
        · exact IsiPair.int_bool ⟨.bl false, H, I.tok _, rfl, q⟩
        · exact IsiPair.int_int ⟨.bl true, H, I, rfl, q⟩
        · exact IsiPair.int_str ⟨.bl false, H, I.tok _, rfl, q⟩
        · exact IsiPair.int_tuple ⟨.bl false, H, I.tok _, rfl, q⟩
        · exact IsiPair.int_list ⟨.bl false, H, I.tok _, rfl, q⟩
      | str i =>
        obtain ⟨t, rfl⟩ := r
        rcases hT with rfl | rfl | rfl | rfl | rfl
        · exact IsiPair.str_bool ⟨.bl false, H, I.tok _, rfl, q⟩
        · exact IsiPair.str_int ⟨.bl false, H, I.tok _, rfl, q⟩
        · exact IsiPair.str_str ⟨.bl true, H, I, rfl, q⟩
        · exact IsiPair.str_tuple ⟨.bl false, H, I.tok _, rfl, q⟩
        · exact IsiPair.str_list ⟨.bl false, H, I.tok _, rfl, q⟩
      | byt _ => exact q.elim
      | flt _ => exact q.elim
      | ty _ => exact q.elim
      | ref a =>
        cases r
        rcases q with ⟨ys, hq, q⟩ | ⟨ys, hq, q⟩ | ⟨kvs, hq, q⟩
        · obtain ⟨its, rv, ⟨o, e, hc, n, hd⟩, _⟩ := I.tuple hq
          rcases hT with rfl | rfl | rfl | rfl | rfl
          · exact IsiPair.tuple_bool e hc ⟨.bl false, H, I.tok _, rfl, q⟩
          · exact IsiPair.tuple_int e hc ⟨.bl false, H, I.tok _, rfl, q⟩
          · exact IsiPair.tuple_str e hc ⟨.bl false, H, I.tok _, rfl, q⟩
          · exact IsiPair.tuple_tuple e hc ⟨.bl true, H, I, rfl, q⟩
          · exact IsiPair.tuple_list e hc ⟨.bl false, H, I.tok _, rfl, q⟩
        · obtain ⟨its, rv, ⟨o, n, e, hc, hd, hs⟩, _⟩ := I.list hq
          rcases hT with rfl | rfl | rfl | rfl | rfl
          · exact IsiPair.list_bool e hc ⟨.bl false, H, I.tok _, rfl, q⟩
          · exact IsiPair.list_int e hc ⟨.bl false, H, I.tok _, rfl, q⟩
          · exact IsiPair.list_str e hc ⟨.bl false, H, I.tok _, rfl, q⟩
          · exact IsiPair.list_tuple e hc ⟨.bl false, H, I.tok _, rfl, q⟩
          · exact IsiPair.list_list e hc ⟨.bl true, H, I, rfl, q⟩
        · obtain ⟨_, _, vs, _, p⟩ := (show ObjOk X.prog X.w H s.heap a (.dK kvs) from I.hok a _ hq)
          obtain ⟨o, es, ep, e, h2, _⟩ := p
          have hc := h2.1
          rcases hT with rfl | rfl | rfl | rfl | rfl
          · exact IsiPair.dict_bool e hc ⟨.bl false, H, I.tok _, rfl, q⟩
          · exact IsiPair.dict_int e hc ⟨.bl false, H, I.tok _, rfl, q⟩
          · exact IsiPair.dict_str e hc ⟨.bl false, H, I.tok _, rfl, q⟩
          · exact IsiPair.dict_tuple e hc ⟨.bl false, H, I.tok _, rfl, q⟩
          · exact IsiPair.dict_list e hc ⟨.bl false, H, I.tok _, rfl, q⟩
end
end L2
set_option maxRecDepth 100000
namespace L2
open PySem PySem.Spec PyProof.Rows
end L2
namespace L2
open PySem PySem.Spec PyProof.Rows
section
variable (P : Program) (w : World)
end
section
variable {P : Program} {w : World} {H H' : Hp} {h h' : Heap} {a : Addr} {o : HO}
end
section
variable {P : Program} {w : World} {H : Hp} {h h' : Heap} {x e : Addr} {o' : HO}
end
section
variable {fs fs' ex ex' : List Addr} {H H1 H2 : Hp} {h h1 h2 h' : Heap} {a x e : Addr} {o : HO}
end
end L2
namespace L2
open PySem PySem.Spec PyProof.Rows
section
variable {X : Cx} {pins : List (Addr × Obj)} {σ : List (Option V)} {H H' : Hp} {s : Shared} {h' : Heap}
end
end L2
namespace L2
open PySem PySem.Spec PyProof.Rows
section
variable {X : Cx}
variable {a b : Expr} {ta tb : TE} {pos : Pos}
variable {tA tB' : TT} {rest : List Expr}
end
end L2
namespace L2
open PySem PySem.Spec PyProof.Rows
section
variable {X : Cx} {pins : List (Addr × Obj)} {σ : St} {H : Hp} {s : Shared} {a : Addr} {xs ys : List V}
end
section
variable {X : Cx} {pins : List (Addr × Obj)} {σ : St} {H : Hp} {s : Shared} {E : Value → Shared → Prop}
end
section
variable {X : Cx} {st : Stmt} {rest : List Stmt} {t u : TS} {e : Expr} {te : TE} {pos : Pos}
end
section
variable {X : Cx} {pos : Pos}
end
section
variable {X : Cx} {pos : Pos}
end
end L2
namespace L2
open PySem PySem.Spec PyProof.Rows
section
variable {X : Cx} {tg : Expr}
end
end L2
namespace L2
open PySem PySem.Spec PyProof.Rows
section
variable {X : Cx} {a b c : Expr} {ta tb tc : TE} {pos : Pos}
end
section
variable {X : Cx} {a b c : Expr} {ta tb tc : TE} {pos : Pos}
end
end L2
namespace L2
open PySem PySem.Spec PyProof.Rows
section
variable {prog : Program} {w : World} {A : Around} {E : Value → Shared → Prop} {s : Shared} {K : PySem.W.Frag} {x dx C f : Addr} {mA : Str → Option Value} {name : Str} {v : Value}
end
section
variable {P : Program} {w : World} {H H' : Hp} {h h' : Heap} {a C dx : Addr} {fs fs' : List (Str × V)}
end
section
variable {X : Cx} {pins : List (Addr × Obj)} {σ : St} {H : Hp} {s : Shared} {a C dx : Addr} {fs : List (Str × V)} {f : Str} {v : V} {A : Around} {E : Value → Shared → Prop}
end
section
variable {X : Cx} {o e value : Expr} {f : Str} {pos pos' tpos : Pos} {ta tv : TE}
end
section
variable {X : Cx} {pins : List (Addr × Obj)} {σ : St} {H : Hp} {s : Shared} {A : Around} {E : Value → Shared → Prop} {Q : Value → Shared → Prop} {c : Value} {b : Bool}
end
end L2
namespace L2
open PySem PySem.Spec PyProof.Rows
section
variable {X : Cx} {e : Expr} {es : List Expr} {te : TE} {t : TA} {pos : Pos}
end
section
variable {X : Cx} {pins : List (Addr × Obj)} {σ : St} {H : Hp} {s s' : Shared}
end
section
variable {X : Cx} {CX : CXT} {k : Nat} {f C : Addr} {fd : FuncData} {ps : List Str} {sp : Sp} {dvs : List V} {ds : List Value} {E : XK} {x m : Str} {p pos apos : Pos} {e o : Expr} {es : List Expr} {ta : TE} {t : TA}
end
section
variable {X : Cx} {CX : CXT} {k : Nat} {f C : Addr} {fd : FuncData} {ps ks : List Str} {sp : Sp} {E : XK} {x m : Str} {p pos apos kpos : Pos} {e o : Expr} {es : List Expr} {kws : List Keyword} {te ta : TE} {t tk : TA} {nm : Option Str}
variable {g : List Value → List Value → List Value} {gV : List V → List V → List V}
end
end L2
namespace L2
open PySem PySem.Spec PyProof.Rows
section
variable {X : Cx} {x : Str} {p pos : Pos} {e : Expr} {es : List Expr} {t : TA} {id T : String} {r : List V → Hp → VK → Prop}
end
end L2
namespace L2
open PySem PySem.Spec PyProof.Rows
section
variable {κ : Type} [DecidableEq κ]
def valV (kvs : List (κ × V)) (k : κ) : Option V := (kvs.find? fun kv => decide (kv.1 = k)).map (·.2)
def putK (kvs : List (κ × V)) (k : κ) (v : V) : List (κ × V) :=
  if (kvs.any fun kv => decide (kv.1 = k)) = true then kvs.map (fun kv => if kv.1 = k then (kv.1, v) else kv) else kvs ++ [(k, v)]
theorem valV_pos {p : κ × V} {r : List (κ × V)} {k : κ} (e : p.1 = k) : valV (p :: r) k = some p.2 := by simp [valV, List.find?_cons, e]
theorem valV_neg {p : κ × V} {r : List (κ × V)} {k : κ} (e : ¬ p.1 = k) : valV (p :: r) k = valV r k := by simp [valV, List.find?_cons, e]
theorem RelO.isSome_eq {o : Option V} {u : Option Value} (r : RelO o u) : o.isSome = u.isSome := by
  cases o with
  | none => cases u with
    | none => rfl
    | some _ => exact (show False from r).elim
  | some _ => cases u with
    | none => exact (show False from r).elim
    | some _ => rfl
theorem KV.val {kvs : List (κ × V)} {vs : List (κ × Value)} (r : KV kvs vs) (k : κ) : RelO (valV kvs k) (valueAt vs k) := by
  unfold KV at r
  induction r with
  | nil => exact True.intro
  | @cons p q ps qs h t ih =>
    obtain ⟨h1, h2⟩ := h
    by_cases e : p.1 = k
    · have e' : q.1 = k := h1.symm.trans e
      have b : valueAt (q :: qs) k = some q.2 := by simp [valueAt, List.find?_cons, e']
      rw [valV_pos e, b]; exact h2
    · have e' : ¬ q.1 = k := fun z => e (h1.trans z)
      have b : valueAt (q :: qs) k = valueAt qs k := by simp [valueAt, List.find?_cons, e']
      rw [valV_neg e, b]; exact ih
theorem KV.any {kvs : List (κ × V)} {vs : List (κ × Value)} (r : KV kvs vs) (k : κ) : (kvs.any fun kv => decide (kv.1 = k)) = vs.any fun kv => decide (kv.1 = k) := by
  unfold KV at r
  induction r with
  | nil => rfl
  | cons h t ih => rw [List.any_cons, List.any_cons, ih, h.1]
theorem KV.repl {kvs : List (κ × V)} {vs : List (κ × Value)} (r : KV kvs vs) (k : κ) {y : V} {u : Value} (ry : RelV y u) :
    KV (kvs.map fun kv => if kv.1 = k then (kv.1, y) else kv) (vs.map fun kv => if kv.1 = k then (kv.1, u) else kv) := by
  unfold KV at r ⊢
  induction r with
  | nil => exact .nil
  | @cons p q ps qs h t ih =>
    rw [List.map_cons, List.map_cons]
    refine .cons ?_ ih
    obtain ⟨h1, h2⟩ := h
    by_cases e : p.1 = k
    · rw [if_pos e, if_pos (h1.symm.trans e)]; exact ⟨h1, ry⟩
    · rw [if_neg e, if_neg (fun z => e (h1.trans z))]; exact ⟨h1, h2⟩
theorem KV.put {kvs : List (κ × V)} {vs : List (κ × Value)} (r : KV kvs vs) (k : κ) {y : V} {u : Value} (ry : RelV y u) : KV (putK kvs k y) (stored vs k u) := by
  unfold putK stored
  rw [r.any k]
  by_cases e : (vs.any fun kv => decide (kv.1 = k)) = true
  · rw [if_pos e, if_pos e]; exact r.repl k ry
  · rw [if_neg e, if_neg e]; exact Paired.snoc r ⟨rfl, ry⟩
theorem KV.length {kvs : List (κ × V)} {vs : List (κ × Value)} (r : KV kvs vs) : kvs.length = vs.length := Paired.length r
end
theorem kV_is {P : Program} {w : World} {k : Key} {u : Value} (r : RelV (kV k) u) : (mixKind P w).is k u = true := by
  cases k with
  | inl i => obtain ⟨t, e⟩ := (show ∃ t, u = Value.int i t from r); subst e; exact mixKind_int P w i t
  | inr x => obtain ⟨t, e⟩ := (show ∃ t, u = Value.str x t from r); subst e; exact mixKind_str P w x t
theorem items_are {P : Program} {w : World} : ∀ {ks : List Key} {us : List Value}, Vals (ks.map kV) us → ItemsAre (mixKind P w) ks us
  | [], _, r => by rw [List.map_nil] at r; cases r; exact .nil
  | k :: ks, _, r => by
    rw [List.map_cons] at r
    cases r with
    | cons h t => exact .cons (kV_is h) (items_are t)
abbrev KT (H : Hp) : List (List Key × V) → List (List Key × Addr × Value) → Prop := Paired fun p q => p.1 = q.1 ∧ H q.2.1 = some (.tup (p.1.map kV)) ∧ RelV p.2 q.2.2
theorem KT.val {H : Hp} {kvs : List (List Key × V)} {xs : List (List Key × Addr × Value)} (r : KT H kvs xs) (k : List Key) : RelO (valV kvs k) ((atKey xs k).map (·.2)) := by
  induction r with
  | nil => exact True.intro
  | @cons p q ps qs h t ih =>
    obtain ⟨h1, _, h2⟩ := h
    by_cases e : p.1 = k
    · have e' : q.1 = k := h1.symm.trans e
      have b : atKey (q :: qs) k = some q.2 := by simp [atKey, List.find?_cons, e']
      rw [valV_pos e, b]; exact h2
    · have e' : ¬ q.1 = k := fun z => e (h1.trans z)
      have b : atKey (q :: qs) k = atKey qs k := by simp [atKey, List.find?_cons, e']
      rw [valV_neg e, b]; exact ih
section
variable {P : Program} {w : World} {H : Hp} {h : Heap} {a : Addr}
theorem rd_of {u : HO} (ok : HOk P w H h) (e : Rd H a u) : ObjOk P w H h a u := e.ok ok
theorem dk_rd {kvs : List (Key × V)} (ok : HOk P w H h) (e : Rd H a (.dK kvs)) : kvs.length ≤ sizeLine ∧ (a == sysModules) = false ∧ ∃ vs, KV kvs vs ∧ h.DictOf (mixKind P w) a vs :=
  show ObjOk P w H h a (.dK kvs) from rd_of ok e
theorem dk_of {kvs : List (Key × V)} (ok : HOk P w H h) (e : H a = some (.dK kvs)) : kvs.length ≤ sizeLine ∧ (a == sysModules) = false ∧ ∃ vs, KV kvs vs ∧ h.DictOf (mixKind P w) a vs := dk_rd ok (.inl e)
theorem key_of {ks : List Key} (ok : HOk P w H h) (e : H a = some (.tup (ks.map kV))) : (tupleKind (mixKind P w)).is h ks a := by
  obtain ⟨_, its, r, o, h1, h2, n, h3⟩ := (show ObjOk P w H h a (.tup (ks.map kV)) from ok a _ e)
  exact ⟨o, its.toArray, n, h1, h2, h3, by simpa using items_are r⟩
theorem dt_rd {kvs : List (List Key × V)} (ok : HOk P w H h) (e : Rd H a (.dT kvs)) : kvs.length ≤ sizeLine ∧ (a == sysModules) = false ∧
    ∃ xs, KT H kvs xs ∧ h.DictOfH (tupleKind (mixKind P w)) a xs := by
  obtain ⟨z, y, xs, r, o, es, ep, h1, h2, h3, h4, h5⟩ := (show ObjOk P w H h a (.dT kvs) from rd_of ok e)
  refine ⟨z, y, xs, r, o, es, ep, h1, h2, h3, h4, fun x hx => ?_, h5⟩
  have all : ∀ {l : List (List Key × V)} {m : List (List Key × Addr × Value)}, KT H l m → ∀ x ∈ m, (tupleKind (mixKind P w)).is h x.1 x.2.1 := by
    intro l m q
    induction q with
    | nil => intro x hx; exact nomatch hx
    | @cons p q ps qs hq t ih =>
      intro x hx
      rcases List.mem_cons.mp hx with e | hx
      · subst e
        exact key_of ok (by rw [← hq.1]; exact hq.2.1)
      · exact ih x hx
  exact all r x hx
end
def DGet (H : Hp) (a : Addr) (y : V) (r : Option V) : Prop :=
  (∃ kvs k, Rd H a (.dK kvs) ∧ y = kV k ∧ r = valV kvs k) ∨ ∃ kvs k b, Rd H a (.dT kvs) ∧ y = .ref b ∧ H b = some (.tup (k.map kV)) ∧ r = valV kvs k
theorem DGet.k {H : Hp} {a : Addr} {kvs : List (Key × V)} {k : Key} (e : H a = some (.dK kvs)) : DGet H a (kV k) (valV kvs k) := .inl ⟨kvs, k, .inl e, rfl, rfl⟩
section
variable {X : Cx} {pins : List (Addr × Obj)} {σ : St} {H : Hp} {s : Shared} {a : Addr} {y v : V} {u r : Value} {o : Option V} {A : Around} {E : Value → Shared → Prop}
theorem Inv.big (I : Inv X pins σ H s) : sysModules < s.heap.objs.size := by
  have h : mainGlobals < s.heap.objs.size := (I.mod.glob.keeps I.bk).lt
  exact Nat.lt_trans (by decide) h
theorem d_getItem {Q : Value → Shared → Prop} (hu : A.units + 1 < cLine) (I : Inv X pins σ H s) (g : DGet H a y (some v)) (ry : RelV y u) (h : ∀ w' s', Inv X pins σ H s' → RelV v w' → Q w' s') :
    wpAny (model X.prog X.w) A (getItem (.ref a) u) Q E s := by
  rcases g with ⟨kvs, k, e, ey, l⟩ | ⟨kvs, k, b, e, ey, eb, l⟩
  · subst ey
    obtain ⟨z, hd, vs, rel, dd⟩ := dk_rd I.hok e
    obtain ⟨w', hw, rw'⟩ := RelO.some_of (v := v) (o := valueAt vs k) (by rw [l]; exact rel.val k)
    exact wpAny_getItem_of (kV_is ry) dd.mapOf hw (h w' _ (I.tok _) rw')
  · subst ey
    cases (show u = Value.ref b from ry)
    obtain ⟨z, hd, xs, rel, dd⟩ := dt_rd I.hok e
    obtain ⟨w', hw, rw'⟩ := RelO.some_of (v := v) (o := (atKey xs k).map (·.2)) (by rw [l]; exact rel.val k)
    obtain ⟨p, hp, hp2⟩ := Option.map_eq_some_iff.mp hw
    refine wpAny_getItem_heap (tupleKind_room_in1 hu) (key_of I.hok eb) dd hp ?_
    rw [hp2]
    exact h w' _ (I.tok _) rw'
theorem d_in {Q : Value → Shared → Prop} (hu : A.units + 1 < cLine) (I : Inv X pins σ H s) (g : DGet H a y o) (ry : RelV y u) (h : ∀ s', Inv X pins σ H s' → Q (.bool o.isSome) s') :
    wpAny (model X.prog X.w) A (compareOp .In u (.ref a)) Q E s := by
  rcases g with ⟨kvs, k, e, ey, l⟩ | ⟨kvs, k, b, e, ey, eb, l⟩
  · subst ey
    obtain ⟨z, hd, vs, rel, dd⟩ := dk_rd I.hok e
    refine wpAny_in_of (kV_is ry) hd dd.mapOf ?_
    rw [← (rel.val k).isSome_eq, ← l]
    exact h _ (I.tok _)
  · subst ey
    cases (show u = Value.ref b from ry)
    obtain ⟨z, hd, xs, rel, dd⟩ := dt_rd I.hok e
    refine wpAny_in_heap (tupleKind_room_in1 hu) (key_of I.hok eb) hd dd ?_
    have q := (rel.val k).isSome_eq
    rw [Option.isSome_map] at q
    rw [← q, ← l]
    exact h _ (I.tok _)
end
section
variable {X : Cx} {pins : List (Addr × Obj)} {σ : St} {H : Hp} {s : Shared} {a : Addr} {kvs : List (Key × V)} {k : Key} {u : Value} {A : Around} {E : Value → Shared → Prop}
end
def NoSl (i : Expr) : Prop := ∀ ov iv, subscripted i false ov iv = operate [ov, iv] (getItem ov iv)
theorem subD_of {prog : Program} {w : World} {A : Around} {E : Value → Shared → Prop} {s : Shared} {env : Env} {value slice : Expr} {pos : Pos} {T id : String} {Q : Value → Shared → Prop}
    (hl : typeLookup (.type T) "__getitem__" = pure (some (.builtin id))) (hs : NoSl slice)
    (h : wpAny (model prog w) A (eval value env) (fun o s₁ => wpAny (model prog w) A (eval slice env) (fun i s₂ => s₂.TypeIs o T ∧ wpAny (model prog w) A (getItem o i) Q E s₂) E s₁) E s) :
    wpAny (model prog w) A (eval (.Subscript value slice pos) env) Q E s := by
  refine Subscript_ (wpAny_mono h (fun o s₁ h₁ => wpAny_mono h₁ (fun i s₂ h₂ => ?_) fun _ _ x => x) fun _ _ x => x)
  obtain ⟨hT, h₂⟩ := h₂
  unfold subscriptTail
  refine wpAny_bind ?_
  rw [getitemInPython_of_ne hT.not_modules]
  refine wpAny_bind (wpAny_specialOf hT hl ?_)
  have fin : wpAny (model prog w) A (subscripted slice false o i) (fun r s₃ => wpAny (model prog w) A (letTemporaryGo value o r >>= fun _ => pure r) Q E s₃) E s₂ := by
    rw [hs o i]
    exact wpAny_operating (wpAny_mono h₂ (fun r s₃ h₃ => wpAny_bind (wpAny_letTemporaryGo (wpAny_pure h₃))) fun _ _ x => x)
  first
    | exact wpAny_pure (wpAny_bind fin)
    | exact wpAny_bind (wpAny_pure (wpAny_bind fin))
    | exact wpAny_bind fin
theorem dict_typeIs {X : Cx} {pins : List (Addr × Obj)} {σ : St} {H : Hp} {s : Shared} {a : Addr} {y : V} {o : Option V} (I : Inv X pins σ H s) (g : DGet H a y o) : s.TypeIs (.ref a) "dict" := by
  rcases g with ⟨kvs, k, e, _, _⟩ | ⟨kvs, k, b, e, _, _, _⟩
  · obtain ⟨_, _, vs, _, dd⟩ := dk_rd I.hok e
    exact dd.typeIs
  · obtain ⟨_, _, xs, _, dd⟩ := dt_rd I.hok e
    exact dd.typeIs
def tDGet (td ty : TE) : TE := fun σ H Q => td σ H fun x H1 => ty σ H1 fun y H2 => ∃ a v, x = .ref a ∧ DGet H2 a y (some v) ∧ Q v H2
section
variable {X : Cx} {o i e value : Expr} {pos pos' tpos : Pos} {td ty tv : TE}
theorem pe_dget (hu : X.A.units + 1 < cLine) (ho : PE X o td) (hi : PE X i ty) (hs : NoSl i) : PE X (.Subscript o i pos) (tDGet td ty) := by
  intro pins s σ H Q I h
  refine subD_of PySem.F.slot_dict_getitem.lookup hs (thn (ho pins s σ H _ I h) fun u s1 ⟨x, H1, I1, rx, q1⟩ => thn (hi pins s1 σ H1 _ I1 q1) fun iv s2 ⟨y, H2, I2, ry, a, v, ex, g, q2⟩ => ?_)
  subst ex
  obtain rfl : u = Value.ref a := rx
  exact ⟨dict_typeIs I2 g, d_getItem hu I2 g ry fun w' s3 I3 rw' => ⟨v, H2, I3, rw', q2⟩⟩
end
theorem dk_empty {P : Program} {w : World} {H : Hp} (h : Heap) (hb : sysModules < h.objs.size) : ObjOk P w H (h.push { cls := .type "dict", data := .dict #[] }) h.objs.size (.dK []) :=
  ⟨Nat.zero_le _, beq_eq_false_iff_ne.mpr (Ne.symm (Nat.ne_of_lt hb)), [], .nil, Heap.DictOf.new h⟩
section
variable {X : Cx} {pos : Pos}
end
section
variable {X : Cx} {pins : List (Addr × Obj)} {σ : St} {H : Hp} {s : Shared} {a : Addr} {y d : V} {u r : Value} {o : Option V} {A : Around} {E : Value → Shared → Prop}
end
section
variable {X : Cx} {o e f : Expr} {apos cpos : Pos} {td ty tx : TE}
end
section
variable {X : Cx} {pins : List (Addr × Obj)} {σ : St} {H : Hp} {s : Shared} {a : Addr} {kvs : List (Key × V)} {A : Around} {E : Value → Shared → Prop}
end
section
variable {X : Cx} {pins : List (Addr × Obj)} {σ : St} {H : Hp} {s : Shared} {a : Addr} {y : V} {u : Value} {A : Around} {E : Value → Shared → Prop}
end
end L2
namespace Att
open PySem PySem.W PySem.Calls PyProof.Rows
section
variable {prog : Program} {w : World} {A : Around} {E : Value → Shared → Prop} {s : Shared} {K : Frag}
end
end Att
namespace L2
open PySem PySem.Spec PyProof.Rows
end L2
namespace L2
open PySem PySem.Spec PyProof.Rows
end L2
namespace L2
open PySem PySem.Spec PyProof.Rows
section
variable {P : Program} {w : World} {K : PySem.W.Frag} {mg : Str → Option Value} {base : Heap}
end
section
variable {X : Cx}
end
section
variable {κ : Type} [DecidableEq κ]
end
end L2
set_option maxRecDepth 100000
namespace L2
open PySem PySem.Spec PyProof.Rows
section
variable {prog : Program} {w : World} {A : Around} {R : Result → Shared → Prop} {s : Shared}
theorem dcomp_loop {kx vx target iter : Expr} {ifs : List Expr} {scope : Scope} {pos : Pos} {it : Value} {D : Addr} {env : Env} (J : Nat → Shared → Prop)
    (turn : ∀ n s, J n s → wpAny (model prog w) A (pyNext it) (fun r s1 => match r with
      | none => R (.ok .next) s1
      | some v => wpAny (model prog w) A (letOwnedTupleGo target it v) (fun _ s2 => wpAny (model prog w) A (assign target env v) (fun _ s3 => wpAny (model prog w) A (cTests ifs env) (fun ok s4 =>
          if ok = true then wpAny (model prog w) A (eval kx env) (fun kv s5 => wpAny (model prog w) A (eval vx env) (fun vv s6 => wpAny (model prog w) A (dictSet D kv vv) (fun _ s7 => ∃ m, m < n ∧ J m s7) (fun _ _ => False) s6) (fun _ _ => False) s5) (fun _ _ => False) s4
          else ∃ m, m < n ∧ J m s4) (fun _ _ => False) s3) (fun _ _ => False) s2) (fun _ _ => False) s1) (fun _ _ => False) s)
    (n : Nat) (h : J n s) : codeAny (model prog w) A (.compLoop (.DictComp kx vx [⟨target, iter, ifs, 0⟩] scope pos) 0 it (.ref D) env) R s := by
  refine codeAny_loop rfl J (fun n s hJ => ?_) n h
  show wpAny _ A ((compTurn (.DictComp kx vx [⟨target, iter, ifs, 0⟩] scope pos) 0 it (.ref D) env).onRaise (fun x => do noteFrame x env; theTreesLotGoes x)) _ _ s
  refine wpAny_noted ?_
  rw [compTurn_dict]
  have up : ∀ {α : Type} {t : Sem α} {Q Q' : α → Shared → Prop} {E : Value → Shared → Prop} {s : Shared}, wpAny (model prog w) A t Q (fun _ _ => False) s → (∀ a s, Q a s → Q' a s) → wpAny (model prog w) A t Q' E s :=
    fun h f => wpAny_mono h f fun _ _ z => False.elim z
  refine wpAny_bind (wpAny_standAt (wpAny_bind (up (turn n s hJ) fun r s1 h1 => ?_)))
  cases r with
  | none => exact wpAny_pure h1
  | some v =>
    refine wpAny_bind (up h1 fun _ s2 h2 => ?_)
    refine wpAny_bind (up h2 fun _ s3 h3 => ?_)
    refine wpAny_bind (up h3 fun ok s4 h4 => ?_)
    cases ok with
    | false => exact wpAny_pure ⟨rfl, h4⟩
    | true => exact wpAny_bind (wpAny_bind (up h4 fun kv s5 h5 => wpAny_bind (wpAny_holding (up h5 fun vv s6 h6 => wpAny_bind (wpAny_standAt (wpAny_holding (up h6 fun _ s7 h7 => wpAny_pure ⟨rfl, h7⟩)))))))
end
section
variable {X : Cx} {scope : Scope} {own M : List Str} {pins : List (Addr × Obj)} {σ : St} {H2 : Hp} {s2 : Shared} {fp : List Addr}
theorem inv_compD {o0 : Obj} (ok : CompOk X scope M) (hc : X.calm = true) (I : Inv X pins σ H2 s2) (hf : ∀ b ∈ fp, FpOk X pins H2 b ∧ b < s2.heap.objs.size) {C : Addr} (hC : C = s2.heap.objs.size + 1) {h4 : Heap}
    (hh : h4 = pushCells ((s2.heap.push o0).push { cls := .type "dict", data := .dict #[] }) scope.names) :
    Inv (cxComp X scope own M C s2 H2 fp) [] (List.replicate own.length none ++ σ) H2 { s2 with heap := h4 } := by
  have zC : (s2.heap.push o0).objs.size = C := by rw [Heap.size_push, hC]
  have zC1 : ((s2.heap.push o0).push { cls := .type "dict", data := .dict #[] }).objs.size = C + 1 := by rw [Heap.size_push, zC]
  have keep : ∀ b o, s2.heap.get? b = some o → h4.get? b = some o := fun b o e => by
    rw [hh]; exact pushCells_keeps _ _ _ _ (Heap.get?_push_of_some _ (Heap.get?_push_of_some _ e))
  have cellOld : ∀ x c, X.env.cells.lookup x = some c → c < s2.heap.objs.size := fun x c e => by obtain ⟨v, q⟩ := I.cell x c e; exact q.lt
  have cellB : ∀ x c, (cellsC X scope C).lookup x = some c → (h4.IsCell c none ∧ C + 1 ≤ c ∧ scope.names.lookup x = some .cell) ∨ X.env.cells.lookup x = some c := fun x c e => by
    by_cases hx : scope.names.lookup x = some .cell
    · have e' := e
      unfold cellsC at e'
      rw [← zC1] at e'
      rcases cf_all _ _ _ x c e' with ⟨a, b, d⟩ | q
      · exact .inl ⟨by rw [hh]; exact a, by rw [zC1] at b; exact b, hx⟩
      · exact .inr (closL_sub scope.names [] (ok.cells I) (fun _ _ z => by simp at z) x c q)
    · exact .inr (ok.cellsFrom_old I e hx)
  have hNs : ∃ m, h4.Ns C m := by
    have q : ((s2.heap.push o0).push { cls := .type "dict", data := .dict #[] }).Ns C (fun _ => none) := by
      have := Heap.Ns.new (s2.heap.push o0) (.type "dict")
      rw [zC] at this
      exact this
    exact ⟨_, q.keeps fun b o e => by rw [hh]; exact pushCells_keeps _ _ _ _ e⟩
  have nfs : ∀ b ∈ fp, b ∉ frs X.stack := fun b hb hx => by
    obtain ⟨⟨_, f1, f2, _⟩, _⟩ := hf b hb
    rcases List.mem_cons.mp (I.stkSub b hx) with e | e
    · exact f1 e
    · exact f2 e
  obtain ⟨mC, hmC⟩ := hNs
  refine ⟨⟨I.ok.mod, ok.kind, I.ok.glob, I.ok.blt, ?_, ?_, ?_, ?_, I.ok.hd, I.ok.frames, .inl rfl, ?_, I.bs, ?_, ?_, nfs, I.stack, I.stkFree⟩, rfl, I.bare, Un.kept keep, ⟨mC, hmC, ?_⟩, ?_, I.hok.fresh (by show s2.heap.objs.size ≤ C; rw [hC]; exact Nat.le_succ _), ?_, fun p hp => absurd (show p ∈ ([] : List (Addr × Obj)) from hp) (by simp), I.hok.kept keep, ?_⟩
  · show s2.heap.objs.size ≤ C; rw [hC]; exact Nat.le_succ _
  · intro x y c h1 h2
    refine cf_inj scope.names (C + 1) (closL X.env scope.names []) (fun a b d p q => ?_) (fun a d p => ?_) x y c h1 h2
    · exact I.ok.inj a b d (closL_sub scope.names [] (ok.cells I) (fun _ _ z => by simp at z) a d p) (closL_sub scope.names [] (ok.cells I) (fun _ _ z => by simp at z) b d q)
    · have := cellOld a d (closL_sub scope.names [] (ok.cells I) (fun _ _ z => by simp at z) a d p)
      rw [hC]; exact Nat.lt_succ_of_lt (Nat.lt_succ_of_lt this)
  · intro x hx
    have go : ∀ k, (k = NameKind.cell ∨ k = NameKind.free) → (compEnvC scope (cellsC X scope C) C X.env).kindOf x = some k → ∃ c, (cellsC X scope C).lookup x = some c := fun k hk e => by
      rcases ok.kindIn e with e | ⟨_, e⟩
      · rcases hk with rfl | rfl
        · exact cf_has _ _ _ (PySem.mem_of_lookup e)
        · exact cf_keep _ _ _ (closL_has (y := (x, .free)) rfl _ _ (PySem.mem_of_lookup e))
      · exact cf_keep _ _ _ (closL_has (y := (x, .free)) rfl _ _ (PySem.mem_of_lookup e))
    rcases hx with e | e
    · exact go _ (.inl rfl) e
    · exact go _ (.inr rfl) e
  · intro x c hx h
    have hx' : scope.names.lookup x = some .cell := by simpa [cxComp] using hx
    have := cf_ge (x := x) scope.names (C + 1) (closL X.env scope.names []) (C + 1) (Nat.le_refl _) (.inl (PySem.mem_of_lookup hx')) c h
    show s2.heap.objs.size ≤ c
    exact Nat.le_trans (by rw [hC]; exact Nat.le_trans (Nat.le_succ _) (Nat.le_succ _)) this
  · intro b hb
    obtain ⟨⟨_, _, _, _, f4, _⟩, f6⟩ := hf b hb
    refine ⟨?_, fun x c h => ?_⟩
    · show b ≠ C
      rw [hC]; exact Nat.ne_of_lt (Nat.lt_succ_of_lt f6)
    · rcases cellB x c h with ⟨_, q, _⟩ | q
      · rw [hC] at q
        exact Nat.ne_of_gt (Nat.lt_of_lt_of_le f6 (Nat.le_trans (Nat.le_trans (Nat.le_succ _) (Nat.le_succ _)) q))
      · exact f4 x c q
  · exact Nat.le_trans I.ok.bsz I.sz
  · intro b o e hb
    obtain ⟨⟨_, _, _, f3, _⟩, _⟩ := hf b hb
    rcases f3 with z | z
    · exact I.ok.noex b o e z
    · exact absurd (Nat.lt_of_lt_of_le (Heap.lt_size (I.ok.bs b o e).1) z) (Nat.lt_irrefl _)
  · intro i x v h1 h2 h3
    have h2' : (List.replicate own.length (none : Option V) ++ σ)[i]? = some (some v) := h2
    have hi : own.length ≤ i := by
      apply Nat.le_of_not_lt
      intro hlt
      rw [List.getElem?_append_left (by simpa using hlt), List.getElem?_replicate] at h2'
      rw [if_pos hlt] at h2'
      cases h2'
    rw [List.getElem?_append_right (by simpa using hi), List.length_replicate] at h2'
    have h1' : (own ++ M)[i]? = some x := h1
    rw [List.getElem?_append_right hi] at h1'
    obtain ⟨n1, n2⟩ := ok.shadow x (List.mem_of_getElem? h1')
    have hfree : scope.names.lookup x = some .free ∧ ((compEnvC scope (cellsC X scope C) C X.env).kindOf x = some .cell ∨ (compEnvC scope (cellsC X scope C) C X.env).kindOf x = some .free) := by
      rcases h3 with e | e | e
      · rcases ok.kindIn (x := x) (C := C) e with q | ⟨q, _⟩
        · exact absurd q n1
        · cases q
      · rcases ok.kindIn (x := x) (C := C) e with q | ⟨_, q⟩
        · exact absurd q n2
        · exact ⟨q, .inl e⟩
      · rcases ok.kindIn (x := x) (C := C) e with q | ⟨q, _⟩
        · exact ⟨q, .inr e⟩
        · cases q
    obtain ⟨hfr, hk⟩ := hfree
    obtain ⟨m, hn, hl⟩ := I.loc
    have hkX := ok.frees (x, .free) (PySem.mem_of_lookup hfr) rfl
    have h1' := ok.same _ _ h1' hfr
    obtain ⟨u, ru, lk⟩ := hl (i - own.length) x v h1' h2' (hkX.elim (fun z => .inr (.inl z)) fun z => .inr (.inr z))
    refine ⟨u, ru, .inr ⟨hk, ?_⟩⟩
    rcases lk with ⟨k, _⟩ | ⟨_, c, ec, ic⟩
    · rcases hkX with z | z <;> (rw [k] at z; cases z)
    · obtain ⟨c', e'⟩ : ∃ c', (cellsC X scope C).lookup x = some c' := cf_keep _ _ _ (closL_has (y := (x, .free)) rfl _ _ (PySem.mem_of_lookup hfr))
      refine ⟨c', e', ?_⟩
      have := ok.cellsFrom_old I e' (by rw [hfr]; simp)
      have e2 : some c = some c' := ec.symm.trans this
      cases e2
      exact ic.keeps keep
  · intro x c h
    rcases cellB x c h with ⟨q, _⟩ | q
    · exact ⟨_, q⟩
    · obtain ⟨v, z⟩ := I.cell x c q
      exact ⟨v, z.keeps keep⟩
  · intro x c h
    rcases cellB x c h with ⟨q, q2, _⟩ | q
    · exact I.hok.fresh (by rw [hC] at q2; exact Nat.le_trans (Nat.le_trans (Nat.le_succ _) (Nat.le_succ _)) q2)
    · exact I.freeC x c q
  · show (List.replicate own.length (none : Option V) ++ σ).length = (own ++ M).length
    rw [List.length_append, List.length_append, List.length_replicate, I.len, ok.mlen]
end
section
variable {X : Cx} {scope : Scope} {own M : List Str} {pins : List (Addr × Obj)} {σ : St} {H2 : Hp} {s2 : Shared} {tg iter kx vx : Expr} {ifs : List Expr} {pos : Pos} {g : TG} {tt : TT} {tk tv : TE}
theorem dcomp_core (ok : CompOk X scope M) (hc : X.calm = true) (hg : ∀ C s2 H2 fp, PG (cxComp X scope own M C s2 H2 fp) tg g) (ht : ∀ C s2 H2 fp, PTs (cxComp X scope own M C s2 H2 fp) ifs tt) (hek : ∀ C s2 H2 fp, PE (cxComp X scope own M C s2 H2 fp) kx tk) (he : ∀ C s2 H2 fp, PE (cxComp X scope own M C s2 H2 fp) vx tv)
    (I2 : Inv X pins σ H2 s2) {it : Addr} {fp : List Addr} {tn : Nat → Heap → Prop} {J : It} (T : Turn X.prog X.w X.K tg J fp it tn) (st2 : tn 0 s2.heap) (f2 : ∀ b ∈ fp, FpOk X pins H2 b)
    {W : Nat → Nat → List (Key × V) → Hp → Prop} (w0 : ∃ m, W 0 m [] H2) {Qf : V → Hp → Prop}
    (turn : ∀ i m acc H, W i m acc H → (J.stop i H ∧ acc.length ≤ sizeLine ∧ ∀ D, H D = none → Qf (.ref D) (upd H D (.dK acc))) ∨
      (J.go i H ∧ acc.length < sizeLine ∧ ∀ x H', J.yld i H x H' → g x (List.replicate own.length none ++ σ) H' fun σ2 H2 => σ2.drop own.length = σ ∧ tt σ2 H2 fun c H3 =>
        if c = true then tk σ2 H3 fun y H4 => tv σ2 H4 fun v H5 => ∃ k m', y = kV k ∧ m' < m ∧ W (i + 1) m' (putK acc k v) H5 else ∃ m', m' < m ∧ W (i + 1) m' acc H3))
    {RR : Value → Addr → Result → Shared → Prop} {E : Value → Shared → Prop}
    (fin : ∀ D C H' s' m, Inv X pins σ H' s' → Qf (.ref D) H' → s'.heap.Ns C m → H' C = none → C ≠ X.env.locals → X.s₀.heap.objs.size ≤ C → (∀ x c, X.env.cells.lookup x = some c → c ≠ C) → (∀ p ∈ X.pn ++ pins, p.1 ≠ C) → RR (.ref D) C (.ok .next) s') :
    wpAny (model X.prog X.w) X.A newDict (fun acc s3 => wpAny (model X.prog X.w) X.A (newFunctionEnv scope X.env.globals (closL X.env scope.names []) [] X.env.qual none .none (some X.env)) (fun cenv s4 =>
      codeAny (model X.prog X.w) X.A (.compStart (.DictComp kx vx [⟨tg, iter, ifs, 0⟩] scope pos) 0 (.ref it) acc { cenv with scope := relabel scope X.env }) (RR acc cenv.locals) s4) E s3) E s2 := by
  refine wpAny_newObj_type (newEnv_comp ?_)
  have zC : (s2.heap.push { cls := .type "dict", dict := none, data := .dict #[] }).objs.size = s2.heap.objs.size + 1 := Heap.size_push ..
  dsimp only
  rw [zC]
  generalize hC : s2.heap.objs.size + 1 = C
  generalize hh : pushCells ((s2.heap.push { cls := .type "dict", dict := none, data := .dict #[] }).push { cls := .type "dict", data := .dict #[] }) scope.names = h4
  have fpl : ∀ b ∈ fp, FpOk X pins H2 b ∧ b < s2.heap.objs.size := fun b hb => by
    obtain ⟨o, e, _⟩ := T.obj 0 _ st2 b hb
    exact ⟨f2 b hb, Heap.lt_size e⟩
  have I4 : Inv (cxComp X scope own M C s2 H2 fp) [] (List.replicate own.length none ++ σ) H2 { s2 with heap := h4 } := inv_compD (o0 := { cls := .type "dict", dict := none, data := .dict #[] }) ok hc I2 fpl hC.symm hh.symm
  generalize hX : cxComp X scope own M C s2 H2 fp = X' at I4
  have keep4 : ∀ b o, s2.heap.get? b = some o → h4.get? b = some o := fun b o e => by
    rw [← hh]; exact pushCells_keeps _ _ _ _ (Heap.get?_push_of_some _ (Heap.get?_push_of_some _ e))
  have hD4 : h4.get? s2.heap.objs.size = some { cls := .type "dict", dict := none, data := .dict #[] } := by
    rw [← hh]; exact pushCells_keeps _ _ _ _ (Heap.get?_push_of_some _ (Heap.get?_push_size _ rfl))
  have isD0 : (({ cls := .type "dict", dict := none, data := .dict #[] } : Obj)).IsDictOf (mixKind X.prog X.w) [] := by
    obtain ⟨_, _, vs, r, o, es, ep, e, q⟩ := dk_empty (P := X.prog) (w := X.w) (H := H2) s2.heap I2.big
    cases r
    rw [Heap.get?_push_size _ (by rfl)] at e
    cases e
    exact ⟨es, ep, q⟩
  have dsys : (s2.heap.objs.size == sysModules) = false := (dk_empty (P := X.prog) (w := X.w) (H := H2) s2.heap I2.big).2.1
  have st4 : tn 0 h4 := T.keep _ _ _ st2 fun b hb o e => keep4 b o e
  have gg : PG X' tg g := by rw [← hX]; exact hg C s2 H2 fp
  have gt : PTs X' ifs tt := by rw [← hX]; exact ht C s2 H2 fp
  have gk : PE X' kx tk := by rw [← hX]; exact hek C s2 H2 fp
  have ge : PE X' vx tv := by rw [← hX]; exact he C s2 H2 fp
  have xP : X'.prog = X.prog := by rw [← hX]; rfl
  have xw : X'.w = X.w := by rw [← hX]; rfl
  have xK : X'.K = X.K := by rw [← hX]; rfl
  have xA : X'.A = X.A := by rw [← hX]; rfl
  have xc : X'.calm = true := by rw [← hX]; exact hc
  have xpn : X'.pn = [] := by rw [← hX]; rfl
  have xs : X'.s₀ = s2 := by rw [← hX]; rfl
  have xH : X'.H₀ = H2 := by rw [← hX]; rfl
  have xL : X'.env.locals = C := by rw [← hX]; rfl
  have xfs : X'.fs = frs X.stack := by rw [← hX]; rfl
  have xex : X'.ex = fp := by rw [← hX]; rfl
  have xe : X'.xe = fun _ _ => False := by rw [← hX]; rfl
  have xenv : ({ newEnv scope C X.env.globals (cellsFrom (C + 1) scope.names (closL X.env scope.names [])) X.env.qual none .none (some X.env) builtinsNs with scope := relabel scope X.env } : Env) = X'.env := by rw [← hX]; rfl
  have Dlt : s2.heap.objs.size < C := by rw [← hC]; exact Nat.lt_succ_self _
  have fpb : ∀ {pl : List (Addr × Obj)} {H : Hp}, (∀ b ∈ fp, H b = none) → (∀ p ∈ pl, p.1 ∉ fp) → ∀ b ∈ fp, FpOk X' pl H b := fun {pl H} hn hpl b hb => by
    refine ⟨hn b hb, ?_, ?_, .inl (by rw [xex]; exact hb), fun x c e => (I4.ok.exf b (by rw [xex]; exact hb)).2 x c e, fun p hp z => ?_⟩
    · exact (I4.ok.exf b (by rw [xex]; exact hb)).1
    · exact I4.ok.exfs b (by rw [xex]; exact hb)
    · rw [xpn, List.nil_append] at hp
      exact hpl p hp (by rw [z]; exact hb)
  have Dfp : s2.heap.objs.size ∉ fp := fun z => Nat.lt_irrefl _ (fpl _ z).2
  have DC : s2.heap.objs.size ≠ C := Nat.ne_of_lt Dlt
  have Dcell : ∀ x c, X'.env.cells.lookup x = some c → c ≠ s2.heap.objs.size := fun x c e z => by
    obtain ⟨v, o, q, hd⟩ := I4.cell x c e
    rw [z] at q
    have q' : h4.get? s2.heap.objs.size = some o := q
    rw [hD4] at q'
    cases q'
    cases hd
  have Dfs : s2.heap.objs.size ∉ X'.fs := fun z => by
    obtain ⟨_, o, ho, _⟩ := I4.ok.funs.mem (by exact z)
    rw [xs] at ho
    exact Nat.lt_irrefl _ (Heap.lt_size ho)
  rw [xenv]
  have goal : ∀ s5 : Shared, s5 = { s2 with heap := h4 } → codeAny (model X.prog X.w) X.A (.compLoop (.DictComp kx vx [⟨tg, iter, ifs, 0⟩] scope pos) 0 (.ref it) (.ref s2.heap.objs.size) X'.env) (RR (.ref s2.heap.objs.size) C) s5 := by
    rintro s5 rfl
    obtain ⟨m0, w0⟩ := w0
    refine dcomp_loop (fun n s' => ∃ i acc σ' H' ob vs, Inv X' [] σ' H' s' ∧ σ'.drop own.length = σ ∧ tn i s'.heap ∧ (∀ b ∈ fp, H' b = none) ∧ H' s2.heap.objs.size = none ∧
      s'.heap.get? s2.heap.objs.size = some ob ∧ ob.IsDictOf (mixKind X.prog X.w) vs ∧ KV acc vs ∧ W i n acc H') ?_ m0
      ⟨0, [], _, H2, _, [], I4, by simp, st4, fun b hb => (f2 b hb).1, I2.hok.fresh (Nat.le_refl _), hD4, isD0, .nil, w0⟩
    rintro n s3 ⟨i, acc, σ3, H3, ob, vs, I3, hσ, st3, fr3, hD, hDo, isD, rv, w3⟩
    have noc : ∀ v, ob.data ≠ .cell v := fun v z => by
      obtain ⟨es, ep, _, e, _⟩ := isD
      rw [e] at z; cases z
    have pinD : ∀ {H : Hp} {s : Shared} {σ : St}, Inv X' [] σ H s → H s2.heap.objs.size = none → s.heap.get? s2.heap.objs.size = some ob →
        Inv X' [(s2.heap.objs.size, ob)] σ H s := fun {H s σ} I hn ho => I.pins_of fun p hp => by
      have e : p = (s2.heap.objs.size, ob) := by simpa using hp
      subst e
      exact ⟨ho, hn, by rw [xL]; exact DC, Dfs, noc⟩
    have plD : ∀ p ∈ [((s2.heap.objs.size, ob) : Addr × Obj)], p.1 ∉ fp := fun p hp => by
      have e : p = (s2.heap.objs.size, ob) := by simpa using hp
      subst e
      exact Dfp
    have I3' := pinD I3 hD hDo
    rcases turn i n acc H3 w3 with ⟨stop, hsz, q⟩ | ⟨go, hsz, step⟩
    · have := T.done X' xP xw xK xc i _ s3 σ3 H3 (fun _ _ => False) I3' (fpb fr3 plD) st3 stop
      rw [xA] at this
      refine thn this fun r s4 ⟨hr, I5⟩ => ?_
      subst hr
      have hDo5 := (I5.pin (s2.heap.objs.size, ob) (by rw [xpn]; simp)).1
      have un : Un (frs X.stack) fp H2 H3 s2.heap s4.heap := by
        have := I5.base
        rw [xfs, xex, xH, xs] at this
        exact this
      have os : s4.os = s2.os := by rw [I5.os, xs]
      have hok : HOk X.prog X.w H3 s4.heap := by have := I5.hok; rw [xP, xw] at this; exact this
      have IX : Inv X pins σ H3 s4 := I2.call' os un hok I5.bare fun b hb => by
        obtain ⟨_, f1, _, f3, f4, f5⟩ := f2 b hb
        exact ⟨f3, f1, f4, f5⟩
      have old : ∀ {b : Addr}, s2.heap.objs.size ≤ b → (X.s₀.heap.objs.size ≤ b ∧ b ≠ X.env.locals ∧ (∀ x c, X.env.cells.lookup x = some c → c ≠ b) ∧ ∀ p ∈ X.pn ++ pins, p.1 ≠ b) := fun {b} hb => by
        obtain ⟨_, f1, _, f3, f4, f5⟩ := I2.fpOk (H' := fun _ => none) hb rfl
        exact ⟨Nat.le_trans I2.sz hb, f1, f4, f5⟩
      obtain ⟨d1, d2, d3, d4⟩ := old (Nat.le_refl s2.heap.objs.size)
      obtain ⟨c1, c2, c3, c4⟩ := old (b := C) (Nat.le_of_lt Dlt)
      have IY : Inv X pins σ (upd H3 s2.heap.objs.size (.dK acc)) s4 := IX.track hD d1 d2 d3 d4 ⟨hsz, dsys, vs, rv, (let ⟨es, ep, r⟩ := isD; ⟨ob, es, ep, hDo5, r⟩)⟩
      obtain ⟨m, hm, _⟩ := I5.loc
      rw [xL] at hm
      have hCn : H3 C = none := by have := I5.free; rw [xL] at this; exact this
      exact fin _ C _ s4 m IY (q _ hD) hm (by rw [upd_ne (Ne.symm DC)]; exact hCn) c2 c1 c3 c4
    · have := T.item X' xP xw xK xc i _ s3 σ3 H3 (fun _ _ => False) I3' (fpb fr3 plD) st3 go
      rw [xA] at this
      refine thn this fun r s4 ⟨u, hr, h4⟩ => ?_
      subst hr
      refine thn h4 fun _ s5 ⟨x, H5, I5, r5, y5, st5, fr5⟩ => ?_
      have hσn : ∀ (j : Nat) v, (List.replicate own.length none ++ σ)[j]? = some (some v) → σ3[j]? = some (some v) := fun j v e => by
        by_cases hlt : j < own.length
        · rw [List.getElem?_append_left (by simpa using hlt), List.getElem?_replicate, if_pos hlt] at e
          cases e
        · have hle := Nat.le_of_not_lt hlt
          rw [List.getElem?_append_right (by simpa using hle), List.length_replicate, ← hσ, List.getElem?_drop] at e
          rw [show own.length + (j - own.length) = j by lia] at e
          exact e
      have hlen : (List.replicate own.length none ++ σ).length = σ3.length := by
        have e1 : σ3.length = X'.N.length := I5.len
        have e2 := I4.len
        exact e2.trans e1.symm
      have I5w : Inv X' _ (List.replicate own.length none ++ σ) H5 s5 := I5.weak hlen hσn
      have I5p := I5w.pinned (fpb fr5 plD) (T.obj _ _ st5)
      have a1 := gg _ s5 _ H5 x u _ I5p r5 (step x H5 y5)
      rw [xP, xw, xA, xe] at a1
      refine thn a1 fun _ s6 ⟨σ6, H6, I6, d6, q6⟩ => ?_
      have a2 := gt _ s6 σ6 H6 _ I6 q6
      rw [xP, xw, xA, xe] at a2
      refine thn a2 fun b s7 ⟨H7, I7, q7⟩ => ?_
      have pin7 : ∀ {H : Hp} {s : Shared}, Inv X' ([((s2.heap.objs.size, ob) : Addr × Obj)] ++ pinsAt fp s5.heap) σ6 H s →
          (tn (i + 1) s.heap ∧ (∀ b ∈ fp, H b = none) ∧ H s2.heap.objs.size = none ∧ s.heap.get? s2.heap.objs.size = some ob ∧ Inv X' [] σ6 H s) := fun {H s} I => by
        refine ⟨T.keep _ _ _ st5 fun b hb o e => (I.pin (b, o) (List.mem_append_right _ (List.mem_append_right _ (mem_pinsAt hb e)))).1, fun b hb => ?_, ?_, ?_, I.pins_of fun p hp => by simp at hp⟩
        · obtain ⟨o, e, d⟩ := T.obj _ _ st5 b hb
          exact (I.pin (b, o) (List.mem_append_right _ (List.mem_append_right _ (mem_pinsAt hb e)))).2.1
        · exact (I.pin (s2.heap.objs.size, ob) (by rw [xpn]; simp)).2.1
        · exact (I.pin (s2.heap.objs.size, ob) (by rw [xpn]; simp)).1
      cases b with
      | false =>
        obtain ⟨p1, p2, p3, p4, p5⟩ := pin7 I7
        obtain ⟨m', hm, w7⟩ := q7
        exact ⟨m', hm, i + 1, acc, σ6, H7, ob, vs, p5, d6, p1, p2, p3, p4, isD, rv, w7⟩
      | true =>
        rw [if_pos rfl] at q7 ⊢
        have a3 := gk _ s7 σ6 H7 _ I7 q7
        rw [xP, xw, xA, xe] at a3
        refine thn a3 fun y s8 ⟨v, H8, I8, r8, q8⟩ => ?_
        have a4 := ge _ s8 σ6 H8 _ I8 q8
        rw [xP, xw, xA, xe] at a4
        refine thn a4 fun y2 s9 ⟨v2, H9, I9, r9, q9⟩ => ?_
        obtain ⟨p1, p2, p3, p4, p5⟩ := pin7 I9
        obtain ⟨kk, m', ek, hm, w8⟩ := q9
        subst ek
        have hl := rv.length
        refine wpAny_dictSet_pairs (hsz := by lia) (kV_is r8) (let ⟨es, ep, r⟩ := isD; ⟨ob, es, ep, p4, r⟩) fun h' dd' hs => ?_
        obtain ⟨ob', es', ep', ho', isD'⟩ := dd'
        have I10 : Inv X' [] σ6 H9 { s9 with heap := h', toks := s9.toks + 1 } := p5.turned (t' := s9.toks + 1) (fun b o hb e => hs.extBut b o hb e) p3 (by rw [xL]; exact DC) (.inr (by rw [xs]; exact Nat.le_refl _)) Dcell (fun p hp => by rw [xpn] at hp; simp at hp)
        exact ⟨m', hm, i + 1, putK acc kk v2, σ6, H9, ob', _, I10, d6, T.keep _ _ _ p1 fun b hb o e => hs.extBut b o (fun z => Dfp (by rw [← z]; exact hb)) e, p2, p3, ho', ⟨es', ep', isD'⟩, rv.put kk r9, w8⟩
  exact codeAny_compStart_dict (goal _ rfl) (T.self _ 0 _ _ _ st4 (goal _ rfl))
theorem eval_dcomp (kx vx : Expr) (gens : List Comprehension) (scope : Scope) (pos : Pos) (env : Env) : eval (.DictComp kx vx gens scope pos) env = comprehension (.DictComp kx vx gens scope pos) scope env (firstIterPos gens pos) newDict (firstAsync gens) (firstIter gens env) := by
  first | rfl | (unfold eval; rfl) | (rw [eval]; rfl) | rw [eval]
def tDComp (wi : TI) (own : Nat) (g : TG) (tt : TT) (tk tv : TE) : TE := fun σ H Q => wi σ H fun J H1 => ∃ W : Nat → Nat → List (Key × V) → Hp → Prop, (∃ m, W 0 m [] H1) ∧ ∀ i m acc H, W i m acc H →
  (J.stop i H ∧ acc.length ≤ sizeLine ∧ ∀ D, H D = none → Q (.ref D) (upd H D (.dK acc))) ∨
  (J.go i H ∧ acc.length < sizeLine ∧ ∀ x H', J.yld i H x H' → g x (List.replicate own none ++ σ) H' fun σ2 H2 => σ2.drop own = σ ∧ tt σ2 H2 fun c H3 =>
    if c = true then tk σ2 H3 fun y H4 => tv σ2 H4 fun v H5 => ∃ k m', y = kV k ∧ m' < m ∧ W (i + 1) m' (putK acc k v) H5 else ∃ m', m' < m ∧ W (i + 1) m' acc H3)
theorem pe_dcomp {wi : TI} (ok : CompOk X scope M) (hc : X.calm = true) (hi : PI X tg iter wi) (hg : ∀ C s2 H2 fp, PG (cxComp X scope own M C s2 H2 fp) tg g) (ht : ∀ C s2 H2 fp, PTs (cxComp X scope own M C s2 H2 fp) ifs tt)
    (hek : ∀ C s2 H2 fp, PE (cxComp X scope own M C s2 H2 fp) kx tk) (he : ∀ C s2 H2 fp, PE (cxComp X scope own M C s2 H2 fp) vx tv) (hs : ∀ x, foldedSetIterable iter X.env x = pure x := by intro _; rfl) :
    PE X (.DictComp kx vx [⟨tg, iter, ifs, 0⟩] scope pos) (tDComp wi own.length g tt tk tv) := by
  intro pins s σ H Q I h
  rw [eval_dcomp]
  refine wpAny_comprehension_free (use := none) rfl hs (clos_for (ok.cells I)) ok.kind (fun x hx hl => by rw [ok.uniq x hx, hl]) ?_
  refine thn (hi pins s σ H _ I h) fun v s1 h1 => thn h1 fun itv s2 h2 => ?_
  obtain ⟨it, fp, tn, J, H2, e, I2, T, st2, f2, W, w0, turn⟩ := h2
  subst e
  refine dcomp_core (Qf := Q) ok hc hg ht hek he I2 T st2 f2 w0 turn fun D C H' s' m IY q hm hCn c2 c1 c3 c4 => ⟨m, hm, fun h' hs' => ?_⟩
  exact ⟨.ref D, H', IY.turned (t' := s'.toks) (fun b o hb e => hs'.extBut b o hb e) hCn c2 (.inr c1) c3 c4, rfl, q⟩
end
end L2
set_option maxRecDepth 100000
namespace L2
open PySem PySem.Spec PyProof.Rows
inductive D where
  | non | bl (b : Bool) | int (i : Int) | str (x : Str) | ty (n : String) | tup (ds : List D) | lst (ds : List D)
  /-- a list that is known and stays -/
  | fz (ds : List D)
  /-- the list that the drawing keeps -/
  | st
  /-- a list of the frame's own (in a slot alone) -/
  | own (ds : List D)
  /-- a dict, whatever it holds -/
  | dic
  /-- a dict, known, that stays -/
  | dct (ks : List Key) (ds : List D)
def kvsV (ks : List Key) (xs : List V) : List (Key × V) := List.zipWith (fun k x => (k, x)) ks xs
abbrev hNone : Hp := fun _ => none
def SqZ (K : PySem.W.Frag) (Z : Addr → Prop) (H : Hp) (b : Bool) (a : Addr) (xs : List V) : Prop :=
  match b with
  | true => ¬ Z a ∧ H a = some (.lst xs)
  | false => (¬ Z a ∧ Rd H a (.tup xs)) ∨ SqT K hNone a xs
def SqF (K : PySem.W.Frag) (Z : Addr → Prop) (H : Hp) (a : Addr) (xs : List V) : Prop := (¬ Z a ∧ ∃ o, H a = some (.frz o (.lst xs))) ∨ SqL K hNone a xs
mutual
def Rep (K : PySem.W.Frag) (G : Option Addr) (Z : Addr → Prop) (H : Hp) : D → V → Prop
  | .non, v => v = .non
  | .bl b, v => v = .bl b
  | .int i, v => v = .int i
  | .str x, v => v = .str x
  | .ty n, v => v = .ty n
  | .tup ds, v => ∃ a xs, v = .ref a ∧ SqZ K Z H false a xs ∧ Reps K G Z H ds xs
  | .lst ds, v => ∃ a xs, v = .ref a ∧ SqZ K Z H true a xs ∧ Reps K G Z H ds xs
  | .fz ds, v => ∃ a xs, v = .ref a ∧ SqF K Z H a xs ∧ Reps K G Z H ds xs
  | .st, v => ∃ a, G = some a ∧ v = .ref a
  | .own _, _ => False
  | .dic, v => ∃ (a : Addr) (kvs : List (Key × V)), v = .ref a ∧ ¬ Z a ∧ H a = some (.dK [])
  | .dct ks ds, v => ∃ a xs, v = .ref a ∧ (¬ Z a ∧ H a = some (.dK (kvsV ks xs))) ∧ Reps K G Z H ds xs
def Reps (K : PySem.W.Frag) (G : Option Addr) (Z : Addr → Prop) (H : Hp) : List D → List V → Prop
  | [], vs => vs = []
  | d :: ds, vs => ∃ v r, vs = v :: r ∧ Rep K G Z H d v ∧ Reps K G Z H ds r
end
section
variable {K : PySem.W.Frag} {G : Option Addr} {Z Z' : Addr → Prop} {H H' : Hp}
theorem SqT.anyH {a : Addr} {xs : List V} (h : SqT K hNone a xs) : SqT K H a xs := by
  rcases h with (h | ⟨o, h⟩) | h
  · cases h
  · cases h
  · exact .inr h
theorem SqZ.sq {b : Bool} {a : Addr} {xs : List V} (h : SqZ K Z H b a xs) : SqB K b H a xs := by
  cases b with
  | true => exact SqL.of h.2
  | false =>
    rcases h with ⟨_, h⟩ | h
    · exact .inl h
    · exact SqT.anyH h
theorem SqZ.mono {b : Bool} {a : Addr} {xs : List V} (h : SqZ K Z H b a xs) (hz : ∀ a, H a ≠ none → Z' a → Z a) (hf : ∀ a o, ¬ Z a → H a = some o → H' a = some o) : SqZ K Z' H' b a xs := by
  cases b with
  | true => exact ⟨fun z => h.1 (hz a (by rw [h.2]; simp) z), hf a _ h.1 h.2⟩
  | false =>
    rcases h with ⟨n, h⟩ | h
    · refine .inl ⟨fun z => n (hz a ?_ z), ?_⟩
      · rcases h with h | ⟨o, h⟩ <;> (rw [h]; simp)
      · rcases h with h | ⟨o, h⟩
        · exact .inl (hf a _ n h)
        · exact .inr ⟨o, hf a _ n h⟩
    · exact .inr h
mutual
theorem Rep.mono (hz : ∀ a, H a ≠ none → Z' a → Z a) (hf : ∀ a o, ¬ Z a → H a = some o → H' a = some o) : ∀ (d : D) (v : V), Rep K G Z H d v → Rep K G Z' H' d v
  | .non, v, h => by unfold Rep at h ⊢; exact h
  | .bl b, v, h => by unfold Rep at h ⊢; exact h
  | .int b, v, h => by unfold Rep at h ⊢; exact h
  | .str b, v, h => by unfold Rep at h ⊢; exact h
  | .ty b, v, h => by unfold Rep at h ⊢; exact h
  | .st, v, h => by unfold Rep at h ⊢; exact h
  | .own _, v, h => by unfold Rep at h; exact h.elim
  | .dic, v, h => by
    unfold Rep at h ⊢
    obtain ⟨a, kvs, e, n, q⟩ := h
    exact ⟨a, kvs, e, fun z => n (hz a (by rw [q]; simp) z), hf a _ n q⟩
  | .dct ks ds, v, h => by
    unfold Rep at h ⊢
    obtain ⟨a, xs, e, ⟨n, q⟩, r⟩ := h
    exact ⟨a, xs, e, ⟨fun z => n (hz a (by rw [q]; simp) z), hf a _ n q⟩, Reps.mono hz hf ds xs r⟩
  | .tup ds, v, h => by
    unfold Rep at h ⊢
    obtain ⟨a, xs, e, q, r⟩ := h
    exact ⟨a, xs, e, q.mono hz hf, Reps.mono hz hf ds xs r⟩
  | .lst ds, v, h => by
    unfold Rep at h ⊢
    obtain ⟨a, xs, e, q, r⟩ := h
    exact ⟨a, xs, e, q.mono hz hf, Reps.mono hz hf ds xs r⟩
  | .fz ds, v, h => by
    unfold Rep at h ⊢
    obtain ⟨a, xs, e, q, r⟩ := h
    refine ⟨a, xs, e, ?_, Reps.mono hz hf ds xs r⟩
    rcases q with ⟨n, o, q⟩ | q
    · exact .inl ⟨fun z => n (hz a (by rw [q]; simp) z), o, hf a _ n q⟩
    · exact .inr q
theorem Reps.mono (hz : ∀ a, H a ≠ none → Z' a → Z a) (hf : ∀ a o, ¬ Z a → H a = some o → H' a = some o) : ∀ (ds : List D) (vs : List V), Reps K G Z H ds vs → Reps K G Z' H' ds vs
  | [], vs, h => by unfold Reps at h ⊢; exact h
  | d :: ds, vs, h => by
    unfold Reps at h ⊢
    obtain ⟨v, r, e, q, t⟩ := h
    exact ⟨v, r, e, Rep.mono hz hf d v q, Reps.mono hz hf ds r t⟩
end
theorem Reps.nil : Reps K G Z H [] [] := by unfold Reps; rfl
theorem Reps.cons {d : D} {ds : List D} {v : V} {vs : List V} (h : Rep K G Z H d v) (t : Reps K G Z H ds vs) : Reps K G Z H (d :: ds) (v :: vs) := by unfold Reps; exact ⟨v, vs, rfl, h, t⟩
theorem Reps.inv {d : D} {ds : List D} {v : V} {vs : List V} (h : Reps K G Z H (d :: ds) (v :: vs)) : Rep K G Z H d v ∧ Reps K G Z H ds vs := by
  unfold Reps at h
  obtain ⟨v', r, e, q, t⟩ := h
  cases e
  exact ⟨q, t⟩
theorem Reps.split {d : D} {ds : List D} {vs : List V} (h : Reps K G Z H (d :: ds) vs) : ∃ v r, vs = v :: r ∧ Rep K G Z H d v ∧ Reps K G Z H ds r := by unfold Reps at h; exact h
theorem Reps.nil_inv {vs : List V} (h : Reps K G Z H [] vs) : vs = [] := by unfold Reps at h; exact h
theorem Reps.length : ∀ {ds : List D} {vs : List V}, Reps K G Z H ds vs → vs.length = ds.length
  | [], vs, h => by rw [h.nil_inv]; rfl
  | d :: ds, vs, h => by
    obtain ⟨v, r, rfl, _, t⟩ := h.split
    rw [List.length_cons, List.length_cons, Reps.length t]
theorem Reps.get : ∀ {ds : List D} {vs : List V} {i : Nat} {d : D}, Reps K G Z H ds vs → ds[i]? = some d → ∃ v, vs[i]? = some v ∧ Rep K G Z H d v
  | [], vs, i, d, _, e => by simp at e
  | c :: ds, vs, 0, d, h, e => by
    obtain ⟨v, r, rfl, q, t⟩ := h.split
    simp at e; subst e
    exact ⟨v, rfl, q⟩
  | c :: ds, vs, i + 1, d, h, e => by
    obtain ⟨v, r, rfl, q, t⟩ := h.split
    obtain ⟨u, e1, e2⟩ := Reps.get (i := i) t (by simpa using e)
    exact ⟨u, by simpa using e1, e2⟩
theorem Reps.append : ∀ {ds es : List D} {vs ws : List V}, Reps K G Z H ds vs → Reps K G Z H es ws → Reps K G Z H (ds ++ es) (vs ++ ws)
  | [], es, vs, ws, h, h' => by rw [h.nil_inv]; exact h'
  | d :: ds, es, vs, ws, h, h' => by
    obtain ⟨v, r, rfl, q, t⟩ := h.split
    exact .cons q (Reps.append t h')
theorem Reps.drop : ∀ {ds : List D} {vs : List V} (n : Nat), Reps K G Z H ds vs → Reps K G Z H (ds.drop n) (vs.drop n)
  | ds, vs, 0, h => h
  | [], vs, n + 1, h => by rw [h.nil_inv]; exact .nil
  | d :: ds, vs, n + 1, h => by
    obtain ⟨v, r, rfl, q, t⟩ := h.split
    exact Reps.drop n t
theorem Reps.take : ∀ {ds : List D} {vs : List V} (n : Nat), Reps K G Z H ds vs → Reps K G Z H (ds.take n) (vs.take n)
  | ds, vs, 0, h => .nil
  | [], vs, n + 1, h => by rw [h.nil_inv]; exact .nil
  | d :: ds, vs, n + 1, h => by
    obtain ⟨v, r, rfl, q, t⟩ := h.split
    exact .cons q (Reps.take n t)
theorem Reps.flatRep {ds : List D} {vs : List V} (h : Reps K G Z H ds vs) : ∀ k : Nat, Reps K G Z H (List.replicate k ds).flatten (List.replicate k vs).flatten
  | 0 => .nil
  | k + 1 => by
    rw [List.replicate_succ, List.replicate_succ, List.flatten_cons, List.flatten_cons]
    exact h.append (Reps.flatRep h k)
end
def scalD : D → Bool
  | .non => true | .bl _ => true | .int _ => true | .str _ => true | .ty _ => true | _ => false
def ofS : D → V
  | .bl b => .bl b | .int i => .int i | .str x => .str x | .ty n => .ty n | _ => .non
theorem Rep.ofS {K : PySem.W.Frag} {G : Option Addr} {Z : Addr → Prop} {H : Hp} : ∀ {d : D}, scalD d = true → Rep K G Z H d (ofS d)
  | .non, _ => by unfold Rep; rfl
  | .bl b, _ => by unfold Rep; rfl
  | .int b, _ => by unfold Rep; rfl
  | .str b, _ => by unfold Rep; rfl
  | .ty b, _ => by unfold Rep; rfl
  | .tup ds, h => by simp [scalD] at h
  | .lst ds, h => by simp [scalD] at h
  | .st, h => by simp [scalD] at h
  | .fz ds, h => by simp [scalD] at h
  | .own ds, h => by simp [scalD] at h
theorem Rep.toS {K : PySem.W.Frag} {G : Option Addr} {Z : Addr → Prop} {H : Hp} {v : V} : ∀ {d : D}, scalD d = true → Rep K G Z H d v → v = L2.ofS d
  | .non, _, h => by unfold Rep at h; exact h
  | .bl b, _, h => by unfold Rep at h; exact h
  | .int b, _, h => by unfold Rep at h; exact h
  | .str b, _, h => by unfold Rep at h; exact h
  | .ty b, _, h => by unfold Rep at h; exact h
  | .tup ds, h, _ => by simp [scalD] at h
  | .lst ds, h, _ => by simp [scalD] at h
  | .st, h, _ => by simp [scalD] at h
  | .fz ds, h, _ => by simp [scalD] at h
  | .own ds, h, _ => by simp [scalD] at h
theorem Rep.int_inv {K : PySem.W.Frag} {G : Option Addr} {Z : Addr → Prop} {H : Hp} {v : V} {i : Int} (h : Rep K G Z H (.int i) v) : v = .int i := by unfold Rep at h; exact h
theorem Rep.bl_inv {K : PySem.W.Frag} {G : Option Addr} {Z : Addr → Prop} {H : Hp} {v : V} {i : Bool} (h : Rep K G Z H (.bl i) v) : v = .bl i := by unfold Rep at h; exact h
theorem Rep.tup_inv {K : PySem.W.Frag} {G : Option Addr} {Z : Addr → Prop} {H : Hp} {v : V} {ds : List D} (h : Rep K G Z H (.tup ds) v) : ∃ a xs, v = .ref a ∧ SqZ K Z H false a xs ∧ Reps K G Z H ds xs := by unfold Rep at h; exact h
theorem Rep.lst_inv {K : PySem.W.Frag} {G : Option Addr} {Z : Addr → Prop} {H : Hp} {v : V} {ds : List D} (h : Rep K G Z H (.lst ds) v) : ∃ a xs, v = .ref a ∧ SqZ K Z H true a xs ∧ Reps K G Z H ds xs := by unfold Rep at h; exact h
theorem Rep.fz_inv {K : PySem.W.Frag} {G : Option Addr} {Z : Addr → Prop} {H : Hp} {v : V} {ds : List D} (h : Rep K G Z H (.fz ds) v) : ∃ a xs, v = .ref a ∧ SqL K H a xs ∧ Reps K G Z H ds xs := by
  unfold Rep at h
  obtain ⟨a, xs, e, q, r⟩ := h
  refine ⟨a, xs, e, ?_, r⟩
  rcases q with ⟨_, o, q⟩ | q
  · exact .inl (.inr ⟨o, q⟩)
  · rcases q with (q | ⟨o, q⟩) | q
    · cases q
    · cases q
    · exact .inr q
theorem Rep.tup_mk {K : PySem.W.Frag} {G : Option Addr} {Z : Addr → Prop} {H : Hp} {a : Addr} {xs : List V} {ds : List D} (q : SqZ K Z H false a xs) (r : Reps K G Z H ds xs) : Rep K G Z H (.tup ds) (.ref a) := by unfold Rep; exact ⟨a, xs, rfl, q, r⟩
theorem Rep.lst_mk {K : PySem.W.Frag} {G : Option Addr} {Z : Addr → Prop} {H : Hp} {a : Addr} {xs : List V} {ds : List D} (q : SqZ K Z H true a xs) (r : Reps K G Z H ds xs) : Rep K G Z H (.lst ds) (.ref a) := by unfold Rep; exact ⟨a, xs, rfl, q, r⟩
def StOk (G : Option Addr) (n : Nat) (H : Hp) : Prop := ∀ a, G = some a → ∃ (zs : List Int) (_ _ : Nat), H a = some (.lst (zs.map V.int)) ∧ zs.length = n ∧ (∀ x ∈ zs, 0 ≤ x) ∧ ∀ x, zs[1]? = some x → x < 2147483647
structure AC where
  K : PySem.W.Frag
  G : Option Addr
  Z0 : Addr → Prop
  H0 : Hp
abbrev Rho := List (Option D)
def Zof (A : AC) (os : List (Nat × Addr)) : Addr → Prop := fun a => A.Z0 a ∨ ∃ p ∈ os, p.2 = a
def SlotR (A : AC) (os : List (Nat × Addr)) (H : Hp) (i : Nat) : D → V → Prop
  | .own ds, v => ∃ a xs, v = .ref a ∧ (i, a) ∈ os ∧ H a = some (.lst xs) ∧ Reps A.K A.G (Zof A os) H ds xs
  | d, v => Rep A.K A.G (Zof A os) H d v
structure AmO (A : AC) (os : List (Nat × Addr)) (n : Nat) (rho : Rho) (sg : St) (H : Hp) (ds : List D) (vs : List V) : Prop where
  len : rho.length = sg.length
  slot : ∀ i d, rho[i]? = some (some d) → ∃ v, sg[i]? = some (some v) ∧ SlotR A os H i d v
  pend : Reps A.K A.G (Zof A os) H ds vs
  nd : os.Pairwise fun p q => p.1 ≠ q.1 ∧ p.2 ≠ q.2
  fresh : ∀ p ∈ os, A.H0 p.2 = none ∧ ¬ A.Z0 p.2 ∧ H p.2 ≠ none
  st : StOk A.G n H
  gz : ∀ a, A.G = some a → A.Z0 a
  fr : ∀ a o, A.G ≠ some a → A.H0 a = some o → H a = some o
  z0 : ∀ a, A.Z0 a → A.H0 a ≠ none
def Am (A : AC) (n : Nat) (rho : Rho) (sg : St) (H : Hp) (ds : List D) (vs : List V) : Prop := ∃ os, AmO A os n rho sg H ds vs
section
variable {A : AC} {os : List (Nat × Addr)} {n : Nat} {rho : Rho} {sg : St} {H : Hp} {ds : List D} {vs : List V} {d : D} {v : V}
theorem AmO.zH (I : AmO A os n rho sg H ds vs) : ∀ a, Zof A os a → H a ≠ none := fun a h => by
  rcases h with h | ⟨p, hp, rfl⟩
  · by_cases e : A.G = some a
    · obtain ⟨x, y, z, q, _⟩ := I.st a e
      rw [q]; simp
    · cases q : A.H0 a with
      | none => exact absurd q (I.z0 a h)
      | some o => rw [I.fr a o e q]; simp
  · exact (I.fresh p hp).2.2
theorem SlotR.mono {os' : List (Nat × Addr)} {H' : Hp} {i : Nat} (hz : ∀ a, H a ≠ none → Zof A os' a → Zof A os a) (hf : ∀ a o, ¬ Zof A os a → H a = some o → H' a = some o)
    (ho : ∀ a xs, (i, a) ∈ os → H a = some (.lst xs) → (i, a) ∈ os' ∧ H' a = some (.lst xs)) : ∀ (d : D) (v : V), SlotR A os H i d v → SlotR A os' H' i d v
  | .own ds, v, h => by
    obtain ⟨a, xs, e, m, q, r⟩ := h
    obtain ⟨m', q'⟩ := ho a xs m q
    exact ⟨a, xs, e, m', q', Reps.mono hz hf ds xs r⟩
  | .non, v, h => Rep.mono hz hf _ _ h
  | .bl _, v, h => Rep.mono hz hf _ _ h
  | .int _, v, h => Rep.mono hz hf _ _ h
  | .str _, v, h => Rep.mono hz hf _ _ h
  | .ty _, v, h => Rep.mono hz hf _ _ h
  | .tup _, v, h => Rep.mono hz hf _ _ h
  | .lst _, v, h => Rep.mono hz hf _ _ h
  | .st, v, h => Rep.mono hz hf _ _ h
  | .fz _, v, h => Rep.mono hz hf _ _ h
  | .dic, v, h => Rep.mono hz hf _ _ h
  | .dct _ _, v, h => Rep.mono hz hf _ _ h
def notOwn : D → Bool
  | .own _ => false
  | _ => true
theorem SlotR.rep {i : Nat} : ∀ {d : D} {v : V}, notOwn d = true → SlotR A os H i d v → Rep A.K A.G (Zof A os) H d v
  | .own _, _, h, _ => by simp [notOwn] at h
  | .non, _, _, h => h
  | .bl _, _, _, h => h
  | .int _, _, _, h => h
  | .str _, _, _, h => h
  | .ty _, _, _, h => h
  | .tup _, _, _, h => h
  | .lst _, _, _, h => h
  | .st, _, _, h => h
  | .fz _, _, _, h => h
  | .dic, _, _, h => h
  | .dct _ _, _, _, h => h
theorem SlotR.of {i : Nat} : ∀ {d : D} {v : V}, Rep A.K A.G (Zof A os) H d v → SlotR A os H i d v
  | .own _, _, h => by unfold Rep at h; exact h.elim
  | .non, _, h => h
  | .bl _, _, h => h
  | .int _, _, h => h
  | .str _, _, h => h
  | .ty _, _, h => h
  | .tup _, _, h => h
  | .lst _, _, h => h
  | .st, _, h => h
  | .fz _, _, h => h
  | .dic, _, h => h
  | .dct _ _, _, h => h
theorem AmO.push (I : AmO A os n rho sg H ds vs) (h : Rep A.K A.G (Zof A os) H d v) : AmO A os n rho sg H (d :: ds) (v :: vs) :=
  ⟨I.len, I.slot, .cons h I.pend, I.nd, I.fresh, I.st, I.gz, I.fr, I.z0⟩
theorem AmO.pends {es : List D} {ws : List V} (I : AmO A os n rho sg H ds vs) (h : Reps A.K A.G (Zof A os) H es ws) : AmO A os n rho sg H es ws :=
  ⟨I.len, I.slot, h, I.nd, I.fresh, I.st, I.gz, I.fr, I.z0⟩
theorem AmO.pop (I : AmO A os n rho sg H (d :: ds) (v :: vs)) : AmO A os n rho sg H ds vs ∧ Rep A.K A.G (Zof A os) H d v := ⟨I.pends I.pend.inv.2, I.pend.inv.1⟩
theorem AmO.grow {p : Addr} {o : HO} (I : AmO A os n rho sg H ds vs) (hp : H p = none) : AmO A os n rho sg (upd H p o) ds vs := by
  have hf : ∀ a u, H a = some u → upd H p o a = some u := fun a u e => by rw [upd_ne (ne_of_none e hp)]; exact e
  refine ⟨I.len, fun i d e => ?_, Reps.mono (fun _ _ z => z) (fun a u _ e => hf a u e) _ _ I.pend, I.nd, fun q hq => ?_, fun a e => ?_, I.gz, fun a u h e => hf a u (I.fr a u h e), I.z0⟩
  · obtain ⟨v, e1, e2⟩ := I.slot i d e
    exact ⟨v, e1, SlotR.mono (fun _ _ z => z) (fun a u _ e => hf a u e) (fun a xs m q => ⟨m, hf a _ q⟩) _ _ e2⟩
  · obtain ⟨f1, f2, f3⟩ := I.fresh q hq
    refine ⟨f1, f2, ?_⟩
    cases e : H q.2 with
    | none => exact absurd e f3
    | some u => rw [hf _ _ e]; simp
  · obtain ⟨x, y, z, q, r⟩ := I.st a e
    exact ⟨x, y, z, hf _ _ q, r⟩
theorem AmO.newTup {p : Addr} {es : List D} {xs : List V} (I : AmO A os n rho sg H ds vs) (r : Reps A.K A.G (Zof A os) H es xs) (hp : H p = none) : AmO A os n rho sg (upd H p (.tup xs)) (.tup es :: ds) (.ref p :: vs) := by
  have g := I.grow (o := .tup xs) hp
  refine g.push (.tup_mk (.inl ⟨fun z => I.zH p z hp, .inl upd_same⟩) ?_)
  exact Reps.mono (fun _ _ z => z) (fun a u _ e => by rw [upd_ne (ne_of_none e hp)]; exact e) _ _ r
theorem AmO.newLst {p : Addr} {es : List D} {xs : List V} (I : AmO A os n rho sg H ds vs) (r : Reps A.K A.G (Zof A os) H es xs) (hp : H p = none) : AmO A os n rho sg (upd H p (.lst xs)) (.lst es :: ds) (.ref p :: vs) := by
  have g := I.grow (o := .lst xs) hp
  refine g.push (.lst_mk ⟨fun z => I.zH p z hp, upd_same⟩ ?_)
  exact Reps.mono (fun _ _ z => z) (fun a u _ e => by rw [upd_ne (ne_of_none e hp)]; exact e) _ _ r
theorem AmO.set {i : Nat} (I : AmO A os n rho sg H (d :: ds) (v :: vs)) (hi : i < rho.length) : AmO A (os.filter fun p => decide (p.1 ≠ i)) n (rho.set i (some d)) (sg.set i (some v)) H ds vs := by
  obtain ⟨J, hr⟩ := I.pop
  have sub : ∀ a, H a ≠ none → Zof A (os.filter fun p => decide (p.1 ≠ i)) a → Zof A os a := fun a _ z => by
    rcases z with z | ⟨p, hp, e⟩
    · exact .inl z
    · exact .inr ⟨p, (List.mem_filter.mp hp).1, e⟩
  refine ⟨by simp [I.len], fun j c e => ?_, Reps.mono sub (fun _ _ _ e => e) _ _ J.pend, I.nd.filter _, fun p hp => I.fresh p (List.mem_filter.mp hp).1, I.st, I.gz, I.fr, I.z0⟩
  by_cases hj : j = i
  · subst hj
    rw [List.getElem?_set_self hi] at e
    cases e
    exact ⟨v, List.getElem?_set_self (by rw [← I.len]; exact hi), SlotR.of (Rep.mono sub (fun _ _ _ e => e) _ _ hr)⟩
  · rw [List.getElem?_set_ne (Ne.symm hj)] at e
    obtain ⟨u, e1, e2⟩ := I.slot j c e
    exact ⟨u, by rw [List.getElem?_set_ne (Ne.symm hj)]; exact e1, SlotR.mono sub (fun _ _ _ e => e) (fun a xs m q => ⟨List.mem_filter.mpr ⟨m, by simpa using hj⟩, q⟩) _ _ e2⟩
end
abbrev TD := Rho → Nat → (D → Nat → Prop) → Prop
abbrev TBD := Rho → Nat → (Bool → Nat → Prop) → Prop
abbrev TAD := Rho → Nat → (List D → Nat → Prop) → Prop
def tOf (A : AC) (t : TD) : TE := fun sg H Q => ∃ rho n P ds vs, Am A n rho sg H ds vs ∧ t rho n P ∧ ∀ v H' n' d, Am A n' rho sg H' (d :: ds) (v :: vs) → P d n' → Q v H'
def ttOf (A : AC) (t : TBD) : TT := fun sg H Q => ∃ rho n P ds vs, Am A n rho sg H ds vs ∧ t rho n P ∧ ∀ b H' n', Am A n' rho sg H' ds vs → P b n' → Q b H'
def taOf (A : AC) (t : TAD) : TA := fun sg H Q => ∃ rho n P ds vs, Am A n rho sg H ds vs ∧ t rho n P ∧ ∀ ws H' n' es, Am A n' rho sg H' (es ++ ds) (ws ++ vs) → ws.length = es.length → P es n' → Q ws H'
@[irreducible] def PD (A : AC) (X : Cx) (e : Expr) (t : TD) : Prop := PE X e (tOf A t)
@[irreducible] def PTD (A : AC) (X : Cx) (e : Expr) (t : TBD) : Prop := PT X e (ttOf A t)
@[irreducible] def PWD (A : AC) (X : Cx) (e : Expr) (t : TBD) : Prop := PW X e (ttOf A t)
@[irreducible] def PAD (A : AC) (X : Cx) (es : List Expr) (t : TAD) : Prop := PA X es (taOf A t)
theorem PE.imp {X : Cx} {e : Expr} {t t' : TE} (h : PE X e t) (hi : ∀ sg H Q, t' sg H Q → t sg H Q) : PE X e t' := fun pins s sg H Q I q => h pins s sg H Q I (hi _ _ _ q)
theorem PT.imp {X : Cx} {e : Expr} {t t' : TT} (h : PT X e t) (hi : ∀ sg H Q, t' sg H Q → t sg H Q) : PT X e t' := fun pins s sg H Q I q => h pins s sg H Q I (hi _ _ _ q)
theorem PW.imp {X : Cx} {e : Expr} {t t' : TT} (h : PW X e t) (hi : ∀ sg H Q, t' sg H Q → t sg H Q) : PW X e t' := fun wh pins s sg H Q I q => h wh pins s sg H Q I (hi _ _ _ q)
theorem PA.imp {X : Cx} {e : List Expr} {t t' : TA} (h : PA X e t) (hi : ∀ sg H Q, t' sg H Q → t sg H Q) : PA X e t' := fun ps pins s sg H Q I q => h ps pins s sg H Q I (hi _ _ _ q)
theorem PS.imp {X : Cx} {e : Stmt} {t t' : TS} (h : PS X e t) (hi : ∀ E sg H, t' E sg H → t E sg H) : PS X e t' := fun pins s sg H Q I q => h pins s sg H Q I (hi _ _ _ q)
theorem PSs.imp {X : Cx} {e : List Stmt} {t t' : TS} (h : PSs X e t) (hi : ∀ E sg H, t' E sg H → t E sg H) : PSs X e t' := fun pins s sg H Q I q => h pins s sg H Q I (hi _ _ _ q)
end L2
set_option maxRecDepth 100000
namespace L2
open PySem PySem.Spec PyProof.Rows
section
variable {A : AC} {X : Cx} {a b c e : Expr} {es : List Expr} {ta tb tc : TD} {pos : Pos}
def atD (d : D) (k : D → Prop) : Prop := match d with
  | .own _ => False
  | .non => k .non
  | .bl b => k (.bl b)
  | .int b => k (.int b)
  | .str b => k (.str b)
  | .ty b => k (.ty b)
  | .tup b => k (.tup b)
  | .lst b => k (.lst b)
  | .fz b => k (.fz b)
  | .st => k .st
  | .dic => k .dic
  | .dct a b => k (.dct a b)
theorem atD_inv {d : D} {k : D → Prop} (h : atD d k) : notOwn d = true ∧ k d := by
  cases d <;> first | exact ⟨rfl, h⟩ | exact h.elim
theorem atD_mk {d : D} {k : D → Prop} (h : notOwn d = true) (q : k d) : atD d k := by
  cases d <;> first | exact q | (simp [notOwn] at h; done)
def atV (o : Option (Option D)) (k : D → Prop) : Prop := match o with | some (some d) => atD d k | _ => False
theorem atV_inv {o : Option (Option D)} {k : D → Prop} (h : atV o k) : ∃ d, o = some (some d) ∧ notOwn d = true ∧ k d := by
  match o, h with
  | some (some d), h => exact ⟨d, rfl, atD_inv h⟩
def dVar (i : Nat) : TD := fun rho n P => atV rho[i]? fun d => P d n
def dC (d : D) : TD := fun _ n P => P d n
theorem pd_var (i : Nat) {x : Str} (hN : X.N[i]? = some x := by rfl) (hv : Vis X.env.scope x := by first | exact Or.inl rfl | exact Or.inr (Or.inl rfl) | exact Or.inr (Or.inr rfl)) (hd : (x == ("__debug__" : Str)) = false := by decide)
    (hcd : (x == ("__classdict__" : Str)) = false := by decide) : PD A X (.Name x pos) (dVar i) := by
  with_unfolding_all
    exact (pe_var hN hv hd hcd).imp fun sg H Q h => by
      obtain ⟨rho, n, P, ds, vs, ⟨os, I⟩, hh, hQ⟩ := h
      obtain ⟨d, e, hd, q⟩ := atV_inv hh
      obtain ⟨v, e1, e2⟩ := I.slot i d e
      exact ⟨v, e1, hQ v H n d ⟨os, I.push (e2.rep hd)⟩ q⟩
theorem dC_ok {d : D} (hs : scalD d = true) {t : TE} (ht : ∀ sg H Q, Q (ofS d) H → t sg H Q) (h : PE X e t) : PD A X e (dC d) := by
  with_unfolding_all
    exact h.imp fun sg H Q q => by
      obtain ⟨rho, n, P, ds, vs, ⟨os, I⟩, q, hQ⟩ := q
      exact ht _ _ _ (hQ _ H n d ⟨os, I.push (Rep.ofS hs)⟩ q)
theorem pd_int {i : Int} {j : Nat} : PD A X (.Constant (.int i) j pos) (dC (.int i)) := by
  with_unfolding_all
    exact dC_ok rfl (fun _ _ _ q => q) pe_int
theorem pd_bl {i : Bool} {j : Nat} : PD A X (.Constant (.bool i) j pos) (dC (.bl i)) := by
  with_unfolding_all
    exact dC_ok rfl (fun _ _ _ q => q) pe_bl
theorem pd_non {j : Nat} : PD A X (.Constant .none j pos) (dC .non) := by
  with_unfolding_all
    exact dC_ok rfl (fun _ _ _ q => q) pe_non
theorem pd_str {x : Str} {j : Nat} : PD A X (.Constant (.str x) j pos) (dC (.str x)) := by
  with_unfolding_all
    exact dC_ok rfl (fun _ _ _ q => q) pe_str
theorem pd_ty {x : Str} {T : String} (hg : Gl X x := by rfl) (hm : X.mg x = none) (hv : bootBuiltins x = some (.type T)) (hn : x ≠ "__name__" := by decide) (hd : (x == ("__debug__" : Str)) = false := by decide) : PD A X (.Name x pos) (dC (.ty T)) := by
  with_unfolding_all
    exact 
      dC_ok rfl (fun _ _ _ q => q) (pe_bltn hg hm hv (v := .ty T) rfl hn hd)
abbrev RD2 := D → D → (D → Prop) → Prop
def OpRel (A : AC) (r : R2) (rd : RD2) : Prop :=
  ∀ os n rho sg H ds vs d1 d2 v1 v2 (k : D → Prop) (Q : VK), AmO A os n rho sg H (d2 :: d1 :: ds) (v2 :: v1 :: vs) → rd d1 d2 k → (∀ v H' d, Am A n rho sg H' (d :: ds) (v :: vs) → k d → Q v H') → r v1 v2 H Q
def dOp (rd : RD2) (ta tb : TD) : TD := fun rho n P => ta rho n fun d1 n1 => tb rho n1 fun d2 n2 => rd d1 d2 fun d => P d n2
def dTest (t : TD) : TBD := fun rho n P => t rho n fun d n' => ∃ b, d = .bl b ∧ P b n'
theorem tOp_of {r : R2} {rd : RD2} (hr : OpRel A r rd) {sg : St} {H : Hp} {Q : VK} (h : tOf A (dOp rd ta tb) sg H Q) : tOp r (tOf A ta) (tOf A tb) sg H Q := by
  obtain ⟨rho, n, P, ds, vs, I, ht, hQ⟩ := h
  exact ⟨rho, n, _, ds, vs, I, ht, fun v1 H1 n1 d1 I1 h1 => ⟨rho, n1, _, d1 :: ds, v1 :: vs, I1, h1, fun v2 H2 n2 d2 ⟨os2, I2⟩ h2 => hr _ _ _ _ _ _ _ _ _ _ _ _ Q I2 h2 fun v H' d J k => hQ v H' n2 d J k⟩⟩
theorem tTest_of {t : TE} {td : TD} (h : ∀ sg H Q, tOf A td sg H Q → t sg H Q) {sg : St} {H : Hp} {Q : Bool → Hp → Prop} (q : ttOf A (dTest td) sg H Q) : tTest t sg H Q := by
  obtain ⟨rho, n, P, ds, vs, I, ht, hQ⟩ := q
  refine h _ _ _ ⟨rho, n, _, ds, vs, I, ht, fun v H' n' d ⟨os, J⟩ k => ?_⟩
  obtain ⟨b, rfl, k⟩ := k
  obtain ⟨J1, r⟩ := J.pop
  exact ⟨b, r.bl_inv, hQ b H' n' ⟨os, J1⟩ k⟩
theorem pd_op {op : Operator} {r : R2} {rd : RD2} (ho : OpR X (binaryOp op) r) (hr : OpRel A r rd) (ha : PD A X a ta) (hb : PD A X b tb) : PD A X (.BinOp a op b pos) (dOp rd ta tb) := by
  with_unfolding_all
    exact (pe_op ho ha hb).imp fun _ _ _ => tOp_of hr
theorem pd_cmp {op : CmpOp} {r : R2} {rd : RD2} (ho : OpR X (compareOp op) r) (hr : OpRel A r rd) (ha : PD A X a ta) (hb : PD A X b tb) (hm : behindInMarks op b = false) : PD A X (.Compare a [op] [b] pos) (dOp rd ta tb) := by
  with_unfolding_all
    exact (pe_cmpR ho ha hb hm).imp fun _ _ _ => tOp_of hr
theorem ptd_cmp {op : CmpOp} {r : R2} {rd : RD2} (ho : OpR X (compareOp op) r) (hr : OpRel A r rd) (ha : PD A X a ta) (hb : PD A X b tb) (hm : behindInMarks op b = false) : PTD A X (.Compare a [op] [b] pos) (dTest (dOp rd ta tb)) := by
  with_unfolding_all
    exact 
      (pt_cmpR ho ha hb hm).imp fun _ _ _ => tTest_of fun _ _ _ => tOp_of hr
theorem pd_ix {r : R2} {rd : RD2} (hi : IxR X r) (hr : OpRel A r rd) (ha : PD A X a ta) (hb : PD A X b tb) (hs : PlainIx b) : PD A X (.Subscript a b pos) (dOp rd ta tb) := by
  with_unfolding_all
    exact (pe_ix hi ha hb hs).imp fun _ _ _ => tOp_of hr
theorem ptd_val (ha : PD A X a ta) (he : ∀ whole, isTrue a X.env whole = (do let v ← whole; standAt a.pos; holding [v] (truthy v)) := by intro _; rfl) : PTD A X a (dTest ta) := by
  with_unfolding_all
    exact (pt_val ha he).imp fun _ _ _ => tTest_of fun _ _ _ q => q
def rdI (C : Int → Int → Prop) (g : Int → Int → D) : RD2 := fun d1 d2 k => match d1, d2 with | .int i, .int j => C i j ∧ k (g i j) | _, _ => False
theorem rdI_inv {C : Int → Int → Prop} {g : Int → Int → D} {d1 d2 : D} {k : D → Prop} (h : rdI C g d1 d2 k) : ∃ i j, d1 = .int i ∧ d2 = .int j ∧ C i j ∧ k (g i j) := by
  unfold rdI at h
  split at h
  · exact ⟨_, _, rfl, rfl, h⟩
  · exact h.elim
def rdI0 (g : Int → Int → D) : RD2 := fun d1 d2 k => match d1, d2 with | .int i, .int j => k (g i j) | _, _ => False
theorem rdI0_inv {g : Int → Int → D} {d1 d2 : D} {k : D → Prop} (h : rdI0 g d1 d2 k) : ∃ i j, d1 = .int i ∧ d2 = .int j ∧ k (g i j) := by
  unfold rdI0 at h
  split at h
  · exact ⟨_, _, rfl, rfl, h⟩
  · exact h.elim
theorem rel_I {C : Int → Int → Prop} {g : Int → Int → V} {gd : Int → Int → D} (hs : ∀ i j, scalD (gd i j) = true) (hg : ∀ i j, ofS (gd i j) = g i j) : OpRel A (rI C g) (rdI C gd) := by
  rintro os n rho sg H ds vs d1 d2 v1 v2 k Q I hh hQ
  obtain ⟨i, j, rfl, rfl, hc, q⟩ := rdI_inv hh
  obtain ⟨I1, r2⟩ := I.pop
  obtain ⟨I2, r1⟩ := I1.pop
  exact ⟨i, j, r1.int_inv, r2.int_inv, hc, hQ _ H _ ⟨os, I2.push (by rw [← hg]; exact Rep.ofS (hs i j))⟩ q⟩
theorem rel_I0 {g : Int → Int → V} {gd : Int → Int → D} (hs : ∀ i j, scalD (gd i j) = true) (hg : ∀ i j, ofS (gd i j) = g i j) : OpRel A (rI0 g) (rdI0 gd) := by
  rintro os n rho sg H ds vs d1 d2 v1 v2 k Q I hh hQ
  obtain ⟨i, j, rfl, rfl, q⟩ := rdI0_inv hh
  obtain ⟨I1, r2⟩ := I.pop
  obtain ⟨I2, r1⟩ := I1.pop
  exact ⟨i, j, r1.int_inv, r2.int_inv, hQ _ H _ ⟨os, I2.push (by rw [← hg]; exact Rep.ofS (hs i j))⟩ q⟩
abbrev dAdd : TD → TD → TD := dOp (rdI0 fun i j => .int (i + j))
abbrev dSub : TD → TD → TD := dOp (rdI0 fun i j => .int (i - j))
abbrev dMul : TD → TD → TD := dOp (rdI CMul fun i j => .int (i * j))
abbrev dMod : TD → TD → TD := dOp (rdI (fun _ j => 0 < j) fun i j => .int (i % j))
abbrev dDiv : TD → TD → TD := dOp (rdI CDiv fun i j => .int (i / j))
abbrev dPow : TD → TD → TD := dOp (rdI CPow fun i j => .int (i ^ j.toNat))
theorem pd_add (ha : PD A X a ta) (hb : PD A X b tb) : PD A X (.BinOp a .Add b pos) (dAdd ta tb) := by
  with_unfolding_all
    exact pd_op op_add (rel_I0 (fun _ _ => rfl) fun _ _ => rfl) ha hb
theorem pd_sub (ha : PD A X a ta) (hb : PD A X b tb) : PD A X (.BinOp a .Sub b pos) (dSub ta tb) := by
  with_unfolding_all
    exact pd_op op_sub (rel_I0 (fun _ _ => rfl) fun _ _ => rfl) ha hb
theorem pd_mul (ha : PD A X a ta) (hb : PD A X b tb) : PD A X (.BinOp a .Mult b pos) (dMul ta tb) := by
  with_unfolding_all
    exact pd_op op_mul (rel_I (fun _ _ => rfl) fun _ _ => rfl) ha hb
theorem pd_mod (ha : PD A X a ta) (hb : PD A X b tb) : PD A X (.BinOp a .Mod b pos) (dMod ta tb) := by
  with_unfolding_all
    exact pd_op op_mod (rel_I (fun _ _ => rfl) fun _ _ => rfl) ha hb
theorem pd_div (ha : PD A X a ta) (hb : PD A X b tb) : PD A X (.BinOp a .FloorDiv b pos) (dDiv ta tb) := by
  with_unfolding_all
    exact pd_op op_fdiv (rel_I (fun _ _ => rfl) fun _ _ => rfl) ha hb
theorem pd_pow (ha : PD A X a ta) (hb : PD A X b tb) : PD A X (.BinOp a .Pow b pos) (dPow ta tb) := by
  with_unfolding_all
    exact pd_op op_pow (rel_I (fun _ _ => rfl) fun _ _ => rfl) ha hb
abbrev rdLt : RD2 := rdI0 fun i j => .bl (decide (i < j))
abbrev rdGt : RD2 := rdI0 fun i j => .bl (decide (j < i))
abbrev rdGe : RD2 := rdI0 fun i j => .bl (decide (j ≤ i))
theorem re_lt : OpRel A (rI0 fun i j => .bl (decide (i < j))) rdLt := rel_I0 (g := fun i j => .bl (decide (i < j))) (fun _ _ => rfl) fun _ _ => rfl
theorem re_gt : OpRel A (rI0 fun i j => .bl (decide (j < i))) rdGt := rel_I0 (g := fun i j => .bl (decide (j < i))) (fun _ _ => rfl) fun _ _ => rfl
theorem re_ge : OpRel A (rI0 fun i j => .bl (decide (j ≤ i))) rdGe := rel_I0 (g := fun i j => .bl (decide (j ≤ i))) (fun _ _ => rfl) fun _ _ => rfl
def rdEq : RD2 := fun d1 d2 k => scalD d1 = true ∧ scalD d2 = true ∧ scal (ofS d1) (ofS d2) = true ∧ k (.bl (decide (ofS d1 = ofS d2)))
def rdNe : RD2 := fun d1 d2 k => scalD d1 = true ∧ scalD d2 = true ∧ scal (ofS d1) (ofS d2) = true ∧ k (.bl (!decide (ofS d1 = ofS d2)))
theorem re_eq : OpRel A rEq rdEq := by
  rintro os n rho sg H ds vs d1 d2 v1 v2 k Q I ⟨h1, h2, h3, q⟩ hQ
  obtain ⟨I1, r2⟩ := I.pop
  obtain ⟨I2, r1⟩ := I1.pop
  rw [r1.toS h1, r2.toS h2]
  exact ⟨h3, hQ _ H _ ⟨os, I2.push (Rep.ofS rfl)⟩ q⟩
theorem re_ne : OpRel A rNe rdNe := by
  rintro os n rho sg H ds vs d1 d2 v1 v2 k Q I ⟨h1, h2, h3, q⟩ hQ
  obtain ⟨I1, r2⟩ := I.pop
  obtain ⟨I2, r1⟩ := I1.pop
  rw [r1.toS h1, r2.toS h2]
  exact ⟨h3, hQ _ H _ ⟨os, I2.push (Rep.ofS rfl)⟩ q⟩
def isNon : D → Bool
  | .non => true
  | _ => false
theorem Rep.non_iff {K : PySem.W.Frag} {G : Option Addr} {Z : Addr → Prop} {H : Hp} {v : V} : ∀ {d : D}, Rep K G Z H d v → decide (v = .non) = isNon d
  | .non, h => by unfold Rep at h; rw [h]; rfl
  | .bl b, h => by unfold Rep at h; rw [h]; rfl
  | .int b, h => by unfold Rep at h; rw [h]; rfl
  | .str b, h => by unfold Rep at h; rw [h]; rfl
  | .ty b, h => by unfold Rep at h; rw [h]; rfl
  | .st, h => by unfold Rep at h; obtain ⟨a, _, h⟩ := h; rw [h]; rfl
  | .tup ds, h => by obtain ⟨a, xs, h, _⟩ := h.tup_inv; rw [h]; rfl
  | .lst ds, h => by obtain ⟨a, xs, h, _⟩ := h.lst_inv; rw [h]; rfl
  | .own ds, h => by unfold Rep at h; exact h.elim
  | .fz ds, h => by obtain ⟨a, xs, h, _⟩ := h.fz_inv; rw [h]; rfl
  | .dic, h => by unfold Rep at h; obtain ⟨a, kvs, h, _⟩ := h; rw [h]; rfl
  | .dct _ _, h => by unfold Rep at h; obtain ⟨a, xs, h, _⟩ := h; rw [h]; rfl
def rdIsN : RD2 := fun d1 d2 k => d2 = .non ∧ k (.bl (isNon d1))
def rdNotN : RD2 := fun d1 d2 k => d2 = .non ∧ k (.bl (!isNon d1))
theorem re_isN : OpRel A (fun x y H Q => y = .non ∧ Q (.bl (decide (x = .non))) H) rdIsN := by
  rintro os n rho sg H ds vs d1 d2 v1 v2 k Q I ⟨rfl, q⟩ hQ
  obtain ⟨I1, r2⟩ := I.pop
  obtain ⟨I2, r1⟩ := I1.pop
  have e : v2 = .non := r2.toS rfl
  exact ⟨e, by rw [r1.non_iff]; exact hQ _ H _ ⟨os, I2.push (Rep.ofS (d := .bl (isNon d1)) rfl)⟩ q⟩
def rdB (f : Bool → Bool → Bool) : RD2 := fun d1 d2 k => match d1, d2 with | .bl c, .bl d => k (.bl (f c d)) | _, _ => False
def rdIx : RD2 := fun d1 d2 k => ∃ es i d, (d1 = .lst es ∨ d1 = .tup es ∨ d1 = .fz es) ∧ d2 = .int i ∧ atI es i = some d ∧ k d
theorem atI_rep {K : PySem.W.Frag} {G : Option Addr} {Z : Addr → Prop} {H : Hp} {es : List D} {xs : List V} {i : Int} {d : D} (h : Reps K G Z H es xs) (e : atI es i = some d) : ∃ v, atI xs i = some v ∧ Rep K G Z H d v := by
  unfold atI at e ⊢
  rw [h.length]
  cases q : ixN es.length i with
  | none => rw [q] at e; cases e
  | some j =>
    rw [q] at e
    exact h.get (i := j) e
theorem re_ix : OpRel A (rIx A.K) rdIx := by
  rintro os n rho sg H ds vs d1 d2 v1 v2 k Q I ⟨es, i, d, h1, rfl, h2, q⟩ hQ
  obtain ⟨I1, r2⟩ := I.pop
  obtain ⟨I2, r1⟩ := I1.pop
  rcases h1 with rfl | rfl | rfl
  · obtain ⟨a, xs, e, sq, rs⟩ := r1.lst_inv
    obtain ⟨v, e1, rv⟩ := atI_rep rs h2
    exact .inl ⟨a, xs, i, v, e, r2.int_inv, sq.sq, e1, hQ v H d ⟨os, I2.push rv⟩ q⟩
  · obtain ⟨a, xs, e, sq, rs⟩ := r1.tup_inv
    obtain ⟨v, e1, rv⟩ := atI_rep rs h2
    exact .inr (.inl ⟨a, xs, i, v, e, r2.int_inv, sq.sq, e1, hQ v H d ⟨os, I2.push rv⟩ q⟩)
  · obtain ⟨a, xs, e, sq, rs⟩ := r1.fz_inv
    obtain ⟨v, e1, rv⟩ := atI_rep rs h2
    exact .inl ⟨a, xs, i, v, e, r2.int_inv, sq, e1, hQ v H d ⟨os, I2.push rv⟩ q⟩
def rdCat : RD2 := fun d1 d2 k => ∃ es fs, d1 = .lst es ∧ d2 = .lst fs ∧ es.length + fs.length ≤ sizeLine ∧ k (.lst (es ++ fs))
theorem re_cat : OpRel A rCat rdCat := by
  rintro os n rho sg H ds vs d1 d2 v1 v2 k Q I ⟨es, fs, rfl, rfl, hz, q⟩ hQ
  obtain ⟨I1, r2⟩ := I.pop
  obtain ⟨I2, r1⟩ := I1.pop
  obtain ⟨a, xs, e, sq, rs⟩ := r1.lst_inv
  obtain ⟨b, ys, e', sq', rs'⟩ := r2.lst_inv
  exact ⟨a, b, xs, ys, e, e', sq.2, sq'.2, by rw [rs.length, rs'.length]; exact hz, fun p hp => hQ _ _ _ ⟨os, I2.newLst (rs.append rs') hp⟩ q⟩
def rdRepT : RD2 := fun d1 d2 k => ∃ es i, d1 = .tup es ∧ d2 = .int i ∧ es ≠ [] ∧ 1 ≤ i ∧ es.length * i.toNat ≤ sizeLine ∧ k (.tup (List.replicate i.toNat es).flatten)
theorem re_repT : OpRel A (rRepT A.K) rdRepT := by
  rintro os n rho sg H ds vs d1 d2 v1 v2 k Q I ⟨es, i, rfl, rfl, hne, h1, hz, q⟩ hQ
  obtain ⟨I1, r2⟩ := I.pop
  obtain ⟨I2, r1⟩ := I1.pop
  have r1' := r1
  obtain ⟨a, xs, e, sq, rs⟩ := r1.tup_inv
  have hl := rs.length
  refine ⟨a, i, xs, e, r2.int_inv, sq.sq, fun z => hne ?_, h1, by rw [hl]; exact hz, fun hi => ?_, fun hi p hp => ?_⟩
  · rw [z] at hl
    exact List.length_eq_zero_iff.mp hl.symm
  · subst hi
    have e1 : (List.replicate (1 : Int).toNat es).flatten = es := by simp
    rw [e1] at q
    rw [e] at r1'
    exact hQ _ H _ ⟨os, I2.push r1'⟩ q
  · exact hQ _ _ _ ⟨os, I2.newTup (rs.flatRep i.toNat) hp⟩ q
theorem pd_neg (ha : PD A X a ta) : PD A X (.UnaryOp .USub a pos) (fun rho n P => ta rho n fun d n' => ∃ i, d = .int i ∧ P (.int (-i)) n') := by
  with_unfolding_all
    exact (pe_un un_neg ha).imp fun sg H Q h => by
      obtain ⟨rho, n, P, ds, vs, I, ht, hQ⟩ := h
      refine ⟨rho, n, _, ds, vs, I, ht, fun v H' n' d ⟨os, J⟩ k => ?_⟩
      obtain ⟨i, rfl, k⟩ := k
      obtain ⟨J1, r⟩ := J.pop
      exact ⟨i, r.int_inv, hQ _ H' n' _ ⟨os, J1.push (Rep.ofS (d := .int (-i)) rfl)⟩ k⟩
variable {t u : TBD} {rest : List Expr}
def bAnd (t u : TBD) : TBD := fun rho n P => t rho n fun c n1 => if c = true then u rho n1 P else P false n1
def bOr (t u : TBD) : TBD := fun rho n P => t rho n fun c n1 => if c = true then P true n1 else u rho n1 P
def bNot (t : TBD) : TBD := fun rho n P => t rho n fun c n1 => P (!c) n1
theorem pwd_and1 (ha : PTD A X a t) : PWD A X (.BoolOp .And [a] pos) t := by
  with_unfolding_all
    exact pw_and1 ha
theorem pwd_or1 (ha : PTD A X a t) : PWD A X (.BoolOp .Or [a] pos) t := by
  with_unfolding_all
    exact pw_or1 ha
theorem pwd_and (ha : PTD A X a t) (hb : PWD A X (.BoolOp .And (b :: rest) pos) u) : PWD A X (.BoolOp .And (a :: b :: rest) pos) (bAnd t u) := by
  with_unfolding_all
    exact (pw_and ha hb).imp fun sg H Q h => by
      obtain ⟨rho, n, P, ds, vs, I, ht, hQ⟩ := h
      refine ⟨rho, n, _, ds, vs, I, ht, fun c H' n' J k => ?_⟩
      cases c with
      | true => exact ⟨rho, n', P, ds, vs, J, k, hQ⟩
      | false => exact hQ _ _ _ J k
theorem pwd_or (ha : PTD A X a t) (hb : PWD A X (.BoolOp .Or (b :: rest) pos) u) : PWD A X (.BoolOp .Or (a :: b :: rest) pos) (bOr t u) := by
  with_unfolding_all
    exact (pw_or ha hb).imp fun sg H Q h => by
      obtain ⟨rho, n, P, ds, vs, I, ht, hQ⟩ := h
      refine ⟨rho, n, _, ds, vs, I, ht, fun c H' n' J k => ?_⟩
      cases c with
      | false => exact ⟨rho, n', P, ds, vs, J, k, hQ⟩
      | true => exact hQ _ _ _ J k
theorem PWD.pt (h : PWD A X e t) : PTD A X e t := by
  with_unfolding_all
    exact PW.pt h
theorem ptd_not (ha : PTD A X a t) : PTD A X (.UnaryOp .Not a pos) (bNot t) := by
  with_unfolding_all
    exact (pt_not ha).imp fun sg H Q h => by
      obtain ⟨rho, n, P, ds, vs, I, ht, hQ⟩ := h
      exact ⟨rho, n, _, ds, vs, I, ht, fun c H' n' J k => hQ _ _ _ J k⟩
def dAnd (ta tb : TD) : TD := fun rho n P => ta rho n fun d n1 => ∃ c, d = .bl c ∧ if c = true then tb rho n1 P else P (.bl false) n1
def dOr (ta tb : TD) : TD := fun rho n P => ta rho n fun d n1 => ∃ c, d = .bl c ∧ if c = true then P (.bl true) n1 else tb rho n1 P
def dNot (ta : TD) : TD := fun rho n P => ta rho n fun d n1 => ∃ c, d = .bl c ∧ P (.bl (!c)) n1
theorem pd_one {op : BoolOp} (h : PD A X a ta) : PD A X (.BoolOp op [a] pos) ta := by
  with_unfolding_all
    exact pe_one h
theorem pd_and (ha : PD A X a ta) (hb : PD A X (.BoolOp .And (b :: rest) pos) tb) : PD A X (.BoolOp .And (a :: b :: rest) pos) (dAnd ta tb) := by
  with_unfolding_all
    exact (pe_and ha hb).imp fun sg H Q h => by
      obtain ⟨rho, n, P, ds, vs, I, ht, hQ⟩ := h
      refine ⟨rho, n, _, ds, vs, I, ht, fun v H' n' d ⟨os, J⟩ k => ?_⟩
      obtain ⟨c, rfl, k⟩ := k
      obtain ⟨J1, r⟩ := J.pop
      refine ⟨c, r.bl_inv, ?_⟩
      cases c with
      | true => exact ⟨rho, n', P, ds, vs, ⟨os, J1⟩, k, hQ⟩
      | false => exact hQ _ _ _ _ ⟨os, J1.push (Rep.ofS (d := .bl false) rfl)⟩ k
theorem pd_not (ha : PD A X a ta) : PD A X (.UnaryOp .Not a pos) (dNot ta) := by
  with_unfolding_all
    exact (pe_not ha).imp fun sg H Q h => by
      obtain ⟨rho, n, P, ds, vs, I, ht, hQ⟩ := h
      refine ⟨rho, n, _, ds, vs, I, ht, fun v H' n' d ⟨os, J⟩ k => ?_⟩
      obtain ⟨c, rfl, k⟩ := k
      obtain ⟨J1, r⟩ := J.pop
      exact ⟨c, r.bl_inv, hQ _ _ _ _ ⟨os, J1.push (Rep.ofS (d := .bl (!c)) rfl)⟩ k⟩
def dIf (t : TBD) (ta tb : TD) : TD := fun rho n P => t rho n fun c n1 => if c = true then ta rho n1 P else tb rho n1 P
theorem pd_if (hc : PTD A X c t) (ha : PD A X a ta) (hb : PD A X b tb) : PD A X (.IfExp c a b pos) (dIf t ta tb) := by
  with_unfolding_all
    exact (pe_ifExp hc ha hb).imp fun sg H Q h => by
      obtain ⟨rho, n, P, ds, vs, I, ht, hQ⟩ := h
      refine ⟨rho, n, _, ds, vs, I, ht, fun c H' n' J k => ?_⟩
      cases c with
      | true => exact ⟨rho, n', P, ds, vs, J, k, hQ⟩
      | false => exact ⟨rho, n', P, ds, vs, J, k, hQ⟩
variable {t1 : TAD}
def aNil : TAD := fun _ n P => P [] n
def aCons (t : TD) (r : TAD) : TAD := fun rho n P => t rho n fun d n1 => r rho n1 fun ds n2 => P (d :: ds) n2
theorem pad_nil : PAD A X [] aNil := by
  with_unfolding_all
    exact pa_nil.imp fun sg H Q h => by
      obtain ⟨rho, n, P, ds, vs, I, ht, hQ⟩ := h
      exact hQ [] H n [] I rfl ht
theorem reps_rot {K : PySem.W.Frag} {G : Option Addr} {Z : Addr → Prop} {H : Hp} {es ds : List D} {ws vs : List V} {d : D} {v : V} (h : Reps K G Z H (es ++ d :: ds) (ws ++ v :: vs)) (hl : ws.length = es.length) : Reps K G Z H (d :: es ++ ds) (v :: ws ++ vs) := by
  have h1 := h.take es.length
  have h2 := h.drop es.length
  rw [List.take_left' rfl, List.take_left' hl] at h1
  rw [List.drop_left' rfl, List.drop_left' hl] at h2
  obtain ⟨r, t⟩ := h2.inv
  exact .cons r (h1.append t)
def starred : Expr → Bool
  | .Starred .. => true
  | _ => false
theorem sE {e : Expr} {es : List Expr} {env : Env} (h : starred e = false) : starEach (e :: es) env = (false, eval e env) :: starEach es env := by
  cases e <;> first | (simp [starEach]; done) | (simp [starred] at h; done)
theorem pad_cons (ha : PD A X a ta) (hr : PAD A X es t1) (hs : starred a = false := by rfl) : PAD A X (a :: es) (aCons ta t1) := by
  with_unfolding_all
    exact (pa_cons ha hr (sE hs)).imp fun sg H Q h => by
      obtain ⟨rho, n, P, ds, vs, I, ht, hQ⟩ := h
      refine ⟨rho, n, _, ds, vs, I, ht, fun v H' n' d J k => ⟨rho, n', _, d :: ds, v :: vs, J, k, fun ws H2 n2 es' ⟨os, J2⟩ hl k2 => ?_⟩⟩
      exact hQ (v :: ws) H2 n2 (d :: es') ⟨os, J2.pends (reps_rot J2.pend hl)⟩ (by rw [List.length_cons, List.length_cons, hl]) k2
theorem reps_pre {K : PySem.W.Frag} {G : Option Addr} {Z : Addr → Prop} {H : Hp} {es ds : List D} {ws vs : List V} (h : Reps K G Z H (es ++ ds) (ws ++ vs)) (hl : ws.length = es.length) : Reps K G Z H es ws ∧ Reps K G Z H ds vs := by
  have h1 := h.take es.length
  have h2 := h.drop es.length
  rw [List.take_left' rfl, List.take_left' hl] at h1
  rw [List.drop_left' rfl, List.drop_left' hl] at h2
  exact ⟨h1, h2⟩
def dTup (t : TAD) : TD := fun rho n P => t rho n fun ds n1 => ds.length ≤ sizeLine ∧ P (.tup ds) n1
def dLst (t : TAD) : TD := fun rho n P => t rho n fun ds n1 => ds.length ≤ sizeLine ∧ P (.lst ds) n1
theorem pd_tup {x1} (h : PAD A X es t1) : PD A X (.Tuple es x1 pos) (dTup t1) := by
  with_unfolding_all
    exact (pe_tup h).imp fun sg H Q h => by
      obtain ⟨rho, n, P, ds, vs, I, ht, hQ⟩ := h
      refine ⟨rho, n, _, ds, vs, I, ht, fun ws H' n' es' ⟨os, J⟩ hl k => ⟨by rw [hl]; exact k.1, fun p hp => ?_⟩⟩
      obtain ⟨q1, q2⟩ := reps_pre J.pend hl
      exact hQ _ _ n' _ ⟨os, (J.pends q2).newTup q1 hp⟩ k.2
theorem pd_lst (h : PAD A X es t1) : PD A X (.List es pos) (dLst t1) := by
  with_unfolding_all
    exact (pe_lst h).imp fun sg H Q h => by
      obtain ⟨rho, n, P, ds, vs, I, ht, hQ⟩ := h
      refine ⟨rho, n, _, ds, vs, I, ht, fun ws H' n' es' ⟨os, J⟩ hl k => ⟨by rw [hl]; exact k.1, fun p hp => ?_⟩⟩
      obtain ⟨q1, q2⟩ := reps_pre J.pend hl
      exact hQ _ _ n' _ ⟨os, (J.pends q2).newLst q1 hp⟩ k.2
def CallRel (A : AC) (r : List V → Hp → VK → Prop) (rd : List D → (D → Prop) → Prop) : Prop :=
  ∀ os n rho sg H ds vs es ws (k : D → Prop) (Q : VK), AmO A os n rho sg H ds vs → Reps A.K A.G (Zof A os) H es ws → rd es k → (∀ v H' d, Am A n rho sg H' (d :: ds) (v :: vs) → k d → Q v H') → r ws H Q
def dCall (rd : List D → (D → Prop) → Prop) (t : TAD) : TD := fun rho n P => t rho n fun es n1 => rd es fun d => P d n1
theorem tCB_of {r : List V → Hp → VK → Prop} {rd : List D → (D → Prop) → Prop} (hr : CallRel A r rd) {sg : St} {H : Hp} {Q : VK} (h : tOf A (dCall rd t1) sg H Q) : tCB r (taOf A t1) sg H Q := by
  obtain ⟨rho, n, P, ds, vs, I, ht, hQ⟩ := h
  refine ⟨rho, n, _, ds, vs, I, ht, fun ws H' n' es' ⟨os, J⟩ hl k => ?_⟩
  obtain ⟨q1, q2⟩ := reps_pre J.pend hl
  exact hr _ _ _ _ _ _ _ _ _ _ Q (J.pends q2) q1 k fun v H2 d J2 k2 => hQ v H2 n' d J2 k2
theorem pd_callB {x : Str} {p : Pos} {id : String} {r : List V → Hp → VK → Prop} {rd : List D → (D → Prop) → Prop} (hc : CallR X (.builtin id) r) (hr : CallRel A r rd) (hm : X.mg x = none) (hv : bootBuiltins x = some (.builtin id)) (ha : PAD A X (e :: es) t1) (hg : Gl X x := by rfl) (hn : x ≠ "__name__" := by decide) (hdb : (x == ("__debug__" : Str)) = false := by decide)
    (he : starEach (e :: es) X.env = (false, eval e X.env) :: starEach es X.env := by rfl) (hpl : (backTo pos (starEach es X.env)).any (·.1) = false := by rfl) : PD A X (.Call (.Name x p) (e :: es) [] pos) (dCall rd t1) := by
  with_unfolding_all
    exact 
      (pe_callB hc hg hm hv ha hn hdb he hpl).imp fun _ _ _ => tCB_of hr
theorem pd_callTy {x : Str} {p : Pos} {T : String} {r : List V → Hp → VK → Prop} {rd : List D → (D → Prop) → Prop} (hc : CallR X (.type T) r) (hr : CallRel A r rd) (hm : X.mg x = none) (hv : bootBuiltins x = some (.type T)) (ha : PAD A X (e :: es) t1) (hg : Gl X x := by rfl) (hn : x ≠ "__name__" := by decide) (hdb : (x == ("__debug__" : Str)) = false := by decide)
    (he : starEach (e :: es) X.env = (false, eval e X.env) :: starEach es X.env := by rfl) (hpl : (backTo pos (starEach es X.env)).any (·.1) = false := by rfl) : PD A X (.Call (.Name x p) (e :: es) [] pos) (dCall rd t1) := by
  with_unfolding_all
    exact 
      (pe_callTy hc hg hm hv ha hn hdb he hpl).imp fun _ _ _ => tCB_of hr
theorem reps1 {K : PySem.W.Frag} {G : Option Addr} {Z : Addr → Prop} {H : Hp} {d : D} {ws : List V} (h : Reps K G Z H [d] ws) : ∃ v, ws = [v] ∧ Rep K G Z H d v := by
  obtain ⟨v, r, rfl, q, t⟩ := h.split
  rw [t.nil_inv]
  exact ⟨v, rfl, q⟩
theorem reps2 {K : PySem.W.Frag} {G : Option Addr} {Z : Addr → Prop} {H : Hp} {d d' : D} {ws : List V} (h : Reps K G Z H [d, d'] ws) : ∃ v v', ws = [v, v'] ∧ Rep K G Z H d v ∧ Rep K G Z H d' v' := by
  obtain ⟨v, r, rfl, q, t⟩ := h.split
  obtain ⟨v', rfl, q'⟩ := reps1 t
  exact ⟨v, v', rfl, q, q'⟩
def kLen : List D → (D → Prop) → Prop := fun es k => ∃ fs, (es = [.lst fs] ∨ es = [.tup fs] ∨ es = [.fz fs]) ∧ k (.int fs.length)
def kAbs : List D → (D → Prop) → Prop := fun es k => ∃ i, es = [.int i] ∧ k (.int (if i < 0 then -i else i))
def kIntB : List D → (D → Prop) → Prop := fun es k => ∃ c, es = [.bl c] ∧ k (.int (if c then 1 else 0))
def kAll : List D → (D → Prop) → Prop := fun es k => ∃ bs : List Bool, es = [.lst (bs.map D.bl)] ∧ k (.bl (bs.all id))
def kTuple : List D → (D → Prop) → Prop := fun es k => ∃ fs, (es = [.lst fs] ∨ es = [.tup fs]) ∧ k (.tup fs)
def kList : List D → (D → Prop) → Prop := fun es k => ∃ fs, (es = [.lst fs] ∨ es = [.tup fs]) ∧ k (.lst fs)
theorem cr_len : CallRel A (fun xs H Q => ∃ p ys, xs = [.ref p] ∧ (SqL A.K H p ys ∨ SqT A.K H p ys) ∧ Q (.int ys.length) H) kLen := by
  rintro os n rho sg H ds vs es ws k Q I rs ⟨fs, h, q⟩ hQ
  rcases h with rfl | rfl | rfl
  · obtain ⟨v, rfl, r⟩ := reps1 rs
    obtain ⟨a, xs, rfl, sq, rr⟩ := r.lst_inv
    exact ⟨a, xs, rfl, .inl sq.sq, by rw [rr.length]; exact hQ _ H _ ⟨os, I.push (Rep.ofS rfl)⟩ q⟩
  · obtain ⟨v, rfl, r⟩ := reps1 rs
    obtain ⟨a, xs, rfl, sq, rr⟩ := r.tup_inv
    exact ⟨a, xs, rfl, .inr sq.sq, by rw [rr.length]; exact hQ _ H _ ⟨os, I.push (Rep.ofS rfl)⟩ q⟩
  · obtain ⟨v, rfl, r⟩ := reps1 rs
    obtain ⟨a, xs, rfl, sq, rr⟩ := r.fz_inv
    exact ⟨a, xs, rfl, .inl sq, by rw [rr.length]; exact hQ _ H _ ⟨os, I.push (Rep.ofS rfl)⟩ q⟩
theorem cr_intB : CallRel A (fun xs H Q => (∃ i, xs = [.int i] ∧ Q (.int i) H) ∨ ∃ k, xs = [.bl k] ∧ Q (.int (if k then 1 else 0)) H) kIntB := by
  rintro os n rho sg H ds vs es ws k Q I rs ⟨i, rfl, q⟩ hQ
  obtain ⟨v, rfl, r⟩ := reps1 rs
  exact .inr ⟨i, by rw [r.bl_inv], hQ _ H _ ⟨os, I.push (Rep.ofS rfl)⟩ q⟩
theorem reps_bools {K : PySem.W.Frag} {G : Option Addr} {Z : Addr → Prop} {H : Hp} : ∀ {bs : List Bool} {ws : List V}, Reps K G Z H (bs.map D.bl) ws → ws = bs.map V.bl
  | [], ws, h => h.nil_inv
  | b :: bs, ws, h => by
    obtain ⟨v, r, rfl, q, t⟩ := h.split
    rw [q.bl_inv, reps_bools t]; rfl
theorem cr_all : CallRel A (fun xs H Q => ∃ (p : Addr) (bs : List Bool), xs = [.ref p] ∧ SqL A.K H p (bs.map V.bl) ∧ Q (.bl (bs.all id)) H) kAll := by
  rintro os n rho sg H ds vs es ws k Q I rs ⟨bs, rfl, q⟩ hQ
  obtain ⟨v, rfl, r⟩ := reps1 rs
  obtain ⟨a, xs, rfl, sq, rr⟩ := r.lst_inv
  have e := reps_bools rr
  subst e
  exact ⟨a, bs, rfl, sq.sq, hQ _ H _ ⟨os, I.push (Rep.ofS rfl)⟩ q⟩
theorem cr_tuple : CallRel A (fun xs H Q => ∃ p ys, xs = [.ref p] ∧ ((SqL A.K H p ys ∧ ∀ l, H l = none → Q (.ref l) (upd H l (.tup ys))) ∨ (SqT A.K H p ys ∧ Q (.ref p) H))) kTuple := by
  rintro os n rho sg H ds vs es ws k Q I rs ⟨fs, h, q⟩ hQ
  rcases h with rfl | rfl
  · obtain ⟨v, rfl, r⟩ := reps1 rs
    obtain ⟨a, xs, rfl, sq, rr⟩ := r.lst_inv
    exact ⟨a, xs, rfl, .inl ⟨sq.sq, fun l hl => hQ _ _ _ ⟨os, I.newTup rr hl⟩ q⟩⟩
  · obtain ⟨v, rfl, r⟩ := reps1 rs
    have r' := r
    obtain ⟨a, xs, rfl, sq, rr⟩ := r.tup_inv
    exact ⟨a, xs, rfl, .inr ⟨sq.sq, hQ _ _ _ ⟨os, I.push r'⟩ q⟩⟩
theorem cr_list : CallRel A (fun xs H Q => ∃ p ys, xs = [.ref p] ∧ (SqL A.K H p ys ∨ SqT A.K H p ys) ∧ ∀ l, H l = none → Q (.ref l) (upd H l (.lst ys))) kList := by
  rintro os n rho sg H ds vs es ws k Q I rs ⟨fs, h, q⟩ hQ
  rcases h with rfl | rfl
  · obtain ⟨v, rfl, r⟩ := reps1 rs
    obtain ⟨a, xs, rfl, sq, rr⟩ := r.lst_inv
    exact ⟨a, xs, rfl, .inl sq.sq, fun l hl => hQ _ _ _ ⟨os, I.newLst rr hl⟩ q⟩
  · obtain ⟨v, rfl, r⟩ := reps1 rs
    obtain ⟨a, xs, rfl, sq, rr⟩ := r.tup_inv
    exact ⟨a, xs, rfl, .inr sq.sq, fun l hl => hQ _ _ _ ⟨os, I.newLst rr hl⟩ q⟩
def isiD (T : String) : D → Bool
  | .bl _ => T == "bool" || T == "int"
  | .int _ => T == "int"
  | .str _ => T == "str"
  | .tup _ => T == "tuple"
  | .lst _ => T == "list"
  | _ => false
def isiOk : D → Bool
  | .non => true | .bl _ => true | .int _ => true | .str _ => true | .tup _ => true | .lst _ => true | .dic => true | _ => false
def kIsi : List D → (D → Prop) → Prop := fun es k => ∃ d T, es = [d, .ty T] ∧ (T = "bool" ∨ T = "int" ∨ T = "str" ∨ T = "tuple" ∨ T = "list") ∧ isiOk d = true ∧ k (.bl (isiD T d))
theorem cr_isi : CallRel A (fun xs H Q => ∃ x T, xs = [x, .ty T] ∧ (T = "bool" ∨ T = "int" ∨ T = "str" ∨ T = "tuple" ∨ T = "list") ∧ rIsi A.K T x H Q) kIsi := by
  rintro os n rho sg H ds vs es ws k Q I rs ⟨d, T, rfl, hT, ho, q⟩ hQ
  obtain ⟨v, v', rfl, r, r'⟩ := reps2 rs
  have e' : v' = .ty T := r'.toS rfl
  subst e'
  refine ⟨v, T, rfl, hT, ?_⟩
  have fin : Q (.bl (isiD T d)) H := hQ _ H _ ⟨os, I.push (Rep.ofS rfl)⟩ q
  cases d with
  | non => have e := r.toS rfl; subst e; exact fin
  | bl b => have e := r.toS rfl; subst e; exact fin
  | int b => have e := r.toS rfl; subst e; exact fin
  | str b => have e := r.toS rfl; subst e; exact fin
  | tup fs => obtain ⟨a, xs, rfl, sq, rr⟩ := r.tup_inv; exact .inl ⟨xs, sq.sq, fin⟩
  | lst fs => obtain ⟨a, xs, rfl, sq, rr⟩ := r.lst_inv; exact .inr (.inl ⟨xs, sq.sq, fin⟩)
  | dic => unfold Rep at r; obtain ⟨a, kvs, rfl, _, e⟩ := r; exact .inr (.inr ⟨_, e, fin⟩)
  | ty _ => simp [isiOk] at ho
  | dct _ _ => simp [isiOk] at ho
  | st => simp [isiOk] at ho
  | own _ => simp [isiOk] at ho
  | fz _ => simp [isiOk] at ho
end
end L2
set_option maxRecDepth 100000
namespace L2
open PySem PySem.Spec PyProof.Rows
section
variable {A : AC} {os : List (Nat × Addr)} {n : Nat} {rho : Rho} {sg : St} {H : Hp} {ds es : List D} {vs ws : List V} {d : D} {v : V}
theorem AmO.split (I : AmO A os n rho sg H (es ++ ds) (ws ++ vs)) (hl : ws.length = es.length) : AmO A os n rho sg H ds vs ∧ Reps A.K A.G (Zof A os) H es ws :=
  let ⟨q1, q2⟩ := reps_pre I.pend hl
  ⟨I.pends q2, q1⟩
theorem AmO.join (I : AmO A os n rho sg H ds vs) (h : Reps A.K A.G (Zof A os) H es ws) : AmO A os n rho sg H (es ++ ds) (ws ++ vs) := I.pends (h.append I.pend)
theorem AmO.under (I : AmO A os n rho sg H (d :: (es ++ ds)) (v :: (ws ++ vs))) (hl : ws.length = es.length) : AmO A os n rho sg H (d :: ds) (v :: vs) := by
  obtain ⟨J, r⟩ := I.pop
  exact (J.split hl).1.push r
theorem AmO.front (m : Nat) (I : AmO A os n rho sg H ds vs) : AmO A (os.map fun p => (p.1 + m, p.2)) n (List.replicate m none ++ rho) (List.replicate m none ++ sg) H ds vs := by
  have zz : ∀ a, Zof A (os.map fun p => (p.1 + m, p.2)) a → Zof A os a := fun a z => by
    rcases z with z | ⟨p, hp, e⟩
    · exact .inl z
    · obtain ⟨q, hq, rfl⟩ := List.mem_map.mp hp
      exact .inr ⟨q, hq, e⟩
  refine ⟨by simp [I.len], fun i c e => ?_, Reps.mono (fun a _ z => zz a z) (fun _ _ _ e => e) _ _ I.pend, ?_, fun p hp => ?_, I.st, I.gz, I.fr, I.z0⟩
  · have hi : m ≤ i := by
      apply Nat.le_of_not_lt
      intro hlt
      rw [List.getElem?_append_left (by simpa using hlt), List.getElem?_replicate, if_pos hlt] at e
      cases e
    rw [List.getElem?_append_right (by simpa using hi), List.length_replicate] at e
    obtain ⟨u, e1, e2⟩ := I.slot _ c e
    refine ⟨u, by rw [List.getElem?_append_right (by simpa using hi), List.length_replicate]; exact e1, ?_⟩
    have key : ∀ j, j + m = i → SlotR A os H j c u → SlotR A (os.map fun p => (p.1 + m, p.2)) H i c u := fun j hj h => by
      subst hj
      cases c with
      | own fs =>
        obtain ⟨a, xs, q1, q2, q3, q4⟩ := h
        exact ⟨a, xs, q1, List.mem_map.mpr ⟨_, q2, rfl⟩, q3, Reps.mono (fun a _ z => zz a z) (fun _ _ _ e => e) _ _ q4⟩
      | non => exact Rep.mono (fun a _ z => zz a z) (fun _ _ _ e => e) _ _ h
      | bl _ => exact Rep.mono (fun a _ z => zz a z) (fun _ _ _ e => e) _ _ h
      | int _ => exact Rep.mono (fun a _ z => zz a z) (fun _ _ _ e => e) _ _ h
      | str _ => exact Rep.mono (fun a _ z => zz a z) (fun _ _ _ e => e) _ _ h
      | ty _ => exact Rep.mono (fun a _ z => zz a z) (fun _ _ _ e => e) _ _ h
      | tup _ => exact Rep.mono (fun a _ z => zz a z) (fun _ _ _ e => e) _ _ h
      | lst _ => exact Rep.mono (fun a _ z => zz a z) (fun _ _ _ e => e) _ _ h
      | st => exact Rep.mono (fun a _ z => zz a z) (fun _ _ _ e => e) _ _ h
      | fz _ => exact Rep.mono (fun a _ z => zz a z) (fun _ _ _ e => e) _ _ h
      | dic => exact Rep.mono (fun a _ z => zz a z) (fun _ _ _ e => e) _ _ h
      | dct _ _ => exact Rep.mono (fun a _ z => zz a z) (fun _ _ _ e => e) _ _ h
    exact key (i - m) (by lia) e2
  · rw [List.pairwise_map]
    exact I.nd.imp fun {p q} h => ⟨fun z => h.1 (by simpa using z), h.2⟩
  · obtain ⟨q, hq, rfl⟩ := List.mem_map.mp hp
    exact I.fresh q hq
theorem AmO.back {m : Nat} {rho' : Rho} {sg' : St} (I : AmO A os n rho' sg' H ds vs) (h1 : rho'.drop m = rho) (h2 : sg'.drop m = sg) : ∃ os', AmO A os' n rho sg H ds vs := by
  refine ⟨(os.filter fun p => decide (m ≤ p.1)).map fun p => (p.1 - m, p.2), ?_⟩
  have zz : ∀ a, Zof A ((os.filter fun p => decide (m ≤ p.1)).map fun p => (p.1 - m, p.2)) a → Zof A os a := fun a z => by
    rcases z with z | ⟨p, hp, e⟩
    · exact .inl z
    · obtain ⟨q, hq, rfl⟩ := List.mem_map.mp hp
      exact .inr ⟨q, (List.mem_filter.mp hq).1, e⟩
  subst h1 h2
  refine ⟨by simp [I.len], fun i c e => ?_, Reps.mono (fun a _ z => zz a z) (fun _ _ _ e => e) _ _ I.pend, ?_, fun p hp => ?_, I.st, I.gz, I.fr, I.z0⟩
  · rw [List.getElem?_drop] at e
    obtain ⟨u, e1, e2⟩ := I.slot _ c e
    refine ⟨u, by rw [List.getElem?_drop]; exact e1, ?_⟩
    cases c with
    | own fs =>
      obtain ⟨a, xs, q1, q2, q3, q4⟩ := e2
      exact ⟨a, xs, q1, List.mem_map.mpr ⟨_, List.mem_filter.mpr ⟨q2, by simp⟩, by simp⟩, q3, Reps.mono (fun a _ z => zz a z) (fun _ _ _ e => e) _ _ q4⟩
    | non => exact Rep.mono (fun a _ z => zz a z) (fun _ _ _ e => e) _ _ e2
    | bl _ => exact Rep.mono (fun a _ z => zz a z) (fun _ _ _ e => e) _ _ e2
    | int _ => exact Rep.mono (fun a _ z => zz a z) (fun _ _ _ e => e) _ _ e2
    | str _ => exact Rep.mono (fun a _ z => zz a z) (fun _ _ _ e => e) _ _ e2
    | ty _ => exact Rep.mono (fun a _ z => zz a z) (fun _ _ _ e => e) _ _ e2
    | tup _ => exact Rep.mono (fun a _ z => zz a z) (fun _ _ _ e => e) _ _ e2
    | lst _ => exact Rep.mono (fun a _ z => zz a z) (fun _ _ _ e => e) _ _ e2
    | st => exact Rep.mono (fun a _ z => zz a z) (fun _ _ _ e => e) _ _ e2
    | fz _ => exact Rep.mono (fun a _ z => zz a z) (fun _ _ _ e => e) _ _ e2
    | dic => exact Rep.mono (fun a _ z => zz a z) (fun _ _ _ e => e) _ _ e2
    | dct _ _ => exact Rep.mono (fun a _ z => zz a z) (fun _ _ _ e => e) _ _ e2
  · rw [List.pairwise_map, List.pairwise_filter]
    refine I.nd.imp fun {p q} h hp hq => ⟨fun z => h.1 ?_, h.2⟩
    have a1 : m ≤ p.1 := by simpa using hp
    have a2 : m ≤ q.1 := by simpa using hq
    have z' : p.1 - m = q.1 - m := z
    lia
  · obtain ⟨q, hq, rfl⟩ := List.mem_map.mp hp
    exact I.fresh q (List.mem_filter.mp hq).1
end
abbrev TGD := D → Rho → (Rho → Prop) → Prop
abbrev TGsD := List D → Rho → (Rho → Prop) → Prop
def gOf (A : AC) (m : Nat) (g : TGD) : TG := fun v sg H Q => ∃ rho n P d ds vs, Am A n rho sg H (d :: ds) (v :: vs) ∧ g d rho P ∧ ∀ rho' sg', Am A n rho' sg' H ds vs → sg'.drop m = sg.drop m → P rho' → Q sg' H
def gsOf (A : AC) (m : Nat) (g : TGsD) : TGs := fun us sg H Q => ∃ rho n P es ds vs, Am A n rho sg H (es ++ ds) (us ++ vs) ∧ us.length = es.length ∧ g es rho P ∧ ∀ rho' sg', Am A n rho' sg' H ds vs → sg'.drop m = sg.drop m → P rho' → Q sg' H
@[irreducible] def PGD (A : AC) (X : Cx) (m : Nat) (tg : Expr) (g : TGD) : Prop := PG X tg (gOf A m g)
@[irreducible] def PGsD (A : AC) (X : Cx) (m : Nat) (tg : List Expr) (g : TGsD) : Prop := PGs X tg (gsOf A m g)
theorem PG.imp {X : Cx} {tg : Expr} {g g' : TG} (h : PG X tg g) (hi : ∀ v sg H Q, g' v sg H Q → g v sg H Q) : PG X tg g' := fun pins s sg H v u Q I r q => h pins s sg H v u Q I r (hi _ _ _ _ q)
theorem PGs.imp {X : Cx} {tg : List Expr} {g g' : TGs} (h : PGs X tg g) (hi : ∀ v sg H Q, g' v sg H Q → g v sg H Q) : PGs X tg g' := fun pins s sg H v u Q I r q => h pins s sg H v u Q I r (hi _ _ _ _ q)
section
variable {A : AC} {X : Cx} {m : Nat} {pos : Pos}
def gdName (i : Nat) : TGD := fun d rho P => i < rho.length ∧ P (rho.set i (some d))
theorem pgd_name {i : Nat} {x : Str} (hN : X.N.Nodup) (hi : X.N[i]? = some x) (hx : Loc X.env.scope x) (hm : i < m) (hf : X.fn x = true ∨ X.env.scope.names.lookup x = some .local := by first | exact .inl rfl | exact .inr rfl | assumption) : PGD A X m (.Name x pos) (gdName i) := by
  with_unfolding_all
    exact 
      (pg_name hN hi hx hf).imp fun v sg H Q h => by
        obtain ⟨rho, n, P, d, ds, vs, ⟨os, I⟩, ⟨hl, k⟩, hQ⟩ := h
        refine hQ (rho.set i (some d)) (sg.set i (some v)) ⟨_, I.set hl⟩ ?_ k
        rw [List.drop_set_of_lt hm]
def gdNil : TGsD := fun es rho P => es = [] ∧ P rho
def gdCons (g : TGD) (gs : TGsD) : TGsD := fun es rho P => ∃ d r, es = d :: r ∧ g d rho fun rho' => gs r rho' P
theorem pgsd_nil : PGsD A X m [] gdNil := by
  with_unfolding_all
    exact pgs_nil.imp fun us sg H Q h => by
      obtain ⟨rho, n, P, es, ds, vs, I, hl, ⟨rfl, k⟩, hQ⟩ := h
      have e : us = [] := List.length_eq_zero_iff.mp hl
      subst e
      exact ⟨rfl, hQ rho sg I rfl k⟩
theorem pgsd_cons {e : Expr} {es : List Expr} {g : TGD} {gs : TGsD} (h1 : PGD A X m e g) (h2 : PGsD A X m es gs) (hs : (assignEach (e :: es) X.env).map (·.2) = assign e X.env :: (assignEach es X.env).map (·.2) := by rfl) : PGsD A X m (e :: es) (gdCons g gs) := by
  with_unfolding_all
    exact 
      (pgs_cons h1 h2 hs).imp fun us sg H Q h => by
        obtain ⟨rho, n, P, es', ds, vs, I, hl, ⟨d, r, rfl, k⟩, hQ⟩ := h
        cases us with
        | nil => simp at hl
        | cons u us =>
          refine ⟨u, us, rfl, ⟨rho, n, _, d, r ++ ds, us ++ vs, I, k, fun rho' sg' I' e1 k' => ⟨rho', n, P, r, ds, vs, I', by simpa using hl, k', fun rho2 sg2 I2 e2 k2 => hQ rho2 sg2 I2 (e2.trans e1) k2⟩⟩⟩
def gdTup (k : Nat) (gs : TGsD) : TGD := fun d rho P => ∃ es, d = .tup es ∧ es.length = k ∧ gs es rho P
theorem pgd_tup {es : List Expr} {k : Nat} {gs : TGsD} {kt : Nat} (hK : X.K = A.K) (hc : X.calm = true) (h : PGsD A X m es gs) (hn : (assignEach es X.env).length = k := by rfl) (hst : (assignEach es X.env).findIdx? (·.1) = none := by rfl) : PGD A X m (.Tuple es kt pos) (gdTup k gs) := by
  with_unfolding_all
    exact 
      (pg_tup (n := k) hc h hn hst).imp fun v sg H Q h => by
        obtain ⟨rho, n, P, d, ds, vs, ⟨os, I⟩, ⟨fs, rfl, hl, q⟩, hQ⟩ := h
        obtain ⟨J, r⟩ := I.pop
        obtain ⟨a, xs, rfl, sq, rs⟩ := r.tup_inv
        have hx := rs.length
        rw [hK]
        exact ⟨a, xs, rfl, sq.sq, by rw [hx]; exact hl, rho, n, P, fs, ds, vs, ⟨os, J.join rs⟩, hx, q, hQ⟩
end
abbrev TID := Rho → Nat → (List D → Nat → Prop) → Prop
def JIs (A : AC) (J : It) (es : List D) (ws : List V) (items : List D) : Prop := ∀ n rho sg H ds vs i, Am A n rho sg H (es ++ ds) (ws ++ vs) →
  (∀ d, items[i]? = some d → J.go i H ∧ ∀ x H', J.yld i H x H' → Am A n rho sg H' (d :: (es ++ ds)) (x :: (ws ++ vs))) ∧ (items.length ≤ i → J.stop i H)
def iOf (A : AC) (it : TID) : TI := fun sg H R => ∃ rho n P ds vs, Am A n rho sg H ds vs ∧ it rho n P ∧ ∀ J H' n' items es ws, Am A n' rho sg H' (es ++ ds) (ws ++ vs) → ws.length = es.length → JIs A J es ws items → P items n' → R J H'
@[irreducible] def PID (A : AC) (X : Cx) (tg iter : Expr) (it : TID) : Prop := PI X tg iter (iOf A it)
theorem PI.imp {X : Cx} {tg e : Expr} {t t' : TI} (h : PI X tg e t) (hi : ∀ sg H Q, t' sg H Q → t sg H Q) : PI X tg e t' := fun pins s sg H Q I q => h pins s sg H Q I (hi _ _ _ q)
section
variable {A : AC} {X : Cx} {tg a b : Expr} {ta tb : TD} {pos p : Pos} {t1 : TAD}
def rngD (lo : Int) (k : Nat) : List D := (List.range k).map fun (i : Nat) => D.int (lo + (i : Int))
def iRngD (t : TAD) : TID := fun rho n P => t rho n fun es n1 => ∃ j : Int, es = [.int j] ∧ -(2 ^ 62) ≤ j ∧ j < 2 ^ 62 ∧ P (rngD 0 j.toNat) n1
theorem jis_rng {lo : Int} {k : Nat} : JIs A (Itr lo k) [] [] (rngD lo k) := fun n2 rho2 sg2 H2 ds2 vs2 i ⟨os2, I2⟩ => by
  refine ⟨fun d e => ?_, fun hi => ?_⟩
  · unfold rngD at e
    rw [List.getElem?_map] at e
    cases q : (List.range k)[i]? with
    | none => rw [q] at e; cases e
    | some j =>
      rw [q] at e
      cases e
      have hj := List.getElem?_eq_some_iff.mp q
      obtain ⟨hlt, ej⟩ := hj
      rw [List.getElem_range] at ej
      subst ej
      refine ⟨(show i < k by simpa using hlt), fun x H3 y => ?_⟩
      obtain ⟨e3, e4⟩ := y
      subst e3 e4
      exact ⟨os2, I2.push (Rep.ofS (d := .int (lo + i)) rfl)⟩
  · unfold rngD at hi
    exact (show k ≤ i by simpa using hi)
theorem pid_rng (hm : X.mg "range" = none) (ha : PAD A X [a] t1) (hg : Gl X "range" := by rfl) (hs : starEach [a] X.env = [(false, eval a X.env)] := by rfl) : PID A X tg (.Call (.Name "range" p) [a] [] pos) (iRngD t1) := by
  with_unfolding_all
    exact 
      (pi_range1 hg hm ha hs).imp fun sg H R h => by
        obtain ⟨rho, n, P, ds, vs, I, ht, hQ⟩ := h
        refine ⟨rho, n, _, ds, vs, I, ht, fun ws H' n' es' ⟨os, J⟩ hl k => ?_⟩
        obtain ⟨j, rfl, h1, h2, k⟩ := k
        obtain ⟨J1, rs⟩ := J.split hl
        obtain ⟨v, rfl, r⟩ := reps1 rs
        exact ⟨j, by rw [r.int_inv], h1, h2, hQ _ H' n' _ [] [] ⟨os, J1⟩ rfl jis_rng k⟩
def seqOf : D → Option (Bool × List D)
  | .lst es => some (true, es)
  | .tup es => some (false, es)
  | _ => none
theorem Rep.seq {K : PySem.W.Frag} {G : Option Addr} {Z : Addr → Prop} {H : Hp} {v : V} {b : Bool} {es : List D} : ∀ {d : D}, seqOf d = some (b, es) → Rep K G Z H d v → ∃ a xs, v = .ref a ∧ SqZ K Z H b a xs ∧ Reps K G Z H es xs
  | .lst fs, h, r => by cases h; exact r.lst_inv
  | .tup fs, h, r => by cases h; exact r.tup_inv
  | .non, h, _ => by cases h
  | .bl _, h, _ => by cases h
  | .int _, h, _ => by cases h
  | .str _, h, _ => by cases h
  | .ty _, h, _ => by cases h
  | .st, h, _ => by cases h
  | .own _, h, _ => by cases h
  | .fz _, h, _ => by cases h
def zipD (xs ys : List D) : List D := List.zipWith (fun x y => D.tup [x, y]) xs ys
def iZipD (t : TAD) : TID := fun rho n P => t rho n fun es n1 => ∃ d1 d2 b1 xs b2 ys, es = [d1, d2] ∧ seqOf d1 = some (b1, xs) ∧ seqOf d2 = some (b2, ys) ∧ P (zipD xs ys) n1
theorem jis_zip {d1 d2 : D} {l1 l2 : Addr} {b1 b2 : Bool} {xs ys : List D} (h1 : seqOf d1 = some (b1, xs)) (h2 : seqOf d2 = some (b2, ys)) : JIs A (Itz A.K b1 b2 l1 l2) [d1, d2] [.ref l1, .ref l2] (zipD xs ys) := fun n rho sg H ds vs i ⟨os, I⟩ => by
  obtain ⟨I1, r1⟩ := AmO.pop (d := d1) (v := .ref l1) (ds := d2 :: ds) (vs := .ref l2 :: vs) I
  obtain ⟨I2, r2⟩ := I1.pop
  obtain ⟨a1, us, e1, sq1, rs1⟩ := r1.seq h1
  obtain ⟨a2, ws, e2, sq2, rs2⟩ := r2.seq h2
  cases e1; cases e2
  refine ⟨fun d e => ?_, fun hi => ⟨us, ws, sq1.sq, sq2.sq, ?_⟩⟩
  · unfold zipD at e
    rw [List.getElem?_zipWith] at e
    cases q1 : xs[i]? with
    | none => rw [q1] at e; cases e
    | some x =>
      cases q2 : ys[i]? with
      | none => rw [q1, q2] at e; cases e
      | some y =>
        rw [q1, q2] at e
        cases e
        obtain ⟨u, eu, ru⟩ := rs1.get q1
        obtain ⟨w, ew, rw'⟩ := rs2.get q2
        refine ⟨⟨us, ws, u, w, sq1.sq, sq2.sq, eu, ew⟩, fun v H3 yy => ?_⟩
        obtain ⟨T, hT, rfl, k⟩ := yy
        obtain ⟨u', w', eu', ew', rfl⟩ := k us ws sq1.sq sq2.sq
        rw [eu] at eu'; cases eu'
        rw [ew] at ew'; cases ew'
        exact ⟨os, I.newTup (.cons ru (.cons rw' .nil)) hT⟩
  · rw [rs1.length, rs2.length]
    unfold zipD at hi
    rw [List.length_zipWith] at hi
    lia
theorem pid_zip {es : List Expr} {kk : Nat} {ps : Pos} (hK : X.K = A.K) (hm : X.mg "zip" = none) (ha : PAD A X [a, b] t1) (hg : Gl X "zip" := by rfl) (hs : starEach [a, b] X.env = [(false, eval a X.env), (false, eval b X.env)] := by rfl) (hs2 : starEach [b] X.env = [(false, eval b X.env)] := by rfl) :
    PID A X (.Tuple es kk ps) (.Call (.Name "zip" p) [a, b] [] pos) (iZipD t1) := by
  with_unfolding_all
    exact (pi_zip hg hm ha hs hs2).imp fun sg H R h => by
      obtain ⟨rho, n, P, ds, vs, I, ht, hQ⟩ := h
      refine ⟨rho, n, _, ds, vs, I, ht, fun ws H' n' es' ⟨os, J⟩ hl k => ?_⟩
      obtain ⟨d1, d2, b1, xs, b2, ys, rfl, h1, h2, k⟩ := k
      obtain ⟨J1, rs⟩ := J.split hl
      obtain ⟨v1, v2, rfl, r1, r2⟩ := reps2 rs
      obtain ⟨a1, us, rfl, sq1, rs1⟩ := r1.seq h1
      obtain ⟨a2, ws', rfl, sq2, rs2⟩ := r2.seq h2
      rw [hK]
      exact ⟨b1, b2, a1, a2, us, ws', rfl, sq1.sq, sq2.sq, hQ _ H' n' _ [d1, d2] [.ref a1, .ref a2] ⟨os, J⟩ rfl (jis_zip h1 h2) k⟩
end
section
variable {A : AC} {X : Cx} {tg iter elt : Expr} {ifs : List Expr} {scope : Scope} {own M : List Str} {pos : Pos} {it : TID} {g : TGD} {tt : TBD} {te : TD}
def dComp (it : TID) (own : Nat) (g : TGD) (tt : TBD) (te : TD) : TD := fun rho n P => it rho n fun items n1 => items.length ≤ sizeLine ∧ ∃ J : Nat → List D → Nat → Prop, J 0 [] n1 ∧
  (∀ i d acc n, items[i]? = some d → J i acc n → g d (List.replicate own none ++ rho) fun rho' => rho'.drop own = rho ∧ tt rho' n fun c n2 => if c = true then te rho' n2 fun e n3 => J (i + 1) (acc ++ [e]) n3 else J (i + 1) acc n2) ∧
  ∀ acc n, J items.length acc n → P (.lst acc) n
def bYes : TBD := fun _ n P => P true n
theorem PTs.imp {X : Cx} {e : List Expr} {t t' : TT} (h : PTs X e t) (hi : ∀ sg H Q, t' sg H Q → t sg H Q) : PTs X e t' := by
  with_unfolding_all
    exact fun pins s sg H Q I q => h pins s sg H Q I (hi _ _ _ q)
theorem ptsd_nil {X : Cx} : PTs X [] (ttOf A bYes) := by
  with_unfolding_all
    exact pts_nil.imp fun sg H Q h => by
      obtain ⟨rho, n, P, ds, vs, I, ht, hQ⟩ := h
      exact hQ true H n I ht
theorem tComp_ofG {sg : St} {H : Hp} {Q : VK} {m : Nat} {rho : Rho} {n : Nat} {P : D → Nat → Prop} {ds : List D} {vs : List V} (I : Am A n rho sg H ds vs) (ht : dComp it m g tt te rho n P)
    (hQ : ∀ os n' H' fs xs p, AmO A os n' rho sg H' ds vs → Reps A.K A.G (Zof A os) H' fs xs → H' p = none → P (.lst fs) n' → Q (.ref p) (upd H' p (.lst xs))) : tComp (iOf A it) m (gOf A m g) (ttOf A tt) (tOf A te) sg H Q := by
  refine ⟨rho, n, _, ds, vs, I, ht, fun J H' n' items es ws I1 hl hJ k => ?_⟩
  obtain ⟨hsz, W, w0, turn, fin⟩ := k
  refine ⟨fun i mm acc H => mm = items.length - i ∧ i ≤ items.length ∧ acc.length ≤ i ∧ ∃ accD n, acc.length = accD.length ∧ Am A n rho sg H (es ++ (accD ++ ds)) (ws ++ (acc ++ vs)) ∧ W i accD n,
    ⟨items.length, rfl, Nat.zero_le _, Nat.le_refl _, [], n', rfl, I1, w0⟩, ?_⟩
  rintro i mm acc H3 ⟨rfl, hi, hai, accD, n3, hal, ⟨os, I3⟩, w3⟩
  obtain ⟨j1, j2⟩ := hJ n3 rho sg H3 (accD ++ ds) (acc ++ vs) i ⟨os, I3⟩
  by_cases hlt : i < items.length
  · refine .inr ⟨(j1 items[i] (by simp [hlt])).1, by lia, fun x H4 y => ?_⟩
    obtain ⟨os4, I4⟩ := (j1 items[i] (by simp [hlt])).2 x H4 y
    refine ⟨List.replicate m none ++ rho, n3, _, items[i], es ++ (accD ++ ds), ws ++ (acc ++ vs), ⟨_, I4.front m⟩, turn i items[i] accD n3 (by simp [hlt]) w3, fun rho' sg' ⟨os5, I5⟩ e5 k5 => ?_⟩
    obtain ⟨k5, k6⟩ := k5
    have e6 : sg'.drop m = sg := by rw [e5, List.drop_left' (by simp)]
    refine ⟨e6, rho', n3, _, es ++ (accD ++ ds), ws ++ (acc ++ vs), ⟨os5, I5⟩, k6, fun c H6 n6 ⟨os6, I6⟩ k7 => ?_⟩
    cases c with
    | false =>
      obtain ⟨os7, I7⟩ := I6.back k5 e6
      exact ⟨items.length - (i + 1), by lia, rfl, hlt, by lia, accD, n6, hal, ⟨os7, I7⟩, k7⟩
    | true =>
      rw [if_pos rfl] at k7 ⊢
      refine ⟨rho', n6, _, es ++ (accD ++ ds), ws ++ (acc ++ vs), ⟨os6, I6⟩, k7, fun v H8 n8 d ⟨os8, I8⟩ k8 => ?_⟩
      obtain ⟨os9, I9⟩ := I8.back k5 e6
      obtain ⟨I10, rv⟩ := I9.pop
      obtain ⟨I11, r1⟩ := I10.split hl
      obtain ⟨I12, r2⟩ := I11.split hal
      refine ⟨items.length - (i + 1), by lia, rfl, hlt, by rw [List.length_append, List.length_singleton]; lia, accD ++ [d], n8, by simp [hal], ⟨os9, (I12.join (r2.append (.cons rv .nil))).join r1⟩, k8⟩
  · have e : i = items.length := by lia
    subst e
    refine .inl ⟨j2 (Nat.le_refl _), Nat.le_trans hai hsz, fun D hD => ?_⟩
    obtain ⟨I4, r1⟩ := I3.split hl
    obtain ⟨I5, r2⟩ := I4.split hal
    exact hQ os n3 _ accD acc D I5 r2 hD (fin accD n3 w3)
theorem tComp_of {sg : St} {H : Hp} {Q : VK} {m : Nat} (h : tOf A (dComp it m g tt te) sg H Q) : tComp (iOf A it) m (gOf A m g) (ttOf A tt) (tOf A te) sg H Q := by
  obtain ⟨rho, n, P, ds, vs, I, ht, hQ⟩ := h
  exact tComp_ofG I ht fun os n' H' fs xs p J r hp k => hQ _ _ n' _ ⟨os, J.newLst r hp⟩ k
theorem pd_comp (ok : CompOk X scope M) (hc : X.calm = true) (hi : PID A X tg iter it) (hg : ∀ C s2 H2 fp, PGD A (cxComp X scope own M C s2 H2 fp) own.length tg g) (ht : ∀ C s2 H2 fp, PTs (cxComp X scope own M C s2 H2 fp) ifs (ttOf A tt))
    (he : ∀ C s2 H2 fp, PD A (cxComp X scope own M C s2 H2 fp) elt te) (hs : ∀ x, foldedSetIterable iter X.env x = pure x := by intro _; rfl) : PD A X (.ListComp elt [⟨tg, iter, ifs, 0⟩] scope pos) (dComp it own.length g tt te) := by
  with_unfolding_all
    exact 
      (pe_comp ok hc hi hg ht he hs).imp fun _ _ _ => tComp_of
end
end L2
set_option maxRecDepth 100000
namespace L2
open PySem PySem.Spec PyProof.Rows
structure EndsD where
  nx : Rho → Nat → Prop
  rt : D → Nat → Prop
  bk : Rho → Nat → Prop := fun _ _ => False
  ct : Rho → Nat → Prop := fun _ _ => False
abbrev TSD := EndsD → Rho → Nat → Prop
structure EOk (A : AC) (E : Ends) (F : EndsD) (ds : List D) (vs : List V) : Prop where
  nx : ∀ rho n sg H, Am A n rho sg H ds vs → F.nx rho n → E.nx sg H
  rt : ∀ d n v rho sg H, Am A n rho sg H (d :: ds) (v :: vs) → F.rt d n → E.rt v H
  bk : ∀ rho n sg H, Am A n rho sg H ds vs → F.bk rho n → E.bk sg H
  ct : ∀ rho n sg H, Am A n rho sg H ds vs → F.ct rho n → E.ct sg H
def sOf (A : AC) (t : TSD) : TS := fun E sg H => ∃ rho n F ds vs, Am A n rho sg H ds vs ∧ t F rho n ∧ EOk A E F ds vs
@[irreducible] def PSD (A : AC) (X : Cx) (s : Stmt) (t : TSD) : Prop := PS X s (sOf A t)
@[irreducible] def PSsD (A : AC) (X : Cx) (s : List Stmt) (t : TSD) : Prop := PSs X s (sOf A t)
section
variable {A : AC} {X : Cx} {st : Stmt} {rest : List Stmt} {t u : TSD} {e a b : Expr} {te : TD} {tc : TBD} {pos : Pos}
def sNext : TSD := fun F rho n => F.nx rho n
def sSeq (t u : TSD) : TSD := fun F rho n => t { F with nx := u F } rho n
theorem pssd_nil : PSsD A X [] sNext := by
  with_unfolding_all
    exact pss_nil.imp fun E sg H h => by
      obtain ⟨rho, n, F, ds, vs, I, ht, ok⟩ := h
      exact ok.nx _ _ _ _ I ht
theorem pssd_cons (h1 : PSD A X st t) (h2 : PSsD A X rest u) : PSsD A X (st :: rest) (sSeq t u) := by
  with_unfolding_all
    exact (pss_cons h1 h2).imp fun E sg H h => by
      obtain ⟨rho, n, F, ds, vs, I, ht, ok⟩ := h
      exact ⟨rho, n, { F with nx := u F }, ds, vs, I, ht, ⟨fun rho' n' sg' H' I' k => ⟨rho', n', F, ds, vs, I', k, ok⟩, ok.rt, ok.bk, ok.ct⟩⟩
theorem pssd_one (h1 : PSD A X st t) : PSsD A X [st] t := by
  with_unfolding_all
    exact pss_one h1
def sRet (te : TD) : TSD := fun F rho n => te rho n F.rt
theorem psd_ret (he : PD A X e te) : PSD A X (.Return (some e) pos) (sRet te) := by
  with_unfolding_all
    exact (ps_ret he).imp fun E sg H h => by
      obtain ⟨rho, n, F, ds, vs, I, ht, ok⟩ := h
      exact ⟨rho, n, _, ds, vs, I, ht, fun v H' n' d I' k => ok.rt _ _ _ _ _ _ I' k⟩
def sIf (c : TBD) (t u : TSD) : TSD := fun F rho n => c rho n fun b n1 => if b = true then t F rho n1 else u F rho n1
theorem psd_if {c : Expr} {sa sb : List Stmt} (hc : PTD A X c tc) (ha : PSsD A X sa t) (hb : PSsD A X sb u) : PSD A X (.If c sa sb pos) (sIf tc t u) := by
  with_unfolding_all
    exact (ps_if hc ha hb).imp fun E sg H h => by
      obtain ⟨rho, n, F, ds, vs, I, ht, ok⟩ := h
      refine ⟨rho, n, _, ds, vs, I, ht, fun c H' n' J k => ?_⟩
      cases c with
      | true => exact ⟨rho, n', F, ds, vs, J, k, ok⟩
      | false => exact ⟨rho, n', F, ds, vs, J, k, ok⟩
def sSet (i : Nat) (te : TD) : TSD := fun F rho n => i < rho.length ∧ te rho n fun d n1 => F.nx (rho.set i (some d)) n1
theorem psd_set {i : Nat} {x : Str} {pos' : Pos} (hN : X.N.Nodup) (hi : X.N[i]? = some x) (hx : Loc X.env.scope x) (he : PD A X e te) (hs : swapsWith e (some (.Name x pos')) pos.line X.env = pure false := by rfl) (hf : X.fn x = true ∨ X.env.scope.names.lookup x = some .local := by first | exact .inl rfl | exact .inr rfl | assumption) :
    PSD A X (.Assign [.Name x pos'] e pos) (sSet i te) := by
  with_unfolding_all
    exact (ps_set hN hi hx he hs hf).imp fun E sg H h => by
      obtain ⟨rho, n, F, ds, vs, I, ⟨hl, ht⟩, ok⟩ := h
      exact ⟨rho, n, _, ds, vs, I, ht, fun v H' n' d ⟨os, J⟩ k => ok.nx _ _ _ _ ⟨_, J.set hl⟩ k⟩
theorem psd_setComp {i : Nat} {x : Str} {pos' spos : Pos} {tg iter elt : Expr} {ifs : List Expr} {scope : Scope} {own M : List Str} {it : TID} {g : TGD} {tt : TBD} (hN : X.N.Nodup) (hix : X.N[i]? = some x) (hx : Loc X.env.scope x) (ok : CompOk X scope M) (hc : X.calm = true) (hi : PID A X tg iter it)
    (hg : ∀ C s2 H2 fp, PGD A (cxComp X scope own M C s2 H2 fp) own.length tg g) (ht : ∀ C s2 H2 fp, PTs (cxComp X scope own M C s2 H2 fp) ifs (ttOf A tt)) (he : ∀ C s2 H2 fp, PD A (cxComp X scope own M C s2 H2 fp) elt te)
    (hsw : swapsWith (.ListComp elt [⟨tg, iter, ifs, 0⟩] scope pos) (some (.Name x pos')) spos.line X.env = pure true := by rfl) (hf : X.fn x = true ∨ X.env.scope.names.lookup x = some .local := by first | exact .inl rfl | exact .inr rfl | assumption)
    (hs : ∀ x, foldedSetIterable iter X.env x = pure x := by intro _; rfl) : PSD A X (.Assign [.Name x pos'] (.ListComp elt [⟨tg, iter, ifs, 0⟩] scope pos) spos) (sSet i (dComp it own.length g tt te)) := by
  with_unfolding_all
    exact 
      (ps_setComp hN hix hx ok hc hi hg ht he hsw hf hs).imp fun E sg H h => by
        obtain ⟨rho, n, F, ds, vs, I, ⟨hl, ht⟩, ok⟩ := h
        exact tComp_of (A := A) ⟨rho, n, _, ds, vs, I, ht, fun v H' n' d ⟨os, J⟩ k => ok.nx _ _ _ _ ⟨_, J.set hl⟩ k⟩
def sUnp (te : TD) (g : TGD) : TSD := fun F rho n => te rho n fun d n1 => g d rho fun rho' => F.nx rho' n1
theorem psd_unp {tg : Expr} {g : TGD} {m : Nat} (he : PD A X e te) (hg : PGD A X m tg g) (hs : swapsWithSole [tg] e pos.line X.env = pure false := by rfl) (hw : swappedStores [tg] e X.env = pure none := by rfl)
    (h1 : (assignEach [tg] X.env).map (·.2) = [assign tg X.env] := by rfl) : PSD A X (.Assign [tg] e pos) (sUnp te g) := by
  with_unfolding_all
    exact (ps_asg he hg hs hw h1).imp fun E sg H h => by
      obtain ⟨rho, n, F, ds, vs, I, ht, ok⟩ := h
      exact ⟨rho, n, _, ds, vs, I, ht, fun v H' n' d J k => ⟨rho, n', _, d, ds, vs, J, k, fun rho' sg' J' _ k' => ok.nx _ _ _ _ J' k'⟩⟩
def sPar (i j : Nat) (t : TAD) : TSD := fun F rho n => i < rho.length ∧ j < rho.length ∧ t rho n fun es n1 => ∃ d d', es = [d, d'] ∧ F.nx ((rho.set i (some d)).set j (some d')) n1
def sFor (it : TID) (g : TGD) (tb : TSD) : TSD := fun F rho n => it rho n fun items n1 => ∃ J : Nat → Rho → Nat → Prop, J 0 rho n1 ∧
  (∀ i d rho n, items[i]? = some d → J i rho n → g d rho fun rho' => tb { F with nx := J (i + 1), ct := J (i + 1), bk := F.nx } rho' n) ∧ ∀ rho n, J items.length rho n → F.nx rho n
theorem psd_for {tg iter : Expr} {body : List Stmt} {it : TID} {g : TGD} {tb : TSD} {m : Nat} (hp : PassesOwn (model X.prog X.w) X.A X.env X.xe) (hc : X.calm = true) (hi : PID A X tg iter it) (hg : PGD A X m tg g) (hb : PSsD A X body tb)
    (hs : ∀ x, foldedSetIterable iter X.env x = pure x := by intro _; rfl) : PSD A X (.For tg iter body [] pos) (sFor it g tb) := by
  with_unfolding_all
    exact (ps_for hp hc hi hg hb hs).imp fun E sg H h => by
      obtain ⟨rho, n, F, ds, vs, I, ht, ok⟩ := h
      refine ⟨rho, n, _, ds, vs, I, ht, fun J H' n' items es ws I1 hl hJ k => ?_⟩
      obtain ⟨W, w0, turn, fin⟩ := k
      refine ⟨fun i mm sg H => mm = items.length - i ∧ i ≤ items.length ∧ ∃ rho n, Am A n rho sg H (es ++ ds) (ws ++ vs) ∧ W i rho n, ⟨items.length, rfl, Nat.zero_le _, rho, n', I1, w0⟩, ?_⟩
      rintro i mm sg3 H3 ⟨rfl, hi, rho3, n3, I3, w3⟩
      obtain ⟨j1, j2⟩ := hJ n3 rho3 sg3 H3 ds vs i I3
      by_cases hlt : i < items.length
      · refine .inr ⟨(j1 items[i] (by simp [hlt])).1, fun sg' H' => ∃ rho n, Am A n rho sg' H' (es ++ ds) (ws ++ vs) ∧ W (i + 1) rho n, fun sg' H' ⟨rho', n', I', w'⟩ => ⟨items.length - (i + 1), by lia, rfl, hlt, rho', n', I', w'⟩, fun x H4 y => ?_⟩
        have I4 := (j1 items[i] (by simp [hlt])).2 x H4 y
        refine ⟨rho3, n3, _, items[i], es ++ ds, ws ++ vs, I4, turn i items[i] rho3 n3 (by simp [hlt]) w3, fun rho' sg' I5 _ k5 => ⟨rho', n3, { F with nx := W (i + 1), ct := W (i + 1), bk := F.nx }, es ++ ds, ws ++ vs, I5, k5, ?_⟩⟩
        refine ⟨fun rho6 n6 sg6 H6 I6 k6 => ⟨rho6, n6, I6, k6⟩, fun d n6 v rho6 sg6 H6 ⟨os6, I6⟩ k6 => ok.rt _ _ _ _ _ _ ⟨os6, I6.under hl⟩ k6, fun rho6 n6 sg6 H6 ⟨os6, I6⟩ k6 => ok.nx _ _ _ _ ⟨os6, (I6.split hl).1⟩ k6, fun rho6 n6 sg6 H6 I6 k6 => ⟨rho6, n6, I6, k6⟩⟩
      · have e : i = items.length := by lia
        subst e
        obtain ⟨os, I3⟩ := I3
        exact .inl ⟨j2 (Nat.le_refl _), ok.nx _ _ _ _ ⟨os, (I3.split hl).1⟩ (fin rho3 n3 w3)⟩
def sDrop (te : TD) : TSD := fun F rho n => te rho n fun _ n1 => F.nx rho n1
theorem AmO.setOwn {os : List (Nat × Addr)} {n : Nat} {rho : Rho} {sg : St} {H : Hp} {ds es : List D} {vs xs : List V} {i : Nat} {p : Addr} (I : AmO A os n rho sg H ds vs) (hi : i < rho.length) (hp : H p = none) (r : Reps A.K A.G (Zof A os) H es xs) :
    ∃ os', AmO A os' n (rho.set i (some (.own es))) (sg.set i (some (.ref p))) (upd H p (.lst xs)) ds vs := by
  have hf : ∀ a u, H a = some u → upd H p (.lst xs) a = some u := fun a u e => by rw [upd_ne (ne_of_none e hp)]; exact e
  refine ⟨(i, p) :: os.filter fun q => decide (q.1 ≠ i), ?_⟩
  have zz : ∀ a, H a ≠ none → Zof A ((i, p) :: os.filter fun q => decide (q.1 ≠ i)) a → Zof A os a := fun a ha z => by
    rcases z with z | ⟨q, hq, e⟩
    · exact .inl z
    · rcases List.mem_cons.mp hq with rfl | hq
      · exact absurd (by rw [← e]; exact hp) ha
      · exact .inr ⟨q, (List.mem_filter.mp hq).1, e⟩
  have h0 : A.H0 p = none := by
    cases q : A.H0 p with
    | none => rfl
    | some o =>
      by_cases e : A.G = some p
      · obtain ⟨x, y, z, w, _⟩ := I.st p e
        rw [w] at hp; cases hp
      · have := I.fr p o e q
        rw [this] at hp; cases hp
  refine ⟨by simp [I.len], fun j c e => ?_, Reps.mono zz (fun a u _ e => hf a u e) _ _ I.pend, ?_, fun q hq => ?_, fun a e => ?_, I.gz, fun a u h e => hf a u (I.fr a u h e), I.z0⟩
  · by_cases hj : j = i
    · subst hj
      rw [List.getElem?_set_self hi] at e
      cases e
      exact ⟨.ref p, List.getElem?_set_self (by rw [← I.len]; exact hi), p, xs, rfl, List.mem_cons_self, upd_same, Reps.mono zz (fun a u _ e => hf a u e) _ _ r⟩
    · rw [List.getElem?_set_ne (Ne.symm hj)] at e
      obtain ⟨u, e1, e2⟩ := I.slot j c e
      exact ⟨u, by rw [List.getElem?_set_ne (Ne.symm hj)]; exact e1, SlotR.mono zz (fun a u _ e => hf a u e) (fun a ys m q => ⟨List.mem_cons_of_mem _ (List.mem_filter.mpr ⟨m, by simpa using hj⟩), hf a _ q⟩) _ _ e2⟩
  · refine List.pairwise_cons.mpr ⟨fun q hq => ?_, I.nd.filter _⟩
    obtain ⟨m1, m2⟩ := List.mem_filter.mp hq
    refine ⟨fun z => by simp [← z] at m2, fun z => (I.fresh q m1).2.2 ?_⟩
    have z' : p = q.2 := z
    rw [← z']; exact hp
  · rcases List.mem_cons.mp hq with rfl | hq
    · exact ⟨h0, fun z => I.z0 p z h0, by show upd H p _ p ≠ none; rw [upd_same]; simp⟩
    · obtain ⟨f1, f2, f3⟩ := I.fresh q (List.mem_filter.mp hq).1
      refine ⟨f1, f2, ?_⟩
      cases w : H q.2 with
      | none => exact absurd w f3
      | some u => rw [hf _ _ w]; simp
  · obtain ⟨x, y, z, q, rr⟩ := I.st a e
    exact ⟨x, y, z, hf _ _ q, rr⟩
def sOwn (i : Nat) (t : TAD) : TSD := fun F rho n => i < rho.length ∧ t rho n fun es n1 => es.length ≤ sizeLine ∧ F.nx (rho.set i (some (.own es))) n1
theorem psd_own {i : Nat} {x : Str} {pos' pos2 : Pos} {els : List Expr} {ta : TAD} (hN : X.N.Nodup) (hi : X.N[i]? = some x) (hx : Loc X.env.scope x) (ha : PAD A X els ta) (hf : X.fn x = true ∨ X.env.scope.names.lookup x = some .local := by first | exact .inl rfl | exact .inr rfl | assumption)
    (hs : swapsWith (.List els pos2) (some (.Name x pos')) pos.line X.env = pure false := by rfl) : PSD A X (.Assign [.Name x pos'] (.List els pos2) pos) (sOwn i ta) := by
  with_unfolding_all
    exact (ps_set hN hi hx (pe_lst ha) hs hf).imp fun E sg H h => by
      obtain ⟨rho, n, F, ds, vs, I, ⟨hl, ht⟩, ok⟩ := h
      refine ⟨rho, n, _, ds, vs, I, ht, fun ws H' n' es ⟨os, J⟩ hlen k => ⟨by rw [hlen]; exact k.1, fun p hp => ?_⟩⟩
      obtain ⟨J1, rs⟩ := J.split hlen
      exact ok.nx _ _ _ _ (J1.setOwn hl hp rs) k.2
theorem AmO.own {os : List (Nat × Addr)} {n : Nat} {rho : Rho} {sg : St} {H : Hp} {ds es es' : List D} {vs xs' : List V} {i : Nat} (I : AmO A os n rho sg H ds vs) (hi : rho[i]? = some (some (.own es))) :
    ∃ a xs, sg[i]? = some (some (.ref a)) ∧ H a = some (.lst xs) ∧ Reps A.K A.G (Zof A os) H es xs ∧ ∀ es' xs', Reps A.K A.G (Zof A os) H es' xs' → AmO A os n (rho.set i (some (.own es'))) sg (upd H a (.lst xs')) ds vs := by
  obtain ⟨v, e1, a, xs, rfl, hm, hH, rs⟩ := I.slot i _ hi
  have hil : i < rho.length := (List.getElem?_eq_some_iff.mp hi).1
  have za : Zof A os a := .inr ⟨_, hm, rfl⟩
  have hf : ∀ (xs' : List V) b u, ¬ Zof A os b → H b = some u → upd H a (.lst xs') b = some u := fun xs' b u nz e => by
    rw [upd_ne fun z => nz (by rw [z]; exact za)]; exact e
  have uniq : ∀ j, (j, a) ∈ os → j = i := fun j hj => by
    by_cases hji : j = i
    · exact hji
    · have key : ∀ (l : List (Nat × Addr)), l.Pairwise (fun p q => p.1 ≠ q.1 ∧ p.2 ≠ q.2) → (j, a) ∈ l → (i, a) ∈ l → False := by
        intro l
        induction l with
        | nil => intro _ h; simp at h
        | cons c l ih =>
          intro hp h1 h2
          obtain ⟨p1, p2⟩ := List.pairwise_cons.mp hp
          rcases List.mem_cons.mp h1 with e1 | h1 <;> rcases List.mem_cons.mp h2 with e2 | h2
          · rw [← e2] at e1; exact hji (Prod.mk.inj e1).1
          · exact (p1 _ h2).2 (by rw [← e1])
          · exact (p1 _ h1).2 (by rw [← e2])
          · exact ih p2 h1 h2
      exact (key os I.nd hj hm).elim
  obtain ⟨fa1, fa2, fa3⟩ := I.fresh _ hm
  refine ⟨a, xs, e1, hH, rs, fun es' xs' r => ⟨by simp [I.len], fun j c e => ?_, Reps.mono (fun _ _ z => z) (hf xs') _ _ I.pend, I.nd, fun q hq => ?_, fun b e => ?_, I.gz, fun b u h e => ?_, I.z0⟩⟩
  · by_cases hj : j = i
    · subst hj
      rw [List.getElem?_set_self hil] at e
      cases e
      exact ⟨.ref a, e1, a, xs', rfl, hm, upd_same, Reps.mono (fun _ _ z => z) (hf xs') _ _ r⟩
    · rw [List.getElem?_set_ne (Ne.symm hj)] at e
      obtain ⟨u, e2, e3⟩ := I.slot j c e
      exact ⟨u, e2, SlotR.mono (fun _ _ z => z) (hf xs') (fun b ys m q => ⟨m, by rw [upd_ne fun z => hj (uniq j (by rw [← z]; exact m))]; exact q⟩) _ _ e3⟩
  · obtain ⟨f1, f2, f3⟩ := I.fresh q hq
    refine ⟨f1, f2, ?_⟩
    by_cases e : q.2 = a
    · rw [e, upd_same]; simp
    · rw [upd_ne e]; exact f3
  · obtain ⟨x, y, z, q, rr⟩ := I.st b e
    exact ⟨x, y, z, by rw [upd_ne fun w => fa2 (by rw [← w]; exact I.gz b e)]; exact q, rr⟩
  · rw [upd_ne fun w => by rw [w, fa1] at e; cases e]
    exact I.fr b u h e
theorem AmO.freeze {os : List (Nat × Addr)} {n : Nat} {rho : Rho} {sg : St} {H : Hp} {ds es : List D} {vs : List V} {i : Nat} (I : AmO A os n rho sg H ds vs) (hi : rho[i]? = some (some (.own es))) : ∃ os', AmO A os' n (rho.set i (some (.lst es))) sg H ds vs := by
  obtain ⟨v, e1, a, xs, rfl, hm, hH, rs⟩ := I.slot i _ hi
  have hil : i < rho.length := (List.getElem?_eq_some_iff.mp hi).1
  refine ⟨os.filter fun q => decide (q.1 ≠ i), ?_⟩
  have sub : ∀ b, H b ≠ none → Zof A (os.filter fun p => decide (p.1 ≠ i)) b → Zof A os b := fun b _ z => by
    rcases z with z | ⟨p, hp, e⟩
    · exact .inl z
    · exact .inr ⟨p, (List.mem_filter.mp hp).1, e⟩
  have key : ∀ (l : List (Nat × Addr)), l.Pairwise (fun p q => p.1 ≠ q.1 ∧ p.2 ≠ q.2) → (i, a) ∈ l → ∀ q ∈ l, q.2 = a → q.1 = i := by
    intro l
    induction l with
    | nil => intro _ h; simp at h
    | cons c l ih =>
      intro hp h1 q hq hqa
      obtain ⟨p1, p2⟩ := List.pairwise_cons.mp hp
      rcases List.mem_cons.mp h1 with e1 | h1 <;> rcases List.mem_cons.mp hq with e2 | h2
      · rw [e2, ← e1]
      · exact absurd (by rw [← e1, hqa]) (p1 _ h2).2
      · exact absurd (by rw [← e2, hqa]) (p1 _ h1).2
      · exact ih p2 h1 q h2 hqa
  refine ⟨by simp [I.len], fun j c e => ?_, Reps.mono sub (fun _ _ _ e => e) _ _ I.pend, I.nd.filter _, fun p hp => I.fresh p (List.mem_filter.mp hp).1, I.st, I.gz, I.fr, I.z0⟩
  by_cases hj : j = i
  · subst hj
    rw [List.getElem?_set_self hil] at e
    cases e
    refine ⟨.ref a, e1, Rep.lst_mk ⟨fun z => ?_, hH⟩ (Reps.mono sub (fun _ _ _ e => e) _ _ rs)⟩
    rcases z with z | ⟨p, hp, e⟩
    · exact (I.fresh _ hm).2.1 z
    · obtain ⟨m1, m2⟩ := List.mem_filter.mp hp
      have := key os I.nd hm p m1 e
      simp [this] at m2
  · rw [List.getElem?_set_ne (Ne.symm hj)] at e
    obtain ⟨u, e2, e3⟩ := I.slot j c e
    exact ⟨u, e2, SlotR.mono sub (fun _ _ _ e => e) (fun b ys m q => ⟨List.mem_filter.mpr ⟨m, by simpa using hj⟩, q⟩) _ _ e3⟩
def sFrz (i : Nat) (t : TSD) : TSD := fun F rho n => ∃ es, rho[i]? = some (some (.own es)) ∧ t F (rho.set i (some (.lst es))) n
theorem psd_frz (i : Nat) (h : PSD A X st t) : PSD A X st (sFrz i t) := by
  with_unfolding_all
    exact PS.imp h fun E sg H q => by
      obtain ⟨rho, n, F, ds, vs, ⟨os, I⟩, ⟨es, hi, ht⟩, ok⟩ := q
      exact ⟨_, n, F, ds, vs, I.freeze hi, ht, ok⟩
end
end L2
set_option maxRecDepth 100000
namespace L2
open PySem PySem.Spec PyProof.Rows
section
variable {A : AC} {X : Cx} {e a b : Expr} {es : List Expr} {te ta tb : TD} {t1 : TAD} {pos : Pos}
def sAppend (i : Nat) (t : TAD) : TSD := fun F rho n => ∃ es, rho[i]? = some (some (.own es)) ∧ es.length < sizeLine ∧ t rho n fun ds n1 => ∃ d, ds = [d] ∧ F.nx (rho.set i (some (.own (es ++ [d])))) n1
theorem psd_append {i : Nat} {x : Str} {px apos cpos : Pos} (ha : PAD A X [e] t1) (hK : X.K = A.K) (hN : X.N[i]? = some x := by rfl) (hv : Vis X.env.scope x := by first | exact Or.inl rfl | exact Or.inr (Or.inl rfl) | exact Or.inr (Or.inr rfl)) (hd : (x == ("__debug__" : Str)) = false := by decide)
    (hcd : (x == ("__classdict__" : Str)) = false := by decide) (hbase : attributeBase (.Name x px) "append" X.env (eval (.Name x px) X.env) = eval (.Name x px) X.env := by rfl)
    (hfew : ((backTo cpos (starEach [e] X.env)).all (fun x => !x.1) && (backToKw cpos (keywordEach [] X.env)).all (fun x => x.1.isSome)
      && decide ([e].length + ([] : List Keyword).length + (if ([] : List Keyword).isEmpty then 0 else 1) < 30)) = true := by rfl)
    (hline : (apos.endLine == cpos.line) = true := by rfl) (hs : starEach [e] X.env = (false, eval e X.env) :: starEach [] X.env := by rfl) (hplain : (backTo cpos (starEach [] X.env)).any (·.1) = false := by rfl)
    (hsw : swapsWith (.Call (.Attribute (.Name x px) "append" apos) [e] [] cpos) none pos.line X.env = pure false := by rfl) :
    PSD A X (.Expr (.Call (.Attribute (.Name x px) "append" apos) [e] [] cpos) pos) (sAppend i t1) := by
  with_unfolding_all
    exact 
      (ps_expr (pe_bm PySem.F.plainAttrs_list PySem.F.slot_list_append PySem.F.type_list_append mt_append (pe_var hN hv hd hcd) ha hbase hfew hline hs hplain) hsw).imp fun E sg H h => by
        obtain ⟨rho, n, F, ds, vs, ⟨os, I⟩, ⟨es, hi, hz, ht⟩, ok⟩ := h
        obtain ⟨a, xs, e1, hH, rs, _⟩ := I.own (es' := es) (xs' := []) hi
        refine ⟨.ref a, e1, .inl ⟨rfl, xs, SqL.of hH⟩, rho, n, _, ds, vs, ⟨os, I⟩, ht, fun ws H' n' fs ⟨os', J⟩ hl k => ?_⟩
        obtain ⟨d, rfl, k⟩ := k
        obtain ⟨J1, rs1⟩ := J.split hl
        obtain ⟨v, rfl, r⟩ := reps1 rs1
        obtain ⟨a', xs', e2, hH', rs', up⟩ := J1.own (es' := es) (xs' := []) hi
        rw [e1] at e2
        cases e2
        exact ⟨a, xs', v, rfl, rfl, hH', by rw [rs'.length]; exact hz, ok.nx _ _ _ _ ⟨os', up _ _ (rs'.append (.cons r .nil))⟩ k⟩
def ownAt (o : Option (Option D)) (p : List D → Prop) : Prop := ∃ es, o = some (some (.own es)) ∧ p es
def dOwnIx (i : Nat) (tb : TD) : TD := fun rho n P => ownAt rho[i]? fun es => tb rho n fun d n1 => ∃ j c, d = .int j ∧ atI es j = some c ∧ P c n1
theorem pd_ownIx {i : Nat} {x : Str} {px : Pos} (hb : PD A X b tb) (hpl : PlainIx b) (hN : X.N[i]? = some x := by rfl) (hv : Vis X.env.scope x := by first | exact Or.inl rfl | exact Or.inr (Or.inl rfl) | exact Or.inr (Or.inr rfl)) (hd : (x == ("__debug__" : Str)) = false := by decide)
    (hcd : (x == ("__classdict__" : Str)) = false := by decide) : PD A X (.Subscript (.Name x px) b pos) (dOwnIx i tb) := by
  with_unfolding_all
    exact 
      (pe_ix ix_list (pe_var hN hv hd hcd) hb hpl).imp fun sg H Q h => by
        obtain ⟨rho, n, P, ds, vs, ⟨os, I⟩, ⟨es, hi, ht⟩, hQ⟩ := h
        obtain ⟨a, xs, e1, hH, rs, _⟩ := I.own (es' := es) (xs' := []) hi
        refine ⟨.ref a, e1, rho, n, _, ds, vs, ⟨os, I⟩, ht, fun v H' n' d ⟨os', J⟩ k => ?_⟩
        obtain ⟨j, c, rfl, hc, k⟩ := k
        obtain ⟨J1, r⟩ := J.pop
        obtain ⟨a', xs', e2, hH', rs', _⟩ := J1.own (es' := es) (xs' := []) hi
        rw [e1] at e2
        cases e2
        obtain ⟨w, e3, rw'⟩ := atI_rep rs' hc
        exact ⟨a, xs', j, w, rfl, r.int_inv, SqL.of hH', e3, hQ w H' n' c ⟨os', J1.push rw'⟩ k⟩
def sOwnSet (i : Nat) (te tb : TD) : TSD := fun F rho n => ownAt rho[i]? fun es => te rho n fun d n1 => tb rho n1 fun d2 n2 => ∃ j m, d2 = .int j ∧ ixN es.length j = some m ∧ F.nx (rho.set i (some (.own (es.set m d)))) n2
def dStIx (i : Nat) (tb : TD) : TD := fun rho n P => rho[i]? = some (some .st) ∧ tb rho n fun d n1 => ∃ j : Int, d = .int j ∧ 0 ≤ j ∧ j < n1 ∧ ∀ z : Int, 0 ≤ z → (j = 1 → z < 2147483647) → P (.int z) n1
theorem ixN_of {n : Nat} {i : Int} (h0 : 0 ≤ i) (h1 : i < n) : ixN n i = some i.toNat := by unfold ixN; rw [if_pos h0, if_pos h1]
theorem pd_stIx {i : Nat} {x : Str} {px : Pos} (hb : PD A X b tb) (hpl : PlainIx b) (hN : X.N[i]? = some x := by rfl) (hv : Vis X.env.scope x := by first | exact Or.inl rfl | exact Or.inr (Or.inl rfl) | exact Or.inr (Or.inr rfl)) (hd : (x == ("__debug__" : Str)) = false := by decide)
    (hcd : (x == ("__classdict__" : Str)) = false := by decide) : PD A X (.Subscript (.Name x px) b pos) (dStIx i tb) := by
  with_unfolding_all
    exact 
      (pe_ix ix_list (pe_var hN hv hd hcd) hb hpl).imp fun sg H Q h => by
        obtain ⟨rho, n, P, ds, vs, ⟨os, I⟩, ⟨hi, ht⟩, hQ⟩ := h
        obtain ⟨v, e1, e2⟩ := I.slot i _ hi
        obtain ⟨a, ha, rfl⟩ : ∃ a, A.G = some a ∧ v = .ref a := by
          have e3 := SlotR.rep (d := .st) rfl e2
          unfold Rep at e3
          exact e3
        refine ⟨.ref a, e1, rho, n, _, ds, vs, ⟨os, I⟩, ht, fun w H' n' d ⟨os', J⟩ k => ?_⟩
        obtain ⟨j, rfl, h0, h3, k⟩ := k
        obtain ⟨J1, r⟩ := J.pop
        obtain ⟨zs, _, _, hH, p1, p2, p3⟩ := J1.st a ha
        obtain ⟨jn, rfl⟩ := Int.eq_ofNat_of_zero_le h0
        have hjl : jn < zs.length := by lia
        have ej : zs[jn]? = some zs[jn] := List.getElem?_eq_getElem hjl
        refine ⟨a, _, (jn : Int), .int zs[jn], rfl, r.int_inv, SqL.of hH, ?_, hQ _ H' n' _ ⟨os', J1.push (Rep.ofS (d := .int zs[jn]) rfl)⟩ (k zs[jn] (p2 _ (List.getElem_mem hjl)) fun e => p3 _ (by rw [← ej]; congr 1; lia))⟩
        unfold atI
        rw [ixN_of (by lia) (by rw [List.length_map]; lia)]
        simp [hjl]
theorem ints_set (zs : List Int) (j : Nat) (z : Int) : (zs.map V.int).set j (.int z) = (zs.set j z).map V.int := by rw [List.map_set]
theorem AmO.setSt {os : List (Nat × Addr)} {n : Nat} {rho : Rho} {sg : St} {H : Hp} {ds : List D} {vs : List V} {a : Addr} {zs : List Int} (I : AmO A os n rho sg H ds vs) (ha : A.G = some a) (h : zs.length = n ∧ (∀ x ∈ zs, 0 ≤ x) ∧ ∀ x, zs[1]? = some x → x < 2147483647) :
    AmO A os n rho sg (upd H a (.lst (zs.map V.int))) ds vs := by
  have za : Zof A os a := .inl (I.gz a ha)
  have hf : ∀ b u, ¬ Zof A os b → H b = some u → upd H a (.lst (zs.map V.int)) b = some u := fun b u nz e => by
    rw [upd_ne fun w => nz (by rw [w]; exact za)]; exact e
  have no : ∀ p ∈ os, p.2 ≠ a := fun p hp e => (I.fresh p hp).2.1 (by rw [e]; exact I.gz a ha)
  refine ⟨I.len, fun j c e => ?_, Reps.mono (fun _ _ w => w) hf _ _ I.pend, I.nd, fun q hq => ?_, fun b e => ?_, I.gz, fun b u h e => ?_, I.z0⟩
  · obtain ⟨u, e1, e2⟩ := I.slot j c e
    exact ⟨u, e1, SlotR.mono (fun _ _ w => w) hf (fun b ys m q => ⟨m, by rw [upd_ne (no _ m)]; exact q⟩) _ _ e2⟩
  · obtain ⟨f1, f2, f3⟩ := I.fresh q hq
    exact ⟨f1, f2, by rw [upd_ne (no q hq)]; exact f3⟩
  · rw [ha] at e
    cases e
    exact ⟨zs, 0, 0, upd_same, h⟩
  · rw [upd_ne fun w => h (by rw [w]; exact ha)]
    exact I.fr b u h e
def sStSet (i : Nat) (te tb : TD) : TSD := fun F rho n => rho[i]? = some (some .st) ∧ te rho n fun d n1 => tb rho n1 fun d2 n2 => ∃ j z : Int, d = .int z ∧ d2 = .int j ∧ 0 ≤ j ∧ j < n2 ∧ 0 ≤ z ∧ (j = 1 → z < 2147483647) ∧ F.nx rho n2
theorem psd_stSet {i : Nat} {x : Str} {px ps : Pos} (he : PD A X e te) (hb : PD A X b tb) (hN : X.N[i]? = some x := by rfl) (hv : Vis X.env.scope x := by first | exact Or.inl rfl | exact Or.inr (Or.inl rfl) | exact Or.inr (Or.inr rfl)) (hd : (x == ("__debug__" : Str)) = false := by decide)
    (hcd : (x == ("__classdict__" : Str)) = false := by decide) (ha : ∀ v, assign (.Subscript (.Name x px) b ps) X.env v = (do
      let ov ← holding [v] (eval (.Name x px) X.env)
      let iv ← holding [v, ov] (eval b X.env)
      standAt ps
      holding [v, ov, iv] (setItem ov iv v)
      release [v, ov, iv] []) := by intro _; rfl) (hs : swapsWithSole [.Subscript (.Name x px) b ps] e pos.line X.env = pure false := by rfl) (hw : swappedStores [.Subscript (.Name x px) b ps] e X.env = pure none := by rfl)
    (h1 : (assignEach [.Subscript (.Name x px) b ps] X.env).map (·.2) = [assign (.Subscript (.Name x px) b ps) X.env] := by rfl) :
    PSD A X (.Assign [.Subscript (.Name x px) b ps] e pos) (sStSet i te tb) := by
  with_unfolding_all
    exact 
      (ps_asg he (pg_sub (pe_var hN hv hd hcd) hb set_list ha) hs hw h1).imp fun E sg H h => by
        obtain ⟨rho, n, F, ds, vs, ⟨os, I⟩, ⟨hi, ht⟩, ok⟩ := h
        obtain ⟨v, e1, e2⟩ := I.slot i _ hi
        obtain ⟨a, hG, rfl⟩ : ∃ a, A.G = some a ∧ v = .ref a := by
          have e3 := SlotR.rep (d := .st) rfl e2
          unfold Rep at e3
          exact e3
        refine ⟨rho, n, _, ds, vs, ⟨os, I⟩, ht, fun v H' n' d J k => ⟨.ref a, e1, rho, n', _, d :: ds, v :: vs, J, k, fun w H2 n2 d2 ⟨os2, J2⟩ k2 => ?_⟩⟩
        obtain ⟨j, z, rfl, rfl, h0, h3, hz, h2, k2⟩ := k2
        obtain ⟨J3, r2⟩ := J2.pop
        obtain ⟨J4, r1⟩ := J3.pop
        obtain ⟨zs, _, _, hH, p1, p2, p3⟩ := J4.st a hG
        rw [r1.int_inv, r2.int_inv]
        obtain ⟨jn, rfl⟩ := Int.eq_ofNat_of_zero_le h0
        have hjl : jn < zs.length := by lia
        refine ⟨a, _, (jn : Int), jn, rfl, rfl, hH, by rw [ixN_of (by lia) (by rw [List.length_map]; lia)]; simp, ?_⟩
        rw [ints_set]
        refine ok.nx _ _ _ _ ⟨os2, J4.setSt hG ⟨by rw [List.length_set]; exact p1, fun x hx => ?_, fun x hx => ?_⟩⟩ k2
        · rcases List.mem_or_eq_of_mem_set hx with hx | rfl
          · exact p2 x hx
          · exact hz
        · by_cases e : jn = 1
          · subst e
            rw [List.getElem?_set_self hjl] at hx
            cases hx
            exact h2 rfl
          · rw [List.getElem?_set_ne e] at hx
            exact p3 x hx
def cutL (es : List D) (lo hi : Option Int) : List D := (es.drop (HT.sIx es.length 0 lo)).take (HT.sIx es.length es.length hi - HT.sIx es.length 0 lo)
def toOf (o : Option Int) : TO := fun _ H Q => Q o H
theorem po_lit0 : PO X none (toOf none) := po_none
theorem po_lit {i : Int} {j : Nat} {p : Pos} : PO X (some (.Constant (.int i) j p)) (toOf (some i)) := fun pins s sg H Q I h => po_some pe_int pins s sg H Q I ⟨i, rfl, h⟩
theorem reps_cut {K : PySem.W.Frag} {G : Option Addr} {Z : Addr → Prop} {H : Hp} {fs : List D} {xs : List V} (h : Reps K G Z H fs xs) (lo hi : Option Int) : Reps K G Z H (cutL fs lo hi) (cutV xs lo hi) := by
  unfold cutL cutV
  rw [h.length]
  exact (h.drop _).take _
def dSlL (lo hi : Option Int) (ta : TD) : TD := fun rho n P => ta rho n fun d n1 => ∃ fs, (d = .lst fs ∨ d = .fz fs) ∧ P (.lst (cutL fs lo hi)) n1
theorem pd_slL {le he : Option Expr} {lo hi : Option Int} {p2 : Pos} (hK : X.K = A.K) (ha : PD A X a ta) (hl : PO X le (toOf lo)) (hh : PO X he (toOf hi)) : PD A X (.Subscript a (.Slice le he none p2) pos) (dSlL lo hi ta) := by
  with_unfolding_all
    exact (pe_slice sl_list ha hl hh).imp fun sg H Q h => by
      obtain ⟨rho, n, P, ds, vs, I, ht, hQ⟩ := h
      refine ⟨rho, n, _, ds, vs, I, ht, fun v H' n' d ⟨os, J⟩ k => ?_⟩
      obtain ⟨fs, hd, k⟩ := k
      obtain ⟨J1, r⟩ := J.pop
      rw [hK]
      rcases hd with rfl | rfl
      · obtain ⟨l, xs, rfl, sq, rs⟩ := r.lst_inv
        exact ⟨l, xs, rfl, sq.sq, fun p hp => hQ _ _ n' _ ⟨os, J1.newLst (reps_cut rs lo hi) hp⟩ k⟩
      · obtain ⟨l, xs, rfl, sq, rs⟩ := r.fz_inv
        exact ⟨l, xs, rfl, sq, fun p hp => hQ _ _ n' _ ⟨os, J1.newLst (reps_cut rs lo hi) hp⟩ k⟩
def enumD (es : List D) : List D := es.zipIdx.map fun p => .tup [.int (p.2 : Nat), p.1]
def iEnumD (t : TAD) : TID := fun rho n P => t rho n fun es n1 => ∃ fs, es = [.lst fs] ∧ P (enumD fs) n1
end
abbrev TF := List D → Nat → (D → Nat → Prop) → Prop
def spD (K : PySem.W.Frag) (k : Nat) (t : TF) : Sp := fun vs H Q _ => ∃ (G : Option Addr) (Z : Addr → Prop) (n : Nat) (P : D → Nat → Prop) (ds : List D), ds.length = k ∧ Reps K G Z H ds vs ∧ StOk G n H ∧ (∀ a, G = some a → Z a) ∧ (∀ a, Z a → H a ≠ none) ∧ t ds n P ∧
  ∀ v H' n' d, (∀ a o, G ≠ some a → H a = some o → H' a = some o) → StOk G n' H' → Rep K G Z H' d v → P d n' → Q v H'
def startD (N : List Str) (ds : List D) : Rho := ds.map some ++ List.replicate (N.length - ds.length) none
theorem amo_start {K : PySem.W.Frag} {G : Option Addr} {Z : Addr → Prop} {H : Hp} {N : List Str} {ds : List D} {vs : List V} {n : Nat} (rs : Reps K G Z H ds vs) (st : StOk G n H) (gz : ∀ a, G = some a → Z a) (z0 : ∀ a, Z a → H a ≠ none) :
    AmO ⟨K, G, Z, H⟩ [] n (startD N ds) (start N vs) H [] [] := by
  have hl := rs.length
  have zz : ∀ a, Zof ⟨K, G, Z, H⟩ [] a → Z a := fun a z => by
    rcases z with z | ⟨p, hp, _⟩
    · exact z
    · simp at hp
  have rs' : Reps K G (Zof ⟨K, G, Z, H⟩ []) H ds vs := Reps.mono (fun a _ z => zz a z) (fun _ _ _ e => e) _ _ rs
  refine ⟨by simp [startD, start, hl], fun i d e => ?_, .nil, .nil, fun p hp => by simp at hp, st, gz, fun a o _ e => e, z0⟩
  unfold startD at e
  by_cases hi : i < ds.length
  · rw [List.getElem?_append_left (by simpa using hi), List.getElem?_map] at e
    cases q : ds[i]? with
    | none => rw [q] at e; cases e
    | some c =>
      rw [q] at e
      cases e
      obtain ⟨v, e1, r⟩ := rs'.get q
      refine ⟨v, ?_, SlotR.of r⟩
      unfold start
      rw [List.getElem?_append_left (by rw [List.length_map, hl]; exact hi), List.getElem?_map, e1]
      rfl
  · rw [List.getElem?_append_right (by simpa using hi), List.getElem?_replicate] at e
    split at e <;> cases e
section
variable {P : Program} {w : World} {K : PySem.W.Frag} {mg : Str → Option Value} {base : Heap}
theorem Fun.okD {x qual : Str} {st : Stmt} {f : Addr} {fd : FuncData} {N ps : List Str} {k : Nat} {t : TF} {tb : TSD} (F : Fun K x qual st f fd) (S : FnScope N ps (defScope st))
    (body : ∀ (cdv : Value) (A0 : Around) (outer : List Env) (s : Shared) (H : Hp) (E : XK) (G : Option Addr) (Z : Addr → Prop), Room k (A0.deeper (envOfC qual (defScope st) s.heap.objs.size f cdv)) →
      PSsD ⟨K, G, Z, H⟩ (cxOf CX0 P w K mg base N qual (defScope st) f cdv A0 outer s H E).nox (defBody st) tb)
    (spec : ∀ ds n Q, ds.length = ps.length → t ds n Q → tb { nx := fun _ n => Q .non n, rt := Q } (startD N ds) n) : FnOk P w K mg base CX0 (k + 1) f fd ps (spD K ps.length t) := by
  with_unfolding_all
    exact (by
      refine F.ok S (fun vs H Q E h => ?_) (fun cdv A0 outer s H vs Q E hr h => ?_)
      · obtain ⟨G, Z, n, R, ds, hl, rs, _⟩ := h
        rw [rs.length]; exact hl
      · obtain ⟨G, Z, n, R, ds, hl, rs, hst, gz, z0, ht, hQ⟩ := h
        refine ⟨_, body cdv A0 outer s H E G Z hr, startD N ds, n, _, [], [], ⟨[], amo_start rs hst gz z0⟩, spec ds n R hl ht, ?_⟩
        have zz : ∀ (os : List (Nat × Addr)) a, Z a → Zof ⟨K, G, Z, H⟩ os a := fun os a z => .inl z
        refine ⟨fun rho' n' sg' H' ⟨os, I⟩ q => ?_, fun d n' v rho' sg' H' ⟨os, I⟩ q => ?_, fun _ _ _ _ _ q => q.elim, fun _ _ _ _ _ q => q.elim⟩
        · exact hQ .non H' n' .non I.fr I.st (Rep.ofS rfl) q
        · exact hQ v H' n' d I.fr I.st (Rep.mono (fun a _ z => zz os a z) (fun _ _ _ e => e) _ _ I.pop.2) q)
end
section
variable {A : AC} {X : Cx} {e : Expr} {es : List Expr} {t1 : TAD} {pos p : Pos}
def dFn (k : Nat) (t : TF) (t1 : TAD) : TD := fun rho n P => t1 rho n fun es n1 => es.length = k ∧ t es n1 P
theorem AmO.called {os : List (Nat × Addr)} {n n' : Nat} {rho : Rho} {sg : St} {H H' : Hp} {ds : List D} {vs : List V} (I : AmO A os n rho sg H ds vs) (fr : ∀ a o, A.G ≠ some a → H a = some o → H' a = some o) (st : StOk A.G n' H') : AmO A os n' rho sg H' ds vs := by
  have hf : ∀ b u, ¬ Zof A os b → H b = some u → H' b = some u := fun b u nz e => fr b u (fun z => nz (.inl (I.gz b z))) e
  have no : ∀ p ∈ os, A.G ≠ some p.2 := fun p hp e => (I.fresh p hp).2.1 (I.gz _ e)
  refine ⟨I.len, fun j c e => ?_, Reps.mono (fun _ _ w => w) hf _ _ I.pend, I.nd, fun q hq => ?_, st, I.gz, fun b u h e => fr b u h (I.fr b u h e), I.z0⟩
  · obtain ⟨u, e1, e2⟩ := I.slot j c e
    exact ⟨u, e1, SlotR.mono (fun _ _ w => w) hf (fun b ys m q => ⟨m, fr _ _ (no _ m) q⟩) _ _ e2⟩
  · obtain ⟨f1, f2, f3⟩ := I.fresh q hq
    refine ⟨f1, f2, ?_⟩
    cases z : H q.2 with
    | none => exact absurd z f3
    | some u => rw [fr _ _ (no q hq) z]; simp
theorem pd_call {x : Str} {f : Addr} {fd : FuncData} {ps : List Str} {t : TF} {kk k : Nat} (F : FnOk X.prog X.w X.K X.mg X.base CX0 kk f fd ps (spD X.K k t)) (hr : Room kk X.A) (hm : X.mg x = some (.ref f)) (hk : PySem.W.keepIn X.K (.ref f) = true) (hb : Binds X.K fd ps []) (hK : X.K = A.K)
    (ha : PAD A X (e :: es) t1) (hg : Gl X x := by rfl) (hdb : (x == ("__debug__" : Str)) = false := by decide) (he : starEach (e :: es) X.env = (false, eval e X.env) :: starEach es X.env := by rfl) (hpl : (backTo pos (starEach es X.env)).any (·.1) = false := by rfl) :
    PD A X (.Call (.Name x p) (e :: es) [] pos) (dFn k t t1) := by
  with_unfolding_all
    exact (pe_call F hr hg hm hk hb .nil pass0 ha hdb he hpl).imp fun sg H Q h => by
      obtain ⟨rho, n, R, ds, vs, I, ht, hQ⟩ := h
      refine ⟨rho, n, _, ds, vs, I, ht, fun ws H' n' es' ⟨os, J⟩ hl k => ?_⟩
      obtain ⟨J1, rs⟩ := J.split hl
      rw [List.append_nil, hK]
      refine ⟨A.G, Zof A os, n', R, es', k.1, rs, J1.st, fun a z => .inl (J1.gz a z), J1.zH, k.2, fun v H2 n2 d fr st r q => hQ v H2 n2 d ⟨os, (J1.called fr st).push r⟩ q⟩
end
end L2
set_option maxRecDepth 100000
namespace L2
open PySem PySem.Spec PyProof.Rows
section
variable {A : AC} {X : Cx} {tg a : Expr} {ta : TD} {pos p : Pos}
def iSeq2 (K : PySem.W.Frag) (tl : TE) : TI := fun sg H R => tl sg H fun x H1 => ∃ l, x = .ref l ∧ (((∃ xs, SqL K H1 l xs) ∧ R (Itl K l) H1) ∨ ((∃ xs, SqT K H1 l xs) ∧ R (Itt K l) H1))
theorem pi_seq2 {l : Expr} {tl : TE} (hl : PE X l tl) : PI X tg l (iSeq2 X.K tl) := by
  intro pins s sg H R I h
  refine thn (hl pins s sg H _ I h) fun v s1 ⟨x, H1, I1, r1, q1⟩ => ?_
  obtain ⟨c, e, q1⟩ := q1
  subst e
  cases r1
  have new : ∀ b ∈ [s1.heap.objs.size], FpOk X pins H1 b := fun b hb => by
    obtain rfl : b = s1.heap.objs.size := by simpa using hb
    exact I1.fpOk (Nat.le_refl _) (I1.hok.fresh (Nat.le_refl _))
  rcases q1 with ⟨⟨xs, hq⟩, q⟩ | ⟨⟨xs, hq⟩, q⟩
  · obtain ⟨its, rv, pl, hz⟩ := I1.list hq
    exact wpAny_pyIter_list pl.isList ⟨s1.heap.objs.size, [s1.heap.objs.size], _, _, H1, rfl, I1.kept (t' := s1.toks) fun b o e => Heap.get?_push_of_some _ e, turn_list c _, ⟨_, Heap.get?_push_size _ rfl, rfl, rfl⟩, new, q⟩
  · obtain ⟨its, rv, pl, hz⟩ := I1.tuple hq
    exact wpAny_pyIter_tuple (show s1.heap.IsTuple c its.toArray from pl) ⟨s1.heap.objs.size, [s1.heap.objs.size], _, _, H1, rfl, I1.kept (t' := s1.toks) fun b o e => Heap.get?_push_of_some _ e, turn_tuple c _, ⟨_, Heap.get?_push_size _ rfl, rfl, rfl⟩, new, q⟩
def iSeqD (ta : TD) : TID := fun rho n P => ta rho n fun d n1 => ∃ es, (d = .lst es ∨ d = .tup es) ∧ P es n1
theorem pid_seq (hK : X.K = A.K) (ha : PD A X a ta) : PID A X tg a (iSeqD ta) := by
  with_unfolding_all
    exact (pi_seq2 ha).imp fun sg H R h => by
      obtain ⟨rho, n, P, ds, vs, I, ht, hQ⟩ := h
      refine ⟨rho, n, _, ds, vs, I, ht, fun v H' n' d ⟨os, J⟩ k => ?_⟩
      obtain ⟨es, hd, k⟩ := k
      have r := J.pop.2
      rw [hK]
      rcases hd with rfl | rfl
      · obtain ⟨l, xs, rfl, sq, rs⟩ := r.lst_inv
        refine ⟨l, rfl, .inl ⟨⟨xs, sq.sq⟩, hQ _ H' n' es [.lst es] [.ref l] ⟨os, J⟩ rfl (fun n2 rho2 sg2 H2 ds2 vs2 i ⟨os2, I2⟩ => ?_) k⟩⟩
        obtain ⟨I3, r2⟩ := AmO.pop (d := .lst es) (v := .ref l) (ds := ds2) (vs := vs2) I2
        obtain ⟨l', xs2, e, sq2, rs2⟩ := r2.lst_inv
        cases e
        refine ⟨fun d e => ?_, fun hi => ⟨xs2, sq2.sq, by rw [rs2.length]; exact hi⟩⟩
        obtain ⟨v, e1, rv⟩ := rs2.get e
        refine ⟨⟨xs2, v, sq2.sq, e1⟩, fun x H3 y => ?_⟩
        obtain ⟨e3, y⟩ := y
        subst e3
        have e4 := y xs2 sq2.sq
        rw [e1] at e4; cases e4
        exact ⟨os2, I2.push rv⟩
      · obtain ⟨l, xs, rfl, sq, rs⟩ := r.tup_inv
        refine ⟨l, rfl, .inr ⟨⟨xs, sq.sq⟩, hQ _ H' n' es [.tup es] [.ref l] ⟨os, J⟩ rfl (fun n2 rho2 sg2 H2 ds2 vs2 i ⟨os2, I2⟩ => ?_) k⟩⟩
        obtain ⟨I3, r2⟩ := AmO.pop (d := .tup es) (v := .ref l) (ds := ds2) (vs := vs2) I2
        obtain ⟨l', xs2, e, sq2, rs2⟩ := r2.tup_inv
        cases e
        refine ⟨fun d e => ?_, fun hi => ⟨xs2, sq2.sq, by rw [rs2.length]; exact hi⟩⟩
        obtain ⟨v, e1, rv⟩ := rs2.get e
        refine ⟨⟨xs2, v, sq2.sq, e1⟩, fun x H3 y => ?_⟩
        obtain ⟨e3, y⟩ := y
        subst e3
        have e4 := y xs2 sq2.sq
        rw [e1] at e4; cases e4
        exact ⟨os2, I2.push rv⟩
end
structure Fn (P : Program) (w : World) (K : PySem.W.Frag) (mg : Str → Option Value) (base : Heap) (x : Str) (kk k : Nat) (t : TF) : Prop where
  ex : ∃ (f : Addr) (fd : FuncData) (ps : List Str), FnOk P w K mg base CX0 kk f fd ps (spD K k t) ∧ mg x = some (.ref f) ∧ PySem.W.keepIn K (.ref f) = true ∧ Binds K fd ps []
theorem pd_fn {A : AC} {X : Cx} {e : Expr} {es : List Expr} {t1 : TAD} {pos p : Pos} {x : Str} {t : TF} {kk k : Nat} (F : Fn X.prog X.w X.K X.mg X.base x kk k t) (hr : Room kk X.A) (hK : X.K = A.K)
    (ha : PAD A X (e :: es) t1) (hg : Gl X x := by rfl) (hdb : (x == ("__debug__" : Str)) = false := by decide) (he : starEach (e :: es) X.env = (false, eval e X.env) :: starEach es X.env := by rfl) (hpl : (backTo pos (starEach es X.env)).any (·.1) = false := by rfl) :
    PD A X (.Call (.Name x p) (e :: es) [] pos) (dFn k t t1) := by
  with_unfolding_all
    exact (by
      obtain ⟨f, fd, ps, h1, h2, h3, h4⟩ := F.ex
      exact pd_call h1 hr h2 h3 h4 hK ha hg hdb he hpl)
structure Blt (mg : Str → Option Value) : Prop where
  len : mg "len" = none
  abs : mg "abs" = none
  all : mg "all" = none
  any : mg "any" = none
  isi : mg "isinstance" = none
  int : mg "int" = none
  bool : mg "bool" = none
  str : mg "str" = none
  tuple : mg "tuple" = none
  list : mg "list" = none
  range : mg "range" = none
  zip : mg "zip" = none
  enum : mg "enumerate" = none
  max : mg "max" = none
  min : mg "min" = none
  sorted : mg "sorted" = none
theorem bt_len : bootBuiltins "len" = some (.builtin "len") := by decide +kernel
theorem bt_all : bootBuiltins "all" = some (.builtin "all") := by decide +kernel
theorem bt_isi : bootBuiltins "isinstance" = some (.builtin "isinstance") := by decide +kernel
theorem bt_int : bootBuiltins "int" = some (.type "int") := by decide +kernel
theorem bt_bool : bootBuiltins "bool" = some (.type "bool") := by decide +kernel
theorem bt_str : bootBuiltins "str" = some (.type "str") := by decide +kernel
theorem bt_tuple : bootBuiltins "tuple" = some (.type "tuple") := by decide +kernel
theorem bt_list : bootBuiltins "list" = some (.type "list") := by decide +kernel
end L2
set_option maxRecDepth 100000
namespace L2
open PySem PySem.Spec PyProof.Rows
def isB (d : D) (p : Bool → Prop) : Prop := ∃ c, d = .bl c ∧ p c
@[simp] theorem q_isB {b : Bool} {p : Bool → Prop} : isB (.bl b) p ↔ p b := ⟨fun ⟨_, e, h⟩ => by cases e; exact h, fun h => ⟨_, rfl, h⟩⟩
@[simp] theorem q_sNext {F rho n} : sNext F rho n = F.nx rho n := rfl
@[simp] theorem q_sSeq {t u F rho n} : sSeq t u F rho n = t { F with nx := u F } rho n := rfl
@[simp] theorem q_sRet {te F rho n} : sRet te F rho n = te rho n F.rt := rfl
@[simp] theorem q_sIf {c t u F rho n} : sIf c t u F rho n = c rho n fun b n1 => if b = true then t F rho n1 else u F rho n1 := rfl
@[simp] theorem q_sSet {i te F rho n} : sSet i te F rho n = (i < rho.length ∧ te rho n fun d n1 => F.nx (rho.set i (some d)) n1) := rfl
@[simp] theorem q_sUnp {te g F rho n} : sUnp te g F rho n = te rho n fun d n1 => g d rho fun rho' => F.nx rho' n1 := rfl
@[simp] theorem q_sOwn {i t F rho n} : sOwn i t F rho n = (i < rho.length ∧ t rho n fun es n1 => es.length ≤ sizeLine ∧ F.nx (rho.set i (some (.own es))) n1) := rfl
@[simp] theorem q_sDrop {te F rho n} : sDrop te F rho n = te rho n fun _ n1 => F.nx rho n1 := rfl
@[simp] theorem q_sFrz {i t F rho n} : sFrz i t F rho n = ∃ es, rho[i]? = some (some (.own es)) ∧ t F (rho.set i (some (.lst es))) n := rfl
@[simp] theorem q_sAppend {i t F rho n} : sAppend i t F rho n = ∃ es, rho[i]? = some (some (.own es)) ∧ es.length < sizeLine ∧ t rho n fun ds n1 => ∃ d, ds = [d] ∧ F.nx (rho.set i (some (.own (es ++ [d])))) n1 := rfl
@[simp] theorem q_gdName {i d rho P} : gdName i d rho P = (i < rho.length ∧ P (rho.set i (some d))) := rfl
@[simp] theorem q_dVar {i rho n P} : dVar i rho n P = atV rho[i]? fun d => P d n := rfl
@[simp] theorem q_atV {d k} : atV (some (some d)) k = atD d k := rfl
@[simp] theorem q_atD1 {k} : atD .non k = k .non := rfl
@[simp] theorem q_atD2 {k b} : atD (.bl b) k = k (.bl b) := rfl
@[simp] theorem q_atD3 {k b} : atD (.int b) k = k (.int b) := rfl
@[simp] theorem q_atD4 {k b} : atD (.str b) k = k (.str b) := rfl
@[simp] theorem q_atD5 {k b} : atD (.tup b) k = k (.tup b) := rfl
@[simp] theorem q_atD6 {k b} : atD (.lst b) k = k (.lst b) := rfl
@[simp] theorem q_atD7 {k b} : atD (.fz b) k = k (.fz b) := rfl
@[simp] theorem q_atD8 {k} : atD .st k = k .st := rfl
@[simp] theorem q_atD9 {k a b} : atD (.dct a b) k = k (.dct a b) := rfl
@[simp] theorem q_atD {d k} (h : notOwn d = true) : atD d k = k d := propext ⟨fun z => (atD_inv z).2, atD_mk h⟩
@[simp] theorem q_dC {d rho n P} : dC d rho n P = P d n := rfl
@[simp] theorem q_dOp {rd ta tb rho n P} : dOp rd ta tb rho n P = ta rho n fun d1 n1 => tb rho n1 fun d2 n2 => rd d1 d2 fun d => P d n2 := rfl
@[simp] theorem q_dTest {t rho n P} : dTest t rho n P = t rho n fun d n' => isB d fun b => P b n' := rfl
@[simp] theorem q_rdIsN {d1 d2 k} : rdIsN d1 d2 k = (d2 = .non ∧ k (.bl (isNon d1))) := rfl
@[simp] theorem q_rdNotN {d1 d2 k} : rdNotN d1 d2 k = (d2 = .non ∧ k (.bl (!isNon d1))) := rfl
@[simp] theorem q_bAnd {t u rho n P} : bAnd t u rho n P = t rho n fun c n1 => if c = true then u rho n1 P else P false n1 := rfl
@[simp] theorem q_bOr {t u rho n P} : bOr t u rho n P = t rho n fun c n1 => if c = true then P true n1 else u rho n1 P := rfl
@[simp] theorem q_bNot {t rho n P} : bNot t rho n P = t rho n fun c n1 => P (!c) n1 := rfl
@[simp] theorem q_bYes {rho n P} : bYes rho n P = P true n := rfl
@[simp] theorem q_dAnd {ta tb rho n P} : dAnd ta tb rho n P = ta rho n fun d n1 => isB d fun c => if c = true then tb rho n1 P else P (.bl false) n1 := rfl
@[simp] theorem q_dOr {ta tb rho n P} : dOr ta tb rho n P = ta rho n fun d n1 => isB d fun c => if c = true then P (.bl true) n1 else tb rho n1 P := rfl
@[simp] theorem q_dNot {ta rho n P} : dNot ta rho n P = ta rho n fun d n1 => isB d fun c => P (.bl (!c)) n1 := rfl
@[simp] theorem q_dIf {t ta tb rho n P} : dIf t ta tb rho n P = t rho n fun c n1 => if c = true then ta rho n1 P else tb rho n1 P := rfl
@[simp] theorem q_aNil {rho n P} : aNil rho n P = P [] n := rfl
@[simp] theorem q_aCons {t r rho n P} : aCons t r rho n P = t rho n fun d n1 => r rho n1 fun ds n2 => P (d :: ds) n2 := rfl
@[simp] theorem q_dTup {t rho n P} : dTup t rho n P = t rho n fun ds n1 => ds.length ≤ sizeLine ∧ P (.tup ds) n1 := rfl
@[simp] theorem q_dLst {t rho n P} : dLst t rho n P = t rho n fun ds n1 => ds.length ≤ sizeLine ∧ P (.lst ds) n1 := rfl
@[simp] theorem q_dCall {rd t rho n P} : dCall rd t rho n P = t rho n fun es n1 => rd es fun d => P d n1 := rfl
@[simp] theorem q_dFn {k t t1 rho n P} : dFn k t t1 rho n P = t1 rho n fun es n1 => es.length = k ∧ t es n1 P := rfl
@[simp] theorem q_iSeqD {ta rho n P} : iSeqD ta rho n P = ta rho n fun d n1 => ∃ es, (d = .lst es ∨ d = .tup es) ∧ P es n1 := rfl
@[simp] theorem q_iRngD {t rho n P} : iRngD t rho n P = t rho n fun es n1 => ∃ j : Int, es = [.int j] ∧ -(2 ^ 62) ≤ j ∧ j < 2 ^ 62 ∧ P (rngD 0 j.toNat) n1 := rfl
@[simp] theorem q_iEnumD {t rho n P} : iEnumD t rho n P = t rho n fun es n1 => ∃ fs, es = [.lst fs] ∧ P (enumD fs) n1 := rfl
@[simp] theorem q_dSlL {lo hi ta rho n P} : dSlL lo hi ta rho n P = ta rho n fun d n1 => ∃ fs, (d = .lst fs ∨ d = .fz fs) ∧ P (.lst (cutL fs lo hi)) n1 := rfl
@[simp] theorem q_gdNil {rho P} : gdNil [] rho P ↔ P rho := ⟨fun h => h.2, fun h => ⟨rfl, h⟩⟩
@[simp] theorem q_gdCons {g gs d r rho P} : gdCons g gs (d :: r) rho P ↔ g d rho fun rho' => gs r rho' P := ⟨fun ⟨_, _, e, h⟩ => by cases e; exact h, fun h => ⟨_, _, rfl, h⟩⟩
@[simp] theorem q_gdTup {k gs es rho P} : gdTup k gs (.tup es) rho P ↔ (es.length = k ∧ gs es rho P) := ⟨fun ⟨_, e, h⟩ => by cases e; exact h, fun h => ⟨_, rfl, h⟩⟩
@[simp] theorem q_rdI {C g i j k} : rdI C g (.int i) (.int j) k = (C i j ∧ k (g i j)) := rfl
@[simp] theorem q_rdI0 {g i j k} : rdI0 g (.int i) (.int j) k = k (g i j) := rfl
@[simp] theorem q_rdB {f c d k} : rdB f (.bl c) (.bl d) k = k (.bl (f c d)) := rfl
@[simp] theorem q_rdIxL {es i k} : rdIx (.lst es) (.int i) k ↔ ∃ d, atI es i = some d ∧ k d := ⟨fun ⟨_, _, d, e, e', h⟩ => by cases e' ; rcases e with e | e | e <;> cases e; exact ⟨d, h⟩, fun ⟨d, h⟩ => ⟨_, _, d, .inl rfl, rfl, h⟩⟩
@[simp] theorem q_rdIxT {es i k} : rdIx (.tup es) (.int i) k ↔ ∃ d, atI es i = some d ∧ k d := ⟨fun ⟨_, _, d, e, e', h⟩ => by cases e' ; rcases e with e | e | e <;> cases e; exact ⟨d, h⟩, fun ⟨d, h⟩ => ⟨_, _, d, .inr (.inl rfl), rfl, h⟩⟩
@[simp] theorem q_rdIxF {es i k} : rdIx (.fz es) (.int i) k ↔ ∃ d, atI es i = some d ∧ k d := ⟨fun ⟨_, _, d, e, e', h⟩ => by cases e' ; rcases e with e | e | e <;> cases e; exact ⟨d, h⟩, fun ⟨d, h⟩ => ⟨_, _, d, .inr (.inr rfl), rfl, h⟩⟩
@[simp] theorem q_rdCat {es fs k} : rdCat (.lst es) (.lst fs) k ↔ (es.length + fs.length ≤ sizeLine ∧ k (.lst (es ++ fs))) := ⟨fun ⟨_, _, e, e', h⟩ => by cases e; cases e'; exact h, fun h => ⟨_, _, rfl, rfl, h⟩⟩
@[simp] theorem q_rdRepT {es i k} : rdRepT (.tup es) (.int i) k ↔ (es ≠ [] ∧ 1 ≤ i ∧ es.length * i.toNat ≤ sizeLine ∧ k (.tup (List.replicate i.toNat es).flatten)) := ⟨fun ⟨_, _, e, e', h⟩ => by cases e; cases e'; exact h, fun h => ⟨_, _, rfl, rfl, h⟩⟩
def pair2 (es : List D) (p : D → D → Prop) : Prop := ∃ d d', es = [d, d'] ∧ p d d'
@[simp] theorem q_pair2 {a b p} : pair2 [a, b] p ↔ p a b := ⟨fun ⟨_, _, e, h⟩ => by cases e; exact h, fun h => ⟨_, _, rfl, h⟩⟩
@[simp] theorem q_sPar {i j t F rho n} : sPar i j t F rho n = (i < rho.length ∧ j < rho.length ∧ t rho n fun es n1 => pair2 es fun d d' => F.nx ((rho.set i (some d)).set j (some d')) n1) := rfl
@[simp] theorem q_rdEqI {i j : Int} {k} : rdEq (.int i) (.int j) k ↔ k (.bl (decide (i = j))) := by
  have e : decide (ofS (.int i) = ofS (.int j)) = decide (i = j) := by simp [ofS]
  unfold rdEq
  rw [e]
  exact ⟨fun h => h.2.2.2, fun h => ⟨rfl, rfl, rfl, h⟩⟩
@[simp] theorem q_rdEqB {i j : Bool} {k} : rdEq (.bl i) (.bl j) k ↔ k (.bl (decide (i = j))) := by
  have e : decide (ofS (.bl i) = ofS (.bl j)) = decide (i = j) := by simp [ofS]
  unfold rdEq
  rw [e]
  exact ⟨fun h => h.2.2.2, fun h => ⟨rfl, rfl, rfl, h⟩⟩
@[simp] theorem q_rdNeI {i j : Int} {k} : rdNe (.int i) (.int j) k ↔ k (.bl (!decide (i = j))) := by
  have e : decide (ofS (.int i) = ofS (.int j)) = decide (i = j) := by simp [ofS]
  unfold rdNe
  rw [e]
  exact ⟨fun h => h.2.2.2, fun h => ⟨rfl, rfl, rfl, h⟩⟩
@[simp] theorem q_rdNeB {i j : Bool} {k} : rdNe (.bl i) (.bl j) k ↔ k (.bl (!decide (i = j))) := by
  have e : decide (ofS (.bl i) = ofS (.bl j)) = decide (i = j) := by simp [ofS]
  unfold rdNe
  rw [e]
  exact ⟨fun h => h.2.2.2, fun h => ⟨rfl, rfl, rfl, h⟩⟩
@[simp] theorem q_kLenL {fs k} : kLen [.lst fs] k ↔ k (.int fs.length) := ⟨fun ⟨_, e, h⟩ => by rcases e with e | e | e <;> cases e; exact h, fun h => ⟨_, .inl rfl, h⟩⟩
@[simp] theorem q_kLenT {fs k} : kLen [.tup fs] k ↔ k (.int fs.length) := ⟨fun ⟨_, e, h⟩ => by rcases e with e | e | e <;> cases e; exact h, fun h => ⟨_, .inr (.inl rfl), h⟩⟩
@[simp] theorem q_kLenF {fs k} : kLen [.fz fs] k ↔ k (.int fs.length) := ⟨fun ⟨_, e, h⟩ => by rcases e with e | e | e <;> cases e; exact h, fun h => ⟨_, .inr (.inr rfl), h⟩⟩
@[simp] theorem q_kAbs {i k} : kAbs [.int i] k ↔ k (.int (if i < 0 then -i else i)) := ⟨fun ⟨_, e, h⟩ => by cases e; exact h, fun h => ⟨_, rfl, h⟩⟩
@[simp] theorem q_kIntB {i k} : kIntB [.bl i] k ↔ k (.int (if i then 1 else 0)) := ⟨fun ⟨_, e, h⟩ => by cases e; exact h, fun h => ⟨_, rfl, h⟩⟩
@[simp] theorem q_kTupleL {fs k} : kTuple [.lst fs] k ↔ k (.tup fs) := ⟨fun ⟨_, e, h⟩ => by rcases e with e | e <;> cases e; exact h, fun h => ⟨_, .inl rfl, h⟩⟩
@[simp] theorem q_kTupleT {fs k} : kTuple [.tup fs] k ↔ k (.tup fs) := ⟨fun ⟨_, e, h⟩ => by rcases e with e | e <;> cases e; exact h, fun h => ⟨_, .inr rfl, h⟩⟩
@[simp] theorem q_kListL {fs k} : kList [.lst fs] k ↔ k (.lst fs) := ⟨fun ⟨_, e, h⟩ => by rcases e with e | e <;> cases e; exact h, fun h => ⟨_, .inl rfl, h⟩⟩
@[simp] theorem q_kListT {fs k} : kList [.tup fs] k ↔ k (.lst fs) := ⟨fun ⟨_, e, h⟩ => by rcases e with e | e <;> cases e; exact h, fun h => ⟨_, .inr rfl, h⟩⟩
@[simp] theorem q_dStIx {i tb rho n P} : dStIx i tb rho n P = (rho[i]? = some (some .st) ∧ tb rho n fun d n1 => ∃ j : Int, d = .int j ∧ 0 ≤ j ∧ j < n1 ∧ ∀ z : Int, 0 ≤ z → (j = 1 → z < 2147483647) → P (.int z) n1) := rfl
@[simp] theorem q_sStSet {i te tb F rho n} : sStSet i te tb F rho n = (rho[i]? = some (some .st) ∧ te rho n fun d n1 => tb rho n1 fun d2 n2 => ∃ j z : Int, d = .int z ∧ d2 = .int j ∧ 0 ≤ j ∧ j < n2 ∧ 0 ≤ z ∧ (j = 1 → z < 2147483647) ∧ F.nx rho n2) := rfl
@[simp] theorem q_no1 : notOwn .non = true := rfl
@[simp] theorem q_no2 {b} : notOwn (.bl b) = true := rfl
@[simp] theorem q_no3 {b} : notOwn (.int b) = true := rfl
@[simp] theorem q_no4 {b} : notOwn (.str b) = true := rfl
@[simp] theorem q_no5 {b} : notOwn (.tup b) = true := rfl
@[simp] theorem q_no6 {b} : notOwn (.lst b) = true := rfl
@[simp] theorem q_no7 : notOwn .st = true := rfl
@[simp] theorem q_no8 {b} : notOwn (.fz b) = true := rfl
@[simp] theorem q_in1 : isNon .non = true := rfl
@[simp] theorem q_in2 {b} : isNon (.bl b) = false := rfl
@[simp] theorem q_in3 {b} : isNon (.int b) = false := rfl
@[simp] theorem q_in4 {b} : isNon (.str b) = false := rfl
@[simp] theorem q_in5 {b} : isNon (.tup b) = false := rfl
@[simp] theorem q_in6 {b} : isNon (.lst b) = false := rfl
@[simp] theorem q_so1 {b} : seqOf (.lst b) = some (true, b) := rfl
@[simp] theorem q_so2 {b} : seqOf (.tup b) = some (false, b) := rfl
@[simp] theorem q_size0 : (0 ≤ sizeLine) = True := by simp
@[simp] theorem q_size1 : (1 ≤ sizeLine) = True := by simp [sizeLine]
@[simp] theorem q_size2 : (2 ≤ sizeLine) = True := by simp [sizeLine]
@[simp] theorem q_size3 : (3 ≤ sizeLine) = True := by simp [sizeLine]
@[simp] theorem q_size4 : (4 ≤ sizeLine) = True := by simp [sizeLine]
@[simp] theorem q_size5 : (5 ≤ sizeLine) = True := by simp [sizeLine]
@[simp] theorem q_size6 : (6 ≤ sizeLine) = True := by simp [sizeLine]
@[simp] theorem q_size7 : (7 ≤ sizeLine) = True := by simp [sizeLine]
theorem le_size {k : Nat} (h : k ≤ 1000 := by decide) : k ≤ sizeLine := Nat.le_trans h (by decide)
theorem lt_size {k : Nat} (h : k ≤ 1000 := by decide) : k < sizeLine := Nat.lt_of_le_of_lt h (by decide)
def compIn (own : Nat) (g : TGD) (tt : TBD) (te : TD) (rho : Rho) (P : D → Nat → Prop) (items : List D) (n1 : Nat) : Prop := items.length ≤ sizeLine ∧ ∃ J : Nat → List D → Nat → Prop, J 0 [] n1 ∧
  (∀ i d acc n, items[i]? = some d → J i acc n → g d (List.replicate own none ++ rho) fun rho' => rho'.drop own = rho ∧ tt rho' n fun c n2 => if c = true then te rho' n2 fun e n3 => J (i + 1) (acc ++ [e]) n3 else J (i + 1) acc n2) ∧
  ∀ acc n, J items.length acc n → P (.lst acc) n
@[simp] theorem q_dComp {it own g tt te rho n P} : dComp it own g tt te rho n P = it rho n (compIn own g tt te rho P) := rfl
def loopIn (g : TGD) (tb : TSD) (F : EndsD) (rho : Rho) (items : List D) (n1 : Nat) : Prop := ∃ J : Nat → Rho → Nat → Prop, J 0 rho n1 ∧
  (∀ i d rho n, items[i]? = some d → J i rho n → g d rho fun rho' => tb { F with nx := J (i + 1), ct := J (i + 1), bk := F.nx } rho' n) ∧ ∀ rho n, J items.length rho n → F.nx rho n
@[simp] theorem q_sFor {it g tb F rho n} : sFor it g tb F rho n = it rho n (loopIn g tb F rho) := rfl
theorem comp_map {it : TID} {own : Nat} {g : TGD} {te : TD} {rho : Rho} {n : Nat} {P : D → Nat → Prop} {α : Type} (enc : α → D) (f : α → D) (xs : List α)
    (hi : ∀ R, R (xs.map enc) n → it rho n R) (hz : xs.length ≤ sizeLine) (he : ∀ x ∈ xs, ∀ Q, Q (f x) n → g (enc x) (List.replicate own none ++ rho) fun rho' => rho'.drop own = rho ∧ te rho' n Q) (hP : P (.lst (xs.map f)) n) : dComp it own g bYes te rho n P := by
  refine hi _ ⟨by simpa using hz, fun i acc n' => n' = n ∧ acc = (xs.take i).map f, ⟨rfl, rfl⟩, ?_, ?_⟩
  · rintro i d acc n' e ⟨rfl, rfl⟩
    rw [List.getElem?_map] at e
    cases q : xs[i]? with
    | none => rw [q] at e; cases e
    | some x =>
      rw [q] at e
      cases e
      have hm : x ∈ xs := List.mem_of_getElem? q
      refine he x hm (fun e n3 => n3 = n' ∧ (xs.take i).map f ++ [e] = (xs.take (i + 1)).map f) ⟨rfl, ?_⟩
      rw [List.take_add_one, q]
      simp
  · rintro acc n' ⟨rfl, rfl⟩
    rw [List.length_map, List.take_length]
    exact hP
end L2
namespace L2
open PySem PySem.Spec PyProof.Rows
theorem atI_lt {α : Type} {xs : List α} {i : Int} (h0 : 0 ≤ i) (h1 : i < xs.length) : ∃ d, atI xs i = some d ∧ d ∈ xs := by
  obtain ⟨k, rfl⟩ := Int.eq_ofNat_of_zero_le h0
  have hk : k < xs.length := by lia
  exact ⟨xs[k], atI_nat (by simp [hk]), List.getElem_mem hk⟩
@[simp] theorem q_at0 {α : Type} {a : α} {l : List α} : atI (a :: l) 0 = some a := atI_nat (j := 0) rfl
@[simp] theorem q_at1 {α : Type} {a b : α} {l : List α} : atI (a :: b :: l) 1 = some b := atI_nat (j := 1) rfl
@[simp] theorem q_at2 {α : Type} {a b c : α} {l : List α} : atI (a :: b :: c :: l) 2 = some c := atI_nat (j := 2) rfl
@[simp] theorem q_ownAt {es p} : ownAt (some (some (.own es))) p ↔ p es := ⟨fun ⟨_, e, h⟩ => by cases e; exact h, fun h => ⟨_, rfl, h⟩⟩
@[simp] theorem q_dOwnIx {i tb rho n P} : dOwnIx i tb rho n P = ownAt rho[i]? fun es => tb rho n fun d n1 => ∃ j c, d = .int j ∧ atI es j = some c ∧ P c n1 := rfl
@[simp] theorem q_sOwnSet {i te tb F rho n} : sOwnSet i te tb F rho n = ownAt rho[i]? fun es => te rho n fun d n1 => tb rho n1 fun d2 n2 => ∃ j m, d2 = .int j ∧ ixN es.length j = some m ∧ F.nx (rho.set i (some (.own (es.set m d)))) n2 := rfl
@[simp] theorem q_ix30 : ixN 3 0 = some 0 := rfl
@[simp] theorem q_ix31 : ixN 3 1 = some 1 := rfl
@[simp] theorem q_ix32 : ixN 3 2 = some 2 := rfl
end L2
set_option maxRecDepth 100000
namespace L2
open PySem PySem.Spec PyProof.Rows
def spLawD (K : PySem.W.Frag) : Sp := fun vs H Q _ => ∃ (a : Addr) (ns : List Int), vs = [.ref a] ∧ Only H ∧ SqL K H a (ns.map V.int) ∧ ns.length ≤ 63 ∧ ∀ H', Q (.bl true) H'
def scriptD (ns : List Int) : D := .fz (ns.map D.int)
def onlyRho (ns : List Int) (N : Nat) : Rho := some (scriptD ns) :: List.replicate (N - 1) none
def midRho (ns : List Int) (i N : Nat) : Rho := (onlyRho ns N).set i (some .st)
theorem reps_ints {K : PySem.W.Frag} {G : Option Addr} {Z : Addr → Prop} {H : Hp} : ∀ {ns : List Int}, Reps K G Z H (ns.map D.int) (ns.map V.int)
  | [] => .nil
  | n :: ns => .cons (Rep.ofS (d := .int n) rfl) reps_ints
theorem reps_ints_inv {K : PySem.W.Frag} {G : Option Addr} {Z : Addr → Prop} {H : Hp} : ∀ {ns : List Int} {xs : List V}, Reps K G Z H (ns.map D.int) xs → xs = ns.map V.int
  | [], xs, h => by unfold Reps at h; exact h
  | n :: ns, xs, h => by
    obtain ⟨v, r, rfl, h1, h2⟩ := Reps.split h
    rw [h1.int_inv, reps_ints_inv h2]; rfl
section
variable {P : Program} {w : World} {K : PySem.W.Frag} {mg : Str → Option Value} {base : Heap}
theorem Fun.okLaw {x qual : Str} {st : Stmt} {f : Addr} {fd : FuncData} {N : List Str} {p : Str} {k : Nat} {t : TSD} (F : Fun K x qual st f fd) (S : FnScope N [p] (defScope st)) (n0 : Nat)
    (body : ∀ (cdv : Value) (A0 : Around) (outer : List Env) (s : Shared) (H : Hp) (E : XK), Room k (A0.deeper (envOfC qual (defScope st) s.heap.objs.size f cdv)) →
      PSsD ⟨K, none, fun _ => False, H⟩ (cxOf CX0 P w K mg base N qual (defScope st) f cdv A0 outer s H E).nox (defBody st) t)
    (h1 : ∀ (ns : List Int), ns.length ≤ 63 → t { nx := fun _ _ => False, rt := fun d _ => d = .bl true } (startD N [scriptD ns]) n0) : FnOk P w K mg base CX0 (k + 1) f fd [p] (spLawD K) := by
  with_unfolding_all
    exact (by
      refine F.ok S (fun vs H Q E h => ?_) (fun cdv A0 outer s H vs Q E hr h => ?_)
      · obtain ⟨a, ns, rfl, _⟩ := h
        rfl
      · obtain ⟨a, ns, rfl, hO, hS, hl, k⟩ := h
        refine ⟨_, body cdv A0 outer s H E hr, ?_⟩
        have rs : Reps K none (fun _ => False) H [scriptD ns] [.ref a] := by
          refine .cons ?_ .nil
          unfold scriptD Rep
          refine ⟨a, ns.map V.int, rfl, ?_, reps_ints⟩
          rcases hS with (q | ⟨o, q⟩) | q
          · rcases hO a with z | ⟨o, xs, z⟩
            · rw [z] at q; cases q
            · rw [z] at q; cases q
          · exact .inl ⟨fun z => z, o, q⟩
          · exact .inr (.inr q)
        refine ⟨startD N [scriptD ns], n0, _, [], [], ⟨[], amo_start rs (fun b e => by cases e) (fun b e => by cases e) (fun b e => e.elim)⟩, h1 ns hl, ?_⟩
        refine ⟨fun _ _ _ _ _ q => q.elim, fun d n v rho2 sg2 H2 ⟨os2, I2⟩ q => ?_, fun _ _ _ _ _ q => q.elim, fun _ _ _ _ _ q => q.elim⟩
        subst q
        rw [I2.pop.2.bl_inv]
        exact k H2)
end
def sNew (i : Nat) (t : TF) (t1 : TAD) (t2 : TSD) : TSD := fun F rho n => ∃ ns : List Int, i < rho.length ∧ i ≠ 0 ∧ rho[0]? = some (some (scriptD ns)) ∧ t1 rho n fun es n1 => ∃ j : Int, es = [scriptD ns, .int j] ∧ n1 = n ∧ t es n fun d n2 => ∃ zs : List Int, d = .lst (zs.map D.int) ∧ zs.length = n ∧ (∀ x ∈ zs, 0 ≤ x) ∧ (∀ x, zs[1]? = some x → x < 2147483647) ∧
  t2 { nx := fun rho' n' => n' = n ∧ rho'.length = rho.length ∧ rho'[0]? = some (some (scriptD ns)) ∧ F.nx (onlyRho ns rho.length) n, rt := fun d n' => n' = n ∧ scalD d = true ∧ F.rt d n, bk := fun rho' n' => n' = n ∧ rho'.length = rho.length ∧ rho'[0]? = some (some (scriptD ns)) ∧ F.bk (onlyRho ns rho.length) n, ct := fun rho' n' => n' = n ∧ rho'.length = rho.length ∧ rho'[0]? = some (some (scriptD ns)) ∧ F.ct (onlyRho ns rho.length) n } (midRho ns i rho.length) n
@[simp] theorem q_noScript {ns : List Int} : notOwn (scriptD ns) = true := rfl
@[simp] theorem q_lenScript {ns : List Int} {k : D → Prop} : kLen [scriptD ns] k ↔ k (.int ns.length) := by unfold scriptD; simp
theorem new_intro {i : Nat} {t : TF} {t1 : TAD} {t2 : TSD} {F : EndsD} {rho : Rho} {n : Nat} (ns : List Int) (hi : i < rho.length) (h0 : i ≠ 0) (hr : rho[0]? = some (some (scriptD ns))) (j : Int) (ht : t1 rho n fun es n1 => es = [scriptD ns, .int j] ∧ n1 = n)
    (ht1 : ∀ (P P' : List D → Nat → Prop), (∀ es n1, P es n1 → P' es n1) → t1 rho n P → t1 rho n P')
    (h : t [scriptD ns, .int j] n fun d n2 => ∃ zs : List Int, d = .lst (zs.map D.int) ∧ zs.length = n ∧ (∀ x ∈ zs, 0 ≤ x) ∧ (∀ x, zs[1]? = some x → x < 2147483647) ∧
      t2 { nx := fun rho' n' => n' = n ∧ rho'.length = rho.length ∧ rho'[0]? = some (some (scriptD ns)) ∧ F.nx (onlyRho ns rho.length) n, rt := fun d n' => n' = n ∧ scalD d = true ∧ F.rt d n, bk := fun rho' n' => n' = n ∧ rho'.length = rho.length ∧ rho'[0]? = some (some (scriptD ns)) ∧ F.bk (onlyRho ns rho.length) n, ct := fun rho' n' => n' = n ∧ rho'.length = rho.length ∧ rho'[0]? = some (some (scriptD ns)) ∧ F.ct (onlyRho ns rho.length) n } (midRho ns i rho.length) n) : sNew i t t1 t2 F rho n :=
  ⟨ns, hi, h0, hr, ht1 _ _ (fun es n1 ⟨e1, e2⟩ => ⟨j, e1, e2, by rw [e1]; exact h⟩) ht⟩
section
variable {A : AC} {X : Cx} {e : Expr} {es : List Expr} {t1 : TAD} {t2 : TSD} {pos p : Pos}
theorem rep_script {K : PySem.W.Frag} {G G' : Option Addr} {Z Z' : Addr → Prop} {H H' : Hp} {ns : List Int} {v : V} (h : Rep K G Z H (scriptD ns) v) (hz : ∀ a o u, ¬ Z a → H a = some (.frz o u) → ¬ Z' a ∧ H' a = some (.frz o u)) : Rep K G' Z' H' (scriptD ns) v := by
  unfold scriptD Rep at h ⊢
  obtain ⟨a, xs, rfl, sq, rs⟩ := h
  refine ⟨a, xs, rfl, ?_, by rw [reps_ints_inv rs]; exact reps_ints⟩
  rcases sq with ⟨nz, o, e⟩ | sq
  · obtain ⟨z1, z2⟩ := hz a o _ nz e
    exact .inl ⟨z1, o, z2⟩
  · exact .inr sq
theorem pssd_new {x g : Str} {i : Nat} {t : TF} {kk : Nat} {pos' spos : Pos} {rest : List Stmt} (hG : A.G = none) (hN : X.N.Nodup) (hi : X.N[i]? = some x) (hx : Loc X.env.scope x) (F : Fn X.prog X.w X.K X.mg X.base g kk 2 t) (hr : Room kk X.A) (hK : X.K = A.K)
    (ha : PAD A X (e :: es) t1) (h2 : ∀ (c : Addr) (Z : Addr → Prop) (H0 : Hp), PSsD ⟨A.K, some c, Z, H0⟩ X rest t2) (hg : Gl X g := by rfl) (hdb : (g == ("__debug__" : Str)) = false := by decide) (he : starEach (e :: es) X.env = (false, eval e X.env) :: starEach es X.env := by rfl) (hpl : (backTo pos (starEach es X.env)).any (·.1) = false := by rfl)
    (hs : swapsWith (.Call (.Name g p) (e :: es) [] pos) (some (.Name x pos')) spos.line X.env = pure false := by rfl) (hf : X.fn x = true ∨ X.env.scope.names.lookup x = some .local := by first | exact .inl rfl | exact .inr rfl | assumption) :
    PSsD A X (.Assign [.Name x pos'] (.Call (.Name g p) (e :: es) [] pos) spos :: rest) (sNew i t t1 t2) := by
  with_unfolding_all
    exact (by
      obtain ⟨f, fd, ps, f1, f2, f3, f4⟩ := F.ex
      have c1 := ps_set (pos := spos) hN hi hx (pe_call (p := p) f1 hr hg f2 f3 f4 .nil pass0 ha hdb he hpl) hs hf
      have c2 : PSs X rest (fun E' sg' H' => ∃ c Z H0, sOf ⟨A.K, some c, Z, H0⟩ t2 E' sg' H') := fun pins s' sg' H' D I q => by
        obtain ⟨c, Z, H0, q⟩ := q
        exact h2 c Z H0 pins s' sg' H' D I q
      refine (pss_cons c1 c2).imp fun E sg H h => ?_
      obtain ⟨rho, n, F, ds, vs, I, ⟨ns, hi', h0, hr0, ht⟩, ok⟩ := h
      refine ⟨rho, n, _, ds, vs, I, ht, fun ws H' n' es' ⟨os', J⟩ hl k => ?_⟩
      obtain ⟨j, rfl, rfl, k⟩ := k
      obtain ⟨J1, rs⟩ := J.split hl
      obtain ⟨v1, v2, rfl, r1, r2⟩ := reps2 rs
      have r1' : Rep A.K none (fun a => H' a ≠ none ∧ ¬ ∃ o u, H' a = some (.frz o u)) H' (scriptD ns) v1 := rep_script r1 fun a o u _ e => ⟨fun z => z.2 ⟨o, u, e⟩, e⟩
      have r2' : Rep A.K none (fun a => H' a ≠ none ∧ ¬ ∃ o u, H' a = some (.frz o u)) H' (.int j) v2 := by rw [r2.int_inv]; exact Rep.ofS (d := .int j) rfl
      rw [List.append_nil, hK]
      refine ⟨none, fun a => H' a ≠ none ∧ ¬ ∃ o u, H' a = some (.frz o u), n', _, _, rfl, .cons r1' (.cons r2' .nil), fun b e => (by cases e), fun b e => (by cases e), fun b z => z.1, k, fun v H2 n2 d fr st r q => ?_⟩
      obtain ⟨zs, rfl, q1, q2, q3, q⟩ := q
      obtain ⟨c, xs, rfl, sq, rr⟩ := r.lst_inv
      rw [reps_ints_inv rr] at sq
      have hc : H' c = none := by
        cases z : H' c with
        | none => rfl
        | some o =>
          have z2 := fr c o (by simp) z
          rw [sq.2] at z2
          cases z2
          exact absurd ⟨by rw [z]; simp, fun ⟨o, u, z3⟩ => by rw [z] at z3; cases z3⟩ sq.1
      have ne : ∀ {a : Addr} {o : HO}, H' a = some o → a ≠ c := fun {a o} e h => by rw [h, hc] at e; cases e
      have back : ∀ {os : List (Nat × Addr)} {rho' rho2 : Rho} {sg' : St} {H3 : Hp} {ds3 : List D} {vs3 : List V}, AmO ⟨A.K, some c, fun b => Zof A os' b ∨ b = c, H2⟩ os n' rho' sg' H3 ds3 vs3 → rho2.length = sg'.length → (∀ j d, rho2[j]? = some (some d) → ∃ v, sg'[j]? = some (some v) ∧ Rep A.K A.G (Zof A []) H3 d v) → AmO A [] n' rho2 sg' H3 ds vs := fun {os rho' rho2 sg' H3 ds3 vs3} I3 hl2 hs2 => by
        have keep : ∀ a o, H' a = some o → H3 a = some o := fun a o e => I3.fr a o (fun z => ne e (Option.some.inj z).symm) (fr a o (by simp) e)
        refine ⟨hl2, fun j d e => ?_, ?_, .nil, fun p hp => (by simp at hp), fun b e => (by rw [hG] at e; cases e), J1.gz, fun a o z e => keep a o (J1.fr a o z e), J1.z0⟩
        · obtain ⟨v, e1, e2⟩ := hs2 j d e
          exact ⟨v, e1, SlotR.of e2⟩
        · refine Reps.mono (fun a _ z => ?_) (fun a o _ e => keep a o e) _ _ J1.pend
          rcases z with z | ⟨p, hp, _⟩
          · exact .inl z
          · simp at hp
      have scr : ∀ {os : List (Nat × Addr)} {rho' : Rho} {sg' : St} {H3 : Hp} {ds3 : List D} {vs3 : List V}, AmO ⟨A.K, some c, fun b => Zof A os' b ∨ b = c, H2⟩ os n' rho' sg' H3 ds3 vs3 → rho'[0]? = some (some (scriptD ns)) → rho.length = sg'.length → AmO A [] n' (onlyRho ns rho.length) sg' H3 ds vs := fun {os rho' sg' H3 ds3 vs3} I3 e0 hl3 => by
        refine back I3 (by rw [← hl3]; simp [onlyRho]; lia) fun j d e => ?_
        unfold onlyRho at e
        cases j with
        | zero =>
          cases e
          obtain ⟨v, e1, e2⟩ := I3.slot 0 _ e0
          have e3 := SlotR.rep (d := scriptD ns) rfl e2
          refine ⟨v, e1, rep_script e3 fun a o u nz e => ⟨fun z => nz ?_, e⟩⟩
          rcases z with z | ⟨p, hp, _⟩
          · exact .inl (.inl (.inl z))
          · simp at hp
        | succ j =>
          rw [List.getElem?_cons_succ, List.getElem?_replicate] at e
          split at e <;> cases e
      have hl0 : rho.length = sg.length := J1.len
      refine ⟨c, fun b => Zof A os' b ∨ b = c, H2, midRho ns i rho.length, n', _, [], [], ⟨[], ?_⟩, q, ?_⟩
      · refine ⟨by simp [midRho, onlyRho, hl0]; lia, fun j d e => ?_, .nil, .nil, fun p hp => by simp at hp, fun b e => ?_, fun b e => ?_, fun b o _ e => e, fun b e => ?_⟩
        · unfold midRho at e
          by_cases hj : j = i
          · subst hj
            rw [List.getElem?_set_self (by simp [onlyRho]; lia)] at e
            cases e
            exact ⟨.ref c, List.getElem?_set_self (by lia), SlotR.of (by unfold Rep; exact ⟨c, rfl, rfl⟩)⟩
          · rw [List.getElem?_set_ne (Ne.symm hj)] at e
            unfold onlyRho at e
            cases j with
            | zero =>
              cases e
              obtain ⟨v, e1, e2⟩ := J1.slot 0 _ hr0
              have e3 := SlotR.rep (d := scriptD ns) rfl e2
              refine ⟨v, by rw [List.getElem?_set_ne h0]; exact e1, SlotR.of (rep_script e3 fun a o u nz e => ⟨fun z => ?_, fr a _ (by simp) e⟩)⟩
              rcases z with (z | z) | ⟨p, hp, _⟩
              · exact nz z
              · exact ne e z
              · simp at hp
            | succ j =>
              rw [List.getElem?_cons_succ, List.getElem?_replicate] at e
              split at e <;> cases e
        · cases e
          exact ⟨zs, 0, 0, sq.2, q1, q2, q3⟩
        · exact .inr (Option.some.inj e).symm
        · rcases e with e | e
          · have := J1.zH b e
            cases z : H' b with
            | none => exact absurd z this
            | some o =>
              show H2 b ≠ none
              rw [fr b o (by simp) z]; simp
          · show H2 b ≠ none
            rw [e, sq.2]; simp
      · refine ⟨fun rho3 n3 sg3 H3 ⟨os3, I3⟩ q => ?_, fun d n3 v rho3 sg3 H3 ⟨os3, I3⟩ q => ?_, fun rho3 n3 sg3 H3 ⟨os3, I3⟩ q => ?_, fun rho3 n3 sg3 H3 ⟨os3, I3⟩ q => ?_⟩
        · obtain ⟨rfl, l3, e3, q⟩ := q
          exact ok.nx _ _ _ _ ⟨[], scr I3 e3 (by rw [← l3]; exact I3.len)⟩ q
        · obtain ⟨rfl, hd, q⟩ := q
          have I4 : AmO A [] n3 (List.replicate sg3.length none) sg3 H3 ds vs := back I3 (by simp) fun j d e => by
            rw [List.getElem?_replicate] at e
            split at e <;> cases e
          refine ok.rt _ _ _ _ _ _ ⟨[], I4.push ?_⟩ q
          rw [I3.pop.2.toS hd]
          exact Rep.ofS hd
        · obtain ⟨rfl, l3, e3, q⟩ := q
          exact ok.bk _ _ _ _ ⟨[], scr I3 e3 (by rw [← l3]; exact I3.len)⟩ q
        · obtain ⟨rfl, l3, e3, q⟩ := q
          exact ok.ct _ _ _ _ ⟨[], scr I3 e3 (by rw [← l3]; exact I3.len)⟩ q)
end
end L2
set_option maxRecDepth 100000
namespace L2
open PySem PySem.Spec PyProof.Rows PySem.SeqAt
mutual
def eqD : D → D → Bool
  | .non, .non => true
  | .bl a, .bl b => a == b
  | .bl a, .int i => (if a then 1 else 0) == i
  | .int i, .bl a => i == (if a then 1 else 0)
  | .int i, .int j => i == j
  | .str x, .str y => x == y
  | .tup xs, .tup ys => eqDs xs ys
  | .lst xs, .lst ys => eqDs xs ys
  | _, _ => false
def eqDs : List D → List D → Bool
  | [], [] => true
  | x :: xs, y :: ys => eqD x y && eqDs xs ys
  | _, _ => false
end
mutual
def okE : D → Nat → Bool
  | .non, _ => true
  | .bl _, _ => true
  | .int _, _ => true
  | .str _, _ => true
  | .tup ds, k => match k with
    | 0 => false
    | k + 1 => okEs ds k
  | .lst ds, k => match k with
    | 0 => false
    | k + 1 => okEs ds k
  | _, _ => false
def okEs : List D → Nat → Bool
  | [], _ => true
  | d :: ds, k => okE d k && okEs ds k
end
theorem okEs_mem : ∀ {ds : List D} {k i : Nat} {d : D}, okEs ds k = true → ds[i]? = some d → okE d k = true
  | [], k, i, d, _, e => by simp at e
  | c :: ds, k, 0, d, h, e => by
    simp at e; subst e
    unfold okEs at h
    rw [Bool.and_eq_true] at h
    exact h.1
  | c :: ds, k, i + 1, d, h, e => by
    unfold okEs at h
    rw [Bool.and_eq_true] at h
    exact okEs_mem (i := i) h.2 (by simpa using e)
def eAt (xs ys : List D) (j : Nat) : Bool := match xs[j]?, ys[j]? with
  | some x, some y => eqD x y
  | _, _ => true
theorem range_succ_all (n : Nat) (e : Nat → Bool) : (List.range (n + 1)).all e = (e 0 && (List.range n).all fun j => e (j + 1)) := by
  rw [List.range_succ_eq_map, List.all_cons, List.all_map]
  rfl
theorem eqDs_all : ∀ (xs ys : List D), ((List.range (min xs.length ys.length)).all (eAt xs ys) && xs.length == ys.length) = eqDs xs ys
  | [], [] => by unfold eqDs; rfl
  | [], y :: ys => by unfold eqDs; simp
  | x :: xs, [] => by unfold eqDs; simp
  | x :: xs, y :: ys => by
    have ih := eqDs_all xs ys
    unfold eqDs
    rw [← ih]
    have e1 : min (x :: xs).length (y :: ys).length = min xs.length ys.length + 1 := by simp only [List.length_cons]; lia
    rw [e1, range_succ_all]
    have e2 : ((x :: xs).length == (y :: ys).length) = (xs.length == ys.length) := by simp
    rw [e2, Bool.and_assoc]
    rfl
theorem eqDs_all_len {xs ys : List D} (h : xs.length = ys.length) : (List.range xs.length).all (eAt xs ys) = eqDs xs ys := by
  rw [← eqDs_all, h]
  simp
theorem eqDs_len {xs ys : List D} (h : xs.length ≠ ys.length) : eqDs xs ys = false := by
  rw [← eqDs_all]
  simp [h]
theorem eqDs_of : ∀ {xs ys : List D}, xs.length = ys.length → (∀ (j : Nat) (x y : D), xs[j]? = some x → ys[j]? = some y → eqD x y = true) → eqDs xs ys = true
  | [], [], _, _ => by unfold eqDs; rfl
  | [], y :: ys, h, _ => by simp at h
  | x :: xs, [], h, _ => by simp at h
  | x :: xs, y :: ys, h, q => by
    unfold eqDs
    rw [q 0 x y rfl rfl, eqDs_of (by simpa using h) fun j a b ha hb => q (j + 1) a b (by simpa using ha) (by simpa using hb)]
    rfl
theorem Reps.get2 {K : PySem.W.Frag} {G : Option Addr} {Z : Addr → Prop} {H : Hp} {ds : List D} {vs : List V} {i : Nat} {d : D} {v : V} (h : Reps K G Z H ds vs) (e : ds[i]? = some d) (e' : vs[i]? = some v) : Rep K G Z H d v := by
  obtain ⟨u, h1, h2⟩ := h.get e
  rw [h1] at e'; cases e'
  exact h2
section
variable {X : Cx} {pins : List (Addr × Obj)} {σ : St} {H : Hp} {s : Shared} {G : Option Addr} {Z : Addr → Prop}
theorem rep_same (I : Inv X pins σ H s) : ∀ (k : Nat) (d1 d2 : D) (v : V), okE d1 k = true → okE d2 k = true → Rep X.K G Z H d1 v → Rep X.K G Z H d2 v → eqD d1 d2 = true := by
  intro k
  induction k with
  | zero =>
    intro d1 d2 v h1 h2 r1 r2
    cases d1 <;> cases d2 <;> first
      | (simp [okE] at h1; done) | (simp [okE] at h2; done)
      | (have e1 := r1.toS rfl; have e2 := r2.toS rfl; rw [e1] at e2; simp [ofS] at e2; done)
      | (have e1 := r1.toS rfl; have e2 := r2.toS rfl; rw [e1] at e2; simp [ofS] at e2; simp [eqD, e2])
  | succ k ih =>
    have seq : ∀ {ds es : List D} {xs : List V}, okEs ds k = true → okEs es k = true → Reps X.K G Z H ds xs → Reps X.K G Z H es xs → eqDs ds es = true := fun {ds es xs} h1 h2 r1 r2 => by
      refine eqDs_of (r1.length.symm.trans r2.length) fun j x y hx hy => ?_
      obtain ⟨u, hu, ru⟩ := r1.get hx
      exact ih x y u (okEs_mem h1 hx) (okEs_mem h2 hy) ru (r2.get2 hy hu)
    intro d1 d2 v h1 h2 r1 r2
    cases d1 <;> cases d2 <;> try (first
      | (simp [okE] at h1; done) | (simp [okE] at h2; done)
      | (have e1 := r1.toS rfl; have e2 := r2.toS rfl; rw [e1] at e2; simp [ofS] at e2; done)
      | (have e1 := r1.toS rfl; have e2 := r2.toS rfl; rw [e1] at e2; simp [ofS] at e2; simp [eqD, e2]; done)
      | (obtain ⟨a, xs, e, _⟩ := r1.tup_inv; have e2 := r2.toS rfl; rw [e] at e2; simp [ofS] at e2; done)
      | (obtain ⟨a, xs, e, _⟩ := r1.lst_inv; have e2 := r2.toS rfl; rw [e] at e2; simp [ofS] at e2; done)
      | (obtain ⟨a, xs, e, _⟩ := r2.tup_inv; have e2 := r1.toS rfl; rw [e] at e2; simp [ofS] at e2; done)
      | (obtain ⟨a, xs, e, _⟩ := r2.lst_inv; have e2 := r1.toS rfl; rw [e] at e2; simp [ofS] at e2; done))
    · rename_i ds es
      obtain ⟨a, xs, e, sq, rs⟩ := r1.tup_inv
      obtain ⟨b, ys, e', sq', rs'⟩ := r2.tup_inv
      rw [e] at e'; cases e'
      have := I.tuple_inj sq.sq sq'.sq
      subst this
      unfold eqD
      exact seq (by simpa [okE] using h1) (by simpa [okE] using h2) rs rs'
    · rename_i ds es
      obtain ⟨a, xs, e, sq, rs⟩ := r1.tup_inv
      obtain ⟨b, ys, e', sq', rs'⟩ := r2.lst_inv
      rw [e] at e'; cases e'
      obtain ⟨its, rv, pl, hz⟩ := I.tuple sq.sq
      obtain ⟨its', rv', pl', hz'⟩ := I.list sq'.sq
      exact absurd rfl (ne_of_list_tuple pl'.isList (show s.heap.IsTuple a its.toArray from pl))
    · rename_i ds es
      obtain ⟨a, xs, e, sq, rs⟩ := r1.lst_inv
      obtain ⟨b, ys, e', sq', rs'⟩ := r2.tup_inv
      rw [e] at e'; cases e'
      obtain ⟨its, rv, pl, hz⟩ := I.list sq.sq
      obtain ⟨its', rv', pl', hz'⟩ := I.tuple sq'.sq
      exact absurd rfl (ne_of_list_tuple pl.isList (show s.heap.IsTuple a its'.toArray from pl'))
    · rename_i ds es
      obtain ⟨a, xs, e, sq, rs⟩ := r1.lst_inv
      obtain ⟨b, ys, e', sq', rs'⟩ := r2.lst_inv
      rw [e] at e'; cases e'
      have := I.list_inj sq.sq sq'.sq
      subst this
      unfold eqD
      exact seq (by simpa [okE] using h1) (by simpa [okE] using h2) rs rs'
theorem rcC {A : Around} {s : Shared} {y x : Value} {b c : Bool} (h : RcAt A s y x b) (e : b = c) : RcAt A s y x c := e ▸ h
theorem rnC {A : Around} {s : Shared} {y x : Value} {b c : Bool} (h : RcNeAt A s y x b) (e : b = c) : RcNeAt A s y x c := e ▸ h
theorem eqC {A : Around} {s : Shared} {y x : Value} {b c : Bool} (h : EqAt A s y x b) (e : b = c) : EqAt A s y x c := e ▸ h
def E3 (A : Around) (s : Shared) (u1 u2 : Value) (b : Bool) : Prop := EqAt A s u1 u2 b ∧ RcAt A s u1 u2 b ∧ RcNeAt A s u1 u2 (!b)
theorem E3.cast {A : Around} {s : Shared} {y x : Value} {b c : Bool} (h : E3 A s y x b) (e : b = c) : E3 A s y x c := e ▸ h
def bothSeq : D → D → Bool
  | .tup _, .tup _ => true
  | .lst _, .lst _ => true
  | _, _ => false
def ShE (s : Shared) : D → Value → Prop
  | .non, u => u = .none
  | .bl x, u => u = .bool x
  | .int x, u => ∃ t, u = .int x t
  | .str x, u => ∃ t, u = .str x t
  | .tup _, u => ∃ a its, u = .ref a ∧ s.heap.IsTuple a its
  | .lst _, u => ∃ a its, u = .ref a ∧ s.heap.IsList a its
  | _, _ => False
theorem shE (I : Inv X pins σ H s) {k : Nat} {d : D} {v : V} {u : Value} (h : okE d k = true) (r : Rep X.K G Z H d v) (q : RelV v u) : ShE s d u := by
  cases d with
  | non => have := r.toS rfl; subst this; exact q
  | bl x => have := r.toS rfl; subst this; exact q
  | int x => have := r.toS rfl; subst this; exact q
  | str x => have := r.toS rfl; subst this; exact q
  | tup x =>
    obtain ⟨a, xs, w, sq, _⟩ := r.tup_inv
    subst w
    obtain ⟨its, _, pl, _⟩ := I.tuple sq.sq
    exact ⟨a, its.toArray, q, pl⟩
  | lst x =>
    obtain ⟨a, xs, w, sq, _⟩ := r.lst_inv
    subst w
    obtain ⟨its, _, pl, _⟩ := I.list sq.sq
    exact ⟨a, its.toArray, q, pl.isList⟩
  | _ => simp [okE] at h
section
local macro_rules
  | `(tactic| nomatch $n:ident, $t,*) => do
    let f := fun (p : Lean.Name) => Lean.mkIdent (p ++ n.getId)
    let t := t.getElems
    `(tactic| exact E3.cast ⟨$(f `EqAt) $t*, $(f `RcAt) $t*, $(f `RcNeAt) $t*⟩ (by unfold eqD; rfl))
theorem eq_mix (I : Inv X pins σ H s) {k : Nat} {d1 d2 : D} {v1 v2 : V} {u1 u2 : Value} {A : Around} (h1 : okE d1 k = true) (h2 : okE d2 k = true) (r1 : Rep X.K G Z H d1 v1) (r2 : Rep X.K G Z H d2 v2) (q1 : RelV v1 u1) (q2 : RelV v2 u2)
    (hu : A.units < cLine) (hb : bothSeq d1 d2 = false) : E3 A s u1 u2 (eqD d1 d2) := by
  have g1 := shE I h1 r1 q1
  have g2 := shE I h2 r2 q2
  clear h1 h2 r1 r2 q1 q2
  cases d1 with
  | non =>
    cases g1
    cases d2 with
    | non => cases g2; exact E3.cast ⟨EqAt.same _, RcAt.none_none, RcNeAt.none_none⟩ (by unfold eqD; rfl)
    | bl => cases g2; nomatch none_bool,_
    | int => obtain ⟨_, rfl⟩ := g2; nomatch none_int,_,_
    | str => obtain ⟨_, rfl⟩ := g2; nomatch none_str,_,_
    | tup => obtain ⟨_, _, rfl, L⟩ := g2; nomatch none_tuple,L,hu
    | lst => obtain ⟨_, _, rfl, L⟩ := g2; nomatch none_list,L,hu
    | _ => exact g2.elim
  | bl x1 =>
    cases g1
    cases d2 with
    | non => cases g2; nomatch bool_none,_
    | bl => cases g2; nomatch bool_bool,_,_
    | int => obtain ⟨_, rfl⟩ := g2; nomatch bool_int,_,_,_
    | str => obtain ⟨_, rfl⟩ := g2; nomatch bool_str,_,_,_
    | tup => obtain ⟨_, _, rfl, L⟩ := g2; nomatch bool_tuple,_,L,hu
    | lst => obtain ⟨_, _, rfl, L⟩ := g2; nomatch bool_list,_,L,hu
    | _ => exact g2.elim
  | int x1 =>
    obtain ⟨t1, rfl⟩ := g1
    cases d2 with
    | non => cases g2; nomatch int_none,_,_
    | bl => cases g2; nomatch int_bool,_,_,_
    | int => obtain ⟨_, rfl⟩ := g2; nomatch int_int,_,_,_,_
    | str => obtain ⟨_, rfl⟩ := g2; nomatch int_str,_,_,_,_
    | tup => obtain ⟨_, _, rfl, L⟩ := g2; nomatch int_tuple,_,_,L,hu
    | lst => obtain ⟨_, _, rfl, L⟩ := g2; nomatch int_list,_,_,L,hu
    | _ => exact g2.elim
  | str x1 =>
    obtain ⟨t1, rfl⟩ := g1
    cases d2 with
    | non => cases g2; nomatch str_none,_,_
    | bl => cases g2; nomatch str_bool,_,_,_
    | int => obtain ⟨_, rfl⟩ := g2; nomatch str_int,_,_,_,_
    | str => obtain ⟨_, rfl⟩ := g2; nomatch str_str,_,_,_,_
    | tup => obtain ⟨_, _, rfl, L⟩ := g2; nomatch str_tuple,_,_,L,hu
    | lst => obtain ⟨_, _, rfl, L⟩ := g2; nomatch str_list,_,_,L,hu
    | _ => exact g2.elim
  | tup x1 =>
    obtain ⟨a1, i1, rfl, L1⟩ := g1
    cases d2 with
    | non => cases g2; nomatch tuple_none,L1,hu
    | bl => cases g2; nomatch tuple_bool,_,L1,hu
    | int => obtain ⟨_, rfl⟩ := g2; nomatch tuple_int,_,_,L1,hu
    | str => obtain ⟨_, rfl⟩ := g2; nomatch tuple_str,_,_,L1,hu
    | tup => cases hb
    | lst => obtain ⟨_, _, rfl, L⟩ := g2; nomatch tuple_list,L1,L,hu
    | _ => exact g2.elim
  | lst x1 =>
    obtain ⟨a1, i1, rfl, L1⟩ := g1
    cases d2 with
    | non => cases g2; nomatch list_none,L1,hu
    | bl => cases g2; nomatch list_bool,_,L1,hu
    | int => obtain ⟨_, rfl⟩ := g2; nomatch list_int,_,_,L1,hu
    | str => obtain ⟨_, rfl⟩ := g2; nomatch list_str,_,_,L1,hu
    | tup => obtain ⟨_, _, rfl, L⟩ := g2; nomatch list_tuple,L1,L,hu
    | lst => cases hb
    | _ => exact g2.elim
  | _ => exact g1.elim
end
theorem eq_rep (I : Inv X pins σ H s) : ∀ (k : Nat) (d1 d2 : D) (v1 v2 : V) (u1 u2 : Value) (A : Around), okE d1 k = true → okE d2 k = true → Rep X.K G Z H d1 v1 → Rep X.K G Z H d2 v2 → RelV v1 u1 → RelV v2 u2 →
    A.units + k < cLine → E3 A s u1 u2 (eqD d1 d2) := by
  intro k
  induction k with
  | zero =>
    intro d1 d2 v1 v2 u1 u2 A h1 h2 r1 r2 q1 q2 hu
    refine eq_mix I h1 h2 r1 r2 q1 q2 (by lia) ?_
    cases d1 <;> first | rfl | (simp [okE] at h1; done)
  | succ k ih =>
    intro d1 d2 v1 v2 u1 u2 A h1 h2 r1 r2 q1 q2 hu
    by_cases hb : bothSeq d1 d2 = false
    · exact eq_mix I h1 h2 r1 r2 q1 q2 (by lia) hb
    have items : ∀ {ds es : List D} {xs ys : List V} {its its' : List Value}, okEs ds k = true → okEs es k = true → Reps X.K G Z H ds xs → Reps X.K G Z H es ys → Vals xs its → Vals ys its' →
        ∀ (j : Nat) (l1 : j < its.toArray.size) (l2 : j < its'.toArray.size), EqAt A.in1 s its.toArray[j] its'.toArray[j] (eAt ds es j) := fun {ds es xs ys its its'} h1 h2 r1 r2 rv rv' j l1 l2 => by
      have l1' : j < its.length := by simpa using l1
      have l2' : j < its'.length := by simpa using l2
      have a1 : j < ds.length := by rw [← r1.length, rv.length]; exact l1'
      have a2 : j < es.length := by rw [← r2.length, rv'.length]; exact l2'
      have g1 : ds[j]? = some ds[j] := List.getElem?_eq_getElem a1
      have g2 : es[j]? = some es[j] := List.getElem?_eq_getElem a2
      obtain ⟨w1, e1, p1⟩ := r1.get g1
      obtain ⟨w2, e2, p2⟩ := r2.get g2
      obtain ⟨z1, f1, t1⟩ := rv.get e1
      obtain ⟨z2, f2, t2⟩ := rv'.get e2
      have m1 : its.toArray[j] = z1 := by
        have : its[j]? = some its[j] := List.getElem?_eq_getElem l1'
        rw [f1] at this
        simpa using (Option.some.inj this).symm
      have m2 : its'.toArray[j] = z2 := by
        have : its'[j]? = some its'[j] := List.getElem?_eq_getElem l2'
        rw [f2] at this
        simpa using (Option.some.inj this).symm
      have e3 : eAt ds es j = eqD ds[j] es[j] := by unfold eAt; rw [g1, g2]
      rw [m1, m2, e3]
      exact (ih _ _ _ _ _ _ A.in1 (okEs_mem h1 g1) (okEs_mem h2 g2) p1 p2 t1 t2 (by show A.units + 1 + k < cLine; lia)).1
    cases d1 with
    | tup ds =>
      cases d2 with
      | tup es =>
        have s1 := r1
        have s2 := r2
        obtain ⟨a, xs, e, sq, rs⟩ := r1.tup_inv
        obtain ⟨b, ys, e', sq', rs'⟩ := r2.tup_inv
        subst e e'
        have c1 : u1 = .ref a := q1
        have c2 : u2 = .ref b := q2
        subst c1 c2
        obtain ⟨its, rv, pl, hz⟩ := I.tuple sq.sq
        obtain ⟨its', rv', pl', hz'⟩ := I.tuple sq'.sq
        have it := items (by simpa [okE] using h1) (by simpa [okE] using h2) rs rs' rv rv'
        have n1 : its.toArray.size = ds.length := by rw [← rs.length, rv.length]; simp
        have n2 : its'.toArray.size = es.length := by rw [← rs'.length, rv'.length]; simp
        have ev : ((List.range (min its.toArray.size its'.toArray.size)).all (eAt ds es) && its.toArray.size == its'.toArray.size) = eqD (.tup ds) (.tup es) := by
          rw [n1, n2, eqDs_all]; unfold eqD; rfl
        have R := rcC (RcAt.tuples (A := A) (show s.heap.IsTuple a its.toArray from pl) (show s.heap.IsTuple b its'.toArray from pl') (by lia) it) ev
        have N := rnC (RcNeAt.tuples (A := A) (show s.heap.IsTuple a its.toArray from pl) (show s.heap.IsTuple b its'.toArray from pl') (by lia) it) (congrArg (!·) ev)
        refine ⟨?_, R, N⟩
        by_cases hab : a = b
        · subst hab
          exact eqC (EqAt.same _) (rep_same I (k + 1) _ _ _ h1 h2 s1 s2).symm
        · exact .of_refs hab R
      | _ => exact absurd rfl hb
    | lst ds =>
      cases d2 with
      | lst es =>
        have s1 := r1
        have s2 := r2
        obtain ⟨a, xs, e, sq, rs⟩ := r1.lst_inv
        obtain ⟨b, ys, e', sq', rs'⟩ := r2.lst_inv
        subst e e'
        have c1 : u1 = .ref a := q1
        have c2 : u2 = .ref b := q2
        subst c1 c2
        obtain ⟨its, rv, pl, hz⟩ := I.list sq.sq
        obtain ⟨its', rv', pl', hz'⟩ := I.list sq'.sq
        have it := items (by simpa [okE] using h1) (by simpa [okE] using h2) rs rs' rv rv'
        have n1 : its.toArray.size = ds.length := by rw [← rs.length, rv.length]; simp
        have n2 : its'.toArray.size = es.length := by rw [← rs'.length, rv'.length]; simp
        have R : RcAt A s (.ref a) (.ref b) (eqD (.lst ds) (.lst es)) ∧ RcNeAt A s (.ref a) (.ref b) (!eqD (.lst ds) (.lst es)) := by
          by_cases hl : ds.length = es.length
          · have ev : (List.range its.toArray.size).all (eAt ds es) = eqD (.lst ds) (.lst es) := by rw [n1, eqDs_all_len hl]; unfold eqD; rfl
            exact ⟨rcC (RcAt.lists (A := A) pl.isList pl'.isList (by rw [n1, n2, hl]) (by lia) it) ev, rnC (RcNeAt.lists (A := A) pl.isList pl'.isList (by rw [n1, n2, hl]) (by lia) it) (congrArg (!·) ev)⟩
          · have ev : false = eqD (.lst ds) (.lst es) := by unfold eqD; exact (eqDs_len hl).symm
            have hs : (its.toArray.size != its'.toArray.size) = true := by rw [n1, n2]; simpa using hl
            exact ⟨rcC (RcAt.lists_lengths (A := A) pl.isList pl'.isList hs (by lia)) ev, rnC (RcNeAt.lists_lengths (A := A) pl.isList pl'.isList hs (by lia)) (congrArg (!·) ev)⟩
        refine ⟨?_, R⟩
        by_cases hab : a = b
        · subst hab
          exact eqC (EqAt.same _) (rep_same I (k + 1) _ _ _ h1 h2 s1 s2).symm
        · exact .of_refs hab R.1
      | _ => exact absurd rfl hb
    | _ => exact absurd rfl hb
def EqV (X : Cx) (H : Hp) (x y : V) (b : Bool) : Prop := ∀ pins s σ v u, Inv X pins σ H s → RelV x v → RelV y u → ∀ A : Around, A.units + 60 < cLine → E3 A s v u b
def rDeq (X : Cx) : R2 := fun x y H Q => ∃ b, EqV X H x y b ∧ Q (.bl b) H
def rDne (X : Cx) : R2 := fun x y H Q => ∃ b, EqV X H x y b ∧ Q (.bl (!b)) H
theorem op_deq {n : Nat} (hr : Room n X.A) : OpR X (compareOp .Eq) (rDeq X) := by
  intro pins s σ H x y v u Q I rx ry h
  obtain ⟨b, e, q⟩ := h
  exact (e pins s σ v u I rx ry X.A (by have := hr.units; lia)).2.1 X.prog X.w X.xe _ ⟨.bl b, H, I, rfl, q⟩
theorem op_dne {n : Nat} (hr : Room n X.A) : OpR X (compareOp .NotEq) (rDne X) := by
  intro pins s σ H x y v u Q I rx ry h
  obtain ⟨b, e, q⟩ := h
  exact (e pins s σ v u I rx ry X.A (by have := hr.units; lia)).2.2 X.prog X.w X.xe _ ⟨.bl (!b), H, I, rfl, q⟩
def rdDeq : RD2 := fun d1 d2 k => okE d1 20 = true ∧ okE d2 20 = true ∧ k (.bl (eqD d1 d2))
def rdDne : RD2 := fun d1 d2 k => okE d1 20 = true ∧ okE d2 20 = true ∧ k (.bl (!eqD d1 d2))
theorem re_deq {A : AC} (hK : X.K = A.K) : OpRel A (rDeq X) rdDeq := by
  rintro os n rho sg H ds vs d1 d2 v1 v2 k Q I ⟨h1, h2, q⟩ hQ
  obtain ⟨I1, r2⟩ := I.pop
  obtain ⟨I2, r1⟩ := I1.pop
  rw [← hK] at r1 r2
  exact ⟨eqD d1 d2, fun pins s σ v u J rx ry B hu => eq_rep J 20 d1 d2 v1 v2 v u B h1 h2 r1 r2 rx ry (by lia), hQ _ H _ ⟨os, I2.push (Rep.ofS rfl)⟩ q⟩
theorem re_dne {A : AC} (hK : X.K = A.K) : OpRel A (rDne X) rdDne := by
  rintro os n rho sg H ds vs d1 d2 v1 v2 k Q I ⟨h1, h2, q⟩ hQ
  obtain ⟨I1, r2⟩ := I.pop
  obtain ⟨I2, r1⟩ := I1.pop
  rw [← hK] at r1 r2
  exact ⟨eqD d1 d2, fun pins s σ v u J rx ry B hu => eq_rep J 20 d1 d2 v1 v2 v u B h1 h2 r1 r2 rx ry (by lia), hQ _ H _ ⟨os, I2.push (Rep.ofS rfl)⟩ q⟩
@[simp] theorem q_rdDeq {d1 d2 k} : rdDeq d1 d2 k = (okE d1 20 = true ∧ okE d2 20 = true ∧ k (.bl (eqD d1 d2))) := rfl
@[simp] theorem q_rdDne {d1 d2 k} : rdDne d1 d2 k = (okE d1 20 = true ∧ okE d2 20 = true ∧ k (.bl (!eqD d1 d2))) := rfl
end
end L2
set_option maxRecDepth 100000
namespace L2
open PySem PySem.Spec PyProof.Rows
section
variable {A : AC} {X : Cx} {e a b : Expr} {es : List Expr} {te ta tb : TD} {t1 : TAD} {pos p : Pos}
def lstOf (d : D) (p : List D → Prop) : Prop := ∃ fs, d = .lst fs ∧ p fs
@[simp] theorem q_lstOf {fs p} : lstOf (.lst fs) p ↔ p fs := ⟨fun ⟨_, e, h⟩ => by cases e; exact h, fun h => ⟨_, rfl, h⟩⟩
def sSetO (i : Nat) (te : TD) : TSD := fun F rho n => i < rho.length ∧ te rho n fun d n1 => lstOf d fun fs => F.nx (rho.set i (some (.own fs))) n1
@[simp] theorem q_sSetO {i te F rho n} : sSetO i te F rho n = (i < rho.length ∧ te rho n fun d n1 => lstOf d fun fs => F.nx (rho.set i (some (.own fs))) n1) := rfl
def dOwnLen (i : Nat) : TD := fun rho n P => ownAt rho[i]? fun es => P (.int es.length) n
@[simp] theorem q_dOwnLen {i rho n P} : dOwnLen i rho n P = ownAt rho[i]? fun es => P (.int es.length) n := rfl
theorem FnOk.botK {P : Program} {w : World} {K : PySem.W.Frag} {mg : Str → Option Value} {base : Heap} {f : Addr} {fd : FuncData} {ps : List Str} {k L : Nat} {t : TF} (ht : ∀ ds n Q, ¬ t ds n Q) : FnOk P w K mg base CX0 L f fd ps (spD K k t) := by
  refine ⟨fun vs H Q E h => ?_, fun A outer s H args us vs Q E _ _ _ _ h => ?_⟩
  · obtain ⟨G, Z, n, R, ds, hl, rs, hst, gz, z0, h, _⟩ := h
    exact (ht _ _ _ h).elim
  · obtain ⟨G, Z, n, R, ds, hl, rs, hst, gz, z0, h, _⟩ := h
    exact (ht _ _ _ h).elim
theorem FnOk.bot {P : Program} {w : World} {K : PySem.W.Frag} {mg : Str → Option Value} {base : Heap} {f : Addr} {fd : FuncData} {ps : List Str} {k : Nat} {t : TF} (ht : ∀ ds n Q, ¬ t ds n Q) : FnOk P w K mg base CX0 0 f fd ps (spD K k t) := by
  refine ⟨fun vs H Q E h => ?_, fun A outer s H args us vs Q E _ _ _ _ h => ?_⟩
  · obtain ⟨G, Z, n, R, ds, hl, rs, hst, gz, z0, h, _⟩ := h
    exact (ht _ _ _ h).elim
  · obtain ⟨G, Z, n, R, ds, hl, rs, hst, gz, z0, h, _⟩ := h
    exact (ht _ _ _ h).elim
end
end L2
namespace L2
open PySem PySem.Spec PyProof.Rows
theorem comp_mapIn {own : Nat} {g : TGD} {te : TD} {rho : Rho} {n : Nat} {P : D → Nat → Prop} {α : Type} (enc : α → D) (f : α → D) (xs : List α)
    (hz : xs.length ≤ sizeLine) (he : ∀ x ∈ xs, ∀ Q, Q (f x) n → g (enc x) (List.replicate own none ++ rho) fun rho' => rho'.drop own = rho ∧ te rho' n Q) (hP : P (.lst (xs.map f)) n) : compIn own g bYes te rho P (xs.map enc) n :=
  comp_map (it := fun _ n R => R (xs.map enc) n) (rho := rho) enc f xs (fun R h => h) hz he hP
end L2
namespace L2
open PySem PySem.Spec PyProof.Rows
theorem q_isi {d : D} {T : String} {k : D → Prop} (hT : T = "bool" ∨ T = "int" ∨ T = "str" ∨ T = "tuple" ∨ T = "list") : kIsi [d, .ty T] k ↔ (isiOk d = true ∧ k (.bl (isiD T d))) :=
  ⟨fun ⟨d', T', e, _, h1, h2⟩ => by cases e; exact ⟨h1, h2⟩, fun h => ⟨d, T, rfl, hT, h.1, h.2⟩⟩
@[simp] theorem q_isiBool {d : D} {k : D → Prop} : kIsi [d, .ty "bool"] k ↔ (isiOk d = true ∧ k (.bl (isiD "bool" d))) := q_isi (by decide)
@[simp] theorem q_isiInt {d : D} {k : D → Prop} : kIsi [d, .ty "int"] k ↔ (isiOk d = true ∧ k (.bl (isiD "int" d))) := q_isi (by decide)
@[simp] theorem q_isiStr {d : D} {k : D → Prop} : kIsi [d, .ty "str"] k ↔ (isiOk d = true ∧ k (.bl (isiD "str" d))) := q_isi (by decide)
@[simp] theorem q_isiTuple {d : D} {k : D → Prop} : kIsi [d, .ty "tuple"] k ↔ (isiOk d = true ∧ k (.bl (isiD "tuple" d))) := q_isi (by decide)
@[simp] theorem q_isiList {d : D} {k : D → Prop} : kIsi [d, .ty "list"] k ↔ (isiOk d = true ∧ k (.bl (isiD "list" d))) := q_isi (by decide)
@[simp] theorem q_rdEqS {i j : Str} {k} : rdEq (.str i) (.str j) k ↔ k (.bl (decide (i = j))) := by
  have e : decide (ofS (.str i) = ofS (.str j)) = decide (i = j) := by simp [ofS]
  unfold rdEq
  rw [e]
  exact ⟨fun h => h.2.2.2, fun h => ⟨rfl, rfl, rfl, h⟩⟩
theorem okEs_iff : ∀ {ds : List D} {k : Nat}, okEs ds k = true ↔ ∀ d ∈ ds, okE d k = true
  | [], k => by unfold okEs; simp
  | c :: ds, k => by
    unfold okEs
    rw [Bool.and_eq_true, okEs_iff]
    simp
theorem okE_tup {ds : List D} {k : Nat} : okE (.tup ds) (k + 1) = true ↔ ∀ d ∈ ds, okE d k = true := by
  have e : okE (.tup ds) (k + 1) = okEs ds k := by rw [okE]
  rw [e, okEs_iff]
def kZip (es : List D) (k : List D → Prop) : Prop := ∃ d1 d2 b1 xs b2 ys, es = [d1, d2] ∧ seqOf d1 = some (b1, xs) ∧ seqOf d2 = some (b2, ys) ∧ k (zipD xs ys)
@[simp] theorem q_iZipD {t : TAD} {rho n P} : iZipD t rho n P ↔ t rho n fun es n1 => kZip es fun l => P l n1 := Iff.rfl
theorem q_kZip {d1 d2 : D} {b1 b2 xs ys} {k : List D → Prop} (h1 : seqOf d1 = some (b1, xs)) (h2 : seqOf d2 = some (b2, ys)) : kZip [d1, d2] k ↔ k (zipD xs ys) := by
  constructor
  · rintro ⟨_, _, _, _, _, _, e, e1, e2, h⟩
    cases e
    rw [h1] at e1; rw [h2] at e2
    cases e1; cases e2
    exact h
  · intro h
    exact ⟨_, _, _, _, _, _, rfl, h1, h2, h⟩
@[simp] theorem q_kZipTT {xs ys} {k : List D → Prop} : kZip [.tup xs, .tup ys] k ↔ k (zipD xs ys) := q_kZip rfl rfl
@[simp] theorem q_kZipTL {xs ys} {k : List D → Prop} : kZip [.tup xs, .lst ys] k ↔ k (zipD xs ys) := q_kZip rfl rfl
@[simp] theorem q_kZipLT {xs ys} {k : List D → Prop} : kZip [.lst xs, .tup ys] k ↔ k (zipD xs ys) := q_kZip rfl rfl
@[simp] theorem q_kZipLL {xs ys} {k : List D → Prop} : kZip [.lst xs, .lst ys] k ↔ k (zipD xs ys) := q_kZip rfl rfl
end L2
set_option maxRecDepth 100000
namespace L2
open PySem PySem.Spec PyProof.Rows
section
variable {X : Cx}
end
section
variable {A : AC}
theorem reps_intsV {K : PySem.W.Frag} {G : Option Addr} {Z : Addr → Prop} {H : Hp} : ∀ {bs : List Int} {ws : List V}, Reps K G Z H (bs.map D.int) ws → ws = bs.map V.int
  | [], ws, h => h.nil_inv
  | b :: bs, ws, h => by
    obtain ⟨v, r, rfl, q, t⟩ := h.split
    rw [q.int_inv, reps_intsV t]; rfl
def kMax2 : List D → (D → Prop) → Prop := fun es k => ∃ i j, es = [.int i, .int j] ∧ k (.int (if j > i then j else i))
def kMin2 : List D → (D → Prop) → Prop := fun es k => ∃ i j, es = [.int i, .int j] ∧ k (.int (if j < i then j else i))
@[simp] theorem q_kMax2 {i j k} : kMax2 [.int i, .int j] k ↔ k (.int (if j > i then j else i)) := ⟨fun ⟨_, _, e, h⟩ => by cases e; exact h, fun h => ⟨_, _, rfl, h⟩⟩
@[simp] theorem q_kMin2 {i j k} : kMin2 [.int i, .int j] k ↔ k (.int (if j < i then j else i)) := ⟨fun ⟨_, _, e, h⟩ => by cases e; exact h, fun h => ⟨_, _, rfl, h⟩⟩
theorem cr_max2 : CallRel A (fun xs H Q => ∃ i j, xs = [.int i, .int j] ∧ Q (.int (if j > i then j else i)) H) kMax2 := by
  rintro os n rho sg H ds vs es ws k Q I rs ⟨i, j, rfl, q⟩ hQ
  obtain ⟨v, v', rfl, r, r'⟩ := reps2 rs
  exact ⟨i, j, by rw [r.int_inv, r'.int_inv], hQ _ H _ ⟨os, I.push (Rep.ofS rfl)⟩ q⟩
theorem bt_max : bootBuiltins "max" = some (.builtin "max") := by decide +kernel
end
end L2
namespace L2
open PySem PySem.Spec PyProof.Rows
theorem comp_filtIn {own : Nat} {g : TGD} {tt : TBD} {te : TD} {rho : Rho} {n : Nat} {P : D → Nat → Prop} {α : Type} (enc : α → D) (keep : α → Bool) (f : α → D) (xs : List α) (hz : xs.length ≤ sizeLine)
    (he : ∀ x ∈ xs, ∀ (R : D → Nat → Prop) (S : Nat → Prop), (keep x = true → R (f x) n) → (keep x = false → S n) → g (enc x) (List.replicate own none ++ rho) fun rho' => rho'.drop own = rho ∧ tt rho' n fun c n2 => if c = true then te rho' n2 R else S n2)
    (hP : P (.lst ((xs.filter keep).map f)) n) : compIn own g tt te rho P (xs.map enc) n := by
  refine ⟨by simpa using hz, fun i acc n' => n' = n ∧ acc = ((xs.take i).filter keep).map f, ⟨rfl, rfl⟩, ?_, ?_⟩
  · rintro i d acc n' e ⟨rfl, rfl⟩
    rw [List.getElem?_map] at e
    cases q : xs[i]? with
    | none => rw [q] at e; cases e
    | some x =>
      rw [q] at e
      cases e
      have hm : x ∈ xs := List.mem_of_getElem? q
      have et : xs.take (i + 1) = xs.take i ++ [x] := by rw [List.take_add_one, q]; rfl
      refine he x hm (fun e n3 => n3 = n' ∧ ((xs.take i).filter keep).map f ++ [e] = ((xs.take (i + 1)).filter keep).map f) (fun n3 => n3 = n' ∧ ((xs.take i).filter keep).map f = ((xs.take (i + 1)).filter keep).map f) (fun hk => ⟨rfl, ?_⟩) (fun hk => ⟨rfl, ?_⟩)
      · rw [et, List.filter_append]; simp [hk]
      · rw [et, List.filter_append]; simp [hk]
  · rintro acc n' ⟨rfl, rfl⟩
    rw [List.length_map, List.take_length]
    exact hP
theorem okE_lst {ds : List D} {k : Nat} : okE (.lst ds) (k + 1) = true ↔ ∀ d ∈ ds, okE d k = true := by
  have e : okE (.lst ds) (k + 1) = okEs ds k := by rw [okE]
  rw [e, okEs_iff]
theorem okE_int {i : Int} {k : Nat} : okE (.int i) k = true := by simp [okE]
end L2
set_option maxRecDepth 100000
namespace L2
open PySem PySem.Spec PyProof.Rows
def rCatTT (K : PySem.W.Frag) : R2 := fun x y H Q => ∃ a b xs ys, x = .ref a ∧ y = .ref b ∧ SqT K H a xs ∧ SqT K H b ys ∧ xs.length + ys.length ≤ sizeLine ∧
  (xs = [] → Q (.ref b) H) ∧ (xs ≠ [] → ys = [] → Q (.ref a) H) ∧ (xs ≠ [] → ys ≠ [] → ∀ p, H p = none → Q (.ref p) (upd H p (.tup (xs ++ ys))))
section
variable {X : Cx}
theorem op_catTT : OpR X (binaryOp .Add) (rCatTT X.K) := by
  intro pins s σ H x y v u Q I rx ry h
  obtain ⟨a, b, xs, ys, rfl, rfl, ha, hb, hz, q0, q1, q2⟩ := h
  by_cases hx : xs = []
  · cases rx
    cases ry
    obtain ⟨its, r1, p1, _⟩ := I.tuple ha
    obtain ⟨its2, r2, p2, _⟩ := I.tuple hb
    have hi : its = [] := r1.nil_iff.mpr hx
    obtain ⟨⟨cls, dd, data, sl⟩, ho, hc, n, hd⟩ := id p1
    obtain ⟨⟨cls2, dd2, data2, sl2⟩, ho2, hc2, n2, hd2⟩ := id p2
    simp only at hc hd hc2 hd2
    subst hc hd hc2 hd2
    exact PySem.concat_meets ⟨_, ho, rfl⟩ ⟨_, ho2, rfl⟩ PySem.noFill_tuple_add PySem.seq_tuple_add PySem.F.slot_tuple_add PySem.F.entry_tuple_add (PySem.F.args_tuple_add_2 _ _)
      (tuple_addW0 a b its.toArray its2.toArray n n2 dd dd2 sl sl2 (by simp [hi])) ⟨ho, ho2, ⟨.ref b, H, I, rfl, q0 hx⟩⟩
  · exact op_catT pins s σ H _ _ v u Q I rx ry ⟨a, b, xs, ys, rfl, rfl, ha, hb, hx, hz, q1 hx, q2 hx⟩
end
section
variable {A : AC}
def rdCatT : RD2 := fun d1 d2 k => ∃ es fs, d1 = .tup es ∧ d2 = .tup fs ∧ es.length + fs.length ≤ sizeLine ∧ k (.tup (es ++ fs))
@[simp] theorem q_rdCatT {es fs k} : rdCatT (.tup es) (.tup fs) k ↔ (es.length + fs.length ≤ sizeLine ∧ k (.tup (es ++ fs))) := ⟨fun ⟨_, _, e, e', h⟩ => by cases e; cases e'; exact h, fun h => ⟨_, _, rfl, rfl, h⟩⟩
theorem re_catT : OpRel A (rCatTT A.K) rdCatT := by
  rintro os n rho sg H ds vs d1 d2 v1 v2 k Q I ⟨es, fs, rfl, rfl, hz, q⟩ hQ
  obtain ⟨I1, r2⟩ := I.pop
  obtain ⟨I2, r1⟩ := I1.pop
  have r1' := r1
  have r2' := r2
  obtain ⟨a, xs, e, sq, rs⟩ := r1.tup_inv
  obtain ⟨b, ys, e', sq', rs'⟩ := r2.tup_inv
  subst e e'
  refine ⟨a, b, xs, ys, rfl, rfl, sq.sq, sq'.sq, by rw [rs.length, rs'.length]; exact hz, fun hx => ?_, fun hx hy => ?_, fun hx hy p hp => ?_⟩
  · have he : es = [] := by have := rs.length; rw [hx] at this; exact List.eq_nil_of_length_eq_zero this.symm
    subst he
    exact hQ _ H _ ⟨os, I2.push r2'⟩ q
  · have he : fs = [] := by have := rs'.length; rw [hy] at this; exact List.eq_nil_of_length_eq_zero this.symm
    subst he
    rw [List.append_nil] at q
    exact hQ _ H _ ⟨os, I2.push r1'⟩ q
  · exact hQ _ _ _ ⟨os, I2.newTup (rs.append rs') hp⟩ q
end
section
variable {A : AC} {X : Cx} {a b c e : Expr} {es : List Expr} {te ta tb tc : TD} {t1 : TAD} {pos p : Pos}
def intOf (d : D) (k : Int → Prop) : Prop := ∃ i, d = .int i ∧ k i
@[simp] theorem q_intOf {i : Int} {k} : intOf (.int i) k ↔ k i := ⟨fun ⟨_, e, h⟩ => by cases e; exact h, fun h => ⟨_, rfl, h⟩⟩
def dChain (f g : Int → Int → Bool) (ta tb tc : TD) : TD := fun rho n P => ta rho n fun d1 n1 => tb rho n1 fun d2 n2 => intOf d1 fun i => intOf d2 fun j => if f i j = true then tc rho n2 fun d3 n3 => intOf d3 fun k => P (.bl (g j k)) n3 else P (.bl false) n2
@[simp] theorem q_dChain {f g ta tb tc rho n P} : dChain f g ta tb tc rho n P = ta rho n fun d1 n1 => tb rho n1 fun d2 n2 => intOf d1 fun i => intOf d2 fun j => if f i j = true then tc rho n2 fun d3 n3 => intOf d3 fun k => P (.bl (g j k)) n3 else P (.bl false) n2 := rfl
def iRng2D (t : TAD) : TID := fun rho n P => t rho n fun es n1 => pair2 es fun d1 d2 => intOf d1 fun i => intOf d2 fun j => (-(2 ^ 62) ≤ i ∧ i < 2 ^ 62 ∧ -(2 ^ 62) ≤ j ∧ j < 2 ^ 62) ∧ P (rngD i (j - i).toNat) n1
@[simp] theorem q_iRng2D {t rho n P} : iRng2D t rho n P = t rho n fun es n1 => pair2 es fun d1 d2 => intOf d1 fun i => intOf d2 fun j => (-(2 ^ 62) ≤ i ∧ i < 2 ^ 62 ∧ -(2 ^ 62) ≤ j ∧ j < 2 ^ 62) ∧ P (rngD i (j - i).toNat) n1 := rfl
def sExtend (i : Nat) (t : TAD) : TSD := fun F rho n => ownAt rho[i]? fun es => t rho n fun ds n1 => ∃ fs, ds = [.lst fs] ∧ es.length + fs.length ≤ sizeLine ∧ F.nx (rho.set i (some (.own (es ++ fs)))) n1
@[simp] theorem q_sExtend {i t F rho n} : sExtend i t F rho n = ownAt rho[i]? fun es => t rho n fun ds n1 => ∃ fs, ds = [.lst fs] ∧ es.length + fs.length ≤ sizeLine ∧ F.nx (rho.set i (some (.own (es ++ fs)))) n1 := rfl
end
section
variable {X : Cx} {A : AC}
theorem bt_sorted : bootBuiltins "sorted" = some (.builtin "sorted") := by decide +kernel
end
end L2
namespace L2
open PySem PySem.Spec PyProof.Rows
section
variable {A : AC} {X : Cx} {a b : Expr} {pos : Pos}
end
theorem ptsd_one {A : AC} {X : Cx} {e : Expr} {t : TBD} (h : PTD A X e t) : PTs X [e] (ttOf A t) := by
  with_unfolding_all
    exact pts_one h
end L2
set_option maxRecDepth 100000
namespace L2
open PySem PySem.Spec PyProof.Rows HT
section
variable {prog : Program} {w : World} {A : Around} {E : Value → Shared → Prop} {s : Shared}
theorem getItem_tuple_whole {t sl : Addr} {items : Array Value} {vl vu : Value} {lo hi : Option Int} {Q : Value → Shared → Prop} (ht : IsTup s.heap t items) (hs : s.heap.IsSliceOf sl vl vu .none) (pl : IsPart vl lo) (pu : IsPart vu hi)
    (h1 : sIx items.size 0 lo = 0) (h2 : sIx items.size items.size hi = items.size) (h : Q (.ref t) s) : wpAny (model prog w) A (getItem (.ref t) (.ref sl)) Q E s := by
  obtain ⟨os, hos, hcs, hds⟩ := id hs
  have hTs : s.TypeIs (.ref sl) "slice" := ⟨os, hos, hcs⟩
  unfold getItem
  try with_reducible refine wpAny_holding ?_
  first | refine wpAny_bind (wpAny_pure ?_) | skip
  refine wpAny_bind (wpAny_sequenceKey ht.typeIs (by decide) ?_)
  refine wpAny_bind (wpAny_callSpecial?_slot (name := Str.ofString "__getitem__") ht.typeIs PyProof.Rows.slot_tuple_getitem
    (wpAny_call_entry PyProof.Rows.slot_tuple_getitem ht.typeIs entry_tuple_getitem ?_ (args_tuple_getitem _ _)))
  show wpAny _ _ (Builtin.Tuple.tupleItemsOf (.ref t) >>= _) _ _ s
  refine wpAny_bind (tupleItemsOf_ ht ?_)
  refine wpAny_bind (wpAny_typeOf hTs ?_)
  rw [if_pos (by decide)]
  refine wpAny_bind (sliceApplied_gen hs pl pu ?_)
  have hyes : ((((sIx items.size 0 lo : Nat) : Int) == 0 && (1 : Int) == 1 && (sIx items.size items.size hi - sIx items.size 0 lo) == items.size) = true) := by
    rw [h1, h2]; simp
  show wpAny _ _ (if (((sIx items.size 0 lo : Nat) : Int) == 0 && (1 : Int) == 1 && (sIx items.size items.size hi - sIx items.size 0 lo) == items.size) = true then _ else _) _ _ s
  rw [if_pos hyes]
  obtain ⟨⟨cls, dd, data, sl'⟩, ho, hc, n, hd⟩ := id ht
  simp only at hc hd
  subst hc hd
  unfold Builtin.Tuple.tupleIsExact
  obtain ⟨hp, g, d, tk, os'⟩ := s
  wp_walk
  exact ⟨_, rfl, wpAny_pure h⟩
end
section
variable {X : Cx}
def rSlTW (K : PySem.W.Frag) : V → Option Int → Option Int → Hp → VK → Prop := fun x lo hi H Q => ∃ a xs, x = .ref a ∧ SqT K H a xs ∧
  ((HT.sIx xs.length 0 lo = 0 ∧ HT.sIx xs.length xs.length hi = xs.length) → Q (.ref a) H) ∧ (¬ (HT.sIx xs.length 0 lo = 0 ∧ HT.sIx xs.length xs.length hi = xs.length) → ∀ p, H p = none → Q (.ref p) (upd H p (.tup (cutV xs lo hi))))
theorem sl_tupW : SlR X (rSlTW X.K) := by
  intro pins s σ H x v vl vu lo hi sl Q I rx hs pl pu h
  obtain ⟨a, xs, rfl, hx, q1, q2⟩ := h
  by_cases hw : HT.sIx xs.length 0 lo = 0 ∧ HT.sIx xs.length xs.length hi = xs.length
  · cases rx
    obtain ⟨its, r, ht, hz⟩ := I.tuple hx
    have hlen : its.toArray.size = xs.length := by rw [List.size_toArray]; exact r.length.symm
    refine ⟨"tuple", _, PyProof.Rows.slot_tuple_getitem.lookup, ht.typeIs, ?_⟩
    exact getItem_tuple_whole ht hs pl pu (by rw [hlen]; exact hw.1) (by rw [hlen]; exact hw.2) ⟨.ref a, H, I, rfl, q1 hw⟩
  · exact sl_tup pins s σ H (.ref a) v vl vu lo hi sl Q I rx hs pl pu ⟨a, xs, rfl, hx, hw, q2 hw⟩
end
abbrev TOD := Rho → Nat → (Option Int → Nat → Prop) → Prop
def oOf (A : AC) (t : TOD) : TO := fun sg H Q => ∃ rho n P ds vs, Am A n rho sg H ds vs ∧ t rho n P ∧ ∀ o H' n', Am A n' rho sg H' ds vs → P o n' → Q o H'
@[irreducible] def POD (A : AC) (X : Cx) (e : Option Expr) (t : TOD) : Prop := PO X e (oOf A t)
theorem PO.imp {X : Cx} {e : Option Expr} {t t' : TO} (h : PO X e t) (hi : ∀ sg H Q, t' sg H Q → t sg H Q) : PO X e t' := fun pins s sg H Q I q => h pins s sg H Q I (hi _ _ _ q)
section
variable {A : AC} {X : Cx} {a b c e : Expr} {es : List Expr} {te ta tb tc : TD} {t1 : TAD} {pos p : Pos}
def oNone : TOD := fun _ n P => P none n
def oSome (t : TD) : TOD := fun rho n P => t rho n fun d n1 => intOf d fun i => P (some i) n1
@[simp] theorem q_oNone {rho n P} : oNone rho n P = P none n := rfl
@[simp] theorem q_oSome {t rho n P} : oSome t rho n P = t rho n fun d n1 => intOf d fun i => P (some i) n1 := rfl
theorem pod_none : POD A X none oNone := by
  with_unfolding_all
    exact po_none.imp fun sg H Q h => by
      obtain ⟨rho, n, P, ds, vs, I, h, hQ⟩ := h
      exact hQ none H n I h
theorem pod_some (h : PD A X e te) : POD A X (some e) (oSome te) := by
  with_unfolding_all
    exact (po_some h).imp fun sg H Q h => by
      obtain ⟨rho, n, P, ds, vs, I, h, hQ⟩ := h
      refine ⟨rho, n, _, ds, vs, I, h, fun v H' n' d ⟨os, J⟩ k => ?_⟩
      obtain ⟨i, rfl, k⟩ := k
      obtain ⟨J1, r⟩ := J.pop
      exact ⟨i, r.int_inv, hQ _ H' n' ⟨os, J1⟩ k⟩
def tupAt (d : D) (k : List D → Prop) : Prop := ∃ fs, d = .tup fs ∧ k fs
@[simp] theorem q_tupAt {fs : List D} {k} : tupAt (.tup fs) k ↔ k fs := ⟨fun ⟨_, e, h⟩ => by cases e; exact h, fun h => ⟨_, rfl, h⟩⟩
def dSlT (ta : TD) (tl th : TOD) : TD := fun rho n P => ta rho n fun d n1 => tl rho n1 fun lo n2 => th rho n2 fun hi n3 => tupAt d fun fs => P (.tup (cutL fs lo hi)) n3
@[simp] theorem q_dSlT {ta tl th rho n P} : dSlT ta tl th rho n P = ta rho n fun d n1 => tl rho n1 fun lo n2 => th rho n2 fun hi n3 => tupAt d fun fs => P (.tup (cutL fs lo hi)) n3 := rfl
theorem cut_whole {fs : List D} {lo hi : Option Int} (h : HT.sIx fs.length 0 lo = 0 ∧ HT.sIx fs.length fs.length hi = fs.length) : cutL fs lo hi = fs := by
  unfold cutL
  rw [h.1, h.2, List.drop_zero, Nat.sub_zero, List.take_length]
theorem pd_slT {le he : Option Expr} {tl th : TOD} {p2 : Pos} (hK : X.K = A.K) (ha : PD A X a ta) (hl : POD A X le tl) (hh : POD A X he th) : PD A X (.Subscript a (.Slice le he none p2) pos) (dSlT ta tl th) := by
  with_unfolding_all
    exact (pe_slice sl_tupW ha hl hh).imp fun sg H Q h => by
      obtain ⟨rho, n, P, ds, vs, I, ht, hQ⟩ := h
      refine ⟨rho, n, _, ds, vs, I, ht, fun v H1 n1 d J1 h1 => ⟨rho, n1, _, _, _, J1, h1, fun lo H2 n2 J2 h2 => ⟨rho, n2, _, _, _, J2, h2, fun hi H3 n3 ⟨os, J3⟩ h3 => ?_⟩⟩⟩
      obtain ⟨fs, rfl, k⟩ := h3
      obtain ⟨J4, r⟩ := J3.pop
      have r' := r
      obtain ⟨l, xs, rfl, sq, rs⟩ := r.tup_inv
      rw [hK]
      have hlen : xs.length = fs.length := rs.length
      refine ⟨l, xs, rfl, sq.sq, fun hw => ?_, fun hw p hp => hQ _ _ n3 _ ⟨os, J4.newTup (reps_cut rs lo hi) hp⟩ k⟩
      rw [hlen] at hw
      rw [cut_whole hw] at k
      exact hQ _ H3 n3 _ ⟨os, J4.push r'⟩ k
def flatD : D → Bool
  | .non => true | .bl _ => true | .int _ => true | .str _ => true | _ => false
def inD (x : D) (es : List D) : Bool := es.any fun y => eqD y x
theorem flat_of {K : PySem.W.Frag} {G : Option Addr} {Z : Addr → Prop} {H : Hp} {d : D} {v : V} (h : flatD d = true) (r : Rep K G Z H d v) : v = ofS d ∧ flatV v = true := by
  cases d <;> first | (have e := r.toS rfl; subst e; exact ⟨rfl, rfl⟩) | (simp [flatD] at h; done)
theorem eqV_D {x y : D} (hx : flatD x = true) (hy : flatD y = true) : eqV (ofS y) (ofS x) = eqD y x := by
  cases x <;> cases y <;> first | (simp [flatD] at hx; done) | (simp [flatD] at hy; done) | (simp [eqV, eqD, ofS]; done) | (simp [eqV, eqD, ofS]; rfl)
theorem inV_D {K : PySem.W.Frag} {G : Option Addr} {Z : Addr → Prop} {H : Hp} {x : D} (hx : flatD x = true) : ∀ {es : List D} {vs : List V}, es.all flatD = true → Reps K G Z H es vs → inV (ofS x) vs = inD x es ∧ vs.all flatV = true
  | [], vs, _, r => by rw [r.nil_inv]; exact ⟨rfl, rfl⟩
  | d :: es, vs, h, r => by
    rw [List.all_cons, Bool.and_eq_true] at h
    obtain ⟨v, w, rfl, q, t⟩ := r.split
    obtain ⟨e, f⟩ := flat_of h.1 q
    obtain ⟨e2, f2⟩ := inV_D hx h.2 t
    subst e
    constructor
    · unfold inV inD at e2 ⊢
      rw [List.any_cons, List.any_cons, e2, eqV_D hx h.1]
    · rw [List.all_cons, f, f2]; rfl
def rdIn (neg : Bool) : RD2 := fun d1 d2 k => flatD d1 = true ∧ ∃ es, (d2 = .tup es ∨ d2 = .lst es) ∧ es.all flatD = true ∧ k (.bl (if neg then !inD d1 es else inD d1 es))
theorem re_in {neg : Bool} : OpRel A (rIn A.K neg) (rdIn neg) := by
  rintro os n rho sg H ds vs d1 d2 v1 v2 k Q I ⟨h1, es, hd, hf, q⟩ hQ
  obtain ⟨I1, r2⟩ := I.pop
  obtain ⟨I2, r1⟩ := I1.pop
  obtain ⟨e1, f1⟩ := flat_of h1 r1
  subst e1
  rcases hd with rfl | rfl
  · obtain ⟨a, xs, e, sq, rs⟩ := r2.tup_inv
    obtain ⟨z1, z2⟩ := inV_D h1 hf rs
    exact ⟨a, xs, e, .inr sq.sq, f1, z2, by rw [z1]; exact hQ _ H _ ⟨os, I2.push (Rep.ofS rfl)⟩ q⟩
  · obtain ⟨a, xs, e, sq, rs⟩ := r2.lst_inv
    obtain ⟨z1, z2⟩ := inV_D h1 hf rs
    exact ⟨a, xs, e, .inl sq.sq, f1, z2, by rw [z1]; exact hQ _ H _ ⟨os, I2.push (Rep.ofS rfl)⟩ q⟩
end
end L2
namespace L2
open PySem PySem.Spec PyProof.Rows
section
variable {A : AC} {X : Cx} {a b c e : Expr} {es : List Expr} {te ta tb tc : TD} {t1 : TAD} {pos p : Pos}
theorem big_of {pins : List (Addr × Obj)} {σ : St} {H : Hp} {s : Shared} (I : Inv X pins σ H s) : sysModules < s.heap.objs.size := Nat.lt_trans (by decide) (I.mod.glob.keeps I.bk).lt
def tDic : TE := fun _ H Q => ∀ p, H p = none → Q (.ref p) (upd H p (.dK []))
theorem dic_ok {P : Program} {w : World} {H : Hp} (h : Heap) (hb : sysModules < h.objs.size) : ObjOk P w H (h.push { cls := .type "dict", data := .dict #[] }) h.objs.size (.dK []) :=
  ⟨Nat.zero_le _, beq_eq_false_iff_ne.mpr (Ne.symm (Nat.ne_of_lt hb)), [], .nil, Heap.DictOf.new h⟩
theorem pe_dic0 : PE X (.Dict [] [] pos) tDic := fun pins s σ H Q I h =>
  wpAny_Dict_empty ⟨.ref s.heap.objs.size, _, I.laid (a := s.heap.objs.size) (o := .dK []) (t' := s.toks) (fun _ _ q => Heap.get?_push_of_some _ q) (Nat.le_refl _) (dic_ok s.heap (big_of I)), rfl, h _ (I.hok.fresh (Nat.le_refl _))⟩
theorem AmO.newDic {os n rho sg H ds vs} {p : Addr} (I : AmO A os n rho sg H ds vs) (hp : H p = none) : AmO A os n rho sg (upd H p (.dK [])) (.dic :: ds) (.ref p :: vs) := by
  have g := I.grow (o := .dK []) hp
  refine g.push ?_
  unfold Rep
  exact ⟨p, [], rfl, fun z => I.zH p z hp, upd_same⟩
theorem dic_imp {e : Expr} (h : PE X e tDic) : PD A X e (dC .dic) := by
  with_unfolding_all
    exact h.imp fun sg H Q h => by
      obtain ⟨rho, n, P, ds, vs, ⟨os, I⟩, q, hQ⟩ := h
      exact fun p hp => hQ _ _ n _ ⟨os, I.newDic hp⟩ q
end
def litsWith (f : Expr → Option D) : List Expr → Option (List D)
  | [] => some []
  | e :: es => match f e, litsWith f es with
    | some d, some ds => some (d :: ds)
    | _, _ => none
def litD : Nat → Expr → Option D
  | 0, _ => none
  | k + 1, e => match e with
    | .Constant .none _ _ => some .non
    | .Constant (.bool b) _ _ => some (.bl b)
    | .Constant (.int i) _ _ => some (.int i)
    | .Constant (.str x) _ _ => some (.str x)
    | .UnaryOp .USub (.Constant (.int i) _ _) _ => some (.int (-i))
    | .Tuple es _ _ => match litsWith (litD k) es with
      | some ds => if ds.length ≤ 30 then some (.tup ds) else none
      | none => none
    | .List es _ => match litsWith (litD k) es with
      | some ds => if ds.length ≤ 30 then some (.lst ds) else none
      | none => none
    | .Dict [] [] _ => some .dic
    | _ => none
theorem lit_star {k : Nat} {e : Expr} {d : D} (h : litD k e = some d) : starred e = false := by
  cases k with
  | zero => cases (show (none : Option D) = some d from h)
  | succ k => cases e <;> first | rfl | cases (show (none : Option D) = some d from h)
section
variable {A : AC} {X : Cx}
theorem PD.imp {e : Expr} {t t' : TD} (h : PD A X e t) (hi : ∀ rho n P, t' rho n P → t rho n P) : PD A X e t' := by
  with_unfolding_all
    exact PE.imp h fun sg H Q q => by
      obtain ⟨rho, n, P, ds, vs, I, q, hQ⟩ := q
      exact ⟨rho, n, P, ds, vs, I, hi _ _ _ q, hQ⟩
def aLit (ds : List D) : TAD := fun _ n P => P ds n
theorem lits_ok {f : Expr → Option D} (hf : ∀ e d, f e = some d → PD A X e (dC d) ∧ starred e = false) : ∀ {es : List Expr} {ds : List D}, litsWith f es = some ds → PAD A X es (aLit ds)
  | [], ds, h => by cases h; exact pad_nil
  | e :: es, ds, h => by
    unfold litsWith at h
    cases h1 : f e with
    | none => rw [h1] at h; simp at h
    | some d =>
      cases h2 : litsWith f es with
      | none => rw [h1, h2] at h; simp at h
      | some ds' =>
        rw [h1, h2] at h
        cases h
        obtain ⟨p, q⟩ := hf e d h1
        exact pad_cons p (lits_ok hf h2) q
theorem pd_lit : ∀ (k : Nat) {e : Expr} {d : D}, litD k e = some d → PD A X e (dC d)
  | 0, e, d, h => by cases (show (none : Option D) = some d from h)
  | k + 1, e, d, h => by
    have hf : ∀ e d, litD k e = some d → PD A X e (dC d) ∧ starred e = false := fun e d h => ⟨pd_lit k h, lit_star h⟩
    have no : ∀ {R : Prop}, (none : Option D) = some d → R := fun h => nomatch h
    cases e with
    | Constant c _ _ => cases c <;> first | (cases h; first | exact pd_non | exact pd_bl | exact pd_int | exact pd_str; done) | exact no h
    | UnaryOp op a _ =>
      cases op <;> first | exact no h | skip
      cases a <;> first | exact no h | skip
      rename_i c _ _
      cases c <;> first | exact no h | (cases h; exact (pd_neg pd_int).imp fun rho n P q => ⟨_, rfl, q⟩)
    | Tuple es _ _ =>
      have h : (match litsWith (litD k) es with | some ds => if ds.length ≤ 30 then some (D.tup ds) else none | none => none) = some d := h
      cases h2 : litsWith (litD k) es with
      | none => rw [h2] at h; exact no h
      | some ds =>
        rw [h2] at h
        have h : (if ds.length ≤ 30 then some (D.tup ds) else none) = some d := h
        by_cases hz : ds.length ≤ 30
        · rw [if_pos hz] at h
          cases h
          exact (pd_tup (lits_ok hf h2)).imp fun rho n P q => ⟨Nat.le_trans hz (le_size (by decide)), q⟩
        · rw [if_neg hz] at h; exact no h
    | List es _ =>
      have h : (match litsWith (litD k) es with | some ds => if ds.length ≤ 30 then some (D.lst ds) else none | none => none) = some d := h
      cases h2 : litsWith (litD k) es with
      | none => rw [h2] at h; exact no h
      | some ds =>
        rw [h2] at h
        have h : (if ds.length ≤ 30 then some (D.lst ds) else none) = some d := h
        by_cases hz : ds.length ≤ 30
        · rw [if_pos hz] at h
          cases h
          exact (pd_lst (lits_ok hf h2)).imp fun rho n P q => ⟨Nat.le_trans hz (le_size (by decide)), q⟩
        · rw [if_neg hz] at h; exact no h
    | Dict ks vs _ =>
      cases ks with
      | nil =>
        cases vs with
        | nil => cases h; exact dic_imp pe_dic0
        | cons _ _ => exact no h
      | cons _ _ => exact no h
    | _ => exact no h
end
end L2
namespace L2
open PySem PySem.Spec PyProof.Rows
section
variable {A : AC} {X : Cx} {pos p : Pos}
def dFn0 (t : TF) : TD := fun _ n P => t [] n P
@[simp] theorem q_dFn0 {t rho n P} : dFn0 t rho n P = t [] n P := rfl
end
mutual
def okA : D → Bool
  | .non => true
  | .bl _ => true
  | .int _ => true
  | .str _ => true
  | .dic => true
  | .tup ds => decide (ds.length ≤ 1000) && okAs ds
  | .lst ds => decide (ds.length ≤ 1000) && okAs ds
  | _ => false
def okAs : List D → Bool
  | [] => true
  | d :: ds => okA d && okAs ds
end
theorem okAs_iff : ∀ {ds : List D}, okAs ds = true ↔ ∀ d ∈ ds, okA d = true
  | [] => by unfold okAs; simp
  | c :: ds => by
    unfold okAs
    rw [Bool.and_eq_true, okAs_iff]
    simp
theorem okA_tup {ds : List D} : okA (.tup ds) = true ↔ (ds.length ≤ 1000 ∧ ∀ d ∈ ds, okA d = true) := by
  have e : okA (.tup ds) = (decide (ds.length ≤ 1000) && okAs ds) := by rw [okA]
  rw [e, Bool.and_eq_true, decide_eq_true_iff, okAs_iff]
theorem okA_isi {d : D} (h : okA d = true) : isiOk d = true := by cases d <;> first | rfl | (simp [okA] at h; done)
theorem okA_own {d : D} (h : okA d = true) : notOwn d = true := by cases d <;> first | rfl | (simp [okA] at h; done)
theorem cut_mem {es : List D} {lo hi : Option Int} {d : D} (h : d ∈ cutL es lo hi) : d ∈ es := by
  unfold cutL at h
  exact List.mem_of_mem_drop (List.mem_of_mem_take h)
theorem cut_len (es : List D) (lo hi : Option Int) : (cutL es lo hi).length ≤ es.length := by
  unfold cutL
  rw [List.length_take, List.length_drop]
  lia
end L2
set_option maxRecDepth 100000
namespace L2
open PySem PySem.Spec PyProof.Rows
section
variable {A : AC} {X : Cx} {a b e : Expr} {ta tb : TD} {pos p : Pos}
def sSetCatO (i : Nat) (ta tb : TD) : TSD := fun F rho n => i < rho.length ∧ ta rho n fun d1 n1 => tb rho n1 fun d2 n2 => lstOf d1 fun es => lstOf d2 fun fs => es.length + fs.length ≤ sizeLine ∧ F.nx (rho.set i (some (.own (es ++ fs)))) n2
@[simp] theorem q_sSetCatO {i ta tb F rho n} : sSetCatO i ta tb F rho n = (i < rho.length ∧ ta rho n fun d1 n1 => tb rho n1 fun d2 n2 => lstOf d1 fun es => lstOf d2 fun fs => es.length + fs.length ≤ sizeLine ∧ F.nx (rho.set i (some (.own (es ++ fs)))) n2) := rfl
def kStr : List D → (D → Prop) → Prop := fun es k => ∃ i : Int, es = [.int i] ∧ i.natAbs.log2 < 1920 ∧ k (.str (toString i))
@[simp] theorem q_kStr {i : Int} {k} : kStr [.int i] k ↔ (i.natAbs.log2 < 1920 ∧ k (.str (toString i))) := ⟨fun ⟨_, e, h⟩ => by cases e; exact h, fun h => ⟨_, rfl, h⟩⟩
end
end L2
namespace L2
open PySem PySem.Spec PyProof.Rows HT
section
variable {prog : Program} {w : World} {A : Around} {E : Value → Shared → Prop} {s : Shared}
theorem adjust_rev (n : Nat) : Builtin.Slice.sliceAdjust none none (-1) (n : Int) = ((n : Int) - 1, -1) := by
  unfold Builtin.Slice.sliceAdjust
  simp
theorem places_rev (n : Nat) : Builtin.Slice.slicePlaces ((n : Int) - 1) (-1) (-1) = n := by
  unfold Builtin.Slice.slicePlaces
  simp
  lia
theorem sliceApplied_rev {sl : Addr} {t : Tok} {n : Nat} {Q : Int × Int × Nat → Shared → Prop} (hs : s.heap.IsSliceOf sl .none .none (.int (-1) t))
    (h : Q ((n : Int) - 1, -1, n) s) : wpAny (model prog w) A (Builtin.Slice.sliceApplied (.ref sl) (pure (n : Int))) Q E s := by
  obtain ⟨os, hos, hcs, hds⟩ := id hs
  unfold Builtin.Slice.sliceApplied Builtin.Slice.sliceFields
  refine wpAny_bind (wpAny_bind (wpAny_field hos hds (x := .none) rfl (wpAny_bind (wpAny_field hos hds (x := .none) rfl (wpAny_bind (wpAny_field hos hds (x := .int (-1) t) rfl (wpAny_pure ?_)))))))
  refine wpAny_bind (slicePart_int ?_)
  show wpAny _ _ (if ((-1 : Int) == 0) = true then _ else _) _ _ s
  rw [if_neg (by decide)]
  refine wpAny_bind (slicePart_none (wpAny_bind (slicePart_none (wpAny_bind (wpAny_pure ?_)))))
  show wpAny _ _ (match Builtin.Slice.sliceAdjust none none (-1) (n : Int) with | (lo, hi) => pure (lo, (-1 : Int), Builtin.Slice.slicePlaces lo hi (-1))) _ _ s
  rw [adjust_rev n]
  show wpAny _ _ (pure ((n : Int) - 1, (-1 : Int), Builtin.Slice.slicePlaces ((n : Int) - 1) (-1) (-1))) _ _ s
  rw [places_rev]
  exact wpAny_pure h
theorem fm_congr {f g : Nat → Option Value} : ∀ {l : List Nat}, (∀ x ∈ l, f x = g x) → l.filterMap f = l.filterMap g
  | [], _ => rfl
  | a :: l, h => by
    rw [List.filterMap_cons, List.filterMap_cons, h a (List.mem_cons_self ..), fm_congr fun x hx => h x (List.mem_cons_of_mem _ hx)]
theorem pick_rev (xs : Array Value) : ((List.range xs.size).filterMap fun (m : Nat) => xs[((xs.size : Int) - 1 + (m : Int) * (-1)).toNat]?).toArray = xs.toList.reverse.toArray := by
  have h := pick_gen xs.toList.reverse.toArray 0 xs.size
  have e : (List.range xs.size).filterMap (fun (m : Nat) => xs[((xs.size : Int) - 1 + (m : Int) * (-1)).toNat]?) = (List.range xs.size).filterMap (fun (m : Nat) => xs.toList.reverse.toArray[((0 : Nat) + (m : Int) * 1).toNat]?) := by
    refine fm_congr fun m hm => ?_
    have hm' := List.mem_range.mp hm
    have e1 : ((xs.size : Int) - 1 + (m : Int) * (-1)).toNat = xs.size - 1 - m := by lia
    have e2 : (((0 : Nat) : Int) + (m : Int) * 1).toNat = m := by lia
    rw [e1, e2]
    simp only [List.getElem?_toArray]
    rw [List.getElem?_reverse (by simpa using hm')]
    simp
  rw [e, h]
  congr 1
  rw [List.drop_zero]
  exact List.take_of_length_le (by simp)
theorem getItem_tuple_rev {t sl : Addr} {items : Array Value} {tk : Tok} {Q : Value → Shared → Prop} (ht : IsTup s.heap t items) (hs : s.heap.IsSliceOf sl .none .none (.int (-1) tk))
    (h : Q (.ref s.heap.objs.size) { s with heap := s.heap.push { cls := .type "tuple", data := .seq items.toList.reverse.toArray } }) (hsz : items.size ≤ sizeLine) : wpAny (model prog w) A (getItem (.ref t) (.ref sl)) Q E s := by
  have htake : sizeOk (.seq items.toList.reverse.toArray) := by
    show items.toList.reverse.toArray.size ≤ sizeLine
    simpa using hsz
  obtain ⟨os, hos, hcs, hds⟩ := id hs
  have hTs : s.TypeIs (.ref sl) "slice" := ⟨os, hos, hcs⟩
  unfold getItem
  try with_reducible refine wpAny_holding ?_
  first | refine wpAny_bind (wpAny_pure ?_) | skip
  refine wpAny_bind (wpAny_sequenceKey ht.typeIs (by decide) ?_)
  refine wpAny_bind (wpAny_callSpecial?_slot (name := Str.ofString "__getitem__") ht.typeIs PyProof.Rows.slot_tuple_getitem
    (wpAny_call_entry PyProof.Rows.slot_tuple_getitem ht.typeIs entry_tuple_getitem ?_ (args_tuple_getitem _ _)))
  show wpAny _ _ (Builtin.Tuple.tupleItemsOf (.ref t) >>= _) _ _ s
  refine wpAny_bind (tupleItemsOf_ ht ?_)
  refine wpAny_bind (wpAny_typeOf hTs ?_)
  rw [if_pos (by decide)]
  refine wpAny_bind (sliceApplied_rev hs ?_)
  have hno : ¬ ((((items.size : Int) - 1) == 0 && (-1 : Int) == 1 && items.size == items.size) = true) := by simp
  show wpAny _ _ (if (((items.size : Int) - 1) == 0 && (-1 : Int) == 1 && items.size == items.size) = true then _ else _) _ _ s
  rw [if_neg hno, pick_rev]
  first
    | exact wpAny_bind (m := Builtin.Tuple.tupleExact _) (wpAny_newObj_type (wpAny_pure ⟨_, rfl, wpAny_pure h⟩) htake)
    | exact wpAny_bind (m := Builtin.Tuple.tupleExact _) (wpAny_newObj_type (wpAny_bind (wpAny_pure (wpAny_pure ⟨_, rfl, wpAny_pure h⟩))) htake)
    | exact wpAny_bind (wpAny_bind (m := Builtin.Tuple.tupleExact _) (wpAny_newObj_type (wpAny_pure (wpAny_pure ⟨_, rfl, wpAny_pure h⟩)) htake))
    | exact wpAny_bind (wpAny_bind (m := Builtin.Tuple.tupleExact _) (wpAny_newObj_type (wpAny_pure ⟨_, rfl, wpAny_pure h⟩) htake))
end
section
variable {X : Cx} {e : Expr} {te : TE} {pos p2 : Pos}
def tRev (K : PySem.W.Frag) (te : TE) : TE := fun σ H Q => te σ H fun x H1 => ∃ a xs, x = .ref a ∧ SqT K H1 a xs ∧ ∀ p, H1 p = none → Q (.ref p) (upd H1 p (.tup xs.reverse))
theorem pe_rev {st : Expr} (he : PE X e te) (hst : PE X st fun _ H Q => Q (.int (-1)) H) : PE X (.Subscript e (.Slice none none (some st) p2) pos) (tRev X.K te) := by
  intro pins s σ H Q I h
  refine Subscript_ (thn (he pins s σ H _ I h) fun v s1 ⟨x, H1, I1, r1, q1⟩ => ?_)
  obtain ⟨a, xs, rfl, hx, q1⟩ := q1
  refine wpAny_Slice ?_
  rw [evalPart_none]
  refine wpAny_pure (wpAny_pure ?_)
  rw [evalPart_some]
  refine thn (hst pins s1 σ H1 (fun y H2 => y = .int (-1) ∧ H2 = H1) I1 ⟨rfl, rfl⟩) fun u s3 ⟨y, H3, I3, ry, ey, eH⟩ => ?_
  subst ey eH
  obtain ⟨tk, rfl⟩ := ry
  cases r1
  have I4 : Inv X pins σ H3 { s3 with heap := s3.heap.push { cls := .type "slice", data := .fields #[.none, .none, .int (-1) tk] } } := I3.kept (t' := s3.toks) fun b ob q => Heap.get?_push_of_some _ q
  obtain ⟨its, r, ht, hz⟩ := I4.tuple hx
  have hlen : its.toArray.size = xs.length := by rw [List.size_toArray]; exact r.length.symm
  refine tail_any (ops := [.ref a, .ref s3.heap.objs.size]) ht.typeIs PyProof.Rows.slot_tuple_getitem.lookup (getItem_tuple_rev ht (Heap.IsSliceOf.new ..) ?_ (by rw [hlen]; exact hz)) (by with_unfolding_all rfl)
  refine ⟨.ref _, _, I4.laid (t' := s3.toks) (o := .tup xs.reverse) (fun b ob q => Heap.get?_push_of_some _ q) (Nat.le_refl _) ?_, rfl, q1 _ (I4.hok.fresh (Nat.le_refl _))⟩
  exact ⟨by rw [List.length_reverse]; exact hz, its.reverse, r.reverse, ⟨_, Heap.get?_push_size _ rfl, rfl, _, rfl⟩⟩
end
section
variable {A : AC} {X : Cx} {a : Expr} {ta : TD} {pos p2 p3 p4 : Pos}
theorem Reps.reverse {K : PySem.W.Frag} {G : Option Addr} {Z : Addr → Prop} {H : Hp} : ∀ {ds : List D} {vs : List V}, Reps K G Z H ds vs → Reps K G Z H ds.reverse vs.reverse
  | [], vs, h => by rw [h.nil_inv]; exact .nil
  | d :: ds, vs, h => by
    obtain ⟨v, r, rfl, q, t⟩ := h.split
    rw [List.reverse_cons, List.reverse_cons]
    exact (Reps.reverse t).append (.cons q .nil)
def dRev (ta : TD) : TD := fun rho n P => ta rho n fun d n1 => tupAt d fun fs => P (.tup fs.reverse) n1
@[simp] theorem q_dRev {ta rho n P} : dRev ta rho n P = ta rho n fun d n1 => tupAt d fun fs => P (.tup fs.reverse) n1 := rfl
theorem pd_rev {j : Nat} (hK : X.K = A.K) (ha : PD A X a ta) : PD A X (.Subscript a (.Slice none none (some (.UnaryOp .USub (.Constant (.int 1) j p4) p3)) p2) pos) (dRev ta) := by
  with_unfolding_all
    exact (pe_rev ha ((pe_un un_neg pe_int).imp fun sg H Q q => ⟨1, rfl, q⟩)).imp fun sg H Q h => by
      obtain ⟨rho, n, P, ds, vs, I, ht, hQ⟩ := h
      refine ⟨rho, n, _, ds, vs, I, ht, fun v H1 n1 d ⟨os, J⟩ k => ?_⟩
      obtain ⟨fs, rfl, k⟩ := k
      obtain ⟨J1, r⟩ := J.pop
      obtain ⟨l, xs, rfl, sq, rs⟩ := r.tup_inv
      rw [hK]
      exact ⟨l, xs, rfl, sq.sq, fun p hp => hQ _ _ n1 _ ⟨os, J1.newTup rs.reverse hp⟩ k⟩
end
end L2
set_option maxRecDepth 100000
namespace L2
open PySem PySem.Spec PyProof.Rows PySem.W PySem.Calls PySem.NumText
section
variable {A : AC} {X : Cx} {e : Expr} {te : TD} {pos : Pos}
def sWhile (tc : TBD) (tb : TSD) : TSD := fun F rho n => ∃ J : Nat → Rho → Nat → Prop, (∃ m, J m rho n) ∧ ∀ m rho n, J m rho n → tc rho n fun b n1 => if b = true then tb { F with nx := fun rho' n' => ∃ m', m' < m ∧ J m' rho' n', ct := fun rho' n' => ∃ m', m' < m ∧ J m' rho' n', bk := F.nx } rho n1 else F.nx rho n1
@[simp] theorem q_sWhile {tc tb F rho n} : sWhile tc tb F rho n = ∃ J : Nat → Rho → Nat → Prop, (∃ m, J m rho n) ∧ ∀ m rho n, J m rho n → tc rho n fun b n1 => if b = true then tb { F with nx := fun rho' n' => ∃ m', m' < m ∧ J m' rho' n', ct := fun rho' n' => ∃ m', m' < m ∧ J m' rho' n', bk := F.nx } rho n1 else F.nx rho n1 := rfl
def sAugI (f : Int → Int → Int) (i : Nat) (te : TD) : TSD := fun F rho n => i < rho.length ∧ ∃ a : Int, rho[i]? = some (some (.int a)) ∧ te rho n fun d n1 => ∃ b : Int, d = .int b ∧ F.nx (rho.set i (some (.int (f a b)))) n1
@[simp] theorem q_sAugI {f i te F rho n} : sAugI f i te F rho n = (i < rho.length ∧ ∃ a : Int, rho[i]? = some (some (.int a)) ∧ te rho n fun d n1 => ∃ b : Int, d = .int b ∧ F.nx (rho.set i (some (.int (f a b)))) n1) := rfl
def rdCatS : RD2 := fun d1 d2 k => ∃ x y, d1 = .str x ∧ d2 = .str y ∧ x.length + y.length ≤ sizeLine ∧ k (.str (x ++ y))
theorem re_catS : OpRel A (fun x y H Q => ∃ i j, x = .str i ∧ y = .str j ∧ i.length + j.length ≤ sizeLine ∧ Q (.str (i ++ j)) H) rdCatS := by
  rintro os n rho sg H ds vs d1 d2 v1 v2 k Q I ⟨x, y, rfl, rfl, hz, q⟩ hQ
  obtain ⟨I1, r2⟩ := I.pop
  obtain ⟨I2, r1⟩ := I1.pop
  exact ⟨x, y, r1.toS rfl, r2.toS rfl, hz, hQ _ H _ ⟨os, I2.push (Rep.ofS rfl)⟩ q⟩
@[simp] theorem q_rdCatS {x y k} : rdCatS (.str x) (.str y) k ↔ (x.length + y.length ≤ sizeLine ∧ k (.str (x ++ y))) := ⟨fun ⟨_, _, e, e', h⟩ => by cases e; cases e'; exact h, fun h => ⟨_, _, rfl, rfl, h⟩⟩
theorem op_mulS : OpR X (binaryOp .Mult) (fun x y H Q => ∃ i n, x = .str i ∧ y = .int n ∧ MulOk i n ∧ Q (.str (Txt.mul i n)) H) := by
  intro pins s σ H x y v u Q I rx ry h
  obtain ⟨i, n, rfl, rfl, hz, q⟩ := h
  obtain ⟨t, rfl⟩ := rx
  obtain ⟨t', rfl⟩ := ry
  exact SB.mul hz fun t' k => ⟨.str (Txt.mul i n), H, I.tok _, ⟨_, rfl⟩, q⟩
def rdMulS : RD2 := fun d1 d2 k => ∃ x i, d1 = .str x ∧ d2 = .int i ∧ MulOk x i ∧ k (.str (Txt.mul x i))
theorem re_mulS : OpRel A (fun x y H Q => ∃ i n, x = .str i ∧ y = .int n ∧ MulOk i n ∧ Q (.str (Txt.mul i n)) H) rdMulS := by
  rintro os n rho sg H ds vs d1 d2 v1 v2 k Q I ⟨x, y, rfl, rfl, hz, q⟩ hQ
  obtain ⟨I1, r2⟩ := I.pop
  obtain ⟨I2, r1⟩ := I1.pop
  exact ⟨x, y, r1.toS rfl, r2.toS rfl, hz, hQ _ H _ ⟨os, I2.push (Rep.ofS rfl)⟩ q⟩
@[simp] theorem q_rdMulS {x i k} : rdMulS (.str x) (.int i) k ↔ (MulOk x i ∧ k (.str (Txt.mul x i))) := ⟨fun ⟨_, _, e, e', h⟩ => by cases e; cases e'; exact h, fun h => ⟨_, _, rfl, rfl, h⟩⟩
end
theorem wp_long {M : Model} {A : Around} {E : Value → Shared → Prop} {s : Shared} {Q : Value → Shared → Prop} {v : Value} {text : List Nat} {n : Int}
    (hs : ¬ (text.takeWhile (· != 0)).length ≤ 640) (hr : (int_private% "readNumeral") 4300 10 (text.takeWhile (· != 0)) = (int_private% "Numeral.value") n)
    (ha : ((text.takeWhile (· != 0)).length == text.length) = true) (hn : s.heap.NoDigits) (h : Q (.int n s.toks) { s with toks := s.toks + 1 }) :
    wpAny M A ((int_private% "intFromText") v text 10) Q E s := by
  obtain ⟨mc, hns, hnone⟩ := hn
  obtain ⟨hp, g, d, tk, os⟩ := s
  have hi : ∀ {Q : Nat → Shared → Prop}, Q 4300 ⟨hp, g, d, tk, os⟩ → wpAny M A Builtin.intMaxStrDigits Q E ⟨hp, g, d, tk, os⟩ := fun {Q} q => by
    unfold Builtin.intMaxStrDigits
    refine wpAny_bind (wpAny_nsGet hns ?_)
    rw [hnone]
    exact wpAny_pure q
  repeat (any_goals (first
    | assumption
    | (with_reducible refine wpAny_ite_false (decide_eq_false hs) ?_)
    | (with_reducible refine wpAny_ite_true (decide_eq_true ha) ?_)
    | (with_reducible refine hi ?_)
    | wp_step))
  all_goals (try rw [hr])
  all_goals (try dsimp only)
  repeat (any_goals (first
    | assumption
    | (with_reducible refine wpAny_ite_true (decide_eq_true ha) ?_)
    | wp_step))
set_option maxHeartbeats 4000000 in
theorem meets_long {x : PySem.Str} {u : Tok} {n : Int} (hs : ¬ (numSeenOf x).length ≤ 640) (hl : x.length ≤ sizeLine) (hn : PySem.intText? x = some n) : Meets (Builtin.«int.__new__» ⟨[.type "int", .str x u], []⟩) (fun A R s => s.heap.NoDigits ∧ R (.ok (.ret (.int n s.toks))) { s with toks := s.toks + 1 }) := by
  intro prog w A R s h
  obtain ⟨hd, h⟩ := h
  obtain ⟨hp, g, d, tk, os⟩ := s
  have f1 := F.conv_sub_int
  have f2 := F.madeHere_int
  have f3 := KIN.str_int
  have f4 := KIN.str_idx
  have f5 := KIN.str_trunc
  have f6 : typeOf (.str x u) = pure (.type "str") := rfl
  have hr : (int_private% "readNumeral") 4300 10 (numSeenOf x) = (int_private% "Numeral.value") n ∧ ((numSeenOf x).length == (numTextOf x).length) = true := by
    rcases read4300 x hl with ⟨m, h1, h2, h3⟩ | ⟨h1, _⟩
    · rw [hn] at h1
      injection h1 with h1
      subst h1
      exact ⟨h3, h2⟩
    · rw [hn] at h1
      cases h1
  have hk := KIN.Hid.mk (And.intro hs (And.intro hr hd))
  clear hs hr hl hn hd
  repeat (any_goals (first
    | assumption
    | ((with_reducible show wpAny _ _ ((int_private% "intFromText") _ _ _) _ _ _); refine wp_long hk.out.1 hk.out.2.1.1 hk.out.2.1.2 hk.out.2.2 ?_)
    | wp_step))
theorem call_long {prog : Program} {w : World} {A : Around} {E : Value → Shared → Prop} {s : Shared} {Q : Value → Shared → Prop} {x : PySem.Str} {t : Tok} {n : Int} (hs : ¬ (numSeenOf x).length ≤ 640) (hl : x.length ≤ sizeLine) (hn : PySem.intText? x = some n) (hd : s.heap.NoDigits) (h : Q (.int n s.toks) { s with toks := s.toks + 1 }) : wpAny (model prog w) A (call (.type "int") [.str x t]) Q E s :=
  call_int_1 (meets_long hs hl hn) ⟨hd, rfl, h⟩
section
variable {A : AC} {X : Cx}
theorem call_int_long (hd : X.base.NoDigits) : CallR X (.type "int") (fun xs H Q => ∃ x n, xs = [.str x] ∧ ¬ (numSeenOf x).length ≤ 640 ∧ x.length ≤ sizeLine ∧ PySem.intText? x = some n ∧ Q (.int n) H) := by
  intro pins s σ H xs us Q I r h
  obtain ⟨x, n, rfl, h1, h2, h3, q⟩ := h
  obtain ⟨u, rfl, t, rfl⟩ := vals1 r
  exact call_long h1 h2 h3 (hd.keeps I.bk) ⟨.int n, H, I.tok _, ⟨_, rfl⟩, q⟩
def kIntL : List D → (D → Prop) → Prop := fun es k => ∃ x n, es = [.str x] ∧ ¬ (numSeenOf x).length ≤ 640 ∧ x.length ≤ sizeLine ∧ PySem.intText? x = some n ∧ k (.int n)
theorem cr_intL : CallRel A (fun xs H Q => ∃ x n, xs = [.str x] ∧ ¬ (numSeenOf x).length ≤ 640 ∧ x.length ≤ sizeLine ∧ PySem.intText? x = some n ∧ Q (.int n) H) kIntL := by
  rintro os n rho sg H ds vs es ws k Q I rs ⟨x, m, rfl, h1, h2, h3, q⟩ hQ
  obtain ⟨v, rfl, r⟩ := reps1 rs
  exact ⟨x, m, by rw [r.toS rfl]; rfl, h1, h2, h3, hQ _ H _ ⟨os, I.push (Rep.ofS rfl)⟩ q⟩
end
theorem fold_rep : ∀ (k : Nat) (a : Array Nat), ((List.replicate k #[48]).foldl (· ++ ·) a).toList = a.toList ++ List.replicate k 48
  | 0, a => by simp
  | k + 1, a => by
    rw [List.replicate_succ, List.foldl_cons, fold_rep k, Array.toList_append, List.append_assoc]
    rfl
theorem cps_noughts (k : Int) (h : 1 < k) : (Str.ofString "1" ++ Txt.mul (Str.ofString "0") k).cps.toList = 49 :: List.replicate k.toNat 48 := by
  have e : (Str.ofString "0").cps = #[48] := by decide +kernel
  have e1 : (Str.ofString "1").cps = #[49] := by decide +kernel
  have el : (Str.ofString "0").length = 1 := by decide +kernel
  unfold Txt.mul
  rw [if_neg (by lia), if_neg (by simp [el]; lia)]
  show ((Str.ofString "1").cps ++ _).toList = _
  rw [e1, Array.toList_append, e, fold_rep]
  rfl
theorem int_noughts (k : Int) (h : 700 < k) (h2 : k < 4200) : ∃ m : Int, 0 < m ∧ ¬ (numSeenOf (Str.ofString "1" ++ Txt.mul (Str.ofString "0") k)).length ≤ 640 ∧ (Str.ofString "1" ++ Txt.mul (Str.ofString "0") k).length ≤ sizeLine ∧ PySem.intText? (Str.ofString "1" ++ Txt.mul (Str.ofString "0") k) = some m := by
  have ec := cps_noughts k (by lia)
  generalize hx : Str.ofString "1" ++ Txt.mul (Str.ofString "0") k = x at *
  have hl : x.length = k.toNat + 1 := by
    have : x.cps.toList.length = x.length := Array.length_toList
    rw [← this, ec]; simp
  have hd : NumText.AllDigits x.cps.toList := fun c hc => by
    rw [ec] at hc
    rcases List.mem_cons.mp hc with rfl | hc
    · lia
    · rw [(List.mem_replicate.mp hc).2]; lia
  refine ⟨(NumText.digitsVal x.cps.toList : Nat), ?_, ?_, ?_, intText_digits hd (by rw [ec]; simp) (by lia)⟩
  · rw [ec]
    have := NumText.digitsVal_pos (c := 49) (cs := List.replicate k.toNat 48) (by decide)
    lia
  · rw [(numText_signs fun c hc => Or.inr (hd c hc)).2, ec]; simp; lia
  · rw [hl, sizeLine_eq]; lia
theorem mulok_nought (k : Int) (h : 1 < k) (h2 : k < 10000) : MulOk (Str.ofString "0") k := by
  have el : (Str.ofString "0").length = 1 := by decide +kernel
  refine ⟨by simp; lia, fun _ _ => ?_, fun _ _ => ?_⟩
  · rw [el]
    have : 1 ≤ (2 ^ 63 - 1 : Int) / k := (Int.le_ediv_iff_mul_le (by lia)).mpr (by lia)
    intro z
    exact absurd z (Int.not_lt.mpr this)
  · rw [el]
    unfold Builtin.Str.tooLong
    exact decide_eq_false (by rw [sizeLine_eq]; lia)
end L2
set_option maxRecDepth 100000
namespace L2
open PySem PySem.Spec PyProof.Rows
theorem law_callN {P : Program} {w : World} {K : PySem.W.Frag} {mg mb : Str → Option Value} {CX : CXT} {k : Nat} {fa a : Addr} {fd : FuncData} {x : Str} {sp : Sp} {s₁ : Shared} {vs : List Value} {ns : List Int}
    (KX : K.In s₁.heap) (hns : s₁.heap.Ns mainGlobals mg) (hb : s₁.heap.Ns builtinsNs mb) (hbb : ∀ x : Str, x ≠ "__name__" → mb x = bootBuiltins x) (hlim : s₁.heap.NoLimit) (hdig : s₁.heap.NoDigits) (hg : s₁.gens = #[])
    (ha : s₁.heap.get? a = some { cls := .type "list", data := .seq vs.toArray }) (hi : IntsAre vs ns) (hl : ns.length ≤ sizeLine) (hr : Room k callerA)
    (F : ∀ base : Heap, K.In base → base.Ns mainGlobals mg → base.NoDigits → FnOk P w K mg base CX k fa fd [x] sp) (hbind : ∀ (s : Shared) (u : Value), BindsTo s fd ⟨[u], []⟩ [(x, u)])
    (hsp : ∀ H : Hp, Only H → SqL K H a (ns.map V.int) → sp [.ref a] H (fun v _ => v = .bl true) fun _ _ _ => False)
    (hCX : ∀ H e s', CX [] H s₁ (fun _ _ _ => False) e s' → False) :
    codeAny (model P w) callerA (.call (.ref fa) ⟨[.ref a], []⟩) (fun r s' => r = .ok (.ret (.bool true)) ∧ OldK s₁.heap s'.heap ∧ s'.os = s₁.os ∧ AllBare s'.gens) s₁ := by
  have rv := vals_ints hi
  have lenV := hi.length
  have core : ∀ H : Hp, Only H → SqL K H a (ns.map V.int) → HOk P w H s₁.heap → (∀ b, H b ≠ none → b = a) → (H a ≠ none → K.lookup a = none) →
      codeAny (model P w) callerA (.call (.ref fa) ⟨[.ref a], []⟩) (fun r s' => r = .ok (.ret (.bool true)) ∧ OldK s₁.heap s'.heap ∧ s'.os = s₁.os ∧ AllBare s'.gens) s₁ := by
    intro H hO hS hok hA hK
    have base_of : ∀ {b : Addr} {o : Obj}, s₁.heap.get? b = some o → H b = none → (hidT s₁.heap H).get? b = some o := fun e n => hidT_get e n
    have noA : ∀ {b : Addr} {o : Obj} {es : Array DictEntry} {ep : Nat}, s₁.heap.get? b = some o → o.data = .dict es ep → H b = none := fun {b o es ep} e d => by
      cases q : H b with
      | none => rfl
      | some u =>
        have e' : b = a := hA b (by rw [q]; simp)
        subst e'
        rw [ha] at e; cases e
        have d' : Data.seq vs.toArray _ = Data.dict es ep := d
        cases d'
    have nsK : ∀ {b : Addr} {m : Str → Option Value}, s₁.heap.Ns b m → (hidT s₁.heap H).Ns b m := fun {b m} ⟨o, es, ep, e, d, r⟩ => ⟨o, es, ep, base_of e (noA e d), d, r⟩
    have hKb : K.In (hidT s₁.heap H) := fun b o e => base_of (KX b o e) (by
      cases q : H b with
      | none => rfl
      | some u =>
        have e' : b = a := hA b (by rw [q]; simp)
        subst e'
        rw [hK (by rw [q]; simp)] at e; cases e)
    have hM : Mod K mg (hidT s₁.heap H) := ⟨hKb, nsK hns, ⟨mb, nsK hb, hbb⟩, let ⟨mc, h1, h2⟩ := hlim; ⟨mc, nsK h1, h2⟩⟩
    have e0 : Env0 P w K mg (hidT s₁.heap H) callerA [] s₁ H := ⟨rfl, hM, fun b o e => of_hidT e, Nat.le_of_eq (hidT_size _ _), trivial, fun b hb => absurd (show b ∈ ([] : List Addr) from hb) (by simp), hok, .of_eq hg⟩
    refine codeAny_mono ((F _ hKb (nsK hns) (let ⟨mc, h1, h2⟩ := hdig; ⟨mc, nsK h1, h2⟩)).run callerA [] s₁ H ⟨[.ref a], []⟩ [.ref a] [.ref a] _ _ hr e0 (hbind s₁ (.ref a)) (.cons rfl .nil) (hsp H hO hS)) fun r s' h => ?_
    cases r with
    | error e => exact (hCX H e s' h).elim
    | ok fl =>
      cases fl with
      | next => exact False.elim h
      | brk => exact False.elim h
      | cont => exact False.elim h
      | ret u =>
        obtain ⟨v, H', os, bare, un, hok', r', q⟩ := h
        have q' : v = .bl true := q
        subst q'
        obtain rfl : u = Value.bool true := r'
        refine ⟨rfl, OldK.of_keep fun b o e => ?_, os, bare⟩
        cases q : H b with
        | none => exact un.keep b o e q (by intro z; exact absurd (show b ∈ ([] : List Addr) from z) (by simp)) (by simp)
        | some u =>
          rcases hO b with z | ⟨ob, xs, z⟩
          · rw [q] at z; cases z
          · have z2 := un.frzs b ob _ z
            obtain ⟨e1, _⟩ := hok b _ z
            obtain ⟨e2, _⟩ := hok' b _ z2
            rw [e] at e1; cases e1
            exact e2
  cases hk : K.lookup a with
  | some o =>
    have e := KX a o hk
    rw [ha] at e
    cases e
    refine core (fun _ => none) (fun _ => .inl rfl) (.inr ⟨_, vs.toArray, _, hk, rfl, rfl, rfl, by rw [List.size_toArray, lenV]; exact hl, by simpa using rv⟩) (fun b u z => by have z' : (none : Option HO) = some u := z; cases z') (fun b z => absurd rfl z) fun z => absurd rfl z
  | none =>
    refine core (fun b => if b = a then some (.frz { cls := .type "list", data := .seq vs.toArray } (.lst (ns.map V.int))) else none) (fun b => ?_) (.inl (.inr ⟨{ cls := .type "list", data := .seq vs.toArray }, if_pos rfl⟩)) (fun b u z => ?_) (fun b z => ?_) fun _ => hk
    · by_cases hb : b = a
      · exact .inr ⟨_, _, if_pos hb⟩
      · exact .inl (if_neg hb)
    · by_cases hb : b = a
      · have z' := (if_pos hb).symm.trans z
        cases z'
        subst hb
        exact ⟨ha, by rw [List.length_map]; exact hl, vs, _, rv, ha⟩
      · have z' := (if_neg hb).symm.trans z
        cases z'
    · by_cases hb : b = a
      · exact hb
      · exact absurd (if_neg hb) z
theorem walk_ofN {l : PySem.W.OpenLaw} {n k : Nat} {q : Program} {loose : List Str} {XP : (Str → Option Value) → Heap → Prop} {YP : World → Heap → Prop} {d : DefRec} {K : Params → PySem.W.Frag} {CX : World → CXT} {sp : World → Sp} {x : Str}
    (hn : l.most = some n) (hn2 : n ≤ sizeLine) (hdf : d.params.defaults = []) (hr : Room k callerA)
    (hY : ∀ (w : World) (h : Heap), YP w h → (K w.params).In h)
    (F : ∀ (w : World) (mg : Str → Option Value) (fa : Addr) (h : Heap), (K w.params).In h → h.Ns mainGlobals mg → mg d.name = some (.ref fa) →
      ∃ fd : FuncData, (∀ (s : Shared) (u : Value), BindsTo s fd ⟨[u], []⟩ [(x, u)]) ∧
        ∀ base : Heap, (K w.params).In base → base.Ns mainGlobals mg → base.NoDigits → FnOk l.prog w (K w.params) mg base (CX w) k fa fd [x] (sp w))
    (hsp : ∀ (w : World) (H : Hp) (a : Addr) (ns : List Int), ns.length ≤ n → Only H → SqL (K w.params) H a (ns.map V.int) → sp w [.ref a] H (fun v _ => v = .bl true) fun _ _ _ => False)
    (hCX : ∀ (w : World) (H : Hp) (s : Shared) (e : Value) (s' : Shared), CX w [] H s (fun _ _ _ => False) e s' → False) :
    PySem.W.WalkO q loose XP YP l.row.toRowW d [] (fun f vs => PySem.call f vs) := by
  refine Att.attach_call hn hdf fun w s₀ s₁ mg mb fa o pm cd doc a vs ns G Y ho hd hcd hmg hobj hints hlen hg => ?_
  have KX := hY w _ Y
  obtain ⟨fd, hb, hF⟩ := F w mg fa _ KX G.T.g hmg
  exact law_callN KX G.T.g G.T.b G.T.builtins G.T.nolimit G.T.nodigits hg hobj hints (Nat.le_trans hlen hn2) hr hF hb (fun H hO hS => hsp w H a ns hlen hO hS) fun H e s' => hCX w H s₁ e s'
end L2
set_option maxRecDepth 100000
namespace L2
open PySem PySem.Spec PyProof.Rows PySem.W PySem.Calls
section
variable {X : Cx} {pos : Pos}
end
section
variable {A : AC} {X : Cx} {a b c : Expr} {pos : Pos}
def sPar3 (i j k : Nat) (t : TAD) : TSD := fun F rho n => i < rho.length ∧ j < rho.length ∧ k < rho.length ∧ t rho n fun es n1 => ∃ d d' d2, es = [d, d', d2] ∧ F.nx (((rho.set k (some d2)).set j (some d')).set i (some d)) n1
@[simp] theorem q_sPar3 {i j k t F rho n} : sPar3 i j k t F rho n = (i < rho.length ∧ j < rho.length ∧ k < rho.length ∧ t rho n fun es n1 => ∃ d d' d2, es = [d, d', d2] ∧ F.nx (((rho.set k (some d2)).set j (some d')).set i (some d)) n1) := rfl
end
end L2
set_option maxRecDepth 100000
namespace L2.Srt
open PySem PyProof.Rows
def lab (ls : Array Nat) (i : Nat) : Nat := ls.getD i 0
structure Rule (prog : Program) (w : World) (A : Around) (s : Shared) (n : Nat) (item : Nat → Keyed) (kd : SortKind) (r : Nat → Nat → Bool) : Prop where
  tot : ∀ a b, a < n → b < n → a ≠ b → r a b = !r b a
  tr : ∀ a b c, a < n → b < n → c < n → r a b = true → r b c = true → r a c = true
  cmp : ∀ a b, a < n → b < n → a ≠ b → ∀ (E : Value → Shared → Prop) (Q : Bool → Shared → Prop), Q (r a b) s → wpAny (model prog w) A (keyLt' kd (item a).1 (item b).1) Q E s
structure Now (n : Nat) (item : Nat → Keyed) (kd : SortKind) (ls : Array Nat) (t : SortSt) : Prop where
  arr : arrOf t = ls.map item
  kd : kindOf t = kd
  ok : failedOf t = none
  pend : pendingOf t = #[]
  perm : ls.Perm (Array.range n)
def Up (r : Nat → Nat → Bool) (ls : Array Nat) (k : Nat) : Prop := ∀ i j, i < j → j < k → r (lab ls i) (lab ls j) = true
def Down (r : Nat → Nat → Bool) (ls : Array Nat) (k : Nat) : Prop := ∀ i j, i < j → j < k → r (lab ls j) (lab ls i) = true
section
variable {n : Nat} {item : Nat → Keyed} {kd : SortKind} {r : Nat → Nat → Bool} {ls : Array Nat} {t : SortSt}
theorem Now.size (N : Now n item kd ls t) : ls.size = n := by rw [N.perm.size_eq, Array.size_range]
theorem Now.nodup (N : Now n item kd ls t) : ls.toList.Nodup := (Array.perm_iff_toList_perm.mp N.perm).nodup_iff.mpr (by rw [Array.toList_range]; exact List.nodup_range)
theorem lab_get {i : Nat} (h : i < ls.size) : ls[i]? = some (lab ls i) := by
  unfold lab
  rw [Array.getD_eq_getD_getElem?, Array.getElem?_eq_getElem h]; rfl
theorem Now.lt (N : Now n item kd ls t) {i : Nat} (h : i < n) : lab ls i < n := by
  have e := lab_get (ls := ls) (i := i) (by rw [N.size]; exact h)
  have m : lab ls i ∈ ls := Array.mem_of_getElem? e
  have m2 : lab ls i ∈ Array.range n := (N.perm.mem_iff).mp m
  rwa [Array.mem_range] at m2
theorem Now.ne (N : Now n item kd ls t) {i j : Nat} (hi : i < n) (hj : j < n) (h : i ≠ j) : lab ls i ≠ lab ls j := fun e => by
  have hi' : i < ls.toList.length := by rw [Array.length_toList, N.size]; exact hi
  have hj' : j < ls.toList.length := by rw [Array.length_toList, N.size]; exact hj
  have e1 := lab_get (ls := ls) (i := i) (by rw [N.size]; exact hi)
  have e2 := lab_get (ls := ls) (i := j) (by rw [N.size]; exact hj)
  rw [← Array.getElem?_toList, List.getElem?_eq_getElem hi'] at e1
  rw [← Array.getElem?_toList, List.getElem?_eq_getElem hj'] at e2
  have f := List.pairwise_iff_getElem.mp N.nodup
  rcases Nat.lt_or_gt_of_ne h with g | g
  · exact f i j hi' hj' g (by rw [Option.some.inj e1, Option.some.inj e2, e])
  · exact f j i hj' hi' g (by rw [Option.some.inj e1, Option.some.inj e2, e])
theorem lab_of_get {as : Array Nat} {k v : Nat} (h : as[k]? = some v) : lab as k = v := by
  unfold lab
  rw [Array.getD_eq_getD_getElem?, h]; rfl
theorem bub_lab {src d : Nat} (hs : src < ls.size) (hd : d ≤ src) {k : Nat} (hk : k < ls.size) : lab (bubble ls src d) k = if k = src - d then lab ls src else if src - d < k ∧ k ≤ src then lab ls (k - 1) else lab ls k := by
  refine lab_of_get ?_
  rw [getElem?_bubble hs d hd k]
  split
  · exact lab_get hs
  · split
    · exact lab_get (by lia)
    · exact lab_get hk
theorem bub_map {src d : Nat} (hs : src < ls.size) (hd : d ≤ src) : bubble (ls.map item) src d = (bubble ls src d).map item := by
  refine Array.ext_getElem? fun k => ?_
  rw [getElem?_bubble (by simpa using hs) d hd k]
  simp only [Array.getElem?_map]
  rw [getElem?_bubble hs d hd k]
  split
  · rfl
  · split <;> rfl
theorem mir_lab {i j : Nat} (hj : j ≤ ls.size) {k : Nat} (hk : k < ls.size) : lab (mirror ls i j ((j - i) / 2)) k = if i ≤ k ∧ k < j then lab ls (i + j - 1 - k) else lab ls k := by
  refine lab_of_get ?_
  rw [getElem?_mirror_all hj k]
  split
  · exact lab_get (by lia)
  · exact lab_get hk
theorem mir_map {i j : Nat} (hj : j ≤ ls.size) : mirror (ls.map item) i j ((j - i) / 2) = (mirror ls i j ((j - i) / 2)).map item := by
  refine Array.ext_getElem? fun k => ?_
  rw [getElem?_mirror_all (by simpa using hj) k]
  simp only [Array.getElem?_map]
  rw [getElem?_mirror_all hj k]
  split <;> rfl
theorem Now.bub (N : Now n item kd ls t) {src d : Nat} (hs : src < n) (hd : d ≤ src) : Now n item kd (bubble ls src d) (setArr t (bubble (arrOf t) src d)) :=
  ⟨by show bubble (arrOf t) src d = _; rw [N.arr]; exact bub_map (by rw [N.size]; exact hs) hd, N.kd, N.ok, N.pend, (bubble_perm _ _ _).trans N.perm⟩
theorem Now.mir (N : Now n item kd ls t) {i j : Nat} (hj : j ≤ n) : Now n item kd (mirror ls i j ((j - i) / 2)) (setArr t (mirror (arrOf t) i j ((j - i) / 2))) :=
  ⟨by show mirror (arrOf t) i j _ = _; rw [N.arr]; exact mir_map (by rw [N.size]; exact hj), N.kd, N.ok, N.pend, (mirror_perm _ _ _ _).trans N.perm⟩
end
section
variable {prog : Program} {w : World} {A : Around} {E : Value → Shared → Prop} {s : Shared} {n : Nat} {item : Nat → Keyed} {kd : SortKind} {r : Nat → Nat → Bool} {ls : Array Nat} {t : SortSt}
theorem at_lt (R : Rule prog w A s n item kd r) (N : Now n item kd ls t) {i j : Nat} (hi : i < n) (hj : j < n) (hij : i ≠ j) {Q : Option Bool → SortSt → Prop} (q : Q (some (r (lab ls i) (lab ls j))) t) : wpS (model prog w) A E s (ltAt' i j) Q t := by
  have gi : (arrOf t)[i]? = some (item (lab ls i)) := by rw [N.arr, Array.getElem?_map, lab_get (by rw [N.size]; exact hi)]; rfl
  have gj : (arrOf t)[j]? = some (item (lab ls j)) := by rw [N.arr, Array.getElem?_map, lab_get (by rw [N.size]; exact hj)]; rfl
  rw [ltAt'_eq]
  refine wpS_bind (wpS_get ?_)
  show wpS (model prog w) A E s (elem' (arrOf t) i >>= fun x => elem' (arrOf t) j >>= fun y => lt' x y) Q t
  rw [elem'_eq, elem'_eq, gi, gj]
  refine wpS_bind (wpS_pure (wpS_bind (wpS_pure ?_)))
  rw [lt'_eq]
  refine wpS_bind (wpS_get (wpS_bind (wpS_lift (wpAny_attempt ?_))))
  rw [N.kd]
  exact R.cmp _ _ (N.lt hi) (N.lt hj) (N.ne hi hj hij) _ _ ⟨rfl, wpS_pure q⟩
theorem asc (R : Rule prog w A s n item kd r) (N : Now n item kd ls t) {a : Nat} (h1 : 1 ≤ a) (ha : a ≤ n) (U : Up r ls a) {Q : AscSt → SortSt → Prop} (q : ∀ m, a ≤ m → m ≤ n → Up r ls m → (m < n → r (lab ls m) (lab ls (m - 1)) = true) → Q (none, m) t) : wpS (model prog w) A E s (ascLoop a n) Q t := by
  unfold ascLoop
  refine wpS_forRange (fun x c t' => t' = t ∧ c = (none, x) ∧ Up r ls x) ?_ ?_ ⟨rfl, rfl, U⟩
  · rintro x c t' hx hn ⟨e, e', V⟩
    subst e e'
    refine wpS_bind (at_lt R N hn (by show x - 1 < n; lia) (by show x ≠ x - 1; lia) ?_)
    cases z : r (lab ls x) (lab ls (x - 1))
    · refine wpS_pure ⟨rfl, rfl, fun i j hij hj => ?_⟩
      by_cases hjx : j < x
      · exact V i j hij hjx
      · obtain rfl : j = x := by lia
        have up : r (lab ls (j - 1)) (lab ls j) = true := by rw [R.tot _ _ (N.lt (by lia)) (N.lt hn) (N.ne (by lia) hn (by lia)), z]; rfl
        by_cases hi : i = j - 1
        · rw [hi]; exact up
        · exact R.tr _ _ _ (N.lt (by lia)) (N.lt (by lia)) (N.lt hn) (V i (j - 1) (by lia) (by lia)) up
    · exact wpS_pure (q x hx (by lia) V fun _ => z)
  · rintro c t' ⟨e, e', V⟩
    subst e e'
    have : max a n = n := by lia
    rw [this] at V ⊢
    exact q n ha (Nat.le_refl n) V fun h => absurd h (Nat.lt_irrefl n)
theorem turned (R : Rule prog w A s n item kd r) (N : Now n item kd ls t) {a : Nat} (h1 : 1 ≤ a) (ha : a ≤ n) (V : Down r ls a) {Q : Option Nat → SortSt → Prop} (q : ∀ m ls' t', 1 ≤ m → m ≤ n → Now n item kd ls' t' → Up r ls' m → Q (some m) t') : wpS (model prog w) A E s (tail3 a n) Q t := by
  unfold tail3
  refine wpS_bind (wpS_reverse ?_)
  have N' := N.mir (i := 0) ha
  have hsz := N.size
  refine wpS_bind (asc R N' h1 ha (fun i j hij hj => ?_) fun m h2 h3 U _ => wpS_pure (q m _ _ (by lia) h3 N' U))
  rw [mir_lab (by lia) (by lia), mir_lab (by lia) (by lia), if_pos (by lia), if_pos (by lia)]
  exact V _ _ (by lia) (by lia)
theorem falling (R : Rule prog w A s n item kd r) (N : Now n item kd ls t) {a : Nat} (h1 : 1 ≤ a) (ha : a ≤ n) (V : Down r ls a) {Q : DescSt → SortSt → Prop} (q : ∀ m, a ≤ m → m ≤ n → Down r ls m → Q (none, m, 0) t) : wpS (model prog w) A E s (descLoop a n) Q t := by
  unfold descLoop
  refine wpS_forRange (fun x c t' => t' = t ∧ c = (none, x, 0) ∧ Down r ls x) ?_ ?_ ⟨rfl, rfl, V⟩
  · rintro x c t' hx hn ⟨e, e', W⟩
    subst e e'
    refine wpS_bind (at_lt R N hn (by show x - 1 < n; lia) (by show x ≠ x - 1; lia) ?_)
    cases z : r (lab ls x) (lab ls (x - 1))
    · have up : r (lab ls (x - 1)) (lab ls x) = true := by rw [R.tot _ _ (N.lt (by lia)) (N.lt hn) (N.ne (by lia) hn (by lia)), z]; rfl
      refine wpS_bind (at_lt R N (by show x - 1 < n; lia) hn (by show x - 1 ≠ x; lia) ?_)
      rw [up]
      exact wpS_pure (q x hx (by lia) W)
    · refine wpS_pure ⟨rfl, rfl, fun i j hij hj => ?_⟩
      by_cases hjx : j < x
      · exact W i j hij hjx
      · obtain rfl : j = x := by lia
        by_cases hi : i = j - 1
        · rw [hi]; exact z
        · exact R.tr _ _ _ (N.lt hn) (N.lt (by lia)) (N.lt (by lia)) z (W i (j - 1) (by lia) (by lia))
  · rintro c t' ⟨e, e', W⟩
    subst e e'
    have : max a n = n := by lia
    rw [this] at W ⊢
    exact q n ha (Nat.le_refl n) W
theorem run (R : Rule prog w A s n item kd r) (N : Now n item kd ls t) (h1 : 1 ≤ n) {Q : Option Nat → SortSt → Prop} (q : ∀ m ls' t', 1 ≤ m → m ≤ n → Now n item kd ls' t' → Up r ls' m → Q (some m) t') : wpS (model prog w) A E s (countRun' 0 n) Q t := by
  rw [countRun0_eq]
  refine wpS_bind (asc R N (Nat.le_refl 1) h1 (fun i j hij hj => by lia) fun m h2 h3 U hm => ?_)
  show wpS (model prog w) A E s (if (m == n) = true then _ else if m > 1 then _ else _) Q t
  by_cases e : m = n
  · rw [if_pos (by simpa using e)]
    exact wpS_pure (q m _ _ h2 h3 N U)
  · rw [if_neg (by simpa using e)]
    by_cases g : m > 1
    · rw [if_pos g]
      refine wpS_bind (at_lt R N (by lia) (by lia) (by lia) ?_)
      rw [U 0 (m - 1) (by lia) (by lia)]
      exact wpS_pure (q m _ _ h2 h3 N U)
    · rw [if_neg g]
      obtain rfl : m = 1 := by lia
      unfold descPart
      refine wpS_bind (wpS_lift (wpAny_rule ⟨rfl, ?_⟩))
      refine wpS_bind (falling R N (by lia) (by lia) (fun i j hij hj => ?_) fun k h4 h5 W => ?_)
      · obtain ⟨rfl, rfl⟩ : i = 0 ∧ j = 1 := by lia
        exact hm (by lia)
      · show wpS (model prog w) A E s (if 0 > 0 then _ else tail3 k n) Q t
        rw [if_neg (Nat.lt_irrefl 0)]
        exact turned R N (by lia) h5 W q
theorem putIn (R : Rule prog w A s n item kd r) (N : Now n item kd ls t) {m : Nat} (hm : m ≤ n) (U : Up r ls m) {Q : Bool → SortSt → Prop} (q : ∀ ls' t', Now n item kd ls' t' → Up r ls' n → Q true t') : wpS (model prog w) A E s (binarySort' 0 n m) Q t := by
  rw [binarySort'_eq]
  simp only [Nat.zero_add]
  refine wpS_bind (wpS_mono (wpS_forRange (fun k c t' => c = (none, ()) ∧ ∃ ls', Now n item kd ls' t' ∧ Up r ls' (min k n)) (Q := fun c t' => c = (none, ()) ∧ ∃ ls', Now n item kd ls' t' ∧ Up r ls' n) ?_ ?_ ⟨rfl, ls, N, fun i j hij hj => U i j hij (by lia)⟩) ?_)
  · rintro k c t' hk hn ⟨rfl, ls', N', U'⟩
    have ek : min k n = k := by lia
    rw [ek] at U'
    have hsz := N'.size
    refine wpS_bind (wpS_mono (wpS_forRange (fun x c t2 => t2 = t' ∧ ∃ l h, c = (none, l, h) ∧ l ≤ h ∧ h ≤ k ∧ h - l ≤ k - x ∧ (∀ i, i < l → r (lab ls' i) (lab ls' k) = true) ∧ ∀ i, h ≤ i → i < k → r (lab ls' k) (lab ls' i) = true)
      (Q := fun c t2 => t2 = t' ∧ ∃ l h, c = (none, l, h) ∧ l ≤ k ∧ (∀ i, i < l → r (lab ls' i) (lab ls' k) = true) ∧ ∀ i, l ≤ i → i < k → r (lab ls' k) (lab ls' i) = true) ?_ ?_ ⟨rfl, 0, k, rfl, by lia, by lia, by lia, fun i hi => by lia, fun i h1 h2 => by lia⟩) ?_)
    · rintro x c t2 _ hx ⟨rfl, l, h, rfl, g1, g2, g3, g4, g5⟩
      dsimp only
      by_cases hd : l ≥ h
      · rw [if_pos hd]
        exact wpS_pure ⟨rfl, l, h, rfl, by lia, g4, fun i i1 i2 => g5 i (by lia) i2⟩
      · rw [if_neg hd]
        refine wpS_bind (at_lt R N' hn (by lia) (by lia) ?_)
        cases z : r (lab ls' k) (lab ls' ((l + h) / 2))
        · have up : r (lab ls' ((l + h) / 2)) (lab ls' k) = true := by rw [R.tot _ _ (N'.lt (by lia)) (N'.lt hn) (N'.ne (by lia) hn (by lia)), z]; rfl
          refine wpS_pure ⟨rfl, (l + h) / 2 + 1, h, rfl, by lia, by lia, by lia, fun i hi => ?_, g5⟩
          by_cases e : i = (l + h) / 2
          · rw [e]; exact up
          · exact R.tr _ _ _ (N'.lt (by lia)) (N'.lt (by lia)) (N'.lt hn) (U' i _ (by lia) (by lia)) up
        · refine wpS_pure ⟨rfl, l, (l + h) / 2, rfl, by lia, by lia, by lia, g4, fun i i1 i2 => ?_⟩
          by_cases e : i = (l + h) / 2
          · rw [e]; exact z
          · exact R.tr _ _ _ (N'.lt hn) (N'.lt (by lia)) (N'.lt (by lia)) z (U' _ i (by lia) (by lia))
    · rintro c t2 ⟨rfl, l, h, rfl, g1, g2, g3, g4, g5⟩
      exact ⟨rfl, l, h, rfl, by lia, g4, fun i i1 i2 => g5 i (by lia) i2⟩
    · rintro c t2 ⟨rfl, l, h, rfl, g1, g2, g3⟩
      show wpS (model prog w) A E s (moveDown' k l >>= fun _ => pure (ForInStep.yield (none, ()))) _ t2
      rw [moveDown'_eq]
      refine wpS_bind (wpS_modify (wpS_pure ⟨rfl, _, N'.bub hn (d := k - l) (by lia), ?_⟩))
      have e2 : min (k + 1) n = k + 1 := by lia
      rw [e2]
      intro i j hij hj
      have el : k - (k - l) = l := by lia
      rw [bub_lab (by lia) (by lia) (by lia), bub_lab (by lia) (by lia) (by lia), el]
      by_cases c1 : i = l
      · rw [if_pos c1, if_neg (by lia), if_pos (by lia)]
        exact g3 _ (by lia) (by lia)
      · rw [if_neg c1]
        by_cases c2 : j = l
        · rw [if_pos c2, if_neg (by lia)]
          exact g2 _ (by lia)
        · rw [if_neg c2]
          split
          · split
            · exact U' _ _ (by lia) (by lia)
            · exfalso; lia
          · split
            · exact U' _ _ (by lia) (by lia)
            · exact U' _ _ (by lia) (by lia)
  · rintro c t' ⟨rfl, ls', N', U'⟩
    have : min (max (max m 1) n) n = n := by lia
    rw [this] at U'
    exact ⟨rfl, ls', N', U'⟩
  · rintro c t' ⟨rfl, ls', N', U'⟩
    exact wpS_pure (q ls' t' N' U')
theorem all (R : Rule prog w A s n item kd r) (N : Now n item kd ls t) (h2 : 2 ≤ n) (h64 : n < 64) {Q : Unit → SortSt → Prop} (q : ∀ ls' t', arrOf t' = ls'.map item → failedOf t' = none → ls'.Perm (Array.range n) → Up r ls' n → Q () t') : wpS (model prog w) A E s sortRuns' Q t := by
  rw [sortRuns'_eq]
  refine wpS_bind (wpS_get ?_)
  have esz : (arrOf t).size = n := by rw [N.arr, Array.size_map, N.size]
  have emin : minRun' n n 0 = n := by
    cases n with
    | zero => lia
    | succ f => rw [minRun'_succ, if_pos h64]
  dsimp only
  simp only [esz, emin]
  let Fin : SortSt → Prop := fun t' => ∃ ls', arrOf t' = ls'.map item ∧ failedOf t' = none ∧ pendingOf t' = #[(0, n, 0)] ∧ ls'.Perm (Array.range n) ∧ Up r ls' n
  have close : ∀ {ls' : Array Nat} {t' : SortSt}, Now n item kd ls' t' → Up r ls' n → Fin (setPending t' ((pendingOf t').push (0, n, 0))) := fun {ls' t'} N' U' => ⟨ls', N'.arr, N'.ok, by show (pendingOf t').push _ = _; rw [N'.pend]; rfl, N'.perm, U'⟩
  refine wpS_bind (wpS_mono (wpS_forRange (fun x c t' => (x = 0 ∧ c = (none, 0) ∧ t' = t) ∨ (0 < x ∧ c = (none, n) ∧ Fin t')) (Q := fun c t' => c = (none, n) ∧ Fin t') ?_ ?_ (.inl ⟨rfl, rfl, rfl⟩)) ?_)
  · rintro x c t' _ hx (⟨rfl, rfl, rfl⟩ | ⟨h0, rfl, F⟩)
    · dsimp only
      rw [if_neg (by lia)]
      simp only [Nat.sub_zero, Nat.min_self, Nat.zero_add]
      refine wpS_bind (run R N (by lia) fun m ls2 t2 h1 hm N2 U2 => ?_)
      dsimp only
      have rest : ∀ {ls3 : Array Nat} {t3 : SortSt}, Now n item kd ls3 t3 → Up r ls3 n → (pendingOf t3).back? = none := fun N3 _ => by rw [N3.pend]; rfl
      by_cases c : m < n
      · rw [if_pos c]
        refine wpS_bind (wpS_lift (wpAny_rule ⟨rfl, ?_⟩))
        refine wpS_bind (putIn R N2 hm U2 fun ls3 t3 N3 U3 => ?_)
        simp only [Bool.not_true, Bool.false_eq_true, if_false]
        refine wpS_bind (wpS_get ?_)
        rw [rest N3 U3]
        exact wpS_bind (wpS_modify (wpS_pure (.inr ⟨by lia, rfl, close N3 U3⟩)))
      · rw [if_neg c]
        obtain rfl : m = n := by lia
        refine wpS_bind (wpS_get ?_)
        rw [rest N2 U2]
        exact wpS_bind (wpS_modify (wpS_pure (.inr ⟨by lia, rfl, close N2 U2⟩)))
    · dsimp only
      rw [if_pos (Nat.le_refl _)]
      exact wpS_pure ⟨rfl, F⟩
  · rintro c t' (⟨h, _⟩ | ⟨_, h1, F⟩)
    · lia
    · exact ⟨h1, F⟩
  · rintro c t' ⟨rfl, ls', e1, e2, e3, e4, e5⟩
    refine wpS_bind (wpS_mono (wpS_forRange (fun _ c t2 => t2 = t' ∧ c = (none, ())) (Q := fun c t2 => t2 = t' ∧ c = (none, ())) ?_ (fun _ _ h => h) ⟨rfl, rfl⟩) ?_)
    · rintro x c t2 _ _ ⟨rfl, rfl⟩
      refine wpS_bind (wpS_get ?_)
      rw [if_pos (by rw [e3]; exact Nat.le_refl 1)]
      exact wpS_pure ⟨rfl, rfl⟩
    · rintro c t2 ⟨rfl, rfl⟩
      exact wpS_pure (q ls' _ e1 e2 e4 e5)
end
end L2.Srt
set_option maxRecDepth 100000
namespace L2.Srt
open PySem PyProof.Rows
abbrev pairAt (vs : List Value) : Nat → Keyed := fun i => (vs.getD i .none, vs.getD i .none)
theorem range_pairs (vs : List Value) : vs.toArray.zip vs.toArray = (Array.range vs.length).map (pairAt vs) := by
  refine Array.ext_getElem? fun k => ?_
  rw [Array.getElem?_map]
  by_cases h : k < vs.length
  · have e1 : (Array.range vs.length)[k]? = some k := by rw [Array.getElem?_range, if_pos h]
    rw [e1]
    have e2 : (vs.toArray.zip vs.toArray)[k]? = some (vs[k], vs[k]) := by
      rw [Array.getElem?_eq_getElem (by simpa using h)]
      simp
    rw [e2]
    simp [pairAt, List.getD_eq_getElem?_getD, h]
  · rw [Array.getElem?_eq_none (by simp; lia), Array.getElem?_eq_none (by simp; lia)]
    rfl
section
variable {prog : Program} {w : World} {A : Around} {E : Value → Shared → Prop} {s : Shared} {r : Nat → Nat → Bool} {kd : SortKind}
abbrev during (h : Heap) (a : Addr) (vs : List Value) : Heap := ((h.update a (Obj.mapSeq fun _ => #[])).push (seqObj "tuple" vs.toArray 0)).push (seqObj "list" #[] 0)
theorem inPlace {a : Addr} {vs : List Value} {k : Nat} (at0 : s.heap.get? a = some (seqObj "list" vs.toArray k)) (h64 : vs.length < 64)
    (hk : 2 ≤ vs.length → ∀ (E : Value → Shared → Prop) (Q : SortKind → Shared → Prop), Q kd { s with heap := during s.heap a vs } → wpAny (model prog w) A (keyKind' vs.toArray) Q E { s with heap := during s.heap a vs })
    (hR : 2 ≤ vs.length → Rule prog w A { s with heap := during s.heap a vs } vs.length (pairAt vs) kd r) {Q : Fin → Shared → Prop}
    (q : ∀ ls : Array Nat, ls.Perm (Array.range vs.length) → Up r ls vs.length → Q (.done (.ret .none)) { s with heap := sortedHeap s.heap a vs (ls.map fun i => vs.getD i .none) }) :
    wpAny (model prog w) A (Builtin.«list.sort» ⟨[.ref a], []⟩) Q E s := by
  have la := Heap.lt_size at0
  obtain ⟨e1, at1⟩ : ∃ e1, (s.heap.update a (Obj.mapSeq fun _ => #[])).get? a = some (seqObj "list" #[] e1) := ⟨_, get?_update_seq at0 _⟩
  have at2 : (during s.heap a vs).get? a = some (seqObj "list" #[] e1) := by
    have n1 : a ≠ ((s.heap.update a (Obj.mapSeq fun _ => #[])).push (seqObj "tuple" vs.toArray 0)).objs.size := by rw [size_push', Heap.size_update]; exact Nat.ne_of_lt (Nat.lt_succ_of_lt la)
    have n2 : a ≠ (s.heap.update a (Obj.mapSeq fun _ => #[])).objs.size := by rw [Heap.size_update]; exact Nat.ne_of_lt la
    exact (Heap.get?_push_ne _ _ _ n1).trans ((Heap.get?_push_ne _ _ _ n2).trans at1)
  rw [list_sort_plain]
  refine wpAny_bind (listItems_at at0 rfl ?_)
  refine wpAny_bind (listUpdate_at at0 rfl (wpAny_bind (seqEpoch_at at1 rfl ?_)))
  refine wpAny_bind (wpAny_newTuple (wpAny_bind (wpAny_newList (wpAny_holding ?_))))
  show wpAny (model prog w) A _ Q E { s with heap := during s.heap a vs }
  dsimp only
  have fin : ∀ (t : SortSt) (ls : Array Nat), arrOf t = ls.map (pairAt vs) → failedOf t = none → ls.Perm (Array.range vs.length) → Up r ls vs.length →
      wpAny (model prog w) A (do
        let touched := (← seqEpoch a) != e1
        Builtin.List.listUpdate (.ref a) fun _ => (arrOf t).map (·.2)
        if let some e := failedOf t then rule "list.sort.comparison-raised"; throw e
        if touched then rule "list.sort.modified"; raiseError "ValueError" "list modified during sort"
        ret .none) Q E { s with heap := during s.heap a vs } := fun t ls h1 h2 h3 h4 => by
    have ea : (arrOf t).map (·.2) = ls.map fun i => vs.getD i .none := by rw [h1, Array.map_map]; rfl
    have es : ((arrOf t).map (·.2)).size ≤ 64 := by rw [ea, Array.size_map, h3.size_eq, Array.size_range]; lia
    refine wpAny_bind (seqEpoch_at at2 rfl ?_)
    refine wpAny_bind (listUpdate_at at2 rfl ?_ (hsz2 := by rw [sizeLine_eq]; exact Nat.le_trans es (by decide)))
    rw [h2, ea]
    simp only [bne_self_eq_false, Bool.false_eq_true, if_false]
    exact wpAny_pure (q ls h3 h4)
  by_cases c : vs.toArray.size < 2
  · rw [if_pos c, if_pos c]
    refine wpAny_bind (wpAny_pure ?_)
    rw [StateT.run_pure]
    refine wpAny_bind (wpAny_pure (fin _ (Array.range vs.length) (range_pairs vs) rfl (Array.Perm.refl _) fun i j hij hj => ?_))
    have : vs.length < 2 := by simpa using c
    lia
  · rw [if_neg c, if_neg c]
    have h2 : 2 ≤ vs.length := by simpa using c
    refine wpAny_bind (hk h2 _ _ ?_)
    have N0 : Now vs.length (pairAt vs) kd (Array.range vs.length) (SortSt.mk' kd (vs.toArray.zip vs.toArray) #[] 7 none) := ⟨range_pairs vs, rfl, rfl, rfl, Array.Perm.refl _⟩
    refine wpAny_bind (wpAny_mono (all (hR h2) N0 h2 h64 (Q := fun _ t => ∃ ls : Array Nat, arrOf t = ls.map (pairAt vs) ∧ failedOf t = none ∧ ls.Perm (Array.range vs.length) ∧ Up r ls vs.length) fun ls t a1 a2 a3 a4 => ⟨ls, a1, a2, a3, a4⟩) ?_ fun _ _ e => e)
    rintro ⟨_, t⟩ s' ⟨rfl, ls, a1, a2, a3, a4⟩
    exact fin t ls a1 a2 a3 a4
theorem sortedAny {l : Addr} {vs : List Value} (hl : s.heap.IsList l vs.toArray) (h64 : vs.length < 64)
    (hk : 2 ≤ vs.length → ∀ (h' : Heap), (∀ b o, s.heap.get? b = some o → h'.get? b = some o) → ∀ (B : Around), B.units ≤ A.units + 3 → ∀ (E : Value → Shared → Prop) (Q : SortKind → Shared → Prop), Q kd { s with heap := h' } → wpAny (model prog w) B (keyKind' vs.toArray) Q E { s with heap := h' })
    (hR : 2 ≤ vs.length → ∀ (h' : Heap), (∀ b o, s.heap.get? b = some o → h'.get? b = some o) → ∀ (B : Around), B.units ≤ A.units + 3 → Rule prog w B { s with heap := h' } vs.length (pairAt vs) kd r) {Q : Value → Shared → Prop}
    (q : ∀ ls : Array Nat, ls.Perm (Array.range vs.length) → Up r ls vs.length → Q (.ref (s.heap.objs.size + 1)) { s with heap := sortedAll s.heap vs (ls.map fun i => vs.getD i .none) }) :
    wpAny (model prog w) A (call (.builtin "sorted") [.ref l]) Q E s := by
  refine Calls.call_function_entry kind_sorted plain_sorted entry_sorted (args_sorted1 _) ?_
  unfold Builtin.«sorted»
  refine wpAny_bind (m := checkCount "sorted" 1 1 _) (wpAny_pure (wpAny_bind (collect_list hl (wpAny_bind (wpAny_newList ?_)))))
  have z1 : ((s.heap.push (seqObj "list" #[] 0)).update s.heap.objs.size (Obj.mapSeq (· ++ vs.toArray))).objs.size = s.heap.objs.size + 1 := by rw [Heap.size_update, size_push']
  let h1 : Heap := ((s.heap.push (seqObj "list" #[] 0)).update s.heap.objs.size (Obj.mapSeq (· ++ vs.toArray))).push (seqObj "list" vs.toArray 0)
  have at1 : h1.get? (s.heap.objs.size + 1) = some (seqObj "list" vs.toArray 0) := by rw [← z1]; exact Heap.get?_push_size _ rfl
  have old1 : ∀ b o, s.heap.get? b = some o → h1.get? b = some o := fun b o e => by
    have lb := Heap.lt_size e
    refine Heap.get?_push_of_some _ ?_
    rw [Heap.get?_update_ne _ _ _ _ (Nat.ne_of_lt lb)]
    exact Heap.get?_push_of_some _ e
  have old2 : ∀ b o, s.heap.get? b = some o → (during h1 (s.heap.objs.size + 1) vs).get? b = some o := fun b o e => by
    have lb := Heap.lt_size e
    refine Heap.get?_push_of_some _ (Heap.get?_push_of_some _ ?_)
    rw [Heap.get?_update_ne _ _ _ _ (Nat.ne_of_lt (Nat.lt_succ_of_lt lb))]
    exact old1 b o e
  have eH : ∀ out : Array Value, sortedHeap h1 (s.heap.objs.size + 1) vs out = sortedAll s.heap vs out := fun _ => rfl
  have body : ∀ B : Around, B.units ≤ A.units + 3 → ∀ (E : Value → Shared → Prop) (P : Fin → Shared → Prop), (∀ ls : Array Nat, ls.Perm (Array.range vs.length) → Up r ls vs.length → P (.done (.ret .none)) { s with heap := sortedAll s.heap vs (ls.map fun i => vs.getD i .none) }) →
      wpAny (model prog w) B (Builtin.«list.sort» ⟨[.ref (s.heap.objs.size + 1)], []⟩) P E { s with heap := h1 } := fun B hB E P p =>
    inPlace (s := { s with heap := h1 }) at1 h64 (fun h2 E Q q => hk h2 _ old2 B hB E Q q) (fun h2 => hR h2 _ old2 B hB) fun ls a1 a2 => by
      show P _ { s with heap := sortedHeap h1 (s.heap.objs.size + 1) vs _ }
      rw [eH]
      exact p ls a1 a2
  show wpAny _ _ _ _ _ { s with heap := h1 }
  rw [z1]
  clear_value h1
  refine wpAny_bind (wpAny_holding (wpAny_call_entry slot_list_sort ⟨_, at1, rfl⟩ entry_list_sort (body _ ?_ _ _ fun ls a1 a2 => ⟨_, rfl, wpAny_pure ⟨_, rfl, q ls a1 a2⟩⟩) (args_list_sort _)))
  show A.units + 1 + 1 ≤ A.units + 3
  lia
end
end L2.Srt
set_option maxRecDepth 100000
namespace L2.Srt
open PySem PyProof.Rows PySem.SeqAt
section
variable {prog : Program} {w : World} {M : Model} {A : Around} {E : Value → Shared → Prop} {s : Shared}
theorem wp_mapM {α β : Type} {f : α → Sem β} {g : α → β} : ∀ {l : List α} {Q : List β → Shared → Prop}, (∀ a ∈ l, ∀ Q : β → Shared → Prop, Q (g a) s → wpAny M A (f a) Q E s) → Q (l.map g) s → wpAny M A (l.mapM f) Q E s
  | [], Q, _, q => by rw [List.mapM_nil]; exact wpAny_pure q
  | a :: l, Q, h, q => by
    rw [List.mapM_cons]
    refine wpAny_bind (h a (List.mem_cons_self ..) _ (wpAny_bind (wp_mapM (fun b hb => h b (List.mem_cons_of_mem _ hb)) (wpAny_pure q))))
theorem wp_mapA {α β : Type} {f : α → Sem β} {g : α → β} {l : List α} {Q : Array β → Shared → Prop} (h : ∀ a ∈ l, ∀ Q : β → Shared → Prop, Q (g a) s → wpAny M A (f a) Q E s) (q : Q (l.map g).toArray s) : wpAny M A (l.toArray.mapM f) Q E s := by
  rw [List.mapM_toArray]
  show wpAny M A (List.toArray <$> l.mapM f) Q E s
  rw [map_eq_pure_bind]
  exact wpAny_bind (wp_mapM h (wpAny_pure q))
theorem firstOfTuple'_eq (v : Value) : firstOfTuple' v = (do
    if (← typeOf v) != .type "tuple" then return none
    return (← Builtin.List.listItems v)[0]?) := rfl
def Tup (h : Heap) (v : Value) (p : Value) (rest : List Value) : Prop := ∃ a, v = .ref a ∧ IsTup h a (p :: rest).toArray
theorem Tup.type {v p : Value} {rest : List Value} (t : Tup s.heap v p rest) : s.TypeIs v "tuple" := by
  obtain ⟨a, rfl, o, ho, hc, _⟩ := t
  exact ⟨o, ho, hc⟩
theorem Tup.items {v p : Value} {rest : List Value} (t : Tup s.heap v p rest) {Q : Array Value → Shared → Prop} (q : Q (p :: rest).toArray s) : wpAny M A (Builtin.List.listItems v) Q E s := by
  obtain ⟨a, rfl, o, ho, hc, n, hd⟩ := t
  exact listItems_at ho hd q
theorem kind_tuples {vs : List Value} {fst : Value → Value} {T : String} (h2 : 2 ≤ vs.length) (ht : ∀ v ∈ vs, ∃ rest, Tup s.heap v (fst v) rest) (hT : ∀ v ∈ vs, s.TypeIs (fst v) T) {Q : SortKind → Shared → Prop} (q : Q (tuples' (Value.type T != Value.type "tuple")) s) : wpAny M A (keyKind' vs.toArray) Q E s := by
  rw [keyKind'_eq]
  refine wpAny_bind (wp_mapA (g := fun v => some (fst v)) (fun v hv Q q => ?_) ?_)
  · obtain ⟨rest, t⟩ := ht v hv
    rw [firstOfTuple'_eq]
    refine wpAny_bind (wpAny_typeOf t.type ?_)
    have e : (Value.type "tuple" != Value.type "tuple") = false := by rfl
    rw [e]
    exact wpAny_bind (t.items (wpAny_pure q))
  · have e : (vs.map fun v => some (fst v)).toArray.all (·.isSome) = true := by simp
    rw [if_pos e]
    refine wpAny_bind (wpAny_rule ?_)
    have e2 : ((vs.map fun v => some (fst v)).toArray.filterMap id) = (vs.map fst).toArray := by
      simp [List.filterMap_map]
    rw [e2, oneTypeOnly'_eq]
    refine wpAny_bind (wpAny_bind (wp_mapA (g := fun _ => Value.type T) (fun v hv Q q => ?_) ?_))
    · obtain ⟨u, hu, rfl⟩ := List.mem_map.mp hv
      exact wpAny_typeOf (hT u hu) q
    · have e3 : ((vs.map fst).map fun _ => Value.type T).toArray[0]? = some (Value.type T) := by
        cases vs with
        | nil => simp at h2
        | cons v vs => simp
      have e4 : (((vs.map fst).map fun _ => Value.type T).toArray.all (· == Value.type T)) = true := by
        simp only [List.all_toArray, List.all_map, List.all_eq_true]
        intro _ _
        show (Value.type T == Value.type T) = true
        simp
      rw [e3]
      dsimp only
      rw [e4]
      exact wpAny_pure (wpAny_pure q)
theorem keyLt'_tuples (f : Bool) (x y : Value) : keyLt' (tuples' f) x y = (do
    let xs ← Builtin.List.listItems x
    let ys ← Builtin.List.listItems y
    for ((p, q), i) in (xs.toList.zip ys.toList).zipIdx do
      if !(← eqBool p q) then return ← oneLt' (f && i == 0) p q
    return xs.size < ys.size) := rfl
inductive Lex (A : Around) (s : Shared) (f : Bool) (b : Bool) : Nat → List Value → List Value → Prop
  | alike {i : Nat} {p q : Value} {ps qs : List Value} : EqAt A s p q true → Lex A s f b (i + 1) ps qs → Lex A s f b i (p :: ps) (q :: qs)
  | here {i : Nat} {p q : Value} {ps qs : List Value} : EqAt A s p q false → (∀ (prog : Program) (w : World) (E : Value → Shared → Prop) (Q : Bool → Shared → Prop), Q b s → wpAny (model prog w) A (oneLt' (f && i == 0) p q) Q E s) → Lex A s f b i (p :: ps) (q :: qs)
theorem keyLt_lex {f b : Bool} {x y p q : Value} {ps qs : List Value} (tx : Tup s.heap x p ps) (ty : Tup s.heap y q qs) (L : Lex A s f b 0 (p :: ps) (q :: qs)) {Q : Bool → Shared → Prop} (h : Q b s) : wpAny (model prog w) A (keyLt' (tuples' f) x y) Q E s := by
  rw [keyLt'_tuples]
  refine wpAny_bind (tx.items (wpAny_bind (ty.items ?_)))
  refine wpAny_bind (wpAny_forIn_list _ (fun rest c s' => s' = s ∧ c.1 = none ∧ ∃ i xs ys, rest = (xs.zip ys).zipIdx i ∧ Lex A s f b i xs ys) (fun c s' => s' = s ∧ c.1 = some b) ?turn ?fin _ _ ⟨rfl, rfl, 0, p :: ps, q :: qs, by simp, L⟩ |> fun z => wpAny_mono z ?post fun _ _ e => e)
  case turn =>
    rintro ⟨⟨u, v⟩, k⟩ rest c s' ⟨rfl, hc, i, xs, ys, e, L⟩
    cases L with
    | alike he L =>
      rw [List.zip_cons_cons, List.zipIdx_cons] at e
      injection e with e1 e2
      injection e1 with e1 e3
      injection e1 with e4 e5
      subst e3 e4 e5
      refine wpAny_bind (he prog w _ _ ?_)
      simp only [Bool.not_true, Bool.false_eq_true, if_false]
      exact wpAny_pure ⟨rfl, rfl, _, _, _, e2, L⟩
    | here he ho =>
      rw [List.zip_cons_cons, List.zipIdx_cons] at e
      injection e with e1 e2
      injection e1 with e1 e3
      injection e1 with e4 e5
      subst e3 e4 e5
      refine wpAny_bind (he prog w _ _ ?_)
      simp only [Bool.not_false, if_true]
      exact wpAny_bind (ho prog w _ _ (wpAny_pure ⟨rfl, rfl⟩))
  case fin =>
    rintro c s' ⟨_, _, i, xs, ys, e, L⟩
    cases L <;> (rw [List.zip_cons_cons, List.zipIdx_cons] at e; cases e)
  case post =>
    rintro c s' ⟨rfl, hc⟩
    obtain ⟨c1, c2⟩ := c
    simp only at hc
    subst hc
    exact wpAny_pure h
theorem oneLt_false_int {i j : Int} {t u : Tok} {Q : Bool → Shared → Prop} (h : Q (decide (i < j)) s) : wpAny (model prog w) A (oneLt' false (.int i t) (.int j u)) Q E s := by
  rw [oneLt'_eq]
  simp only [Bool.false_eq_true, if_false]
  exact wpAny_bind (show wpAny (model prog w) A (compareOp .Lt (.int i t) (.int j u)) _ _ _ from PyProof.Rows.lt_int (wpAny_truthy_bool h))
theorem oneLt_false_tup {a b : Addr} {xs ys : Array Value} {ns ms : List Int} (ha : IsTup s.heap a xs) (hb : IsTup s.heap b ys) (hi : IntsAre xs.toList ns) (hj : IntsAre ys.toList ms) (hu : A.units < cLine) {Q : Bool → Shared → Prop} (h : Q (HT.lexLt ns ms) s) : wpAny (model prog w) A (oneLt' false (.ref a) (.ref b)) Q E s := by
  rw [oneLt'_eq]
  simp only [Bool.false_eq_true, if_false]
  exact wpAny_bind (show wpAny (model prog w) A (compareOp .Lt (.ref a) (.ref b)) _ _ _ from HT.lt_tupInts ha hb hi hj hu (wpAny_truthy_bool h))
theorem oneLt_any_int (f : Bool) {i j : Int} {t u : Tok} {Q : Bool → Shared → Prop} (h : Q (decide (i < j)) s) : wpAny (model prog w) A (oneLt' f (.int i t) (.int j u)) Q E s := by
  cases f with
  | true => exact oneLt_int h
  | false => exact oneLt_false_int h
end
end L2.Srt
set_option maxRecDepth 100000
namespace L2
open PySem PySem.Spec PyProof.Rows PySem.SeqAt
def RowV (X : Cx) (H : Hp) (f : Bool) (y : V) : Prop := ∀ pins s σ v, Inv X pins σ H s → RelV y v → ∃ p rest, Srt.Tup s.heap v p rest ∧ s.TypeIs p (if f then "int" else "tuple")
def CmpV (X : Cx) (H : Hp) (f : Bool) (y z : V) (b : Bool) : Prop := ∀ pins s σ u v, Inv X pins σ H s → RelV y u → RelV z v → ∀ A : Around, A.units + 60 < cLine → ∃ p ps q qs, Srt.Tup s.heap u p ps ∧ Srt.Tup s.heap v q qs ∧ Srt.Lex A s f b 0 (p :: ps) (q :: qs)
def rSortT (X : Cx) : List V → Hp → VK → Prop := fun xs H Q => ∃ (p : Addr) (ys : List V) (f : Bool) (r : Nat → Nat → Bool), xs = [.ref p] ∧ SqL X.K H p ys ∧ ys.length < 64 ∧
  (∀ a b, a < ys.length → b < ys.length → a ≠ b → r a b = !r b a) ∧ (∀ a b c, a < ys.length → b < ys.length → c < ys.length → r a b = true → r b c = true → r a c = true) ∧
  (∀ a, a < ys.length → RowV X H f (ys.getD a .non)) ∧ (∀ a b, a < ys.length → b < ys.length → a ≠ b → CmpV X H f (ys.getD a .non) (ys.getD b .non) (r a b)) ∧
  ∀ ls : Array Nat, ls.Perm (Array.range ys.length) → Srt.Up r ls ys.length → ∀ l, H l = none → Q (.ref l) (upd H l (.lst (ls.toList.map fun i => ys.getD i .non)))
theorem Vals.getD {xs : List V} {us : List Value} (h : Vals xs us) {i : Nat} (hi : i < xs.length) : RelV (xs.getD i .non) (us.getD i .none) := by
  obtain ⟨u, e, r⟩ := h.get (List.getElem?_eq_getElem hi)
  rw [List.getD_eq_getElem?_getD, List.getD_eq_getElem?_getD, e, List.getElem?_eq_getElem hi]
  exact r
theorem vals_pick {xs : List V} {us : List Value} (h : Vals xs us) : ∀ {ls : List Nat}, (∀ i ∈ ls, i < xs.length) → Vals (ls.map fun i => xs.getD i .non) (ls.map fun i => us.getD i .none)
  | [], _ => .nil
  | i :: ls, hl => .cons (h.getD (hl i (List.mem_cons_self ..))) (vals_pick h fun j hj => hl j (List.mem_cons_of_mem _ hj))
section
variable {X : Cx}
theorem call_sortT {n : Nat} (hr : Room n X.A) : CallR X (.builtin "sorted") (rSortT X) := by
  classical
  intro pins s σ H xs us Q I r h
  obtain ⟨p, ys, f, rr, rfl, hq, hn, tot, tr, row, cmp, q⟩ := h
  obtain ⟨u, rfl, hu⟩ := vals1 r
  have hu' : u = .ref p := hu
  subst hu'
  obtain ⟨its, rv, pl, _⟩ := I.list hq
  have len := rv.length
  have un := hr.un
  have ixd : ∀ v ∈ its, ∃ i, i < ys.length ∧ v = its.getD i .none := fun v hv => by
    obtain ⟨i, hi, e⟩ := List.getElem_of_mem hv
    exact ⟨i, by lia, by rw [List.getD_eq_getElem?_getD, List.getElem?_eq_getElem hi, e]; rfl⟩
  refine Srt.sortedAny (r := rr) (kd := tuples' f) pl.isList (by lia) (fun h2 h' keep B hB E Q q => ?_) (fun h2 h' keep B hB => ?_) (fun ls hp hU => ?_)
  · have I' : Inv X pins σ H { s with heap := h' } := I.kept (t' := s.toks) keep
    have each : ∀ v ∈ its, ∃ p rest, Srt.Tup h' v p rest ∧ Shared.TypeIs { s with heap := h' } p (if f then "int" else "tuple") := fun v hv => by
      obtain ⟨i, hi, rfl⟩ := ixd v hv
      exact row i hi pins _ σ _ I' (rv.getD hi)
    refine Srt.kind_tuples (s := { s with heap := h' }) (T := if f then "int" else "tuple") (fst := fun v => if h : ∃ p rest, Srt.Tup h' v p rest ∧ Shared.TypeIs { s with heap := h' } p (if f then "int" else "tuple") then h.choose else v) (by lia) (fun v hv => ?_) (fun v hv => ?_) ?_
    · have e := each v hv
      obtain ⟨rest, t, _⟩ := e.choose_spec
      exact ⟨rest, by rw [dif_pos e]; exact t⟩
    · have e := each v hv
      obtain ⟨rest, _, t⟩ := e.choose_spec
      show Shared.TypeIs _ (if h : _ then _ else _) _
      rw [dif_pos e]; exact t
    · cases f
      · exact q
      · exact q
  · have I' : Inv X pins σ H { s with heap := h' } := I.kept (t' := s.toks) keep
    refine ⟨fun a b ha hb => tot a b (by lia) (by lia), fun a b c ha hb hc => tr a b c (by lia) (by lia) (by lia), fun a b ha hb hab E Q q => ?_⟩
    obtain ⟨p1, ps, p2, qs, t1, t2, L⟩ := cmp a b (by lia) (by lia) hab pins _ σ _ _ I' (rv.getD (by lia)) (rv.getD (by lia)) B (by lia)
    exact Srt.keyLt_lex t1 t2 L q
  · obtain ⟨e, he⟩ := sortedAll_at s.heap its (ls.map fun i => its.getD i .none)
    have hf : H (s.heap.objs.size + 1) = none := I.hok.fresh (Nat.le_succ _)
    have hls : ∀ i ∈ ls.toList, i < ys.length := fun i hi => by
      have := (hp.mem_iff).mp (Array.mem_toList_iff.mp hi)
      rw [Array.mem_range] at this
      lia
    rw [← len] at hp hU
    refine ⟨.ref (s.heap.objs.size + 1), _, I.laid (t' := s.toks) (o := .lst (ls.toList.map fun i => ys.getD i .non)) (fun b u e => sortedAll_old e) (Nat.le_succ _) ?_, rfl, q ls hp hU _ hf⟩
    refine ⟨?_, (ls.toList.map fun i => its.getD i .none), e, vals_pick rv hls, ?_⟩
    · rw [List.length_map, Array.length_toList, hp.size_eq, Array.size_range]
      exact Nat.le_trans (Nat.le_of_lt hn) (by decide)
    · have ea : (ls.toList.map fun i => its.getD i .none).toArray = ls.map fun i => its.getD i .none := by rw [← Array.toList_map, Array.toArray_toList]
      rw [ea]
      exact he
end
inductive SKey where
  | n (i : Int) | t (ns : List Int)
  deriving DecidableEq
def SKey.d : SKey → D
  | .n i => .int i
  | .t ns => .tup (ns.map D.int)
def SKey.num : SKey → Bool
  | .n _ => true
  | .t _ => false
def SKey.lt : SKey → SKey → Bool
  | .n i, .n j => decide (i < j)
  | .t ns, .t ms => HT.lexLt ns ms
  | _, _ => false
structure SRow where
  key : SKey
  name : Int
  rest : List D
def SRow.d (x : SRow) : D := .tup (x.key.d :: .int x.name :: x.rest)
def SRow.lt (x y : SRow) : Bool := if x.key = y.key then decide (x.name < y.name) else x.key.lt y.key
theorem lex_anti : ∀ (xs ys : List Int), xs ≠ ys → HT.lexLt xs ys = !HT.lexLt ys xs
  | [], [], h => absurd rfl h
  | [], y :: ys, _ => rfl
  | x :: xs, [], _ => rfl
  | x :: xs, y :: ys, h => by
    rw [HT.lexLt_cons, HT.lexLt_cons]
    by_cases e : x = y
    · subst e
      rw [if_pos rfl, if_pos rfl]
      exact lex_anti xs ys fun z => h (by rw [z])
    · rw [if_neg e, if_neg (Ne.symm e)]
      by_cases l : x < y
      · rw [decide_eq_true l, decide_eq_false (by lia)]; rfl
      · rw [decide_eq_false l, decide_eq_true (by lia)]; rfl
theorem lex_irr : ∀ (xs : List Int), HT.lexLt xs xs = false
  | [] => rfl
  | x :: xs => by rw [HT.lexLt_cons, if_pos rfl]; exact lex_irr xs
theorem lex_trans : ∀ (xs ys zs : List Int), HT.lexLt xs ys = true → HT.lexLt ys zs = true → HT.lexLt xs zs = true
  | [], [], _, h, _ => by cases h
  | [], _ :: _, [], _, h => by cases h
  | [], _ :: _, _ :: _, _, _ => rfl
  | _ :: _, [], _, h, _ => by cases h
  | _ :: _, _ :: _, [], _, h => by cases h
  | x :: xs, y :: ys, z :: zs, h1, h2 => by
    rw [HT.lexLt_cons] at h1 h2 ⊢
    by_cases e1 : x = y
    · subst e1
      rw [if_pos rfl] at h1
      by_cases e2 : x = z
      · subst e2
        rw [if_pos rfl] at h2 ⊢
        exact lex_trans xs ys zs h1 h2
      · rw [if_neg e2] at h2 ⊢
        exact h2
    · rw [if_neg e1] at h1
      have l1 := of_decide_eq_true h1
      by_cases e2 : y = z
      · subst e2
        rw [if_neg e1]; exact h1
      · rw [if_neg e2] at h2
        have l2 := of_decide_eq_true h2
        rw [if_neg (by lia)]
        exact decide_eq_true (by lia)
theorem SKey.lt_anti {x y : SKey} (hn : x.num = y.num) (h : x ≠ y) : x.lt y = !y.lt x := by
  cases x with
  | n i =>
    cases y with
    | n j =>
      have : i ≠ j := fun z => h (by rw [z])
      simp only [SKey.lt]
      by_cases l : i < j
      · rw [decide_eq_true l, decide_eq_false (by lia)]; rfl
      · rw [decide_eq_false l, decide_eq_true (by lia)]; rfl
    | t ms => cases hn
  | t ns =>
    cases y with
    | n j => cases hn
    | t ms => exact lex_anti ns ms fun z => h (by rw [z])
theorem SKey.lt_irr (x : SKey) : x.lt x = false := by
  cases x with
  | n i => simp [SKey.lt]
  | t ns => exact lex_irr ns
theorem SKey.lt_trans {x y z : SKey} (h1 : x.lt y = true) (h2 : y.lt z = true) : x.lt z = true := by
  cases x <;> cases y <;> cases z <;> first
    | (cases h1; done) | (cases h2; done)
    | (simp only [SKey.lt, decide_eq_true_eq] at h1 h2 ⊢; lia)
    | exact lex_trans _ _ _ h1 h2
theorem SRow.lt_anti {x y : SRow} (hn : x.key.num = y.key.num) (h : x.name ≠ y.name) : x.lt y = !y.lt x := by
  unfold SRow.lt
  by_cases e : x.key = y.key
  · rw [if_pos e, if_pos e.symm]
    by_cases l : x.name < y.name
    · rw [decide_eq_true l, decide_eq_false (by lia)]; rfl
    · rw [decide_eq_false l, decide_eq_true (by lia)]; rfl
  · rw [if_neg e, if_neg (Ne.symm e)]
    exact SKey.lt_anti hn e
theorem SRow.lt_trans {x y z : SRow} (h1 : x.lt y = true) (h2 : y.lt z = true) : x.lt z = true := by
  unfold SRow.lt at *
  by_cases e1 : x.key = y.key
  · rw [if_pos e1] at h1
    by_cases e2 : y.key = z.key
    · rw [if_pos e2] at h2
      rw [if_pos (e1.trans e2)]
      simp only [decide_eq_true_eq] at *
      lia
    · rw [if_neg e2] at h2
      rw [if_neg (by rw [e1]; exact e2), e1]
      exact h2
  · rw [if_neg e1] at h1
    by_cases e2 : y.key = z.key
    · rw [if_neg (by rw [← e2]; exact e1), ← e2]
      exact h1
    · rw [if_neg e2] at h2
      have h3 := SKey.lt_trans h1 h2
      by_cases e3 : x.key = z.key
      · rw [e3, SKey.lt_irr] at h3
        cases h3
      · rw [if_neg e3]; exact h3
end L2
set_option maxRecDepth 100000
namespace L2
open PySem PySem.Spec PyProof.Rows PySem.SeqAt
def row0 : SRow := ⟨.n 0, 0, []⟩
def kSortT : List D → (D → Prop) → Prop := fun es k => ∃ (rows : List SRow) (f : Bool), es = [.lst (rows.map SRow.d)] ∧ rows.length < 64 ∧ (∀ x ∈ rows, x.key.num = f) ∧ (rows.map SRow.name).Nodup ∧ ∀ rows' : List SRow, rows'.Perm rows → rows'.Pairwise (fun x y => x.lt y = true) → k (.lst (rows'.map SRow.d))
theorem eqDs_ints : ∀ (xs ys : List Int), eqDs (xs.map D.int) (ys.map D.int) = decide (xs = ys)
  | [], [] => by unfold eqDs; rfl
  | [], y :: ys => by unfold eqDs; simp
  | x :: xs, [] => by unfold eqDs; simp
  | x :: xs, y :: ys => by
    rw [List.map_cons, List.map_cons]
    unfold eqDs
    rw [eqDs_ints xs ys]
    unfold eqD
    by_cases e : x = y
    · subst e; simp
    · simp [e]
theorem eqD_key {x y : SKey} (h : x.num = y.num) : eqD x.d y.d = decide (x = y) := by
  cases x with
  | n i =>
    cases y with
    | n j =>
      show eqD (.int i) (.int j) = _
      unfold eqD
      by_cases e : i = j
      · subst e; simp
      · simp [e]
    | t ms => cases h
  | t ns =>
    cases y with
    | n j => cases h
    | t ms =>
      show eqD (.tup _) (.tup _) = _
      unfold eqD
      rw [eqDs_ints]
      by_cases e : ns = ms
      · subst e; simp
      · simp [e]
theorem okE_key (x : SKey) : okE x.d 20 = true := by
  cases x with
  | n i => exact okE_int
  | t ns =>
    refine (okE_tup (k := 19)).mpr fun d hd => ?_
    obtain ⟨x, _, rfl⟩ := List.mem_map.mp hd
    exact okE_int
section
variable {X : Cx} {pins : List (Addr × Obj)} {σ : St} {H : Hp} {s : Shared} {G : Option Addr} {Z : Addr → Prop}
theorem vals_two {a b : V} {xs : List V} {its : List Value} (h : Vals (a :: b :: xs) its) : ∃ p q r, its = p :: q :: r ∧ RelV a p ∧ RelV b q := by
  cases h with
  | cons h0 t =>
    cases t with
    | cons h1 t1 => exact ⟨_, _, _, rfl, h0, h1⟩
structure RowAt (X : Cx) (G : Option Addr) (Z : Addr → Prop) (H : Hp) (s : Shared) (x : SRow) (u p : Value) (rest : List Value) : Prop where
  tup : ∃ q, Srt.Tup s.heap u p (q :: rest) ∧ ∃ t, q = .int x.name t
  key : ∃ z, Rep X.K G Z H x.key.d z ∧ RelV z p
theorem row_at (I : Inv X pins σ H s) {x : SRow} {v : V} {u : Value} (r : Rep X.K G Z H x.d v) (q : RelV v u) : ∃ p rest, RowAt X G Z H s x u p rest := by
  unfold SRow.d at r
  obtain ⟨a, xs, rfl, sq, rs⟩ := r.tup_inv
  have e : u = .ref a := q
  subst e
  obtain ⟨its, rv, pl, _⟩ := I.tuple sq.sq
  obtain ⟨z0, xs1, rfl, r0, rs1⟩ := rs.split
  obtain ⟨z1, xs2, rfl, r1, rs2⟩ := rs1.split
  have e1 := r1.int_inv
  subst e1
  obtain ⟨p0, p1, its2, rfl, h0, t, rfl⟩ := vals_two rv
  exact ⟨p0, its2, ⟨_, ⟨a, rfl, pl⟩, t, rfl⟩, z0, r0, h0⟩
theorem row_type (I : Inv X pins σ H s) {x : SRow} {u p : Value} {rest : List Value} (R : RowAt X G Z H s x u p rest) : s.TypeIs p (if x.key.num then "int" else "tuple") := by
  obtain ⟨z, r, q⟩ := R.key
  cases h : x.key with
  | n i =>
    rw [h] at r
    have e : z = .int i := r.int_inv
    subst e
    obtain ⟨t, rfl⟩ := q
    exact typeIs_int s i t
  | t ns =>
    rw [h] at r
    obtain ⟨a, xs, rfl, sq, rs⟩ := Rep.tup_inv (show Rep X.K G Z H (.tup (ns.map D.int)) z from r)
    have e : p = .ref a := q
    subst e
    obtain ⟨its, rv, ⟨o, ho, hc, _⟩, _⟩ := I.tuple sq.sq
    exact ⟨o, ho, hc⟩
theorem row_cmp (I : Inv X pins σ H s) {x y : SRow} {u v p q : Value} {ps qs : List Value} (hn : x.key.num = y.key.num) (hd : x.name ≠ y.name) (R : RowAt X G Z H s x u p ps) (R' : RowAt X G Z H s y v q qs) {A : Around} (hu : A.units + 60 < cLine) :
    ∃ p ps q qs, Srt.Tup s.heap u p ps ∧ Srt.Tup s.heap v q qs ∧ Srt.Lex A s x.key.num (x.lt y) 0 (p :: ps) (q :: qs) := by
  obtain ⟨n1, t1, tk1, rfl⟩ := R.tup
  obtain ⟨n2, t2, tk2, rfl⟩ := R'.tup
  obtain ⟨z1, r1, q1⟩ := R.key
  obtain ⟨z2, r2, q2⟩ := R'.key
  have E := (eq_rep I 20 x.key.d y.key.d z1 z2 p q A (okE_key _) (okE_key _) r1 r2 q1 q2 (by lia)).1
  rw [eqD_key hn] at E
  refine ⟨p, _, q, _, t1, t2, ?_⟩
  by_cases e : x.key = y.key
  · rw [decide_eq_true e] at E
    refine .alike E (.here ?_ ?_)
    · have := EqAt.int_int (A := A) (s := s) x.name tk1 y.name tk2
      have e2 : (x.name == y.name) = false := by simpa using hd
      rw [e2] at this
      exact this
    · intro prog w E Q h
      unfold SRow.lt at h
      rw [if_pos e] at h
      exact Srt.oneLt_any_int _ h
  · rw [decide_eq_false e] at E
    refine .here E ?_
    intro prog w E Q h
    unfold SRow.lt at h
    rw [if_neg e] at h
    cases hx : x.key with
    | n i =>
      cases hy : y.key with
      | n j =>
        rw [hx] at r1 h
        rw [hy] at r2 h
        have e1 : z1 = .int i := r1.int_inv
        have e2 : z2 = .int j := r2.int_inv
        subst e1 e2
        obtain ⟨a1, rfl⟩ := q1
        obtain ⟨a2, rfl⟩ := q2
        exact Srt.oneLt_any_int _ h
      | t ms => rw [hx, hy] at hn; cases hn
    | t ns =>
      cases hy : y.key with
      | n j => rw [hx, hy] at hn; cases hn
      | t ms =>
        rw [hx] at r1 h
        rw [hy] at r2 h
        obtain ⟨a, xs, rfl, sq, rs⟩ := Rep.tup_inv (show Rep X.K G Z H (.tup (ns.map D.int)) z1 from r1)
        obtain ⟨b, ys, rfl, sq', rs'⟩ := Rep.tup_inv (show Rep X.K G Z H (.tup (ms.map D.int)) z2 from r2)
        have e1 : p = .ref a := q1
        have e2 : q = .ref b := q2
        subst e1 e2
        obtain ⟨its, rv, pl, _⟩ := I.tuple sq.sq
        obtain ⟨its', rv', pl', _⟩ := I.tuple sq'.sq
        rw [reps_intsV rs] at rv
        rw [reps_intsV rs'] at rv'
        show wpAny _ _ (oneLt' (false && _) _ _) _ _ _
        exact Srt.oneLt_false_tup pl pl' (intsAre_of rv) (intsAre_of rv') (by lia) h
end
theorem Reps.getD {K : PySem.W.Frag} {G : Option Addr} {Z : Addr → Prop} {H : Hp} {α : Type} {enc : α → D} {rows : List α} {a0 : α} {xs : List V} (rs : Reps K G Z H (rows.map enc) xs) {i : Nat} (hi : i < rows.length) : Rep K G Z H (enc (rows.getD i a0)) (xs.getD i .non) := by
  obtain ⟨v, e, r⟩ := rs.get (i := i) (d := enc rows[i]) (by rw [List.getElem?_map, List.getElem?_eq_getElem hi]; rfl)
  rw [List.getD_eq_getElem?_getD, List.getD_eq_getElem?_getD, e, List.getElem?_eq_getElem hi]
  exact r
theorem reps_pick {K : PySem.W.Frag} {G : Option Addr} {Z : Addr → Prop} {H : Hp} {α : Type} {enc : α → D} {rows : List α} {a0 : α} {xs : List V} (rs : Reps K G Z H (rows.map enc) xs) : ∀ {ls : List Nat}, (∀ i ∈ ls, i < rows.length) → Reps K G Z H ((ls.map fun i => rows.getD i a0).map enc) (ls.map fun i => xs.getD i .non)
  | [], _ => .nil
  | i :: ls, hl => .cons (rs.getD (hl i (List.mem_cons_self ..))) (reps_pick rs fun j hj => hl j (List.mem_cons_of_mem _ hj))
theorem map_range {α : Type} (a0 : α) (rows : List α) : (List.range rows.length).map (fun i => rows.getD i a0) = rows := by
  apply List.ext_getElem
  · simp
  · intro i h1 h2
    simp [List.getD_eq_getElem?_getD, h2]
theorem cr_sortT {A : AC} {X : Cx} (hK : X.K = A.K) : CallRel A (rSortT X) kSortT := by
  rintro os n rho sg H ds vs es ws k Q I rs ⟨rows, f, rfl, hl, hf, hnd, q⟩ hQ
  obtain ⟨v, rfl, r⟩ := reps1 rs
  obtain ⟨a, xs, rfl, sq, rr⟩ := r.lst_inv
  have len : xs.length = rows.length := by rw [rr.length, List.length_map]
  have mem : ∀ i, i < rows.length → rows.getD i row0 ∈ rows := fun i hi => by
    rw [List.getD_eq_getElem?_getD, List.getElem?_eq_getElem hi]; exact List.getElem_mem hi
  have dist : ∀ i j, i < rows.length → j < rows.length → i ≠ j → (rows.getD i row0).name ≠ (rows.getD j row0).name := fun i j hi hj hij e => by
    have g : ∀ i (hi : i < rows.length), (rows.map SRow.name)[i]'(by simpa using hi) = (rows.getD i row0).name := fun i hi => by
      rw [List.getElem_map, List.getD_eq_getElem?_getD, List.getElem?_eq_getElem hi]; rfl
    have f := List.pairwise_iff_getElem.mp hnd
    rcases Nat.lt_or_gt_of_ne hij with l | l
    · exact f i j (by simpa using hi) (by simpa using hj) l (by rw [g i hi, g j hj, e])
    · exact f j i (by simpa using hj) (by simpa using hi) l (by rw [g i hi, g j hj, e])
  have num : ∀ i, i < rows.length → (rows.getD i row0).key.num = f := fun i hi => hf _ (mem i hi)
  rw [← hK] at rr
  refine ⟨a, xs, f, fun i j => (rows.getD i row0).lt (rows.getD j row0), rfl, by rw [hK]; exact sq.sq, by lia, fun i j hi hj hij => SRow.lt_anti (by rw [num i (by lia), num j (by lia)]) (dist i j (by lia) (by lia) hij), fun i j l _ _ _ h1 h2 => SRow.lt_trans h1 h2, fun i hi => ?_, fun i j hi hj hij => ?_, fun ls hp hU l hl' => ?_⟩
  · intro pins s σ u J ru
    obtain ⟨p, rest, R⟩ := row_at J (rr.getD (enc := SRow.d) (a0 := row0) (by lia)) ru
    obtain ⟨z, t, _⟩ := R.tup
    have ty := row_type J R
    rw [num i (by lia)] at ty
    exact ⟨p, _, t, ty⟩
  · intro pins s σ u v J ru rv B hB
    obtain ⟨p, ps, R⟩ := row_at J (rr.getD (enc := SRow.d) (a0 := row0) (by lia)) ru
    obtain ⟨p', ps', R'⟩ := row_at J (rr.getD (enc := SRow.d) (a0 := row0) (by lia)) rv
    have c := row_cmp J (by rw [num i (by lia), num j (by lia)]) (dist i j (by lia) (by lia) hij) R R' hB
    rw [num i (by lia)] at c
    exact c
  · rw [len] at hp hU
    have hls : ∀ i ∈ ls.toList, i < rows.length := fun i hi => by
      have := (hp.mem_iff).mp (Array.mem_toList_iff.mp hi)
      rwa [Array.mem_range] at this
    have hsz : ls.size = rows.length := by rw [hp.size_eq, Array.size_range]
    rw [hK] at rr
    refine hQ _ _ _ ⟨os, I.newLst (reps_pick (a0 := row0) rr hls) hl'⟩ (q _ ?_ ?_)
    · have p1 : ls.toList.Perm (List.range rows.length) := by
        have := Array.perm_iff_toList_perm.mp hp
        rwa [Array.toList_range] at this
      have p2 := p1.map fun i => rows.getD i row0
      rwa [map_range] at p2
    · rw [List.pairwise_map, List.pairwise_iff_getElem]
      intro i j hi hj hij
      have hi' : i < ls.size := by simpa using hi
      have hj' : j < ls.size := by simpa using hj
      have u := hU i j hij (by lia)
      have g : ∀ i (hi : i < ls.size), Srt.lab ls i = ls.toList[i]'(by simpa using hi) := fun i hi => by
        refine Srt.lab_of_get ?_
        rw [← Array.getElem?_toList, List.getElem?_eq_getElem (by simpa using hi)]
      rw [g i hi', g j hj'] at u
      exact u
end L2
set_option maxRecDepth 100000
namespace L2
open PySem PySem.Spec PyProof.Rows PySem.SeqAt
theorem call_sum {X : Cx} (hc : X.calm = true) : CallR X (.builtin "sum") (fun xs H Q => ∃ (p : Addr) (ns : List Int), xs = [.ref p] ∧ SqL X.K H p (ns.map V.int) ∧ Q (.int ns.sum) H) := by
  intro pins s σ H xs us Q I r h
  obtain ⟨p, ns, rfl, hq, q⟩ := h
  obtain ⟨u, rfl, hu⟩ := vals1 r
  have e : u = .ref p := hu
  subst e
  obtain ⟨its, rv, pl, _⟩ := I.list hq
  have hi := intsAre_of rv
  obtain ⟨ys, hys⟩ := hi.allInts.items
  have hl := pl.isList
  rw [hys] at hl
  refine sum_intListG (I.ok.hd hc) hl fun h' tk t' hk => ?_
  refine ⟨.int ns.sum, H, I.kept hk, ⟨t', ?_⟩, q⟩
  rw [preSum_eq, List.take_of_length_le (by simp)]
  have e2 := nums_intItems ys
  rw [← hys] at e2
  rw [← e2]
  show Value.int (numsOf its.toArray.toList).sum t' = _
  rw [show its.toArray.toList = its from rfl, hi.numsOf]
def kSum : List D → (D → Prop) → Prop := fun es k => ∃ ns : List Int, es = [.lst (ns.map D.int)] ∧ k (.int ns.sum)
theorem cr_sum {A : AC} : CallRel A (fun xs H Q => ∃ (p : Addr) (ns : List Int), xs = [.ref p] ∧ SqL A.K H p (ns.map V.int) ∧ Q (.int ns.sum) H) kSum := by
  rintro os n rho sg H ds vs es ws k Q I rs ⟨ns, rfl, q⟩ hQ
  obtain ⟨v, rfl, r⟩ := reps1 rs
  obtain ⟨a, xs, rfl, sq, rr⟩ := r.lst_inv
  have e := reps_intsV rr
  subst e
  exact ⟨a, ns, rfl, sq.sq, hQ _ _ _ ⟨os, I.push (Rep.ofS (d := .int ns.sum) rfl)⟩ q⟩
structure Blt2 (mg : Str → Option Value) : Prop where
  sum : mg "sum" = none
theorem bt_sum : bootBuiltins "sum" = some (.builtin "sum") := by decide +kernel
section
variable {A : AC} {X : Cx} {a : Expr} {ta : TD} {pos : Pos}
def lstAt (d : D) (k : List D → Prop) : Prop := ∃ fs, (d = .lst fs ∨ d = .fz fs) ∧ k fs
@[simp] theorem q_lstAt {fs : List D} {k} : lstAt (.lst fs) k ↔ k fs := ⟨fun ⟨_, e, h⟩ => by rcases e with e | e <;> cases e; exact h, fun h => ⟨_, .inl rfl, h⟩⟩
def dSlV (ta : TD) (tl th : TOD) : TD := fun rho n P => ta rho n fun d n1 => tl rho n1 fun lo n2 => th rho n2 fun hi n3 => lstAt d fun fs => P (.lst (cutL fs lo hi)) n3
@[simp] theorem q_dSlV {ta tl th rho n P} : dSlV ta tl th rho n P = ta rho n fun d n1 => tl rho n1 fun lo n2 => th rho n2 fun hi n3 => lstAt d fun fs => P (.lst (cutL fs lo hi)) n3 := rfl
theorem pd_slV {le he : Option Expr} {tl th : TOD} {p2 : Pos} (hK : X.K = A.K) (ha : PD A X a ta) (hl : POD A X le tl) (hh : POD A X he th) : PD A X (.Subscript a (.Slice le he none p2) pos) (dSlV ta tl th) := by
  with_unfolding_all
    exact (pe_slice sl_list ha hl hh).imp fun sg H Q h => by
      obtain ⟨rho, n, P, ds, vs, I, ht, hQ⟩ := h
      refine ⟨rho, n, _, ds, vs, I, ht, fun v H1 n1 d J1 h1 => ⟨rho, n1, _, _, _, J1, h1, fun lo H2 n2 J2 h2 => ⟨rho, n2, _, _, _, J2, h2, fun hi H3 n3 ⟨os, J3⟩ h3 => ?_⟩⟩⟩
      obtain ⟨fs, hd, k⟩ := h3
      obtain ⟨J4, r⟩ := J3.pop
      rw [hK]
      rcases hd with rfl | rfl
      · obtain ⟨l, xs, rfl, sq, rs⟩ := r.lst_inv
        exact ⟨l, xs, rfl, sq.sq, fun p hp => hQ _ _ n3 _ ⟨os, J4.newLst (reps_cut rs lo hi) hp⟩ k⟩
      · obtain ⟨l, xs, rfl, sq, rs⟩ := r.fz_inv
        exact ⟨l, xs, rfl, sq, fun p hp => hQ _ _ n3 _ ⟨os, J4.newLst (reps_cut rs lo hi) hp⟩ k⟩
def dOwnNe (i : Nat) : TD := fun rho n P => ∃ es, rho[i]? = some (some (.own es)) ∧ okE (.lst es) 20 = true ∧ P (.bl (!eqDs es [])) n
@[simp] theorem q_dOwnNe {i rho n P} : dOwnNe i rho n P = ∃ es, rho[i]? = some (some (.own es)) ∧ okE (.lst es) 20 = true ∧ P (.bl (!eqDs es [])) n := rfl
end
end L2
set_option maxRecDepth 100000
namespace L2
open PySem PySem.Spec PyProof.Rows PySem.SeqAt
mutual
def toPy : D → PyData
  | .int i => .int i
  | .tup ds => .tuple (toPys ds)
  | _ => .none
def toPys : List D → List PyData
  | [] => []
  | d :: ds => toPy d :: toPys ds
end
mutual
def okS : D → Nat → Bool
  | .int i, _ => decide (i.natAbs.log2 < 1920)
  | .tup ds, k => match k with
    | 0 => false
    | k + 1 => okSs ds k
  | _, _ => false
def okSs : List D → Nat → Bool
  | [], _ => true
  | d :: ds, k => okS d k && okSs ds k
end
mutual
def nodes : D → Nat
  | .tup ds => nodess ds + 1
  | _ => 1
def nodess : List D → Nat
  | [] => 0
  | d :: ds => nodes d + nodess ds
end
def showD (d : D) : Str := (toPy d).shown
section
variable {X : Cx} {pins : List (Addr × Obj)} {σ : St} {H : Hp} {s : Shared} {G : Option Addr} {Z : Addr → Prop}
end
def ReadV (X : Cx) (H : Hp) (y : V) (p : PyData) : Prop := ∀ pins s σ v, Inv X pins σ H s → RelV y v → ∃ a as, v = .ref a ∧ Reads s.heap (.ref a) p as
def kStrT : List D → (D → Prop) → Prop := fun es k => ∃ ds, es = [.tup ds] ∧ okS (.tup ds) 15 = true ∧ nodes (.tup ds) ≤ 8000 ∧ k (.str (showD (.tup ds)))
@[simp] theorem q_kStrT {ds k} : kStrT [.tup ds] k ↔ (okS (.tup ds) 15 = true ∧ nodes (.tup ds) ≤ 8000 ∧ k (.str (showD (.tup ds)))) := ⟨fun ⟨_, e, h⟩ => by cases e; exact h, fun h => ⟨_, rfl, h⟩⟩
end L2
set_option maxRecDepth 100000
namespace L2
open PySem PySem.Spec PyProof.Rows
section
variable {X : Cx} {A : AC}
def rdRepZ : RD2 := fun d1 d2 k => ∃ es i, d1 = .tup es ∧ d2 = .int i ∧ es ≠ [] ∧ 0 ≤ i ∧ es.length * i.toNat ≤ sizeLine ∧ k (.tup (List.replicate i.toNat es).flatten)
@[simp] theorem q_rdRepZ {es i k} : rdRepZ (.tup es) (.int i) k ↔ (es ≠ [] ∧ 0 ≤ i ∧ es.length * i.toNat ≤ sizeLine ∧ k (.tup (List.replicate i.toNat es).flatten)) := ⟨fun ⟨_, _, e, e', h⟩ => by cases e; cases e'; exact h, fun h => ⟨_, _, rfl, rfl, h⟩⟩
end
end L2
set_option maxRecDepth 100000
namespace L2.Srt
open PySem PyProof.Rows
section
variable {prog : Program} {w : World} {A : Around} {E : Value → Shared → Prop} {s : Shared}
end
end L2.Srt
namespace L2
open PySem PySem.Spec PyProof.Rows
section
variable {X : Cx} {A : AC} {pos : Pos} {e : Expr} {t1 : TAD}
def sNever : TSD := fun _ _ _ => False
@[simp] theorem q_never {F : EndsD} {rho : Rho} {n : Nat} : sNever F rho n ↔ False := Iff.rfl
end
end L2
set_option maxRecDepth 100000
namespace L2
open PySem PySem.Spec PyProof.Rows
section
variable {K : PySem.W.Frag} {G G' : Option Addr} {Z : Addr → Prop} {H : Hp}
end
section
variable {A : AC} {X : Cx} {e : Expr} {es : List Expr} {t1 : TAD} {t2 : TSD} {pos p : Pos}
end
end L2
set_option maxRecDepth 100000
namespace L2
open PySem PySem.Spec PyProof.Rows
def hasK (ks : List Key) (k : Key) : Bool := ks.any fun j => decide (j = k)
def putKs (ks : List Key) (k : Key) : List Key := if hasK ks k = true then ks else ks ++ [k]
def putG {α : Type} (ks : List Key) (xs : List α) (k : Key) (x : α) : List α := if hasK ks k = true then List.zipWith (fun j y => if j = k then x else y) ks xs else xs ++ [x]
theorem kvs_any : ∀ (ks : List Key) (xs : List V) (k : Key), ks.length = xs.length → ((kvsV ks xs).any fun kv => decide (kv.1 = k)) = hasK ks k
  | [], xs, k, _ => rfl
  | j :: ks, [], k, h => by simp at h
  | j :: ks, x :: xs, k, h => by
    have ih := kvs_any ks xs k (by simpa using h)
    show (decide (j = k) || (kvsV ks xs).any _) = (decide (j = k) || hasK ks k)
    rw [ih]
theorem kvs_map : ∀ (ks : List Key) (xs : List V) (k : Key) (v : V), (kvsV ks xs).map (fun kv => if kv.1 = k then (kv.1, v) else kv) = kvsV ks (List.zipWith (fun j y => if j = k then v else y) ks xs)
  | [], xs, k, v => by simp [kvsV]
  | j :: ks, [], k, v => by simp [kvsV]
  | j :: ks, x :: xs, k, v => by
    have ih := kvs_map ks xs k v
    show (if j = k then (j, v) else (j, x)) :: (kvsV ks xs).map _ = (j, if j = k then v else x) :: kvsV ks _
    rw [ih]
    by_cases e : j = k <;> simp [e]
theorem kvs_snoc {ks : List Key} {xs : List V} (k : Key) (v : V) (h : ks.length = xs.length) : kvsV ks xs ++ [(k, v)] = kvsV (ks ++ [k]) (xs ++ [v]) := by
  unfold kvsV
  rw [List.zipWith_append h]; rfl
theorem kvs_put {ks : List Key} {xs : List V} (k : Key) (v : V) (h : ks.length = xs.length) : putK (kvsV ks xs) k v = kvsV (putKs ks k) (putG ks xs k v) := by
  unfold putK putKs putG
  rw [kvs_any ks xs k h]
  by_cases e : hasK ks k = true
  · rw [if_pos e, if_pos e, if_pos e, kvs_map]
  · rw [if_neg e, if_neg e, if_neg e, kvs_snoc k v h]
theorem put_len {α : Type} {ks : List Key} {xs : List α} (k : Key) (x : α) (h : ks.length = xs.length) : (putKs ks k).length = (putG ks xs k x).length := by
  unfold putKs putG
  split
  · rw [List.length_zipWith, ← h]; lia
  · simp [h]
theorem put_le {α : Type} {ks : List Key} {xs : List α} (k : Key) (x : α) (h : ks.length = xs.length) : (putKs ks k).length ≤ ks.length + 1 := by
  unfold putKs
  split <;> simp
section
variable {K : PySem.W.Frag} {G : Option Addr} {Z : Addr → Prop} {H : Hp}
theorem Reps.zipPut {d : D} {v : V} (r : Rep K G Z H d v) (k : Key) : ∀ {ks : List Key} {es : List D} {xs : List V}, Reps K G Z H es xs → Reps K G Z H (List.zipWith (fun j y => if j = k then d else y) ks es) (List.zipWith (fun j y => if j = k then v else y) ks xs)
  | [], es, xs, h => .nil
  | j :: ks, [], xs, h => by rw [h.nil_inv]; exact .nil
  | j :: ks, e :: es, xs, h => by
    obtain ⟨x, xr, rfl, q, t⟩ := h.split
    have ih := Reps.zipPut r k (ks := ks) t
    show Reps K G Z H ((if j = k then d else e) :: _) ((if j = k then v else x) :: _)
    by_cases z : j = k
    · rw [if_pos z, if_pos z]; exact .cons r ih
    · rw [if_neg z, if_neg z]; exact .cons q ih
theorem Reps.put {d : D} {v : V} {ks : List Key} {es : List D} {xs : List V} (h : Reps K G Z H es xs) (r : Rep K G Z H d v) (k : Key) : Reps K G Z H (putG ks es k d) (putG ks xs k v) := by
  unfold putG
  split
  · exact Reps.zipPut r k h
  · exact h.append (.cons r .nil)
end
def keyOf : D → Option Key
  | .int i => some (Sum.inl i)
  | .str x => some (Sum.inr x)
  | _ => none
@[simp] theorem keyOf_int {i : Int} : keyOf (.int i) = some (Sum.inl i) := rfl
@[simp] theorem keyOf_str {i : Str} : keyOf (.str i) = some (Sum.inr i) := rfl
theorem keyOf_rep {K : PySem.W.Frag} {G : Option Addr} {Z : Addr → Prop} {H : Hp} {d : D} {v : V} {k : Key} (h : Rep K G Z H d v) (e : keyOf d = some k) : v = kV k := by
  cases d with
  | int i => cases e; exact h.int_inv
  | str i => cases e; exact h.toS rfl
  | _ => simp [keyOf] at e
section
variable {A : AC} {X : Cx} {tg iter kx vx : Expr} {ifs : List Expr} {scope : Scope} {own M : List Str} {pos : Pos} {it : TID} {g : TGD} {tt : TBD} {tk tv : TD}
def dcompIn (own : Nat) (g : TGD) (tt : TBD) (tk tv : TD) (rho : Rho) (P : D → Nat → Prop) (items : List D) (n1 : Nat) : Prop := items.length ≤ sizeLine ∧ ∃ J : Nat → List Key → List D → Nat → Prop, J 0 [] [] n1 ∧
  (∀ i d ks es n, items[i]? = some d → J i ks es n → g d (List.replicate own none ++ rho) fun rho' => rho'.drop own = rho ∧ tt rho' n fun c n2 => if c = true then tk rho' n2 fun dk n3 => tv rho' n3 fun dv n4 => ∃ k, keyOf dk = some k ∧ J (i + 1) (putKs ks k) (putG ks es k dv) n4 else J (i + 1) ks es n2) ∧
  ∀ ks es n, J items.length ks es n → P (.dct ks es) n
def dDComp (it : TID) (own : Nat) (g : TGD) (tt : TBD) (tk tv : TD) : TD := fun rho n P => it rho n (dcompIn own g tt tk tv rho P)
@[simp] theorem q_dDComp {it own g tt tk tv rho n P} : dDComp it own g tt tk tv rho n P = it rho n (dcompIn own g tt tk tv rho P) := rfl
theorem AmO.newDct {os n rho sg H ds vs} {ks : List Key} {es : List D} {xs : List V} {p : Addr} (I : AmO A os n rho sg H ds vs) (r : Reps A.K A.G (Zof A os) H es xs) (hp : H p = none) : AmO A os n rho sg (upd H p (.dK (kvsV ks xs))) (.dct ks es :: ds) (.ref p :: vs) := by
  have hf : ∀ a u, H a = some u → upd H p (.dK (kvsV ks xs)) a = some u := fun a u e => by
    rw [upd_ne fun z => by rw [z, hp] at e; cases e]; exact e
  refine ⟨I.len, fun i d e => ?_, ?_, I.nd, fun q hq => ?_, fun a e => ?_, I.gz, fun a u h e => hf a u (I.fr a u h e), I.z0⟩
  · obtain ⟨v, e1, e2⟩ := I.slot i d e
    exact ⟨v, e1, SlotR.mono (fun _ _ z => z) (fun a u _ e => hf a u e) (fun a xs m q => ⟨m, hf a _ q⟩) _ _ e2⟩
  · refine .cons ?_ (Reps.mono (fun _ _ z => z) (fun a u _ e => hf a u e) _ _ I.pend)
    unfold Rep
    refine ⟨p, xs, rfl, ⟨fun z => ?_, upd_same⟩, Reps.mono (fun _ _ z => z) (fun a u _ e => hf a u e) _ _ r⟩
    exact absurd hp (I.zH p z)
  · obtain ⟨f1, f2, f3⟩ := I.fresh q hq
    refine ⟨f1, f2, ?_⟩
    cases e : H q.2 with
    | none => exact absurd e f3
    | some u => rw [hf _ _ e]; simp
  · obtain ⟨x, y, z, q, r⟩ := I.st a e
    exact ⟨x, y, z, hf _ _ q, r⟩
theorem tDComp_of {sg : St} {H : Hp} {Q : VK} {m : Nat} (h : tOf A (dDComp it m g tt tk tv) sg H Q) : tDComp (iOf A it) m (gOf A m g) (ttOf A tt) (tOf A tk) (tOf A tv) sg H Q := by
  obtain ⟨rho, n, P, ds, vs, I, ht, hQ⟩ := h
  refine ⟨rho, n, _, ds, vs, I, ht, fun J H' n' items es ws I1 hl hJ k => ?_⟩
  obtain ⟨hsz, W, w0, turn, fin⟩ := k
  refine ⟨fun i mm acc H => mm = items.length - i ∧ i ≤ items.length ∧ ∃ ks accD xs n, acc = kvsV ks xs ∧ ks.length = xs.length ∧ ks.length ≤ i ∧ xs.length = accD.length ∧ Am A n rho sg H (es ++ (accD ++ ds)) (ws ++ (xs ++ vs)) ∧ W i ks accD n,
    ⟨items.length, rfl, Nat.zero_le _, [], [], [], n', rfl, rfl, Nat.le_refl _, rfl, I1, w0⟩, ?_⟩
  rintro i mm acc H3 ⟨rfl, hi, ks, accD, xs, n3, rfl, hkl, hai, hal, ⟨os, I3⟩, w3⟩
  have hlk : (kvsV ks xs).length = ks.length := by unfold kvsV; rw [List.length_zipWith]; lia
  obtain ⟨j1, j2⟩ := hJ n3 rho sg H3 (accD ++ ds) (xs ++ vs) i ⟨os, I3⟩
  by_cases hlt : i < items.length
  · refine .inr ⟨(j1 items[i] (by simp [hlt])).1, by lia, fun x H4 y => ?_⟩
    obtain ⟨os4, I4⟩ := (j1 items[i] (by simp [hlt])).2 x H4 y
    refine ⟨List.replicate m none ++ rho, n3, _, items[i], es ++ (accD ++ ds), ws ++ (xs ++ vs), ⟨_, I4.front m⟩, turn i items[i] ks accD n3 (by simp [hlt]) w3, fun rho' sg' ⟨os5, I5⟩ e5 k5 => ?_⟩
    obtain ⟨k5, k6⟩ := k5
    have e6 : sg'.drop m = sg := by rw [e5, List.drop_left' (by simp)]
    refine ⟨e6, rho', n3, _, es ++ (accD ++ ds), ws ++ (xs ++ vs), ⟨os5, I5⟩, k6, fun c H6 n6 ⟨os6, I6⟩ k7 => ?_⟩
    cases c with
    | false =>
      obtain ⟨os7, I7⟩ := I6.back k5 e6
      exact ⟨items.length - (i + 1), by lia, rfl, hlt, ks, accD, xs, n6, rfl, hkl, by lia, hal, ⟨os7, I7⟩, k7⟩
    | true =>
      rw [if_pos rfl] at k7 ⊢
      refine ⟨rho', n6, _, es ++ (accD ++ ds), ws ++ (xs ++ vs), ⟨os6, I6⟩, k7, fun vk H8 n8 dk I8 k8 => ?_⟩
      refine ⟨rho', n8, _, dk :: (es ++ (accD ++ ds)), vk :: (ws ++ (xs ++ vs)), I8, k8, fun v H9 n9 d ⟨os9, I9⟩ k9 => ?_⟩
      obtain ⟨kk, ek, w9⟩ := k9
      obtain ⟨os10, I10⟩ := I9.back k5 e6
      obtain ⟨I11, rv⟩ := I10.pop
      obtain ⟨I12, rk⟩ := I11.pop
      obtain ⟨I13, r1⟩ := I12.split hl
      obtain ⟨I14, r2⟩ := I13.split hal
      refine ⟨kk, items.length - (i + 1), keyOf_rep rk ek, by lia, rfl, hlt, putKs ks kk, putG ks accD kk d, putG ks xs kk v, n9, kvs_put kk v hkl, put_len kk v hkl, ?_, ?_, ⟨os10, (I14.join (r2.put rv kk)).join r1⟩, w9⟩
      · have := put_le kk v hkl; lia
      · rw [← put_len kk v hkl, ← put_len kk d (by lia)]
  · have e : i = items.length := by lia
    subst e
    refine .inl ⟨j2 (Nat.le_refl _), by lia, fun D hD => ?_⟩
    obtain ⟨I4, r1⟩ := I3.split hl
    obtain ⟨I5, r2⟩ := I4.split hal
    exact hQ _ _ n3 _ ⟨os, I5.newDct r2 hD⟩ (fin ks accD n3 w3)
theorem pd_dcomp (ok : CompOk X scope M) (hc : X.calm = true) (hi : PID A X tg iter it) (hg : ∀ C s2 H2 fp, PGD A (cxComp X scope own M C s2 H2 fp) own.length tg g) (ht : ∀ C s2 H2 fp, PTs (cxComp X scope own M C s2 H2 fp) ifs (ttOf A tt))
    (hk : ∀ C s2 H2 fp, PD A (cxComp X scope own M C s2 H2 fp) kx tk) (he : ∀ C s2 H2 fp, PD A (cxComp X scope own M C s2 H2 fp) vx tv) (hs : ∀ x, foldedSetIterable iter X.env x = pure x := by intro _; rfl) : PD A X (.DictComp kx vx [⟨tg, iter, ifs, 0⟩] scope pos) (dDComp it own.length g tt tk tv) := by
  with_unfolding_all
    exact (pe_dcomp ok hc hi hg ht hk he hs).imp fun _ _ _ => tDComp_of
end
def atK : List Key → List D → Key → Option D
  | k :: ks, d :: ds, x => if k = x then some d else atK ks ds x
  | _, _, _ => none
theorem atK_val {K : PySem.W.Frag} {G : Option Addr} {Z : Addr → Prop} {H : Hp} : ∀ {ks : List Key} {ds : List D} {xs : List V} {x : Key}, Reps K G Z H ds xs →
    (∀ d, atK ks ds x = some d → ∃ v, valV (kvsV ks xs) x = some v ∧ Rep K G Z H d v) ∧ (atK ks ds x = none → valV (kvsV ks xs) x = none)
  | [], ds, xs, x, r => ⟨fun d h => by simp [atK] at h, fun _ => rfl⟩
  | k :: ks, [], xs, x, r => by rw [r.nil_inv]; exact ⟨fun d h => by simp [atK] at h, fun _ => rfl⟩
  | k :: ks, e :: ds, xs, x, r => by
    obtain ⟨v, rs, rfl, q, t⟩ := r.split
    obtain ⟨i1, i2⟩ := atK_val (ks := ks) (x := x) t
    unfold atK
    by_cases c : k = x
    · rw [if_pos c]
      exact ⟨fun d h => by cases h; exact ⟨v, valV_pos (p := (k, v)) c, q⟩, fun h => by cases h⟩
    · rw [if_neg c]
      have e2 : valV (kvsV (k :: ks) (v :: rs)) x = valV (kvsV ks rs) x := valV_neg (p := (k, v)) c
      rw [e2]
      exact ⟨i1, i2⟩
section
variable {A : AC} {X : Cx} {a b : Expr} {ta tb : TD} {pos : Pos}
def rDx : R2 := fun x y H Q => ∃ a v, x = .ref a ∧ DGet H a y (some v) ∧ Q v H
def rdDx : RD2 := fun d1 d2 k => ∃ ks ds x d, d1 = .dct ks ds ∧ keyOf d2 = some x ∧ atK ks ds x = some d ∧ k d
@[simp] theorem q_rdDxI {ks ds x k} : rdDx (.dct ks ds) (.int x) k ↔ ∃ d, atK ks ds (Sum.inl x) = some d ∧ k d := ⟨fun ⟨_, _, _, d, e, e', h⟩ => by cases e; cases e'; exact ⟨d, h⟩, fun ⟨d, h⟩ => ⟨_, _, _, d, rfl, rfl, h⟩⟩
theorem re_dx : OpRel A rDx rdDx := by
  rintro os n rho sg H ds vs d1 d2 v1 v2 k Q I ⟨ks, es, x, d, rfl, hk, hx, q⟩ hQ
  obtain ⟨I1, r2⟩ := I.pop
  obtain ⟨I2, r1⟩ := I1.pop
  have e2 := keyOf_rep r2 hk
  subst e2
  unfold Rep at r1
  obtain ⟨a, xs, rfl, ⟨hz, hH⟩, rs⟩ := r1
  obtain ⟨v, hv, rv⟩ := (atK_val rs).1 d hx
  exact ⟨a, v, rfl, by rw [← hv]; exact DGet.k hH, hQ _ _ _ ⟨os, I2.push rv⟩ q⟩
theorem pd_dix (hu : X.A.units + 1 < cLine) (ha : PD A X a ta) (hb : PD A X b tb) (hs : NoSl b) : PD A X (.Subscript a b pos) (dOp rdDx ta tb) := by
  with_unfolding_all
    exact (pe_dget hu ha hb hs).imp fun _ _ _ => tOp_of (r := rDx) re_dx
def rDin (neg : Bool) : R2 := fun y x H Q => ∃ a o, x = .ref a ∧ DGet H a y o ∧ Q (.bl (o.isSome != neg)) H
theorem op_din (hu : X.A.units + 1 < cLine) : OpR X (compareOp .In) (rDin false) := by
  intro pins s σ H x y v u Q I rx ry h
  obtain ⟨a, o, rfl, g, q⟩ := h
  cases (show u = Value.ref a from ry)
  exact d_in hu I g rx fun s' I' => ⟨.bl (o.isSome != false), H, I', by simp; rfl, q⟩
def rdDin (neg : Bool) : RD2 := fun d1 d2 k => ∃ ks ds x, d2 = .dct ks ds ∧ keyOf d1 = some x ∧ k (.bl ((atK ks ds x).isSome != neg))
@[simp] theorem q_rdDinI {neg ks ds x k} : rdDin neg (.int x) (.dct ks ds) k ↔ k (.bl ((atK ks ds (Sum.inl x)).isSome != neg)) := ⟨fun ⟨_, _, _, e, e', h⟩ => by cases e; cases e'; exact h, fun h => ⟨_, _, _, rfl, rfl, h⟩⟩
theorem re_din {neg : Bool} : OpRel A (rDin neg) (rdDin neg) := by
  rintro os n rho sg H ds vs d1 d2 v1 v2 k Q I ⟨ks, es, x, rfl, hk, q⟩ hQ
  obtain ⟨I1, r2⟩ := I.pop
  obtain ⟨I2, r1⟩ := I1.pop
  have e2 := keyOf_rep r1 hk
  subst e2
  unfold Rep at r2
  obtain ⟨a, xs, rfl, ⟨hz, hH⟩, rs⟩ := r2
  obtain ⟨g1, g2⟩ := atK_val (ks := ks) (x := x) rs
  refine ⟨a, valV (kvsV ks xs) x, rfl, DGet.k hH, ?_⟩
  have e3 : (valV (kvsV ks xs) x).isSome = (atK ks es x).isSome := by
    cases e : atK ks es x with
    | none => rw [g2 e]; rfl
    | some d => obtain ⟨v, hv, _⟩ := g1 d e; rw [hv]; rfl
  rw [e3]
  exact hQ _ _ _ ⟨os, I2.push (Rep.ofS (d := .bl _) rfl)⟩ q
def sPop (i : Nat) (g : TGD) : TSD := fun F rho n => ∃ es d, rho[i]? = some (some (.own (es ++ [d]))) ∧ g d (rho.set i (some (.own es))) fun rho' => F.nx rho' n
@[simp] theorem q_sPop {i g F rho n} : sPop i g F rho n = ∃ es d, rho[i]? = some (some (.own (es ++ [d]))) ∧ g d (rho.set i (some (.own es))) fun rho' => F.nx rho' n := rfl
def sCont : TSD := fun F rho n => F.ct rho n
@[simp] theorem q_sCont {F rho n} : sCont F rho n = F.ct rho n := rfl
def sOwnIf (i : Nat) (tc : TBD) (t u : TAD) : TSD := fun F rho n => i < rho.length ∧ tc rho n fun c n0 => if c = true then t rho n0 (fun es n1 => es.length ≤ sizeLine ∧ F.nx (rho.set i (some (.own es))) n1) else u rho n0 fun es n1 => es.length ≤ sizeLine ∧ F.nx (rho.set i (some (.own es))) n1
@[simp] theorem q_sOwnIf {i tc t u F rho n} : sOwnIf i tc t u F rho n = (i < rho.length ∧ tc rho n fun c n0 => if c = true then t rho n0 (fun es n1 => es.length ≤ sizeLine ∧ F.nx (rho.set i (some (.own es))) n1) else u rho n0 fun es n1 => es.length ≤ sizeLine ∧ F.nx (rho.set i (some (.own es))) n1) := rfl
end
end L2
set_option maxRecDepth 100000
namespace L2
open PySem PySem.Spec PyProof.Rows
abbrev tlT : List Value := [.type "tuple", .type "list"]
theorem kt_none {K : PySem.W.Frag} : PySem.W.kitAny K (.type "NoneType") tlT = some false := by first | rfl | decide +kernel
theorem kt_bool {K : PySem.W.Frag} : PySem.W.kitAny K (.type "bool") tlT = some false := by first | rfl | decide +kernel
theorem kt_int {K : PySem.W.Frag} : PySem.W.kitAny K (.type "int") tlT = some false := by first | rfl | decide +kernel
theorem kt_str {K : PySem.W.Frag} : PySem.W.kitAny K (.type "str") tlT = some false := by first | rfl | decide +kernel
theorem kt_dict {K : PySem.W.Frag} : PySem.W.kitAny K (.type "dict") tlT = some false := by first | rfl | decide +kernel
theorem kt_tup {K : PySem.W.Frag} : PySem.W.kitAny K (.type "tuple") tlT = some true := by first | rfl | decide +kernel
theorem kt_lst {K : PySem.W.Frag} : PySem.W.kitAny K (.type "list") tlT = some true := by first | rfl | decide +kernel
section
variable {X : Cx} {A : AC}
def rIsi2 (K : PySem.W.Frag) (x : V) (H : Hp) (Q : VK) : Prop := match x with
  | .ref a => (∃ xs, SqT K H a xs ∧ Q (.bl true) H) ∨ (∃ xs, SqL K H a xs ∧ Q (.bl true) H) ∨ (∃ kvs, H a = some (.dK kvs) ∧ Q (.bl false) H)
  | .non => Q (.bl false) H
  | .bl _ => Q (.bl false) H
  | .int _ => Q (.bl false) H
  | .str _ => Q (.bl false) H
  | _ => False
theorem call_isi2 : CallR X (.builtin "isinstance") (fun xs H Q => ∃ x tp, xs = [x, .ref tp] ∧ SqT X.K H tp [.ty "tuple", .ty "list"] ∧ rIsi2 X.K x H Q) := by
  intro pins s σ H xs us Q I r h
  obtain ⟨x, tp, rfl, hq, q⟩ := h
  obtain ⟨its, rv, ⟨o, ho, hc, n, hd⟩, _⟩ := I.tuple hq
  have ei : its = tlT := by
    cases rv with
    | cons r1 rr =>
      cases rr with
      | cons r2 rr =>
        cases rr
        cases r1
        cases r2
        rfl
  subst ei
  obtain ⟨c, dd, dt, sl⟩ := o
  replace hc : c = .type "tuple" := hc
  replace hd : dt = .seq tlT.toArray n := hd
  subst hc hd
  cases r with
  | cons r rr =>
    cases rr with
    | cons r' rr =>
      cases rr
      cases r'
      cases x with
      | non => cases r; exact PySem.W.kia_tup PySem.W.kitx_none I.kIn trivial ho kt_none (by intro z; cases z) fun tk => ⟨.bl false, H, I.tok _, rfl, q⟩
      | bl b => cases r; exact PySem.W.kia_tup PySem.W.kitx_bool I.kIn trivial ho kt_bool (by intro z; cases z) fun tk => ⟨.bl false, H, I.tok _, rfl, q⟩
      | int i => obtain ⟨t, rfl⟩ := r; exact PySem.W.kia_tup PySem.W.kitx_int I.kIn trivial ho kt_int (by intro z; cases z) fun tk => ⟨.bl false, H, I.tok _, rfl, q⟩
      | str i => obtain ⟨t, rfl⟩ := r; exact PySem.W.kia_tup PySem.W.kitx_str I.kIn trivial ho kt_str (by intro z; cases z) fun tk => ⟨.bl false, H, I.tok _, rfl, q⟩
      | ref a =>
        cases r
        rcases q with ⟨xs, sq, q⟩ | ⟨xs, sq, q⟩ | ⟨kvs, e, q⟩
        · obtain ⟨_, _, ⟨o2, ho2, hc2, _⟩, _⟩ := I.tuple sq
          exact PySem.W.kia_tup PySem.W.kitx_tuple I.kIn ⟨o2, ho2, hc2⟩ ho kt_tup (by intro z; cases z) fun tk => ⟨.bl true, H, I.tok _, rfl, q⟩
        · obtain ⟨its2, _, pl, _⟩ := I.list sq
          obtain ⟨o2, ho2, hc2, _⟩ := pl.isList
          exact PySem.W.kia_tup PySem.W.kitx_list I.kIn ⟨o2, ho2, hc2⟩ ho kt_lst (by intro z; cases z) fun tk => ⟨.bl true, H, I.tok _, rfl, q⟩
        · obtain ⟨_, _, vs, _, o2, es, ep, ho2, hx, _⟩ := dk_of I.hok e
          exact PySem.W.kia_tup PySem.W.kitx_dict I.kIn ⟨o2, ho2, hx.1⟩ ho kt_dict (by intro z; cases z) fun tk => ⟨.bl false, H, I.tok _, rfl, q⟩
      | _ => exact q.elim
def isTL : D → Bool
  | .tup _ => true
  | .lst _ => true
  | _ => false
def kIsi2 : List D → (D → Prop) → Prop := fun es k => ∃ d, es = [d, .tup [.ty "tuple", .ty "list"]] ∧ isiOk d = true ∧ k (.bl (isTL d))
@[simp] theorem q_kIsi2 {d k} : kIsi2 [d, .tup [.ty "tuple", .ty "list"]] k ↔ (isiOk d = true ∧ k (.bl (isTL d))) := ⟨fun ⟨_, e, h⟩ => by cases e; exact h, fun h => ⟨_, rfl, h⟩⟩
theorem cr_isi2 : CallRel A (fun xs H Q => ∃ x tp, xs = [x, .ref tp] ∧ SqT A.K H tp [.ty "tuple", .ty "list"] ∧ rIsi2 A.K x H Q) kIsi2 := by
  rintro os n rho sg H ds vs es ws k Q I rs ⟨d, rfl, ho, q⟩ hQ
  obtain ⟨v, v', rfl, r, r'⟩ := reps2 rs
  obtain ⟨a, xs, rfl, sq, rr⟩ := r'.tup_inv
  obtain ⟨w1, w2, rfl, q1, q2⟩ := reps2 rr
  have e1 : w1 = .ty "tuple" := q1.toS rfl
  have e2 : w2 = .ty "list" := q2.toS rfl
  subst e1 e2
  refine ⟨v, a, rfl, sq.sq, ?_⟩
  have fin : Q (.bl (isTL d)) H := hQ _ H _ ⟨os, I.push (Rep.ofS rfl)⟩ q
  cases d with
  | non => have e : v = .non := r.toS rfl; subst e; exact fin
  | bl b => have e : v = .bl b := r.toS rfl; subst e; exact fin
  | int b => have e : v = .int b := r.toS rfl; subst e; exact fin
  | str b => have e : v = .str b := r.toS rfl; subst e; exact fin
  | tup es => obtain ⟨a', xs, rfl, sq', _⟩ := r.tup_inv; exact .inl ⟨_, sq'.sq, fin⟩
  | lst es => obtain ⟨a', xs, rfl, sq', _⟩ := r.lst_inv; exact .inr (.inl ⟨_, sq'.sq, fin⟩)
  | dic => unfold Rep at r; obtain ⟨a', kvs, rfl, _, e⟩ := r; exact .inr (.inr ⟨_, e, fin⟩)
  | _ => simp [isiOk] at ho
structure Blt3 (mg : Str → Option Value) : Prop where
  repr : mg "repr" = none
  dict : mg "dict" = none
theorem bt_repr : bootBuiltins "repr" = some (.builtin "repr") := by decide +kernel
theorem bt_dict : bootBuiltins "dict" = some (.type "dict") := by decide +kernel
end
end L2
set_option maxRecDepth 100000
namespace L2
open PySem PySem.Spec PyProof.Rows
section
variable {A : AC} {X : Cx} {a b c : Expr} {ta tb tc : TD} {pos : Pos}
end
end L2
set_option maxRecDepth 100000
namespace L2
open PySem PySem.Spec PyProof.Rows
def noOwns (rho : Rho) : Bool := rho.all fun o => match o with
  | some d => notOwn d
  | none => true
def sParO (i j : Nat) (tb : TD) : TSD := fun F rho n => i < rho.length ∧ j < rho.length ∧ noOwns rho = true ∧ tb rho n fun d n1 => F.nx ((rho.set i (some (.own []))).set j (some d)) n1
@[simp] theorem q_sParO {i j tb F rho n} : sParO i j tb F rho n = (i < rho.length ∧ j < rho.length ∧ noOwns rho = true ∧ tb rho n fun d n1 => F.nx ((rho.set i (some (.own []))).set j (some d)) n1) := rfl
section
variable {A : AC} {X : Cx} {b : Expr} {tb : TD} {pos : Pos}
end
end L2
set_option maxRecDepth 100000
namespace L2
open PySem PySem.Spec PyProof.Rows PySem.SeqAt
section
variable {A : AC} {X : Cx} {a b c e : Expr} {ta tb tc te : TD} {pos : Pos}
def rTeq (K : PySem.W.Frag) : R2 := fun x y H Q => ∃ p q xs, x = .ref p ∧ y = .ref q ∧ SqT K H p xs ∧ SqT K H q [] ∧ Q (.bl xs.isEmpty) H
theorem op_teq {n : Nat} (hr : Room n X.A) : OpR X (compareOp .Eq) (rTeq X.K) := by
  intro pins s σ H x y v u Q I rx ry h
  obtain ⟨p, q, xs, rfl, rfl, sq, sq', k⟩ := h
  cases rx
  cases ry
  obtain ⟨its, rv, pl, hz⟩ := I.tuple sq
  obtain ⟨its', rv', pl', hz'⟩ := I.tuple sq'
  cases rv'
  have hu := hr.units
  have R := RcAt.tuples (A := X.A) (e := fun _ => true) (show s.heap.IsTuple p its.toArray from pl) (show s.heap.IsTuple q #[] from pl') (by lia) (fun j l1 l2 => absurd l2 (by simp))
  have ev : ((List.range (min its.toArray.size (#[] : Array Value).size)).all (fun _ => true) && its.toArray.size == (#[] : Array Value).size) = xs.isEmpty := by
    have hl := rv.length
    cases xs with
    | nil => cases its with
      | nil => rfl
      | cons _ _ => simp at hl
    | cons _ _ => cases its with
      | nil => simp at hl
      | cons _ _ => simp
  exact (rcC R ev) X.prog X.w X.xe _ ⟨.bl xs.isEmpty, H, I, rfl, k⟩
def rdTeq : RD2 := fun d1 d2 k => tupAt d1 fun es => d2 = .tup [] ∧ k (.bl es.isEmpty)
@[simp] theorem q_rdTeq {d1 d2 k} : rdTeq d1 d2 k = tupAt d1 fun es => d2 = .tup [] ∧ k (.bl es.isEmpty) := rfl
theorem re_teq : OpRel A (rTeq A.K) rdTeq := by
  rintro os n rho sg H ds vs d1 d2 v1 v2 k Q I ⟨es, rfl, rfl, q⟩ hQ
  obtain ⟨I1, r2⟩ := I.pop
  obtain ⟨I2, r1⟩ := I1.pop
  obtain ⟨a, xs, rfl, sq, rs⟩ := r1.tup_inv
  obtain ⟨b, ys, rfl, sq', rs'⟩ := r2.tup_inv
  have e := rs'.nil_inv
  subst e
  have hl := rs.length
  have ee : xs.isEmpty = es.isEmpty := by cases xs <;> cases es <;> first | rfl | (simp at hl; done)
  exact ⟨a, b, xs, rfl, rfl, sq.sq, sq'.sq, by rw [ee]; exact hQ _ H _ ⟨os, I2.push (Rep.ofS rfl)⟩ q⟩
def rdRepL : RD2 := fun d1 d2 k => ∃ es i, d1 = .lst es ∧ d2 = .int i ∧ 0 ≤ i ∧ i < 1000 ∧ es.length * i.toNat ≤ sizeLine ∧ k (.lst (List.replicate i.toNat es).flatten)
@[simp] theorem q_rdRepL {es i k} : rdRepL (.lst es) (.int i) k ↔ (0 ≤ i ∧ i < 1000 ∧ es.length * i.toNat ≤ sizeLine ∧ k (.lst (List.replicate i.toNat es).flatten)) := ⟨fun ⟨_, _, e, e', h⟩ => by cases e; cases e'; exact h, fun h => ⟨_, _, rfl, rfl, h⟩⟩
def seqL (es : List D) (k : List D → Prop) : Prop := ∃ fs, (es = [.lst fs] ∨ es = [.tup fs]) ∧ k fs
@[simp] theorem q_seqL1 {fs : List D} {k} : seqL [.lst fs] k ↔ k fs := ⟨fun ⟨_, e, h⟩ => by rcases e with e | e <;> cases e; exact h, fun h => ⟨_, .inl rfl, h⟩⟩
@[simp] theorem q_seqL2 {fs : List D} {k} : seqL [.tup fs] k ↔ k fs := ⟨fun ⟨_, e, h⟩ => by rcases e with e | e <;> cases e; exact h, fun h => ⟨_, .inr rfl, h⟩⟩
def sListO (i : Nat) (t : TAD) : TSD := fun F rho n => i < rho.length ∧ t rho n fun es n1 => seqL es fun fs => F.nx (rho.set i (some (.own fs))) n1
@[simp] theorem q_sListO {i t F rho n} : sListO i t F rho n = (i < rho.length ∧ t rho n fun es n1 => seqL es fun fs => F.nx (rho.set i (some (.own fs))) n1) := rfl
end
end L2
set_option maxRecDepth 100000
namespace L2
open PySem PySem.Spec PyProof.Rows PySem.SeqAt
mutual
def toPyA : D → PyData
  | .bl b => .bool b
  | .int i => .int i
  | .str x => .str x
  | .tup ds => .tuple (toPyAs ds)
  | .lst ds => .list (toPyAs ds)
  | _ => .none
def toPyAs : List D → List PyData
  | [] => []
  | d :: ds => toPyA d :: toPyAs ds
end
mutual
def okR : D → Nat → Bool
  | .non, _ => true
  | .bl _, _ => true
  | .int i, _ => decide (i.natAbs.log2 < 1920)
  | .str x, _ => decide ((reprText x).length ≤ 2000)
  | .tup ds, k => match k with
    | 0 => false
    | k + 1 => okRs ds k
  | .lst ds, k => match k with
    | 0 => false
    | k + 1 => okRs ds k
  | _, _ => false
def okRs : List D → Nat → Bool
  | [], _ => true
  | d :: ds, k => okR d k && okRs ds k
end
mutual
def nodR : D → Nat
  | .tup ds => nodRs ds + 1
  | .lst ds => nodRs ds + 1
  | _ => 1
def nodRs : List D → Nat
  | [] => 0
  | d :: ds => nodR d + nodRs ds
end
def showA (d : D) : Str := (toPyA d).shown
theorem okRs_iff : ∀ {ds : List D} {k : Nat}, okRs ds k = true ↔ ∀ d ∈ ds, okR d k = true
  | [], k => by unfold okRs; simp
  | d :: ds, k => by
    unfold okRs
    rw [Bool.and_eq_true, okRs_iff]
    simp
theorem okR_tup {ds : List D} {k : Nat} : okR (.tup ds) (k + 1) = true ↔ ∀ d ∈ ds, okR d k = true := by
  have e : okR (.tup ds) (k + 1) = okRs ds k := by rw [okR]
  rw [e, okRs_iff]
theorem okR_lst {ds : List D} {k : Nat} : okR (.lst ds) (k + 1) = true ↔ ∀ d ∈ ds, okR d k = true := by
  have e : okR (.lst ds) (k + 1) = okRs ds k := by rw [okR]
  rw [e, okRs_iff]
structure ShownA (d : D) (k : Nat) : Prop where
  show1 : (toPyA d).showable = true
  dict : (toPyA d).hasDict = false
  deep : (toPyA d).depth ≤ k
  len : (toPyA d).shown.length + 3 ≤ 2005 * nodR d
structure ShownAs (ds : List D) (k : Nat) : Prop where
  show1 : PyData.showableAll (toPyAs ds) = true
  dict : PyData.hasDictAll (toPyAs ds) = false
  deep : PyData.depthAll (toPyAs ds) ≤ k
  len : ((PyData.shownAll (toPyAs ds)).map (·.length)).sum + 2 * (PyData.shownAll (toPyAs ds)).length ≤ 2005 * nodRs ds
mutual
theorem shownA_ok : ∀ (d : D) (k : Nat), okR d k = true → ShownA d k
  | .non, k, h => ⟨by unfold toPyA PyData.showable; rfl, by unfold toPyA PyData.hasDict; rfl, by unfold toPyA PyData.depth; lia, by unfold toPyA PyData.shown nodR; decide +kernel⟩
  | .bl b, k, h => ⟨by unfold toPyA PyData.showable; rfl, by unfold toPyA PyData.hasDict; rfl, by unfold toPyA PyData.depth; lia, by unfold toPyA PyData.shown nodR; cases b <;> decide +kernel⟩
  | .int i, k, h => by
    have h' : i.natAbs.log2 < 1920 := of_decide_eq_true (by unfold okR at h; exact h)
    refine ⟨by unfold toPyA PyData.showable; exact decide_eq_true h', by unfold toPyA PyData.hasDict; rfl, by unfold toPyA PyData.depth; lia, ?_⟩
    have e := int_text_length_le (k := 1920) (by decide) h'
    unfold toPyA PyData.shown nodR
    rw [PySem.ofString_length]
    lia
  | .str x, k, h => by
    have h' : (reprText x).length ≤ 2000 := of_decide_eq_true (by unfold okR at h; exact h)
    refine ⟨by unfold toPyA PyData.showable; rfl, by unfold toPyA PyData.hasDict; rfl, by unfold toPyA PyData.depth; lia, ?_⟩
    unfold toPyA PyData.shown nodR
    lia
  | .tup ds, 0, h => by simp [okR] at h
  | .tup ds, k + 1, h => by
    have S := shownAs_ok ds k (by simpa [okR] using h)
    have L := tupleText_len_le (PyData.shownAll (toPyAs ds))
    refine ⟨by unfold toPyA PyData.showable; exact S.show1, by unfold toPyA PyData.hasDict; exact S.dict, by unfold toPyA PyData.depth; have := S.deep; lia, ?_⟩
    unfold toPyA PyData.shown nodR
    have := S.len
    lia
  | .lst ds, 0, h => by simp [okR] at h
  | .lst ds, k + 1, h => by
    have S := shownAs_ok ds k (by simpa [okR] using h)
    have L := listText_len_le (PyData.shownAll (toPyAs ds))
    refine ⟨by unfold toPyA PyData.showable; exact S.show1, by unfold toPyA PyData.hasDict; exact S.dict, by unfold toPyA PyData.depth; have := S.deep; lia, ?_⟩
    unfold toPyA PyData.shown nodR
    have := S.len
    lia
  | .ty _, k, h => by simp [okR] at h
  | .fz _, k, h => by simp [okR] at h
  | .st, k, h => by simp [okR] at h
  | .own _, k, h => by simp [okR] at h
  | .dic, k, h => by simp [okR] at h
  | .dct _ _, k, h => by simp [okR] at h
theorem shownAs_ok : ∀ (ds : List D) (k : Nat), okRs ds k = true → ShownAs ds k
  | [], k, _ => ⟨by unfold toPyAs PyData.showableAll; rfl, by unfold toPyAs PyData.hasDictAll; rfl, by unfold toPyAs PyData.depthAll; lia, by unfold toPyAs PyData.shownAll nodRs; simp⟩
  | d :: ds, k, h => by
    have h' := okRs_iff.mp h
    have S := shownA_ok d k (h' d List.mem_cons_self)
    have T := shownAs_ok ds k (okRs_iff.mpr fun e he => h' e (List.mem_cons_of_mem _ he))
    refine ⟨by unfold toPyAs PyData.showableAll; rw [S.show1, T.show1]; rfl, by unfold toPyAs PyData.hasDictAll; rw [S.dict, T.dict]; rfl, by unfold toPyAs PyData.depthAll; have := S.deep; have := T.deep; lia, ?_⟩
    unfold toPyAs PyData.shownAll nodRs
    have := S.len
    have := T.len
    simp only [List.map_cons, List.sum_cons, List.length_cons]
    lia
end
section
variable {X : Cx} {pins : List (Addr × Obj)} {σ : St} {H : Hp} {s : Shared} {G : Option Addr} {Z : Addr → Prop}
mutual
theorem readsA_of (I : Inv X pins σ H s) : ∀ (d : D) (k : Nat) (v : V) (u : Value), okR d k = true → Rep X.K G Z H d v → RelV v u → ∃ as, Reads s.heap u (toPyA d) as
  | .non, k, v, u, _, r, q => by
    have e : v = .non := r.toS rfl
    subst e
    cases q
    unfold toPyA
    exact ⟨_, .none⟩
  | .bl b, k, v, u, _, r, q => by
    have e : v = .bl b := r.toS rfl
    subst e
    cases q
    unfold toPyA
    exact ⟨_, .bool b⟩
  | .int i, k, v, u, _, r, q => by
    have e := r.int_inv
    subst e
    obtain ⟨t, rfl⟩ := q
    unfold toPyA
    exact ⟨_, .int i t⟩
  | .str x, k, v, u, _, r, q => by
    have e : v = .str x := r.toS rfl
    subst e
    obtain ⟨t, rfl⟩ := q
    unfold toPyA
    exact ⟨_, .str x t⟩
  | .tup ds, 0, v, u, h, _, _ => by simp [okR] at h
  | .tup ds, k + 1, v, u, h, r, q => by
    obtain ⟨a, xs, rfl, sq, rs⟩ := r.tup_inv
    have e : u = .ref a := q
    subst e
    obtain ⟨its, rv, ⟨o, ho, hc, n, hd⟩, _⟩ := I.tuple sq.sq
    obtain ⟨as, ra⟩ := readsAs_of I ds k xs its (by simpa [okR] using h) rs rv
    unfold toPyA
    exact ⟨as, .tuple ho hc hd (by simpa using ra)⟩
  | .lst ds, 0, v, u, h, _, _ => by simp [okR] at h
  | .lst ds, k + 1, v, u, h, r, q => by
    obtain ⟨a, xs, rfl, sq, rs⟩ := r.lst_inv
    have e : u = .ref a := q
    subst e
    obtain ⟨its, rv, pl, _⟩ := I.list sq.sq
    obtain ⟨o, ho, hc, n, hd⟩ := pl.isList
    obtain ⟨as, ra⟩ := readsAs_of I ds k xs its (by simpa [okR] using h) rs rv
    unfold toPyA
    exact ⟨_, .list ho hc hd (by simpa using ra)⟩
  | .ty _, k, v, u, h, _, _ => by simp [okR] at h
  | .fz _, k, v, u, h, _, _ => by simp [okR] at h
  | .st, k, v, u, h, _, _ => by simp [okR] at h
  | .own _, k, v, u, h, _, _ => by simp [okR] at h
  | .dic, k, v, u, h, _, _ => by simp [okR] at h
  | .dct _ _, k, v, u, h, _, _ => by simp [okR] at h
theorem readsAs_of (I : Inv X pins σ H s) : ∀ (ds : List D) (k : Nat) (vs : List V) (us : List Value), okRs ds k = true → Reps X.K G Z H ds vs → Vals vs us → ∃ as, ReadsAll s.heap us (toPyAs ds) as
  | [], k, vs, us, _, r, q => by
    have e := r.nil_inv
    subst e
    cases q
    unfold toPyAs
    exact ⟨_, .nil⟩
  | d :: ds, k, vs, us, h, r, q => by
    have h' := okRs_iff.mp h
    obtain ⟨v, xs, rfl, r1, r2⟩ := r.split
    cases q with
    | cons q1 q2 =>
      obtain ⟨as, ra⟩ := readsA_of I d k v _ (h' d List.mem_cons_self) r1 q1
      obtain ⟨bs, rb⟩ := readsAs_of I ds k xs _ (okRs_iff.mpr fun e he => h' e (List.mem_cons_of_mem _ he)) r2 q2
      unfold toPyAs
      exact ⟨_, .cons ra rb⟩
end
end
def kRepr : List D → (D → Prop) → Prop := fun es k => ∃ d, es = [d] ∧ isTL d = true ∧ okR d 15 = true ∧ nodR d ≤ 8000 ∧ k (.str (showA d))
@[simp] theorem q_kRepr {d k} : kRepr [d] k ↔ (isTL d = true ∧ okR d 15 = true ∧ nodR d ≤ 8000 ∧ k (.str (showA d))) := ⟨fun ⟨_, e, h⟩ => by cases e; exact h, fun h => ⟨_, rfl, h⟩⟩
end L2
set_option maxRecDepth 100000
namespace L2
open PySem PySem.Spec PyProof.Rows
def setAt (es : List D) (e d : D) (k : List D → Prop) : Prop := ∃ j m, e = .int j ∧ ixN es.length j = some m ∧ k (es.set m d)
def sOwnSet2 (i : Nat) (ta : TAD) (tb1 tb2 : TD) : TSD := fun F rho n => ownAt rho[i]? fun es => ta rho n fun cs n1 => pair2 cs fun d1 d2 => tb1 rho n1 fun e1 n2 => setAt es e1 d1 fun es1 =>
  tb2 (rho.set i (some (.own es1))) n2 fun e2 n3 => setAt es1 e2 d2 fun es2 => F.nx (rho.set i (some (.own es2))) n3
@[simp] theorem q_sOwnSet2 {i ta tb1 tb2 F rho n} : sOwnSet2 i ta tb1 tb2 F rho n = ownAt rho[i]? fun es => ta rho n fun cs n1 => pair2 cs fun d1 d2 => tb1 rho n1 fun e1 n2 => setAt es e1 d1 fun es1 =>
  tb2 (rho.set i (some (.own es1))) n2 fun e2 n3 => setAt es1 e2 d2 fun es2 => F.nx (rho.set i (some (.own es2))) n3 := rfl
section
variable {A : AC} {X : Cx} {a1 a2 b1 b2 : Expr} {ta : TAD} {tb1 tb2 : TD} {pos : Pos}
end
end L2
set_option maxRecDepth 100000
namespace PySem
open Sem (wp)
theorem getAttrQ_miss_list {prog : Program} {w : World} {A : Around} {E : Value → Shared → Prop} {s : Shared} {a : Addr} {o : Obj} {xs : Array Value} {k : Nat} {name : Str} {Q : Option Value → Shared → Prop}
    (hx : s.heap.get? a = some o) (hc : o.cls = .type "list") (hdat : o.data = .seq xs k) (hd : o.dict = none) (hmiss : typeLookup (.type "list") name = pure none) (hname : (["__module__", "__name__", "__qualname__", "__doc__", "__annotations__"] : List Str).contains name = false) (hA : A.handled = none)
    (h : ∀ h' tk e, Heap.NewExcOf s.heap h' e "AttributeError" → Q none { s with heap := h', toks := tk }) (hsz : name.length + 100 ≤ sizeLine := by size_fits) :
    wpAny (model prog w) A (getAttr? (.ref a) name) Q E s := by
  obtain ⟨c, dct, dat, sl⟩ := o
  simp only at hc hdat hd
  subst hc hdat hd
  obtain ⟨hp, g, d, tk, os⟩ := s
  have hT : ∀ tk', (⟨hp, g, d, tk', os⟩ : Shared).TypeIs (.ref a) "list" := fun _ => ⟨_, hx, rfl⟩
  have f1 := sub_AttributeError
  have f3 := F.slot_list_getattribute.lookup
  have f4 := F.slot_list_getattribute.bind (.ref a)
  have f5 := am_list_getattr_none
  unfold getAttr? getAttrBy? getAttrBy
  repeat (any_goals (first | assumption | exact hT _ | ((with_reducible show wpAny _ _ (call (Value.builtin "list.__getattribute__") _ _) _ _ _); refine call_meets F.slot_list_getattribute (hT _) am_entry_list_getattribute (F.args_list_getattribute_2 _ _) (meets_getattribute_miss_list a xs k sl name _ hmiss hname hsz) ⟨hx, hA, fun h' tk' e hx' => ?_⟩) | wp_step))
  obtain ⟨t', u', he⟩ := hx'.there
  show wpAny _ _ (getattributeRaised _ _ _ _ _ _ _) _ _ _
  unfold getattributeRaised
  repeat (any_goals (first | assumption | wp_step))
  exact h _ _ _ hx'.of
namespace F
theorem plain_update_loop : plainId "dict.update.loop" = true := by decide +kernel
theorem entry_update_loop : entryFor table "dict.update.loop" = some Builtin.«dict.update.loop» := entryFor_of_fast (by kernel_rfl)
end F
section
variable {prog : Program} {w : World} {K : Type} [DecidableEq K] {knd : KeyKind prog w K} {A : Around} {R : Result → Shared → Prop}
def Kept2 (D I : Addr) (h h' : Heap) : Prop := ∀ b o, b ≠ D → b ≠ I → h.get? b = some o → h'.get? b = some o
theorem codeAny_update_loop {D I p : Addr} {items : Array Value} {ps : List (K × Value)} (hA : A.handled = none) (hDI : D ≠ I) (hpD : p ≠ D) (hpI : p ≠ I) (hps : ps.length = items.size) :
    ∀ (k i : Nat) (s : Shared) (acc : List (K × Value)), items.size - i = k → i ≤ items.size → s.heap.IsListIter I p i → s.heap.IsList p items → s.heap.DictOf knd D acc → acc.length + (items.size - i) ≤ sizeLine →
    (∀ (j : Nat) kv x, ps[j]? = some kv → items[j]? = some x → ∃ t key, x = .ref t ∧ t ≠ D ∧ t ≠ I ∧ s.heap.IsTuple t #[key, kv.2] ∧ knd.is kv.1 key = true) →
    (∀ s' tk, Kept2 D I s.heap s'.heap → s'.heap.DictOf knd D ((ps.drop i).foldl (fun a kv => stored a kv.1 kv.2) acc) → s' = { s with heap := s'.heap, toks := tk } → R (.ok (.ret .none)) s') →
    codeAny (model prog w) A (.builtin "dict.update.loop" ⟨[.ref D, .ref I, rawInt i, .none], []⟩) R s := by
  intro k
  induction k with
  | zero =>
    intro i s acc hk hi hit hl hd hsz hp hR
    refine codeAny_builtin F.entry_update_loop ?_
    rw [Around.under_plainId F.plain_update_loop _]
    show wpAny _ A.in1 (pyNext (.ref I) >>= _) _ _ s
    refine wpAny_bind (wpAny_pyNext_list_end (A := A.in1) hA hit hl (by rw [Array.getElem?_eq_none]; lia) fun h' hx => ?_)
    have hd' : h'.DictOf knd D acc := by
      obtain ⟨o, es, ep, ho, r⟩ := hd
      exact ⟨o, es, ep, hx D o hDI ho, r⟩
    have fin : R (.ok (.ret .none)) { s with heap := h' } := hR { s with heap := h' } s.toks (fun b o _ hb e => hx b o hb e) (by
      rw [List.drop_eq_nil_of_le (by lia)]; exact hd') rfl
    show wpAny _ _ (Builtin.Dict.addKeywords D [] >>= fun _ => ret .none) _ _ _
    refine wpAny_bind (wpAny_pure ?_)
    exact wpAny_pure fin
  | succ k ih =>
    intro i s acc hk hi hit hl hd hsz hp hR
    have hlt : i < items.size := by lia
    obtain ⟨kv, hkv⟩ : ∃ kv, ps[i]? = some kv := ⟨_, List.getElem?_eq_getElem (by lia)⟩
    obtain ⟨t, key, hx, htD, htI, ht, hkey⟩ := hp i kv items[i] hkv (Array.getElem?_eq_getElem hlt)
    refine codeAny_builtin F.entry_update_loop ?_
    rw [Around.under_plainId F.plain_update_loop _]
    show wpAny _ A.in1 (pyNext (.ref I) >>= _) _ _ s
    refine wpAny_bind (wpAny_pyNext_list_item hit hl (Array.getElem?_eq_getElem hlt) fun h' hit' hsb => ?_)
    rw [hx]
    have hl' : h'.IsList p items := hl.extBut hsb.extBut hpI
    have hd' : h'.DictOf knd D acc := hd.extBut hsb.extBut hDI
    have ht' : h'.IsTuple t #[key, kv.2] := ht.extBut hsb.extBut htI
    obtain ⟨o, ho, hc, n, hdat⟩ := ht'
    refine wpAny_bind (wpAny_holding (wpAny_bind (wpAny_tryCatch ?_)))
    unfold Builtin.Dict.pairItems
    refine wpAny_bind (wpAny_typeOf (T := "tuple") ⟨o, ho, hc⟩ ?_)
    rw [if_pos (by decide)]
    refine wpAny_bind (wpAny_seqItems (s := { s with heap := h' }) ho hdat (wpAny_pure ?_))
    show wpAny _ _ (holding [key, kv.2] (dictSet D key kv.2)) _ _ _
    refine wpAny_holding (wpAny_dictSet_pairs (s := { s with heap := h' }) (hsz := by lia) hkey hd' fun h2 hd2 hs2 => ?_)
    have keep2 : Kept2 D I s.heap h2 := fun b o hb hb' e => hs2.extBut b o hb (hsb.extBut b o hb' e)
    have len2 : (stored acc kv.1 kv.2).length ≤ acc.length + 1 := by unfold stored; split <;> simp
    refine wpAny_pure ⟨plainId_quiet F.plain_update_loop _, ?_⟩
    have nx := ih (i + 1) { s with heap := h2, toks := s.toks + 1 } (stored acc kv.1 kv.2) (by lia) hlt (hit'.extBut hs2.extBut (Ne.symm hDI)) (hl'.extBut hs2.extBut hpD) hd2 (by lia) (fun j kv' x e1 e2 => by
      obtain ⟨t', key', q1, q2, q3, q4, q5⟩ := hp j kv' x e1 e2
      exact ⟨t', key', q1, q2, q3, (q4.extBut hsb.extBut q3).extBut hs2.extBut q2, q5⟩) (fun s' tk k2 d2 e => hR s' tk (fun b o hb hb' e' => k2 b o hb hb' (keep2 b o hb hb' e')) (by
        have ed : ps.drop i = kv :: ps.drop (i + 1) := by
          rw [List.drop_eq_getElem_cons (by lia)]
          congr 1
          have := List.getElem?_eq_getElem (l := ps) (show i < ps.length by lia)
          rw [hkv] at this
          exact (Option.some.inj this).symm
        rw [ed]; exact d2) e)
    have ei : rawInt ((i : Int) + 1) = rawInt ((i + 1 : Nat) : Int) := by rw [Int.natCast_succ]
    rw [ei]
    exact nx
end
end PySem
set_option maxRecDepth 100000
namespace PySem
open Sem (wp)
section
variable {prog : Program} {w : World} {K : Type} [DecidableEq K] {knd : KeyKind prog w K} {A : Around} {E : Value → Shared → Prop} {s : Shared}
theorem list_no_keys : typeLookup (.type "list") "keys" = pure none := am_miss_of_fast (by decide +kernel)
theorem kt_call_dict_pairs {p : Addr} {o : Obj} {items : Array Value} {n : Nat} {ps : List (K × Value)} {Q : Value → Shared → Prop} (hA : A.handled = none) (ho : s.heap.get? p = some o) (hc : o.cls = .type "list") (hdat : o.data = .seq items n) (hdn : o.dict = none) (hps : ps.length = items.size) (hsz : items.size ≤ sizeLine)
    (hp : ∀ (j : Nat) kv x, ps[j]? = some kv → items[j]? = some x → ∃ t key, x = .ref t ∧ s.heap.IsTuple t #[key, kv.2] ∧ knd.is kv.1 key = true)
    (h : ∀ h' tk, (∀ b o, s.heap.get? b = some o → h'.get? b = some o) → h'.DictOf knd s.heap.objs.size (ps.foldl (fun a kv => stored a kv.1 kv.2) []) → Q (.ref s.heap.objs.size) { s with heap := h', toks := tk }) :
    wpAny (model prog w) A (call (.type "dict") [.ref p]) Q E s := by
  refine callType_codes (Q₁ := fun obj s₁ => obj = .ref s.heap.objs.size ∧ s₁ = { s with heap := s.heap.push { cls := .type "dict", data := .dict #[] } }) F.kt_called_dict (F.kt_typeCall_dict_1 _) F.entry_dict_init (kt_code_dict_new _ ⟨rfl, rfl⟩) ?_
  rintro obj s₁ ⟨rfl, rfl⟩
  have hnew : (s.heap.push { cls := .type "dict", data := .dict #[] }).DictOf knd s.heap.objs.size [] := Heap.DictOf.new s.heap
  have ho' : (s.heap.push { cls := .type "dict", data := .dict #[] }).get? p = some o := Heap.get?_push_of_some _ ho
  have hpD : p ≠ s.heap.objs.size := fun e => absurd (Heap.lt_size ho) (by rw [e]; exact Nat.lt_irrefl _)
  have keep1 : ∀ b o, s.heap.get? b = some o → (s.heap.push { cls := .type "dict", data := .dict #[] }).get? b = some o := fun b o e => Heap.get?_push_of_some _ e
  refine ⟨hnew.typeIs, F.args_dict_init_2 _ _, ?_⟩
  unfold Builtin.«dict.__init__»
  refine wpAny_bind ?_
  unfold Builtin.Dict.selfAndRest
  refine wpAny_bind (wpAny_notOrdered_dict hnew.typeIs ?_)
  show wpAny _ _ (pure (s.heap.objs.size, [Value.ref p])) _ _ _
  refine wpAny_pure ?_
  show wpAny _ _ (Builtin.Dict.updateFrom "dict.__init__" s.heap.objs.size (.ref p) [] .none) _ _ _
  unfold Builtin.Dict.updateFrom
  refine wpAny_bind (wpAny_typeOf (T := "list") ⟨o, ho', hc⟩ ?_)
  rw [if_pos (by decide)]
  refine wpAny_bind (getAttrQ_miss_list (A := A.in1.in1) (s := { s with heap := s.heap.push { cls := .type "dict", data := .dict #[] } }) ho' hc hdat hdn list_no_keys (by decide +kernel) hA fun h1 tk e hx => ?_)
  rw [if_pos (by rfl : (none : Option Value).isNone = true)]
  have ho1 : h1.get? p = some o := hx.keeps _ _ ho'
  have hd1 : h1.DictOf knd s.heap.objs.size [] := hnew.keep hx.keeps
  refine wpAny_bind (wpAny_rule ?_)
  have hl1 : h1.IsList p items := ⟨o, ho1, hc, n, hdat⟩
  refine wpAny_bind (wpAny_pyIter_list (s := { s with heap := h1, toks := tk }) hl1 ?_)
  refine wpAny_pure ⟨plainId_quiet F.plain_update_loop _, ?_⟩
  have z1 : s.heap.objs.size < h1.objs.size := by
    obtain ⟨oD, _, _, hoD, _⟩ := hd1
    exact Heap.lt_size hoD
  have hDI : s.heap.objs.size ≠ h1.objs.size := Nat.ne_of_lt z1
  have hpI : p ≠ h1.objs.size := Nat.ne_of_lt (Heap.lt_size ho1)
  have keepI : ∀ b o, h1.get? b = some o → (h1.push { cls := .type "list_iterator", data := .fields #[.ref p, .int 0 0] }).get? b = some o := fun b o e => Heap.get?_push_of_some _ e
  have keep2 : ∀ b o, s.heap.get? b = some o → (h1.push { cls := .type "list_iterator", data := .fields #[.ref p, .int 0 0] }).get? b = some o := fun b o e => keepI b o (hx.keeps b o (keep1 b o e))
  refine codeAny_update_loop (A := A.in1) (p := p) (items := items) (ps := ps) hA hDI hpD hpI hps items.size 0 { s with heap := h1.push { cls := .type "list_iterator", data := .fields #[.ref p, .int 0 0] }, toks := tk } [] (by lia) (Nat.zero_le _)
    ⟨_, Heap.get?_push_size _ rfl, rfl, rfl⟩ (hl1.push _) (hd1.push _) (by simpa using hsz) (fun j kv x e1 e2 => ?_) (fun s' tk' k2 d2 e' => ?_)
  · obtain ⟨t, key, q1, ⟨ot, hot, r⟩, q3⟩ := hp j kv x e1 e2
    have hlt := Heap.lt_size hot
    exact ⟨t, key, q1, Nat.ne_of_lt hlt, Nat.ne_of_lt (Nat.lt_trans hlt z1), ⟨ot, keep2 t ot hot, r⟩, q3⟩
  · rw [e']
    refine ⟨rfl, h _ _ (fun b o e => ?_) d2⟩
    have hlt := Heap.lt_size e
    exact k2 b o (Nat.ne_of_lt hlt) (Nat.ne_of_lt (Nat.lt_trans hlt z1)) (keep2 b o e)
end
end PySem
set_option maxRecDepth 100000
namespace L2
open PySem PySem.Spec PyProof.Rows
def putAll (kvs : List (Key × V)) (a : List (Key × V)) : List (Key × V) := kvs.foldl (fun a kv => putK a kv.1 kv.2) a
def rDictP (K : PySem.W.Frag) : List V → Hp → VK → Prop := fun xs H Q => ∃ l ys kvs, xs = [.ref l] ∧ SqL K H l ys ∧ Paired (fun (y : V) (kv : Key × V) => ∃ t, y = .ref t ∧ SqT K H t [kV kv.1, kv.2]) ys kvs ∧ ∀ D, H D = none → Q (.ref D) (upd H D (.dK (putAll kvs [])))
theorem KV.all : ∀ {kvs : List (Key × V)} {ps : List (Key × Value)} {a : List (Key × V)} {b : List (Key × Value)}, KV kvs ps → KV a b → KV (putAll kvs a) (ps.foldl (fun a kv => stored a kv.1 kv.2) b)
  | _, _, a, b, .nil, h => h
  | _, _, a, b, .cons (b := q) r t, h => by
    obtain ⟨e, rv⟩ := r
    have := KV.put h q.1 rv
    rw [← e] at this
    refine KV.all t (a := putK a _ _) (b := stored b q.1 q.2) ?_
    rw [← e]; exact this
theorem putK_le (kvs : List (Key × V)) (k : Key) (v : V) : (putK kvs k v).length ≤ kvs.length + 1 := by unfold putK; split <;> simp
theorem putAll_le : ∀ (kvs a : List (Key × V)), (putAll kvs a).length ≤ a.length + kvs.length
  | [], a => by simp [putAll]
  | kv :: kvs, a => by
    have := putAll_le kvs (putK a kv.1 kv.2)
    have := putK_le a kv.1 kv.2
    show (putAll kvs (putK a kv.1 kv.2)).length ≤ _
    simp only [List.length_cons]; lia
theorem paired_at {α β : Type} {F : α → β → Prop} : ∀ {l : List α} {r : List β} {j : Nat} {a : α} {b : β}, Paired F l r → l[j]? = some a → r[j]? = some b → F a b
  | _, _, 0, a, b, .cons h t, e1, e2 => by
    simp at e1 e2
    rw [← e1, ← e2]; exact h
  | _, _, j + 1, a, b, .cons h t, e1, e2 => paired_at t (by simpa using e1) (by simpa using e2)
section
variable {X : Cx} {A : AC}
theorem pairs_of {pins : List (Addr × Obj)} {σ : St} {H : Hp} {s : Shared} (I : Inv X pins σ H s) : ∀ {ys : List V} {kvs : List (Key × V)} {its : List Value}, Paired (fun (y : V) (kv : Key × V) => ∃ t, y = .ref t ∧ SqT X.K H t [kV kv.1, kv.2]) ys kvs → Vals ys its →
    ∃ ps : List (Key × Value), KV kvs ps ∧ Paired (fun (u : Value) (kv : Key × Value) => ∃ t key, u = .ref t ∧ s.heap.IsTuple t #[key, kv.2] ∧ (mixKind X.prog X.w).is kv.1 key = true) its ps
  | _, _, _, .nil, .nil => ⟨[], .nil, .nil⟩
  | _, _, _, .cons (b := kv) r t, .cons q u => by
    obtain ⟨ps, h1, h2⟩ := pairs_of I t u
    obtain ⟨t, rfl, sq⟩ := r
    cases q
    obtain ⟨its, rv, pl, _⟩ := I.tuple sq
    cases rv with
    | cons r1 rr =>
      cases rr with
      | cons r2 rr =>
        cases rr
        exact ⟨(kv.1, _) :: ps, .cons ⟨rfl, r2⟩ h1, .cons ⟨t, _, rfl, pl, kV_is r1⟩ h2⟩
theorem call_dictP (hc : X.calm = true) : CallR X (.type "dict") (rDictP X.K) := by
  intro pins s σ H xs us Q I r h
  obtain ⟨l, ys, kvs, rfl, sq, hp, q⟩ := h
  obtain ⟨u, rfl, ru⟩ := vals1 r
  cases ru
  obtain ⟨its, rv, pl, hz⟩ := I.list sq
  obtain ⟨o, n, ho, hcl, hdn, hdat⟩ := pl
  obtain ⟨ps, h1, h2⟩ := pairs_of I hp rv
  have l1 : its.length = ps.length := h2.length
  have l2 : ys.length = its.length := rv.length
  have l3 : ys.length = kvs.length := hp.length
  refine kt_call_dict_pairs (knd := mixKind X.prog X.w) (ps := ps) (I.ok.hd hc) ho hcl hdat hdn (by simp [l1]) (by simp only [List.size_toArray]; lia) (fun j kv x e1 e2 => ?_) fun h' tk keeps dof => ?_
  · have e2' : its[j]? = some x := by simpa using e2
    exact paired_at h2 e2' e1
  · refine ⟨.ref s.heap.objs.size, upd H s.heap.objs.size (.dK (putAll kvs [])), I.laid (t' := tk) keeps (Nat.le_refl _) ⟨?_, ?_, _, KV.all h1 .nil, dof⟩, rfl, q _ (I.hok.fresh (Nat.le_refl _))⟩
    · have := putAll_le kvs []
      simp only [List.length_nil] at this
      lia
    · exact (dk_empty (P := X.prog) (w := X.w) (H := H) s.heap I.big).2.1
def kD : Key → D
  | .inl i => .int i
  | .inr x => .str x
theorem kD_key (k : Key) : keyOf (kD k) = some k := by cases k <;> rfl
theorem putAll_nd : ∀ (ks : List Key) (xs : List V) (a : List (Key × V)), ks.length = xs.length → ks.Nodup → (∀ k ∈ ks, ∀ kv ∈ a, kv.1 ≠ k) → putAll (kvsV ks xs) a = a ++ kvsV ks xs
  | [], xs, a, _, _, _ => by simp [putAll, kvsV]
  | k :: ks, [], a, h, _, _ => by simp at h
  | k :: ks, x :: xs, a, h, nd, hd => by
    obtain ⟨n1, n2⟩ := List.nodup_cons.mp nd
    have e1 : putK a k x = a ++ [(k, x)] := by
      unfold putK
      rw [if_neg]
      intro z
      obtain ⟨kv, hm, e⟩ := List.any_eq_true.mp z
      exact hd k List.mem_cons_self kv hm (of_decide_eq_true e)
    show putAll (kvsV ks xs) (putK a k x) = a ++ (k, x) :: kvsV ks xs
    rw [e1, putAll_nd ks xs _ (by simpa using h) n2 fun k' hk' kv hm => ?_, List.append_assoc]
    · rfl
    · rcases List.mem_append.mp hm with hm | hm
      · exact hd k' (List.mem_cons_of_mem _ hk') kv hm
      · rw [List.mem_singleton.mp hm]
        intro e
        have e' : k = k' := e
        rw [e'] at n1
        exact n1 hk'
def pairD (ks : List Key) (ds : List D) : List D := List.zipWith (fun k d => .tup [kD k, d]) ks ds
def kDictP : List D → (D → Prop) → Prop := fun es k => ∃ ks ds, es = [.lst (pairD ks ds)] ∧ ks.length = ds.length ∧ ks.Nodup ∧ k (.dct ks ds)
theorem pair_reps {K : PySem.W.Frag} {G : Option Addr} {Z : Addr → Prop} {H : Hp} : ∀ {ks : List Key} {ds : List D} {ys : List V}, ks.length = ds.length → Reps K G Z H (pairD ks ds) ys →
    ∃ xs, Reps K G Z H ds xs ∧ Paired (fun (y : V) (kv : Key × V) => ∃ t, y = .ref t ∧ SqT K H t [kV kv.1, kv.2]) ys (kvsV ks xs)
  | [], [], ys, _, r => by
    have e := r.nil_inv
    subst e
    exact ⟨[], .nil, .nil⟩
  | [], _ :: _, ys, h, _ => by simp at h
  | _ :: _, [], ys, h, _ => by simp at h
  | k :: ks, d :: ds, ys, h, r => by
    obtain ⟨y, yr, rfl, q, t⟩ := r.split
    obtain ⟨xs, r1, r2⟩ := pair_reps (ks := ks) (ds := ds) (by simpa using h) t
    obtain ⟨p, zs, rfl, sq, rz⟩ := q.tup_inv
    obtain ⟨a, b, rfl, ra, rb⟩ := reps2 rz
    have ea := keyOf_rep ra (kD_key k)
    subst ea
    exact ⟨b :: xs, .cons rb r1, .cons ⟨p, rfl, sq.sq⟩ r2⟩
theorem cr_dictP : CallRel A (rDictP A.K) kDictP := by
  rintro os n rho sg H ds vs es ws k Q I rs ⟨ks, cs, rfl, hl, nd, q⟩ hQ
  obtain ⟨v, rfl, r⟩ := reps1 rs
  obtain ⟨a, ys, rfl, sq, rr⟩ := r.lst_inv
  obtain ⟨xs, r1, r2⟩ := pair_reps hl rr
  have hx := r1.length
  refine ⟨a, ys, _, rfl, sq.sq, r2, fun D hD => ?_⟩
  rw [putAll_nd ks xs [] (by lia) nd (fun _ _ kv h => by simp at h), List.nil_append]
  exact hQ _ _ _ ⟨os, I.newDct r1 hD⟩ q
end
end L2
set_option maxRecDepth 100000
namespace L2
open PySem PySem.Spec PyProof.Rows PySem.SeqAt
section
variable {A : AC} {X : Cx}
def tupsAt (d : D) (k : List (List D) → Prop) : Prop := ∃ ess : List (List D), d = .tup (ess.map D.tup) ∧ k ess
def rdInE : RD2 := fun d1 d2 k => d1 = .tup [] ∧ tupsAt d2 fun ess => k (.bl (ess.any List.isEmpty))
@[simp] theorem q_rdInE2 {a b k} : rdInE (.tup []) (.tup [.tup a, .tup b]) k ↔ k (.bl (a.isEmpty || b.isEmpty)) := by
  constructor
  · rintro ⟨_, ess, e, h⟩
    have : ess = [a, b] := by
      have e' := D.tup.inj e
      match ess, e' with
      | [x, y], e' => simp at e'; rw [e'.1, e'.2]
      | [], e' => simp at e'
      | [x], e' => simp at e'
      | x :: y :: z :: r, e' => simp at e'
    subst this
    simpa using h
  · intro h
    exact ⟨rfl, [a, b], rfl, by simpa using h⟩
end
end L2
set_option maxRecDepth 100000
namespace L2
open PySem PySem.Spec PyProof.Rows PySem.SeqAt
mutual
def okN : D → Nat → Bool
  | .non, _ => true
  | .int i, _ => decide (i.natAbs.log2 < 20)
  | .tup ds, k => match k with
    | 0 => false
    | k + 1 => okNs ds k
  | _, _ => false
def okNs : List D → Nat → Bool
  | [], _ => true
  | d :: ds, k => okN d k && okNs ds k
end
def kStrN : List D → (D → Prop) → Prop := fun es k => ∃ ds, es = [.tup ds] ∧ okN (.tup ds) 20 = true ∧ nodR (.tup ds) ≤ 400000 ∧ k (.str (showA (.tup ds)))
@[simp] theorem q_kStrN {ds k} : kStrN [.tup ds] k ↔ (okN (.tup ds) 20 = true ∧ nodR (.tup ds) ≤ 400000 ∧ k (.str (showA (.tup ds)))) := ⟨fun ⟨_, e, h⟩ => by cases e; exact h, fun h => ⟨_, rfl, h⟩⟩
end L2
set_option maxRecDepth 100000
namespace L2
open PySem PySem.Spec PyProof.Rows
section
variable {A : AC}
def kBool : List D → (D → Prop) → Prop := fun es k => ∃ i : Int, es = [.int i] ∧ k (.bl (i != 0))
@[simp] theorem q_kBool {i : Int} {k} : kBool [.int i] k ↔ k (.bl (i != 0)) := ⟨fun ⟨_, e, h⟩ => by cases e; exact h, fun h => ⟨_, rfl, h⟩⟩
end
end L2
set_option maxRecDepth 100000
namespace L2
open PySem PySem.Spec PyProof.Rows
section
variable {A : AC} {X : Cx} {pos : Pos} {m : Nat}
def gdLst (k : Nat) (gs : TGsD) : TGD := fun d rho P => ∃ es, d = .lst es ∧ es.length = k ∧ gs es rho P
@[simp] theorem q_gdLst {k gs es rho P} : gdLst k gs (.lst es) rho P ↔ (es.length = k ∧ gs es rho P) := ⟨fun ⟨_, e, h⟩ => by cases e; exact h, fun h => ⟨_, rfl, h⟩⟩
end
end L2
set_option maxRecDepth 100000
namespace L2
open PySem PySem.Spec PyProof.Rows
section
variable {A : AC} {X : Cx}
def showN : D → Str
  | .non => "None"
  | d => showA d
def okRN (d : D) : Prop := d = .non ∨ (isTL d = true ∧ okR d 20 = true ∧ nodR d ≤ 8000)
def kReprN : List D → (D → Prop) → Prop := fun es k => ∃ d, es = [d] ∧ okRN d ∧ k (.str (showN d))
@[simp] theorem q_kReprN {d k} : kReprN [d] k ↔ (okRN d ∧ k (.str (showN d))) := ⟨fun ⟨_, e, h⟩ => by cases e; exact h, fun h => ⟨_, rfl, h⟩⟩
end
theorem lo {sc : Scope} {x : Str} (h : (match sc.names.lookup x with | some .local => true | some .cell => true | _ => false) = true) : Loc sc x := by
  unfold Loc
  split at h
  · exact .inl (by assumption)
  · exact .inr (by assumption)
  · cases h
end L2
set_option maxRecDepth 100000
namespace L2
open PySem PySem.Spec PyProof.Rows PySem.SeqAt
section
variable {A : AC} {X : Cx}
def rdNoneIn : RD2 := fun d1 d2 k => d1 = .non ∧ ∃ ess : List (List D), d2 = .lst (ess.map D.lst) ∧ k (.bl false)
@[simp] theorem q_noneIn {a b k} : rdNoneIn .non (.lst [.lst a, .lst b]) k ↔ k (.bl false) := ⟨fun ⟨_, _, _, h⟩ => h, fun h => ⟨rfl, [a, b], rfl, h⟩⟩
def kLenD : List D → (D → Prop) → Prop := fun es k => ∃ ks ds, es = [.dct ks ds] ∧ ks.length = ds.length ∧ k (.int (ks.length : Int))
@[simp] theorem q_kLenD {ks ds k} : kLenD [.dct ks ds] k ↔ (ks.length = ds.length ∧ k (.int (ks.length : Int))) := ⟨fun ⟨_, _, e, h⟩ => by cases e; exact h, fun h => ⟨_, _, rfl, h⟩⟩
end
end L2
set_option maxRecDepth 100000
namespace L2
open PySem PySem.Spec PyProof.Rows PySem.SeqAt
section
variable {A : AC} {X : Cx}
def dBits (te : TD) : TD := fun rho n P => te rho n fun d n1 => ∃ x : Int, d = .int x ∧ P (.int ((Builtin.Int.intBits x : Nat) : Int)) n1
@[simp] theorem q_dBits {te : TD} {rho : Rho} {n : Nat} {P : D → Nat → Prop} : dBits te rho n P = te rho n fun d n1 => ∃ x : Int, d = .int x ∧ P (.int ((Builtin.Int.intBits x : Nat) : Int)) n1 := rfl
end
end L2
set_option maxRecDepth 100000
namespace L2
open PySem PySem.Spec PyProof.Rows PySem.SeqAt
section
variable {A : AC} {X : Cx}
def kListR : List D → (D → Prop) → Prop := fun es k => ∃ j : Int, es = [.int j] ∧ 0 ≤ j ∧ j ≤ 1000 ∧ k (.lst ((List.range j.toNat).map fun i : Nat => D.int (i : Int)))
@[simp] theorem q_kListR {j : Int} {k : D → Prop} : kListR [.int j] k ↔ (0 ≤ j ∧ j ≤ 1000 ∧ k (.lst ((List.range j.toNat).map fun i : Nat => D.int (i : Int)))) := ⟨fun ⟨_, e, h⟩ => by cases e; exact h, fun h => ⟨_, rfl, h⟩⟩
end
end L2
set_option maxRecDepth 100000
namespace L2
open PySem PySem.Spec PyProof.Rows
section
variable {A : AC}
end
end L2
set_option maxRecDepth 100000
namespace L2
open PySem PySem.Spec PyProof.Rows PySem.Calls PyProof.V
section
variable {prog : Program} {w : World} {A : Around} {E : Value → Shared → Prop} {s : Shared}
end
section
variable {X : Cx} {A : AC}
end
end L2
set_option maxRecDepth 100000
namespace L2
open PySem PySem.Spec PyProof.Rows
section
variable {A : AC} {X : Cx}
def rReprX (X : Cx) : List V → Hp → VK → Prop := fun xs H Q => (∃ b : Bool, xs = [.bl b] ∧ Q (.str (if b then "True" else "False")) H) ∨ (∃ i : Int, xs = [.int i] ∧ i.natAbs.log2 < 1920 ∧ Q (.str (toString i)) H) ∨
  (∃ x : Str, xs = [.str x] ∧ (reprText x).length ≤ sizeLine ∧ Q (.str (reprText x)) H) ∨ (∃ a, xs = [.ref a] ∧ H a = some (.dK []) ∧ Q (.str (PyData.dict []).shown) H) ∨ (xs = [.non] ∧ Q (.str "None") H) ∨
  ∃ (y : V) (p : PyData), xs = [y] ∧ ReadV X H y p ∧ p.showable = true ∧ p.hasDict = false ∧ p.depth ≤ 40 ∧ p.shown.length ≤ sizeLine ∧ Q (.str p.shown) H
theorem call_reprX {n : Nat} (hr : Room n X.A) : CallR X (.builtin "repr") (rReprX X) := by
  intro pins s σ H xs us Q I r h
  rcases h with ⟨b, rfl, q⟩ | ⟨i, rfl, hi, q⟩ | ⟨x, rfl, hx, q⟩ | ⟨a, rfl, hH, q⟩ | h
  · obtain ⟨u, rfl, hu⟩ := vals1 r
    cases hu
    exact PySem.P.repr_of_bool ⟨.str _, H, I.tok _, ⟨_, rfl⟩, q⟩
  · obtain ⟨u, rfl, t, rfl⟩ := vals1 r
    exact PySem.P.repr_of_int hi ⟨.str _, H, I.tok _, ⟨_, rfl⟩, q⟩
  · obtain ⟨u, rfl, t, rfl⟩ := vals1 r
    exact PySem.P.repr_of_str ⟨.str _, H, I.tok _, ⟨_, rfl⟩, q⟩ hx
  · obtain ⟨u, rfl, hu⟩ := vals1 r
    cases hu
    obtain ⟨_, hS, vs, rv, m⟩ : ([] : List (Key × V)).length ≤ sizeLine ∧ (a == sysModules) = false ∧ ∃ vs, KV [] vs ∧ s.heap.DictOf (mixKind X.prog X.w) a vs := I.hok a _ hH
    cases rv
    obtain ⟨o, es, ep, ho, hc, hd, hm⟩ := id m
    have he : es = #[] := by
      have h0 : Pairs (mixKind X.prog X.w) es.toList [] := hm.2.1
      have h1 : es.toList = [] := by
        cases hl : es.toList with
        | nil => rfl
        | cons e l => rw [hl] at h0; cases h0
      exact Array.toList_eq_nil_iff.mp h1
    subst he
    have rd : Reads s.heap (.ref a) (.dict []) [a] := .dict (as := []) (bs := []) ho hc.1 hd .nil .nil
    have h1 := hr.un
    have h2 : (PyData.dict []).depth ≤ 2 := by decide +kernel
    have h3 : a ≠ sysModules := fun e => by rw [e] at hS; simp at hS
    refine repr_of_reads' rd (by decide +kernel) (fun _ z => h3 (List.mem_singleton.mp z).symm) hr.gd (by lia) (fun _ _ e => e) (fun h' u tk k => ⟨.str _, H, I.kept k, ⟨_, rfl⟩, q⟩) (by decide +kernel)
  · rcases h with ⟨rfl, q⟩ | ⟨y, p, rfl, hv, h1, h2, h3, h4, q⟩
    · obtain ⟨u, rfl, hu⟩ := vals1 r
      have e : u = .none := hu
      subst e
      exact PySem.P.repr_of_none ⟨.str "None", H, I.tok _, ⟨_, rfl⟩, q⟩
    · obtain ⟨u, rfl, hu⟩ := vals1 r
      obtain ⟨a, as, rfl, rd⟩ := hv pins s σ u I hu
      have := hr.un
      exact repr_of_reads' rd h1 (PyData.noDict_hsm h2) hr.gd (by lia) (fun _ _ e => e) (fun h' u tk k => ⟨.str p.shown, H, I.kept k, ⟨_, rfl⟩, q⟩) h4
def showX : D → Str
  | .bl b => if b then "True" else "False"
  | .int i => toString i
  | .str x => reprText x
  | .dic => (PyData.dict []).shown
  | d => showN d
def okRD (d : D) : Prop := d = .non ∨ (isTL d = true ∧ okR d 40 = true ∧ nodR d ≤ 8000)
def okRX (d : D) : Prop := (∃ b, d = .bl b) ∨ (∃ i : Int, d = .int i ∧ i.natAbs.log2 < 1920) ∨ (∃ x : Str, d = .str x ∧ (reprText x).length ≤ 2000) ∨ d = .dic ∨ okRD d
def kReprX : List D → (D → Prop) → Prop := fun es k => ∃ d, es = [d] ∧ okRX d ∧ k (.str (showX d))
@[simp] theorem q_kReprX {d k} : kReprX [d] k ↔ (okRX d ∧ k (.str (showX d))) := ⟨fun ⟨_, e, h⟩ => by cases e; exact h, fun h => ⟨_, rfl, h⟩⟩
theorem cr_reprX (hK : X.K = A.K) : CallRel A (rReprX X) kReprX := by
  rintro os n rho sg H ds vs es ws k Q I rs ⟨d, rfl, h, q⟩ hQ
  rcases h with ⟨b, rfl⟩ | ⟨i, rfl, hi⟩ | ⟨x, rfl, hx⟩ | rfl | h
  · obtain ⟨v, rfl, r⟩ := reps1 rs
    have e := r.toS rfl
    subst e
    exact .inl ⟨b, rfl, hQ _ H _ ⟨os, I.push (Rep.ofS (d := .str _) rfl)⟩ q⟩
  · obtain ⟨v, rfl, r⟩ := reps1 rs
    have e := r.toS rfl
    subst e
    exact .inr (.inl ⟨i, rfl, hi, hQ _ H _ ⟨os, I.push (Rep.ofS (d := .str _) rfl)⟩ q⟩)
  · obtain ⟨v, rfl, r⟩ := reps1 rs
    have e := r.toS rfl
    subst e
    exact .inr (.inr (.inl ⟨x, rfl, by rw [sizeLine_eq]; lia, hQ _ H _ ⟨os, I.push (Rep.ofS (d := .str _) rfl)⟩ q⟩))
  · obtain ⟨v, rfl, r⟩ := reps1 rs
    unfold Rep at r
    obtain ⟨a, _, rfl, _, hH⟩ := r
    exact .inr (.inr (.inr (.inl ⟨a, rfl, hH, hQ _ H _ ⟨os, I.push (Rep.ofS (d := .str _) rfl)⟩ q⟩)))
  · rcases h with h | ⟨h1, h2, h3⟩
    · subst h
      obtain ⟨v, rfl, r⟩ := reps1 rs
      have e : v = .non := r.toS rfl
      subst e
      exact .inr (.inr (.inr (.inr (.inl ⟨rfl, hQ _ H _ ⟨os, I.push (Rep.ofS (d := .str "None") rfl)⟩ q⟩))))
    · obtain ⟨v, rfl, r⟩ := reps1 rs
      have S := shownA_ok _ _ h2
      have := S.len
      rw [← hK] at r
      have e : showX d = showA d := by cases d <;> first | rfl | (simp [isTL] at h1)
      rw [e] at q
      refine .inr (.inr (.inr (.inr (.inr ⟨v, _, rfl, fun pins s σ u J ru => ?_, S.show1, S.dict, S.deep, by rw [sizeLine_eq]; lia, hQ _ H _ ⟨os, I.push (Rep.ofS (d := .str (showA d)) rfl)⟩ q⟩))))
      obtain ⟨as, rd⟩ := readsA_of J _ _ v u h2 r ru
      obtain ⟨a, rfl⟩ : ∃ a, v = .ref a := by
        cases d with
        | tup ds => obtain ⟨a, xs, e, _⟩ := r.tup_inv; exact ⟨a, e⟩
        | lst ds => obtain ⟨a, xs, e, _⟩ := r.lst_inv; exact ⟨a, e⟩
        | _ => simp [isTL] at h1
      have e : u = .ref a := ru
      subst e
      exact ⟨a, as, rfl, rd⟩
end
end L2
set_option maxRecDepth 100000
namespace L2
open PySem PySem.Spec PyProof.Rows
section
variable {A : AC} {X : Cx}
def rdDeqM : RD2 := fun d1 d2 k => (∃ j, okE d1 j = true ∧ okE d2 j = true) ∧ bothSeq d1 d2 = false ∧ k (.bl (eqD d1 d2))
@[simp] theorem q_rdDeqM {d1 d2 k} : rdDeqM d1 d2 k = ((∃ j, okE d1 j = true ∧ okE d2 j = true) ∧ bothSeq d1 d2 = false ∧ k (.bl (eqD d1 d2))) := rfl
theorem re_deqM (hK : X.K = A.K) : OpRel A (rDeq X) rdDeqM := by
  rintro os n rho sg H ds vs d1 d2 v1 v2 k Q I ⟨⟨j, h1, h2⟩, hb, q⟩ hQ
  obtain ⟨I1, r2⟩ := I.pop
  obtain ⟨I2, r1⟩ := I1.pop
  rw [← hK] at r1 r2
  exact ⟨eqD d1 d2, fun pins s σ v u J rx ry B hu => eq_mix J h1 h2 r1 r2 rx ry (by lia) hb, hQ _ H _ ⟨os, I2.push (Rep.ofS rfl)⟩ q⟩
end
end L2
namespace L2
open PySem PySem.Spec PyProof.Rows HT
section
variable {A : AC} {X : Cx}
def numB : D → Option Int
  | .int i => some i
  | .bl b => some (if b = true then 1 else 0)
  | _ => none
def numV : V → Option Int
  | .int i => some i
  | .bl b => some (if b = true then 1 else 0)
  | _ => none
def rB (g : Int → Int → Int) : R2 := fun x y H Q => ∃ i j, numV x = some i ∧ y = .int j ∧ Q (.int (g i j)) H
def rdNB (g : Int → Int → Int) : RD2 := fun d1 d2 k => ∃ i j, numB d1 = some i ∧ d2 = .int j ∧ k (.int (g i j))
@[simp] theorem q_rdNB {g d j k} : rdNB g d (.int j) k ↔ ∃ i, numB d = some i ∧ k (.int (g i j)) := ⟨fun ⟨i, _, e, e', h⟩ => by cases e'; exact ⟨i, e, h⟩, fun ⟨i, e, h⟩ => ⟨i, j, e, rfl, h⟩⟩
theorem op_addNB : OpR X (binaryOp .Add) (rB fun i j => i + j) := by
  intro pins s σ H x y v u Q I rx ry h
  obtain ⟨i, j, e, rfl, q⟩ := h
  obtain ⟨t', rfl⟩ := ry
  cases x with
  | int a => cases e; obtain ⟨t, rfl⟩ := rx; exact add_int ⟨.int _, H, I.tok _, ⟨_, rfl⟩, q⟩
  | bl b => cases e; cases rx; exact PySem.IntBool.add_bool_int ⟨.int _, H, I.tok _, ⟨_, rfl⟩, q⟩
  | _ => cases e
theorem op_subNB : OpR X (binaryOp .Sub) (rB fun i j => i - j) := by
  intro pins s σ H x y v u Q I rx ry h
  obtain ⟨i, j, e, rfl, q⟩ := h
  obtain ⟨t', rfl⟩ := ry
  cases x with
  | int a => cases e; obtain ⟨t, rfl⟩ := rx; exact sub_int ⟨.int _, H, I.tok _, ⟨_, rfl⟩, q⟩
  | bl b => cases e; cases rx; exact PySem.IntBool.sub_bool_int ⟨.int _, H, I.tok _, ⟨_, rfl⟩, q⟩
  | _ => cases e
theorem num_rep {K : PySem.W.Frag} {G : Option Addr} {Z : Addr → Prop} {H : Hp} {d : D} {v : V} {i : Int} (r : Rep K G Z H d v) (e : numB d = some i) : numV v = some i := by
  cases d with
  | int j => cases e; rw [r.int_inv]; rfl
  | bl b => cases e; rw [r.toS rfl]; rfl
  | _ => cases e
theorem re_NB {g : Int → Int → Int} : OpRel A (rB g) (rdNB g) := by
  rintro os n rho sg H ds vs d1 d2 v1 v2 k Q I ⟨i, j, e, rfl, q⟩ hQ
  obtain ⟨I1, r2⟩ := I.pop
  obtain ⟨I2, r1⟩ := I1.pop
  exact ⟨i, j, num_rep r1 e, r2.int_inv, hQ _ H _ ⟨os, I2.push (Rep.ofS (d := .int (g i j)) rfl)⟩ q⟩
theorem slot_bool_neg : Slot "bool" "__neg__" "int.__neg__" :=
  .of (owner := "int") (n := "__neg__") (by rw [typeLookup_type, builtinLookup_eq_fast]; kernel_rfl) (by decide +kernel) (by decide +kernel) (by decide +kernel)
    (by first | exact .inl (by decide +kernel) | exact .inr (by decide +kernel)) (by rw [isSubtype_type]; kernel_rfl)
theorem neg_bool {prog : Program} {w : World} {A : Around} {E : Value → Shared → Prop} {s : Shared} {a : Bool} {Q : Value → Shared → Prop} (h : Q (.int (-(if a = true then (1 : Int) else 0)) s.toks) { s with toks := s.toks + 1 }) : wpAny (model prog w) A (unaryOp .USub (.bool a)) Q E s := by
  unfold unaryOp
  refine wpAny_holding ?_
  refine wpAny_bind (m := callSpecial? (.bool a) (Str.ofString "__neg__")) (wpAny_callSpecial?_slot (name := Str.ofString "__neg__") (T := "bool") rfl slot_bool_neg
    (wpAny_call_entry slot_bool_neg rfl entry_int_neg ?_ (args_int_neg _)))
  show wpAny _ _ (do ret (← mkInt (-(if a = true then (1 : Int) else 0)))) _ _ s
  exact wpAny_ret_mkInt (wpAny_pure h)
theorem un_negB : UnR X (unaryOp .USub) (fun x H Q => ∃ i, numV x = some i ∧ Q (.int (-i)) H) := by
  intro pins s σ H x v Q I rx h
  obtain ⟨i, e, q⟩ := h
  cases x with
  | int a => cases e; obtain ⟨t, rfl⟩ := rx; exact neg_int ⟨.int _, H, I.tok _, ⟨_, rfl⟩, q⟩
  | bl b => cases e; cases rx; exact neg_bool ⟨.int _, H, I.tok _, ⟨_, rfl⟩, q⟩
  | _ => cases e
theorem call_strB {n : Nat} (hr : Room n X.A) : CallR X (.type "str") (fun xs H Q => (∃ b : Bool, xs = [.bl b] ∧ Q (.str (if b then "True" else "False")) H) ∨ ∃ i : Int, xs = [.int i] ∧ i.natAbs.log2 < 1920 ∧ Q (.str (toString i)) H) := by
  intro pins s σ H xs us Q I r h
  rcases h with ⟨b, rfl, q⟩ | h
  · obtain ⟨u, rfl, hu⟩ := vals1 r
    cases hu
    exact PySem.P.str_of_bool ⟨.str _, H, I.tok _, ⟨_, rfl⟩, q⟩
  · exact call_str_int pins s σ H xs us Q I r h
def kStrB : List D → (D → Prop) → Prop := fun es k => (∃ b : Bool, es = [.bl b] ∧ k (.str (if b then "True" else "False"))) ∨ ∃ i : Int, es = [.int i] ∧ i.natAbs.log2 < 1920 ∧ k (.str (toString i))
theorem cr_strB : CallRel A (fun xs H Q => (∃ b : Bool, xs = [.bl b] ∧ Q (.str (if b then "True" else "False")) H) ∨ ∃ i : Int, xs = [.int i] ∧ i.natAbs.log2 < 1920 ∧ Q (.str (toString i)) H) kStrB := by
  rintro os n rho sg H ds vs es ws k Q I rs (⟨b, rfl, q⟩ | ⟨i, rfl, hi, q⟩) hQ
  · obtain ⟨v, rfl, r⟩ := reps1 rs
    exact .inl ⟨b, by rw [r.toS rfl]; rfl, hQ _ H _ ⟨os, I.push (Rep.ofS (d := .str _) rfl)⟩ q⟩
  · obtain ⟨v, rfl, r⟩ := reps1 rs
    exact .inr ⟨i, by rw [r.int_inv], hi, hQ _ H _ ⟨os, I.push (Rep.ofS (d := .str _) rfl)⟩ q⟩
end
section
variable {A : AC} {X : Cx} {a : Expr} {ta : TD} {pos : Pos}
theorem pd_negB (ha : PD A X a ta) : PD A X (.UnaryOp .USub a pos) (fun rho n P => ta rho n fun d n' => ∃ i, numB d = some i ∧ P (.int (-i)) n') := by
  with_unfolding_all
    exact (pe_un un_negB ha).imp fun sg H Q h => by
      obtain ⟨rho, n, P, ds, vs, I, ht, hQ⟩ := h
      refine ⟨rho, n, _, ds, vs, I, ht, fun v H' n' d ⟨os, J⟩ k => ?_⟩
      obtain ⟨i, e, k⟩ := k
      obtain ⟨J1, r⟩ := J.pop
      exact ⟨i, num_rep r e, hQ _ H' n' _ ⟨os, J1.push (Rep.ofS (d := .int (-i)) rfl)⟩ k⟩
end
section
variable {prog : Program} {w : World} {A : Around} {E : Value → Shared → Prop} {s : Shared}
theorem adjust_two (n : Nat) : Builtin.Slice.sliceAdjust none (some (-3)) (-1) (n : Int) = ((n : Int) - 1, max (-3 + (n : Int)) (-1)) := by
  unfold Builtin.Slice.sliceAdjust
  simp
theorem places_two (n : Nat) : Builtin.Slice.slicePlaces ((n : Int) - 1) (max (-3 + (n : Int)) (-1)) (-1) = min 2 n := by
  unfold Builtin.Slice.slicePlaces
  rw [if_neg (by decide)]
  split
  · show ((_ : Int) / 1 + 1).toNat = _
    rw [Int.ediv_one]; lia
  · lia
theorem sliceApplied_two {sl : Addr} {t t2 : Tok} {n : Nat} {Q : Int × Int × Nat → Shared → Prop} (hs : s.heap.IsSliceOf sl .none (.int (-3) t2) (.int (-1) t))
    (h : Q ((n : Int) - 1, -1, min 2 n) s) : wpAny (model prog w) A (Builtin.Slice.sliceApplied (.ref sl) (pure (n : Int))) Q E s := by
  obtain ⟨os, hos, hcs, hds⟩ := id hs
  unfold Builtin.Slice.sliceApplied Builtin.Slice.sliceFields
  refine wpAny_bind (wpAny_bind (wpAny_field hos hds (x := .none) rfl (wpAny_bind (wpAny_field hos hds (x := .int (-3) t2) rfl (wpAny_bind (wpAny_field hos hds (x := .int (-1) t) rfl (wpAny_pure ?_)))))))
  refine wpAny_bind (slicePart_int ?_)
  show wpAny _ _ (if ((-1 : Int) == 0) = true then _ else _) _ _ s
  rw [if_neg (by decide)]
  refine wpAny_bind (slicePart_none (wpAny_bind (slicePart_int (wpAny_bind (wpAny_pure ?_)))))
  show wpAny _ _ (match Builtin.Slice.sliceAdjust none (some (-3)) (-1) (n : Int) with | (lo, hi) => pure (lo, (-1 : Int), Builtin.Slice.slicePlaces lo hi (-1))) _ _ s
  rw [adjust_two n]
  show wpAny _ _ (pure ((n : Int) - 1, (-1 : Int), Builtin.Slice.slicePlaces ((n : Int) - 1) (max (-3 + (n : Int)) (-1)) (-1))) _ _ s
  rw [places_two]
  exact wpAny_pure h
theorem pick_two (xs : Array Value) : ((List.range (min 2 xs.size)).filterMap fun (m : Nat) => xs[((xs.size : Int) - 1 + (m : Int) * (-1)).toNat]?).toArray = (xs.toList.reverse.take 2).toArray := by
  have h := pick_gen xs.toList.reverse.toArray 0 (min 2 xs.size)
  have e : (List.range (min 2 xs.size)).filterMap (fun (m : Nat) => xs[((xs.size : Int) - 1 + (m : Int) * (-1)).toNat]?) = (List.range (min 2 xs.size)).filterMap (fun (m : Nat) => xs.toList.reverse.toArray[((0 : Nat) + (m : Int) * 1).toNat]?) := by
    refine fm_congr fun m hm => ?_
    have hm' := List.mem_range.mp hm
    have e1 : ((xs.size : Int) - 1 + (m : Int) * (-1)).toNat = xs.size - 1 - m := by lia
    have e2 : (((0 : Nat) : Int) + (m : Int) * 1).toNat = m := by lia
    rw [e1, e2]
    simp only [List.getElem?_toArray]
    rw [List.getElem?_reverse (by rw [Array.length_toList]; lia)]
    simp
  rw [e, h]
  congr 1
  rw [List.drop_zero]
  have hl : xs.toList.reverse.toArray.toList.length = xs.size := by simp
  have hl2 : xs.toList.reverse.length = xs.size := by simp
  by_cases h2 : 2 ≤ xs.size
  · rw [Nat.min_eq_left h2]
  · rw [Nat.min_eq_right (by lia), List.take_of_length_le (by lia), List.take_of_length_le (by lia)]
theorem getItem_tuple_two {t sl : Addr} {items : Array Value} {tk t2 : Tok} {Q : Value → Shared → Prop} (ht : IsTup s.heap t items) (hs : s.heap.IsSliceOf sl .none (.int (-3) t2) (.int (-1) tk))
    (h : Q (.ref s.heap.objs.size) { s with heap := s.heap.push { cls := .type "tuple", data := .seq (items.toList.reverse.take 2).toArray } }) (hsz : items.size ≤ sizeLine) : wpAny (model prog w) A (getItem (.ref t) (.ref sl)) Q E s := by
  have htake : sizeOk (.seq (items.toList.reverse.take 2).toArray) := by
    show (items.toList.reverse.take 2).toArray.size ≤ sizeLine
    simp
    lia
  obtain ⟨os, hos, hcs, hds⟩ := id hs
  have hTs : s.TypeIs (.ref sl) "slice" := ⟨os, hos, hcs⟩
  unfold getItem
  try with_reducible refine wpAny_holding ?_
  first | refine wpAny_bind (wpAny_pure ?_) | skip
  refine wpAny_bind (wpAny_sequenceKey ht.typeIs (by decide) ?_)
  refine wpAny_bind (wpAny_callSpecial?_slot (name := Str.ofString "__getitem__") ht.typeIs PyProof.Rows.slot_tuple_getitem
    (wpAny_call_entry PyProof.Rows.slot_tuple_getitem ht.typeIs entry_tuple_getitem ?_ (args_tuple_getitem _ _)))
  show wpAny _ _ (Builtin.Tuple.tupleItemsOf (.ref t) >>= _) _ _ s
  refine wpAny_bind (tupleItemsOf_ ht ?_)
  refine wpAny_bind (wpAny_typeOf hTs ?_)
  rw [if_pos (by decide)]
  refine wpAny_bind (sliceApplied_two hs ?_)
  have hno : ¬ ((((items.size : Int) - 1) == 0 && (-1 : Int) == 1 && min 2 items.size == items.size) = true) := by simp
  show wpAny _ _ (if (((items.size : Int) - 1) == 0 && (-1 : Int) == 1 && min 2 items.size == items.size) = true then _ else _) _ _ s
  rw [if_neg hno, pick_two]
  first
    | exact wpAny_bind (m := Builtin.Tuple.tupleExact _) (wpAny_newObj_type (wpAny_pure ⟨_, rfl, wpAny_pure h⟩) htake)
    | exact wpAny_bind (m := Builtin.Tuple.tupleExact _) (wpAny_newObj_type (wpAny_bind (wpAny_pure (wpAny_pure ⟨_, rfl, wpAny_pure h⟩))) htake)
    | exact wpAny_bind (wpAny_bind (m := Builtin.Tuple.tupleExact _) (wpAny_newObj_type (wpAny_pure (wpAny_pure ⟨_, rfl, wpAny_pure h⟩)) htake))
    | exact wpAny_bind (wpAny_bind (m := Builtin.Tuple.tupleExact _) (wpAny_newObj_type (wpAny_pure ⟨_, rfl, wpAny_pure h⟩) htake))
end
section
variable {X : Cx} {e : Expr} {te : TE} {pos p2 : Pos}
def tTwo (K : PySem.W.Frag) (te : TE) : TE := fun σ H Q => te σ H fun x H1 => ∃ a xs, x = .ref a ∧ SqT K H1 a xs ∧ ∀ p, H1 p = none → Q (.ref p) (upd H1 p (.tup (xs.reverse.take 2)))
theorem pe_two {st sp : Expr} (he : PE X e te) (hsp : PE X sp fun _ H Q => Q (.int (-3)) H) (hst : PE X st fun _ H Q => Q (.int (-1)) H) : PE X (.Subscript e (.Slice none (some sp) (some st) p2) pos) (tTwo X.K te) := by
  intro pins s σ H Q I h
  refine Subscript_ (thn (he pins s σ H _ I h) fun v s1 ⟨x, H1, I1, r1, q1⟩ => ?_)
  obtain ⟨a, xs, rfl, hx, q1⟩ := q1
  refine wpAny_Slice ?_
  rw [evalPart_none]
  refine wpAny_pure ?_
  rw [evalPart_some]
  refine thn (hsp pins s1 σ H1 (fun y H2 => y = .int (-3) ∧ H2 = H1) I1 ⟨rfl, rfl⟩) fun u2 s2 ⟨y2, H2, I2, ry2, ey2, eH2⟩ => ?_
  subst ey2 eH2
  obtain ⟨tk2, rfl⟩ := ry2
  rw [evalPart_some]
  refine thn (hst pins s2 σ H2 (fun y H3 => y = .int (-1) ∧ H3 = H2) I2 ⟨rfl, rfl⟩) fun u s3 ⟨y, H3, I3, ry, ey, eH⟩ => ?_
  subst ey eH
  obtain ⟨tk, rfl⟩ := ry
  cases r1
  have I4 : Inv X pins σ H3 { s3 with heap := s3.heap.push { cls := .type "slice", data := .fields #[.none, .int (-3) tk2, .int (-1) tk] } } := I3.kept (t' := s3.toks) fun b ob q => Heap.get?_push_of_some _ q
  obtain ⟨its, r, ht, hz⟩ := I4.tuple hx
  have hlen : its.toArray.size = xs.length := by rw [List.size_toArray]; exact r.length.symm
  refine tail_any (ops := [.ref a, .ref s3.heap.objs.size]) ht.typeIs PyProof.Rows.slot_tuple_getitem.lookup (getItem_tuple_two ht (Heap.IsSliceOf.new ..) ?_ (by rw [hlen]; exact hz)) (by with_unfolding_all rfl)
  refine ⟨.ref _, _, I4.laid (t' := s3.toks) (o := .tup (xs.reverse.take 2)) (fun b ob q => Heap.get?_push_of_some _ q) (Nat.le_refl _) ?_, rfl, q1 _ (I4.hok.fresh (Nat.le_refl _))⟩
  exact ⟨by rw [List.length_take, List.length_reverse]; lia, its.reverse.take 2, r.reverse.take 2, ⟨_, Heap.get?_push_size _ rfl, rfl, _, rfl⟩⟩
end
section
variable {A : AC} {X : Cx} {a : Expr} {ta : TD} {pos p2 p3 p4 p5 p6 : Pos}
def dTwo (ta : TD) : TD := fun rho n P => ta rho n fun d n1 => tupAt d fun fs => P (.tup (fs.reverse.take 2)) n1
@[simp] theorem q_dTwo {ta rho n P} : dTwo ta rho n P = ta rho n fun d n1 => tupAt d fun fs => P (.tup (fs.reverse.take 2)) n1 := rfl
theorem pd_two {j j2 : Nat} (hK : X.K = A.K) (ha : PD A X a ta) : PD A X (.Subscript a (.Slice none (some (.UnaryOp .USub (.Constant (.int 3) j2 p6) p5)) (some (.UnaryOp .USub (.Constant (.int 1) j p4) p3)) p2) pos) (dTwo ta) := by
  with_unfolding_all
    exact (pe_two ha ((pe_un un_neg pe_int).imp fun sg H Q q => ⟨3, rfl, q⟩) ((pe_un un_neg pe_int).imp fun sg H Q q => ⟨1, rfl, q⟩)).imp fun sg H Q h => by
      obtain ⟨rho, n, P, ds, vs, I, ht, hQ⟩ := h
      refine ⟨rho, n, _, ds, vs, I, ht, fun v H1 n1 d ⟨os, J⟩ k => ?_⟩
      obtain ⟨fs, rfl, k⟩ := k
      obtain ⟨J1, r⟩ := J.pop
      obtain ⟨l, xs, rfl, sq, rs⟩ := r.tup_inv
      rw [hK]
      exact ⟨l, xs, rfl, sq.sq, fun p hp => hQ _ _ n1 _ ⟨os, J1.newTup (Reps.take 2 rs.reverse) hp⟩ k⟩
end
open PySem.SeqAt
section
variable {A : Around} {s : Shared}
theorem dict_declines {prog : Program} {w : World} {E : Value → Shared → Prop} {l : Addr} {Q : Value → Shared → Prop} (hl : s.TypeIs (.ref l) "dict") (hq : Q .notImplemented s) : wpAny (model prog w) A (call (.builtin "dict.__eq__") [.ref l, .none]) Q E s := by
  refine wpAny_call_entry PySem.F.slot_dict_eq hl PySem.F.entry_dict_eq ?_ (PySem.F.args_dict_eq_2 _ _)
  show wpAny _ _ (Builtin.Dict.dictSlotArgs "__eq__" ⟨[.ref l, .none], []⟩ >>= _) _ _ s
  refine wpAny_bind ?_
  unfold Builtin.Dict.dictSlotArgs
  refine wpAny_bind (wpAny_notOrdered_dict hl ?_)
  show wpAny _ _ (pure (Value.ref l, Value.none)) _ _ s
  refine wpAny_pure ?_
  refine wpAny_bind (wpAny_isInstance (v := .none) (show Shared.TypeIs _ .none "NoneType" from rfl) PySem.F.sub_NoneType_dict ?_)
  simp only [Bool.not_false, if_true]
  exact wpAny_bind (wpAny_rule (wpAny_bind (wpAny_pure (wpAny_pure ⟨_, rfl, hq⟩))))
theorem RcAt_dict_none {l : Addr} (hl : s.TypeIs (.ref l) "dict") (hu : A.units < cLine) : RcAt A s (.ref l) .none false := fun prog w E Q h => by
  exact rc_eq_decline_or (k := false) hl rfl (by decide) F.sub_NoneType_dict F.slot_dict_eq F.slot_NoneType_eq_refl
    (fun _ hq => dict_declines hl hq)
    (fun _ hq => call_gives F.slot_NoneType_eq_refl rfl F.entry_NoneType_eq (F.args_NoneType_eq_2 _ _) (NoneType___eq___none_ref_0 l) hq)
    (fun _ hq => wpAny_of_eq (rfl : isSame (.ref l) .none = pure false) hq) (.inr hu) h
end
end L2
namespace L2
open PySem PySem.Spec PyProof.Rows
section
variable {A : AC} {X : Cx}
def rDeqX (X : Cx) : R2 := fun x y H Q => rDeq X x y H Q ∨ ∃ a, x = .ref a ∧ H a = some (.dK []) ∧ y = .non ∧ Q (.bl false) H
theorem op_deqX {n : Nat} (hr : Room n X.A) : OpR X (compareOp .Eq) (rDeqX X) := by
  intro pins s σ H x y v u Q I rx ry h
  rcases h with h | ⟨a, rfl, hH, rfl, q⟩
  · exact op_deq hr pins s σ H x y v u Q I rx ry h
  · cases rx
    cases ry
    obtain ⟨_, hS, vs, rv, m⟩ : ([] : List (Key × V)).length ≤ sizeLine ∧ (a == sysModules) = false ∧ ∃ vs, KV [] vs ∧ s.heap.DictOf (mixKind X.prog X.w) a vs := I.hok a _ hH
    exact RcAt_dict_none m.typeIs (by have := hr.units; lia) X.prog X.w X.xe _ ⟨.bl false, H, I, rfl, q⟩
def isDicD : D → Bool
  | .dic => true
  | _ => false
def rdDeqX : RD2 := fun d1 d2 k => if (isDicD d1 && isNon d2) = true then k (.bl false) else rdDeqM d1 d2 k
@[simp] theorem q_rdDeqX {d1 d2 k} : rdDeqX d1 d2 k = if (isDicD d1 && isNon d2) = true then k (.bl false) else rdDeqM d1 d2 k := rfl
theorem re_deqX (hK : X.K = A.K) : OpRel A (rDeqX X) rdDeqX := by
  rintro os n rho sg H ds vs d1 d2 v1 v2 k Q I h hQ
  by_cases hd : (isDicD d1 && isNon d2) = true
  · unfold rdDeqX at h
    rw [if_pos hd] at h
    cases d1 with
    | dic =>
      cases d2 with
      | non =>
        obtain ⟨I1, r2⟩ := I.pop
        obtain ⟨I2, r1⟩ := I1.pop
        have e2 : v2 = .non := r2.toS rfl
        unfold Rep at r1
        obtain ⟨a, _, rfl, _, hH⟩ := r1
        exact .inr ⟨a, rfl, hH, e2, hQ _ H _ ⟨os, I2.push (Rep.ofS (d := .bl false) rfl)⟩ h⟩
      | _ => cases hd
    | _ => cases hd
  · unfold rdDeqX at h
    rw [if_neg hd] at h
    exact .inl (re_deqM hK os n rho sg H ds vs d1 d2 v1 v2 k Q I h hQ)
end
end L2
set_option maxRecDepth 100000
set_option maxHeartbeats 1000000
namespace K33
open PySem L2 PySem.Spec PyProof.Rows
def top (i : Nat) : Stmt := PySem.Challenge.pw_boxlayers_k33_marked_or_none.main.body.getD i (.Pass ⟨0, 0, 0, 0⟩)
abbrev End := Option (Int × Bool)
def encEnd : End → D
  | none => .non
  | some (n, s) => .tup [.int n, .bl s]
def encPlace (p : List Int) : D := .tup (p.map D.int)
@[simp] theorem end_none : encEnd none = .non := rfl
@[simp] theorem end_some {n : Int} {s : Bool} : encEnd (some (n, s)) = .tup [.int n, .bl s] := rfl
section
variable {P : Program} {w : World} {K : PySem.W.Frag} {mg : Str → Option Value} {base : Heap}
end
end K33
set_option maxRecDepth 100000
set_option maxHeartbeats 1000000
namespace K33
open PySem L2 PySem.Spec PyProof.Rows
theorem pick {es : List D} {k : Int} {R : D → Prop} (h0 : 0 ≤ k) (h1 : k < es.length) (h : ∀ d ∈ es, R d) : rdIx (.lst es) (.int k) R := by
  obtain ⟨d, e, m⟩ := atI_lt h0 h1
  exact q_rdIxL.mpr ⟨d, e, h d m⟩
theorem pickI {js : List Int} {k : Int} {R : D → Prop} (lo hi : Int) (h0 : 0 ≤ k) (h1 : k < js.length) (hb : ∀ j ∈ js, lo ≤ j ∧ j ≤ hi) (h : ∀ j : Int, lo ≤ j → j ≤ hi → R (.int j)) : rdIx (.lst (js.map D.int)) (.int k) R := by
  refine pick h0 (by simpa using h1) fun d hd => ?_
  obtain ⟨j, hj, rfl⟩ := List.mem_map.mp hd
  exact h j (hb j hj).1 (hb j hj).2
def numsD (xs : List Int) : D := .lst (xs.map D.int)
theorem rng_len (c : Nat) : (rngD 0 c).length = c := by unfold rngD; rw [List.length_map, List.length_range]
theorem rng_at {c i : Nat} {d : D} (h : (rngD 0 c)[i]? = some d) : i < c ∧ d = .int (i : Int) := by
  have hi : i < c := by have := (List.getElem?_eq_some_iff.mp h).1; rw [rng_len] at this; exact this
  refine ⟨hi, ?_⟩
  unfold rngD at h
  rw [List.getElem?_map, List.getElem?_range hi] at h
  have := Option.some.inj h
  rw [← this]
  simp
theorem comp_dem0 {own : Nat} {g : TGD} {te : TD} {rho : Rho} {P : D → Nat → Prop} (items : List D) (n1 : Nat) (Good : D → D → Prop) (hz : items.length ≤ sizeLine)
    (he : ∀ (i : Nat) (d : D), items[i]? = some d → ∀ Q : D → Nat → Prop, (∀ e, Good d e → Q e n1) → g d (List.replicate own none ++ rho) fun rho' => rho'.drop own = rho ∧ te rho' n1 Q)
    (hP : ∀ es, Paired Good items es → P (.lst es) n1) : compIn own g bYes te rho P items n1 := by
  refine ⟨hz, fun i acc n => Paired Good (items.take i) acc ∧ n = n1, ⟨.nil, rfl⟩, ?_, ?_⟩
  · rintro i d acc n e ⟨h1, rfl⟩
    refine he i d e (fun e n3 => Paired Good (items.take (i + 1)) (acc ++ [e]) ∧ n3 = n) fun c hg => ⟨?_, rfl⟩
    rw [List.take_add_one, e]
    exact Paired.snoc h1 hg
  · rintro acc n ⟨h1, rfl⟩
    rw [List.take_length] at h1
    exact hP acc h1
section
variable {P : Program} {w : World} {K : PySem.W.Frag} {mg : Str → Option Value} {base : Heap}
abbrev s__law_cell_at : Stmt := top 17
abbrev N__law_cell_at : List Str := ["_law_script", "_law_k"]
theorem sc__law_cell_at : FnScope N__law_cell_at ["_law_script", "_law_k"] (defScope s__law_cell_at) := ⟨rfl, rfl, rfl, by decide +kernel, rfl, by decide +kernel, by decide +kernel⟩
def t_cell_at : TF := fun ds n Q => ∃ (ns : List Int) (j : Int), ds = [scriptD ns, .int j] ∧ 0 ≤ j ∧ ∀ x : Int, Q (.int x) n
theorem ok_cell_at {f : Addr} {fd : FuncData} (T : Blt mg) (F : Fun K "_law_cell_at" "_law_cell_at" s__law_cell_at f fd) : FnOk P w K mg base CX0 1 f fd ["_law_script", "_law_k"] (spD K 2 t_cell_at) := by
  refine Fun.okD F sc__law_cell_at (fun cdv A0 outer s H E G Z hr => (pssd_cons (psd_if (ptd_cmp op_lt re_lt (pd_var 1) (pd_callB call_len_seq cr_len T.len bt_len (pad_cons (pd_var 0) pad_nil)) (nomark _)) (pssd_one (psd_ret (pd_ix ix_seq re_ix (pd_var 0) (pd_var 1) (fun _ _ => rfl)))) pssd_nil)
    (pssd_one (psd_ret pd_int)))) ?_
  rintro ds n Q hl ⟨ns, j, rfl, hj, q⟩
  simp [startD, scriptD]
  split
  · rename_i h
    obtain ⟨d, e, m⟩ := atI_lt (xs := ns.map D.int) hj (by simpa using h)
    obtain ⟨x, _, rfl⟩ := List.mem_map.mp m
    exact ⟨_, e, q x⟩
  · exact q 0
abbrev s__law_left : Stmt := top 18
abbrev N__law_left : List Str := ["_law_script", "_law_k", "_law_cell", "_law_seed"]
theorem sc__law_left : FnScope N__law_left ["_law_script", "_law_k"] (defScope s__law_left) := ⟨rfl, rfl, rfl, by decide +kernel, rfl, by decide +kernel, by decide +kernel⟩
def t_left : TF := fun ds n Q => ∃ (ns : List Int) (j : Int), ds = [scriptD ns, .int j] ∧ ns.length ≤ 63 ∧ 0 ≤ j ∧ j < 1000 ∧ ∀ x y : Int, 0 ≤ x → 0 ≤ y → y < 2147483647 → Q (.lst [.int x, .int y]) n
theorem ok_left {f : Addr} {fd : FuncData} (T : Blt mg) (ND : base.NoDigits) (F : Fun K "_law_left" "_law_left" s__law_left f fd) (F__law_cell_at : Fn P w K mg base "_law_cell_at" 1 2 t_cell_at) : FnOk P w K mg base CX0 2 f fd ["_law_script", "_law_k"] (spD K 2 t_left) := by
  refine Fun.okD F sc__law_left (fun cdv A0 outer s H E G Z hr => (pssd_cons (psd_set (i := 2) sc__law_left.nd rfl (lo rfl) (pd_fn F__law_cell_at (hr.mono (by decide)) rfl (pad_cons (pd_var 0) (pad_cons (pd_mod (pd_var 1) (pd_callB (call_max2 rfl) cr_max2 T.max bt_max (pad_cons pd_int (pad_cons (pd_callB call_len_seq cr_len T.len bt_len (pad_cons (pd_var 0) pad_nil)) pad_nil)))) pad_nil))))
    (pssd_cons (psd_set (i := 3) sc__law_left.nd rfl (lo rfl) (pd_mod (pd_mul (pd_add (pd_add (pd_mod (pd_var 2) pd_int) (pd_mul (pd_mul pd_int (pd_var 1)) (pd_var 1))) pd_int) pd_int) pd_int))
    (pssd_one (psd_ret (pd_lst (pad_cons (pd_mod (pd_mul (pd_var 2) (pd_callTy call_int1 cr_intB T.int bt_int (pad_cons (pd_cmp op_ge re_ge (pd_var 2) (pd_pow pd_int pd_int) (nomark _)) pad_nil))) (pd_callTy (call_int_long ND) cr_intL T.int bt_int (pad_cons (pd_op op_add_str re_catS pd_str (pd_op op_mulS re_mulS pd_str pd_int)) pad_nil))) (pad_cons (pd_var 3) pad_nil)))))))) ?_
  rintro ds n Q hl ⟨ns, j, rfl, hns, hj0, hj1, q⟩
  have cm : ∀ {i j : Int}, (-(2 ^ 64) < i ∧ i < 2 ^ 64) → CMul i j := fun h => .inl h
  have cm' : ∀ {i j : Int}, (-(2 ^ 64) < j ∧ j < 2 ^ 64) → CMul i j := fun h => .inr h
  obtain ⟨big, hb0, hb1, hb2, hb3⟩ := int_noughts 4000 (by decide) (by decide)
  have hlen : (Str.ofString "1").length + (Txt.mul (Str.ofString "0") 4000).length ≤ sizeLine := by
    have ec := cps_noughts 4000 (by decide)
    have e1 : (Str.ofString "1").length = 1 := by decide +kernel
    have e2 : (Str.ofString "1" ++ Txt.mul (Str.ofString "0") 4000).cps.toList.length = (Str.ofString "1").cps.toList.length + (Txt.mul (Str.ofString "0") 4000).cps.toList.length := by
      rw [← List.length_append, ← Array.toList_append]; rfl
    rw [ec, List.length_cons, List.length_replicate] at e2
    have e3 : ∀ x : Str, x.cps.toList.length = x.length := fun x => Array.length_toList
    rw [e3, e3] at e2
    rw [sizeLine_eq]
    lia
  simp [startD, scriptD]
  refine ⟨by split <;> lia, ns, _, rfl, Int.emod_nonneg _ (by split <;> lia), fun x => ?_⟩
  have h7 : 0 ≤ 7919 * j * j := Int.mul_nonneg (by lia) hj0
  have h8 : 7919 * j * j ≤ 7919 * j * 1000 := Int.mul_le_mul_of_nonneg_left (by lia) (by lia)
  simp
  refine ⟨cm ⟨by decide, by decide⟩, cm ⟨by lia, by lia⟩, cm' ⟨by decide, by decide⟩, ⟨by decide, by decide, by decide⟩, cm' ⟨by split <;> decide, by split <;> decide⟩, mulok_nought 4000 (by decide) (by decide), hlen, ?_⟩
  refine ⟨_, big, rfl, hb1, hb2, hb3, ?_⟩
  simp
  exact ⟨hb0, q _ _ (Int.emod_nonneg _ (by lia)) (Int.emod_nonneg _ (by decide)) (Int.emod_lt_of_pos _ (by decide))⟩
abbrev s__law_pick : Stmt := top 19
abbrev N__law_pick : List Str := ["_law_left_here", "_law_many", "_law_digit"]
theorem sc__law_pick : FnScope N__law_pick ["_law_left_here", "_law_many"] (defScope s__law_pick) := ⟨rfl, rfl, rfl, by decide +kernel, rfl, by decide +kernel, by decide +kernel⟩
def t_pick : TF := fun ds n Q => ∃ m : Int, ds = [.st, .int m] ∧ n = 2 ∧ 0 < m ∧ m < 10000000 ∧ ∀ k : Int, 0 ≤ k → k < m → Q (.int k) n
theorem ok_pick {f : Addr} {fd : FuncData} (F : Fun K "_law_pick" "_law_pick" s__law_pick f fd) : FnOk P w K mg base CX0 1 f fd ["_law_left_here", "_law_many"] (spD K 2 t_pick) := by
  refine Fun.okD F sc__law_pick (fun cdv A0 outer s H E G Z hr => (pssd_cons (psd_if (ptd_cmp op_gt re_gt (pd_stIx (i := 0) pd_int (fun _ _ => rfl)) pd_int (nomark _)) (pssd_cons (psd_set (i := 2) sc__law_pick.nd rfl (lo rfl) (pd_mod (pd_stIx (i := 0) pd_int (fun _ _ => rfl)) (pd_var 1)))
    (pssd_cons (psd_stSet (i := 0) (pd_div (pd_stIx (i := 0) pd_int (fun _ _ => rfl)) (pd_var 1)) pd_int)
    (pssd_one (psd_ret (pd_var 2))))) pssd_nil)
    (pssd_cons (psd_stSet (i := 0) (pd_mod (pd_add (pd_mul (pd_stIx (i := 0) pd_int (fun _ _ => rfl)) pd_int) pd_int) pd_int) pd_int)
    (pssd_one (psd_ret (pd_mod (pd_mod (pd_mul (pd_stIx (i := 0) pd_int (fun _ _ => rfl)) (pd_stIx (i := 0) pd_int (fun _ _ => rfl))) pd_int) (pd_var 1))))))) ?_
  rintro ds n Q hl ⟨m, rfl, rfl, hm, hm2, q⟩
  have cm : ∀ {i j : Int}, (-(2 ^ 64) < i ∧ i < 2 ^ 64) → CMul i j := fun h => .inl h
  simp [startD]
  intro z0 h0
  split
  · intro z hz
    exact ⟨hm, fun z1 hz1 => ⟨⟨hm, by lia⟩, Int.ediv_nonneg hz1 (by lia), q _ (Int.emod_nonneg _ (by lia)) (Int.emod_lt_of_pos _ hm)⟩⟩
  · intro z hz hz2
    exact ⟨cm ⟨by lia, by lia⟩, Int.emod_nonneg _ (by decide), Int.emod_lt_of_pos _ (by decide), fun y hy hy2 z1 h1 h1' => ⟨cm ⟨by lia, by lia⟩, hm, q _ (Int.emod_nonneg _ (by lia)) (Int.emod_lt_of_pos _ hm)⟩⟩
theorem pick_intro {m : Int} {Q : D → Nat → Prop} (h0 : 0 < m) (h1 : m < 10000000) (h : ∀ k : Int, 0 ≤ k → k < m → Q (.int k) 2) : t_pick [.st, .int m] 2 Q := ⟨m, rfl, rfl, h0, h1, h⟩
end
end K33
set_option maxRecDepth 100000
set_option maxHeartbeats 1000000
namespace K33
open PySem L2 PySem.Spec PyProof.Rows
abbrev Thing := Int × List Int × Int
def encThing (t : Thing) : D := .tup [.int t.1, encPlace t.2.1, .int t.2.2]
def small (x : Int) : Prop := -1000000000000000000 ≤ x ∧ x ≤ 1000000000000000000
structure GoodT (d : Nat) (ts : List Thing) (top : Int) : Prop where
  each : ∀ t ∈ ts, 0 ≤ t.1 ∧ t.1 < top ∧ t.2.1.length = d ∧ (∀ x ∈ t.2.1, small x) ∧ small t.2.2
  up : ts.Pairwise fun a b => a.1 < b.1
theorem GoodT.nil (d : Nat) (top : Int) : GoodT d [] top := ⟨by simp, .nil⟩
theorem GoodT.snoc {d : Nat} {ts : List Thing} {x top : Int} (h : GoodT d ts x) (hx : 0 ≤ x) (ht : x < top) {p : List Int} (hp : p.length = d) (hs : ∀ x ∈ p, small x) {y : Int} (hy : small y) : GoodT d (ts ++ [(x, p, y)]) top := by
  refine ⟨fun t hm => ?_, ?_⟩
  · rcases List.mem_append.mp hm with hm | hm
    · have := h.each t hm
      exact ⟨this.1, by lia, this.2.2⟩
    · rw [List.mem_singleton.mp hm]; exact ⟨hx, ht, hp, hs, hy⟩
  · rw [List.pairwise_append]
    refine ⟨h.up, by simp, fun a ha b hb => ?_⟩
    rw [List.mem_singleton.mp hb]
    exact (h.each a ha).2.1
theorem GoodT.more {d : Nat} {ts : List Thing} {x top : Int} (h : GoodT d ts x) (ht : x ≤ top) : GoodT d ts top := ⟨fun t hm => by have := h.each t hm; exact ⟨this.1, by lia, this.2.2⟩, h.up⟩
theorem GoodT.nodup {d : Nat} {ts : List Thing} {x : Int} (h : GoodT d ts x) : (ts.map fun t => t.1).Nodup := by
  rw [List.Nodup, List.pairwise_map]
  exact h.up.imp fun h => by lia
theorem paired_small : ∀ {l es : List D}, Paired (fun _ e => ∃ x : Int, small x ∧ e = .int x) l es → ∃ xs : List Int, es = xs.map D.int ∧ ∀ x ∈ xs, small x
  | _, _, .nil => ⟨[], rfl, by simp⟩
  | _, _, .cons r t => by
    obtain ⟨x, hx, rfl⟩ := r
    obtain ⟨xs, rfl, h⟩ := paired_small t
    exact ⟨x :: xs, rfl, fun y hy => by rcases List.mem_cons.mp hy with rfl | hy; exact hx; exact h y hy⟩
theorem paired_mem {G : D → Prop} : ∀ {l es : List D}, Paired (fun _ e => G e) l es → ∀ e ∈ es, G e
  | _, _, .nil => by simp
  | _, _, .cons r t => fun e he => by
    rcases List.mem_cons.mp he with rfl | he
    · exact r
    · exact paired_mem t e he
structure JHs (d : Nat) (dd sz wy kd : Option D) (i : Nat) (rho : Rho) (n : Nat) : Prop where
  e : n = 2
  r : ∃ (ts : List Thing) (x : Int) (v w : Option D), ts.length = i ∧ 0 ≤ x ∧ x ≤ 3 * i ∧ GoodT d ts (x + (if i = 0 then 0 else 1)) ∧ rho = [some .st, dd, sz, wy, kd, some (.own (ts.map encThing)), some (.int x), v, w]
section
variable {P : Program} {w : World} {K : PySem.W.Frag} {mg : Str → Option Value} {base : Heap}
abbrev s__law_number : Stmt := top 20
abbrev N__law_number : List Str := ["_law_left_here", "_law_way"]
theorem sc__law_number : FnScope N__law_number ["_law_left_here", "_law_way"] (defScope s__law_number) := ⟨rfl, rfl, rfl, by decide +kernel, rfl, by decide +kernel, by decide +kernel⟩
def t_number : TF := fun ds n Q => ∃ y : Int, ds = [.st, .int y] ∧ n = 2 ∧ ∀ x : Int, small x → Q (.int x) n
theorem ok_number {f : Addr} {fd : FuncData} (T : Blt mg) (F : Fun K "_law_number" "_law_number" s__law_number f fd) (F__law_pick : Fn P w K mg base "_law_pick" 1 2 t_pick) : FnOk P w K mg base CX0 2 f fd ["_law_left_here", "_law_way"] (spD K 2 t_number) := by
  refine Fun.okD F sc__law_number (fun cdv A0 outer s H E G Z hr => (pssd_cons (psd_if (ptd_cmp op_eq re_eq (pd_var 1) pd_int (nomark _)) (pssd_one (psd_ret (pd_fn F__law_pick (hr.mono (by decide)) rfl (pad_cons (pd_var 0) (pad_cons pd_int pad_nil))))) pssd_nil)
    (pssd_cons (psd_if (ptd_cmp op_eq re_eq (pd_var 1) pd_int (nomark _)) (pssd_one (psd_ret (pd_sub (pd_fn F__law_pick (hr.mono (by decide)) rfl (pad_cons (pd_var 0) (pad_cons pd_int pad_nil))) pd_int))) pssd_nil)
    (pssd_cons (psd_if (ptd_cmp op_eq re_eq (pd_var 1) pd_int (nomark _)) (pssd_one (psd_ret (pd_ix ix_seq re_ix (pd_lst (pad_cons (pd_sub (pd_pow pd_int pd_int) pd_int) (pad_cons (pd_sub pd_int (pd_pow pd_int pd_int)) (pad_cons pd_int (pad_cons pd_int (pad_cons (pd_add (pd_pow pd_int pd_int) (pd_fn F__law_pick (hr.mono (by decide)) rfl (pad_cons (pd_var 0) (pad_cons pd_int pad_nil)))) pad_nil)))))) (pd_fn F__law_pick (hr.mono (by decide)) rfl (pad_cons (pd_var 0) (pad_cons pd_int pad_nil))) (fun _ _ => rfl)))) pssd_nil)
    (pssd_one (psd_ret (pd_sub (pd_fn F__law_pick (hr.mono (by decide)) rfl (pad_cons (pd_var 0) (pad_cons (pd_pow pd_int pd_int) pad_nil))) pd_int))))))) ?_
  rintro ds n Q hl ⟨y, rfl, rfl, q⟩
  simp [startD]
  split
  · exact pick_intro (by decide) (by decide) fun k h0 h1 => q k ⟨by lia, by lia⟩
  · split
    · refine pick_intro (by decide) (by decide) fun k h0 h1 => ?_
      simp
      exact q _ ⟨by lia, by lia⟩
    · split
      · refine ⟨⟨by decide, by decide, by decide⟩, ⟨by decide, by decide, by decide⟩, pick_intro (by decide) (by decide) fun a h0 h1 => ?_⟩
        simp
        refine pick_intro (by decide) (by decide) fun b h2 h3 => ?_
        obtain ⟨z, ez, mz⟩ := atI_lt (xs := [D.int 999999999999999998, D.int (-999999999999999998), D.int 0, D.int 1, D.int (100000000000000000 + a)]) (i := b) h2 (by simpa using h3)
        obtain ⟨x, hx, rfl⟩ : ∃ x : Int, small x ∧ z = .int x := by
          simp only [List.mem_cons, List.not_mem_nil, or_false] at mz
          rcases mz with rfl | rfl | rfl | rfl | rfl
          · exact ⟨_, ⟨by lia, by lia⟩, rfl⟩
          · exact ⟨_, ⟨by lia, by lia⟩, rfl⟩
          · exact ⟨_, ⟨by lia, by lia⟩, rfl⟩
          · exact ⟨_, ⟨by lia, by lia⟩, rfl⟩
          · exact ⟨_, ⟨by lia, by lia⟩, rfl⟩
        exact q_rdIxL.mpr ⟨_, ez, q x hx⟩
      · refine ⟨⟨by decide, by decide, by decide⟩, pick_intro (by decide) (by decide) fun a h0 h1 => ?_⟩
        simp
        exact q _ ⟨by lia, by lia⟩
abbrev s__law_house : Stmt := top 21
abbrev N__law_house : List Str := ["_law_left_here", "_law_d", "_law_sizes", "_law_ways", "_law_kind", "_law_things", "_law_name", "_law_k", "_law_place"]
theorem sc__law_house : FnScope N__law_house ["_law_left_here", "_law_d", "_law_sizes"] (defScope s__law_house) := ⟨rfl, rfl, rfl, by decide +kernel, rfl, by decide +kernel, by decide +kernel⟩
theorem nd__law_house_0 : ("_law_i" :: N__law_house : List Str).Nodup := by decide +kernel
theorem nd__law_house_1 : ("_law_way" :: N__law_house : List Str).Nodup := by decide +kernel
def t_house : TF := fun ds n Q => ∃ (d : Nat) (sz : List Int) (b : Nat), ds = [.st, .int d, numsD sz] ∧ n = 2 ∧ 1 ≤ d ∧ d ≤ 4 ∧ 1 ≤ sz.length ∧ sz.length ≤ 20 ∧ b ≤ 60 ∧ (∀ s ∈ sz, 0 ≤ s ∧ s ≤ b) ∧ ∀ ts : List Thing, GoodT d ts 2000 → (ts.length : Int) ∈ sz → Q (.tup [.int d, .tup (ts.map encThing)]) n
theorem ok_house {f : Addr} {fd : FuncData} (T : Blt mg) (F : Fun K "_law_house" "_law_house" s__law_house f fd) (F__law_pick : Fn P w K mg base "_law_pick" 1 2 t_pick) (F__law_number : Fn P w K mg base "_law_number" 2 2 t_number) : FnOk P w K mg base CX0 3 f fd ["_law_left_here", "_law_d", "_law_sizes"] (spD K 3 t_house) := by
  refine Fun.okD F sc__law_house (fun cdv A0 outer s H E G Z hr => (pssd_cons (psd_setComp (i := 3) sc__law_house.nd rfl (lo rfl) (own := ["_law_i"]) (M := N__law_house) (compOk (by rfl)) rfl (pid_rng T.range (pad_cons (pd_var 1) pad_nil)) (fun C s2 H2 fp => (pgd_name (i := 0) nd__law_house_0 rfl (lo rfl) (by decide))) (fun C s2 H2 fp => ptsd_nil) (fun C s2 H2 fp => (pd_fn F__law_pick (hr.mono (by decide)) rfl (pad_cons (pd_var 1) (pad_cons pd_int pad_nil)))))
    (pssd_cons (psd_set (i := 4) sc__law_house.nd rfl (lo rfl) (pd_ix ix_seq re_ix (pd_lst (pad_cons pd_int (pad_cons pd_int (pad_cons pd_int (pad_cons pd_int pad_nil))))) (pd_fn F__law_pick (hr.mono (by decide)) rfl (pad_cons (pd_var 0) (pad_cons pd_int pad_nil))) (fun _ _ => rfl)))
    (pssd_cons (psd_own (i := 5) sc__law_house.nd rfl (lo rfl) pad_nil)
    (pssd_cons (psd_set (i := 6) sc__law_house.nd rfl (lo rfl) pd_int)
    (pssd_cons (psd_for (m := 9) PassesOwn.never rfl (pid_rng T.range (pad_cons (pd_ix ix_seq re_ix (pd_var 2) (pd_fn F__law_pick (hr.mono (by decide)) rfl (pad_cons (pd_var 0) (pad_cons (pd_callB call_len_seq cr_len T.len bt_len (pad_cons (pd_var 2) pad_nil)) pad_nil))) (fun _ _ => rfl)) pad_nil)) (pgd_name (i := 7) sc__law_house.nd rfl (lo rfl) (by decide))
    (pssd_cons (psd_set (i := 6) sc__law_house.nd rfl (lo rfl) (pd_add (pd_add (pd_var 6) (pd_fn F__law_pick (hr.mono (by decide)) rfl (pad_cons (pd_var 0) (pad_cons pd_int pad_nil)))) (pd_callTy call_int1 cr_intB T.int bt_int (pad_cons (pd_cmp op_gt re_gt (pd_var 7) pd_int (nomark _)) pad_nil))))
    (pssd_cons (psd_set (i := 8) sc__law_house.nd rfl (lo rfl) (pd_callTy call_tuple_of cr_tuple T.tuple bt_tuple (pad_cons (pd_comp (own := ["_law_way"]) (M := N__law_house) (compOk (by rfl)) rfl (pid_seq rfl (pd_var 3)) (fun C s2 H2 fp => (pgd_name (i := 0) nd__law_house_1 rfl (lo rfl) (by decide))) (fun C s2 H2 fp => ptsd_nil) (fun C s2 H2 fp => (pd_fn F__law_number (hr.mono (by decide)) rfl (pad_cons (pd_var 1) (pad_cons (pd_var 0) pad_nil))))) pad_nil)))
    (pssd_cons (psd_if (PWD.pt (pwd_and (ptd_cmp op_gt re_gt (pd_var 7) pd_int (nomark _)) (pwd_and1 (ptd_cmp op_eq re_eq (pd_fn F__law_pick (hr.mono (by decide)) rfl (pad_cons (pd_var 0) (pad_cons pd_int pad_nil))) pd_int (nomark _))))) (pssd_one (psd_set (i := 8) sc__law_house.nd rfl (lo rfl) (pd_ix ix_seq re_ix (pd_ownIx (i := 5) (pd_fn F__law_pick (hr.mono (by decide)) rfl (pad_cons (pd_var 0) (pad_cons (pd_var 7) pad_nil))) (fun _ _ => rfl)) pd_int (fun _ _ => rfl)))) pssd_nil)
    (pssd_one (psd_append (i := 5) (pad_cons (pd_tup (pad_cons (pd_var 6) (pad_cons (pd_var 8) (pad_cons (pd_fn F__law_number (hr.mono (by decide)) rfl (pad_cons (pd_var 0) (pad_cons (pd_var 4) pad_nil))) pad_nil)))) pad_nil) rfl))))))
    (pssd_one (psd_frz 5 (psd_ret (pd_tup (pad_cons (pd_var 1) (pad_cons (pd_callTy call_tuple_of cr_tuple T.tuple bt_tuple (pad_cons (pd_var 5) pad_nil)) pad_nil)))))))))))) ?_
  rintro ds n Q hl ⟨d, sz, b, rfl, rfl, hd1, hd4, hs1, hs2, hb60, hs, q⟩
  have nn : notOwn (numsD sz) = true := rfl
  simp [startD, nn]
  refine ⟨by lia, comp_dem0 (rngD 0 d) 2 (fun _ e => ∃ x : Int, 0 ≤ x ∧ x < 4 ∧ e = .int x) (by rw [rng_len]; exact le_size (by lia)) (fun j d2 e2 Q' hQ' => ?_) (fun es hp => ?_)⟩
  · simp
    exact pick_intro (by decide) (by decide) fun k h0 h1 => hQ' _ ⟨k, h0, h1, rfl⟩
  · have hlw := hp.length
    rw [rng_len] at hlw
    refine pick_intro (by decide) (by decide) fun k h0 h1 => pickI (js := [0, 1, 1, 2]) 0 2 h0 (by simpa using h1) (by decide) fun kd hk0 hk1 => ?_
    simp [numsD]
    refine pick_intro (by lia) (by lia) fun k2 h2 h3 => ?_
    obtain ⟨y, ey, my⟩ := atI_lt (xs := sz.map D.int) (i := k2) h2 (by simpa using h3)
    obtain ⟨c, hc, rfl⟩ := List.mem_map.mp my
    obtain ⟨hc0, hc1⟩ := hs c hc
    refine q_rdIxL.mpr ⟨_, ey, ?_⟩
    refine ⟨c, rfl, by lia, by lia, JHs d _ _ _ _, ⟨rfl, [], 0, none, none, rfl, by lia, by lia, GoodT.nil d _, rfl⟩, ?_, ?_⟩
    · rintro i d' rho n' e ⟨rfl, ts, x, u, v, hlt, hx0, hx1, hg, rfl⟩
      obtain ⟨hi, rfl⟩ := rng_at e
      generalize hS : sAppend 5 _ = S
      have cont : ∀ (x' : Int) (p : List Int) (F : EndsD), F.nx = JHs d (some (.int d)) (some (.lst (sz.map D.int))) (some (.lst es)) (some (.int kd)) (i + 1) → x + (if i = 0 then 0 else 1) ≤ x' → x' ≤ x + 3 → p.length = d → (∀ y ∈ p, small y) →
          S F [some .st, some (.int d), some (.lst (sz.map D.int)), some (.lst es), some (.int kd), some (.own (ts.map encThing)), some (.int x'), some (.int i), some (encPlace p)] 2 := fun x' p F hF hx' hx3 hp' hps => by
        subst hS
        have np : notOwn (encPlace p) = true := rfl
        simp [np]
        refine ⟨lt_size (by lia), ?_⟩
        refine ⟨kd, rfl, rfl, fun z hz => ?_⟩
        simp [hF]
        have h00 : (0 : Int) ≤ (if i = 0 then 0 else 1) := by split <;> lia
        refine ⟨rfl, ts ++ [(x', p, z)], x', _, _, by simp [hlt], by lia, by lia, ?_, by rw [List.map_append]; rfl⟩
        rw [if_neg (by lia)]
        exact (hg.more (by lia)).snoc (by lia) (by lia) hp' hps hz
      simp
      refine pick_intro (by decide) (by decide) fun p0 g0 g1 => ?_
      have hb : (if (0 : Nat) < i then (1 : Int) else 0) = if i = 0 then 0 else 1 := by split <;> split <;> lia
      have h01 : (if i = 0 then (0 : Int) else 1) ≤ 1 := by split <;> lia
      simp
      refine comp_dem0 es 2 (fun _ e => ∃ x : Int, small x ∧ e = .int x) (le_size (by lia)) (fun j d2 e2 Q' hQ' => ?_) (fun fs hp2 => ?_)
      · have hgood := paired_mem hp _ (List.mem_of_getElem? e2)
        obtain ⟨y, _, _, rfl⟩ := hgood
        simp
        exact ⟨y, rfl, rfl, fun x hx => hQ' _ ⟨x, hx, rfl⟩⟩
      · have hlen := hp2.length
        obtain ⟨ps, rfl, hps⟩ := paired_small hp2
        rw [List.length_map] at hlen
        simp
        split
        · rename_i hpos
          refine pick_intro (by decide) (by decide) fun k3 g3 g4 => ?_
          simp
          split
          · refine pick_intro (by lia) (by lia) fun k4 g5 g6 => ?_
            obtain ⟨y, ey, my⟩ := atI_lt (xs := ts.map encThing) (i := k4) g5 (by simp; lia)
            obtain ⟨t', ht', rfl⟩ := List.mem_map.mp my
            obtain ⟨y1, p1, w1⟩ := t'
            have he := hg.each _ ht'
            refine ⟨_, rfl, _, ey, ?_⟩
            refine ⟨_, _, encPlace p1, .inr (.inl rfl), rfl, rfl, ?_⟩
            exact cont _ p1 _ rfl (by split at h01 <;> lia) (by lia) he.2.2.1 he.2.2.2.1
          · exact cont _ ps _ rfl (by split at h01 <;> lia) (by lia) (by lia) hps
        · exact cont _ ps _ rfl (by split at h01 <;> lia) (by lia) (by lia) hps
    · rintro rho n' ⟨rfl, ts, x, u, v, hlt, hx0, hx1, hg, rfl⟩
      rw [rng_len] at hlt hx1 hg
      simp
      refine q ts (hg.more ?_) (by rw [show (ts.length : Int) = c by lia]; exact hc)
      split <;> lia
end
end K33
set_option maxRecDepth 100000
set_option maxHeartbeats 1000000
namespace K33
open PySem L2 PySem.Spec PyProof.Rows
theorem SRow.lt_irr (x : SRow) : x.lt x = false := by unfold SRow.lt; rw [if_pos rfl]; simp
theorem sorted_unique {α : Type} {lt : α → α → Prop} (irr : ∀ a, ¬ lt a a) (tr : ∀ a b c, lt a b → lt b c → lt a c) : ∀ {l1 l2 : List α}, l1.Perm l2 → l1.Pairwise lt → l2.Pairwise lt → l1 = l2
  | [], l2, p, _, _ => (List.nil_perm.mp p).symm
  | a :: l1, [], p, _, _ => by simp at p
  | a :: l1, b :: l2, p, h1, h2 => by
    have ha : a ∈ b :: l2 := p.mem_iff.mp (List.mem_cons_self ..)
    have hb : b ∈ a :: l1 := p.mem_iff.mpr (List.mem_cons_self ..)
    have e : a = b := by
      rcases List.mem_cons.mp ha with h | h
      · exact h
      · rcases List.mem_cons.mp hb with h' | h'
        · exact h'.symm
        · exact absurd (tr _ _ _ ((List.pairwise_cons.mp h1).1 b h') ((List.pairwise_cons.mp h2).1 a h)) (irr a)
    subst e
    rw [sorted_unique irr tr (List.perm_cons _ |>.mp p) (List.pairwise_cons.mp h1).2 (List.pairwise_cons.mp h2).2]
def rot (i : Nat) (p : List Int) : List Int := p.drop i ++ p.take i
def rowOf (i : Nat) (t : Thing) : SRow := ⟨.t (rot i t.2.1), t.1, []⟩
theorem cut_from (xs : List D) (b : Nat) (hb : b ≤ xs.length) : cutL xs (some (b : Int)) none = xs.drop b := by
  unfold cutL
  rw [HT.sIx_nat, HT.sIx_none, Nat.min_eq_left hb, List.take_of_length_le (by rw [List.length_drop]; lia)]
theorem cut_to (xs : List D) (e : Nat) (he : e ≤ xs.length) : cutL xs none (some (e : Int)) = xs.take e := by
  unfold cutL
  rw [HT.sIx_nat, HT.sIx_none, Nat.min_eq_left he, List.drop_zero, Nat.sub_zero]
theorem perm_map {α β : Type} {f : α → β} : ∀ {l : List β} {ts : List α}, l.Perm (ts.map f) → ∃ rs : List α, rs.Perm ts ∧ l = rs.map f := by
  intro l ts h
  generalize hm : ts.map f = m at h
  induction h generalizing ts with
  | nil =>
    cases ts with
    | nil => exact ⟨[], .nil, rfl⟩
    | cons _ _ => simp at hm
  | cons x p ih =>
    cases ts with
    | nil => simp at hm
    | cons a ts =>
      obtain ⟨e1, e2⟩ := List.cons.inj hm
      obtain ⟨rs, h1, rfl⟩ := ih e2
      exact ⟨a :: rs, h1.cons a, by rw [← e1]; rfl⟩
  | swap x y l =>
    cases ts with
    | nil => simp at hm
    | cons a ts =>
      cases ts with
      | nil => simp at hm
      | cons b ts =>
        obtain ⟨e1, e2⟩ := List.cons.inj hm
        obtain ⟨e3, e4⟩ := List.cons.inj e2
        exact ⟨b :: a :: ts, .swap a b ts, by rw [← e1, ← e3, ← e4]; rfl⟩
  | trans p q ih1 ih2 =>
    obtain ⟨r2, h2, rfl⟩ := ih2 hm
    obtain ⟨r1, h1, rfl⟩ := ih1 rfl
    exact ⟨r1, h1.trans h2, rfl⟩
structure OrdT (i : Nat) (ts rs : List Thing) : Prop where
  perm : rs.Perm ts
  up : rs.Pairwise fun a b => (rowOf i a).lt (rowOf i b) = true
theorem OrdT.unique {i : Nat} {ts rs rs' : List Thing} (h : OrdT i ts rs) (h' : OrdT i ts rs') : rs = rs' := by
  refine sorted_unique (lt := fun a b => (rowOf i a).lt (rowOf i b) = true) (fun a h => by rw [SRow.lt_irr] at h; cases h) (fun a b c => SRow.lt_trans) (h.perm.trans h'.perm.symm) h.up h'.up
structure GoodU (d : Nat) (ts : List Thing) : Prop where
  each : ∀ t ∈ ts, t.2.1.length = d
  nd : (ts.map fun t => t.1).Nodup
theorem GoodT.u {d : Nat} {ts : List Thing} {x : Int} (h : GoodT d ts x) : GoodU d ts := ⟨fun t ht => (h.each t ht).2.2.1, h.nodup⟩
theorem GoodU.perm {d : Nat} {ts rs : List Thing} (h : GoodU d ts) (p : rs.Perm ts) : GoodU d rs := ⟨fun t ht => h.each t (p.mem_iff.mp ht), (p.map _).nodup_iff.mpr h.nd⟩
theorem GoodU.sub {d : Nat} {ts rs : List Thing} (h : GoodU d ts) (p : rs.Sublist ts) : GoodU d rs := ⟨fun t ht => h.each t (p.mem ht), (p.map _).nodup h.nd⟩
def nameKey (t : Thing) : Key := Sum.inl t.1
def byN (ts : List Thing) : D := .dct (ts.map nameKey) (ts.map encThing)
@[simp] theorem no_byN (ts : List Thing) : notOwn (byN ts) = true := id rfl
theorem hasK_names : ∀ {ts : List Thing} {x : Int}, x ∉ ts.map (fun t => t.1) → hasK (ts.map nameKey) (Sum.inl x) = false
  | [], x, _ => rfl
  | t :: ts, x, h => by
    have h1 : ¬ t.1 = x := fun e => h (by simp [e])
    have ih := hasK_names (ts := ts) (x := x) fun z => h (List.mem_cons_of_mem _ z)
    show (decide (nameKey t = Sum.inl x) || hasK (ts.map nameKey) (Sum.inl x)) = false
    rw [ih, Bool.or_false]
    exact decide_eq_false fun e => h1 (Sum.inl.inj e)
theorem atK_names : ∀ {ts : List Thing} {t : Thing}, t ∈ ts → (ts.map fun t => t.1).Nodup → atK (ts.map nameKey) (ts.map encThing) (Sum.inl t.1) = some (encThing t)
  | [], t, h, _ => by simp at h
  | s :: ts, t, h, hn => by
    have hn' := List.nodup_cons.mp hn
    show (if nameKey s = Sum.inl t.1 then some (encThing s) else atK (ts.map nameKey) (ts.map encThing) (Sum.inl t.1)) = _
    rcases List.mem_cons.mp h with rfl | h
    · exact if_pos rfl
    · have : ¬ nameKey s = Sum.inl t.1 := fun e => by
        have e' : s.1 = t.1 := Sum.inl.inj e
        exact hn'.1 (List.mem_map.mpr ⟨t, h, e'.symm⟩)
      rw [if_neg this]
      exact atK_names h hn'.2
def namesD (ts : List Thing) : D := .tup (ts.map fun t => .int t.1)
@[simp] theorem no_namesD (ts : List Thing) : notOwn (namesD ts) = true := id rfl
@[simp] theorem noq_place (p : List Int) : notOwn (encPlace p) = true := id rfl
@[simp] theorem noq_thing (t : Thing) : notOwn (encThing t) = true := id rfl
section
variable {P : Program} {w : World} {K : PySem.W.Frag} {mg : Str → Option Value} {base : Heap}
abbrev s_things_by_name : Stmt := top 5
abbrev N_things_by_name : List Str := ["house"]
theorem sc_things_by_name : FnScope N_things_by_name ["house"] (defScope s_things_by_name) := ⟨rfl, rfl, rfl, by decide +kernel, rfl, by decide +kernel, by decide +kernel⟩
theorem nd_things_by_name_0 : ("thing" :: N_things_by_name : List Str).Nodup := by decide +kernel
def t_tbn : TF := fun ds n Q => ∃ (dd : D) (ts : List Thing), ds = [.tup [dd, .tup (ts.map encThing)]] ∧ (ts.map fun t => t.1).Nodup ∧ ts.length ≤ 1000 ∧ Q (byN ts) n
theorem ok_tbn {f : Addr} {fd : FuncData} (T : Blt mg) (F : Fun K "things_by_name" "things_by_name" s_things_by_name f fd) : FnOk P w K mg base CX0 1 f fd ["house"] (spD K 1 t_tbn) := by
  refine Fun.okD F sc_things_by_name (fun cdv A0 outer s H E G Z hr => (pssd_one (psd_ret (pd_dcomp (own := ["thing"]) (M := N_things_by_name) (compOk (by rfl)) rfl (pid_seq rfl (pd_ix ix_seq re_ix (pd_var 0) pd_int (fun _ _ => rfl))) (fun C s2 H2 fp => (pgd_name (i := 0) nd_things_by_name_0 rfl (lo rfl) (by decide))) (fun C s2 H2 fp => ptsd_nil) (fun C s2 H2 fp => (pd_ix ix_seq re_ix (pd_var 0) pd_int (fun _ _ => rfl))) (fun C s2 H2 fp => (pd_var 0)))))) ?_
  rintro ds n Q hl ⟨dd, ts, rfl, hn, hz, q⟩
  have e1 : atI [dd, D.tup (ts.map encThing)] 1 = some (D.tup (ts.map encThing)) := rfl
  simp [startD, e1]
  refine ⟨by rw [List.length_map]; exact le_size hz, fun i ks es n' => n' = n ∧ ks = (ts.take i).map nameKey ∧ es = (ts.take i).map encThing, ⟨rfl, rfl, rfl⟩, ?_, ?_⟩
  · rintro i d ks es n' e ⟨rfl, rfl, rfl⟩
    rw [List.getElem?_map] at e
    cases et : ts[i]? with
    | none => rw [et] at e; cases e
    | some t =>
      rw [et] at e
      cases e
      have nt : notOwn (encThing t) = true := rfl
      simp [nt]
      have e2 : ∀ R : D → Prop, R (.int t.1) → rdIx (encThing t) (.int 0) R := fun R h => ⟨_, _, _, .inr (.inl rfl), rfl, rfl, h⟩
      refine e2 _ ?_
      refine ⟨_, rfl, ?_, ?_⟩
      · have hk : hasK ((ts.take i).map nameKey) (Sum.inl t.1) = false := hasK_names fun hm => by
          have h3 : (ts.take i ++ [t]).Sublist ts := by
            have : ts.take i ++ [t] = ts.take (i + 1) := by rw [List.take_add_one, et]; rfl
            rw [this]; exact List.take_sublist ..
          have h4 := (h3.map fun t => t.1).nodup hn
          rw [List.map_append, List.nodup_append] at h4
          exact h4.2.2 _ hm _ (by simp) rfl
        unfold putKs
        rw [List.map_take] at hk
        rw [if_neg (by rw [hk]; simp), List.take_add_one, List.getElem?_map, et]; rfl
      · have hk : hasK ((ts.take i).map nameKey) (Sum.inl t.1) = false := hasK_names fun hm => by
          have h3 : (ts.take i ++ [t]).Sublist ts := by
            have : ts.take i ++ [t] = ts.take (i + 1) := by rw [List.take_add_one, et]; rfl
            rw [this]; exact List.take_sublist ..
          have h4 := (h3.map fun t => t.1).nodup hn
          rw [List.map_append, List.nodup_append] at h4
          exact h4.2.2 _ hm _ (by simp) rfl
        unfold putG
        rw [List.map_take] at hk
        rw [if_neg (by rw [hk]; simp), List.take_add_one, List.getElem?_map, et]; rfl
  · rintro ks es n' ⟨rfl, rfl, rfl⟩
    rw [List.length_map, List.take_length]
    exact q
abbrev s_names_by : Stmt := top 7
abbrev N_names_by : List Str := ["things", "i"]
theorem sc_names_by : FnScope N_names_by ["things", "i"] (defScope s_names_by) := ⟨rfl, rfl, rfl, by decide +kernel, rfl, by decide +kernel, by decide +kernel⟩
theorem nd_names_by_0 : ("name" :: "place" :: "worth" :: N_names_by : List Str).Nodup := by decide +kernel
theorem nd_names_by_1 : ("turned" :: "name" :: N_names_by : List Str).Nodup := by decide +kernel
def t_names_by : TF := fun ds n Q => ∃ (i d : Nat) (ts : List Thing) (dd : D), ds = [dd, .int i] ∧ (dd = .lst (ts.map encThing) ∨ dd = .tup (ts.map encThing)) ∧ i < d ∧ d ≤ 4 ∧ GoodU d ts ∧ ts.length < 64 ∧ ∀ rs : List Thing, OrdT i ts rs → Q (namesD rs) n
theorem ok_names_by {f : Addr} {fd : FuncData} (T : Blt mg) (F : Fun K "names_by" "names_by" s_names_by f fd) : FnOk P w K mg base CX0 1 f fd ["things", "i"] (spD K 2 t_names_by) := by
  refine Fun.okD F sc_names_by (fun cdv A0 outer s H E G Z hr => (pssd_one (psd_ret (pd_callTy call_tuple_of cr_tuple T.tuple bt_tuple (pad_cons (pd_comp (own := ["turned", "name"]) (M := N_names_by) (compOk (by rfl)) rfl (pid_seq rfl (pd_callB (call_sortT hr) (cr_sortT rfl) T.sorted bt_sorted (pad_cons (pd_comp (own := ["name", "place", "worth"]) (M := N_names_by) (compOk (by rfl)) rfl (pid_seq rfl (pd_var 0)) (fun C s2 H2 fp => (pgd_tup (k := 3) rfl rfl (pgsd_cons (pgd_name (i := 0) nd_names_by_0 rfl (lo rfl) (by decide)) (pgsd_cons (pgd_name (i := 1) nd_names_by_0 rfl (lo rfl) (by decide)) (pgsd_cons (pgd_name (i := 2) nd_names_by_0 rfl (lo rfl) (by decide)) pgsd_nil))))) (fun C s2 H2 fp => ptsd_nil) (fun C s2 H2 fp => (pd_tup (pad_cons (pd_op op_catTT re_catT (pd_slT rfl (pd_var 1) (pod_some (pd_var 4)) pod_none) (pd_slT rfl (pd_var 1) pod_none (pod_some (pd_var 4)))) (pad_cons (pd_var 0) pad_nil))))) pad_nil))) (fun C s2 H2 fp => (pgd_tup (k := 2) rfl rfl (pgsd_cons (pgd_name (i := 0) nd_names_by_1 rfl (lo rfl) (by decide)) (pgsd_cons (pgd_name (i := 1) nd_names_by_1 rfl (lo rfl) (by decide)) pgsd_nil)))) (fun C s2 H2 fp => ptsd_nil) (fun C s2 H2 fp => (pd_var 1))) pad_nil))))) ?_
  rintro ds n Q hl ⟨i, d, ts, dd, rfl, hdd, hi, hd, hg, hz, q⟩
  have ndd : notOwn dd = true := by rcases hdd with rfl | rfl <;> rfl
  simp [startD, ndd]
  refine ⟨_, hdd, ?_⟩
  refine comp_mapIn encThing (fun t => (rowOf i t).d) ts (le_size (by lia)) (fun t ht R hR => ?_) ?_
  · have he := hg.each t ht
    obtain ⟨x, p, y⟩ := t
    have hp : p.length = d := he
    have c1 := cut_from (p.map D.int) i (by rw [List.length_map]; lia)
    have c2 := cut_to (p.map D.int) i (by rw [List.length_map]; lia)
    simp [encThing, encPlace, c1, c2]
    refine ⟨le_size (by lia), ?_⟩
    have e : (rowOf i (x, p, y)).d = D.tup [D.tup (List.drop i (List.map D.int p) ++ List.take i (List.map D.int p)), D.int x] := by
      show D.tup [D.tup ((rot i p).map D.int), D.int x] = _
      unfold rot
      rw [List.map_append, List.map_drop, List.map_take]
    rw [← e]
    exact hR
  · refine ⟨ts.map (rowOf i), false, by rw [List.map_map]; rfl, by rw [List.length_map]; exact hz, ?_, ?_, fun rows hp hs => ⟨_, .inl rfl, ?_⟩⟩
    · intro x hx
      obtain ⟨t, _, rfl⟩ := List.mem_map.mp hx
      rfl
    · rw [List.map_map]
      exact hg.nd
    · have hlen : rows.length = ts.length := by rw [hp.length_eq, List.length_map]
      obtain ⟨rs, hrp, rfl⟩ := perm_map hp
      rw [List.length_map] at hlen
      rw [List.map_map]
      refine comp_mapIn (SRow.d ∘ rowOf i) (fun t : Thing => .int t.1) rs (le_size (by lia)) (fun t ht R hR => ?_) ?_
      · have e : (SRow.d ∘ rowOf i) t = .tup [.tup ((rot i t.2.1).map D.int), .int t.1] := rfl
        rw [e]
        simp
        exact hR
      · simp
        exact q rs ⟨hrp, by rw [List.pairwise_map] at hs; exact hs⟩
abbrev s_names_in_order : Stmt := top 9
abbrev N_names_in_order : List Str := ["by_name", "names", "i"]
theorem sc_names_in_order : FnScope N_names_in_order ["by_name", "names", "i"] (defScope s_names_in_order) := ⟨rfl, rfl, rfl, by decide +kernel, rfl, by decide +kernel, by decide +kernel⟩
theorem nd_names_in_order_0 : ("name" :: N_names_in_order : List Str).Nodup := by decide +kernel
def t_in_order : TF := fun ds n Q => ∃ (i d : Nat) (hs ts : List Thing), ds = [byN hs, namesD ts, .int i] ∧ i < d ∧ d ≤ 4 ∧ (hs.map fun t => t.1).Nodup ∧ (∀ t ∈ ts, t ∈ hs) ∧ GoodU d ts ∧ ts.length < 64 ∧ ∀ rs : List Thing, OrdT i ts rs → Q (namesD rs) n
theorem ok_in_order {f : Addr} {fd : FuncData} (F : Fun K "names_in_order" "names_in_order" s_names_in_order f fd) (F_names_by : Fn P w K mg base "names_by" 1 2 t_names_by) : FnOk P w K mg base CX0 2 f fd ["by_name", "names", "i"] (spD K 3 t_in_order) := by
  refine Fun.okD F sc_names_in_order (fun cdv A0 outer s H E G Z hr => (pssd_one (psd_ret (pd_fn F_names_by (hr.mono (by decide)) rfl (pad_cons (pd_comp (own := ["name"]) (M := N_names_in_order) (compOk (by rfl)) rfl (pid_seq rfl (pd_var 1)) (fun C s2 H2 fp => (pgd_name (i := 0) nd_names_in_order_0 rfl (lo rfl) (by decide))) (fun C s2 H2 fp => ptsd_nil) (fun C s2 H2 fp => (pd_dix (hu_of hr) (pd_var 1) (pd_var 0) (fun _ _ => rfl)))) (pad_cons (pd_var 2) pad_nil)))))) ?_
  rintro ds n Q hl ⟨i, d, hs, ts, rfl, hi, hd, hn, hsub, hg, hz, q⟩
  simp [startD]
  refine ⟨_, .inr rfl, ?_⟩
  refine comp_mapIn (fun t : Thing => .int t.1) encThing ts (le_size (by lia)) (fun t ht R hR => ?_) ?_
  · simp
    unfold byN
    rw [q_rdDxI]
    exact ⟨_, atK_names (hsub t ht) hn, hR⟩
  · exact ⟨i, d, ts, _, rfl, .inl rfl, hi, hd, hg, hz, q⟩
abbrev s_halved_up : Stmt := top 10
abbrev N_halved_up : List Str := ["count"]
theorem sc_halved_up : FnScope N_halved_up ["count"] (defScope s_halved_up) := ⟨rfl, rfl, rfl, by decide +kernel, rfl, by decide +kernel, by decide +kernel⟩
def t_halved_up : TF := fun ds n Q => ∃ c : Nat, ds = [.int c] ∧ Q (.int (((c + 1) / 2 : Nat) : Int)) n
theorem ok_halved_up {f : Addr} {fd : FuncData} (F : Fun K "halved_up" "halved_up" s_halved_up f fd) : FnOk P w K mg base CX0 1 f fd ["count"] (spD K 1 t_halved_up) := by
  refine Fun.okD F sc_halved_up (fun cdv A0 outer s H E G Z hr => (pssd_one (psd_ret (pd_div (pd_add (pd_var 0) pd_int) pd_int)))) ?_
  rintro ds n Q hl ⟨c, rfl, q⟩
  have e : ((c : Int) + 1) / 2 = ((c + 1) / 2 : Nat) := by lia
  simp [startD]
  exact ⟨⟨by decide, by decide⟩, by rw [e]; exact q⟩
abbrev s_order_by : Stmt := top 8
abbrev N_order_by : List Str := ["house", "i"]
theorem sc_order_by : FnScope N_order_by ["house", "i"] (defScope s_order_by) := ⟨rfl, rfl, rfl, by decide +kernel, rfl, by decide +kernel, by decide +kernel⟩
def t_order_by : TF := fun ds n Q => ∃ (i d : Nat) (ts : List Thing) (dd : D), ds = [.tup [dd, .tup (ts.map encThing)], .int i] ∧ i < d ∧ d ≤ 4 ∧ GoodU d ts ∧ ts.length < 64 ∧ ∀ rs : List Thing, OrdT i ts rs → Q (namesD rs) n
theorem ok_order_by {f : Addr} {fd : FuncData} (F : Fun K "order_by" "order_by" s_order_by f fd) (F_names_by : Fn P w K mg base "names_by" 1 2 t_names_by) : FnOk P w K mg base CX0 2 f fd ["house", "i"] (spD K 2 t_order_by) := by
  refine Fun.okD F sc_order_by (fun cdv A0 outer s H E G Z hr => (pssd_one (psd_ret (pd_fn F_names_by (hr.mono (by decide)) rfl (pad_cons (pd_ix ix_seq re_ix (pd_var 0) pd_int (fun _ _ => rfl)) (pad_cons (pd_var 1) pad_nil)))))) ?_
  rintro ds n Q hl ⟨i, d, ts, dd, rfl, hi, hd, hg, hz, q⟩
  have e1 : atI [dd, D.tup (ts.map encThing)] 1 = some (D.tup (ts.map encThing)) := rfl
  simp [startD, e1]
  exact ⟨i, d, ts, _, rfl, .inr rfl, hi, hd, hg, hz, q⟩
end
end K33
set_option maxRecDepth 100000
set_option maxHeartbeats 1000000
namespace K33
open PySem L2 PySem.Spec PyProof.Rows
mutual
def sameT : D → D → Bool
  | a, .tup es => match a with
    | .tup fs => decide (fs.length = es.length) && sameTs fs es
    | _ => false
  | a, .non => isNon a
  | a, .int j => match a with
    | .int i => decide (i = j)
    | _ => false
  | _, _ => false
def sameTs : List D → List D → Bool
  | f :: fs, e :: es => sameT f e && sameTs fs es
  | _, _ => true
end
mutual
def okI : D → Nat → Bool
  | .non, _ => true
  | .int _, _ => true
  | .tup ds, k => match k with
    | 0 => false
    | k + 1 => decide (ds.length ≤ 1000) && okIs ds k
  | _, _ => false
def okIs : List D → Nat → Bool
  | [], _ => true
  | d :: ds, k => okI d k && okIs ds k
end
theorem okIs_iff : ∀ {ds : List D} {k : Nat}, okIs ds k = true ↔ ∀ d ∈ ds, okI d k = true
  | [], k => by unfold okIs; simp
  | d :: ds, k => by
    unfold okIs
    rw [Bool.and_eq_true, okIs_iff]
    simp
theorem okI_tup {ds : List D} {k : Nat} : okI (.tup ds) (k + 1) = true ↔ (ds.length ≤ 1000 ∧ ∀ d ∈ ds, okI d k = true) := by
  have e : okI (.tup ds) (k + 1) = (decide (ds.length ≤ 1000) && okIs ds k) := by rw [okI]
  rw [e, Bool.and_eq_true, decide_eq_true_iff, okIs_iff]
theorem sameTs_all : ∀ (fs es : List D), ((fs.zip es).map fun p => sameT p.1 p.2).all id = sameTs fs es
  | [], es => by cases es <;> simp [sameTs]
  | f :: fs, [] => by simp [sameTs]
  | f :: fs, e :: es => by
    unfold sameTs
    rw [List.zip_cons_cons, List.map_cons, List.all_cons, sameTs_all fs es]; rfl
theorem okI_A (d : D) (k : Nat) (h : okI d k = true) : okA d = true := by
  induction k generalizing d with
  | zero => cases d <;> first | rfl | (simp [okI] at h; done)
  | succ k ih =>
    cases d with
    | tup ds =>
      obtain ⟨h1, h2⟩ := okI_tup.mp h
      exact okA_tup.mpr ⟨h1, fun e he => ih e (h2 e he)⟩
    | non => rfl
    | int i => rfl
    | _ => simp [okI] at h
def wholeT : D → Bool
  | .int _ => true
  | _ => false
def tupOfT : D → Int → Bool
  | .tup es, j => decide ((es.length : Int) = j)
  | _, _ => false
theorem isi_own {d : D} (h : isiOk d = true) : notOwn d = true := by cases d <;> first | rfl | (simp [isiOk] at h; done)
theorem zip_dd (fs es : List D) : zipD fs es = (fs.zip es).map fun p => .tup [p.1, p.2] := by
  unfold zipD
  rw [List.map_zip_eq_zipWith]; rfl
section
variable {P : Program} {w : World} {K : PySem.W.Frag} {mg : Str → Option Value} {base : Heap}
abbrev s_is_whole : Stmt := top 1
abbrev N_is_whole : List Str := ["thing"]
theorem sc_is_whole : FnScope N_is_whole ["thing"] (defScope s_is_whole) := ⟨rfl, rfl, rfl, by decide +kernel, rfl, by decide +kernel, by decide +kernel⟩
def t_is_whole : TF := fun ds n Q => ∃ d : D, ds = [d] ∧ isiOk d = true ∧ Q (.bl (wholeT d)) n
theorem ok_is_whole {f : Addr} {fd : FuncData} (T : Blt mg) (F : Fun K "is_whole" "is_whole" s_is_whole f fd) : FnOk P w K mg base CX0 1 f fd ["thing"] (spD K 1 t_is_whole) := by
  refine Fun.okD F sc_is_whole (fun cdv A0 outer s H E G Z hr => (pssd_one (psd_ret (pd_and (pd_callB call_isi cr_isi T.isi bt_isi (pad_cons (pd_var 0) (pad_cons (pd_ty (hm := T.int) (hv := bt_int)) pad_nil))) (pd_one (pd_not (pd_callB call_isi cr_isi T.isi bt_isi (pad_cons (pd_var 0) (pad_cons (pd_ty (hm := T.bool) (hv := bt_bool)) pad_nil))))))))) ?_
  rintro ds n Q hl ⟨d, rfl, hd, q⟩
  have ho := isi_own hd
  simp [startD, ho, hd]
  cases d <;> first | (simp [isiD, wholeT] at q ⊢; exact q) | (simp [isiOk] at hd; done)
abbrev s_is_tuple_of : Stmt := top 2
abbrev N_is_tuple_of : List Str := ["thing", "length"]
theorem sc_is_tuple_of : FnScope N_is_tuple_of ["thing", "length"] (defScope s_is_tuple_of) := ⟨rfl, rfl, rfl, by decide +kernel, rfl, by decide +kernel, by decide +kernel⟩
def t_is_tuple_of : TF := fun ds n Q => ∃ (d : D) (j : Int), ds = [d, .int j] ∧ isiOk d = true ∧ Q (.bl (tupOfT d j)) n
theorem ok_is_tuple_of {f : Addr} {fd : FuncData} (T : Blt mg) (F : Fun K "is_tuple_of" "is_tuple_of" s_is_tuple_of f fd) : FnOk P w K mg base CX0 1 f fd ["thing", "length"] (spD K 2 t_is_tuple_of) := by
  refine Fun.okD F sc_is_tuple_of (fun cdv A0 outer s H E G Z hr => (pssd_one (psd_ret (pd_and (pd_callB call_isi cr_isi T.isi bt_isi (pad_cons (pd_var 0) (pad_cons (pd_ty (hm := T.tuple) (hv := bt_tuple)) pad_nil))) (pd_one (pd_cmp op_eq re_eq (pd_callB call_len_seq cr_len T.len bt_len (pad_cons (pd_var 0) pad_nil)) (pd_var 1) (nomark _))))))) ?_
  rintro ds n Q hl ⟨d, j, rfl, hd, q⟩
  have ho := isi_own hd
  simp [startD, ho, hd]
  cases d <;> first | (simp [isiD, tupOfT] at q ⊢; exact q) | (simp [isiOk] at hd; done)
abbrev s_is_same : Stmt := top 3
abbrev N_is_same : List Str := ["thing", "told"]
theorem sc_is_same : FnScope N_is_same ["thing", "told"] (defScope s_is_same) := ⟨rfl, rfl, rfl, by decide +kernel, rfl, by decide +kernel, by decide +kernel⟩
theorem nd_is_same_0 : ("part" :: "wanted" :: N_is_same : List Str).Nodup := by decide +kernel
def t_is_same : Nat → TF
  | 0 => fun _ _ _ => False
  | j + 1 => fun ds n Q => ∃ a b, ds = [a, b] ∧ okA a = true ∧ okI b j = true ∧ Q (.bl (sameT a b)) n
theorem ok_is_same {f : Addr} {fd : FuncData} (T : Blt mg) (F : Fun K "is_same" "is_same" s_is_same f fd) (hm : mg "is_same" = some (.ref f)) (hk : PySem.W.keepIn K (.ref f) = true) (hb : Binds K fd ["thing", "told"] []) (F_is_whole : Fn P w K mg base "is_whole" 1 1 t_is_whole) (F_is_tuple_of : Fn P w K mg base "is_tuple_of" 1 2 t_is_tuple_of) : ∀ j : Nat, FnOk P w K mg base CX0 (j + 1) f fd ["thing", "told"] (spD K 2 (t_is_same j)) := by
  intro j
  induction j with
  | zero => exact FnOk.botK fun ds n Q h => h
  | succ j ih =>
    have F_is_same : Fn P w K mg base "is_same" (j + 1) 2 (t_is_same j) := ⟨f, fd, _, ih, hm, hk, hb⟩
    refine Fun.okD F sc_is_same (fun cdv A0 outer s H E G Z hr => (pssd_cons (psd_if (ptd_val (pd_callB call_isi cr_isi T.isi bt_isi (pad_cons (pd_var 1) (pad_cons (pd_ty (hm := T.tuple) (hv := bt_tuple)) pad_nil)))) (pssd_one (psd_ret (pd_and (pd_fn F_is_tuple_of (hr.mono (by lia)) rfl (pad_cons (pd_var 0) (pad_cons (pd_callB call_len_seq cr_len T.len bt_len (pad_cons (pd_var 1) pad_nil)) pad_nil))) (pd_one (pd_callB (call_all rfl) cr_all T.all bt_all (pad_cons (pd_comp (own := ["part", "wanted"]) (M := N_is_same) (compOk (by rfl)) rfl (pid_zip rfl T.zip (pad_cons (pd_var 0) (pad_cons (pd_var 1) pad_nil))) (fun C s2 H2 fp => (pgd_tup (k := 2) rfl rfl (pgsd_cons (pgd_name (i := 0) nd_is_same_0 rfl (lo rfl) (by decide)) (pgsd_cons (pgd_name (i := 1) nd_is_same_0 rfl (lo rfl) (by decide)) pgsd_nil)))) (fun C s2 H2 fp => ptsd_nil) (fun C s2 H2 fp => (pd_fn F_is_same hr rfl (pad_cons (pd_var 0) (pad_cons (pd_var 1) pad_nil))))) pad_nil)))))) pssd_nil)
    (pssd_cons (psd_if (ptd_cmp op_isN re_isN (pd_var 1) pd_non (nomark _)) (pssd_one (psd_ret (pd_cmp op_isN re_isN (pd_var 0) pd_non (nomark _)))) pssd_nil)
    (pssd_one (psd_ret (pd_and (pd_fn F_is_whole (hr.mono (by lia)) rfl (pad_cons (pd_var 0) pad_nil)) (pd_one (pd_cmp op_eq re_eq (pd_var 0) (pd_var 1) (nomark _))))))))) ?_
    rintro ds n Q hl ⟨a, b, rfl, ha, hb', q⟩
    have oa := okA_own ha
    have ia := okA_isi ha
    cases b with
    | non =>
      simp [startD, isiOk, isiD, oa]
      unfold sameT at q
      exact q
    | int i =>
      simp [startD, isiOk, isiD, oa]
      refine ⟨a, rfl, ia, ?_⟩
      unfold sameT at q
      cases a with
      | int k => simp [wholeT]; exact q
      | _ => simp [wholeT]; exact q
    | tup es =>
      cases j with
      | zero => simp [okI] at hb'
      | succ j =>
        obtain ⟨h1, h2⟩ := okI_tup.mp hb'
        simp [startD, isiOk, isiD, oa]
        refine ⟨a, _, rfl, ia, ?_⟩
        unfold sameT at q
        cases a with
        | tup fs =>
          obtain ⟨hz, hall⟩ := okA_tup.mp ha
          have e1 : tupOfT (.tup fs) (es.length : Int) = decide (fs.length = es.length) := by
            show decide ((fs.length : Int) = (es.length : Int)) = _
            rw [decide_eq_decide]; lia
          rw [e1]
          replace q : Q (.bl (decide (fs.length = es.length) && sameTs fs es)) n := q
          by_cases hlen : fs.length = es.length
          · rw [decide_eq_true hlen, Bool.true_and] at q
            simp [hlen]
            rw [zip_dd]
            refine comp_mapIn (fun p : D × D => .tup [p.1, p.2]) (fun p => .bl (sameT p.1 p.2)) (fs.zip es) (Nat.le_trans (by rw [List.length_zip]; lia) (le_size hz)) (fun p hp R hR => ?_) ?_
            · obtain ⟨m1, m2⟩ := List.of_mem_zip hp
              have o1 := okA_own (hall _ m1)
              have o2 := okA_own (okI_A _ _ (h2 _ m2))
              simp [o1, o2]
              exact ⟨p.1, p.2, rfl, hall _ m1, h2 _ m2, hR⟩
            · refine ⟨(fs.zip es).map fun p => sameT p.1 p.2, by rw [List.map_map]; rfl, ?_⟩
              rw [sameTs_all]; exact q
          · rw [decide_eq_false hlen, Bool.false_and] at q
            simp [hlen]; exact q
        | _ => simp [tupOfT]; exact q
    | _ => simp [okI] at hb'
end
end K33
set_option maxRecDepth 100000
set_option maxHeartbeats 1000000
namespace K33
open PySem L2 PySem.Spec PyProof.Rows
def preL (xs : List Int) (i : Nat) : List D := (List.range (i + 1)).map fun k => D.int (xs.take k).sum
def sumsD (xs : List Int) : D := .tup (preL xs xs.length)
theorem preL_len (xs : List Int) (i : Nat) : (preL xs i).length = i + 1 := by unfold preL; simp
theorem preL_snoc (xs : List Int) (i : Nat) : preL xs (i + 1) = preL xs i ++ [.int (xs.take (i + 1)).sum] := by
  unfold preL
  rw [List.range_succ, List.map_append]; rfl
theorem atI_last {α : Type} (xs : List α) (x : α) : atI (xs ++ [x]) (-1) = some x := by
  have hl : (xs ++ [x]).length = xs.length + 1 := by simp
  unfold atI
  have : ixN (xs ++ [x]).length (-1) = some xs.length := by
    rw [hl]; unfold ixN
    rw [if_neg (by decide), if_pos (by lia)]
    congr 1; lia
  rw [this]; simp
theorem preL_last (xs : List Int) (i : Nat) : atI (preL xs i) (-1) = some (.int (xs.take i).sum) := by
  unfold preL
  rw [List.range_succ, List.map_append]; exact atI_last _ _
def lowB (os : List Thing) (h : Nat) (t : Thing) : Bool := hasK ((os.take h).map nameKey) (Sum.inl t.1)
def lowF (os : List Thing) (h : Nat) (rs : List Thing) : List Thing := rs.filter (lowB os h)
def highF (os : List Thing) (h : Nat) (rs : List Thing) : List Thing := rs.filter fun t => !lowB os h t
def markN (os : List Thing) (h : Nat) (rs : List Thing) : List Int := rs.map fun t => if lowB os h t = true then 1 else 0
def num0 (t : Thing) : D := .int (t.2.1[0]?.getD 0)
def endsD (os : List Thing) : D := .tup [(os.head?.map num0).getD .non, (os.getLast?.map num0).getD .non]
def half (os : List Thing) : Nat := (os.length + 1) / 2
def mkM : Nat → List Thing → List Thing → D
  | 0, _, _ => .non
  | f + 1, os, rs => .tup [namesD rs, endsD os, if os.length = 1 then .tup [] else sumsD (markN os (half os) rs), sumsD (rs.map fun t => t.2.2),
      if os.length = 1 then .non else mkM f (os.take (half os)) (lowF os (half os) rs), if os.length = 1 then .non else mkM f (os.drop (half os)) (highF os (half os) rs)]
theorem hasK_iff {ts : List Thing} {x : Int} : hasK (ts.map nameKey) (Sum.inl x) = true ↔ x ∈ ts.map fun t => t.1 := by
  unfold hasK
  rw [List.any_map, List.any_eq_true]
  constructor
  · rintro ⟨t, ht, e⟩
    exact List.mem_map.mpr ⟨t, ht, Sum.inl.inj (of_decide_eq_true e)⟩
  · intro h
    obtain ⟨t, ht, rfl⟩ := List.mem_map.mp h
    exact ⟨t, ht, decide_eq_true rfl⟩
theorem lowB_take {d : Nat} {os : List Thing} (hg : GoodU d os) (h : Nat) {t : Thing} (ht : t ∈ os.take h) : lowB os h t = true := hasK_iff.mpr (List.mem_map.mpr ⟨t, ht, rfl⟩)
theorem lowB_drop {d : Nat} {os : List Thing} (hg : GoodU d os) (h : Nat) {t : Thing} (ht : t ∈ os.drop h) : lowB os h t = false := by
  cases e : lowB os h t with
  | false => rfl
  | true =>
    obtain ⟨u, hu, eu⟩ := List.mem_map.mp (hasK_iff.mp e)
    have nd := hg.nd
    rw [← List.take_append_drop h os, List.map_append, List.nodup_append] at nd
    exact absurd eu (nd.2.2 _ (List.mem_map.mpr ⟨u, hu, rfl⟩) _ (List.mem_map.mpr ⟨t, ht, rfl⟩))
theorem low_os {d : Nat} {os : List Thing} (hg : GoodU d os) (h : Nat) : os.filter (lowB os h) = os.take h := by
  conv => lhs; arg 2; rw [← List.take_append_drop h os]
  rw [List.filter_append, List.filter_eq_self.mpr fun t ht => lowB_take hg h ht, List.filter_eq_nil_iff.mpr fun t ht => by rw [lowB_drop hg h ht]; simp, List.append_nil]
theorem high_os {d : Nat} {os : List Thing} (hg : GoodU d os) (h : Nat) : os.filter (fun t => !lowB os h t) = os.drop h := by
  conv => lhs; arg 2; rw [← List.take_append_drop h os]
  rw [List.filter_append, List.filter_eq_nil_iff.mpr fun t ht => by rw [lowB_take hg h ht]; simp, List.filter_eq_self.mpr fun t ht => by rw [lowB_drop hg h ht]; rfl, List.nil_append]
theorem OrdT.low {i d : Nat} {os rs : List Thing} (hg : GoodU d os) (ho : OrdT i os rs) (h : Nat) : OrdT i (os.take h) (lowF os h rs) := ⟨by rw [← low_os hg h]; exact ho.perm.filter _, ho.up.filter _⟩
theorem OrdT.high {i d : Nat} {os rs : List Thing} (hg : GoodU d os) (ho : OrdT i os rs) (h : Nat) : OrdT i (os.drop h) (highF os h rs) := ⟨by rw [← high_os hg h]; exact ho.perm.filter _, ho.up.filter _⟩
theorem atK_gen (g : Thing → D) : ∀ {ts : List Thing} {t : Thing}, t ∈ ts → (ts.map fun t => t.1).Nodup → atK (ts.map nameKey) (ts.map g) (Sum.inl t.1) = some (g t)
  | [], t, h, _ => by simp at h
  | s :: ts, t, h, hn => by
    have hn' := List.nodup_cons.mp hn
    show (if nameKey s = Sum.inl t.1 then some (g s) else atK (ts.map nameKey) (ts.map g) (Sum.inl t.1)) = _
    rcases List.mem_cons.mp h with rfl | h
    · exact if_pos rfl
    · have : ¬ nameKey s = Sum.inl t.1 := fun e => by
        have e' : s.1 = t.1 := Sum.inl.inj e
        exact hn'.1 (List.mem_map.mpr ⟨t, h, e'.symm⟩)
      rw [if_neg this]
      exact atK_gen g h hn'.2
theorem atK_some (ts : List Thing) (x : Int) : (atK (ts.map nameKey) (ts.map fun _ => D.bl true) (Sum.inl x)).isSome = hasK (ts.map nameKey) (Sum.inl x) := by
  induction ts with
  | nil => rfl
  | cons t ts ih =>
    show (if nameKey t = Sum.inl x then some (D.bl true) else atK (ts.map nameKey) (ts.map fun _ => D.bl true) (Sum.inl x)).isSome = (decide (nameKey t = Sum.inl x) || hasK (ts.map nameKey) (Sum.inl x))
    by_cases e : nameKey t = Sum.inl x
    · rw [if_pos e, decide_eq_true e]; rfl
    · rw [if_neg e, decide_eq_false e, ih, Bool.false_or]
theorem dcomp_map {own : Nat} {g : TGD} {tk tv : TD} {rho : Rho} {n : Nat} {P : D → Nat → Prop} {α : Type} (enc : α → D) (kd val : α → D) (key : α → Key) (xs : List α) (hz : xs.length ≤ sizeLine) (nd : (xs.map key).Nodup) (hkd : ∀ x, keyOf (kd x) = some (key x))
    (he : ∀ x ∈ xs, ∀ S : D → D → Nat → Prop, S (kd x) (val x) n → g (enc x) (List.replicate own none ++ rho) fun rho' => rho'.drop own = rho ∧ tk rho' n fun dk n3 => tv rho' n3 fun dv n4 => S dk dv n4)
    (hP : P (.dct (xs.map key) (xs.map val)) n) : dcompIn own g bYes tk tv rho P (xs.map enc) n := by
  refine ⟨by simpa using hz, fun i ks es n' => n' = n ∧ ks = (xs.take i).map key ∧ es = (xs.take i).map val, ⟨rfl, rfl, rfl⟩, ?_, ?_⟩
  · rintro i d ks es n' e ⟨rfl, rfl, rfl⟩
    rw [List.getElem?_map] at e
    cases ex : xs[i]? with
    | none => rw [ex] at e; cases e
    | some x =>
      rw [ex] at e
      cases e
      have hk : hasK ((xs.take i).map key) (key x) = false := by
        cases hh : hasK ((xs.take i).map key) (key x) with
        | false => rfl
        | true =>
          exfalso
          obtain ⟨k, hm, ek⟩ := List.any_eq_true.mp hh
          have h3 : ((xs.take i ++ [x]).map key).Nodup := by
            have e3 : xs.take i ++ [x] = xs.take (i + 1) := by rw [List.take_add_one, ex]; rfl
            rw [e3]; exact ((List.take_sublist ..).map _).nodup nd
          rw [List.map_append, List.nodup_append] at h3
          exact h3.2.2 _ hm _ (by simp) (of_decide_eq_true ek)
      have hs : (xs.take (i + 1)) = xs.take i ++ [x] := by rw [List.take_add_one, ex]; rfl
      have := he x (List.mem_of_getElem? ex) (fun dk dv n4 => ∃ k, keyOf dk = some k ∧ n4 = n' ∧ putKs ((xs.take i).map key) k = (xs.take (i + 1)).map key ∧ putG ((xs.take i).map key) ((xs.take i).map val) k dv = (xs.take (i + 1)).map val)
        ⟨key x, hkd x, rfl, by unfold putKs; rw [if_neg (by rw [hk]; simp), hs, List.map_append]; rfl, by unfold putG; rw [if_neg (by rw [hk]; simp), hs, List.map_append]; rfl⟩
      exact this
  · rintro ks es n' ⟨rfl, rfl, rfl⟩
    rw [List.length_map, List.take_length]
    exact hP
structure JSm (xs : List Int) (n : Nat) (i : Nat) (rho : Rho) (n' : Nat) : Prop where
  e : n' = n
  r : ∃ a : Option D, rho = [some (.lst (xs.map D.int)), some (.own (preL xs i)), a]
section
variable {P : Program} {w : World} {K : PySem.W.Frag} {mg : Str → Option Value} {base : Heap}
abbrev s_sums_of : Stmt := top 12
abbrev N_sums_of : List Str := ["numbers", "sums", "number"]
theorem sc_sums_of : FnScope N_sums_of ["numbers"] (defScope s_sums_of) := ⟨rfl, rfl, rfl, by decide +kernel, rfl, by decide +kernel, by decide +kernel⟩
def t_sums : TF := fun ds n Q => ∃ xs : List Int, ds = [.lst (xs.map D.int)] ∧ xs.length ≤ 900 ∧ Q (sumsD xs) n
theorem ok_sums {f : Addr} {fd : FuncData} (T : Blt mg) (F : Fun K "sums_of" "sums_of" s_sums_of f fd) : FnOk P w K mg base CX0 1 f fd ["numbers"] (spD K 1 t_sums) := by
  refine Fun.okD F sc_sums_of (fun cdv A0 outer s H E G Z hr => (pssd_cons (psd_own (i := 1) sc_sums_of.nd rfl (lo rfl) (pad_cons pd_int pad_nil))
    (pssd_cons (psd_for (m := 3) PassesOwn.never rfl (pid_seq rfl (pd_var 0)) (pgd_name (i := 2) sc_sums_of.nd rfl (lo rfl) (by decide))
    (pssd_one (psd_append (i := 1) (pad_cons (pd_add (pd_ownIx (i := 1) (pd_neg pd_int) (fun _ _ => rfl)) (pd_var 2)) pad_nil) rfl)))
    (pssd_one (psd_frz 1 (psd_ret (pd_callTy call_tuple_of cr_tuple T.tuple bt_tuple (pad_cons (pd_var 1) pad_nil)))))))) ?_
  rintro ds n Q hl ⟨xs, rfl, hz, q⟩
  simp [startD]
  refine ⟨JSm xs n, ⟨rfl, none, rfl⟩, ?_, ?_⟩
  · rintro i d rho n' e ⟨rfl, a, rfl⟩
    rw [List.getElem?_map] at e
    cases ex : xs[i]? with
    | none => rw [ex] at e; cases e
    | some x =>
      rw [ex] at e
      cases e
      have hi : i < xs.length := (List.getElem?_eq_some_iff.mp ex).1
      simp
      refine ⟨lt_size (by rw [preL_len]; lia), _, preL_last xs i, ?_⟩
      simp
      refine ⟨rfl, some (.int x), ?_⟩
      rw [preL_snoc, List.take_add_one, ex]
      simp [List.sum_append]
  · rintro rho n' ⟨rfl, a, rfl⟩
    simp
    exact q
theorem sums_intro {xs : List Int} {n : Nat} {Q : D → Nat → Prop} (hz : xs.length ≤ 900) (q : Q (sumsD xs) n) : t_sums [.lst (xs.map D.int)] n Q := ⟨xs, rfl, hz, q⟩
abbrev s_marked_row : Stmt := top 13
abbrev N_marked_row : List Str := ["by_name", "names", "row", "ends", "sums", "half", "in_low", "marks"]
theorem sc_marked_row : FnScope N_marked_row ["by_name", "names"] (defScope s_marked_row) := ⟨rfl, rfl, rfl, by decide +kernel, rfl, by decide +kernel, by decide +kernel⟩
theorem nd_marked_row_0 : ("name" :: N_marked_row : List Str).Nodup := by decide +kernel
theorem nd_marked_row_1 : ("name" :: N_marked_row : List Str).Nodup := by decide +kernel
theorem nd_marked_row_2 : ("name" :: N_marked_row : List Str).Nodup := by decide +kernel
def t_mrow : Nat → TF
  | 0 => fun _ _ _ => False
  | j + 1 => fun ds n Q => ∃ hs os : List Thing, ds = [byN hs, namesD os] ∧ (hs.map fun t => t.1).Nodup ∧ (∀ t ∈ os, t ∈ hs) ∧ GoodU 2 os ∧ 1 ≤ os.length ∧ os.length < 64 ∧ os.length ≤ 2 ^ j ∧ ∀ rs, OrdT 1 os rs → Q (mkM (j + 1) os rs) n
theorem ok_mrow {f : Addr} {fd : FuncData} (T : Blt mg) (F : Fun K "marked_row" "marked_row" s_marked_row f fd) (hm : mg "marked_row" = some (.ref f)) (hk : PySem.W.keepIn K (.ref f) = true) (hb : Binds K fd ["by_name", "names"] []) (F_names_in_order : Fn P w K mg base "names_in_order" 2 3 t_in_order) (F_sums_of : Fn P w K mg base "sums_of" 1 1 t_sums) (F_halved_up : Fn P w K mg base "halved_up" 1 1 t_halved_up) : ∀ j : Nat, FnOk P w K mg base CX0 (j + 2) f fd ["by_name", "names"] (spD K 2 (t_mrow j)) := by
  intro j
  induction j with
  | zero => exact FnOk.botK fun ds n Q h => h
  | succ j ih =>
    have F_marked_row : Fn P w K mg base "marked_row" (j + 2) 2 (t_mrow j) := ⟨f, fd, _, ih, hm, hk, hb⟩
    refine Fun.okD F sc_marked_row (fun cdv A0 outer s H E G Z hr => (pssd_cons (psd_set (i := 2) sc_marked_row.nd rfl (lo rfl) (pd_fn F_names_in_order (hr.mono (by lia)) rfl (pad_cons (pd_var 0) (pad_cons (pd_var 1) (pad_cons pd_int pad_nil)))))
    (pssd_cons (psd_set (i := 3) sc_marked_row.nd rfl (lo rfl) (pd_tup (pad_cons (pd_ix ix_seq re_ix (pd_ix ix_seq re_ix (pd_dix (hu_of hr) (pd_var 0) (pd_ix ix_seq re_ix (pd_var 1) pd_int (fun _ _ => rfl)) (fun _ _ => rfl)) pd_int (fun _ _ => rfl)) pd_int (fun _ _ => rfl)) (pad_cons (pd_ix ix_seq re_ix (pd_ix ix_seq re_ix (pd_dix (hu_of hr) (pd_var 0) (pd_ix ix_seq re_ix (pd_var 1) (pd_neg pd_int) (fun _ _ => rfl)) (fun _ _ => rfl)) pd_int (fun _ _ => rfl)) pd_int (fun _ _ => rfl)) pad_nil))))
    (pssd_cons (psd_set (i := 4) sc_marked_row.nd rfl (lo rfl) (pd_fn F_sums_of (hr.mono (by lia)) rfl (pad_cons (pd_comp (own := ["name"]) (M := N_marked_row) (compOk (by rfl)) rfl (pid_seq rfl (pd_var 2)) (fun C s2 H2 fp => (pgd_name (i := 0) nd_marked_row_0 rfl (lo rfl) (by decide))) (fun C s2 H2 fp => ptsd_nil) (fun C s2 H2 fp => (pd_ix ix_seq re_ix (pd_dix (hu_of hr) (pd_var 1) (pd_var 0) (fun _ _ => rfl)) pd_int (fun _ _ => rfl)))) pad_nil)))
    (pssd_cons (psd_if (ptd_cmp op_eq re_eq (pd_callB call_len_seq cr_len T.len bt_len (pad_cons (pd_var 1) pad_nil)) pd_int (nomark _)) (pssd_one (psd_ret (pd_tup (pad_cons (pd_var 2) (pad_cons (pd_var 3) (pad_cons (pd_tup pad_nil) (pad_cons (pd_var 4) (pad_cons pd_non (pad_cons pd_non pad_nil))))))))) pssd_nil)
    (pssd_cons (psd_set (i := 5) sc_marked_row.nd rfl (lo rfl) (pd_fn F_halved_up (hr.mono (by lia)) rfl (pad_cons (pd_callB call_len_seq cr_len T.len bt_len (pad_cons (pd_var 1) pad_nil)) pad_nil)))
    (pssd_cons (psd_set (i := 6) sc_marked_row.nd rfl (lo rfl) (pd_dcomp (own := ["name"]) (M := N_marked_row) (compOk (by rfl)) rfl (pid_seq rfl (pd_slT rfl (pd_var 1) pod_none (pod_some (pd_var 5)))) (fun C s2 H2 fp => (pgd_name (i := 0) nd_marked_row_1 rfl (lo rfl) (by decide))) (fun C s2 H2 fp => ptsd_nil) (fun C s2 H2 fp => (pd_var 0)) (fun C s2 H2 fp => pd_bl)))
    (pssd_cons (psd_set (i := 7) sc_marked_row.nd rfl (lo rfl) (pd_fn F_sums_of (hr.mono (by lia)) rfl (pad_cons (pd_comp (own := ["name"]) (M := N_marked_row) (compOk (by rfl)) rfl (pid_seq rfl (pd_var 2)) (fun C s2 H2 fp => (pgd_name (i := 0) nd_marked_row_2 rfl (lo rfl) (by decide))) (fun C s2 H2 fp => ptsd_nil) (fun C s2 H2 fp => (pd_if (ptd_cmp (op_din (hu_of hr)) re_din (pd_var 0) (pd_var 7) (by with_unfolding_all rfl)) pd_int pd_int))) pad_nil)))
    (pssd_one (psd_ret (pd_tup (pad_cons (pd_var 2) (pad_cons (pd_var 3) (pad_cons (pd_var 7) (pad_cons (pd_var 4) (pad_cons (pd_fn F_marked_row hr rfl (pad_cons (pd_var 0) (pad_cons (pd_slT rfl (pd_var 1) pod_none (pod_some (pd_var 5))) pad_nil))) (pad_cons (pd_fn F_marked_row hr rfl (pad_cons (pd_var 0) (pad_cons (pd_slT rfl (pd_var 1) (pod_some (pd_var 5)) pod_none) pad_nil))) pad_nil))))))))))))))))) ?_
    rintro ds n Q hl ⟨hs, os, rfl, hn, hsub, hg, h1, hz, hj, q⟩
    simp [startD]
    refine ⟨1, 2, hs, os, rfl, by decide, by decide, hn, hsub, hg, hz, fun rs ho => ?_⟩
    replace q := q rs ho
    have hrl : rs.length = os.length := ho.perm.length_eq
    simp
    obtain ⟨o0, r0, eo⟩ : ∃ o0 r0, os = o0 :: r0 := by cases os with | nil => simp at h1 | cons o r => exact ⟨o, r, rfl⟩
    obtain ⟨q0, oL, eL⟩ : ∃ q0 oL, os = q0 ++ [oL] := by
      rcases List.eq_nil_or_concat os with h | ⟨qs, pl, h⟩
      · rw [h] at h1; simp at h1
      · exact ⟨qs, pl, by rw [h, List.concat_eq_append]⟩
    have m0 : o0 ∈ os := by rw [eo]; simp
    have mL : oL ∈ os := by rw [eL]; simp
    have dix : ∀ (t : Thing) (R : D → Prop), t ∈ os → R (encThing t) → rdDx (byN hs) (.int t.1) R := fun t R ht h => by
      unfold byN
      rw [q_rdDxI]
      exact ⟨_, atK_names (hsub t ht) hn, h⟩
    have pl0 : ∀ (t : Thing) (R : D → Prop), t ∈ os → R (num0 t) → rdIx (encThing t) (.int 1) fun d => rdIx d (.int 0) R := fun t R ht h => by
      refine ⟨_, 1, _, .inr (.inl rfl), rfl, rfl, ?_⟩
      have h2 := hg.each t ht
      refine ⟨_, 0, _, .inr (.inl rfl), rfl, atI_nat (j := 0) (by rw [List.getElem?_map, List.getElem?_eq_getElem (by lia)]; rfl), ?_⟩
      unfold num0 at h
      rw [List.getElem?_eq_getElem (show 0 < t.2.1.length by lia)] at h
      exact h
    have hE : endsD os = .tup [num0 o0, num0 oL] := by
      unfold endsD
      have e1 : os.head? = some o0 := by rw [eo]; rfl
      have e2 : os.getLast? = some oL := by rw [eL]; simp
      rw [e1, e2]; rfl
    have n0 : ∀ R : D → Prop, R (.int o0.1) → rdIx (namesD os) (.int 0) R := fun R h => ⟨_, 0, _, .inr (.inl rfl), rfl, atI_nat (j := 0) (by rw [eo]; rfl), h⟩
    have nL : ∀ R : D → Prop, R (.int oL.1) → rdIx (namesD os) (.int (-1)) R := fun R h => ⟨_, -1, _, .inr (.inl rfl), rfl, by rw [eL, List.map_append]; exact atI_last _ _, h⟩
    refine n0 _ (dix o0 _ m0 (pl0 o0 _ m0 (nL _ (dix oL _ mL (pl0 oL _ mL ?_)))))
    rw [← hE]
    refine ⟨_, .inr rfl, comp_mapIn (fun t : Thing => D.int t.1) (fun t => .int t.2.2) rs (le_size (by lia)) (fun t ht R hR => ?_) ?_⟩
    · simp
      exact dix t _ (ho.perm.mem_iff.mp ht) ⟨_, 2, _, .inr (.inl rfl), rfl, rfl, hR⟩
    · have e1 : (rs.map fun t => D.int t.2.2) = (rs.map fun t => t.2.2).map D.int := by rw [List.map_map]; rfl
      rw [e1]
      refine sums_intro (by rw [List.length_map]; lia) ?_
      have kl : ∀ R : D → Prop, R (.int (os.length : Int)) → kLen [namesD os] R := fun R h => by unfold namesD; rw [q_kLenT, List.length_map]; exact h
      have nS : notOwn (sumsD (rs.map fun t => t.2.2)) = true := id rfl
      refine kl _ ?_
      simp
      unfold mkM at q
      split
      · rename_i hl1
        have hl1' : os.length = 1 := by lia
        rw [if_pos hl1', if_pos hl1', if_pos hl1'] at q
        exact atD_mk nS q
      · rename_i hl1
        have hl1' : ¬ os.length = 1 := by lia
        rw [if_neg hl1', if_neg hl1', if_neg hl1'] at q
        refine kl _ ⟨os.length, rfl, ?_⟩
        have hh : (os.length + 1) / 2 = half os := rfl
        rw [hh]
        have hhl : half os ≤ os.length := by unfold half; lia
        have hcut1 : cutL (os.map fun t => D.int t.1) none (some ((half os : Nat) : Int)) = (os.take (half os)).map fun t => D.int t.1 := by rw [cut_to _ _ (by rw [List.length_map]; exact hhl), List.map_take]
        have hcut2 : cutL (os.map fun t => D.int t.1) (some ((half os : Nat) : Int)) none = (os.drop (half os)).map fun t => D.int t.1 := by rw [cut_from _ _ (by rw [List.length_map]; exact hhl), List.map_drop]
        refine ⟨_, rfl, ⟨_, rfl, ?_⟩⟩
        dsimp only
        rw [hcut1]
        have gt : GoodU 2 (os.take (half os)) := hg.sub (List.take_sublist ..)
        have gd : GoodU 2 (os.drop (half os)) := hg.sub (List.drop_sublist ..)
        refine dcomp_map (fun t : Thing => D.int t.1) (fun t => .int t.1) (fun _ => .bl true) nameKey (os.take (half os)) (le_size (by rw [List.length_take]; lia)) ?_ (fun t => rfl) (fun t ht S hS => ?_) ?_
        · have : (os.take (half os)).map nameKey = ((os.take (half os)).map fun t => t.1).map Sum.inl := by rw [List.map_map]; rfl
          rw [this]
          exact List.Pairwise.map _ (fun a b h e => h (Sum.inl.inj e)) gt.nd
        · simp
          exact hS
        · refine ⟨_, .inr rfl, comp_mapIn (fun t : Thing => D.int t.1) (fun t => .int (if lowB os (half os) t = true then 1 else 0)) rs (le_size (by lia)) (fun t ht R hR => ?_) ?_⟩
          · have e2 : (atK ((os.take (half os)).map nameKey) ((os.take (half os)).map fun _ => D.bl true) (Sum.inl t.1)).isSome = lowB os (half os) t := atK_some _ _
            rw [List.map_take, List.map_take] at e2
            simp [e2]
            split
            · rename_i hb
              rw [if_pos hb] at hR
              exact hR
            · rename_i hb
              rw [if_neg hb] at hR
              exact hR
          · have e3 : (rs.map fun t => D.int (if lowB os (half os) t = true then 1 else 0)) = (markN os (half os) rs).map D.int := by unfold markN; rw [List.map_map]; rfl
            rw [e3]
            refine sums_intro (by unfold markN; rw [List.length_map]; lia) ?_
            have nM : notOwn (sumsD (markN os (half os) rs)) = true := id rfl
            simp [nS, nM]
            cases j with
            | zero => simp at hj; lia
            | succ j =>
              have pw : 2 ^ (j + 1) = 2 * 2 ^ j := by rw [Nat.pow_succ]; lia
              refine ⟨_, rfl, ?_⟩
              dsimp only
              rw [hcut1]
              have hlt : (os.take (half os)).length = half os := by rw [List.length_take]; lia
              have hld : (os.drop (half os)).length = os.length - half os := by rw [List.length_drop]
              have hhalf : half os = (os.length + 1) / 2 := rfl
              refine ⟨hs, os.take (half os), rfl, hn, fun t ht => hsub t (List.mem_of_mem_take ht), gt, by lia, by lia, by lia, fun r1 o1 => ?_⟩
              refine ⟨_, rfl, ?_⟩
              dsimp only
              rw [hcut2]
              refine ⟨hs, os.drop (half os), rfl, hn, fun t ht => hsub t (List.mem_of_mem_drop ht), gd, by lia, by lia, by lia, fun r2 o2 => ?_⟩
              rw [o1.unique (ho.low hg (half os)), o2.unique (ho.high hg (half os))]
              exact q
abbrev s_marked : Stmt := top 14
abbrev N_marked : List Str := ["house"]
theorem sc_marked : FnScope N_marked ["house"] (defScope s_marked) := ⟨rfl, rfl, rfl, by decide +kernel, rfl, by decide +kernel, by decide +kernel⟩
def houseD (ts : List Thing) : D := .tup [.int 2, .tup (ts.map encThing)]
def markedD (ts os rs : List Thing) : D := if ts.length = 0 then .non else mkM 7 os rs
def t_marked : TF := fun ds n Q => ∃ ts : List Thing, ds = [houseD ts] ∧ GoodU 2 ts ∧ ts.length < 64 ∧ ∀ os rs, OrdT 0 ts os → OrdT 1 ts rs → Q (markedD ts os rs) n
theorem ord_perm {i : Nat} {ts us rs : List Thing} (p : us.Perm ts) (h : OrdT i us rs) : OrdT i ts rs := ⟨h.perm.trans p, h.up⟩
theorem ok_marked {f : Addr} {fd : FuncData} (T : Blt mg) (F : Fun K "marked" "marked" s_marked f fd) (F_things_by_name : Fn P w K mg base "things_by_name" 1 1 t_tbn) (F_order_by : Fn P w K mg base "order_by" 2 2 t_order_by) (F_marked_row : Fn P w K mg base "marked_row" 9 2 (t_mrow 7)) : FnOk P w K mg base CX0 10 f fd ["house"] (spD K 1 t_marked) := by
  refine Fun.okD F sc_marked (fun cdv A0 outer s H E G Z hr => (pssd_cons (psd_if (ptd_cmp op_eq re_eq (pd_callB call_len_seq cr_len T.len bt_len (pad_cons (pd_ix ix_seq re_ix (pd_var 0) pd_int (fun _ _ => rfl)) pad_nil)) pd_int (nomark _)) (pssd_one (psd_ret pd_non)) pssd_nil)
    (pssd_one (psd_ret (pd_fn F_marked_row (hr.mono (by decide)) rfl (pad_cons (pd_fn F_things_by_name (hr.mono (by decide)) rfl (pad_cons (pd_var 0) pad_nil)) (pad_cons (pd_fn F_order_by (hr.mono (by decide)) rfl (pad_cons (pd_var 0) (pad_cons pd_int pad_nil))) pad_nil))))))) ?_
  rintro ds n Q hl ⟨ts, rfl, hg, hz, q⟩
  have e1 : atI [D.int 2, D.tup (ts.map encThing)] 1 = some (D.tup (ts.map encThing)) := rfl
  simp [startD, houseD, e1]
  unfold markedD at q
  split
  · rename_i h0
    subst h0
    have := q [] [] ⟨.nil, .nil⟩ ⟨.nil, .nil⟩
    rw [if_pos (by rfl : ([] : List Thing).length = 0)] at this
    exact this
  · rename_i h0
    have hpos : 1 ≤ ts.length := by cases ts with | nil => exact absurd rfl h0 | cons _ _ => simp
    refine ⟨_, ts, rfl, hg.nd, by lia, 0, 2, ts, _, rfl, by decide, by decide, hg, hz, fun os ho => ?_⟩
    have hol : os.length = ts.length := ho.perm.length_eq
    refine ⟨ts, os, rfl, hg.nd, fun t ht => ho.perm.mem_iff.mp ht, hg.perm ho.perm, by lia, by lia, Nat.le_trans (show os.length ≤ 64 by lia) (by decide), fun rs hr' => ?_⟩
    have := q os rs ho (ord_perm ho.perm hr')
    rw [if_neg (by lia)] at this
    exact this
abbrev s_is_marked : Stmt := top 15
abbrev N_is_marked : List Str := ["house", "thing"]
theorem sc_is_marked : FnScope N_is_marked ["house", "thing"] (defScope s_is_marked) := ⟨rfl, rfl, rfl, by decide +kernel, rfl, by decide +kernel, by decide +kernel⟩
def t_is_marked : TF := fun ds n Q => ∃ (ts : List Thing) (a : D), ds = [houseD ts, a] ∧ okA a = true ∧ GoodU 2 ts ∧ ts.length < 64 ∧ ∀ os rs, OrdT 0 ts os → OrdT 1 ts rs → Q (.bl (sameT a (markedD ts os rs))) n
theorem okI_names (us : List Thing) (k : Nat) (h : us.length ≤ 1000) : okI (namesD us) (k + 1) = true := okI_tup.mpr ⟨by rw [List.length_map]; exact h, fun d hd => by
  obtain ⟨t, _, rfl⟩ := List.mem_map.mp hd
  simp [okI]⟩
theorem okI_sums (xs : List Int) (k : Nat) (h : xs.length ≤ 900) : okI (sumsD xs) (k + 1) = true := okI_tup.mpr ⟨by rw [preL_len]; lia, fun d hd => by
  unfold preL at hd
  obtain ⟨t, _, rfl⟩ := List.mem_map.mp hd
  simp [okI]⟩
theorem okI_ends (os : List Thing) (k : Nat) : okI (endsD os) (k + 1) = true := okI_tup.mpr ⟨by simp, fun d hd => by
  simp only [List.mem_cons, List.not_mem_nil, or_false] at hd
  rcases hd with rfl | rfl
  · cases os.head? with
    | none => simp [okI]
    | some t => simp [okI, num0]
  · cases os.getLast? with
    | none => simp [okI]
    | some t => simp [okI, num0]⟩
theorem okI_mkM : ∀ (f : Nat) (os rs : List Thing) (k : Nat), os.length ≤ 900 → rs.length ≤ 900 → okI (mkM f os rs) (f + k + 1) = true
  | 0, os, rs, k, _, _ => by unfold mkM; simp [okI]
  | f + 1, os, rs, k, h1, h2 => by
    unfold mkM
    have e : f + 1 + k + 1 = (f + k + 1) + 1 := by lia
    rw [e]
    refine okI_tup.mpr ⟨by simp, fun d hd => ?_⟩
    have lf : ∀ p : Thing → Bool, (rs.filter p).length ≤ 900 := fun p => Nat.le_trans (List.length_filter_le ..) h2
    simp only [List.mem_cons, List.not_mem_nil, or_false] at hd
    rcases hd with rfl | rfl | rfl | rfl | rfl | rfl
    · exact okI_names _ _ (by lia)
    · exact okI_ends _ _
    · split
      · exact okI_tup.mpr ⟨by simp, by simp⟩
      · exact okI_sums _ _ (by unfold markN; rw [List.length_map]; exact h2)
    · exact okI_sums _ _ (by rw [List.length_map]; exact h2)
    · split
      · simp [okI]
      · exact okI_mkM f _ _ k (by rw [List.length_take]; lia) (lf _)
    · split
      · simp [okI]
      · exact okI_mkM f _ _ k (by rw [List.length_drop]; lia) (lf _)
theorem okI_marked {ts os rs : List Thing} (h1 : os.length ≤ 900) (h2 : rs.length ≤ 900) : okI (markedD ts os rs) 8 = true := by
  unfold markedD
  split
  · simp [okI]
  · exact okI_mkM 7 os rs 0 h1 h2
theorem ok_is_marked {f : Addr} {fd : FuncData} (F : Fun K "is_marked" "is_marked" s_is_marked f fd) (F_marked : Fn P w K mg base "marked" 10 1 t_marked) (F_is_same : Fn P w K mg base "is_same" 10 2 (t_is_same 9)) : FnOk P w K mg base CX0 11 f fd ["house", "thing"] (spD K 2 t_is_marked) := by
  refine Fun.okD F sc_is_marked (fun cdv A0 outer s H E G Z hr => (pssd_one (psd_ret (pd_fn F_is_same (hr.mono (by decide)) rfl (pad_cons (pd_var 1) (pad_cons (pd_fn F_marked (hr.mono (by decide)) rfl (pad_cons (pd_var 0) pad_nil)) pad_nil)))))) ?_
  rintro ds n Q hl ⟨ts, a, rfl, ha, hg, hz, q⟩
  have oa := okA_own ha
  have nh : notOwn (houseD ts) = true := id rfl
  simp [startD, oa, nh]
  exact ⟨ts, rfl, hg, hz, fun os rs ho hr' => ⟨a, _, rfl, ha, okI_marked (by have := ho.perm.length_eq; lia) (by have := hr'.perm.length_eq; lia), q os rs ho hr'⟩⟩
end
end K33
set_option maxRecDepth 100000
set_option maxHeartbeats 1000000
namespace K33
open PySem L2 PySem.Spec PyProof.Rows
def okG (a : D) : Prop := okA a = true ∧ ∃ k, okE a k = true
theorem okG_tup {es : List D} (h : okG (.tup es)) : es.length ≤ 1000 ∧ ∀ e ∈ es, okG e := by
  obtain ⟨h1, k, h2⟩ := h
  obtain ⟨z, g⟩ := okA_tup.mp h1
  cases k with
  | zero => simp [okE] at h2
  | succ k => exact ⟨z, fun e he => ⟨g e he, k, okE_tup.mp h2 e he⟩⟩
section
variable {P : Program} {w : World} {K : PySem.W.Frag} {mg : Str → Option Value} {base : Heap}
abbrev s__law_same : Stmt := top 22
abbrev N__law_same : List Str := ["_law_found", "_law_due"]
theorem sc__law_same : FnScope N__law_same ["_law_found", "_law_due"] (defScope s__law_same) := ⟨rfl, rfl, rfl, by decide +kernel, rfl, by decide +kernel, by decide +kernel⟩
theorem nd__law_same_0 : ("_law_one" :: "_law_other" :: N__law_same : List Str).Nodup := by decide +kernel
def t_same : Nat → TF
  | 0 => fun _ _ _ => False
  | j + 1 => fun ds n Q => ∃ a b, ds = [a, b] ∧ ((okG a ∧ okI b j = true ∧ Q (.bl (sameT a b)) n) ∨ (∃ c c' : Bool, a = .bl c ∧ b = .bl c' ∧ Q (.bl (decide (c = c'))) n) ∨ (a = .dic ∧ (b = .non ∨ ∃ es, b = .tup es) ∧ Q (.bl false) n))
theorem ok_same {f : Addr} {fd : FuncData} (T : Blt mg) (F : Fun K "_law_same" "_law_same" s__law_same f fd) (hm : mg "_law_same" = some (.ref f)) (hk : PySem.W.keepIn K (.ref f) = true) (hb : Binds K fd ["_law_found", "_law_due"] []) : ∀ j : Nat, FnOk P w K mg base CX0 j f fd ["_law_found", "_law_due"] (spD K 2 (t_same j)) := by
  intro j
  induction j with
  | zero => exact FnOk.bot fun ds n Q h => h
  | succ j ih =>
    have F__law_same : Fn P w K mg base "_law_same" j 2 (t_same j) := ⟨f, fd, _, ih, hm, hk, hb⟩
    refine Fun.okD F sc__law_same (fun cdv A0 outer s H E G Z hr => (pssd_cons (psd_if (ptd_val (pd_callB call_isi2 cr_isi2 T.isi bt_isi (pad_cons (pd_var 1) (pad_cons (pd_tup (pad_cons (pd_ty (hm := T.tuple) (hv := bt_tuple)) (pad_cons (pd_ty (hm := T.list) (hv := bt_list)) pad_nil))) pad_nil)))) (pssd_cons (psd_if (ptd_cmp op_ne re_ne (pd_callB call_isi cr_isi T.isi bt_isi (pad_cons (pd_var 0) (pad_cons (pd_ty (hm := T.tuple) (hv := bt_tuple)) pad_nil))) (pd_callB call_isi cr_isi T.isi bt_isi (pad_cons (pd_var 1) (pad_cons (pd_ty (hm := T.tuple) (hv := bt_tuple)) pad_nil))) (nomark _)) (pssd_one (psd_ret pd_bl)) pssd_nil)
    (pssd_cons (psd_if (PWD.pt (pwd_or (ptd_cmp op_ne re_ne (pd_callB call_isi cr_isi T.isi bt_isi (pad_cons (pd_var 0) (pad_cons (pd_ty (hm := T.list) (hv := bt_list)) pad_nil))) (pd_callB call_isi cr_isi T.isi bt_isi (pad_cons (pd_var 1) (pad_cons (pd_ty (hm := T.list) (hv := bt_list)) pad_nil))) (nomark _)) (pwd_or1 (ptd_cmp op_ne re_ne (pd_callB call_len_seq cr_len T.len bt_len (pad_cons (pd_var 0) pad_nil)) (pd_callB call_len_seq cr_len T.len bt_len (pad_cons (pd_var 1) pad_nil)) (nomark _))))) (pssd_one (psd_ret pd_bl)) pssd_nil)
    (pssd_one (psd_ret (pd_callB (call_all rfl) cr_all T.all bt_all (pad_cons (pd_comp (own := ["_law_one", "_law_other"]) (M := N__law_same) (compOk (by rfl)) rfl (pid_zip rfl T.zip (pad_cons (pd_var 0) (pad_cons (pd_var 1) pad_nil))) (fun C s2 H2 fp => (pgd_tup (k := 2) rfl rfl (pgsd_cons (pgd_name (i := 0) nd__law_same_0 rfl (lo rfl) (by decide)) (pgsd_cons (pgd_name (i := 1) nd__law_same_0 rfl (lo rfl) (by decide)) pgsd_nil)))) (fun C s2 H2 fp => ptsd_nil) (fun C s2 H2 fp => (pd_fn F__law_same hr rfl (pad_cons (pd_var 0) (pad_cons (pd_var 1) pad_nil))))) pad_nil)))))) pssd_nil)
    (pssd_cons (psd_if (ptd_cmp op_ne re_ne (pd_callB call_isi cr_isi T.isi bt_isi (pad_cons (pd_var 0) (pad_cons (pd_ty (hm := T.bool) (hv := bt_bool)) pad_nil))) (pd_callB call_isi cr_isi T.isi bt_isi (pad_cons (pd_var 1) (pad_cons (pd_ty (hm := T.bool) (hv := bt_bool)) pad_nil))) (nomark _)) (pssd_one (psd_ret pd_bl)) pssd_nil)
    (pssd_one (psd_ret (pd_and (pd_cmp (op_deqX hr) (re_deqX rfl) (pd_callB call_isi cr_isi T.isi bt_isi (pad_cons (pd_var 0) (pad_cons (pd_ty (hm := T.str) (hv := bt_str)) pad_nil))) (pd_callB call_isi cr_isi T.isi bt_isi (pad_cons (pd_var 1) (pad_cons (pd_ty (hm := T.str) (hv := bt_str)) pad_nil))) (nomark _)) (pd_one (pd_cmp (op_deqX hr) (re_deqX rfl) (pd_var 0) (pd_var 1) (nomark _))))))))) ?_
    rintro ds n Q hl ⟨a, b, rfl, ⟨ha, hb', q⟩ | ⟨c, c', rfl, rfl, q⟩ | ⟨rfl, hb', q⟩⟩
    · have oa := okA_own ha.1
      have ia := okA_isi ha.1
      obtain ⟨hA, ka, hE⟩ := id ha
      cases b with
      | non =>
        have ex : ∃ j, okE a j = true ∧ okE .non j = true := ⟨ka, hE, by simp [okE]⟩
        cases a <;> first | (simp [okA] at hA; done) | (simp [okE] at hE; done) | (simp [startD, isiOk, isiD, isTL, -q_rdDeqM, isDicD, isNon]; first | exact ⟨ex, rfl, by simpa [eqD, sameT] using q⟩ | (simp [sameT] at q; exact q) | (refine ⟨⟨0, by simp [okE], by simp [okE]⟩, rfl, ?_⟩; simp [eqD, sameT, -q_rdDeqM, isDicD, isNon] at q ⊢; first | exact q | exact ⟨ex, rfl, by simpa [eqD, sameT] using q⟩)) | (simp [startD, isiOk, isiD, isTL, ex, bothSeq, eqD, okE, isDicD, isNon]; simp [sameT] at q; exact q)
      | int i =>
        have ex : ∃ j, okE a j = true ∧ okE (.int i) j = true := ⟨ka, hE, by simp [okE]⟩
        cases a <;> first | (simp [okA] at hA; done) | (simp [okE] at hE; done) | (simp [startD, isiOk, isiD, isTL, -q_rdDeqM, isDicD, isNon]; first | exact ⟨ex, rfl, by simpa [eqD, sameT] using q⟩ | (simp [sameT] at q; exact q) | (refine ⟨⟨0, by simp [okE], by simp [okE]⟩, rfl, ?_⟩; simp [eqD, sameT, -q_rdDeqM, isDicD, isNon] at q ⊢; first | exact q | exact ⟨ex, rfl, by simpa [eqD, sameT] using q⟩)) | (simp [startD, isiOk, isiD, isTL, ex, bothSeq, eqD, okE, isDicD, isNon]; simp [sameT] at q; exact q)
      | tup es =>
        cases j with
        | zero => simp [okI] at hb'
        | succ j =>
          obtain ⟨h1, h2⟩ := okI_tup.mp hb'
          unfold sameT at q
          cases a with
          | tup fs =>
            obtain ⟨hz, hall⟩ := okG_tup ha
            replace q : Q (.bl (decide (fs.length = es.length) && sameTs fs es)) n := q
            simp [startD, isiOk, isiD, isTL]
            by_cases hlen : fs.length = es.length
            · rw [decide_eq_true hlen, Bool.true_and] at q
              simp [hlen]
              rw [zip_dd]
              refine comp_mapIn (fun p : D × D => .tup [p.1, p.2]) (fun p => .bl (sameT p.1 p.2)) (fs.zip es) (Nat.le_trans (by rw [List.length_zip]; lia) (le_size hz)) (fun p hp R hR => ?_) ?_
              · obtain ⟨m1, m2⟩ := List.of_mem_zip hp
                have o1 := okA_own (hall _ m1).1
                have o2 := okA_own (okI_A _ _ (h2 _ m2))
                simp [o1, o2]
                exact ⟨p.1, p.2, rfl, .inl ⟨hall _ m1, h2 _ m2, hR⟩⟩
              · refine ⟨(fs.zip es).map fun p => sameT p.1 p.2, by rw [List.map_map]; rfl, ?_⟩
                rw [sameTs_all]; exact q
            · rw [decide_eq_false hlen, Bool.false_and] at q
              have hlen' : ¬ ((fs.length : Int) = (es.length : Int)) := by lia
              simp [hlen, hlen']; exact q
          | _ => first | (simp [okA] at hA; done) | (simp [okE] at hE; done) | (simp [startD, isiOk, isiD, isTL]; exact q)
      | _ => simp [okI] at hb'
    · have ex : ∃ j, okE (.bl c) j = true ∧ okE (.bl c') j = true := ⟨0, by simp [okE], by simp [okE]⟩
      simp [startD, isiOk, isiD, isTL, ex, bothSeq, eqD, okE, isDicD, isNon]
      have e : (c == c') = decide (c = c') := by cases c <;> cases c' <;> rfl
      first | (rw [e]; exact q) | exact q
    · have nd : notOwn .dic = true := okA_own (by simp [okA])
      have ex : ∃ j, okE (.bl false) j = true ∧ okE (.bl false) j = true := ⟨0, by simp [okE], by simp [okE]⟩
      rcases hb' with rfl | ⟨es, rfl⟩
      · simp [startD, nd, isiOk, isiD, isTL, ex, bothSeq, eqD, isDicD, isNon]
        exact ⟨⟨0, by simp [okE]⟩, q⟩
      · simp [startD, nd, isiOk, isiD, isTL, ex, bothSeq, eqD, isDicD, isNon]
        exact q
end
end K33
set_option maxRecDepth 100000
set_option maxHeartbeats 1000000
namespace K33
open PySem L2 PySem.Spec PyProof.Rows
def namesL (ts : List Thing) : D := .lst (ts.map fun t => .int t.1)
@[simp] theorem no_namesL (ts : List Thing) : notOwn (namesL ts) = true := id rfl
theorem inD_names (us : List Thing) (x : Int) : inD (.int x) (us.map fun t => D.int t.1) = hasK (us.map nameKey) (Sum.inl x) := by
  unfold inD hasK
  rw [List.any_map, List.any_map]
  congr 1
  funext t
  show eqD (.int t.1) (.int x) = decide (nameKey t = Sum.inl x)
  unfold eqD nameKey
  by_cases e : t.1 = x
  · rw [decide_eq_true (by rw [e])]; simp [e]
  · rw [decide_eq_false (fun z => e (Sum.inl.inj z))]; simp [e]
theorem flat_names (us : List Thing) : (us.map fun t => D.int t.1).all flatD = true := List.all_eq_true.mpr fun d hd => by
  obtain ⟨t, _, rfl⟩ := List.mem_map.mp hd
  rfl
theorem pairD_map (kf : Thing → Key) (g : Thing → D) : ∀ ts : List Thing, pairD (ts.map kf) (ts.map g) = ts.map fun t => .tup [kD (kf t), g t]
  | [] => rfl
  | t :: ts => by
    show D.tup [kD (kf t), g t] :: pairD (ts.map kf) (ts.map g) = _
    rw [pairD_map kf g ts]; rfl
theorem nd_keys {ts : List Thing} (h : (ts.map fun t => t.1).Nodup) : (ts.map nameKey).Nodup := by
  have : ts.map nameKey = (ts.map fun t => t.1).map Sum.inl := by rw [List.map_map]; rfl
  rw [this]
  exact List.Pairwise.map _ (fun a b h e => h (Sum.inl.inj e)) h
theorem cutL_to (xs : List D) (e : Nat) : cutL xs none (some (e : Int)) = xs.take e := by
  unfold cutL
  rw [HT.sIx_nat, HT.sIx_none, List.drop_zero, Nat.sub_zero]
  by_cases h : e ≤ xs.length
  · rw [Nat.min_eq_left h]
  · rw [Nat.min_eq_right (by lia), List.take_of_length_le (by lia), List.take_of_length_le (by lia)]
theorem rngD_rng (m : Nat) : rngD 0 m = (List.range m).map fun i => .int (i : Int) := by unfold rngD; simp
theorem count_sum (p : Thing → Bool) : ∀ l : List Thing, ((l.filter p).length : Int) = (l.map fun t => if p t = true then (1 : Int) else 0).sum
  | [] => rfl
  | t :: l => by
    have ih := count_sum p l
    rw [List.map_cons, List.sum_cons, ← ih]
    by_cases h : p t = true
    · rw [List.filter_cons_of_pos h, if_pos h, List.length_cons]; lia
    · rw [List.filter_cons_of_neg h, if_neg h]; lia
section
variable {P : Program} {w : World} {K : PySem.W.Frag} {mg : Str → Option Value} {base : Heap}
abbrev s__law_marked : Stmt := top 23
abbrev N__law_marked : List Str := ["_law_house_here", "_law_row", "_law_names", "_law_places", "_law_worths", "_law_ends", "_law_sums", "_law_many", "_law_lower", "_law_marks", "_law_low", "_law_high"]
theorem sc__law_marked : FnScope N__law_marked ["_law_house_here", "_law_row", "_law_names"] (defScope s__law_marked) := ⟨rfl, rfl, rfl, by decide +kernel, rfl, by decide +kernel, by decide +kernel⟩
theorem nd__law_marked_0 : ("_law_name" :: "_law_place" :: "_law_worth" :: N__law_marked : List Str).Nodup := by decide +kernel
theorem nd__law_marked_1 : ("_law_name" :: "_law_place" :: "_law_worth" :: N__law_marked : List Str).Nodup := by decide +kernel
theorem nd__law_marked_2 : ("_law_k" :: N__law_marked : List Str).Nodup := by decide +kernel
theorem nd__law_marked_3 : ("_law_name" :: ("_law_k" :: N__law_marked) : List Str).Nodup := by decide +kernel
theorem nd__law_marked_4 : ("_law_k" :: N__law_marked : List Str).Nodup := by decide +kernel
theorem nd__law_marked_5 : ("_law_name" :: ("_law_k" :: N__law_marked) : List Str).Nodup := by decide +kernel
theorem nd__law_marked_6 : ("_law_name" :: N__law_marked : List Str).Nodup := by decide +kernel
theorem nd__law_marked_7 : ("_law_name" :: N__law_marked : List Str).Nodup := by decide +kernel
def t_lmarked : Nat → TF
  | 0 => fun _ _ _ => False
  | j + 1 => fun ds n Q => ∃ ts os rs : List Thing, ds = [houseD ts, namesL rs, namesL os] ∧ (ts.map fun t => t.1).Nodup ∧ ts.length < 64 ∧ (∀ t ∈ os, t ∈ ts) ∧ GoodU 2 os ∧ 1 ≤ os.length ∧ os.length < 64 ∧ os.length ≤ 2 ^ j ∧ rs.Perm os ∧ Q (mkM (j + 1) os rs) n
theorem ok_lmarked {f : Addr} {fd : FuncData} (T : Blt mg) (T2 : Blt2 mg) (T3 : Blt3 mg) (F : Fun K "_law_marked" "_law_marked" s__law_marked f fd) (hm : mg "_law_marked" = some (.ref f)) (hk : PySem.W.keepIn K (.ref f) = true) (hb : Binds K fd ["_law_house_here", "_law_row", "_law_names"] []) : ∀ j : Nat, FnOk P w K mg base CX0 j f fd ["_law_house_here", "_law_row", "_law_names"] (spD K 3 (t_lmarked j)) := by
  intro j
  induction j with
  | zero => exact FnOk.bot fun ds n Q h => h
  | succ j ih =>
    have F__law_marked : Fn P w K mg base "_law_marked" j 3 (t_lmarked j) := ⟨f, fd, _, ih, hm, hk, hb⟩
    refine Fun.okD F sc__law_marked (fun cdv A0 outer s H E G Z hr => (pssd_cons (psd_set (i := 3) sc__law_marked.nd rfl (lo rfl) (pd_callTy (call_dictP rfl) cr_dictP T3.dict bt_dict (pad_cons (pd_comp (own := ["_law_name", "_law_place", "_law_worth"]) (M := N__law_marked) (compOk (by rfl)) rfl (pid_seq rfl (pd_ix ix_seq re_ix (pd_var 0) pd_int (fun _ _ => rfl))) (fun C s2 H2 fp => (pgd_tup (k := 3) rfl rfl (pgsd_cons (pgd_name (i := 0) nd__law_marked_0 rfl (lo rfl) (by decide)) (pgsd_cons (pgd_name (i := 1) nd__law_marked_0 rfl (lo rfl) (by decide)) (pgsd_cons (pgd_name (i := 2) nd__law_marked_0 rfl (lo rfl) (by decide)) pgsd_nil))))) (fun C s2 H2 fp => ptsd_nil) (fun C s2 H2 fp => (pd_tup (pad_cons (pd_var 0) (pad_cons (pd_var 1) pad_nil))))) pad_nil)))
    (pssd_cons (psd_set (i := 4) sc__law_marked.nd rfl (lo rfl) (pd_callTy (call_dictP rfl) cr_dictP T3.dict bt_dict (pad_cons (pd_comp (own := ["_law_name", "_law_place", "_law_worth"]) (M := N__law_marked) (compOk (by rfl)) rfl (pid_seq rfl (pd_ix ix_seq re_ix (pd_var 0) pd_int (fun _ _ => rfl))) (fun C s2 H2 fp => (pgd_tup (k := 3) rfl rfl (pgsd_cons (pgd_name (i := 0) nd__law_marked_1 rfl (lo rfl) (by decide)) (pgsd_cons (pgd_name (i := 1) nd__law_marked_1 rfl (lo rfl) (by decide)) (pgsd_cons (pgd_name (i := 2) nd__law_marked_1 rfl (lo rfl) (by decide)) pgsd_nil))))) (fun C s2 H2 fp => ptsd_nil) (fun C s2 H2 fp => (pd_tup (pad_cons (pd_var 0) (pad_cons (pd_var 2) pad_nil))))) pad_nil)))
    (pssd_cons (psd_set (i := 5) sc__law_marked.nd rfl (lo rfl) (pd_tup (pad_cons (pd_ix ix_seq re_ix (pd_dix (hu_of hr) (pd_var 3) (pd_ix ix_seq re_ix (pd_var 2) pd_int (fun _ _ => rfl)) (fun _ _ => rfl)) pd_int (fun _ _ => rfl)) (pad_cons (pd_ix ix_seq re_ix (pd_dix (hu_of hr) (pd_var 3) (pd_ix ix_seq re_ix (pd_var 2) (pd_neg pd_int) (fun _ _ => rfl)) (fun _ _ => rfl)) pd_int (fun _ _ => rfl)) pad_nil))))
    (pssd_cons (psd_set (i := 6) sc__law_marked.nd rfl (lo rfl) (pd_callTy call_tuple_of cr_tuple T.tuple bt_tuple (pad_cons (pd_comp (own := ["_law_k"]) (M := N__law_marked) (compOk (by rfl)) rfl (pid_rng T.range (pad_cons (pd_add (pd_callB call_len_seq cr_len T.len bt_len (pad_cons (pd_var 1) pad_nil)) pd_int) pad_nil)) (fun C s2 H2 fp => (pgd_name (i := 0) nd__law_marked_2 rfl (lo rfl) (by decide))) (fun C s2 H2 fp => ptsd_nil) (fun C s2 H2 fp => (pd_callB (call_sum rfl) cr_sum T2.sum bt_sum (pad_cons (pd_comp (own := ["_law_name"]) (M := ("_law_k" :: N__law_marked)) (compOk (by rfl)) rfl (pid_seq rfl (pd_slV rfl (pd_var 2) pod_none (pod_some (pd_var 0)))) (fun C s2 H2 fp => (pgd_name (i := 0) nd__law_marked_3 rfl (lo rfl) (by decide))) (fun C s2 H2 fp => ptsd_nil) (fun C s2 H2 fp => (pd_dix (hu_of hr) (pd_var 6) (pd_var 0) (fun _ _ => rfl)))) pad_nil)))) pad_nil)))
    (pssd_cons (psd_if (ptd_cmp op_eq re_eq (pd_callB call_len_seq cr_len T.len bt_len (pad_cons (pd_var 1) pad_nil)) pd_int (nomark _)) (pssd_one (psd_ret (pd_tup (pad_cons (pd_callTy call_tuple_of cr_tuple T.tuple bt_tuple (pad_cons (pd_var 1) pad_nil)) (pad_cons (pd_var 5) (pad_cons (pd_tup pad_nil) (pad_cons (pd_var 6) (pad_cons pd_non (pad_cons pd_non pad_nil))))))))) pssd_nil)
    (pssd_cons (psd_set (i := 7) sc__law_marked.nd rfl (lo rfl) (pd_div (pd_add (pd_callB call_len_seq cr_len T.len bt_len (pad_cons (pd_var 2) pad_nil)) pd_int) pd_int))
    (pssd_cons (psd_set (i := 8) sc__law_marked.nd rfl (lo rfl) (pd_slV rfl (pd_var 2) pod_none (pod_some (pd_var 7))))
    (pssd_cons (psd_set (i := 9) sc__law_marked.nd rfl (lo rfl) (pd_callTy call_tuple_of cr_tuple T.tuple bt_tuple (pad_cons (pd_comp (own := ["_law_k"]) (M := N__law_marked) (compOk (by rfl)) rfl (pid_rng T.range (pad_cons (pd_add (pd_callB call_len_seq cr_len T.len bt_len (pad_cons (pd_var 1) pad_nil)) pd_int) pad_nil)) (fun C s2 H2 fp => (pgd_name (i := 0) nd__law_marked_4 rfl (lo rfl) (by decide))) (fun C s2 H2 fp => ptsd_nil) (fun C s2 H2 fp => (pd_callB call_len_seq cr_len T.len bt_len (pad_cons (pd_comp (own := ["_law_name"]) (M := ("_law_k" :: N__law_marked)) (compOk (by rfl)) rfl (pid_seq rfl (pd_slV rfl (pd_var 2) pod_none (pod_some (pd_var 0)))) (fun C s2 H2 fp => (pgd_name (i := 0) nd__law_marked_5 rfl (lo rfl) (by decide))) (fun C s2 H2 fp => (ptsd_one (ptd_cmp op_in_seq (re_in (neg := false)) (pd_var 0) (pd_var 10) (by with_unfolding_all rfl)))) (fun C s2 H2 fp => (pd_var 0))) pad_nil)))) pad_nil)))
    (pssd_cons (psd_set (i := 10) sc__law_marked.nd rfl (lo rfl) (pd_fn F__law_marked hr rfl (pad_cons (pd_var 0) (pad_cons (pd_comp (own := ["_law_name"]) (M := N__law_marked) (compOk (by rfl)) rfl (pid_seq rfl (pd_var 1)) (fun C s2 H2 fp => (pgd_name (i := 0) nd__law_marked_6 rfl (lo rfl) (by decide))) (fun C s2 H2 fp => (ptsd_one (ptd_cmp op_in_seq (re_in (neg := false)) (pd_var 0) (pd_var 9) (by with_unfolding_all rfl)))) (fun C s2 H2 fp => (pd_var 0))) (pad_cons (pd_var 8) pad_nil)))))
    (pssd_cons (psd_set (i := 11) sc__law_marked.nd rfl (lo rfl) (pd_fn F__law_marked hr rfl (pad_cons (pd_var 0) (pad_cons (pd_comp (own := ["_law_name"]) (M := N__law_marked) (compOk (by rfl)) rfl (pid_seq rfl (pd_var 1)) (fun C s2 H2 fp => (pgd_name (i := 0) nd__law_marked_7 rfl (lo rfl) (by decide))) (fun C s2 H2 fp => (ptsd_one (ptd_cmp op_notIn_seq (re_in (neg := true)) (pd_var 0) (pd_var 9) (by with_unfolding_all rfl)))) (fun C s2 H2 fp => (pd_var 0))) (pad_cons (pd_slV rfl (pd_var 2) (pod_some (pd_var 7)) pod_none) pad_nil)))))
    (pssd_one (psd_ret (pd_tup (pad_cons (pd_callTy call_tuple_of cr_tuple T.tuple bt_tuple (pad_cons (pd_var 1) pad_nil)) (pad_cons (pd_var 5) (pad_cons (pd_var 9) (pad_cons (pd_var 6) (pad_cons (pd_var 10) (pad_cons (pd_var 11) pad_nil)))))))))))))))))))) ?_
    rintro ds n Q hl ⟨ts, os, rs, rfl, hn, htz, hsub, hg, h1, hz, hj, hp, q⟩
    have hrl : rs.length = os.length := hp.length_eq
    have e1 : atI [D.int 2, D.tup (ts.map encThing)] 1 = some (D.tup (ts.map encThing)) := rfl
    have nh : notOwn (houseD ts) = true := id rfl
    have h1' : ∀ R : D → Prop, R (.tup (ts.map encThing)) → rdIx (houseD ts) (.int 1) R := fun R h => ⟨_, 1, _, .inr (.inl rfl), rfl, e1, h⟩
    simp [startD, nh]
    refine h1' _ ⟨_, .inr rfl, comp_mapIn encThing (fun t => .tup [.int t.1, encPlace t.2.1]) ts (le_size (by lia)) (fun t ht R hR => ?_) ?_⟩
    · have np : notOwn (encPlace t.2.1) = true := id rfl
      simp [encThing, np]
      exact hR
    · have ep : (ts.map fun t => D.tup [D.int t.1, encPlace t.2.1]) = pairD (ts.map nameKey) (ts.map fun t => encPlace t.2.1) := (pairD_map nameKey (fun t => encPlace t.2.1) ts).symm
      refine ⟨ts.map nameKey, ts.map fun t => encPlace t.2.1, by rw [ep], by simp, nd_keys hn, ?_⟩
      simp [nh]
      refine h1' _ ⟨_, .inr rfl, comp_mapIn encThing (fun t => .tup [.int t.1, .int t.2.2]) ts (le_size (by lia)) (fun t ht R hR => ?_) ?_⟩
      · simp [encThing]
        exact hR
      · have ew : (ts.map fun t => D.tup [D.int t.1, D.int t.2.2]) = pairD (ts.map nameKey) (ts.map fun t => D.int t.2.2) := (pairD_map nameKey (fun t => D.int t.2.2) ts).symm
        refine ⟨ts.map nameKey, ts.map fun t => D.int t.2.2, by rw [ew], by simp, nd_keys hn, ?_⟩
        simp
        obtain ⟨o0, r0, eo⟩ : ∃ o0 r0, os = o0 :: r0 := by cases os with | nil => simp at h1 | cons o r => exact ⟨o, r, rfl⟩
        obtain ⟨q0, oL, eL⟩ : ∃ q0 oL, os = q0 ++ [oL] := by
          rcases List.eq_nil_or_concat os with h | ⟨qs, pl, h⟩
          · rw [h] at h1; simp at h1
          · exact ⟨qs, pl, by rw [h, List.concat_eq_append]⟩
        have m0 : o0 ∈ os := by rw [eo]; simp
        have mL : oL ∈ os := by rw [eL]; simp
        have dix : ∀ (g : Thing → D) (t : Thing) (R : D → Prop), t ∈ os → R (g t) → rdDx (.dct (ts.map nameKey) (ts.map g)) (.int t.1) R := fun g t R ht h => by
          rw [q_rdDxI]
          exact ⟨_, atK_gen g (hsub t ht) hn, h⟩
        have pl0 : ∀ (t : Thing) (R : D → Prop), t ∈ os → R (num0 t) → rdIx (encPlace t.2.1) (.int 0) R := fun t R ht h => by
          have h2 := hg.each t ht
          refine ⟨_, 0, _, .inr (.inl rfl), rfl, atI_nat (j := 0) (by rw [List.getElem?_map, List.getElem?_eq_getElem (by lia)]; rfl), ?_⟩
          unfold num0 at h
          rw [List.getElem?_eq_getElem (show 0 < t.2.1.length by lia)] at h
          exact h
        have hE : endsD os = .tup [num0 o0, num0 oL] := by
          unfold endsD
          have e1 : os.head? = some o0 := by rw [eo]; rfl
          have e2 : os.getLast? = some oL := by rw [eL]; simp
          rw [e1, e2]; rfl
        have n0 : ∀ R : D → Prop, R (.int o0.1) → rdIx (namesL os) (.int 0) R := fun R h => ⟨_, 0, _, .inl rfl, rfl, atI_nat (j := 0) (by rw [eo]; rfl), h⟩
        have nL : ∀ R : D → Prop, R (.int oL.1) → rdIx (namesL os) (.int (-1)) R := fun R h => ⟨_, -1, _, .inl rfl, rfl, by rw [eL, List.map_append]; exact atI_last _ _, h⟩
        refine n0 _ (dix _ o0 _ m0 (pl0 o0 _ m0 (nL _ (dix _ oL _ mL (pl0 oL _ mL ?_)))))
        rw [← hE]
        have klr : ∀ R : D → Prop, R (.int (os.length : Int)) → kLen [namesL rs] R := fun R h => by unfold namesL; rw [q_kLenL, List.length_map, hrl]; exact h
        have klo : ∀ R : D → Prop, R (.int (os.length : Int)) → kLen [namesL os] R := fun R h => by unfold namesL; rw [q_kLenL, List.length_map]; exact h
        refine klr _ ?_
        simp
        refine ⟨by lia, by lia, ?_⟩
        rw [rngD_rng]
        have hwl : (rs.map fun t => t.2.2).length = os.length := by rw [List.length_map, hrl]
        refine comp_mapIn (fun i : Nat => D.int (i : Int)) (fun k => .int ((rs.map fun t => t.2.2).take k).sum) (List.range (os.length + 1)) (by rw [List.length_range]; exact le_size (by lia)) (fun k hk' R hR => ?_) ?_
        · simp
          refine ⟨_, .inl rfl, ?_⟩
          dsimp only
          rw [cutL_to, ← List.map_take]
          refine comp_mapIn (fun t : Thing => D.int t.1) (fun t => .int t.2.2) (rs.take k) (le_size (by rw [List.length_take]; lia)) (fun t ht R2 hR2 => ?_) ?_
          · simp
            exact ⟨_, atK_gen (fun t => D.int t.2.2) (hsub t (hp.mem_iff.mp (List.mem_of_mem_take ht))) hn, hR2⟩
          · refine ⟨(rs.take k).map fun t => t.2.2, by rw [List.map_map]; rfl, ?_⟩
            rw [List.map_take]; exact hR
        · have es : ((List.range (os.length + 1)).map fun k => D.int ((rs.map fun t => t.2.2).take k).sum) = preL (rs.map fun t => t.2.2) (rs.map fun t => t.2.2).length := by rw [hwl]; rfl
          rw [es]
          simp only [q_kTupleL]
          have eS : D.tup (preL (rs.map fun t => t.2.2) (rs.map fun t => t.2.2).length) = sumsD (rs.map fun t => t.2.2) := rfl
          rw [eS]
          have nS : notOwn (sumsD (rs.map fun t => t.2.2)) = true := id rfl
          refine klr _ ?_
          have ktr : ∀ R : D → Prop, R (namesD rs) → kTuple [namesL rs] R := fun R h => q_kTupleL.mpr h
          simp
          unfold mkM at q
          split
          · rename_i hl1
            have hl1' : os.length = 1 := by lia
            rw [if_pos hl1', if_pos hl1', if_pos hl1'] at q
            exact ktr _ (atD_mk nS q)
          · rename_i hl1
            have hl1' : ¬ os.length = 1 := by lia
            rw [if_neg hl1', if_neg hl1', if_neg hl1'] at q
            refine klo _ ?_
            have eh : ((os.length : Int) + 1) / 2 = ((half os : Nat) : Int) := by unfold half; lia
            simp
            rw [eh]
            refine ⟨⟨by decide, by decide⟩, _, .inl rfl, ?_⟩
            dsimp only
            rw [cutL_to, ← List.map_take]
            have eLow : D.lst ((os.take (half os)).map fun t => .int t.1) = namesL (os.take (half os)) := rfl
            rw [eLow]
            have rin : ∀ (neg : Bool) (t : Thing) (R : D → Prop), R (.bl (lowB os (half os) t != neg)) → rdIn neg (.int t.1) (namesL (os.take (half os))) R := fun neg t R h => by
              refine ⟨rfl, _, .inr rfl, flat_names _, ?_⟩
              rw [inD_names]
              cases neg
              · rw [Bool.bne_false] at h; exact h
              · rw [Bool.bne_true] at h; exact h
            refine klr _ ?_
            simp
            refine ⟨by lia, by lia, ?_⟩
            rw [rngD_rng]
            have hml : (markN os (half os) rs).length = os.length := by unfold markN; rw [List.length_map, hrl]
            refine comp_mapIn (fun i : Nat => D.int (i : Int)) (fun k => .int ((markN os (half os) rs).take k).sum) (List.range (os.length + 1)) (by rw [List.length_range]; exact le_size (by lia)) (fun k hk' R hR => ?_) ?_
            · simp
              refine ⟨_, .inl rfl, ?_⟩
              dsimp only
              rw [cutL_to, ← List.map_take]
              refine comp_filtIn (fun t : Thing => D.int t.1) (lowB os (half os)) (fun t => .int t.1) (rs.take k) (le_size (by rw [List.length_take]; lia)) (fun t ht R2 S2 hA hB => ?_) ?_
              · simp
                refine rin false t _ ?_
                cases hc : lowB os (half os) t with
                | true => simp; exact hA hc
                | false => simp; exact hB hc
              · have ec := count_sum (lowB os (half os)) (rs.take k)
                unfold markN at hR
                rw [← List.map_take, ← ec] at hR
                rw [q_kLenL, List.length_map]
                exact hR
            · have es : ((List.range (os.length + 1)).map fun k => D.int ((markN os (half os) rs).take k).sum) = preL (markN os (half os) rs) (markN os (half os) rs).length := by rw [hml]; rfl
              rw [es]
              simp only [q_kTupleL]
              have eM : D.tup (preL (markN os (half os) rs) (markN os (half os) rs).length) = sumsD (markN os (half os) rs) := rfl
              rw [eM]
              have nM : notOwn (sumsD (markN os (half os) rs)) = true := id rfl
              cases j with
              | zero => simp at hj; lia
              | succ j =>
                have pw : 2 ^ (j + 1) = 2 * 2 ^ j := by rw [Nat.pow_succ]; lia
                have gt : GoodU 2 (os.take (half os)) := hg.sub (List.take_sublist ..)
                have gd : GoodU 2 (os.drop (half os)) := hg.sub (List.drop_sublist ..)
                have hlt : (os.take (half os)).length = half os := by unfold half; rw [List.length_take]; lia
                have hld : (os.drop (half os)).length = os.length - half os := by rw [List.length_drop]
                have hhalf : half os = (os.length + 1) / 2 := rfl
                have nMk : ∀ (f : Nat) (a b : List Thing), notOwn (mkM f a b) = true := fun f a b => by cases f <;> rfl
                refine ⟨_, .inl rfl, comp_filtIn (fun t : Thing => D.int t.1) (lowB os (half os)) (fun t => .int t.1) rs (le_size (by lia)) (fun t ht R2 S2 hA hB => ?_) ?_⟩
                · simp
                  refine rin false t _ ?_
                  cases hc : lowB os (half os) t with
                  | true => simp; exact hA hc
                  | false => simp; exact hB hc
                · refine ⟨ts, os.take (half os), lowF os (half os) rs, rfl, hn, htz, fun t ht => hsub t (List.mem_of_mem_take ht), gt, by lia, by lia, by lia, by rw [← low_os hg (half os)]; exact hp.filter _, ?_⟩
                  have n1 := nMk (j + 1) (os.take (half os)) (lowF os (half os) rs)
                  refine ⟨_, .inl rfl, comp_filtIn (fun t : Thing => D.int t.1) (fun t => !lowB os (half os) t) (fun t => .int t.1) rs (le_size (by lia)) (fun t ht R2 S2 hA hB => ?_) ?_⟩
                  · simp
                    refine rin true t _ ?_
                    cases hc : lowB os (half os) t with
                    | true => simp; exact hB (by rw [hc]; rfl)
                    | false => simp; exact hA (by rw [hc]; rfl)
                  · refine ⟨_, .inl rfl, ?_⟩
                    dsimp only
                    rw [cut_from _ _ (by rw [List.length_map]; lia), ← List.map_drop]
                    refine ⟨ts, os.drop (half os), highF os (half os) rs, rfl, hn, htz, fun t ht => hsub t (List.mem_of_mem_drop ht), gd, by lia, by lia, by lia, by rw [← high_os hg (half os)]; exact hp.filter _, ?_⟩
                    have n2 := nMk (j + 1) (os.drop (half os)) (highF os (half os) rs)
                    exact ktr _ (atD_mk nM (atD_mk nS (atD_mk n1 (atD_mk n2 q))))
theorem rot0 (p : List Int) : rot 0 p = p := by unfold rot; simp
theorem rot1 {p : List Int} (h : p.length = 2) : rot 1 p = p.reverse := by
  match p, h with
  | [a, b], _ => rfl
abbrev s__law_tree : Stmt := top 24
abbrev N__law_tree : List Str := ["_law_house_here", "_law_names", "_law_row"]
theorem sc__law_tree : FnScope N__law_tree ["_law_house_here"] (defScope s__law_tree) := ⟨rfl, rfl, rfl, by decide +kernel, rfl, by decide +kernel, by decide +kernel⟩
theorem nd__law_tree_0 : ("_law_name" :: "_law_place" :: "_law_worth" :: N__law_tree : List Str).Nodup := by decide +kernel
theorem nd__law_tree_1 : ("_law_place" :: "_law_name" :: N__law_tree : List Str).Nodup := by decide +kernel
theorem nd__law_tree_2 : ("_law_name" :: "_law_place" :: "_law_worth" :: N__law_tree : List Str).Nodup := by decide +kernel
theorem nd__law_tree_3 : ("_law_place" :: "_law_name" :: N__law_tree : List Str).Nodup := by decide +kernel
def t_tree : TF := fun ds n Q => ∃ ts : List Thing, ds = [houseD ts] ∧ GoodU 2 ts ∧ ts.length < 64 ∧ ∀ os rs, OrdT 0 ts os → OrdT 1 ts rs → Q (markedD ts os rs) n
theorem ok_tree {f : Addr} {fd : FuncData} (T : Blt mg) (F : Fun K "_law_tree" "_law_tree" s__law_tree f fd) (F__law_marked : Fn P w K mg base "_law_marked" 7 3 (t_lmarked 7)) : FnOk P w K mg base CX0 8 f fd ["_law_house_here"] (spD K 1 t_tree) := by
  refine Fun.okD F sc__law_tree (fun cdv A0 outer s H E G Z hr => (pssd_cons (psd_if (ptd_cmp (op_teq hr) re_teq (pd_ix ix_seq re_ix (pd_var 0) pd_int (fun _ _ => rfl)) (pd_tup pad_nil) (nomark _)) (pssd_one (psd_ret pd_non)) pssd_nil)
    (pssd_cons (psd_setComp (i := 1) sc__law_tree.nd rfl (lo rfl) (own := ["_law_place", "_law_name"]) (M := N__law_tree) (compOk (by rfl)) rfl (pid_seq rfl (pd_callB (call_sortT hr) (cr_sortT rfl) T.sorted bt_sorted (pad_cons (pd_comp (own := ["_law_name", "_law_place", "_law_worth"]) (M := N__law_tree) (compOk (by rfl)) rfl (pid_seq rfl (pd_ix ix_seq re_ix (pd_var 0) pd_int (fun _ _ => rfl))) (fun C s2 H2 fp => (pgd_tup (k := 3) rfl rfl (pgsd_cons (pgd_name (i := 0) nd__law_tree_0 rfl (lo rfl) (by decide)) (pgsd_cons (pgd_name (i := 1) nd__law_tree_0 rfl (lo rfl) (by decide)) (pgsd_cons (pgd_name (i := 2) nd__law_tree_0 rfl (lo rfl) (by decide)) pgsd_nil))))) (fun C s2 H2 fp => ptsd_nil) (fun C s2 H2 fp => (pd_tup (pad_cons (pd_var 1) (pad_cons (pd_var 0) pad_nil))))) pad_nil))) (fun C s2 H2 fp => (pgd_tup (k := 2) rfl rfl (pgsd_cons (pgd_name (i := 0) nd__law_tree_1 rfl (lo rfl) (by decide)) (pgsd_cons (pgd_name (i := 1) nd__law_tree_1 rfl (lo rfl) (by decide)) pgsd_nil)))) (fun C s2 H2 fp => ptsd_nil) (fun C s2 H2 fp => (pd_var 1)))
    (pssd_cons (psd_setComp (i := 2) sc__law_tree.nd rfl (lo rfl) (own := ["_law_place", "_law_name"]) (M := N__law_tree) (compOk (by rfl)) rfl (pid_seq rfl (pd_callB (call_sortT hr) (cr_sortT rfl) T.sorted bt_sorted (pad_cons (pd_comp (own := ["_law_name", "_law_place", "_law_worth"]) (M := N__law_tree) (compOk (by rfl)) rfl (pid_seq rfl (pd_ix ix_seq re_ix (pd_var 0) pd_int (fun _ _ => rfl))) (fun C s2 H2 fp => (pgd_tup (k := 3) rfl rfl (pgsd_cons (pgd_name (i := 0) nd__law_tree_2 rfl (lo rfl) (by decide)) (pgsd_cons (pgd_name (i := 1) nd__law_tree_2 rfl (lo rfl) (by decide)) (pgsd_cons (pgd_name (i := 2) nd__law_tree_2 rfl (lo rfl) (by decide)) pgsd_nil))))) (fun C s2 H2 fp => ptsd_nil) (fun C s2 H2 fp => (pd_tup (pad_cons (pd_rev rfl (pd_var 1)) (pad_cons (pd_var 0) pad_nil))))) pad_nil))) (fun C s2 H2 fp => (pgd_tup (k := 2) rfl rfl (pgsd_cons (pgd_name (i := 0) nd__law_tree_3 rfl (lo rfl) (by decide)) (pgsd_cons (pgd_name (i := 1) nd__law_tree_3 rfl (lo rfl) (by decide)) pgsd_nil)))) (fun C s2 H2 fp => ptsd_nil) (fun C s2 H2 fp => (pd_var 1)))
    (pssd_one (psd_ret (pd_fn F__law_marked (hr.mono (by decide)) rfl (pad_cons (pd_var 0) (pad_cons (pd_var 2) (pad_cons (pd_var 1) pad_nil)))))))))) ?_
  rintro ds n Q hl ⟨ts, rfl, hg, hz, q⟩
  have e1 : atI [D.int 2, D.tup (ts.map encThing)] 1 = some (D.tup (ts.map encThing)) := rfl
  have nh : notOwn (houseD ts) = true := id rfl
  have h1' : ∀ R : D → Prop, R (.tup (ts.map encThing)) → rdIx (houseD ts) (.int 1) R := fun R h => ⟨_, 1, _, .inr (.inl rfl), rfl, e1, h⟩
  simp [startD, nh]
  refine h1' _ ?_
  unfold markedD at q
  simp
  split
  · rename_i h0
    subst h0
    have := q [] [] ⟨.nil, .nil⟩ ⟨.nil, .nil⟩
    rw [if_pos (by rfl : ([] : List Thing).length = 0)] at this
    exact this
  · rename_i h0
    have hpos : 1 ≤ ts.length := by cases ts with | nil => exact absurd rfl h0 | cons _ _ => simp
    have srt : ∀ (i : Nat) (R : D → Prop), (∀ rs, OrdT i ts rs → R (.lst (rs.map fun t => (rowOf i t).d))) → kSortT [.lst (ts.map fun t => (rowOf i t).d)] R := fun i R h => by
      refine ⟨ts.map (rowOf i), false, by rw [List.map_map]; rfl, by rw [List.length_map]; exact hz, ?_, ?_, fun rows hp hs => ?_⟩
      · intro x hx
        obtain ⟨t, _, rfl⟩ := List.mem_map.mp hx
        rfl
      · rw [List.map_map]
        exact hg.nd
      · obtain ⟨rs, hrp, rfl⟩ := perm_map hp
        have := h rs ⟨hrp, by rw [List.pairwise_map] at hs; exact hs⟩
        rw [List.map_map]
        exact this
    refine h1' _ ⟨_, .inr rfl, comp_mapIn encThing (fun t => (rowOf 0 t).d) ts (le_size (by lia)) (fun t ht R hR => ?_) (srt 0 _ fun os ho => ⟨_, .inl rfl, ?_⟩)⟩
    · have np : notOwn (encPlace t.2.1) = true := id rfl
      simp [encThing, np]
      have e : (rowOf 0 t).d = D.tup [encPlace t.2.1, D.int t.1] := by
        show D.tup [D.tup ((rot 0 t.2.1).map D.int), D.int t.1] = _
        rw [rot0]; rfl
      rw [← e]; exact hR
    · have hol : os.length = ts.length := ho.perm.length_eq
      refine comp_mapIn (fun t : Thing => (rowOf 0 t).d) (fun t => .int t.1) os (le_size (by lia)) (fun t ht R hR => ?_) ?_
      · have e : (rowOf 0 t).d = .tup [.tup ((rot 0 t.2.1).map D.int), .int t.1] := rfl
        rw [e]
        simp
        exact hR
      · have eL : D.lst (os.map fun t => .int t.1) = namesL os := rfl
        rw [eL]
        refine h1' _ ⟨_, .inr rfl, comp_mapIn encThing (fun t => (rowOf 1 t).d) ts (le_size (by lia)) (fun t ht R hR => ?_) (srt 1 _ fun rs hrs => ⟨_, .inl rfl, ?_⟩)⟩
        · simp [encThing]
          refine ⟨_, rfl, ?_⟩
          dsimp only
          have e : (rowOf 1 t).d = D.tup [D.tup (t.2.1.map D.int).reverse, D.int t.1] := by
            show D.tup [D.tup ((rot 1 t.2.1).map D.int), D.int t.1] = _
            rw [rot1 (hg.each t ht), List.map_reverse]
          rw [← e]; exact hR
        · have hrl : rs.length = ts.length := hrs.perm.length_eq
          refine comp_mapIn (fun t : Thing => (rowOf 1 t).d) (fun t => .int t.1) rs (le_size (by lia)) (fun t ht R hR => ?_) ?_
          · have e : (rowOf 1 t).d = .tup [.tup ((rot 1 t.2.1).map D.int), .int t.1] := rfl
            rw [e]
            simp
            exact hR
          · have eL2 : D.lst (rs.map fun t => .int t.1) = namesL rs := rfl
            rw [eL2]
            refine atD_mk (no_namesL _) (atD_mk (no_namesL _) ?_)
            have z := q os rs ho hrs
            rw [if_neg (by lia)] at z
            exact ⟨ts, os, rs, rfl, hg.nd, hz, fun t ht => ho.perm.mem_iff.mp ht, hg.perm ho.perm, by lia, by lia, Nat.le_trans (show os.length ≤ 64 by lia) (by decide), hrs.perm.trans ho.perm.symm, z⟩
end
end K33
set_option maxRecDepth 100000
set_option maxHeartbeats 1000000
namespace K33
open PySem L2 PySem.Spec PyProof.Rows
inductive Bw (g : Nat) : Nat → D → Prop
  | non {k : Nat} : Bw g k .non
  | bl {k : Nat} (b : Bool) : Bw g k (.bl b)
  | int {k : Nat} {i : Int} (h : i.natAbs ≤ 100000000000000000000 + g) : Bw g k (.int i)
  | str {k : Nat} {x : Str} (h : (reprText x).length ≤ 2000) : Bw g k (.str x)
  | tup {k : Nat} {es : List D} (z : es.length ≤ 30 + 2 * g) (h : ∀ e ∈ es, Bw g k e) : Bw g (k + 1) (.tup es)
  | lst {k : Nat} {es : List D} (z : es.length ≤ 30 + 2 * g) (h : ∀ e ∈ es, Bw g k e) : Bw g (k + 1) (.lst es)
theorem log_le {i : Int} {g : Nat} (hg : g ≤ 100) (h : i.natAbs ≤ 100000000000000000000 + g) : i.natAbs.log2 < 70 := by
  by_cases h0 : i.natAbs = 0
  · rw [h0]; decide +kernel
  · exact (Nat.log2_lt h0).mpr (by lia)
theorem Bw.R {g k : Nat} {a : D} (hg : g ≤ 100) (h : Bw g k a) : okR a k = true := by
  induction h with
  | non => simp [okR]
  | bl => simp [okR]
  | int h => have := log_le hg h; unfold okR; exact decide_eq_true (by lia)
  | str h => unfold okR; exact decide_eq_true h
  | tup z h ih => exact okR_tup.mpr ih
  | lst z h ih => exact okR_lst.mpr ih
theorem Bw.A {g k : Nat} {a : D} (hg : g ≤ 100) (h : Bw g k a) : okA a = true := by
  induction h with
  | non => simp [okA]
  | bl => simp [okA]
  | int h => simp [okA]
  | str h => simp [okA]
  | tup z h ih => exact okA_tup.mpr ⟨by lia, ih⟩
  | lst z h ih => unfold okA; rw [Bool.and_eq_true, decide_eq_true_iff]; exact ⟨by lia, okAs_iff.mpr ih⟩
theorem Bw.E {g k : Nat} {a : D} (h : Bw g k a) : okE a k = true := by
  induction h with
  | non => simp [okE]
  | bl => simp [okE]
  | int h => simp [okE]
  | str h => simp [okE]
  | tup z h ih => exact okE_tup.mpr ih
  | lst z h ih => exact okE_lst.mpr ih
theorem Bw.up {g k : Nat} {a : D} (h : Bw g k a) : ∀ {g' m : Nat}, g ≤ g' → k ≤ m → Bw g' m a := by
  induction h with
  | non => exact fun _ _ => .non
  | bl b => exact fun _ _ => .bl b
  | int h => exact fun hg _ => .int (by lia)
  | str h => exact fun _ _ => .str h
  | tup z h ih =>
    intro g' m hg hm
    cases m with
    | zero => lia
    | succ m => exact .tup (by lia) fun e he => ih e he hg (by lia)
  | lst z h ih =>
    intro g' m hg hm
    cases m with
    | zero => lia
    | succ m => exact .lst (by lia) fun e he => ih e he hg (by lia)
theorem Bw.at {g k : Nat} {es : List D} (h : Bw g (k + 1) (.tup es)) : es.length ≤ 30 + 2 * g ∧ ∀ e ∈ es, Bw g k e := by
  cases h with
  | tup z h => exact ⟨z, h⟩
def Bn (g k m : Nat) (a : D) : Prop := Bw g k a ∧ nodR a ≤ m
theorem Bn.up {g k m g' k' m' : Nat} {a : D} (h : Bn g k m a) (h0 : g ≤ g') (h1 : k ≤ k') (h2 : m ≤ m') : Bn g' k' m' a := ⟨h.1.up h0 h1, Nat.le_trans h.2 h2⟩
theorem Bn.no {g k m : Nat} {a : D} (hg : g ≤ 100) (h : Bn g k m a) : notOwn a = true := okA_own (h.1.A hg)
theorem Bn.rx {g k m : Nat} {a : D} (hg : g ≤ 100) (h : Bn g k m a) (hk : k ≤ 40) (hm : m ≤ 8000) : okRX a := by
  obtain ⟨w, n⟩ := h
  have r := (w.up (Nat.le_refl _) hk).R hg
  cases w with
  | non => exact .inr (.inr (.inr (.inr (.inl rfl))))
  | bl b => exact .inl ⟨b, rfl⟩
  | int h => exact .inr (.inl ⟨_, rfl, by have := log_le hg h; lia⟩)
  | str h => exact .inr (.inr (.inl ⟨_, rfl, h⟩))
  | tup z h => exact .inr (.inr (.inr (.inr (.inr ⟨rfl, r, by lia⟩))))
  | lst z h => exact .inr (.inr (.inr (.inr (.inr ⟨rfl, r, by lia⟩))))
theorem Bn.okG {g k m : Nat} {a : D} (hg : g ≤ 100) (h : Bn g k m a) : okG a := ⟨h.1.A hg, _, h.1.E⟩
theorem nod1 {g : Nat} {a : D} (h : Bw g 0 a) : nodR a = 1 := by
  cases h <;> simp [nodR]
theorem nodRs_app : ∀ xs ys : List D, nodRs (xs ++ ys) = nodRs xs + nodRs ys
  | [], ys => by simp [nodRs]
  | x :: xs, ys => by rw [List.cons_append]; simp only [nodRs, nodRs_app xs ys]; lia
theorem nodRs_sub {xs ys : List D} (h : xs.Sublist ys) : nodRs xs ≤ nodRs ys := by
  induction h with
  | slnil => exact Nat.le_refl _
  | cons a h ih => simp only [nodRs]; lia
  | cons_cons a h ih => simp only [nodRs]; lia
theorem nodRs_rev : ∀ xs : List D, nodRs xs.reverse = nodRs xs
  | [] => rfl
  | x :: xs => by rw [List.reverse_cons, nodRs_app, nodRs_rev xs]; simp only [nodRs]; lia
theorem cut_sub (es : List D) (a b : Option Int) : (cutL es a b).Sublist es := (List.take_sublist ..).trans (List.drop_sublist ..)
theorem cut_mem {es : List D} {a b : Option Int} {d : D} (h : d ∈ cutL es a b) : d ∈ es := (cut_sub es a b).mem h
theorem cut_len (es : List D) (a b : Option Int) : (cutL es a b).length ≤ es.length := (cut_sub es a b).length_le
theorem cut_last (es : List D) : (cutL es (some (-1)) none).length ≤ 1 := by
  unfold cutL
  rw [List.length_take, List.length_drop]
  have e : HT.sIx es.length 0 (some (-1)) = es.length - 1 := by
    show (if (-1 : Int) < 0 then ((-1 : Int) + (es.length : Int)).toNat else min (-1 : Int).toNat es.length) = _
    rw [if_pos (by decide)]; lia
  rw [e, HT.sIx_none]
  lia
theorem ix_of {es : List D} {k : Int} {R : D → Prop} (h0 : 0 ≤ k) (h1 : k < es.length) (h : ∀ d ∈ es, R d) : rdIx (.lst es) (.int k) R := by
  obtain ⟨d, e, m⟩ := atI_lt h0 h1
  exact ⟨_, k, d, .inl rfl, rfl, e, h d m⟩
theorem ofString_signs (x : String) : ∀ c ∈ (Str.ofString x).cps.toList, c < 16 ^ 8 := fun c hc => by
  have e : (Str.ofString x).cps.toList = x.toList.map Char.toNat := by
    rw [Str.ofString_eq_toList]
  rw [e] at hc
  obtain ⟨d, _, rfl⟩ := List.mem_map.mp hc
  have := d.val.toNat_lt
  show d.val.toNat < _
  lia
theorem repr_ofString (x : String) (h : x.length ≤ 190) : (reprText (Str.ofString x)).length ≤ 2000 := by
  have := StrLaws.reprText_len (Str.ofString x) (ofString_signs x)
  rw [PySem.ofString_length] at this
  lia
section
variable {P : Program} {w : World} {K : PySem.W.Frag} {mg : Str → Option Value} {base : Heap}
abbrev s__law_number_bent : Stmt := top 25
abbrev N__law_number_bent : List Str := ["_law_left_here", "_law_number_here"]
theorem sc__law_number_bent : FnScope N__law_number_bent ["_law_left_here", "_law_number_here"] (defScope s__law_number_bent) := ⟨rfl, rfl, rfl, by decide +kernel, rfl, by decide +kernel, by decide +kernel⟩
def t_nbent : TF := fun ds n Q => ∃ (g : Nat) (a : D) (i : Int), ds = [.st, a] ∧ n = 2 ∧ Bw g 0 a ∧ numB a = some i ∧ i.natAbs ≤ 100000000000000000000 + g ∧ g ≤ 50 ∧ ∀ b, Bn (g + 1) 1 2 b → Q b n
theorem ok_nbent {f : Addr} {fd : FuncData} (T : Blt mg) (F : Fun K "_law_number_bent" "_law_number_bent" s__law_number_bent f fd) (F__law_pick : Fn P w K mg base "_law_pick" 1 2 t_pick) : FnOk P w K mg base CX0 2 f fd ["_law_left_here", "_law_number_here"] (spD K 2 t_nbent) := by
  refine Fun.okD F sc__law_number_bent (fun cdv A0 outer s H E G Z hr => (pssd_one (psd_ret (pd_ix ix_seq re_ix (pd_lst (pad_cons (pd_op op_addNB re_NB (pd_var 1) pd_int) (pad_cons (pd_op op_subNB re_NB (pd_var 1) pd_int) (pad_cons (pd_cmp (op_deq hr) (re_deq rfl) (pd_var 1) pd_int (nomark _)) (pad_cons (pd_negB (pd_var 1)) (pad_cons pd_non (pad_cons (pd_tup (pad_cons (pd_var 1) pad_nil)) (pad_cons (pd_callTy (call_strB hr) cr_strB T.str bt_str (pad_cons (pd_var 1) pad_nil)) (pad_cons pd_int pad_nil))))))))) (pd_fn F__law_pick (hr.mono (by decide)) rfl (pad_cons (pd_var 0) (pad_cons pd_int pad_nil))) (fun _ _ => rfl))))) ?_
  rintro ds n Q hl ⟨g, a, i, rfl, rfl, hw, hi, hb, hg, q⟩
  have no : notOwn a = true := okA_own (hw.A (by lia))
  have one : ∀ c : D, Bw (g + 1) 0 c → Bn (g + 1) 1 2 c := fun c h => ⟨h.up (Nat.le_refl _) (by lia), by rw [nod1 h]; lia⟩
  have hlg := log_le (show g ≤ 100 by lia) hb
  have fin : ∀ (eqb : Bool) (s : Str), (reprText s).length ≤ 2000 → ∀ k : Int, 0 ≤ k → k < 8 → rdIx (.lst [.int (i + 1), .int (i - 1), .bl eqb, .int (-i), .non, .tup [a], .str s, .int 0]) (.int k) fun d => Q d 2 := fun eqb s hs k h0 h1 => ix_of h0 (by simpa using h1) fun d hd => q d (by
    simp only [List.mem_cons, List.not_mem_nil, or_false] at hd
    rcases hd with rfl | rfl | rfl | rfl | rfl | rfl | rfl | rfl
    · exact one _ (.int (by lia))
    · exact one _ (.int (by lia))
    · exact one _ (.bl _)
    · exact one _ (.int (by lia))
    · exact one _ .non
    · refine ⟨.tup (by simp; lia) fun e he => ?_, ?_⟩
      · rw [List.mem_singleton.mp he]; exact hw.up (by lia) (Nat.le_refl _)
      · simp only [nodR, nodRs, nod1 hw]; lia
    · exact one _ (.str hs)
    · exact one _ (.int (by lia)))
  cases hw with
  | int h =>
    cases hi
    simp [startD, numB, okE, kStrB]
    refine ⟨by lia, le_size (by decide), pick_intro (by decide) (by decide) fun k h0 h1 => ?_⟩
    exact fin _ _ (repr_ofString _ (show (toString i).length ≤ 190 by have := int_text_length_le (k := 70) (by decide) hlg; lia)) k h0 h1
  | bl b =>
    cases b <;> cases hi
    · simp [startD, numB, okE, kStrB]
      exact ⟨le_size (by decide), pick_intro (by decide) (by decide) fun k h0 h1 => fin _ _ (by decide +kernel) k h0 h1⟩
    · simp [startD, numB, okE, kStrB]
      exact ⟨le_size (by decide), pick_intro (by decide) (by decide) fun k h0 h1 => fin _ _ (by decide +kernel) k h0 h1⟩
  | _ => cases hi
end
end K33
set_option maxRecDepth 100000
set_option maxHeartbeats 1000000
namespace K33
open PySem L2 PySem.Spec PyProof.Rows
section
variable {P : Program} {w : World} {K : PySem.W.Frag} {mg : Str → Option Value} {base : Heap}
abbrev s__law_bent : Stmt := top 26
abbrev N__law_bent : List Str := ["_law_left_here", "_law_thing", "_law_at", "_law_some"]
theorem sc__law_bent : FnScope N__law_bent ["_law_left_here", "_law_thing"] (defScope s__law_bent) := ⟨rfl, rfl, rfl, by decide +kernel, rfl, by decide +kernel, by decide +kernel⟩
def t_bent : Nat → TF
  | 0 => fun _ _ _ => False
  | j + 1 => fun ds n Q => ∃ (g k : Nat) (a : D), ds = [.st, a] ∧ n = 2 ∧ g ≤ 5 ∧ k ≤ j ∧ k ≤ 18 ∧ Bw g k a ∧ ∀ b, Bn (g + 1) (k + 2) (2 * nodR a + 60) b → Q b n
theorem ok_bent {f : Addr} {fd : FuncData} (T : Blt mg) (F : Fun K "_law_bent" "_law_bent" s__law_bent f fd) (hm : mg "_law_bent" = some (.ref f)) (hk : PySem.W.keepIn K (.ref f) = true) (hb : Binds K fd ["_law_left_here", "_law_thing"] []) (F__law_pick : Fn P w K mg base "_law_pick" 1 2 t_pick) (F__law_number_bent : Fn P w K mg base "_law_number_bent" 2 2 t_nbent) : ∀ j : Nat, FnOk P w K mg base CX0 (j + 2) f fd ["_law_left_here", "_law_thing"] (spD K 2 (t_bent j)) := by
  intro j
  induction j with
  | zero => exact FnOk.botK fun ds n Q h => h
  | succ j ih =>
    have F__law_bent : Fn P w K mg base "_law_bent" (j + 2) 2 (t_bent j) := ⟨f, fd, _, ih, hm, hk, hb⟩
    refine Fun.okD F sc__law_bent (fun cdv A0 outer s H E G Z hr => (pssd_cons (psd_if (ptd_not (ptd_val (pd_callB call_isi cr_isi T.isi bt_isi (pad_cons (pd_var 1) (pad_cons (pd_ty (hm := T.tuple) (hv := bt_tuple)) pad_nil))))) (pssd_one (psd_ret (pd_if (ptd_val (pd_callB call_isi cr_isi T.isi bt_isi (pad_cons (pd_var 1) (pad_cons (pd_ty (hm := T.int) (hv := bt_int)) pad_nil)))) (pd_fn F__law_number_bent (hr.mono (by lia)) rfl (pad_cons (pd_var 0) (pad_cons (pd_var 1) pad_nil))) (pd_ix ix_seq re_ix (pd_lst (pad_cons (pd_tup pad_nil) (pad_cons pd_int (pad_cons (pd_var 1) pad_nil)))) (pd_fn F__law_pick (hr.mono (by lia)) rfl (pad_cons (pd_var 0) (pad_cons pd_int pad_nil))) (fun _ _ => rfl))))) pssd_nil)
    (pssd_cons (psd_if (PWD.pt (pwd_and (ptd_cmp (op_dne hr) (re_dne rfl) (pd_var 1) (pd_tup pad_nil) (nomark _)) (pwd_and1 (ptd_cmp op_gt re_gt (pd_fn F__law_pick (hr.mono (by lia)) rfl (pad_cons (pd_var 0) (pad_cons pd_int pad_nil))) pd_int (nomark _))))) (pssd_cons (psd_set (i := 2) sc__law_bent.nd rfl (lo rfl) (pd_fn F__law_pick (hr.mono (by lia)) rfl (pad_cons (pd_var 0) (pad_cons (pd_callB call_len_seq cr_len T.len bt_len (pad_cons (pd_var 1) pad_nil)) pad_nil))))
    (pssd_one (psd_ret (pd_op op_catTT re_catT (pd_op op_catTT re_catT (pd_slT rfl (pd_var 1) pod_none (pod_some (pd_var 2))) (pd_tup (pad_cons (pd_fn F__law_bent hr rfl (pad_cons (pd_var 0) (pad_cons (pd_ix ix_seq re_ix (pd_var 1) (pd_var 2) (fun _ _ => rfl)) pad_nil))) pad_nil))) (pd_slT rfl (pd_var 1) (pod_some (pd_add (pd_var 2) pd_int)) pod_none))))) pssd_nil)
    (pssd_cons (psd_own (i := 3) sc__law_bent.nd rfl (lo rfl) (pad_cons (pd_rev rfl (pd_var 1)) (pad_cons (pd_slT rfl (pd_var 1) (pod_some pd_int) pod_none) (pad_cons (pd_slT rfl (pd_var 1) pod_none (pod_some (pd_neg pd_int))) (pad_cons (pd_op op_catTT re_catT (pd_var 1) (pd_slT rfl (pd_var 1) (pod_some (pd_neg pd_int)) pod_none)) (pad_cons (pd_callTy call_list_of cr_list T.list bt_list (pad_cons (pd_var 1) pad_nil)) (pad_cons pd_non (pad_cons (pd_tup (pad_cons (pd_var 1) pad_nil)) pad_nil))))))))
    (pssd_cons (psd_append (i := 3) (pad_cons (pd_op op_catTT re_catT (pd_slT rfl (pd_var 1) pod_none (pod_some (pd_neg pd_int))) (pd_two rfl (pd_var 1))) pad_nil) rfl)
    (pssd_one (psd_frz 3 (psd_ret (pd_ix ix_seq re_ix (pd_var 3) (pd_fn F__law_pick (hr.mono (by lia)) rfl (pad_cons (pd_var 0) (pad_cons pd_int pad_nil))) (fun _ _ => rfl)))))))))) ?_
    with_reducible generalize hR : sSeq (sOwn 3 _) _ = Rr
    rintro ds n Q hl ⟨g, k, a, rfl, rfl, hg, hkj, hk18, hw, q⟩
    have oa := okA_own (hw.A (by lia))
    have three : ∀ k3 : Int, 0 ≤ k3 → k3 < 3 → rdIx (.lst [.tup [], .int 0, a]) (.int k3) fun d => Q d 2 := fun k3 h0 h1 => ix_of h0 (by simpa using h1) fun d hd => q d (by
      simp only [List.mem_cons, List.not_mem_nil, or_false] at hd
      rcases hd with rfl | rfl | rfl
      · exact ⟨.tup (by simp) (by simp), by simp only [nodR, nodRs]; lia⟩
      · exact ⟨.int (by simp), by simp only [nodR]; lia⟩
      · exact ⟨hw.up (by lia) (by lia), by lia⟩)
    cases hw with
    | non =>
      simp [startD, isiOk, isiD]
      exact pick_intro (by decide) (by decide) three
    | str h =>
      simp [startD, isiOk, isiD]
      exact pick_intro (by decide) (by decide) three
    | lst z h =>
      simp [startD, isiOk, isiD, oa]
      exact pick_intro (by decide) (by decide) three
    | bl b =>
      simp [startD, isiOk, isiD]
      exact ⟨g, _, _, rfl, rfl, .bl b, rfl, by cases b <;> simp <;> lia, by lia, fun b hb => q b (hb.up (Nat.le_refl _) (by lia) (by lia))⟩
    | int h =>
      simp [startD, isiOk, isiD]
      exact ⟨g, _, _, rfl, rfl, .int h, rfl, h, by lia, fun b hb => q b (hb.up (Nat.le_refl _) (by lia) (by lia))⟩
    | @tup k es z h =>
      have eE : okE (.tup es) 20 = true := ((Bw.tup z h).up (Nat.le_refl _) (show k + 1 ≤ 20 by lia)).E
      have hz : es.length ≤ 40 := by lia
      have hN : nodR (.tup es) = nodRs es + 1 := by simp only [nodR]
      have hsz : ∀ m : Nat, m ≤ 100 → m ≤ sizeLine := fun m hm => le_size (by lia)
      have row : ∀ fs : List D, fs.length ≤ es.length + 2 → (∀ e ∈ fs, Bw g k e) → nodRs fs ≤ 2 * nodRs es → Bn (g + 1) (k + 1 + 2) (2 * nodR (.tup es) + 60) (.tup fs) := fun fs h1 h2 h3 => ⟨.tup (by lia) fun e he => (h2 e he).up (by lia) (by lia), by simp only [nodR]; lia⟩
      have rest : ∀ (E : EndsD) (y2 : Option D), E.rt = Q → Rr E [some .st, some (.tup es), y2, none] 2 := fun E y2 hE => by
        subst hR
        have c1 := cut_len es (some 1) none
        have c2 := cut_len es none (some (-1))
        have c3 := cut_len es (some (-1)) none
        have c4 := cut_len es none (some (-2))
        have s1 := nodRs_sub (cut_sub es (some 1) none)
        have s2 := nodRs_sub (cut_sub es none (some (-1)))
        have s3 := nodRs_sub (cut_sub es (some (-1)) none)
        have s4 := nodRs_sub (cut_sub es none (some (-2)))
        have s5 := nodRs_sub (List.take_sublist 2 es.reverse)
        rw [nodRs_rev] at s5
        have l5 : (es.reverse.take 2).length ≤ 2 := by rw [List.length_take]; lia
        simp
        refine ⟨hsz _ (by lia), hsz _ (by lia), hsz _ (by lia), pick_intro (by decide) (by decide) fun k3 h0 h1 => ix_of h0 (by simpa using h1) fun d hd => ?_⟩
        rw [hE]
        refine q d ?_
        simp only [List.mem_cons, List.not_mem_nil, or_false] at hd
        rcases hd with rfl | rfl | rfl | rfl | rfl | rfl | rfl | rfl
        · exact row _ (by rw [List.length_reverse]; lia) (fun e he => h e (List.mem_reverse.mp he)) (by rw [nodRs_rev]; lia)
        · exact row _ (by lia) (fun e he => h e (cut_mem he)) (by lia)
        · exact row _ (by lia) (fun e he => h e (cut_mem he)) (by lia)
        · refine row _ (by rw [List.length_append]; have := cut_last es; lia) (fun e he => ?_) (by rw [nodRs_app]; lia)
          rcases List.mem_append.mp he with he | he
          · exact h e he
          · exact h e (cut_mem he)
        · exact ⟨.lst (by lia) fun e he => (h e he).up (by lia) (by lia), by simp only [nodR]; lia⟩
        · exact ⟨.non, by simp only [nodR]; lia⟩
        · refine ⟨.tup (by simp; lia) fun e he => ?_, by simp only [nodR, nodRs]; lia⟩
          rw [List.mem_singleton.mp he]
          exact (Bw.tup z h).up (by lia) (by lia)
        · refine row _ (by rw [List.length_append]; lia) (fun e he => ?_) (by rw [nodRs_app]; lia)
          rcases List.mem_append.mp he with he | he
          · exact h e (cut_mem he)
          · exact h e (List.mem_reverse.mp (List.mem_of_mem_take he))
      simp [startD, isiOk, isiD, isTL, eE]
      refine ⟨by simp [okE, okEs], ?_⟩
      split
      · exact rest _ _ rfl
      · rename_i hne
        have hpos : 0 < es.length := by
          cases es with
          | nil => exact absurd (by simp [eqD, eqDs]) hne
          | cons a b => simp
        refine pick_intro (by decide) (by decide) fun p5 g0 g1 => ?_
        simp
        split
        · refine pick_intro (by lia) (by lia) fun i g2 g3 => ?_
          obtain ⟨i, rfl⟩ := Int.eq_ofNat_of_zero_le g2
          have hi : i < es.length := by lia
          have hc1 : cutL es none (some (i : Int)) = es.take i := cut_to _ _ (by lia)
          have hc2 : cutL es (some ((i : Int) + 1)) none = es.drop (i + 1) := cut_from es (i + 1) (by lia)
          have hs : nodRs es = nodRs (es.take i) + (nodR es[i] + nodRs (es.drop (i + 1))) := by
            conv => lhs; rw [← List.take_append_drop i es, nodRs_app, ← List.getElem_cons_drop hi]
            rfl
          simp [hc1, hc2]
          refine ⟨es[i], atI_nat (List.getElem?_eq_getElem hi), ?_⟩
          cases j with
          | zero => lia
          | succ j =>
            refine ⟨g, k, es[i], rfl, rfl, hg, by lia, by lia, h _ (List.getElem_mem hi), fun b hb => ?_⟩
            have m1 : ∀ e ∈ es.take i, Bw (g + 1) (k + 2) e := fun e he => (h e (List.mem_of_mem_take he)).up (by lia) (by lia)
            have m2 : ∀ e ∈ es.drop (i + 1), Bw (g + 1) (k + 2) e := fun e he => (h e (List.mem_of_mem_drop he)).up (by lia) (by lia)
            refine ⟨hsz _ (by lia), hsz _ (by lia), q _ ⟨.tup ?_ fun e he => ?_, ?_⟩⟩
            · rw [List.length_append, List.length_cons, List.length_take, List.length_drop]; lia
            · rcases List.mem_append.mp he with he | he
              · exact m1 e he
              · rcases List.mem_cons.mp he with rfl | he
                · exact hb.1
                · exact m2 e he
            · have hb2 := hb.2
              have e1 : nodR (.tup (es.take i ++ b :: es.drop (i + 1))) = nodRs (es.take i ++ b :: es.drop (i + 1)) + 1 := by simp only [nodR]
              have e2 : nodRs (b :: es.drop (i + 1)) = nodR b + nodRs (es.drop (i + 1)) := by simp only [nodRs]
              rw [e1, nodRs_app, e2]
              lia
        · exact rest _ _ rfl
end
end K33
set_option maxRecDepth 100000
set_option maxHeartbeats 1000000
namespace K33
open PySem L2 PySem.Spec PyProof.Rows
structure GoodN (ts : List Thing) : Prop where
  each : ∀ t ∈ ts, 0 ≤ t.1 ∧ t.1 < 2000 ∧ t.2.1.length = 2 ∧ (∀ x ∈ t.2.1, x.natAbs ≤ 1000000000000000001) ∧ t.2.2.natAbs ≤ 1000000000000000001
  nd : (ts.map fun t => t.1).Nodup
theorem GoodN.u {ts : List Thing} (h : GoodN ts) : GoodU 2 ts := ⟨fun t ht => (h.each t ht).2.2.1, h.nd⟩
theorem GoodT.n {ts : List Thing} (h : GoodT 2 ts 2000) : GoodN ts := ⟨fun t ht => by
  obtain ⟨h1, h2, h3, h4, h5⟩ := h.each t ht
  exact ⟨h1, h2, h3, fun x hx => by have := h4 x hx; unfold small at this; lia, by unfold small at h5; lia⟩, h.nodup⟩
theorem GoodN.put {ts : List Thing} (h : GoodN ts) {i : Nat} {t u : Thing} (e : ts[i]? = some t) (hu : u.1 = t.1) (hl : u.2.1.length = 2) (hs : ∀ x ∈ u.2.1, x.natAbs ≤ 1000000000000000001) (hw : u.2.2.natAbs ≤ 1000000000000000001) : GoodN (ts.take i ++ u :: ts.drop (i + 1)) := by
  have hi : i < ts.length := (List.getElem?_eq_some_iff.mp e).1
  have ht : t ∈ ts := List.mem_of_getElem? e
  have et : ts = ts.take i ++ t :: ts.drop (i + 1) := by
    have e3 : ts[i] = t := (List.getElem?_eq_some_iff.mp e).2
    rw [← e3, List.getElem_cons_drop, List.take_append_drop]
  refine ⟨fun v hv => ?_, ?_⟩
  · rcases List.mem_append.mp hv with hv | hv
    · exact h.each v (List.mem_of_mem_take hv)
    · rcases List.mem_cons.mp hv with rfl | hv
      · have := h.each t ht
        exact ⟨by lia, by lia, hl, hs, hw⟩
      · exact h.each v (List.mem_of_mem_drop hv)
  · have := h.nd
    rw [et, List.map_append, List.map_cons] at this
    rw [List.map_append, List.map_cons, hu]
    exact this
section
variable {P : Program} {w : World} {K : PySem.W.Frag} {mg : Str → Option Value} {base : Heap}
abbrev s__law_near : Stmt := top 27
abbrev N__law_near : List Str := ["_law_left_here", "_law_house_here", "_law_at", "_law_name", "_law_place", "_law_worth", "_law_some"]
theorem sc__law_near : FnScope N__law_near ["_law_left_here", "_law_house_here"] (defScope s__law_near) := ⟨rfl, rfl, rfl, by decide +kernel, rfl, by decide +kernel, by decide +kernel⟩
def t_near : TF := fun ds n Q => ∃ ts : List Thing, ds = [.st, houseD ts] ∧ n = 2 ∧ GoodT 2 ts 2000 ∧ ts.length ≤ 12 ∧ ∀ us : List Thing, GoodN us → 1 ≤ us.length → us.length ≤ 12 → Q (houseD us) n
theorem ok_near {f : Addr} {fd : FuncData} (T : Blt mg) (F : Fun K "_law_near" "_law_near" s__law_near f fd) (F__law_pick : Fn P w K mg base "_law_pick" 1 2 t_pick) : FnOk P w K mg base CX0 2 f fd ["_law_left_here", "_law_house_here"] (spD K 2 t_near) := by
  refine Fun.okD F sc__law_near (fun cdv A0 outer s H E G Z hr => (pssd_cons (psd_if (ptd_cmp (op_teq hr) re_teq (pd_ix ix_seq re_ix (pd_var 1) pd_int (fun _ _ => rfl)) (pd_tup pad_nil) (nomark _)) (pssd_one (psd_ret (pd_tup (pad_cons pd_int (pad_cons (pd_tup (pad_cons (pd_tup (pad_cons pd_int (pad_cons (pd_tup (pad_cons pd_int (pad_cons pd_int pad_nil))) (pad_cons pd_int pad_nil)))) pad_nil)) pad_nil))))) pssd_nil)
    (pssd_cons (psd_set (i := 2) sc__law_near.nd rfl (lo rfl) (pd_fn F__law_pick (hr.mono (by decide)) rfl (pad_cons (pd_var 0) (pad_cons (pd_callB call_len_seq cr_len T.len bt_len (pad_cons (pd_ix ix_seq re_ix (pd_var 1) pd_int (fun _ _ => rfl)) pad_nil)) pad_nil))))
    (pssd_cons (psd_unp (m := 7) (pd_ix ix_seq re_ix (pd_ix ix_seq re_ix (pd_var 1) pd_int (fun _ _ => rfl)) (pd_var 2) (fun _ _ => rfl)) (pgd_tup (k := 3) rfl rfl (pgsd_cons (pgd_name (i := 3) sc__law_near.nd rfl (lo rfl) (by decide)) (pgsd_cons (pgd_name (i := 4) sc__law_near.nd rfl (lo rfl) (by decide)) (pgsd_cons (pgd_name (i := 5) sc__law_near.nd rfl (lo rfl) (by decide)) pgsd_nil)))))
    (pssd_cons (psd_set (i := 6) sc__law_near.nd rfl (lo rfl) (pd_lst (pad_cons (pd_tup (pad_cons (pd_var 3) (pad_cons (pd_var 4) (pad_cons (pd_add (pd_var 5) pd_int) pad_nil)))) (pad_cons (pd_tup (pad_cons (pd_var 3) (pad_cons (pd_rev rfl (pd_var 4)) (pad_cons (pd_var 5) pad_nil)))) (pad_cons (pd_tup (pad_cons (pd_var 3) (pad_cons (pd_tup (pad_cons (pd_add (pd_ix ix_seq re_ix (pd_var 4) pd_int (fun _ _ => rfl)) pd_int) (pad_cons (pd_ix ix_seq re_ix (pd_var 4) pd_int (fun _ _ => rfl)) pad_nil))) (pad_cons (pd_var 5) pad_nil)))) pad_nil)))))
    (pssd_one (psd_ret (pd_tup (pad_cons pd_int (pad_cons (pd_op op_catTT re_catT (pd_op op_catTT re_catT (pd_slT rfl (pd_ix ix_seq re_ix (pd_var 1) pd_int (fun _ _ => rfl)) pod_none (pod_some (pd_var 2))) (pd_tup (pad_cons (pd_ix ix_seq re_ix (pd_var 6) (pd_fn F__law_pick (hr.mono (by decide)) rfl (pad_cons (pd_var 0) (pad_cons pd_int pad_nil))) (fun _ _ => rfl)) pad_nil))) (pd_slT rfl (pd_ix ix_seq re_ix (pd_var 1) pd_int (fun _ _ => rfl)) (pod_some (pd_add (pd_var 2) pd_int)) pod_none)) pad_nil)))))))))) ?_
  rintro ds n Q hl ⟨ts, rfl, rfl, hg, hz, q⟩
  have nh : notOwn (houseD ts) = true := id rfl
  have h1' : ∀ R : D → Prop, R (.tup (ts.map encThing)) → rdIx (houseD ts) (.int 1) R := fun R h => ⟨_, 1, _, .inr (.inl rfl), rfl, rfl, h⟩
  with_reducible generalize hR : sSeq (sUnp _ _) _ = Rr
  simp [startD, nh]
  refine h1' _ ?_
  cases ts with
  | nil =>
    simp
    exact q [(0, [0, 0], 0)] ⟨fun t ht => by rw [List.mem_singleton.mp ht]; simp, by simp⟩ (by simp) (by simp)
  | cons t0 r0 =>
    generalize ets : t0 :: r0 = ts at *
    have hpos : 1 ≤ ts.length := by rw [← ets]; simp
    have hne : ¬ ts = [] := by rintro rfl; simp at hpos
    simp [hne]
    refine h1' _ ?_
    rw [q_kLenT, List.length_map]
    refine pick_intro (by lia) (by lia) fun k h0 h1 => ?_
    obtain ⟨i, rfl⟩ := Int.eq_ofNat_of_zero_le h0
    have hi : i < ts.length := by lia
    have et : ts[i]? = some ts[i] := List.getElem?_eq_getElem hi
    obtain ⟨y, p, wt, ey⟩ : ∃ y p wt, ts[i] = (y, p, wt) := ⟨_, _, _, rfl⟩
    rw [ey] at et
    have hm := hg.n.each _ (List.mem_of_getElem? et)
    obtain ⟨a, b, rfl⟩ : ∃ a b, p = [a, b] := by
      have h2 : p.length = 2 := hm.2.2.1
      match p, h2 with
      | [a, b], _ => exact ⟨a, b, rfl⟩
    have ha := hm.2.2.2.1 a (by simp)
    have hb := hm.2.2.2.1 b (by simp)
    have hw := hm.2.2.2.2
    have hA := hg.each _ (List.mem_of_getElem? et)
    have ha' := hA.2.2.2.1 a (by simp)
    have hb' := hA.2.2.2.1 b (by simp)
    have hw' : small wt := hA.2.2.2.2
    unfold small at ha' hb' hw'
    have eD : atI (ts.map encThing) (i : Int) = some (encThing (y, [a, b], wt)) := atI_nat (by rw [List.getElem?_map, et]; rfl)
    subst hR
    simp [nh]
    refine h1' _ ⟨_, (i : Int), _, .inr (.inl rfl), rfl, eD, ?_⟩
    simp [encThing, encPlace]
    have fin : ∀ u : Thing, u.1 = y → u.2.1.length = 2 → (∀ x ∈ u.2.1, x.natAbs ≤ 1000000000000000001) → u.2.2.natAbs ≤ 1000000000000000001 → Q (.tup [.int 2, .tup ((ts.map encThing).take i ++ encThing u :: (ts.map encThing).drop (i + 1))]) 2 := fun u h1 h2 h3 h4 => by
      have := q (ts.take i ++ u :: ts.drop (i + 1)) (hg.n.put et h1 h2 h3 h4) (by simp; lia) (by simp; lia)
      unfold houseD at this
      rw [List.map_append, List.map_cons, List.map_take, List.map_drop] at this
      exact this
    have zl : (ts.map encThing).length = ts.length := List.length_map _
    have hc1 : cutL (ts.map encThing) none (some (i : Int)) = (ts.map encThing).take i := cut_to _ _ (by lia)
    have hc2 : cutL (ts.map encThing) (some ((i : Int) + 1)) none = (ts.map encThing).drop (i + 1) := cut_from _ (i + 1) (by lia)
    refine atD_mk nh (h1' _ ⟨_, rfl, pick_intro (by decide) (by decide) fun k3 g0 g1 => ix_of g0 (by simpa using g1) fun d hd => ?_⟩)
    try dsimp only
    rw [hc1]
    refine ⟨le_size (by rw [List.length_take]; lia), atD_mk nh (h1' _ ⟨_, rfl, ?_⟩)⟩
    try dsimp only
    rw [hc2]
    refine ⟨le_size (by rw [List.length_take, List.length_drop]; lia), ?_⟩
    simp only [List.mem_cons, List.not_mem_nil, or_false] at hd
    rcases hd with rfl | rfl | rfl
    · exact fin (y, [a, b], wt + 1) rfl rfl hm.2.2.2.1 (show (wt + 1).natAbs ≤ _ by lia)
    · exact fin (y, [b, a], wt) rfl rfl (fun x hx => hm.2.2.2.1 x (by simp only [List.mem_cons, List.not_mem_nil, or_false] at hx ⊢; rcases hx with h | h <;> simp [h])) hw
    · exact fin (y, [a + 1, b], wt) rfl rfl (fun x hx => by
        simp only [List.mem_cons, List.not_mem_nil, or_false] at hx
        rcases hx with rfl | rfl
        · lia
        · exact hb) hw
end
end K33
set_option maxRecDepth 100000
set_option maxHeartbeats 1000000
namespace K33
open PySem L2 PySem.Spec PyProof.Rows
def Fine (ts : List Thing) : Prop := ∀ t ∈ ts, 0 ≤ t.1 ∧ t.1 < 2000 ∧ (∀ x ∈ t.2.1, x.natAbs ≤ 1000000000000000001) ∧ t.2.2.natAbs ≤ 1000000000000000001
theorem GoodN.fine {ts : List Thing} (h : GoodN ts) : Fine ts := fun t ht => by
  obtain ⟨h1, h2, _, h4, h5⟩ := h.each t ht
  exact ⟨h1, h2, h4, h5⟩
theorem Fine.sub {ts us : List Thing} (h : Fine ts) (hs : ∀ t ∈ us, t ∈ ts) : Fine us := fun t ht => h t (hs t ht)
theorem sum_small {B : Nat} : ∀ xs : List Int, (∀ x ∈ xs, x.natAbs ≤ B) → xs.sum.natAbs ≤ xs.length * B
  | [], _ => by simp
  | x :: xs, h => by
    have h1 := h x List.mem_cons_self
    have h2 := sum_small xs fun y hy => h y (List.mem_cons_of_mem _ hy)
    rw [List.sum_cons, List.length_cons, Nat.add_mul]
    lia
theorem bw_sums {k : Nat} {xs : List Int} (h : ∀ x ∈ xs, x.natAbs ≤ 1000000000000000001) (hz : xs.length ≤ 12) : Bw 0 (k + 1) (sumsD xs) := .tup (by rw [preL_len]; lia) fun e he => by
  unfold preL at he
  obtain ⟨i, _, rfl⟩ := List.mem_map.mp he
  have := sum_small (xs.take i) fun x hx => h x (List.mem_of_mem_take hx)
  have hl : (xs.take i).length ≤ 12 := by rw [List.length_take]; lia
  have : (xs.take i).length * 1000000000000000001 ≤ 12 * 1000000000000000001 := Nat.mul_le_mul_right _ hl
  exact .int (by lia)
theorem bw_names {k : Nat} {ts : List Thing} (h : Fine ts) (hz : ts.length ≤ 12) : Bw 0 (k + 1) (namesD ts) := .tup (by rw [List.length_map]; lia) fun e he => by
  obtain ⟨t, ht, rfl⟩ := List.mem_map.mp he
  have := h t ht
  exact .int (by lia)
theorem bw_num0 {k : Nat} {t : Thing} (h : ∀ x ∈ t.2.1, x.natAbs ≤ 1000000000000000001) : Bw 0 k (num0 t) := by
  unfold num0
  cases e : t.2.1[0]? with
  | none => exact .int (by simp)
  | some x => exact .int (by have := h x (List.mem_of_getElem? e); simp; lia)
theorem bw_ends {k : Nat} {os : List Thing} (h : Fine os) : Bw 0 (k + 1) (endsD os) := .tup (by simp) fun e he => by
  simp only [List.mem_cons, List.not_mem_nil, or_false] at he
  rcases he with rfl | rfl
  · cases e : os.head? with
    | none => exact .non
    | some t => exact bw_num0 (h t (List.mem_of_mem_head? e)).2.2.1
  · cases e : os.getLast? with
    | none => exact .non
    | some t => exact bw_num0 (h t (List.mem_of_getLast? e)).2.2.1
theorem bw_mkM : ∀ (f : Nat) (os rs : List Thing), Fine os → Fine rs → os.length ≤ 12 → rs.length ≤ 12 → Bw 0 (f + 1) (mkM f os rs)
  | 0, _, _, _, _, _, _ => by unfold mkM; exact .non
  | f + 1, os, rs, h1, h2, z1, z2 => by
    unfold mkM
    have lf : ∀ p : Thing → Bool, (rs.filter p).length ≤ 12 := fun p => Nat.le_trans (List.length_filter_le ..) z2
    have ff : ∀ p : Thing → Bool, Fine (rs.filter p) := fun p => h2.sub fun t ht => (List.mem_filter.mp ht).1
    refine .tup (by simp) fun d hd => ?_
    simp only [List.mem_cons, List.not_mem_nil, or_false] at hd
    rcases hd with rfl | rfl | rfl | rfl | rfl | rfl
    · exact bw_names h2 z2
    · exact bw_ends h1
    · split
      · exact .tup (by simp) (by simp)
      · refine bw_sums (fun x hx => ?_) (by unfold markN; rw [List.length_map]; exact z2)
        obtain ⟨t, _, rfl⟩ := List.mem_map.mp hx
        split <;> decide
    · refine bw_sums (fun x hx => ?_) (by rw [List.length_map]; exact z2)
      obtain ⟨t, ht, rfl⟩ := List.mem_map.mp hx
      exact (h2 t ht).2.2.2
    · split
      · exact .non
      · exact bw_mkM f _ _ (h1.sub fun t ht => List.mem_of_mem_take ht) (ff _) (by rw [List.length_take]; lia) (lf _)
    · split
      · exact .non
      · exact bw_mkM f _ _ (h1.sub fun t ht => List.mem_of_mem_drop ht) (ff _) (by rw [List.length_drop]; lia) (lf _)
theorem len_parts (p : Thing → Bool) : ∀ l : List Thing, (l.filter p).length + (l.filter fun t => !p t).length = l.length
  | [] => rfl
  | t :: l => by
    have ih := len_parts p l
    cases h : p t with
    | true => rw [List.filter_cons_of_pos h, List.filter_cons_of_neg (by rw [h]; simp), List.length_cons, List.length_cons]; lia
    | false => rw [List.filter_cons_of_neg (by rw [h]; simp), List.filter_cons_of_pos (by rw [h]; rfl), List.length_cons, List.length_cons]; lia
theorem nod_flat : ∀ ds : List D, (∀ d ∈ ds, Bw 0 0 d) → nodRs ds = ds.length
  | [], _ => rfl
  | d :: ds, h => by
    have h1 := nod1 (h d List.mem_cons_self)
    have h2 := nod_flat ds fun e he => h e (List.mem_cons_of_mem _ he)
    simp only [nodRs, List.length_cons]
    lia
theorem nod_row {xs : List D} {k : Nat} (h : Bw 0 1 (.tup xs)) : nodR (.tup xs) = xs.length + 1 := by
  have := nod_flat xs h.at.2
  simp only [nodR]
  lia
theorem nod_mkM : ∀ (f : Nat) (os rs : List Thing), Fine os → Fine rs → os.length ≤ 12 → rs.length ≤ 12 → 1 ≤ os.length → nodR (mkM f os rs) + 9 ≤ 3 * (f * rs.length) + 19 * os.length
  | 0, os, rs, _, _, _, _, h => by unfold mkM; simp only [nodR]; lia
  | f + 1, os, rs, h1, h2, z1, z2, h => by
    unfold mkM
    have n1 : nodR (namesD rs) = rs.length + 1 := by rw [show namesD rs = .tup _ from rfl, nod_row (k := 0) (bw_names h2 z2), List.length_map]
    have n2 : nodR (endsD os) = 3 := by rw [show endsD os = .tup _ from rfl, nod_row (k := 0) (bw_ends h1)]; rfl
    have ws : ∀ x ∈ rs.map fun t => t.2.2, x.natAbs ≤ 1000000000000000001 := fun x hx => by
      obtain ⟨t, ht, rfl⟩ := List.mem_map.mp hx
      exact (h2 t ht).2.2.2
    have n4 : nodR (sumsD (rs.map fun t => t.2.2)) = rs.length + 2 := by
      rw [show sumsD (rs.map fun t => t.2.2) = .tup _ from rfl, nod_row (k := 0) (bw_sums ws (by rw [List.length_map]; exact z2)), preL_len, List.length_map]
    by_cases hl : os.length = 1
    · rw [if_pos hl, if_pos hl, if_pos hl]
      simp only [nodR, nodRs, n1, n2, n4]
      rw [Nat.add_mul]
      lia
    · rw [if_neg hl, if_neg hl, if_neg hl]
      have ms : ∀ x ∈ markN os (half os) rs, x.natAbs ≤ 1000000000000000001 := fun x hx => by
        obtain ⟨t, _, rfl⟩ := List.mem_map.mp hx
        split <;> decide
      have lm : (markN os (half os) rs).length = rs.length := by unfold markN; rw [List.length_map]
      have n3 : nodR (sumsD (markN os (half os) rs)) = rs.length + 2 := by
        rw [show sumsD (markN os (half os) rs) = .tup _ from rfl, nod_row (k := 0) (bw_sums ms (by lia)), preL_len, lm]
      have lf : ∀ p : Thing → Bool, (rs.filter p).length ≤ 12 := fun p => Nat.le_trans (List.length_filter_le ..) z2
      have ff : ∀ p : Thing → Bool, Fine (rs.filter p) := fun p => h2.sub fun t ht => (List.mem_filter.mp ht).1
      have hh : half os = (os.length + 1) / 2 := rfl
      have t1 : (os.take (half os)).length = half os := by rw [List.length_take]; lia
      have t2 : (os.drop (half os)).length = os.length - half os := by rw [List.length_drop]
      have a := nod_mkM f (os.take (half os)) (lowF os (half os) rs) (h1.sub fun t ht => List.mem_of_mem_take ht) (ff _) (by lia) (lf _) (by lia)
      have b := nod_mkM f (os.drop (half os)) (highF os (half os) rs) (h1.sub fun t ht => List.mem_of_mem_drop ht) (ff _) (by lia) (lf _) (by lia)
      have pl : (lowF os (half os) rs).length + (highF os (half os) rs).length = rs.length := by
        unfold lowF highF
        exact len_parts _ _
      have mm : f * (lowF os (half os) rs).length + f * (highF os (half os) rs).length = f * rs.length := by rw [← Nat.mul_add, pl]
      simp only [nodR, nodRs, n1, n2, n3, n4]
      rw [Nat.add_mul]
      lia
theorem bn_marked {ts os rs : List Thing} (h : GoodN ts) (hz : ts.length ≤ 12) (ho : OrdT 0 ts os) (hr : OrdT 1 ts rs) : Bn 0 8 480 (markedD ts os rs) := by
  have l1 := ho.perm.length_eq
  have l2 := hr.perm.length_eq
  have f1 : Fine os := h.fine.sub fun t ht => ho.perm.mem_iff.mp ht
  have f2 : Fine rs := h.fine.sub fun t ht => hr.perm.mem_iff.mp ht
  unfold markedD
  split
  · exact ⟨.non, by simp only [nodR]; lia⟩
  · refine ⟨bw_mkM 7 os rs f1 f2 (by lia) (by lia), ?_⟩
    have := nod_mkM 7 os rs f1 f2 (by lia) (by lia) (by lia)
    lia
def okX (a : D) : Prop := (okG a ∨ a = .dic) ∧ okRX a
theorem okX.a {a : D} (h : okX a) : okA a = true := by
  rcases h.1 with g | rfl
  · exact g.1
  · simp [okA]
theorem okX.no {a : D} (h : okX a) : notOwn a = true := okA_own h.a
theorem Bn.okX {g k m : Nat} {a : D} (h : Bn g k m a) (hg : g ≤ 100) (hk : k ≤ 40) (hm : m ≤ 8000) : okX a := ⟨.inl (h.okG hg), h.rx hg hk hm⟩
end K33
set_option maxRecDepth 100000
set_option maxHeartbeats 1000000
namespace K33
open PySem L2 PySem.Spec PyProof.Rows
theorem cut8_len (ns : List Int) : (cutL (ns.map D.int) none (some 8)).length ≤ 8 := by
  unfold cutL
  have e : HT.sIx (ns.map D.int).length (ns.map D.int).length (some ((8 : Nat) : Int)) = min 8 (ns.map D.int).length := HT.sIx_nat ..
  have e2 : HT.sIx (ns.map D.int).length 0 none = 0 := HT.sIx_none ..
  rw [show (some (8 : Int)) = some ((8 : Nat) : Int) from rfl, e, e2, List.length_take]
  lia
structure JLaw (ns : List Int) (i : Nat) (rho : Rho) (n : Nat) : Prop where
  e : n = 2
  r : ∃ (a b c d e f g h k : Option D), rho = [some (scriptD ns), a, b, c, d, e, f, g, h, k]
structure JB (hd : List (Option D)) (i : Nat) (rho : Rho) (n : Nat) : Prop where
  e : n = 2
  r : ∃ (us : List D) (a b : Option D), rho = hd ++ [some (.lst us), a, b, none, none] ∧ us.length ≤ 12 + 2 * i ∧ ∀ u ∈ us, okX u
structure JT (hd : List (Option D)) (i : Nat) (rho : Rho) (n : Nat) : Prop where
  e : n = 2
  r : ∃ (a b c d : Option D), rho = hd ++ [a, b, c, d]
structure JV (hd tl : List (Option D)) (i : Nat) (rho : Rho) (n : Nat) : Prop where
  e : n = 2
  r : ∃ (a : Option D), rho = hd ++ a :: tl
section
variable {P : Program} {w : World} {K : PySem.W.Frag} {mg : Str → Option Value} {base : Heap}
abbrev s_law : Stmt := top 28
abbrev N_law : List Str := ["_law_script", "_law_k", "_law_left_here", "_law_house_here", "_law_tree_here", "_law_some", "_law_turn", "_law_bent_here", "_law_thing", "_law_text"]
theorem sc_law : FnScope N_law ["_law_script"] (defScope s_law) := ⟨rfl, rfl, rfl, by decide +kernel, rfl, by decide +kernel, by decide +kernel⟩
theorem ok_law {f : Addr} {fd : FuncData} (T : Blt mg) (T3 : Blt3 mg) (F : Fun K "law" "law" s_law f fd) (F__law_left : Fn P w K mg base "_law_left" 2 2 t_left) (F__law_house : Fn P w K mg base "_law_house" 3 3 t_house) (F__law_tree : Fn P w K mg base "_law_tree" 8 1 t_tree) (F__law_near : Fn P w K mg base "_law_near" 2 2 t_near) (F__law_bent : Fn P w K mg base "_law_bent" 15 2 (t_bent 13)) (F__law_same : Fn P w K mg base "_law_same" 10 2 (t_same 10)) (F_is_marked : Fn P w K mg base "is_marked" 11 2 t_is_marked) :
    FnOk P w K mg base CX0 16 f fd ["_law_script"] (spLawD K) := by
  refine Fun.okLaw F sc_law 2 (fun cdv A0 outer s H E hr => (pssd_cons (psd_for (m := 10) PassesOwn.never rfl (pid_rng T.range (pad_cons (pd_add pd_int (pd_callB call_len_seq cr_len T.len bt_len (pad_cons (pd_slL rfl (pd_var 0) po_lit0 po_lit) pad_nil))) pad_nil)) (pgd_name (i := 1) sc_law.nd rfl (lo rfl) (by decide))
    (pssd_new (i := 2) rfl sc_law.nd rfl (lo rfl) F__law_left (hr.mono (by decide)) rfl (pad_cons (pd_var 0) (pad_cons (pd_var 1) pad_nil)) (fun c Z H0 => (pssd_cons (psd_set (i := 3) sc_law.nd rfl (lo rfl) (pd_fn F__law_house (hr.mono (by decide)) rfl (pad_cons (pd_var 2) (pad_cons pd_int (pad_cons (pd_lst (pad_cons pd_int (pad_cons pd_int (pad_cons pd_int (pad_cons pd_int (pad_cons pd_int (pad_cons pd_int (pad_cons pd_int (pad_cons pd_int pad_nil))))))))) pad_nil)))))
    (pssd_cons (psd_set (i := 4) sc_law.nd rfl (lo rfl) (pd_fn F__law_tree (hr.mono (by decide)) rfl (pad_cons (pd_var 3) pad_nil)))
    (pssd_cons (psd_own (i := 5) sc_law.nd rfl (lo rfl) (pad_cons pd_non (pad_cons pd_bl (pad_cons pd_int (pad_cons pd_str (pad_cons (pd_tup pad_nil) (pad_cons (pd_lst pad_nil) (pad_cons (pd_lit 9 (d := .dic) rfl) (pad_cons (pd_op op_repT re_repT (pd_tup (pad_cons pd_non pad_nil)) pd_int) (pad_cons (pd_tup (pad_cons (pd_tup pad_nil) (pad_cons (pd_tup pad_nil) (pad_cons (pd_tup pad_nil) (pad_cons (pd_tup pad_nil) (pad_cons pd_non (pad_cons pd_non pad_nil))))))) (pad_cons (pd_var 4) pad_nil)))))))))))
    (pssd_cons (psd_append (i := 5) (pad_cons (pd_fn F__law_tree (hr.mono (by decide)) rfl (pad_cons (pd_fn F__law_near (hr.mono (by decide)) rfl (pad_cons (pd_var 2) (pad_cons (pd_var 3) pad_nil))) pad_nil)) pad_nil) rfl)
    (pssd_cons (psd_append (i := 5) (pad_cons (pd_fn F__law_tree (hr.mono (by decide)) rfl (pad_cons (pd_fn F__law_house (hr.mono (by decide)) rfl (pad_cons (pd_var 2) (pad_cons pd_int (pad_cons (pd_lst (pad_cons pd_int (pad_cons pd_int (pad_cons pd_int pad_nil)))) pad_nil)))) pad_nil)) pad_nil) rfl)
    (pssd_cons (psd_frz 5 (psd_for (m := 10) PassesOwn.never rfl (pid_rng T.range (pad_cons pd_int pad_nil)) (pgd_name (i := 6) sc_law.nd rfl (lo rfl) (by decide))
    (pssd_cons (psd_set (i := 7) sc_law.nd rfl (lo rfl) (pd_fn F__law_bent (hr.mono (by decide)) rfl (pad_cons (pd_var 2) (pad_cons (pd_var 4) pad_nil))))
    (pssd_one (psd_set (i := 5) sc_law.nd rfl (lo rfl) (pd_op op_cat re_cat (pd_var 5) (pd_lst (pad_cons (pd_var 7) (pad_cons (pd_fn F__law_bent (hr.mono (by decide)) rfl (pad_cons (pd_var 2) (pad_cons (pd_var 7) pad_nil))) pad_nil)))))))))
    (pssd_one (psd_for (m := 10) PassesOwn.never rfl (pid_seq rfl (pd_var 5)) (pgd_name (i := 8) sc_law.nd rfl (lo rfl) (by decide))
    (pssd_cons (psd_set (i := 9) sc_law.nd rfl (lo rfl) (pd_callB (call_reprX hr) (cr_reprX rfl) T3.repr bt_repr (pad_cons (pd_var 8) pad_nil)))
    (pssd_one (psd_for (m := 10) PassesOwn.never rfl (pid_rng T.range (pad_cons pd_int pad_nil)) (pgd_name (i := 6) sc_law.nd rfl (lo rfl) (by decide))
    (pssd_one (psd_if (PWD.pt (pwd_or (ptd_not (ptd_val (pd_fn F__law_same (hr.mono (by decide)) rfl (pad_cons (pd_fn F_is_marked (hr.mono (by decide)) rfl (pad_cons (pd_var 3) (pad_cons (pd_var 8) pad_nil))) (pad_cons (pd_fn F__law_same (hr.mono (by decide)) rfl (pad_cons (pd_var 8) (pad_cons (pd_var 4) pad_nil))) pad_nil))))) (pwd_or1 (ptd_cmp op_ne re_ne (pd_callB (call_reprX hr) (cr_reprX rfl) T3.repr bt_repr (pad_cons (pd_var 8) pad_nil)) (pd_var 9) (nomark _))))) (pssd_one (psd_ret pd_bl)) pssd_nil))))))))))))))))
    (pssd_one (psd_ret pd_bl)))) ?_
  with_reducible generalize hF : sFrz 5 _ = Fz
  intro ns hns
  have nsc : notOwn (scriptD ns) = true := id rfl
  have c8 := cut8_len ns
  simp [startD, nsc]
  refine ⟨_, .inr rfl, by lia, by lia, JLaw ns, ⟨rfl, _, _, _, _, _, _, _, _, _, rfl⟩, ?_, ?_⟩
  · rintro i d' rho m e ⟨rfl, a, b, c, d1, e1, f1, g1, h1, k1, rfl⟩
    obtain ⟨hi, rfl⟩ := rng_at e
    simp
    refine new_intro ns (by simp) (by decide) rfl (i : Int) (by simp [nsc]) (fun P P' h => by simp [nsc]; exact h _ _) ?_
    refine ⟨ns, _, rfl, hns, by lia, by lia, fun x y hx hy hy2 => ⟨[x, y], rfl, rfl, by simp [hx, hy], by simp [hy2], ?_⟩⟩
    simp [midRho, onlyRho]
    refine ⟨le_size (by decide), 2, [0, 1, 2, 3, 5, 7, 9, 12], 12, rfl, rfl, by decide, by decide, by decide, by decide, by decide, by decide, fun ts hg hz => ?_⟩
    have hz12 : ts.length ≤ 12 := by simp only [List.mem_cons, List.not_mem_nil, or_false] at hz; lia
    have hh : ∀ ts : List Thing, D.tup [.int ((2 : Nat) : Int), .tup (ts.map encThing)] = houseD ts := fun _ => rfl
    rw [hh]
    have nh : notOwn (houseD ts) = true := id rfl
    have hu := hg.u
    simp [nh]
    refine ⟨ts, rfl, hu, by lia, fun os rs ho hr => ?_⟩
    have bt := bn_marked hg.n hz12 ho hr
    have hol : os.length = ts.length := ho.perm.length_eq
    have hrl : rs.length = ts.length := hr.perm.length_eq
    have oki : okI (markedD ts os rs) 8 = true := okI_marked (by lia) (by lia)
    have nt : notOwn (markedD ts os rs) = true := bt.no (by lia)
    have uq : ∀ os' rs', OrdT 0 ts os' → OrdT 1 ts rs' → markedD ts os' rs' = markedD ts os rs := fun os' rs' h1 h2 => by rw [h1.unique ho, h2.unique hr]
    simp [nh, nt]
    refine ⟨le_size (by decide), lt_size (by decide), ts, rfl, rfl, hg, hz12, fun us gu u1 u12 => ⟨us, rfl, gu.u, by lia, fun os1 rs1 ho1 hr1 => ⟨lt_size (by decide), 2, [1, 2, 7], 7, rfl, rfl, by decide, by decide, by decide, by decide, by decide, by decide, fun vs gv zv => ?_⟩⟩⟩
    have vz12 : vs.length ≤ 12 := by simp only [List.mem_cons, List.not_mem_nil, or_false] at zv; lia
    rw [hh]
    refine ⟨vs, rfl, gv.u, by lia, fun os2 rs2 ho2 hr2 => ?_⟩
    have bt1 := bn_marked gu u12 ho1 hr1
    have bt2 := bn_marked gv.n vz12 ho2 hr2
    generalize markedD us os1 rs1 = x1 at *
    generalize markedD vs os2 rs2 = x2 at *
    have fx : ∀ {a : D}, Bn 0 8 480 a → okX a := fun h => h.okX (by lia) (by lia) (by lia)
    have start : ∀ u ∈ [D.non, .bl true, .int 0, .str (Str.ofString ""), .tup [], .lst [], .dic, .tup [.non, .non, .non, .non, .non, .non], .tup [.tup [], .tup [], .tup [], .tup [], .non, .non], markedD ts os rs, x1, x2], okX u := fun u hu => by
      have e0 : ∀ k, Bw 0 (k + 1) (.tup []) := fun k => .tup (by simp) (by simp)
      simp only [List.mem_cons, List.not_mem_nil, or_false] at hu
      rcases hu with rfl | rfl | rfl | rfl | rfl | rfl | rfl | rfl | rfl | rfl | rfl | rfl
      · exact fx ⟨.non, by simp only [nodR]; lia⟩
      · exact fx ⟨.bl true, by simp only [nodR]; lia⟩
      · exact fx ⟨.int (by simp), by simp only [nodR]; lia⟩
      · exact fx ⟨.str (by decide +kernel), by simp only [nodR]; lia⟩
      · exact fx ⟨e0 7, by simp only [nodR, nodRs]; lia⟩
      · exact fx ⟨.lst (by simp) (by simp), by simp only [nodR, nodRs]; lia⟩
      · exact ⟨.inr rfl, .inr (.inr (.inr (.inl rfl)))⟩
      · exact fx ⟨.tup (by simp) (by simp [Bw.non]), by simp only [nodR, nodRs]; lia⟩
      · exact fx ⟨.tup (by simp) (by simp [Bw.non, e0]), by simp only [nodR, nodRs]; lia⟩
      · exact fx bt
      · exact fx bt1
      · exact fx bt2
    subst hF
    simp [nt]
    refine ⟨JB [some (scriptD ns), none, some .st, some (houseD ts), some (markedD ts os rs)], ⟨rfl, _, none, none, rfl, by simp, start⟩, ?_, ?_⟩
    · rintro k d' rho m e ⟨rfl, us, a, b, rfl, ul, ux⟩
      simp [nt]
      refine ⟨0, 8, _, rfl, rfl, by decide, by decide, by decide, bt.1, fun b1 hb1 => ?_⟩
      have nb := hb1.no (by decide)
      have btn := bt.2
      have b1n := hb1.2
      have c1n := fun (c1 : D) (hc1 : Bn (1 + 1) (10 + 2) (2 * nodR b1 + 60) c1) => hc1.2
      obtain ⟨hk6, rfl⟩ := rng_at e
      simp [nb]
      refine ⟨1, 10, _, rfl, rfl, by decide, by decide, by decide, hb1.1, fun c1 hc1 => ⟨le_size (by lia), rfl, us ++ [b1, c1], _, _, rfl, by rw [List.length_append]; simp; lia, fun u hu => ?_⟩⟩
      rcases List.mem_append.mp hu with hu | hu
      · exact ux u hu
      · simp only [List.mem_cons, List.not_mem_nil, or_false] at hu
        rcases hu with rfl | rfl
        · exact hb1.okX (by decide) (by decide) (by lia)
        · exact hc1.okX (by decide) (by decide) (by lia)
    · rintro rho m ⟨rfl, us, a, b, rfl, ul, ux⟩
      simp
      have zu : us.length ≤ 24 := by rw [rng_len] at ul; lia
      have oki9 : okI (markedD ts os rs) 9 = true := by
        unfold markedD
        split
        · simp [okI]
        · exact okI_mkM 7 os rs 1 (by lia) (by lia)
      have dn : sameT .dic (markedD ts os rs) = false ∧ (markedD ts os rs = .non ∨ ∃ es, markedD ts os rs = .tup es) := by
        unfold markedD
        split
        · exact ⟨by simp [sameT, isNon], .inl rfl⟩
        · unfold mkM
          exact ⟨by simp [sameT], .inr ⟨_, rfl⟩⟩
      refine ⟨JT [some (scriptD ns), none, some .st, some (houseD ts), some (markedD ts os rs), some (.lst us)], ⟨rfl, _, _, _, _, rfl⟩, ?_, ?_⟩
      · rintro k d' rho m e ⟨rfl, a, b, c, d, rfl⟩
        have hx := ux _ (List.mem_of_getElem? e)
        have hxn := hx.no
        have hx2 := hx.2
        simp [hxn, hx2]
        refine ⟨JV [some (scriptD ns), none, some .st, some (houseD ts), some (markedD ts os rs), some (.lst us)] [b, some d', some (.str (showX d'))], ⟨rfl, _, rfl⟩, ?_, ?_⟩
        · rintro k2 d2 rho m e2 ⟨rfl, a, rfl⟩
          have same : ∀ R : D → Nat → Prop, R (.bl (sameT d' (markedD ts os rs))) 2 → t_same 10 [d', markedD ts os rs] 2 R := fun R h => by
            rcases hx.1 with g | rfl
            · exact ⟨d', _, rfl, .inl ⟨g, oki9, h⟩⟩
            · rw [dn.1] at h
              exact ⟨_, _, rfl, .inr (.inr ⟨rfl, dn.2, h⟩)⟩
          simp [nh, nt, hxn, hx2]
          refine ⟨ts, d', rfl, hx.a, hu, by lia, fun os' rs' h1 h2 => ?_⟩
          rw [uq os' rs' h1 h2]
          refine same _ ⟨_, _, rfl, .inr (.inl ⟨_, _, rfl, rfl, ?_⟩)⟩
          simp
          refine ⟨rfl, ?_⟩
          simp
          refine ⟨?_, ?_, rfl, _, rfl⟩
          · exact rfl
          · exact rfl
        · rintro rho m ⟨rfl, a, rfl⟩
          exact ⟨rfl, _, _, _, _, rfl⟩
      · rintro rho m ⟨rfl, a, b, c, d, rfl⟩
        simp
        exact ⟨rfl, _, _, _, _, _, _, _, _, _, rfl⟩
  · rintro rho m ⟨rfl, a, b, c, d1, e1, f1, g1, h1, k1, rfl⟩
    simp
end
end K33
set_option maxRecDepth 100000
set_option maxHeartbeats 1000000
namespace K33
open PySem L2 PySem.Spec PyProof.Rows
theorem len_succ {α : Type} {us : List α} {c : Nat} (h : us.length = c + 1) : ∃ a r, us = a :: r ∧ r.length = c := by
  cases us with
  | nil => cases h
  | cons a r => exact ⟨a, r, rfl, Nat.succ.inj h⟩
theorem us_1 {fd : FuncData} {ps : List Str} {us : List Value} (h : us.length = 1) (q : ∀ x0, bindArgs fd ⟨[x0], []⟩ = pure (ps.zip [x0])) : bindArgs fd ⟨us, []⟩ = pure (ps.zip us) := by
  obtain ⟨x0, u0, rfl, h0⟩ := len_succ h
  obtain rfl := List.length_eq_zero_iff.mp h0
  exact q x0
theorem us_2 {fd : FuncData} {ps : List Str} {us : List Value} (h : us.length = 2) (q : ∀ x0 x1, bindArgs fd ⟨[x0, x1], []⟩ = pure (ps.zip [x0, x1])) : bindArgs fd ⟨us, []⟩ = pure (ps.zip us) := by
  obtain ⟨x0, u0, rfl, h0⟩ := len_succ h
  obtain ⟨x1, u1, rfl, h1⟩ := len_succ h0
  obtain rfl := List.length_eq_zero_iff.mp h1
  exact q x0 x1
theorem us_3 {fd : FuncData} {ps : List Str} {us : List Value} (h : us.length = 3) (q : ∀ x0 x1 x2, bindArgs fd ⟨[x0, x1, x2], []⟩ = pure (ps.zip [x0, x1, x2])) : bindArgs fd ⟨us, []⟩ = pure (ps.zip us) := by
  obtain ⟨x0, u0, rfl, h0⟩ := len_succ h
  obtain ⟨x1, u1, rfl, h1⟩ := len_succ h0
  obtain ⟨x2, u2, rfl, h2⟩ := len_succ h1
  obtain rfl := List.length_eq_zero_iff.mp h2
  exact q x0 x1 x2
structure Dn (K : PySem.W.Frag) (x : Str) (st : Stmt) : Prop where
  ex : ∃ (f : Addr) (fd : FuncData), PySem.W.nsIn K mainGlobals x = some (some (.ref f)) ∧ Fun K x x st f fd
theorem dn {K : PySem.W.Frag} {x : Str} {st : Stmt} {f : Addr} {oc : Value} {od an : Option Addr} {osl : Array (Option Value)} {kV doc pm cdv ct : Value} (a : PySem.W.nsIn K mainGlobals x = some (some (.ref f))) (l : K.lookup f = some ⟨oc, od, .func (PySem.W.fnOf x x (defArgs st) (defBody st) (defScope st) .none kV doc pm an cdv ct), osl⟩) (c : PySem.W.codeIn K cdv x = true) (k : PySem.W.keepIn K (.ref f) = true) : Dn K x st := ⟨f, _, a, fun_mk (st := st) l c k⟩
theorem Dn.fn {P : Program} {w : World} {K : PySem.W.Frag} {mg : Str → Option Value} {base h : Heap} {x : Str} {st : Stmt} {kk k : Nat} {t : TF} {ps : List Str} (d : Dn K x st) (X : K.In h) (G : h.Ns mainGlobals mg) (b : ∀ (kV doc pm : Value) (an : Option Addr) (cdv ct : Value) (us : List Value), us.length = ps.length → bindArgs (PySem.W.fnOf x x (defArgs st) (defBody st) (defScope st) .none kV doc pm an cdv ct) ⟨us, []⟩ = pure (ps.zip us)) (ok : ∀ (f : Addr) (fd : FuncData), Fun K x x st f fd → mg x = some (.ref f) → PySem.W.keepIn K (.ref f) = true → Binds K fd ps [] → FnOk P w K mg base CX0 kk f fd ps (spD K k t)) : Fn P w K mg base x kk k t := by
  obtain ⟨f, fd, a, F⟩ := d.ex
  have m := PySem.W.mg_of X G a
  have B := F.binds b
  exact ⟨f, fd, ps, ok f fd F m F.kp B, m, F.kp, B⟩
theorem all_mk {l : PySem.W.OpenLaw} {w : World} {K : PySem.W.Frag} {h : Heap} {mg : Str → Option Value} {fa f23 : Addr} (X : K.In h) (G : h.Ns mainGlobals mg) (hfa : mg "law" = some (.ref fa))
    {od23 an23 : Option Addr} {sl23 : Array (Option Value)} {oc23 kV23 dc23 pm23 cd23 ct23 : Value}
    (d0 : Dn K "is_whole" s_is_whole)
    (d1 : Dn K "is_tuple_of" s_is_tuple_of)
    (d2 : Dn K "is_same" s_is_same)
    (d3 : Dn K "things_by_name" s_things_by_name)
    (d4 : Dn K "names_by" s_names_by)
    (d5 : Dn K "order_by" s_order_by)
    (d6 : Dn K "names_in_order" s_names_in_order)
    (d7 : Dn K "halved_up" s_halved_up)
    (d8 : Dn K "sums_of" s_sums_of)
    (d9 : Dn K "marked_row" s_marked_row)
    (d10 : Dn K "marked" s_marked)
    (d11 : Dn K "is_marked" s_is_marked)
    (d12 : Dn K "_law_cell_at" s__law_cell_at)
    (d13 : Dn K "_law_left" s__law_left)
    (d14 : Dn K "_law_pick" s__law_pick)
    (d15 : Dn K "_law_number" s__law_number)
    (d16 : Dn K "_law_house" s__law_house)
    (d17 : Dn K "_law_same" s__law_same)
    (d18 : Dn K "_law_marked" s__law_marked)
    (d19 : Dn K "_law_tree" s__law_tree)
    (d20 : Dn K "_law_number_bent" s__law_number_bent)
    (d21 : Dn K "_law_bent" s__law_bent)
    (d22 : Dn K "_law_near" s__law_near)
    (a23 : PySem.W.nsIn K mainGlobals "law" = some (some (.ref f23))) (l23 : K.lookup f23 = some ⟨oc23, od23, .func (PySem.W.fnOf "law" "law" (defArgs s_law) (defBody s_law) (defScope s_law) .none kV23 dc23 pm23 an23 cd23 ct23), sl23⟩) (c23 : PySem.W.codeIn K cd23 "law" = true) (k23 : PySem.W.keepIn K (.ref f23) = true)
    (z0 : PySem.W.nsIn K mainGlobals "len" = some none) (z1 : PySem.W.nsIn K mainGlobals "abs" = some none) (z2 : PySem.W.nsIn K mainGlobals "all" = some none) (z3 : PySem.W.nsIn K mainGlobals "any" = some none) (z4 : PySem.W.nsIn K mainGlobals "isinstance" = some none) (z5 : PySem.W.nsIn K mainGlobals "int" = some none) (z6 : PySem.W.nsIn K mainGlobals "bool" = some none) (z7 : PySem.W.nsIn K mainGlobals "str" = some none) (z8 : PySem.W.nsIn K mainGlobals "tuple" = some none) (z9 : PySem.W.nsIn K mainGlobals "list" = some none) (z10 : PySem.W.nsIn K mainGlobals "range" = some none) (z11 : PySem.W.nsIn K mainGlobals "zip" = some none) (z12 : PySem.W.nsIn K mainGlobals "enumerate" = some none) (z13 : PySem.W.nsIn K mainGlobals "max" = some none) (z14 : PySem.W.nsIn K mainGlobals "min" = some none) (z15 : PySem.W.nsIn K mainGlobals "sorted" = some none) (z16 : PySem.W.nsIn K mainGlobals "sum" = some none) (z17 : PySem.W.nsIn K mainGlobals "repr" = some none) (z18 : PySem.W.nsIn K mainGlobals "dict" = some none) :
    ∃ fd : FuncData, (∀ (s : Shared) (v : Value), BindsTo s fd ⟨[v], []⟩ [("_law_script", v)]) ∧ ∀ base : Heap, K.In base → base.Ns mainGlobals mg → base.NoDigits → FnOk l.prog w K mg base CX0 16 fa fd ["_law_script"] (spLawD K) := by
  have e := hfa.symm.trans (PySem.W.mg_of X G a23)
  cases e
  have T : Blt mg := ⟨PySem.W.mg_none_of X G z0, PySem.W.mg_none_of X G z1, PySem.W.mg_none_of X G z2, PySem.W.mg_none_of X G z3, PySem.W.mg_none_of X G z4, PySem.W.mg_none_of X G z5, PySem.W.mg_none_of X G z6, PySem.W.mg_none_of X G z7, PySem.W.mg_none_of X G z8, PySem.W.mg_none_of X G z9, PySem.W.mg_none_of X G z10, PySem.W.mg_none_of X G z11, PySem.W.mg_none_of X G z12, PySem.W.mg_none_of X G z13, PySem.W.mg_none_of X G z14, PySem.W.mg_none_of X G z15⟩
  have T2 : Blt2 mg := ⟨PySem.W.mg_none_of X G z16⟩
  have T3 : Blt3 mg := ⟨PySem.W.mg_none_of X G z17, PySem.W.mg_none_of X G z18⟩
  have U23 := fun_mk (st := s_law) l23 c23 k23
  refine ⟨PySem.W.fnOf "law" "law" (defArgs s_law) (defBody s_law) (defScope s_law) .none kV23 dc23 pm23 an23 cd23 ct23, fun s v => .of_eq rfl, fun base _ _ ND => ?_⟩
  have F_is_whole : Fn l.prog w K mg base "is_whole" 1 1 t_is_whole := d0.fn X G (ps := ["thing"]) (fun _ _ _ _ _ _ us hl => us_1 hl fun _ => rfl) fun _ _ U M N B => ok_is_whole T U
  have F_is_tuple_of : Fn l.prog w K mg base "is_tuple_of" 1 2 t_is_tuple_of := d1.fn X G (ps := ["thing", "length"]) (fun _ _ _ _ _ _ us hl => us_2 hl fun _ _ => rfl) fun _ _ U M N B => ok_is_tuple_of T U
  have F_is_same : Fn l.prog w K mg base "is_same" 10 2 (t_is_same 9) := d2.fn X G (ps := ["thing", "told"]) (fun _ _ _ _ _ _ us hl => us_2 hl fun _ _ => rfl) fun _ _ U M N B => ok_is_same T U M N B F_is_whole F_is_tuple_of 9
  have F_things_by_name : Fn l.prog w K mg base "things_by_name" 1 1 t_tbn := d3.fn X G (ps := ["house"]) (fun _ _ _ _ _ _ us hl => us_1 hl fun _ => rfl) fun _ _ U M N B => ok_tbn T U
  have F_names_by : Fn l.prog w K mg base "names_by" 1 2 t_names_by := d4.fn X G (ps := ["things", "i"]) (fun _ _ _ _ _ _ us hl => us_2 hl fun _ _ => rfl) fun _ _ U M N B => ok_names_by T U
  have F_order_by : Fn l.prog w K mg base "order_by" 2 2 t_order_by := d5.fn X G (ps := ["house", "i"]) (fun _ _ _ _ _ _ us hl => us_2 hl fun _ _ => rfl) fun _ _ U M N B => ok_order_by U F_names_by
  have F_names_in_order : Fn l.prog w K mg base "names_in_order" 2 3 t_in_order := d6.fn X G (ps := ["by_name", "names", "i"]) (fun _ _ _ _ _ _ us hl => us_3 hl fun _ _ _ => rfl) fun _ _ U M N B => ok_in_order U F_names_by
  have F_halved_up : Fn l.prog w K mg base "halved_up" 1 1 t_halved_up := d7.fn X G (ps := ["count"]) (fun _ _ _ _ _ _ us hl => us_1 hl fun _ => rfl) fun _ _ U M N B => ok_halved_up U
  have F_sums_of : Fn l.prog w K mg base "sums_of" 1 1 t_sums := d8.fn X G (ps := ["numbers"]) (fun _ _ _ _ _ _ us hl => us_1 hl fun _ => rfl) fun _ _ U M N B => ok_sums T U
  have F_marked_row : Fn l.prog w K mg base "marked_row" 9 2 (t_mrow 7) := d9.fn X G (ps := ["by_name", "names"]) (fun _ _ _ _ _ _ us hl => us_2 hl fun _ _ => rfl) fun _ _ U M N B => ok_mrow T U M N B F_names_in_order F_sums_of F_halved_up 7
  have F_marked : Fn l.prog w K mg base "marked" 10 1 t_marked := d10.fn X G (ps := ["house"]) (fun _ _ _ _ _ _ us hl => us_1 hl fun _ => rfl) fun _ _ U M N B => ok_marked T U F_things_by_name F_order_by F_marked_row
  have F_is_marked : Fn l.prog w K mg base "is_marked" 11 2 t_is_marked := d11.fn X G (ps := ["house", "thing"]) (fun _ _ _ _ _ _ us hl => us_2 hl fun _ _ => rfl) fun _ _ U M N B => ok_is_marked U F_marked F_is_same
  have F__law_cell_at : Fn l.prog w K mg base "_law_cell_at" 1 2 t_cell_at := d12.fn X G (ps := ["_law_script", "_law_k"]) (fun _ _ _ _ _ _ us hl => us_2 hl fun _ _ => rfl) fun _ _ U M N B => ok_cell_at T U
  have F__law_left : Fn l.prog w K mg base "_law_left" 2 2 t_left := d13.fn X G (ps := ["_law_script", "_law_k"]) (fun _ _ _ _ _ _ us hl => us_2 hl fun _ _ => rfl) fun _ _ U M N B => ok_left T ND U F__law_cell_at
  have F__law_pick : Fn l.prog w K mg base "_law_pick" 1 2 t_pick := d14.fn X G (ps := ["_law_left_here", "_law_many"]) (fun _ _ _ _ _ _ us hl => us_2 hl fun _ _ => rfl) fun _ _ U M N B => ok_pick U
  have F__law_number : Fn l.prog w K mg base "_law_number" 2 2 t_number := d15.fn X G (ps := ["_law_left_here", "_law_way"]) (fun _ _ _ _ _ _ us hl => us_2 hl fun _ _ => rfl) fun _ _ U M N B => ok_number T U F__law_pick
  have F__law_house : Fn l.prog w K mg base "_law_house" 3 3 t_house := d16.fn X G (ps := ["_law_left_here", "_law_d", "_law_sizes"]) (fun _ _ _ _ _ _ us hl => us_3 hl fun _ _ _ => rfl) fun _ _ U M N B => ok_house T U F__law_pick F__law_number
  have F__law_same : Fn l.prog w K mg base "_law_same" 10 2 (t_same 10) := d17.fn X G (ps := ["_law_found", "_law_due"]) (fun _ _ _ _ _ _ us hl => us_2 hl fun _ _ => rfl) fun _ _ U M N B => ok_same T U M N B 10
  have F__law_marked : Fn l.prog w K mg base "_law_marked" 7 3 (t_lmarked 7) := d18.fn X G (ps := ["_law_house_here", "_law_row", "_law_names"]) (fun _ _ _ _ _ _ us hl => us_3 hl fun _ _ _ => rfl) fun _ _ U M N B => ok_lmarked T T2 T3 U M N B 7
  have F__law_tree : Fn l.prog w K mg base "_law_tree" 8 1 t_tree := d19.fn X G (ps := ["_law_house_here"]) (fun _ _ _ _ _ _ us hl => us_1 hl fun _ => rfl) fun _ _ U M N B => ok_tree T U F__law_marked
  have F__law_number_bent : Fn l.prog w K mg base "_law_number_bent" 2 2 t_nbent := d20.fn X G (ps := ["_law_left_here", "_law_number_here"]) (fun _ _ _ _ _ _ us hl => us_2 hl fun _ _ => rfl) fun _ _ U M N B => ok_nbent T U F__law_pick
  have F__law_bent : Fn l.prog w K mg base "_law_bent" 15 2 (t_bent 13) := d21.fn X G (ps := ["_law_left_here", "_law_thing"]) (fun _ _ _ _ _ _ us hl => us_2 hl fun _ _ => rfl) fun _ _ U M N B => ok_bent T U M N B F__law_pick F__law_number_bent 13
  have F__law_near : Fn l.prog w K mg base "_law_near" 2 2 t_near := d22.fn X G (ps := ["_law_left_here", "_law_house_here"]) (fun _ _ _ _ _ _ us hl => us_2 hl fun _ _ => rfl) fun _ _ U M N B => ok_near T U F__law_pick
  exact ok_law T T3 U23 F__law_left F__law_house F__law_tree F__law_near F__law_bent F__law_same F_is_marked
theorem walk {l : PySem.W.OpenLaw} {q : Program} {loose : List Str} {XP : (Str → Option Value) → Heap → Prop} {YP : World → Heap → Prop} {d : DefRec} {K : Params → PySem.W.Frag} (hn : l.most = some 63) (hdf : d.params.defaults = [])
    (hY : ∀ (w : World) (h : Heap), YP w h → (K w.params).In h)
    (F : ∀ (w : World) (mg : Str → Option Value) (fa : Addr) (h : Heap), (K w.params).In h → h.Ns mainGlobals mg → mg d.name = some (.ref fa) →
      ∃ fd : FuncData, (∀ (s : Shared) (u : Value), BindsTo s fd ⟨[u], []⟩ [("_law_script", u)]) ∧ ∀ base : Heap, (K w.params).In base → base.Ns mainGlobals mg → base.NoDigits → FnOk l.prog w (K w.params) mg base CX0 16 fa fd ["_law_script"] (spLawD (K w.params))) :
    PySem.W.WalkO q loose XP YP l.row.toRowW d [] (fun f vs => PySem.call f vs) :=
  L2.walk_ofN (n := 63) (k := 16) (x := "_law_script") (CX := fun _ => CX0) (sp := fun w => spLawD (K w.params)) hn (by decide) hdf ⟨rfl, by decide, by decide, rfl⟩ hY F (fun _ _ a ns hl hO hS => ⟨a, ns, rfl, hO, hS, hl, fun _ => rfl⟩) fun _ _ _ _ _ z => z
noncomputable def view : Program := { PySem.Challenge.pw_boxlayers_k33_marked_or_none with main := { PySem.Challenge.pw_boxlayers_k33_marked_or_none.main with body := [top 1, top 2, top 3, top 5, top 7, top 8, top 9, top 10, top 12, top 13, top 14, top 15, top 17, top 18, top 19, top 20, top 21, top 22, top 23, top 24, top 25, top 26, top 27, top 28] } }
end K33
open PySem PySem.W PyProof.Rows
local macro_rules | `(tactic| o_head $H) => `(tactic| refine holds_open (q := K33.view) (loose := []) (N := 10000) (XP := XL K33.view []) (Xt := fun s => xlAt K33.view [] s && recOk (RowW.records (OpenRow.toRowW (OpenLaw.row PySem.Challenge.rw_boxlayers_k33_marked_or_none))) s) (Yf := Hook.obs $H) (Ya := Hook.val $H) (YP := Hook.says $H) ?_ (Hook.of $H) (Hook.keeps $H) (fun s e => xl_of s (Bool.and_eq_true_iff.mp e).1) XL.keeps rfl rfl rfl (fun s e => recFacts_of (Bool.and_eq_true_iff.mp e).2) rfl (by first | assumption | decide +kernel) (by decide +kernel) ⟨rfl, rfl, rfl, rfl, rfl, by decide +kernel⟩ ?_ ?_)
set_option maxRecDepth 100000 in
set_option maxHeartbeats 0 in
theorem PySem.Challenge.cw_boxlayers_k33_marked_or_none_holds : PySem.Challenge.rw_boxlayers_k33_marked_or_none.Holds := by
  w_on; refine PySem.W.holds_law (by kernel_rfl) fun said => ?_; k_head
  · intro w; kernel_rfl
  · w_witness2
  k_fill
  refine K33.walk (l := PySem.Challenge.rw_boxlayers_k33_marked_or_none) rfl rfl (fun w h Y => PySem.W.kIn_of Y) ?F
  case F =>
    intro w mg fa h KX G hmg
    refine' K33.all_mk KX G hmg ?d0 ?d1 ?d2 ?d3 ?d4 ?d5 ?d6 ?d7 ?d8 ?d9 ?d10 ?d11 ?d12 ?d13 ?d14 ?d15 ?d16 ?d17 ?d18 ?d19 ?d20 ?d21 ?d22 ?a23 ?l23 ?c23 ?k23 ?z0 ?z1 ?z2 ?z3 ?z4 ?z5 ?z6 ?z7 ?z8 ?z9 ?z10 ?z11 ?z12 ?z13 ?z14 ?z15 ?z16 ?z17 ?z18
    (case a23 => k_is)
    (case l23 => k_is)
    (case c23 => k_is)
    (case k23 => k_is)
    (case z0 => k_is)
    (case z1 => k_is)
    (case z2 => k_is)
    (case z3 => k_is)
    (case z4 => k_is)
    (case z5 => k_is)
    (case z6 => k_is)
    (case z7 => k_is)
    (case z8 => k_is)
    (case z9 => k_is)
    (case z10 => k_is)
    (case z11 => k_is)
    (case z12 => k_is)
    (case z13 => k_is)
    (case z14 => k_is)
    (case z15 => k_is)
    (case z16 => k_is)
    (case z17 => k_is)
    (case z18 => k_is)
    all_goals (apply K33.dn; k_is; k_is; k_is; k_is)
end
#print axioms PySem.Challenge.cw_boxlayers_k33_marked_or_none_holds
