import PyProof.Rows.All
import Wide.All
import OpenK.AllK
import Wide.FinOn
import Lean
import PyProof.EqAt
import PyProof.EqKinds
import PyProof.TupleCall
import PyProof.CompFree
import PyProof.ZipIter
import PyProof.Cells
import PyProof.Rows.CellsFrame
import PyProof.EnumMake
import PyProof.TupleIter
import PyProof.IsiPairs
import PyProof.IsiSeqPairs
import PyProof.IsiNone
import PyProof.ConsumeWalk
import PyProof.DictCompW
import PyProof.NeKinds
import PyProof.MinMaxWalk
import PyProof.Rows.SortRev
import KE.KIsAll
import KE.KDictOf
import PyProof.AttrMissHeap
import PyProof.CallFns
import KE.KLam
import KE.KSortKey
import PyProof.MaxThree
import PySem.Challenge.RW_boxlayers_k46_other_covers_taken
set_option Elab.async false
set_option linter.all false
namespace K46H
section
open PySem PySem.W PyProof.Rows
def top (i : Nat) : Stmt := PySem.Challenge.pw_boxlayers_k46_other_covers_taken.main.body.getD i (.Pass ⟨0, 0, 0, 0⟩)
noncomputable def view:Program:={ PySem.Challenge.pw_boxlayers_k46_other_covers_taken with main:={ PySem.Challenge.pw_boxlayers_k46_other_covers_taken.main with body:=[top 1,top 2,top 3,top 5,top 6,top 7,top 8,top 9,top 10,top 11,top 12,top 13,top 14,top 15,top 16,top 17,top 18,top 19,top 21,top 22,top 24,top 25,top 26,top 27,top 28,top 31,top 32,top 33,top 34,top 35,top 36,top 37,top 38,top 40,top 41,top 42,top 43,top 44,top 45,top 46,top 47,top 48,top 49,top 50,top 51,top 52,top 53,top 54,top 55,top 56,top 57] } }
local macro_rules | `(tactic| o_head (kmHook $k $a $e $t)) => `(tactic| (assumption; exact ($a, $t)))
set_option maxRecDepth 100000 in
set_option maxHeartbeats 0 in
noncomputable def hk : List Addr × List Addr := by
  refine (fun (_ : (OpenLaw.row PySem.Challenge.rw_boxlayers_k46_other_covers_taken).Holds → (OpenLaw.row PySem.Challenge.rw_boxlayers_k46_other_covers_taken).Holds) => ?a) (fun h => ?b)
  rotate_left
  k_head
noncomputable abbrev hook : Hook := kmHook hk.heap_1 hk.1 (fun _ => by kernel_rfl) hk.2
set_option maxRecDepth 100000 in
set_option maxHeartbeats 0 in
theorem headF (w : World) : (fencedOpening treeTable (OpenLaw.row PySem.Challenge.rw_boxlayers_k46_other_covers_taken).prog w 10000).map (fun a => (topFrom treeTable (OpenLaw.row PySem.Challenge.rw_boxlayers_k46_other_covers_taken).prog (w.withFollow "special-get-raises" false) 10000 a).map (fun s => (openSeen view ["LENGTHS"] (importedModules (OpenLaw.row PySem.Challenge.rw_boxlayers_k46_other_covers_taken).prog.main.body) (fun s => xlAt view [] s && recOk (RowW.records (OpenRow.toRowW (OpenLaw.row PySem.Challenge.rw_boxlayers_k46_other_covers_taken))) s) true s, Hook.obs hook s))) = some (some (openGood view ["LENGTHS"], Hook.val hook (w.withFollow "special-get-raises" false))) := by kernel_rfl
set_option maxRecDepth 100000 in
set_option maxHeartbeats 0 in
theorem headT (w : World) : (fencedOpening treeTable (OpenLaw.row PySem.Challenge.rw_boxlayers_k46_other_covers_taken).prog w 10000).map (fun a => (topFrom treeTable (OpenLaw.row PySem.Challenge.rw_boxlayers_k46_other_covers_taken).prog (w.withFollow "special-get-raises" true) 10000 a).map (fun s => (openSeen view ["LENGTHS"] (importedModules (OpenLaw.row PySem.Challenge.rw_boxlayers_k46_other_covers_taken).prog.main.body) (fun s => xlAt view [] s && recOk (RowW.records (OpenRow.toRowW (OpenLaw.row PySem.Challenge.rw_boxlayers_k46_other_covers_taken))) s) true s, Hook.obs hook s))) = some (some (openGood view ["LENGTHS"], Hook.val hook (w.withFollow "special-get-raises" true))) := by kernel_rfl
theorem two_map {u v : Type} {o : Option u} {A B : u → v} {a b : v} (h1 : o.map A = some a) (h2 : o.map B = some b) : o.map (fun s => (A s, B s)) = some (a, b) := by
  cases o with
  | none => cases h1
  | some s => exact congrArg some (congr (congrArg Prod.mk (Option.some.inj h1)) (Option.some.inj h2))
theorem left : LeftO (OpenLaw.row PySem.Challenge.rw_boxlayers_k46_other_covers_taken).prog view ["LENGTHS"] (fun s => xlAt view [] s && recOk (RowW.records (OpenRow.toRowW (OpenLaw.row PySem.Challenge.rw_boxlayers_k46_other_covers_taken))) s) (Hook.obs hook) (Hook.val hook) 10000 := LeftO.of_split "special-get-raises" fun w => @two_map _ _ _ _ _ _ _ (headF w) (headT w)
end
end K46H
set_option Elab.async false
set_option linter.all false
set_option maxRecDepth 100000
namespace L2
open PySem PySem.Spec PyProof.Rows
abbrev Key:=Sum Int Str
def qr:Key -> Value -> Bool
 | .inl k,v=>Value.isInt k v
 | .inr x,v=>Value.isStrOf x v
def zS3 (w:World):Key -> Int
 | .inl k=>hashInt k
 | .inr x=>hashStr w x
theorem xk:∀ {k:Key} {v:Value},qr k v = true -> (∃ i t,k = Sum.inl i /\ v = Value.int i t) \/ (∃ x t,k = Sum.inr x /\ v = Value.str x t)
 | .inl i,v,h=>by
  obtain ⟨t,e⟩:=Value.isInt_shape (k:=i) (v:=v) h
  exact .inl ⟨i,t,rfl,e⟩
 | .inr x,v,h=>by
  obtain ⟨t,e⟩:=Value.isStrOf_shape (x:=x) (v:=v) h
  exact .inr ⟨x,t,rfl,e⟩
theorem Ja (i:Int) (t:Tok):qr (.inl i) (.int i t) = true:=by simp [qr,Value.isInt]
theorem jo (x:Str) (t:Tok):qr (.inr x) (.str x t) = true:=by simp [qr,Value.isStrOf]
theorem zz8 (a b:Int):decide ((Sum.inl a:Key) = Sum.inl b) = (a == b):=by
 by_cases e:a = b
 ·subst e; simp
 ·have h : ¬ (Sum.inl a : Key) = Sum.inl b := fun q => e (Sum.inl.inj q)
  rw [decide_eq_false h]
  exact (beq_eq_false_iff_ne.mpr e).symm
theorem zz5 (a b:Str):decide ((Sum.inr a:Key) = Sum.inr b) = decide (a = b):=by
 by_cases e:a = b
 ·subst e; simp
 ·have h : ¬ (Sum.inr a : Key) = Sum.inr b := fun q => e (Sum.inr.inj q)
  rw [decide_eq_false h,decide_eq_false e]
theorem zz7 (a:Int) (b:Str):decide ((Sum.inl a:Key) = Sum.inr b) = false:=decide_eq_false (fun q=>nomatch q)
theorem zz6 (a:Str) (b:Int):decide ((Sum.inr a:Key) = Sum.inl b) = false:=decide_eq_false (fun q=>nomatch q)
def yS (prog:Program) (w:World):PySem.KeyKind prog w Key where
 is:=qr
 hash:=zS3 w
 inj:=fun v a b ha hb=>by
  rcases xk ha with ⟨i,t,rfl,rfl⟩ | ⟨x,t,rfl,rfl⟩
  ·rcases xk hb with ⟨j, u, rfl, e⟩ | ⟨y, u, rfl, e⟩
   ·injection e with e1 _; rw [e1]
   ·exact nomatch e
  ·rcases xk hb with ⟨j, u, rfl, e⟩ | ⟨y, u, rfl, e⟩
   ·exact nomatch e
   ·injection e with e1 _; rw [e1]
 byValue:=fun k v h=>by
  rcases xk h with ⟨i,t,rfl,rfl⟩ | ⟨x,t,rfl,rfl⟩ <;> rfl
 pyHash:=fun hv h=>by
  rcases xk hv with ⟨i,t,rfl,rfl⟩ | ⟨x,t,rfl,rfl⟩
  ·exact wpAny_pyHash_int h
  ·exact wpAny_pyHash_str h
 eqBool:=fun hu hv h=>by
  rcases xk hu with ⟨i,t,rfl,rfl⟩ | ⟨x,t,rfl,rfl⟩
  ·rcases xk hv with ⟨j, u, rfl, rfl⟩ | ⟨y, u, rfl, rfl⟩
   ·rw [zz8] at h; exact wpAny_eqBool_int h
   ·rw [zz7] at h; exact SeqAt.EqAt.int_str i t y u _ _ _ _ h
  ·rcases xk hv with ⟨j, u, rfl, rfl⟩ | ⟨y, u, rfl, rfl⟩
   ·rw [zz6] at h; exact SeqAt.EqAt.str_int x t j u _ _ _ _ h
   ·rw [zz5] at h; exact wpAny_eqBool_str h
 «strs»:=fun k x t v h=>by
  rcases xk h with ⟨i,u,rfl,e⟩ | ⟨y,u,rfl,e⟩
  ·exact nomatch e
  ·injection e with e1 _
   subst e1
   cases v <;> rfl
theorem Ww (prog:Program) (w:World) (i:Int) (t:Tok):(yS prog w).is (.inl i) (.int i t) = true:=Ja i t
theorem Wv (prog:Program) (w:World) (x:Str) (t:Tok):(yS prog w).is (.inr x) (.str x t) = true:=jo x t
end L2
namespace L2
open PySem PySem.Spec PyProof.Rows
inductive V where
 | non | bl (b:Bool) | int (i:Int) | str (x:Str) | byt (b:Array UInt8) | flt (b:UInt64) | ref (a:Addr) | ty (n:String)
 deriving DecidableEq
def RelV:V -> Value -> Prop
 | .non,u=>u = Value.none
 | .bl b,u=>u = Value.bool b
 | .int i,u=>∃ t,u = Value.int i t
 | .str x,u=>∃ t,u = Value.str x t
 | .byt b,u=>∃ t,u = Value.bytes b t
 | .flt b,u=>∃ t,u = Value.float b t
 | .ref a,u=>u = Value.ref a
 | .ty n,u=>u = Value.type n
abbrev Vals:List V -> List Value -> Prop:=Paired RelV
theorem Vals.length {xs:List V} {us:List Value} (r:Vals xs us):xs.length = us.length:=Paired.length r
theorem Vals.get:∀ {xs:List V} {us:List Value} {i:Nat} {x:V},Vals xs us -> xs[i]? = some x -> ∃ u,us[i]? = some u /\ RelV x u
 | _,_,_,_,.nil,e=>by simp at e
 | _,_,0,_,.cons r _,e=>by simp at e; subst e; exact ⟨_,rfl,r⟩
 | _,_,i + 1,x,.cons _ t,e=>by
  obtain ⟨u,h1,h2⟩:=Vals.get (i:=i) (x:=x) t (by simpa using e)
  exact ⟨u,by simpa using h1,h2⟩
theorem Vals.set {x:V} {u:Value} (r:RelV x u):∀ {xs:List V} {us:List Value} (i:Nat),Vals xs us -> Vals (xs.set i x) (us.set i u)
 | _,_,_,.nil=>.nil
 | _,_,0,.cons _ t=>.cons r t
 | _,_,i + 1,.cons q t=>.cons q (Vals.set r i t)
theorem Vals.append:∀ {xs ys:List V} {us ws:List Value},Vals xs us -> Vals ys ws -> Vals (xs ++ ys) (us ++ ws)
 | _,_,_,_,.nil,s=>s
 | _,_,_,_,.cons r t,s=>.cons r (Vals.append t s)
theorem Vals.take:∀ {xs:List V} {us:List Value} (n:Nat),Vals xs us -> Vals (xs.take n) (us.take n)
 | _,_,0,_=>.nil
 | _,_,_ + 1,.nil=>.nil
 | _,_,n + 1,.cons r t=>.cons r (Vals.take n t)
theorem Vals.drop:∀ {xs:List V} {us:List Value} (n:Nat),Vals xs us -> Vals (xs.drop n) (us.drop n)
 | _,_,0,r=>r
 | _,_,_ + 1,.nil=>.nil
 | _,_,n + 1,.cons _ t=>Vals.drop n t
def xc0:Option V -> Option Value -> Prop
 | some v,some u=>RelV v u
 | none,none=>True
 | _,_=>False
def KV {κ:Type}:List (κ × V) -> List (κ × Value) -> Prop:=Paired fun (p:κ × V) (q:κ × Value)=>p.1 = q.1 /\ RelV p.2 q.2
def kV:Key -> V
 | .inl i=>.int i
 | .inr x=>.str x
inductive HO where
 /-- a list -/
 | lst (xs:List V)
 /-- a tuple (never changes) -/
 | tup (xs:List V)
 /-- a dict whose keys are ints and texts; one whose keys are tuples of ints and texts (the empty one is both) -/
 | dK (kvs:List (Key × V)) | dT (kvs:List (List Key × V))
 /-- a set of ints: its members, its size -/
 | set (S:Int -> Bool) (n:Nat)
 /-- an instance of the class at C, its dict at dx, its attributes -/
 | ins (C dx:Addr) (fs:List (Str × V))
 /-- the dict of the instance at x -/
 | own (x:Addr)
 /-- the dict of an exception -/
 | xd (fs:List (Str × V))
 /-- a bound method, f of x -/
 | met (f x:Addr)
 /-- a range object lo, lo + 1, .. below hi -/
 | rng (lo hi:Int)
 /-- a thing that is known to the object (the script; a dict while a loop walks it): read, never written while it is so -/
 | frz (o:Obj) (u:HO)
 /-- a code object's table -/
 | tbl (ps:Array Value)
 /-- a code object's table: the code objects in it are known and stay -/
 | cot (q:Str)
 /-- any other thing, by what is true of its one object (a def of one's own: SetO a S n := HO.ext fun h => ..) -/
 | ext (φ:Heap -> Prop)
abbrev Hp:=Addr -> Option HO
def upd (H:Hp) (a:Addr) (o:HO):Hp:=fun b=>if b = a then some o else H b
theorem xg {H:Hp} {a:Addr} {o:HO}:upd H a o a = some o:=by unfold upd; rw [if_pos rfl]
theorem zG {H:Hp} {a b:Addr} {o:HO} (h:b ≠ a):upd H a o b = H b:=by unfold upd; rw [if_neg h]
theorem zU {H:Hp} {a b:Addr} {o:HO} (h:H a = some o) (h':H b = none):a ≠ b:=by
 intro e; subst e; rw [h] at h'; cases h'
def zD4 (oc:Obj) (q:Str):Prop:=∃ vs t,oc.data = .fields vs /\ vs[1]? = some (.str q t)
inductive TabG (φ:Addr -> Prop):List Value -> Prop where
 | nil:TabG φ []
 | cons {i j:Int} {t u:Tok} {c:Addr} {r:List Value} (h:φ c) (g:TabG φ r):TabG φ (.int i t :: .int j u :: .ref c :: r)
theorem TabG.imp {φ ψ:Addr -> Prop} (f:∀ c,φ c -> ψ c) {l:List Value} (g:TabG φ l):TabG ψ l:=by
 induction g with
 | nil=>exact .nil
 | cons h _ ih=>exact .cons (f _ h) ih
section
variable (P:Program) (w:World)
def ObjOk (H:Hp) (h:Heap) (a:Addr):HO -> Prop
 | .lst xs=>xs.length <= sizeLine /\ ∃ (its:List Value) (n:Nat),Vals xs its /\ h.get? a = some { cls:=.type "list",data:=.seq its.toArray n }
 | .tup xs=>xs.length <= sizeLine /\ ∃ its:List Value,Vals xs its /\ IsTup h a its.toArray
 | .dK kvs=>kvs.length <= sizeLine /\ (a == sysModules) = false /\ ∃ vs,KV kvs vs /\ h.DictOf (yS P w) a vs
 | .dT kvs => kvs.length <= sizeLine /\ (a == sysModules) = false /\ ∃ xs : List (List Key × Addr × Value),
   Paired (fun (p:List Key × V) (q:List Key × Addr × Value)=>p.1 = q.1 /\ H q.2.1 = some (.tup (p.1.map kV)) /\ RelV p.2 q.2.2) kvs xs /\
   ∃ o es ep,h.get? a = some o /\ o.ExactDict /\ o.data = .dict es ep /\ es.toList = xs.map (entryOfKey (tupleKind (yS P w))) /\ (xs.map (·.1)).Nodup
 | .set S n=>h.SetOf (intKind P w) a S n
 | .ins C dx fs => H dx = some (.own a) /\ fs.length <= 1000 /\ dx ≠ a /\ h.get? a = some (PySem.W.instObj C dx) /\
   ∃ mA,h.Ns1 dx mA /\ (∀ f,xc0 (fs.lookup f) (mA f)) /\ PySem.Within mA (fs.map (·.1))
 | .own _=>∃ o,h.get? a = some o
 | .xd fs=>∃ mA,h.Ns1 a mA /\ ∀ f,xc0 (fs.lookup f) (mA f)
 | .rng lo hi=>∃ t u v,h.get? a = some { cls:=.type "range",data:=.fields #[.int lo t,.int hi u,.int 1 v] }
 | .frz o u=>h.get? a = some o /\ ObjOk H h a u
 | .tbl ps=>h.get? a = some { cls:=.none,data:=.fields ps }
 | .cot q=>∃ ps:Array Value,h.get? a = some { cls:=.none,data:=.fields ps } /\ TabG (fun c=>∃ oc,H c = some (.frz oc (.own 0)) /\ zD4 oc q) ps.toList
 | .met f x=>h.get? a = some (PySem.W.methodObj (.ref f) (.ref x))
 | .ext φ=>φ h /\ (∃ o,h.get? a = some o) /\ ∀ h1 h2:Heap,φ h1 -> (∀ o,h1.get? a = some o -> h2.get? a = some o) -> φ h2
def HOk (H:Hp) (h:Heap):Prop:=∀ a o,H a = some o -> ObjOk P w H h a o
end
section
variable {P:Program} {w:World} {H H':Hp} {h h':Heap} {a:Addr} {o:HO}
theorem ObjOk.lt (x:ObjOk P w H h a o):a < h.objs.size:=by
 cases o with
 | lst xs=>obtain ⟨_,_,_,_,e⟩:=x; exact Heap.lt_size e
 | tup xs=>obtain ⟨_,_,_,p⟩:=x; exact p.lt
 | dK kvs=>obtain ⟨_,_,_,_,o,_,_,e,_⟩:=x; exact Heap.lt_size e
 | dT kvs=>obtain ⟨_,_,_,_,o,_,_,e,_⟩:=x; exact Heap.lt_size e
 | set S n=>obtain ⟨o,_,_,_,e,_⟩:=x; exact Heap.lt_size e
 | ins C dx fs=>obtain ⟨_,_,_,e,_⟩:=x; exact Heap.lt_size e
 | own y=>obtain ⟨_,e⟩:=x; exact Heap.lt_size e
 | xd fs=>obtain ⟨_,⟨_,_,_,e,_⟩,_⟩:=x; exact Heap.lt_size e
 | rng lo hi=>obtain ⟨_,_,_,e⟩:=x; exact Heap.lt_size e
 | frz ob u=>obtain ⟨e,_⟩:=x; exact Heap.lt_size e
 | tbl ps=>exact Heap.lt_size (show h.get? a = some _ from x)
 | cot q=>obtain ⟨ps,e,_⟩:=x; exact Heap.lt_size e
 | met f y=>exact Heap.lt_size (show h.get? a = some _ from x)
 | ext φ=>obtain ⟨_,⟨_,e⟩,_⟩:=x; exact Heap.lt_size e
theorem Paired.mapP {α β:Type} {F G:α -> β -> Prop}:∀ {l₁:List α} {l₂:List β},Paired F l₁ l₂ -> (∀ a b,F a b -> G a b) -> Paired G l₁ l₂
 | _,_,.nil,_=>.nil
 | _,_,.cons r t,f=>.cons (f _ _ r) (Paired.mapP t f)
theorem ObjOk.stay (x:ObjOk P w H h a o) (k:∀ b u,(b = a \/ H b = some (.own a)) -> h.get? b = some u -> h'.get? b = some u)
  (ho:∀ b,H b = some (.own a) -> H' b = some (.own a)) (ht:∀ b xs,H b = some (.tup xs) -> H' b = some (.tup xs)) (hz:∀ b o u,H b = some (.frz o u) -> H' b = some (.frz o u)):ObjOk P w H' h' a o:=by
 induction o with
 | lst xs=>obtain ⟨z,its,n,r,e⟩:=x; exact ⟨z,its,n,r,k _ _ (.inl rfl) e⟩
 | tup xs=>obtain ⟨z,its,r,ob,e,c⟩:=x; exact ⟨z,its,r,ob,k _ _ (.inl rfl) e,c⟩
 | dK kvs=>obtain ⟨z,y,vs,r,ob,es,ep,e,c⟩:=x; exact ⟨z,y,vs,r,ob,es,ep,k _ _ (.inl rfl) e,c⟩
 | dT kvs =>
  obtain ⟨z,y,xs,r,ob,es,ep,e,c⟩:=x
  exact ⟨z,y,xs,Paired.mapP r fun p q z=>⟨z.1,ht _ _ z.2.1,z.2.2⟩,ob,es,ep,k _ _ (.inl rfl) e,c⟩
 | set S n=>obtain ⟨ob,es,ep,t,e,c⟩:=x; exact ⟨ob,es,ep,t,k _ _ (.inl rfl) e,c⟩
 | ins C dx fs =>
  obtain ⟨d,z,ne,e,mA,⟨od,es,ep,e2,c⟩,r⟩:=x
  exact ⟨ho _ d,z,ne,k _ _ (.inl rfl) e,mA,⟨od,es,ep,k _ _ (.inr d) e2,c⟩,r⟩
 | own y=>obtain ⟨ob,e⟩:=x; exact ⟨ob,k _ _ (.inl rfl) e⟩
 | xd fs=>obtain ⟨mA,⟨od,es,ep,e,c⟩,r⟩:=x; exact ⟨mA,⟨od,es,ep,k _ _ (.inl rfl) e,c⟩,r⟩
 | rng lo hi=>obtain ⟨t,u,v,e⟩:=x; exact ⟨t,u,v,k _ _ (.inl rfl) e⟩
 | frz ob u ih=>obtain ⟨e,q⟩:=x; exact ⟨k _ _ (.inl rfl) e,ih q⟩
 | cot q=>obtain ⟨ps,e,g⟩:=x; exact ⟨ps,k _ _ (.inl rfl) e,g.imp fun c ⟨oc,z,i⟩=>⟨oc,hz _ _ _ z,i⟩⟩
 | tbl ps =>
  have e:h.get? a = some { cls:=.none,data:=.fields ps }:=x
  show h'.get? a = some { cls:=.none,data:=.fields ps }
  exact k a _ (.inl rfl) e
 | met f y =>
  have e:h.get? a = some (PySem.W.methodObj (.ref f) (.ref y)):=x
  show h'.get? a = some (PySem.W.methodObj (.ref f) (.ref y))
  exact k a _ (.inl rfl) e
 | ext φ=>obtain ⟨p,⟨o,e⟩,st⟩:=x; exact ⟨st _ _ p fun o q=>k _ _ (.inl rfl) q,⟨o,k _ _ (.inl rfl) e⟩,st⟩
theorem HOk.lt (x:HOk P w H h) (e:H a = some o):a < h.objs.size:=(x a o e).lt
theorem HOk.fresh (x:HOk P w H h) (e:h.objs.size <= a):H a = none:=by
 cases q:H a with
 | none=>rfl
 | some u=>exact absurd (Nat.lt_of_lt_of_le (x.lt q) e) (Nat.lt_irrefl _)
theorem HOk.kept (x:HOk P w H h) (k:∀ b u,h.get? b = some u -> h'.get? b = some u):HOk P w H h':=fun a o e =>
 (x a o e).stay (fun b u _ q=>k b u q) (fun _ q=>q) (fun _ _ q=>q) fun _ _ _ q=>q
theorem HOk.laid (x:HOk P w H h) (k:∀ b u,h.get? b = some u -> h'.get? b = some u) (hp:h.objs.size <= a) (new:ObjOk P w (upd H a o) h' a o):HOk P w (upd H a o) h':=fun b u e=>by
 have hn:=x.fresh hp
 by_cases hb:b = a
 ·subst hb; rw [xg] at e; cases e; exact new
 ·rw [zG hb] at e
  exact (x b u e).stay (fun c v _ q=>k c v q) (fun c q=>by rw [zG (zU q hn)]; exact q) (fun c xs q=>by rw [zG (zU q hn)]; exact q) fun c o u q=>by rw [zG (zU q hn)]; exact q
end
def Rd (H:Hp) (a:Addr) (u:HO):Prop:=H a = some u \/ ∃ o,H a = some (.frz o u)
theorem Rd.ok {P:Program} {w:World} {H:Hp} {h:Heap} {a:Addr} {u:HO} (r:Rd H a u) (x:HOk P w H h):ObjOk P w H h a u:=by
 rcases r with r | ⟨o,r⟩
 ·exact x a u r
 ·obtain ⟨_, q⟩ := x a _ r
  exact q
def Mut:Option HO -> Prop
 | some (.lst _)=>True
 | some (.dK _)=>True
 | some (.dT _)=>True
 | some (.set _ _)=>True
 | some (.ins _ _ _)=>True
 | some (.ext _)=>True
 | _=>False
section
variable {P:Program} {w:World} {H:Hp} {h h':Heap} {x e:Addr} {o':HO}
theorem HOk.write (ok:HOk P w H h) (mu:Mut (H x)) (he:e = x \/ H e = some (.own x)) (k:∀ b u,b ≠ e -> h.get? b = some u -> h'.get? b = some u) (heo:∃ u,h'.get? e = some u)
  (new:ObjOk P w (upd H x o') h' x o'):HOk P w (upd H x o') h':=fun b u q=>by
 have nown:∀ c y,H c = some (.own y) -> c ≠ x:=fun c y r z=>by subst z; rw [r] at mu; exact mu
 have ntup:∀ c xs,H c = some (.tup xs) -> c ≠ x:=fun c xs r z=>by subst z; rw [r] at mu; exact mu
 by_cases hb:b = x
 ·subst hb; rw [xg] at q; cases q; exact new
 ·rw [zG hb] at q
  by_cases hbe:b = e
  ·have q' : H b = some (.own x) := by
    rcases he with z | z
    ·exact absurd (hbe.trans z) hb
    ·rw [hbe]; exact z
   rw [q] at q'; cases q'
   obtain ⟨v,hv⟩:=heo
   exact ⟨v,by rw [hbe]; exact hv⟩
  ·refine (ok b u q).stay (fun c v hc r => k c v ?_ r) (fun c r => by rw [zG (nown c b r)]; exact r) (fun c xs r => by rw [zG (ntup c xs r)]; exact r) fun c o u r => by rw [zG (fun z => by rw [<- z, r] at mu; exact mu)]; exact r
   rcases hc with rfl | hc
   ·exact hbe
   ·rintro rfl
    rcases he with z | z
    ·exact nown c b hc z
    ·rw [hc] at z; cases z; exact hb rfl
end
structure Un (fs ex:List Addr) (H H':Hp) (h h':Heap):Prop where
 keep:∀ b o,h.get? b = some o -> H b = none -> b ∉ fs -> b ∉ ex -> h'.get? b = some o
 slot:∀ b o,h.get? b = some o -> H b = none -> b ∈ fs -> b ∉ ex -> ∃ sl,h'.get? b = some { o with slots:=sl }
 free:∀ b o,h.get? b = some o -> H b = none -> b ∉ ex -> H' b = none
 there:∀ b o,h.get? b = some o -> b ∉ ex -> ∃ o',h'.get? b = some o'
 tups:∀ b xs,H b = some (.tup xs) -> H' b = some (.tup xs)
 frzs:∀ b o u,H b = some (.frz o u) -> H' b = some (.frz o u)
 tbls:∀ b ps,H b = some (.tbl ps) -> ∃ more,H' b = some (.tbl (ps ++ more))
section
variable {fs fs' ex ex':List Addr} {H H1 H2:Hp} {h h1 h2 h':Heap} {a x e:Addr} {o:HO}
theorem Un.any (u:Un fs ex H H1 h h1) {b:Addr} {ob:Obj} (q:h.get? b = some ob) (n:H b = none) (hx:b ∉ ex):∃ sl,h1.get? b = some { ob with slots:=sl }:=by
 by_cases hb:b ∈ fs
 ·exact u.slot b ob q n hb hx
 ·exact ⟨ob.slots,u.keep b ob q n hb hx⟩
theorem Un.kept (k:∀ b u,h.get? b = some u -> h'.get? b = some u):Un fs ex H H h h' :=
 ⟨fun b ob q _ _ _=>k b ob q,fun b ob q _ _ _=>⟨ob.slots,k b ob q⟩,fun _ _ _ n _=>n,fun b ob q _=>⟨ob,k b ob q⟩,fun _ _ q=>q,fun _ _ _ q=>q,fun _ ps q=>⟨#[],by rw [q]; simp⟩⟩
theorem Un.refl:Un fs ex H H h h:=Un.kept fun _ _ q=>q
theorem Un.laid (k:∀ b u,h.get? b = some u -> h'.get? b = some u) (hp:h.objs.size <= a) (hn:H a = none):Un fs ex H (upd H a o) h h' where
 keep:=fun b u q _ _ _=>k b u q
 slot:=fun b u q _ _ _=>⟨u.slots,k b u q⟩
 free:=fun b u q n _=>by rw [zG (Nat.ne_of_lt (Nat.lt_of_lt_of_le (Heap.lt_size q) hp))]; exact n
 there:=fun b u q _=>⟨u,k b u q⟩
 tups:=fun b xs q=>by rw [zG (zU q hn)]; exact q
 frzs:=fun b u xs q=>by rw [zG (zU q hn)]; exact q
 tbls:=fun b ps q=>⟨#[],by rw [zG (zU q hn),q]; simp⟩
theorem Un.write (mu:Mut (H x)) (he:e = x \/ H e = some (.own x)) (k:∀ b u,b ≠ e -> h.get? b = some u -> h'.get? b = some u) (heo:∃ u,h'.get? e = some u):Un fs ex H (upd H x o) h h':=by
 have hx:∀ b,H b = none -> b ≠ x:=fun b n z=>by subst z; rw [n] at mu; exact mu
 have hb:∀ b,H b = none -> b ≠ e:=fun b n z=>by
  subst z
  rcases he with r | r
  ·exact hx b n r
  ·rw [n] at r; cases r
 have hm:∀ b u,H b = some u -> ¬ Mut (some u) -> b ≠ x:=fun b u q nm z=>by subst z; rw [q] at mu; exact nm mu
 refine ⟨fun b u q n _ _=>k b u (hb b n) q,fun b u q n _ _=>⟨u.slots,k b u (hb b n) q⟩,fun b u q n _=>by rw [zG (hx b n)]; exact n,fun b u q _=>?_,
  fun b xs q=>by rw [zG (hm b _ q fun z=>z)]; exact q,fun b u xs q=>by rw [zG (hm b _ q fun z=>z)]; exact q,fun b ps q=>⟨#[],by rw [zG (hm b _ q fun z=>z),q]; simp⟩⟩
 by_cases hbe:b = e
 ·subst hbe; exact heo
 ·exact ⟨u,k b u hbe q⟩
end
def trk (h:Heap) (H:Hp):List Addr:=(List.range h.objs.size).filter fun a=>(H a).isSome
def Qm (h:Heap) (H:Hp):Heap:=PySem.W.hideAll h (trk h H)
theorem Jf (h:Heap) (H:Hp):(Qm h H).objs.size = h.objs.size:=PySem.W.hideAll_size _ _
theorem zc4 {h:Heap} {H:Hp} {b:Addr} {o:Obj} (e:h.get? b = some o) (n:H b = none):(Qm h H).get? b = some o :=
 PySem.W.hideAll_get _ e fun hm=>by
  have q:(H b).isSome = true:=(List.mem_filter.mp hm).2
  rw [n] at q; simp at q
theorem zm4 {h:Heap} {H:Hp} {b:Addr} {o:Obj} (e:(Qm h H).get? b = some o):h.get? b = some o /\ H b = none:=by
 have e':h.get? b = some o:=PySem.W.of_hideAll (trk h H) e
 refine ⟨e',?_⟩
 cases q:H b with
 | none=>rfl
 | some x =>
  have hm:b ∈ trk h H:=List.mem_filter.mpr ⟨List.mem_range.mpr (Heap.lt_size e'),by simp [q]⟩
  have z:(Qm h H).get? b = none:=PySem.W.hideAll_none (trk h H) hm
  rw [z] at e; cases e
def zp6 (g h:Heap) (L:Addr):List (Addr × Obj):=(List.range h.objs.size).filterMap fun a=>if a = L \/ (g.get? a).isSome = true then none else (h.get? a).map fun o=>(a,o)
def rest (g h:Heap) (L d:Addr):List (Addr × Obj):=(zp6 g h L).filter fun p=>decide (p.1 ≠ d)
end L2
namespace L2
open PySem PySem.Spec PyProof.Rows
structure Mod (K:PySem.W.Frag) (mg:Str -> Option Value) (base:Heap):Prop where
 kin:K.In base
 glob:base.Ns mainGlobals mg
 blt:∃ mb,base.Ns builtinsNs mb /\ ∀ x:Str,x ≠ "__name__" -> mb x = bootBuiltins x
 nolimit:base.NoLimit
structure Cx where
 prog:Program
 w:World
 K:PySem.W.Frag
 mg:Str -> Option Value
 base:Heap
 A:Around
 N:List Str
 s₀:Shared
 H₀:Hp
 env:Env
 outer:List Env
 stack:List Env
 ex:List Addr
 fn:Str -> Bool
 calm:Bool
 pn:List (Addr × Obj)
 xe:Value -> Shared -> Prop
def frs (l:List Env):List Addr:=l.filterMap (·.frame)
abbrev Cx.fs (X:Cx):List Addr:=frs X.outer
def Vis (sc:Scope) (x:Str):Prop:=sc.names.lookup x = some .local \/ sc.names.lookup x = some .cell \/ sc.names.lookup x = some .free
def Loc (sc:Scope) (x:Str):Prop:=sc.names.lookup x = some .local \/ sc.names.lookup x = some .cell
def xj7 (env:Env) (h:Heap) (m:Str -> Option Value) (x:Str) (u:Value):Prop :=
 (env.kindOf x = some .local /\ m x = some u) \/ ((env.kindOf x = some .cell \/ env.kindOf x = some .free) /\ ∃ c,env.cells.lookup x = some c /\ h.IsCell c (some u))
structure Cx.Ok (X:Cx):Prop where
 mod:Mod X.K X.mg X.base
 kind:X.env.scope.kind = .function
 glob:X.env.globals = mainGlobals
 blt:X.env.builtins = builtinsNs
 above:X.s₀.heap.objs.size <= X.env.locals
 inj:∀ x y c,X.env.cells.lookup x = some c -> X.env.cells.lookup y = some c -> x = y
 has:∀ x,(X.env.kindOf x = some .cell \/ X.env.kindOf x = some .free) -> ∃ c,X.env.cells.lookup x = some c
 cab:∀ x c,X.fn x = true -> X.env.cells.lookup x = some c -> X.s₀.heap.objs.size <= c
 hd:X.calm = true -> X.A.handled = none
 frames:X.A.frames = some X.stack
 stk:X.stack = X.outer \/ (X.stack = X.env :: X.outer /\ X.env.frame = some X.env.locals)
 exf:∀ b ∈ X.ex,b ≠ X.env.locals /\ ∀ x c,X.env.cells.lookup x = some c -> c ≠ b
 bs:∀ b o,X.base.get? b = some o -> X.s₀.heap.get? b = some o /\ X.H₀ b = none
 bsz:X.base.objs.size <= X.s₀.heap.objs.size
 noex:∀ b o,X.base.get? b = some o -> b ∉ X.ex
 exfs:∀ b ∈ X.ex,b ∉ X.fs
 funs:X.s₀.heap.FunFrames X.base X.outer
 frf:∀ b ∈ X.fs,X.H₀ b = none
structure Inv (X:Cx) (pins:List (Addr × Obj)) (σ:List (Option V)) (H:Hp) (s:Shared):Prop where
 ok:X.Ok
 os:s.os = X.s₀.os
 bare:AllBare s.gens
 base:Un X.fs X.ex X.H₀ H X.s₀.heap s.heap
 loc:∃ m,s.heap.Ns X.env.locals m /\ ∀ (i:Nat) (x:Str) (v:V),X.N[i]? = some x -> σ[i]? = some (some v) -> Vis X.env.scope x -> ∃ u,RelV v u /\ xj7 X.env s.heap m x u
 cell:∀ x c,X.env.cells.lookup x = some c -> ∃ v,s.heap.IsCell c v
 free:H X.env.locals = none
 freeC:∀ x c,X.env.cells.lookup x = some c -> H c = none
 pin:∀ p ∈ X.pn ++ pins,s.heap.get? p.1 = some p.2 /\ H p.1 = none /\ p.1 ≠ X.env.locals /\ p.1 ∉ X.fs /\ ∀ v,p.2.data ≠ .cell v
 hok:HOk X.prog X.w H s.heap
 len:σ.length = X.N.length
section
variable {X:Cx} {pins:List (Addr × Obj)} {σ:List (Option V)} {H H':Hp} {s:Shared} {h':Heap}
theorem Cx.Ok.nofr (ok:X.Ok) {b:Addr} {o:Obj} (e:X.base.get? b = some o):b ∉ X.fs:=fun hb=>by
 have:=(ok.funs.mem hb).1
 rw [e] at this; cases this
theorem Inv.bs (I:Inv X pins σ H s):∀ b o,X.base.get? b = some o -> s.heap.get? b = some o /\ H b = none:=fun b o e =>
 ⟨I.base.keep b o (I.ok.bs b o e).1 (I.ok.bs b o e).2 (I.ok.nofr e) (I.ok.noex b o e),I.base.free b o (I.ok.bs b o e).1 (I.ok.bs b o e).2 (I.ok.noex b o e)⟩
theorem Inv.bk (I:Inv X pins σ H s):∀ b o,X.base.get? b = some o -> s.heap.get? b = some o:=fun b o e=>(I.bs b o e).1
theorem Inv.mod (I:Inv X pins σ H s):Mod X.K X.mg X.base:=I.ok.mod
theorem Inv.kIn (I:Inv X pins σ H s):X.K.In s.heap:=I.ok.mod.kin.keeps I.bk
theorem Inv.nolimit (I:Inv X pins σ H s):s.heap.NoLimit:=I.ok.mod.nolimit.keeps I.bk
theorem Inv.lt (I:Inv X pins σ H s):X.env.locals < s.heap.objs.size:=let ⟨_,hn,_⟩:=I.loc; hn.lt
theorem Inv.sz (I:Inv X pins σ H s):X.s₀.heap.objs.size <= s.heap.objs.size:=Nat.le_trans I.ok.above (Nat.le_of_lt I.lt)
theorem Inv.nofs (I:Inv X pins σ H s) {a:Addr} (h:s.heap.objs.size <= a):a ∉ X.fs:=fun hb=>by
 obtain ⟨_,o,ho,_⟩:=I.ok.funs.mem hb
 exact absurd (Nat.lt_of_lt_of_le (Heap.lt_size ho) (Nat.le_trans I.sz h)) (Nat.lt_irrefl _)
theorem Inv.cne (I:Inv X pins σ H s):∀ x c,X.env.cells.lookup x = some c -> c ≠ X.env.locals:=fun x c e z=>by
 obtain ⟨v,o,ho,hd⟩:=I.cell x c e
 obtain ⟨m,⟨o',es,ep,ho',hd',_⟩,_⟩:=I.loc
 rw [z,ho'] at ho; cases ho; rw [hd'] at hd; cases hd
theorem Inv.funs (I:Inv X pins σ H s):s.heap.FunFrames X.base X.outer:=by
 have all:∀ (l:List Env),(∀ b ∈ frs l,b ∈ X.fs) -> X.s₀.heap.FunFrames X.base l -> s.heap.FunFrames X.base l:=by
  intro l
  induction l with
  | nil=>intro _ _; trivial
  | cons env r ih =>
   intro hs hl
   obtain ⟨hk,⟨L,o,hf,hn,ho,hd⟩,hr⟩:=hl
   have hL:L ∈ X.fs:=hs L (by unfold frs; rw [List.filterMap_cons,hf]; exact List.mem_cons_self)
   obtain ⟨sl,e⟩:=I.base.slot L o ho (I.ok.frf L hL) hL fun z=>I.ok.exfs L z hL
   exact ⟨hk,⟨L,_,hf,hn,e,hd⟩,ih (fun b hb=>hs b (by unfold frs; rw [List.filterMap_cons,hf]; exact List.mem_cons_of_mem _ hb)) hr⟩
 exact all X.outer (fun _ hb=>hb) I.ok.funs
theorem Inv.stack (I:Inv X pins σ H s):s.heap.FunFrames X.base X.stack:=by
 rcases I.ok.stk with e | ⟨e,hf⟩
 ·rw [e]; exact I.funs
 ·rw [e]
  obtain ⟨m,hn,_⟩:=I.loc
  refine .cons (by rw [I.ok.kind]; decide) hf hn ?_ I.funs
  exact Heap.get?_none_of_le (Nat.le_trans I.ok.bsz I.ok.above)
theorem Inv.stkSub (I:Inv X pins σ H s):∀ b ∈ frs X.stack,b ∈ X.env.locals :: X.fs:=fun b hb=>by
 rcases I.ok.stk with e | ⟨e,hf⟩
 ·rw [e] at hb; exact List.mem_cons_of_mem _ hb
 ·rw [e] at hb
  unfold frs at hb
  rw [List.filterMap_cons,hf] at hb
  exact hb
theorem Inv.stkFree (I:Inv X pins σ H s):∀ b ∈ frs X.stack,H b = none:=fun b hb=>by
 rcases List.mem_cons.mp (I.stkSub b hb) with e | hb
 ·rw [e]; exact I.free
 ·obtain ⟨_, o, ho, _⟩ := I.ok.funs.mem hb
  exact I.base.free b o ho (I.ok.frf b hb) fun z=>I.ok.exfs b z hb
theorem Inv.step {g':Array GenState} {t':Nat} {d':Drawn} {ch:List Addr} (I:Inv X pins σ H s)
  (hch:∀ b ∈ ch,(b ∈ X.ex \/ X.s₀.heap.objs.size <= b) /\ b ≠ X.env.locals /\ (∀ x c,X.env.cells.lookup x = some c -> c ≠ b) /\ ∀ p ∈ X.pn ++ pins,p.1 ≠ b)
  (keep:∀ b o,b ≠ X.env.locals -> b ∉ X.fs -> b ∉ ch -> s.heap.get? b = some o -> H b = none -> h'.get? b = some o)
  (slot:∀ b o,b ≠ X.env.locals -> b ∈ X.fs -> b ∉ ch -> s.heap.get? b = some o -> H b = none -> ∃ sl,h'.get? b = some { o with slots:=sl }) (free:∀ b o,b ∉ ch -> s.heap.get? b = some o -> H b = none -> H' b = none)
  (there:∀ b o,b ∉ ch -> s.heap.get? b = some o -> ∃ o',h'.get? b = some o')
  (tups:∀ b xs,H b = some (.tup xs) -> H' b = some (.tup xs)) (frzs:∀ b o u,H b = some (.frz o u) -> H' b = some (.frz o u)) (tbls:∀ b ps,H b = some (.tbl ps) -> ∃ more,H' b = some (.tbl (ps ++ more)))
  (ns:∀ m,s.heap.Ns X.env.locals m -> h'.Ns X.env.locals m) (hok:HOk X.prog X.w H' h') (hg:AllBare g') :
  Inv X pins σ H' { s with heap:=h',gens:=g',drawn:=d',toks:=t' }:=by
 have neL:∀ b o,X.s₀.heap.get? b = some o -> b ≠ X.env.locals:=fun b o e=>Nat.ne_of_lt (Nat.lt_of_lt_of_le (Heap.lt_size e) I.ok.above)
 have neC:∀ b o,X.s₀.heap.get? b = some o -> b ∉ X.ex -> b ∉ ch:=fun b o e hx hb=>by
  rcases (hch b hb).1 with z | z
  ·exact hx z
  ·exact absurd (Nat.lt_of_lt_of_le (Heap.lt_size e) z) (Nat.lt_irrefl _)
 have cellK:∀ x c,X.env.cells.lookup x = some c -> ∀ v,s.heap.IsCell c v -> h'.IsCell c v:=fun x c e v ⟨o,ho,hd⟩=>by
  have nch:c ∉ ch:=fun z=>(hch c z).2.2.1 x c e rfl
  by_cases hc:c ∈ X.fs
  ·obtain ⟨sl, q⟩ := slot c o (I.cne x c e) hc nch ho (I.freeC x c e)
   exact ⟨_,q,hd⟩
  ·exact ⟨o,keep c o (I.cne x c e) hc nch ho (I.freeC x c e),hd⟩
 refine ⟨I.ok,I.os,hg,⟨fun b o e n hb hx=>?_,fun b o e n hb hx=>?_,fun b o e n hx=>?_,fun b o e hx=>?_,fun b xs e=>tups b xs (I.base.tups b xs e),fun b o xs e=>frzs b o xs (I.base.frzs b o xs e),fun b ps e=>?_⟩,?_,fun x c e=>?_,?_,fun x c e=>?_,fun p hp=>?_,hok,I.len⟩
 ·exact keep b o (neL b o e) hb (neC b o e hx) (I.base.keep b o e n hb hx) (I.base.free b o e n hx)
 ·obtain ⟨sl, e1⟩ := I.base.slot b o e n hb hx
  obtain ⟨sl',e2⟩:=slot b _ (neL b o e) hb (neC b o e hx) e1 (I.base.free b o e n hx)
  exact ⟨sl',e2⟩
 ·obtain ⟨o', e1⟩ := I.base.there b o e hx
  exact free b o' (neC b o e hx) e1 (I.base.free b o e n hx)
 ·obtain ⟨o', e1⟩ := I.base.there b o e hx
  exact there b o' (neC b o e hx) e1
 ·obtain ⟨m1, e1⟩ := I.base.tbls b ps e
  obtain ⟨m2,e2⟩:=tbls b _ e1
  exact ⟨m1 ++ m2,by rw [e2,Array.append_assoc]⟩
 ·obtain ⟨m, hn, hl⟩ := I.loc
  refine ⟨m,ns m hn,fun i x v e1 e2 e3=>?_⟩
  obtain ⟨u,r,l⟩:=hl i x v e1 e2 e3
  refine ⟨u,r,?_⟩
  rcases l with l | ⟨k,c,e,z⟩
  ·exact .inl l
  ·exact .inr ⟨k,c,e,cellK x c e _ z⟩
 ·obtain ⟨v, z⟩ := I.cell x c e
  exact ⟨v,cellK x c e v z⟩
 ·obtain ⟨m, ⟨o, _, _, ho, _⟩, _⟩ := I.loc
  exact free _ o (fun z=>(hch _ z).2.1 rfl) ho I.free
 ·obtain ⟨v, o, ho, hd⟩ := I.cell x c e
  exact free c o (fun z=>(hch c z).2.2.1 x c e rfl) ho (I.freeC x c e)
 ·obtain ⟨e, n, ne, nf, d⟩ := I.pin p hp
  have nch:p.1 ∉ ch:=fun z=>(hch p.1 z).2.2.2 p hp rfl
  exact ⟨keep p.1 p.2 ne nf nch e n,free p.1 p.2 nch e n,ne,nf,d⟩
theorem Inv.un {t':Nat} (I:Inv X pins σ H s) (u:Un X.fs [] H H' s.heap h') (hok:HOk X.prog X.w H' h'):Inv X pins σ H' { s with heap:=h',toks:=t' }:=by
 obtain ⟨m,⟨o,es,ep,ho,r⟩,_⟩:=id I.loc
 obtain ⟨sl,hL⟩:=u.any ho I.free (by simp)
 exact I.step (g':=s.gens) (d':=s.drawn) (ch:=[]) (fun _ z=>nomatch z) (fun b o _ hb _ e n=>u.keep b o e n hb (by simp)) (fun b o _ hb _ e n=>u.slot b o e n hb (by simp)) (fun b o _ e n=>u.free b o e n (by simp)) (fun b o _ e=>u.there b o e (by simp)) u.tups u.frzs u.tbls (fun m' hm=>by
  obtain ⟨o',es',ep',ho',r'⟩:=hm
  rw [ho] at ho'; cases ho'
  exact ⟨_,es',ep',hL,r'⟩) hok I.bare
theorem Inv.call {g':Array GenState} {t':Nat} {d':Drawn} {ch:List Addr} (I:Inv X pins σ H s) (u:Un (frs X.stack) ch H H' s.heap h') (hok:HOk X.prog X.w H' h') (hg:AllBare g')
  (hch:∀ b ∈ ch,(b ∈ X.ex \/ X.s₀.heap.objs.size <= b) /\ b ≠ X.env.locals /\ (∀ x c,X.env.cells.lookup x = some c -> c ≠ b) /\ ∀ p ∈ X.pn ++ pins,p.1 ≠ b) :
  Inv X pins σ H' { s with heap:=h',gens:=g',drawn:=d',toks:=t' }:=by
 obtain ⟨m,⟨o,es,ep,ho,r⟩,_⟩:=id I.loc
 obtain ⟨sl,hL⟩:=u.any ho I.free fun z=>(hch _ z).2.1 rfl
 exact I.step (ch:=ch) hch (fun b o hL hb hc e n=>u.keep b o e n (fun z=>(List.mem_cons.mp (I.stkSub b z)).elim hL hb) hc) (fun b o _ _ hc e n=>u.any e n hc) (fun b o hc e n=>u.free b o e n hc) (fun b o hc e=>u.there b o e hc) u.tups u.frzs u.tbls (fun m' hm=>by
  obtain ⟨o',es',ep',ho',r'⟩:=hm
  rw [ho] at ho'; cases ho'
  exact ⟨_,es',ep',hL,r'⟩) hok hg
theorem Inv.turned {t':Nat} {it:Addr} (I:Inv X pins σ H s) (k:∀ b o,b ≠ it -> s.heap.get? b = some o -> h'.get? b = some o) (hn:H it = none) (hL:it ≠ X.env.locals)
  (h1:it ∈ X.ex \/ X.s₀.heap.objs.size <= it) (h2:∀ x c,X.env.cells.lookup x = some c -> c ≠ it) (h3:∀ p ∈ X.pn ++ pins,p.1 ≠ it):Inv X pins σ H { s with heap:=h',toks:=t' }:=by
 have nit:∀ b u,H b = some u -> b ≠ it:=fun b u e z=>by rw [z,hn] at e; cases e
 refine I.step (g':=s.gens) (d':=s.drawn) (ch:=[it]) (fun b hb=>?_) (fun b o _ _ hc e _=>k b o (fun z=>hc (by simp [z])) e) (fun b o _ _ hc e _=>⟨o.slots,k b o (fun z=>hc (by simp [z])) e⟩) (fun _ _ _ _ n=>n)
  (fun b o hc e=>⟨o,k b o (fun z=>hc (by simp [z])) e⟩) (fun _ _ e=>e) (fun _ _ _ e=>e) (fun b ps e=>⟨#[],by rw [e]; simp⟩) (fun m hm=>?_) (fun b u e=>?_) I.bare
 ·have e : b = it := by simpa using hb
  subst e
  exact ⟨h1,hL,h2,h3⟩
 ·obtain ⟨o, es, ep, ho, r⟩ := hm
  exact ⟨o,es,ep,k _ o (Ne.symm hL) ho,r⟩
 ·refine (I.hok b u e).stay (fun c v hc q => k c v ?_ q) (fun _ q => q) (fun _ _ q => q) fun _ _ _ q => q
  rcases hc with z | z
  ·rw [z]; exact nit b u e
  ·exact nit c _ z
theorem Inv.tok (I:Inv X pins σ H s) (t:Nat):Inv X pins σ H { s with toks:=t }:=I.un (h':=s.heap) (t':=t) Un.refl I.hok
theorem Inv.kept {t':Nat} (I:Inv X pins σ H s) (k:∀ b u,s.heap.get? b = some u -> h'.get? b = some u):Inv X pins σ H { s with heap:=h',toks:=t' }:=I.un (Un.kept k) (I.hok.kept k)
theorem Inv.laid {a:Addr} {o:HO} {t':Nat} (I:Inv X pins σ H s) (k:∀ b u,s.heap.get? b = some u -> h'.get? b = some u) (hp:s.heap.objs.size <= a) (new:ObjOk X.prog X.w (upd H a o) h' a o) :
  Inv X pins σ (upd H a o) { s with heap:=h',toks:=t' }:=I.un (Un.laid k hp (I.hok.fresh hp)) (I.hok.laid k hp new)
theorem Inv.write {x e:Addr} {o:HO} {t':Nat} (I:Inv X pins σ H s) (mu:Mut (H x)) (he:e = x \/ H e = some (.own x)) (k:∀ b u,b ≠ e -> s.heap.get? b = some u -> h'.get? b = some u) (heo:∃ u,h'.get? e = some u)
  (new:ObjOk X.prog X.w (upd H x o) h' x o):Inv X pins σ (upd H x o) { s with heap:=h',toks:=t' }:=I.un (Un.write mu he k heo) (I.hok.write mu he k heo new)
theorem Inv.weak {σ':List (Option V)} (I:Inv X pins σ H s) (hl:σ'.length = σ.length) (w:∀ (i:Nat) v,σ'[i]? = some (some v) -> σ[i]? = some (some v)):Inv X pins σ' H s :=
 ⟨I.ok,I.os,I.bare,I.base,let ⟨m,hn,hl'⟩:=I.loc; ⟨m,hn,fun i x v e1 e2 e3=>hl' i x v e1 (w i v e2) e3⟩,I.cell,I.free,I.freeC,I.pin,I.hok,hl.trans I.len⟩
theorem Inv.pins_of {pins':List (Addr × Obj)} (I:Inv X pins σ H s) (h:∀ p ∈ pins',s.heap.get? p.1 = some p.2 /\ H p.1 = none /\ p.1 ≠ X.env.locals /\ p.1 ∉ X.fs /\ ∀ v,p.2.data ≠ .cell v):Inv X pins' σ H s :=
 ⟨I.ok,I.os,I.bare,I.base,I.loc,I.cell,I.free,I.freeC,fun p hp=>(List.mem_append.mp hp).elim (fun z=>I.pin p (List.mem_append_left _ z)) (h p),I.hok,I.len⟩
theorem Vm {N:List Str} (hN:N.Nodup) {i j:Nat} {x:Str} (a:N[i]? = some x) (b:N[j]? = some x):i = j:=by
 obtain ⟨h1,e1⟩:=List.getElem?_eq_some_iff.mp a
 obtain ⟨h2,e2⟩:=List.getElem?_eq_some_iff.mp b
 exact (List.getElem_inj hN).mp (e1.trans e2.symm)
theorem Ys {M:Model} {A:Around} {E:Value -> Shared -> Prop} {i:Nat} {x:Str} {v:V} {u:Value} {Q:Unit -> Shared -> Prop} (I:Inv X pins σ H s) (hN:X.N.Nodup) (hi:X.N[i]? = some x) (hx:Loc X.env.scope x) (r:RelV v u)
  (h:∀ s',Inv X pins (σ.set i (some v)) H s' -> (∃ a,Heap.SameBut a s.heap s'.heap /\ (a = X.env.locals \/ X.env.cells.lookup x = some a)) -> Q () s') (hf:X.fn x = true \/ X.env.scope.names.lookup x = some .local:=by first | exact .inl rfl | exact .inr rfl | assumption):wpAny M A (storeName X.env x u) Q E s:=by
 obtain ⟨m,hn,hl⟩:=id I.loc
 have hcls:(X.env.scope.kind == .class || (X.env.scope.kind == .module && X.env.locals != X.env.globals)) = false:=by rw [I.ok.kind]; rfl
 have hiσ:i < σ.length:=by rw [I.len]; exact (List.getElem?_eq_some_iff.mp hi).1
 have cne:=I.cne
 have tracked:∀ {a:Addr} {h':Heap},(∃ o,s.heap.get? a = some o /\ H a = none) -> Heap.SameBut a s.heap h' -> HOk X.prog X.w H h':=fun {a h'} ha hs b ob e=>by
  obtain ⟨_,_,hfree⟩:=ha
  refine (I.hok b ob e).stay (fun c w' hc q=>(hs.2 c ?_).trans q) (fun _ q=>q) (fun _ _ q=>q) fun _ _ _ q=>q
  rintro rfl
  rcases hc with rfl | hc
  ·rw [hfree] at e; cases e
  ·rw [hfree] at hc; cases hc
 rcases hx with hk | hk
 ·refine wpAny_storeName_local hk hn (fun h' hn' hs => ?_) hcls
  obtain ⟨oL,_,_,hoL,_⟩:=id hn
  refine h _ ⟨I.ok,I.os,I.bare,⟨fun b o e n hb hx=>?_,fun b o e n hb hx=>?_,I.base.free,fun b o e hx=>?_,I.base.tups,I.base.frzs,I.base.tbls⟩,⟨_,hn',fun j y v' e1 e2 e3=>?_⟩,fun y c e=>?_,I.free,I.freeC,fun p hp=>?_,tracked ⟨oL,hoL,I.free⟩ hs,by simpa using I.len⟩ ⟨_,hs,.inl rfl⟩
  ·exact (hs.2 b (Nat.ne_of_lt (Nat.lt_of_lt_of_le (Heap.lt_size e) I.ok.above))).trans (I.base.keep b o e n hb hx)
  ·obtain ⟨sl, e1⟩ := I.base.slot b o e n hb hx
   exact ⟨sl,(hs.2 b (Nat.ne_of_lt (Nat.lt_of_lt_of_le (Heap.lt_size e) I.ok.above))).trans e1⟩
  ·obtain ⟨o', e1⟩ := I.base.there b o e hx
   exact ⟨o',(hs.2 b (Nat.ne_of_lt (Nat.lt_of_lt_of_le (Heap.lt_size e) I.ok.above))).trans e1⟩
  ·by_cases hj : j = i
   ·subst hj
    rw [hi] at e1; cases e1
    rw [List.getElem?_set_self hiσ] at e2
    cases e2
    exact ⟨u,r,.inl ⟨hk,by simp⟩⟩
   ·rw [List.getElem?_set_ne (Ne.symm hj)] at e2
    obtain ⟨u',r',q⟩:=hl j y v' e1 e2 e3
    refine ⟨u',r',?_⟩
    rcases q with ⟨k,e⟩ | ⟨k,c,e,z⟩
    ·refine .inl ⟨k, ?_⟩
     have:y ≠ x:=fun e=>hj (Vm hN e1 (e ▸ hi))
     simp [this,e]
    ·exact .inr ⟨k,c,e,z.sameBut hs (cne y c e)⟩
  ·obtain ⟨w', z⟩ := I.cell y c e
   exact ⟨w',z.sameBut hs (cne y c e)⟩
  ·obtain ⟨e, n, ne, nf, d⟩ := I.pin p hp
   exact ⟨(hs.2 p.1 ne).trans e,n,ne,nf,d⟩
 ·have hfn : X.fn x = true := by
   rcases hf with z | z
   ·exact z
   ·rw [z] at hk; cases hk
  obtain ⟨c,hc⟩:=I.ok.has x (.inl hk)
  obtain ⟨w',z⟩:=I.cell x c hc
  refine wpAny_storeName_cell I.ok.kind hk hc z (fun h' hc' hs=>?_)
  obtain ⟨oc,hoc,hocd⟩:=id z
  refine h { s with heap:=h' } ⟨I.ok,I.os,I.bare,⟨fun b o e n hb hx=>?_,fun b o e n hb hx=>?_,I.base.free,fun b o e hx=>?_,I.base.tups,I.base.frzs,I.base.tbls⟩,⟨m,hn.sameBut hs (Ne.symm (cne x c hc)),fun j y v' e1 e2 e3=>?_⟩,fun y c' e=>?_,I.free,I.freeC,fun p hp=>?_,tracked ⟨oc,hoc,I.freeC x c hc⟩ hs,by simpa using I.len⟩ ⟨c,hs,.inr hc⟩
  ·exact (hs.2 b (Nat.ne_of_lt (Nat.lt_of_lt_of_le (Heap.lt_size e) (I.ok.cab x c hfn hc)))).trans (I.base.keep b o e n hb hx)
  ·obtain ⟨sl, e1⟩ := I.base.slot b o e n hb hx
   exact ⟨sl,(hs.2 b (Nat.ne_of_lt (Nat.lt_of_lt_of_le (Heap.lt_size e) (I.ok.cab x c hfn hc)))).trans e1⟩
  ·obtain ⟨o', e1⟩ := I.base.there b o e hx
   exact ⟨o',(hs.2 b (Nat.ne_of_lt (Nat.lt_of_lt_of_le (Heap.lt_size e) (I.ok.cab x c hfn hc)))).trans e1⟩
  ·by_cases hj : j = i
   ·subst hj
    rw [hi] at e1; cases e1
    rw [List.getElem?_set_self hiσ] at e2
    cases e2
    exact ⟨u,r,.inr ⟨.inl hk,c,hc,hc'⟩⟩
   ·rw [List.getElem?_set_ne (Ne.symm hj)] at e2
    obtain ⟨u',r',q⟩:=hl j y v' e1 e2 e3
    refine ⟨u',r',?_⟩
    rcases q with q | ⟨k,c',e,z'⟩
    ·exact .inl q
    ·refine .inr ⟨k, c', e, z'.sameBut hs ?_⟩
     rintro rfl
     exact hj (Vm hN e1 (I.ok.inj _ _ _ e hc ▸ hi))
  ·by_cases hcc : c' = c
   ·subst hcc; exact ⟨_,hc'⟩
   ·obtain ⟨w2, z2⟩ := I.cell y c' e
    exact ⟨w2,z2.sameBut hs hcc⟩
  ·obtain ⟨e, n, ne, nf, d⟩ := I.pin p hp
   refine ⟨(hs.2 p.1 ?_).trans e,n,ne,nf,d⟩
   intro q
   rw [q,hoc] at e
   have q':oc = p.2:=Option.some.inj e
   exact d w' (by rw [<- q']; exact hocd)
theorem qz {M:Model} {A:Around} {E:Value -> Shared -> Prop} {i:Nat} {x:Str} {v:V} {u:Value} {Q:Unit -> Shared -> Prop} (I:Inv X pins σ H s) (hN:X.N.Nodup) (hi:X.N[i]? = some x) (hx:Loc X.env.scope x) (r:RelV v u)
  (h:∀ s',Inv X pins (σ.set i (some v)) H s' -> Q () s') (hf:X.fn x = true \/ X.env.scope.names.lookup x = some .local:=by first | exact .inl rfl | exact .inr rfl | assumption):wpAny M A (storeName X.env x u) Q E s :=
 Ys I hN hi hx r (fun s' I' _=>h s' I') hf
theorem Inv.call' {s':Shared} {ch:List Addr} (I:Inv X pins σ H s) (ho:s'.os = s.os) (u:Un (frs X.stack) ch H H' s.heap s'.heap) (hok:HOk X.prog X.w H' s'.heap) (hg:AllBare s'.gens)
  (hch:∀ b ∈ ch,(b ∈ X.ex \/ X.s₀.heap.objs.size <= b) /\ b ≠ X.env.locals /\ (∀ x c,X.env.cells.lookup x = some c -> c ≠ b) /\ ∀ p ∈ X.pn ++ pins,p.1 ≠ b):Inv X pins σ H' s':=by
 obtain ⟨h',g',d',t',o'⟩:=s'
 have e:o' = s.os:=ho
 subst e
 exact I.call (g':=g') (t':=t') (d':=d') u hok hg hch
end
abbrev XK:=Value -> Option Addr -> Hp -> Prop
abbrev St:=List (Option V)
abbrev VK:=V -> Hp -> Prop
abbrev TE:=St -> Hp -> VK -> Prop
abbrev TT:=St -> Hp -> (Bool -> Hp -> Prop) -> Prop
abbrev TA:=St -> Hp -> (List V -> Hp -> Prop) -> Prop
structure kC where
 nx:St -> Hp -> Prop
 rt:VK
 bk:St -> Hp -> Prop:=fun _ _=>False
 ct:St -> Hp -> Prop:=fun _ _=>False
abbrev TS:=kC -> St -> Hp -> Prop
def EP (X:Cx) (pins:List (Addr × Obj)) (σ:St) (Q:VK) (u:Value) (s':Shared):Prop:=∃ v H',Inv X pins σ H' s' /\ RelV v u /\ Q v H'
def TP (X:Cx) (pins:List (Addr × Obj)) (σ:St) (Q:Bool -> Hp -> Prop) (b:Bool) (s':Shared):Prop:=∃ H',Inv X pins σ H' s' /\ Q b H'
def AP (X:Cx) (pins:List (Addr × Obj)) (σ:St) (Q:List V -> Hp -> Prop) (us:List Value) (s':Shared):Prop:=∃ vs H',Inv X pins σ H' s' /\ Vals vs us /\ Q vs H'
def SP (X:Cx) (pins:List (Addr × Obj)) (D:kC) (f:Flow) (s':Shared):Prop :=
 match f with
 | .next=>∃ σ' H',Inv X pins σ' H' s' /\ D.nx σ' H'
 | .brk=>∃ σ' H',Inv X pins σ' H' s' /\ D.bk σ' H'
 | .cont=>∃ σ' H',Inv X pins σ' H' s' /\ D.ct σ' H'
 | .ret u=>∃ v σ' H',Inv X pins σ' H' s' /\ RelV v u /\ D.rt v H'
def PE (X:Cx) (e:Expr) (t:TE):Prop :=
 ∀ (pins:List (Addr × Obj)) (s:Shared) (σ:St) (H:Hp) (Q:VK),Inv X pins σ H s -> t σ H Q -> wpAny (model X.prog X.w) X.A (eval e X.env) (EP X pins σ Q) X.xe s
def PT (X:Cx) (e:Expr) (t:TT):Prop :=
 ∀ (pins:List (Addr × Obj)) (s:Shared) (σ:St) (H:Hp) (Q:Bool -> Hp -> Prop),Inv X pins σ H s -> t σ H Q -> wpAny (model X.prog X.w) X.A (isTrue e X.env (eval e X.env)) (TP X pins σ Q) X.xe s
def PW (X:Cx) (e:Expr) (t:TT):Prop :=
 ∀ (whole:Sem Value) (pins:List (Addr × Obj)) (s:Shared) (σ:St) (H:Hp) (Q:Bool -> Hp -> Prop),Inv X pins σ H s -> t σ H Q -> wpAny (model X.prog X.w) X.A (isTrue e X.env whole) (TP X pins σ Q) X.xe s
theorem PW.pt {X:Cx} {e:Expr} {t:TT} (h:PW X e t):PT X e t:=h _
def PA (X:Cx) (es:List Expr) (t:TA):Prop :=
 ∀ (pos:Pos) (pins:List (Addr × Obj)) (s:Shared) (σ:St) (H:Hp) (Q:List V -> Hp -> Prop),Inv X pins σ H s -> t σ H Q -> wpAny (model X.prog X.w) X.A (spliced (backTo pos (starEach es X.env))) (AP X pins σ Q) X.xe s
def PS (X:Cx) (st:Stmt) (t:TS):Prop :=
 ∀ (pins:List (Addr × Obj)) (s:Shared) (σ:St) (H:Hp) (D:kC),Inv X pins σ H s -> t D σ H -> wpAny (model X.prog X.w) X.A (exec st X.env) (SP X pins D) X.xe s
def PSs (X:Cx) (st:List Stmt) (t:TS):Prop :=
 ∀ (pins:List (Addr × Obj)) (s:Shared) (σ:St) (H:Hp) (D:kC),Inv X pins σ H s -> t D σ H -> wpAny (model X.prog X.w) X.A (execs st X.env) (SP X pins D) X.xe s
theorem thn {α:Type} {t:Sem α} {Q Q':α -> Shared -> Prop} {M:Model} {A:Around} {E:Value -> Shared -> Prop} {s:Shared} (h:wpAny M A t Q E s) (hQ:∀ a s,Q a s -> Q' a s):wpAny M A t Q' E s:=wpAny_mono h hQ fun _ _ x=>x
end L2
namespace L2
open PySem PySem.Spec PyProof.Rows
section
variable {X:Cx}
def zV0 (i:Nat):TE:=fun σ H Q=>∃ v,σ[i]? = some (some v) /\ Q v H
def tC (v:V):TE:=fun _ H Q=>Q v H
theorem vf {i:Nat} {x:Str} {pos:Pos} (hN:X.N[i]? = some x) (hv:Vis X.env.scope x) (hd:(x == ("__debug__" : Str)) = false:=by decide) (hcd:(x == ("__classdict__" : Str)) = false:=by decide):PE X (.Name x pos) (zV0 i):=by
 intro pins s σ H Q I h
 obtain ⟨v,e,h⟩:=h
 obtain ⟨m,hn,hl⟩:=I.loc
 obtain ⟨u,r,l⟩:=hl i x v hN e hv
 have fin:EP X pins σ Q u s:=⟨v,H,I,r,h⟩
 rcases l with ⟨hk,hm⟩ | ⟨hk,c,hc,hcell⟩
 ·exact wpAny_Name (wpAny_loadName_local I.ok.kind hk hn hm fin) hd
 ·rcases hk with hk | hk
  ·exact wpAny_Name (wpAny_loadName_cell I.ok.kind hk hc hcell fin) hd
  ·exact wpAny_Name (wpAny_loadName_free I.ok.kind hk hc hcell fin hcd) hd
theorem Vf {i j pos}:PE X (.Constant (.int i) j pos) (tC (.int i)):=fun _ _ _ H _ I h=>wpAny_Constant_int ⟨.int i,H,I.tok _,⟨_,rfl⟩,h⟩
theorem zw6 {b j pos}:PE X (.Constant (.bool b) j pos) (tC (.bl b)):=fun _ _ _ H _ I h=>Constant_bool ⟨.bl b,H,I,rfl,h⟩
theorem zw4 {j pos}:PE X (.Constant .none j pos) (tC .non):=fun _ _ _ H _ I h=>Constant_none ⟨.non,H,I,rfl,h⟩
theorem zw1 {x j pos}:PE X (.Constant (.str x) j pos) (tC (.str x)):=fun _ _ _ H _ I h=>Calls.Constant_str ⟨.str x,H,I.tok _,⟨_,rfl⟩,h⟩
def Gl (X:Cx) (x:Str):Prop:=X.env.kindOf x = some .globalImplicit
theorem KU {E:Value -> Shared -> Prop} {pins:List (Addr × Obj)} {s:Shared} {σ:St} {H:Hp} {x:Str} {u:Value} {pos:Pos} {Q:Value -> Shared -> Prop} (I:Inv X pins σ H s) (hg:Gl X x) (hm:X.mg x = some u) (h:Q u s)
  (hd:(x == ("__debug__" : Str)) = false:=by decide):wpAny (model X.prog X.w) X.A (eval (.Name x pos) X.env) Q E s :=
 Calls.Name_function_global I.ok.kind hg (Calls.loadGlobal_global (by rw [I.ok.glob]; exact I.mod.glob.keeps I.bk) hm h) hd
theorem jX {E:Value -> Shared -> Prop} {pins:List (Addr × Obj)} {s:Shared} {σ:St} {H:Hp} {x:Str} {u:Value} {pos:Pos} {Q:Value -> Shared -> Prop} (I:Inv X pins σ H s) (hg:Gl X x) (hm:X.mg x = none) (hv:bootBuiltins x = some u) (h:Q u s)
  (hn:x ≠ "__name__" := by decide) (hd:(x == ("__debug__" : Str)) = false:=by decide):wpAny (model X.prog X.w) X.A (eval (.Name x pos) X.env) Q E s:=by
 obtain ⟨mb,h1,h2⟩:=I.mod.blt
 exact Calls.Name_function_global I.ok.kind hg (Calls.loadGlobal_builtin (by rw [I.ok.glob]; exact I.mod.glob.keeps I.bk) hm (by rw [I.ok.blt]; exact h1.keeps I.bk) ((h2 x hn).trans hv) h) hd
theorem Kh {x:Str} {v:V} {u:Value} {pos:Pos} (hg:Gl X x) (hm:X.mg x = some u) (r:RelV v u) (hd:(x == ("__debug__" : Str)) = false:=by decide):PE X (.Name x pos) (tC v) :=
 fun _ _ _ H _ I h=>KU I hg hm ⟨v,H,I,r,h⟩ hd
theorem zl2 {x:Str} {v:V} {u:Value} {pos:Pos} (hg:Gl X x) (hm:X.mg x = none) (hv:bootBuiltins x = some u) (r:RelV v u) (hn:x ≠ "__name__" := by decide) (hd:(x == ("__debug__" : Str)) = false:=by decide):PE X (.Name x pos) (tC v) :=
 fun _ _ _ H _ I h=>jX I hg hm hv ⟨v,H,I,r,h⟩ hn hd
variable {a b:Expr} {ta tb:TE} {pos:Pos}
def tB (t:TE):TT:=fun σ H Q=>t σ H fun x H1=>∃ c,x = .bl c /\ Q c H1
theorem zv3 {e:Expr} {t:TE} (h:PE X e t) (he:∀ whole,isTrue e X.env whole = (do let v <- whole; standAt e.pos; holding [v] (truthy v)):=by intro _; rfl):PT X e (tB t):=by
 intro pins s σ H Q I hw
 refine isTrue_plain (thn (h pins s σ H _ I hw) fun v s1 ⟨x,H1,I1,r1,q1⟩=>?_) (he _)
 obtain ⟨d,rfl,q⟩:=q1
 cases r1
 exact wpAny_truthy_bool ⟨H1,I1,q⟩
variable {tA tB':TT} {rest:List Expr}
def xd7 (t u:TT):TT:=fun σ H Q=>t σ H fun c H1=>if c = true then u σ H1 Q else Q false H1
def tOr (t u:TT):TT:=fun σ H Q=>t σ H fun c H1=>if c = true then Q true H1 else u σ H1 Q
def xd1 (t:TT):TT:=fun σ H Q=>t σ H fun c H1=>Q (!c) H1
theorem zk1 (ha:PT X a tA):PW X (.BoolOp .And [a] pos) tA:=by
 intro wh pins s σ H Q I h
 refine isTrue_and (thn (ha pins s σ H Q I h) fun c s1 e=>?_)
 cases c with
 | true=>exact isTrue_and_nil e
 | false=>exact e
theorem zv1 (ha:PT X a tA):PW X (.BoolOp .Or [a] pos) tA:=by
 intro wh pins s σ H Q I h
 refine isTrue_or (thn (ha pins s σ H Q I h) fun c s1 e=>?_)
 cases c with
 | false=>exact isTrue_or_nil e
 | true=>exact e
theorem zv2 (ha:PT X a tA) (hb:PW X (.BoolOp .And (b :: rest) pos) tB'):PW X (.BoolOp .And (a :: b :: rest) pos) (xd7 tA tB'):=by
 intro wh pins s σ H Q I h
 refine isTrue_and (thn (ha pins s σ H _ I h) fun c s1 ⟨H1,I1,q1⟩=>?_)
 cases c with
 | true=>exact hb wh pins s1 σ H1 Q I1 q1
 | false=>exact ⟨H1,I1,q1⟩
theorem zQ9 (ha:PT X a tA) (hb:PW X (.BoolOp .Or (b :: rest) pos) tB'):PW X (.BoolOp .Or (a :: b :: rest) pos) (tOr tA tB'):=by
 intro wh pins s σ H Q I h
 refine isTrue_or (thn (ha pins s σ H _ I h) fun c s1 ⟨H1,I1,q1⟩=>?_)
 cases c with
 | true=>exact ⟨H1,I1,q1⟩
 | false=>exact hb wh pins s1 σ H1 Q I1 q1
theorem zv4 (ha:PT X a tA):PT X (.UnaryOp .Not a pos) (xd1 tA):=by
 intro pins s σ H Q I h
 exact isTrue_not (ha pins s σ H (fun c H1=>Q (!c) H1) I h)
def zI7 (ta tb:TE):TE:=fun σ H Q=>ta σ H fun x H1=>∃ c,x = .bl c /\ if c = true then tb σ H1 Q else Q (.bl false) H1
def xd0 (ta tb:TE):TE:=fun σ H Q=>ta σ H fun x H1=>∃ c,x = .bl c /\ if c = true then Q (.bl true) H1 else tb σ H1 Q
def zI1 (ta:TE):TE:=fun σ H Q=>ta σ H fun x H1=>∃ c,x = .bl c /\ Q (.bl (!c)) H1
theorem zw2 {op} {t:TE} (h:PE X a t):PE X (.BoolOp op [a] pos) t:=fun pins s σ H Q I hw=>BoolOp_one (h pins s σ H Q I hw)
theorem zw7 (ha:PE X a ta) (hb:PE X (.BoolOp .And (b :: rest) pos) tb):PE X (.BoolOp .And (a :: b :: rest) pos) (zI7 ta tb):=by
 intro pins s σ H Q I h
 refine BoolOp_and (thn (ha pins s σ H _ I h) fun v s1 ⟨x,H1,I1,r1,q1⟩=>?_)
 obtain ⟨c,rfl,q1⟩:=q1
 cases r1
 refine wpAny_truthy_bool ?_
 cases c with
 | true=>exact hb pins s1 σ H1 Q I1 q1
 | false=>exact ⟨.bl false,H1,I1,rfl,q1⟩
theorem zR4 (ha:PE X a ta) (hb:PE X (.BoolOp .Or (b :: rest) pos) tb):PE X (.BoolOp .Or (a :: b :: rest) pos) (xd0 ta tb):=by
 intro pins s σ H Q I h
 refine BoolOp_or (thn (ha pins s σ H _ I h) fun v s1 ⟨x,H1,I1,r1,q1⟩=>?_)
 obtain ⟨c,rfl,q1⟩:=q1
 cases r1
 refine wpAny_truthy_bool ?_
 cases c with
 | false=>exact hb pins s1 σ H1 Q I1 q1
 | true=>exact ⟨.bl true,H1,I1,rfl,q1⟩
theorem zw3 (ha:PE X a ta):PE X (.UnaryOp .Not a pos) (zI1 ta):=by
 intro pins s σ H Q I h
 refine UnaryOp_ (thn (ha pins s σ H _ I h) fun v s1 ⟨x,H1,I1,r1,q1⟩=>?_)
 obtain ⟨c,rfl,q1⟩:=q1
 cases r1
 exact not_of (wpAny_truthy_bool ⟨.bl (!c),H1,I1,rfl,q1⟩)
def tIf (t:TT) (ta tb:TE):TE:=fun σ H Q=>t σ H fun c H1=>if c = true then ta σ H1 Q else tb σ H1 Q
theorem Vg {c:Expr} (hc:PT X c tA) (ha:PE X a ta) (hb:PE X b tb):PE X (.IfExp c a b pos) (tIf tA ta tb):=by
 intro pins s σ H Q I h
 refine wpAny_IfExp (thn (hc pins s σ H _ I h) fun d s1 ⟨H1,I1,q1⟩=>?_)
 cases d with
 | true=>exact ha pins s1 σ H1 Q I1 q1
 | false=>exact hb pins s1 σ H1 Q I1 q1
end
end L2
namespace L2
open PySem PySem.Spec PyProof.Rows
def SqL (K:PySem.W.Frag) (H:Hp) (a:Addr) (xs:List V):Prop :=
 Rd H a (.lst xs) \/
  ∃ (o:Obj) (its:Array Value) (n:Nat),K.lookup a = some o /\ o.cls = .type "list" /\ o.dict = none /\ o.data = .seq its n /\ its.size <= sizeLine /\ Vals xs its.toList
def SqT (K:PySem.W.Frag) (H:Hp) (a:Addr) (xs:List V):Prop :=
 Rd H a (.tup xs) \/
  ∃ (o:Obj) (its:Array Value) (n:Nat),K.lookup a = some o /\ o.cls = .type "tuple" /\ o.data = .seq its n /\ its.size <= sizeLine /\ Vals xs its.toList
def xj5:Value -> Option V
 | .none=>some .non
 | .bool b=>some (.bl b)
 | .int i _=>some (.int i)
 | .str x _=>some (.str x)
 | .bytes b _=>some (.byt b)
 | .float b _=>some (.flt b)
 | .ref a=>some (.ref a)
 | .type n=>some (.ty n)
 | _=>none
theorem RelV.abs {x:V} {u:Value} (r:RelV x u):xj5 u = some x:=by
 cases x with
 | non=>cases r; rfl
 | bl _=>cases r; rfl
 | int _=>obtain ⟨t,rfl⟩:=r; rfl
 | str _=>obtain ⟨t,rfl⟩:=r; rfl
 | byt _=>obtain ⟨t,rfl⟩:=r; rfl
 | flt _=>obtain ⟨t,rfl⟩:=r; rfl
 | ref _=>cases r; rfl
 | ty _=>cases r; rfl
theorem RelV.inj {x y:V} {u:Value} (r:RelV x u) (q:RelV y u):x = y:=Option.some.inj (r.abs.symm.trans q.abs)
theorem Vals.inj:∀ {xs ys:List V} {us:List Value},Vals xs us -> Vals ys us -> xs = ys
 | _,_,_,.nil,.nil=>rfl
 | _,_,_,.cons r t,.cons r' t'=>by rw [r.inj r',Vals.inj t t']
section
variable {X:Cx} {pins:List (Addr × Obj)} {σ:St} {H:Hp} {s:Shared} {a:Addr} {xs ys:List V}
theorem SqL.of {K:PySem.W.Frag} (h:H a = some (.lst xs)):SqL K H a xs:=.inl (.inl h)
theorem Inv.list (I:Inv X pins σ H s) (h:SqL X.K H a xs):∃ its:List Value,Vals xs its /\ PlainL s.heap a its.toArray /\ xs.length <= sizeLine:=by
 rcases h with h | ⟨o,its,n,hk,hc,hd,hs,hz,r⟩
 ·obtain ⟨z, its, n, r, e⟩ := h.ok I.hok
  exact ⟨its,r,⟨_,n,e,rfl,rfl,rfl⟩,z⟩
 ·refine ⟨its.toList, r, ⟨o, n, I.kIn a o hk, hc, hd, by simpa using hs⟩, ?_⟩
  have e:=r.length
  simp only [Array.length_toList] at e
  lia
theorem Inv.tuple (I:Inv X pins σ H s) (h:SqT X.K H a xs):∃ its:List Value,Vals xs its /\ IsTup s.heap a its.toArray /\ xs.length <= sizeLine:=by
 rcases h with h | ⟨o,its,n,hk,hc,hs,hz,r⟩
 ·obtain ⟨z, its, r, p⟩ := h.ok I.hok
  exact ⟨its,r,p,z⟩
 ·refine ⟨its.toList, r, ⟨o, I.kIn a o hk, hc, n, by simpa using hs⟩, ?_⟩
  have e:=r.length
  simp only [Array.length_toList] at e
  lia
theorem Inv.list_inj (I:Inv X pins σ H s) (h:SqL X.K H a xs) (h':SqL X.K H a ys):xs = ys:=by
 obtain ⟨its,r,⟨o,n,e,_,_,d⟩,_⟩:=I.list h
 obtain ⟨its',r',⟨o',n',e',_,_,d'⟩,_⟩:=I.list h'
 rw [e] at e'; cases e'
 rw [d] at d'
 injection d' with d1 _
 have:its = its':=by simpa using congrArg Array.toList d1
 subst this
 exact r.inj r'
theorem Inv.tuple_inj (I:Inv X pins σ H s) (h:SqT X.K H a xs) (h':SqT X.K H a ys):xs = ys:=by
 obtain ⟨its,r,⟨o,e,_,n,d⟩,_⟩:=I.tuple h
 obtain ⟨its',r',⟨o',e',_,n',d'⟩,_⟩:=I.tuple h'
 rw [e] at e'; cases e'
 rw [d] at d'
 injection d' with d1 _
 have:its = its':=by simpa using congrArg Array.toList d1
 subst this
 exact r.inj r'
end
abbrev Cx.wish (X:Cx) (E:Value -> Shared -> Prop):Cx:={ X with xe:=E }
abbrev Cx.nox (X:Cx):Cx:=X.wish fun _ _=>False
theorem Cx.Ok.wish {X:Cx} (ok:X.Ok) (E:Value -> Shared -> Prop):(X.wish E).Ok :=
 ⟨ok.mod,ok.kind,ok.glob,ok.blt,ok.above,ok.inj,ok.has,ok.cab,ok.hd,ok.frames,ok.stk,ok.exf,ok.bs,ok.bsz,ok.noex,ok.exfs,ok.funs,ok.frf⟩
theorem Cx.Ok.unwish {X:Cx} {E:Value -> Shared -> Prop} (ok:(X.wish E).Ok):X.Ok :=
 ⟨ok.mod,ok.kind,ok.glob,ok.blt,ok.above,ok.inj,ok.has,ok.cab,ok.hd,ok.frames,ok.stk,ok.exf,ok.bs,ok.bsz,ok.noex,ok.exfs,ok.funs,ok.frf⟩
section
variable {X:Cx} {pins:List (Addr × Obj)} {σ:St} {H:Hp} {s:Shared} {E:Value -> Shared -> Prop}
theorem Inv.wish (I:Inv X pins σ H s) (E:Value -> Shared -> Prop):Inv (X.wish E) pins σ H s:=⟨I.ok.wish E,I.os,I.bare,I.base,I.loc,I.cell,I.free,I.freeC,I.pin,I.hok,I.len⟩
theorem Inv.unwish (I:Inv (X.wish E) pins σ H s):Inv X pins σ H s:=⟨I.ok.unwish,I.os,I.bare,I.base,I.loc,I.cell,I.free,I.freeC,I.pin,I.hok,I.len⟩
theorem SP.unwish {D:kC} {f:Flow} {s':Shared} (h:SP (X.wish E) pins D f s'):SP X pins D f s':=by
 cases f with
 | next=>obtain ⟨σ',H',I,q⟩:=h; exact ⟨σ',H',I.unwish,q⟩
 | brk=>obtain ⟨σ',H',I,q⟩:=h; exact ⟨σ',H',I.unwish,q⟩
 | cont=>obtain ⟨σ',H',I,q⟩:=h; exact ⟨σ',H',I.unwish,q⟩
 | ret u=>obtain ⟨v,σ',H',I,r,q⟩:=h; exact ⟨v,σ',H',I.unwish,r,q⟩
theorem PSs.nox {st:List Stmt} {t:TS} (h:PSs X.nox st t):PSs X st t:=fun pins s σ H D I hw =>
 wpAny_mono (h pins s σ H D (I.wish _) hw) (fun _ _ q=>q.unwish) fun _ _ z=>False.elim z
end
section
variable {X:Cx} {st:Stmt} {rest:List Stmt} {t u:TS} {e:Expr} {te:TE} {pos:Pos}
def zI2:TS:=fun D σ H=>D.nx σ H
def xc7 (t u:TS):TS:=fun D σ H=>t { D with nx:=u D } σ H
theorem pss_nil:PSs X [] zI2:=fun _ _ σ H _ I h=>wpAny_execs_nil ⟨σ,H,I,h⟩
theorem Va (h1:PS X st t) (h2:PSs X rest u):PSs X (st :: rest) (xc7 t u):=by
 intro pins s σ H D I h
 refine wpAny_execs_cons (thn (h1 pins s σ H { D with nx:=u D } I h) fun f s1 q=>?_)
 cases f with
 | next =>
  obtain ⟨σ',H',I',q⟩:=q
  exact h2 pins s1 σ' H' D I' q
 | ret v=>exact q
 | brk=>exact q
 | cont=>exact q
theorem zk3 (h1:PS X st t):PSs X [st] t:=by
 intro pins s σ H D I h
 refine wpAny_execs_cons (thn (h1 pins s σ H D I h) fun f s1 q=>?_)
 cases f with
 | next=>exact wpAny_execs_nil q
 | ret v=>exact q
 | brk=>exact q
 | cont=>exact q
theorem Inv.quiet {pins:List (Addr × Obj)} {σ:St} {H:Hp} {s:Shared} (I:Inv X pins σ H s):interactive X.env = false:=by simp [interactive,I.ok.kind]
def zI3 (te:TE):TS:=fun D σ H=>te σ H fun _ H1=>D.nx σ H1
theorem Wp (he:PE X e te) (hs:swapsWith e none pos.line X.env = pure false:=by rfl):PS X (.Expr e pos) (zI3 te):=by
 intro pins s σ H D I h
 exact wpAny_Expr_any (thn (he pins s σ H _ I h) fun v s1 ⟨x,H1,I1,r1,q1⟩=>⟨σ,H1,I1,q1⟩) I.quiet hs
def xc8 (te:TE):TS:=fun D σ H=>te σ H D.rt
theorem zv5 (he:PE X e te):PS X (.Return (some e) pos) (xc8 te):=by
 intro pins s σ H D I h
 exact wpAny_Return_some (thn (he pins s σ H _ I h) fun v s1 ⟨x,H1,I1,r1,q1⟩=>⟨x,σ,H1,I1,r1,q1⟩)
def xd4 (c:TT) (t u:TS):TS:=fun D σ H=>c σ H fun b H1=>if b = true then t D σ H1 else u D σ H1
theorem zR2 {c:Expr} {a b:List Stmt} {tc:TT} (hc:PT X c tc) (ha:PSs X a t) (hb:PSs X b u):PS X (.If c a b pos) (xd4 tc t u):=by
 intro pins s σ H D I h
 refine wpAny_If (thn (hc pins s σ H _ I h) fun d s1 ⟨H1,I1,q1⟩=>?_)
 cases d with
 | true=>exact ha pins s1 σ H1 D I1 q1
 | false=>exact hb pins s1 σ H1 D I1 q1
end
abbrev TG:=V -> St -> Hp -> (St -> Hp -> Prop) -> Prop
abbrev TGs:=List V -> St -> Hp -> (St -> Hp -> Prop) -> Prop
def PG (X:Cx) (target:Expr) (t:TG):Prop :=
 ∀ (pins:List (Addr × Obj)) (s:Shared) (σ:St) (H:Hp) (v:V) (u:Value) (Q:St -> Hp -> Prop),Inv X pins σ H s -> RelV v u -> t v σ H Q ->
  wpAny (model X.prog X.w) X.A (assign target X.env u) (fun _ s'=>∃ σ' H',Inv X pins σ' H' s' /\ Q σ' H') X.xe s
def PGs (X:Cx) (ts:List Expr) (t:TGs):Prop :=
 ∀ (pins:List (Addr × Obj)) (s:Shared) (σ:St) (H:Hp) (vs:List V) (us:List Value) (Q:St -> Hp -> Prop),Inv X pins σ H s -> Vals vs us -> t vs σ H Q ->
  wpAny (model X.prog X.w) X.A (assignInOrder ((assignEach ts X.env).map (·.2)) us) (fun _ s'=>∃ σ' H',Inv X pins σ' H' s' /\ Q σ' H') X.xe s
abbrev zU5:=V -> V -> V -> Hp -> (Hp -> Prop) -> Prop
def xc1 (X:Cx) (t:zU5):Prop :=
 ∀ (pins:List (Addr × Obj)) (s:Shared) (σ:St) (H:Hp) (o i v:V) (ov iv u:Value) (Q:Hp -> Prop),Inv X pins σ H s -> RelV o ov -> RelV i iv -> RelV v u -> t o i v H Q ->
  wpAny (model X.prog X.w) X.A (setItem ov iv u) (fun _ s'=>∃ H',Inv X pins σ H' s' /\ Q H') X.xe s
section
variable {X:Cx} {pos:Pos}
def zc6 (i:Nat):TG:=fun v σ H Q=>Q (σ.set i (some v)) H
theorem zk8 {i:Nat} {x:Str} (hN:X.N.Nodup) (hi:X.N[i]? = some x) (hx:Loc X.env.scope x) (hf:X.fn x = true \/ X.env.scope.names.lookup x = some .local:=by first | exact .inl rfl | exact .inr rfl | assumption):PG X (.Name x pos) (zc6 i):=by
 intro pins s σ H v u Q I r h
 exact wpAny_assign_Name (qz I hN hi hx r (fun s' I'=>⟨_,H,I',h⟩) hf)
def xi4:TGs:=fun vs σ H Q=>vs = [] /\ Q σ H
def zT6 (t:TG) (u:TGs):TGs:=fun vs σ H Q=>∃ v r,vs = v :: r /\ t v σ H fun σ' H'=>u r σ' H' Q
theorem pgs_nil:PGs X [] xi4:=by
 intro pins s σ H vs us Q I r h
 obtain ⟨e,h⟩:=h
 subst e
 cases r
 exact assignInOrder_nil ⟨σ,H,I,h⟩
theorem QO {e:Expr} {es:List Expr} {t:TG} {u:TGs} (h1:PG X e t) (h2:PGs X es u)
  (hs:(assignEach (e :: es) X.env).map (·.2) = assign e X.env :: (assignEach es X.env).map (·.2):=by rfl):PGs X (e :: es) (zT6 t u):=by
 intro pins s σ H vs us Q I r h
 obtain ⟨v,vr,e1,h⟩:=h
 subst e1
 cases r with
 | cons r rr =>
  rw [hs]
  refine assignInOrder_cons (thn (h1 pins s σ H _ _ _ I r h) fun _ s1 ⟨σ1,H1,I1,q1⟩=>?_)
  exact h2 pins s1 σ1 H1 _ _ Q I1 rr q1
def xi2 (K:PySem.W.Frag) (n:Nat) (t:TGs):TG:=fun v σ H Q=>∃ a xs,v = .ref a /\ SqT K H a xs /\ xs.length = n /\ t xs σ H Q
theorem zv8 {es:List Expr} {k:Nat} {t:TGs} {n:Nat} (hc:X.calm = true) (h:PGs X es t)
  (hn:(assignEach es X.env).length = n:=by rfl) (hst:(assignEach es X.env).findIdx? (·.1) = none:=by rfl):PG X (.Tuple es k pos) (xi2 X.K n t):=by
 intro pins s σ H v u Q I r hw
 obtain ⟨a,xs,e1,hq,hl,hw⟩:=hw
 subst e1
 cases r
 obtain ⟨its,rv,ht,hz⟩:=I.tuple hq
 refine assign_Tuple_tuple (I.ok.hd hc) ht (by simp [hn,<- hl,rv.length]) hst fun h' hx=>?_
 have I1:Inv X pins σ H { s with heap:=h' }:=I.kept (t':=s.toks) fun b o e=>hx b o (Nat.ne_of_lt (Heap.lt_size e)) e
 exact h pins _ σ H xs _ Q I1 (by simpa using rv) hw
def xi3 (to ti:TE) (t:zU5):TG:=fun v σ H Q=>to σ H fun o H1=>ti σ H1 fun i H2=>t o i v H2 fun H3=>Q σ H3
theorem zv9 {o i:Expr} {to ti:TE} {t:zU5} (ho:PE X o to) (hi:PE X i ti) (hs:xc1 X t)
  (ha : ∀ v, assign (.Subscript o i pos) X.env v = (do
   let ov <- holding [v] (eval o X.env)
   let iv <- holding [v,ov] (eval i X.env)
   standAt pos
   holding [v,ov,iv] (setItem ov iv v)
   release [v,ov,iv] []):=by intro _; rfl):PG X (.Subscript o i pos) (xi3 to ti t):=by
 intro pins s σ H v u Q I r h
 rw [ha]
 refine wpAny_bind (wpAny_holding (thn (ho pins s σ H _ I h) fun ov s1 ⟨x,H1,I1,r1,q1⟩=>?_))
 refine wpAny_bind (wpAny_holding (thn (hi pins s1 σ H1 _ I1 q1) fun iv s2 ⟨y,H2,I2,r2,q2⟩=>?_))
 refine wpAny_bind (wpAny_standAt (wpAny_bind (wpAny_holding (thn (hs pins s2 σ H2 x y v ov iv u _ I2 r1 r2 r q2) fun _ s3 ⟨H3,I3,q3⟩=>?_))))
 exact wpAny_release ⟨σ,H3,I3,q3⟩
def zI6 (te:TE) (g:TG):TS:=fun D σ H=>te σ H fun x H1=>g x σ H1 D.nx
theorem Kc {tg e:Expr} {te:TE} {g:TG} (he:PE X e te) (hg:PG X tg g) (hs:swapsWithSole [tg] e pos.line X.env = pure false:=by rfl) (hw:swappedStores [tg] e X.env = pure none:=by rfl)
  (h1:(assignEach [tg] X.env).map (·.2) = [assign tg X.env]:=by rfl):PS X (.Assign [tg] e pos) (zI6 te g):=by
 intro pins s σ H D I h
 refine wpAny_Assign_stores (thn (he pins s σ H _ I h) fun v s1 ⟨x,H1,I1,r1,q1⟩=>?_) hs hw
 rw [h1]
 exact thn (hg pins s1 σ H1 x v _ I1 r1 q1) fun _ s2 q=>q
theorem Vc {i:Nat} {x:Str} {e:Expr} {te:TE} {pos':Pos} (hN:X.N.Nodup) (hi:X.N[i]? = some x) (hx:Loc X.env.scope x) (he:PE X e te) (hs:swapsWith e (some (.Name x pos')) pos.line X.env = pure false:=by rfl) (hf:X.fn x = true \/ X.env.scope.names.lookup x = some .local:=by first | exact .inl rfl | exact .inr rfl | assumption) :
  PS X (.Assign [.Name x pos'] e pos) (zI6 te (zc6 i)):=by
 intro pins s σ H D I h
 refine wpAny_Assign_Name (thn (he pins s σ H _ I h) fun v s1 ⟨y,H1,I1,r1,q1⟩=>?_) hs
 exact qz I1 hN hi hx r1 (fun s2 I2=>⟨_,H1,I2,q1⟩) hf
def xc9 (i j:Nat) (ta:TA):TS:=fun D σ H=>ta σ H fun vs H1=>∃ v w,vs = [v,w] /\ D.nx ((σ.set i (some v)).set j (some w)) H1
theorem Kb {i j:Nat} {x y:Str} {a b:Expr} {ta:TA} {px py pt:Pos} {kt k2 pt2} (hc:X.calm = true) (hN:X.N.Nodup) (hi:X.N[i]? = some x) (hj:X.N[j]? = some y) (hij:i ≠ j)
  (hx:X.env.scope.names.lookup x = some .local) (hy:X.env.scope.names.lookup y = some .local) (ha:PA X [a,b] ta)
  (hw:swappedStores [.Tuple [.Name x px,.Name y py] kt pt] (.Tuple [a,b] k2 pt2) X.env = pure (some [x,y]))
  (hs:swapsWithSole [.Tuple [.Name x px,.Name y py] kt pt] (.Tuple [a,b] k2 pt2) pos.line X.env = pure false:=by rfl) :
  PS X (.Assign [.Tuple [.Name x px,.Name y py] kt pt] (.Tuple [a,b] k2 pt2) pos) (xc9 i j ta):=by
 intro pins s σ H D I h
 rw [exec_Assign_arm]
 refine wpAny_bind (wpAny_standAt ?_)
 rw [hs]
 refine wpAny_bind (wpAny_pure ?_)
 rw [if_neg (by decide)]
 refine wpAny_bind (Tuple_ (thn (ha _ pins s σ H _ I h) fun us s1 ⟨vs,H1,I1,r1,q1⟩=>?_))
 obtain ⟨v,w,e1,q1⟩:=q1
 subst e1
 obtain ⟨u1,u2,rfl,rv,rw'⟩:∃ u1 u2,us = [u1,u2] /\ RelV v u1 /\ RelV w u2:=by
  cases r1 with
  | cons p q =>
   cases q with
   | cons p' q' =>
    cases q'
    exact ⟨_,_,rfl,p,p'⟩
 refine wpAny_newObj_type ?_ (by show 2 <= sizeLine; decide)
 have I2:Inv X pins σ H1 { s1 with heap:=s1.heap.push { cls:=.type "tuple",data:=.seq [u1,u2].toArray } }:=I1.kept (t':=s1.toks) fun b o e=>Heap.get?_push_of_some _ e
 rw [hw]
 refine wpAny_bind (wpAny_pure ?_)
 show wpAny (model X.prog X.w) X.A (do rule "assign.swapped-stores"; let items <- unpackItems (.ref s1.heap.objs.size) 2 none; assignInOrder [fun v=>bindName X.env y v,fun v=>bindName X.env x v] items.reverse; pure Flow.next) _ _ _
 refine wpAny_bind (wpAny_rule (wpAny_bind (unpackItems_tuple (items:=#[u1,u2]) (I.ok.hd hc) (IsTup.new s1.heap _) fun h' hx'=>?_)))
 have I3:=I2.kept (h':=h') (t':=s1.toks) fun b o e=>hx' b o (Nat.ne_of_lt (Heap.lt_size e)) e
 show wpAny _ _ (assignInOrder [fun v=>bindName X.env y v,fun v=>bindName X.env x v] [u2,u1] >>= fun _=>pure Flow.next) _ _ _
 refine wpAny_bind (assignInOrder_cons (wpAny_bindName (qz I3 hN hj (.inl hy) rw' (fun s2 I4=>?_) (.inr hy))))
 refine assignInOrder_cons (wpAny_bindName (qz I4 hN hi (.inl hx) rv (fun s3 I5=>assignInOrder_nil (wpAny_pure ?_)) (.inr hx)))
 rw [List.set_comm _ _ (Ne.symm hij)] at I5
 exact ⟨_,H1,I5,q1⟩
end
section
variable {X:Cx} {pos:Pos}
def zr5 (c:TT) (tb:TS):TS:=fun D σ H=>∃ W:Nat -> St -> Hp -> Prop,(∃ m,W m σ H) /\ ∀ m σ H,W m σ H ->
 c σ H fun b H1=>if b = true then ∃ N:St -> Hp -> Prop,(∀ σ' H',N σ' H' -> ∃ m',m' < m /\ W m' σ' H') /\ tb { D with nx:=N,ct:=N,bk:=D.nx } σ H1 else D.nx σ H1
theorem QM {c:Expr} {body:List Stmt} {tc:TT} {tb:TS} (hp:PassesOwn (model X.prog X.w) X.A X.env X.xe) (hc:PT X c tc) (hb:PSs X body tb):PS X (.While c body [] pos) (zr5 tc tb):=by
 intro pins s σ H D I h
 obtain ⟨W,⟨m0,w0⟩,turn⟩:=h
 refine wpAny_While (codeAny_whileLoop (fun n s'=>∃ σ' H',Inv X pins σ' H' s' /\ W n σ' H') ?_ m0 ⟨σ,H,I,w0⟩)
 rintro n s1 ⟨σ1,H1,I1,w1⟩
 refine wpAny_passesOwn hp (thn (hc pins s1 σ1 H1 _ I1 (turn n σ1 H1 w1)) fun b s2 ⟨H2,I2,q2⟩=>?_)
 cases b with
 | true =>
  obtain ⟨N,hN,q2⟩:=q2
  rw [if_pos rfl]
  refine wpAny_passesOwn hp (thn (hb pins s2 σ1 H2 _ I2 q2) fun f s3 q3=>?_)
  cases f with
  | next =>
   obtain ⟨σ3,H3,I3,n3⟩:=q3
   obtain ⟨m',hm,w3⟩:=hN σ3 H3 n3
   exact ⟨m',hm,σ3,H3,I3,w3⟩
  | cont =>
   obtain ⟨σ3,H3,I3,n3⟩:=q3
   obtain ⟨m',hm,w3⟩:=hN σ3 H3 n3
   exact ⟨m',hm,σ3,H3,I3,w3⟩
  | brk=>exact q3
  | ret v=>exact q3
 | false =>
  rw [if_neg Bool.false_ne_true]
  exact wpAny_execs_nil ⟨σ1,H2,I2,q2⟩
end
structure It where
 go:Nat -> Hp -> Prop
 yld:Nat -> Hp -> V -> Hp -> Prop
 stop:Nat -> Hp -> Prop
def FpOk (X:Cx) (pins:List (Addr × Obj)) (H:Hp) (b:Addr):Prop :=
 H b = none /\ b ≠ X.env.locals /\ b ∉ X.fs /\ (b ∈ X.ex \/ X.s₀.heap.objs.size <= b) /\ (∀ x c,X.env.cells.lookup x = some c -> c ≠ b) /\ ∀ p ∈ X.pn ++ pins,p.1 ≠ b
theorem Inv.fpOk {X:Cx} {pins:List (Addr × Obj)} {σ:St} {H H':Hp} {s:Shared} {b:Addr} (I:Inv X pins σ H s) (hb:s.heap.objs.size <= b) (hn:H' b = none):FpOk X pins H' b:=by
 refine ⟨hn,Nat.ne_of_gt (Nat.lt_of_lt_of_le I.lt hb),I.nofs hb,.inr (Nat.le_trans I.sz hb),fun x c e z=>?_,fun p hp z=>?_⟩
 ·obtain ⟨v, q⟩ := I.cell x c e
  exact absurd (Nat.lt_of_lt_of_le q.lt (by rw [z]; exact hb)) (Nat.lt_irrefl _)
 ·exact absurd (Nat.lt_of_lt_of_le (Heap.lt_size (I.pin p hp).1) (by rw [z]; exact hb)) (Nat.lt_irrefl _)
structure Turn (P:Program) (w:World) (K:PySem.W.Frag) (tg:Expr) (J:It) (fp:List Addr) (it:Addr) (tn:Nat -> Heap -> Prop):Prop where
 mem:it ∈ fp
 obj:∀ i h,tn i h -> ∀ b ∈ fp,∃ o,h.get? b = some o /\ ∀ v,o.data ≠ .cell v
 keep:∀ i h h',tn i h -> (∀ b ∈ fp,∀ o,h.get? b = some o -> h'.get? b = some o) -> tn i h'
 item:∀ (X:Cx),X.prog = P -> X.w = w -> X.K = K -> X.calm = true -> ∀ (i:Nat) (pins:List (Addr × Obj)) (s:Shared) (σ:St) (H:Hp) (E:Value -> Shared -> Prop),Inv X pins σ H s -> (∀ b ∈ fp,FpOk X pins H b) -> tn i s.heap -> J.go i H ->
  wpAny (model P w) X.A (pyNext (.ref it)) (fun r s1=>∃ u,r = some u /\
   wpAny (model P w) X.A (letOwnedTupleGo tg (.ref it) u) (fun _ s2=>∃ x H',Inv X pins σ H' s2 /\ RelV x u /\ J.yld i H x H' /\ tn (i + 1) s2.heap /\ ∀ b ∈ fp,H' b = none) E s1) E s
 done:∀ (X:Cx),X.prog = P -> X.w = w -> X.K = K -> X.calm = true -> ∀ (i:Nat) (pins:List (Addr × Obj)) (s:Shared) (σ:St) (H:Hp) (E:Value -> Shared -> Prop),Inv X pins σ H s -> (∀ b ∈ fp,FpOk X pins H b) -> tn i s.heap -> J.stop i H ->
  wpAny (model P w) X.A (pyNext (.ref it)) (fun r s1=>r = none /\ Inv X pins σ H s1) E s
 self:∀ (A:Around) (i:Nat) (s:Shared) (Q:Value -> Shared -> Prop) (E:Value -> Shared -> Prop),tn i s.heap -> Q (.ref it) s -> wpAny (model P w) A (pyIter (.ref it)) Q E s
abbrev TI:=St -> Hp -> (It -> Hp -> Prop) -> Prop
def PIE (X:Cx) (pins:List (Addr × Obj)) (σ:St) (tg:Expr) (R:It -> Hp -> Prop) (itv:Value) (s2:Shared):Prop :=
 ∃ (it:Addr) (fp:List Addr) (tn:Nat -> Heap -> Prop) (J:It) (H':Hp),itv = .ref it /\ Inv X pins σ H' s2 /\ Turn X.prog X.w X.K tg J fp it tn /\ tn 0 s2.heap /\ (∀ b ∈ fp,FpOk X pins H' b) /\ R J H'
def PI (X:Cx) (tg iter:Expr) (wi:TI):Prop :=
 ∀ (pins:List (Addr × Obj)) (s:Shared) (σ:St) (H:Hp) (R:It -> Hp -> Prop),Inv X pins σ H s -> wi σ H R ->
  wpAny (model X.prog X.w) X.A (eval iter X.env) (fun v s1=>wpAny (model X.prog X.w) X.A (pyIter v) (PIE X pins σ tg R) X.xe s1) X.xe s
theorem zo5 {M : Model} {A : Around} {E : Value -> Shared -> Prop} {s : Shared} {tg : Expr} {it : Addr} {u : Value} {o : Obj} {n : String} {vs : Array Value} {Q : Unit -> Shared -> Prop} (ho : s.heap.get? it = some o) (hc : o.cls = .type n) (hd : o.data = .fields vs)
    (hn:["enumerate", "zip", "dict_itemiterator", "dict_reverseitemiterator", "odict_iterator", "itertools.zip_longest", "itertools.pairwise"].contains n = false) (hQ:Q () s):wpAny M A (letOwnedTupleGo tg (.ref it) u) Q E s:=by
  unfold letOwnedTupleGo
  cases tg <;> first
    | exact wpAny_pure hQ
    | (cases u <;> first
        | exact wpAny_pure hQ
        | (refine wpAny_bind (wpAny_load ho ?_)
           rw [hc,hd]
           show wpAny M A (if (["enumerate", "zip", "dict_itemiterator", "dict_reverseitemiterator", "odict_iterator", "itertools.zip_longest", "itertools.pairwise"].contains n && vs[0]? == some (rawInt _)) = true then _ else _) Q E s
           rw [if_neg (by intro h; rw [hn,Bool.false_and] at h; cases h)]
           exact wpAny_pure hQ))
def Itl (K:PySem.W.Frag) (a:Addr):It :=
 ⟨fun i H=>∃ xs x,SqL K H a xs /\ xs[i]? = some x,fun i H x H'=>H' = H /\ ∀ xs,SqL K H a xs -> xs[i]? = some x,fun i H=>∃ xs,SqL K H a xs /\ xs.length <= i⟩
def Itt (K:PySem.W.Frag) (a:Addr):It :=
 ⟨fun i H=>∃ xs x,SqT K H a xs /\ xs[i]? = some x,fun i H x H'=>H' = H /\ ∀ xs,SqT K H a xs -> xs[i]? = some x,fun i H=>∃ xs,SqT K H a xs /\ xs.length <= i⟩
def Itr (lo:Int) (n:Nat):It:=⟨fun i _=>i < n,fun i H x H'=>H' = H /\ x = .int (lo + i),fun i _=>n <= i⟩
theorem UD {P:Program} {w:World} {K:PySem.W.Frag} {tg:Expr} (a it:Addr):Turn P w K tg (Itl K a) [it] it (fun i h=>h.IsListIter it a i) where
 mem:=by simp
 obj:=fun i h st b hb=>by
  have e:b = it:=by simpa using hb
  subst e
  obtain ⟨o,e,c,d⟩:=st
  exact ⟨o,e,fun v z=>by rw [d] at z; cases z⟩
 keep:=fun i h h' st k=>st.at fun o e=>k it (by simp) o e
 item:=by
  intro X hP hw hK hc i pins s σ H E I hf st hg
  subst hP hw hK
  obtain ⟨xs,x,hq,hx⟩:=hg
  obtain ⟨its,rv,p,hz⟩:=I.list hq
  obtain ⟨u,hu,ru⟩:=rv.get hx
  obtain ⟨f0,f1,f2,f3,f4,f5⟩:=hf it (by simp)
  refine wpAny_pyNext_list_item st p.isList (x:=u) (by simpa using hu) fun h' st' sb=>?_
  have I1:Inv X pins σ H { s with heap:=h' }:=I.turned (t':=s.toks) (fun b o hb e=>(sb.2 b hb).trans e) f0 f1 f3 f4 f5
  obtain ⟨o,e,c,d⟩:=id st'
  exact ⟨u,rfl,zo5 (s:={ s with heap:=h' }) e c d (by decide) ⟨x,H,I1,ru,⟨rfl,fun ys hy=>by rw [I.list_inj hy hq]; exact hx⟩,st',fun b hb=>(hf b hb).1⟩⟩
 done:=by
  intro X hP hw hK hc i pins s σ H E I hf st hg
  subst hP hw hK
  obtain ⟨xs,hq,hx⟩:=hg
  obtain ⟨its,rv,p,hz⟩:=I.list hq
  obtain ⟨f0,f1,f2,f3,f4,f5⟩:=hf it (by simp)
  have hl:=rv.length
  exact wpAny_pyNext_list_end (I.ok.hd hc) st p.isList (by simp; lia) fun h' eb=>⟨rfl,I.turned (t':=s.toks) (fun b o hb e=>eb b o hb e) f0 f1 f3 f4 f5⟩
 self:=fun _ _ _ _ _ st h=>wpAny_pyIter_listiter st h
theorem VB {P:Program} {w:World} {K:PySem.W.Frag} {tg:Expr} (a it:Addr):Turn P w K tg (Itt K a) [it] it (fun i h=>h.IsTupleIter it a i) where
 mem:=by simp
 obj:=fun i h st b hb=>by
  have e:b = it:=by simpa using hb
  subst e
  obtain ⟨o,e,c,d⟩:=st
  exact ⟨o,e,fun v z=>by rw [d] at z; cases z⟩
 keep:=fun i h h' st k=>st.at fun o e=>k it (by simp) o e
 item:=by
  intro X hP hw hK hc i pins s σ H E I hf st hg
  subst hP hw hK
  obtain ⟨xs,x,hq,hx⟩:=hg
  obtain ⟨its,rv,p,hz⟩:=I.tuple hq
  obtain ⟨u,hu,ru⟩:=rv.get hx
  obtain ⟨f0,f1,f2,f3,f4,f5⟩:=hf it (by simp)
  refine wpAny_pyNext_tuple_item st (show s.heap.IsTuple a its.toArray from p) (x:=u) (by simpa using hu) fun h' st' sb=>?_
  have I1:Inv X pins σ H { s with heap:=h' }:=I.turned (t':=s.toks) (fun b o hb e=>(sb.2 b hb).trans e) f0 f1 f3 f4 f5
  obtain ⟨o,e,c,d⟩:=id st'
  exact ⟨u,rfl,zo5 (s:={ s with heap:=h' }) e c d (by decide) ⟨x,H,I1,ru,⟨rfl,fun ys hy=>by rw [I.tuple_inj hy hq]; exact hx⟩,st',fun b hb=>(hf b hb).1⟩⟩
 done:=by
  intro X hP hw hK hc i pins s σ H E I hf st hg
  subst hP hw hK
  obtain ⟨xs,hq,hx⟩:=hg
  obtain ⟨its,rv,p,hz⟩:=I.tuple hq
  obtain ⟨f0,f1,f2,f3,f4,f5⟩:=hf it (by simp)
  have hl:=rv.length
  exact wpAny_pyNext_tuple_end (I.ok.hd hc) st (show s.heap.IsTuple a its.toArray from p) (by simp; lia) fun h' eb=>⟨rfl,I.turned (t':=s.toks) (fun b o hb e=>eb b o hb e) f0 f1 f3 f4 f5⟩
 self:=fun _ _ _ _ _ st h=>wpAny_pyIter_tupleiter st h
theorem VC {P:Program} {w:World} {K:PySem.W.Frag} {tg:Expr} (it:Addr) (lo:Int) (n:Nat):Turn P w K tg (Itr lo n) [it] it (fun i h=>IsRangeIter h it (lo + (i:Nat) * 1) ((n:Int) - (i:Nat)) 1) where
 mem:=by simp
 obj:=fun i h st b hb=>by
  have e:b = it:=by simpa using hb
  subst e
  exact ⟨_,st,fun v z=>by
   have z':Data.fields _ = Data.cell v:=z
   cases z'⟩
 keep:=fun i h h' st k=>k it (by simp) _ st
 item:=by
  intro X hP hw hK hc i pins s σ H E I hf st hg
  subst hP hw hK
  obtain ⟨f0,f1,f2,f3,f4,f5⟩:=hf it (by simp)
  have W:=Walks.range (prog:=X.prog) (w:=X.w) (I.ok.hd hc) it lo 1 n
  refine W.item i s _ _ hg st fun v h' tk hv st' kk=>?_
  obtain ⟨t,rfl⟩:=hv
  have I1:Inv X pins σ H { s with heap:=h',toks:=tk }:=I.turned (fun b o hb e=>kk b o (by simpa using hb) e) f0 f1 f3 f4 f5
  refine ⟨_,rfl,zo5 (s:={ s with heap:=h',toks:=tk }) (n := "range_iterator") st' rfl rfl (by decide) ⟨.int (lo + i),H,I1,⟨t,?_⟩,⟨rfl,rfl⟩,st',fun b hb=>(hf b hb).1⟩⟩
  rw [Int.mul_one]
 done:=by
  intro X hP hw hK hc i pins s σ H E I hf st hg
  subst hP hw hK
  obtain ⟨f0,f1,f2,f3,f4,f5⟩:=hf it (by simp)
  exact wpAny_pyNext_range_end (I.ok.hd hc) st (by have:n <= i:=hg; lia) fun h' eb=>⟨rfl,I.turned (t':=s.toks) (fun b o hb e=>eb b o hb e) f0 f1 f3 f4 f5⟩
 self:=fun _ _ _ _ _ st h=>wpAny_pyIter_rangeiter st h
end L2
namespace L2
open PySem PySem.Spec PyProof.Rows
section
variable {X:Cx} {tg:Expr}
theorem QJ {pins:List (Addr × Obj)} {σ:St} {H:Hp} {s:Shared} {R:It -> Hp -> Prop} {E:Value -> Shared -> Prop} {lo hi:Int} {t u v:Tok} {tk:Nat} (I:Inv X pins σ H s) (h1:-(2 ^ 62) <= lo) (h2:lo < 2 ^ 62) (h3:-(2 ^ 62) <= hi) (h4:hi < 2 ^ 62)
  (q:R (Itr lo (hi - lo).toNat) H):wpAny (model X.prog X.w) X.A (pyIter (.ref s.heap.objs.size)) (PIE X pins σ tg R) E { s with heap:=s.heap.push { cls:=.type "range",data:=.fields #[.int lo t,.int hi u,.int 1 v] },toks:=tk }:=by
 refine wpAny_pyIter_range (IsRange.new ..) (small_one h1 h2 h3 h4) ?_
 have I1:Inv X pins σ H { s with heap:=s.heap.push { cls:=.type "range",data:=.fields #[.int lo t,.int hi u,.int 1 v] },toks:=tk }:=I.kept fun b o e=>Heap.get?_push_of_some _ e
 refine ⟨(s.heap.push { cls:=.type "range",data:=.fields #[.int lo t,.int hi u,.int 1 v] }).objs.size,[(s.heap.push { cls:=.type "range",data:=.fields #[.int lo t,.int hi u,.int 1 v] }).objs.size],_,_,H,rfl,
  I1.kept (t':=tk) fun b o e=>Heap.get?_push_of_some _ e,VC _ lo (hi - lo).toNat,?_,fun b hb=>?_,q⟩
 ·have e1 : lo + ((0 : Nat) : Int) * 1 = lo := by simp
  have e2:(((hi - lo).toNat:Nat):Int) - ((0:Nat):Int) = Builtin.Range.rangeSize lo hi 1:=by rw [rangeSize_one]; split <;> lia
  show IsRangeIter _ _ (lo + ((0:Nat):Int) * 1) ((((hi - lo).toNat:Nat):Int) - ((0:Nat):Int)) 1
  rw [e1,e2]
  exact Heap.get?_push_size _ rfl
 ·have e : b = (s.heap.push { cls := .type "range", data := .fields #[.int lo t, .int hi u, .int 1 v] }).objs.size := by simpa using hb
  subst e
  exact I1.fpOk (Nat.le_refl _) (I1.hok.fresh (Nat.le_refl _))
def zT4 (ta:TA):TI:=fun σ H R=>ta σ H fun vs H1=>∃ j:Int,vs = [.int j] /\ -(2 ^ 62) <= j /\ j < 2 ^ 62 /\ R (Itr 0 j.toNat) H1
theorem Kf {a:Expr} {ta:TA} {p pos:Pos} (hg:Gl X "range") (hm:X.mg "range" = none) (ha:PA X [a] ta) (hs:starEach [a] X.env = [(false,eval a X.env)]:=by rfl):PI X tg (.Call (.Name "range" p) [a] [] pos) (zT4 ta):=by
 intro pins s σ H R I h
 refine Call_ (jX I hg hm boot_range (PyProof.Rows.callWith_type1 (thn (ha pos pins s σ H _ I h) fun us s1 ⟨vs,H1,I1,r1,q1⟩=>?_) hs rfl))
 obtain ⟨j,e,q1,q2,q⟩:=q1
 subst e
 cases r1 with
 | cons r rr =>
  cases rr
  obtain ⟨t,rfl⟩:=r
  exact call_range_1 (QJ I1 (by lia) (by lia) q1 q2 (by simpa using q))
def xd5 (wi:TI) (g:TG) (tb:TS):TS:=fun D σ H=>wi σ H fun J H1=>∃ W:Nat -> Nat -> St -> Hp -> Prop,(∃ m,W 0 m σ H1) /\ ∀ i m σ H,W i m σ H ->
 (J.stop i H /\ D.nx σ H) \/ (J.go i H /\ ∃ N:St -> Hp -> Prop,(∀ σ' H',N σ' H' -> ∃ m',m' < m /\ W (i + 1) m' σ' H') /\ ∀ x H',J.yld i H x H' -> g x σ H' fun σ2 H2=>tb { D with nx:=N,ct:=N,bk:=D.nx } σ2 H2)
def ve (fp:List Addr) (h:Heap):List (Addr × Obj):=fp.filterMap fun b=>(h.get? b).map fun o=>(b,o)
theorem wf {fp:List Addr} {h:Heap} {b:Addr} {o:Obj} (hb:b ∈ fp) (e:h.get? b = some o):(b,o) ∈ ve fp h:=List.mem_filterMap.mpr ⟨b,hb,by rw [e]; rfl⟩
theorem YY {fp:List Addr} {h:Heap} {p:Addr × Obj} (hp:p ∈ ve fp h):p.1 ∈ fp /\ h.get? p.1 = some p.2:=by
 obtain ⟨b,hb,e⟩:=List.mem_filterMap.mp hp
 cases q:h.get? b with
 | none=>rw [q] at e; cases e
 | some o =>
  rw [q] at e
  have e':(b,o) = p:=Option.some.inj e
  subst e'
  exact ⟨hb,q⟩
theorem Inv.pinned {pins:List (Addr × Obj)} {σ:St} {H:Hp} {s:Shared} {fp:List Addr} (I:Inv X pins σ H s) (hf:∀ b ∈ fp,FpOk X pins H b) (ho:∀ b ∈ fp,∃ o,s.heap.get? b = some o /\ ∀ v,o.data ≠ .cell v):Inv X (pins ++ ve fp s.heap) σ H s :=
 I.pins_of fun p hp=>(List.mem_append.mp hp).elim (fun z=>I.pin p (List.mem_append_right _ z)) fun z=>by
  obtain ⟨hb,e⟩:=YY z
  obtain ⟨f0,f1,f2,_⟩:=hf p.1 hb
  obtain ⟨o,e',d⟩:=ho p.1 hb
  rw [e] at e'; cases e'
  exact ⟨e,f0,f1,f2,d⟩
theorem Inv.unpinned {pins pl:List (Addr × Obj)} {σ:St} {H:Hp} {s:Shared} (I:Inv X (pins ++ pl) σ H s):Inv X pins σ H s:=I.pins_of fun p hp=>I.pin p (List.mem_append_right _ (List.mem_append_left _ hp))
theorem zv6 {iter:Expr} {body:List Stmt} {wi:TI} {g:TG} {tb:TS} {pos:Pos} (hp:PassesOwn (model X.prog X.w) X.A X.env X.xe) (hc:X.calm = true) (hi:PI X tg iter wi) (hg:PG X tg g) (hb:PSs X body tb)
  (hs:∀ x,foldedSetIterable iter X.env x = pure x:=by intro _; rfl):PS X (.For tg iter body [] pos) (xd5 wi g tb):=by
 intro pins s σ H D I h
 refine wpAny_For (thn (hi pins s σ H _ I h) fun v s1 h1=>thn h1 fun itv s2 h2=>?_) hs
 obtain ⟨it,fp,tn,J,H2,e,I2,T,st2,f2,W,⟨m0,w0⟩,turn⟩:=h2
 subst e
 have stat:∀ {H':Hp},(∀ b ∈ fp,H' b = none) -> ∀ b ∈ fp,FpOk X pins H' b:=fun hn b hb=>⟨hn b hb,(f2 b hb).2⟩
 refine codeAny_forLoop_any (fun n s'=>∃ i σ' H',Inv X pins σ' H' s' /\ tn i s'.heap /\ (∀ b ∈ fp,H' b = none) /\ W i n σ' H') ?_ m0 ⟨0,σ,H2,I2,st2,fun b hb=>(f2 b hb).1,w0⟩
 rintro n s3 ⟨i,σ3,H3,I3,st3,fr3,w3⟩
 rcases turn i n σ3 H3 w3 with ⟨stop,qn⟩ | ⟨go,N,hN,step⟩
 ·refine wpAny_passesOwn hp (thn (T.done X rfl rfl rfl hc i pins s3 σ3 H3 X.xe I3 (stat fr3) st3 stop) fun r s4 ⟨hr, I4⟩ => ?_)
  subst hr
  exact wpAny_execs_nil ⟨σ3,H3,I4,qn⟩
 ·refine wpAny_passesOwn hp (thn (T.item X rfl rfl rfl hc i pins s3 σ3 H3 X.xe I3 (stat fr3) st3 go) fun r s4 ⟨u, hr, h4⟩ => ?_)
  subst hr
  refine wpAny_passesOwn hp (thn h4 fun _ s5 ⟨x,H5,I5,r5,y5,st5,fr5⟩=>?_)
  have I5':=I5.pinned (stat fr5) (T.obj _ _ st5)
  refine wpAny_passesOwn hp (thn (hg _ s5 σ3 H5 x u _ I5' r5 (step x H5 y5)) fun _ s6 ⟨σ6,H6,I6,q6⟩=>?_)
  refine wpAny_passesOwn hp (thn (hb _ s6 σ6 H6 _ I6 q6) fun f s7 q7=>?_)
  have again:∀ {σ7:St} {H7:Hp},Inv X (pins ++ ve fp s5.heap) σ7 H7 s7 -> N σ7 H7 -> ∃ m,m < n /\ ∃ i σ' H',Inv X pins σ' H' s7 /\ tn i s7.heap /\ (∀ b ∈ fp,H' b = none) /\ W i m σ' H':=fun {σ7 H7} I7 n7=>by
   obtain ⟨m',hm,w7⟩:=hN σ7 H7 n7
   refine ⟨m',hm,i + 1,σ7,H7,I7.unpinned,T.keep _ _ _ st5 fun b hb o e=>(I7.pin (b,o) (List.mem_append_right _ (List.mem_append_right _ (wf hb e)))).1,fun b hb=>?_,w7⟩
   obtain ⟨o,e,d⟩:=T.obj _ _ st5 b hb
   exact (I7.pin (b,o) (List.mem_append_right _ (List.mem_append_right _ (wf hb e)))).2.1
  cases f with
  | next=>obtain ⟨σ7,H7,I7,n7⟩:=q7; exact again I7 n7
  | cont=>obtain ⟨σ7,H7,I7,n7⟩:=q7; exact again I7 n7
  | brk=>obtain ⟨σ7,H7,I7,q7⟩:=q7; exact ⟨σ7,H7,I7.unpinned,q7⟩
  | ret v=>obtain ⟨x7,σ7,H7,I7,r7,q7⟩:=q7; exact ⟨x7,σ7,H7,I7.unpinned,r7,q7⟩
end
end L2
namespace L2
open PySem PySem.Spec PyProof.Rows
abbrev R2:=V -> V -> Hp -> VK -> Prop
def OpR (X:Cx) (f:Value -> Value -> Sem Value) (r:R2):Prop :=
 ∀ (pins:List (Addr × Obj)) (s:Shared) (σ:St) (H:Hp) (x y:V) (v u:Value) (Q:VK),Inv X pins σ H s -> RelV x v -> RelV y u -> r x y H Q ->
  wpAny (model X.prog X.w) X.A (f v u) (EP X pins σ Q) X.xe s
def UnR (X:Cx) (f:Value -> Sem Value) (r:V -> Hp -> VK -> Prop):Prop :=
 ∀ (pins:List (Addr × Obj)) (s:Shared) (σ:St) (H:Hp) (x:V) (v:Value) (Q:VK),Inv X pins σ H s -> RelV x v -> r x H Q ->
  wpAny (model X.prog X.w) X.A (f v) (EP X pins σ Q) X.xe s
def va (X:Cx) (f:Value) (r:List V -> Hp -> VK -> Prop):Prop :=
 ∀ (pins:List (Addr × Obj)) (s:Shared) (σ:St) (H:Hp) (xs:List V) (us:List Value) (Q:VK),Inv X pins σ H s -> Vals xs us -> r xs H Q ->
  wpAny (model X.prog X.w) X.A (call f us) (EP X pins σ Q) X.xe s
def tOp (r:R2) (ta tb:TE):TE:=fun σ H Q=>ta σ H fun x H1=>tb σ H1 fun y H2=>r x y H2 Q
def tUn (r:V -> Hp -> VK -> Prop) (ta:TE):TE:=fun σ H Q=>ta σ H fun x H1=>r x H1 Q
def rI (C:Int -> Int -> Prop) (g:Int -> Int -> V):R2:=fun x y H Q=>∃ i j,x = .int i /\ y = .int j /\ C i j /\ Q (g i j) H
def rI0 (g:Int -> Int -> V):R2:=fun x y H Q=>∃ i j,x = .int i /\ y = .int j /\ Q (g i j) H
def rU (g:Int -> V):V -> Hp -> VK -> Prop:=fun x H Q=>∃ i,x = .int i /\ Q (g i) H
section
variable {X:Cx} {a b c:Expr} {ta tb tc:TE} {pos:Pos}
theorem zU2 (ha:PE X a ta) (hb:PE X b tb) {pins:List (Addr × Obj)} {s:Shared} {σ:St} {H:Hp} {R:V -> V -> Hp -> Prop} (I:Inv X pins σ H s)
  (h:ta σ H fun x H1=>tb σ H1 fun y H2=>R x y H2) {Q:Value -> Shared -> Prop} {f:Value -> Value -> Sem Value}
  (hf:∀ v u s2 x y H2,Inv X pins σ H2 s2 -> RelV x v -> RelV y u -> R x y H2 -> wpAny (model X.prog X.w) X.A (f v u) Q X.xe s2) :
  wpAny (model X.prog X.w) X.A (eval a X.env) (fun v s₁=>wpAny (model X.prog X.w) X.A (eval b X.env) (fun u s₂=>wpAny (model X.prog X.w) X.A (f v u) Q X.xe s₂) X.xe s₁) X.xe s:=by
 refine thn (ha pins s σ H _ I h) fun v s1 ⟨x,H1,I1,r1,q1⟩=>?_
 refine thn (hb pins s1 σ H1 _ I1 q1) fun u s2 ⟨y,H2,I2,r2,q2⟩=>?_
 exact hf v u s2 x y H2 I2 r1 r2 q2
theorem zR5 {op:Operator} {r:R2} (ho:OpR X (binaryOp op) r) (ha:PE X a ta) (hb:PE X b tb):PE X (.BinOp a op b pos) (tOp r ta tb):=by
 intro pins s σ H Q I h
 exact wpAny_BinOp (zU2 ha hb I h fun v u s2 x y H2 I2 rx ry q=>ho pins s2 σ H2 x y v u Q I2 rx ry q)
theorem zR3 {op:UnaryOp} {r:V -> Hp -> VK -> Prop} (ho:UnR X (unaryOp op) r) (ha:PE X a ta):PE X (.UnaryOp op a pos) (tUn r ta):=by
 intro pins s σ H Q I h
 exact UnaryOp_ (thn (ha pins s σ H _ I h) fun v s1 ⟨x,H1,I1,r1,q1⟩=>ho pins s1 σ H1 x v Q I1 r1 q1)
theorem opI {f:Value -> Value -> Sem Value} {C:Int -> Int -> Prop} {g:Int -> Int -> Int}
  (rule:∀ (i j:Int) (t u:Tok) (s:Shared) (Q:Value -> Shared -> Prop) (E:Value -> Shared -> Prop),C i j -> Q (.int (g i j) s.toks) { s with toks:=s.toks + 1 } -> wpAny (model X.prog X.w) X.A (f (.int i t) (.int j u)) Q E s) :
  OpR X f (rI C fun i j=>.int (g i j)):=by
 intro pins s σ H x y v u Q I rx ry h
 obtain ⟨i,j,rfl,rfl,hc,q⟩:=h
 obtain ⟨t,rfl⟩:=rx
 obtain ⟨t',rfl⟩:=ry
 exact rule i j t t' s _ _ hc ⟨.int (g i j),H,I.tok _,⟨_,rfl⟩,q⟩
theorem xa3 {f:Value -> Value -> Sem Value} {g:Int -> Int -> Int}
  (rule:∀ (i j:Int) (t u:Tok) (s:Shared) (Q:Value -> Shared -> Prop) (E:Value -> Shared -> Prop),Q (.int (g i j) s.toks) { s with toks:=s.toks + 1 } -> wpAny (model X.prog X.w) X.A (f (.int i t) (.int j u)) Q E s) :
  OpR X f (rI0 fun i j=>.int (g i j)):=by
 intro pins s σ H x y v u Q I rx ry h
 obtain ⟨i,j,rfl,rfl,q⟩:=h
 obtain ⟨t,rfl⟩:=rx
 obtain ⟨t',rfl⟩:=ry
 exact rule i j t t' s _ _ ⟨.int (g i j),H,I.tok _,⟨_,rfl⟩,q⟩
theorem zR9 {f:Value -> Value -> Sem Value} {g:Int -> Int -> Bool}
  (rule:∀ (i j:Int) (t u:Tok) (s:Shared) (Q:Value -> Shared -> Prop) (E:Value -> Shared -> Prop),Q (.bool (g i j)) s -> wpAny (model X.prog X.w) X.A (f (.int i t) (.int j u)) Q E s) :
  OpR X f (rI0 fun i j=>.bl (g i j)):=by
 intro pins s σ H x y v u Q I rx ry h
 obtain ⟨i,j,rfl,rfl,q⟩:=h
 obtain ⟨t,rfl⟩:=rx
 obtain ⟨t',rfl⟩:=ry
 exact rule i j t t' s _ _ ⟨.bl (g i j),H,I,rfl,q⟩
def xc4 (i j:Int):Prop:=0 < j /\ j < 1073741824
def xc3 (i j:Int):Prop:=0 <= j /\ j <= 1000000 /\ i.natAbs < 2 ^ 64
def CMul (i j:Int):Prop:=(-(2 ^ 64) < i /\ i < 2 ^ 64) \/ (-(2 ^ 64) < j /\ j < 2 ^ 64)
theorem CMul.ok {i j:Int} (h:CMul i j):IntMulOk i j:=by
 rcases h with ⟨h1,h2⟩ | ⟨h1,h2⟩
 ·exact .of_left (intBits_le_64 h1 h2)
 ·exact .of_right (intBits_le_64 h1 h2)
theorem zx9:OpR X (binaryOp .Add) (rI0 fun i j=>.int (i + j)):=xa3 fun _ _ _ _ _ _ _ q=>add_int q
theorem zx2:OpR X (binaryOp .Sub) (rI0 fun i j=>.int (i - j)):=xa3 fun _ _ _ _ _ _ _ q=>sub_int q
theorem zx5:OpR X (binaryOp .Mult) (rI CMul fun i j=>.int (i * j)):=opI fun _ _ _ _ _ _ _ hc q=>mul_int q hc.ok
theorem zl5:OpR X (binaryOp .FloorDiv) (rI xc4 fun i j=>.int (i / j)):=opI fun i j _ _ _ _ _ hc q=>by
 have h1:(0:Int) < j:=hc.1
 have h2:j < 1073741824:=hc.2
 exact floordiv_int (by lia) (by rw [Int.fdiv_eq_ediv_of_nonneg i (by lia)]; exact q) (.inl (PyProof.noPylong_small (by lia)))
theorem zx6:OpR X (binaryOp .Mod) (rI (fun _ j=>0 < j) fun i j=>.int (i % j)):=opI fun i j _ _ _ _ _ hc q=>by
 have h1:(0:Int) < j:=hc
 exact mod_int' (by lia) (by rw [Int.fmod_eq_emod_of_nonneg i (by lia)]; exact q)
theorem zx3:OpR X (binaryOp .Pow) (rI xc3 fun i j=>.int (i ^ j.toNat)):=opI fun _ _ _ _ _ _ _ hc q=>pow_int_small hc.1 hc.2.1 hc.2.2 q
theorem unI {f:Value -> Sem Value} {g:Int -> Int}
  (rule:∀ (i:Int) (t:Tok) (s:Shared) (Q:Value -> Shared -> Prop) (E:Value -> Shared -> Prop),Q (.int (g i) s.toks) { s with toks:=s.toks + 1 } -> wpAny (model X.prog X.w) X.A (f (.int i t)) Q E s) :
  UnR X f (rU fun i=>.int (g i)):=by
 intro pins s σ H x v Q I rx h
 obtain ⟨i,rfl,q⟩:=h
 obtain ⟨t,rfl⟩:=rx
 exact rule i t s _ _ ⟨.int (g i),H,I.tok _,⟨_,rfl⟩,q⟩
theorem zr0:UnR X (unaryOp .USub) (rU fun i=>.int (-i)):=unI fun _ _ _ _ _ q=>neg_int q
end
def zD5:V -> V -> Bool
 | .non,.non=>true | .non,.int _=>true | .int _,.non=>true | .non,.bl _=>true | .bl _,.non=>true | .non,.str _=>true | .str _,.non=>true
 | .int _,.int _=>true | .bl _,.bl _=>true | .str _,.str _=>true | .byt _,.byt _=>true
 | .int _,.str _=>true | .str _,.int _=>true | .bl _,.str _=>true | .str _,.bl _=>true
 | _,_=>false
def rEq:R2:=fun x y H Q=>zD5 x y = true /\ Q (.bl (decide (x = y))) H
def rNe:R2:=fun x y H Q=>zD5 x y = true /\ Q (.bl (!decide (x = y))) H
theorem Jr {i j:Int}:decide (V.int i = V.int j) = (i == j):=by
 rw [Bool.eq_iff_iff]
 simp
theorem zg7 {i j:Bool}:decide (V.bl i = V.bl j) = (i == j):=by
 rw [Bool.eq_iff_iff]
 simp
theorem Jq {i j:Str}:decide (V.str i = V.str j) = (i == j):=by
 rw [Bool.eq_iff_iff]
 simp
theorem Js {i j:Array UInt8}:decide (V.byt i = V.byt j) = (i.toList == j.toList):=by
 rw [Bool.eq_iff_iff]
 cases i
 cases j
 simp
section
variable {X:Cx} {a b c:Expr} {ta tb tc:TE} {pos:Pos}
theorem xh {pins:List (Addr × Obj)} {σ:St} {H:Hp} {s:Shared} {Q:VK} {k k':Bool} (I:Inv X pins σ H s) (q:Q (.bl k) H) (e:k = k'):EP X pins σ Q (.bool k') s:=by
 subst e
 exact ⟨.bl k,H,I,rfl,q⟩
theorem kQ:OpR X (compareOp .Eq) rEq:=by
 intro pins s σ H x y v u Q I rx ry h
 obtain ⟨hs,q⟩:=h
 cases x with
 | non =>
  cases rx
  cases y with
  | non=>cases ry; exact PySem.EqNone.eq_none_none (xh I q (by simp))
  | bl j=>cases ry; exact PySem.EqNone.eq_none_bool (xh I q (by simp))
  | int j=>obtain ⟨t',rfl⟩:=ry; exact PySem.EqNone.eq_none_int (xh I q (by simp))
  | str j=>obtain ⟨t',rfl⟩:=ry; exact PySem.EqNone.eq_none_str (xh I q (by simp))
  | _=>exact absurd (show false = true from hs) Bool.false_ne_true
 | bl i =>
  cases rx
  cases y with
  | non=>cases ry; exact PySem.EqNone.eq_bool_none (xh I q (by simp))
  | bl j=>cases ry; exact eq_bool (xh I q zg7)
  | str j=>obtain ⟨t',rfl⟩:=ry; exact PySem.EqMixed.eq_bool_str (xh I q (by simp))
  | _=>exact absurd (show false = true from hs) Bool.false_ne_true
 | int i =>
  obtain ⟨t,rfl⟩:=rx
  cases y with
  | non=>cases ry; exact PySem.EqNone.eq_int_none (xh I q (by simp))
  | int j=>obtain ⟨t',rfl⟩:=ry; exact eq_int (xh I q Jr)
  | str j=>obtain ⟨t',rfl⟩:=ry; exact PySem.EqMixed.eq_int_str (xh I q (by simp))
  | _=>exact absurd (show false = true from hs) Bool.false_ne_true
 | str i =>
  obtain ⟨t,rfl⟩:=rx
  cases y with
  | non=>cases ry; exact PySem.EqNone.eq_str_none (xh I q (by simp))
  | bl j=>cases ry; exact PySem.EqMixed.eq_str_bool (xh I q (by simp))
  | int j=>obtain ⟨t',rfl⟩:=ry; exact PySem.EqMixed.eq_str_int (xh I q (by simp))
  | str j=>obtain ⟨t',rfl⟩:=ry; exact eq_str (xh I q Jq)
  | _=>exact absurd (show false = true from hs) Bool.false_ne_true
 | byt i =>
  obtain ⟨t,rfl⟩:=rx
  cases y with
  | byt j=>obtain ⟨t',rfl⟩:=ry; exact PySem.W.eq_bytes (xh I q Js)
  | _=>exact absurd (show false = true from hs) Bool.false_ne_true
 | _=>cases y <;> exact absurd (show false = true from hs) Bool.false_ne_true
theorem zx4:OpR X (compareOp .NotEq) rNe:=by
 intro pins s σ H x y v u Q I rx ry h
 obtain ⟨hs,q⟩:=h
 cases x with
 | non =>
  cases rx
  cases y with
  | non=>cases ry; exact PySem.EqNone.ne_none_none (xh I q (by simp))
  | bl j=>cases ry; exact PySem.EqNone.ne_none_bool (xh I q (by simp))
  | int j=>obtain ⟨t',rfl⟩:=ry; exact PySem.EqNone.ne_none_int (xh I q (by simp))
  | str j=>obtain ⟨t',rfl⟩:=ry; exact PySem.EqNone.ne_none_str (xh I q (by simp))
  | _=>exact absurd (show false = true from hs) Bool.false_ne_true
 | bl i =>
  cases rx
  cases y with
  | non=>cases ry; exact PySem.EqNone.ne_bool_none (xh I q (by simp))
  | bl j=>cases ry; exact ne_bool (xh I q (congrArg not zg7))
  | str j=>obtain ⟨t',rfl⟩:=ry; exact PySem.EqMixed.ne_bool_str (xh I q (by simp))
  | _=>exact absurd (show false = true from hs) Bool.false_ne_true
 | int i =>
  obtain ⟨t,rfl⟩:=rx
  cases y with
  | non=>cases ry; exact PySem.EqNone.ne_int_none (xh I q (by simp))
  | int j=>obtain ⟨t',rfl⟩:=ry; exact ne_int (xh I q (congrArg not Jr))
  | str j=>obtain ⟨t',rfl⟩:=ry; exact PySem.EqMixed.ne_int_str (xh I q (by simp))
  | _=>exact absurd (show false = true from hs) Bool.false_ne_true
 | str i =>
  obtain ⟨t,rfl⟩:=rx
  cases y with
  | non=>cases ry; exact PySem.EqNone.ne_str_none (xh I q (by simp))
  | bl j=>cases ry; exact PySem.EqMixed.ne_str_bool (xh I q (by simp))
  | int j=>obtain ⟨t',rfl⟩:=ry; exact PySem.EqMixed.ne_str_int (xh I q (by simp))
  | str j=>obtain ⟨t',rfl⟩:=ry; exact ne_str (xh I q (congrArg not Jq))
  | _=>exact absurd (show false = true from hs) Bool.false_ne_true
 | byt i =>
  obtain ⟨t,rfl⟩:=rx
  cases y with
  | byt j=>obtain ⟨t',rfl⟩:=ry; exact PySem.W.ne_bytes (xh I q (congrArg not Js))
  | _=>exact absurd (show false = true from hs) Bool.false_ne_true
 | _=>cases y <;> exact absurd (show false = true from hs) Bool.false_ne_true
theorem QS:OpR X (compareOp .Lt) (rI0 fun i j=>.bl (decide (i < j))):=zR9 fun _ _ _ _ _ _ _ q=>lt_int q
theorem qY:OpR X (compareOp .Gt) (rI0 fun i j=>.bl (decide (j < i))):=zR9 fun _ _ _ _ _ _ _ q=>gt_int q
theorem zx7:OpR X (compareOp .GtE) (rI0 fun i j=>.bl (decide (j <= i))):=zR9 fun _ _ _ _ _ _ _ q=>ge_int q
theorem wu:OpR X (compareOp .Is) (fun x y H Q=>y = .non /\ Q (.bl (decide (x = .non))) H):=by
 intro pins s σ H x y v u Q I rx ry h
 obtain ⟨rfl,q⟩:=h
 cases ry
 refine is_none_gen (xh I q ?_)
 cases x <;> first
  | (cases rx; rfl)
  | (obtain ⟨t,rfl⟩:=rx; rfl)
theorem yx:OpR X (compareOp .IsNot) (fun x y H Q=>y = .non /\ Q (.bl (!decide (x = .non))) H):=by
 intro pins s σ H x y v u Q I rx ry h
 obtain ⟨rfl,q⟩:=h
 cases ry
 refine isnot_none_gen (xh I q ?_)
 cases x <;> first
  | (cases rx; rfl)
  | (obtain ⟨t,rfl⟩:=rx; rfl)
theorem zv (b:Expr) {op:CmpOp} (h:op ≠ .In:=by decide) (h2:op ≠ .NotIn:=by decide):behindInMarks op b = false:=by
 have e1:(op == CmpOp.In) = false:=by cases op <;> first | rfl | exact absurd rfl h
 have e2:(op == CmpOp.NotIn) = false:=by cases op <;> first | rfl | exact absurd rfl h2
 cases b <;> simp [behindInMarks,e1,e2]
theorem zl1 {op:CmpOp} {r:R2} (ho:OpR X (compareOp op) r) (ha:PE X a ta) (hb:PE X b tb) (hm:behindInMarks op b = false):PE X (.Compare a [op] [b] pos) (tOp r ta tb):=by
 intro pins s σ H Q I h
 exact wpAny_Compare1 (zU2 ha hb I h fun v u s2 x y H2 I2 rx ry q=>ho pins s2 σ H2 x y v u Q I2 rx ry q) hm
def zr6 (t:TE):TT:=fun σ H Q=>t σ H fun x H'=>∃ k,x = .bl k /\ Q k H'
theorem UY {op:CmpOp} {r:R2} (ho:OpR X (compareOp op) r) (ha:PE X a ta) (hb:PE X b tb) (hm:behindInMarks op b = false):PT X (.Compare a [op] [b] pos) (zr6 (tOp r ta tb)):=by
 intro pins s σ H Q I h
 refine wpAny_isTrue_Compare1 (thn (ha pins s σ H _ I h) fun v s1 ⟨x,H1,I1,r1,q1⟩=>thn (hb pins s1 σ H1 _ I1 q1) fun u s2 ⟨y,H2,I2,r2,q2⟩ =>
  thn (ho pins s2 σ H2 x y v u _ I2 r1 r2 q2) fun c s3 ⟨z,H3,I3,r3,k,e,q3⟩=>?_) hm
 subst e
 cases r3
 exact wpAny_truthy_bool ⟨H3,I3,q3⟩
theorem Xh:(sizeLine:Nat) < 2 ^ 63:=by rw [sizeLine_eq]; decide
theorem Yq {x:V} {us:List Value} (r:Vals [x] us):∃ u,us = [u] /\ RelV x u:=by
 cases r with
 | cons r1 r2=>cases r2; exact ⟨_,rfl,r1⟩
theorem zq8 {x y:V} {us:List Value} (r:Vals [x,y] us):∃ u w',us = [u,w'] /\ RelV x u /\ RelV y w':=by
 cases r with
 | cons r1 r2 =>
  cases r2 with
  | cons r3 r4=>cases r4; exact ⟨_,_,rfl,r1,r3⟩
theorem Vx:va X (.builtin "abs") (fun xs H Q=>∃ i,xs = [.int i] /\ Q (.int (if i < 0 then -i else i)) H):=by
 intro pins s σ H xs us Q I r h
 obtain ⟨i,rfl,q⟩:=h
 obtain ⟨u,rfl,t,rfl⟩:=Yq r
 exact call_abs_int fun u tk=>⟨.int (if i < 0 then -i else i),H,I.tok _,⟨_,rfl⟩,q⟩
theorem XA (hc:X.calm = true):va X (.builtin "max") (fun xs H Q=>∃ i j,xs = [.int i,.int j] /\ Q (.int (if j > i then j else i)) H):=by
 intro pins s σ H xs us Q I r h
 obtain ⟨i,j,rfl,q⟩:=h
 obtain ⟨u,w',rfl,⟨t,rfl⟩,⟨t',rfl⟩⟩:=zq8 r
 refine max_two_ints (I.ok.hd hc) fun h' tk k=>⟨_,H,I.kept k,?_,q⟩
 by_cases hj:j > i
 ·rw [if_pos hj,if_pos hj]; exact ⟨_,rfl⟩
 ·rw [if_neg hj,if_neg hj]; exact ⟨_,rfl⟩
theorem Xz (hc:X.calm = true):va X (.builtin "min") (fun xs H Q=>∃ i j,xs = [.int i,.int j] /\ Q (.int (if j < i then j else i)) H):=by
 intro pins s σ H xs us Q I r h
 obtain ⟨i,j,rfl,q⟩:=h
 obtain ⟨u,w',rfl,⟨t,rfl⟩,⟨t',rfl⟩⟩:=zq8 r
 refine min_two_ints (I.ok.hd hc) fun h' tk k=>⟨_,H,I.kept k,?_,q⟩
 by_cases hj:j < i
 ·rw [if_pos hj,if_pos hj]; exact ⟨_,rfl⟩
 ·rw [if_neg hj,if_neg hj]; exact ⟨_,rfl⟩
theorem kw:va X (.type "int") (fun xs H Q=>(∃ i,xs = [.int i] /\ Q (.int i) H) \/ ∃ k,xs = [.bl k] /\ Q (.int (if k then 1 else 0)) H):=by
 intro pins s σ H xs us Q I r h
 rcases h with ⟨i,rfl,q⟩ | ⟨k,rfl,q⟩
 ·obtain ⟨u, rfl, t, rfl⟩ := Yq r
  exact call_int_int ⟨.int i,H,I,⟨_,rfl⟩,q⟩
 ·obtain ⟨u, rfl, r1⟩ := Yq r
  cases r1
  exact call_int_bool ⟨.int (if k then 1 else 0),H,I.tok _,⟨_,rfl⟩,q⟩
end
end L2
namespace L2
open PySem PySem.Spec PyProof.Rows
section
variable {prog:Program} {w:World} {A:Around} {E:Value -> Shared -> Prop} {s:Shared} {K:PySem.W.Frag} {x dx C f:Addr} {mA:Str -> Option Value} {name:Str} {v:Value}
end
section
variable {P:Program} {w:World} {H H':Hp} {h h':Heap} {a C dx:Addr} {fs fs':List (Str × V)}
end
section
variable {X:Cx} {pins:List (Addr × Obj)} {σ:St} {H:Hp} {s:Shared} {a C dx:Addr} {fs:List (Str × V)} {f:Str} {v:V} {A:Around} {E:Value -> Shared -> Prop}
end
section
variable {X:Cx} {o e value:Expr} {f:Str} {pos pos' tpos:Pos} {ta tv:TE}
end
section
variable {X:Cx} {pins:List (Addr × Obj)} {σ:St} {H:Hp} {s:Shared} {A:Around} {E:Value -> Shared -> Prop} {Q:Value -> Shared -> Prop} {c:Value} {b:Bool}
end
end L2
namespace L2
open PySem PySem.Spec PyProof.Rows
structure Room (k:Nat) (A:Around):Prop where
 hd:A.handled = none
 dp:A.depth + 3 * k + 5 < recursionLimit
 un:A.units + 16 * k + 200 < cLine
 gd:A.guards = some []
theorem Room.mono {j k:Nat} {A:Around} (r:Room k A) (h:j <= k):Room j A:=⟨r.hd,by have:=r.dp; lia,by have:=r.un; lia,r.gd⟩
theorem Room.deeper {k:Nat} {A:Around} (r:Room (k + 1) A) (env:Env):Room k (A.deeper env) :=
 ⟨r.hd,by have:=r.dp; show A.depth + 1 + 3 * k + 5 < _; lia,by have:=r.un; show A.units + 3 + 16 * k + 200 < _; lia,r.gd⟩
theorem Room.in1 {k:Nat} {A:Around} (r:Room (k + 1) A):Room k A.in1 :=
 ⟨r.hd,by have:=r.dp; show A.depth + 3 * k + 5 < _; lia,by have:=r.un; show A.units + 1 + 16 * k + 200 < _; lia,r.gd⟩
theorem Room.depth {k:Nat} {A:Around} (r:Room k A):A.depth < recursionLimit:=by have:=r.dp; lia
theorem Room.units {k:Nat} {A:Around} (r:Room k A):A.units + 64 < cLine:=by have:=r.un; lia
def xd2:TA:=fun _ H Q=>Q [] H
def zI4 (ta:TE) (tr:TA):TA:=fun σ H Q=>ta σ H fun x H1=>tr σ H1 fun xs H2=>Q (x :: xs) H2
section
variable {X:Cx} {e:Expr} {es:List Expr} {te:TE} {t:TA} {pos:Pos}
theorem pa_nil:PA X [] xd2:=fun _ _ _ _ H Q I h=>Calls.spliced_nil ⟨[],H,I,.nil,h⟩
theorem vn (ha:PE X e te) (hr:PA X es t) (hs:starEach (e :: es) X.env = (false,eval e X.env) :: starEach es X.env:=by rfl):PA X (e :: es) (zI4 te t):=by
 intro pos pins s σ H Q I h
 rw [hs]
 show wpAny _ _ (spliced ((false,eval e X.env) :: backTo pos (starEach es X.env))) _ _ s
 refine Calls.spliced_cons (thn (ha pins s σ H _ I h) fun u s1 ⟨x,H1,I1,r1,q1⟩=>?_)
 exact thn (hr pos pins s1 σ H1 _ I1 q1) fun us s2 ⟨xs,H2,I2,r2,q2⟩=>⟨x :: xs,H2,I2,.cons r1 r2,q2⟩
def xc6 (t:TA):TE:=fun σ H Q=>t σ H fun xs H1=>xs.length <= sizeLine /\ ∀ p,H1 p = none -> Q (.ref p) (upd H1 p (.tup xs))
def xd3 (t:TA):TE:=fun σ H Q=>t σ H fun xs H1=>xs.length <= sizeLine /\ ∀ p,H1 p = none -> Q (.ref p) (upd H1 p (.lst xs))
theorem zw0 {x1} (h:PA X es t):PE X (.Tuple es x1 pos) (xc6 t):=by
 intro pins s σ H Q I hq
 refine wpAny_Tuple_spliced (thn (h pos pins s σ H _ I hq) fun us s1 ⟨xs,H1,I1,r,z,q⟩=>⟨by rw [<- r.length]; exact z,?_⟩)
 have hf:H1 s1.heap.objs.size = none:=I1.hok.fresh (Nat.le_refl _)
 refine ⟨.ref s1.heap.objs.size,upd H1 s1.heap.objs.size (.tup xs),I1.laid (t':=s1.toks) (fun b u e=>Heap.get?_push_of_some _ e) (Nat.le_refl _) ?_,rfl,q _ hf⟩
 exact ⟨z,us,r,⟨_,Heap.get?_push_size _ rfl,rfl,_,rfl⟩⟩
theorem jT (h:PA X es t):PE X (.List es pos) (xd3 t):=by
 intro pins s σ H Q I hq
 refine wpAny_List_spliced (thn (h pos pins s σ H _ I hq) fun us s1 ⟨xs,H1,I1,r,z,q⟩=>⟨by rw [<- r.length]; exact z,?_⟩)
 have hf:H1 s1.heap.objs.size = none:=I1.hok.fresh (Nat.le_refl _)
 refine ⟨.ref s1.heap.objs.size,upd H1 s1.heap.objs.size (.lst xs),I1.laid (t':=s1.toks) (fun b u e=>Heap.get?_push_of_some _ e) (Nat.le_refl _) ?_,rfl,q _ hf⟩
 exact ⟨z,us,0,r,Heap.get?_push_size _ rfl⟩
end
abbrev Sp:=List V -> Hp -> VK -> XK -> Prop
abbrev CXT:=List Env -> Hp -> Shared -> XK -> Value -> Shared -> Prop
structure Env0 (P:Program) (w:World) (K:PySem.W.Frag) (mg:Str -> Option Value) (base:Heap) (A:Around) (outer:List Env) (s:Shared) (H:Hp):Prop where
 frames:A.frames = some outer
 mod:Mod K mg base
 bs:∀ b o,base.get? b = some o -> s.heap.get? b = some o /\ H b = none
 bsz:base.objs.size <= s.heap.objs.size
 funs:s.heap.FunFrames base outer
 frf:∀ b ∈ frs outer,H b = none
 hok:HOk P w H s.heap
 bare:AllBare s.gens
def CE (outer:List Env) (P:Program) (w:World) (H:Hp) (s:Shared) (Q:VK) (u:Value) (s':Shared):Prop :=
 ∃ v H',s'.os = s.os /\ AllBare s'.gens /\ Un (frs outer) [] H H' s.heap s'.heap /\ HOk P w H' s'.heap /\ RelV v u /\ Q v H'
def CR (CX:CXT) (outer:List Env) (P:Program) (w:World) (H:Hp) (s:Shared) (Q:VK) (E:XK) (r:Result) (s':Shared):Prop :=
 match r with
 | .ok (.ret u)=>CE outer P w H s Q u s'
 | .ok _=>False
 | .error e=>CX outer H s E e s'
structure FnOk (P:Program) (w:World) (K:PySem.W.Frag) (mg:Str -> Option Value) (base:Heap) (CX:CXT) (k:Nat) (f:Addr) (fd:FuncData) (ps:List Str) (sp:Sp):Prop where
 len:∀ vs H Q E,sp vs H Q E -> vs.length = ps.length
 run:∀ (A:Around) (outer:List Env) (s:Shared) (H:Hp) (args:Args) (us:List Value) (vs:List V) (Q:VK) (E:XK),Room k A -> Env0 P w K mg base A outer s H -> BindsTo s fd args (ps.zip us) -> Vals vs us -> sp vs H Q E ->
  codeAny (model P w) A (.call (.ref f) args) (CR CX outer P w H s Q E) s
section
variable {X:Cx} {pins:List (Addr × Obj)} {σ:St} {H:Hp} {s s':Shared}
theorem Inv.env0 (I:Inv X pins σ H s):Env0 X.prog X.w X.K X.mg X.base X.A X.stack s H :=
 ⟨I.ok.frames,I.ok.mod,I.bs,Nat.le_trans I.ok.bsz I.sz,I.stack,I.stkFree,I.hok,I.bare⟩
theorem Inv.after {Q:VK} {u:Value} (I:Inv X pins σ H s) (h:CE X.stack X.prog X.w H s Q u s'):EP X pins σ Q u s':=by
 obtain ⟨v,H',os,bare,un,hok,r,q⟩:=h
 obtain ⟨hh,g,d,t,os'⟩:=s'
 obtain rfl:os' = s.os:=os
 exact ⟨v,H',I.call (h':=hh) (g':=g) (d':=d) (t':=t) (ch:=[]) un hok bare (fun b z=>absurd z (by simp)),r,q⟩
end
def zI5 (sp:Sp) (dvs:List V) (E:XK) (t:TA):TE:=fun σ H Q=>t σ H fun vs H1=>sp (vs ++ dvs) H1 Q E
def Binds (K:PySem.W.Frag) (fd:FuncData) (ps:List Str) (ds:List Value):Prop :=
 ∀ (s:Shared) (us:List Value),K.In s.heap -> (us ++ ds).length = ps.length -> BindsTo s fd ⟨us,[]⟩ (ps.zip (us ++ ds))
theorem Binds.all {K:PySem.W.Frag} {fd:FuncData} {ps:List Str} (h:∀ us:List Value,us.length = ps.length -> bindArgs fd ⟨us,[]⟩ = pure (ps.zip us)):Binds K fd ps []:=fun s us _ hl=>by
 rw [List.append_nil] at hl ⊢
 exact .of_eq (h us hl)
def Qc (CX:CXT) (X:Cx) (E:XK):Prop:=∀ (pins:List (Addr × Obj)) (σ:St) (H:Hp) (s:Shared) (e:Value) (s':Shared),Inv X pins σ H s -> CX X.stack H s E e s' -> X.xe e s'
section
variable {X:Cx} {CX:CXT} {k:Nat} {f C:Addr} {fd:FuncData} {ps:List Str} {sp:Sp} {dvs:List V} {ds:List Value} {E:XK} {x m:Str} {p pos apos:Pos} {e o:Expr} {es:List Expr} {ta:TE} {t:TA}
theorem zs7 {pins:List (Addr × Obj)} {σ:St} {H:Hp} {s:Shared} {Q:VK} {us:List Value} {vs:List V} (F:FnOk X.prog X.w X.K X.mg X.base CX k f fd ps sp) (hr:Room k X.A) (hb:Binds X.K fd ps ds) (hd:Vals dvs ds) (hx:Qc CX X E)
  (I:Inv X pins σ H s) (r:Vals vs us) (h:sp (vs ++ dvs) H Q E):wpAny (model X.prog X.w) X.A (call (.ref f) us) (EP X pins σ Q) X.xe s:=by
 have r2:Vals (vs ++ dvs) (us ++ ds):=r.append hd
 have hl:(us ++ ds).length = ps.length:=by rw [<- r2.length]; exact F.len _ _ _ _ h
 refine wpAny_call (codeAny_mono (F.run X.A X.stack s H ⟨us,[]⟩ (us ++ ds) (vs ++ dvs) Q E hr I.env0 (hb s us I.kIn hl) r2 h) fun r s' hq=>?_)
 cases r with
 | error e=>exact hx pins σ H s e s' I hq
 | ok fl =>
  cases fl with
  | ret u=>exact I.after hq
  | next=>exact False.elim hq
  | brk=>exact False.elim hq
  | cont=>exact False.elim hq
theorem Ki (F:FnOk X.prog X.w X.K X.mg X.base CX k f fd ps sp) (hr:Room k X.A) (hg:Gl X x) (hm:X.mg x = some (.ref f)) (hk:PySem.W.keepIn X.K (.ref f) = true) (hb:Binds X.K fd ps ds) (hd:Vals dvs ds) (hx:Qc CX X E)
  (ha:PA X (e :: es) t) (hdb:(x == ("__debug__" : Str)) = false:=by decide) (he:starEach (e :: es) X.env = (false,eval e X.env) :: starEach es X.env:=by rfl) (hpl:(backTo pos (starEach es X.env)).any (·.1) = false:=by rfl) :
  PE X (.Call (.Name x p) (e :: es) [] pos) (zI5 sp dvs E t):=by
 intro pins s σ H Q I h
 refine wpAny_Call_Name_kw (KU I hg hm ?_ hdb)
 refine PySem.W.callWith_K (h₀:=X.base) I.ok.mod.kin hk (thn (ha pos pins s σ H _ I h) fun us s1 ⟨vs,H1,I1,r,q⟩=>⟨I1.kIn,?_⟩) he hpl
 exact zs7 F hr hb hd hx I1 r q
end
section
variable {X:Cx} {CX:CXT} {k:Nat} {f C:Addr} {fd:FuncData} {ps ks:List Str} {sp:Sp} {E:XK} {x m:Str} {p pos apos kpos:Pos} {e o:Expr} {es:List Expr} {kws:List Keyword} {te ta:TE} {t tk:TA} {nm:Option Str}
variable {g:List Value -> List Value -> List Value} {gV:List V -> List V -> List V}
end
structure FnScope (N P:List Str) (sc:Scope):Prop where
 kind:sc.kind = .function
 co:sc.isCoroutine = false
 gen:sc.isGenerator = false
 nd:N.Nodup
 pre:N.take P.length = P
 par:∀ x ∈ P,sc.names.lookup x = some .local \/ sc.names.lookup x = some .cell
 nofree:∀ y ∈ sc.names,y.2 ≠ .free
theorem XC {kindOf:Str -> Option NameKind} {x:Str}:∀ {binds:List (Str × Value)} {m:Str -> Option Value},(∀ v,(x,v) ∉ binds) -> bindL kindOf binds m x = m x
 | [],_,_=>rfl
 | (n, v) :: r, m, h => by
  unfold bindL
  rw [XC fun w hw=>h w (List.mem_cons_of_mem _ hw)]
  split
  ·have : x ≠ n := by rintro rfl; exact h v List.mem_cons_self
   simp [this]
  ·rfl
theorem XE {kindOf:Str -> Option NameKind} {x:Str}:∀ {binds:List (Str × Value)} {m:Str -> Option Value},(∀ v,(x,v) ∉ binds) -> bindC kindOf binds m x = m x
 | [],_,_=>rfl
 | (n, v) :: r, m, h => by
  unfold bindC
  rw [XE fun w hw=>h w (List.mem_cons_of_mem _ hw)]
  split
  ·rfl
  ·have : x ≠ n := by rintro rfl; exact h v List.mem_cons_self
   simp [this]
theorem XD {kindOf:Str -> Option NameKind} {x:Str} {v:Value}:∀ {P:List Str} {vs:List Value} {i:Nat} {m:Str -> Option Value},P.Nodup -> P[i]? = some x -> vs[i]? = some v -> kindOf x = some .local ->
  bindL kindOf (P.zip vs) m x = some v
 | [],_,_,_,_,h,_,_=>by simp at h
 | _ :: _,[],_,_,_,_,h,_=>by simp at h
 | p :: P,w :: vs,0,m,nd,h1,h2,hk=>by
  simp at h1 h2; subst h1; subst h2
  show bindL kindOf ((p,w) :: P.zip vs) m p = _
  unfold bindL
  rw [XC fun v hv=>(List.nodup_cons.mp nd).1 (List.of_mem_zip hv).1,if_pos hk]
  simp
 | p :: P,w :: vs,i + 1,m,nd,h1,h2,hk=>by
  show bindL kindOf ((p,w) :: P.zip vs) m x = _
  unfold bindL
  exact XD (i:=i) (List.nodup_cons.mp nd).2 (by simpa using h1) (by simpa using h2) hk
theorem XF {kindOf:Str -> Option NameKind} {x:Str} {v:Value}:∀ {P:List Str} {vs:List Value} {i:Nat} {m:Str -> Option Value},P.Nodup -> P[i]? = some x -> vs[i]? = some v -> kindOf x ≠ some .local ->
  bindC kindOf (P.zip vs) m x = some v
 | [],_,_,_,_,h,_,_=>by simp at h
 | _ :: _,[],_,_,_,_,h,_=>by simp at h
 | p :: P,w :: vs,0,m,nd,h1,h2,hk=>by
  simp at h1 h2; subst h1; subst h2
  show bindC kindOf ((p,w) :: P.zip vs) m p = _
  unfold bindC
  rw [XE fun v hv=>(List.nodup_cons.mp nd).1 (List.of_mem_zip hv).1,if_neg hk]
  simp
 | p :: P,w :: vs,i + 1,m,nd,h1,h2,hk=>by
  show bindC kindOf ((p,w) :: P.zip vs) m x = _
  unfold bindC
  exact XF (i:=i) (List.nodup_cons.mp nd).2 (by simpa using h1) (by simpa using h2) hk
def kF (N:List Str) (vs:List V):St:=vs.map some ++ List.replicate (N.length - vs.length) none
def zd2 (CX:CXT) (P:Program) (w:World) (K:PySem.W.Frag) (mg:Str -> Option Value) (base:Heap) (N:List Str) (qual:Str) (scope:Scope) (f:Addr) (cd:Value) (A:Around) (outer:List Env) (s:Shared) (H:Hp) (E:XK):Cx where
 prog:=P
 w:=w
 K:=K
 mg:=mg
 base:=base
 A:=A.deeper (envOfC qual scope s.heap.objs.size f cd)
 N:=N
 s₀:=s
 H₀:=H
 env:=envOfC qual scope s.heap.objs.size f cd
 outer:=outer
 stack:=envOfC qual scope s.heap.objs.size f cd :: outer
 ex:=[]
 calm:=true
 fn:=fun _=>true
 pn:=[]
 xe:=fun e s'=>wpAny (model P w) (A.deeper (envOfC qual scope s.heap.objs.size f cd)) (leaving (envOfC qual scope s.heap.objs.size f cd) e) (fun _ s''=>CX outer H s E e s'') (fun e' s''=>CX outer H s E e' s'') s'
theorem Vw {sc:Scope} {n:Nat} {x:Str} (h:sc.names.lookup x = some .cell):∃ c,(cellsFrom n sc.names []).lookup x = some c:=by
 have q:=PySem.W.cellsFrom_some sc.names n [] (.inl h)
 exact Option.isSome_iff_exists.mp q
theorem Jd {CX:CXT} {P:Program} {w:World} {K:PySem.W.Frag} {mg:Str -> Option Value} {base:Heap} {N ps:List Str} {qual:Str} {scope:Scope} {f:Addr} {cd:Value} {A:Around} {outer:List Env} {s s1:Shared} {H:Hp} {E:XK} {us:List Value} {vs:List V}
  (S:FnScope N ps scope) (hd:A.handled = none) (e0:Env0 P w K mg base A outer s H) (hl:vs.length = ps.length) (r:Vals vs us)
  (x:InCallC s s.heap.objs.size (bindL (envOfC qual scope s.heap.objs.size f cd).kindOf (ps.zip us) fun _=>none) (cellsFrom (s.heap.objs.size + 1) scope.names []) (bindC (envOfC qual scope s.heap.objs.size f cd).kindOf (ps.zip us) fun _=>none) s1) :
  Inv (zd2 CX P w K mg base N qual scope f cd A outer s H E) [] (kF N vs) H s1:=by
 have hpl:ps.length <= N.length:=by have:=congrArg List.length S.pre; rw [List.length_take] at this; lia
 obtain ⟨h1,tk,rfl,hk⟩:=x.done
 have noA:∀ b:Addr,b ∉ (zd2 CX P w K mg base N qual scope f cd A outer s H E).ex:=fun b z=>absurd (show b ∈ ([]:List Addr) from z) (by simp)
 refine ⟨⟨e0.mod,S.kind,rfl,rfl,Nat.le_refl _,fun y z c h1 h2=>?_,fun y hy=>?_,fun y c _ h=>?_,fun _=>hd,Around.frames_deeper e0.frames,.inr ⟨rfl,rfl⟩,fun b z=>absurd z (noA b),e0.bs,e0.bsz,fun b _ _=>noA b,fun b z=>absurd z (noA b),e0.funs,e0.frf⟩,
  rfl,e0.bare,Un.kept hk,⟨_,x.toInCall.ns,fun i y v h1 h2 h3=>?_⟩,fun y c h=>⟨_,x.cell y c h⟩,e0.hok.fresh (Nat.le_refl _),fun y c h=>?_,fun p hp=>absurd (show p ∈ ([]:List (Addr × Obj)) from hp) (by simp),e0.hok.kept hk,?_⟩
 ·exact name_of_addr x.apart (PySem.mem_of_lookup h1) (PySem.mem_of_lookup h2)
 ·have hy : scope.names.lookup y = some .cell \/ scope.names.lookup y = some .free := hy
  rcases hy with hy | hy
  ·exact Vw hy
  ·exact absurd rfl (S.nofree _ (PySem.mem_of_lookup hy))
 ·exact Nat.le_of_lt (x.above y c (PySem.mem_of_lookup h))
 ·have hi : i < vs.length := by
   unfold kF at h2
   by_cases hi:i < vs.length
   ·exact hi
   ·rw [List.getElem?_append_right (by simpa using hi)] at h2
    rw [List.getElem?_replicate] at h2
    split at h2 <;> cases h2
  have ha:vs[i]? = some v:=by
   unfold kF at h2
   rw [List.getElem?_append_left (by simpa using hi),List.getElem?_map] at h2
   cases e:vs[i]? with
   | none=>rw [e] at h2; cases h2
   | some a=>rw [e] at h2; cases h2; rfl
  obtain ⟨u,hu,rv⟩:=r.get ha
  have hp:ps[i]? = some y:=by
   rw [<- S.pre,List.getElem?_take_of_lt (by lia)]; exact h1
  have ndP:ps.Nodup:=by rw [<- S.pre]; exact S.nd.sublist (List.take_sublist _ _)
  refine ⟨u,rv,?_⟩
  rcases S.par y (List.mem_of_getElem? hp) with k | k
  ·exact .inl ⟨k,XD ndP hp hu k⟩
  ·obtain ⟨c, e⟩ := Vw (n := s.heap.objs.size + 1) k
   refine .inr ⟨.inl k,c,e,?_⟩
   have q:=x.cell y c e
   rw [XF ndP hp hu (by show scope.names.lookup y ≠ _; rw [k]; decide)] at q
   exact q
 ·exact e0.hok.fresh (Nat.le_of_lt (x.above y c (PySem.mem_of_lookup h)))
 ·unfold kF
  show _ = N.length
  rw [List.length_append,List.length_map,List.length_replicate]
  lia
theorem zB9 {CX:CXT} {P:Program} {w:World} {K:PySem.W.Frag} {mg:Str -> Option Value} {base:Heap} {k:Nat} {f:Addr} {name qual:Str} {params:Arguments} {body:List Stmt} {scope:Scope} {dV kV doc pm cdv ct oc:Value} {an od:Option Addr}
  {osl:Array (Option Value)} {N ps:List Str} {sp:Sp} (lk:K.lookup f = some ⟨oc,od,.func (PySem.W.fnOf name qual params body scope dV kV doc pm an cdv ct),osl⟩) (hcd:PySem.W.codeIn K cdv qual = true) (S:FnScope N ps scope)
  (len:∀ vs H Q E,sp vs H Q E -> vs.length = ps.length)
  (hbody : ∀ (A : Around) (outer : List Env) (s : Shared) (H : Hp) (vs : List V) (Q : VK) (E : XK), Room k (A.deeper (envOfC qual scope s.heap.objs.size f cdv)) -> sp vs H Q E ->
   ∃ t,PSs (zd2 CX P w K mg base N qual scope f cdv A outer s H E) body t /\ t { nx:=fun _ H'=>Q .non H',rt:=Q } (kF N vs) H) :
  FnOk P w K mg base CX (k + 1) f (PySem.W.fnOf name qual params body scope dV kV doc pm an cdv ct) ps sp:=by
 refine ⟨len,fun A outer s H args us vs Q E hr e0 hb r hsp=>?_⟩
 have hl:=len _ _ _ _ hsp
 have KX:K.In s.heap:=e0.mod.kin.keeps fun b o e=>(e0.bs b o e).1
 have lim:s.heap.NoLimit:=e0.mod.nolimit.keeps fun b o e=>(e0.bs b o e).1
 have hkind:∀ y ∈ ps.zip us,scope.names.lookup y.1 = some .local \/ (scope.names.lookup y.1 = some .cell /\ ((cellsFrom (s.heap.objs.size + 1) scope.names []).lookup y.1).isSome = true):=fun ⟨n,v⟩ hy=>by
  rcases S.par n (List.of_mem_zip hy).1 with q | q
  ·exact .inl q
  ·exact .inr ⟨q,PySem.W.cellsFrom_some _ _ _ (.inl q)⟩
 refine codeAny_call_function hr.depth (KX _ _ lk) rfl S.co S.gen rfl (PySem.W.codeRec_of KX hcd) (hb _ _ _ _ ?_)
 refine wpAny_newFunctionEnv_cells S.kind hkind fun env he s1 x=>?_
 subst he
 refine ⟨lim.keeps x.toInCall.keep,codeAny_func ?_⟩
 obtain ⟨t,ht,hq⟩:=hbody A outer s H vs Q E (hr.deeper _) hsp
 have I:Inv (zd2 CX P w K mg base N qual scope f cdv A outer s H E) [] (kF N vs) H s1:=Jd S hr.hd e0 hl r x
 refine wpAny_mono (ht [] s1 (kF N vs) H _ I hq) (fun fl s' hs=>?_) fun e s' hs=>hs
 have fin:∀ {σ':St} {H':Hp} {v:V} {u:Value},Inv (zd2 CX P w K mg base N qual scope f cdv A outer s H E) [] σ' H' s' -> RelV v u -> Q v H' -> CE outer P w H s Q u s' :=
  fun {σ' H' v u} J rv q=>⟨v,H',J.os,J.bare,J.base,J.hok,rv,q⟩
 cases fl with
 | ret u =>
  obtain ⟨v,σ',H',J,rv,q⟩:=hs
  exact fin J rv q
 | next =>
  obtain ⟨σ',H',J,q⟩:=hs
  exact fin (v:=V.non) (u:=Value.none) J rfl q
 | brk =>
  obtain ⟨_,_,_,q⟩:=hs
  exact False.elim q
 | cont =>
  obtain ⟨_,_,_,q⟩:=hs
  exact False.elim q
end L2
namespace L2
open PySem PySem.Spec PyProof.Rows
section
variable {X:Cx} {x:Str} {p pos:Pos} {e:Expr} {es:List Expr} {t:TA} {id T:String} {r:List V -> Hp -> VK -> Prop}
def tCB (r:List V -> Hp -> VK -> Prop) (t:TA):TE:=fun σ H Q=>t σ H fun vs H1=>r vs H1 Q
theorem Vh (hc:va X (.builtin id) r) (hg:Gl X x) (hm:X.mg x = none) (hv:bootBuiltins x = some (.builtin id)) (ha:PA X (e :: es) t) (hn:x ≠ "__name__" := by decide) (hdb:(x == ("__debug__" : Str)) = false:=by decide)
  (he:starEach (e :: es) X.env = (false,eval e X.env) :: starEach es X.env:=by rfl) (hpl:(backTo pos (starEach es X.env)).any (·.1) = false:=by rfl):PE X (.Call (.Name x p) (e :: es) [] pos) (tCB r t):=by
 intro pins s σ H Q I h
 refine wpAny_Call_Name_kw (jX I hg hm hv ?_ hn hdb)
 exact PyProof.Rows.callWith_builtin1 (thn (ha pos pins s σ H _ I h) fun us s1 ⟨vs,H1,I1,r1,q1⟩=>hc pins s1 σ H1 vs us Q I1 r1 q1) he hpl
theorem YN (hc:va X (.type T) r) (hg:Gl X x) (hm:X.mg x = none) (hv:bootBuiltins x = some (.type T)) (ha:PA X (e :: es) t) (hn:x ≠ "__name__" := by decide) (hdb:(x == ("__debug__" : Str)) = false:=by decide)
  (he:starEach (e :: es) X.env = (false,eval e X.env) :: starEach es X.env:=by rfl) (hpl:(backTo pos (starEach es X.env)).any (·.1) = false:=by rfl):PE X (.Call (.Name x p) (e :: es) [] pos) (tCB r t):=by
 intro pins s σ H Q I h
 refine wpAny_Call_Name_kw (jX I hg hm hv ?_ hn hdb)
 exact PyProof.Rows.callWith_type1 (thn (ha pos pins s σ H _ I h) fun us s1 ⟨vs,H1,I1,r1,q1⟩=>hc pins s1 σ H1 vs us Q I1 r1 q1) he hpl
end
end L2
namespace HT
open PySem PyProof.Rows
def yJ:List Int -> List Int -> Bool
 | [],[]=>false
 | [],_ :: _=>true
 | _ :: _,[]=>false
 | x :: xs,y :: ys=>if x = y then yJ xs ys else decide (x < y)
theorem yI (x y:Int) (xs ys:List Int):yJ (x :: xs) (y :: ys) = if x = y then yJ xs ys else decide (x < y):=rfl
theorem ZO:yJ [] [] = false:=rfl
theorem jL (y:Int) (ys:List Int):yJ [] (y :: ys) = true:=rfl
theorem jM (x:Int) (xs:List Int):yJ (x :: xs) [] = false:=rfl
theorem zc8 (A:Around) (s:Shared) (a:Int) (t:Tok) (c:Int) (u:Tok):∃ e,SeqAt.EqAt A s (.int a t) (.int c u) e /\ (e = true ↔ a = c) :=
 ⟨(a == c),SeqAt.EqAt.int_int a t c u,by simp⟩
theorem QI (A:Around) (s:Shared) (a:Int) (t:Tok) (c:Int) (u:Tok) (prog:Program) (w:World) (E:Value -> Shared -> Prop) (Q:Value -> Shared -> Prop) (h:Q (.bool (decide (a < c))) s) :
  wpAny (model prog w) A (richCompare .Lt (.int a t) (.int c u)) Q E s :=
 (PyProof.Rows.lt_int h:wpAny (model prog w) A (compareOp .Lt (.int a t) (.int c u)) Q E s)
section
open PySem.SeqAt
open PySem.AutoSeq1 (wpAny_loadPart')
open PySem.MeetsSeq PySem.MeetsSeq2 PySem.MeetsSeq3
theorem Zk (l b:Addr) (items items2:Array Value) (n n2:Nat) (dd dd2:Option Addr) (sl sl2:Array (Option Value)) (ns ms:List Int) (hi:IntsAre items.toList ns) (hj:IntsAre items2.toList ms) :
  Meets (Builtin.«tuple.__lt__» ⟨[.ref l,.ref b],[]⟩)
   (fun _ R s => s.heap.get? l = some { cls := .type "tuple", dict := dd, data := .seq items n, slots := sl } /\ s.heap.get? b = some { cls := .type "tuple", dict := dd2, data := .seq items2 n2, slots := sl2 } /\
    R (.ok (.ret (.bool (yJ ns ms)))) s) :=
 .of_wp fun prog w A R s h=>by
  obtain ⟨hp,g,d,tk,os⟩:=s; obtain ⟨hl,hb,h⟩:=h
  have f2:=AutoSeq1.sub_tuple_tuple
  have z1:items.size = ns.length:=by rw [<- hi.length]; simp
  have z2:items2.size = ms.length:=by rw [<- hj.length]; simp
  wp_walk using wpAny_loadPart' hl,wpAny_loadPart' hb,wpAny_forIn_list _ (fun rest b s'=>b.1 = none /\ s' = ⟨hp,g,d,tk,os⟩ /\ ∃ (vs ws:List Value) (ns' ms':List Int),rest = vs.zip ws /\
   IntsAre vs ns' /\ IntsAre ws ms' /\ ns'.length + items2.size = ms'.length + items.size /\ R (.ok (.ret (.bool (yJ ns' ms')))) ⟨hp,g,d,tk,os⟩) _
  case turn =>
   rintro ⟨y,x⟩ rest b s' ⟨hb',rfl,vs,ws,ns',ms',hz,hvi,hwi,hlen,hR⟩
   cases hvi with
   | nil=>rw [List.zip_nil_left] at hz; cases hz
   | cons a t hvi' =>
    cases hwi with
    | nil=>rw [List.zip_nil_right] at hz; cases hz
    | cons c u hwi' =>
     rw [List.zip_cons_cons] at hz
     injection hz with hyx hrest
     injection hyx with hy hx
     subst hy hx
     rw [yI] at hR
     simp only [List.length_cons] at hlen
     obtain ⟨e,he,hiff⟩:=zc8 A.in1 ⟨hp,g,d,tk,os⟩ a t c u
     refine wpAny_bind (he prog w _ _ ?_)
     cases e with
     | true =>
      rw [if_pos (hiff.mp rfl)] at hR
      wp_walk
      exact ⟨rfl,rfl,_,_,_,_,hrest,hvi',hwi',by lia,hR⟩
     | false =>
      rw [if_neg (fun q=>absurd (hiff.mpr q) Bool.false_ne_true)] at hR
      have hri:=QI A.in1 ⟨hp,g,d,tk,os⟩ a t c u prog w
      wp_walk using hri
      exact ⟨_,rfl,by simpa using hR⟩
  case fin =>
   rintro ⟨b1,b2⟩ s' ⟨hb',rfl,vs,ws,ns',ms',hz,hvi,hwi,hlen,hR⟩
   simp only at hb'
   subst hb'
   have hv:yJ ns' ms' = decide (items.size < items2.size):=by
    cases hvi with
    | nil =>
     cases hwi with
     | nil =>
      simp only [List.length_nil] at hlen
      rw [ZO]
      exact (decide_eq_false (by lia)).symm
     | cons c u hw =>
      simp only [List.length_nil,List.length_cons] at hlen
      rw [jL]
      exact (decide_eq_true (by lia)).symm
    | cons a t hv =>
     cases hwi with
     | nil =>
      simp only [List.length_nil,List.length_cons] at hlen
      rw [jM]
      exact (decide_eq_false (by lia)).symm
     | cons c u hw =>
      rw [List.zip_cons_cons] at hz
      cases hz
   rw [hv] at hR
   wp_walk
   exact ⟨_,rfl,by simpa [Builtin.Tuple.tupleCompareSizes] using hR⟩
  case h =>
   exact ⟨rfl,rfl,items.toList,items2.toList,ns,ms,rfl,hi,hj,by lia,h⟩
end
section
variable {prog:Program} {w:World} {A:Around} {E:Value -> Shared -> Prop} {s:Shared}
theorem VY {l b:Addr} {items items2:Array Value} {ns ms:List Int} {Q:Value -> Shared -> Prop} (hl:IsTup s.heap l items) (hb:IsTup s.heap b items2) (hi:IntsAre items.toList ns) (hj:IntsAre items2.toList ms)
  (hu:A.units < cLine) (h:Q (.bool (yJ ns ms)) s):wpAny (model prog w) A (compareOp .Lt (.ref l) (.ref b)) Q E s:=by
 obtain ⟨⟨cls,dd,data,sl⟩,ho,hc,n,hd⟩:=id hl
 obtain ⟨⟨cls2,dd2,data2,sl2⟩,ho2,hc2,n2,hd2⟩:=id hb
 simp only at hc hd hc2 hd2
 subst hc hd hc2 hd2
 exact richCompare_meets_room (op:=.Lt) ⟨_,ho,rfl⟩ ⟨_,ho2,rfl⟩ PySem.F.slot_tuple_lt PySem.F.entry_tuple_lt (PySem.F.args_tuple_lt_2 _ _) (Zk l b items items2 n n2 dd dd2 sl sl2 ns ms hi hj)
  ⟨ho,ho2,show Value.bool (yJ ns ms) ≠ Value.notImplemented /\ Q (.bool (yJ ns ms)) s from ⟨(fun x=>nomatch x),h⟩⟩ hu
theorem zp2 {t b:Addr} {vs ws:List Value} {Q:Value -> Shared -> Prop} (ht:IsTup s.heap t vs.toArray) (hb:IsTup s.heap b ws.toArray) (hv:vs ≠ [])
  (h1:ws = [] -> Q (.ref t) s) (h2:ws ≠ [] -> Q (.ref s.heap.objs.size) { s with heap:=s.heap.push { cls:=.type "tuple",data:=.seq (vs ++ ws).toArray } })
  (hsz:vs.length + ws.length <= sizeLine):wpAny (model prog w) A (binaryOp .Add (.ref t) (.ref b)) Q E s:=by
 obtain ⟨⟨cls,dd,data,sl⟩,ho,hc,n,hd⟩:=id ht
 obtain ⟨⟨cls2,dd2,data2,sl2⟩,ho2,hc2,n2,hd2⟩:=id hb
 simp only at hc hd hc2 hd2
 subst hc hd hc2 hd2
 have e:vs.toArray ++ ws.toArray = (vs ++ ws).toArray:=by simp
 by_cases hw:ws = []
 ·exact concat_meets ⟨_,ho,rfl⟩ ⟨_,ho2,rfl⟩ noFill_tuple_add seq_tuple_add PySem.F.slot_tuple_add PySem.F.entry_tuple_add (PySem.F.args_tuple_add_2 _ _)
   (tuple_addW1 t b vs.toArray ws.toArray n n2 dd dd2 sl sl2 (by simpa using hv) (by simp [hw])) ⟨ho,ho2,h1 hw⟩
 ·refine concat_meets ⟨_, ho, rfl⟩ ⟨_, ho2, rfl⟩ noFill_tuple_add seq_tuple_add PySem.F.slot_tuple_add PySem.F.entry_tuple_add (PySem.F.args_tuple_add_2 _ _)
   (tuple_addW2 t b vs.toArray ws.toArray n n2 dd dd2 sl sl2 (by simpa using hv) (by simpa using hw) (by rw [List.size_toArray,List.size_toArray]; exact hsz)) ⟨ho,ho2,?_⟩
  rw [e]
  exact h2 hw
def sIx (n d:Nat):Option Int -> Nat
 | none=>d
 | some v=>if v < 0 then (v + (n:Int)).toNat else min v.toNat n
theorem ZD (n d:Nat):sIx n d none = d:=rfl
theorem Wk (n d k:Nat):sIx n d (some (k:Int)) = min k n:=by
 show (if (k:Int) < 0 then ((k:Int) + (n:Int)).toNat else min (k:Int).toNat n) = min k n
 rw [if_neg (by lia),Int.toNat_natCast]
theorem zs6 (n d:Nat) (hd:d <= n) (o:Option Int):sIx n d o <= n:=by
 cases o with
 | none=>exact hd
 | some v =>
  show (if v < 0 then (v + (n:Int)).toNat else min v.toNat n) <= n
  by_cases hv:v < 0
  ·rw [if_pos hv]; lia
  ·rw [if_neg hv]; exact Nat.min_le_right _ _
theorem JK (v:Int) (n d:Nat):(if v < 0 then max (v + (n:Int)) 0 else min v (n:Int)) = ((sIx n d (some v):Nat):Int):=by
 show (if v < 0 then max (v + (n:Int)) 0 else min v (n:Int)) = (((if v < 0 then (v + (n:Int)).toNat else min v.toNat n):Nat):Int)
 by_cases hv:v < 0
 ·simp only [if_pos hv]; lia
 ·simp only [if_neg hv]; lia
theorem Ul (lo hi:Option Int) (n:Nat):Builtin.Slice.sliceAdjust lo hi 1 (n:Int) = (((sIx n 0 lo:Nat):Int),((sIx n n hi:Nat):Int)):=by
 have h1:¬ ((1:Int) < 0):=by lia
 unfold Builtin.Slice.sliceAdjust
 simp only [h1,if_false]
 refine Prod.ext ?_ ?_
 ·cases lo with
  | none=>rfl
  | some v=>exact JK v n 0
 ·cases hi with
  | none=>rfl
  | some v=>exact JK v n n
theorem VM (i j:Nat):Builtin.Slice.slicePlaces (i:Int) (j:Int) 1 = j - i:=by
 unfold Builtin.Slice.slicePlaces
 have h1:(1:Int) > 0:=by lia
 simp only [h1,if_true,Int.ediv_one]
 split <;> lia
theorem jR {v:Value} {o:Option Int} {Q:Option Int -> Shared -> Prop} (p:IsPart v o) (h:Q o s):wpAny (model prog w) A (Builtin.Slice.slicePartIndex v) Q E s:=by
 cases p with
 | none=>exact slicePart_none h
 | int i t=>exact slicePart_int h
theorem yV {sl:Addr} {vl vu:Value} {lo hi:Option Int} {n:Nat} {Q:Int × Int × Nat -> Shared -> Prop} (hs:s.heap.IsSliceOf sl vl vu .none) (pl:IsPart vl lo) (pu:IsPart vu hi)
  (h:Q (((sIx n 0 lo:Nat):Int),1,sIx n n hi - sIx n 0 lo) s):wpAny (model prog w) A (Builtin.Slice.sliceApplied (.ref sl) (pure (n:Int))) Q E s:=by
 obtain ⟨os,hos,hcs,hds⟩:=id hs
 unfold Builtin.Slice.sliceApplied Builtin.Slice.sliceFields
 refine wpAny_bind (wpAny_bind (wpAny_field hos hds (x:=vl) rfl (wpAny_bind (wpAny_field hos hds (x:=vu) rfl (wpAny_bind (wpAny_field hos hds (x:=.none) rfl (wpAny_pure ?_)))))))
 refine wpAny_bind (slicePart_none ?_)
 show wpAny _ _ (if ((1:Int) == 0) = true then _ else _) _ _ s
 rw [if_neg (by decide)]
 refine wpAny_bind (jR pl (wpAny_bind (jR pu (wpAny_bind (wpAny_pure ?_)))))
 show wpAny _ _ (match Builtin.Slice.sliceAdjust lo hi 1 (n:Int) with | (lo,hi)=>pure (lo,(1:Int),Builtin.Slice.slicePlaces lo hi 1)) _ _ s
 rw [Ul lo hi n]
 show wpAny _ _ (pure (((sIx n 0 lo:Nat):Int),(1:Int),Builtin.Slice.slicePlaces ((sIx n 0 lo:Nat):Int) ((sIx n n hi:Nat):Int) 1)) _ _ s
 rw [VM]
 exact wpAny_pure h
theorem QN (xs:Array Value) (i k:Nat):((List.range k).filterMap fun (m:Nat)=>xs[((i:Int) + (m:Int) * 1).toNat]?).toArray = ((xs.toList.drop i).take k).toArray:=by
 have e:(fun (m:Nat)=>xs[((i:Int) + (m:Int) * 1).toNat]?) = fun m=>xs[i + m]?:=by
  funext m
  have:((i:Int) + (m:Int) * 1).toNat = i + m:=by lia
  rw [this]
 rw [e]
 have:=pick_run xs i k
 rw [List.filterMap_map] at this
 have e2:((fun x=>xs[x]?) ∘ fun x=>i + x) = fun m=>xs[i + m]?:=rfl
 rw [e2] at this
 rw [this]
theorem kY {t sl:Addr} {items:Array Value} {vl vu:Value} {lo hi:Option Int} {Q:Value -> Shared -> Prop} (ht:IsTup s.heap t items) (hs:s.heap.IsSliceOf sl vl vu .none) (pl:IsPart vl lo) (pu:IsPart vu hi)
  (hw:¬ (sIx items.size 0 lo = 0 /\ sIx items.size items.size hi = items.size))
  (h:Q (.ref s.heap.objs.size) { s with heap:=s.heap.push { cls:=.type "tuple",data:=.seq ((items.toList.drop (sIx items.size 0 lo)).take (sIx items.size items.size hi - sIx items.size 0 lo)).toArray } })
  (hsz:items.size <= sizeLine):wpAny (model prog w) A (getItem (.ref t) (.ref sl)) Q E s:=by
 have htake:sizeOk (.seq ((items.toList.drop (sIx items.size 0 lo)).take (sIx items.size items.size hi - sIx items.size 0 lo)).toArray):=by
  show ((items.toList.drop (sIx items.size 0 lo)).take (sIx items.size items.size hi - sIx items.size 0 lo)).toArray.size <= sizeLine
  rw [List.size_toArray,List.length_take,List.length_drop,Array.length_toList]
  lia
 have hj:sIx items.size items.size hi <= items.size:=zs6 _ _ (Nat.le_refl _) hi
 obtain ⟨os,hos,hcs,hds⟩:=id hs
 have hTs:s.TypeIs (.ref sl) "slice" := ⟨os,hos,hcs⟩
 unfold getItem
 try with_reducible refine wpAny_holding ?_
 first | refine wpAny_bind (wpAny_pure ?_) | skip
 refine wpAny_bind (wpAny_sequenceKey ht.typeIs (by decide) ?_)
 refine wpAny_bind (wpAny_callSpecial?_slot (name:=Str.ofString "__getitem__") ht.typeIs PyProof.Rows.slot_tuple_getitem
  (wpAny_call_entry PyProof.Rows.slot_tuple_getitem ht.typeIs entry_tuple_getitem ?_ (args_tuple_getitem _ _)))
 show wpAny _ _ (Builtin.Tuple.tupleItemsOf (.ref t) >>= _) _ _ s
 refine wpAny_bind (tupleItemsOf_ ht ?_)
 refine wpAny_bind (wpAny_typeOf hTs ?_)
 rw [if_pos (by decide)]
 refine wpAny_bind (yV hs pl pu ?_)
 have hno:¬ ((((sIx items.size 0 lo:Nat):Int) == 0 && (1:Int) == 1 && (sIx items.size items.size hi - sIx items.size 0 lo) == items.size) = true):=by
  intro q
  rw [Bool.and_eq_true,Bool.and_eq_true] at q
  have q1:((sIx items.size 0 lo:Nat):Int) = 0:=eq_of_beq q.1.1
  have q2:sIx items.size items.size hi - sIx items.size 0 lo = items.size:=eq_of_beq q.2
  exact hw ⟨by lia,by lia⟩
 show wpAny _ _ (if (((sIx items.size 0 lo:Nat):Int) == 0 && (1:Int) == 1 && (sIx items.size items.size hi - sIx items.size 0 lo) == items.size) = true then _ else _) _ _ s
 rw [if_neg hno,QN]
 first
  | exact wpAny_bind (m:=Builtin.Tuple.tupleExact _) (wpAny_newObj_type (wpAny_pure ⟨_,rfl,wpAny_pure h⟩) htake)
  | exact wpAny_bind (m:=Builtin.Tuple.tupleExact _) (wpAny_newObj_type (wpAny_bind (wpAny_pure (wpAny_pure ⟨_,rfl,wpAny_pure h⟩))) htake)
  | exact wpAny_bind (wpAny_bind (m:=Builtin.Tuple.tupleExact _) (wpAny_newObj_type (wpAny_pure (wpAny_pure ⟨_,rfl,wpAny_pure h⟩)) htake))
  | exact wpAny_bind (wpAny_bind (m:=Builtin.Tuple.tupleExact _) (wpAny_newObj_type (wpAny_pure ⟨_,rfl,wpAny_pure h⟩) htake))
end
end HT
namespace L2
open PySem PySem.Spec PyProof.Rows
abbrev TO:=St -> Hp -> (Option Int -> Hp -> Prop) -> Prop
def PO (X:Cx) (e:Option Expr) (t:TO):Prop :=
 ∀ (pins:List (Addr × Obj)) (s:Shared) (σ:St) (H:Hp) (Q:Option Int -> Hp -> Prop),Inv X pins σ H s -> t σ H Q ->
  wpAny (model X.prog X.w) X.A (evalPart e X.env) (fun u s'=>∃ o H',Inv X pins σ H' s' /\ IsPart u o /\ Q o H') X.xe s
def zi4:TO:=fun _ H Q=>Q none H
def zI0 (t:TE):TO:=fun σ H Q=>t σ H fun x H1=>∃ i,x = .int i /\ Q (some i) H1
theorem kW {ns:List Int}:∀ {us:List Value},Vals (ns.map V.int) us -> IntsAre us ns:=by
 induction ns with
 | nil=>intro us r; rw [List.map_nil] at r; cases r; exact .nil
 | cons n ns ih =>
  intro us r
  rw [List.map_cons] at r
  cases r with
  | cons r1 r2 =>
   obtain ⟨t,e⟩:=r1
   subst e
   exact .cons n t (ih r2)
section
variable {X:Cx} {e:Expr} {te:TE} {lo hi:Option Expr} {tl th:TO} {pos p2:Pos}
theorem po_none:PO X none zi4:=by
 intro pins s σ H Q I h
 rw [evalPart_none]
 exact wpAny_pure ⟨none,H,I,.none,h⟩
theorem Ke (h:PE X e te):PO X (some e) (zI0 te):=by
 intro pins s σ H Q I hw
 rw [evalPart_some]
 refine thn (h pins s σ H _ I hw) fun u s1 ⟨x,H1,I1,r1,q1⟩=>?_
 obtain ⟨i,rfl,q⟩:=q1
 obtain ⟨t,rfl⟩:=r1
 exact ⟨some i,H1,I1,.int i t,q⟩
def SlR (X:Cx) (r:V -> Option Int -> Option Int -> Hp -> VK -> Prop):Prop :=
 ∀ (pins:List (Addr × Obj)) (s:Shared) (σ:St) (H:Hp) (x:V) (v vl vu:Value) (lo hi:Option Int) (sl:Addr) (Q:VK),Inv X pins σ H s -> RelV x v -> s.heap.IsSliceOf sl vl vu .none -> IsPart vl lo -> IsPart vu hi -> r x lo hi H Q ->
  ∃ T id,typeLookup (.type T) "__getitem__" = pure (some (.builtin id)) /\ s.TypeIs v T /\ wpAny (model X.prog X.w) X.A (getItem v (.ref sl)) (EP X pins σ Q) X.xe s
def tSl (r:V -> Option Int -> Option Int -> Hp -> VK -> Prop) (te:TE) (tl th:TO):TE:=fun σ H Q=>te σ H fun x H1=>tl σ H1 fun l H2=>th σ H2 fun u H3=>r x l u H3 Q
theorem Ve {r:V -> Option Int -> Option Int -> Hp -> VK -> Prop} (hr:SlR X r) (he:PE X e te) (hl:PO X lo tl) (hu:PO X hi th):PE X (.Subscript e (.Slice lo hi none p2) pos) (tSl r te tl th):=by
 intro pins s σ H Q I h
 refine Subscript_ (thn (he pins s σ H _ I h) fun v s1 ⟨x,H1,I1,r1,q1⟩=>?_)
 refine wpAny_Slice (thn (hl pins s1 σ H1 _ I1 q1) fun vl s2 ⟨l,H2,I2,pl,q2⟩=>thn (hu pins s2 σ H2 _ I2 q2) fun vu s3 ⟨u,H3,I3,pu,q3⟩=>?_)
 rw [evalPart_none]
 refine wpAny_pure ?_
 have I4:Inv X pins σ H3 { s3 with heap:=s3.heap.push { cls:=.type "slice",data:=.fields #[vl,vu,.none] } }:=I3.kept (t':=s3.toks) fun b ob q=>Heap.get?_push_of_some _ q
 obtain ⟨T,id,hT,ht,hg⟩:=hr pins { s3 with heap:=s3.heap.push { cls:=.type "slice",data:=.fields #[vl,vu,.none] } } σ H3 x v vl vu l u s3.heap.objs.size Q I4 r1 (Heap.IsSliceOf.new ..) pl pu q3
 show wpAny (model X.prog X.w) X.A (subscriptTail e (.Slice lo hi none p2) v (.ref s3.heap.objs.size)) (EP X pins σ Q) X.xe { s3 with heap:=s3.heap.push { cls:=.type "slice",data:=.fields #[vl,vu,.none] } }
 exact tail_any (ops:=[.ref s3.heap.objs.size,v]) ht hT hg (by with_unfolding_all rfl)
def zd4 (xs:List V) (lo hi:Option Int):List V:=(xs.drop (HT.sIx xs.length 0 lo)).take (HT.sIx xs.length xs.length hi - HT.sIx xs.length 0 lo)
theorem jt (xs:List V) (lo hi:Option Int):(zd4 xs lo hi).length <= xs.length:=by
 unfold zd4
 rw [List.length_take,List.length_drop]
 lia
def xe2 (K:PySem.W.Frag):V -> Option Int -> Option Int -> Hp -> VK -> Prop:=fun x lo hi H Q=>∃ a xs,x = .ref a /\ SqT K H a xs /\
 ¬ (HT.sIx xs.length 0 lo = 0 /\ HT.sIx xs.length xs.length hi = xs.length) /\ ∀ p,H p = none -> Q (.ref p) (upd H p (.tup (zd4 xs lo hi)))
theorem zr9:SlR X (xe2 X.K):=by
 intro pins s σ H x v vl vu lo hi sl Q I rx hs pl pu h
 obtain ⟨a,xs,rfl,hx,hw,q⟩:=h
 cases rx
 obtain ⟨its,r,ht,hz⟩:=I.tuple hx
 have hlen:its.toArray.size = xs.length:=by rw [List.size_toArray]; exact r.length.symm
 refine ⟨"tuple",_,PyProof.Rows.slot_tuple_getitem.lookup,ht.typeIs,?_⟩
 refine HT.kY ht hs pl pu (by rw [hlen]; exact hw) ?_ (by rw [hlen]; exact hz)
 rw [hlen]
 refine ⟨.ref s.heap.objs.size,_,I.laid (t':=s.toks) (o:=.tup (zd4 xs lo hi)) (fun b ob q=>Heap.get?_push_of_some _ q) (Nat.le_refl _) ?_,rfl,q _ (I.hok.fresh (Nat.le_refl _))⟩
 exact ⟨Nat.le_trans (jt xs lo hi) hz,_,(r.drop (HT.sIx xs.length 0 lo)).take (HT.sIx xs.length xs.length hi - HT.sIx xs.length 0 lo),IsTup.new _ _⟩
def zK4 (K:PySem.W.Frag):R2:=fun x y H Q=>∃ a b xs ys,x = .ref a /\ y = .ref b /\ SqT K H a xs /\ SqT K H b ys /\ xs ≠ [] /\ xs.length + ys.length <= sizeLine /\
 (ys = [] -> Q (.ref a) H) /\ (ys ≠ [] -> ∀ p,H p = none -> Q (.ref p) (upd H p (.tup (xs ++ ys))))
theorem Vals.nil_iff {xs:List V} {us:List Value} (r:Vals xs us):us = [] ↔ xs = []:=by
 cases r with
 | nil=>simp
 | cons _ _=>simp
theorem zl6:OpR X (binaryOp .Add) (zK4 X.K):=by
 intro pins s σ H x y v u Q I rx ry h
 obtain ⟨a,b,xs,ys,rfl,rfl,ha,hb,hx,hz,q1,q2⟩:=h
 cases rx
 cases ry
 obtain ⟨its,r1,p1,_⟩:=I.tuple ha
 obtain ⟨its2,r2,p2,_⟩:=I.tuple hb
 refine HT.zp2 p1 p2 (fun z=>hx (r1.nil_iff.mp z)) (fun z=>⟨.ref a,H,I,rfl,q1 (r2.nil_iff.mp z)⟩) (fun z=>?_) (by rw [<- r1.length,<- r2.length]; exact hz)
 refine ⟨.ref s.heap.objs.size,_,I.laid (t':=s.toks) (o:=.tup (xs ++ ys)) (fun b ob q=>Heap.get?_push_of_some _ q) (Nat.le_refl _) ?_,rfl,q2 (fun w=>z (r2.nil_iff.mpr w)) _ (I.hok.fresh (Nat.le_refl _))⟩
 exact ⟨by rw [List.length_append]; exact hz,_,r1.append r2,IsTup.new _ _⟩
end
end L2
namespace L2
open PySem PySem.Spec PyProof.Rows
def ixN (n:Nat) (i:Int):Option Nat:=if 0 <= i then (if i < n then some i.toNat else none) else if -(n:Int) <= i then some (i + n).toNat else none
def atI {α:Type} (xs:List α) (i:Int):Option α:=(ixN xs.length i).bind fun j=>xs[j]?
theorem Jc {n:Nat} {i:Int} {j:Nat} (h:ixN n i = some j):seqIndex? i n = some j /\ j < n /\ -(n:Int) <= i /\ i < n:=by
 unfold ixN at h
 by_cases h0:0 <= i
 ·rw [if_pos h0] at h
  by_cases h1:i < n
  ·rw [if_pos h1] at h
   have e:i.toNat = j:=Option.some.inj h
   exact ⟨by rw [seqIndex_of h0 h1,e],by lia,by lia,h1⟩
  ·rw [if_neg h1] at h; cases h
 ·rw [if_neg h0] at h
  by_cases h1:-(n:Int) <= i
  ·rw [if_pos h1] at h
   have e:(i + n).toNat = j:=Option.some.inj h
   exact ⟨by rw [seqIndex_neg (by lia) h1,e],by lia,h1,by lia⟩
  ·rw [if_neg h1] at h; cases h
theorem WE {α:Type} {xs:List α} {i:Int} {v:α} (h:atI xs i = some v):∃ j,seqIndex? i xs.length = some j /\ xs[j]? = some v /\ j < xs.length /\ -(xs.length:Int) <= i /\ i < xs.length:=by
 unfold atI at h
 cases e:ixN xs.length i with
 | none=>rw [e] at h; cases h
 | some j =>
  rw [e] at h
  obtain ⟨h1,h2,h3,h4⟩:=Jc e
  exact ⟨j,h1,h,h2,h3,h4⟩
theorem yT {α:Type} {xs:List α} {j:Nat} {v:α} (h:xs[j]? = some v):atI xs (j:Int) = some v:=by
 have hj:j < xs.length:=(List.getElem?_eq_some_iff.mp h).1
 have e:ixN xs.length (j:Int) = some j:=by
  unfold ixN
  rw [if_pos (by lia),if_pos (by lia)]; simp
 unfold atI; rw [e]; exact h
def Yb (b:Expr):Prop:=∀ o i,subscripted b false o i = operate [o,i] (getItem o i)
def IxR (X:Cx) (r:R2):Prop :=
 ∀ (value slice:Expr) (pins:List (Addr × Obj)) (s:Shared) (σ:St) (H:Hp) (x y:V) (v u:Value) (Q:VK),Inv X pins σ H s -> RelV x v -> RelV y u -> r x y H Q ->
  subscripted slice false v u = operate [v,u] (getItem v u) -> wpAny (model X.prog X.w) X.A (subscriptTail value slice v u) (EP X pins σ Q) X.xe s
def MtR (X:Cx) (id:String) (r:V -> List V -> Hp -> VK -> Prop):Prop :=
 ∀ (pins:List (Addr × Obj)) (s:Shared) (σ:St) (H:Hp) (x:V) (xs:List V) (v:Value) (us:List Value) (Q:VK),Inv X pins σ H s -> RelV x v -> Vals xs us -> r x xs H Q ->
  wpAny (model X.prog X.w) X.A (call (.builtin id) (v :: us)) (EP X pins σ Q) X.xe s
section
variable {X:Cx} {a b:Expr} {ta tb:TE} {pos:Pos}
theorem IxR.or {r r':R2} (h:IxR X r) (h':IxR X r'):IxR X (fun x y H Q=>r x y H Q \/ r' x y H Q):=by
 intro value slice pins s σ H x y v u Q I rx ry q hs
 rcases q with q | q
 ·exact h value slice pins s σ H x y v u Q I rx ry q hs
 ·exact h' value slice pins s σ H x y v u Q I rx ry q hs
theorem zk9 {r:R2} (hr:IxR X r) (ha:PE X a ta) (hb:PE X b tb) (hs:Yb b):PE X (.Subscript a b pos) (tOp r ta tb):=by
 intro pins s σ H Q I h
 exact Subscript_ (zU2 ha hb I h fun v u s2 x y H2 I2 rx ry q=>hr a b pins s2 σ H2 x y v u Q I2 rx ry q (hs _ _))
def zV8 (K:PySem.W.Frag):R2:=fun x y H Q=>∃ p xs i v,x = .ref p /\ y = .int i /\ SqL K H p xs /\ atI xs i = some v /\ Q v H
def zV6 (K:PySem.W.Frag):R2:=fun x y H Q=>∃ p xs i v,x = .ref p /\ y = .int i /\ SqT K H p xs /\ atI xs i = some v /\ Q v H
def zV7:R2:=fun x y H Q=>∃ z i c,x = .str z /\ y = .int i /\ z.length <= sizeLine /\ atI z.cps.toList i = some c /\ Q (.str ⟨#[c]⟩) H
theorem ix_list:IxR X (zV8 X.K):=by
 intro value slice pins s σ H x y v u Q I rx ry h hs
 obtain ⟨p,xs,i,z,rfl,rfl,hq,he,q⟩:=h
 cases rx
 obtain ⟨t,rfl⟩:=ry
 obtain ⟨its,r,pl,hz⟩:=I.list hq
 obtain ⟨j,h1,h2,h3,h4,h5⟩:=WE he
 obtain ⟨w,ew,rw'⟩:=r.get h2
 have hl:=r.length
 have hn:=Xh
 have fin:EP X pins σ Q w s:=⟨z,H,I,rw',q⟩
 by_cases h0:0 <= i
 ·have hj : i.toNat = j := by
   rw [seqIndex_of h0 h5] at h1
   exact Option.some.inj h1
  exact item_listR pl.isList h0 (by lia) (by rw [hj]; simpa using ew) fin hs
 ·have hj : (i + (its.toArray.size : Int)).toNat = j := by
   rw [seqIndex_neg (by lia) h4] at h1
   rw [List.size_toArray,<- hl]
   exact Option.some.inj h1
  exact subscriptTail_builtinR (x:=w) pl.isList.typeIs slot_list_getitem.lookup
   (wpAny_getItem_list_neg (Q:=fun r s'=>r = w /\ EP X pins σ Q r s') pl.isList (by lia) (by rw [List.size_toArray] <;> lia) (by lia) (by rw [hj]; simpa using ew) ⟨rfl,fin⟩) hs
theorem ix_tup:IxR X (zV6 X.K):=by
 intro value slice pins s σ H x y v u Q I rx ry h hs
 obtain ⟨p,xs,i,z,rfl,rfl,hq,he,q⟩:=h
 cases rx
 obtain ⟨t,rfl⟩:=ry
 obtain ⟨its,r,pl,hz⟩:=I.tuple hq
 obtain ⟨j,h1,h2,h3,h4,h5⟩:=WE he
 obtain ⟨w,ew,rw'⟩:=r.get h2
 have hl:=r.length
 have hn:=Xh
 have fin:EP X pins σ Q w s:=⟨z,H,I,rw',q⟩
 exact subscriptTail_builtinR (x:=w) pl.typeIs slot_tuple_getitem.lookup
  (getItem_tuple (j:=j) (Q:=fun r s'=>r = w /\ EP X pins σ Q r s') pl (by lia) (by lia) (by rw [List.size_toArray,<- hl]; exact h1) (by simpa using ew) ⟨rfl,fin⟩) hs
theorem zB0:IxR X zV7:=by
 intro value slice pins s σ H x y v u Q I rx ry h hs
 obtain ⟨z,i,c,rfl,rfl,hz,he,q⟩:=h
 obtain ⟨t,rfl⟩:=rx
 obtain ⟨t',rfl⟩:=ry
 obtain ⟨j,h1,h2,h3,h4,h5⟩:=WE he
 have hl:z.cps.toList.length = z.length:=by simp [Str.length]
 rw [hl] at h1 h4 h5
 have hn:=Xh
 exact tail_any (typeIs_str s z t) slot_str_getitem.lookup (getItem_str (c:=c) (by
  have e1:decide (i < -(2 ^ 63:Int)) = false:=decide_eq_false (by lia)
  have e2:decide (i >= 2 ^ 63) = false:=decide_eq_false (by lia)
  rw [e1,e2,Bool.or_false]) (by rw [h1]; simpa using h2) ⟨.str ⟨#[c]⟩,H,I.tok _,⟨_,rfl⟩,q⟩) hs
def rIx (K:PySem.W.Frag):R2:=fun x y H Q=>zV8 K x y H Q \/ zV6 K x y H Q \/ zV7 x y H Q
theorem zn:IxR X (rIx X.K):=ix_list.or (ix_tup.or zB0)
theorem VX (its:List Value) (n j:Nat) (u:Value):Obj.mapSeq (·.setIfInBounds j u) { cls:=.type "list",data:=.seq its.toArray n } = { cls:=.type "list",data:=.seq (its.set j u).toArray n }:=by
 simp [Obj.mapSeq]
theorem Inv.lst {pins:List (Addr × Obj)} {σ:St} {H:Hp} {s:Shared} {p:Addr} {xs:List V} (I:Inv X pins σ H s) (h:H p = some (.lst xs)) :
  ∃ (its:List Value) (n:Nat),Vals xs its /\ s.heap.get? p = some { cls:=.type "list",data:=.seq its.toArray n } /\ xs.length <= sizeLine:=by
 obtain ⟨z,its,n,r,e⟩:=I.hok p _ h
 exact ⟨its,n,r,e,z⟩
theorem Inv.lstUpd {pins:List (Addr × Obj)} {σ:St} {H:Hp} {s:Shared} {p:Addr} {xs ys:List V} {its its':List Value} {n n':Nat} {f:Obj -> Obj} (I:Inv X pins σ H s) (h:H p = some (.lst xs))
  (ho:s.heap.get? p = some { cls:=.type "list",data:=.seq its.toArray n }) (hf:f { cls:=.type "list",data:=.seq its.toArray n } = { cls:=.type "list",data:=.seq its'.toArray n' }) (r:Vals ys its') (hz:ys.length <= sizeLine) (t:Nat) :
  Inv X pins σ (upd H p (.lst ys)) { s with heap:=s.heap.update p f,toks:=t }:=by
 have e:(s.heap.update p f).get? p = some { cls:=.type "list",data:=.seq its'.toArray n' }:=by
  rw [Heap.get?_update_self f ho (by rw [hf] <;> rfl),hf]
 refine I.write (x:=p) (e:=p) (by rw [h]; trivial) (.inl rfl) (fun b u hb q=>(Heap.get?_update_other _ _ (Ne.symm hb)).trans q) ⟨_,e⟩ ?_
 exact ⟨hz,its',n',r,e⟩
def zK3:V -> V -> V -> Hp -> (Hp -> Prop) -> Prop:=fun o i v H Q=>∃ p xs k j,o = .ref p /\ i = .int k /\ H p = some (.lst xs) /\ ixN xs.length k = some j /\ Q (upd H p (.lst (xs.set j v)))
theorem Qw:xc1 X zK3:=by
 intro pins s σ H o i v ov iv u Q I ro ri rv h
 obtain ⟨p,xs,k,j,rfl,rfl,hp,hj,q⟩:=h
 cases ro
 obtain ⟨t,rfl⟩:=ri
 obtain ⟨its,n,r,ho,hz⟩:=I.lst hp
 obtain ⟨h1,h2,h3,h4⟩:=Jc hj
 have hl:=r.length
 have hn:=Xh
 have I':Inv X pins σ (upd H p (.lst (xs.set j v))) { s with heap:=s.heap.update p (Obj.mapSeq (·.setIfInBounds j u)) } :=
  I.lstUpd hp ho (VX its n j u) (r.set rv j) (by rw [List.length_set]; exact hz) s.toks
 by_cases h0:0 <= k
 ·have hk : k.toNat = j := by
   rw [seqIndex_of h0 h4] at h1
   exact Option.some.inj h1
  exact PySem.W.ki_setAt ho h0 (by lia) (by rw [List.size_toArray,<- hl]; exact h4) (by rw [hk]; exact ⟨_,I',q⟩)
 ·have hk : (k + (its.toArray.size : Int)).toNat = j := by
   rw [seqIndex_neg (by lia) h3] at h1
   rw [List.size_toArray,<- hl]
   exact Option.some.inj h1
  exact PySem.W.ki_setBack ho (by lia) (by rw [List.size_toArray,<- hl]; exact h3) (by lia) (by rw [hk]; exact ⟨_,I',q⟩)
theorem Yw (lo hi:Option Int) (n:Nat):(sliceBounds lo hi none n).1 = ((HT.sIx n 0 lo:Nat):Int) /\ (sliceBounds lo hi none n).2.1 = ((HT.sIx n n hi:Nat):Int) /\ (sliceBounds lo hi none n).2.2 = 1:=by
 refine ⟨?_,?_,rfl⟩
 ·cases lo with
  | none=>simp [sliceBounds,HT.sIx]
  | some i =>
   simp only [sliceBounds,HT.sIx,Option.getD_none,show (1:Int) > 0 by decide,if_true]
   by_cases h:i < 0
   ·simp only [h,if_true] <;> lia
   ·simp only [h,if_false] <;> lia
 ·cases hi with
  | none=>simp [sliceBounds,HT.sIx]
  | some i =>
   simp only [sliceBounds,HT.sIx,Option.getD_none,show (1:Int) > 0 by decide,if_true]
   by_cases h:i < 0
   ·simp only [h,if_true] <;> lia
   ·simp only [h,if_false] <;> lia
theorem Zx (its:List Value) (lo hi:Option Int):slicePick its.toArray lo hi none = ((its.drop (HT.sIx its.length 0 lo)).take (HT.sIx its.length its.length hi - HT.sIx its.length 0 lo)).toArray:=by
 obtain ⟨h1,h2,h3⟩:=Yw lo hi its.toArray.size
 unfold slicePick
 rw [h1,h2,h3]
 simp only [sliceRange_one,pick_run,List.size_toArray] <;> rfl
def xe3 (K:PySem.W.Frag):V -> Option Int -> Option Int -> Hp -> VK -> Prop:=fun x lo hi H Q=>∃ a xs,x = .ref a /\ SqL K H a xs /\ ∀ p,H p = none -> Q (.ref p) (upd H p (.lst (zd4 xs lo hi)))
theorem zi7:SlR X (xe3 X.K):=by
 intro pins s σ H x v vl vu lo hi sl Q I rx hs pl pu h
 obtain ⟨a,xs,rfl,hx,q⟩:=h
 cases rx
 obtain ⟨its,r,ht,hz⟩:=I.list hx
 have hlen:=r.length
 refine ⟨"list",_,slot_list_getitem.lookup,ht.isList.typeIs,?_⟩
 refine wpAny_getItem_list_slice ht.isList hs pl pu .none (by simp) ?_ (by rw [List.size_toArray] <;> lia)
 rw [Zx,<- hlen]
 refine ⟨.ref s.heap.objs.size,_,I.laid (t':=s.toks) (o:=.lst (zd4 xs lo hi)) (fun b ob q=>Heap.get?_push_of_some _ q) (Nat.le_refl _) ?_,rfl,q _ (I.hok.fresh (Nat.le_refl _))⟩
 exact ⟨Nat.le_trans (jt xs lo hi) hz,_,0,(r.drop (HT.sIx xs.length 0 lo)).take (HT.sIx xs.length xs.length hi - HT.sIx xs.length 0 lo),Heap.get?_push_size _ rfl⟩
def jN:V -> Bool
 | .non=>true
 | .bl _=>true
 | .int _=>true
 | .str _=>true
 | _=>false
def eqV:V -> V -> Bool
 | .non,.non=>true
 | .bl a,.bl b=>a == b
 | .bl a,.int b=>(if a then 1 else 0) == b
 | .int a,.bl b=>a == (if b then 1 else 0)
 | .int a,.int b=>a == b
 | .str a,.str b=>a == b
 | _,_=>false
theorem zC0 {A:Around} {s:Shared} {y x:V} {u v:Value} (ry:RelV y u) (rx:RelV x v) (fy:jN y = true) (fx:jN x = true):SeqAt.EqAt A s u v (eqV y x):=by
 cases y with
 | non =>
  cases ry
  cases x with
  | non=>cases rx; exact SeqAt.EqAt.same _
  | bl b=>cases rx; exact SeqAt.EqAt.none_bool b
  | int b=>obtain ⟨t,rfl⟩:=rx; exact SeqAt.EqAt.none_int b t
  | str b=>obtain ⟨t,rfl⟩:=rx; exact SeqAt.EqAt.none_str b t
  | _=>exact absurd (show false = true from fx) Bool.false_ne_true
 | bl a =>
  cases ry
  cases x with
  | non=>cases rx; exact SeqAt.EqAt.bool_none a
  | bl b=>cases rx; exact SeqAt.EqAt.bool_bool a b
  | int b=>obtain ⟨t,rfl⟩:=rx; exact SeqAt.EqAt.bool_int a b t
  | str b=>obtain ⟨t,rfl⟩:=rx; exact SeqAt.EqAt.bool_str a b t
  | _=>exact absurd (show false = true from fx) Bool.false_ne_true
 | int a =>
  obtain ⟨t',rfl⟩:=ry
  cases x with
  | non=>cases rx; exact SeqAt.EqAt.int_none a t'
  | bl b=>cases rx; exact SeqAt.EqAt.int_bool a t' b
  | int b=>obtain ⟨t,rfl⟩:=rx; exact SeqAt.EqAt.int_int a t' b t
  | str b=>obtain ⟨t,rfl⟩:=rx; exact SeqAt.EqAt.int_str a t' b t
  | _=>exact absurd (show false = true from fx) Bool.false_ne_true
 | str a =>
  obtain ⟨t',rfl⟩:=ry
  cases x with
  | non=>cases rx; exact SeqAt.EqAt.str_none a t'
  | bl b=>cases rx; exact SeqAt.EqAt.str_bool a t' b
  | int b=>obtain ⟨t,rfl⟩:=rx; exact SeqAt.EqAt.str_int a t' b t
  | str b=>obtain ⟨t,rfl⟩:=rx; exact SeqAt.EqAt.str_str a t' b t
  | _=>exact absurd (show false = true from fx) Bool.false_ne_true
 | _=>exact absurd (show false = true from fy) Bool.false_ne_true
def eqU (x:V) (u:Value):Bool:=match u with
 | .none=>eqV .non x
 | .bool b=>eqV (.bl b) x
 | .int i _=>eqV (.int i) x
 | .str z _=>eqV (.str z) x
 | _=>false
theorem zg6 {x y:V} {u:Value} (r:RelV y u) (f:jN y = true):eqU x u = eqV y x:=by
 cases y with
 | non=>cases r; rfl
 | bl b=>cases r; rfl
 | int i=>obtain ⟨t,rfl⟩:=r; rfl
 | str z=>obtain ⟨t,rfl⟩:=r; rfl
 | _=>exact absurd (show false = true from f) Bool.false_ne_true
theorem WF {x:V}:∀ {xs:List V} {us:List Value},Vals xs us -> xs.all jN = true -> us.any (eqU x) = xs.any fun y=>eqV y x
 | _,_,.nil,_=>rfl
 | y :: xs,u :: us,.cons r t,f=>by
  rw [List.all_cons,Bool.and_eq_true] at f
  rw [List.any_cons,List.any_cons,zg6 r f.1,WF t f.2]
theorem ZN {A:Around} {s:Shared} {x:V} {v:Value} (rx:RelV x v) (fx:jN x = true):∀ {xs:List V} {us:List Value},Vals xs us -> xs.all jN = true -> ∀ u ∈ us,SeqAt.EqAt A s u v (eqU x u)
 | _,_,.nil,_=>fun u hu=>by cases hu
 | y :: xs,u :: us,.cons r t,f=>fun u' hu=>by
  rw [List.all_cons,Bool.and_eq_true] at f
  rcases List.mem_cons.mp hu with rfl | hu
  ·rw [zg6 r f.1]; exact zC0 r rx f.1 fx
  ·exact ZN rx fx t f.2 u' hu
def inV (x:V) (xs:List V):Bool:=xs.any fun y=>eqV y x
def rIn (K:PySem.W.Frag) (neg:Bool):R2:=fun x y H Q=>∃ p xs,y = .ref p /\ (SqL K H p xs \/ SqT K H p xs) /\ jN x = true /\ xs.all jN = true /\ Q (.bl (if neg then !inV x xs else inV x xs)) H
theorem Kn:OpR X (compareOp .In) (rIn X.K false):=by
 intro pins s σ H x y v u Q I rx ry h
 obtain ⟨p,xs,rfl,hq,fx,fs,q⟩:=h
 cases ry
 rcases hq with hq | hq
 ·obtain ⟨its, r, pl, hz⟩ := I.list hq
  refine SeqAt.in_listAt (eqU x) pl.isList (fun w hw=>ZN rx fx r fs w (by simpa using hw)) ⟨.bl _,H,I,rfl,?_⟩
  rw [show its.toArray.any (eqU x) = its.any (eqU x) by simp,WF r fs]
  exact q
 ·obtain ⟨its, r, pl, hz⟩ := I.tuple hq
  refine SeqAt.in_tupleAt (eqU x) pl (fun w hw=>ZN rx fx r fs w (by simpa using hw)) ⟨.bl _,H,I,rfl,?_⟩
  rw [show its.toArray.any (eqU x) = its.any (eqU x) by simp,WF r fs]
  exact q
theorem zI:va X (.builtin "len") (fun xs H Q=>∃ p ys,xs = [.ref p] /\ (SqL X.K H p ys \/ SqT X.K H p ys) /\ Q (.int ys.length) H):=by
 intro pins s σ H xs us Q I r h
 obtain ⟨p,ys,rfl,hq,q⟩:=h
 obtain ⟨u,rfl,rx⟩:=Yq r
 cases rx
 have hn:=Xh
 rcases hq with hq | hq
 ·obtain ⟨its, r', pl, hz⟩ := I.list hq
  have hlen:=r'.length
  exact Calls.call_len_list pl.isList (by simp only [List.size_toArray] <;> lia) ⟨.int ys.length,H,I.tok _,⟨s.toks + 1,by rw [List.size_toArray,hlen]⟩,q⟩
 ·obtain ⟨its, r', pl, hz⟩ := I.tuple hq
  have hlen:=r'.length
  exact len_tuple pl (by simp only [List.size_toArray] <;> lia) ⟨.int ys.length,H,I.tok _,⟨s.toks + 1,by rw [List.size_toArray,hlen]⟩,q⟩
theorem vq:va X (.type "list") (fun xs H Q=>∃ p ys,xs = [.ref p] /\ (SqL X.K H p ys \/ SqT X.K H p ys) /\ ∀ l,H l = none -> Q (.ref l) (upd H l (.lst ys))):=by
 intro pins s σ H xs us Q I r h
 obtain ⟨p,ys,rfl,hq,q⟩:=h
 obtain ⟨u,rfl,rx⟩:=Yq r
 cases rx
 have fin:∀ (its:List Value),Vals ys its -> ys.length <= sizeLine -> ∀ (h':Heap) (c':Nat),(∀ b o',s.heap.get? b = some o' -> h'.get? b = some o') ->
   h'.get? s.heap.objs.size = some { cls:=.type "list",dict:=none,data:=.seq its.toArray c',slots:=#[] } -> EP X pins σ Q (.ref s.heap.objs.size) { s with heap:=h' }:=fun its r' hz h' c' kp e =>
  ⟨.ref s.heap.objs.size,_,I.laid (t':=s.toks) kp (Nat.le_refl _) (show ObjOk X.prog X.w _ h' _ (.lst ys) from ⟨hz,its,c',r',e⟩),rfl,q _ (I.hok.fresh (Nat.le_refl _))⟩
 rcases hq with hq | hq
 ·obtain ⟨its, r', pl, hz⟩ := I.list hq
  have hlen:=r'.length
  obtain ⟨o,ho,hc,n,hd⟩:=pl.isList
  exact call_list_seq p (.inl rfl) ho hc hd (fun h' c' kp e=>fin its r' hz h' c' kp e) (by simp only [List.size_toArray] <;> lia)
 ·obtain ⟨its, r', pl, hz⟩ := I.tuple hq
  have hlen:=r'.length
  obtain ⟨o,ho,hc,n,hd⟩:=pl
  exact call_list_seq p (.inr rfl) ho hc hd (fun h' c' kp e=>fin its r' hz h' c' kp e) (by simp only [List.size_toArray] <;> lia)
theorem zQ:va X (.type "tuple") (fun xs H Q=>∃ p ys,xs = [.ref p] /\ ((SqL X.K H p ys /\ ∀ l,H l = none -> Q (.ref l) (upd H l (.tup ys))) \/ (SqT X.K H p ys /\ Q (.ref p) H))):=by
 intro pins s σ H xs us Q I r h
 obtain ⟨p,ys,rfl,h⟩:=h
 obtain ⟨u,rfl,rx⟩:=Yq r
 cases rx
 rcases h with ⟨hq,q⟩ | ⟨hq,q⟩
 ·obtain ⟨its, r', pl, hz⟩ := I.list hq
  have hlen:=r'.length
  refine call_tuple_list pl.isList (fun h' kp=>?_) (by simp only [List.size_toArray] <;> lia)
  have I1:Inv X pins σ H { s with heap:=h' }:=I.kept (t':=s.toks) kp
  have I2:Inv X pins σ (upd H h'.objs.size (.tup ys)) { s with heap:=h'.push { cls:=.type "tuple",data:=.seq its.toArray } } :=
   I1.laid (t':=s.toks) (fun b o e=>Heap.get?_push_of_some _ e) (Nat.le_refl _) (show ObjOk X.prog X.w _ _ _ (.tup ys) from ⟨hz,its,r',IsTup.new _ _⟩)
  exact ⟨.ref h'.objs.size,_,I2,rfl,q _ (I1.hok.fresh (Nat.le_refl _))⟩
 ·obtain ⟨its, r', pl, hz⟩ := I.tuple hq
  exact call_tuple_same pl ⟨.ref p,H,I,rfl,q⟩
def tyV (K:PySem.W.Frag) (T:String) (x:V) (H:Hp):Prop:=match x with
 | .str _=>T = "str"
 | .int _=>T = "int"
 | .ref p => (T = "list" /\ ∃ xs, SqL K H p xs) \/ (T = "tuple" /\ ∃ o, K.lookup p = some o /\ o.cls = .type "tuple" /\ o.dict = none) \/
   (T = "dict" /\ ((∃ kvs,H p = some (.dK kvs)) \/ ∃ kvs,H p = some (.dT kvs))) \/ (T = "set" /\ ∃ S n,H p = some (.set S n))
 | _=>False
theorem ze5 {pins:List (Addr × Obj)} {σ:St} {H:Hp} {s:Shared} {T:String} {x:V} {v:Value} (I:Inv X pins σ H s) (r:RelV x v) (ty:tyV X.K T x H) :
  s.TypeIs v T /\ ∀ a,v = .ref a -> ∃ ob,s.heap.get? a = some ob /\ ob.dict = none:=by
 cases x with
 | str z =>
  obtain ⟨t,rfl⟩:=r
  cases (show T = "str" from ty)
  exact ⟨typeIs_str s z t,fun _ e=>nomatch e⟩
 | int i =>
  obtain ⟨t,rfl⟩:=r
  cases (show T = "int" from ty)
  exact ⟨typeIs_int s i t,fun _ e=>nomatch e⟩
 | ref p =>
  cases r
  rcases ty with ⟨rfl,xs,hq⟩ | ⟨rfl,o,hk,hc,hd⟩ | ⟨rfl,hk⟩ | ⟨rfl,S,n,hk⟩
  ·obtain ⟨its, _, pl, _⟩ := I.list hq
   refine ⟨pl.isList.typeIs,fun a e=>?_⟩
   cases e
   obtain ⟨o,n,e,c,hd,_⟩:=pl
   exact ⟨o,e,hd⟩
  ·refine ⟨⟨o, I.kIn p o hk, hc⟩, fun a e => ?_⟩
   cases e
   exact ⟨o,I.kIn _ o hk,hd⟩
  ·have z : ∃ o, s.heap.get? p = some o /\ o.ExactDict := by
    rcases hk with ⟨kvs,hk⟩ | ⟨kvs,hk⟩
    ·obtain ⟨_, _, _, _, o, _, _, e, ex, _⟩ := I.hok p _ hk
     exact ⟨o,e,ex⟩
    ·obtain ⟨_, _, _, _, o, _, _, e, ex, _⟩ := I.hok p _ hk
     exact ⟨o,e,ex⟩
   obtain ⟨o,e,ex⟩:=z
   refine ⟨⟨o,e,ex.1⟩,fun a e2=>?_⟩
   cases e2
   exact ⟨o,e,ex.2.1⟩
  ·obtain ⟨o, _, _, _, e, ex, _⟩ := I.hok p _ hk
   refine ⟨⟨o,e,ex.1⟩,fun a e2=>?_⟩
   cases e2
   exact ⟨o,e,ex.2.1⟩
 | _=>exact False.elim ty
def xd6 (K:PySem.W.Frag) (T:String) (r:V -> List V -> Hp -> VK -> Prop) (to:TE):TE:=fun σ H Q=>to σ H fun x H1=>tyV K T x H1 /\ r x [] H1 Q
def tBM (K:PySem.W.Frag) (T:String) (r:V -> List V -> Hp -> VK -> Prop) (to:TE) (t:TA):TE:=fun σ H Q=>to σ H fun x H1=>tyV K T x H1 /\ t σ H1 fun xs H2=>r x xs H2 Q
variable {o e:Expr} {es:List Expr} {to:TE} {t:TA} {name:Str} {apos cpos:Pos} {T id:String} {r:V -> List V -> Hp -> VK -> Prop}
theorem zw5 (pa:PlainAttrs T) (slot:Slot T name id) (hty:typeOf (.builtin id) = pure (.type "method_descriptor")) (hm:MtR X id r) (ho:PE X o to)
  (hbase:attributeBase o name X.env (eval o X.env) = eval o X.env:=by rfl) (hline:(apos.endLine == cpos.line) = true:=by rfl):PE X (.Call (.Attribute o name apos) [] [] cpos) (xd6 X.K T r to):=by
 intro pins s σ H Q I h
 refine wpAny_Call_method0_late hbase hline (thn (ho pins s σ H _ I h) fun v s1 ⟨x,H1,I1,r1,ty,q1⟩=>?_)
 obtain ⟨h1,h2⟩:=ze5 I1 r1 ty
 exact ⟨T,id,pa,slot,hty,h1,h2,Calls.callWith_builtin rfl (PySem.evalArgs_none (hm pins s1 σ H1 x [] v [] Q I1 r1 .nil q1))⟩
theorem Kj (pa:PlainAttrs T) (slot:Slot T name id) (hty:typeOf (.builtin id) = pure (.type "method_descriptor")) (hm:MtR X id r) (ho:PE X o to) (ha:PA X (e :: es) t)
  (hbase:attributeBase o name X.env (eval o X.env) = eval o X.env:=by rfl)
  (hfew : ((backTo cpos (starEach (e :: es) X.env)).all (fun x => !x.1) && (backToKw cpos (keywordEach [] X.env)).all (fun x => x.1.isSome)
   && decide ((e :: es).length + ([]:List Keyword).length + (if ([]:List Keyword).isEmpty then 0 else 1) < 30)) = true:=by rfl)
  (hline:(apos.endLine == cpos.line) = true:=by rfl) (hs:starEach (e :: es) X.env = (false,eval e X.env) :: starEach es X.env:=by rfl) (hplain:(backTo cpos (starEach es X.env)).any (·.1) = false:=by rfl) :
  PE X (.Call (.Attribute o name apos) (e :: es) [] cpos) (tBM X.K T r to t):=by
 intro pins s σ H Q I h
 refine wpAny_Call_method_late hbase hfew hline rfl (thn (ho pins s σ H _ I h) fun v s1 ⟨x,H1,I1,r1,ty,q1⟩=>?_)
 obtain ⟨h1,h2⟩:=ze5 I1 r1 ty
 refine ⟨T,id,pa,slot,hty,h1,h2,?_⟩
 have hA:=ha cpos pins s1 σ H1 _ I1 q1
 rw [hs] at hA ⊢
 refine Calls.callWith_builtin (by show (false || (backTo cpos (starEach es X.env)).any (·.1)) = false; rw [hplain] <;> rfl) (Calls.evalArgs_plain ?_)
 exact thn hA fun us s2 ⟨vs,H2,I2,r2,q2⟩=>hm pins s2 σ H2 x vs v us Q I2 r1 r2 q2
end
end L2
namespace L2
open PySem PySem.Spec PyProof.Rows
def MtM (X:Cx) (id:String) (r:V -> List V -> Hp -> VK -> Prop):Prop :=
 ∀ (pins:List (Addr × Obj)) (s:Shared) (σ:St) (H:Hp) (x:V) (xs:List V) (v:Value) (us:List Value) (Q:VK),Inv X pins σ H s -> RelV x v -> Vals xs us -> r x xs H Q ->
  wpAny (model X.prog X.w) X.A (call (.builtin id) (v :: us)) (EP X pins σ Q) X.xe s
theorem Vals.one:∀ {x:V} {us:List Value},Vals [x] us -> ∃ u,us = [u] /\ RelV x u
 | _,_,.cons r .nil=>⟨_,rfl,r⟩
theorem Vals.zero:∀ {us:List Value},Vals [] us -> us = []
 | _,.nil=>rfl
theorem Vals.dropLast {xs:List V} {us:List Value} (h:Vals xs us):Vals xs.dropLast us.dropLast:=by
 induction h with
 | nil=>exact .nil
 | cons r t ih =>
  cases t with
  | nil=>exact .nil
  | cons q t'=>exact .cons r ih
theorem Vals.eraseIdx:∀ {xs:List V} {us:List Value} (i:Nat),Vals xs us -> Vals (xs.eraseIdx i) (us.eraseIdx i)
 | _,_,_,.nil=>.nil
 | _,_,0,.cons _ t=>t
 | _,_,i + 1,.cons r t=>.cons r (Vals.eraseIdx i t)
theorem Vals.rep {xs:List V} {us:List Value} (h:Vals xs us):∀ k:Nat,Vals (List.replicate k xs).flatten (List.replicate k us).flatten
 | 0=>.nil
 | k + 1=>by
  rw [List.replicate_succ,List.replicate_succ,List.flatten_cons,List.flatten_cons]
  exact Vals.append h (Vals.rep h k)
theorem Ue {α:Type} (l:List α):l.eraseIdx (l.length - 1) = l.dropLast:=by
 induction l with
 | nil=>rfl
 | cons a r ih =>
  cases r with
  | nil=>rfl
  | cons b r =>
   have e:(a :: b :: r).length - 1 = ((b :: r).length - 1) + 1:=by
    have h1:(a :: b :: r).length = r.length + 2:=rfl
    have h2:(b :: r).length = r.length + 1:=rfl
    lia
   rw [e,List.eraseIdx_cons_succ,ih]
   all_goals rfl
theorem Xk {α:Type}:∀ (l:List α) (i:Nat),(l.eraseIdx i).length <= l.length
 | [],_=>Nat.le_refl _
 | _ :: _,0=>Nat.le_succ _
 | _ :: r,i + 1=>Nat.succ_le_succ (Xk r i)
theorem Xo (its:List Value):∀ (k:Nat) (acc:List Value),
  List.foldl (fun x1 x2=>x1 ++ x2) acc.toArray (List.replicate k its.toArray) = (acc ++ (List.replicate k its).flatten).toArray
 | 0,acc=>by simp
 | k + 1, acc => by
  have e:acc.toArray ++ its.toArray = (acc ++ its).toArray:=by simp
  have e2:(acc ++ its) ++ (List.replicate k its).flatten = acc ++ (List.replicate (k + 1) its).flatten:=by
   rw [List.replicate_succ,List.flatten_cons,List.append_assoc]
  rw [<- e2,<- Xo its k (acc ++ its),<- e,List.replicate_succ,List.foldl_cons]
section
variable {X:Cx} {pins:List (Addr × Obj)} {σ:St} {H:Hp} {s:Shared} {l b:Addr} {xs ys zs:List V}
theorem Inv.lset {its its':List Value} {n:Nat} {f:Array Value -> Array Value} {t':Nat} (I:Inv X pins σ H s) (hH:H l = some (.lst xs))
  (e:s.heap.get? l = some { cls:=.type "list",data:=.seq its.toArray n }) (hf:f its.toArray = its'.toArray) (hv:Vals ys its') (hz:ys.length <= sizeLine) :
  Inv X pins σ (upd H l (.lst ys)) { s with heap:=s.heap.update l (Obj.mapSeq f),toks:=t' }:=by
 have q:=PySem.IsL.update e f
 rw [hf] at q
 refine I.write (x:=l) (e:=l) (by rw [hH]; exact trivial) (.inl rfl) (fun b' u hb hu=>(Heap.get?_update_other s.heap (Obj.mapSeq f) (Ne.symm hb)).trans hu) ⟨_,q⟩ ?_
 exact ⟨hz,its',_,hv,q⟩
theorem Inv.lnew {its:List Value} {t':Nat} (I:Inv X pins σ H s) (hv:Vals ys its) (hz:ys.length <= sizeLine) :
  Inv X pins σ (upd H s.heap.objs.size (.lst ys)) { s with heap:=s.heap.push { cls:=.type "list",data:=.seq its.toArray },toks:=t' } :=
 I.laid (fun _ _ q=>Heap.get?_push_of_some _ q) (Nat.le_refl _) ⟨hz,its,0,hv,Heap.get?_push_size _ rfl⟩
theorem Inv.fresh (I:Inv X pins σ H s):H s.heap.objs.size = none:=I.hok.fresh (Nat.le_refl _)
theorem Inv.lstM (I:Inv X pins σ H s) (hH:H l = some (.lst xs)):xs.length <= sizeLine /\ ∃ (its:List Value) (n:Nat),Vals xs its /\ xs.length = its.length /\ s.heap.get? l = some { cls:=.type "list",data:=.seq its.toArray n }:=by
 obtain ⟨z,its,n,r,e⟩:=I.hok l _ hH
 exact ⟨z,its,n,r,r.length,e⟩
theorem za9 {n:Nat} (h:n <= sizeLine):Builtin.List.listTooLong n = false:=by
 unfold Builtin.List.listTooLong
 exact decide_eq_false (by lia)
end
section
variable {X:Cx}
def zj9:V -> List V -> Hp -> VK -> Prop:=fun x vs H Q=>∃ l xs y,x = .ref l /\ vs = [y] /\ H l = some (.lst xs) /\ xs.length < sizeLine /\ Q .non (upd H l (.lst (xs ++ [y])))
theorem Xe:MtM X "list.append" zj9:=by
 intro pins s σ H x vs v us Q I rx rv h
 obtain ⟨l,xs,y,rfl,rfl,hH,hz,q⟩:=h
 cases rx
 obtain ⟨u,rfl,ru⟩:=rv.one
 obtain ⟨z,its,n,r,hl,e⟩:=I.lstM hH
 refine call_meets F.slot_list_append ⟨_,e,rfl⟩ F.entry_list_append (F.args_list_append_2 _ _) (PySem.list_append l its.toArray n u (by rw [List.size_toArray]; lia)) ⟨e,?_⟩
 refine ⟨.non,_,I.lset (its':=its ++ [u]) hH e (by simp) (r.append (.cons ru .nil)) ?_,rfl,q⟩
 rw [List.length_append,List.length_singleton]
 lia
def zj8:V -> List V -> Hp -> VK -> Prop:=fun x vs H Q=>∃ l b xs zs,x = .ref l /\ vs = [.ref b] /\ H l = some (.lst xs) /\ H b = some (.lst zs) /\ xs.length + zs.length <= sizeLine /\ Q .non (upd H l (.lst (xs ++ zs)))
theorem KI:MtM X "list.extend" zj8:=by
 intro pins s σ H x vs v us Q I rx rv h
 obtain ⟨l,b,xs,zs,rfl,rfl,hH,hB,hz,q⟩:=h
 cases rx
 obtain ⟨u,rfl,ru⟩:=rv.one
 cases ru
 obtain ⟨z,its,n,r,hl,e⟩:=I.lstM hH
 obtain ⟨z2,its2,n2,r2,hl2,e2⟩:=I.lstM hB
 have hsz:its.toArray.size + its2.toArray.size <= sizeLine:=by rw [List.size_toArray,List.size_toArray]; lia
 have hlong:¬ (!its.toArray.isEmpty && Builtin.List.listTooLong (its.toArray.size + its2.toArray.size)) = true:=by
  rw [za9 hsz,Bool.and_false]
  exact Bool.false_ne_true
 refine call_meets F.slot_list_extend ⟨_,e,rfl⟩ F.entry_list_extend (F.args_list_extend_2 _ _)
  (AutoSeq1.list_extend_list_list_0 l its.toArray n b its2.toArray n2 hlong (by rw [List.size_toArray]; lia) (by lia)) ⟨e,e2,?_⟩
 refine ⟨.non,_,I.lset (its':=its ++ its2) hH e (by simp) (r.append r2) ?_,rfl,q⟩
 rw [List.length_append]
 lia
def xe4:V -> List V -> Hp -> VK -> Prop:=fun x vs H Q=>∃ l xs y,x = .ref l /\ vs = [] /\ H l = some (.lst xs) /\ xs[xs.length - 1]? = some y /\ Q y (upd H l (.lst xs.dropLast))
theorem zz3:MtM X "list.pop" xe4:=by
 intro pins s σ H x vs v us Q I rx rv h
 obtain ⟨l,xs,y,rfl,rfl,hH,hy,q⟩:=h
 cases rx
 have hus:=rv.zero
 subst hus
 obtain ⟨z,its,n,r,hl,e⟩:=I.lstM hH
 obtain ⟨u,hu,ru⟩:=r.get hy
 have hy':its.toArray[its.toArray.size - 1]? = some u:=by
  show its.toArray[its.length - 1]? = some u
  rw [<- Array.getElem?_toList,<- hl]
  exact hu
 refine call_meets F.slot_list_pop ⟨_,e,rfl⟩ F.entry_list_pop (F.args_list_pop_1 _) (MeetsSeq.list_pop_last l its.toArray n u hy' (by rw [List.size_toArray]; lia)) ⟨e,?_⟩
 refine ⟨y,_,I.lset (its':=its.dropLast) hH e ?_ r.dropLast ?_,ru,q⟩
 ·show its.toArray.eraseIdxIfInBounds (its.toArray.size - 1) = its.dropLast.toArray
  rw [List.size_toArray,List.eraseIdxIfInBounds_toArray,Ue]
 ·rw [List.length_dropLast]
  lia
def zu0:V -> List V -> Hp -> VK -> Prop:=fun x vs H Q=>∃ l xs i k y,x = .ref l /\ vs = [.int i] /\ H l = some (.lst xs) /\ -(2 ^ 63) <= i /\ i < 2 ^ 63 /\ seqIndex? i xs.length = some k /\ xs[k]? = some y /\ Q y (upd H l (.lst (xs.eraseIdx k)))
theorem zb4:MtM X "list.pop" zu0:=by
 intro pins s σ H x vs v us Q I rx rv h
 obtain ⟨l,xs,i,k,y,rfl,rfl,hH,h1,h2,hk,hy,q⟩:=h
 cases rx
 obtain ⟨u,rfl,ru⟩:=rv.one
 obtain ⟨t,rfl⟩:=ru
 obtain ⟨z,its,n,r,hl,e⟩:=I.lstM hH
 obtain ⟨w,hw,rw'⟩:=r.get hy
 refine call_meets F.slot_list_pop ⟨_,e,rfl⟩ F.entry_list_pop (F.args_list_pop_2 _ _)
  (MeetsSeq.list_pop_at l its.toArray n i t k w (fitsIndex_both h1 h2) (by rw [List.size_toArray,<- hl]; exact hk) (by rw [<- Array.getElem?_toList]; exact hw) (by rw [List.size_toArray]; lia)) ⟨e,?_⟩
 refine ⟨y,_,I.lset (its':=its.eraseIdx k) hH e ?_ (r.eraseIdx k) ?_,rw',q⟩
 ·show its.toArray.eraseIdxIfInBounds k = (its.eraseIdx k).toArray
  rw [List.eraseIdxIfInBounds_toArray]
 ·have := Xk xs k
  lia
def zW2:R2:=fun x y H Q=>∃ l b xs zs,x = .ref l /\ y = .ref b /\ H l = some (.lst xs) /\ H b = some (.lst zs) /\ xs.length + zs.length <= sizeLine /\ ∀ p,H p = none -> Q (.ref p) (upd H p (.lst (xs ++ zs)))
theorem Ko:OpR X (binaryOp .Add) zW2:=by
 intro pins s σ H x y v u Q I rx ry h
 obtain ⟨l,b,xs,zs,rfl,rfl,hH,hB,hz,q⟩:=h
 cases rx
 cases ry
 obtain ⟨z,its,n,r,hl,e⟩:=I.lstM hH
 obtain ⟨z2,its2,n2,r2,hl2,e2⟩:=I.lstM hB
 refine PySem.P.add_list e e2 ?_ (by rw [List.size_toArray,List.size_toArray]; lia)
 have ea:its.toArray ++ its2.toArray = (its ++ its2).toArray:=by simp
 rw [ea]
 exact ⟨.ref _,_,I.lnew (t':=s.toks) (r.append r2) (by rw [List.length_append]; lia),rfl,q _ I.fresh⟩
theorem KR {α:Type} (xs:List α) (k:Nat):(List.replicate k xs).flatten.length = k * xs.length:=by
 induction k with
 | zero=>simp
 | succ k ih=>rw [List.replicate_succ,List.flatten_cons,List.length_append,ih,Nat.succ_mul,Nat.add_comm]
end
section
variable {prog:Program} {w:World} {A:Around} {E:Value -> Shared -> Prop} {s:Shared}
end
section
variable {X:Cx}
end
end L2
namespace Att
open PySem PySem.W PySem.Calls PyProof.Rows
theorem jq {P:Params} {h:Heap}:∀ (ns:List Int) (vs:List Value),WellAll P h vs (ns.map WData.int) -> IntsAre vs ns:=by
 intro ns
 induction ns with
 | nil =>
  intro vs w
  rw [List.map_nil] at w
  cases w
  exact .nil
 | cons n ns ih =>
  intro vs w
  rw [List.map_cons] at w
  cases w with
  | cons a b =>
   cases a
   exact .cons _ _ (ih _ b)
theorem UM {l:OpenLaw} {n:Nat} (hn:l.most = some n) {P:Params} {h:Heap} {args:List WData} {vals:List Value}
  (hpre:l.row.toRowW.claim.pre args = true) (hwl:WellAll P h vals args) :
  ∃ a vs ns,vals = [Value.ref a] /\ args = [WData.list (ns.map WData.int)] /\ h.get? a = some { cls:=.type "list",data:=.seq vs.toArray } /\ IntsAre vs ns /\ ns.length <= n:=by
 have hsh:WShape.hasAll [] args [.list .int] = true:=(pre_splitW hpre).1
 have hc:l.pre.holds [] { args:=args } = true:=(pre_splitW hpre).2
 obtain ⟨d,r,rfl,h1,h2⟩:=hasAllW_cons hsh
 obtain rfl:=hasAllW_nil h2
 obtain ⟨xs,rfl,h3⟩:=hasW_list h1
 obtain ⟨ns,rfl⟩:=items_int h3
 have hlen:ns.length <= n:=by
  unfold OpenLaw.pre at hc
  have h4:(WTm.not (.lt (.lit (.int (n:Int))) (.len (.arg 0)))).holds [] { args:=[.list (ns.map .int)] } = true:=by
   have h4:=(holds_andW hc).1
   rw [hn] at h4
   exact h4
  have h5:=condW_of h4 (w_not (w_lt w_lit (w_len_list (w_arg rfl))))
  rw [List.length_map] at h5
  refine Nat.le_of_not_lt fun q=>?_
  have q':(n:Int) < ((ns.length:Nat):Int):=by lia
  first
   | (rw [decide_eq_true q'] at h5; exact absurd h5 (by decide))
   | (simp at h5; lia)
 cases hwl with
 | cons w1 w2 =>
  cases w2
  cases w1 with
  | list ho hall=>exact ⟨_,_,ns,rfl,rfl,ho,jq ns _ hall,hlen⟩
theorem Kd (l:OpenLaw) (args:List WData):l.row.toRowW.claim.post args (.bool true) args = true :=
 postW_of (r:=l.row.toRowW) (X:=(true == true))
  (show WShape.has [] (.bool true) .bool = true by first | rfl | decide | simp [WShape.has,WShape.arms,WShape.armsAll])
  (show (WTm.eq .res (.lit (.bool true))).value [] { args:=args,res:=some (.bool true),after:=args } = some (.bool (true == true)) from w_eq_bool (w_res rfl) w_lit) rfl
theorem attach_call {l:OpenLaw} {n:Nat} {q:Program} {loose:List Str} {XP:(Str -> Option Value) -> Heap -> Prop} {YP:World -> Heap -> Prop} {d:DefRec}
  (hn:l.most = some n) (hdf:d.params.defaults = [])
  (call : ∀ (w : World) (s₀ s₁ : Shared) (mg mb : Str -> Option Value) (fa : Addr) (o : Obj) (pm cd doc : Value) (a : Addr) (vs : List Value) (ns : List Int),
   Ground q loose [] XP w s₀ mg mb s₁.heap -> YP w s₁.heap ->
   s₁.heap.get? fa = some o -> o.data = .func (docDef d.name d.params d.body d.scope pm cd doc) -> s₁.heap.CodeRec cd d.name -> mg d.name = some (.ref fa) ->
   s₁.heap.get? a = some { cls:=.type "list",data:=.seq vs.toArray } -> IntsAre vs ns -> ns.length <= n -> s₁.gens = #[] ->
   codeAny (model l.prog w) callerA (.call (.ref fa) ⟨[.ref a],[]⟩) (fun r s'=>r = .ok (.ret (.bool true)) /\ OldK s₁.heap s'.heap /\ s'.os = s₁.os /\ AllBare s'.gens) s₁) :
  WalkO q loose XP YP l.row.toRowW d [] (fun f vs=>PySem.call f vs):=by
 intro w s₀ s₁ mg mb G Y fa o pm cd doc dV kV ho hd hcd hD hmg hg args vals as hpre hlay hrd hwl hlo
 obtain rfl:dV = .none:=Dflts.none hD hdf
 obtain rfl:kV = .none:=Dflts.noKw hD
 obtain ⟨a,vs,ns,rfl,rfl,hobj,hints,hlen⟩:=UM hn hpre hwl
 refine enter_call (codeAny_mono (call w s₀ s₁ mg mb fa o pm cd doc a vs ns G Y ho (fd_plain hd) hcd hmg hobj hints hlen hg) fun r s' hq=>?_)
 obtain ⟨rfl,h2,h3,h4⟩:=hq
 exact ⟨.inl ⟨.bool true,.bool true,[],rfl,fun _=>rfl,.bool true,Kd l _,fun _=>⟨List.Pairwise.nil,fun _ hm=>(nomatch hm)⟩⟩,h2,h3,h4⟩
section
variable {prog:Program} {w:World} {A:Around} {E:Value -> Shared -> Prop} {s:Shared} {K:Frag}
end
end Att
namespace L2
open PySem PySem.Spec PyProof.Rows
theorem Yp:∀ {vs:List Value} {ns:List Int},IntsAre vs ns -> Vals (ns.map V.int) vs
 | _,_,.nil=>.nil
 | _,_,.cons n t h=>.cons ⟨t,rfl⟩ (Yp h)
end L2
namespace L2
open PySem PySem.Spec PyProof.Rows
end L2
namespace L2
open PySem PySem.Spec PyProof.Rows
def zq (s:Stmt):Arguments:=match s with
 | .FunctionDef _ a _ _ _ _ _ _ _ _=>a
 | _=>{ posonlyargs:=[],args:=[],vararg:=none,kwonlyargs:=[],kw_defaults:=[],kwarg:=none,defaults:=[] }
def zo (s:Stmt):List Stmt:=match s with
 | .FunctionDef _ _ b _ _ _ _ _ _ _=>b
 | _=>[]
def zg (s:Stmt):Scope:=match s with
 | .FunctionDef _ _ _ _ _ _ sc _ _ _=>sc
 | _=>{ kind:=.function,names:=[],isGenerator:=false,isCoroutine:=false }
abbrev CX0:CXT:=fun _ _ _ _ _ _=>False
abbrev E0:XK:=fun _ _ _=>False
theorem zx0 {X:Cx}:Qc CX0 X E0:=fun _ _ _ _ _ _ _ h=>h.elim
structure Fun (K:PySem.W.Frag) (x qual:Str) (st:Stmt) (f:Addr) (fd:FuncData):Prop where
 ex:∃ (oc:Value) (od:Option Addr) (kV doc pm:Value) (an:Option Addr) (cdv ct:Value) (osl:Array (Option Value)),
  fd = PySem.W.fnOf x qual (zq st) (zo st) (zg st) .none kV doc pm an cdv ct /\ K.lookup f = some ⟨oc,od,.func fd,osl⟩ /\ PySem.W.codeIn K cdv qual = true
 kp:PySem.W.keepIn K (.ref f) = true
section
variable {P:Program} {w:World} {K:PySem.W.Frag} {mg:Str -> Option Value} {base:Heap}
theorem Fun.ok {x qual:Str} {st:Stmt} {f:Addr} {fd:FuncData} {N ps:List Str} {k:Nat} {sp:Sp} (F:Fun K x qual st f fd) (S:FnScope N ps (zg st)) (len:∀ vs H Q E,sp vs H Q E -> vs.length = ps.length)
  (hbody : ∀ (cdv : Value) (A : Around) (outer : List Env) (s : Shared) (H : Hp) (vs : List V) (Q : VK) (E : XK), Room k (A.deeper (envOfC qual (zg st) s.heap.objs.size f cdv)) -> sp vs H Q E ->
   ∃ t,PSs (zd2 CX0 P w K mg base N qual (zg st) f cdv A outer s H E).nox (zo st) t /\ t { nx:=fun _ H'=>Q .non H',rt:=Q } (kF N vs) H):FnOk P w K mg base CX0 (k + 1) f fd ps sp:=by
 obtain ⟨oc,od,kV,doc,pm,an,cdv,ct,osl,rfl,lk,hcd⟩:=F.ex
 refine zB9 lk hcd S len fun A outer s H vs Q E hr hsp=>?_
 obtain ⟨t,h,q⟩:=hbody cdv A outer s H vs Q E hr hsp
 exact ⟨t,h.nox,q⟩
theorem Fun.binds {x qual:Str} {st:Stmt} {f:Addr} {fd:FuncData} {ps:List Str} (F:Fun K x qual st f fd)
  (h:∀ (kV doc pm:Value) (an:Option Addr) (cdv ct:Value) (us:List Value),us.length = ps.length -> bindArgs (PySem.W.fnOf x qual (zq st) (zo st) (zg st) .none kV doc pm an cdv ct) ⟨us,[]⟩ = pure (ps.zip us)):Binds K fd ps []:=by
 obtain ⟨oc,od,kV,doc,pm,an,cdv,ct,osl,rfl,lk,hcd⟩:=F.ex
 exact .all (h kV doc pm an cdv ct)
theorem zJ {x qual:Str} {st:Stmt} {f:Addr} {oc:Value} {od an:Option Addr} {osl:Array (Option Value)} {kV doc pm cdv ct:Value} (l:K.lookup f = some ⟨oc,od,.func (PySem.W.fnOf x qual (zq st) (zo st) (zg st) .none kV doc pm an cdv ct),osl⟩)
  (c:PySem.W.codeIn K cdv qual = true) (k:PySem.W.keepIn K (.ref f) = true):Fun K x qual st f (PySem.W.fnOf x qual (zq st) (zo st) (zg st) .none kV doc pm an cdv ct):=⟨⟨oc,od,kV,doc,pm,an,cdv,ct,osl,rfl,l,c⟩,k⟩
end
section
variable {X:Cx}
end
end L2
set_option maxRecDepth 100000
namespace L2
open PySem
def yZ (env:Env):List (Str × NameKind) -> List (Str × Addr) -> List (Str × Addr)
 | [],acc=>acc
 | y :: r,acc=>if y.2 == .free then yZ env r ((y.1,(env.cells.lookup y.1).getD 0) :: acc) else yZ env r acc
theorem ym {env:Env}:∀ (l:List (Str × NameKind)) (acc:List (Str × Addr)),(∀ y ∈ l,y.2 = .free -> ∃ c,env.cells.lookup y.1 = some c) -> (∀ x c,acc.lookup x = some c -> env.cells.lookup x = some c) ->
  ∀ x c,(yZ env l acc).lookup x = some c -> env.cells.lookup x = some c
 | [],acc,_,ha,x,c,h=>ha x c h
 | y :: r, acc, hf, ha, x, c, h => by
  unfold yZ at h
  split at h
  ·rename_i hk
   have hk':y.2 = .free:=by simpa using hk
   obtain ⟨d,hd⟩:=hf y List.mem_cons_self hk'
   refine ym r _ (fun z hz=>hf z (List.mem_cons_of_mem _ hz)) (fun z e hz=>?_) x c h
   rw [List.lookup_cons] at hz
   cases hb:z == y.1 with
   | true =>
    rw [hb,hd] at hz
    have e2:z = y.1:=by simpa using hb
    have e3:d = e:=by simpa using hz
    rw [e2,hd,e3]
   | false=>rw [hb] at hz; exact ha z e hz
  ·exact ym r acc (fun z hz=>hf z (List.mem_cons_of_mem _ hz)) ha x c h
theorem qc {env:Env} {x:Str}:∀ (l:List (Str × NameKind)) (acc:List (Str × Addr)),(∃ c,acc.lookup x = some c) -> ∃ c,(yZ env l acc).lookup x = some c
 | [],acc,h=>h
 | y :: r, acc, h => by
  unfold yZ
  split
  ·refine qc r _ ?_
   rw [List.lookup_cons]
   cases hb:x == y.1 with
   | true=>exact ⟨_,rfl⟩
   | false=>exact h
  ·exact qc r acc h
theorem vo {env:Env} {y:Str × NameKind} (hk:y.2 = .free):∀ (l:List (Str × NameKind)) (acc:List (Str × Addr)),y ∈ l -> ∃ c,(yZ env l acc).lookup y.1 = some c
 | [],acc,h=>by simp at h
 | z :: r, acc, h => by
  unfold yZ
  rcases List.mem_cons.mp h with rfl | h
  ·rw [if_pos (by rw [hk]; rfl)]
   exact qc r _ ⟨_,List.lookup_cons_self⟩
  ·split
   ·exact vo hk r _ h
   ·exact vo hk r _ h
theorem Zf {env:Env} (f:Str × NameKind -> List (Str × Addr) -> Sem (ForInStep (List (Str × Addr))))
  (hf:∀ y acc,f y acc = if y.2 == .free then (cellOf env y.1 >>= fun c=>pure (.yield ((y.1,c) :: acc))) else pure (.yield acc)) :
  ∀ (l:List (Str × NameKind)) (acc:List (Str × Addr)),(∀ y ∈ l,y.2 = .free -> ∃ c,env.cells.lookup y.1 = some c) -> forIn l acc f = (pure (yZ env l acc):Sem _)
 | [],acc,_=>by rw [List.forIn_nil]; rfl
 | y :: r, acc, h => by
  have ih:=fun acc=>Zf f hf r acc fun z hz=>h z (List.mem_cons_of_mem _ hz)
  rw [List.forIn_cons,hf]
  unfold yZ
  split
  ·rename_i hk
   obtain ⟨c,hc⟩:=h y List.mem_cons_self (by simpa using hk)
   have e:cellOf env y.1 = pure c:=by unfold cellOf; rw [hc]
   rw [e,hc]
   exact ih _
  ·exact ih _
theorem ZU {scope:Scope} {env:Env} (h:∀ y ∈ scope.names,y.2 = .free -> ∃ c,env.cells.lookup y.1 = some c):closureFor scope env = pure (yZ env scope.names []):=by
 have e:=Zf (env:=env) (fun x cs=>match x with | (name,kind)=>if (kind == NameKind.free) = true then (do let c <- cellOf env name; pure (.yield ((name,c) :: cs))) else pure (.yield cs)) (fun y acc=>rfl) scope.names [] h
 have e2:closureFor scope env = ((forIn scope.names [] (fun x cs=>match x with | (name,kind)=>if (kind == NameKind.free) = true then (do let c <- cellOf env name; pure (ForInStep.yield ((name,c) :: cs))) else pure (ForInStep.yield cs)):Sem (List (Str × Addr))) >>= fun cs=>pure cs):=rfl
 rw [e2,e]
 rfl
theorem qh {env:Env} {x:Str}:∀ (l:List (Str × NameKind)),
  (l.map fun (n, k) => if (k == NameKind.free && env.scope.kind == .function && env.kindOf n == some .cell) then (n, NameKind.cell) else (n, k)).lookup x =
   (l.lookup x).map fun k=>if (k == NameKind.free && env.scope.kind == .function && env.kindOf x == some .cell) then NameKind.cell else k
 | []=>rfl
 | (n, k) :: r => by
  have ih:=@qh env x r
  rw [List.map_cons]
  by_cases e:x = n
  ·subst e
   dsimp only
   split
   ·rename_i h; rw [List.lookup_cons_self,List.lookup_cons_self,Option.map_some,if_pos h]
   ·rename_i h; rw [List.lookup_cons_self,List.lookup_cons_self,Option.map_some,if_neg h]
  ·have e' : (x == n) = false := by simpa using e
   dsimp only
   split
   ·rw [List.lookup_cons,e',List.lookup_cons,e']; exact ih
   ·rw [List.lookup_cons,e',List.lookup_cons,e']; exact ih
theorem JN:∀ (l:List (Str × NameKind)) (h:Heap) (acc:List (Str × Addr)) (x:Str) (c:Addr),(cellsFrom h.objs.size l acc).lookup x = some c ->
  ((pushCells h l).IsCell c none /\ h.objs.size <= c /\ (x,NameKind.cell) ∈ l) \/ acc.lookup x = some c
 | [],_,_,_,_,e=>.inr e
 | (n, k) :: r, h, acc, x, c, e => by
  unfold cellsFrom at e
  unfold pushCells
  split at e
  ·rename_i hk
   have hk':k = .cell:=by simpa using hk
   rw [if_pos hk]
   have hz:(h.push { cls:=.type "cell",data:=.cell none }).objs.size = h.objs.size + 1:=Heap.size_push ..
   rw [<- hz] at e
   rcases JN r (h.push { cls:=.type "cell",data:=.cell none }) _ x c e with ⟨a,b,d⟩ | q
   ·exact .inl ⟨a,by rw [hz] at b; lia,List.mem_cons_of_mem _ d⟩
   ·rw [List.lookup_cons] at q
    cases hb:x == n with
    | false=>rw [hb] at q; exact .inr q
    | true =>
     rw [hb] at q
     have e1:h.objs.size = c:=by simpa using q
     have e2:x = n:=by simpa using hb
     subst e1 e2
     refine .inl ⟨?_,Nat.le_refl _,by rw [hk']; exact List.mem_cons_self⟩
     exact ⟨_,pushCells_keeps _ _ _ _ (Heap.get?_push_size _ rfl),rfl⟩
  ·rename_i hk
   rw [if_neg hk]
   rcases JN r h acc x c e with ⟨a,b,d⟩ | q
   ·exact .inl ⟨a,b,List.mem_cons_of_mem _ d⟩
   ·exact .inr q
theorem JL:∀ (l:List (Str × NameKind)) (n:Nat) (acc:List (Str × Addr)),(∀ x y c,acc.lookup x = some c -> acc.lookup y = some c -> x = y) -> (∀ x c,acc.lookup x = some c -> c < n) ->
  ∀ x y c,(cellsFrom n l acc).lookup x = some c -> (cellsFrom n l acc).lookup y = some c -> x = y
 | [],_,_,hi,_,x,y,c,e,e'=>hi x y c e e'
 | (m, k) :: r, n, acc, hi, hl, x, y, c, e, e' => by
  unfold cellsFrom at e e'
  have one:∀ z d,((m,n) :: acc).lookup z = some d -> (z = m /\ d = n) \/ acc.lookup z = some d:=fun z d q=>by
   rw [List.lookup_cons] at q
   cases hb:z == m with
   | true=>rw [hb] at q; exact .inl ⟨by simpa using hb,by simpa using q.symm⟩
   | false=>rw [hb] at q; exact .inr q
  split at e
  ·rename_i hk
   rw [if_pos hk] at e'
   refine JL r (n + 1) ((m,n) :: acc) (fun a b d q q'=>?_) (fun a d q=>?_) x y c e e'
   ·rcases one a d q with ⟨a1, a2⟩ | a1 <;> rcases one b d q' with ⟨b1, b2⟩ | b1
    ·rw [a1,b1]
    ·exact absurd (hl b d b1) (by rw [a2]; exact Nat.lt_irrefl _)
    ·exact absurd (hl a d a1) (by rw [b2]; exact Nat.lt_irrefl _)
    ·exact hi a b d a1 b1
   ·rcases one a d q with ⟨_, a2⟩ | a1
    ·rw [a2]; exact Nat.lt_succ_self _
    ·exact Nat.lt_succ_of_lt (hl a d a1)
  ·rename_i hk
   rw [if_neg hk] at e'
   exact JL r n acc hi hl x y c e e'
theorem qd {x:Str}:∀ (l:List (Str × NameKind)) (n:Nat) (acc:List (Str × Addr)),(∃ c,acc.lookup x = some c) -> ∃ c,(cellsFrom n l acc).lookup x = some c
 | [],_,_,h=>h
 | (m, k) :: r, n, acc, h => by
  unfold cellsFrom
  split
  ·refine qd r _ _ ?_
   rw [List.lookup_cons]
   cases hb:x == m with
   | true=>exact ⟨_,rfl⟩
   | false=>exact h
  ·exact qd r _ _ h
theorem JM {x:Str}:∀ (l:List (Str × NameKind)) (n:Nat) (acc:List (Str × Addr)),(x,NameKind.cell) ∈ l -> ∃ c,(cellsFrom n l acc).lookup x = some c
 | [],_,_,h=>by simp at h
 | (m, k) :: r, n, acc, h => by
  unfold cellsFrom
  rcases List.mem_cons.mp h with e | h
  ·cases e
   exact qd r _ _ ⟨_,List.lookup_cons_self⟩
  ·split
   ·exact JM r _ _ h
   ·exact JM r _ _ h
theorem zp1 {x : Str} : ∀ (l : List (Str × NameKind)) (n : Nat) (acc : List (Str × Addr)) (lo : Nat), lo <= n -> ((x, NameKind.cell) ∈ l \/ ∀ c, acc.lookup x = some c -> lo <= c) -> ∀ c, (cellsFrom n l acc).lookup x = some c -> lo <= c
  | [], n, acc, lo, hn, h, c, e => by
    rcases h with h | h
    · simp at h
    · exact h c e
  | (m, k) :: r, n, acc, lo, hn, h, c, e => by
    unfold cellsFrom at e
    split at e
    · rename_i hk
      refine zp1 r (n + 1) ((m,n) :: acc) lo (by lia) ?_ c e
      rcases h with h | h
      · rcases List.mem_cons.mp h with z | z
        · cases z
          refine .inr fun d q=>?_
          rw [List.lookup_cons_self] at q
          have:n = d:=by simpa using q
          lia
        · exact .inl z
      · refine .inr fun d q => ?_
        rw [List.lookup_cons] at q
        cases hb:x == m with
        | true => rw [hb] at q; have : n = d := by simpa using q;
                  lia
        | false=>rw [hb] at q; exact h d q
    · rename_i hk
      refine zp1 r n acc lo hn ?_ c e
      rcases h with h | h
      · rcases List.mem_cons.mp h with z | z
        · cases z; exact absurd rfl hk
        · exact .inl z
      · exact .inr h
section
variable {M:Model} {A:Around} {E:Value -> Shared -> Prop} {s:Shared}
theorem jc {scope:Scope} {env:Env} {cl:List (Str × Addr)} {Q:Env -> Shared -> Prop}
  (h : Q (newEnv scope s.heap.objs.size env.globals (cellsFrom (s.heap.objs.size + 1) scope.names cl) env.qual none .none (some env) builtinsNs)
   { s with heap:=pushCells (s.heap.push { cls:=.type "dict",data:=.dict #[] }) scope.names }) :
  wpAny M A (newFunctionEnv scope env.globals cl [] env.qual none .none (some env)) Q E s:=by
 simp only [newFunctionEnv,Option.isSome_some,if_true]
 refine wpAny_bind (wpAny_alloc ?_)
 refine wpAny_bind (wpAny_layCells _ (fun name kind cells=>?_) _ _ _ _ ?_)
 ·cases hkc:kind == NameKind.cell <;> simp [hkc]
 ·rw [List.forIn_nil]
  refine wpAny_bind (wpAny_pure (wpAny_pure ?_))
  have hz:({ s with heap:=s.heap.push { cls:=.type "dict",data:=.dict #[] } }:Shared).heap.objs.size = s.heap.objs.size + 1:=Heap.size_push ..
  rw [hz]
  exact h
end
abbrev Zh (ifs:List Expr) (env:Env):Sem Bool:=forIn ifs true fun c r=>if r = true then do let ok <- isTrue c env (eval c env); pure (ForInStep.yield ok) else pure (ForInStep.yield r)
section
variable {prog:Program} {w:World} {A:Around} {R:Result -> Shared -> Prop} {s:Shared}
theorem JH {elt target iter:Expr} {ifs:List Expr} {scope:Scope} {pos:Pos} {it acc:Value} {env:Env} (J:Nat -> Shared -> Prop)
  (turn : ∀ n s, J n s -> wpAny (model prog w) A (pyNext it) (fun r s1 => match r with
   | none=>R (.ok .next) s1
   | some v => wpAny (model prog w) A (letOwnedTupleGo target it v) (fun _ s2 => wpAny (model prog w) A (assign target env v) (fun _ s3 => wpAny (model prog w) A (Zh ifs env) (fun ok s4 =>
     if ok = true then wpAny (model prog w) A (eval elt env) (fun x s5=>wpAny (model prog w) A (call (.builtin "list.append") [acc,x]) (fun _ s6=>∃ m,m < n /\ J m s6) (fun _ _=>False) s5) (fun _ _=>False) s4
     else ∃ m,m < n /\ J m s4) (fun _ _=>False) s3) (fun _ _=>False) s2) (fun _ _=>False) s1) (fun _ _=>False) s)
  (n:Nat) (h:J n s):codeAny (model prog w) A (.compLoop (.ListComp elt [⟨target,iter,ifs,0⟩] scope pos) 0 it acc env) R s:=by
 refine codeAny_loop rfl J (fun n s hJ=>?_) n h
 show wpAny _ A ((compTurn (.ListComp elt [⟨target,iter,ifs,0⟩] scope pos) 0 it acc env).onRaise (fun x=>do noteFrame x env; theTreesLotGoes x)) _ _ s
 refine wpAny_noted ?_
 rw [compTurn_list]
 have up:∀ {α:Type} {t:Sem α} {Q Q':α -> Shared -> Prop} {E:Value -> Shared -> Prop} {s:Shared},wpAny (model prog w) A t Q (fun _ _=>False) s -> (∀ a s,Q a s -> Q' a s) -> wpAny (model prog w) A t Q' E s :=
  fun h f=>wpAny_mono h f fun _ _ z=>False.elim z
 refine wpAny_bind (wpAny_standAt (wpAny_bind (up (turn n s hJ) fun r s1 h1=>?_)))
 cases r with
 | none=>exact wpAny_pure h1
 | some v =>
  refine wpAny_bind (up h1 fun _ s2 h2=>?_)
  refine wpAny_bind (up h2 fun _ s3 h3=>?_)
  refine wpAny_bind (up h3 fun ok s4 h4=>?_)
  cases ok with
  | false=>exact wpAny_pure ⟨rfl,h4⟩
  | true=>exact wpAny_bind (wpAny_bind (up h4 fun x s5 h5=>wpAny_bind (up h5 fun _ s6 h6=>wpAny_pure (wpAny_pure ⟨rfl,h6⟩))))
end
end L2
set_option maxRecDepth 100000
namespace L2
open PySem
def Za (b:Bool):String:=if b then "list_iterator" else "tuple_iterator"
def SeqIs (b:Bool) (h:Heap) (l:Addr) (xs:Array Value):Prop:=match b with | true=>h.IsList l xs | false=>h.IsTuple l xs
def IterIs (b:Bool) (h:Heap) (i l:Addr) (k:Nat):Prop:=match b with | true=>h.IsListIter i l k | false=>h.IsTupleIter i l k
theorem SeqIs.at {b:Bool} {h h':Heap} {l:Addr} {xs:Array Value} (x:SeqIs b h l xs) (hk:∀ o,h.get? l = some o -> h'.get? l = some o):SeqIs b h' l xs:=by
 cases b <;> (obtain ⟨o,e,r⟩:=x; exact ⟨o,hk o e,r⟩)
theorem IterIs.at {b:Bool} {h h':Heap} {i l:Addr} {k:Nat} (x:IterIs b h i l k) (hk:∀ o,h.get? i = some o -> h'.get? i = some o):IterIs b h' i l k:=by
 cases b <;> (obtain ⟨o,e,r⟩:=x; exact ⟨o,hk o e,r⟩)
theorem IterIs.obj {b:Bool} {h:Heap} {i l:Addr} {k:Nat} (x:IterIs b h i l k):∃ o,h.get? i = some o /\ o.cls = .type (Za b) /\ o.data = .fields #[.ref l,.int k 0]:=by
 cases b <;> exact x
theorem SeqIs.ne {b c:Bool} {h:Heap} {l i m:Addr} {k:Nat} {xs:Array Value} (x:SeqIs b h l xs) (y:IterIs c h i m k):l ≠ i:=by
 rintro rfl
 obtain ⟨o,e,hc,_⟩:=y.obj
 cases b <;> (obtain ⟨o',e',hc',_⟩:=x; rw [e] at e'; cases e'; rw [hc] at hc'; cases c <;> exact absurd (Value.type.inj hc') (by decide))
section
variable {prog:Program} {w:World} {A:Around} {E:Value -> Shared -> Prop} {s:Shared}
theorem jS {b:Bool} {l:Addr} {xs:Array Value} {Q:Value -> Shared -> Prop} (hl:SeqIs b s.heap l xs)
  (hQ:Q (.ref s.heap.objs.size) { s with heap:=s.heap.push { cls:=.type (Za b),data:=.fields #[.ref l,.int 0 0] } }):wpAny (model prog w) A (pyIter (.ref l)) Q E s:=by
 cases b with
 | true=>exact wpAny_pyIter_list hl hQ
 | false=>exact wpAny_pyIter_tuple hl hQ
theorem VW {it l:Addr} {i:Nat} {items:Array Value} {x:Value} {Q:Value -> Shared -> Prop} (hit:s.heap.IsTupleIter it l i) (hl:s.heap.IsTuple l items) (hx:items[i]? = some x)
  (hQ:∀ h',h'.IsTupleIter it l (i + 1) -> Heap.SameBut it s.heap h' -> Q x { s with heap:=h' }):wpAny (model prog w) A (Builtin.SmallTypes.nextOf (.ref it)) Q E s:=by
 obtain ⟨o,ho,hc,hd⟩:=id hit
 obtain ⟨ol,hol,_,nl,hdl⟩:=hl
 unfold Builtin.SmallTypes.nextOf
 refine wpAny_bind (wpAny_callSpecial?_slot (name:=Str.ofString "__next__") hit.typeIs F.slot_tuple_iterator_next (wpAny_call_entry F.slot_tuple_iterator_next hit.typeIs F.entry_tuple_iterator_next ?_ (F.args_tuple_iterator_next_1 _)))
 show wpAny _ A.in1 (field (.ref it) 0 >>= _) _ _ s
 refine wpAny_bind (wpAny_field (x:=.ref l) ho hd rfl ?_)
 show wpAny _ A.in1 (if (Value.ref l == Value.none) = true then _ else _) _ _ s
 have nn:¬ ((Value.ref l == Value.none) = true):=Bool.false_ne_true
 rw [if_neg nn]
 show wpAny _ A.in1 (field (.ref it) 1 >>= _) _ _ s
 refine wpAny_bind (wpAny_field (x:=.int i 0) ho hd rfl ?_)
 show wpAny _ A.in1 (seqItems? (.ref l) >>= _) _ _ s
 refine wpAny_bind (wpAny_seqItems hol hdl ?_)
 simp only [hx,Int.toNat_natCast]
 refine wpAny_bind (wpAny_setField ho hd (by simp) (wpAny_pure ⟨x,rfl,wpAny_pure (hQ _ ⟨_,Heap.get?_update_self _ ho (Obj.isFreed_of_fields (Obj.data_mapFields hd _)),(Obj.cls_mapFields ..).trans hc,?_⟩ (Heap.SameBut.update ..))⟩))
 rw [Obj.data_mapFields hd]
 simp [rawInt]
theorem jI {it l:Addr} {i:Nat} {items:Array Value} {Q:Value -> Shared -> Prop} (hh:A.handled = none) (hit:s.heap.IsTupleIter it l i) (hl:s.heap.IsTuple l items) (hx:items[i]? = none)
  (hE:∀ h' e,Heap.ExtBut it s.heap h' -> (∃ o,h'.get? e = some o /\ o.cls = .type "StopIteration") -> E (.ref e) { s with heap:=h' }):wpAny (model prog w) A (Builtin.SmallTypes.nextOf (.ref it)) Q E s:=by
 obtain ⟨o,ho,hc,hd⟩:=id hit
 obtain ⟨ol,hol,_,nl,hdl⟩:=hl
 unfold Builtin.SmallTypes.nextOf
 refine wpAny_bind (wpAny_callSpecial?_slot (name:=Str.ofString "__next__") hit.typeIs F.slot_tuple_iterator_next (wpAny_call_entry F.slot_tuple_iterator_next hit.typeIs F.entry_tuple_iterator_next ?_ (F.args_tuple_iterator_next_1 _)))
 show wpAny _ A.in1 (field (.ref it) 0 >>= _) _ _ s
 refine wpAny_bind (wpAny_field (x:=.ref l) ho hd rfl ?_)
 show wpAny _ A.in1 (if (Value.ref l == Value.none) = true then _ else _) _ _ s
 have nn:¬ ((Value.ref l == Value.none) = true):=Bool.false_ne_true
 rw [if_neg nn]
 show wpAny _ A.in1 (field (.ref it) 1 >>= _) _ _ s
 refine wpAny_bind (wpAny_field (x:=.int i 0) ho hd rfl ?_)
 show wpAny _ A.in1 (seqItems? (.ref l) >>= _) _ _ s
 refine wpAny_bind (wpAny_seqItems hol hdl ?_)
 simp only [hx,Int.toNat_natCast]
 refine wpAny_bind (wpAny_rule (wpAny_bind (wpAny_setField ho hd (by simp) ?_)))
 show wpAny _ A.in1 (newExc (.type "StopIteration") [] >>= _) _ _ _
 refine wpAny_bind ?_
 simp only [newExc,newTuple]
 refine wpAny_bind (wpAny_newObj_type ?_ (by size_fits))
 refine wpAny_bind (m:=firstArgMember _ _) (wpAny_of_eq (a:=Value.none) (by simp only [firstArgMember]; rfl) ?_)
 refine wpAny_newObj_type ?_ (by size_fits)
 simp only [raiseNew]
 refine wpAny_bind (wpAny_handled ?_)
 rw [show A.in1.handled = none from hh]
 refine wpAny_bind (wpAny_pure (wpAny_throw ?_))
 exact hE _ _ (((Heap.SameBut.update ..).extBut.push _).push _) ⟨_,Heap.get?_push_size _ rfl,rfl⟩
theorem kT {b:Bool} {it l:Addr} {i:Nat} {items:Array Value} {x:Value} {Q:Value -> Shared -> Prop} (hit:IterIs b s.heap it l i) (hl:SeqIs b s.heap l items) (hx:items[i]? = some x)
  (hQ:∀ h',IterIs b h' it l (i + 1) -> Heap.SameBut it s.heap h' -> Q x { s with heap:=h' }):wpAny (model prog w) A (Builtin.SmallTypes.nextOf (.ref it)) Q E s:=by
 cases b with
 | true=>exact wpAny_nextOf_list_item hit hl hx hQ
 | false=>exact VW hit hl hx hQ
theorem vN {b:Bool} {it l:Addr} {i:Nat} {items:Array Value} {Q:Value -> Shared -> Prop} (hh:A.handled = none) (hit:IterIs b s.heap it l i) (hl:SeqIs b s.heap l items) (hx:items[i]? = none)
  (hE:∀ h' e,Heap.ExtBut it s.heap h' -> (∃ o,h'.get? e = some o /\ o.cls = .type "StopIteration") -> E (.ref e) { s with heap:=h' }):wpAny (model prog w) A (Builtin.SmallTypes.nextOf (.ref it)) Q E s:=by
 cases b with
 | true=>exact wpAny_nextOf_list_end hh hit hl hx hE
 | false=>exact jI hh hit hl hx hE
structure ZApart (z ti to i1 i2:Addr):Prop where
 a1:ti ≠ z
 a2:to ≠ z
 a3:i1 ≠ z
 a4:i2 ≠ z
 a5:ti ≠ to
 a6:ti ≠ i1
 a7:ti ≠ i2
 a8:to ≠ i1
 a9:to ≠ i2
 a10:i1 ≠ i2
structure ZSt (b c:Bool) (z ti to i1 i2 l1 l2:Addr) (k:Nat) (h:Heap):Prop where
 z:IsZip h z ti to .none
 ti:IsPair h ti (.ref i1) (.ref i2)
 to:∃ u v,IsPair h to u v
 i1:IterIs b h i1 l1 k
 i2:IterIs c h i2 l2 k
structure ZMid (b c:Bool) (z ti to i1 i2 l1 l2:Addr) (k:Nat) (T:Addr) (h:Heap):Prop where
 z:IsZip h z ti to (rawInt T)
 ti:IsPair h ti (.ref i1) (.ref i2)
 to:∃ u v,IsPair h to u v
 i1:IterIs b h i1 l1 (k + 1)
 i2:IterIs c h i2 l2 (k + 1)
theorem ZSt.apartL {b c d:Bool} {z ti to i1 i2 l1 l2 l:Addr} {k:Nat} {h:Heap} {xs:Array Value} (x:ZSt b c z ti to i1 i2 l1 l2 k h) (hl:SeqIs d h l xs) (hto:l ≠ to):l ≠ z /\ l ≠ i1 /\ l ≠ i2:=by
 refine ⟨?_,hl.ne x.i1,hl.ne x.i2⟩
 rintro rfl
 have e:=x.z
 cases d <;> (obtain ⟨o',e',hc',_⟩:=hl; rw [e] at e'; cases e'; exact absurd (Value.type.inj hc') (by decide))
theorem Qo {b c:Bool} {z ti to i1 i2 l1 l2:Addr} {k:Nat} {xs ys:Array Value} {x y:Value} {Q:Value -> Shared -> Prop} (D:ZApart z ti to i1 i2) (S:ZSt b c z ti to i1 i2 l1 l2 k s.heap)
  (hl1:SeqIs b s.heap l1 xs) (hl2:SeqIs c s.heap l2 ys) (n1:l1 ≠ to) (n2:l2 ≠ to) (hx:xs[k]? = some x) (hy:ys[k]? = some y)
  (hQ:∀ h',ZMid b c z ti to i1 i2 l1 l2 k s.heap.objs.size h' -> IsPair h' s.heap.objs.size x y -> (∀ d o,d ≠ z -> d ≠ to -> d ≠ i1 -> d ≠ i2 -> s.heap.get? d = some o -> h'.get? d = some o) -> Q (.ref s.heap.objs.size) { s with heap:=h' }) :
  wpAny (model prog w) A (Builtin.«zip.__next__» ⟨[.ref z],[]⟩) (fun fin s'=>∃ v,fin = .done (.ret v) /\ Q v s') E s:=by
 obtain ⟨m1,m2,m3⟩:=S.apartL hl1 n1
 obtain ⟨m4,m5,m6⟩:=S.apartL hl2 n2
 obtain ⟨hz,hTI,⟨u,v,hTO⟩,h1,h2⟩:=S
 show wpAny _ A (field (.ref z) 2 >>= _) _ _ _
 refine wpAny_bind (wpAny_field (x:=.bool false) hz rfl rfl ?_)
 show wpAny _ A (field (.ref z) 3 >>= _) _ _ _
 refine wpAny_bind (wpAny_field (x:=.ref ti) hz rfl rfl ?_)
 refine wpAny_bind (wpAny_seqItems hTI rfl ?_)
 show wpAny _ A (Builtin.SmallTypes.ownedTupleIsFree (.ref z) >>= _) _ _ _
 refine wpAny_bind ?_
 unfold Builtin.SmallTypes.ownedTupleIsFree
 refine wpAny_bind (wpAny_field (x:=.none) hz rfl rfl (wpAny_pure ?_))
 simp only [if_true]
 refine wpAny_bind (wpAny_rule ?_)
 refine wpAny_bind (wpAny_field (x:=.ref to) hz rfl rfl ?_)
 refine wpAny_bind (wpAny_setField_rec hz (by simp) fun g1 hz1 s1=>?_)
 replace hz1:IsZip g1 z ti to .ellipsis:=hz1
 refine wpAny_bind ?_
 simp only [List.forIn_cons,List.forIn_nil,List.zipIdx_cons,List.zipIdx_nil]
 refine wpAny_bind (wpAny_bind (wpAny_onRaise ?_))
 show wpAny _ A (Builtin.SmallTypes.nextOf (.ref i1) >>= _) _ _ _
 refine wpAny_bind (kT (h1.at fun o e=>s1.extBut _ _ D.a3 e) (hl1.at fun o e=>s1.extBut _ _ m1 e) hx fun g2 k1 s2=>wpAny_pure ?_)
 have hTO2:IsPair g2 to u v:=s2.extBut _ _ D.a8 (s1.extBut _ _ D.a2 hTO)
 refine wpAny_bind (wpAny_seqItems hTO2 rfl ?_)
 refine wpAny_bind (wpAny_updateSeq_pair hTO2 fun g3 hTO3 s3=>?_)
 replace hTO3:IsPair g3 to x v:=hTO3
 refine wpAny_bind (wpAny_letGo (wpAny_pure ?_))
 refine wpAny_bind (wpAny_bind (wpAny_onRaise ?_))
 show wpAny _ A (Builtin.SmallTypes.nextOf (.ref i2) >>= _) _ _ _
 refine wpAny_bind (kT (h2.at fun o e=>s3.extBut _ _ D.a9.symm (s2.extBut _ _ D.a10.symm (s1.extBut _ _ D.a4 e))) (hl2.at fun o e=>s3.extBut _ _ n2 (s2.extBut _ _ m5 (s1.extBut _ _ m4 e))) hy fun g4 k2 s4=>wpAny_pure ?_)
 have hTO4:IsPair g4 to x v:=s4.extBut _ _ D.a9 hTO3
 refine wpAny_bind (wpAny_seqItems hTO4 rfl ?_)
 refine wpAny_bind (wpAny_updateSeq_pair hTO4 fun g5 hTO5 s5=>?_)
 replace hTO5:IsPair g5 to x y:=hTO5
 refine wpAny_bind (wpAny_letGo (wpAny_pure (wpAny_pure ?_)))
 refine wpAny_bind (wpAny_seqItems hTO5 rfl ?_)
 refine wpAny_bind (wpAny_newTuple ?_)
 have sz:g5.objs.size = s.heap.objs.size:=by rw [s5.1,s4.1,s3.1,s2.1,s1.1]
 have z5:IsZip g5 z ti to .ellipsis:=s5.extBut _ _ D.a2.symm (s4.extBut _ _ D.a4.symm (s3.extBut _ _ D.a2.symm (s2.extBut _ _ D.a3.symm hz1)))
 have kp:∀ d o,d ≠ z -> d ≠ to -> d ≠ i1 -> d ≠ i2 -> s.heap.get? d = some o -> g5.get? d = some o:=fun d o d1 d2 d3 d4 e=>s5.extBut _ _ d2 (s4.extBut _ _ d4 (s3.extBut _ _ d2 (s2.extBut _ _ d3 (s1.extBut _ _ d1 e))))
 have j1:IterIs b g5 i1 l1 (k + 1):=k1.at fun o e=>s5.extBut _ _ D.a8.symm (s4.extBut _ _ D.a10 (s3.extBut _ _ D.a8.symm e))
 have j2:IterIs c g5 i2 l2 (k + 1):=k2.at fun o e=>s5.extBut _ _ D.a9.symm e
 have zl:z < g5.objs.size:=Heap.lt_size z5
 show wpAny _ A (Builtin.SmallTypes.ownedTupleHandOut (.ref z) (.ref g5.objs.size) >>= _) _ _ _
 refine wpAny_bind ?_
 unfold Builtin.SmallTypes.ownedTupleHandOut
 have z6:IsZip (g5.push { cls:=.type "tuple",data:=.seq #[x,y] }) z ti to .ellipsis:=Heap.get?_push_of_some _ z5
 refine wpAny_bind (wpAny_setField_rec z6 (by simp) fun g7 z7 s7=>?_)
 replace z7:IsZip g7 z ti to (rawInt g5.objs.size):=z7
 refine wpAny_setField_rec z7 (by simp) fun g8 z8 s8=>?_
 replace z8:IsZip g8 z ti to (rawInt g5.objs.size):=z8
 have up:∀ d o,d ≠ z -> g5.get? d = some o -> g8.get? d = some o:=fun d o d1 e=>s8.extBut _ _ d1 (s7.extBut _ _ d1 (Heap.get?_push_of_some _ e))
 have T8:IsPair g8 g5.objs.size x y:=s8.extBut _ _ (Nat.ne_of_gt zl) (s7.extBut _ _ (Nat.ne_of_gt zl) (Heap.get?_push_size _ rfl))
 rw [sz] at z8 T8
 refine wpAny_pure ⟨_,rfl,?_⟩
 show Q (.ref g5.objs.size) _
 rw [sz]
 exact hQ g8 ⟨z8,up _ _ D.a1 (kp _ _ D.a1 D.a5 D.a6 D.a7 hTI),⟨_,_,up _ _ D.a2 hTO5⟩,j1.at fun o e=>up _ o D.a3 e,j2.at fun o e=>up _ o D.a4 e⟩ T8 fun d o d1 d2 d3 d4 e=>up d o d1 (kp d o d1 d2 d3 d4 e)
theorem Qn {b c:Bool} {z ti to i1 i2 l1 l2:Addr} {k:Nat} {xs ys:Array Value} {Q:Fin -> Shared -> Prop} (hh:A.handled = none) (D:ZApart z ti to i1 i2) (S:ZSt b c z ti to i1 i2 l1 l2 k s.heap)
  (hl1:SeqIs b s.heap l1 xs) (hl2:SeqIs c s.heap l2 ys) (n1:l1 ≠ to) (n2:l2 ≠ to) (hend:xs[k]? = none \/ ys[k]? = none)
  (hE:∀ h' e,(∀ d o,d ≠ z -> d ≠ to -> d ≠ i1 -> d ≠ i2 -> s.heap.get? d = some o -> h'.get? d = some o) -> (∃ o,h'.get? e = some o /\ o.cls = .type "StopIteration") -> E (.ref e) { s with heap:=h' }) :
  wpAny (model prog w) A (Builtin.«zip.__next__» ⟨[.ref z],[]⟩) Q E s:=by
 obtain ⟨m1,m2,m3⟩:=S.apartL hl1 n1
 obtain ⟨m4,m5,m6⟩:=S.apartL hl2 n2
 obtain ⟨hz,hTI,⟨u,v,hTO⟩,h1,h2⟩:=S
 show wpAny _ A (field (.ref z) 2 >>= _) _ _ _
 refine wpAny_bind (wpAny_field (x:=.bool false) hz rfl rfl ?_)
 show wpAny _ A (field (.ref z) 3 >>= _) _ _ _
 refine wpAny_bind (wpAny_field (x:=.ref ti) hz rfl rfl ?_)
 refine wpAny_bind (wpAny_seqItems hTI rfl ?_)
 show wpAny _ A (Builtin.SmallTypes.ownedTupleIsFree (.ref z) >>= _) _ _ _
 refine wpAny_bind ?_
 unfold Builtin.SmallTypes.ownedTupleIsFree
 refine wpAny_bind (wpAny_field (x:=.none) hz rfl rfl (wpAny_pure ?_))
 simp only [if_true]
 refine wpAny_bind (wpAny_rule ?_)
 refine wpAny_bind (wpAny_field (x:=.ref to) hz rfl rfl ?_)
 refine wpAny_bind (wpAny_setField_rec hz (by simp) fun g1 hz1 s1=>?_)
 replace hz1:IsZip g1 z ti to .ellipsis:=hz1
 refine wpAny_bind ?_
 simp only [List.forIn_cons,List.forIn_nil,List.zipIdx_cons,List.zipIdx_nil]
 refine wpAny_bind (wpAny_bind (wpAny_onRaise ?_))
 show wpAny _ A (Builtin.SmallTypes.nextOf (.ref i1) >>= _) _ _ _
 have q1:IterIs b g1 i1 l1 k:=h1.at fun o e=>s1.extBut _ _ D.a3 e
 have q2:SeqIs b g1 l1 xs:=hl1.at fun o e=>s1.extBut _ _ m1 e
 cases hx:xs[k]? with
 | none =>
  refine wpAny_bind (vN hh q1 q2 hx fun g2 e s2 he=>?_)
  obtain ⟨oe,hoe,hce⟩:=he
  have z2:IsZip g2 z ti to .ellipsis:=s2 _ _ D.a3.symm hz1
  have hez:e ≠ z:=fun q=>by subst q; rw [z2] at hoe; cases hoe; exact absurd (Value.type.inj hce) (by decide)
  exact wpAny_setField_rec z2 (by simp) fun g3 _ s3=>hE g3 e (fun d o d1 _ d3 _ q=>s3.extBut _ _ d1 (s2 _ _ d3 (s1.extBut _ _ d1 q))) ⟨oe,s3.extBut _ _ hez hoe,hce⟩
 | some x =>
  have hy:ys[k]? = none:=by
   rcases hend with h | h
   ·rw [hx] at h; cases h
   ·exact h
  refine wpAny_bind (kT q1 q2 hx fun g2 k1 s2=>wpAny_pure ?_)
  have hTO2:IsPair g2 to u v:=s2.extBut _ _ D.a8 (s1.extBut _ _ D.a2 hTO)
  refine wpAny_bind (wpAny_seqItems hTO2 rfl ?_)
  refine wpAny_bind (wpAny_updateSeq_pair hTO2 fun g3 hTO3 s3=>?_)
  refine wpAny_bind (wpAny_letGo (wpAny_pure ?_))
  refine wpAny_bind (wpAny_bind (wpAny_onRaise ?_))
  show wpAny _ A (Builtin.SmallTypes.nextOf (.ref i2) >>= _) _ _ _
  refine wpAny_bind (vN hh (h2.at fun o e=>s3.extBut _ _ D.a9.symm (s2.extBut _ _ D.a10.symm (s1.extBut _ _ D.a4 e))) (hl2.at fun o e=>s3.extBut _ _ n2 (s2.extBut _ _ m5 (s1.extBut _ _ m4 e))) hy fun g4 e s4 he=>?_)
  obtain ⟨oe,hoe,hce⟩:=he
  have z4:IsZip g4 z ti to .ellipsis:=s4 _ _ D.a4.symm (s3.extBut _ _ D.a2.symm (s2.extBut _ _ D.a3.symm hz1))
  have hez:e ≠ z:=fun q=>by subst q; rw [z4] at hoe; cases hoe; exact absurd (Value.type.inj hce) (by decide)
  exact wpAny_setField_rec z4 (by simp) fun g5 _ s5=>hE g5 e (fun d o d1 d2 d3 d4 q=>s5.extBut _ _ d1 (s4 _ _ d4 (s3.extBut _ _ d2 (s2.extBut _ _ d3 (s1.extBut _ _ d1 q))))) ⟨oe,s5.extBut _ _ hez hoe,hce⟩
theorem zb2 {b c:Bool} {z ti to i1 i2 l1 l2:Addr} {k:Nat} {xs ys:Array Value} {x y:Value} {Q:Option Value -> Shared -> Prop} (D:ZApart z ti to i1 i2) (S:ZSt b c z ti to i1 i2 l1 l2 k s.heap)
  (hl1:SeqIs b s.heap l1 xs) (hl2:SeqIs c s.heap l2 ys) (n1:l1 ≠ to) (n2:l2 ≠ to) (hx:xs[k]? = some x) (hy:ys[k]? = some y)
  (hQ:∀ h',ZMid b c z ti to i1 i2 l1 l2 k s.heap.objs.size h' -> IsPair h' s.heap.objs.size x y -> (∀ d o,d ≠ z -> d ≠ to -> d ≠ i1 -> d ≠ i2 -> s.heap.get? d = some o -> h'.get? d = some o) -> Q (some (.ref s.heap.objs.size)) { s with heap:=h' }) :
  wpAny (model prog w) A (pyNext (.ref z)) Q E s:=by
 have hT:s.TypeIs (.ref z) "zip" := ⟨_,S.z,rfl⟩
 unfold pyNext
 exact wpAny_bind (wpAny_attempt (wpAny_callSpecial?_slot (name:=Str.ofString "__next__") hT F.slot_zip_next (wpAny_call_entry F.slot_zip_next hT F.entry_zip_next
  (Qo D S hl1 hl2 n1 n2 hx hy fun h' a1 a2 a3=>wpAny_pure (hQ h' a1 a2 a3)) (F.args_zip_next_1 _))))
theorem Xa {b c:Bool} {z ti to i1 i2 l1 l2:Addr} {k:Nat} {xs ys:Array Value} {Q:Option Value -> Shared -> Prop} (hh:A.handled = none) (D:ZApart z ti to i1 i2) (S:ZSt b c z ti to i1 i2 l1 l2 k s.heap)
  (hl1:SeqIs b s.heap l1 xs) (hl2:SeqIs c s.heap l2 ys) (n1:l1 ≠ to) (n2:l2 ≠ to) (hend:xs[k]? = none \/ ys[k]? = none)
  (hQ:∀ h',(∀ d o,d ≠ z -> d ≠ to -> d ≠ i1 -> d ≠ i2 -> s.heap.get? d = some o -> h'.get? d = some o) -> Q none { s with heap:=h' }):wpAny (model prog w) A (pyNext (.ref z)) Q E s:=by
 have hT:s.TypeIs (.ref z) "zip" := ⟨_,S.z,rfl⟩
 unfold pyNext
 refine wpAny_bind (wpAny_attempt (wpAny_callSpecial?_slot (name:=Str.ofString "__next__") hT F.slot_zip_next (wpAny_call_entry F.slot_zip_next hT F.entry_zip_next
  (Qn hh D S hl1 hl2 n1 n2 hend fun h' e hk he=>?_) (F.args_zip_next_1 _))))
 obtain ⟨o,ho,hc⟩:=he
 refine wpAny_bind (wpAny_isInstance (T := "StopIteration") (b:=true) ⟨o,ho,hc⟩ isSubtype_stop (wpAny_pure (hQ _ hk)))
def zh1 (h:Heap) (b:Bool) (l:Addr):Heap:=h.push { cls:=.type (Za b),data:=.fields #[.ref l,.int 0 0] }
def zh3 (h:Heap) (b c:Bool) (l1 l2:Addr):Heap:=(zh1 (zh1 h b l1) c l2).push { cls:=.type "tuple",data:=.seq #[.ref h.objs.size,.ref (zh1 h b l1).objs.size] }
def zh4 (h:Heap) (b c:Bool) (l1 l2:Addr):Heap:=(zh3 h b c l1 l2).push { cls:=.type "tuple",data:=.seq #[.none,.none] }
def zh5 (h:Heap) (b c:Bool) (l1 l2:Addr):Heap:=(zh4 h b c l1 l2).push { cls:=.type "zip",data:=.fields #[.none,.bool false,.bool false,.ref (zh1 (zh1 h b l1) c l2).objs.size,.ref (zh3 h b c l1 l2).objs.size] }
end
theorem KL (b c:Bool) (l1 l2:Addr) (xs ys:Array Value) :
  Meets (Builtin.«zip.__new__» ⟨[.type "zip",.ref l1,.ref l2],[]⟩) (fun _ R s=>SeqIs b s.heap l1 xs /\ SeqIs c s.heap l2 ys /\
   R (.ok (.ret (.ref (zh4 s.heap b c l1 l2).objs.size))) { s with heap:=zh5 s.heap b c l1 l2 }) :=
 .of_wp fun prog w A R s h=>by
  obtain ⟨hp,g,d,tk,os⟩:=s
  obtain ⟨hl1,hl2,h⟩:=h
  have hsub:=sub_zip
  have q1:SeqIs b (Shared.heap ⟨hp,g,d,tk,os⟩) l1 xs:=hl1
  have q2:SeqIs c (Shared.heap ⟨hp.push { cls:=.type (Za b),data:=.fields #[.ref l1,.int 0 0] },g,d,tk,os⟩) l2 ys:=hl2.at fun o e=>Heap.get?_push_of_some _ e
  wp_walk using jS q1,jS q2
  exact ⟨_,rfl,h⟩
section
variable {prog:Program} {w:World} {A:Around} {E:Value -> Shared -> Prop} {s:Shared}
theorem zd8 {b c:Bool} {l1 l2:Addr} {xs ys:Array Value} {Q:Value -> Shared -> Prop} (hl1:SeqIs b s.heap l1 xs) (hl2:SeqIs c s.heap l2 ys)
  (h:∀ h' z ti to i1 i2,ZApart z ti to i1 i2 -> ZSt b c z ti to i1 i2 l1 l2 0 h' -> (∀ d ∈ [z,ti,to,i1,i2],s.heap.objs.size <= d) -> (∀ d o,s.heap.get? d = some o -> h'.get? d = some o) -> Q (.ref z) { s with heap:=h' }) :
  wpAny (model prog w) A (call (.type "zip") [.ref l1,.ref l2]) Q E s:=by
 refine callType_new F.called_zip (by decide) (F.typeCall_zip_2 _ _) (F.newCall_zip_2 _ _) (fun obj=>F.args_object_init_3 obj _ _) F.entry_zip_new (KL b c l1 l2 xs ys) ⟨hl1,hl2,?_⟩
 unfold zh5 zh4 zh3
 generalize h1:zh1 s.heap b l1 = g1
 generalize h2:zh1 g1 c l2 = g2
 have z1:g1.objs.size = s.heap.objs.size + 1:=by rw [<- h1]; exact Heap.size_push ..
 have z2:g2.objs.size = s.heap.objs.size + 2:=by rw [<- h2]; exact (Heap.size_push ..).trans (by rw [z1])
 generalize h3:g2.push { cls:=.type "tuple",data:=.seq #[.ref s.heap.objs.size,.ref g1.objs.size] } = g3
 have z3:g3.objs.size = s.heap.objs.size + 3:=by rw [<- h3,Heap.size_push,z2]
 generalize h4:g3.push { cls:=.type "tuple",data:=.seq #[.none,.none] } = g4
 have z4:g4.objs.size = s.heap.objs.size + 4:=by rw [<- h4,Heap.size_push,z3]
 have e1:g1.get? s.heap.objs.size = some { cls:=.type (Za b),data:=.fields #[.ref l1,.int 0 0] }:=by rw [<- h1]; exact Heap.get?_push_size _ rfl
 have e2:g2.get? g1.objs.size = some { cls:=.type (Za c),data:=.fields #[.ref l2,.int 0 0] }:=by rw [<- h2]; exact Heap.get?_push_size _ rfl
 have e3:g3.get? g2.objs.size = some { cls:=.type "tuple",data:=.seq #[.ref s.heap.objs.size,.ref g1.objs.size] }:=by rw [<- h3]; exact Heap.get?_push_size _ rfl
 have e4:g4.get? g3.objs.size = some { cls:=.type "tuple",data:=.seq #[.none,.none] }:=by rw [<- h4]; exact Heap.get?_push_size _ rfl
 have k1:∀ d o,s.heap.get? d = some o -> g1.get? d = some o:=fun d o e=>by rw [<- h1]; exact Heap.get?_push_of_some _ e
 have k2:∀ d o,g1.get? d = some o -> g2.get? d = some o:=fun d o e=>by rw [<- h2]; exact Heap.get?_push_of_some _ e
 have k3:∀ d o,g2.get? d = some o -> g3.get? d = some o:=fun d o e=>by rw [<- h3]; exact Heap.get?_push_of_some _ e
 have k4:∀ d o,g3.get? d = some o -> g4.get? d = some o:=fun d o e=>by rw [<- h4]; exact Heap.get?_push_of_some _ e
 show _ /\ _
 refine ⟨⟨_,Heap.get?_push_size _ rfl,rfl⟩,?_⟩
 refine h _ g4.objs.size g2.objs.size g3.objs.size s.heap.objs.size g1.objs.size ⟨?_,?_,?_,?_,?_,?_,?_,?_,?_,?_⟩ ⟨Heap.get?_push_size _ rfl,Heap.get?_push_of_some _ (k4 _ _ e3),⟨_,_,Heap.get?_push_of_some _ e4⟩,?_,?_⟩ (fun d hd=>?_) fun d o e=>Heap.get?_push_of_some _ (k4 _ _ (k3 _ _ (k2 _ _ (k1 _ _ e))))
 ·rw [z2,z4]; first | exact Nat.ne_of_lt (by lia) | exact Nat.ne_of_gt (by lia)
 ·rw [z3,z4]; first | exact Nat.ne_of_lt (by lia) | exact Nat.ne_of_gt (by lia)
 ·rw [z4]; first | exact Nat.ne_of_lt (by lia) | exact Nat.ne_of_gt (by lia)
 ·rw [z1,z4]; first | exact Nat.ne_of_lt (by lia) | exact Nat.ne_of_gt (by lia)
 ·rw [z2,z3]; first | exact Nat.ne_of_lt (by lia) | exact Nat.ne_of_gt (by lia)
 ·rw [z2]; first | exact Nat.ne_of_lt (by lia) | exact Nat.ne_of_gt (by lia)
 ·rw [z2,z1]; first | exact Nat.ne_of_lt (by lia) | exact Nat.ne_of_gt (by lia)
 ·rw [z3]; first | exact Nat.ne_of_lt (by lia) | exact Nat.ne_of_gt (by lia)
 ·rw [z3,z1]; first | exact Nat.ne_of_lt (by lia) | exact Nat.ne_of_gt (by lia)
 ·rw [z1]; first | exact Nat.ne_of_lt (by lia) | exact Nat.ne_of_gt (by lia)
 ·cases b <;> exact ⟨_,Heap.get?_push_of_some _ (k4 _ _ (k3 _ _ (k2 _ _ e1))),rfl,rfl⟩
 ·cases c <;> exact ⟨_,Heap.get?_push_of_some _ (k4 _ _ (k3 _ _ e2)),rfl,rfl⟩
 ·simp only [List.mem_cons, List.not_mem_nil, or_false] at hd
  rcases hd with rfl | rfl | rfl | rfl | rfl
  ·rw [z4]; lia
  ·rw [z2]; lia
  ·rw [z3]; lia
  ·exact Nat.le_refl _
  ·rw [z1]; lia
end
end L2
set_option maxRecDepth 100000
namespace L2
open PySem PySem.Spec PyProof.Rows
theorem Inv.track {X:Cx} {pins:List (Addr × Obj)} {σ:St} {H:Hp} {s:Shared} {a:Addr} {o:HO} (I:Inv X pins σ H s) (hn:H a = none) (hz:X.s₀.heap.objs.size <= a) (hL:a ≠ X.env.locals)
  (hc:∀ x c,X.env.cells.lookup x = some c -> c ≠ a) (hp:∀ p ∈ X.pn ++ pins,p.1 ≠ a) (new:ObjOk X.prog X.w (upd H a o) s.heap a o):Inv X pins σ (upd H a o) s:=by
 have nb:∀ b u,H b = some u -> b ≠ a:=fun b u e=>zU e hn
 refine ⟨I.ok,I.os,I.bare,⟨I.base.keep,I.base.slot,fun b u e n hx=>?_,I.base.there,fun b xs e=>?_,fun b u xs e=>?_,fun b ps e=>?_⟩,I.loc,I.cell,?_,fun x c e=>?_,fun p hq=>?_,fun b u e=>?_,I.len⟩
 ·rw [zG (Nat.ne_of_lt (Nat.lt_of_lt_of_le (Heap.lt_size e) hz))]; exact I.base.free b u e n hx
 ·have q:=I.base.tups b xs e; rw [zG (nb b _ q)]; exact q
 ·have q:=I.base.frzs b u xs e; rw [zG (nb b _ q)]; exact q
 ·obtain ⟨m,q⟩:=I.base.tbls b ps e; exact ⟨m,by rw [zG (nb b _ q)]; exact q⟩
 ·rw [zG (Ne.symm hL)]; exact I.free
 ·rw [zG (hc x c e)]; exact I.freeC x c e
 ·obtain ⟨q1, q2, q3⟩ := I.pin p hq
  exact ⟨q1,by rw [zG (hp p hq)]; exact q2,q3⟩
 ·by_cases hb : b = a
  ·subst hb; rw [xg] at e; cases e; exact new
  ·rw [zG hb] at e
   exact (I.hok b u e).stay (fun _ _ _ q=>q) (fun c q=>by rw [zG (nb c _ q)]; exact q) (fun c xs q=>by rw [zG (nb c _ q)]; exact q) fun c o u q=>by rw [zG (nb c _ q)]; exact q
structure CompOk (X:Cx) (scope:Scope) (M:List Str):Prop where
 kind:scope.kind = .function
 uniq:∀ y ∈ scope.names,scope.names.lookup y.1 = some y.2
 frees:∀ y ∈ scope.names,y.2 = .free -> (X.env.kindOf y.1 = some .cell \/ X.env.kindOf y.1 = some .free)
 shadow:∀ x ∈ M,scope.names.lookup x ≠ some .local /\ scope.names.lookup x ≠ some .cell
 same:∀ (i:Nat) (x:Str),M[i]? = some x -> scope.names.lookup x = some .free -> X.N[i]? = some x
 mlen:M.length = X.N.length
def JJ (N M:List Str) (out sc:Scope):Bool :=
 (sc.kind == .function && sc.names.all (fun y => sc.names.lookup y.1 == some y.2 && (y.2 != .free || (out.names.lookup y.1 == some .cell || out.names.lookup y.1 == some .free))) &&
  M.all (fun x=>sc.names.lookup x != some .local && sc.names.lookup x != some .cell)) && (M.length == N.length && (M.zip N).all (fun p=>sc.names.lookup p.1 != some .free || p.1 == p.2))
theorem wg {X:Cx} {sc:Scope} {M:List Str} (h:JJ X.N M X.env.scope sc = true):CompOk X sc M:=by
 unfold JJ at h
 rw [Bool.and_eq_true,Bool.and_eq_true,Bool.and_eq_true,Bool.and_eq_true,List.all_eq_true,List.all_eq_true,List.all_eq_true] at h
 obtain ⟨⟨⟨h1,h2⟩,h3⟩,h4,h5⟩:=h
 have hl:M.length = X.N.length:=by simpa using h4
 refine ⟨by simpa using h1,fun y hy=>?_,fun y hy hf=>?_,fun x hx=>?_,fun i x hi hf=>?_,hl⟩
 ·have := h2 y hy
  rw [Bool.and_eq_true] at this
  simpa using this.1
 ·have := h2 y hy
  rw [Bool.and_eq_true] at this
  have q:=this.2
  rw [hf] at q
  have q':(X.env.scope.names.lookup y.1 == some .cell || X.env.scope.names.lookup y.1 == some .free) = true:=by simpa using q
  rw [Bool.or_eq_true] at q'
  exact q'.imp (fun z=>(show X.env.scope.names.lookup y.1 = some .cell by simpa using z)) fun z=>(show X.env.scope.names.lookup y.1 = some .free by simpa using z)
 ·have := h3 x hx
  rw [Bool.and_eq_true] at this
  exact ⟨by simpa using this.1,by simpa using this.2⟩
 ·have hlt : i < X.N.length := by rw [<- hl]; exact (List.getElem?_eq_some_iff.mp hi).1
  have hn:X.N[i]? = some X.N[i]:=List.getElem?_eq_getElem hlt
  have hz:(M.zip X.N)[i]? = some (x,X.N[i]):=by rw [List.getElem?_zip_eq_some]; exact ⟨hi,hn⟩
  have:=h5 _ (List.mem_of_getElem? hz)
  rw [Bool.or_eq_true] at this
  rcases this with z | z
  ·rw [hf] at z; simp at z
  ·have e : x = X.N[i] := by simpa using z
   rw [hn,<- e]
def vp (X:Cx) (scope:Scope) (C:Addr):List (Str × Addr):=cellsFrom (C + 1) scope.names (yZ X.env scope.names [])
def zR (X:Cx) (scope:Scope) (own M:List Str) (C:Addr) (s2:Shared) (H2:Hp) (fp:List Addr):Cx where
 prog:=X.prog
 w:=X.w
 K:=X.K
 mg:=X.mg
 base:=X.base
 A:=X.A
 N:=own ++ M
 s₀:=s2
 H₀:=H2
 env:=compEnvC scope (vp X scope C) C X.env
 outer:=X.stack
 stack:=X.stack
 ex:=fp
 fn:=fun x=>scope.names.lookup x == some .cell
 calm:=X.calm
 pn:=[]
 xe:=fun _ _=>False
def PTs (X:Cx) (ifs:List Expr) (t:TT):Prop :=
 ∀ (pins:List (Addr × Obj)) (s:Shared) (σ:St) (H:Hp) (Q:Bool -> Hp -> Prop),Inv X pins σ H s -> t σ H Q -> wpAny (model X.prog X.w) X.A (Zh ifs X.env) (TP X pins σ Q) X.xe s
def xc5:TT:=fun _ H Q=>Q true H
theorem pts_nil {X:Cx}:PTs X [] xc5:=fun _ _ _ H _ I h=>wpAny_pure ⟨H,I,h⟩
theorem zk2 {X:Cx} {c:Expr} {t:TT} (hc:PT X c t):PTs X [c] t:=by
 intro pins s σ H Q I h
 show wpAny _ _ (forIn [c] true _) _ _ s
 simp only [List.forIn_cons,List.forIn_nil,if_true]
 exact wpAny_bind (wpAny_bind (thn (hc pins s σ H Q I h) fun b s' hb=>wpAny_pure (wpAny_pure hb)))
def Qv (wi:TI) (own:Nat) (g:TG) (tt:TT) (te:TE):TE:=fun σ H Q=>wi σ H fun J H1=>∃ W:Nat -> Nat -> List V -> Hp -> Prop,(∃ m,W 0 m [] H1) /\ ∀ i m acc H,W i m acc H ->
 (J.stop i H /\ acc.length <= sizeLine /\ ∀ D,H D = none -> Q (.ref D) (upd H D (.lst acc))) \/
 (J.go i H /\ acc.length < sizeLine /\ ∀ x H', J.yld i H x H' -> g x (List.replicate own none ++ σ) H' fun σ2 H2 => σ2.drop own = σ /\ tt σ2 H2 fun c H3 =>
  if c = true then te σ2 H3 fun v H4=>∃ m',m' < m /\ W (i + 1) m' (acc ++ [v]) H4 else ∃ m',m' < m /\ W (i + 1) m' acc H3)
section
variable {X:Cx} {scope:Scope} {own M:List Str} {pins:List (Addr × Obj)} {σ:St} {H2:Hp} {s2:Shared} {fp:List Addr}
theorem CompOk.cells (ok:CompOk X scope M) (I:Inv X pins σ H2 s2):∀ y ∈ scope.names,y.2 = .free -> ∃ c,X.env.cells.lookup y.1 = some c:=fun y hy hf=>I.ok.has y.1 (ok.frees y hy hf)
theorem CompOk.kindIn (ok:CompOk X scope M) {x:Str} {C:Addr} {k:NameKind} (h:(compEnvC scope (vp X scope C) C X.env).kindOf x = some k) :
  scope.names.lookup x = some k \/ (k = .cell /\ scope.names.lookup x = some .free):=by
 have h':(relabel scope X.env).names.lookup x = some k:=h
 unfold relabel at h'
 rw [qh] at h'
 cases e:scope.names.lookup x with
 | none=>rw [e] at h'; simp at h'
 | some j =>
  rw [e,Option.map_some] at h'
  have h2:=Option.some.inj h'
  split at h2
  ·rename_i hc
   have:j = .free:=by
    rw [Bool.and_eq_true,Bool.and_eq_true] at hc
    simpa using hc.1.1
   exact .inr ⟨h2.symm,by rw [this]⟩
  ·exact .inl (by rw [h2])
theorem CompOk.cellsFrom_old (ok:CompOk X scope M) (I:Inv X pins σ H2 s2) {C:Addr} {x:Str} {c:Addr} (h:(vp X scope C).lookup x = some c) (hx:scope.names.lookup x ≠ some .cell):X.env.cells.lookup x = some c:=by
 have e0 : ∀ (l : List (Str × NameKind)) (n : Nat) (acc : List (Str × Addr)), (x, NameKind.cell) ∉ l -> (cellsFrom n l acc).lookup x = acc.lookup x := by
  intro l
  induction l with
  | nil=>intro n acc _; rfl
  | cons y r ih =>
   intro n acc hy
   obtain ⟨m,k⟩:=y
   unfold cellsFrom
   split
   ·rename_i hk
    have hk':k = .cell:=by simpa using hk
    rw [ih _ _ fun z=>hy (List.mem_cons_of_mem _ z),List.lookup_cons]
    have:(x == m) = false:=by
     cases hb:x == m with
     | false=>rfl
     | true =>
      have e:x = m:=by simpa using hb
      exact absurd (by rw [hk',e]; exact List.mem_cons_self) hy
    rw [this]
   ·exact ih _ _ fun z=>hy (List.mem_cons_of_mem _ z)
 unfold vp at h
 rw [e0 _ _ _ fun hm=>hx (ok.uniq _ hm)] at h
 exact ym scope.names [] (ok.cells I) (fun _ _ z=>by simp at z) x c h
theorem Vq (ok:CompOk X scope M) (hc:X.calm = true) (I:Inv X pins σ H2 s2) (hf:∀ b ∈ fp,FpOk X pins H2 b /\ b < s2.heap.objs.size) {C:Addr} (hC:C = s2.heap.objs.size + 1) {h4:Heap}
  (hh:h4 = pushCells ((s2.heap.push { cls:=.type "list",dict:=none,data:=.seq ([]:List Value).toArray }).push { cls:=.type "dict",data:=.dict #[] }) scope.names) :
  Inv (zR X scope own M C s2 H2 fp) [] (List.replicate own.length none ++ σ) H2 { s2 with heap:=h4 }:=by
 have zC:(s2.heap.push { cls:=.type "list",dict:=none,data:=.seq ([]:List Value).toArray }).objs.size = C:=by rw [Heap.size_push,hC]
 have zC1:((s2.heap.push { cls:=.type "list",dict:=none,data:=.seq ([]:List Value).toArray }).push { cls:=.type "dict",data:=.dict #[] }).objs.size = C + 1:=by rw [Heap.size_push,zC]
 have keep:∀ b o,s2.heap.get? b = some o -> h4.get? b = some o:=fun b o e=>by
  rw [hh]; exact pushCells_keeps _ _ _ _ (Heap.get?_push_of_some _ (Heap.get?_push_of_some _ e))
 have cellOld:∀ x c,X.env.cells.lookup x = some c -> c < s2.heap.objs.size:=fun x c e=>by obtain ⟨v,q⟩:=I.cell x c e; exact q.lt
 have cellB:∀ x c,(vp X scope C).lookup x = some c -> (h4.IsCell c none /\ C + 1 <= c /\ scope.names.lookup x = some .cell) \/ X.env.cells.lookup x = some c:=fun x c e=>by
  by_cases hx:scope.names.lookup x = some .cell
  ·have e' := e
   unfold vp at e'
   rw [<- zC1] at e'
   rcases JN _ _ _ x c e' with ⟨a,b,d⟩ | q
   ·exact .inl ⟨by rw [hh]; exact a,by rw [zC1] at b; exact b,hx⟩
   ·exact .inr (ym scope.names [] (ok.cells I) (fun _ _ z=>by simp at z) x c q)
  ·exact .inr (ok.cellsFrom_old I e hx)
 have hNs:∃ m,h4.Ns C m:=by
  have q:((s2.heap.push { cls:=.type "list",dict:=none,data:=.seq ([]:List Value).toArray }).push { cls:=.type "dict",data:=.dict #[] }).Ns C (fun _=>none):=by
   have:=Heap.Ns.new (s2.heap.push { cls:=.type "list",dict:=none,data:=.seq ([]:List Value).toArray }) (.type "dict")
   rw [zC] at this
   exact this
  exact ⟨_,q.keeps fun b o e=>by rw [hh]; exact pushCells_keeps _ _ _ _ e⟩
 have nfs:∀ b ∈ fp,b ∉ frs X.stack:=fun b hb hx=>by
  obtain ⟨⟨_,f1,f2,_⟩,_⟩:=hf b hb
  rcases List.mem_cons.mp (I.stkSub b hx) with e | e
  ·exact f1 e
  ·exact f2 e
 obtain ⟨mC,hmC⟩:=hNs
 refine ⟨⟨I.ok.mod,ok.kind,I.ok.glob,I.ok.blt,?_,?_,?_,?_,I.ok.hd,I.ok.frames,.inl rfl,?_,I.bs,?_,?_,nfs,I.stack,I.stkFree⟩,rfl,I.bare,Un.kept keep,⟨mC,hmC,?_⟩,?_,I.hok.fresh (by show s2.heap.objs.size <= C; rw [hC]; exact Nat.le_succ _),?_,fun p hp=>absurd (show p ∈ ([]:List (Addr × Obj)) from hp) (by simp),I.hok.kept keep,?_⟩
 ·show s2.heap.objs.size <= C; rw [hC]; exact Nat.le_succ _
 ·intro x y c h1 h2
  refine JL scope.names (C + 1) (yZ X.env scope.names []) (fun a b d p q=>?_) (fun a d p=>?_) x y c h1 h2
  ·exact I.ok.inj a b d (ym scope.names [] (ok.cells I) (fun _ _ z=>by simp at z) a d p) (ym scope.names [] (ok.cells I) (fun _ _ z=>by simp at z) b d q)
  ·have := cellOld a d (ym scope.names [] (ok.cells I) (fun _ _ z => by simp at z) a d p)
   rw [hC]; exact Nat.lt_succ_of_lt (Nat.lt_succ_of_lt this)
 ·intro x hx
  have go:∀ k,(k = NameKind.cell \/ k = NameKind.free) -> (compEnvC scope (vp X scope C) C X.env).kindOf x = some k -> ∃ c,(vp X scope C).lookup x = some c:=fun k hk e=>by
   rcases ok.kindIn e with e | ⟨_,e⟩
   ·rcases hk with rfl | rfl
    ·exact JM _ _ _ (PySem.mem_of_lookup e)
    ·exact qd _ _ _ (vo (y:=(x,.free)) rfl _ _ (PySem.mem_of_lookup e))
   ·exact qd _ _ _ (vo (y:=(x,.free)) rfl _ _ (PySem.mem_of_lookup e))
  rcases hx with e | e
  ·exact go _ (.inl rfl) e
  ·exact go _ (.inr rfl) e
 ·intro x c hx h
  have hx':scope.names.lookup x = some .cell:=by simpa [zR] using hx
  have:=zp1 (x:=x) scope.names (C + 1) (yZ X.env scope.names []) (C + 1) (Nat.le_refl _) (.inl (PySem.mem_of_lookup hx')) c h
  show s2.heap.objs.size <= c
  exact Nat.le_trans (by rw [hC]; exact Nat.le_trans (Nat.le_succ _) (Nat.le_succ _)) this
 ·intro b hb
  obtain ⟨⟨_,_,_,_,f4,_⟩,f6⟩:=hf b hb
  refine ⟨?_,fun x c h=>?_⟩
  ·show b ≠ C
   rw [hC]; exact Nat.ne_of_lt (Nat.lt_succ_of_lt f6)
  ·rcases cellB x c h with ⟨_, q, _⟩ | q
   ·rw [hC] at q
    exact Nat.ne_of_gt (Nat.lt_of_lt_of_le f6 (Nat.le_trans (Nat.le_trans (Nat.le_succ _) (Nat.le_succ _)) q))
   ·exact f4 x c q
 ·exact Nat.le_trans I.ok.bsz I.sz
 ·intro b o e hb
  obtain ⟨⟨_,_,_,f3,_⟩,_⟩:=hf b hb
  rcases f3 with z | z
  ·exact I.ok.noex b o e z
  ·exact absurd (Nat.lt_of_lt_of_le (Heap.lt_size (I.ok.bs b o e).1) z) (Nat.lt_irrefl _)
 ·intro i x v h1 h2 h3
  have h2':(List.replicate own.length (none:Option V) ++ σ)[i]? = some (some v):=h2
  have hi:own.length <= i:=by
   apply Nat.le_of_not_lt
   intro hlt
   rw [List.getElem?_append_left (by simpa using hlt),List.getElem?_replicate] at h2'
   rw [if_pos hlt] at h2'
   cases h2'
  rw [List.getElem?_append_right (by simpa using hi),List.length_replicate] at h2'
  have h1':(own ++ M)[i]? = some x:=h1
  rw [List.getElem?_append_right hi] at h1'
  obtain ⟨n1,n2⟩:=ok.shadow x (List.mem_of_getElem? h1')
  have hfree:scope.names.lookup x = some .free /\ ((compEnvC scope (vp X scope C) C X.env).kindOf x = some .cell \/ (compEnvC scope (vp X scope C) C X.env).kindOf x = some .free):=by
   rcases h3 with e | e | e
   ·rcases ok.kindIn (x := x) (C := C) e with q | ⟨q, _⟩
    ·exact absurd q n1
    ·cases q
   ·rcases ok.kindIn (x := x) (C := C) e with q | ⟨_, q⟩
    ·exact absurd q n2
    ·exact ⟨q,.inl e⟩
   ·rcases ok.kindIn (x := x) (C := C) e with q | ⟨q, _⟩
    ·exact ⟨q,.inr e⟩
    ·cases q
  obtain ⟨hfr,hk⟩:=hfree
  obtain ⟨m,hn,hl⟩:=I.loc
  have hkX:=ok.frees (x,.free) (PySem.mem_of_lookup hfr) rfl
  have h1':=ok.same _ _ h1' hfr
  obtain ⟨u,ru,lk⟩:=hl (i - own.length) x v h1' h2' (hkX.elim (fun z=>.inr (.inl z)) fun z=>.inr (.inr z))
  refine ⟨u,ru,.inr ⟨hk,?_⟩⟩
  rcases lk with ⟨k,_⟩ | ⟨_,c,ec,ic⟩
  ·rcases hkX with z | z <;> (rw [k] at z; cases z)
  ·obtain ⟨c', e'⟩ : ∃ c', (vp X scope C).lookup x = some c' := qd _ _ _ (vo (y := (x, .free)) rfl _ _ (PySem.mem_of_lookup hfr))
   refine ⟨c',e',?_⟩
   have:=ok.cellsFrom_old I e' (by rw [hfr]; simp)
   have e2:some c = some c':=ec.symm.trans this
   cases e2
   exact ic.keeps keep
 ·intro x c h
  rcases cellB x c h with ⟨q,_⟩ | q
  ·exact ⟨_,q⟩
  ·obtain ⟨v, z⟩ := I.cell x c q
   exact ⟨v,z.keeps keep⟩
 ·intro x c h
  rcases cellB x c h with ⟨q,q2,_⟩ | q
  ·exact I.hok.fresh (by rw [hC] at q2; exact Nat.le_trans (Nat.le_trans (Nat.le_succ _) (Nat.le_succ _)) q2)
  ·exact I.freeC x c q
 ·show (List.replicate own.length (none : Option V) ++ σ).length = (own ++ M).length
  rw [List.length_append,List.length_append,List.length_replicate,I.len,ok.mlen]
end
end L2
set_option maxRecDepth 100000
namespace L2
open PySem PySem.Spec PyProof.Rows
section
variable {X:Cx} {scope:Scope} {own M:List Str} {pins:List (Addr × Obj)} {σ:St} {H2:Hp} {s2:Shared} {tg iter elt:Expr} {ifs:List Expr} {pos:Pos} {g:TG} {tt:TT} {te:TE}
theorem Xx (ok:CompOk X scope M) (hc:X.calm = true) (hg:∀ C s2 H2 fp,PG (zR X scope own M C s2 H2 fp) tg g) (ht:∀ C s2 H2 fp,PTs (zR X scope own M C s2 H2 fp) ifs tt) (he:∀ C s2 H2 fp,PE (zR X scope own M C s2 H2 fp) elt te)
  (I2:Inv X pins σ H2 s2) {it:Addr} {fp:List Addr} {tn:Nat -> Heap -> Prop} {J:It} (T:Turn X.prog X.w X.K tg J fp it tn) (st2:tn 0 s2.heap) (f2:∀ b ∈ fp,FpOk X pins H2 b)
  {W:Nat -> Nat -> List V -> Hp -> Prop} (w0:∃ m,W 0 m [] H2) {Qf:V -> Hp -> Prop}
  (turn : ∀ i m acc H, W i m acc H -> (J.stop i H /\ acc.length <= sizeLine /\ ∀ D, H D = none -> Qf (.ref D) (upd H D (.lst acc))) \/
   (J.go i H /\ acc.length < sizeLine /\ ∀ x H', J.yld i H x H' -> g x (List.replicate own.length none ++ σ) H' fun σ2 H2 => σ2.drop own.length = σ /\ tt σ2 H2 fun c H3 =>
    if c = true then te σ2 H3 fun v H4=>∃ m',m' < m /\ W (i + 1) m' (acc ++ [v]) H4 else ∃ m',m' < m /\ W (i + 1) m' acc H3))
  {RR:Value -> Addr -> Result -> Shared -> Prop} {E:Value -> Shared -> Prop}
  (fin:∀ D C H' s' m,Inv X pins σ H' s' -> Qf (.ref D) H' -> s'.heap.Ns C m -> H' C = none -> C ≠ X.env.locals -> X.s₀.heap.objs.size <= C -> (∀ x c,X.env.cells.lookup x = some c -> c ≠ C) -> (∀ p ∈ X.pn ++ pins,p.1 ≠ C) -> RR (.ref D) C (.ok .next) s') :
  wpAny (model X.prog X.w) X.A (newList []) (fun acc s3=>wpAny (model X.prog X.w) X.A (newFunctionEnv scope X.env.globals (yZ X.env scope.names []) [] X.env.qual none .none (some X.env)) (fun cenv s4 =>
   codeAny (model X.prog X.w) X.A (.compStart (.ListComp elt [⟨tg,iter,ifs,0⟩] scope pos) 0 (.ref it) acc { cenv with scope:=relabel scope X.env }) (RR acc cenv.locals) s4) E s3) E s2:=by
 refine wpAny_newObj_type (jc ?_)
 have zC:(s2.heap.push { cls:=.type "list",dict:=none,data:=.seq ([]:List Value).toArray }).objs.size = s2.heap.objs.size + 1:=Heap.size_push ..
 dsimp only
 rw [zC]
 generalize hC:s2.heap.objs.size + 1 = C
 generalize hh:pushCells ((s2.heap.push { cls:=.type "list",dict:=none,data:=.seq ([]:List Value).toArray }).push { cls:=.type "dict",data:=.dict #[] }) scope.names = h4
 have fpl:∀ b ∈ fp,FpOk X pins H2 b /\ b < s2.heap.objs.size:=fun b hb=>by
  obtain ⟨o,e,_⟩:=T.obj 0 _ st2 b hb
  exact ⟨f2 b hb,Heap.lt_size e⟩
 have I4:Inv (zR X scope own M C s2 H2 fp) [] (List.replicate own.length none ++ σ) H2 { s2 with heap:=h4 }:=Vq ok hc I2 fpl hC.symm hh.symm
 generalize hX:zR X scope own M C s2 H2 fp = X' at I4
 have keep4:∀ b o,s2.heap.get? b = some o -> h4.get? b = some o:=fun b o e=>by
  rw [<- hh]; exact pushCells_keeps _ _ _ _ (Heap.get?_push_of_some _ (Heap.get?_push_of_some _ e))
 have hD4:h4.get? s2.heap.objs.size = some { cls:=.type "list",dict:=none,data:=.seq ([]:List Value).toArray }:=by
  rw [<- hh]; exact pushCells_keeps _ _ _ _ (Heap.get?_push_of_some _ (Heap.get?_push_size _ rfl))
 have st4:tn 0 h4:=T.keep _ _ _ st2 fun b hb o e=>keep4 b o e
 have gg:PG X' tg g:=by rw [<- hX]; exact hg C s2 H2 fp
 have gt:PTs X' ifs tt:=by rw [<- hX]; exact ht C s2 H2 fp
 have ge:PE X' elt te:=by rw [<- hX]; exact he C s2 H2 fp
 have xP:X'.prog = X.prog:=by rw [<- hX]; rfl
 have xw:X'.w = X.w:=by rw [<- hX]; rfl
 have xK:X'.K = X.K:=by rw [<- hX]; rfl
 have xA:X'.A = X.A:=by rw [<- hX]; rfl
 have xc:X'.calm = true:=by rw [<- hX]; exact hc
 have xpn:X'.pn = []:=by rw [<- hX]; rfl
 have xs:X'.s₀ = s2:=by rw [<- hX]; rfl
 have xH:X'.H₀ = H2:=by rw [<- hX]; rfl
 have xL:X'.env.locals = C:=by rw [<- hX]; rfl
 have xfs:X'.fs = frs X.stack:=by rw [<- hX]; rfl
 have xex:X'.ex = fp:=by rw [<- hX]; rfl
 have xe:X'.xe = fun _ _=>False:=by rw [<- hX]; rfl
 have xenv:({ newEnv scope C X.env.globals (cellsFrom (C + 1) scope.names (yZ X.env scope.names [])) X.env.qual none .none (some X.env) builtinsNs with scope:=relabel scope X.env }:Env) = X'.env:=by rw [<- hX]; rfl
 have Dlt:s2.heap.objs.size < C:=by rw [<- hC]; exact Nat.lt_succ_self _
 have fpb:∀ {pl:List (Addr × Obj)} {H:Hp},(∀ b ∈ fp,H b = none) -> (∀ p ∈ pl,p.1 ∉ fp) -> ∀ b ∈ fp,FpOk X' pl H b:=fun {pl H} hn hpl b hb=>by
  refine ⟨hn b hb,?_,?_,.inl (by rw [xex]; exact hb),fun x c e=>(I4.ok.exf b (by rw [xex]; exact hb)).2 x c e,fun p hp z=>?_⟩
  ·exact (I4.ok.exf b (by rw [xex]; exact hb)).1
  ·exact I4.ok.exfs b (by rw [xex]; exact hb)
  ·rw [xpn, List.nil_append] at hp
   exact hpl p hp (by rw [z]; exact hb)
 have Dfp:s2.heap.objs.size ∉ fp:=fun z=>Nat.lt_irrefl _ (fpl _ z).2
 have DC:s2.heap.objs.size ≠ C:=Nat.ne_of_lt Dlt
 have Dcell:∀ x c,X'.env.cells.lookup x = some c -> c ≠ s2.heap.objs.size:=fun x c e z=>by
  obtain ⟨v,o,q,hd⟩:=I4.cell x c e
  rw [z] at q
  have q':h4.get? s2.heap.objs.size = some o:=q
  rw [hD4] at q'
  cases q'
  cases hd
 have Dfs:s2.heap.objs.size ∉ X'.fs:=fun z=>by
  obtain ⟨_,o,ho,_⟩:=I4.ok.funs.mem (by exact z)
  rw [xs] at ho
  exact Nat.lt_irrefl _ (Heap.lt_size ho)
 rw [xenv]
 have goal:∀ s5:Shared,s5 = { s2 with heap:=h4 } -> codeAny (model X.prog X.w) X.A (.compLoop (.ListComp elt [⟨tg,iter,ifs,0⟩] scope pos) 0 (.ref it) (.ref s2.heap.objs.size) X'.env) (RR (.ref s2.heap.objs.size) C) s5:=by
  rintro s5 rfl
  obtain ⟨m0,w0⟩:=w0
  refine JH (fun n s'=>∃ i acc σ' H' its k,Inv X' [] σ' H' s' /\ σ'.drop own.length = σ /\ tn i s'.heap /\ (∀ b ∈ fp,H' b = none) /\ H' s2.heap.objs.size = none /\
   s'.heap.get? s2.heap.objs.size = some { cls:=.type "list",data:=.seq (List.toArray its) k } /\ Vals acc its /\ W i n acc H') ?_ m0
   ⟨0,[],_,H2,[],0,I4,by simp,st4,fun b hb=>(f2 b hb).1,I2.hok.fresh (Nat.le_refl _),hD4,.nil,w0⟩
  rintro n s3 ⟨i,acc,σ3,H3,its,k,I3,hσ,st3,fr3,hD,hDo,rv,w3⟩
  have pinD:∀ {H:Hp} {s:Shared} {σ:St},Inv X' [] σ H s -> H s2.heap.objs.size = none -> s.heap.get? s2.heap.objs.size = some { cls:=.type "list",data:=.seq (List.toArray its) k } ->
    Inv X' [(s2.heap.objs.size,{ cls:=.type "list",data:=.seq (List.toArray its) k })] σ H s:=fun {H s σ} I hn ho=>I.pins_of fun p hp=>by
   have e:p = (s2.heap.objs.size,{ cls:=.type "list",data:=.seq (List.toArray its) k }):=by simpa using hp
   subst e
   exact ⟨ho,hn,by rw [xL]; exact DC,Dfs,fun v z=>by cases z⟩
  have plD:∀ p ∈ [((s2.heap.objs.size,{ cls:=.type "list",data:=.seq (List.toArray its) k }):Addr × Obj)],p.1 ∉ fp:=fun p hp=>by
   have e:p = (s2.heap.objs.size,{ cls:=.type "list",data:=.seq (List.toArray its) k }):=by simpa using hp
   subst e
   exact Dfp
  have I3':=pinD I3 hD hDo
  rcases turn i n acc H3 w3 with ⟨stop,hsz,q⟩ | ⟨go,hsz,step⟩
  ·have := T.done X' xP xw xK xc i _ s3 σ3 H3 (fun _ _ => False) I3' (fpb fr3 plD) st3 stop
   rw [xA] at this
   refine thn this fun r s4 ⟨hr,I5⟩=>?_
   subst hr
   have hDo5:=(I5.pin (s2.heap.objs.size,{ cls:=.type "list",data:=.seq (List.toArray its) k }) (by rw [xpn]; simp)).1
   have un:Un (frs X.stack) fp H2 H3 s2.heap s4.heap:=by
    have:=I5.base
    rw [xfs,xex,xH,xs] at this
    exact this
   have os:s4.os = s2.os:=by rw [I5.os,xs]
   have hok:HOk X.prog X.w H3 s4.heap:=by have:=I5.hok; rw [xP,xw] at this; exact this
   have IX:Inv X pins σ H3 s4:=I2.call' os un hok I5.bare fun b hb=>by
    obtain ⟨_,f1,_,f3,f4,f5⟩:=f2 b hb
    exact ⟨f3,f1,f4,f5⟩
   have old:∀ {b:Addr},s2.heap.objs.size <= b -> (X.s₀.heap.objs.size <= b /\ b ≠ X.env.locals /\ (∀ x c,X.env.cells.lookup x = some c -> c ≠ b) /\ ∀ p ∈ X.pn ++ pins,p.1 ≠ b):=fun {b} hb=>by
    obtain ⟨_,f1,_,f3,f4,f5⟩:=I2.fpOk (H':=fun _=>none) hb rfl
    exact ⟨Nat.le_trans I2.sz hb,f1,f4,f5⟩
   obtain ⟨d1,d2,d3,d4⟩:=old (Nat.le_refl s2.heap.objs.size)
   obtain ⟨c1,c2,c3,c4⟩:=old (b:=C) (Nat.le_of_lt Dlt)
   have IY:Inv X pins σ (upd H3 s2.heap.objs.size (.lst acc)) s4:=IX.track hD d1 d2 d3 d4 ⟨hsz,its,k,rv,hDo5⟩
   obtain ⟨m,hm,_⟩:=I5.loc
   rw [xL] at hm
   have hCn:H3 C = none:=by have:=I5.free; rw [xL] at this; exact this
   exact fin _ C _ s4 m IY (q _ hD) hm (by rw [zG (Ne.symm DC)]; exact hCn) c2 c1 c3 c4
  ·have := T.item X' xP xw xK xc i _ s3 σ3 H3 (fun _ _ => False) I3' (fpb fr3 plD) st3 go
   rw [xA] at this
   refine thn this fun r s4 ⟨u,hr,h4⟩=>?_
   subst hr
   refine thn h4 fun _ s5 ⟨x,H5,I5,r5,y5,st5,fr5⟩=>?_
   have hσn:∀ (j:Nat) v,(List.replicate own.length none ++ σ)[j]? = some (some v) -> σ3[j]? = some (some v):=fun j v e=>by
    by_cases hlt:j < own.length
    ·rw [List.getElem?_append_left (by simpa using hlt), List.getElem?_replicate, if_pos hlt] at e
     cases e
    ·have hle := Nat.le_of_not_lt hlt
     rw [List.getElem?_append_right (by simpa using hle),List.length_replicate,<- hσ,List.getElem?_drop] at e
     rw [show own.length + (j - own.length) = j by lia] at e
     exact e
   have hlen:(List.replicate own.length none ++ σ).length = σ3.length:=by
    have e1:σ3.length = X'.N.length:=I5.len
    have e2:=I4.len
    exact e2.trans e1.symm
   have I5w:Inv X' _ (List.replicate own.length none ++ σ) H5 s5:=I5.weak hlen hσn
   have I5p:=I5w.pinned (fpb fr5 plD) (T.obj _ _ st5)
   have a1:=gg _ s5 _ H5 x u _ I5p r5 (step x H5 y5)
   rw [xP,xw,xA,xe] at a1
   refine thn a1 fun _ s6 ⟨σ6,H6,I6,d6,q6⟩=>?_
   have a2:=gt _ s6 σ6 H6 _ I6 q6
   rw [xP,xw,xA,xe] at a2
   refine thn a2 fun b s7 ⟨H7,I7,q7⟩=>?_
   have pin7:∀ {H:Hp} {s:Shared},Inv X' ([((s2.heap.objs.size,{ cls:=.type "list",data:=.seq (List.toArray its) k }):Addr × Obj)] ++ ve fp s5.heap) σ6 H s ->
     (tn (i + 1) s.heap /\ (∀ b ∈ fp,H b = none) /\ H s2.heap.objs.size = none /\ s.heap.get? s2.heap.objs.size = some { cls:=.type "list",data:=.seq (List.toArray its) k } /\ Inv X' [] σ6 H s):=fun {H s} I=>by
    refine ⟨T.keep _ _ _ st5 fun b hb o e=>(I.pin (b,o) (List.mem_append_right _ (List.mem_append_right _ (wf hb e)))).1,fun b hb=>?_,?_,?_,I.pins_of fun p hp=>by simp at hp⟩
    ·obtain ⟨o, e, d⟩ := T.obj _ _ st5 b hb
     exact (I.pin (b,o) (List.mem_append_right _ (List.mem_append_right _ (wf hb e)))).2.1
    ·exact (I.pin (s2.heap.objs.size,{ cls:=.type "list",data:=.seq (List.toArray its) k }) (by rw [xpn]; simp)).2.1
    ·exact (I.pin (s2.heap.objs.size,{ cls:=.type "list",data:=.seq (List.toArray its) k }) (by rw [xpn]; simp)).1
   cases b with
   | false =>
    obtain ⟨p1,p2,p3,p4,p5⟩:=pin7 I7
    obtain ⟨m',hm,w7⟩:=q7
    exact ⟨m',hm,i + 1,acc,σ6,H7,its,k,p5,d6,p1,p2,p3,p4,rv,w7⟩
   | true =>
    rw [if_pos rfl] at q7 ⊢
    have a3:=ge _ s7 σ6 H7 _ I7 q7
    rw [xP,xw,xA,xe] at a3
    refine thn a3 fun y s8 ⟨v,H8,I8,r8,q8⟩=>?_
    obtain ⟨p1,p2,p3,p4,p5⟩:=pin7 I8
    obtain ⟨m',hm,w8⟩:=q8
    have hl:=rv.length
    refine wpAny_list_append_plain (items:=List.toArray its) ⟨k,p4⟩ (fun h' hpl hs=>?_) (by simp; lia)
    obtain ⟨k',hpl⟩:=hpl
    have I9:Inv X' [] σ6 H8 { s8 with heap:=h' }:=p5.turned (t':=s8.toks) (fun b o hb e=>hs.extBut b o hb e) p3 (by rw [xL]; exact DC) (.inr (by rw [xs]; exact Nat.le_refl _)) Dcell (fun p hp=>by rw [xpn] at hp; simp at hp)
    refine ⟨m',hm,i + 1,acc ++ [v],σ6,H8,its ++ [y],k',I9,d6,T.keep _ _ _ p1 fun b hb o e=>hs.extBut b o (fun z=>Dfp (by rw [<- z]; exact hb)) e,p2,p3,?_,rv.append (.cons r8 .nil),w8⟩
    rw [hpl]; simp
 exact codeAny_compStart_list (goal _ rfl) (T.self _ 0 _ _ _ st4 (goal _ rfl))
theorem zl0 {wi:TI} (ok:CompOk X scope M) (hc:X.calm = true) (hi:PI X tg iter wi) (hg:∀ C s2 H2 fp,PG (zR X scope own M C s2 H2 fp) tg g) (ht:∀ C s2 H2 fp,PTs (zR X scope own M C s2 H2 fp) ifs tt)
  (he:∀ C s2 H2 fp,PE (zR X scope own M C s2 H2 fp) elt te) (hs:∀ x,foldedSetIterable iter X.env x = pure x:=by intro _; rfl) :
  PE X (.ListComp elt [⟨tg,iter,ifs,0⟩] scope pos) (Qv wi own.length g tt te):=by
 intro pins s σ H Q I h
 rw [eval_ListComp]
 refine wpAny_comprehension_free (use:=none) rfl hs (ZU (ok.cells I)) ok.kind (fun x hx hl=>by rw [ok.uniq x hx,hl]) ?_
 refine thn (hi pins s σ H _ I h) fun v s1 h1=>thn h1 fun itv s2 h2=>?_
 obtain ⟨it,fp,tn,J,H2,e,I2,T,st2,f2,W,w0,turn⟩:=h2
 subst e
 refine Xx (Qf:=Q) ok hc hg ht he I2 T st2 f2 w0 turn fun D C H' s' m IY q hm hCn c2 c1 c3 c4=>⟨m,hm,fun h' hs'=>?_⟩
 exact ⟨.ref D,H',IY.turned (t':=s'.toks) (fun b o hb e=>hs'.extBut b o hb e) hCn c2 (.inr c1) c3 c4,rfl,q⟩
theorem VL {wi:TI} {i:Nat} {x:Str} {pos' spos:Pos} (hN:X.N.Nodup) (hix:X.N[i]? = some x) (hx:Loc X.env.scope x) (ok:CompOk X scope M) (hc:X.calm = true) (hi:PI X tg iter wi) (hg:∀ C s2 H2 fp,PG (zR X scope own M C s2 H2 fp) tg g)
  (ht:∀ C s2 H2 fp,PTs (zR X scope own M C s2 H2 fp) ifs tt) (he:∀ C s2 H2 fp,PE (zR X scope own M C s2 H2 fp) elt te)
  (hsw:swapsWith (.ListComp elt [⟨tg,iter,ifs,0⟩] scope pos) (some (.Name x pos')) spos.line X.env = pure true:=by rfl) (hf:X.fn x = true \/ X.env.scope.names.lookup x = some .local:=by first | exact .inl rfl | exact .inr rfl | assumption)
  (hs:∀ x,foldedSetIterable iter X.env x = pure x:=by intro _; rfl):PS X (.Assign [.Name x pos'] (.ListComp elt [⟨tg,iter,ifs,0⟩] scope pos) spos) (zI6 (Qv wi own.length g tt te) (zc6 i)):=by
 intro pins s σ H D I h
 rw [exec_Assign_Name_used _ _ _ _ hsw]
 refine wpAny_bind (wpAny_standAt (wpAny_bind ?_))
 show wpAny _ _ (do let _ <- comprehension (.ListComp elt [⟨tg,iter,ifs,0⟩] scope pos) scope X.env _ (newList []) false (eval iter X.env) (some (assign (.Name x pos') X.env))) _ _ s
 refine wpAny_bind (thn (wpAny_comprehension_free (use:=some (assign (.Name x pos') X.env)) (Q:=fun _ s'=>SP X pins D .next s') rfl hs (ZU (ok.cells I)) ok.kind (fun x hx hl=>by rw [ok.uniq x hx,hl]) ?_)
  fun _ s' hq=>wpAny_pure (wpAny_pure hq))
 refine thn (hi pins s σ H _ I h) fun v s1 h1=>thn h1 fun itv s2 h2=>?_
 obtain ⟨it,fp,tn,J,H2,e,I2,T,st2,f2,W,w0,turn⟩:=h2
 subst e
 refine Xx (Qf:=fun x H1=>zc6 i x σ H1 D.nx) ok hc hg ht he I2 T st2 f2 w0 turn fun D' C H' s' m IY q hm hCn c2 c1 c3 c4=>?_
 show wpAny _ _ (assign (.Name x pos') X.env (.ref D')) _ _ s'
 refine wpAny_assign_Name (Ys IY hN hix hx (v:=.ref D') rfl (fun s'' I'' ⟨a,hsb,ha⟩=>?_) hf)
 have hCa:C ≠ a:=by
  rcases ha with z | z
  ·rw [z]; exact c2
  ·exact fun e=>c3 x a z e.symm
 exact ⟨m,hm.sameBut hsb hCa,fun h' hs'=>⟨_,H',I''.turned (t':=s''.toks) (fun b o hb e=>hs'.extBut b o hb e) hCn c2 (.inr c1) c3 c4,q⟩⟩
end
end L2
set_option maxRecDepth 100000
namespace L2
open PySem PySem.Spec PyProof.Rows
section
variable {X:Cx} {pins:List (Addr × Obj)} {σ:St} {H:Hp} {s:Shared}
theorem Inv.turnedL {t':Nat} {h':Heap} {ch:List Addr} (I:Inv X pins σ H s) (k:∀ b o,b ∉ ch -> s.heap.get? b = some o -> h'.get? b = some o) (hf:∀ b ∈ ch,FpOk X pins H b):Inv X pins σ H { s with heap:=h',toks:=t' }:=by
 have nit:∀ b u,H b = some u -> b ∉ ch:=fun b u e z=>by rw [(hf b z).1] at e; cases e
 refine I.step (g':=s.gens) (d':=s.drawn) (ch:=ch) (fun b hb=>?_) (fun b o _ _ hc e _=>k b o hc e) (fun b o _ _ hc e _=>⟨o.slots,k b o hc e⟩) (fun _ _ _ _ n=>n)
  (fun b o hc e=>⟨o,k b o hc e⟩) (fun _ _ e=>e) (fun _ _ _ e=>e) (fun b ps e=>⟨#[],by rw [e]; simp⟩) (fun m hm=>?_) (fun b u e=>?_) I.bare
 ·obtain ⟨_, f1, _, f3, f4, f5⟩ := hf b hb
  exact ⟨f3,f1,f4,f5⟩
 ·obtain ⟨o, es, ep, ho, r⟩ := hm
  exact ⟨o,es,ep,k _ o (fun z=>(hf _ z).2.1 rfl) ho,r⟩
 ·refine (I.hok b u e).stay (fun c v hc q => k c v ?_ q) (fun _ q => q) (fun _ _ q => q) fun _ _ _ q => q
  rcases hc with z | z
  ·rw [z]; exact nit b u e
  ·exact nit c _ z
def SqB (K:PySem.W.Frag) (b:Bool) (H:Hp) (a:Addr) (xs:List V):Prop:=match b with | true=>SqL K H a xs | false=>SqT K H a xs
theorem Inv.seqB {b:Bool} {a:Addr} {xs:List V} (I:Inv X pins σ H s) (h:SqB X.K b H a xs):∃ its:List Value,Vals xs its /\ SeqIs b s.heap a its.toArray:=by
 cases b with
 | true=>obtain ⟨its,r,p,_⟩:=I.list h; exact ⟨its,r,p.isList⟩
 | false=>obtain ⟨its,r,p,_⟩:=I.tuple h; exact ⟨its,r,p⟩
theorem Inv.seqB_inj {b:Bool} {a:Addr} {xs ys:List V} (I:Inv X pins σ H s) (h:SqB X.K b H a xs) (h':SqB X.K b H a ys):xs = ys:=by
 cases b with
 | true=>exact I.list_inj h h'
 | false=>exact I.tuple_inj h h'
theorem Inv.ne_fp {b:Bool} {a c:Addr} {xs:List V} (I:Inv X pins σ H s) (h:SqB X.K b H a xs) (hf:FpOk X pins H c):a ≠ c:=by
 have old:∀ o,X.K.lookup a = some o -> a ≠ c:=fun o e z=>by
  have eb:=I.ok.mod.kin a o e
  rw [z] at eb
  obtain ⟨_,_,_,f3,_⟩:=hf
  rcases f3 with q | q
  ·exact I.ok.noex c o eb q
  ·exact absurd (Nat.lt_of_lt_of_le (Heap.lt_size (I.ok.bs c o eb).1) q) (Nat.lt_irrefl _)
 have trk:∀ u,H a = some u -> a ≠ c:=fun u e=>zU e hf.1
 cases b with
 | true =>
  rcases h with (h | ⟨o,h⟩) | ⟨o,_,_,hk,_⟩
  ·exact trk _ h
  ·exact trk _ h
  ·exact old o hk
 | false =>
  rcases h with (h | ⟨o,h⟩) | ⟨o,_,_,hk,_⟩
  ·exact trk _ h
  ·exact trk _ h
  ·exact old o hk
def Itz (K:PySem.W.Frag) (b c:Bool) (l1 l2:Addr):It :=
  ⟨fun i H => ∃ xs ys x y, SqB K b H l1 xs /\ SqB K c H l2 ys /\ xs[i]? = some x /\ ys[i]? = some y,
   fun i H v H'=>∃ T,H T = none /\ v = .ref T /\ ∀ xs ys,SqB K b H l1 xs -> SqB K c H l2 ys -> ∃ x y,xs[i]? = some x /\ ys[i]? = some y /\ H' = upd H T (.tup [x,y]),
   fun i H=>∃ xs ys,SqB K b H l1 xs /\ SqB K c H l2 ys /\ (xs.length <= i \/ ys.length <= i)⟩
theorem newTup {T:Addr} {x y:V} {u v:Value} {s1:Shared} (I:Inv X pins σ H s) (I1:Inv X pins σ H s1) (hT:s.heap.objs.size <= T) (hn:H T = none) (ho:s1.heap.get? T = some { cls:=.type "tuple",data:=.seq #[u,v] }) (rx:RelV x u) (ry:RelV y v) :
  Inv X pins σ (upd H T (.tup [x,y])) s1:=by
 obtain ⟨_,f1,_,f3,f4,f5⟩:=I.fpOk (H':=H) hT hn
 exact I1.track hn (Nat.le_trans I.sz hT) f1 f4 f5 ⟨(by show 2 <= sizeLine; decide),[u,v],.cons rx (.cons ry .nil),⟨_,ho,rfl,_,rfl⟩⟩
theorem Qu {P:Program} {w:World} {K:PySem.W.Frag} {es:List Expr} {kk:Nat} {ps:Pos} {b c:Bool} {z ti to i1 i2 l1 l2:Addr} (D:ZApart z ti to i1 i2) :
  Turn P w K (.Tuple es kk ps) (Itz K b c l1 l2) [z,ti,to,i1,i2] z (fun i h=>ZSt b c z ti to i1 i2 l1 l2 i h) where
 mem:=by simp
 obj:=fun i h st d hd=>by
  have nc:∀ {o:Obj} {vs:Array Value},o.data = .fields vs -> ∀ v,o.data ≠ .cell v:=fun e v q=>by rw [e] at q; cases q
  simp only [List.mem_cons,List.not_mem_nil,or_false] at hd
  rcases hd with rfl | rfl | rfl | rfl | rfl
  ·exact ⟨_,st.z,fun v q=>by cases q⟩
  ·exact ⟨_,st.ti,fun v q=>by cases q⟩
  ·obtain ⟨u, v, e⟩ := st.to
   exact ⟨_,e,fun v q=>by cases q⟩
  ·obtain ⟨o, e, _, hd⟩ := st.i1.obj
   exact ⟨o,e,nc hd⟩
  ·obtain ⟨o, e, _, hd⟩ := st.i2.obj
   exact ⟨o,e,nc hd⟩
 keep:=fun i h h' st k=>by
  obtain ⟨u,v,e⟩:=st.to
  exact ⟨k z (by simp) _ st.z,k ti (by simp) _ st.ti,⟨u,v,k to (by simp) _ e⟩,st.i1.at fun o q=>k i1 (by simp) o q,st.i2.at fun o q=>k i2 (by simp) o q⟩
 item:=by
  intro X hP hw hK hc i pins s σ H E I hf st hg
  subst hP hw hK
  obtain ⟨xs,ys,x,y,q1,q2,hx,hy⟩:=hg
  obtain ⟨is1,r1,p1⟩:=I.seqB q1
  obtain ⟨is2,r2,p2⟩:=I.seqB q2
  obtain ⟨u,hu,ru⟩:=r1.get hx
  obtain ⟨v,hv,rv⟩:=r2.get hy
  have hfto:=hf to (by simp)
  refine zb2 D st p1 p2 (I.ne_fp q1 hfto) (I.ne_fp q2 hfto) (x:=u) (y:=v) (by simpa using hu) (by simpa using hv) fun h' M hT kp=>?_
  have lt:∀ {d:Addr},d ∈ [z,ti,to,i1,i2] -> s.heap.objs.size ≠ d:=fun {d} hd e=>by
   obtain ⟨o,q⟩:∃ o,s.heap.get? d = some o:=by
    simp only [List.mem_cons,List.not_mem_nil,or_false] at hd
    rcases hd with rfl | rfl | rfl | rfl | rfl
    ·exact ⟨_,st.z⟩
    ·exact ⟨_,st.ti⟩
    ·obtain ⟨u,v,e⟩:=st.to; exact ⟨_,e⟩
    ·obtain ⟨o,e,_⟩:=st.i1.obj; exact ⟨o,e⟩
    ·obtain ⟨o,e,_⟩:=st.i2.obj; exact ⟨o,e⟩
   have:=Heap.lt_size q
   rw [<- e] at this
   exact Nat.lt_irrefl _ this
  refine ⟨_,rfl,wpAny_letOwnedTupleGo_zip (s:={ s with heap:=h' }) M.z fun h'' z' sb=>?_⟩
  have kp2:∀ d o,d ∉ [z,ti,to,i1,i2] -> s.heap.get? d = some o -> h''.get? d = some o:=fun d o hd e=>by
   simp only [List.mem_cons,List.not_mem_nil,or_false,not_or] at hd
   exact sb.extBut _ _ hd.1 (kp d o hd.1 hd.2.2.1 hd.2.2.2.1 hd.2.2.2.2 e)
  have I1:Inv X pins σ H { s with heap:=h'' }:=I.turnedL (t':=s.toks) kp2 hf
  have hn:H s.heap.objs.size = none:=I.hok.fresh (Nat.le_refl _)
  have I2:Inv X pins σ (upd H s.heap.objs.size (.tup [x,y])) { s with heap:=h'' }:=newTup I I1 (Nat.le_refl _) hn (sb.extBut _ _ (lt (by simp)) hT) ru rv
  obtain ⟨u',v',eto⟩:=M.to
  refine ⟨.ref s.heap.objs.size,_,I2,rfl,⟨_,hn,rfl,fun xs' ys' e1 e2=>⟨x,y,by rw [I.seqB_inj e1 q1]; exact hx,by rw [I.seqB_inj e2 q2]; exact hy,rfl⟩⟩,?_,fun d hd=>?_⟩
  ·exact ⟨z',sb.extBut _ _ D.a1 M.ti,⟨u',v',sb.extBut _ _ D.a2 eto⟩,M.i1.at fun o e=>sb.extBut _ _ D.a3 e,M.i2.at fun o e=>sb.extBut _ _ D.a4 e⟩
  ·rw [zG (Ne.symm (lt hd))]; exact (hf d hd).1
 done:=by
  intro X hP hw hK hc i pins s σ H E I hf st hg
  subst hP hw hK
  obtain ⟨xs,ys,q1,q2,hx⟩:=hg
  obtain ⟨is1,r1,p1⟩:=I.seqB q1
  obtain ⟨is2,r2,p2⟩:=I.seqB q2
  have hfto:=hf to (by simp)
  have e1:=r1.length
  have e2:=r2.length
  refine Xa (I.ok.hd hc) D st p1 p2 (I.ne_fp q1 hfto) (I.ne_fp q2 hfto) (hx.imp (fun z=>by simp; lia) fun z=>by simp; lia) fun h' kp=>⟨rfl,I.turnedL (t':=s.toks) (fun d o hd e=>?_) hf⟩
  simp only [List.mem_cons,List.not_mem_nil,or_false,not_or] at hd
  exact kp d o hd.1 hd.2.2.1 hd.2.2.2.1 hd.2.2.2.2 e
 self:=fun _ _ _ _ _ st h=>wpAny_pyIter_zip st.z h
def xi0 (K:PySem.W.Frag) (ta:TA):TI:=fun σ H R=>ta σ H fun vs H1=>∃ b c l1 l2 xs ys,vs = [.ref l1,.ref l2] /\ SqB K b H1 l1 xs /\ SqB K c H1 l2 ys /\ R (Itz K b c l1 l2) H1
theorem zv7 {es:List Expr} {kk:Nat} {ps:Pos} {a b:Expr} {ta:TA} {p pos:Pos} (hg:Gl X "zip") (hm:X.mg "zip" = none) (ha:PA X [a,b] ta) (hs:starEach [a,b] X.env = [(false,eval a X.env),(false,eval b X.env)]:=by rfl) (hs2:starEach [b] X.env = [(false,eval b X.env)]:=by rfl) :
  PI X (.Tuple es kk ps) (.Call (.Name "zip" p) [a,b] [] pos) (xi0 X.K ta):=by
 intro pins s σ H R I h
 refine Call_ (jX I hg hm boot_zip (PyProof.Rows.callWith_type1 (thn (ha pos pins s σ H _ I h) fun us s1 ⟨vs,H1,I1,r1,q1⟩=>?_) (by rw [hs,hs2]) (by rw [hs2]; rfl)))
 obtain ⟨bb,cc,l1,l2,xs,ys,e,q1,q2,q⟩:=q1
 subst e
 cases r1 with
 | cons r rr =>
  cases rr with
  | cons r' rr =>
   cases rr
   cases r
   cases r'
   obtain ⟨is1,r1,p1⟩:=I1.seqB q1
   obtain ⟨is2,r2,p2⟩:=I1.seqB q2
   refine zd8 p1 p2 fun h' z ti to i1 i2 D S new kp=>wpAny_pyIter_zip S.z ?_
   exact ⟨z,[z,ti,to,i1,i2],_,_,H1,rfl,I1.kept (t':=s1.toks) kp,Qu D,S,fun d hd=>I1.fpOk (new d hd) (I1.hok.fresh (new d hd)),q⟩
end
end L2
set_option maxRecDepth 100000
namespace L2
open PySem PySem.Spec PyProof.Rows
section
variable {X:Cx} {pins:List (Addr × Obj)} {σ:St} {H:Hp} {s:Shared}
theorem Vals.bools {us:List Value}:∀ {bs:List Bool},Vals (bs.map V.bl) us -> us = bs.map Value.bool:=by
 induction us with
 | nil=>intro bs h; cases bs with | nil=>rfl | cons=>cases h
 | cons u us ih =>
  intro bs h
  cases bs with
  | nil=>cases h
  | cons b bs =>
   cases h with
   | cons r t =>
    have e:u = Value.bool b:=r
    rw [e,ih t]; rfl
theorem zj2 (bs:List Bool):((List.range bs.length).all fun i=>(bs[i]?).getD true) = bs.all id:=by
 rw [Bool.eq_iff_iff,List.all_eq_true,List.all_eq_true]
 constructor
 ·intro h b hb
  obtain ⟨i,hi,e⟩:=List.mem_iff_getElem.mp hb
  have:=h i (List.mem_range.mpr hi)
  rw [List.getElem?_eq_getElem hi,e] at this
  exact this
 ·intro h i hi
  have hi':=List.mem_range.mp hi
  rw [List.getElem?_eq_getElem hi']
  exact h _ (List.getElem_mem hi')
theorem zj1 (bs:List Bool):((List.range bs.length).any fun i=>(bs[i]?).getD false) = bs.any id:=by
 rw [Bool.eq_iff_iff,List.any_eq_true,List.any_eq_true]
 constructor
 ·rintro ⟨i, hi, h⟩
  have hi':=List.mem_range.mp hi
  rw [List.getElem?_eq_getElem hi'] at h
  exact ⟨_,List.getElem_mem hi',h⟩
 ·rintro ⟨b, hb, h⟩
  obtain ⟨i,hi,e⟩:=List.mem_iff_getElem.mp hb
  exact ⟨i,List.mem_range.mpr hi,by rw [List.getElem?_eq_getElem hi,e]; exact h⟩
theorem Vl {h h':Heap} {o:Obj} (hk:∀ b x,b ∉ [h.objs.size] -> (h.push o).get? b = some x -> h'.get? b = some x):∀ b x,h.get? b = some x -> h'.get? b = some x :=
 fun b x e=>hk b x (fun z=>absurd (Heap.lt_size e) (by rw [List.mem_singleton.mp z]; exact Nat.lt_irrefl _)) (Heap.get?_push_of_some _ e)
theorem ZW (hc:X.calm = true):va X (.builtin "all") (fun xs H Q=>∃ (p:Addr) (bs:List Bool),xs = [.ref p] /\ SqL X.K H p (bs.map V.bl) /\ Q (.bl (bs.all id)) H):=by
 intro pins s σ H xs us Q I r h
 obtain ⟨p,bs,rfl,hq,q⟩:=h
 cases r with
 | cons r rr =>
  cases rr
  cases r
  obtain ⟨its,rv,pl,_⟩:=I.list hq
  have ei:=Vals.bools rv
  subst ei
  have hl:=pl.isList
  have hlt:p < s.heap.objs.size:=by obtain ⟨_,e,_⟩:=hl; exact Heap.lt_size e
  refine call_all_walk (wpAny_pyIter_list hl ⟨s.heap.objs.size,[s.heap.objs.size,p],[s.heap.objs.size],(bs.map Value.bool).toArray.size,_,_,fun i=>(bs[i]?).getD true,rfl,
   Walks.list (A:=X.A.in1) (I.ok.hd hc) _ p (Nat.ne_of_lt hlt) _,⟨⟨_,Heap.get?_push_size _ rfl,rfl,rfl⟩,hl.push _⟩,fun i v s' Q' E' hP hQ=>?_,fun h' tk hk=>?_⟩)
  ·have hP' : (bs.map Value.bool)[i]? = some v := by simpa using hP
   rw [List.getElem?_map] at hP'
   cases e:bs[i]? with
   | none=>rw [e] at hP'; cases hP'
   | some b =>
    rw [e] at hP'
    have hQ':Q' ((bs[i]?).getD true) s':=hQ
    rw [e] at hQ'
    cases hP'
    exact wpAny_truthy_bool hQ'
  ·refine ⟨.bl (bs.all id), H, I.kept (Vl hk), ?_, q⟩
   show Value.bool _ = Value.bool _
   rw [List.size_toArray,List.length_map,zj2]
theorem ZV (hc:X.calm = true):va X (.builtin "any") (fun xs H Q=>∃ (p:Addr) (bs:List Bool),xs = [.ref p] /\ SqL X.K H p (bs.map V.bl) /\ Q (.bl (bs.any id)) H):=by
 intro pins s σ H xs us Q I r h
 obtain ⟨p,bs,rfl,hq,q⟩:=h
 cases r with
 | cons r rr =>
  cases rr
  cases r
  obtain ⟨its,rv,pl,_⟩:=I.list hq
  have ei:=Vals.bools rv
  subst ei
  have hl:=pl.isList
  have hlt:p < s.heap.objs.size:=by obtain ⟨_,e,_⟩:=hl; exact Heap.lt_size e
  refine call_any_walk (wpAny_pyIter_list hl ⟨s.heap.objs.size,[s.heap.objs.size,p],[s.heap.objs.size],(bs.map Value.bool).toArray.size,_,_,fun i=>(bs[i]?).getD false,rfl,
   Walks.list (A:=X.A.in1) (I.ok.hd hc) _ p (Nat.ne_of_lt hlt) _,⟨⟨_,Heap.get?_push_size _ rfl,rfl,rfl⟩,hl.push _⟩,fun i v s' Q' E' hP hQ=>?_,fun h' tk hk=>?_⟩)
  ·have hP' : (bs.map Value.bool)[i]? = some v := by simpa using hP
   rw [List.getElem?_map] at hP'
   cases e:bs[i]? with
   | none=>rw [e] at hP'; cases hP'
   | some b =>
    rw [e] at hP'
    have hQ':Q' ((bs[i]?).getD false) s':=hQ
    rw [e] at hQ'
    cases hP'
    exact wpAny_truthy_bool hQ'
  ·refine ⟨.bl (bs.any id), H, I.kept (Vl hk), ?_, q⟩
   show Value.bool _ = Value.bool _
   rw [List.size_toArray,List.length_map,zj1]
theorem qX:OpR X (compareOp .IsNot) (fun x y H Q=>∃ c d,x = .bl c /\ y = .bl d /\ Q (.bl (c != d)) H):=by
 intro pins s σ H x y v u Q I rx ry h
 obtain ⟨c,d,rfl,rfl,q⟩:=h
 cases rx; cases ry
 exact isnot_bool ⟨.bl _,H,I,rfl,q⟩
theorem jH:fillsNumberSlot (.type "tuple") "mul" = pure false :=
 PySem.fillsNumberSlot_seq (id := "tuple.__mul__") (r:=some (.builtin "tuple.__rmul__")) F.slot_tuple_mul.lookup (by decide +kernel) F.slot_tuple_rmul.lookup (by decide +kernel)
theorem zj3:seqRepeat? (.type "tuple") = pure (some (.builtin "tuple.__mul__")):=by
 unfold seqRepeat?
 rw [PySem.seqSlot_of (T := "tuple") (name := "__mul__") (id := "tuple.__mul__") F.slot_tuple_mul.lookup (by decide +kernel),PySem.seqSlot_of (T := "tuple") (name := "__rmul__") (id := "tuple.__rmul__") F.slot_tuple_rmul.lookup (by decide +kernel)]
 rfl
theorem QB (a:Int) (t:Tok) (l:Addr) (o:Obj) (items:Array Value) (n:Nat) :
  Meets (Builtin.«int.__rmul__» ⟨[.int a t,.ref l],[]⟩) (fun _ R s=>s.heap.get? l = some o /\ o.cls = .type "tuple" /\ o.data = .seq items n /\ R (.ok (.ret Value.notImplemented)) s) :=
 .of_wp fun prog w A R s h=>by
  obtain ⟨hp,g,d,tk,os⟩:=s
  obtain ⟨hl,hc,hd,h⟩:=h
  obtain ⟨c,dd,dt,sl⟩:=o
  replace hc:c = .type "tuple" := hc
  replace hd:dt = .seq items n:=hd
  subst hc hd
  wp_walk
  exact ⟨_,rfl,h⟩
theorem zm9 (l:Addr) (o:Obj) (items:Array Value) (n:Nat) (k:Int) (t:Tok) (h1:¬ (decide (k < -(2 ^ 63)) || decide (k >= 2 ^ 63)) = true) (he:items.isEmpty = false) (hk1:(k == 1) = false) (hk0:(decide (k <= 0) || items.isEmpty) = false)
    (hcap:¬ (items.size:Int) * k > (2 ^ 63 - 1) / 8) (htoo:¬ Builtin.Tuple.tupleTooMany ((items.size:Int) * k) = true) (hz:((List.replicate k.toNat items).foldl (· ++ ·) #[]).size <= sizeLine) :
    Meets (Builtin.«tuple.__mul__» ⟨[.ref l,.int k t],[]⟩) (fun _ R s=>s.heap.get? l = some o /\ o.cls = .type "tuple" /\ o.data = .seq items n /\
      R (.ok (.ret (.ref s.heap.objs.size))) { s with heap:=s.heap.push { cls:=.type "tuple",data:=.seq ((List.replicate k.toNat items).foldl (· ++ ·) #[]) } }) :=
  .of_wp fun prog w A R s h=>by
    obtain ⟨hp,g,d,tk,os⟩:=s
    obtain ⟨hl,hc,hd,h⟩:=h
    obtain ⟨c,dd,dt,sl⟩:=o
    replace hc:c = .type "tuple" := hc
    replace hd:dt = .seq items n:=hd
    subst hc hd
    wp_walk
    rw [if_neg h1]
    wp_walk
    rw [hk0,if_neg Bool.false_ne_true]
    dsimp only
    rw [if_neg hcap,if_neg htoo]
    unfold Builtin.Tuple.tupleExact
    refine wpAny_bind (wpAny_newTuple ?_)
    exact wpAny_pure ⟨_,rfl,h⟩
theorem zb3 (l:Addr) (o:Obj) (items:Array Value) (n:Nat) (t:Tok) :
  Meets (Builtin.«tuple.__mul__» ⟨[.ref l,.int 1 t],[]⟩) (fun _ R s=>s.heap.get? l = some o /\ o.cls = .type "tuple" /\ o.data = .seq items n /\ R (.ok (.ret (.ref l))) s) :=
 .of_wp fun prog w A R s h=>by
  obtain ⟨hp,g,d,tk,os⟩:=s
  obtain ⟨hl,hc,hd,h⟩:=h
  obtain ⟨c,dd,dt,sl⟩:=o
  replace hc:c = .type "tuple" := hc
  replace hd:dt = .seq items n:=hd
  subst hc hd
  wp_walk
  exact ⟨_,rfl,h⟩
def zt9 (K:PySem.W.Frag):R2:=fun x y H Q=>∃ l k xs,x = .ref l /\ y = .int k /\ SqT K H l xs /\ xs ≠ [] /\ 1 <= k /\ xs.length * k.toNat <= sizeLine /\
 (k = 1 -> Q (.ref l) H) /\ (k ≠ 1 -> ∀ p,H p = none -> Q (.ref p) (upd H p (.tup (List.replicate k.toNat xs).flatten)))
theorem zl4:OpR X (binaryOp .Mult) (zt9 X.K):=by
 intro pins s σ H x y v u Q I rx ry h
 obtain ⟨l,k,xs,rfl,rfl,hq,hne,h1,hz,q1,q2⟩:=h
 cases rx
 obtain ⟨t,rfl⟩:=ry
 obtain ⟨its,rv,⟨o,e,hc,n,hd⟩,_⟩:=I.tuple hq
 have hlen:=rv.length
 have hpos:0 < its.length:=by rw [<- hlen]; exact List.length_pos_iff.mpr hne
 have tyT:s.TypeIs (.ref l) "tuple" := ⟨o,e,hc⟩
 refine wpAny_binaryOp_repeat_ref (T := "tuple") (U := "int") (by decide) tyT (fun s'=>typeIs_int s' k t) jH F.fills_int_mul F.slot_int_rmul zj3 F.slot_int_index.lookup
  (call_meets F.slot_int_rmul (typeIs_int s k t) F.entry_int_rmul (F.args_int_rmul_2 _ _) (QB k t l o its.toArray n) ⟨e,hc,hd,rfl,tyT,?_⟩)
 by_cases hk:k = 1
 ·subst hk
  exact call_meets F.slot_tuple_mul tyT F.entry_tuple_mul (F.args_tuple_mul_2 _ _) (zb3 l o its.toArray n t) ⟨e,hc,hd,⟨.ref l,H,I,rfl,q1 rfl⟩⟩
 ·have hk2 : (2 : Int) <= k := by lia
  have hnat:its.length * k.toNat <= sizeLine:=by rw [<- hlen]; exact hz
  have hprod:((its.toArray.size:Nat):Int) * k = ((its.length * k.toNat:Nat):Int):=by
   rw [List.size_toArray,Int.natCast_mul,Int.toNat_of_nonneg (by lia)]
  have hsl:(sizeLine:Int) = 16777216:=by decide
  have hb:((its.length * k.toNat:Nat):Int) <= 16777216:=by rw [<- hsl]; exact Int.ofNat_le.mpr hnat
  have hkle:k <= 16777216:=by
   have:k.toNat <= its.length * k.toNat:=Nat.le_mul_of_pos_left _ hpos
   lia
  have hnew:List.foldl (fun x1 x2=>x1 ++ x2) #[] (List.replicate k.toNat its.toArray) = (List.replicate k.toNat its).flatten.toArray:=by
   have:=Xo its k.toNat []
   rw [List.nil_append] at this
   exact this
  refine call_meets F.slot_tuple_mul tyT F.entry_tuple_mul (F.args_tuple_mul_2 _ _) (zm9 l o its.toArray n k t ?_ ?_ ?_ ?_ ?_ ?_ ?_) ⟨e,hc,hd,?_⟩
  ·rw [Bool.or_eq_true,decide_eq_true_eq,decide_eq_true_eq]; lia
  ·cases its with
   | nil=>simp at hpos
   | cons=>rfl
  ·simpa using hk
  ·rw [Bool.or_eq_false_iff]
   refine ⟨decide_eq_false (by lia),?_⟩
   cases its with
   | nil=>simp at hpos
   | cons=>rfl
  ·rw [hprod]; lia
  ·unfold Builtin.Tuple.tupleTooMany
   rw [hprod,decide_eq_true_eq,hsl]; lia
  ·rw [hnew,List.size_toArray,KR,Nat.mul_comm]; exact hnat
  ·rw [hnew]
   refine ⟨.ref _,_,I.laid (o:=.tup (List.replicate k.toNat xs).flatten) (t':=s.toks) (fun _ _ z=>Heap.get?_push_of_some _ z) (Nat.le_refl _) ⟨by rw [KR,Nat.mul_comm]; exact hz,_,rv.rep k.toNat,⟨_,Heap.get?_push_size _ rfl,rfl,_,rfl⟩⟩,rfl,q2 hk _ I.fresh⟩
def zT1 (T:String):V -> Bool
 | .bl _=>T == "bool" || T == "int"
 | .int _=>T == "int"
 | .str _=>T == "str"
 | _=>false
def zV9 (K:PySem.W.Frag) (T:String) (x:V) (H:Hp) (Q:VK):Prop:=match x with
 | .ref a=>(∃ xs,SqT K H a xs /\ Q (.bl (T == "tuple")) H) \/ (∃ xs,SqL K H a xs /\ Q (.bl (T == "list")) H) \/ (∃ kvs,H a = some (.dK kvs) /\ Q (.bl false) H)
 | .non=>Q (.bl false) H
 | .bl b=>Q (.bl (zT1 T (.bl b))) H
 | .int i=>Q (.bl (zT1 T (.int i))) H
 | .str i=>Q (.bl (zT1 T (.str i))) H
 | _=>False
theorem vJ:va X (.builtin "isinstance") (fun xs H Q=>∃ x T,xs = [x,.ty T] /\ (T = "bool" \/ T = "int" \/ T = "str" \/ T = "tuple" \/ T = "list") /\ zV9 X.K T x H Q):=by
 intro pins s σ H xs us Q I r h
 obtain ⟨x,T,rfl,hT,q⟩:=h
 cases r with
 | cons r rr =>
  cases rr with
  | cons r' rr =>
   cases rr
   cases r'
   cases x with
   | non =>
    cases r
    rcases hT with rfl | rfl | rfl | rfl | rfl
    ·exact IsiPair.NoneType_bool ⟨.bl false,H,I.tok _,rfl,q⟩
    ·exact IsiPair.NoneType_int ⟨.bl false,H,I.tok _,rfl,q⟩
    ·exact IsiPair.NoneType_str ⟨.bl false,H,I.tok _,rfl,q⟩
    ·exact IsiPair.NoneType_tuple ⟨.bl false,H,I.tok _,rfl,q⟩
    ·exact IsiPair.NoneType_list ⟨.bl false,H,I.tok _,rfl,q⟩
   | bl b =>
    cases r
    rcases hT with rfl | rfl | rfl | rfl | rfl
    ·exact IsiPair.bool_bool ⟨.bl true,H,I,rfl,q⟩
    ·exact IsiPair.bool_int ⟨.bl true,H,I,rfl,q⟩
    ·exact IsiPair.bool_str ⟨.bl false,H,I.tok _,rfl,q⟩
    ·exact IsiPair.bool_tuple ⟨.bl false,H,I.tok _,rfl,q⟩
    ·exact IsiPair.bool_list ⟨.bl false,H,I.tok _,rfl,q⟩
   | int i =>
    obtain ⟨t,rfl⟩:=r
    rcases hT with rfl | rfl | rfl | rfl | rfl
    ·exact IsiPair.int_bool ⟨.bl false,H,I.tok _,rfl,q⟩
    ·exact IsiPair.int_int ⟨.bl true,H,I,rfl,q⟩
    ·exact IsiPair.int_str ⟨.bl false,H,I.tok _,rfl,q⟩
    ·exact IsiPair.int_tuple ⟨.bl false,H,I.tok _,rfl,q⟩
    ·exact IsiPair.int_list ⟨.bl false,H,I.tok _,rfl,q⟩
   | str i =>
    obtain ⟨t,rfl⟩:=r
    rcases hT with rfl | rfl | rfl | rfl | rfl
    ·exact IsiPair.str_bool ⟨.bl false,H,I.tok _,rfl,q⟩
    ·exact IsiPair.str_int ⟨.bl false,H,I.tok _,rfl,q⟩
    ·exact IsiPair.str_str ⟨.bl true,H,I,rfl,q⟩
    ·exact IsiPair.str_tuple ⟨.bl false,H,I.tok _,rfl,q⟩
    ·exact IsiPair.str_list ⟨.bl false,H,I.tok _,rfl,q⟩
   | byt _=>exact q.elim
   | flt _=>exact q.elim
   | ty _=>exact q.elim
   | ref a =>
    cases r
    rcases q with ⟨ys,hq,q⟩ | ⟨ys,hq,q⟩ | ⟨kvs,hq,q⟩
    ·obtain ⟨its, rv, ⟨o, e, hc, n, hd⟩, _⟩ := I.tuple hq
     rcases hT with rfl | rfl | rfl | rfl | rfl
     ·exact IsiPair.tuple_bool e hc ⟨.bl false,H,I.tok _,rfl,q⟩
     ·exact IsiPair.tuple_int e hc ⟨.bl false,H,I.tok _,rfl,q⟩
     ·exact IsiPair.tuple_str e hc ⟨.bl false,H,I.tok _,rfl,q⟩
     ·exact IsiPair.tuple_tuple e hc ⟨.bl true,H,I,rfl,q⟩
     ·exact IsiPair.tuple_list e hc ⟨.bl false,H,I.tok _,rfl,q⟩
    ·obtain ⟨its, rv, ⟨o, n, e, hc, hd, hs⟩, _⟩ := I.list hq
     rcases hT with rfl | rfl | rfl | rfl | rfl
     ·exact IsiPair.list_bool e hc ⟨.bl false,H,I.tok _,rfl,q⟩
     ·exact IsiPair.list_int e hc ⟨.bl false,H,I.tok _,rfl,q⟩
     ·exact IsiPair.list_str e hc ⟨.bl false,H,I.tok _,rfl,q⟩
     ·exact IsiPair.list_tuple e hc ⟨.bl false,H,I.tok _,rfl,q⟩
     ·exact IsiPair.list_list e hc ⟨.bl true,H,I,rfl,q⟩
    ·obtain ⟨_, _, vs, _, p⟩ := (show ObjOk X.prog X.w H s.heap a (.dK kvs) from I.hok a _ hq)
     obtain ⟨o,es,ep,e,h2,_⟩:=p
     have hc:=h2.1
     rcases hT with rfl | rfl | rfl | rfl | rfl
     ·exact IsiPair.dict_bool e hc ⟨.bl false,H,I.tok _,rfl,q⟩
     ·exact IsiPair.dict_int e hc ⟨.bl false,H,I.tok _,rfl,q⟩
     ·exact IsiPair.dict_str e hc ⟨.bl false,H,I.tok _,rfl,q⟩
     ·exact IsiPair.dict_tuple e hc ⟨.bl false,H,I.tok _,rfl,q⟩
     ·exact IsiPair.dict_list e hc ⟨.bl false,H,I.tok _,rfl,q⟩
end
end L2
set_option maxRecDepth 100000
namespace L2
open PySem PySem.Spec PyProof.Rows
end L2
namespace L2
open PySem PySem.Spec PyProof.Rows
section
variable (P:Program) (w:World)
end
section
variable {P:Program} {w:World} {H H':Hp} {h h':Heap} {a:Addr} {o:HO}
end
section
variable {P:Program} {w:World} {H:Hp} {h h':Heap} {x e:Addr} {o':HO}
end
section
variable {fs fs' ex ex':List Addr} {H H1 H2:Hp} {h h1 h2 h':Heap} {a x e:Addr} {o:HO}
end
end L2
namespace L2
open PySem PySem.Spec PyProof.Rows
section
variable {X:Cx} {pins:List (Addr × Obj)} {σ:List (Option V)} {H H':Hp} {s:Shared} {h':Heap}
end
end L2
namespace L2
open PySem PySem.Spec PyProof.Rows
section
variable {X:Cx}
variable {a b:Expr} {ta tb:TE} {pos:Pos}
variable {tA tB':TT} {rest:List Expr}
end
end L2
namespace L2
open PySem PySem.Spec PyProof.Rows
section
variable {X:Cx} {pins:List (Addr × Obj)} {σ:St} {H:Hp} {s:Shared} {a:Addr} {xs ys:List V}
end
section
variable {X:Cx} {pins:List (Addr × Obj)} {σ:St} {H:Hp} {s:Shared} {E:Value -> Shared -> Prop}
end
section
variable {X:Cx} {st:Stmt} {rest:List Stmt} {t u:TS} {e:Expr} {te:TE} {pos:Pos}
end
section
variable {X:Cx} {pos:Pos}
end
section
variable {X:Cx} {pos:Pos}
end
end L2
namespace L2
open PySem PySem.Spec PyProof.Rows
section
variable {X:Cx} {tg:Expr}
end
end L2
namespace L2
open PySem PySem.Spec PyProof.Rows
section
variable {X:Cx} {a b c:Expr} {ta tb tc:TE} {pos:Pos}
end
section
variable {X:Cx} {a b c:Expr} {ta tb tc:TE} {pos:Pos}
end
end L2
namespace L2
open PySem PySem.Spec PyProof.Rows
section
variable {prog:Program} {w:World} {A:Around} {E:Value -> Shared -> Prop} {s:Shared} {K:PySem.W.Frag} {x dx C f:Addr} {mA:Str -> Option Value} {name:Str} {v:Value}
end
section
variable {P:Program} {w:World} {H H':Hp} {h h':Heap} {a C dx:Addr} {fs fs':List (Str × V)}
end
section
variable {X:Cx} {pins:List (Addr × Obj)} {σ:St} {H:Hp} {s:Shared} {a C dx:Addr} {fs:List (Str × V)} {f:Str} {v:V} {A:Around} {E:Value -> Shared -> Prop}
end
section
variable {X:Cx} {o e value:Expr} {f:Str} {pos pos' tpos:Pos} {ta tv:TE}
end
section
variable {X:Cx} {pins:List (Addr × Obj)} {σ:St} {H:Hp} {s:Shared} {A:Around} {E:Value -> Shared -> Prop} {Q:Value -> Shared -> Prop} {c:Value} {b:Bool}
end
end L2
namespace L2
open PySem PySem.Spec PyProof.Rows
section
variable {X:Cx} {e:Expr} {es:List Expr} {te:TE} {t:TA} {pos:Pos}
end
section
variable {X:Cx} {pins:List (Addr × Obj)} {σ:St} {H:Hp} {s s':Shared}
end
section
variable {X:Cx} {CX:CXT} {k:Nat} {f C:Addr} {fd:FuncData} {ps:List Str} {sp:Sp} {dvs:List V} {ds:List Value} {E:XK} {x m:Str} {p pos apos:Pos} {e o:Expr} {es:List Expr} {ta:TE} {t:TA}
end
section
variable {X:Cx} {CX:CXT} {k:Nat} {f C:Addr} {fd:FuncData} {ps ks:List Str} {sp:Sp} {E:XK} {x m:Str} {p pos apos kpos:Pos} {e o:Expr} {es:List Expr} {kws:List Keyword} {te ta:TE} {t tk:TA} {nm:Option Str}
variable {g:List Value -> List Value -> List Value} {gV:List V -> List V -> List V}
end
end L2
namespace L2
open PySem PySem.Spec PyProof.Rows
section
variable {X:Cx} {x:Str} {p pos:Pos} {e:Expr} {es:List Expr} {t:TA} {id T:String} {r:List V -> Hp -> VK -> Prop}
end
end L2
namespace L2
open PySem PySem.Spec PyProof.Rows
section
variable {κ:Type} [DecidableEq κ]
end
theorem zS4 {P:Program} {w:World} {k:Key} {u:Value} (r:RelV (kV k) u):(yS P w).is k u = true:=by
 cases k with
 | inl i=>obtain ⟨t,e⟩:=(show ∃ t,u = Value.int i t from r); subst e; exact Ww P w i t
 | inr x=>obtain ⟨t,e⟩:=(show ∃ t,u = Value.str x t from r); subst e; exact Wv P w x t
section
variable {P:Program} {w:World} {H:Hp} {h:Heap} {a:Addr}
end
section
variable {X:Cx} {pins:List (Addr × Obj)} {σ:St} {H:Hp} {s:Shared} {a:Addr} {y v:V} {u r:Value} {o:Option V} {A:Around} {E:Value -> Shared -> Prop}
end
section
variable {X:Cx} {pins:List (Addr × Obj)} {σ:St} {H:Hp} {s:Shared} {a:Addr} {kvs:List (Key × V)} {k:Key} {u:Value} {A:Around} {E:Value -> Shared -> Prop}
end
def xc2 (i:Expr):Prop:=∀ ov iv,subscripted i false ov iv = operate [ov,iv] (getItem ov iv)
theorem zi5 {prog:Program} {w:World} {A:Around} {E:Value -> Shared -> Prop} {s:Shared} {env:Env} {value slice:Expr} {pos:Pos} {T id:String} {Q:Value -> Shared -> Prop}
  (hl:typeLookup (.type T) "__getitem__" = pure (some (.builtin id))) (hs:xc2 slice)
  (h:wpAny (model prog w) A (eval value env) (fun o s₁=>wpAny (model prog w) A (eval slice env) (fun i s₂=>s₂.TypeIs o T /\ wpAny (model prog w) A (getItem o i) Q E s₂) E s₁) E s) :
  wpAny (model prog w) A (eval (.Subscript value slice pos) env) Q E s:=by
 refine Subscript_ (wpAny_mono h (fun o s₁ h₁=>wpAny_mono h₁ (fun i s₂ h₂=>?_) fun _ _ x=>x) fun _ _ x=>x)
 obtain ⟨hT,h₂⟩:=h₂
 unfold subscriptTail
 refine wpAny_bind ?_
 rw [getitemInPython_of_ne hT.not_modules]
 refine wpAny_bind (wpAny_specialOf hT hl ?_)
 have fin:wpAny (model prog w) A (subscripted slice false o i) (fun r s₃=>wpAny (model prog w) A (letTemporaryGo value o r >>= fun _=>pure r) Q E s₃) E s₂:=by
  rw [hs o i]
  exact wpAny_operating (wpAny_mono h₂ (fun r s₃ h₃=>wpAny_bind (wpAny_letTemporaryGo (wpAny_pure h₃))) fun _ _ x=>x)
 first
  | exact wpAny_pure (wpAny_bind fin)
  | exact wpAny_bind (wpAny_pure (wpAny_bind fin))
  | exact wpAny_bind fin
section
variable {X:Cx} {o i e value:Expr} {pos pos' tpos:Pos} {td ty tv:TE}
end
section
variable {X:Cx} {pos:Pos}
end
section
variable {X:Cx} {pins:List (Addr × Obj)} {σ:St} {H:Hp} {s:Shared} {a:Addr} {y d:V} {u r:Value} {o:Option V} {A:Around} {E:Value -> Shared -> Prop}
end
section
variable {X:Cx} {o e f:Expr} {apos cpos:Pos} {td ty tx:TE}
end
section
variable {X:Cx} {pins:List (Addr × Obj)} {σ:St} {H:Hp} {s:Shared} {a:Addr} {kvs:List (Key × V)} {A:Around} {E:Value -> Shared -> Prop}
end
section
variable {X:Cx} {pins:List (Addr × Obj)} {σ:St} {H:Hp} {s:Shared} {a:Addr} {y:V} {u:Value} {A:Around} {E:Value -> Shared -> Prop}
end
end L2
namespace Att
open PySem PySem.W PySem.Calls PyProof.Rows
section
variable {prog:Program} {w:World} {A:Around} {E:Value -> Shared -> Prop} {s:Shared} {K:Frag}
end
end Att
namespace L2
open PySem PySem.Spec PyProof.Rows
end L2
namespace L2
open PySem PySem.Spec PyProof.Rows
end L2
namespace L2
open PySem PySem.Spec PyProof.Rows
section
variable {P:Program} {w:World} {K:PySem.W.Frag} {mg:Str -> Option Value} {base:Heap}
end
section
variable {X:Cx}
end
section
variable {κ:Type} [DecidableEq κ]
end
end L2
set_option maxRecDepth 100000
namespace L2
open PySem PySem.Spec PyProof.Rows
section
variable {prog:Program} {w:World} {A:Around} {R:Result -> Shared -> Prop} {s:Shared}
end
section
variable {X:Cx} {scope:Scope} {own M:List Str} {pins:List (Addr × Obj)} {σ:St} {H2:Hp} {s2:Shared} {fp:List Addr}
end
section
variable {X:Cx} {scope:Scope} {own M:List Str} {pins:List (Addr × Obj)} {σ:St} {H2:Hp} {s2:Shared} {tg iter kx vx:Expr} {ifs:List Expr} {pos:Pos} {g:TG} {tt:TT} {tk tv:TE}
end
end L2
set_option maxRecDepth 100000
namespace L2
open PySem PySem.Spec PyProof.Rows
inductive D where
 | non | bl (b:Bool) | int (i:Int) | str (x:Str) | ty (n:String) | tup (ds:List D) | lst (ds:List D)
 /-- a list that is known and stays -/
 | fz (ds:List D)
 /-- the list that the drawing keeps -/
 | st
 /-- a list of the frame's own (in a slot alone) -/
 | own (ds:List D)
 /-- a dict, whatever it holds -/
 | dic
 /-- a dict, known, that stays -/
 | dct (ks:List Key) (ds:List D)
def xh6 (ks:List Key) (xs:List V):List (Key × V):=List.zipWith (fun k x=>(k,x)) ks xs
abbrev zo4:Hp:=fun _=>none
def SqZ (K:PySem.W.Frag) (Z:Addr -> Prop) (H:Hp) (b:Bool) (a:Addr) (xs:List V):Prop :=
 match b with
 | true=>¬ Z a /\ H a = some (.lst xs)
 | false=>(¬ Z a /\ Rd H a (.tup xs)) \/ SqT K zo4 a xs
def SqF (K:PySem.W.Frag) (Z:Addr -> Prop) (H:Hp) (a:Addr) (xs:List V):Prop:=(¬ Z a /\ ∃ o,H a = some (.frz o (.lst xs))) \/ SqL K zo4 a xs
mutual
def Rep (K:PySem.W.Frag) (G:Option Addr) (Z:Addr -> Prop) (H:Hp):D -> V -> Prop
 | .non,v=>v = .non
 | .bl b,v=>v = .bl b
 | .int i,v=>v = .int i
 | .str x,v=>v = .str x
 | .ty n,v=>v = .ty n
 | .tup ds,v=>∃ a xs,v = .ref a /\ SqZ K Z H false a xs /\ Reps K G Z H ds xs
 | .lst ds,v=>∃ a xs,v = .ref a /\ SqZ K Z H true a xs /\ Reps K G Z H ds xs
 | .fz ds,v=>∃ a xs,v = .ref a /\ SqF K Z H a xs /\ Reps K G Z H ds xs
 | .st,v=>∃ a,G = some a /\ v = .ref a
 | .own _,_=>False
 | .dic,v=>∃ a kvs,v = .ref a /\ ¬ Z a /\ H a = some (.dK kvs)
 | .dct ks ds,v=>∃ a xs,v = .ref a /\ (¬ Z a /\ H a = some (.dK (xh6 ks xs))) /\ Reps K G Z H ds xs
def Reps (K:PySem.W.Frag) (G:Option Addr) (Z:Addr -> Prop) (H:Hp):List D -> List V -> Prop
 | [],vs=>vs = []
 | d :: ds,vs=>∃ v r,vs = v :: r /\ Rep K G Z H d v /\ Reps K G Z H ds r
end
section
variable {K:PySem.W.Frag} {G:Option Addr} {Z Z':Addr -> Prop} {H H':Hp}
theorem SqT.anyH {a:Addr} {xs:List V} (h:SqT K zo4 a xs):SqT K H a xs:=by
 rcases h with (h | ⟨o,h⟩) | h
 ·cases h
 ·cases h
 ·exact .inr h
theorem SqZ.sq {b:Bool} {a:Addr} {xs:List V} (h:SqZ K Z H b a xs):SqB K b H a xs:=by
 cases b with
 | true=>exact SqL.of h.2
 | false =>
  rcases h with ⟨_,h⟩ | h
  ·exact .inl h
  ·exact SqT.anyH h
theorem SqZ.mono {b:Bool} {a:Addr} {xs:List V} (h:SqZ K Z H b a xs) (hz:∀ a,H a ≠ none -> Z' a -> Z a) (hf:∀ a o,¬ Z a -> H a = some o -> H' a = some o):SqZ K Z' H' b a xs:=by
 cases b with
 | true=>exact ⟨fun z=>h.1 (hz a (by rw [h.2]; simp) z),hf a _ h.1 h.2⟩
 | false =>
  rcases h with ⟨n,h⟩ | h
  ·refine .inl ⟨fun z => n (hz a ?_ z), ?_⟩
   ·rcases h with h | ⟨o,h⟩ <;> (rw [h]; simp)
   ·rcases h with h | ⟨o, h⟩
    ·exact .inl (hf a _ n h)
    ·exact .inr ⟨o,hf a _ n h⟩
  ·exact .inr h
mutual
theorem Rep.mono (hz:∀ a,H a ≠ none -> Z' a -> Z a) (hf:∀ a o,¬ Z a -> H a = some o -> H' a = some o):∀ (d:D) (v:V),Rep K G Z H d v -> Rep K G Z' H' d v
 | .non,v,h=>by unfold Rep at h ⊢; exact h
 | .bl b,v,h=>by unfold Rep at h ⊢; exact h
 | .int b,v,h=>by unfold Rep at h ⊢; exact h
 | .str b,v,h=>by unfold Rep at h ⊢; exact h
 | .ty b,v,h=>by unfold Rep at h ⊢; exact h
 | .st,v,h=>by unfold Rep at h ⊢; exact h
 | .own _,v,h=>by unfold Rep at h; exact h.elim
 | .dic,v,h=>by
  unfold Rep at h ⊢
  obtain ⟨a,kvs,e,n,q⟩:=h
  exact ⟨a,kvs,e,fun z=>n (hz a (by rw [q]; simp) z),hf a _ n q⟩
 | .dct ks ds,v,h=>by
  unfold Rep at h ⊢
  obtain ⟨a,xs,e,⟨n,q⟩,r⟩:=h
  exact ⟨a,xs,e,⟨fun z=>n (hz a (by rw [q]; simp) z),hf a _ n q⟩,Reps.mono hz hf ds xs r⟩
 | .tup ds,v,h=>by
  unfold Rep at h ⊢
  obtain ⟨a,xs,e,q,r⟩:=h
  exact ⟨a,xs,e,q.mono hz hf,Reps.mono hz hf ds xs r⟩
 | .lst ds,v,h=>by
  unfold Rep at h ⊢
  obtain ⟨a,xs,e,q,r⟩:=h
  exact ⟨a,xs,e,q.mono hz hf,Reps.mono hz hf ds xs r⟩
 | .fz ds,v,h=>by
  unfold Rep at h ⊢
  obtain ⟨a,xs,e,q,r⟩:=h
  refine ⟨a,xs,e,?_,Reps.mono hz hf ds xs r⟩
  rcases q with ⟨n,o,q⟩ | q
  ·exact .inl ⟨fun z=>n (hz a (by rw [q]; simp) z),o,hf a _ n q⟩
  ·exact .inr q
theorem Reps.mono (hz:∀ a,H a ≠ none -> Z' a -> Z a) (hf:∀ a o,¬ Z a -> H a = some o -> H' a = some o):∀ (ds:List D) (vs:List V),Reps K G Z H ds vs -> Reps K G Z' H' ds vs
 | [],vs,h=>by unfold Reps at h ⊢; exact h
 | d :: ds,vs,h=>by
  unfold Reps at h ⊢
  obtain ⟨v,r,e,q,t⟩:=h
  exact ⟨v,r,e,Rep.mono hz hf d v q,Reps.mono hz hf ds r t⟩
end
theorem Reps.nil:Reps K G Z H [] []:=by unfold Reps; rfl
theorem Reps.cons {d:D} {ds:List D} {v:V} {vs:List V} (h:Rep K G Z H d v) (t:Reps K G Z H ds vs):Reps K G Z H (d :: ds) (v :: vs):=by unfold Reps; exact ⟨v,vs,rfl,h,t⟩
theorem Reps.inv {d:D} {ds:List D} {v:V} {vs:List V} (h:Reps K G Z H (d :: ds) (v :: vs)):Rep K G Z H d v /\ Reps K G Z H ds vs:=by
 unfold Reps at h
 obtain ⟨v',r,e,q,t⟩:=h
 cases e
 exact ⟨q,t⟩
theorem Reps.split {d:D} {ds:List D} {vs:List V} (h:Reps K G Z H (d :: ds) vs):∃ v r,vs = v :: r /\ Rep K G Z H d v /\ Reps K G Z H ds r:=by unfold Reps at h; exact h
theorem Reps.nil_inv {vs:List V} (h:Reps K G Z H [] vs):vs = []:=by unfold Reps at h; exact h
theorem Reps.length:∀ {ds:List D} {vs:List V},Reps K G Z H ds vs -> vs.length = ds.length
 | [],vs,h=>by rw [h.nil_inv]; rfl
 | d :: ds,vs,h=>by
  obtain ⟨v,r,rfl,_,t⟩:=h.split
  rw [List.length_cons,List.length_cons,Reps.length t]
theorem Reps.get:∀ {ds:List D} {vs:List V} {i:Nat} {d:D},Reps K G Z H ds vs -> ds[i]? = some d -> ∃ v,vs[i]? = some v /\ Rep K G Z H d v
 | [],vs,i,d,_,e=>by simp at e
 | c :: ds,vs,0,d,h,e=>by
  obtain ⟨v,r,rfl,q,t⟩:=h.split
  simp at e; subst e
  exact ⟨v,rfl,q⟩
 | c :: ds,vs,i + 1,d,h,e=>by
  obtain ⟨v,r,rfl,q,t⟩:=h.split
  obtain ⟨u,e1,e2⟩:=Reps.get (i:=i) t (by simpa using e)
  exact ⟨u,by simpa using e1,e2⟩
theorem Reps.append:∀ {ds es:List D} {vs ws:List V},Reps K G Z H ds vs -> Reps K G Z H es ws -> Reps K G Z H (ds ++ es) (vs ++ ws)
 | [],es,vs,ws,h,h'=>by rw [h.nil_inv]; exact h'
 | d :: ds,es,vs,ws,h,h'=>by
  obtain ⟨v,r,rfl,q,t⟩:=h.split
  exact .cons q (Reps.append t h')
theorem Reps.drop:∀ {ds:List D} {vs:List V} (n:Nat),Reps K G Z H ds vs -> Reps K G Z H (ds.drop n) (vs.drop n)
 | ds,vs,0,h=>h
 | [],vs,n + 1,h=>by rw [h.nil_inv]; exact .nil
 | d :: ds,vs,n + 1,h=>by
  obtain ⟨v,r,rfl,q,t⟩:=h.split
  exact Reps.drop n t
theorem Reps.take:∀ {ds:List D} {vs:List V} (n:Nat),Reps K G Z H ds vs -> Reps K G Z H (ds.take n) (vs.take n)
 | ds,vs,0,h=>.nil
 | [],vs,n + 1,h=>by rw [h.nil_inv]; exact .nil
 | d :: ds,vs,n + 1,h=>by
  obtain ⟨v,r,rfl,q,t⟩:=h.split
  exact .cons q (Reps.take n t)
theorem Reps.flatRep {ds:List D} {vs:List V} (h:Reps K G Z H ds vs):∀ k:Nat,Reps K G Z H (List.replicate k ds).flatten (List.replicate k vs).flatten
 | 0=>.nil
 | k + 1=>by
  rw [List.replicate_succ,List.replicate_succ,List.flatten_cons,List.flatten_cons]
  exact h.append (Reps.flatRep h k)
end
def yv:D -> Bool
 | .non=>true | .bl _=>true | .int _=>true | .str _=>true | .ty _=>true | _=>false
def ofS:D -> V
 | .bl b=>.bl b | .int i=>.int i | .str x=>.str x | .ty n=>.ty n | _=>.non
theorem Rep.ofS {K:PySem.W.Frag} {G:Option Addr} {Z:Addr -> Prop} {H:Hp}:∀ {d:D},yv d = true -> Rep K G Z H d (ofS d)
 | .non,_=>by unfold Rep; rfl
 | .bl b,_=>by unfold Rep; rfl
 | .int b,_=>by unfold Rep; rfl
 | .str b,_=>by unfold Rep; rfl
 | .ty b,_=>by unfold Rep; rfl
 | .tup ds,h=>by simp [yv] at h
 | .lst ds,h=>by simp [yv] at h
 | .st,h=>by simp [yv] at h
 | .fz ds,h=>by simp [yv] at h
 | .own ds,h=>by simp [yv] at h
theorem Rep.toS {K:PySem.W.Frag} {G:Option Addr} {Z:Addr -> Prop} {H:Hp} {v:V}:∀ {d:D},yv d = true -> Rep K G Z H d v -> v = L2.ofS d
 | .non,_,h=>by unfold Rep at h; exact h
 | .bl b,_,h=>by unfold Rep at h; exact h
 | .int b,_,h=>by unfold Rep at h; exact h
 | .str b,_,h=>by unfold Rep at h; exact h
 | .ty b,_,h=>by unfold Rep at h; exact h
 | .tup ds,h,_=>by simp [yv] at h
 | .lst ds,h,_=>by simp [yv] at h
 | .st,h,_=>by simp [yv] at h
 | .fz ds,h,_=>by simp [yv] at h
 | .own ds,h,_=>by simp [yv] at h
theorem Rep.int_inv {K:PySem.W.Frag} {G:Option Addr} {Z:Addr -> Prop} {H:Hp} {v:V} {i:Int} (h:Rep K G Z H (.int i) v):v = .int i:=by unfold Rep at h; exact h
theorem Rep.bl_inv {K:PySem.W.Frag} {G:Option Addr} {Z:Addr -> Prop} {H:Hp} {v:V} {i:Bool} (h:Rep K G Z H (.bl i) v):v = .bl i:=by unfold Rep at h; exact h
theorem Rep.tup_inv {K:PySem.W.Frag} {G:Option Addr} {Z:Addr -> Prop} {H:Hp} {v:V} {ds:List D} (h:Rep K G Z H (.tup ds) v):∃ a xs,v = .ref a /\ SqZ K Z H false a xs /\ Reps K G Z H ds xs:=by unfold Rep at h; exact h
theorem Rep.lst_inv {K:PySem.W.Frag} {G:Option Addr} {Z:Addr -> Prop} {H:Hp} {v:V} {ds:List D} (h:Rep K G Z H (.lst ds) v):∃ a xs,v = .ref a /\ SqZ K Z H true a xs /\ Reps K G Z H ds xs:=by unfold Rep at h; exact h
theorem Rep.fz_inv {K:PySem.W.Frag} {G:Option Addr} {Z:Addr -> Prop} {H:Hp} {v:V} {ds:List D} (h:Rep K G Z H (.fz ds) v):∃ a xs,v = .ref a /\ SqL K H a xs /\ Reps K G Z H ds xs:=by
 unfold Rep at h
 obtain ⟨a,xs,e,q,r⟩:=h
 refine ⟨a,xs,e,?_,r⟩
 rcases q with ⟨_,o,q⟩ | q
 ·exact .inl (.inr ⟨o,q⟩)
 ·rcases q with (q | ⟨o, q⟩) | q
  ·cases q
  ·cases q
  ·exact .inr q
theorem Rep.tup_mk {K:PySem.W.Frag} {G:Option Addr} {Z:Addr -> Prop} {H:Hp} {a:Addr} {xs:List V} {ds:List D} (q:SqZ K Z H false a xs) (r:Reps K G Z H ds xs):Rep K G Z H (.tup ds) (.ref a):=by unfold Rep; exact ⟨a,xs,rfl,q,r⟩
theorem Rep.lst_mk {K:PySem.W.Frag} {G:Option Addr} {Z:Addr -> Prop} {H:Hp} {a:Addr} {xs:List V} {ds:List D} (q:SqZ K Z H true a xs) (r:Reps K G Z H ds xs):Rep K G Z H (.lst ds) (.ref a):=by unfold Rep; exact ⟨a,xs,rfl,q,r⟩
def zh7 (G:Option Addr) (n:Nat) (H:Hp):Prop:=∀ a,G = some a -> ∃ (zs:List Int) (_ _:Nat),H a = some (.lst (zs.map V.int)) /\ zs.length = n /\ (∀ x ∈ zs,0 <= x) /\ ∀ x,zs[1]? = some x -> x < 2147483647
structure AC where
 K:PySem.W.Frag
 G:Option Addr
 Z0:Addr -> Prop
 H0:Hp
abbrev Rho:=List (Option D)
def Zof (A:AC) (os:List (Nat × Addr)):Addr -> Prop:=fun a=>A.Z0 a \/ ∃ p ∈ os,p.2 = a
def SlotR (A:AC) (os:List (Nat × Addr)) (H:Hp) (i:Nat):D -> V -> Prop
 | .own ds,v=>∃ a xs,v = .ref a /\ (i,a) ∈ os /\ H a = some (.lst xs) /\ Reps A.K A.G (Zof A os) H ds xs
 | d,v=>Rep A.K A.G (Zof A os) H d v
def yz:List Str:=["_law_grown"]
def yn (K:PySem.W.Frag) (P:Addr) (q:Str):Prop:=∃ x ∈ yz,∃ c,PySem.W.tabIn K x = some (c,P) /\ q = (x ++ ".<locals>.") ++ "<lambda>"
def ZOk (K:PySem.W.Frag) (G:Option Addr) (Z:Addr -> Prop) (H:Hp):Prop:=(∀ a,Z a -> H a ≠ none) /\ ∀ P q,yn K P q -> H P = some (.cot q) /\ G ≠ some P
structure AmO (A:AC) (os:List (Nat × Addr)) (n:Nat) (rho:Rho) (sg:St) (H:Hp) (ds:List D) (vs:List V):Prop where
 len:rho.length = sg.length
 slot:∀ i d,rho[i]? = some (some d) -> ∃ v,sg[i]? = some (some v) /\ SlotR A os H i d v
 pend:Reps A.K A.G (Zof A os) H ds vs
 nd:os.Pairwise fun p q=>p.1 ≠ q.1 /\ p.2 ≠ q.2
 fresh:∀ p ∈ os,A.H0 p.2 = none /\ ¬ A.Z0 p.2 /\ H p.2 ≠ none
 st:zh7 A.G n H
 gz:∀ a,A.G = some a -> A.Z0 a
 fr:∀ a o,A.G ≠ some a -> A.H0 a = some o -> H a = some o
 z0:ZOk A.K A.G A.Z0 A.H0
def Am (A:AC) (n:Nat) (rho:Rho) (sg:St) (H:Hp) (ds:List D) (vs:List V):Prop:=∃ os,AmO A os n rho sg H ds vs
section
variable {A:AC} {os:List (Nat × Addr)} {n:Nat} {rho:Rho} {sg:St} {H:Hp} {ds:List D} {vs:List V} {d:D} {v:V}
theorem AmO.zH (I:AmO A os n rho sg H ds vs):∀ a,Zof A os a -> H a ≠ none:=fun a h=>by
 rcases h with h | ⟨p,hp,rfl⟩
 ·by_cases e : A.G = some a
  ·obtain ⟨x, y, z, q, _⟩ := I.st a e
   rw [q]; simp
  ·cases q : A.H0 a with
   | none=>exact absurd q (I.z0.1 a h)
   | some o=>rw [I.fr a o e q]; simp
 ·exact (I.fresh p hp).2.2
theorem AmO.zO (I:AmO A os n rho sg H ds vs):ZOk A.K A.G (Zof A os) H:=⟨I.zH,fun P q t=>⟨I.fr P _ (I.z0.2 P q t).2 (I.z0.2 P q t).1,(I.z0.2 P q t).2⟩⟩
theorem SlotR.mono {os':List (Nat × Addr)} {H':Hp} {i:Nat} (hz:∀ a,H a ≠ none -> Zof A os' a -> Zof A os a) (hf:∀ a o,¬ Zof A os a -> H a = some o -> H' a = some o)
  (ho:∀ a xs,(i,a) ∈ os -> H a = some (.lst xs) -> (i,a) ∈ os' /\ H' a = some (.lst xs)):∀ (d:D) (v:V),SlotR A os H i d v -> SlotR A os' H' i d v
 | .own ds,v,h=>by
  obtain ⟨a,xs,e,m,q,r⟩:=h
  obtain ⟨m',q'⟩:=ho a xs m q
  exact ⟨a,xs,e,m',q',Reps.mono hz hf ds xs r⟩
 | .non,v,h=>Rep.mono hz hf _ _ h
 | .bl _,v,h=>Rep.mono hz hf _ _ h
 | .int _,v,h=>Rep.mono hz hf _ _ h
 | .str _,v,h=>Rep.mono hz hf _ _ h
 | .ty _,v,h=>Rep.mono hz hf _ _ h
 | .tup _,v,h=>Rep.mono hz hf _ _ h
 | .lst _,v,h=>Rep.mono hz hf _ _ h
 | .st,v,h=>Rep.mono hz hf _ _ h
 | .fz _,v,h=>Rep.mono hz hf _ _ h
 | .dic,v,h=>Rep.mono hz hf _ _ h
 | .dct _ _,v,h=>Rep.mono hz hf _ _ h
def zu:D -> Bool
 | .own _=>false
 | _=>true
theorem SlotR.rep {i:Nat}:∀ {d:D} {v:V},zu d = true -> SlotR A os H i d v -> Rep A.K A.G (Zof A os) H d v
 | .own _,_,h,_=>by simp [zu] at h
 | .non,_,_,h=>h
 | .bl _,_,_,h=>h
 | .int _,_,_,h=>h
 | .str _,_,_,h=>h
 | .ty _,_,_,h=>h
 | .tup _,_,_,h=>h
 | .lst _,_,_,h=>h
 | .st,_,_,h=>h
 | .fz _,_,_,h=>h
 | .dic,_,_,h=>h
 | .dct _ _,_,_,h=>h
theorem SlotR.of {i:Nat}:∀ {d:D} {v:V},Rep A.K A.G (Zof A os) H d v -> SlotR A os H i d v
 | .own _,_,h=>by unfold Rep at h; exact h.elim
 | .non,_,h=>h
 | .bl _,_,h=>h
 | .int _,_,h=>h
 | .str _,_,h=>h
 | .ty _,_,h=>h
 | .tup _,_,h=>h
 | .lst _,_,h=>h
 | .st,_,h=>h
 | .fz _,_,h=>h
 | .dic,_,h=>h
 | .dct _ _,_,h=>h
theorem AmO.push (I:AmO A os n rho sg H ds vs) (h:Rep A.K A.G (Zof A os) H d v):AmO A os n rho sg H (d :: ds) (v :: vs) :=
 ⟨I.len,I.slot,.cons h I.pend,I.nd,I.fresh,I.st,I.gz,I.fr,I.z0⟩
theorem AmO.pends {es:List D} {ws:List V} (I:AmO A os n rho sg H ds vs) (h:Reps A.K A.G (Zof A os) H es ws):AmO A os n rho sg H es ws :=
 ⟨I.len,I.slot,h,I.nd,I.fresh,I.st,I.gz,I.fr,I.z0⟩
theorem AmO.pop (I:AmO A os n rho sg H (d :: ds) (v :: vs)):AmO A os n rho sg H ds vs /\ Rep A.K A.G (Zof A os) H d v:=⟨I.pends I.pend.inv.2,I.pend.inv.1⟩
theorem AmO.grow {p:Addr} {o:HO} (I:AmO A os n rho sg H ds vs) (hp:H p = none):AmO A os n rho sg (upd H p o) ds vs:=by
 have hf:∀ a u,H a = some u -> upd H p o a = some u:=fun a u e=>by rw [zG (zU e hp)]; exact e
 refine ⟨I.len,fun i d e=>?_,Reps.mono (fun _ _ z=>z) (fun a u _ e=>hf a u e) _ _ I.pend,I.nd,fun q hq=>?_,fun a e=>?_,I.gz,fun a u h e=>hf a u (I.fr a u h e),I.z0⟩
 ·obtain ⟨v, e1, e2⟩ := I.slot i d e
  exact ⟨v,e1,SlotR.mono (fun _ _ z=>z) (fun a u _ e=>hf a u e) (fun a xs m q=>⟨m,hf a _ q⟩) _ _ e2⟩
 ·obtain ⟨f1, f2, f3⟩ := I.fresh q hq
  refine ⟨f1,f2,?_⟩
  cases e:H q.2 with
  | none=>exact absurd e f3
  | some u=>rw [hf _ _ e]; simp
 ·obtain ⟨x, y, z, q, r⟩ := I.st a e
  exact ⟨x,y,z,hf _ _ q,r⟩
theorem AmO.newTup {p:Addr} {es:List D} {xs:List V} (I:AmO A os n rho sg H ds vs) (r:Reps A.K A.G (Zof A os) H es xs) (hp:H p = none):AmO A os n rho sg (upd H p (.tup xs)) (.tup es :: ds) (.ref p :: vs):=by
 have g:=I.grow (o:=.tup xs) hp
 refine g.push (.tup_mk (.inl ⟨fun z=>I.zH p z hp,.inl xg⟩) ?_)
 exact Reps.mono (fun _ _ z=>z) (fun a u _ e=>by rw [zG (zU e hp)]; exact e) _ _ r
theorem AmO.newLst {p:Addr} {es:List D} {xs:List V} (I:AmO A os n rho sg H ds vs) (r:Reps A.K A.G (Zof A os) H es xs) (hp:H p = none):AmO A os n rho sg (upd H p (.lst xs)) (.lst es :: ds) (.ref p :: vs):=by
 have g:=I.grow (o:=.lst xs) hp
 refine g.push (.lst_mk ⟨fun z=>I.zH p z hp,xg⟩ ?_)
 exact Reps.mono (fun _ _ z=>z) (fun a u _ e=>by rw [zG (zU e hp)]; exact e) _ _ r
theorem AmO.set {i:Nat} (I:AmO A os n rho sg H (d :: ds) (v :: vs)) (hi:i < rho.length):AmO A (os.filter fun p=>decide (p.1 ≠ i)) n (rho.set i (some d)) (sg.set i (some v)) H ds vs:=by
 obtain ⟨J,hr⟩:=I.pop
 have sub:∀ a,H a ≠ none -> Zof A (os.filter fun p=>decide (p.1 ≠ i)) a -> Zof A os a:=fun a _ z=>by
  rcases z with z | ⟨p,hp,e⟩
  ·exact .inl z
  ·exact .inr ⟨p,(List.mem_filter.mp hp).1,e⟩
 refine ⟨by simp [I.len],fun j c e=>?_,Reps.mono sub (fun _ _ _ e=>e) _ _ J.pend,I.nd.filter _,fun p hp=>I.fresh p (List.mem_filter.mp hp).1,I.st,I.gz,I.fr,I.z0⟩
 by_cases hj:j = i
 ·subst hj
  rw [List.getElem?_set_self hi] at e
  cases e
  exact ⟨v,List.getElem?_set_self (by rw [<- I.len]; exact hi),SlotR.of (Rep.mono sub (fun _ _ _ e=>e) _ _ hr)⟩
 ·rw [List.getElem?_set_ne (Ne.symm hj)] at e
  obtain ⟨u,e1,e2⟩:=I.slot j c e
  exact ⟨u,by rw [List.getElem?_set_ne (Ne.symm hj)]; exact e1,SlotR.mono sub (fun _ _ _ e=>e) (fun a xs m q=>⟨List.mem_filter.mpr ⟨m,by simpa using hj⟩,q⟩) _ _ e2⟩
end
abbrev TD:=Rho -> Nat -> (D -> Nat -> Prop) -> Prop
abbrev TBD:=Rho -> Nat -> (Bool -> Nat -> Prop) -> Prop
abbrev TAD:=Rho -> Nat -> (List D -> Nat -> Prop) -> Prop
def tOf (A:AC) (t:TD):TE:=fun sg H Q=>∃ rho n P ds vs,Am A n rho sg H ds vs /\ t rho n P /\ ∀ v H' n' d,Am A n' rho sg H' (d :: ds) (v :: vs) -> P d n' -> Q v H'
def VD (A:AC) (t:TBD):TT:=fun sg H Q=>∃ rho n P ds vs,Am A n rho sg H ds vs /\ t rho n P /\ ∀ b H' n',Am A n' rho sg H' ds vs -> P b n' -> Q b H'
def zU9 (A:AC) (t:TAD):TA:=fun sg H Q=>∃ rho n P ds vs,Am A n rho sg H ds vs /\ t rho n P /\ ∀ ws H' n' es,Am A n' rho sg H' (es ++ ds) (ws ++ vs) -> ws.length = es.length -> P es n' -> Q ws H'
@[irreducible] def PD (A:AC) (X:Cx) (e:Expr) (t:TD):Prop:=PE X e (tOf A t)
@[irreducible] def PTD (A:AC) (X:Cx) (e:Expr) (t:TBD):Prop:=PT X e (VD A t)
@[irreducible] def PWD (A:AC) (X:Cx) (e:Expr) (t:TBD):Prop:=PW X e (VD A t)
@[irreducible] def PAD (A:AC) (X:Cx) (es:List Expr) (t:TAD):Prop:=PA X es (zU9 A t)
theorem PE.imp {X:Cx} {e:Expr} {t t':TE} (h:PE X e t) (hi:∀ sg H Q,t' sg H Q -> t sg H Q):PE X e t':=fun pins s sg H Q I q=>h pins s sg H Q I (hi _ _ _ q)
theorem PT.imp {X:Cx} {e:Expr} {t t':TT} (h:PT X e t) (hi:∀ sg H Q,t' sg H Q -> t sg H Q):PT X e t':=fun pins s sg H Q I q=>h pins s sg H Q I (hi _ _ _ q)
theorem PW.imp {X:Cx} {e:Expr} {t t':TT} (h:PW X e t) (hi:∀ sg H Q,t' sg H Q -> t sg H Q):PW X e t':=fun wh pins s sg H Q I q=>h wh pins s sg H Q I (hi _ _ _ q)
theorem PA.imp {X:Cx} {e:List Expr} {t t':TA} (h:PA X e t) (hi:∀ sg H Q,t' sg H Q -> t sg H Q):PA X e t':=fun ps pins s sg H Q I q=>h ps pins s sg H Q I (hi _ _ _ q)
theorem PS.imp {X:Cx} {e:Stmt} {t t':TS} (h:PS X e t) (hi:∀ E sg H,t' E sg H -> t E sg H):PS X e t':=fun pins s sg H Q I q=>h pins s sg H Q I (hi _ _ _ q)
theorem PSs.imp {X:Cx} {e:List Stmt} {t t':TS} (h:PSs X e t) (hi:∀ E sg H,t' E sg H -> t E sg H):PSs X e t':=fun pins s sg H Q I q=>h pins s sg H Q I (hi _ _ _ q)
end L2
set_option maxRecDepth 100000
namespace L2
open PySem PySem.Spec PyProof.Rows
section
variable {A:AC} {X:Cx} {a b c e:Expr} {es:List Expr} {ta tb tc:TD} {pos:Pos}
def atD (d:D) (k:D -> Prop):Prop:=match d with
 | .own _=>False
 | .non=>k .non
 | .bl b=>k (.bl b)
 | .int b=>k (.int b)
 | .str b=>k (.str b)
 | .ty b=>k (.ty b)
 | .tup b=>k (.tup b)
 | .lst b=>k (.lst b)
 | .fz b=>k (.fz b)
 | .st=>k .st
 | .dic=>k .dic
 | .dct a b=>k (.dct a b)
theorem JZ {d:D} {k:D -> Prop} (h:atD d k):zu d = true /\ k d:=by
 cases d <;> first | exact ⟨rfl,h⟩ | exact h.elim
theorem zD1 {d:D} {k:D -> Prop} (h:zu d = true) (q:k d):atD d k:=by
 cases d <;> first | exact q | (simp [zu] at h; done)
def atV (o:Option (Option D)) (k:D -> Prop):Prop:=match o with | some (some d)=>atD d k | _=>False
theorem zp5 {o:Option (Option D)} {k:D -> Prop} (h:atV o k):∃ d,o = some (some d) /\ zu d = true /\ k d:=by
 match o,h with
 | some (some d),h=>exact ⟨d,rfl,JZ h⟩
def xb2 (i:Nat):TD:=fun rho n P=>atV rho[i]? fun d=>P d n
def dC (d:D):TD:=fun _ n P=>P d n
theorem zc (i:Nat) {x:Str} (hN:X.N[i]? = some x:=by rfl) (hv:Vis X.env.scope x:=by first | exact Or.inl rfl | exact Or.inr (Or.inl rfl) | exact Or.inr (Or.inr rfl)) (hd:(x == ("__debug__" : Str)) = false:=by decide)
  (hcd:(x == ("__classdict__" : Str)) = false:=by decide):PD A X (.Name x pos) (xb2 i):=by
 with_unfolding_all
  exact (vf hN hv hd hcd).imp fun sg H Q h=>by
   obtain ⟨rho,n,P,ds,vs,⟨os,I⟩,hh,hQ⟩:=h
   obtain ⟨d,e,hd,q⟩:=zp5 hh
   obtain ⟨v,e1,e2⟩:=I.slot i d e
   exact ⟨v,e1,hQ v H n d ⟨os,I.push (e2.rep hd)⟩ q⟩
theorem Jz {d:D} (hs:yv d = true) {t:TE} (ht:∀ sg H Q,Q (ofS d) H -> t sg H Q) (h:PE X e t):PD A X e (dC d):=by
 with_unfolding_all
  exact h.imp fun sg H Q q=>by
   obtain ⟨rho,n,P,ds,vs,⟨os,I⟩,q,hQ⟩:=q
   exact ht _ _ _ (hQ _ H n d ⟨os,I.push (Rep.ofS hs)⟩ q)
theorem ze {i:Int} {j:Nat}:PD A X (.Constant (.int i) j pos) (dC (.int i)):=by
 with_unfolding_all
  exact Jz rfl (fun _ _ _ q=>q) Vf
theorem wT {i:Bool} {j:Nat}:PD A X (.Constant (.bool i) j pos) (dC (.bl i)):=by
 with_unfolding_all
  exact Jz rfl (fun _ _ _ q=>q) zw6
theorem zT {j:Nat}:PD A X (.Constant .none j pos) (dC .non):=by
 with_unfolding_all
  exact Jz rfl (fun _ _ _ q=>q) zw4
theorem wt {x:Str} {j:Nat}:PD A X (.Constant (.str x) j pos) (dC (.str x)):=by
 with_unfolding_all
  exact Jz rfl (fun _ _ _ q=>q) zw1
theorem VO {x:Str} {T:String} (hg:Gl X x:=by rfl) (hm:X.mg x = none) (hv:bootBuiltins x = some (.type T)) (hn:x ≠ "__name__" := by decide) (hd:(x == ("__debug__" : Str)) = false:=by decide):PD A X (.Name x pos) (dC (.ty T)):=by
 with_unfolding_all
  exact
   Jz rfl (fun _ _ _ q=>q) (zl2 hg hm hv (v:=.ty T) rfl hn hd)
abbrev RD2:=D -> D -> (D -> Prop) -> Prop
def yo (A:AC) (r:R2) (rd:RD2):Prop :=
 ∀ os n rho sg H ds vs d1 d2 v1 v2 (k:D -> Prop) (Q:VK),AmO A os n rho sg H (d2 :: d1 :: ds) (v2 :: v1 :: vs) -> rd d1 d2 k -> (∀ v H' d,Am A n rho sg H' (d :: ds) (v :: vs) -> k d -> Q v H') -> r v1 v2 H Q
def dOp (rd:RD2) (ta tb:TD):TD:=fun rho n P=>ta rho n fun d1 n1=>tb rho n1 fun d2 n2=>rd d1 d2 fun d=>P d n2
def Ju (t:TD):TBD:=fun rho n P=>t rho n fun d n'=>∃ b,d = .bl b /\ P b n'
theorem WQ {r:R2} {rd:RD2} (hr:yo A r rd) {sg:St} {H:Hp} {Q:VK} (h:tOf A (dOp rd ta tb) sg H Q):tOp r (tOf A ta) (tOf A tb) sg H Q:=by
 obtain ⟨rho,n,P,ds,vs,I,ht,hQ⟩:=h
 exact ⟨rho,n,_,ds,vs,I,ht,fun v1 H1 n1 d1 I1 h1=>⟨rho,n1,_,d1 :: ds,v1 :: vs,I1,h1,fun v2 H2 n2 d2 ⟨os2,I2⟩ h2=>hr _ _ _ _ _ _ _ _ _ _ _ _ Q I2 h2 fun v H' d J k=>hQ v H' n2 d J k⟩⟩
theorem Zu {t:TE} {td:TD} (h:∀ sg H Q,tOf A td sg H Q -> t sg H Q) {sg:St} {H:Hp} {Q:Bool -> Hp -> Prop} (q:VD A (Ju td) sg H Q):zr6 t sg H Q:=by
 obtain ⟨rho,n,P,ds,vs,I,ht,hQ⟩:=q
 refine h _ _ _ ⟨rho,n,_,ds,vs,I,ht,fun v H' n' d ⟨os,J⟩ k=>?_⟩
 obtain ⟨b,rfl,k⟩:=k
 obtain ⟨J1,r⟩:=J.pop
 exact ⟨b,r.bl_inv,hQ b H' n' ⟨os,J1⟩ k⟩
theorem vh {op:Operator} {r:R2} {rd:RD2} (ho:OpR X (binaryOp op) r) (hr:yo A r rd) (ha:PD A X a ta) (hb:PD A X b tb):PD A X (.BinOp a op b pos) (dOp rd ta tb):=by
 with_unfolding_all
  exact (zR5 ho ha hb).imp fun _ _ _=>WQ hr
theorem wJ {op:CmpOp} {r:R2} {rd:RD2} (ho:OpR X (compareOp op) r) (hr:yo A r rd) (ha:PD A X a ta) (hb:PD A X b tb) (hm:behindInMarks op b = false):PD A X (.Compare a [op] [b] pos) (dOp rd ta tb):=by
 with_unfolding_all
  exact (zl1 ho ha hb hm).imp fun _ _ _=>WQ hr
theorem zt {op:CmpOp} {r:R2} {rd:RD2} (ho:OpR X (compareOp op) r) (hr:yo A r rd) (ha:PD A X a ta) (hb:PD A X b tb) (hm:behindInMarks op b = false):PTD A X (.Compare a [op] [b] pos) (Ju (dOp rd ta tb)):=by
 with_unfolding_all
  exact
   (UY ho ha hb hm).imp fun _ _ _=>Zu fun _ _ _=>WQ hr
theorem zE {r:R2} {rd:RD2} (hi:IxR X r) (hr:yo A r rd) (ha:PD A X a ta) (hb:PD A X b tb) (hs:Yb b):PD A X (.Subscript a b pos) (dOp rd ta tb):=by
 with_unfolding_all
  exact (zk9 hi ha hb hs).imp fun _ _ _=>WQ hr
theorem wl (ha:PD A X a ta) (he:∀ whole,isTrue a X.env whole = (do let v <- whole; standAt a.pos; holding [v] (truthy v)):=by intro _; rfl):PTD A X a (Ju ta):=by
 with_unfolding_all
  exact (zv3 ha he).imp fun _ _ _=>Zu fun _ _ _ q=>q
def rdI (C:Int -> Int -> Prop) (g:Int -> Int -> D):RD2:=fun d1 d2 k=>match d1,d2 with | .int i,.int j=>C i j /\ k (g i j) | _,_=>False
theorem zj5 {C:Int -> Int -> Prop} {g:Int -> Int -> D} {d1 d2:D} {k:D -> Prop} (h:rdI C g d1 d2 k):∃ i j,d1 = .int i /\ d2 = .int j /\ C i j /\ k (g i j):=by
 unfold rdI at h
 split at h
 ·exact ⟨_,_,rfl,rfl,h⟩
 ·exact h.elim
def QH (g:Int -> Int -> D):RD2:=fun d1 d2 k=>match d1,d2 with | .int i,.int j=>k (g i j) | _,_=>False
theorem QG {g:Int -> Int -> D} {d1 d2:D} {k:D -> Prop} (h:QH g d1 d2 k):∃ i j,d1 = .int i /\ d2 = .int j /\ k (g i j):=by
 unfold QH at h
 split at h
 ·exact ⟨_,_,rfl,rfl,h⟩
 ·exact h.elim
theorem QD {C:Int -> Int -> Prop} {g:Int -> Int -> V} {gd:Int -> Int -> D} (hs:∀ i j,yv (gd i j) = true) (hg:∀ i j,ofS (gd i j) = g i j):yo A (rI C g) (rdI C gd):=by
 rintro os n rho sg H ds vs d1 d2 v1 v2 k Q I hh hQ
 obtain ⟨i,j,rfl,rfl,hc,q⟩:=zj5 hh
 obtain ⟨I1,r2⟩:=I.pop
 obtain ⟨I2,r1⟩:=I1.pop
 exact ⟨i,j,r1.int_inv,r2.int_inv,hc,hQ _ H _ ⟨os,I2.push (by rw [<- hg]; exact Rep.ofS (hs i j))⟩ q⟩
theorem YG {g:Int -> Int -> V} {gd:Int -> Int -> D} (hs:∀ i j,yv (gd i j) = true) (hg:∀ i j,ofS (gd i j) = g i j):yo A (rI0 g) (QH gd):=by
 rintro os n rho sg H ds vs d1 d2 v1 v2 k Q I hh hQ
 obtain ⟨i,j,rfl,rfl,q⟩:=QG hh
 obtain ⟨I1,r2⟩:=I.pop
 obtain ⟨I2,r1⟩:=I1.pop
 exact ⟨i,j,r1.int_inv,r2.int_inv,hQ _ H _ ⟨os,I2.push (by rw [<- hg]; exact Rep.ofS (hs i j))⟩ q⟩
abbrev xj4:TD -> TD -> TD:=dOp (QH fun i j=>.int (i + j))
abbrev xi5:TD -> TD -> TD:=dOp (QH fun i j=>.int (i - j))
abbrev xi9:TD -> TD -> TD:=dOp (rdI CMul fun i j=>.int (i * j))
abbrev xj0:TD -> TD -> TD:=dOp (rdI (fun _ j=>0 < j) fun i j=>.int (i % j))
abbrev xj3:TD -> TD -> TD:=dOp (rdI xc4 fun i j=>.int (i / j))
abbrev xi8:TD -> TD -> TD:=dOp (rdI xc3 fun i j=>.int (i ^ j.toNat))
theorem wP (ha:PD A X a ta) (hb:PD A X b tb):PD A X (.BinOp a .Add b pos) (xj4 ta tb):=by
 with_unfolding_all
  exact vh zx9 (YG (fun _ _=>rfl) fun _ _=>rfl) ha hb
theorem jU (ha:PD A X a ta) (hb:PD A X b tb):PD A X (.BinOp a .Sub b pos) (xi5 ta tb):=by
 with_unfolding_all
  exact vh zx2 (YG (fun _ _=>rfl) fun _ _=>rfl) ha hb
theorem yW (ha:PD A X a ta) (hb:PD A X b tb):PD A X (.BinOp a .Mult b pos) (xi9 ta tb):=by
 with_unfolding_all
  exact vh zx5 (QD (fun _ _=>rfl) fun _ _=>rfl) ha hb
theorem yq (ha:PD A X a ta) (hb:PD A X b tb):PD A X (.BinOp a .Mod b pos) (xj0 ta tb):=by
 with_unfolding_all
  exact vh zx6 (QD (fun _ _=>rfl) fun _ _=>rfl) ha hb
theorem qi (ha:PD A X a ta) (hb:PD A X b tb):PD A X (.BinOp a .FloorDiv b pos) (xj3 ta tb):=by
 with_unfolding_all
  exact vh zl5 (QD (fun _ _=>rfl) fun _ _=>rfl) ha hb
theorem YO (ha:PD A X a ta) (hb:PD A X b tb):PD A X (.BinOp a .Pow b pos) (xi8 ta tb):=by
 with_unfolding_all
  exact vh zx3 (QD (fun _ _=>rfl) fun _ _=>rfl) ha hb
abbrev xd8:RD2:=QH fun i j=>.bl (decide (i < j))
abbrev xd9:RD2:=QH fun i j=>.bl (decide (j < i))
abbrev xe0:RD2:=QH fun i j=>.bl (decide (j <= i))
theorem QE:yo A (rI0 fun i j=>.bl (decide (i < j))) xd8:=YG (g:=fun i j=>.bl (decide (i < j))) (fun _ _=>rfl) fun _ _=>rfl
theorem qR:yo A (rI0 fun i j=>.bl (decide (j < i))) xd9:=YG (g:=fun i j=>.bl (decide (j < i))) (fun _ _=>rfl) fun _ _=>rfl
theorem zt0:yo A (rI0 fun i j=>.bl (decide (j <= i))) xe0:=YG (g:=fun i j=>.bl (decide (j <= i))) (fun _ _=>rfl) fun _ _=>rfl
def zf3:RD2:=fun d1 d2 k=>yv d1 = true /\ yv d2 = true /\ zD5 (ofS d1) (ofS d2) = true /\ k (.bl (decide (ofS d1 = ofS d2)))
def zq0:RD2:=fun d1 d2 k=>yv d1 = true /\ yv d2 = true /\ zD5 (ofS d1) (ofS d2) = true /\ k (.bl (!decide (ofS d1 = ofS d2)))
theorem kN:yo A rEq zf3:=by
 rintro os n rho sg H ds vs d1 d2 v1 v2 k Q I ⟨h1,h2,h3,q⟩ hQ
 obtain ⟨I1,r2⟩:=I.pop
 obtain ⟨I2,r1⟩:=I1.pop
 rw [r1.toS h1,r2.toS h2]
 exact ⟨h3,hQ _ H _ ⟨os,I2.push (Rep.ofS rfl)⟩ q⟩
theorem zs9:yo A rNe zq0:=by
 rintro os n rho sg H ds vs d1 d2 v1 v2 k Q I ⟨h1,h2,h3,q⟩ hQ
 obtain ⟨I1,r2⟩:=I.pop
 obtain ⟨I2,r1⟩:=I1.pop
 rw [r1.toS h1,r2.toS h2]
 exact ⟨h3,hQ _ H _ ⟨os,I2.push (Rep.ofS rfl)⟩ q⟩
def wO:D -> Bool
 | .non=>true
 | _=>false
theorem Rep.non_iff {K:PySem.W.Frag} {G:Option Addr} {Z:Addr -> Prop} {H:Hp} {v:V}:∀ {d:D},Rep K G Z H d v -> decide (v = .non) = wO d
 | .non,h=>by unfold Rep at h; rw [h]; rfl
 | .bl b,h=>by unfold Rep at h; rw [h]; rfl
 | .int b,h=>by unfold Rep at h; rw [h]; rfl
 | .str b,h=>by unfold Rep at h; rw [h]; rfl
 | .ty b,h=>by unfold Rep at h; rw [h]; rfl
 | .st,h=>by unfold Rep at h; obtain ⟨a,_,h⟩:=h; rw [h]; rfl
 | .tup ds,h=>by obtain ⟨a,xs,h,_⟩:=h.tup_inv; rw [h]; rfl
 | .lst ds,h=>by obtain ⟨a,xs,h,_⟩:=h.lst_inv; rw [h]; rfl
 | .own ds,h=>by unfold Rep at h; exact h.elim
 | .fz ds,h=>by obtain ⟨a,xs,h,_⟩:=h.fz_inv; rw [h]; rfl
 | .dic,h=>by unfold Rep at h; obtain ⟨a,kvs,h,_⟩:=h; rw [h]; rfl
 | .dct _ _,h=>by unfold Rep at h; obtain ⟨a,xs,h,_⟩:=h; rw [h]; rfl
def zt5:RD2:=fun d1 d2 k=>d2 = .non /\ k (.bl (wO d1))
def zf2:RD2:=fun d1 d2 k=>d2 = .non /\ k (.bl (!wO d1))
theorem wr:yo A (fun x y H Q=>y = .non /\ Q (.bl (decide (x = .non))) H) zt5:=by
 rintro os n rho sg H ds vs d1 d2 v1 v2 k Q I ⟨rfl,q⟩ hQ
 obtain ⟨I1,r2⟩:=I.pop
 obtain ⟨I2,r1⟩:=I1.pop
 have e:v2 = .non:=r2.toS rfl
 exact ⟨e,by rw [r1.non_iff]; exact hQ _ H _ ⟨os,I2.push (Rep.ofS (d:=.bl (wO d1)) rfl)⟩ q⟩
theorem yw:yo A (fun x y H Q=>y = .non /\ Q (.bl (!decide (x = .non))) H) zf2:=by
 rintro os n rho sg H ds vs d1 d2 v1 v2 k Q I ⟨rfl,q⟩ hQ
 obtain ⟨I1,r2⟩:=I.pop
 obtain ⟨I2,r1⟩:=I1.pop
 have e:v2 = .non:=r2.toS rfl
 exact ⟨e,by rw [r1.non_iff]; exact hQ _ H _ ⟨os,I2.push (Rep.ofS (d:=.bl (!wO d1)) rfl)⟩ q⟩
def rdB (f:Bool -> Bool -> Bool):RD2:=fun d1 d2 k=>match d1,d2 with | .bl c,.bl d=>k (.bl (f c d)) | _,_=>False
theorem zj6 {f:Bool -> Bool -> Bool} {d1 d2:D} {k:D -> Prop} (h:rdB f d1 d2 k):∃ c d,d1 = .bl c /\ d2 = .bl d /\ k (.bl (f c d)):=by
 unfold rdB at h
 split at h
 ·exact ⟨_,_,rfl,rfl,h⟩
 ·exact h.elim
theorem zJ8 {f:Bool -> Bool -> Bool}:yo A (fun x y H Q=>∃ c d,x = .bl c /\ y = .bl d /\ Q (.bl (f c d)) H) (rdB f):=by
 rintro os n rho sg H ds vs d1 d2 v1 v2 k Q I hh hQ
 obtain ⟨c,d,rfl,rfl,q⟩:=zj6 hh
 obtain ⟨I1,r2⟩:=I.pop
 obtain ⟨I2,r1⟩:=I1.pop
 exact ⟨c,d,r1.bl_inv,r2.bl_inv,hQ _ H _ ⟨os,I2.push (Rep.ofS rfl)⟩ q⟩
def ql:RD2:=fun d1 d2 k=>∃ es i d,(d1 = .lst es \/ d1 = .tup es \/ d1 = .fz es) /\ d2 = .int i /\ atI es i = some d /\ k d
theorem ZZ {K:PySem.W.Frag} {G:Option Addr} {Z:Addr -> Prop} {H:Hp} {es:List D} {xs:List V} {i:Int} {d:D} (h:Reps K G Z H es xs) (e:atI es i = some d):∃ v,atI xs i = some v /\ Rep K G Z H d v:=by
 unfold atI at e ⊢
 rw [h.length]
 cases q:ixN es.length i with
 | none=>rw [q] at e; cases e
 | some j =>
  rw [q] at e
  exact h.get (i:=j) e
theorem zD:yo A (rIx A.K) ql:=by
 rintro os n rho sg H ds vs d1 d2 v1 v2 k Q I ⟨es,i,d,h1,rfl,h2,q⟩ hQ
 obtain ⟨I1,r2⟩:=I.pop
 obtain ⟨I2,r1⟩:=I1.pop
 rcases h1 with rfl | rfl | rfl
 ·obtain ⟨a, xs, e, sq, rs⟩ := r1.lst_inv
  obtain ⟨v,e1,rv⟩:=ZZ rs h2
  exact .inl ⟨a,xs,i,v,e,r2.int_inv,sq.sq,e1,hQ v H d ⟨os,I2.push rv⟩ q⟩
 ·obtain ⟨a, xs, e, sq, rs⟩ := r1.tup_inv
  obtain ⟨v,e1,rv⟩:=ZZ rs h2
  exact .inr (.inl ⟨a,xs,i,v,e,r2.int_inv,sq.sq,e1,hQ v H d ⟨os,I2.push rv⟩ q⟩)
 ·obtain ⟨a, xs, e, sq, rs⟩ := r1.fz_inv
  obtain ⟨v,e1,rv⟩:=ZZ rs h2
  exact .inl ⟨a,xs,i,v,e,r2.int_inv,sq,e1,hQ v H d ⟨os,I2.push rv⟩ q⟩
def zt8:RD2:=fun d1 d2 k=>∃ es fs,d1 = .lst es /\ d2 = .lst fs /\ es.length + fs.length <= sizeLine /\ k (.lst (es ++ fs))
theorem UU:yo A zW2 zt8:=by
 rintro os n rho sg H ds vs d1 d2 v1 v2 k Q I ⟨es,fs,rfl,rfl,hz,q⟩ hQ
 obtain ⟨I1,r2⟩:=I.pop
 obtain ⟨I2,r1⟩:=I1.pop
 obtain ⟨a,xs,e,sq,rs⟩:=r1.lst_inv
 obtain ⟨b,ys,e',sq',rs'⟩:=r2.lst_inv
 exact ⟨a,b,xs,ys,e,e',sq.2,sq'.2,by rw [rs.length,rs'.length]; exact hz,fun p hp=>hQ _ _ _ ⟨os,I2.newLst (rs.append rs') hp⟩ q⟩
def UV:RD2:=fun d1 d2 k=>∃ es i,d1 = .tup es /\ d2 = .int i /\ es ≠ [] /\ 1 <= i /\ es.length * i.toNat <= sizeLine /\ k (.tup (List.replicate i.toNat es).flatten)
theorem zj4:yo A (zt9 A.K) UV:=by
 rintro os n rho sg H ds vs d1 d2 v1 v2 k Q I ⟨es,i,rfl,rfl,hne,h1,hz,q⟩ hQ
 obtain ⟨I1,r2⟩:=I.pop
 obtain ⟨I2,r1⟩:=I1.pop
 have r1':=r1
 obtain ⟨a,xs,e,sq,rs⟩:=r1.tup_inv
 have hl:=rs.length
 refine ⟨a,i,xs,e,r2.int_inv,sq.sq,fun z=>hne ?_,h1,by rw [hl]; exact hz,fun hi=>?_,fun hi p hp=>?_⟩
 ·rw [z] at hl
  exact List.length_eq_zero_iff.mp hl.symm
 ·subst hi
  have e1:(List.replicate (1:Int).toNat es).flatten = es:=by simp
  rw [e1] at q
  rw [e] at r1'
  exact hQ _ H _ ⟨os,I2.push r1'⟩ q
 ·exact hQ _ _ _ ⟨os,I2.newTup (rs.flatRep i.toNat) hp⟩ q
theorem zf7 (ha:PD A X a ta):PD A X (.UnaryOp .USub a pos) (fun rho n P=>ta rho n fun d n'=>∃ i,d = .int i /\ P (.int (-i)) n'):=by
 with_unfolding_all
  exact (zR3 zr0 ha).imp fun sg H Q h=>by
   obtain ⟨rho,n,P,ds,vs,I,ht,hQ⟩:=h
   refine ⟨rho,n,_,ds,vs,I,ht,fun v H' n' d ⟨os,J⟩ k=>?_⟩
   obtain ⟨i,rfl,k⟩:=k
   obtain ⟨J1,r⟩:=J.pop
   exact ⟨i,r.int_inv,hQ _ H' n' _ ⟨os,J1.push (Rep.ofS (d:=.int (-i)) rfl)⟩ k⟩
variable {t u:TBD} {rest:List Expr}
def zU3 (t u:TBD):TBD:=fun rho n P=>t rho n fun c n1=>if c = true then u rho n1 P else P false n1
def bOr (t u:TBD):TBD:=fun rho n P=>t rho n fun c n1=>if c = true then P true n1 else u rho n1 P
def xb9 (t:TBD):TBD:=fun rho n P=>t rho n fun c n1=>P (!c) n1
theorem wS (ha:PTD A X a t):PWD A X (.BoolOp .And [a] pos) t:=by
 with_unfolding_all
  exact zk1 ha
theorem ZF (ha:PTD A X a t):PWD A X (.BoolOp .Or [a] pos) t:=by
 with_unfolding_all
  exact zv1 ha
theorem wM (ha:PTD A X a t) (hb:PWD A X (.BoolOp .And (b :: rest) pos) u):PWD A X (.BoolOp .And (a :: b :: rest) pos) (zU3 t u):=by
 with_unfolding_all
  exact (zv2 ha hb).imp fun sg H Q h=>by
   obtain ⟨rho,n,P,ds,vs,I,ht,hQ⟩:=h
   refine ⟨rho,n,_,ds,vs,I,ht,fun c H' n' J k=>?_⟩
   cases c with
   | true=>exact ⟨rho,n',P,ds,vs,J,k,hQ⟩
   | false=>exact hQ _ _ _ J k
theorem WY (ha:PTD A X a t) (hb:PWD A X (.BoolOp .Or (b :: rest) pos) u):PWD A X (.BoolOp .Or (a :: b :: rest) pos) (bOr t u):=by
 with_unfolding_all
  exact (zQ9 ha hb).imp fun sg H Q h=>by
   obtain ⟨rho,n,P,ds,vs,I,ht,hQ⟩:=h
   refine ⟨rho,n,_,ds,vs,I,ht,fun c H' n' J k=>?_⟩
   cases c with
   | false=>exact ⟨rho,n',P,ds,vs,J,k,hQ⟩
   | true=>exact hQ _ _ _ J k
theorem PWD.pt (h:PWD A X e t):PTD A X e t:=by
 with_unfolding_all
  exact PW.pt h
theorem Wo (ha:PTD A X a t):PTD A X (.UnaryOp .Not a pos) (xb9 t):=by
 with_unfolding_all
  exact (zv4 ha).imp fun sg H Q h=>by
   obtain ⟨rho,n,P,ds,vs,I,ht,hQ⟩:=h
   exact ⟨rho,n,_,ds,vs,I,ht,fun c H' n' J k=>hQ _ _ _ J k⟩
def xb8 (ta tb:TD):TD:=fun rho n P=>ta rho n fun d n1=>∃ c,d = .bl c /\ if c = true then tb rho n1 P else P (.bl false) n1
def dOr (ta tb:TD):TD:=fun rho n P=>ta rho n fun d n1=>∃ c,d = .bl c /\ if c = true then P (.bl true) n1 else tb rho n1 P
def xb6 (ta:TD):TD:=fun rho n P=>ta rho n fun d n1=>∃ c,d = .bl c /\ P (.bl (!c)) n1
theorem vk {op:BoolOp} (h:PD A X a ta):PD A X (.BoolOp op [a] pos) ta:=by
 with_unfolding_all
  exact zw2 h
theorem vm (ha:PD A X a ta) (hb:PD A X (.BoolOp .And (b :: rest) pos) tb):PD A X (.BoolOp .And (a :: b :: rest) pos) (xb8 ta tb):=by
 with_unfolding_all
  exact (zw7 ha hb).imp fun sg H Q h=>by
   obtain ⟨rho,n,P,ds,vs,I,ht,hQ⟩:=h
   refine ⟨rho,n,_,ds,vs,I,ht,fun v H' n' d ⟨os,J⟩ k=>?_⟩
   obtain ⟨c,rfl,k⟩:=k
   obtain ⟨J1,r⟩:=J.pop
   refine ⟨c,r.bl_inv,?_⟩
   cases c with
   | true=>exact ⟨rho,n',P,ds,vs,⟨os,J1⟩,k,hQ⟩
   | false=>exact hQ _ _ _ _ ⟨os,J1.push (Rep.ofS (d:=.bl false) rfl)⟩ k
theorem zR6 (ha:PD A X a ta) (hb:PD A X (.BoolOp .Or (b :: rest) pos) tb):PD A X (.BoolOp .Or (a :: b :: rest) pos) (dOr ta tb):=by
 with_unfolding_all
  exact (zR4 ha hb).imp fun sg H Q h=>by
   obtain ⟨rho,n,P,ds,vs,I,ht,hQ⟩:=h
   refine ⟨rho,n,_,ds,vs,I,ht,fun v H' n' d ⟨os,J⟩ k=>?_⟩
   obtain ⟨c,rfl,k⟩:=k
   obtain ⟨J1,r⟩:=J.pop
   refine ⟨c,r.bl_inv,?_⟩
   cases c with
   | false=>exact ⟨rho,n',P,ds,vs,⟨os,J1⟩,k,hQ⟩
   | true=>exact hQ _ _ _ _ ⟨os,J1.push (Rep.ofS (d:=.bl true) rfl)⟩ k
theorem Kk (ha:PD A X a ta):PD A X (.UnaryOp .Not a pos) (xb6 ta):=by
 with_unfolding_all
  exact (zw3 ha).imp fun sg H Q h=>by
   obtain ⟨rho,n,P,ds,vs,I,ht,hQ⟩:=h
   refine ⟨rho,n,_,ds,vs,I,ht,fun v H' n' d ⟨os,J⟩ k=>?_⟩
   obtain ⟨c,rfl,k⟩:=k
   obtain ⟨J1,r⟩:=J.pop
   exact ⟨c,r.bl_inv,hQ _ _ _ _ ⟨os,J1.push (Rep.ofS (d:=.bl (!c)) rfl)⟩ k⟩
def dIf (t:TBD) (ta tb:TD):TD:=fun rho n P=>t rho n fun c n1=>if c = true then ta rho n1 P else tb rho n1 P
theorem qm (hc:PTD A X c t) (ha:PD A X a ta) (hb:PD A X b tb):PD A X (.IfExp c a b pos) (dIf t ta tb):=by
 with_unfolding_all
  exact (Vg hc ha hb).imp fun sg H Q h=>by
   obtain ⟨rho,n,P,ds,vs,I,ht,hQ⟩:=h
   refine ⟨rho,n,_,ds,vs,I,ht,fun c H' n' J k=>?_⟩
   cases c with
   | true=>exact ⟨rho,n',P,ds,vs,J,k,hQ⟩
   | false=>exact ⟨rho,n',P,ds,vs,J,k,hQ⟩
variable {t1:TAD}
def zU4:TAD:=fun _ n P=>P [] n
def zD2 (t:TD) (r:TAD):TAD:=fun rho n P=>t rho n fun d n1=>r rho n1 fun ds n2=>P (d :: ds) n2
theorem zd:PAD A X [] zU4:=by
 with_unfolding_all
  exact pa_nil.imp fun sg H Q h=>by
   obtain ⟨rho,n,P,ds,vs,I,ht,hQ⟩:=h
   exact hQ [] H n [] I rfl ht
theorem QC {K:PySem.W.Frag} {G:Option Addr} {Z:Addr -> Prop} {H:Hp} {es ds:List D} {ws vs:List V} {d:D} {v:V} (h:Reps K G Z H (es ++ d :: ds) (ws ++ v :: vs)) (hl:ws.length = es.length):Reps K G Z H (d :: es ++ ds) (v :: ws ++ vs):=by
 have h1:=h.take es.length
 have h2:=h.drop es.length
 rw [List.take_left' rfl,List.take_left' hl] at h1
 rw [List.drop_left' rfl,List.drop_left' hl] at h2
 obtain ⟨r,t⟩:=h2.inv
 exact .cons r (h1.append t)
def yu:Expr -> Bool
 | .Starred ..=>true
 | _=>false
theorem sE {e:Expr} {es:List Expr} {env:Env} (h:yu e = false):starEach (e :: es) env = (false,eval e env) :: starEach es env:=by
 cases e <;> first | (simp [starEach]; done) | (simp [yu] at h; done)
theorem zb (ha:PD A X a ta) (hr:PAD A X es t1) (hs:yu a = false:=by rfl):PAD A X (a :: es) (zD2 ta t1):=by
 with_unfolding_all
  exact (vn ha hr (sE hs)).imp fun sg H Q h=>by
   obtain ⟨rho,n,P,ds,vs,I,ht,hQ⟩:=h
   refine ⟨rho,n,_,ds,vs,I,ht,fun v H' n' d J k=>⟨rho,n',_,d :: ds,v :: vs,J,k,fun ws H2 n2 es' ⟨os,J2⟩ hl k2=>?_⟩⟩
   exact hQ (v :: ws) H2 n2 (d :: es') ⟨os,J2.pends (QC J2.pend hl)⟩ (by rw [List.length_cons,List.length_cons,hl]) k2
theorem qB {K:PySem.W.Frag} {G:Option Addr} {Z:Addr -> Prop} {H:Hp} {es ds:List D} {ws vs:List V} (h:Reps K G Z H (es ++ ds) (ws ++ vs)) (hl:ws.length = es.length):Reps K G Z H es ws /\ Reps K G Z H ds vs:=by
 have h1:=h.take es.length
 have h2:=h.drop es.length
 rw [List.take_left' rfl,List.take_left' hl] at h1
 rw [List.drop_left' rfl,List.drop_left' hl] at h2
 exact ⟨h1,h2⟩
def xb3 (t:TAD):TD:=fun rho n P=>t rho n fun ds n1=>ds.length <= sizeLine /\ P (.tup ds) n1
def zU0 (t:TAD):TD:=fun rho n P=>t rho n fun ds n1=>ds.length <= sizeLine /\ P (.lst ds) n1
theorem zL {x1} (h:PAD A X es t1):PD A X (.Tuple es x1 pos) (xb3 t1):=by
 with_unfolding_all
  exact (zw0 h).imp fun sg H Q h=>by
   obtain ⟨rho,n,P,ds,vs,I,ht,hQ⟩:=h
   refine ⟨rho,n,_,ds,vs,I,ht,fun ws H' n' es' ⟨os,J⟩ hl k=>⟨by rw [hl]; exact k.1,fun p hp=>?_⟩⟩
   obtain ⟨q1,q2⟩:=qB J.pend hl
   exact hQ _ _ n' _ ⟨os,(J.pends q2).newTup q1 hp⟩ k.2
theorem wm (h:PAD A X es t1):PD A X (.List es pos) (zU0 t1):=by
 with_unfolding_all
  exact (jT h).imp fun sg H Q h=>by
   obtain ⟨rho,n,P,ds,vs,I,ht,hQ⟩:=h
   refine ⟨rho,n,_,ds,vs,I,ht,fun ws H' n' es' ⟨os,J⟩ hl k=>⟨by rw [hl]; exact k.1,fun p hp=>?_⟩⟩
   obtain ⟨q1,q2⟩:=qB J.pend hl
   exact hQ _ _ n' _ ⟨os,(J.pends q2).newLst q1 hp⟩ k.2
def xv (A:AC) (r:List V -> Hp -> VK -> Prop) (rd:List D -> (D -> Prop) -> Prop):Prop :=
 ∀ os n rho sg H ds vs es ws (k:D -> Prop) (Q:VK),AmO A os n rho sg H ds vs -> Reps A.K A.G (Zof A os) H es ws -> rd es k -> (∀ v H' d,Am A n rho sg H' (d :: ds) (v :: vs) -> k d -> Q v H') -> r ws H Q
def zd1 (rd:List D -> (D -> Prop) -> Prop) (t:TAD):TD:=fun rho n P=>t rho n fun es n1=>rd es fun d=>P d n1
theorem ze7 {r:List V -> Hp -> VK -> Prop} {rd:List D -> (D -> Prop) -> Prop} (hr:xv A r rd) {sg:St} {H:Hp} {Q:VK} (h:tOf A (zd1 rd t1) sg H Q):tCB r (zU9 A t1) sg H Q:=by
 obtain ⟨rho,n,P,ds,vs,I,ht,hQ⟩:=h
 refine ⟨rho,n,_,ds,vs,I,ht,fun ws H' n' es' ⟨os,J⟩ hl k=>?_⟩
 obtain ⟨q1,q2⟩:=qB J.pend hl
 exact hr _ _ _ _ _ _ _ _ _ _ Q (J.pends q2) q1 k fun v H2 d J2 k2=>hQ v H2 n' d J2 k2
theorem zw {x:Str} {p:Pos} {id:String} {r:List V -> Hp -> VK -> Prop} {rd:List D -> (D -> Prop) -> Prop} (hc:va X (.builtin id) r) (hr:xv A r rd) (hm:X.mg x = none) (hv:bootBuiltins x = some (.builtin id)) (ha:PAD A X (e :: es) t1) (hg:Gl X x:=by rfl) (hn:x ≠ "__name__" := by decide) (hdb:(x == ("__debug__" : Str)) = false:=by decide)
  (he:starEach (e :: es) X.env = (false,eval e X.env) :: starEach es X.env:=by rfl) (hpl:(backTo pos (starEach es X.env)).any (·.1) = false:=by rfl):PD A X (.Call (.Name x p) (e :: es) [] pos) (zd1 rd t1):=by
 with_unfolding_all
  exact
   (Vh hc hg hm hv ha hn hdb he hpl).imp fun _ _ _=>ze7 hr
theorem zW {x:Str} {p:Pos} {T:String} {r:List V -> Hp -> VK -> Prop} {rd:List D -> (D -> Prop) -> Prop} (hc:va X (.type T) r) (hr:xv A r rd) (hm:X.mg x = none) (hv:bootBuiltins x = some (.type T)) (ha:PAD A X (e :: es) t1) (hg:Gl X x:=by rfl) (hn:x ≠ "__name__" := by decide) (hdb:(x == ("__debug__" : Str)) = false:=by decide)
  (he:starEach (e :: es) X.env = (false,eval e X.env) :: starEach es X.env:=by rfl) (hpl:(backTo pos (starEach es X.env)).any (·.1) = false:=by rfl):PD A X (.Call (.Name x p) (e :: es) [] pos) (zd1 rd t1):=by
 with_unfolding_all
  exact
   (YN hc hg hm hv ha hn hdb he hpl).imp fun _ _ _=>ze7 hr
theorem yi {K:PySem.W.Frag} {G:Option Addr} {Z:Addr -> Prop} {H:Hp} {d:D} {ws:List V} (h:Reps K G Z H [d] ws):∃ v,ws = [v] /\ Rep K G Z H d v:=by
 obtain ⟨v,r,rfl,q,t⟩:=h.split
 rw [t.nil_inv]
 exact ⟨v,rfl,q⟩
theorem VH {K:PySem.W.Frag} {G:Option Addr} {Z:Addr -> Prop} {H:Hp} {d d':D} {ws:List V} (h:Reps K G Z H [d,d'] ws):∃ v v',ws = [v,v'] /\ Rep K G Z H d v /\ Rep K G Z H d' v':=by
 obtain ⟨v,r,rfl,q,t⟩:=h.split
 obtain ⟨v',rfl,q'⟩:=yi t
 exact ⟨v,v',rfl,q,q'⟩
def zc2:List D -> (D -> Prop) -> Prop:=fun es k=>∃ fs,(es = [.lst fs] \/ es = [.tup fs] \/ es = [.fz fs]) /\ k (.int fs.length)
def xb0:List D -> (D -> Prop) -> Prop:=fun es k=>∃ i,es = [.int i] /\ k (.int (if i < 0 then -i else i))
def zA9:List D -> (D -> Prop) -> Prop:=fun es k=>∃ c,es = [.bl c] /\ k (.int (if c then 1 else 0))
def xh9:List D -> (D -> Prop) -> Prop:=fun es k=>∃ bs:List Bool,es = [.lst (bs.map D.bl)] /\ k (.bl (bs.all id))
def xh8:List D -> (D -> Prop) -> Prop:=fun es k=>∃ bs:List Bool,es = [.lst (bs.map D.bl)] /\ k (.bl (bs.any id))
def Jb:List D -> (D -> Prop) -> Prop:=fun es k=>∃ fs,(es = [.lst fs] \/ es = [.tup fs]) /\ k (.tup fs)
def zn8:List D -> (D -> Prop) -> Prop:=fun es k=>∃ fs,(es = [.lst fs] \/ es = [.tup fs]) /\ k (.lst fs)
theorem wQ:xv A (fun xs H Q=>∃ p ys,xs = [.ref p] /\ (SqL A.K H p ys \/ SqT A.K H p ys) /\ Q (.int ys.length) H) zc2:=by
 rintro os n rho sg H ds vs es ws k Q I rs ⟨fs,h,q⟩ hQ
 rcases h with rfl | rfl | rfl
 ·obtain ⟨v, rfl, r⟩ := yi rs
  obtain ⟨a,xs,rfl,sq,rr⟩:=r.lst_inv
  exact ⟨a,xs,rfl,.inl sq.sq,by rw [rr.length]; exact hQ _ H _ ⟨os,I.push (Rep.ofS rfl)⟩ q⟩
 ·obtain ⟨v, rfl, r⟩ := yi rs
  obtain ⟨a,xs,rfl,sq,rr⟩:=r.tup_inv
  exact ⟨a,xs,rfl,.inr sq.sq,by rw [rr.length]; exact hQ _ H _ ⟨os,I.push (Rep.ofS rfl)⟩ q⟩
 ·obtain ⟨v, rfl, r⟩ := yi rs
  obtain ⟨a,xs,rfl,sq,rr⟩:=r.fz_inv
  exact ⟨a,xs,rfl,.inl sq,by rw [rr.length]; exact hQ _ H _ ⟨os,I.push (Rep.ofS rfl)⟩ q⟩
theorem zh0:xv A (fun xs H Q=>∃ i,xs = [.int i] /\ Q (.int (if i < 0 then -i else i)) H) xb0:=by
 rintro os n rho sg H ds vs es ws k Q I rs ⟨i,rfl,q⟩ hQ
 obtain ⟨v,rfl,r⟩:=yi rs
 exact ⟨i,by rw [r.int_inv],hQ _ H _ ⟨os,I.push (Rep.ofS rfl)⟩ q⟩
theorem ZT:xv A (fun xs H Q=>(∃ i,xs = [.int i] /\ Q (.int i) H) \/ ∃ k,xs = [.bl k] /\ Q (.int (if k then 1 else 0)) H) zA9:=by
 rintro os n rho sg H ds vs es ws k Q I rs ⟨i,rfl,q⟩ hQ
 obtain ⟨v,rfl,r⟩:=yi rs
 exact .inr ⟨i,by rw [r.bl_inv],hQ _ H _ ⟨os,I.push (Rep.ofS rfl)⟩ q⟩
theorem kK {K:PySem.W.Frag} {G:Option Addr} {Z:Addr -> Prop} {H:Hp}:∀ {bs:List Bool} {ws:List V},Reps K G Z H (bs.map D.bl) ws -> ws = bs.map V.bl
 | [],ws,h=>h.nil_inv
 | b :: bs,ws,h=>by
  obtain ⟨v,r,rfl,q,t⟩:=h.split
  rw [q.bl_inv,kK t]; rfl
theorem JG:xv A (fun xs H Q=>∃ (p:Addr) (bs:List Bool),xs = [.ref p] /\ SqL A.K H p (bs.map V.bl) /\ Q (.bl (bs.all id)) H) xh9:=by
 rintro os n rho sg H ds vs es ws k Q I rs ⟨bs,rfl,q⟩ hQ
 obtain ⟨v,rfl,r⟩:=yi rs
 obtain ⟨a,xs,rfl,sq,rr⟩:=r.lst_inv
 have e:=kK rr
 subst e
 exact ⟨a,bs,rfl,sq.sq,hQ _ H _ ⟨os,I.push (Rep.ofS rfl)⟩ q⟩
theorem JF:xv A (fun xs H Q=>∃ (p:Addr) (bs:List Bool),xs = [.ref p] /\ SqL A.K H p (bs.map V.bl) /\ Q (.bl (bs.any id)) H) xh8:=by
 rintro os n rho sg H ds vs es ws k Q I rs ⟨bs,rfl,q⟩ hQ
 obtain ⟨v,rfl,r⟩:=yi rs
 obtain ⟨a,xs,rfl,sq,rr⟩:=r.lst_inv
 have e:=kK rr
 subst e
 exact ⟨a,bs,rfl,sq.sq,hQ _ H _ ⟨os,I.push (Rep.ofS rfl)⟩ q⟩
theorem xN:xv A (fun xs H Q=>∃ p ys,xs = [.ref p] /\ ((SqL A.K H p ys /\ ∀ l,H l = none -> Q (.ref l) (upd H l (.tup ys))) \/ (SqT A.K H p ys /\ Q (.ref p) H))) Jb:=by
 rintro os n rho sg H ds vs es ws k Q I rs ⟨fs,h,q⟩ hQ
 rcases h with rfl | rfl
 ·obtain ⟨v, rfl, r⟩ := yi rs
  obtain ⟨a,xs,rfl,sq,rr⟩:=r.lst_inv
  exact ⟨a,xs,rfl,.inl ⟨sq.sq,fun l hl=>hQ _ _ _ ⟨os,I.newTup rr hl⟩ q⟩⟩
 ·obtain ⟨v, rfl, r⟩ := yi rs
  have r':=r
  obtain ⟨a,xs,rfl,sq,rr⟩:=r.tup_inv
  exact ⟨a,xs,rfl,.inr ⟨sq.sq,hQ _ _ _ ⟨os,I.push r'⟩ q⟩⟩
theorem JE:xv A (fun xs H Q=>∃ p ys,xs = [.ref p] /\ (SqL A.K H p ys \/ SqT A.K H p ys) /\ ∀ l,H l = none -> Q (.ref l) (upd H l (.lst ys))) zn8:=by
 rintro os n rho sg H ds vs es ws k Q I rs ⟨fs,h,q⟩ hQ
 rcases h with rfl | rfl
 ·obtain ⟨v, rfl, r⟩ := yi rs
  obtain ⟨a,xs,rfl,sq,rr⟩:=r.lst_inv
  exact ⟨a,xs,rfl,.inl sq.sq,fun l hl=>hQ _ _ _ ⟨os,I.newLst rr hl⟩ q⟩
 ·obtain ⟨v, rfl, r⟩ := yi rs
  obtain ⟨a,xs,rfl,sq,rr⟩:=r.tup_inv
  exact ⟨a,xs,rfl,.inr sq.sq,fun l hl=>hQ _ _ _ ⟨os,I.newLst rr hl⟩ q⟩
def Yl (T:String):D -> Bool
 | .bl _=>T == "bool" || T == "int"
 | .int _=>T == "int"
 | .str _=>T == "str"
 | .tup _=>T == "tuple"
 | .lst _=>T == "list"
 | _=>false
def wW:D -> Bool
 | .non=>true | .bl _=>true | .int _=>true | .str _=>true | .tup _=>true | .lst _=>true | .dic=>true | _=>false
def zn9:List D -> (D -> Prop) -> Prop:=fun es k=>∃ d T,es = [d,.ty T] /\ (T = "bool" \/ T = "int" \/ T = "str" \/ T = "tuple" \/ T = "list") /\ wW d = true /\ k (.bl (Yl T d))
theorem Zd:xv A (fun xs H Q=>∃ x T,xs = [x,.ty T] /\ (T = "bool" \/ T = "int" \/ T = "str" \/ T = "tuple" \/ T = "list") /\ zV9 A.K T x H Q) zn9:=by
 rintro os n rho sg H ds vs es ws k Q I rs ⟨d,T,rfl,hT,ho,q⟩ hQ
 obtain ⟨v,v',rfl,r,r'⟩:=VH rs
 have e':v' = .ty T:=r'.toS rfl
 subst e'
 refine ⟨v,T,rfl,hT,?_⟩
 have fin:Q (.bl (Yl T d)) H:=hQ _ H _ ⟨os,I.push (Rep.ofS rfl)⟩ q
 cases d with
 | non=>have e:=r.toS rfl; subst e; exact fin
 | bl b=>have e:=r.toS rfl; subst e; exact fin
 | int b=>have e:=r.toS rfl; subst e; exact fin
 | str b=>have e:=r.toS rfl; subst e; exact fin
 | tup fs=>obtain ⟨a,xs,rfl,sq,rr⟩:=r.tup_inv; exact .inl ⟨xs,sq.sq,fin⟩
 | lst fs=>obtain ⟨a,xs,rfl,sq,rr⟩:=r.lst_inv; exact .inr (.inl ⟨xs,sq.sq,fin⟩)
 | dic=>unfold Rep at r; obtain ⟨a,kvs,rfl,_,e⟩:=r; exact .inr (.inr ⟨kvs,e,fin⟩)
 | ty _=>simp [wW] at ho
 | dct _ _=>simp [wW] at ho
 | st=>simp [wW] at ho
 | own _=>simp [wW] at ho
 | fz _=>simp [wW] at ho
end
end L2
set_option maxRecDepth 100000
namespace L2
open PySem PySem.Spec PyProof.Rows
section
variable {A:AC} {os:List (Nat × Addr)} {n:Nat} {rho:Rho} {sg:St} {H:Hp} {ds es:List D} {vs ws:List V} {d:D} {v:V}
theorem AmO.split (I:AmO A os n rho sg H (es ++ ds) (ws ++ vs)) (hl:ws.length = es.length):AmO A os n rho sg H ds vs /\ Reps A.K A.G (Zof A os) H es ws :=
 let ⟨q1,q2⟩:=qB I.pend hl
 ⟨I.pends q2,q1⟩
theorem AmO.join (I:AmO A os n rho sg H ds vs) (h:Reps A.K A.G (Zof A os) H es ws):AmO A os n rho sg H (es ++ ds) (ws ++ vs):=I.pends (h.append I.pend)
theorem AmO.under (I:AmO A os n rho sg H (d :: (es ++ ds)) (v :: (ws ++ vs))) (hl:ws.length = es.length):AmO A os n rho sg H (d :: ds) (v :: vs):=by
 obtain ⟨J,r⟩:=I.pop
 exact (J.split hl).1.push r
theorem AmO.front (m:Nat) (I:AmO A os n rho sg H ds vs):AmO A (os.map fun p=>(p.1 + m,p.2)) n (List.replicate m none ++ rho) (List.replicate m none ++ sg) H ds vs:=by
 have zz:∀ a,Zof A (os.map fun p=>(p.1 + m,p.2)) a -> Zof A os a:=fun a z=>by
  rcases z with z | ⟨p,hp,e⟩
  ·exact .inl z
  ·obtain ⟨q, hq, rfl⟩ := List.mem_map.mp hp
   exact .inr ⟨q,hq,e⟩
 refine ⟨by simp [I.len],fun i c e=>?_,Reps.mono (fun a _ z=>zz a z) (fun _ _ _ e=>e) _ _ I.pend,?_,fun p hp=>?_,I.st,I.gz,I.fr,I.z0⟩
 ·have hi : m <= i := by
   apply Nat.le_of_not_lt
   intro hlt
   rw [List.getElem?_append_left (by simpa using hlt),List.getElem?_replicate,if_pos hlt] at e
   cases e
  rw [List.getElem?_append_right (by simpa using hi),List.length_replicate] at e
  obtain ⟨u,e1,e2⟩:=I.slot _ c e
  refine ⟨u,by rw [List.getElem?_append_right (by simpa using hi),List.length_replicate]; exact e1,?_⟩
  have key:∀ j,j + m = i -> SlotR A os H j c u -> SlotR A (os.map fun p=>(p.1 + m,p.2)) H i c u:=fun j hj h=>by
   subst hj
   cases c with
   | own fs =>
    obtain ⟨a,xs,q1,q2,q3,q4⟩:=h
    exact ⟨a,xs,q1,List.mem_map.mpr ⟨_,q2,rfl⟩,q3,Reps.mono (fun a _ z=>zz a z) (fun _ _ _ e=>e) _ _ q4⟩
   | non=>exact Rep.mono (fun a _ z=>zz a z) (fun _ _ _ e=>e) _ _ h
   | bl _=>exact Rep.mono (fun a _ z=>zz a z) (fun _ _ _ e=>e) _ _ h
   | int _=>exact Rep.mono (fun a _ z=>zz a z) (fun _ _ _ e=>e) _ _ h
   | str _=>exact Rep.mono (fun a _ z=>zz a z) (fun _ _ _ e=>e) _ _ h
   | ty _=>exact Rep.mono (fun a _ z=>zz a z) (fun _ _ _ e=>e) _ _ h
   | tup _=>exact Rep.mono (fun a _ z=>zz a z) (fun _ _ _ e=>e) _ _ h
   | lst _=>exact Rep.mono (fun a _ z=>zz a z) (fun _ _ _ e=>e) _ _ h
   | st=>exact Rep.mono (fun a _ z=>zz a z) (fun _ _ _ e=>e) _ _ h
   | fz _=>exact Rep.mono (fun a _ z=>zz a z) (fun _ _ _ e=>e) _ _ h
   | dic=>exact Rep.mono (fun a _ z=>zz a z) (fun _ _ _ e=>e) _ _ h
   | dct _ _=>exact Rep.mono (fun a _ z=>zz a z) (fun _ _ _ e=>e) _ _ h
  exact key (i - m) (by lia) e2
 ·rw [List.pairwise_map]
  exact I.nd.imp fun {p q} h=>⟨fun z=>h.1 (by simpa using z),h.2⟩
 ·obtain ⟨q, hq, rfl⟩ := List.mem_map.mp hp
  exact I.fresh q hq
theorem AmO.back {m:Nat} {rho':Rho} {sg':St} (I:AmO A os n rho' sg' H ds vs) (h1:rho'.drop m = rho) (h2:sg'.drop m = sg):∃ os',AmO A os' n rho sg H ds vs:=by
 refine ⟨(os.filter fun p=>decide (m <= p.1)).map fun p=>(p.1 - m,p.2),?_⟩
 have zz:∀ a,Zof A ((os.filter fun p=>decide (m <= p.1)).map fun p=>(p.1 - m,p.2)) a -> Zof A os a:=fun a z=>by
  rcases z with z | ⟨p,hp,e⟩
  ·exact .inl z
  ·obtain ⟨q, hq, rfl⟩ := List.mem_map.mp hp
   exact .inr ⟨q,(List.mem_filter.mp hq).1,e⟩
 subst h1 h2
 refine ⟨by simp [I.len],fun i c e=>?_,Reps.mono (fun a _ z=>zz a z) (fun _ _ _ e=>e) _ _ I.pend,?_,fun p hp=>?_,I.st,I.gz,I.fr,I.z0⟩
 ·rw [List.getElem?_drop] at e
  obtain ⟨u,e1,e2⟩:=I.slot _ c e
  refine ⟨u,by rw [List.getElem?_drop]; exact e1,?_⟩
  cases c with
  | own fs =>
   obtain ⟨a,xs,q1,q2,q3,q4⟩:=e2
   exact ⟨a,xs,q1,List.mem_map.mpr ⟨_,List.mem_filter.mpr ⟨q2,by simp⟩,by simp⟩,q3,Reps.mono (fun a _ z=>zz a z) (fun _ _ _ e=>e) _ _ q4⟩
  | non=>exact Rep.mono (fun a _ z=>zz a z) (fun _ _ _ e=>e) _ _ e2
  | bl _=>exact Rep.mono (fun a _ z=>zz a z) (fun _ _ _ e=>e) _ _ e2
  | int _=>exact Rep.mono (fun a _ z=>zz a z) (fun _ _ _ e=>e) _ _ e2
  | str _=>exact Rep.mono (fun a _ z=>zz a z) (fun _ _ _ e=>e) _ _ e2
  | ty _=>exact Rep.mono (fun a _ z=>zz a z) (fun _ _ _ e=>e) _ _ e2
  | tup _=>exact Rep.mono (fun a _ z=>zz a z) (fun _ _ _ e=>e) _ _ e2
  | lst _=>exact Rep.mono (fun a _ z=>zz a z) (fun _ _ _ e=>e) _ _ e2
  | st=>exact Rep.mono (fun a _ z=>zz a z) (fun _ _ _ e=>e) _ _ e2
  | fz _=>exact Rep.mono (fun a _ z=>zz a z) (fun _ _ _ e=>e) _ _ e2
  | dic=>exact Rep.mono (fun a _ z=>zz a z) (fun _ _ _ e=>e) _ _ e2
  | dct _ _=>exact Rep.mono (fun a _ z=>zz a z) (fun _ _ _ e=>e) _ _ e2
 ·rw [List.pairwise_map, List.pairwise_filter]
  refine I.nd.imp fun {p q} h hp hq=>⟨fun z=>h.1 ?_,h.2⟩
  have a1:m <= p.1:=by simpa using hp
  have a2:m <= q.1:=by simpa using hq
  have z':p.1 - m = q.1 - m:=z
  lia
 ·obtain ⟨q, hq, rfl⟩ := List.mem_map.mp hp
  exact I.fresh q (List.mem_filter.mp hq).1
end
abbrev TGD:=D -> Rho -> (Rho -> Prop) -> Prop
abbrev ze0:=List D -> Rho -> (Rho -> Prop) -> Prop
def gOf (A:AC) (m:Nat) (g:TGD):TG:=fun v sg H Q=>∃ rho n P d ds vs,Am A n rho sg H (d :: ds) (v :: vs) /\ g d rho P /\ ∀ rho' sg',Am A n rho' sg' H ds vs -> sg'.drop m = sg.drop m -> P rho' -> Q sg' H
def xi1 (A:AC) (m:Nat) (g:ze0):TGs:=fun us sg H Q=>∃ rho n P es ds vs,Am A n rho sg H (es ++ ds) (us ++ vs) /\ us.length = es.length /\ g es rho P /\ ∀ rho' sg',Am A n rho' sg' H ds vs -> sg'.drop m = sg.drop m -> P rho' -> Q sg' H
@[irreducible] def PGD (A:AC) (X:Cx) (m:Nat) (tg:Expr) (g:TGD):Prop:=PG X tg (gOf A m g)
@[irreducible] def zH8 (A:AC) (X:Cx) (m:Nat) (tg:List Expr) (g:ze0):Prop:=PGs X tg (xi1 A m g)
theorem PG.imp {X:Cx} {tg:Expr} {g g':TG} (h:PG X tg g) (hi:∀ v sg H Q,g' v sg H Q -> g v sg H Q):PG X tg g':=fun pins s sg H v u Q I r q=>h pins s sg H v u Q I r (hi _ _ _ _ q)
theorem PGs.imp {X:Cx} {tg:List Expr} {g g':TGs} (h:PGs X tg g) (hi:∀ v sg H Q,g' v sg H Q -> g v sg H Q):PGs X tg g':=fun pins s sg H v u Q I r q=>h pins s sg H v u Q I r (hi _ _ _ _ q)
section
variable {A:AC} {X:Cx} {m:Nat} {pos:Pos}
def zg3 (i:Nat):TGD:=fun d rho P=>i < rho.length /\ P (rho.set i (some d))
theorem zj {i:Nat} {x:Str} (hN:X.N.Nodup) (hi:X.N[i]? = some x) (hx:Loc X.env.scope x) (hm:i < m) (hf:X.fn x = true \/ X.env.scope.names.lookup x = some .local:=by first | exact .inl rfl | exact .inr rfl | assumption):PGD A X m (.Name x pos) (zg3 i):=by
 with_unfolding_all
  exact
   (zk8 hN hi hx hf).imp fun v sg H Q h => by
    obtain ⟨rho,n,P,d,ds,vs,⟨os,I⟩,⟨hl,k⟩,hQ⟩:=h
    refine hQ (rho.set i (some d)) (sg.set i (some v)) ⟨_,I.set hl⟩ ?_ k
    rw [List.drop_set_of_lt hm]
def zB8:ze0:=fun es rho P=>es = [] /\ P rho
def zg4 (g:TGD) (gs:ze0):ze0:=fun es rho P=>∃ d r,es = d :: r /\ g d rho fun rho'=>gs r rho' P
theorem xm:zH8 A X m [] zB8:=by
 with_unfolding_all
  exact pgs_nil.imp fun us sg H Q h=>by
   obtain ⟨rho,n,P,es,ds,vs,I,hl,⟨rfl,k⟩,hQ⟩:=h
   have e:us = []:=List.length_eq_zero_iff.mp hl
   subst e
   exact ⟨rfl,hQ rho sg I rfl k⟩
theorem zp {e:Expr} {es:List Expr} {g:TGD} {gs:ze0} (h1:PGD A X m e g) (h2:zH8 A X m es gs) (hs:(assignEach (e :: es) X.env).map (·.2) = assign e X.env :: (assignEach es X.env).map (·.2):=by rfl):zH8 A X m (e :: es) (zg4 g gs):=by
 with_unfolding_all
  exact
   (QO h1 h2 hs).imp fun us sg H Q h => by
    obtain ⟨rho,n,P,es',ds,vs,I,hl,⟨d,r,rfl,k⟩,hQ⟩:=h
    cases us with
    | nil=>simp at hl
    | cons u us =>
     refine ⟨u,us,rfl,⟨rho,n,_,d,r ++ ds,us ++ vs,I,k,fun rho' sg' I' e1 k'=>⟨rho',n,P,r,ds,vs,I',by simpa using hl,k',fun rho2 sg2 I2 e2 k2=>hQ rho2 sg2 I2 (e2.trans e1) k2⟩⟩⟩
def zB7 (k:Nat) (gs:ze0):TGD:=fun d rho P=>∃ es,d = .tup es /\ es.length = k /\ gs es rho P
theorem xI {es:List Expr} {k:Nat} {gs:ze0} {kt:Nat} (hK:X.K = A.K) (hc:X.calm = true) (h:zH8 A X m es gs) (hn:(assignEach es X.env).length = k:=by rfl) (hst:(assignEach es X.env).findIdx? (·.1) = none:=by rfl):PGD A X m (.Tuple es kt pos) (zB7 k gs):=by
 with_unfolding_all
  exact
   (zv8 (n := k) hc h hn hst).imp fun v sg H Q h => by
    obtain ⟨rho,n,P,d,ds,vs,⟨os,I⟩,⟨fs,rfl,hl,q⟩,hQ⟩:=h
    obtain ⟨J,r⟩:=I.pop
    obtain ⟨a,xs,rfl,sq,rs⟩:=r.tup_inv
    have hx:=rs.length
    rw [hK]
    exact ⟨a,xs,rfl,sq.sq,by rw [hx]; exact hl,rho,n,P,fs,ds,vs,⟨os,J.join rs⟩,hx,q,hQ⟩
end
abbrev TID:=Rho -> Nat -> (List D -> Nat -> Prop) -> Prop
def JIs (A:AC) (J:It) (es:List D) (ws:List V) (items:List D):Prop:=∀ n rho sg H ds vs i,Am A n rho sg H (es ++ ds) (ws ++ vs) ->
 (∀ d,items[i]? = some d -> J.go i H /\ ∀ x H',J.yld i H x H' -> Am A n rho sg H' (d :: (es ++ ds)) (x :: (ws ++ vs))) /\ (items.length <= i -> J.stop i H)
def iOf (A:AC) (it:TID):TI:=fun sg H R=>∃ rho n P ds vs,Am A n rho sg H ds vs /\ it rho n P /\ ∀ J H' n' items es ws,Am A n' rho sg H' (es ++ ds) (ws ++ vs) -> ws.length = es.length -> JIs A J es ws items -> P items n' -> R J H'
@[irreducible] def PID (A:AC) (X:Cx) (tg iter:Expr) (it:TID):Prop:=PI X tg iter (iOf A it)
theorem PI.imp {X:Cx} {tg e:Expr} {t t':TI} (h:PI X tg e t) (hi:∀ sg H Q,t' sg H Q -> t sg H Q):PI X tg e t':=fun pins s sg H Q I q=>h pins s sg H Q I (hi _ _ _ q)
section
variable {A:AC} {X:Cx} {tg a b:Expr} {ta tb:TD} {pos p:Pos} {t1:TAD}
def Wm (lo:Int) (k:Nat):List D:=(List.range k).map fun (i:Nat)=>D.int (lo + (i:Int))
def zB3 (t:TAD):TID:=fun rho n P=>t rho n fun es n1=>∃ j:Int,es = [.int j] /\ -(2 ^ 62) <= j /\ j < 2 ^ 62 /\ P (Wm 0 j.toNat) n1
theorem zo1 {lo:Int} {k:Nat}:JIs A (Itr lo k) [] [] (Wm lo k):=fun n2 rho2 sg2 H2 ds2 vs2 i ⟨os2,I2⟩=>by
 refine ⟨fun d e=>?_,fun hi=>?_⟩
 ·unfold Wm at e
  rw [List.getElem?_map] at e
  cases q:(List.range k)[i]? with
  | none=>rw [q] at e; cases e
  | some j =>
   rw [q] at e
   cases e
   have hj:=List.getElem?_eq_some_iff.mp q
   obtain ⟨hlt,ej⟩:=hj
   rw [List.getElem_range] at ej
   subst ej
   refine ⟨(show i < k by simpa using hlt),fun x H3 y=>?_⟩
   obtain ⟨e3,e4⟩:=y
   subst e3 e4
   exact ⟨os2,I2.push (Rep.ofS (d:=.int (lo + i)) rfl)⟩
 ·unfold Wm at hi
  exact (show k <= i by simpa using hi)
theorem yj (hm:X.mg "range" = none) (ha:PAD A X [a] t1) (hg:Gl X "range" := by rfl) (hs:starEach [a] X.env = [(false,eval a X.env)]:=by rfl):PID A X tg (.Call (.Name "range" p) [a] [] pos) (zB3 t1):=by
 with_unfolding_all
  exact
   (Kf hg hm ha hs).imp fun sg H R h => by
    obtain ⟨rho,n,P,ds,vs,I,ht,hQ⟩:=h
    refine ⟨rho,n,_,ds,vs,I,ht,fun ws H' n' es' ⟨os,J⟩ hl k=>?_⟩
    obtain ⟨j,rfl,h1,h2,k⟩:=k
    obtain ⟨J1,rs⟩:=J.split hl
    obtain ⟨v,rfl,r⟩:=yi rs
    exact ⟨j,by rw [r.int_inv],h1,h2,hQ _ H' n' _ [] [] ⟨os,J1⟩ rfl zo1 k⟩
def qN:D -> Option (Bool × List D)
 | .lst es=>some (true,es)
 | .tup es=>some (false,es)
 | _=>none
theorem Rep.seq {K:PySem.W.Frag} {G:Option Addr} {Z:Addr -> Prop} {H:Hp} {v:V} {b:Bool} {es:List D}:∀ {d:D},qN d = some (b,es) -> Rep K G Z H d v -> ∃ a xs,v = .ref a /\ SqZ K Z H b a xs /\ Reps K G Z H es xs
 | .lst fs,h,r=>by cases h; exact r.lst_inv
 | .tup fs,h,r=>by cases h; exact r.tup_inv
 | .non,h,_=>by cases h
 | .bl _,h,_=>by cases h
 | .int _,h,_=>by cases h
 | .str _,h,_=>by cases h
 | .ty _,h,_=>by cases h
 | .st,h,_=>by cases h
 | .own _,h,_=>by cases h
 | .fz _,h,_=>by cases h
def XU (xs ys:List D):List D:=List.zipWith (fun x y=>D.tup [x,y]) xs ys
def zB1 (t:TAD):TID:=fun rho n P=>t rho n fun es n1=>∃ d1 d2 b1 xs b2 ys,es = [d1,d2] /\ qN d1 = some (b1,xs) /\ qN d2 = some (b2,ys) /\ P (XU xs ys) n1
theorem zo0 {d1 d2:D} {l1 l2:Addr} {b1 b2:Bool} {xs ys:List D} (h1:qN d1 = some (b1,xs)) (h2:qN d2 = some (b2,ys)):JIs A (Itz A.K b1 b2 l1 l2) [d1,d2] [.ref l1,.ref l2] (XU xs ys):=fun n rho sg H ds vs i ⟨os,I⟩=>by
 obtain ⟨I1,r1⟩:=AmO.pop (d:=d1) (v:=.ref l1) (ds:=d2 :: ds) (vs:=.ref l2 :: vs) I
 obtain ⟨I2,r2⟩:=I1.pop
 obtain ⟨a1,us,e1,sq1,rs1⟩:=r1.seq h1
 obtain ⟨a2,ws,e2,sq2,rs2⟩:=r2.seq h2
 cases e1; cases e2
 refine ⟨fun d e=>?_,fun hi=>⟨us,ws,sq1.sq,sq2.sq,?_⟩⟩
 ·unfold XU at e
  rw [List.getElem?_zipWith] at e
  cases q1:xs[i]? with
  | none=>rw [q1] at e; cases e
  | some x =>
   cases q2:ys[i]? with
   | none=>rw [q1,q2] at e; cases e
   | some y =>
    rw [q1,q2] at e
    cases e
    obtain ⟨u,eu,ru⟩:=rs1.get q1
    obtain ⟨w,ew,rw'⟩:=rs2.get q2
    refine ⟨⟨us,ws,u,w,sq1.sq,sq2.sq,eu,ew⟩,fun v H3 yy=>?_⟩
    obtain ⟨T,hT,rfl,k⟩:=yy
    obtain ⟨u',w',eu',ew',rfl⟩:=k us ws sq1.sq sq2.sq
    rw [eu] at eu'; cases eu'
    rw [ew] at ew'; cases ew'
    exact ⟨os,I.newTup (.cons ru (.cons rw' .nil)) hT⟩
 ·rw [rs1.length, rs2.length]
  unfold XU at hi
  rw [List.length_zipWith] at hi
  lia
theorem Wq {es:List Expr} {kk:Nat} {ps:Pos} (hK:X.K = A.K) (hm:X.mg "zip" = none) (ha:PAD A X [a,b] t1) (hg:Gl X "zip" := by rfl) (hs:starEach [a,b] X.env = [(false,eval a X.env),(false,eval b X.env)]:=by rfl) (hs2:starEach [b] X.env = [(false,eval b X.env)]:=by rfl) :
  PID A X (.Tuple es kk ps) (.Call (.Name "zip" p) [a,b] [] pos) (zB1 t1):=by
 with_unfolding_all
  exact (zv7 hg hm ha hs hs2).imp fun sg H R h=>by
   obtain ⟨rho,n,P,ds,vs,I,ht,hQ⟩:=h
   refine ⟨rho,n,_,ds,vs,I,ht,fun ws H' n' es' ⟨os,J⟩ hl k=>?_⟩
   obtain ⟨d1,d2,b1,xs,b2,ys,rfl,h1,h2,k⟩:=k
   obtain ⟨J1,rs⟩:=J.split hl
   obtain ⟨v1,v2,rfl,r1,r2⟩:=VH rs
   obtain ⟨a1,us,rfl,sq1,rs1⟩:=r1.seq h1
   obtain ⟨a2,ws',rfl,sq2,rs2⟩:=r2.seq h2
   rw [hK]
   exact ⟨b1,b2,a1,a2,us,ws',rfl,sq1.sq,sq2.sq,hQ _ H' n' _ [d1,d2] [.ref a1,.ref a2] ⟨os,J⟩ rfl (zo0 h1 h2) k⟩
end
section
variable {A:AC} {X:Cx} {tg iter elt:Expr} {ifs:List Expr} {scope:Scope} {own M:List Str} {pos:Pos} {it:TID} {g:TGD} {tt:TBD} {te:TD}
def Uf (it:TID) (own:Nat) (g:TGD) (tt:TBD) (te:TD):TD:=fun rho n P=>it rho n fun items n1=>items.length <= sizeLine /\ ∃ J:Nat -> List D -> Nat -> Prop,J 0 [] n1 /\
 (∀ i d acc n,items[i]? = some d -> J i acc n -> g d (List.replicate own none ++ rho) fun rho'=>rho'.drop own = rho /\ tt rho' n fun c n2=>if c = true then te rho' n2 fun e n3=>J (i + 1) (acc ++ [e]) n3 else J (i + 1) acc n2) /\
 ∀ acc n,J items.length acc n -> P (.lst acc) n
def zD0:TBD:=fun _ n P=>P true n
theorem PTs.imp {X:Cx} {e:List Expr} {t t':TT} (h:PTs X e t) (hi:∀ sg H Q,t' sg H Q -> t sg H Q):PTs X e t':=by
 with_unfolding_all
  exact fun pins s sg H Q I q=>h pins s sg H Q I (hi _ _ _ q)
theorem zZ {X:Cx}:PTs X [] (VD A zD0):=by
 with_unfolding_all
  exact pts_nil.imp fun sg H Q h=>by
   obtain ⟨rho,n,P,ds,vs,I,ht,hQ⟩:=h
   exact hQ true H n I ht
theorem UK {sg:St} {H:Hp} {Q:VK} {m:Nat} {rho:Rho} {n:Nat} {P:D -> Nat -> Prop} {ds:List D} {vs:List V} (I:Am A n rho sg H ds vs) (ht:Uf it m g tt te rho n P)
  (hQ:∀ os n' H' fs xs p,AmO A os n' rho sg H' ds vs -> Reps A.K A.G (Zof A os) H' fs xs -> H' p = none -> P (.lst fs) n' -> Q (.ref p) (upd H' p (.lst xs))):Qv (iOf A it) m (gOf A m g) (VD A tt) (tOf A te) sg H Q:=by
 refine ⟨rho,n,_,ds,vs,I,ht,fun J H' n' items es ws I1 hl hJ k=>?_⟩
 obtain ⟨hsz,W,w0,turn,fin⟩:=k
 refine ⟨fun i mm acc H=>mm = items.length - i /\ i <= items.length /\ acc.length <= i /\ ∃ accD n,acc.length = accD.length /\ Am A n rho sg H (es ++ (accD ++ ds)) (ws ++ (acc ++ vs)) /\ W i accD n,
  ⟨items.length,rfl,Nat.zero_le _,Nat.le_refl _,[],n',rfl,I1,w0⟩,?_⟩
 rintro i mm acc H3 ⟨rfl,hi,hai,accD,n3,hal,⟨os,I3⟩,w3⟩
 obtain ⟨j1,j2⟩:=hJ n3 rho sg H3 (accD ++ ds) (acc ++ vs) i ⟨os,I3⟩
 by_cases hlt:i < items.length
 ·refine .inr ⟨(j1 items[i] (by simp [hlt])).1, by lia, fun x H4 y => ?_⟩
  obtain ⟨os4,I4⟩:=(j1 items[i] (by simp [hlt])).2 x H4 y
  refine ⟨List.replicate m none ++ rho,n3,_,items[i],es ++ (accD ++ ds),ws ++ (acc ++ vs),⟨_,I4.front m⟩,turn i items[i] accD n3 (by simp [hlt]) w3,fun rho' sg' ⟨os5,I5⟩ e5 k5=>?_⟩
  obtain ⟨k5,k6⟩:=k5
  have e6:sg'.drop m = sg:=by rw [e5,List.drop_left' (by simp)]
  refine ⟨e6,rho',n3,_,es ++ (accD ++ ds),ws ++ (acc ++ vs),⟨os5,I5⟩,k6,fun c H6 n6 ⟨os6,I6⟩ k7=>?_⟩
  cases c with
  | false =>
   obtain ⟨os7,I7⟩:=I6.back k5 e6
   exact ⟨items.length - (i + 1),by lia,rfl,hlt,by lia,accD,n6,hal,⟨os7,I7⟩,k7⟩
  | true =>
   rw [if_pos rfl] at k7 ⊢
   refine ⟨rho',n6,_,es ++ (accD ++ ds),ws ++ (acc ++ vs),⟨os6,I6⟩,k7,fun v H8 n8 d ⟨os8,I8⟩ k8=>?_⟩
   obtain ⟨os9,I9⟩:=I8.back k5 e6
   obtain ⟨I10,rv⟩:=I9.pop
   obtain ⟨I11,r1⟩:=I10.split hl
   obtain ⟨I12,r2⟩:=I11.split hal
   refine ⟨items.length - (i + 1),by lia,rfl,hlt,by rw [List.length_append,List.length_singleton]; lia,accD ++ [d],n8,by simp [hal],⟨os9,(I12.join (r2.append (.cons rv .nil))).join r1⟩,k8⟩
 ·have e : i = items.length := by lia
  subst e
  refine .inl ⟨j2 (Nat.le_refl _),Nat.le_trans hai hsz,fun D hD=>?_⟩
  obtain ⟨I4,r1⟩:=I3.split hl
  obtain ⟨I5,r2⟩:=I4.split hal
  exact hQ os n3 _ accD acc D I5 r2 hD (fin accD n3 w3)
theorem WR {sg:St} {H:Hp} {Q:VK} {m:Nat} (h:tOf A (Uf it m g tt te) sg H Q):Qv (iOf A it) m (gOf A m g) (VD A tt) (tOf A te) sg H Q:=by
 obtain ⟨rho,n,P,ds,vs,I,ht,hQ⟩:=h
 exact UK I ht fun os n' H' fs xs p J r hp k=>hQ _ _ n' _ ⟨os,J.newLst r hp⟩ k
theorem xQ (ok:CompOk X scope M) (hc:X.calm = true) (hi:PID A X tg iter it) (hg:∀ C s2 H2 fp,PGD A (zR X scope own M C s2 H2 fp) own.length tg g) (ht:∀ C s2 H2 fp,PTs (zR X scope own M C s2 H2 fp) ifs (VD A tt))
  (he:∀ C s2 H2 fp,PD A (zR X scope own M C s2 H2 fp) elt te) (hs:∀ x,foldedSetIterable iter X.env x = pure x:=by intro _; rfl):PD A X (.ListComp elt [⟨tg,iter,ifs,0⟩] scope pos) (Uf it own.length g tt te):=by
 with_unfolding_all
  exact
   (zl0 ok hc hi hg ht he hs).imp fun _ _ _=>WR
end
end L2
set_option maxRecDepth 100000
namespace L2
open PySem PySem.Spec PyProof.Rows
structure EndsD where
 nx:Rho -> Nat -> Prop
 rt:D -> Nat -> Prop
 bk:Rho -> Nat -> Prop:=fun _ _=>False
 ct:Rho -> Nat -> Prop:=fun _ _=>False
abbrev TSD:=EndsD -> Rho -> Nat -> Prop
structure EOk (A:AC) (E:kC) (F:EndsD) (ds:List D) (vs:List V):Prop where
 nx:∀ rho n sg H,Am A n rho sg H ds vs -> F.nx rho n -> E.nx sg H
 rt:∀ d n v rho sg H,Am A n rho sg H (d :: ds) (v :: vs) -> F.rt d n -> E.rt v H
 bk:∀ rho n sg H,Am A n rho sg H ds vs -> F.bk rho n -> E.bk sg H
 ct:∀ rho n sg H,Am A n rho sg H ds vs -> F.ct rho n -> E.ct sg H
def sOf (A:AC) (t:TSD):TS:=fun E sg H=>∃ rho n F ds vs,Am A n rho sg H ds vs /\ t F rho n /\ EOk A E F ds vs
@[irreducible] def PSD (A:AC) (X:Cx) (s:Stmt) (t:TSD):Prop:=PS X s (sOf A t)
@[irreducible] def Um (A:AC) (X:Cx) (s:List Stmt) (t:TSD):Prop:=PSs X s (sOf A t)
section
variable {A:AC} {X:Cx} {st:Stmt} {rest:List Stmt} {t u:TSD} {e a b:Expr} {te:TD} {tc:TBD} {pos:Pos}
def zs3:TSD:=fun F rho n=>F.nx rho n
def XT (t u:TSD):TSD:=fun F rho n=>t { F with nx:=u F } rho n
theorem zB:Um A X [] zs3:=by
 with_unfolding_all
  exact pss_nil.imp fun E sg H h=>by
   obtain ⟨rho,n,F,ds,vs,I,ht,ok⟩:=h
   exact ok.nx _ _ _ _ I ht
theorem zf (h1:PSD A X st t) (h2:Um A X rest u):Um A X (st :: rest) (XT t u):=by
 with_unfolding_all
  exact (Va h1 h2).imp fun E sg H h=>by
   obtain ⟨rho,n,F,ds,vs,I,ht,ok⟩:=h
   exact ⟨rho,n,{ F with nx:=u F },ds,vs,I,ht,⟨fun rho' n' sg' H' I' k=>⟨rho',n',F,ds,vs,I',k,ok⟩,ok.rt,ok.bk,ok.ct⟩⟩
theorem zh (h1:PSD A X st t):Um A X [st] t:=by
 with_unfolding_all
  exact zk3 h1
def zI9 (te:TD):TSD:=fun F rho n=>te rho n F.rt
theorem zk (he:PD A X e te):PSD A X (.Return (some e) pos) (zI9 te):=by
 with_unfolding_all
  exact (zv5 he).imp fun E sg H h=>by
   obtain ⟨rho,n,F,ds,vs,I,ht,ok⟩:=h
   exact ⟨rho,n,_,ds,vs,I,ht,fun v H' n' d I' k=>ok.rt _ _ _ _ _ _ I' k⟩
def sIf (c:TBD) (t u:TSD):TSD:=fun F rho n=>c rho n fun b n1=>if b = true then t F rho n1 else u F rho n1
theorem zX {c:Expr} {sa sb:List Stmt} (hc:PTD A X c tc) (ha:Um A X sa t) (hb:Um A X sb u):PSD A X (.If c sa sb pos) (sIf tc t u):=by
 with_unfolding_all
  exact (zR2 hc ha hb).imp fun E sg H h=>by
   obtain ⟨rho,n,F,ds,vs,I,ht,ok⟩:=h
   refine ⟨rho,n,_,ds,vs,I,ht,fun c H' n' J k=>?_⟩
   cases c with
   | true=>exact ⟨rho,n',F,ds,vs,J,k,ok⟩
   | false=>exact ⟨rho,n',F,ds,vs,J,k,ok⟩
def WT (i:Nat) (te:TD):TSD:=fun F rho n=>i < rho.length /\ te rho n fun d n1=>F.nx (rho.set i (some d)) n1
theorem zF {i:Nat} {x:Str} {pos':Pos} (hN:X.N.Nodup) (hi:X.N[i]? = some x) (hx:Loc X.env.scope x) (he:PD A X e te) (hs:swapsWith e (some (.Name x pos')) pos.line X.env = pure false:=by rfl) (hf:X.fn x = true \/ X.env.scope.names.lookup x = some .local:=by first | exact .inl rfl | exact .inr rfl | assumption) :
  PSD A X (.Assign [.Name x pos'] e pos) (WT i te):=by
 with_unfolding_all
  exact (Vc hN hi hx he hs hf).imp fun E sg H h=>by
   obtain ⟨rho,n,F,ds,vs,I,⟨hl,ht⟩,ok⟩:=h
   exact ⟨rho,n,_,ds,vs,I,ht,fun v H' n' d ⟨os,J⟩ k=>ok.nx _ _ _ _ ⟨_,J.set hl⟩ k⟩
theorem vU {i:Nat} {x:Str} {pos' spos:Pos} {tg iter elt:Expr} {ifs:List Expr} {scope:Scope} {own M:List Str} {it:TID} {g:TGD} {tt:TBD} (hN:X.N.Nodup) (hix:X.N[i]? = some x) (hx:Loc X.env.scope x) (ok:CompOk X scope M) (hc:X.calm = true) (hi:PID A X tg iter it)
  (hg:∀ C s2 H2 fp,PGD A (zR X scope own M C s2 H2 fp) own.length tg g) (ht:∀ C s2 H2 fp,PTs (zR X scope own M C s2 H2 fp) ifs (VD A tt)) (he:∀ C s2 H2 fp,PD A (zR X scope own M C s2 H2 fp) elt te)
  (hsw:swapsWith (.ListComp elt [⟨tg,iter,ifs,0⟩] scope pos) (some (.Name x pos')) spos.line X.env = pure true:=by rfl) (hf:X.fn x = true \/ X.env.scope.names.lookup x = some .local:=by first | exact .inl rfl | exact .inr rfl | assumption)
  (hs:∀ x,foldedSetIterable iter X.env x = pure x:=by intro _; rfl):PSD A X (.Assign [.Name x pos'] (.ListComp elt [⟨tg,iter,ifs,0⟩] scope pos) spos) (WT i (Uf it own.length g tt te)):=by
 with_unfolding_all
  exact
   (VL hN hix hx ok hc hi hg ht he hsw hf hs).imp fun E sg H h => by
    obtain ⟨rho,n,F,ds,vs,I,⟨hl,ht⟩,ok⟩:=h
    exact WR (A:=A) ⟨rho,n,_,ds,vs,I,ht,fun v H' n' d ⟨os,J⟩ k=>ok.nx _ _ _ _ ⟨_,J.set hl⟩ k⟩
def zV1 (te:TD) (g:TGD):TSD:=fun F rho n=>te rho n fun d n1=>g d rho fun rho'=>F.nx rho' n1
theorem vc {tg:Expr} {g:TGD} {m:Nat} (he:PD A X e te) (hg:PGD A X m tg g) (hs:swapsWithSole [tg] e pos.line X.env = pure false:=by rfl) (hw:swappedStores [tg] e X.env = pure none:=by rfl)
  (h1:(assignEach [tg] X.env).map (·.2) = [assign tg X.env]:=by rfl):PSD A X (.Assign [tg] e pos) (zV1 te g):=by
 with_unfolding_all
  exact (Kc he hg hs hw h1).imp fun E sg H h=>by
   obtain ⟨rho,n,F,ds,vs,I,ht,ok⟩:=h
   exact ⟨rho,n,_,ds,vs,I,ht,fun v H' n' d J k=>⟨rho,n',_,d,ds,vs,J,k,fun rho' sg' J' _ k'=>ok.nx _ _ _ _ J' k'⟩⟩
def zJ2 (i j:Nat) (t:TAD):TSD:=fun F rho n=>i < rho.length /\ j < rho.length /\ t rho n fun es n1=>∃ d d',es = [d,d'] /\ F.nx ((rho.set i (some d)).set j (some d')) n1
theorem zk5 {i j:Nat} {x y:Str} {ta:TAD} {px py pt:Pos} {kt k2 pt2} (hc:X.calm = true) (hN:X.N.Nodup) (hi:X.N[i]? = some x) (hj:X.N[j]? = some y) (hij:i ≠ j)
  (hx:X.env.scope.names.lookup x = some .local) (hy:X.env.scope.names.lookup y = some .local) (ha:PAD A X [a,b] ta)
  (hw:swappedStores [.Tuple [.Name x px,.Name y py] kt pt] (.Tuple [a,b] k2 pt2) X.env = pure (some [x,y]):=by rfl)
  (hs:swapsWithSole [.Tuple [.Name x px,.Name y py] kt pt] (.Tuple [a,b] k2 pt2) pos.line X.env = pure false:=by rfl) :
  PSD A X (.Assign [.Tuple [.Name x px,.Name y py] kt pt] (.Tuple [a,b] k2 pt2) pos) (zJ2 i j ta):=by
 with_unfolding_all
  exact (Kb hc hN hi hj hij hx hy ha hw hs).imp fun E sg H h=>by
   obtain ⟨rho,n,F,ds,vs,I,⟨hl,hl2,ht⟩,ok⟩:=h
   refine ⟨rho,n,_,ds,vs,I,ht,fun ws H' n' es ⟨os,J⟩ hlen k=>?_⟩
   obtain ⟨d,d',rfl,k⟩:=k
   obtain ⟨J1,rs⟩:=J.split hlen
   obtain ⟨v,v',rfl,r,r'⟩:=VH rs
   refine ⟨v,v',rfl,ok.nx _ _ _ _ ?_ k⟩
   have J2:AmO A os n' rho sg H' (d :: d' :: ds) (v :: v' :: vs):=(J1.push r').push r
   exact ⟨_,(J2.set hl).set (by simpa using hl2)⟩
def zD6 (it:TID) (g:TGD) (tb:TSD):TSD:=fun F rho n=>it rho n fun items n1=>∃ J:Nat -> Rho -> Nat -> Prop,J 0 rho n1 /\
 (∀ i d rho n,items[i]? = some d -> J i rho n -> g d rho fun rho'=>tb { F with nx:=J (i + 1),ct:=J (i + 1),bk:=F.nx } rho' n) /\ ∀ rho n,J items.length rho n -> F.nx rho n
theorem wN {tg iter:Expr} {body:List Stmt} {it:TID} {g:TGD} {tb:TSD} {m:Nat} (hp:PassesOwn (model X.prog X.w) X.A X.env X.xe) (hc:X.calm = true) (hi:PID A X tg iter it) (hg:PGD A X m tg g) (hb:Um A X body tb)
  (hs:∀ x,foldedSetIterable iter X.env x = pure x:=by intro _; rfl):PSD A X (.For tg iter body [] pos) (zD6 it g tb):=by
 with_unfolding_all
  exact (zv6 hp hc hi hg hb hs).imp fun E sg H h=>by
   obtain ⟨rho,n,F,ds,vs,I,ht,ok⟩:=h
   refine ⟨rho,n,_,ds,vs,I,ht,fun J H' n' items es ws I1 hl hJ k=>?_⟩
   obtain ⟨W,w0,turn,fin⟩:=k
   refine ⟨fun i mm sg H=>mm = items.length - i /\ i <= items.length /\ ∃ rho n,Am A n rho sg H (es ++ ds) (ws ++ vs) /\ W i rho n,⟨items.length,rfl,Nat.zero_le _,rho,n',I1,w0⟩,?_⟩
   rintro i mm sg3 H3 ⟨rfl,hi,rho3,n3,I3,w3⟩
   obtain ⟨j1,j2⟩:=hJ n3 rho3 sg3 H3 ds vs i I3
   by_cases hlt:i < items.length
   ·refine .inr ⟨(j1 items[i] (by simp [hlt])).1, fun sg' H' => ∃ rho n, Am A n rho sg' H' (es ++ ds) (ws ++ vs) /\ W (i + 1) rho n, fun sg' H' ⟨rho', n', I', w'⟩ => ⟨items.length - (i + 1), by lia, rfl, hlt, rho', n', I', w'⟩, fun x H4 y => ?_⟩
    have I4:=(j1 items[i] (by simp [hlt])).2 x H4 y
    refine ⟨rho3,n3,_,items[i],es ++ ds,ws ++ vs,I4,turn i items[i] rho3 n3 (by simp [hlt]) w3,fun rho' sg' I5 _ k5=>⟨rho',n3,{ F with nx:=W (i + 1),ct:=W (i + 1),bk:=F.nx },es ++ ds,ws ++ vs,I5,k5,?_⟩⟩
    refine ⟨fun rho6 n6 sg6 H6 I6 k6=>⟨rho6,n6,I6,k6⟩,fun d n6 v rho6 sg6 H6 ⟨os6,I6⟩ k6=>ok.rt _ _ _ _ _ _ ⟨os6,I6.under hl⟩ k6,fun rho6 n6 sg6 H6 ⟨os6,I6⟩ k6=>ok.nx _ _ _ _ ⟨os6,(I6.split hl).1⟩ k6,fun rho6 n6 sg6 H6 I6 k6=>⟨rho6,n6,I6,k6⟩⟩
   ·have e : i = items.length := by lia
    subst e
    obtain ⟨os,I3⟩:=I3
    exact .inl ⟨j2 (Nat.le_refl _),ok.nx _ _ _ _ ⟨os,(I3.split hl).1⟩ (fin rho3 n3 w3)⟩
def zJ4 (te:TD):TSD:=fun F rho n=>te rho n fun _ n1=>F.nx rho n1
theorem AmO.setOwn {os:List (Nat × Addr)} {n:Nat} {rho:Rho} {sg:St} {H:Hp} {ds es:List D} {vs xs:List V} {i:Nat} {p:Addr} (I:AmO A os n rho sg H ds vs) (hi:i < rho.length) (hp:H p = none) (r:Reps A.K A.G (Zof A os) H es xs) :
  ∃ os',AmO A os' n (rho.set i (some (.own es))) (sg.set i (some (.ref p))) (upd H p (.lst xs)) ds vs:=by
 have hf:∀ a u,H a = some u -> upd H p (.lst xs) a = some u:=fun a u e=>by rw [zG (zU e hp)]; exact e
 refine ⟨(i,p) :: os.filter fun q=>decide (q.1 ≠ i),?_⟩
 have zz:∀ a,H a ≠ none -> Zof A ((i,p) :: os.filter fun q=>decide (q.1 ≠ i)) a -> Zof A os a:=fun a ha z=>by
  rcases z with z | ⟨q,hq,e⟩
  ·exact .inl z
  ·rcases List.mem_cons.mp hq with rfl | hq
   ·exact absurd (by rw [<- e]; exact hp) ha
   ·exact .inr ⟨q,(List.mem_filter.mp hq).1,e⟩
 have h0:A.H0 p = none:=by
  cases q:A.H0 p with
  | none=>rfl
  | some o =>
   by_cases e:A.G = some p
   ·obtain ⟨x, y, z, w, _⟩ := I.st p e
    rw [w] at hp; cases hp
   ·have := I.fr p o e q
    rw [this] at hp; cases hp
 refine ⟨by simp [I.len],fun j c e=>?_,Reps.mono zz (fun a u _ e=>hf a u e) _ _ I.pend,?_,fun q hq=>?_,fun a e=>?_,I.gz,fun a u h e=>hf a u (I.fr a u h e),I.z0⟩
 ·by_cases hj : j = i
  ·subst hj
   rw [List.getElem?_set_self hi] at e
   cases e
   exact ⟨.ref p,List.getElem?_set_self (by rw [<- I.len]; exact hi),p,xs,rfl,List.mem_cons_self,xg,Reps.mono zz (fun a u _ e=>hf a u e) _ _ r⟩
  ·rw [List.getElem?_set_ne (Ne.symm hj)] at e
   obtain ⟨u,e1,e2⟩:=I.slot j c e
   exact ⟨u,by rw [List.getElem?_set_ne (Ne.symm hj)]; exact e1,SlotR.mono zz (fun a u _ e=>hf a u e) (fun a ys m q=>⟨List.mem_cons_of_mem _ (List.mem_filter.mpr ⟨m,by simpa using hj⟩),hf a _ q⟩) _ _ e2⟩
 ·refine List.pairwise_cons.mpr ⟨fun q hq => ?_, I.nd.filter _⟩
  obtain ⟨m1,m2⟩:=List.mem_filter.mp hq
  refine ⟨fun z=>by simp [<- z] at m2,fun z=>(I.fresh q m1).2.2 ?_⟩
  have z':p = q.2:=z
  rw [<- z']; exact hp
 ·rcases List.mem_cons.mp hq with rfl | hq
  ·exact ⟨h0,fun z=>I.z0.1 p z h0,by show upd H p _ p ≠ none; rw [xg]; simp⟩
  ·obtain ⟨f1, f2, f3⟩ := I.fresh q (List.mem_filter.mp hq).1
   refine ⟨f1,f2,?_⟩
   cases w:H q.2 with
   | none=>exact absurd w f3
   | some u=>rw [hf _ _ w]; simp
 ·obtain ⟨x, y, z, q, rr⟩ := I.st a e
  exact ⟨x,y,z,hf _ _ q,rr⟩
def zJ3 (i:Nat) (t:TAD):TSD:=fun F rho n=>i < rho.length /\ t rho n fun es n1=>es.length <= sizeLine /\ F.nx (rho.set i (some (.own es))) n1
theorem kO {i:Nat} {x:Str} {pos' pos2:Pos} {els:List Expr} {ta:TAD} (hN:X.N.Nodup) (hi:X.N[i]? = some x) (hx:Loc X.env.scope x) (ha:PAD A X els ta) (hf:X.fn x = true \/ X.env.scope.names.lookup x = some .local:=by first | exact .inl rfl | exact .inr rfl | assumption)
  (hs:swapsWith (.List els pos2) (some (.Name x pos')) pos.line X.env = pure false:=by rfl):PSD A X (.Assign [.Name x pos'] (.List els pos2) pos) (zJ3 i ta):=by
 with_unfolding_all
  exact (Vc hN hi hx (jT ha) hs hf).imp fun E sg H h=>by
   obtain ⟨rho,n,F,ds,vs,I,⟨hl,ht⟩,ok⟩:=h
   refine ⟨rho,n,_,ds,vs,I,ht,fun ws H' n' es ⟨os,J⟩ hlen k=>⟨by rw [hlen]; exact k.1,fun p hp=>?_⟩⟩
   obtain ⟨J1,rs⟩:=J.split hlen
   exact ok.nx _ _ _ _ (J1.setOwn hl hp rs) k.2
theorem AmO.own {os:List (Nat × Addr)} {n:Nat} {rho:Rho} {sg:St} {H:Hp} {ds es es':List D} {vs xs':List V} {i:Nat} (I:AmO A os n rho sg H ds vs) (hi:rho[i]? = some (some (.own es))) :
  ∃ a xs,sg[i]? = some (some (.ref a)) /\ H a = some (.lst xs) /\ Reps A.K A.G (Zof A os) H es xs /\ ∀ es' xs',Reps A.K A.G (Zof A os) H es' xs' -> AmO A os n (rho.set i (some (.own es'))) sg (upd H a (.lst xs')) ds vs:=by
 obtain ⟨v,e1,a,xs,rfl,hm,hH,rs⟩:=I.slot i _ hi
 have hil:i < rho.length:=(List.getElem?_eq_some_iff.mp hi).1
 have za:Zof A os a:=.inr ⟨_,hm,rfl⟩
 have hf:∀ (xs':List V) b u,¬ Zof A os b -> H b = some u -> upd H a (.lst xs') b = some u:=fun xs' b u nz e=>by
  rw [zG fun z=>nz (by rw [z]; exact za)]; exact e
 have uniq:∀ j,(j,a) ∈ os -> j = i:=fun j hj=>by
  by_cases hji:j = i
  ·exact hji
  ·have key : ∀ (l : List (Nat × Addr)), l.Pairwise (fun p q => p.1 ≠ q.1 /\ p.2 ≠ q.2) -> (j, a) ∈ l -> (i, a) ∈ l -> False := by
    intro l
    induction l with
    | nil=>intro _ h; simp at h
    | cons c l ih =>
     intro hp h1 h2
     obtain ⟨p1,p2⟩:=List.pairwise_cons.mp hp
     rcases List.mem_cons.mp h1 with e1 | h1 <;> rcases List.mem_cons.mp h2 with e2 | h2
     ·rw [<- e2] at e1; exact hji (Prod.mk.inj e1).1
     ·exact (p1 _ h2).2 (by rw [<- e1])
     ·exact (p1 _ h1).2 (by rw [<- e2])
     ·exact ih p2 h1 h2
   exact (key os I.nd hj hm).elim
 obtain ⟨fa1,fa2,fa3⟩:=I.fresh _ hm
 refine ⟨a,xs,e1,hH,rs,fun es' xs' r=>⟨by simp [I.len],fun j c e=>?_,Reps.mono (fun _ _ z=>z) (hf xs') _ _ I.pend,I.nd,fun q hq=>?_,fun b e=>?_,I.gz,fun b u h e=>?_,I.z0⟩⟩
 ·by_cases hj : j = i
  ·subst hj
   rw [List.getElem?_set_self hil] at e
   cases e
   exact ⟨.ref a,e1,a,xs',rfl,hm,xg,Reps.mono (fun _ _ z=>z) (hf xs') _ _ r⟩
  ·rw [List.getElem?_set_ne (Ne.symm hj)] at e
   obtain ⟨u,e2,e3⟩:=I.slot j c e
   exact ⟨u,e2,SlotR.mono (fun _ _ z=>z) (hf xs') (fun b ys m q=>⟨m,by rw [zG fun z=>hj (uniq j (by rw [<- z]; exact m))]; exact q⟩) _ _ e3⟩
 ·obtain ⟨f1, f2, f3⟩ := I.fresh q hq
  refine ⟨f1,f2,?_⟩
  by_cases e:q.2 = a
  ·rw [e,xg]; simp
  ·rw [zG e]; exact f3
 ·obtain ⟨x, y, z, q, rr⟩ := I.st b e
  exact ⟨x,y,z,by rw [zG fun w=>fa2 (by rw [<- w]; exact I.gz b e)]; exact q,rr⟩
 ·rw [zG fun w => by rw [w, fa1] at e; cases e]
  exact I.fr b u h e
theorem AmO.freeze {os:List (Nat × Addr)} {n:Nat} {rho:Rho} {sg:St} {H:Hp} {ds es:List D} {vs:List V} {i:Nat} (I:AmO A os n rho sg H ds vs) (hi:rho[i]? = some (some (.own es))):∃ os',AmO A os' n (rho.set i (some (.lst es))) sg H ds vs:=by
 obtain ⟨v,e1,a,xs,rfl,hm,hH,rs⟩:=I.slot i _ hi
 have hil:i < rho.length:=(List.getElem?_eq_some_iff.mp hi).1
 refine ⟨os.filter fun q=>decide (q.1 ≠ i),?_⟩
 have sub:∀ b,H b ≠ none -> Zof A (os.filter fun p=>decide (p.1 ≠ i)) b -> Zof A os b:=fun b _ z=>by
  rcases z with z | ⟨p,hp,e⟩
  ·exact .inl z
  ·exact .inr ⟨p,(List.mem_filter.mp hp).1,e⟩
 have key:∀ (l:List (Nat × Addr)),l.Pairwise (fun p q=>p.1 ≠ q.1 /\ p.2 ≠ q.2) -> (i,a) ∈ l -> ∀ q ∈ l,q.2 = a -> q.1 = i:=by
  intro l
  induction l with
  | nil=>intro _ h; simp at h
  | cons c l ih =>
   intro hp h1 q hq hqa
   obtain ⟨p1,p2⟩:=List.pairwise_cons.mp hp
   rcases List.mem_cons.mp h1 with e1 | h1 <;> rcases List.mem_cons.mp hq with e2 | h2
   ·rw [e2,<- e1]
   ·exact absurd (by rw [<- e1,hqa]) (p1 _ h2).2
   ·exact absurd (by rw [<- e2,hqa]) (p1 _ h1).2
   ·exact ih p2 h1 q h2 hqa
 refine ⟨by simp [I.len],fun j c e=>?_,Reps.mono sub (fun _ _ _ e=>e) _ _ I.pend,I.nd.filter _,fun p hp=>I.fresh p (List.mem_filter.mp hp).1,I.st,I.gz,I.fr,I.z0⟩
 by_cases hj:j = i
 ·subst hj
  rw [List.getElem?_set_self hil] at e
  cases e
  refine ⟨.ref a,e1,Rep.lst_mk ⟨fun z=>?_,hH⟩ (Reps.mono sub (fun _ _ _ e=>e) _ _ rs)⟩
  rcases z with z | ⟨p,hp,e⟩
  ·exact (I.fresh _ hm).2.1 z
  ·obtain ⟨m1, m2⟩ := List.mem_filter.mp hp
   have:=key os I.nd hm p m1 e
   simp [this] at m2
 ·rw [List.getElem?_set_ne (Ne.symm hj)] at e
  obtain ⟨u,e2,e3⟩:=I.slot j c e
  exact ⟨u,e2,SlotR.mono sub (fun _ _ _ e=>e) (fun b ys m q=>⟨List.mem_filter.mpr ⟨m,by simpa using hj⟩,q⟩) _ _ e3⟩
def zV3 (i:Nat) (t:TSD):TSD:=fun F rho n=>∃ es,rho[i]? = some (some (.own es)) /\ t F (rho.set i (some (.lst es))) n
theorem vd (i:Nat) (h:PSD A X st t):PSD A X st (zV3 i t):=by
 with_unfolding_all
  exact PS.imp h fun E sg H q=>by
   obtain ⟨rho,n,F,ds,vs,⟨os,I⟩,⟨es,hi,ht⟩,ok⟩:=q
   exact ⟨_,n,F,ds,vs,I.freeze hi,ht,ok⟩
end
end L2
set_option maxRecDepth 100000
namespace L2
open PySem PySem.Spec PyProof.Rows
section
variable {A:AC} {X:Cx} {e a b:Expr} {es:List Expr} {te ta tb:TD} {t1:TAD} {pos:Pos}
def Wl (i:Nat) (t:TAD):TSD:=fun F rho n=>∃ es,rho[i]? = some (some (.own es)) /\ es.length < sizeLine /\ t rho n fun ds n1=>∃ d,ds = [d] /\ F.nx (rho.set i (some (.own (es ++ [d])))) n1
theorem xr {i:Nat} {x:Str} {px apos cpos:Pos} (ha:PAD A X [e] t1) (hK:X.K = A.K) (hN:X.N[i]? = some x:=by rfl) (hv:Vis X.env.scope x:=by first | exact Or.inl rfl | exact Or.inr (Or.inl rfl) | exact Or.inr (Or.inr rfl)) (hd:(x == ("__debug__" : Str)) = false:=by decide)
  (hcd:(x == ("__classdict__" : Str)) = false:=by decide) (hbase:attributeBase (.Name x px) "append" X.env (eval (.Name x px) X.env) = eval (.Name x px) X.env:=by rfl)
  (hfew : ((backTo cpos (starEach [e] X.env)).all (fun x => !x.1) && (backToKw cpos (keywordEach [] X.env)).all (fun x => x.1.isSome)
   && decide ([e].length + ([]:List Keyword).length + (if ([]:List Keyword).isEmpty then 0 else 1) < 30)) = true:=by rfl)
  (hline:(apos.endLine == cpos.line) = true:=by rfl) (hs:starEach [e] X.env = (false,eval e X.env) :: starEach [] X.env:=by rfl) (hplain:(backTo cpos (starEach [] X.env)).any (·.1) = false:=by rfl)
  (hsw:swapsWith (.Call (.Attribute (.Name x px) "append" apos) [e] [] cpos) none pos.line X.env = pure false:=by rfl) :
  PSD A X (.Expr (.Call (.Attribute (.Name x px) "append" apos) [e] [] cpos) pos) (Wl i t1):=by
 with_unfolding_all
  exact
   (Wp (Kj PySem.F.plainAttrs_list PySem.F.slot_list_append PySem.F.type_list_append Xe (vf hN hv hd hcd) ha hbase hfew hline hs hplain) hsw).imp fun E sg H h => by
    obtain ⟨rho,n,F,ds,vs,⟨os,I⟩,⟨es,hi,hz,ht⟩,ok⟩:=h
    obtain ⟨a,xs,e1,hH,rs,_⟩:=I.own (es':=es) (xs':=[]) hi
    refine ⟨.ref a,e1,.inl ⟨rfl,xs,SqL.of hH⟩,rho,n,_,ds,vs,⟨os,I⟩,ht,fun ws H' n' fs ⟨os',J⟩ hl k=>?_⟩
    obtain ⟨d,rfl,k⟩:=k
    obtain ⟨J1,rs1⟩:=J.split hl
    obtain ⟨v,rfl,r⟩:=yi rs1
    obtain ⟨a',xs',e2,hH',rs',up⟩:=J1.own (es':=es) (xs':=[]) hi
    rw [e1] at e2
    cases e2
    exact ⟨a,xs',v,rfl,rfl,hH',by rw [rs'.length]; exact hz,ok.nx _ _ _ _ ⟨os',up _ _ (rs'.append (.cons r .nil))⟩ k⟩
def vV (o:Option (Option D)) (p:List D -> Prop):Prop:=∃ es,o = some (some (.own es)) /\ p es
def zg9 (i:Nat) (tb:TD):TD:=fun rho n P=>vV rho[i]? fun es=>tb rho n fun d n1=>∃ j c,d = .int j /\ atI es j = some c /\ P c n1
theorem QQ {i:Nat} {x:Str} {px:Pos} (hb:PD A X b tb) (hpl:Yb b) (hN:X.N[i]? = some x:=by rfl) (hv:Vis X.env.scope x:=by first | exact Or.inl rfl | exact Or.inr (Or.inl rfl) | exact Or.inr (Or.inr rfl)) (hd:(x == ("__debug__" : Str)) = false:=by decide)
  (hcd:(x == ("__classdict__" : Str)) = false:=by decide):PD A X (.Subscript (.Name x px) b pos) (zg9 i tb):=by
 with_unfolding_all
  exact
   (zk9 ix_list (vf hN hv hd hcd) hb hpl).imp fun sg H Q h => by
    obtain ⟨rho,n,P,ds,vs,⟨os,I⟩,⟨es,hi,ht⟩,hQ⟩:=h
    obtain ⟨a,xs,e1,hH,rs,_⟩:=I.own (es':=es) (xs':=[]) hi
    refine ⟨.ref a,e1,rho,n,_,ds,vs,⟨os,I⟩,ht,fun v H' n' d ⟨os',J⟩ k=>?_⟩
    obtain ⟨j,c,rfl,hc,k⟩:=k
    obtain ⟨J1,r⟩:=J.pop
    obtain ⟨a',xs',e2,hH',rs',_⟩:=J1.own (es':=es) (xs':=[]) hi
    rw [e1] at e2
    cases e2
    obtain ⟨w,e3,rw'⟩:=ZZ rs' hc
    exact ⟨a,xs',j,w,rfl,r.int_inv,SqL.of hH',e3,hQ w H' n' c ⟨os',J1.push rw'⟩ k⟩
def zi9 (i:Nat) (te tb:TD):TSD:=fun F rho n=>vV rho[i]? fun es=>te rho n fun d n1=>tb rho n1 fun d2 n2=>∃ j m,d2 = .int j /\ ixN es.length j = some m /\ F.nx (rho.set i (some (.own (es.set m d)))) n2
def zC5 (i:Nat) (tb:TD):TD:=fun rho n P=>rho[i]? = some (some .st) /\ tb rho n fun d n1=>∃ j:Int,d = .int j /\ 0 <= j /\ j < n1 /\ ∀ z:Int,0 <= z -> (j = 1 -> z < 2147483647) -> P (.int z) n1
theorem zg2 {n:Nat} {i:Int} (h0:0 <= i) (h1:i < n):ixN n i = some i.toNat:=by unfold ixN; rw [if_pos h0,if_pos h1]
theorem vg {i:Nat} {x:Str} {px:Pos} (hb:PD A X b tb) (hpl:Yb b) (hN:X.N[i]? = some x:=by rfl) (hv:Vis X.env.scope x:=by first | exact Or.inl rfl | exact Or.inr (Or.inl rfl) | exact Or.inr (Or.inr rfl)) (hd:(x == ("__debug__" : Str)) = false:=by decide)
  (hcd:(x == ("__classdict__" : Str)) = false:=by decide):PD A X (.Subscript (.Name x px) b pos) (zC5 i tb):=by
 with_unfolding_all
  exact
   (zk9 ix_list (vf hN hv hd hcd) hb hpl).imp fun sg H Q h => by
    obtain ⟨rho,n,P,ds,vs,⟨os,I⟩,⟨hi,ht⟩,hQ⟩:=h
    obtain ⟨v,e1,e2⟩:=I.slot i _ hi
    obtain ⟨a,ha,rfl⟩:∃ a,A.G = some a /\ v = .ref a:=by
     have e3:=SlotR.rep (d:=.st) rfl e2
     unfold Rep at e3
     exact e3
    refine ⟨.ref a,e1,rho,n,_,ds,vs,⟨os,I⟩,ht,fun w H' n' d ⟨os',J⟩ k=>?_⟩
    obtain ⟨j,rfl,h0,h3,k⟩:=k
    obtain ⟨J1,r⟩:=J.pop
    obtain ⟨zs,_,_,hH,p1,p2,p3⟩:=J1.st a ha
    obtain ⟨jn,rfl⟩:=Int.eq_ofNat_of_zero_le h0
    have hjl:jn < zs.length:=by lia
    have ej:zs[jn]? = some zs[jn]:=List.getElem?_eq_getElem hjl
    refine ⟨a,_,(jn:Int),.int zs[jn],rfl,r.int_inv,SqL.of hH,?_,hQ _ H' n' _ ⟨os',J1.push (Rep.ofS (d:=.int zs[jn]) rfl)⟩ (k zs[jn] (p2 _ (List.getElem_mem hjl)) fun e=>p3 _ (by rw [<- ej]; congr 1; lia))⟩
    unfold atI
    rw [zg2 (by lia) (by rw [List.length_map]; lia)]
    simp [hjl]
theorem zc3 (zs:List Int) (j:Nat) (z:Int):(zs.map V.int).set j (.int z) = (zs.set j z).map V.int:=by rw [List.map_set]
theorem AmO.setSt {os:List (Nat × Addr)} {n:Nat} {rho:Rho} {sg:St} {H:Hp} {ds:List D} {vs:List V} {a:Addr} {zs:List Int} (I:AmO A os n rho sg H ds vs) (ha:A.G = some a) (h:zs.length = n /\ (∀ x ∈ zs,0 <= x) /\ ∀ x,zs[1]? = some x -> x < 2147483647) :
  AmO A os n rho sg (upd H a (.lst (zs.map V.int))) ds vs:=by
 have za:Zof A os a:=.inl (I.gz a ha)
 have hf:∀ b u,¬ Zof A os b -> H b = some u -> upd H a (.lst (zs.map V.int)) b = some u:=fun b u nz e=>by
  rw [zG fun w=>nz (by rw [w]; exact za)]; exact e
 have no:∀ p ∈ os,p.2 ≠ a:=fun p hp e=>(I.fresh p hp).2.1 (by rw [e]; exact I.gz a ha)
 refine ⟨I.len,fun j c e=>?_,Reps.mono (fun _ _ w=>w) hf _ _ I.pend,I.nd,fun q hq=>?_,fun b e=>?_,I.gz,fun b u h e=>?_,I.z0⟩
 ·obtain ⟨u, e1, e2⟩ := I.slot j c e
  exact ⟨u,e1,SlotR.mono (fun _ _ w=>w) hf (fun b ys m q=>⟨m,by rw [zG (no _ m)]; exact q⟩) _ _ e2⟩
 ·obtain ⟨f1, f2, f3⟩ := I.fresh q hq
  exact ⟨f1,f2,by rw [zG (no q hq)]; exact f3⟩
 ·rw [ha] at e
  cases e
  exact ⟨zs,0,0,xg,h⟩
 ·rw [zG fun w => h (by rw [w]; exact ha)]
  exact I.fr b u h e
def ze9 (i:Nat) (te tb:TD):TSD:=fun F rho n=>rho[i]? = some (some .st) /\ te rho n fun d n1=>tb rho n1 fun d2 n2=>∃ j z:Int,d = .int z /\ d2 = .int j /\ 0 <= j /\ j < n2 /\ 0 <= z /\ (j = 1 -> z < 2147483647) /\ F.nx rho n2
theorem qU {i:Nat} {x:Str} {px ps:Pos} (he:PD A X e te) (hb:PD A X b tb) (hN:X.N[i]? = some x:=by rfl) (hv:Vis X.env.scope x:=by first | exact Or.inl rfl | exact Or.inr (Or.inl rfl) | exact Or.inr (Or.inr rfl)) (hd:(x == ("__debug__" : Str)) = false:=by decide)
  (hcd : (x == ("__classdict__" : Str)) = false := by decide) (ha : ∀ v, assign (.Subscript (.Name x px) b ps) X.env v = (do
   let ov <- holding [v] (eval (.Name x px) X.env)
   let iv <- holding [v,ov] (eval b X.env)
   standAt ps
   holding [v,ov,iv] (setItem ov iv v)
   release [v,ov,iv] []):=by intro _; rfl) (hs:swapsWithSole [.Subscript (.Name x px) b ps] e pos.line X.env = pure false:=by rfl) (hw:swappedStores [.Subscript (.Name x px) b ps] e X.env = pure none:=by rfl)
  (h1:(assignEach [.Subscript (.Name x px) b ps] X.env).map (·.2) = [assign (.Subscript (.Name x px) b ps) X.env]:=by rfl) :
  PSD A X (.Assign [.Subscript (.Name x px) b ps] e pos) (ze9 i te tb):=by
 with_unfolding_all
  exact
   (Kc he (zv9 (vf hN hv hd hcd) hb Qw ha) hs hw h1).imp fun E sg H h => by
    obtain ⟨rho,n,F,ds,vs,⟨os,I⟩,⟨hi,ht⟩,ok⟩:=h
    obtain ⟨v,e1,e2⟩:=I.slot i _ hi
    obtain ⟨a,hG,rfl⟩:∃ a,A.G = some a /\ v = .ref a:=by
     have e3:=SlotR.rep (d:=.st) rfl e2
     unfold Rep at e3
     exact e3
    refine ⟨rho,n,_,ds,vs,⟨os,I⟩,ht,fun v H' n' d J k=>⟨.ref a,e1,rho,n',_,d :: ds,v :: vs,J,k,fun w H2 n2 d2 ⟨os2,J2⟩ k2=>?_⟩⟩
    obtain ⟨j,z,rfl,rfl,h0,h3,hz,h2,k2⟩:=k2
    obtain ⟨J3,r2⟩:=J2.pop
    obtain ⟨J4,r1⟩:=J3.pop
    obtain ⟨zs,_,_,hH,p1,p2,p3⟩:=J4.st a hG
    rw [r1.int_inv,r2.int_inv]
    obtain ⟨jn,rfl⟩:=Int.eq_ofNat_of_zero_le h0
    have hjl:jn < zs.length:=by lia
    refine ⟨a,_,(jn:Int),jn,rfl,rfl,hH,by rw [zg2 (by lia) (by rw [List.length_map]; lia)]; simp,?_⟩
    rw [zc3]
    refine ok.nx _ _ _ _ ⟨os2,J4.setSt hG ⟨by rw [List.length_set]; exact p1,fun x hx=>?_,fun x hx=>?_⟩⟩ k2
    ·rcases List.mem_or_eq_of_mem_set hx with hx | rfl
     ·exact p2 x hx
     ·exact hz
    ·by_cases e : jn = 1
     ·subst e
      rw [List.getElem?_set_self hjl] at hx
      cases hx
      exact h2 rfl
     ·rw [List.getElem?_set_ne e] at hx
      exact p3 x hx
def Ym (es:List D) (lo hi:Option Int):List D:=(es.drop (HT.sIx es.length 0 lo)).take (HT.sIx es.length es.length hi - HT.sIx es.length 0 lo)
theorem ZE {K:PySem.W.Frag} {G:Option Addr} {Z:Addr -> Prop} {H:Hp} {fs:List D} {xs:List V} (h:Reps K G Z H fs xs) (lo hi:Option Int):Reps K G Z H (Ym fs lo hi) (zd4 xs lo hi):=by
 unfold Ym zd4
 rw [h.length]
 exact (h.drop _).take _
def xi6 (lo hi:Option Int) (ta:TD):TD:=fun rho n P=>ta rho n fun d n1=>∃ fs,(d = .lst fs \/ d = .fz fs) /\ P (.lst (Ym fs lo hi)) n1
def zC2 (es:List D):List D:=es.zipIdx.map fun p=>.tup [.int (p.2:Nat),p.1]
def zB5 (t:TAD):TID:=fun rho n P=>t rho n fun es n1=>∃ fs,es = [.lst fs] /\ P (zC2 fs) n1
end
abbrev TF:=List D -> Nat -> (D -> Nat -> Prop) -> Prop
def spD (K:PySem.W.Frag) (k:Nat) (t:TF):Sp:=fun vs H Q _=>∃ (G:Option Addr) (Z:Addr -> Prop) (n:Nat) (P:D -> Nat -> Prop) (ds:List D),ds.length = k /\ Reps K G Z H ds vs /\ zh7 G n H /\ (∀ a,G = some a -> Z a) /\ ZOk K G Z H /\ t ds n P /\
 ∀ v H' n' d,(∀ a o,G ≠ some a -> H a = some o -> H' a = some o) -> zh7 G n' H' -> Rep K G Z H' d v -> P d n' -> Q v H'
def startD (N:List Str) (ds:List D):Rho:=ds.map some ++ List.replicate (N.length - ds.length) none
theorem kB {K:PySem.W.Frag} {G:Option Addr} {Z:Addr -> Prop} {H:Hp} {N:List Str} {ds:List D} {vs:List V} {n:Nat} (rs:Reps K G Z H ds vs) (st:zh7 G n H) (gz:∀ a,G = some a -> Z a) (z0:ZOk K G Z H) :
  AmO ⟨K,G,Z,H⟩ [] n (startD N ds) (kF N vs) H [] []:=by
 have hl:=rs.length
 have zz:∀ a,Zof ⟨K,G,Z,H⟩ [] a -> Z a:=fun a z=>by
  rcases z with z | ⟨p,hp,_⟩
  ·exact z
  ·simp at hp
 have rs':Reps K G (Zof ⟨K,G,Z,H⟩ []) H ds vs:=Reps.mono (fun a _ z=>zz a z) (fun _ _ _ e=>e) _ _ rs
 refine ⟨by simp [startD,kF,hl],fun i d e=>?_,.nil,.nil,fun p hp=>by simp at hp,st,gz,fun a o _ e=>e,z0⟩
 unfold startD at e
 by_cases hi:i < ds.length
 ·rw [List.getElem?_append_left (by simpa using hi), List.getElem?_map] at e
  cases q:ds[i]? with
  | none=>rw [q] at e; cases e
  | some c =>
   rw [q] at e
   cases e
   obtain ⟨v,e1,r⟩:=rs'.get q
   refine ⟨v,?_,SlotR.of r⟩
   unfold kF
   rw [List.getElem?_append_left (by rw [List.length_map,hl]; exact hi),List.getElem?_map,e1]
   rfl
 ·rw [List.getElem?_append_right (by simpa using hi), List.getElem?_replicate] at e
  split at e <;> cases e
section
variable {P:Program} {w:World} {K:PySem.W.Frag} {mg:Str -> Option Value} {base:Heap}
theorem Fun.okD {x qual:Str} {st:Stmt} {f:Addr} {fd:FuncData} {N ps:List Str} {k:Nat} {t:TF} {tb:TSD} (F:Fun K x qual st f fd) (S:FnScope N ps (zg st))
  (body : ∀ (cdv : Value) (A0 : Around) (outer : List Env) (s : Shared) (H : Hp) (E : XK) (G : Option Addr) (Z : Addr -> Prop), Room k (A0.deeper (envOfC qual (zg st) s.heap.objs.size f cdv)) ->
   Um ⟨K,G,Z,H⟩ (zd2 CX0 P w K mg base N qual (zg st) f cdv A0 outer s H E).nox (zo st) tb)
  (spec:∀ ds n Q,ds.length = ps.length -> t ds n Q -> tb { nx:=fun _ n=>Q .non n,rt:=Q } (startD N ds) n):FnOk P w K mg base CX0 (k + 1) f fd ps (spD K ps.length t):=by
 with_unfolding_all
  exact (by
   refine F.ok S (fun vs H Q E h=>?_) (fun cdv A0 outer s H vs Q E hr h=>?_)
   ·obtain ⟨G, Z, n, R, ds, hl, rs, _⟩ := h
    rw [rs.length]; exact hl
   ·obtain ⟨G, Z, n, R, ds, hl, rs, hst, gz, z0, ht, hQ⟩ := h
    refine ⟨_,body cdv A0 outer s H E G Z hr,startD N ds,n,_,[],[],⟨[],kB rs hst gz z0⟩,spec ds n R hl ht,?_⟩
    have zz:∀ (os:List (Nat × Addr)) a,Z a -> Zof ⟨K,G,Z,H⟩ os a:=fun os a z=>.inl z
    refine ⟨fun rho' n' sg' H' ⟨os,I⟩ q=>?_,fun d n' v rho' sg' H' ⟨os,I⟩ q=>?_,fun _ _ _ _ _ q=>q.elim,fun _ _ _ _ _ q=>q.elim⟩
    ·exact hQ .non H' n' .non I.fr I.st (Rep.ofS rfl) q
    ·exact hQ v H' n' d I.fr I.st (Rep.mono (fun a _ z=>zz os a z) (fun _ _ _ e=>e) _ _ I.pop.2) q)
end
section
variable {A:AC} {X:Cx} {e:Expr} {es:List Expr} {t1:TAD} {pos p:Pos}
def dFn (k:Nat) (t:TF) (t1:TAD):TD:=fun rho n P=>t1 rho n fun es n1=>es.length = k /\ t es n1 P
theorem AmO.called {os:List (Nat × Addr)} {n n':Nat} {rho:Rho} {sg:St} {H H':Hp} {ds:List D} {vs:List V} (I:AmO A os n rho sg H ds vs) (fr:∀ a o,A.G ≠ some a -> H a = some o -> H' a = some o) (st:zh7 A.G n' H'):AmO A os n' rho sg H' ds vs:=by
 have hf:∀ b u,¬ Zof A os b -> H b = some u -> H' b = some u:=fun b u nz e=>fr b u (fun z=>nz (.inl (I.gz b z))) e
 have no:∀ p ∈ os,A.G ≠ some p.2:=fun p hp e=>(I.fresh p hp).2.1 (I.gz _ e)
 refine ⟨I.len,fun j c e=>?_,Reps.mono (fun _ _ w=>w) hf _ _ I.pend,I.nd,fun q hq=>?_,st,I.gz,fun b u h e=>fr b u h (I.fr b u h e),I.z0⟩
 ·obtain ⟨u, e1, e2⟩ := I.slot j c e
  exact ⟨u,e1,SlotR.mono (fun _ _ w=>w) hf (fun b ys m q=>⟨m,fr _ _ (no _ m) q⟩) _ _ e2⟩
 ·obtain ⟨f1, f2, f3⟩ := I.fresh q hq
  refine ⟨f1,f2,?_⟩
  cases z:H q.2 with
  | none=>exact absurd z f3
  | some u=>rw [fr _ _ (no q hq) z]; simp
theorem zl3 {x:Str} {f:Addr} {fd:FuncData} {ps:List Str} {t:TF} {kk k:Nat} (F:FnOk X.prog X.w X.K X.mg X.base CX0 kk f fd ps (spD X.K k t)) (hr:Room kk X.A) (hm:X.mg x = some (.ref f)) (hk:PySem.W.keepIn X.K (.ref f) = true) (hb:Binds X.K fd ps []) (hK:X.K = A.K)
  (ha:PAD A X (e :: es) t1) (hg:Gl X x:=by rfl) (hdb:(x == ("__debug__" : Str)) = false:=by decide) (he:starEach (e :: es) X.env = (false,eval e X.env) :: starEach es X.env:=by rfl) (hpl:(backTo pos (starEach es X.env)).any (·.1) = false:=by rfl) :
  PD A X (.Call (.Name x p) (e :: es) [] pos) (dFn k t t1):=by
 with_unfolding_all
  exact (Ki F hr hg hm hk hb .nil zx0 ha hdb he hpl).imp fun sg H Q h=>by
   obtain ⟨rho,n,R,ds,vs,I,ht,hQ⟩:=h
   refine ⟨rho,n,_,ds,vs,I,ht,fun ws H' n' es' ⟨os,J⟩ hl k=>?_⟩
   obtain ⟨J1,rs⟩:=J.split hl
   rw [List.append_nil,hK]
   refine ⟨A.G,Zof A os,n',R,es',k.1,rs,J1.st,fun a z=>.inl (J1.gz a z),J1.zO,k.2,fun v H2 n2 d fr st r q=>hQ v H2 n2 d ⟨os,(J1.called fr st).push r⟩ q⟩
end
end L2
set_option maxRecDepth 100000
namespace L2
open PySem PySem.Spec PyProof.Rows
section
variable {A:AC} {X:Cx} {tg a:Expr} {ta:TD} {pos p:Pos}
def zT3 (K:PySem.W.Frag) (tl:TE):TI:=fun sg H R=>tl sg H fun x H1=>∃ l,x = .ref l /\ (((∃ xs,SqL K H1 l xs) /\ R (Itl K l) H1) \/ ((∃ xs,SqT K H1 l xs) /\ R (Itt K l) H1))
theorem zk7 {l:Expr} {tl:TE} (hl:PE X l tl):PI X tg l (zT3 X.K tl):=by
 intro pins s sg H R I h
 refine thn (hl pins s sg H _ I h) fun v s1 ⟨x,H1,I1,r1,q1⟩=>?_
 obtain ⟨c,e,q1⟩:=q1
 subst e
 cases r1
 have new:∀ b ∈ [s1.heap.objs.size],FpOk X pins H1 b:=fun b hb=>by
  obtain rfl:b = s1.heap.objs.size:=by simpa using hb
  exact I1.fpOk (Nat.le_refl _) (I1.hok.fresh (Nat.le_refl _))
 rcases q1 with ⟨⟨xs,hq⟩,q⟩ | ⟨⟨xs,hq⟩,q⟩
 ·obtain ⟨its, rv, pl, hz⟩ := I1.list hq
  exact wpAny_pyIter_list pl.isList ⟨s1.heap.objs.size,[s1.heap.objs.size],_,_,H1,rfl,I1.kept (t':=s1.toks) fun b o e=>Heap.get?_push_of_some _ e,UD c _,⟨_,Heap.get?_push_size _ rfl,rfl,rfl⟩,new,q⟩
 ·obtain ⟨its, rv, pl, hz⟩ := I1.tuple hq
  exact wpAny_pyIter_tuple (show s1.heap.IsTuple c its.toArray from pl) ⟨s1.heap.objs.size,[s1.heap.objs.size],_,_,H1,rfl,I1.kept (t':=s1.toks) fun b o e=>Heap.get?_push_of_some _ e,VB c _,⟨_,Heap.get?_push_size _ rfl,rfl,rfl⟩,new,q⟩
def zB2 (ta:TD):TID:=fun rho n P=>ta rho n fun d n1=>∃ es,(d = .lst es \/ d = .tup es) /\ P es n1
theorem xn (hK:X.K = A.K) (ha:PD A X a ta):PID A X tg a (zB2 ta):=by
 with_unfolding_all
  exact (zk7 ha).imp fun sg H R h=>by
   obtain ⟨rho,n,P,ds,vs,I,ht,hQ⟩:=h
   refine ⟨rho,n,_,ds,vs,I,ht,fun v H' n' d ⟨os,J⟩ k=>?_⟩
   obtain ⟨es,hd,k⟩:=k
   have r:=J.pop.2
   rw [hK]
   rcases hd with rfl | rfl
   ·obtain ⟨l, xs, rfl, sq, rs⟩ := r.lst_inv
    refine ⟨l,rfl,.inl ⟨⟨xs,sq.sq⟩,hQ _ H' n' es [.lst es] [.ref l] ⟨os,J⟩ rfl (fun n2 rho2 sg2 H2 ds2 vs2 i ⟨os2,I2⟩=>?_) k⟩⟩
    obtain ⟨I3,r2⟩:=AmO.pop (d:=.lst es) (v:=.ref l) (ds:=ds2) (vs:=vs2) I2
    obtain ⟨l',xs2,e,sq2,rs2⟩:=r2.lst_inv
    cases e
    refine ⟨fun d e=>?_,fun hi=>⟨xs2,sq2.sq,by rw [rs2.length]; exact hi⟩⟩
    obtain ⟨v,e1,rv⟩:=rs2.get e
    refine ⟨⟨xs2,v,sq2.sq,e1⟩,fun x H3 y=>?_⟩
    obtain ⟨e3,y⟩:=y
    subst e3
    have e4:=y xs2 sq2.sq
    rw [e1] at e4; cases e4
    exact ⟨os2,I2.push rv⟩
   ·obtain ⟨l, xs, rfl, sq, rs⟩ := r.tup_inv
    refine ⟨l,rfl,.inr ⟨⟨xs,sq.sq⟩,hQ _ H' n' es [.tup es] [.ref l] ⟨os,J⟩ rfl (fun n2 rho2 sg2 H2 ds2 vs2 i ⟨os2,I2⟩=>?_) k⟩⟩
    obtain ⟨I3,r2⟩:=AmO.pop (d:=.tup es) (v:=.ref l) (ds:=ds2) (vs:=vs2) I2
    obtain ⟨l',xs2,e,sq2,rs2⟩:=r2.tup_inv
    cases e
    refine ⟨fun d e=>?_,fun hi=>⟨xs2,sq2.sq,by rw [rs2.length]; exact hi⟩⟩
    obtain ⟨v,e1,rv⟩:=rs2.get e
    refine ⟨⟨xs2,v,sq2.sq,e1⟩,fun x H3 y=>?_⟩
    obtain ⟨e3,y⟩:=y
    subst e3
    have e4:=y xs2 sq2.sq
    rw [e1] at e4; cases e4
    exact ⟨os2,I2.push rv⟩
end
structure Fn (P:Program) (w:World) (K:PySem.W.Frag) (mg:Str -> Option Value) (base:Heap) (x:Str) (kk k:Nat) (t:TF):Prop where
 ex:∃ (f:Addr) (fd:FuncData) (ps:List Str),FnOk P w K mg base CX0 kk f fd ps (spD K k t) /\ mg x = some (.ref f) /\ PySem.W.keepIn K (.ref f) = true /\ Binds K fd ps []
theorem zy {A:AC} {X:Cx} {e:Expr} {es:List Expr} {t1:TAD} {pos p:Pos} {x:Str} {t:TF} {kk k:Nat} (F:Fn X.prog X.w X.K X.mg X.base x kk k t) (hr:Room kk X.A) (hK:X.K = A.K)
  (ha:PAD A X (e :: es) t1) (hg:Gl X x:=by rfl) (hdb:(x == ("__debug__" : Str)) = false:=by decide) (he:starEach (e :: es) X.env = (false,eval e X.env) :: starEach es X.env:=by rfl) (hpl:(backTo pos (starEach es X.env)).any (·.1) = false:=by rfl) :
  PD A X (.Call (.Name x p) (e :: es) [] pos) (dFn k t t1):=by
 with_unfolding_all
  exact (by
   obtain ⟨f,fd,ps,h1,h2,h3,h4⟩:=F.ex
   exact zl3 h1 hr h2 h3 h4 hK ha hg hdb he hpl)
structure Blt (mg:Str -> Option Value):Prop where
 len:mg "len" = none
 abs:mg "abs" = none
 all:mg "all" = none
 any:mg "any" = none
 isi:mg "isinstance" = none
 int:mg "int" = none
 bool:mg "bool" = none
 str:mg "str" = none
 tuple:mg "tuple" = none
 list:mg "list" = none
 range:mg "range" = none
 zip:mg "zip" = none
 enum:mg "enumerate" = none
 max:mg "max" = none
 min:mg "min" = none
 sorted:mg "sorted" = none
theorem wL:bootBuiltins "len" = some (.builtin "len"):=by decide +kernel
theorem zh6:bootBuiltins "abs" = some (.builtin "abs"):=by decide +kernel
theorem JV:bootBuiltins "all" = some (.builtin "all"):=by decide +kernel
theorem JU:bootBuiltins "any" = some (.builtin "any"):=by decide +kernel
theorem Zi:bootBuiltins "isinstance" = some (.builtin "isinstance"):=by decide +kernel
theorem XB:bootBuiltins "int" = some (.type "int"):=by decide +kernel
theorem zp4:bootBuiltins "bool" = some (.type "bool"):=by decide +kernel
theorem zC9:bootBuiltins "str" = some (.type "str"):=by decide +kernel
theorem xo:bootBuiltins "tuple" = some (.type "tuple"):=by decide +kernel
theorem WD:bootBuiltins "list" = some (.type "list"):=by decide +kernel
end L2
set_option maxRecDepth 100000
namespace L2
open PySem PySem.Spec PyProof.Rows
def isB (d:D) (p:Bool -> Prop):Prop:=∃ c,d = .bl c /\ p c
@[simp] theorem xf8 {b:Bool} {p:Bool -> Prop}:isB (.bl b) p ↔ p b:=⟨fun ⟨_,e,h⟩=>by cases e; exact h,fun h=>⟨_,rfl,h⟩⟩
@[simp] theorem zL9 {F rho n}:zs3 F rho n = F.nx rho n:=rfl
@[simp] theorem zW5 {t u F rho n}:XT t u F rho n = t { F with nx:=u F } rho n:=rfl
@[simp] theorem zW6 {te F rho n}:zI9 te F rho n = te rho n F.rt:=rfl
@[simp] theorem xe7 {c t u F rho n}:sIf c t u F rho n = c rho n fun b n1=>if b = true then t F rho n1 else u F rho n1:=rfl
@[simp] theorem zW4 {i te F rho n}:WT i te F rho n = (i < rho.length /\ te rho n fun d n1=>F.nx (rho.set i (some d)) n1):=rfl
@[simp] theorem zW3 {te g F rho n}:zV1 te g F rho n = te rho n fun d n1=>g d rho fun rho'=>F.nx rho' n1:=rfl
@[simp] theorem zW9 {i t F rho n}:zJ3 i t F rho n = (i < rho.length /\ t rho n fun es n1=>es.length <= sizeLine /\ F.nx (rho.set i (some (.own es))) n1):=rfl
@[simp] theorem zM0 {te F rho n}:zJ4 te F rho n = te rho n fun _ n1=>F.nx rho n1:=rfl
@[simp] theorem zX0 {i t F rho n}:zV3 i t F rho n = ∃ es,rho[i]? = some (some (.own es)) /\ t F (rho.set i (some (.lst es))) n:=rfl
@[simp] theorem zu3 {i t F rho n}:Wl i t F rho n = ∃ es,rho[i]? = some (some (.own es)) /\ es.length < sizeLine /\ t rho n fun ds n1=>∃ d,ds = [d] /\ F.nx (rho.set i (some (.own (es ++ [d])))) n1:=rfl
@[simp] theorem zG7 {i d rho P}:zg3 i d rho P = (i < rho.length /\ P (rho.set i (some d))):=rfl
@[simp] theorem zX8 {i rho n P}:xb2 i rho n P = atV rho[i]? fun d=>P d n:=rfl
@[simp] theorem xh0 {d k}:atV (some (some d)) k = atD d k:=rfl
@[simp] theorem xa1 {k}:atD .non k = k .non:=rfl
@[simp] theorem xa0 {k b}:atD (.bl b) k = k (.bl b):=rfl
@[simp] theorem zZ9 {k b}:atD (.int b) k = k (.int b):=rfl
@[simp] theorem zZ8 {k b}:atD (.str b) k = k (.str b):=rfl
@[simp] theorem zZ7 {k b}:atD (.tup b) k = k (.tup b):=rfl
@[simp] theorem zZ6 {k b}:atD (.lst b) k = k (.lst b):=rfl
@[simp] theorem zZ5 {k b}:atD (.fz b) k = k (.fz b):=rfl
@[simp] theorem zZ4 {k}:atD .st k = k .st:=rfl
@[simp] theorem zZ3 {k a b}:atD (.dct a b) k = k (.dct a b):=rfl
@[simp] theorem xh1 {d k} (h:zu d = true):atD d k = k d:=propext ⟨fun z=>(JZ z).2,zD1 h⟩
@[simp] theorem xj9 {d rho n P}:dC d rho n P = P d n:=rfl
@[simp] theorem xg6 {rd ta tb rho n P}:dOp rd ta tb rho n P = ta rho n fun d1 n1=>tb rho n1 fun d2 n2=>rd d1 d2 fun d=>P d n2:=rfl
@[simp] theorem zQ2 {t rho n P}:Ju t rho n P = t rho n fun d n'=>isB d fun b=>P b n':=rfl
@[simp] theorem zM8 {d1 d2 k}:zt5 d1 d2 k = (d2 = .non /\ k (.bl (wO d1))):=rfl
@[simp] theorem zE4 {d1 d2 k}:zf2 d1 d2 k = (d2 = .non /\ k (.bl (!wO d1))):=rfl
@[simp] theorem zZ2 {t u rho n P}:zU3 t u rho n P = t rho n fun c n1=>if c = true then u rho n1 P else P false n1:=rfl
@[simp] theorem xg9 {t u rho n P}:bOr t u rho n P = t rho n fun c n1=>if c = true then P true n1 else u rho n1 P:=rfl
@[simp] theorem zZ1 {t rho n P}:xb9 t rho n P = t rho n fun c n1=>P (!c) n1:=rfl
@[simp] theorem zZ0 {rho n P}:zD0 rho n P = P true n:=rfl
@[simp] theorem zY9 {ta tb rho n P}:xb8 ta tb rho n P = ta rho n fun d n1=>isB d fun c=>if c = true then tb rho n1 P else P (.bl false) n1:=rfl
@[simp] theorem xg5 {ta tb rho n P}:dOr ta tb rho n P = ta rho n fun d n1=>isB d fun c=>if c = true then P (.bl true) n1 else tb rho n1 P:=rfl
@[simp] theorem zY4 {ta rho n P}:xb6 ta rho n P = ta rho n fun d n1=>isB d fun c=>P (.bl (!c)) n1:=rfl
@[simp] theorem xg7 {t ta tb rho n P}:dIf t ta tb rho n P = t rho n fun c n1=>if c = true then ta rho n1 P else tb rho n1 P:=rfl
@[simp] theorem xa2 {rho n P}:zU4 rho n P = P [] n:=rfl
@[simp] theorem zQ8 {t r rho n P}:zD2 t r rho n P = t rho n fun d n1=>r rho n1 fun ds n2=>P (d :: ds) n2:=rfl
@[simp] theorem zX9 {t rho n P}:xb3 t rho n P = t rho n fun ds n1=>ds.length <= sizeLine /\ P (.tup ds) n1:=rfl
@[simp] theorem zY5 {t rho n P}:zU0 t rho n P = t rho n fun ds n1=>ds.length <= sizeLine /\ P (.lst ds) n1:=rfl
@[simp] theorem zQ6 {rd t rho n P}:zd1 rd t rho n P = t rho n fun es n1=>rd es fun d=>P d n1:=rfl
@[simp] theorem xg8 {k t t1 rho n P}:dFn k t t1 rho n P = t1 rho n fun es n1=>es.length = k /\ t es n1 P:=rfl
@[simp] theorem zP7 {ta rho n P}:zB2 ta rho n P = ta rho n fun d n1=>∃ es,(d = .lst es \/ d = .tup es) /\ P es n1:=rfl
@[simp] theorem zP8 {t rho n P}:zB3 t rho n P = t rho n fun es n1=>∃ j:Int,es = [.int j] /\ -(2 ^ 62) <= j /\ j < 2 ^ 62 /\ P (Wm 0 j.toNat) n1:=rfl
@[simp] theorem zG6 {t rho n P}:zB5 t rho n P = t rho n fun es n1=>∃ fs,es = [.lst fs] /\ P (zC2 fs) n1:=rfl
@[simp] theorem zY2 {lo hi ta rho n P}:xi6 lo hi ta rho n P = ta rho n fun d n1=>∃ fs,(d = .lst fs \/ d = .fz fs) /\ P (.lst (Ym fs lo hi)) n1:=rfl
@[simp] theorem zQ0 {rho P}:zB8 [] rho P ↔ P rho:=⟨fun h=>h.2,fun h=>⟨rfl,h⟩⟩
@[simp] theorem zG8 {g gs d r rho P}:zg4 g gs (d :: r) rho P ↔ g d rho fun rho'=>gs r rho' P:=⟨fun ⟨_,_,e,h⟩=>by cases e; exact h,fun h=>⟨_,_,rfl,h⟩⟩
@[simp] theorem zP9 {k gs es rho P}:zB7 k gs (.tup es) rho P ↔ (es.length = k /\ gs es rho P):=⟨fun ⟨_,e,h⟩=>by cases e; exact h,fun h=>⟨_,rfl,h⟩⟩
@[simp] theorem xe8 {C g i j k}:rdI C g (.int i) (.int j) k = (C i j /\ k (g i j)):=rfl
@[simp] theorem zX2 {g i j k}:QH g (.int i) (.int j) k = k (g i j):=rfl
@[simp] theorem xe9 {f c d k}:rdB f (.bl c) (.bl d) k = k (.bl (f c d)):=rfl
@[simp] theorem q_rdIxL {es i k}:ql (.lst es) (.int i) k ↔ ∃ d,atI es i = some d /\ k d:=⟨fun ⟨_,_,d,e,e',h⟩=>by cases e' ; rcases e with e | e | e <;> cases e; exact ⟨d,h⟩,fun ⟨d,h⟩=>⟨_,_,d,.inl rfl,rfl,h⟩⟩
@[simp] theorem UW {es i k}:ql (.tup es) (.int i) k ↔ ∃ d,atI es i = some d /\ k d:=⟨fun ⟨_,_,d,e,e',h⟩=>by cases e' ; rcases e with e | e | e <;> cases e; exact ⟨d,h⟩,fun ⟨d,h⟩=>⟨_,_,d,.inr (.inl rfl),rfl,h⟩⟩
@[simp] theorem zM7 {es i k}:ql (.fz es) (.int i) k ↔ ∃ d,atI es i = some d /\ k d:=⟨fun ⟨_,_,d,e,e',h⟩=>by cases e' ; rcases e with e | e | e <;> cases e; exact ⟨d,h⟩,fun ⟨d,h⟩=>⟨_,_,d,.inr (.inr rfl),rfl,h⟩⟩
@[simp] theorem zN5 {es fs k}:zt8 (.lst es) (.lst fs) k ↔ (es.length + fs.length <= sizeLine /\ k (.lst (es ++ fs))):=⟨fun ⟨_,_,e,e',h⟩=>by cases e; cases e'; exact h,fun h=>⟨_,_,rfl,rfl,h⟩⟩
@[simp] theorem q_rdRepT {es i k}:UV (.tup es) (.int i) k ↔ (es ≠ [] /\ 1 <= i /\ es.length * i.toNat <= sizeLine /\ k (.tup (List.replicate i.toNat es).flatten)):=⟨fun ⟨_,_,e,e',h⟩=>by cases e; cases e'; exact h,fun h=>⟨_,_,rfl,rfl,h⟩⟩
def VQ (es:List D) (p:D -> D -> Prop):Prop:=∃ d d',es = [d,d'] /\ p d d'
@[simp] theorem zN6 {a b p}:VQ [a,b] p ↔ p a b:=⟨fun ⟨_,_,e,h⟩=>by cases e; exact h,fun h=>⟨_,_,rfl,h⟩⟩
@[simp] theorem zW8 {i j t F rho n}:zJ2 i j t F rho n = (i < rho.length /\ j < rho.length /\ t rho n fun es n1=>VQ es fun d d'=>F.nx ((rho.set i (some d)).set j (some d')) n1):=rfl
@[simp] theorem zN0 {i j:Int} {k}:zf3 (.int i) (.int j) k ↔ k (.bl (decide (i = j))):=by
 have e:decide (ofS (.int i) = ofS (.int j)) = decide (i = j):=by simp [ofS]
 unfold zf3
 rw [e]
 exact ⟨fun h=>h.2.2.2,fun h=>⟨rfl,rfl,rfl,h⟩⟩
@[simp] theorem zN1 {i j:Bool} {k}:zf3 (.bl i) (.bl j) k ↔ k (.bl (decide (i = j))):=by
 have e:decide (ofS (.bl i) = ofS (.bl j)) = decide (i = j):=by simp [ofS]
 unfold zf3
 rw [e]
 exact ⟨fun h=>h.2.2.2,fun h=>⟨rfl,rfl,rfl,h⟩⟩
@[simp] theorem zM5 {i j:Int} {k}:zq0 (.int i) (.int j) k ↔ k (.bl (!decide (i = j))):=by
 have e:decide (ofS (.int i) = ofS (.int j)) = decide (i = j):=by simp [ofS]
 unfold zq0
 rw [e]
 exact ⟨fun h=>h.2.2.2,fun h=>⟨rfl,rfl,rfl,h⟩⟩
@[simp] theorem zM6 {i j:Bool} {k}:zq0 (.bl i) (.bl j) k ↔ k (.bl (!decide (i = j))):=by
 have e:decide (ofS (.bl i) = ofS (.bl j)) = decide (i = j):=by simp [ofS]
 unfold zq0
 rw [e]
 exact ⟨fun h=>h.2.2.2,fun h=>⟨rfl,rfl,rfl,h⟩⟩
@[simp] theorem zO9 {fs k}:zc2 [.lst fs] k ↔ k (.int fs.length):=⟨fun ⟨_,e,h⟩=>by rcases e with e | e | e <;> cases e; exact h,fun h=>⟨_,.inl rfl,h⟩⟩
@[simp] theorem q_kLenT {fs k}:zc2 [.tup fs] k ↔ k (.int fs.length):=⟨fun ⟨_,e,h⟩=>by rcases e with e | e | e <;> cases e; exact h,fun h=>⟨_,.inr (.inl rfl),h⟩⟩
@[simp] theorem zP0 {fs k}:zc2 [.fz fs] k ↔ k (.int fs.length):=⟨fun ⟨_,e,h⟩=>by rcases e with e | e | e <;> cases e; exact h,fun h=>⟨_,.inr (.inr rfl),h⟩⟩
@[simp] theorem zX4 {i k}:xb0 [.int i] k ↔ k (.int (if i < 0 then -i else i)):=⟨fun ⟨_,e,h⟩=>by cases e; exact h,fun h=>⟨_,rfl,h⟩⟩
@[simp] theorem zP3 {i k}:zA9 [.bl i] k ↔ k (.int (if i then 1 else 0)):=⟨fun ⟨_,e,h⟩=>by cases e; exact h,fun h=>⟨_,rfl,h⟩⟩
@[simp] theorem zu6 {fs k}:Jb [.lst fs] k ↔ k (.tup fs):=⟨fun ⟨_,e,h⟩=>by rcases e with e | e <;> cases e; exact h,fun h=>⟨_,.inl rfl,h⟩⟩
@[simp] theorem zu5 {fs k}:Jb [.tup fs] k ↔ k (.tup fs):=⟨fun ⟨_,e,h⟩=>by rcases e with e | e <;> cases e; exact h,fun h=>⟨_,.inr rfl,h⟩⟩
@[simp] theorem zG2 {fs k}:zn8 [.lst fs] k ↔ k (.lst fs):=⟨fun ⟨_,e,h⟩=>by rcases e with e | e <;> cases e; exact h,fun h=>⟨_,.inl rfl,h⟩⟩
@[simp] theorem zG0 {fs k}:zn8 [.tup fs] k ↔ k (.lst fs):=⟨fun ⟨_,e,h⟩=>by rcases e with e | e <;> cases e; exact h,fun h=>⟨_,.inr rfl,h⟩⟩
@[simp] theorem zQ3 {i tb rho n P}:zC5 i tb rho n P = (rho[i]? = some (some .st) /\ tb rho n fun d n1=>∃ j:Int,d = .int j /\ 0 <= j /\ j < n1 /\ ∀ z:Int,0 <= z -> (j = 1 -> z < 2147483647) -> P (.int z) n1):=rfl
@[simp] theorem zD8 {i te tb F rho n}:ze9 i te tb F rho n = (rho[i]? = some (some .st) /\ te rho n fun d n1=>tb rho n1 fun d2 n2=>∃ j z:Int,d = .int z /\ d2 = .int j /\ 0 <= j /\ j < n2 /\ 0 <= z /\ (j = 1 -> z < 2147483647) /\ F.nx rho n2):=rfl
@[simp] theorem xf7:zu .non = true:=rfl
@[simp] theorem xf6 {b}:zu (.bl b) = true:=rfl
@[simp] theorem xf5 {b}:zu (.int b) = true:=rfl
@[simp] theorem xf4 {b}:zu (.str b) = true:=rfl
@[simp] theorem xf3 {b}:zu (.tup b) = true:=rfl
@[simp] theorem xf2 {b}:zu (.lst b) = true:=rfl
@[simp] theorem xf1:zu .st = true:=rfl
@[simp] theorem xf0 {b}:zu (.fz b) = true:=rfl
@[simp] theorem xg4:wO .non = true:=rfl
@[simp] theorem xg3 {b}:wO (.bl b) = false:=rfl
@[simp] theorem xg2 {b}:wO (.int b) = false:=rfl
@[simp] theorem xg1 {b}:wO (.str b) = false:=rfl
@[simp] theorem xg0 {b}:wO (.tup b) = false:=rfl
@[simp] theorem xf9 {b}:wO (.lst b) = false:=rfl
@[simp] theorem xe6 {b}:qN (.lst b) = some (true,b):=rfl
@[simp] theorem xe5 {b}:qN (.tup b) = some (false,b):=rfl
@[simp] theorem zL3:(0 <= sizeLine) = True:=by simp
@[simp] theorem zL2:(1 <= sizeLine) = True:=by simp [sizeLine]
@[simp] theorem zL1:(2 <= sizeLine) = True:=by simp [sizeLine]
@[simp] theorem zL0:(3 <= sizeLine) = True:=by simp [sizeLine]
@[simp] theorem zK9:(4 <= sizeLine) = True:=by simp [sizeLine]
@[simp] theorem zK8:(5 <= sizeLine) = True:=by simp [sizeLine]
@[simp] theorem zK7:(6 <= sizeLine) = True:=by simp [sizeLine]
@[simp] theorem zK6:(7 <= sizeLine) = True:=by simp [sizeLine]
theorem zP {k:Nat} (h:k <= 1000:=by decide):k <= sizeLine:=Nat.le_trans h (by decide)
theorem lt_size {k:Nat} (h:k <= 1000:=by decide):k < sizeLine:=Nat.lt_of_le_of_lt h (by decide)
def Vt (own:Nat) (g:TGD) (tt:TBD) (te:TD) (rho:Rho) (P:D -> Nat -> Prop) (items:List D) (n1:Nat):Prop:=items.length <= sizeLine /\ ∃ J:Nat -> List D -> Nat -> Prop,J 0 [] n1 /\
 (∀ i d acc n,items[i]? = some d -> J i acc n -> g d (List.replicate own none ++ rho) fun rho'=>rho'.drop own = rho /\ tt rho' n fun c n2=>if c = true then te rho' n2 fun e n3=>J (i + 1) (acc ++ [e]) n3 else J (i + 1) acc n2) /\
 ∀ acc n,J items.length acc n -> P (.lst acc) n
@[simp] theorem zQ5 {it own g tt te rho n P}:Uf it own g tt te rho n P = it rho n (Vt own g tt te rho P):=rfl
def zz4 (g:TGD) (tb:TSD) (F:EndsD) (rho:Rho) (items:List D) (n1:Nat):Prop:=∃ J:Nat -> Rho -> Nat -> Prop,J 0 rho n1 /\
 (∀ i d rho n,items[i]? = some d -> J i rho n -> g d rho fun rho'=>tb { F with nx:=J (i + 1),ct:=J (i + 1),bk:=F.nx } rho' n) /\ ∀ rho n,J items.length rho n -> F.nx rho n
@[simp] theorem zX1 {it g tb F rho n}:zD6 it g tb F rho n = it rho n (zz4 g tb F rho):=rfl
theorem zd6 {it:TID} {own:Nat} {g:TGD} {te:TD} {rho:Rho} {n:Nat} {P:D -> Nat -> Prop} {α:Type} (enc:α -> D) (f:α -> D) (xs:List α)
  (hi:∀ R,R (xs.map enc) n -> it rho n R) (hz:xs.length <= sizeLine) (he:∀ x ∈ xs,∀ Q,Q (f x) n -> g (enc x) (List.replicate own none ++ rho) fun rho'=>rho'.drop own = rho /\ te rho' n Q) (hP:P (.lst (xs.map f)) n):Uf it own g zD0 te rho n P:=by
 refine hi _ ⟨by simpa using hz,fun i acc n'=>n' = n /\ acc = (xs.take i).map f,⟨rfl,rfl⟩,?_,?_⟩
 ·rintro i d acc n' e ⟨rfl, rfl⟩
  rw [List.getElem?_map] at e
  cases q:xs[i]? with
  | none=>rw [q] at e; cases e
  | some x =>
   rw [q] at e
   cases e
   have hm:x ∈ xs:=List.mem_of_getElem? q
   refine he x hm (fun e n3=>n3 = n' /\ (xs.take i).map f ++ [e] = (xs.take (i + 1)).map f) ⟨rfl,?_⟩
   rw [List.take_add_one,q]
   simp
 ·rintro acc n' ⟨rfl, rfl⟩
  rw [List.length_map,List.take_length]
  exact hP
end L2
namespace L2
open PySem PySem.Spec PyProof.Rows
theorem JY {α:Type} {xs:List α} {i:Int} (h0:0 <= i) (h1:i < xs.length):∃ d,atI xs i = some d /\ d ∈ xs:=by
 obtain ⟨k,rfl⟩:=Int.eq_ofNat_of_zero_le h0
 have hk:k < xs.length:=by lia
 exact ⟨xs[k],yT (by simp [hk]),List.getElem_mem hk⟩
@[simp] theorem xh4 {α:Type} {a:α} {l:List α}:atI (a :: l) 0 = some a:=yT (j:=0) rfl
@[simp] theorem xh3 {α:Type} {a b:α} {l:List α}:atI (a :: b :: l) 1 = some b:=yT (j:=1) rfl
@[simp] theorem xh2 {α:Type} {a b c:α} {l:List α}:atI (a :: b :: c :: l) 2 = some c:=yT (j:=2) rfl
@[simp] theorem zN7 {es p}:vV (some (some (.own es))) p ↔ p es:=⟨fun ⟨_,e,h⟩=>by cases e; exact h,fun h=>⟨_,rfl,h⟩⟩
@[simp] theorem zH1 {i tb rho n P}:zg9 i tb rho n P = vV rho[i]? fun es=>tb rho n fun d n1=>∃ j c,d = .int j /\ atI es j = some c /\ P c n1:=rfl
@[simp] theorem zu1 {i te tb F rho n}:zi9 i te tb F rho n = vV rho[i]? fun es=>te rho n fun d n1=>tb rho n1 fun d2 n2=>∃ j m,d2 = .int j /\ ixN es.length j = some m /\ F.nx (rho.set i (some (.own (es.set m d)))) n2:=rfl
@[simp] theorem zX7:ixN 3 0 = some 0:=rfl
@[simp] theorem zX6:ixN 3 1 = some 1:=rfl
@[simp] theorem zX5:ixN 3 2 = some 2:=rfl
end L2
set_option maxRecDepth 100000
namespace L2
open PySem PySem.Spec PyProof.Rows
def ze1 (H:Hp):Prop:=∀ b,H b = none \/ (∃ o xs,H b = some (.frz o (.lst xs))) \/ ∃ q,H b = some (.cot q)
def Yu (K:PySem.W.Frag):Sp:=fun vs H Q _=>∃ (a:Addr) (ns:List Int),vs = [.ref a] /\ ze1 H /\ SqL K H a (ns.map V.int) /\ ns.length <= 63 /\ (∀ P q,yn K P q -> H P = some (.cot q)) /\ ∀ H',(∀ P q,H P = some (.cot q) -> H' P = some (.cot q)) -> Q (.bl true) H'
def zK (ns:List Int):D:=.fz (ns.map D.int)
def wn (ns:List Int) (N:Nat):Rho:=some (zK ns) :: List.replicate (N - 1) none
def jW (ns:List Int) (i N:Nat):Rho:=(wn ns N).set i (some .st)
theorem km {K:PySem.W.Frag} {G:Option Addr} {Z:Addr -> Prop} {H:Hp}:∀ {ns:List Int},Reps K G Z H (ns.map D.int) (ns.map V.int)
 | []=>.nil
 | n :: ns=>.cons (Rep.ofS (d:=.int n) rfl) km
theorem yN {K:PySem.W.Frag} {G:Option Addr} {Z:Addr -> Prop} {H:Hp}:∀ {ns:List Int} {xs:List V},Reps K G Z H (ns.map D.int) xs -> xs = ns.map V.int
 | [],xs,h=>by unfold Reps at h; exact h
 | n :: ns,xs,h=>by
  obtain ⟨v,r,rfl,h1,h2⟩:=Reps.split h
  rw [h1.int_inv,yN h2]; rfl
section
variable {P:Program} {w:World} {K:PySem.W.Frag} {mg:Str -> Option Value} {base:Heap}
theorem Fun.okLaw {x qual:Str} {st:Stmt} {f:Addr} {fd:FuncData} {N:List Str} {p:Str} {k:Nat} {t:TSD} (F:Fun K x qual st f fd) (S:FnScope N [p] (zg st)) (n0:Nat)
  (body : ∀ (cdv : Value) (A0 : Around) (outer : List Env) (s : Shared) (H : Hp) (E : XK), Room k (A0.deeper (envOfC qual (zg st) s.heap.objs.size f cdv)) ->
   Um ⟨K,none,fun _=>False,H⟩ (zd2 CX0 P w K mg base N qual (zg st) f cdv A0 outer s H E).nox (zo st) t)
  (h1:∀ (ns:List Int),ns.length <= 63 -> t { nx:=fun _ _=>False,rt:=fun d _=>d = .bl true } (startD N [zK ns]) n0):FnOk P w K mg base CX0 (k + 1) f fd [p] (Yu K):=by
 with_unfolding_all
  exact (by
   refine F.ok S (fun vs H Q E h=>?_) (fun cdv A0 outer s H vs Q E hr h=>?_)
   ·obtain ⟨a, ns, rfl, _⟩ := h
    rfl
   ·obtain ⟨a, ns, rfl, hO, hS, hl, hT, k⟩ := h
    refine ⟨_,body cdv A0 outer s H E hr,?_⟩
    have rs:Reps K none (fun _=>False) H [zK ns] [.ref a]:=by
     refine .cons ?_ .nil
     unfold zK Rep
     refine ⟨a,ns.map V.int,rfl,?_,km⟩
     rcases hS with (q | ⟨o,q⟩) | q
     ·rcases hO a with z | ⟨o, xs, z⟩ | ⟨o, z⟩
      ·rw [z] at q; cases q
      ·rw [z] at q; cases q
      ·rw [z] at q; cases q
     ·exact .inl ⟨fun z=>z,o,q⟩
     ·exact .inr (.inr q)
    refine ⟨startD N [zK ns],n0,_,[],[],⟨[],kB rs (fun b e=>by cases e) (fun b e=>by cases e) ⟨fun b e=>e.elim,fun P q t=>⟨hT P q t,by simp⟩⟩⟩,h1 ns hl,?_⟩
    refine ⟨fun _ _ _ _ _ q=>q.elim,fun d n v rho2 sg2 H2 ⟨os2,I2⟩ q=>?_,fun _ _ _ _ _ q=>q.elim,fun _ _ _ _ _ q=>q.elim⟩
    subst q
    rw [I2.pop.2.bl_inv]
    exact k H2 fun P q e=>I2.fr P _ (by simp) e)
end
def zV2 (i:Nat) (t:TF) (t1:TAD) (t2:TSD):TSD:=fun F rho n=>∃ ns:List Int,i < rho.length /\ i ≠ 0 /\ rho[0]? = some (some (zK ns)) /\ t1 rho n fun es n1=>∃ j:Int,es = [zK ns,.int j] /\ n1 = n /\ t es n fun d n2=>∃ zs:List Int,d = .lst (zs.map D.int) /\ zs.length = n /\ (∀ x ∈ zs,0 <= x) /\ (∀ x,zs[1]? = some x -> x < 2147483647) /\
 t2 { nx:=fun rho' n'=>n' = n /\ rho'.length = rho.length /\ rho'[0]? = some (some (zK ns)) /\ F.nx (wn ns rho.length) n,rt:=fun d n'=>n' = n /\ yv d = true /\ F.rt d n,bk:=fun rho' n'=>n' = n /\ rho'.length = rho.length /\ rho'[0]? = some (some (zK ns)) /\ F.bk (wn ns rho.length) n,ct:=fun rho' n'=>n' = n /\ rho'.length = rho.length /\ rho'[0]? = some (some (zK ns)) /\ F.ct (wn ns rho.length) n } (jW ns i rho.length) n
@[simp] theorem zq3 {ns:List Int}:zu (zK ns) = true:=rfl
@[simp] theorem zk0 {ns:List Int} {k:D -> Prop}:zc2 [zK ns] k ↔ k (.int ns.length):=by unfold zK; simp
theorem KF {i:Nat} {t:TF} {t1:TAD} {t2:TSD} {F:EndsD} {rho:Rho} {n:Nat} (ns:List Int) (hi:i < rho.length) (h0:i ≠ 0) (hr:rho[0]? = some (some (zK ns))) (j:Int) (ht:t1 rho n fun es n1=>es = [zK ns,.int j] /\ n1 = n)
  (ht1:∀ (P P':List D -> Nat -> Prop),(∀ es n1,P es n1 -> P' es n1) -> t1 rho n P -> t1 rho n P')
  (h : t [zK ns, .int j] n fun d n2 => ∃ zs : List Int, d = .lst (zs.map D.int) /\ zs.length = n /\ (∀ x ∈ zs, 0 <= x) /\ (∀ x, zs[1]? = some x -> x < 2147483647) /\
   t2 { nx:=fun rho' n'=>n' = n /\ rho'.length = rho.length /\ rho'[0]? = some (some (zK ns)) /\ F.nx (wn ns rho.length) n,rt:=fun d n'=>n' = n /\ yv d = true /\ F.rt d n,bk:=fun rho' n'=>n' = n /\ rho'.length = rho.length /\ rho'[0]? = some (some (zK ns)) /\ F.bk (wn ns rho.length) n,ct:=fun rho' n'=>n' = n /\ rho'.length = rho.length /\ rho'[0]? = some (some (zK ns)) /\ F.ct (wn ns rho.length) n } (jW ns i rho.length) n):zV2 i t t1 t2 F rho n :=
 ⟨ns,hi,h0,hr,ht1 _ _ (fun es n1 ⟨e1,e2⟩=>⟨j,e1,e2,by rw [e1]; exact h⟩) ht⟩
section
variable {A:AC} {X:Cx} {e:Expr} {es:List Expr} {t1:TAD} {t2:TSD} {pos p:Pos}
theorem kL {K:PySem.W.Frag} {G G':Option Addr} {Z Z':Addr -> Prop} {H H':Hp} {ns:List Int} {v:V} (h:Rep K G Z H (zK ns) v) (hz:∀ a o u,¬ Z a -> H a = some (.frz o u) -> ¬ Z' a /\ H' a = some (.frz o u)):Rep K G' Z' H' (zK ns) v:=by
 unfold zK Rep at h ⊢
 obtain ⟨a,xs,rfl,sq,rs⟩:=h
 refine ⟨a,xs,rfl,?_,by rw [yN rs]; exact km⟩
 rcases sq with ⟨nz,o,e⟩ | sq
 ·obtain ⟨z1, z2⟩ := hz a o _ nz e
  exact .inl ⟨z1,o,z2⟩
 ·exact .inr sq
theorem QK {x g:Str} {i:Nat} {t:TF} {kk:Nat} {pos' spos:Pos} {rest:List Stmt} (hG:A.G = none) (hN:X.N.Nodup) (hi:X.N[i]? = some x) (hx:Loc X.env.scope x) (F:Fn X.prog X.w X.K X.mg X.base g kk 2 t) (hr:Room kk X.A) (hK:X.K = A.K)
  (ha:PAD A X (e :: es) t1) (h2:∀ (c:Addr) (Z:Addr -> Prop) (H0:Hp),Um ⟨A.K,some c,Z,H0⟩ X rest t2) (hg:Gl X g:=by rfl) (hdb:(g == ("__debug__" : Str)) = false:=by decide) (he:starEach (e :: es) X.env = (false,eval e X.env) :: starEach es X.env:=by rfl) (hpl:(backTo pos (starEach es X.env)).any (·.1) = false:=by rfl)
  (hs:swapsWith (.Call (.Name g p) (e :: es) [] pos) (some (.Name x pos')) spos.line X.env = pure false:=by rfl) (hf:X.fn x = true \/ X.env.scope.names.lookup x = some .local:=by first | exact .inl rfl | exact .inr rfl | assumption) :
  Um A X (.Assign [.Name x pos'] (.Call (.Name g p) (e :: es) [] pos) spos :: rest) (zV2 i t t1 t2):=by
 with_unfolding_all
  exact (by
   obtain ⟨f,fd,ps,f1,f2,f3,f4⟩:=F.ex
   have c1:=Vc (pos:=spos) hN hi hx (Ki (p:=p) f1 hr hg f2 f3 f4 .nil zx0 ha hdb he hpl) hs hf
   have c2:PSs X rest (fun E' sg' H'=>∃ c Z H0,sOf ⟨A.K,some c,Z,H0⟩ t2 E' sg' H'):=fun pins s' sg' H' D I q=>by
    obtain ⟨c,Z,H0,q⟩:=q
    exact h2 c Z H0 pins s' sg' H' D I q
   refine (Va c1 c2).imp fun E sg H h=>?_
   obtain ⟨rho,n,F,ds,vs,I,⟨ns,hi',h0,hr0,ht⟩,ok⟩:=h
   refine ⟨rho,n,_,ds,vs,I,ht,fun ws H' n' es' ⟨os',J⟩ hl k=>?_⟩
   obtain ⟨j,rfl,rfl,k⟩:=k
   obtain ⟨J1,rs⟩:=J.split hl
   obtain ⟨v1,v2,rfl,r1,r2⟩:=VH rs
   have r1':Rep A.K none (fun a=>H' a ≠ none /\ ¬ ∃ o u,H' a = some (.frz o u)) H' (zK ns) v1:=kL r1 fun a o u _ e=>⟨fun z=>z.2 ⟨o,u,e⟩,e⟩
   have r2':Rep A.K none (fun a=>H' a ≠ none /\ ¬ ∃ o u,H' a = some (.frz o u)) H' (.int j) v2:=by rw [r2.int_inv]; exact Rep.ofS (d:=.int j) rfl
   rw [List.append_nil,hK]
   refine ⟨none,fun a=>H' a ≠ none /\ ¬ ∃ o u,H' a = some (.frz o u),n',_,_,rfl,.cons r1' (.cons r2' .nil),fun b e=>(by cases e),fun b e=>(by cases e),⟨fun b z=>z.1,fun P q t=>⟨(J1.zO.2 P q t).1,by simp⟩⟩,k,fun v H2 n2 d fr st r q=>?_⟩
   obtain ⟨zs,rfl,q1,q2,q3,q⟩:=q
   obtain ⟨c,xs,rfl,sq,rr⟩:=r.lst_inv
   rw [yN rr] at sq
   have hc:H' c = none:=by
    cases z:H' c with
    | none=>rfl
    | some o =>
     have z2:=fr c o (by simp) z
     rw [sq.2] at z2
     cases z2
     exact absurd ⟨by rw [z]; simp,fun ⟨o,u,z3⟩=>by rw [z] at z3; cases z3⟩ sq.1
   have ne:∀ {a:Addr} {o:HO},H' a = some o -> a ≠ c:=fun {a o} e h=>by rw [h,hc] at e; cases e
   have back:∀ {os:List (Nat × Addr)} {rho' rho2:Rho} {sg':St} {H3:Hp} {ds3:List D} {vs3:List V},AmO ⟨A.K,some c,fun b=>Zof A os' b \/ b = c,H2⟩ os n' rho' sg' H3 ds3 vs3 -> rho2.length = sg'.length -> (∀ j d,rho2[j]? = some (some d) -> ∃ v,sg'[j]? = some (some v) /\ Rep A.K A.G (Zof A []) H3 d v) -> AmO A [] n' rho2 sg' H3 ds vs:=fun {os rho' rho2 sg' H3 ds3 vs3} I3 hl2 hs2=>by
    have keep:∀ a o,H' a = some o -> H3 a = some o:=fun a o e=>I3.fr a o (fun z=>ne e (Option.some.inj z).symm) (fr a o (by simp) e)
    refine ⟨hl2,fun j d e=>?_,?_,.nil,fun p hp=>(by simp at hp),fun b e=>(by rw [hG] at e; cases e),J1.gz,fun a o z e=>keep a o (J1.fr a o z e),J1.z0⟩
    ·obtain ⟨v, e1, e2⟩ := hs2 j d e
     exact ⟨v,e1,SlotR.of e2⟩
    ·refine Reps.mono (fun a _ z => ?_) (fun a o _ e => keep a o e) _ _ J1.pend
     rcases z with z | ⟨p,hp,_⟩
     ·exact .inl z
     ·simp at hp
   have scr:∀ {os:List (Nat × Addr)} {rho':Rho} {sg':St} {H3:Hp} {ds3:List D} {vs3:List V},AmO ⟨A.K,some c,fun b=>Zof A os' b \/ b = c,H2⟩ os n' rho' sg' H3 ds3 vs3 -> rho'[0]? = some (some (zK ns)) -> rho.length = sg'.length -> AmO A [] n' (wn ns rho.length) sg' H3 ds vs:=fun {os rho' sg' H3 ds3 vs3} I3 e0 hl3=>by
    refine back I3 (by rw [<- hl3]; simp [wn]; lia) fun j d e=>?_
    unfold wn at e
    cases j with
    | zero =>
     cases e
     obtain ⟨v,e1,e2⟩:=I3.slot 0 _ e0
     have e3:=SlotR.rep (d:=zK ns) rfl e2
     refine ⟨v,e1,kL e3 fun a o u nz e=>⟨fun z=>nz ?_,e⟩⟩
     rcases z with z | ⟨p,hp,_⟩
     ·exact .inl (.inl (.inl z))
     ·simp at hp
    | succ j =>
     rw [List.getElem?_cons_succ,List.getElem?_replicate] at e
     split at e <;> cases e
   have hl0:rho.length = sg.length:=J1.len
   refine ⟨c,fun b=>Zof A os' b \/ b = c,H2,jW ns i rho.length,n',_,[],[],⟨[],?_⟩,q,?_⟩
   ·refine ⟨by simp [jW, wn, hl0]; lia, fun j d e => ?_, .nil, .nil, fun p hp => by simp at hp, fun b e => ?_, fun b e => ?_, fun b o _ e => e, ?_⟩
    ·unfold jW at e
     by_cases hj:j = i
     ·subst hj
      rw [List.getElem?_set_self (by simp [wn]; lia)] at e
      cases e
      exact ⟨.ref c,List.getElem?_set_self (by lia),SlotR.of (by unfold Rep; exact ⟨c,rfl,rfl⟩)⟩
     ·rw [List.getElem?_set_ne (Ne.symm hj)] at e
      unfold wn at e
      cases j with
      | zero =>
       cases e
       obtain ⟨v,e1,e2⟩:=J1.slot 0 _ hr0
       have e3:=SlotR.rep (d:=zK ns) rfl e2
       refine ⟨v,by rw [List.getElem?_set_ne h0]; exact e1,SlotR.of (kL e3 fun a o u nz e=>⟨fun z=>?_,fr a _ (by simp) e⟩)⟩
       rcases z with (z | z) | ⟨p,hp,_⟩
       ·exact nz z
       ·exact ne e z
       ·simp at hp
      | succ j =>
       rw [List.getElem?_cons_succ,List.getElem?_replicate] at e
       split at e <;> cases e
    ·cases e
     exact ⟨zs,0,0,sq.2,q1,q2,q3⟩
    ·exact .inr (Option.some.inj e).symm
    ·refine ⟨fun b e => ?_, fun P q t => ⟨fr P _ (by simp) (J1.zO.2 P q t).1, fun z => ne (J1.zO.2 P q t).1 (Option.some.inj z).symm⟩⟩
     rcases e with e | e
     ·have := J1.zH b e
      cases z:H' b with
      | none=>exact absurd z this
      | some o =>
       show H2 b ≠ none
       rw [fr b o (by simp) z]; simp
     ·show H2 b ≠ none
      rw [e,sq.2]; simp
   ·refine ⟨fun rho3 n3 sg3 H3 ⟨os3, I3⟩ q => ?_, fun d n3 v rho3 sg3 H3 ⟨os3, I3⟩ q => ?_, fun rho3 n3 sg3 H3 ⟨os3, I3⟩ q => ?_, fun rho3 n3 sg3 H3 ⟨os3, I3⟩ q => ?_⟩
    ·obtain ⟨rfl, l3, e3, q⟩ := q
     exact ok.nx _ _ _ _ ⟨[],scr I3 e3 (by rw [<- l3]; exact I3.len)⟩ q
    ·obtain ⟨rfl, hd, q⟩ := q
     have I4:AmO A [] n3 (List.replicate sg3.length none) sg3 H3 ds vs:=back I3 (by simp) fun j d e=>by
      rw [List.getElem?_replicate] at e
      split at e <;> cases e
     refine ok.rt _ _ _ _ _ _ ⟨[],I4.push ?_⟩ q
     rw [I3.pop.2.toS hd]
     exact Rep.ofS hd
    ·obtain ⟨rfl, l3, e3, q⟩ := q
     exact ok.bk _ _ _ _ ⟨[],scr I3 e3 (by rw [<- l3]; exact I3.len)⟩ q
    ·obtain ⟨rfl, l3, e3, q⟩ := q
     exact ok.ct _ _ _ _ ⟨[],scr I3 e3 (by rw [<- l3]; exact I3.len)⟩ q)
end
end L2
set_option maxRecDepth 100000
namespace L2
open PySem PySem.Spec PyProof.Rows PySem.SeqAt
mutual
def eqD:D -> D -> Bool
 | .non,.non=>true
 | .bl a,.bl b=>a == b
 | .bl a,.int i=>(if a then 1 else 0) == i
 | .int i,.bl a=>i == (if a then 1 else 0)
 | .int i,.int j=>i == j
 | .str x,.str y=>x == y
 | .tup xs,.tup ys=>vK xs ys
 | .lst xs,.lst ys=>vK xs ys
 | _,_=>false
def vK:List D -> List D -> Bool
 | [],[]=>true
 | x :: xs,y :: ys=>eqD x y && vK xs ys
 | _,_=>false
end
mutual
def okE:D -> Nat -> Bool
 | .non,_=>true
 | .bl _,_=>true
 | .int _,_=>true
 | .str _,_=>true
 | .tup ds,k=>match k with
  | 0=>false
  | k + 1=>Wt ds k
 | .lst ds,k=>match k with
  | 0=>false
  | k + 1=>Wt ds k
 | _,_=>false
def Wt:List D -> Nat -> Bool
 | [],_=>true
 | d :: ds,k=>okE d k && Wt ds k
end
theorem kq:∀ {ds:List D} {k i:Nat} {d:D},Wt ds k = true -> ds[i]? = some d -> okE d k = true
 | [],k,i,d,_,e=>by simp at e
 | c :: ds,k,0,d,h,e=>by
  simp at e; subst e
  unfold Wt at h
  rw [Bool.and_eq_true] at h
  exact h.1
 | c :: ds,k,i + 1,d,h,e=>by
  unfold Wt at h
  rw [Bool.and_eq_true] at h
  exact kq (i:=i) h.2 (by simpa using e)
def eAt (xs ys:List D) (j:Nat):Bool:=match xs[j]?,ys[j]? with
 | some x,some y=>eqD x y
 | _,_=>true
theorem jD (n:Nat) (e:Nat -> Bool):(List.range (n + 1)).all e = (e 0 && (List.range n).all fun j=>e (j + 1)):=by
 rw [List.range_succ_eq_map,List.all_cons,List.all_map]
 rfl
theorem qD:∀ (xs ys:List D),((List.range (min xs.length ys.length)).all (eAt xs ys) && xs.length == ys.length) = vK xs ys
 | [],[]=>by unfold vK; rfl
 | [],y :: ys=>by unfold vK; simp
 | x :: xs,[]=>by unfold vK; simp
 | x :: xs,y :: ys=>by
  have ih:=qD xs ys
  unfold vK
  rw [<- ih]
  have e1:min (x :: xs).length (y :: ys).length = min xs.length ys.length + 1:=by simp only [List.length_cons]; lia
  rw [e1,jD]
  have e2:((x :: xs).length == (y :: ys).length) = (xs.length == ys.length):=by simp
  rw [e2,Bool.and_assoc]
  rfl
theorem Xq {xs ys:List D} (h:xs.length = ys.length):(List.range xs.length).all (eAt xs ys) = vK xs ys:=by
 rw [<- qD,h]
 simp
theorem zc7 {xs ys:List D} (h:xs.length ≠ ys.length):vK xs ys = false:=by
 rw [<- qD]
 simp [h]
theorem Jo:∀ {xs ys:List D},xs.length = ys.length -> (∀ (j:Nat) (x y:D),xs[j]? = some x -> ys[j]? = some y -> eqD x y = true) -> vK xs ys = true
 | [],[],_,_=>by unfold vK; rfl
 | [],y :: ys,h,_=>by simp at h
 | x :: xs,[],h,_=>by simp at h
 | x :: xs,y :: ys,h,q=>by
  unfold vK
  rw [q 0 x y rfl rfl,Jo (by simpa using h) fun j a b ha hb=>q (j + 1) a b (by simpa using ha) (by simpa using hb)]
  rfl
theorem Reps.get2 {K:PySem.W.Frag} {G:Option Addr} {Z:Addr -> Prop} {H:Hp} {ds:List D} {vs:List V} {i:Nat} {d:D} {v:V} (h:Reps K G Z H ds vs) (e:ds[i]? = some d) (e':vs[i]? = some v):Rep K G Z H d v:=by
 obtain ⟨u,h1,h2⟩:=h.get e
 rw [h1] at e'; cases e'
 exact h2
section
variable {X:Cx} {pins:List (Addr × Obj)} {σ:St} {H:Hp} {s:Shared} {G:Option Addr} {Z:Addr -> Prop}
theorem WX (I:Inv X pins σ H s):∀ (k:Nat) (d1 d2:D) (v:V),okE d1 k = true -> okE d2 k = true -> Rep X.K G Z H d1 v -> Rep X.K G Z H d2 v -> eqD d1 d2 = true:=by
 intro k
 induction k with
 | zero =>
  intro d1 d2 v h1 h2 r1 r2
  cases d1 <;> cases d2 <;> first
   | (simp [okE] at h1; done) | (simp [okE] at h2; done)
   | (have e1:=r1.toS rfl; have e2:=r2.toS rfl; rw [e1] at e2; simp [ofS] at e2; done)
   | (have e1:=r1.toS rfl; have e2:=r2.toS rfl; rw [e1] at e2; simp [ofS] at e2; simp [eqD,e2])
 | succ k ih =>
  have seq:∀ {ds es:List D} {xs:List V},Wt ds k = true -> Wt es k = true -> Reps X.K G Z H ds xs -> Reps X.K G Z H es xs -> vK ds es = true:=fun {ds es xs} h1 h2 r1 r2=>by
   refine Jo (r1.length.symm.trans r2.length) fun j x y hx hy=>?_
   obtain ⟨u,hu,ru⟩:=r1.get hx
   exact ih x y u (kq h1 hx) (kq h2 hy) ru (r2.get2 hy hu)
  intro d1 d2 v h1 h2 r1 r2
  cases d1 <;> cases d2 <;> try (first
   | (simp [okE] at h1; done) | (simp [okE] at h2; done)
   | (have e1:=r1.toS rfl; have e2:=r2.toS rfl; rw [e1] at e2; simp [ofS] at e2; done)
   | (have e1:=r1.toS rfl; have e2:=r2.toS rfl; rw [e1] at e2; simp [ofS] at e2; simp [eqD,e2]; done)
   | (obtain ⟨a,xs,e,_⟩:=r1.tup_inv; have e2:=r2.toS rfl; rw [e] at e2; simp [ofS] at e2; done)
   | (obtain ⟨a,xs,e,_⟩:=r1.lst_inv; have e2:=r2.toS rfl; rw [e] at e2; simp [ofS] at e2; done)
   | (obtain ⟨a,xs,e,_⟩:=r2.tup_inv; have e2:=r1.toS rfl; rw [e] at e2; simp [ofS] at e2; done)
   | (obtain ⟨a,xs,e,_⟩:=r2.lst_inv; have e2:=r1.toS rfl; rw [e] at e2; simp [ofS] at e2; done))
  ·rename_i ds es
   obtain ⟨a,xs,e,sq,rs⟩:=r1.tup_inv
   obtain ⟨b,ys,e',sq',rs'⟩:=r2.tup_inv
   rw [e] at e'; cases e'
   have:=I.tuple_inj sq.sq sq'.sq
   subst this
   unfold eqD
   exact seq (by simpa [okE] using h1) (by simpa [okE] using h2) rs rs'
  ·rename_i ds es
   obtain ⟨a,xs,e,sq,rs⟩:=r1.tup_inv
   obtain ⟨b,ys,e',sq',rs'⟩:=r2.lst_inv
   rw [e] at e'; cases e'
   obtain ⟨its,rv,pl,hz⟩:=I.tuple sq.sq
   obtain ⟨its',rv',pl',hz'⟩:=I.list sq'.sq
   exact absurd rfl (ne_of_list_tuple pl'.isList (show s.heap.IsTuple a its.toArray from pl))
  ·rename_i ds es
   obtain ⟨a,xs,e,sq,rs⟩:=r1.lst_inv
   obtain ⟨b,ys,e',sq',rs'⟩:=r2.tup_inv
   rw [e] at e'; cases e'
   obtain ⟨its,rv,pl,hz⟩:=I.list sq.sq
   obtain ⟨its',rv',pl',hz'⟩:=I.tuple sq'.sq
   exact absurd rfl (ne_of_list_tuple pl.isList (show s.heap.IsTuple a its'.toArray from pl'))
  ·rename_i ds es
   obtain ⟨a,xs,e,sq,rs⟩:=r1.lst_inv
   obtain ⟨b,ys,e',sq',rs'⟩:=r2.lst_inv
   rw [e] at e'; cases e'
   have:=I.list_inj sq.sq sq'.sq
   subst this
   unfold eqD
   exact seq (by simpa [okE] using h1) (by simpa [okE] using h2) rs rs'
theorem rcC {A:Around} {s:Shared} {y x:Value} {b c:Bool} (h:RcAt A s y x b) (e:b = c):RcAt A s y x c:=e ▸ h
theorem rnC {A:Around} {s:Shared} {y x:Value} {b c:Bool} (h:RcNeAt A s y x b) (e:b = c):RcNeAt A s y x c:=e ▸ h
theorem eqC {A:Around} {s:Shared} {y x:Value} {b c:Bool} (h:EqAt A s y x b) (e:b = c):EqAt A s y x c:=e ▸ h
def E3 (A:Around) (s:Shared) (u1 u2:Value) (b:Bool):Prop:=EqAt A s u1 u2 b /\ RcAt A s u1 u2 b /\ RcNeAt A s u1 u2 (!b)
theorem E3.cast {A:Around} {s:Shared} {y x:Value} {b c:Bool} (h:E3 A s y x b) (e:b = c):E3 A s y x c:=e ▸ h
def ZX:D -> D -> Bool
 | .tup _,.tup _=>true
 | .lst _,.lst _=>true
 | _,_=>false
theorem zg5 (I:Inv X pins σ H s) {k:Nat} {d1 d2:D} {v1 v2:V} {u1 u2:Value} {A:Around} (h1:okE d1 k = true) (h2:okE d2 k = true) (r1:Rep X.K G Z H d1 v1) (r2:Rep X.K G Z H d2 v2) (q1:RelV v1 u1) (q2:RelV v2 u2)
  (hu:A.units < cLine) (hb:ZX d1 d2 = false):E3 A s u1 u2 (eqD d1 d2):=by
 cases d1 with
 | non =>
  cases d2 with
  | non =>
   have e1:u1 = .none:=by have:=r1.toS rfl; subst this; exact q1
   subst e1
   have e2:u2 = .none:=by have:=r2.toS rfl; subst this; exact q2
   subst e2
   exact E3.cast ⟨EqAt.same _,RcAt.none_none,RcNeAt.none_none⟩ (by unfold eqD; rfl)
  | bl x2 =>
   have e1:u1 = .none:=by have:=r1.toS rfl; subst this; exact q1
   subst e1
   have e2:u2 = .bool x2:=by have:=r2.toS rfl; subst this; exact q2
   subst e2
   exact E3.cast ⟨EqAt.none_bool _,RcAt.none_bool _,RcNeAt.none_bool _⟩ (by unfold eqD; rfl)
  | int x2 =>
   have e1:u1 = .none:=by have:=r1.toS rfl; subst this; exact q1
   subst e1
   obtain ⟨t2,e2⟩:∃ t,u2 = .int x2 t:=by have:=r2.toS rfl; subst this; exact q2
   subst e2
   exact E3.cast ⟨EqAt.none_int _ _,RcAt.none_int _ _,RcNeAt.none_int _ _⟩ (by unfold eqD; rfl)
  | str x2 =>
   have e1:u1 = .none:=by have:=r1.toS rfl; subst this; exact q1
   subst e1
   obtain ⟨t2,e2⟩:∃ t,u2 = .str x2 t:=by have:=r2.toS rfl; subst this; exact q2
   subst e2
   exact E3.cast ⟨EqAt.none_str _ _,RcAt.none_str _ _,RcNeAt.none_str _ _⟩ (by unfold eqD; rfl)
  | tup x2 =>
   have e1:u1 = .none:=by have:=r1.toS rfl; subst this; exact q1
   subst e1
   obtain ⟨a2,xs2,w2,sq2,rs2⟩:=r2.tup_inv
   subst w2
   have e2:u2 = .ref a2:=q2
   subst e2
   obtain ⟨its2,rv2,pl2,hz2⟩:=I.tuple sq2.sq
   have L2:s.heap.IsTuple a2 its2.toArray:=pl2
   exact E3.cast ⟨EqAt.none_tuple L2 hu,RcAt.none_tuple L2 hu,RcNeAt.none_tuple L2 hu⟩ (by unfold eqD; rfl)
  | lst x2 =>
   have e1:u1 = .none:=by have:=r1.toS rfl; subst this; exact q1
   subst e1
   obtain ⟨a2,xs2,w2,sq2,rs2⟩:=r2.lst_inv
   subst w2
   have e2:u2 = .ref a2:=q2
   subst e2
   obtain ⟨its2,rv2,pl2,hz2⟩:=I.list sq2.sq
   have L2:=pl2.isList
   exact E3.cast ⟨EqAt.none_list L2 hu,RcAt.none_list L2 hu,RcNeAt.none_list L2 hu⟩ (by unfold eqD; rfl)
  | _=>simp [okE] at h2
 | bl x1 =>
  cases d2 with
  | non =>
   have e1:u1 = .bool x1:=by have:=r1.toS rfl; subst this; exact q1
   subst e1
   have e2:u2 = .none:=by have:=r2.toS rfl; subst this; exact q2
   subst e2
   exact E3.cast ⟨EqAt.bool_none _,RcAt.bool_none _,RcNeAt.bool_none _⟩ (by unfold eqD; rfl)
  | bl x2 =>
   have e1:u1 = .bool x1:=by have:=r1.toS rfl; subst this; exact q1
   subst e1
   have e2:u2 = .bool x2:=by have:=r2.toS rfl; subst this; exact q2
   subst e2
   exact E3.cast ⟨EqAt.bool_bool _ _,RcAt.bool_bool _ _,RcNeAt.bool_bool _ _⟩ (by unfold eqD; rfl)
  | int x2 =>
   have e1:u1 = .bool x1:=by have:=r1.toS rfl; subst this; exact q1
   subst e1
   obtain ⟨t2,e2⟩:∃ t,u2 = .int x2 t:=by have:=r2.toS rfl; subst this; exact q2
   subst e2
   exact E3.cast ⟨EqAt.bool_int _ _ _,RcAt.bool_int _ _ _,RcNeAt.bool_int _ _ _⟩ (by unfold eqD; rfl)
  | str x2 =>
   have e1:u1 = .bool x1:=by have:=r1.toS rfl; subst this; exact q1
   subst e1
   obtain ⟨t2,e2⟩:∃ t,u2 = .str x2 t:=by have:=r2.toS rfl; subst this; exact q2
   subst e2
   exact E3.cast ⟨EqAt.bool_str _ _ _,RcAt.bool_str _ _ _,RcNeAt.bool_str _ _ _⟩ (by unfold eqD; rfl)
  | tup x2 =>
   have e1:u1 = .bool x1:=by have:=r1.toS rfl; subst this; exact q1
   subst e1
   obtain ⟨a2,xs2,w2,sq2,rs2⟩:=r2.tup_inv
   subst w2
   have e2:u2 = .ref a2:=q2
   subst e2
   obtain ⟨its2,rv2,pl2,hz2⟩:=I.tuple sq2.sq
   have L2:s.heap.IsTuple a2 its2.toArray:=pl2
   exact E3.cast ⟨EqAt.bool_tuple _ L2 hu,RcAt.bool_tuple _ L2 hu,RcNeAt.bool_tuple _ L2 hu⟩ (by unfold eqD; rfl)
  | lst x2 =>
   have e1:u1 = .bool x1:=by have:=r1.toS rfl; subst this; exact q1
   subst e1
   obtain ⟨a2,xs2,w2,sq2,rs2⟩:=r2.lst_inv
   subst w2
   have e2:u2 = .ref a2:=q2
   subst e2
   obtain ⟨its2,rv2,pl2,hz2⟩:=I.list sq2.sq
   have L2:=pl2.isList
   exact E3.cast ⟨EqAt.bool_list _ L2 hu,RcAt.bool_list _ L2 hu,RcNeAt.bool_list _ L2 hu⟩ (by unfold eqD; rfl)
  | _=>simp [okE] at h2
 | int x1 =>
  cases d2 with
  | non =>
   obtain ⟨t1,e1⟩:∃ t,u1 = .int x1 t:=by have:=r1.toS rfl; subst this; exact q1
   subst e1
   have e2:u2 = .none:=by have:=r2.toS rfl; subst this; exact q2
   subst e2
   exact E3.cast ⟨EqAt.int_none _ _,RcAt.int_none _ _,RcNeAt.int_none _ _⟩ (by unfold eqD; rfl)
  | bl x2 =>
   obtain ⟨t1,e1⟩:∃ t,u1 = .int x1 t:=by have:=r1.toS rfl; subst this; exact q1
   subst e1
   have e2:u2 = .bool x2:=by have:=r2.toS rfl; subst this; exact q2
   subst e2
   exact E3.cast ⟨EqAt.int_bool _ _ _,RcAt.int_bool _ _ _,RcNeAt.int_bool _ _ _⟩ (by unfold eqD; rfl)
  | int x2 =>
   obtain ⟨t1,e1⟩:∃ t,u1 = .int x1 t:=by have:=r1.toS rfl; subst this; exact q1
   subst e1
   obtain ⟨t2,e2⟩:∃ t,u2 = .int x2 t:=by have:=r2.toS rfl; subst this; exact q2
   subst e2
   exact E3.cast ⟨EqAt.int_int _ _ _ _,RcAt.int_int _ _ _ _,RcNeAt.int_int _ _ _ _⟩ (by unfold eqD; rfl)
  | str x2 =>
   obtain ⟨t1,e1⟩:∃ t,u1 = .int x1 t:=by have:=r1.toS rfl; subst this; exact q1
   subst e1
   obtain ⟨t2,e2⟩:∃ t,u2 = .str x2 t:=by have:=r2.toS rfl; subst this; exact q2
   subst e2
   exact E3.cast ⟨EqAt.int_str _ _ _ _,RcAt.int_str _ _ _ _,RcNeAt.int_str _ _ _ _⟩ (by unfold eqD; rfl)
  | tup x2 =>
   obtain ⟨t1,e1⟩:∃ t,u1 = .int x1 t:=by have:=r1.toS rfl; subst this; exact q1
   subst e1
   obtain ⟨a2,xs2,w2,sq2,rs2⟩:=r2.tup_inv
   subst w2
   have e2:u2 = .ref a2:=q2
   subst e2
   obtain ⟨its2,rv2,pl2,hz2⟩:=I.tuple sq2.sq
   have L2:s.heap.IsTuple a2 its2.toArray:=pl2
   exact E3.cast ⟨EqAt.int_tuple _ _ L2 hu,RcAt.int_tuple _ _ L2 hu,RcNeAt.int_tuple _ _ L2 hu⟩ (by unfold eqD; rfl)
  | lst x2 =>
   obtain ⟨t1,e1⟩:∃ t,u1 = .int x1 t:=by have:=r1.toS rfl; subst this; exact q1
   subst e1
   obtain ⟨a2,xs2,w2,sq2,rs2⟩:=r2.lst_inv
   subst w2
   have e2:u2 = .ref a2:=q2
   subst e2
   obtain ⟨its2,rv2,pl2,hz2⟩:=I.list sq2.sq
   have L2:=pl2.isList
   exact E3.cast ⟨EqAt.int_list _ _ L2 hu,RcAt.int_list _ _ L2 hu,RcNeAt.int_list _ _ L2 hu⟩ (by unfold eqD; rfl)
  | _=>simp [okE] at h2
 | str x1 =>
  cases d2 with
  | non =>
   obtain ⟨t1,e1⟩:∃ t,u1 = .str x1 t:=by have:=r1.toS rfl; subst this; exact q1
   subst e1
   have e2:u2 = .none:=by have:=r2.toS rfl; subst this; exact q2
   subst e2
   exact E3.cast ⟨EqAt.str_none _ _,RcAt.str_none _ _,RcNeAt.str_none _ _⟩ (by unfold eqD; rfl)
  | bl x2 =>
   obtain ⟨t1,e1⟩:∃ t,u1 = .str x1 t:=by have:=r1.toS rfl; subst this; exact q1
   subst e1
   have e2:u2 = .bool x2:=by have:=r2.toS rfl; subst this; exact q2
   subst e2
   exact E3.cast ⟨EqAt.str_bool _ _ _,RcAt.str_bool _ _ _,RcNeAt.str_bool _ _ _⟩ (by unfold eqD; rfl)
  | int x2 =>
   obtain ⟨t1,e1⟩:∃ t,u1 = .str x1 t:=by have:=r1.toS rfl; subst this; exact q1
   subst e1
   obtain ⟨t2,e2⟩:∃ t,u2 = .int x2 t:=by have:=r2.toS rfl; subst this; exact q2
   subst e2
   exact E3.cast ⟨EqAt.str_int _ _ _ _,RcAt.str_int _ _ _ _,RcNeAt.str_int _ _ _ _⟩ (by unfold eqD; rfl)
  | str x2 =>
   obtain ⟨t1,e1⟩:∃ t,u1 = .str x1 t:=by have:=r1.toS rfl; subst this; exact q1
   subst e1
   obtain ⟨t2,e2⟩:∃ t,u2 = .str x2 t:=by have:=r2.toS rfl; subst this; exact q2
   subst e2
   exact E3.cast ⟨EqAt.str_str _ _ _ _,RcAt.str_str _ _ _ _,RcNeAt.str_str _ _ _ _⟩ (by unfold eqD; rfl)
  | tup x2 =>
   obtain ⟨t1,e1⟩:∃ t,u1 = .str x1 t:=by have:=r1.toS rfl; subst this; exact q1
   subst e1
   obtain ⟨a2,xs2,w2,sq2,rs2⟩:=r2.tup_inv
   subst w2
   have e2:u2 = .ref a2:=q2
   subst e2
   obtain ⟨its2,rv2,pl2,hz2⟩:=I.tuple sq2.sq
   have L2:s.heap.IsTuple a2 its2.toArray:=pl2
   exact E3.cast ⟨EqAt.str_tuple _ _ L2 hu,RcAt.str_tuple _ _ L2 hu,RcNeAt.str_tuple _ _ L2 hu⟩ (by unfold eqD; rfl)
  | lst x2 =>
   obtain ⟨t1,e1⟩:∃ t,u1 = .str x1 t:=by have:=r1.toS rfl; subst this; exact q1
   subst e1
   obtain ⟨a2,xs2,w2,sq2,rs2⟩:=r2.lst_inv
   subst w2
   have e2:u2 = .ref a2:=q2
   subst e2
   obtain ⟨its2,rv2,pl2,hz2⟩:=I.list sq2.sq
   have L2:=pl2.isList
   exact E3.cast ⟨EqAt.str_list _ _ L2 hu,RcAt.str_list _ _ L2 hu,RcNeAt.str_list _ _ L2 hu⟩ (by unfold eqD; rfl)
  | _=>simp [okE] at h2
 | tup x1 =>
  cases d2 with
  | non =>
   obtain ⟨a1,xs1,w1,sq1,rs1⟩:=r1.tup_inv
   subst w1
   have e1:u1 = .ref a1:=q1
   subst e1
   obtain ⟨its1,rv1,pl1,hz1⟩:=I.tuple sq1.sq
   have L1:s.heap.IsTuple a1 its1.toArray:=pl1
   have e2:u2 = .none:=by have:=r2.toS rfl; subst this; exact q2
   subst e2
   exact E3.cast ⟨EqAt.tuple_none L1 hu,RcAt.tuple_none L1 hu,RcNeAt.tuple_none L1 hu⟩ (by unfold eqD; rfl)
  | bl x2 =>
   obtain ⟨a1,xs1,w1,sq1,rs1⟩:=r1.tup_inv
   subst w1
   have e1:u1 = .ref a1:=q1
   subst e1
   obtain ⟨its1,rv1,pl1,hz1⟩:=I.tuple sq1.sq
   have L1:s.heap.IsTuple a1 its1.toArray:=pl1
   have e2:u2 = .bool x2:=by have:=r2.toS rfl; subst this; exact q2
   subst e2
   exact E3.cast ⟨EqAt.tuple_bool _ L1 hu,RcAt.tuple_bool _ L1 hu,RcNeAt.tuple_bool _ L1 hu⟩ (by unfold eqD; rfl)
  | int x2 =>
   obtain ⟨a1,xs1,w1,sq1,rs1⟩:=r1.tup_inv
   subst w1
   have e1:u1 = .ref a1:=q1
   subst e1
   obtain ⟨its1,rv1,pl1,hz1⟩:=I.tuple sq1.sq
   have L1:s.heap.IsTuple a1 its1.toArray:=pl1
   obtain ⟨t2,e2⟩:∃ t,u2 = .int x2 t:=by have:=r2.toS rfl; subst this; exact q2
   subst e2
   exact E3.cast ⟨EqAt.tuple_int _ _ L1 hu,RcAt.tuple_int _ _ L1 hu,RcNeAt.tuple_int _ _ L1 hu⟩ (by unfold eqD; rfl)
  | str x2 =>
   obtain ⟨a1,xs1,w1,sq1,rs1⟩:=r1.tup_inv
   subst w1
   have e1:u1 = .ref a1:=q1
   subst e1
   obtain ⟨its1,rv1,pl1,hz1⟩:=I.tuple sq1.sq
   have L1:s.heap.IsTuple a1 its1.toArray:=pl1
   obtain ⟨t2,e2⟩:∃ t,u2 = .str x2 t:=by have:=r2.toS rfl; subst this; exact q2
   subst e2
   exact E3.cast ⟨EqAt.tuple_str _ _ L1 hu,RcAt.tuple_str _ _ L1 hu,RcNeAt.tuple_str _ _ L1 hu⟩ (by unfold eqD; rfl)
  | tup x2 =>
   simp [ZX] at hb
  | lst x2 =>
   obtain ⟨a1,xs1,w1,sq1,rs1⟩:=r1.tup_inv
   subst w1
   have e1:u1 = .ref a1:=q1
   subst e1
   obtain ⟨its1,rv1,pl1,hz1⟩:=I.tuple sq1.sq
   have L1:s.heap.IsTuple a1 its1.toArray:=pl1
   obtain ⟨a2,xs2,w2,sq2,rs2⟩:=r2.lst_inv
   subst w2
   have e2:u2 = .ref a2:=q2
   subst e2
   obtain ⟨its2,rv2,pl2,hz2⟩:=I.list sq2.sq
   have L2:=pl2.isList
   exact E3.cast ⟨EqAt.tuple_list L1 L2 hu,RcAt.tuple_list L1 L2 hu,RcNeAt.tuple_list L1 L2 hu⟩ (by unfold eqD; rfl)
  | _=>simp [okE] at h2
 | lst x1 =>
  cases d2 with
  | non =>
   obtain ⟨a1,xs1,w1,sq1,rs1⟩:=r1.lst_inv
   subst w1
   have e1:u1 = .ref a1:=q1
   subst e1
   obtain ⟨its1,rv1,pl1,hz1⟩:=I.list sq1.sq
   have L1:=pl1.isList
   have e2:u2 = .none:=by have:=r2.toS rfl; subst this; exact q2
   subst e2
   exact E3.cast ⟨EqAt.list_none L1 hu,RcAt.list_none L1 hu,RcNeAt.list_none L1 hu⟩ (by unfold eqD; rfl)
  | bl x2 =>
   obtain ⟨a1,xs1,w1,sq1,rs1⟩:=r1.lst_inv
   subst w1
   have e1:u1 = .ref a1:=q1
   subst e1
   obtain ⟨its1,rv1,pl1,hz1⟩:=I.list sq1.sq
   have L1:=pl1.isList
   have e2:u2 = .bool x2:=by have:=r2.toS rfl; subst this; exact q2
   subst e2
   exact E3.cast ⟨EqAt.list_bool _ L1 hu,RcAt.list_bool _ L1 hu,RcNeAt.list_bool _ L1 hu⟩ (by unfold eqD; rfl)
  | int x2 =>
   obtain ⟨a1,xs1,w1,sq1,rs1⟩:=r1.lst_inv
   subst w1
   have e1:u1 = .ref a1:=q1
   subst e1
   obtain ⟨its1,rv1,pl1,hz1⟩:=I.list sq1.sq
   have L1:=pl1.isList
   obtain ⟨t2,e2⟩:∃ t,u2 = .int x2 t:=by have:=r2.toS rfl; subst this; exact q2
   subst e2
   exact E3.cast ⟨EqAt.list_int _ _ L1 hu,RcAt.list_int _ _ L1 hu,RcNeAt.list_int _ _ L1 hu⟩ (by unfold eqD; rfl)
  | str x2 =>
   obtain ⟨a1,xs1,w1,sq1,rs1⟩:=r1.lst_inv
   subst w1
   have e1:u1 = .ref a1:=q1
   subst e1
   obtain ⟨its1,rv1,pl1,hz1⟩:=I.list sq1.sq
   have L1:=pl1.isList
   obtain ⟨t2,e2⟩:∃ t,u2 = .str x2 t:=by have:=r2.toS rfl; subst this; exact q2
   subst e2
   exact E3.cast ⟨EqAt.list_str _ _ L1 hu,RcAt.list_str _ _ L1 hu,RcNeAt.list_str _ _ L1 hu⟩ (by unfold eqD; rfl)
  | tup x2 =>
   obtain ⟨a1,xs1,w1,sq1,rs1⟩:=r1.lst_inv
   subst w1
   have e1:u1 = .ref a1:=q1
   subst e1
   obtain ⟨its1,rv1,pl1,hz1⟩:=I.list sq1.sq
   have L1:=pl1.isList
   obtain ⟨a2,xs2,w2,sq2,rs2⟩:=r2.tup_inv
   subst w2
   have e2:u2 = .ref a2:=q2
   subst e2
   obtain ⟨its2,rv2,pl2,hz2⟩:=I.tuple sq2.sq
   have L2:s.heap.IsTuple a2 its2.toArray:=pl2
   exact E3.cast ⟨EqAt.list_tuple L1 L2 hu,RcAt.list_tuple L1 L2 hu,RcNeAt.list_tuple L1 L2 hu⟩ (by unfold eqD; rfl)
  | lst x2 =>
   simp [ZX] at hb
  | _=>simp [okE] at h2
 | _=>simp [okE] at h1
theorem Jn (I:Inv X pins σ H s):∀ (k:Nat) (d1 d2:D) (v1 v2:V) (u1 u2:Value) (A:Around),okE d1 k = true -> okE d2 k = true -> Rep X.K G Z H d1 v1 -> Rep X.K G Z H d2 v2 -> RelV v1 u1 -> RelV v2 u2 ->
  A.units + k < cLine -> E3 A s u1 u2 (eqD d1 d2):=by
 intro k
 induction k with
 | zero =>
  intro d1 d2 v1 v2 u1 u2 A h1 h2 r1 r2 q1 q2 hu
  refine zg5 I h1 h2 r1 r2 q1 q2 (by lia) ?_
  cases d1 <;> first | rfl | (simp [okE] at h1; done)
 | succ k ih =>
  intro d1 d2 v1 v2 u1 u2 A h1 h2 r1 r2 q1 q2 hu
  by_cases hb:ZX d1 d2 = false
  ·exact zg5 I h1 h2 r1 r2 q1 q2 (by lia) hb
  have items:∀ {ds es:List D} {xs ys:List V} {its its':List Value},Wt ds k = true -> Wt es k = true -> Reps X.K G Z H ds xs -> Reps X.K G Z H es ys -> Vals xs its -> Vals ys its' ->
    ∀ (j:Nat) (l1:j < its.toArray.size) (l2:j < its'.toArray.size),EqAt A.in1 s its.toArray[j] its'.toArray[j] (eAt ds es j):=fun {ds es xs ys its its'} h1 h2 r1 r2 rv rv' j l1 l2=>by
   have l1':j < its.length:=by simpa using l1
   have l2':j < its'.length:=by simpa using l2
   have a1:j < ds.length:=by rw [<- r1.length,rv.length]; exact l1'
   have a2:j < es.length:=by rw [<- r2.length,rv'.length]; exact l2'
   have g1:ds[j]? = some ds[j]:=List.getElem?_eq_getElem a1
   have g2:es[j]? = some es[j]:=List.getElem?_eq_getElem a2
   obtain ⟨w1,e1,p1⟩:=r1.get g1
   obtain ⟨w2,e2,p2⟩:=r2.get g2
   obtain ⟨z1,f1,t1⟩:=rv.get e1
   obtain ⟨z2,f2,t2⟩:=rv'.get e2
   have m1:its.toArray[j] = z1:=by
    have:its[j]? = some its[j]:=List.getElem?_eq_getElem l1'
    rw [f1] at this
    simpa using (Option.some.inj this).symm
   have m2:its'.toArray[j] = z2:=by
    have:its'[j]? = some its'[j]:=List.getElem?_eq_getElem l2'
    rw [f2] at this
    simpa using (Option.some.inj this).symm
   have e3:eAt ds es j = eqD ds[j] es[j]:=by unfold eAt; rw [g1,g2]
   rw [m1,m2,e3]
   exact (ih _ _ _ _ _ _ A.in1 (kq h1 g1) (kq h2 g2) p1 p2 t1 t2 (by show A.units + 1 + k < cLine; lia)).1
  cases d1 with
  | tup ds =>
   cases d2 with
   | tup es =>
    have s1:=r1
    have s2:=r2
    obtain ⟨a,xs,e,sq,rs⟩:=r1.tup_inv
    obtain ⟨b,ys,e',sq',rs'⟩:=r2.tup_inv
    subst e e'
    have c1:u1 = .ref a:=q1
    have c2:u2 = .ref b:=q2
    subst c1 c2
    obtain ⟨its,rv,pl,hz⟩:=I.tuple sq.sq
    obtain ⟨its',rv',pl',hz'⟩:=I.tuple sq'.sq
    have it:=items (by simpa [okE] using h1) (by simpa [okE] using h2) rs rs' rv rv'
    have n1:its.toArray.size = ds.length:=by rw [<- rs.length,rv.length]; simp
    have n2:its'.toArray.size = es.length:=by rw [<- rs'.length,rv'.length]; simp
    have ev:((List.range (min its.toArray.size its'.toArray.size)).all (eAt ds es) && its.toArray.size == its'.toArray.size) = eqD (.tup ds) (.tup es):=by
     rw [n1,n2,qD]; unfold eqD; rfl
    have R:=rcC (RcAt.tuples (A:=A) (show s.heap.IsTuple a its.toArray from pl) (show s.heap.IsTuple b its'.toArray from pl') (by lia) it) ev
    have N:=rnC (RcNeAt.tuples (A:=A) (show s.heap.IsTuple a its.toArray from pl) (show s.heap.IsTuple b its'.toArray from pl') (by lia) it) (congrArg (!·) ev)
    refine ⟨?_,R,N⟩
    by_cases hab:a = b
    ·subst hab
     exact eqC (EqAt.same _) (WX I (k + 1) _ _ _ h1 h2 s1 s2).symm
    ·exact .of_refs hab R
   | _=>exact absurd rfl hb
  | lst ds =>
   cases d2 with
   | lst es =>
    have s1:=r1
    have s2:=r2
    obtain ⟨a,xs,e,sq,rs⟩:=r1.lst_inv
    obtain ⟨b,ys,e',sq',rs'⟩:=r2.lst_inv
    subst e e'
    have c1:u1 = .ref a:=q1
    have c2:u2 = .ref b:=q2
    subst c1 c2
    obtain ⟨its,rv,pl,hz⟩:=I.list sq.sq
    obtain ⟨its',rv',pl',hz'⟩:=I.list sq'.sq
    have it:=items (by simpa [okE] using h1) (by simpa [okE] using h2) rs rs' rv rv'
    have n1:its.toArray.size = ds.length:=by rw [<- rs.length,rv.length]; simp
    have n2:its'.toArray.size = es.length:=by rw [<- rs'.length,rv'.length]; simp
    have R:RcAt A s (.ref a) (.ref b) (eqD (.lst ds) (.lst es)) /\ RcNeAt A s (.ref a) (.ref b) (!eqD (.lst ds) (.lst es)):=by
     by_cases hl:ds.length = es.length
     ·have ev : (List.range its.toArray.size).all (eAt ds es) = eqD (.lst ds) (.lst es) := by rw [n1, Xq hl]; unfold eqD; rfl
      exact ⟨rcC (RcAt.lists (A:=A) pl.isList pl'.isList (by rw [n1,n2,hl]) (by lia) it) ev,rnC (RcNeAt.lists (A:=A) pl.isList pl'.isList (by rw [n1,n2,hl]) (by lia) it) (congrArg (!·) ev)⟩
     ·have ev : false = eqD (.lst ds) (.lst es) := by unfold eqD; exact (zc7 hl).symm
      have hs:(its.toArray.size != its'.toArray.size) = true:=by rw [n1,n2]; simpa using hl
      exact ⟨rcC (RcAt.lists_lengths (A:=A) pl.isList pl'.isList hs (by lia)) ev,rnC (RcNeAt.lists_lengths (A:=A) pl.isList pl'.isList hs (by lia)) (congrArg (!·) ev)⟩
    refine ⟨?_,R⟩
    by_cases hab:a = b
    ·subst hab
     exact eqC (EqAt.same _) (WX I (k + 1) _ _ _ h1 h2 s1 s2).symm
    ·exact .of_refs hab R.1
   | _=>exact absurd rfl hb
  | _=>exact absurd rfl hb
def EqV (X:Cx) (H:Hp) (x y:V) (b:Bool):Prop:=∀ pins s σ v u,Inv X pins σ H s -> RelV x v -> RelV y u -> ∀ A:Around,A.units + 60 < cLine -> E3 A s v u b
def zW1 (X:Cx):R2:=fun x y H Q=>∃ b,EqV X H x y b /\ Q (.bl b) H
def zW0 (X:Cx):R2:=fun x y H Q=>∃ b,EqV X H x y b /\ Q (.bl (!b)) H
theorem YQ {n:Nat} (hr:Room n X.A):OpR X (compareOp .Eq) (zW1 X):=by
 intro pins s σ H x y v u Q I rx ry h
 obtain ⟨b,e,q⟩:=h
 exact (e pins s σ v u I rx ry X.A (by have:=hr.units; lia)).2.1 X.prog X.w X.xe _ ⟨.bl b,H,I,rfl,q⟩
theorem zx8 {n:Nat} (hr:Room n X.A):OpR X (compareOp .NotEq) (zW0 X):=by
 intro pins s σ H x y v u Q I rx ry h
 obtain ⟨b,e,q⟩:=h
 exact (e pins s σ v u I rx ry X.A (by have:=hr.units; lia)).2.2 X.prog X.w X.xe _ ⟨.bl (!b),H,I,rfl,q⟩
def zt6:RD2:=fun d1 d2 k=>okE d1 20 = true /\ okE d2 20 = true /\ k (.bl (eqD d1 d2))
def zK0:RD2:=fun d1 d2 k=>okE d1 20 = true /\ okE d2 20 = true /\ k (.bl (!eqD d1 d2))
theorem YI {A:AC} (hK:X.K = A.K):yo A (zW1 X) zt6:=by
 rintro os n rho sg H ds vs d1 d2 v1 v2 k Q I ⟨h1,h2,q⟩ hQ
 obtain ⟨I1,r2⟩:=I.pop
 obtain ⟨I2,r1⟩:=I1.pop
 rw [<- hK] at r1 r2
 exact ⟨eqD d1 d2,fun pins s σ v u J rx ry B hu=>Jn J 20 d1 d2 v1 v2 v u B h1 h2 r1 r2 rx ry (by lia),hQ _ H _ ⟨os,I2.push (Rep.ofS rfl)⟩ q⟩
@[simp] theorem zN4 {d1 d2 k}:zt6 d1 d2 k = (okE d1 20 = true /\ okE d2 20 = true /\ k (.bl (eqD d1 d2))):=rfl
@[simp] theorem zN3 {d1 d2 k}:zK0 d1 d2 k = (okE d1 20 = true /\ okE d2 20 = true /\ k (.bl (!eqD d1 d2))):=rfl
end
end L2
set_option maxRecDepth 100000
namespace L2
open PySem PySem.Spec PyProof.Rows
section
variable {A:AC} {X:Cx} {e a b:Expr} {es:List Expr} {te ta tb:TD} {t1:TAD} {pos p:Pos}
def Wx (d:D) (p:List D -> Prop):Prop:=∃ fs,d = .lst fs /\ p fs
@[simp] theorem zO1 {fs p}:Wx (.lst fs) p ↔ p fs:=⟨fun ⟨_,e,h⟩=>by cases e; exact h,fun h=>⟨_,rfl,h⟩⟩
def zI8 (i:Nat) (te:TD):TSD:=fun F rho n=>i < rho.length /\ te rho n fun d n1=>Wx d fun fs=>F.nx (rho.set i (some (.own fs))) n1
@[simp] theorem zL6 {i te F rho n}:zI8 i te F rho n = (i < rho.length /\ te rho n fun d n1=>Wx d fun fs=>F.nx (rho.set i (some (.own fs))) n1):=rfl
def Jw (i:Nat):TD:=fun rho n P=>vV rho[i]? fun es=>P (.int es.length) n
@[simp] theorem zu9 {i rho n P}:Jw i rho n P = vV rho[i]? fun es=>P (.int es.length) n:=rfl
theorem qV {i:Nat} {x:Str} {px:Pos} (hm:X.mg "len" = none) (hK:X.K = A.K) (hN:X.N[i]? = some x:=by rfl) (hv:Vis X.env.scope x:=by first | exact Or.inl rfl | exact Or.inr (Or.inl rfl) | exact Or.inr (Or.inr rfl)) (hd:(x == ("__debug__" : Str)) = false:=by decide)
  (hcd:(x == ("__classdict__" : Str)) = false:=by decide) (hg:Gl X "len" := by rfl)
  (he:starEach [.Name x px] X.env = (false,eval (.Name x px) X.env) :: starEach [] X.env:=by rfl) (hpl:(backTo pos (starEach [] X.env)).any (·.1) = false:=by rfl):PD A X (.Call (.Name "len" p) [.Name x px] [] pos) (Jw i):=by
 with_unfolding_all
  exact
   (Vh zI hg hm wL (vn (vf hN hv hd hcd) pa_nil he) (by decide) (by decide) he hpl).imp fun sg H Q h => by
    obtain ⟨rho,n,P,ds,vs,⟨os,I⟩,⟨es,hi,k⟩,hQ⟩:=h
    obtain ⟨a,xs,e1,hH,rs,_⟩:=I.own (es':=es) (xs':=[]) hi
    exact ⟨.ref a,e1,a,xs,rfl,.inl (SqL.of hH),by rw [rs.length]; exact hQ _ H n _ ⟨os,I.push (Rep.ofS (d:=.int es.length) rfl)⟩ k⟩
def zq6 (K:PySem.W.Frag) (mg:Str -> Option Value) (x:Str) (d:D):Prop:=∃ v u,mg x = some u /\ RelV v u /\ ∀ G Z H,Rep K G Z H d v
theorem Km {x:Str} {d:D} (h:zq6 X.K X.mg x d) (hK:X.K = A.K) (hg:Gl X x:=by rfl) (hd:(x == ("__debug__" : Str)) = false:=by decide):PD A X (.Name x pos) (dC d):=by
 with_unfolding_all
  exact (by
   obtain ⟨v,u,hm,r,hr⟩:=h
   refine (Kh hg hm r hd).imp fun sg H Q q=>?_
   obtain ⟨rho,n,P,ds,vs,⟨os,I⟩,q,hQ⟩:=q
   exact hQ v H n d ⟨os,I.push (by rw [<- hK]; exact hr _ _ _)⟩ q)
theorem zc5 {K:PySem.W.Frag} {mg:Str -> Option Value} {x:Str} {a:Addr} {o:Obj} {its:Array Value} {n:Nat} {ds:List D} {xs:List V} (hm:mg x = some (.ref a)) (hk:K.lookup a = some o) (hc:o.cls = .type "tuple") (hd:o.data = .seq its n) (hz:its.size <= sizeLine) (hv:Vals xs its.toList)
  (hs:∀ G Z H,Reps K G Z H ds xs):zq6 K mg x (.tup ds):=⟨.ref a,.ref a,hm,rfl,fun G Z H=>.tup_mk (.inr (.inr ⟨o,its,n,hk,hc,hd,hz,hv⟩)) (hs G Z H)⟩
theorem FnOk.botK {P:Program} {w:World} {K:PySem.W.Frag} {mg:Str -> Option Value} {base:Heap} {f:Addr} {fd:FuncData} {ps:List Str} {k L:Nat} {t:TF} (ht:∀ ds n Q,¬ t ds n Q):FnOk P w K mg base CX0 L f fd ps (spD K k t):=by
 refine ⟨fun vs H Q E h=>?_,fun A outer s H args us vs Q E _ _ _ _ h=>?_⟩
 ·obtain ⟨G, Z, n, R, ds, hl, rs, hst, gz, z0, h, _⟩ := h
  exact (ht _ _ _ h).elim
 ·obtain ⟨G, Z, n, R, ds, hl, rs, hst, gz, z0, h, _⟩ := h
  exact (ht _ _ _ h).elim
end
end L2
namespace L2
open PySem PySem.Spec PyProof.Rows
theorem zS {own:Nat} {g:TGD} {te:TD} {rho:Rho} {n:Nat} {P:D -> Nat -> Prop} {α:Type} (enc:α -> D) (f:α -> D) (xs:List α)
  (hz:xs.length <= sizeLine) (he:∀ x ∈ xs,∀ Q,Q (f x) n -> g (enc x) (List.replicate own none ++ rho) fun rho'=>rho'.drop own = rho /\ te rho' n Q) (hP:P (.lst (xs.map f)) n):Vt own g zD0 te rho P (xs.map enc) n :=
 zd6 (it:=fun _ n R=>R (xs.map enc) n) (rho:=rho) enc f xs (fun R h=>h) hz he hP
end L2
namespace L2
open PySem PySem.Spec PyProof.Rows
theorem UX {d:D} {T:String} {k:D -> Prop} (hT:T = "bool" \/ T = "int" \/ T = "str" \/ T = "tuple" \/ T = "list"):zn9 [d,.ty T] k ↔ (wW d = true /\ k (.bl (Yl T d))) :=
 ⟨fun ⟨d',T',e,_,h1,h2⟩=>by cases e; exact ⟨h1,h2⟩,fun h=>⟨d,T,rfl,hT,h.1,h.2⟩⟩
@[simp] theorem zu8 {d:D} {k:D -> Prop}:zn9 [d,.ty "bool"] k ↔ (wW d = true /\ k (.bl (Yl "bool" d))):=UX (by decide)
@[simp] theorem zG4 {d:D} {k:D -> Prop}:zn9 [d,.ty "int"] k ↔ (wW d = true /\ k (.bl (Yl "int" d))):=UX (by decide)
@[simp] theorem zG3 {d:D} {k:D -> Prop}:zn9 [d,.ty "str"] k ↔ (wW d = true /\ k (.bl (Yl "str" d))):=UX (by decide)
@[simp] theorem zq4 {d:D} {k:D -> Prop}:zn9 [d,.ty "tuple"] k ↔ (wW d = true /\ k (.bl (Yl "tuple" d))):=UX (by decide)
@[simp] theorem zu7 {d:D} {k:D -> Prop}:zn9 [d,.ty "list"] k ↔ (wW d = true /\ k (.bl (Yl "list" d))):=UX (by decide)
@[simp] theorem q_rdEqS {i j:Str} {k}:zf3 (.str i) (.str j) k ↔ k (.bl (decide (i = j))):=by
 have e:decide (ofS (.str i) = ofS (.str j)) = decide (i = j):=by simp [ofS]
 unfold zf3
 rw [e]
 exact ⟨fun h=>h.2.2.2,fun h=>⟨rfl,rfl,rfl,h⟩⟩
theorem ZL:∀ {ds:List D} {k:Nat},Wt ds k = true ↔ ∀ d ∈ ds,okE d k = true
 | [],k=>by unfold Wt; simp
 | c :: ds,k=>by
  unfold Wt
  rw [Bool.and_eq_true,ZL]
  simp
theorem okE_tup {ds:List D} {k:Nat}:okE (.tup ds) (k + 1) = true ↔ ∀ d ∈ ds,okE d k = true:=by
 have e:okE (.tup ds) (k + 1) = Wt ds k:=by rw [okE]
 rw [e,ZL]
def zn6 (es:List D) (k:List D -> Prop):Prop:=∃ d1 d2 b1 xs b2 ys,es = [d1,d2] /\ qN d1 = some (b1,xs) /\ qN d2 = some (b2,ys) /\ k (XU xs ys)
@[simp] theorem zP6 {t:TAD} {rho n P}:zB1 t rho n P ↔ t rho n fun es n1=>zn6 es fun l=>P l n1:=Iff.rfl
theorem qS {d1 d2:D} {b1 b2 xs ys} {k:List D -> Prop} (h1:qN d1 = some (b1,xs)) (h2:qN d2 = some (b2,ys)):zn6 [d1,d2] k ↔ k (XU xs ys):=by
 constructor
 ·rintro ⟨_, _, _, _, _, _, e, e1, e2, h⟩
  cases e
  rw [h1] at e1; rw [h2] at e2
  cases e1; cases e2
  exact h
 ·intro h
  exact ⟨_,_,_,_,_,_,rfl,h1,h2,h⟩
@[simp] theorem zF4 {xs ys} {k:List D -> Prop}:zn6 [.tup xs,.tup ys] k ↔ k (XU xs ys):=qS rfl rfl
@[simp] theorem zF5 {xs ys} {k:List D -> Prop}:zn6 [.tup xs,.lst ys] k ↔ k (XU xs ys):=qS rfl rfl
@[simp] theorem zF6 {xs ys} {k:List D -> Prop}:zn6 [.lst xs,.tup ys] k ↔ k (XU xs ys):=qS rfl rfl
@[simp] theorem zF7 {xs ys} {k:List D -> Prop}:zn6 [.lst xs,.lst ys] k ↔ k (XU xs ys):=qS rfl rfl
theorem Jj {K:PySem.W.Frag} {mg:Str -> Option Value} {x:Str} {a:Addr} {od:Option Addr} {n:Nat} {i j:Int} {t u:Tok} {sl} (hm:mg x = some (.ref a)) (hk:K.lookup a = some ⟨.type "tuple",od,.seq #[.int i t,.int j u] n,sl⟩):zq6 K mg x (.tup [.int i,.int j]) :=
 zc5 (xs:=[.int i,.int j]) hm hk rfl rfl (by simp [sizeLine]) (.cons ⟨_,rfl⟩ (.cons ⟨_,rfl⟩ .nil)) fun G Z H=>by
  exact .cons (.ofS (d:=.int i) rfl) (.cons (.ofS (d:=.int j) rfl) .nil)
end L2
set_option maxRecDepth 100000
namespace L2
open PySem PySem.Spec PyProof.Rows
theorem jy (f:Nat -> Int) (bt:Nat -> Nat -> Bool) (h:∀ i j,bt i j = true ↔ f j < f i):∀ k,argBest bt k <= k /\ ∀ i,i <= k -> f i <= f (argBest bt k)
 | 0=>⟨Nat.le_refl _,fun i hi=>by cases Nat.le_zero.mp hi; exact Int.le_refl _⟩
 | k + 1 => by
  obtain ⟨h1,h2⟩:=jy f bt h k
  rw [argBest.eq_2]
  by_cases hb:bt (k + 1) (argBest bt k) = true
  ·rw [if_pos hb]
   have hb':=(h _ _).mp hb
   refine ⟨Nat.le_refl _,fun i hi=>?_⟩
   by_cases e:i = k + 1
   ·subst e; exact Int.le_refl _
   ·have:=h2 i (by lia); lia
  ·rw [if_neg hb]
   have hb':¬ f (argBest bt k) < f (k + 1):=fun z=>hb ((h _ _).mpr z)
   refine ⟨by lia,fun i hi=>?_⟩
   by_cases e:i = k + 1
   ·subst e; lia
   ·exact h2 i (by lia)
theorem Vals.ints_at {ns:List Int} {us:List Value} (h:Vals (ns.map V.int) us) {i:Nat} {v:Value} (e:us[i]? = some v):i < ns.length /\ ∃ t,v = .int (ns[i]?.getD 0) t:=by
 have hl:us.length = ns.length:=by have:=h.length; simpa using this.symm
 have hi:i < ns.length:=by rw [<- hl]; exact (List.getElem?_eq_some_iff.mp e).1
 refine ⟨hi,?_⟩
 have e2:(ns.map V.int)[i]? = some (.int ns[i]):=by rw [List.getElem?_map,List.getElem?_eq_getElem hi]; rfl
 obtain ⟨u,hu,r⟩:=h.get e2
 rw [e] at hu
 cases hu
 obtain ⟨t,rfl⟩:=r
 exact ⟨t,by rw [List.getElem?_eq_getElem hi]; rfl⟩
section
variable {X:Cx}
theorem JP (hc:X.calm = true):va X (.builtin "max") (fun xs H Q=>∃ (p:Addr) (ns:List Int),xs = [.ref p] /\ SqL X.K H p (ns.map V.int) /\ 0 < ns.length /\ ∀ M,M ∈ ns -> (∀ a ∈ ns,a <= M) -> Q (.int M) H):=by
 intro pins s σ H xs us Q I r h
 obtain ⟨p,ns,rfl,hq,hn,q⟩:=h
 cases r with
 | cons r rr =>
  cases rr
  cases r
  obtain ⟨its,rv,pl,_⟩:=I.list hq
  have hl:=pl.isList
  have hlt:p < s.heap.objs.size:=by obtain ⟨_,e,_⟩:=hl; exact Heap.lt_size e
  have hsz:its.length = ns.length:=by have:=rv.length; simpa using this.symm
  refine call_max_walk (wpAny_pyIter_list hl ⟨s.heap.objs.size,[s.heap.objs.size,p],[s.heap.objs.size],its.toArray.size,_,_,fun i j=>decide (ns[j]?.getD 0 < ns[i]?.getD 0),rfl,
   Walks.list (A:=X.A.in1) (I.ok.hd hc) _ p (Nat.ne_of_lt hlt) _,⟨⟨_,Heap.get?_push_size _ rfl,rfl,rfl⟩,hl.push _⟩,fun b hb=>?_,?_,fun i j vi vj s' Q' E' hi hj hQ=>?_,fun v h' tk hP hk=>?_⟩)
  ·simp only [List.mem_cons, List.not_mem_nil, or_false] at hb
   rcases hb with rfl | rfl
   ·simp [Heap.push]
   ·exact Nat.lt_trans hlt (by simp [Heap.push])
  ·rw [List.size_toArray,hsz]; exact hn
  ·have hi' : its[i]? = some vi := by simpa using hi
   have hj':its[j]? = some vj:=by simpa using hj
   obtain ⟨_,ti,rfl⟩:=rv.ints_at hi'
   obtain ⟨_,tj,rfl⟩:=rv.ints_at hj'
   exact (PyProof.Rows.gt_int hQ:wpAny (model X.prog X.w) X.A.in1 (compareOp .Gt _ _) Q' E' s')
  ·have hP' : its[argBest (fun i j => decide (ns[j]?.getD 0 < ns[i]?.getD 0)) (its.toArray.size - 1)]? = some v := by simpa using hP
   obtain ⟨hlt2,t,rfl⟩:=rv.ints_at hP'
   obtain ⟨hb1,hb2⟩:=jy (fun i=>ns[i]?.getD 0) (fun i j=>decide (ns[j]?.getD 0 < ns[i]?.getD 0)) (fun i j=>by simp) (its.toArray.size - 1)
   generalize argBest (fun i j=>decide (ns[j]?.getD 0 < ns[i]?.getD 0)) (its.toArray.size - 1) = m at *
   refine ⟨.int (ns[m]?.getD 0),H,I.kept (Vl hk),⟨_,rfl⟩,q _ ?_ fun a ha=>?_⟩
   ·rw [List.getElem?_eq_getElem hlt2]; exact List.getElem_mem hlt2
   ·obtain ⟨i, hi, rfl⟩ := List.mem_iff_getElem.mp ha
    have:=hb2 i (by rw [List.size_toArray,hsz]; lia)
    rw [List.getElem?_eq_getElem hi] at this
    exact this
theorem JO (hc:X.calm = true):va X (.builtin "min") (fun xs H Q=>∃ (p:Addr) (ns:List Int),xs = [.ref p] /\ SqL X.K H p (ns.map V.int) /\ 0 < ns.length /\ ∀ M,M ∈ ns -> (∀ a ∈ ns,M <= a) -> Q (.int M) H):=by
 intro pins s σ H xs us Q I r h
 obtain ⟨p,ns,rfl,hq,hn,q⟩:=h
 cases r with
 | cons r rr =>
  cases rr
  cases r
  obtain ⟨its,rv,pl,_⟩:=I.list hq
  have hl:=pl.isList
  have hlt:p < s.heap.objs.size:=by obtain ⟨_,e,_⟩:=hl; exact Heap.lt_size e
  have hsz:its.length = ns.length:=by have:=rv.length; simpa using this.symm
  refine call_min_walk (wpAny_pyIter_list hl ⟨s.heap.objs.size,[s.heap.objs.size,p],[s.heap.objs.size],its.toArray.size,_,_,fun i j=>decide (ns[i]?.getD 0 < ns[j]?.getD 0),rfl,
   Walks.list (A:=X.A.in1) (I.ok.hd hc) _ p (Nat.ne_of_lt hlt) _,⟨⟨_,Heap.get?_push_size _ rfl,rfl,rfl⟩,hl.push _⟩,fun b hb=>?_,?_,fun i j vi vj s' Q' E' hi hj hQ=>?_,fun v h' tk hP hk=>?_⟩)
  ·simp only [List.mem_cons, List.not_mem_nil, or_false] at hb
   rcases hb with rfl | rfl
   ·simp [Heap.push]
   ·exact Nat.lt_trans hlt (by simp [Heap.push])
  ·rw [List.size_toArray,hsz]; exact hn
  ·have hi' : its[i]? = some vi := by simpa using hi
   have hj':its[j]? = some vj:=by simpa using hj
   obtain ⟨_,ti,rfl⟩:=rv.ints_at hi'
   obtain ⟨_,tj,rfl⟩:=rv.ints_at hj'
   exact (PyProof.Rows.lt_int hQ:wpAny (model X.prog X.w) X.A.in1 (compareOp .Lt _ _) Q' E' s')
  ·have hP' : its[argBest (fun i j => decide (ns[i]?.getD 0 < ns[j]?.getD 0)) (its.toArray.size - 1)]? = some v := by simpa using hP
   obtain ⟨hlt2,t,rfl⟩:=rv.ints_at hP'
   obtain ⟨hb1,hb2⟩:=jy (fun i=>- ns[i]?.getD 0) (fun i j=>decide (ns[i]?.getD 0 < ns[j]?.getD 0)) (fun i j=>by simp) (its.toArray.size - 1)
   generalize argBest (fun i j=>decide (ns[i]?.getD 0 < ns[j]?.getD 0)) (its.toArray.size - 1) = m at *
   refine ⟨.int (ns[m]?.getD 0),H,I.kept (Vl hk),⟨_,rfl⟩,q _ ?_ fun a ha=>?_⟩
   ·rw [List.getElem?_eq_getElem hlt2]; exact List.getElem_mem hlt2
   ·obtain ⟨i, hi, rfl⟩ := List.mem_iff_getElem.mp ha
    have:=hb2 i (by rw [List.size_toArray,hsz]; lia)
    rw [List.getElem?_eq_getElem hi] at this
    have e:(some ns[i]).getD 0 = ns[i]:=rfl
    rw [e] at this
    lia
end
section
variable {A:AC}
theorem yf {K:PySem.W.Frag} {G:Option Addr} {Z:Addr -> Prop} {H:Hp}:∀ {bs:List Int} {ws:List V},Reps K G Z H (bs.map D.int) ws -> ws = bs.map V.int
 | [],ws,h=>h.nil_inv
 | b :: bs,ws,h=>by
  obtain ⟨v,r,rfl,q,t⟩:=h.split
  rw [q.int_inv,yf t]; rfl
def zA6:List D -> (D -> Prop) -> Prop:=fun es k=>∃ i j,es = [.int i,.int j] /\ k (.int (if j > i then j else i))
def zA4:List D -> (D -> Prop) -> Prop:=fun es k=>∃ i j,es = [.int i,.int j] /\ k (.int (if j < i then j else i))
def zA7:List D -> (D -> Prop) -> Prop:=fun es k=>∃ ns:List Int,es = [.lst (ns.map D.int)] /\ 0 < ns.length /\ ∀ M,M ∈ ns -> (∀ a ∈ ns,a <= M) -> k (.int M)
def zA5:List D -> (D -> Prop) -> Prop:=fun es k=>∃ ns:List Int,es = [.lst (ns.map D.int)] /\ 0 < ns.length /\ ∀ M,M ∈ ns -> (∀ a ∈ ns,M <= a) -> k (.int M)
@[simp] theorem zO8 {i j k}:zA6 [.int i,.int j] k ↔ k (.int (if j > i then j else i)):=⟨fun ⟨_,_,e,h⟩=>by cases e; exact h,fun h=>⟨_,_,rfl,h⟩⟩
@[simp] theorem zO6 {i j k}:zA4 [.int i,.int j] k ↔ k (.int (if j < i then j else i)):=⟨fun ⟨_,_,e,h⟩=>by cases e; exact h,fun h=>⟨_,_,rfl,h⟩⟩
theorem JD:xv A (fun xs H Q=>∃ i j,xs = [.int i,.int j] /\ Q (.int (if j > i then j else i)) H) zA6:=by
 rintro os n rho sg H ds vs es ws k Q I rs ⟨i,j,rfl,q⟩ hQ
 obtain ⟨v,v',rfl,r,r'⟩:=VH rs
 exact ⟨i,j,by rw [r.int_inv,r'.int_inv],hQ _ H _ ⟨os,I.push (Rep.ofS rfl)⟩ q⟩
theorem JC:xv A (fun xs H Q=>∃ i j,xs = [.int i,.int j] /\ Q (.int (if j < i then j else i)) H) zA4:=by
 rintro os n rho sg H ds vs es ws k Q I rs ⟨i,j,rfl,q⟩ hQ
 obtain ⟨v,v',rfl,r,r'⟩:=VH rs
 exact ⟨i,j,by rw [r.int_inv,r'.int_inv],hQ _ H _ ⟨os,I.push (Rep.ofS rfl)⟩ q⟩
theorem zp0:xv A (fun xs H Q=>∃ (p:Addr) (ns:List Int),xs = [.ref p] /\ SqL A.K H p (ns.map V.int) /\ 0 < ns.length /\ ∀ M,M ∈ ns -> (∀ a ∈ ns,a <= M) -> Q (.int M) H) zA7:=by
 rintro os n rho sg H ds vs es ws k Q I rs ⟨ns,rfl,hn,q⟩ hQ
 obtain ⟨v,rfl,r⟩:=yi rs
 obtain ⟨a,xs,rfl,sq,rr⟩:=r.lst_inv
 have e:=yf rr
 subst e
 exact ⟨a,ns,rfl,sq.sq,hn,fun M h1 h2=>hQ _ H _ ⟨os,I.push (Rep.ofS rfl)⟩ (q M h1 h2)⟩
theorem zo9:xv A (fun xs H Q=>∃ (p:Addr) (ns:List Int),xs = [.ref p] /\ SqL A.K H p (ns.map V.int) /\ 0 < ns.length /\ ∀ M,M ∈ ns -> (∀ a ∈ ns,M <= a) -> Q (.int M) H) zA5:=by
 rintro os n rho sg H ds vs es ws k Q I rs ⟨ns,rfl,hn,q⟩ hQ
 obtain ⟨v,rfl,r⟩:=yi rs
 obtain ⟨a,xs,rfl,sq,rr⟩:=r.lst_inv
 have e:=yf rr
 subst e
 exact ⟨a,ns,rfl,sq.sq,hn,fun M h1 h2=>hQ _ H _ ⟨os,I.push (Rep.ofS rfl)⟩ (q M h1 h2)⟩
theorem JT:bootBuiltins "max" = some (.builtin "max"):=by decide +kernel
theorem JS:bootBuiltins "min" = some (.builtin "min"):=by decide +kernel
end
end L2
namespace L2
open PySem PySem.Spec PyProof.Rows
theorem WA {own:Nat} {g:TGD} {tt:TBD} {te:TD} {rho:Rho} {n:Nat} {P:D -> Nat -> Prop} {α:Type} (enc:α -> D) (keep:α -> Bool) (f:α -> D) (xs:List α) (hz:xs.length <= sizeLine)
  (he:∀ x ∈ xs,∀ (R:D -> Nat -> Prop) (S:Nat -> Prop),(keep x = true -> R (f x) n) -> (keep x = false -> S n) -> g (enc x) (List.replicate own none ++ rho) fun rho'=>rho'.drop own = rho /\ tt rho' n fun c n2=>if c = true then te rho' n2 R else S n2)
  (hP:P (.lst ((xs.filter keep).map f)) n):Vt own g tt te rho P (xs.map enc) n:=by
 refine ⟨by simpa using hz,fun i acc n'=>n' = n /\ acc = ((xs.take i).filter keep).map f,⟨rfl,rfl⟩,?_,?_⟩
 ·rintro i d acc n' e ⟨rfl, rfl⟩
  rw [List.getElem?_map] at e
  cases q:xs[i]? with
  | none=>rw [q] at e; cases e
  | some x =>
   rw [q] at e
   cases e
   have hm:x ∈ xs:=List.mem_of_getElem? q
   have et:xs.take (i + 1) = xs.take i ++ [x]:=by rw [List.take_add_one,q]; rfl
   refine he x hm (fun e n3=>n3 = n' /\ ((xs.take i).filter keep).map f ++ [e] = ((xs.take (i + 1)).filter keep).map f) (fun n3=>n3 = n' /\ ((xs.take i).filter keep).map f = ((xs.take (i + 1)).filter keep).map f) (fun hk=>⟨rfl,?_⟩) (fun hk=>⟨rfl,?_⟩)
   ·rw [et,List.filter_append]; simp [hk]
   ·rw [et,List.filter_append]; simp [hk]
 ·rintro acc n' ⟨rfl, rfl⟩
  rw [List.length_map,List.take_length]
  exact hP
theorem okE_lst {ds:List D} {k:Nat}:okE (.lst ds) (k + 1) = true ↔ ∀ d ∈ ds,okE d k = true:=by
 have e:okE (.lst ds) (k + 1) = Wt ds k:=by rw [okE]
 rw [e,ZL]
theorem yR {i:Int} {k:Nat}:okE (.int i) k = true:=by simp [okE]
end L2
set_option maxRecDepth 100000
namespace L2
open PySem PySem.Spec PyProof.Rows
def zf5 (K:PySem.W.Frag):R2:=fun x y H Q=>∃ a b xs ys,x = .ref a /\ y = .ref b /\ SqT K H a xs /\ SqT K H b ys /\ xs.length + ys.length <= sizeLine /\
 (xs = [] -> Q (.ref b) H) /\ (xs ≠ [] -> ys = [] -> Q (.ref a) H) /\ (xs ≠ [] -> ys ≠ [] -> ∀ p,H p = none -> Q (.ref p) (upd H p (.tup (xs ++ ys))))
section
variable {X:Cx}
theorem yP:OpR X (binaryOp .Add) (zf5 X.K):=by
 intro pins s σ H x y v u Q I rx ry h
 obtain ⟨a,b,xs,ys,rfl,rfl,ha,hb,hz,q0,q1,q2⟩:=h
 by_cases hx:xs = []
 ·cases rx
  cases ry
  obtain ⟨its,r1,p1,_⟩:=I.tuple ha
  obtain ⟨its2,r2,p2,_⟩:=I.tuple hb
  have hi:its = []:=r1.nil_iff.mpr hx
  obtain ⟨⟨cls,dd,data,sl⟩,ho,hc,n,hd⟩:=id p1
  obtain ⟨⟨cls2,dd2,data2,sl2⟩,ho2,hc2,n2,hd2⟩:=id p2
  simp only at hc hd hc2 hd2
  subst hc hd hc2 hd2
  exact PySem.concat_meets ⟨_,ho,rfl⟩ ⟨_,ho2,rfl⟩ PySem.noFill_tuple_add PySem.seq_tuple_add PySem.F.slot_tuple_add PySem.F.entry_tuple_add (PySem.F.args_tuple_add_2 _ _)
   (tuple_addW0 a b its.toArray its2.toArray n n2 dd dd2 sl sl2 (by simp [hi])) ⟨ho,ho2,⟨.ref b,H,I,rfl,q0 hx⟩⟩
 ·exact zl6 pins s σ H _ _ v u Q I rx ry ⟨a,b,xs,ys,rfl,rfl,ha,hb,hx,hz,q1 hx,q2 hx⟩
end
section
variable {A:AC}
def zf4:RD2:=fun d1 d2 k=>∃ es fs,d1 = .tup es /\ d2 = .tup fs /\ es.length + fs.length <= sizeLine /\ k (.tup (es ++ fs))
@[simp] theorem zE8 {es fs k}:zf4 (.tup es) (.tup fs) k ↔ (es.length + fs.length <= sizeLine /\ k (.tup (es ++ fs))):=⟨fun ⟨_,_,e,e',h⟩=>by cases e; cases e'; exact h,fun h=>⟨_,_,rfl,rfl,h⟩⟩
theorem vT:yo A (zf5 A.K) zf4:=by
 rintro os n rho sg H ds vs d1 d2 v1 v2 k Q I ⟨es,fs,rfl,rfl,hz,q⟩ hQ
 obtain ⟨I1,r2⟩:=I.pop
 obtain ⟨I2,r1⟩:=I1.pop
 have r1':=r1
 have r2':=r2
 obtain ⟨a,xs,e,sq,rs⟩:=r1.tup_inv
 obtain ⟨b,ys,e',sq',rs'⟩:=r2.tup_inv
 subst e e'
 refine ⟨a,b,xs,ys,rfl,rfl,sq.sq,sq'.sq,by rw [rs.length,rs'.length]; exact hz,fun hx=>?_,fun hx hy=>?_,fun hx hy p hp=>?_⟩
 ·have he : es = [] := by have := rs.length; rw [hx] at this; exact List.eq_nil_of_length_eq_zero this.symm
  subst he
  exact hQ _ H _ ⟨os,I2.push r2'⟩ q
 ·have he : fs = [] := by have := rs'.length; rw [hy] at this; exact List.eq_nil_of_length_eq_zero this.symm
  subst he
  rw [List.append_nil] at q
  exact hQ _ H _ ⟨os,I2.push r1'⟩ q
 ·exact hQ _ _ _ ⟨os,I2.newTup (rs.append rs') hp⟩ q
end
section
variable {A:AC} {X:Cx} {a b c e:Expr} {es:List Expr} {te ta tb tc:TD} {t1:TAD} {pos p:Pos}
def kX (d:D) (k:Int -> Prop):Prop:=∃ i,d = .int i /\ k i
@[simp] theorem zP5 {i:Int} {k}:kX (.int i) k ↔ k i:=⟨fun ⟨_,e,h⟩=>by cases e; exact h,fun h=>⟨_,rfl,h⟩⟩
def zC7 (f g:Int -> Int -> Bool) (ta tb tc:TD):TD:=fun rho n P=>ta rho n fun d1 n1=>tb rho n1 fun d2 n2=>kX d1 fun i=>kX d2 fun j=>if f i j = true then tc rho n2 fun d3 n3=>kX d3 fun k=>P (.bl (g j k)) n3 else P (.bl false) n2
@[simp] theorem zH4 {f g ta tb tc rho n P}:zC7 f g ta tb tc rho n P = ta rho n fun d1 n1=>tb rho n1 fun d2 n2=>kX d1 fun i=>kX d2 fun j=>if f i j = true then tc rho n2 fun d3 n3=>kX d3 fun k=>P (.bl (g j k)) n3 else P (.bl false) n2:=rfl
def zB4 (t:TAD):TID:=fun rho n P=>t rho n fun es n1=>VQ es fun d1 d2=>kX d1 fun i=>kX d2 fun j=>(-(2 ^ 62) <= i /\ i < 2 ^ 62 /\ -(2 ^ 62) <= j /\ j < 2 ^ 62) /\ P (Wm i (j - i).toNat) n1
@[simp] theorem zG5 {t rho n P}:zB4 t rho n P = t rho n fun es n1=>VQ es fun d1 d2=>kX d1 fun i=>kX d2 fun j=>(-(2 ^ 62) <= i /\ i < 2 ^ 62 /\ -(2 ^ 62) <= j /\ j < 2 ^ 62) /\ P (Wm i (j - i).toNat) n1:=rfl
def UR (i:Nat) (t:TAD):TSD:=fun F rho n=>vV rho[i]? fun es=>t rho n fun ds n1=>∃ fs,ds = [.lst fs] /\ es.length + fs.length <= sizeLine /\ F.nx (rho.set i (some (.own (es ++ fs)))) n1
@[simp] theorem zu2 {i t F rho n}:UR i t F rho n = vV rho[i]? fun es=>t rho n fun ds n1=>∃ fs,ds = [.lst fs] /\ es.length + fs.length <= sizeLine /\ F.nx (rho.set i (some (.own (es ++ fs)))) n1:=rfl
theorem VI {i:Nat} {x:Str} {px apos cpos:Pos} (ha:PAD A X [e] t1) (hK:X.K = A.K) (hN:X.N[i]? = some x:=by rfl) (hv:Vis X.env.scope x:=by first | exact Or.inl rfl | exact Or.inr (Or.inl rfl) | exact Or.inr (Or.inr rfl)) (hd:(x == ("__debug__" : Str)) = false:=by decide)
  (hcd:(x == ("__classdict__" : Str)) = false:=by decide) (hbase:attributeBase (.Name x px) "extend" X.env (eval (.Name x px) X.env) = eval (.Name x px) X.env:=by rfl)
  (hfew : ((backTo cpos (starEach [e] X.env)).all (fun x => !x.1) && (backToKw cpos (keywordEach [] X.env)).all (fun x => x.1.isSome)
   && decide ([e].length + ([]:List Keyword).length + (if ([]:List Keyword).isEmpty then 0 else 1) < 30)) = true:=by rfl)
  (hline:(apos.endLine == cpos.line) = true:=by rfl) (hs:starEach [e] X.env = (false,eval e X.env) :: starEach [] X.env:=by rfl) (hplain:(backTo cpos (starEach [] X.env)).any (·.1) = false:=by rfl)
  (hsw:swapsWith (.Call (.Attribute (.Name x px) "extend" apos) [e] [] cpos) none pos.line X.env = pure false:=by rfl) :
  PSD A X (.Expr (.Call (.Attribute (.Name x px) "extend" apos) [e] [] cpos) pos) (UR i t1):=by
 with_unfolding_all
  exact
   (Wp (Kj PySem.F.plainAttrs_list PySem.F.slot_list_extend PySem.F.type_list_extend KI (vf hN hv hd hcd) ha hbase hfew hline hs hplain) hsw).imp fun E sg H h => by
    obtain ⟨rho,n,F,ds,vs,⟨os,I⟩,⟨es,hi,ht⟩,ok⟩:=h
    obtain ⟨a,xs,e1,hH,rs,_⟩:=I.own (es':=es) (xs':=[]) hi
    refine ⟨.ref a,e1,.inl ⟨rfl,xs,SqL.of hH⟩,rho,n,_,ds,vs,⟨os,I⟩,ht,fun ws H' n' fs ⟨os',J⟩ hl k=>?_⟩
    obtain ⟨gs,rfl,hz,k⟩:=k
    obtain ⟨J1,rs1⟩:=J.split hl
    obtain ⟨v,rfl,r⟩:=yi rs1
    obtain ⟨b,ys,rfl,sq,rr⟩:=r.lst_inv
    obtain ⟨a',xs',e2,hH',rs',up⟩:=J1.own (es':=es) (xs':=[]) hi
    rw [e1] at e2
    cases e2
    exact ⟨a,b,xs',ys,rfl,rfl,hH',sq.2,by rw [rs'.length,rr.length]; exact hz,ok.nx _ _ _ _ ⟨os',up _ _ (rs'.append rr)⟩ k⟩
end
theorem qg:∀ {us:List Value} {ns:List Int},IntsAre us ns -> Vals (ns.map V.int) us
 | _,_,.nil=>.nil
 | _,_,.cons n t h=>.cons ⟨t,rfl⟩ (qg h)
section
variable {X:Cx} {A:AC}
theorem jw:va X (.builtin "sorted") (fun xs H Q=>∃ (p:Addr) (ns:List Int),xs = [.ref p] /\ SqL X.K H p (ns.map V.int) /\ ns.length < 64 /\ ∀ ms:List Int,ms.Perm ns -> ms.Pairwise (· <= ·) -> ∀ l,H l = none -> Q (.ref l) (upd H l (.lst (ms.map V.int)))):=by
  intro pins s σ H xs us Q I r h
  obtain ⟨p,ns,rfl,hq,hn,q⟩:=h
  cases r with
  | cons r rr =>
    cases rr
    cases r
    obtain ⟨its,rv,pl,_⟩:=I.list hq
    have hl:=pl.isList
    have hsz:its.length = ns.length:=by have:=rv.length; simpa using this.symm
    refine sorted_ints hl (kW rv) (by lia) fun out ms hi hp hs=>?_
    obtain ⟨e,he⟩:=sortedAll_at s.heap its out
    have hml:ms.length = ns.length:=hp.length_eq
    have hf:H (s.heap.objs.size + 1) = none:=I.hok.fresh (Nat.le_succ _)
    refine ⟨.ref (s.heap.objs.size + 1),_,I.laid (t':=s.toks) (o:=.lst (ms.map V.int)) (fun b u e=>sortedAll_old e) (Nat.le_succ _) ?_,rfl,q ms hp hs _ hf⟩
    exact ⟨by rw [List.length_map]; exact Nat.le_trans (by lia) (zP (k:=64) (by lia)),out.toList,e,qg hi,he⟩
def zn7:List D -> (D -> Prop) -> Prop:=fun es k=>∃ ns:List Int,es = [.lst (ns.map D.int)] /\ ns.length < 64 /\ ∀ ms:List Int,ms.Perm ns -> ms.Pairwise (· <= ·) -> k (.lst (ms.map D.int))
theorem Xv:xv A (fun xs H Q=>∃ (p:Addr) (ns:List Int),xs = [.ref p] /\ SqL A.K H p (ns.map V.int) /\ ns.length < 64 /\ ∀ ms:List Int,ms.Perm ns -> ms.Pairwise (· <= ·) -> ∀ l,H l = none -> Q (.ref l) (upd H l (.lst (ms.map V.int)))) zn7:=by
  rintro os n rho sg H ds vs es ws k Q I rs ⟨ns,rfl,hn,q⟩ hQ
  obtain ⟨v,rfl,r⟩:=yi rs
  obtain ⟨a,xs,rfl,sq,rr⟩:=r.lst_inv
  have e:=yf rr
  subst e
  exact ⟨a,ns,rfl,sq.sq,hn,fun ms h1 h2 l hl=>hQ _ _ _ ⟨os,I.newLst km hl⟩ (q ms h1 h2)⟩
theorem jx:bootBuiltins "sorted" = some (.builtin "sorted"):=by decide +kernel
end
end L2
namespace L2
open PySem PySem.Spec PyProof.Rows
theorem Zv {x y:Str} {px py pt:Pos} {kt k2 pt2} {a b:Expr} {env:Env} (hk:env.blockKind = .function) (hx:env.kindOf x = some .local) (hy:env.kindOf y = some .local) (hl:py.line = px.line) (hxy:x ≠ y)
  (hsa:yu a = false) (hsb:yu b = false) (hf:[a,b].all (foldedForSure 8) = false) (hc:[a,b].all (constantsAlone 8) = false) :
  swappedStores [.Tuple [.Name x px,.Name y py] kt pt] (.Tuple [a,b] k2 pt2) env = pure (some [x,y]):=by
 have e2:(y == x) = false:=beq_false_of_ne (Ne.symm hxy)
 have e:(Expr.Name x px).pos.line = px.line:=rfl
 unfold swappedStores
 simp [hk,hx,hy,hl,hf,hc,e,List.eraseDups,List.eraseDupsBy,List.eraseDupsBy.loop,e2]
 intro h
 exfalso
 rcases h with h | h
 ·cases a <;> first | (simp at h; done) | (simp [yu] at hsa; done)
 ·cases b <;> first | (simp at h; done) | (simp [yu] at hsb; done)
section
variable {A:AC} {X:Cx} {a b:Expr} {pos:Pos}
theorem Vb {i j:Nat} {x y:Str} {ta:TAD} {px py pt:Pos} {kt k2 pt2} (hc:X.calm = true) (hN:X.N.Nodup) (hi:X.N[i]? = some x) (hj:X.N[j]? = some y) (hij:i ≠ j)
  (hx:X.env.scope.names.lookup x = some .local) (hy:X.env.scope.names.lookup y = some .local) (ha:PAD A X [a,b] ta)
  (hk:X.env.blockKind = .function:=by rfl) (hl:py.line = px.line:=by rfl) (hxy:x ≠ y:=by decide) (hsa:yu a = false:=by rfl) (hsb:yu b = false:=by rfl) (hf:[a,b].all (foldedForSure 8) = false:=by decide +kernel) (hca:[a,b].all (constantsAlone 8) = false:=by decide +kernel) :
  PSD A X (.Assign [.Tuple [.Name x px,.Name y py] kt pt] (.Tuple [a,b] k2 pt2) pos) (zJ2 i j ta):=by
 with_unfolding_all
  exact
   zk5 hc hN hi hj hij hx hy ha (Zv hk hx hy hl hxy hsa hsb hf hca) rfl
end
theorem WZ {A:AC} {X:Cx} {e:Expr} {t:TBD} (h:PTD A X e t):PTs X [e] (VD A t):=by
 with_unfolding_all
  exact zk2 h
end L2
set_option maxRecDepth 100000
namespace L2
open PySem PySem.Spec PyProof.Rows HT
section
variable {prog:Program} {w:World} {A:Around} {E:Value -> Shared -> Prop} {s:Shared}
theorem vZ {t sl:Addr} {items:Array Value} {vl vu:Value} {lo hi:Option Int} {Q:Value -> Shared -> Prop} (ht:IsTup s.heap t items) (hs:s.heap.IsSliceOf sl vl vu .none) (pl:IsPart vl lo) (pu:IsPart vu hi)
  (h1:sIx items.size 0 lo = 0) (h2:sIx items.size items.size hi = items.size) (h:Q (.ref t) s):wpAny (model prog w) A (getItem (.ref t) (.ref sl)) Q E s:=by
 obtain ⟨os,hos,hcs,hds⟩:=id hs
 have hTs:s.TypeIs (.ref sl) "slice" := ⟨os,hos,hcs⟩
 unfold getItem
 try with_reducible refine wpAny_holding ?_
 first | refine wpAny_bind (wpAny_pure ?_) | skip
 refine wpAny_bind (wpAny_sequenceKey ht.typeIs (by decide) ?_)
 refine wpAny_bind (wpAny_callSpecial?_slot (name:=Str.ofString "__getitem__") ht.typeIs PyProof.Rows.slot_tuple_getitem
  (wpAny_call_entry PyProof.Rows.slot_tuple_getitem ht.typeIs entry_tuple_getitem ?_ (args_tuple_getitem _ _)))
 show wpAny _ _ (Builtin.Tuple.tupleItemsOf (.ref t) >>= _) _ _ s
 refine wpAny_bind (tupleItemsOf_ ht ?_)
 refine wpAny_bind (wpAny_typeOf hTs ?_)
 rw [if_pos (by decide)]
 refine wpAny_bind (yV hs pl pu ?_)
 have hyes:((((sIx items.size 0 lo:Nat):Int) == 0 && (1:Int) == 1 && (sIx items.size items.size hi - sIx items.size 0 lo) == items.size) = true):=by
  rw [h1,h2]; simp
 show wpAny _ _ (if (((sIx items.size 0 lo:Nat):Int) == 0 && (1:Int) == 1 && (sIx items.size items.size hi - sIx items.size 0 lo) == items.size) = true then _ else _) _ _ s
 rw [if_pos hyes]
 obtain ⟨⟨cls,dd,data,sl'⟩,ho,hc,n,hd⟩:=id ht
 simp only at hc hd
 subst hc hd
 unfold Builtin.Tuple.tupleIsExact
 obtain ⟨hp,g,d,tk,os'⟩:=s
 wp_walk
 exact ⟨_,rfl,wpAny_pure h⟩
end
section
variable {X:Cx}
def zK2 (K:PySem.W.Frag):V -> Option Int -> Option Int -> Hp -> VK -> Prop:=fun x lo hi H Q=>∃ a xs,x = .ref a /\ SqT K H a xs /\
 ((HT.sIx xs.length 0 lo = 0 /\ HT.sIx xs.length xs.length hi = xs.length) -> Q (.ref a) H) /\ (¬ (HT.sIx xs.length 0 lo = 0 /\ HT.sIx xs.length xs.length hi = xs.length) -> ∀ p,H p = none -> Q (.ref p) (upd H p (.tup (zd4 xs lo hi))))
theorem zi6:SlR X (zK2 X.K):=by
 intro pins s σ H x v vl vu lo hi sl Q I rx hs pl pu h
 obtain ⟨a,xs,rfl,hx,q1,q2⟩:=h
 by_cases hw:HT.sIx xs.length 0 lo = 0 /\ HT.sIx xs.length xs.length hi = xs.length
 ·cases rx
  obtain ⟨its,r,ht,hz⟩:=I.tuple hx
  have hlen:its.toArray.size = xs.length:=by rw [List.size_toArray]; exact r.length.symm
  refine ⟨"tuple",_,PyProof.Rows.slot_tuple_getitem.lookup,ht.typeIs,?_⟩
  exact vZ ht hs pl pu (by rw [hlen]; exact hw.1) (by rw [hlen]; exact hw.2) ⟨.ref a,H,I,rfl,q1 hw⟩
 ·exact zr9 pins s σ H (.ref a) v vl vu lo hi sl Q I rx hs pl pu ⟨a,xs,rfl,hx,hw,q2 hw⟩
end
abbrev TOD:=Rho -> Nat -> (Option Int -> Nat -> Prop) -> Prop
def oOf (A:AC) (t:TOD):TO:=fun sg H Q=>∃ rho n P ds vs,Am A n rho sg H ds vs /\ t rho n P /\ ∀ o H' n',Am A n' rho sg H' ds vs -> P o n' -> Q o H'
@[irreducible] def POD (A:AC) (X:Cx) (e:Option Expr) (t:TOD):Prop:=PO X e (oOf A t)
theorem PO.imp {X:Cx} {e:Option Expr} {t t':TO} (h:PO X e t) (hi:∀ sg H Q,t' sg H Q -> t sg H Q):PO X e t':=fun pins s sg H Q I q=>h pins s sg H Q I (hi _ _ _ q)
section
variable {A:AC} {X:Cx} {a b c e:Expr} {es:List Expr} {te ta tb tc:TD} {t1:TAD} {pos p:Pos}
def zy6:TOD:=fun _ n P=>P none n
def zy5 (t:TD):TOD:=fun rho n P=>t rho n fun d n1=>kX d fun i=>P (some i) n1
@[simp] theorem zN9 {rho n P}:zy6 rho n P = P none n:=rfl
@[simp] theorem zN8 {t rho n P}:zy5 t rho n P = t rho n fun d n1=>kX d fun i=>P (some i) n1:=rfl
theorem ZH:POD A X none zy6:=by
 with_unfolding_all
  exact po_none.imp fun sg H Q h=>by
   obtain ⟨rho,n,P,ds,vs,I,h,hQ⟩:=h
   exact hQ none H n I h
theorem ZG (h:PD A X e te):POD A X (some e) (zy5 te):=by
 with_unfolding_all
  exact (Ke h).imp fun sg H Q h=>by
   obtain ⟨rho,n,P,ds,vs,I,h,hQ⟩:=h
   refine ⟨rho,n,_,ds,vs,I,h,fun v H' n' d ⟨os,J⟩ k=>?_⟩
   obtain ⟨i,rfl,k⟩:=k
   obtain ⟨J1,r⟩:=J.pop
   exact ⟨i,r.int_inv,hQ _ H' n' ⟨os,J1⟩ k⟩
def XW (d:D) (k:List D -> Prop):Prop:=∃ fs,d = .tup fs /\ k fs
@[simp] theorem zK5 {fs:List D} {k}:XW (.tup fs) k ↔ k fs:=⟨fun ⟨_,e,h⟩=>by cases e; exact h,fun h=>⟨_,rfl,h⟩⟩
def xb5 (ta:TD) (tl th:TOD):TD:=fun rho n P=>ta rho n fun d n1=>tl rho n1 fun lo n2=>th rho n2 fun hi n3=>XW d fun fs=>P (.tup (Ym fs lo hi)) n3
@[simp] theorem zY1 {ta tl th rho n P}:xb5 ta tl th rho n P = ta rho n fun d n1=>tl rho n1 fun lo n2=>th rho n2 fun hi n3=>XW d fun fs=>P (.tup (Ym fs lo hi)) n3:=rfl
theorem JA {fs:List D} {lo hi:Option Int} (h:HT.sIx fs.length 0 lo = 0 /\ HT.sIx fs.length fs.length hi = fs.length):Ym fs lo hi = fs:=by
 unfold Ym
 rw [h.1,h.2,List.drop_zero,Nat.sub_zero,List.take_length]
theorem zw8 {le he:Option Expr} {tl th:TOD} {p2:Pos} (hK:X.K = A.K) (ha:PD A X a ta) (hl:POD A X le tl) (hh:POD A X he th):PD A X (.Subscript a (.Slice le he none p2) pos) (xb5 ta tl th):=by
 with_unfolding_all
  exact (Ve zi6 ha hl hh).imp fun sg H Q h=>by
   obtain ⟨rho,n,P,ds,vs,I,ht,hQ⟩:=h
   refine ⟨rho,n,_,ds,vs,I,ht,fun v H1 n1 d J1 h1=>⟨rho,n1,_,_,_,J1,h1,fun lo H2 n2 J2 h2=>⟨rho,n2,_,_,_,J2,h2,fun hi H3 n3 ⟨os,J3⟩ h3=>?_⟩⟩⟩
   obtain ⟨fs,rfl,k⟩:=h3
   obtain ⟨J4,r⟩:=J3.pop
   have r':=r
   obtain ⟨l,xs,rfl,sq,rs⟩:=r.tup_inv
   rw [hK]
   have hlen:xs.length = fs.length:=rs.length
   refine ⟨l,xs,rfl,sq.sq,fun hw=>?_,fun hw p hp=>hQ _ _ n3 _ ⟨os,J4.newTup (ZE rs lo hi) hp⟩ k⟩
   rw [hlen] at hw
   rw [JA hw] at k
   exact hQ _ H3 n3 _ ⟨os,J4.push r'⟩ k
def jO:D -> Bool
 | .non=>true | .bl _=>true | .int _=>true | .str _=>true | _=>false
def inD (x:D) (es:List D):Bool:=es.any fun y=>eqD y x
theorem Jk {K:PySem.W.Frag} {G:Option Addr} {Z:Addr -> Prop} {H:Hp} {d:D} {v:V} (h:jO d = true) (r:Rep K G Z H d v):v = ofS d /\ jN v = true:=by
 cases d <;> first | (have e:=r.toS rfl; subst e; exact ⟨rfl,rfl⟩) | (simp [jO] at h; done)
theorem zT7 {x y:D} (hx:jO x = true) (hy:jO y = true):eqV (ofS y) (ofS x) = eqD y x:=by
 cases x <;> cases y <;> first | (simp [jO] at hx; done) | (simp [jO] at hy; done) | (simp [eqV,eqD,ofS]; done) | (simp [eqV,eqD,ofS]; rfl)
theorem zo3 {K:PySem.W.Frag} {G:Option Addr} {Z:Addr -> Prop} {H:Hp} {x:D} (hx:jO x = true):∀ {es:List D} {vs:List V},es.all jO = true -> Reps K G Z H es vs -> inV (ofS x) vs = inD x es /\ vs.all jN = true
 | [],vs,_,r=>by rw [r.nil_inv]; exact ⟨rfl,rfl⟩
 | d :: es, vs, h, r => by
  rw [List.all_cons,Bool.and_eq_true] at h
  obtain ⟨v,w,rfl,q,t⟩:=r.split
  obtain ⟨e,f⟩:=Jk h.1 q
  obtain ⟨e2,f2⟩:=zo3 hx h.2 t
  subst e
  constructor
  ·unfold inV inD at e2 ⊢
   rw [List.any_cons,List.any_cons,e2,zT7 hx h.1]
  ·rw [List.all_cons,f,f2]; rfl
def zV4 (neg:Bool):RD2:=fun d1 d2 k=>jO d1 = true /\ ∃ es,(d2 = .tup es \/ d2 = .lst es) /\ es.all jO = true /\ k (.bl (if neg then !inD d1 es else inD d1 es))
theorem zJ7 {neg:Bool}:yo A (rIn A.K neg) (zV4 neg):=by
 rintro os n rho sg H ds vs d1 d2 v1 v2 k Q I ⟨h1,es,hd,hf,q⟩ hQ
 obtain ⟨I1,r2⟩:=I.pop
 obtain ⟨I2,r1⟩:=I1.pop
 obtain ⟨e1,f1⟩:=Jk h1 r1
 subst e1
 rcases hd with rfl | rfl
 ·obtain ⟨a, xs, e, sq, rs⟩ := r2.tup_inv
  obtain ⟨z1,z2⟩:=zo3 h1 hf rs
  exact ⟨a,xs,e,.inr sq.sq,f1,z2,by rw [z1]; exact hQ _ H _ ⟨os,I2.push (Rep.ofS rfl)⟩ q⟩
 ·obtain ⟨a, xs, e, sq, rs⟩ := r2.lst_inv
  obtain ⟨z1,z2⟩:=zo3 h1 hf rs
  exact ⟨a,xs,e,.inl sq.sq,f1,z2,by rw [z1]; exact hQ _ H _ ⟨os,I2.push (Rep.ofS rfl)⟩ q⟩
end
end L2
namespace L2
open PySem PySem.Spec PyProof.Rows
section
variable {A:AC} {X:Cx} {a b c e:Expr} {es:List Expr} {te ta tb tc:TD} {t1:TAD} {pos p:Pos}
end
section
variable {A:AC} {X:Cx}
end
end L2
namespace L2
open PySem PySem.Spec PyProof.Rows
section
variable {A:AC} {X:Cx} {pos p:Pos}
def xj2 (t:TF):TD:=fun _ n P=>t [] n P
@[simp] theorem zY8 {t rho n P}:xj2 t rho n P = t [] n P:=rfl
end
end L2
set_option maxRecDepth 100000
namespace L2
open PySem PySem.Spec PyProof.Rows
section
variable {A:AC} {X:Cx} {a b e:Expr} {ta tb:TD} {pos p:Pos}
def Qy (i:Nat) (ta tb:TD):TSD:=fun F rho n=>i < rho.length /\ ta rho n fun d1 n1=>tb rho n1 fun d2 n2=>Wx d1 fun es=>Wx d2 fun fs=>es.length + fs.length <= sizeLine /\ F.nx (rho.set i (some (.own (es ++ fs)))) n2
@[simp] theorem zq1 {i ta tb F rho n}:Qy i ta tb F rho n = (i < rho.length /\ ta rho n fun d1 n1=>tb rho n1 fun d2 n2=>Wx d1 fun es=>Wx d2 fun fs=>es.length + fs.length <= sizeLine /\ F.nx (rho.set i (some (.own (es ++ fs)))) n2):=rfl
def xh7:List D -> (D -> Prop) -> Prop:=fun es k=>∃ i:Int,es = [.int i] /\ i.natAbs.log2 < 1920 /\ k (.str (toString i))
@[simp] theorem zX3 {i:Int} {k}:xh7 [.int i] k ↔ (i.natAbs.log2 < 1920 /\ k (.str (toString i))):=⟨fun ⟨_,e,h⟩=>by cases e; exact h,fun h=>⟨_,rfl,h⟩⟩
end
end L2
namespace L2
open PySem PySem.Spec PyProof.Rows HT
section
variable {prog:Program} {w:World} {A:Around} {E:Value -> Shared -> Prop} {s:Shared}
end
section
variable {X:Cx} {e:Expr} {te:TE} {pos p2:Pos}
end
section
variable {A:AC} {X:Cx} {a:Expr} {ta:TD} {pos p2 p3 p4:Pos}
def xi7 (ta:TD):TD:=fun rho n P=>ta rho n fun d n1=>XW d fun fs=>P (.tup fs.reverse) n1
@[simp] theorem zY3 {ta rho n P}:xi7 ta rho n P = ta rho n fun d n1=>XW d fun fs=>P (.tup fs.reverse) n1:=rfl
end
end L2
set_option maxRecDepth 100000
namespace L2
open PySem PySem.Spec PyProof.Rows PySem.W PySem.Calls PySem.NumText
section
variable {A:AC} {X:Cx} {e:Expr} {te:TD} {pos:Pos}
def ze8 (tc:TBD) (tb:TSD):TSD:=fun F rho n=>∃ J:Nat -> Rho -> Nat -> Prop,(∃ m,J m rho n) /\ ∀ m rho n,J m rho n -> tc rho n fun b n1=>if b = true then tb { F with nx:=fun rho' n'=>∃ m',m' < m /\ J m' rho' n',ct:=fun rho' n'=>∃ m',m' < m /\ J m' rho' n',bk:=F.nx } rho n1 else F.nx rho n1
theorem YL {c:Expr} {body:List Stmt} {tc:TBD} {tb:TSD} (hp:PassesOwn (model X.prog X.w) X.A X.env X.xe) (hc:PTD A X c tc) (hb:Um A X body tb):PSD A X (.While c body [] pos) (ze8 tc tb):=by
 with_unfolding_all
  exact (QM hp hc hb).imp fun E sg H h=>by
   obtain ⟨rho,n,F,ds,vs,I,⟨J,⟨m0,j0⟩,turn⟩,ok⟩:=h
   refine ⟨fun m sg H=>∃ rho n,Am A n rho sg H ds vs /\ J m rho n,⟨m0,rho,n,I,j0⟩,?_⟩
   rintro m sg1 H1 ⟨rho1,n1,I1,j1⟩
   refine ⟨rho1,n1,_,ds,vs,I1,turn m rho1 n1 j1,fun b H2 n2 I2 k=>?_⟩
   cases b with
   | true =>
    rw [if_pos rfl] at k ⊢
    refine ⟨fun sg' H'=>∃ m',m' < m /\ ∃ rho n,Am A n rho sg' H' ds vs /\ J m' rho n,fun sg' H' ⟨m',hm,q⟩=>⟨m',hm,q⟩,rho1,n2,_,ds,vs,I2,k,?_⟩
    exact ⟨fun rho6 n6 sg6 H6 I6 ⟨m',hm,k6⟩=>⟨m',hm,rho6,n6,I6,k6⟩,fun d n6 v rho6 sg6 H6 I6 k6=>ok.rt _ _ _ _ _ _ I6 k6,fun rho6 n6 sg6 H6 I6 k6=>ok.nx _ _ _ _ I6 k6,fun rho6 n6 sg6 H6 I6 ⟨m',hm,k6⟩=>⟨m',hm,rho6,n6,I6,k6⟩⟩
   | false =>
    rw [if_neg Bool.false_ne_true] at k ⊢
    exact ok.nx _ _ _ _ I2 k
@[simp] theorem zD7 {tc tb F rho n}:ze8 tc tb F rho n = ∃ J:Nat -> Rho -> Nat -> Prop,(∃ m,J m rho n) /\ ∀ m rho n,J m rho n -> tc rho n fun b n1=>if b = true then tb { F with nx:=fun rho' n'=>∃ m',m' < m /\ J m' rho' n',ct:=fun rho' n'=>∃ m',m' < m /\ J m' rho' n',bk:=F.nx } rho n1 else F.nx rho n1:=rfl
def zJ6 (f:Int -> Int -> Int) (i:Nat) (te:TD):TSD:=fun F rho n=>i < rho.length /\ ∃ a:Int,rho[i]? = some (some (.int a)) /\ te rho n fun d n1=>∃ b:Int,d = .int b /\ F.nx (rho.set i (some (.int (f a b)))) n1
@[simp] theorem zM2 {f i te F rho n}:zJ6 f i te F rho n = (i < rho.length /\ ∃ a:Int,rho[i]? = some (some (.int a)) /\ te rho n fun d n1=>∃ b:Int,d = .int b /\ F.nx (rho.set i (some (.int (f a b)))) n1):=rfl
def zt7:RD2:=fun d1 d2 k=>∃ x y,d1 = .str x /\ d2 = .str y /\ x.length + y.length <= sizeLine /\ k (.str (x ++ y))
@[simp] theorem zE9 {x y k}:zt7 (.str x) (.str y) k ↔ (x.length + y.length <= sizeLine /\ k (.str (x ++ y))):=⟨fun ⟨_,_,e,e',h⟩=>by cases e; cases e'; exact h,fun h=>⟨_,_,rfl,rfl,h⟩⟩
def zt4:RD2:=fun d1 d2 k=>∃ x i,d1 = .str x /\ d2 = .int i /\ MulOk x i /\ k (.str (Txt.mul x i))
@[simp] theorem zE5 {x i k}:zt4 (.str x) (.int i) k ↔ (MulOk x i /\ k (.str (Txt.mul x i))):=⟨fun ⟨_,_,e,e',h⟩=>by cases e; cases e'; exact h,fun h=>⟨_,_,rfl,rfl,h⟩⟩
end
section
variable {A:AC} {X:Cx}
end
end L2
set_option maxRecDepth 100000
namespace L2
open PySem PySem.Spec PyProof.Rows
end L2
set_option maxRecDepth 100000
namespace L2
open PySem PySem.Spec PyProof.Rows PySem.W PySem.Calls
section
variable {X:Cx} {pos:Pos}
end
section
variable {A:AC} {X:Cx} {a b c:Expr} {pos:Pos}
def zJ1 (i j k:Nat) (t:TAD):TSD:=fun F rho n=>i < rho.length /\ j < rho.length /\ k < rho.length /\ t rho n fun es n1=>∃ d d' d2,es = [d,d',d2] /\ F.nx (((rho.set k (some d2)).set j (some d')).set i (some d)) n1
@[simp] theorem zL8 {i j k t F rho n}:zJ1 i j k t F rho n = (i < rho.length /\ j < rho.length /\ k < rho.length /\ t rho n fun es n1=>∃ d d' d2,es = [d,d',d2] /\ F.nx (((rho.set k (some d2)).set j (some d')).set i (some d)) n1):=rfl
end
end L2
set_option maxRecDepth 100000
namespace L2.Srt
open PySem PyProof.Rows
def lab (ls:Array Nat) (i:Nat):Nat:=ls.getD i 0
structure Rule (prog:Program) (w:World) (A:Around) (s:Shared) (n:Nat) (item:Nat -> Keyed) (kd:SortKind) (r:Nat -> Nat -> Bool):Prop where
 tot:∀ a b,a < n -> b < n -> a ≠ b -> r a b = !r b a
 tr:∀ a b c,a < n -> b < n -> c < n -> r a b = true -> r b c = true -> r a c = true
 cmp:∀ a b,a < n -> b < n -> a ≠ b -> ∀ (E:Value -> Shared -> Prop) (Q:Bool -> Shared -> Prop),Q (r a b) s -> wpAny (model prog w) A (keyLt' kd (item a).1 (item b).1) Q E s
structure Now (n:Nat) (item:Nat -> Keyed) (kd:SortKind) (ls:Array Nat) (t:SortSt):Prop where
 arr:arrOf t = ls.map item
 kd:kindOf t = kd
 ok:failedOf t = none
 pend:pendingOf t = #[]
 perm:ls.Perm (Array.range n)
def Up (r:Nat -> Nat -> Bool) (ls:Array Nat) (k:Nat):Prop:=∀ i j,i < j -> j < k -> r (lab ls i) (lab ls j) = true
def zH9 (r:Nat -> Nat -> Bool) (ls:Array Nat) (k:Nat):Prop:=∀ i j,i < j -> j < k -> r (lab ls j) (lab ls i) = true
section
variable {n:Nat} {item:Nat -> Keyed} {kd:SortKind} {r:Nat -> Nat -> Bool} {ls:Array Nat} {t:SortSt}
theorem Now.size (N:Now n item kd ls t):ls.size = n:=by rw [N.perm.size_eq,Array.size_range]
theorem Now.nodup (N:Now n item kd ls t):ls.toList.Nodup:=(Array.perm_iff_toList_perm.mp N.perm).nodup_iff.mpr (by rw [Array.toList_range]; exact List.nodup_range)
theorem yA {i:Nat} (h:i < ls.size):ls[i]? = some (lab ls i):=by
 unfold lab
 rw [Array.getD_eq_getD_getElem?,Array.getElem?_eq_getElem h]; rfl
theorem Now.lt (N:Now n item kd ls t) {i:Nat} (h:i < n):lab ls i < n:=by
 have e:=yA (ls:=ls) (i:=i) (by rw [N.size]; exact h)
 have m:lab ls i ∈ ls:=Array.mem_of_getElem? e
 have m2:lab ls i ∈ Array.range n:=(N.perm.mem_iff).mp m
 rwa [Array.mem_range] at m2
theorem Now.ne (N:Now n item kd ls t) {i j:Nat} (hi:i < n) (hj:j < n) (h:i ≠ j):lab ls i ≠ lab ls j:=fun e=>by
 have hi':i < ls.toList.length:=by rw [Array.length_toList,N.size]; exact hi
 have hj':j < ls.toList.length:=by rw [Array.length_toList,N.size]; exact hj
 have e1:=yA (ls:=ls) (i:=i) (by rw [N.size]; exact hi)
 have e2:=yA (ls:=ls) (i:=j) (by rw [N.size]; exact hj)
 rw [<- Array.getElem?_toList,List.getElem?_eq_getElem hi'] at e1
 rw [<- Array.getElem?_toList,List.getElem?_eq_getElem hj'] at e2
 have f:=List.pairwise_iff_getElem.mp N.nodup
 rcases Nat.lt_or_gt_of_ne h with g | g
 ·exact f i j hi' hj' g (by rw [Option.some.inj e1,Option.some.inj e2,e])
 ·exact f j i hj' hi' g (by rw [Option.some.inj e1,Option.some.inj e2,e])
theorem kU {as:Array Nat} {k v:Nat} (h:as[k]? = some v):lab as k = v:=by
 unfold lab
 rw [Array.getD_eq_getD_getElem?,h]; rfl
theorem JQ {src d:Nat} (hs:src < ls.size) (hd:d <= src) {k:Nat} (hk:k < ls.size):lab (bubble ls src d) k = if k = src - d then lab ls src else if src - d < k /\ k <= src then lab ls (k - 1) else lab ls k:=by
 refine kU ?_
 rw [getElem?_bubble hs d hd k]
 split
 ·exact yA hs
 ·split
  ·exact yA (by lia)
  ·exact yA hk
theorem zp3 {src d:Nat} (hs:src < ls.size) (hd:d <= src):bubble (ls.map item) src d = (bubble ls src d).map item:=by
 refine Array.ext_getElem? fun k=>?_
 rw [getElem?_bubble (by simpa using hs) d hd k]
 simp only [Array.getElem?_map]
 rw [getElem?_bubble hs d hd k]
 split
 ·rfl
 ·split <;> rfl
theorem KJ {i j:Nat} (hj:j <= ls.size) {k:Nat} (hk:k < ls.size):lab (mirror ls i j ((j - i) / 2)) k = if i <= k /\ k < j then lab ls (i + j - 1 - k) else lab ls k:=by
 refine kU ?_
 rw [getElem?_mirror_all hj k]
 split
 ·exact yA (by lia)
 ·exact yA hk
theorem zn0 {i j:Nat} (hj:j <= ls.size):mirror (ls.map item) i j ((j - i) / 2) = (mirror ls i j ((j - i) / 2)).map item:=by
 refine Array.ext_getElem? fun k=>?_
 rw [getElem?_mirror_all (by simpa using hj) k]
 simp only [Array.getElem?_map]
 rw [getElem?_mirror_all hj k]
 split <;> rfl
theorem Now.bub (N:Now n item kd ls t) {src d:Nat} (hs:src < n) (hd:d <= src):Now n item kd (bubble ls src d) (setArr t (bubble (arrOf t) src d)) :=
 ⟨by show bubble (arrOf t) src d = _; rw [N.arr]; exact zp3 (by rw [N.size]; exact hs) hd,N.kd,N.ok,N.pend,(bubble_perm _ _ _).trans N.perm⟩
theorem Now.mir (N:Now n item kd ls t) {i j:Nat} (hj:j <= n):Now n item kd (mirror ls i j ((j - i) / 2)) (setArr t (mirror (arrOf t) i j ((j - i) / 2))) :=
 ⟨by show mirror (arrOf t) i j _ = _; rw [N.arr]; exact zn0 (by rw [N.size]; exact hj),N.kd,N.ok,N.pend,(mirror_perm _ _ _ _).trans N.perm⟩
end
section
variable {prog:Program} {w:World} {A:Around} {E:Value -> Shared -> Prop} {s:Shared} {n:Nat} {item:Nat -> Keyed} {kd:SortKind} {r:Nat -> Nat -> Bool} {ls:Array Nat} {t:SortSt}
theorem JX (R:Rule prog w A s n item kd r) (N:Now n item kd ls t) {i j:Nat} (hi:i < n) (hj:j < n) (hij:i ≠ j) {Q:Option Bool -> SortSt -> Prop} (q:Q (some (r (lab ls i) (lab ls j))) t):wpS (model prog w) A E s (ltAt' i j) Q t:=by
 have gi:(arrOf t)[i]? = some (item (lab ls i)):=by rw [N.arr,Array.getElem?_map,yA (by rw [N.size]; exact hi)]; rfl
 have gj:(arrOf t)[j]? = some (item (lab ls j)):=by rw [N.arr,Array.getElem?_map,yA (by rw [N.size]; exact hj)]; rfl
 rw [ltAt'_eq]
 refine wpS_bind (wpS_get ?_)
 show wpS (model prog w) A E s (elem' (arrOf t) i >>= fun x=>elem' (arrOf t) j >>= fun y=>lt' x y) Q t
 rw [elem'_eq,elem'_eq,gi,gj]
 refine wpS_bind (wpS_pure (wpS_bind (wpS_pure ?_)))
 rw [lt'_eq]
 refine wpS_bind (wpS_get (wpS_bind (wpS_lift (wpAny_attempt ?_))))
 rw [N.kd]
 exact R.cmp _ _ (N.lt hi) (N.lt hj) (N.ne hi hj hij) _ _ ⟨rfl,wpS_pure q⟩
theorem asc (R:Rule prog w A s n item kd r) (N:Now n item kd ls t) {a:Nat} (h1:1 <= a) (ha:a <= n) (U:Up r ls a) {Q:AscSt -> SortSt -> Prop} (q:∀ m,a <= m -> m <= n -> Up r ls m -> (m < n -> r (lab ls m) (lab ls (m - 1)) = true) -> Q (none,m) t):wpS (model prog w) A E s (ascLoop a n) Q t:=by
 unfold ascLoop
 refine wpS_forRange (fun x c t'=>t' = t /\ c = (none,x) /\ Up r ls x) ?_ ?_ ⟨rfl,rfl,U⟩
 ·rintro x c t' hx hn ⟨e, e', V⟩
  subst e e'
  refine wpS_bind (JX R N hn (by show x - 1 < n; lia) (by show x ≠ x - 1; lia) ?_)
  cases z:r (lab ls x) (lab ls (x - 1))
  ·refine wpS_pure ⟨rfl, rfl, fun i j hij hj => ?_⟩
   by_cases hjx:j < x
   ·exact V i j hij hjx
   ·obtain rfl : j = x := by lia
    have up:r (lab ls (j - 1)) (lab ls j) = true:=by rw [R.tot _ _ (N.lt (by lia)) (N.lt hn) (N.ne (by lia) hn (by lia)),z]; rfl
    by_cases hi:i = j - 1
    ·rw [hi]; exact up
    ·exact R.tr _ _ _ (N.lt (by lia)) (N.lt (by lia)) (N.lt hn) (V i (j - 1) (by lia) (by lia)) up
  ·exact wpS_pure (q x hx (by lia) V fun _=>z)
 ·rintro c t' ⟨e, e', V⟩
  subst e e'
  have:max a n = n:=by lia
  rw [this] at V ⊢
  exact q n ha (Nat.le_refl n) V fun h=>absurd h (Nat.lt_irrefl n)
theorem turned (R:Rule prog w A s n item kd r) (N:Now n item kd ls t) {a:Nat} (h1:1 <= a) (ha:a <= n) (V:zH9 r ls a) {Q:Option Nat -> SortSt -> Prop} (q:∀ m ls' t',1 <= m -> m <= n -> Now n item kd ls' t' -> Up r ls' m -> Q (some m) t'):wpS (model prog w) A E s (tail3 a n) Q t:=by
 unfold tail3
 refine wpS_bind (wpS_reverse ?_)
 have N':=N.mir (i:=0) ha
 have hsz:=N.size
 refine wpS_bind (asc R N' h1 ha (fun i j hij hj=>?_) fun m h2 h3 U _=>wpS_pure (q m _ _ (by lia) h3 N' U))
 rw [KJ (by lia) (by lia),KJ (by lia) (by lia),if_pos (by lia),if_pos (by lia)]
 exact V _ _ (by lia) (by lia)
theorem zo6 (R:Rule prog w A s n item kd r) (N:Now n item kd ls t) {a:Nat} (h1:1 <= a) (ha:a <= n) (V:zH9 r ls a) {Q:DescSt -> SortSt -> Prop} (q:∀ m,a <= m -> m <= n -> zH9 r ls m -> Q (none,m,0) t):wpS (model prog w) A E s (descLoop a n) Q t:=by
 unfold descLoop
 refine wpS_forRange (fun x c t'=>t' = t /\ c = (none,x,0) /\ zH9 r ls x) ?_ ?_ ⟨rfl,rfl,V⟩
 ·rintro x c t' hx hn ⟨e, e', W⟩
  subst e e'
  refine wpS_bind (JX R N hn (by show x - 1 < n; lia) (by show x ≠ x - 1; lia) ?_)
  cases z:r (lab ls x) (lab ls (x - 1))
  ·have up : r (lab ls (x - 1)) (lab ls x) = true := by rw [R.tot _ _ (N.lt (by lia)) (N.lt hn) (N.ne (by lia) hn (by lia)), z]; rfl
   refine wpS_bind (JX R N (by show x - 1 < n; lia) hn (by show x - 1 ≠ x; lia) ?_)
   rw [up]
   exact wpS_pure (q x hx (by lia) W)
  ·refine wpS_pure ⟨rfl, rfl, fun i j hij hj => ?_⟩
   by_cases hjx:j < x
   ·exact W i j hij hjx
   ·obtain rfl : j = x := by lia
    by_cases hi:i = j - 1
    ·rw [hi]; exact z
    ·exact R.tr _ _ _ (N.lt hn) (N.lt (by lia)) (N.lt (by lia)) z (W i (j - 1) (by lia) (by lia))
 ·rintro c t' ⟨e, e', W⟩
  subst e e'
  have:max a n = n:=by lia
  rw [this] at W ⊢
  exact q n ha (Nat.le_refl n) W
theorem run (R:Rule prog w A s n item kd r) (N:Now n item kd ls t) (h1:1 <= n) {Q:Option Nat -> SortSt -> Prop} (q:∀ m ls' t',1 <= m -> m <= n -> Now n item kd ls' t' -> Up r ls' m -> Q (some m) t'):wpS (model prog w) A E s (countRun' 0 n) Q t:=by
 rw [countRun0_eq]
 refine wpS_bind (asc R N (Nat.le_refl 1) h1 (fun i j hij hj=>by lia) fun m h2 h3 U hm=>?_)
 show wpS (model prog w) A E s (if (m == n) = true then _ else if m > 1 then _ else _) Q t
 by_cases e:m = n
 ·rw [if_pos (by simpa using e)]
  exact wpS_pure (q m _ _ h2 h3 N U)
 ·rw [if_neg (by simpa using e)]
  by_cases g:m > 1
  ·rw [if_pos g]
   refine wpS_bind (JX R N (by lia) (by lia) (by lia) ?_)
   rw [U 0 (m - 1) (by lia) (by lia)]
   exact wpS_pure (q m _ _ h2 h3 N U)
  ·rw [if_neg g]
   obtain rfl:m = 1:=by lia
   unfold descPart
   refine wpS_bind (wpS_lift (wpAny_rule ⟨rfl,?_⟩))
   refine wpS_bind (zo6 R N (by lia) (by lia) (fun i j hij hj=>?_) fun k h4 h5 W=>?_)
   ·obtain ⟨rfl, rfl⟩ : i = 0 /\ j = 1 := by lia
    exact hm (by lia)
   ·show wpS (model prog w) A E s (if 0 > 0 then _ else tail3 k n) Q t
    rw [if_neg (Nat.lt_irrefl 0)]
    exact turned R N (by lia) h5 W q
theorem zR1 (R:Rule prog w A s n item kd r) (N:Now n item kd ls t) {m:Nat} (hm:m <= n) (U:Up r ls m) {Q:Bool -> SortSt -> Prop} (q:∀ ls' t',Now n item kd ls' t' -> Up r ls' n -> Q true t'):wpS (model prog w) A E s (binarySort' 0 n m) Q t:=by
 rw [binarySort'_eq]
 simp only [Nat.zero_add]
 refine wpS_bind (wpS_mono (wpS_forRange (fun k c t'=>c = (none,()) /\ ∃ ls',Now n item kd ls' t' /\ Up r ls' (min k n)) (Q:=fun c t'=>c = (none,()) /\ ∃ ls',Now n item kd ls' t' /\ Up r ls' n) ?_ ?_ ⟨rfl,ls,N,fun i j hij hj=>U i j hij (by lia)⟩) ?_)
 ·rintro k c t' hk hn ⟨rfl, ls', N', U'⟩
  have ek:min k n = k:=by lia
  rw [ek] at U'
  have hsz:=N'.size
  refine wpS_bind (wpS_mono (wpS_forRange (fun x c t2=>t2 = t' /\ ∃ l h,c = (none,l,h) /\ l <= h /\ h <= k /\ h - l <= k - x /\ (∀ i,i < l -> r (lab ls' i) (lab ls' k) = true) /\ ∀ i,h <= i -> i < k -> r (lab ls' k) (lab ls' i) = true)
   (Q:=fun c t2=>t2 = t' /\ ∃ l h,c = (none,l,h) /\ l <= k /\ (∀ i,i < l -> r (lab ls' i) (lab ls' k) = true) /\ ∀ i,l <= i -> i < k -> r (lab ls' k) (lab ls' i) = true) ?_ ?_ ⟨rfl,0,k,rfl,by lia,by lia,by lia,fun i hi=>by lia,fun i h1 h2=>by lia⟩) ?_)
  ·rintro x c t2 _ hx ⟨rfl, l, h, rfl, g1, g2, g3, g4, g5⟩
   dsimp only
   by_cases hd:l >= h
   ·rw [if_pos hd]
    exact wpS_pure ⟨rfl,l,h,rfl,by lia,g4,fun i i1 i2=>g5 i (by lia) i2⟩
   ·rw [if_neg hd]
    refine wpS_bind (JX R N' hn (by lia) (by lia) ?_)
    cases z:r (lab ls' k) (lab ls' ((l + h) / 2))
    ·have up : r (lab ls' ((l + h) / 2)) (lab ls' k) = true := by rw [R.tot _ _ (N'.lt (by lia)) (N'.lt hn) (N'.ne (by lia) hn (by lia)), z]; rfl
     refine wpS_pure ⟨rfl,(l + h) / 2 + 1,h,rfl,by lia,by lia,by lia,fun i hi=>?_,g5⟩
     by_cases e:i = (l + h) / 2
     ·rw [e]; exact up
     ·exact R.tr _ _ _ (N'.lt (by lia)) (N'.lt (by lia)) (N'.lt hn) (U' i _ (by lia) (by lia)) up
    ·refine wpS_pure ⟨rfl, l, (l + h) / 2, rfl, by lia, by lia, by lia, g4, fun i i1 i2 => ?_⟩
     by_cases e:i = (l + h) / 2
     ·rw [e]; exact z
     ·exact R.tr _ _ _ (N'.lt hn) (N'.lt (by lia)) (N'.lt (by lia)) z (U' _ i (by lia) (by lia))
  ·rintro c t2 ⟨rfl, l, h, rfl, g1, g2, g3, g4, g5⟩
   exact ⟨rfl,l,h,rfl,by lia,g4,fun i i1 i2=>g5 i (by lia) i2⟩
  ·rintro c t2 ⟨rfl, l, h, rfl, g1, g2, g3⟩
   show wpS (model prog w) A E s (moveDown' k l >>= fun _=>pure (ForInStep.yield (none,()))) _ t2
   rw [moveDown'_eq]
   refine wpS_bind (wpS_modify (wpS_pure ⟨rfl,_,N'.bub hn (d:=k - l) (by lia),?_⟩))
   have e2:min (k + 1) n = k + 1:=by lia
   rw [e2]
   intro i j hij hj
   have el:k - (k - l) = l:=by lia
   rw [JQ (by lia) (by lia) (by lia),JQ (by lia) (by lia) (by lia),el]
   by_cases c1:i = l
   ·rw [if_pos c1, if_neg (by lia), if_pos (by lia)]
    exact g3 _ (by lia) (by lia)
   ·rw [if_neg c1]
    by_cases c2:j = l
    ·rw [if_pos c2, if_neg (by lia)]
     exact g2 _ (by lia)
    ·rw [if_neg c2]
     split
     ·split
      ·exact U' _ _ (by lia) (by lia)
      ·exfalso; lia
     ·split
      ·exact U' _ _ (by lia) (by lia)
      ·exact U' _ _ (by lia) (by lia)
 ·rintro c t' ⟨rfl, ls', N', U'⟩
  have:min (max (max m 1) n) n = n:=by lia
  rw [this] at U'
  exact ⟨rfl,ls',N',U'⟩
 ·rintro c t' ⟨rfl, ls', N', U'⟩
  exact wpS_pure (q ls' t' N' U')
theorem all (R:Rule prog w A s n item kd r) (N:Now n item kd ls t) (h2:2 <= n) (h64:n < 64) {Q:Unit -> SortSt -> Prop} (q:∀ ls' t',arrOf t' = ls'.map item -> failedOf t' = none -> ls'.Perm (Array.range n) -> Up r ls' n -> Q () t'):wpS (model prog w) A E s sortRuns' Q t:=by
 rw [sortRuns'_eq]
 refine wpS_bind (wpS_get ?_)
 have esz:(arrOf t).size = n:=by rw [N.arr,Array.size_map,N.size]
 have emin:minRun' n n 0 = n:=by
  cases n with
  | zero=>lia
  | succ f=>rw [minRun'_succ,if_pos h64]
 dsimp only
 simp only [esz,emin]
 let Fin:SortSt -> Prop:=fun t'=>∃ ls',arrOf t' = ls'.map item /\ failedOf t' = none /\ pendingOf t' = #[(0,n,0)] /\ ls'.Perm (Array.range n) /\ Up r ls' n
 have close:∀ {ls':Array Nat} {t':SortSt},Now n item kd ls' t' -> Up r ls' n -> Fin (setPending t' ((pendingOf t').push (0,n,0))):=fun {ls' t'} N' U'=>⟨ls',N'.arr,N'.ok,by show (pendingOf t').push _ = _; rw [N'.pend]; rfl,N'.perm,U'⟩
 refine wpS_bind (wpS_mono (wpS_forRange (fun x c t'=>(x = 0 /\ c = (none,0) /\ t' = t) \/ (0 < x /\ c = (none,n) /\ Fin t')) (Q:=fun c t'=>c = (none,n) /\ Fin t') ?_ ?_ (.inl ⟨rfl,rfl,rfl⟩)) ?_)
 ·rintro x c t' _ hx (⟨rfl, rfl, rfl⟩ | ⟨h0, rfl, F⟩)
  ·dsimp only
   rw [if_neg (by lia)]
   simp only [Nat.sub_zero,Nat.min_self,Nat.zero_add]
   refine wpS_bind (run R N (by lia) fun m ls2 t2 h1 hm N2 U2=>?_)
   dsimp only
   have rest:∀ {ls3:Array Nat} {t3:SortSt},Now n item kd ls3 t3 -> Up r ls3 n -> (pendingOf t3).back? = none:=fun N3 _=>by rw [N3.pend]; rfl
   by_cases c:m < n
   ·rw [if_pos c]
    refine wpS_bind (wpS_lift (wpAny_rule ⟨rfl,?_⟩))
    refine wpS_bind (zR1 R N2 hm U2 fun ls3 t3 N3 U3=>?_)
    simp only [Bool.not_true,Bool.false_eq_true,if_false]
    refine wpS_bind (wpS_get ?_)
    rw [rest N3 U3]
    exact wpS_bind (wpS_modify (wpS_pure (.inr ⟨by lia,rfl,close N3 U3⟩)))
   ·rw [if_neg c]
    obtain rfl:m = n:=by lia
    refine wpS_bind (wpS_get ?_)
    rw [rest N2 U2]
    exact wpS_bind (wpS_modify (wpS_pure (.inr ⟨by lia,rfl,close N2 U2⟩)))
  ·dsimp only
   rw [if_pos (Nat.le_refl _)]
   exact wpS_pure ⟨rfl,F⟩
 ·rintro c t' (⟨h, _⟩ | ⟨_, h1, F⟩)
  ·lia
  ·exact ⟨h1,F⟩
 ·rintro c t' ⟨rfl, ls', e1, e2, e3, e4, e5⟩
  refine wpS_bind (wpS_mono (wpS_forRange (fun _ c t2=>t2 = t' /\ c = (none,())) (Q:=fun c t2=>t2 = t' /\ c = (none,())) ?_ (fun _ _ h=>h) ⟨rfl,rfl⟩) ?_)
  ·rintro x c t2 _ _ ⟨rfl, rfl⟩
   refine wpS_bind (wpS_get ?_)
   rw [if_pos (by rw [e3]; exact Nat.le_refl 1)]
   exact wpS_pure ⟨rfl,rfl⟩
  ·rintro c t2 ⟨rfl, rfl⟩
   exact wpS_pure (q ls' _ e1 e2 e4 e5)
end
end L2.Srt
set_option maxRecDepth 100000
namespace L2.Srt
open PySem PyProof.Rows
section
variable {prog:Program} {w:World} {A:Around} {E:Value -> Shared -> Prop} {s:Shared} {r:Nat -> Nat -> Bool} {kd:SortKind}
end
end L2.Srt
set_option maxRecDepth 100000
namespace L2.Srt
open PySem PyProof.Rows PySem.SeqAt
section
variable {prog:Program} {w:World} {M:Model} {A:Around} {E:Value -> Shared -> Prop} {s:Shared}
theorem Uw {α β:Type} {f:α -> Sem β} {g:α -> β}:∀ {l:List α} {Q:List β -> Shared -> Prop},(∀ a ∈ l,∀ Q:β -> Shared -> Prop,Q (g a) s -> wpAny M A (f a) Q E s) -> Q (l.map g) s -> wpAny M A (l.mapM f) Q E s
 | [],Q,_,q=>by rw [List.mapM_nil]; exact wpAny_pure q
 | a :: l,Q,h,q=>by
  rw [List.mapM_cons]
  refine wpAny_bind (h a (List.mem_cons_self ..) _ (wpAny_bind (Uw (fun b hb=>h b (List.mem_cons_of_mem _ hb)) (wpAny_pure q))))
theorem Ux {α β:Type} {f:α -> Sem β} {g:α -> β} {l:List α} {Q:Array β -> Shared -> Prop} (h:∀ a ∈ l,∀ Q:β -> Shared -> Prop,Q (g a) s -> wpAny M A (f a) Q E s) (q:Q (l.map g).toArray s):wpAny M A (l.toArray.mapM f) Q E s:=by
 rw [List.mapM_toArray]
 show wpAny M A (List.toArray <$> l.mapM f) Q E s
 rw [map_eq_pure_bind]
 exact wpAny_bind (Uw h (wpAny_pure q))
theorem qt (v:Value):firstOfTuple' v = (do
  if (<- typeOf v) != .type "tuple" then return none
  return (<- Builtin.List.listItems v)[0]?):=rfl
def Tup (h:Heap) (v:Value) (p:Value) (rest:List Value):Prop:=∃ a,v = .ref a /\ IsTup h a (p :: rest).toArray
theorem Tup.type {v p:Value} {rest:List Value} (t:Tup s.heap v p rest):s.TypeIs v "tuple" := by
 obtain ⟨a,rfl,o,ho,hc,_⟩:=t
 exact ⟨o,ho,hc⟩
theorem Tup.items {v p:Value} {rest:List Value} (t:Tup s.heap v p rest) {Q:Array Value -> Shared -> Prop} (q:Q (p :: rest).toArray s):wpAny M A (Builtin.List.listItems v) Q E s:=by
 obtain ⟨a,rfl,o,ho,hc,n,hd⟩:=t
 exact listItems_at ho hd q
theorem Wy {vs : List Value} {fst : Value -> Value} {T : String} (h2 : 2 <= vs.length) (ht : ∀ v ∈ vs, ∃ rest, Tup s.heap v (fst v) rest) (hT : ∀ v ∈ vs, s.TypeIs (fst v) T) {Q : SortKind -> Shared -> Prop} (q : Q (tuples' (Value.type T != Value.type "tuple")) s) : wpAny M A (keyKind' vs.toArray) Q E s := by
  rw [keyKind'_eq]
  refine wpAny_bind (Ux (g:=fun v=>some (fst v)) (fun v hv Q q=>?_) ?_)
  · obtain ⟨rest, t⟩ := ht v hv
    rw [qt]
    refine wpAny_bind (wpAny_typeOf t.type ?_)
    have e:(Value.type "tuple" != Value.type "tuple") = false:=by rfl
    rw [e]
    exact wpAny_bind (t.items (wpAny_pure q))
  · have e : (vs.map fun v => some (fst v)).toArray.all (·.isSome) = true := by simp
    rw [if_pos e]
    refine wpAny_bind (wpAny_rule ?_)
    have e2:((vs.map fun v=>some (fst v)).toArray.filterMap id) = (vs.map fst).toArray:=by
      simp [List.filterMap_map]
    rw [e2,oneTypeOnly'_eq]
    refine wpAny_bind (wpAny_bind (Ux (g:=fun _=>Value.type T) (fun v hv Q q=>?_) ?_))
    · obtain ⟨u, hu, rfl⟩ := List.mem_map.mp hv
      exact wpAny_typeOf (hT u hu) q
    · have e3 : ((vs.map fst).map fun _ => Value.type T).toArray[0]? = some (Value.type T) := by
        cases vs with
        | nil=>simp at h2
        | cons v vs=>simp
      have e4:(((vs.map fst).map fun _=>Value.type T).toArray.all (· == Value.type T)) = true:=by
        simp only [List.all_toArray,List.all_map,List.all_eq_true]
        intro _ _
        show (Value.type T == Value.type T) = true
        simp
      rw [e3]
      dsimp only
      rw [e4]
      exact wpAny_pure (wpAny_pure q)
theorem ZP (f:Bool) (x y:Value):keyLt' (tuples' f) x y = (do
  let xs <- Builtin.List.listItems x
  let ys <- Builtin.List.listItems y
  for ((p,q),i) in (xs.toList.zip ys.toList).zipIdx do
   if !(<- eqBool p q) then return <- oneLt' (f && i == 0) p q
  return xs.size < ys.size):=rfl
inductive Lex (A:Around) (s:Shared) (f:Bool) (b:Bool):Nat -> List Value -> List Value -> Prop
 | alike {i:Nat} {p q:Value} {ps qs:List Value}:EqAt A s p q true -> Lex A s f b (i + 1) ps qs -> Lex A s f b i (p :: ps) (q :: qs)
 | here {i:Nat} {p q:Value} {ps qs:List Value}:EqAt A s p q false -> (∀ (prog:Program) (w:World) (E:Value -> Shared -> Prop) (Q:Bool -> Shared -> Prop),Q b s -> wpAny (model prog w) A (oneLt' (f && i == 0) p q) Q E s) -> Lex A s f b i (p :: ps) (q :: qs)
theorem KZ {f b:Bool} {x y p q:Value} {ps qs:List Value} (tx:Tup s.heap x p ps) (ty:Tup s.heap y q qs) (L:Lex A s f b 0 (p :: ps) (q :: qs)) {Q:Bool -> Shared -> Prop} (h:Q b s):wpAny (model prog w) A (keyLt' (tuples' f) x y) Q E s:=by
 rw [ZP]
 refine wpAny_bind (tx.items (wpAny_bind (ty.items ?_)))
 refine wpAny_bind (wpAny_forIn_list _ (fun rest c s'=>s' = s /\ c.1 = none /\ ∃ i xs ys,rest = (xs.zip ys).zipIdx i /\ Lex A s f b i xs ys) (fun c s'=>s' = s /\ c.1 = some b) ?turn ?fin _ _ ⟨rfl,rfl,0,p :: ps,q :: qs,by simp,L⟩ |> fun z=>wpAny_mono z ?post fun _ _ e=>e)
 case turn =>
  rintro ⟨⟨u,v⟩,k⟩ rest c s' ⟨rfl,hc,i,xs,ys,e,L⟩
  cases L with
  | alike he L =>
   rw [List.zip_cons_cons,List.zipIdx_cons] at e
   injection e with e1 e2
   injection e1 with e1 e3
   injection e1 with e4 e5
   subst e3 e4 e5
   refine wpAny_bind (he prog w _ _ ?_)
   simp only [Bool.not_true,Bool.false_eq_true,if_false]
   exact wpAny_pure ⟨rfl,rfl,_,_,_,e2,L⟩
  | here he ho =>
   rw [List.zip_cons_cons,List.zipIdx_cons] at e
   injection e with e1 e2
   injection e1 with e1 e3
   injection e1 with e4 e5
   subst e3 e4 e5
   refine wpAny_bind (he prog w _ _ ?_)
   simp only [Bool.not_false,if_true]
   exact wpAny_bind (ho prog w _ _ (wpAny_pure ⟨rfl,rfl⟩))
 case fin =>
  rintro c s' ⟨_,_,i,xs,ys,e,L⟩
  cases L <;> (rw [List.zip_cons_cons,List.zipIdx_cons] at e; cases e)
 case post =>
  rintro c s' ⟨rfl,hc⟩
  obtain ⟨c1,c2⟩:=c
  simp only at hc
  subst hc
  exact wpAny_pure h
theorem ja {i j:Int} {t u:Tok} {Q:Bool -> Shared -> Prop} (h:Q (decide (i < j)) s):wpAny (model prog w) A (oneLt' false (.int i t) (.int j u)) Q E s:=by
 rw [oneLt'_eq]
 simp only [Bool.false_eq_true,if_false]
 exact wpAny_bind (show wpAny (model prog w) A (compareOp .Lt (.int i t) (.int j u)) _ _ _ from PyProof.Rows.lt_int (wpAny_truthy_bool h))
theorem qZ {a b:Addr} {xs ys:Array Value} {ns ms:List Int} (ha:IsTup s.heap a xs) (hb:IsTup s.heap b ys) (hi:IntsAre xs.toList ns) (hj:IntsAre ys.toList ms) (hu:A.units < cLine) {Q:Bool -> Shared -> Prop} (h:Q (HT.yJ ns ms) s):wpAny (model prog w) A (oneLt' false (.ref a) (.ref b)) Q E s:=by
 rw [oneLt'_eq]
 simp only [Bool.false_eq_true,if_false]
 exact wpAny_bind (show wpAny (model prog w) A (compareOp .Lt (.ref a) (.ref b)) _ _ _ from HT.VY ha hb hi hj hu (wpAny_truthy_bool h))
theorem ko (f:Bool) {i j:Int} {t u:Tok} {Q:Bool -> Shared -> Prop} (h:Q (decide (i < j)) s):wpAny (model prog w) A (oneLt' f (.int i t) (.int j u)) Q E s:=by
 cases f with
 | true=>exact oneLt_int h
 | false=>exact ja h
end
end L2.Srt
set_option maxRecDepth 100000
namespace L2
open PySem PySem.Spec PyProof.Rows PySem.SeqAt
def xj6 (X:Cx) (H:Hp) (f:Bool) (y:V):Prop:=∀ pins s σ v,Inv X pins σ H s -> RelV y v -> ∃ p rest,Srt.Tup s.heap v p rest /\ s.TypeIs p (if f then "int" else "tuple")
def xj8 (X:Cx) (H:Hp) (f:Bool) (y z:V) (b:Bool):Prop:=∀ pins s σ u v,Inv X pins σ H s -> RelV y u -> RelV z v -> ∀ A:Around,A.units + 60 < cLine -> ∃ p ps q qs,Srt.Tup s.heap u p ps /\ Srt.Tup s.heap v q qs /\ Srt.Lex A s f b 0 (p :: ps) (q :: qs)
theorem Vals.getD {xs:List V} {us:List Value} (h:Vals xs us) {i:Nat} (hi:i < xs.length):RelV (xs.getD i .non) (us.getD i .none):=by
 obtain ⟨u,e,r⟩:=h.get (List.getElem?_eq_getElem hi)
 rw [List.getD_eq_getElem?_getD,List.getD_eq_getElem?_getD,e,List.getElem?_eq_getElem hi]
 exact r
theorem Yo {xs:List V} {us:List Value} (h:Vals xs us):∀ {ls:List Nat},(∀ i ∈ ls,i < xs.length) -> Vals (ls.map fun i=>xs.getD i .non) (ls.map fun i=>us.getD i .none)
 | [],_=>.nil
 | i :: ls,hl=>.cons (h.getD (hl i (List.mem_cons_self ..))) (Yo h fun j hj=>hl j (List.mem_cons_of_mem _ hj))
section
variable {X:Cx}
end
inductive SKey where
 | n (i:Int) | t (ns:List Int)
 deriving DecidableEq
def SKey.d:SKey -> D
 | .n i=>.int i
 | .t ns=>.tup (ns.map D.int)
def SKey.num:SKey -> Bool
 | .n _=>true
 | .t _=>false
def SKey.lt:SKey -> SKey -> Bool
 | .n i,.n j=>decide (i < j)
 | .t ns,.t ms=>HT.yJ ns ms
 | _,_=>false
structure SRow where
 key:SKey
 name:Int
 rest:List D
def SRow.d (x:SRow):D:=.tup (x.key.d :: .int x.name :: x.rest)
def SRow.lt (x y:SRow):Bool:=if x.key = y.key then decide (x.name < y.name) else x.key.lt y.key
theorem Vp:∀ (xs ys:List Int),xs ≠ ys -> HT.yJ xs ys = !HT.yJ ys xs
 | [],[],h=>absurd rfl h
 | [],y :: ys,_=>rfl
 | x :: xs,[],_=>rfl
 | x :: xs, y :: ys, h => by
  rw [HT.yI,HT.yI]
  by_cases e:x = y
  ·subst e
   rw [if_pos rfl,if_pos rfl]
   exact Vp xs ys fun z=>h (by rw [z])
  ·rw [if_neg e, if_neg (Ne.symm e)]
   by_cases l:x < y
   ·rw [decide_eq_true l,decide_eq_false (by lia)]; rfl
   ·rw [decide_eq_false l,decide_eq_true (by lia)]; rfl
theorem KQ:∀ (xs:List Int),HT.yJ xs xs = false
 | []=>rfl
 | x :: xs=>by rw [HT.yI,if_pos rfl]; exact KQ xs
theorem Xj:∀ (xs ys zs:List Int),HT.yJ xs ys = true -> HT.yJ ys zs = true -> HT.yJ xs zs = true
 | [],[],_,h,_=>by cases h
 | [],_ :: _,[],_,h=>by cases h
 | [],_ :: _,_ :: _,_,_=>rfl
 | _ :: _,[],_,h,_=>by cases h
 | _ :: _,_ :: _,[],_,h=>by cases h
 | x :: xs, y :: ys, z :: zs, h1, h2 => by
  rw [HT.yI] at h1 h2 ⊢
  by_cases e1:x = y
  ·subst e1
   rw [if_pos rfl] at h1
   by_cases e2:x = z
   ·subst e2
    rw [if_pos rfl] at h2 ⊢
    exact Xj xs ys zs h1 h2
   ·rw [if_neg e2] at h2 ⊢
    exact h2
  ·rw [if_neg e1] at h1
   have l1:=of_decide_eq_true h1
   by_cases e2:y = z
   ·subst e2
    rw [if_neg e1]; exact h1
   ·rw [if_neg e2] at h2
    have l2:=of_decide_eq_true h2
    rw [if_neg (by lia)]
    exact decide_eq_true (by lia)
theorem SKey.lt_anti {x y:SKey} (hn:x.num = y.num) (h:x ≠ y):x.lt y = !y.lt x:=by
 cases x with
 | n i =>
  cases y with
  | n j =>
   have:i ≠ j:=fun z=>h (by rw [z])
   simp only [SKey.lt]
   by_cases l:i < j
   ·rw [decide_eq_true l,decide_eq_false (by lia)]; rfl
   ·rw [decide_eq_false l,decide_eq_true (by lia)]; rfl
  | t ms=>cases hn
 | t ns =>
  cases y with
  | n j=>cases hn
  | t ms=>exact Vp ns ms fun z=>h (by rw [z])
theorem SKey.lt_irr (x:SKey):x.lt x = false:=by
 cases x with
 | n i=>simp [SKey.lt]
 | t ns=>exact KQ ns
theorem SKey.lt_trans {x y z:SKey} (h1:x.lt y = true) (h2:y.lt z = true):x.lt z = true:=by
 cases x <;> cases y <;> cases z <;> first
  | (cases h1; done) | (cases h2; done)
  | (simp only [SKey.lt,decide_eq_true_eq] at h1 h2 ⊢; lia)
  | exact Xj _ _ _ h1 h2
theorem SRow.lt_anti {x y:SRow} (hn:x.key.num = y.key.num) (h:x.name ≠ y.name):x.lt y = !y.lt x:=by
 unfold SRow.lt
 by_cases e:x.key = y.key
 ·rw [if_pos e, if_pos e.symm]
  by_cases l:x.name < y.name
  ·rw [decide_eq_true l,decide_eq_false (by lia)]; rfl
  ·rw [decide_eq_false l,decide_eq_true (by lia)]; rfl
 ·rw [if_neg e, if_neg (Ne.symm e)]
  exact SKey.lt_anti hn e
theorem SRow.lt_trans {x y z:SRow} (h1:x.lt y = true) (h2:y.lt z = true):x.lt z = true:=by
 unfold SRow.lt at *
 by_cases e1:x.key = y.key
 ·rw [if_pos e1] at h1
  by_cases e2:y.key = z.key
  ·rw [if_pos e2] at h2
   rw [if_pos (e1.trans e2)]
   simp only [decide_eq_true_eq] at *
   lia
  ·rw [if_neg e2] at h2
   rw [if_neg (by rw [e1]; exact e2),e1]
   exact h2
 ·rw [if_neg e1] at h1
  by_cases e2:y.key = z.key
  ·rw [if_neg (by rw [<- e2]; exact e1), <- e2]
   exact h1
  ·rw [if_neg e2] at h2
   have h3:=SKey.lt_trans h1 h2
   by_cases e3:x.key = z.key
   ·rw [e3, SKey.lt_irr] at h3
    cases h3
   ·rw [if_neg e3]; exact h3
end L2
set_option maxRecDepth 100000
namespace L2
open PySem PySem.Spec PyProof.Rows PySem.SeqAt
def WU:SRow:=⟨.n 0,0,[]⟩
theorem Xp:∀ (xs ys:List Int),vK (xs.map D.int) (ys.map D.int) = decide (xs = ys)
 | [],[]=>by unfold vK; rfl
 | [],y :: ys=>by unfold vK; simp
 | x :: xs,[]=>by unfold vK; simp
 | x :: xs,y :: ys=>by
  rw [List.map_cons,List.map_cons]
  unfold vK
  rw [Xp xs ys]
  unfold eqD
  by_cases e:x = y
  ·subst e; simp
  ·simp [e]
theorem zo7 {x y:SKey} (h:x.num = y.num):eqD x.d y.d = decide (x = y):=by
 cases x with
 | n i =>
  cases y with
  | n j =>
   show eqD (.int i) (.int j) = _
   unfold eqD
   by_cases e:i = j
   ·subst e; simp
   ·simp [e]
  | t ms=>cases h
 | t ns =>
  cases y with
  | n j=>cases h
  | t ms =>
   show eqD (.tup _) (.tup _) = _
   unfold eqD
   rw [Xp]
   by_cases e:ns = ms
   ·subst e; simp
   ·simp [e]
theorem KB (x:SKey):okE x.d 20 = true:=by
 cases x with
 | n i=>exact yR
 | t ns =>
  refine (okE_tup (k:=19)).mpr fun d hd=>?_
  obtain ⟨x,_,rfl⟩:=List.mem_map.mp hd
  exact yR
section
variable {X:Cx} {pins:List (Addr × Obj)} {σ:St} {H:Hp} {s:Shared} {G:Option Addr} {Z:Addr -> Prop}
theorem Qr {a b:V} {xs:List V} {its:List Value} (h:Vals (a :: b :: xs) its):∃ p q r,its = p :: q :: r /\ RelV a p /\ RelV b q:=by
 cases h with
 | cons h0 t =>
  cases t with
  | cons h1 t1=>exact ⟨_,_,_,rfl,h0,h1⟩
structure RowAt (X:Cx) (G:Option Addr) (Z:Addr -> Prop) (H:Hp) (s:Shared) (x:SRow) (u p:Value) (rest:List Value):Prop where
 tup:∃ q,Srt.Tup s.heap u p (q :: rest) /\ ∃ t,q = .int x.name t
 key:∃ z,Rep X.K G Z H x.key.d z /\ RelV z p
theorem UT (I:Inv X pins σ H s) {x:SRow} {v:V} {u:Value} (r:Rep X.K G Z H x.d v) (q:RelV v u):∃ p rest,RowAt X G Z H s x u p rest:=by
 unfold SRow.d at r
 obtain ⟨a,xs,rfl,sq,rs⟩:=r.tup_inv
 have e:u = .ref a:=q
 subst e
 obtain ⟨its,rv,pl,_⟩:=I.tuple sq.sq
 obtain ⟨z0,xs1,rfl,r0,rs1⟩:=rs.split
 obtain ⟨z1,xs2,rfl,r1,rs2⟩:=rs1.split
 have e1:=r1.int_inv
 subst e1
 obtain ⟨p0,p1,its2,rfl,h0,t,rfl⟩:=Qr rv
 exact ⟨p0,its2,⟨_,⟨a,rfl,pl⟩,t,rfl⟩,z0,r0,h0⟩
theorem QA (I:Inv X pins σ H s) {x:SRow} {u p:Value} {rest:List Value} (R:RowAt X G Z H s x u p rest):s.TypeIs p (if x.key.num then "int" else "tuple"):=by
 obtain ⟨z,r,q⟩:=R.key
 cases h:x.key with
 | n i =>
  rw [h] at r
  have e:z = .int i:=r.int_inv
  subst e
  obtain ⟨t,rfl⟩:=q
  exact typeIs_int s i t
 | t ns =>
  rw [h] at r
  obtain ⟨a,xs,rfl,sq,rs⟩:=Rep.tup_inv (show Rep X.K G Z H (.tup (ns.map D.int)) z from r)
  have e:p = .ref a:=q
  subst e
  obtain ⟨its,rv,⟨o,ho,hc,_⟩,_⟩:=I.tuple sq.sq
  exact ⟨o,ho,hc⟩
theorem zj0 (I:Inv X pins σ H s) {x y:SRow} {u v p q:Value} {ps qs:List Value} (hn:x.key.num = y.key.num) (hd:x.name ≠ y.name) (R:RowAt X G Z H s x u p ps) (R':RowAt X G Z H s y v q qs) {A:Around} (hu:A.units + 60 < cLine) :
  ∃ p ps q qs,Srt.Tup s.heap u p ps /\ Srt.Tup s.heap v q qs /\ Srt.Lex A s x.key.num (x.lt y) 0 (p :: ps) (q :: qs):=by
 obtain ⟨n1,t1,tk1,rfl⟩:=R.tup
 obtain ⟨n2,t2,tk2,rfl⟩:=R'.tup
 obtain ⟨z1,r1,q1⟩:=R.key
 obtain ⟨z2,r2,q2⟩:=R'.key
 have E:=(Jn I 20 x.key.d y.key.d z1 z2 p q A (KB _) (KB _) r1 r2 q1 q2 (by lia)).1
 rw [zo7 hn] at E
 refine ⟨p,_,q,_,t1,t2,?_⟩
 by_cases e:x.key = y.key
 ·rw [decide_eq_true e] at E
  refine .alike E (.here ?_ ?_)
  ·have := EqAt.int_int (A := A) (s := s) x.name tk1 y.name tk2
   have e2:(x.name == y.name) = false:=by simpa using hd
   rw [e2] at this
   exact this
  ·intro prog w E Q h
   unfold SRow.lt at h
   rw [if_pos e] at h
   exact Srt.ko _ h
 ·rw [decide_eq_false e] at E
  refine .here E ?_
  intro prog w E Q h
  unfold SRow.lt at h
  rw [if_neg e] at h
  cases hx:x.key with
  | n i =>
   cases hy:y.key with
   | n j =>
    rw [hx] at r1 h
    rw [hy] at r2 h
    have e1:z1 = .int i:=r1.int_inv
    have e2:z2 = .int j:=r2.int_inv
    subst e1 e2
    obtain ⟨a1,rfl⟩:=q1
    obtain ⟨a2,rfl⟩:=q2
    exact Srt.ko _ h
   | t ms=>rw [hx,hy] at hn; cases hn
  | t ns =>
   cases hy:y.key with
   | n j=>rw [hx,hy] at hn; cases hn
   | t ms =>
    rw [hx] at r1 h
    rw [hy] at r2 h
    obtain ⟨a,xs,rfl,sq,rs⟩:=Rep.tup_inv (show Rep X.K G Z H (.tup (ns.map D.int)) z1 from r1)
    obtain ⟨b,ys,rfl,sq',rs'⟩:=Rep.tup_inv (show Rep X.K G Z H (.tup (ms.map D.int)) z2 from r2)
    have e1:p = .ref a:=q1
    have e2:q = .ref b:=q2
    subst e1 e2
    obtain ⟨its,rv,pl,_⟩:=I.tuple sq.sq
    obtain ⟨its',rv',pl',_⟩:=I.tuple sq'.sq
    rw [yf rs] at rv
    rw [yf rs'] at rv'
    show wpAny _ _ (oneLt' (false && _) _ _) _ _ _
    exact Srt.qZ pl pl' (kW rv) (kW rv') (by lia) h
end
theorem Reps.getD {K:PySem.W.Frag} {G:Option Addr} {Z:Addr -> Prop} {H:Hp} {α:Type} {enc:α -> D} {rows:List α} {a0:α} {xs:List V} (rs:Reps K G Z H (rows.map enc) xs) {i:Nat} (hi:i < rows.length):Rep K G Z H (enc (rows.getD i a0)) (xs.getD i .non):=by
 obtain ⟨v,e,r⟩:=rs.get (i:=i) (d:=enc rows[i]) (by rw [List.getElem?_map,List.getElem?_eq_getElem hi]; rfl)
 rw [List.getD_eq_getElem?_getD,List.getD_eq_getElem?_getD,e,List.getElem?_eq_getElem hi]
 exact r
theorem YF {K:PySem.W.Frag} {G:Option Addr} {Z:Addr -> Prop} {H:Hp} {α:Type} {enc:α -> D} {rows:List α} {a0:α} {xs:List V} (rs:Reps K G Z H (rows.map enc) xs):∀ {ls:List Nat},(∀ i ∈ ls,i < rows.length) -> Reps K G Z H ((ls.map fun i=>rows.getD i a0).map enc) (ls.map fun i=>xs.getD i .non)
 | [],_=>.nil
 | i :: ls,hl=>.cons (rs.getD (hl i (List.mem_cons_self ..))) (YF rs fun j hj=>hl j (List.mem_cons_of_mem _ hj))
theorem KN {α:Type} (a0:α) (rows:List α):(List.range rows.length).map (fun i=>rows.getD i a0) = rows:=by
 apply List.ext_getElem
 ·simp
 ·intro i h1 h2
  simp [List.getD_eq_getElem?_getD,h2]
end L2
set_option maxRecDepth 100000
namespace L2
open PySem PySem.Spec PyProof.Rows PySem.SeqAt
section
variable {A:AC} {X:Cx} {a:Expr} {ta:TD} {pos:Pos}
def KO (d:D) (k:List D -> Prop):Prop:=∃ fs,(d = .lst fs \/ d = .fz fs) /\ k fs
@[simp] theorem zO2 {fs:List D} {k}:KO (.lst fs) k ↔ k fs:=⟨fun ⟨_,e,h⟩=>by rcases e with e | e <;> cases e; exact h,fun h=>⟨_,.inl rfl,h⟩⟩
def xb4 (ta:TD) (tl th:TOD):TD:=fun rho n P=>ta rho n fun d n1=>tl rho n1 fun lo n2=>th rho n2 fun hi n3=>KO d fun fs=>P (.lst (Ym fs lo hi)) n3
@[simp] theorem zY0 {ta tl th rho n P}:xb4 ta tl th rho n P = ta rho n fun d n1=>tl rho n1 fun lo n2=>th rho n2 fun hi n3=>KO d fun fs=>P (.lst (Ym fs lo hi)) n3:=rfl
theorem zf6 {le he:Option Expr} {tl th:TOD} {p2:Pos} (hK:X.K = A.K) (ha:PD A X a ta) (hl:POD A X le tl) (hh:POD A X he th):PD A X (.Subscript a (.Slice le he none p2) pos) (xb4 ta tl th):=by
 with_unfolding_all
  exact (Ve zi7 ha hl hh).imp fun sg H Q h=>by
   obtain ⟨rho,n,P,ds,vs,I,ht,hQ⟩:=h
   refine ⟨rho,n,_,ds,vs,I,ht,fun v H1 n1 d J1 h1=>⟨rho,n1,_,_,_,J1,h1,fun lo H2 n2 J2 h2=>⟨rho,n2,_,_,_,J2,h2,fun hi H3 n3 ⟨os,J3⟩ h3=>?_⟩⟩⟩
   obtain ⟨fs,hd,k⟩:=h3
   obtain ⟨J4,r⟩:=J3.pop
   rw [hK]
   rcases hd with rfl | rfl
   ·obtain ⟨l, xs, rfl, sq, rs⟩ := r.lst_inv
    exact ⟨l,xs,rfl,sq.sq,fun p hp=>hQ _ _ n3 _ ⟨os,J4.newLst (ZE rs lo hi) hp⟩ k⟩
   ·obtain ⟨l, xs, rfl, sq, rs⟩ := r.fz_inv
    exact ⟨l,xs,rfl,sq,fun p hp=>hQ _ _ n3 _ ⟨os,J4.newLst (ZE rs lo hi) hp⟩ k⟩
def Jv (i:Nat):TD:=fun rho n P=>∃ es,rho[i]? = some (some (.own es)) /\ okE (.lst es) 20 = true /\ P (.bl (!vK es [])) n
@[simp] theorem zH0 {i rho n P}:Jv i rho n P = ∃ es,rho[i]? = some (some (.own es)) /\ okE (.lst es) 20 = true /\ P (.bl (!vK es [])) n:=rfl
theorem UJ {i:Nat} (hK:X.K = A.K) {sg:St} {H:Hp} {Q:VK} (h:tOf A (Jv i) sg H Q):tOp (zW0 X) (zV0 i) (tOf A (zU0 zU4)) sg H Q:=by
 obtain ⟨rho,n,P,ds,vs,⟨os,I⟩,⟨es,hi,ok,q⟩,hQ⟩:=h
 obtain ⟨a,xs,e1,hH,rs,_⟩:=I.own (es':=es) (xs':=[]) hi
 refine ⟨.ref a,e1,rho,n,fun d n1=>d = .lst [] /\ n1 = n,ds,vs,⟨os,I⟩,⟨Nat.zero_le _,rfl,rfl⟩,fun v2 H2 n2 d2 ⟨os2,J⟩ k=>?_⟩
 obtain ⟨rfl,rfl⟩:=k
 obtain ⟨J1,r2⟩:=J.pop
 obtain ⟨a',xs',e2,hH',rs',_⟩:=J1.own (es':=es) (xs':=[]) hi
 rw [e1] at e2
 cases e2
 have no:∀ b,H2 b ≠ none -> False -> Zof A os2 b:=fun _ _ z=>z.elim
 have rA:Rep X.K A.G (fun _=>False) H2 (.lst es) (.ref a):=by
  rw [hK]
  exact .lst_mk ⟨fun z=>z,hH'⟩ (Reps.mono no (fun _ _ _ e=>e) _ _ rs')
 have rB:Rep X.K A.G (fun _=>False) H2 (.lst []) v2:=by
  rw [hK]
  exact Rep.mono no (fun _ _ _ e=>e) _ _ r2
 have ok0:okE (.lst []) 20 = true:=by unfold okE; rfl
 refine ⟨eqD (.lst es) (.lst []),fun pins s σ v u J rx ry B hu=>Jn J 20 _ _ _ _ v u B ok ok0 rA rB rx ry (by lia),?_⟩
 have eqe:eqD (.lst es) (.lst []) = vK es []:=by unfold eqD; rfl
 rw [eqe]
 exact hQ _ H2 _ _ ⟨os2,J1.push (Rep.ofS (d:=.bl (!vK es [])) rfl)⟩ q
theorem YK {i:Nat} {x:Str} {px p2:Pos} {n:Nat} (hr:Room n X.A) (hK:X.K = A.K) (hN:X.N[i]? = some x:=by rfl) (hv:Vis X.env.scope x:=by first | exact Or.inl rfl | exact Or.inr (Or.inl rfl) | exact Or.inr (Or.inr rfl)) (hd:(x == ("__debug__" : Str)) = false:=by decide)
  (hcd:(x == ("__classdict__" : Str)) = false:=by decide):PTD A X (.Compare (.Name x px) [.NotEq] [.List [] p2] pos) (Ju (Jv i)):=by
 with_unfolding_all
  exact (UY (zx8 hr) (vf hN hv hd hcd) (wm (A:=A) zd) (zv _)).imp fun _ _ _=>Zu fun _ _ _=>UJ hK
end
end L2
set_option maxRecDepth 100000
namespace L2
open PySem PySem.Spec PyProof.Rows PySem.SeqAt
mutual
def zU8:D -> PyData
 | .int i=>.int i
 | .tup ds=>.tuple (zr2 ds)
 | _=>.none
def zr2:List D -> List PyData
 | []=>[]
 | d :: ds=>zU8 d :: zr2 ds
end
mutual
def okS:D -> Nat -> Bool
 | .int i,_=>decide (i.natAbs.log2 < 1920)
 | .tup ds,k=>match k with
  | 0=>false
  | k + 1=>xa4 ds k
 | _,_=>false
def xa4:List D -> Nat -> Bool
 | [],_=>true
 | d :: ds,k=>okS d k && xa4 ds k
end
mutual
def zm5:D -> Nat
 | .tup ds=>zf8 ds + 1
 | _=>1
def zf8:List D -> Nat
 | []=>0
 | d :: ds=>zm5 d + zf8 ds
end
def zs1 (d:D):Str:=(zU8 d).shown
section
variable {X:Cx} {pins:List (Addr × Obj)} {σ:St} {H:Hp} {s:Shared} {G:Option Addr} {Z:Addr -> Prop}
end
def zD3 (X:Cx) (H:Hp) (y:V) (p:PyData):Prop:=∀ pins s σ v,Inv X pins σ H s -> RelV y v -> ∃ a as,v = .ref a /\ Reads s.heap (.ref a) p as
def zS5:List D -> (D -> Prop) -> Prop:=fun es k=>∃ ds,es = [.tup ds] /\ okS (.tup ds) 15 = true /\ zm5 (.tup ds) <= 8000 /\ k (.str (zs1 (.tup ds)))
@[simp] theorem zO3 {ds k}:zS5 [.tup ds] k ↔ (okS (.tup ds) 15 = true /\ zm5 (.tup ds) <= 8000 /\ k (.str (zs1 (.tup ds)))):=⟨fun ⟨_,e,h⟩=>by cases e; exact h,fun h=>⟨_,rfl,h⟩⟩
end L2
set_option maxRecDepth 100000
namespace L2
open PySem PySem.Spec PyProof.Rows
section
variable {X:Cx} {A:AC}
def zt2:RD2:=fun d1 d2 k=>∃ es i,d1 = .tup es /\ d2 = .int i /\ es ≠ [] /\ 0 <= i /\ es.length * i.toNat <= sizeLine /\ k (.tup (List.replicate i.toNat es).flatten)
@[simp] theorem zE2 {es i k}:zt2 (.tup es) (.int i) k ↔ (es ≠ [] /\ 0 <= i /\ es.length * i.toNat <= sizeLine /\ k (.tup (List.replicate i.toNat es).flatten)):=⟨fun ⟨_,_,e,e',h⟩=>by cases e; cases e'; exact h,fun h=>⟨_,_,rfl,rfl,h⟩⟩
end
end L2
set_option maxRecDepth 100000
namespace L2.Srt
open PySem PyProof.Rows
section
variable {prog:Program} {w:World} {A:Around} {E:Value -> Shared -> Prop} {s:Shared}
end
end L2.Srt
namespace L2
open PySem PySem.Spec PyProof.Rows
section
variable {X:Cx} {A:AC} {pos:Pos} {e:Expr} {t1:TAD}
def zs4:TSD:=fun _ _ _=>False
@[simp] theorem zO0 {F:EndsD} {rho:Rho} {n:Nat}:zs4 F rho n ↔ False:=Iff.rfl
end
end L2
set_option maxRecDepth 100000
namespace L2
open PySem PySem.Spec PyProof.Rows
section
variable {K:PySem.W.Frag} {G G':Option Addr} {Z:Addr -> Prop} {H:Hp}
end
section
variable {A:AC} {X:Cx} {e:Expr} {es:List Expr} {t1:TAD} {t2:TSD} {pos p:Pos}
end
end L2
set_option maxRecDepth 100000
namespace L2
open PySem PySem.Spec PyProof.Rows
def xb1 (ks:List Key) (k:Key):Bool:=ks.any fun j=>decide (j = k)
def zR0 (ks:List Key) (k:Key):List Key:=if xb1 ks k = true then ks else ks ++ [k]
def xh5 {α:Type} (ks:List Key) (xs:List α) (k:Key) (x:α):List α:=if xb1 ks k = true then List.zipWith (fun j y=>if j = k then x else y) ks xs else xs ++ [x]
section
variable {K:PySem.W.Frag} {G:Option Addr} {Z:Addr -> Prop} {H:Hp}
end
def KY:D -> Option Key
 | .int i=>some (Sum.inl i)
 | .str x=>some (Sum.inr x)
 | _=>none
@[simp] theorem zA0 {i:Int}:KY (.int i) = some (Sum.inl i):=rfl
@[simp] theorem zz9 {i:Str}:KY (.str i) = some (Sum.inr i):=rfl
section
variable {A:AC} {X:Cx} {tg iter kx vx:Expr} {ifs:List Expr} {scope:Scope} {own M:List Str} {pos:Pos} {it:TID} {g:TGD} {tt:TBD} {tk tv:TD}
def Jt (own:Nat) (g:TGD) (tt:TBD) (tk tv:TD) (rho:Rho) (P:D -> Nat -> Prop) (items:List D) (n1:Nat):Prop:=items.length <= sizeLine /\ ∃ J:Nat -> List Key -> List D -> Nat -> Prop,J 0 [] [] n1 /\
 (∀ i d ks es n,items[i]? = some d -> J i ks es n -> g d (List.replicate own none ++ rho) fun rho'=>rho'.drop own = rho /\ tt rho' n fun c n2=>if c = true then tk rho' n2 fun dk n3=>tv rho' n3 fun dv n4=>∃ k,KY dk = some k /\ J (i + 1) (zR0 ks k) (xh5 ks es k dv) n4 else J (i + 1) ks es n2) /\
 ∀ ks es n,J items.length ks es n -> P (.dct ks es) n
def zC6 (it:TID) (own:Nat) (g:TGD) (tt:TBD) (tk tv:TD):TD:=fun rho n P=>it rho n (Jt own g tt tk tv rho P)
@[simp] theorem zH2 {it own g tt tk tv rho n P}:zC6 it own g tt tk tv rho n P = it rho n (Jt own g tt tk tv rho P):=rfl
end
def atK:List Key -> List D -> Key -> Option D
 | k :: ks,d :: ds,x=>if k = x then some d else atK ks ds x
 | _,_,_=>none
section
variable {A:AC} {X:Cx} {a b:Expr} {ta tb:TD} {pos:Pos}
def xe1:RD2:=fun d1 d2 k=>∃ ks ds x d,d1 = .dct ks ds /\ KY d2 = some x /\ atK ks ds x = some d /\ k d
@[simp] theorem zN2 {ks ds x k}:xe1 (.dct ks ds) (.int x) k ↔ ∃ d,atK ks ds (Sum.inl x) = some d /\ k d:=⟨fun ⟨_,_,_,d,e,e',h⟩=>by cases e; cases e'; exact ⟨d,h⟩,fun ⟨d,h⟩=>⟨_,_,_,d,rfl,rfl,h⟩⟩
def zK1 (neg:Bool):RD2:=fun d1 d2 k=>∃ ks ds x,d2 = .dct ks ds /\ KY d1 = some x /\ k (.bl ((atK ks ds x).isSome != neg))
@[simp] theorem zE7 {neg ks ds x k}:zK1 neg (.int x) (.dct ks ds) k ↔ k (.bl ((atK ks ds (Sum.inl x)).isSome != neg)):=⟨fun ⟨_,_,_,e,e',h⟩=>by cases e; cases e'; exact h,fun h=>⟨_,_,_,rfl,rfl,h⟩⟩
def zJ0 (i:Nat) (g:TGD):TSD:=fun F rho n=>∃ es d,rho[i]? = some (some (.own (es ++ [d]))) /\ g d (rho.set i (some (.own es))) fun rho'=>F.nx rho' n
@[simp] theorem zW7 {i g F rho n}:zJ0 i g F rho n = ∃ es d,rho[i]? = some (some (.own (es ++ [d]))) /\ g d (rho.set i (some (.own es))) fun rho'=>F.nx rho' n:=rfl
theorem zk4 {i m:Nat} {x:Str} {tg:Expr} {g:TGD} {px apos cpos:Pos} (hK:X.K = A.K) (hg:PGD A X m tg g) (hN:X.N[i]? = some x:=by rfl) (hv:Vis X.env.scope x:=by first | exact Or.inl rfl | exact Or.inr (Or.inl rfl) | exact Or.inr (Or.inr rfl)) (hd:(x == ("__debug__" : Str)) = false:=by decide)
  (hcd:(x == ("__classdict__" : Str)) = false:=by decide) (hbase:attributeBase (.Name x px) "pop" X.env (eval (.Name x px) X.env) = eval (.Name x px) X.env:=by rfl) (hline:(apos.endLine == cpos.line) = true:=by rfl)
  (hs:swapsWithSole [tg] (.Call (.Attribute (.Name x px) "pop" apos) [] [] cpos) pos.line X.env = pure false:=by rfl) (hw:swappedStores [tg] (.Call (.Attribute (.Name x px) "pop" apos) [] [] cpos) X.env = pure none:=by rfl)
  (h1:(assignEach [tg] X.env).map (·.2) = [assign tg X.env]:=by rfl):PSD A X (.Assign [tg] (.Call (.Attribute (.Name x px) "pop" apos) [] [] cpos) pos) (zJ0 i g):=by
 with_unfolding_all
  exact (Kc (zw5 PySem.F.plainAttrs_list PySem.F.slot_list_pop PySem.F.type_list_pop zz3 (vf hN hv hd hcd) hbase hline) hg hs hw h1).imp fun E sg H h=>by
   obtain ⟨rho,n,F,ds,vs,⟨os,I⟩,⟨es,d,hi,ht⟩,ok⟩:=h
   obtain ⟨a,xs,e1,hH,rs,_⟩:=I.own (es':=es) (xs':=[]) hi
   have hl:=rs.length
   have hxs:xs.length = es.length + 1:=by rw [hl]; simp
   have hes:(es ++ [d])[es.length]? = some d:=by simp
   obtain ⟨v,hv,rv⟩:=rs.get hes
   refine ⟨.ref a,e1,.inl ⟨rfl,xs,SqL.of hH⟩,a,xs,v,rfl,rfl,hH,by rw [hxs]; exact hv,?_⟩
   have I1:=I.push rv
   obtain ⟨a',xs',e1',hH',rs',up⟩:=I1.own (es':=es) (xs':=[]) hi
   rw [e1] at e1'
   cases e1'
   rw [hH] at hH'
   cases hH'
   have e2:xs.dropLast = xs.take es.length:=by rw [List.dropLast_eq_take,hxs]; rfl
   have e3:(es ++ [d]).take es.length = es:=by simp
   have rt:Reps A.K A.G (Zof A os) H es xs.dropLast:=by
    have:=rs'.take es.length
    rw [e3] at this
    rw [e2]; exact this
   exact ⟨_,n,_,d,ds,vs,⟨os,up _ _ rt⟩,ht,fun rho' sg' J' _ k'=>ok.nx _ _ _ _ J' k'⟩
def zJ5:TSD:=fun F rho n=>F.ct rho n
@[simp] theorem zM1 {F rho n}:zJ5 F rho n = F.ct rho n:=rfl
def zf1 (i:Nat) (tc:TBD) (t u:TAD):TSD:=fun F rho n=>i < rho.length /\ tc rho n fun c n0=>if c = true then t rho n0 (fun es n1=>es.length <= sizeLine /\ F.nx (rho.set i (some (.own es))) n1) else u rho n0 fun es n1=>es.length <= sizeLine /\ F.nx (rho.set i (some (.own es))) n1
@[simp] theorem zE0 {i tc t u F rho n}:zf1 i tc t u F rho n = (i < rho.length /\ tc rho n fun c n0=>if c = true then t rho n0 (fun es n1=>es.length <= sizeLine /\ F.nx (rho.set i (some (.own es))) n1) else u rho n0 fun es n1=>es.length <= sizeLine /\ F.nx (rho.set i (some (.own es))) n1):=rfl
theorem Ka {i:Nat} {x:Str} {pos' pos2 pos3 pos4:Pos} {c:Expr} {els els2:List Expr} {tc:TBD} {t u:TAD} (hN:X.N.Nodup) (hi:X.N[i]? = some x) (hx:Loc X.env.scope x) (hc:PTD A X c tc) (ha:PAD A X els t) (hb:PAD A X els2 u) (hf:X.fn x = true \/ X.env.scope.names.lookup x = some .local:=by first | exact .inl rfl | exact .inr rfl | assumption)
  (hs:swapsWith (.IfExp c (.List els pos2) (.List els2 pos3) pos4) (some (.Name x pos')) pos.line X.env = pure false:=by rfl):PSD A X (.Assign [.Name x pos'] (.IfExp c (.List els pos2) (.List els2 pos3) pos4) pos) (zf1 i tc t u):=by
 with_unfolding_all
  exact (Vc hN hi hx (Vg hc (jT ha) (jT hb)) hs hf).imp fun E sg H h=>by
   obtain ⟨rho,n,F,ds,vs,I,⟨hl,ht⟩,ok⟩:=h
   refine ⟨rho,n,_,ds,vs,I,ht,fun b H1 n1 J1 k=>?_⟩
   cases b with
   | true =>
    refine ⟨rho,n1,_,ds,vs,J1,k,fun ws H' n' es ⟨os,J⟩ hlen k=>⟨by rw [hlen]; exact k.1,fun p hp=>?_⟩⟩
    obtain ⟨J2,rs⟩:=J.split hlen
    exact ok.nx _ _ _ _ (J2.setOwn hl hp rs) k.2
   | false =>
    refine ⟨rho,n1,_,ds,vs,J1,k,fun ws H' n' es ⟨os,J⟩ hlen k=>⟨by rw [hlen]; exact k.1,fun p hp=>?_⟩⟩
    obtain ⟨J2,rs⟩:=J.split hlen
    exact ok.nx _ _ _ _ (J2.setOwn hl hp rs) k.2
end
end L2
set_option maxRecDepth 100000
namespace L2
open PySem PySem.Spec PyProof.Rows
section
variable {X:Cx} {A:AC}
def zo2:D -> Bool
 | .tup _=>true
 | .lst _=>true
 | _=>false
def zS9:List D -> (D -> Prop) -> Prop:=fun es k=>∃ d,es = [d,.tup [.ty "tuple",.ty "list"]] /\ wW d = true /\ k (.bl (zo2 d))
@[simp] theorem zP2 {d k}:zS9 [d,.tup [.ty "tuple",.ty "list"]] k ↔ (wW d = true /\ k (.bl (zo2 d))):=⟨fun ⟨_,e,h⟩=>by cases e; exact h,fun h=>⟨_,rfl,h⟩⟩
theorem Zg {n:Nat} (hr:Room n X.A):va X (.builtin "repr") (fun xs H Q=>∃ (y:V) (p:PyData),xs = [y] /\ zD3 X H y p /\ p.showable = true /\ p.hasDict = false /\ p.depth <= 20 /\ p.shown.length <= sizeLine /\ Q (.str p.shown) H):=by
 intro pins s σ H xs us Q I r h
 obtain ⟨y,p,rfl,hv,h1,h2,h3,h4,q⟩:=h
 obtain ⟨u,rfl,hu⟩:=Yq r
 obtain ⟨a,as,rfl,rd⟩:=hv pins s σ u I hu
 have:=hr.un
 exact repr_of_reads' rd h1 (PyData.noDict_hsm h2) hr.gd (by lia) (fun _ _ e=>e) (fun h' u tk k=>⟨.str p.shown,H,I.kept k,⟨_,rfl⟩,q⟩) h4
structure Blt3 (mg:Str -> Option Value):Prop where
 repr:mg "repr" = none
 dict:mg "dict" = none
theorem JR:bootBuiltins "repr" = some (.builtin "repr"):=by decide +kernel
end
end L2
set_option maxRecDepth 100000
namespace L2
open PySem PySem.Spec PyProof.Rows
section
variable {A:AC} {X:Cx} {a b c:Expr} {ta tb tc:TD} {pos:Pos}
end
end L2
set_option maxRecDepth 100000
namespace L2
open PySem PySem.Spec PyProof.Rows
def Vn (rho:Rho):Bool:=rho.all fun o=>match o with
 | some d=>zu d
 | none=>true
theorem KD {rho:Rho} {i:Nat} {d:D} (h:Vn rho = true) (e:rho[i]? = some (some d)):zu d = true:=by
 have:=List.all_eq_true.mp h _ (List.mem_of_getElem? e)
 exact this
def zs2 (i j:Nat) (tb:TD):TSD:=fun F rho n=>i < rho.length /\ j < rho.length /\ Vn rho = true /\ tb rho n fun d n1=>F.nx ((rho.set i (some (.own []))).set j (some d)) n1
@[simp] theorem zL7 {i j tb F rho n}:zs2 i j tb F rho n = (i < rho.length /\ j < rho.length /\ Vn rho = true /\ tb rho n fun d n1=>F.nx ((rho.set i (some (.own []))).set j (some d)) n1):=rfl
section
variable {A:AC} {X:Cx} {b:Expr} {tb:TD} {pos:Pos}
theorem AmO.still {os n rho sg H ds vs} {H1:Hp} {Z:Addr -> Prop} (I:AmO A os n rho sg H ds vs) (ho:Vn rho = true) (hH:∀ a o,H a = some o -> H1 a = some o) (hz:∀ a,H a ≠ none -> Z a -> Zof A os a) (hz1:∀ a,Z a -> H1 a ≠ none) (hg:∀ a,A.G = some a -> Z a) :
  AmO ⟨A.K,A.G,Z,H1⟩ [] n rho sg H1 [] []:=by
 have hz':∀ a,H a ≠ none -> Zof ⟨A.K,A.G,Z,H1⟩ [] a -> Zof A os a:=fun a h z=>by
  rcases z with z | ⟨p,hp,_⟩
  ·exact hz a h z
  ·simp at hp
 refine ⟨I.len,fun i d e=>?_,.nil,.nil,fun p hp=>by simp at hp,fun a e=>?_,hg,fun a o _ e=>e,⟨hz1,fun P q t=>⟨hH P _ (I.zO.2 P q t).1,(I.zO.2 P q t).2⟩⟩⟩
 ·obtain ⟨v, e1, e2⟩ := I.slot i d e
  have hd:=KD ho e
  have r:=Rep.mono (K:=A.K) (G:=A.G) hz' (fun a o _ e=>hH a o e) _ _ (e2.rep hd)
  refine ⟨v,e1,?_⟩
  cases d <;> first | exact r | (simp [zu] at hd; done)
 ·obtain ⟨zs, u1, u2, q, r⟩ := I.st a e
  exact ⟨zs,u1,u2,hH a _ q,r⟩
theorem AmO.setOwnX {os:List (Nat × Addr)} {n:Nat} {rho:Rho} {sg:St} {H:Hp} {ds es:List D} {vs xs:List V} {i:Nat} {p:Addr} (I:AmO A os n rho sg H ds vs) (hi:i < rho.length) (hp:H p = none) (r:Reps A.K A.G (Zof A os) H es xs) :
  AmO A ((i,p) :: os.filter fun q=>decide (q.1 ≠ i)) n (rho.set i (some (.own es))) (sg.set i (some (.ref p))) (upd H p (.lst xs)) ds vs:=by
 have hf:∀ a u,H a = some u -> upd H p (.lst xs) a = some u:=fun a u e=>by rw [zG (zU e hp)]; exact e
 have zz:∀ a,H a ≠ none -> Zof A ((i,p) :: os.filter fun q=>decide (q.1 ≠ i)) a -> Zof A os a:=fun a ha z=>by
  rcases z with z | ⟨q,hq,e⟩
  ·exact .inl z
  ·rcases List.mem_cons.mp hq with rfl | hq
   ·exact absurd (by rw [<- e]; exact hp) ha
   ·exact .inr ⟨q,(List.mem_filter.mp hq).1,e⟩
 have h0:A.H0 p = none:=by
  cases q:A.H0 p with
  | none=>rfl
  | some o =>
   by_cases e:A.G = some p
   ·obtain ⟨x, y, z, w, _⟩ := I.st p e
    rw [w] at hp; cases hp
   ·have := I.fr p o e q
    rw [this] at hp; cases hp
 refine ⟨by simp [I.len],fun j c e=>?_,Reps.mono zz (fun a u _ e=>hf a u e) _ _ I.pend,?_,fun q hq=>?_,fun a e=>?_,I.gz,fun a u h e=>hf a u (I.fr a u h e),I.z0⟩
 ·by_cases hj : j = i
  ·subst hj
   rw [List.getElem?_set_self hi] at e
   cases e
   exact ⟨.ref p,List.getElem?_set_self (by rw [<- I.len]; exact hi),p,xs,rfl,List.mem_cons_self,xg,Reps.mono zz (fun a u _ e=>hf a u e) _ _ r⟩
  ·rw [List.getElem?_set_ne (Ne.symm hj)] at e
   obtain ⟨u,e1,e2⟩:=I.slot j c e
   exact ⟨u,by rw [List.getElem?_set_ne (Ne.symm hj)]; exact e1,SlotR.mono zz (fun a u _ e=>hf a u e) (fun a ys m q=>⟨List.mem_cons_of_mem _ (List.mem_filter.mpr ⟨m,by simpa using hj⟩),hf a _ q⟩) _ _ e2⟩
 ·refine List.pairwise_cons.mpr ⟨fun q hq => ?_, I.nd.filter _⟩
  obtain ⟨m1,m2⟩:=List.mem_filter.mp hq
  refine ⟨fun z=>by simp [<- z] at m2,fun z=>(I.fresh q m1).2.2 ?_⟩
  have z':p = q.2:=z
  rw [<- z']; exact hp
 ·rcases List.mem_cons.mp hq with rfl | hq
  ·exact ⟨h0,fun z=>I.z0.1 p z h0,by show upd H p _ p ≠ none; rw [xg]; simp⟩
  ·obtain ⟨f1, f2, f3⟩ := I.fresh q (List.mem_filter.mp hq).1
   refine ⟨f1,f2,?_⟩
   cases w:H q.2 with
   | none=>exact absurd w f3
   | some u=>rw [hf _ _ w]; simp
 ·obtain ⟨x, y, z, q, rr⟩ := I.st a e
  exact ⟨x,y,z,hf _ _ q,rr⟩
theorem QL {i j:Nat} {x y:Str} {px py pt pl:Pos} {kt k2 pt2} (hc:X.calm = true) (hN:X.N.Nodup) (hi:X.N[i]? = some x) (hj:X.N[j]? = some y) (hij:i ≠ j)
  (hx:X.env.scope.names.lookup x = some .local) (hy:X.env.scope.names.lookup y = some .local) (hb:∀ (Z:Addr -> Prop) (H0:Hp),PD ⟨A.K,A.G,Z,H0⟩ X b tb)
  (hk:X.env.blockKind = .function:=by rfl) (hl:py.line = px.line:=by rfl) (hxy:x ≠ y:=by decide) (hsb:yu b = false:=by rfl) (hf:[Expr.List [] pl,b].all (foldedForSure 8) = false:=by decide +kernel) (hca:[Expr.List [] pl,b].all (constantsAlone 8) = false:=by decide +kernel) :
  PSD A X (.Assign [.Tuple [.Name x px,.Name y py] kt pt] (.Tuple [.List [] pl,b] k2 pt2) pos) (zs2 i j tb):=by
 with_unfolding_all
  exact (by
   have hb':PE X b (fun sg H Q=>∃ Z H0,tOf ⟨A.K,A.G,Z,H0⟩ tb sg H Q):=fun pins s sg H Q I q=>by
    obtain ⟨Z,H0,q⟩:=q
    exact hb Z H0 pins s sg H Q I q
   refine (Kb hc hN hi hj hij hx hy (vn (jT pa_nil) (vn hb' pa_nil (sE hsb)) (sE rfl)) (Zv hk hx hy hl hxy rfl hsb hf hca) rfl).imp fun E sg H h=>?_
   obtain ⟨rho,n,F,ds,vs,⟨os,I⟩,⟨hil,hjl,ho,ht⟩,ok⟩:=h
   refine ⟨Nat.zero_le _,fun p hp=>?_⟩
   have I1:=I.setOwnX (es:=[]) (xs:=[]) hil hp .nil
   have hH:∀ a o,H a = some o -> upd H p (.lst []) a = some o:=fun a o e=>by rw [zG (zU e hp)]; exact e
   refine ⟨fun a=>Zof A os a \/ a = p,upd H p (.lst []),rho,n,_,[],[],⟨[],I.still ho hH (fun a h z=>?_) (fun a z=>?_) (fun a e=>.inl (.inl (I.gz a e)))⟩,ht,fun v H2 n2 d ⟨os2,J⟩ k=>?_⟩
   ·rcases z with z | rfl
    ·exact z
    ·exact absurd hp h
   ·rcases z with z | rfl
    ·cases e : H a with
     | none=>exact absurd e (I.zH a z)
     | some o=>rw [hH a o e]; simp
    ·rw [xg]; simp
   ·obtain ⟨J1, r⟩ := J.pop
    have C:=I1.called (n':=n2) (H':=H2) (fun a o g e=>J1.fr a o g e) J1.st
    refine ⟨_,_,rfl,ok.nx _ _ _ _ ⟨_,(C.push (d:=d) (v:=v) ?_).set (by simpa using hjl)⟩ k⟩
    refine Rep.mono (K:=A.K) (G:=A.G) (fun a h z=>?_) (fun a o _ e=>e) _ _ r
    rcases z with z | ⟨q,hq,e⟩
    ·exact .inl (.inl (.inl z))
    ·rcases List.mem_cons.mp hq with rfl | hq
     ·exact .inl (.inr e.symm)
     ·exact .inl (.inl (.inr ⟨q,(List.mem_filter.mp hq).1,e⟩)))
end
end L2
set_option maxRecDepth 100000
namespace L2
open PySem PySem.Spec PyProof.Rows PySem.SeqAt
section
variable {A:AC} {X:Cx} {a b c e:Expr} {ta tb tc te:TD} {pos:Pos}
def zV5 (K:PySem.W.Frag):R2:=fun x y H Q=>∃ p q xs,x = .ref p /\ y = .ref q /\ SqT K H p xs /\ SqT K H q [] /\ Q (.bl xs.isEmpty) H
theorem zx1 {n:Nat} (hr:Room n X.A):OpR X (compareOp .Eq) (zV5 X.K):=by
 intro pins s σ H x y v u Q I rx ry h
 obtain ⟨p,q,xs,rfl,rfl,sq,sq',k⟩:=h
 cases rx
 cases ry
 obtain ⟨its,rv,pl,hz⟩:=I.tuple sq
 obtain ⟨its',rv',pl',hz'⟩:=I.tuple sq'
 cases rv'
 have hu:=hr.units
 have R:=RcAt.tuples (A:=X.A) (e:=fun _=>true) (show s.heap.IsTuple p its.toArray from pl) (show s.heap.IsTuple q #[] from pl') (by lia) (fun j l1 l2=>absurd l2 (by simp))
 have ev:((List.range (min its.toArray.size (#[]:Array Value).size)).all (fun _=>true) && its.toArray.size == (#[]:Array Value).size) = xs.isEmpty:=by
  have hl:=rv.length
  cases xs with
  | nil=>cases its with
   | nil=>rfl
   | cons _ _=>simp at hl
  | cons _ _=>cases its with
   | nil=>simp at hl
   | cons _ _=>simp
 exact (rcC R ev) X.prog X.w X.xe _ ⟨.bl xs.isEmpty,H,I,rfl,k⟩
def zt1:RD2:=fun d1 d2 k=>XW d1 fun es=>d2 = .tup [] /\ k (.bl es.isEmpty)
@[simp] theorem zM3 {d1 d2 k}:zt1 d1 d2 k = XW d1 fun es=>d2 = .tup [] /\ k (.bl es.isEmpty):=rfl
theorem zs8:yo A (zV5 A.K) zt1:=by
 rintro os n rho sg H ds vs d1 d2 v1 v2 k Q I ⟨es,rfl,rfl,q⟩ hQ
 obtain ⟨I1,r2⟩:=I.pop
 obtain ⟨I2,r1⟩:=I1.pop
 obtain ⟨a,xs,rfl,sq,rs⟩:=r1.tup_inv
 obtain ⟨b,ys,rfl,sq',rs'⟩:=r2.tup_inv
 have e:=rs'.nil_inv
 subst e
 have hl:=rs.length
 have ee:xs.isEmpty = es.isEmpty:=by cases xs <;> cases es <;> first | rfl | (simp at hl; done)
 exact ⟨a,b,xs,rfl,rfl,sq.sq,sq'.sq,by rw [ee]; exact hQ _ H _ ⟨os,I2.push (Rep.ofS rfl)⟩ q⟩
def zt3:RD2:=fun d1 d2 k=>∃ es i,d1 = .lst es /\ d2 = .int i /\ 0 <= i /\ i < 1000 /\ es.length * i.toNat <= sizeLine /\ k (.lst (List.replicate i.toNat es).flatten)
@[simp] theorem zE3 {es i k}:zt3 (.lst es) (.int i) k ↔ (0 <= i /\ i < 1000 /\ es.length * i.toNat <= sizeLine /\ k (.lst (List.replicate i.toNat es).flatten)):=⟨fun ⟨_,_,e,e',h⟩=>by cases e; cases e'; exact h,fun h=>⟨_,_,rfl,rfl,h⟩⟩
def zp9 (es:List D) (k:List D -> Prop):Prop:=∃ fs,(es = [.lst fs] \/ es = [.tup fs]) /\ k fs
@[simp] theorem zL5 {fs:List D} {k}:zp9 [.lst fs] k ↔ k fs:=⟨fun ⟨_,e,h⟩=>by rcases e with e | e <;> cases e; exact h,fun h=>⟨_,.inl rfl,h⟩⟩
@[simp] theorem zL4 {fs:List D} {k}:zp9 [.tup fs] k ↔ k fs:=⟨fun ⟨_,e,h⟩=>by rcases e with e | e <;> cases e; exact h,fun h=>⟨_,.inr rfl,h⟩⟩
def zs5 (i:Nat) (t:TAD):TSD:=fun F rho n=>i < rho.length /\ t rho n fun es n1=>zp9 es fun fs=>F.nx (rho.set i (some (.own fs))) n1
@[simp] theorem zE1 {i t F rho n}:zs5 i t F rho n = (i < rho.length /\ t rho n fun es n1=>zp9 es fun fs=>F.nx (rho.set i (some (.own fs))) n1):=rfl
end
end L2
set_option maxRecDepth 100000
namespace L2
open PySem PySem.Spec PyProof.Rows PySem.SeqAt
mutual
def xt:D -> PyData
 | .bl b=>.bool b
 | .int i=>.int i
 | .str x=>.str x
 | .tup ds=>.tuple (xM ds)
 | .lst ds=>.list (xM ds)
 | _=>.none
def xM:List D -> List PyData
 | []=>[]
 | d :: ds=>xt d :: xM ds
end
mutual
def okR:D -> Nat -> Bool
 | .non,_=>true
 | .bl _,_=>true
 | .int i,_=>decide (i.natAbs.log2 < 1920)
 | .str x,_=>decide ((reprText x).length <= 2000)
 | .tup ds,k=>match k with
  | 0=>false
  | k + 1=>za5 ds k
 | .lst ds,k=>match k with
  | 0=>false
  | k + 1=>za5 ds k
 | _,_=>false
def za5:List D -> Nat -> Bool
 | [],_=>true
 | d :: ds,k=>okR d k && za5 ds k
end
mutual
def jV:D -> Nat
 | .tup ds=>vW ds + 1
 | .lst ds=>vW ds + 1
 | _=>1
def vW:List D -> Nat
 | []=>0
 | d :: ds=>jV d + vW ds
end
def VE (d:D):Str:=(xt d).shown
theorem okRs_iff:∀ {ds:List D} {k:Nat},za5 ds k = true ↔ ∀ d ∈ ds,okR d k = true
 | [],k=>by unfold za5; simp
 | d :: ds,k=>by
  unfold za5
  rw [Bool.and_eq_true,okRs_iff]
  simp
theorem okR_tup {ds:List D} {k:Nat}:okR (.tup ds) (k + 1) = true ↔ ∀ d ∈ ds,okR d k = true:=by
 have e:okR (.tup ds) (k + 1) = za5 ds k:=by rw [okR]
 rw [e,okRs_iff]
structure ShownA (d:D) (k:Nat):Prop where
 show1:(xt d).showable = true
 dict:(xt d).hasDict = false
 deep:(xt d).depth <= k
 len:(xt d).shown.length + 3 <= 2005 * jV d
structure ShownAs (ds:List D) (k:Nat):Prop where
 show1:PyData.showableAll (xM ds) = true
 dict:PyData.hasDictAll (xM ds) = false
 deep:PyData.depthAll (xM ds) <= k
 len:((PyData.shownAll (xM ds)).map (·.length)).sum + 2 * (PyData.shownAll (xM ds)).length <= 2005 * vW ds
mutual
theorem Yx:∀ (d:D) (k:Nat),okR d k = true -> ShownA d k
 | .non,k,h=>⟨by unfold xt PyData.showable; rfl,by unfold xt PyData.hasDict; rfl,by unfold xt PyData.depth; lia,by unfold xt PyData.shown jV; decide +kernel⟩
 | .bl b,k,h=>⟨by unfold xt PyData.showable; rfl,by unfold xt PyData.hasDict; rfl,by unfold xt PyData.depth; lia,by unfold xt PyData.shown jV; cases b <;> decide +kernel⟩
 | .int i,k,h=>by
  have h':i.natAbs.log2 < 1920:=of_decide_eq_true (by unfold okR at h; exact h)
  refine ⟨by unfold xt PyData.showable; exact decide_eq_true h',by unfold xt PyData.hasDict; rfl,by unfold xt PyData.depth; lia,?_⟩
  have e:=int_text_length_le (k:=1920) (by decide) h'
  unfold xt PyData.shown jV
  rw [PySem.ofString_length]
  lia
 | .str x,k,h=>by
  have h':(reprText x).length <= 2000:=of_decide_eq_true (by unfold okR at h; exact h)
  refine ⟨by unfold xt PyData.showable; rfl,by unfold xt PyData.hasDict; rfl,by unfold xt PyData.depth; lia,?_⟩
  unfold xt PyData.shown jV
  lia
 | .tup ds,0,h=>by simp [okR] at h
 | .tup ds,k + 1,h=>by
  have S:=kG ds k (by simpa [okR] using h)
  have L:=tupleText_len_le (PyData.shownAll (xM ds))
  refine ⟨by unfold xt PyData.showable; exact S.show1,by unfold xt PyData.hasDict; exact S.dict,by unfold xt PyData.depth; have:=S.deep; lia,?_⟩
  unfold xt PyData.shown jV
  have:=S.len
  lia
 | .lst ds,0,h=>by simp [okR] at h
 | .lst ds,k + 1,h=>by
  have S:=kG ds k (by simpa [okR] using h)
  have L:=listText_len_le (PyData.shownAll (xM ds))
  refine ⟨by unfold xt PyData.showable; exact S.show1,by unfold xt PyData.hasDict; exact S.dict,by unfold xt PyData.depth; have:=S.deep; lia,?_⟩
  unfold xt PyData.shown jV
  have:=S.len
  lia
 | .ty _,k,h=>by simp [okR] at h
 | .fz _,k,h=>by simp [okR] at h
 | .st,k,h=>by simp [okR] at h
 | .own _,k,h=>by simp [okR] at h
 | .dic,k,h=>by simp [okR] at h
 | .dct _ _,k,h=>by simp [okR] at h
theorem kG:∀ (ds:List D) (k:Nat),za5 ds k = true -> ShownAs ds k
 | [],k,_=>⟨by unfold xM PyData.showableAll; rfl,by unfold xM PyData.hasDictAll; rfl,by unfold xM PyData.depthAll; lia,by unfold xM PyData.shownAll vW; simp⟩
 | d :: ds,k,h=>by
  have h':=okRs_iff.mp h
  have S:=Yx d k (h' d List.mem_cons_self)
  have T:=kG ds k (okRs_iff.mpr fun e he=>h' e (List.mem_cons_of_mem _ he))
  refine ⟨by unfold xM PyData.showableAll; rw [S.show1,T.show1]; rfl,by unfold xM PyData.hasDictAll; rw [S.dict,T.dict]; rfl,by unfold xM PyData.depthAll; have:=S.deep; have:=T.deep; lia,?_⟩
  unfold xM PyData.shownAll vW
  have:=S.len
  have:=T.len
  simp only [List.map_cons,List.sum_cons,List.length_cons]
  lia
end
section
variable {X:Cx} {pins:List (Addr × Obj)} {σ:St} {H:Hp} {s:Shared} {G:Option Addr} {Z:Addr -> Prop}
mutual
theorem YH (I:Inv X pins σ H s):∀ (d:D) (k:Nat) (v:V) (u:Value),okR d k = true -> Rep X.K G Z H d v -> RelV v u -> ∃ as,Reads s.heap u (xt d) as
 | .non,k,v,u,_,r,q=>by
  have e:v = .non:=r.toS rfl
  subst e
  cases q
  unfold xt
  exact ⟨_,.none⟩
 | .bl b,k,v,u,_,r,q=>by
  have e:v = .bl b:=r.toS rfl
  subst e
  cases q
  unfold xt
  exact ⟨_,.bool b⟩
 | .int i,k,v,u,_,r,q=>by
  have e:=r.int_inv
  subst e
  obtain ⟨t,rfl⟩:=q
  unfold xt
  exact ⟨_,.int i t⟩
 | .str x,k,v,u,_,r,q=>by
  have e:v = .str x:=r.toS rfl
  subst e
  obtain ⟨t,rfl⟩:=q
  unfold xt
  exact ⟨_,.str x t⟩
 | .tup ds,0,v,u,h,_,_=>by simp [okR] at h
 | .tup ds,k + 1,v,u,h,r,q=>by
  obtain ⟨a,xs,rfl,sq,rs⟩:=r.tup_inv
  have e:u = .ref a:=q
  subst e
  obtain ⟨its,rv,⟨o,ho,hc,n,hd⟩,_⟩:=I.tuple sq.sq
  obtain ⟨as,ra⟩:=kM I ds k xs its (by simpa [okR] using h) rs rv
  unfold xt
  exact ⟨as,.tuple ho hc hd (by simpa using ra)⟩
 | .lst ds,0,v,u,h,_,_=>by simp [okR] at h
 | .lst ds,k + 1,v,u,h,r,q=>by
  obtain ⟨a,xs,rfl,sq,rs⟩:=r.lst_inv
  have e:u = .ref a:=q
  subst e
  obtain ⟨its,rv,pl,_⟩:=I.list sq.sq
  obtain ⟨o,ho,hc,n,hd⟩:=pl.isList
  obtain ⟨as,ra⟩:=kM I ds k xs its (by simpa [okR] using h) rs rv
  unfold xt
  exact ⟨_,.list ho hc hd (by simpa using ra)⟩
 | .ty _,k,v,u,h,_,_=>by simp [okR] at h
 | .fz _,k,v,u,h,_,_=>by simp [okR] at h
 | .st,k,v,u,h,_,_=>by simp [okR] at h
 | .own _,k,v,u,h,_,_=>by simp [okR] at h
 | .dic,k,v,u,h,_,_=>by simp [okR] at h
 | .dct _ _,k,v,u,h,_,_=>by simp [okR] at h
theorem kM (I:Inv X pins σ H s):∀ (ds:List D) (k:Nat) (vs:List V) (us:List Value),za5 ds k = true -> Reps X.K G Z H ds vs -> Vals vs us -> ∃ as,ReadsAll s.heap us (xM ds) as
 | [],k,vs,us,_,r,q=>by
  have e:=r.nil_inv
  subst e
  cases q
  unfold xM
  exact ⟨_,.nil⟩
 | d :: ds, k, vs, us, h, r, q => by
  have h':=okRs_iff.mp h
  obtain ⟨v,xs,rfl,r1,r2⟩:=r.split
  cases q with
  | cons q1 q2 =>
   obtain ⟨as,ra⟩:=YH I d k v _ (h' d List.mem_cons_self) r1 q1
   obtain ⟨bs,rb⟩:=kM I ds k xs _ (okRs_iff.mpr fun e he=>h' e (List.mem_cons_of_mem _ he)) r2 q2
   unfold xM
   exact ⟨_,.cons ra rb⟩
end
end
def zA3:List D -> (D -> Prop) -> Prop:=fun es k=>∃ d,es = [d] /\ zo2 d = true /\ okR d 15 = true /\ jV d <= 8000 /\ k (.str (VE d))
@[simp] theorem zO5 {d k}:zA3 [d] k ↔ (zo2 d = true /\ okR d 15 = true /\ jV d <= 8000 /\ k (.str (VE d))):=⟨fun ⟨_,e,h⟩=>by cases e; exact h,fun h=>⟨_,rfl,h⟩⟩
theorem JB {A:AC} {X:Cx} (hK:X.K = A.K):xv A (fun xs H Q=>∃ (y:V) (p:PyData),xs = [y] /\ zD3 X H y p /\ p.showable = true /\ p.hasDict = false /\ p.depth <= 20 /\ p.shown.length <= sizeLine /\ Q (.str p.shown) H) zA3:=by
 rintro os n rho sg H ds vs es ws k Q I rs ⟨d,rfl,ht,h1,h2,q⟩ hQ
 obtain ⟨v,rfl,r⟩:=yi rs
 have S:=Yx _ _ h1
 have:=S.len
 rw [<- hK] at r
 refine ⟨v,_,rfl,fun pins s σ u J ru=>?_,S.show1,S.dict,by have:=S.deep; lia,by rw [sizeLine_eq]; lia,hQ _ H _ ⟨os,I.push (Rep.ofS (d:=.str (VE d)) rfl)⟩ q⟩
 obtain ⟨as,rd⟩:=YH J _ _ v u h1 r ru
 obtain ⟨a,rfl⟩:∃ a,v = .ref a:=by
  cases d with
  | tup ds=>obtain ⟨a,xs,e,_⟩:=r.tup_inv; exact ⟨a,e⟩
  | lst ds=>obtain ⟨a,xs,e,_⟩:=r.lst_inv; exact ⟨a,e⟩
  | _=>simp [zo2] at ht
 have e:u = .ref a:=ru
 subst e
 exact ⟨a,as,rfl,rd⟩
end L2
set_option maxRecDepth 100000
namespace L2
open PySem PySem.Spec PyProof.Rows
def Qx (es:List D) (e d:D) (k:List D -> Prop):Prop:=∃ j m,e = .int j /\ ixN es.length j = some m /\ k (es.set m d)
def Qz (i:Nat) (ta:TAD) (tb1 tb2:TD):TSD:=fun F rho n=>vV rho[i]? fun es=>ta rho n fun cs n1=>VQ cs fun d1 d2=>tb1 rho n1 fun e1 n2=>Qx es e1 d1 fun es1 =>
 tb2 (rho.set i (some (.own es1))) n2 fun e2 n3=>Qx es1 e2 d2 fun es2=>F.nx (rho.set i (some (.own es2))) n3
@[simp] theorem zq2 {i ta tb1 tb2 F rho n}:Qz i ta tb1 tb2 F rho n = vV rho[i]? fun es=>ta rho n fun cs n1=>VQ cs fun d1 d2=>tb1 rho n1 fun e1 n2=>Qx es e1 d1 fun es1 =>
 tb2 (rho.set i (some (.own es1))) n2 fun e2 n3=>Qx es1 e2 d2 fun es2=>F.nx (rho.set i (some (.own es2))) n3:=rfl
section
variable {A:AC} {X:Cx} {a1 a2 b1 b2:Expr} {ta:TAD} {tb1 tb2:TD} {pos:Pos}
end
end L2
set_option maxRecDepth 100000
namespace PySem
open Sem (wp)
namespace F
end F
section
variable {prog:Program} {w:World} {K:Type} [DecidableEq K] {knd:KeyKind prog w K} {A:Around} {R:Result -> Shared -> Prop}
end
end PySem
set_option maxRecDepth 100000
namespace PySem
open Sem (wp)
section
variable {prog:Program} {w:World} {K:Type} [DecidableEq K] {knd:KeyKind prog w K} {A:Around} {E:Value -> Shared -> Prop} {s:Shared}
end
end PySem
set_option maxRecDepth 100000
namespace L2
open PySem PySem.Spec PyProof.Rows
section
variable {X:Cx} {A:AC}
end
end L2
set_option maxRecDepth 100000
namespace L2
open PySem PySem.Spec PyProof.Rows PySem.SeqAt
section
variable {A:AC} {X:Cx}
def zr1 (d:D) (k:List (List D) -> Prop):Prop:=∃ ess:List (List D),d = .tup (ess.map D.tup) /\ k ess
def zJ9:RD2:=fun d1 d2 k=>d1 = .tup [] /\ zr1 d2 fun ess=>k (.bl (ess.any List.isEmpty))
@[simp] theorem zE6 {a b k} : zJ9 (.tup []) (.tup [.tup a, .tup b]) k ↔ k (.bl (a.isEmpty || b.isEmpty)) := by
 constructor
 ·rintro ⟨_, ess, e, h⟩
  have:ess = [a,b]:=by
   have e':=D.tup.inj e
   match ess,e' with
   | [x,y],e'=>simp at e'; rw [e'.1,e'.2]
   | [],e'=>simp at e'
   | [x],e'=>simp at e'
   | x :: y :: z :: r,e'=>simp at e'
  subst this
  simpa using h
 ·intro h
  exact ⟨rfl,[a,b],rfl,by simpa using h⟩
end
end L2
set_option maxRecDepth 100000
namespace L2
open PySem PySem.Spec PyProof.Rows PySem.SeqAt
mutual
def okN:D -> Nat -> Bool
 | .non,_=>true
 | .int i,_=>decide (i.natAbs.log2 < 20)
 | .tup ds,k=>match k with
  | 0=>false
  | k + 1=>xa6 ds k
 | _,_=>false
def xa6:List D -> Nat -> Bool
 | [],_=>true
 | d :: ds,k=>okN d k && xa6 ds k
end
def zS6:List D -> (D -> Prop) -> Prop:=fun es k=>∃ ds,es = [.tup ds] /\ okN (.tup ds) 20 = true /\ jV (.tup ds) <= 400000 /\ k (.str (VE (.tup ds)))
@[simp] theorem zO4 {ds k}:zS6 [.tup ds] k ↔ (okN (.tup ds) 20 = true /\ jV (.tup ds) <= 400000 /\ k (.str (VE (.tup ds)))):=⟨fun ⟨_,e,h⟩=>by cases e; exact h,fun h=>⟨_,rfl,h⟩⟩
end L2
set_option maxRecDepth 100000
namespace L2
open PySem PySem.Spec PyProof.Rows
section
variable {A:AC}
def zT0:List D -> (D -> Prop) -> Prop:=fun es k=>∃ i:Int,es = [.int i] /\ k (.bl (i != 0))
@[simp] theorem zP4 {i:Int} {k}:zT0 [.int i] k ↔ k (.bl (i != 0)):=⟨fun ⟨_,e,h⟩=>by cases e; exact h,fun h=>⟨_,rfl,h⟩⟩
end
end L2
set_option maxRecDepth 100000
namespace L2
open PySem PySem.Spec PyProof.Rows
section
variable {A:AC} {X:Cx} {pos:Pos} {m:Nat}
def zT5 (k:Nat) (gs:ze0):TGD:=fun d rho P=>∃ es,d = .lst es /\ es.length = k /\ gs es rho P
@[simp] theorem zQ1 {k gs es rho P}:zT5 k gs (.lst es) rho P ↔ (es.length = k /\ gs es rho P):=⟨fun ⟨_,e,h⟩=>by cases e; exact h,fun h=>⟨_,rfl,h⟩⟩
end
end L2
set_option maxRecDepth 100000
namespace L2
open PySem PySem.Spec PyProof.Rows
section
variable {A:AC} {X:Cx}
def zi8:D -> Str
 | .non => "None"
 | d=>VE d
def zS0 (d:D):Prop:=d = .non \/ (zo2 d = true /\ okR d 20 = true /\ jV d <= 8000)
def zA1:List D -> (D -> Prop) -> Prop:=fun es k=>∃ d,es = [d] /\ zS0 d /\ k (.str (zi8 d))
@[simp] theorem zF8 {d k}:zA1 [d] k ↔ (zS0 d /\ k (.str (zi8 d))):=⟨fun ⟨_,e,h⟩=>by cases e; exact h,fun h=>⟨_,rfl,h⟩⟩
end
theorem lo {sc:Scope} {x:Str} (h:(match sc.names.lookup x with | some .local=>true | some .cell=>true | _=>false) = true):Loc sc x:=by
 unfold Loc
 split at h
 ·exact .inl (by assumption)
 ·exact .inr (by assumption)
 ·cases h
end L2
set_option maxRecDepth 100000
namespace L2
open PySem PySem.Spec PyProof.Rows PySem.SeqAt
section
variable {A:AC} {X:Cx}
def QF:RD2:=fun d1 d2 k=>d1 = .non /\ ∃ ess:List (List D),d2 = .lst (ess.map D.lst) /\ k (.bl false)
@[simp] theorem zF0 {a b k}:QF .non (.lst [.lst a,.lst b]) k ↔ k (.bl false):=⟨fun ⟨_,_,_,h⟩=>h,fun h=>⟨rfl,[a,b],rfl,h⟩⟩
def zS8:List D -> (D -> Prop) -> Prop:=fun es k=>∃ ks ds,es = [.dct ks ds] /\ ks.length = ds.length /\ k (.int (ks.length:Int))
@[simp] theorem zP1 {ks ds k}:zS8 [.dct ks ds] k ↔ (ks.length = ds.length /\ k (.int (ks.length:Int))):=⟨fun ⟨_,_,e,h⟩=>by cases e; exact h,fun h=>⟨_,_,rfl,h⟩⟩
end
end L2
set_option maxRecDepth 100000
namespace L2
open PySem PySem.Spec PyProof.Rows PySem.SeqAt
section
variable {A:AC} {X:Cx}
def zU1 (te:TD):TD:=fun rho n P=>te rho n fun d n1=>∃ x:Int,d = .int x /\ P (.int ((Builtin.Int.intBits x:Nat):Int)) n1
@[simp] theorem zQ7 {te:TD} {rho:Rho} {n:Nat} {P:D -> Nat -> Prop}:zU1 te rho n P = te rho n fun d n1=>∃ x:Int,d = .int x /\ P (.int ((Builtin.Int.intBits x:Nat):Int)) n1:=rfl
end
end L2
set_option maxRecDepth 100000
namespace L2
open PySem PySem.Spec PyProof.Rows PySem.SeqAt
section
variable {A:AC} {X:Cx}
def zA8:List D -> (D -> Prop) -> Prop:=fun es k=>∃ j:Int,es = [.int j] /\ 0 <= j /\ j <= 1000 /\ k (.lst ((List.range j.toNat).map fun i:Nat=>D.int (i:Int)))
@[simp] theorem zG1 {j:Int} {k:D -> Prop}:zA8 [.int j] k ↔ (0 <= j /\ j <= 1000 /\ k (.lst ((List.range j.toNat).map fun i:Nat=>D.int (i:Int)))):=⟨fun ⟨_,e,h⟩=>by cases e; exact h,fun h=>⟨_,rfl,h⟩⟩
end
end L2
set_option maxRecDepth 100000
namespace L2
open PySem PySem.Spec PyProof.Rows
structure LamScope (N:List Str) (p:Str) (scope:Scope) (cl:List (Str × Addr)):Prop where
 kind:scope.kind = .function
 co:scope.isCoroutine = false
 gen:scope.isGenerator = false
 nocell:∀ x ∈ scope.names,x.2 ≠ .cell
 head:N[0]? = some p
 par:scope.names.lookup p = some .local
 free:∀ x,scope.names.lookup x = some .free -> ∃ c,cl.lookup x = some c
 rest:∀ i x,N[i + 1]? = some x -> scope.names.lookup x = some .free
def VZ (X:Cx) (A:Around) (N:List Str) (qual:Str) (scope:Scope) (f c':Addr) (cl:List (Str × Addr)) (s:Shared) (H:Hp):Cx where
 prog:=X.prog
 w:=X.w
 K:=X.K
 mg:=X.mg
 base:=X.base
 A:=A.deeper (PySem.W.envX qual scope s.heap.objs.size f (.ref c') cl)
 N:=N
 s₀:=s
 H₀:=H
 env:=PySem.W.envX qual scope s.heap.objs.size f (.ref c') cl
 outer:=X.stack
 stack:=PySem.W.envX qual scope s.heap.objs.size f (.ref c') cl :: X.stack
 ex:=[]
 fn:=fun _=>false
 calm:=true
 pn:=[]
 xe:=fun _ _=>False
section
variable {X:Cx} {pins:List (Addr × Obj)} {σ:St} {H:Hp} {s:Shared} {A:Around} {f c':Addr} {qual p:Str} {params:Arguments} {body:Expr} {scope:Scope} {cl:List (Str × Addr)} {pm ctv:Value} {N:List Str} {v:V} {u:Value} {cv:List V}
theorem zn4 {h1:Heap} {tk:Nat} (I:Inv X pins σ H s) (hA:A.frames = some X.stack) (hh:A.handled = none) (S:LamScope N p scope cl) (hN:N.length = cv.length + 1) (r:RelV v u)
  (sub:∀ x c,cl.lookup x = some c -> X.env.cells.lookup x = some c)
  (cap:∀ i x y,N[i + 1]? = some x -> cv[i]? = some y -> ∃ c,cl.lookup x = some c /\ ∃ u,RelV y u /\ s.heap.IsCell c (some u))
  (hns:h1.Ns s.heap.objs.size (fun y=>[(p,u)].reverse.lookup y)) (hk:∀ b o,s.heap.get? b = some o -> h1.get? b = some o) :
  Inv (VZ X A N qual scope f c' cl s H) [] (some v :: cv.map some) H { s with heap:=h1,toks:=tk }:=by
 have noA:∀ b:Addr,b ∉ (VZ X A N qual scope f c' cl s H).ex:=fun b z=>absurd (show b ∈ ([]:List Addr) from z) (by simp)
 refine ⟨⟨I.mod,S.kind,rfl,rfl,Nat.le_refl _,fun y z c h1 h2=>?_,fun y hy=>?_,fun y c z _=>?_,fun _=>hh,Around.frames_deeper hA,.inr ⟨rfl,rfl⟩,fun b z=>absurd z (noA b),I.bs,Nat.le_trans I.ok.bsz I.sz,fun b _ _=>noA b,fun b z=>absurd z (noA b),I.stack,I.stkFree⟩,
  rfl,I.bare,Un.kept hk,⟨_,hns,fun i y z e1 e2 e3=>?_⟩,fun y c h=>?_,I.hok.fresh (Nat.le_refl _),fun y c h=>I.freeC y c (sub y c h),fun p hp=>absurd (show p ∈ ([]:List (Addr × Obj)) from hp) (by simp),I.hok.kept hk,?_⟩
 ·exact I.ok.inj y z c (sub y c h1) (sub z c h2)
 ·have hy : scope.names.lookup y = some .cell \/ scope.names.lookup y = some .free := hy
  rcases hy with hy | hy
  ·exact absurd rfl (S.nocell _ (PySem.mem_of_lookup hy))
  ·exact S.free y hy
 ·cases (show false = true from z)
 ·cases i with
  | zero =>
   have e4:y = p:=by have:=e1.symm.trans S.head; exact Option.some.inj this
   subst e4
   have e5:v = z:=by simpa using e2
   subst e5
   refine ⟨u,r,.inl ⟨S.par,?_⟩⟩
   simp
  | succ i =>
   have e4:cv[i]? = some z:=by
    have:(cv.map some)[i]? = some (some z):=by simpa using e2
    rw [List.getElem?_map] at this
    cases q:cv[i]? with
    | none=>rw [q] at this; cases this
    | some a=>rw [q] at this; cases this; rfl
   obtain ⟨c,e5,u',r',o,ho,hd⟩:=cap i y z e1 e4
   exact ⟨u',r',.inr ⟨.inr (S.rest i y e1),c,e5,o,hk _ _ ho,hd⟩⟩
 ·obtain ⟨w', o, ho, hd⟩ := I.cell y c (sub y c h)
  exact ⟨w',o,hk _ _ ho,hd⟩
 ·show (some v :: cv.map some).length = N.length
  rw [List.length_cons,List.length_map,hN]
theorem zn3 {t:TE} {Q:VK} {E:Value -> Shared -> Prop} (I:Inv X pins σ H s) (hf:s.heap.get? f = some (PySem.W.kla_obj "<lambda>" qual params body scope cl pm c' ctv)) (hcr:s.heap.CodeRec (.ref c') qual)
  (hA:A.frames = some X.stack) (hroom:A.depth < recursionLimit) (hh:A.handled = none) (S:LamScope N p scope cl) (hN:N.length = cv.length + 1)
  (hb:bindArgs (PySem.W.kla_fn "<lambda>" qual params body scope cl pm (.ref c') ctv) ⟨[u],[]⟩ = pure [(p,u)]) (r:RelV v u)
  (sub:∀ x c,cl.lookup x = some c -> X.env.cells.lookup x = some c)
  (cap:∀ i x y,N[i + 1]? = some x -> cv[i]? = some y -> ∃ c,cl.lookup x = some c /\ ∃ u,RelV y u /\ s.heap.IsCell c (some u))
  (hbody:PE (VZ X A N qual scope f c' cl s H) body t) (ht:t (some v :: cv.map some) H Q) :
  wpAny (model X.prog X.w) A (call (.ref f) [u]) (EP X pins σ fun v H'=>Q v H' /\ ∀ b o w,H b = some (.frz o w) -> H' b = some (.frz o w)) E s:=by
 refine wpAny_call (codeAny_mono (R:=fun r s'=>match r with | .ok (.ret u)=>CE X.stack X.prog X.w H s (fun v H'=>Q v H' /\ ∀ b o w,H b = some (.frz o w) -> H' b = some (.frz o w)) u s' | _=>False) ?_ fun r s' hq=>?_)
 ·refine PySem.W.kla_callFunE hroom hf rfl S.co S.gen rfl hcr ?_
  rw [hb]
  refine wpAny_pure (wpAny_newFunctionEnv S.nocell (fun y hy=>?_) (fun h1 hns hsb=>?_) S.kind)
  ·have : y = (p, u) := by simpa using hy
   rw [this]; exact S.par
  ·have hk : ∀ b o, s.heap.get? b = some o -> h1.get? b = some o := fun b o e => hsb.extBut b o (Nat.ne_of_lt (Heap.lt_size e)) (Heap.get?_push_of_some _ e)
   refine ⟨I.nolimit.keeps hk,?_⟩
   show codeAny _ _ (.expr body (PySem.W.envX qual scope s.heap.objs.size f (.ref c') cl)) _ _
   have I2:Inv (VZ X A N qual scope f c' cl s H) [] (some v :: cv.map some) H { s with heap:=h1,toks:=s.toks + [(p,u)].length }:=zn4 I hA hh S hN r sub cap hns hk
   refine PySem.W.kla_codeExpr (wpAny_mono (hbody [] _ _ H Q I2 ht) (fun u' s' h=>?_) fun _ _ z=>z.elim)
   obtain ⟨v',H',J,rv,q⟩:=h
   exact ⟨v',H',J.os,J.bare,J.base,J.hok,rv,q,J.base.frzs⟩
 ·cases r with
  | error e=>exact False.elim hq
  | ok fl =>
   cases fl with
   | ret u=>exact I.after hq
   | next=>exact False.elim hq
   | brk=>exact False.elim hq
   | cont=>exact False.elim hq
end
end L2
set_option maxRecDepth 100000
namespace L2
open PySem PySem.Spec PyProof.Rows
def Yr (sp:V -> Hp -> VK -> Prop):List V -> Hp -> (List V -> Hp -> Prop) -> Prop
 | [],H,Q=>Q [] H
 | v :: vs,H,Q=>sp v H fun k H'=>Yr sp vs H' fun ks H''=>Q (k :: ks) H''
section
variable {X:Cx} {pins:List (Addr × Obj)} {σ:St} {H:Hp} {s:Shared}
theorem Inv.pin1 {a:Addr} {o:Obj} (I:Inv X pins σ H s) (hf:FpOk X pins H a) (ho:s.heap.get? a = some o) (hc:∀ v,o.data ≠ .cell v):Inv X ((a,o) :: pins) σ H s:=by
 refine ⟨I.ok,I.os,I.bare,I.base,I.loc,I.cell,I.free,I.freeC,fun p hp=>?_,I.hok,I.len⟩
 rcases List.mem_append.mp hp with hp | hp
 ·exact I.pin p (List.mem_append_left _ hp)
 ·rcases List.mem_cons.mp hp with rfl | hp
  ·exact ⟨ho,hf.1,hf.2.1,hf.2.2.1,hc⟩
  ·exact I.pin p (List.mem_append_right _ hp)
theorem Inv.unpin {q:Addr × Obj} (I:Inv X (q :: pins) σ H s):Inv X pins σ H s :=
 ⟨I.ok, I.os, I.bare, I.base, I.loc, I.cell, I.free, I.freeC, fun p hp => I.pin p (by
  rcases List.mem_append.mp hp with hp | hp
  ·exact List.mem_append_left _ hp
  ·exact List.mem_append_right _ (List.mem_cons_of_mem _ hp)),I.hok,I.len⟩
theorem FpOk.reH {b:Addr} {H':Hp} (h:FpOk X pins H b) (hn:H' b = none):FpOk X pins H' b:=⟨hn,h.2⟩
theorem FpOk.more {b:Addr} {q:Addr × Obj} (h:FpOk X pins H b) (hq:q.1 ≠ b):FpOk X (q :: pins) H b :=
 ⟨h.1, h.2.1, h.2.2.1, h.2.2.2.1, h.2.2.2.2.1, fun p hp => by
  rcases List.mem_append.mp hp with hp | hp
  ·exact h.2.2.2.2.2 p (List.mem_append_left _ hp)
  ·rcases List.mem_cons.mp hp with rfl | hp
   ·exact hq
   ·exact h.2.2.2.2.2 p (List.mem_append_right _ hp)⟩
theorem Inv.pinAt {q:Addr × Obj} (I:Inv X pins σ H s) (h:q ∈ pins):s.heap.get? q.1 = some q.2 /\ H q.1 = none :=
 let z:=I.pin q (List.mem_append_right _ h); ⟨z.1,z.2.1⟩
theorem YJ (ks vs:List Value) (h:ks.length = vs.length):ks.toArray.zip vs.toArray = (Array.range vs.length).map fun i=>(ks.getD i .none,vs.getD i .none):=by
 refine Array.ext_getElem? fun k=>?_
 rw [Array.getElem?_map]
 by_cases hk:k < vs.length
 ·have e1 : (Array.range vs.length)[k]? = some k := by rw [Array.getElem?_range, if_pos hk]
  have hk':k < ks.length:=by lia
  rw [e1]
  have e2:(ks.toArray.zip vs.toArray)[k]? = some (ks[k],vs[k]):=by
   rw [Array.getElem?_eq_getElem (by simp; lia)]
   simp
  rw [e2]
  simp [List.getD_eq_getElem?_getD,hk,hk']
 ·rw [Array.getElem?_eq_none (by simp; lia), Array.getElem?_eq_none (by simp; lia)]
  rfl
def xS (X:Cx) (ys:List V) (Q:VK) (ks:List V) (H:Hp):Prop:=∃ (fl:Bool) (r:Nat -> Nat -> Bool),ks.length = ys.length /\
 (∀ a b,a < ys.length -> b < ys.length -> a ≠ b -> r a b = !r b a) /\ (∀ a b c,a < ys.length -> b < ys.length -> c < ys.length -> r a b = true -> r b c = true -> r a c = true) /\
 (∀ a,a < ys.length -> xj6 X H fl (ks.getD a .non)) /\ (∀ a b,a < ys.length -> b < ys.length -> a ≠ b -> xj8 X H fl (ks.getD a .non) (ks.getD b .non) (r a b)) /\
 ∀ ls:Array Nat,ls.Perm (Array.range ys.length) -> Srt.Up r ls ys.length -> ∀ l,H l = none -> Q (.ref l) (upd H l (.lst (ls.toList.map fun i=>ys.getD i .non)))
variable {A:Around} {E:Value -> Shared -> Prop} {a kS:Addr} {vs:List Value} {ys ks:List V} {kA:Array Value} {e e1:Nat} {Q:VK}
theorem zc0 {st:SortSt} {ls:Array Nat} (I:Inv X pins σ H s) (hk:s.heap.get? kS = some (seqObj "list" kA e)) (ha:s.heap.get? a = some (seqObj "list" #[] e1)) (fk:FpOk X pins H kS) (fa:FpOk X pins H a) (hka:kS ≠ a) (hz0:X.s₀.heap.objs.size <= a) (hz:kA.size <= 64)
  (rv:Vals ys vs) (h64:ys.length < 64) (h1:arrOf st = ls.map fun i=>(kA.toList.getD i .none,vs.getD i .none)) (h2:failedOf st = none) (h3:ls.Perm (Array.range ys.length)) (q:Q (.ref a) (upd H a (.lst (ls.toList.map fun i=>ys.getD i .non)))) :
  wpAny (model X.prog X.w) A (ksk_tail a false e1 (.ref kS) st) (fun r s'=>r = .done (.ret .none) /\ ∃ H4,Inv X pins σ H4 s' /\ Q (.ref a) H4) E s:=by
 have len:=rv.length
 have hsz:ls.size = ys.length:=by rw [h3.size_eq,Array.size_range]
 have hls:∀ i ∈ ls.toList,i < ys.length:=fun i hi=>by
  have:=(h3.mem_iff).mp (Array.mem_toList_iff.mp hi)
  rwa [Array.mem_range] at this
 have s1:=Heap.SameBut.update s.heap kS (Obj.mapSeq fun _=>(#[]:Array Value))
 have na1:(s.heap.update kS (Obj.mapSeq fun _=>(#[]:Array Value))).get? a = some (seqObj "list" #[] e1):=(s1.2 a hka.symm).trans ha
 have ea:(arrOf st).map (·.2) = ls.map fun i=>vs.getD i .none:=by rw [h1,Array.map_map]; rfl
 have es:((arrOf st).map (·.2)).size <= 64:=by rw [ea,Array.size_map,hsz]; lia
 unfold ksk_tail
 dsimp only
 refine wpAny_bind (listUpdate_at hk rfl ?_ (by rw [sizeLine_eq]; lia) (Nat.zero_le _))
 refine wpAny_bind (wpAny_letGo ?_)
 refine wpAny_bind (seqEpoch_at na1 rfl ?_)
 simp only [Bool.false_eq_true,if_false]
 refine wpAny_bind (listUpdate_at na1 rfl ?_ (Nat.zero_le _) (Nat.le_trans es (by rw [sizeLine_eq]; lia)))
 rw [h2]
 simp only [bne_self_eq_false,Bool.false_eq_true,if_false]
 rw [ea]
 have s2:=Heap.SameBut.update (s.heap.update kS (Obj.mapSeq fun _=>(#[]:Array Value))) a (Obj.mapSeq fun _=>ls.map fun i=>vs.getD i .none)
 obtain ⟨c2,hc2⟩:∃ c2,((s.heap.update kS (Obj.mapSeq fun _=>(#[]:Array Value))).update a (Obj.mapSeq fun _=>ls.map fun i=>vs.getD i .none)).get? a = some (seqObj "list" (ls.map fun i=>vs.getD i .none) c2) :=
  ⟨_,get?_update_seq na1 fun _=>ls.map fun i=>vs.getD i .none⟩
 refine wpAny_pure ⟨rfl,_,?_,q⟩
 have J:=I.turnedL (t':=s.toks) (h':=(s.heap.update kS (Obj.mapSeq fun _=>(#[]:Array Value))).update a (Obj.mapSeq fun _=>ls.map fun i=>vs.getD i .none)) (ch:=[kS,a]) (fun b o hb z=>by
  have n1:b ≠ kS:=fun z=>hb (by simp [z])
  have n2:b ≠ a:=fun z=>hb (by simp [z])
  exact (s2.2 b n2).trans ((s1.2 b n1).trans z)) (fun b hb=>by
  rcases List.mem_cons.mp hb with rfl | hb
  ·exact fk
  ·rw [List.mem_singleton.mp hb]; exact fa)
 refine J.track fa.1 hz0 fa.2.1 fa.2.2.2.2.1 fa.2.2.2.2.2 ⟨?_,(ls.toList.map fun i=>vs.getD i .none),c2,Yo rv hls,?_⟩
 ·rw [List.length_map, Array.length_toList, hsz]
  exact Nat.le_trans (Nat.le_of_lt h64) (by decide)
 ·have ee : (ls.toList.map fun i => vs.getD i .none).toArray = ls.map fun i => vs.getD i .none := by rw [<- Array.toList_map, Array.toArray_toList]
  rw [ee]
  exact hc2
theorem zn5 (I:Inv X pins σ H s) (hk:s.heap.get? kS = some (seqObj "list" kA e)) (ha:s.heap.get? a = some (seqObj "list" #[] e1)) (fk:FpOk X pins H kS) (fa:FpOk X pins H a) (hka:kS ≠ a) (hz0:X.s₀.heap.objs.size <= a)
  (rv:Vals ys vs) (h64:ys.length < 64) (rk:Vals ks kA.toList) (un:A.units + 60 < cLine) (fin:xS X ys Q ks H) :
  wpAny (model X.prog X.w) A (ksk_end a false vs.toArray e1 (.ref kS) kA) (fun r s'=>r = .done (.ret .none) /\ ∃ H4,Inv X pins σ H4 s' /\ Q (.ref a) H4) E s:=by
 classical
 obtain ⟨f,rr,hlen,tot,tr,row,cmp,q⟩:=fin
 have len:=rv.length
 have lenk:=rk.length
 have hz:kA.size <= 64:=by rw [<- Array.length_toList]; lia
 have ezip:kA.zip vs.toArray = (Array.range vs.length).map fun i=>(kA.toList.getD i .none,vs.getD i .none):=by
  have:=YJ kA.toList vs (by lia)
  rwa [Array.toArray_toList] at this
 have fin2:∀ (t:SortSt) (ls:Array Nat),arrOf t = ls.map (fun i=>(kA.toList.getD i .none,vs.getD i .none)) -> failedOf t = none -> ls.Perm (Array.range vs.length) -> Srt.Up rr ls vs.length ->
   wpAny (model X.prog X.w) A (ksk_tail a false e1 (.ref kS) t) (fun r s'=>r = .done (.ret .none) /\ ∃ H4,Inv X pins σ H4 s' /\ Q (.ref a) H4) E s:=fun t ls a1 a2 a3 a4=>by
  rw [<- len] at a3 a4
  exact zc0 I hk ha fk fa hka hz0 hz rv h64 a1 a2 a3 (q ls a3 a4 a fa.1)
 unfold ksk_end
 dsimp only
 simp only [Bool.false_eq_true,if_false]
 by_cases c:vs.toArray.size < 2
 ·rw [if_pos c, if_pos c]
  refine wpAny_bind (wpAny_pure ?_)
  rw [StateT.run_pure]
  refine wpAny_bind (wpAny_pure (fin2 _ (Array.range vs.length) ezip rfl (Array.Perm.refl _) fun i j hij hj=>?_))
  have:vs.length < 2:=by simpa using c
  lia
 ·rw [if_neg c, if_neg c]
  have c2:2 <= vs.length:=by simpa using c
  have ixd:∀ v ∈ kA.toList,∃ i,i < ys.length /\ v = kA.toList.getD i .none:=fun v hv=>by
   obtain ⟨i,hi,e⟩:=List.getElem_of_mem hv
   exact ⟨i,by lia,by rw [List.getD_eq_getElem?_getD,List.getElem?_eq_getElem hi,e]; rfl⟩
  have each:∀ v ∈ kA.toList,∃ p rest,Srt.Tup s.heap v p rest /\ s.TypeIs p (if f then "int" else "tuple"):=fun v hv=>by
   obtain ⟨i,hi,rfl⟩:=ixd v hv
   exact row i hi pins _ σ _ I (rk.getD (by lia))
  have ek:kA = kA.toList.toArray:=by rw [Array.toArray_toList]
  have kind:∀ (E:Value -> Shared -> Prop) (Q:SortKind -> Shared -> Prop),Q (tuples' f) s -> wpAny (model X.prog X.w) A (keyKind' kA) Q E s:=fun E Q q=>by
   rw [ek]
   refine Srt.Wy (s:=s) (T:=if f then "int" else "tuple") (fst:=fun v=>if h:∃ p rest,Srt.Tup s.heap v p rest /\ s.TypeIs p (if f then "int" else "tuple") then h.choose else v) (by lia) (fun v hv=>?_) (fun v hv=>?_) ?_
   ·have e := each v hv
    obtain ⟨rest,t,_⟩:=e.choose_spec
    exact ⟨rest,by rw [dif_pos e]; exact t⟩
   ·have e := each v hv
    obtain ⟨rest,_,t⟩:=e.choose_spec
    show Shared.TypeIs _ (if h:_ then _ else _) _
    rw [dif_pos e]; exact t
   ·cases f
    ·exact q
    ·exact q
  refine wpAny_bind (kind _ _ ?_)
  have hR:Srt.Rule X.prog X.w A s vs.length (fun i=>(kA.toList.getD i .none,vs.getD i .none)) (tuples' f) rr:=by
   refine ⟨fun a b ha hb=>tot a b (by lia) (by lia),fun a b c ha hb hc=>tr a b c (by lia) (by lia) (by lia),fun a b ha hb hab E Q q=>?_⟩
   obtain ⟨p1,ps,p2,qs,t1,t2,L⟩:=cmp a b (by lia) (by lia) hab pins _ σ _ _ I (rk.getD (by lia)) (rk.getD (by lia)) A un
   exact Srt.KZ t1 t2 L q
  have N0:Srt.Now vs.length (fun i=>(kA.toList.getD i .none,vs.getD i .none)) (tuples' f) (Array.range vs.length) (SortSt.mk' (tuples' f) (kA.zip vs.toArray) #[] 7 none):=⟨ezip,rfl,rfl,rfl,Array.Perm.refl _⟩
  refine wpAny_bind (wpAny_mono (Srt.all hR N0 c2 (by lia) (Q:=fun _ t=>∃ ls:Array Nat,arrOf t = ls.map (fun i=>(kA.toList.getD i .none,vs.getD i .none)) /\ failedOf t = none /\ ls.Perm (Array.range vs.length) /\ Srt.Up rr ls vs.length) fun ls t a1 a2 a3 a4=>⟨ls,a1,a2,a3,a4⟩) ?_ fun _ _ e=>e)
  rintro ⟨_,t⟩ s' ⟨rfl,ls,a1,a2,a3,a4⟩
  exact fin2 t ls a1 a2 a3 a4
theorem zc1 {f:Value} {sp:V -> Hp -> VK -> Prop} {Ok:Hp -> Prop} (I:Inv X pins σ H s) (hk:s.heap.get? kS = some (seqObj "list" #[] 0)) (ha:s.heap.get? a = some (seqObj "list" #[] e1)) (fk:FpOk X pins H kS) (fa:FpOk X pins H a) (hka:kS ≠ a) (hz0:X.s₀.heap.objs.size <= a)
  (rv:Vals ys vs) (h64:ys.length < 64) (un:A.units + 60 < cLine) (ok:Ok H)
  (turn:∀ (pins':List (Addr × Obj)) (s':Shared) (H':Hp) (y:V) (v:Value) (Q:VK),(∀ p ∈ pins,p ∈ pins') -> Inv X pins' σ H' s' -> Ok H' -> RelV y v -> sp y H' Q -> wpAny (model X.prog X.w) A (call f [v]) (EP X pins' σ fun k H2=>Q k H2 /\ Ok H2) (fun _ _=>False) s')
  (fin:Yr sp ys H (xS X ys Q)) :
  wpAny (model X.prog X.w) A (ksk_rest a f false vs.toArray e1 (.ref kS)) (fun r s'=>r = .done (.ret .none) /\ ∃ H4,Inv X pins σ H4 s' /\ Q (.ref a) H4) E s:=by
 have len:=rv.length
 have fk':FpOk X ((a,seqObj "list" #[] e1) :: pins) H kS:=fk.more (Ne.symm hka)
 have nc:∀ (xs:Array Value) (n:Nat) (v:Option Value),(seqObj "list" xs n).data ≠ .cell v:=fun _ _ _ z=>by cases z
 unfold ksk_rest
 refine wpAny_bind (wpAny_rule ?_)
 first
  | rw [List.forIn_toArray]
  | (rw [<- Array.forIn_toList]; simp only [List.toList_toArray])
  | rw [<- Array.forIn_toList]
 refine wpAny_bind (ksk_fold (fun i s'=>∃ H' kA e ks,Inv X ((kS,seqObj "list" kA e) :: (a,seqObj "list" #[] e1) :: pins) σ H' s' /\ Ok H' /\ Vals ks kA.toList /\ ks.length = i /\ Yr sp (ys.drop i) H' fun rest H3=>xS X ys Q (ks ++ rest) H3) vs 0 s
  ⟨H,#[],0,[],(I.pin1 fa ha (nc _ _)).pin1 fk' hk (nc _ _),ok,.nil,rfl,by simpa using fin⟩ ?step ?done)
 case step =>
  rintro j x s' hx ⟨H',kA,e,ks,I',ok',rk,lk,tk⟩
  simp only [Nat.zero_add] at lk tk ⊢
  have hj:j < vs.length:=(List.getElem?_eq_some_iff.mp hx).1
  have hj':j < ys.length:=by lia
  have ey:ys[j]? = some ys[j]:=List.getElem?_eq_getElem hj'
  obtain ⟨u,eu,ry⟩:=rv.get ey
  have exu:u = x:=Option.some.inj (eu.symm.trans hx)
  subst exu
  rw [List.drop_eq_getElem_cons hj'] at tk
  have hzk:kA.size <= 64:=by rw [<- Array.length_toList,<- rk.length]; lia
  refine wpAny_bind (wpAny_attempt (wpAny_mono (turn _ s' H' ys[j] u _ (fun p hp=>List.mem_cons_of_mem _ (List.mem_cons_of_mem _ hp)) I' ok' ry tk) (fun v s'' he=>?_) fun _ _ hF=>hF.elim))
  obtain ⟨k,H2,I2,rk2,tk2,ok2⟩:=he
  try dsimp only
  have nk:=I2.pinAt (q:=(kS,seqObj "list" kA e)) (.head _)
  have na:=I2.pinAt (q:=(a,seqObj "list" #[] e1)) (.tail _ (.head _))
  have s1:=Heap.SameBut.update s''.heap kS (Obj.mapSeq (·.push v))
  obtain ⟨c2,hc2⟩:∃ c2,(s''.heap.update kS (Obj.mapSeq (·.push v))).get? kS = some (seqObj "list" (kA.push v) c2):=⟨_,get?_update_seq nk.1 (·.push v)⟩
  have ea:(kA.push v).toList = kA.toList ++ [v]:=by simp
  refine wpAny_bind (listUpdate_at nk.1 rfl ?_ (by rw [sizeLine_eq]; lia) (Nat.le_trans (Nat.le_of_eq (Array.size_push ..)) (by rw [sizeLine_eq]; lia)))
  have f2:FpOk X ((a,seqObj "list" #[] e1) :: pins) H2 kS:=fk'.reH nk.2
  have I3:=I2.unpin.turned (t':=s''.toks) (h':=s''.heap.update kS (Obj.mapSeq (·.push v))) (it:=kS) (fun b o hb z=>(s1.2 b hb).trans z) nk.2 f2.2.1 f2.2.2.2.1 f2.2.2.2.2.1 f2.2.2.2.2.2
  refine wpAny_pure ⟨rfl,H2,kA.push v,c2,ks ++ [k],I3.pin1 f2 hc2 (nc _ _),ok2,by rw [ea]; exact rk.append (.cons rk2 .nil),by rw [List.length_append,lk]; rfl,?_⟩
  have e9:(fun rest H3=>xS X ys Q (ks ++ [k] ++ rest) H3) = fun rest H3=>xS X ys Q (ks ++ k :: rest) H3:=by funext rest H3; rw [List.append_assoc]; rfl
  rw [e9]
  exact tk2
 case done =>
  rintro s' ⟨H',kA,e,ks,I',ok',rk,lk,tk⟩
  rw [Nat.zero_add,<- len,List.drop_length] at tk
  have tk:xS X ys Q (ks ++ []) H':=tk
  rw [List.append_nil] at tk
  have nk:=I'.pinAt (q:=(kS,seqObj "list" kA e)) (.head _)
  have na:=I'.pinAt (q:=(a,seqObj "list" #[] e1)) (.tail _ (.head _))
  try dsimp only
  refine wpAny_bind (listItems_at nk.1 rfl ?_)
  exact zn5 I'.unpin.unpin nk.1 na.1 (fk.reH nk.2) (fa.reH na.2) hka hz0 rv h64 rk un tk
theorem zb9 {f:Value} {sp:V -> Hp -> VK -> Prop} {Ok:Hp -> Prop} {n0:Nat} (I:Inv X pins σ H s) (ha:s.heap.get? a = some (seqObj "list" vs.toArray n0)) (fa:FpOk X pins H a) (hz0:X.s₀.heap.objs.size <= a)
  (rv:Vals ys vs) (h64:ys.length < 64) (un:A.units + 60 < cLine) (ok:Ok H)
  (turn:∀ (pins':List (Addr × Obj)) (s':Shared) (H':Hp) (y:V) (v:Value) (Q:VK),(∀ p ∈ pins,p ∈ pins') -> Inv X pins' σ H' s' -> Ok H' -> RelV y v -> sp y H' Q -> wpAny (model X.prog X.w) A (call f [v]) (EP X pins' σ fun k H2=>Q k H2 /\ Ok H2) (fun _ _=>False) s')
  (fin:Yr sp ys H (xS X ys Q)) :
  wpAny (model X.prog X.w) A (ksk_tree a f false) (fun r s'=>r = .done (.ret .none) /\ ∃ H4,Inv X pins σ H4 s' /\ Q (.ref a) H4) E s:=by
 have len:=rv.length
 have la:=Heap.lt_size ha
 have s1:=Heap.SameBut.update s.heap a (Obj.mapSeq fun _=>(#[]:Array Value))
 obtain ⟨e1,at1⟩:∃ e1,(s.heap.update a (Obj.mapSeq fun _=>(#[]:Array Value))).get? a = some (seqObj "list" #[] e1):=⟨_,get?_update_seq ha fun _=>#[]⟩
 have I1:=I.turned (t':=s.toks) (h':=s.heap.update a (Obj.mapSeq fun _=>(#[]:Array Value))) (it:=a) (fun b o hb z=>(s1.2 b hb).trans z) fa.1 fa.2.1 fa.2.2.2.1 fa.2.2.2.2.1 fa.2.2.2.2.2
 have keep:∀ b o,(s.heap.update a (Obj.mapSeq fun _=>(#[]:Array Value))).get? b = some o -> (((s.heap.update a (Obj.mapSeq fun _=>(#[]:Array Value))).push (seqObj "tuple" vs.toArray 0)).push (seqObj "list" #[] 0)).get? b = some o:=fun b o z=>Heap.get?_push_of_some _ (Heap.get?_push_of_some _ z)
 have I2:=I1.kept (t':=s.toks) keep
 have hkS:((s.heap.update a (Obj.mapSeq fun _=>(#[]:Array Value))).push (seqObj "tuple" vs.toArray 0)).objs.size = s.heap.objs.size + 1:=by rw [size_push',Heap.size_update]
 have hs0:(s.heap.update a (Obj.mapSeq fun _=>(#[]:Array Value))).objs.size <= ((s.heap.update a (Obj.mapSeq fun _=>(#[]:Array Value))).push (seqObj "tuple" vs.toArray 0)).objs.size:=by rw [size_push']; lia
 unfold ksk_tree
 refine wpAny_bind (listItems_at ha rfl ?_)
 refine wpAny_bind (listUpdate_at ha rfl ?_ (by rw [List.size_toArray,sizeLine_eq]; lia) (Nat.zero_le _))
 refine wpAny_bind (seqEpoch_at at1 rfl ?_)
 refine wpAny_bind (wpAny_newTuple ?_ (by show vs.length <= _; rw [sizeLine_eq]; lia))
 refine wpAny_bind (wpAny_newList ?_ (Nat.zero_le _))
 refine wpAny_holding ?_
 exact zc1 (s:={ s with heap:=((s.heap.update a (Obj.mapSeq fun _=>(#[]:Array Value))).push (seqObj "tuple" vs.toArray 0)).push (seqObj "list" #[] 0) }) (kS:=((s.heap.update a (Obj.mapSeq fun _=>(#[]:Array Value))).push (seqObj "tuple" vs.toArray 0)).objs.size)
  I2 (Heap.get?_push_size _ rfl) (keep _ _ at1) (I1.fpOk hs0 (I1.hok.fresh hs0)) fa (by rw [hkS]; exact Nat.ne_of_gt (Nat.lt_succ_of_lt la)) hz0 rv h64 un ok turn fin
end
end L2
set_option maxRecDepth 100000
namespace L2
open PySem PySem.Spec PyProof.Rows
theorem TabG.trip {φ:Addr -> Prop} {l:List Value} (g:TabG φ l):TriplesOk l:=by
 induction g with
 | nil=>exact True.intro
 | cons _ _ ih=>exact ih
theorem TabG.among {φ:Addr -> Prop} {pos:Pos} {l:List Value} (g:TabG φ l) {v:Value} (e:codeAmong pos l = some v):∃ c,v = .ref c /\ φ c:=by
 induction g with
 | nil=>cases e
 | cons h _ ih =>
  unfold codeAmong at e
  split at e
  ·cases e; exact ⟨_,rfl,h⟩
  ·exact ih e
theorem TabG.snoc {φ:Addr -> Prop} {l:List Value} (g:TabG φ l) {i j:Int} {t u:Tok} {c:Addr} (h:φ c):TabG φ (l ++ [.int i t,.int j u,.ref c]):=by
 induction g with
 | nil=>exact .cons h .nil
 | cons h' _ ih=>exact .cons h' ih
structure LamBase (base:Heap) (mg:Str -> Option Value) (c P:Addr):Prop where
 hd:PySem.W.CodeHd base c P
 bm:∃ bm ob,mg "__builtins__" = some (.ref bm) /\ bm ≠ builtinsNs /\ base.get? bm = some ob /\ ob.cls = .type "module" /\ ob.dict = some builtinsNs /\ ob.data = .plain
def OneMore (H H2:Hp):Prop:=H2 = H \/ ∃ c o,H c = none /\ H2 = upd H c o
theorem OneMore.keep {H H2:Hp} (h:OneMore H H2):∀ b o,H b = some o -> H2 b = some o:=fun b o e=>by
 rcases h with rfl | ⟨c,u,hn,rfl⟩
 ·exact e
 ·rw [zG (zU e hn)]; exact e
section
variable {X:Cx} {pins:List (Addr × Obj)} {σ:St} {H:Hp} {s:Shared} {c P:Addr} {q p:Str} {params:Arguments} {body:Expr} {scope:Scope} {clos:List (Str × Addr)} {pos lpos:Pos}
theorem zb7 {Q:Value -> Shared -> Prop} {E:Value -> Shared -> Prop} (I:Inv X pins σ H s) (hc:X.env.code = .ref c) (L:LamBase X.base X.mg c P) (hP:H P = some (.cot q)) (hq:X.env.qual ++ "<lambda>" = q)
  (hcl:closureFor scope X.env = pure clos) (hdef:defaultsOf params X.env = ([],[]))
  (h:∀ (f c':Addr) (oc:Obj) (ctv:Value) (H2:Hp) (s2:Shared),OneMore H H2 -> Inv X ((f,PySem.W.kla_obj "<lambda>" q params body scope clos ((X.mg "__name__").getD .none) c' ctv) :: pins) σ H2 s2 -> H2 c' = some (.frz oc (.own 0)) -> zD4 oc q -> Q (.ref f) s2) :
  wpAny (model X.prog X.w) X.A (eval (.Lambda params body scope lpos) X.env) Q E s:=by
 refine PySem.W.kla_eval hdef ?_
 rw [hq]
 obtain ⟨ps,ho,g⟩:=I.hok P _ hP
 obtain ⟨bm,ob,b1,b2,b3,b4,b5,b6⟩:=L.bm
 have nb:∀ b o,X.base.get? b = some o -> b ≠ P:=fun b o e z=>by
  have:=(I.bs b o e).2
  rw [z,hP] at this; cases this
 have hgP:mainGlobals ≠ P:=by
  obtain ⟨o,es,ep,e,_⟩:=I.mod.glob
  exact nb _ _ e
 have hbG:bm ≠ mainGlobals:=fun z=>by
  obtain ⟨o,es,ep,e,hd,_⟩:=I.mod.glob
  rw [z,e] at b3; cases b3; rw [hd] at b6; cases b6
 have hB:s.heap.BuiltinsAt X.mg P:=⟨bm,ob,b1,b2,hbG,nb _ _ b3,I.bk _ _ b3,b4,b5,b6⟩
 have nc:∀ (c':Addr) (ctv:Value) (v:Option Value),(PySem.W.kla_obj "<lambda>" q params body scope clos ((X.mg "__name__").getD .none) c' ctv).data ≠ .cell v:=fun _ _ _ z=>by cases z
 cases hf:codeAmong lpos ps.toList with
 | some cv =>
  obtain ⟨c',rfl,oc,e1,e2⟩:=g.among hf
  refine PySem.W.kla_makeFunctionHit (mg:=X.mg) hcl I.ok.glob (I.mod.glob.keeps I.bk) hc (L.hd.keeps I.bk) ho g.trip hf hB fun ctv h' tk hk hsz=>?_
  have I2:=I.kept (t':=tk) (h':=h'.push (PySem.W.kla_obj "<lambda>" q params body scope clos ((X.mg "__name__").getD .none) c' ctv)) fun b o e=>Heap.get?_push_of_some _ (hk b o e)
  exact h _ c' oc ctv H _ (.inl rfl) (I2.pin1 (I.fpOk hsz (I.hok.fresh hsz)) (Heap.get?_push_size _ rfl) (nc _ _)) e1 e2
 | none =>
  refine PySem.W.kla_makeFunction (mg:=X.mg) hcl I.ok.glob (I.mod.glob.keeps I.bk) hc (L.hd.keeps I.bk) ho g.trip hf hgP hB fun c' ctv h' tk hx hge hlt hrec htb=>?_
  obtain ⟨c2,oc,vs,t,ec,hoc,hd,hv⟩:=hrec
  cases ec
  have hn:H c' = none:=I.hok.fresh hge
  have hsz:s.heap.objs.size <= h'.objs.size:=Nat.le_trans hge (Nat.le_of_lt hlt)
  have nP:∀ b,H b = none -> b ≠ P:=fun b e z=>by rw [z,hP] at e; cases e
  have kp:∀ b o,b ≠ P -> s.heap.get? b = some o -> (h'.push (PySem.W.kla_obj "<lambda>" q params body scope clos ((X.mg "__name__").getD .none) c' ctv)).get? b = some o:=fun b o hb e=>Heap.get?_push_of_some _ (hx b o hb e)
  have cP:c' ≠ P:=nP c' hn
  have up:∀ b u,H b = some u -> upd H c' (.frz oc (.own 0)) b = some u:=fun b u e=>by rw [zG (zU e hn)]; exact e
  have U:Un X.fs [] H (upd H c' (.frz oc (.own 0))) s.heap (h'.push (PySem.W.kla_obj "<lambda>" q params body scope clos ((X.mg "__name__").getD .none) c' ctv)):=by
   refine ⟨fun b o e n _ _=>kp b o (nP b n) e,fun b o e n _ _=>⟨o.slots,kp b o (nP b n) e⟩,fun b o e n _=>?_,fun b o e _=>?_,fun b xs e=>up b _ e,fun b o u e=>up b _ e,fun b ps e=>⟨#[],by rw [up b _ e]; simp⟩⟩
   ·rw [zG (Nat.ne_of_lt (Nat.lt_of_lt_of_le (Heap.lt_size e) hge))]; exact n
   ·by_cases hb : b = P
    ·exact ⟨_,Heap.get?_push_of_some _ (hb ▸ htb)⟩
    ·exact ⟨o,kp b o hb e⟩
  have hok:HOk X.prog X.w (upd H c' (.frz oc (.own 0))) (h'.push (PySem.W.kla_obj "<lambda>" q params body scope clos ((X.mg "__name__").getD .none) c' ctv)):=fun b u e=>by
   by_cases hb:b = c'
   ·subst hb
    rw [xg] at e; cases e
    exact ⟨Heap.get?_push_of_some _ hoc,oc,Heap.get?_push_of_some _ hoc⟩
   ·rw [zG hb] at e
    by_cases hbP:b = P
    ·subst hbP
     rw [hP] at e; cases e
     refine ⟨_,Heap.get?_push_of_some _ htb,?_⟩
     rw [Array.toList_append]
     exact (g.imp fun d ⟨oc,z,i⟩=>⟨oc,up _ _ z,i⟩).snoc ⟨oc,xg,vs,t,hd,hv⟩
    ·refine (I.hok b u e).stay (fun d v hd z => kp d v ?_ z) (fun d z => up d _ z) (fun d xs z => up d _ z) fun d o u z => up d _ z
     rcases hd with rfl | hd
     ·exact hbP
     ·intro z; rw [z,hP] at hd; cases hd
  have I2:=I.un (t':=tk) U hok
  have hfn:upd H c' (.frz oc (.own 0)) h'.objs.size = none:=by rw [zG (Nat.ne_of_gt hlt)]; exact I.hok.fresh hsz
  exact h _ c' oc ctv _ _ (.inr ⟨c',_,hn,rfl⟩) (I2.pin1 (I.fpOk hsz hfn) (Heap.get?_push_size _ rfl) (nc _ _)) xg ⟨vs,t,hd,hv⟩
theorem SqL.keep {K:PySem.W.Frag} {H H2:Hp} {a:Addr} {xs:List V} (h:SqL K H a xs) (k:∀ b o,H b = some o -> H2 b = some o):SqL K H2 a xs:=by
 rcases h with (h | ⟨o,h⟩) | h
 ·exact .inl (.inl (k _ _ h))
 ·exact .inl (.inr ⟨o,k _ _ h⟩)
 ·exact .inr h
structure Caps (X:Cx) (N:List Str) (clos:List (Str × Addr)) (caps:List Nat):Prop where
 len:N.length = caps.length + 1
 at_:∀ i x,N[i + 1]? = some x -> X.env.kindOf x = some .cell /\ ∃ j,caps[i]? = some j /\ X.N[j]? = some x
 sub:∀ x c,clos.lookup x = some c -> X.env.cells.lookup x = some c
 has:∀ i x,N[i + 1]? = some x -> ∃ c,clos.lookup x = some c
def zr7 (X:Cx) (P:Addr) (q:Str) (caps:List Nat) (tb:Hp -> TE) (t1:TA):TE:=fun σ H Q=>t1 σ H fun vs H1=>∃ (p0:Addr) (ys cv:List V),vs = [.ref p0] /\ SqL X.K H1 p0 ys /\ ys.length < 64 /\ H1 P = some (.cot q) /\
 cv.length = caps.length /\ (∀ (i j:Nat),caps[i]? = some j -> ∃ y,cv[i]? = some y /\ σ[j]? = some (some y)) /\ ∀ H2,OneMore H1 H2 -> Yr (fun y H' Q'=>tb H' (some y :: cv.map some) H' Q') ys H2 (xS X ys Q)
theorem VN {e : Expr} {t1 : TA} {tb : Hp -> TE} {N : List Str} {caps : List Nat} {k : Nat} {np kp : Pos} (hg : Gl X "sorted") (hm : X.mg "sorted" = none) (ha : PA X [e] t1) (hr : Room (k + 3) X.A)
    (hc:X.env.code = .ref c) (L:LamBase X.base X.mg c P) (hq:X.env.qual ++ "<lambda>" = q) (hcl:closureFor scope X.env = pure clos) (hdef:defaultsOf params X.env = ([],[]))
    (S:LamScope N p scope clos) (C:Caps X N clos caps) (hb:∀ (u pm ctv:Value) (c':Addr),bindArgs (PySem.W.kla_fn "<lambda>" q params body scope clos pm (.ref c') ctv) ⟨[u],[]⟩ = pure [(p,u)])
    (hbody:∀ (A:Around) (f c':Addr) (s:Shared) (H:Hp),Room k (A.deeper (PySem.W.envX q scope s.heap.objs.size f (.ref c') clos)) -> PE (VZ X A N q scope f c' clos s H) body (tb H))
    (he:starEach [e] X.env = (false,eval e X.env) :: starEach [] X.env:=by rfl) (hpl:(backTo pos (starEach [e] X.env)).any (·.1) = false:=by rfl) :
    PE X (.Call (.Name "sorted" np) [e] [⟨some "key",.Lambda params body scope lpos,kp⟩] pos) (zr7 X P q caps tb t1):=by
  intro pins s σ H Q I h
  refine wpAny_Call_Name_kw (jX I hg hm jx ?_ (by decide) (by decide))
  refine callWith_kw (env:=X.env) (e:=e) (rest:=[]) (thn (ha pos pins s σ H _ I h) fun us s1 ⟨vs,H1,I1,r1,q1⟩=>?_) (by rw [he]; rfl) hpl rfl rfl
  obtain ⟨p0,ys,cv,rfl,hS,h64,hP,hcv,hcap,hk⟩:=q1
  refine kws_cons (zb7 I1 hc L hP hq hcl hdef fun f c' oc ctv H2 s2 hH I2 hoc hcod=>kws_nil ?_)
  cases r1 with
  | cons r rr =>
    cases rr
    cases r
    obtain ⟨its,rv,pl,_⟩:=I2.list (hS.keep hH.keep)
    have hl:=pl.isList
    have len:=rv.length
    have fin:=hk H2 hH
    have room:Room (k + 1) X.A.in1.in1:=hr.in1.in1
    show wpAny _ _ (call (.builtin "sorted") [.ref p0] [(Str.ofString "key",.ref f)]) _ _ _
    refine call_function_entry_kw kind_sorted plain_sorted entry_sorted (ksk_s1 _ _) ?_
    unfold Builtin.«sorted»
    refine wpAny_bind (m:=checkCount "sorted" 1 1 _) (wpAny_pure ?_)
    refine wpAny_bind (collect_list hl ?_ (by rw [sizeLine_eq]; lia))
    refine wpAny_bind (wpAny_newList ?_ (by rw [sizeLine_eq]; lia))
    have hsz:((s2.heap.push (seqObj "list" #[] 0)).update s2.heap.objs.size (Obj.mapSeq (· ++ its.toArray))).objs.size = s2.heap.objs.size + 1:=by rw [Heap.size_update,size_push']
    have hoL:(((s2.heap.push (seqObj "list" #[] 0)).update s2.heap.objs.size (Obj.mapSeq (· ++ its.toArray))).push (seqObj "list" its.toArray 0)).get? (s2.heap.objs.size + 1) = some (seqObj "list" its.toArray 0):=by
      rw [<- hsz]; exact Heap.get?_push_size _ rfl
    have keep:∀ b o,s2.heap.get? b = some o -> (((s2.heap.push (seqObj "list" #[] 0)).update s2.heap.objs.size (Obj.mapSeq (· ++ its.toArray))).push (seqObj "list" its.toArray 0)).get? b = some o:=fun b o q=>by
      have hlt:b < s2.heap.objs.size:=Heap.lt_size q
      rw [Heap.get?_push_ne _ _ _ (by rw [hsz]; exact Nat.ne_of_lt (Nat.lt_succ_of_lt hlt)),Heap.get?_update_ne _ _ _ _ (Nat.ne_of_lt hlt),Heap.get?_push_ne _ _ _ (Nat.ne_of_lt hlt)]
      exact q
    have I3:=I2.kept (t':=s2.toks) keep
    have fa:=I2.fpOk (H':=H2) (b:=s2.heap.objs.size + 1) (Nat.le_succ _) (I2.hok.fresh (Nat.le_succ _))
    show wpAny _ _ _ _ _ { s2 with heap:=((s2.heap.push (seqObj "list" #[] 0)).update s2.heap.objs.size (Obj.mapSeq (· ++ its.toArray))).push (seqObj "list" its.toArray 0) }
    rw [hsz]
    refine wpAny_bind (wpAny_holding (wpAny_call_entry_kw slot_list_sort ⟨_,hoL,rfl⟩ entry_list_sort ?body (ksk_l1 _ _)))
    case body =>
      show wpAny (model X.prog X.w) X.A.in1.in1 (Builtin.«list.sort» ⟨[.ref (s2.heap.objs.size + 1)],[(Str.ofString "key",.ref f)]⟩) _ _ _
      rw [ksk_t1]
      refine wpAny_mono (zb9 (Ok:=fun H'=>H' c' = some (.frz oc (.own 0))) I3 hoL fa (Nat.le_trans I2.sz (Nat.le_succ _)) rv h64 (by have:=room.un; lia) hoc (fun pins' s' H' y v Q' hsub I' ok' ry ht=>?_) fin) (fun r s' hq=>?_) fun _ _ z=>z
      · have hcr : s'.heap.CodeRec (.ref c') q := by
          obtain ⟨z1,_⟩:=I'.hok c' _ ok'
          obtain ⟨vs,t,d1,d2⟩:=hcod
          exact ⟨c',oc,vs,t,rfl,z1,d1,d2⟩
        refine thn (zn3 (cv:=cv) I' (I'.pinAt (hsub _ (.head _))).1 hcr I'.ok.frames room.depth room.hd S (by rw [C.len,hcv]) (hb _ _ _ _) ry C.sub (fun i x y e1 e2=>?_) (hbody _ _ _ _ _ (room.deeper _)) ht) fun u s3 hz=>?_
        · obtain ⟨hkind, j, e3, e4⟩ := C.at_ i x e1
          obtain ⟨y',e5,e6⟩:=hcap i j e3
          have e7:y' = y:=Option.some.inj (e5.symm.trans e2)
          subst e7
          obtain ⟨cc,e8⟩:=C.has i x e1
          obtain ⟨m,_,lk⟩:=I'.loc
          obtain ⟨u',r',l⟩:=lk j x y' e4 e6 (.inr (.inl hkind))
          rcases l with ⟨l,_⟩ | ⟨_,c3,e9,z⟩
          · rw [hkind] at l; cases l
          · have e10 := C.sub x cc e8
            rw [e9] at e10; cases e10
            exact ⟨_,e8,u',r',z⟩
        · obtain ⟨v2, H3, I4, rv2, q2, fz⟩ := hz
          exact ⟨v2,H3,I4,rv2,q2,fz _ _ _ ok'⟩
      · obtain ⟨rfl, H4, I4, q4⟩ := hq
        exact ⟨_,rfl,wpAny_pure ⟨_,rfl,.ref (s2.heap.objs.size + 1),H4,I4.unpin,rfl,q4⟩⟩
end
end L2
set_option maxRecDepth 100000
namespace L2
open PySem PySem.Spec PyProof.Rows
def zg8 (caps:List Nat) (tb:TD) (t1:TAD):TD:=fun rho n R=>t1 rho n fun es n1=>∃ (rows:List D) (keys:List SRow) (fl:Bool) (cs:List D),es = [.lst rows] /\ rows.length < 64 /\ keys.length = rows.length /\ (∀ x ∈ keys,x.key.num = fl) /\ (keys.map SRow.name).Nodup /\
 cs.length = caps.length /\ (∀ (i j:Nat),caps[i]? = some j -> ∃ d,cs[i]? = some d /\ rho[j]? = some (some d) /\ zu d = true) /\ (∀ (i:Nat) (d:D) (x:SRow),rows[i]? = some d -> keys[i]? = some x -> tb (some d :: cs.map some) n1 fun e n2=>e = x.d /\ n2 = n1) /\
 ∀ ls:List Nat,ls.Perm (List.range rows.length) -> (ls.map fun i=>keys.getD i WU).Pairwise (fun x y=>x.lt y = true) -> R (.lst (ls.map fun i=>rows.getD i .non)) n1
section
variable {A:AC} {X:Cx} {os:List (Nat × Addr)} {n:Nat} {rho:Rho} {sg:St} {H:Hp} {ds:List D} {vs:List V}
theorem Xy (I:AmO A os n rho sg H ds vs):∀ (caps:List Nat) (cs:List D),cs.length = caps.length -> (∀ (i j:Nat),caps[i]? = some j -> ∃ d,cs[i]? = some d /\ rho[j]? = some (some d) /\ zu d = true) ->
  ∃ cv:List V,Reps A.K A.G (Zof A os) H cs cv /\ ∀ (i j:Nat),caps[i]? = some j -> ∃ y,cv[i]? = some y /\ sg[j]? = some (some y)
 | [],[],_,_=>⟨[],.nil,fun i j e=>by simp at e⟩
 | [],_ :: _,h,_=>by simp at h
 | _ :: _,[],h,_=>by simp at h
 | j :: caps, c :: cs, h, hc => by
  obtain ⟨d,e1,e2,e3⟩:=hc 0 j rfl
  have e4:c = d:=by simpa using e1
  subst e4
  obtain ⟨v,e5,e6⟩:=I.slot j c e2
  obtain ⟨cv,r,hv⟩:=Xy I caps cs (by simpa using h) fun i j e=>by
   obtain ⟨d,z1,z2⟩:=hc (i + 1) j (by simpa using e)
   exact ⟨d,by simpa using z1,z2⟩
  refine ⟨v :: cv,.cons (e6.rep e3) r,fun i k e=>?_⟩
  cases i with
  | zero =>
   have e7:j = k:=by simpa using e
   subst e7
   exact ⟨v,rfl,e5⟩
  | succ i =>
   obtain ⟨y,z1,z2⟩:=hv i k (by simpa using e)
   exact ⟨y,by simpa using z1,z2⟩
theorem zi3 {K:PySem.W.Frag} {G:Option Addr} {Z:Addr -> Prop} {tb:TD} {d:D} {cs:List D} {v:V} {cv:List V} {Q:VK} {P:D -> Nat -> Prop} (rs:Reps K G Z H (d :: cs) (v :: cv)) (st:zh7 G n H) (gz:∀ a,G = some a -> Z a) (z0:ZOk K G Z H)
  (ht:tb (some d :: cs.map some) n P) (hQ:∀ v' H' n' d',(∀ a o,G ≠ some a -> H a = some o -> H' a = some o) -> zh7 G n' H' -> Rep K G Z H' d' v' -> P d' n' -> Q v' H'):tOf ⟨K,G,Z,H⟩ tb (some v :: cv.map some) H Q:=by
 have S:=kB (N:=List.replicate (d :: cs).length "") rs st gz z0
 have e1:startD (List.replicate (d :: cs).length "") (d :: cs) = some d :: cs.map some:=by unfold startD; simp
 have hl:=rs.length
 have e2:kF (List.replicate (d :: cs).length "") (v :: cv) = some v :: cv.map some:=by unfold kF; simp at hl; simp [hl]
 rw [e1,e2] at S
 refine ⟨_,n,P,[],[],⟨[],S⟩,ht,fun v' H' n' d' ⟨os2,J⟩ hp=>hQ v' H' n' d' J.fr J.st (Rep.mono (fun a _ z=>.inl z) (fun _ _ _ e=>e) _ _ J.pop.2) hp⟩
theorem zg0 {N2:Nat} {tb:TD} {cs:List D} {cv:List V} {ys:List V} {Q:VK} (hK:X.K = A.K) :
  ∀ (rows:List D) (xs:List V) (keys:List SRow) (done:List SRow) (dv:List V) (H:Hp),keys.length = rows.length -> AmO A os n rho sg H ds vs -> Reps A.K A.G (Zof A os) H rows xs -> Reps A.K A.G (Zof A os) H cs cv -> Reps A.K A.G (Zof A os) H (done.map SRow.d) dv ->
   (∀ (i:Nat) (d:D) (x:SRow),rows[i]? = some d -> keys[i]? = some x -> tb (some d :: cs.map some) n fun e n2=>e = x.d /\ n2 = n) ->
   (∀ (kv:List V) (H3:Hp),(∀ a o,A.G ≠ some a -> H a = some o -> H3 a = some o) -> AmO A os n rho sg H3 ds vs -> Reps A.K A.G (Zof A os) H3 ((done ++ keys).map SRow.d) (dv ++ kv) -> xS X ys Q (dv ++ kv) H3) ->
   Yr (fun y H' Q'=>(∃ G Z,tOf ⟨X.K,G,Z,H'⟩ tb (some y :: cv.map some) H' Q')) xs H fun rest H3=>xS X ys Q (dv ++ rest) H3
 | [],xs,[],done,dv,H,_,I,rr,rc,rd,_,fin=>by
  rw [rr.nil_inv]
  show xS X ys Q (dv ++ []) H
  exact fin [] H (fun _ _ _ e=>e) I (by simpa using rd)
 | [],xs,_ :: _,done,dv,H,hl,_,_,_,_,_,_=>by simp at hl
 | _ :: _,xs,[],done,dv,H,hl,_,_,_,_,_,_=>by simp at hl
 | d :: rows, xs, k :: keys, done, dv, H, hl, I, rr, rc, rd, htb, fin => by
  obtain ⟨v,xs',rfl,r0,rr'⟩:=rr.split
  show ∃ G Z,tOf ⟨X.K,G,Z,H⟩ tb (some v :: cv.map some) H fun kk H'=>Yr _ xs' H' fun ks H''=>xS X ys Q (dv ++ kk :: ks) H''
  refine ⟨A.G,Zof A os,?_⟩
  suffices z:tOf ⟨A.K,A.G,Zof A os,H⟩ tb (some v :: cv.map some) H (fun kk H'=>Yr (fun y H' Q'=>(∃ G Z,tOf ⟨X.K,G,Z,H'⟩ tb (some y :: cv.map some) H' Q')) xs' H' fun ks H''=>xS X ys Q (dv ++ kk :: ks) H'') by
   rw [<- hK] at z
   exact z
  refine zi3 (.cons r0 rc) I.st (fun a z=>.inl (I.gz a z)) I.zO (htb 0 d k rfl rfl) fun v' H' n' d' fr st r ⟨e1,e2⟩=>?_
  subst e1
  have st':zh7 A.G n H':=e2 ▸ st
  have I':=I.called fr st'
  have mono:∀ {es:List D} {ws:List V},Reps A.K A.G (Zof A os) H es ws -> Reps A.K A.G (Zof A os) H' es ws:=fun h=>Reps.mono (fun _ _ z=>z) (fun b u nz e=>fr b u (fun z=>nz (.inl (I.gz b z))) e) _ _ h
  have rd':Reps A.K A.G (Zof A os) H' ((done ++ [k]).map SRow.d) (dv ++ [v']):=by
   rw [List.map_append]
   exact (mono rd).append (.cons r .nil)
  have key:=zg0 (N2:=N2) (ys:=ys) (Q:=Q) hK rows xs' keys (done ++ [k]) (dv ++ [v']) H' (by simpa using hl) I' (mono rr') (mono rc) rd' (fun i d x e1 e2=>htb (i + 1) d x (by simpa using e1) (by simpa using e2)) fun kv H3 fr3 I3 r3=>by
   have:=fin (v' :: kv) H3 (fun a o g e=>fr3 a o g (fr a o g e)) I3 (by simpa using r3)
   simpa using this
  have e9:(fun rest H3=>xS X ys Q (dv ++ [v'] ++ rest) H3) = fun ks H''=>xS X ys Q (dv ++ v' :: ks) H'':=by funext rest H3; rw [List.append_assoc]; rfl
  rw [e9] at key
  exact key
variable {e body:Expr} {t1:TAD} {tb:TD} {N:List Str} {caps:List Nat} {k:Nat} {np kp pos lpos:Pos} {c P:Addr} {q p:Str} {params:Arguments} {scope:Scope} {clos:List (Str × Addr)}
theorem VP (ti:yn A.K P q) (hK:X.K = A.K) (hm:X.mg "sorted" = none) (hr:Room (k + 3) X.A) (ha:PAD A X [e] t1) (L:LamBase X.base X.mg c P) (S:LamScope N p scope clos) (C:Caps X N clos caps)
  (hbody:∀ (A1:Around) (f c':Addr) (s:Shared) (H:Hp) (G:Option Addr) (Z:Addr -> Prop),Room k (A1.deeper (PySem.W.envX q scope s.heap.objs.size f (.ref c') clos)) -> PD ⟨X.K,G,Z,H⟩ (VZ X A1 N q scope f c' clos s H) body tb)
  (hq:X.env.qual ++ "<lambda>" = q:=by rfl) (hc:X.env.code = .ref c:=by rfl) (hcl:closureFor scope X.env = pure clos:=by rfl) (hdef:defaultsOf params X.env = ([],[]):=by rfl)
  (hb:∀ (u pm ctv:Value) (c':Addr),bindArgs (PySem.W.kla_fn "<lambda>" q params body scope clos pm (.ref c') ctv) ⟨[u],[]⟩ = pure [(p,u)]:=by intros; rfl) (hg:Gl X "sorted" := by rfl)
  (he:starEach [e] X.env = (false,eval e X.env) :: starEach [] X.env:=by rfl) (hpl:(backTo pos (starEach [e] X.env)).any (·.1) = false:=by rfl) :
  PD A X (.Call (.Name "sorted" np) [e] [⟨some "key",.Lambda params body scope lpos,kp⟩] pos) (zg8 caps tb t1):=by
 with_unfolding_all
  exact (VN (tb:=fun H' σ' H'' Q'=>∃ G Z,tOf ⟨X.K,G,Z,H'⟩ tb σ' H'' Q') hg hm ha hr hc L hq hcl hdef S C hb (fun A1 f c' s H hr pins s1 σ1 H1 Q I h=>by
    obtain ⟨G,Z,h⟩:=h
    exact hbody A1 f c' s H G Z hr pins s1 σ1 H1 Q I h) he hpl).imp fun sg H Q h=>by
   obtain ⟨rho,n,R,ds,vs,I,ht,hQ⟩:=h
   refine ⟨rho,n,_,ds,vs,I,ht,fun ws H' n' es' ⟨os,J⟩ hl k=>?_⟩
   obtain ⟨rows,keys,fl,cs,rfl,h64,hlk,hnum,hnd,hcs,hcap,htb,hfin⟩:=k
   obtain ⟨J1,rs⟩:=J.split hl
   obtain ⟨v,rfl,r⟩:=yi rs
   obtain ⟨a,xs,rfl,sq,rr⟩:=r.lst_inv
   have len:xs.length = rows.length:=rr.length
   obtain ⟨cv,rc,hcv⟩:=Xy J1 caps cs hcs hcap
   refine ⟨a,xs,cv,rfl,by rw [hK]; exact sq.sq,by lia,(J1.zO.2 P q ti).1,by rw [rc.length]; exact hcs,hcv,fun H2 hH2=>?_⟩
   have kp2:=hH2.keep
   have J2:AmO A os n' rho sg H2 ds vs:=by
    rcases hH2 with rfl | ⟨c2,o2,hn2,rfl⟩
    ·exact J1
    ·exact J1.grow hn2
   have mono:∀ {es:List D} {ws:List V},Reps A.K A.G (Zof A os) H' es ws -> Reps A.K A.G (Zof A os) H2 es ws:=fun h=>Reps.mono (fun _ _ z=>z) (fun b u _ e=>kp2 b u e) _ _ h
   refine zg0 (N2:=0) hK rows xs keys [] [] H2 hlk J2 (mono rr) (mono rc) .nil htb fun kv H3 fr I3 rk=>?_
   rw [List.nil_append] at rk ⊢
   have rr3:Reps A.K A.G (Zof A os) H3 rows xs:=Reps.mono (fun _ _ z=>z) (fun b u nz e=>fr b u (fun z=>nz (.inl (J2.gz b z))) e) _ _ (mono rr)
   rw [List.nil_append,<- hK] at rk
   have lenk:kv.length = keys.length:=by rw [rk.length,List.length_map]
   have mem:∀ i,i < keys.length -> keys.getD i WU ∈ keys:=fun i hi=>by
    rw [List.getD_eq_getElem?_getD,List.getElem?_eq_getElem hi]; exact List.getElem_mem hi
   have dist:∀ i j,i < keys.length -> j < keys.length -> i ≠ j -> (keys.getD i WU).name ≠ (keys.getD j WU).name:=fun i j hi hj hij e=>by
    have g:∀ i (hi:i < keys.length),(keys.map SRow.name)[i]'(by simpa using hi) = (keys.getD i WU).name:=fun i hi=>by
     rw [List.getElem_map,List.getD_eq_getElem?_getD,List.getElem?_eq_getElem hi]; rfl
    have f:=List.pairwise_iff_getElem.mp hnd
    rcases Nat.lt_or_gt_of_ne hij with l | l
    ·exact f i j (by simpa using hi) (by simpa using hj) l (by rw [g i hi,g j hj,e])
    ·exact f j i (by simpa using hj) (by simpa using hi) l (by rw [g i hi,g j hj,e])
   have num:∀ i,i < keys.length -> (keys.getD i WU).key.num = fl:=fun i hi=>hnum _ (mem i hi)
   refine ⟨fl,fun i j=>(keys.getD i WU).lt (keys.getD j WU),by lia,fun i j hi hj hij=>SRow.lt_anti (by rw [num i (by lia),num j (by lia)]) (dist i j (by lia) (by lia) hij),fun i j l _ _ _ h1 h2=>SRow.lt_trans h1 h2,fun i hi=>?_,fun i j hi hj hij=>?_,fun ls hp hU l hl'=>?_⟩
   ·intro pins s σ u J ru
    obtain ⟨p,rest,R⟩:=UT J (rk.getD (enc:=SRow.d) (a0:=WU) (by lia)) ru
    obtain ⟨z,t,_⟩:=R.tup
    have ty:=QA J R
    rw [num i (by lia)] at ty
    exact ⟨p,_,t,ty⟩
   ·intro pins s σ u v J ru rv B hB
    obtain ⟨p,ps,R⟩:=UT J (rk.getD (enc:=SRow.d) (a0:=WU) (by lia)) ru
    obtain ⟨p',ps',R'⟩:=UT J (rk.getD (enc:=SRow.d) (a0:=WU) (by lia)) rv
    have c:=zj0 J (by rw [num i (by lia),num j (by lia)]) (dist i j (by lia) (by lia) hij) R R' hB
    rw [num i (by lia)] at c
    exact c
   ·rw [len] at hp hU
    have hls:∀ i ∈ ls.toList,i < rows.length:=fun i hi=>by
     have:=(hp.mem_iff).mp (Array.mem_toList_iff.mp hi)
     rwa [Array.mem_range] at this
    have hsz:ls.size = rows.length:=by rw [hp.size_eq,Array.size_range]
    have rp:Reps A.K A.G (Zof A os) H3 ((ls.toList.map fun i=>rows.getD i .non).map id) (ls.toList.map fun i=>xs.getD i .non):=YF (enc:=id) (a0:=.non) (by rw [List.map_id]; exact rr3) hls
    rw [List.map_id] at rp
    refine hQ _ _ _ _ ⟨os,I3.newLst rp hl'⟩ (hfin ls.toList ?_ ?_)
    ·have := Array.perm_iff_toList_perm.mp hp
     rwa [Array.toList_range] at this
    ·rw [List.pairwise_map, List.pairwise_iff_getElem]
     intro i j hi hj hij
     have hi':i < ls.size:=by simpa using hi
     have hj':j < ls.size:=by simpa using hj
     have u:=hU i j hij (by lia)
     have g:∀ i (hi:i < ls.size),Srt.lab ls i = ls.toList[i]'(by simpa using hi):=fun i hi=>by
      refine Srt.kU ?_
      rw [<- Array.getElem?_toList,List.getElem?_eq_getElem (by simpa using hi)]
     rw [g i hi',g j hj'] at u
     exact u
end
section
variable {P:Program} {w:World} {K:PySem.W.Frag} {mg:Str -> Option Value} {base:Heap}
theorem WC {x qual:Str} {st:Stmt} {f c Pt:Addr} {oc:Value} {od an:Option Addr} {osl:Array (Option Value)} {kV doc pm cdv ct:Value} (lk:K.lookup f = some ⟨oc,od,.func (PySem.W.fnOf x qual (zq st) (zo st) (zg st) .none kV doc pm an cdv ct),osl⟩)
  (hn:PySem.W.nsIn K mainGlobals x = some (some (.ref f))) (ht:PySem.W.tabIn K x = some (c,Pt)):cdv = .ref c:=by
 unfold PySem.W.tabIn at ht
 rw [hn] at ht
 simp only [lk] at ht
 split at ht
 ·split at ht
  ·split at ht
   ·cases ht; first | rfl | assumption
   ·cases ht
  ·cases ht
 ·cases ht
theorem Fun.okL {x qual:Str} {st:Stmt} {f c Pt:Addr} {fd:FuncData} {N ps:List Str} {k:Nat} {t:TF} {tb:TSD} (F:Fun K x qual st f fd) (hn:PySem.W.nsIn K mainGlobals x = some (some (.ref f))) (ht:PySem.W.tabIn K x = some (c,Pt)) (S:FnScope N ps (zg st))
  (body : ∀ (A0 : Around) (outer : List Env) (s : Shared) (H : Hp) (E : XK) (G : Option Addr) (Z : Addr -> Prop), Room k (A0.deeper (envOfC qual (zg st) s.heap.objs.size f (.ref c))) ->
   Um ⟨K,G,Z,H⟩ (zd2 CX0 P w K mg base N qual (zg st) f (.ref c) A0 outer s H E).nox (zo st) tb)
  (spec:∀ ds n Q,ds.length = ps.length -> t ds n Q -> tb { nx:=fun _ n=>Q .non n,rt:=Q } (startD N ds) n):FnOk P w K mg base CX0 (k + 1) f fd ps (spD K ps.length t):=by
 with_unfolding_all
  exact (by
   obtain ⟨oc,od,kV,doc,pm,an,cdv,ct,osl,rfl,lk,hcd⟩:=F.ex
   have e:=WC lk hn ht
   subst e
   refine zB9 lk hcd S (fun vs H Q E h=>?_) fun A0 outer s H vs Q E hr h=>?_
   ·obtain ⟨G, Z, n, R, ds, hl, rs, _⟩ := h
    rw [rs.length]; exact hl
   ·obtain ⟨G, Z, n, R, ds, hl, rs, hst, gz, z0, ht, hQ⟩ := h
    refine ⟨_,PSs.nox (body A0 outer s H E G Z hr),startD N ds,n,_,[],[],⟨[],kB rs hst gz z0⟩,spec ds n R hl ht,?_⟩
    have zz:∀ (os:List (Nat × Addr)) a,Z a -> Zof ⟨K,G,Z,H⟩ os a:=fun os a z=>.inl z
    refine ⟨fun rho' n' sg' H' ⟨os,I⟩ q=>?_,fun d n' v rho' sg' H' ⟨os,I⟩ q=>?_,fun _ _ _ _ _ q=>q.elim,fun _ _ _ _ _ q=>q.elim⟩
    ·exact hQ .non H' n' .non I.fr I.st (Rep.ofS rfl) q
    ·exact hQ v H' n' d I.fr I.st (Rep.mono (fun a _ z=>zz os a z) (fun _ _ _ e=>e) _ _ I.pop.2) q)
end
end L2
set_option maxRecDepth 100000
namespace L2
open PySem PySem.Spec PyProof.Rows
abbrev XQ (K:PySem.W.Frag) (mg:Str -> Option Value) (base:Heap):Prop:=∀ x ∈ yz,∀ c P,PySem.W.tabIn K x = some (c,P) -> LamBase base mg c P
theorem KW {P:Program} {w:World} {K:PySem.W.Frag} {mg mb:Str -> Option Value} {CX:CXT} {k:Nat} {fa a:Addr} {fd:FuncData} {x:Str} {sp:Sp} {s₁:Shared} {vs:List Value} {ns:List Int}
  (KX:K.In s₁.heap) (hns:s₁.heap.Ns mainGlobals mg) (hb:s₁.heap.Ns builtinsNs mb) (hbb:∀ x:Str,x ≠ "__name__" -> mb x = bootBuiltins x) (hlim:s₁.heap.NoLimit) (hdig:s₁.heap.NoDigits) (hg:s₁.gens = #[])
  (hT:∀ x ∈ yz,∀ c P,PySem.W.tabIn K x = some (c,P) -> PySem.W.CodeHd s₁.heap c P /\ s₁.heap.get? P = some (PySem.W.tabObj #[])) (hu:∀ P q q',yn K P q -> yn K P q' -> q = q') (hnt:PySem.W.noTabs K = true)
  (hbm:∃ bm ob,mg "__builtins__" = some (.ref bm) /\ bm ≠ builtinsNs /\ s₁.heap.get? bm = some ob /\ ob.cls = .type "module" /\ ob.dict = some builtinsNs /\ ob.data = .plain)
  (ha:s₁.heap.get? a = some { cls:=.type "list",data:=.seq vs.toArray }) (hi:IntsAre vs ns) (hl:ns.length <= sizeLine) (hr:Room k callerA)
  (F:∀ base:Heap,K.In base -> base.Ns mainGlobals mg -> base.NoDigits -> XQ K mg base -> FnOk P w K mg base CX k fa fd [x] sp) (hbind:∀ (s:Shared) (u:Value),BindsTo s fd ⟨[u],[]⟩ [(x,u)])
  (hsp:∀ H:Hp,ze1 H -> SqL K H a (ns.map V.int) -> (∀ P q,yn K P q -> H P = some (.cot q)) -> sp [.ref a] H (fun v H'=>v = .bl true /\ ∀ P q,H P = some (.cot q) -> H' P = some (.cot q)) fun _ _ _=>False)
  (hCX:∀ H e s',CX [] H s₁ (fun _ _ _=>False) e s' -> False) :
  codeAny (model P w) callerA (.call (.ref fa) ⟨[.ref a],[]⟩) (fun r s'=>r = .ok (.ret (.bool true)) /\ OldK s₁.heap s'.heap /\ s'.os = s₁.os /\ AllBare s'.gens) s₁:=by
 classical
 have rv:=Yp hi
 have lenV:=hi.length
 have tabAt:∀ {b:Addr},(∃ q,yn K b q) -> ∃ c,PySem.W.CodeHd s₁.heap c b /\ s₁.heap.get? b = some (PySem.W.tabObj #[]):=fun {b} ⟨q,x,hx,c,e,_⟩=>⟨c,hT x hx c b e⟩
 have core : ∀ H : Hp, (∀ b, (H b = none) \/ (b = a /\ ∃ o xs, H b = some (.frz o (.lst xs))) \/ ∃ q, yn K b q /\ H b = some (.cot q)) -> (∀ P q, yn K P q -> H P = some (.cot q)) -> SqL K H a (ns.map V.int) -> HOk P w H s₁.heap -> (H a ≠ none -> K.lookup a = none) ->
   codeAny (model P w) callerA (.call (.ref fa) ⟨[.ref a],[]⟩) (fun r s'=>r = .ok (.ret (.bool true)) /\ OldK s₁.heap s'.heap /\ s'.os = s₁.os /\ AllBare s'.gens) s₁:=by
  intro H hO hTH hS hok hK
  have base_of:∀ {b:Addr} {o:Obj},s₁.heap.get? b = some o -> H b = none -> (Qm s₁.heap H).get? b = some o:=fun e n=>zc4 e n
  have noA:∀ {b:Addr} {o:Obj},s₁.heap.get? b = some o -> o.cls ≠ .type "list" -> o ≠ PySem.W.tabObj #[] -> H b = none:=fun {b o} e d1 d2=>by
   rcases hO b with z | ⟨rfl,_⟩ | ⟨q,t,_⟩
   ·exact z
   ·rw [ha] at e; cases e; exact absurd rfl d1
   ·obtain ⟨c, _, e2⟩ := tabAt ⟨q, t⟩
    rw [e2] at e; cases e; exact absurd rfl d2
  have noD:∀ {b:Addr} {o:Obj} {es:Array DictEntry} {ep:Nat},s₁.heap.get? b = some o -> o.data = .dict es ep -> H b = none:=fun {b o es ep} e d=>by
   rcases hO b with z | ⟨rfl,_⟩ | ⟨q,t,_⟩
   ·exact z
   ·rw [ha] at e; cases e
    have d':Data.seq vs.toArray _ = Data.dict es ep:=d
    cases d'
   ·obtain ⟨c, _, e2⟩ := tabAt ⟨q, t⟩
    rw [e2] at e; cases e
    have d':Data.fields #[] = Data.dict es ep:=d
    cases d'
  have nsK:∀ {b:Addr} {m:Str -> Option Value},s₁.heap.Ns b m -> (Qm s₁.heap H).Ns b m:=fun {b m} ⟨o,es,ep,e,d,r⟩=>⟨o,es,ep,base_of e (noD e d),d,r⟩
  have hKb:K.In (Qm s₁.heap H):=fun b o e=>base_of (KX b o e) (by
   rcases hO b with z | ⟨rfl,o',xs,z⟩ | ⟨q,t,z⟩
   ·exact z
   ·rw [hK (by rw [z]; simp)] at e; cases e
   ·obtain ⟨c, _, e2⟩ := tabAt ⟨q, t⟩
    rw [KX b o e] at e2
    cases e2
    have h2:=List.all_eq_true.mp hnt (b,_) (PySem.W.mem_of_lookupK e)
    exact absurd (show false = true from h2) Bool.false_ne_true)
  have hM:Mod K mg (Qm s₁.heap H):=⟨hKb,nsK hns,⟨mb,nsK hb,hbb⟩,let ⟨mc,h1,h2⟩:=hlim; ⟨mc,nsK h1,h2⟩⟩
  have e0:Env0 P w K mg (Qm s₁.heap H) callerA [] s₁ H:=⟨rfl,hM,fun b o e=>zm4 e,Nat.le_of_eq (Jf _ _),trivial,fun b hb=>absurd (show b ∈ ([]:List Addr) from hb) (by simp),hok,.of_eq hg⟩
  have hLA:XQ K mg (Qm s₁.heap H):=fun y hy c Pt e=>by
   obtain ⟨⟨o,vs,file,tf,flags,tg,inF,text,tt,e1,r1,r2,r3,r4,r5,r6,r7,r8,hne⟩,_⟩:=hT y hy c Pt e
   obtain ⟨bm,ob,b1,b2,b3,b4,b5,b6⟩:=hbm
   refine ⟨⟨o,vs,file,tf,flags,tg,inF,text,tt,base_of e1 (noA e1 (by rw [r1]; decide) (fun z=>by rw [z] at r1; cases r1)),r1,r2,r3,r4,r5,r6,r7,r8,hne⟩,bm,ob,b1,b2,base_of b3 (noA b3 (by rw [b4]; decide) (fun z=>by rw [z] at b4; cases b4)),b4,b5,b6⟩
  have hOC:ze1 H:=fun b=>by
   rcases hO b with z | ⟨_,z⟩ | ⟨q,_,z⟩
   ·exact .inl z
   ·exact .inr (.inl z)
   ·exact .inr (.inr ⟨q,z⟩)
  refine codeAny_mono ((F _ hKb (nsK hns) (let ⟨mc,h1,h2⟩:=hdig; ⟨mc,nsK h1,h2⟩) hLA).run callerA [] s₁ H ⟨[.ref a],[]⟩ [.ref a] [.ref a] _ _ hr e0 (hbind s₁ (.ref a)) (.cons rfl .nil) (hsp H hOC hS hTH)) fun r s' h=>?_
  cases r with
  | error e=>exact (hCX H e s' h).elim
  | ok fl =>
   cases fl with
   | next=>exact False.elim h
   | brk=>exact False.elim h
   | cont=>exact False.elim h
   | ret u =>
    obtain ⟨v,H',os,bare,un,hok',r',q,qT⟩:=h
    have q':v = .bl true:=q
    subst q'
    obtain rfl:u = Value.bool true:=r'
    have old:∀ b o,s₁.heap.get? b = some o -> asItWas s₁.heap s'.heap b o:=fun b o e=>by
     rcases hO b with z | ⟨_,ob,xs,z⟩ | ⟨q,t,z⟩
     ·exact .inl (un.keep b o e z (by intro z; exact absurd (show b ∈ ([]:List Addr) from z) (by simp)) (by simp))
     ·have z2 := un.frzs b ob _ z
      obtain ⟨e1,_⟩:=hok b _ z
      obtain ⟨e2,_⟩:=hok' b _ z2
      rw [e] at e1; cases e1
      exact .inl e2
     ·obtain ⟨c, hc, e2⟩ := tabAt ⟨q, t⟩
      obtain ⟨ps,e3,_⟩:=hok' b _ (qT b q z)
      have e4:=e2
      rw [e] at e4
      cases e4
      exact .inr (.inl ⟨(hc.tab e2).isCodeTable,rfl,#[],ps,rfl,by rw [Array.empty_append]; exact e3⟩)
    refine ⟨rfl,⟨old,fun b o e=>?_⟩,os,bare⟩
    exact un.there b o e (by simp)
 have ta:∀ q,¬ yn K a q:=fun q t=>by
  obtain ⟨c,_,e2⟩:=tabAt ⟨q,t⟩
  rw [ha] at e2; cases e2
 let HT:Hp:=fun b=>if h:∃ q,yn K b q then some (.cot h.choose) else none
 have HTpos:∀ b q,yn K b q -> HT b = some (.cot q):=fun b q t=>by
  have h:∃ q,yn K b q:=⟨q,t⟩
  show (if h:∃ q,yn K b q then some (HO.cot h.choose) else none) = _
  rw [dif_pos h,hu b _ q h.choose_spec t]
 have HTany:∀ b,HT b = none \/ ∃ q,yn K b q /\ HT b = some (.cot q):=fun b=>by
  by_cases h:∃ q,yn K b q
  ·obtain ⟨q, t⟩ := h
   exact .inr ⟨q,t,HTpos b q t⟩
  ·exact .inl (dif_neg h)
 have HTa:HT a = none:=by
  rcases HTany a with z | ⟨q,t,_⟩
  ·exact z
  ·exact absurd t (ta q)
 have HTok:∀ b u,HT b = some u -> ∃ q,u = .cot q /\ s₁.heap.get? b = some (PySem.W.tabObj #[]):=fun b u e=>by
  rcases HTany b with z | ⟨q,t,z⟩
  ·rw [e] at z; cases z
  ·rw [e] at z; cases z
   obtain ⟨c,_,e2⟩:=tabAt ⟨q,t⟩
   exact ⟨q,rfl,e2⟩
 cases hk:K.lookup a with
 | some o =>
  have e:=KX a o hk
  rw [ha] at e
  cases e
  refine core HT (fun b=>?_) HTpos (.inr ⟨_,vs.toArray,_,hk,rfl,rfl,rfl,by rw [List.size_toArray,lenV]; exact hl,by simpa using rv⟩) (fun b u z=>?_) fun z=>absurd HTa z
  ·rcases HTany b with z | z
   ·exact .inl z
   ·exact .inr (.inr z)
  ·obtain ⟨q, rfl, e⟩ := HTok b u z
   exact ⟨#[],e,.nil⟩
 | none =>
  refine core (upd HT a (.frz { cls:=.type "list",data:=.seq vs.toArray } (.lst (ns.map V.int)))) (fun b=>?_) (fun b q t=>?_) (.inl (.inr ⟨{ cls:=.type "list",data:=.seq vs.toArray },xg⟩)) (fun b u z=>?_) fun _=>hk
  ·by_cases hb : b = a
   ·subst hb; exact .inr (.inl ⟨rfl,_,_,xg⟩)
   ·rw [zG hb]
    rcases HTany b with z | z
    ·exact .inl z
    ·exact .inr (.inr z)
  ·rw [zG (fun (z:b = a)=>ta q (by rw [<- z]; exact t))]; exact HTpos b q t
  ·by_cases hb : b = a
   ·subst hb
    rw [xg] at z
    cases z
    exact ⟨ha,by rw [List.length_map]; exact hl,vs,_,rv,ha⟩
   ·rw [zG hb] at z
    obtain ⟨q,rfl,e⟩:=HTok b u z
    exact ⟨#[],e,.nil⟩
theorem Qq {l:PySem.W.OpenLaw} {n k:Nat} {q:Program} {loose:List Str} {XP:(Str -> Option Value) -> Heap -> Prop} {YP:World -> Heap -> Prop} {d:DefRec} {K:Params -> PySem.W.Frag} {CX:World -> CXT} {sp:World -> Sp} {x:Str}
  (hn:l.most = some n) (hn2:n <= sizeLine) (hdf:d.params.defaults = []) (hr:Room k callerA)
  (hY:∀ (w:World) (h:Heap),YP w h -> (K w.params).In h)
  (hrec:∀ (w:World),∀ y ∈ yz,∀ c P,PySem.W.tabIn (K w.params) y = some (c,P) -> ∃ d,(recsOf q).find? (fun e=>e.name == y) = some d) (hu:∀ (w:World) P q q',yn (K w.params) P q -> yn (K w.params) P q' -> q = q') (hnt:∀ w:World,PySem.W.noTabs (K w.params) = true)
  (F : ∀ (w : World) (mg : Str -> Option Value) (fa : Addr) (h : Heap), (K w.params).In h -> h.Ns mainGlobals mg -> mg d.name = some (.ref fa) ->
   ∃ fd:FuncData,(∀ (s:Shared) (u:Value),BindsTo s fd ⟨[u],[]⟩ [(x,u)]) /\
    ∀ base:Heap,(K w.params).In base -> base.Ns mainGlobals mg -> base.NoDigits -> XQ (K w.params) mg base -> FnOk l.prog w (K w.params) mg base (CX w) k fa fd [x] (sp w))
  (hsp:∀ (w:World) (H:Hp) (a:Addr) (ns:List Int),ns.length <= n -> ze1 H -> SqL (K w.params) H a (ns.map V.int) -> (∀ P q,yn (K w.params) P q -> H P = some (.cot q)) -> sp w [.ref a] H (fun v H'=>v = .bl true /\ ∀ P q,H P = some (.cot q) -> H' P = some (.cot q)) fun _ _ _=>False)
  (hCX:∀ (w:World) (H:Hp) (s:Shared) (e:Value) (s':Shared),CX w [] H s (fun _ _ _=>False) e s' -> False) :
  PySem.W.WalkO q loose XP YP l.row.toRowW d [] (fun f vs=>PySem.call f vs):=by
 refine Att.attach_call hn hdf fun w s₀ s₁ mg mb fa o pm cd doc a vs ns G Y ho hd hcd hmg hobj hints hlen hg=>?_
 have KX:=hY w _ Y
 obtain ⟨fd,hb,hF⟩:=F w mg fa _ KX G.T.g hmg
 exact KW KX G.T.g G.T.b G.T.builtins G.T.nolimit G.T.nodigits hg (fun y hy c P e=>let ⟨d,hr⟩:=hrec w y hy c P e; PySem.W.tab_of G.T KX hr e) (hu w) (hnt w) G.T.bmain hobj hints (Nat.le_trans hlen hn2) hr hF hb (fun H hO hS hT=>hsp w H a ns hlen hO hS hT) fun H e s'=>hCX w H s₁ e s'
end L2
set_option maxRecDepth 100000
namespace L2
open PySem PySem.Spec PyProof.Rows
def evL {α:Type}:List α -> List α
 | []=>[]
 | [x]=>[x]
 | x :: _ :: r=>x :: evL r
def odL {α:Type}:List α -> List α
 | []=>[]
 | [_]=>[]
 | _ :: y :: r=>y :: odL r
def vY {α:Type} (o:Bool) (l:List α):List α:=if o then odL l else evL l
theorem Jm:∀ l:List Value,((List.range ((l.length + 1) / 2)).map fun k=>2 * k).filterMap (fun i=>l[i]?) = evL l
 | []=>rfl
 | [x]=>by simp [evL,List.range_succ]
 | x :: y :: r=>by
  have e:((x :: y :: r).length + 1) / 2 = (r.length + 1) / 2 + 1:=by simp only [List.length_cons]; lia
  rw [e,List.range_succ_eq_map,List.map_cons,List.filterMap_cons]
  show x :: _ = x :: evL r
  rw [<- Jm r,List.map_map,List.filterMap_map,List.filterMap_map]
  rfl
theorem KC:∀ l:List Value,((List.range (l.length / 2)).map fun k=>2 * k + 1).filterMap (fun i=>l[i]?) = odL l
 | []=>rfl
 | [x]=>by simp [odL]
 | x :: y :: r=>by
  have e:(x :: y :: r).length / 2 = r.length / 2 + 1:=by simp only [List.length_cons]; lia
  rw [e,List.range_succ_eq_map,List.map_cons,List.filterMap_cons]
  show y :: _ = y :: odL r
  rw [<- KC r,List.map_map,List.filterMap_map,List.filterMap_map]
  rfl
theorem Jg (o:Bool) (l:List Value):slicePick l.toArray (if o then some 1 else none) none (some 2) = (vY o l).toArray:=by
 unfold slicePick
 cases o with
 | false =>
  show ((sliceRange 0 (l.toArray.size:Int) 2).filterMap fun i=>l.toArray[i]?).toArray = (evL l).toArray
  rw [<- Jm l]
  congr 1
  have e:sliceRange 0 (l.toArray.size:Int) 2 = (List.range ((l.length + 1) / 2)).map fun k=>2 * k:=by
   unfold sliceRange
   simp only [List.size_toArray]
   have c:(if (2:Int) > 0 then (if (0:Int) < (l.length:Int) then ((l.length:Int) - 0 + 2 - 1) / 2 else 0) else (if (0:Int) > (l.length:Int) then (0 - (l.length:Int) - 2 - 1) / (-2) else 0)).toNat = (l.length + 1) / 2:=by
    rw [if_pos (by decide)]
    split <;> lia
   rw [c]
   exact List.map_congr_left fun k _=>by lia
  rw [e]
  simp
 | true =>
  show ((sliceRange (max 0 (min (1:Int) (l.toArray.size:Int))) (l.toArray.size:Int) 2).filterMap fun i=>l.toArray[i]?).toArray = (odL l).toArray
  rw [<- KC l]
  congr 1
  have e:sliceRange (max 0 (min (1:Int) (l.toArray.size:Int))) (l.toArray.size:Int) 2 = (List.range (l.length / 2)).map fun k=>2 * k + 1:=by
   by_cases h0:l.length = 0
   ·have : l = [] := List.length_eq_zero_iff.mp h0
    subst this
    rfl
   ·have em : max 0 (min (1 : Int) (l.toArray.size : Int)) = 1 := by simp only [List.size_toArray]; lia
    rw [em]
    unfold sliceRange
    simp only [List.size_toArray]
    have c:(if (2:Int) > 0 then (if (1:Int) < (l.length:Int) then ((l.length:Int) - 1 + 2 - 1) / 2 else 0) else (if (1:Int) > (l.length:Int) then (1 - (l.length:Int) - 2 - 1) / (-2) else 0)).toNat = l.length / 2:=by
     rw [if_pos (by decide)]
     split <;> lia
    rw [c]
    exact List.map_congr_left fun k _=>by lia
  rw [e]
  simp
theorem qC {α:Type} (o:Bool):∀ l:List α,(vY o l).length <= l.length
 | []=>by cases o <;> simp [vY,evL,odL]
 | [x]=>by cases o <;> simp [vY,evL,odL]
 | x :: y :: r=>by
  have:=qC o r
  cases o with
  | false=>show (x :: evL r).length <= _; have h:(evL r).length <= r.length:=this; simp only [List.length_cons]; lia
  | true=>show (y :: odL r).length <= _; have h:(odL r).length <= r.length:=this; simp only [List.length_cons]; lia
theorem Xn {α:Type}:∀ l:List α,(odL l ++ evL l).Perm l
 | []=>.nil
 | [x]=>.refl _
 | x :: y :: r=>by
  show ((y :: odL r) ++ (x :: evL r)).Perm (x :: y :: r)
  refine List.perm_middle.trans (.cons x ?_)
  exact .cons y (Xn r)
theorem ZR {α β:Type} (f:α -> β) (o:Bool):∀ l:List α,vY o (l.map f) = (vY o l).map f
 | []=>by cases o <;> rfl
 | [x]=>by cases o <;> rfl
 | x :: y :: r=>by
  have:=ZR f o r
  cases o with
  | false=>show f x :: evL (r.map f) = _; have h:evL (r.map f) = (evL r).map f:=this; rw [h]; rfl
  | true=>show f y :: odL (r.map f) = _; have h:odL (r.map f) = (odL r).map f:=this; rw [h]; rfl
theorem Vals.half (o:Bool):∀ {xs:List V} {us:List Value},Vals xs us -> Vals (vY o xs) (vY o us)
 | _,_,.nil=>by cases o <;> exact .nil
 | _,_,.cons r .nil=>by
  cases o
  ·exact .cons r .nil
  ·exact .nil
 | _,_,.cons r (.cons r2 t)=>by
  have:=Vals.half o t
  cases o
  ·exact .cons r this
  ·exact .cons r2 this
theorem Reps.half {K:PySem.W.Frag} {G:Option Addr} {Z:Addr -> Prop} {H:Hp} (o:Bool):∀ {ds:List D} {vs:List V},Reps K G Z H ds vs -> Reps K G Z H (vY o ds) (vY o vs)
 | [],vs,h=>by rw [h.nil_inv]; cases o <;> exact .nil
 | [d],vs,h=>by
  obtain ⟨v,r,rfl,q,t⟩:=h.split
  rw [t.nil_inv]
  cases o
  ·exact .cons q .nil
  ·exact .nil
 | d :: d2 :: ds,vs,h=>by
  obtain ⟨v,r,rfl,q,t⟩:=h.split
  obtain ⟨v2,r2,rfl,q2,t2⟩:=t.split
  have:=Reps.half o t2
  cases o
  ·exact .cons q this
  ·exact .cons q2 this
section
variable {X:Cx} {e st:Expr} {te:TE} {lo:Option Expr} {pos p2:Pos}
def zr8 (K:PySem.W.Frag) (o:Bool) (te:TE):TE:=fun σ H Q=>te σ H fun x H1=>∃ a xs,x = .ref a /\ SqL K H1 a xs /\ ∀ p,H1 p = none -> Q (.ref p) (upd H1 p (.lst (vY o xs)))
theorem Kg {o:Bool} (he:PE X e te) (hlo:PO X lo fun _ H Q=>Q (if o then some 1 else none) H) (hst:PE X st fun _ H Q=>Q (.int 2) H):PE X (.Subscript e (.Slice lo none (some st) p2) pos) (zr8 X.K o te):=by
 intro pins s σ H Q I h
 refine Subscript_ (thn (he pins s σ H _ I h) fun v s1 ⟨x,H1,I1,r1,q1⟩=>?_)
 obtain ⟨a,xs,rfl,hx,q1⟩:=q1
 refine wpAny_Slice (thn (hlo pins s1 σ H1 (fun o' H2=>o' = (if o then some 1 else none) /\ H2 = H1) I1 ⟨rfl,rfl⟩) fun vl s2 ⟨l,H2,I2,pl,el,eH⟩=>?_)
 subst el eH
 rw [evalPart_none]
 refine wpAny_pure ?_
 rw [evalPart_some]
 refine thn (hst pins s2 σ H2 (fun y H3=>y = .int 2 /\ H3 = H2) I2 ⟨rfl,rfl⟩) fun u s3 ⟨y,H3,I3,ry,ey,eH⟩=>?_
 subst ey eH
 obtain ⟨tk,rfl⟩:=ry
 cases r1
 have I4:Inv X pins σ H3 { s3 with heap:=s3.heap.push { cls:=.type "slice",data:=.fields #[vl,.none,.int 2 tk] } }:=I3.kept (t':=s3.toks) fun b ob q=>Heap.get?_push_of_some _ q
 obtain ⟨its,r,ht,hz⟩:=I4.list hx
 have hlen:=r.length
 refine tail_any (ops:=[.ref a,.ref s3.heap.objs.size]) ht.isList.typeIs slot_list_getitem.lookup (wpAny_getItem_list_slice ht.isList (Heap.IsSliceOf.new ..) pl .none (.int 2 tk) (by simp) ?_ (by rw [List.size_toArray] <;> lia)) (by with_unfolding_all rfl)
 rw [Jg]
 refine ⟨.ref _,_,I4.laid (t':=s3.toks) (o:=.lst (vY o xs)) (fun b ob q=>Heap.get?_push_of_some _ q) (Nat.le_refl _) ?_,rfl,q1 _ (I4.hok.fresh (Nat.le_refl _))⟩
 exact ⟨Nat.le_trans (qC o xs) hz,vY o its,0,r.half o,Heap.get?_push_size _ rfl⟩
end
section
variable {A:AC} {X:Cx} {a:Expr} {ta:TD} {pos p2 p3 p4:Pos}
def zd0 (o:Bool) (ta:TD):TD:=fun rho n P=>ta rho n fun d n1=>KO d fun fs=>P (.lst (vY o fs)) n1
@[simp] theorem zQ4 {o ta rho n P}:zd0 o ta rho n P = ta rho n fun d n1=>KO d fun fs=>P (.lst (vY o fs)) n1:=rfl
theorem Jh {o:Bool} (hK:X.K = A.K) {sg:St} {H:Hp} {Q:VK} (h:tOf A (zd0 o ta) sg H Q):zr8 X.K o (tOf A ta) sg H Q:=by
 obtain ⟨rho,n,P,ds,vs,I,ht,hQ⟩:=h
 refine ⟨rho,n,_,ds,vs,I,ht,fun v H1 n1 d ⟨os,J⟩ k=>?_⟩
 obtain ⟨fs,hd,k⟩:=k
 obtain ⟨J1,r⟩:=J.pop
 rw [hK]
 rcases hd with rfl | rfl
 ·obtain ⟨l, xs, rfl, sq, rs⟩ := r.lst_inv
  exact ⟨l,xs,rfl,sq.sq,fun p hp=>hQ _ _ n1 _ ⟨os,J1.newLst (rs.half o) hp⟩ k⟩
 ·obtain ⟨l, xs, rfl, sq, rs⟩ := r.fz_inv
  exact ⟨l,xs,rfl,sq,fun p hp=>hQ _ _ n1 _ ⟨os,J1.newLst (rs.half o) hp⟩ k⟩
theorem zR8 {j:Nat} (hK:X.K = A.K) (ha:PD A X a ta):PD A X (.Subscript a (.Slice none none (some (.Constant (.int 2) j p3)) p2) pos) (zd0 false ta):=by
 with_unfolding_all
  exact (Kg (o:=false) ha (fun pins s σ H Q I q=>by rw [evalPart_none]; exact wpAny_pure ⟨none,H,I,.none,q⟩) Vf).imp fun sg H Q h=>Jh hK h
theorem zR7 {i j:Nat} (hK:X.K = A.K) (ha:PD A X a ta):PD A X (.Subscript a (.Slice (some (.Constant (.int 1) i p4)) none (some (.Constant (.int 2) j p3)) p2) pos) (zd0 true ta):=by
 with_unfolding_all
  exact (Kg (o:=true) ha (fun pins s σ H Q I q=>Ke Vf pins s σ H Q I ⟨1,rfl,q⟩) Vf).imp fun sg H Q h=>Jh hK h
def zS7:List D -> (D -> Prop) -> Prop:=fun es k=>∃ i j l,es = [.int i,.int j,.int l] /\ k (.int (max (max i j) l))
@[simp] theorem zO7 {i j l k}:zS7 [.int i,.int j,.int l] k ↔ k (.int (max (max i j) l)):=⟨fun ⟨_,_,_,e,h⟩=>by cases e; exact h,fun h=>⟨_,_,_,rfl,h⟩⟩
def zg1 (caps:List Nat) (tb:TD) (rho:Rho) (n1:Nat) (R:D -> Nat -> Prop) (es:List D):Prop:=∃ (rows:List D) (keys:List SRow) (fl:Bool) (cs:List D),es = [.lst rows] /\ rows.length < 64 /\ keys.length = rows.length /\ (∀ x ∈ keys,x.key.num = fl) /\ (keys.map SRow.name).Nodup /\
 cs.length = caps.length /\ (∀ (i j:Nat),caps[i]? = some j -> ∃ d,cs[i]? = some d /\ rho[j]? = some (some d) /\ zu d = true) /\ (∀ (i:Nat) (d:D) (x:SRow),rows[i]? = some d -> keys[i]? = some x -> tb (some d :: cs.map some) n1 fun e n2=>e = x.d /\ n2 = n1) /\
 ∀ ls:List Nat,ls.Perm (List.range rows.length) -> (ls.map fun i=>keys.getD i WU).Pairwise (fun x y=>x.lt y = true) -> R (.lst (ls.map fun i=>rows.getD i .non)) n1
@[simp] theorem zG9 {caps tb t1 rho n R}:zg8 caps tb t1 rho n R = t1 rho n fun es n1=>zg1 caps tb rho n1 R es:=rfl
theorem We {α:Type} {caps:List Nat} {tb:TD} {rho:Rho} {n:Nat} {R:D -> Nat -> Prop} (enc:α -> D) (key:α -> SRow) (fl:Bool) (cs:List D) (ts:List α) (a0:α) (h64:ts.length < 64) (hn:∀ t ∈ ts,(key t).key.num = fl) (hnd:(ts.map fun t=>(key t).name).Nodup) (hcs:cs.length = caps.length)
  (hcap:∀ (i j:Nat),caps[i]? = some j -> ∃ d,cs[i]? = some d /\ rho[j]? = some (some d) /\ zu d = true) (htb:∀ t ∈ ts,tb (some (enc t) :: cs.map some) n fun e n2=>e = (key t).d /\ n2 = n)
  (fin:∀ us:List α,us.Perm ts -> us.Pairwise (fun a b=>(key a).lt (key b) = true) -> R (.lst (us.map enc)) n):zg1 caps tb rho n R [.lst (ts.map enc)]:=by
 refine ⟨ts.map enc,ts.map key,fl,cs,rfl,by rw [List.length_map]; exact h64,by rw [List.length_map,List.length_map],fun x hx=>?_,by rw [List.map_map]; exact hnd,hcs,hcap,fun i d x e1 e2=>?_,fun ls hp hs=>?_⟩
 ·obtain ⟨t, ht, rfl⟩ := List.mem_map.mp hx
  exact hn t ht
 ·rw [List.getElem?_map] at e1 e2
  cases et:ts[i]? with
  | none=>rw [et] at e1; cases e1
  | some t =>
   rw [et] at e1 e2
   cases e1
   cases e2
   exact htb t (List.mem_of_getElem? et)
 ·rw [List.length_map] at hp
  have hls:∀ i ∈ ls,i < ts.length:=fun i hi=>List.mem_range.mp (hp.mem_iff.mp hi)
  have g:∀ {β:Type} (f:α -> β) (b0:β) (i:Nat),i < ts.length -> (ts.map f).getD i b0 = f (ts.getD i a0):=fun f b0 i hi=>by
   rw [List.getD_eq_getElem?_getD,List.getD_eq_getElem?_getD,List.getElem?_map,List.getElem?_eq_getElem hi]; rfl
  have e1:(ls.map fun i=>(ts.map enc).getD i .non) = (ls.map fun i=>ts.getD i a0).map enc:=by
   rw [List.map_map]
   exact List.map_congr_left fun i hi=>g enc .non i (hls i hi)
  have e2:(ls.map fun i=>(ts.map key).getD i WU) = (ls.map fun i=>ts.getD i a0).map key:=by
   rw [List.map_map]
   exact List.map_congr_left fun i hi=>g key WU i (hls i hi)
  rw [e2,List.pairwise_map] at hs
  rw [e1]
  refine fin _ ?_ hs
  have p2:=hp.map fun i=>ts.getD i a0
  rwa [KN] at p2
end
def zf9 (N:List Str) (p:Str) (sc:Scope):Bool :=
 ((sc.kind == .function && (!sc.isCoroutine && !sc.isGenerator)) && sc.names.all (fun z=>z.2 != .cell && (z.2 != .free || (N.drop 1).contains z.1))) && ((N[0]? == some p && sc.names.lookup p == some .local) && (N.drop 1).all (fun x=>sc.names.lookup x == some .free))
theorem zb8 {N:List Str} {p:Str} {sc:Scope} {clos:List (Str × Addr)} (h:zf9 N p sc = true) (hc:∀ x ∈ N.drop 1,∃ c,clos.lookup x = some c):LamScope N p sc clos:=by
 unfold zf9 at h
 simp only [Bool.and_eq_true,Bool.or_eq_true,List.all_eq_true,beq_iff_eq,bne_iff_ne,Bool.not_eq_true',List.contains_iff_mem] at h
 obtain ⟨⟨⟨h1,h2,h3⟩,h4⟩,⟨h5,h6⟩,h7⟩:=h
 refine ⟨h1,h2,h3,fun x hx=>(h4 x hx).1,h5,h6,fun x hx=>?_,fun i x e=>?_⟩
 ·rcases (h4 _ (PySem.mem_of_lookup hx)).2 with z | z
  ·exact absurd rfl z
  ·exact hc x z
 ·refine h7 x ?_
  exact List.mem_of_getElem? (l:=N.drop 1) (i:=i) (by rw [List.getElem?_drop]; rw [Nat.add_comm]; exact e)
theorem Caps.one {X:Cx} {p y:Str} {a:Addr} {j:Nat} (hk:X.env.kindOf y = some .cell) (hj:X.N[j]? = some y) (hc:X.env.cells.lookup y = some a):Caps X [p,y] [(y,a)] [j]:=by
 refine ⟨rfl,fun i x e=>?_,fun x c e=>?_,fun i x e=>?_⟩
 ·cases i with
  | zero=>cases e; exact ⟨hk,j,rfl,hj⟩
  | succ i=>simp at e
 ·rw [List.lookup_cons] at e
  split at e
  ·rename_i h
   cases e
   rw [eq_of_beq h]; exact hc
  ·cases e
 ·cases i with
  | zero=>cases e; exact ⟨a,by rw [List.lookup_cons,beq_self_eq_true]⟩
  | succ i=>simp at e
theorem zd7 {p y:Str} {a:Addr}:∀ x ∈ [p,y].drop 1,∃ c,[(y,a)].lookup x = some c:=fun x hx=>by
 have e:x = y:=by simpa using hx
 subst e
 exact ⟨a,by rw [List.lookup_cons,beq_self_eq_true]⟩
end L2
namespace L2
open PySem PySem.Spec PyProof.Rows
theorem zr3 {K:PySem.W.Frag} {x:Str} {f c P:Addr} {o1 p1:Value} {o2 p2:Option Addr} {o4 p4:Array (Option Value)} {fd:FuncData} {vv:Array Value} (a:PySem.W.nsIn K mainGlobals x = some (some (.ref f))) (l:K.lookup f = some ⟨o1,o2,.func fd,o4⟩) (le:fd.code = .ref c) (lc:K.lookup c = some ⟨p1,p2,.fields vv,p4⟩) (lp:vv[11]? = some (.ref P)) :
  PySem.W.tabIn K x = some (c,P):=by
 unfold PySem.W.tabIn
 rw [a]
 simp only [l,le,lc,lp]
theorem zh9 (K:PySem.W.Frag) (P:Addr) (q q':Str) (h:yn K P q) (h':yn K P q'):q = q':=by
 obtain ⟨x,hx,c,_,rfl⟩:=h
 obtain ⟨y,hy,c',_,rfl⟩:=h'
 have e1:x = "_law_grown" := by simpa [yz] using hx
 have e2:y = "_law_grown" := by simpa [yz] using hy
 rw [e1,e2]
end L2
set_option maxRecDepth 100000
namespace L2
open PySem PySem.Spec PyProof.Rows
abbrev jQ (elt tg1 it1:Expr) (ifs1:List Expr) (tg2 it2:Expr) (ifs2:List Expr) (scope:Scope) (pos:Pos):Expr:=.ListComp elt [⟨tg1,it1,ifs1,0⟩,⟨tg2,it2,ifs2,0⟩] scope pos
theorem UC (elt tg1 it1:Expr) (ifs1:List Expr) (tg2 it2:Expr) (ifs2:List Expr) (scope:Scope) (pos:Pos) (it acc:Value) (env:Env) :
  compTurn (jQ elt tg1 it1 ifs1 tg2 it2 ifs2 scope pos) 0 it acc env = (do
   standAt it1.pos
   match <- pyNext it with
   | none=>pure (.done .next)
   | some v =>
    letOwnedTupleGo tg1 it v
    assign tg1 env v
    let ok <- Zh ifs1 env
    if ok then
     let x <- eval it2 env
     standAt it2.pos
     let x <- foldedSetIterable it2 env x
     let _ <- runOwn (.compStart (jQ elt tg1 it1 ifs1 tg2 it2 ifs2 scope pos) 1 (<- holding [x] (pyIter x)) acc env) env
    again (.compLoop (jQ elt tg1 it1 ifs1 tg2 it2 ifs2 scope pos) 0 it acc env)):=by rfl
theorem UB (elt tg1 it1:Expr) (ifs1:List Expr) (tg2 it2:Expr) (ifs2:List Expr) (scope:Scope) (pos:Pos) (it acc:Value) (env:Env) :
  compTurn (jQ elt tg1 it1 ifs1 tg2 it2 ifs2 scope pos) 1 it acc env = (do
   standAt it2.pos
   match <- pyNext it with
   | none=>pure (.done .next)
   | some v =>
    letOwnedTupleGo tg2 it v
    assign tg2 env v
    let ok <- Zh ifs2 env
    if ok then
     (do let _ <- call (.builtin "list.append") [acc,<- eval elt env])
    again (.compLoop (jQ elt tg1 it1 ifs1 tg2 it2 ifs2 scope pos) 1 it acc env)):=by rfl
section
variable {prog:Program} {w:World} {A:Around} {R:Result -> Shared -> Prop} {s:Shared} {elt tg1 it1 tg2 it2:Expr} {ifs1 ifs2:List Expr} {scope:Scope} {pos:Pos} {it acc:Value} {env:Env}
theorem upF {α:Type} {t:Sem α} {Q Q':α -> Shared -> Prop} {E:Value -> Shared -> Prop} {s:Shared} (h:wpAny (model prog w) A t Q (fun _ _=>False) s) (f:∀ a s,Q a s -> Q' a s):wpAny (model prog w) A t Q' E s:=wpAny_mono h f fun _ _ z=>False.elim z
theorem Ui (J:Nat -> Shared -> Prop) (hs:∀ x,foldedSetIterable it2 env x = pure x)
  (turn : ∀ n s, J n s -> wpAny (model prog w) A (pyNext it) (fun r s1 => match r with
   | none=>R (.ok .next) s1
   | some v => wpAny (model prog w) A (letOwnedTupleGo tg1 it v) (fun _ s2 => wpAny (model prog w) A (assign tg1 env v) (fun _ s3 => wpAny (model prog w) A (Zh ifs1 env) (fun ok s4 =>
     if ok = true then wpAny (model prog w) A (eval it2 env) (fun x s5=>wpAny (model prog w) A (pyIter x) (fun itv s6=>codeAny (model prog w) A (.compStart (jQ elt tg1 it1 ifs1 tg2 it2 ifs2 scope pos) 1 itv acc env) (fun r s7=>(∃ f,r = .ok f) /\ ∃ m,m < n /\ J m s7) s6) (fun _ _=>False) s5) (fun _ _=>False) s4
     else ∃ m,m < n /\ J m s4) (fun _ _=>False) s3) (fun _ _=>False) s2) (fun _ _=>False) s1) (fun _ _=>False) s)
  (n:Nat) (h:J n s):codeAny (model prog w) A (.compLoop (jQ elt tg1 it1 ifs1 tg2 it2 ifs2 scope pos) 0 it acc env) R s:=by
 refine codeAny_loop rfl J (fun n s hJ=>?_) n h
 show wpAny _ A ((compTurn (jQ elt tg1 it1 ifs1 tg2 it2 ifs2 scope pos) 0 it acc env).onRaise (fun x=>do noteFrame x env; theTreesLotGoes x)) _ _ s
 refine wpAny_noted ?_
 rw [UC]
 refine wpAny_bind (wpAny_standAt (wpAny_bind (upF (turn n s hJ) fun r s1 h1=>?_)))
 cases r with
 | none=>exact wpAny_pure h1
 | some v =>
  refine wpAny_bind (upF h1 fun _ s2 h2=>?_)
  refine wpAny_bind (upF h2 fun _ s3 h3=>?_)
  refine wpAny_bind (upF h3 fun ok s4 h4=>?_)
  cases ok with
  | false=>exact wpAny_pure ⟨rfl,h4⟩
  | true =>
   refine wpAny_bind (upF h4 fun x s5 h5=>?_)
   refine wpAny_bind (wpAny_standAt (wpAny_bind (wpAny_of_eq (hs x) ?_)))
   refine wpAny_bind (wpAny_holding (upF h5 fun itv s6 h6=>?_))
   refine wpAny_bind (wpAny_runOwn (codeAny_mono (show codeAny (model prog w) (A.mark none) _ _ _ from h6) fun r s7 h7=>?_))
   obtain ⟨⟨f,rfl⟩,h7⟩:=h7
   exact wpAny_pure ⟨rfl,h7⟩
theorem Uh (J:Nat -> Shared -> Prop)
  (turn : ∀ n s, J n s -> wpAny (model prog w) A (pyNext it) (fun r s1 => match r with
   | none=>R (.ok .next) s1
   | some v => wpAny (model prog w) A (letOwnedTupleGo tg2 it v) (fun _ s2 => wpAny (model prog w) A (assign tg2 env v) (fun _ s3 => wpAny (model prog w) A (Zh ifs2 env) (fun ok s4 =>
     if ok = true then wpAny (model prog w) A (eval elt env) (fun x s5=>wpAny (model prog w) A (call (.builtin "list.append") [acc,x]) (fun _ s6=>∃ m,m < n /\ J m s6) (fun _ _=>False) s5) (fun _ _=>False) s4
     else ∃ m,m < n /\ J m s4) (fun _ _=>False) s3) (fun _ _=>False) s2) (fun _ _=>False) s1) (fun _ _=>False) s)
  (n:Nat) (h:J n s):codeAny (model prog w) A (.compLoop (jQ elt tg1 it1 ifs1 tg2 it2 ifs2 scope pos) 1 it acc env) R s:=by
 refine codeAny_loop rfl J (fun n s hJ=>?_) n h
 show wpAny _ A ((compTurn (jQ elt tg1 it1 ifs1 tg2 it2 ifs2 scope pos) 1 it acc env).onRaise (fun x=>do noteFrame x env; theTreesLotGoes x)) _ _ s
 refine wpAny_noted ?_
 rw [UB]
 refine wpAny_bind (wpAny_standAt (wpAny_bind (upF (turn n s hJ) fun r s1 h1=>?_)))
 cases r with
 | none=>exact wpAny_pure h1
 | some v =>
  refine wpAny_bind (upF h1 fun _ s2 h2=>?_)
  refine wpAny_bind (upF h2 fun _ s3 h3=>?_)
  refine wpAny_bind (upF h3 fun ok s4 h4=>?_)
  cases ok with
  | false=>exact wpAny_pure ⟨rfl,h4⟩
  | true=>exact wpAny_bind (wpAny_bind (upF h4 fun x s5 h5=>wpAny_bind (upF h5 fun _ s6 h6=>wpAny_pure (wpAny_pure ⟨rfl,h6⟩))))
theorem Yt {d:Nat} (hd:d = 0 \/ d = 1)
  (h0:codeAny (model prog w) A (.compLoop (jQ elt tg1 it1 ifs1 tg2 it2 ifs2 scope pos) d it acc env) R s)
  (h:wpAny (model prog w) A (pyIter it) (fun it' s'=>codeAny (model prog w) A (.compLoop (jQ elt tg1 it1 ifs1 tg2 it2 ifs2 scope pos) d it' acc env) R s') (fun _ _=>False) s) :
  codeAny (model prog w) A (.compStart (jQ elt tg1 it1 ifs1 tg2 it2 ifs2 scope pos) d it acc env) R s:=by
 refine codeAny_of_tree ?_
 show wpAny _ _ ((compStart (jQ elt tg1 it1 ifs1 tg2 it2 ifs2 scope pos) d it acc env).onRaise (fun x=>do noteFrame x env; standAt theWindowsPlace)) _ _ s
 refine wpAny_notedAt ?_
 unfold compStart
 rcases hd with rfl | rfl
 ·show wpAny _ _ (ask >>= _) _ _ s
  refine wpAny_bind (wpAny_askSetting (wpAny_ite ?_))
  split
  ·first
    | exact wpAny_bind (wpAny_pure (wpAny_pure ⟨rfl,h0⟩))
    | exact wpAny_pure ⟨rfl,h0⟩
  ·refine wpAny_bind (wpAny_rule ?_)
   show wpAny _ _ (standAt it1.pos >>= _) _ _ s
   exact wpAny_bind (wpAny_standAt (wpAny_bind (upF h fun it' s' h'=>wpAny_pure ⟨rfl,h'⟩)))
 ·show wpAny _ _ (ask >>= _) _ _ s
  refine wpAny_bind (wpAny_askSetting (wpAny_ite ?_))
  split
  ·first
    | exact wpAny_bind (wpAny_pure (wpAny_pure ⟨rfl,h0⟩))
    | exact wpAny_pure ⟨rfl,h0⟩
  ·refine wpAny_bind (wpAny_rule ?_)
   show wpAny _ _ (standAt it2.pos >>= _) _ _ s
   exact wpAny_bind (wpAny_standAt (wpAny_bind (upF h fun it' s' h'=>wpAny_pure ⟨rfl,h'⟩)))
end
def XR (σ σ':St):Prop:=∀ (j:Nat) (v:V),σ[j]? = some (some v) -> σ'[j]? = some (some v)
section
variable {X':Cx} {P5:List (Addr × Obj)} {σ6:St} {H8:Hp} {s8:Shared} {elt tg1 it1 tg2 it2:Expr} {ifs1 ifs2:List Expr} {scope:Scope} {pos:Pos} {g2:TG} {tt2:TT} {te:TE}
def WO (J2:It) (g2:TG) (tt2:TT) (te:TE) (Qs:List V -> St -> Hp -> Prop) (W2:Nat -> Nat -> List V -> St -> Hp -> Prop):Prop:=∀ i n acc σ H,W2 i n acc σ H ->
 (J2.stop i H /\ Qs acc σ H) \/ (J2.go i H /\ acc.length < sizeLine /\ ∀ y H6, J2.yld i H y H6 -> g2 y σ H6 fun σ3 H7 => tt2 σ3 H7 fun c H8 =>
  if c = true then te σ3 H8 fun v H9=>∃ n',n' < n /\ W2 (i + 1) n' (acc ++ [v]) σ3 H9 else ∃ n',n' < n /\ W2 (i + 1) n' acc σ3 H8)
theorem Uc (xc:X'.calm = true) (xe:X'.xe = fun _ _=>False) (gg:PG X' tg2 g2) (gt:PTs X' ifs2 tt2) (ge:PE X' elt te) {D:Addr} {its:List Value} {k:Nat} {acc:List V} (I:Inv X' P5 σ6 H8 s8) (hD:H8 D = none) (hDo:s8.heap.get? D = some { cls:=.type "list",data:=.seq its.toArray k }) (rv:Vals acc its)
  (dL:D ≠ X'.env.locals) (dF:D ∉ X'.fs) (dS:D ∈ X'.ex \/ X'.s₀.heap.objs.size <= D) (dC:∀ x c,X'.env.cells.lookup x = some c -> c ≠ D) (dP:∀ p ∈ X'.pn ++ P5,p.1 ≠ D)
  {it:Addr} {fp:List Addr} {tn:Nat -> Heap -> Prop} {J2:It} (T:Turn X'.prog X'.w X'.K tg2 J2 fp it tn) (st:tn 0 s8.heap) (f:∀ b ∈ fp,FpOk X' P5 H8 b) (Dfp:D ∉ fp) {W2:Nat -> Nat -> List V -> St -> Hp -> Prop} (w0:∃ n,W2 0 n acc σ6 H8) {Qs:List V -> St -> Hp -> Prop} (turns:WO J2 g2 tt2 te Qs W2) :
  codeAny (model X'.prog X'.w) X'.A (.compLoop (jQ elt tg1 it1 ifs1 tg2 it2 ifs2 scope pos) 1 (.ref it) (.ref D) X'.env)
   (fun r s'=>(∃ f,r = .ok f) /\ ∃ σ' acc2 its' k' H',Inv X' P5 σ' H' s' /\ H' D = none /\ s'.heap.get? D = some { cls:=.type "list",data:=.seq (List.toArray its') k' } /\ Vals acc2 its' /\ Qs acc2 σ' H') s8:=by
 obtain ⟨n0,w0⟩:=w0
 refine Uh (fun n s'=>∃ i acc σ' H' its k,Inv X' P5 σ' H' s' /\ tn i s'.heap /\ (∀ b ∈ fp,H' b = none) /\ H' D = none /\
   s'.heap.get? D = some { cls:=.type "list",data:=.seq (List.toArray its) k } /\ Vals acc its /\ W2 i n acc σ' H') ?_ n0 ⟨0,acc,σ6,H8,its,k,I,st,fun b hb=>(f b hb).1,hD,hDo,rv,w0⟩
 rintro n s3 ⟨i,acc,σ3,H3,its,k,I3,st3,fr3,hD,hDo,rv,w3⟩
 have nc:∀ (xs:Array Value) (m:Nat) (v:Option Value),({ cls:=.type "list",data:=.seq xs m }:Obj).data ≠ .cell v:=fun _ _ _ z=>by cases z
 have fD:FpOk X' P5 H3 D:=⟨hD,dL,dF,dS,dC,dP⟩
 have I3':=I3.pin1 fD hDo (nc _ _)
 have ff:∀ {H:Hp},(∀ b ∈ fp,H b = none) -> ∀ b ∈ fp,FpOk X' ((D,{ cls:=.type "list",data:=.seq (List.toArray its) k }) :: P5) H b:=fun {H} hn b hb=>((f b hb).reH (hn b hb)).more fun (z:D = b)=>Dfp (by rw [z]; exact hb)
 rcases turns i n acc σ3 H3 w3 with ⟨stop,q⟩ | ⟨go,hsz,step⟩
 ·refine thn (T.done X' rfl rfl rfl xc i _ s3 σ3 H3 (fun _ _ => False) I3' (ff fr3) st3 stop) fun r s4 ⟨hr, I5⟩ => ?_
  subst hr
  exact ⟨⟨_,rfl⟩,σ3,acc,its,k,H3,I5.unpin,hD,(I5.pinAt (.head _)).1,rv,q⟩
 ·refine thn (T.item X' rfl rfl rfl xc i _ s3 σ3 H3 (fun _ _ => False) I3' (ff fr3) st3 go) fun r s4 ⟨u, hr, h4⟩ => ?_
  subst hr
  refine thn h4 fun _ s5 ⟨y,H5,I5,r5,y5,st5,fr5⟩=>?_
  have I5p:=I5.pinned (ff fr5) (T.obj _ _ st5)
  have a1:=gg _ s5 _ H5 y u _ I5p r5 (step y H5 y5)
  rw [xe] at a1
  refine thn a1 fun _ s6 ⟨σ7,H6,I6,q6⟩=>?_
  have a2:=gt _ s6 σ7 H6 _ I6 q6
  rw [xe] at a2
  refine thn a2 fun b s7 ⟨H7,I7,q7⟩=>?_
  have back:∀ {H:Hp} {s:Shared},Inv X' (((D,{ cls:=.type "list",data:=.seq (List.toArray its) k }) :: P5) ++ ve fp s5.heap) σ7 H s ->
    (tn (i + 1) s.heap /\ (∀ b ∈ fp,H b = none) /\ H D = none /\ s.heap.get? D = some { cls:=.type "list",data:=.seq (List.toArray its) k } /\ Inv X' P5 σ7 H s):=fun {H s} I=>by
   refine ⟨T.keep _ _ _ st5 fun b hb o e=>(I.pinAt (List.mem_append_right _ (wf hb e))).1,fun b hb=>?_,(I.pinAt (q:=(D,_)) (List.mem_append_left _ (.head _))).2,(I.pinAt (q:=(D,_)) (List.mem_append_left _ (.head _))).1,I.pins_of fun p hp=>?_⟩
   ·obtain ⟨o, e, d⟩ := T.obj _ _ st5 b hb
    exact (I.pinAt (q:=(b,o)) (List.mem_append_right _ (wf hb e))).2
   ·exact I.pin p (List.mem_append_right _ (List.mem_append_left _ (.tail _ hp)))
  cases b with
  | false =>
   obtain ⟨p1,p2,p3,p4,p5⟩:=back I7
   obtain ⟨m',hm,w7⟩:=q7
   exact ⟨m',hm,i + 1,acc,σ7,H7,its,k,p5,p1,p2,p3,p4,rv,w7⟩
  | true =>
   rw [if_pos rfl] at q7 ⊢
   have a3:=ge _ s7 σ7 H7 _ I7 q7
   rw [xe] at a3
   refine thn a3 fun z s8 ⟨v,H8,I8,r8,q8⟩=>?_
   obtain ⟨p1,p2,p3,p4,p5⟩:=back I8
   obtain ⟨m',hm,w8⟩:=q8
   have hl:=rv.length
   refine wpAny_list_append_plain (items:=List.toArray its) ⟨k,p4⟩ (fun h' hpl hs=>?_) (by simp; lia)
   obtain ⟨k',hpl⟩:=hpl
   have I9:Inv X' P5 σ7 H8 { s8 with heap:=h' }:=p5.turned (t':=s8.toks) (fun b o hb e=>hs.extBut b o hb e) p3 dL dS dC dP
   refine ⟨m',hm,i + 1,acc ++ [v],σ7,H8,its ++ [z],k',I9,T.keep _ _ _ p1 fun b hb o e=>hs.extBut b o (fun z=>Dfp (by rw [<- z]; exact hb)) e,p2,p3,?_,rv.append (.cons r8 .nil),w8⟩
   rw [hpl]; simp
end
end L2
set_option maxRecDepth 100000
namespace L2
open PySem PySem.Spec PyProof.Rows
def ze6 (wi:TI) (own:Nat) (g1:TG) (tt1:TT) (wi2:TI) (g2:TG) (tt2:TT) (te:TE):TE:=fun σ H Q=>wi σ H fun J H1=>∃ W:Nat -> Nat -> List V -> Hp -> Prop,(∃ m,W 0 m [] H1) /\ ∀ i m acc H,W i m acc H ->
 (J.stop i H /\ acc.length <= sizeLine /\ ∀ D,H D = none -> Q (.ref D) (upd H D (.lst acc))) \/
 (J.go i H /\ ∀ x H', J.yld i H x H' -> g1 x (List.replicate own none ++ σ) H' fun σ2 H2 => XR (List.replicate own none ++ σ) σ2 /\ tt1 σ2 H2 fun c H3 =>
  if c = true then wi2 σ2 H3 fun J2 H4=>∃ W2:Nat -> Nat -> List V -> St -> Hp -> Prop,(∃ n,W2 0 n acc σ2 H4) /\ WO J2 g2 tt2 te (fun acc2 σ5 H5=>XR (List.replicate own none ++ σ) σ5 /\ ∃ m',m' < m /\ W (i + 1) m' acc2 H5) W2
  else ∃ m',m' < m /\ W (i + 1) m' acc H3)
section
variable {X:Cx} {scope:Scope} {own M:List Str} {pins:List (Addr × Obj)} {σ:St} {H2:Hp} {s2:Shared} {elt tg1 it1 tg2 it2:Expr} {ifs1 ifs2:List Expr} {pos:Pos} {g1 g2:TG} {tt1 tt2:TT} {te:TE} {wi2:TI}
theorem Uj (ok:CompOk X scope M) (hc:X.calm = true) (hg:∀ C s2 H2 fp,PG (zR X scope own M C s2 H2 fp) tg1 g1) (ht:∀ C s2 H2 fp,PTs (zR X scope own M C s2 H2 fp) ifs1 tt1) (hi2:∀ C s2 H2 fp,PI (zR X scope own M C s2 H2 fp) tg2 it2 wi2)
  (hg2:∀ C s2 H2 fp,PG (zR X scope own M C s2 H2 fp) tg2 g2) (ht2:∀ C s2 H2 fp,PTs (zR X scope own M C s2 H2 fp) ifs2 tt2) (he:∀ C s2 H2 fp,PE (zR X scope own M C s2 H2 fp) elt te) (hs2:∀ C s2 H2 fp x,foldedSetIterable it2 (zR X scope own M C s2 H2 fp).env x = pure x)
  (I2:Inv X pins σ H2 s2) {it:Addr} {fp:List Addr} {tn:Nat -> Heap -> Prop} {J:It} (T:Turn X.prog X.w X.K tg1 J fp it tn) (st2:tn 0 s2.heap) (f2:∀ b ∈ fp,FpOk X pins H2 b)
  {W:Nat -> Nat -> List V -> Hp -> Prop} (w0:∃ m,W 0 m [] H2) {Qf:V -> Hp -> Prop}
  (turn : ∀ i m acc H, W i m acc H -> (J.stop i H /\ acc.length <= sizeLine /\ ∀ D, H D = none -> Qf (.ref D) (upd H D (.lst acc))) \/
   (J.go i H /\ ∀ x H', J.yld i H x H' -> g1 x (List.replicate own.length none ++ σ) H' fun σ2 H2 => XR (List.replicate own.length none ++ σ) σ2 /\ tt1 σ2 H2 fun c H3 =>
    if c = true then wi2 σ2 H3 fun J2 H4=>∃ W2:Nat -> Nat -> List V -> St -> Hp -> Prop,(∃ n,W2 0 n acc σ2 H4) /\ WO J2 g2 tt2 te (fun acc2 σ5 H5=>XR (List.replicate own.length none ++ σ) σ5 /\ ∃ m',m' < m /\ W (i + 1) m' acc2 H5) W2
    else ∃ m',m' < m /\ W (i + 1) m' acc H3))
  {RR:Value -> Addr -> Result -> Shared -> Prop} {E:Value -> Shared -> Prop}
  (fin:∀ D C H' s' m,Inv X pins σ H' s' -> Qf (.ref D) H' -> s'.heap.Ns C m -> H' C = none -> C ≠ X.env.locals -> X.s₀.heap.objs.size <= C -> (∀ x c,X.env.cells.lookup x = some c -> c ≠ C) -> (∀ p ∈ X.pn ++ pins,p.1 ≠ C) -> RR (.ref D) C (.ok .next) s') :
  wpAny (model X.prog X.w) X.A (newList []) (fun acc s3=>wpAny (model X.prog X.w) X.A (newFunctionEnv scope X.env.globals (yZ X.env scope.names []) [] X.env.qual none .none (some X.env)) (fun cenv s4 =>
   codeAny (model X.prog X.w) X.A (.compStart (jQ elt tg1 it1 ifs1 tg2 it2 ifs2 scope pos) 0 (.ref it) acc { cenv with scope:=relabel scope X.env }) (RR acc cenv.locals) s4) E s3) E s2:=by
 refine wpAny_newObj_type (jc ?_)
 have zC:(s2.heap.push { cls:=.type "list",dict:=none,data:=.seq ([]:List Value).toArray }).objs.size = s2.heap.objs.size + 1:=Heap.size_push ..
 dsimp only
 rw [zC]
 generalize hC:s2.heap.objs.size + 1 = C
 generalize hh:pushCells ((s2.heap.push { cls:=.type "list",dict:=none,data:=.seq ([]:List Value).toArray }).push { cls:=.type "dict",data:=.dict #[] }) scope.names = h4
 have fpl:∀ b ∈ fp,FpOk X pins H2 b /\ b < s2.heap.objs.size:=fun b hb=>by
  obtain ⟨o,e,_⟩:=T.obj 0 _ st2 b hb
  exact ⟨f2 b hb,Heap.lt_size e⟩
 have I4:Inv (zR X scope own M C s2 H2 fp) [] (List.replicate own.length none ++ σ) H2 { s2 with heap:=h4 }:=Vq ok hc I2 fpl hC.symm hh.symm
 generalize hX:zR X scope own M C s2 H2 fp = X' at I4
 have keep4:∀ b o,s2.heap.get? b = some o -> h4.get? b = some o:=fun b o e=>by
  rw [<- hh]; exact pushCells_keeps _ _ _ _ (Heap.get?_push_of_some _ (Heap.get?_push_of_some _ e))
 have hD4:h4.get? s2.heap.objs.size = some { cls:=.type "list",dict:=none,data:=.seq ([]:List Value).toArray }:=by
  rw [<- hh]; exact pushCells_keeps _ _ _ _ (Heap.get?_push_of_some _ (Heap.get?_push_size _ rfl))
 have st4:tn 0 h4:=T.keep _ _ _ st2 fun b hb o e=>keep4 b o e
 have gg:PG X' tg1 g1:=by rw [<- hX]; exact hg C s2 H2 fp
 have gt:PTs X' ifs1 tt1:=by rw [<- hX]; exact ht C s2 H2 fp
 have gi:PI X' tg2 it2 wi2:=by rw [<- hX]; exact hi2 C s2 H2 fp
 have gg2:PG X' tg2 g2:=by rw [<- hX]; exact hg2 C s2 H2 fp
 have gt2:PTs X' ifs2 tt2:=by rw [<- hX]; exact ht2 C s2 H2 fp
 have ge:PE X' elt te:=by rw [<- hX]; exact he C s2 H2 fp
 have gs:∀ x,foldedSetIterable it2 X'.env x = pure x:=by rw [<- hX]; exact hs2 C s2 H2 fp
 have xP:X'.prog = X.prog:=by rw [<- hX]; rfl
 have xw:X'.w = X.w:=by rw [<- hX]; rfl
 have xK:X'.K = X.K:=by rw [<- hX]; rfl
 have xA:X'.A = X.A:=by rw [<- hX]; rfl
 have xc:X'.calm = true:=by rw [<- hX]; exact hc
 have xpn:X'.pn = []:=by rw [<- hX]; rfl
 have xs:X'.s₀ = s2:=by rw [<- hX]; rfl
 have xH:X'.H₀ = H2:=by rw [<- hX]; rfl
 have xL:X'.env.locals = C:=by rw [<- hX]; rfl
 have xfs:X'.fs = frs X.stack:=by rw [<- hX]; rfl
 have xex:X'.ex = fp:=by rw [<- hX]; rfl
 have xe:X'.xe = fun _ _=>False:=by rw [<- hX]; rfl
 have xenv:({ newEnv scope C X.env.globals (cellsFrom (C + 1) scope.names (yZ X.env scope.names [])) X.env.qual none .none (some X.env) builtinsNs with scope:=relabel scope X.env }:Env) = X'.env:=by rw [<- hX]; rfl
 have Dlt:s2.heap.objs.size < C:=by rw [<- hC]; exact Nat.lt_succ_self _
 have fpb:∀ {pl:List (Addr × Obj)} {H:Hp},(∀ b ∈ fp,H b = none) -> (∀ p ∈ pl,p.1 ∉ fp) -> ∀ b ∈ fp,FpOk X' pl H b:=fun {pl H} hn hpl b hb=>by
  refine ⟨hn b hb,(I4.ok.exf b (by rw [xex]; exact hb)).1,I4.ok.exfs b (by rw [xex]; exact hb),.inl (by rw [xex]; exact hb),fun x c e=>(I4.ok.exf b (by rw [xex]; exact hb)).2 x c e,fun p hp z=>?_⟩
  rw [xpn,List.nil_append] at hp
  exact hpl p hp (by rw [z]; exact hb)
 have Dfp:s2.heap.objs.size ∉ fp:=fun z=>Nat.lt_irrefl _ (fpl _ z).2
 have DC:s2.heap.objs.size ≠ C:=Nat.ne_of_lt Dlt
 have Dcell:∀ x c,X'.env.cells.lookup x = some c -> c ≠ s2.heap.objs.size:=fun x c e z=>by
  obtain ⟨v,o,q,hd⟩:=I4.cell x c e
  rw [z] at q
  have q':h4.get? s2.heap.objs.size = some o:=q
  rw [hD4] at q'
  cases q'
  cases hd
 have Dfs:s2.heap.objs.size ∉ X'.fs:=fun z=>by
  obtain ⟨_,o,ho,_⟩:=I4.ok.funs.mem (by exact z)
  rw [xs] at ho
  exact Nat.lt_irrefl _ (Heap.lt_size ho)
 have nc:∀ (xs:Array Value) (m:Nat) (v:Option Value),({ cls:=.type "list",data:=.seq xs m }:Obj).data ≠ .cell v:=fun _ _ _ z=>by cases z
 have dL:s2.heap.objs.size ≠ X'.env.locals:=by rw [xL]; exact DC
 have dS:s2.heap.objs.size ∈ X'.ex \/ X'.s₀.heap.objs.size <= s2.heap.objs.size:=.inr (by rw [xs]; exact Nat.le_refl _)
 rw [xenv]
 have goal : ∀ s5 : Shared, s5 = { s2 with heap := h4 } -> codeAny (model X.prog X.w) X.A (.compLoop (jQ elt tg1 it1 ifs1 tg2 it2 ifs2 scope pos) 0 (.ref it) (.ref s2.heap.objs.size) X'.env) (RR (.ref s2.heap.objs.size) C) s5 := by
  rintro s5 rfl
  obtain ⟨m0,w0⟩:=w0
  refine Ui (fun n s'=>∃ i acc σ' H' its k,Inv X' [] σ' H' s' /\ XR (List.replicate own.length none ++ σ) σ' /\ tn i s'.heap /\ (∀ b ∈ fp,H' b = none) /\ H' s2.heap.objs.size = none /\
   s'.heap.get? s2.heap.objs.size = some { cls:=.type "list",data:=.seq (List.toArray its) k } /\ Vals acc its /\ W i n acc H') gs ?_ m0
   ⟨0,[],_,H2,[],0,I4,(fun _ _ e=>e),st4,fun b hb=>(f2 b hb).1,I2.hok.fresh (Nat.le_refl _),hD4,.nil,w0⟩
  rintro n s3 ⟨i,acc,σ3,H3,its,k,I3,hσ,st3,fr3,hD,hDo,rv,w3⟩
  have fD:∀ {H:Hp},H s2.heap.objs.size = none -> FpOk X' [] H s2.heap.objs.size:=fun hn=>⟨hn,dL,Dfs,dS,Dcell,fun p hp=>by rw [xpn] at hp; simp at hp⟩
  have plD:∀ p ∈ [((s2.heap.objs.size,{ cls:=.type "list",data:=.seq (List.toArray its) k }):Addr × Obj)],p.1 ∉ fp:=fun p hp=>by
   have e:p = (s2.heap.objs.size,{ cls:=.type "list",data:=.seq (List.toArray its) k }):=by simpa using hp
   subst e
   exact Dfp
  have I3':=I3.pin1 (fD hD) hDo (nc _ _)
  rcases turn i n acc H3 w3 with ⟨stop,hsz,q⟩ | ⟨go,step⟩
  ·have := T.done X' xP xw xK xc i _ s3 σ3 H3 (fun _ _ => False) I3' (fpb fr3 plD) st3 stop
   rw [xA] at this
   refine thn this fun r s4 ⟨hr,I5⟩=>?_
   subst hr
   have hDo5:=(I5.pinAt (.head _)).1
   have un:Un (frs X.stack) fp H2 H3 s2.heap s4.heap:=by
    have:=I5.base
    rw [xfs,xex,xH,xs] at this
    exact this
   have os:s4.os = s2.os:=by rw [I5.os,xs]
   have hok:HOk X.prog X.w H3 s4.heap:=by have:=I5.hok; rw [xP,xw] at this; exact this
   have IX:Inv X pins σ H3 s4:=I2.call' os un hok I5.bare fun b hb=>by
    obtain ⟨_,f1,_,f3,f4,f5⟩:=f2 b hb
    exact ⟨f3,f1,f4,f5⟩
   have old:∀ {b:Addr},s2.heap.objs.size <= b -> (X.s₀.heap.objs.size <= b /\ b ≠ X.env.locals /\ (∀ x c,X.env.cells.lookup x = some c -> c ≠ b) /\ ∀ p ∈ X.pn ++ pins,p.1 ≠ b):=fun {b} hb=>by
    obtain ⟨_,f1,_,f3,f4,f5⟩:=I2.fpOk (H':=fun _=>none) hb rfl
    exact ⟨Nat.le_trans I2.sz hb,f1,f4,f5⟩
   obtain ⟨d1,d2,d3,d4⟩:=old (Nat.le_refl s2.heap.objs.size)
   obtain ⟨c1,c2,c3,c4⟩:=old (b:=C) (Nat.le_of_lt Dlt)
   have IY:Inv X pins σ (upd H3 s2.heap.objs.size (.lst acc)) s4:=IX.track hD d1 d2 d3 d4 ⟨hsz,its,k,rv,hDo5⟩
   obtain ⟨m,hm,_⟩:=I5.loc
   rw [xL] at hm
   have hCn:H3 C = none:=by have:=I5.free; rw [xL] at this; exact this
   exact fin _ C _ s4 m IY (q _ hD) hm (by rw [zG (Ne.symm DC)]; exact hCn) c2 c1 c3 c4
  ·have := T.item X' xP xw xK xc i _ s3 σ3 H3 (fun _ _ => False) I3' (fpb fr3 plD) st3 go
   rw [xA] at this
   refine thn this fun r s4 ⟨u,hr,h4⟩=>?_
   subst hr
   refine thn h4 fun _ s5 ⟨x,H5,I5,r5,y5,st5,fr5⟩=>?_
   have I5w:=I5.weak (σ':=List.replicate own.length none ++ σ) (I4.len.trans I5.len.symm) hσ
   have I5p:=I5w.pinned (fpb fr5 plD) (T.obj _ _ st5)
   have a1:=gg _ s5 _ H5 x u _ I5p r5 (step x H5 y5)
   rw [xP,xw,xA,xe] at a1
   refine thn a1 fun _ s6 ⟨σ6,H6,I6,d6,q6⟩=>?_
   have a2:=gt _ s6 σ6 H6 _ I6 q6
   rw [xP,xw,xA,xe] at a2
   refine thn a2 fun b s7 ⟨H7,I7,q7⟩=>?_
   have outer:∀ {H:Hp} {s:Shared} {σ7:St},Inv X' (ve fp s5.heap) σ7 H s -> (tn (i + 1) s.heap /\ (∀ b ∈ fp,H b = none) /\ Inv X' [] σ7 H s):=fun {H s σ7} I=>by
    refine ⟨T.keep _ _ _ st5 fun b hb o e=>(I.pinAt (wf hb e)).1,fun b hb=>?_,I.pins_of fun p hp=>by simp at hp⟩
    obtain ⟨o,e,d⟩:=T.obj _ _ st5 b hb
    exact (I.pinAt (q:=(b,o)) (wf hb e)).2
   have drop1:∀ {H:Hp} {s:Shared} {σ7:St},Inv X' ([((s2.heap.objs.size,{ cls:=.type "list",data:=.seq (List.toArray its) k }):Addr × Obj)] ++ ve fp s5.heap) σ7 H s -> Inv X' (ve fp s5.heap) σ7 H s /\ H s2.heap.objs.size = none /\ s.heap.get? s2.heap.objs.size = some { cls:=.type "list",data:=.seq (List.toArray its) k }:=fun {H s σ7} I =>
    ⟨I.pins_of fun p hp=>I.pin p (List.mem_append_right _ (List.mem_append_right _ hp)),(I.pinAt (q:=(s2.heap.objs.size,_)) (List.mem_append_left _ (.head _))).2,(I.pinAt (q:=(s2.heap.objs.size,_)) (List.mem_append_left _ (.head _))).1⟩
   cases b with
   | false =>
    obtain ⟨e1,e2,e3⟩:=drop1 I7
    obtain ⟨p1,p2,p5⟩:=outer e1
    obtain ⟨m',hm,w7⟩:=q7
    exact ⟨m',hm,i + 1,acc,σ6,H7,its,k,p5,d6,p1,p2,e2,e3,rv,w7⟩
   | true =>
    rw [if_pos rfl] at q7 ⊢
    have a3:=gi _ s7 σ6 H7 _ I7 q7
    rw [xP,xw,xA,xe] at a3
    refine thn a3 fun v s8 h8=>thn h8 fun itv s9 h9=>?_
    obtain ⟨it2a,fp2,tn2,J2,H9,e9,I9,T2,st9,f9,W2,w9,turns9⟩:=h9
    subst e9
    obtain ⟨e1,e2,e3⟩:=drop1 I9
    have D2:s2.heap.objs.size ∉ fp2:=fun z=>(f9 _ z).2.2.2.2.2 (s2.heap.objs.size,_) (List.mem_append_right _ (List.mem_append_left _ (.head _))) rfl
    have f9':∀ b ∈ fp2,FpOk X' (ve fp s5.heap) H9 b:=fun b hb=>by
     obtain ⟨z1,z2,z3,z4,z5,z6⟩:=f9 b hb
     refine ⟨z1,z2,z3,z4,z5,fun p hp=>z6 p ?_⟩
     rcases List.mem_append.mp hp with hp | hp
     ·exact List.mem_append_left _ hp
     ·exact List.mem_append_right _ (List.mem_append_right _ hp)
    have dP:∀ p ∈ X'.pn ++ ve fp s5.heap,p.1 ≠ s2.heap.objs.size:=fun p hp z=>by
     rw [xpn,List.nil_append] at hp
     exact Dfp (by rw [<- z]; exact (YY hp).1)
    have run:=Uc (tg1:=tg1) (it1:=it1) (it2:=it2) (ifs1:=ifs1) (scope:=scope) (pos:=pos) xc xe gg2 gt2 ge e1 e2 e3 rv dL Dfs dS Dcell dP T2 st9 f9' D2 w9 turns9
    rw [xP,xw,xA] at run
    have run2:codeAny (model X.prog X.w) X.A (.compLoop (jQ elt tg1 it1 ifs1 tg2 it2 ifs2 scope pos) 1 (.ref it2a) (.ref s2.heap.objs.size) X'.env) (fun r s7=>(∃ f,r = .ok f) /\ ∃ m,m < n /\ ∃ i acc σ' H' its k,Inv X' [] σ' H' s7 /\ XR (List.replicate own.length none ++ σ) σ' /\ tn i s7.heap /\ (∀ b ∈ fp,H' b = none) /\ H' s2.heap.objs.size = none /\
      s7.heap.get? s2.heap.objs.size = some { cls:=.type "list",data:=.seq (List.toArray its) k } /\ Vals acc its /\ W i m acc H') s9:=codeAny_mono run fun r s' hq=>by
     obtain ⟨hr,σ',acc2,its',k',H',I',k2,k3,k4,k1,m',hm,w'⟩:=hq
     obtain ⟨p1,p2,p5⟩:=outer I'
     exact ⟨hr,m',hm,i + 1,acc2,σ',H',its',k',p5,k1,p1,p2,k2,k3,k4,w'⟩
    refine Yt (.inr rfl) run2 ?_
    have self:=T2.self X.A 0 s9 (fun it' s'=>codeAny (model X.prog X.w) X.A (.compLoop (jQ elt tg1 it1 ifs1 tg2 it2 ifs2 scope pos) 1 it' (.ref s2.heap.objs.size) X'.env) (fun r s7=>(∃ f,r = .ok f) /\ ∃ m,m < n /\ ∃ i acc σ' H' its k,Inv X' [] σ' H' s7 /\ XR (List.replicate own.length none ++ σ) σ' /\ tn i s7.heap /\ (∀ b ∈ fp,H' b = none) /\ H' s2.heap.objs.size = none /\
      s7.heap.get? s2.heap.objs.size = some { cls:=.type "list",data:=.seq (List.toArray its) k } /\ Vals acc its /\ W i m acc H') s') (fun _ _=>False) st9 run2
    rw [xP,xw] at self
    exact self
 exact Yt (.inl rfl) (goal _ rfl) (T.self _ 0 _ _ _ st4 (goal _ rfl))
theorem QP {wi:TI} (ok:CompOk X scope M) (hc:X.calm = true) (hi:PI X tg1 it1 wi) (hg:∀ C s2 H2 fp,PG (zR X scope own M C s2 H2 fp) tg1 g1) (ht:∀ C s2 H2 fp,PTs (zR X scope own M C s2 H2 fp) ifs1 tt1) (hi2:∀ C s2 H2 fp,PI (zR X scope own M C s2 H2 fp) tg2 it2 wi2)
  (hg2:∀ C s2 H2 fp,PG (zR X scope own M C s2 H2 fp) tg2 g2) (ht2:∀ C s2 H2 fp,PTs (zR X scope own M C s2 H2 fp) ifs2 tt2) (he:∀ C s2 H2 fp,PE (zR X scope own M C s2 H2 fp) elt te)
  (hs:∀ x,foldedSetIterable it1 X.env x = pure x:=by intro _; rfl) (hs2:∀ C s2 H2 fp x,foldedSetIterable it2 (zR X scope own M C s2 H2 fp).env x = pure x:=by intros; rfl) :
  PE X (jQ elt tg1 it1 ifs1 tg2 it2 ifs2 scope pos) (ze6 wi own.length g1 tt1 wi2 g2 tt2 te):=by
 intro pins s σ H Q I h
 rw [eval_ListComp]
 refine wpAny_comprehension_free (use:=none) rfl hs (ZU (ok.cells I)) ok.kind (fun x hx hl=>by rw [ok.uniq x hx,hl]) ?_
 refine thn (hi pins s σ H _ I h) fun v s1 h1=>thn h1 fun itv s2 h2=>?_
 obtain ⟨it,fp,tn,J,H2,e,I2,T,st2,f2,W,w0,turn⟩:=h2
 subst e
 refine Uj (Qf:=Q) ok hc hg ht hi2 hg2 ht2 he hs2 I2 T st2 f2 w0 turn fun D C H' s' m IY q hm hCn c2 c1 c3 c4=>⟨m,hm,fun h' hs'=>?_⟩
 exact ⟨.ref D,H',IY.turned (t':=s'.toks) (fun b o hb e=>hs'.extBut b o hb e) hCn c2 (.inr c1) c3 c4,rfl,q⟩
end
end L2
set_option maxRecDepth 100000
namespace L2
open PySem PySem.Spec PyProof.Rows
def keepsD:Rho -> Rho -> Prop
 | [],[]=>True
 | none :: r,_ :: r'=>keepsD r r'
 | some d :: r,o :: r'=>o = some d /\ keepsD r r'
 | _,_=>False
@[simp] theorem zF3:keepsD [] [] = True:=rfl
@[simp] theorem zF2 {o:Option D} {r r':Rho}:keepsD (none :: r) (o :: r') = keepsD r r':=rfl
@[simp] theorem zF1 {d:D} {o:Option D} {r r':Rho}:keepsD (some d :: r) (o :: r') = (o = some d /\ keepsD r r'):=rfl
theorem keepsD.at:∀ {r r':Rho},keepsD r r' -> r.length = r'.length /\ ∀ (i:Nat) (d:D),r[i]? = some (some d) -> r'[i]? = some (some d)
  | [],[],_=>⟨rfl,fun i d e=>by simp at e⟩
  | none :: r, o :: r', h => by
    have h':keepsD r r':=h
    obtain ⟨h1,h2⟩:=h'.at
    refine ⟨by simp [h1],fun i d e=>?_⟩
    cases i with
    | zero=>simp at e
    | succ i=>simpa using h2 i d (by simpa using e)
  | some c :: r, o :: r', h => by
    have h':o = some c /\ keepsD r r':=h
    obtain ⟨h1,h2⟩:=h'.2.at
    refine ⟨by simp [h1],fun i d e=>?_⟩
    cases i with
    | zero => have e' : c = d := by simpa using e
              subst e'
              rw [h'.1]; rfl
    | succ i=>simpa using h2 i d (by simpa using e)
  | [],_ :: _,h=>h.elim
  | none :: _,[],h=>h.elim
  | some _ :: _,[],h=>h.elim
@[simp] theorem jp:∀ r:Rho,keepsD r r
 | []=>True.intro
 | none :: r=>jp r
 | some d :: r=>⟨rfl,jp r⟩
theorem AmO.weakR {A:AC} {os:List (Nat × Addr)} {n:Nat} {rho rho':Rho} {sg:St} {H:Hp} {ds:List D} {vs:List V} (I:AmO A os n rho' sg H ds vs) (k:keepsD rho rho'):AmO A os n rho sg H ds vs :=
 ⟨k.at.1.trans I.len,fun i d e=>I.slot i d (k.at.2 i d e),I.pend,I.nd,I.fresh,I.st,I.gz,I.fr,I.z0⟩
theorem jZ {m:Nat} {sg sg2:St} (h:sg2.drop m = sg):XR (List.replicate m none ++ sg) sg2:=by
 intro j v e
 by_cases hj:j < m
 ·rw [List.getElem?_append_left (by simpa using hj), List.getElem?_replicate, if_pos hj] at e
  cases e
 ·rw [List.getElem?_append_right (by simpa using Nat.le_of_not_lt hj), List.length_replicate, <- h, List.getElem?_drop] at e
  rw [show m + (j - m) = j by lia] at e
  exact e
def zT2 (g2:TGD) (tt2:TBD) (te:TD) (rho2:Rho) (acc:List D) (R:List D -> Nat -> Prop) (items2:List D) (n:Nat):Prop:=∃ J2:Nat -> List D -> Nat -> Prop,J2 0 acc n /\
 (∀ i d acc n,items2[i]? = some d -> J2 i acc n -> acc.length < sizeLine /\ g2 d rho2 fun rho3=>keepsD rho2 rho3 /\ tt2 rho3 n fun c n2=>if c = true then te rho3 n2 fun e n3=>J2 (i + 1) (acc ++ [e]) n3 else J2 (i + 1) acc n2) /\
 ∀ acc n,J2 items2.length acc n -> R acc n
def WB (own:Nat) (g1:TGD) (tt1:TBD) (it2:TID) (g2:TGD) (tt2:TBD) (te:TD) (rho:Rho) (P:D -> Nat -> Prop) (items:List D) (n1:Nat):Prop:=∃ J:Nat -> List D -> Nat -> Prop,J 0 [] n1 /\
 (∀ i d acc n,items[i]? = some d -> J i acc n -> g1 d (List.replicate own none ++ rho) fun rho2=>rho2.drop own = rho /\ tt1 rho2 n fun c n2=>if c = true then it2 rho2 n2 (zT2 g2 tt2 te rho2 acc (J (i + 1))) else J (i + 1) acc n2) /\
 ∀ acc n,J items.length acc n -> acc.length <= sizeLine /\ P (.lst acc) n
def Jy (it:TID) (own:Nat) (g1:TGD) (tt1:TBD) (it2:TID) (g2:TGD) (tt2:TBD) (te:TD):TD:=fun rho n P=>it rho n (WB own g1 tt1 it2 g2 tt2 te rho P)
@[simp] theorem zH3 {it own g1 tt1 it2 g2 tt2 te rho n P}:Jy it own g1 tt1 it2 g2 tt2 te rho n P = it rho n (WB own g1 tt1 it2 g2 tt2 te rho P):=rfl
section
variable {A:AC} {X:Cx} {elt tg1 it1 tg2 it2:Expr} {ifs1 ifs2:List Expr} {scope:Scope} {own M:List Str} {pos:Pos} {i1 i2:TID} {g1 g2:TGD} {tt1 tt2:TBD} {te:TD}
theorem UL {sg:St} {H:Hp} {Q:VK} {m:Nat} (h:tOf A (Jy i1 m g1 tt1 i2 g2 tt2 te) sg H Q):ze6 (iOf A i1) m (gOf A m g1) (VD A tt1) (iOf A i2) (gOf A m g2) (VD A tt2) (tOf A te) sg H Q:=by
 obtain ⟨rho,n,P,ds,vs,I,ht,hQ⟩:=h
 refine ⟨rho,n,_,ds,vs,I,ht,fun J H' n' items es ws I1 hl hJ k=>?_⟩
 obtain ⟨W,w0,turn,fin⟩:=k
 refine ⟨fun i mm acc H=>mm = items.length - i /\ i <= items.length /\ ∃ accD n,acc.length = accD.length /\ Am A n rho sg H (es ++ (accD ++ ds)) (ws ++ (acc ++ vs)) /\ W i accD n,⟨items.length,rfl,Nat.zero_le _,[],n',rfl,I1,w0⟩,?_⟩
 rintro i mm acc H3 ⟨rfl,hi,accD,n3,hal,⟨os,I3⟩,w3⟩
 obtain ⟨j1,j2⟩:=hJ n3 rho sg H3 (accD ++ ds) (acc ++ vs) i ⟨os,I3⟩
 by_cases hlt:i < items.length
 ·refine .inr ⟨(j1 items[i] (by simp [hlt])).1, fun x H4 y => ?_⟩
  obtain ⟨os4,I4⟩:=(j1 items[i] (by simp [hlt])).2 x H4 y
  refine ⟨List.replicate m none ++ rho,n3,_,items[i],es ++ (accD ++ ds),ws ++ (acc ++ vs),⟨_,I4.front m⟩,turn i items[i] accD n3 (by simp [hlt]) w3,fun rho2 sg2 ⟨os5,I5⟩ e5 k5=>?_⟩
  obtain ⟨k5,k6⟩:=k5
  have e6:sg2.drop m = sg:=by rw [e5,List.drop_left' (by simp)]
  refine ⟨jZ e6,rho2,n3,_,es ++ (accD ++ ds),ws ++ (acc ++ vs),⟨os5,I5⟩,k6,fun c H6 n6 ⟨os6,I6⟩ k7=>?_⟩
  cases c with
  | false =>
   obtain ⟨os7,I7⟩:=I6.back k5 e6
   exact ⟨items.length - (i + 1),by lia,rfl,hlt,accD,n6,hal,⟨os7,I7⟩,k7⟩
  | true =>
   rw [if_pos rfl] at k7 ⊢
   refine ⟨rho2,n6,_,es ++ (accD ++ ds),ws ++ (acc ++ vs),⟨os6,I6⟩,k7,fun J2 H7 n7 items2 es2 ws2 I7 hl2 hJ2 k8=>?_⟩
   obtain ⟨V,v0,vturn,vfin⟩:=k8
   refine ⟨fun i2 nn acc2 σ5 H=>nn = items2.length - i2 /\ i2 <= items2.length /\ σ5.drop m = sg /\ ∃ accD2 n,acc2.length = accD2.length /\ Am A n rho2 σ5 H (es2 ++ (es ++ (accD2 ++ ds))) (ws2 ++ (ws ++ (acc2 ++ vs))) /\ V i2 accD2 n,⟨items2.length,rfl,Nat.zero_le _,e6,accD,n7,hal,I7,v0⟩,?_⟩
   rintro i2 nn acc2 σ5 H8 ⟨rfl,hi2,s5d,accD2,n8,hal2,⟨os8,I8⟩,w8⟩
   obtain ⟨q1,q2⟩:=hJ2 n8 rho2 σ5 H8 (es ++ (accD2 ++ ds)) (ws ++ (acc2 ++ vs)) i2 ⟨os8,I8⟩
   by_cases hlt2:i2 < items2.length
   ·obtain ⟨t1, t2⟩ := vturn i2 items2[i2] accD2 n8 (by simp [hlt2]) w8
    refine .inr ⟨(q1 items2[i2] (by simp [hlt2])).1,by rw [hal2]; exact t1,fun y H9 yy=>?_⟩
    obtain ⟨os9,I9⟩:=(q1 items2[i2] (by simp [hlt2])).2 y H9 yy
    refine ⟨rho2,n8,_,items2[i2],es2 ++ (es ++ (accD2 ++ ds)),ws2 ++ (ws ++ (acc2 ++ vs)),⟨os9,I9⟩,t2,fun rho3 sg3 ⟨os10,I10⟩ e10 k10=>?_⟩
    obtain ⟨k10,k11⟩:=k10
    refine ⟨rho3,n8,_,es2 ++ (es ++ (accD2 ++ ds)),ws2 ++ (ws ++ (acc2 ++ vs)),⟨os10,I10⟩,k11,fun c H11 n11 ⟨os11,I11⟩ k12=>?_⟩
    cases c with
    | false=>exact ⟨items2.length - (i2 + 1),by lia,rfl,hlt2,e10.trans s5d,accD2,n11,hal2,⟨os11,I11.weakR k10⟩,k12⟩
    | true =>
     rw [if_pos rfl] at k12 ⊢
     refine ⟨rho3,n11,_,es2 ++ (es ++ (accD2 ++ ds)),ws2 ++ (ws ++ (acc2 ++ vs)),⟨os11,I11⟩,k12,fun v H12 n12 d ⟨os12,I12⟩ k13=>?_⟩
     obtain ⟨I13,rv⟩:=I12.pop
     obtain ⟨I14,r1⟩:=I13.split hl2
     obtain ⟨I15,r2⟩:=I14.split hl
     obtain ⟨I16,r3⟩:=I15.split hal2
     exact ⟨items2.length - (i2 + 1),by lia,rfl,hlt2,e10.trans s5d,accD2 ++ [d],n12,by simp [hal2],⟨os12,(((I16.join (r3.append (.cons rv .nil))).join r2).join r1).weakR k10⟩,k13⟩
   ·have e : i2 = items2.length := by lia
    subst e
    obtain ⟨I9,_⟩:=I8.split hl2
    obtain ⟨os10,I10⟩:=I9.back k5 s5d
    exact .inl ⟨q2 (Nat.le_refl _),jZ s5d,items.length - (i + 1),by lia,rfl,hlt,accD2,n8,hal2,⟨os10,I10⟩,vfin accD2 n8 w8⟩
 ·have e : i = items.length := by lia
  subst e
  obtain ⟨f1,f2⟩:=fin accD n3 w3
  refine .inl ⟨j2 (Nat.le_refl _),by rw [hal]; exact f1,fun D hD=>?_⟩
  obtain ⟨I4,r1⟩:=I3.split hl
  obtain ⟨I5,r2⟩:=I4.split hal
  exact hQ _ _ n3 _ ⟨os,I5.newLst r2 hD⟩ f2
theorem Vi (ok:CompOk X scope M) (hc:X.calm = true) (hi:PID A X tg1 it1 i1) (hg:∀ C s2 H2 fp,PGD A (zR X scope own M C s2 H2 fp) own.length tg1 g1) (ht:∀ C s2 H2 fp,PTs (zR X scope own M C s2 H2 fp) ifs1 (VD A tt1))
  (hi2:∀ C s2 H2 fp,PID A (zR X scope own M C s2 H2 fp) tg2 it2 i2) (hg2:∀ C s2 H2 fp,PGD A (zR X scope own M C s2 H2 fp) own.length tg2 g2) (ht2:∀ C s2 H2 fp,PTs (zR X scope own M C s2 H2 fp) ifs2 (VD A tt2))
  (he:∀ C s2 H2 fp,PD A (zR X scope own M C s2 H2 fp) elt te) (hs:∀ x,foldedSetIterable it1 X.env x = pure x:=by intro _; rfl) (hs2:∀ C s2 H2 fp x,foldedSetIterable it2 (zR X scope own M C s2 H2 fp).env x = pure x:=by intros; rfl) :
  PD A X (.ListComp elt [⟨tg1,it1,ifs1,0⟩,⟨tg2,it2,ifs2,0⟩] scope pos) (Jy i1 own.length g1 tt1 i2 g2 tt2 te):=by
 with_unfolding_all
  exact (QP ok hc hi hg ht hi2 hg2 ht2 he hs hs2).imp fun _ _ _=>UL
end
theorem Xm {g2:TGD} {tt2:TBD} {te:TD} {rho2:Rho} {acc:List D} {R:List D -> Nat -> Prop} {n:Nat} {β:Type} (enc2:β -> D) (keep:β -> Bool) (f:β -> D) (ys:List β) (hz:acc.length + ys.length <= 1000)
  (he:∀ y ∈ ys,∀ (R:D -> Nat -> Prop) (S:Nat -> Prop),(keep y = true -> R (f y) n) -> (keep y = false -> S n) -> g2 (enc2 y) rho2 fun rho3=>keepsD rho2 rho3 /\ tt2 rho3 n fun c n2=>if c = true then te rho3 n2 R else S n2)
  (fin:R (acc ++ (ys.filter keep).map f) n):zT2 g2 tt2 te rho2 acc R (ys.map enc2) n:=by
 refine ⟨fun i ac n'=>n' = n /\ i <= ys.length /\ ac = acc ++ ((ys.take i).filter keep).map f,⟨rfl,Nat.zero_le _,by simp⟩,?_,?_⟩
 ·rintro i d ac n' e ⟨rfl, hi, rfl⟩
  rw [List.getElem?_map] at e
  cases q:ys[i]? with
  | none=>rw [q] at e; cases e
  | some y =>
   rw [q] at e
   cases e
   have hm:y ∈ ys:=List.mem_of_getElem? q
   have hlt:i < ys.length:=(List.getElem?_eq_some_iff.mp q).1
   have hfl:((ys.take i).filter keep).length <= i:=Nat.le_trans (List.length_filter_le ..) (by rw [List.length_take]; lia)
   refine ⟨lt_size (by rw [List.length_append,List.length_map]; lia),?_⟩
   refine he y hm _ _ (fun hk=>?_) fun hk=>?_
   ·refine ⟨rfl, hlt, ?_⟩
    rw [List.take_add_one,q]
    simp [hk]
   ·refine ⟨rfl, hlt, ?_⟩
    rw [List.take_add_one,q]
    simp [hk]
 ·rintro ac n' ⟨rfl, _, rfl⟩
  rw [List.length_map,List.take_length]
  exact fin
end L2
set_option maxRecDepth 100000
namespace L2
open PySem PySem.Spec PyProof.Rows
def ZQ:Value -> Bool
 | .bool b=>b
 | _=>false
def zj7 (K:PySem.W.Frag):V -> List V -> Hp -> VK -> Prop:=fun x vs H Q=>∃ (l:Addr) (bs:List Bool) (j:Nat),x = .ref l /\ vs = [.bl true] /\ SqL K H l (bs.map V.bl) /\ bs[j]? = some true /\ (∀ m,m < j -> bs[m]? = some false) /\ bs.length <= 1000 /\ Q (.int j) H
theorem Qt {bs:List Bool}:∀ {us:List Value},Vals (bs.map V.bl) us -> us = bs.map Value.bool:=by
 induction bs with
 | nil=>intro us r; cases r; rfl
 | cons b bs ih =>
  intro us r
  cases r with
  | cons r1 r2 =>
   have e:_ = Value.bool b:=r1
   rw [e,ih r2]
   rfl
section
variable {X:Cx}
theorem KH:MtR X "list.index" (zj7 X.K):=by
 intro pins s σ H x vs v us Q I rx rv h
 obtain ⟨l,bs,j,rfl,rfl,hS,h1,h2,h3,q⟩:=h
 cases rx
 obtain ⟨u,rfl,ru⟩:=Yq rv
 have eu:u = Value.bool true:=ru
 subst eu
 obtain ⟨its,r,pl,_⟩:=I.list hS
 have e:=Qt r
 subst e
 have ty:=pl.isList.typeIs
 obtain ⟨o,n,ho,hc,hdi,hd⟩:=pl
 obtain ⟨oc,od,odt,osl⟩:=o
 cases hc
 cases hdi
 cases hd
 have hj:j < bs.length:=(List.getElem?_eq_some_iff.mp h1).1
 have hjs:j < ((bs.map Value.bool).toArray).size:=by simpa using hj
 have at_:∀ m (hm:m < ((bs.map Value.bool).toArray).size),ZQ ((bs.map Value.bool).toArray)[m] = bs[m]'(by simpa using hm):=fun m hm=>by simp [ZQ]
 refine call_meets F.slot_list_index ty F.entry_list_index (F.args_list_index_2 _ _) (SeqAt.list_indexAt l (bs.map Value.bool).toArray n _ _ (.bool true) ZQ j hjs (by lia) ?_ ?_) ⟨ho,?_,?_⟩
 ·rw [at_ j hjs]
  exact (List.getElem?_eq_some_iff.mp h1).2
 ·intro m hm hlt
  rw [at_ m hm]
  exact (List.getElem?_eq_some_iff.mp (h2 m hlt)).2
 ·intro y hy
  obtain ⟨b,_,rfl⟩:=List.mem_map.mp (List.mem_toArray.mp hy)
  have:=SeqAt.EqAt.bool_bool (A:=X.A.in1) (s:=s) b true
  have e:(b == true) = ZQ (.bool b):=by cases b <;> rfl
  rw [e] at this
  exact this
 ·exact ⟨.int j,H,I.tok _,⟨_,rfl⟩,q⟩
end
def Jx (te:TD):TD:=fun rho n P=>te rho n fun d n1=>∃ (bs:List Bool) (j:Nat),d = .lst (bs.map D.bl) /\ bs[j]? = some true /\ (∀ m,m < j -> bs[m]? = some false) /\ bs.length <= 1000 /\ P (.int j) n1
@[simp] theorem zv0 {te rho n P}:Jx te rho n P = te rho n fun d n1=>∃ (bs:List Bool) (j:Nat),d = .lst (bs.map D.bl) /\ bs[j]? = some true /\ (∀ m,m < j -> bs[m]? = some false) /\ bs.length <= 1000 /\ P (.int j) n1:=rfl
theorem WW {K:PySem.W.Frag} {G:Option Addr} {Z:Addr -> Prop} {H:Hp}:∀ {bs:List Bool} {vs:List V},Reps K G Z H (bs.map D.bl) vs -> vs = bs.map V.bl
 | [],vs,h=>h.nil_inv
 | b :: bs,vs,h=>by
  obtain ⟨v,r,rfl,q,t⟩:=h.split
  rw [q.bl_inv,WW t]; rfl
section
variable {A:AC} {X:Cx}
theorem Kl {o:Expr} {te:TD} {apos cpos p:Pos} {j:Nat} (hK:X.K = A.K) (ho:PD A X o te) (hbase:attributeBase o "index" X.env (eval o X.env) = eval o X.env:=by rfl) (hline:(apos.endLine == cpos.line) = true:=by rfl) :
  PD A X (.Call (.Attribute o "index" apos) [.Constant (.bool true) j p] [] cpos) (Jx te):=by
 with_unfolding_all
  exact (Kj F.plainAttrs_list F.slot_list_index F.type_list_index KH ho (vn zw6 pa_nil) hbase rfl hline).imp fun sg H Q h=>by
   obtain ⟨rho,n,P,ds,vs,I,ht,hQ⟩:=h
   refine ⟨rho,n,_,ds,vs,I,ht,fun v H1 n1 d ⟨os,J⟩ k=>?_⟩
   obtain ⟨bs,j,rfl,k1,k2,k3,k⟩:=k
   obtain ⟨J1,r⟩:=J.pop
   obtain ⟨l,xs,rfl,sq,rs⟩:=r.lst_inv
   rw [WW rs] at sq
   rw [hK]
   exact ⟨.inl ⟨rfl,_,sq.sq⟩,l,bs,j,rfl,rfl,sq.sq,k1,k2,k3,hQ _ _ n1 _ ⟨os,J1.push (Rep.ofS (d:=.int j) rfl)⟩ k⟩
end
end L2
set_option maxRecDepth 100000
namespace L2
open PySem PySem.Spec PyProof.Rows
section
variable {A:AC} {X:Cx} {e:Expr} {t1:TAD} {pos:Pos}
def US (i j:Nat) (t:TAD):TSD:=fun F rho n=>vV rho[i]? fun es=>vV rho[j]? fun fs=>i ≠ j /\ es.length < sizeLine /\ t rho n fun ds n1=>∃ (k:Nat) (d:D),ds = [.int k] /\ k < 1000000 /\ fs[k]? = some d /\ F.nx ((rho.set j (some (.own (fs.eraseIdx k)))).set i (some (.own (es ++ [d])))) n1
@[simp] theorem zu4 {i j t F rho n}:US i j t F rho n = vV rho[i]? fun es=>vV rho[j]? fun fs=>i ≠ j /\ es.length < sizeLine /\ t rho n fun ds n1=>∃ (k:Nat) (d:D),ds = [.int k] /\ k < 1000000 /\ fs[k]? = some d /\ F.nx ((rho.set j (some (.own (fs.eraseIdx k)))).set i (some (.own (es ++ [d])))) n1:=rfl
theorem Reps.erase {K:PySem.W.Frag} {G:Option Addr} {Z:Addr -> Prop} {H:Hp}:∀ {ds:List D} {vs:List V} (k:Nat),Reps K G Z H ds vs -> Reps K G Z H (ds.eraseIdx k) (vs.eraseIdx k):=by
 intro ds
 induction ds with
 | nil=>intro vs k r; rw [r.nil_inv]; exact .nil
 | cons d ds ih =>
  intro vs k r
  obtain ⟨v,w,rfl,q,t⟩:=r.split
  cases k with
  | zero=>exact t
  | succ k=>exact .cons q (ih k t)
theorem VJ {i j:Nat} {x y:Str} {px py apos cpos bpos dpos:Pos} (ha:PAD A X [e] t1) (hK:X.K = A.K) (hN:X.N[i]? = some y:=by rfl) (hM:X.N[j]? = some x:=by rfl)
  (hv:Vis X.env.scope y:=by first | exact Or.inl rfl | exact Or.inr (Or.inl rfl) | exact Or.inr (Or.inr rfl)) (hd:(y == ("__debug__" : Str)) = false:=by decide) (hcd:(y == ("__classdict__" : Str)) = false:=by decide)
  (hv2:Vis X.env.scope x:=by first | exact Or.inl rfl | exact Or.inr (Or.inl rfl) | exact Or.inr (Or.inr rfl)) (hd2:(x == ("__debug__" : Str)) = false:=by decide) (hcd2:(x == ("__classdict__" : Str)) = false:=by decide)
  (hbase:attributeBase (.Name y py) "append" X.env (eval (.Name y py) X.env) = eval (.Name y py) X.env:=by rfl)
  (hbase2:attributeBase (.Name x px) "pop" X.env (eval (.Name x px) X.env) = eval (.Name x px) X.env:=by rfl)
  (hfew : ((backTo cpos (starEach [.Call (.Attribute (.Name x px) "pop" bpos) [e] [] dpos] X.env)).all (fun x => !x.1) && (backToKw cpos (keywordEach [] X.env)).all (fun x => x.1.isSome)
   && decide ([(.Call (.Attribute (.Name x px) "pop" bpos) [e] [] dpos:Expr)].length + ([]:List Keyword).length + (if ([]:List Keyword).isEmpty then 0 else 1) < 30)) = true:=by rfl)
  (hfew2 : ((backTo dpos (starEach [e] X.env)).all (fun x => !x.1) && (backToKw dpos (keywordEach [] X.env)).all (fun x => x.1.isSome)
   && decide ([e].length + ([]:List Keyword).length + (if ([]:List Keyword).isEmpty then 0 else 1) < 30)) = true:=by rfl)
  (hline:(apos.endLine == cpos.line) = true:=by rfl) (hline2:(bpos.endLine == dpos.line) = true:=by rfl)
  (hs:starEach [.Call (.Attribute (.Name x px) "pop" bpos) [e] [] dpos] X.env = (false,eval (.Call (.Attribute (.Name x px) "pop" bpos) [e] [] dpos) X.env) :: starEach [] X.env:=by rfl) (hs2:starEach [e] X.env = (false,eval e X.env) :: starEach [] X.env:=by rfl)
  (hplain:(backTo cpos (starEach [] X.env)).any (·.1) = false:=by rfl) (hplain2:(backTo dpos (starEach [] X.env)).any (·.1) = false:=by rfl)
  (hsw:swapsWith (.Call (.Attribute (.Name y py) "append" apos) [.Call (.Attribute (.Name x px) "pop" bpos) [e] [] dpos] [] cpos) none pos.line X.env = pure false:=by rfl) :
  PSD A X (.Expr (.Call (.Attribute (.Name y py) "append" apos) [.Call (.Attribute (.Name x px) "pop" bpos) [e] [] dpos] [] cpos) pos) (US i j t1):=by
 with_unfolding_all
  exact
   (Wp (Kj PySem.F.plainAttrs_list PySem.F.slot_list_append PySem.F.type_list_append Xe (vf hN hv hd hcd)
    (vn (Kj PySem.F.plainAttrs_list PySem.F.slot_list_pop PySem.F.type_list_pop zb4 (vf hM hv2 hd2 hcd2) ha hbase2 hfew2 hline2 hs2 hplain2) pa_nil hs) hbase hfew hline hs hplain) hsw).imp fun E sg H h=>by
    obtain ⟨rho,n,F,ds,vs,⟨os,I⟩,⟨es,hi,fs,hj,hij,hz,ht⟩,ok⟩:=h
    obtain ⟨a,xs,e1,hH,rs,_⟩:=I.own (es':=es) (xs':=[]) hi
    obtain ⟨b,ys,e2,hH2,rs2,_⟩:=I.own (es':=fs) (xs':=[]) hj
    refine ⟨.ref a,e1,.inl ⟨rfl,xs,SqL.of hH⟩,.ref b,e2,.inl ⟨rfl,ys,SqL.of hH2⟩,rho,n,_,ds,vs,⟨os,I⟩,ht,fun ws H' n' gs ⟨os',J⟩ hl k=>?_⟩
    obtain ⟨k,d,rfl,hk,hd,q⟩:=k
    obtain ⟨J1,rs1⟩:=J.split hl
    obtain ⟨v,rfl,r⟩:=yi rs1
    obtain ⟨b',ys',e3,hH3,rs3,_⟩:=J1.own (es':=fs) (xs':=[]) hj
    rw [e2] at e3
    cases e3
    obtain ⟨w,hw,rw'⟩:=rs3.get hd
    have J2:=J1.push rw'
    obtain ⟨b',ys',e3,hH4,rs4,up⟩:=J2.own (es':=fs.eraseIdx k) (xs':=ys'.eraseIdx k) hj
    rw [e2] at e3
    cases e3
    rw [hH3] at hH4
    cases hH4
    have hkl:k < ys'.length:=(List.getElem?_eq_some_iff.mp hw).1
    refine ⟨_,_,k,k,w,rfl,?_,hH3,by lia,by lia,?_,hw,?_⟩
    ·rw [r.int_inv]
    ·unfold seqIndex?
     simp
     lia
    ·have J3 := up _ _ (rs4.erase k)
     obtain ⟨J4,r5⟩:=J3.pop
     have hi2:(rho.set j (some (.own (fs.eraseIdx k))))[i]? = some (some (.own es)):=by rw [List.getElem?_set_ne hij.symm]; exact hi
     obtain ⟨a',xs2,e4,hH5,rs5,up2⟩:=J4.own (es':=es) (xs':=[]) hi2
     rw [e1] at e4
     cases e4
     exact ⟨a,xs2,w,rfl,rfl,hH5,by rw [rs5.length]; exact hz,ok.nx _ _ _ _ ⟨os',up2 _ _ (rs5.append (.cons r5 .nil))⟩ q⟩
end
end L2
set_option maxRecDepth 100000
namespace L2
open PySem PySem.Spec PyProof.Rows
section
variable {A:AC} {X:Cx} {e:Expr} {t1:TAD} {pos:Pos}
def zf0 (i j:Nat) (t:TAD):TSD:=fun F rho n=>i < rho.length /\ j < rho.length /\ t rho n fun ds n1=>zp9 ds fun fs=>F.nx ((rho.set i (some (.own fs))).set j (some (.own []))) n1
@[simp] theorem zD9 {i j t F rho n}:zf0 i j t F rho n = (i < rho.length /\ j < rho.length /\ t rho n fun ds n1=>zp9 ds fun fs=>F.nx ((rho.set i (some (.own fs))).set j (some (.own []))) n1):=rfl
theorem UZ {i j:Nat} {x y:Str} {px py pt pl p pc:Pos} {kt k2 pt2} (hc:X.calm = true) (hK:X.K = A.K) (hm:X.mg "list" = none) (hN:X.N.Nodup) (hi:X.N[i]? = some x) (hj:X.N[j]? = some y) (hij:i ≠ j)
  (hx:X.env.scope.names.lookup x = some .local) (hy:X.env.scope.names.lookup y = some .local) (ha:PAD A X [e] t1) (hg:Gl X "list" := by rfl) (he:starEach [e] X.env = [(false,eval e X.env)]:=by rfl)
  (hk:X.env.blockKind = .function:=by rfl) (hl:py.line = px.line:=by rfl) (hxy:x ≠ y:=by decide) (hf:[.Call (.Name "list" p) [e] [] pc,Expr.List [] pl].all (foldedForSure 8) = false:=by decide +kernel) (hca:[.Call (.Name "list" p) [e] [] pc,Expr.List [] pl].all (constantsAlone 8) = false:=by decide +kernel) :
  PSD A X (.Assign [.Tuple [.Name x px,.Name y py] kt pt] (.Tuple [.Call (.Name "list" p) [e] [] pc,.List [] pl] k2 pt2) pos) (zf0 i j t1):=by
 with_unfolding_all
  exact (by
   refine (Kb hc hN hi hj hij hx hy (vn (YN (vq (X:=X)) hg hm WD ha (by decide) (by decide) he rfl) (vn (jT pa_nil) pa_nil (sE rfl)) (sE rfl)) (Zv hk hx hy hl hxy rfl rfl hf hca) rfl).imp fun E sg H h=>?_
   obtain ⟨rho,n,F,ds,vs,I,⟨hil,hjl,ht⟩,ok⟩:=h
   refine ⟨rho,n,_,ds,vs,I,ht,fun ws H' n' es ⟨os,J⟩ hlen k=>?_⟩
   obtain ⟨J1,rs⟩:=J.split hlen
   obtain ⟨fs,hes,k⟩:=k
   have fin:∀ (l:Addr) (xs:List V),H' l = none -> Reps A.K A.G (Zof A os) H' fs xs -> ∀ p,upd H' l (.lst xs) p = none -> E.nx ((sg.set i (some (.ref l))).set j (some (.ref p))) (upd (upd H' l (.lst xs)) p (.lst [])):=fun l xs hl' rr p hp=>by
    obtain ⟨os2,J2⟩:=J1.setOwn hil hl' rr
    exact ok.nx _ _ _ _ (J2.setOwn (by simpa using hjl) hp .nil) k
   rcases hes with rfl | rfl
   ·obtain ⟨v, rfl, r⟩ := yi rs
    obtain ⟨a,xs,rfl,sq,rr⟩:=r.lst_inv
    exact ⟨a,xs,rfl,.inl (hK ▸ sq.sq),fun l hl'=>⟨Nat.zero_le _,fun p hp=>⟨_,_,rfl,fin l xs hl' rr p hp⟩⟩⟩
   ·obtain ⟨v, rfl, r⟩ := yi rs
    obtain ⟨a,xs,rfl,sq,rr⟩:=r.tup_inv
    exact ⟨a,xs,rfl,.inr (hK ▸ sq.sq),fun l hl'=>⟨Nat.zero_le _,fun p hp=>⟨_,_,rfl,fin l xs hl' rr p hp⟩⟩⟩)
end
end L2
set_option maxRecDepth 100000
namespace L2
open PySem PySem.Spec PyProof.Rows
section
variable {A:AC} {X:Cx}
def zs0:D -> Str
 | .int i=>toString i
 | d=>zi8 d
def xa5 (d:D):Prop:=(∃ i:Int,d = .int i /\ i.natAbs.log2 < 1920) \/ zS0 d
def zA2:List D -> (D -> Prop) -> Prop:=fun es k=>∃ d,es = [d] /\ xa5 d /\ k (.str (zs0 d))
@[simp] theorem zF9 {d k}:zA2 [d] k ↔ (xa5 d /\ k (.str (zs0 d))):=⟨fun ⟨_,e,h⟩=>by cases e; exact h,fun h=>⟨_,rfl,h⟩⟩
end
end L2
set_option maxRecDepth 100000
namespace L2
open PySem PySem.Spec PyProof.Rows
def atS:List Str -> List D -> Str -> Option D
 | k :: ks,d :: ds,x=>if k = x then some d else atS ks ds x
 | _,_,_=>none
structure EntOk (w:World) (K:PySem.W.Frag) (e:DictEntry) (k:Str) (d:D):Prop where
 key:∃ t,e.key = .str k t
 hash:e.hash = zS3 w (.inr k)
 val:∃ v,RelV v e.val /\ ∀ G Z H,Rep K G Z H d v
def XS (w:World) (K:PySem.W.Frag):List DictEntry -> List Str -> List D -> Prop
 | [],[],[]=>True
 | e :: es,k :: ks,d :: ds=>EntOk w K e k d /\ XS w K es ks ds
 | _,_,_=>False
def zU7 (w:World) (K:PySem.W.Frag) (mg:Str -> Option Value) (x:Str) (ks:List Str) (ds:List D):Prop :=
 ∃ (a:Addr) (o:Obj) (es:Array DictEntry) (ep:Nat),mg x = some (.ref a) /\ (a == sysModules) = false /\ K.lookup a = some o /\ o.ExactDict /\ o.data = .dict es ep /\ XS w K es.toList ks ds
theorem jY (x k:Str) (t:Tok):qr (.inr x) (.str k t) = decide (k = x):=by
 by_cases h:k = x
 ·subst h
  rw [jo]; simp
 ·cases e : qr (.inr x) (.str k t) with
  | false=>simp [h]
  | true =>
   rcases xk e with ⟨i,u,e1,e2⟩ | ⟨y,u,e1,e2⟩
   ·cases e1
   ·cases e1
    injection e2 with e2 _
    exact absurd e2 h
theorem Xs {w:World} {K:PySem.W.Frag}:∀ {es:List DictEntry} {ks:List Str} {ds:List D},XS w K es ks ds -> ∀ x:Str,
  match atS ks ds x with
  | some d=>∃ u v,(es.find? fun e=>qr (.inr x) e.key).map (·.val) = some u /\ RelV v u /\ ∀ G Z H,Rep K G Z H d v
  | none=>(es.find? fun e=>qr (.inr x) e.key).map (·.val) = none
 | [],[],[],_,x=>rfl
 | e :: es, k :: ks, d :: ds, h, x => by
  obtain ⟨⟨⟨t,hk⟩,_,v,r1,r2⟩,h2⟩:=h
  unfold atS
  by_cases c:k = x
  ·rw [if_pos c]
   refine ⟨e.val,v,?_,r1,r2⟩
   rw [List.find?_cons_of_pos (by rw [hk,jY]; simp [c])]; rfl
  ·rw [if_neg c, List.find?_cons_of_neg (by rw [hk, jY]; simp [c])]
   exact Xs h2 x
 | [],[],_ :: _,h,_=>h.elim
 | [],_ :: _,_,h,_=>h.elim
 | _ :: _,[],_,h,_=>h.elim
 | _ :: _,_ :: _,[],h,_=>h.elim
theorem Xr {w:World} {K:PySem.W.Frag}:∀ {es:List DictEntry} {ks:List Str} {ds:List D},XS w K es ks ds -> ∀ e ∈ es,∃ k:Key,qr k e.key = true /\ e.hash = zS3 w k
 | [],[],[],_,e,he=>by simp at he
 | e :: es,k :: ks,d :: ds,h,e',he=>by
  obtain ⟨⟨⟨t,hk⟩,hh,_⟩,h2⟩:=h
  rcases List.mem_cons.mp he with rfl | he
  ·exact ⟨.inr k,by rw [hk]; exact jo k t,hh⟩
  ·exact Xr h2 e' he
 | [],[],_ :: _,h,_,_=>h.elim
 | [],_ :: _,_,h,_,_=>h.elim
 | _ :: _,[],_,h,_,_=>h.elim
 | _ :: _,_ :: _,[],h,_,_=>h.elim
theorem zc9 {P:Program} {w:World} {K:PySem.W.Frag} {h:Heap} {a:Addr} {o:Obj} {es:Array DictEntry} {ep:Nat} {ks:List Str} {ds:List D} (X:K.In h) (hk:K.lookup a = some o) (hx:o.ExactDict) (hd:o.data = .dict es ep) (he:XS w K es.toList ks ds) :
  h.MapOf (yS P w) a (findBy (yS P w).is es) :=
 ⟨o,es,ep,X a o hk,hx,hd,fun e hm=>Xr he e (Array.mem_toList_iff.mpr hm),fun _=>rfl⟩
theorem Jl {P:Program} {w:World} (es:Array DictEntry) (x:Str):findBy (yS P w).is es (.inr x) = (es.toList.find? fun e=>qr (.inr x) e.key).map (·.val):=by
 unfold findBy
 rw [<- Array.find?_toList]
 rfl
section
variable {X:Cx} {A:AC} {a b:Expr} {ta tb:TD} {pos p:Pos} {g:Str} {ks:List Str} {ds:List D}
def xj1 (ks:List Str) (ds:List D) (ta:TD):TD:=fun rho n P=>ta rho n fun d n1=>∃ x,d = .str x /\ P (.bl (atS ks ds x).isSome) n1
@[simp] theorem zY7 {ta:TD} {rho:Rho} {n:Nat} {P:D -> Nat -> Prop}:xj1 ks ds ta rho n P = ta rho n fun d n1=>∃ x,d = .str x /\ P (.bl (atS ks ds x).isSome) n1:=rfl
def xb7 (ks:List Str) (ds:List D) (tb:TD):TD:=fun rho n P=>tb rho n fun d n1=>∃ x d',d = .str x /\ atS ks ds x = some d' /\ P d' n1
@[simp] theorem zY6 {tb:TD} {rho:Rho} {n:Nat} {P:D -> Nat -> Prop}:xb7 ks ds tb rho n P = tb rho n fun d n1=>∃ x d',d = .str x /\ atS ks ds x = some d' /\ P d' n1:=rfl
theorem zw9 (hG:zU7 X.w X.K X.mg g ks ds) (hK:X.K = A.K) (hb:PD A X b tb) (hs:xc2 b) (hg:Gl X g:=by rfl) (hd:(g == ("__debug__" : Str)) = false:=by decide):PD A X (.Subscript (.Name g p) b pos) (xb7 ks ds tb):=by
 with_unfolding_all
  exact (by
   obtain ⟨ad,o,es,ep,hmg,hsys,hk,hex,hdat,he⟩:=hG
   intro pins s σ H Q I h
   obtain ⟨rho,n,P,ds',vs,J0,ht,hQ⟩:=h
   refine zi5 PySem.F.slot_dict_getitem.lookup hs (thn (Kh (v:=.ref ad) hg hmg rfl hd pins s σ H (fun x H1=>x = .ref ad /\ H1 = H) I ⟨rfl,rfl⟩) fun u s1 ⟨x,H1,I1,rx,e1,e2⟩=>?_)
   subst e1 e2
   cases rx
   refine thn (hb pins s1 σ _ (fun y H2=>∃ n' d' k,y = .str k /\ Am A n' rho σ H2 (.str k :: ds') (y :: vs) /\ atS ks ds k = some d' /\ P d' n') I1 ⟨rho,n,_,ds',vs,J0,ht,fun v H' n' d J k=>?_⟩) fun iv s2 ⟨y,H2,I2,ry,n',d',k,ey,J,hat,hP⟩=>?_
   ·obtain ⟨x, d', rfl, hat, k⟩ := k
    obtain ⟨os,J⟩:=J
    have e:=(J.pop.2).toS rfl
    exact ⟨n',d',x,e,⟨os,J⟩,hat,k⟩
   ·subst ey
    have hm:=zc9 (P:=X.prog) I2.kIn hk hex hdat he
    refine ⟨hm.typeIs,?_⟩
    have hf:=Xs he k
    rw [hat] at hf
    obtain ⟨u,v,h1,h2,h3⟩:=hf
    refine wpAny_getItem_of (knd:=yS X.prog X.w) (k:=.inr k) (zS4 (k:=.inr k) ry) hm (by rw [Jl]; exact h1) ?_
    obtain ⟨os,J⟩:=J
    exact ⟨v,H2,I2.tok _,h2,hQ v H2 n' d' ⟨os,J.pop.1.push (by rw [<- hK]; exact h3 _ _ _)⟩ hP⟩)
end
end L2
set_option maxRecDepth 100000
set_option maxHeartbeats 1000000
namespace K46
open PySem L2 PySem.Spec PyProof.Rows
def top (i:Nat):Stmt:=PySem.Challenge.pw_boxlayers_k46_other_covers_taken.main.body.getD i (.Pass ⟨0,0,0,0⟩)
abbrev End:=Option (Int × Bool)
abbrev XG:=End × End
def yY:End -> D
 | none=>.non
 | some (n,s)=>.tup [.int n,.bl s]
def Xu:Option Int -> D
 | none=>.non
 | some i=>.int i
def wG (s:XG):D:=.tup [yY s.1,yY s.2]
def xj (b:List XG):D:=.tup (b.map wG)
def xG (p:List Int):D:=.tup (p.map D.int)
def KS:End -> Option Int
 | none=>none
 | some (n,s)=>some (if s then n else n + 1)
def Ji:End -> Option Int
 | none=>none
 | some (n,s)=>some (if s then n else n - 1)
def Xi (lo hi:Option Int) (x:Int):Bool:=(match lo with | none=>true | some l=>decide (l <= x)) && (match hi with | none=>true | some g=>decide (x <= g))
@[simp] theorem zH7:yY none = .non:=rfl
@[simp] theorem zH6 {n:Int} {s:Bool}:yY (some (n,s)) = .tup [.int n,.bl s]:=rfl
theorem YZ (e:End):zu (yY e) = true:=by rcases e with _ | ⟨n,s⟩ <;> rfl
section
variable {P:Program} {w:World} {K:PySem.W.Frag} {mg:Str -> Option Value} {base:Heap}
abbrev yb:Stmt:=top 6
abbrev Uq:List Str:=["low", "number", "shut"]
theorem sc_least_of:FnScope Uq ["low"] (zg yb):=⟨rfl,rfl,rfl,by decide +kernel,rfl,by decide +kernel,by decide +kernel⟩
def kE:TF:=fun ds n Q=>∃ e:End,ds = [yY e] /\ Q (Xu (KS e)) n
theorem Wr {f:Addr} {fd:FuncData} (F:Fun K "least_of" "least_of" yb f fd):FnOk P w K mg base CX0 1 f fd ["low"] (spD K 1 kE):=by
 refine Fun.okD F sc_least_of (fun cdv A0 outer s H E G Z hr=>(zf (zX (zt wu wr (zc 0) zT (zv _)) (zh (zk zT)) zB)
  (zf (vc (m:=3) (zc 0) (xI (k:=2) rfl rfl (zp (zj (i:=1) sc_least_of.nd rfl (lo rfl) (by decide)) (zp (zj (i:=2) sc_least_of.nd rfl (lo rfl) (by decide)) xm))))
  (zh (zk (qm (wl (zc 2)) (zc 1) (wP (zc 1) ze))))))) ?_
 rintro ds n Q hl ⟨e,rfl,q⟩
 rcases e with _ | ⟨m,s⟩
 ·simp [startD, yY]
  exact q
 ·cases s <;> (simp [startD,yY]; exact q)
abbrev xz:Stmt:=top 7
abbrev Ye:List Str:=["high", "number", "shut"]
theorem sc_greatest_of:FnScope Ye ["high"] (zg xz):=⟨rfl,rfl,rfl,by decide +kernel,rfl,by decide +kernel,by decide +kernel⟩
def yL:TF:=fun ds n Q=>∃ e:End,ds = [yY e] /\ Q (Xu (Ji e)) n
theorem jF {f:Addr} {fd:FuncData} (F:Fun K "greatest_of" "greatest_of" xz f fd):FnOk P w K mg base CX0 1 f fd ["high"] (spD K 1 yL):=by
 refine Fun.okD F sc_greatest_of (fun cdv A0 outer s H E G Z hr=>(zf (zX (zt wu wr (zc 0) zT (zv _)) (zh (zk zT)) zB)
  (zf (vc (m:=3) (zc 0) (xI (k:=2) rfl rfl (zp (zj (i:=1) sc_greatest_of.nd rfl (lo rfl) (by decide)) (zp (zj (i:=2) sc_greatest_of.nd rfl (lo rfl) (by decide)) xm))))
  (zh (zk (qm (wl (zc 2)) (zc 1) (jU (zc 1) ze))))))) ?_
 rintro ds n Q hl ⟨e,rfl,q⟩
 rcases e with _ | ⟨m,s⟩
 ·simp [startD, yY]
  exact q
 ·cases s <;> (simp [startD,yY]; exact q)
abbrev yE:Stmt:=top 10
abbrev Qe:List Str:=["span", "low", "high"]
theorem sc_pair_of:FnScope Qe ["span"] (zg yE):=⟨rfl,rfl,rfl,by decide +kernel,rfl,by decide +kernel,by decide +kernel⟩
def qJ:TF:=fun ds n Q=>∃ s:XG,ds = [wG s] /\ Q (.tup [Xu (KS s.1),Xu (Ji s.2)]) n
theorem VT {f:Addr} {fd:FuncData} (F:Fun K "pair_of" "pair_of" yE f fd) (F_least_of:Fn P w K mg base "least_of" 1 1 kE) (F_greatest_of:Fn P w K mg base "greatest_of" 1 1 yL):FnOk P w K mg base CX0 2 f fd ["span"] (spD K 1 qJ):=by
 refine Fun.okD F sc_pair_of (fun cdv A0 outer s H E G Z hr=>(zf (vc (m:=3) (zc 0) (xI (k:=2) rfl rfl (zp (zj (i:=1) sc_pair_of.nd rfl (lo rfl) (by decide)) (zp (zj (i:=2) sc_pair_of.nd rfl (lo rfl) (by decide)) xm))))
  (zh (zk (zL (zb (zy F_least_of (hr.mono (by decide)) rfl (zb (zc 1) zd)) (zb (zy F_greatest_of (hr.mono (by decide)) rfl (zb (zc 2) zd)) zd))))))) ?_
 rintro ds n Q hl ⟨s,rfl,q⟩
 simp [startD,wG,YZ]
 exact ⟨s.1,rfl,s.2,rfl,q⟩
end
end K46
set_option maxRecDepth 100000
set_option maxHeartbeats 1000000
namespace K46
open PySem L2 PySem.Spec PyProof.Rows
theorem zk6 {es:List D} {k:Int} {R:D -> Prop} (h0:0 <= k) (h1:k < es.length) (h:∀ d ∈ es,R d):ql (.lst es) (.int k) R:=by
 obtain ⟨d,e,m⟩:=JY h0 h1
 exact q_rdIxL.mpr ⟨d,e,h d m⟩
theorem YM {js:List Int} {k:Int} {R:D -> Prop} (lo hi:Int) (h0:0 <= k) (h1:k < js.length) (hb:∀ j ∈ js,lo <= j /\ j <= hi) (h:∀ j:Int,lo <= j -> j <= hi -> R (.int j)):ql (.lst (js.map D.int)) (.int k) R:=by
 refine zk6 h0 (by simpa using h1) fun d hd=>?_
 obtain ⟨j,hj,rfl⟩:=List.mem_map.mp hd
 exact h j (hb j hj).1 (hb j hj).2
theorem kJ (c:Nat):(Wm 0 c).length = c:=by unfold Wm; rw [List.length_map,List.length_range]
theorem WV {c i:Nat} {d:D} (h:(Wm 0 c)[i]? = some d):i < c /\ d = .int (i:Int):=by
 have hi:i < c:=by have:=(List.getElem?_eq_some_iff.mp h).1; rw [kJ] at this; exact this
 refine ⟨hi,?_⟩
 unfold Wm at h
 rw [List.getElem?_map,List.getElem?_range hi] at h
 have:=Option.some.inj h
 rw [<- this]
 simp
theorem JI {own:Nat} {g:TGD} {te:TD} {rho:Rho} {P:D -> Nat -> Prop} (items:List D) (n1:Nat) (Good:D -> D -> Prop) (hz:items.length <= sizeLine)
  (he:∀ (i:Nat) (d:D),items[i]? = some d -> ∀ Q:D -> Nat -> Prop,(∀ e,Good d e -> Q e n1) -> g d (List.replicate own none ++ rho) fun rho'=>rho'.drop own = rho /\ te rho' n1 Q)
  (hP:∀ es,Paired Good items es -> P (.lst es) n1):Vt own g zD0 te rho P items n1:=by
 refine ⟨hz,fun i acc n=>Paired Good (items.take i) acc /\ n = n1,⟨.nil,rfl⟩,?_,?_⟩
 ·rintro i d acc n e ⟨h1, rfl⟩
  refine he i d e (fun e n3=>Paired Good (items.take (i + 1)) (acc ++ [e]) /\ n3 = n) fun c hg=>⟨?_,rfl⟩
  rw [List.take_add_one,e]
  exact Paired.snoc h1 hg
 ·rintro acc n ⟨h1, rfl⟩
  rw [List.take_length] at h1
  exact hP acc h1
section
variable {P:Program} {w:World} {K:PySem.W.Frag} {mg:Str -> Option Value} {base:Heap}
abbrev wF:Stmt:=top 40
abbrev WN:List Str:=["_law_script", "_law_k", "_law_cell", "_law_digits"]
theorem sc__law_left:FnScope WN ["_law_script", "_law_k"] (zg wF):=⟨rfl,rfl,rfl,by decide +kernel,rfl,by decide +kernel,by decide +kernel⟩
def UH:TF:=fun ds n Q=>∃ (ns:List Int) (j:Int),ds = [zK ns,.int j] /\ ns.length <= 63 /\ 0 <= j /\ j < 1000 /\ ∀ x y:Int,0 <= x -> 0 <= y -> y < 2147483647 -> Q (.lst [.int x,.int y,.int 0]) n
theorem zm2 {f:Addr} {fd:FuncData} (T:Blt mg) (F:Fun K "_law_left" "_law_left" wF f fd):FnOk P w K mg base CX0 1 f fd ["_law_script", "_law_k"] (spD K 2 UH):=by
 refine Fun.okD F sc__law_left (fun cdv A0 outer s H E G Z hr=>(zf (zF (i:=2) sc__law_left.nd rfl (lo rfl) ze)
  (zf (zX (zt qY qR (zw zI wQ T.len wL (zb (zc 0) zd)) ze (zv _)) (zh (zF (i:=2) sc__law_left.nd rfl (lo rfl) (zE zn zD (zc 0) (yq (zc 1) (zw zI wQ T.len wL (zb (zc 0) zd))) (fun _ _=>rfl)))) zB)
  (zf (zF (i:=3) sc__law_left.nd rfl (lo rfl) (yW (yq (zw Vx zh0 T.abs zh6 (zb (zc 2) zd)) (YO ze ze)) (zW kw ZT T.int XB (zb (wJ zx7 zt0 (zw Vx zh0 T.abs zh6 (zb (zc 2) zd)) (YO ze ze) (zv _)) zd))))
  (zh (zk (wm (zb (zc 3) (zb (yq (yW (wP (wP (yq (zc 2) ze) (yW (yW ze (zc 1)) (zc 1))) ze) ze) ze) (zb ze zd)))))))))) ?_
 rintro ds n Q hl ⟨ns,j,rfl,hns,hj0,hj1,q⟩
 have cm:∀ {i j:Int},(-(2 ^ 64) < i /\ i < 2 ^ 64) -> CMul i j:=fun h=>.inl h
 have cm':∀ {i j:Int},(-(2 ^ 64) < j /\ j < 2 ^ 64) -> CMul i j:=fun h=>.inr h
 have h7:0 <= 7919 * j * j:=Int.mul_nonneg (by lia) hj0
 have h8:7919 * j * j <= 7919 * j * 1000:=Int.mul_le_mul_of_nonneg_left (by lia) (by lia)
 generalize hS:XT (WT 3 _) _ = S
 have cont:∀ (x:Int) (F:EndsD),F.rt = Q -> S F [some (zK ns),some (.int j),some (.int x),none] n:=fun x F hF=>by
  subst hS
  simp [hF]
  have ab:0 <= (if x < 0 then -x else x):=by split <;> lia
  have b1:∀ c:Prop,[Decidable c] -> (0:Int) <= (if c then 1 else 0) /\ (if c then 1 else 0) < (2:Int):=fun c _=>by split <;> lia
  refine ⟨⟨by decide,by decide,by decide⟩,⟨by decide,by decide,by decide⟩,cm' ⟨?_,?_⟩,cm ⟨by decide,by decide⟩,cm ⟨by lia,by lia⟩,cm' ⟨by decide,by decide⟩,q _ _ (Int.mul_nonneg (Int.emod_nonneg _ (by decide)) (b1 _).1) (Int.emod_nonneg _ (by decide)) (Int.emod_lt_of_pos _ (by decide))⟩
  ·have:=(b1 (1000000000000000000 <= if x < 0 then -x else x)).1; lia
  ·have:=(b1 (1000000000000000000 <= if x < 0 then -x else x)).2; lia
 simp [startD,zK]
 split
 ·rename_i h
  refine ⟨by lia,?_⟩
  obtain ⟨d,e,m⟩:=JY (xs:=ns.map D.int) (i:=j % ns.length) (Int.emod_nonneg _ (by lia)) (by simpa using Int.emod_lt_of_pos j (by lia))
  obtain ⟨x,_,rfl⟩:=List.mem_map.mp m
  exact ⟨_,e,cont x _ rfl⟩
 ·exact cont 0 _ rfl
abbrev wE:Stmt:=top 41
abbrev WM:List Str:=["_law_left_here", "_law_many", "_law_digit"]
theorem sc__law_pick:FnScope WM ["_law_left_here", "_law_many"] (zg wE):=⟨rfl,rfl,rfl,by decide +kernel,rfl,by decide +kernel,by decide +kernel⟩
def vM:TF:=fun ds n Q=>∃ m:Int,ds = [.st,.int m] /\ n = 3 /\ 0 < m /\ m < 10000000 /\ ∀ k:Int,0 <= k -> k < m -> Q (.int k) n
theorem zl9 {f:Addr} {fd:FuncData} (F:Fun K "_law_pick" "_law_pick" wE f fd):FnOk P w K mg base CX0 1 f fd ["_law_left_here", "_law_many"] (spD K 2 vM):=by
 refine Fun.okD F sc__law_pick (fun cdv A0 outer s H E G Z hr=>(zf (zX (zt qY qR (vg (i:=0) ze (fun _ _=>rfl)) ze (zv _)) (zf (zF (i:=2) sc__law_pick.nd rfl (lo rfl) (yq (vg (i:=0) ze (fun _ _=>rfl)) (zc 1)))
  (zf (qU (i:=0) (qi (vg (i:=0) ze (fun _ _=>rfl)) (zc 1)) ze)
  (zh (zk (zc 2))))) zB)
  (zf (qU (i:=0) (wP (vg (i:=0) ze (fun _ _=>rfl)) ze) ze)
  (zf (qU (i:=0) (yq (wP (wP (yW (vg (i:=0) ze (fun _ _=>rfl)) ze) ze) (vg (i:=0) ze (fun _ _=>rfl))) ze) ze)
  (zh (zk (yq (qi (yq (yW (vg (i:=0) ze (fun _ _=>rfl)) (vg (i:=0) ze (fun _ _=>rfl))) ze) ze) (zc 1)))))))) ?_
 rintro ds n Q hl ⟨m,rfl,rfl,hm,hm2,q⟩
 have cm:∀ {i j:Int},(-(2 ^ 64) < i /\ i < 2 ^ 64) -> CMul i j:=fun h=>.inl h
 simp [startD]
 intro z0 h0
 split
 ·intro z hz
  exact ⟨hm,fun z1 hz1=>⟨⟨hm,by lia⟩,Int.ediv_nonneg hz1 (by lia),q _ (Int.emod_nonneg _ (by lia)) (Int.emod_lt_of_pos _ hm)⟩⟩
 ·intro z hz
  refine ⟨by lia,fun y hy hy2=>⟨cm ⟨by lia,by lia⟩,fun x hx=>⟨Int.emod_nonneg _ (by decide),Int.emod_lt_of_pos _ (by decide),fun y hy hy2 z1 h1 h1'=>⟨cm ⟨by lia,by lia⟩,⟨by decide,by decide⟩,hm,q _ (Int.emod_nonneg _ (by lia)) (Int.emod_lt_of_pos _ hm)⟩⟩⟩⟩
theorem zx {m:Int} {Q:D -> Nat -> Prop} (h0:0 < m) (h1:m < 10000000) (h:∀ k:Int,0 <= k -> k < m -> Q (.int k) 3):vM [.st,.int m] 3 Q:=⟨m,rfl,rfl,h0,h1,h⟩
end
end K46
set_option maxRecDepth 100000
set_option maxHeartbeats 1000000
namespace K46
open PySem L2 PySem.Spec PyProof.Rows
abbrev Thing:=Int × List Int × Int
def zM (t:Thing):D:=.tup [.int t.1,xG t.2.1,.int t.2.2]
def xb (d:Nat) (ts:List Thing):D:=.tup [.int d,.tup (ts.map zM)]
def Zw (x:Int):Prop:=-100000000000000000 <= x /\ x <= 100000000000000000
def zq5 (x:Int):Prop:=-100000000000000002 <= x /\ x <= 100000000000000002
structure GoodT (d:Nat) (ts:List Thing) (top:Int):Prop where
 each:∀ t ∈ ts,0 <= t.1 /\ t.1 < top /\ t.2.1.length = d /\ (∀ x ∈ t.2.1,Zw x) /\ Zw t.2.2
 up:ts.Pairwise fun a b=>a.1 < b.1
theorem GoodT.nil (d:Nat) (top:Int):GoodT d [] top:=⟨by simp,.nil⟩
theorem GoodT.snoc {d:Nat} {ts:List Thing} {x top:Int} (h:GoodT d ts x) (hx:0 <= x) (ht:x < top) {p:List Int} (hp:p.length = d) (hs:∀ x ∈ p,Zw x) {y:Int} (hy:Zw y):GoodT d (ts ++ [(x,p,y)]) top:=by
 refine ⟨fun t hm=>?_,?_⟩
 ·rcases List.mem_append.mp hm with hm | hm
  ·have := h.each t hm
   exact ⟨this.1,by lia,this.2.2⟩
  ·rw [List.mem_singleton.mp hm]; exact ⟨hx,ht,hp,hs,hy⟩
 ·rw [List.pairwise_append]
  refine ⟨h.up,by simp,fun a ha b hb=>?_⟩
  rw [List.mem_singleton.mp hb]
  exact (h.each a ha).2.1
theorem GoodT.more {d:Nat} {ts:List Thing} {x top:Int} (h:GoodT d ts x) (ht:x <= top):GoodT d ts top:=⟨fun t hm=>by have:=h.each t hm; exact ⟨this.1,by lia,this.2.2⟩,h.up⟩
theorem GoodT.nodup {d:Nat} {ts:List Thing} {x:Int} (h:GoodT d ts x):(ts.map fun t=>t.1).Nodup:=List.pairwise_map.mpr (h.up.imp fun {a b} h=>by lia)
theorem qj {S:Int -> Prop}:∀ {l es:List D},Paired (fun _ e=>∃ x:Int,S x /\ e = .int x) l es -> ∃ xs:List Int,es = xs.map D.int /\ ∀ x ∈ xs,S x
 | _,_,.nil=>⟨[],rfl,by simp⟩
 | _,_,.cons r t=>by
  obtain ⟨x,hx,rfl⟩:=r
  obtain ⟨xs,rfl,h⟩:=qj t
  exact ⟨x :: xs,rfl,fun y hy=>by rcases List.mem_cons.mp hy with rfl | hy; exact hx; exact h y hy⟩
theorem KG {a s:Int} (h1:-40 <= a) (h2:a <= 40) (h3:0 <= s) (h4:s <= 1000000000000000):Zw (a * s):=by
 have e1:=Int.mul_le_mul_of_nonneg_right h2 h3
 have e2:=Int.mul_le_mul_of_nonneg_right h1 h3
 exact ⟨by lia,by lia⟩
theorem KA (p:List Int) (k:Nat):okE (xG p) (k + 1) = true:=okE_tup.mpr fun d hd=>by
 obtain ⟨x,_,rfl⟩:=List.mem_map.mp hd
 exact yR
theorem Kz (t:Thing) (k:Nat):okE (zM t) (k + 2) = true:=by
 refine okE_tup.mpr fun d hd=>?_
 simp only [List.mem_cons,List.not_mem_nil,or_false] at hd
 rcases hd with rfl | rfl | rfl
 ·exact yR
 ·exact KA _ _
 ·exact yR
theorem Wu (ts:List Thing):okE (.lst (ts.map zM)) 20 = true:=okE_lst.mpr fun d hd=>by
 obtain ⟨t,_,rfl⟩:=List.mem_map.mp hd
 exact Kz t 17
structure JHs (d:Nat) (wd sc:Int) (i:Nat) (rho:Rho) (n:Nat):Prop where
 e:n = 3
 r:∃ (ts:List Thing) (x:Int) (a b c:Option D),ts.length = i /\ 0 <= x /\ x <= 2 + 41 * i /\ GoodT d ts x /\ rho = [some .st,some (.int d),some (.int wd),some (.int sc),some (.own (ts.map zM)),some (.int x),a,b,c]
section
variable {P:Program} {w:World} {K:PySem.W.Frag} {mg:Str -> Option Value} {base:Heap}
abbrev xZ:Stmt:=top 42
abbrev vy:List Str:=["_law_left_here", "_law_d", "_law_wide", "_law_scale", "_law_things", "_law_name", "_law_k", "_law_place", "_law_far"]
theorem sc__law_house:FnScope vy ["_law_left_here"] (zg xZ):=⟨rfl,rfl,rfl,by decide +kernel,rfl,by decide +kernel,by decide +kernel⟩
theorem jg:("_law_i" :: vy:List Str).Nodup:=by decide +kernel
def Wb:TF:=fun ds n Q=>ds = [.st] /\ n = 3 /\ ∀ (d:Nat) (ts:List Thing),1 <= d -> d <= 4 -> GoodT d ts 2000 -> ts.length <= 30 -> Q (xb d ts) 3
theorem za0 {f:Addr} {fd:FuncData} (T:Blt mg) (F:Fun K "_law_house" "_law_house" xZ f fd) (F__law_pick:Fn P w K mg base "_law_pick" 1 2 vM):FnOk P w K mg base CX0 2 f fd ["_law_left_here"] (spD K 1 Wb):=by
 refine Fun.okD F sc__law_house (fun cdv A0 outer s H E G Z hr=>(zf (zF (i:=1) sc__law_house.nd rfl (lo rfl) (zE zn zD (wm (zb ze (zb ze (zb ze (zb ze (zb ze (zb ze zd))))))) (zy F__law_pick (hr.mono (by decide)) rfl (zb (zc 0) (zb ze zd))) (fun _ _=>rfl)))
  (zf (vc (m:=9) (zL (zb (zE zn zD (wm (zb ze (zb ze (zb ze (zb ze (zb ze (zb ze zd))))))) (zy F__law_pick (hr.mono (by decide)) rfl (zb (zc 0) (zb ze zd))) (fun _ _=>rfl)) (zb (zE zn zD (wm (zb ze (zb ze (zb ze (zb (YO ze ze) zd))))) (zy F__law_pick (hr.mono (by decide)) rfl (zb (zc 0) (zb ze zd))) (fun _ _=>rfl)) zd))) (xI (k:=2) rfl rfl (zp (zj (i:=2) sc__law_house.nd rfl (lo rfl) (by decide)) (zp (zj (i:=3) sc__law_house.nd rfl (lo rfl) (by decide)) xm))))
  (zf (QL (i:=4) (j:=5) rfl sc__law_house.nd rfl rfl (by decide) rfl rfl (fun Z1 H1=>(zy F__law_pick (hr.mono (by decide)) rfl (zb (zc 0) (zb ze zd)))))
  (zf (wN (m:=9) PassesOwn.never rfl (yj T.range (zb (zE zn zD (wm (zb ze (zb ze (zb ze (zb ze (zb ze (zb ze (zb ze (zb ze (zb ze (zb ze zd))))))))))) (zy F__law_pick (hr.mono (by decide)) rfl (zb (zc 0) (zb ze zd))) (fun _ _=>rfl)) zd)) (zj (i:=6) sc__law_house.nd rfl (lo rfl) (by decide))
  (zf (zF (i:=7) sc__law_house.nd rfl (lo rfl) (zW zQ xN T.tuple xo (zb (xQ (own:=["_law_i"]) (M:=vy) (wg (by rfl)) rfl (yj T.range (zb (zc 1) zd)) (fun C s2 H2 fp=>(zj (i:=0) jg rfl (lo rfl) (by decide))) (fun C s2 H2 fp=>zZ) (fun C s2 H2 fp=>(yW (jU (zy F__law_pick (hr.mono (by decide)) rfl (zb (zc 1) (zb (wP (yW ze (zc 3)) ze) zd))) (zc 3)) (zc 4)))) zd)))
  (zf (zX (PWD.pt (wM (YK (i:=4) hr rfl) (wS (zt kQ kN (zy F__law_pick (hr.mono (by decide)) rfl (zb (zc 0) (zb ze zd))) ze (zv _))))) (zh (zF (i:=7) sc__law_house.nd rfl (lo rfl) (zE zn zD (QQ (i:=4) (zy F__law_pick (hr.mono (by decide)) rfl (zb (zc 0) (zb (qV (i:=4) T.len rfl) zd))) (fun _ _=>rfl)) ze (fun _ _=>rfl)))) zB)
  (zf (zF (i:=8) sc__law_house.nd rfl (lo rfl) (zE zn zD (wm (zb (YO ze ze) (zb (zf7 (YO ze ze)) zd))) (zy F__law_pick (hr.mono (by decide)) rfl (zb (zc 0) (zb ze zd))) (fun _ _=>rfl)))
  (zf (xr (i:=4) (zb (zL (zb (zc 5) (zb (zc 7) (zb (zE zn zD (wm (zb (jU (zy F__law_pick (hr.mono (by decide)) rfl (zb (zc 0) (zb ze zd))) ze) (zb (jU (zy F__law_pick (hr.mono (by decide)) rfl (zb (zc 0) (zb ze zd))) ze) (zb (zc 8) zd)))) (zy F__law_pick (hr.mono (by decide)) rfl (zb (zc 0) (zb ze zd))) (fun _ _=>rfl)) zd)))) zd) rfl)
  (zh (zF (i:=5) sc__law_house.nd rfl (lo rfl) (wP (wP (zc 5) ze) (zE zn zD (wm (zb ze (zb ze (zb ze (zb ze (zb ze zd)))))) (zy F__law_pick (hr.mono (by decide)) rfl (zb (zc 0) (zb ze zd))) (fun _ _=>rfl))))))))))
  (zh (vd 4 (zk (zL (zb (zc 1) (zb (zW zQ xN T.tuple xo (zb (zc 4) zd)) zd))))))))))) ?_
 rintro ds n Q hl ⟨rfl,rfl,q⟩
 simp [startD]
 refine zx (by decide) (by decide) fun k h0 h1=>YM (js:=[1,2,2,3,3,4]) 1 4 h0 (by simpa using h1) (by decide) fun dd hd1 hd4=>?_
 obtain ⟨d,rfl⟩:=Int.eq_ofNat_of_zero_le (show 0 <= dd by lia)
 refine zx (by decide) (by decide) fun k2 h2 h3=>YM (js:=[1,2,3,5,9,40]) 1 40 h2 (by simpa using h3) (by decide) fun wd hw1 hw2=>⟨⟨by decide,by decide,by decide⟩,?_⟩
 refine zx (by decide) (by decide) fun k3 h4 h5=>YM (js:=[1,1,3,1000000000000000]) 1 1000000000000000 h4 (by simpa using h5) (by decide) fun sc hs1 hs2=>⟨rfl,?_⟩
 refine zx (by decide) (by decide) fun x0 hx00 hx01=>⟨zP (by decide),?_⟩
 refine zx (by decide) (by decide) fun k4 h6 h7=>YM (js:=[0,1,2,3,4,6,8,12,20,30]) 0 30 h6 (by simpa using h7) (by decide) fun c hc0 hc1=>?_
 refine ⟨c,rfl,by lia,by lia,JHs d wd sc,⟨rfl,[],x0,none,none,none,rfl,hx00,by lia,GoodT.nil d _,rfl⟩,?_,?_⟩
 ·rintro i d' rho n' e ⟨rfl, ts, x, u, v, z, hlt, hx0, hx1, hg, rfl⟩
  obtain ⟨hi,rfl⟩:=WV e
  generalize hS:XT (WT 8 _) _ = S
  have cont:∀ (p:List Int) (F:EndsD),F.nx = JHs d wd sc (i + 1) -> p.length = d -> (∀ y ∈ p,Zw y) ->
    S F [some .st,some (.int d),some (.int wd),some (.int sc),some (.own (ts.map zM)),some (.int x),some (.int i),some (xG p),z] 3:=fun p F hF hp hps=>by
   subst hS
   have np:zu (xG p) = true:=id rfl
   simp [np,hF]
   refine ⟨⟨by decide,by decide,by decide⟩,zx (by decide) (by decide) fun j1 g0 g1=>YM (js:=[100000000000000000,-100000000000000000]) (-100000000000000000) 100000000000000000 g0 (by simpa using g1) (by decide) fun fr hf0 hf1=>⟨lt_size (by lia),?_⟩⟩
   refine zx (by decide) (by decide) fun w1 g2 g3=>?_
   simp
   refine zx (by decide) (by decide) fun w2 g4 g5=>?_
   simp
   refine zx (by decide) (by decide) fun w3 g6 g7=>?_
   have hpk:∀ R:D -> Prop,(∀ y:Int,Zw y -> R (.int y)) -> ql (.lst [.int (w1 - 2),.int (w2 - 500),.int fr]) (.int w3) R:=fun R hR=>zk6 g6 (by simpa using g7) fun dd hdd=>by
    simp only [List.mem_cons,List.not_mem_nil,or_false] at hdd
    rcases hdd with rfl | rfl | rfl
    ·exact hR _ ⟨by lia,by lia⟩
    ·exact hR _ ⟨by lia,by lia⟩
    ·exact hR _ ⟨by lia,by lia⟩
   refine hpk _ fun y hy=>?_
   refine zx (by decide) (by decide) fun w4 g8 g9=>YM (js:=[0,0,1,7,40]) 0 40 g8 (by simpa using g9) (by decide) fun m hm0 hm1=>?_
   simp
   exact ⟨rfl,ts ++ [(x,p,y)],x + 1 + m,_,_,_,by simp [hlt],by lia,by lia,hg.snoc hx0 (by lia) hp hps hy,by rw [List.map_append]; rfl⟩
  simp
  refine ⟨by lia,JI (Wm 0 d) 3 (fun _ e=>∃ x:Int,Zw x /\ e = .int x) (by rw [kJ]; exact zP (by lia)) (fun j d2 e2 Q' hQ'=>?_) (fun es hp=>?_)⟩
  ·simp
   refine ⟨.inl ⟨by decide,by decide⟩,zx (by lia) (by lia) fun k g0 g1=>?_⟩
   simp
   exact ⟨.inl ⟨by lia,by lia⟩,hQ' _ ⟨_,KG (by lia) (by lia) (by lia) hs2,rfl⟩⟩
  ·have hlen := hp.length
   rw [kJ] at hlen
   obtain ⟨ps,rfl,hps⟩:=qj hp
   rw [List.length_map] at hlen
   simp
   refine ⟨Wu ts,?_⟩
   split
   ·exact cont ps _ rfl (by lia) hps
   ·rename_i hne
    have hpos:0 < ts.length:=by
     cases ts with
     | nil=>exact absurd rfl hne
     | cons t r=>simp
    refine zx (by decide) (by decide) fun k g0 g1=>?_
    simp
    split
    ·refine zx (by lia) (by lia) fun k4 g5 g6 => ?_
     obtain ⟨y,ey,my⟩:=JY (xs:=ts.map zM) (i:=k4) g5 (by simp; lia)
     obtain ⟨⟨y1,p1,w1⟩,ht',rfl⟩:=List.mem_map.mp my
     have he:=hg.each _ ht'
     refine ⟨_,rfl,_,ey,?_⟩
     refine ⟨_,_,xG p1,.inr (.inl rfl),rfl,rfl,?_⟩
     exact cont p1 _ rfl he.2.2.1 he.2.2.2.1
    ·exact cont ps _ rfl (by lia) hps
 ·rintro rho n' ⟨rfl, ts, x, u, v, z, hlt, hx0, hx1, hg, rfl⟩
  rw [kJ] at hlt hx1
  simp
  exact q d ts (by lia) (by lia) (hg.more (by lia)) (by lia)
theorem Vr {d:Nat} {ts:List Thing} {R:D -> Prop} (h:R (.int d)):ql (xb d ts) (.int 0) R:=⟨_,0,_,.inr (.inl rfl),rfl,rfl,h⟩
theorem Je {d:Nat} {ts:List Thing} {R:D -> Prop} (h:R (.tup (ts.map zM))):ql (xb d ts) (.int 1) R:=⟨_,1,_,.inr (.inl rfl),rfl,rfl,h⟩
theorem vI (d:Nat) (ts:List Thing):zu (xb d ts) = true:=id rfl
abbrev xC:Stmt:=top 43
abbrev yU:List Str:=["_law_left_here", "_law_house_here", "_law_i", "_law_numbers"]
theorem sc__law_number:FnScope yU ["_law_left_here", "_law_house_here", "_law_i"] (zg xC):=⟨rfl,rfl,rfl,by decide +kernel,rfl,by decide +kernel,by decide +kernel⟩
theorem qo:("_law_thing" :: yU:List Str).Nodup:=by decide +kernel
def qv:TF:=fun ds n Q=>∃ (d i:Nat) (ts:List Thing),ds = [.st,xb d ts,.int i] /\ n = 3 /\ i < d /\ GoodT d ts 2000 /\ ts.length <= 30 /\ ∀ x:Int,zq5 x -> Q (.int x) 3
theorem Kq {f:Addr} {fd:FuncData} (T:Blt mg) (F:Fun K "_law_number" "_law_number" xC f fd) (F__law_pick:Fn P w K mg base "_law_pick" 1 2 vM):FnOk P w K mg base CX0 2 f fd ["_law_left_here", "_law_house_here", "_law_i"] (spD K 3 qv):=by
 refine Fun.okD F sc__law_number (fun cdv A0 outer s H E G Z hr=>(zf (zF (i:=3) sc__law_number.nd rfl (lo rfl) (vh Ko UU (xQ (own:=["_law_thing"]) (M:=yU) (wg (by rfl)) rfl (xn rfl (zE zn zD (zc 1) ze (fun _ _=>rfl))) (fun C s2 H2 fp=>(zj (i:=0) qo rfl (lo rfl) (by decide))) (fun C s2 H2 fp=>zZ) (fun C s2 H2 fp=>(zE zn zD (zE zn zD (zc 0) ze (fun _ _=>rfl)) (zc 3) (fun _ _=>rfl)))) (wm (zb ze zd))))
  (zh (zk (wP (zE zn zD (zc 3) (zy F__law_pick (hr.mono (by decide)) rfl (zb (zc 0) (zb (zw zI wQ T.len wL (zb (zc 3) zd)) zd))) (fun _ _=>rfl)) (zE zn zD (wm (zb ze (zb ze (zb ze (zb ze (zb (zf7 ze) (zb ze zd))))))) (zy F__law_pick (hr.mono (by decide)) rfl (zb (zc 0) (zb ze zd))) (fun _ _=>rfl))))))) ?_
 rintro ds n Q hl ⟨d,i,ts,rfl,rfl,hi,hg,hz,q⟩
 have nh:=vI d ts
 simp [startD,nh]
 refine Je ?_
 simp
 refine zS zM (fun t=>.int (t.2.1[i]?.getD 0)) ts (zP (by lia)) (fun t ht R hR=>?_) ?_
 ·have nt : zu (zM t) = true := id rfl
  have he:=hg.each t ht
  simp [nt]
  refine ⟨_,1,_,.inr (.inl rfl),rfl,rfl,?_⟩
  exact ⟨_,_,_,.inr (.inl rfl),rfl,yT (by rw [List.getElem?_map,List.getElem?_eq_getElem (by lia)]; rfl),by simpa [List.getElem?_eq_getElem (show i < t.2.1.length by lia)] using hR⟩
 ·simp
  refine ⟨zP (by lia),zx (by lia) (by lia) fun k h0 h1=>zk6 h0 (by simpa using h1) fun dd hdd=>?_⟩
  obtain ⟨x,hx,rfl⟩:∃ x:Int,Zw x /\ dd = .int x:=by
   rcases List.mem_append.mp hdd with h | h
   ·obtain ⟨t, ht, rfl⟩ := List.mem_map.mp h
    have he:=hg.each t ht
    refine ⟨_,?_,rfl⟩
    rw [List.getElem?_eq_getElem (show i < t.2.1.length by lia)]
    exact he.2.2.2.1 _ (List.getElem_mem _)
   ·rw [List.mem_singleton.mp h]; exact ⟨0,⟨by lia,by lia⟩,rfl⟩
  refine zx (by decide) (by decide) fun k2 h2 h3=>YM (js:=[0,0,0,1,-1,2]) (-1) 2 h2 (by simpa using h3) (by decide) fun m hm0 hm1=>?_
  simp
  obtain ⟨hx1,hx2⟩:=hx
  exact q _ ⟨by lia,by lia⟩
theorem qk {d i:Nat} {ts:List Thing} {Q:D -> Nat -> Prop} (hi:i < d) (hg:GoodT d ts 2000) (hz:ts.length <= 30) (h:∀ x:Int,zq5 x -> Q (.int x) 3):qv [.st,xb d ts,.int i] 3 Q:=⟨d,i,ts,rfl,rfl,hi,hg,hz,h⟩
def zm7 (e:End):Prop:=∀ x s,e = some (x,s) -> zq5 x
def zz1 (b:List XG):Prop:=∀ s ∈ b,zm7 s.1 /\ zm7 s.2
structure JBx (d:Nat) (ts:List Thing) (i:Nat) (rho:Rho) (n:Nat):Prop where
 e:n = 3
 r:∃ (b:List XG) (u v y z:Option D),b.length = i /\ zz1 b /\ rho = [some .st,some (xb d ts),some (.own (b.map wG)),u,v,y,z]
abbrev ye:Stmt:=top 44
abbrev Ut:List Str:=["_law_left_here", "_law_house_here", "_law_spans", "_law_i", "_law_one", "_law_other", "_law_low"]
theorem sc__law_box:FnScope Ut ["_law_left_here", "_law_house_here"] (zg ye):=⟨rfl,rfl,rfl,by decide +kernel,rfl,by decide +kernel,by decide +kernel⟩
def zi1:TF:=fun ds n Q=>∃ (d:Nat) (ts:List Thing),ds = [.st,xb d ts] /\ n = 3 /\ d <= 4 /\ GoodT d ts 2000 /\ ts.length <= 30 /\ ∀ b:List XG,b.length = d -> zz1 b -> Q (xj b) 3
theorem Vd {x k:Int} {R:D -> Prop} (hx:zq5 x) (h0:0 <= k) (h1:k < 4) (h:∀ e:End,zm7 e -> R (yY e)):ql (.lst [.non,.tup [.int x,.bl true],.tup [.int x,.bl false],.tup [.int x,.bl true]]) (.int k) R :=
 zk6 h0 (by simpa using h1) fun dd hdd=>by
  simp only [List.mem_cons,List.not_mem_nil,or_false] at hdd
  rcases hdd with rfl | rfl | rfl | rfl
  ·exact h none fun x s e=>by cases e
  ·exact h (some (x,true)) fun x s e=>by cases e; exact hx
  ·exact h (some (x,false)) fun x s e=>by cases e; exact hx
  ·exact h (some (x,true)) fun x s e=>by cases e; exact hx
theorem zy3 {f:Addr} {fd:FuncData} (T:Blt mg) (F:Fun K "_law_box" "_law_box" ye f fd) (F__law_pick:Fn P w K mg base "_law_pick" 1 2 vM) (F__law_number:Fn P w K mg base "_law_number" 2 3 qv):FnOk P w K mg base CX0 3 f fd ["_law_left_here", "_law_house_here"] (spD K 2 zi1):=by
 refine Fun.okD F sc__law_box (fun cdv A0 outer s H E G Z hr=>(zf (kO (i:=2) sc__law_box.nd rfl (lo rfl) zd)
  (zf (wN (m:=7) PassesOwn.never rfl (yj T.range (zb (zE zn zD (zc 1) ze (fun _ _=>rfl)) zd)) (zj (i:=3) sc__law_box.nd rfl (lo rfl) (by decide))
  (zf (Vb (i:=4) (j:=5) rfl sc__law_box.nd rfl rfl (by decide) rfl rfl (zb (zy F__law_number (hr.mono (by decide)) rfl (zb (zc 0) (zb (zc 1) (zb (zc 3) zd)))) (zb (zy F__law_number (hr.mono (by decide)) rfl (zb (zc 0) (zb (zc 1) (zb (zc 3) zd)))) zd)))
  (zf (zX (PWD.pt (wM (zt qY qR (zc 4) (zc 5) (zv _)) (wS (zt qY qR (zy F__law_pick (hr.mono (by decide)) rfl (zb (zc 0) (zb ze zd))) ze (zv _))))) (zh (Vb (i:=4) (j:=5) rfl sc__law_box.nd rfl rfl (by decide) rfl rfl (zb (zc 5) (zb (zc 4) zd)))) zB)
  (zf (zF (i:=6) sc__law_box.nd rfl (lo rfl) (zE zn zD (wm (zb zT (zb (zL (zb (zc 4) (zb wT zd))) (zb (zL (zb (zc 4) (zb wT zd))) (zb (zL (zb (zc 4) (zb wT zd))) zd))))) (zy F__law_pick (hr.mono (by decide)) rfl (zb (zc 0) (zb ze zd))) (fun _ _=>rfl)))
  (zh (xr (i:=2) (zb (zL (zb (zc 6) (zb (zE zn zD (wm (zb zT (zb (zL (zb (zc 5) (zb wT zd))) (zb (zL (zb (zc 5) (zb wT zd))) (zb (zL (zb (zc 5) (zb wT zd))) zd))))) (zy F__law_pick (hr.mono (by decide)) rfl (zb (zc 0) (zb ze zd))) (fun _ _=>rfl)) zd))) zd) rfl))))))
  (zh (vd 2 (zk (zW zQ xN T.tuple xo (zb (zc 2) zd)))))))) ?_
 rintro ds n Q hl ⟨d,ts,rfl,rfl,hd4,hg,hz,q⟩
 have nh:=vI d ts
 simp [startD,nh]
 refine Vr ?_
 refine ⟨d,rfl,by lia,by lia,JBx d ts,⟨rfl,[],none,none,none,none,rfl,fun s hs=>by simp at hs,rfl⟩,?_,?_⟩
 ·rintro i d' rho n' e ⟨rfl, b, u, v, y, z, hb, hn, rfl⟩
  obtain ⟨hi,rfl⟩:=WV e
  replace hi:i < d:=by simpa using hi
  generalize hS:XT (WT 6 _) _ = S
  have cont:∀ (x1 x2:Int) (F:EndsD),F.nx = JBx d ts (i + 1) -> zq5 x1 -> zq5 x2 ->
    S F [some .st,some (xb d ts),some (.own (b.map wG)),some (.int i),some (.int x1),some (.int x2),z] 3:=fun x1 x2 F hF h1 h2=>by
   subst hS
   simp [hF]
   refine zx (by decide) (by decide) fun k g0 g1=>Vd h1 g0 g1 fun e1 n1=>?_
   have no1:=YZ e1
   simp [no1]
   refine ⟨lt_size (by lia),zx (by decide) (by decide) fun k g0 g1=>Vd h2 g0 g1 fun e2 n2=>?_⟩
   refine ⟨rfl,b ++ [(e1,e2)],_,_,_,_,by simp [hb],fun s hs=>?_,by rw [List.map_append]; rfl⟩
   rcases List.mem_append.mp hs with h | h
   ·exact hn s h
   ·rw [List.mem_singleton.mp h]; exact ⟨n1,n2⟩
  simp [nh]
  refine qk hi hg hz fun x1 hx1=>?_
  refine qk hi hg hz fun x2 hx2=>?_
  simp
  split
  ·refine zx (by decide) (by decide) fun k g0 g1 => ?_
   simp
   split
   ·exact cont x2 x1 _ rfl hx2 hx1
   ·exact cont x1 x2 _ rfl hx1 hx2
  ·exact cont x1 x2 _ rfl hx1 hx2
 ·rintro rho n' ⟨rfl, b, u, v, y, z, hb, hn, rfl⟩
  rw [kJ] at hb
  simp
  exact q b (by simpa using hb) hn
end
end K46
set_option maxRecDepth 100000
set_option maxHeartbeats 1000000
namespace K46
open PySem L2 PySem.Spec PyProof.Rows
abbrev Pair:=Option Int × Option Int
def zr (p:Pair):D:=.tup [Xu p.1,Xu p.2]
def zi (ps:List Pair):D:=.tup (ps.map zr)
def crossedT:Pair -> Bool
 | (some l,some g)=>decide (g < l)
 | _=>false
def emptyP:Pair:=(some 1,some 0)
def zN (ps:List Pair):List Pair:=if ps.any crossedT then ps.map (fun _=>emptyP) else ps
def kP (s:XG):Pair:=(KS s.1,Ji s.2)
def zA (b:List XG):List Pair:=zN (b.map kP)
@[simp] theorem zC4:Xu none = .non:=rfl
@[simp] theorem zC3 {i:Int}:Xu (some i) = .int i:=rfl
section
variable {P:Program} {w:World} {K:PySem.W.Frag} {mg:Str -> Option Value} {base:Heap}
abbrev xU:Stmt:=top 11
abbrev XH:List Str:=["pair", "least", "greatest"]
theorem sc_is_crossed:FnScope XH ["pair"] (zg xU):=⟨rfl,rfl,rfl,by decide +kernel,rfl,by decide +kernel,by decide +kernel⟩
def yp:TF:=fun ds n Q=>∃ p:Pair,ds = [zr p] /\ Q (.bl (crossedT p)) n
theorem ZJ {f:Addr} {fd:FuncData} (F:Fun K "is_crossed" "is_crossed" xU f fd):FnOk P w K mg base CX0 1 f fd ["pair"] (spD K 1 yp):=by
 refine Fun.okD F sc_is_crossed (fun cdv A0 outer s H E G Z hr=>(zf (vc (m:=3) (zc 0) (xI (k:=2) rfl rfl (zp (zj (i:=1) sc_is_crossed.nd rfl (lo rfl) (by decide)) (zp (zj (i:=2) sc_is_crossed.nd rfl (lo rfl) (by decide)) xm))))
  (zh (zk (vm (wJ yx yw (zc 1) zT (zv _)) (vm (wJ yx yw (zc 2) zT (zv _)) (vk (wJ qY qR (zc 1) (zc 2) (zv _))))))))) ?_
 rintro ds n Q hl ⟨⟨lo,hi⟩,rfl,q⟩
 rcases lo with _ | lo <;> rcases hi with _ | hi <;> simp [startD,zr] <;> exact q
abbrev yD:Stmt:=top 12
abbrev vw:List Str:=["pairs"]
theorem VF:FnScope vw ["pairs"] (zg yD):=⟨rfl,rfl,rfl,by decide +kernel,rfl,by decide +kernel,by decide +kernel⟩
theorem Xc:("pair" :: vw:List Str).Nodup:=by decide +kernel
theorem Xb:("pair" :: vw:List Str).Nodup:=by decide +kernel
def kg:TF:=fun ds n Q=>∃ (ps:List Pair) (d:D),ds = [d] /\ (d = .lst (ps.map zr) \/ d = zi ps) /\ ps.length <= 1000 /\ Q (zi (zN ps)) n
theorem VS {f:Addr} {fd:FuncData} (T:Blt mg) (G_EMPTY_PAIR:zq6 K mg "EMPTY_PAIR" (.tup [.int 1,.int 0])) (F:Fun K "settled" "settled" yD f fd) (F_is_crossed:Fn P w K mg base "is_crossed" 1 1 yp):FnOk P w K mg base CX0 2 f fd ["pairs"] (spD K 1 kg):=by
 refine Fun.okD F VF (fun cdv A0 outer s H E G Z hr=>(zf (zX (wl (zw (ZV rfl) JF T.any JU (zb (xQ (own:=["pair"]) (M:=vw) (wg (by rfl)) rfl (xn rfl (zc 0)) (fun C s2 H2 fp=>(zj (i:=0) Xc rfl (lo rfl) (by decide))) (fun C s2 H2 fp=>zZ) (fun C s2 H2 fp=>(zy F_is_crossed (hr.mono (by decide)) rfl (zb (zc 0) zd)))) zd))) (zh (zk (zW zQ xN T.tuple xo (zb (xQ (own:=["pair"]) (M:=vw) (wg (by rfl)) rfl (xn rfl (zc 0)) (fun C s2 H2 fp=>(zj (i:=0) Xb rfl (lo rfl) (by decide))) (fun C s2 H2 fp=>zZ) (fun C s2 H2 fp=>(Km G_EMPTY_PAIR rfl))) zd)))) zB)
  (zh (zk (zW zQ xN T.tuple xo (zb (zc 0) zd)))))) ?_
 rintro ds n Q hl ⟨ps,d,rfl,hd,hz,q⟩
 have hno:zu d = true:=by rcases hd with rfl | rfl <;> rfl
 have hsz:ps.length <= sizeLine:=zP hz
 have hit:∀ R:List D -> Prop,R (ps.map zr) -> ∃ es,(d = .lst es \/ d = .tup es) /\ R es:=fun R h=>⟨_,hd,h⟩
 simp [startD,hno]
 refine hit _ (zS zr (fun p=>.bl (crossedT p)) ps hsz (fun x hx R hR=>?_) ?_)
 ·simp [zr]
  exact ⟨x,rfl,hR⟩
 ·refine ⟨ps.map crossedT, by rw [List.map_map]; rfl, ?_⟩
  simp
  unfold zN at q
  by_cases h:ps.any crossedT
  ·simp only [h, if_true]
   rw [if_pos h] at q
   refine hit _ (zS zr (fun p=>.tup [.int 1,.int 0]) ps hsz (fun x hx R hR=>?_) ?_)
   ·simp
    exact hR
   ·simp
    have e:zi (ps.map fun _=>emptyP) = .tup (ps.map fun _=>.tup [.int 1,.int 0]):=by unfold zi; rw [List.map_map]; rfl
    rw [e] at q
    simpa using q
  ·rw [if_neg h] at q
   simp only [h]
   rcases hd with rfl | rfl
   ·simp; exact q
   ·unfold zi; simp; exact q
abbrev ww:Stmt:=top 13
abbrev kc:List Str:=["box"]
theorem Yy:FnScope kc ["box"] (zg ww):=⟨rfl,rfl,rfl,by decide +kernel,rfl,by decide +kernel,by decide +kernel⟩
theorem jJ:("span" :: kc:List Str).Nodup:=by decide +kernel
def yg:TF:=fun ds n Q=>∃ b:List XG,ds = [xj b] /\ b.length <= 1000 /\ Q (zi (zA b)) n
theorem YR {f:Addr} {fd:FuncData} (F:Fun K "plain_box" "plain_box" ww f fd) (F_pair_of:Fn P w K mg base "pair_of" 2 1 qJ) (F_settled:Fn P w K mg base "settled" 2 1 kg):FnOk P w K mg base CX0 3 f fd ["box"] (spD K 1 yg):=by
 refine Fun.okD F Yy (fun cdv A0 outer s H E G Z hr=>(zh (zk (zy F_settled (hr.mono (by decide)) rfl (zb (xQ (own:=["span"]) (M:=kc) (wg (by rfl)) rfl (xn rfl (zc 0)) (fun C s2 H2 fp=>(zj (i:=0) jJ rfl (lo rfl) (by decide))) (fun C s2 H2 fp=>zZ) (fun C s2 H2 fp=>(zy F_pair_of (hr.mono (by decide)) rfl (zb (zc 0) zd)))) zd))))) ?_
 rintro ds n Q hl ⟨b,rfl,hz,q⟩
 have nb:zu (xj b) = true:=rfl
 simp [startD,nb]
 refine ⟨b.map wG,.inr rfl,zS wG (fun s=>zr (kP s)) b (zP hz) (fun x hx R hR=>?_) ?_⟩
 ·simp [wG]
  exact ⟨x,rfl,hR⟩
 ·exact ⟨b.map kP,_,rfl,.inl (by rw [List.map_map]; rfl),by simpa using hz,q⟩
end
end K46
set_option maxRecDepth 100000
set_option maxHeartbeats 1000000
namespace K46
open PySem L2 PySem.Spec PyProof.Rows
def maxO:Option Int -> Option Int -> Option Int
 | none,o=>o
 | some a,none=>some a
 | some a,some b=>some (if b > a then b else a)
def minO:Option Int -> Option Int -> Option Int
 | none,o=>o
 | some a,none=>some a
 | some a,some b=>some (if b < a then b else a)
def commonP (p q:Pair):Pair:=(maxO p.1 q.1,minO p.2 q.2)
def wH (ps qs:List Pair):List Pair:=zN (List.zipWith commonP ps qs)
def wj (ps qs:List Pair):Bool:=match wH ps qs with | []=>false | p :: _=>crossedT p
def wv (ps qs:List Pair):Bool:=decide (wH ps qs = ps)
def zB6 (ps:List Pair) (p:List Int):Bool:=(List.zipWith (fun q x=>Xi q.1 q.2 x) ps p).all id
theorem Qb {α β:Type} {f:α -> β -> Bool}:∀ {l:List α} {r:List β},(List.zipWith f l r).all id = true ↔ ∀ (i:Nat) a b,l[i]? = some a -> r[i]? = some b -> f a b = true
 | [],r=>by simp
 | a :: l,[]=>by simp
 | a :: l, b :: r => by
  have ih:=Qb (f:=f) (l:=l) (r:=r)
  simp only [List.zipWith_cons_cons,List.all_cons,Bool.and_eq_true,ih]
  constructor
  ·rintro ⟨h1, h2⟩ i x y hx hy
   cases i with
   | zero=>simp at hx hy; subst hx; subst hy; exact h1
   | succ i=>exact h2 i x y (by simpa using hx) (by simpa using hy)
  ·intro h
   exact ⟨h 0 a b rfl rfl,fun i x y hx hy=>h (i + 1) x y (by simpa using hx) (by simpa using hy)⟩
theorem any_at {α:Type} {f:α -> Bool} {l:List α}:l.any f = true ↔ ∃ (i:Nat) (a:α),l[i]? = some a /\ f a = true:=by
 rw [List.any_eq_true]
 constructor
 ·rintro ⟨x, hx, h⟩
  obtain ⟨i,hi⟩:=List.mem_iff_getElem?.mp hx
  exact ⟨i,x,hi,h⟩
 ·rintro ⟨i, a, hi, h⟩
  exact ⟨a,List.mem_of_getElem? hi,h⟩
theorem qM (ps:List Pair):(zN ps).length = ps.length:=by unfold zN; split <;> simp
theorem Uk {ps qs:List Pair} (h:ps.length = qs.length):(wH ps qs).length = ps.length:=by unfold wH; rw [qM,List.length_zipWith]; lia
theorem xO {ps:List Pair} (h:¬ ps.any crossedT = true):zN ps = ps:=by unfold zN; rw [if_neg h]
theorem yh {ps:List Pair} (h:ps.any crossedT = true):zN ps = List.replicate ps.length emptyP:=by
 unfold zN
 rw [if_pos h,<- List.map_const']
theorem Zy (ps:List Pair):zN (zN ps) = zN ps:=by
 by_cases h:ps.any crossedT = true
 ·rw [yh h]
  by_cases h2:(List.replicate ps.length emptyP).any crossedT = true
  ·rw [yh h2,List.length_replicate]
  ·rw [xO h2]
 ·rw [xO h,xO h]
theorem zh8 {ps qs:List Pair} {i:Nat} {c:Pair} (h:(List.zipWith commonP ps qs)[i]? = some c):∃ p q,ps[i]? = some p /\ qs[i]? = some q /\ c = commonP p q:=by
 rw [List.getElem?_zipWith] at h
 cases hp:ps[i]? with
 | none=>rw [hp] at h; simp at h
 | some p =>
  cases hq:qs[i]? with
  | none=>rw [hp,hq] at h; simp at h
  | some q=>rw [hp,hq] at h; exact ⟨p,q,rfl,rfl,(by simpa using h.symm)⟩
theorem qH {ps qs:List Pair} {i:Nat} {p q:Pair} (hp:ps[i]? = some p) (hq:qs[i]? = some q):(List.zipWith commonP ps qs)[i]? = some (commonP p q):=by
 rw [List.getElem?_zipWith,hp,hq]
theorem JW {α β:Type} {l:List α} {r:List β} (h:l.length = r.length) {i:Nat} {a:α} (e:l[i]? = some a):∃ b,r[i]? = some b:=by
 have hi:=(List.getElem?_eq_some_iff.mp e).1
 exact ⟨r[i],List.getElem?_eq_getElem (by lia)⟩
theorem has_iff {ps:List Pair} {p:List Int}:zB6 ps p = true ↔ ∀ (i:Nat) (q:Pair) (x:Int),ps[i]? = some q -> p[i]? = some x -> Xi q.1 q.2 x = true:=Qb
theorem kz {ps qs:List Pair} (hl:ps.length = qs.length) (h1:1 <= ps.length):wj ps qs = (List.zipWith commonP ps qs).any crossedT:=by
 unfold wj wH
 by_cases hc:(List.zipWith commonP ps qs).any crossedT = true
 ·rw [yh hc, hc]
  obtain ⟨k,hk⟩:∃ k,(List.zipWith commonP ps qs).length = k + 1:=⟨ps.length - 1,by rw [List.length_zipWith]; lia⟩
  rw [hk]
  rfl
 ·rw [xO hc]
  cases hz:List.zipWith commonP ps qs with
  | nil=>rfl
  | cons c r =>
   rw [hz] at hc
   show crossedT c = (c :: r).any crossedT
   cases h:crossedT c with
   | false =>
    cases h2:(c :: r).any crossedT with
    | false=>rfl
    | true=>exact (hc h2).elim
   | true=>exact (hc (by simp [h])).elim
theorem Uz {bs qs:List Pair} (hl:bs.length = qs.length) (h:∀ (i:Nat) b q,bs[i]? = some b -> qs[i]? = some q -> commonP b q = b) (hc:¬ bs.any crossedT = true):wH bs qs = bs:=by
 have e:List.zipWith commonP bs qs = bs:=by
  apply List.ext_getElem?
  intro i
  rw [List.getElem?_zipWith]
  cases hb:bs[i]? with
  | none=>simp
  | some b =>
   obtain ⟨q,hq⟩:=JW hl hb
   rw [hq]
   simp [h i b q hb hq]
 unfold wH
 rw [e,xO hc]
theorem vO (q:Pair):crossedT (commonP q emptyP) = true:=by
 obtain ⟨a,b⟩:=q
 rcases a with _ | a <;> rcases b with _ | b <;> simp [commonP,maxO,minO,crossedT,emptyP] <;> (try split) <;> (try split) <;> lia
theorem Uy {ps qs:List Pair} (h:wH ps qs = ps):wv ps qs = true:=by unfold wv; exact decide_eq_true h
theorem yO (b:List XG):zN (zA b) = zA b:=Zy _
end K46
set_option maxRecDepth 100000
set_option maxHeartbeats 1000000
namespace K46
open PySem L2 PySem.Spec PyProof.Rows
theorem zS1 (o:Option Int) (k:Nat):okE (Xu o) k = true:=by cases o <;> simp [okE]
theorem yQ (p:Pair) (k:Nat):okE (zr p) (k + 1) = true:=okE_tup.mpr fun d hd=>by
 simp only [List.mem_cons,List.not_mem_nil,or_false] at hd
 rcases hd with rfl | rfl <;> exact zS1 _ _
theorem YX (ps:List Pair) (k:Nat):okE (zi ps) (k + 2) = true:=okE_tup.mpr fun d hd=>by
 obtain ⟨p,_,rfl⟩:=List.mem_map.mp hd
 exact yQ p k
theorem zT9 (a b:Option Int):eqD (Xu a) (Xu b) = decide (a = b):=by
 rcases a with _ | a <;> rcases b with _ | b <;> simp [eqD]
 rfl
theorem qE (p q:Pair):eqD (zr p) (zr q) = decide (p = q):=by
 obtain ⟨a,b⟩:=p
 obtain ⟨c,d⟩:=q
 unfold zr
 simp only [eqD,vK,zT9,Bool.and_true]
 rw [Bool.eq_iff_iff]; simp
theorem Zc:∀ ps qs:List Pair,vK (ps.map zr) (qs.map zr) = decide (ps = qs)
 | [],[]=>by simp [vK]
 | [],q :: qs=>by simp [vK]
 | p :: ps,[]=>by simp [vK]
 | p :: ps,q :: qs=>by
  simp only [List.map_cons,vK,qE,Zc ps qs]
  rw [Bool.eq_iff_iff]; simp
theorem Jp (ps qs:List Pair):eqD (zi ps) (zi qs) = decide (ps = qs):=by
 unfold zi
 simp only [eqD,Zc]
section
variable {P:Program} {w:World} {K:PySem.W.Frag} {mg:Str -> Option Value} {base:Heap}
abbrev xV:Stmt:=top 14
abbrev XI:List Str:=["one", "other"]
theorem Zz:FnScope XI ["one", "other"] (zg xV):=⟨rfl,rfl,rfl,by decide +kernel,rfl,by decide +kernel,by decide +kernel⟩
def vb:TF:=fun ds n Q=>∃ a b:Option Int,ds = [Xu a,Xu b] /\ Q (Xu (maxO a b)) n
theorem ZK {f:Addr} {fd:FuncData} (T:Blt mg) (F:Fun K "greater_of" "greater_of" xV f fd):FnOk P w K mg base CX0 1 f fd ["one", "other"] (spD K 2 vb):=by
 refine Fun.okD F Zz (fun cdv A0 outer s H E G Z hr=>(zf (zX (PWD.pt (WY (zt wu wr (zc 0) zT (zv _)) (ZF (zt wu wr (zc 1) zT (zv _))))) (zh (zk (qm (zt wu wr (zc 0) zT (zv _)) (zc 1) (zc 0)))) zB)
  (zh (zk (zw (XA rfl) JD T.max JT (zb (zc 0) (zb (zc 1) zd))))))) ?_
 rintro ds n Q hl ⟨a,b,rfl,q⟩
 rcases a with _ | a <;> rcases b with _ | b <;> simp [startD] <;> exact q
abbrev wz:Stmt:=top 15
abbrev WI:List Str:=["one", "other"]
theorem YA:FnScope WI ["one", "other"] (zg wz):=⟨rfl,rfl,rfl,by decide +kernel,rfl,by decide +kernel,by decide +kernel⟩
def vQ:TF:=fun ds n Q=>∃ a b:Option Int,ds = [Xu a,Xu b] /\ Q (Xu (minO a b)) n
theorem YU {f:Addr} {fd:FuncData} (T:Blt mg) (F:Fun K "lesser_of" "lesser_of" wz f fd):FnOk P w K mg base CX0 1 f fd ["one", "other"] (spD K 2 vQ):=by
 refine Fun.okD F YA (fun cdv A0 outer s H E G Z hr=>(zf (zX (PWD.pt (WY (zt wu wr (zc 0) zT (zv _)) (ZF (zt wu wr (zc 1) zT (zv _))))) (zh (zk (qm (zt wu wr (zc 0) zT (zv _)) (zc 1) (zc 0)))) zB)
  (zh (zk (zw (Xz rfl) JC T.min JS (zb (zc 0) (zb (zc 1) zd))))))) ?_
 rintro ds n Q hl ⟨a,b,rfl,q⟩
 rcases a with _ | a <;> rcases b with _ | b <;> simp [startD] <;> exact q
abbrev xB:Stmt:=top 16
abbrev Yg:List Str:=["one", "other"]
theorem jC:FnScope Yg ["one", "other"] (zg xB):=⟨rfl,rfl,rfl,by decide +kernel,rfl,by decide +kernel,by decide +kernel⟩
def yM:TF:=fun ds n Q=>∃ p q:Pair,ds = [zr p,zr q] /\ Q (zr (commonP p q)) n
theorem jG {f:Addr} {fd:FuncData} (F:Fun K "common_pair" "common_pair" xB f fd) (F_greater_of:Fn P w K mg base "greater_of" 1 2 vb) (F_lesser_of:Fn P w K mg base "lesser_of" 1 2 vQ):FnOk P w K mg base CX0 2 f fd ["one", "other"] (spD K 2 yM):=by
 refine Fun.okD F jC (fun cdv A0 outer s H E G Z hr=>(zh (zk (zL (zb (zy F_greater_of (hr.mono (by decide)) rfl (zb (zE zn zD (zc 0) ze (fun _ _=>rfl)) (zb (zE zn zD (zc 1) ze (fun _ _=>rfl)) zd))) (zb (zy F_lesser_of (hr.mono (by decide)) rfl (zb (zE zn zD (zc 0) ze (fun _ _=>rfl)) (zb (zE zn zD (zc 1) ze (fun _ _=>rfl)) zd))) zd)))))) ?_
 rintro ds n Q hl ⟨p,p',rfl,q⟩
 simp [startD,zr]
 refine ⟨p.1,p'.1,rfl,?_⟩
 simp
 refine ⟨p.2,p'.2,rfl,?_⟩
 simp
 exact q
theorem ze4 (b:List Pair) (p:List Pair):XU (b.map zr) (p.map zr) = (b.zip p).map fun x=>.tup [zr x.1,zr x.2]:=by
 unfold XU
 rw [List.zipWith_map,List.map_zip_eq_zipWith]
 rfl
abbrev vG:Stmt:=top 17
abbrev Yh:List Str:=["one", "other"]
theorem UP:FnScope Yh ["one", "other"] (zg vG):=⟨rfl,rfl,rfl,by decide +kernel,rfl,by decide +kernel,by decide +kernel⟩
theorem jd:("mine" :: "yours" :: Yh:List Str).Nodup:=by decide +kernel
def qy:TF:=fun ds n Q=>∃ ps qs:List Pair,ds = [zi ps,zi qs] /\ ps.length <= 1000 /\ Q (zi (wH ps qs)) n
theorem Kw {f:Addr} {fd:FuncData} (T:Blt mg) (F:Fun K "common" "common" vG f fd) (F_settled:Fn P w K mg base "settled" 2 1 kg) (F_common_pair:Fn P w K mg base "common_pair" 2 2 yM):FnOk P w K mg base CX0 3 f fd ["one", "other"] (spD K 2 qy):=by
 refine Fun.okD F UP (fun cdv A0 outer s H E G Z hr=>(zh (zk (zy F_settled (hr.mono (by decide)) rfl (zb (xQ (own:=["mine", "yours"]) (M:=Yh) (wg (by rfl)) rfl (Wq rfl T.zip (zb (zc 0) (zb (zc 1) zd))) (fun C s2 H2 fp=>(xI (k:=2) rfl rfl (zp (zj (i:=0) jd rfl (lo rfl) (by decide)) (zp (zj (i:=1) jd rfl (lo rfl) (by decide)) xm)))) (fun C s2 H2 fp=>zZ) (fun C s2 H2 fp=>(zy F_common_pair (hr.mono (by decide)) rfl (zb (zc 0) (zb (zc 1) zd))))) zd))))) ?_
 rintro ds n Q hl ⟨ps,qs,rfl,hz,q⟩
 have n1:zu (zi ps) = true:=rfl
 have n2:zu (zi qs) = true:=rfl
 simp [startD,n1,n2]
 refine (qS (d1:=zi ps) (d2:=zi qs) rfl rfl).mpr ?_
 rw [ze4]
 refine zS (fun x=>.tup [zr x.1,zr x.2]) (fun x:Pair × Pair=>zr (commonP x.1 x.2)) (ps.zip qs) (Nat.le_trans (by rw [List.length_zip]; lia) (zP (k:=1000) (by lia))) (fun x hx R hR=>?_) ?_
 ·have n3 : zu (zr x.1) = true := rfl
  have n4:zu (zr x.2) = true:=rfl
  simp [n3,n4]
  exact ⟨x.1,x.2,rfl,hR⟩
 ·refine ⟨List.zipWith commonP ps qs, _, rfl, .inl ?_, by rw [List.length_zipWith]; lia, q⟩
  have e:List.zipWith commonP ps qs = (ps.zip qs).map fun x=>commonP x.1 x.2:=by rw [List.map_zip_eq_zipWith]; rfl
  rw [e,List.map_map]
  rfl
abbrev xy:Stmt:=top 18
abbrev Yd:List Str:=["one", "other"]
theorem jB:FnScope Yd ["one", "other"] (zg xy):=⟨rfl,rfl,rfl,by decide +kernel,rfl,by decide +kernel,by decide +kernel⟩
def wR:TF:=fun ds n Q=>∃ ps qs:List Pair,ds = [zi ps,zi qs] /\ ps.length <= 1000 /\ Q (.bl (wv ps qs)) n
theorem jE {f:Addr} {fd:FuncData} (F:Fun K "lies_within" "lies_within" xy f fd) (F_common:Fn P w K mg base "common" 3 2 qy):FnOk P w K mg base CX0 4 f fd ["one", "other"] (spD K 2 wR):=by
 refine Fun.okD F jB (fun cdv A0 outer s H E G Z hr=>(zh (zk (wJ (YQ hr) (YI rfl) (zy F_common (hr.mono (by decide)) rfl (zb (zc 0) (zb (zc 1) zd))) (zc 0) (zv _))))) ?_
 rintro ds n Q hl ⟨ps,qs,rfl,hz,q⟩
 have n1:zu (zi ps) = true:=rfl
 have n2:zu (zi qs) = true:=rfl
 simp [startD,n1,n2]
 refine ⟨ps,qs,rfl,hz,?_⟩
 have o1:=YX (wH ps qs) 18
 have o2:=YX ps 18
 simp [n1,o1,o2,Jp]
 exact q
abbrev wy:Stmt:=top 19
abbrev WH:List Str:=["one", "other"]
theorem Yz:FnScope WH ["one", "other"] (zg wy):=⟨rfl,rfl,rfl,by decide +kernel,rfl,by decide +kernel,by decide +kernel⟩
def vP:TF:=fun ds n Q=>∃ ps qs:List Pair,ds = [zi ps,zi qs] /\ 1 <= ps.length /\ ps.length = qs.length /\ ps.length <= 1000 /\ Q (.bl (wj ps qs)) n
theorem YT {f:Addr} {fd:FuncData} (F:Fun K "lie_apart" "lie_apart" wy f fd) (F_is_crossed:Fn P w K mg base "is_crossed" 1 1 yp) (F_common:Fn P w K mg base "common" 3 2 qy):FnOk P w K mg base CX0 4 f fd ["one", "other"] (spD K 2 vP):=by
 refine Fun.okD F Yz (fun cdv A0 outer s H E G Z hr=>(zh (zk (zy F_is_crossed (hr.mono (by decide)) rfl (zb (zE zn zD (zy F_common (hr.mono (by decide)) rfl (zb (zc 0) (zb (zc 1) zd))) ze (fun _ _=>rfl)) zd))))) ?_
 rintro ds n Q hl ⟨ps,qs,rfl,h1,h2,hz,q⟩
 have n1:zu (zi ps) = true:=rfl
 have n2:zu (zi qs) = true:=rfl
 simp [startD,n1,n2]
 refine ⟨ps,qs,rfl,hz,?_⟩
 have hl2:=Uk h2
 unfold wj at q
 cases hc:wH ps qs with
 | nil=>rw [hc] at hl2; simp at hl2; lia
 | cons c r =>
  rw [hc] at q
  simp [zi]
  exact ⟨c,rfl,q⟩
def Yn (qs:List (List Int)) (i:Nat):List Int:=qs.map fun q=>q[i]?.getD 0
theorem qA (m:Nat):Wm 0 m = (List.range m).map fun i=>.int (i:Int):=by unfold Wm; simp
theorem kZ:∀ {ns:List Int},0 < ns.length -> ∃ M,M ∈ ns /\ ∀ a ∈ ns,M <= a
 | [x],_=>⟨x,by simp,by simp⟩
 | x :: y :: r,_=>by
  obtain ⟨M,h1,h2⟩:=kZ (ns:=y :: r) (by simp)
  by_cases h:x <= M
  ·exact ⟨x,by simp,fun a ha=>by rcases List.mem_cons.mp ha with rfl | ha; exact Int.le_refl _; have:=h2 a ha; lia⟩
  ·exact ⟨M,List.mem_cons_of_mem _ h1,fun a ha=>by rcases List.mem_cons.mp ha with rfl | ha; lia; exact h2 a ha⟩
theorem qa:∀ {ns:List Int},0 < ns.length -> ∃ M,M ∈ ns /\ ∀ a ∈ ns,a <= M
 | [x],_=>⟨x,by simp,by simp⟩
 | x :: y :: r,_=>by
  obtain ⟨M,h1,h2⟩:=qa (ns:=y :: r) (by simp)
  by_cases h:M <= x
  ·exact ⟨x,by simp,fun a ha=>by rcases List.mem_cons.mp ha with rfl | ha; exact Int.le_refl _; have:=h2 a ha; lia⟩
  ·exact ⟨M,List.mem_cons_of_mem _ h1,fun a ha=>by rcases List.mem_cons.mp ha with rfl | ha; lia; exact h2 a ha⟩
open Classical in
noncomputable def Qk (ns:List Int):Int:=if h:∃ M,M ∈ ns /\ ∀ a ∈ ns,M <= a then choose h else 0
open Classical in
noncomputable def Ql (ns:List Int):Int:=if h:∃ M,M ∈ ns /\ ∀ a ∈ ns,a <= M then choose h else 0
theorem jl {ns:List Int} (h:∃ M,M ∈ ns /\ ∀ a ∈ ns,M <= a):Qk ns ∈ ns /\ ∀ a ∈ ns,Qk ns <= a:=by unfold Qk; rw [dif_pos h]; exact Classical.choose_spec h
theorem jm {ns:List Int} (h:∃ M,M ∈ ns /\ ∀ a ∈ ns,a <= M):Ql ns ∈ ns /\ ∀ a ∈ ns,a <= Ql ns:=by unfold Ql; rw [dif_pos h]; exact Classical.choose_spec h
theorem KK {ns:List Int} {M:Int} (h1:M ∈ ns) (h2:∀ a ∈ ns,M <= a):M = Qk ns:=by
 obtain ⟨h3,h4⟩:=jl ⟨M,h1,h2⟩
 have:=h2 _ h3
 have:=h4 _ h1
 lia
theorem KM {ns:List Int} {M:Int} (h1:M ∈ ns) (h2:∀ a ∈ ns,a <= M):M = Ql ns:=by
 obtain ⟨h3,h4⟩:=jm ⟨M,h1,h2⟩
 have:=h2 _ h3
 have:=h4 _ h1
 lia
theorem Ua {ns:List Int} {k:D -> Prop} (h:0 < ns.length) (q:k (.int (Qk ns))):zA5 [.lst (ns.map D.int)] k:=⟨ns,rfl,h,fun M h1 h2=>by rw [KK h1 h2]; exact q⟩
theorem Ub {ns:List Int} {k:D -> Prop} (h:0 < ns.length) (q:k (.int (Ql ns))):zA7 [.lst (ns.map D.int)] k:=⟨ns,rfl,h,fun M h1 h2=>by rw [KM h1 h2]; exact q⟩
end
end K46
set_option maxRecDepth 100000
set_option maxHeartbeats 1000000
namespace K46
open PySem L2 PySem.Spec PyProof.Rows
theorem zd3 (xs:List D) (b:Nat) (hb:b <= xs.length):Ym xs (some (b:Int)) none = xs.drop b:=by
 unfold Ym
 rw [HT.Wk,HT.ZD,Nat.min_eq_left hb,List.take_of_length_le (by rw [List.length_drop]; lia)]
theorem zC8 (xs:List D) (e:Nat) (he:e <= xs.length):Ym xs none (some (e:Int)) = xs.take e:=by
 unfold Ym
 rw [HT.Wk,HT.ZD,Nat.min_eq_left he,List.drop_zero,Nat.sub_zero]
structure GoodU (d:Nat) (ts:List Thing):Prop where
 each:∀ t ∈ ts,t.2.1.length = d
 nd:(ts.map fun t=>t.1).Nodup
theorem GoodT.u {d:Nat} {ts:List Thing} {x:Int} (h:GoodT d ts x):GoodU d ts:=⟨fun t ht=>(h.each t ht).2.2.1,h.nodup⟩
theorem GoodU.perm {d:Nat} {ts rs:List Thing} (h:GoodU d ts) (p:rs.Perm ts):GoodU d rs:=⟨fun t ht=>h.each t (p.mem_iff.mp ht),(p.map _).nodup_iff.mpr h.nd⟩
theorem GoodU.sub {d:Nat} {ts rs:List Thing} (h:GoodU d ts) (p:rs.Sublist ts):GoodU d rs:=⟨fun t ht=>h.each t (p.mem ht),(p.map _).nodup h.nd⟩
def zm8 (t:Thing):Key:=Sum.inl t.1
def byN (ts:List Thing):D:=.dct (ts.map zm8) (ts.map zM)
@[simp] theorem xa8 (ts:List Thing):zu (byN ts) = true:=id rfl
def zz2 (ts:List Thing):D:=.tup (ts.map fun t=>.int t.1)
@[simp] theorem zz0 (ts:List Thing):zu (zz2 ts) = true:=id rfl
@[simp] theorem zy9 (ps:List Pair):zu (zi ps) = true:=id rfl
@[simp] theorem zy8 (p:List Int):zu (xG p) = true:=id rfl
@[simp] theorem zy7 (t:Thing):zu (zM t) = true:=id rfl
noncomputable def yB (d:Nat) (qs:List (List Int)):List Pair:=(List.range d).map fun i=>(some (Qk (Yn qs i)),some (Ql (Yn qs i)))
inductive Tr where
 | one (name:Int) (bd:List Pair)
 | two (ns:List Int) (bd:List Pair) (low high:Tr)
def zY:Tr -> D
 | .one x bd=>.tup [.tup [.int x],zi bd,.non,.non]
 | .two ns bd l h=>.tup [.tup (ns.map D.int),zi bd,zY l,zY h]
theorem xa (t:Tr):zu (zY t) = true:=by cases t <;> rfl
section
variable {P:Program} {w:World} {K:PySem.W.Frag} {mg:Str -> Option Value} {base:Heap}
end
end K46
set_option maxRecDepth 100000
set_option maxHeartbeats 1000000
namespace K46
open PySem L2 PySem.Spec PyProof.Rows
inductive TreeOf (d:Nat):List Thing -> Tr -> Prop where
  | one {t:Thing}:t.2.1.length = d -> TreeOf d [t] (.one t.1 (yB d [t.2.1]))
  | two {ts ls hs:List Thing} {ns:List Int} {low high:Tr}:(ls ++ hs).Perm ts -> ns.Perm (ts.map fun t=>t.1) -> ns.Pairwise (· <= ·) -> TreeOf d ls low -> TreeOf d hs high -> TreeOf d ts (.two ns (yB d (ts.map fun t=>t.2.1)) low high)
theorem TreeOf.ne {d:Nat} {ts:List Thing} {tr:Tr} (h:TreeOf d ts tr):1 <= ts.length:=by
 induction h with
 | one=>simp
 | two p _ _ _ _ h1 h2=>have:=p.length_eq; rw [List.length_append] at this; lia
theorem TreeOf.lens {d:Nat} {ts:List Thing} {tr:Tr} (h:TreeOf d ts tr):∀ t ∈ ts,t.2.1.length = d:=by
 induction h with
 | one h=>intro t ht; rw [List.mem_singleton.mp ht]; exact h
 | two p _ _ _ _ h1 h2 =>
  intro t ht
  rcases List.mem_append.mp (p.mem_iff.mpr ht) with h | h
  ·exact h1 t h
  ·exact h2 t h
def xJ:Tr -> List Pair
 | .one _ bd=>bd
 | .two _ bd _ _=>bd
def wo:Tr -> List Int
 | .one x _=>[x]
 | .two ns _ _ _=>ns
theorem TreeOf.bd {d:Nat} {ts:List Thing} {tr:Tr} (h:TreeOf d ts tr):xJ tr = yB d (ts.map fun t=>t.2.1):=by cases h <;> rfl
def Vv (ts:List Thing) (i:Nat):List Int:=Yn (ts.map fun t=>t.2.1) i
theorem jv (ts:List Thing) (i:Nat):Vv ts i = ts.map fun t=>t.2.1[i]?.getD 0:=by unfold Vv Yn; rw [List.map_map]; rfl
noncomputable def loN (ts:List Thing) (i:Nat):Int:=Qk (Vv ts i)
noncomputable def hiN (ts:List Thing) (i:Nat):Int:=Ql (Vv ts i)
theorem Zj {d i:Nat} (ts:List Thing) (hi:i < d):(yB d (ts.map fun t=>t.2.1))[i]? = some (some (loN ts i),some (hiN ts i)):=by
 unfold yB
 rw [List.getElem?_map,List.getElem?_range hi]; rfl
theorem xR (d:Nat) (qs:List (List Int)):(yB d qs).length = d:=by unfold yB; rw [List.length_map,List.length_range]
theorem qF {ts:List Thing} {i:Nat} (h:1 <= ts.length):0 < (Vv ts i).length:=by rw [jv,List.length_map]; exact h
theorem Vo {ts:List Thing} {i:Nat} (h:1 <= ts.length) {x:Int} (hx:x ∈ Vv ts i):loN ts i <= x:=(jl (kZ (qF h))).2 x hx
theorem KT {ts:List Thing} {i:Nat} (h:1 <= ts.length) {x:Int} (hx:x ∈ Vv ts i):x <= hiN ts i:=(jm (qa (qF h))).2 x hx
theorem KP {ts:List Thing} {i:Nat} (h:1 <= ts.length):loN ts i ∈ Vv ts i:=(jl (kZ (qF h))).1
theorem Wz {ts:List Thing} {i:Nat} (h:1 <= ts.length):hiN ts i ∈ Vv ts i:=(jm (qa (qF h))).1
theorem zn2 {ts:List Thing} {i:Nat} (h:1 <= ts.length):loN ts i <= hiN ts i:=Vo h (Wz h)
theorem Vu {ls ts:List Thing} {i:Nat} (h:∀ t ∈ ls,t ∈ ts) {x:Int} (hx:x ∈ Vv ls i):x ∈ Vv ts i:=by
 rw [jv] at hx ⊢
 obtain ⟨t,ht,e⟩:=List.mem_map.mp hx
 exact List.mem_map.mpr ⟨t,h t ht,e⟩
theorem zn1 {ls ts:List Thing} {i:Nat} (h:∀ t ∈ ls,t ∈ ts) (h1:1 <= ls.length) (h2:1 <= ts.length):loN ts i <= loN ls i /\ hiN ls i <= hiN ts i :=
 ⟨Vo h2 (Vu h (KP h1)),KT h2 (Vu h (Wz h1))⟩
def wV (bd pl:List Pair):Str:=if wj bd pl = true then "out" else if wv bd pl = true then "in" else "cut"
abbrev Seen:=List Int × Tr × Str
def jr (x:Seen):D:=.tup [.tup (x.1.map D.int),zY x.2.1,.str x.2.2]
def xl (pl:List Pair):List Int -> Tr -> List Seen
 | p,.one x bd=>[(p,.one x bd,wV bd pl)]
 | p,.two ns bd low high=>(p,.two ns bd low high,wV bd pl) :: (if wV bd pl = "cut" then xl pl (p ++ [0]) low ++ xl pl (p ++ [1]) high else [])
def xu:Tr -> Nat
 | .one _ _=>1
 | .two _ _ low high=>1 + xu low + xu high
def wk:Tr -> Nat
 | .one _ _=>0
 | .two _ _ low high=>1 + max (wk low) (wk high)
theorem wK:∀ t:Tr,wk t < xu t
 | .one _ _=>by simp [wk,xu]
 | .two _ _ l h=>by have:=wK l; have:=wK h; unfold wk xu; lia
theorem kj (pl:List Pair):∀ (p:List Int) (t:Tr),(xl pl p t).length <= xu t
 | p,.one _ _=>by simp [xl,xu]
 | p, .two _ bd l h => by
  unfold xl xu
  rw [List.length_cons]
  split
  ·rw [List.length_append]
   have:=kj pl (p ++ [0]) l
   have:=kj pl (p ++ [1]) h
   lia
  ·simp; lia
theorem TreeOf.size {d:Nat} {ts:List Thing} {tr:Tr} (h:TreeOf d ts tr):xu tr + 1 = 2 * ts.length:=by
 induction h with
 | one=>rfl
 | two p _ _ _ _ h1 h2=>have:=p.length_eq; rw [List.length_append] at this; unfold xu; lia
theorem Kp {d : Nat} (hd : 1 <= d) {p : List Int} (hp : p.length = d) {pl : List Pair} (hl : pl.length = d) : wV (yB d [p]) pl ≠ "cut" := by
 unfold wV
 by_cases ha:wj (yB d [p]) pl = true
 ·rw [if_pos ha]; decide
 ·rw [if_neg ha]
  have hw : wv (yB d [p]) pl = true := by
   rw [kz (by rw [xR,hl]) (by rw [xR]; exact hd)] at ha
   have pt:∀ (i:Nat) (b:Pair),(yB d [p])[i]? = some b -> ∃ x:Int,b = (some x,some x):=fun i b hb=>by
    unfold yB at hb
    rw [List.getElem?_map] at hb
    by_cases hi:i < d
    ·rw [List.getElem?_range hi] at hb
     have e1:Yn [p] i = [p[i]?.getD 0]:=rfl
     have m1:Qk (Yn [p] i) = p[i]?.getD 0:=(KK (ns:=Yn [p] i) (by rw [e1]; simp) (by rw [e1]; simp)).symm
     have m2:Ql (Yn [p] i) = p[i]?.getD 0:=(KM (ns:=Yn [p] i) (by rw [e1]; simp) (by rw [e1]; simp)).symm
     refine ⟨p[i]?.getD 0,?_⟩
     rw [<- Option.some.inj hb]
     show (some (Qk (Yn [p] i)),some (Ql (Yn [p] i))) = _
     rw [m1,m2]
    ·rw [List.getElem?_eq_none (by simp; lia)] at hb; cases hb
   refine Uy (Uz (by rw [xR,hl]) (fun i b q hb hq=>?_) fun hc=>?_)
   ·obtain ⟨x, rfl⟩ := pt i b hb
    have hnc:crossedT (commonP (some x,some x) q) = false:=by
     cases hcr:crossedT (commonP (some x,some x) q) with
     | false=>rfl
     | true=>exact absurd (any_at.mpr ⟨i,_,qH hb hq,hcr⟩) ha
    obtain ⟨a,b⟩:=q
    cases a with
    | none => cases b with
     | none=>rfl
     | some g =>
      simp [commonP,maxO,minO,crossedT] at hnc ⊢
      by_cases hg:g < x
      ·rw [if_pos hg] at hnc; lia
      ·exact fun h=>absurd h hg
    | some l => cases b with
     | none =>
      simp [commonP,maxO,minO,crossedT] at hnc ⊢
      by_cases hg:x < l
      ·rw [if_pos hg] at hnc; lia
      ·exact fun h=>absurd h hg
     | some g =>
      simp [commonP,maxO,minO,crossedT] at hnc ⊢
      constructor
      ·by_cases hg : x < l
       ·rw [if_pos hg] at hnc
        by_cases hg2:g < x
        ·rw [if_pos hg2] at hnc; lia
        ·rw [if_neg hg2] at hnc; lia
       ·exact fun h=>absurd h hg
      ·by_cases hg2 : g < x
       ·rw [if_pos hg2] at hnc
        by_cases hg:x < l
        ·rw [if_pos hg] at hnc; lia
        ·rw [if_neg hg] at hnc; lia
       ·exact fun h=>absurd h hg2
   ·obtain ⟨i, b, hb, hcr⟩ := any_at.mp hc
    obtain ⟨x,rfl⟩:=pt i b hb
    simp [crossedT] at hcr
  rw [if_pos hw]; decide
inductive Walk (d:Nat) (pl:List Pair):Tr -> Prop where
 | one {x:Int} {bd:List Pair}:bd.length = d -> wV bd pl ≠ "cut" -> Walk d pl (.one x bd)
 | two {ns:List Int} {bd:List Pair} {low high:Tr}:bd.length = d -> Walk d pl low -> Walk d pl high -> Walk d pl (.two ns bd low high)
theorem TreeOf.walk {d:Nat} (hd:1 <= d) {pl:List Pair} (hl:pl.length = d) {ts:List Thing} {tr:Tr} (h:TreeOf d ts tr):Walk d pl tr:=by
 induction h with
 | one h=>exact .one (xR _ _) (Kp hd h hl)
 | two _ _ _ _ _ h1 h2=>exact .two (xR _ _) h1 h2
theorem Walk.bd {d:Nat} {pl:List Pair} {t:Tr} (h:Walk d pl t):(xJ t).length = d:=by cases h <;> assumption
theorem ZS (t:Tr):∃ a b,zY t = .tup [.tup ((wo t).map D.int),zi (xJ t),a,b] /\ zu a = true /\ zu b = true:=by
 cases t with
 | one x bd=>exact ⟨_,_,rfl,rfl,rfl⟩
 | two ns bd l h=>exact ⟨_,_,rfl,xa l,xa h⟩
def qb (x:List Int × Tr):D:=.tup [.tup (x.1.map D.int),zY x.2]
def xT:List (List Int × Tr) -> Nat
 | []=>0
 | x :: r=>xu x.2 + xT r
theorem wX:∀ (r:List (List Int × Tr)) (x:List Int × Tr),xT (r ++ [x]) = xT r + xu x.2
 | [],x=>by simp [xT]
 | y :: r,x=>by show xu y.2 + xT (r ++ [x]) = (xu y.2 + xT r) + xu x.2; rw [wX r x]; lia
def Wn (pl:List Pair) (stk:List (List Int × Tr)):List Seen:=stk.reverse.flatMap fun x=>xl pl x.1 x.2
theorem qQ (pl:List Pair) (stk:List (List Int × Tr)) (x:List Int × Tr):Wn pl (stk ++ [x]) = xl pl x.1 x.2 ++ Wn pl stk:=by
 unfold Wn
 rw [List.reverse_append,List.reverse_singleton,List.singleton_append,List.flatMap_cons]
section
variable {P:Program} {w:World} {K:PySem.W.Frag} {mg:Str -> Option Value} {base:Heap}
abbrev vE:Stmt:=top 21
abbrev ze2:List Str:=["limits", "plain"]
theorem UN:FnScope ze2 ["limits", "plain"] (zg vE):=⟨rfl,rfl,rfl,by decide +kernel,rfl,by decide +kernel,by decide +kernel⟩
def qw:TF:=fun ds n Q=>∃ ps qs:List Pair,ds = [zi ps,zi qs] /\ 1 <= ps.length /\ ps.length = qs.length /\ ps.length <= 1000 /\ Q (.str (wV ps qs)) n
theorem Ks {f:Addr} {fd:FuncData} (F:Fun K "lot_of" "lot_of" vE f fd) (F_lie_apart:Fn P w K mg base "lie_apart" 4 2 vP) (F_lies_within:Fn P w K mg base "lies_within" 4 2 wR):FnOk P w K mg base CX0 5 f fd ["limits", "plain"] (spD K 2 qw):=by
 refine Fun.okD F UN (fun cdv A0 outer s H E G Z hr=>(zf (zX (wl (zy F_lie_apart (hr.mono (by decide)) rfl (zb (zc 0) (zb (zc 1) zd)))) (zh (zk wt)) zB)
  (zh (zk (qm (wl (zy F_lies_within (hr.mono (by decide)) rfl (zb (zc 0) (zb (zc 1) zd)))) wt wt))))) ?_
 rintro ds n Q hl ⟨ps,qs,rfl,h1,h2,h3,q⟩
 have n1:zu (zi ps) = true:=rfl
 have n2:zu (zi qs) = true:=rfl
 simp [startD,n1,n2]
 refine ⟨ps,qs,rfl,h1,h2,h3,?_⟩
 unfold wV at q
 simp
 split
 ·rename_i h
  rw [if_pos h] at q
  exact q
 ·rename_i h
  rw [if_neg h] at q
  refine ⟨ps,qs,rfl,h3,?_⟩
  simp
  split
  ·rename_i h'
   rw [if_pos h'] at q
   exact q
  ·rename_i h'
   rw [if_neg h'] at q
   exact q
structure JLk (pl:List Pair) (d N n:Nat) (total:List Seen) (t0 b0:Option D) (m:Nat) (rho:Rho) (n':Nat):Prop where
 e:n' = n
 r:∃ (acc:List Seen) (stk:List (List Int × Tr)) (z1 z2 z3 z4 z5 z6 z7:Option D),m = xT stk /\ (∀ x ∈ stk,Walk d pl x.2) /\ (∀ x ∈ stk,x.1.length + wk x.2 <= N) /\ acc ++ Wn pl stk = total /\ acc.length + xT stk <= N /\ stk.length <= N /\
  rho = [t0,b0,some (zi pl),some (.own (acc.map jr)),some (.own (stk.map qb)),z1,z2,z3,z4,z5,z6,z7]
theorem JLk.mk2 {pl:List Pair} {d N n:Nat} {total:List Seen} {t0 b0:Option D} {m:Nat} {A B:List D} {z1 z2 z3 z4 z5 z6 z7:Option D} (acc:List Seen) (stk:List (List Int × Tr)) (hm:m = xT stk) (h1:∀ x ∈ stk,Walk d pl x.2) (h2:∀ x ∈ stk,x.1.length + wk x.2 <= N) (h3:acc ++ Wn pl stk = total) (h4:acc.length + xT stk <= N) (h5:stk.length <= N)
  (hA:A = acc.map jr) (hB:B = stk.map qb):JLk pl d N n total t0 b0 m [t0,b0,some (zi pl),some (.own A),some (.own B),z1,z2,z3,z4,z5,z6,z7] n:=by
 subst hA hB
 exact ⟨rfl,acc,stk,z1,z2,z3,z4,z5,z6,z7,hm,h1,h2,h3,h4,h5,rfl⟩
theorem WS:∀ stk:List (List Int × Tr),stk.length <= xT stk
 | []=>Nat.le_refl _
 | x :: r=>by
  have:=WS r
  have h:1 <= xu x.2:=by cases x.2 <;> simp [xu] <;> lia
  unfold xT
  rw [List.length_cons]; lia
abbrev wx:Stmt:=top 22
abbrev WG:List Str:=["tree", "box", "plain", "seen", "waiting", "path", "part", "names", "limits", "low", "high", "lot"]
theorem sc_looked_at:FnScope WG ["tree", "box"] (zg wx):=⟨rfl,rfl,rfl,by decide +kernel,rfl,by decide +kernel,by decide +kernel⟩
def yK:TF:=fun ds n Q=>∃ (b:List XG) (d:Nat),(ds = [.non,xj b] /\ b.length <= 1000 /\ Q (.lst []) n) \/ ∃ tr:Tr,ds = [zY tr,xj b] /\ b.length = d /\ 1 <= d /\ d <= 1000 /\ Walk d (zA b) tr /\ xu tr <= 500 /\ Q (.lst ((xl (zA b) [] tr).map jr)) n
theorem kn (b:List XG):(zA b).length = b.length:=by unfold zA; rw [qM,List.length_map]
theorem YS {f : Addr} {fd : FuncData} (T : Blt mg) (F : Fun K "looked_at" "looked_at" wx f fd) (F_plain_box : Fn P w K mg base "plain_box" 3 1 yg) (F_lot_of : Fn P w K mg base "lot_of" 5 2 qw) : FnOk P w K mg base CX0 6 f fd ["tree", "box"] (spD K 2 yK) := by
 refine Fun.okD F sc_looked_at (fun cdv A0 outer s H E G Z hr=>(zf (zF (i:=2) sc_looked_at.nd rfl (lo rfl) (zy F_plain_box (hr.mono (by decide)) rfl (zb (zc 1) zd)))
  (zf (kO (i:=3) sc_looked_at.nd rfl (lo rfl) zd)
  (zf (Ka (i:=4) sc_looked_at.nd rfl (lo rfl) (zt wu wr (zc 0) zT (zv _)) zd (zb (zL (zb (zL zd) (zb (zc 0) zd))) zd))
  (zf (YL PassesOwn.never (zt qY qR (qV (i:=4) T.len rfl) ze (zv _))
  (zf (zk4 (i:=4) (m:=12) rfl (xI (k:=2) rfl rfl (zp (zj (i:=5) sc_looked_at.nd rfl (lo rfl) (by decide)) (zp (zj (i:=6) sc_looked_at.nd rfl (lo rfl) (by decide)) xm))))
  (zf (vc (m:=12) (zc 6) (xI (k:=4) rfl rfl (zp (zj (i:=7) sc_looked_at.nd rfl (lo rfl) (by decide)) (zp (zj (i:=8) sc_looked_at.nd rfl (lo rfl) (by decide)) (zp (zj (i:=9) sc_looked_at.nd rfl (lo rfl) (by decide)) (zp (zj (i:=10) sc_looked_at.nd rfl (lo rfl) (by decide)) xm))))))
  (zf (zF (i:=11) sc_looked_at.nd rfl (lo rfl) (zy F_lot_of (hr.mono (by decide)) rfl (zb (zc 8) (zb (zc 2) zd))))
  (zf (xr (i:=3) (zb (zL (zb (zc 5) (zb (zc 6) (zb (zc 11) zd)))) zd) rfl)
  (zh (zX (zt kQ kN (zc 11) wt (zv _)) (zf (xr (i:=4) (zb (zL (zb (vh yP vT (zc 5) (zL (zb ze zd))) (zb (zc 10) zd))) zd) rfl)
  (zh (xr (i:=4) (zb (zL (zb (vh yP vT (zc 5) (zL (zb ze zd))) (zb (zc 9) zd))) zd) rfl))) zB)))))))
  (zh (vd 3 (zk (zc 3))))))))) ?_
 generalize hB:XT (zJ0 4 _) _ = B
 rintro ds n Q hl ⟨b,d,h | ⟨tr,rfl,hb,hd1,hd2,hw,hsz,q⟩⟩
 ·obtain ⟨rfl, hb, q⟩ := h
  have nb:zu (xj b) = true:=rfl
  simp [startD,nb]
  refine ⟨b,rfl,hb,?_⟩
  simp
  refine ⟨fun m rho n'=>m = 0 /\ n' = n /\ rho = [some .non,some (xj b),some (zi (zA b)),some (.own []),some (.own []),none,none,none,none,none,none,none],⟨0,rfl,rfl,rfl⟩,?_⟩
  rintro m rho n' ⟨rfl,rfl,rfl⟩
  simp
  exact q
 ·have nb : zu (xj b) = true := rfl
  have nt:=xa tr
  have ni:wO (zY tr) = false:=by cases tr <;> rfl
  simp [startD,nb,nt,ni]
  refine ⟨b,rfl,by lia,?_⟩
  have hpl:=kn b
  have npl:zu (zi (zA b)) = true:=rfl
  have lk:∀ ps:List Pair,ps.length = d -> ∀ (n:Nat) (R:D -> Nat -> Prop),R (.str (wV ps (zA b))) n -> qw [zi ps,zi (zA b)] n R:=fun ps hp n R h=>⟨ps,_,rfl,by lia,by lia,by lia,h⟩
  generalize zA b = pl at *
  simp
  refine ⟨JLk pl d 1000 n (xl pl [] tr) _ _,⟨xu tr,rfl,[],[([],tr)],none,none,none,none,none,none,none,by simp [xT],by simpa using hw,?_,?_,?_,by simp,rfl⟩,?_⟩
  ·intro x hx
   rw [List.mem_singleton.mp hx]
   have:=wK tr
   simp; lia
  ·simp [Wn]
  ·simp [xT]; lia
  ·rintro m rho n' ⟨rfl, acc, stk, z1, z2, z3, z4, z5, z6, z7, rfl, hwk, hdp, hacc, hsum, hstk, rfl⟩
   subst hB
   simp
   split
   ·rename_i hpos
    have hpos':stk ≠ []:=by
     rintro rfl
     simp at hpos
    obtain ⟨stk,⟨p,t⟩,rfl⟩:∃ s x,stk = s ++ [x]:=⟨stk.dropLast,stk.getLast hpos',(List.dropLast_concat_getLast hpos').symm⟩
    have hwt:=hwk (p,t) (by simp)
    have hdt:=hdp (p,t) (by simp)
    rw [qQ] at hacc
    rw [wX] at hsum ⊢
    refine ⟨stk.map qb,qb (p,t),by rw [List.map_append]; rfl,?_⟩
    have hout:xT stk < xT stk + xu t:=by
     have:=wK t
     lia
    have haccL:acc.length < sizeLine:=lt_size (by have:=wK t; lia)
    obtain ⟨ta,tb,et,na,nb2⟩:=ZS t
    have hb1:=hwt.bd
    simp [qb,et,npl,na,nb2]
    refine lk (xJ t) hb1 _ _ ?_
    simp
    refine ⟨haccL,?_⟩
    split
    ·rename_i hc
     cases t with
     | one x bd=>exact absurd hc (by cases hwt; assumption)
     | two ns bd low high =>
      obtain ⟨hwl,hwh⟩:Walk d pl low /\ Walk d pl high:=by cases hwt with | two _ a b=>exact ⟨a,b⟩
      obtain ⟨rfl,rfl⟩:ta = zY low /\ tb = zY high:=by
       unfold zY at et
       injection et with e1
       injection e1 with _ e1
       injection e1 with _ e1
       injection e1 with e2 e1
       injection e1 with e3 _
       exact ⟨e2.symm,e3.symm⟩
      have hdl:p.length + 1 + wk low <= 1000 /\ p.length + 1 + wk high <= 1000:=by
       have hdt':p.length + (1 + max (wk low) (wk high)) <= 1000:=hdt
       lia
      have hs1:=WS stk
      have l1:1 <= xu low:=by have:=wK low; lia
      have l2:1 <= xu high:=by have:=wK high; lia
      have hsum':acc.length + (xT stk + (1 + xu low + xu high)) <= 1000:=hsum
      refine ⟨lt_size (by lia),zP (by lia),lt_size (by lia),zP (by lia),xT stk + xu high + xu low,by show _ < xT stk + (1 + xu low + xu high); lia,JLk.mk2 (acc ++ [(p,.two ns bd low high,wV bd pl)]) (stk ++ [(p ++ [1],high)] ++ [(p ++ [0],low)]) ?_ (fun y hy=>?_) (fun y hy=>?_) ?_ ?_ ?_ ?_ ?_⟩
      ·rw [wX,wX]
      ·simp at hy
       rcases hy with hy | rfl | rfl
       ·exact hwk y (by simp [hy])
       ·exact hwh
       ·exact hwl
      ·simp at hy
       rcases hy with hy | rfl | rfl
       ·exact hdp y (by simp [hy])
       ·simp; lia
       ·simp; lia
      ·rw [<- hacc, qQ, qQ]
       have:xl pl p (.two ns bd low high) = (p,.two ns bd low high,wV bd pl) :: (xl pl (p ++ [0]) low ++ xl pl (p ++ [1]) high):=by
        conv=>lhs; unfold xl
        exact congrArg _ (if_pos hc)
       rw [this]
       simp
      ·rw [wX,wX]; simp; lia
      ·simp; lia
      ·rw [List.map_append]; rfl
      ·rw [List.map_append, List.map_append]
       simp [qb]
    ·rename_i hc
     refine ⟨xT stk,hout,JLk.mk2 (acc ++ [(p,t,wV (xJ t) pl)]) stk rfl (fun y hy=>hwk y (by simp [hy])) (fun y hy=>hdp y (by simp [hy])) ?_ ?_ (by simp at hstk; lia) ?_ rfl⟩
     ·rw [<- hacc]
      have:xl pl p t = [(p,t,wV (xJ t) pl)]:=by
       cases t with
       | one x bd=>rfl
       | two ns bd low high =>
        conv=>lhs; unfold xl
        exact congrArg _ (if_neg hc)
      rw [this]
      simp
     ·have l1 : 1 <= xu t := by have := wK t; lia
      simp at hsum ⊢; lia
     ·rw [<- et,List.map_append]; rfl
   ·rename_i hpos
    have hs:stk = []:=by
     cases stk with
     | nil=>rfl
     | cons a b=>simp at hpos
    subst hs
    simp [Wn] at hacc
    rw [hacc]
    exact q
end
end K46
set_option maxRecDepth 100000
set_option maxHeartbeats 1000000
namespace K46
open PySem L2 PySem.Spec PyProof.Rows
def xa9 (i:Nat) (t:Thing):SRow:=⟨.n (t.2.1[i]?.getD 0),t.1,[]⟩
structure JBd (d:Nat) (ts:List Thing) (i:Nat) (rho:Rho) (n:Nat) (n0:Nat):Prop where
 e:n = n0
 r:∃ (u v:Option D),rho = [some (.lst (ts.map zM)),some (.lst (ts.map fun t=>xG t.2.1)),some (.own (((yB d (ts.map fun t=>t.2.1)).map zr).take i)),u,v]
section
variable {P:Program} {w:World} {K:PySem.W.Frag} {mg:Str -> Option Value} {base:Heap}
abbrev xE:Stmt:=top 45
abbrev wq:List Str:=["_law_things", "_law_places", "_law_edges", "_law_i", "_law_numbers"]
theorem sc__law_bounds:FnScope wq ["_law_things"] (zg xE):=⟨rfl,rfl,rfl,by decide +kernel,rfl,by decide +kernel,by decide +kernel⟩
theorem qq:("_law_thing" :: wq:List Str).Nodup:=by decide +kernel
theorem qp:("_law_place" :: wq:List Str).Nodup:=by decide +kernel
def zi0:TF:=fun ds n Q=>∃ (d:Nat) (ts:List Thing),ds = [.lst (ts.map zM)] /\ d <= 4 /\ (∀ t ∈ ts,t.2.1.length = d) /\ 1 <= ts.length /\ ts.length <= 60 /\ Q (zi (yB d (ts.map fun t=>t.2.1))) n
theorem zy0 {f:Addr} {fd:FuncData} (T:Blt mg) (F:Fun K "_law_bounds" "_law_bounds" xE f fd):FnOk P w K mg base CX0 1 f fd ["_law_things"] (spD K 1 zi0):=by
 refine Fun.okD F sc__law_bounds (fun cdv A0 outer s H E G Z hr=>(zf (vU (i:=1) sc__law_bounds.nd rfl (lo rfl) (own:=["_law_thing"]) (M:=wq) (wg (by rfl)) rfl (xn rfl (zc 0)) (fun C s2 H2 fp=>(zj (i:=0) qq rfl (lo rfl) (by decide))) (fun C s2 H2 fp=>zZ) (fun C s2 H2 fp=>(zE zn zD (zc 0) ze (fun _ _=>rfl))))
  (zf (kO (i:=2) sc__law_bounds.nd rfl (lo rfl) zd)
  (zf (wN (m:=5) PassesOwn.never rfl (yj T.range (zb (zw zI wQ T.len wL (zb (zE zn zD (zc 1) ze (fun _ _=>rfl)) zd)) zd)) (zj (i:=3) sc__law_bounds.nd rfl (lo rfl) (by decide))
  (zf (vU (i:=4) sc__law_bounds.nd rfl (lo rfl) (own:=["_law_place"]) (M:=wq) (wg (by rfl)) rfl (xn rfl (zc 1)) (fun C s2 H2 fp=>(zj (i:=0) qp rfl (lo rfl) (by decide))) (fun C s2 H2 fp=>zZ) (fun C s2 H2 fp=>(zE zn zD (zc 0) (zc 4) (fun _ _=>rfl))))
  (zh (xr (i:=2) (zb (zL (zb (zw (JO rfl) zo9 T.min JS (zb (zc 4) zd)) (zb (zw (JP rfl) zp0 T.max JT (zb (zc 4) zd)) zd))) zd) rfl))))
  (zh (vd 2 (zk (zW zQ xN T.tuple xo (zb (zc 2) zd))))))))) ?_
 rintro ds n Q hl ⟨d,ts,rfl,hd,hlen,h1,h60,q⟩
 generalize hR:XT (zJ3 2 _) _ = Rr
 simp [startD]
 refine zS zM (fun t=>xG t.2.1) ts (zP (by lia)) (fun t ht R hR=>?_) ?_
 ·simp
  exact ⟨_,1,_,.inr (.inl rfl),rfl,rfl,hR⟩
 ·subst hR
  simp
  obtain ⟨t0,r0,e0⟩:∃ t0 r0,ts = t0 :: r0:=by cases ts with | nil=>simp at h1 | cons a b=>exact ⟨a,b,rfl⟩
  have m0:t0 ∈ ts:=by rw [e0]; simp
  have hk:∀ k:D -> Prop,k (.int d) -> zc2 [xG t0.2.1] k:=fun k h=>by unfold xG; rw [q_kLenT,List.length_map,hlen t0 m0]; exact h
  refine ⟨xG t0.2.1,yT (j:=0) (by rw [e0]; rfl),hk _ ⟨d,rfl,by lia,by lia,?_⟩⟩
  refine ⟨fun i rho n'=>JBd d ts i rho n' n,⟨rfl,none,none,rfl⟩,?_,?_⟩
  ·rintro i d' rho n' e ⟨rfl, u, v, rfl⟩
   obtain ⟨hi,rfl⟩:=WV e
   replace hi:i < d:=by simpa using hi
   have ec:(ts.map fun t=>D.int (t.2.1[i]?.getD 0)) = (Yn (ts.map fun t=>t.2.1) i).map D.int:=by unfold Yn; rw [List.map_map,List.map_map]; rfl
   have hc:0 < (Yn (ts.map fun t=>t.2.1) i).length:=by unfold Yn; rw [List.length_map,List.length_map]; exact h1
   have hb:(yB d (ts.map fun t=>t.2.1))[i]? = some (some (Qk (Yn (ts.map fun t=>t.2.1) i)),some (Ql (Yn (ts.map fun t=>t.2.1) i))):=by unfold yB; rw [List.getElem?_map,List.getElem?_range hi]; rfl
   generalize hS:Wl 2 _ = S
   simp
   refine zS (fun t:Thing=>xG t.2.1) (fun t=>.int (t.2.1[i]?.getD 0)) ts (zP (by lia)) (fun t ht R hR=>?_) ?_
   ·simp
    unfold xG
    rw [UW]
    refine ⟨.int (t.2.1[i]?.getD 0),yT ?_,hR⟩
    rw [List.getElem?_map,List.getElem?_eq_getElem (by rw [hlen t ht]; exact hi)]
    rfl
   ·rw [ec]
    subst hS
    simp
    refine ⟨lt_size (by rw [xR]; lia),Ua hc (Ub hc ⟨rfl,some (.int i),some (.lst ((Yn (ts.map fun t=>t.2.1) i).map D.int)),?_⟩)⟩
    rw [List.take_add_one,List.getElem?_map,hb]
    rfl
  ·rintro rho n' ⟨rfl, u, v, rfl⟩
   rw [kJ]
   simp
   rw [List.take_of_length_le (by rw [List.length_map,xR]; exact Nat.le_refl _)]
   exact q
abbrev wa:Stmt:=top 46
abbrev vA:List Str:=["_law_left_here", "_law_d", "_law_things", "_law_turn", "_law_names", "_law_i", "_law_row", "_law_cut", "_law_low"]
theorem sc__law_grown:FnScope vA ["_law_left_here", "_law_d", "_law_things", "_law_turn"] (zg wa):=⟨rfl,rfl,rfl,by decide +kernel,rfl,by decide +kernel,by decide +kernel⟩
theorem jh:("_law_thing" :: vA:List Str).Nodup:=by decide +kernel
def qL:Nat -> TF
 | 0=>fun _ _ _=>False
 | j + 1=>fun ds n Q=>∃ (d:Nat) (ts:List Thing) (k:Int),ds = [.st,.int d,.lst (ts.map zM),.int k] /\ n = 3 /\ 1 <= d /\ d <= 4 /\ GoodU d ts /\ 1 <= ts.length /\ ts.length <= 60 /\ ts.length <= j + 1 /\ ∀ tr:Tr,TreeOf d ts tr -> Q (zY tr) n
theorem za1 {f c Pt : Addr} {fd : FuncData} (T : Blt mg) (F : Fun K "_law_grown" "_law_grown" wa f fd) (hns : PySem.W.nsIn K mainGlobals "_law_grown" = some (some (.ref f))) (htb : PySem.W.tabIn K "_law_grown" = some (c, Pt)) (LB : LamBase base mg c Pt) (hm : mg "_law_grown" = some (.ref f)) (hk : PySem.W.keepIn K (.ref f) = true) (hb : Binds K fd ["_law_left_here", "_law_d", "_law_things", "_law_turn"] []) (F__law_pick : Fn P w K mg base "_law_pick" 1 2 vM) (F__law_bounds : Fn P w K mg base "_law_bounds" 1 1 zi0) : ∀ j : Nat, FnOk P w K mg base CX0 (j + 4) f fd ["_law_left_here", "_law_d", "_law_things", "_law_turn"] (spD K 4 (qL j)) := by
  intro j
  induction j with
  | zero=>exact FnOk.botK fun ds n Q h=>h
  | succ j ih =>
    have F__law_grown:Fn P w K mg base "_law_grown" (j + 4) 4 (qL j):=⟨f,fd,_,ih,hm,hk,hb⟩
    have TI:yn K Pt (("_law_grown" ++ ".<locals>.") ++ "<lambda>"):=⟨"_law_grown",by simp [yz],c,htb,rfl⟩
    refine Fun.okL F hns htb sc__law_grown (fun A0 outer s H E G Z hr=>(zf (zF (i:=4) sc__law_grown.nd rfl (lo rfl) (zW zQ xN T.tuple xo (zb (zw jw Xv T.sorted jx (zb (xQ (own:=["_law_thing"]) (M:=vA) (wg (by rfl)) rfl (xn rfl (zc 2)) (fun C s2 H2 fp=>(zj (i:=0) jh rfl (lo rfl) (by decide))) (fun C s2 H2 fp=>zZ) (fun C s2 H2 fp=>(zE zn zD (zc 0) ze (fun _ _=>rfl)))) zd)) zd)))
    (zf (zX (zt kQ kN (zw zI wQ T.len wL (zb (zc 2) zd)) ze (zv _)) (zh (zk (zL (zb (zc 4) (zb (zy F__law_bounds (hr.mono (by lia)) rfl (zb (zc 2) zd)) (zb zT (zb zT zd))))))) zB)
    (zf (zF (i:=5) sc__law_grown.nd rfl (lo rfl) (zE zn zD (wm (zb (yq (zc 3) (zc 1)) (zb (zy F__law_pick (hr.mono (by lia)) rfl (zb (zc 0) (zb (zc 1) zd))) zd))) (zy F__law_pick (hr.mono (by lia)) rfl (zb (zc 0) (zb ze zd))) (fun _ _=>rfl)))
    (zf (zF (i:=6) sc__law_grown.nd rfl (lo rfl) (VP (N:=["_law_thing", "_law_i"]) (p := "_law_thing") (clos:=[("_law_i",s.heap.objs.size + 1)]) (caps:=[5]) (k:=0) TI rfl T.sorted (hr.mono (by lia)) (zb (zc 2) zd) LB (zb8 (by rfl) zd7) (Caps.one rfl rfl rfl) (fun A1 f1 c1 s1 H1 G1 Z1 hr=>(zL (zb (zE zn zD (zE zn zD (zc 0) ze (fun _ _=>rfl)) (zc 1) (fun _ _=>rfl)) (zb (zE zn zD (zc 0) ze (fun _ _=>rfl)) zd))))))
    (zf (zX (zt kQ kN (zy F__law_pick (hr.mono (by lia)) rfl (zb (zc 0) (zb ze zd))) ze (zv _)) (zh (zF (i:=6) sc__law_grown.nd rfl (lo rfl) (vh Ko UU (zR7 rfl (zc 6)) (zR8 rfl (zc 6))))) zB)
    (zf (zF (i:=7) sc__law_grown.nd rfl (lo rfl) (zE zn zD (wm (zb (qi (wP (zw zI wQ T.len wL (zb (zc 6) zd)) ze) ze) (zb (wP ze (zy F__law_pick (hr.mono (by lia)) rfl (zb (zc 0) (zb (jU (zw zI wQ T.len wL (zb (zc 6) zd)) ze) zd)))) zd))) (zy F__law_pick (hr.mono (by lia)) rfl (zb (zc 0) (zb ze zd))) (fun _ _=>rfl)))
    (zf (zF (i:=8) sc__law_grown.nd rfl (lo rfl) (zy F__law_grown hr rfl (zb (zc 0) (zb (zc 1) (zb (zf6 rfl (zc 6) ZH (ZG (zc 7))) (zb (wP (zc 3) ze) zd))))))
    (zh (zk (zL (zb (zc 4) (zb (zy F__law_bounds (hr.mono (by lia)) rfl (zb (zc 2) zd)) (zb (zc 8) (zb (zy F__law_grown hr rfl (zb (zc 0) (zb (zc 1) (zb (zf6 rfl (zc 6) (ZG (zc 7)) ZH) (zb (wP (zc 3) ze) zd))))) zd))))))))))))))) ?_
    rintro ds n Q hl ⟨d,ts,kt,rfl,rfl,hd1,hd,hg,h1,h60,hj,q⟩
    have nmE:(ts.map fun t=>D.int t.1) = (ts.map fun t=>t.1).map D.int:=by rw [List.map_map]; rfl
    generalize hR:XT (WT 5 _) _ = Rr
    have main : ∀ (F : EndsD) (ns : List Int), F.rt = Q -> 2 <= ts.length -> ns.Perm (ts.map fun t => t.1) -> ns.Pairwise (· <= ·) ->
        Rr F [some .st,some (.int d),some (.lst (ts.map zM)),some (.int kt),some (.tup (ns.map D.int)),none,none,none,none] 3:=fun F ns hF h2 hp hs=>by
      subst hR
      generalize hR6:XT (WT 6 _) _ = R6
      simp
      refine ⟨hd1,zx (by lia) (by lia) fun k1 g0 g1=>zx (by decide) (by decide) fun k2 g2 g3=>?_⟩
      have hpk:∀ R:D -> Prop,(∀ i:Nat,i < d -> R (.int i)) -> ql (.lst [.int (kt % d),.int k1]) (.int k2) R:=fun R hR=>zk6 g2 (by simpa using g3) fun dd hdd=>by
        simp only [List.mem_cons,List.not_mem_nil,or_false] at hdd
        have e0:0 <= kt % (d:Int):=Int.emod_nonneg _ (by lia)
        have e1:kt % (d:Int) < d:=Int.emod_lt_of_pos _ (by lia)
        rcases hdd with rfl | rfl
        · obtain ⟨i, e⟩ := Int.eq_ofNat_of_zero_le e0
          rw [e]
          exact hR i (by lia)
        · obtain ⟨i, e⟩ := Int.eq_ofNat_of_zero_le g0
          rw [e]
          exact hR i (by lia)
      refine hpk _ fun i hi=>?_
      subst hR6
      generalize hR7:XT (sIf _ _ _) _ = R7
      have rest:∀ (F:EndsD) (us:List Thing),F.rt = Q -> us.Perm ts -> R7 F [some .st,some (.int d),some (.lst (ts.map zM)),some (.int kt),some (.tup (ns.map D.int)),some (.int i),some (.lst (us.map zM)),none,none] 3:=fun F us hF hu=>by
        subst hR7
        generalize hR8:XT (WT 7 _) _ = R8
        have rest2:∀ (F:EndsD) (us:List Thing),F.rt = Q -> us.Perm ts -> R8 F [some .st,some (.int d),some (.lst (ts.map zM)),some (.int kt),some (.tup (ns.map D.int)),some (.int i),some (.lst (us.map zM)),none,none] 3:=fun F us hF hu=>by
          subst hR8
          have hul:=hu.length_eq
          generalize hR9:XT (WT 8 _) _ = R9
          simp
          refine ⟨⟨by decide,by decide⟩,zx (by lia) (by lia) fun k1 g0 g1=>?_⟩
          simp
          refine zx (by decide) (by decide) fun k2 g2 g3=>?_
          have hpk:∀ R:D -> Prop,(∀ m:Nat,1 <= m -> m < ts.length -> R (.int m)) -> ql (.lst [.int (((us.length:Int) + 1) / 2),.int (1 + k1)]) (.int k2) R:=fun R hR=>zk6 g2 (by simpa using g3) fun dd hdd=>by
            simp only [List.mem_cons,List.not_mem_nil,or_false] at hdd
            rcases hdd with rfl | rfl
            · obtain ⟨m, e⟩ := Int.eq_ofNat_of_zero_le (show 0 <= ((us.length : Int) + 1) / 2 by lia)
              rw [e]
              exact hR m (by lia) (by lia)
            · obtain ⟨m, e⟩ := Int.eq_ofNat_of_zero_le (show 0 <= 1 + k1 by lia)
              rw [e]
              exact hR m (by lia) (by lia)
          refine hpk _ fun m hm1 hm2=>?_
          subst hR9
          have hcut1:Ym (us.map zM) none (some (m:Int)) = (us.take m).map zM:=by rw [zC8 _ _ (by rw [List.length_map]; lia),List.map_take]
          have hcut2:Ym (us.map zM) (some (m:Int)) none = (us.drop m).map zM:=by rw [zd3 _ _ (by rw [List.length_map]; lia),List.map_drop]
          have gu:=hg.perm hu
          have part:∀ (vs:List Thing) (R:D -> Nat -> Prop),vs.Sublist us -> 1 <= vs.length -> vs.length < ts.length -> (∀ tr,TreeOf d vs tr -> R (zY tr) 3) -> qL j [.st,.int d,.lst (vs.map zM),.int (kt + 1)] 3 R:=fun vs R hv h3 h4 hR=>by
            cases j with
            | zero=>lia
            | succ j=>exact ⟨d,vs,kt + 1,rfl,rfl,hd1,hd,gu.sub hv,h3,by lia,by lia,hR⟩
          have lt:(us.take m).length = m:=by rw [List.length_take]; lia
          have ld:(us.drop m).length = ts.length - m:=by rw [List.length_drop]; lia
          simp
          rw [hcut1]
          refine part _ _ (List.take_sublist ..) (by lia) (by lia) fun low hlow=>?_
          simp [xa]
          refine ⟨d,ts,rfl,hd,hg.each,h1,h60,?_⟩
          rw [hcut2]
          refine part _ _ (List.drop_sublist ..) (by lia) (by lia) fun high hhigh=>?_
          rw [hF]
          exact q _ (.two (by rw [List.take_append_drop]; exact hu) hp hs hlow hhigh)
        simp
        refine zx (by decide) (by decide) fun k g0 g1=>?_
        simp
        split
        · rw [ZR, ZR, <- List.map_append]
          have ul:=hu.length_eq
          refine ⟨zP ?_,rest2 F _ hF ((Xn us).trans hu)⟩
          have z1:=qC true us
          have z2:=qC false us
          simp only [List.length_map]
          lia
        · exact rest2 F us hF hu
      simp
      refine We zM (xa9 i) true [.int i] ts (0,[],0) (by lia) (fun t ht=>rfl) hg.nd rfl (fun i' j' e=>?_) (fun t ht=>?_) fun us hu _=>rest _ us hF hu
      · cases i' with
        | zero=>cases e; exact ⟨_,rfl,rfl,rfl⟩
        | succ i'=>simp at e
      · simp
        have hil:i < t.2.1.length:=by rw [hg.each t ht]; exact hi
        refine ⟨_,1,_,.inr (.inl rfl),rfl,rfl,?_⟩
        refine ⟨_,_,_,.inr (.inl rfl),rfl,yT (by rw [List.getElem?_map,List.getElem?_eq_getElem hil]; rfl),?_⟩
        refine ⟨_,0,_,.inr (.inl rfl),rfl,rfl,?_⟩
        unfold xa9
        rw [List.getElem?_eq_getElem hil]
        rfl
    simp [startD]
    refine zS zM (fun t=>.int t.1) ts (zP (by lia)) (fun t ht R hR=>?_) ?_
    · simp
      exact ⟨_,0,_,.inr (.inl rfl),rfl,rfl,hR⟩
    · rw [nmE]
      refine ⟨ts.map fun t=>t.1,rfl,by simp; lia,fun ns hp hs'=>?_⟩
      simp
      split
      · rename_i h2
        have h2':ts.length = 1:=by lia
        obtain ⟨t,rfl⟩:=List.length_eq_one_iff.mp h2'
        have e1:ns = [t.1]:=by simpa using hp
        subst e1
        refine ⟨d,[t],rfl,hd,hg.each,by simp,by simp,?_⟩
        exact q _ (.one (hg.each t (by simp)))
      · rename_i h2
        exact main _ ns rfl (by lia) hp hs'
abbrev wD:Stmt:=top 47
abbrev WL:List Str:=["_law_left_here", "_law_house_here"]
theorem YE:FnScope WL ["_law_left_here", "_law_house_here"] (zg wD):=⟨rfl,rfl,rfl,by decide +kernel,rfl,by decide +kernel,by decide +kernel⟩
def Zo:TF:=fun ds n Q=>∃ (d:Nat) (ts:List Thing),ds = [.st,xb d ts] /\ n = 3 /\ 1 <= d /\ d <= 4 /\ GoodU d ts /\ ts.length <= 30 /\ (ts = [] -> Q .non 3) /\ (ts ≠ [] -> ∀ tr:Tr,TreeOf d ts tr -> Q (zY tr) 3)
theorem QY {f:Addr} {fd:FuncData} (T:Blt mg) (F:Fun K "_law_tree" "_law_tree" wD f fd) (F__law_grown:Fn P w K mg base "_law_grown" 34 4 (qL 30)):FnOk P w K mg base CX0 35 f fd ["_law_left_here", "_law_house_here"] (spD K 2 Zo):=by
 refine Fun.okD F YE (fun cdv A0 outer s H E G Z hr=>(zf (zX (zt (zx1 hr) zs8 (zE zn zD (zc 1) ze (fun _ _=>rfl)) (zL zd) (zv _)) (zh (zk zT)) zB)
  (zh (zk (zy F__law_grown (hr.mono (by decide)) rfl (zb (zc 0) (zb (zE zn zD (zc 1) ze (fun _ _=>rfl)) (zb (zW vq JE T.list WD (zb (zE zn zD (zc 1) ze (fun _ _=>rfl)) zd)) (zb ze zd))))))))) ?_
 rintro ds n Q hl ⟨d,ts,rfl,rfl,h1,hd,hg,hz,q0,q1⟩
 have nh:=vI d ts
 simp [startD,nh]
 refine Je ?_
 simp
 split
 ·rename_i h
  exact q0 h
 ·rename_i h
  have hlen:1 <= ts.length:=by
   cases ts with
   | nil=>exact absurd rfl h
   | cons a b=>simp
  refine Vr (Je ?_)
  simp
  exact ⟨d,ts,0,rfl,rfl,h1,hd,hg,hlen,by lia,by lia,q1 h⟩
end
end K46
set_option maxRecDepth 100000
set_option maxHeartbeats 1000000
namespace K46
open PySem L2 PySem.Spec PyProof.Rows
def belowP (p:Pair) (hi:Int):Bool:=match p.1 with | none=>false | some l=>decide (hi < l)
def aboveP (p:Pair) (lo:Int):Bool:=match p.2 with | none=>false | some g=>decide (g < lo)
def Uv (lo hi:Int) (q:Pair) (s:Nat):Bool:=if q = emptyP then true else if s = 0 then belowP q hi else aboveP q lo
def ZI (bd pl:List Pair) (i s:Nat):Bool:=match bd[i]?,pl[i]? with
 | some (some a,some b),some q=>Uv a b q s
 | _,_=>false
def kf (bd pl:List Pair) (k:Nat):Bool:=ZI bd pl (k / 2) (k % 2)
def kC (bd:List Pair):Prop:=∀ (i:Nat) (b:Pair),bd[i]? = some b -> ∃ lo hi:Int,b = (some lo,some hi) /\ lo <= hi
theorem yr {bd pl:List Pair} {i s:Nat} {lo hi:Int} {q:Pair} (h1:bd[i]? = some (some lo,some hi)) (h2:pl[i]? = some q):ZI bd pl i s = Uv lo hi q s:=by unfold ZI; rw [h1,h2]
def XV (bd pl:List Pair):List (Nat × Nat):=(List.range pl.length).flatMap fun i=>([0,1].filter fun s=>ZI bd pl i s).map fun s=>(i,s)
theorem UA (f:Nat -> Nat -> Bool):∀ n:Nat,((List.range n).flatMap fun i=>([0,1].filter fun s=>f i s).map fun s=>(i,s)) = ((List.range (2 * n)).filter fun k=>f (k / 2) (k % 2)).map fun k=>(k / 2,k % 2)
 | 0=>rfl
 | n + 1=>by
  have e:2 * (n + 1) = 2 * n + 1 + 1:=by lia
  have e1:(2 * n) / 2 = n:=by lia
  have e2:(2 * n) % 2 = 0:=by lia
  have e3:(2 * n + 1) / 2 = n:=by lia
  have e4:(2 * n + 1) % 2 = 1:=by lia
  rw [e,List.range_succ,List.range_succ,List.range_succ,List.flatMap_append,UA f n]
  cases h0:f n 0 <;> cases h1:f n 1 <;> simp [e1,e2,e3,e4,h0,h1]
def yt (bd pl:List Pair):Option Nat:=(List.range (2 * pl.length)).find? (kf bd pl)
theorem VA {bd pl:List Pair} {k:Nat} (h:yt bd pl = some k):∃ r,XV bd pl = (k / 2,k % 2) :: r:=by
 unfold XV
 rw [UA]
 unfold yt at h
 rw [<- List.head?_filter] at h
 cases hf:(List.range (2 * pl.length)).filter (kf bd pl) with
 | nil=>rw [hf] at h; cases h
 | cons a r =>
  rw [hf] at h
  cases h
  have hf':((List.range (2 * pl.length)).filter fun k=>ZI bd pl (k / 2) (k % 2)) = k :: r:=hf
  rw [hf']
  exact ⟨_,rfl⟩
theorem Qp (bd pl:List Pair):(XV bd pl).length <= 2 * pl.length:=by
 unfold XV
 rw [UA,List.length_map]
 exact Nat.le_trans (List.length_filter_le ..) (by rw [List.length_range]; exact Nat.le_refl _)
theorem Ud {bd pl:List Pair} {k:Nat} (h:yt bd pl = some k):((List.range (2 * pl.length)).map (kf bd pl))[k]? = some true /\ (∀ m,m < k -> ((List.range (2 * pl.length)).map (kf bd pl))[m]? = some false):=by
 obtain ⟨h1,h2,h3⟩:=List.find?_range_eq_some.mp h
 have hk:k < 2 * pl.length:=List.mem_range.mp h2
 refine ⟨by rw [List.getElem?_map,List.getElem?_range hk]; simp [h1],fun m hm=>?_⟩
 rw [List.getElem?_map,List.getElem?_range (by lia)]
 have:=h3 m hm
 simp at this
 simp [this]
theorem ki {pl:List Pair} (hs:zN pl = pl) {i:Nat} {q:Pair} (h:pl[i]? = some q) (hc:crossedT q = true):q = emptyP:=by
 have ha:pl.any crossedT = true:=any_at.mpr ⟨i,q,h,hc⟩
 rw [yh ha] at hs
 rw [<- hs,List.getElem?_replicate] at h
 split at h
 ·exact (Option.some.inj h).symm
 ·cases h
theorem ju {lo hi:Int} (hlh:lo <= hi) {q:Pair} (hq:crossedT q = true -> q = emptyP):crossedT (commonP (some lo,some hi) q) = true ↔ ∃ s:Nat,s < 2 /\ Uv lo hi q s = true:=by
 by_cases he:q = emptyP
 ·subst he
  refine ⟨fun _=>⟨0,by decide,by simp [Uv]⟩,fun _=>vO _⟩
 ·have hq' : crossedT q = false := by
   cases h:crossedT q with
   | false=>rfl
   | true=>exact absurd (hq h) he
  have e:∀ s:Nat,Uv lo hi q s = if s = 0 then belowP q hi else aboveP q lo:=fun s=>by unfold Uv; rw [if_neg he]
  have e2:(∃ s:Nat,s < 2 /\ Uv lo hi q s = true) ↔ (belowP q hi = true \/ aboveP q lo = true):=by
   constructor
   ·rintro ⟨s, hs, h⟩
    rw [e] at h
    split at h
    ·exact .inl h
    ·exact .inr h
   ·rintro (h | h)
    ·exact ⟨0,by decide,by rw [e]; exact h⟩
    ·exact ⟨1,by decide,by rw [e]; exact h⟩
  rw [e2]
  obtain ⟨a,b⟩:=q
  rcases a with _ | a <;> rcases b with _ | b <;> simp [commonP,maxO,minO,crossedT,belowP,aboveP] at hq' ⊢ <;> (try split) <;> (try split) <;> lia
theorem jz {bd pl:List Pair} (hl:bd.length = pl.length) (h1:1 <= bd.length) (hE:kC bd) (hs:zN pl = pl):wj bd pl = true ↔ ∃ k,k < 2 * pl.length /\ kf bd pl k = true:=by
 rw [kz hl h1,any_at]
 constructor
 ·rintro ⟨i, c, hc, hx⟩
  obtain ⟨b,q,hb,hq,rfl⟩:=zh8 hc
  obtain ⟨lo,hi,rfl,hlh⟩:=hE i b hb
  obtain ⟨s,hs2,ho⟩:=(ju hlh (ki hs hq)).mp hx
  have hi':=(List.getElem?_eq_some_iff.mp hq).1
  refine ⟨2 * i + s,by lia,?_⟩
  have e1:(2 * i + s) / 2 = i:=by lia
  have e2:(2 * i + s) % 2 = s:=by lia
  unfold kf
  rw [e1,e2,yr hb hq]
  exact ho
 ·rintro ⟨k, hk, ho⟩
  have hi1:k / 2 < pl.length:=by lia
  have hb:bd[k / 2]? = some bd[k / 2]:=List.getElem?_eq_getElem (by lia)
  have hq:pl[k / 2]? = some pl[k / 2]:=List.getElem?_eq_getElem hi1
  obtain ⟨lo,hi,eb,hlh⟩:=hE _ _ hb
  rw [eb] at hb
  unfold kf at ho
  rw [yr hb hq] at ho
  exact ⟨k / 2,_,qH hb hq,(ju hlh (ki hs hq)).mpr ⟨k % 2,by lia,ho⟩⟩
theorem kb {bd pl:List Pair} (hl:bd.length = pl.length) (h1:1 <= bd.length) (hE:kC bd) (hs:zN pl = pl) (ha:wj bd pl = true):∃ k,yt bd pl = some k:=by
 obtain ⟨k,hk,ho⟩:=(jz hl h1 hE hs).mp ha
 cases h:yt bd pl with
 | some k=>exact ⟨k,rfl⟩
 | none =>
  unfold yt at h
  rw [List.find?_eq_none] at h
  exact absurd ho (h k (List.mem_range.mpr hk))
theorem Qa {bd pl:List Pair} (hl:bd.length = pl.length) (h1:1 <= bd.length) (hE:kC bd) (hs:zN pl = pl):((List.range (2 * pl.length)).map (kf bd pl)).any id = wj bd pl:=by
 rw [Bool.eq_iff_iff,jz hl h1 hE hs,List.any_eq_true]
 constructor
 ·rintro ⟨b, hb, e⟩
  obtain ⟨k,hk,rfl⟩:=List.mem_map.mp hb
  exact ⟨k,List.mem_range.mp hk,e⟩
 ·rintro ⟨k, hk, e⟩
  exact ⟨_,List.mem_map.mpr ⟨k,List.mem_range.mpr hk,rfl⟩,e⟩
def insP (lo hi:Int) (q:Pair):Bool:=(match q.1 with | none=>true | some a=>decide (a <= lo)) && (match q.2 with | none=>true | some b=>decide (hi <= b))
theorem ins_common {lo hi:Int} {q:Pair}:commonP (some lo,some hi) q = (some lo,some hi) ↔ insP lo hi q = true:=by
 obtain ⟨a,b⟩:=q
 rcases a with _ | a <;> rcases b with _ | b <;> simp [commonP,maxO,minO,insP] <;> lia
theorem kD {bd pl:List Pair} (hl:bd.length = pl.length) (h1:1 <= bd.length) (hE:kC bd) (ha:wj bd pl = false):wv bd pl = true ↔ ∀ (i:Nat) lo hi q,bd[i]? = some (some lo,some hi) -> pl[i]? = some q -> insP lo hi q = true:=by
 have hc:¬ (List.zipWith commonP bd pl).any crossedT = true:=by rw [<- kz hl h1,ha]; decide
 have e:wH bd pl = List.zipWith commonP bd pl:=by unfold wH; rw [xO hc]
 unfold wv
 rw [e,decide_eq_true_eq]
 constructor
 ·intro h i lo hi q hb hq
  have:=qH hb hq
  rw [h,hb] at this
  exact ins_common.mp (Option.some.inj this).symm
 ·intro h
  refine List.ext_getElem? fun i=>?_
  cases hb:bd[i]? with
  | none =>
   rw [List.getElem?_eq_none_iff] at hb ⊢
   rw [List.length_zipWith]; lia
  | some b =>
   obtain ⟨q,hq⟩:=JW hl hb
   obtain ⟨lo,hi,rfl,_⟩:=hE i b hb
   rw [qH hb hq,ins_common.mpr (h i lo hi q hb hq)]
abbrev Part:=List Int × Option Nat
def zm (x:Part):D:=match x.2 with
 | none=>.tup [.tup (x.1.map D.int),.str "in"]
 | some k=>.tup [.tup (x.1.map D.int),.str "out",.int ((k / 2:Nat):Int),.int ((k % 2:Nat):Int)]
def xf (pl:List Pair) (xs:List Seen):List Part:=xs.flatMap fun x:Seen=>if x.2.2 = ("in" : Str) then [(x.1,none)] else if x.2.2 = ("out" : Str) then [(x.1,some ((yt (xJ x.2.1) pl).getD 0))] else []
theorem Ug (pl:List Pair) (xs:List Seen) (x:Seen):xf pl (xs ++ [x]) = xf pl xs ++ xf pl [x]:=by unfold xf; rw [List.flatMap_append]
theorem ku (pl:List Pair):∀ xs:List Seen,(xf pl xs).length <= xs.length
 | []=>Nat.le_refl 0
 | x :: xs => by
  have ih:=ku pl xs
  unfold xf at ih ⊢
  rw [List.flatMap_cons,List.length_append,List.length_cons]
  have:(if x.2.2 = ("in" : Str) then [((x.1,none):Part)] else if x.2.2 = ("out" : Str) then [(x.1,some ((yt (xJ x.2.1) pl).getD 0))] else []).length <= 1:=by
   split
   ·exact Nat.le_refl 1
   ·split
    ·exact Nat.le_refl 1
    ·exact Nat.zero_le 1
  lia
inductive Sound:Tr -> Prop where
 | one {x:Int} {bd:List Pair}:kC bd -> Sound (.one x bd)
 | two {ns:List Int} {bd:List Pair} {low high:Tr}:kC bd -> Sound low -> Sound high -> Sound (.two ns bd low high)
theorem Sound.bd {t:Tr} (h:Sound t):kC (xJ t):=by cases h <;> assumption
theorem ky {d:Nat} {ts:List Thing} (h:1 <= ts.length):kC (yB d (ts.map fun t=>t.2.1)):=fun i b hb=>by
 have hi:i < d:=by have:=(List.getElem?_eq_some_iff.mp hb).1; rw [xR] at this; exact this
 rw [Zj ts hi] at hb
 exact ⟨_,_,(Option.some.inj hb).symm,zn2 h⟩
theorem TreeOf.sound {d:Nat} {ts:List Thing} {tr:Tr} (h:TreeOf d ts tr):Sound tr:=by
 induction h with
 | @one t h=>exact .one (ky (ts:=[t]) (by simp))
 | two p hn hs h1 h2 i1 i2=>exact .two (ky (by have:=p.length_eq; rw [List.length_append] at this; have:=h1.ne; lia)) i1 i2
theorem TreeOf.deep {d:Nat} {ts:List Thing} {tr:Tr} (h:TreeOf d ts tr):wk tr < ts.length:=by
 induction h with
 | one=>exact Nat.zero_lt_one
 | @two ts ls hs ns low high p _ _ h1 h2 i1 i2 =>
  have:=p.length_eq
  rw [List.length_append] at this
  show 1 + max (wk low) (wk high) < ts.length
  lia
theorem qO {d:Nat} {pl:List Pair}:∀ {t:Tr} {p:List Int},Sound t -> Walk d pl t -> ∀ x ∈ xl pl p t,kC (xJ x.2.1) /\ (xJ x.2.1).length = d /\ x.2.2 = wV (xJ x.2.1) pl /\ x.1.length <= p.length + wk t
 | .one y bd,p,hS,hW,x,hx=>by
  have e:x = (p,.one y bd,wV bd pl):=by simpa [xl] using hx
  rw [e]
  exact ⟨hS.bd,hW.bd,rfl,Nat.le_add_right ..⟩
 | .two ns bd l h, p, hS, hW, x, hx => by
  have hSl:Sound l /\ Sound h:=by cases hS with | two _ a b=>exact ⟨a,b⟩
  have hWl:Walk d pl l /\ Walk d pl h:=by cases hW with | two _ a b=>exact ⟨a,b⟩
  have hd:wk (.two ns bd l h) = 1 + max (wk l) (wk h):=rfl
  unfold xl at hx
  rcases List.mem_cons.mp hx with rfl | hx
  ·exact ⟨hS.bd,hW.bd,rfl,Nat.le_add_right ..⟩
  ·split at hx
   ·rcases List.mem_append.mp hx with hx | hx
    ·obtain ⟨a, b, c, e⟩ := qO hSl.1 hWl.1 x hx
     rw [List.length_append] at e
     exact ⟨a,b,c,by rw [hd]; simp at e; lia⟩
    ·obtain ⟨a, b, c, e⟩ := qO hSl.2 hWl.2 x hx
     rw [List.length_append] at e
     exact ⟨a,b,c,by rw [hd]; simp at e; lia⟩
   ·simp at hx
def zV:Option Tr -> D
 | none=>.non
 | some t=>zY t
@[simp] theorem zb1 (t:Option Tr):zu (zV t) = true:=by
 cases t with
 | none=>rfl
 | some t=>exact xa t
def Ze (pl:List Pair):Option Tr -> List Part
 | none=>[]
 | some t=>xf pl (xl pl [] t)
end K46
set_option maxRecDepth 100000
set_option maxHeartbeats 1000000
namespace K46
open PySem L2 PySem.Spec PyProof.Rows
@[simp] theorem zH5 (p:Pair):zu (zr p) = true:=id rfl
theorem wU {ps:List Pair} {i:Nat} {q:Pair} {R:D -> Prop} (h:ps[i]? = some q) (hR:R (zr q)):ql (zi ps) (.int i) R:=by
 unfold zi
 rw [UW]
 exact ⟨_,yT (by rw [List.getElem?_map,h]; rfl),hR⟩
theorem zh2 {own:Nat} {g1:TGD} {tt1:TBD} {it2:TID} {g2:TGD} {tt2:TBD} {te:TD} {rho:Rho} {P:D -> Nat -> Prop} {n:Nat} {α:Type} (enc:α -> D) (h:α -> List D) (xs:List α) {B:Nat} (hB:B <= 1000) (hz:(xs.flatMap h).length <= B)
  (he:∀ x ∈ xs,∀ (acc:List D) (R:List D -> Nat -> Prop),acc.length + (h x).length <= B -> R (acc ++ h x) n -> g1 (enc x) (List.replicate own none ++ rho) fun rho2=>rho2.drop own = rho /\ tt1 rho2 n fun c n2=>if c = true then it2 rho2 n2 (zT2 g2 tt2 te rho2 acc R) else R acc n2)
  (fin:P (.lst (xs.flatMap h)) n):WB own g1 tt1 it2 g2 tt2 te rho P (xs.map enc) n:=by
 refine ⟨fun i ac n'=>n' = n /\ ac = (xs.take i).flatMap h,⟨rfl,by simp⟩,?_,?_⟩
 ·rintro i d ac n' e ⟨rfl, rfl⟩
  rw [List.getElem?_map] at e
  cases q:xs[i]? with
  | none=>rw [q] at e; cases e
  | some x =>
   rw [q] at e
   cases e
   have e2:(xs.take (i + 1)).flatMap h = (xs.take i).flatMap h ++ h x:=by rw [List.take_add_one,q]; simp
   refine he x (List.mem_of_getElem? q) _ _ ?_ ⟨rfl,e2.symm⟩
   have e3:xs.flatMap h = (xs.take (i + 1)).flatMap h ++ (xs.drop (i + 1)).flatMap h:=by rw [<- List.flatMap_append,List.take_append_drop]
   rw [e3,List.length_append,e2,List.length_append] at hz
   lia
 ·rintro ac n' ⟨rfl, rfl⟩
  rw [List.length_map,List.take_length]
  exact ⟨zP (Nat.le_trans hz hB),fin⟩
structure JCv (a b c:Option D) (pl:List Pair) (xs:List Seen) (n i:Nat) (rho:Rho) (m:Nat):Prop where
 e:m = n
 r:∃ (x y z:Option D),rho = [a,b,c,some (zi pl),some (.own ((xf pl (xs.take i)).map zm)),x,y,z]
section
variable {P:Program} {w:World} {K:PySem.W.Frag} {mg:Str -> Option Value} {base:Heap}
abbrev wB:Stmt:=top 8
abbrev WJ:List Str:=["ends", "pair"]
theorem YC:FnScope WJ ["ends", "pair"] (zg wB):=⟨rfl,rfl,rfl,by decide +kernel,rfl,by decide +kernel,by decide +kernel⟩
def vR:TF:=fun ds n Q=>∃ (lo hi:Int) (p:Pair),ds = [.tup [.int lo,.int hi],zr p] /\ Q (.bl (belowP p hi)) n
theorem YV {f:Addr} {fd:FuncData} (F:Fun K "all_below" "all_below" wB f fd):FnOk P w K mg base CX0 1 f fd ["ends", "pair"] (spD K 2 vR):=by
 refine Fun.okD F YC (fun cdv A0 outer s H E G Z hr=>(zh (zk (vm (wJ yx yw (zE zn zD (zc 1) ze (fun _ _=>rfl)) zT (zv _)) (vk (wJ QS QE (zE zn zD (zc 0) ze (fun _ _=>rfl)) (zE zn zD (zc 1) ze (fun _ _=>rfl)) (zv _))))))) ?_
 rintro ds n Q hl ⟨lo,hi,⟨a,b⟩,rfl,q⟩
 cases a <;> cases b <;> (simp [startD,zr]; exact q)
abbrev wC:Stmt:=top 9
abbrev WK:List Str:=["ends", "pair"]
theorem YD:FnScope WK ["ends", "pair"] (zg wC):=⟨rfl,rfl,rfl,by decide +kernel,rfl,by decide +kernel,by decide +kernel⟩
def vS:TF:=fun ds n Q=>∃ (lo hi:Int) (p:Pair),ds = [.tup [.int lo,.int hi],zr p] /\ Q (.bl (aboveP p lo)) n
theorem YW {f:Addr} {fd:FuncData} (F:Fun K "all_above" "all_above" wC f fd):FnOk P w K mg base CX0 1 f fd ["ends", "pair"] (spD K 2 vS):=by
 refine Fun.okD F YD (fun cdv A0 outer s H E G Z hr=>(zh (zk (vm (wJ yx yw (zE zn zD (zc 1) ze (fun _ _=>rfl)) zT (zv _)) (vk (wJ qY qR (zE zn zD (zc 0) ze (fun _ _=>rfl)) (zE zn zD (zc 1) ze (fun _ _=>rfl)) (zv _))))))) ?_
 rintro ds n Q hl ⟨lo,hi,⟨a,b⟩,rfl,q⟩
 cases a <;> cases b <;> (simp [startD,zr]; exact q)
abbrev vF:Stmt:=top 24
abbrev ze3:List Str:=["ends", "pair", "side"]
theorem UO:FnScope ze3 ["ends", "pair", "side"] (zg vF):=⟨rfl,rfl,rfl,by decide +kernel,rfl,by decide +kernel,by decide +kernel⟩
def qx:TF:=fun ds n Q=>∃ (lo hi:Int) (p:Pair) (s:Nat),ds = [.tup [.int lo,.int hi],zr p,.int s] /\ Q (.bl (Uv lo hi p s)) n
theorem Kv {f:Addr} {fd:FuncData} (G_EMPTY_PAIR:zq6 K mg "EMPTY_PAIR" (.tup [.int 1,.int 0])) (F:Fun K "is_out" "is_out" vF f fd) (F_all_below:Fn P w K mg base "all_below" 1 2 vR) (F_all_above:Fn P w K mg base "all_above" 1 2 vS):FnOk P w K mg base CX0 2 f fd ["ends", "pair", "side"] (spD K 3 qx):=by
 refine Fun.okD F UO (fun cdv A0 outer s H E G Z hr=>(zf (zX (zt (YQ hr) (YI rfl) (zc 1) (Km G_EMPTY_PAIR rfl) (zv _)) (zh (zk wT)) zB)
  (zh (zk (qm (zt kQ kN (zc 2) ze (zv _)) (zy F_all_below (hr.mono (by decide)) rfl (zb (zc 0) (zb (zc 1) zd))) (zy F_all_above (hr.mono (by decide)) rfl (zb (zc 0) (zb (zc 1) zd)))))))) ?_
 rintro ds n Q hl ⟨lo,hi,p,s,rfl,q⟩
 have e1:(D.tup [.int 1,.int 0]) = zr emptyP:=rfl
 simp [startD]
 rw [e1,qE]
 refine ⟨yQ _ 19,yQ _ 19,?_⟩
 unfold Uv at q
 by_cases h:p = emptyP
 ·rw [if_pos h] at q
  rw [decide_eq_true h]
  simp
  exact q
 ·rw [if_neg h] at q
  rw [decide_eq_false h]
  simp
  by_cases h0:s = 0
  ·rw [if_pos h0] at q
   subst h0
   simp
   exact ⟨lo,hi,p,rfl,q⟩
  ·rw [if_neg h0] at q
   simp [h0]
   exact ⟨lo,hi,p,rfl,q⟩
abbrev wY:Stmt:=top 25
abbrev qe:List Str:=["limits", "plain"]
theorem Wf:FnScope qe ["limits", "plain"] (zg wY):=⟨rfl,rfl,rfl,by decide +kernel,rfl,by decide +kernel,by decide +kernel⟩
theorem kr:("i" :: "side" :: qe:List Str).Nodup:=by decide +kernel
def UF:TF:=fun ds n Q=>∃ bd pl:List Pair,ds = [zi bd,zi pl] /\ bd.length = pl.length /\ pl.length <= 400 /\ kC bd /\ Q (.lst ((XV bd pl).map fun x=>.tup [.int (x.1:Int),.int (x.2:Int)])) n
theorem zl8 {f:Addr} {fd:FuncData} (T:Blt mg) (F:Fun K "ways_out" "ways_out" wY f fd) (F_is_out:Fn P w K mg base "is_out" 2 3 qx):FnOk P w K mg base CX0 3 f fd ["limits", "plain"] (spD K 2 UF):=by
 refine Fun.okD F Wf (fun cdv A0 outer s H E G Z hr=>(zh (zk (Vi (own:=["i", "side"]) (M:=qe) (wg (by rfl)) rfl (yj T.range (zb (zw zI wQ T.len wL (zb (zc 1) zd)) zd)) (fun C s2 H2 fp=>(zj (i:=0) kr rfl (lo rfl) (by decide))) (fun C s2 H2 fp=>zZ) (fun C s2 H2 fp=>(xn rfl (zL (zb ze (zb ze zd))))) (fun C s2 H2 fp=>(zj (i:=1) kr rfl (lo rfl) (by decide))) (fun C s2 H2 fp=>(WZ (wl (zy F_is_out (hr.mono (by decide)) rfl (zb (zE zn zD (zc 2) (zc 0) (fun _ _=>rfl)) (zb (zE zn zD (zc 3) (zc 0) (fun _ _=>rfl)) (zb (zc 1) zd))))))) (fun C s2 H2 fp=>(zL (zb (zc 0) (zb (zc 1) zd)))))))) ?_
 rintro ds n Q hl ⟨bd,pl,rfl,hlen,hz,hE,q⟩
 have kl:∀ k:D -> Prop,k (.int (pl.length:Int)) -> zc2 [zi pl] k:=fun k h=>by unfold zi; rw [q_kLenT,List.length_map]; exact h
 simp [startD]
 refine kl _ ⟨pl.length,rfl,by lia,by lia,?_⟩
 rw [qA]
 have e:((List.range pl.length).flatMap fun i=>([0,1].filter fun s=>ZI bd pl i s).map fun s:Nat=>D.tup [.int (i:Int),.int (s:Int)]) = (XV bd pl).map fun x=>.tup [.int (x.1:Int),.int (x.2:Int)]:=by
  unfold XV
  rw [List.map_flatMap]
  congr 1
  funext i
  rw [List.map_map]
  rfl
 refine zh2 (B:=800) (fun i:Nat=>D.int (i:Int)) (fun i=>([0,1].filter fun s=>ZI bd pl i s).map fun s:Nat=>D.tup [.int (i:Int),.int (s:Int)]) (List.range pl.length) (by decide) ?_ (fun i hi acc R hacc hR=>?_) ?_
 ·rw [e, List.length_map]
  have:=Qp bd pl
  lia
 ·have hi' : i < pl.length := List.mem_range.mp hi
  have hq:pl[i]? = some pl[i]:=List.getElem?_eq_getElem hi'
  have hb:bd[i]? = some bd[i]:=List.getElem?_eq_getElem (by lia)
  obtain ⟨lo,hi2,eb,_⟩:=hE i _ hb
  rw [eb] at hb
  simp
  have e2:[D.int 0,D.int 1] = [0,1].map fun s:Nat=>D.int (s:Int):=rfl
  rw [e2]
  refine Xm (fun s:Nat=>D.int (s:Int)) (fun s=>ZI bd pl i s) (fun s:Nat=>D.tup [.int (i:Int),.int (s:Int)]) [0,1] (by simp at hacc ⊢; lia) (fun s hs R S h1 h2=>?_) hR
  simp
  refine wU hb (wU hq ⟨lo,hi2,_,s,rfl,?_⟩)
  rw [<- yr hb hq]
  cases ho:ZI bd pl i s with
  | true=>simp; exact h1 ho
  | false=>simp; exact h2 ho
 ·rw [e]; exact q
abbrev ya:Stmt:=top 26
abbrev Uo:List Str:=["path", "limits", "plain"]
theorem Wh:FnScope Uo ["path", "limits", "plain"] (zg ya):=⟨rfl,rfl,rfl,by decide +kernel,rfl,by decide +kernel,by decide +kernel⟩
def UG:TF:=fun ds n Q=>∃ (p:List Int) (bd pl:List Pair) (k:Nat),ds = [.tup (p.map D.int),zi bd,zi pl] /\ bd.length = pl.length /\ pl.length <= 400 /\ kC bd /\ yt bd pl = some k /\ Q (zm (p,some k)) n
theorem zm1 {f:Addr} {fd:FuncData} (F:Fun K "out_part" "out_part" ya f fd) (F_ways_out:Fn P w K mg base "ways_out" 3 2 UF):FnOk P w K mg base CX0 4 f fd ["path", "limits", "plain"] (spD K 3 UG):=by
 refine Fun.okD F Wh (fun cdv A0 outer s H E G Z hr=>(zh (zk (vh yP vT (zL (zb (zc 0) (zb wt zd))) (zE zn zD (zy F_ways_out (hr.mono (by decide)) rfl (zb (zc 1) (zb (zc 2) zd))) ze (fun _ _=>rfl)))))) ?_
 rintro ds n Q hl ⟨p,bd,pl,k,rfl,hlen,hz,hE,hk,q⟩
 obtain ⟨r,hr⟩:=VA hk
 simp [startD]
 refine ⟨bd,pl,rfl,hlen,hz,hE,?_⟩
 rw [hr]
 simp
 exact q
theorem Xg {o:Option Tr} {b:List XG} {d n:Nat} {k:D -> Nat -> Prop} (hb:b.length = d) (hd1:1 <= d) (hd4:d <= 400) (ho:∀ tr,o = some tr -> Walk d (zA b) tr /\ Sound tr /\ xu tr <= 500)
  (h:∀ xs:List Seen,Ze (zA b) o = xf (zA b) xs -> xs.length <= 500 -> (∀ x ∈ xs,kC (xJ x.2.1) /\ (xJ x.2.1).length = d /\ x.2.2 = wV (xJ x.2.1) (zA b)) -> k (.lst (xs.map jr)) n):yK [zV o,xj b] n k:=by
 cases o with
 | none=>exact ⟨b,d,.inl ⟨rfl,by lia,h [] rfl (by simp) (fun x hx=>by simp at hx)⟩⟩
 | some tr =>
  obtain ⟨h1,h2,h3⟩:=ho tr rfl
  refine ⟨b,d,.inr ⟨tr,rfl,hb,hd1,by lia,h1,h3,h _ rfl (Nat.le_trans (kj ..) h3) fun x hx=>?_⟩⟩
  obtain ⟨a1,a2,a3,_⟩:=qO h2 h1 x hx
  exact ⟨a1,a2,a3⟩
abbrev kI:Stmt:=top 27
abbrev zp8:List Str:=["house", "tree", "box", "plain", "parts", "path", "part", "lot"]
theorem sc_cover:FnScope zp8 ["house", "tree", "box"] (zg kI):=⟨rfl,rfl,rfl,by decide +kernel,rfl,by decide +kernel,by decide +kernel⟩
def Wd:TF:=fun ds n Q=>∃ (hd:D) (o:Option Tr) (b:List XG) (d:Nat),ds = [hd,zV o,xj b] /\ zu hd = true /\ b.length = d /\ 1 <= d /\ d <= 400 /\ (∀ tr,o = some tr -> Walk d (zA b) tr /\ Sound tr /\ xu tr <= 500) /\ Q (.tup ((Ze (zA b) o).map zm)) n
theorem za3 {f:Addr} {fd:FuncData} (T:Blt mg) (F:Fun K "cover" "cover" kI f fd) (F_plain_box:Fn P w K mg base "plain_box" 3 1 yg) (F_looked_at:Fn P w K mg base "looked_at" 6 2 yK) (F_out_part:Fn P w K mg base "out_part" 4 3 UG):FnOk P w K mg base CX0 7 f fd ["house", "tree", "box"] (spD K 3 Wd):=by
 refine Fun.okD F sc_cover (fun cdv A0 outer s H E G Z hr=>(zf (zF (i:=3) sc_cover.nd rfl (lo rfl) (zy F_plain_box (hr.mono (by decide)) rfl (zb (zc 2) zd)))
  (zf (kO (i:=4) sc_cover.nd rfl (lo rfl) zd)
  (zf (wN (m:=8) PassesOwn.never rfl (xn rfl (zy F_looked_at (hr.mono (by decide)) rfl (zb (zc 1) (zb (zc 2) zd)))) (xI (k:=3) rfl rfl (zp (zj (i:=5) sc_cover.nd rfl (lo rfl) (by decide)) (zp (zj (i:=6) sc_cover.nd rfl (lo rfl) (by decide)) (zp (zj (i:=7) sc_cover.nd rfl (lo rfl) (by decide)) xm))))
  (zh (zX (zt kQ kN (zc 7) wt (zv _)) (zh (xr (i:=4) (zb (zL (zb (zc 5) (zb wt zd))) zd) rfl)) (zh (zX (zt kQ kN (zc 7) wt (zv _)) (zh (xr (i:=4) (zb (zy F_out_part (hr.mono (by decide)) rfl (zb (zc 5) (zb (zE zn zD (zc 6) ze (fun _ _=>rfl)) (zb (zc 3) zd)))) zd) rfl)) zB)))))
  (zh (vd 4 (zk (zW zQ xN T.tuple xo (zb (zc 4) zd))))))))) ?_
 rintro ds n Q hl ⟨hd,o,b,d,rfl,nh,hb,hd1,hd4,ho,q⟩
 have nb:zu (xj b) = true:=id rfl
 have hpl:(zA b).length = d:=by rw [kn]; exact hb
 have hset:=yO b
 simp [startD,nh,nb]
 refine ⟨b,rfl,by lia,?_⟩
 simp [nh,nb]
 refine Xg hb hd1 hd4 ho fun xs hc hx he=>⟨_,.inl rfl,JCv _ _ _ (zA b) xs n,⟨rfl,none,none,none,rfl⟩,?_,?_⟩
 ·rintro i d' rho m e ⟨rfl, x, y, z, rfl⟩
  rw [List.getElem?_map] at e
  cases h:xs[i]? with
  | none=>rw [h] at e; cases e
  | some c =>
   rw [h] at e
   cases e
   obtain ⟨h1,h2,h3⟩:=he c (List.mem_of_getElem? h)
   have hlen:((xf (zA b) (xs.take i)).map zm).length < sizeLine:=by
    rw [List.length_map]
    have:=ku (zA b) (xs.take i)
    rw [List.length_take] at this
    exact lt_size (by lia)
   have htk:xs.take (i + 1) = xs.take i ++ [c]:=by rw [List.take_add_one,h]; rfl
   have key:∀ (x y z:Option D) (es:List D),es = (xf (zA b) [c]).map zm -> JCv (some hd) (some (zV o)) (some (xj b)) (zA b) xs m (i + 1) [some hd,some (zV o),some (xj b),some (zi (zA b)),some (.own ((xf (zA b) (xs.take i)).map zm ++ es)),x,y,z] m:=fun x y z es hes=>by
    refine ⟨rfl,x,y,z,?_⟩
    rw [htk,Ug,List.map_append,hes]
   have key0:∀ (x y z:Option D),xf (zA b) [c] = [] -> JCv (some hd) (some (zV o)) (some (xj b)) (zA b) xs m (i + 1) [some hd,some (zV o),some (xj b),some (zi (zA b)),some (.own ((xf (zA b) (xs.take i)).map zm)),x,y,z] m:=fun x y z hes=>by
    have z0:=key x y z [] (by rw [hes]; rfl)
    rw [List.append_nil] at z0
    exact z0
   generalize (xf (zA b) (xs.take i)).map zm = acc at hlen key key0 ⊢
   obtain ⟨p,t,lot⟩:=c
   obtain ⟨ta,tb,et,na,nb2⟩:=ZS t
   have nt:=xa t
   simp [jr,nt]
   simp only at h3
   split
   ·rename_i hin
    refine ⟨hlen,key _ _ _ _ ?_⟩
    rw [hin]
    rfl
   ·rename_i hin
    split
    ·rename_i hout
     have ha:wj (xJ t) (zA b) = true:=by
      rw [hout] at h3
      unfold wV at h3
      split at h3
      ·assumption
      ·split at h3 <;> exact absurd h3 (by decide)
     obtain ⟨k,hk⟩:=kb (by rw [h2,hpl]) (by rw [h2]; exact hd1) h1 hset ha
     rw [et]
     simp
     refine ⟨hlen,⟨p,xJ t,zA b,k,rfl,by rw [h2,hpl],by lia,h1,hk,?_⟩⟩
     simp
     refine key _ _ _ _ ?_
     rw [hout]
     have hk':(yt (xJ t) (zA b)).getD 0 = k:=by rw [hk]; rfl
     show _ = [zm (p,some ((yt (xJ t) (zA b)).getD 0))]
     rw [hk']
    ·rename_i hout
     refine key0 _ _ _ ?_
     show ((if lot = ("in" : Str) then [((p,none):Part)] else if lot = ("out" : Str) then [(p,some ((yt (xJ t) (zA b)).getD 0))] else []) ++ []) = []
     rw [if_neg hin,if_neg hout]
     rfl
 ·rintro rho m ⟨rfl, x, y, z, rfl⟩
  rw [List.length_map,List.take_length,<- hc]
  simp
  exact q
end
end K46
set_option maxRecDepth 100000
set_option maxHeartbeats 1000000
namespace K46
open PySem L2 PySem.Spec PyProof.Rows
structure JPn (b:List XG) (n i:Nat) (rho:Rho) (m:Nat):Prop where
 e:m = n
 u:∀ (k:Nat) s,k < i -> b[k]? = some s -> crossedT (kP s) = false
 r:∃ (x y z u:Option D),rho = [some (xj b),some (.own (((b.take i).map kP).map zr)),x,y,z,u]
theorem Zl {α β:Type} {f:α -> β} {xs:List α} {i:Nat} {x:α} (h:xs[i]? = some x):(xs.take (i + 1)).map f = (xs.take i).map f ++ [f x]:=by
 rw [List.take_add_one,h]; simp
structure JIn (dd:D) (bd pl:List Pair) (n i:Nat) (rho:Rho) (m:Nat):Prop where
 e:m = n
 u:∀ (k:Nat) lo hi q,k < i -> bd[k]? = some (some lo,some hi) -> pl[k]? = some q -> insP lo hi q = true
 r:∃ (x y z u:Option D),rho = [some dd,some (zi pl),x,y,z,u]
section
variable {P:Program} {w:World} {K:PySem.W.Frag} {mg:Str -> Option Value} {base:Heap}
abbrev xW:Stmt:=top 48
abbrev XJ:List Str:=["_law_box_here", "_law_pairs", "_law_low", "_law_high", "_law_least", "_law_greatest"]
theorem sc__law_plain:FnScope XJ ["_law_box_here"] (zg xW):=⟨rfl,rfl,rfl,by decide +kernel,rfl,by decide +kernel,by decide +kernel⟩
def Zp:TF:=fun ds n Q=>∃ b:List XG,ds = [xj b] /\ 1 <= b.length /\ b.length <= 900 /\ Q (zi (zA b)) n
theorem Kr {f : Addr} {fd : FuncData} (T : Blt mg) (F : Fun K "_law_plain" "_law_plain" xW f fd) : FnOk P w K mg base CX0 1 f fd ["_law_box_here"] (spD K 1 Zp) := by
  refine Fun.okD F sc__law_plain (fun cdv A0 outer s H E G Z hr=>(zf (kO (i:=1) sc__law_plain.nd rfl (lo rfl) zd)
    (zf (wN (m:=6) PassesOwn.never rfl (xn rfl (zc 0)) (xI (k:=2) rfl rfl (zp (zj (i:=2) sc__law_plain.nd rfl (lo rfl) (by decide)) (zp (zj (i:=3) sc__law_plain.nd rfl (lo rfl) (by decide)) xm)))
    (zf (zF (i:=4) sc__law_plain.nd rfl (lo rfl) (qm (zt wu wr (zc 2) zT (zv _)) zT (wP (zE zn zD (zc 2) ze (fun _ _=>rfl)) (zW kw ZT T.int XB (zb (Kk (zE zn zD (zc 2) ze (fun _ _=>rfl))) zd)))))
    (zf (zF (i:=5) sc__law_plain.nd rfl (lo rfl) (qm (zt wu wr (zc 3) zT (zv _)) zT (jU (zE zn zD (zc 3) ze (fun _ _=>rfl)) (zW kw ZT T.int XB (zb (Kk (zE zn zD (zc 3) ze (fun _ _=>rfl))) zd)))))
    (zf (zX (PWD.pt (wM (zt yx yw (zc 4) zT (zv _)) (wM (zt yx yw (zc 5) zT (zv _)) (wS (zt qY qR (zc 4) (zc 5) (zv _)))))) (zh (zk (vh zl4 zj4 (zL (zb (zL (zb ze (zb ze zd))) zd)) (zw zI wQ T.len wL (zb (zc 0) zd))))) zB)
    (zh (xr (i:=1) (zb (zL (zb (zc 4) (zb (zc 5) zd))) zd) rfl))))))
    (zh (vd 1 (zk (zW zQ xN T.tuple xo (zb (zc 1) zd)))))))) ?_
  rintro ds n Q hl ⟨b,rfl,hb1,hb2,q⟩
  have nb:zu (xj b) = true:=id rfl
  simp [startD,nb]
  refine ⟨b.map wG,.inr rfl,JPn b n,⟨rfl,fun k s hk=>by lia,_,_,_,_,rfl⟩,?_,?_⟩
  · rintro i d rho m e ⟨rfl, hu, x, y, z, u, rfl⟩
    rw [List.getElem?_map] at e
    cases h:b[i]? with
    | none=>rw [h] at e; cases e
    | some s =>
      rw [h] at e
      cases e
      have hi:i < b.length:=(List.getElem?_eq_some_iff.mp h).1
      have hlen:(((b.take i).map kP).map zr).length < sizeLine:=by
        rw [List.length_map,List.length_map,List.length_take]
        exact lt_size (by lia)
      have key:∀ x y z u:Option D,crossedT (kP s) = false -> JPn b m (i + 1) [some (xj b),some (.own (((b.take i).map kP).map zr ++ [zr (kP s)])),x,y,z,u] m:=fun x y z u hc=>by
        refine ⟨rfl,fun k s' hk e=>?_,x,y,z,u,?_⟩
        · by_cases hki : k = i
          · subst hki; rw [h] at e; cases e; exact hc
          · exact hu k s' (by lia) e
        · rw [Zl h,List.map_append]; rfl
      have bad:crossedT (kP s) = true -> Q (.tup (List.replicate b.length (.tup [.int 1,.int 0]))) m:=fun hc=>by
        have ha:(b.map kP).any crossedT = true:=List.any_eq_true.mpr ⟨_,List.mem_map.mpr ⟨s,List.mem_of_getElem? h,rfl⟩,hc⟩
        unfold zA at q
        rw [yh ha,List.length_map] at q
        unfold zi at q
        rw [List.map_replicate] at q
        exact q
      have rep:∀ R:D -> Prop,R (.tup (List.replicate b.length (.tup [.int 1,.int 0]))) -> zc2 [xj b] fun d2=>UV (.tup [.tup [.int 1,.int 0]]) d2 R:=fun R hR=>by
        refine q_kLenT.mpr (q_rdRepT.mpr ⟨by simp,by rw [List.length_map]; lia,?_,?_⟩)
        · rw [List.length_map]; exact zP (by simp; lia)
        · rw [List.length_map]
          have:((List.replicate ((b.length:Int).toNat) [D.tup [.int 1,.int 0]]).flatten) = List.replicate b.length (.tup [.int 1,.int 0]):=by
            rw [Int.toNat_natCast,List.flatten_replicate_singleton]
          rw [this]; exact hR
      clear q hl
      generalize ((b.take i).map kP).map zr = acc at hlen key ⊢
      obtain ⟨lo,hi'⟩:=s
      rcases lo with _ | ⟨a,s1⟩ <;> rcases hi' with _ | ⟨c,s2⟩
      · simp [wG, nb]
        exact ⟨hlen,key _ _ _ _ rfl⟩
      · cases s2 <;> (simp [wG,nb]; exact ⟨hlen,key _ _ _ _ rfl⟩)
      · cases s1 <;> (simp [wG,nb]; exact ⟨hlen,key _ _ _ _ rfl⟩)
      · cases s1 <;> cases s2 <;>
        (simp [wG, nb]
         split
         · rename_i hh
           exact rep _ (bad (decide_eq_true hh))
         · rename_i hh
           exact ⟨hlen,key _ _ _ _ (decide_eq_false hh)⟩)
  · rintro rho m ⟨rfl, hu, x, y, z, u, rfl⟩
    rw [List.length_map,List.take_length]
    have ha:¬ (b.map kP).any crossedT = true:=fun hc=>by
      obtain ⟨k,p,e,hp⟩:=any_at.mp hc
      rw [List.getElem?_map] at e
      cases h:b[k]? with
      | none=>rw [h] at e; cases e
      | some s =>
        rw [h] at e
        cases e
        rw [hu k s (by rw [List.length_map]; exact (List.getElem?_eq_some_iff.mp h).1) h] at hp
        cases hp
    unfold zA at q
    rw [xO ha] at q
    unfold zi at q
    rw [List.map_map] at q
    simp
    exact q
abbrev xF:Stmt:=top 49
abbrev Yk:List Str:=["_law_edges", "_law_plain_here", "_law_i", "_law_side", "_law_end"]
theorem sc__law_beyond:FnScope Yk ["_law_edges", "_law_plain_here", "_law_i", "_law_side"] (zg xF):=⟨rfl,rfl,rfl,by decide +kernel,rfl,by decide +kernel,by decide +kernel⟩
def vD:TF:=fun ds n Q=>∃ (bd pl:List Pair) (k:Nat),ds = [zi bd,zi pl,.int ((k / 2:Nat):Int),.int ((k % 2:Nat):Int)] /\ bd.length = pl.length /\ k < 2 * pl.length /\ kC bd /\ Q (.bl (kf bd pl k)) n
theorem Kx {f:Addr} {fd:FuncData} (F:Fun K "_law_beyond" "_law_beyond" xF f fd):FnOk P w K mg base CX0 1 f fd ["_law_edges", "_law_plain_here", "_law_i", "_law_side"] (spD K 4 vD):=by
  refine Fun.okD F sc__law_beyond (fun cdv A0 outer s H E G Z hr=>(zf (zF (i:=4) sc__law_beyond.nd rfl (lo rfl) (zE zn zD (zE zn zD (zc 1) (zc 2) (fun _ _=>rfl)) (zc 3) (fun _ _=>rfl)))
    (zf (zX (zt (YQ hr) (YI rfl) (zE zn zD (zc 1) (zc 2) (fun _ _=>rfl)) (zL (zb ze (zb ze zd))) (zv _)) (zh (zk wT)) zB)
    (zf (zX (zt wu wr (zc 4) zT (zv _)) (zh (zk wT)) zB)
    (zh (zk (zE zn zD (wm (zb (wJ QS QE (zE zn zD (zE zn zD (zc 0) (zc 2) (fun _ _=>rfl)) ze (fun _ _=>rfl)) (zc 4) (zv _)) (zb (wJ qY qR (zE zn zD (zE zn zD (zc 0) (zc 2) (fun _ _=>rfl)) ze (fun _ _=>rfl)) (zc 4) (zv _)) zd))) (zc 3) (fun _ _=>rfl)))))))) ?_
  rintro ds n Q hl ⟨bd,pl,k,rfl,hlen,hk,hE,q⟩
  have hq:pl[k / 2]? = some pl[k / 2]:=List.getElem?_eq_getElem (by lia)
  have hb:bd[k / 2]? = some bd[k / 2]:=List.getElem?_eq_getElem (by lia)
  obtain ⟨lo,hi,eb,_⟩:=hE _ _ hb
  rw [eb] at hb
  generalize pl[k / 2] = pq at hq
  have e1:(D.tup [.int 1,.int 0]) = zr emptyP:=rfl
  have hs:k % 2 = 0 \/ k % 2 = 1:=by lia
  unfold kf at q
  rw [yr hb hq] at q
  generalize k / 2 = i at hb hq q ⊢
  generalize k % 2 = s at hs q ⊢
  clear hk eb hl
  have ok1:=yQ pq 19
  have ok2:=yQ emptyP 19
  have ee:=qE pq emptyP
  rw [<- e1] at ok2 ee
  unfold Uv at q
  simp [startD]
  refine wU hq ?_
  obtain ⟨a,b⟩:=pq
  rcases hs with rfl | rfl <;> rcases a with _ | a <;> rcases b with _ | b <;>
    (simp [zr]
     refine wU hq ?_
     simp [ok1,ok2,ee]
     split
     · rename_i h
       rw [if_pos h] at q
       exact q
     · rename_i h
       rw [if_neg h] at q
       first
         | exact q
         | (refine wU hb ?_
            simp [zr]
            refine wU hb ?_
            simp [zr]
            exact q))
theorem vt {bd pl:List Pair} {k n:Nat} {Q:D -> Nat -> Prop} (hl:bd.length = pl.length) (hk:k < 2 * pl.length) (hE:kC bd) (q:Q (.bl (kf bd pl k)) n):vD [zi bd,zi pl,.int ((k / 2:Nat):Int),.int ((k % 2:Nat):Int)] n Q:=⟨bd,pl,k,rfl,hl,hk,hE,q⟩
theorem qW {pl:List Pair} {k:D -> Prop} (h:k (.int (pl.length:Int))):zc2 [zi pl] k:=by unfold zi; rw [q_kLenT,List.length_map]; exact h
abbrev we:Stmt:=top 50
abbrev vC:List Str:=["_law_edges", "_law_plain_here"]
theorem ZB:FnScope vC ["_law_edges", "_law_plain_here"] (zg we):=⟨rfl,rfl,rfl,by decide +kernel,rfl,by decide +kernel,by decide +kernel⟩
theorem jk:("_law_k" :: vC:List Str).Nodup:=by decide +kernel
def Zr:TF:=fun ds n Q=>∃ bd pl:List Pair,ds = [zi bd,zi pl] /\ bd.length = pl.length /\ 1 <= bd.length /\ pl.length <= 400 /\ kC bd /\ zN pl = pl /\ Q (.bl (wj bd pl)) n
theorem Ku {f:Addr} {fd:FuncData} (T:Blt mg) (F:Fun K "_law_apart" "_law_apart" we f fd) (F__law_beyond:Fn P w K mg base "_law_beyond" 1 4 vD):FnOk P w K mg base CX0 2 f fd ["_law_edges", "_law_plain_here"] (spD K 2 Zr):=by
 refine Fun.okD F ZB (fun cdv A0 outer s H E G Z hr=>(zh (zk (zw (ZV rfl) JF T.any JU (zb (xQ (own:=["_law_k"]) (M:=vC) (wg (by rfl)) rfl (yj T.range (zb (yW ze (zw zI wQ T.len wL (zb (zc 1) zd))) zd)) (fun C s2 H2 fp=>(zj (i:=0) jk rfl (lo rfl) (by decide))) (fun C s2 H2 fp=>zZ) (fun C s2 H2 fp=>(zy F__law_beyond (hr.mono (by decide)) rfl (zb (zc 1) (zb (zc 2) (zb (qi (zc 0) ze) (zb (yq (zc 0) ze) zd))))))) zd))))) ?_
 rintro ds n Q hl ⟨bd,pl,rfl,hlen,h1,hz,hE,hs,q⟩
 simp [startD]
 refine qW ?_
 simp
 have e:(2 * (pl.length:Int)).toNat = 2 * pl.length:=by lia
 refine ⟨.inl ⟨by decide,by decide⟩,by lia,by lia,?_⟩
 rw [e,qA]
 refine zS (fun i:Nat=>D.int (i:Int)) (fun k=>.bl (kf bd pl k)) (List.range (2 * pl.length)) (by rw [List.length_range]; exact zP (by lia)) (fun k hk R hR=>?_) ?_
 ·have hk' := List.mem_range.mp hk
  simp
  exact ⟨⟨by decide,by decide⟩,vt hlen hk' hE hR⟩
 ·refine ⟨(List.range (2 * pl.length)).map (kf bd pl), by rw [List.map_map]; rfl, ?_⟩
  rw [Qa hlen h1 hE hs]
  exact q
def Qi (bd pl:List Pair):Prop:=pl[0]? ≠ some emptyP /\ ∀ (i:Nat) lo hi q,bd[i]? = some (some lo,some hi) -> pl[i]? = some q -> insP lo hi q = true
abbrev xD:Stmt:=top 51
abbrev Yj:List Str:=["_law_edges", "_law_plain_here", "_law_low", "_law_high", "_law_least", "_law_greatest"]
theorem sc__law_inside:FnScope Yj ["_law_edges", "_law_plain_here"] (zg xD):=⟨rfl,rfl,rfl,by decide +kernel,rfl,by decide +kernel,by decide +kernel⟩
def kh:TF:=fun ds n Q=>∃ (dd:D) (bd pl:List Pair),ds = [dd,zi pl] /\ (dd = zi bd \/ dd = .lst (bd.map zr)) /\ bd.length = pl.length /\ 1 <= bd.length /\ pl.length <= 400 /\ kC bd /\ (Qi bd pl -> Q (.bl true) n) /\ (¬ Qi bd pl -> Q (.bl false) n)
theorem VU {f:Addr} {fd:FuncData} (T:Blt mg) (F:Fun K "_law_inside" "_law_inside" xD f fd):FnOk P w K mg base CX0 1 f fd ["_law_edges", "_law_plain_here"] (spD K 2 kh):=by
 refine Fun.okD F sc__law_inside (fun cdv A0 outer s H E G Z hr=>(zf (zX (zt (YQ hr) (YI rfl) (zE zn zD (zc 1) ze (fun _ _=>rfl)) (zL (zb ze (zb ze zd))) (zv _)) (zh (zk wT)) zB)
  (zf (wN (m:=6) PassesOwn.never rfl (Wq rfl T.zip (zb (zc 0) (zb (zc 1) zd))) (xI (k:=2) rfl rfl (zp (xI (k:=2) rfl rfl (zp (zj (i:=2) sc__law_inside.nd rfl (lo rfl) (by decide)) (zp (zj (i:=3) sc__law_inside.nd rfl (lo rfl) (by decide)) xm))) (zp (xI (k:=2) rfl rfl (zp (zj (i:=4) sc__law_inside.nd rfl (lo rfl) (by decide)) (zp (zj (i:=5) sc__law_inside.nd rfl (lo rfl) (by decide)) xm))) xm)))
  (zh (zX (PWD.pt (WY (PWD.pt (wM (zt yx yw (zc 4) zT (zv _)) (wS (zt QS QE (zc 2) (zc 4) (zv _))))) (ZF (PWD.pt (wM (zt yx yw (zc 5) zT (zv _)) (wS (zt qY qR (zc 3) (zc 5) (zv _)))))))) (zh (zk wT)) zB)))
  (zh (zk wT))))) ?_
 rintro ds n Q hl ⟨dd,bd,pl,rfl,hdd,hlen,h1,hz,hE,hy,hn⟩
 have ndd:zu dd = true:=by rcases hdd with rfl | rfl <;> rfl
 have hq0:pl[0]? = some pl[0]:=List.getElem?_eq_getElem (by lia)
 have e1:(D.tup [.int 1,.int 0]) = zr emptyP:=rfl
 have hzip:∀ R:List D -> Prop,R (XU (bd.map zr) (pl.map zr)) -> zn6 [dd,zi pl] R:=fun R h=>by
  rcases hdd with rfl | rfl
  ·exact (qS (d1:=zi bd) (d2:=zi pl) rfl rfl).mpr h
  ·exact (qS (d1:=.lst (bd.map zr)) (d2:=zi pl) rfl rfl).mpr h
 simp [startD,ndd]
 refine wU (i:=0) hq0 ?_
 rw [e1,qE]
 refine ⟨yQ _ 19,yQ _ 19,?_⟩
 by_cases hne:pl[0] = emptyP
 ·rw [decide_eq_true hne]
  simp
  exact hn fun I=>I.1 (by rw [hq0,hne])
 rw [decide_eq_false hne]
 have hne':pl[0]? ≠ some emptyP:=fun e=>hne (by rw [hq0] at e; exact Option.some.inj e)
 simp
 refine hzip _ ?_
 rw [ze4]
 refine ⟨JIn dd bd pl n,⟨rfl,fun k lo hi q hk=>by lia,_,_,_,_,rfl⟩,?_,?_⟩
 ·rintro i d rho m e ⟨rfl, hu, x, y, z, u, rfl⟩
  rw [List.getElem?_map] at e
  cases h:(bd.zip pl)[i]? with
  | none=>rw [h] at e; cases e
  | some c =>
   rw [h] at e
   cases e
   obtain ⟨bp,q0⟩:=c
   obtain ⟨h2,h3⟩:=List.getElem?_zip_eq_some.mp h
   obtain ⟨lo,hi,rfl,hlh⟩:=hE i _ h2
   have key:∀ x y z u:Option D,insP lo hi q0 = true -> JIn dd bd pl m (i + 1) [some dd,some (zi pl),x,y,z,u] m:=fun x y z u hc=>by
    refine ⟨rfl,fun k lo' hi' q' hk g1 g2=>?_,x,y,z,u,rfl⟩
    by_cases hki:k = i
    ·subst hki
     rw [h2] at g1
     rw [h3] at g2
     cases g1
     cases g2
     exact hc
    ·exact hu k lo' hi' q' (by lia) g1 g2
   have bad:insP lo hi q0 = false -> Q (.bl false) m:=fun hb=>hn fun I=>by rw [I.2 i lo hi q0 h2 h3] at hb; cases hb
   clear hy hn hzip
   obtain ⟨a,b⟩:=q0
   rcases a with _ | a <;> rcases b with _ | b
   ·simp [zr]
    exact key _ _ _ _ rfl
   ·simp [zr]
    split
    ·rename_i hh
     exact bad (by simp [insP]; lia)
    ·rename_i hh
     exact key _ _ _ _ (by simp [insP]; lia)
   ·simp [zr]
    split
    ·rename_i hh
     exact bad (by simp [insP]; lia)
    ·rename_i hh
     exact key _ _ _ _ (by simp [insP]; lia)
   ·simp [zr]
    split
    ·rename_i hh
     exact bad (by simp [insP]; lia)
    ·split
     ·rename_i hh
      exact bad (by simp [insP]; lia)
     ·exact key _ _ _ _ (by simp [insP]; lia)
 ·rintro rho m ⟨rfl, hu, x, y, z, u, rfl⟩
  simp
  exact hy ⟨hne',fun k lo hi q' g1 g2=>hu k lo hi q' (by
   rw [List.length_map,List.length_zip]
   have a1:=(List.getElem?_eq_some_iff.mp g1).1
   lia) g1 g2⟩
theorem Xl {bd pl:List Pair} {n:Nat} {Q:D -> Nat -> Prop} (hlen:bd.length = pl.length) (h1:1 <= bd.length) (hz:pl.length <= 400) (hE:kC bd) (ha:wj bd pl = false) (q:Q (.bl (wv bd pl)) n):kh [zi bd,zi pl] n Q:=by
 have h0:pl[0]? ≠ some emptyP:=fun he=>by
  have hb0:bd[0]? = some bd[0]:=List.getElem?_eq_getElem h1
  rw [kz hlen h1] at ha
  have:(List.zipWith commonP bd pl).any crossedT = true:=any_at.mpr ⟨0,_,qH hb0 he,vO _⟩
  rw [this] at ha
  cases ha
 have w:=kD hlen h1 hE ha
 refine ⟨_,bd,pl,rfl,.inl rfl,hlen,h1,hz,hE,fun I=>?_,fun I=>?_⟩
 ·rw [w.mpr I.2] at q; exact q
 ·cases c : wv bd pl with
  | true=>exact absurd ⟨h0,w.mp c⟩ I
  | false=>rw [c] at q; exact q
abbrev xX:Stmt:=top 52
abbrev XM:List Str:=["_law_tree_here", "_law_plain_here", "_law_path", "_law_k"]
theorem sc__law_parts:FnScope XM ["_law_tree_here", "_law_plain_here", "_law_path"] (zg xX):=⟨rfl,rfl,rfl,by decide +kernel,rfl,by decide +kernel,by decide +kernel⟩
theorem jf:("_law_k" :: ["_law_tree_here", "_law_plain_here", "_law_path", "_law_k'"]:List Str).Nodup:=by decide +kernel
def Zn:Nat -> TF
 | 0=>fun _ _ _=>False
 | j + 1=>fun ds n Q=>∃ (tr:Tr) (pl:List Pair) (p:List Int) (d:Nat),ds = [zY tr,zi pl,.tup (p.map D.int)] /\ pl.length = d /\ 1 <= d /\ d <= 400 /\ zN pl = pl /\ Walk d pl tr /\ Sound tr /\ wk tr <= j /\ p.length + j <= 900 /\ xu tr <= 500 /\ Q (.lst ((xf pl (xl pl p tr)).map zm)) n
theorem QW {f : Addr} {fd : FuncData} (T : Blt mg) (F : Fun K "_law_parts" "_law_parts" xX f fd) (hm : mg "_law_parts" = some (.ref f)) (hk : PySem.W.keepIn K (.ref f) = true) (hb : Binds K fd ["_law_tree_here", "_law_plain_here", "_law_path"] []) (F__law_apart : Fn P w K mg base "_law_apart" 2 2 Zr) (F__law_beyond : Fn P w K mg base "_law_beyond" 1 4 vD) (F__law_inside : Fn P w K mg base "_law_inside" 1 2 kh) : ∀ j : Nat, FnOk P w K mg base CX0 (j + 2) f fd ["_law_tree_here", "_law_plain_here", "_law_path"] (spD K 3 (Zn j)) := by
 intro j
 induction j with
 | zero=>exact FnOk.botK fun ds n Q h=>h
 | succ j ih =>
  have F__law_parts:Fn P w K mg base "_law_parts" (j + 2) 3 (Zn j):=⟨f,fd,_,ih,hm,hk,hb⟩
  refine Fun.okD F sc__law_parts (fun cdv A0 outer s H E G Z hr=>(zf (zX (wl (zy F__law_apart (hr.mono (by lia)) rfl (zb (zE zn zD (zc 0) ze (fun _ _=>rfl)) (zb (zc 1) zd)))) (zf (zF (i:=3) sc__law_parts.nd rfl (lo rfl) (Kl rfl (xQ (own:=["_law_k"]) (M:=["_law_tree_here", "_law_plain_here", "_law_path", "_law_k'"]) (wg (by rfl)) rfl (yj T.range (zb (yW ze (zw zI wQ T.len wL (zb (zc 1) zd))) zd)) (fun C s2 H2 fp=>(zj (i:=0) jf rfl (lo rfl) (by decide))) (fun C s2 H2 fp=>zZ) (fun C s2 H2 fp=>(zy F__law_beyond (hr.mono (by lia)) rfl (zb (zE zn zD (zc 1) ze (fun _ _=>rfl)) (zb (zc 2) (zb (qi (zc 0) ze) (zb (yq (zc 0) ze) zd)))))))))
  (zh (zk (wm (zb (zL (zb (zc 2) (zb wt (zb (qi (zc 3) ze) (zb (yq (zc 3) ze) zd))))) zd))))) zB)
  (zf (zX (wl (zy F__law_inside (hr.mono (by lia)) rfl (zb (zE zn zD (zc 0) ze (fun _ _=>rfl)) (zb (zc 1) zd)))) (zh (zk (wm (zb (zL (zb (zc 2) (zb wt zd))) zd)))) zB)
  (zh (zk (vh Ko UU (zy F__law_parts hr rfl (zb (zE zn zD (zc 0) ze (fun _ _=>rfl)) (zb (zc 1) (zb (vh yP vT (zc 2) (zL (zb ze zd))) zd)))) (zy F__law_parts hr rfl (zb (zE zn zD (zc 0) ze (fun _ _=>rfl)) (zb (zc 1) (zb (vh yP vT (zc 2) (zL (zb ze zd))) zd)))))))))) ?_
  rintro ds n Q hl ⟨tr,pl,p,d,rfl,hpl,hd1,hd4,hset,hW,hS,hdp,hp,hsz,q⟩
  obtain ⟨ta,tb,et,na,nb2⟩:=ZS tr
  have nt:=xa tr
  have hbd:=hW.bd
  have hE:=hS.bd
  have hlen:(xJ tr).length = pl.length:=by lia
  have r1:∀ R:D -> Prop,R (zi (xJ tr)) -> ql (zY tr) (.int 1) R:=fun R h=>by rw [et]; exact ⟨_,1,_,.inr (.inl rfl),rfl,rfl,h⟩
  simp [startD,nt]
  refine r1 _ ⟨_,_,rfl,hlen,by lia,by lia,hE,hset,?_⟩
  cases ha:wj (xJ tr) pl with
  | true =>
   obtain ⟨k,hk1⟩:=kb hlen (by lia) hE hset ha
   obtain ⟨f1,f2⟩:=Ud hk1
   have hlot:wV (xJ tr) pl = ("out" : Str):=by unfold wV; rw [if_pos ha]
   have e:(2 * (pl.length:Int)).toNat = 2 * pl.length:=by lia
   have hc:xf pl (xl pl p tr) = [(p,some k)]:=by
    have hs1:xl pl p tr = [(p,tr,("out" : Str))]:=by
     cases tr with
     | one x bd=>show [(p,Tr.one x bd,wV bd pl)] = _; rw [show wV bd pl = ("out" : Str) from hlot]
     | two ns bd low high =>
      show (p,Tr.two ns bd low high,wV bd pl) :: (if wV bd pl = "cut" then _ else _) = _
      rw [show wV bd pl = ("out" : Str) from hlot,if_neg (by decide)]
    rw [hs1]
    show [(p,some ((yt (xJ tr) pl).getD 0))] = _
    rw [hk1]
    rfl
   rw [hc] at q
   simp
   refine qW ?_
   simp
   refine ⟨.inl ⟨by decide,by decide⟩,by lia,by lia,?_⟩
   rw [e,qA]
   refine zS (fun i:Nat=>D.int (i:Int)) (fun k=>.bl (kf (xJ tr) pl k)) (List.range (2 * pl.length)) (by rw [List.length_range]; exact zP (by lia)) (fun k hk R hR=>?_) ?_
   ·have hk' := List.mem_range.mp hk
    simp [nt]
    exact r1 _ ⟨⟨by decide,by decide⟩,vt hlen hk' hE hR⟩
   ·refine ⟨(List.range (2 * pl.length)).map (kf (xJ tr) pl), by rw [List.map_map]; rfl, k, f1, f2, by rw [List.length_map, List.length_range]; lia, ?_⟩
    exact ⟨⟨by decide,by decide⟩,q⟩
  | false =>
   simp [nt]
   refine r1 _ (Xl hlen (by lia) (by lia) hE ha ?_)
   cases hw:wv (xJ tr) pl with
   | true =>
    have hlot:wV (xJ tr) pl = ("in" : Str):=by unfold wV; rw [if_neg (by rw [ha]; decide),if_pos hw]
    have hc:xf pl (xl pl p tr) = [(p,none)]:=by
     have hs1:xl pl p tr = [(p,tr,("in" : Str))]:=by
      cases tr with
      | one x bd=>show [(p,Tr.one x bd,wV bd pl)] = _; rw [show wV bd pl = ("in" : Str) from hlot]
      | two ns bd low high =>
       show (p,Tr.two ns bd low high,wV bd pl) :: (if wV bd pl = "cut" then _ else _) = _
       rw [show wV bd pl = ("in" : Str) from hlot,if_neg (by decide)]
     rw [hs1]
     rfl
    rw [hc] at q
    simp
    exact q
   | false =>
    have hlot:wV (xJ tr) pl = ("cut" : Str):=by unfold wV; rw [if_neg (by rw [ha]; decide),if_neg (by rw [hw]; decide)]
    cases tr with
    | one x bd=>exact absurd hlot (by cases hW; assumption)
    | two ns bd low high =>
     obtain ⟨hWl,hWh⟩:Walk d pl low /\ Walk d pl high:=by cases hW with | two _ a b=>exact ⟨a,b⟩
     obtain ⟨hSl,hSh⟩:Sound low /\ Sound high:=by cases hS with | two _ a b=>exact ⟨a,b⟩
     have hdp':1 + max (wk low) (wk high) <= j:=hdp
     have hsz':1 + xu low + xu high <= 500:=hsz
     cases j with
     | zero=>lia
     | succ j =>
      have r2:∀ R:D -> Prop,R (zY low) -> ql (zY (.two ns bd low high)) (.int 2) R:=fun R h=>⟨_,2,_,.inr (.inl rfl),rfl,rfl,h⟩
      have r3:∀ R:D -> Prop,R (zY high) -> ql (zY (.two ns bd low high)) (.int 3) R:=fun R h=>⟨_,3,_,.inr (.inl rfl),rfl,rfl,h⟩
      have pa:∀ k:Int,D.tup (p.map D.int ++ [D.int k]) = .tup ((p ++ [k]).map D.int):=fun k=>by rw [List.map_append]; rfl
      have hc:xf pl (xl pl p (.two ns bd low high)) = xf pl (xl pl (p ++ [0]) low) ++ xf pl (xl pl (p ++ [1]) high):=by
       have hs1:xl pl p (.two ns bd low high) = (p,Tr.two ns bd low high,("cut" : Str)) :: (xl pl (p ++ [0]) low ++ xl pl (p ++ [1]) high):=by
        show (p,Tr.two ns bd low high,wV bd pl) :: (if wV bd pl = "cut" then _ else _) = _
        rw [if_pos (show wV bd pl = ("cut" : Str) from hlot),show wV bd pl = ("cut" : Str) from hlot]
       rw [hs1]
       unfold xf
       rw [List.flatMap_cons,List.flatMap_append]
       rfl
      have cl:∀ (p:List Int) (t:Tr),((xf pl (xl pl p t)).map zm).length <= xu t:=fun p t=>by
       rw [List.length_map]
       exact Nat.le_trans (ku ..) (kj ..)
      rw [hc,List.map_append] at q
      simp [xa]
      refine r2 _ ⟨zP (by lia),?_⟩
      rw [pa]
      refine ⟨low,pl,p ++ [0],d,rfl,hpl,hd1,hd4,hset,hWl,hSl,by lia,by rw [List.length_append]; simp; lia,by lia,?_⟩
      refine r3 _ ⟨zP (by lia),?_⟩
      rw [pa]
      refine ⟨high,pl,p ++ [1],d,rfl,hpl,hd1,hd4,hset,hWh,hSh,by lia,by rw [List.length_append]; simp; lia,by lia,?_⟩
      have c1:=cl (p ++ [0]) low
      have c2:=cl (p ++ [1]) high
      exact ⟨_,_,rfl,rfl,zP (by lia),q⟩
end
end K46
set_option maxRecDepth 100000
set_option maxHeartbeats 1000000
namespace K46
open PySem L2 PySem.Spec PyProof.Rows
def loO:Tr -> Option Tr
 | .one _ _=>none
 | .two _ _ l _=>some l
def hiO:Tr -> Option Tr
 | .one _ _=>none
 | .two _ _ _ h=>some h
def atT:Option Tr -> List Int -> Option Tr
 | o,[]=>o
 | o,x :: p=>atT (o.bind fun t=>if x = 0 then loO t else hiO t) p
theorem ka:∀ (o:Option Tr) (p q:List Int),atT o (p ++ q) = atT (atT o p) q
 | o,[],q=>rfl
 | o,x :: p,q=>by
  show atT (o.bind _) (p ++ q) = atT (atT (o.bind _) p) q
  exact ka _ p q
structure PartOk (d:Nat) (pl:List Pair) (tr:Tr) (x:Part) (vs:List Thing):Prop where
 bit:∀ y ∈ x.1,y = 0 \/ y = 1
 tree:∃ t,atT (some tr) x.1 = some t /\ TreeOf d vs t
 yes:x.2 = none -> ∀ v ∈ vs,zB6 pl v.2.1 = true
 no:∀ k,x.2 = some k -> k < 2 * pl.length /\ kf (yB d (vs.map fun t=>t.2.1)) pl k = true
inductive Shares (d:Nat) (pl:List Pair) (tr:Tr):List Part -> List (List Thing) -> Prop where
 | nil:Shares d pl tr [] []
 | cons {x:Part} {vs:List Thing} {xs:List Part} {vss:List (List Thing)}:PartOk d pl tr x vs -> Shares d pl tr xs vss -> Shares d pl tr (x :: xs) (vs :: vss)
theorem Shares.app {d:Nat} {pl:List Pair} {tr:Tr}:∀ {xs ys:List Part} {vss wss:List (List Thing)},Shares d pl tr xs vss -> Shares d pl tr ys wss -> Shares d pl tr (xs ++ ys) (vss ++ wss)
 | _,_,_,_,.nil,h=>h
 | _,_,_,_,.cons a r,h=>.cons a (r.app h)
structure CoverOk (d:Nat) (pl:List Pair) (tr:Tr) (ts:List Thing) (xs:List Part):Prop where
 r:∃ vss,Shares d pl tr xs vss /\ vss.flatten.Perm ts
theorem QR {d:Nat} {pl:List Pair} {vs:List Thing} {k:Nat} (hpl:pl.length = d) (h1:1 <= vs.length) (hl:∀ t ∈ vs,t.2.1.length = d) (hk:k < 2 * pl.length) (ho:kf (yB d (vs.map fun t=>t.2.1)) pl k = true):∀ v ∈ vs,zB6 pl v.2.1 = false:=fun v hv=>by
 cases hh:zB6 pl v.2.1 with
 | false=>rfl
 | true =>
  have hi:k / 2 < d:=by lia
  have hq:pl[k / 2]? = some pl[k / 2]:=List.getElem?_eq_getElem (by lia)
  have hb:=Zj vs hi
  unfold kf at ho
  rw [yr hb hq] at ho
  obtain ⟨x,hv2⟩:∃ x,v.2.1[k / 2]? = some x:=⟨v.2.1[k / 2]'(by rw [hl v hv]; exact hi),List.getElem?_eq_getElem (by rw [hl v hv]; exact hi)⟩
  have hin:=has_iff.mp hh (k / 2) _ _ hq hv2
  have hc:x ∈ Vv vs (k / 2):=by
   rw [jv]
   exact List.mem_map.mpr ⟨v,hv,by rw [hv2]; rfl⟩
  have g1:=Vo h1 hc
  have g2:=KT h1 hc
  generalize pl[k / 2] = q at ho hin
  obtain ⟨a,b⟩:=q
  unfold Uv at ho
  by_cases he:((a,b):Pair) = emptyP
  ·cases he
   simp [Xi] at hin
   lia
  ·rw [if_neg he] at ho
   split at ho
   ·rcases a with _ | a <;> rcases b with _ | b <;> simp [belowP,Xi] at ho hin <;> lia
   ·rcases a with _ | a <;> rcases b with _ | b <;> simp [aboveP,Xi] at ho hin <;> lia
theorem Vk {d:Nat} {pl:List Pair} {ls vs:List Thing} {k:Nat} (hpl:pl.length = d) (h1:1 <= ls.length) (hs:∀ t ∈ ls,t ∈ vs) (hk:k < 2 * pl.length) (ho:kf (yB d (vs.map fun t=>t.2.1)) pl k = true):kf (yB d (ls.map fun t=>t.2.1)) pl k = true:=by
 have h2:1 <= vs.length:=by
  cases ls with
  | nil=>simp at h1
  | cons a l =>
   have:=hs a (by simp)
   cases vs with
   | nil=>simp at this
   | cons b v=>simp
 have hi:k / 2 < d:=by lia
 have hq:pl[k / 2]? = some pl[k / 2]:=List.getElem?_eq_getElem (by lia)
 unfold kf at ho ⊢
 rw [yr (Zj vs hi) hq] at ho
 rw [yr (Zj ls hi) hq]
 obtain ⟨g1,g2⟩:=zn1 (i:=k / 2) hs h1 h2
 generalize pl[k / 2] = q at ho
 obtain ⟨a,b⟩:=q
 unfold Uv at ho ⊢
 split
 ·rfl
 ·rename_i he
  rw [if_neg he] at ho
  split
  ·rename_i h0
   rw [if_pos h0] at ho
   rcases a with _ | a <;> simp [belowP] at ho ⊢ <;> lia
  ·rename_i h0
   rw [if_neg h0] at ho
   rcases b with _ | b <;> simp [aboveP] at ho ⊢ <;> lia
theorem Vz {d:Nat} {pl:List Pair} {vs:List Thing} (hpl:pl.length = d) (hd:1 <= d) (h1:1 <= vs.length) (hl:∀ t ∈ vs,t.2.1.length = d) (ha:wj (yB d (vs.map fun t=>t.2.1)) pl = false) (hw:wv (yB d (vs.map fun t=>t.2.1)) pl = true):∀ v ∈ vs,zB6 pl v.2.1 = true:=fun v hv=>by
 refine has_iff.mpr fun i q x hq hx=>?_
 have hi:i < d:=by have:=(List.getElem?_eq_some_iff.mp hq).1; lia
 have z:=(kD (by rw [xR,hpl]) (by rw [xR]; exact hd) (ky h1) ha).mp hw i _ _ q (Zj vs hi) hq
 have hc:x ∈ Vv vs i:=by
  rw [jv]
  exact List.mem_map.mpr ⟨v,hv,by rw [hx]; rfl⟩
 have g1:=Vo h1 hc
 have g2:=KT h1 hc
 obtain ⟨a,b⟩:=q
 rcases a with _ | a <;> rcases b with _ | b <;> simp [insP,Xi] at z ⊢ <;> lia
theorem Vj {d:Nat} {pl:List Pair} {tr t:Tr} {vs:List Thing} {p:List Int} (hd:1 <= d) (hpl:pl.length = d) (hset:zN pl = pl) (h:TreeOf d vs t) (hat:atT (some tr) p = some t) (hp:∀ y ∈ p,y = 0 \/ y = 1) (hc:wV (xJ t) pl ≠ ("cut" : Str)):∃ x,xf pl [(p,t,wV (xJ t) pl)] = [x] /\ PartOk d pl tr x vs:=by
 have hbl:(xJ t).length = pl.length:=by rw [h.bd,xR,hpl]
 have hb1:1 <= (xJ t).length:=by lia
 have hE:kC (xJ t):=h.sound.bd
 by_cases ha:wj (xJ t) pl = true
 ·obtain ⟨k, hk⟩ := kb hbl hb1 hE hset ha
  have hlot:wV (xJ t) pl = ("out" : Str):=by unfold wV; rw [if_pos ha]
  obtain ⟨k1,k2,_⟩:=List.find?_range_eq_some.mp hk
  refine ⟨(p,some k),?_,hp,⟨t,hat,h⟩,fun e=>(by cases e),fun k' e=>?_⟩
  ·rw [hlot]
   show [(p,some ((yt (xJ t) pl).getD 0))] = _
   rw [hk]
   rfl
  ·cases e
   exact ⟨List.mem_range.mp k2,by rw [<- h.bd]; exact k1⟩
 ·have ha' : wj (xJ t) pl = false := by
   cases c:wj (xJ t) pl with
   | false=>rfl
   | true=>exact absurd c ha
  by_cases hw:wv (xJ t) pl = true
  ·have hlot : wV (xJ t) pl = ("in" : Str) := by unfold wV; rw [if_neg ha, if_pos hw]
   refine ⟨(p,none),by rw [hlot]; rfl,hp,⟨t,hat,h⟩,fun _=>?_,fun k e=>(by cases e)⟩
   rw [h.bd] at ha' hw
   exact Vz hpl hd h.ne h.lens ha' hw
  ·exact absurd (by unfold wV; rw [if_neg ha,if_neg hw]) hc
theorem Xw {d:Nat} {pl:List Pair} {tr:Tr} (hd:1 <= d) (hpl:pl.length = d) (hset:zN pl = pl) {t:Tr} {vs:List Thing} (h:TreeOf d vs t):∀ {p:List Int},atT (some tr) p = some t -> (∀ y ∈ p,y = 0 \/ y = 1) -> ∃ vss,Shares d pl tr (xf pl (xl pl p t)) vss /\ vss.flatten.Perm vs:=by
 induction h with
 | @one v hv =>
  intro p hat hp
  have T1:TreeOf d [v] (.one v.1 (yB d [v.2.1])):=.one hv
  obtain ⟨x,e,ok⟩:=Vj hd hpl hset T1 hat hp (Kp hd hv hpl)
  refine ⟨[[v]],?_,by simp⟩
  show Shares d pl tr (xf pl [(p,_,wV (yB d [v.2.1]) pl)]) _
  rw [show xf pl [(p,Tr.one v.1 (yB d [v.2.1]),wV (yB d [v.2.1]) pl)] = [x] from e]
  exact .cons ok .nil
 | @two vs ls hs ns low high pm hn hsr hl hh i1 i2 =>
  intro p hat hp
  have T2:TreeOf d vs (.two ns (yB d (vs.map fun t=>t.2.1)) low high):=.two pm hn hsr hl hh
  by_cases hc:wV (yB d (vs.map fun t=>t.2.1)) pl = ("cut" : Str)
  ·have bits : ∀ b : Int, (b = 0 \/ b = 1) -> ∀ y ∈ p ++ [b], y = 0 \/ y = 1 := fun b hb y hy => by
    rcases List.mem_append.mp hy with hy | hy
    ·exact hp y hy
    ·rw [List.mem_singleton.mp hy]; exact hb
   obtain ⟨v1,s1,p1⟩:=i1 (p:=p ++ [0]) (by rw [ka,hat]; rfl) (bits 0 (.inl rfl))
   obtain ⟨v2,s2,p2⟩:=i2 (p:=p ++ [1]) (by rw [ka,hat]; rfl) (bits 1 (.inr rfl))
   refine ⟨v1 ++ v2,?_,?_⟩
   ·have e : xf pl (xl pl p (.two ns (yB d (vs.map fun t => t.2.1)) low high)) = xf pl (xl pl (p ++ [0]) low) ++ xf pl (xl pl (p ++ [1]) high) := by
     have hs1:xl pl p (.two ns (yB d (vs.map fun t=>t.2.1)) low high) = (p,Tr.two ns (yB d (vs.map fun t=>t.2.1)) low high,("cut" : Str)) :: (xl pl (p ++ [0]) low ++ xl pl (p ++ [1]) high):=by
      conv=>lhs; unfold xl
      rw [if_pos hc,hc]
     rw [hs1]
     unfold xf
     rw [List.flatMap_cons,List.flatMap_append]
     rfl
    rw [e]
    exact s1.app s2
   ·rw [List.flatten_append]
    exact (p1.append p2).trans pm
  ·obtain ⟨x, e, ok⟩ := Vj hd hpl hset T2 hat hp hc
   refine ⟨[vs],?_,by simp⟩
   have hs1:xl pl p (.two ns (yB d (vs.map fun t=>t.2.1)) low high) = [(p,Tr.two ns (yB d (vs.map fun t=>t.2.1)) low high,wV (yB d (vs.map fun t=>t.2.1)) pl)]:=by
    conv=>lhs; unfold xl
    rw [if_neg hc]
   rw [hs1]
   rw [show xf pl [(p,Tr.two ns (yB d (vs.map fun t=>t.2.1)) low high,wV (yB d (vs.map fun t=>t.2.1)) pl)] = [x] from e]
   exact .cons ok .nil
theorem zd5 {d:Nat} {pl:List Pair} {tr:Tr} {ts:List Thing} (hd:1 <= d) (hpl:pl.length = d) (hset:zN pl = pl) (h:TreeOf d ts tr):CoverOk d pl tr ts (xf pl (xl pl [] tr)):=⟨Xw hd hpl hset h rfl (fun y hy=>by simp at hy)⟩
theorem Shares.perm {d:Nat} {pl:List Pair} {tr:Tr} {xs ys:List Part} (p:ys.Perm xs):∀ {vss:List (List Thing)},Shares d pl tr xs vss -> ∃ wss,Shares d pl tr ys wss /\ wss.flatten.Perm vss.flatten:=by
 induction p with
 | nil=>exact fun h=>⟨_,h,.refl _⟩
 | cons x p ih =>
  intro vss h
  cases h with
  | cons a r =>
   obtain ⟨wss,s,q⟩:=ih r
   exact ⟨_,.cons a s,by rw [List.flatten_cons,List.flatten_cons]; exact q.append_left _⟩
 | swap x y l =>
  intro vss h
  cases h with
  | cons a r =>
   cases r with
   | cons b r =>
    refine ⟨_,.cons b (.cons a r),?_⟩
    simp only [List.flatten_cons,<- List.append_assoc]
    exact (List.perm_append_comm).append_right _
 | trans p q ih1 ih2 =>
  intro vss h
  obtain ⟨w1,s1,q1⟩:=ih2 h
  obtain ⟨w2,s2,q2⟩:=ih1 s1
  exact ⟨w2,s2,q2.trans q1⟩
theorem CoverOk.perm {d:Nat} {pl:List Pair} {tr:Tr} {ts:List Thing} {xs ys:List Part} (h:CoverOk d pl tr ts xs) (p:ys.Perm xs):CoverOk d pl tr ts ys:=by
 obtain ⟨vss,s,q⟩:=h.r
 obtain ⟨wss,s2,q2⟩:=s.perm p
 exact ⟨wss,s2,q2.trans q⟩
theorem PartOk.split {d:Nat} {pl:List Pair} {tr t low high:Tr} {x:Part} {vs:List Thing} {ns:List Int} {bd:List Pair} (hpl:pl.length = d) (h:PartOk d pl tr x vs) (hat:atT (some tr) x.1 = some (.two ns bd low high)):∃ ls hs:List Thing,PartOk d pl tr (x.1 ++ [0],x.2) ls /\ PartOk d pl tr (x.1 ++ [1],x.2) hs /\ (ls ++ hs).Perm vs:=by
 obtain ⟨t',e,T⟩:=h.tree
 rw [hat] at e
 cases e
 cases T with
 | @two _ ls hs _ _ _ pm hn hsr hl hh =>
  have bits:∀ b:Int,(b = 0 \/ b = 1) -> ∀ y ∈ x.1 ++ [b],y = 0 \/ y = 1:=fun b hb y hy=>by
   rcases List.mem_append.mp hy with hy | hy
   ·exact h.bit y hy
   ·rw [List.mem_singleton.mp hy]; exact hb
  have m1:∀ v ∈ ls,v ∈ vs:=fun v hv=>pm.mem_iff.mp (List.mem_append_left _ hv)
  have m2:∀ v ∈ hs,v ∈ vs:=fun v hv=>pm.mem_iff.mp (List.mem_append_right _ hv)
  refine ⟨ls,hs,⟨bits 0 (.inl rfl),⟨low,by rw [ka,hat]; rfl,hl⟩,fun e v hv=>h.yes e v (m1 v hv),fun k e=>?_⟩,⟨bits 1 (.inr rfl),⟨high,by rw [ka,hat]; rfl,hh⟩,fun e v hv=>h.yes e v (m2 v hv),fun k e=>?_⟩,pm⟩
  ·obtain ⟨k1, k2⟩ := h.no k e
   exact ⟨k1,Vk hpl hl.ne m1 k1 k2⟩
  ·obtain ⟨k1, k2⟩ := h.no k e
   exact ⟨k1,Vk hpl hh.ne m2 k1 k2⟩
end K46
set_option maxRecDepth 100000
set_option maxHeartbeats 1000000
namespace K46
open PySem L2 PySem.Spec PyProof.Rows
theorem yl (t:Tr):zY t = .tup [.tup ((wo t).map D.int),zi (xJ t),zV (loO t),zV (hiO t)]:=by cases t <;> rfl
theorem ZY:∀ p:List Int,atT none p = none
 | []=>rfl
 | x :: p=>by show atT none p = none; exact ZY p
theorem Vy {o:Option Tr} {p:List Int} {i:Nat} {y:Int} (h:p[i]? = some y):atT o (p.take (i + 1)) = atT (atT o (p.take i)) [y]:=by rw [List.take_add_one,h,<- ka]; rfl
theorem zd9 {o:Option Tr} {p:List Int} {i:Nat} (h:atT o (p.take i) = none):atT o p = none:=by
 rw [<- List.take_append_drop i p,ka,h,ZY]
theorem qG:∀ {p:List Int} {a t:Tr},atT (some a) p = some t -> p.length + wk t <= wk a
 | [],a,t,h=>by cases h; simp
 | x :: p, a, t, h => by
  have h':atT (if x = 0 then loO a else hiO a) p = some t:=h
  cases a with
  | one y bd =>
   have e:(if x = 0 then loO (.one y bd) else hiO (.one y bd)) = none:=by split <;> rfl
   rw [e,ZY] at h'
   cases h'
  | two ns bd l r =>
   have hd:wk (.two ns bd l r) = 1 + max (wk l) (wk r):=rfl
   rw [hd,List.length_cons]
   by_cases hx:x = 0
   ·rw [if_pos hx] at h'
    have:=qG (a:=l) h'
    lia
   ·rw [if_neg hx] at h'
    have:=qG (a:=r) h'
    lia
structure JTa (o:Option Tr) (p:List Int) (n i:Nat) (rho:Rho) (m:Nat):Prop where
 e:m = n
 r:∃ (a b c d e:Option D),rho = [some (zV (atT o (p.take i))),some (.tup (p.map D.int)),a,b,c,d,e]
structure JLa (o:Option Tr) (p:List Int) (n i:Nat) (rho:Rho) (m:Nat):Prop where
 e:m = n
 r:∃ (a:Option D),rho = [some (zV (atT o (p.take i))),some (.tup (p.map D.int)),a]
def nmD (us:List Thing):D:=.tup (us.map fun t=>.int t.1)
@[simp] theorem xa7 (us:List Thing):zu (nmD us) = true:=id rfl
theorem TreeOf.names {d:Nat} {vs:List Thing} {t:Tr} (h:TreeOf d vs t):(wo t).Perm (vs.map fun t=>t.1):=by
 cases h with
 | one=>exact .refl _
 | two pm hn=>exact hn
theorem Shares.mem {d:Nat} {pl:List Pair} {tr:Tr} {x:Part}:∀ {xs:List Part} {vss:List (List Thing)},Shares d pl tr xs vss -> x ∈ xs -> ∃ vs,PartOk d pl tr x vs
 | _,_,.nil,h=>by simp at h
 | _,_,.cons a r,h=>by
  rcases List.mem_cons.mp h with rfl | h
  ·exact ⟨_,a⟩
  ·exact r.mem h
section
variable {P:Program} {w:World} {K:PySem.W.Frag} {mg:Str -> Option Value} {base:Heap}
abbrev yC:Stmt:=top 28
abbrev Qd:List Str:=["tree", "path", "turn", "names", "limits", "low", "high"]
theorem sc_tree_at:FnScope Qd ["tree", "path"] (zg yC):=⟨rfl,rfl,rfl,by decide +kernel,rfl,by decide +kernel,by decide +kernel⟩
def qI:TF:=fun ds n Q=>∃ (o:Option Tr) (p:List Int),ds = [zV o,.tup (p.map D.int)] /\ Q (zV (atT o p)) n
theorem VR {f:Addr} {fd:FuncData} (F:Fun K "tree_at" "tree_at" yC f fd):FnOk P w K mg base CX0 1 f fd ["tree", "path"] (spD K 2 qI):=by
 refine Fun.okD F sc_tree_at (fun cdv A0 outer s H E G Z hr=>(zf (wN (m:=7) PassesOwn.never rfl (xn rfl (zc 1)) (zj (i:=2) sc_tree_at.nd rfl (lo rfl) (by decide))
  (zf (zX (zt wu wr (zc 0) zT (zv _)) (zh (zk zT)) zB)
  (zf (vc (m:=7) (zc 0) (xI (k:=4) rfl rfl (zp (zj (i:=3) sc_tree_at.nd rfl (lo rfl) (by decide)) (zp (zj (i:=4) sc_tree_at.nd rfl (lo rfl) (by decide)) (zp (zj (i:=5) sc_tree_at.nd rfl (lo rfl) (by decide)) (zp (zj (i:=6) sc_tree_at.nd rfl (lo rfl) (by decide)) xm))))))
  (zh (zF (i:=0) sc_tree_at.nd rfl (lo rfl) (qm (zt kQ kN (zc 2) ze (zv _)) (zc 5) (zc 6)))))))
  (zh (zk (zc 0))))) ?_
 rintro ds n Q hl ⟨o,p,rfl,q⟩
 simp [startD]
 refine ⟨JTa o p n,⟨rfl,_,_,_,_,_,rfl⟩,?_,?_⟩
 ·rintro i d rho m e ⟨rfl, a, b, c, d1, e1, rfl⟩
  rw [List.getElem?_map] at e
  cases h:p[i]? with
  | none=>rw [h] at e; cases e
  | some y =>
   rw [h] at e
   cases e
   have ht:=Vy (o:=o) h
   cases hc:atT o (p.take i) with
   | none =>
    have r:Q .non m:=by rw [zd9 hc] at q; exact q
    simp [zV]
    exact r
   | some t =>
    rw [hc] at ht
    have ht':atT o (p.take (i + 1)) = if y = 0 then loO t else hiO t:=ht
    have nt:=xa t
    have ni:wO (zY t) = false:=by cases t <;> rfl
    have fin:∀ (z a b c d:Option D) (dd:D),dd = (if y = 0 then zV (loO t) else zV (hiO t)) -> JTa o p m (i + 1) [some dd,some (.tup (p.map D.int)),z,a,b,c,d] m:=fun z a b c d dd hdd=>by
     refine ⟨rfl,z,a,b,c,d,?_⟩
     rw [ht',hdd]
     split <;> rfl
    simp [zV,nt,ni]
    rw [yl]
    simp
    by_cases hy:y = 0
    ·simp [hy]
     exact fin _ _ _ _ _ _ (by rw [if_pos hy])
    ·simp [hy]
     exact fin _ _ _ _ _ _ (by rw [if_neg hy])
 ·rintro rho m ⟨rfl, a, b, c, d1, e1, rfl⟩
  rw [List.length_map,List.take_length]
  simp
  exact q
abbrev yH:Stmt:=top 54
abbrev Qh:List Str:=["_law_tree_here", "_law_path", "_law_step"]
theorem sc__law_at:FnScope Qh ["_law_tree_here", "_law_path"] (zg yH):=⟨rfl,rfl,rfl,by decide +kernel,rfl,by decide +kernel,by decide +kernel⟩
theorem zy2 {f:Addr} {fd:FuncData} (F:Fun K "_law_at" "_law_at" yH f fd):FnOk P w K mg base CX0 1 f fd ["_law_tree_here", "_law_path"] (spD K 2 fun ds n Q=>∃ (o:Option Tr) (p:List Int),ds = [zV o,.tup (p.map D.int)] /\ (∀ y ∈ p,y = 0 \/ y = 1) /\ Q (zV (atT o p)) n):=by
 refine Fun.okD F sc__law_at (fun cdv A0 outer s H E G Z hr=>(zf (wN (m:=3) PassesOwn.never rfl (xn rfl (zc 1)) (zj (i:=2) sc__law_at.nd rfl (lo rfl) (by decide))
  (zh (zF (i:=0) sc__law_at.nd rfl (lo rfl) (qm (zt wu wr (zc 0) zT (zv _)) zT (zE zn zD (zc 0) (wP ze (zc 2)) (fun _ _=>rfl))))))
  (zh (zk (zc 0))))) ?_
 rintro ds n Q hl ⟨o,p,rfl,hp,q⟩
 simp [startD]
 refine ⟨JLa o p n,⟨rfl,_,rfl⟩,?_,?_⟩
 ·rintro i d rho m e ⟨rfl, a, rfl⟩
  rw [List.getElem?_map] at e
  cases h:p[i]? with
  | none=>rw [h] at e; cases e
  | some y =>
   rw [h] at e
   cases e
   have ht:=Vy (o:=o) h
   have hy:=hp y (List.mem_of_getElem? h)
   cases hc:atT o (p.take i) with
   | none =>
    rw [hc] at ht
    simp [zV]
    exact ⟨rfl,_,by rw [ht]; rfl⟩
   | some t =>
    rw [hc] at ht
    have ht':atT o (p.take (i + 1)) = if y = 0 then loO t else hiO t:=ht
    have nt:=xa t
    have ni:wO (zY t) = false:=by cases t <;> rfl
    simp [zV,nt,ni]
    rw [yl]
    rcases hy with rfl | rfl
    ·exact ⟨_,2,_,.inr (.inl rfl),rfl,rfl,rfl,_,by rw [ht']; rfl⟩
    ·exact ⟨_,3,_,.inr (.inl rfl),rfl,rfl,rfl,_,by rw [ht']; rfl⟩
 ·rintro rho m ⟨rfl, a, rfl⟩
  rw [List.length_map,List.take_length]
  simp
  exact q
def zr4:TF:=fun ds n Q=>∃ (o:Option Tr) (p:List Int),ds = [zV o,.tup (p.map D.int)] /\ (∀ y ∈ p,y = 0 \/ y = 1) /\ Q (zV (atT o p)) n
end
end K46
set_option maxRecDepth 100000
set_option maxHeartbeats 1000000
namespace K46
open PySem L2 PySem.Spec PyProof.Rows
theorem zo8 (x:D) (es:List D):Ym (x :: es) (some 1) none = es:=by
 unfold Ym
 rw [show (some (1:Int)) = some ((1:Nat):Int) from rfl,HT.Wk,HT.ZD]
 simp
@[simp] theorem zm6 (x:Part):zu (zm x) = true:=by
 obtain ⟨p,k⟩:=x
 cases k <;> rfl
theorem za7 (x:Part) (k:Nat):okE (zm x) (k + 2) = true:=by
 have hi:∀ p:List Int,okE (.tup (p.map D.int)) (k + 1) = true:=fun p=>okE_tup.mpr fun d hd=>by
  obtain ⟨x,_,rfl⟩:=List.mem_map.mp hd
  exact yR
 obtain ⟨p,j⟩:=x
 cases j with
 | none =>
  refine okE_tup.mpr fun d hd=>?_
  simp only [List.mem_cons,List.not_mem_nil,or_false] at hd
  rcases hd with rfl | rfl
  ·exact hi p
  ·simp [okE]
 | some j =>
  refine okE_tup.mpr fun d hd=>?_
  simp only [List.mem_cons,List.not_mem_nil,or_false] at hd
  rcases hd with rfl | rfl | rfl | rfl
  ·exact hi p
  ·simp [okE]
  ·exact yR
  ·exact yR
structure JMx (xs:List Part) (m:Nat) (rho:Rho) (n:Nat):Prop where
 e:n = 3
 r:∃ row found:List Part,m = row.length /\ (row ++ found).Perm xs /\ rho = [some .st,some (.tup (xs.map zm)),some (.own (row.map zm)),some (.own (found.map zm))]
theorem Xf {α β:Type} (f:α -> β):∀ (l:List α) (k:Nat),(l.eraseIdx k).map f = (l.map f).eraseIdx k
 | [],k=>rfl
 | a :: l,0=>rfl
 | a :: l,k + 1=>by
  show f a :: (l.eraseIdx k).map f = f a :: (l.map f).eraseIdx k
  rw [Xf f l k]
theorem Zb {α:Type}:∀ {l:List α} {k:Nat} {x:α},l[k]? = some x -> (x :: l.eraseIdx k).Perm l
 | a :: l,0,x,h=>by cases h; exact .refl _
 | a :: l,k + 1,x,h=>by
  have ih:=Zb (l:=l) (k:=k) (x:=x) (by simpa using h)
  exact (List.Perm.swap a x _).trans (ih.cons a)
theorem Shares.get {d:Nat} {pl:List Pair} {tr:Tr} {x:Part}:∀ {xs:List Part} {vss:List (List Thing)} {i:Nat},Shares d pl tr xs vss -> xs[i]? = some x -> ∃ vs,vss[i]? = some vs /\ PartOk d pl tr x vs
 | _,_,i,.nil,h=>by simp at h
 | _,_,0,.cons a r,h=>by cases h; exact ⟨_,rfl,a⟩
 | _,_,i + 1,.cons a r,h=>by
  obtain ⟨vs,e,ok⟩:=r.get (i:=i) (by simpa using h)
  exact ⟨vs,by simpa using e,ok⟩
theorem Shares.len {d:Nat} {pl:List Pair} {tr:Tr}:∀ {xs:List Part} {vss:List (List Thing)},Shares d pl tr xs vss -> xs.length = vss.length
 | _,_,.nil=>rfl
 | _,_,.cons a r=>by rw [List.length_cons,List.length_cons,r.len]
structure JFn (d:Nat) (pl:List Pair) (tr:Tr) (xs:List Part) (vss:List (List Thing)) (i:Nat) (rho:Rho) (n:Nat):Prop where
 e:n = 3
 r:∃ (ys:List Part) (wss:List (List Thing)) (a b c e:Option D),Shares d pl tr ys wss /\ wss.flatten.Perm (vss.take i).flatten /\ ys.length <= 2 * i /\ rho = [some .st,some (zY tr),some (zi pl),some (.tup (xs.map zm)),some (.own (ys.map zm)),a,b,c,e]
section
variable {P:Program} {w:World} {K:PySem.W.Frag} {mg:Str -> Option Value} {base:Heap}
abbrev xY:Stmt:=top 55
abbrev XN:List Str:=["_law_left_here", "_law_parts_here", "_law_row", "_law_found"]
theorem sc__law_mixed:FnScope XN ["_law_left_here", "_law_parts_here"] (zg xY):=⟨rfl,rfl,rfl,by decide +kernel,rfl,by decide +kernel,by decide +kernel⟩
def XZ:TF:=fun ds n Q=>∃ xs:List Part,ds = [.st,.tup (xs.map zm)] /\ n = 3 /\ xs.length <= 900 /\ ∀ ys:List Part,ys.Perm xs -> Q (.tup (ys.map zm)) 3
theorem QX {f:Addr} {fd:FuncData} (T:Blt mg) (F:Fun K "_law_mixed" "_law_mixed" xY f fd) (F__law_pick:Fn P w K mg base "_law_pick" 1 2 vM):FnOk P w K mg base CX0 2 f fd ["_law_left_here", "_law_parts_here"] (spD K 2 XZ):=by
 refine Fun.okD F sc__law_mixed (fun cdv A0 outer s H E G Z hr=>(zf (UZ (i:=2) (j:=3) rfl rfl T.list sc__law_mixed.nd rfl rfl (by decide) rfl rfl (zb (zc 1) zd))
  (zf (YL PassesOwn.never (YK (i:=2) hr rfl)
  (zh (VJ (i:=3) (j:=2) (zb (zy F__law_pick (hr.mono (by decide)) rfl (zb (zc 0) (zb (qV (i:=2) T.len rfl) zd))) zd) rfl)))
  (zh (vd 3 (zk (zW zQ xN T.tuple xo (zb (zc 3) zd)))))))) ?_
 rintro ds n Q hl ⟨xs,rfl,rfl,hz,q⟩
 simp [startD]
 refine ⟨JMx xs,⟨xs.length,rfl,xs,[],rfl,by simp,rfl⟩,?_⟩
 rintro m rho n' ⟨rfl,row,found,rfl,hp,rfl⟩
 have hlen:=hp.length_eq
 rw [List.length_append] at hlen
 have okr:okE (.lst (row.map zm)) 20 = true:=okE_lst.mpr fun d hd=>by
  obtain ⟨x,_,rfl⟩:=List.mem_map.mp hd
  exact za7 x 17
 simp
 refine ⟨okr,?_⟩
 cases hrow:row with
 | nil =>
  rw [hrow] at hp
  simp [vK]
  exact q found (by simpa using hp)
 | cons y r =>
  have e0:vK ((y :: r).map zm) [] = false:=rfl
  rw [e0]
  rw [hrow] at hp hlen
  rw [List.length_cons] at hlen
  simp
  refine ⟨lt_size (by lia),zx (by lia) (by lia) fun k g0 g1=>?_⟩
  obtain ⟨k,rfl⟩:=Int.eq_ofNat_of_zero_le g0
  have hk:k < (y :: r).length:=by rw [List.length_cons]; lia
  have hg:(y :: r)[k]? = some (y :: r)[k]:=List.getElem?_eq_getElem hk
  generalize (y :: r)[k] = x at hg
  refine ⟨k,rfl,by lia,zm x,⟨x.1,x.2,hg,rfl⟩,r.length,by lia,rfl,(y :: r).eraseIdx k,found ++ [x],?_,?_,?_⟩
  ·rw [List.length_eraseIdx,if_pos hk]; simp
  ·refine List.Perm.trans ?_ hp
   have z:=(Zb hg).append_right found
   refine List.Perm.trans ?_ z
   rw [<- List.append_assoc]
   exact (List.perm_append_comm (l₁:=(y :: r).eraseIdx k ++ found) (l₂:=[x]))
  ·rw [List.map_append]
   have e1:((y :: r).eraseIdx k).map zm = (zm y :: r.map zm).eraseIdx k:=by rw [<- List.map_cons,Xf]
   rw [e1]
   rfl
abbrev wb:Stmt:=top 56
abbrev vB:List Str:=["_law_left_here", "_law_tree_here", "_law_plain_here", "_law_parts_here", "_law_found", "_law_part", "_law_one", "_law_some", "_law_k"]
theorem sc__law_finer:FnScope vB ["_law_left_here", "_law_tree_here", "_law_plain_here", "_law_parts_here"] (zg wb):=⟨rfl,rfl,rfl,by decide +kernel,rfl,by decide +kernel,by decide +kernel⟩
theorem jj:("_law_k" :: ["_law_left_here", "_law_tree_here", "_law_plain_here", "_law_parts_here", "_law_found", "_law_part", "_law_one", "_law_some", "_law_k'"]:List Str).Nodup:=by decide +kernel
theorem ji:("_law_side" :: vB:List Str).Nodup:=by decide +kernel
def Wc:TF:=fun ds n Q=>∃ (d:Nat) (pl:List Pair) (tr:Tr) (xs:List Part) (vss:List (List Thing)),ds = [.st,zY tr,zi pl,.tup (xs.map zm)] /\ n = 3 /\ pl.length = d /\ d <= 4 /\ Shares d pl tr xs vss /\ xs.length <= 200 /\ wk tr <= 200 /\ ∀ (ys:List Part) (wss:List (List Thing)),Shares d pl tr ys wss -> wss.flatten.Perm vss.flatten -> ys.length <= 2 * xs.length -> Q (.tup (ys.map zm)) 3
theorem za2 {f : Addr} {fd : FuncData} (T : Blt mg) (F : Fun K "_law_finer" "_law_finer" wb f fd) (F__law_pick : Fn P w K mg base "_law_pick" 1 2 vM) (F__law_at : Fn P w K mg base "_law_at" 1 2 zr4) (F__law_beyond : Fn P w K mg base "_law_beyond" 1 4 vD) : FnOk P w K mg base CX0 2 f fd ["_law_left_here", "_law_tree_here", "_law_plain_here", "_law_parts_here"] (spD K 4 Wc) := by
 refine Fun.okD F sc__law_finer (fun cdv A0 outer s H E G Z hr=>(zf (kO (i:=4) sc__law_finer.nd rfl (lo rfl) zd)
  (zf (wN (m:=9) PassesOwn.never rfl (xn rfl (zc 3)) (zj (i:=5) sc__law_finer.nd rfl (lo rfl) (by decide))
  (zf (zF (i:=6) sc__law_finer.nd rfl (lo rfl) (zy F__law_at (hr.mono (by decide)) rfl (zb (zc 1) (zb (zE zn zD (zc 5) ze (fun _ _=>rfl)) zd))))
  (zf (zX (zt kQ kN (zE zn zD (zc 5) ze (fun _ _=>rfl)) wt (zv _)) (zf (vU (i:=7) sc__law_finer.nd rfl (lo rfl) (own:=["_law_k"]) (M:=["_law_left_here", "_law_tree_here", "_law_plain_here", "_law_parts_here", "_law_found", "_law_part", "_law_one", "_law_some", "_law_k'"]) (wg (by rfl)) rfl (yj T.range (zb (yW ze (zw zI wQ T.len wL (zb (zc 2) zd))) zd)) (fun C s2 H2 fp=>(zj (i:=0) jj rfl (lo rfl) (by decide))) (fun C s2 H2 fp=>(WZ (wl (zy F__law_beyond (hr.mono (by decide)) rfl (zb (zE zn zD (zc 7) ze (fun _ _=>rfl)) (zb (zc 3) (zb (qi (zc 0) ze) (zb (yq (zc 0) ze) zd)))))))) (fun C s2 H2 fp=>(zc 0)))
  (zf (zF (i:=8) sc__law_finer.nd rfl (lo rfl) (zE zn zD (zc 7) (zy F__law_pick (hr.mono (by decide)) rfl (zb (zc 0) (zb (zw zI wQ T.len wL (zb (zc 7) zd)) zd))) (fun _ _=>rfl)))
  (zh (zF (i:=5) sc__law_finer.nd rfl (lo rfl) (zL (zb (zE zn zD (zc 5) ze (fun _ _=>rfl)) (zb wt (zb (qi (zc 8) ze) (zb (yq (zc 8) ze) zd))))))))) zB)
  (zh (zX (PWD.pt (wM (zt yx yw (zE zn zD (zc 6) ze (fun _ _=>rfl)) zT (zv _)) (wS (zt kQ kN (zy F__law_pick (hr.mono (by decide)) rfl (zb (zc 0) (zb ze zd))) ze (zv _))))) (zh (VI (i:=4) (zb (xQ (own:=["_law_side"]) (M:=vB) (wg (by rfl)) rfl (xn rfl (zL (zb ze (zb ze zd)))) (fun C s2 H2 fp=>(zj (i:=0) ji rfl (lo rfl) (by decide))) (fun C s2 H2 fp=>zZ) (fun C s2 H2 fp=>(vh yP vT (zL (zb (vh yP vT (zE zn zD (zc 6) ze (fun _ _=>rfl)) (zL (zb (zc 0) zd))) zd)) (zw8 rfl (zc 6) (ZG ze) ZH)))) zd) rfl)) (zh (xr (i:=4) (zb (zc 5) zd) rfl)))))))
  (zh (vd 4 (zk (zW zQ xN T.tuple xo (zb (zc 4) zd)))))))) ?_
 rintro ds n Q hl ⟨d,pl,tr,xs,vss,rfl,rfl,hpl,hd4,S,hz,hdp,q⟩
 have ntr:=xa tr
 generalize hB2:sIf (zU3 _ _) _ _ = B2
 simp [startD,ntr]
 refine ⟨JFn d pl tr xs vss,⟨rfl,[],[],none,none,none,none,.nil,.refl _,by simp,rfl⟩,?_,?_⟩
 ·rintro i dd rho m e ⟨rfl, ys, wss, a, b, c, e1, S1, p1, l1, rfl⟩
  rw [List.getElem?_map] at e
  cases h:xs[i]? with
  | none=>rw [h] at e; cases e
  | some x =>
   rw [h] at e
   cases e
   have hi:i < xs.length:=(List.getElem?_eq_some_iff.mp h).1
   obtain ⟨vs,hvs,ok⟩:=S.get h
   obtain ⟨t,hat,TT⟩:=ok.tree
   have nt:=xa t
   have htk:(vss.take (i + 1)).flatten = (vss.take i).flatten ++ vs:=by rw [List.take_add_one,hvs]; simp
   have hpd:=qG hat
   have r1:∀ R:D -> Prop,R (zi (xJ t)) -> ql (zY t) (.int 1) R:=fun R h=>by rw [yl]; exact ⟨_,1,_,.inr (.inl rfl),rfl,rfl,h⟩
   have r2:∀ R:D -> Prop,R (zV (loO t)) -> ql (zY t) (.int 2) R:=fun R h=>by rw [yl]; exact ⟨_,2,_,.inr (.inl rfl),rfl,rfl,h⟩
   have ylen:(ys.map zm).length < 900:=by rw [List.length_map]; lia
   have one:∀ (k':Option Nat) (c e:Option D),PartOk d pl tr (x.1,k') vs -> JFn d pl tr xs vss (i + 1) [some .st,some (zY tr),some (zi pl),some (.tup (xs.map zm)),some (.own (ys.map zm ++ [zm (x.1,k')])),some (zm (x.1,k')),some (zY t),c,e] 3:=fun k' c e ok'=>by
    refine ⟨rfl,ys ++ [(x.1,k')],wss ++ [vs],_,_,c,e,S1.app (.cons ok' .nil),?_,by rw [List.length_append]; simp; lia,by rw [List.map_append]; rfl⟩
    rw [List.flatten_append,htk]
    simp
    exact p1.append_right _
   have cont : ∀ (k' : Option Nat) (F : EndsD) (c e : Option D), F.nx = JFn d pl tr xs vss (i + 1) -> PartOk d pl tr (x.1, k') vs -> B2 F [some .st, some (zY tr), some (zi pl), some (.tup (xs.map zm)), some (.own (ys.map zm)), some (zm (x.1, k')), some (zY t), c, e] 3 := fun k' F c e hF ok' => by
    subst hB2
    simp [nt]
    refine r2 _ ?_
    cases ht:t with
    | one y bd =>
     simp [loO,zV]
     rw [hF,<- ht]
     exact ⟨lt_size (by rw [List.length_map] at ylen; lia),one k' c e ok'⟩
    | two ns bd low high =>
     have nl:=xa low
     have ni:wO (zY low) = false:=by cases low <;> rfl
     simp [loO,zV,nl,ni]
     refine zx (by decide) (by decide) fun k g0 g1=>?_
     simp
     rw [hF]
     split
     ·obtain ⟨ls, hs, o1, o2, pm⟩ := ok'.split (t := t) hpl (by rw [hat, ht])
      have ib:[D.int 0,D.int 1] = ([0,1]:List Int).map D.int:=rfl
      rw [ib]
      refine zS D.int (fun s=>zm (x.1 ++ [s],k')) [0,1] (zP (by simp)) (fun s hs' R hR=>?_) ?_
      ·have ep : ∀ r : List D, zm (x.1, k') = .tup (.tup (x.1.map D.int) :: r) -> zm (x.1 ++ [s], k') = .tup (.tup (x.1.map D.int ++ [.int s]) :: r) := fun r e => by
        cases k' with
        | none=>cases e; show D.tup [.tup ((x.1 ++ [s]).map D.int),_] = _; rw [List.map_append]; rfl
        | some k'=>cases e; show D.tup [.tup ((x.1 ++ [s]).map D.int),_,_,_] = _; rw [List.map_append]; rfl
       obtain ⟨r,er,hrl⟩:∃ r,zm (x.1,k') = .tup (.tup (x.1.map D.int) :: r) /\ r.length <= 3:=by cases k' <;> exact ⟨_,rfl,by simp⟩
       rw [ep r er] at hR
       rw [er]
       simp [zo8]
       exact ⟨zP (by lia),zP (by lia),hR⟩
      ·refine ⟨_, rfl, zP (by rw [List.length_map] at ylen ⊢; simp; lia), rfl, ys ++ [(x.1 ++ [0], k'), (x.1 ++ [1], k')], wss ++ [ls, hs], _, _, c, e, S1.app (.cons o1 (.cons o2 .nil)), ?_, by rw [List.length_append]; simp; lia, by rw [List.map_append]; rfl⟩
       rw [List.flatten_append,htk]
       simp
       exact p1.append pm
     ·rw [<- ht]
      exact ⟨lt_size (by rw [List.length_map] at ylen; lia),one k' c e ok'⟩
   have i0:∀ R:D -> Prop,R (.tup (x.1.map D.int)) -> ql (zm x) (.int 0) R:=fun R h=>by
    obtain ⟨p,k⟩:=x
    cases k <;> exact ⟨_,0,_,.inr (.inl rfl),rfl,rfl,h⟩
   have nx:=zm6 x
   simp [ntr]
   refine i0 _ ⟨some tr,x.1,rfl,ok.bit,?_⟩
   rw [hat]
   cases hk:x.2 with
   | none =>
    have ex:x = (x.1,none):=by rw [<- hk]
    have i1:∀ R:D -> Prop,R (.str "in") -> ql (zm x) (.int 1) R:=fun R h=>by rw [ex]; exact ⟨_,1,_,.inr (.inl rfl),rfl,rfl,h⟩
    refine i1 _ ?_
    simp
    have z:=cont none
    rw [<- ex] at z
    exact z _ _ _ rfl ok
   | some k0 =>
    have ex:x = (x.1,some k0):=by rw [<- hk]
    have i1:∀ R:D -> Prop,R (.str "out") -> ql (zm x) (.int 1) R:=fun R h=>by rw [ex]; exact ⟨_,1,_,.inr (.inl rfl),rfl,rfl,h⟩
    obtain ⟨k1,k2⟩:=ok.no k0 hk
    refine i1 _ ?_
    simp
    refine qW ?_
    simp
    have e:(2 * (pl.length:Int)).toNat = 2 * pl.length:=by lia
    refine ⟨.inl ⟨by decide,by decide⟩,by lia,by lia,?_⟩
    rw [e,qA]
    have hbl:(xJ t).length = pl.length:=by rw [TT.bd,xR,hpl]
    refine WA (fun k:Nat=>D.int (k:Int)) (kf (xJ t) pl) (fun k=>D.int (k:Int)) (List.range (2 * pl.length)) (by rw [List.length_range]; exact zP (by lia)) (fun k hk R S' h1 h2=>?_) ?_
    ·simp [zV, nt]
     refine r1 _ ⟨⟨by decide,by decide⟩,vt hbl (List.mem_range.mp hk) TT.sound.bd ?_⟩
     cases ho:kf (xJ t) pl k with
     | true=>simp; exact h1 ho
     | false=>simp; exact h2 ho
    ·have hm : k0 ∈ (List.range (2 * pl.length)).filter (kf (xJ t) pl) := List.mem_filter.mpr ⟨List.mem_range.mpr k1, by rw [TT.bd]; exact k2⟩
     have hall:∀ k ∈ (List.range (2 * pl.length)).filter (kf (xJ t) pl),k < 2 * pl.length /\ kf (yB d (vs.map fun t=>t.2.1)) pl k = true:=fun k hk=>by
      obtain ⟨h1,h2⟩:=List.mem_filter.mp hk
      exact ⟨List.mem_range.mp h1,by rw [<- TT.bd]; exact h2⟩
     have hfl:((List.range (2 * pl.length)).filter (kf (xJ t) pl)).length <= 2 * pl.length:=Nat.le_trans (List.length_filter_le ..) (by rw [List.length_range]; exact Nat.le_refl _)
     generalize (List.range (2 * pl.length)).filter (kf (xJ t) pl) = L at hm hall hfl
     have hLp:0 < L.length:=List.length_pos_of_mem hm
     simp
     refine zx (by lia) (by lia) fun kk g0 g1=>zk6 g0 (by simpa using g1) fun dd hdd=>?_
     obtain ⟨k,hkL,rfl⟩:=List.mem_map.mp hdd
     refine i0 _ ?_
     simp
     refine ⟨⟨by decide,by decide⟩,?_⟩
     exact cont (some k) _ _ _ rfl ⟨ok.bit,⟨t,hat,TT⟩,fun e=>(by cases e),fun k' e=>by cases e; exact hall k hkL⟩
 ·rintro rho m ⟨rfl, ys, wss, a, b, c, e1, S1, p1, l1, rfl⟩
  rw [List.length_map] at p1 l1
  rw [List.take_of_length_le (by rw [<- S.len]; exact Nat.le_refl _)] at p1
  simp
  exact q ys wss S1 p1 l1
end
end K46
set_option maxRecDepth 100000
set_option maxHeartbeats 1000000
namespace K46
open PySem L2 PySem.Spec PyProof.Rows
@[simp] theorem ofString_inj {a b : String} : Str.ofString a = Str.ofString b ↔ a = b := by
 constructor
 ·intro h
  rw [Str.ofString_eq_toList,Str.ofString_eq_toList] at h
  injection h with h
  have h2:a.toList.map Char.toNat = b.toList.map Char.toNat:=by simpa using h
  have h3:a.toList = b.toList:=List.map_inj_right (fun x y e=>Char.ext (UInt32.toNat_inj.mp e)) |>.mp h2
  exact String.toList_inj.mp h3
 ·intro h; rw [h]
@[simp] theorem q_rdEqS {x y:Str} {k:D -> Prop}:zf3 (.str x) (.str y) k ↔ k (.bl (decide (x = y))):=by
 have e:decide (ofS (.str x) = ofS (.str y)) = decide (x = y):=by simp [ofS]
 exact ⟨fun h=>by have:=h.2.2.2; rwa [e] at this,fun h=>⟨rfl,rfl,rfl,by rw [e]; exact h⟩⟩
@[simp] theorem zM4 {x y:Str} {k:D -> Prop}:zq0 (.str x) (.str y) k ↔ k (.bl (!decide (x = y))):=by
 have e:decide (ofS (.str x) = ofS (.str y)) = decide (x = y):=by simp [ofS]
 exact ⟨fun h=>by have:=h.2.2.2; rwa [e] at this,fun h=>⟨rfl,rfl,rfl,by rw [e]; exact h⟩⟩
@[simp] theorem zT8 {x y : String} : eqD (.str (Str.ofString x)) (.str (Str.ofString y)) = decide (x = y) := by
 unfold eqD
 by_cases h:x = y
 ·subst h; simp
 ·have : ¬ Str.ofString x = Str.ofString y := fun e => h (ofString_inj.mp e)
  simp [h,this]
@[simp] theorem zM9 {neg : Bool} {x a b : String} {k : D -> Prop} : zV4 neg (.str (Str.ofString x)) (.tup [.str (Str.ofString a), .str (Str.ofString b)]) k ↔ k (.bl (if neg then !(decide (a = x) || decide (b = x)) else (decide (a = x) || decide (b = x)))) := by
 have e:inD (.str (Str.ofString x)) [.str (Str.ofString a),.str (Str.ofString b)] = (decide (a = x) || decide (b = x)):=by
  unfold inD
  simp
 constructor
 ·rintro ⟨_, es, h, _, h3⟩
  rcases h with h | h
  ·cases h
   rw [e] at h3
   exact h3
  ·cases h
 ·intro h
  exact ⟨rfl,_,.inl rfl,rfl,by rw [e]; exact h⟩
theorem Yv : ∀ {l m : List Int}, l.Perm m -> l.Pairwise (· <= ·) -> m.Pairwise (· <= ·) -> l = m
  | [],m,p,_,_=>(List.nil_perm.mp p).symm
  | a :: l,[],p,_,_=>by simp at p
  | a :: l, b :: m, p, h1, h2 => by
    have ha:a ∈ b :: m:=p.mem_iff.mp (by simp)
    have hb:b ∈ a :: l:=p.mem_iff.mpr (by simp)
    have e:a = b:=by
      rcases List.mem_cons.mp ha with h | h
      · exact h
      · rcases List.mem_cons.mp hb with h' | h'
        · exact h'.symm
        · have g1 := (List.pairwise_cons.mp h1).1 b h'
          have g2:=(List.pairwise_cons.mp h2).1 a h
          lia
    subst e
    rw [Yv (List.perm_cons _ |>.mp p) (List.pairwise_cons.mp h1).2 (List.pairwise_cons.mp h2).2]
def zb6:List Str:=["in", "far", "out"]
def zb5:List D:=[.int 2,.int 2,.int 4]
def vL:D:=.tup [.str "in",.str "out"]
def yX:Option Tr -> List Int
 | none=>[]
 | some t=>wo t
def SoT (pl:List Pair) (x:Part) (t:Tr):Prop:=(x.2 = none -> wv (xJ t) pl = true) /\ ∀ k,x.2 = some k -> k < 2 * pl.length /\ kf (xJ t) pl k = true
theorem PartOk.so {d:Nat} {pl:List Pair} {tr:Tr} {x:Part} {vs:List Thing} (h:PartOk d pl tr x vs) (hd:1 <= d) (hpl:pl.length = d) (hset:zN pl = pl):∃ t,atT (some tr) x.1 = some t /\ TreeOf d vs t /\ SoT pl x t:=by
 obtain ⟨t,hat,T⟩:=h.tree
 refine ⟨t,hat,T,fun hx=>?_,fun k hk=>?_⟩
 ·have hy := h.yes hx
  have hne:=T.ne
  have hlen:=T.lens
  rw [T.bd]
  have hbl:(yB d (vs.map fun t=>t.2.1)).length = pl.length:=by rw [xR,hpl]
  have hb1:1 <= (yB d (vs.map fun t=>t.2.1)).length:=by rw [xR]; exact hd
  obtain ⟨v0,hv0⟩:∃ v,v ∈ vs:=by
   cases vs with
   | nil=>simp at hne
   | cons v r=>exact ⟨v,by simp⟩
  have ha:wj (yB d (vs.map fun t=>t.2.1)) pl = false:=by
   cases c:wj (yB d (vs.map fun t=>t.2.1)) pl with
   | false=>rfl
   | true =>
    obtain ⟨k,hk,ho⟩:=(jz hbl hb1 (ky hne) hset).mp c
    have:=QR hpl hne hlen hk ho v0 hv0
    rw [hy v0 hv0] at this
    cases this
  refine (kD hbl hb1 (ky hne) ha).mpr fun i lo hi q hb hq=>?_
  have hid:i < d:=by have:=(List.getElem?_eq_some_iff.mp hq).1; lia
  rw [Zj vs hid] at hb
  have e:=Option.some.inj hb
  have e1:loN vs i = lo:=Option.some.inj (Prod.mk.inj e).1
  have e2:hiN vs i = hi:=Option.some.inj (Prod.mk.inj e).2
  have inn:∀ x ∈ Vv vs i,Xi q.1 q.2 x = true:=fun x hx=>by
   rw [jv] at hx
   obtain ⟨v,hv,rfl⟩:=List.mem_map.mp hx
   have hvl:i < v.2.1.length:=by rw [hlen v hv]; exact hid
   have hv2:v.2.1[i]? = some v.2.1[i]:=List.getElem?_eq_getElem hvl
   rw [hv2]
   exact has_iff.mp (hy v hv) i q _ hq hv2
  have g1:=inn _ (KP hne)
  have g2:=inn _ (Wz hne)
  rw [e1] at g1
  rw [e2] at g2
  obtain ⟨a,b⟩:=q
  rcases a with _ | a <;> rcases b with _ | b <;> simp [insP,Xi] at g1 g2 ⊢ <;> lia
 ·obtain ⟨h1, h2⟩ := h.no k hk
  exact ⟨h1,by rw [T.bd]; exact h2⟩
theorem Shares.trees {d:Nat} {pl:List Pair} {tr:Tr} (hd:1 <= d) (hpl:pl.length = d) (hset:zN pl = pl):∀ {xs:List Part} {vss:List (List Thing)},Shares d pl tr xs vss -> ∃ us:List Tr,us.length = xs.length /\ (xs.map fun x=>zV (atT (some tr) x.1)) = us.map zY /\ (∀ p ∈ xs.zip us,SoT pl p.1 p.2 /\ (xJ p.2).length = pl.length /\ kC (xJ p.2)) /\ (us.map wo).flatten.Perm (vss.flatten.map fun t=>t.1)
 | _,_,.nil=>⟨[],rfl,rfl,by simp,.nil⟩
 | x :: xs, vs :: vss, .cons a r => by
  obtain ⟨t,hat,T,so⟩:=a.so hd hpl hset
  obtain ⟨us,h1,h2,h3,h4⟩:=r.trees hd hpl hset
  refine ⟨t :: us,by simp [h1],?_,fun p hp=>?_,?_⟩
  ·rw [List.map_cons,List.map_cons,h2,hat]; rfl
  ·rw [List.zip_cons_cons] at hp
   rcases List.mem_cons.mp hp with rfl | hp
   ·exact ⟨so,by rw [T.bd,xR,hpl],T.sound.bd⟩
   ·exact h3 p hp
  ·rw [List.map_cons, List.flatten_cons, List.flatten_cons, List.map_append]
   exact T.names.append h4
section
variable {P:Program} {w:World} {K:PySem.W.Frag} {mg:Str -> Option Value} {base:Heap}
abbrev yc:Stmt:=top 1
abbrev Ur:List Str:=["thing"]
theorem Wi:FnScope Ur ["thing"] (zg yc):=⟨rfl,rfl,rfl,by decide +kernel,rfl,by decide +kernel,by decide +kernel⟩
def XX:TF:=fun ds n Q=>∃ x:Int,ds = [.int x] /\ Q (.bl true) n
theorem QT {f:Addr} {fd:FuncData} (T:Blt mg) (F:Fun K "is_whole" "is_whole" yc f fd):FnOk P w K mg base CX0 1 f fd ["thing"] (spD K 1 XX):=by
 refine Fun.okD F Wi (fun cdv A0 outer s H E G Z hr=>(zh (zk (vm (zw vJ Zd T.isi Zi (zb (zc 0) (zb (VO (hm:=T.int) (hv:=XB)) zd))) (vk (Kk (zw vJ Zd T.isi Zi (zb (zc 0) (zb (VO (hm:=T.bool) (hv:=zp4)) zd))))))))) ?_
 rintro ds n Q hl ⟨x,rfl,q⟩
 simp [startD,Yl,wW]
 exact q
abbrev xq:Stmt:=top 2
abbrev jP:List Str:=["thing"]
theorem qP:FnScope jP ["thing"] (zg xq):=⟨rfl,rfl,rfl,by decide +kernel,rfl,by decide +kernel,by decide +kernel⟩
def UE:TF:=fun ds n Q=>∃ x:Int,ds = [.int x] /\ Q (.bl (decide (0 <= x))) n
theorem zl7 {f:Addr} {fd:FuncData} (F:Fun K "is_from_zero" "is_from_zero" xq f fd) (F_is_whole:Fn P w K mg base "is_whole" 1 1 XX):FnOk P w K mg base CX0 2 f fd ["thing"] (spD K 1 UE):=by
 refine Fun.okD F qP (fun cdv A0 outer s H E G Z hr=>(zh (zk (vm (zy F_is_whole (hr.mono (by decide)) rfl (zb (zc 0) zd)) (vk (wJ zx7 zt0 (zc 0) ze (zv _))))))) ?_
 rintro ds n Q hl ⟨x,rfl,q⟩
 simp [startD]
 refine ⟨x,rfl,?_⟩
 simp
 exact q
abbrev yd:Stmt:=top 3
abbrev Us:List Str:=["thing", "limit"]
theorem Wj:FnScope Us ["thing", "limit"] (zg yd):=⟨rfl,rfl,rfl,by decide +kernel,rfl,by decide +kernel,by decide +kernel⟩
def Zs:TF:=fun ds n Q=>∃ x l:Int,ds = [.int x,.int l] /\ 0 <= x /\ x < l /\ Q (.bl true) n
theorem za4 {f:Addr} {fd:FuncData} (F:Fun K "is_below" "is_below" yd f fd) (F_is_from_zero:Fn P w K mg base "is_from_zero" 2 1 UE):FnOk P w K mg base CX0 3 f fd ["thing", "limit"] (spD K 2 Zs):=by
 refine Fun.okD F Wj (fun cdv A0 outer s H E G Z hr=>(zh (zk (vm (zy F_is_from_zero (hr.mono (by decide)) rfl (zb (zc 0) zd)) (vk (wJ QS QE (zc 0) (zc 1) (zv _))))))) ?_
 rintro ds n Q hl ⟨x,l,rfl,h0,h1,q⟩
 simp [startD]
 refine ⟨x,rfl,?_⟩
 simp [h0,h1]
 exact q
abbrev yF:Stmt:=top 31
abbrev jA:List Str:=["thing"]
theorem VG:FnScope jA ["thing"] (zg yF):=⟨rfl,rfl,rfl,by decide +kernel,rfl,by decide +kernel,by decide +kernel⟩
theorem Xd:("turn" :: jA:List Str).Nodup:=by decide +kernel
def WP:TF:=fun ds n Q=>∃ p:List Int,ds = [.tup (p.map D.int)] /\ (∀ y ∈ p,y = 0 \/ y = 1) /\ p.length <= 1000 /\ Q (.bl true) n
theorem zm0 {f:Addr} {fd:FuncData} (T:Blt mg) (F:Fun K "is_path" "is_path" yF f fd) (F_is_below:Fn P w K mg base "is_below" 3 2 Zs):FnOk P w K mg base CX0 4 f fd ["thing"] (spD K 1 WP):=by
 refine Fun.okD F VG (fun cdv A0 outer s H E G Z hr=>(zh (zk (vm (zw vJ Zd T.isi Zi (zb (zc 0) (zb (VO (hm:=T.tuple) (hv:=xo)) zd))) (vk (zw (ZW rfl) JG T.all JV (zb (xQ (own:=["turn"]) (M:=jA) (wg (by rfl)) rfl (xn rfl (zc 0)) (fun C s2 H2 fp=>(zj (i:=0) Xd rfl (lo rfl) (by decide))) (fun C s2 H2 fp=>zZ) (fun C s2 H2 fp=>(zy F_is_below (hr.mono (by decide)) rfl (zb (zc 0) (zb ze zd))))) zd))))))) ?_
 rintro ds n Q hl ⟨p,rfl,hp,hz,q⟩
 simp [startD,Yl,wW]
 refine zS D.int (fun _=>.bl true) p (zP hz) (fun y hy R hR=>?_) ?_
 ·simp
  exact ⟨y,2,rfl,by rcases hp y hy with rfl | rfl <;> decide,by rcases hp y hy with rfl | rfl <;> decide,hR⟩
 ·refine ⟨p.map fun _ => true, by rw [List.map_map]; rfl, ?_⟩
  have e:(p.map fun _=>true).all id = true:=by simp
  rw [e]; exact q
abbrev yG:Stmt:=top 32
abbrev Qg:List Str:=["thing", "words", "d", "word"]
theorem sc_is_part:FnScope Qg ["thing", "words", "d"] (zg yG):=⟨rfl,rfl,rfl,by decide +kernel,rfl,by decide +kernel,by decide +kernel⟩
def qK:TF:=fun ds n Q=>∃ (dd:D) (d:Nat),ds = [dd,vL,.int (d:Int)] /\ ((∃ x:Part,dd = zm x /\ (∀ y ∈ x.1,y = 0 \/ y = 1) /\ x.1.length <= 1000 /\ (∀ k,x.2 = some k -> k < 2 * d) /\ Q (.bl true) n) \/ ((dd = .tup [] \/ dd = .str "in") /\ Q (.bl false) n))
theorem VV {f:Addr} {fd:FuncData} (T:Blt mg) (G_LENGTHS:zU7 w K mg "LENGTHS" zb6 zb5) (F:Fun K "is_part" "is_part" yG f fd) (F_is_path:Fn P w K mg base "is_path" 4 1 WP) (F_is_below:Fn P w K mg base "is_below" 3 2 Zs):FnOk P w K mg base CX0 5 f fd ["thing", "words", "d"] (spD K 3 qK):=by
 refine Fun.okD F sc_is_part (fun cdv A0 outer s H E G Z hr=>(zf (zX (Wo (PWD.pt (wM (wl (zw vJ Zd T.isi Zi (zb (zc 0) (zb (VO (hm:=T.tuple) (hv:=xo)) zd)))) (wM (zt qY qR (zw zI wQ T.len wL (zb (zc 0) zd)) ze (zv _)) (wM (wl (zy F_is_path (hr.mono (by decide)) rfl (zb (zE zn zD (zc 0) ze (fun _ _=>rfl)) zd))) (wS (wl (zw vJ Zd T.isi Zi (zb (zE zn zD (zc 0) ze (fun _ _=>rfl)) (zb (VO (hm:=T.str) (hv:=zC9)) zd)))))))))) (zh (zk wT)) zB)
  (zf (zF (i:=3) sc_is_part.nd rfl (lo rfl) (zE zn zD (zc 0) ze (fun _ _=>rfl)))
  (zf (zX (Wo (PWD.pt (wM (zt Kn (zJ7 (neg:=false)) (zc 3) (zc 1) (by with_unfolding_all rfl)) (wS (zt kQ kN (zw zI wQ T.len wL (zb (zc 0) zd)) (zw9 G_LENGTHS rfl (zc 3) (fun _ _=>rfl)) (zv _)))))) (zh (zk wT)) zB)
  (zh (zk (zR6 (wJ zx4 zs9 (zc 3) wt (zv _)) (vk (vm (zy F_is_below (hr.mono (by decide)) rfl (zb (zE zn zD (zc 0) ze (fun _ _=>rfl)) (zb (zc 2) zd))) (vk (zy F_is_below (hr.mono (by decide)) rfl (zb (zE zn zD (zc 0) ze (fun _ _=>rfl)) (zb ze zd))))))))))))) ?_
 rintro ds n Q hl ⟨dd,d,rfl,h⟩
 have a1:atS zb6 zb5 "in" = some (.int 2):=rfl
 have a2:atS zb6 zb5 "out" = some (.int 4):=by simp [L2.atS,zb6,zb5]
 rcases h with ⟨x,rfl,hp,hz,hk,q⟩ | ⟨rfl | rfl,q⟩
 ·have tp : ∀ (m : Nat) (R : D -> Nat -> Prop), R (.bl true) m -> WP [.tup (x.1.map D.int)] m R := fun m R h => ⟨x.1, rfl, hp, hz, h⟩
  obtain ⟨p,o⟩:=x
  cases o with
  | none =>
   simp [startD,zm,Yl,wW,vL]
   refine tp _ _ ?_
   simp [Yl,wW,a1]
   exact q
  | some k =>
   have hk':=hk k rfl
   simp [startD,zm,Yl,wW,vL]
   refine tp _ _ ?_
   simp [Yl,wW,a2]
   refine ⟨_,_,rfl,by lia,by lia,?_⟩
   simp
   exact ⟨_,rfl,_,_,rfl,by lia,by lia,q⟩
 ·simp [startD, Yl, wW, vL]
  exact q
 ·simp [startD, Yl, wW, vL]
  exact q
abbrev wA:Stmt:=top 33
abbrev ke:List Str:=["thing", "words", "d"]
theorem YB:FnScope ke ["thing", "words", "d"] (zg wA):=⟨rfl,rfl,rfl,by decide +kernel,rfl,by decide +kernel,by decide +kernel⟩
theorem jK:("part" :: ke:List Str).Nodup:=by decide +kernel
def zi2:TF:=fun ds n Q=>∃ d:Nat,(∃ xs:List Part,ds = [.tup (xs.map zm),vL,.int (d:Int)] /\ xs.length <= 1000 /\ (∀ x ∈ xs,(∀ y ∈ x.1,y = 0 \/ y = 1) /\ x.1.length <= 1000 /\ ∀ k,x.2 = some k -> k < 2 * d) /\ Q (.bl true) n) \/ (ds = [.tup [.tup [],.str "in"],vL,.int (d:Int)] /\ Q (.bl false) n)
theorem zy4 {f:Addr} {fd:FuncData} (T:Blt mg) (F:Fun K "are_parts" "are_parts" wA f fd) (F_is_part:Fn P w K mg base "is_part" 5 3 qK):FnOk P w K mg base CX0 6 f fd ["thing", "words", "d"] (spD K 3 zi2):=by
 refine Fun.okD F YB (fun cdv A0 outer s H E G Z hr=>(zh (zk (vm (zw vJ Zd T.isi Zi (zb (zc 0) (zb (VO (hm:=T.tuple) (hv:=xo)) zd))) (vk (zw (ZW rfl) JG T.all JV (zb (xQ (own:=["part"]) (M:=ke) (wg (by rfl)) rfl (xn rfl (zc 0)) (fun C s2 H2 fp=>(zj (i:=0) jK rfl (lo rfl) (by decide))) (fun C s2 H2 fp=>zZ) (fun C s2 H2 fp=>(zy F_is_part (hr.mono (by decide)) rfl (zb (zc 0) (zb (zc 2) (zb (zc 3) zd)))))) zd))))))) ?_
 have nw:zu vL = true:=rfl
 have npt:∀ x:Part,zu (zm x) = true:=fun x=>by obtain ⟨p,o⟩:=x; cases o <;> rfl
 rintro ds n Q hl ⟨d,⟨xs,rfl,hz,hx,q⟩ | ⟨rfl,q⟩⟩
 ·simp [startD, Yl, wW, nw]
  refine zS zm (fun _=>.bl true) xs (zP hz) (fun x hxm R hR=>?_) ?_
  ·obtain ⟨h1, h2, h3⟩ := hx x hxm
   simp [nw,npt]
   exact ⟨_,d,rfl,.inl ⟨x,rfl,h1,h2,h3,hR⟩⟩
  ·refine ⟨xs.map fun _ => true, by rw [List.map_map]; rfl, ?_⟩
   have e:(xs.map fun _=>true).all id = true:=by simp
   rw [e]; exact q
 ·simp [startD, Yl, wW, nw]
  have ee:[D.tup [],D.str (Str.ofString "in")] = [D.tup [],D.str (Str.ofString "in")].map id:=rfl
  rw [ee]
  refine zS id (fun _=>.bl false) [D.tup [],D.str (Str.ofString "in")] (zP (by simp)) (fun x hxm R hR=>?_) ?_
  ·have hx2 : x = .tup [] \/ x = .str "in" := by simpa using hxm
   have nx:zu x = true:=by rcases hx2 with rfl | rfl <;> rfl
   simp [nw,nx]
   exact ⟨x,d,rfl,.inr ⟨hx2,hR⟩⟩
  ·exact ⟨[false,false],rfl,q⟩
abbrev wZ:Stmt:=top 34
abbrev qf:List Str:=["tree", "parts"]
theorem Wg:FnScope qf ["tree", "parts"] (zg wZ):=⟨rfl,rfl,rfl,by decide +kernel,rfl,by decide +kernel,by decide +kernel⟩
theorem ZM:("part" :: qf:List Str).Nodup:=by decide +kernel
def XY:TF:=fun ds n Q=>∃ (o:Option Tr) (xs:List Part),ds = [zV o,.tup (xs.map zm)] /\ xs.length <= 1000 /\ Q (.lst (xs.map fun x=>zV (atT o x.1))) n
theorem QU {f:Addr} {fd:FuncData} (F:Fun K "trees_at" "trees_at" wZ f fd) (F_tree_at:Fn P w K mg base "tree_at" 1 2 qI):FnOk P w K mg base CX0 2 f fd ["tree", "parts"] (spD K 2 XY):=by
 refine Fun.okD F Wg (fun cdv A0 outer s H E G Z hr=>(zh (zk (xQ (own:=["part"]) (M:=qf) (wg (by rfl)) rfl (xn rfl (zc 1)) (fun C s2 H2 fp=>(zj (i:=0) ZM rfl (lo rfl) (by decide))) (fun C s2 H2 fp=>zZ) (fun C s2 H2 fp=>(zy F_tree_at (hr.mono (by decide)) rfl (zb (zc 1) (zb (zE zn zD (zc 0) ze (fun _ _=>rfl)) zd)))))))) ?_
 have npt:∀ x:Part,zu (zm x) = true:=fun x=>by obtain ⟨p,o⟩:=x; cases o <;> rfl
 rintro ds n Q hl ⟨o,xs,rfl,hz,q⟩
 simp [startD]
 refine zS zm (fun x=>zV (atT o x.1)) xs (zP hz) (fun x hx R hR=>?_) q
 have i0:∀ R:D -> Prop,R (.tup (x.1.map D.int)) -> ql (zm x) (.int 0) R:=fun R h=>by
  obtain ⟨p,c⟩:=x
  cases c <;> exact ⟨_,0,_,.inr (.inl rfl),rfl,rfl,h⟩
 simp [npt]
 exact i0 _ ⟨o,x.1,rfl,hR⟩
end
end K46
set_option maxRecDepth 100000
set_option maxHeartbeats 1000000
namespace K46
open PySem L2 PySem.Spec PyProof.Rows
theorem zS2 (x:Part):zu (zm x) = true:=by obtain ⟨p,o⟩:=x; cases o <;> rfl
theorem za8 (l:List Int):okE (.lst (l.map D.int)) 20 = true:=okE_lst.mpr fun d hd=>by
 obtain ⟨x,_,rfl⟩:=List.mem_map.mp hd
 exact yR
theorem Vs:∀ l:List Int,vK (l.map D.int) (l.map D.int) = true
 | []=>rfl
 | x :: l=>by
  rw [List.map_cons]
  simp [vK,eqD,Vs l]
theorem zq7 (xs:List Part) (us:List Tr):XU (xs.map zm) (us.map zY) = (xs.zip us).map fun p=>.tup [zm p.1,zY p.2]:=by
 unfold XU
 rw [List.zipWith_map,List.map_zip_eq_zipWith]
 rfl
section
variable {P:Program} {w:World} {K:PySem.W.Frag} {mg:Str -> Option Value} {base:Heap}
abbrev xi:Stmt:=top 35
abbrev xp:List Str:=["trees", "tree", "names"]
theorem sc_hold_each_once:FnScope xp ["trees", "tree"] (zg xi):=⟨rfl,rfl,rfl,by decide +kernel,rfl,by decide +kernel,by decide +kernel⟩
theorem vX:("part" :: xp:List Str).Nodup:=by decide +kernel
theorem yk:("part" :: "name" :: xp:List Str).Nodup:=by decide +kernel
def UI:TF:=fun ds n Q=>∃ (us:List Tr) (o:Option Tr),ds = [.lst (us.map zY),zV o] /\ us.length <= 900 /\ (us.map wo).flatten.Perm (yX o) /\ (yX o).Pairwise (· <= ·) /\ (yX o).length < 64 /\ Q (.bl true) n
theorem zm3 {f:Addr} {fd:FuncData} (T:Blt mg) (F:Fun K "hold_each_once" "hold_each_once" xi f fd):FnOk P w K mg base CX0 1 f fd ["trees", "tree"] (spD K 2 UI):=by
 refine Fun.okD F sc_hold_each_once (fun cdv A0 outer s H E G Z hr=>(zf (zX (wl (zw (ZV rfl) JF T.any JU (zb (xQ (own:=["part"]) (M:=xp) (wg (by rfl)) rfl (xn rfl (zc 0)) (fun C s2 H2 fp=>(zj (i:=0) vX rfl (lo rfl) (by decide))) (fun C s2 H2 fp=>zZ) (fun C s2 H2 fp=>(wJ wu wr (zc 0) zT (zv _)))) zd))) (zh (zk wT)) zB)
  (zf (zF (i:=2) sc_hold_each_once.nd rfl (lo rfl) (qm (zt wu wr (zc 1) zT (zv _)) (zL zd) (zE zn zD (zc 1) ze (fun _ _=>rfl))))
  (zh (zk (wJ (YQ hr) (YI rfl) (zw jw Xv T.sorted jx (zb (Vi (own:=["part", "name"]) (M:=xp) (wg (by rfl)) rfl (xn rfl (zc 0)) (fun C s2 H2 fp=>(zj (i:=0) yk rfl (lo rfl) (by decide))) (fun C s2 H2 fp=>zZ) (fun C s2 H2 fp=>(xn rfl (zE zn zD (zc 0) ze (fun _ _=>rfl)))) (fun C s2 H2 fp=>(zj (i:=1) yk rfl (lo rfl) (by decide))) (fun C s2 H2 fp=>zZ) (fun C s2 H2 fp=>(zc 1))) zd)) (zW vq JE T.list WD (zb (zc 2) zd)) (zv _))))))) ?_
 generalize hS:XT (WT 2 _) _ = S
 rintro ds n Q hl ⟨us,o,rfl,hz,hp,hs,hn,q⟩
 have no:=zb1 o
 have main:S { nx:=fun _ n=>Q .non n,rt:=Q } [some (.lst (us.map zY)),some (zV o),none] n:=by
  subst hS
  generalize hR:zI9 _ = Rr
  have rest:∀ z:Option D,Rr { nx:=fun _ n=>Q .non n,rt:=Q } [z,some (zV o),some (.tup ((yX o).map D.int))] n -> True:=fun _ _=>trivial
  have fin:Rr { nx:=fun _ n=>Q .non n,rt:=Q } [some (.lst (us.map zY)),some (zV o),some (.tup ((yX o).map D.int))] n:=by
   subst hR
   simp
   have e:(us.flatMap fun u=>(wo u).map D.int) = (us.map wo).flatten.map D.int:=by rw [List.map_flatten,List.flatMap_def,List.map_map]; rfl
   have hlen:=hp.length_eq
   refine zh2 (B:=800) zY (fun u=>(wo u).map D.int) us (by decide) (by rw [e,List.length_map]; lia) (fun u hu acc R hacc hR=>?_) ?_
   ·have i0 : ∀ R : D -> Prop, R (.tup ((wo u).map D.int)) -> ql (zY u) (.int 0) R := fun R h => by rw [yl]; exact ⟨_, 0, _, .inr (.inl rfl), rfl, rfl, h⟩
    simp [xa]
    refine i0 _ ⟨_,.inr rfl,?_⟩
    refine Xm (acc:=acc) D.int (fun _=>true) D.int (wo u) (by rw [List.length_map] at hacc; lia) (fun t ht R S h1 h2=>?_) (by rw [List.filter_eq_self.mpr (fun _ _=>rfl)]; exact hR)
    simp
    exact h1 rfl
   ·rw [e]
    refine ⟨_,rfl,by lia,fun ms pm sm=>?_⟩
    have em:ms = yX o:=Yv (pm.trans hp) sm hs
    rw [em]
    have o1:=za8 (yX o)
    have o2:=Vs (yX o)
    simp [o1,eqD,o2]
    exact q
  cases o with
  | none =>
   simp [zV]
   exact fin
  | some t =>
   have ni:wO (zY t) = false:=by cases t <;> rfl
   have nt:=xa t
   have i0:∀ R:D -> Prop,R (.tup ((wo t).map D.int)) -> ql (zY t) (.int 0) R:=fun R h=>by rw [yl]; exact ⟨_,0,_,.inr (.inl rfl),rfl,rfl,h⟩
   simp [zV,ni,nt]
   refine i0 _ ?_
   exact fin
 clear q hp hs
 simp [startD,no]
 refine zS zY (fun _=>.bl false) us (zP (by lia)) (fun u hu R hR=>?_) ?_
 ·have ni : wO (zY u) = false := by cases u <;> rfl
  have nt:=xa u
  simp [ni,nt]
  exact hR
 ·refine ⟨us.map fun _ => false, by rw [List.map_map]; rfl, ?_⟩
  have e:(us.map fun _=>false).any id = false:=by simp
  rw [e]
  simp
  exact main
abbrev kH:Stmt:=top 36
abbrev zp7:List Str:=["part", "limits", "plain", "path", "word", "i", "side"]
theorem sc_is_so:FnScope zp7 ["part", "limits", "plain"] (zg kH):=⟨rfl,rfl,rfl,by decide +kernel,rfl,by decide +kernel,by decide +kernel⟩
def Wa:TF:=fun ds n Q=>∃ (x:Part) (t:Tr) (pl:List Pair),ds = [zm x,zi (xJ t),zi pl] /\ (xJ t).length = pl.length /\ pl.length <= 400 /\ kC (xJ t) /\ SoT pl x t /\ Q (.bl true) n
theorem QZ {f:Addr} {fd:FuncData} (F:Fun K "is_so" "is_so" kH f fd) (F_lies_within:Fn P w K mg base "lies_within" 4 2 wR) (F_is_out:Fn P w K mg base "is_out" 2 3 qx):FnOk P w K mg base CX0 5 f fd ["part", "limits", "plain"] (spD K 3 Wa):=by
 refine Fun.okD F sc_is_so (fun cdv A0 outer s H E G Z hr=>(zf (zX (zt kQ kN (zE zn zD (zc 0) ze (fun _ _=>rfl)) wt (zv _)) (zh (zk (zy F_lies_within (hr.mono (by decide)) rfl (zb (zc 1) (zb (zc 2) zd))))) zB)
  (zf (zX (zt kQ kN (zE zn zD (zc 0) ze (fun _ _=>rfl)) wt (zv _)) (zf (vc (m:=7) (zc 0) (xI (k:=4) rfl rfl (zp (zj (i:=3) sc_is_so.nd rfl (lo rfl) (by decide)) (zp (zj (i:=4) sc_is_so.nd rfl (lo rfl) (by decide)) (zp (zj (i:=5) sc_is_so.nd rfl (lo rfl) (by decide)) (zp (zj (i:=6) sc_is_so.nd rfl (lo rfl) (by decide)) xm))))))
  (zh (zk (zy F_is_out (hr.mono (by decide)) rfl (zb (zE zn zD (zc 1) (zc 5) (fun _ _=>rfl)) (zb (zE zn zD (zc 2) (zc 5) (fun _ _=>rfl)) (zb (zc 6) zd))))))) zB)
  (zh (zk wT))))) ?_
 rintro ds n Q hl ⟨⟨p,o⟩,t,pl,rfl,hb,hz,hE,⟨s1,s2⟩,q⟩
 have n1:zu (zi (xJ t)) = true:=id rfl
 have n2:zu (zi pl) = true:=id rfl
 cases o with
 | none =>
  simp [startD,zm,n1,n2]
  refine ⟨xJ t,pl,rfl,by lia,?_⟩
  rw [s1 rfl]
  exact q
 | some k =>
  obtain ⟨hk,ho⟩:=s2 k rfl
  have hi:k / 2 < pl.length:=by lia
  have hq:pl[k / 2]? = some pl[k / 2]:=List.getElem?_eq_getElem hi
  have hb':(xJ t)[k / 2]? = some ((xJ t)[k / 2]'(by lia)):=List.getElem?_eq_getElem (by lia)
  obtain ⟨lo,hi2,eb,_⟩:=hE _ _ hb'
  rw [eb] at hb'
  unfold kf at ho
  rw [yr hb' hq] at ho
  simp [startD,zm,n1,n2]
  have ek:((k:Int) / 2) = ((k / 2:Nat):Int):=by lia
  have em:((k:Int) % 2) = ((k % 2:Nat):Int):=by lia
  rw [ek,em]
  refine wU hb' (wU hq ⟨lo,hi2,_,k % 2,rfl,?_⟩)
  rw [ho]
  exact q
abbrev vH:Stmt:=top 37
abbrev Yi:List Str:=["parts", "trees", "plain"]
theorem UQ:FnScope Yi ["parts", "trees", "plain"] (zg vH):=⟨rfl,rfl,rfl,by decide +kernel,rfl,by decide +kernel,by decide +kernel⟩
theorem je:("part" :: "below" :: Yi:List Str).Nodup:=by decide +kernel
def Zt:TF:=fun ds n Q=>∃ (xs:List Part) (us:List Tr) (pl:List Pair),ds = [.tup (xs.map zm),.lst (us.map zY),zi pl] /\ xs.length <= 900 /\ pl.length <= 400 /\ (∀ p ∈ xs.zip us,SoT pl p.1 p.2 /\ (xJ p.2).length = pl.length /\ kC (xJ p.2)) /\ Q (.bl true) n
theorem Ky {f:Addr} {fd:FuncData} (T:Blt mg) (F:Fun K "are_so" "are_so" vH f fd) (F_is_so:Fn P w K mg base "is_so" 5 3 Wa):FnOk P w K mg base CX0 6 f fd ["parts", "trees", "plain"] (spD K 3 Zt):=by
 refine Fun.okD F UQ (fun cdv A0 outer s H E G Z hr=>(zh (zk (zw (ZW rfl) JG T.all JV (zb (xQ (own:=["part", "below"]) (M:=Yi) (wg (by rfl)) rfl (Wq rfl T.zip (zb (zc 0) (zb (zc 1) zd))) (fun C s2 H2 fp=>(xI (k:=2) rfl rfl (zp (zj (i:=0) je rfl (lo rfl) (by decide)) (zp (zj (i:=1) je rfl (lo rfl) (by decide)) xm)))) (fun C s2 H2 fp=>zZ) (fun C s2 H2 fp=>(zy F_is_so (hr.mono (by decide)) rfl (zb (zc 0) (zb (zE zn zD (zc 1) ze (fun _ _=>rfl)) (zb (zc 4) zd)))))) zd))))) ?_
 rintro ds n Q hl ⟨xs,us,pl,rfl,hz,hpl,h,q⟩
 have n2:zu (zi pl) = true:=id rfl
 simp [startD,n2]
 rw [zq7]
 refine zS (fun p:Part × Tr=>.tup [zm p.1,zY p.2]) (fun _=>.bl true) (xs.zip us) (zP (by rw [List.length_zip]; lia)) (fun p hp R hR=>?_) ?_
 ·obtain ⟨h1, h2, h3⟩ := h p hp
  have i1:∀ R:D -> Prop,R (zi (xJ p.2)) -> ql (zY p.2) (.int 1) R:=fun R h=>by rw [yl]; exact ⟨_,1,_,.inr (.inl rfl),rfl,rfl,h⟩
  simp [zS2,xa,n2]
  exact i1 _ ⟨p.1,p.2,pl,rfl,h2,hpl,h3,h1,hR⟩
 ·refine ⟨(xs.zip us).map fun _ => true, by rw [List.map_map]; rfl, ?_⟩
  have e:((xs.zip us).map fun _=>true).all id = true:=by simp
  rw [e]; exact q
abbrev xx:Stmt:=top 38
abbrev Yc:List Str:=["house", "tree", "box", "thing", "trees"]
theorem sc_shows_cover:FnScope Yc ["house", "tree", "box", "thing"] (zg xx):=⟨rfl,rfl,rfl,by decide +kernel,rfl,by decide +kernel,by decide +kernel⟩
def Zm:TF:=fun ds n Q=>∃ (d:Nat) (ts:List Thing) (o:Option Tr) (bx:List XG),bx.length = d /\ 1 <= d /\ d <= 4 /\ ((∃ xs:List Part,ds = [xb d ts,zV o,xj bx,.tup (xs.map zm)] /\ ts.length <= 60 /\ xs.length <= 900 /\ (∀ x ∈ xs,x.1.length <= 1000) /\ (o = none -> ts = [] /\ xs = []) /\ (∀ tr,o = some tr -> TreeOf d ts tr /\ CoverOk d (zA bx) tr ts xs) /\ Q (.bl true) n) \/ (ds = [xb d ts,zV o,xj bx,.tup [.tup [],.str "in"]] /\ Q (.bl false) n))
theorem QV {f : Addr} {fd : FuncData} (F : Fun K "shows_cover" "shows_cover" xx f fd) (F_are_parts : Fn P w K mg base "are_parts" 6 3 zi2) (F_trees_at : Fn P w K mg base "trees_at" 2 2 XY) (F_hold_each_once : Fn P w K mg base "hold_each_once" 1 2 UI) (F_are_so : Fn P w K mg base "are_so" 6 3 Zt) (F_plain_box : Fn P w K mg base "plain_box" 3 1 yg) : FnOk P w K mg base CX0 7 f fd ["house", "tree", "box", "thing"] (spD K 4 Zm) := by
  refine Fun.okD F sc_shows_cover (fun cdv A0 outer s H E G Z hr=>(zf (zX (Wo (wl (zy F_are_parts (hr.mono (by decide)) rfl (zb (zc 3) (zb (zL (zb wt (zb wt zd))) (zb (zE zn zD (zc 0) ze (fun _ _=>rfl)) zd)))))) (zh (zk wT)) zB)
    (zf (zF (i:=4) sc_shows_cover.nd rfl (lo rfl) (zy F_trees_at (hr.mono (by decide)) rfl (zb (zc 1) (zb (zc 3) zd))))
    (zh (zk (vm (zy F_hold_each_once (hr.mono (by decide)) rfl (zb (zc 4) (zb (zc 1) zd))) (vk (zy F_are_so (hr.mono (by decide)) rfl (zb (zc 3) (zb (zc 4) (zb (zy F_plain_box (hr.mono (by decide)) rfl (zb (zc 2) zd)) zd))))))))))) ?_
  rintro ds n Q hl ⟨d,ts,o,bx,hbx,hd1,hd4,⟨xs,rfl,htl,hxl,hxp,ho0,ho,q⟩ | ⟨rfl,q⟩⟩
  · have nh := vI d ts
    have nb:zu (xj bx) = true:=id rfl
    have hpl:(zA bx).length = d:=by rw [kn]; exact hbx
    have hset:=yO bx
    have eWd:D.tup [D.str (Str.ofString "in"),D.str (Str.ofString "out")] = vL:=rfl
    have key:∃ us:List Tr,us.length = xs.length /\ (xs.map fun x=>zV (atT o x.1)) = us.map zY /\ (∀ p ∈ xs.zip us,SoT (zA bx) p.1 p.2 /\ (xJ p.2).length = (zA bx).length /\ kC (xJ p.2)) /\ (us.map wo).flatten.Perm (yX o) /\ (yX o).Pairwise (· <= ·) /\ (yX o).length < 64 /\ ∀ x ∈ xs,(∀ y ∈ x.1,y = 0 \/ y = 1) /\ ∀ k,x.2 = some k -> k < 2 * d:=by
      cases o with
      | none =>
        obtain ⟨_,rfl⟩:=ho0 rfl
        exact ⟨[],rfl,rfl,by simp,.nil,.nil,by simp [yX],by simp⟩
      | some tr =>
        obtain ⟨T,⟨vss,S,pv⟩⟩:=ho tr rfl
        obtain ⟨us,h1,h2,h3,h4⟩:=S.trees hd1 hpl hset
        have hT:=T.names
        refine ⟨us,h1,h2,h3,(h4.trans (pv.map _)).trans hT.symm,?_,?_,fun x hx=>?_⟩
        · cases T with
          | one=>exact List.pairwise_singleton ..
          | two _ _ hs=>exact hs
        · show (wo tr).length < 64
          rw [hT.length_eq,List.length_map]; lia
        · obtain ⟨vs, ok⟩ := S.mem hx
          exact ⟨ok.bit,fun k hk=>by have:=(ok.no k hk).1; lia⟩
    obtain ⟨us,h1,h2,h3,h4,h5,h6,h7⟩:=key
    simp [startD,nh,nb]
    refine Vr ?_
    rw [eWd]
    refine ⟨d,.inl ⟨xs,rfl,by lia,fun x hx=>⟨(h7 x hx).1,hxp x hx,(h7 x hx).2⟩,?_⟩⟩
    simp [nb]
    refine ⟨o,xs,rfl,by lia,?_⟩
    rw [h2]
    simp [nb]
    refine ⟨us,o,rfl,by lia,h4,h5,h6,?_⟩
    simp [nb]
    refine ⟨bx,rfl,by lia,?_⟩
    exact ⟨xs,us,zA bx,rfl,hxl,by lia,h3,q⟩
  · have nh := vI d ts
    have nb:zu (xj bx) = true:=id rfl
    have eWd:D.tup [D.str (Str.ofString "in"),D.str (Str.ofString "out")] = vL:=rfl
    simp [startD,nh,nb]
    refine Vr ?_
    rw [eWd]
    refine ⟨d,.inr ⟨rfl,?_⟩⟩
    simp
    exact q
end
end K46
set_option maxRecDepth 100000
set_option maxHeartbeats 1000000
namespace K46
open PySem L2 PySem.Spec PyProof.Rows
structure JLaw (ns:List Int) (i:Nat) (rho:Rho) (n:Nat):Prop where
 e:n = 3
 r:∃ a b c d e f g h k l m:Option D,rho = [some (zK ns),a,b,c,d,e,f,g,h,k,l,m]
structure JTurn (hd:List (Option D)) (i:Nat) (rho:Rho) (n:Nat):Prop where
 e:n = 3
 r:∃ a b c d e f g:Option D,rho = hd ++ [a,b,c,d,e,f,g]
theorem kR:∀ p:List Int,vW (p.map D.int) = p.length
 | []=>by simp [vW]
 | x :: p=>by simp only [List.map_cons,vW,jV,kR p,List.length_cons]; lia
theorem zb0 (x:Part):jV (zm x) <= x.1.length + 5:=by
 obtain ⟨p,k⟩:=x
 cases k with
 | none =>
  show jV (.tup [.tup (p.map D.int),.str "in"]) <= p.length + 5
  simp only [jV,vW,kR]; lia
 | some k =>
  show jV (.tup [.tup (p.map D.int),.str "out",.int ((k / 2:Nat):Int),.int ((k % 2:Nat):Int)]) <= p.length + 5
  simp only [jV,vW,kR]; lia
theorem Ws {x:Int} {k:Nat} (h:x.natAbs < 2 ^ 64):okR (.int x) k = true:=by
 unfold okR
 refine decide_eq_true ?_
 by_cases h0:x.natAbs = 0
 ·rw [h0]; decide
 ·rw [Nat.log2_lt h0]
  exact Nat.lt_trans h (Nat.pow_lt_pow_right (by decide) (by decide))
structure Fine (m:Nat) (x:Part):Prop where
 len:x.1.length <= m
 bit:∀ y ∈ x.1,y = 0 \/ y = 1
 few:∀ k,x.2 = some k -> k <= 2000
theorem za6 {m:Nat} {x:Part} (h:Fine m x):okR (zm x) 14 = true:=by
 have hi:okR (.tup (x.1.map D.int)) 13 = true:=okR_tup.mpr fun d hd=>by
  obtain ⟨y,hy,rfl⟩:=List.mem_map.mp hd
  rcases h.bit y hy with rfl | rfl <;> exact Ws (by decide)
 have s1:okR (.str "in") 13 = true:=by decide +kernel
 have s2:okR (.str "out") 13 = true:=by decide +kernel
 obtain ⟨p,j⟩:=x
 cases j with
 | none =>
  refine okR_tup.mpr fun d hd=>?_
  simp only [List.mem_cons,List.not_mem_nil,or_false] at hd
  rcases hd with rfl | rfl
  ·exact hi
  ·exact s1
 | some j =>
  have hj:=h.few j rfl
  refine okR_tup.mpr fun d hd=>?_
  simp only [List.mem_cons,List.not_mem_nil,or_false] at hd
  rcases hd with rfl | rfl | rfl | rfl
  ·exact hi
  ·exact s2
  ·exact Ws (by lia)
  ·exact Ws (by lia)
theorem jb {m:Nat}:∀ {xs:List Part},(∀ x ∈ xs,x.1.length <= m) -> vW (xs.map zm) <= xs.length * (m + 5)
 | [],_=>by simp [vW]
 | x :: xs,h=>by
  have ih:=jb (m:=m) (xs:=xs) fun y hy=>h y (List.mem_cons_of_mem _ hy)
  have h1:=zb0 x
  have h2:=h x (by simp)
  rw [List.map_cons,List.length_cons,Nat.succ_mul]
  simp only [vW]
  lia
theorem Shares.len2 {d:Nat} {pl:List Pair} {tr:Tr}:∀ {xs:List Part} {vss:List (List Thing)},Shares d pl tr xs vss -> xs.length <= vss.flatten.length
 | _,_,.nil=>Nat.le_refl _
 | x :: xs,vs :: vss,.cons a r=>by
  obtain ⟨t,_,T⟩:=a.tree
  have h1:=T.ne
  have h2:=r.len2
  rw [List.flatten_cons,List.length_append,List.length_cons]
  lia
theorem Shares.fine {d:Nat} {pl:List Pair} {tr:Tr} {xs:List Part} {vss:List (List Thing)} (h:Shares d pl tr xs vss) (hpl:pl.length <= 4) {m:Nat} (hm:wk tr <= m):∀ x ∈ xs,Fine m x:=fun x hx=>by
 obtain ⟨vs,ok⟩:=h.mem hx
 obtain ⟨t,hat,_⟩:=ok.tree
 have:=qG hat
 exact ⟨by lia,ok.bit,fun k hk=>by have:=(ok.no k hk).1; lia⟩
structure JFin (d:Nat) (pl:List Pair) (tr:Tr) (ts:List Thing) (hd:List (Option D)) (i:Nat) (rho:Rho) (n:Nat):Prop where
 e:n = 3
 r:∃ (xs:List Part) (a b c:Option D),CoverOk d pl tr ts xs /\ rho = hd ++ [some (.tup (xs.map zm)),a,b,c]
section
variable {P:Program} {w:World} {K:PySem.W.Frag} {mg:Str -> Option Value} {base:Heap}
abbrev wc:Stmt:=top 53
abbrev XO:List Str:=["_law_tree_here", "_law_plain_here"]
theorem ZA:FnScope XO ["_law_tree_here", "_law_plain_here"] (zg wc):=⟨rfl,rfl,rfl,by decide +kernel,rfl,by decide +kernel,by decide +kernel⟩
def Zq:TF:=fun ds n Q=>∃ (o:Option Tr) (pl:List Pair) (d:Nat),ds = [zV o,zi pl] /\ pl.length = d /\ 1 <= d /\ d <= 400 /\ zN pl = pl /\ (∀ tr,o = some tr -> Walk d pl tr /\ Sound tr /\ wk tr <= 30 /\ xu tr <= 500) /\ Q (.tup ((Ze pl o).map zm)) n
theorem Kt {f:Addr} {fd:FuncData} (T:Blt mg) (F:Fun K "_law_cover" "_law_cover" wc f fd) (F__law_parts:Fn P w K mg base "_law_parts" 33 3 (Zn 31)):FnOk P w K mg base CX0 34 f fd ["_law_tree_here", "_law_plain_here"] (spD K 2 Zq):=by
 refine Fun.okD F ZA (fun cdv A0 outer s H E G Z hr=>(zh (zk (qm (zt wu wr (zc 0) zT (zv _)) (zL zd) (zW zQ xN T.tuple xo (zb (zy F__law_parts (hr.mono (by decide)) rfl (zb (zc 0) (zb (zc 1) (zb (zL zd) zd)))) zd)))))) ?_
 rintro ds n Q hl ⟨o,pl,d,rfl,hpl,hd1,hd4,hset,ho,q⟩
 cases o with
 | none =>
  simp [startD,zV]
  exact q
 | some tr =>
  obtain ⟨h1,h2,h3,h4⟩:=ho tr rfl
  have nt:=xa tr
  have ni:wO (zY tr) = false:=by cases tr <;> rfl
  simp [startD,zV,nt,ni]
  refine ⟨tr,pl,[],d,rfl,hpl,hd1,hd4,hset,h1,h2,h3,by simp,h4,?_⟩
  simp
  exact q
abbrev ZC:Stmt:=top 57
abbrev zU6:List Str:=["_law_script", "_law_k", "_law_left_here", "_law_house_here", "_law_tree_here", "_law_turn", "_law_box_here", "_law_plain_here", "_law_parts_here", "_law_again", "_law_thing", "_law_before"]
theorem sc_law:FnScope zU6 ["_law_script"] (zg ZC):=⟨rfl,rfl,rfl,by decide +kernel,rfl,by decide +kernel,by decide +kernel⟩
theorem zy1 {f : Addr} {fd : FuncData} (T : Blt mg) (T3 : Blt3 mg) (F : Fun K "law" "law" ZC f fd) (F__law_left : Fn P w K mg base "_law_left" 1 2 UH) (F__law_pick : Fn P w K mg base "_law_pick" 1 2 vM) (F__law_house : Fn P w K mg base "_law_house" 2 1 Wb) (F__law_tree : Fn P w K mg base "_law_tree" 35 2 Zo) (F__law_box : Fn P w K mg base "_law_box" 3 2 zi1)
  (F__law_plain:Fn P w K mg base "_law_plain" 1 1 Zp) (F_cover:Fn P w K mg base "cover" 7 3 Wd) (F__law_cover:Fn P w K mg base "_law_cover" 34 2 Zq) (F__law_finer:Fn P w K mg base "_law_finer" 2 4 Wc) (F__law_mixed:Fn P w K mg base "_law_mixed" 2 2 XZ) (F_shows_cover:Fn P w K mg base "shows_cover" 7 4 Zm) :
  FnOk P w K mg base CX0 36 f fd ["_law_script"] (Yu K):=by
 refine Fun.okLaw F sc_law 3 (fun cdv A0 outer s H E hr=>(zf (wN (m:=12) PassesOwn.never rfl (yj T.range (zb (zw (XA rfl) JD T.max JT (zb ze (zb (zw (Xz rfl) JC T.min JS (zb (zw zI wQ T.len wL (zb (zc 0) zd)) (zb ze zd))) zd))) zd)) (zj (i:=1) sc_law.nd rfl (lo rfl) (by decide))
  (QK (i:=2) rfl sc_law.nd rfl (lo rfl) F__law_left (hr.mono (by decide)) rfl (zb (zc 0) (zb (zc 1) zd)) (fun c Z H0=>(zf (zF (i:=3) sc_law.nd rfl (lo rfl) (zy F__law_house (hr.mono (by decide)) rfl (zb (zc 2) zd)))
  (zf (zF (i:=4) sc_law.nd rfl (lo rfl) (zy F__law_tree (hr.mono (by decide)) rfl (zb (zc 2) (zb (zc 3) zd))))
  (zh (wN (m:=12) PassesOwn.never rfl (yj T.range (zb ze zd)) (zj (i:=5) sc_law.nd rfl (lo rfl) (by decide))
  (zf (zF (i:=6) sc_law.nd rfl (lo rfl) (zy F__law_box (hr.mono (by decide)) rfl (zb (zc 2) (zb (zc 3) zd))))
  (zf (zF (i:=7) sc_law.nd rfl (lo rfl) (zy F__law_plain (hr.mono (by decide)) rfl (zb (zc 6) zd)))
  (zf (zX (zt qX zJ8 (zy F_shows_cover (hr.mono (by decide)) rfl (zb (zc 3) (zb (zc 4) (zb (zc 6) (zb (zy F_cover (hr.mono (by decide)) rfl (zb (zc 3) (zb (zc 4) (zb (zc 6) zd)))) zd))))) wT (zv _)) (zh (zk wT)) zB)
  (zf (zF (i:=8) sc_law.nd rfl (lo rfl) (zy F__law_cover (hr.mono (by decide)) rfl (zb (zc 4) (zb (zc 7) zd))))
  (zf (wN (m:=12) PassesOwn.never rfl (yj T.range (zb (yW (zE zn zD (wm (zb ze (zb ze (zb ze (zb ze zd))))) (zy F__law_pick (hr.mono (by decide)) rfl (zb (zc 2) (zb ze zd))) (fun _ _=>rfl)) (zW kw ZT T.int XB (zb (wJ yx yw (zc 4) zT (zv _)) zd))) zd)) (zj (i:=9) sc_law.nd rfl (lo rfl) (by decide))
  (zf (zF (i:=8) sc_law.nd rfl (lo rfl) (zy F__law_finer (hr.mono (by decide)) rfl (zb (zc 2) (zb (zc 4) (zb (zc 7) (zb (zc 8) zd))))))
  (zf (zF (i:=10) sc_law.nd rfl (lo rfl) (zy F__law_mixed (hr.mono (by decide)) rfl (zb (zc 2) (zb (zc 8) zd))))
  (zf (zF (i:=11) sc_law.nd rfl (lo rfl) (zw (Zg hr) (JB rfl) T3.repr JR (zb (zc 10) zd)))
  (zh (zX (PWD.pt (WY (zt qX zJ8 (zy F_shows_cover (hr.mono (by decide)) rfl (zb (zc 3) (zb (zc 4) (zb (zc 6) (zb (zc 10) zd))))) wT (zv _)) (ZF (zt zx4 zs9 (zw (Zg hr) (JB rfl) T3.repr JR (zb (zc 10) zd)) (zc 11) (zv _))))) (zh (zk wT)) zB))))))
  (zh (zX (PWD.pt (wM (zt wu wr (zc 4) zT (zv _)) (wS (zt qX zJ8 (zy F_shows_cover (hr.mono (by decide)) rfl (zb (zc 3) (zb (zc 4) (zb (zc 6) (zb (zL (zb (zL zd) (zb wt zd))) zd))))) wT (zv _))))) (zh (zk wT)) zB))))))))))))))
  (zh (zk wT)))) ?_
 intro ns hns
 have nsc:zu (zK ns) = true:=id rfl
 simp [startD,nsc]
 refine ⟨by lia,by lia,JLaw ns,⟨rfl,_,_,_,_,_,_,_,_,_,_,_,rfl⟩,?_,?_⟩
 ·rintro i d' rho m e ⟨rfl, a, b, c, d1, e1, f1, g1, h1, i1, j1, k1, rfl⟩
  obtain ⟨hi,rfl⟩:=WV e
  generalize hS:zD6 _ _ _ = S
  simp
  refine KF ns (by simp) (by decide) rfl (i:Int) (by simp [nsc]) (fun P P' h=>by simp [nsc]; exact h _ _) ?_
  refine ⟨ns,_,rfl,hns,by lia,by lia,fun x y hx hy hy2=>⟨[x,y,0],rfl,rfl,by simp [hx,hy],by simp [hy2],?_⟩⟩
  simp [jW,wn]
  refine ⟨rfl,rfl,fun d ts hd1 hd4 hg hz=>?_⟩
  have nh:=vI d ts
  have T1:∀ R:D -> Nat -> Prop,(∀ o:Option Tr,(o = none -> ts = []) -> (∀ tr,o = some tr -> TreeOf d ts tr) -> R (zV o) 3) -> Zo [.st,xb d ts] 3 R:=fun R hR=>⟨d,ts,rfl,rfl,hd1,hd4,hg.u,hz,fun h=>hR none (fun _=>h) fun tr e=>(by cases e),fun h tr g=>hR (some tr) (fun e=>by cases e) fun tr' e=>by cases e; exact g⟩
  simp [nh]
  refine T1 _ fun o ho0 ho=>?_
  subst hS
  generalize hB:XT (WT 6 _) _ = B
  simp
  refine ⟨JTurn [some (zK ns),none,some .st,some (xb d ts),some (zV o)],⟨rfl,_,_,_,_,_,_,_,rfl⟩,?_,?_⟩
  ·rintro j d' rho m e ⟨rfl, a, b, c, d1, e1, f1, g1, rfl⟩
   subst hB
   generalize hB2:XT (WT 8 _) _ = B2
   simp [nh]
   refine ⟨d,ts,rfl,rfl,hd4,hg,hz,fun bx hbx hnb=>?_⟩
   have nbx:zu (xj bx) = true:=id rfl
   have hpl:(zA bx).length = d:=by rw [kn]; exact hbx
   have hset:=yO bx
   have npl:zu (zi (zA bx)) = true:=id rfl
   simp [nbx]
   refine ⟨bx,rfl,by lia,by lia,?_⟩
   simp [nh,nbx]
   have hoW:∀ tr,o = some tr -> Walk d (zA bx) tr /\ Sound tr /\ wk tr <= 29 /\ xu tr <= 60:=fun tr e=>by
    have g:=ho tr e
    have z1:=g.deep
    have z2:=g.size
    exact ⟨g.walk hd1 hpl,g.sound,by lia,by lia⟩
   have hcl:(Ze (zA bx) o).length <= 60:=by
    cases o with
    | none=>simp [Ze]
    | some tr=>exact Nat.le_trans (ku ..) (Nat.le_trans (kj ..) (hoW tr rfl).2.2.2)
   have hcc:∀ tr,o = some tr -> CoverOk d (zA bx) tr ts (Ze (zA bx) o):=fun tr e=>by
    have g:=ho tr e
    rw [e]
    exact zd5 hd1 hpl hset g
   have shw:∀ (xs:List Part) (R:D -> Nat -> Prop),xs.length <= 900 -> (o = none -> xs = []) -> (∀ tr,o = some tr -> CoverOk d (zA bx) tr ts xs) -> R (.bl true) 3 -> Zm [xb d ts,zV o,xj bx,.tup (xs.map zm)] 3 R:=fun xs R h1 h2 h3 hR=>by
    refine ⟨d,ts,o,bx,hbx,hd1,hd4,.inl ⟨xs,rfl,by lia,h1,fun x hx=>?_,fun e=>⟨ho0 e,h2 e⟩,fun tr e=>⟨ho tr e,h3 tr e⟩,hR⟩⟩
    cases o with
    | none=>rw [h2 rfl] at hx; simp at hx
    | some tr =>
     obtain ⟨vss,S,_⟩:=(h3 tr rfl).r
     have:=(S.fine (by lia) (hoW tr rfl).2.2.1 x hx).len
     lia
   refine ⟨xb d ts,o,bx,d,rfl,nh,hbx,hd1,by lia,fun tr e=>?_,?_⟩
   ·obtain ⟨y1, y2, y3, y4⟩ := hoW tr e
    exact ⟨y1,y2,by lia⟩
   ·refine shw _ _ (by lia) (fun e => by rw [e]; rfl) hcc ?_
    simp
    subst hB2
    generalize hB3:zD6 _ _ _ = B3
    generalize hB4:sIf _ _ _ = B4
    have last:∀ (F:EndsD) (a b c e f:Option D),F.nx = JTurn [some (zK ns),none,some .st,some (xb d ts),some (zV o)] (j + 1) -> B4 F [some (zK ns),none,some .st,some (xb d ts),some (zV o),f,some (xj bx),some (zi (zA bx)),a,b,c,e] 3:=fun F a b c e f hF=>by
     subst hB4
     cases o with
     | none =>
      simp [zV,nh,nbx]
      refine ⟨d,ts,none,bx,hbx,hd1,hd4,.inr ⟨rfl,?_⟩⟩
      simp
      rw [hF]
      exact ⟨rfl,_,_,_,_,_,_,_,rfl⟩
     | some tr =>
      have ni:wO (zY tr) = false:=by cases tr <;> rfl
      have nt:=xa tr
      simp [zV,ni,nt]
      rw [hF]
      exact ⟨rfl,_,_,_,_,_,_,_,rfl⟩
    simp [npl]
    refine ⟨o,zA bx,d,rfl,hpl,hd1,by lia,hset,fun tr e=>?_,?_⟩
    ·obtain ⟨y1, y2, y3, y4⟩ := hoW tr e
     exact ⟨y1,y2,by lia,by lia⟩
    ·subst hB3
     generalize hB5:XT (WT 8 _) _ = B5
     simp
     refine zx (by decide) (by decide) fun k g0 g1=>YM (js:=[1,2,3,40]) 1 40 g0 (by simpa using g1) (by decide) fun z z0 z1=>?_
     cases o with
     | none =>
      refine ⟨.inl ⟨by lia,by lia⟩,?_⟩
      dsimp only
      have e0:z * (if wO (zV none) = false then (1:Int) else 0) = 0:=by simp [zV,wO]
      rw [e0]
      refine ⟨0,rfl,by decide,by decide,fun _ rho n=>n = 3 /\ ∃ a b c e f:Option D,rho = [some (zK ns),none,some .st,some (xb d ts),some (zV none),f,some (xj bx),some (zi (zA bx)),a,b,c,e],⟨rfl,_,_,_,_,_,rfl⟩,?_,?_⟩
      ·rintro k2 dd rho n' he _
       simp [Wm] at he
      ·rintro rho n' ⟨rfl, a, b, c, e, f, rfl⟩
       exact last _ _ _ _ _ _ rfl
     | some tr =>
      have ni:wO (zY tr) = false:=by cases tr <;> rfl
      have nt:=xa tr
      refine ⟨.inl ⟨by lia,by lia⟩,?_⟩
      dsimp only
      have e0:z * (if wO (zV (some tr)) = false then (1:Int) else 0) = z:=by simp [zV,ni]
      rw [e0]
      refine ⟨z,rfl,by lia,by lia,JFin d (zA bx) tr ts [some (zK ns),none,some .st,some (xb d ts),some (zV (some tr)),some d',some (xj bx),some (zi (zA bx))],⟨rfl,_,_,_,_,hcc tr rfl,rfl⟩,?_,?_⟩
      ·rintro k2 dd rho n' he ⟨rfl, xs, a, b, c, hc, rfl⟩
       obtain ⟨y1,y2,y3,y4⟩:=hoW tr rfl
       obtain ⟨vss,S,pv⟩:=hc.r
       have hxl:=S.len2
       rw [pv.length_eq] at hxl
       subst hB5
       have eO:zV (some tr) = zY tr:=rfl
       have shw':=fun xs R=>shw xs R
       rw [eO] at shw'
       rw [eO]
       simp [nt,npl]
       refine ⟨d,zA bx,tr,xs,vss,rfl,rfl,hpl,hd4,S,by lia,by lia,fun ys wss S2 p2 l2=>?_⟩
       simp
       refine ⟨ys,rfl,rfl,by lia,fun zs pz=>?_⟩
       have cy:CoverOk d (zA bx) tr ts ys:=⟨wss,S2,p2.trans pv⟩
       have cz:=cy.perm pz
       obtain ⟨vz,Sz,pvz⟩:=cz.r
       have hzl:=Sz.len2
       rw [pvz.length_eq] at hzl
       have fz:=Sz.fine (by lia) y3
       have r1:okR (.tup (zs.map zm)) 15 = true:=okR_tup.mpr fun dd hd=>by
        obtain ⟨x,hx,rfl⟩:=List.mem_map.mp hd
        exact za6 (fz x hx)
       have r2:jV (.tup (zs.map zm)) <= 8000:=by
        have h1:=jb (m:=29) (xs:=zs) fun x hx=>(fz x hx).len
        have h2:zs.length * (29 + 5) <= 30 * (29 + 5):=Nat.mul_le_mul_right _ (by lia)
        show vW (zs.map zm) + 1 <= 8000
        lia
       have r3:zo2 (.tup (zs.map zm)) = true:=rfl
       simp [r1,r3,nt,nh,nbx]
       refine ⟨r2,shw' zs _ (by lia) (fun e=>by cases e) (fun tr' e=>by cases e; exact cz) ?_⟩
       simp [r1,r3]
       exact ⟨r2,rfl,ys,_,_,_,cy,rfl⟩
      ·rintro rho n' ⟨rfl, xs, a, b, c, hc, rfl⟩
       exact last _ _ _ _ _ _ rfl
  ·rintro rho m ⟨rfl, a, b, c, d1, e1, f1, g1, rfl⟩
   exact ⟨rfl,rfl,rfl,rfl,_,_,_,_,_,_,_,_,_,_,_,rfl⟩
 ·rintro rho m ⟨rfl, a, b, c, d1, e1, f1, g1, h1, i1, j1, k1, rfl⟩
  simp
end
end K46
set_option maxRecDepth 100000
set_option maxHeartbeats 1000000
namespace K46
open PySem L2 PySem.Spec PyProof.Rows
theorem wI {α:Type} {us:List α} {c:Nat} (h:us.length = c + 1):∃ a r,us = a :: r /\ r.length = c:=by
 cases us with
 | nil=>cases h
 | cons a r=>exact ⟨a,r,rfl,Nat.succ.inj h⟩
theorem Uu {fd:FuncData} {ps:List Str} {us:List Value} (h:us.length = 1) (q:∀ x0,bindArgs fd ⟨[x0],[]⟩ = pure (ps.zip [x0])):bindArgs fd ⟨us,[]⟩ = pure (ps.zip us):=by
 obtain ⟨x0,u0,rfl,h0⟩:=wI h
 obtain rfl:=List.length_eq_zero_iff.mp h0
 exact q x0
theorem qu {fd:FuncData} {ps:List Str} {us:List Value} (h:us.length = 2) (q:∀ x0 x1,bindArgs fd ⟨[x0,x1],[]⟩ = pure (ps.zip [x0,x1])):bindArgs fd ⟨us,[]⟩ = pure (ps.zip us):=by
 obtain ⟨x0,u0,rfl,h0⟩:=wI h
 obtain ⟨x1,u1,rfl,h1⟩:=wI h0
 obtain rfl:=List.length_eq_zero_iff.mp h1
 exact q x0 x1
theorem Qj {fd:FuncData} {ps:List Str} {us:List Value} (h:us.length = 3) (q:∀ x0 x1 x2,bindArgs fd ⟨[x0,x1,x2],[]⟩ = pure (ps.zip [x0,x1,x2])):bindArgs fd ⟨us,[]⟩ = pure (ps.zip us):=by
 obtain ⟨x0,u0,rfl,h0⟩:=wI h
 obtain ⟨x1,u1,rfl,h1⟩:=wI h0
 obtain ⟨x2,u2,rfl,h2⟩:=wI h1
 obtain rfl:=List.length_eq_zero_iff.mp h2
 exact q x0 x1 x2
theorem zq9 {fd:FuncData} {ps:List Str} {us:List Value} (h:us.length = 4) (q:∀ x0 x1 x2 x3,bindArgs fd ⟨[x0,x1,x2,x3],[]⟩ = pure (ps.zip [x0,x1,x2,x3])):bindArgs fd ⟨us,[]⟩ = pure (ps.zip us):=by
 obtain ⟨x0,u0,rfl,h0⟩:=wI h
 obtain ⟨x1,u1,rfl,h1⟩:=wI h0
 obtain ⟨x2,u2,rfl,h2⟩:=wI h1
 obtain ⟨x3,u3,rfl,h3⟩:=wI h2
 obtain rfl:=List.length_eq_zero_iff.mp h3
 exact q x0 x1 x2 x3
theorem all_mk {l:PySem.W.OpenLaw} {w:World} {K:PySem.W.Frag} {h:Heap} {mg:Str -> Option Value} {fa f0 f1 f2 f3 f4 f5 f6 f7 f8 f9 f10 f11 f12 f13 f14 f15 f16 f17 f18 f19 f20 f21 f22 f23 f24 f25 f26 f27 f28 f29 f30 f31 f32 f33 f34 f35 f36 f37 f38 f39 f40 f41 f42 f43 f44 f45 f46 f47 f48 f49:Addr} (X:K.In h) (G:h.Ns mainGlobals mg) (hfa:mg "law" = some (.ref fa))
  {od0 an0 od1 an1 od2 an2 od3 an3 od4 an4 od5 an5 od6 an6 od7 an7 od8 an8 od9 an9 od10 an10 od11 an11 od12 an12 od13 an13 od14 an14 od15 an15 od16 an16 od17 an17 od18 an18 od19 an19 od20 an20 od21 an21 od22 an22 od23 an23 od24 an24 od25 an25 od26 an26 od27 an27 od28 an28 od29 an29 od30 an30 od31 an31 od32 an32 od33 an33 od34 an34 od35 an35 od36 an36 od37 an37 od38 an38 od39 an39 od40 an40 od41 an41 od42 an42 od43 an43 od44 an44 od45 an45 od46 an46 od47 an47 od48 an48 od49 an49:Option Addr} {sl0 sl1 sl2 sl3 sl4 sl5 sl6 sl7 sl8 sl9 sl10 sl11 sl12 sl13 sl14 sl15 sl16 sl17 sl18 sl19 sl20 sl21 sl22 sl23 sl24 sl25 sl26 sl27 sl28 sl29 sl30 sl31 sl32 sl33 sl34 sl35 sl36 sl37 sl38 sl39 sl40 sl41 sl42 sl43 sl44 sl45 sl46 sl47 sl48 sl49:Array (Option Value)} {oc0 kV0 dc0 pm0 cd0 ct0 oc1 kV1 dc1 pm1 cd1 ct1 oc2 kV2 dc2 pm2 cd2 ct2 oc3 kV3 dc3 pm3 cd3 ct3 oc4 kV4 dc4 pm4 cd4 ct4 oc5 kV5 dc5 pm5 cd5 ct5 oc6 kV6 dc6 pm6 cd6 ct6 oc7 kV7 dc7 pm7 cd7 ct7 oc8 kV8 dc8 pm8 cd8 ct8 oc9 kV9 dc9 pm9 cd9 ct9 oc10 kV10 dc10 pm10 cd10 ct10 oc11 kV11 dc11 pm11 cd11 ct11 oc12 kV12 dc12 pm12 cd12 ct12 oc13 kV13 dc13 pm13 cd13 ct13 oc14 kV14 dc14 pm14 cd14 ct14 oc15 kV15 dc15 pm15 cd15 ct15 oc16 kV16 dc16 pm16 cd16 ct16 oc17 kV17 dc17 pm17 cd17 ct17 oc18 kV18 dc18 pm18 cd18 ct18 oc19 kV19 dc19 pm19 cd19 ct19 oc20 kV20 dc20 pm20 cd20 ct20 oc21 kV21 dc21 pm21 cd21 ct21 oc22 kV22 dc22 pm22 cd22 ct22 oc23 kV23 dc23 pm23 cd23 ct23 oc24 kV24 dc24 pm24 cd24 ct24 oc25 kV25 dc25 pm25 cd25 ct25 oc26 kV26 dc26 pm26 cd26 ct26 oc27 kV27 dc27 pm27 cd27 ct27 oc28 kV28 dc28 pm28 cd28 ct28 oc29 kV29 dc29 pm29 cd29 ct29 oc30 kV30 dc30 pm30 cd30 ct30 oc31 kV31 dc31 pm31 cd31 ct31 oc32 kV32 dc32 pm32 cd32 ct32 oc33 kV33 dc33 pm33 cd33 ct33 oc34 kV34 dc34 pm34 cd34 ct34 oc35 kV35 dc35 pm35 cd35 ct35 oc36 kV36 dc36 pm36 cd36 ct36 oc37 kV37 dc37 pm37 cd37 ct37 oc38 kV38 dc38 pm38 cd38 ct38 oc39 kV39 dc39 pm39 cd39 ct39 oc40 kV40 dc40 pm40 cd40 ct40 oc41 kV41 dc41 pm41 cd41 ct41 oc42 kV42 dc42 pm42 cd42 ct42 oc43 kV43 dc43 pm43 cd43 ct43 oc44 kV44 dc44 pm44 cd44 ct44 oc45 kV45 dc45 pm45 cd45 ct45 oc46 kV46 dc46 pm46 cd46 ct46 oc47 kV47 dc47 pm47 cd47 ct47 oc48 kV48 dc48 pm48 cd48 ct48 oc49 kV49 dc49 pm49 cd49 ct49:Value}
  (a0:PySem.W.nsIn K mainGlobals "is_whole" = some (some (.ref f0))) (l0:K.lookup f0 = some ⟨oc0,od0,.func (PySem.W.fnOf "is_whole" "is_whole" (zq yc) (zo yc) (zg yc) .none kV0 dc0 pm0 an0 cd0 ct0),sl0⟩) (c0:PySem.W.codeIn K cd0 "is_whole" = true) (k0:PySem.W.keepIn K (.ref f0) = true)
  (a1:PySem.W.nsIn K mainGlobals "is_from_zero" = some (some (.ref f1))) (l1:K.lookup f1 = some ⟨oc1,od1,.func (PySem.W.fnOf "is_from_zero" "is_from_zero" (zq xq) (zo xq) (zg xq) .none kV1 dc1 pm1 an1 cd1 ct1),sl1⟩) (c1:PySem.W.codeIn K cd1 "is_from_zero" = true) (k1:PySem.W.keepIn K (.ref f1) = true)
  (a2:PySem.W.nsIn K mainGlobals "is_below" = some (some (.ref f2))) (l2:K.lookup f2 = some ⟨oc2,od2,.func (PySem.W.fnOf "is_below" "is_below" (zq yd) (zo yd) (zg yd) .none kV2 dc2 pm2 an2 cd2 ct2),sl2⟩) (c2:PySem.W.codeIn K cd2 "is_below" = true) (k2:PySem.W.keepIn K (.ref f2) = true)
  (a3:PySem.W.nsIn K mainGlobals "least_of" = some (some (.ref f3))) (l3:K.lookup f3 = some ⟨oc3,od3,.func (PySem.W.fnOf "least_of" "least_of" (zq yb) (zo yb) (zg yb) .none kV3 dc3 pm3 an3 cd3 ct3),sl3⟩) (c3:PySem.W.codeIn K cd3 "least_of" = true) (k3:PySem.W.keepIn K (.ref f3) = true)
  (a4:PySem.W.nsIn K mainGlobals "greatest_of" = some (some (.ref f4))) (l4:K.lookup f4 = some ⟨oc4,od4,.func (PySem.W.fnOf "greatest_of" "greatest_of" (zq xz) (zo xz) (zg xz) .none kV4 dc4 pm4 an4 cd4 ct4),sl4⟩) (c4:PySem.W.codeIn K cd4 "greatest_of" = true) (k4:PySem.W.keepIn K (.ref f4) = true)
  (a5:PySem.W.nsIn K mainGlobals "all_below" = some (some (.ref f5))) (l5:K.lookup f5 = some ⟨oc5,od5,.func (PySem.W.fnOf "all_below" "all_below" (zq wB) (zo wB) (zg wB) .none kV5 dc5 pm5 an5 cd5 ct5),sl5⟩) (c5:PySem.W.codeIn K cd5 "all_below" = true) (k5:PySem.W.keepIn K (.ref f5) = true)
  (a6:PySem.W.nsIn K mainGlobals "all_above" = some (some (.ref f6))) (l6:K.lookup f6 = some ⟨oc6,od6,.func (PySem.W.fnOf "all_above" "all_above" (zq wC) (zo wC) (zg wC) .none kV6 dc6 pm6 an6 cd6 ct6),sl6⟩) (c6:PySem.W.codeIn K cd6 "all_above" = true) (k6:PySem.W.keepIn K (.ref f6) = true)
  (a7:PySem.W.nsIn K mainGlobals "pair_of" = some (some (.ref f7))) (l7:K.lookup f7 = some ⟨oc7,od7,.func (PySem.W.fnOf "pair_of" "pair_of" (zq yE) (zo yE) (zg yE) .none kV7 dc7 pm7 an7 cd7 ct7),sl7⟩) (c7:PySem.W.codeIn K cd7 "pair_of" = true) (k7:PySem.W.keepIn K (.ref f7) = true)
  (a8:PySem.W.nsIn K mainGlobals "is_crossed" = some (some (.ref f8))) (l8:K.lookup f8 = some ⟨oc8,od8,.func (PySem.W.fnOf "is_crossed" "is_crossed" (zq xU) (zo xU) (zg xU) .none kV8 dc8 pm8 an8 cd8 ct8),sl8⟩) (c8:PySem.W.codeIn K cd8 "is_crossed" = true) (k8:PySem.W.keepIn K (.ref f8) = true)
  (a9:PySem.W.nsIn K mainGlobals "settled" = some (some (.ref f9))) (l9:K.lookup f9 = some ⟨oc9,od9,.func (PySem.W.fnOf "settled" "settled" (zq yD) (zo yD) (zg yD) .none kV9 dc9 pm9 an9 cd9 ct9),sl9⟩) (c9:PySem.W.codeIn K cd9 "settled" = true) (k9:PySem.W.keepIn K (.ref f9) = true)
  (a10:PySem.W.nsIn K mainGlobals "plain_box" = some (some (.ref f10))) (l10:K.lookup f10 = some ⟨oc10,od10,.func (PySem.W.fnOf "plain_box" "plain_box" (zq ww) (zo ww) (zg ww) .none kV10 dc10 pm10 an10 cd10 ct10),sl10⟩) (c10:PySem.W.codeIn K cd10 "plain_box" = true) (k10:PySem.W.keepIn K (.ref f10) = true)
  (a11:PySem.W.nsIn K mainGlobals "greater_of" = some (some (.ref f11))) (l11:K.lookup f11 = some ⟨oc11,od11,.func (PySem.W.fnOf "greater_of" "greater_of" (zq xV) (zo xV) (zg xV) .none kV11 dc11 pm11 an11 cd11 ct11),sl11⟩) (c11:PySem.W.codeIn K cd11 "greater_of" = true) (k11:PySem.W.keepIn K (.ref f11) = true)
  (a12:PySem.W.nsIn K mainGlobals "lesser_of" = some (some (.ref f12))) (l12:K.lookup f12 = some ⟨oc12,od12,.func (PySem.W.fnOf "lesser_of" "lesser_of" (zq wz) (zo wz) (zg wz) .none kV12 dc12 pm12 an12 cd12 ct12),sl12⟩) (c12:PySem.W.codeIn K cd12 "lesser_of" = true) (k12:PySem.W.keepIn K (.ref f12) = true)
  (a13:PySem.W.nsIn K mainGlobals "common_pair" = some (some (.ref f13))) (l13:K.lookup f13 = some ⟨oc13,od13,.func (PySem.W.fnOf "common_pair" "common_pair" (zq xB) (zo xB) (zg xB) .none kV13 dc13 pm13 an13 cd13 ct13),sl13⟩) (c13:PySem.W.codeIn K cd13 "common_pair" = true) (k13:PySem.W.keepIn K (.ref f13) = true)
  (a14:PySem.W.nsIn K mainGlobals "common" = some (some (.ref f14))) (l14:K.lookup f14 = some ⟨oc14,od14,.func (PySem.W.fnOf "common" "common" (zq vG) (zo vG) (zg vG) .none kV14 dc14 pm14 an14 cd14 ct14),sl14⟩) (c14:PySem.W.codeIn K cd14 "common" = true) (k14:PySem.W.keepIn K (.ref f14) = true)
  (a15:PySem.W.nsIn K mainGlobals "lies_within" = some (some (.ref f15))) (l15:K.lookup f15 = some ⟨oc15,od15,.func (PySem.W.fnOf "lies_within" "lies_within" (zq xy) (zo xy) (zg xy) .none kV15 dc15 pm15 an15 cd15 ct15),sl15⟩) (c15:PySem.W.codeIn K cd15 "lies_within" = true) (k15:PySem.W.keepIn K (.ref f15) = true)
  (a16:PySem.W.nsIn K mainGlobals "lie_apart" = some (some (.ref f16))) (l16:K.lookup f16 = some ⟨oc16,od16,.func (PySem.W.fnOf "lie_apart" "lie_apart" (zq wy) (zo wy) (zg wy) .none kV16 dc16 pm16 an16 cd16 ct16),sl16⟩) (c16:PySem.W.codeIn K cd16 "lie_apart" = true) (k16:PySem.W.keepIn K (.ref f16) = true)
  (a17:PySem.W.nsIn K mainGlobals "lot_of" = some (some (.ref f17))) (l17:K.lookup f17 = some ⟨oc17,od17,.func (PySem.W.fnOf "lot_of" "lot_of" (zq vE) (zo vE) (zg vE) .none kV17 dc17 pm17 an17 cd17 ct17),sl17⟩) (c17:PySem.W.codeIn K cd17 "lot_of" = true) (k17:PySem.W.keepIn K (.ref f17) = true)
  (a18:PySem.W.nsIn K mainGlobals "looked_at" = some (some (.ref f18))) (l18:K.lookup f18 = some ⟨oc18,od18,.func (PySem.W.fnOf "looked_at" "looked_at" (zq wx) (zo wx) (zg wx) .none kV18 dc18 pm18 an18 cd18 ct18),sl18⟩) (c18:PySem.W.codeIn K cd18 "looked_at" = true) (k18:PySem.W.keepIn K (.ref f18) = true)
  (a19:PySem.W.nsIn K mainGlobals "is_out" = some (some (.ref f19))) (l19:K.lookup f19 = some ⟨oc19,od19,.func (PySem.W.fnOf "is_out" "is_out" (zq vF) (zo vF) (zg vF) .none kV19 dc19 pm19 an19 cd19 ct19),sl19⟩) (c19:PySem.W.codeIn K cd19 "is_out" = true) (k19:PySem.W.keepIn K (.ref f19) = true)
  (a20:PySem.W.nsIn K mainGlobals "ways_out" = some (some (.ref f20))) (l20:K.lookup f20 = some ⟨oc20,od20,.func (PySem.W.fnOf "ways_out" "ways_out" (zq wY) (zo wY) (zg wY) .none kV20 dc20 pm20 an20 cd20 ct20),sl20⟩) (c20:PySem.W.codeIn K cd20 "ways_out" = true) (k20:PySem.W.keepIn K (.ref f20) = true)
  (a21:PySem.W.nsIn K mainGlobals "out_part" = some (some (.ref f21))) (l21:K.lookup f21 = some ⟨oc21,od21,.func (PySem.W.fnOf "out_part" "out_part" (zq ya) (zo ya) (zg ya) .none kV21 dc21 pm21 an21 cd21 ct21),sl21⟩) (c21:PySem.W.codeIn K cd21 "out_part" = true) (k21:PySem.W.keepIn K (.ref f21) = true)
  (a22:PySem.W.nsIn K mainGlobals "cover" = some (some (.ref f22))) (l22:K.lookup f22 = some ⟨oc22,od22,.func (PySem.W.fnOf "cover" "cover" (zq kI) (zo kI) (zg kI) .none kV22 dc22 pm22 an22 cd22 ct22),sl22⟩) (c22:PySem.W.codeIn K cd22 "cover" = true) (k22:PySem.W.keepIn K (.ref f22) = true)
  (a23:PySem.W.nsIn K mainGlobals "tree_at" = some (some (.ref f23))) (l23:K.lookup f23 = some ⟨oc23,od23,.func (PySem.W.fnOf "tree_at" "tree_at" (zq yC) (zo yC) (zg yC) .none kV23 dc23 pm23 an23 cd23 ct23),sl23⟩) (c23:PySem.W.codeIn K cd23 "tree_at" = true) (k23:PySem.W.keepIn K (.ref f23) = true)
  (a24:PySem.W.nsIn K mainGlobals "is_path" = some (some (.ref f24))) (l24:K.lookup f24 = some ⟨oc24,od24,.func (PySem.W.fnOf "is_path" "is_path" (zq yF) (zo yF) (zg yF) .none kV24 dc24 pm24 an24 cd24 ct24),sl24⟩) (c24:PySem.W.codeIn K cd24 "is_path" = true) (k24:PySem.W.keepIn K (.ref f24) = true)
  (a25:PySem.W.nsIn K mainGlobals "is_part" = some (some (.ref f25))) (l25:K.lookup f25 = some ⟨oc25,od25,.func (PySem.W.fnOf "is_part" "is_part" (zq yG) (zo yG) (zg yG) .none kV25 dc25 pm25 an25 cd25 ct25),sl25⟩) (c25:PySem.W.codeIn K cd25 "is_part" = true) (k25:PySem.W.keepIn K (.ref f25) = true)
  (a26:PySem.W.nsIn K mainGlobals "are_parts" = some (some (.ref f26))) (l26:K.lookup f26 = some ⟨oc26,od26,.func (PySem.W.fnOf "are_parts" "are_parts" (zq wA) (zo wA) (zg wA) .none kV26 dc26 pm26 an26 cd26 ct26),sl26⟩) (c26:PySem.W.codeIn K cd26 "are_parts" = true) (k26:PySem.W.keepIn K (.ref f26) = true)
  (a27:PySem.W.nsIn K mainGlobals "trees_at" = some (some (.ref f27))) (l27:K.lookup f27 = some ⟨oc27,od27,.func (PySem.W.fnOf "trees_at" "trees_at" (zq wZ) (zo wZ) (zg wZ) .none kV27 dc27 pm27 an27 cd27 ct27),sl27⟩) (c27:PySem.W.codeIn K cd27 "trees_at" = true) (k27:PySem.W.keepIn K (.ref f27) = true)
  (a28:PySem.W.nsIn K mainGlobals "hold_each_once" = some (some (.ref f28))) (l28:K.lookup f28 = some ⟨oc28,od28,.func (PySem.W.fnOf "hold_each_once" "hold_each_once" (zq xi) (zo xi) (zg xi) .none kV28 dc28 pm28 an28 cd28 ct28),sl28⟩) (c28:PySem.W.codeIn K cd28 "hold_each_once" = true) (k28:PySem.W.keepIn K (.ref f28) = true)
  (a29:PySem.W.nsIn K mainGlobals "is_so" = some (some (.ref f29))) (l29:K.lookup f29 = some ⟨oc29,od29,.func (PySem.W.fnOf "is_so" "is_so" (zq kH) (zo kH) (zg kH) .none kV29 dc29 pm29 an29 cd29 ct29),sl29⟩) (c29:PySem.W.codeIn K cd29 "is_so" = true) (k29:PySem.W.keepIn K (.ref f29) = true)
  (a30:PySem.W.nsIn K mainGlobals "are_so" = some (some (.ref f30))) (l30:K.lookup f30 = some ⟨oc30,od30,.func (PySem.W.fnOf "are_so" "are_so" (zq vH) (zo vH) (zg vH) .none kV30 dc30 pm30 an30 cd30 ct30),sl30⟩) (c30:PySem.W.codeIn K cd30 "are_so" = true) (k30:PySem.W.keepIn K (.ref f30) = true)
  (a31:PySem.W.nsIn K mainGlobals "shows_cover" = some (some (.ref f31))) (l31:K.lookup f31 = some ⟨oc31,od31,.func (PySem.W.fnOf "shows_cover" "shows_cover" (zq xx) (zo xx) (zg xx) .none kV31 dc31 pm31 an31 cd31 ct31),sl31⟩) (c31:PySem.W.codeIn K cd31 "shows_cover" = true) (k31:PySem.W.keepIn K (.ref f31) = true)
  (a32:PySem.W.nsIn K mainGlobals "_law_left" = some (some (.ref f32))) (l32:K.lookup f32 = some ⟨oc32,od32,.func (PySem.W.fnOf "_law_left" "_law_left" (zq wF) (zo wF) (zg wF) .none kV32 dc32 pm32 an32 cd32 ct32),sl32⟩) (c32:PySem.W.codeIn K cd32 "_law_left" = true) (k32:PySem.W.keepIn K (.ref f32) = true)
  (a33:PySem.W.nsIn K mainGlobals "_law_pick" = some (some (.ref f33))) (l33:K.lookup f33 = some ⟨oc33,od33,.func (PySem.W.fnOf "_law_pick" "_law_pick" (zq wE) (zo wE) (zg wE) .none kV33 dc33 pm33 an33 cd33 ct33),sl33⟩) (c33:PySem.W.codeIn K cd33 "_law_pick" = true) (k33:PySem.W.keepIn K (.ref f33) = true)
  (a34:PySem.W.nsIn K mainGlobals "_law_house" = some (some (.ref f34))) (l34:K.lookup f34 = some ⟨oc34,od34,.func (PySem.W.fnOf "_law_house" "_law_house" (zq xZ) (zo xZ) (zg xZ) .none kV34 dc34 pm34 an34 cd34 ct34),sl34⟩) (c34:PySem.W.codeIn K cd34 "_law_house" = true) (k34:PySem.W.keepIn K (.ref f34) = true)
  (a35:PySem.W.nsIn K mainGlobals "_law_number" = some (some (.ref f35))) (l35:K.lookup f35 = some ⟨oc35,od35,.func (PySem.W.fnOf "_law_number" "_law_number" (zq xC) (zo xC) (zg xC) .none kV35 dc35 pm35 an35 cd35 ct35),sl35⟩) (c35:PySem.W.codeIn K cd35 "_law_number" = true) (k35:PySem.W.keepIn K (.ref f35) = true)
  (a36:PySem.W.nsIn K mainGlobals "_law_box" = some (some (.ref f36))) (l36:K.lookup f36 = some ⟨oc36,od36,.func (PySem.W.fnOf "_law_box" "_law_box" (zq ye) (zo ye) (zg ye) .none kV36 dc36 pm36 an36 cd36 ct36),sl36⟩) (c36:PySem.W.codeIn K cd36 "_law_box" = true) (k36:PySem.W.keepIn K (.ref f36) = true)
  (a37:PySem.W.nsIn K mainGlobals "_law_bounds" = some (some (.ref f37))) (l37:K.lookup f37 = some ⟨oc37,od37,.func (PySem.W.fnOf "_law_bounds" "_law_bounds" (zq xE) (zo xE) (zg xE) .none kV37 dc37 pm37 an37 cd37 ct37),sl37⟩) (c37:PySem.W.codeIn K cd37 "_law_bounds" = true) (k37:PySem.W.keepIn K (.ref f37) = true)
  (a38:PySem.W.nsIn K mainGlobals "_law_grown" = some (some (.ref f38))) (l38:K.lookup f38 = some ⟨oc38,od38,.func (PySem.W.fnOf "_law_grown" "_law_grown" (zq wa) (zo wa) (zg wa) .none kV38 dc38 pm38 an38 cd38 ct38),sl38⟩) (c38:PySem.W.codeIn K cd38 "_law_grown" = true) (k38:PySem.W.keepIn K (.ref f38) = true)
  (a39:PySem.W.nsIn K mainGlobals "_law_tree" = some (some (.ref f39))) (l39:K.lookup f39 = some ⟨oc39,od39,.func (PySem.W.fnOf "_law_tree" "_law_tree" (zq wD) (zo wD) (zg wD) .none kV39 dc39 pm39 an39 cd39 ct39),sl39⟩) (c39:PySem.W.codeIn K cd39 "_law_tree" = true) (k39:PySem.W.keepIn K (.ref f39) = true)
  (a40:PySem.W.nsIn K mainGlobals "_law_plain" = some (some (.ref f40))) (l40:K.lookup f40 = some ⟨oc40,od40,.func (PySem.W.fnOf "_law_plain" "_law_plain" (zq xW) (zo xW) (zg xW) .none kV40 dc40 pm40 an40 cd40 ct40),sl40⟩) (c40:PySem.W.codeIn K cd40 "_law_plain" = true) (k40:PySem.W.keepIn K (.ref f40) = true)
  (a41:PySem.W.nsIn K mainGlobals "_law_beyond" = some (some (.ref f41))) (l41:K.lookup f41 = some ⟨oc41,od41,.func (PySem.W.fnOf "_law_beyond" "_law_beyond" (zq xF) (zo xF) (zg xF) .none kV41 dc41 pm41 an41 cd41 ct41),sl41⟩) (c41:PySem.W.codeIn K cd41 "_law_beyond" = true) (k41:PySem.W.keepIn K (.ref f41) = true)
  (a42:PySem.W.nsIn K mainGlobals "_law_apart" = some (some (.ref f42))) (l42:K.lookup f42 = some ⟨oc42,od42,.func (PySem.W.fnOf "_law_apart" "_law_apart" (zq we) (zo we) (zg we) .none kV42 dc42 pm42 an42 cd42 ct42),sl42⟩) (c42:PySem.W.codeIn K cd42 "_law_apart" = true) (k42:PySem.W.keepIn K (.ref f42) = true)
  (a43:PySem.W.nsIn K mainGlobals "_law_inside" = some (some (.ref f43))) (l43:K.lookup f43 = some ⟨oc43,od43,.func (PySem.W.fnOf "_law_inside" "_law_inside" (zq xD) (zo xD) (zg xD) .none kV43 dc43 pm43 an43 cd43 ct43),sl43⟩) (c43:PySem.W.codeIn K cd43 "_law_inside" = true) (k43:PySem.W.keepIn K (.ref f43) = true)
  (a44:PySem.W.nsIn K mainGlobals "_law_parts" = some (some (.ref f44))) (l44:K.lookup f44 = some ⟨oc44,od44,.func (PySem.W.fnOf "_law_parts" "_law_parts" (zq xX) (zo xX) (zg xX) .none kV44 dc44 pm44 an44 cd44 ct44),sl44⟩) (c44:PySem.W.codeIn K cd44 "_law_parts" = true) (k44:PySem.W.keepIn K (.ref f44) = true)
  (a45:PySem.W.nsIn K mainGlobals "_law_cover" = some (some (.ref f45))) (l45:K.lookup f45 = some ⟨oc45,od45,.func (PySem.W.fnOf "_law_cover" "_law_cover" (zq wc) (zo wc) (zg wc) .none kV45 dc45 pm45 an45 cd45 ct45),sl45⟩) (c45:PySem.W.codeIn K cd45 "_law_cover" = true) (k45:PySem.W.keepIn K (.ref f45) = true)
  (a46:PySem.W.nsIn K mainGlobals "_law_at" = some (some (.ref f46))) (l46:K.lookup f46 = some ⟨oc46,od46,.func (PySem.W.fnOf "_law_at" "_law_at" (zq yH) (zo yH) (zg yH) .none kV46 dc46 pm46 an46 cd46 ct46),sl46⟩) (c46:PySem.W.codeIn K cd46 "_law_at" = true) (k46:PySem.W.keepIn K (.ref f46) = true)
  (a47:PySem.W.nsIn K mainGlobals "_law_mixed" = some (some (.ref f47))) (l47:K.lookup f47 = some ⟨oc47,od47,.func (PySem.W.fnOf "_law_mixed" "_law_mixed" (zq xY) (zo xY) (zg xY) .none kV47 dc47 pm47 an47 cd47 ct47),sl47⟩) (c47:PySem.W.codeIn K cd47 "_law_mixed" = true) (k47:PySem.W.keepIn K (.ref f47) = true)
  (a48:PySem.W.nsIn K mainGlobals "_law_finer" = some (some (.ref f48))) (l48:K.lookup f48 = some ⟨oc48,od48,.func (PySem.W.fnOf "_law_finer" "_law_finer" (zq wb) (zo wb) (zg wb) .none kV48 dc48 pm48 an48 cd48 ct48),sl48⟩) (c48:PySem.W.codeIn K cd48 "_law_finer" = true) (k48:PySem.W.keepIn K (.ref f48) = true)
  (a49:PySem.W.nsIn K mainGlobals "law" = some (some (.ref f49))) (l49:K.lookup f49 = some ⟨oc49,od49,.func (PySem.W.fnOf "law" "law" (zq ZC) (zo ZC) (zg ZC) .none kV49 dc49 pm49 an49 cd49 ct49),sl49⟩) (c49:PySem.W.codeIn K cd49 "law" = true) (k49:PySem.W.keepIn K (.ref f49) = true)
  {cc38 Pt38:Addr} {pc38:Value} {pd38:Option Addr} {pe38:Array (Option Value)} {vv38:Array Value} (le38:cd38 = .ref cc38) (lk38:K.lookup cc38 = some ⟨pc38,pd38,.fields vv38,pe38⟩) (lp38:vv38[11]? = some (.ref Pt38))
  {e0:Addr} {eo0:Option Addr} {en0:Nat} {et0 eu0:Tok} {es0:Array (Option Value)} (yy0:PySem.W.nsIn K mainGlobals "EMPTY_PAIR" = some (some (.ref e0))) (hh0:K.lookup e0 = some ⟨.type "tuple",eo0,.seq #[.int 1 et0,.int 0 eu0] en0,es0⟩)
  {ne:Addr} {nep:Nat} {nt0 nt1 nt2 nu0 nu1 nu2:Tok}
  (ny:PySem.W.nsIn K mainGlobals "LENGTHS" = some (some (.ref ne))) (ns:(ne == sysModules) = false) {no:Obj} (nh:K.lookup ne = some no) (nw:no = { cls:=.type "dict",data:=.dict #[{ hash:=PyData.keyHash w.params "in",key:=.str "in" nt0,val:=.int 2 nu0 },{ hash:=PyData.keyHash w.params "far",key:=.str "far" nt1,val:=.int 2 nu1 },{ hash:=PyData.keyHash w.params "out",key:=.str "out" nt2,val:=.int 4 nu2 }] nep })
  (z0:PySem.W.nsIn K mainGlobals "len" = some none) (z1:PySem.W.nsIn K mainGlobals "abs" = some none) (z2:PySem.W.nsIn K mainGlobals "all" = some none) (z3:PySem.W.nsIn K mainGlobals "any" = some none) (z4:PySem.W.nsIn K mainGlobals "isinstance" = some none) (z5:PySem.W.nsIn K mainGlobals "int" = some none) (z6:PySem.W.nsIn K mainGlobals "bool" = some none) (z7:PySem.W.nsIn K mainGlobals "str" = some none) (z8:PySem.W.nsIn K mainGlobals "tuple" = some none) (z9:PySem.W.nsIn K mainGlobals "list" = some none) (z10:PySem.W.nsIn K mainGlobals "range" = some none) (z11:PySem.W.nsIn K mainGlobals "zip" = some none) (z12:PySem.W.nsIn K mainGlobals "enumerate" = some none) (z13:PySem.W.nsIn K mainGlobals "max" = some none) (z14:PySem.W.nsIn K mainGlobals "min" = some none) (z15:PySem.W.nsIn K mainGlobals "sorted" = some none) (z16:PySem.W.nsIn K mainGlobals "repr" = some none) (z17:PySem.W.nsIn K mainGlobals "dict" = some none) :
  ∃ fd:FuncData,(∀ (s:Shared) (v:Value),BindsTo s fd ⟨[v],[]⟩ [("_law_script",v)]) /\ ∀ base:Heap,K.In base -> base.Ns mainGlobals mg -> base.NoDigits -> XQ K mg base -> FnOk l.prog w K mg base CX0 36 fa fd ["_law_script"] (Yu K):=by
 have tb38:=zr3 a38 l38 le38 lk38 lp38
 have e:=hfa.symm.trans (PySem.W.mg_of X G a49)
 cases e
 have T:Blt mg:=⟨PySem.W.mg_none_of X G z0,PySem.W.mg_none_of X G z1,PySem.W.mg_none_of X G z2,PySem.W.mg_none_of X G z3,PySem.W.mg_none_of X G z4,PySem.W.mg_none_of X G z5,PySem.W.mg_none_of X G z6,PySem.W.mg_none_of X G z7,PySem.W.mg_none_of X G z8,PySem.W.mg_none_of X G z9,PySem.W.mg_none_of X G z10,PySem.W.mg_none_of X G z11,PySem.W.mg_none_of X G z12,PySem.W.mg_none_of X G z13,PySem.W.mg_none_of X G z14,PySem.W.mg_none_of X G z15⟩
 have T3:Blt3 mg:=⟨PySem.W.mg_none_of X G z16,PySem.W.mg_none_of X G z17⟩
 have G_EMPTY_PAIR:zq6 K mg "EMPTY_PAIR" (.tup [.int 1,.int 0]):=Jj (PySem.W.mg_of X G yy0) hh0
 subst nw
 have G_LENGTHS:zU7 w K mg "LENGTHS" ["in", "far", "out"] [.int 2,.int 2,.int 4]:=⟨ne,_,_,_,PySem.W.mg_of X G ny,ns,nh,⟨rfl,rfl,rfl⟩,rfl,⟨⟨⟨nt0,rfl⟩,rfl,⟨.int 2,⟨nu0,rfl⟩,fun _ _ _=>Rep.ofS (d:=.int 2) rfl⟩⟩,⟨⟨⟨nt1,rfl⟩,rfl,⟨.int 2,⟨nu1,rfl⟩,fun _ _ _=>Rep.ofS (d:=.int 2) rfl⟩⟩,⟨⟨⟨nt2,rfl⟩,rfl,⟨.int 4,⟨nu2,rfl⟩,fun _ _ _=>Rep.ofS (d:=.int 4) rfl⟩⟩,True.intro⟩⟩⟩⟩
 have U0:=zJ (st:=yc) l0 c0 k0
 have U1:=zJ (st:=xq) l1 c1 k1
 have U2:=zJ (st:=yd) l2 c2 k2
 have U3:=zJ (st:=yb) l3 c3 k3
 have U4:=zJ (st:=xz) l4 c4 k4
 have U5:=zJ (st:=wB) l5 c5 k5
 have U6:=zJ (st:=wC) l6 c6 k6
 have U7:=zJ (st:=yE) l7 c7 k7
 have U8:=zJ (st:=xU) l8 c8 k8
 have U9:=zJ (st:=yD) l9 c9 k9
 have U10:=zJ (st:=ww) l10 c10 k10
 have U11:=zJ (st:=xV) l11 c11 k11
 have U12:=zJ (st:=wz) l12 c12 k12
 have U13:=zJ (st:=xB) l13 c13 k13
 have U14:=zJ (st:=vG) l14 c14 k14
 have U15:=zJ (st:=xy) l15 c15 k15
 have U16:=zJ (st:=wy) l16 c16 k16
 have U17:=zJ (st:=vE) l17 c17 k17
 have U18:=zJ (st:=wx) l18 c18 k18
 have U19:=zJ (st:=vF) l19 c19 k19
 have U20:=zJ (st:=wY) l20 c20 k20
 have U21:=zJ (st:=ya) l21 c21 k21
 have U22:=zJ (st:=kI) l22 c22 k22
 have U23:=zJ (st:=yC) l23 c23 k23
 have U24:=zJ (st:=yF) l24 c24 k24
 have U25:=zJ (st:=yG) l25 c25 k25
 have U26:=zJ (st:=wA) l26 c26 k26
 have U27:=zJ (st:=wZ) l27 c27 k27
 have U28:=zJ (st:=xi) l28 c28 k28
 have U29:=zJ (st:=kH) l29 c29 k29
 have U30:=zJ (st:=vH) l30 c30 k30
 have U31:=zJ (st:=xx) l31 c31 k31
 have U32:=zJ (st:=wF) l32 c32 k32
 have U33:=zJ (st:=wE) l33 c33 k33
 have U34:=zJ (st:=xZ) l34 c34 k34
 have U35:=zJ (st:=xC) l35 c35 k35
 have U36:=zJ (st:=ye) l36 c36 k36
 have U37:=zJ (st:=xE) l37 c37 k37
 have U38:=zJ (st:=wa) l38 c38 k38
 have U39:=zJ (st:=wD) l39 c39 k39
 have U40:=zJ (st:=xW) l40 c40 k40
 have U41:=zJ (st:=xF) l41 c41 k41
 have U42:=zJ (st:=we) l42 c42 k42
 have U43:=zJ (st:=xD) l43 c43 k43
 have U44:=zJ (st:=xX) l44 c44 k44
 have U45:=zJ (st:=wc) l45 c45 k45
 have U46:=zJ (st:=yH) l46 c46 k46
 have U47:=zJ (st:=xY) l47 c47 k47
 have U48:=zJ (st:=wb) l48 c48 k48
 have U49:=zJ (st:=ZC) l49 c49 k49
 refine ⟨PySem.W.fnOf "law" "law" (zq ZC) (zo ZC) (zg ZC) .none kV49 dc49 pm49 an49 cd49 ct49,fun s v=>.of_eq rfl,fun base _ _ ND LA=>?_⟩
 have LB38:=LA "_law_grown" (by simp [yz]) _ _ tb38
 have F_is_whole:Fn l.prog w K mg base "is_whole" 1 1 XX:=⟨_,_,_,QT T U0,PySem.W.mg_of X G a0,k0,(U0.binds (ps:=["thing"]) fun _ _ _ _ _ _ us hl=>Uu hl fun _=>rfl)⟩
 have F_is_from_zero:Fn l.prog w K mg base "is_from_zero" 2 1 UE:=⟨_,_,_,zl7 U1 F_is_whole,PySem.W.mg_of X G a1,k1,(U1.binds (ps:=["thing"]) fun _ _ _ _ _ _ us hl=>Uu hl fun _=>rfl)⟩
 have F_is_below:Fn l.prog w K mg base "is_below" 3 2 Zs:=⟨_,_,_,za4 U2 F_is_from_zero,PySem.W.mg_of X G a2,k2,(U2.binds (ps:=["thing", "limit"]) fun _ _ _ _ _ _ us hl=>qu hl fun _ _=>rfl)⟩
 have F_least_of:Fn l.prog w K mg base "least_of" 1 1 kE:=⟨_,_,_,Wr U3,PySem.W.mg_of X G a3,k3,(U3.binds (ps:=["low"]) fun _ _ _ _ _ _ us hl=>Uu hl fun _=>rfl)⟩
 have F_greatest_of:Fn l.prog w K mg base "greatest_of" 1 1 yL:=⟨_,_,_,jF U4,PySem.W.mg_of X G a4,k4,(U4.binds (ps:=["high"]) fun _ _ _ _ _ _ us hl=>Uu hl fun _=>rfl)⟩
 have F_all_below:Fn l.prog w K mg base "all_below" 1 2 vR:=⟨_,_,_,YV U5,PySem.W.mg_of X G a5,k5,(U5.binds (ps:=["ends", "pair"]) fun _ _ _ _ _ _ us hl=>qu hl fun _ _=>rfl)⟩
 have F_all_above:Fn l.prog w K mg base "all_above" 1 2 vS:=⟨_,_,_,YW U6,PySem.W.mg_of X G a6,k6,(U6.binds (ps:=["ends", "pair"]) fun _ _ _ _ _ _ us hl=>qu hl fun _ _=>rfl)⟩
 have F_pair_of:Fn l.prog w K mg base "pair_of" 2 1 qJ:=⟨_,_,_,VT U7 F_least_of F_greatest_of,PySem.W.mg_of X G a7,k7,(U7.binds (ps:=["span"]) fun _ _ _ _ _ _ us hl=>Uu hl fun _=>rfl)⟩
 have F_is_crossed:Fn l.prog w K mg base "is_crossed" 1 1 yp:=⟨_,_,_,ZJ U8,PySem.W.mg_of X G a8,k8,(U8.binds (ps:=["pair"]) fun _ _ _ _ _ _ us hl=>Uu hl fun _=>rfl)⟩
 have F_settled:Fn l.prog w K mg base "settled" 2 1 kg:=⟨_,_,_,VS T G_EMPTY_PAIR U9 F_is_crossed,PySem.W.mg_of X G a9,k9,(U9.binds (ps:=["pairs"]) fun _ _ _ _ _ _ us hl=>Uu hl fun _=>rfl)⟩
 have F_plain_box:Fn l.prog w K mg base "plain_box" 3 1 yg:=⟨_,_,_,YR U10 F_pair_of F_settled,PySem.W.mg_of X G a10,k10,(U10.binds (ps:=["box"]) fun _ _ _ _ _ _ us hl=>Uu hl fun _=>rfl)⟩
 have F_greater_of:Fn l.prog w K mg base "greater_of" 1 2 vb:=⟨_,_,_,ZK T U11,PySem.W.mg_of X G a11,k11,(U11.binds (ps:=["one", "other"]) fun _ _ _ _ _ _ us hl=>qu hl fun _ _=>rfl)⟩
 have F_lesser_of:Fn l.prog w K mg base "lesser_of" 1 2 vQ:=⟨_,_,_,YU T U12,PySem.W.mg_of X G a12,k12,(U12.binds (ps:=["one", "other"]) fun _ _ _ _ _ _ us hl=>qu hl fun _ _=>rfl)⟩
 have F_common_pair:Fn l.prog w K mg base "common_pair" 2 2 yM:=⟨_,_,_,jG U13 F_greater_of F_lesser_of,PySem.W.mg_of X G a13,k13,(U13.binds (ps:=["one", "other"]) fun _ _ _ _ _ _ us hl=>qu hl fun _ _=>rfl)⟩
 have F_common:Fn l.prog w K mg base "common" 3 2 qy:=⟨_,_,_,Kw T U14 F_settled F_common_pair,PySem.W.mg_of X G a14,k14,(U14.binds (ps:=["one", "other"]) fun _ _ _ _ _ _ us hl=>qu hl fun _ _=>rfl)⟩
 have F_lies_within:Fn l.prog w K mg base "lies_within" 4 2 wR:=⟨_,_,_,jE U15 F_common,PySem.W.mg_of X G a15,k15,(U15.binds (ps:=["one", "other"]) fun _ _ _ _ _ _ us hl=>qu hl fun _ _=>rfl)⟩
 have F_lie_apart:Fn l.prog w K mg base "lie_apart" 4 2 vP:=⟨_,_,_,YT U16 F_is_crossed F_common,PySem.W.mg_of X G a16,k16,(U16.binds (ps:=["one", "other"]) fun _ _ _ _ _ _ us hl=>qu hl fun _ _=>rfl)⟩
 have F_lot_of:Fn l.prog w K mg base "lot_of" 5 2 qw:=⟨_,_,_,Ks U17 F_lie_apart F_lies_within,PySem.W.mg_of X G a17,k17,(U17.binds (ps:=["limits", "plain"]) fun _ _ _ _ _ _ us hl=>qu hl fun _ _=>rfl)⟩
 have F_looked_at:Fn l.prog w K mg base "looked_at" 6 2 yK:=⟨_,_,_,YS T U18 F_plain_box F_lot_of,PySem.W.mg_of X G a18,k18,(U18.binds (ps:=["tree", "box"]) fun _ _ _ _ _ _ us hl=>qu hl fun _ _=>rfl)⟩
 have F_is_out:Fn l.prog w K mg base "is_out" 2 3 qx:=⟨_,_,_,Kv G_EMPTY_PAIR U19 F_all_below F_all_above,PySem.W.mg_of X G a19,k19,(U19.binds (ps:=["ends", "pair", "side"]) fun _ _ _ _ _ _ us hl=>Qj hl fun _ _ _=>rfl)⟩
 have F_ways_out:Fn l.prog w K mg base "ways_out" 3 2 UF:=⟨_,_,_,zl8 T U20 F_is_out,PySem.W.mg_of X G a20,k20,(U20.binds (ps:=["limits", "plain"]) fun _ _ _ _ _ _ us hl=>qu hl fun _ _=>rfl)⟩
 have F_out_part:Fn l.prog w K mg base "out_part" 4 3 UG:=⟨_,_,_,zm1 U21 F_ways_out,PySem.W.mg_of X G a21,k21,(U21.binds (ps:=["path", "limits", "plain"]) fun _ _ _ _ _ _ us hl=>Qj hl fun _ _ _=>rfl)⟩
 have F_cover:Fn l.prog w K mg base "cover" 7 3 Wd:=⟨_,_,_,za3 T U22 F_plain_box F_looked_at F_out_part,PySem.W.mg_of X G a22,k22,(U22.binds (ps:=["house", "tree", "box"]) fun _ _ _ _ _ _ us hl=>Qj hl fun _ _ _=>rfl)⟩
 have F_tree_at:Fn l.prog w K mg base "tree_at" 1 2 qI:=⟨_,_,_,VR U23,PySem.W.mg_of X G a23,k23,(U23.binds (ps:=["tree", "path"]) fun _ _ _ _ _ _ us hl=>qu hl fun _ _=>rfl)⟩
 have F_is_path:Fn l.prog w K mg base "is_path" 4 1 WP:=⟨_,_,_,zm0 T U24 F_is_below,PySem.W.mg_of X G a24,k24,(U24.binds (ps:=["thing"]) fun _ _ _ _ _ _ us hl=>Uu hl fun _=>rfl)⟩
 have F_is_part:Fn l.prog w K mg base "is_part" 5 3 qK:=⟨_,_,_,VV T G_LENGTHS U25 F_is_path F_is_below,PySem.W.mg_of X G a25,k25,(U25.binds (ps:=["thing", "words", "d"]) fun _ _ _ _ _ _ us hl=>Qj hl fun _ _ _=>rfl)⟩
 have F_are_parts:Fn l.prog w K mg base "are_parts" 6 3 zi2:=⟨_,_,_,zy4 T U26 F_is_part,PySem.W.mg_of X G a26,k26,(U26.binds (ps:=["thing", "words", "d"]) fun _ _ _ _ _ _ us hl=>Qj hl fun _ _ _=>rfl)⟩
 have F_trees_at:Fn l.prog w K mg base "trees_at" 2 2 XY:=⟨_,_,_,QU U27 F_tree_at,PySem.W.mg_of X G a27,k27,(U27.binds (ps:=["tree", "parts"]) fun _ _ _ _ _ _ us hl=>qu hl fun _ _=>rfl)⟩
 have F_hold_each_once:Fn l.prog w K mg base "hold_each_once" 1 2 UI:=⟨_,_,_,zm3 T U28,PySem.W.mg_of X G a28,k28,(U28.binds (ps:=["trees", "tree"]) fun _ _ _ _ _ _ us hl=>qu hl fun _ _=>rfl)⟩
 have F_is_so:Fn l.prog w K mg base "is_so" 5 3 Wa:=⟨_,_,_,QZ U29 F_lies_within F_is_out,PySem.W.mg_of X G a29,k29,(U29.binds (ps:=["part", "limits", "plain"]) fun _ _ _ _ _ _ us hl=>Qj hl fun _ _ _=>rfl)⟩
 have F_are_so:Fn l.prog w K mg base "are_so" 6 3 Zt:=⟨_,_,_,Ky T U30 F_is_so,PySem.W.mg_of X G a30,k30,(U30.binds (ps:=["parts", "trees", "plain"]) fun _ _ _ _ _ _ us hl=>Qj hl fun _ _ _=>rfl)⟩
 have F_shows_cover:Fn l.prog w K mg base "shows_cover" 7 4 Zm:=⟨_,_,_,QV U31 F_are_parts F_trees_at F_hold_each_once F_are_so F_plain_box,PySem.W.mg_of X G a31,k31,(U31.binds (ps:=["house", "tree", "box", "thing"]) fun _ _ _ _ _ _ us hl=>zq9 hl fun _ _ _ _=>rfl)⟩
 have F__law_left:Fn l.prog w K mg base "_law_left" 1 2 UH:=⟨_,_,_,zm2 T U32,PySem.W.mg_of X G a32,k32,(U32.binds (ps:=["_law_script", "_law_k"]) fun _ _ _ _ _ _ us hl=>qu hl fun _ _=>rfl)⟩
 have F__law_pick:Fn l.prog w K mg base "_law_pick" 1 2 vM:=⟨_,_,_,zl9 U33,PySem.W.mg_of X G a33,k33,(U33.binds (ps:=["_law_left_here", "_law_many"]) fun _ _ _ _ _ _ us hl=>qu hl fun _ _=>rfl)⟩
 have F__law_house:Fn l.prog w K mg base "_law_house" 2 1 Wb:=⟨_,_,_,za0 T U34 F__law_pick,PySem.W.mg_of X G a34,k34,(U34.binds (ps:=["_law_left_here"]) fun _ _ _ _ _ _ us hl=>Uu hl fun _=>rfl)⟩
 have F__law_number:Fn l.prog w K mg base "_law_number" 2 3 qv:=⟨_,_,_,Kq T U35 F__law_pick,PySem.W.mg_of X G a35,k35,(U35.binds (ps:=["_law_left_here", "_law_house_here", "_law_i"]) fun _ _ _ _ _ _ us hl=>Qj hl fun _ _ _=>rfl)⟩
 have F__law_box:Fn l.prog w K mg base "_law_box" 3 2 zi1:=⟨_,_,_,zy3 T U36 F__law_pick F__law_number,PySem.W.mg_of X G a36,k36,(U36.binds (ps:=["_law_left_here", "_law_house_here"]) fun _ _ _ _ _ _ us hl=>qu hl fun _ _=>rfl)⟩
 have F__law_bounds:Fn l.prog w K mg base "_law_bounds" 1 1 zi0:=⟨_,_,_,zy0 T U37,PySem.W.mg_of X G a37,k37,(U37.binds (ps:=["_law_things"]) fun _ _ _ _ _ _ us hl=>Uu hl fun _=>rfl)⟩
 have F__law_grown:Fn l.prog w K mg base "_law_grown" 34 4 (qL 30):=⟨_,_,_,(za1 T U38 a38 tb38 LB38 (PySem.W.mg_of X G a38) k38 (U38.binds (ps:=["_law_left_here", "_law_d", "_law_things", "_law_turn"]) fun _ _ _ _ _ _ us hl=>zq9 hl fun _ _ _ _=>rfl) F__law_pick F__law_bounds 30),PySem.W.mg_of X G a38,k38,(U38.binds (ps:=["_law_left_here", "_law_d", "_law_things", "_law_turn"]) fun _ _ _ _ _ _ us hl=>zq9 hl fun _ _ _ _=>rfl)⟩
 have F__law_tree:Fn l.prog w K mg base "_law_tree" 35 2 Zo:=⟨_,_,_,QY T U39 F__law_grown,PySem.W.mg_of X G a39,k39,(U39.binds (ps:=["_law_left_here", "_law_house_here"]) fun _ _ _ _ _ _ us hl=>qu hl fun _ _=>rfl)⟩
 have F__law_plain:Fn l.prog w K mg base "_law_plain" 1 1 Zp:=⟨_,_,_,Kr T U40,PySem.W.mg_of X G a40,k40,(U40.binds (ps:=["_law_box_here"]) fun _ _ _ _ _ _ us hl=>Uu hl fun _=>rfl)⟩
 have F__law_beyond:Fn l.prog w K mg base "_law_beyond" 1 4 vD:=⟨_,_,_,Kx U41,PySem.W.mg_of X G a41,k41,(U41.binds (ps:=["_law_edges", "_law_plain_here", "_law_i", "_law_side"]) fun _ _ _ _ _ _ us hl=>zq9 hl fun _ _ _ _=>rfl)⟩
 have F__law_apart:Fn l.prog w K mg base "_law_apart" 2 2 Zr:=⟨_,_,_,Ku T U42 F__law_beyond,PySem.W.mg_of X G a42,k42,(U42.binds (ps:=["_law_edges", "_law_plain_here"]) fun _ _ _ _ _ _ us hl=>qu hl fun _ _=>rfl)⟩
 have F__law_inside:Fn l.prog w K mg base "_law_inside" 1 2 kh:=⟨_,_,_,VU T U43,PySem.W.mg_of X G a43,k43,(U43.binds (ps:=["_law_edges", "_law_plain_here"]) fun _ _ _ _ _ _ us hl=>qu hl fun _ _=>rfl)⟩
 have F__law_parts:Fn l.prog w K mg base "_law_parts" 33 3 (Zn 31):=⟨_,_,_,(QW T U44 (PySem.W.mg_of X G a44) k44 (U44.binds (ps:=["_law_tree_here", "_law_plain_here", "_law_path"]) fun _ _ _ _ _ _ us hl=>Qj hl fun _ _ _=>rfl) F__law_apart F__law_beyond F__law_inside 31),PySem.W.mg_of X G a44,k44,(U44.binds (ps:=["_law_tree_here", "_law_plain_here", "_law_path"]) fun _ _ _ _ _ _ us hl=>Qj hl fun _ _ _=>rfl)⟩
 have F__law_cover:Fn l.prog w K mg base "_law_cover" 34 2 Zq:=⟨_,_,_,Kt T U45 F__law_parts,PySem.W.mg_of X G a45,k45,(U45.binds (ps:=["_law_tree_here", "_law_plain_here"]) fun _ _ _ _ _ _ us hl=>qu hl fun _ _=>rfl)⟩
 have F__law_at:Fn l.prog w K mg base "_law_at" 1 2 zr4:=⟨_,_,_,zy2 U46,PySem.W.mg_of X G a46,k46,(U46.binds (ps:=["_law_tree_here", "_law_path"]) fun _ _ _ _ _ _ us hl=>qu hl fun _ _=>rfl)⟩
 have F__law_mixed:Fn l.prog w K mg base "_law_mixed" 2 2 XZ:=⟨_,_,_,QX T U47 F__law_pick,PySem.W.mg_of X G a47,k47,(U47.binds (ps:=["_law_left_here", "_law_parts_here"]) fun _ _ _ _ _ _ us hl=>qu hl fun _ _=>rfl)⟩
 have F__law_finer:Fn l.prog w K mg base "_law_finer" 2 4 Wc:=⟨_,_,_,za2 T U48 F__law_pick F__law_at F__law_beyond,PySem.W.mg_of X G a48,k48,(U48.binds (ps:=["_law_left_here", "_law_tree_here", "_law_plain_here", "_law_parts_here"]) fun _ _ _ _ _ _ us hl=>zq9 hl fun _ _ _ _=>rfl)⟩
 exact zy1 T T3 U49 F__law_left F__law_pick F__law_house F__law_tree F__law_box F__law_plain F_cover F__law_cover F__law_finer F__law_mixed F_shows_cover
theorem walk {l:PySem.W.OpenLaw} {q:Program} {loose:List Str} {XP:(Str -> Option Value) -> Heap -> Prop} {YP:World -> Heap -> Prop} {d:DefRec} {K:Params -> PySem.W.Frag} (hn:l.most = some 63) (hdf:d.params.defaults = [])
  (hY:∀ (w:World) (h:Heap),YP w h -> (K w.params).In h)
  (hrec:∀ (w:World),∀ y ∈ yz,∀ c P,PySem.W.tabIn (K w.params) y = some (c,P) -> ∃ d,(recsOf q).find? (fun e=>e.name == y) = some d) (hnt:∀ w:World,PySem.W.noTabs (K w.params) = true)
  (F : ∀ (w : World) (mg : Str -> Option Value) (fa : Addr) (h : Heap), (K w.params).In h -> h.Ns mainGlobals mg -> mg d.name = some (.ref fa) ->
   ∃ fd:FuncData,(∀ (s:Shared) (u:Value),BindsTo s fd ⟨[u],[]⟩ [("_law_script",u)]) /\ ∀ base:Heap,(K w.params).In base -> base.Ns mainGlobals mg -> base.NoDigits -> XQ (K w.params) mg base -> FnOk l.prog w (K w.params) mg base CX0 36 fa fd ["_law_script"] (Yu (K w.params))) :
  PySem.W.WalkO q loose XP YP l.row.toRowW d [] (fun f vs=>PySem.call f vs) :=
 L2.Qq (n:=63) (k:=36) (x := "_law_script") (CX:=fun _=>CX0) (sp:=fun w=>Yu (K w.params)) hn (by decide) hdf ⟨rfl,by decide,by decide,rfl⟩ hY hrec (fun w=>zh9 (K w.params)) hnt F (fun _ _ a ns hl hO hS hT=>⟨a,ns,rfl,hO,hS,hl,hT,fun H h=>⟨rfl,h⟩⟩) fun _ _ _ _ _ z=>z
end K46
open PySem PySem.W PyProof.Rows
set_option maxRecDepth 100000 in
set_option maxHeartbeats 0 in
theorem PySem.Challenge.cw_boxlayers_k46_other_covers_taken_holds : PySem.Challenge.rw_boxlayers_k46_other_covers_taken.Holds := by
 w_on; o_law; refine holds_open (q:=K46H.view) (loose:=["LENGTHS"]) (N:=10000) (XP:=XL K46H.view []) (Xt:=fun s=>xlAt K46H.view [] s && recOk (RowW.records (OpenRow.toRowW (OpenLaw.row PySem.Challenge.rw_boxlayers_k46_other_covers_taken))) s) (Yf:=Hook.obs K46H.hook) (Ya:=Hook.val K46H.hook) (YP:=Hook.says K46H.hook) K46H.left (Hook.of K46H.hook) (Hook.keeps K46H.hook) (fun s e=>xl_of s (Bool.and_eq_true_iff.mp e).1) XL.keeps rfl rfl rfl (fun s e=>recFacts_of (Bool.and_eq_true_iff.mp e).2) rfl (by first | assumption | decide +kernel) (by decide +kernel) ⟨rfl,rfl,rfl,rfl,rfl,by decide +kernel⟩ ?_ ?_
 ·w_witness2
 k_fill
 refine K46.walk (l:=PySem.Challenge.rw_boxlayers_k46_other_covers_taken) rfl rfl (fun w h Y=>PySem.W.km_in_of Y) ?R ?N ?F
 case R =>
  intro w y hy c P e
  have z:y = "_law_grown" := by simpa [L2.yz] using hy
  subst z
  exact ⟨_,rfl⟩
 case N =>
  intro w
  kernel_rfl
 case F =>
  intro w mg fa h KX G hmg
  refine' K46.all_mk KX G hmg ?a0 ?l0 ?c0 ?k0 ?a1 ?l1 ?c1 ?k1 ?a2 ?l2 ?c2 ?k2 ?a3 ?l3 ?c3 ?k3 ?a4 ?l4 ?c4 ?k4 ?a5 ?l5 ?c5 ?k5 ?a6 ?l6 ?c6 ?k6 ?a7 ?l7 ?c7 ?k7 ?a8 ?l8 ?c8 ?k8 ?a9 ?l9 ?c9 ?k9 ?a10 ?l10 ?c10 ?k10 ?a11 ?l11 ?c11 ?k11 ?a12 ?l12 ?c12 ?k12 ?a13 ?l13 ?c13 ?k13 ?a14 ?l14 ?c14 ?k14 ?a15 ?l15 ?c15 ?k15 ?a16 ?l16 ?c16 ?k16 ?a17 ?l17 ?c17 ?k17 ?a18 ?l18 ?c18 ?k18 ?a19 ?l19 ?c19 ?k19 ?a20 ?l20 ?c20 ?k20 ?a21 ?l21 ?c21 ?k21 ?a22 ?l22 ?c22 ?k22 ?a23 ?l23 ?c23 ?k23 ?a24 ?l24 ?c24 ?k24 ?a25 ?l25 ?c25 ?k25 ?a26 ?l26 ?c26 ?k26 ?a27 ?l27 ?c27 ?k27 ?a28 ?l28 ?c28 ?k28 ?a29 ?l29 ?c29 ?k29 ?a30 ?l30 ?c30 ?k30 ?a31 ?l31 ?c31 ?k31 ?a32 ?l32 ?c32 ?k32 ?a33 ?l33 ?c33 ?k33 ?a34 ?l34 ?c34 ?k34 ?a35 ?l35 ?c35 ?k35 ?a36 ?l36 ?c36 ?k36 ?a37 ?l37 ?c37 ?k37 ?a38 ?l38 ?c38 ?k38 ?a39 ?l39 ?c39 ?k39 ?a40 ?l40 ?c40 ?k40 ?a41 ?l41 ?c41 ?k41 ?a42 ?l42 ?c42 ?k42 ?a43 ?l43 ?c43 ?k43 ?a44 ?l44 ?c44 ?k44 ?a45 ?l45 ?c45 ?k45 ?a46 ?l46 ?c46 ?k46 ?a47 ?l47 ?c47 ?k47 ?a48 ?l48 ?c48 ?k48 ?a49 ?l49 ?c49 ?k49 ?le38 ?lk38 ?lp38 ?yy0 ?hh0 ?ny ?ns ?nh ?nw ?z0 ?z1 ?z2 ?z3 ?z4 ?z5 ?z6 ?z7 ?z8 ?z9 ?z10 ?z11 ?z12 ?z13 ?z14 ?z15 ?z16 ?z17
  (case a0=>k_is)
  (case l0=>k_is)
  (case c0=>k_is)
  (case k0=>k_is)
  (case a1=>k_is)
  (case l1=>k_is)
  (case c1=>k_is)
  (case k1=>k_is)
  (case a2=>k_is)
  (case l2=>k_is)
  (case c2=>k_is)
  (case k2=>k_is)
  (case a3=>k_is)
  (case l3=>k_is)
  (case c3=>k_is)
  (case k3=>k_is)
  (case a4=>k_is)
  (case l4=>k_is)
  (case c4=>k_is)
  (case k4=>k_is)
  (case a5=>k_is)
  (case l5=>k_is)
  (case c5=>k_is)
  (case k5=>k_is)
  (case a6=>k_is)
  (case l6=>k_is)
  (case c6=>k_is)
  (case k6=>k_is)
  (case a7=>k_is)
  (case l7=>k_is)
  (case c7=>k_is)
  (case k7=>k_is)
  (case a8=>k_is)
  (case l8=>k_is)
  (case c8=>k_is)
  (case k8=>k_is)
  (case a9=>k_is)
  (case l9=>k_is)
  (case c9=>k_is)
  (case k9=>k_is)
  (case a10=>k_is)
  (case l10=>k_is)
  (case c10=>k_is)
  (case k10=>k_is)
  (case a11=>k_is)
  (case l11=>k_is)
  (case c11=>k_is)
  (case k11=>k_is)
  (case a12=>k_is)
  (case l12=>k_is)
  (case c12=>k_is)
  (case k12=>k_is)
  (case a13=>k_is)
  (case l13=>k_is)
  (case c13=>k_is)
  (case k13=>k_is)
  (case a14=>k_is)
  (case l14=>k_is)
  (case c14=>k_is)
  (case k14=>k_is)
  (case a15=>k_is)
  (case l15=>k_is)
  (case c15=>k_is)
  (case k15=>k_is)
  (case a16=>k_is)
  (case l16=>k_is)
  (case c16=>k_is)
  (case k16=>k_is)
  (case a17=>k_is)
  (case l17=>k_is)
  (case c17=>k_is)
  (case k17=>k_is)
  (case a18=>k_is)
  (case l18=>k_is)
  (case c18=>k_is)
  (case k18=>k_is)
  (case a19=>k_is)
  (case l19=>k_is)
  (case c19=>k_is)
  (case k19=>k_is)
  (case a20=>k_is)
  (case l20=>k_is)
  (case c20=>k_is)
  (case k20=>k_is)
  (case a21=>k_is)
  (case l21=>k_is)
  (case c21=>k_is)
  (case k21=>k_is)
  (case a22=>k_is)
  (case l22=>k_is)
  (case c22=>k_is)
  (case k22=>k_is)
  (case a23=>k_is)
  (case l23=>k_is)
  (case c23=>k_is)
  (case k23=>k_is)
  (case a24=>k_is)
  (case l24=>k_is)
  (case c24=>k_is)
  (case k24=>k_is)
  (case a25=>k_is)
  (case l25=>k_is)
  (case c25=>k_is)
  (case k25=>k_is)
  (case a26=>k_is)
  (case l26=>k_is)
  (case c26=>k_is)
  (case k26=>k_is)
  (case a27=>k_is)
  (case l27=>k_is)
  (case c27=>k_is)
  (case k27=>k_is)
  (case a28=>k_is)
  (case l28=>k_is)
  (case c28=>k_is)
  (case k28=>k_is)
  (case a29=>k_is)
  (case l29=>k_is)
  (case c29=>k_is)
  (case k29=>k_is)
  (case a30=>k_is)
  (case l30=>k_is)
  (case c30=>k_is)
  (case k30=>k_is)
  (case a31=>k_is)
  (case l31=>k_is)
  (case c31=>k_is)
  (case k31=>k_is)
  (case a32=>k_is)
  (case l32=>k_is)
  (case c32=>k_is)
  (case k32=>k_is)
  (case a33=>k_is)
  (case l33=>k_is)
  (case c33=>k_is)
  (case k33=>k_is)
  (case a34=>k_is)
  (case l34=>k_is)
  (case c34=>k_is)
  (case k34=>k_is)
  (case a35=>k_is)
  (case l35=>k_is)
  (case c35=>k_is)
  (case k35=>k_is)
  (case a36=>k_is)
  (case l36=>k_is)
  (case c36=>k_is)
  (case k36=>k_is)
  (case a37=>k_is)
  (case l37=>k_is)
  (case c37=>k_is)
  (case k37=>k_is)
  (case a38=>k_is)
  (case l38=>k_is)
  (case c38=>k_is)
  (case k38=>k_is)
  (case a39=>k_is)
  (case l39=>k_is)
  (case c39=>k_is)
  (case k39=>k_is)
  (case a40=>k_is)
  (case l40=>k_is)
  (case c40=>k_is)
  (case k40=>k_is)
  (case a41=>k_is)
  (case l41=>k_is)
  (case c41=>k_is)
  (case k41=>k_is)
  (case a42=>k_is)
  (case l42=>k_is)
  (case c42=>k_is)
  (case k42=>k_is)
  (case a43=>k_is)
  (case l43=>k_is)
  (case c43=>k_is)
  (case k43=>k_is)
  (case a44=>k_is)
  (case l44=>k_is)
  (case c44=>k_is)
  (case k44=>k_is)
  (case a45=>k_is)
  (case l45=>k_is)
  (case c45=>k_is)
  (case k45=>k_is)
  (case a46=>k_is)
  (case l46=>k_is)
  (case c46=>k_is)
  (case k46=>k_is)
  (case a47=>k_is)
  (case l47=>k_is)
  (case c47=>k_is)
  (case k47=>k_is)
  (case a48=>k_is)
  (case l48=>k_is)
  (case c48=>k_is)
  (case k48=>k_is)
  (case a49=>k_is)
  (case l49=>k_is)
  (case c49=>k_is)
  (case k49=>k_is)
  (case le38=>rfl)
  (case lk38=>k_is)
  (case lp38=>rfl)
  (case yy0=>k_is)
  (case hh0=>k_is)
  (case ny=>k_is)
  (case nh=>k_is)
  (case nw=>rfl)
  (case ns=>rfl)
  (case z0=>k_is)
  (case z1=>k_is)
  (case z2=>k_is)
  (case z3=>k_is)
  (case z4=>k_is)
  (case z5=>k_is)
  (case z6=>k_is)
  (case z7=>k_is)
  (case z8=>k_is)
  (case z9=>k_is)
  (case z10=>k_is)
  (case z11=>k_is)
  (case z12=>k_is)
  (case z13=>k_is)
  (case z14=>k_is)
  (case z15=>k_is)
  (case z16=>k_is)
  (case z17=>k_is)
#print axioms PySem.Challenge.cw_boxlayers_k46_other_covers_taken_holds
