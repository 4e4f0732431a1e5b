import PyProof.Rows.All
import Wide.All
import OpenK.AllK
import Wide.FinOn
import Lean
import PyProof.EqAt
import PyProof.EqKinds
import PyProof.TupleCall
import PyProof.CompFree
import PyProof.ZipIter
import PyProof.Cells
import PyProof.Rows.CellsFrame
import PyProof.EnumMake
import PyProof.TupleIter
import PyProof.IsiPairs
import PyProof.IsiSeqPairs
import PyProof.IsiNone
import PyProof.ConsumeWalk
import PyProof.DictCompW
import PyProof.NeKinds
import PyProof.MinMaxWalk
import PyProof.Rows.SortRev
import KE.KIsAll
import KE.KDictOf
import PyProof.AttrMissHeap
import PyProof.CallFns
import KE.KLam
import KE.KSortKey
import PyProof.MaxThree
import KE.KDictList
import PyProof.DictRoadsH
import PyProof.DictUpdate
import PyProof.DictWalks
import PySem.Challenge.RW_boxlayers_k43_like_keys
open PySem PySem.Spec PyProof.Rows
open List (filterMap_cons mem_cons_self mem_cons_of_mem mem_append_left getElem?_set_self getElem?_set_ne mem_append_right append_nil of_mem_zip replicate length_take getElem?_append_right getElem?_replicate getElem?_append_left getElem?_map take_sublist mem_of_getElem? length_append length_map length_replicate zip_cons_cons length_cons length_nil size_toArray filterMap_map length_drop map_nil map_cons length_set replicate_succ flatten_cons append_assoc lookup_cons lookup_cons_self forIn_nil forIn_cons zipIdx_cons mem_cons not_mem_nil all_eq_true getElem?_eq_getElem nil_append getElem?_drop getElem_mem find?_cons any_cons take_left' drop_left' pairwise_map length_zipWith take_add_one take_length drop_zero getD_eq_getElem?_getD take_of_length_le map_append map_map map_congr_left filter_cons_of_pos filter_cons_of_neg filter_sublist nodup_append zipWith_cons_cons nodup_nil getElem?_range length_zip map_take map_drop sum_cons)
noncomputable section
set_option Elab.async false
set_option linter.all false
set_option maxRecDepth 100000
namespace L2
abbrev Key:=Sum Int Str
def keyIs:Key->Value->Bool
 | .inl k,v=>Value.isInt k v
 | .inr x,v=>Value.isStrOf x v
def keyH(w:World):Key->Int
 | .inl k=>hashInt k
 | .inr x=>hashStr w x
theorem xf:∀ {k:Key} {v:Value},keyIs k v=true->(∃ i t,k=Sum.inl i/\v=Value.int i t)\/(∃ x t,k=Sum.inr x/\v=Value.str x t)
 | .inl i,v,h=>by
  obtain⟨t,e⟩:=Value.isInt_shape (k:=i) (v:=v) h
  exact .inl ⟨i,t,rfl,e⟩
 | .inr x,v,h=>by
  obtain⟨t,e⟩:=Value.isStrOf_shape (x:=x) (v:=v) h
  exact .inr ⟨x,t,rfl,e⟩
theorem keyIs_int(i:Int)(t:Tok):keyIs (.inl i) (.int i t)=true:=by simp[keyIs,Value.isInt]
theorem keyIs_str(x:Str)(t:Tok):keyIs (.inr x) (.str x t)=true:=by simp[keyIs,Value.isStrOf]
theorem key_ll(a b:Int):decide ((Sum.inl a:Key)=Sum.inl b)=(a == b):=by
 by_cases e:a=b
 ·subst e;simp
 ·have h : ¬ (Sum.inl a : Key) = Sum.inl b := fun q => e (Sum.inl.inj q)
  rw[decide_eq_false h]
  exact(beq_eq_false_iff_ne.mpr e).symm
theorem key_rr(a b:Str):decide ((Sum.inr a:Key)=Sum.inr b)=decide (a=b):=by
 by_cases e:a=b
 ·subst e;simp
 ·have h : ¬ (Sum.inr a : Key) = Sum.inr b := fun q => e (Sum.inr.inj q)
  rw[decide_eq_false h,decide_eq_false e]
theorem key_lr(a:Int)(b:Str):decide ((Sum.inl a:Key)=Sum.inr b)=false:=decide_eq_false (fun q=>nomatch q)
theorem key_rl(a:Str)(b:Int):decide ((Sum.inr a:Key)=Sum.inl b)=false:=decide_eq_false (fun q=>nomatch q)
def zB(prog:Program)(w:World):PySem.KeyKind prog w Key where
 is:=keyIs
 hash:=keyH w
 inj:=fun v a b ha hb=>by
  rcases xf ha with ⟨i,t,rfl,rfl⟩ | ⟨x,t,rfl,rfl⟩
  ·rcases xf hb with ⟨j, u, rfl, e⟩ | ⟨y, u, rfl, e⟩
   ·injection e with e1 _;rw[e1]
   ·exact nomatch e
  ·rcases xf hb with ⟨j, u, rfl, e⟩ | ⟨y, u, rfl, e⟩
   ·exact nomatch e
   ·injection e with e1 _;rw[e1]
 byValue:=fun k v h=>by
  rcases xf h with ⟨i,t,rfl,rfl⟩ | ⟨x,t,rfl,rfl⟩<;>rfl
 pyHash:=fun hv h=>by
  rcases xf hv with ⟨i,t,rfl,rfl⟩ | ⟨x,t,rfl,rfl⟩
  ·exact wpAny_pyHash_int h
  ·exact wpAny_pyHash_str h
 eqBool:=fun hu hv h=>by
  rcases xf hu with ⟨i,t,rfl,rfl⟩ | ⟨x,t,rfl,rfl⟩
  ·rcases xf hv with ⟨j, u, rfl, rfl⟩ | ⟨y, u, rfl, rfl⟩
   ·rw[key_ll] at h;exact wpAny_eqBool_int h
   ·rw[key_lr] at h;exact SeqAt.EqAt.int_str i t y u _ _ _ _ h
  ·rcases xf hv with ⟨j, u, rfl, rfl⟩ | ⟨y, u, rfl, rfl⟩
   ·rw[key_rl] at h;exact SeqAt.EqAt.str_int x t j u _ _ _ _ h
   ·rw[key_rr] at h;exact wpAny_eqBool_str h
 «strs»:=fun k x t v h=>by
  rcases xf h with ⟨i,u,rfl,e⟩ | ⟨y,u,rfl,e⟩
  ·exact nomatch e
  ·injection e with e1 _
   subst e1
   cases v<;>rfl
theorem mixKind_int(prog:Program)(w:World)(i:Int)(t:Tok):(zB prog w).is (.inl i) (.int i t)=true:=keyIs_int i t
theorem mixKind_str(prog:Program)(w:World)(x:Str)(t:Tok):(zB prog w).is (.inr x) (.str x t)=true:=keyIs_str x t
end L2
namespace L2
inductive V where
 | non | bl (b:Bool) | int (i:Int) | str (x:Str) | byt (b:Array UInt8) | flt (b:UInt64) | ref (a:Addr) | ty (n:String)
 deriving DecidableEq
def RelV:V->Value->Prop
 | .non,u=>u=Value.none
 | .bl b,u=>u=Value.bool b
 | .int i,u=>∃ t,u=Value.int i t
 | .str x,u=>∃ t,u=Value.str x t
 | .byt b,u=>∃ t,u=Value.bytes b t
 | .flt b,u=>∃ t,u=Value.float b t
 | .ref a,u=>u=Value.ref a
 | .ty n,u=>u=Value.type n
abbrev Vals:List V->List Value->Prop:=Paired RelV
theorem Vals.length{xs:List V}{us:List Value}(r:Vals xs us):xs.length=us.length:=Paired.length r
theorem Vals.get:∀ {xs:List V} {us:List Value} {i:Nat} {x:V},Vals xs us->xs[i]?=some x->∃ u,us[i]?=some u/\RelV x u
 | _,_,_,_,.nil,e=>by simp at e
 | _,_,0,_,.cons r _,e=>by simp at e;subst e;exact⟨_,rfl,r⟩
 | _,_,i+1,x,.cons _ t,e=>by
  obtain⟨u,h1,h2⟩:=Vals.get (i:=i) (x:=x) t (by simpa using e)
  exact⟨u,by simpa using h1,h2⟩
theorem Vals.set{x:V}{u:Value}(r:RelV x u):∀ {xs:List V} {us:List Value} (i:Nat),Vals xs us->Vals (xs.set i x) (us.set i u)
 | _,_,_,.nil=>.nil
 | _,_,0,.cons _ t=>.cons r t
 | _,_,i+1,.cons q t=>.cons q (Vals.set r i t)
theorem Vals.append:∀ {xs ys:List V} {us ws:List Value},Vals xs us->Vals ys ws->Vals (xs++ys) (us++ws)
 | _,_,_,_,.nil,s=>s
 | _,_,_,_,.cons r t,s=>.cons r (Vals.append t s)
theorem Vals.take:∀ {xs:List V} {us:List Value} (n:Nat),Vals xs us->Vals (xs.take n) (us.take n)
 | _,_,0,_=>.nil
 | _,_,_+1,.nil=>.nil
 | _,_,n+1,.cons r t=>.cons r (Vals.take n t)
theorem Vals.drop:∀ {xs:List V} {us:List Value} (n:Nat),Vals xs us->Vals (xs.drop n) (us.drop n)
 | _,_,0,r=>r
 | _,_,_+1,.nil=>.nil
 | _,_,n+1,.cons _ t=>Vals.drop n t
def RelO:Option V->Option Value->Prop
 | some v,some u=>RelV v u
 | none,none=>True
 | _,_=>False
def KV{κ:Type}:List (κ × V)->List (κ × Value)->Prop:=Paired fun(p:κ × V) (q:κ × Value)=>p.1=q.1/\RelV p.2 q.2
def kV:Key->V
 | .inl i=>.int i
 | .inr x=>.str x
inductive HO where
 /-- a list -/
 | lst (xs:List V)
 /-- a tuple (never changes) -/
 | tup (xs:List V)
 /-- a dict whose keys are ints and texts; one whose keys are tuples of ints and texts (the empty one is both) -/
 | dK (kvs:List (Key × V)) | dT (kvs:List (List Key × V))
 /-- a set of ints: its members, its size -/
 | set (S:Int->Bool) (n:Nat)
 /-- an instance of the class at C, its dict at dx, its attributes -/
 | ins (C dx:Addr) (fs:List (Str × V))
 /-- the dict of the instance at x -/
 | own (x:Addr)
 /-- the dict of an exception -/
 | xd (fs:List (Str × V))
 /-- a bound method, f of x -/
 | met (f x:Addr)
 /-- a range object lo, lo + 1, .. below hi -/
 | rng (lo hi:Int)
 /-- a thing that is known to the object (the script; a dict while a loop walks it): read, never written while it is so -/
 | frz (o:Obj) (u:HO)
 /-- a code object's table -/
 | tbl (ps:Array Value)
 /-- a code object's table: the code objects in it are known and stay -/
 | cot (q:Str)
 /-- any other thing, by what is true of its one object (a def of one's own: SetO a S n := HO.ext fun h => ..) -/
 | ext (φ:Heap->Prop)
abbrev Hp:=Addr->Option HO
def upd(H:Hp)(a:Addr)(o:HO):Hp:=fun b=>if b=a then some o else H b
theorem zw{H:Hp}{a:Addr}{o:HO}:upd H a o a=some o:=by unfold upd;rw[if_pos rfl]
theorem zm{H:Hp}{a b:Addr}{o:HO}(h:b≠a):upd H a o b=H b:=by unfold upd;rw[if_neg h]
theorem zy{H:Hp}{a b:Addr}{o:HO}(h:H a=some o)(h':H b=none):a≠b:=by
 intro e;subst e;rw[h] at h';cases h'
def IsCod(oc:Obj)(q:Str):Prop:=∃ vs t,oc.data=.fields vs/\vs[1]?=some (.str q t)
inductive TabG(φ:Addr->Prop):List Value->Prop where
 | nil:TabG φ []
 | cons {i j:Int} {t u:Tok} {c:Addr} {r:List Value} (h:φ c) (g:TabG φ r):TabG φ (.int i t::.int j u::.ref c::r)
theorem TabG.imp{φ ψ:Addr->Prop}(f:∀ c,φ c->ψ c){l:List Value}(g:TabG φ l):TabG ψ l:=by
 induction g with
 | nil=>exact .nil
 | cons h _ ih=>exact .cons (f _ h) ih
section
variable (P:Program) (w:World)
def ObjOk(H:Hp)(h:Heap)(a:Addr):HO->Prop
 | .lst xs=>xs.length<=sizeLine/\∃ (its:List Value) (n:Nat),Vals xs its/\h.get? a=some { cls:=.type "list",data:=.seq its.toArray n }
 | .tup xs=>xs.length<=sizeLine/\∃ its:List Value,Vals xs its/\IsTup h a its.toArray
 | .dK kvs=>kvs.length<=sizeLine/\(a == sysModules)=false/\∃ vs,KV kvs vs/\h.DictOf (zB P w) a vs
 | .dT kvs => kvs.length <= sizeLine /\ (a == sysModules) = false /\ ∃ xs : List (List Key × Addr × Value),
   Paired (fun(p:List Key × V) (q:List Key × Addr × Value)=>p.1=q.1/\H q.2.1=some (.tup (p.1.map kV))/\RelV p.2 q.2.2) kvs xs /\
   ∃ o es ep,h.get? a=some o/\o.ExactDict/\o.data=.dict es ep/\es.toList=xs.map (entryOfKey (tupleKind (zB P w)))/\(xs.map (·.1)).Nodup
 | .set S n=>h.SetOf (intKind P w) a S n
 | .ins C dx fs => H dx = some (.own a) /\ fs.length <= 1000 /\ dx ≠ a /\ h.get? a = some (W.instObj C dx) /\
   ∃ mA,h.Ns1 dx mA/\(∀ f,RelO (fs.lookup f) (mA f))/\PySem.Within mA (fs.map (·.1))
 | .own _=>∃ o,h.get? a=some o
 | .xd fs=>∃ mA,h.Ns1 a mA/\∀ f,RelO (fs.lookup f) (mA f)
 | .rng lo hi=>∃ t u v,h.get? a=some { cls:=.type "range",data:=.fields #[.int lo t,.int hi u,.int 1 v] }
 | .frz o u=>h.get? a=some o/\ObjOk H h a u
 | .tbl ps=>h.get? a=some { cls:=.none,data:=.fields ps }
 | .cot q=>∃ ps:Array Value,h.get? a=some { cls:=.none,data:=.fields ps }/\TabG (fun c=>∃ oc,H c=some (.frz oc (.own 0))/\IsCod oc q) ps.toList
 | .met f x=>h.get? a=some (W.methodObj (.ref f) (.ref x))
 | .ext φ=>φ h/\(∃ o,h.get? a=some o)/\∀ h1 h2:Heap,φ h1->(∀ o,h1.get? a=some o->h2.get? a=some o)->φ h2
def HOk(H:Hp)(h:Heap):Prop:=∀ a o,H a=some o->ObjOk P w H h a o
end
section
variable {P:Program} {w:World} {H H':Hp} {h h':Heap} {a:Addr} {o:HO}
theorem ObjOk.lt(x:ObjOk P w H h a o):a<h.objs.size:=by
 cases o with
 | lst xs=>obtain⟨_,_,_,_,e⟩:=x;exact Heap.lt_size e
 | tup xs=>obtain⟨_,_,_,p⟩:=x;exact p.lt
 | dK kvs=>obtain⟨_,_,_,_,o,_,_,e,_⟩:=x;exact Heap.lt_size e
 | dT kvs=>obtain⟨_,_,_,_,o,_,_,e,_⟩:=x;exact Heap.lt_size e
 | set S n=>obtain⟨o,_,_,_,e,_⟩:=x;exact Heap.lt_size e
 | ins C dx fs=>obtain⟨_,_,_,e,_⟩:=x;exact Heap.lt_size e
 | own y=>obtain⟨_,e⟩:=x;exact Heap.lt_size e
 | xd fs=>obtain⟨_,⟨_,_,_,e,_⟩,_⟩:=x;exact Heap.lt_size e
 | rng lo hi=>obtain⟨_,_,_,e⟩:=x;exact Heap.lt_size e
 | frz ob u=>obtain⟨e,_⟩:=x;exact Heap.lt_size e
 | tbl ps=>exact Heap.lt_size (show h.get? a=some _ from x)
 | cot q=>obtain⟨ps,e,_⟩:=x;exact Heap.lt_size e
 | met f y=>exact Heap.lt_size (show h.get? a=some _ from x)
 | ext φ=>obtain⟨_,⟨_,e⟩,_⟩:=x;exact Heap.lt_size e
theorem Paired.mapP{α β:Type}{F G:α->β->Prop}:∀ {l₁:List α} {l₂:List β},Paired F l₁ l₂->(∀ a b,F a b->G a b)->Paired G l₁ l₂
 | _,_,.nil,_=>.nil
 | _,_,.cons r t,f=>.cons (f _ _ r) (Paired.mapP t f)
theorem ObjOk.stay(x:ObjOk P w H h a o)(k:∀ b u,(b=a\/H b=some (.own a))->h.get? b=some u->h'.get? b=some u)
  (ho:∀ b,H b=some (.own a)->H' b=some (.own a)) (ht:∀ b xs,H b=some (.tup xs)->H' b=some (.tup xs)) (hz:∀ b o u,H b=some (.frz o u)->H' b=some (.frz o u)):ObjOk P w H' h' a o:=by
 induction o with
 | lst xs=>obtain⟨z,its,n,r,e⟩:=x;exact⟨z,its,n,r,k _ _ (.inl rfl) e⟩
 | tup xs=>obtain⟨z,its,r,ob,e,c⟩:=x;exact⟨z,its,r,ob,k _ _ (.inl rfl) e,c⟩
 | dK kvs=>obtain⟨z,y,vs,r,ob,es,ep,e,c⟩:=x;exact⟨z,y,vs,r,ob,es,ep,k _ _ (.inl rfl) e,c⟩
 | dT kvs =>
  obtain⟨z,y,xs,r,ob,es,ep,e,c⟩:=x
  exact⟨z,y,xs,Paired.mapP r fun p q z=>⟨z.1,ht _ _ z.2.1,z.2.2⟩,ob,es,ep,k _ _ (.inl rfl) e,c⟩
 | set S n=>obtain⟨ob,es,ep,t,e,c⟩:=x;exact⟨ob,es,ep,t,k _ _ (.inl rfl) e,c⟩
 | ins C dx fs =>
  obtain⟨d,z,ne,e,mA,⟨od,es,ep,e2,c⟩,r⟩:=x
  exact⟨ho _ d,z,ne,k _ _ (.inl rfl) e,mA,⟨od,es,ep,k _ _ (.inr d) e2,c⟩,r⟩
 | own y=>obtain⟨ob,e⟩:=x;exact⟨ob,k _ _ (.inl rfl) e⟩
 | xd fs=>obtain⟨mA,⟨od,es,ep,e,c⟩,r⟩:=x;exact⟨mA,⟨od,es,ep,k _ _ (.inl rfl) e,c⟩,r⟩
 | rng lo hi=>obtain⟨t,u,v,e⟩:=x;exact⟨t,u,v,k _ _ (.inl rfl) e⟩
 | frz ob u ih=>obtain⟨e,q⟩:=x;exact⟨k _ _ (.inl rfl) e,ih q⟩
 | cot q=>obtain⟨ps,e,g⟩:=x;exact⟨ps,k _ _ (.inl rfl) e,g.imp fun c ⟨oc,z,i⟩=>⟨oc,hz _ _ _ z,i⟩⟩
 | tbl ps =>
  have e:h.get? a=some { cls:=.none,data:=.fields ps }:=x
  show h'.get? a=some { cls:=.none,data:=.fields ps }
  exact k a _ (.inl rfl) e
 | met f y =>
  have e:h.get? a=some (W.methodObj (.ref f) (.ref y)):=x
  show h'.get? a=some (W.methodObj (.ref f) (.ref y))
  exact k a _ (.inl rfl) e
 | ext φ=>obtain⟨p,⟨o,e⟩,st⟩:=x;exact⟨st _ _ p fun o q=>k _ _ (.inl rfl) q,⟨o,k _ _ (.inl rfl) e⟩,st⟩
theorem HOk.lt(x:HOk P w H h)(e:H a=some o):a<h.objs.size:=(x a o e).lt
theorem HOk.fresh(x:HOk P w H h)(e:h.objs.size<=a):H a=none:=by
 cases q:H a with
 | none=>rfl
 | some u=>exact absurd (Nat.lt_of_lt_of_le (x.lt q) e) (Nat.lt_irrefl _)
theorem HOk.kept(x:HOk P w H h)(k:∀ b u,h.get? b=some u->h'.get? b=some u):HOk P w H h':=fun a o e =>
 (x a o e).stay (fun b u _ q=>k b u q) (fun _ q=>q) (fun _ _ q=>q) fun _ _ _ q=>q
theorem HOk.laid(x:HOk P w H h)(k:∀ b u,h.get? b=some u->h'.get? b=some u)(hp:h.objs.size<=a)(new:ObjOk P w (upd H a o) h' a o):HOk P w (upd H a o) h':=fun b u e=>by
 have hn:=x.fresh hp
 by_cases hb:b=a
 ·subst hb;rw[zw] at e;cases e;exact new
 ·rw [zm hb] at e
  exact(x b u e).stay (fun c v _ q=>k c v q) (fun c q=>by rw[zm (zy q hn)];exact q) (fun c xs q=>by rw[zm (zy q hn)];exact q) fun c o u q=>by rw[zm (zy q hn)];exact q
end
def Rd(H:Hp)(a:Addr)(u:HO):Prop:=H a=some u\/∃ o,H a=some (.frz o u)
theorem Rd.ok{P:Program}{w:World}{H:Hp}{h:Heap}{a:Addr}{u:HO}(r:Rd H a u)(x:HOk P w H h):ObjOk P w H h a u:=by
 rcases r with r | ⟨o,r⟩
 ·exact x a u r
 ·obtain ⟨_, q⟩ := x a _ r
  exact q
def Mut:Option HO->Prop
 | some (.lst _)=>True
 | some (.dK _)=>True
 | some (.dT _)=>True
 | some (.set _ _)=>True
 | some (.ins _ _ _)=>True
 | some (.ext _)=>True
 | _=>False
section
variable {P:Program} {w:World} {H:Hp} {h h':Heap} {x e:Addr} {o':HO}
theorem HOk.write(ok:HOk P w H h)(mu:Mut (H x))(he:e=x\/H e=some (.own x))(k:∀ b u,b≠e->h.get? b=some u->h'.get? b=some u)(heo:∃ u,h'.get? e=some u)
  (new:ObjOk P w (upd H x o') h' x o'):HOk P w (upd H x o') h':=fun b u q=>by
 have nown:∀ c y,H c=some (.own y)->c≠x:=fun c y r z=>by subst z;rw[r] at mu;exact mu
 have ntup:∀ c xs,H c=some (.tup xs)->c≠x:=fun c xs r z=>by subst z;rw[r] at mu;exact mu
 by_cases hb:b=x
 ·subst hb;rw[zw] at q;cases q;exact new
 ·rw [zm hb] at q
  by_cases hbe:b=e
  ·have q' : H b = some (.own x) := by
    rcases he with z | z
    ·exact absurd (hbe.trans z) hb
    ·rw[hbe];exact z
   rw[q] at q';cases q'
   obtain⟨v,hv⟩:=heo
   exact⟨v,by rw[hbe];exact hv⟩
  ·refine (ok b u q).stay (fun c v hc r => k c v ?_ r) (fun c r => by rw [zm (nown c b r)]; exact r) (fun c xs r => by rw [zm (ntup c xs r)]; exact r) fun c o u r => by rw [zm (fun z => by rw [<- z, r] at mu; exact mu)]; exact r
   rcases hc with rfl | hc
   ·exact hbe
   ·rintro rfl
    rcases he with z | z
    ·exact nown c b hc z
    ·rw[hc] at z;cases z;exact hb rfl
end
structure Un(fs ex:List Addr)(H H':Hp)(h h':Heap):Prop where
 keep:∀ b o,h.get? b=some o->H b=none->b ∉ fs->b ∉ ex->h'.get? b=some o
 slot:∀ b o,h.get? b=some o->H b=none->b∈fs->b ∉ ex->∃ sl,h'.get? b=some { o with slots:=sl }
 free:∀ b o,h.get? b=some o->H b=none->b ∉ ex->H' b=none
 there:∀ b o,h.get? b=some o->b ∉ ex->∃ o',h'.get? b=some o'
 tups:∀ b xs,H b=some (.tup xs)->H' b=some (.tup xs)
 frzs:∀ b o u,H b=some (.frz o u)->H' b=some (.frz o u)
 tbls:∀ b ps,H b=some (.tbl ps)->∃ more,H' b=some (.tbl (ps++more))
section
variable {fs fs' ex ex':List Addr} {H H1 H2:Hp} {h h1 h2 h':Heap} {a x e:Addr} {o:HO}
theorem Un.any(u:Un fs ex H H1 h h1){b:Addr}{ob:Obj}(q:h.get? b=some ob)(n:H b=none)(hx:b ∉ ex):∃ sl,h1.get? b=some { ob with slots:=sl }:=by
 by_cases hb:b∈fs
 ·exact u.slot b ob q n hb hx
 ·exact⟨ob.slots,u.keep b ob q n hb hx⟩
theorem Un.kept(k:∀ b u,h.get? b=some u->h'.get? b=some u):Un fs ex H H h h' :=
 ⟨fun b ob q _ _ _=>k b ob q,fun b ob q _ _ _=>⟨ob.slots,k b ob q⟩,fun _ _ _ n _=>n,fun b ob q _=>⟨ob,k b ob q⟩,fun _ _ q=>q,fun _ _ _ q=>q,fun _ ps q=>⟨#[],by rw[q];simp⟩⟩
theorem Un.refl:Un fs ex H H h h:=Un.kept fun _ _ q=>q
theorem Un.laid(k:∀ b u,h.get? b=some u->h'.get? b=some u)(hp:h.objs.size<=a)(hn:H a=none):Un fs ex H (upd H a o) h h' where
 keep:=fun b u q _ _ _=>k b u q
 slot:=fun b u q _ _ _=>⟨u.slots,k b u q⟩
 free:=fun b u q n _=>by rw[zm (Nat.ne_of_lt (Nat.lt_of_lt_of_le (Heap.lt_size q) hp))];exact n
 there:=fun b u q _=>⟨u,k b u q⟩
 tups:=fun b xs q=>by rw[zm (zy q hn)];exact q
 frzs:=fun b u xs q=>by rw[zm (zy q hn)];exact q
 tbls:=fun b ps q=>⟨#[],by rw[zm (zy q hn),q];simp⟩
theorem Un.write(mu:Mut (H x))(he:e=x\/H e=some (.own x))(k:∀ b u,b≠e->h.get? b=some u->h'.get? b=some u)(heo:∃ u,h'.get? e=some u):Un fs ex H (upd H x o) h h':=by
 have hx:∀ b,H b=none->b≠x:=fun b n z=>by subst z;rw[n] at mu;exact mu
 have hb:∀ b,H b=none->b≠e:=fun b n z=>by
  subst z
  rcases he with r | r
  ·exact hx b n r
  ·rw[n] at r;cases r
 have hm:∀ b u,H b=some u->¬ Mut (some u)->b≠x:=fun b u q nm z=>by subst z;rw[q] at mu;exact nm mu
 refine⟨fun b u q n _ _=>k b u (hb b n) q,fun b u q n _ _=>⟨u.slots,k b u (hb b n) q⟩,fun b u q n _=>by rw[zm (hx b n)];exact n,fun b u q _=>?_,
  fun b xs q=>by rw[zm (hm b _ q fun z=>z)];exact q,fun b u xs q=>by rw[zm (hm b _ q fun z=>z)];exact q,fun b ps q=>⟨#[],by rw[zm (hm b _ q fun z=>z),q];simp⟩⟩
 by_cases hbe:b=e
 ·subst hbe;exact heo
 ·exact⟨u,k b u hbe q⟩
end
def trk(h:Heap)(H:Hp):List Addr:=(List.range h.objs.size).filter fun a=>(H a).isSome
def hidT(h:Heap)(H:Hp):Heap:=W.hideAll h (trk h H)
theorem hidT_size(h:Heap)(H:Hp):(hidT h H).objs.size=h.objs.size:=W.hideAll_size _ _
theorem hidT_get{h:Heap}{H:Hp}{b:Addr}{o:Obj}(e:h.get? b=some o)(n:H b=none):(hidT h H).get? b=some o :=
 PySem.W.hideAll_get _ e fun hm=>by
  have q:(H b).isSome=true:=(List.mem_filter.mp hm).2
  rw[n] at q;simp at q
theorem of_hidT{h:Heap}{H:Hp}{b:Addr}{o:Obj}(e:(hidT h H).get? b=some o):h.get? b=some o/\H b=none:=by
 have e':h.get? b=some o:=W.of_hideAll (trk h H) e
 refine⟨e',?_⟩
 cases q:H b with
 | none=>rfl
 | some x =>
  have hm:b∈trk h H:=List.mem_filter.mpr ⟨List.mem_range.mpr (Heap.lt_size e'),by simp[q]⟩
  have z:(hidT h H).get? b=none:=W.hideAll_none (trk h H) hm
  rw[z] at e;cases e
def allNews(g h:Heap)(L:Addr):List (Addr × Obj):=(List.range h.objs.size).filterMap fun a=>if a=L\/(g.get? a).isSome=true then none else(h.get? a).map fun o=>(a,o)
def rest(g h:Heap)(L d:Addr):List (Addr × Obj):=(allNews g h L).filter fun p=>decide (p.1≠d)
end L2
namespace L2
structure Mod(K:W.Frag)(mg:Str->Option Value)(base:Heap):Prop where
 kin:K.In base
 glob:base.Ns mainGlobals mg
 blt:∃ mb,base.Ns builtinsNs mb/\∀ x:Str,x ≠ "__name__" -> mb x=bootBuiltins x
 nolimit:base.NoLimit
structure Cx where
 prog:Program
 w:World
 K:W.Frag
 mg:Str->Option Value
 base:Heap
 A:Around
 N:List Str
 s₀:Shared
 H₀:Hp
 env:Env
 outer:List Env
 stack:List Env
 ex:List Addr
 fn:Str->Bool
 calm:Bool
 pn:List (Addr × Obj)
 xe:Value->Shared->Prop
def frs(l:List Env):List Addr:=l.filterMap (·.frame)
abbrev Cx.fs(X:Cx):List Addr:=frs X.outer
def Vis(sc:Scope)(x:Str):Prop:=sc.names.lookup x=some .local\/sc.names.lookup x=some .cell\/sc.names.lookup x=some .free
def Loc(sc:Scope)(x:Str):Prop:=sc.names.lookup x=some .local\/sc.names.lookup x=some .cell
def Look(env:Env)(h:Heap)(m:Str->Option Value)(x:Str)(u:Value):Prop :=
 (env.kindOf x=some .local/\m x=some u)\/((env.kindOf x=some .cell\/env.kindOf x=some .free)/\∃ c,env.cells.lookup x=some c/\h.IsCell c (some u))
structure Cx.Ok(X:Cx):Prop where
 mod:Mod X.K X.mg X.base
 kind:X.env.scope.kind=.function
 glob:X.env.globals=mainGlobals
 blt:X.env.builtins=builtinsNs
 above:X.s₀.heap.objs.size<=X.env.locals
 inj:∀ x y c,X.env.cells.lookup x=some c->X.env.cells.lookup y=some c->x=y
 has:∀ x,(X.env.kindOf x=some .cell\/X.env.kindOf x=some .free)->∃ c,X.env.cells.lookup x=some c
 cab:∀ x c,X.fn x=true->X.env.cells.lookup x=some c->X.s₀.heap.objs.size<=c
 hd:X.calm=true->X.A.handled=none
 frames:X.A.frames=some X.stack
 stk:X.stack=X.outer\/(X.stack=X.env::X.outer/\X.env.frame=some X.env.locals)
 exf:∀ b∈X.ex,b≠X.env.locals/\∀ x c,X.env.cells.lookup x=some c->c≠b
 bs:∀ b o,X.base.get? b=some o->X.s₀.heap.get? b=some o/\X.H₀ b=none
 bsz:X.base.objs.size<=X.s₀.heap.objs.size
 noex:∀ b o,X.base.get? b=some o->b ∉ X.ex
 exfs:∀ b∈X.ex,b ∉ X.fs
 funs:X.s₀.heap.FunFrames X.base X.outer
 frf:∀ b∈X.fs,X.H₀ b=none
structure Inv(X:Cx)(pins:List (Addr × Obj))(σ:List (Option V))(H:Hp)(s:Shared):Prop where
 ok:X.Ok
 os:s.os=X.s₀.os
 bare:AllBare s.gens
 base:Un X.fs X.ex X.H₀ H X.s₀.heap s.heap
 loc:∃ m,s.heap.Ns X.env.locals m/\∀ (i:Nat) (x:Str) (v:V),X.N[i]?=some x->σ[i]?=some (some v)->Vis X.env.scope x->∃ u,RelV v u/\Look X.env s.heap m x u
 cell:∀ x c,X.env.cells.lookup x=some c->∃ v,s.heap.IsCell c v
 free:H X.env.locals=none
 freeC:∀ x c,X.env.cells.lookup x=some c->H c=none
 pin:∀ p∈X.pn++pins,s.heap.get? p.1=some p.2/\H p.1=none/\p.1≠X.env.locals/\p.1 ∉ X.fs/\∀ v,p.2.data≠.cell v
 hok:HOk X.prog X.w H s.heap
 len:σ.length=X.N.length
section
variable {X:Cx} {pins:List (Addr × Obj)} {σ:List (Option V)} {H H':Hp} {s:Shared} {h':Heap}
theorem Cx.Ok.nofr(ok:X.Ok){b:Addr}{o:Obj}(e:X.base.get? b=some o):b ∉ X.fs:=fun hb=>by
 have:=(ok.funs.mem hb).1
 rw[e] at this;cases this
theorem Inv.bs(I:Inv X pins σ H s):∀ b o,X.base.get? b=some o->s.heap.get? b=some o/\H b=none:=fun b o e =>
 ⟨I.base.keep b o (I.ok.bs b o e).1 (I.ok.bs b o e).2 (I.ok.nofr e) (I.ok.noex b o e),I.base.free b o (I.ok.bs b o e).1 (I.ok.bs b o e).2 (I.ok.noex b o e)⟩
theorem Inv.bk(I:Inv X pins σ H s):∀ b o,X.base.get? b=some o->s.heap.get? b=some o:=fun b o e=>(I.bs b o e).1
theorem Inv.mod(I:Inv X pins σ H s):Mod X.K X.mg X.base:=I.ok.mod
theorem Inv.kIn(I:Inv X pins σ H s):X.K.In s.heap:=I.ok.mod.kin.keeps I.bk
theorem Inv.nolimit(I:Inv X pins σ H s):s.heap.NoLimit:=I.ok.mod.nolimit.keeps I.bk
theorem Inv.lt(I:Inv X pins σ H s):X.env.locals<s.heap.objs.size:=let ⟨_,hn,_⟩:=I.loc;hn.lt
theorem Inv.sz(I:Inv X pins σ H s):X.s₀.heap.objs.size<=s.heap.objs.size:=Nat.le_trans I.ok.above (Nat.le_of_lt I.lt)
theorem Inv.nofs(I:Inv X pins σ H s){a:Addr}(h:s.heap.objs.size<=a):a ∉ X.fs:=fun hb=>by
 obtain⟨_,o,ho,_⟩:=I.ok.funs.mem hb
 exact absurd (Nat.lt_of_lt_of_le (Heap.lt_size ho) (Nat.le_trans I.sz h)) (Nat.lt_irrefl _)
theorem Inv.cne(I:Inv X pins σ H s):∀ x c,X.env.cells.lookup x=some c->c≠X.env.locals:=fun x c e z=>by
 obtain⟨v,o,ho,hd⟩:=I.cell x c e
 obtain⟨m,⟨o',es,ep,ho',hd',_⟩,_⟩:=I.loc
 rw[z,ho'] at ho;cases ho;rw[hd'] at hd;cases hd
theorem Inv.funs(I:Inv X pins σ H s):s.heap.FunFrames X.base X.outer:=by
 have all:∀ (l:List Env),(∀ b∈frs l,b∈X.fs)->X.s₀.heap.FunFrames X.base l->s.heap.FunFrames X.base l:=by
  intro l
  induction l with
  | nil=>intro _ _;trivial
  | cons env r ih =>
   intro hs hl
   obtain⟨hk,⟨L,o,hf,hn,ho,hd⟩,hr⟩:=hl
   have hL:L∈X.fs:=hs L (by unfold frs;rw[filterMap_cons,hf];exact mem_cons_self)
   obtain⟨sl,e⟩:=I.base.slot L o ho (I.ok.frf L hL) hL fun z=>I.ok.exfs L z hL
   exact⟨hk,⟨L,_,hf,hn,e,hd⟩,ih (fun b hb=>hs b (by unfold frs;rw[filterMap_cons,hf];exact mem_cons_of_mem _ hb)) hr⟩
 exact all X.outer (fun _ hb=>hb) I.ok.funs
theorem Inv.stack(I:Inv X pins σ H s):s.heap.FunFrames X.base X.stack:=by
 rcases I.ok.stk with e | ⟨e,hf⟩
 ·rw[e];exact I.funs
 ·rw [e]
  obtain⟨m,hn,_⟩:=I.loc
  refine .cons (by rw[I.ok.kind];decide) hf hn ?_ I.funs
  exact Heap.get?_none_of_le (Nat.le_trans I.ok.bsz I.ok.above)
theorem Inv.stkSub(I:Inv X pins σ H s):∀ b∈frs X.stack,b∈X.env.locals::X.fs:=fun b hb=>by
 rcases I.ok.stk with e | ⟨e,hf⟩
 ·rw[e] at hb;exact mem_cons_of_mem _ hb
 ·rw [e] at hb
  unfold frs at hb
  rw[filterMap_cons,hf] at hb
  exact hb
theorem Inv.stkFree(I:Inv X pins σ H s):∀ b∈frs X.stack,H b=none:=fun b hb=>by
 rcases List.mem_cons.mp (I.stkSub b hb) with e | hb
 ·rw[e];exact I.free
 ·obtain ⟨_, o, ho, _⟩ := I.ok.funs.mem hb
  exact I.base.free b o ho (I.ok.frf b hb) fun z=>I.ok.exfs b z hb
theorem Inv.step{g':Array GenState}{t':Nat}{d':Drawn}{ch:List Addr}(I:Inv X pins σ H s)
  (hch:∀ b∈ch,(b∈X.ex\/X.s₀.heap.objs.size<=b)/\b≠X.env.locals/\(∀ x c,X.env.cells.lookup x=some c->c≠b)/\∀ p∈X.pn++pins,p.1≠b)
  (keep:∀ b o,b≠X.env.locals->b ∉ X.fs->b ∉ ch->s.heap.get? b=some o->H b=none->h'.get? b=some o)
  (slot:∀ b o,b≠X.env.locals->b∈X.fs->b ∉ ch->s.heap.get? b=some o->H b=none->∃ sl,h'.get? b=some { o with slots:=sl }) (free:∀ b o,b ∉ ch->s.heap.get? b=some o->H b=none->H' b=none)
  (there:∀ b o,b ∉ ch->s.heap.get? b=some o->∃ o',h'.get? b=some o')
  (tups:∀ b xs,H b=some (.tup xs)->H' b=some (.tup xs)) (frzs:∀ b o u,H b=some (.frz o u)->H' b=some (.frz o u)) (tbls:∀ b ps,H b=some (.tbl ps)->∃ more,H' b=some (.tbl (ps++more)))
  (ns:∀ m,s.heap.Ns X.env.locals m->h'.Ns X.env.locals m) (hok:HOk X.prog X.w H' h') (hg:AllBare g') :
  Inv X pins σ H' { s with heap:=h',gens:=g',drawn:=d',toks:=t' }:=by
 have neL:∀ b o,X.s₀.heap.get? b=some o->b≠X.env.locals:=fun b o e=>Nat.ne_of_lt (Nat.lt_of_lt_of_le (Heap.lt_size e) I.ok.above)
 have neC:∀ b o,X.s₀.heap.get? b=some o->b ∉ X.ex->b ∉ ch:=fun b o e hx hb=>by
  rcases(hch b hb).1 with z | z
  ·exact hx z
  ·exact absurd (Nat.lt_of_lt_of_le (Heap.lt_size e) z) (Nat.lt_irrefl _)
 have cellK:∀ x c,X.env.cells.lookup x=some c->∀ v,s.heap.IsCell c v->h'.IsCell c v:=fun x c e v ⟨o,ho,hd⟩=>by
  have nch:c ∉ ch:=fun z=>(hch c z).2.2.1 x c e rfl
  by_cases hc:c∈X.fs
  ·obtain ⟨sl, q⟩ := slot c o (I.cne x c e) hc nch ho (I.freeC x c e)
   exact⟨_,q,hd⟩
  ·exact⟨o,keep c o (I.cne x c e) hc nch ho (I.freeC x c e),hd⟩
 refine⟨I.ok,I.os,hg,⟨fun b o e n hb hx=>?_,fun b o e n hb hx=>?_,fun b o e n hx=>?_,fun b o e hx=>?_,fun b xs e=>tups b xs (I.base.tups b xs e),fun b o xs e=>frzs b o xs (I.base.frzs b o xs e),fun b ps e=>?_⟩,?_,fun x c e=>?_,?_,fun x c e=>?_,fun p hp=>?_,hok,I.len⟩
 ·exact keep b o (neL b o e) hb (neC b o e hx) (I.base.keep b o e n hb hx) (I.base.free b o e n hx)
 ·obtain ⟨sl, e1⟩ := I.base.slot b o e n hb hx
  obtain⟨sl',e2⟩:=slot b _ (neL b o e) hb (neC b o e hx) e1 (I.base.free b o e n hx)
  exact⟨sl',e2⟩
 ·obtain ⟨o', e1⟩ := I.base.there b o e hx
  exact free b o' (neC b o e hx) e1 (I.base.free b o e n hx)
 ·obtain ⟨o', e1⟩ := I.base.there b o e hx
  exact there b o' (neC b o e hx) e1
 ·obtain ⟨m1, e1⟩ := I.base.tbls b ps e
  obtain⟨m2,e2⟩:=tbls b _ e1
  exact⟨m1++m2,by rw[e2,Array.append_assoc]⟩
 ·obtain ⟨m, hn, hl⟩ := I.loc
  refine⟨m,ns m hn,fun i x v e1 e2 e3=>?_⟩
  obtain⟨u,r,l⟩:=hl i x v e1 e2 e3
  refine⟨u,r,?_⟩
  rcases l with l | ⟨k,c,e,z⟩
  ·exact .inl l
  ·exact .inr ⟨k,c,e,cellK x c e _ z⟩
 ·obtain ⟨v, z⟩ := I.cell x c e
  exact⟨v,cellK x c e v z⟩
 ·obtain ⟨m, ⟨o, _, _, ho, _⟩, _⟩ := I.loc
  exact free _ o (fun z=>(hch _ z).2.1 rfl) ho I.free
 ·obtain ⟨v, o, ho, hd⟩ := I.cell x c e
  exact free c o (fun z=>(hch c z).2.2.1 x c e rfl) ho (I.freeC x c e)
 ·obtain ⟨e, n, ne, nf, d⟩ := I.pin p hp
  have nch:p.1 ∉ ch:=fun z=>(hch p.1 z).2.2.2 p hp rfl
  exact⟨keep p.1 p.2 ne nf nch e n,free p.1 p.2 nch e n,ne,nf,d⟩
theorem Inv.un{t':Nat}(I:Inv X pins σ H s)(u:Un X.fs [] H H' s.heap h')(hok:HOk X.prog X.w H' h'):Inv X pins σ H' { s with heap:=h',toks:=t' }:=by
 obtain⟨m,⟨o,es,ep,ho,r⟩,_⟩:=id I.loc
 obtain⟨sl,hL⟩:=u.any ho I.free (by simp)
 exact I.step (g':=s.gens) (d':=s.drawn) (ch:=[]) (fun _ z=>nomatch z) (fun b o _ hb _ e n=>u.keep b o e n hb (by simp)) (fun b o _ hb _ e n=>u.slot b o e n hb (by simp)) (fun b o _ e n=>u.free b o e n (by simp)) (fun b o _ e=>u.there b o e (by simp)) u.tups u.frzs u.tbls (fun m' hm=>by
  obtain⟨o',es',ep',ho',r'⟩:=hm
  rw[ho] at ho';cases ho'
  exact⟨_,es',ep',hL,r'⟩) hok I.bare
theorem Inv.call{g':Array GenState}{t':Nat}{d':Drawn}{ch:List Addr}(I:Inv X pins σ H s)(u:Un (frs X.stack) ch H H' s.heap h')(hok:HOk X.prog X.w H' h')(hg:AllBare g')
  (hch:∀ b∈ch,(b∈X.ex\/X.s₀.heap.objs.size<=b)/\b≠X.env.locals/\(∀ x c,X.env.cells.lookup x=some c->c≠b)/\∀ p∈X.pn++pins,p.1≠b) :
  Inv X pins σ H' { s with heap:=h',gens:=g',drawn:=d',toks:=t' }:=by
 obtain⟨m,⟨o,es,ep,ho,r⟩,_⟩:=id I.loc
 obtain⟨sl,hL⟩:=u.any ho I.free fun z=>(hch _ z).2.1 rfl
 exact I.step (ch:=ch) hch (fun b o hL hb hc e n=>u.keep b o e n (fun z=>(List.mem_cons.mp (I.stkSub b z)).elim hL hb) hc) (fun b o _ _ hc e n=>u.any e n hc) (fun b o hc e n=>u.free b o e n hc) (fun b o hc e=>u.there b o e hc) u.tups u.frzs u.tbls (fun m' hm=>by
  obtain⟨o',es',ep',ho',r'⟩:=hm
  rw[ho] at ho';cases ho'
  exact⟨_,es',ep',hL,r'⟩) hok hg
theorem Inv.turned{t':Nat}{it:Addr}(I:Inv X pins σ H s)(k:∀ b o,b≠it->s.heap.get? b=some o->h'.get? b=some o)(hn:H it=none)(hL:it≠X.env.locals)
  (h1:it∈X.ex\/X.s₀.heap.objs.size<=it) (h2:∀ x c,X.env.cells.lookup x=some c->c≠it) (h3:∀ p∈X.pn++pins,p.1≠it):Inv X pins σ H { s with heap:=h',toks:=t' }:=by
 have nit:∀ b u,H b=some u->b≠it:=fun b u e z=>by rw[z,hn] at e;cases e
 refine I.step (g':=s.gens) (d':=s.drawn) (ch:=[it]) (fun b hb=>?_) (fun b o _ _ hc e _=>k b o (fun z=>hc (by simp[z])) e) (fun b o _ _ hc e _=>⟨o.slots,k b o (fun z=>hc (by simp[z])) e⟩) (fun _ _ _ _ n=>n)
  (fun b o hc e=>⟨o,k b o (fun z=>hc (by simp[z])) e⟩) (fun _ _ e=>e) (fun _ _ _ e=>e) (fun b ps e=>⟨#[],by rw[e];simp⟩) (fun m hm=>?_) (fun b u e=>?_) I.bare
 ·have e : b = it := by simpa using hb
  subst e
  exact⟨h1,hL,h2,h3⟩
 ·obtain ⟨o, es, ep, ho, r⟩ := hm
  exact⟨o,es,ep,k _ o (Ne.symm hL) ho,r⟩
 ·refine (I.hok b u e).stay (fun c v hc q => k c v ?_ q) (fun _ q => q) (fun _ _ q => q) fun _ _ _ q => q
  rcases hc with z | z
  ·rw[z];exact nit b u e
  ·exact nit c _ z
theorem Inv.tok(I:Inv X pins σ H s)(t:Nat):Inv X pins σ H { s with toks:=t }:=I.un (h':=s.heap) (t':=t) Un.refl I.hok
theorem Inv.kept{t':Nat}(I:Inv X pins σ H s)(k:∀ b u,s.heap.get? b=some u->h'.get? b=some u):Inv X pins σ H { s with heap:=h',toks:=t' }:=I.un (Un.kept k) (I.hok.kept k)
theorem Inv.laid{a:Addr}{o:HO}{t':Nat}(I:Inv X pins σ H s)(k:∀ b u,s.heap.get? b=some u->h'.get? b=some u)(hp:s.heap.objs.size<=a)(new:ObjOk X.prog X.w (upd H a o) h' a o) :
  Inv X pins σ (upd H a o) { s with heap:=h',toks:=t' }:=I.un (Un.laid k hp (I.hok.fresh hp)) (I.hok.laid k hp new)
theorem Inv.write{x e:Addr}{o:HO}{t':Nat}(I:Inv X pins σ H s)(mu:Mut (H x))(he:e=x\/H e=some (.own x))(k:∀ b u,b≠e->s.heap.get? b=some u->h'.get? b=some u)(heo:∃ u,h'.get? e=some u)
  (new:ObjOk X.prog X.w (upd H x o) h' x o):Inv X pins σ (upd H x o) { s with heap:=h',toks:=t' }:=I.un (Un.write mu he k heo) (I.hok.write mu he k heo new)
theorem Inv.weak{σ':List (Option V)}(I:Inv X pins σ H s)(hl:σ'.length=σ.length)(w:∀ (i:Nat) v,σ'[i]?=some (some v)->σ[i]?=some (some v)):Inv X pins σ' H s :=
 ⟨I.ok,I.os,I.bare,I.base,let ⟨m,hn,hl'⟩:=I.loc;⟨m,hn,fun i x v e1 e2 e3=>hl' i x v e1 (w i v e2) e3⟩,I.cell,I.free,I.freeC,I.pin,I.hok,hl.trans I.len⟩
theorem Inv.pins_of{pins':List (Addr × Obj)}(I:Inv X pins σ H s)(h:∀ p∈pins',s.heap.get? p.1=some p.2/\H p.1=none/\p.1≠X.env.locals/\p.1 ∉ X.fs/\∀ v,p.2.data≠.cell v):Inv X pins' σ H s :=
 ⟨I.ok,I.os,I.bare,I.base,I.loc,I.cell,I.free,I.freeC,fun p hp=>(List.mem_append.mp hp).elim (fun z=>I.pin p (mem_append_left _ z)) (h p),I.hok,I.len⟩
theorem nodup_ix{N:List Str}(hN:N.Nodup){i j:Nat}{x:Str}(a:N[i]?=some x)(b:N[j]?=some x):i=j:=by
 obtain⟨h1,e1⟩:=List.getElem?_eq_some_iff.mp a
 obtain⟨h2,e2⟩:=List.getElem?_eq_some_iff.mp b
 exact(List.getElem_inj hN).mp (e1.trans e2.symm)
theorem store_ok2{M:Model}{A:Around}{E:Value->Shared->Prop}{i:Nat}{x:Str}{v:V}{u:Value}{Q:Unit->Shared->Prop}(I:Inv X pins σ H s)(hN:X.N.Nodup)(hi:X.N[i]?=some x)(hx:Loc X.env.scope x)(r:RelV v u)
  (h:∀ s',Inv X pins (σ.set i (some v)) H s'->(∃ a,Heap.SameBut a s.heap s'.heap/\(a=X.env.locals\/X.env.cells.lookup x=some a))->Q () s') (hf:X.fn x=true\/X.env.scope.names.lookup x=some .local:=by first | exact .inl rfl | exact .inr rfl | assumption):wpAny M A (storeName X.env x u) Q E s:=by
 obtain⟨m,hn,hl⟩:=id I.loc
 have hcls:(X.env.scope.kind == .class||(X.env.scope.kind == .module&&X.env.locals != X.env.globals))=false:=by rw[I.ok.kind];rfl
 have hiσ:i<σ.length:=by rw[I.len];exact(List.getElem?_eq_some_iff.mp hi).1
 have cne:=I.cne
 have tracked:∀ {a:Addr} {h':Heap},(∃ o,s.heap.get? a=some o/\H a=none)->Heap.SameBut a s.heap h'->HOk X.prog X.w H h':=fun {a h'} ha hs b ob e=>by
  obtain⟨_,_,hfree⟩:=ha
  refine(I.hok b ob e).stay (fun c w' hc q=>(hs.2 c ?_).trans q) (fun _ q=>q) (fun _ _ q=>q) fun _ _ _ q=>q
  rintro rfl
  rcases hc with rfl | hc
  ·rw[hfree] at e;cases e
  ·rw[hfree] at hc;cases hc
 rcases hx with hk | hk
 ·refine wpAny_storeName_local hk hn (fun h' hn' hs => ?_) hcls
  obtain⟨oL,_,_,hoL,_⟩:=id hn
  refine h _ ⟨I.ok,I.os,I.bare,⟨fun b o e n hb hx=>?_,fun b o e n hb hx=>?_,I.base.free,fun b o e hx=>?_,I.base.tups,I.base.frzs,I.base.tbls⟩,⟨_,hn',fun j y v' e1 e2 e3=>?_⟩,fun y c e=>?_,I.free,I.freeC,fun p hp=>?_,tracked ⟨oL,hoL,I.free⟩ hs,by simpa using I.len⟩ ⟨_,hs,.inl rfl⟩
  ·exact(hs.2 b (Nat.ne_of_lt (Nat.lt_of_lt_of_le (Heap.lt_size e) I.ok.above))).trans (I.base.keep b o e n hb hx)
  ·obtain ⟨sl, e1⟩ := I.base.slot b o e n hb hx
   exact⟨sl,(hs.2 b (Nat.ne_of_lt (Nat.lt_of_lt_of_le (Heap.lt_size e) I.ok.above))).trans e1⟩
  ·obtain ⟨o', e1⟩ := I.base.there b o e hx
   exact⟨o',(hs.2 b (Nat.ne_of_lt (Nat.lt_of_lt_of_le (Heap.lt_size e) I.ok.above))).trans e1⟩
  ·by_cases hj : j = i
   ·subst hj
    rw[hi] at e1;cases e1
    rw[getElem?_set_self hiσ] at e2
    cases e2
    exact⟨u,r,.inl ⟨hk,by simp⟩⟩
   ·rw [List.getElem?_set_ne (Ne.symm hj)] at e2
    obtain⟨u',r',q⟩:=hl j y v' e1 e2 e3
    refine⟨u',r',?_⟩
    rcases q with ⟨k,e⟩ | ⟨k,c,e,z⟩
    ·refine .inl ⟨k, ?_⟩
     have:y≠x:=fun e=>hj (nodup_ix hN e1 (e ▸ hi))
     simp[this,e]
    ·exact .inr ⟨k,c,e,z.sameBut hs (cne y c e)⟩
  ·obtain ⟨w', z⟩ := I.cell y c e
   exact⟨w',z.sameBut hs (cne y c e)⟩
  ·obtain ⟨e, n, ne, nf, d⟩ := I.pin p hp
   exact⟨(hs.2 p.1 ne).trans e,n,ne,nf,d⟩
 ·have hfn : X.fn x = true := by
   rcases hf with z | z
   ·exact z
   ·rw[z] at hk;cases hk
  obtain⟨c,hc⟩:=I.ok.has x (.inl hk)
  obtain⟨w',z⟩:=I.cell x c hc
  refine wpAny_storeName_cell I.ok.kind hk hc z (fun h' hc' hs=>?_)
  obtain⟨oc,hoc,hocd⟩:=id z
  refine h { s with heap:=h' } ⟨I.ok,I.os,I.bare,⟨fun b o e n hb hx=>?_,fun b o e n hb hx=>?_,I.base.free,fun b o e hx=>?_,I.base.tups,I.base.frzs,I.base.tbls⟩,⟨m,hn.sameBut hs (Ne.symm (cne x c hc)),fun j y v' e1 e2 e3=>?_⟩,fun y c' e=>?_,I.free,I.freeC,fun p hp=>?_,tracked ⟨oc,hoc,I.freeC x c hc⟩ hs,by simpa using I.len⟩ ⟨c,hs,.inr hc⟩
  ·exact(hs.2 b (Nat.ne_of_lt (Nat.lt_of_lt_of_le (Heap.lt_size e) (I.ok.cab x c hfn hc)))).trans (I.base.keep b o e n hb hx)
  ·obtain ⟨sl, e1⟩ := I.base.slot b o e n hb hx
   exact⟨sl,(hs.2 b (Nat.ne_of_lt (Nat.lt_of_lt_of_le (Heap.lt_size e) (I.ok.cab x c hfn hc)))).trans e1⟩
  ·obtain ⟨o', e1⟩ := I.base.there b o e hx
   exact⟨o',(hs.2 b (Nat.ne_of_lt (Nat.lt_of_lt_of_le (Heap.lt_size e) (I.ok.cab x c hfn hc)))).trans e1⟩
  ·by_cases hj : j = i
   ·subst hj
    rw[hi] at e1;cases e1
    rw[getElem?_set_self hiσ] at e2
    cases e2
    exact⟨u,r,.inr ⟨.inl hk,c,hc,hc'⟩⟩
   ·rw [List.getElem?_set_ne (Ne.symm hj)] at e2
    obtain⟨u',r',q⟩:=hl j y v' e1 e2 e3
    refine⟨u',r',?_⟩
    rcases q with q | ⟨k,c',e,z'⟩
    ·exact .inl q
    ·refine .inr ⟨k, c', e, z'.sameBut hs ?_⟩
     rintro rfl
     exact hj (nodup_ix hN e1 (I.ok.inj _ _ _ e hc ▸ hi))
  ·by_cases hcc : c' = c
   ·subst hcc;exact⟨_,hc'⟩
   ·obtain ⟨w2, z2⟩ := I.cell y c' e
    exact⟨w2,z2.sameBut hs hcc⟩
  ·obtain ⟨e, n, ne, nf, d⟩ := I.pin p hp
   refine⟨(hs.2 p.1 ?_).trans e,n,ne,nf,d⟩
   intro q
   rw[q,hoc] at e
   have q':oc=p.2:=Option.some.inj e
   exact d w' (by rw[<- q'];exact hocd)
theorem store_ok{M:Model}{A:Around}{E:Value->Shared->Prop}{i:Nat}{x:Str}{v:V}{u:Value}{Q:Unit->Shared->Prop}(I:Inv X pins σ H s)(hN:X.N.Nodup)(hi:X.N[i]?=some x)(hx:Loc X.env.scope x)(r:RelV v u)
  (h:∀ s',Inv X pins (σ.set i (some v)) H s'->Q () s') (hf:X.fn x=true\/X.env.scope.names.lookup x=some .local:=by first | exact .inl rfl | exact .inr rfl | assumption):wpAny M A (storeName X.env x u) Q E s :=
 store_ok2 I hN hi hx r (fun s' I' _=>h s' I') hf
theorem Inv.call'{s':Shared}{ch:List Addr}(I:Inv X pins σ H s)(ho:s'.os=s.os)(u:Un (frs X.stack) ch H H' s.heap s'.heap)(hok:HOk X.prog X.w H' s'.heap)(hg:AllBare s'.gens)
  (hch:∀ b∈ch,(b∈X.ex\/X.s₀.heap.objs.size<=b)/\b≠X.env.locals/\(∀ x c,X.env.cells.lookup x=some c->c≠b)/\∀ p∈X.pn++pins,p.1≠b):Inv X pins σ H' s':=by
 obtain⟨h',g',d',t',o'⟩:=s'
 have e:o'=s.os:=ho
 subst e
 exact I.call (g':=g') (t':=t') (d':=d') u hok hg hch
end
abbrev XK:=Value->Option Addr->Hp->Prop
abbrev St:=List (Option V)
abbrev VK:=V->Hp->Prop
abbrev TE:=St->Hp->VK->Prop
abbrev TT:=St->Hp->(Bool->Hp->Prop)->Prop
abbrev TA:=St->Hp->(List V->Hp->Prop)->Prop
structure Ends where
 nx:St->Hp->Prop
 rt:VK
 bk:St->Hp->Prop:=fun _ _=>False
 ct:St->Hp->Prop:=fun _ _=>False
abbrev TS:=Ends->St->Hp->Prop
def EP(X:Cx)(pins:List (Addr × Obj))(σ:St)(Q:VK)(u:Value)(s':Shared):Prop:=∃ v H',Inv X pins σ H' s'/\RelV v u/\Q v H'
def TP(X:Cx)(pins:List (Addr × Obj))(σ:St)(Q:Bool->Hp->Prop)(b:Bool)(s':Shared):Prop:=∃ H',Inv X pins σ H' s'/\Q b H'
def AP(X:Cx)(pins:List (Addr × Obj))(σ:St)(Q:List V->Hp->Prop)(us:List Value)(s':Shared):Prop:=∃ vs H',Inv X pins σ H' s'/\Vals vs us/\Q vs H'
def SP(X:Cx)(pins:List (Addr × Obj))(D:Ends)(f:Flow)(s':Shared):Prop :=
 match f with
 | .next=>∃ σ' H',Inv X pins σ' H' s'/\D.nx σ' H'
 | .brk=>∃ σ' H',Inv X pins σ' H' s'/\D.bk σ' H'
 | .cont=>∃ σ' H',Inv X pins σ' H' s'/\D.ct σ' H'
 | .ret u=>∃ v σ' H',Inv X pins σ' H' s'/\RelV v u/\D.rt v H'
def PE(X:Cx)(e:Expr)(t:TE):Prop :=
 ∀ (pins:List (Addr × Obj)) (s:Shared) (σ:St) (H:Hp) (Q:VK),Inv X pins σ H s->t σ H Q->wpAny (model X.prog X.w) X.A (eval e X.env) (EP X pins σ Q) X.xe s
def PT(X:Cx)(e:Expr)(t:TT):Prop :=
 ∀ (pins:List (Addr × Obj)) (s:Shared) (σ:St) (H:Hp) (Q:Bool->Hp->Prop),Inv X pins σ H s->t σ H Q->wpAny (model X.prog X.w) X.A (isTrue e X.env (eval e X.env)) (TP X pins σ Q) X.xe s
def PW(X:Cx)(e:Expr)(t:TT):Prop :=
 ∀ (whole:Sem Value) (pins:List (Addr × Obj)) (s:Shared) (σ:St) (H:Hp) (Q:Bool->Hp->Prop),Inv X pins σ H s->t σ H Q->wpAny (model X.prog X.w) X.A (isTrue e X.env whole) (TP X pins σ Q) X.xe s
theorem PW.pt{X:Cx}{e:Expr}{t:TT}(h:PW X e t):PT X e t:=h _
def PA(X:Cx)(es:List Expr)(t:TA):Prop :=
 ∀ (pos:Pos) (pins:List (Addr × Obj)) (s:Shared) (σ:St) (H:Hp) (Q:List V->Hp->Prop),Inv X pins σ H s->t σ H Q->wpAny (model X.prog X.w) X.A (spliced (backTo pos (starEach es X.env))) (AP X pins σ Q) X.xe s
def PS(X:Cx)(st:Stmt)(t:TS):Prop :=
 ∀ (pins:List (Addr × Obj)) (s:Shared) (σ:St) (H:Hp) (D:Ends),Inv X pins σ H s->t D σ H->wpAny (model X.prog X.w) X.A (exec st X.env) (SP X pins D) X.xe s
def PSs(X:Cx)(st:List Stmt)(t:TS):Prop :=
 ∀ (pins:List (Addr × Obj)) (s:Shared) (σ:St) (H:Hp) (D:Ends),Inv X pins σ H s->t D σ H->wpAny (model X.prog X.w) X.A (execs st X.env) (SP X pins D) X.xe s
theorem thn{α:Type}{t:Sem α}{Q Q':α->Shared->Prop}{M:Model}{A:Around}{E:Value->Shared->Prop}{s:Shared}(h:wpAny M A t Q E s)(hQ:∀ a s,Q a s->Q' a s):wpAny M A t Q' E s:=wpAny_mono h hQ fun _ _ x=>x
end L2
namespace L2
section
variable {X:Cx}
def tVar(i:Nat):TE:=fun σ H Q=>∃ v,σ[i]?=some (some v)/\Q v H
def tC(v:V):TE:=fun _ H Q=>Q v H
theorem pe_var{i:Nat}{x:Str}{pos:Pos}(hN:X.N[i]?=some x)(hv:Vis X.env.scope x)(hd:(x == ("__debug__" : Str))=false:=by decide)(hcd:(x == ("__classdict__" : Str))=false:=by decide):PE X (.Name x pos) (tVar i):=by
 intro pins s σ H Q I h
 obtain⟨v,e,h⟩:=h
 obtain⟨m,hn,hl⟩:=I.loc
 obtain⟨u,r,l⟩:=hl i x v hN e hv
 have fin:EP X pins σ Q u s:=⟨v,H,I,r,h⟩
 rcases l with ⟨hk,hm⟩ | ⟨hk,c,hc,hcell⟩
 ·exact wpAny_Name (wpAny_loadName_local I.ok.kind hk hn hm fin) hd
 ·rcases hk with hk | hk
  ·exact wpAny_Name (wpAny_loadName_cell I.ok.kind hk hc hcell fin) hd
  ·exact wpAny_Name (wpAny_loadName_free I.ok.kind hk hc hcell fin hcd) hd
theorem pe_int{i j pos}:PE X (.Constant (.int i) j pos) (tC (.int i)):=fun _ _ _ H _ I h=>wpAny_Constant_int ⟨.int i,H,I.tok _,⟨_,rfl⟩,h⟩
theorem pe_bl{b j pos}:PE X (.Constant (.bool b) j pos) (tC (.bl b)):=fun _ _ _ H _ I h=>Constant_bool ⟨.bl b,H,I,rfl,h⟩
theorem pe_non{j pos}:PE X (.Constant .none j pos) (tC .non):=fun _ _ _ H _ I h=>Constant_none ⟨.non,H,I,rfl,h⟩
theorem pe_str{x j pos}:PE X (.Constant (.str x) j pos) (tC (.str x)):=fun _ _ _ H _ I h=>Calls.Constant_str ⟨.str x,H,I.tok _,⟨_,rfl⟩,h⟩
def Gl(X:Cx)(x:Str):Prop:=X.env.kindOf x=some .globalImplicit
theorem ld_glob{E:Value->Shared->Prop}{pins:List (Addr × Obj)}{s:Shared}{σ:St}{H:Hp}{x:Str}{u:Value}{pos:Pos}{Q:Value->Shared->Prop}(I:Inv X pins σ H s)(hg:Gl X x)(hm:X.mg x=some u)(h:Q u s)
  (hd:(x == ("__debug__" : Str))=false:=by decide):wpAny (model X.prog X.w) X.A (eval (.Name x pos) X.env) Q E s :=
 Calls.Name_function_global I.ok.kind hg (Calls.loadGlobal_global (by rw[I.ok.glob];exact I.mod.glob.keeps I.bk) hm h) hd
theorem ld_blt{E:Value->Shared->Prop}{pins:List (Addr × Obj)}{s:Shared}{σ:St}{H:Hp}{x:Str}{u:Value}{pos:Pos}{Q:Value->Shared->Prop}(I:Inv X pins σ H s)(hg:Gl X x)(hm:X.mg x=none)(hv:bootBuiltins x=some u)(h:Q u s)
  (hn:x ≠ "__name__" := by decide) (hd:(x == ("__debug__" : Str))=false:=by decide):wpAny (model X.prog X.w) X.A (eval (.Name x pos) X.env) Q E s:=by
 obtain⟨mb,h1,h2⟩:=I.mod.blt
 exact Calls.Name_function_global I.ok.kind hg (Calls.loadGlobal_builtin (by rw[I.ok.glob];exact I.mod.glob.keeps I.bk) hm (by rw[I.ok.blt];exact h1.keeps I.bk) ((h2 x hn).trans hv) h) hd
theorem pe_glob{x:Str}{v:V}{u:Value}{pos:Pos}(hg:Gl X x)(hm:X.mg x=some u)(r:RelV v u)(hd:(x == ("__debug__" : Str))=false:=by decide):PE X (.Name x pos) (tC v) :=
 fun _ _ _ H _ I h=>ld_glob I hg hm ⟨v,H,I,r,h⟩ hd
variable {a b:Expr} {ta tb:TE} {pos:Pos}
def tB(t:TE):TT:=fun σ H Q=>t σ H fun x H1=>∃ c,x=.bl c/\Q c H1
theorem pt_val{e:Expr}{t:TE}(h:PE X e t)(he:∀ whole,isTrue e X.env whole=(do let v <- whole;standAt e.pos;holding [v] (truthy v)):=by intro _;rfl):PT X e (tB t):=by
 intro pins s σ H Q I hw
 refine isTrue_plain (thn (h pins s σ H _ I hw) fun v s1 ⟨x,H1,I1,r1,q1⟩=>?_) (he _)
 obtain⟨d,rfl,q⟩:=q1
 cases r1
 exact wpAny_truthy_bool ⟨H1,I1,q⟩
variable {tA tB':TT} {rest:List Expr}
def tAnd(t u:TT):TT:=fun σ H Q=>t σ H fun c H1=>if c=true then u σ H1 Q else Q false H1
def tOr(t u:TT):TT:=fun σ H Q=>t σ H fun c H1=>if c=true then Q true H1 else u σ H1 Q
def tNot(t:TT):TT:=fun σ H Q=>t σ H fun c H1=>Q (!c) H1
theorem pw_and1(ha:PT X a tA):PW X (.BoolOp .And [a] pos) tA:=by
 intro wh pins s σ H Q I h
 refine isTrue_and (thn (ha pins s σ H Q I h) fun c s1 e=>?_)
 cases c with
 | true=>exact isTrue_and_nil e
 | false=>exact e
theorem pw_or1(ha:PT X a tA):PW X (.BoolOp .Or [a] pos) tA:=by
 intro wh pins s σ H Q I h
 refine isTrue_or (thn (ha pins s σ H Q I h) fun c s1 e=>?_)
 cases c with
 | false=>exact isTrue_or_nil e
 | true=>exact e
theorem pw_and(ha:PT X a tA)(hb:PW X (.BoolOp .And (b::rest) pos) tB'):PW X (.BoolOp .And (a::b::rest) pos) (tAnd tA tB'):=by
 intro wh pins s σ H Q I h
 refine isTrue_and (thn (ha pins s σ H _ I h) fun c s1 ⟨H1,I1,q1⟩=>?_)
 cases c with
 | true=>exact hb wh pins s1 σ H1 Q I1 q1
 | false=>exact⟨H1,I1,q1⟩
theorem pw_or(ha:PT X a tA)(hb:PW X (.BoolOp .Or (b::rest) pos) tB'):PW X (.BoolOp .Or (a::b::rest) pos) (tOr tA tB'):=by
 intro wh pins s σ H Q I h
 refine isTrue_or (thn (ha pins s σ H _ I h) fun c s1 ⟨H1,I1,q1⟩=>?_)
 cases c with
 | true=>exact⟨H1,I1,q1⟩
 | false=>exact hb wh pins s1 σ H1 Q I1 q1
theorem pt_not(ha:PT X a tA):PT X (.UnaryOp .Not a pos) (tNot tA):=by
 intro pins s σ H Q I h
 exact isTrue_not (ha pins s σ H (fun c H1=>Q (!c) H1) I h)
def tAndV(ta tb:TE):TE:=fun σ H Q=>ta σ H fun x H1=>∃ c,x=.bl c/\if c=true then tb σ H1 Q else Q (.bl false) H1
def tOrV(ta tb:TE):TE:=fun σ H Q=>ta σ H fun x H1=>∃ c,x=.bl c/\if c=true then Q (.bl true) H1 else tb σ H1 Q
theorem pe_one{op}{t:TE}(h:PE X a t):PE X (.BoolOp op [a] pos) t:=fun pins s σ H Q I hw=>BoolOp_one (h pins s σ H Q I hw)
theorem pe_and(ha:PE X a ta)(hb:PE X (.BoolOp .And (b::rest) pos) tb):PE X (.BoolOp .And (a::b::rest) pos) (tAndV ta tb):=by
 intro pins s σ H Q I h
 refine BoolOp_and (thn (ha pins s σ H _ I h) fun v s1 ⟨x,H1,I1,r1,q1⟩=>?_)
 obtain⟨c,rfl,q1⟩:=q1
 cases r1
 refine wpAny_truthy_bool ?_
 cases c with
 | true=>exact hb pins s1 σ H1 Q I1 q1
 | false=>exact⟨.bl false,H1,I1,rfl,q1⟩
theorem pe_or(ha:PE X a ta)(hb:PE X (.BoolOp .Or (b::rest) pos) tb):PE X (.BoolOp .Or (a::b::rest) pos) (tOrV ta tb):=by
 intro pins s σ H Q I h
 refine BoolOp_or (thn (ha pins s σ H _ I h) fun v s1 ⟨x,H1,I1,r1,q1⟩=>?_)
 obtain⟨c,rfl,q1⟩:=q1
 cases r1
 refine wpAny_truthy_bool ?_
 cases c with
 | false=>exact hb pins s1 σ H1 Q I1 q1
 | true=>exact⟨.bl true,H1,I1,rfl,q1⟩
def tIf(t:TT)(ta tb:TE):TE:=fun σ H Q=>t σ H fun c H1=>if c=true then ta σ H1 Q else tb σ H1 Q
theorem pe_ifExp{c:Expr}(hc:PT X c tA)(ha:PE X a ta)(hb:PE X b tb):PE X (.IfExp c a b pos) (tIf tA ta tb):=by
 intro pins s σ H Q I h
 refine wpAny_IfExp (thn (hc pins s σ H _ I h) fun d s1 ⟨H1,I1,q1⟩=>?_)
 cases d with
 | true=>exact ha pins s1 σ H1 Q I1 q1
 | false=>exact hb pins s1 σ H1 Q I1 q1
end
end L2
namespace L2
def SqL(K:W.Frag)(H:Hp)(a:Addr)(xs:List V):Prop :=
 Rd H a (.lst xs) \/
  ∃ (o:Obj) (its:Array Value) (n:Nat),K.lookup a=some o/\o.cls=.type "list" /\ o.dict=none/\o.data=.seq its n/\its.size<=sizeLine/\Vals xs its.toList
def SqT(K:W.Frag)(H:Hp)(a:Addr)(xs:List V):Prop :=
 Rd H a (.tup xs) \/
  ∃ (o:Obj) (its:Array Value) (n:Nat),K.lookup a=some o/\o.cls=.type "tuple" /\ o.data=.seq its n/\its.size<=sizeLine/\Vals xs its.toList
def absV:Value->Option V
 | .none=>some .non
 | .bool b=>some (.bl b)
 | .int i _=>some (.int i)
 | .str x _=>some (.str x)
 | .bytes b _=>some (.byt b)
 | .float b _=>some (.flt b)
 | .ref a=>some (.ref a)
 | .type n=>some (.ty n)
 | _=>none
theorem RelV.abs{x:V}{u:Value}(r:RelV x u):absV u=some x:=by
 cases x with
 | non=>cases r;rfl
 | bl _=>cases r;rfl
 | int _=>obtain⟨t,rfl⟩:=r;rfl
 | str _=>obtain⟨t,rfl⟩:=r;rfl
 | byt _=>obtain⟨t,rfl⟩:=r;rfl
 | flt _=>obtain⟨t,rfl⟩:=r;rfl
 | ref _=>cases r;rfl
 | ty _=>cases r;rfl
theorem RelV.inj{x y:V}{u:Value}(r:RelV x u)(q:RelV y u):x=y:=Option.some.inj (r.abs.symm.trans q.abs)
theorem Vals.inj:∀ {xs ys:List V} {us:List Value},Vals xs us->Vals ys us->xs=ys
 | _,_,_,.nil,.nil=>rfl
 | _,_,_,.cons r t,.cons r' t'=>by rw[r.inj r',Vals.inj t t']
section
variable {X:Cx} {pins:List (Addr × Obj)} {σ:St} {H:Hp} {s:Shared} {a:Addr} {xs ys:List V}
theorem SqL.of{K:W.Frag}(h:H a=some (.lst xs)):SqL K H a xs:=.inl (.inl h)
theorem Inv.list(I:Inv X pins σ H s)(h:SqL X.K H a xs):∃ its:List Value,Vals xs its/\PlainL s.heap a its.toArray/\xs.length<=sizeLine:=by
 rcases h with h | ⟨o,its,n,hk,hc,hd,hs,hz,r⟩
 ·obtain ⟨z, its, n, r, e⟩ := h.ok I.hok
  exact⟨its,r,⟨_,n,e,rfl,rfl,rfl⟩,z⟩
 ·refine ⟨its.toList, r, ⟨o, n, I.kIn a o hk, hc, hd, by simpa using hs⟩, ?_⟩
  have e:=r.length
  simp only[Array.length_toList] at e
  lia
theorem Inv.tuple(I:Inv X pins σ H s)(h:SqT X.K H a xs):∃ its:List Value,Vals xs its/\IsTup s.heap a its.toArray/\xs.length<=sizeLine:=by
 rcases h with h | ⟨o,its,n,hk,hc,hs,hz,r⟩
 ·obtain ⟨z, its, r, p⟩ := h.ok I.hok
  exact⟨its,r,p,z⟩
 ·refine ⟨its.toList, r, ⟨o, I.kIn a o hk, hc, n, by simpa using hs⟩, ?_⟩
  have e:=r.length
  simp only[Array.length_toList] at e
  lia
theorem Inv.list_inj(I:Inv X pins σ H s)(h:SqL X.K H a xs)(h':SqL X.K H a ys):xs=ys:=by
 obtain⟨its,r,⟨o,n,e,_,_,d⟩,_⟩:=I.list h
 obtain⟨its',r',⟨o',n',e',_,_,d'⟩,_⟩:=I.list h'
 rw[e] at e';cases e'
 rw[d] at d'
 injection d' with d1 _
 have:its=its':=by simpa using congrArg Array.toList d1
 subst this
 exact r.inj r'
theorem Inv.tuple_inj(I:Inv X pins σ H s)(h:SqT X.K H a xs)(h':SqT X.K H a ys):xs=ys:=by
 obtain⟨its,r,⟨o,e,_,n,d⟩,_⟩:=I.tuple h
 obtain⟨its',r',⟨o',e',_,n',d'⟩,_⟩:=I.tuple h'
 rw[e] at e';cases e'
 rw[d] at d'
 injection d' with d1 _
 have:its=its':=by simpa using congrArg Array.toList d1
 subst this
 exact r.inj r'
end
abbrev Cx.wish(X:Cx)(E:Value->Shared->Prop):Cx:={ X with xe:=E }
abbrev Cx.nox(X:Cx):Cx:=X.wish fun _ _=>False
theorem Cx.Ok.wish{X:Cx}(ok:X.Ok)(E:Value->Shared->Prop):(X.wish E).Ok :=
 ⟨ok.mod,ok.kind,ok.glob,ok.blt,ok.above,ok.inj,ok.has,ok.cab,ok.hd,ok.frames,ok.stk,ok.exf,ok.bs,ok.bsz,ok.noex,ok.exfs,ok.funs,ok.frf⟩
theorem Cx.Ok.unwish{X:Cx}{E:Value->Shared->Prop}(ok:(X.wish E).Ok):X.Ok :=
 ⟨ok.mod,ok.kind,ok.glob,ok.blt,ok.above,ok.inj,ok.has,ok.cab,ok.hd,ok.frames,ok.stk,ok.exf,ok.bs,ok.bsz,ok.noex,ok.exfs,ok.funs,ok.frf⟩
section
variable {X:Cx} {pins:List (Addr × Obj)} {σ:St} {H:Hp} {s:Shared} {E:Value->Shared->Prop}
theorem Inv.wish(I:Inv X pins σ H s)(E:Value->Shared->Prop):Inv (X.wish E) pins σ H s:=⟨I.ok.wish E,I.os,I.bare,I.base,I.loc,I.cell,I.free,I.freeC,I.pin,I.hok,I.len⟩
theorem Inv.unwish(I:Inv (X.wish E) pins σ H s):Inv X pins σ H s:=⟨I.ok.unwish,I.os,I.bare,I.base,I.loc,I.cell,I.free,I.freeC,I.pin,I.hok,I.len⟩
theorem SP.unwish{D:Ends}{f:Flow}{s':Shared}(h:SP (X.wish E) pins D f s'):SP X pins D f s':=by
 cases f with
 | next=>obtain⟨σ',H',I,q⟩:=h;exact⟨σ',H',I.unwish,q⟩
 | brk=>obtain⟨σ',H',I,q⟩:=h;exact⟨σ',H',I.unwish,q⟩
 | cont=>obtain⟨σ',H',I,q⟩:=h;exact⟨σ',H',I.unwish,q⟩
 | ret u=>obtain⟨v,σ',H',I,r,q⟩:=h;exact⟨v,σ',H',I.unwish,r,q⟩
theorem PSs.nox{st:List Stmt}{t:TS}(h:PSs X.nox st t):PSs X st t:=fun pins s σ H D I hw =>
 wpAny_mono (h pins s σ H D (I.wish _) hw) (fun _ _ q=>q.unwish) fun _ _ z=>False.elim z
end
section
variable {X:Cx} {st:Stmt} {rest:List Stmt} {t u:TS} {e:Expr} {te:TE} {pos:Pos}
def tNext:TS:=fun D σ H=>D.nx σ H
def tSeq(t u:TS):TS:=fun D σ H=>t { D with nx:=u D } σ H
theorem pss_nil:PSs X [] tNext:=fun _ _ σ H _ I h=>wpAny_execs_nil ⟨σ,H,I,h⟩
theorem pss_cons(h1:PS X st t)(h2:PSs X rest u):PSs X (st::rest) (tSeq t u):=by
 intro pins s σ H D I h
 refine wpAny_execs_cons (thn (h1 pins s σ H { D with nx:=u D } I h) fun f s1 q=>?_)
 cases f with
 | next =>
  obtain⟨σ',H',I',q⟩:=q
  exact h2 pins s1 σ' H' D I' q
 | ret v=>exact q
 | brk=>exact q
 | cont=>exact q
theorem pss_one(h1:PS X st t):PSs X [st] t:=by
 intro pins s σ H D I h
 refine wpAny_execs_cons (thn (h1 pins s σ H D I h) fun f s1 q=>?_)
 cases f with
 | next=>exact wpAny_execs_nil q
 | ret v=>exact q
 | brk=>exact q
 | cont=>exact q
theorem Inv.quiet{pins:List (Addr × Obj)}{σ:St}{H:Hp}{s:Shared}(I:Inv X pins σ H s):interactive X.env=false:=by simp[interactive,I.ok.kind]
def tDrop(te:TE):TS:=fun D σ H=>te σ H fun _ H1=>D.nx σ H1
theorem ps_expr(he:PE X e te)(hs:swapsWith e none pos.line X.env=pure false:=by rfl):PS X (.Expr e pos) (tDrop te):=by
 intro pins s σ H D I h
 exact wpAny_Expr_any (thn (he pins s σ H _ I h) fun v s1 ⟨x,H1,I1,r1,q1⟩=>⟨σ,H1,I1,q1⟩) I.quiet hs
def tRet(te:TE):TS:=fun D σ H=>te σ H D.rt
theorem ps_ret(he:PE X e te):PS X (.Return (some e) pos) (tRet te):=by
 intro pins s σ H D I h
 exact wpAny_Return_some (thn (he pins s σ H _ I h) fun v s1 ⟨x,H1,I1,r1,q1⟩=>⟨x,σ,H1,I1,r1,q1⟩)
def tIfS(c:TT)(t u:TS):TS:=fun D σ H=>c σ H fun b H1=>if b=true then t D σ H1 else u D σ H1
theorem ps_if{c:Expr}{a b:List Stmt}{tc:TT}(hc:PT X c tc)(ha:PSs X a t)(hb:PSs X b u):PS X (.If c a b pos) (tIfS tc t u):=by
 intro pins s σ H D I h
 refine wpAny_If (thn (hc pins s σ H _ I h) fun d s1 ⟨H1,I1,q1⟩=>?_)
 cases d with
 | true=>exact ha pins s1 σ H1 D I1 q1
 | false=>exact hb pins s1 σ H1 D I1 q1
end
abbrev TG:=V->St->Hp->(St->Hp->Prop)->Prop
abbrev TGs:=List V->St->Hp->(St->Hp->Prop)->Prop
def PG(X:Cx)(target:Expr)(t:TG):Prop :=
 ∀ (pins:List (Addr × Obj)) (s:Shared) (σ:St) (H:Hp) (v:V) (u:Value) (Q:St->Hp->Prop),Inv X pins σ H s->RelV v u->t v σ H Q ->
  wpAny (model X.prog X.w) X.A (assign target X.env u) (fun _ s'=>∃ σ' H',Inv X pins σ' H' s'/\Q σ' H') X.xe s
def PGs(X:Cx)(ts:List Expr)(t:TGs):Prop :=
 ∀ (pins:List (Addr × Obj)) (s:Shared) (σ:St) (H:Hp) (vs:List V) (us:List Value) (Q:St->Hp->Prop),Inv X pins σ H s->Vals vs us->t vs σ H Q ->
  wpAny (model X.prog X.w) X.A (assignInOrder ((assignEach ts X.env).map (·.2)) us) (fun _ s'=>∃ σ' H',Inv X pins σ' H' s'/\Q σ' H') X.xe s
abbrev TSet:=V->V->V->Hp->(Hp->Prop)->Prop
def PSet(X:Cx)(t:TSet):Prop :=
 ∀ (pins:List (Addr × Obj)) (s:Shared) (σ:St) (H:Hp) (o i v:V) (ov iv u:Value) (Q:Hp->Prop),Inv X pins σ H s->RelV o ov->RelV i iv->RelV v u->t o i v H Q ->
  wpAny (model X.prog X.w) X.A (setItem ov iv u) (fun _ s'=>∃ H',Inv X pins σ H' s'/\Q H') X.xe s
abbrev TIp:=V->V->Hp->VK->Prop
def PIp(X:Cx)(op:Operator)(t:TIp):Prop :=
 ∀ (pins:List (Addr × Obj)) (s:Shared) (σ:St) (H:Hp) (x y:V) (v u:Value) (Q:VK),Inv X pins σ H s->RelV x v->RelV y u->t x y H Q ->
  wpAny (model X.prog X.w) X.A (inplaceOp op v u) (EP X pins σ Q) X.xe s
section
variable {X:Cx} {pos:Pos}
def gName(i:Nat):TG:=fun v σ H Q=>Q (σ.set i (some v)) H
theorem pg_name{i:Nat}{x:Str}(hN:X.N.Nodup)(hi:X.N[i]?=some x)(hx:Loc X.env.scope x)(hf:X.fn x=true\/X.env.scope.names.lookup x=some .local:=by first | exact .inl rfl | exact .inr rfl | assumption):PG X (.Name x pos) (gName i):=by
 intro pins s σ H v u Q I r h
 exact wpAny_assign_Name (store_ok I hN hi hx r (fun s' I'=>⟨_,H,I',h⟩) hf)
def gNil:TGs:=fun vs σ H Q=>vs=[]/\Q σ H
def gCons(t:TG)(u:TGs):TGs:=fun vs σ H Q=>∃ v r,vs=v::r/\t v σ H fun σ' H'=>u r σ' H' Q
theorem pgs_nil:PGs X [] gNil:=by
 intro pins s σ H vs us Q I r h
 obtain⟨e,h⟩:=h
 subst e
 cases r
 exact assignInOrder_nil ⟨σ,H,I,h⟩
theorem pgs_cons{e:Expr}{es:List Expr}{t:TG}{u:TGs}(h1:PG X e t)(h2:PGs X es u)
  (hs:(assignEach (e::es) X.env).map (·.2)=assign e X.env::(assignEach es X.env).map (·.2):=by rfl):PGs X (e::es) (gCons t u):=by
 intro pins s σ H vs us Q I r h
 obtain⟨v,vr,e1,h⟩:=h
 subst e1
 cases r with
 | cons r rr =>
  rw[hs]
  refine assignInOrder_cons (thn (h1 pins s σ H _ _ _ I r h) fun _ s1 ⟨σ1,H1,I1,q1⟩=>?_)
  exact h2 pins s1 σ1 H1 _ _ Q I1 rr q1
def gTup(K:W.Frag)(n:Nat)(t:TGs):TG:=fun v σ H Q=>∃ a xs,v=.ref a/\SqT K H a xs/\xs.length=n/\t xs σ H Q
theorem pg_tup{es:List Expr}{k:Nat}{t:TGs}{n:Nat}(hc:X.calm=true)(h:PGs X es t)
  (hn:(assignEach es X.env).length=n:=by rfl) (hst:(assignEach es X.env).findIdx? (·.1)=none:=by rfl):PG X (.Tuple es k pos) (gTup X.K n t):=by
 intro pins s σ H v u Q I r hw
 obtain⟨a,xs,e1,hq,hl,hw⟩:=hw
 subst e1
 cases r
 obtain⟨its,rv,ht,hz⟩:=I.tuple hq
 refine assign_Tuple_tuple (I.ok.hd hc) ht (by simp[hn,<- hl,rv.length]) hst fun h' hx=>?_
 have I1:Inv X pins σ H { s with heap:=h' }:=I.kept (t':=s.toks) fun b o e=>hx b o (Nat.ne_of_lt (Heap.lt_size e)) e
 exact h pins _ σ H xs _ Q I1 (by simpa using rv) hw
def gSub(to ti:TE)(t:TSet):TG:=fun v σ H Q=>to σ H fun o H1=>ti σ H1 fun i H2=>t o i v H2 fun H3=>Q σ H3
theorem pg_sub{o i:Expr}{to ti:TE}{t:TSet}(ho:PE X o to)(hi:PE X i ti)(hs:PSet X t)
  (ha : ∀ v, assign (.Subscript o i pos) X.env v = (do
   let ov <- holding [v] (eval o X.env)
   let iv <- holding [v,ov] (eval i X.env)
   standAt pos
   holding [v,ov,iv] (setItem ov iv v)
   release [v,ov,iv] []):=by intro _;rfl):PG X (.Subscript o i pos) (gSub to ti t):=by
 intro pins s σ H v u Q I r h
 rw[ha]
 refine wpAny_bind (wpAny_holding (thn (ho pins s σ H _ I h) fun ov s1 ⟨x,H1,I1,r1,q1⟩=>?_))
 refine wpAny_bind (wpAny_holding (thn (hi pins s1 σ H1 _ I1 q1) fun iv s2 ⟨y,H2,I2,r2,q2⟩=>?_))
 refine wpAny_bind (wpAny_standAt (wpAny_bind (wpAny_holding (thn (hs pins s2 σ H2 x y v ov iv u _ I2 r1 r2 r q2) fun _ s3 ⟨H3,I3,q3⟩=>?_))))
 exact wpAny_release ⟨σ,H3,I3,q3⟩
def tAsg(te:TE)(g:TG):TS:=fun D σ H=>te σ H fun x H1=>g x σ H1 D.nx
theorem ps_asg{tg e:Expr}{te:TE}{g:TG}(he:PE X e te)(hg:PG X tg g)(hs:swapsWithSole [tg] e pos.line X.env=pure false:=by rfl)(hw:swappedStores [tg] e X.env=pure none:=by rfl)
  (h1:(assignEach [tg] X.env).map (·.2)=[assign tg X.env]:=by rfl):PS X (.Assign [tg] e pos) (tAsg te g):=by
 intro pins s σ H D I h
 refine wpAny_Assign_stores (thn (he pins s σ H _ I h) fun v s1 ⟨x,H1,I1,r1,q1⟩=>?_) hs hw
 rw[h1]
 exact thn (hg pins s1 σ H1 x v _ I1 r1 q1) fun _ s2 q=>q
theorem ps_set{i:Nat}{x:Str}{e:Expr}{te:TE}{pos':Pos}(hN:X.N.Nodup)(hi:X.N[i]?=some x)(hx:Loc X.env.scope x)(he:PE X e te)(hs:swapsWith e (some (.Name x pos')) pos.line X.env=pure false:=by rfl)(hf:X.fn x=true\/X.env.scope.names.lookup x=some .local:=by first | exact .inl rfl | exact .inr rfl | assumption) :
  PS X (.Assign [.Name x pos'] e pos) (tAsg te (gName i)):=by
 intro pins s σ H D I h
 refine wpAny_Assign_Name (thn (he pins s σ H _ I h) fun v s1 ⟨y,H1,I1,r1,q1⟩=>?_) hs
 exact store_ok I1 hN hi hx r1 (fun s2 I2=>⟨_,H1,I2,q1⟩) hf
def tPar(i j:Nat)(ta:TA):TS:=fun D σ H=>ta σ H fun vs H1=>∃ v w,vs=[v,w]/\D.nx ((σ.set i (some v)).set j (some w)) H1
theorem ps_par{i j:Nat}{x y:Str}{a b:Expr}{ta:TA}{px py pt:Pos}{kt k2 pt2}(hc:X.calm=true)(hN:X.N.Nodup)(hi:X.N[i]?=some x)(hj:X.N[j]?=some y)(hij:i≠j)
  (hx:X.env.scope.names.lookup x=some .local) (hy:X.env.scope.names.lookup y=some .local) (ha:PA X [a,b] ta)
  (hw:swappedStores [.Tuple [.Name x px,.Name y py] kt pt] (.Tuple [a,b] k2 pt2) X.env=pure (some [x,y]))
  (hs:swapsWithSole [.Tuple [.Name x px,.Name y py] kt pt] (.Tuple [a,b] k2 pt2) pos.line X.env=pure false:=by rfl) :
  PS X (.Assign [.Tuple [.Name x px,.Name y py] kt pt] (.Tuple [a,b] k2 pt2) pos) (tPar i j ta):=by
 intro pins s σ H D I h
 rw[exec_Assign_arm]
 refine wpAny_bind (wpAny_standAt ?_)
 rw[hs]
 refine wpAny_bind (wpAny_pure ?_)
 rw[if_neg (by decide)]
 refine wpAny_bind (Tuple_ (thn (ha _ pins s σ H _ I h) fun us s1 ⟨vs,H1,I1,r1,q1⟩=>?_))
 obtain⟨v,w,e1,q1⟩:=q1
 subst e1
 obtain⟨u1,u2,rfl,rv,rw'⟩:∃ u1 u2,us=[u1,u2]/\RelV v u1/\RelV w u2:=by
  cases r1 with
  | cons p q =>
   cases q with
   | cons p' q' =>
    cases q'
    exact⟨_,_,rfl,p,p'⟩
 refine wpAny_newObj_type ?_ (by show 2<=sizeLine;decide)
 have I2:Inv X pins σ H1 { s1 with heap:=s1.heap.push { cls:=.type "tuple",data:=.seq [u1,u2].toArray } }:=I1.kept (t':=s1.toks) fun b o e=>Heap.get?_push_of_some _ e
 rw[hw]
 refine wpAny_bind (wpAny_pure ?_)
 show wpAny (model X.prog X.w) X.A (do rule "assign.swapped-stores";let items <- unpackItems (.ref s1.heap.objs.size) 2 none;assignInOrder [fun v=>bindName X.env y v,fun v=>bindName X.env x v] items.reverse;pure Flow.next) _ _ _
 refine wpAny_bind (wpAny_rule (wpAny_bind (unpackItems_tuple (items:=#[u1,u2]) (I.ok.hd hc) (IsTup.new s1.heap _) fun h' hx'=>?_)))
 have I3:=I2.kept (h':=h') (t':=s1.toks) fun b o e=>hx' b o (Nat.ne_of_lt (Heap.lt_size e)) e
 show wpAny _ _ (assignInOrder [fun v=>bindName X.env y v,fun v=>bindName X.env x v] [u2,u1] >>= fun _=>pure Flow.next) _ _ _
 refine wpAny_bind (assignInOrder_cons (wpAny_bindName (store_ok I3 hN hj (.inl hy) rw' (fun s2 I4=>?_) (.inr hy))))
 refine assignInOrder_cons (wpAny_bindName (store_ok I4 hN hi (.inl hx) rv (fun s3 I5=>assignInOrder_nil (wpAny_pure ?_)) (.inr hx)))
 rw[List.set_comm _ _ (Ne.symm hij)] at I5
 exact⟨_,H1,I5,q1⟩
def tAug(i:Nat)(te:TE)(ti:TIp):TS:=fun D σ H=>∃ x,σ[i]?=some (some x)/\te σ H fun y H1=>ti x y H1 fun z H2=>D.nx (σ.set i (some z)) H2
theorem ps_aug{i:Nat}{x:Str}{e:Expr}{te:TE}{op:Operator}{ti:TIp}{pos':Pos}(hN:X.N.Nodup)(hi:X.N[i]?=some x)(hx:Loc X.env.scope x)(he:PE X e te)(ho:PIp X op ti)(hf:X.fn x=true\/X.env.scope.names.lookup x=some .local:=by first | exact .inl rfl | exact .inr rfl | assumption) :
  PS X (.AugAssign (.Name x pos') op e pos) (tAug i te ti):=by
 intro pins s σ H D I h
 obtain⟨v,e1,h⟩:=h
 obtain⟨m,hn,hl⟩:=I.loc
 have vis:Vis X.env.scope x:=by rcases hx with k | k;exact .inl k;exact .inr (.inl k)
 obtain⟨u,r,l⟩:=hl i x v hi e1 vis
 refine wpAny_AugAssign_Name ?_
 have go:wpAny (model X.prog X.w) X.A (eval e X.env) (fun w s₂=>wpAny (model X.prog X.w) X.A (inplaceOp op u w) (fun r s₃=>wpAny (model X.prog X.w) X.A (storeName X.env x r) (fun _=>SP X pins D .next) X.xe s₃) X.xe s₂) X.xe s:=by
  refine thn (he pins s σ H _ I h) fun w s1 ⟨y,H1,I1,r1,q1⟩=>?_
  refine thn (ho pins s1 σ H1 v y u w _ I1 r r1 q1) fun z s2 ⟨zv,H2,I2,r2,q2⟩=>?_
  exact store_ok I2 hN hi hx r2 (fun s3 I3=>⟨_,H2,I3,q2⟩) hf
 rcases l with ⟨hk,hm⟩ | ⟨hk,c,hc,hcell⟩
 ·exact wpAny_loadName_local I.ok.kind hk hn hm go
 ·rcases hk with hk | hk
  ·exact wpAny_loadName_cell I.ok.kind hk hc hcell go
  ·rcases hx with k | k
   ·have : X.env.scope.names.lookup x = some .free := hk
    rw[k] at this;cases this
   ·have : X.env.scope.names.lookup x = some .free := hk
    rw[k] at this;cases this
def ipI(f:Int->Int->Int):TIp:=fun x y H Q=>∃ i j,x=.int i/\y=.int j/\Q (.int (f i j)) H
theorem ip_add:PIp X .Add (ipI fun i j=>i+j):=by
 intro pins s σ H x y v u Q I r1 r2 h
 obtain⟨i,j,e1,e2,q⟩:=h
 subst e1;subst e2
 obtain⟨t,rfl⟩:=r1
 obtain⟨t',rfl⟩:=r2
 exact iadd_int ⟨.int _,H,I.tok _,⟨_,rfl⟩,q⟩
end
section
variable {X:Cx} {pos:Pos}
def tWhile(c:TT)(tb:TS):TS:=fun D σ H=>∃ W:Nat->St->Hp->Prop,(∃ m,W m σ H)/\∀ m σ H,W m σ H ->
 c σ H fun b H1=>if b=true then ∃ N:St->Hp->Prop,(∀ σ' H',N σ' H'->∃ m',m'<m/\W m' σ' H')/\tb { D with nx:=N,ct:=N,bk:=D.nx } σ H1 else D.nx σ H1
theorem ps_while{c:Expr}{body:List Stmt}{tc:TT}{tb:TS}(hp:PassesOwn (model X.prog X.w) X.A X.env X.xe)(hc:PT X c tc)(hb:PSs X body tb):PS X (.While c body [] pos) (tWhile tc tb):=by
 intro pins s σ H D I h
 obtain⟨W,⟨m0,w0⟩,turn⟩:=h
 refine wpAny_While (codeAny_whileLoop (fun n s'=>∃ σ' H',Inv X pins σ' H' s'/\W n σ' H') ?_ m0 ⟨σ,H,I,w0⟩)
 rintro n s1 ⟨σ1,H1,I1,w1⟩
 refine wpAny_passesOwn hp (thn (hc pins s1 σ1 H1 _ I1 (turn n σ1 H1 w1)) fun b s2 ⟨H2,I2,q2⟩=>?_)
 cases b with
 | true =>
  obtain⟨N,hN,q2⟩:=q2
  rw[if_pos rfl]
  refine wpAny_passesOwn hp (thn (hb pins s2 σ1 H2 _ I2 q2) fun f s3 q3=>?_)
  cases f with
  | next =>
   obtain⟨σ3,H3,I3,n3⟩:=q3
   obtain⟨m',hm,w3⟩:=hN σ3 H3 n3
   exact⟨m',hm,σ3,H3,I3,w3⟩
  | cont =>
   obtain⟨σ3,H3,I3,n3⟩:=q3
   obtain⟨m',hm,w3⟩:=hN σ3 H3 n3
   exact⟨m',hm,σ3,H3,I3,w3⟩
  | brk=>exact q3
  | ret v=>exact q3
 | false =>
  rw[if_neg Bool.false_ne_true]
  exact wpAny_execs_nil ⟨σ1,H2,I2,q2⟩
end
structure It where
 go:Nat->Hp->Prop
 yld:Nat->Hp->V->Hp->Prop
 stop:Nat->Hp->Prop
def FpOk(X:Cx)(pins:List (Addr × Obj))(H:Hp)(b:Addr):Prop :=
 H b=none/\b≠X.env.locals/\b ∉ X.fs/\(b∈X.ex\/X.s₀.heap.objs.size<=b)/\(∀ x c,X.env.cells.lookup x=some c->c≠b)/\∀ p∈X.pn++pins,p.1≠b
theorem Inv.fpOk{X:Cx}{pins:List (Addr × Obj)}{σ:St}{H H':Hp}{s:Shared}{b:Addr}(I:Inv X pins σ H s)(hb:s.heap.objs.size<=b)(hn:H' b=none):FpOk X pins H' b:=by
 refine⟨hn,Nat.ne_of_gt (Nat.lt_of_lt_of_le I.lt hb),I.nofs hb,.inr (Nat.le_trans I.sz hb),fun x c e z=>?_,fun p hp z=>?_⟩
 ·obtain ⟨v, q⟩ := I.cell x c e
  exact absurd (Nat.lt_of_lt_of_le q.lt (by rw[z];exact hb)) (Nat.lt_irrefl _)
 ·exact absurd (Nat.lt_of_lt_of_le (Heap.lt_size (I.pin p hp).1) (by rw[z];exact hb)) (Nat.lt_irrefl _)
structure Turn(P:Program)(w:World)(K:W.Frag)(tg:Expr)(J:It)(fp:List Addr)(it:Addr)(tn:Nat->Heap->Prop):Prop where
 mem:it∈fp
 obj:∀ i h,tn i h->∀ b∈fp,∃ o,h.get? b=some o/\∀ v,o.data≠.cell v
 keep:∀ i h h',tn i h->(∀ b∈fp,∀ o,h.get? b=some o->h'.get? b=some o)->tn i h'
 item:∀ (X:Cx),X.prog=P->X.w=w->X.K=K->X.calm=true->∀ (i:Nat) (pins:List (Addr × Obj)) (s:Shared) (σ:St) (H:Hp) (E:Value->Shared->Prop),Inv X pins σ H s->(∀ b∈fp,FpOk X pins H b)->tn i s.heap->J.go i H ->
  wpAny (model P w) X.A (pyNext (.ref it)) (fun r s1=>∃ u,r=some u /\
   wpAny (model P w) X.A (letOwnedTupleGo tg (.ref it) u) (fun _ s2=>∃ x H',Inv X pins σ H' s2/\RelV x u/\J.yld i H x H'/\tn (i+1) s2.heap/\∀ b∈fp,H' b=none) E s1) E s
 done:∀ (X:Cx),X.prog=P->X.w=w->X.K=K->X.calm=true->∀ (i:Nat) (pins:List (Addr × Obj)) (s:Shared) (σ:St) (H:Hp) (E:Value->Shared->Prop),Inv X pins σ H s->(∀ b∈fp,FpOk X pins H b)->tn i s.heap->J.stop i H ->
  wpAny (model P w) X.A (pyNext (.ref it)) (fun r s1=>r=none/\Inv X pins σ H s1) E s
 self:∀ (A:Around) (i:Nat) (s:Shared) (Q:Value->Shared->Prop) (E:Value->Shared->Prop),tn i s.heap->Q (.ref it) s->wpAny (model P w) A (pyIter (.ref it)) Q E s
abbrev TI:=St->Hp->(It->Hp->Prop)->Prop
def PIE(X:Cx)(pins:List (Addr × Obj))(σ:St)(tg:Expr)(R:It->Hp->Prop)(itv:Value)(s2:Shared):Prop :=
 ∃ (it:Addr) (fp:List Addr) (tn:Nat->Heap->Prop) (J:It) (H':Hp),itv=.ref it/\Inv X pins σ H' s2/\Turn X.prog X.w X.K tg J fp it tn/\tn 0 s2.heap/\(∀ b∈fp,FpOk X pins H' b)/\R J H'
def PI(X:Cx)(tg iter:Expr)(wi:TI):Prop :=
 ∀ (pins:List (Addr × Obj)) (s:Shared) (σ:St) (H:Hp) (R:It->Hp->Prop),Inv X pins σ H s->wi σ H R ->
  wpAny (model X.prog X.w) X.A (eval iter X.env) (fun v s1=>wpAny (model X.prog X.w) X.A (pyIter v) (PIE X pins σ tg R) X.xe s1) X.xe s
theorem go_of{M : Model}{A : Around}{E : Value -> Shared -> Prop}{s : Shared}{tg : Expr}{it : Addr}{u : Value}{o : Obj}{n : String}{vs : Array Value}{Q : Unit -> Shared -> Prop}(ho : s.heap.get? it = some o)(hc : o.cls = .type n)(hd : o.data = .fields vs)
    (hn:["enumerate", "zip", "dict_itemiterator", "dict_reverseitemiterator", "odict_iterator", "itertools.zip_longest", "itertools.pairwise"].contains n=false) (hQ:Q () s):wpAny M A (letOwnedTupleGo tg (.ref it) u) Q E s:=by
  unfold letOwnedTupleGo
  cases tg <;> first
    | exact wpAny_pure hQ
    | (cases u<;>first
        | exact wpAny_pure hQ
        | (refine wpAny_bind (wpAny_load ho ?_)
           rw[hc,hd]
           show wpAny M A (if (["enumerate", "zip", "dict_itemiterator", "dict_reverseitemiterator", "odict_iterator", "itertools.zip_longest", "itertools.pairwise"].contains n&&vs[0]? == some (rawInt _))=true then _ else _) Q E s
           rw[if_neg (by intro h;rw[hn,Bool.false_and] at h;cases h)]
           exact wpAny_pure hQ))
def Itl(K:W.Frag)(a:Addr):It :=
 ⟨fun i H=>∃ xs x,SqL K H a xs/\xs[i]?=some x,fun i H x H'=>H'=H/\∀ xs,SqL K H a xs->xs[i]?=some x,fun i H=>∃ xs,SqL K H a xs/\xs.length<=i⟩
def Itt(K:W.Frag)(a:Addr):It :=
 ⟨fun i H=>∃ xs x,SqT K H a xs/\xs[i]?=some x,fun i H x H'=>H'=H/\∀ xs,SqT K H a xs->xs[i]?=some x,fun i H=>∃ xs,SqT K H a xs/\xs.length<=i⟩
def Itr(lo:Int)(n:Nat):It:=⟨fun i _=>i<n,fun i H x H'=>H'=H/\x=.int (lo+i),fun i _=>n<=i⟩
theorem turn_list{P:Program}{w:World}{K:W.Frag}{tg:Expr}(a it:Addr):Turn P w K tg (Itl K a) [it] it (fun i h=>h.IsListIter it a i) where
 mem:=by simp
 obj:=fun i h st b hb=>by
  have e:b=it:=by simpa using hb
  subst e
  obtain⟨o,e,c,d⟩:=st
  exact⟨o,e,fun v z=>by rw[d] at z;cases z⟩
 keep:=fun i h h' st k=>st.at fun o e=>k it (by simp) o e
 item:=by
  intro X hP hw hK hc i pins s σ H E I hf st hg
  subst hP hw hK
  obtain⟨xs,x,hq,hx⟩:=hg
  obtain⟨its,rv,p,hz⟩:=I.list hq
  obtain⟨u,hu,ru⟩:=rv.get hx
  obtain⟨f0,f1,f2,f3,f4,f5⟩:=hf it (by simp)
  refine wpAny_pyNext_list_item st p.isList (x:=u) (by simpa using hu) fun h' st' sb=>?_
  have I1:Inv X pins σ H { s with heap:=h' }:=I.turned (t':=s.toks) (fun b o hb e=>(sb.2 b hb).trans e) f0 f1 f3 f4 f5
  obtain⟨o,e,c,d⟩:=id st'
  exact⟨u,rfl,go_of (s:={ s with heap:=h' }) e c d (by decide) ⟨x,H,I1,ru,⟨rfl,fun ys hy=>by rw[I.list_inj hy hq];exact hx⟩,st',fun b hb=>(hf b hb).1⟩⟩
 done:=by
  intro X hP hw hK hc i pins s σ H E I hf st hg
  subst hP hw hK
  obtain⟨xs,hq,hx⟩:=hg
  obtain⟨its,rv,p,hz⟩:=I.list hq
  obtain⟨f0,f1,f2,f3,f4,f5⟩:=hf it (by simp)
  have hl:=rv.length
  exact wpAny_pyNext_list_end (I.ok.hd hc) st p.isList (by simp;lia) fun h' eb=>⟨rfl,I.turned (t':=s.toks) (fun b o hb e=>eb b o hb e) f0 f1 f3 f4 f5⟩
 self:=fun _ _ _ _ _ st h=>wpAny_pyIter_listiter st h
theorem turn_tuple{P:Program}{w:World}{K:W.Frag}{tg:Expr}(a it:Addr):Turn P w K tg (Itt K a) [it] it (fun i h=>h.IsTupleIter it a i) where
 mem:=by simp
 obj:=fun i h st b hb=>by
  have e:b=it:=by simpa using hb
  subst e
  obtain⟨o,e,c,d⟩:=st
  exact⟨o,e,fun v z=>by rw[d] at z;cases z⟩
 keep:=fun i h h' st k=>st.at fun o e=>k it (by simp) o e
 item:=by
  intro X hP hw hK hc i pins s σ H E I hf st hg
  subst hP hw hK
  obtain⟨xs,x,hq,hx⟩:=hg
  obtain⟨its,rv,p,hz⟩:=I.tuple hq
  obtain⟨u,hu,ru⟩:=rv.get hx
  obtain⟨f0,f1,f2,f3,f4,f5⟩:=hf it (by simp)
  refine wpAny_pyNext_tuple_item st (show s.heap.IsTuple a its.toArray from p) (x:=u) (by simpa using hu) fun h' st' sb=>?_
  have I1:Inv X pins σ H { s with heap:=h' }:=I.turned (t':=s.toks) (fun b o hb e=>(sb.2 b hb).trans e) f0 f1 f3 f4 f5
  obtain⟨o,e,c,d⟩:=id st'
  exact⟨u,rfl,go_of (s:={ s with heap:=h' }) e c d (by decide) ⟨x,H,I1,ru,⟨rfl,fun ys hy=>by rw[I.tuple_inj hy hq];exact hx⟩,st',fun b hb=>(hf b hb).1⟩⟩
 done:=by
  intro X hP hw hK hc i pins s σ H E I hf st hg
  subst hP hw hK
  obtain⟨xs,hq,hx⟩:=hg
  obtain⟨its,rv,p,hz⟩:=I.tuple hq
  obtain⟨f0,f1,f2,f3,f4,f5⟩:=hf it (by simp)
  have hl:=rv.length
  exact wpAny_pyNext_tuple_end (I.ok.hd hc) st (show s.heap.IsTuple a its.toArray from p) (by simp;lia) fun h' eb=>⟨rfl,I.turned (t':=s.toks) (fun b o hb e=>eb b o hb e) f0 f1 f3 f4 f5⟩
 self:=fun _ _ _ _ _ st h=>wpAny_pyIter_tupleiter st h
theorem turn_range{P:Program}{w:World}{K:PySem.W.Frag}{tg:Expr}(it:Addr)(lo:Int)(n:Nat):Turn P w K tg (Itr lo n) [it] it (fun i h=>IsRangeIter h it (lo+(i:Nat)*1) ((n:Int)-(i:Nat)) 1) where
 mem:=by simp
 obj:=fun i h st b hb=>by
  have e:b=it:=by simpa using hb
  subst e
  exact⟨_,st,fun v z=>by
   have z':Data.fields _=Data.cell v:=z
   cases z'⟩
 keep:=fun i h h' st k=>k it (by simp) _ st
 item:=by
  intro X hP hw hK hc i pins s σ H E I hf st hg
  subst hP hw hK
  obtain⟨f0,f1,f2,f3,f4,f5⟩:=hf it (by simp)
  have W:=Walks.range (prog:=X.prog) (w:=X.w) (I.ok.hd hc) it lo 1 n
  refine W.item i s _ _ hg st fun v h' tk hv st' kk=>?_
  obtain⟨t,rfl⟩:=hv
  have I1:Inv X pins σ H { s with heap:=h',toks:=tk }:=I.turned (fun b o hb e=>kk b o (by simpa using hb) e) f0 f1 f3 f4 f5
  refine⟨_,rfl,go_of (s:={ s with heap:=h',toks:=tk }) (n := "range_iterator") st' rfl rfl (by decide) ⟨.int (lo+i),H,I1,⟨t,?_⟩,⟨rfl,rfl⟩,st',fun b hb=>(hf b hb).1⟩⟩
  rw[Int.mul_one]
 done:=by
  intro X hP hw hK hc i pins s σ H E I hf st hg
  subst hP hw hK
  obtain⟨f0,f1,f2,f3,f4,f5⟩:=hf it (by simp)
  exact wpAny_pyNext_range_end (I.ok.hd hc) st (by have:n<=i:=hg;lia) fun h' eb=>⟨rfl,I.turned (t':=s.toks) (fun b o hb e=>eb b o hb e) f0 f1 f3 f4 f5⟩
 self:=fun _ _ _ _ _ st h=>wpAny_pyIter_rangeiter st h
end L2
namespace L2
section
variable {X:Cx} {tg:Expr}
theorem range_it{pins:List (Addr × Obj)}{σ:St}{H:Hp}{s:Shared}{R:It->Hp->Prop}{E:Value->Shared->Prop}{lo hi:Int}{t u v:Tok}{tk:Nat}(I:Inv X pins σ H s)(h1:-(2^62)<=lo)(h2:lo<2^62)(h3:-(2^62)<=hi)(h4:hi<2^62)
  (q:R (Itr lo (hi-lo).toNat) H):wpAny (model X.prog X.w) X.A (pyIter (.ref s.heap.objs.size)) (PIE X pins σ tg R) E { s with heap:=s.heap.push { cls:=.type "range",data:=.fields #[.int lo t,.int hi u,.int 1 v] },toks:=tk }:=by
 refine wpAny_pyIter_range (IsRange.new ..) (small_one h1 h2 h3 h4) ?_
 have I1:Inv X pins σ H { s with heap:=s.heap.push { cls:=.type "range",data:=.fields #[.int lo t,.int hi u,.int 1 v] },toks:=tk }:=I.kept fun b o e=>Heap.get?_push_of_some _ e
 refine⟨(s.heap.push { cls:=.type "range",data:=.fields #[.int lo t,.int hi u,.int 1 v] }).objs.size,[(s.heap.push { cls:=.type "range",data:=.fields #[.int lo t,.int hi u,.int 1 v] }).objs.size],_,_,H,rfl,
  I1.kept (t':=tk) fun b o e=>Heap.get?_push_of_some _ e,turn_range _ lo (hi-lo).toNat,?_,fun b hb=>?_,q⟩
 ·have e1 : lo + ((0 : Nat) : Int) * 1 = lo := by simp
  have e2:(((hi-lo).toNat:Nat):Int)-((0:Nat):Int)=Builtin.Range.rangeSize lo hi 1:=by rw[rangeSize_one];split<;>lia
  show IsRangeIter _ _ (lo+((0:Nat):Int)*1) ((((hi-lo).toNat:Nat):Int)-((0:Nat):Int)) 1
  rw[e1,e2]
  exact Heap.get?_push_size _ rfl
 ·have e : b = (s.heap.push { cls := .type "range", data := .fields #[.int lo t, .int hi u, .int 1 v] }).objs.size := by simpa using hb
  subst e
  exact I1.fpOk (Nat.le_refl _) (I1.hok.fresh (Nat.le_refl _))
def iRng1(ta:TA):TI:=fun σ H R=>ta σ H fun vs H1=>∃ j:Int,vs=[.int j]/\-(2^62)<=j/\j<2^62/\R (Itr 0 j.toNat) H1
theorem pi_range1{a:Expr}{ta:TA}{p pos:Pos}(hg:Gl X "range")(hm:X.mg "range" = none)(ha:PA X [a] ta)(hs:starEach [a] X.env=[(false,eval a X.env)]:=by rfl):PI X tg (.Call (.Name "range" p) [a] [] pos) (iRng1 ta):=by
 intro pins s σ H R I h
 refine Call_ (ld_blt I hg hm boot_range (PyProof.Rows.callWith_type1 (thn (ha pos pins s σ H _ I h) fun us s1 ⟨vs,H1,I1,r1,q1⟩=>?_) hs rfl))
 obtain⟨j,e,q1,q2,q⟩:=q1
 subst e
 cases r1 with
 | cons r rr =>
  cases rr
  obtain⟨t,rfl⟩:=r
  exact call_range_1 (range_it I1 (by lia) (by lia) q1 q2 (by simpa using q))
def tFor(wi:TI)(g:TG)(tb:TS):TS:=fun D σ H=>wi σ H fun J H1=>∃ W:Nat->Nat->St->Hp->Prop,(∃ m,W 0 m σ H1)/\∀ i m σ H,W i m σ H ->
 (J.stop i H/\D.nx σ H)\/(J.go i H/\∃ N:St->Hp->Prop,(∀ σ' H',N σ' H'->∃ m',m'<m/\W (i+1) m' σ' H')/\∀ x H',J.yld i H x H'->g x σ H' fun σ2 H2=>tb { D with nx:=N,ct:=N,bk:=D.nx } σ2 H2)
def pinsAt(fp:List Addr)(h:Heap):List (Addr × Obj):=fp.filterMap fun b=>(h.get? b).map fun o=>(b,o)
theorem mem_pinsAt{fp:List Addr}{h:Heap}{b:Addr}{o:Obj}(hb:b∈fp)(e:h.get? b=some o):(b,o)∈pinsAt fp h:=List.mem_filterMap.mpr ⟨b,hb,by rw[e];rfl⟩
theorem of_pinsAt{fp:List Addr}{h:Heap}{p:Addr × Obj}(hp:p∈pinsAt fp h):p.1∈fp/\h.get? p.1=some p.2:=by
 obtain⟨b,hb,e⟩:=List.mem_filterMap.mp hp
 cases q:h.get? b with
 | none=>rw[q] at e;cases e
 | some o =>
  rw[q] at e
  have e':(b,o)=p:=Option.some.inj e
  subst e'
  exact⟨hb,q⟩
theorem Inv.pinned{pins:List (Addr × Obj)}{σ:St}{H:Hp}{s:Shared}{fp:List Addr}(I:Inv X pins σ H s)(hf:∀ b∈fp,FpOk X pins H b)(ho:∀ b∈fp,∃ o,s.heap.get? b=some o/\∀ v,o.data≠.cell v):Inv X (pins++pinsAt fp s.heap) σ H s :=
 I.pins_of fun p hp=>(List.mem_append.mp hp).elim (fun z=>I.pin p (mem_append_right _ z)) fun z=>by
  obtain⟨hb,e⟩:=of_pinsAt z
  obtain⟨f0,f1,f2,_⟩:=hf p.1 hb
  obtain⟨o,e',d⟩:=ho p.1 hb
  rw[e] at e';cases e'
  exact⟨e,f0,f1,f2,d⟩
theorem Inv.unpinned{pins pl:List (Addr × Obj)}{σ:St}{H:Hp}{s:Shared}(I:Inv X (pins++pl) σ H s):Inv X pins σ H s:=I.pins_of fun p hp=>I.pin p (mem_append_right _ (mem_append_left _ hp))
theorem ps_for{iter:Expr}{body:List Stmt}{wi:TI}{g:TG}{tb:TS}{pos:Pos}(hp:PassesOwn (model X.prog X.w) X.A X.env X.xe)(hc:X.calm=true)(hi:PI X tg iter wi)(hg:PG X tg g)(hb:PSs X body tb)
  (hs:∀ x,foldedSetIterable iter X.env x=pure x:=by intro _;rfl):PS X (.For tg iter body [] pos) (tFor wi g tb):=by
 intro pins s σ H D I h
 refine wpAny_For (thn (hi pins s σ H _ I h) fun v s1 h1=>thn h1 fun itv s2 h2=>?_) hs
 obtain⟨it,fp,tn,J,H2,e,I2,T,st2,f2,W,⟨m0,w0⟩,turn⟩:=h2
 subst e
 have stat:∀ {H':Hp},(∀ b∈fp,H' b=none)->∀ b∈fp,FpOk X pins H' b:=fun hn b hb=>⟨hn b hb,(f2 b hb).2⟩
 refine codeAny_forLoop_any (fun n s'=>∃ i σ' H',Inv X pins σ' H' s'/\tn i s'.heap/\(∀ b∈fp,H' b=none)/\W i n σ' H') ?_ m0 ⟨0,σ,H2,I2,st2,fun b hb=>(f2 b hb).1,w0⟩
 rintro n s3 ⟨i,σ3,H3,I3,st3,fr3,w3⟩
 rcases turn i n σ3 H3 w3 with ⟨stop,qn⟩ | ⟨go,N,hN,step⟩
 ·refine wpAny_passesOwn hp (thn (T.done X rfl rfl rfl hc i pins s3 σ3 H3 X.xe I3 (stat fr3) st3 stop) fun r s4 ⟨hr, I4⟩ => ?_)
  subst hr
  exact wpAny_execs_nil ⟨σ3,H3,I4,qn⟩
 ·refine wpAny_passesOwn hp (thn (T.item X rfl rfl rfl hc i pins s3 σ3 H3 X.xe I3 (stat fr3) st3 go) fun r s4 ⟨u, hr, h4⟩ => ?_)
  subst hr
  refine wpAny_passesOwn hp (thn h4 fun _ s5 ⟨x,H5,I5,r5,y5,st5,fr5⟩=>?_)
  have I5':=I5.pinned (stat fr5) (T.obj _ _ st5)
  refine wpAny_passesOwn hp (thn (hg _ s5 σ3 H5 x u _ I5' r5 (step x H5 y5)) fun _ s6 ⟨σ6,H6,I6,q6⟩=>?_)
  refine wpAny_passesOwn hp (thn (hb _ s6 σ6 H6 _ I6 q6) fun f s7 q7=>?_)
  have again:∀ {σ7:St} {H7:Hp},Inv X (pins++pinsAt fp s5.heap) σ7 H7 s7->N σ7 H7->∃ m,m<n/\∃ i σ' H',Inv X pins σ' H' s7/\tn i s7.heap/\(∀ b∈fp,H' b=none)/\W i m σ' H':=fun {σ7 H7} I7 n7=>by
   obtain⟨m',hm,w7⟩:=hN σ7 H7 n7
   refine⟨m',hm,i+1,σ7,H7,I7.unpinned,T.keep _ _ _ st5 fun b hb o e=>(I7.pin (b,o) (mem_append_right _ (mem_append_right _ (mem_pinsAt hb e)))).1,fun b hb=>?_,w7⟩
   obtain⟨o,e,d⟩:=T.obj _ _ st5 b hb
   exact(I7.pin (b,o) (mem_append_right _ (mem_append_right _ (mem_pinsAt hb e)))).2.1
  cases f with
  | next=>obtain⟨σ7,H7,I7,n7⟩:=q7;exact again I7 n7
  | cont=>obtain⟨σ7,H7,I7,n7⟩:=q7;exact again I7 n7
  | brk=>obtain⟨σ7,H7,I7,q7⟩:=q7;exact⟨σ7,H7,I7.unpinned,q7⟩
  | ret v=>obtain⟨x7,σ7,H7,I7,r7,q7⟩:=q7;exact⟨x7,σ7,H7,I7.unpinned,r7,q7⟩
end
end L2
namespace L2
abbrev R2:=V->V->Hp->VK->Prop
def OpR(X:Cx)(f:Value->Value->Sem Value)(r:R2):Prop :=
 ∀ (pins:List (Addr × Obj)) (s:Shared) (σ:St) (H:Hp) (x y:V) (v u:Value) (Q:VK),Inv X pins σ H s->RelV x v->RelV y u->r x y H Q ->
  wpAny (model X.prog X.w) X.A (f v u) (EP X pins σ Q) X.xe s
def UnR(X:Cx)(f:Value->Sem Value)(r:V->Hp->VK->Prop):Prop :=
 ∀ (pins:List (Addr × Obj)) (s:Shared) (σ:St) (H:Hp) (x:V) (v:Value) (Q:VK),Inv X pins σ H s->RelV x v->r x H Q ->
  wpAny (model X.prog X.w) X.A (f v) (EP X pins σ Q) X.xe s
def CallR(X:Cx)(f:Value)(r:List V->Hp->VK->Prop):Prop :=
 ∀ (pins:List (Addr × Obj)) (s:Shared) (σ:St) (H:Hp) (xs:List V) (us:List Value) (Q:VK),Inv X pins σ H s->Vals xs us->r xs H Q ->
  wpAny (model X.prog X.w) X.A (call f us) (EP X pins σ Q) X.xe s
def tOp(r:R2)(ta tb:TE):TE:=fun σ H Q=>ta σ H fun x H1=>tb σ H1 fun y H2=>r x y H2 Q
def tUn(r:V->Hp->VK->Prop)(ta:TE):TE:=fun σ H Q=>ta σ H fun x H1=>r x H1 Q
def rI(C:Int->Int->Prop)(g:Int->Int->V):R2:=fun x y H Q=>∃ i j,x=.int i/\y=.int j/\C i j/\Q (g i j) H
def rI0(g:Int->Int->V):R2:=fun x y H Q=>∃ i j,x=.int i/\y=.int j/\Q (g i j) H
def rU(g:Int->V):V->Hp->VK->Prop:=fun x H Q=>∃ i,x=.int i/\Q (g i) H
section
variable {X:Cx} {a b c:Expr} {ta tb tc:TE} {pos:Pos}
theorem binT(ha:PE X a ta)(hb:PE X b tb){pins:List (Addr × Obj)}{s:Shared}{σ:St}{H:Hp}{R:V->V->Hp->Prop}(I:Inv X pins σ H s)
  (h:ta σ H fun x H1=>tb σ H1 fun y H2=>R x y H2) {Q:Value->Shared->Prop} {f:Value->Value->Sem Value}
  (hf:∀ v u s2 x y H2,Inv X pins σ H2 s2->RelV x v->RelV y u->R x y H2->wpAny (model X.prog X.w) X.A (f v u) Q X.xe s2) :
  wpAny (model X.prog X.w) X.A (eval a X.env) (fun v s₁=>wpAny (model X.prog X.w) X.A (eval b X.env) (fun u s₂=>wpAny (model X.prog X.w) X.A (f v u) Q X.xe s₂) X.xe s₁) X.xe s:=by
 refine thn (ha pins s σ H _ I h) fun v s1 ⟨x,H1,I1,r1,q1⟩=>?_
 refine thn (hb pins s1 σ H1 _ I1 q1) fun u s2 ⟨y,H2,I2,r2,q2⟩=>?_
 exact hf v u s2 x y H2 I2 r1 r2 q2
theorem pe_op{op:Operator}{r:R2}(ho:OpR X (binaryOp op) r)(ha:PE X a ta)(hb:PE X b tb):PE X (.BinOp a op b pos) (tOp r ta tb):=by
 intro pins s σ H Q I h
 exact wpAny_BinOp (binT ha hb I h fun v u s2 x y H2 I2 rx ry q=>ho pins s2 σ H2 x y v u Q I2 rx ry q)
theorem pe_un{op:UnaryOp}{r:V->Hp->VK->Prop}(ho:UnR X (unaryOp op) r)(ha:PE X a ta):PE X (.UnaryOp op a pos) (tUn r ta):=by
 intro pins s σ H Q I h
 exact UnaryOp_ (thn (ha pins s σ H _ I h) fun v s1 ⟨x,H1,I1,r1,q1⟩=>ho pins s1 σ H1 x v Q I1 r1 q1)
theorem opI{f:Value->Value->Sem Value}{C:Int->Int->Prop}{g:Int->Int->Int}
  (rule:∀ (i j:Int) (t u:Tok) (s:Shared) (Q:Value->Shared->Prop) (E:Value->Shared->Prop),C i j->Q (.int (g i j) s.toks) { s with toks:=s.toks+1 }->wpAny (model X.prog X.w) X.A (f (.int i t) (.int j u)) Q E s) :
  OpR X f (rI C fun i j=>.int (g i j)):=by
 intro pins s σ H x y v u Q I rx ry h
 obtain⟨i,j,rfl,rfl,hc,q⟩:=h
 obtain⟨t,rfl⟩:=rx
 obtain⟨t',rfl⟩:=ry
 exact rule i j t t' s _ _ hc ⟨.int (g i j),H,I.tok _,⟨_,rfl⟩,q⟩
theorem opI0{f:Value->Value->Sem Value}{g:Int->Int->Int}
  (rule:∀ (i j:Int) (t u:Tok) (s:Shared) (Q:Value->Shared->Prop) (E:Value->Shared->Prop),Q (.int (g i j) s.toks) { s with toks:=s.toks+1 }->wpAny (model X.prog X.w) X.A (f (.int i t) (.int j u)) Q E s) :
  OpR X f (rI0 fun i j=>.int (g i j)):=by
 intro pins s σ H x y v u Q I rx ry h
 obtain⟨i,j,rfl,rfl,q⟩:=h
 obtain⟨t,rfl⟩:=rx
 obtain⟨t',rfl⟩:=ry
 exact rule i j t t' s _ _ ⟨.int (g i j),H,I.tok _,⟨_,rfl⟩,q⟩
theorem opB0{f:Value->Value->Sem Value}{g:Int->Int->Bool}
  (rule:∀ (i j:Int) (t u:Tok) (s:Shared) (Q:Value->Shared->Prop) (E:Value->Shared->Prop),Q (.bool (g i j)) s->wpAny (model X.prog X.w) X.A (f (.int i t) (.int j u)) Q E s) :
  OpR X f (rI0 fun i j=>.bl (g i j)):=by
 intro pins s σ H x y v u Q I rx ry h
 obtain⟨i,j,rfl,rfl,q⟩:=h
 obtain⟨t,rfl⟩:=rx
 obtain⟨t',rfl⟩:=ry
 exact rule i j t t' s _ _ ⟨.bl (g i j),H,I,rfl,q⟩
def CDiv(i j:Int):Prop:=0<j/\j<1073741824
def CPow(i j:Int):Prop:=0<=j/\j<=1000000/\i.natAbs<2^64
def CMul(i j:Int):Prop:=(-(2^64)<i/\i<2^64)\/(-(2^64)<j/\j<2^64)
theorem CMul.ok{i j:Int}(h:CMul i j):IntMulOk i j:=by
 rcases h with ⟨h1,h2⟩ | ⟨h1,h2⟩
 ·exact .of_left (intBits_le_64 h1 h2)
 ·exact .of_right (intBits_le_64 h1 h2)
theorem op_add:OpR X (binaryOp .Add) (rI0 fun i j=>.int (i+j)):=opI0 fun _ _ _ _ _ _ _ q=>add_int q
theorem op_sub:OpR X (binaryOp .Sub) (rI0 fun i j=>.int (i-j)):=opI0 fun _ _ _ _ _ _ _ q=>sub_int q
theorem op_mul:OpR X (binaryOp .Mult) (rI CMul fun i j=>.int (i*j)):=opI fun _ _ _ _ _ _ _ hc q=>mul_int q hc.ok
theorem op_fdiv:OpR X (binaryOp .FloorDiv) (rI CDiv fun i j=>.int (i/j)):=opI fun i j _ _ _ _ _ hc q=>by
 have h1:(0:Int)<j:=hc.1
 have h2:j<1073741824:=hc.2
 exact floordiv_int (by lia) (by rw[Int.fdiv_eq_ediv_of_nonneg i (by lia)];exact q) (.inl (PyProof.noPylong_small (by lia)))
theorem op_mod:OpR X (binaryOp .Mod) (rI (fun _ j=>0<j) fun i j=>.int (i%j)):=opI fun i j _ _ _ _ _ hc q=>by
 have h1:(0:Int)<j:=hc
 exact mod_int' (by lia) (by rw[Int.fmod_eq_emod_of_nonneg i (by lia)];exact q)
theorem op_pow:OpR X (binaryOp .Pow) (rI CPow fun i j=>.int (i^j.toNat)):=opI fun _ _ _ _ _ _ _ hc q=>pow_int_small hc.1 hc.2.1 hc.2.2 q
theorem unI{f:Value->Sem Value}{g:Int->Int}
  (rule:∀ (i:Int) (t:Tok) (s:Shared) (Q:Value->Shared->Prop) (E:Value->Shared->Prop),Q (.int (g i) s.toks) { s with toks:=s.toks+1 }->wpAny (model X.prog X.w) X.A (f (.int i t)) Q E s) :
  UnR X f (rU fun i=>.int (g i)):=by
 intro pins s σ H x v Q I rx h
 obtain⟨i,rfl,q⟩:=h
 obtain⟨t,rfl⟩:=rx
 exact rule i t s _ _ ⟨.int (g i),H,I.tok _,⟨_,rfl⟩,q⟩
theorem un_neg:UnR X (unaryOp .USub) (rU fun i=>.int (-i)):=unI fun _ _ _ _ _ q=>neg_int q
end
def scal:V->V->Bool
 | .non,.non=>true | .non,.int _=>true | .int _,.non=>true | .non,.bl _=>true | .bl _,.non=>true | .non,.str _=>true | .str _,.non=>true
 | .int _,.int _=>true | .bl _,.bl _=>true | .str _,.str _=>true | .byt _,.byt _=>true
 | .int _,.str _=>true | .str _,.int _=>true | .bl _,.str _=>true | .str _,.bl _=>true
 | _,_=>false
def rEq:R2:=fun x y H Q=>scal x y=true/\Q (.bl (decide (x=y))) H
theorem dec_int{i j:Int}:decide (V.int i=V.int j)=(i == j):=by
 rw[Bool.eq_iff_iff]
 simp
theorem dec_bl{i j:Bool}:decide (V.bl i=V.bl j)=(i == j):=by
 rw[Bool.eq_iff_iff]
 simp
theorem dec_str{i j:Str}:decide (V.str i=V.str j)=(i == j):=by
 rw[Bool.eq_iff_iff]
 simp
theorem dec_byt{i j:Array UInt8}:decide (V.byt i=V.byt j)=(i.toList == j.toList):=by
 rw[Bool.eq_iff_iff]
 cases i
 cases j
 simp
section
variable {X:Cx} {a b c:Expr} {ta tb tc:TE} {pos:Pos}
theorem fin_bl{pins:List (Addr × Obj)}{σ:St}{H:Hp}{s:Shared}{Q:VK}{k k':Bool}(I:Inv X pins σ H s)(q:Q (.bl k) H)(e:k=k'):EP X pins σ Q (.bool k') s:=by
 subst e
 exact⟨.bl k,H,I,rfl,q⟩
theorem op_eq:OpR X (compareOp .Eq) rEq:=by
 intro pins s σ H x y v u Q I rx ry h
 obtain⟨hs,q⟩:=h
 cases x with
 | non =>
  cases rx
  cases y with
  | non=>cases ry;exact PySem.EqNone.eq_none_none (fin_bl I q (by simp))
  | bl j=>cases ry;exact PySem.EqNone.eq_none_bool (fin_bl I q (by simp))
  | int j=>obtain⟨t',rfl⟩:=ry;exact PySem.EqNone.eq_none_int (fin_bl I q (by simp))
  | str j=>obtain⟨t',rfl⟩:=ry;exact PySem.EqNone.eq_none_str (fin_bl I q (by simp))
  | _=>exact absurd (show false=true from hs) Bool.false_ne_true
 | bl i =>
  cases rx
  cases y with
  | non=>cases ry;exact PySem.EqNone.eq_bool_none (fin_bl I q (by simp))
  | bl j=>cases ry;exact eq_bool (fin_bl I q dec_bl)
  | str j=>obtain⟨t',rfl⟩:=ry;exact PySem.EqMixed.eq_bool_str (fin_bl I q (by simp))
  | _=>exact absurd (show false=true from hs) Bool.false_ne_true
 | int i =>
  obtain⟨t,rfl⟩:=rx
  cases y with
  | non=>cases ry;exact PySem.EqNone.eq_int_none (fin_bl I q (by simp))
  | int j=>obtain⟨t',rfl⟩:=ry;exact eq_int (fin_bl I q dec_int)
  | str j=>obtain⟨t',rfl⟩:=ry;exact PySem.EqMixed.eq_int_str (fin_bl I q (by simp))
  | _=>exact absurd (show false=true from hs) Bool.false_ne_true
 | str i =>
  obtain⟨t,rfl⟩:=rx
  cases y with
  | non=>cases ry;exact PySem.EqNone.eq_str_none (fin_bl I q (by simp))
  | bl j=>cases ry;exact PySem.EqMixed.eq_str_bool (fin_bl I q (by simp))
  | int j=>obtain⟨t',rfl⟩:=ry;exact PySem.EqMixed.eq_str_int (fin_bl I q (by simp))
  | str j=>obtain⟨t',rfl⟩:=ry;exact eq_str (fin_bl I q dec_str)
  | _=>exact absurd (show false=true from hs) Bool.false_ne_true
 | byt i =>
  obtain⟨t,rfl⟩:=rx
  cases y with
  | byt j=>obtain⟨t',rfl⟩:=ry;exact W.eq_bytes (fin_bl I q dec_byt)
  | _=>exact absurd (show false=true from hs) Bool.false_ne_true
 | _=>cases y<;>exact absurd (show false=true from hs) Bool.false_ne_true
theorem op_lt:OpR X (compareOp .Lt) (rI0 fun i j=>.bl (decide (i<j))):=opB0 fun _ _ _ _ _ _ _ q=>lt_int q
theorem op_gt:OpR X (compareOp .Gt) (rI0 fun i j=>.bl (decide (j<i))):=opB0 fun _ _ _ _ _ _ _ q=>gt_int q
theorem op_ge:OpR X (compareOp .GtE) (rI0 fun i j=>.bl (decide (j<=i))):=opB0 fun _ _ _ _ _ _ _ q=>ge_int q
theorem op_isN:OpR X (compareOp .Is) (fun x y H Q=>y=.non/\Q (.bl (decide (x=.non))) H):=by
 intro pins s σ H x y v u Q I rx ry h
 obtain⟨rfl,q⟩:=h
 cases ry
 refine is_none_gen (fin_bl I q ?_)
 cases x<;>first
  | (cases rx;rfl)
  | (obtain⟨t,rfl⟩:=rx;rfl)
theorem op_notN:OpR X (compareOp .IsNot) (fun x y H Q=>y=.non/\Q (.bl (!decide (x=.non))) H):=by
 intro pins s σ H x y v u Q I rx ry h
 obtain⟨rfl,q⟩:=h
 cases ry
 refine isnot_none_gen (fin_bl I q ?_)
 cases x<;>first
  | (cases rx;rfl)
  | (obtain⟨t,rfl⟩:=rx;rfl)
theorem zP(b:Expr){op:CmpOp}(h:op≠.In:=by decide)(h2:op≠.NotIn:=by decide):behindInMarks op b=false:=by
 have e1:(op == CmpOp.In)=false:=by cases op<;>first | rfl | exact absurd rfl h
 have e2:(op == CmpOp.NotIn)=false:=by cases op<;>first | rfl | exact absurd rfl h2
 cases b<;>simp[behindInMarks,e1,e2]
theorem pe_cmpR{op:CmpOp}{r:R2}(ho:OpR X (compareOp op) r)(ha:PE X a ta)(hb:PE X b tb)(hm:behindInMarks op b=false):PE X (.Compare a [op] [b] pos) (tOp r ta tb):=by
 intro pins s σ H Q I h
 exact wpAny_Compare1 (binT ha hb I h fun v u s2 x y H2 I2 rx ry q=>ho pins s2 σ H2 x y v u Q I2 rx ry q) hm
def tTest(t:TE):TT:=fun σ H Q=>t σ H fun x H'=>∃ k,x=.bl k/\Q k H'
theorem pt_cmpR{op:CmpOp}{r:R2}(ho:OpR X (compareOp op) r)(ha:PE X a ta)(hb:PE X b tb)(hm:behindInMarks op b=false):PT X (.Compare a [op] [b] pos) (tTest (tOp r ta tb)):=by
 intro pins s σ H Q I h
 refine wpAny_isTrue_Compare1 (thn (ha pins s σ H _ I h) fun v s1 ⟨x,H1,I1,r1,q1⟩=>thn (hb pins s1 σ H1 _ I1 q1) fun u s2 ⟨y,H2,I2,r2,q2⟩ =>
  thn (ho pins s2 σ H2 x y v u _ I2 r1 r2 q2) fun c s3 ⟨z,H3,I3,r3,k,e,q3⟩=>?_) hm
 subst e
 cases r3
 exact wpAny_truthy_bool ⟨H3,I3,q3⟩
theorem line63:(sizeLine:Nat)<2^63:=by rw[sizeLine_eq];decide
theorem vals1{x:V}{us:List Value}(r:Vals [x] us):∃ u,us=[u]/\RelV x u:=by
 cases r with
 | cons r1 r2=>cases r2;exact⟨_,rfl,r1⟩
theorem vals2{x y:V}{us:List Value}(r:Vals [x,y] us):∃ u w',us=[u,w']/\RelV x u/\RelV y w':=by
 cases r with
 | cons r1 r2 =>
  cases r2 with
  | cons r3 r4=>cases r4;exact⟨_,_,rfl,r1,r3⟩
theorem call_abs:CallR X (.builtin "abs") (fun xs H Q=>∃ i,xs=[.int i]/\Q (.int (if i<0 then -i else i)) H):=by
 intro pins s σ H xs us Q I r h
 obtain⟨i,rfl,q⟩:=h
 obtain⟨u,rfl,t,rfl⟩:=vals1 r
 exact call_abs_int fun u tk=>⟨.int (if i<0 then -i else i),H,I.tok _,⟨_,rfl⟩,q⟩
theorem call_max2(hc:X.calm=true):CallR X (.builtin "max") (fun xs H Q=>∃ i j,xs=[.int i,.int j]/\Q (.int (if j > i then j else i)) H):=by
 intro pins s σ H xs us Q I r h
 obtain⟨i,j,rfl,q⟩:=h
 obtain⟨u,w',rfl,⟨t,rfl⟩,⟨t',rfl⟩⟩:=vals2 r
 refine max_two_ints (I.ok.hd hc) fun h' tk k=>⟨_,H,I.kept k,?_,q⟩
 by_cases hj:j > i
 ·rw[if_pos hj,if_pos hj];exact⟨_,rfl⟩
 ·rw[if_neg hj,if_neg hj];exact⟨_,rfl⟩
theorem call_min2(hc:X.calm=true):CallR X (.builtin "min") (fun xs H Q=>∃ i j,xs=[.int i,.int j]/\Q (.int (if j<i then j else i)) H):=by
 intro pins s σ H xs us Q I r h
 obtain⟨i,j,rfl,q⟩:=h
 obtain⟨u,w',rfl,⟨t,rfl⟩,⟨t',rfl⟩⟩:=vals2 r
 refine min_two_ints (I.ok.hd hc) fun h' tk k=>⟨_,H,I.kept k,?_,q⟩
 by_cases hj:j<i
 ·rw[if_pos hj,if_pos hj];exact⟨_,rfl⟩
 ·rw[if_neg hj,if_neg hj];exact⟨_,rfl⟩
theorem call_int1:CallR X (.type "int") (fun xs H Q=>(∃ i,xs=[.int i]/\Q (.int i) H)\/∃ k,xs=[.bl k]/\Q (.int (if k then 1 else 0)) H):=by
 intro pins s σ H xs us Q I r h
 rcases h with ⟨i,rfl,q⟩ | ⟨k,rfl,q⟩
 ·obtain ⟨u, rfl, t, rfl⟩ := vals1 r
  exact call_int_int ⟨.int i,H,I,⟨_,rfl⟩,q⟩
 ·obtain ⟨u, rfl, r1⟩ := vals1 r
  cases r1
  exact call_int_bool ⟨.int (if k then 1 else 0),H,I.tok _,⟨_,rfl⟩,q⟩
end
end L2
namespace L2
section
variable {prog:Program} {w:World} {A:Around} {E:Value->Shared->Prop} {s:Shared} {K:W.Frag} {x dx C f:Addr} {mA:Str->Option Value} {name:Str} {v:Value}
end
theorem RelO.some_of{v:V}{o:Option Value}(r:RelO (some v) o):∃ u,o=some u/\RelV v u:=by
 cases o with
 | none=>exact(show False from r).elim
 | some u=>exact⟨u,rfl,r⟩
section
variable {P:Program} {w:World} {H H':Hp} {h h':Heap} {a C dx:Addr} {fs fs':List (Str × V)}
end
section
variable {X:Cx} {pins:List (Addr × Obj)} {σ:St} {H:Hp} {s:Shared} {a C dx:Addr} {fs:List (Str × V)} {f:Str} {v:V} {A:Around} {E:Value->Shared->Prop}
end
section
variable {X:Cx} {o e value:Expr} {f:Str} {pos pos' tpos:Pos} {ta tv:TE}
end
section
variable {X:Cx} {pins:List (Addr × Obj)} {σ:St} {H:Hp} {s:Shared} {A:Around} {E:Value->Shared->Prop} {Q:Value->Shared->Prop} {c:Value} {b:Bool}
end
end L2
namespace L2
structure Room(k:Nat)(A:Around):Prop where
 hd:A.handled=none
 dp:A.depth+3*k+5<recursionLimit
 un:A.units+16*k+200<cLine
 gd:A.guards=some []
theorem Room.mono{j k:Nat}{A:Around}(r:Room k A)(h:j<=k):Room j A:=⟨r.hd,by have:=r.dp;lia,by have:=r.un;lia,r.gd⟩
theorem Room.deeper{k:Nat}{A:Around}(r:Room (k+1) A)(env:Env):Room k (A.deeper env) :=
 ⟨r.hd,by have:=r.dp;show A.depth+1+3*k+5<_;lia,by have:=r.un;show A.units+3+16*k+200<_;lia,r.gd⟩
theorem Room.in1{k:Nat}{A:Around}(r:Room (k+1) A):Room k A.in1 :=
 ⟨r.hd,by have:=r.dp;show A.depth+3*k+5<_;lia,by have:=r.un;show A.units+1+16*k+200<_;lia,r.gd⟩
theorem Room.depth{k:Nat}{A:Around}(r:Room k A):A.depth<recursionLimit:=by have:=r.dp;lia
theorem Room.units{k:Nat}{A:Around}(r:Room k A):A.units+64<cLine:=by have:=r.un;lia
def tNil:TA:=fun _ H Q=>Q [] H
def tCons(ta:TE)(tr:TA):TA:=fun σ H Q=>ta σ H fun x H1=>tr σ H1 fun xs H2=>Q (x::xs) H2
section
variable {X:Cx} {e:Expr} {es:List Expr} {te:TE} {t:TA} {pos:Pos}
theorem pa_nil:PA X [] tNil:=fun _ _ _ _ H Q I h=>Calls.spliced_nil ⟨[],H,I,.nil,h⟩
theorem pa_cons(ha:PE X e te)(hr:PA X es t)(hs:starEach (e::es) X.env=(false,eval e X.env)::starEach es X.env:=by rfl):PA X (e::es) (tCons te t):=by
 intro pos pins s σ H Q I h
 rw[hs]
 show wpAny _ _ (spliced ((false,eval e X.env)::backTo pos (starEach es X.env))) _ _ s
 refine Calls.spliced_cons (thn (ha pins s σ H _ I h) fun u s1 ⟨x,H1,I1,r1,q1⟩=>?_)
 exact thn (hr pos pins s1 σ H1 _ I1 q1) fun us s2 ⟨xs,H2,I2,r2,q2⟩=>⟨x::xs,H2,I2,.cons r1 r2,q2⟩
def tTup(t:TA):TE:=fun σ H Q=>t σ H fun xs H1=>xs.length<=sizeLine/\∀ p,H1 p=none->Q (.ref p) (upd H1 p (.tup xs))
def tLst(t:TA):TE:=fun σ H Q=>t σ H fun xs H1=>xs.length<=sizeLine/\∀ p,H1 p=none->Q (.ref p) (upd H1 p (.lst xs))
theorem pe_tup{x1}(h:PA X es t):PE X (.Tuple es x1 pos) (tTup t):=by
 intro pins s σ H Q I hq
 refine wpAny_Tuple_spliced (thn (h pos pins s σ H _ I hq) fun us s1 ⟨xs,H1,I1,r,z,q⟩=>⟨by rw[<- r.length];exact z,?_⟩)
 have hf:H1 s1.heap.objs.size=none:=I1.hok.fresh (Nat.le_refl _)
 refine⟨.ref s1.heap.objs.size,upd H1 s1.heap.objs.size (.tup xs),I1.laid (t':=s1.toks) (fun b u e=>Heap.get?_push_of_some _ e) (Nat.le_refl _) ?_,rfl,q _ hf⟩
 exact⟨z,us,r,⟨_,Heap.get?_push_size _ rfl,rfl,_,rfl⟩⟩
theorem pe_lst(h:PA X es t):PE X (.List es pos) (tLst t):=by
 intro pins s σ H Q I hq
 refine wpAny_List_spliced (thn (h pos pins s σ H _ I hq) fun us s1 ⟨xs,H1,I1,r,z,q⟩=>⟨by rw[<- r.length];exact z,?_⟩)
 have hf:H1 s1.heap.objs.size=none:=I1.hok.fresh (Nat.le_refl _)
 refine⟨.ref s1.heap.objs.size,upd H1 s1.heap.objs.size (.lst xs),I1.laid (t':=s1.toks) (fun b u e=>Heap.get?_push_of_some _ e) (Nat.le_refl _) ?_,rfl,q _ hf⟩
 exact⟨z,us,0,r,Heap.get?_push_size _ rfl⟩
end
abbrev Sp:=List V->Hp->VK->XK->Prop
abbrev CXT:=List Env->Hp->Shared->XK->Value->Shared->Prop
structure Env0(P:Program)(w:World)(K:W.Frag)(mg:Str->Option Value)(base:Heap)(A:Around)(outer:List Env)(s:Shared)(H:Hp):Prop where
 frames:A.frames=some outer
 mod:Mod K mg base
 bs:∀ b o,base.get? b=some o->s.heap.get? b=some o/\H b=none
 bsz:base.objs.size<=s.heap.objs.size
 funs:s.heap.FunFrames base outer
 frf:∀ b∈frs outer,H b=none
 hok:HOk P w H s.heap
 bare:AllBare s.gens
def CE(outer:List Env)(P:Program)(w:World)(H:Hp)(s:Shared)(Q:VK)(u:Value)(s':Shared):Prop :=
 ∃ v H',s'.os=s.os/\AllBare s'.gens/\Un (frs outer) [] H H' s.heap s'.heap/\HOk P w H' s'.heap/\RelV v u/\Q v H'
def CR(CX:CXT)(outer:List Env)(P:Program)(w:World)(H:Hp)(s:Shared)(Q:VK)(E:XK)(r:Result)(s':Shared):Prop :=
 match r with
 | .ok (.ret u)=>CE outer P w H s Q u s'
 | .ok _=>False
 | .error e=>CX outer H s E e s'
structure FnOk(P:Program)(w:World)(K:W.Frag)(mg:Str->Option Value)(base:Heap)(CX:CXT)(k:Nat)(f:Addr)(fd:FuncData)(ps:List Str)(sp:Sp):Prop where
 len:∀ vs H Q E,sp vs H Q E->vs.length=ps.length
 run:∀ (A:Around) (outer:List Env) (s:Shared) (H:Hp) (args:Args) (us:List Value) (vs:List V) (Q:VK) (E:XK),Room k A->Env0 P w K mg base A outer s H->BindsTo s fd args (ps.zip us)->Vals vs us->sp vs H Q E ->
  codeAny (model P w) A (.call (.ref f) args) (CR CX outer P w H s Q E) s
section
variable {X:Cx} {pins:List (Addr × Obj)} {σ:St} {H:Hp} {s s':Shared}
theorem Inv.env0(I:Inv X pins σ H s):Env0 X.prog X.w X.K X.mg X.base X.A X.stack s H :=
 ⟨I.ok.frames,I.ok.mod,I.bs,Nat.le_trans I.ok.bsz I.sz,I.stack,I.stkFree,I.hok,I.bare⟩
theorem Inv.after{Q:VK}{u:Value}(I:Inv X pins σ H s)(h:CE X.stack X.prog X.w H s Q u s'):EP X pins σ Q u s':=by
 obtain⟨v,H',os,bare,un,hok,r,q⟩:=h
 obtain⟨hh,g,d,t,os'⟩:=s'
 obtain rfl:os'=s.os:=os
 exact⟨v,H',I.call (h':=hh) (g':=g) (d':=d) (t':=t) (ch:=[]) un hok bare (fun b z=>absurd z (by simp)),r,q⟩
end
def tCall(sp:Sp)(dvs:List V)(E:XK)(t:TA):TE:=fun σ H Q=>t σ H fun vs H1=>sp (vs++dvs) H1 Q E
def Binds(K:W.Frag)(fd:FuncData)(ps:List Str)(ds:List Value):Prop :=
 ∀ (s:Shared) (us:List Value),K.In s.heap->(us++ds).length=ps.length->BindsTo s fd ⟨us,[]⟩ (ps.zip (us++ds))
theorem Binds.all{K:W.Frag}{fd:FuncData}{ps:List Str}(h:∀ us:List Value,us.length=ps.length->bindArgs fd ⟨us,[]⟩=pure (ps.zip us)):Binds K fd ps []:=fun s us _ hl=>by
 rw[append_nil] at hl ⊢
 exact .of_eq (h us hl)
def Passes(CX:CXT)(X:Cx)(E:XK):Prop:=∀ (pins:List (Addr × Obj)) (σ:St) (H:Hp) (s:Shared) (e:Value) (s':Shared),Inv X pins σ H s->CX X.stack H s E e s'->X.xe e s'
section
variable {X:Cx} {CX:CXT} {k:Nat} {f C:Addr} {fd:FuncData} {ps:List Str} {sp:Sp} {dvs:List V} {ds:List Value} {E:XK} {x m:Str} {p pos apos:Pos} {e o:Expr} {es:List Expr} {ta:TE} {t:TA}
theorem run_fn{pins:List (Addr × Obj)}{σ:St}{H:Hp}{s:Shared}{Q:VK}{us:List Value}{vs:List V}(F:FnOk X.prog X.w X.K X.mg X.base CX k f fd ps sp)(hr:Room k X.A)(hb:Binds X.K fd ps ds)(hd:Vals dvs ds)(hx:Passes CX X E)
  (I:Inv X pins σ H s) (r:Vals vs us) (h:sp (vs++dvs) H Q E):wpAny (model X.prog X.w) X.A (call (.ref f) us) (EP X pins σ Q) X.xe s:=by
 have r2:Vals (vs++dvs) (us++ds):=r.append hd
 have hl:(us++ds).length=ps.length:=by rw[<- r2.length];exact F.len _ _ _ _ h
 refine wpAny_call (codeAny_mono (F.run X.A X.stack s H ⟨us,[]⟩ (us++ds) (vs++dvs) Q E hr I.env0 (hb s us I.kIn hl) r2 h) fun r s' hq=>?_)
 cases r with
 | error e=>exact hx pins σ H s e s' I hq
 | ok fl =>
  cases fl with
  | ret u=>exact I.after hq
  | next=>exact False.elim hq
  | brk=>exact False.elim hq
  | cont=>exact False.elim hq
theorem pe_call(F:FnOk X.prog X.w X.K X.mg X.base CX k f fd ps sp)(hr:Room k X.A)(hg:Gl X x)(hm:X.mg x=some (.ref f))(hk:W.keepIn X.K (.ref f)=true)(hb:Binds X.K fd ps ds)(hd:Vals dvs ds)(hx:Passes CX X E)
  (ha:PA X (e::es) t) (hdb:(x == ("__debug__" : Str))=false:=by decide) (he:starEach (e::es) X.env=(false,eval e X.env)::starEach es X.env:=by rfl) (hpl:(backTo pos (starEach es X.env)).any (·.1)=false:=by rfl) :
  PE X (.Call (.Name x p) (e::es) [] pos) (tCall sp dvs E t):=by
 intro pins s σ H Q I h
 refine wpAny_Call_Name_kw (ld_glob I hg hm ?_ hdb)
 refine W.callWith_K (h₀:=X.base) I.ok.mod.kin hk (thn (ha pos pins s σ H _ I h) fun us s1 ⟨vs,H1,I1,r,q⟩=>⟨I1.kIn,?_⟩) he hpl
 exact run_fn F hr hb hd hx I1 r q
end
section
variable {X:Cx} {CX:CXT} {k:Nat} {f C:Addr} {fd:FuncData} {ps ks:List Str} {sp:Sp} {E:XK} {x m:Str} {p pos apos kpos:Pos} {e o:Expr} {es:List Expr} {kws:List Keyword} {te ta:TE} {t tk:TA} {nm:Option Str}
variable {g:List Value->List Value->List Value} {gV:List V->List V->List V}
end
structure FnScope(N P:List Str)(sc:Scope):Prop where
 kind:sc.kind=.function
 co:sc.isCoroutine=false
 gen:sc.isGenerator=false
 nd:N.Nodup
 pre:N.take P.length=P
 par:∀ x∈P,sc.names.lookup x=some .local\/sc.names.lookup x=some .cell
 nofree:∀ y∈sc.names,y.2≠.free
theorem bindL_out{kindOf:Str->Option NameKind}{x:Str}:∀ {binds:List (Str × Value)} {m:Str->Option Value},(∀ v,(x,v) ∉ binds)->bindL kindOf binds m x=m x
 | [],_,_=>rfl
 | (n, v) :: r, m, h => by
  unfold bindL
  rw[bindL_out fun w hw=>h w (mem_cons_of_mem _ hw)]
  split
  ·have : x ≠ n := by rintro rfl; exact h v List.mem_cons_self
   simp[this]
  ·rfl
theorem bindC_out{kindOf:Str->Option NameKind}{x:Str}:∀ {binds:List (Str × Value)} {m:Str->Option Value},(∀ v,(x,v) ∉ binds)->bindC kindOf binds m x=m x
 | [],_,_=>rfl
 | (n, v) :: r, m, h => by
  unfold bindC
  rw[bindC_out fun w hw=>h w (mem_cons_of_mem _ hw)]
  split
  ·rfl
  ·have : x ≠ n := by rintro rfl; exact h v List.mem_cons_self
   simp[this]
theorem bindL_get{kindOf:Str->Option NameKind}{x:Str}{v:Value}:∀ {P:List Str} {vs:List Value} {i:Nat} {m:Str->Option Value},P.Nodup->P[i]?=some x->vs[i]?=some v->kindOf x=some .local ->
  bindL kindOf (P.zip vs) m x=some v
 | [],_,_,_,_,h,_,_=>by simp at h
 | _::_,[],_,_,_,_,h,_=>by simp at h
 | p::P,w::vs,0,m,nd,h1,h2,hk=>by
  simp at h1 h2;subst h1;subst h2
  show bindL kindOf ((p,w)::P.zip vs) m p=_
  unfold bindL
  rw[bindL_out fun v hv=>(List.nodup_cons.mp nd).1 (of_mem_zip hv).1,if_pos hk]
  simp
 | p::P,w::vs,i+1,m,nd,h1,h2,hk=>by
  show bindL kindOf ((p,w)::P.zip vs) m x=_
  unfold bindL
  exact bindL_get (i:=i) (List.nodup_cons.mp nd).2 (by simpa using h1) (by simpa using h2) hk
theorem bindC_get{kindOf:Str->Option NameKind}{x:Str}{v:Value}:∀ {P:List Str} {vs:List Value} {i:Nat} {m:Str->Option Value},P.Nodup->P[i]?=some x->vs[i]?=some v->kindOf x≠some .local ->
  bindC kindOf (P.zip vs) m x=some v
 | [],_,_,_,_,h,_,_=>by simp at h
 | _::_,[],_,_,_,_,h,_=>by simp at h
 | p::P,w::vs,0,m,nd,h1,h2,hk=>by
  simp at h1 h2;subst h1;subst h2
  show bindC kindOf ((p,w)::P.zip vs) m p=_
  unfold bindC
  rw[bindC_out fun v hv=>(List.nodup_cons.mp nd).1 (of_mem_zip hv).1,if_neg hk]
  simp
 | p::P,w::vs,i+1,m,nd,h1,h2,hk=>by
  show bindC kindOf ((p,w)::P.zip vs) m x=_
  unfold bindC
  exact bindC_get (i:=i) (List.nodup_cons.mp nd).2 (by simpa using h1) (by simpa using h2) hk
def start(N:List Str)(vs:List V):St:=vs.map some++replicate (N.length-vs.length) none
def cxOf(CX:CXT)(P:Program)(w:World)(K:W.Frag)(mg:Str->Option Value)(base:Heap)(N:List Str)(qual:Str)(scope:Scope)(f:Addr)(cd:Value)(A:Around)(outer:List Env)(s:Shared)(H:Hp)(E:XK):Cx where
 prog:=P
 w:=w
 K:=K
 mg:=mg
 base:=base
 A:=A.deeper (envOfC qual scope s.heap.objs.size f cd)
 N:=N
 s₀:=s
 H₀:=H
 env:=envOfC qual scope s.heap.objs.size f cd
 outer:=outer
 stack:=envOfC qual scope s.heap.objs.size f cd::outer
 ex:=[]
 calm:=true
 fn:=fun _=>true
 pn:=[]
 xe:=fun e s'=>wpAny (model P w) (A.deeper (envOfC qual scope s.heap.objs.size f cd)) (leaving (envOfC qual scope s.heap.objs.size f cd) e) (fun _ s''=>CX outer H s E e s'') (fun e' s''=>CX outer H s E e' s'') s'
theorem cell_has{sc:Scope}{n:Nat}{x:Str}(h:sc.names.lookup x=some .cell):∃ c,(cellsFrom n sc.names []).lookup x=some c:=by
 have q:=W.cellsFrom_some sc.names n [] (.inl h)
 exact Option.isSome_iff_exists.mp q
theorem inv_start{CX:CXT}{P:Program}{w:World}{K:W.Frag}{mg:Str->Option Value}{base:Heap}{N ps:List Str}{qual:Str}{scope:Scope}{f:Addr}{cd:Value}{A:Around}{outer:List Env}{s s1:Shared}{H:Hp}{E:XK}{us:List Value}{vs:List V}
  (S:FnScope N ps scope) (hd:A.handled=none) (e0:Env0 P w K mg base A outer s H) (hl:vs.length=ps.length) (r:Vals vs us)
  (x:InCallC s s.heap.objs.size (bindL (envOfC qual scope s.heap.objs.size f cd).kindOf (ps.zip us) fun _=>none) (cellsFrom (s.heap.objs.size+1) scope.names []) (bindC (envOfC qual scope s.heap.objs.size f cd).kindOf (ps.zip us) fun _=>none) s1) :
  Inv (cxOf CX P w K mg base N qual scope f cd A outer s H E) [] (start N vs) H s1:=by
 have hpl:ps.length<=N.length:=by have:=congrArg List.length S.pre;rw[length_take] at this;lia
 obtain⟨h1,tk,rfl,hk⟩:=x.done
 have noA:∀ b:Addr,b ∉ (cxOf CX P w K mg base N qual scope f cd A outer s H E).ex:=fun b z=>absurd (show b∈([]:List Addr) from z) (by simp)
 refine⟨⟨e0.mod,S.kind,rfl,rfl,Nat.le_refl _,fun y z c h1 h2=>?_,fun y hy=>?_,fun y c _ h=>?_,fun _=>hd,Around.frames_deeper e0.frames,.inr ⟨rfl,rfl⟩,fun b z=>absurd z (noA b),e0.bs,e0.bsz,fun b _ _=>noA b,fun b z=>absurd z (noA b),e0.funs,e0.frf⟩,
  rfl,e0.bare,Un.kept hk,⟨_,x.toInCall.ns,fun i y v h1 h2 h3=>?_⟩,fun y c h=>⟨_,x.cell y c h⟩,e0.hok.fresh (Nat.le_refl _),fun y c h=>?_,fun p hp=>absurd (show p∈([]:List (Addr × Obj)) from hp) (by simp),e0.hok.kept hk,?_⟩
 ·exact name_of_addr x.apart (PySem.mem_of_lookup h1) (PySem.mem_of_lookup h2)
 ·have hy : scope.names.lookup y = some .cell \/ scope.names.lookup y = some .free := hy
  rcases hy with hy | hy
  ·exact cell_has hy
  ·exact absurd rfl (S.nofree _ (PySem.mem_of_lookup hy))
 ·exact Nat.le_of_lt (x.above y c (PySem.mem_of_lookup h))
 ·have hi : i < vs.length := by
   unfold start at h2
   by_cases hi:i<vs.length
   ·exact hi
   ·rw [List.getElem?_append_right (by simpa using hi)] at h2
    rw[getElem?_replicate] at h2
    split at h2<;>cases h2
  have ha:vs[i]?=some v:=by
   unfold start at h2
   rw[getElem?_append_left (by simpa using hi),getElem?_map] at h2
   cases e:vs[i]? with
   | none=>rw[e] at h2;cases h2
   | some a=>rw[e] at h2;cases h2;rfl
  obtain⟨u,hu,rv⟩:=r.get ha
  have hp:ps[i]?=some y:=by
   rw[<- S.pre,List.getElem?_take_of_lt (by lia)];exact h1
  have ndP:ps.Nodup:=by rw[<- S.pre];exact S.nd.sublist (take_sublist _ _)
  refine⟨u,rv,?_⟩
  rcases S.par y (mem_of_getElem? hp) with k | k
  ·exact .inl ⟨k,bindL_get ndP hp hu k⟩
  ·obtain ⟨c, e⟩ := cell_has (n := s.heap.objs.size + 1) k
   refine .inr ⟨.inl k,c,e,?_⟩
   have q:=x.cell y c e
   rw[bindC_get ndP hp hu (by show scope.names.lookup y≠_;rw[k];decide)] at q
   exact q
 ·exact e0.hok.fresh (Nat.le_of_lt (x.above y c (PySem.mem_of_lookup h)))
 ·unfold start
  show _=N.length
  rw[length_append,length_map,length_replicate]
  lia
theorem fn_of{CX:CXT}{P:Program}{w:World}{K:W.Frag}{mg:Str->Option Value}{base:Heap}{k:Nat}{f:Addr}{name qual:Str}{params:Arguments}{body:List Stmt}{scope:Scope}{dV kV doc pm cdv ct oc:Value}{an od:Option Addr}
  {osl:Array (Option Value)} {N ps:List Str} {sp:Sp} (lk:K.lookup f=some ⟨oc,od,.func (W.fnOf name qual params body scope dV kV doc pm an cdv ct),osl⟩) (hcd:W.codeIn K cdv qual=true) (S:FnScope N ps scope)
  (len:∀ vs H Q E,sp vs H Q E->vs.length=ps.length)
  (hbody : ∀ (A : Around) (outer : List Env) (s : Shared) (H : Hp) (vs : List V) (Q : VK) (E : XK), Room k (A.deeper (envOfC qual scope s.heap.objs.size f cdv)) -> sp vs H Q E ->
   ∃ t,PSs (cxOf CX P w K mg base N qual scope f cdv A outer s H E) body t/\t { nx:=fun _ H'=>Q .non H',rt:=Q } (start N vs) H) :
  FnOk P w K mg base CX (k+1) f (W.fnOf name qual params body scope dV kV doc pm an cdv ct) ps sp:=by
 refine⟨len,fun A outer s H args us vs Q E hr e0 hb r hsp=>?_⟩
 have hl:=len _ _ _ _ hsp
 have KX:K.In s.heap:=e0.mod.kin.keeps fun b o e=>(e0.bs b o e).1
 have lim:s.heap.NoLimit:=e0.mod.nolimit.keeps fun b o e=>(e0.bs b o e).1
 have hkind:∀ y∈ps.zip us,scope.names.lookup y.1=some .local\/(scope.names.lookup y.1=some .cell/\((cellsFrom (s.heap.objs.size+1) scope.names []).lookup y.1).isSome=true):=fun⟨n,v⟩ hy=>by
  rcases S.par n (of_mem_zip hy).1 with q | q
  ·exact .inl q
  ·exact .inr ⟨q,W.cellsFrom_some _ _ _ (.inl q)⟩
 refine codeAny_call_function hr.depth (KX _ _ lk) rfl S.co S.gen rfl (W.codeRec_of KX hcd) (hb _ _ _ _ ?_)
 refine wpAny_newFunctionEnv_cells S.kind hkind fun env he s1 x=>?_
 subst he
 refine⟨lim.keeps x.toInCall.keep,codeAny_func ?_⟩
 obtain⟨t,ht,hq⟩:=hbody A outer s H vs Q E (hr.deeper _) hsp
 have I:Inv (cxOf CX P w K mg base N qual scope f cdv A outer s H E) [] (start N vs) H s1:=inv_start S hr.hd e0 hl r x
 refine wpAny_mono (ht [] s1 (start N vs) H _ I hq) (fun fl s' hs=>?_) fun e s' hs=>hs
 have fin:∀ {σ':St} {H':Hp} {v:V} {u:Value},Inv (cxOf CX P w K mg base N qual scope f cdv A outer s H E) [] σ' H' s'->RelV v u->Q v H'->CE outer P w H s Q u s' :=
  fun {σ' H' v u} J rv q=>⟨v,H',J.os,J.bare,J.base,J.hok,rv,q⟩
 cases fl with
 | ret u =>
  obtain⟨v,σ',H',J,rv,q⟩:=hs
  exact fin J rv q
 | next =>
  obtain⟨σ',H',J,q⟩:=hs
  exact fin (v:=V.non) (u:=Value.none) J rfl q
 | brk =>
  obtain⟨_,_,_,q⟩:=hs
  exact False.elim q
 | cont =>
  obtain⟨_,_,_,q⟩:=hs
  exact False.elim q
end L2
namespace L2
section
variable {X:Cx} {x:Str} {p pos:Pos} {e:Expr} {es:List Expr} {t:TA} {id T:String} {r:List V->Hp->VK->Prop}
def tCB(r:List V->Hp->VK->Prop)(t:TA):TE:=fun σ H Q=>t σ H fun vs H1=>r vs H1 Q
theorem pe_callB(hc:CallR X (.builtin id) r)(hg:Gl X x)(hm:X.mg x=none)(hv:bootBuiltins x=some (.builtin id))(ha:PA X (e::es) t)(hn:x ≠ "__name__" := by decide)(hdb:(x == ("__debug__" : Str))=false:=by decide)
  (he:starEach (e::es) X.env=(false,eval e X.env)::starEach es X.env:=by rfl) (hpl:(backTo pos (starEach es X.env)).any (·.1)=false:=by rfl):PE X (.Call (.Name x p) (e::es) [] pos) (tCB r t):=by
 intro pins s σ H Q I h
 refine wpAny_Call_Name_kw (ld_blt I hg hm hv ?_ hn hdb)
 exact PyProof.Rows.callWith_builtin1 (thn (ha pos pins s σ H _ I h) fun us s1 ⟨vs,H1,I1,r1,q1⟩=>hc pins s1 σ H1 vs us Q I1 r1 q1) he hpl
theorem pe_callTy(hc:CallR X (.type T) r)(hg:Gl X x)(hm:X.mg x=none)(hv:bootBuiltins x=some (.type T))(ha:PA X (e::es) t)(hn:x ≠ "__name__" := by decide)(hdb:(x == ("__debug__" : Str))=false:=by decide)
  (he:starEach (e::es) X.env=(false,eval e X.env)::starEach es X.env:=by rfl) (hpl:(backTo pos (starEach es X.env)).any (·.1)=false:=by rfl):PE X (.Call (.Name x p) (e::es) [] pos) (tCB r t):=by
 intro pins s σ H Q I h
 refine wpAny_Call_Name_kw (ld_blt I hg hm hv ?_ hn hdb)
 exact PyProof.Rows.callWith_type1 (thn (ha pos pins s σ H _ I h) fun us s1 ⟨vs,H1,I1,r1,q1⟩=>hc pins s1 σ H1 vs us Q I1 r1 q1) he hpl
end
end L2
namespace HT
open PySem PyProof.Rows
def lexLt:List Int->List Int->Bool
 | [],[]=>false
 | [],_::_=>true
 | _::_,[]=>false
 | x::xs,y::ys=>if x=y then lexLt xs ys else decide (x<y)
theorem lexLt_cons(x y:Int)(xs ys:List Int):lexLt (x::xs) (y::ys)=if x=y then lexLt xs ys else decide (x<y):=rfl
theorem lexLt_nil_nil:lexLt [] []=false:=rfl
theorem lexLt_nil_cons(y:Int)(ys:List Int):lexLt [] (y::ys)=true:=rfl
theorem lexLt_cons_nil(x:Int)(xs:List Int):lexLt (x::xs) []=false:=rfl
theorem eqAt_int(A:Around)(s:Shared)(a:Int)(t:Tok)(c:Int)(u:Tok):∃ e,SeqAt.EqAt A s (.int a t) (.int c u) e/\(e=true↔a=c) :=
 ⟨(a == c),SeqAt.EqAt.int_int a t c u,by simp⟩
theorem rcLt_int(A:Around)(s:Shared)(a:Int)(t:Tok)(c:Int)(u:Tok)(prog:Program)(w:World)(E:Value->Shared->Prop)(Q:Value->Shared->Prop)(h:Q (.bool (decide (a<c))) s) :
  wpAny (model prog w) A (richCompare .Lt (.int a t) (.int c u)) Q E s :=
 (PyProof.Rows.lt_int h:wpAny (model prog w) A (compareOp .Lt (.int a t) (.int c u)) Q E s)
section
open PySem.SeqAt
open PySem.AutoSeq1 (wpAny_loadPart')
open PySem.MeetsSeq PySem.MeetsSeq2 PySem.MeetsSeq3
theorem tuple_lt_ints(l b:Addr)(items items2:Array Value)(n n2:Nat)(dd dd2:Option Addr)(sl sl2:Array (Option Value))(ns ms:List Int)(hi:IntsAre items.toList ns)(hj:IntsAre items2.toList ms) :
  Meets (Builtin.«tuple.__lt__» ⟨[.ref l,.ref b],[]⟩)
   (fun _ R s => s.heap.get? l = some { cls := .type "tuple", dict := dd, data := .seq items n, slots := sl } /\ s.heap.get? b = some { cls := .type "tuple", dict := dd2, data := .seq items2 n2, slots := sl2 } /\
    R (.ok (.ret (.bool (lexLt ns ms)))) s) :=
 .of_wp fun prog w A R s h=>by
  obtain⟨hp,g,d,tk,os⟩:=s;obtain⟨hl,hb,h⟩:=h
  have f2:=AutoSeq1.sub_tuple_tuple
  have z1:items.size=ns.length:=by rw[<- hi.length];simp
  have z2:items2.size=ms.length:=by rw[<- hj.length];simp
  wp_walk using wpAny_loadPart' hl,wpAny_loadPart' hb,wpAny_forIn_list _ (fun rest b s'=>b.1=none/\s'=⟨hp,g,d,tk,os⟩/\∃ (vs ws:List Value) (ns' ms':List Int),rest=vs.zip ws /\
   IntsAre vs ns'/\IntsAre ws ms'/\ns'.length+items2.size=ms'.length+items.size/\R (.ok (.ret (.bool (lexLt ns' ms')))) ⟨hp,g,d,tk,os⟩) _
  case turn =>
   rintro⟨y,x⟩ rest b s' ⟨hb',rfl,vs,ws,ns',ms',hz,hvi,hwi,hlen,hR⟩
   cases hvi with
   | nil=>rw[List.zip_nil_left] at hz;cases hz
   | cons a t hvi' =>
    cases hwi with
    | nil=>rw[List.zip_nil_right] at hz;cases hz
    | cons c u hwi' =>
     rw[zip_cons_cons] at hz
     injection hz with hyx hrest
     injection hyx with hy hx
     subst hy hx
     rw[lexLt_cons] at hR
     simp only[length_cons] at hlen
     obtain⟨e,he,hiff⟩:=eqAt_int A.in1 ⟨hp,g,d,tk,os⟩ a t c u
     refine wpAny_bind (he prog w _ _ ?_)
     cases e with
     | true =>
      rw[if_pos (hiff.mp rfl)] at hR
      wp_walk
      exact⟨rfl,rfl,_,_,_,_,hrest,hvi',hwi',by lia,hR⟩
     | false =>
      rw[if_neg (fun q=>absurd (hiff.mpr q) Bool.false_ne_true)] at hR
      have hri:=rcLt_int A.in1 ⟨hp,g,d,tk,os⟩ a t c u prog w
      wp_walk using hri
      exact⟨_,rfl,by simpa using hR⟩
  case fin =>
   rintro⟨b1,b2⟩ s' ⟨hb',rfl,vs,ws,ns',ms',hz,hvi,hwi,hlen,hR⟩
   simp only at hb'
   subst hb'
   have hv:lexLt ns' ms'=decide (items.size<items2.size):=by
    cases hvi with
    | nil =>
     cases hwi with
     | nil =>
      simp only[length_nil] at hlen
      rw[lexLt_nil_nil]
      exact(decide_eq_false (by lia)).symm
     | cons c u hw =>
      simp only[length_nil,length_cons] at hlen
      rw[lexLt_nil_cons]
      exact(decide_eq_true (by lia)).symm
    | cons a t hv =>
     cases hwi with
     | nil =>
      simp only[length_nil,length_cons] at hlen
      rw[lexLt_cons_nil]
      exact(decide_eq_false (by lia)).symm
     | cons c u hw =>
      rw[zip_cons_cons] at hz
      cases hz
   rw[hv] at hR
   wp_walk
   exact⟨_,rfl,by simpa [Builtin.Tuple.tupleCompareSizes] using hR⟩
  case h =>
   exact⟨rfl,rfl,items.toList,items2.toList,ns,ms,rfl,hi,hj,by lia,h⟩
end
section
variable {prog:Program} {w:World} {A:Around} {E:Value->Shared->Prop} {s:Shared}
theorem lt_tupInts{l b:Addr}{items items2:Array Value}{ns ms:List Int}{Q:Value->Shared->Prop}(hl:IsTup s.heap l items)(hb:IsTup s.heap b items2)(hi:IntsAre items.toList ns)(hj:IntsAre items2.toList ms)
  (hu:A.units<cLine) (h:Q (.bool (lexLt ns ms)) s):wpAny (model prog w) A (compareOp .Lt (.ref l) (.ref b)) Q E s:=by
 obtain⟨⟨cls,dd,data,sl⟩,ho,hc,n,hd⟩:=id hl
 obtain⟨⟨cls2,dd2,data2,sl2⟩,ho2,hc2,n2,hd2⟩:=id hb
 simp only at hc hd hc2 hd2
 subst hc hd hc2 hd2
 exact richCompare_meets_room (op:=.Lt) ⟨_,ho,rfl⟩ ⟨_,ho2,rfl⟩ PySem.F.slot_tuple_lt PySem.F.entry_tuple_lt (PySem.F.args_tuple_lt_2 _ _) (tuple_lt_ints l b items items2 n n2 dd dd2 sl sl2 ns ms hi hj)
  ⟨ho,ho2,show Value.bool (lexLt ns ms)≠Value.notImplemented/\Q (.bool (lexLt ns ms)) s from⟨(fun x=>nomatch x),h⟩⟩ hu
theorem cat_tup{t b:Addr}{vs ws:List Value}{Q:Value->Shared->Prop}(ht:IsTup s.heap t vs.toArray)(hb:IsTup s.heap b ws.toArray)(hv:vs≠[])
  (h1:ws=[]->Q (.ref t) s) (h2:ws≠[]->Q (.ref s.heap.objs.size) { s with heap:=s.heap.push { cls:=.type "tuple",data:=.seq (vs++ws).toArray } })
  (hsz:vs.length+ws.length<=sizeLine):wpAny (model prog w) A (binaryOp .Add (.ref t) (.ref b)) Q E s:=by
 obtain⟨⟨cls,dd,data,sl⟩,ho,hc,n,hd⟩:=id ht
 obtain⟨⟨cls2,dd2,data2,sl2⟩,ho2,hc2,n2,hd2⟩:=id hb
 simp only at hc hd hc2 hd2
 subst hc hd hc2 hd2
 have e:vs.toArray++ws.toArray=(vs++ws).toArray:=by simp
 by_cases hw:ws=[]
 ·exact concat_meets ⟨_,ho,rfl⟩ ⟨_,ho2,rfl⟩ noFill_tuple_add seq_tuple_add PySem.F.slot_tuple_add PySem.F.entry_tuple_add (PySem.F.args_tuple_add_2 _ _)
   (tuple_addW1 t b vs.toArray ws.toArray n n2 dd dd2 sl sl2 (by simpa using hv) (by simp[hw])) ⟨ho,ho2,h1 hw⟩
 ·refine concat_meets ⟨_, ho, rfl⟩ ⟨_, ho2, rfl⟩ noFill_tuple_add seq_tuple_add PySem.F.slot_tuple_add PySem.F.entry_tuple_add (PySem.F.args_tuple_add_2 _ _)
   (tuple_addW2 t b vs.toArray ws.toArray n n2 dd dd2 sl sl2 (by simpa using hv) (by simpa using hw) (by rw[size_toArray,size_toArray];exact hsz)) ⟨ho,ho2,?_⟩
  rw[e]
  exact h2 hw
def sIx(n d:Nat):Option Int->Nat
 | none=>d
 | some v=>if v<0 then(v+(n:Int)).toNat else min v.toNat n
theorem sIx_none(n d:Nat):sIx n d none=d:=rfl
theorem sIx_nat(n d k:Nat):sIx n d (some (k:Int))=min k n:=by
 show(if (k:Int)<0 then((k:Int)+(n:Int)).toNat else min (k:Int).toNat n)=min k n
 rw[if_neg (by lia),Int.toNat_natCast]
theorem sIx_le(n d:Nat)(hd:d<=n)(o:Option Int):sIx n d o<=n:=by
 cases o with
 | none=>exact hd
 | some v =>
  show(if v<0 then(v+(n:Int)).toNat else min v.toNat n)<=n
  by_cases hv:v<0
  ·rw[if_pos hv];lia
  ·rw[if_neg hv];exact Nat.min_le_right _ _
theorem clip_eq(v:Int)(n d:Nat):(if v<0 then max (v+(n:Int)) 0 else min v (n:Int))=((sIx n d (some v):Nat):Int):=by
 show(if v<0 then max (v+(n:Int)) 0 else min v (n:Int))=(((if v<0 then(v+(n:Int)).toNat else min v.toNat n):Nat):Int)
 by_cases hv:v<0
 ·simp only[if_pos hv];lia
 ·simp only[if_neg hv];lia
theorem adjust_gen(lo hi:Option Int)(n:Nat):Builtin.Slice.sliceAdjust lo hi 1 (n:Int)=(((sIx n 0 lo:Nat):Int),((sIx n n hi:Nat):Int)):=by
 have h1:¬ ((1:Int)<0):=by lia
 unfold Builtin.Slice.sliceAdjust
 simp only[h1,if_false]
 refine Prod.ext ?_ ?_
 ·cases lo with
  | none=>rfl
  | some v=>exact clip_eq v n 0
 ·cases hi with
  | none=>rfl
  | some v=>exact clip_eq v n n
theorem places_gen(i j:Nat):Builtin.Slice.slicePlaces (i:Int) (j:Int) 1=j-i:=by
 unfold Builtin.Slice.slicePlaces
 have h1:(1:Int) > 0:=by lia
 simp only[h1,if_true,Int.ediv_one]
 split<;>lia
theorem slicePart_{v:Value}{o:Option Int}{Q:Option Int->Shared->Prop}(p:IsPart v o)(h:Q o s):wpAny (model prog w) A (Builtin.Slice.slicePartIndex v) Q E s:=by
 cases p with
 | none=>exact slicePart_none h
 | int i t=>exact slicePart_int h
theorem sliceApplied_gen{sl:Addr}{vl vu:Value}{lo hi:Option Int}{n:Nat}{Q:Int × Int × Nat->Shared->Prop}(hs:s.heap.IsSliceOf sl vl vu .none)(pl:IsPart vl lo)(pu:IsPart vu hi)
  (h:Q (((sIx n 0 lo:Nat):Int),1,sIx n n hi-sIx n 0 lo) s):wpAny (model prog w) A (Builtin.Slice.sliceApplied (.ref sl) (pure (n:Int))) Q E s:=by
 obtain⟨os,hos,hcs,hds⟩:=id hs
 unfold Builtin.Slice.sliceApplied Builtin.Slice.sliceFields
 refine wpAny_bind (wpAny_bind (wpAny_field hos hds (x:=vl) rfl (wpAny_bind (wpAny_field hos hds (x:=vu) rfl (wpAny_bind (wpAny_field hos hds (x:=.none) rfl (wpAny_pure ?_)))))))
 refine wpAny_bind (slicePart_none ?_)
 show wpAny _ _ (if ((1:Int) == 0)=true then _ else _) _ _ s
 rw[if_neg (by decide)]
 refine wpAny_bind (slicePart_ pl (wpAny_bind (slicePart_ pu (wpAny_bind (wpAny_pure ?_)))))
 show wpAny _ _ (match Builtin.Slice.sliceAdjust lo hi 1 (n:Int) with | (lo,hi)=>pure (lo,(1:Int),Builtin.Slice.slicePlaces lo hi 1)) _ _ s
 rw[adjust_gen lo hi n]
 show wpAny _ _ (pure (((sIx n 0 lo:Nat):Int),(1:Int),Builtin.Slice.slicePlaces ((sIx n 0 lo:Nat):Int) ((sIx n n hi:Nat):Int) 1)) _ _ s
 rw[places_gen]
 exact wpAny_pure h
theorem pick_gen(xs:Array Value)(i k:Nat):((List.range k).filterMap fun(m:Nat)=>xs[((i:Int)+(m:Int)*1).toNat]?).toArray=((xs.toList.drop i).take k).toArray:=by
 have e:(fun(m:Nat)=>xs[((i:Int)+(m:Int)*1).toNat]?)=fun m=>xs[i+m]?:=by
  funext m
  have:((i:Int)+(m:Int)*1).toNat=i+m:=by lia
  rw[this]
 rw[e]
 have:=pick_run xs i k
 rw[filterMap_map] at this
 have e2:((fun x=>xs[x]?)∘fun x=>i+x)=fun m=>xs[i+m]?:=rfl
 rw[e2] at this
 rw[this]
theorem getItem_tuple_cut{t sl:Addr}{items:Array Value}{vl vu:Value}{lo hi:Option Int}{Q:Value->Shared->Prop}(ht:IsTup s.heap t items)(hs:s.heap.IsSliceOf sl vl vu .none)(pl:IsPart vl lo)(pu:IsPart vu hi)
  (hw:¬ (sIx items.size 0 lo=0/\sIx items.size items.size hi=items.size))
  (h:Q (.ref s.heap.objs.size) { s with heap:=s.heap.push { cls:=.type "tuple",data:=.seq ((items.toList.drop (sIx items.size 0 lo)).take (sIx items.size items.size hi-sIx items.size 0 lo)).toArray } })
  (hsz:items.size<=sizeLine):wpAny (model prog w) A (getItem (.ref t) (.ref sl)) Q E s:=by
 have htake:sizeOk (.seq ((items.toList.drop (sIx items.size 0 lo)).take (sIx items.size items.size hi-sIx items.size 0 lo)).toArray):=by
  show((items.toList.drop (sIx items.size 0 lo)).take (sIx items.size items.size hi-sIx items.size 0 lo)).toArray.size<=sizeLine
  rw[size_toArray,length_take,length_drop,Array.length_toList]
  lia
 have hj:sIx items.size items.size hi<=items.size:=sIx_le _ _ (Nat.le_refl _) hi
 obtain⟨os,hos,hcs,hds⟩:=id hs
 have hTs:s.TypeIs (.ref sl) "slice" := ⟨os,hos,hcs⟩
 unfold getItem
 try with_reducible refine wpAny_holding ?_
 first | refine wpAny_bind (wpAny_pure ?_) | skip
 refine wpAny_bind (wpAny_sequenceKey ht.typeIs (by decide) ?_)
 refine wpAny_bind (wpAny_callSpecial?_slot (name:=Str.ofString "__getitem__") ht.typeIs PyProof.Rows.slot_tuple_getitem
  (wpAny_call_entry PyProof.Rows.slot_tuple_getitem ht.typeIs entry_tuple_getitem ?_ (args_tuple_getitem _ _)))
 show wpAny _ _ (Builtin.Tuple.tupleItemsOf (.ref t) >>= _) _ _ s
 refine wpAny_bind (tupleItemsOf_ ht ?_)
 refine wpAny_bind (wpAny_typeOf hTs ?_)
 rw[if_pos (by decide)]
 refine wpAny_bind (sliceApplied_gen hs pl pu ?_)
 have hno:¬ ((((sIx items.size 0 lo:Nat):Int) == 0&&(1:Int) == 1&&(sIx items.size items.size hi-sIx items.size 0 lo) == items.size)=true):=by
  intro q
  rw[Bool.and_eq_true,Bool.and_eq_true] at q
  have q1:((sIx items.size 0 lo:Nat):Int)=0:=eq_of_beq q.1.1
  have q2:sIx items.size items.size hi-sIx items.size 0 lo=items.size:=eq_of_beq q.2
  exact hw ⟨by lia,by lia⟩
 show wpAny _ _ (if (((sIx items.size 0 lo:Nat):Int) == 0&&(1:Int) == 1&&(sIx items.size items.size hi-sIx items.size 0 lo) == items.size)=true then _ else _) _ _ s
 rw[if_neg hno,pick_gen]
 first
  | exact wpAny_bind (m:=Builtin.Tuple.tupleExact _) (wpAny_newObj_type (wpAny_pure ⟨_,rfl,wpAny_pure h⟩) htake)
  | exact wpAny_bind (m:=Builtin.Tuple.tupleExact _) (wpAny_newObj_type (wpAny_bind (wpAny_pure (wpAny_pure ⟨_,rfl,wpAny_pure h⟩))) htake)
  | exact wpAny_bind (wpAny_bind (m:=Builtin.Tuple.tupleExact _) (wpAny_newObj_type (wpAny_pure (wpAny_pure ⟨_,rfl,wpAny_pure h⟩)) htake))
  | exact wpAny_bind (wpAny_bind (m:=Builtin.Tuple.tupleExact _) (wpAny_newObj_type (wpAny_pure ⟨_,rfl,wpAny_pure h⟩) htake))
end
end HT
namespace L2
abbrev TO:=St->Hp->(Option Int->Hp->Prop)->Prop
def PO(X:Cx)(e:Option Expr)(t:TO):Prop :=
 ∀ (pins:List (Addr × Obj)) (s:Shared) (σ:St) (H:Hp) (Q:Option Int->Hp->Prop),Inv X pins σ H s->t σ H Q ->
  wpAny (model X.prog X.w) X.A (evalPart e X.env) (fun u s'=>∃ o H',Inv X pins σ H' s'/\IsPart u o/\Q o H') X.xe s
def tNoPart:TO:=fun _ H Q=>Q none H
def tPart(t:TE):TO:=fun σ H Q=>t σ H fun x H1=>∃ i,x=.int i/\Q (some i) H1
theorem intsAre_of{ns:List Int}:∀ {us:List Value},Vals (ns.map V.int) us->IntsAre us ns:=by
 induction ns with
 | nil=>intro us r;rw[map_nil] at r;cases r;exact .nil
 | cons n ns ih =>
  intro us r
  rw[map_cons] at r
  cases r with
  | cons r1 r2 =>
   obtain⟨t,e⟩:=r1
   subst e
   exact .cons n t (ih r2)
section
variable {X:Cx} {e:Expr} {te:TE} {lo hi:Option Expr} {tl th:TO} {pos p2:Pos}
theorem po_none:PO X none tNoPart:=by
 intro pins s σ H Q I h
 rw[evalPart_none]
 exact wpAny_pure ⟨none,H,I,.none,h⟩
theorem po_some(h:PE X e te):PO X (some e) (tPart te):=by
 intro pins s σ H Q I hw
 rw[evalPart_some]
 refine thn (h pins s σ H _ I hw) fun u s1 ⟨x,H1,I1,r1,q1⟩=>?_
 obtain⟨i,rfl,q⟩:=q1
 obtain⟨t,rfl⟩:=r1
 exact⟨some i,H1,I1,.int i t,q⟩
def SlR(X:Cx)(r:V->Option Int->Option Int->Hp->VK->Prop):Prop :=
 ∀ (pins:List (Addr × Obj)) (s:Shared) (σ:St) (H:Hp) (x:V) (v vl vu:Value) (lo hi:Option Int) (sl:Addr) (Q:VK),Inv X pins σ H s->RelV x v->s.heap.IsSliceOf sl vl vu .none->IsPart vl lo->IsPart vu hi->r x lo hi H Q ->
  ∃ T id,typeLookup (.type T) "__getitem__" = pure (some (.builtin id))/\s.TypeIs v T/\wpAny (model X.prog X.w) X.A (getItem v (.ref sl)) (EP X pins σ Q) X.xe s
def tSl(r:V->Option Int->Option Int->Hp->VK->Prop)(te:TE)(tl th:TO):TE:=fun σ H Q=>te σ H fun x H1=>tl σ H1 fun l H2=>th σ H2 fun u H3=>r x l u H3 Q
theorem pe_slice{r:V->Option Int->Option Int->Hp->VK->Prop}(hr:SlR X r)(he:PE X e te)(hl:PO X lo tl)(hu:PO X hi th):PE X (.Subscript e (.Slice lo hi none p2) pos) (tSl r te tl th):=by
 intro pins s σ H Q I h
 refine Subscript_ (thn (he pins s σ H _ I h) fun v s1 ⟨x,H1,I1,r1,q1⟩=>?_)
 refine wpAny_Slice (thn (hl pins s1 σ H1 _ I1 q1) fun vl s2 ⟨l,H2,I2,pl,q2⟩=>thn (hu pins s2 σ H2 _ I2 q2) fun vu s3 ⟨u,H3,I3,pu,q3⟩=>?_)
 rw[evalPart_none]
 refine wpAny_pure ?_
 have I4:Inv X pins σ H3 { s3 with heap:=s3.heap.push { cls:=.type "slice",data:=.fields #[vl,vu,.none] } }:=I3.kept (t':=s3.toks) fun b ob q=>Heap.get?_push_of_some _ q
 obtain⟨T,id,hT,ht,hg⟩:=hr pins { s3 with heap:=s3.heap.push { cls:=.type "slice",data:=.fields #[vl,vu,.none] } } σ H3 x v vl vu l u s3.heap.objs.size Q I4 r1 (Heap.IsSliceOf.new ..) pl pu q3
 show wpAny (model X.prog X.w) X.A (subscriptTail e (.Slice lo hi none p2) v (.ref s3.heap.objs.size)) (EP X pins σ Q) X.xe { s3 with heap:=s3.heap.push { cls:=.type "slice",data:=.fields #[vl,vu,.none] } }
 exact tail_any (ops:=[.ref s3.heap.objs.size,v]) ht hT hg (by with_unfolding_all rfl)
def cutV(xs:List V)(lo hi:Option Int):List V:=(xs.drop (HT.sIx xs.length 0 lo)).take (HT.sIx xs.length xs.length hi-HT.sIx xs.length 0 lo)
theorem cutV_length(xs:List V)(lo hi:Option Int):(cutV xs lo hi).length<=xs.length:=by
 unfold cutV
 rw[length_take,length_drop]
 lia
def rSlT(K:W.Frag):V->Option Int->Option Int->Hp->VK->Prop:=fun x lo hi H Q=>∃ a xs,x=.ref a/\SqT K H a xs /\
 ¬ (HT.sIx xs.length 0 lo=0/\HT.sIx xs.length xs.length hi=xs.length)/\∀ p,H p=none->Q (.ref p) (upd H p (.tup (cutV xs lo hi)))
theorem sl_tup:SlR X (rSlT X.K):=by
 intro pins s σ H x v vl vu lo hi sl Q I rx hs pl pu h
 obtain⟨a,xs,rfl,hx,hw,q⟩:=h
 cases rx
 obtain⟨its,r,ht,hz⟩:=I.tuple hx
 have hlen:its.toArray.size=xs.length:=by rw[size_toArray];exact r.length.symm
 refine⟨"tuple",_,PyProof.Rows.slot_tuple_getitem.lookup,ht.typeIs,?_⟩
 refine HT.getItem_tuple_cut ht hs pl pu (by rw[hlen];exact hw) ?_ (by rw[hlen];exact hz)
 rw[hlen]
 refine⟨.ref s.heap.objs.size,_,I.laid (t':=s.toks) (o:=.tup (cutV xs lo hi)) (fun b ob q=>Heap.get?_push_of_some _ q) (Nat.le_refl _) ?_,rfl,q _ (I.hok.fresh (Nat.le_refl _))⟩
 exact⟨Nat.le_trans (cutV_length xs lo hi) hz,_,(r.drop (HT.sIx xs.length 0 lo)).take (HT.sIx xs.length xs.length hi-HT.sIx xs.length 0 lo),IsTup.new _ _⟩
def rCatT(K:W.Frag):R2:=fun x y H Q=>∃ a b xs ys,x=.ref a/\y=.ref b/\SqT K H a xs/\SqT K H b ys/\xs≠[]/\xs.length+ys.length<=sizeLine /\
 (ys=[]->Q (.ref a) H)/\(ys≠[]->∀ p,H p=none->Q (.ref p) (upd H p (.tup (xs++ys))))
theorem Vals.nil_iff{xs:List V}{us:List Value}(r:Vals xs us):us=[]↔xs=[]:=by
 cases r with
 | nil=>simp
 | cons _ _=>simp
theorem op_catT:OpR X (binaryOp .Add) (rCatT X.K):=by
 intro pins s σ H x y v u Q I rx ry h
 obtain⟨a,b,xs,ys,rfl,rfl,ha,hb,hx,hz,q1,q2⟩:=h
 cases rx
 cases ry
 obtain⟨its,r1,p1,_⟩:=I.tuple ha
 obtain⟨its2,r2,p2,_⟩:=I.tuple hb
 refine HT.cat_tup p1 p2 (fun z=>hx (r1.nil_iff.mp z)) (fun z=>⟨.ref a,H,I,rfl,q1 (r2.nil_iff.mp z)⟩) (fun z=>?_) (by rw[<- r1.length,<- r2.length];exact hz)
 refine⟨.ref s.heap.objs.size,_,I.laid (t':=s.toks) (o:=.tup (xs++ys)) (fun b ob q=>Heap.get?_push_of_some _ q) (Nat.le_refl _) ?_,rfl,q2 (fun w=>z (r2.nil_iff.mpr w)) _ (I.hok.fresh (Nat.le_refl _))⟩
 exact⟨by rw[length_append];exact hz,_,r1.append r2,IsTup.new _ _⟩
end
end L2
namespace L2
def ixN(n:Nat)(i:Int):Option Nat:=if 0<=i then(if i<n then some i.toNat else none) else if -(n:Int)<=i then some (i+n).toNat else none
def atI{α:Type}(xs:List α)(i:Int):Option α:=(ixN xs.length i).bind fun j=>xs[j]?
theorem ixN_seq{n:Nat}{i:Int}{j:Nat}(h:ixN n i=some j):seqIndex? i n=some j/\j<n/\-(n:Int)<=i/\i<n:=by
 unfold ixN at h
 by_cases h0:0<=i
 ·rw [if_pos h0] at h
  by_cases h1:i<n
  ·rw [if_pos h1] at h
   have e:i.toNat=j:=Option.some.inj h
   exact⟨by rw[seqIndex_of h0 h1,e],by lia,by lia,h1⟩
  ·rw[if_neg h1] at h;cases h
 ·rw [if_neg h0] at h
  by_cases h1:-(n:Int)<=i
  ·rw [if_pos h1] at h
   have e:(i+n).toNat=j:=Option.some.inj h
   exact⟨by rw[seqIndex_neg (by lia) h1,e],by lia,h1,by lia⟩
  ·rw[if_neg h1] at h;cases h
theorem atI_get{α:Type}{xs:List α}{i:Int}{v:α}(h:atI xs i=some v):∃ j,seqIndex? i xs.length=some j/\xs[j]?=some v/\j<xs.length/\-(xs.length:Int)<=i/\i<xs.length:=by
 unfold atI at h
 cases e:ixN xs.length i with
 | none=>rw[e] at h;cases h
 | some j =>
  rw[e] at h
  obtain⟨h1,h2,h3,h4⟩:=ixN_seq e
  exact⟨j,h1,h,h2,h3,h4⟩
theorem xm{α:Type}{xs:List α}{j:Nat}{v:α}(h:xs[j]?=some v):atI xs (j:Int)=some v:=by
 have hj:j<xs.length:=(List.getElem?_eq_some_iff.mp h).1
 have e:ixN xs.length (j:Int)=some j:=by
  unfold ixN
  rw[if_pos (by lia),if_pos (by lia)];simp
 unfold atI;rw[e];exact h
def PlainIx(b:Expr):Prop:=∀ o i,subscripted b false o i=operate [o,i] (getItem o i)
def IxR(X:Cx)(r:R2):Prop :=
 ∀ (value slice:Expr) (pins:List (Addr × Obj)) (s:Shared) (σ:St) (H:Hp) (x y:V) (v u:Value) (Q:VK),Inv X pins σ H s->RelV x v->RelV y u->r x y H Q ->
  subscripted slice false v u=operate [v,u] (getItem v u)->wpAny (model X.prog X.w) X.A (subscriptTail value slice v u) (EP X pins σ Q) X.xe s
def MtR(X:Cx)(id:String)(r:V->List V->Hp->VK->Prop):Prop :=
 ∀ (pins:List (Addr × Obj)) (s:Shared) (σ:St) (H:Hp) (x:V) (xs:List V) (v:Value) (us:List Value) (Q:VK),Inv X pins σ H s->RelV x v->Vals xs us->r x xs H Q ->
  wpAny (model X.prog X.w) X.A (call (.builtin id) (v::us)) (EP X pins σ Q) X.xe s
section
variable {X:Cx} {a b:Expr} {ta tb:TE} {pos:Pos}
theorem IxR.or{r r':R2}(h:IxR X r)(h':IxR X r'):IxR X (fun x y H Q=>r x y H Q\/r' x y H Q):=by
 intro value slice pins s σ H x y v u Q I rx ry q hs
 rcases q with q | q
 ·exact h value slice pins s σ H x y v u Q I rx ry q hs
 ·exact h' value slice pins s σ H x y v u Q I rx ry q hs
theorem pe_ix{r:R2}(hr:IxR X r)(ha:PE X a ta)(hb:PE X b tb)(hs:PlainIx b):PE X (.Subscript a b pos) (tOp r ta tb):=by
 intro pins s σ H Q I h
 exact Subscript_ (binT ha hb I h fun v u s2 x y H2 I2 rx ry q=>hr a b pins s2 σ H2 x y v u Q I2 rx ry q (hs _ _))
def rIxL(K:W.Frag):R2:=fun x y H Q=>∃ p xs i v,x=.ref p/\y=.int i/\SqL K H p xs/\atI xs i=some v/\Q v H
def rIxT(K:W.Frag):R2:=fun x y H Q=>∃ p xs i v,x=.ref p/\y=.int i/\SqT K H p xs/\atI xs i=some v/\Q v H
def rIxS:R2:=fun x y H Q=>∃ z i c,x=.str z/\y=.int i/\z.length<=sizeLine/\atI z.cps.toList i=some c/\Q (.str ⟨#[c]⟩) H
theorem ix_list:IxR X (rIxL X.K):=by
 intro value slice pins s σ H x y v u Q I rx ry h hs
 obtain⟨p,xs,i,z,rfl,rfl,hq,he,q⟩:=h
 cases rx
 obtain⟨t,rfl⟩:=ry
 obtain⟨its,r,pl,hz⟩:=I.list hq
 obtain⟨j,h1,h2,h3,h4,h5⟩:=atI_get he
 obtain⟨w,ew,rw'⟩:=r.get h2
 have hl:=r.length
 have hn:=line63
 have fin:EP X pins σ Q w s:=⟨z,H,I,rw',q⟩
 by_cases h0:0<=i
 ·have hj : i.toNat = j := by
   rw[seqIndex_of h0 h5] at h1
   exact Option.some.inj h1
  exact item_listR pl.isList h0 (by lia) (by rw[hj];simpa using ew) fin hs
 ·have hj : (i + (its.toArray.size : Int)).toNat = j := by
   rw[seqIndex_neg (by lia) h4] at h1
   rw[size_toArray,<- hl]
   exact Option.some.inj h1
  exact subscriptTail_builtinR (x:=w) pl.isList.typeIs slot_list_getitem.lookup
   (wpAny_getItem_list_neg (Q:=fun r s'=>r=w/\EP X pins σ Q r s') pl.isList (by lia) (by rw[size_toArray]<;>lia) (by lia) (by rw[hj];simpa using ew) ⟨rfl,fin⟩) hs
theorem ix_tup:IxR X (rIxT X.K):=by
 intro value slice pins s σ H x y v u Q I rx ry h hs
 obtain⟨p,xs,i,z,rfl,rfl,hq,he,q⟩:=h
 cases rx
 obtain⟨t,rfl⟩:=ry
 obtain⟨its,r,pl,hz⟩:=I.tuple hq
 obtain⟨j,h1,h2,h3,h4,h5⟩:=atI_get he
 obtain⟨w,ew,rw'⟩:=r.get h2
 have hl:=r.length
 have hn:=line63
 have fin:EP X pins σ Q w s:=⟨z,H,I,rw',q⟩
 exact subscriptTail_builtinR (x:=w) pl.typeIs slot_tuple_getitem.lookup
  (getItem_tuple (j:=j) (Q:=fun r s'=>r=w/\EP X pins σ Q r s') pl (by lia) (by lia) (by rw[size_toArray,<- hl];exact h1) (by simpa using ew) ⟨rfl,fin⟩) hs
theorem ix_str:IxR X rIxS:=by
 intro value slice pins s σ H x y v u Q I rx ry h hs
 obtain⟨z,i,c,rfl,rfl,hz,he,q⟩:=h
 obtain⟨t,rfl⟩:=rx
 obtain⟨t',rfl⟩:=ry
 obtain⟨j,h1,h2,h3,h4,h5⟩:=atI_get he
 have hl:z.cps.toList.length=z.length:=by simp[Str.length]
 rw[hl] at h1 h4 h5
 have hn:=line63
 exact tail_any (typeIs_str s z t) slot_str_getitem.lookup (getItem_str (c:=c) (by
  have e1:decide (i < -(2^63:Int))=false:=decide_eq_false (by lia)
  have e2:decide (i>=2^63)=false:=decide_eq_false (by lia)
  rw[e1,e2,Bool.or_false]) (by rw[h1];simpa using h2) ⟨.str ⟨#[c]⟩,H,I.tok _,⟨_,rfl⟩,q⟩) hs
def rIx(K:W.Frag):R2:=fun x y H Q=>rIxL K x y H Q\/rIxT K x y H Q\/rIxS x y H Q
theorem zA:IxR X (rIx X.K):=ix_list.or (ix_tup.or ix_str)
theorem mapSeq_set(its:List Value)(n j:Nat)(u:Value):Obj.mapSeq (·.setIfInBounds j u) { cls:=.type "list",data:=.seq its.toArray n }={ cls:=.type "list",data:=.seq (its.set j u).toArray n }:=by
 simp[Obj.mapSeq]
theorem Inv.lst{pins:List (Addr × Obj)}{σ:St}{H:Hp}{s:Shared}{p:Addr}{xs:List V}(I:Inv X pins σ H s)(h:H p=some (.lst xs)) :
  ∃ (its:List Value) (n:Nat),Vals xs its/\s.heap.get? p=some { cls:=.type "list",data:=.seq its.toArray n }/\xs.length<=sizeLine:=by
 obtain⟨z,its,n,r,e⟩:=I.hok p _ h
 exact⟨its,n,r,e,z⟩
theorem Inv.lstUpd{pins:List (Addr × Obj)}{σ:St}{H:Hp}{s:Shared}{p:Addr}{xs ys:List V}{its its':List Value}{n n':Nat}{f:Obj->Obj}(I:Inv X pins σ H s)(h:H p=some (.lst xs))
  (ho:s.heap.get? p=some { cls:=.type "list",data:=.seq its.toArray n }) (hf:f { cls:=.type "list",data:=.seq its.toArray n }={ cls:=.type "list",data:=.seq its'.toArray n' }) (r:Vals ys its') (hz:ys.length<=sizeLine) (t:Nat) :
  Inv X pins σ (upd H p (.lst ys)) { s with heap:=s.heap.update p f,toks:=t }:=by
 have e:(s.heap.update p f).get? p=some { cls:=.type "list",data:=.seq its'.toArray n' }:=by
  rw[Heap.get?_update_self f ho (by rw[hf]<;>rfl),hf]
 refine I.write (x:=p) (e:=p) (by rw[h];trivial) (.inl rfl) (fun b u hb q=>(Heap.get?_update_other _ _ (Ne.symm hb)).trans q) ⟨_,e⟩ ?_
 exact⟨hz,its',n',r,e⟩
def rSetL:V->V->V->Hp->(Hp->Prop)->Prop:=fun o i v H Q=>∃ p xs k j,o=.ref p/\i=.int k/\H p=some (.lst xs)/\ixN xs.length k=some j/\Q (upd H p (.lst (xs.set j v)))
theorem set_list:PSet X rSetL:=by
 intro pins s σ H o i v ov iv u Q I ro ri rv h
 obtain⟨p,xs,k,j,rfl,rfl,hp,hj,q⟩:=h
 cases ro
 obtain⟨t,rfl⟩:=ri
 obtain⟨its,n,r,ho,hz⟩:=I.lst hp
 obtain⟨h1,h2,h3,h4⟩:=ixN_seq hj
 have hl:=r.length
 have hn:=line63
 have I':Inv X pins σ (upd H p (.lst (xs.set j v))) { s with heap:=s.heap.update p (Obj.mapSeq (·.setIfInBounds j u)) } :=
  I.lstUpd hp ho (mapSeq_set its n j u) (r.set rv j) (by rw[length_set];exact hz) s.toks
 by_cases h0:0<=k
 ·have hk : k.toNat = j := by
   rw[seqIndex_of h0 h4] at h1
   exact Option.some.inj h1
  exact W.ki_setAt ho h0 (by lia) (by rw[size_toArray,<- hl];exact h4) (by rw[hk];exact⟨_,I',q⟩)
 ·have hk : (k + (its.toArray.size : Int)).toNat = j := by
   rw[seqIndex_neg (by lia) h3] at h1
   rw[size_toArray,<- hl]
   exact Option.some.inj h1
  exact W.ki_setBack ho (by lia) (by rw[size_toArray,<- hl];exact h3) (by lia) (by rw[hk];exact⟨_,I',q⟩)
theorem slice_bounds(lo hi:Option Int)(n:Nat):(sliceBounds lo hi none n).1=((HT.sIx n 0 lo:Nat):Int)/\(sliceBounds lo hi none n).2.1=((HT.sIx n n hi:Nat):Int)/\(sliceBounds lo hi none n).2.2=1:=by
 refine⟨?_,?_,rfl⟩
 ·cases lo with
  | none=>simp[sliceBounds,HT.sIx]
  | some i =>
   simp only[sliceBounds,HT.sIx,Option.getD_none,show(1:Int) > 0 by decide,if_true]
   by_cases h:i<0
   ·simp only[h,if_true]<;>lia
   ·simp only[h,if_false]<;>lia
 ·cases hi with
  | none=>simp[sliceBounds,HT.sIx]
  | some i =>
   simp only[sliceBounds,HT.sIx,Option.getD_none,show(1:Int) > 0 by decide,if_true]
   by_cases h:i<0
   ·simp only[h,if_true]<;>lia
   ·simp only[h,if_false]<;>lia
theorem slicePick_cut(its:List Value)(lo hi:Option Int):slicePick its.toArray lo hi none=((its.drop (HT.sIx its.length 0 lo)).take (HT.sIx its.length its.length hi-HT.sIx its.length 0 lo)).toArray:=by
 obtain⟨h1,h2,h3⟩:=slice_bounds lo hi its.toArray.size
 unfold slicePick
 rw[h1,h2,h3]
 simp only[sliceRange_one,pick_run,size_toArray]<;>rfl
def rSlL(K:W.Frag):V->Option Int->Option Int->Hp->VK->Prop:=fun x lo hi H Q=>∃ a xs,x=.ref a/\SqL K H a xs/\∀ p,H p=none->Q (.ref p) (upd H p (.lst (cutV xs lo hi)))
theorem sl_list:SlR X (rSlL X.K):=by
 intro pins s σ H x v vl vu lo hi sl Q I rx hs pl pu h
 obtain⟨a,xs,rfl,hx,q⟩:=h
 cases rx
 obtain⟨its,r,ht,hz⟩:=I.list hx
 have hlen:=r.length
 refine⟨"list",_,slot_list_getitem.lookup,ht.isList.typeIs,?_⟩
 refine wpAny_getItem_list_slice ht.isList hs pl pu .none (by simp) ?_ (by rw[size_toArray]<;>lia)
 rw[slicePick_cut,<- hlen]
 refine⟨.ref s.heap.objs.size,_,I.laid (t':=s.toks) (o:=.lst (cutV xs lo hi)) (fun b ob q=>Heap.get?_push_of_some _ q) (Nat.le_refl _) ?_,rfl,q _ (I.hok.fresh (Nat.le_refl _))⟩
 exact⟨Nat.le_trans (cutV_length xs lo hi) hz,_,0,(r.drop (HT.sIx xs.length 0 lo)).take (HT.sIx xs.length xs.length hi-HT.sIx xs.length 0 lo),Heap.get?_push_size _ rfl⟩
theorem zQ:CallR X (.builtin "len") (fun xs H Q=>∃ p ys,xs=[.ref p]/\(SqL X.K H p ys\/SqT X.K H p ys)/\Q (.int ys.length) H):=by
 intro pins s σ H xs us Q I r h
 obtain⟨p,ys,rfl,hq,q⟩:=h
 obtain⟨u,rfl,rx⟩:=vals1 r
 cases rx
 have hn:=line63
 rcases hq with hq | hq
 ·obtain ⟨its, r', pl, hz⟩ := I.list hq
  have hlen:=r'.length
  exact Calls.call_len_list pl.isList (by simp only[size_toArray]<;>lia) ⟨.int ys.length,H,I.tok _,⟨s.toks+1,by rw[size_toArray,hlen]⟩,q⟩
 ·obtain ⟨its, r', pl, hz⟩ := I.tuple hq
  have hlen:=r'.length
  exact len_tuple pl (by simp only[size_toArray]<;>lia) ⟨.int ys.length,H,I.tok _,⟨s.toks+1,by rw[size_toArray,hlen]⟩,q⟩
theorem call_list_of:CallR X (.type "list") (fun xs H Q=>∃ p ys,xs=[.ref p]/\(SqL X.K H p ys\/SqT X.K H p ys)/\∀ l,H l=none->Q (.ref l) (upd H l (.lst ys))):=by
 intro pins s σ H xs us Q I r h
 obtain⟨p,ys,rfl,hq,q⟩:=h
 obtain⟨u,rfl,rx⟩:=vals1 r
 cases rx
 have fin:∀ (its:List Value),Vals ys its->ys.length<=sizeLine->∀ (h':Heap) (c':Nat),(∀ b o',s.heap.get? b=some o'->h'.get? b=some o') ->
   h'.get? s.heap.objs.size=some { cls:=.type "list",dict:=none,data:=.seq its.toArray c',slots:=#[] }->EP X pins σ Q (.ref s.heap.objs.size) { s with heap:=h' }:=fun its r' hz h' c' kp e =>
  ⟨.ref s.heap.objs.size,_,I.laid (t':=s.toks) kp (Nat.le_refl _) (show ObjOk X.prog X.w _ h' _ (.lst ys) from⟨hz,its,c',r',e⟩),rfl,q _ (I.hok.fresh (Nat.le_refl _))⟩
 rcases hq with hq | hq
 ·obtain ⟨its, r', pl, hz⟩ := I.list hq
  have hlen:=r'.length
  obtain⟨o,ho,hc,n,hd⟩:=pl.isList
  exact call_list_seq p (.inl rfl) ho hc hd (fun h' c' kp e=>fin its r' hz h' c' kp e) (by simp only[size_toArray]<;>lia)
 ·obtain ⟨its, r', pl, hz⟩ := I.tuple hq
  have hlen:=r'.length
  obtain⟨o,ho,hc,n,hd⟩:=pl
  exact call_list_seq p (.inr rfl) ho hc hd (fun h' c' kp e=>fin its r' hz h' c' kp e) (by simp only[size_toArray]<;>lia)
theorem zD:CallR X (.type "tuple") (fun xs H Q=>∃ p ys,xs=[.ref p]/\((SqL X.K H p ys/\∀ l,H l=none->Q (.ref l) (upd H l (.tup ys)))\/(SqT X.K H p ys/\Q (.ref p) H))):=by
 intro pins s σ H xs us Q I r h
 obtain⟨p,ys,rfl,h⟩:=h
 obtain⟨u,rfl,rx⟩:=vals1 r
 cases rx
 rcases h with ⟨hq,q⟩ | ⟨hq,q⟩
 ·obtain ⟨its, r', pl, hz⟩ := I.list hq
  have hlen:=r'.length
  refine call_tuple_list pl.isList (fun h' kp=>?_) (by simp only[size_toArray]<;>lia)
  have I1:Inv X pins σ H { s with heap:=h' }:=I.kept (t':=s.toks) kp
  have I2:Inv X pins σ (upd H h'.objs.size (.tup ys)) { s with heap:=h'.push { cls:=.type "tuple",data:=.seq its.toArray } } :=
   I1.laid (t':=s.toks) (fun b o e=>Heap.get?_push_of_some _ e) (Nat.le_refl _) (show ObjOk X.prog X.w _ _ _ (.tup ys) from⟨hz,its,r',IsTup.new _ _⟩)
  exact⟨.ref h'.objs.size,_,I2,rfl,q _ (I1.hok.fresh (Nat.le_refl _))⟩
 ·obtain ⟨its, r', pl, hz⟩ := I.tuple hq
  exact call_tuple_same pl ⟨.ref p,H,I,rfl,q⟩
def tyV(K:W.Frag)(T:String)(x:V)(H:Hp):Prop:=match x with
 | .str _=>T = "str"
 | .int _=>T = "int"
 | .ref p => (T = "list" /\ ∃ xs, SqL K H p xs) \/ (T = "tuple" /\ ∃ o, K.lookup p = some o /\ o.cls = .type "tuple" /\ o.dict = none) \/
   (T = "dict" /\ ((∃ kvs,H p=some (.dK kvs))\/∃ kvs,H p=some (.dT kvs)))\/(T = "set" /\ ∃ S n,H p=some (.set S n))
 | _=>False
theorem tyV_is{pins:List (Addr × Obj)}{σ:St}{H:Hp}{s:Shared}{T:String}{x:V}{v:Value}(I:Inv X pins σ H s)(r:RelV x v)(ty:tyV X.K T x H) :
  s.TypeIs v T/\∀ a,v=.ref a->∃ ob,s.heap.get? a=some ob/\ob.dict=none:=by
 cases x with
 | str z =>
  obtain⟨t,rfl⟩:=r
  cases(show T = "str" from ty)
  exact⟨typeIs_str s z t,fun _ e=>nomatch e⟩
 | int i =>
  obtain⟨t,rfl⟩:=r
  cases(show T = "int" from ty)
  exact⟨typeIs_int s i t,fun _ e=>nomatch e⟩
 | ref p =>
  cases r
  rcases ty with ⟨rfl,xs,hq⟩ | ⟨rfl,o,hk,hc,hd⟩ | ⟨rfl,hk⟩ | ⟨rfl,S,n,hk⟩
  ·obtain ⟨its, _, pl, _⟩ := I.list hq
   refine⟨pl.isList.typeIs,fun a e=>?_⟩
   cases e
   obtain⟨o,n,e,c,hd,_⟩:=pl
   exact⟨o,e,hd⟩
  ·refine ⟨⟨o, I.kIn p o hk, hc⟩, fun a e => ?_⟩
   cases e
   exact⟨o,I.kIn _ o hk,hd⟩
  ·have z : ∃ o, s.heap.get? p = some o /\ o.ExactDict := by
    rcases hk with ⟨kvs,hk⟩ | ⟨kvs,hk⟩
    ·obtain ⟨_, _, _, _, o, _, _, e, ex, _⟩ := I.hok p _ hk
     exact⟨o,e,ex⟩
    ·obtain ⟨_, _, _, _, o, _, _, e, ex, _⟩ := I.hok p _ hk
     exact⟨o,e,ex⟩
   obtain⟨o,e,ex⟩:=z
   refine⟨⟨o,e,ex.1⟩,fun a e2=>?_⟩
   cases e2
   exact⟨o,e,ex.2.1⟩
  ·obtain ⟨o, _, _, _, e, ex, _⟩ := I.hok p _ hk
   refine⟨⟨o,e,ex.1⟩,fun a e2=>?_⟩
   cases e2
   exact⟨o,e,ex.2.1⟩
 | _=>exact False.elim ty
def tBM(K:W.Frag)(T:String)(r:V->List V->Hp->VK->Prop)(to:TE)(t:TA):TE:=fun σ H Q=>to σ H fun x H1=>tyV K T x H1/\t σ H1 fun xs H2=>r x xs H2 Q
variable {o e:Expr} {es:List Expr} {to:TE} {t:TA} {name:Str} {apos cpos:Pos} {T id:String} {r:V->List V->Hp->VK->Prop}
theorem pe_bm(pa:PlainAttrs T)(slot:Slot T name id)(hty:typeOf (.builtin id)=pure (.type "method_descriptor"))(hm:MtR X id r)(ho:PE X o to)(ha:PA X (e::es) t)
  (hbase:attributeBase o name X.env (eval o X.env)=eval o X.env:=by rfl)
  (hfew : ((backTo cpos (starEach (e :: es) X.env)).all (fun x => !x.1) && (backToKw cpos (keywordEach [] X.env)).all (fun x => x.1.isSome)
   && decide ((e::es).length+([]:List Keyword).length+(if ([]:List Keyword).isEmpty then 0 else 1)<30))=true:=by rfl)
  (hline:(apos.endLine == cpos.line)=true:=by rfl) (hs:starEach (e::es) X.env=(false,eval e X.env)::starEach es X.env:=by rfl) (hplain:(backTo cpos (starEach es X.env)).any (·.1)=false:=by rfl) :
  PE X (.Call (.Attribute o name apos) (e::es) [] cpos) (tBM X.K T r to t):=by
 intro pins s σ H Q I h
 refine wpAny_Call_method_late hbase hfew hline rfl (thn (ho pins s σ H _ I h) fun v s1 ⟨x,H1,I1,r1,ty,q1⟩=>?_)
 obtain⟨h1,h2⟩:=tyV_is I1 r1 ty
 refine⟨T,id,pa,slot,hty,h1,h2,?_⟩
 have hA:=ha cpos pins s1 σ H1 _ I1 q1
 rw[hs] at hA ⊢
 refine Calls.callWith_builtin (by show(false||(backTo cpos (starEach es X.env)).any (·.1))=false;rw[hplain]<;>rfl) (Calls.evalArgs_plain ?_)
 exact thn hA fun us s2 ⟨vs,H2,I2,r2,q2⟩=>hm pins s2 σ H2 x vs v us Q I2 r1 r2 q2
end
end L2
namespace L2
def MtM(X:Cx)(id:String)(r:V->List V->Hp->VK->Prop):Prop :=
 ∀ (pins:List (Addr × Obj)) (s:Shared) (σ:St) (H:Hp) (x:V) (xs:List V) (v:Value) (us:List Value) (Q:VK),Inv X pins σ H s->RelV x v->Vals xs us->r x xs H Q ->
  wpAny (model X.prog X.w) X.A (call (.builtin id) (v::us)) (EP X pins σ Q) X.xe s
theorem Vals.one:∀ {x:V} {us:List Value},Vals [x] us->∃ u,us=[u]/\RelV x u
 | _,_,.cons r .nil=>⟨_,rfl,r⟩
theorem Vals.eraseIdx:∀ {xs:List V} {us:List Value} (i:Nat),Vals xs us->Vals (xs.eraseIdx i) (us.eraseIdx i)
 | _,_,_,.nil=>.nil
 | _,_,0,.cons _ t=>t
 | _,_,i+1,.cons r t=>.cons r (Vals.eraseIdx i t)
theorem Vals.rep{xs:List V}{us:List Value}(h:Vals xs us):∀ k:Nat,Vals (replicate k xs).flatten (replicate k us).flatten
 | 0=>.nil
 | k+1=>by
  rw[replicate_succ,replicate_succ,flatten_cons,flatten_cons]
  exact Vals.append h (Vals.rep h k)
theorem len_erase{α:Type}:∀ (l:List α) (i:Nat),(l.eraseIdx i).length<=l.length
 | [],_=>Nat.le_refl _
 | _::_,0=>Nat.le_succ _
 | _::r,i+1=>Nat.succ_le_succ (len_erase r i)
theorem foldl_rep(its:List Value):∀ (k:Nat) (acc:List Value),
  List.foldl (fun x1 x2=>x1++x2) acc.toArray (replicate k its.toArray)=(acc++(replicate k its).flatten).toArray
 | 0,acc=>by simp
 | k + 1, acc => by
  have e:acc.toArray++its.toArray=(acc++its).toArray:=by simp
  have e2:(acc++its)++(replicate k its).flatten=acc++(replicate (k+1) its).flatten:=by
   rw[replicate_succ,flatten_cons,append_assoc]
  rw[<- e2,<- foldl_rep its k (acc++its),<- e,replicate_succ,List.foldl_cons]
section
variable {X:Cx} {pins:List (Addr × Obj)} {σ:St} {H:Hp} {s:Shared} {l b:Addr} {xs ys zs:List V}
theorem Inv.lset{its its':List Value}{n:Nat}{f:Array Value->Array Value}{t':Nat}(I:Inv X pins σ H s)(hH:H l=some (.lst xs))
  (e:s.heap.get? l=some { cls:=.type "list",data:=.seq its.toArray n }) (hf:f its.toArray=its'.toArray) (hv:Vals ys its') (hz:ys.length<=sizeLine) :
  Inv X pins σ (upd H l (.lst ys)) { s with heap:=s.heap.update l (Obj.mapSeq f),toks:=t' }:=by
 have q:=PySem.IsL.update e f
 rw[hf] at q
 refine I.write (x:=l) (e:=l) (by rw[hH];exact trivial) (.inl rfl) (fun b' u hb hu=>(Heap.get?_update_other s.heap (Obj.mapSeq f) (Ne.symm hb)).trans hu) ⟨_,q⟩ ?_
 exact⟨hz,its',_,hv,q⟩
theorem Inv.lnew{its:List Value}{t':Nat}(I:Inv X pins σ H s)(hv:Vals ys its)(hz:ys.length<=sizeLine) :
  Inv X pins σ (upd H s.heap.objs.size (.lst ys)) { s with heap:=s.heap.push { cls:=.type "list",data:=.seq its.toArray },toks:=t' } :=
 I.laid (fun _ _ q=>Heap.get?_push_of_some _ q) (Nat.le_refl _) ⟨hz,its,0,hv,Heap.get?_push_size _ rfl⟩
theorem Inv.fresh(I:Inv X pins σ H s):H s.heap.objs.size=none:=I.hok.fresh (Nat.le_refl _)
theorem Inv.lstM(I:Inv X pins σ H s)(hH:H l=some (.lst xs)):xs.length<=sizeLine/\∃ (its:List Value) (n:Nat),Vals xs its/\xs.length=its.length/\s.heap.get? l=some { cls:=.type "list",data:=.seq its.toArray n }:=by
 obtain⟨z,its,n,r,e⟩:=I.hok l _ hH
 exact⟨z,its,n,r,r.length,e⟩
end
section
variable {X:Cx}
def rAppend:V->List V->Hp->VK->Prop:=fun x vs H Q=>∃ l xs y,x=.ref l/\vs=[y]/\H l=some (.lst xs)/\xs.length<sizeLine/\Q .non (upd H l (.lst (xs++[y])))
theorem mt_append:MtM X "list.append" rAppend:=by
 intro pins s σ H x vs v us Q I rx rv h
 obtain⟨l,xs,y,rfl,rfl,hH,hz,q⟩:=h
 cases rx
 obtain⟨u,rfl,ru⟩:=rv.one
 obtain⟨z,its,n,r,hl,e⟩:=I.lstM hH
 refine call_meets F.slot_list_append ⟨_,e,rfl⟩ F.entry_list_append (F.args_list_append_2 _ _) (PySem.list_append l its.toArray n u (by rw[size_toArray];lia)) ⟨e,?_⟩
 refine⟨.non,_,I.lset (its':=its++[u]) hH e (by simp) (r.append (.cons ru .nil)) ?_,rfl,q⟩
 rw[length_append,List.length_singleton]
 lia
def rPopAt:V->List V->Hp->VK->Prop:=fun x vs H Q=>∃ l xs i k y,x=.ref l/\vs=[.int i]/\H l=some (.lst xs)/\-(2^63)<=i/\i<2^63/\seqIndex? i xs.length=some k/\xs[k]?=some y/\Q y (upd H l (.lst (xs.eraseIdx k)))
theorem mt_popAt:MtM X "list.pop" rPopAt:=by
 intro pins s σ H x vs v us Q I rx rv h
 obtain⟨l,xs,i,k,y,rfl,rfl,hH,h1,h2,hk,hy,q⟩:=h
 cases rx
 obtain⟨u,rfl,ru⟩:=rv.one
 obtain⟨t,rfl⟩:=ru
 obtain⟨z,its,n,r,hl,e⟩:=I.lstM hH
 obtain⟨w,hw,rw'⟩:=r.get hy
 refine call_meets F.slot_list_pop ⟨_,e,rfl⟩ F.entry_list_pop (F.args_list_pop_2 _ _)
  (MeetsSeq.list_pop_at l its.toArray n i t k w (fitsIndex_both h1 h2) (by rw[size_toArray,<- hl];exact hk) (by rw[<- Array.getElem?_toList];exact hw) (by rw[size_toArray];lia)) ⟨e,?_⟩
 refine⟨y,_,I.lset (its':=its.eraseIdx k) hH e ?_ (r.eraseIdx k) ?_,rw',q⟩
 ·show its.toArray.eraseIdxIfInBounds k = (its.eraseIdx k).toArray
  rw[List.eraseIdxIfInBounds_toArray]
 ·have := len_erase xs k
  lia
def rCat:R2:=fun x y H Q=>∃ l b xs zs,x=.ref l/\y=.ref b/\H l=some (.lst xs)/\H b=some (.lst zs)/\xs.length+zs.length<=sizeLine/\∀ p,H p=none->Q (.ref p) (upd H p (.lst (xs++zs)))
theorem op_cat:OpR X (binaryOp .Add) rCat:=by
 intro pins s σ H x y v u Q I rx ry h
 obtain⟨l,b,xs,zs,rfl,rfl,hH,hB,hz,q⟩:=h
 cases rx
 cases ry
 obtain⟨z,its,n,r,hl,e⟩:=I.lstM hH
 obtain⟨z2,its2,n2,r2,hl2,e2⟩:=I.lstM hB
 refine PySem.P.add_list e e2 ?_ (by rw[size_toArray,size_toArray];lia)
 have ea:its.toArray++its2.toArray=(its++its2).toArray:=by simp
 rw[ea]
 exact⟨.ref _,_,I.lnew (t':=s.toks) (r.append r2) (by rw[length_append];lia),rfl,q _ I.fresh⟩
theorem len_rep{α:Type}(xs:List α)(k:Nat):(replicate k xs).flatten.length=k*xs.length:=by
 induction k with
 | zero=>simp
 | succ k ih=>rw[replicate_succ,flatten_cons,length_append,ih,Nat.succ_mul,Nat.add_comm]
end
section
variable {prog:Program} {w:World} {A:Around} {E:Value->Shared->Prop} {s:Shared}
end
section
variable {X:Cx}
end
end L2
namespace Att
open PySem PySem.W PySem.Calls PyProof.Rows
theorem ints_of_wellAll{P:Params}{h:Heap}:∀ (ns:List Int) (vs:List Value),WellAll P h vs (ns.map WData.int)->IntsAre vs ns:=by
 intro ns
 induction ns with
 | nil =>
  intro vs w
  rw[map_nil] at w
  cases w
  exact .nil
 | cons n ns ih =>
  intro vs w
  rw[map_cons] at w
  cases w with
  | cons a b =>
   cases a
   exact .cons _ _ (ih _ b)
theorem script_of{l:OpenLaw}{n:Nat}(hn:l.most=some n){P:Params}{h:Heap}{args:List WData}{vals:List Value}
  (hpre:l.row.toRowW.claim.pre args=true) (hwl:WellAll P h vals args) :
  ∃ a vs ns,vals=[Value.ref a]/\args=[WData.list (ns.map WData.int)]/\h.get? a=some { cls:=.type "list",data:=.seq vs.toArray }/\IntsAre vs ns/\ns.length<=n:=by
 have hsh:WShape.hasAll [] args [.list .int]=true:=(pre_splitW hpre).1
 have hc:l.pre.holds [] { args:=args }=true:=(pre_splitW hpre).2
 obtain⟨d,r,rfl,h1,h2⟩:=hasAllW_cons hsh
 obtain rfl:=hasAllW_nil h2
 obtain⟨xs,rfl,h3⟩:=hasW_list h1
 obtain⟨ns,rfl⟩:=items_int h3
 have hlen:ns.length<=n:=by
  unfold OpenLaw.pre at hc
  have h4:(WTm.not (.lt (.lit (.int (n:Int))) (.len (.arg 0)))).holds [] { args:=[.list (ns.map .int)] }=true:=by
   have h4:=(holds_andW hc).1
   rw[hn] at h4
   exact h4
  have h5:=condW_of h4 (w_not (w_lt w_lit (w_len_list (w_arg rfl))))
  rw[length_map] at h5
  refine Nat.le_of_not_lt fun q=>?_
  have q':(n:Int)<((ns.length:Nat):Int):=by lia
  first
   | (rw[decide_eq_true q'] at h5;exact absurd h5 (by decide))
   | (simp at h5;lia)
 cases hwl with
 | cons w1 w2 =>
  cases w2
  cases w1 with
  | list ho hall=>exact⟨_,_,ns,rfl,rfl,ho,ints_of_wellAll ns _ hall,hlen⟩
theorem post_true(l:OpenLaw)(args:List WData):l.row.toRowW.claim.post args (.bool true) args=true :=
 postW_of (r:=l.row.toRowW) (X:=(true == true))
  (show WShape.has [] (.bool true) .bool=true by first | rfl | decide | simp[WShape.has,WShape.arms,WShape.armsAll])
  (show(WTm.eq .res (.lit (.bool true))).value [] { args:=args,res:=some (.bool true),after:=args }=some (.bool (true == true)) from w_eq_bool (w_res rfl) w_lit) rfl
theorem attach_call{l:OpenLaw}{n:Nat}{q:Program}{loose:List Str}{XP:(Str->Option Value)->Heap->Prop}{YP:World->Heap->Prop}{d:DefRec}
  (hn:l.most=some n) (hdf:d.params.defaults=[])
  (call : ∀ (w : World) (s₀ s₁ : Shared) (mg mb : Str -> Option Value) (fa : Addr) (o : Obj) (pm cd doc : Value) (a : Addr) (vs : List Value) (ns : List Int),
   Ground q loose [] XP w s₀ mg mb s₁.heap->YP w s₁.heap ->
   s₁.heap.get? fa=some o->o.data=.func (docDef d.name d.params d.body d.scope pm cd doc)->s₁.heap.CodeRec cd d.name->mg d.name=some (.ref fa) ->
   s₁.heap.get? a=some { cls:=.type "list",data:=.seq vs.toArray }->IntsAre vs ns->ns.length<=n->s₁.gens=#[] ->
   codeAny (model l.prog w) callerA (.call (.ref fa) ⟨[.ref a],[]⟩) (fun r s'=>r=.ok (.ret (.bool true))/\OldK s₁.heap s'.heap/\s'.os=s₁.os/\AllBare s'.gens) s₁) :
  WalkO q loose XP YP l.row.toRowW d [] (fun f vs=>PySem.call f vs):=by
 intro w s₀ s₁ mg mb G Y fa o pm cd doc dV kV ho hd hcd hD hmg hg args vals as hpre hlay hrd hwl hlo
 obtain rfl:dV=.none:=Dflts.none hD hdf
 obtain rfl:kV=.none:=Dflts.noKw hD
 obtain⟨a,vs,ns,rfl,rfl,hobj,hints,hlen⟩:=script_of hn hpre hwl
 refine enter_call (codeAny_mono (call w s₀ s₁ mg mb fa o pm cd doc a vs ns G Y ho (fd_plain hd) hcd hmg hobj hints hlen hg) fun r s' hq=>?_)
 obtain⟨rfl,h2,h3,h4⟩:=hq
 exact⟨.inl ⟨.bool true,.bool true,[],rfl,fun _=>rfl,.bool true,post_true l _,fun _=>⟨List.Pairwise.nil,fun _ hm=>(nomatch hm)⟩⟩,h2,h3,h4⟩
section
variable {prog:Program} {w:World} {A:Around} {E:Value->Shared->Prop} {s:Shared} {K:Frag}
end
end Att
namespace L2
theorem vals_ints:∀ {vs:List Value} {ns:List Int},IntsAre vs ns->Vals (ns.map V.int) vs
 | _,_,.nil=>.nil
 | _,_,.cons n t h=>.cons ⟨t,rfl⟩ (vals_ints h)
end L2
namespace L2
end L2
namespace L2
def defArgs(s:Stmt):Arguments:=match s with
 | .FunctionDef _ a _ _ _ _ _ _ _ _=>a
 | _=>{ posonlyargs:=[],args:=[],vararg:=none,kwonlyargs:=[],kw_defaults:=[],kwarg:=none,defaults:=[] }
def defBody(s:Stmt):List Stmt:=match s with
 | .FunctionDef _ _ b _ _ _ _ _ _ _=>b
 | _=>[]
def zi(s:Stmt):Scope:=match s with
 | .FunctionDef _ _ _ _ _ _ sc _ _ _=>sc
 | _=>{ kind:=.function,names:=[],isGenerator:=false,isCoroutine:=false }
abbrev CX0:CXT:=fun _ _ _ _ _ _=>False
abbrev E0:XK:=fun _ _ _=>False
theorem pass0{X:Cx}:Passes CX0 X E0:=fun _ _ _ _ _ _ _ h=>h.elim
structure Fun(K:W.Frag)(x qual:Str)(st:Stmt)(f:Addr)(fd:FuncData):Prop where
 ex:∃ (oc:Value) (od:Option Addr) (kV doc pm:Value) (an:Option Addr) (cdv ct:Value) (osl:Array (Option Value)),
  fd=W.fnOf x qual (defArgs st) (defBody st) (zi st) .none kV doc pm an cdv ct/\K.lookup f=some ⟨oc,od,.func fd,osl⟩/\W.codeIn K cdv qual=true
 kp:W.keepIn K (.ref f)=true
section
variable {P:Program} {w:World} {K:W.Frag} {mg:Str->Option Value} {base:Heap}
theorem Fun.ok{x qual:Str}{st:Stmt}{f:Addr}{fd:FuncData}{N ps:List Str}{k:Nat}{sp:Sp}(F:Fun K x qual st f fd)(S:FnScope N ps (zi st))(len:∀ vs H Q E,sp vs H Q E->vs.length=ps.length)
  (hbody : ∀ (cdv : Value) (A : Around) (outer : List Env) (s : Shared) (H : Hp) (vs : List V) (Q : VK) (E : XK), Room k (A.deeper (envOfC qual (zi st) s.heap.objs.size f cdv)) -> sp vs H Q E ->
   ∃ t,PSs (cxOf CX0 P w K mg base N qual (zi st) f cdv A outer s H E).nox (defBody st) t/\t { nx:=fun _ H'=>Q .non H',rt:=Q } (start N vs) H):FnOk P w K mg base CX0 (k+1) f fd ps sp:=by
 obtain⟨oc,od,kV,doc,pm,an,cdv,ct,osl,rfl,lk,hcd⟩:=F.ex
 refine fn_of lk hcd S len fun A outer s H vs Q E hr hsp=>?_
 obtain⟨t,h,q⟩:=hbody cdv A outer s H vs Q E hr hsp
 exact⟨t,h.nox,q⟩
theorem Fun.binds{x qual:Str}{st:Stmt}{f:Addr}{fd:FuncData}{ps:List Str}(F:Fun K x qual st f fd)
  (h:∀ (kV doc pm:Value) (an:Option Addr) (cdv ct:Value) (us:List Value),us.length=ps.length->bindArgs (W.fnOf x qual (defArgs st) (defBody st) (zi st) .none kV doc pm an cdv ct) ⟨us,[]⟩=pure (ps.zip us)):Binds K fd ps []:=by
 obtain⟨oc,od,kV,doc,pm,an,cdv,ct,osl,rfl,lk,hcd⟩:=F.ex
 exact .all (h kV doc pm an cdv ct)
theorem fun_mk{x qual:Str}{st:Stmt}{f:Addr}{oc:Value}{od an:Option Addr}{osl:Array (Option Value)}{kV doc pm cdv ct:Value}(l:K.lookup f=some ⟨oc,od,.func (W.fnOf x qual (defArgs st) (defBody st) (zi st) .none kV doc pm an cdv ct),osl⟩)
  (c:W.codeIn K cdv qual=true) (k:W.keepIn K (.ref f)=true):Fun K x qual st f (W.fnOf x qual (defArgs st) (defBody st) (zi st) .none kV doc pm an cdv ct):=⟨⟨oc,od,kV,doc,pm,an,cdv,ct,osl,rfl,l,c⟩,k⟩
end
theorem hu_of{A:Around}{k:Nat}(hr:Room k A):A.units+1<cLine:=Nat.lt_of_le_of_lt (Nat.add_le_add_left (by decide:1<=64) _) hr.units
section
variable {X:Cx}
end
end L2
namespace L2
open PySem
def closL(env:Env):List (Str × NameKind)->List (Str × Addr)->List (Str × Addr)
 | [],acc=>acc
 | y::r,acc=>if y.2 == .free then closL env r ((y.1,(env.cells.lookup y.1).getD 0)::acc) else closL env r acc
theorem xl{env:Env}:∀ (l:List (Str × NameKind)) (acc:List (Str × Addr)),(∀ y∈l,y.2=.free->∃ c,env.cells.lookup y.1=some c)->(∀ x c,acc.lookup x=some c->env.cells.lookup x=some c) ->
  ∀ x c,(closL env l acc).lookup x=some c->env.cells.lookup x=some c
 | [],acc,_,ha,x,c,h=>ha x c h
 | y :: r, acc, hf, ha, x, c, h => by
  unfold closL at h
  split at h
  ·rename_i hk
   have hk':y.2=.free:=by simpa using hk
   obtain⟨d,hd⟩:=hf y mem_cons_self hk'
   refine xl r _ (fun z hz=>hf z (mem_cons_of_mem _ hz)) (fun z e hz=>?_) x c h
   rw[lookup_cons] at hz
   cases hb:z == y.1 with
   | true =>
    rw[hb,hd] at hz
    have e2:z=y.1:=by simpa using hb
    have e3:d=e:=by simpa using hz
    rw[e2,hd,e3]
   | false=>rw[hb] at hz;exact ha z e hz
  ·exact xl r acc (fun z hz=>hf z (mem_cons_of_mem _ hz)) ha x c h
theorem closL_keep{env:Env}{x:Str}:∀ (l:List (Str × NameKind)) (acc:List (Str × Addr)),(∃ c,acc.lookup x=some c)->∃ c,(closL env l acc).lookup x=some c
 | [],acc,h=>h
 | y :: r, acc, h => by
  unfold closL
  split
  ·refine closL_keep r _ ?_
   rw[lookup_cons]
   cases hb:x == y.1 with
   | true=>exact⟨_,rfl⟩
   | false=>exact h
  ·exact closL_keep r acc h
theorem closL_has{env:Env}{y:Str × NameKind}(hk:y.2=.free):∀ (l:List (Str × NameKind)) (acc:List (Str × Addr)),y∈l->∃ c,(closL env l acc).lookup y.1=some c
 | [],acc,h=>by simp at h
 | z :: r, acc, h => by
  unfold closL
  rcases List.mem_cons.mp h with rfl | h
  ·rw [if_pos (by rw [hk]; rfl)]
   exact closL_keep r _ ⟨_,lookup_cons_self⟩
  ·split
   ·exact closL_has hk r _ h
   ·exact closL_has hk r _ h
theorem clos_forIn{env:Env}(f:Str × NameKind->List (Str × Addr)->Sem (ForInStep (List (Str × Addr))))
  (hf:∀ y acc,f y acc=if y.2 == .free then(cellOf env y.1 >>= fun c=>pure (.yield ((y.1,c)::acc))) else pure (.yield acc)) :
  ∀ (l:List (Str × NameKind)) (acc:List (Str × Addr)),(∀ y∈l,y.2=.free->∃ c,env.cells.lookup y.1=some c)->forIn l acc f=(pure (closL env l acc):Sem _)
 | [],acc,_=>by rw[forIn_nil];rfl
 | y :: r, acc, h => by
  have ih:=fun acc=>clos_forIn f hf r acc fun z hz=>h z (mem_cons_of_mem _ hz)
  rw[forIn_cons,hf]
  unfold closL
  split
  ·rename_i hk
   obtain⟨c,hc⟩:=h y mem_cons_self (by simpa using hk)
   have e:cellOf env y.1=pure c:=by unfold cellOf;rw[hc]
   rw[e,hc]
   exact ih _
  ·exact ih _
theorem clos_for{scope:Scope}{env:Env}(h:∀ y∈scope.names,y.2=.free->∃ c,env.cells.lookup y.1=some c):closureFor scope env=pure (closL env scope.names []):=by
 have e:=clos_forIn (env:=env) (fun x cs=>match x with | (name,kind)=>if (kind == NameKind.free)=true then(do let c <- cellOf env name;pure (.yield ((name,c)::cs))) else pure (.yield cs)) (fun y acc=>rfl) scope.names [] h
 have e2:closureFor scope env=((forIn scope.names [] (fun x cs=>match x with | (name,kind)=>if (kind == NameKind.free)=true then(do let c <- cellOf env name;pure (ForInStep.yield ((name,c)::cs))) else pure (ForInStep.yield cs)):Sem (List (Str × Addr))) >>= fun cs=>pure cs):=rfl
 rw[e2,e]
 rfl
theorem relab_lookup{env:Env}{x:Str}:∀ (l:List (Str × NameKind)),
  (l.map fun (n, k) => if (k == NameKind.free && env.scope.kind == .function && env.kindOf n == some .cell) then (n, NameKind.cell) else (n, k)).lookup x =
   (l.lookup x).map fun k=>if (k == NameKind.free&&env.scope.kind == .function&&env.kindOf x == some .cell) then NameKind.cell else k
 | []=>rfl
 | (n, k) :: r => by
  have ih:=@relab_lookup env x r
  rw[map_cons]
  by_cases e:x=n
  ·subst e
   dsimp only
   split
   ·rename_i h;rw[lookup_cons_self,lookup_cons_self,Option.map_some,if_pos h]
   ·rename_i h;rw[lookup_cons_self,lookup_cons_self,Option.map_some,if_neg h]
  ·have e' : (x == n) = false := by simpa using e
   dsimp only
   split
   ·rw[lookup_cons,e',lookup_cons,e'];exact ih
   ·rw[lookup_cons,e',lookup_cons,e'];exact ih
theorem cf_all:∀ (l:List (Str × NameKind)) (h:Heap) (acc:List (Str × Addr)) (x:Str) (c:Addr),(cellsFrom h.objs.size l acc).lookup x=some c ->
  ((pushCells h l).IsCell c none/\h.objs.size<=c/\(x,NameKind.cell)∈l)\/acc.lookup x=some c
 | [],_,_,_,_,e=>.inr e
 | (n, k) :: r, h, acc, x, c, e => by
  unfold cellsFrom at e
  unfold pushCells
  split at e
  ·rename_i hk
   have hk':k=.cell:=by simpa using hk
   rw[if_pos hk]
   have hz:(h.push { cls:=.type "cell",data:=.cell none }).objs.size=h.objs.size+1:=Heap.size_push ..
   rw[<- hz] at e
   rcases cf_all r (h.push { cls:=.type "cell",data:=.cell none }) _ x c e with ⟨a,b,d⟩ | q
   ·exact .inl ⟨a,by rw[hz] at b;lia,mem_cons_of_mem _ d⟩
   ·rw [List.lookup_cons] at q
    cases hb:x == n with
    | false=>rw[hb] at q;exact .inr q
    | true =>
     rw[hb] at q
     have e1:h.objs.size=c:=by simpa using q
     have e2:x=n:=by simpa using hb
     subst e1 e2
     refine .inl ⟨?_,Nat.le_refl _,by rw[hk'];exact mem_cons_self⟩
     exact⟨_,pushCells_keeps _ _ _ _ (Heap.get?_push_size _ rfl),rfl⟩
  ·rename_i hk
   rw[if_neg hk]
   rcases cf_all r h acc x c e with ⟨a,b,d⟩ | q
   ·exact .inl ⟨a,b,mem_cons_of_mem _ d⟩
   ·exact .inr q
theorem cf_inj:∀ (l:List (Str × NameKind)) (n:Nat) (acc:List (Str × Addr)),(∀ x y c,acc.lookup x=some c->acc.lookup y=some c->x=y)->(∀ x c,acc.lookup x=some c->c<n) ->
  ∀ x y c,(cellsFrom n l acc).lookup x=some c->(cellsFrom n l acc).lookup y=some c->x=y
 | [],_,_,hi,_,x,y,c,e,e'=>hi x y c e e'
 | (m, k) :: r, n, acc, hi, hl, x, y, c, e, e' => by
  unfold cellsFrom at e e'
  have one:∀ z d,((m,n)::acc).lookup z=some d->(z=m/\d=n)\/acc.lookup z=some d:=fun z d q=>by
   rw[lookup_cons] at q
   cases hb:z == m with
   | true=>rw[hb] at q;exact .inl ⟨by simpa using hb,by simpa using q.symm⟩
   | false=>rw[hb] at q;exact .inr q
  split at e
  ·rename_i hk
   rw[if_pos hk] at e'
   refine cf_inj r (n+1) ((m,n)::acc) (fun a b d q q'=>?_) (fun a d q=>?_) x y c e e'
   ·rcases one a d q with ⟨a1, a2⟩ | a1 <;> rcases one b d q' with ⟨b1, b2⟩ | b1
    ·rw[a1,b1]
    ·exact absurd (hl b d b1) (by rw[a2];exact Nat.lt_irrefl _)
    ·exact absurd (hl a d a1) (by rw[b2];exact Nat.lt_irrefl _)
    ·exact hi a b d a1 b1
   ·rcases one a d q with ⟨_, a2⟩ | a1
    ·rw[a2];exact Nat.lt_succ_self _
    ·exact Nat.lt_succ_of_lt (hl a d a1)
  ·rename_i hk
   rw[if_neg hk] at e'
   exact cf_inj r n acc hi hl x y c e e'
theorem cf_keep{x:Str}:∀ (l:List (Str × NameKind)) (n:Nat) (acc:List (Str × Addr)),(∃ c,acc.lookup x=some c)->∃ c,(cellsFrom n l acc).lookup x=some c
 | [],_,_,h=>h
 | (m, k) :: r, n, acc, h => by
  unfold cellsFrom
  split
  ·refine cf_keep r _ _ ?_
   rw[lookup_cons]
   cases hb:x == m with
   | true=>exact⟨_,rfl⟩
   | false=>exact h
  ·exact cf_keep r _ _ h
theorem cf_has{x:Str}:∀ (l:List (Str × NameKind)) (n:Nat) (acc:List (Str × Addr)),(x,NameKind.cell)∈l->∃ c,(cellsFrom n l acc).lookup x=some c
 | [],_,_,h=>by simp at h
 | (m, k) :: r, n, acc, h => by
  unfold cellsFrom
  rcases List.mem_cons.mp h with e | h
  ·cases e
   exact cf_keep r _ _ ⟨_,lookup_cons_self⟩
  ·split
   ·exact cf_has r _ _ h
   ·exact cf_has r _ _ h
theorem cf_ge{x : Str} : ∀ (l : List (Str × NameKind)) (n : Nat) (acc : List (Str × Addr)) (lo : Nat), lo <= n -> ((x, NameKind.cell) ∈ l \/ ∀ c, acc.lookup x = some c -> lo <= c) -> ∀ c, (cellsFrom n l acc).lookup x = some c -> lo <= c
  | [], n, acc, lo, hn, h, c, e => by
    rcases h with h | h
    · simp at h
    · exact h c e
  | (m, k) :: r, n, acc, lo, hn, h, c, e => by
    unfold cellsFrom at e
    split at e
    · rename_i hk
      refine cf_ge r (n+1) ((m,n)::acc) lo (by lia) ?_ c e
      rcases h with h | h
      · rcases List.mem_cons.mp h with z | z
        · cases z
          refine .inr fun d q=>?_
          rw[lookup_cons_self] at q
          have:n=d:=by simpa using q
          lia
        · exact .inl z
      · refine .inr fun d q => ?_
        rw[lookup_cons] at q
        cases hb:x == m with
        | true => rw [hb] at q; have : n = d := by simpa using q;
                  lia
        | false=>rw[hb] at q;exact h d q
    · rename_i hk
      refine cf_ge r n acc lo hn ?_ c e
      rcases h with h | h
      · rcases List.mem_cons.mp h with z | z
        · cases z;exact absurd rfl hk
        · exact .inl z
      · exact .inr h
section
variable {M:Model} {A:Around} {E:Value->Shared->Prop} {s:Shared}
theorem newEnv_comp{scope:Scope}{env:Env}{cl:List (Str × Addr)}{Q:Env->Shared->Prop}
  (h : Q (newEnv scope s.heap.objs.size env.globals (cellsFrom (s.heap.objs.size + 1) scope.names cl) env.qual none .none (some env) builtinsNs)
   { s with heap:=pushCells (s.heap.push { cls:=.type "dict",data:=.dict #[] }) scope.names }) :
  wpAny M A (newFunctionEnv scope env.globals cl [] env.qual none .none (some env)) Q E s:=by
 simp only[newFunctionEnv,Option.isSome_some,if_true]
 refine wpAny_bind (wpAny_alloc ?_)
 refine wpAny_bind (wpAny_layCells _ (fun name kind cells=>?_) _ _ _ _ ?_)
 ·cases hkc:kind == NameKind.cell<;>simp[hkc]
 ·rw [List.forIn_nil]
  refine wpAny_bind (wpAny_pure (wpAny_pure ?_))
  have hz:({ s with heap:=s.heap.push { cls:=.type "dict",data:=.dict #[] } }:Shared).heap.objs.size=s.heap.objs.size+1:=Heap.size_push ..
  rw[hz]
  exact h
end
abbrev cTests(ifs:List Expr)(env:Env):Sem Bool:=forIn ifs true fun c r=>if r=true then do let ok <- isTrue c env (eval c env);pure (ForInStep.yield ok) else pure (ForInStep.yield r)
section
variable {prog:Program} {w:World} {A:Around} {R:Result->Shared->Prop} {s:Shared}
theorem comp_loop{elt target iter:Expr}{ifs:List Expr}{scope:Scope}{pos:Pos}{it acc:Value}{env:Env}(J:Nat->Shared->Prop)
  (turn : ∀ n s, J n s -> wpAny (model prog w) A (pyNext it) (fun r s1 => match r with
   | none=>R (.ok .next) s1
   | some v => wpAny (model prog w) A (letOwnedTupleGo target it v) (fun _ s2 => wpAny (model prog w) A (assign target env v) (fun _ s3 => wpAny (model prog w) A (cTests ifs env) (fun ok s4 =>
     if ok=true then wpAny (model prog w) A (eval elt env) (fun x s5=>wpAny (model prog w) A (call (.builtin "list.append") [acc,x]) (fun _ s6=>∃ m,m<n/\J m s6) (fun _ _=>False) s5) (fun _ _=>False) s4
     else ∃ m,m<n/\J m s4) (fun _ _=>False) s3) (fun _ _=>False) s2) (fun _ _=>False) s1) (fun _ _=>False) s)
  (n:Nat) (h:J n s):codeAny (model prog w) A (.compLoop (.ListComp elt [⟨target,iter,ifs,0⟩] scope pos) 0 it acc env) R s:=by
 refine codeAny_loop rfl J (fun n s hJ=>?_) n h
 show wpAny _ A ((compTurn (.ListComp elt [⟨target,iter,ifs,0⟩] scope pos) 0 it acc env).onRaise (fun x=>do noteFrame x env;theTreesLotGoes x)) _ _ s
 refine wpAny_noted ?_
 rw[compTurn_list]
 have up:∀ {α:Type} {t:Sem α} {Q Q':α->Shared->Prop} {E:Value->Shared->Prop} {s:Shared},wpAny (model prog w) A t Q (fun _ _=>False) s->(∀ a s,Q a s->Q' a s)->wpAny (model prog w) A t Q' E s :=
  fun h f=>wpAny_mono h f fun _ _ z=>False.elim z
 refine wpAny_bind (wpAny_standAt (wpAny_bind (up (turn n s hJ) fun r s1 h1=>?_)))
 cases r with
 | none=>exact wpAny_pure h1
 | some v =>
  refine wpAny_bind (up h1 fun _ s2 h2=>?_)
  refine wpAny_bind (up h2 fun _ s3 h3=>?_)
  refine wpAny_bind (up h3 fun ok s4 h4=>?_)
  cases ok with
  | false=>exact wpAny_pure ⟨rfl,h4⟩
  | true=>exact wpAny_bind (wpAny_bind (up h4 fun x s5 h5=>wpAny_bind (up h5 fun _ s6 h6=>wpAny_pure (wpAny_pure ⟨rfl,h6⟩))))
end
end L2
namespace L2
open PySem
def itName(b:Bool):String:=if b then "list_iterator" else "tuple_iterator"
def SeqIs(b:Bool)(h:Heap)(l:Addr)(xs:Array Value):Prop:=match b with | true=>h.IsList l xs | false=>h.IsTuple l xs
def IterIs(b:Bool)(h:Heap)(i l:Addr)(k:Nat):Prop:=match b with | true=>h.IsListIter i l k | false=>h.IsTupleIter i l k
theorem SeqIs.at{b:Bool}{h h':Heap}{l:Addr}{xs:Array Value}(x:SeqIs b h l xs)(hk:∀ o,h.get? l=some o->h'.get? l=some o):SeqIs b h' l xs:=by
 cases b<;>(obtain⟨o,e,r⟩:=x;exact⟨o,hk o e,r⟩)
theorem IterIs.at{b:Bool}{h h':Heap}{i l:Addr}{k:Nat}(x:IterIs b h i l k)(hk:∀ o,h.get? i=some o->h'.get? i=some o):IterIs b h' i l k:=by
 cases b<;>(obtain⟨o,e,r⟩:=x;exact⟨o,hk o e,r⟩)
theorem IterIs.obj{b:Bool}{h:Heap}{i l:Addr}{k:Nat}(x:IterIs b h i l k):∃ o,h.get? i=some o/\o.cls=.type (itName b)/\o.data=.fields #[.ref l,.int k 0]:=by
 cases b<;>exact x
theorem SeqIs.ne{b c:Bool}{h:Heap}{l i m:Addr}{k:Nat}{xs:Array Value}(x:SeqIs b h l xs)(y:IterIs c h i m k):l≠i:=by
 rintro rfl
 obtain⟨o,e,hc,_⟩:=y.obj
 cases b<;>(obtain⟨o',e',hc',_⟩:=x;rw[e] at e';cases e';rw[hc] at hc';cases c<;>exact absurd (Value.type.inj hc') (by decide))
section
variable {prog:Program} {w:World} {A:Around} {E:Value->Shared->Prop} {s:Shared}
theorem pyIter_seq{b:Bool}{l:Addr}{xs:Array Value}{Q:Value->Shared->Prop}(hl:SeqIs b s.heap l xs)
  (hQ:Q (.ref s.heap.objs.size) { s with heap:=s.heap.push { cls:=.type (itName b),data:=.fields #[.ref l,.int 0 0] } }):wpAny (model prog w) A (pyIter (.ref l)) Q E s:=by
 cases b with
 | true=>exact wpAny_pyIter_list hl hQ
 | false=>exact wpAny_pyIter_tuple hl hQ
theorem nextOf_tup{it l:Addr}{i:Nat}{items:Array Value}{x:Value}{Q:Value->Shared->Prop}(hit:s.heap.IsTupleIter it l i)(hl:s.heap.IsTuple l items)(hx:items[i]?=some x)
  (hQ:∀ h',h'.IsTupleIter it l (i+1)->Heap.SameBut it s.heap h'->Q x { s with heap:=h' }):wpAny (model prog w) A (Builtin.SmallTypes.nextOf (.ref it)) Q E s:=by
 obtain⟨o,ho,hc,hd⟩:=id hit
 obtain⟨ol,hol,_,nl,hdl⟩:=hl
 unfold Builtin.SmallTypes.nextOf
 refine wpAny_bind (wpAny_callSpecial?_slot (name:=Str.ofString "__next__") hit.typeIs F.slot_tuple_iterator_next (wpAny_call_entry F.slot_tuple_iterator_next hit.typeIs F.entry_tuple_iterator_next ?_ (F.args_tuple_iterator_next_1 _)))
 show wpAny _ A.in1 (field (.ref it) 0 >>= _) _ _ s
 refine wpAny_bind (wpAny_field (x:=.ref l) ho hd rfl ?_)
 show wpAny _ A.in1 (if (Value.ref l == Value.none)=true then _ else _) _ _ s
 have nn:¬ ((Value.ref l == Value.none)=true):=Bool.false_ne_true
 rw[if_neg nn]
 show wpAny _ A.in1 (field (.ref it) 1 >>= _) _ _ s
 refine wpAny_bind (wpAny_field (x:=.int i 0) ho hd rfl ?_)
 show wpAny _ A.in1 (seqItems? (.ref l) >>= _) _ _ s
 refine wpAny_bind (wpAny_seqItems hol hdl ?_)
 simp only[hx,Int.toNat_natCast]
 refine wpAny_bind (wpAny_setField ho hd (by simp) (wpAny_pure ⟨x,rfl,wpAny_pure (hQ _ ⟨_,Heap.get?_update_self _ ho (Obj.isFreed_of_fields (Obj.data_mapFields hd _)),(Obj.cls_mapFields ..).trans hc,?_⟩ (Heap.SameBut.update ..))⟩))
 rw[Obj.data_mapFields hd]
 simp[rawInt]
theorem nextOf_tup_end{it l:Addr}{i:Nat}{items:Array Value}{Q:Value->Shared->Prop}(hh:A.handled=none)(hit:s.heap.IsTupleIter it l i)(hl:s.heap.IsTuple l items)(hx:items[i]?=none)
  (hE:∀ h' e,Heap.ExtBut it s.heap h'->(∃ o,h'.get? e=some o/\o.cls=.type "StopIteration")->E (.ref e) { s with heap:=h' }):wpAny (model prog w) A (Builtin.SmallTypes.nextOf (.ref it)) Q E s:=by
 obtain⟨o,ho,hc,hd⟩:=id hit
 obtain⟨ol,hol,_,nl,hdl⟩:=hl
 unfold Builtin.SmallTypes.nextOf
 refine wpAny_bind (wpAny_callSpecial?_slot (name:=Str.ofString "__next__") hit.typeIs F.slot_tuple_iterator_next (wpAny_call_entry F.slot_tuple_iterator_next hit.typeIs F.entry_tuple_iterator_next ?_ (F.args_tuple_iterator_next_1 _)))
 show wpAny _ A.in1 (field (.ref it) 0 >>= _) _ _ s
 refine wpAny_bind (wpAny_field (x:=.ref l) ho hd rfl ?_)
 show wpAny _ A.in1 (if (Value.ref l == Value.none)=true then _ else _) _ _ s
 have nn:¬ ((Value.ref l == Value.none)=true):=Bool.false_ne_true
 rw[if_neg nn]
 show wpAny _ A.in1 (field (.ref it) 1 >>= _) _ _ s
 refine wpAny_bind (wpAny_field (x:=.int i 0) ho hd rfl ?_)
 show wpAny _ A.in1 (seqItems? (.ref l) >>= _) _ _ s
 refine wpAny_bind (wpAny_seqItems hol hdl ?_)
 simp only[hx,Int.toNat_natCast]
 refine wpAny_bind (wpAny_rule (wpAny_bind (wpAny_setField ho hd (by simp) ?_)))
 show wpAny _ A.in1 (newExc (.type "StopIteration") [] >>= _) _ _ _
 refine wpAny_bind ?_
 simp only[newExc,newTuple]
 refine wpAny_bind (wpAny_newObj_type ?_ (by size_fits))
 refine wpAny_bind (m:=firstArgMember _ _) (wpAny_of_eq (a:=Value.none) (by simp only[firstArgMember];rfl) ?_)
 refine wpAny_newObj_type ?_ (by size_fits)
 simp only[raiseNew]
 refine wpAny_bind (wpAny_handled ?_)
 rw[show A.in1.handled=none from hh]
 refine wpAny_bind (wpAny_pure (wpAny_throw ?_))
 exact hE _ _ (((Heap.SameBut.update ..).extBut.push _).push _) ⟨_,Heap.get?_push_size _ rfl,rfl⟩
theorem nextOf_seq{b:Bool}{it l:Addr}{i:Nat}{items:Array Value}{x:Value}{Q:Value->Shared->Prop}(hit:IterIs b s.heap it l i)(hl:SeqIs b s.heap l items)(hx:items[i]?=some x)
  (hQ:∀ h',IterIs b h' it l (i+1)->Heap.SameBut it s.heap h'->Q x { s with heap:=h' }):wpAny (model prog w) A (Builtin.SmallTypes.nextOf (.ref it)) Q E s:=by
 cases b with
 | true=>exact wpAny_nextOf_list_item hit hl hx hQ
 | false=>exact nextOf_tup hit hl hx hQ
theorem nextOf_seq_end{b:Bool}{it l:Addr}{i:Nat}{items:Array Value}{Q:Value->Shared->Prop}(hh:A.handled=none)(hit:IterIs b s.heap it l i)(hl:SeqIs b s.heap l items)(hx:items[i]?=none)
  (hE:∀ h' e,Heap.ExtBut it s.heap h'->(∃ o,h'.get? e=some o/\o.cls=.type "StopIteration")->E (.ref e) { s with heap:=h' }):wpAny (model prog w) A (Builtin.SmallTypes.nextOf (.ref it)) Q E s:=by
 cases b with
 | true=>exact wpAny_nextOf_list_end hh hit hl hx hE
 | false=>exact nextOf_tup_end hh hit hl hx hE
structure ZApart(z ti to i1 i2:Addr):Prop where
 a1:ti≠z
 a2:to≠z
 a3:i1≠z
 a4:i2≠z
 a5:ti≠to
 a6:ti≠i1
 a7:ti≠i2
 a8:to≠i1
 a9:to≠i2
 a10:i1≠i2
structure ZSt(b c:Bool)(z ti to i1 i2 l1 l2:Addr)(k:Nat)(h:Heap):Prop where
 z:IsZip h z ti to .none
 ti:IsPair h ti (.ref i1) (.ref i2)
 to:∃ u v,IsPair h to u v
 i1:IterIs b h i1 l1 k
 i2:IterIs c h i2 l2 k
structure ZMid(b c:Bool)(z ti to i1 i2 l1 l2:Addr)(k:Nat)(T:Addr)(h:Heap):Prop where
 z:IsZip h z ti to (rawInt T)
 ti:IsPair h ti (.ref i1) (.ref i2)
 to:∃ u v,IsPair h to u v
 i1:IterIs b h i1 l1 (k+1)
 i2:IterIs c h i2 l2 (k+1)
theorem ZSt.apartL{b c d:Bool}{z ti to i1 i2 l1 l2 l:Addr}{k:Nat}{h:Heap}{xs:Array Value}(x:ZSt b c z ti to i1 i2 l1 l2 k h)(hl:SeqIs d h l xs)(hto:l≠to):l≠z/\l≠i1/\l≠i2:=by
 refine⟨?_,hl.ne x.i1,hl.ne x.i2⟩
 rintro rfl
 have e:=x.z
 cases d<;>(obtain⟨o',e',hc',_⟩:=hl;rw[e] at e';cases e';exact absurd (Value.type.inj hc') (by decide))
theorem zip_item{b c:Bool}{z ti to i1 i2 l1 l2:Addr}{k:Nat}{xs ys:Array Value}{x y:Value}{Q:Value->Shared->Prop}(D:ZApart z ti to i1 i2)(S:ZSt b c z ti to i1 i2 l1 l2 k s.heap)
  (hl1:SeqIs b s.heap l1 xs) (hl2:SeqIs c s.heap l2 ys) (n1:l1≠to) (n2:l2≠to) (hx:xs[k]?=some x) (hy:ys[k]?=some y)
  (hQ:∀ h',ZMid b c z ti to i1 i2 l1 l2 k s.heap.objs.size h'->IsPair h' s.heap.objs.size x y->(∀ d o,d≠z->d≠to->d≠i1->d≠i2->s.heap.get? d=some o->h'.get? d=some o)->Q (.ref s.heap.objs.size) { s with heap:=h' }) :
  wpAny (model prog w) A (Builtin.«zip.__next__» ⟨[.ref z],[]⟩) (fun fin s'=>∃ v,fin=.done (.ret v)/\Q v s') E s:=by
 obtain⟨m1,m2,m3⟩:=S.apartL hl1 n1
 obtain⟨m4,m5,m6⟩:=S.apartL hl2 n2
 obtain⟨hz,hTI,⟨u,v,hTO⟩,h1,h2⟩:=S
 show wpAny _ A (field (.ref z) 2 >>= _) _ _ _
 refine wpAny_bind (wpAny_field (x:=.bool false) hz rfl rfl ?_)
 show wpAny _ A (field (.ref z) 3 >>= _) _ _ _
 refine wpAny_bind (wpAny_field (x:=.ref ti) hz rfl rfl ?_)
 refine wpAny_bind (wpAny_seqItems hTI rfl ?_)
 show wpAny _ A (Builtin.SmallTypes.ownedTupleIsFree (.ref z) >>= _) _ _ _
 refine wpAny_bind ?_
 unfold Builtin.SmallTypes.ownedTupleIsFree
 refine wpAny_bind (wpAny_field (x:=.none) hz rfl rfl (wpAny_pure ?_))
 simp only[if_true]
 refine wpAny_bind (wpAny_rule ?_)
 refine wpAny_bind (wpAny_field (x:=.ref to) hz rfl rfl ?_)
 refine wpAny_bind (wpAny_setField_rec hz (by simp) fun g1 hz1 s1=>?_)
 replace hz1:IsZip g1 z ti to .ellipsis:=hz1
 refine wpAny_bind ?_
 simp only[forIn_cons,forIn_nil,zipIdx_cons,List.zipIdx_nil]
 refine wpAny_bind (wpAny_bind (wpAny_onRaise ?_))
 show wpAny _ A (Builtin.SmallTypes.nextOf (.ref i1) >>= _) _ _ _
 refine wpAny_bind (nextOf_seq (h1.at fun o e=>s1.extBut _ _ D.a3 e) (hl1.at fun o e=>s1.extBut _ _ m1 e) hx fun g2 k1 s2=>wpAny_pure ?_)
 have hTO2:IsPair g2 to u v:=s2.extBut _ _ D.a8 (s1.extBut _ _ D.a2 hTO)
 refine wpAny_bind (wpAny_seqItems hTO2 rfl ?_)
 refine wpAny_bind (wpAny_updateSeq_pair hTO2 fun g3 hTO3 s3=>?_)
 replace hTO3:IsPair g3 to x v:=hTO3
 refine wpAny_bind (wpAny_letGo (wpAny_pure ?_))
 refine wpAny_bind (wpAny_bind (wpAny_onRaise ?_))
 show wpAny _ A (Builtin.SmallTypes.nextOf (.ref i2) >>= _) _ _ _
 refine wpAny_bind (nextOf_seq (h2.at fun o e=>s3.extBut _ _ D.a9.symm (s2.extBut _ _ D.a10.symm (s1.extBut _ _ D.a4 e))) (hl2.at fun o e=>s3.extBut _ _ n2 (s2.extBut _ _ m5 (s1.extBut _ _ m4 e))) hy fun g4 k2 s4=>wpAny_pure ?_)
 have hTO4:IsPair g4 to x v:=s4.extBut _ _ D.a9 hTO3
 refine wpAny_bind (wpAny_seqItems hTO4 rfl ?_)
 refine wpAny_bind (wpAny_updateSeq_pair hTO4 fun g5 hTO5 s5=>?_)
 replace hTO5:IsPair g5 to x y:=hTO5
 refine wpAny_bind (wpAny_letGo (wpAny_pure (wpAny_pure ?_)))
 refine wpAny_bind (wpAny_seqItems hTO5 rfl ?_)
 refine wpAny_bind (wpAny_newTuple ?_)
 have sz:g5.objs.size=s.heap.objs.size:=by rw[s5.1,s4.1,s3.1,s2.1,s1.1]
 have z5:IsZip g5 z ti to .ellipsis:=s5.extBut _ _ D.a2.symm (s4.extBut _ _ D.a4.symm (s3.extBut _ _ D.a2.symm (s2.extBut _ _ D.a3.symm hz1)))
 have kp:∀ d o,d≠z->d≠to->d≠i1->d≠i2->s.heap.get? d=some o->g5.get? d=some o:=fun d o d1 d2 d3 d4 e=>s5.extBut _ _ d2 (s4.extBut _ _ d4 (s3.extBut _ _ d2 (s2.extBut _ _ d3 (s1.extBut _ _ d1 e))))
 have j1:IterIs b g5 i1 l1 (k+1):=k1.at fun o e=>s5.extBut _ _ D.a8.symm (s4.extBut _ _ D.a10 (s3.extBut _ _ D.a8.symm e))
 have j2:IterIs c g5 i2 l2 (k+1):=k2.at fun o e=>s5.extBut _ _ D.a9.symm e
 have zl:z<g5.objs.size:=Heap.lt_size z5
 show wpAny _ A (Builtin.SmallTypes.ownedTupleHandOut (.ref z) (.ref g5.objs.size) >>= _) _ _ _
 refine wpAny_bind ?_
 unfold Builtin.SmallTypes.ownedTupleHandOut
 have z6:IsZip (g5.push { cls:=.type "tuple",data:=.seq #[x,y] }) z ti to .ellipsis:=Heap.get?_push_of_some _ z5
 refine wpAny_bind (wpAny_setField_rec z6 (by simp) fun g7 z7 s7=>?_)
 replace z7:IsZip g7 z ti to (rawInt g5.objs.size):=z7
 refine wpAny_setField_rec z7 (by simp) fun g8 z8 s8=>?_
 replace z8:IsZip g8 z ti to (rawInt g5.objs.size):=z8
 have up:∀ d o,d≠z->g5.get? d=some o->g8.get? d=some o:=fun d o d1 e=>s8.extBut _ _ d1 (s7.extBut _ _ d1 (Heap.get?_push_of_some _ e))
 have T8:IsPair g8 g5.objs.size x y:=s8.extBut _ _ (Nat.ne_of_gt zl) (s7.extBut _ _ (Nat.ne_of_gt zl) (Heap.get?_push_size _ rfl))
 rw[sz] at z8 T8
 refine wpAny_pure ⟨_,rfl,?_⟩
 show Q (.ref g5.objs.size) _
 rw[sz]
 exact hQ g8 ⟨z8,up _ _ D.a1 (kp _ _ D.a1 D.a5 D.a6 D.a7 hTI),⟨_,_,up _ _ D.a2 hTO5⟩,j1.at fun o e=>up _ o D.a3 e,j2.at fun o e=>up _ o D.a4 e⟩ T8 fun d o d1 d2 d3 d4 e=>up d o d1 (kp d o d1 d2 d3 d4 e)
theorem zip_stop{b c:Bool}{z ti to i1 i2 l1 l2:Addr}{k:Nat}{xs ys:Array Value}{Q:Fin->Shared->Prop}(hh:A.handled=none)(D:ZApart z ti to i1 i2)(S:ZSt b c z ti to i1 i2 l1 l2 k s.heap)
  (hl1:SeqIs b s.heap l1 xs) (hl2:SeqIs c s.heap l2 ys) (n1:l1≠to) (n2:l2≠to) (hend:xs[k]?=none\/ys[k]?=none)
  (hE:∀ h' e,(∀ d o,d≠z->d≠to->d≠i1->d≠i2->s.heap.get? d=some o->h'.get? d=some o)->(∃ o,h'.get? e=some o/\o.cls=.type "StopIteration")->E (.ref e) { s with heap:=h' }) :
  wpAny (model prog w) A (Builtin.«zip.__next__» ⟨[.ref z],[]⟩) Q E s:=by
 obtain⟨m1,m2,m3⟩:=S.apartL hl1 n1
 obtain⟨m4,m5,m6⟩:=S.apartL hl2 n2
 obtain⟨hz,hTI,⟨u,v,hTO⟩,h1,h2⟩:=S
 show wpAny _ A (field (.ref z) 2 >>= _) _ _ _
 refine wpAny_bind (wpAny_field (x:=.bool false) hz rfl rfl ?_)
 show wpAny _ A (field (.ref z) 3 >>= _) _ _ _
 refine wpAny_bind (wpAny_field (x:=.ref ti) hz rfl rfl ?_)
 refine wpAny_bind (wpAny_seqItems hTI rfl ?_)
 show wpAny _ A (Builtin.SmallTypes.ownedTupleIsFree (.ref z) >>= _) _ _ _
 refine wpAny_bind ?_
 unfold Builtin.SmallTypes.ownedTupleIsFree
 refine wpAny_bind (wpAny_field (x:=.none) hz rfl rfl (wpAny_pure ?_))
 simp only[if_true]
 refine wpAny_bind (wpAny_rule ?_)
 refine wpAny_bind (wpAny_field (x:=.ref to) hz rfl rfl ?_)
 refine wpAny_bind (wpAny_setField_rec hz (by simp) fun g1 hz1 s1=>?_)
 replace hz1:IsZip g1 z ti to .ellipsis:=hz1
 refine wpAny_bind ?_
 simp only[forIn_cons,forIn_nil,zipIdx_cons,List.zipIdx_nil]
 refine wpAny_bind (wpAny_bind (wpAny_onRaise ?_))
 show wpAny _ A (Builtin.SmallTypes.nextOf (.ref i1) >>= _) _ _ _
 have q1:IterIs b g1 i1 l1 k:=h1.at fun o e=>s1.extBut _ _ D.a3 e
 have q2:SeqIs b g1 l1 xs:=hl1.at fun o e=>s1.extBut _ _ m1 e
 cases hx:xs[k]? with
 | none =>
  refine wpAny_bind (nextOf_seq_end hh q1 q2 hx fun g2 e s2 he=>?_)
  obtain⟨oe,hoe,hce⟩:=he
  have z2:IsZip g2 z ti to .ellipsis:=s2 _ _ D.a3.symm hz1
  have hez:e≠z:=fun q=>by subst q;rw[z2] at hoe;cases hoe;exact absurd (Value.type.inj hce) (by decide)
  exact wpAny_setField_rec z2 (by simp) fun g3 _ s3=>hE g3 e (fun d o d1 _ d3 _ q=>s3.extBut _ _ d1 (s2 _ _ d3 (s1.extBut _ _ d1 q))) ⟨oe,s3.extBut _ _ hez hoe,hce⟩
 | some x =>
  have hy:ys[k]?=none:=by
   rcases hend with h | h
   ·rw[hx] at h;cases h
   ·exact h
  refine wpAny_bind (nextOf_seq q1 q2 hx fun g2 k1 s2=>wpAny_pure ?_)
  have hTO2:IsPair g2 to u v:=s2.extBut _ _ D.a8 (s1.extBut _ _ D.a2 hTO)
  refine wpAny_bind (wpAny_seqItems hTO2 rfl ?_)
  refine wpAny_bind (wpAny_updateSeq_pair hTO2 fun g3 hTO3 s3=>?_)
  refine wpAny_bind (wpAny_letGo (wpAny_pure ?_))
  refine wpAny_bind (wpAny_bind (wpAny_onRaise ?_))
  show wpAny _ A (Builtin.SmallTypes.nextOf (.ref i2) >>= _) _ _ _
  refine wpAny_bind (nextOf_seq_end hh (h2.at fun o e=>s3.extBut _ _ D.a9.symm (s2.extBut _ _ D.a10.symm (s1.extBut _ _ D.a4 e))) (hl2.at fun o e=>s3.extBut _ _ n2 (s2.extBut _ _ m5 (s1.extBut _ _ m4 e))) hy fun g4 e s4 he=>?_)
  obtain⟨oe,hoe,hce⟩:=he
  have z4:IsZip g4 z ti to .ellipsis:=s4 _ _ D.a4.symm (s3.extBut _ _ D.a2.symm (s2.extBut _ _ D.a3.symm hz1))
  have hez:e≠z:=fun q=>by subst q;rw[z4] at hoe;cases hoe;exact absurd (Value.type.inj hce) (by decide)
  exact wpAny_setField_rec z4 (by simp) fun g5 _ s5=>hE g5 e (fun d o d1 d2 d3 d4 q=>s5.extBut _ _ d1 (s4 _ _ d4 (s3.extBut _ _ d2 (s2.extBut _ _ d3 (s1.extBut _ _ d1 q))))) ⟨oe,s5.extBut _ _ hez hoe,hce⟩
theorem next_zip{b c:Bool}{z ti to i1 i2 l1 l2:Addr}{k:Nat}{xs ys:Array Value}{x y:Value}{Q:Option Value->Shared->Prop}(D:ZApart z ti to i1 i2)(S:ZSt b c z ti to i1 i2 l1 l2 k s.heap)
  (hl1:SeqIs b s.heap l1 xs) (hl2:SeqIs c s.heap l2 ys) (n1:l1≠to) (n2:l2≠to) (hx:xs[k]?=some x) (hy:ys[k]?=some y)
  (hQ:∀ h',ZMid b c z ti to i1 i2 l1 l2 k s.heap.objs.size h'->IsPair h' s.heap.objs.size x y->(∀ d o,d≠z->d≠to->d≠i1->d≠i2->s.heap.get? d=some o->h'.get? d=some o)->Q (some (.ref s.heap.objs.size)) { s with heap:=h' }) :
  wpAny (model prog w) A (pyNext (.ref z)) Q E s:=by
 have hT:s.TypeIs (.ref z) "zip" := ⟨_,S.z,rfl⟩
 unfold pyNext
 exact wpAny_bind (wpAny_attempt (wpAny_callSpecial?_slot (name:=Str.ofString "__next__") hT F.slot_zip_next (wpAny_call_entry F.slot_zip_next hT F.entry_zip_next
  (zip_item D S hl1 hl2 n1 n2 hx hy fun h' a1 a2 a3=>wpAny_pure (hQ h' a1 a2 a3)) (F.args_zip_next_1 _))))
theorem next_zip_end{b c:Bool}{z ti to i1 i2 l1 l2:Addr}{k:Nat}{xs ys:Array Value}{Q:Option Value->Shared->Prop}(hh:A.handled=none)(D:ZApart z ti to i1 i2)(S:ZSt b c z ti to i1 i2 l1 l2 k s.heap)
  (hl1:SeqIs b s.heap l1 xs) (hl2:SeqIs c s.heap l2 ys) (n1:l1≠to) (n2:l2≠to) (hend:xs[k]?=none\/ys[k]?=none)
  (hQ:∀ h',(∀ d o,d≠z->d≠to->d≠i1->d≠i2->s.heap.get? d=some o->h'.get? d=some o)->Q none { s with heap:=h' }):wpAny (model prog w) A (pyNext (.ref z)) Q E s:=by
 have hT:s.TypeIs (.ref z) "zip" := ⟨_,S.z,rfl⟩
 unfold pyNext
 refine wpAny_bind (wpAny_attempt (wpAny_callSpecial?_slot (name:=Str.ofString "__next__") hT F.slot_zip_next (wpAny_call_entry F.slot_zip_next hT F.entry_zip_next
  (zip_stop hh D S hl1 hl2 n1 n2 hend fun h' e hk he=>?_) (F.args_zip_next_1 _))))
 obtain⟨o,ho,hc⟩:=he
 refine wpAny_bind (wpAny_isInstance (T := "StopIteration") (b:=true) ⟨o,ho,hc⟩ isSubtype_stop (wpAny_pure (hQ _ hk)))
def zh1(h:Heap)(b:Bool)(l:Addr):Heap:=h.push { cls:=.type (itName b),data:=.fields #[.ref l,.int 0 0] }
def zh3(h:Heap)(b c:Bool)(l1 l2:Addr):Heap:=(zh1 (zh1 h b l1) c l2).push { cls:=.type "tuple",data:=.seq #[.ref h.objs.size,.ref (zh1 h b l1).objs.size] }
def zh4(h:Heap)(b c:Bool)(l1 l2:Addr):Heap:=(zh3 h b c l1 l2).push { cls:=.type "tuple",data:=.seq #[.none,.none] }
def zh5(h:Heap)(b c:Bool)(l1 l2:Addr):Heap:=(zh4 h b c l1 l2).push { cls:=.type "zip",data:=.fields #[.none,.bool false,.bool false,.ref (zh1 (zh1 h b l1) c l2).objs.size,.ref (zh3 h b c l1 l2).objs.size] }
end
theorem meets_zip(b c:Bool)(l1 l2:Addr)(xs ys:Array Value) :
  Meets (Builtin.«zip.__new__» ⟨[.type "zip",.ref l1,.ref l2],[]⟩) (fun _ R s=>SeqIs b s.heap l1 xs/\SeqIs c s.heap l2 ys /\
   R (.ok (.ret (.ref (zh4 s.heap b c l1 l2).objs.size))) { s with heap:=zh5 s.heap b c l1 l2 }) :=
 .of_wp fun prog w A R s h=>by
  obtain⟨hp,g,d,tk,os⟩:=s
  obtain⟨hl1,hl2,h⟩:=h
  have hsub:=sub_zip
  have q1:SeqIs b (Shared.heap ⟨hp,g,d,tk,os⟩) l1 xs:=hl1
  have q2:SeqIs c (Shared.heap ⟨hp.push { cls:=.type (itName b),data:=.fields #[.ref l1,.int 0 0] },g,d,tk,os⟩) l2 ys:=hl2.at fun o e=>Heap.get?_push_of_some _ e
  wp_walk using pyIter_seq q1,pyIter_seq q2
  exact⟨_,rfl,h⟩
section
variable {prog:Program} {w:World} {A:Around} {E:Value->Shared->Prop} {s:Shared}
theorem call_zip{b c:Bool}{l1 l2:Addr}{xs ys:Array Value}{Q:Value->Shared->Prop}(hl1:SeqIs b s.heap l1 xs)(hl2:SeqIs c s.heap l2 ys)
  (h:∀ h' z ti to i1 i2,ZApart z ti to i1 i2->ZSt b c z ti to i1 i2 l1 l2 0 h'->(∀ d∈[z,ti,to,i1,i2],s.heap.objs.size<=d)->(∀ d o,s.heap.get? d=some o->h'.get? d=some o)->Q (.ref z) { s with heap:=h' }) :
  wpAny (model prog w) A (call (.type "zip") [.ref l1,.ref l2]) Q E s:=by
 refine callType_new F.called_zip (by decide) (F.typeCall_zip_2 _ _) (F.newCall_zip_2 _ _) (fun obj=>F.args_object_init_3 obj _ _) F.entry_zip_new (meets_zip b c l1 l2 xs ys) ⟨hl1,hl2,?_⟩
 unfold zh5 zh4 zh3
 generalize h1:zh1 s.heap b l1=g1
 generalize h2:zh1 g1 c l2=g2
 have z1:g1.objs.size=s.heap.objs.size+1:=by rw[<- h1];exact Heap.size_push ..
 have z2:g2.objs.size=s.heap.objs.size+2:=by rw[<- h2];exact(Heap.size_push ..).trans (by rw[z1])
 generalize h3:g2.push { cls:=.type "tuple",data:=.seq #[.ref s.heap.objs.size,.ref g1.objs.size] }=g3
 have z3:g3.objs.size=s.heap.objs.size+3:=by rw[<- h3,Heap.size_push,z2]
 generalize h4:g3.push { cls:=.type "tuple",data:=.seq #[.none,.none] }=g4
 have z4:g4.objs.size=s.heap.objs.size+4:=by rw[<- h4,Heap.size_push,z3]
 have e1:g1.get? s.heap.objs.size=some { cls:=.type (itName b),data:=.fields #[.ref l1,.int 0 0] }:=by rw[<- h1];exact Heap.get?_push_size _ rfl
 have e2:g2.get? g1.objs.size=some { cls:=.type (itName c),data:=.fields #[.ref l2,.int 0 0] }:=by rw[<- h2];exact Heap.get?_push_size _ rfl
 have e3:g3.get? g2.objs.size=some { cls:=.type "tuple",data:=.seq #[.ref s.heap.objs.size,.ref g1.objs.size] }:=by rw[<- h3];exact Heap.get?_push_size _ rfl
 have e4:g4.get? g3.objs.size=some { cls:=.type "tuple",data:=.seq #[.none,.none] }:=by rw[<- h4];exact Heap.get?_push_size _ rfl
 have k1:∀ d o,s.heap.get? d=some o->g1.get? d=some o:=fun d o e=>by rw[<- h1];exact Heap.get?_push_of_some _ e
 have k2:∀ d o,g1.get? d=some o->g2.get? d=some o:=fun d o e=>by rw[<- h2];exact Heap.get?_push_of_some _ e
 have k3:∀ d o,g2.get? d=some o->g3.get? d=some o:=fun d o e=>by rw[<- h3];exact Heap.get?_push_of_some _ e
 have k4:∀ d o,g3.get? d=some o->g4.get? d=some o:=fun d o e=>by rw[<- h4];exact Heap.get?_push_of_some _ e
 show _/\_
 refine⟨⟨_,Heap.get?_push_size _ rfl,rfl⟩,?_⟩
 refine h _ g4.objs.size g2.objs.size g3.objs.size s.heap.objs.size g1.objs.size ⟨?_,?_,?_,?_,?_,?_,?_,?_,?_,?_⟩ ⟨Heap.get?_push_size _ rfl,Heap.get?_push_of_some _ (k4 _ _ e3),⟨_,_,Heap.get?_push_of_some _ e4⟩,?_,?_⟩ (fun d hd=>?_) fun d o e=>Heap.get?_push_of_some _ (k4 _ _ (k3 _ _ (k2 _ _ (k1 _ _ e))))
 ·rw[z2,z4];first | exact Nat.ne_of_lt (by lia) | exact Nat.ne_of_gt (by lia)
 ·rw[z3,z4];first | exact Nat.ne_of_lt (by lia) | exact Nat.ne_of_gt (by lia)
 ·rw[z4];first | exact Nat.ne_of_lt (by lia) | exact Nat.ne_of_gt (by lia)
 ·rw[z1,z4];first | exact Nat.ne_of_lt (by lia) | exact Nat.ne_of_gt (by lia)
 ·rw[z2,z3];first | exact Nat.ne_of_lt (by lia) | exact Nat.ne_of_gt (by lia)
 ·rw[z2];first | exact Nat.ne_of_lt (by lia) | exact Nat.ne_of_gt (by lia)
 ·rw[z2,z1];first | exact Nat.ne_of_lt (by lia) | exact Nat.ne_of_gt (by lia)
 ·rw[z3];first | exact Nat.ne_of_lt (by lia) | exact Nat.ne_of_gt (by lia)
 ·rw[z3,z1];first | exact Nat.ne_of_lt (by lia) | exact Nat.ne_of_gt (by lia)
 ·rw[z1];first | exact Nat.ne_of_lt (by lia) | exact Nat.ne_of_gt (by lia)
 ·cases b<;>exact⟨_,Heap.get?_push_of_some _ (k4 _ _ (k3 _ _ (k2 _ _ e1))),rfl,rfl⟩
 ·cases c<;>exact⟨_,Heap.get?_push_of_some _ (k4 _ _ (k3 _ _ e2)),rfl,rfl⟩
 ·simp only [List.mem_cons, List.not_mem_nil, or_false] at hd
  rcases hd with rfl | rfl | rfl | rfl | rfl
  ·rw[z4];lia
  ·rw[z2];lia
  ·rw[z3];lia
  ·exact Nat.le_refl _
  ·rw[z1];lia
end
end L2
namespace L2
theorem Inv.track{X:Cx}{pins:List (Addr × Obj)}{σ:St}{H:Hp}{s:Shared}{a:Addr}{o:HO}(I:Inv X pins σ H s)(hn:H a=none)(hz:X.s₀.heap.objs.size<=a)(hL:a≠X.env.locals)
  (hc:∀ x c,X.env.cells.lookup x=some c->c≠a) (hp:∀ p∈X.pn++pins,p.1≠a) (new:ObjOk X.prog X.w (upd H a o) s.heap a o):Inv X pins σ (upd H a o) s:=by
 have nb:∀ b u,H b=some u->b≠a:=fun b u e=>zy e hn
 refine⟨I.ok,I.os,I.bare,⟨I.base.keep,I.base.slot,fun b u e n hx=>?_,I.base.there,fun b xs e=>?_,fun b u xs e=>?_,fun b ps e=>?_⟩,I.loc,I.cell,?_,fun x c e=>?_,fun p hq=>?_,fun b u e=>?_,I.len⟩
 ·rw[zm (Nat.ne_of_lt (Nat.lt_of_lt_of_le (Heap.lt_size e) hz))];exact I.base.free b u e n hx
 ·have q:=I.base.tups b xs e;rw[zm (nb b _ q)];exact q
 ·have q:=I.base.frzs b u xs e;rw[zm (nb b _ q)];exact q
 ·obtain⟨m,q⟩:=I.base.tbls b ps e;exact⟨m,by rw[zm (nb b _ q)];exact q⟩
 ·rw[zm (Ne.symm hL)];exact I.free
 ·rw[zm (hc x c e)];exact I.freeC x c e
 ·obtain ⟨q1, q2, q3⟩ := I.pin p hq
  exact⟨q1,by rw[zm (hp p hq)];exact q2,q3⟩
 ·by_cases hb : b = a
  ·subst hb;rw[zw] at e;cases e;exact new
  ·rw [zm hb] at e
   exact(I.hok b u e).stay (fun _ _ _ q=>q) (fun c q=>by rw[zm (nb c _ q)];exact q) (fun c xs q=>by rw[zm (nb c _ q)];exact q) fun c o u q=>by rw[zm (nb c _ q)];exact q
structure CompOk(X:Cx)(scope:Scope)(M:List Str):Prop where
 kind:scope.kind=.function
 uniq:∀ y∈scope.names,scope.names.lookup y.1=some y.2
 frees:∀ y∈scope.names,y.2=.free->(X.env.kindOf y.1=some .cell\/X.env.kindOf y.1=some .free)
 shadow:∀ x∈M,scope.names.lookup x≠some .local/\scope.names.lookup x≠some .cell
 same:∀ (i:Nat) (x:Str),M[i]?=some x->scope.names.lookup x=some .free->X.N[i]?=some x
 mlen:M.length=X.N.length
def compChk(N M:List Str)(out sc:Scope):Bool :=
 (sc.kind == .function && sc.names.all (fun y => sc.names.lookup y.1 == some y.2 && (y.2 != .free || (out.names.lookup y.1 == some .cell || out.names.lookup y.1 == some .free))) &&
  M.all (fun x=>sc.names.lookup x != some .local&&sc.names.lookup x != some .cell))&&(M.length == N.length&&(M.zip N).all (fun p=>sc.names.lookup p.1 != some .free||p.1 == p.2))
theorem compOk{X:Cx}{sc:Scope}{M:List Str}(h:compChk X.N M X.env.scope sc=true):CompOk X sc M:=by
 unfold compChk at h
 rw[Bool.and_eq_true,Bool.and_eq_true,Bool.and_eq_true,Bool.and_eq_true,all_eq_true,all_eq_true,all_eq_true] at h
 obtain⟨⟨⟨h1,h2⟩,h3⟩,h4,h5⟩:=h
 have hl:M.length=X.N.length:=by simpa using h4
 refine⟨by simpa using h1,fun y hy=>?_,fun y hy hf=>?_,fun x hx=>?_,fun i x hi hf=>?_,hl⟩
 ·have := h2 y hy
  rw[Bool.and_eq_true] at this
  simpa using this.1
 ·have := h2 y hy
  rw[Bool.and_eq_true] at this
  have q:=this.2
  rw[hf] at q
  have q':(X.env.scope.names.lookup y.1 == some .cell||X.env.scope.names.lookup y.1 == some .free)=true:=by simpa using q
  rw[Bool.or_eq_true] at q'
  exact q'.imp (fun z=>(show X.env.scope.names.lookup y.1=some .cell by simpa using z)) fun z=>(show X.env.scope.names.lookup y.1=some .free by simpa using z)
 ·have := h3 x hx
  rw[Bool.and_eq_true] at this
  exact⟨by simpa using this.1,by simpa using this.2⟩
 ·have hlt : i < X.N.length := by rw [<- hl]; exact (List.getElem?_eq_some_iff.mp hi).1
  have hn:X.N[i]?=some X.N[i]:=getElem?_eq_getElem hlt
  have hz:(M.zip X.N)[i]?=some (x,X.N[i]):=by rw[List.getElem?_zip_eq_some];exact⟨hi,hn⟩
  have:=h5 _ (mem_of_getElem? hz)
  rw[Bool.or_eq_true] at this
  rcases this with z | z
  ·rw[hf] at z;simp at z
  ·have e : x = X.N[i] := by simpa using z
   rw[hn,<- e]
def cellsC(X:Cx)(scope:Scope)(C:Addr):List (Str × Addr):=cellsFrom (C+1) scope.names (closL X.env scope.names [])
def zr(X:Cx)(scope:Scope)(own M:List Str)(C:Addr)(s2:Shared)(H2:Hp)(fp:List Addr):Cx where
 prog:=X.prog
 w:=X.w
 K:=X.K
 mg:=X.mg
 base:=X.base
 A:=X.A
 N:=own++M
 s₀:=s2
 H₀:=H2
 env:=compEnvC scope (cellsC X scope C) C X.env
 outer:=X.stack
 stack:=X.stack
 ex:=fp
 fn:=fun x=>scope.names.lookup x == some .cell
 calm:=X.calm
 pn:=[]
 xe:=fun _ _=>False
def PTs(X:Cx)(ifs:List Expr)(t:TT):Prop :=
 ∀ (pins:List (Addr × Obj)) (s:Shared) (σ:St) (H:Hp) (Q:Bool->Hp->Prop),Inv X pins σ H s->t σ H Q->wpAny (model X.prog X.w) X.A (cTests ifs X.env) (TP X pins σ Q) X.xe s
def tYes:TT:=fun _ H Q=>Q true H
theorem pts_nil{X:Cx}:PTs X [] tYes:=fun _ _ _ H _ I h=>wpAny_pure ⟨H,I,h⟩
theorem pts_one{X:Cx}{c:Expr}{t:TT}(hc:PT X c t):PTs X [c] t:=by
 intro pins s σ H Q I h
 show wpAny _ _ (forIn [c] true _) _ _ s
 simp only[forIn_cons,forIn_nil,if_true]
 exact wpAny_bind (wpAny_bind (thn (hc pins s σ H Q I h) fun b s' hb=>wpAny_pure (wpAny_pure hb)))
def tComp(wi:TI)(own:Nat)(g:TG)(tt:TT)(te:TE):TE:=fun σ H Q=>wi σ H fun J H1=>∃ W:Nat->Nat->List V->Hp->Prop,(∃ m,W 0 m [] H1)/\∀ i m acc H,W i m acc H ->
 (J.stop i H/\acc.length<=sizeLine/\∀ D,H D=none->Q (.ref D) (upd H D (.lst acc))) \/
 (J.go i H /\ acc.length < sizeLine /\ ∀ x H', J.yld i H x H' -> g x (List.replicate own none ++ σ) H' fun σ2 H2 => σ2.drop own = σ /\ tt σ2 H2 fun c H3 =>
  if c=true then te σ2 H3 fun v H4=>∃ m',m'<m/\W (i+1) m' (acc++[v]) H4 else ∃ m',m'<m/\W (i+1) m' acc H3)
section
variable {X:Cx} {scope:Scope} {own M:List Str} {pins:List (Addr × Obj)} {σ:St} {H2:Hp} {s2:Shared} {fp:List Addr}
theorem CompOk.cells(ok:CompOk X scope M)(I:Inv X pins σ H2 s2):∀ y∈scope.names,y.2=.free->∃ c,X.env.cells.lookup y.1=some c:=fun y hy hf=>I.ok.has y.1 (ok.frees y hy hf)
theorem CompOk.kindIn(ok:CompOk X scope M){x:Str}{C:Addr}{k:NameKind}(h:(compEnvC scope (cellsC X scope C) C X.env).kindOf x=some k) :
  scope.names.lookup x=some k\/(k=.cell/\scope.names.lookup x=some .free):=by
 have h':(relabel scope X.env).names.lookup x=some k:=h
 unfold relabel at h'
 rw[relab_lookup] at h'
 cases e:scope.names.lookup x with
 | none=>rw[e] at h';simp at h'
 | some j =>
  rw[e,Option.map_some] at h'
  have h2:=Option.some.inj h'
  split at h2
  ·rename_i hc
   have:j=.free:=by
    rw[Bool.and_eq_true,Bool.and_eq_true] at hc
    simpa using hc.1.1
   exact .inr ⟨h2.symm,by rw[this]⟩
  ·exact .inl (by rw[h2])
theorem CompOk.cellsFrom_old(ok:CompOk X scope M)(I:Inv X pins σ H2 s2){C:Addr}{x:Str}{c:Addr}(h:(cellsC X scope C).lookup x=some c)(hx:scope.names.lookup x≠some .cell):X.env.cells.lookup x=some c:=by
 have e0 : ∀ (l : List (Str × NameKind)) (n : Nat) (acc : List (Str × Addr)), (x, NameKind.cell) ∉ l -> (cellsFrom n l acc).lookup x = acc.lookup x := by
  intro l
  induction l with
  | nil=>intro n acc _;rfl
  | cons y r ih =>
   intro n acc hy
   obtain⟨m,k⟩:=y
   unfold cellsFrom
   split
   ·rename_i hk
    have hk':k=.cell:=by simpa using hk
    rw[ih _ _ fun z=>hy (mem_cons_of_mem _ z),lookup_cons]
    have:(x == m)=false:=by
     cases hb:x == m with
     | false=>rfl
     | true =>
      have e:x=m:=by simpa using hb
      exact absurd (by rw[hk',e];exact mem_cons_self) hy
    rw[this]
   ·exact ih _ _ fun z=>hy (mem_cons_of_mem _ z)
 unfold cellsC at h
 rw[e0 _ _ _ fun hm=>hx (ok.uniq _ hm)] at h
 exact xl scope.names [] (ok.cells I) (fun _ _ z=>by simp at z) x c h
theorem inv_comp(ok:CompOk X scope M)(hc:X.calm=true)(I:Inv X pins σ H2 s2)(hf:∀ b∈fp,FpOk X pins H2 b/\b<s2.heap.objs.size){C:Addr}(hC:C=s2.heap.objs.size+1){h4:Heap}
  (hh:h4=pushCells ((s2.heap.push { cls:=.type "list",dict:=none,data:=.seq ([]:List Value).toArray }).push { cls:=.type "dict",data:=.dict #[] }) scope.names) :
  Inv (zr X scope own M C s2 H2 fp) [] (replicate own.length none++σ) H2 { s2 with heap:=h4 }:=by
 have zC:(s2.heap.push { cls:=.type "list",dict:=none,data:=.seq ([]:List Value).toArray }).objs.size=C:=by rw[Heap.size_push,hC]
 have zC1:((s2.heap.push { cls:=.type "list",dict:=none,data:=.seq ([]:List Value).toArray }).push { cls:=.type "dict",data:=.dict #[] }).objs.size=C+1:=by rw[Heap.size_push,zC]
 have keep:∀ b o,s2.heap.get? b=some o->h4.get? b=some o:=fun b o e=>by
  rw[hh];exact pushCells_keeps _ _ _ _ (Heap.get?_push_of_some _ (Heap.get?_push_of_some _ e))
 have cellOld:∀ x c,X.env.cells.lookup x=some c->c<s2.heap.objs.size:=fun x c e=>by obtain⟨v,q⟩:=I.cell x c e;exact q.lt
 have cellB:∀ x c,(cellsC X scope C).lookup x=some c->(h4.IsCell c none/\C+1<=c/\scope.names.lookup x=some .cell)\/X.env.cells.lookup x=some c:=fun x c e=>by
  by_cases hx:scope.names.lookup x=some .cell
  ·have e' := e
   unfold cellsC at e'
   rw[<- zC1] at e'
   rcases cf_all _ _ _ x c e' with ⟨a,b,d⟩ | q
   ·exact .inl ⟨by rw[hh];exact a,by rw[zC1] at b;exact b,hx⟩
   ·exact .inr (xl scope.names [] (ok.cells I) (fun _ _ z=>by simp at z) x c q)
  ·exact .inr (ok.cellsFrom_old I e hx)
 have hNs:∃ m,h4.Ns C m:=by
  have q:((s2.heap.push { cls:=.type "list",dict:=none,data:=.seq ([]:List Value).toArray }).push { cls:=.type "dict",data:=.dict #[] }).Ns C (fun _=>none):=by
   have:=Heap.Ns.new (s2.heap.push { cls:=.type "list",dict:=none,data:=.seq ([]:List Value).toArray }) (.type "dict")
   rw[zC] at this
   exact this
  exact⟨_,q.keeps fun b o e=>by rw[hh];exact pushCells_keeps _ _ _ _ e⟩
 have nfs:∀ b∈fp,b ∉ frs X.stack:=fun b hb hx=>by
  obtain⟨⟨_,f1,f2,_⟩,_⟩:=hf b hb
  rcases List.mem_cons.mp (I.stkSub b hx) with e | e
  ·exact f1 e
  ·exact f2 e
 obtain⟨mC,hmC⟩:=hNs
 refine⟨⟨I.ok.mod,ok.kind,I.ok.glob,I.ok.blt,?_,?_,?_,?_,I.ok.hd,I.ok.frames,.inl rfl,?_,I.bs,?_,?_,nfs,I.stack,I.stkFree⟩,rfl,I.bare,Un.kept keep,⟨mC,hmC,?_⟩,?_,I.hok.fresh (by show s2.heap.objs.size<=C;rw[hC];exact Nat.le_succ _),?_,fun p hp=>absurd (show p∈([]:List (Addr × Obj)) from hp) (by simp),I.hok.kept keep,?_⟩
 ·show s2.heap.objs.size<=C;rw[hC];exact Nat.le_succ _
 ·intro x y c h1 h2
  refine cf_inj scope.names (C+1) (closL X.env scope.names []) (fun a b d p q=>?_) (fun a d p=>?_) x y c h1 h2
  ·exact I.ok.inj a b d (xl scope.names [] (ok.cells I) (fun _ _ z=>by simp at z) a d p) (xl scope.names [] (ok.cells I) (fun _ _ z=>by simp at z) b d q)
  ·have := cellOld a d (xl scope.names [] (ok.cells I) (fun _ _ z => by simp at z) a d p)
   rw[hC];exact Nat.lt_succ_of_lt (Nat.lt_succ_of_lt this)
 ·intro x hx
  have go:∀ k,(k=NameKind.cell\/k=NameKind.free)->(compEnvC scope (cellsC X scope C) C X.env).kindOf x=some k->∃ c,(cellsC X scope C).lookup x=some c:=fun k hk e=>by
   rcases ok.kindIn e with e | ⟨_,e⟩
   ·rcases hk with rfl | rfl
    ·exact cf_has _ _ _ (PySem.mem_of_lookup e)
    ·exact cf_keep _ _ _ (closL_has (y:=(x,.free)) rfl _ _ (PySem.mem_of_lookup e))
   ·exact cf_keep _ _ _ (closL_has (y:=(x,.free)) rfl _ _ (PySem.mem_of_lookup e))
  rcases hx with e | e
  ·exact go _ (.inl rfl) e
  ·exact go _ (.inr rfl) e
 ·intro x c hx h
  have hx':scope.names.lookup x=some .cell:=by simpa [zr] using hx
  have:=cf_ge (x:=x) scope.names (C+1) (closL X.env scope.names []) (C+1) (Nat.le_refl _) (.inl (PySem.mem_of_lookup hx')) c h
  show s2.heap.objs.size<=c
  exact Nat.le_trans (by rw[hC];exact Nat.le_trans (Nat.le_succ _) (Nat.le_succ _)) this
 ·intro b hb
  obtain⟨⟨_,_,_,_,f4,_⟩,f6⟩:=hf b hb
  refine⟨?_,fun x c h=>?_⟩
  ·show b ≠ C
   rw[hC];exact Nat.ne_of_lt (Nat.lt_succ_of_lt f6)
  ·rcases cellB x c h with ⟨_, q, _⟩ | q
   ·rw [hC] at q
    exact Nat.ne_of_gt (Nat.lt_of_lt_of_le f6 (Nat.le_trans (Nat.le_trans (Nat.le_succ _) (Nat.le_succ _)) q))
   ·exact f4 x c q
 ·exact Nat.le_trans I.ok.bsz I.sz
 ·intro b o e hb
  obtain⟨⟨_,_,_,f3,_⟩,_⟩:=hf b hb
  rcases f3 with z | z
  ·exact I.ok.noex b o e z
  ·exact absurd (Nat.lt_of_lt_of_le (Heap.lt_size (I.ok.bs b o e).1) z) (Nat.lt_irrefl _)
 ·intro i x v h1 h2 h3
  have h2':(replicate own.length (none:Option V)++σ)[i]?=some (some v):=h2
  have hi:own.length<=i:=by
   apply Nat.le_of_not_lt
   intro hlt
   rw[getElem?_append_left (by simpa using hlt),getElem?_replicate] at h2'
   rw[if_pos hlt] at h2'
   cases h2'
  rw[getElem?_append_right (by simpa using hi),length_replicate] at h2'
  have h1':(own++M)[i]?=some x:=h1
  rw[getElem?_append_right hi] at h1'
  obtain⟨n1,n2⟩:=ok.shadow x (mem_of_getElem? h1')
  have hfree:scope.names.lookup x=some .free/\((compEnvC scope (cellsC X scope C) C X.env).kindOf x=some .cell\/(compEnvC scope (cellsC X scope C) C X.env).kindOf x=some .free):=by
   rcases h3 with e | e | e
   ·rcases ok.kindIn (x := x) (C := C) e with q | ⟨q, _⟩
    ·exact absurd q n1
    ·cases q
   ·rcases ok.kindIn (x := x) (C := C) e with q | ⟨_, q⟩
    ·exact absurd q n2
    ·exact⟨q,.inl e⟩
   ·rcases ok.kindIn (x := x) (C := C) e with q | ⟨q, _⟩
    ·exact⟨q,.inr e⟩
    ·cases q
  obtain⟨hfr,hk⟩:=hfree
  obtain⟨m,hn,hl⟩:=I.loc
  have hkX:=ok.frees (x,.free) (PySem.mem_of_lookup hfr) rfl
  have h1':=ok.same _ _ h1' hfr
  obtain⟨u,ru,lk⟩:=hl (i-own.length) x v h1' h2' (hkX.elim (fun z=>.inr (.inl z)) fun z=>.inr (.inr z))
  refine⟨u,ru,.inr ⟨hk,?_⟩⟩
  rcases lk with ⟨k,_⟩ | ⟨_,c,ec,ic⟩
  ·rcases hkX with z | z<;>(rw[k] at z;cases z)
  ·obtain ⟨c', e'⟩ : ∃ c', (cellsC X scope C).lookup x = some c' := cf_keep _ _ _ (closL_has (y := (x, .free)) rfl _ _ (PySem.mem_of_lookup hfr))
   refine⟨c',e',?_⟩
   have:=ok.cellsFrom_old I e' (by rw[hfr];simp)
   have e2:some c=some c':=ec.symm.trans this
   cases e2
   exact ic.keeps keep
 ·intro x c h
  rcases cellB x c h with ⟨q,_⟩ | q
  ·exact⟨_,q⟩
  ·obtain ⟨v, z⟩ := I.cell x c q
   exact⟨v,z.keeps keep⟩
 ·intro x c h
  rcases cellB x c h with ⟨q,q2,_⟩ | q
  ·exact I.hok.fresh (by rw[hC] at q2;exact Nat.le_trans (Nat.le_trans (Nat.le_succ _) (Nat.le_succ _)) q2)
  ·exact I.freeC x c q
 ·show (List.replicate own.length (none : Option V) ++ σ).length = (own ++ M).length
  rw[length_append,length_append,length_replicate,I.len,ok.mlen]
end
end L2
namespace L2
section
variable {X:Cx} {scope:Scope} {own M:List Str} {pins:List (Addr × Obj)} {σ:St} {H2:Hp} {s2:Shared} {tg iter elt:Expr} {ifs:List Expr} {pos:Pos} {g:TG} {tt:TT} {te:TE}
theorem comp_core(ok:CompOk X scope M)(hc:X.calm=true)(hg:∀ C s2 H2 fp,PG (zr X scope own M C s2 H2 fp) tg g)(ht:∀ C s2 H2 fp,PTs (zr X scope own M C s2 H2 fp) ifs tt)(he:∀ C s2 H2 fp,PE (zr X scope own M C s2 H2 fp) elt te)
  (I2:Inv X pins σ H2 s2) {it:Addr} {fp:List Addr} {tn:Nat->Heap->Prop} {J:It} (T:Turn X.prog X.w X.K tg J fp it tn) (st2:tn 0 s2.heap) (f2:∀ b∈fp,FpOk X pins H2 b)
  {W:Nat->Nat->List V->Hp->Prop} (w0:∃ m,W 0 m [] H2) {Qf:V->Hp->Prop}
  (turn : ∀ i m acc H, W i m acc H -> (J.stop i H /\ acc.length <= sizeLine /\ ∀ D, H D = none -> Qf (.ref D) (upd H D (.lst acc))) \/
   (J.go i H /\ acc.length < sizeLine /\ ∀ x H', J.yld i H x H' -> g x (List.replicate own.length none ++ σ) H' fun σ2 H2 => σ2.drop own.length = σ /\ tt σ2 H2 fun c H3 =>
    if c=true then te σ2 H3 fun v H4=>∃ m',m'<m/\W (i+1) m' (acc++[v]) H4 else ∃ m',m'<m/\W (i+1) m' acc H3))
  {RR:Value->Addr->Result->Shared->Prop} {E:Value->Shared->Prop}
  (fin:∀ D C H' s' m,Inv X pins σ H' s'->Qf (.ref D) H'->s'.heap.Ns C m->H' C=none->C≠X.env.locals->X.s₀.heap.objs.size<=C->(∀ x c,X.env.cells.lookup x=some c->c≠C)->(∀ p∈X.pn++pins,p.1≠C)->RR (.ref D) C (.ok .next) s') :
  wpAny (model X.prog X.w) X.A (newList []) (fun acc s3=>wpAny (model X.prog X.w) X.A (newFunctionEnv scope X.env.globals (closL X.env scope.names []) [] X.env.qual none .none (some X.env)) (fun cenv s4 =>
   codeAny (model X.prog X.w) X.A (.compStart (.ListComp elt [⟨tg,iter,ifs,0⟩] scope pos) 0 (.ref it) acc { cenv with scope:=relabel scope X.env }) (RR acc cenv.locals) s4) E s3) E s2:=by
 refine wpAny_newObj_type (newEnv_comp ?_)
 have zC:(s2.heap.push { cls:=.type "list",dict:=none,data:=.seq ([]:List Value).toArray }).objs.size=s2.heap.objs.size+1:=Heap.size_push ..
 dsimp only
 rw[zC]
 generalize hC:s2.heap.objs.size+1=C
 generalize hh:pushCells ((s2.heap.push { cls:=.type "list",dict:=none,data:=.seq ([]:List Value).toArray }).push { cls:=.type "dict",data:=.dict #[] }) scope.names=h4
 have fpl:∀ b∈fp,FpOk X pins H2 b/\b<s2.heap.objs.size:=fun b hb=>by
  obtain⟨o,e,_⟩:=T.obj 0 _ st2 b hb
  exact⟨f2 b hb,Heap.lt_size e⟩
 have I4:Inv (zr X scope own M C s2 H2 fp) [] (replicate own.length none++σ) H2 { s2 with heap:=h4 }:=inv_comp ok hc I2 fpl hC.symm hh.symm
 generalize hX:zr X scope own M C s2 H2 fp=X' at I4
 have keep4:∀ b o,s2.heap.get? b=some o->h4.get? b=some o:=fun b o e=>by
  rw[<- hh];exact pushCells_keeps _ _ _ _ (Heap.get?_push_of_some _ (Heap.get?_push_of_some _ e))
 have hD4:h4.get? s2.heap.objs.size=some { cls:=.type "list",dict:=none,data:=.seq ([]:List Value).toArray }:=by
  rw[<- hh];exact pushCells_keeps _ _ _ _ (Heap.get?_push_of_some _ (Heap.get?_push_size _ rfl))
 have st4:tn 0 h4:=T.keep _ _ _ st2 fun b hb o e=>keep4 b o e
 have gg:PG X' tg g:=by rw[<- hX];exact hg C s2 H2 fp
 have gt:PTs X' ifs tt:=by rw[<- hX];exact ht C s2 H2 fp
 have ge:PE X' elt te:=by rw[<- hX];exact he C s2 H2 fp
 have xP:X'.prog=X.prog:=by rw[<- hX];rfl
 have xw:X'.w=X.w:=by rw[<- hX];rfl
 have xK:X'.K=X.K:=by rw[<- hX];rfl
 have xA:X'.A=X.A:=by rw[<- hX];rfl
 have xc:X'.calm=true:=by rw[<- hX];exact hc
 have xpn:X'.pn=[]:=by rw[<- hX];rfl
 have xs:X'.s₀=s2:=by rw[<- hX];rfl
 have xH:X'.H₀=H2:=by rw[<- hX];rfl
 have xL:X'.env.locals=C:=by rw[<- hX];rfl
 have xfs:X'.fs=frs X.stack:=by rw[<- hX];rfl
 have xex:X'.ex=fp:=by rw[<- hX];rfl
 have xe:X'.xe=fun _ _=>False:=by rw[<- hX];rfl
 have xenv:({ newEnv scope C X.env.globals (cellsFrom (C+1) scope.names (closL X.env scope.names [])) X.env.qual none .none (some X.env) builtinsNs with scope:=relabel scope X.env }:Env)=X'.env:=by rw[<- hX];rfl
 have Dlt:s2.heap.objs.size<C:=by rw[<- hC];exact Nat.lt_succ_self _
 have fpb:∀ {pl:List (Addr × Obj)} {H:Hp},(∀ b∈fp,H b=none)->(∀ p∈pl,p.1 ∉ fp)->∀ b∈fp,FpOk X' pl H b:=fun {pl H} hn hpl b hb=>by
  refine⟨hn b hb,?_,?_,.inl (by rw[xex];exact hb),fun x c e=>(I4.ok.exf b (by rw[xex];exact hb)).2 x c e,fun p hp z=>?_⟩
  ·exact(I4.ok.exf b (by rw[xex];exact hb)).1
  ·exact I4.ok.exfs b (by rw[xex];exact hb)
  ·rw [xpn, List.nil_append] at hp
   exact hpl p hp (by rw[z];exact hb)
 have Dfp:s2.heap.objs.size ∉ fp:=fun z=>Nat.lt_irrefl _ (fpl _ z).2
 have DC:s2.heap.objs.size≠C:=Nat.ne_of_lt Dlt
 have Dcell:∀ x c,X'.env.cells.lookup x=some c->c≠s2.heap.objs.size:=fun x c e z=>by
  obtain⟨v,o,q,hd⟩:=I4.cell x c e
  rw[z] at q
  have q':h4.get? s2.heap.objs.size=some o:=q
  rw[hD4] at q'
  cases q'
  cases hd
 have Dfs:s2.heap.objs.size ∉ X'.fs:=fun z=>by
  obtain⟨_,o,ho,_⟩:=I4.ok.funs.mem (by exact z)
  rw[xs] at ho
  exact Nat.lt_irrefl _ (Heap.lt_size ho)
 rw[xenv]
 have goal:∀ s5:Shared,s5={ s2 with heap:=h4 }->codeAny (model X.prog X.w) X.A (.compLoop (.ListComp elt [⟨tg,iter,ifs,0⟩] scope pos) 0 (.ref it) (.ref s2.heap.objs.size) X'.env) (RR (.ref s2.heap.objs.size) C) s5:=by
  rintro s5 rfl
  obtain⟨m0,w0⟩:=w0
  refine comp_loop (fun n s'=>∃ i acc σ' H' its k,Inv X' [] σ' H' s'/\σ'.drop own.length=σ/\tn i s'.heap/\(∀ b∈fp,H' b=none)/\H' s2.heap.objs.size=none /\
   s'.heap.get? s2.heap.objs.size=some { cls:=.type "list",data:=.seq (List.toArray its) k }/\Vals acc its/\W i n acc H') ?_ m0
   ⟨0,[],_,H2,[],0,I4,by simp,st4,fun b hb=>(f2 b hb).1,I2.hok.fresh (Nat.le_refl _),hD4,.nil,w0⟩
  rintro n s3 ⟨i,acc,σ3,H3,its,k,I3,hσ,st3,fr3,hD,hDo,rv,w3⟩
  have pinD:∀ {H:Hp} {s:Shared} {σ:St},Inv X' [] σ H s->H s2.heap.objs.size=none->s.heap.get? s2.heap.objs.size=some { cls:=.type "list",data:=.seq (List.toArray its) k } ->
    Inv X' [(s2.heap.objs.size,{ cls:=.type "list",data:=.seq (List.toArray its) k })] σ H s:=fun {H s σ} I hn ho=>I.pins_of fun p hp=>by
   have e:p=(s2.heap.objs.size,{ cls:=.type "list",data:=.seq (List.toArray its) k }):=by simpa using hp
   subst e
   exact⟨ho,hn,by rw[xL];exact DC,Dfs,fun v z=>by cases z⟩
  have plD:∀ p∈[((s2.heap.objs.size,{ cls:=.type "list",data:=.seq (List.toArray its) k }):Addr × Obj)],p.1 ∉ fp:=fun p hp=>by
   have e:p=(s2.heap.objs.size,{ cls:=.type "list",data:=.seq (List.toArray its) k }):=by simpa using hp
   subst e
   exact Dfp
  have I3':=pinD I3 hD hDo
  rcases turn i n acc H3 w3 with ⟨stop,hsz,q⟩ | ⟨go,hsz,step⟩
  ·have := T.done X' xP xw xK xc i _ s3 σ3 H3 (fun _ _ => False) I3' (fpb fr3 plD) st3 stop
   rw[xA] at this
   refine thn this fun r s4 ⟨hr,I5⟩=>?_
   subst hr
   have hDo5:=(I5.pin (s2.heap.objs.size,{ cls:=.type "list",data:=.seq (List.toArray its) k }) (by rw[xpn];simp)).1
   have un:Un (frs X.stack) fp H2 H3 s2.heap s4.heap:=by
    have:=I5.base
    rw[xfs,xex,xH,xs] at this
    exact this
   have os:s4.os=s2.os:=by rw[I5.os,xs]
   have hok:HOk X.prog X.w H3 s4.heap:=by have:=I5.hok;rw[xP,xw] at this;exact this
   have IX:Inv X pins σ H3 s4:=I2.call' os un hok I5.bare fun b hb=>by
    obtain⟨_,f1,_,f3,f4,f5⟩:=f2 b hb
    exact⟨f3,f1,f4,f5⟩
   have old:∀ {b:Addr},s2.heap.objs.size<=b->(X.s₀.heap.objs.size<=b/\b≠X.env.locals/\(∀ x c,X.env.cells.lookup x=some c->c≠b)/\∀ p∈X.pn++pins,p.1≠b):=fun {b} hb=>by
    obtain⟨_,f1,_,f3,f4,f5⟩:=I2.fpOk (H':=fun _=>none) hb rfl
    exact⟨Nat.le_trans I2.sz hb,f1,f4,f5⟩
   obtain⟨d1,d2,d3,d4⟩:=old (Nat.le_refl s2.heap.objs.size)
   obtain⟨c1,c2,c3,c4⟩:=old (b:=C) (Nat.le_of_lt Dlt)
   have IY:Inv X pins σ (upd H3 s2.heap.objs.size (.lst acc)) s4:=IX.track hD d1 d2 d3 d4 ⟨hsz,its,k,rv,hDo5⟩
   obtain⟨m,hm,_⟩:=I5.loc
   rw[xL] at hm
   have hCn:H3 C=none:=by have:=I5.free;rw[xL] at this;exact this
   exact fin _ C _ s4 m IY (q _ hD) hm (by rw[zm (Ne.symm DC)];exact hCn) c2 c1 c3 c4
  ·have := T.item X' xP xw xK xc i _ s3 σ3 H3 (fun _ _ => False) I3' (fpb fr3 plD) st3 go
   rw[xA] at this
   refine thn this fun r s4 ⟨u,hr,h4⟩=>?_
   subst hr
   refine thn h4 fun _ s5 ⟨x,H5,I5,r5,y5,st5,fr5⟩=>?_
   have hσn:∀ (j:Nat) v,(replicate own.length none++σ)[j]?=some (some v)->σ3[j]?=some (some v):=fun j v e=>by
    by_cases hlt:j<own.length
    ·rw [List.getElem?_append_left (by simpa using hlt), List.getElem?_replicate, if_pos hlt] at e
     cases e
    ·have hle := Nat.le_of_not_lt hlt
     rw[getElem?_append_right (by simpa using hle),length_replicate,<- hσ,getElem?_drop] at e
     rw[show own.length+(j-own.length)=j by lia] at e
     exact e
   have hlen:(replicate own.length none++σ).length=σ3.length:=by
    have e1:σ3.length=X'.N.length:=I5.len
    have e2:=I4.len
    exact e2.trans e1.symm
   have I5w:Inv X' _ (replicate own.length none++σ) H5 s5:=I5.weak hlen hσn
   have I5p:=I5w.pinned (fpb fr5 plD) (T.obj _ _ st5)
   have a1:=gg _ s5 _ H5 x u _ I5p r5 (step x H5 y5)
   rw[xP,xw,xA,xe] at a1
   refine thn a1 fun _ s6 ⟨σ6,H6,I6,d6,q6⟩=>?_
   have a2:=gt _ s6 σ6 H6 _ I6 q6
   rw[xP,xw,xA,xe] at a2
   refine thn a2 fun b s7 ⟨H7,I7,q7⟩=>?_
   have pin7:∀ {H:Hp} {s:Shared},Inv X' ([((s2.heap.objs.size,{ cls:=.type "list",data:=.seq (List.toArray its) k }):Addr × Obj)]++pinsAt fp s5.heap) σ6 H s ->
     (tn (i+1) s.heap/\(∀ b∈fp,H b=none)/\H s2.heap.objs.size=none/\s.heap.get? s2.heap.objs.size=some { cls:=.type "list",data:=.seq (List.toArray its) k }/\Inv X' [] σ6 H s):=fun {H s} I=>by
    refine⟨T.keep _ _ _ st5 fun b hb o e=>(I.pin (b,o) (mem_append_right _ (mem_append_right _ (mem_pinsAt hb e)))).1,fun b hb=>?_,?_,?_,I.pins_of fun p hp=>by simp at hp⟩
    ·obtain ⟨o, e, d⟩ := T.obj _ _ st5 b hb
     exact(I.pin (b,o) (mem_append_right _ (mem_append_right _ (mem_pinsAt hb e)))).2.1
    ·exact(I.pin (s2.heap.objs.size,{ cls:=.type "list",data:=.seq (List.toArray its) k }) (by rw[xpn];simp)).2.1
    ·exact(I.pin (s2.heap.objs.size,{ cls:=.type "list",data:=.seq (List.toArray its) k }) (by rw[xpn];simp)).1
   cases b with
   | false =>
    obtain⟨p1,p2,p3,p4,p5⟩:=pin7 I7
    obtain⟨m',hm,w7⟩:=q7
    exact⟨m',hm,i+1,acc,σ6,H7,its,k,p5,d6,p1,p2,p3,p4,rv,w7⟩
   | true =>
    rw[if_pos rfl] at q7 ⊢
    have a3:=ge _ s7 σ6 H7 _ I7 q7
    rw[xP,xw,xA,xe] at a3
    refine thn a3 fun y s8 ⟨v,H8,I8,r8,q8⟩=>?_
    obtain⟨p1,p2,p3,p4,p5⟩:=pin7 I8
    obtain⟨m',hm,w8⟩:=q8
    have hl:=rv.length
    refine wpAny_list_append_plain (items:=List.toArray its) ⟨k,p4⟩ (fun h' hpl hs=>?_) (by simp;lia)
    obtain⟨k',hpl⟩:=hpl
    have I9:Inv X' [] σ6 H8 { s8 with heap:=h' }:=p5.turned (t':=s8.toks) (fun b o hb e=>hs.extBut b o hb e) p3 (by rw[xL];exact DC) (.inr (by rw[xs];exact Nat.le_refl _)) Dcell (fun p hp=>by rw[xpn] at hp;simp at hp)
    refine⟨m',hm,i+1,acc++[v],σ6,H8,its++[y],k',I9,d6,T.keep _ _ _ p1 fun b hb o e=>hs.extBut b o (fun z=>Dfp (by rw[<- z];exact hb)) e,p2,p3,?_,rv.append (.cons r8 .nil),w8⟩
    rw[hpl];simp
 exact codeAny_compStart_list (goal _ rfl) (T.self _ 0 _ _ _ st4 (goal _ rfl))
theorem pe_comp{wi:TI}(ok:CompOk X scope M)(hc:X.calm=true)(hi:PI X tg iter wi)(hg:∀ C s2 H2 fp,PG (zr X scope own M C s2 H2 fp) tg g)(ht:∀ C s2 H2 fp,PTs (zr X scope own M C s2 H2 fp) ifs tt)
  (he:∀ C s2 H2 fp,PE (zr X scope own M C s2 H2 fp) elt te) (hs:∀ x,foldedSetIterable iter X.env x=pure x:=by intro _;rfl) :
  PE X (.ListComp elt [⟨tg,iter,ifs,0⟩] scope pos) (tComp wi own.length g tt te):=by
 intro pins s σ H Q I h
 rw[eval_ListComp]
 refine wpAny_comprehension_free (use:=none) rfl hs (clos_for (ok.cells I)) ok.kind (fun x hx hl=>by rw[ok.uniq x hx,hl]) ?_
 refine thn (hi pins s σ H _ I h) fun v s1 h1=>thn h1 fun itv s2 h2=>?_
 obtain⟨it,fp,tn,J,H2,e,I2,T,st2,f2,W,w0,turn⟩:=h2
 subst e
 refine comp_core (Qf:=Q) ok hc hg ht he I2 T st2 f2 w0 turn fun D C H' s' m IY q hm hCn c2 c1 c3 c4=>⟨m,hm,fun h' hs'=>?_⟩
 exact⟨.ref D,H',IY.turned (t':=s'.toks) (fun b o hb e=>hs'.extBut b o hb e) hCn c2 (.inr c1) c3 c4,rfl,q⟩
theorem ps_setComp{wi:TI}{i:Nat}{x:Str}{pos' spos:Pos}(hN:X.N.Nodup)(hix:X.N[i]?=some x)(hx:Loc X.env.scope x)(ok:CompOk X scope M)(hc:X.calm=true)(hi:PI X tg iter wi)(hg:∀ C s2 H2 fp,PG (zr X scope own M C s2 H2 fp) tg g)
  (ht:∀ C s2 H2 fp,PTs (zr X scope own M C s2 H2 fp) ifs tt) (he:∀ C s2 H2 fp,PE (zr X scope own M C s2 H2 fp) elt te)
  (hsw:swapsWith (.ListComp elt [⟨tg,iter,ifs,0⟩] scope pos) (some (.Name x pos')) spos.line X.env=pure true:=by rfl) (hf:X.fn x=true\/X.env.scope.names.lookup x=some .local:=by first | exact .inl rfl | exact .inr rfl | assumption)
  (hs:∀ x,foldedSetIterable iter X.env x=pure x:=by intro _;rfl):PS X (.Assign [.Name x pos'] (.ListComp elt [⟨tg,iter,ifs,0⟩] scope pos) spos) (tAsg (tComp wi own.length g tt te) (gName i)):=by
 intro pins s σ H D I h
 rw[exec_Assign_Name_used _ _ _ _ hsw]
 refine wpAny_bind (wpAny_standAt (wpAny_bind ?_))
 show wpAny _ _ (do let _ <- comprehension (.ListComp elt [⟨tg,iter,ifs,0⟩] scope pos) scope X.env _ (newList []) false (eval iter X.env) (some (assign (.Name x pos') X.env))) _ _ s
 refine wpAny_bind (thn (wpAny_comprehension_free (use:=some (assign (.Name x pos') X.env)) (Q:=fun _ s'=>SP X pins D .next s') rfl hs (clos_for (ok.cells I)) ok.kind (fun x hx hl=>by rw[ok.uniq x hx,hl]) ?_)
  fun _ s' hq=>wpAny_pure (wpAny_pure hq))
 refine thn (hi pins s σ H _ I h) fun v s1 h1=>thn h1 fun itv s2 h2=>?_
 obtain⟨it,fp,tn,J,H2,e,I2,T,st2,f2,W,w0,turn⟩:=h2
 subst e
 refine comp_core (Qf:=fun x H1=>gName i x σ H1 D.nx) ok hc hg ht he I2 T st2 f2 w0 turn fun D' C H' s' m IY q hm hCn c2 c1 c3 c4=>?_
 show wpAny _ _ (assign (.Name x pos') X.env (.ref D')) _ _ s'
 refine wpAny_assign_Name (store_ok2 IY hN hix hx (v:=.ref D') rfl (fun s'' I'' ⟨a,hsb,ha⟩=>?_) hf)
 have hCa:C≠a:=by
  rcases ha with z | z
  ·rw[z];exact c2
  ·exact fun e=>c3 x a z e.symm
 exact⟨m,hm.sameBut hsb hCa,fun h' hs'=>⟨_,H',I''.turned (t':=s''.toks) (fun b o hb e=>hs'.extBut b o hb e) hCn c2 (.inr c1) c3 c4,q⟩⟩
end
end L2
namespace L2
section
variable {X:Cx} {pins:List (Addr × Obj)} {σ:St} {H:Hp} {s:Shared}
theorem Inv.turnedL{t':Nat}{h':Heap}{ch:List Addr}(I:Inv X pins σ H s)(k:∀ b o,b ∉ ch->s.heap.get? b=some o->h'.get? b=some o)(hf:∀ b∈ch,FpOk X pins H b):Inv X pins σ H { s with heap:=h',toks:=t' }:=by
 have nit:∀ b u,H b=some u->b ∉ ch:=fun b u e z=>by rw[(hf b z).1] at e;cases e
 refine I.step (g':=s.gens) (d':=s.drawn) (ch:=ch) (fun b hb=>?_) (fun b o _ _ hc e _=>k b o hc e) (fun b o _ _ hc e _=>⟨o.slots,k b o hc e⟩) (fun _ _ _ _ n=>n)
  (fun b o hc e=>⟨o,k b o hc e⟩) (fun _ _ e=>e) (fun _ _ _ e=>e) (fun b ps e=>⟨#[],by rw[e];simp⟩) (fun m hm=>?_) (fun b u e=>?_) I.bare
 ·obtain ⟨_, f1, _, f3, f4, f5⟩ := hf b hb
  exact⟨f3,f1,f4,f5⟩
 ·obtain ⟨o, es, ep, ho, r⟩ := hm
  exact⟨o,es,ep,k _ o (fun z=>(hf _ z).2.1 rfl) ho,r⟩
 ·refine (I.hok b u e).stay (fun c v hc q => k c v ?_ q) (fun _ q => q) (fun _ _ q => q) fun _ _ _ q => q
  rcases hc with z | z
  ·rw[z];exact nit b u e
  ·exact nit c _ z
def SqB(K:W.Frag)(b:Bool)(H:Hp)(a:Addr)(xs:List V):Prop:=match b with | true=>SqL K H a xs | false=>SqT K H a xs
theorem Inv.seqB{b:Bool}{a:Addr}{xs:List V}(I:Inv X pins σ H s)(h:SqB X.K b H a xs):∃ its:List Value,Vals xs its/\SeqIs b s.heap a its.toArray:=by
 cases b with
 | true=>obtain⟨its,r,p,_⟩:=I.list h;exact⟨its,r,p.isList⟩
 | false=>obtain⟨its,r,p,_⟩:=I.tuple h;exact⟨its,r,p⟩
theorem Inv.seqB_inj{b:Bool}{a:Addr}{xs ys:List V}(I:Inv X pins σ H s)(h:SqB X.K b H a xs)(h':SqB X.K b H a ys):xs=ys:=by
 cases b with
 | true=>exact I.list_inj h h'
 | false=>exact I.tuple_inj h h'
theorem Inv.ne_fp{b:Bool}{a c:Addr}{xs:List V}(I:Inv X pins σ H s)(h:SqB X.K b H a xs)(hf:FpOk X pins H c):a≠c:=by
 have old:∀ o,X.K.lookup a=some o->a≠c:=fun o e z=>by
  have eb:=I.ok.mod.kin a o e
  rw[z] at eb
  obtain⟨_,_,_,f3,_⟩:=hf
  rcases f3 with q | q
  ·exact I.ok.noex c o eb q
  ·exact absurd (Nat.lt_of_lt_of_le (Heap.lt_size (I.ok.bs c o eb).1) q) (Nat.lt_irrefl _)
 have trk:∀ u,H a=some u->a≠c:=fun u e=>zy e hf.1
 cases b with
 | true =>
  rcases h with (h | ⟨o,h⟩) | ⟨o,_,_,hk,_⟩
  ·exact trk _ h
  ·exact trk _ h
  ·exact old o hk
 | false =>
  rcases h with (h | ⟨o,h⟩) | ⟨o,_,_,hk,_⟩
  ·exact trk _ h
  ·exact trk _ h
  ·exact old o hk
def Itz(K:W.Frag)(b c:Bool)(l1 l2:Addr):It :=
  ⟨fun i H => ∃ xs ys x y, SqB K b H l1 xs /\ SqB K c H l2 ys /\ xs[i]? = some x /\ ys[i]? = some y,
   fun i H v H'=>∃ T,H T=none/\v=.ref T/\∀ xs ys,SqB K b H l1 xs->SqB K c H l2 ys->∃ x y,xs[i]?=some x/\ys[i]?=some y/\H'=upd H T (.tup [x,y]),
   fun i H=>∃ xs ys,SqB K b H l1 xs/\SqB K c H l2 ys/\(xs.length<=i\/ys.length<=i)⟩
theorem newTup{T:Addr}{x y:V}{u v:Value}{s1:Shared}(I:Inv X pins σ H s)(I1:Inv X pins σ H s1)(hT:s.heap.objs.size<=T)(hn:H T=none)(ho:s1.heap.get? T=some { cls:=.type "tuple",data:=.seq #[u,v] })(rx:RelV x u)(ry:RelV y v) :
  Inv X pins σ (upd H T (.tup [x,y])) s1:=by
 obtain⟨_,f1,_,f3,f4,f5⟩:=I.fpOk (H':=H) hT hn
 exact I1.track hn (Nat.le_trans I.sz hT) f1 f4 f5 ⟨(by show 2<=sizeLine;decide),[u,v],.cons rx (.cons ry .nil),⟨_,ho,rfl,_,rfl⟩⟩
theorem turn_zip{P:Program}{w:World}{K:W.Frag}{es:List Expr}{kk:Nat}{ps:Pos}{b c:Bool}{z ti to i1 i2 l1 l2:Addr}(D:ZApart z ti to i1 i2) :
  Turn P w K (.Tuple es kk ps) (Itz K b c l1 l2) [z,ti,to,i1,i2] z (fun i h=>ZSt b c z ti to i1 i2 l1 l2 i h) where
 mem:=by simp
 obj:=fun i h st d hd=>by
  have nc:∀ {o:Obj} {vs:Array Value},o.data=.fields vs->∀ v,o.data≠.cell v:=fun e v q=>by rw[e] at q;cases q
  simp only[mem_cons,not_mem_nil,or_false] at hd
  rcases hd with rfl | rfl | rfl | rfl | rfl
  ·exact⟨_,st.z,fun v q=>by cases q⟩
  ·exact⟨_,st.ti,fun v q=>by cases q⟩
  ·obtain ⟨u, v, e⟩ := st.to
   exact⟨_,e,fun v q=>by cases q⟩
  ·obtain ⟨o, e, _, hd⟩ := st.i1.obj
   exact⟨o,e,nc hd⟩
  ·obtain ⟨o, e, _, hd⟩ := st.i2.obj
   exact⟨o,e,nc hd⟩
 keep:=fun i h h' st k=>by
  obtain⟨u,v,e⟩:=st.to
  exact⟨k z (by simp) _ st.z,k ti (by simp) _ st.ti,⟨u,v,k to (by simp) _ e⟩,st.i1.at fun o q=>k i1 (by simp) o q,st.i2.at fun o q=>k i2 (by simp) o q⟩
 item:=by
  intro X hP hw hK hc i pins s σ H E I hf st hg
  subst hP hw hK
  obtain⟨xs,ys,x,y,q1,q2,hx,hy⟩:=hg
  obtain⟨is1,r1,p1⟩:=I.seqB q1
  obtain⟨is2,r2,p2⟩:=I.seqB q2
  obtain⟨u,hu,ru⟩:=r1.get hx
  obtain⟨v,hv,rv⟩:=r2.get hy
  have hfto:=hf to (by simp)
  refine next_zip D st p1 p2 (I.ne_fp q1 hfto) (I.ne_fp q2 hfto) (x:=u) (y:=v) (by simpa using hu) (by simpa using hv) fun h' M hT kp=>?_
  have lt:∀ {d:Addr},d∈[z,ti,to,i1,i2]->s.heap.objs.size≠d:=fun {d} hd e=>by
   obtain⟨o,q⟩:∃ o,s.heap.get? d=some o:=by
    simp only[mem_cons,not_mem_nil,or_false] at hd
    rcases hd with rfl | rfl | rfl | rfl | rfl
    ·exact⟨_,st.z⟩
    ·exact⟨_,st.ti⟩
    ·obtain⟨u,v,e⟩:=st.to;exact⟨_,e⟩
    ·obtain⟨o,e,_⟩:=st.i1.obj;exact⟨o,e⟩
    ·obtain⟨o,e,_⟩:=st.i2.obj;exact⟨o,e⟩
   have:=Heap.lt_size q
   rw[<- e] at this
   exact Nat.lt_irrefl _ this
  refine⟨_,rfl,wpAny_letOwnedTupleGo_zip (s:={ s with heap:=h' }) M.z fun h'' z' sb=>?_⟩
  have kp2:∀ d o,d ∉ [z,ti,to,i1,i2]->s.heap.get? d=some o->h''.get? d=some o:=fun d o hd e=>by
   simp only[mem_cons,not_mem_nil,or_false,not_or] at hd
   exact sb.extBut _ _ hd.1 (kp d o hd.1 hd.2.2.1 hd.2.2.2.1 hd.2.2.2.2 e)
  have I1:Inv X pins σ H { s with heap:=h'' }:=I.turnedL (t':=s.toks) kp2 hf
  have hn:H s.heap.objs.size=none:=I.hok.fresh (Nat.le_refl _)
  have I2:Inv X pins σ (upd H s.heap.objs.size (.tup [x,y])) { s with heap:=h'' }:=newTup I I1 (Nat.le_refl _) hn (sb.extBut _ _ (lt (by simp)) hT) ru rv
  obtain⟨u',v',eto⟩:=M.to
  refine⟨.ref s.heap.objs.size,_,I2,rfl,⟨_,hn,rfl,fun xs' ys' e1 e2=>⟨x,y,by rw[I.seqB_inj e1 q1];exact hx,by rw[I.seqB_inj e2 q2];exact hy,rfl⟩⟩,?_,fun d hd=>?_⟩
  ·exact⟨z',sb.extBut _ _ D.a1 M.ti,⟨u',v',sb.extBut _ _ D.a2 eto⟩,M.i1.at fun o e=>sb.extBut _ _ D.a3 e,M.i2.at fun o e=>sb.extBut _ _ D.a4 e⟩
  ·rw[zm (Ne.symm (lt hd))];exact(hf d hd).1
 done:=by
  intro X hP hw hK hc i pins s σ H E I hf st hg
  subst hP hw hK
  obtain⟨xs,ys,q1,q2,hx⟩:=hg
  obtain⟨is1,r1,p1⟩:=I.seqB q1
  obtain⟨is2,r2,p2⟩:=I.seqB q2
  have hfto:=hf to (by simp)
  have e1:=r1.length
  have e2:=r2.length
  refine next_zip_end (I.ok.hd hc) D st p1 p2 (I.ne_fp q1 hfto) (I.ne_fp q2 hfto) (hx.imp (fun z=>by simp;lia) fun z=>by simp;lia) fun h' kp=>⟨rfl,I.turnedL (t':=s.toks) (fun d o hd e=>?_) hf⟩
  simp only[mem_cons,not_mem_nil,or_false,not_or] at hd
  exact kp d o hd.1 hd.2.2.1 hd.2.2.2.1 hd.2.2.2.2 e
 self:=fun _ _ _ _ _ st h=>wpAny_pyIter_zip st.z h
def iZip(K:W.Frag)(ta:TA):TI:=fun σ H R=>ta σ H fun vs H1=>∃ b c l1 l2 xs ys,vs=[.ref l1,.ref l2]/\SqB K b H1 l1 xs/\SqB K c H1 l2 ys/\R (Itz K b c l1 l2) H1
theorem pi_zip{es:List Expr}{kk:Nat}{ps:Pos}{a b:Expr}{ta:TA}{p pos:Pos}(hg:Gl X "zip")(hm:X.mg "zip" = none)(ha:PA X [a,b] ta)(hs:starEach [a,b] X.env=[(false,eval a X.env),(false,eval b X.env)]:=by rfl)(hs2:starEach [b] X.env=[(false,eval b X.env)]:=by rfl) :
  PI X (.Tuple es kk ps) (.Call (.Name "zip" p) [a,b] [] pos) (iZip X.K ta):=by
 intro pins s σ H R I h
 refine Call_ (ld_blt I hg hm boot_zip (PyProof.Rows.callWith_type1 (thn (ha pos pins s σ H _ I h) fun us s1 ⟨vs,H1,I1,r1,q1⟩=>?_) (by rw[hs,hs2]) (by rw[hs2];rfl)))
 obtain⟨bb,cc,l1,l2,xs,ys,e,q1,q2,q⟩:=q1
 subst e
 cases r1 with
 | cons r rr =>
  cases rr with
  | cons r' rr =>
   cases rr
   cases r
   cases r'
   obtain⟨is1,r1,p1⟩:=I1.seqB q1
   obtain⟨is2,r2,p2⟩:=I1.seqB q2
   refine call_zip p1 p2 fun h' z ti to i1 i2 D S new kp=>wpAny_pyIter_zip S.z ?_
   exact⟨z,[z,ti,to,i1,i2],_,_,H1,rfl,I1.kept (t':=s1.toks) kp,turn_zip D,S,fun d hd=>I1.fpOk (new d hd) (I1.hok.fresh (new d hd)),q⟩
end
end L2
namespace L2
section
variable {X:Cx} {pins:List (Addr × Obj)} {σ:St} {H:Hp} {s:Shared}
theorem Vals.bools{us:List Value}:∀ {bs:List Bool},Vals (bs.map V.bl) us->us=bs.map Value.bool:=by
 induction us with
 | nil=>intro bs h;cases bs with | nil=>rfl | cons=>cases h
 | cons u us ih =>
  intro bs h
  cases bs with
  | nil=>cases h
  | cons b bs =>
   cases h with
   | cons r t =>
    have e:u=Value.bool b:=r
    rw[e,ih t];rfl
theorem rng_any(bs:List Bool):((List.range bs.length).any fun i=>(bs[i]?).getD false)=bs.any id:=by
 rw[Bool.eq_iff_iff,List.any_eq_true,List.any_eq_true]
 constructor
 ·rintro ⟨i, hi, h⟩
  have hi':=List.mem_range.mp hi
  rw[getElem?_eq_getElem hi'] at h
  exact⟨_,getElem_mem hi',h⟩
 ·rintro ⟨b, hb, h⟩
  obtain⟨i,hi,e⟩:=List.mem_iff_getElem.mp hb
  exact⟨i,List.mem_range.mpr hi,by rw[getElem?_eq_getElem hi,e];exact h⟩
theorem old_of{h h':Heap}{o:Obj}(hk:∀ b x,b ∉ [h.objs.size]->(h.push o).get? b=some x->h'.get? b=some x):∀ b x,h.get? b=some x->h'.get? b=some x :=
 fun b x e=>hk b x (fun z=>absurd (Heap.lt_size e) (by rw[List.mem_singleton.mp z];exact Nat.lt_irrefl _)) (Heap.get?_push_of_some _ e)
theorem call_any(hc:X.calm=true):CallR X (.builtin "any") (fun xs H Q=>∃ (p:Addr) (bs:List Bool),xs=[.ref p]/\SqL X.K H p (bs.map V.bl)/\Q (.bl (bs.any id)) H):=by
 intro pins s σ H xs us Q I r h
 obtain⟨p,bs,rfl,hq,q⟩:=h
 cases r with
 | cons r rr =>
  cases rr
  cases r
  obtain⟨its,rv,pl,_⟩:=I.list hq
  have ei:=Vals.bools rv
  subst ei
  have hl:=pl.isList
  have hlt:p<s.heap.objs.size:=by obtain⟨_,e,_⟩:=hl;exact Heap.lt_size e
  refine call_any_walk (wpAny_pyIter_list hl ⟨s.heap.objs.size,[s.heap.objs.size,p],[s.heap.objs.size],(bs.map Value.bool).toArray.size,_,_,fun i=>(bs[i]?).getD false,rfl,
   Walks.list (A:=X.A.in1) (I.ok.hd hc) _ p (Nat.ne_of_lt hlt) _,⟨⟨_,Heap.get?_push_size _ rfl,rfl,rfl⟩,hl.push _⟩,fun i v s' Q' E' hP hQ=>?_,fun h' tk hk=>?_⟩)
  ·have hP' : (bs.map Value.bool)[i]? = some v := by simpa using hP
   rw[getElem?_map] at hP'
   cases e:bs[i]? with
   | none=>rw[e] at hP';cases hP'
   | some b =>
    rw[e] at hP'
    have hQ':Q' ((bs[i]?).getD false) s':=hQ
    rw[e] at hQ'
    cases hP'
    exact wpAny_truthy_bool hQ'
  ·refine ⟨.bl (bs.any id), H, I.kept (old_of hk), ?_, q⟩
   show Value.bool _=Value.bool _
   rw[size_toArray,length_map,rng_any]
theorem noFill_tup_mul:fillsNumberSlot (.type "tuple") "mul" = pure false :=
 PySem.fillsNumberSlot_seq (id := "tuple.__mul__") (r:=some (.builtin "tuple.__rmul__")) F.slot_tuple_mul.lookup (by decide +kernel) F.slot_tuple_rmul.lookup (by decide +kernel)
theorem rep_tup:seqRepeat? (.type "tuple")=pure (some (.builtin "tuple.__mul__")):=by
 unfold seqRepeat?
 rw[PySem.seqSlot_of (T := "tuple") (name := "__mul__") (id := "tuple.__mul__") F.slot_tuple_mul.lookup (by decide +kernel),PySem.seqSlot_of (T := "tuple") (name := "__rmul__") (id := "tuple.__rmul__") F.slot_tuple_rmul.lookup (by decide +kernel)]
 rfl
theorem rmul_tup(a:Int)(t:Tok)(l:Addr)(o:Obj)(items:Array Value)(n:Nat) :
  Meets (Builtin.«int.__rmul__» ⟨[.int a t,.ref l],[]⟩) (fun _ R s=>s.heap.get? l=some o/\o.cls=.type "tuple" /\ o.data=.seq items n/\R (.ok (.ret Value.notImplemented)) s) :=
 .of_wp fun prog w A R s h=>by
  obtain⟨hp,g,d,tk,os⟩:=s
  obtain⟨hl,hc,hd,h⟩:=h
  obtain⟨c,dd,dt,sl⟩:=o
  replace hc:c=.type "tuple" := hc
  replace hd:dt=.seq items n:=hd
  subst hc hd
  wp_walk
  exact⟨_,rfl,h⟩
theorem mul_tup(l:Addr)(o:Obj)(items:Array Value)(n:Nat)(k:Int)(t:Tok)(h1:¬ (decide (k < -(2^63))||decide (k>=2^63))=true)(he:items.isEmpty=false)(hk1:(k == 1)=false)(hk0:(decide (k<=0)||items.isEmpty)=false)
    (hcap:¬ (items.size:Int)*k > (2^63-1)/8) (htoo:¬ Builtin.Tuple.tupleTooMany ((items.size:Int)*k)=true) (hz:((replicate k.toNat items).foldl (·++·) #[]).size<=sizeLine) :
    Meets (Builtin.«tuple.__mul__» ⟨[.ref l,.int k t],[]⟩) (fun _ R s=>s.heap.get? l=some o/\o.cls=.type "tuple" /\ o.data=.seq items n /\
      R (.ok (.ret (.ref s.heap.objs.size))) { s with heap:=s.heap.push { cls:=.type "tuple",data:=.seq ((replicate k.toNat items).foldl (·++·) #[]) } }) :=
  .of_wp fun prog w A R s h=>by
    obtain⟨hp,g,d,tk,os⟩:=s
    obtain⟨hl,hc,hd,h⟩:=h
    obtain⟨c,dd,dt,sl⟩:=o
    replace hc:c=.type "tuple" := hc
    replace hd:dt=.seq items n:=hd
    subst hc hd
    wp_walk
    rw[if_neg h1]
    wp_walk
    rw[hk0,if_neg Bool.false_ne_true]
    dsimp only
    rw[if_neg hcap,if_neg htoo]
    unfold Builtin.Tuple.tupleExact
    refine wpAny_bind (wpAny_newTuple ?_)
    exact wpAny_pure ⟨_,rfl,h⟩
theorem mul_tup1(l:Addr)(o:Obj)(items:Array Value)(n:Nat)(t:Tok) :
  Meets (Builtin.«tuple.__mul__» ⟨[.ref l,.int 1 t],[]⟩) (fun _ R s=>s.heap.get? l=some o/\o.cls=.type "tuple" /\ o.data=.seq items n/\R (.ok (.ret (.ref l))) s) :=
 .of_wp fun prog w A R s h=>by
  obtain⟨hp,g,d,tk,os⟩:=s
  obtain⟨hl,hc,hd,h⟩:=h
  obtain⟨c,dd,dt,sl⟩:=o
  replace hc:c=.type "tuple" := hc
  replace hd:dt=.seq items n:=hd
  subst hc hd
  wp_walk
  exact⟨_,rfl,h⟩
def rRepT(K:W.Frag):R2:=fun x y H Q=>∃ l k xs,x=.ref l/\y=.int k/\SqT K H l xs/\xs≠[]/\1<=k/\xs.length*k.toNat<=sizeLine /\
 (k=1->Q (.ref l) H)/\(k≠1->∀ p,H p=none->Q (.ref p) (upd H p (.tup (replicate k.toNat xs).flatten)))
theorem op_repT:OpR X (binaryOp .Mult) (rRepT X.K):=by
 intro pins s σ H x y v u Q I rx ry h
 obtain⟨l,k,xs,rfl,rfl,hq,hne,h1,hz,q1,q2⟩:=h
 cases rx
 obtain⟨t,rfl⟩:=ry
 obtain⟨its,rv,⟨o,e,hc,n,hd⟩,_⟩:=I.tuple hq
 have hlen:=rv.length
 have hpos:0<its.length:=by rw[<- hlen];exact List.length_pos_iff.mpr hne
 have tyT:s.TypeIs (.ref l) "tuple" := ⟨o,e,hc⟩
 refine wpAny_binaryOp_repeat_ref (T := "tuple") (U := "int") (by decide) tyT (fun s'=>typeIs_int s' k t) noFill_tup_mul F.fills_int_mul F.slot_int_rmul rep_tup F.slot_int_index.lookup
  (call_meets F.slot_int_rmul (typeIs_int s k t) F.entry_int_rmul (F.args_int_rmul_2 _ _) (rmul_tup k t l o its.toArray n) ⟨e,hc,hd,rfl,tyT,?_⟩)
 by_cases hk:k=1
 ·subst hk
  exact call_meets F.slot_tuple_mul tyT F.entry_tuple_mul (F.args_tuple_mul_2 _ _) (mul_tup1 l o its.toArray n t) ⟨e,hc,hd,⟨.ref l,H,I,rfl,q1 rfl⟩⟩
 ·have hk2 : (2 : Int) <= k := by lia
  have hnat:its.length*k.toNat<=sizeLine:=by rw[<- hlen];exact hz
  have hprod:((its.toArray.size:Nat):Int)*k=((its.length*k.toNat:Nat):Int):=by
   rw[size_toArray,Int.natCast_mul,Int.toNat_of_nonneg (by lia)]
  have hsl:(sizeLine:Int)=16777216:=by decide
  have hb:((its.length*k.toNat:Nat):Int)<=16777216:=by rw[<- hsl];exact Int.ofNat_le.mpr hnat
  have hkle:k<=16777216:=by
   have:k.toNat<=its.length*k.toNat:=Nat.le_mul_of_pos_left _ hpos
   lia
  have hnew:List.foldl (fun x1 x2=>x1++x2) #[] (replicate k.toNat its.toArray)=(replicate k.toNat its).flatten.toArray:=by
   have:=foldl_rep its k.toNat []
   rw[nil_append] at this
   exact this
  refine call_meets F.slot_tuple_mul tyT F.entry_tuple_mul (F.args_tuple_mul_2 _ _) (mul_tup l o its.toArray n k t ?_ ?_ ?_ ?_ ?_ ?_ ?_) ⟨e,hc,hd,?_⟩
  ·rw[Bool.or_eq_true,decide_eq_true_eq,decide_eq_true_eq];lia
  ·cases its with
   | nil=>simp at hpos
   | cons=>rfl
  ·simpa using hk
  ·rw [Bool.or_eq_false_iff]
   refine⟨decide_eq_false (by lia),?_⟩
   cases its with
   | nil=>simp at hpos
   | cons=>rfl
  ·rw[hprod];lia
  ·unfold Builtin.Tuple.tupleTooMany
   rw[hprod,decide_eq_true_eq,hsl];lia
  ·rw[hnew,size_toArray,len_rep,Nat.mul_comm];exact hnat
  ·rw [hnew]
   refine⟨.ref _,_,I.laid (o:=.tup (replicate k.toNat xs).flatten) (t':=s.toks) (fun _ _ z=>Heap.get?_push_of_some _ z) (Nat.le_refl _) ⟨by rw[len_rep,Nat.mul_comm];exact hz,_,rv.rep k.toNat,⟨_,Heap.get?_push_size _ rfl,rfl,_,rfl⟩⟩,rfl,q2 hk _ I.fresh⟩
end
end L2
namespace L2
end L2
namespace L2
section
variable (P:Program) (w:World)
end
section
variable {P:Program} {w:World} {H H':Hp} {h h':Heap} {a:Addr} {o:HO}
end
section
variable {P:Program} {w:World} {H:Hp} {h h':Heap} {x e:Addr} {o':HO}
end
section
variable {fs fs' ex ex':List Addr} {H H1 H2:Hp} {h h1 h2 h':Heap} {a x e:Addr} {o:HO}
end
end L2
namespace L2
section
variable {X:Cx} {pins:List (Addr × Obj)} {σ:List (Option V)} {H H':Hp} {s:Shared} {h':Heap}
end
end L2
namespace L2
section
variable {X:Cx}
variable {a b:Expr} {ta tb:TE} {pos:Pos}
variable {tA tB':TT} {rest:List Expr}
end
end L2
namespace L2
section
variable {X:Cx} {pins:List (Addr × Obj)} {σ:St} {H:Hp} {s:Shared} {a:Addr} {xs ys:List V}
end
section
variable {X:Cx} {pins:List (Addr × Obj)} {σ:St} {H:Hp} {s:Shared} {E:Value->Shared->Prop}
end
section
variable {X:Cx} {st:Stmt} {rest:List Stmt} {t u:TS} {e:Expr} {te:TE} {pos:Pos}
end
section
variable {X:Cx} {pos:Pos}
end
section
variable {X:Cx} {pos:Pos}
end
end L2
namespace L2
section
variable {X:Cx} {tg:Expr}
end
end L2
namespace L2
section
variable {X:Cx} {a b c:Expr} {ta tb tc:TE} {pos:Pos}
end
section
variable {X:Cx} {a b c:Expr} {ta tb tc:TE} {pos:Pos}
end
end L2
namespace L2
section
variable {prog:Program} {w:World} {A:Around} {E:Value->Shared->Prop} {s:Shared} {K:W.Frag} {x dx C f:Addr} {mA:Str->Option Value} {name:Str} {v:Value}
end
section
variable {P:Program} {w:World} {H H':Hp} {h h':Heap} {a C dx:Addr} {fs fs':List (Str × V)}
end
section
variable {X:Cx} {pins:List (Addr × Obj)} {σ:St} {H:Hp} {s:Shared} {a C dx:Addr} {fs:List (Str × V)} {f:Str} {v:V} {A:Around} {E:Value->Shared->Prop}
end
section
variable {X:Cx} {o e value:Expr} {f:Str} {pos pos' tpos:Pos} {ta tv:TE}
end
section
variable {X:Cx} {pins:List (Addr × Obj)} {σ:St} {H:Hp} {s:Shared} {A:Around} {E:Value->Shared->Prop} {Q:Value->Shared->Prop} {c:Value} {b:Bool}
end
end L2
namespace L2
section
variable {X:Cx} {e:Expr} {es:List Expr} {te:TE} {t:TA} {pos:Pos}
end
section
variable {X:Cx} {pins:List (Addr × Obj)} {σ:St} {H:Hp} {s s':Shared}
end
section
variable {X:Cx} {CX:CXT} {k:Nat} {f C:Addr} {fd:FuncData} {ps:List Str} {sp:Sp} {dvs:List V} {ds:List Value} {E:XK} {x m:Str} {p pos apos:Pos} {e o:Expr} {es:List Expr} {ta:TE} {t:TA}
end
section
variable {X:Cx} {CX:CXT} {k:Nat} {f C:Addr} {fd:FuncData} {ps ks:List Str} {sp:Sp} {E:XK} {x m:Str} {p pos apos kpos:Pos} {e o:Expr} {es:List Expr} {kws:List Keyword} {te ta:TE} {t tk:TA} {nm:Option Str}
variable {g:List Value->List Value->List Value} {gV:List V->List V->List V}
end
end L2
namespace L2
section
variable {X:Cx} {x:Str} {p pos:Pos} {e:Expr} {es:List Expr} {t:TA} {id T:String} {r:List V->Hp->VK->Prop}
end
end L2
namespace L2
section
variable {κ:Type} [DecidableEq κ]
def valV(kvs:List (κ × V))(k:κ):Option V:=(kvs.find? fun kv=>decide (kv.1=k)).map (·.2)
def putK(kvs:List (κ × V))(k:κ)(v:V):List (κ × V) :=
 if (kvs.any fun kv=>decide (kv.1=k))=true then kvs.map (fun kv=>if kv.1=k then(kv.1,v) else kv) else kvs++[(k,v)]
def dropK(kvs:List (κ × V))(k:κ):List (κ × V):=kvs.filter fun kv=>decide (kv.1≠k)
theorem valV_pos{p:κ × V}{r:List (κ × V)}{k:κ}(e:p.1=k):valV (p::r) k=some p.2:=by simp[valV,find?_cons,e]
theorem valV_neg{p:κ × V}{r:List (κ × V)}{k:κ}(e:¬ p.1=k):valV (p::r) k=valV r k:=by simp[valV,find?_cons,e]
theorem valV_any(k:κ):∀ kvs:List (κ × V),(kvs.any fun kv=>decide (kv.1=k))=(valV kvs k).isSome
 | []=>rfl
 | p::r=>by
  rw[any_cons]
  by_cases e:p.1=k
  ·simp only[valV_pos e,decide_eq_true e,Bool.true_or,Option.isSome_some]
  ·rw[valV_neg e,decide_eq_false e,Bool.false_or];exact valV_any k r
theorem RelO.isSome_eq{o:Option V}{u:Option Value}(r:RelO o u):o.isSome=u.isSome:=by
 cases o with
 | none=>cases u with
  | none=>rfl
  | some _=>exact(show False from r).elim
 | some _=>cases u with
  | none=>exact(show False from r).elim
  | some _=>rfl
theorem KV.val{kvs:List (κ × V)}{vs:List (κ × Value)}(r:KV kvs vs)(k:κ):RelO (valV kvs k) (valueAt vs k):=by
 unfold KV at r
 induction r with
 | nil=>exact True.intro
 | @cons p q ps qs h t ih =>
  obtain⟨h1,h2⟩:=h
  by_cases e:p.1=k
  ·have e' : q.1 = k := h1.symm.trans e
   have b:valueAt (q::qs) k=some q.2:=by simp[valueAt,find?_cons,e']
   rw[valV_pos e,b];exact h2
  ·have e' : ¬ q.1 = k := fun z => e (h1.trans z)
   have b:valueAt (q::qs) k=valueAt qs k:=by simp[valueAt,find?_cons,e']
   rw[valV_neg e,b];exact ih
theorem KV.any{kvs:List (κ × V)}{vs:List (κ × Value)}(r:KV kvs vs)(k:κ):(kvs.any fun kv=>decide (kv.1=k))=vs.any fun kv=>decide (kv.1=k):=by
 unfold KV at r
 induction r with
 | nil=>rfl
 | cons h t ih=>rw[any_cons,any_cons,ih,h.1]
theorem KV.repl{kvs:List (κ × V)}{vs:List (κ × Value)}(r:KV kvs vs)(k:κ){y:V}{u:Value}(ry:RelV y u) :
  KV (kvs.map fun kv=>if kv.1=k then(kv.1,y) else kv) (vs.map fun kv=>if kv.1=k then(kv.1,u) else kv):=by
 unfold KV at r ⊢
 induction r with
 | nil=>exact .nil
 | @cons p q ps qs h t ih =>
  rw[map_cons,map_cons]
  refine .cons ?_ ih
  obtain⟨h1,h2⟩:=h
  by_cases e:p.1=k
  ·rw[if_pos e,if_pos (h1.symm.trans e)];exact⟨h1,ry⟩
  ·rw[if_neg e,if_neg (fun z=>e (h1.trans z))];exact⟨h1,h2⟩
theorem KV.put{kvs:List (κ × V)}{vs:List (κ × Value)}(r:KV kvs vs)(k:κ){y:V}{u:Value}(ry:RelV y u):KV (putK kvs k y) (stored vs k u):=by
 unfold putK stored
 rw[r.any k]
 by_cases e:(vs.any fun kv=>decide (kv.1=k))=true
 ·rw[if_pos e,if_pos e];exact r.repl k ry
 ·rw[if_neg e,if_neg e];exact Paired.snoc r ⟨rfl,ry⟩
theorem KV.length{kvs:List (κ × V)}{vs:List (κ × Value)}(r:KV kvs vs):kvs.length=vs.length:=Paired.length r
end
theorem kV_is{P:Program}{w:World}{k:Key}{u:Value}(r:RelV (kV k) u):(zB P w).is k u=true:=by
 cases k with
 | inl i=>obtain⟨t,e⟩:=(show ∃ t,u=Value.int i t from r);subst e;exact mixKind_int P w i t
 | inr x=>obtain⟨t,e⟩:=(show ∃ t,u=Value.str x t from r);subst e;exact mixKind_str P w x t
theorem items_are{P:Program}{w:World}:∀ {ks:List Key} {us:List Value},Vals (ks.map kV) us->ItemsAre (zB P w) ks us
 | [],_,r=>by rw[map_nil] at r;cases r;exact .nil
 | k::ks,_,r=>by
  rw[map_cons] at r
  cases r with
  | cons h t=>exact .cons (kV_is h) (items_are t)
abbrev KT(H:Hp):List (List Key × V)->List (List Key × Addr × Value)->Prop:=Paired fun p q=>p.1=q.1/\H q.2.1=some (.tup (p.1.map kV))/\RelV p.2 q.2.2
theorem KT.val{H:Hp}{kvs:List (List Key × V)}{xs:List (List Key × Addr × Value)}(r:KT H kvs xs)(k:List Key):RelO (valV kvs k) ((atKey xs k).map (·.2)):=by
 induction r with
 | nil=>exact True.intro
 | @cons p q ps qs h t ih =>
  obtain⟨h1,_,h2⟩:=h
  by_cases e:p.1=k
  ·have e' : q.1 = k := h1.symm.trans e
   have b:atKey (q::qs) k=some q.2:=by simp[atKey,find?_cons,e']
   rw[valV_pos e,b];exact h2
  ·have e' : ¬ q.1 = k := fun z => e (h1.trans z)
   have b:atKey (q::qs) k=atKey qs k:=by simp[atKey,find?_cons,e']
   rw[valV_neg e,b];exact ih
theorem KT.repl{H:Hp}{kvs:List (List Key × V)}{xs:List (List Key × Addr × Value)}(r:KT H kvs xs)(k:List Key){y:V}{u:Value}(ry:RelV y u) :
  KT H (kvs.map fun kv=>if kv.1=k then(kv.1,y) else kv) (xs.map (putAt k u)):=by
 induction r with
 | nil=>exact .nil
 | @cons p q ps qs h t ih =>
  rw[map_cons,map_cons]
  refine .cons ?_ ih
  obtain⟨h1,h2,h3⟩:=h
  unfold putAt
  by_cases e:p.1=k
  ·rw[if_pos e,if_pos (h1.symm.trans e)];exact⟨h1,h2,ry⟩
  ·rw[if_neg e,if_neg (fun z=>e (h1.trans z))];exact⟨h1,h2,h3⟩
theorem KT.put{H:Hp}{kvs:List (List Key × V)}{xs:List (List Key × Addr × Value)}(r:KT H kvs xs)(k:List Key){b:Addr}{y:V}{u:Value}(hb:H b=some (.tup (k.map kV)))(ry:RelV y u) :
  KT H (putK kvs k y) (storedH xs k b u):=by
 have e:(kvs.any fun kv=>decide (kv.1=k))=(atKey xs k).isSome:=by
  rw[valV_any,(r.val k).isSome_eq,Option.isSome_map]
 unfold putK storedH
 rw[e]
 by_cases q:(atKey xs k).isSome=true
 ·rw[if_pos q,if_pos q];exact r.repl k ry
 ·rw[if_neg q,if_neg q];exact Paired.snoc r ⟨rfl,hb,ry⟩
theorem KT.keeps{H H':Hp}{kvs:List (List Key × V)}{xs:List (List Key × Addr × Value)}(r:KT H kvs xs)(ht:∀ b ys,H b=some (.tup ys)->H' b=some (.tup ys)):KT H' kvs xs :=
 Paired.mapP r fun _ _ z=>⟨z.1,ht _ _ z.2.1,z.2.2⟩
section
variable {P:Program} {w:World} {H:Hp} {h:Heap} {a:Addr}
theorem rd_of{u:HO}(ok:HOk P w H h)(e:Rd H a u):ObjOk P w H h a u:=e.ok ok
theorem dk_rd{kvs:List (Key × V)}(ok:HOk P w H h)(e:Rd H a (.dK kvs)):kvs.length<=sizeLine/\(a == sysModules)=false/\∃ vs,KV kvs vs/\h.DictOf (zB P w) a vs :=
 show ObjOk P w H h a (.dK kvs) from rd_of ok e
theorem key_of{ks:List Key}(ok:HOk P w H h)(e:H a=some (.tup (ks.map kV))):(tupleKind (zB P w)).is h ks a:=by
 obtain⟨_,its,r,o,h1,h2,n,h3⟩:=(show ObjOk P w H h a (.tup (ks.map kV)) from ok a _ e)
 exact⟨o,its.toArray,n,h1,h2,h3,by simpa using items_are r⟩
theorem dt_rd{kvs:List (List Key × V)}(ok:HOk P w H h)(e:Rd H a (.dT kvs)):kvs.length<=sizeLine/\(a == sysModules)=false /\
  ∃ xs,KT H kvs xs/\h.DictOfH (tupleKind (zB P w)) a xs:=by
 obtain⟨z,y,xs,r,o,es,ep,h1,h2,h3,h4,h5⟩:=(show ObjOk P w H h a (.dT kvs) from rd_of ok e)
 refine⟨z,y,xs,r,o,es,ep,h1,h2,h3,h4,fun x hx=>?_,h5⟩
 have all:∀ {l:List (List Key × V)} {m:List (List Key × Addr × Value)},KT H l m->∀ x∈m,(tupleKind (zB P w)).is h x.1 x.2.1:=by
  intro l m q
  induction q with
  | nil=>intro x hx;exact nomatch hx
  | @cons p q ps qs hq t ih =>
   intro x hx
   rcases List.mem_cons.mp hx with e | hx
   ·subst e
    exact key_of ok (by rw[<- hq.1];exact hq.2.1)
   ·exact ih x hx
 exact all r x hx
theorem dt_of{kvs:List (List Key × V)}(ok:HOk P w H h)(e:H a=some (.dT kvs)):kvs.length<=sizeLine/\(a == sysModules)=false /\
  ∃ xs,KT H kvs xs/\h.DictOfH (tupleKind (zB P w)) a xs:=dt_rd ok (.inl e)
end
def DGet(H:Hp)(a:Addr)(y:V)(r:Option V):Prop :=
 (∃ kvs k,Rd H a (.dK kvs)/\y=kV k/\r=valV kvs k)\/∃ kvs k b,Rd H a (.dT kvs)/\y=.ref b/\H b=some (.tup (k.map kV))/\r=valV kvs k
theorem DGet.k{H:Hp}{a:Addr}{kvs:List (Key × V)}{k:Key}(e:H a=some (.dK kvs)):DGet H a (kV k) (valV kvs k):=.inl ⟨kvs,k,.inl e,rfl,rfl⟩
section
variable {X:Cx} {pins:List (Addr × Obj)} {σ:St} {H:Hp} {s:Shared} {a:Addr} {y v:V} {u r:Value} {o:Option V} {A:Around} {E:Value->Shared->Prop}
theorem Inv.big(I:Inv X pins σ H s):sysModules<s.heap.objs.size:=by
 have h:mainGlobals<s.heap.objs.size:=(I.mod.glob.keeps I.bk).lt
 exact Nat.lt_trans (by decide) h
theorem d_getItem{Q:Value->Shared->Prop}(hu:A.units+1<cLine)(I:Inv X pins σ H s)(g:DGet H a y (some v))(ry:RelV y u)(h:∀ w' s',Inv X pins σ H s'->RelV v w'->Q w' s') :
  wpAny (model X.prog X.w) A (getItem (.ref a) u) Q E s:=by
 rcases g with ⟨kvs,k,e,ey,l⟩ | ⟨kvs,k,b,e,ey,eb,l⟩
 ·subst ey
  obtain⟨z,hd,vs,rel,dd⟩:=dk_rd I.hok e
  obtain⟨w',hw,rw'⟩:=RelO.some_of (v:=v) (o:=valueAt vs k) (by rw[l];exact rel.val k)
  exact wpAny_getItem_of (kV_is ry) dd.mapOf hw (h w' _ (I.tok _) rw')
 ·subst ey
  cases(show u=Value.ref b from ry)
  obtain⟨z,hd,xs,rel,dd⟩:=dt_rd I.hok e
  obtain⟨w',hw,rw'⟩:=RelO.some_of (v:=v) (o:=(atKey xs k).map (·.2)) (by rw[l];exact rel.val k)
  obtain⟨p,hp,hp2⟩:=Option.map_eq_some_iff.mp hw
  refine wpAny_getItem_heap (tupleKind_room_in1 hu) (key_of I.hok eb) dd hp ?_
  rw[hp2]
  exact h w' _ (I.tok _) rw'
theorem d_notIn{Q:Value->Shared->Prop}(hu:A.units+1<cLine)(I:Inv X pins σ H s)(g:DGet H a y o)(ry:RelV y u)(h:∀ s',Inv X pins σ H s'->Q (.bool (!o.isSome)) s') :
  wpAny (model X.prog X.w) A (compareOp .NotIn u (.ref a)) Q E s:=by
 rcases g with ⟨kvs,k,e,ey,l⟩ | ⟨kvs,k,b,e,ey,eb,l⟩
 ·subst ey
  obtain⟨z,hd,vs,rel,dd⟩:=dk_rd I.hok e
  refine wpAny_notIn_of (kV_is ry) hd dd.mapOf ?_
  rw[<- (rel.val k).isSome_eq,<- l]
  exact h _ (I.tok _)
 ·subst ey
  cases(show u=Value.ref b from ry)
  obtain⟨z,hd,xs,rel,dd⟩:=dt_rd I.hok e
  refine wpAny_notIn_heap (tupleKind_room_in1 hu) (key_of I.hok eb) hd dd ?_
  have q:=(rel.val k).isSome_eq
  rw[Option.isSome_map] at q
  rw[<- q,<- l]
  exact h _ (I.tok _)
theorem d_write{h':Heap}{t':Nat}{ob:HO}(I:Inv X pins σ H s)(mu:Mut (H a))(hs:Heap.SameBut a s.heap h')(he:∃ q,h'.get? a=some q)(new:ObjOk X.prog X.w (upd H a ob) h' a ob) :
  Inv X pins σ (upd H a ob) { s with heap:=h',toks:=t' } :=
 I.write (x:=a) (e:=a) mu (.inl rfl) (fun b q hb z=>(hs.2 b hb).trans z) he new
end
section
variable {X:Cx} {pins:List (Addr × Obj)} {σ:St} {H:Hp} {s:Shared} {a:Addr} {kvs:List (Key × V)} {k:Key} {u:Value} {A:Around} {E:Value->Shared->Prop}
end
def NoSl(i:Expr):Prop:=∀ ov iv,subscripted i false ov iv=operate [ov,iv] (getItem ov iv)
theorem subD_of{prog:Program}{w:World}{A:Around}{E:Value->Shared->Prop}{s:Shared}{env:Env}{value slice:Expr}{pos:Pos}{T id:String}{Q:Value->Shared->Prop}
  (hl:typeLookup (.type T) "__getitem__" = pure (some (.builtin id))) (hs:NoSl slice)
  (h:wpAny (model prog w) A (eval value env) (fun o s₁=>wpAny (model prog w) A (eval slice env) (fun i s₂=>s₂.TypeIs o T/\wpAny (model prog w) A (getItem o i) Q E s₂) E s₁) E s) :
  wpAny (model prog w) A (eval (.Subscript value slice pos) env) Q E s:=by
 refine Subscript_ (wpAny_mono h (fun o s₁ h₁=>wpAny_mono h₁ (fun i s₂ h₂=>?_) fun _ _ x=>x) fun _ _ x=>x)
 obtain⟨hT,h₂⟩:=h₂
 unfold subscriptTail
 refine wpAny_bind ?_
 rw[getitemInPython_of_ne hT.not_modules]
 refine wpAny_bind (wpAny_specialOf hT hl ?_)
 have fin:wpAny (model prog w) A (subscripted slice false o i) (fun r s₃=>wpAny (model prog w) A (letTemporaryGo value o r >>= fun _=>pure r) Q E s₃) E s₂:=by
  rw[hs o i]
  exact wpAny_operating (wpAny_mono h₂ (fun r s₃ h₃=>wpAny_bind (wpAny_letTemporaryGo (wpAny_pure h₃))) fun _ _ x=>x)
 first
  | exact wpAny_pure (wpAny_bind fin)
  | exact wpAny_bind (wpAny_pure (wpAny_bind fin))
  | exact wpAny_bind fin
theorem dict_typeIs{X:Cx}{pins:List (Addr × Obj)}{σ:St}{H:Hp}{s:Shared}{a:Addr}{y:V}{o:Option V}(I:Inv X pins σ H s)(g:DGet H a y o):s.TypeIs (.ref a) "dict" := by
 rcases g with ⟨kvs,k,e,_,_⟩ | ⟨kvs,k,b,e,_,_,_⟩
 ·obtain ⟨_, _, vs, _, dd⟩ := dk_rd I.hok e
  exact dd.typeIs
 ·obtain ⟨_, _, xs, _, dd⟩ := dt_rd I.hok e
  exact dd.typeIs
def tDGet(td ty:TE):TE:=fun σ H Q=>td σ H fun x H1=>ty σ H1 fun y H2=>∃ a v,x=.ref a/\DGet H2 a y (some v)/\Q v H2
section
variable {X:Cx} {o i e value:Expr} {pos pos' tpos:Pos} {td ty tv:TE}
theorem pe_dget(hu:X.A.units+1<cLine)(ho:PE X o td)(hi:PE X i ty)(hs:NoSl i):PE X (.Subscript o i pos) (tDGet td ty):=by
 intro pins s σ H Q I h
 refine subD_of PySem.F.slot_dict_getitem.lookup hs (thn (ho pins s σ H _ I h) fun u s1 ⟨x,H1,I1,rx,q1⟩=>thn (hi pins s1 σ H1 _ I1 q1) fun iv s2 ⟨y,H2,I2,ry,a,v,ex,g,q2⟩=>?_)
 subst ex
 obtain rfl:u=Value.ref a:=rx
 exact⟨dict_typeIs I2 g,d_getItem hu I2 g ry fun w' s3 I3 rw'=>⟨v,H2,I3,rw',q2⟩⟩
end
theorem dk_empty{P:Program}{w:World}{H:Hp}(h:Heap)(hb:sysModules<h.objs.size):ObjOk P w H (h.push { cls:=.type "dict",data:=.dict #[] }) h.objs.size (.dK []) :=
 ⟨Nat.zero_le _,beq_eq_false_iff_ne.mpr (Ne.symm (Nat.ne_of_lt hb)),[],.nil,Heap.DictOf.new h⟩
section
variable {X:Cx} {pos:Pos}
end
structure M1(X:Cx)(o:Expr)(m:Str)(apos:Pos)(e:Expr)(cpos:Pos):Prop where
 base:attributeBase o m X.env (eval o X.env)=eval o X.env
 few:((backTo cpos (starEach [e] X.env)).all (fun x=>!x.1)&&(backToKw cpos (keywordEach [] X.env)).all (fun x=>x.1.isSome)
  && decide (([e]:List Expr).length+([]:List Keyword).length+(if ([]:List Keyword).isEmpty then 0 else 1)<30))=true
 line:(apos.endLine == cpos.line)=true
 trees:backTo cpos (starEach [e] X.env)=[(false,eval e X.env)]
def IsD(H:Hp)(a:Addr):Prop:=(∃ kvs,Rd H a (.dK kvs))\/∃ kvs,Rd H a (.dT kvs)
theorem isD_at{X:Cx}{pins:List (Addr × Obj)}{σ:St}{H:Hp}{s:Shared}{a:Addr}(I:Inv X pins σ H s)(d:IsD H a) :
  s.TypeIs (.ref a) "dict" /\ (∀ b,Value.ref a=.ref b->∃ ob,s.heap.get? b=some ob/\ob.dict=none)/\(a == sysModules)=false:=by
 rcases d with ⟨kvs,e⟩ | ⟨kvs,e⟩
 ·obtain ⟨_, hd, vs, _, dd⟩ := dk_rd I.hok e
  refine⟨dd.typeIs,fun b q=>?_,hd⟩
  cases q
  obtain⟨ob,_,_,h1,h2,_⟩:=dd
  exact⟨ob,h1,h2.2.1⟩
 ·obtain ⟨_, hd, xs, _, dd⟩ := dt_rd I.hok e
  refine⟨dd.typeIs,fun b q=>?_,hd⟩
  cases q
  obtain⟨ob,_,_,h1,h2,_⟩:=dd
  exact⟨ob,h1,h2.2.1⟩
section
variable {X:Cx} {pins:List (Addr × Obj)} {σ:St} {H:Hp} {s:Shared} {a:Addr} {y d:V} {u r:Value} {o:Option V} {A:Around} {E:Value->Shared->Prop}
end
section
variable {X:Cx} {o e f:Expr} {apos cpos:Pos} {td ty tx:TE}
end
section
variable {X:Cx} {pins:List (Addr × Obj)} {σ:St} {H:Hp} {s:Shared} {a:Addr} {kvs:List (Key × V)} {A:Around} {E:Value->Shared->Prop}
end
section
variable {X:Cx} {pins:List (Addr × Obj)} {σ:St} {H:Hp} {s:Shared} {a:Addr} {y:V} {u:Value} {A:Around} {E:Value->Shared->Prop}
end
end L2
namespace Att
open PySem PySem.W PySem.Calls PyProof.Rows
section
variable {prog:Program} {w:World} {A:Around} {E:Value->Shared->Prop} {s:Shared} {K:Frag}
end
end Att
namespace L2
end L2
namespace L2
end L2
namespace L2
section
variable {P:Program} {w:World} {K:W.Frag} {mg:Str->Option Value} {base:Heap}
end
section
variable {X:Cx}
end
section
variable {κ:Type} [DecidableEq κ]
end
end L2
namespace L2
section
variable {prog:Program} {w:World} {A:Around} {R:Result->Shared->Prop} {s:Shared}
theorem dcomp_loop{kx vx target iter:Expr}{ifs:List Expr}{scope:Scope}{pos:Pos}{it:Value}{D:Addr}{env:Env}(J:Nat->Shared->Prop)
  (turn : ∀ n s, J n s -> wpAny (model prog w) A (pyNext it) (fun r s1 => match r with
   | none=>R (.ok .next) s1
   | some v => wpAny (model prog w) A (letOwnedTupleGo target it v) (fun _ s2 => wpAny (model prog w) A (assign target env v) (fun _ s3 => wpAny (model prog w) A (cTests ifs env) (fun ok s4 =>
     if ok=true then wpAny (model prog w) A (eval kx env) (fun kv s5=>wpAny (model prog w) A (eval vx env) (fun vv s6=>wpAny (model prog w) A (dictSet D kv vv) (fun _ s7=>∃ m,m<n/\J m s7) (fun _ _=>False) s6) (fun _ _=>False) s5) (fun _ _=>False) s4
     else ∃ m,m<n/\J m s4) (fun _ _=>False) s3) (fun _ _=>False) s2) (fun _ _=>False) s1) (fun _ _=>False) s)
  (n:Nat) (h:J n s):codeAny (model prog w) A (.compLoop (.DictComp kx vx [⟨target,iter,ifs,0⟩] scope pos) 0 it (.ref D) env) R s:=by
 refine codeAny_loop rfl J (fun n s hJ=>?_) n h
 show wpAny _ A ((compTurn (.DictComp kx vx [⟨target,iter,ifs,0⟩] scope pos) 0 it (.ref D) env).onRaise (fun x=>do noteFrame x env;theTreesLotGoes x)) _ _ s
 refine wpAny_noted ?_
 rw[compTurn_dict]
 have up:∀ {α:Type} {t:Sem α} {Q Q':α->Shared->Prop} {E:Value->Shared->Prop} {s:Shared},wpAny (model prog w) A t Q (fun _ _=>False) s->(∀ a s,Q a s->Q' a s)->wpAny (model prog w) A t Q' E s :=
  fun h f=>wpAny_mono h f fun _ _ z=>False.elim z
 refine wpAny_bind (wpAny_standAt (wpAny_bind (up (turn n s hJ) fun r s1 h1=>?_)))
 cases r with
 | none=>exact wpAny_pure h1
 | some v =>
  refine wpAny_bind (up h1 fun _ s2 h2=>?_)
  refine wpAny_bind (up h2 fun _ s3 h3=>?_)
  refine wpAny_bind (up h3 fun ok s4 h4=>?_)
  cases ok with
  | false=>exact wpAny_pure ⟨rfl,h4⟩
  | true=>exact wpAny_bind (wpAny_bind (up h4 fun kv s5 h5=>wpAny_bind (wpAny_holding (up h5 fun vv s6 h6=>wpAny_bind (wpAny_standAt (wpAny_holding (up h6 fun _ s7 h7=>wpAny_pure ⟨rfl,h7⟩)))))))
end
section
variable {X:Cx} {scope:Scope} {own M:List Str} {pins:List (Addr × Obj)} {σ:St} {H2:Hp} {s2:Shared} {fp:List Addr}
theorem inv_compD{o0:Obj}(ok:CompOk X scope M)(hc:X.calm=true)(I:Inv X pins σ H2 s2)(hf:∀ b∈fp,FpOk X pins H2 b/\b<s2.heap.objs.size){C:Addr}(hC:C=s2.heap.objs.size+1){h4:Heap}
  (hh:h4=pushCells ((s2.heap.push o0).push { cls:=.type "dict",data:=.dict #[] }) scope.names) :
  Inv (zr X scope own M C s2 H2 fp) [] (replicate own.length none++σ) H2 { s2 with heap:=h4 }:=by
 have zC:(s2.heap.push o0).objs.size=C:=by rw[Heap.size_push,hC]
 have zC1:((s2.heap.push o0).push { cls:=.type "dict",data:=.dict #[] }).objs.size=C+1:=by rw[Heap.size_push,zC]
 have keep:∀ b o,s2.heap.get? b=some o->h4.get? b=some o:=fun b o e=>by
  rw[hh];exact pushCells_keeps _ _ _ _ (Heap.get?_push_of_some _ (Heap.get?_push_of_some _ e))
 have cellOld:∀ x c,X.env.cells.lookup x=some c->c<s2.heap.objs.size:=fun x c e=>by obtain⟨v,q⟩:=I.cell x c e;exact q.lt
 have cellB:∀ x c,(cellsC X scope C).lookup x=some c->(h4.IsCell c none/\C+1<=c/\scope.names.lookup x=some .cell)\/X.env.cells.lookup x=some c:=fun x c e=>by
  by_cases hx:scope.names.lookup x=some .cell
  ·have e' := e
   unfold cellsC at e'
   rw[<- zC1] at e'
   rcases cf_all _ _ _ x c e' with ⟨a,b,d⟩ | q
   ·exact .inl ⟨by rw[hh];exact a,by rw[zC1] at b;exact b,hx⟩
   ·exact .inr (xl scope.names [] (ok.cells I) (fun _ _ z=>by simp at z) x c q)
  ·exact .inr (ok.cellsFrom_old I e hx)
 have hNs:∃ m,h4.Ns C m:=by
  have q:((s2.heap.push o0).push { cls:=.type "dict",data:=.dict #[] }).Ns C (fun _=>none):=by
   have:=Heap.Ns.new (s2.heap.push o0) (.type "dict")
   rw[zC] at this
   exact this
  exact⟨_,q.keeps fun b o e=>by rw[hh];exact pushCells_keeps _ _ _ _ e⟩
 have nfs:∀ b∈fp,b ∉ frs X.stack:=fun b hb hx=>by
  obtain⟨⟨_,f1,f2,_⟩,_⟩:=hf b hb
  rcases List.mem_cons.mp (I.stkSub b hx) with e | e
  ·exact f1 e
  ·exact f2 e
 obtain⟨mC,hmC⟩:=hNs
 refine⟨⟨I.ok.mod,ok.kind,I.ok.glob,I.ok.blt,?_,?_,?_,?_,I.ok.hd,I.ok.frames,.inl rfl,?_,I.bs,?_,?_,nfs,I.stack,I.stkFree⟩,rfl,I.bare,Un.kept keep,⟨mC,hmC,?_⟩,?_,I.hok.fresh (by show s2.heap.objs.size<=C;rw[hC];exact Nat.le_succ _),?_,fun p hp=>absurd (show p∈([]:List (Addr × Obj)) from hp) (by simp),I.hok.kept keep,?_⟩
 ·show s2.heap.objs.size<=C;rw[hC];exact Nat.le_succ _
 ·intro x y c h1 h2
  refine cf_inj scope.names (C+1) (closL X.env scope.names []) (fun a b d p q=>?_) (fun a d p=>?_) x y c h1 h2
  ·exact I.ok.inj a b d (xl scope.names [] (ok.cells I) (fun _ _ z=>by simp at z) a d p) (xl scope.names [] (ok.cells I) (fun _ _ z=>by simp at z) b d q)
  ·have := cellOld a d (xl scope.names [] (ok.cells I) (fun _ _ z => by simp at z) a d p)
   rw[hC];exact Nat.lt_succ_of_lt (Nat.lt_succ_of_lt this)
 ·intro x hx
  have go:∀ k,(k=NameKind.cell\/k=NameKind.free)->(compEnvC scope (cellsC X scope C) C X.env).kindOf x=some k->∃ c,(cellsC X scope C).lookup x=some c:=fun k hk e=>by
   rcases ok.kindIn e with e | ⟨_,e⟩
   ·rcases hk with rfl | rfl
    ·exact cf_has _ _ _ (PySem.mem_of_lookup e)
    ·exact cf_keep _ _ _ (closL_has (y:=(x,.free)) rfl _ _ (PySem.mem_of_lookup e))
   ·exact cf_keep _ _ _ (closL_has (y:=(x,.free)) rfl _ _ (PySem.mem_of_lookup e))
  rcases hx with e | e
  ·exact go _ (.inl rfl) e
  ·exact go _ (.inr rfl) e
 ·intro x c hx h
  have hx':scope.names.lookup x=some .cell:=by simpa [zr] using hx
  have:=cf_ge (x:=x) scope.names (C+1) (closL X.env scope.names []) (C+1) (Nat.le_refl _) (.inl (PySem.mem_of_lookup hx')) c h
  show s2.heap.objs.size<=c
  exact Nat.le_trans (by rw[hC];exact Nat.le_trans (Nat.le_succ _) (Nat.le_succ _)) this
 ·intro b hb
  obtain⟨⟨_,_,_,_,f4,_⟩,f6⟩:=hf b hb
  refine⟨?_,fun x c h=>?_⟩
  ·show b ≠ C
   rw[hC];exact Nat.ne_of_lt (Nat.lt_succ_of_lt f6)
  ·rcases cellB x c h with ⟨_, q, _⟩ | q
   ·rw [hC] at q
    exact Nat.ne_of_gt (Nat.lt_of_lt_of_le f6 (Nat.le_trans (Nat.le_trans (Nat.le_succ _) (Nat.le_succ _)) q))
   ·exact f4 x c q
 ·exact Nat.le_trans I.ok.bsz I.sz
 ·intro b o e hb
  obtain⟨⟨_,_,_,f3,_⟩,_⟩:=hf b hb
  rcases f3 with z | z
  ·exact I.ok.noex b o e z
  ·exact absurd (Nat.lt_of_lt_of_le (Heap.lt_size (I.ok.bs b o e).1) z) (Nat.lt_irrefl _)
 ·intro i x v h1 h2 h3
  have h2':(replicate own.length (none:Option V)++σ)[i]?=some (some v):=h2
  have hi:own.length<=i:=by
   apply Nat.le_of_not_lt
   intro hlt
   rw[getElem?_append_left (by simpa using hlt),getElem?_replicate] at h2'
   rw[if_pos hlt] at h2'
   cases h2'
  rw[getElem?_append_right (by simpa using hi),length_replicate] at h2'
  have h1':(own++M)[i]?=some x:=h1
  rw[getElem?_append_right hi] at h1'
  obtain⟨n1,n2⟩:=ok.shadow x (mem_of_getElem? h1')
  have hfree:scope.names.lookup x=some .free/\((compEnvC scope (cellsC X scope C) C X.env).kindOf x=some .cell\/(compEnvC scope (cellsC X scope C) C X.env).kindOf x=some .free):=by
   rcases h3 with e | e | e
   ·rcases ok.kindIn (x := x) (C := C) e with q | ⟨q, _⟩
    ·exact absurd q n1
    ·cases q
   ·rcases ok.kindIn (x := x) (C := C) e with q | ⟨_, q⟩
    ·exact absurd q n2
    ·exact⟨q,.inl e⟩
   ·rcases ok.kindIn (x := x) (C := C) e with q | ⟨q, _⟩
    ·exact⟨q,.inr e⟩
    ·cases q
  obtain⟨hfr,hk⟩:=hfree
  obtain⟨m,hn,hl⟩:=I.loc
  have hkX:=ok.frees (x,.free) (PySem.mem_of_lookup hfr) rfl
  have h1':=ok.same _ _ h1' hfr
  obtain⟨u,ru,lk⟩:=hl (i-own.length) x v h1' h2' (hkX.elim (fun z=>.inr (.inl z)) fun z=>.inr (.inr z))
  refine⟨u,ru,.inr ⟨hk,?_⟩⟩
  rcases lk with ⟨k,_⟩ | ⟨_,c,ec,ic⟩
  ·rcases hkX with z | z<;>(rw[k] at z;cases z)
  ·obtain ⟨c', e'⟩ : ∃ c', (cellsC X scope C).lookup x = some c' := cf_keep _ _ _ (closL_has (y := (x, .free)) rfl _ _ (PySem.mem_of_lookup hfr))
   refine⟨c',e',?_⟩
   have:=ok.cellsFrom_old I e' (by rw[hfr];simp)
   have e2:some c=some c':=ec.symm.trans this
   cases e2
   exact ic.keeps keep
 ·intro x c h
  rcases cellB x c h with ⟨q,_⟩ | q
  ·exact⟨_,q⟩
  ·obtain ⟨v, z⟩ := I.cell x c q
   exact⟨v,z.keeps keep⟩
 ·intro x c h
  rcases cellB x c h with ⟨q,q2,_⟩ | q
  ·exact I.hok.fresh (by rw[hC] at q2;exact Nat.le_trans (Nat.le_trans (Nat.le_succ _) (Nat.le_succ _)) q2)
  ·exact I.freeC x c q
 ·show (List.replicate own.length (none : Option V) ++ σ).length = (own ++ M).length
  rw[length_append,length_append,length_replicate,I.len,ok.mlen]
end
section
variable {X:Cx} {scope:Scope} {own M:List Str} {pins:List (Addr × Obj)} {σ:St} {H2:Hp} {s2:Shared} {tg iter kx vx:Expr} {ifs:List Expr} {pos:Pos} {g:TG} {tt:TT} {tk tv:TE}
theorem dcomp_core(ok:CompOk X scope M)(hc:X.calm=true)(hg:∀ C s2 H2 fp,PG (zr X scope own M C s2 H2 fp) tg g)(ht:∀ C s2 H2 fp,PTs (zr X scope own M C s2 H2 fp) ifs tt)(hek:∀ C s2 H2 fp,PE (zr X scope own M C s2 H2 fp) kx tk)(he:∀ C s2 H2 fp,PE (zr X scope own M C s2 H2 fp) vx tv)
  (I2:Inv X pins σ H2 s2) {it:Addr} {fp:List Addr} {tn:Nat->Heap->Prop} {J:It} (T:Turn X.prog X.w X.K tg J fp it tn) (st2:tn 0 s2.heap) (f2:∀ b∈fp,FpOk X pins H2 b)
  {W:Nat->Nat->List (Key × V)->Hp->Prop} (w0:∃ m,W 0 m [] H2) {Qf:V->Hp->Prop}
  (turn : ∀ i m acc H, W i m acc H -> (J.stop i H /\ acc.length <= sizeLine /\ ∀ D, H D = none -> Qf (.ref D) (upd H D (.dK acc))) \/
   (J.go i H /\ acc.length < sizeLine /\ ∀ x H', J.yld i H x H' -> g x (List.replicate own.length none ++ σ) H' fun σ2 H2 => σ2.drop own.length = σ /\ tt σ2 H2 fun c H3 =>
    if c=true then tk σ2 H3 fun y H4=>tv σ2 H4 fun v H5=>∃ k m',y=kV k/\m'<m/\W (i+1) m' (putK acc k v) H5 else ∃ m',m'<m/\W (i+1) m' acc H3))
  {RR:Value->Addr->Result->Shared->Prop} {E:Value->Shared->Prop}
  (fin:∀ D C H' s' m,Inv X pins σ H' s'->Qf (.ref D) H'->s'.heap.Ns C m->H' C=none->C≠X.env.locals->X.s₀.heap.objs.size<=C->(∀ x c,X.env.cells.lookup x=some c->c≠C)->(∀ p∈X.pn++pins,p.1≠C)->RR (.ref D) C (.ok .next) s') :
  wpAny (model X.prog X.w) X.A newDict (fun acc s3=>wpAny (model X.prog X.w) X.A (newFunctionEnv scope X.env.globals (closL X.env scope.names []) [] X.env.qual none .none (some X.env)) (fun cenv s4 =>
   codeAny (model X.prog X.w) X.A (.compStart (.DictComp kx vx [⟨tg,iter,ifs,0⟩] scope pos) 0 (.ref it) acc { cenv with scope:=relabel scope X.env }) (RR acc cenv.locals) s4) E s3) E s2:=by
 refine wpAny_newObj_type (newEnv_comp ?_)
 have zC:(s2.heap.push { cls:=.type "dict",dict:=none,data:=.dict #[] }).objs.size=s2.heap.objs.size+1:=Heap.size_push ..
 dsimp only
 rw[zC]
 generalize hC:s2.heap.objs.size+1=C
 generalize hh:pushCells ((s2.heap.push { cls:=.type "dict",dict:=none,data:=.dict #[] }).push { cls:=.type "dict",data:=.dict #[] }) scope.names=h4
 have fpl:∀ b∈fp,FpOk X pins H2 b/\b<s2.heap.objs.size:=fun b hb=>by
  obtain⟨o,e,_⟩:=T.obj 0 _ st2 b hb
  exact⟨f2 b hb,Heap.lt_size e⟩
 have I4:Inv (zr X scope own M C s2 H2 fp) [] (replicate own.length none++σ) H2 { s2 with heap:=h4 }:=inv_compD (o0:={ cls:=.type "dict",dict:=none,data:=.dict #[] }) ok hc I2 fpl hC.symm hh.symm
 generalize hX:zr X scope own M C s2 H2 fp=X' at I4
 have keep4:∀ b o,s2.heap.get? b=some o->h4.get? b=some o:=fun b o e=>by
  rw[<- hh];exact pushCells_keeps _ _ _ _ (Heap.get?_push_of_some _ (Heap.get?_push_of_some _ e))
 have hD4:h4.get? s2.heap.objs.size=some { cls:=.type "dict",dict:=none,data:=.dict #[] }:=by
  rw[<- hh];exact pushCells_keeps _ _ _ _ (Heap.get?_push_of_some _ (Heap.get?_push_size _ rfl))
 have isD0:(({ cls:=.type "dict",dict:=none,data:=.dict #[] }:Obj)).IsDictOf (zB X.prog X.w) []:=by
  obtain⟨_,_,vs,r,o,es,ep,e,q⟩:=dk_empty (P:=X.prog) (w:=X.w) (H:=H2) s2.heap I2.big
  cases r
  rw[Heap.get?_push_size _ (by rfl)] at e
  cases e
  exact⟨es,ep,q⟩
 have dsys:(s2.heap.objs.size == sysModules)=false:=(dk_empty (P:=X.prog) (w:=X.w) (H:=H2) s2.heap I2.big).2.1
 have st4:tn 0 h4:=T.keep _ _ _ st2 fun b hb o e=>keep4 b o e
 have gg:PG X' tg g:=by rw[<- hX];exact hg C s2 H2 fp
 have gt:PTs X' ifs tt:=by rw[<- hX];exact ht C s2 H2 fp
 have gk:PE X' kx tk:=by rw[<- hX];exact hek C s2 H2 fp
 have ge:PE X' vx tv:=by rw[<- hX];exact he C s2 H2 fp
 have xP:X'.prog=X.prog:=by rw[<- hX];rfl
 have xw:X'.w=X.w:=by rw[<- hX];rfl
 have xK:X'.K=X.K:=by rw[<- hX];rfl
 have xA:X'.A=X.A:=by rw[<- hX];rfl
 have xc:X'.calm=true:=by rw[<- hX];exact hc
 have xpn:X'.pn=[]:=by rw[<- hX];rfl
 have xs:X'.s₀=s2:=by rw[<- hX];rfl
 have xH:X'.H₀=H2:=by rw[<- hX];rfl
 have xL:X'.env.locals=C:=by rw[<- hX];rfl
 have xfs:X'.fs=frs X.stack:=by rw[<- hX];rfl
 have xex:X'.ex=fp:=by rw[<- hX];rfl
 have xe:X'.xe=fun _ _=>False:=by rw[<- hX];rfl
 have xenv:({ newEnv scope C X.env.globals (cellsFrom (C+1) scope.names (closL X.env scope.names [])) X.env.qual none .none (some X.env) builtinsNs with scope:=relabel scope X.env }:Env)=X'.env:=by rw[<- hX];rfl
 have Dlt:s2.heap.objs.size<C:=by rw[<- hC];exact Nat.lt_succ_self _
 have fpb:∀ {pl:List (Addr × Obj)} {H:Hp},(∀ b∈fp,H b=none)->(∀ p∈pl,p.1 ∉ fp)->∀ b∈fp,FpOk X' pl H b:=fun {pl H} hn hpl b hb=>by
  refine⟨hn b hb,?_,?_,.inl (by rw[xex];exact hb),fun x c e=>(I4.ok.exf b (by rw[xex];exact hb)).2 x c e,fun p hp z=>?_⟩
  ·exact(I4.ok.exf b (by rw[xex];exact hb)).1
  ·exact I4.ok.exfs b (by rw[xex];exact hb)
  ·rw [xpn, List.nil_append] at hp
   exact hpl p hp (by rw[z];exact hb)
 have Dfp:s2.heap.objs.size ∉ fp:=fun z=>Nat.lt_irrefl _ (fpl _ z).2
 have DC:s2.heap.objs.size≠C:=Nat.ne_of_lt Dlt
 have Dcell:∀ x c,X'.env.cells.lookup x=some c->c≠s2.heap.objs.size:=fun x c e z=>by
  obtain⟨v,o,q,hd⟩:=I4.cell x c e
  rw[z] at q
  have q':h4.get? s2.heap.objs.size=some o:=q
  rw[hD4] at q'
  cases q'
  cases hd
 have Dfs:s2.heap.objs.size ∉ X'.fs:=fun z=>by
  obtain⟨_,o,ho,_⟩:=I4.ok.funs.mem (by exact z)
  rw[xs] at ho
  exact Nat.lt_irrefl _ (Heap.lt_size ho)
 rw[xenv]
 have goal:∀ s5:Shared,s5={ s2 with heap:=h4 }->codeAny (model X.prog X.w) X.A (.compLoop (.DictComp kx vx [⟨tg,iter,ifs,0⟩] scope pos) 0 (.ref it) (.ref s2.heap.objs.size) X'.env) (RR (.ref s2.heap.objs.size) C) s5:=by
  rintro s5 rfl
  obtain⟨m0,w0⟩:=w0
  refine dcomp_loop (fun n s'=>∃ i acc σ' H' ob vs,Inv X' [] σ' H' s'/\σ'.drop own.length=σ/\tn i s'.heap/\(∀ b∈fp,H' b=none)/\H' s2.heap.objs.size=none /\
   s'.heap.get? s2.heap.objs.size=some ob/\ob.IsDictOf (zB X.prog X.w) vs/\KV acc vs/\W i n acc H') ?_ m0
   ⟨0,[],_,H2,_,[],I4,by simp,st4,fun b hb=>(f2 b hb).1,I2.hok.fresh (Nat.le_refl _),hD4,isD0,.nil,w0⟩
  rintro n s3 ⟨i,acc,σ3,H3,ob,vs,I3,hσ,st3,fr3,hD,hDo,isD,rv,w3⟩
  have noc:∀ v,ob.data≠.cell v:=fun v z=>by
   obtain⟨es,ep,_,e,_⟩:=isD
   rw[e] at z;cases z
  have pinD:∀ {H:Hp} {s:Shared} {σ:St},Inv X' [] σ H s->H s2.heap.objs.size=none->s.heap.get? s2.heap.objs.size=some ob ->
    Inv X' [(s2.heap.objs.size,ob)] σ H s:=fun {H s σ} I hn ho=>I.pins_of fun p hp=>by
   have e:p=(s2.heap.objs.size,ob):=by simpa using hp
   subst e
   exact⟨ho,hn,by rw[xL];exact DC,Dfs,noc⟩
  have plD:∀ p∈[((s2.heap.objs.size,ob):Addr × Obj)],p.1 ∉ fp:=fun p hp=>by
   have e:p=(s2.heap.objs.size,ob):=by simpa using hp
   subst e
   exact Dfp
  have I3':=pinD I3 hD hDo
  rcases turn i n acc H3 w3 with ⟨stop,hsz,q⟩ | ⟨go,hsz,step⟩
  ·have := T.done X' xP xw xK xc i _ s3 σ3 H3 (fun _ _ => False) I3' (fpb fr3 plD) st3 stop
   rw[xA] at this
   refine thn this fun r s4 ⟨hr,I5⟩=>?_
   subst hr
   have hDo5:=(I5.pin (s2.heap.objs.size,ob) (by rw[xpn];simp)).1
   have un:Un (frs X.stack) fp H2 H3 s2.heap s4.heap:=by
    have:=I5.base
    rw[xfs,xex,xH,xs] at this
    exact this
   have os:s4.os=s2.os:=by rw[I5.os,xs]
   have hok:HOk X.prog X.w H3 s4.heap:=by have:=I5.hok;rw[xP,xw] at this;exact this
   have IX:Inv X pins σ H3 s4:=I2.call' os un hok I5.bare fun b hb=>by
    obtain⟨_,f1,_,f3,f4,f5⟩:=f2 b hb
    exact⟨f3,f1,f4,f5⟩
   have old:∀ {b:Addr},s2.heap.objs.size<=b->(X.s₀.heap.objs.size<=b/\b≠X.env.locals/\(∀ x c,X.env.cells.lookup x=some c->c≠b)/\∀ p∈X.pn++pins,p.1≠b):=fun {b} hb=>by
    obtain⟨_,f1,_,f3,f4,f5⟩:=I2.fpOk (H':=fun _=>none) hb rfl
    exact⟨Nat.le_trans I2.sz hb,f1,f4,f5⟩
   obtain⟨d1,d2,d3,d4⟩:=old (Nat.le_refl s2.heap.objs.size)
   obtain⟨c1,c2,c3,c4⟩:=old (b:=C) (Nat.le_of_lt Dlt)
   have IY:Inv X pins σ (upd H3 s2.heap.objs.size (.dK acc)) s4:=IX.track hD d1 d2 d3 d4 ⟨hsz,dsys,vs,rv,(let ⟨es,ep,r⟩:=isD;⟨ob,es,ep,hDo5,r⟩)⟩
   obtain⟨m,hm,_⟩:=I5.loc
   rw[xL] at hm
   have hCn:H3 C=none:=by have:=I5.free;rw[xL] at this;exact this
   exact fin _ C _ s4 m IY (q _ hD) hm (by rw[zm (Ne.symm DC)];exact hCn) c2 c1 c3 c4
  ·have := T.item X' xP xw xK xc i _ s3 σ3 H3 (fun _ _ => False) I3' (fpb fr3 plD) st3 go
   rw[xA] at this
   refine thn this fun r s4 ⟨u,hr,h4⟩=>?_
   subst hr
   refine thn h4 fun _ s5 ⟨x,H5,I5,r5,y5,st5,fr5⟩=>?_
   have hσn:∀ (j:Nat) v,(replicate own.length none++σ)[j]?=some (some v)->σ3[j]?=some (some v):=fun j v e=>by
    by_cases hlt:j<own.length
    ·rw [List.getElem?_append_left (by simpa using hlt), List.getElem?_replicate, if_pos hlt] at e
     cases e
    ·have hle := Nat.le_of_not_lt hlt
     rw[getElem?_append_right (by simpa using hle),length_replicate,<- hσ,getElem?_drop] at e
     rw[show own.length+(j-own.length)=j by lia] at e
     exact e
   have hlen:(replicate own.length none++σ).length=σ3.length:=by
    have e1:σ3.length=X'.N.length:=I5.len
    have e2:=I4.len
    exact e2.trans e1.symm
   have I5w:Inv X' _ (replicate own.length none++σ) H5 s5:=I5.weak hlen hσn
   have I5p:=I5w.pinned (fpb fr5 plD) (T.obj _ _ st5)
   have a1:=gg _ s5 _ H5 x u _ I5p r5 (step x H5 y5)
   rw[xP,xw,xA,xe] at a1
   refine thn a1 fun _ s6 ⟨σ6,H6,I6,d6,q6⟩=>?_
   have a2:=gt _ s6 σ6 H6 _ I6 q6
   rw[xP,xw,xA,xe] at a2
   refine thn a2 fun b s7 ⟨H7,I7,q7⟩=>?_
   have pin7:∀ {H:Hp} {s:Shared},Inv X' ([((s2.heap.objs.size,ob):Addr × Obj)]++pinsAt fp s5.heap) σ6 H s ->
     (tn (i+1) s.heap/\(∀ b∈fp,H b=none)/\H s2.heap.objs.size=none/\s.heap.get? s2.heap.objs.size=some ob/\Inv X' [] σ6 H s):=fun {H s} I=>by
    refine⟨T.keep _ _ _ st5 fun b hb o e=>(I.pin (b,o) (mem_append_right _ (mem_append_right _ (mem_pinsAt hb e)))).1,fun b hb=>?_,?_,?_,I.pins_of fun p hp=>by simp at hp⟩
    ·obtain ⟨o, e, d⟩ := T.obj _ _ st5 b hb
     exact(I.pin (b,o) (mem_append_right _ (mem_append_right _ (mem_pinsAt hb e)))).2.1
    ·exact(I.pin (s2.heap.objs.size,ob) (by rw[xpn];simp)).2.1
    ·exact(I.pin (s2.heap.objs.size,ob) (by rw[xpn];simp)).1
   cases b with
   | false =>
    obtain⟨p1,p2,p3,p4,p5⟩:=pin7 I7
    obtain⟨m',hm,w7⟩:=q7
    exact⟨m',hm,i+1,acc,σ6,H7,ob,vs,p5,d6,p1,p2,p3,p4,isD,rv,w7⟩
   | true =>
    rw[if_pos rfl] at q7 ⊢
    have a3:=gk _ s7 σ6 H7 _ I7 q7
    rw[xP,xw,xA,xe] at a3
    refine thn a3 fun y s8 ⟨v,H8,I8,r8,q8⟩=>?_
    have a4:=ge _ s8 σ6 H8 _ I8 q8
    rw[xP,xw,xA,xe] at a4
    refine thn a4 fun y2 s9 ⟨v2,H9,I9,r9,q9⟩=>?_
    obtain⟨p1,p2,p3,p4,p5⟩:=pin7 I9
    obtain⟨kk,m',ek,hm,w8⟩:=q9
    subst ek
    have hl:=rv.length
    refine wpAny_dictSet_pairs (hsz:=by lia) (kV_is r8) (let ⟨es,ep,r⟩:=isD;⟨ob,es,ep,p4,r⟩) fun h' dd' hs=>?_
    obtain⟨ob',es',ep',ho',isD'⟩:=dd'
    have I10:Inv X' [] σ6 H9 { s9 with heap:=h',toks:=s9.toks+1 }:=p5.turned (t':=s9.toks+1) (fun b o hb e=>hs.extBut b o hb e) p3 (by rw[xL];exact DC) (.inr (by rw[xs];exact Nat.le_refl _)) Dcell (fun p hp=>by rw[xpn] at hp;simp at hp)
    exact⟨m',hm,i+1,putK acc kk v2,σ6,H9,ob',_,I10,d6,T.keep _ _ _ p1 fun b hb o e=>hs.extBut b o (fun z=>Dfp (by rw[<- z];exact hb)) e,p2,p3,ho',⟨es',ep',isD'⟩,rv.put kk r9,w8⟩
 exact codeAny_compStart_dict (goal _ rfl) (T.self _ 0 _ _ _ st4 (goal _ rfl))
theorem eval_dcomp(kx vx:Expr)(gens:List Comprehension)(scope:Scope)(pos:Pos)(env:Env):eval (.DictComp kx vx gens scope pos) env=comprehension (.DictComp kx vx gens scope pos) scope env (firstIterPos gens pos) newDict (firstAsync gens) (firstIter gens env):=by
 first | rfl | (unfold eval;rfl) | (rw[eval];rfl) | rw[eval]
def tDComp(wi:TI)(own:Nat)(g:TG)(tt:TT)(tk tv:TE):TE:=fun σ H Q=>wi σ H fun J H1=>∃ W:Nat->Nat->List (Key × V)->Hp->Prop,(∃ m,W 0 m [] H1)/\∀ i m acc H,W i m acc H ->
 (J.stop i H/\acc.length<=sizeLine/\∀ D,H D=none->Q (.ref D) (upd H D (.dK acc))) \/
 (J.go i H /\ acc.length < sizeLine /\ ∀ x H', J.yld i H x H' -> g x (List.replicate own none ++ σ) H' fun σ2 H2 => σ2.drop own = σ /\ tt σ2 H2 fun c H3 =>
  if c=true then tk σ2 H3 fun y H4=>tv σ2 H4 fun v H5=>∃ k m',y=kV k/\m'<m/\W (i+1) m' (putK acc k v) H5 else ∃ m',m'<m/\W (i+1) m' acc H3)
theorem pe_dcomp{wi:TI}(ok:CompOk X scope M)(hc:X.calm=true)(hi:PI X tg iter wi)(hg:∀ C s2 H2 fp,PG (zr X scope own M C s2 H2 fp) tg g)(ht:∀ C s2 H2 fp,PTs (zr X scope own M C s2 H2 fp) ifs tt)
  (hek:∀ C s2 H2 fp,PE (zr X scope own M C s2 H2 fp) kx tk) (he:∀ C s2 H2 fp,PE (zr X scope own M C s2 H2 fp) vx tv) (hs:∀ x,foldedSetIterable iter X.env x=pure x:=by intro _;rfl) :
  PE X (.DictComp kx vx [⟨tg,iter,ifs,0⟩] scope pos) (tDComp wi own.length g tt tk tv):=by
 intro pins s σ H Q I h
 rw[eval_dcomp]
 refine wpAny_comprehension_free (use:=none) rfl hs (clos_for (ok.cells I)) ok.kind (fun x hx hl=>by rw[ok.uniq x hx,hl]) ?_
 refine thn (hi pins s σ H _ I h) fun v s1 h1=>thn h1 fun itv s2 h2=>?_
 obtain⟨it,fp,tn,J,H2,e,I2,T,st2,f2,W,w0,turn⟩:=h2
 subst e
 refine dcomp_core (Qf:=Q) ok hc hg ht hek he I2 T st2 f2 w0 turn fun D C H' s' m IY q hm hCn c2 c1 c3 c4=>⟨m,hm,fun h' hs'=>?_⟩
 exact⟨.ref D,H',IY.turned (t':=s'.toks) (fun b o hb e=>hs'.extBut b o hb e) hCn c2 (.inr c1) c3 c4,rfl,q⟩
end
end L2
namespace L2
inductive D where
 | non | bl (b:Bool) | int (i:Int) | str (x:Str) | ty (n:String) | tup (ds:List D) | lst (ds:List D)
 /-- a list that is known and stays -/
 | fz (ds:List D)
 /-- the list that the drawing keeps -/
 | st
 /-- a list of the frame's own (in a slot alone) -/
 | own (ds:List D)
 /-- a dict of the frame's own (in a slot alone), its keys pairs of numbers -/
 | owT (ks:List (Int × Int)) (ds:List D)
 /-- a pair of numbers, a tuple that is tracked -/
 | prT (k:Int × Int)
 /-- a dict, whatever it holds -/
 | dic
 /-- a dict, known, that stays -/
 | dct (ks:List Key) (ds:List D)
def kvsV(ks:List Key)(xs:List V):List (Key × V):=List.zipWith (fun k x=>(k,x)) ks xs
abbrev hNone:Hp:=fun _=>none
def SqZ(K:W.Frag)(Z:Addr->Prop)(H:Hp)(b:Bool)(a:Addr)(xs:List V):Prop :=
 match b with
 | true=>¬ Z a/\H a=some (.lst xs)
 | false=>(¬ Z a/\Rd H a (.tup xs))\/SqT K hNone a xs
def SqF(K:W.Frag)(Z:Addr->Prop)(H:Hp)(a:Addr)(xs:List V):Prop:=(¬ Z a/\∃ o,H a=some (.frz o (.lst xs)))\/SqL K hNone a xs
mutual
def Rep(K:W.Frag)(G:Option Addr)(Z:Addr->Prop)(H:Hp):D->V->Prop
 | .non,v=>v=.non
 | .bl b,v=>v=.bl b
 | .int i,v=>v=.int i
 | .str x,v=>v=.str x
 | .ty n,v=>v=.ty n
 | .tup ds,v=>∃ a xs,v=.ref a/\SqZ K Z H false a xs/\Reps K G Z H ds xs
 | .lst ds,v=>∃ a xs,v=.ref a/\SqZ K Z H true a xs/\Reps K G Z H ds xs
 | .fz ds,v=>∃ a xs,v=.ref a/\SqF K Z H a xs/\Reps K G Z H ds xs
 | .st,v=>∃ a,G=some a/\v=.ref a
 | .own _,_=>False
 | .owT _ _,_=>False
 | .prT k,v=>∃ b,v=.ref b/\¬ Z b/\H b=some (.tup [.int k.1,.int k.2])
 | .dic,v=>∃ a kvs,v=.ref a/\¬ Z a/\H a=some (.dK kvs)
 | .dct ks ds,v=>∃ a xs,v=.ref a/\(¬ Z a/\H a=some (.dK (kvsV ks xs)))/\Reps K G Z H ds xs
def Reps(K:W.Frag)(G:Option Addr)(Z:Addr->Prop)(H:Hp):List D->List V->Prop
 | [],vs=>vs=[]
 | d::ds,vs=>∃ v r,vs=v::r/\Rep K G Z H d v/\Reps K G Z H ds r
end
section
variable {K:W.Frag} {G:Option Addr} {Z Z':Addr->Prop} {H H':Hp}
theorem SqT.anyH{a:Addr}{xs:List V}(h:SqT K hNone a xs):SqT K H a xs:=by
 rcases h with (h | ⟨o,h⟩) | h
 ·cases h
 ·cases h
 ·exact .inr h
theorem SqZ.sq{b:Bool}{a:Addr}{xs:List V}(h:SqZ K Z H b a xs):SqB K b H a xs:=by
 cases b with
 | true=>exact SqL.of h.2
 | false =>
  rcases h with ⟨_,h⟩ | h
  ·exact .inl h
  ·exact SqT.anyH h
theorem SqZ.mono{b:Bool}{a:Addr}{xs:List V}(h:SqZ K Z H b a xs)(hz:∀ a,H a≠none->Z' a->Z a)(hf:∀ a o,¬ Z a->H a=some o->H' a=some o):SqZ K Z' H' b a xs:=by
 cases b with
 | true=>exact⟨fun z=>h.1 (hz a (by rw[h.2];simp) z),hf a _ h.1 h.2⟩
 | false =>
  rcases h with ⟨n,h⟩ | h
  ·refine .inl ⟨fun z => n (hz a ?_ z), ?_⟩
   ·rcases h with h | ⟨o,h⟩<;>(rw[h];simp)
   ·rcases h with h | ⟨o, h⟩
    ·exact .inl (hf a _ n h)
    ·exact .inr ⟨o,hf a _ n h⟩
  ·exact .inr h
mutual
theorem Rep.mono(hz:∀ a,H a≠none->Z' a->Z a)(hf:∀ a o,¬ Z a->H a=some o->H' a=some o):∀ (d:D) (v:V),Rep K G Z H d v->Rep K G Z' H' d v
 | .non,v,h=>by unfold Rep at h ⊢;exact h
 | .bl b,v,h=>by unfold Rep at h ⊢;exact h
 | .int b,v,h=>by unfold Rep at h ⊢;exact h
 | .str b,v,h=>by unfold Rep at h ⊢;exact h
 | .ty b,v,h=>by unfold Rep at h ⊢;exact h
 | .st,v,h=>by unfold Rep at h ⊢;exact h
 | .own _,v,h=>by unfold Rep at h;exact h.elim
 | .owT _ _,v,h=>by unfold Rep at h;exact h.elim
 | .prT k,v,h=>by
  unfold Rep at h ⊢
  obtain⟨b,e,n,q⟩:=h
  exact⟨b,e,fun z=>n (hz b (by rw[q];simp) z),hf b _ n q⟩
 | .dic,v,h=>by
  unfold Rep at h ⊢
  obtain⟨a,kvs,e,n,q⟩:=h
  exact⟨a,kvs,e,fun z=>n (hz a (by rw[q];simp) z),hf a _ n q⟩
 | .dct ks ds,v,h=>by
  unfold Rep at h ⊢
  obtain⟨a,xs,e,⟨n,q⟩,r⟩:=h
  exact⟨a,xs,e,⟨fun z=>n (hz a (by rw[q];simp) z),hf a _ n q⟩,Reps.mono hz hf ds xs r⟩
 | .tup ds,v,h=>by
  unfold Rep at h ⊢
  obtain⟨a,xs,e,q,r⟩:=h
  exact⟨a,xs,e,q.mono hz hf,Reps.mono hz hf ds xs r⟩
 | .lst ds,v,h=>by
  unfold Rep at h ⊢
  obtain⟨a,xs,e,q,r⟩:=h
  exact⟨a,xs,e,q.mono hz hf,Reps.mono hz hf ds xs r⟩
 | .fz ds,v,h=>by
  unfold Rep at h ⊢
  obtain⟨a,xs,e,q,r⟩:=h
  refine⟨a,xs,e,?_,Reps.mono hz hf ds xs r⟩
  rcases q with ⟨n,o,q⟩ | q
  ·exact .inl ⟨fun z=>n (hz a (by rw[q];simp) z),o,hf a _ n q⟩
  ·exact .inr q
theorem Reps.mono(hz:∀ a,H a≠none->Z' a->Z a)(hf:∀ a o,¬ Z a->H a=some o->H' a=some o):∀ (ds:List D) (vs:List V),Reps K G Z H ds vs->Reps K G Z' H' ds vs
 | [],vs,h=>by unfold Reps at h ⊢;exact h
 | d::ds,vs,h=>by
  unfold Reps at h ⊢
  obtain⟨v,r,e,q,t⟩:=h
  exact⟨v,r,e,Rep.mono hz hf d v q,Reps.mono hz hf ds r t⟩
end
theorem Reps.nil:Reps K G Z H [] []:=by unfold Reps;rfl
theorem Reps.cons{d:D}{ds:List D}{v:V}{vs:List V}(h:Rep K G Z H d v)(t:Reps K G Z H ds vs):Reps K G Z H (d::ds) (v::vs):=by unfold Reps;exact⟨v,vs,rfl,h,t⟩
theorem Reps.inv{d:D}{ds:List D}{v:V}{vs:List V}(h:Reps K G Z H (d::ds) (v::vs)):Rep K G Z H d v/\Reps K G Z H ds vs:=by
 unfold Reps at h
 obtain⟨v',r,e,q,t⟩:=h
 cases e
 exact⟨q,t⟩
theorem Reps.split{d:D}{ds:List D}{vs:List V}(h:Reps K G Z H (d::ds) vs):∃ v r,vs=v::r/\Rep K G Z H d v/\Reps K G Z H ds r:=by unfold Reps at h;exact h
theorem Reps.nil_inv{vs:List V}(h:Reps K G Z H [] vs):vs=[]:=by unfold Reps at h;exact h
theorem Reps.length:∀ {ds:List D} {vs:List V},Reps K G Z H ds vs->vs.length=ds.length
 | [],vs,h=>by rw[h.nil_inv];rfl
 | d::ds,vs,h=>by
  obtain⟨v,r,rfl,_,t⟩:=h.split
  rw[length_cons,length_cons,Reps.length t]
theorem Reps.get:∀ {ds:List D} {vs:List V} {i:Nat} {d:D},Reps K G Z H ds vs->ds[i]?=some d->∃ v,vs[i]?=some v/\Rep K G Z H d v
 | [],vs,i,d,_,e=>by simp at e
 | c::ds,vs,0,d,h,e=>by
  obtain⟨v,r,rfl,q,t⟩:=h.split
  simp at e;subst e
  exact⟨v,rfl,q⟩
 | c::ds,vs,i+1,d,h,e=>by
  obtain⟨v,r,rfl,q,t⟩:=h.split
  obtain⟨u,e1,e2⟩:=Reps.get (i:=i) t (by simpa using e)
  exact⟨u,by simpa using e1,e2⟩
theorem Reps.append:∀ {ds es:List D} {vs ws:List V},Reps K G Z H ds vs->Reps K G Z H es ws->Reps K G Z H (ds++es) (vs++ws)
 | [],es,vs,ws,h,h'=>by rw[h.nil_inv];exact h'
 | d::ds,es,vs,ws,h,h'=>by
  obtain⟨v,r,rfl,q,t⟩:=h.split
  exact .cons q (Reps.append t h')
theorem Reps.drop:∀ {ds:List D} {vs:List V} (n:Nat),Reps K G Z H ds vs->Reps K G Z H (ds.drop n) (vs.drop n)
 | ds,vs,0,h=>h
 | [],vs,n+1,h=>by rw[h.nil_inv];exact .nil
 | d::ds,vs,n+1,h=>by
  obtain⟨v,r,rfl,q,t⟩:=h.split
  exact Reps.drop n t
theorem Reps.take:∀ {ds:List D} {vs:List V} (n:Nat),Reps K G Z H ds vs->Reps K G Z H (ds.take n) (vs.take n)
 | ds,vs,0,h=>.nil
 | [],vs,n+1,h=>by rw[h.nil_inv];exact .nil
 | d::ds,vs,n+1,h=>by
  obtain⟨v,r,rfl,q,t⟩:=h.split
  exact .cons q (Reps.take n t)
theorem Reps.flatRep{ds:List D}{vs:List V}(h:Reps K G Z H ds vs):∀ k:Nat,Reps K G Z H (replicate k ds).flatten (replicate k vs).flatten
 | 0=>.nil
 | k+1=>by
  rw[replicate_succ,replicate_succ,flatten_cons,flatten_cons]
  exact h.append (Reps.flatRep h k)
end
def scalD:D->Bool
 | .non=>true | .bl _=>true | .int _=>true | .str _=>true | .ty _=>true | _=>false
def ofS:D->V
 | .bl b=>.bl b | .int i=>.int i | .str x=>.str x | .ty n=>.ty n | _=>.non
theorem Rep.ofS{K:W.Frag}{G:Option Addr}{Z:Addr->Prop}{H:Hp}:∀ {d:D},scalD d=true->Rep K G Z H d (ofS d)
 | .non,_=>by unfold Rep;rfl
 | .bl b,_=>by unfold Rep;rfl
 | .int b,_=>by unfold Rep;rfl
 | .str b,_=>by unfold Rep;rfl
 | .ty b,_=>by unfold Rep;rfl
 | .tup ds,h=>by simp[scalD] at h
 | .lst ds,h=>by simp[scalD] at h
 | .st,h=>by simp[scalD] at h
 | .fz ds,h=>by simp[scalD] at h
 | .own ds,h=>by simp[scalD] at h
 | .owT _ _,h=>by simp[scalD] at h
 | .prT _,h=>by simp[scalD] at h
theorem Rep.toS{K:W.Frag}{G:Option Addr}{Z:Addr->Prop}{H:Hp}{v:V}:∀ {d:D},scalD d=true->Rep K G Z H d v->v=L2.ofS d
 | .non,_,h=>by unfold Rep at h;exact h
 | .bl b,_,h=>by unfold Rep at h;exact h
 | .int b,_,h=>by unfold Rep at h;exact h
 | .str b,_,h=>by unfold Rep at h;exact h
 | .ty b,_,h=>by unfold Rep at h;exact h
 | .tup ds,h,_=>by simp[scalD] at h
 | .lst ds,h,_=>by simp[scalD] at h
 | .st,h,_=>by simp[scalD] at h
 | .fz ds,h,_=>by simp[scalD] at h
 | .own ds,h,_=>by simp[scalD] at h
 | .owT _ _,h,_=>by simp[scalD] at h
 | .prT _,h,_=>by simp[scalD] at h
theorem Rep.int_inv{K:W.Frag}{G:Option Addr}{Z:Addr->Prop}{H:Hp}{v:V}{i:Int}(h:Rep K G Z H (.int i) v):v=.int i:=by unfold Rep at h;exact h
theorem Rep.bl_inv{K:W.Frag}{G:Option Addr}{Z:Addr->Prop}{H:Hp}{v:V}{i:Bool}(h:Rep K G Z H (.bl i) v):v=.bl i:=by unfold Rep at h;exact h
theorem Rep.tup_inv{K:W.Frag}{G:Option Addr}{Z:Addr->Prop}{H:Hp}{v:V}{ds:List D}(h:Rep K G Z H (.tup ds) v):∃ a xs,v=.ref a/\SqZ K Z H false a xs/\Reps K G Z H ds xs:=by unfold Rep at h;exact h
theorem Rep.lst_inv{K:W.Frag}{G:Option Addr}{Z:Addr->Prop}{H:Hp}{v:V}{ds:List D}(h:Rep K G Z H (.lst ds) v):∃ a xs,v=.ref a/\SqZ K Z H true a xs/\Reps K G Z H ds xs:=by unfold Rep at h;exact h
theorem Rep.fz_inv{K:W.Frag}{G:Option Addr}{Z:Addr->Prop}{H:Hp}{v:V}{ds:List D}(h:Rep K G Z H (.fz ds) v):∃ a xs,v=.ref a/\SqL K H a xs/\Reps K G Z H ds xs:=by
 unfold Rep at h
 obtain⟨a,xs,e,q,r⟩:=h
 refine⟨a,xs,e,?_,r⟩
 rcases q with ⟨_,o,q⟩ | q
 ·exact .inl (.inr ⟨o,q⟩)
 ·rcases q with (q | ⟨o, q⟩) | q
  ·cases q
  ·cases q
  ·exact .inr q
theorem Rep.tup_mk{K:W.Frag}{G:Option Addr}{Z:Addr->Prop}{H:Hp}{a:Addr}{xs:List V}{ds:List D}(q:SqZ K Z H false a xs)(r:Reps K G Z H ds xs):Rep K G Z H (.tup ds) (.ref a):=by unfold Rep;exact⟨a,xs,rfl,q,r⟩
theorem Rep.lst_mk{K:W.Frag}{G:Option Addr}{Z:Addr->Prop}{H:Hp}{a:Addr}{xs:List V}{ds:List D}(q:SqZ K Z H true a xs)(r:Reps K G Z H ds xs):Rep K G Z H (.lst ds) (.ref a):=by unfold Rep;exact⟨a,xs,rfl,q,r⟩
def StOk(G:Option Addr)(n:Nat)(H:Hp):Prop:=∀ a,G=some a->∃ (zs:List Int) (_ _:Nat),H a=some (.lst (zs.map V.int))/\zs.length=n/\(∀ x∈zs,0<=x)/\∀ x,zs[1]?=some x->x<2147483647
structure AC where
 K:W.Frag
 G:Option Addr
 Z0:Addr->Prop
 H0:Hp
abbrev Rho:=List (Option D)
def Zof(A:AC)(os:List (Nat × Addr)):Addr->Prop:=fun a=>A.Z0 a\/∃ p∈os,p.2=a
def kP(k:Int × Int):List Key:=[.inl k.1,.inl k.2]
def kvsT(ks:List (Int × Int))(xs:List V):List (List Key × V):=List.zipWith (fun k x=>(kP k,x)) ks xs
def SlotR(A:AC)(os:List (Nat × Addr))(H:Hp)(i:Nat):D->V->Prop
 | .own ds,v=>∃ a xs,v=.ref a/\(i,a)∈os/\H a=some (.lst xs)/\Reps A.K A.G (Zof A os) H ds xs
 | .owT ks ds,v=>∃ a xs,v=.ref a/\(i,a)∈os/\H a=some (.dT (kvsT ks xs))/\ks.length=xs.length/\Reps A.K A.G (Zof A os) H ds xs
 | d,v=>Rep A.K A.G (Zof A os) H d v
def lamDefs:List Str:=["_law_grown"]
def TabIs(K:W.Frag)(P:Addr)(q:Str):Prop:=∃ x∈lamDefs,∃ c,W.tabIn K x=some (c,P)/\q=(x ++ ".<locals>.") ++ "<lambda>"
def Hot(o:Option HO):Prop:=∃ u,o=some u/\∀ ys,u≠.tup ys
theorem Hot.ne{o:Option HO}(h:Hot o):o≠none:=by obtain⟨u,e,_⟩:=h;rw[e];simp
theorem Hot.lst{xs:List V}:Hot (some (.lst xs)):=⟨_,rfl,fun _ z=>by cases z⟩
theorem Hot.dT{xs:List (List Key × V)}:Hot (some (.dT xs)):=⟨_,rfl,fun _ z=>by cases z⟩
theorem Hot.of{o o':Option HO}(h:Hot o)(f:∀ u,o=some u->o'=some u):Hot o':=let ⟨u,e,t⟩:=h;⟨u,f u e,t⟩
def ZOk(K:W.Frag)(G:Option Addr)(Z:Addr->Prop)(H:Hp):Prop:=(∀ a,Z a->Hot (H a))/\∀ P q,TabIs K P q->H P=some (.cot q)/\G≠some P
structure AmO(A:AC)(os:List (Nat × Addr))(n:Nat)(rho:Rho)(sg:St)(H:Hp)(ds:List D)(vs:List V):Prop where
 len:rho.length=sg.length
 slot:∀ i d,rho[i]?=some (some d)->∃ v,sg[i]?=some (some v)/\SlotR A os H i d v
 pend:Reps A.K A.G (Zof A os) H ds vs
 nd:os.Pairwise fun p q=>p.1≠q.1/\p.2≠q.2
 fresh:∀ p∈os,A.H0 p.2=none/\¬ A.Z0 p.2/\Hot (H p.2)
 st:StOk A.G n H
 gz:∀ a,A.G=some a->A.Z0 a
 fr:∀ a o,A.G≠some a->A.H0 a=some o->H a=some o
 z0:ZOk A.K A.G A.Z0 A.H0
def Am(A:AC)(n:Nat)(rho:Rho)(sg:St)(H:Hp)(ds:List D)(vs:List V):Prop:=∃ os,AmO A os n rho sg H ds vs
section
variable {A:AC} {os:List (Nat × Addr)} {n:Nat} {rho:Rho} {sg:St} {H:Hp} {ds:List D} {vs:List V} {d:D} {v:V}
theorem AmO.zHot(I:AmO A os n rho sg H ds vs):∀ a,Zof A os a->Hot (H a):=fun a h=>by
 rcases h with h | ⟨p,hp,rfl⟩
 ·by_cases e : A.G = some a
  ·obtain ⟨x, y, z, q, _⟩ := I.st a e
   rw[q];exact Hot.lst
  ·exact(I.z0.1 a h).of fun o q=>I.fr a o e q
 ·exact(I.fresh p hp).2.2
theorem AmO.zH(I:AmO A os n rho sg H ds vs):∀ a,Zof A os a->H a≠none:=fun a h=>(I.zHot a h).ne
theorem AmO.zO(I:AmO A os n rho sg H ds vs):ZOk A.K A.G (Zof A os) H:=⟨I.zHot,fun P q t=>⟨I.fr P _ (I.z0.2 P q t).2 (I.z0.2 P q t).1,(I.z0.2 P q t).2⟩⟩
theorem SlotR.mono{os':List (Nat × Addr)}{H':Hp}{i:Nat}(hz:∀ a,H a≠none->Zof A os' a->Zof A os a)(hf:∀ a o,¬ Zof A os a->H a=some o->H' a=some o)
  (ho:∀ a xs,(i,a)∈os->H a=some xs->(i,a)∈os'/\H' a=some xs):∀ (d:D) (v:V),SlotR A os H i d v->SlotR A os' H' i d v
 | .own ds,v,h=>by
  obtain⟨a,xs,e,m,q,r⟩:=h
  obtain⟨m',q'⟩:=ho a _ m q
  exact⟨a,xs,e,m',q',Reps.mono hz hf ds xs r⟩
 | .owT ks ds,v,h=>by
  obtain⟨a,xs,e,m,q,l,r⟩:=h
  obtain⟨m',q'⟩:=ho a _ m q
  exact⟨a,xs,e,m',q',l,Reps.mono hz hf ds xs r⟩
 | .non,v,h=>Rep.mono hz hf _ _ h
 | .bl _,v,h=>Rep.mono hz hf _ _ h
 | .int _,v,h=>Rep.mono hz hf _ _ h
 | .str _,v,h=>Rep.mono hz hf _ _ h
 | .ty _,v,h=>Rep.mono hz hf _ _ h
 | .tup _,v,h=>Rep.mono hz hf _ _ h
 | .lst _,v,h=>Rep.mono hz hf _ _ h
 | .st,v,h=>Rep.mono hz hf _ _ h
 | .fz _,v,h=>Rep.mono hz hf _ _ h
 | .dic,v,h=>Rep.mono hz hf _ _ h
 | .prT _,v,h=>Rep.mono hz hf _ _ h
 | .dct _ _,v,h=>Rep.mono hz hf _ _ h
def zn:D->Bool
 | .own _=>false
 | .owT _ _=>false
 | _=>true
theorem SlotR.rep{i:Nat}:∀ {d:D} {v:V},zn d=true->SlotR A os H i d v->Rep A.K A.G (Zof A os) H d v
 | .own _,_,h,_=>by simp[zn] at h
 | .owT _ _,_,h,_=>by simp[zn] at h
 | .non,_,_,h=>h
 | .bl _,_,_,h=>h
 | .int _,_,_,h=>h
 | .str _,_,_,h=>h
 | .ty _,_,_,h=>h
 | .tup _,_,_,h=>h
 | .lst _,_,_,h=>h
 | .st,_,_,h=>h
 | .fz _,_,_,h=>h
 | .dic,_,_,h=>h
 | .prT _,_,_,h=>h
 | .dct _ _,_,_,h=>h
theorem SlotR.of{i:Nat}:∀ {d:D} {v:V},Rep A.K A.G (Zof A os) H d v->SlotR A os H i d v
 | .own _,_,h=>by unfold Rep at h;exact h.elim
 | .owT _ _,_,h=>by unfold Rep at h;exact h.elim
 | .non,_,h=>h
 | .bl _,_,h=>h
 | .int _,_,h=>h
 | .str _,_,h=>h
 | .ty _,_,h=>h
 | .tup _,_,h=>h
 | .lst _,_,h=>h
 | .st,_,h=>h
 | .fz _,_,h=>h
 | .dic,_,h=>h
 | .prT _,_,h=>h
 | .dct _ _,_,h=>h
theorem AmO.push(I:AmO A os n rho sg H ds vs)(h:Rep A.K A.G (Zof A os) H d v):AmO A os n rho sg H (d::ds) (v::vs) :=
 ⟨I.len,I.slot,.cons h I.pend,I.nd,I.fresh,I.st,I.gz,I.fr,I.z0⟩
theorem AmO.pends{es:List D}{ws:List V}(I:AmO A os n rho sg H ds vs)(h:Reps A.K A.G (Zof A os) H es ws):AmO A os n rho sg H es ws :=
 ⟨I.len,I.slot,h,I.nd,I.fresh,I.st,I.gz,I.fr,I.z0⟩
theorem AmO.pop(I:AmO A os n rho sg H (d::ds) (v::vs)):AmO A os n rho sg H ds vs/\Rep A.K A.G (Zof A os) H d v:=⟨I.pends I.pend.inv.2,I.pend.inv.1⟩
theorem AmO.grow{p:Addr}{o:HO}(I:AmO A os n rho sg H ds vs)(hp:H p=none):AmO A os n rho sg (upd H p o) ds vs:=by
 have hf:∀ a u,H a=some u->upd H p o a=some u:=fun a u e=>by rw[zm (zy e hp)];exact e
 refine⟨I.len,fun i d e=>?_,Reps.mono (fun _ _ z=>z) (fun a u _ e=>hf a u e) _ _ I.pend,I.nd,fun q hq=>?_,fun a e=>?_,I.gz,fun a u h e=>hf a u (I.fr a u h e),I.z0⟩
 ·obtain ⟨v, e1, e2⟩ := I.slot i d e
  exact⟨v,e1,SlotR.mono (fun _ _ z=>z) (fun a u _ e=>hf a u e) (fun a xs m q=>⟨m,hf a _ q⟩) _ _ e2⟩
 ·obtain ⟨f1, f2, f3⟩ := I.fresh q hq
  exact⟨f1,f2,f3.of fun u e=>hf _ _ e⟩
 ·obtain ⟨x, y, z, q, r⟩ := I.st a e
  exact⟨x,y,z,hf _ _ q,r⟩
theorem AmO.newTup{p:Addr}{es:List D}{xs:List V}(I:AmO A os n rho sg H ds vs)(r:Reps A.K A.G (Zof A os) H es xs)(hp:H p=none):AmO A os n rho sg (upd H p (.tup xs)) (.tup es::ds) (.ref p::vs):=by
 have g:=I.grow (o:=.tup xs) hp
 refine g.push (.tup_mk (.inl ⟨fun z=>I.zH p z hp,.inl zw⟩) ?_)
 exact Reps.mono (fun _ _ z=>z) (fun a u _ e=>by rw[zm (zy e hp)];exact e) _ _ r
theorem AmO.newLst{p:Addr}{es:List D}{xs:List V}(I:AmO A os n rho sg H ds vs)(r:Reps A.K A.G (Zof A os) H es xs)(hp:H p=none):AmO A os n rho sg (upd H p (.lst xs)) (.lst es::ds) (.ref p::vs):=by
 have g:=I.grow (o:=.lst xs) hp
 refine g.push (.lst_mk ⟨fun z=>I.zH p z hp,zw⟩ ?_)
 exact Reps.mono (fun _ _ z=>z) (fun a u _ e=>by rw[zm (zy e hp)];exact e) _ _ r
theorem AmO.set{i:Nat}(I:AmO A os n rho sg H (d::ds) (v::vs))(hi:i<rho.length):AmO A (os.filter fun p=>decide (p.1≠i)) n (rho.set i (some d)) (sg.set i (some v)) H ds vs:=by
 obtain⟨J,hr⟩:=I.pop
 have sub:∀ a,H a≠none->Zof A (os.filter fun p=>decide (p.1≠i)) a->Zof A os a:=fun a _ z=>by
  rcases z with z | ⟨p,hp,e⟩
  ·exact .inl z
  ·exact .inr ⟨p,(List.mem_filter.mp hp).1,e⟩
 refine⟨by simp[I.len],fun j c e=>?_,Reps.mono sub (fun _ _ _ e=>e) _ _ J.pend,I.nd.filter _,fun p hp=>I.fresh p (List.mem_filter.mp hp).1,I.st,I.gz,I.fr,I.z0⟩
 by_cases hj:j=i
 ·subst hj
  rw[getElem?_set_self hi] at e
  cases e
  exact⟨v,getElem?_set_self (by rw[<- I.len];exact hi),SlotR.of (Rep.mono sub (fun _ _ _ e=>e) _ _ hr)⟩
 ·rw [List.getElem?_set_ne (Ne.symm hj)] at e
  obtain⟨u,e1,e2⟩:=I.slot j c e
  exact⟨u,by rw[getElem?_set_ne (Ne.symm hj)];exact e1,SlotR.mono sub (fun _ _ _ e=>e) (fun a xs m q=>⟨List.mem_filter.mpr ⟨m,by simpa using hj⟩,q⟩) _ _ e2⟩
end
abbrev TD:=Rho->Nat->(D->Nat->Prop)->Prop
abbrev TBD:=Rho->Nat->(Bool->Nat->Prop)->Prop
abbrev TAD:=Rho->Nat->(List D->Nat->Prop)->Prop
def tOf(A:AC)(t:TD):TE:=fun sg H Q=>∃ rho n P ds vs,Am A n rho sg H ds vs/\t rho n P/\∀ v H' n' d,Am A n' rho sg H' (d::ds) (v::vs)->P d n'->Q v H'
def ttOf(A:AC)(t:TBD):TT:=fun sg H Q=>∃ rho n P ds vs,Am A n rho sg H ds vs/\t rho n P/\∀ b H' n',Am A n' rho sg H' ds vs->P b n'->Q b H'
def taOf(A:AC)(t:TAD):TA:=fun sg H Q=>∃ rho n P ds vs,Am A n rho sg H ds vs/\t rho n P/\∀ ws H' n' es,Am A n' rho sg H' (es++ds) (ws++vs)->ws.length=es.length->P es n'->Q ws H'
@[irreducible] def PD(A:AC)(X:Cx)(e:Expr)(t:TD):Prop:=PE X e (tOf A t)
@[irreducible] def PTD(A:AC)(X:Cx)(e:Expr)(t:TBD):Prop:=PT X e (ttOf A t)
@[irreducible] def PWD(A:AC)(X:Cx)(e:Expr)(t:TBD):Prop:=PW X e (ttOf A t)
@[irreducible] def PAD(A:AC)(X:Cx)(es:List Expr)(t:TAD):Prop:=PA X es (taOf A t)
theorem PE.imp{X:Cx}{e:Expr}{t t':TE}(h:PE X e t)(hi:∀ sg H Q,t' sg H Q->t sg H Q):PE X e t':=fun pins s sg H Q I q=>h pins s sg H Q I (hi _ _ _ q)
theorem PT.imp{X:Cx}{e:Expr}{t t':TT}(h:PT X e t)(hi:∀ sg H Q,t' sg H Q->t sg H Q):PT X e t':=fun pins s sg H Q I q=>h pins s sg H Q I (hi _ _ _ q)
theorem PW.imp{X:Cx}{e:Expr}{t t':TT}(h:PW X e t)(hi:∀ sg H Q,t' sg H Q->t sg H Q):PW X e t':=fun wh pins s sg H Q I q=>h wh pins s sg H Q I (hi _ _ _ q)
theorem PA.imp{X:Cx}{e:List Expr}{t t':TA}(h:PA X e t)(hi:∀ sg H Q,t' sg H Q->t sg H Q):PA X e t':=fun ps pins s sg H Q I q=>h ps pins s sg H Q I (hi _ _ _ q)
theorem PS.imp{X:Cx}{e:Stmt}{t t':TS}(h:PS X e t)(hi:∀ E sg H,t' E sg H->t E sg H):PS X e t':=fun pins s sg H Q I q=>h pins s sg H Q I (hi _ _ _ q)
theorem PSs.imp{X:Cx}{e:List Stmt}{t t':TS}(h:PSs X e t)(hi:∀ E sg H,t' E sg H->t E sg H):PSs X e t':=fun pins s sg H Q I q=>h pins s sg H Q I (hi _ _ _ q)
end L2
namespace L2
section
variable {A:AC} {X:Cx} {a b c e:Expr} {es:List Expr} {ta tb tc:TD} {pos:Pos}
def atD(d:D)(k:D->Prop):Prop:=match d with
 | .own _=>False
 | .owT _ _=>False
 | .non=>k .non
 | .bl b=>k (.bl b)
 | .int b=>k (.int b)
 | .str b=>k (.str b)
 | .ty b=>k (.ty b)
 | .tup b=>k (.tup b)
 | .lst b=>k (.lst b)
 | .fz b=>k (.fz b)
 | .st=>k .st
 | .dic=>k .dic
 | .prT b=>k (.prT b)
 | .dct a b=>k (.dct a b)
theorem atD_inv{d:D}{k:D->Prop}(h:atD d k):zn d=true/\k d:=by
 cases d<;>first | exact⟨rfl,h⟩ | exact h.elim
theorem atD_mk{d:D}{k:D->Prop}(h:zn d=true)(q:k d):atD d k:=by
 cases d<;>first | exact q | (simp[zn] at h;done)
def atV(o:Option (Option D))(k:D->Prop):Prop:=match o with | some (some d)=>atD d k | _=>False
theorem atV_inv{o:Option (Option D)}{k:D->Prop}(h:atV o k):∃ d,o=some (some d)/\zn d=true/\k d:=by
 match o,h with
 | some (some d),h=>exact⟨d,rfl,atD_inv h⟩
def dVar(i:Nat):TD:=fun rho n P=>atV rho[i]? fun d=>P d n
def dC(d:D):TD:=fun _ n P=>P d n
theorem zc(i:Nat){x:Str}(hN:X.N[i]?=some x:=by rfl)(hv:Vis X.env.scope x:=by first | exact Or.inl rfl | exact Or.inr (Or.inl rfl) | exact Or.inr (Or.inr rfl))(hd:(x == ("__debug__" : Str))=false:=by decide)
  (hcd:(x == ("__classdict__" : Str))=false:=by decide):PD A X (.Name x pos) (dVar i):=by
 with_unfolding_all
  exact(pe_var hN hv hd hcd).imp fun sg H Q h=>by
   obtain⟨rho,n,P,ds,vs,⟨os,I⟩,hh,hQ⟩:=h
   obtain⟨d,e,hd,q⟩:=atV_inv hh
   obtain⟨v,e1,e2⟩:=I.slot i d e
   exact⟨v,e1,hQ v H n d ⟨os,I.push (e2.rep hd)⟩ q⟩
theorem dC_ok{d:D}(hs:scalD d=true){t:TE}(ht:∀ sg H Q,Q (ofS d) H->t sg H Q)(h:PE X e t):PD A X e (dC d):=by
 with_unfolding_all
  exact h.imp fun sg H Q q=>by
   obtain⟨rho,n,P,ds,vs,⟨os,I⟩,q,hQ⟩:=q
   exact ht _ _ _ (hQ _ H n d ⟨os,I.push (Rep.ofS hs)⟩ q)
theorem zf{i:Int}{j:Nat}:PD A X (.Constant (.int i) j pos) (dC (.int i)):=by
 with_unfolding_all
  exact dC_ok rfl (fun _ _ _ q=>q) pe_int
theorem pd_bl{i:Bool}{j:Nat}:PD A X (.Constant (.bool i) j pos) (dC (.bl i)):=by
 with_unfolding_all
  exact dC_ok rfl (fun _ _ _ q=>q) pe_bl
theorem pd_non{j:Nat}:PD A X (.Constant .none j pos) (dC .non):=by
 with_unfolding_all
  exact dC_ok rfl (fun _ _ _ q=>q) pe_non
theorem pd_str{x:Str}{j:Nat}:PD A X (.Constant (.str x) j pos) (dC (.str x)):=by
 with_unfolding_all
  exact dC_ok rfl (fun _ _ _ q=>q) pe_str
abbrev RD2:=D->D->(D->Prop)->Prop
def OpRel(A:AC)(r:R2)(rd:RD2):Prop :=
 ∀ os n rho sg H ds vs d1 d2 v1 v2 (k:D->Prop) (Q:VK),AmO A os n rho sg H (d2::d1::ds) (v2::v1::vs)->rd d1 d2 k->(∀ v H' d,Am A n rho sg H' (d::ds) (v::vs)->k d->Q v H')->r v1 v2 H Q
def dOp(rd:RD2)(ta tb:TD):TD:=fun rho n P=>ta rho n fun d1 n1=>tb rho n1 fun d2 n2=>rd d1 d2 fun d=>P d n2
def dTest(t:TD):TBD:=fun rho n P=>t rho n fun d n'=>∃ b,d=.bl b/\P b n'
theorem tOp_of{r:R2}{rd:RD2}(hr:OpRel A r rd){sg:St}{H:Hp}{Q:VK}(h:tOf A (dOp rd ta tb) sg H Q):tOp r (tOf A ta) (tOf A tb) sg H Q:=by
 obtain⟨rho,n,P,ds,vs,I,ht,hQ⟩:=h
 exact⟨rho,n,_,ds,vs,I,ht,fun v1 H1 n1 d1 I1 h1=>⟨rho,n1,_,d1::ds,v1::vs,I1,h1,fun v2 H2 n2 d2 ⟨os2,I2⟩ h2=>hr _ _ _ _ _ _ _ _ _ _ _ _ Q I2 h2 fun v H' d J k=>hQ v H' n2 d J k⟩⟩
theorem tTest_of{t:TE}{td:TD}(h:∀ sg H Q,tOf A td sg H Q->t sg H Q){sg:St}{H:Hp}{Q:Bool->Hp->Prop}(q:ttOf A (dTest td) sg H Q):tTest t sg H Q:=by
 obtain⟨rho,n,P,ds,vs,I,ht,hQ⟩:=q
 refine h _ _ _ ⟨rho,n,_,ds,vs,I,ht,fun v H' n' d ⟨os,J⟩ k=>?_⟩
 obtain⟨b,rfl,k⟩:=k
 obtain⟨J1,r⟩:=J.pop
 exact⟨b,r.bl_inv,hQ b H' n' ⟨os,J1⟩ k⟩
theorem pd_op{op:Operator}{r:R2}{rd:RD2}(ho:OpR X (binaryOp op) r)(hr:OpRel A r rd)(ha:PD A X a ta)(hb:PD A X b tb):PD A X (.BinOp a op b pos) (dOp rd ta tb):=by
 with_unfolding_all
  exact(pe_op ho ha hb).imp fun _ _ _=>tOp_of hr
theorem pd_cmp{op:CmpOp}{r:R2}{rd:RD2}(ho:OpR X (compareOp op) r)(hr:OpRel A r rd)(ha:PD A X a ta)(hb:PD A X b tb)(hm:behindInMarks op b=false):PD A X (.Compare a [op] [b] pos) (dOp rd ta tb):=by
 with_unfolding_all
  exact(pe_cmpR ho ha hb hm).imp fun _ _ _=>tOp_of hr
theorem zS{op:CmpOp}{r:R2}{rd:RD2}(ho:OpR X (compareOp op) r)(hr:OpRel A r rd)(ha:PD A X a ta)(hb:PD A X b tb)(hm:behindInMarks op b=false):PTD A X (.Compare a [op] [b] pos) (dTest (dOp rd ta tb)):=by
 with_unfolding_all
  exact
   (pt_cmpR ho ha hb hm).imp fun _ _ _=>tTest_of fun _ _ _=>tOp_of hr
theorem zW{r:R2}{rd:RD2}(hi:IxR X r)(hr:OpRel A r rd)(ha:PD A X a ta)(hb:PD A X b tb)(hs:PlainIx b):PD A X (.Subscript a b pos) (dOp rd ta tb):=by
 with_unfolding_all
  exact(pe_ix hi ha hb hs).imp fun _ _ _=>tOp_of hr
theorem ptd_val(ha:PD A X a ta)(he:∀ whole,isTrue a X.env whole=(do let v <- whole;standAt a.pos;holding [v] (truthy v)):=by intro _;rfl):PTD A X a (dTest ta):=by
 with_unfolding_all
  exact(pt_val ha he).imp fun _ _ _=>tTest_of fun _ _ _ q=>q
def rdI(C:Int->Int->Prop)(g:Int->Int->D):RD2:=fun d1 d2 k=>match d1,d2 with | .int i,.int j=>C i j/\k (g i j) | _,_=>False
theorem rdI_inv{C:Int->Int->Prop}{g:Int->Int->D}{d1 d2:D}{k:D->Prop}(h:rdI C g d1 d2 k):∃ i j,d1=.int i/\d2=.int j/\C i j/\k (g i j):=by
 unfold rdI at h
 split at h
 ·exact⟨_,_,rfl,rfl,h⟩
 ·exact h.elim
def rdI0(g:Int->Int->D):RD2:=fun d1 d2 k=>match d1,d2 with | .int i,.int j=>k (g i j) | _,_=>False
theorem rdI0_inv{g:Int->Int->D}{d1 d2:D}{k:D->Prop}(h:rdI0 g d1 d2 k):∃ i j,d1=.int i/\d2=.int j/\k (g i j):=by
 unfold rdI0 at h
 split at h
 ·exact⟨_,_,rfl,rfl,h⟩
 ·exact h.elim
theorem rel_I{C:Int->Int->Prop}{g:Int->Int->V}{gd:Int->Int->D}(hs:∀ i j,scalD (gd i j)=true)(hg:∀ i j,ofS (gd i j)=g i j):OpRel A (rI C g) (rdI C gd):=by
 rintro os n rho sg H ds vs d1 d2 v1 v2 k Q I hh hQ
 obtain⟨i,j,rfl,rfl,hc,q⟩:=rdI_inv hh
 obtain⟨I1,r2⟩:=I.pop
 obtain⟨I2,r1⟩:=I1.pop
 exact⟨i,j,r1.int_inv,r2.int_inv,hc,hQ _ H _ ⟨os,I2.push (by rw[<- hg];exact Rep.ofS (hs i j))⟩ q⟩
theorem rel_I0{g:Int->Int->V}{gd:Int->Int->D}(hs:∀ i j,scalD (gd i j)=true)(hg:∀ i j,ofS (gd i j)=g i j):OpRel A (rI0 g) (rdI0 gd):=by
 rintro os n rho sg H ds vs d1 d2 v1 v2 k Q I hh hQ
 obtain⟨i,j,rfl,rfl,q⟩:=rdI0_inv hh
 obtain⟨I1,r2⟩:=I.pop
 obtain⟨I2,r1⟩:=I1.pop
 exact⟨i,j,r1.int_inv,r2.int_inv,hQ _ H _ ⟨os,I2.push (by rw[<- hg];exact Rep.ofS (hs i j))⟩ q⟩
abbrev dAdd:TD->TD->TD:=dOp (rdI0 fun i j=>.int (i+j))
abbrev dSub:TD->TD->TD:=dOp (rdI0 fun i j=>.int (i-j))
abbrev dMul:TD->TD->TD:=dOp (rdI CMul fun i j=>.int (i*j))
abbrev dMod:TD->TD->TD:=dOp (rdI (fun _ j=>0<j) fun i j=>.int (i%j))
abbrev dDiv:TD->TD->TD:=dOp (rdI CDiv fun i j=>.int (i/j))
abbrev dPow:TD->TD->TD:=dOp (rdI CPow fun i j=>.int (i^j.toNat))
theorem pd_add(ha:PD A X a ta)(hb:PD A X b tb):PD A X (.BinOp a .Add b pos) (dAdd ta tb):=by
 with_unfolding_all
  exact pd_op op_add (rel_I0 (fun _ _=>rfl) fun _ _=>rfl) ha hb
theorem pd_sub(ha:PD A X a ta)(hb:PD A X b tb):PD A X (.BinOp a .Sub b pos) (dSub ta tb):=by
 with_unfolding_all
  exact pd_op op_sub (rel_I0 (fun _ _=>rfl) fun _ _=>rfl) ha hb
theorem pd_mul(ha:PD A X a ta)(hb:PD A X b tb):PD A X (.BinOp a .Mult b pos) (dMul ta tb):=by
 with_unfolding_all
  exact pd_op op_mul (rel_I (fun _ _=>rfl) fun _ _=>rfl) ha hb
theorem pd_mod(ha:PD A X a ta)(hb:PD A X b tb):PD A X (.BinOp a .Mod b pos) (dMod ta tb):=by
 with_unfolding_all
  exact pd_op op_mod (rel_I (fun _ _=>rfl) fun _ _=>rfl) ha hb
theorem pd_div(ha:PD A X a ta)(hb:PD A X b tb):PD A X (.BinOp a .FloorDiv b pos) (dDiv ta tb):=by
 with_unfolding_all
  exact pd_op op_fdiv (rel_I (fun _ _=>rfl) fun _ _=>rfl) ha hb
theorem pd_pow(ha:PD A X a ta)(hb:PD A X b tb):PD A X (.BinOp a .Pow b pos) (dPow ta tb):=by
 with_unfolding_all
  exact pd_op op_pow (rel_I (fun _ _=>rfl) fun _ _=>rfl) ha hb
abbrev rdLt:RD2:=rdI0 fun i j=>.bl (decide (i<j))
abbrev rdGt:RD2:=rdI0 fun i j=>.bl (decide (j<i))
abbrev rdGe:RD2:=rdI0 fun i j=>.bl (decide (j<=i))
theorem re_lt:OpRel A (rI0 fun i j=>.bl (decide (i<j))) rdLt:=rel_I0 (g:=fun i j=>.bl (decide (i<j))) (fun _ _=>rfl) fun _ _=>rfl
theorem re_gt:OpRel A (rI0 fun i j=>.bl (decide (j<i))) rdGt:=rel_I0 (g:=fun i j=>.bl (decide (j<i))) (fun _ _=>rfl) fun _ _=>rfl
theorem re_ge:OpRel A (rI0 fun i j=>.bl (decide (j<=i))) rdGe:=rel_I0 (g:=fun i j=>.bl (decide (j<=i))) (fun _ _=>rfl) fun _ _=>rfl
def rdEq:RD2:=fun d1 d2 k=>scalD d1=true/\scalD d2=true/\scal (ofS d1) (ofS d2)=true/\k (.bl (decide (ofS d1=ofS d2)))
def rdNe:RD2:=fun d1 d2 k=>scalD d1=true/\scalD d2=true/\scal (ofS d1) (ofS d2)=true/\k (.bl (!decide (ofS d1=ofS d2)))
theorem re_eq:OpRel A rEq rdEq:=by
 rintro os n rho sg H ds vs d1 d2 v1 v2 k Q I ⟨h1,h2,h3,q⟩ hQ
 obtain⟨I1,r2⟩:=I.pop
 obtain⟨I2,r1⟩:=I1.pop
 rw[r1.toS h1,r2.toS h2]
 exact⟨h3,hQ _ H _ ⟨os,I2.push (Rep.ofS rfl)⟩ q⟩
def isNon:D->Bool
 | .non=>true
 | _=>false
theorem Rep.non_iff{K:W.Frag}{G:Option Addr}{Z:Addr->Prop}{H:Hp}{v:V}:∀ {d:D},Rep K G Z H d v->decide (v=.non)=isNon d
 | .non,h=>by unfold Rep at h;rw[h];rfl
 | .bl b,h=>by unfold Rep at h;rw[h];rfl
 | .int b,h=>by unfold Rep at h;rw[h];rfl
 | .str b,h=>by unfold Rep at h;rw[h];rfl
 | .ty b,h=>by unfold Rep at h;rw[h];rfl
 | .st,h=>by unfold Rep at h;obtain⟨a,_,h⟩:=h;rw[h];rfl
 | .tup ds,h=>by obtain⟨a,xs,h,_⟩:=h.tup_inv;rw[h];rfl
 | .lst ds,h=>by obtain⟨a,xs,h,_⟩:=h.lst_inv;rw[h];rfl
 | .own ds,h=>by unfold Rep at h;exact h.elim
 | .owT _ _,h=>by unfold Rep at h;exact h.elim
 | .fz ds,h=>by obtain⟨a,xs,h,_⟩:=h.fz_inv;rw[h];rfl
 | .dic,h=>by unfold Rep at h;obtain⟨a,kvs,h,_⟩:=h;rw[h];rfl
 | .prT _,h=>by unfold Rep at h;obtain⟨a,h,_⟩:=h;rw[h];rfl
 | .dct _ _,h=>by unfold Rep at h;obtain⟨a,xs,h,_⟩:=h;rw[h];rfl
def rdIsN:RD2:=fun d1 d2 k=>d2=.non/\k (.bl (isNon d1))
def rdNotN:RD2:=fun d1 d2 k=>d2=.non/\k (.bl (!isNon d1))
theorem re_isN:OpRel A (fun x y H Q=>y=.non/\Q (.bl (decide (x=.non))) H) rdIsN:=by
 rintro os n rho sg H ds vs d1 d2 v1 v2 k Q I ⟨rfl,q⟩ hQ
 obtain⟨I1,r2⟩:=I.pop
 obtain⟨I2,r1⟩:=I1.pop
 have e:v2=.non:=r2.toS rfl
 exact⟨e,by rw[r1.non_iff];exact hQ _ H _ ⟨os,I2.push (Rep.ofS (d:=.bl (isNon d1)) rfl)⟩ q⟩
theorem re_notN:OpRel A (fun x y H Q=>y=.non/\Q (.bl (!decide (x=.non))) H) rdNotN:=by
 rintro os n rho sg H ds vs d1 d2 v1 v2 k Q I ⟨rfl,q⟩ hQ
 obtain⟨I1,r2⟩:=I.pop
 obtain⟨I2,r1⟩:=I1.pop
 have e:v2=.non:=r2.toS rfl
 exact⟨e,by rw[r1.non_iff];exact hQ _ H _ ⟨os,I2.push (Rep.ofS (d:=.bl (!isNon d1)) rfl)⟩ q⟩
def rdB(f:Bool->Bool->Bool):RD2:=fun d1 d2 k=>match d1,d2 with | .bl c,.bl d=>k (.bl (f c d)) | _,_=>False
def rdIx:RD2:=fun d1 d2 k=>∃ es i d,(d1=.lst es\/d1=.tup es\/d1=.fz es)/\d2=.int i/\atI es i=some d/\k d
theorem atI_rep{K:W.Frag}{G:Option Addr}{Z:Addr->Prop}{H:Hp}{es:List D}{xs:List V}{i:Int}{d:D}(h:Reps K G Z H es xs)(e:atI es i=some d):∃ v,atI xs i=some v/\Rep K G Z H d v:=by
 unfold atI at e ⊢
 rw[h.length]
 cases q:ixN es.length i with
 | none=>rw[q] at e;cases e
 | some j =>
  rw[q] at e
  exact h.get (i:=j) e
theorem zV:OpRel A (rIx A.K) rdIx:=by
 rintro os n rho sg H ds vs d1 d2 v1 v2 k Q I ⟨es,i,d,h1,rfl,h2,q⟩ hQ
 obtain⟨I1,r2⟩:=I.pop
 obtain⟨I2,r1⟩:=I1.pop
 rcases h1 with rfl | rfl | rfl
 ·obtain ⟨a, xs, e, sq, rs⟩ := r1.lst_inv
  obtain⟨v,e1,rv⟩:=atI_rep rs h2
  exact .inl ⟨a,xs,i,v,e,r2.int_inv,sq.sq,e1,hQ v H d ⟨os,I2.push rv⟩ q⟩
 ·obtain ⟨a, xs, e, sq, rs⟩ := r1.tup_inv
  obtain⟨v,e1,rv⟩:=atI_rep rs h2
  exact .inr (.inl ⟨a,xs,i,v,e,r2.int_inv,sq.sq,e1,hQ v H d ⟨os,I2.push rv⟩ q⟩)
 ·obtain ⟨a, xs, e, sq, rs⟩ := r1.fz_inv
  obtain⟨v,e1,rv⟩:=atI_rep rs h2
  exact .inl ⟨a,xs,i,v,e,r2.int_inv,sq,e1,hQ v H d ⟨os,I2.push rv⟩ q⟩
def rdCat:RD2:=fun d1 d2 k=>∃ es fs,d1=.lst es/\d2=.lst fs/\es.length+fs.length<=sizeLine/\k (.lst (es++fs))
theorem re_cat:OpRel A rCat rdCat:=by
 rintro os n rho sg H ds vs d1 d2 v1 v2 k Q I ⟨es,fs,rfl,rfl,hz,q⟩ hQ
 obtain⟨I1,r2⟩:=I.pop
 obtain⟨I2,r1⟩:=I1.pop
 obtain⟨a,xs,e,sq,rs⟩:=r1.lst_inv
 obtain⟨b,ys,e',sq',rs'⟩:=r2.lst_inv
 exact⟨a,b,xs,ys,e,e',sq.2,sq'.2,by rw[rs.length,rs'.length];exact hz,fun p hp=>hQ _ _ _ ⟨os,I2.newLst (rs.append rs') hp⟩ q⟩
def rdRepT:RD2:=fun d1 d2 k=>∃ es i,d1=.tup es/\d2=.int i/\es≠[]/\1<=i/\es.length*i.toNat<=sizeLine/\k (.tup (replicate i.toNat es).flatten)
theorem re_repT:OpRel A (rRepT A.K) rdRepT:=by
 rintro os n rho sg H ds vs d1 d2 v1 v2 k Q I ⟨es,i,rfl,rfl,hne,h1,hz,q⟩ hQ
 obtain⟨I1,r2⟩:=I.pop
 obtain⟨I2,r1⟩:=I1.pop
 have r1':=r1
 obtain⟨a,xs,e,sq,rs⟩:=r1.tup_inv
 have hl:=rs.length
 refine⟨a,i,xs,e,r2.int_inv,sq.sq,fun z=>hne ?_,h1,by rw[hl];exact hz,fun hi=>?_,fun hi p hp=>?_⟩
 ·rw [z] at hl
  exact List.length_eq_zero_iff.mp hl.symm
 ·subst hi
  have e1:(replicate (1:Int).toNat es).flatten=es:=by simp
  rw[e1] at q
  rw[e] at r1'
  exact hQ _ H _ ⟨os,I2.push r1'⟩ q
 ·exact hQ _ _ _ ⟨os,I2.newTup (rs.flatRep i.toNat) hp⟩ q
theorem pd_neg(ha:PD A X a ta):PD A X (.UnaryOp .USub a pos) (fun rho n P=>ta rho n fun d n'=>∃ i,d=.int i/\P (.int (-i)) n'):=by
 with_unfolding_all
  exact(pe_un un_neg ha).imp fun sg H Q h=>by
   obtain⟨rho,n,P,ds,vs,I,ht,hQ⟩:=h
   refine⟨rho,n,_,ds,vs,I,ht,fun v H' n' d ⟨os,J⟩ k=>?_⟩
   obtain⟨i,rfl,k⟩:=k
   obtain⟨J1,r⟩:=J.pop
   exact⟨i,r.int_inv,hQ _ H' n' _ ⟨os,J1.push (Rep.ofS (d:=.int (-i)) rfl)⟩ k⟩
variable {t u:TBD} {rest:List Expr}
def bAnd(t u:TBD):TBD:=fun rho n P=>t rho n fun c n1=>if c=true then u rho n1 P else P false n1
def bOr(t u:TBD):TBD:=fun rho n P=>t rho n fun c n1=>if c=true then P true n1 else u rho n1 P
def bNot(t:TBD):TBD:=fun rho n P=>t rho n fun c n1=>P (!c) n1
theorem pwd_and1(ha:PTD A X a t):PWD A X (.BoolOp .And [a] pos) t:=by
 with_unfolding_all
  exact pw_and1 ha
theorem pwd_or1(ha:PTD A X a t):PWD A X (.BoolOp .Or [a] pos) t:=by
 with_unfolding_all
  exact pw_or1 ha
theorem pwd_and(ha:PTD A X a t)(hb:PWD A X (.BoolOp .And (b::rest) pos) u):PWD A X (.BoolOp .And (a::b::rest) pos) (bAnd t u):=by
 with_unfolding_all
  exact(pw_and ha hb).imp fun sg H Q h=>by
   obtain⟨rho,n,P,ds,vs,I,ht,hQ⟩:=h
   refine⟨rho,n,_,ds,vs,I,ht,fun c H' n' J k=>?_⟩
   cases c with
   | true=>exact⟨rho,n',P,ds,vs,J,k,hQ⟩
   | false=>exact hQ _ _ _ J k
theorem pwd_or(ha:PTD A X a t)(hb:PWD A X (.BoolOp .Or (b::rest) pos) u):PWD A X (.BoolOp .Or (a::b::rest) pos) (bOr t u):=by
 with_unfolding_all
  exact(pw_or ha hb).imp fun sg H Q h=>by
   obtain⟨rho,n,P,ds,vs,I,ht,hQ⟩:=h
   refine⟨rho,n,_,ds,vs,I,ht,fun c H' n' J k=>?_⟩
   cases c with
   | false=>exact⟨rho,n',P,ds,vs,J,k,hQ⟩
   | true=>exact hQ _ _ _ J k
theorem PWD.pt(h:PWD A X e t):PTD A X e t:=by
 with_unfolding_all
  exact PW.pt h
theorem ptd_not(ha:PTD A X a t):PTD A X (.UnaryOp .Not a pos) (bNot t):=by
 with_unfolding_all
  exact(pt_not ha).imp fun sg H Q h=>by
   obtain⟨rho,n,P,ds,vs,I,ht,hQ⟩:=h
   exact⟨rho,n,_,ds,vs,I,ht,fun c H' n' J k=>hQ _ _ _ J k⟩
def dAnd(ta tb:TD):TD:=fun rho n P=>ta rho n fun d n1=>∃ c,d=.bl c/\if c=true then tb rho n1 P else P (.bl false) n1
def dOr(ta tb:TD):TD:=fun rho n P=>ta rho n fun d n1=>∃ c,d=.bl c/\if c=true then P (.bl true) n1 else tb rho n1 P
def dNot(ta:TD):TD:=fun rho n P=>ta rho n fun d n1=>∃ c,d=.bl c/\P (.bl (!c)) n1
theorem pd_one{op:BoolOp}(h:PD A X a ta):PD A X (.BoolOp op [a] pos) ta:=by
 with_unfolding_all
  exact pe_one h
theorem pd_and(ha:PD A X a ta)(hb:PD A X (.BoolOp .And (b::rest) pos) tb):PD A X (.BoolOp .And (a::b::rest) pos) (dAnd ta tb):=by
 with_unfolding_all
  exact(pe_and ha hb).imp fun sg H Q h=>by
   obtain⟨rho,n,P,ds,vs,I,ht,hQ⟩:=h
   refine⟨rho,n,_,ds,vs,I,ht,fun v H' n' d ⟨os,J⟩ k=>?_⟩
   obtain⟨c,rfl,k⟩:=k
   obtain⟨J1,r⟩:=J.pop
   refine⟨c,r.bl_inv,?_⟩
   cases c with
   | true=>exact⟨rho,n',P,ds,vs,⟨os,J1⟩,k,hQ⟩
   | false=>exact hQ _ _ _ _ ⟨os,J1.push (Rep.ofS (d:=.bl false) rfl)⟩ k
theorem pd_or(ha:PD A X a ta)(hb:PD A X (.BoolOp .Or (b::rest) pos) tb):PD A X (.BoolOp .Or (a::b::rest) pos) (dOr ta tb):=by
 with_unfolding_all
  exact(pe_or ha hb).imp fun sg H Q h=>by
   obtain⟨rho,n,P,ds,vs,I,ht,hQ⟩:=h
   refine⟨rho,n,_,ds,vs,I,ht,fun v H' n' d ⟨os,J⟩ k=>?_⟩
   obtain⟨c,rfl,k⟩:=k
   obtain⟨J1,r⟩:=J.pop
   refine⟨c,r.bl_inv,?_⟩
   cases c with
   | false=>exact⟨rho,n',P,ds,vs,⟨os,J1⟩,k,hQ⟩
   | true=>exact hQ _ _ _ _ ⟨os,J1.push (Rep.ofS (d:=.bl true) rfl)⟩ k
def dIf(t:TBD)(ta tb:TD):TD:=fun rho n P=>t rho n fun c n1=>if c=true then ta rho n1 P else tb rho n1 P
theorem pd_if(hc:PTD A X c t)(ha:PD A X a ta)(hb:PD A X b tb):PD A X (.IfExp c a b pos) (dIf t ta tb):=by
 with_unfolding_all
  exact(pe_ifExp hc ha hb).imp fun sg H Q h=>by
   obtain⟨rho,n,P,ds,vs,I,ht,hQ⟩:=h
   refine⟨rho,n,_,ds,vs,I,ht,fun c H' n' J k=>?_⟩
   cases c with
   | true=>exact⟨rho,n',P,ds,vs,J,k,hQ⟩
   | false=>exact⟨rho,n',P,ds,vs,J,k,hQ⟩
variable {t1:TAD}
def aNil:TAD:=fun _ n P=>P [] n
def aCons(t:TD)(r:TAD):TAD:=fun rho n P=>t rho n fun d n1=>r rho n1 fun ds n2=>P (d::ds) n2
theorem zd:PAD A X [] aNil:=by
 with_unfolding_all
  exact pa_nil.imp fun sg H Q h=>by
   obtain⟨rho,n,P,ds,vs,I,ht,hQ⟩:=h
   exact hQ [] H n [] I rfl ht
theorem reps_rot{K:W.Frag}{G:Option Addr}{Z:Addr->Prop}{H:Hp}{es ds:List D}{ws vs:List V}{d:D}{v:V}(h:Reps K G Z H (es++d::ds) (ws++v::vs))(hl:ws.length=es.length):Reps K G Z H (d::es++ds) (v::ws++vs):=by
 have h1:=h.take es.length
 have h2:=h.drop es.length
 rw[take_left' rfl,take_left' hl] at h1
 rw[drop_left' rfl,drop_left' hl] at h2
 obtain⟨r,t⟩:=h2.inv
 exact .cons r (h1.append t)
def zZ:Expr->Bool
 | .Starred ..=>true
 | _=>false
theorem sE{e:Expr}{es:List Expr}{env:Env}(h:zZ e=false):starEach (e::es) env=(false,eval e env)::starEach es env:=by
 cases e<;>first | (simp[starEach];done) | (simp[zZ] at h;done)
theorem zb(ha:PD A X a ta)(hr:PAD A X es t1)(hs:zZ a=false:=by rfl):PAD A X (a::es) (aCons ta t1):=by
 with_unfolding_all
  exact(pa_cons ha hr (sE hs)).imp fun sg H Q h=>by
   obtain⟨rho,n,P,ds,vs,I,ht,hQ⟩:=h
   refine⟨rho,n,_,ds,vs,I,ht,fun v H' n' d J k=>⟨rho,n',_,d::ds,v::vs,J,k,fun ws H2 n2 es' ⟨os,J2⟩ hl k2=>?_⟩⟩
   exact hQ (v::ws) H2 n2 (d::es') ⟨os,J2.pends (reps_rot J2.pend hl)⟩ (by rw[length_cons,length_cons,hl]) k2
theorem reps_pre{K:W.Frag}{G:Option Addr}{Z:Addr->Prop}{H:Hp}{es ds:List D}{ws vs:List V}(h:Reps K G Z H (es++ds) (ws++vs))(hl:ws.length=es.length):Reps K G Z H es ws/\Reps K G Z H ds vs:=by
 have h1:=h.take es.length
 have h2:=h.drop es.length
 rw[take_left' rfl,take_left' hl] at h1
 rw[drop_left' rfl,drop_left' hl] at h2
 exact⟨h1,h2⟩
def dTup(t:TAD):TD:=fun rho n P=>t rho n fun ds n1=>ds.length<=sizeLine/\P (.tup ds) n1
def dLst(t:TAD):TD:=fun rho n P=>t rho n fun ds n1=>ds.length<=sizeLine/\P (.lst ds) n1
theorem xi{x1}(h:PAD A X es t1):PD A X (.Tuple es x1 pos) (dTup t1):=by
 with_unfolding_all
  exact(pe_tup h).imp fun sg H Q h=>by
   obtain⟨rho,n,P,ds,vs,I,ht,hQ⟩:=h
   refine⟨rho,n,_,ds,vs,I,ht,fun ws H' n' es' ⟨os,J⟩ hl k=>⟨by rw[hl];exact k.1,fun p hp=>?_⟩⟩
   obtain⟨q1,q2⟩:=reps_pre J.pend hl
   exact hQ _ _ n' _ ⟨os,(J.pends q2).newTup q1 hp⟩ k.2
theorem pd_lst(h:PAD A X es t1):PD A X (.List es pos) (dLst t1):=by
 with_unfolding_all
  exact(pe_lst h).imp fun sg H Q h=>by
   obtain⟨rho,n,P,ds,vs,I,ht,hQ⟩:=h
   refine⟨rho,n,_,ds,vs,I,ht,fun ws H' n' es' ⟨os,J⟩ hl k=>⟨by rw[hl];exact k.1,fun p hp=>?_⟩⟩
   obtain⟨q1,q2⟩:=reps_pre J.pend hl
   exact hQ _ _ n' _ ⟨os,(J.pends q2).newLst q1 hp⟩ k.2
def xg(A:AC)(r:List V->Hp->VK->Prop)(rd:List D->(D->Prop)->Prop):Prop :=
 ∀ os n rho sg H ds vs es ws (k:D->Prop) (Q:VK),AmO A os n rho sg H ds vs->Reps A.K A.G (Zof A os) H es ws->rd es k->(∀ v H' d,Am A n rho sg H' (d::ds) (v::vs)->k d->Q v H')->r ws H Q
def dCall(rd:List D->(D->Prop)->Prop)(t:TAD):TD:=fun rho n P=>t rho n fun es n1=>rd es fun d=>P d n1
theorem tCB_of{r:List V->Hp->VK->Prop}{rd:List D->(D->Prop)->Prop}(hr:xg A r rd){sg:St}{H:Hp}{Q:VK}(h:tOf A (dCall rd t1) sg H Q):tCB r (taOf A t1) sg H Q:=by
 obtain⟨rho,n,P,ds,vs,I,ht,hQ⟩:=h
 refine⟨rho,n,_,ds,vs,I,ht,fun ws H' n' es' ⟨os,J⟩ hl k=>?_⟩
 obtain⟨q1,q2⟩:=reps_pre J.pend hl
 exact hr _ _ _ _ _ _ _ _ _ _ Q (J.pends q2) q1 k fun v H2 d J2 k2=>hQ v H2 n' d J2 k2
theorem zx{x:Str}{p:Pos}{id:String}{r:List V->Hp->VK->Prop}{rd:List D->(D->Prop)->Prop}(hc:CallR X (.builtin id) r)(hr:xg A r rd)(hm:X.mg x=none)(hv:bootBuiltins x=some (.builtin id))(ha:PAD A X (e::es) t1)(hg:Gl X x:=by rfl)(hn:x ≠ "__name__" := by decide)(hdb:(x == ("__debug__" : Str))=false:=by decide)
  (he:starEach (e::es) X.env=(false,eval e X.env)::starEach es X.env:=by rfl) (hpl:(backTo pos (starEach es X.env)).any (·.1)=false:=by rfl):PD A X (.Call (.Name x p) (e::es) [] pos) (dCall rd t1):=by
 with_unfolding_all
  exact
   (pe_callB hc hg hm hv ha hn hdb he hpl).imp fun _ _ _=>tCB_of hr
theorem zT{x:Str}{p:Pos}{T:String}{r:List V->Hp->VK->Prop}{rd:List D->(D->Prop)->Prop}(hc:CallR X (.type T) r)(hr:xg A r rd)(hm:X.mg x=none)(hv:bootBuiltins x=some (.type T))(ha:PAD A X (e::es) t1)(hg:Gl X x:=by rfl)(hn:x ≠ "__name__" := by decide)(hdb:(x == ("__debug__" : Str))=false:=by decide)
  (he:starEach (e::es) X.env=(false,eval e X.env)::starEach es X.env:=by rfl) (hpl:(backTo pos (starEach es X.env)).any (·.1)=false:=by rfl):PD A X (.Call (.Name x p) (e::es) [] pos) (dCall rd t1):=by
 with_unfolding_all
  exact
   (pe_callTy hc hg hm hv ha hn hdb he hpl).imp fun _ _ _=>tCB_of hr
theorem reps1{K:W.Frag}{G:Option Addr}{Z:Addr->Prop}{H:Hp}{d:D}{ws:List V}(h:Reps K G Z H [d] ws):∃ v,ws=[v]/\Rep K G Z H d v:=by
 obtain⟨v,r,rfl,q,t⟩:=h.split
 rw[t.nil_inv]
 exact⟨v,rfl,q⟩
theorem reps2{K:W.Frag}{G:Option Addr}{Z:Addr->Prop}{H:Hp}{d d':D}{ws:List V}(h:Reps K G Z H [d,d'] ws):∃ v v',ws=[v,v']/\Rep K G Z H d v/\Rep K G Z H d' v':=by
 obtain⟨v,r,rfl,q,t⟩:=h.split
 obtain⟨v',rfl,q'⟩:=reps1 t
 exact⟨v,v',rfl,q,q'⟩
def kLen:List D->(D->Prop)->Prop:=fun es k=>∃ fs,(es=[.lst fs]\/es=[.tup fs]\/es=[.fz fs])/\k (.int fs.length)
def kAbs:List D->(D->Prop)->Prop:=fun es k=>∃ i,es=[.int i]/\k (.int (if i<0 then -i else i))
def kIntB:List D->(D->Prop)->Prop:=fun es k=>∃ c,es=[.bl c]/\k (.int (if c then 1 else 0))
def kAny:List D->(D->Prop)->Prop:=fun es k=>∃ bs:List Bool,es=[.lst (bs.map D.bl)]/\k (.bl (bs.any id))
def kTuple:List D->(D->Prop)->Prop:=fun es k=>∃ fs,(es=[.lst fs]\/es=[.tup fs])/\k (.tup fs)
def kList:List D->(D->Prop)->Prop:=fun es k=>∃ fs,(es=[.lst fs]\/es=[.tup fs])/\k (.lst fs)
theorem cr_len:xg A (fun xs H Q=>∃ p ys,xs=[.ref p]/\(SqL A.K H p ys\/SqT A.K H p ys)/\Q (.int ys.length) H) kLen:=by
 rintro os n rho sg H ds vs es ws k Q I rs ⟨fs,h,q⟩ hQ
 rcases h with rfl | rfl | rfl
 ·obtain ⟨v, rfl, r⟩ := reps1 rs
  obtain⟨a,xs,rfl,sq,rr⟩:=r.lst_inv
  exact⟨a,xs,rfl,.inl sq.sq,by rw[rr.length];exact hQ _ H _ ⟨os,I.push (Rep.ofS rfl)⟩ q⟩
 ·obtain ⟨v, rfl, r⟩ := reps1 rs
  obtain⟨a,xs,rfl,sq,rr⟩:=r.tup_inv
  exact⟨a,xs,rfl,.inr sq.sq,by rw[rr.length];exact hQ _ H _ ⟨os,I.push (Rep.ofS rfl)⟩ q⟩
 ·obtain ⟨v, rfl, r⟩ := reps1 rs
  obtain⟨a,xs,rfl,sq,rr⟩:=r.fz_inv
  exact⟨a,xs,rfl,.inl sq,by rw[rr.length];exact hQ _ H _ ⟨os,I.push (Rep.ofS rfl)⟩ q⟩
theorem cr_abs:xg A (fun xs H Q=>∃ i,xs=[.int i]/\Q (.int (if i<0 then -i else i)) H) kAbs:=by
 rintro os n rho sg H ds vs es ws k Q I rs ⟨i,rfl,q⟩ hQ
 obtain⟨v,rfl,r⟩:=reps1 rs
 exact⟨i,by rw[r.int_inv],hQ _ H _ ⟨os,I.push (Rep.ofS rfl)⟩ q⟩
theorem cr_intB:xg A (fun xs H Q=>(∃ i,xs=[.int i]/\Q (.int i) H)\/∃ k,xs=[.bl k]/\Q (.int (if k then 1 else 0)) H) kIntB:=by
 rintro os n rho sg H ds vs es ws k Q I rs ⟨i,rfl,q⟩ hQ
 obtain⟨v,rfl,r⟩:=reps1 rs
 exact .inr ⟨i,by rw[r.bl_inv],hQ _ H _ ⟨os,I.push (Rep.ofS rfl)⟩ q⟩
theorem reps_bools{K:W.Frag}{G:Option Addr}{Z:Addr->Prop}{H:Hp}:∀ {bs:List Bool} {ws:List V},Reps K G Z H (bs.map D.bl) ws->ws=bs.map V.bl
 | [],ws,h=>h.nil_inv
 | b::bs,ws,h=>by
  obtain⟨v,r,rfl,q,t⟩:=h.split
  rw[q.bl_inv,reps_bools t];rfl
theorem cr_any:xg A (fun xs H Q=>∃ (p:Addr) (bs:List Bool),xs=[.ref p]/\SqL A.K H p (bs.map V.bl)/\Q (.bl (bs.any id)) H) kAny:=by
 rintro os n rho sg H ds vs es ws k Q I rs ⟨bs,rfl,q⟩ hQ
 obtain⟨v,rfl,r⟩:=reps1 rs
 obtain⟨a,xs,rfl,sq,rr⟩:=r.lst_inv
 have e:=reps_bools rr
 subst e
 exact⟨a,bs,rfl,sq.sq,hQ _ H _ ⟨os,I.push (Rep.ofS rfl)⟩ q⟩
theorem cr_tuple:xg A (fun xs H Q=>∃ p ys,xs=[.ref p]/\((SqL A.K H p ys/\∀ l,H l=none->Q (.ref l) (upd H l (.tup ys)))\/(SqT A.K H p ys/\Q (.ref p) H))) kTuple:=by
 rintro os n rho sg H ds vs es ws k Q I rs ⟨fs,h,q⟩ hQ
 rcases h with rfl | rfl
 ·obtain ⟨v, rfl, r⟩ := reps1 rs
  obtain⟨a,xs,rfl,sq,rr⟩:=r.lst_inv
  exact⟨a,xs,rfl,.inl ⟨sq.sq,fun l hl=>hQ _ _ _ ⟨os,I.newTup rr hl⟩ q⟩⟩
 ·obtain ⟨v, rfl, r⟩ := reps1 rs
  have r':=r
  obtain⟨a,xs,rfl,sq,rr⟩:=r.tup_inv
  exact⟨a,xs,rfl,.inr ⟨sq.sq,hQ _ _ _ ⟨os,I.push r'⟩ q⟩⟩
theorem cr_list:xg A (fun xs H Q=>∃ p ys,xs=[.ref p]/\(SqL A.K H p ys\/SqT A.K H p ys)/\∀ l,H l=none->Q (.ref l) (upd H l (.lst ys))) kList:=by
 rintro os n rho sg H ds vs es ws k Q I rs ⟨fs,h,q⟩ hQ
 rcases h with rfl | rfl
 ·obtain ⟨v, rfl, r⟩ := reps1 rs
  obtain⟨a,xs,rfl,sq,rr⟩:=r.lst_inv
  exact⟨a,xs,rfl,.inl sq.sq,fun l hl=>hQ _ _ _ ⟨os,I.newLst rr hl⟩ q⟩
 ·obtain ⟨v, rfl, r⟩ := reps1 rs
  obtain⟨a,xs,rfl,sq,rr⟩:=r.tup_inv
  exact⟨a,xs,rfl,.inr sq.sq,fun l hl=>hQ _ _ _ ⟨os,I.newLst rr hl⟩ q⟩
def isiD(T:String):D->Bool
 | .bl _=>T == "bool" || T == "int"
 | .int _=>T == "int"
 | .str _=>T == "str"
 | .tup _=>T == "tuple"
 | .lst _=>T == "list"
 | _=>false
def isiOk:D->Bool
 | .non=>true | .bl _=>true | .int _=>true | .str _=>true | .tup _=>true | .lst _=>true | .dic=>true | _=>false
def kIsi:List D->(D->Prop)->Prop:=fun es k=>∃ d T,es=[d,.ty T]/\(T = "bool" \/ T = "int" \/ T = "str" \/ T = "tuple" \/ T = "list")/\isiOk d=true/\k (.bl (isiD T d))
end
end L2
namespace L2
section
variable {A:AC} {os:List (Nat × Addr)} {n:Nat} {rho:Rho} {sg:St} {H:Hp} {ds es:List D} {vs ws:List V} {d:D} {v:V}
theorem AmO.split(I:AmO A os n rho sg H (es++ds) (ws++vs))(hl:ws.length=es.length):AmO A os n rho sg H ds vs/\Reps A.K A.G (Zof A os) H es ws :=
 let ⟨q1,q2⟩:=reps_pre I.pend hl
 ⟨I.pends q2,q1⟩
theorem AmO.join(I:AmO A os n rho sg H ds vs)(h:Reps A.K A.G (Zof A os) H es ws):AmO A os n rho sg H (es++ds) (ws++vs):=I.pends (h.append I.pend)
theorem AmO.under(I:AmO A os n rho sg H (d::(es++ds)) (v::(ws++vs)))(hl:ws.length=es.length):AmO A os n rho sg H (d::ds) (v::vs):=by
 obtain⟨J,r⟩:=I.pop
 exact(J.split hl).1.push r
theorem AmO.front(m:Nat)(I:AmO A os n rho sg H ds vs):AmO A (os.map fun p=>(p.1+m,p.2)) n (replicate m none++rho) (replicate m none++sg) H ds vs:=by
 have zz:∀ a,Zof A (os.map fun p=>(p.1+m,p.2)) a->Zof A os a:=fun a z=>by
  rcases z with z | ⟨p,hp,e⟩
  ·exact .inl z
  ·obtain ⟨q, hq, rfl⟩ := List.mem_map.mp hp
   exact .inr ⟨q,hq,e⟩
 refine⟨by simp[I.len],fun i c e=>?_,Reps.mono (fun a _ z=>zz a z) (fun _ _ _ e=>e) _ _ I.pend,?_,fun p hp=>?_,I.st,I.gz,I.fr,I.z0⟩
 ·have hi : m <= i := by
   apply Nat.le_of_not_lt
   intro hlt
   rw[getElem?_append_left (by simpa using hlt),getElem?_replicate,if_pos hlt] at e
   cases e
  rw[getElem?_append_right (by simpa using hi),length_replicate] at e
  obtain⟨u,e1,e2⟩:=I.slot _ c e
  refine⟨u,by rw[getElem?_append_right (by simpa using hi),length_replicate];exact e1,?_⟩
  have key:∀ j,j+m=i->SlotR A os H j c u->SlotR A (os.map fun p=>(p.1+m,p.2)) H i c u:=fun j hj h=>by
   subst hj
   cases c with
   | own fs =>
    obtain⟨a,xs,q1,q2,q3,q4⟩:=h
    exact⟨a,xs,q1,List.mem_map.mpr ⟨_,q2,rfl⟩,q3,Reps.mono (fun a _ z=>zz a z) (fun _ _ _ e=>e) _ _ q4⟩
   | owT ks fs =>
    obtain⟨a,xs,q1,q2,q3,ql,q4⟩:=h
    exact⟨a,xs,q1,List.mem_map.mpr ⟨_,q2,rfl⟩,q3,ql,Reps.mono (fun a _ z=>zz a z) (fun _ _ _ e=>e) _ _ q4⟩
   | non=>exact Rep.mono (fun a _ z=>zz a z) (fun _ _ _ e=>e) _ _ h
   | bl _=>exact Rep.mono (fun a _ z=>zz a z) (fun _ _ _ e=>e) _ _ h
   | int _=>exact Rep.mono (fun a _ z=>zz a z) (fun _ _ _ e=>e) _ _ h
   | str _=>exact Rep.mono (fun a _ z=>zz a z) (fun _ _ _ e=>e) _ _ h
   | ty _=>exact Rep.mono (fun a _ z=>zz a z) (fun _ _ _ e=>e) _ _ h
   | tup _=>exact Rep.mono (fun a _ z=>zz a z) (fun _ _ _ e=>e) _ _ h
   | lst _=>exact Rep.mono (fun a _ z=>zz a z) (fun _ _ _ e=>e) _ _ h
   | st=>exact Rep.mono (fun a _ z=>zz a z) (fun _ _ _ e=>e) _ _ h
   | fz _=>exact Rep.mono (fun a _ z=>zz a z) (fun _ _ _ e=>e) _ _ h
   | dic=>exact Rep.mono (fun a _ z=>zz a z) (fun _ _ _ e=>e) _ _ h
   | prT _=>exact Rep.mono (fun a _ z=>zz a z) (fun _ _ _ e=>e) _ _ h
   | dct _ _=>exact Rep.mono (fun a _ z=>zz a z) (fun _ _ _ e=>e) _ _ h
  exact key (i-m) (by lia) e2
 ·rw [List.pairwise_map]
  exact I.nd.imp fun {p q} h=>⟨fun z=>h.1 (by simpa using z),h.2⟩
 ·obtain ⟨q, hq, rfl⟩ := List.mem_map.mp hp
  exact I.fresh q hq
theorem AmO.back{m:Nat}{rho':Rho}{sg':St}(I:AmO A os n rho' sg' H ds vs)(h1:rho'.drop m=rho)(h2:sg'.drop m=sg):∃ os',AmO A os' n rho sg H ds vs:=by
 refine⟨(os.filter fun p=>decide (m<=p.1)).map fun p=>(p.1-m,p.2),?_⟩
 have zz:∀ a,Zof A ((os.filter fun p=>decide (m<=p.1)).map fun p=>(p.1-m,p.2)) a->Zof A os a:=fun a z=>by
  rcases z with z | ⟨p,hp,e⟩
  ·exact .inl z
  ·obtain ⟨q, hq, rfl⟩ := List.mem_map.mp hp
   exact .inr ⟨q,(List.mem_filter.mp hq).1,e⟩
 subst h1 h2
 refine⟨by simp[I.len],fun i c e=>?_,Reps.mono (fun a _ z=>zz a z) (fun _ _ _ e=>e) _ _ I.pend,?_,fun p hp=>?_,I.st,I.gz,I.fr,I.z0⟩
 ·rw [List.getElem?_drop] at e
  obtain⟨u,e1,e2⟩:=I.slot _ c e
  refine⟨u,by rw[getElem?_drop];exact e1,?_⟩
  cases c with
  | own fs =>
   obtain⟨a,xs,q1,q2,q3,q4⟩:=e2
   exact⟨a,xs,q1,List.mem_map.mpr ⟨_,List.mem_filter.mpr ⟨q2,by simp⟩,by simp⟩,q3,Reps.mono (fun a _ z=>zz a z) (fun _ _ _ e=>e) _ _ q4⟩
  | owT ks fs =>
   obtain⟨a,xs,q1,q2,q3,ql,q4⟩:=e2
   exact⟨a,xs,q1,List.mem_map.mpr ⟨_,List.mem_filter.mpr ⟨q2,by simp⟩,by simp⟩,q3,ql,Reps.mono (fun a _ z=>zz a z) (fun _ _ _ e=>e) _ _ q4⟩
  | non=>exact Rep.mono (fun a _ z=>zz a z) (fun _ _ _ e=>e) _ _ e2
  | bl _=>exact Rep.mono (fun a _ z=>zz a z) (fun _ _ _ e=>e) _ _ e2
  | int _=>exact Rep.mono (fun a _ z=>zz a z) (fun _ _ _ e=>e) _ _ e2
  | str _=>exact Rep.mono (fun a _ z=>zz a z) (fun _ _ _ e=>e) _ _ e2
  | ty _=>exact Rep.mono (fun a _ z=>zz a z) (fun _ _ _ e=>e) _ _ e2
  | tup _=>exact Rep.mono (fun a _ z=>zz a z) (fun _ _ _ e=>e) _ _ e2
  | lst _=>exact Rep.mono (fun a _ z=>zz a z) (fun _ _ _ e=>e) _ _ e2
  | st=>exact Rep.mono (fun a _ z=>zz a z) (fun _ _ _ e=>e) _ _ e2
  | fz _=>exact Rep.mono (fun a _ z=>zz a z) (fun _ _ _ e=>e) _ _ e2
  | dic=>exact Rep.mono (fun a _ z=>zz a z) (fun _ _ _ e=>e) _ _ e2
  | prT _=>exact Rep.mono (fun a _ z=>zz a z) (fun _ _ _ e=>e) _ _ e2
  | dct _ _=>exact Rep.mono (fun a _ z=>zz a z) (fun _ _ _ e=>e) _ _ e2
 ·rw [List.pairwise_map, List.pairwise_filter]
  refine I.nd.imp fun {p q} h hp hq=>⟨fun z=>h.1 ?_,h.2⟩
  have a1:m<=p.1:=by simpa using hp
  have a2:m<=q.1:=by simpa using hq
  have z':p.1-m=q.1-m:=z
  lia
 ·obtain ⟨q, hq, rfl⟩ := List.mem_map.mp hp
  exact I.fresh q (List.mem_filter.mp hq).1
end
abbrev TGD:=D->Rho->(Rho->Prop)->Prop
abbrev TGsD:=List D->Rho->(Rho->Prop)->Prop
def gOf(A:AC)(m:Nat)(g:TGD):TG:=fun v sg H Q=>∃ rho n P d ds vs,Am A n rho sg H (d::ds) (v::vs)/\g d rho P/\∀ rho' sg',Am A n rho' sg' H ds vs->sg'.drop m=sg.drop m->P rho'->Q sg' H
def gsOf(A:AC)(m:Nat)(g:TGsD):TGs:=fun us sg H Q=>∃ rho n P es ds vs,Am A n rho sg H (es++ds) (us++vs)/\us.length=es.length/\g es rho P/\∀ rho' sg',Am A n rho' sg' H ds vs->sg'.drop m=sg.drop m->P rho'->Q sg' H
@[irreducible] def PGD(A:AC)(X:Cx)(m:Nat)(tg:Expr)(g:TGD):Prop:=PG X tg (gOf A m g)
@[irreducible] def PGsD(A:AC)(X:Cx)(m:Nat)(tg:List Expr)(g:TGsD):Prop:=PGs X tg (gsOf A m g)
theorem PG.imp{X:Cx}{tg:Expr}{g g':TG}(h:PG X tg g)(hi:∀ v sg H Q,g' v sg H Q->g v sg H Q):PG X tg g':=fun pins s sg H v u Q I r q=>h pins s sg H v u Q I r (hi _ _ _ _ q)
theorem PGs.imp{X:Cx}{tg:List Expr}{g g':TGs}(h:PGs X tg g)(hi:∀ v sg H Q,g' v sg H Q->g v sg H Q):PGs X tg g':=fun pins s sg H v u Q I r q=>h pins s sg H v u Q I r (hi _ _ _ _ q)
section
variable {A:AC} {X:Cx} {m:Nat} {pos:Pos}
def gdName(i:Nat):TGD:=fun d rho P=>i<rho.length/\P (rho.set i (some d))
theorem zj{i:Nat}{x:Str}(hN:X.N.Nodup)(hi:X.N[i]?=some x)(hx:Loc X.env.scope x)(hm:i<m)(hf:X.fn x=true\/X.env.scope.names.lookup x=some .local:=by first | exact .inl rfl | exact .inr rfl | assumption):PGD A X m (.Name x pos) (gdName i):=by
 with_unfolding_all
  exact
   (pg_name hN hi hx hf).imp fun v sg H Q h => by
    obtain⟨rho,n,P,d,ds,vs,⟨os,I⟩,⟨hl,k⟩,hQ⟩:=h
    refine hQ (rho.set i (some d)) (sg.set i (some v)) ⟨_,I.set hl⟩ ?_ k
    rw[List.drop_set_of_lt hm]
def gdNil:TGsD:=fun es rho P=>es=[]/\P rho
def gdCons(g:TGD)(gs:TGsD):TGsD:=fun es rho P=>∃ d r,es=d::r/\g d rho fun rho'=>gs r rho' P
theorem xo:PGsD A X m [] gdNil:=by
 with_unfolding_all
  exact pgs_nil.imp fun us sg H Q h=>by
   obtain⟨rho,n,P,es,ds,vs,I,hl,⟨rfl,k⟩,hQ⟩:=h
   have e:us=[]:=List.length_eq_zero_iff.mp hl
   subst e
   exact⟨rfl,hQ rho sg I rfl k⟩
theorem zk{e:Expr}{es:List Expr}{g:TGD}{gs:TGsD}(h1:PGD A X m e g)(h2:PGsD A X m es gs)(hs:(assignEach (e::es) X.env).map (·.2)=assign e X.env::(assignEach es X.env).map (·.2):=by rfl):PGsD A X m (e::es) (gdCons g gs):=by
 with_unfolding_all
  exact
   (pgs_cons h1 h2 hs).imp fun us sg H Q h => by
    obtain⟨rho,n,P,es',ds,vs,I,hl,⟨d,r,rfl,k⟩,hQ⟩:=h
    cases us with
    | nil=>simp at hl
    | cons u us =>
     refine⟨u,us,rfl,⟨rho,n,_,d,r++ds,us++vs,I,k,fun rho' sg' I' e1 k'=>⟨rho',n,P,r,ds,vs,I',by simpa using hl,k',fun rho2 sg2 I2 e2 k2=>hQ rho2 sg2 I2 (e2.trans e1) k2⟩⟩⟩
def gdTup(k:Nat)(gs:TGsD):TGD:=fun d rho P=>∃ es,d=.tup es/\es.length=k/\gs es rho P
theorem pgd_tup{es:List Expr}{k:Nat}{gs:TGsD}{kt:Nat}(hK:X.K=A.K)(hc:X.calm=true)(h:PGsD A X m es gs)(hn:(assignEach es X.env).length=k:=by rfl)(hst:(assignEach es X.env).findIdx? (·.1)=none:=by rfl):PGD A X m (.Tuple es kt pos) (gdTup k gs):=by
 with_unfolding_all
  exact
   (pg_tup (n := k) hc h hn hst).imp fun v sg H Q h => by
    obtain⟨rho,n,P,d,ds,vs,⟨os,I⟩,⟨fs,rfl,hl,q⟩,hQ⟩:=h
    obtain⟨J,r⟩:=I.pop
    obtain⟨a,xs,rfl,sq,rs⟩:=r.tup_inv
    have hx:=rs.length
    rw[hK]
    exact⟨a,xs,rfl,sq.sq,by rw[hx];exact hl,rho,n,P,fs,ds,vs,⟨os,J.join rs⟩,hx,q,hQ⟩
end
abbrev TID:=Rho->Nat->(List D->Nat->Prop)->Prop
def JIs(A:AC)(J:It)(es:List D)(ws:List V)(items:List D):Prop:=∀ n rho sg H ds vs i,Am A n rho sg H (es++ds) (ws++vs) ->
 (∀ d,items[i]?=some d->J.go i H/\∀ x H',J.yld i H x H'->Am A n rho sg H' (d::(es++ds)) (x::(ws++vs)))/\(items.length<=i->J.stop i H)
def iOf(A:AC)(it:TID):TI:=fun sg H R=>∃ rho n P ds vs,Am A n rho sg H ds vs/\it rho n P/\∀ J H' n' items es ws,Am A n' rho sg H' (es++ds) (ws++vs)->ws.length=es.length->JIs A J es ws items->P items n'->R J H'
@[irreducible] def PID(A:AC)(X:Cx)(tg iter:Expr)(it:TID):Prop:=PI X tg iter (iOf A it)
theorem PI.imp{X:Cx}{tg e:Expr}{t t':TI}(h:PI X tg e t)(hi:∀ sg H Q,t' sg H Q->t sg H Q):PI X tg e t':=fun pins s sg H Q I q=>h pins s sg H Q I (hi _ _ _ q)
section
variable {A:AC} {X:Cx} {tg a b:Expr} {ta tb:TD} {pos p:Pos} {t1:TAD}
def rngD(lo:Int)(k:Nat):List D:=(List.range k).map fun(i:Nat)=>D.int (lo+(i:Int))
def iRngD(t:TAD):TID:=fun rho n P=>t rho n fun es n1=>∃ j:Int,es=[.int j]/\-(2^62)<=j/\j<2^62/\P (rngD 0 j.toNat) n1
theorem jis_rng{lo:Int}{k:Nat}:JIs A (Itr lo k) [] [] (rngD lo k):=fun n2 rho2 sg2 H2 ds2 vs2 i ⟨os2,I2⟩=>by
 refine⟨fun d e=>?_,fun hi=>?_⟩
 ·unfold rngD at e
  rw[getElem?_map] at e
  cases q:(List.range k)[i]? with
  | none=>rw[q] at e;cases e
  | some j =>
   rw[q] at e
   cases e
   have hj:=List.getElem?_eq_some_iff.mp q
   obtain⟨hlt,ej⟩:=hj
   rw[List.getElem_range] at ej
   subst ej
   refine⟨(show i<k by simpa using hlt),fun x H3 y=>?_⟩
   obtain⟨e3,e4⟩:=y
   subst e3 e4
   exact⟨os2,I2.push (Rep.ofS (d:=.int (lo+i)) rfl)⟩
 ·unfold rngD at hi
  exact(show k<=i by simpa using hi)
theorem pid_rng(hm:X.mg "range" = none)(ha:PAD A X [a] t1)(hg:Gl X "range" := by rfl)(hs:starEach [a] X.env=[(false,eval a X.env)]:=by rfl):PID A X tg (.Call (.Name "range" p) [a] [] pos) (iRngD t1):=by
 with_unfolding_all
  exact
   (pi_range1 hg hm ha hs).imp fun sg H R h => by
    obtain⟨rho,n,P,ds,vs,I,ht,hQ⟩:=h
    refine⟨rho,n,_,ds,vs,I,ht,fun ws H' n' es' ⟨os,J⟩ hl k=>?_⟩
    obtain⟨j,rfl,h1,h2,k⟩:=k
    obtain⟨J1,rs⟩:=J.split hl
    obtain⟨v,rfl,r⟩:=reps1 rs
    exact⟨j,by rw[r.int_inv],h1,h2,hQ _ H' n' _ [] [] ⟨os,J1⟩ rfl jis_rng k⟩
def seqOf:D->Option (Bool × List D)
 | .lst es=>some (true,es)
 | .tup es=>some (false,es)
 | _=>none
theorem Rep.seq{K:W.Frag}{G:Option Addr}{Z:Addr->Prop}{H:Hp}{v:V}{b:Bool}{es:List D}:∀ {d:D},seqOf d=some (b,es)->Rep K G Z H d v->∃ a xs,v=.ref a/\SqZ K Z H b a xs/\Reps K G Z H es xs
 | .lst fs,h,r=>by cases h;exact r.lst_inv
 | .tup fs,h,r=>by cases h;exact r.tup_inv
 | .non,h,_=>by cases h
 | .bl _,h,_=>by cases h
 | .int _,h,_=>by cases h
 | .str _,h,_=>by cases h
 | .ty _,h,_=>by cases h
 | .st,h,_=>by cases h
 | .own _,h,_=>by cases h
 | .owT _ _,h,_=>by cases h
 | .prT _,h,_=>by cases h
 | .fz _,h,_=>by cases h
def zipD(xs ys:List D):List D:=List.zipWith (fun x y=>D.tup [x,y]) xs ys
def iZipD(t:TAD):TID:=fun rho n P=>t rho n fun es n1=>∃ d1 d2 b1 xs b2 ys,es=[d1,d2]/\seqOf d1=some (b1,xs)/\seqOf d2=some (b2,ys)/\P (zipD xs ys) n1
theorem jis_zip{d1 d2:D}{l1 l2:Addr}{b1 b2:Bool}{xs ys:List D}(h1:seqOf d1=some (b1,xs))(h2:seqOf d2=some (b2,ys)):JIs A (Itz A.K b1 b2 l1 l2) [d1,d2] [.ref l1,.ref l2] (zipD xs ys):=fun n rho sg H ds vs i ⟨os,I⟩=>by
 obtain⟨I1,r1⟩:=AmO.pop (d:=d1) (v:=.ref l1) (ds:=d2::ds) (vs:=.ref l2::vs) I
 obtain⟨I2,r2⟩:=I1.pop
 obtain⟨a1,us,e1,sq1,rs1⟩:=r1.seq h1
 obtain⟨a2,ws,e2,sq2,rs2⟩:=r2.seq h2
 cases e1;cases e2
 refine⟨fun d e=>?_,fun hi=>⟨us,ws,sq1.sq,sq2.sq,?_⟩⟩
 ·unfold zipD at e
  rw[List.getElem?_zipWith] at e
  cases q1:xs[i]? with
  | none=>rw[q1] at e;cases e
  | some x =>
   cases q2:ys[i]? with
   | none=>rw[q1,q2] at e;cases e
   | some y =>
    rw[q1,q2] at e
    cases e
    obtain⟨u,eu,ru⟩:=rs1.get q1
    obtain⟨w,ew,rw'⟩:=rs2.get q2
    refine⟨⟨us,ws,u,w,sq1.sq,sq2.sq,eu,ew⟩,fun v H3 yy=>?_⟩
    obtain⟨T,hT,rfl,k⟩:=yy
    obtain⟨u',w',eu',ew',rfl⟩:=k us ws sq1.sq sq2.sq
    rw[eu] at eu';cases eu'
    rw[ew] at ew';cases ew'
    exact⟨os,I.newTup (.cons ru (.cons rw' .nil)) hT⟩
 ·rw [rs1.length, rs2.length]
  unfold zipD at hi
  rw[length_zipWith] at hi
  lia
theorem pid_zip{es:List Expr}{kk:Nat}{ps:Pos}(hK:X.K=A.K)(hm:X.mg "zip" = none)(ha:PAD A X [a,b] t1)(hg:Gl X "zip" := by rfl)(hs:starEach [a,b] X.env=[(false,eval a X.env),(false,eval b X.env)]:=by rfl)(hs2:starEach [b] X.env=[(false,eval b X.env)]:=by rfl) :
  PID A X (.Tuple es kk ps) (.Call (.Name "zip" p) [a,b] [] pos) (iZipD t1):=by
 with_unfolding_all
  exact(pi_zip hg hm ha hs hs2).imp fun sg H R h=>by
   obtain⟨rho,n,P,ds,vs,I,ht,hQ⟩:=h
   refine⟨rho,n,_,ds,vs,I,ht,fun ws H' n' es' ⟨os,J⟩ hl k=>?_⟩
   obtain⟨d1,d2,b1,xs,b2,ys,rfl,h1,h2,k⟩:=k
   obtain⟨J1,rs⟩:=J.split hl
   obtain⟨v1,v2,rfl,r1,r2⟩:=reps2 rs
   obtain⟨a1,us,rfl,sq1,rs1⟩:=r1.seq h1
   obtain⟨a2,ws',rfl,sq2,rs2⟩:=r2.seq h2
   rw[hK]
   exact⟨b1,b2,a1,a2,us,ws',rfl,sq1.sq,sq2.sq,hQ _ H' n' _ [d1,d2] [.ref a1,.ref a2] ⟨os,J⟩ rfl (jis_zip h1 h2) k⟩
end
section
variable {A:AC} {X:Cx} {tg iter elt:Expr} {ifs:List Expr} {scope:Scope} {own M:List Str} {pos:Pos} {it:TID} {g:TGD} {tt:TBD} {te:TD}
def dComp(it:TID)(own:Nat)(g:TGD)(tt:TBD)(te:TD):TD:=fun rho n P=>it rho n fun items n1=>items.length<=sizeLine/\∃ J:Nat->List D->Nat->Prop,J 0 [] n1 /\
 (∀ i d acc n,items[i]?=some d->J i acc n->g d (replicate own none++rho) fun rho'=>rho'.drop own=rho/\tt rho' n fun c n2=>if c=true then te rho' n2 fun e n3=>J (i+1) (acc++[e]) n3 else J (i+1) acc n2) /\
 ∀ acc n,J items.length acc n->P (.lst acc) n
def bYes:TBD:=fun _ n P=>P true n
theorem PTs.imp{X:Cx}{e:List Expr}{t t':TT}(h:PTs X e t)(hi:∀ sg H Q,t' sg H Q->t sg H Q):PTs X e t':=by
 with_unfolding_all
  exact fun pins s sg H Q I q=>h pins s sg H Q I (hi _ _ _ q)
theorem xa{X:Cx}:PTs X [] (ttOf A bYes):=by
 with_unfolding_all
  exact pts_nil.imp fun sg H Q h=>by
   obtain⟨rho,n,P,ds,vs,I,ht,hQ⟩:=h
   exact hQ true H n I ht
theorem tComp_ofG{sg:St}{H:Hp}{Q:VK}{m:Nat}{rho:Rho}{n:Nat}{P:D->Nat->Prop}{ds:List D}{vs:List V}(I:Am A n rho sg H ds vs)(ht:dComp it m g tt te rho n P)
  (hQ:∀ os n' H' fs xs p,AmO A os n' rho sg H' ds vs->Reps A.K A.G (Zof A os) H' fs xs->H' p=none->P (.lst fs) n'->Q (.ref p) (upd H' p (.lst xs))):tComp (iOf A it) m (gOf A m g) (ttOf A tt) (tOf A te) sg H Q:=by
 refine⟨rho,n,_,ds,vs,I,ht,fun J H' n' items es ws I1 hl hJ k=>?_⟩
 obtain⟨hsz,W,w0,turn,fin⟩:=k
 refine⟨fun i mm acc H=>mm=items.length-i/\i<=items.length/\acc.length<=i/\∃ accD n,acc.length=accD.length/\Am A n rho sg H (es++(accD++ds)) (ws++(acc++vs))/\W i accD n,
  ⟨items.length,rfl,Nat.zero_le _,Nat.le_refl _,[],n',rfl,I1,w0⟩,?_⟩
 rintro i mm acc H3 ⟨rfl,hi,hai,accD,n3,hal,⟨os,I3⟩,w3⟩
 obtain⟨j1,j2⟩:=hJ n3 rho sg H3 (accD++ds) (acc++vs) i ⟨os,I3⟩
 by_cases hlt:i<items.length
 ·refine .inr ⟨(j1 items[i] (by simp [hlt])).1, by lia, fun x H4 y => ?_⟩
  obtain⟨os4,I4⟩:=(j1 items[i] (by simp[hlt])).2 x H4 y
  refine⟨replicate m none++rho,n3,_,items[i],es++(accD++ds),ws++(acc++vs),⟨_,I4.front m⟩,turn i items[i] accD n3 (by simp[hlt]) w3,fun rho' sg' ⟨os5,I5⟩ e5 k5=>?_⟩
  obtain⟨k5,k6⟩:=k5
  have e6:sg'.drop m=sg:=by rw[e5,drop_left' (by simp)]
  refine⟨e6,rho',n3,_,es++(accD++ds),ws++(acc++vs),⟨os5,I5⟩,k6,fun c H6 n6 ⟨os6,I6⟩ k7=>?_⟩
  cases c with
  | false =>
   obtain⟨os7,I7⟩:=I6.back k5 e6
   exact⟨items.length-(i+1),by lia,rfl,hlt,by lia,accD,n6,hal,⟨os7,I7⟩,k7⟩
  | true =>
   rw[if_pos rfl] at k7 ⊢
   refine⟨rho',n6,_,es++(accD++ds),ws++(acc++vs),⟨os6,I6⟩,k7,fun v H8 n8 d ⟨os8,I8⟩ k8=>?_⟩
   obtain⟨os9,I9⟩:=I8.back k5 e6
   obtain⟨I10,rv⟩:=I9.pop
   obtain⟨I11,r1⟩:=I10.split hl
   obtain⟨I12,r2⟩:=I11.split hal
   refine⟨items.length-(i+1),by lia,rfl,hlt,by rw[length_append,List.length_singleton];lia,accD++[d],n8,by simp[hal],⟨os9,(I12.join (r2.append (.cons rv .nil))).join r1⟩,k8⟩
 ·have e : i = items.length := by lia
  subst e
  refine .inl ⟨j2 (Nat.le_refl _),Nat.le_trans hai hsz,fun D hD=>?_⟩
  obtain⟨I4,r1⟩:=I3.split hl
  obtain⟨I5,r2⟩:=I4.split hal
  exact hQ os n3 _ accD acc D I5 r2 hD (fin accD n3 w3)
theorem tComp_of{sg:St}{H:Hp}{Q:VK}{m:Nat}(h:tOf A (dComp it m g tt te) sg H Q):tComp (iOf A it) m (gOf A m g) (ttOf A tt) (tOf A te) sg H Q:=by
 obtain⟨rho,n,P,ds,vs,I,ht,hQ⟩:=h
 exact tComp_ofG I ht fun os n' H' fs xs p J r hp k=>hQ _ _ n' _ ⟨os,J.newLst r hp⟩ k
theorem pd_comp(ok:CompOk X scope M)(hc:X.calm=true)(hi:PID A X tg iter it)(hg:∀ C s2 H2 fp,PGD A (zr X scope own M C s2 H2 fp) own.length tg g)(ht:∀ C s2 H2 fp,PTs (zr X scope own M C s2 H2 fp) ifs (ttOf A tt))
  (he:∀ C s2 H2 fp,PD A (zr X scope own M C s2 H2 fp) elt te) (hs:∀ x,foldedSetIterable iter X.env x=pure x:=by intro _;rfl):PD A X (.ListComp elt [⟨tg,iter,ifs,0⟩] scope pos) (dComp it own.length g tt te):=by
 with_unfolding_all
  exact
   (pe_comp ok hc hi hg ht he hs).imp fun _ _ _=>tComp_of
end
end L2
namespace L2
structure EndsD where
 nx:Rho->Nat->Prop
 rt:D->Nat->Prop
 bk:Rho->Nat->Prop:=fun _ _=>False
 ct:Rho->Nat->Prop:=fun _ _=>False
abbrev TSD:=EndsD->Rho->Nat->Prop
structure EOk(A:AC)(E:Ends)(F:EndsD)(ds:List D)(vs:List V):Prop where
 nx:∀ rho n sg H,Am A n rho sg H ds vs->F.nx rho n->E.nx sg H
 rt:∀ d n v rho sg H,Am A n rho sg H (d::ds) (v::vs)->F.rt d n->E.rt v H
 bk:∀ rho n sg H,Am A n rho sg H ds vs->F.bk rho n->E.bk sg H
 ct:∀ rho n sg H,Am A n rho sg H ds vs->F.ct rho n->E.ct sg H
def sOf(A:AC)(t:TSD):TS:=fun E sg H=>∃ rho n F ds vs,Am A n rho sg H ds vs/\t F rho n/\EOk A E F ds vs
@[irreducible] def PSD(A:AC)(X:Cx)(s:Stmt)(t:TSD):Prop:=PS X s (sOf A t)
@[irreducible] def PSsD(A:AC)(X:Cx)(s:List Stmt)(t:TSD):Prop:=PSs X s (sOf A t)
section
variable {A:AC} {X:Cx} {st:Stmt} {rest:List Stmt} {t u:TSD} {e a b:Expr} {te:TD} {tc:TBD} {pos:Pos}
def sNext:TSD:=fun F rho n=>F.nx rho n
def sSeq(t u:TSD):TSD:=fun F rho n=>t { F with nx:=u F } rho n
theorem xb:PSsD A X [] sNext:=by
 with_unfolding_all
  exact pss_nil.imp fun E sg H h=>by
   obtain⟨rho,n,F,ds,vs,I,ht,ok⟩:=h
   exact ok.nx _ _ _ _ I ht
theorem ze(h1:PSD A X st t)(h2:PSsD A X rest u):PSsD A X (st::rest) (sSeq t u):=by
 with_unfolding_all
  exact(pss_cons h1 h2).imp fun E sg H h=>by
   obtain⟨rho,n,F,ds,vs,I,ht,ok⟩:=h
   exact⟨rho,n,{ F with nx:=u F },ds,vs,I,ht,⟨fun rho' n' sg' H' I' k=>⟨rho',n',F,ds,vs,I',k,ok⟩,ok.rt,ok.bk,ok.ct⟩⟩
theorem zh(h1:PSD A X st t):PSsD A X [st] t:=by
 with_unfolding_all
  exact pss_one h1
def sRet(te:TD):TSD:=fun F rho n=>te rho n F.rt
theorem zt(he:PD A X e te):PSD A X (.Return (some e) pos) (sRet te):=by
 with_unfolding_all
  exact(ps_ret he).imp fun E sg H h=>by
   obtain⟨rho,n,F,ds,vs,I,ht,ok⟩:=h
   exact⟨rho,n,_,ds,vs,I,ht,fun v H' n' d I' k=>ok.rt _ _ _ _ _ _ I' k⟩
def sIf(c:TBD)(t u:TSD):TSD:=fun F rho n=>c rho n fun b n1=>if b=true then t F rho n1 else u F rho n1
theorem psd_if{c:Expr}{sa sb:List Stmt}(hc:PTD A X c tc)(ha:PSsD A X sa t)(hb:PSsD A X sb u):PSD A X (.If c sa sb pos) (sIf tc t u):=by
 with_unfolding_all
  exact(ps_if hc ha hb).imp fun E sg H h=>by
   obtain⟨rho,n,F,ds,vs,I,ht,ok⟩:=h
   refine⟨rho,n,_,ds,vs,I,ht,fun c H' n' J k=>?_⟩
   cases c with
   | true=>exact⟨rho,n',F,ds,vs,J,k,ok⟩
   | false=>exact⟨rho,n',F,ds,vs,J,k,ok⟩
def sSet(i:Nat)(te:TD):TSD:=fun F rho n=>i<rho.length/\te rho n fun d n1=>F.nx (rho.set i (some d)) n1
theorem zI{i:Nat}{x:Str}{pos':Pos}(hN:X.N.Nodup)(hi:X.N[i]?=some x)(hx:Loc X.env.scope x)(he:PD A X e te)(hs:swapsWith e (some (.Name x pos')) pos.line X.env=pure false:=by rfl)(hf:X.fn x=true\/X.env.scope.names.lookup x=some .local:=by first | exact .inl rfl | exact .inr rfl | assumption) :
  PSD A X (.Assign [.Name x pos'] e pos) (sSet i te):=by
 with_unfolding_all
  exact(ps_set hN hi hx he hs hf).imp fun E sg H h=>by
   obtain⟨rho,n,F,ds,vs,I,⟨hl,ht⟩,ok⟩:=h
   exact⟨rho,n,_,ds,vs,I,ht,fun v H' n' d ⟨os,J⟩ k=>ok.nx _ _ _ _ ⟨_,J.set hl⟩ k⟩
theorem psd_setComp{i:Nat}{x:Str}{pos' spos:Pos}{tg iter elt:Expr}{ifs:List Expr}{scope:Scope}{own M:List Str}{it:TID}{g:TGD}{tt:TBD}(hN:X.N.Nodup)(hix:X.N[i]?=some x)(hx:Loc X.env.scope x)(ok:CompOk X scope M)(hc:X.calm=true)(hi:PID A X tg iter it)
  (hg:∀ C s2 H2 fp,PGD A (zr X scope own M C s2 H2 fp) own.length tg g) (ht:∀ C s2 H2 fp,PTs (zr X scope own M C s2 H2 fp) ifs (ttOf A tt)) (he:∀ C s2 H2 fp,PD A (zr X scope own M C s2 H2 fp) elt te)
  (hsw:swapsWith (.ListComp elt [⟨tg,iter,ifs,0⟩] scope pos) (some (.Name x pos')) spos.line X.env=pure true:=by rfl) (hf:X.fn x=true\/X.env.scope.names.lookup x=some .local:=by first | exact .inl rfl | exact .inr rfl | assumption)
  (hs:∀ x,foldedSetIterable iter X.env x=pure x:=by intro _;rfl):PSD A X (.Assign [.Name x pos'] (.ListComp elt [⟨tg,iter,ifs,0⟩] scope pos) spos) (sSet i (dComp it own.length g tt te)):=by
 with_unfolding_all
  exact
   (ps_setComp hN hix hx ok hc hi hg ht he hsw hf hs).imp fun E sg H h => by
    obtain⟨rho,n,F,ds,vs,I,⟨hl,ht⟩,ok⟩:=h
    exact tComp_of (A:=A) ⟨rho,n,_,ds,vs,I,ht,fun v H' n' d ⟨os,J⟩ k=>ok.nx _ _ _ _ ⟨_,J.set hl⟩ k⟩
def sUnp(te:TD)(g:TGD):TSD:=fun F rho n=>te rho n fun d n1=>g d rho fun rho'=>F.nx rho' n1
theorem psd_unp{tg:Expr}{g:TGD}{m:Nat}(he:PD A X e te)(hg:PGD A X m tg g)(hs:swapsWithSole [tg] e pos.line X.env=pure false:=by rfl)(hw:swappedStores [tg] e X.env=pure none:=by rfl)
  (h1:(assignEach [tg] X.env).map (·.2)=[assign tg X.env]:=by rfl):PSD A X (.Assign [tg] e pos) (sUnp te g):=by
 with_unfolding_all
  exact(ps_asg he hg hs hw h1).imp fun E sg H h=>by
   obtain⟨rho,n,F,ds,vs,I,ht,ok⟩:=h
   exact⟨rho,n,_,ds,vs,I,ht,fun v H' n' d J k=>⟨rho,n',_,d,ds,vs,J,k,fun rho' sg' J' _ k'=>ok.nx _ _ _ _ J' k'⟩⟩
def sPar(i j:Nat)(t:TAD):TSD:=fun F rho n=>i<rho.length/\j<rho.length/\t rho n fun es n1=>∃ d d',es=[d,d']/\F.nx ((rho.set i (some d)).set j (some d')) n1
theorem psd_par{i j:Nat}{x y:Str}{ta:TAD}{px py pt:Pos}{kt k2 pt2}(hc:X.calm=true)(hN:X.N.Nodup)(hi:X.N[i]?=some x)(hj:X.N[j]?=some y)(hij:i≠j)
  (hx:X.env.scope.names.lookup x=some .local) (hy:X.env.scope.names.lookup y=some .local) (ha:PAD A X [a,b] ta)
  (hw:swappedStores [.Tuple [.Name x px,.Name y py] kt pt] (.Tuple [a,b] k2 pt2) X.env=pure (some [x,y]):=by rfl)
  (hs:swapsWithSole [.Tuple [.Name x px,.Name y py] kt pt] (.Tuple [a,b] k2 pt2) pos.line X.env=pure false:=by rfl) :
  PSD A X (.Assign [.Tuple [.Name x px,.Name y py] kt pt] (.Tuple [a,b] k2 pt2) pos) (sPar i j ta):=by
 with_unfolding_all
  exact(ps_par hc hN hi hj hij hx hy ha hw hs).imp fun E sg H h=>by
   obtain⟨rho,n,F,ds,vs,I,⟨hl,hl2,ht⟩,ok⟩:=h
   refine⟨rho,n,_,ds,vs,I,ht,fun ws H' n' es ⟨os,J⟩ hlen k=>?_⟩
   obtain⟨d,d',rfl,k⟩:=k
   obtain⟨J1,rs⟩:=J.split hlen
   obtain⟨v,v',rfl,r,r'⟩:=reps2 rs
   refine⟨v,v',rfl,ok.nx _ _ _ _ ?_ k⟩
   have J2:AmO A os n' rho sg H' (d::d'::ds) (v::v'::vs):=(J1.push r').push r
   exact⟨_,(J2.set hl).set (by simpa using hl2)⟩
def sFor(it:TID)(g:TGD)(tb:TSD):TSD:=fun F rho n=>it rho n fun items n1=>∃ J:Nat->Rho->Nat->Prop,J 0 rho n1 /\
 (∀ i d rho n,items[i]?=some d->J i rho n->g d rho fun rho'=>tb { F with nx:=J (i+1),ct:=J (i+1),bk:=F.nx } rho' n)/\∀ rho n,J items.length rho n->F.nx rho n
theorem psd_for{tg iter:Expr}{body:List Stmt}{it:TID}{g:TGD}{tb:TSD}{m:Nat}(hp:PassesOwn (model X.prog X.w) X.A X.env X.xe)(hc:X.calm=true)(hi:PID A X tg iter it)(hg:PGD A X m tg g)(hb:PSsD A X body tb)
  (hs:∀ x,foldedSetIterable iter X.env x=pure x:=by intro _;rfl):PSD A X (.For tg iter body [] pos) (sFor it g tb):=by
 with_unfolding_all
  exact(ps_for hp hc hi hg hb hs).imp fun E sg H h=>by
   obtain⟨rho,n,F,ds,vs,I,ht,ok⟩:=h
   refine⟨rho,n,_,ds,vs,I,ht,fun J H' n' items es ws I1 hl hJ k=>?_⟩
   obtain⟨W,w0,turn,fin⟩:=k
   refine⟨fun i mm sg H=>mm=items.length-i/\i<=items.length/\∃ rho n,Am A n rho sg H (es++ds) (ws++vs)/\W i rho n,⟨items.length,rfl,Nat.zero_le _,rho,n',I1,w0⟩,?_⟩
   rintro i mm sg3 H3 ⟨rfl,hi,rho3,n3,I3,w3⟩
   obtain⟨j1,j2⟩:=hJ n3 rho3 sg3 H3 ds vs i I3
   by_cases hlt:i<items.length
   ·refine .inr ⟨(j1 items[i] (by simp [hlt])).1, fun sg' H' => ∃ rho n, Am A n rho sg' H' (es ++ ds) (ws ++ vs) /\ W (i + 1) rho n, fun sg' H' ⟨rho', n', I', w'⟩ => ⟨items.length - (i + 1), by lia, rfl, hlt, rho', n', I', w'⟩, fun x H4 y => ?_⟩
    have I4:=(j1 items[i] (by simp[hlt])).2 x H4 y
    refine⟨rho3,n3,_,items[i],es++ds,ws++vs,I4,turn i items[i] rho3 n3 (by simp[hlt]) w3,fun rho' sg' I5 _ k5=>⟨rho',n3,{ F with nx:=W (i+1),ct:=W (i+1),bk:=F.nx },es++ds,ws++vs,I5,k5,?_⟩⟩
    refine⟨fun rho6 n6 sg6 H6 I6 k6=>⟨rho6,n6,I6,k6⟩,fun d n6 v rho6 sg6 H6 ⟨os6,I6⟩ k6=>ok.rt _ _ _ _ _ _ ⟨os6,I6.under hl⟩ k6,fun rho6 n6 sg6 H6 ⟨os6,I6⟩ k6=>ok.nx _ _ _ _ ⟨os6,(I6.split hl).1⟩ k6,fun rho6 n6 sg6 H6 I6 k6=>⟨rho6,n6,I6,k6⟩⟩
   ·have e : i = items.length := by lia
    subst e
    obtain⟨os,I3⟩:=I3
    exact .inl ⟨j2 (Nat.le_refl _),ok.nx _ _ _ _ ⟨os,(I3.split hl).1⟩ (fin rho3 n3 w3)⟩
def sDrop(te:TD):TSD:=fun F rho n=>te rho n fun _ n1=>F.nx rho n1
theorem AmO.setOwn{os:List (Nat × Addr)}{n:Nat}{rho:Rho}{sg:St}{H:Hp}{ds es:List D}{vs xs:List V}{i:Nat}{p:Addr}(I:AmO A os n rho sg H ds vs)(hi:i<rho.length)(hp:H p=none)(r:Reps A.K A.G (Zof A os) H es xs) :
  ∃ os',AmO A os' n (rho.set i (some (.own es))) (sg.set i (some (.ref p))) (upd H p (.lst xs)) ds vs:=by
 have hf:∀ a u,H a=some u->upd H p (.lst xs) a=some u:=fun a u e=>by rw[zm (zy e hp)];exact e
 refine⟨(i,p)::os.filter fun q=>decide (q.1≠i),?_⟩
 have zz:∀ a,H a≠none->Zof A ((i,p)::os.filter fun q=>decide (q.1≠i)) a->Zof A os a:=fun a ha z=>by
  rcases z with z | ⟨q,hq,e⟩
  ·exact .inl z
  ·rcases List.mem_cons.mp hq with rfl | hq
   ·exact absurd (by rw[<- e];exact hp) ha
   ·exact .inr ⟨q,(List.mem_filter.mp hq).1,e⟩
 have h0:A.H0 p=none:=by
  cases q:A.H0 p with
  | none=>rfl
  | some o =>
   by_cases e:A.G=some p
   ·obtain ⟨x, y, z, w, _⟩ := I.st p e
    rw[w] at hp;cases hp
   ·have := I.fr p o e q
    rw[this] at hp;cases hp
 refine⟨by simp[I.len],fun j c e=>?_,Reps.mono zz (fun a u _ e=>hf a u e) _ _ I.pend,?_,fun q hq=>?_,fun a e=>?_,I.gz,fun a u h e=>hf a u (I.fr a u h e),I.z0⟩
 ·by_cases hj : j = i
  ·subst hj
   rw[getElem?_set_self hi] at e
   cases e
   exact⟨.ref p,getElem?_set_self (by rw[<- I.len];exact hi),p,xs,rfl,mem_cons_self,zw,Reps.mono zz (fun a u _ e=>hf a u e) _ _ r⟩
  ·rw [List.getElem?_set_ne (Ne.symm hj)] at e
   obtain⟨u,e1,e2⟩:=I.slot j c e
   exact⟨u,by rw[getElem?_set_ne (Ne.symm hj)];exact e1,SlotR.mono zz (fun a u _ e=>hf a u e) (fun a ys m q=>⟨mem_cons_of_mem _ (List.mem_filter.mpr ⟨m,by simpa using hj⟩),hf a _ q⟩) _ _ e2⟩
 ·refine List.pairwise_cons.mpr ⟨fun q hq => ?_, I.nd.filter _⟩
  obtain⟨m1,m2⟩:=List.mem_filter.mp hq
  refine⟨fun z=>by simp[<- z] at m2,fun z=>(I.fresh q m1).2.2.ne ?_⟩
  have z':p=q.2:=z
  rw[<- z'];exact hp
 ·rcases List.mem_cons.mp hq with rfl | hq
  ·exact⟨h0,fun z=>(I.z0.1 p z).ne h0,by show Hot (upd H p _ p);rw[zw];exact Hot.lst⟩
  ·obtain ⟨f1, f2, f3⟩ := I.fresh q (List.mem_filter.mp hq).1
   exact⟨f1,f2,f3.of fun u w=>hf _ _ w⟩
 ·obtain ⟨x, y, z, q, rr⟩ := I.st a e
  exact⟨x,y,z,hf _ _ q,rr⟩
def sOwn(i:Nat)(t:TAD):TSD:=fun F rho n=>i<rho.length/\t rho n fun es n1=>es.length<=sizeLine/\F.nx (rho.set i (some (.own es))) n1
theorem psd_own{i:Nat}{x:Str}{pos' pos2:Pos}{els:List Expr}{ta:TAD}(hN:X.N.Nodup)(hi:X.N[i]?=some x)(hx:Loc X.env.scope x)(ha:PAD A X els ta)(hf:X.fn x=true\/X.env.scope.names.lookup x=some .local:=by first | exact .inl rfl | exact .inr rfl | assumption)
  (hs:swapsWith (.List els pos2) (some (.Name x pos')) pos.line X.env=pure false:=by rfl):PSD A X (.Assign [.Name x pos'] (.List els pos2) pos) (sOwn i ta):=by
 with_unfolding_all
  exact(ps_set hN hi hx (pe_lst ha) hs hf).imp fun E sg H h=>by
   obtain⟨rho,n,F,ds,vs,I,⟨hl,ht⟩,ok⟩:=h
   refine⟨rho,n,_,ds,vs,I,ht,fun ws H' n' es ⟨os,J⟩ hlen k=>⟨by rw[hlen];exact k.1,fun p hp=>?_⟩⟩
   obtain⟨J1,rs⟩:=J.split hlen
   exact ok.nx _ _ _ _ (J1.setOwn hl hp rs) k.2
theorem AmO.own{os:List (Nat × Addr)}{n:Nat}{rho:Rho}{sg:St}{H:Hp}{ds es es':List D}{vs xs':List V}{i:Nat}(I:AmO A os n rho sg H ds vs)(hi:rho[i]?=some (some (.own es))) :
  ∃ a xs,sg[i]?=some (some (.ref a))/\H a=some (.lst xs)/\Reps A.K A.G (Zof A os) H es xs/\∀ es' xs',Reps A.K A.G (Zof A os) H es' xs'->AmO A os n (rho.set i (some (.own es'))) sg (upd H a (.lst xs')) ds vs:=by
 obtain⟨v,e1,a,xs,rfl,hm,hH,rs⟩:=I.slot i _ hi
 have hil:i<rho.length:=(List.getElem?_eq_some_iff.mp hi).1
 have za:Zof A os a:=.inr ⟨_,hm,rfl⟩
 have hf:∀ (xs':List V) b u,¬ Zof A os b->H b=some u->upd H a (.lst xs') b=some u:=fun xs' b u nz e=>by
  rw[zm fun z=>nz (by rw[z];exact za)];exact e
 have uniq:∀ j,(j,a)∈os->j=i:=fun j hj=>by
  by_cases hji:j=i
  ·exact hji
  ·have key : ∀ (l : List (Nat × Addr)), l.Pairwise (fun p q => p.1 ≠ q.1 /\ p.2 ≠ q.2) -> (j, a) ∈ l -> (i, a) ∈ l -> False := by
    intro l
    induction l with
    | nil=>intro _ h;simp at h
    | cons c l ih =>
     intro hp h1 h2
     obtain⟨p1,p2⟩:=List.pairwise_cons.mp hp
     rcases List.mem_cons.mp h1 with e1 | h1<;>rcases List.mem_cons.mp h2 with e2 | h2
     ·rw[<- e2] at e1;exact hji (Prod.mk.inj e1).1
     ·exact(p1 _ h2).2 (by rw[<- e1])
     ·exact(p1 _ h1).2 (by rw[<- e2])
     ·exact ih p2 h1 h2
   exact(key os I.nd hj hm).elim
 obtain⟨fa1,fa2,fa3⟩:=I.fresh _ hm
 refine⟨a,xs,e1,hH,rs,fun es' xs' r=>⟨by simp[I.len],fun j c e=>?_,Reps.mono (fun _ _ z=>z) (hf xs') _ _ I.pend,I.nd,fun q hq=>?_,fun b e=>?_,I.gz,fun b u h e=>?_,I.z0⟩⟩
 ·by_cases hj : j = i
  ·subst hj
   rw[getElem?_set_self hil] at e
   cases e
   exact⟨.ref a,e1,a,xs',rfl,hm,zw,Reps.mono (fun _ _ z=>z) (hf xs') _ _ r⟩
  ·rw [List.getElem?_set_ne (Ne.symm hj)] at e
   obtain⟨u,e2,e3⟩:=I.slot j c e
   exact⟨u,e2,SlotR.mono (fun _ _ z=>z) (hf xs') (fun b ys m q=>⟨m,by rw[zm fun z=>hj (uniq j (by rw[<- z];exact m))];exact q⟩) _ _ e3⟩
 ·obtain ⟨f1, f2, f3⟩ := I.fresh q hq
  refine⟨f1,f2,?_⟩
  by_cases e:q.2=a
  ·rw[e,zw];exact Hot.lst
  ·rw[zm e];exact f3
 ·obtain ⟨x, y, z, q, rr⟩ := I.st b e
  exact⟨x,y,z,by rw[zm fun w=>fa2 (by rw[<- w];exact I.gz b e)];exact q,rr⟩
 ·rw [zm fun w => by rw [w, fa1] at e; cases e]
  exact I.fr b u h e
theorem AmO.freeze{os:List (Nat × Addr)}{n:Nat}{rho:Rho}{sg:St}{H:Hp}{ds es:List D}{vs:List V}{i:Nat}(I:AmO A os n rho sg H ds vs)(hi:rho[i]?=some (some (.own es))):∃ os',AmO A os' n (rho.set i (some (.lst es))) sg H ds vs:=by
 obtain⟨v,e1,a,xs,rfl,hm,hH,rs⟩:=I.slot i _ hi
 have hil:i<rho.length:=(List.getElem?_eq_some_iff.mp hi).1
 refine⟨os.filter fun q=>decide (q.1≠i),?_⟩
 have sub:∀ b,H b≠none->Zof A (os.filter fun p=>decide (p.1≠i)) b->Zof A os b:=fun b _ z=>by
  rcases z with z | ⟨p,hp,e⟩
  ·exact .inl z
  ·exact .inr ⟨p,(List.mem_filter.mp hp).1,e⟩
 have key:∀ (l:List (Nat × Addr)),l.Pairwise (fun p q=>p.1≠q.1/\p.2≠q.2)->(i,a)∈l->∀ q∈l,q.2=a->q.1=i:=by
  intro l
  induction l with
  | nil=>intro _ h;simp at h
  | cons c l ih =>
   intro hp h1 q hq hqa
   obtain⟨p1,p2⟩:=List.pairwise_cons.mp hp
   rcases List.mem_cons.mp h1 with e1 | h1<;>rcases List.mem_cons.mp hq with e2 | h2
   ·rw[e2,<- e1]
   ·exact absurd (by rw[<- e1,hqa]) (p1 _ h2).2
   ·exact absurd (by rw[<- e2,hqa]) (p1 _ h1).2
   ·exact ih p2 h1 q h2 hqa
 refine⟨by simp[I.len],fun j c e=>?_,Reps.mono sub (fun _ _ _ e=>e) _ _ I.pend,I.nd.filter _,fun p hp=>I.fresh p (List.mem_filter.mp hp).1,I.st,I.gz,I.fr,I.z0⟩
 by_cases hj:j=i
 ·subst hj
  rw[getElem?_set_self hil] at e
  cases e
  refine⟨.ref a,e1,Rep.lst_mk ⟨fun z=>?_,hH⟩ (Reps.mono sub (fun _ _ _ e=>e) _ _ rs)⟩
  rcases z with z | ⟨p,hp,e⟩
  ·exact(I.fresh _ hm).2.1 z
  ·obtain ⟨m1, m2⟩ := List.mem_filter.mp hp
   have:=key os I.nd hm p m1 e
   simp[this] at m2
 ·rw [List.getElem?_set_ne (Ne.symm hj)] at e
  obtain⟨u,e2,e3⟩:=I.slot j c e
  exact⟨u,e2,SlotR.mono sub (fun _ _ _ e=>e) (fun b ys m q=>⟨List.mem_filter.mpr ⟨m,by simpa using hj⟩,q⟩) _ _ e3⟩
def sFrz(i:Nat)(t:TSD):TSD:=fun F rho n=>∃ es,rho[i]?=some (some (.own es))/\t F (rho.set i (some (.lst es))) n
theorem psd_frz(i:Nat)(h:PSD A X st t):PSD A X st (sFrz i t):=by
 with_unfolding_all
  exact PS.imp h fun E sg H q=>by
   obtain⟨rho,n,F,ds,vs,⟨os,I⟩,⟨es,hi,ht⟩,ok⟩:=q
   exact⟨_,n,F,ds,vs,I.freeze hi,ht,ok⟩
end
end L2
namespace L2
section
variable {A:AC} {X:Cx} {e a b:Expr} {es:List Expr} {te ta tb:TD} {t1:TAD} {pos:Pos}
def sAppend(i:Nat)(t:TAD):TSD:=fun F rho n=>∃ es,rho[i]?=some (some (.own es))/\es.length<sizeLine/\t rho n fun ds n1=>∃ d,ds=[d]/\F.nx (rho.set i (some (.own (es++[d])))) n1
theorem psd_append{i:Nat}{x:Str}{px apos cpos:Pos}(ha:PAD A X [e] t1)(hK:X.K=A.K)(hN:X.N[i]?=some x:=by rfl)(hv:Vis X.env.scope x:=by first | exact Or.inl rfl | exact Or.inr (Or.inl rfl) | exact Or.inr (Or.inr rfl))(hd:(x == ("__debug__" : Str))=false:=by decide)
  (hcd:(x == ("__classdict__" : Str))=false:=by decide) (hbase:attributeBase (.Name x px) "append" X.env (eval (.Name x px) X.env)=eval (.Name x px) X.env:=by rfl)
  (hfew : ((backTo cpos (starEach [e] X.env)).all (fun x => !x.1) && (backToKw cpos (keywordEach [] X.env)).all (fun x => x.1.isSome)
   && decide ([e].length+([]:List Keyword).length+(if ([]:List Keyword).isEmpty then 0 else 1)<30))=true:=by rfl)
  (hline:(apos.endLine == cpos.line)=true:=by rfl) (hs:starEach [e] X.env=(false,eval e X.env)::starEach [] X.env:=by rfl) (hplain:(backTo cpos (starEach [] X.env)).any (·.1)=false:=by rfl)
  (hsw:swapsWith (.Call (.Attribute (.Name x px) "append" apos) [e] [] cpos) none pos.line X.env=pure false:=by rfl) :
  PSD A X (.Expr (.Call (.Attribute (.Name x px) "append" apos) [e] [] cpos) pos) (sAppend i t1):=by
 with_unfolding_all
  exact
   (ps_expr (pe_bm PySem.F.plainAttrs_list PySem.F.slot_list_append PySem.F.type_list_append mt_append (pe_var hN hv hd hcd) ha hbase hfew hline hs hplain) hsw).imp fun E sg H h => by
    obtain⟨rho,n,F,ds,vs,⟨os,I⟩,⟨es,hi,hz,ht⟩,ok⟩:=h
    obtain⟨a,xs,e1,hH,rs,_⟩:=I.own (es':=es) (xs':=[]) hi
    refine⟨.ref a,e1,.inl ⟨rfl,xs,SqL.of hH⟩,rho,n,_,ds,vs,⟨os,I⟩,ht,fun ws H' n' fs ⟨os',J⟩ hl k=>?_⟩
    obtain⟨d,rfl,k⟩:=k
    obtain⟨J1,rs1⟩:=J.split hl
    obtain⟨v,rfl,r⟩:=reps1 rs1
    obtain⟨a',xs',e2,hH',rs',up⟩:=J1.own (es':=es) (xs':=[]) hi
    rw[e1] at e2
    cases e2
    exact⟨a,xs',v,rfl,rfl,hH',by rw[rs'.length];exact hz,ok.nx _ _ _ _ ⟨os',up _ _ (rs'.append (.cons r .nil))⟩ k⟩
def ownAt(o:Option (Option D))(p:List D->Prop):Prop:=∃ es,o=some (some (.own es))/\p es
def dOwnIx(i:Nat)(tb:TD):TD:=fun rho n P=>ownAt rho[i]? fun es=>tb rho n fun d n1=>∃ j c,d=.int j/\atI es j=some c/\P c n1
def sOwnSet(i:Nat)(te tb:TD):TSD:=fun F rho n=>ownAt rho[i]? fun es=>te rho n fun d n1=>tb rho n1 fun d2 n2=>∃ j m,d2=.int j/\ixN es.length j=some m/\F.nx (rho.set i (some (.own (es.set m d)))) n2
def dStIx(i:Nat)(tb:TD):TD:=fun rho n P=>rho[i]?=some (some .st)/\tb rho n fun d n1=>∃ j:Int,d=.int j/\0<=j/\j<n1/\∀ z:Int,0<=z->(j=1->z<2147483647)->P (.int z) n1
theorem ixN_of{n:Nat}{i:Int}(h0:0<=i)(h1:i<n):ixN n i=some i.toNat:=by unfold ixN;rw[if_pos h0,if_pos h1]
theorem pd_stIx{i:Nat}{x:Str}{px:Pos}(hb:PD A X b tb)(hpl:PlainIx b)(hN:X.N[i]?=some x:=by rfl)(hv:Vis X.env.scope x:=by first | exact Or.inl rfl | exact Or.inr (Or.inl rfl) | exact Or.inr (Or.inr rfl))(hd:(x == ("__debug__" : Str))=false:=by decide)
  (hcd:(x == ("__classdict__" : Str))=false:=by decide):PD A X (.Subscript (.Name x px) b pos) (dStIx i tb):=by
 with_unfolding_all
  exact
   (pe_ix ix_list (pe_var hN hv hd hcd) hb hpl).imp fun sg H Q h => by
    obtain⟨rho,n,P,ds,vs,⟨os,I⟩,⟨hi,ht⟩,hQ⟩:=h
    obtain⟨v,e1,e2⟩:=I.slot i _ hi
    obtain⟨a,ha,rfl⟩:∃ a,A.G=some a/\v=.ref a:=by
     have e3:=SlotR.rep (d:=.st) rfl e2
     unfold Rep at e3
     exact e3
    refine⟨.ref a,e1,rho,n,_,ds,vs,⟨os,I⟩,ht,fun w H' n' d ⟨os',J⟩ k=>?_⟩
    obtain⟨j,rfl,h0,h3,k⟩:=k
    obtain⟨J1,r⟩:=J.pop
    obtain⟨zs,_,_,hH,p1,p2,p3⟩:=J1.st a ha
    obtain⟨jn,rfl⟩:=Int.eq_ofNat_of_zero_le h0
    have hjl:jn<zs.length:=by lia
    have ej:zs[jn]?=some zs[jn]:=getElem?_eq_getElem hjl
    refine⟨a,_,(jn:Int),.int zs[jn],rfl,r.int_inv,SqL.of hH,?_,hQ _ H' n' _ ⟨os',J1.push (Rep.ofS (d:=.int zs[jn]) rfl)⟩ (k zs[jn] (p2 _ (getElem_mem hjl)) fun e=>p3 _ (by rw[<- ej];congr 1;lia))⟩
    unfold atI
    rw[ixN_of (by lia) (by rw[length_map];lia)]
    simp[hjl]
theorem ints_set(zs:List Int)(j:Nat)(z:Int):(zs.map V.int).set j (.int z)=(zs.set j z).map V.int:=by rw[List.map_set]
theorem AmO.setSt{os:List (Nat × Addr)}{n:Nat}{rho:Rho}{sg:St}{H:Hp}{ds:List D}{vs:List V}{a:Addr}{zs:List Int}(I:AmO A os n rho sg H ds vs)(ha:A.G=some a)(h:zs.length=n/\(∀ x∈zs,0<=x)/\∀ x,zs[1]?=some x->x<2147483647) :
  AmO A os n rho sg (upd H a (.lst (zs.map V.int))) ds vs:=by
 have za:Zof A os a:=.inl (I.gz a ha)
 have hf:∀ b u,¬ Zof A os b->H b=some u->upd H a (.lst (zs.map V.int)) b=some u:=fun b u nz e=>by
  rw[zm fun w=>nz (by rw[w];exact za)];exact e
 have no:∀ p∈os,p.2≠a:=fun p hp e=>(I.fresh p hp).2.1 (by rw[e];exact I.gz a ha)
 refine⟨I.len,fun j c e=>?_,Reps.mono (fun _ _ w=>w) hf _ _ I.pend,I.nd,fun q hq=>?_,fun b e=>?_,I.gz,fun b u h e=>?_,I.z0⟩
 ·obtain ⟨u, e1, e2⟩ := I.slot j c e
  exact⟨u,e1,SlotR.mono (fun _ _ w=>w) hf (fun b ys m q=>⟨m,by rw[zm (no _ m)];exact q⟩) _ _ e2⟩
 ·obtain ⟨f1, f2, f3⟩ := I.fresh q hq
  exact⟨f1,f2,by rw[zm (no q hq)];exact f3⟩
 ·rw [ha] at e
  cases e
  exact⟨zs,0,0,zw,h⟩
 ·rw [zm fun w => h (by rw [w]; exact ha)]
  exact I.fr b u h e
def sStSet(i:Nat)(te tb:TD):TSD:=fun F rho n=>rho[i]?=some (some .st)/\te rho n fun d n1=>tb rho n1 fun d2 n2=>∃ j z:Int,d=.int z/\d2=.int j/\0<=j/\j<n2/\0<=z/\(j=1->z<2147483647)/\F.nx rho n2
theorem psd_stSet{i:Nat}{x:Str}{px ps:Pos}(he:PD A X e te)(hb:PD A X b tb)(hN:X.N[i]?=some x:=by rfl)(hv:Vis X.env.scope x:=by first | exact Or.inl rfl | exact Or.inr (Or.inl rfl) | exact Or.inr (Or.inr rfl))(hd:(x == ("__debug__" : Str))=false:=by decide)
  (hcd : (x == ("__classdict__" : Str)) = false := by decide) (ha : ∀ v, assign (.Subscript (.Name x px) b ps) X.env v = (do
   let ov <- holding [v] (eval (.Name x px) X.env)
   let iv <- holding [v,ov] (eval b X.env)
   standAt ps
   holding [v,ov,iv] (setItem ov iv v)
   release [v,ov,iv] []):=by intro _;rfl) (hs:swapsWithSole [.Subscript (.Name x px) b ps] e pos.line X.env=pure false:=by rfl) (hw:swappedStores [.Subscript (.Name x px) b ps] e X.env=pure none:=by rfl)
  (h1:(assignEach [.Subscript (.Name x px) b ps] X.env).map (·.2)=[assign (.Subscript (.Name x px) b ps) X.env]:=by rfl) :
  PSD A X (.Assign [.Subscript (.Name x px) b ps] e pos) (sStSet i te tb):=by
 with_unfolding_all
  exact
   (ps_asg he (pg_sub (pe_var hN hv hd hcd) hb set_list ha) hs hw h1).imp fun E sg H h => by
    obtain⟨rho,n,F,ds,vs,⟨os,I⟩,⟨hi,ht⟩,ok⟩:=h
    obtain⟨v,e1,e2⟩:=I.slot i _ hi
    obtain⟨a,hG,rfl⟩:∃ a,A.G=some a/\v=.ref a:=by
     have e3:=SlotR.rep (d:=.st) rfl e2
     unfold Rep at e3
     exact e3
    refine⟨rho,n,_,ds,vs,⟨os,I⟩,ht,fun v H' n' d J k=>⟨.ref a,e1,rho,n',_,d::ds,v::vs,J,k,fun w H2 n2 d2 ⟨os2,J2⟩ k2=>?_⟩⟩
    obtain⟨j,z,rfl,rfl,h0,h3,hz,h2,k2⟩:=k2
    obtain⟨J3,r2⟩:=J2.pop
    obtain⟨J4,r1⟩:=J3.pop
    obtain⟨zs,_,_,hH,p1,p2,p3⟩:=J4.st a hG
    rw[r1.int_inv,r2.int_inv]
    obtain⟨jn,rfl⟩:=Int.eq_ofNat_of_zero_le h0
    have hjl:jn<zs.length:=by lia
    refine⟨a,_,(jn:Int),jn,rfl,rfl,hH,by rw[ixN_of (by lia) (by rw[length_map];lia)];simp,?_⟩
    rw[ints_set]
    refine ok.nx _ _ _ _ ⟨os2,J4.setSt hG ⟨by rw[length_set];exact p1,fun x hx=>?_,fun x hx=>?_⟩⟩ k2
    ·rcases List.mem_or_eq_of_mem_set hx with hx | rfl
     ·exact p2 x hx
     ·exact hz
    ·by_cases e : jn = 1
     ·subst e
      rw[getElem?_set_self hjl] at hx
      cases hx
      exact h2 rfl
     ·rw [List.getElem?_set_ne e] at hx
      exact p3 x hx
def cutL(es:List D)(lo hi:Option Int):List D:=(es.drop (HT.sIx es.length 0 lo)).take (HT.sIx es.length es.length hi-HT.sIx es.length 0 lo)
theorem reps_cut{K:W.Frag}{G:Option Addr}{Z:Addr->Prop}{H:Hp}{fs:List D}{xs:List V}(h:Reps K G Z H fs xs)(lo hi:Option Int):Reps K G Z H (cutL fs lo hi) (cutV xs lo hi):=by
 unfold cutL cutV
 rw[h.length]
 exact(h.drop _).take _
def dSlL(lo hi:Option Int)(ta:TD):TD:=fun rho n P=>ta rho n fun d n1=>∃ fs,(d=.lst fs\/d=.fz fs)/\P (.lst (cutL fs lo hi)) n1
def enumD(es:List D):List D:=es.zipIdx.map fun p=>.tup [.int (p.2:Nat),p.1]
def iEnumD(t:TAD):TID:=fun rho n P=>t rho n fun es n1=>∃ fs,es=[.lst fs]/\P (enumD fs) n1
end
abbrev TF:=List D->Nat->(D->Nat->Prop)->Prop
def spD(K:W.Frag)(k:Nat)(t:TF):Sp:=fun vs H Q _=>∃ (G:Option Addr) (Z:Addr->Prop) (n:Nat) (P:D->Nat->Prop) (ds:List D),ds.length=k/\Reps K G Z H ds vs/\StOk G n H/\(∀ a,G=some a->Z a)/\ZOk K G Z H/\t ds n P /\
 ∀ v H' n' d,(∀ a o,G≠some a->H a=some o->H' a=some o)->StOk G n' H'->Rep K G Z H' d v->P d n'->Q v H'
def startD(N:List Str)(ds:List D):Rho:=ds.map some++replicate (N.length-ds.length) none
theorem amo_start{K:W.Frag}{G:Option Addr}{Z:Addr->Prop}{H:Hp}{N:List Str}{ds:List D}{vs:List V}{n:Nat}(rs:Reps K G Z H ds vs)(st:StOk G n H)(gz:∀ a,G=some a->Z a)(z0:ZOk K G Z H) :
  AmO ⟨K,G,Z,H⟩ [] n (startD N ds) (start N vs) H [] []:=by
 have hl:=rs.length
 have zz:∀ a,Zof ⟨K,G,Z,H⟩ [] a->Z a:=fun a z=>by
  rcases z with z | ⟨p,hp,_⟩
  ·exact z
  ·simp at hp
 have rs':Reps K G (Zof ⟨K,G,Z,H⟩ []) H ds vs:=Reps.mono (fun a _ z=>zz a z) (fun _ _ _ e=>e) _ _ rs
 refine⟨by simp[startD,start,hl],fun i d e=>?_,.nil,.nil,fun p hp=>by simp at hp,st,gz,fun a o _ e=>e,z0⟩
 unfold startD at e
 by_cases hi:i<ds.length
 ·rw [List.getElem?_append_left (by simpa using hi), List.getElem?_map] at e
  cases q:ds[i]? with
  | none=>rw[q] at e;cases e
  | some c =>
   rw[q] at e
   cases e
   obtain⟨v,e1,r⟩:=rs'.get q
   refine⟨v,?_,SlotR.of r⟩
   unfold start
   rw[getElem?_append_left (by rw[length_map,hl];exact hi),getElem?_map,e1]
   rfl
 ·rw [List.getElem?_append_right (by simpa using hi), List.getElem?_replicate] at e
  split at e<;>cases e
section
variable {P:Program} {w:World} {K:W.Frag} {mg:Str->Option Value} {base:Heap}
theorem Fun.okD{x qual:Str}{st:Stmt}{f:Addr}{fd:FuncData}{N ps:List Str}{k:Nat}{t:TF}{tb:TSD}(F:Fun K x qual st f fd)(S:FnScope N ps (zi st))
  (body : ∀ (cdv : Value) (A0 : Around) (outer : List Env) (s : Shared) (H : Hp) (E : XK) (G : Option Addr) (Z : Addr -> Prop), Room k (A0.deeper (envOfC qual (zi st) s.heap.objs.size f cdv)) ->
   PSsD ⟨K,G,Z,H⟩ (cxOf CX0 P w K mg base N qual (zi st) f cdv A0 outer s H E).nox (defBody st) tb)
  (spec:∀ ds n Q,ds.length=ps.length->t ds n Q->tb { nx:=fun _ n=>Q .non n,rt:=Q } (startD N ds) n):FnOk P w K mg base CX0 (k+1) f fd ps (spD K ps.length t):=by
 with_unfolding_all
  exact(by
   refine F.ok S (fun vs H Q E h=>?_) (fun cdv A0 outer s H vs Q E hr h=>?_)
   ·obtain ⟨G, Z, n, R, ds, hl, rs, _⟩ := h
    rw[rs.length];exact hl
   ·obtain ⟨G, Z, n, R, ds, hl, rs, hst, gz, z0, ht, hQ⟩ := h
    refine⟨_,body cdv A0 outer s H E G Z hr,startD N ds,n,_,[],[],⟨[],amo_start rs hst gz z0⟩,spec ds n R hl ht,?_⟩
    have zz:∀ (os:List (Nat × Addr)) a,Z a->Zof ⟨K,G,Z,H⟩ os a:=fun os a z=>.inl z
    refine⟨fun rho' n' sg' H' ⟨os,I⟩ q=>?_,fun d n' v rho' sg' H' ⟨os,I⟩ q=>?_,fun _ _ _ _ _ q=>q.elim,fun _ _ _ _ _ q=>q.elim⟩
    ·exact hQ .non H' n' .non I.fr I.st (Rep.ofS rfl) q
    ·exact hQ v H' n' d I.fr I.st (Rep.mono (fun a _ z=>zz os a z) (fun _ _ _ e=>e) _ _ I.pop.2) q)
end
section
variable {A:AC} {X:Cx} {e:Expr} {es:List Expr} {t1:TAD} {pos p:Pos}
def dFn(k:Nat)(t:TF)(t1:TAD):TD:=fun rho n P=>t1 rho n fun es n1=>es.length=k/\t es n1 P
theorem AmO.called{os:List (Nat × Addr)}{n n':Nat}{rho:Rho}{sg:St}{H H':Hp}{ds:List D}{vs:List V}(I:AmO A os n rho sg H ds vs)(fr:∀ a o,A.G≠some a->H a=some o->H' a=some o)(st:StOk A.G n' H'):AmO A os n' rho sg H' ds vs:=by
 have hf:∀ b u,¬ Zof A os b->H b=some u->H' b=some u:=fun b u nz e=>fr b u (fun z=>nz (.inl (I.gz b z))) e
 have no:∀ p∈os,A.G≠some p.2:=fun p hp e=>(I.fresh p hp).2.1 (I.gz _ e)
 refine⟨I.len,fun j c e=>?_,Reps.mono (fun _ _ w=>w) hf _ _ I.pend,I.nd,fun q hq=>?_,st,I.gz,fun b u h e=>fr b u h (I.fr b u h e),I.z0⟩
 ·obtain ⟨u, e1, e2⟩ := I.slot j c e
  exact⟨u,e1,SlotR.mono (fun _ _ w=>w) hf (fun b ys m q=>⟨m,fr _ _ (no _ m) q⟩) _ _ e2⟩
 ·obtain ⟨f1, f2, f3⟩ := I.fresh q hq
  exact⟨f1,f2,f3.of fun u z=>fr _ _ (no q hq) z⟩
theorem pd_call{x:Str}{f:Addr}{fd:FuncData}{ps:List Str}{t:TF}{kk k:Nat}(F:FnOk X.prog X.w X.K X.mg X.base CX0 kk f fd ps (spD X.K k t))(hr:Room kk X.A)(hm:X.mg x=some (.ref f))(hk:W.keepIn X.K (.ref f)=true)(hb:Binds X.K fd ps [])(hK:X.K=A.K)
  (ha:PAD A X (e::es) t1) (hg:Gl X x:=by rfl) (hdb:(x == ("__debug__" : Str))=false:=by decide) (he:starEach (e::es) X.env=(false,eval e X.env)::starEach es X.env:=by rfl) (hpl:(backTo pos (starEach es X.env)).any (·.1)=false:=by rfl) :
  PD A X (.Call (.Name x p) (e::es) [] pos) (dFn k t t1):=by
 with_unfolding_all
  exact(pe_call F hr hg hm hk hb .nil pass0 ha hdb he hpl).imp fun sg H Q h=>by
   obtain⟨rho,n,R,ds,vs,I,ht,hQ⟩:=h
   refine⟨rho,n,_,ds,vs,I,ht,fun ws H' n' es' ⟨os,J⟩ hl k=>?_⟩
   obtain⟨J1,rs⟩:=J.split hl
   rw[append_nil,hK]
   refine⟨A.G,Zof A os,n',R,es',k.1,rs,J1.st,fun a z=>.inl (J1.gz a z),J1.zO,k.2,fun v H2 n2 d fr st r q=>hQ v H2 n2 d ⟨os,(J1.called fr st).push r⟩ q⟩
end
end L2
namespace L2
section
variable {A:AC} {X:Cx} {tg a:Expr} {ta:TD} {pos p:Pos}
def iSeq2(K:W.Frag)(tl:TE):TI:=fun sg H R=>tl sg H fun x H1=>∃ l,x=.ref l/\(((∃ xs,SqL K H1 l xs)/\R (Itl K l) H1)\/((∃ xs,SqT K H1 l xs)/\R (Itt K l) H1))
theorem pi_seq2{l:Expr}{tl:TE}(hl:PE X l tl):PI X tg l (iSeq2 X.K tl):=by
 intro pins s sg H R I h
 refine thn (hl pins s sg H _ I h) fun v s1 ⟨x,H1,I1,r1,q1⟩=>?_
 obtain⟨c,e,q1⟩:=q1
 subst e
 cases r1
 have new:∀ b∈[s1.heap.objs.size],FpOk X pins H1 b:=fun b hb=>by
  obtain rfl:b=s1.heap.objs.size:=by simpa using hb
  exact I1.fpOk (Nat.le_refl _) (I1.hok.fresh (Nat.le_refl _))
 rcases q1 with ⟨⟨xs,hq⟩,q⟩ | ⟨⟨xs,hq⟩,q⟩
 ·obtain ⟨its, rv, pl, hz⟩ := I1.list hq
  exact wpAny_pyIter_list pl.isList ⟨s1.heap.objs.size,[s1.heap.objs.size],_,_,H1,rfl,I1.kept (t':=s1.toks) fun b o e=>Heap.get?_push_of_some _ e,turn_list c _,⟨_,Heap.get?_push_size _ rfl,rfl,rfl⟩,new,q⟩
 ·obtain ⟨its, rv, pl, hz⟩ := I1.tuple hq
  exact wpAny_pyIter_tuple (show s1.heap.IsTuple c its.toArray from pl) ⟨s1.heap.objs.size,[s1.heap.objs.size],_,_,H1,rfl,I1.kept (t':=s1.toks) fun b o e=>Heap.get?_push_of_some _ e,turn_tuple c _,⟨_,Heap.get?_push_size _ rfl,rfl,rfl⟩,new,q⟩
def iSeqD(ta:TD):TID:=fun rho n P=>ta rho n fun d n1=>∃ es,(d=.lst es\/d=.tup es)/\P es n1
theorem xj(hK:X.K=A.K)(ha:PD A X a ta):PID A X tg a (iSeqD ta):=by
 with_unfolding_all
  exact(pi_seq2 ha).imp fun sg H R h=>by
   obtain⟨rho,n,P,ds,vs,I,ht,hQ⟩:=h
   refine⟨rho,n,_,ds,vs,I,ht,fun v H' n' d ⟨os,J⟩ k=>?_⟩
   obtain⟨es,hd,k⟩:=k
   have r:=J.pop.2
   rw[hK]
   rcases hd with rfl | rfl
   ·obtain ⟨l, xs, rfl, sq, rs⟩ := r.lst_inv
    refine⟨l,rfl,.inl ⟨⟨xs,sq.sq⟩,hQ _ H' n' es [.lst es] [.ref l] ⟨os,J⟩ rfl (fun n2 rho2 sg2 H2 ds2 vs2 i ⟨os2,I2⟩=>?_) k⟩⟩
    obtain⟨I3,r2⟩:=AmO.pop (d:=.lst es) (v:=.ref l) (ds:=ds2) (vs:=vs2) I2
    obtain⟨l',xs2,e,sq2,rs2⟩:=r2.lst_inv
    cases e
    refine⟨fun d e=>?_,fun hi=>⟨xs2,sq2.sq,by rw[rs2.length];exact hi⟩⟩
    obtain⟨v,e1,rv⟩:=rs2.get e
    refine⟨⟨xs2,v,sq2.sq,e1⟩,fun x H3 y=>?_⟩
    obtain⟨e3,y⟩:=y
    subst e3
    have e4:=y xs2 sq2.sq
    rw[e1] at e4;cases e4
    exact⟨os2,I2.push rv⟩
   ·obtain ⟨l, xs, rfl, sq, rs⟩ := r.tup_inv
    refine⟨l,rfl,.inr ⟨⟨xs,sq.sq⟩,hQ _ H' n' es [.tup es] [.ref l] ⟨os,J⟩ rfl (fun n2 rho2 sg2 H2 ds2 vs2 i ⟨os2,I2⟩=>?_) k⟩⟩
    obtain⟨I3,r2⟩:=AmO.pop (d:=.tup es) (v:=.ref l) (ds:=ds2) (vs:=vs2) I2
    obtain⟨l',xs2,e,sq2,rs2⟩:=r2.tup_inv
    cases e
    refine⟨fun d e=>?_,fun hi=>⟨xs2,sq2.sq,by rw[rs2.length];exact hi⟩⟩
    obtain⟨v,e1,rv⟩:=rs2.get e
    refine⟨⟨xs2,v,sq2.sq,e1⟩,fun x H3 y=>?_⟩
    obtain⟨e3,y⟩:=y
    subst e3
    have e4:=y xs2 sq2.sq
    rw[e1] at e4;cases e4
    exact⟨os2,I2.push rv⟩
end
structure Fn(P:Program)(w:World)(K:W.Frag)(mg:Str->Option Value)(base:Heap)(x:Str)(kk k:Nat)(t:TF):Prop where
 ex:∃ (f:Addr) (fd:FuncData) (ps:List Str),FnOk P w K mg base CX0 kk f fd ps (spD K k t)/\mg x=some (.ref f)/\W.keepIn K (.ref f)=true/\Binds K fd ps []
theorem zX{A:AC}{X:Cx}{e:Expr}{es:List Expr}{t1:TAD}{pos p:Pos}{x:Str}{t:TF}{kk k:Nat}(F:Fn X.prog X.w X.K X.mg X.base x kk k t)(hr:Room kk X.A)(hK:X.K=A.K)
  (ha:PAD A X (e::es) t1) (hg:Gl X x:=by rfl) (hdb:(x == ("__debug__" : Str))=false:=by decide) (he:starEach (e::es) X.env=(false,eval e X.env)::starEach es X.env:=by rfl) (hpl:(backTo pos (starEach es X.env)).any (·.1)=false:=by rfl) :
  PD A X (.Call (.Name x p) (e::es) [] pos) (dFn k t t1):=by
 with_unfolding_all
  exact(by
   obtain⟨f,fd,ps,h1,h2,h3,h4⟩:=F.ex
   exact pd_call h1 hr h2 h3 h4 hK ha hg hdb he hpl)
structure Blt(mg:Str->Option Value):Prop where
 len:mg "len" = none
 abs:mg "abs" = none
 all:mg "all" = none
 any:mg "any" = none
 isi:mg "isinstance" = none
 int:mg "int" = none
 bool:mg "bool" = none
 str:mg "str" = none
 tuple:mg "tuple" = none
 list:mg "list" = none
 range:mg "range" = none
 zip:mg "zip" = none
 enum:mg "enumerate" = none
 max:mg "max" = none
 min:mg "min" = none
 sorted:mg "sorted" = none
theorem bt_len:bootBuiltins "len" = some (.builtin "len"):=by decide +kernel
theorem bt_abs:bootBuiltins "abs" = some (.builtin "abs"):=by decide +kernel
theorem bt_any:bootBuiltins "any" = some (.builtin "any"):=by decide +kernel
theorem bt_int:bootBuiltins "int" = some (.type "int"):=by decide +kernel
theorem bt_tuple:bootBuiltins "tuple" = some (.type "tuple"):=by decide +kernel
theorem bt_list:bootBuiltins "list" = some (.type "list"):=by decide +kernel
end L2
namespace L2
def isB(d:D)(p:Bool->Prop):Prop:=∃ c,d=.bl c/\p c
@[simp] theorem q_isB{b:Bool}{p:Bool->Prop}:isB (.bl b) p↔p b:=⟨fun⟨_,e,h⟩=>by cases e;exact h,fun h=>⟨_,rfl,h⟩⟩
@[simp] theorem q_sNext{F rho n}:sNext F rho n=F.nx rho n:=rfl
@[simp] theorem q_sSeq{t u F rho n}:sSeq t u F rho n=t { F with nx:=u F } rho n:=rfl
@[simp] theorem q_sRet{te F rho n}:sRet te F rho n=te rho n F.rt:=rfl
@[simp] theorem q_sIf{c t u F rho n}:sIf c t u F rho n=c rho n fun b n1=>if b=true then t F rho n1 else u F rho n1:=rfl
@[simp] theorem q_sSet{i te F rho n}:sSet i te F rho n=(i<rho.length/\te rho n fun d n1=>F.nx (rho.set i (some d)) n1):=rfl
@[simp] theorem q_sUnp{te g F rho n}:sUnp te g F rho n=te rho n fun d n1=>g d rho fun rho'=>F.nx rho' n1:=rfl
@[simp] theorem q_sOwn{i t F rho n}:sOwn i t F rho n=(i<rho.length/\t rho n fun es n1=>es.length<=sizeLine/\F.nx (rho.set i (some (.own es))) n1):=rfl
@[simp] theorem q_sDrop{te F rho n}:sDrop te F rho n=te rho n fun _ n1=>F.nx rho n1:=rfl
@[simp] theorem q_sFrz{i t F rho n}:sFrz i t F rho n=∃ es,rho[i]?=some (some (.own es))/\t F (rho.set i (some (.lst es))) n:=rfl
@[simp] theorem q_sAppend{i t F rho n}:sAppend i t F rho n=∃ es,rho[i]?=some (some (.own es))/\es.length<sizeLine/\t rho n fun ds n1=>∃ d,ds=[d]/\F.nx (rho.set i (some (.own (es++[d])))) n1:=rfl
@[simp] theorem q_gdName{i d rho P}:gdName i d rho P=(i<rho.length/\P (rho.set i (some d))):=rfl
@[simp] theorem q_dVar{i rho n P}:dVar i rho n P=atV rho[i]? fun d=>P d n:=rfl
@[simp] theorem q_atV{d k}:atV (some (some d)) k=atD d k:=rfl
@[simp] theorem q_atD1{k}:atD .non k=k .non:=rfl
@[simp] theorem q_atD2{k b}:atD (.bl b) k=k (.bl b):=rfl
@[simp] theorem q_atD3{k b}:atD (.int b) k=k (.int b):=rfl
@[simp] theorem q_atD4{k b}:atD (.str b) k=k (.str b):=rfl
@[simp] theorem q_atD5{k b}:atD (.tup b) k=k (.tup b):=rfl
@[simp] theorem q_atD6{k b}:atD (.lst b) k=k (.lst b):=rfl
@[simp] theorem q_atD7{k b}:atD (.fz b) k=k (.fz b):=rfl
@[simp] theorem q_atD8{k}:atD .st k=k .st:=rfl
@[simp] theorem q_atD9{k a b}:atD (.dct a b) k=k (.dct a b):=rfl
@[simp] theorem q_atD{d k}(h:zn d=true):atD d k=k d:=propext ⟨fun z=>(atD_inv z).2,atD_mk h⟩
@[simp] theorem q_dC{d rho n P}:dC d rho n P=P d n:=rfl
@[simp] theorem q_dOp{rd ta tb rho n P}:dOp rd ta tb rho n P=ta rho n fun d1 n1=>tb rho n1 fun d2 n2=>rd d1 d2 fun d=>P d n2:=rfl
@[simp] theorem q_dTest{t rho n P}:dTest t rho n P=t rho n fun d n'=>isB d fun b=>P b n':=rfl
@[simp] theorem q_rdIsN{d1 d2 k}:rdIsN d1 d2 k=(d2=.non/\k (.bl (isNon d1))):=rfl
@[simp] theorem q_rdNotN{d1 d2 k}:rdNotN d1 d2 k=(d2=.non/\k (.bl (!isNon d1))):=rfl
@[simp] theorem q_bAnd{t u rho n P}:bAnd t u rho n P=t rho n fun c n1=>if c=true then u rho n1 P else P false n1:=rfl
@[simp] theorem q_bOr{t u rho n P}:bOr t u rho n P=t rho n fun c n1=>if c=true then P true n1 else u rho n1 P:=rfl
@[simp] theorem q_bNot{t rho n P}:bNot t rho n P=t rho n fun c n1=>P (!c) n1:=rfl
@[simp] theorem q_bYes{rho n P}:bYes rho n P=P true n:=rfl
@[simp] theorem q_dAnd{ta tb rho n P}:dAnd ta tb rho n P=ta rho n fun d n1=>isB d fun c=>if c=true then tb rho n1 P else P (.bl false) n1:=rfl
@[simp] theorem q_dOr{ta tb rho n P}:dOr ta tb rho n P=ta rho n fun d n1=>isB d fun c=>if c=true then P (.bl true) n1 else tb rho n1 P:=rfl
@[simp] theorem q_dNot{ta rho n P}:dNot ta rho n P=ta rho n fun d n1=>isB d fun c=>P (.bl (!c)) n1:=rfl
@[simp] theorem q_dIf{t ta tb rho n P}:dIf t ta tb rho n P=t rho n fun c n1=>if c=true then ta rho n1 P else tb rho n1 P:=rfl
@[simp] theorem q_aNil{rho n P}:aNil rho n P=P [] n:=rfl
@[simp] theorem q_aCons{t r rho n P}:aCons t r rho n P=t rho n fun d n1=>r rho n1 fun ds n2=>P (d::ds) n2:=rfl
@[simp] theorem q_dTup{t rho n P}:dTup t rho n P=t rho n fun ds n1=>ds.length<=sizeLine/\P (.tup ds) n1:=rfl
@[simp] theorem q_dLst{t rho n P}:dLst t rho n P=t rho n fun ds n1=>ds.length<=sizeLine/\P (.lst ds) n1:=rfl
@[simp] theorem q_dCall{rd t rho n P}:dCall rd t rho n P=t rho n fun es n1=>rd es fun d=>P d n1:=rfl
@[simp] theorem q_dFn{k t t1 rho n P}:dFn k t t1 rho n P=t1 rho n fun es n1=>es.length=k/\t es n1 P:=rfl
@[simp] theorem q_iSeqD{ta rho n P}:iSeqD ta rho n P=ta rho n fun d n1=>∃ es,(d=.lst es\/d=.tup es)/\P es n1:=rfl
@[simp] theorem q_iRngD{t rho n P}:iRngD t rho n P=t rho n fun es n1=>∃ j:Int,es=[.int j]/\-(2^62)<=j/\j<2^62/\P (rngD 0 j.toNat) n1:=rfl
@[simp] theorem q_iEnumD{t rho n P}:iEnumD t rho n P=t rho n fun es n1=>∃ fs,es=[.lst fs]/\P (enumD fs) n1:=rfl
@[simp] theorem q_dSlL{lo hi ta rho n P}:dSlL lo hi ta rho n P=ta rho n fun d n1=>∃ fs,(d=.lst fs\/d=.fz fs)/\P (.lst (cutL fs lo hi)) n1:=rfl
@[simp] theorem q_gdNil{rho P}:gdNil [] rho P↔P rho:=⟨fun h=>h.2,fun h=>⟨rfl,h⟩⟩
@[simp] theorem q_gdCons{g gs d r rho P}:gdCons g gs (d::r) rho P↔g d rho fun rho'=>gs r rho' P:=⟨fun⟨_,_,e,h⟩=>by cases e;exact h,fun h=>⟨_,_,rfl,h⟩⟩
@[simp] theorem q_gdTup{k gs es rho P}:gdTup k gs (.tup es) rho P↔(es.length=k/\gs es rho P):=⟨fun⟨_,e,h⟩=>by cases e;exact h,fun h=>⟨_,rfl,h⟩⟩
@[simp] theorem q_rdI{C g i j k}:rdI C g (.int i) (.int j) k=(C i j/\k (g i j)):=rfl
@[simp] theorem q_rdI0{g i j k}:rdI0 g (.int i) (.int j) k=k (g i j):=rfl
@[simp] theorem q_rdB{f c d k}:rdB f (.bl c) (.bl d) k=k (.bl (f c d)):=rfl
@[simp] theorem q_rdIxL{es i k}:rdIx (.lst es) (.int i) k↔∃ d,atI es i=some d/\k d:=⟨fun⟨_,_,d,e,e',h⟩=>by cases e' ;rcases e with e | e | e<;>cases e;exact⟨d,h⟩,fun⟨d,h⟩=>⟨_,_,d,.inl rfl,rfl,h⟩⟩
@[simp] theorem q_rdIxT{es i k}:rdIx (.tup es) (.int i) k↔∃ d,atI es i=some d/\k d:=⟨fun⟨_,_,d,e,e',h⟩=>by cases e' ;rcases e with e | e | e<;>cases e;exact⟨d,h⟩,fun⟨d,h⟩=>⟨_,_,d,.inr (.inl rfl),rfl,h⟩⟩
@[simp] theorem q_rdIxF{es i k}:rdIx (.fz es) (.int i) k↔∃ d,atI es i=some d/\k d:=⟨fun⟨_,_,d,e,e',h⟩=>by cases e' ;rcases e with e | e | e<;>cases e;exact⟨d,h⟩,fun⟨d,h⟩=>⟨_,_,d,.inr (.inr rfl),rfl,h⟩⟩
@[simp] theorem q_rdCat{es fs k}:rdCat (.lst es) (.lst fs) k↔(es.length+fs.length<=sizeLine/\k (.lst (es++fs))):=⟨fun⟨_,_,e,e',h⟩=>by cases e;cases e';exact h,fun h=>⟨_,_,rfl,rfl,h⟩⟩
@[simp] theorem q_rdRepT{es i k}:rdRepT (.tup es) (.int i) k↔(es≠[]/\1<=i/\es.length*i.toNat<=sizeLine/\k (.tup (replicate i.toNat es).flatten)):=⟨fun⟨_,_,e,e',h⟩=>by cases e;cases e';exact h,fun h=>⟨_,_,rfl,rfl,h⟩⟩
def pair2(es:List D)(p:D->D->Prop):Prop:=∃ d d',es=[d,d']/\p d d'
@[simp] theorem q_pair2{a b p}:pair2 [a,b] p↔p a b:=⟨fun⟨_,_,e,h⟩=>by cases e;exact h,fun h=>⟨_,_,rfl,h⟩⟩
@[simp] theorem q_sPar{i j t F rho n}:sPar i j t F rho n=(i<rho.length/\j<rho.length/\t rho n fun es n1=>pair2 es fun d d'=>F.nx ((rho.set i (some d)).set j (some d')) n1):=rfl
@[simp] theorem q_rdEqI{i j:Int}{k}:rdEq (.int i) (.int j) k↔k (.bl (decide (i=j))):=by
 have e:decide (ofS (.int i)=ofS (.int j))=decide (i=j):=by simp[ofS]
 unfold rdEq
 rw[e]
 exact⟨fun h=>h.2.2.2,fun h=>⟨rfl,rfl,rfl,h⟩⟩
@[simp] theorem q_rdEqB{i j:Bool}{k}:rdEq (.bl i) (.bl j) k↔k (.bl (decide (i=j))):=by
 have e:decide (ofS (.bl i)=ofS (.bl j))=decide (i=j):=by simp[ofS]
 unfold rdEq
 rw[e]
 exact⟨fun h=>h.2.2.2,fun h=>⟨rfl,rfl,rfl,h⟩⟩
@[simp] theorem q_rdNeI{i j:Int}{k}:rdNe (.int i) (.int j) k↔k (.bl (!decide (i=j))):=by
 have e:decide (ofS (.int i)=ofS (.int j))=decide (i=j):=by simp[ofS]
 unfold rdNe
 rw[e]
 exact⟨fun h=>h.2.2.2,fun h=>⟨rfl,rfl,rfl,h⟩⟩
@[simp] theorem q_rdNeB{i j:Bool}{k}:rdNe (.bl i) (.bl j) k↔k (.bl (!decide (i=j))):=by
 have e:decide (ofS (.bl i)=ofS (.bl j))=decide (i=j):=by simp[ofS]
 unfold rdNe
 rw[e]
 exact⟨fun h=>h.2.2.2,fun h=>⟨rfl,rfl,rfl,h⟩⟩
@[simp] theorem q_kLenL{fs k}:kLen [.lst fs] k↔k (.int fs.length):=⟨fun⟨_,e,h⟩=>by rcases e with e | e | e<;>cases e;exact h,fun h=>⟨_,.inl rfl,h⟩⟩
@[simp] theorem q_kLenT{fs k}:kLen [.tup fs] k↔k (.int fs.length):=⟨fun⟨_,e,h⟩=>by rcases e with e | e | e<;>cases e;exact h,fun h=>⟨_,.inr (.inl rfl),h⟩⟩
@[simp] theorem q_kLenF{fs k}:kLen [.fz fs] k↔k (.int fs.length):=⟨fun⟨_,e,h⟩=>by rcases e with e | e | e<;>cases e;exact h,fun h=>⟨_,.inr (.inr rfl),h⟩⟩
@[simp] theorem q_kAbs{i k}:kAbs [.int i] k↔k (.int (if i<0 then -i else i)):=⟨fun⟨_,e,h⟩=>by cases e;exact h,fun h=>⟨_,rfl,h⟩⟩
@[simp] theorem q_kIntB{i k}:kIntB [.bl i] k↔k (.int (if i then 1 else 0)):=⟨fun⟨_,e,h⟩=>by cases e;exact h,fun h=>⟨_,rfl,h⟩⟩
@[simp] theorem q_kTupleL{fs k}:kTuple [.lst fs] k↔k (.tup fs):=⟨fun⟨_,e,h⟩=>by rcases e with e | e<;>cases e;exact h,fun h=>⟨_,.inl rfl,h⟩⟩
@[simp] theorem q_kTupleT{fs k}:kTuple [.tup fs] k↔k (.tup fs):=⟨fun⟨_,e,h⟩=>by rcases e with e | e<;>cases e;exact h,fun h=>⟨_,.inr rfl,h⟩⟩
@[simp] theorem q_kListL{fs k}:kList [.lst fs] k↔k (.lst fs):=⟨fun⟨_,e,h⟩=>by rcases e with e | e<;>cases e;exact h,fun h=>⟨_,.inl rfl,h⟩⟩
@[simp] theorem q_kListT{fs k}:kList [.tup fs] k↔k (.lst fs):=⟨fun⟨_,e,h⟩=>by rcases e with e | e<;>cases e;exact h,fun h=>⟨_,.inr rfl,h⟩⟩
@[simp] theorem q_dStIx{i tb rho n P}:dStIx i tb rho n P=(rho[i]?=some (some .st)/\tb rho n fun d n1=>∃ j:Int,d=.int j/\0<=j/\j<n1/\∀ z:Int,0<=z->(j=1->z<2147483647)->P (.int z) n1):=rfl
@[simp] theorem q_sStSet{i te tb F rho n}:sStSet i te tb F rho n=(rho[i]?=some (some .st)/\te rho n fun d n1=>tb rho n1 fun d2 n2=>∃ j z:Int,d=.int z/\d2=.int j/\0<=j/\j<n2/\0<=z/\(j=1->z<2147483647)/\F.nx rho n2):=rfl
@[simp] theorem q_no1:zn .non=true:=rfl
@[simp] theorem q_no2{b}:zn (.bl b)=true:=rfl
@[simp] theorem q_no3{b}:zn (.int b)=true:=rfl
@[simp] theorem q_no4{b}:zn (.str b)=true:=rfl
@[simp] theorem q_no5{b}:zn (.tup b)=true:=rfl
@[simp] theorem q_no6{b}:zn (.lst b)=true:=rfl
@[simp] theorem q_no7:zn .st=true:=rfl
@[simp] theorem q_no8{b}:zn (.fz b)=true:=rfl
@[simp] theorem q_in1:isNon .non=true:=rfl
@[simp] theorem q_in2{b}:isNon (.bl b)=false:=rfl
@[simp] theorem q_in3{b}:isNon (.int b)=false:=rfl
@[simp] theorem q_in4{b}:isNon (.str b)=false:=rfl
@[simp] theorem q_in5{b}:isNon (.tup b)=false:=rfl
@[simp] theorem q_in6{b}:isNon (.lst b)=false:=rfl
@[simp] theorem q_so1{b}:seqOf (.lst b)=some (true,b):=rfl
@[simp] theorem q_so2{b}:seqOf (.tup b)=some (false,b):=rfl
@[simp] theorem q_size0:(0<=sizeLine)=True:=by simp
@[simp] theorem q_size1:(1<=sizeLine)=True:=by simp[sizeLine]
@[simp] theorem q_size2:(2<=sizeLine)=True:=by simp[sizeLine]
@[simp] theorem q_size3:(3<=sizeLine)=True:=by simp[sizeLine]
@[simp] theorem q_size4:(4<=sizeLine)=True:=by simp[sizeLine]
@[simp] theorem q_size5:(5<=sizeLine)=True:=by simp[sizeLine]
@[simp] theorem q_size6:(6<=sizeLine)=True:=by simp[sizeLine]
@[simp] theorem q_size7:(7<=sizeLine)=True:=by simp[sizeLine]
theorem zM{k:Nat}(h:k<=1000:=by decide):k<=sizeLine:=Nat.le_trans h (by decide)
theorem lt_size{k:Nat}(h:k<=1000:=by decide):k<sizeLine:=Nat.lt_of_le_of_lt h (by decide)
def compIn(own:Nat)(g:TGD)(tt:TBD)(te:TD)(rho:Rho)(P:D->Nat->Prop)(items:List D)(n1:Nat):Prop:=items.length<=sizeLine/\∃ J:Nat->List D->Nat->Prop,J 0 [] n1 /\
 (∀ i d acc n,items[i]?=some d->J i acc n->g d (replicate own none++rho) fun rho'=>rho'.drop own=rho/\tt rho' n fun c n2=>if c=true then te rho' n2 fun e n3=>J (i+1) (acc++[e]) n3 else J (i+1) acc n2) /\
 ∀ acc n,J items.length acc n->P (.lst acc) n
@[simp] theorem q_dComp{it own g tt te rho n P}:dComp it own g tt te rho n P=it rho n (compIn own g tt te rho P):=rfl
def loopIn(g:TGD)(tb:TSD)(F:EndsD)(rho:Rho)(items:List D)(n1:Nat):Prop:=∃ J:Nat->Rho->Nat->Prop,J 0 rho n1 /\
 (∀ i d rho n,items[i]?=some d->J i rho n->g d rho fun rho'=>tb { F with nx:=J (i+1),ct:=J (i+1),bk:=F.nx } rho' n)/\∀ rho n,J items.length rho n->F.nx rho n
@[simp] theorem q_sFor{it g tb F rho n}:sFor it g tb F rho n=it rho n (loopIn g tb F rho):=rfl
theorem comp_map{it:TID}{own:Nat}{g:TGD}{te:TD}{rho:Rho}{n:Nat}{P:D->Nat->Prop}{α:Type}(enc:α->D)(f:α->D)(xs:List α)
  (hi:∀ R,R (xs.map enc) n->it rho n R) (hz:xs.length<=sizeLine) (he:∀ x∈xs,∀ Q,Q (f x) n->g (enc x) (replicate own none++rho) fun rho'=>rho'.drop own=rho/\te rho' n Q) (hP:P (.lst (xs.map f)) n):dComp it own g bYes te rho n P:=by
 refine hi _ ⟨by simpa using hz,fun i acc n'=>n'=n/\acc=(xs.take i).map f,⟨rfl,rfl⟩,?_,?_⟩
 ·rintro i d acc n' e ⟨rfl, rfl⟩
  rw[getElem?_map] at e
  cases q:xs[i]? with
  | none=>rw[q] at e;cases e
  | some x =>
   rw[q] at e
   cases e
   have hm:x∈xs:=mem_of_getElem? q
   refine he x hm (fun e n3=>n3=n'/\(xs.take i).map f++[e]=(xs.take (i+1)).map f) ⟨rfl,?_⟩
   rw[take_add_one,q]
   simp
 ·rintro acc n' ⟨rfl, rfl⟩
  rw[length_map,take_length]
  exact hP
end L2
namespace L2
theorem atI_lt{α:Type}{xs:List α}{i:Int}(h0:0<=i)(h1:i<xs.length):∃ d,atI xs i=some d/\d∈xs:=by
 obtain⟨k,rfl⟩:=Int.eq_ofNat_of_zero_le h0
 have hk:k<xs.length:=by lia
 exact⟨xs[k],xm (by simp[hk]),getElem_mem hk⟩
@[simp] theorem q_at0{α:Type}{a:α}{l:List α}:atI (a::l) 0=some a:=xm (j:=0) rfl
@[simp] theorem q_at1{α:Type}{a b:α}{l:List α}:atI (a::b::l) 1=some b:=xm (j:=1) rfl
@[simp] theorem q_at2{α:Type}{a b c:α}{l:List α}:atI (a::b::c::l) 2=some c:=xm (j:=2) rfl
@[simp] theorem q_ownAt{es p}:ownAt (some (some (.own es))) p↔p es:=⟨fun⟨_,e,h⟩=>by cases e;exact h,fun h=>⟨_,rfl,h⟩⟩
@[simp] theorem q_dOwnIx{i tb rho n P}:dOwnIx i tb rho n P=ownAt rho[i]? fun es=>tb rho n fun d n1=>∃ j c,d=.int j/\atI es j=some c/\P c n1:=rfl
@[simp] theorem q_sOwnSet{i te tb F rho n}:sOwnSet i te tb F rho n=ownAt rho[i]? fun es=>te rho n fun d n1=>tb rho n1 fun d2 n2=>∃ j m,d2=.int j/\ixN es.length j=some m/\F.nx (rho.set i (some (.own (es.set m d)))) n2:=rfl
@[simp] theorem q_ix30:ixN 3 0=some 0:=rfl
@[simp] theorem q_ix31:ixN 3 1=some 1:=rfl
@[simp] theorem q_ix32:ixN 3 2=some 2:=rfl
end L2
namespace L2
def OnlyC(H:Hp):Prop:=∀ b,H b=none\/(∃ o xs,H b=some (.frz o (.lst xs)))\/∃ q,H b=some (.cot q)
def spLawD(K:W.Frag):Sp:=fun vs H Q _=>∃ (a:Addr) (ns:List Int),vs=[.ref a]/\OnlyC H/\SqL K H a (ns.map V.int)/\ns.length<=63/\(∀ P q,TabIs K P q->H P=some (.cot q))/\∀ H',(∀ P q,H P=some (.cot q)->H' P=some (.cot q))->Q (.bl true) H'
def zp(ns:List Int):D:=.fz (ns.map D.int)
def onlyRho(ns:List Int)(N:Nat):Rho:=some (zp ns)::replicate (N-1) none
def midRho(ns:List Int)(i N:Nat):Rho:=(onlyRho ns N).set i (some .st)
theorem reps_ints{K:W.Frag}{G:Option Addr}{Z:Addr->Prop}{H:Hp}:∀ {ns:List Int},Reps K G Z H (ns.map D.int) (ns.map V.int)
 | []=>.nil
 | n::ns=>.cons (Rep.ofS (d:=.int n) rfl) reps_ints
theorem reps_ints_inv{K:W.Frag}{G:Option Addr}{Z:Addr->Prop}{H:Hp}:∀ {ns:List Int} {xs:List V},Reps K G Z H (ns.map D.int) xs->xs=ns.map V.int
 | [],xs,h=>by unfold Reps at h;exact h
 | n::ns,xs,h=>by
  obtain⟨v,r,rfl,h1,h2⟩:=Reps.split h
  rw[h1.int_inv,reps_ints_inv h2];rfl
section
variable {P:Program} {w:World} {K:W.Frag} {mg:Str->Option Value} {base:Heap}
theorem Fun.okLaw{x qual:Str}{st:Stmt}{f:Addr}{fd:FuncData}{N:List Str}{p:Str}{k:Nat}{t:TSD}(F:Fun K x qual st f fd)(S:FnScope N [p] (zi st))(n0:Nat)
  (body : ∀ (cdv : Value) (A0 : Around) (outer : List Env) (s : Shared) (H : Hp) (E : XK), Room k (A0.deeper (envOfC qual (zi st) s.heap.objs.size f cdv)) ->
   PSsD ⟨K,none,fun _=>False,H⟩ (cxOf CX0 P w K mg base N qual (zi st) f cdv A0 outer s H E).nox (defBody st) t)
  (h1:∀ (ns:List Int),ns.length<=63->t { nx:=fun _ _=>False,rt:=fun d _=>d=.bl true } (startD N [zp ns]) n0):FnOk P w K mg base CX0 (k+1) f fd [p] (spLawD K):=by
 with_unfolding_all
  exact(by
   refine F.ok S (fun vs H Q E h=>?_) (fun cdv A0 outer s H vs Q E hr h=>?_)
   ·obtain ⟨a, ns, rfl, _⟩ := h
    rfl
   ·obtain ⟨a, ns, rfl, hO, hS, hl, hT, k⟩ := h
    refine⟨_,body cdv A0 outer s H E hr,?_⟩
    have rs:Reps K none (fun _=>False) H [zp ns] [.ref a]:=by
     refine .cons ?_ .nil
     unfold zp Rep
     refine⟨a,ns.map V.int,rfl,?_,reps_ints⟩
     rcases hS with (q | ⟨o,q⟩) | q
     ·rcases hO a with z | ⟨o, xs, z⟩ | ⟨o, z⟩
      ·rw[z] at q;cases q
      ·rw[z] at q;cases q
      ·rw[z] at q;cases q
     ·exact .inl ⟨fun z=>z,o,q⟩
     ·exact .inr (.inr q)
    refine⟨startD N [zp ns],n0,_,[],[],⟨[],amo_start rs (fun b e=>by cases e) (fun b e=>by cases e) ⟨fun b e=>e.elim,fun P q t=>⟨hT P q t,by simp⟩⟩⟩,h1 ns hl,?_⟩
    refine⟨fun _ _ _ _ _ q=>q.elim,fun d n v rho2 sg2 H2 ⟨os2,I2⟩ q=>?_,fun _ _ _ _ _ q=>q.elim,fun _ _ _ _ _ q=>q.elim⟩
    subst q
    rw[I2.pop.2.bl_inv]
    exact k H2 fun P q e=>I2.fr P _ (by simp) e)
end
def sNew(i:Nat)(t:TF)(t1:TAD)(t2:TSD):TSD:=fun F rho n=>∃ ns:List Int,i<rho.length/\i≠0/\rho[0]?=some (some (zp ns))/\t1 rho n fun es n1=>∃ j:Int,es=[zp ns,.int j]/\n1=n/\t es n fun d n2=>∃ zs:List Int,d=.lst (zs.map D.int)/\zs.length=n/\(∀ x∈zs,0<=x)/\(∀ x,zs[1]?=some x->x<2147483647) /\
 t2 { nx:=fun rho' n'=>n'=n/\rho'.length=rho.length/\rho'[0]?=some (some (zp ns))/\F.nx (onlyRho ns rho.length) n,rt:=fun d n'=>n'=n/\scalD d=true/\F.rt d n,bk:=fun rho' n'=>n'=n/\rho'.length=rho.length/\rho'[0]?=some (some (zp ns))/\F.bk (onlyRho ns rho.length) n,ct:=fun rho' n'=>n'=n/\rho'.length=rho.length/\rho'[0]?=some (some (zp ns))/\F.ct (onlyRho ns rho.length) n } (midRho ns i rho.length) n
@[simp] theorem q_noScript{ns:List Int}:zn (zp ns)=true:=rfl
@[simp] theorem q_lenScript{ns:List Int}{k:D->Prop}:kLen [zp ns] k↔k (.int ns.length):=by unfold zp;simp
theorem new_intro{i:Nat}{t:TF}{t1:TAD}{t2:TSD}{F:EndsD}{rho:Rho}{n:Nat}(ns:List Int)(hi:i<rho.length)(h0:i≠0)(hr:rho[0]?=some (some (zp ns)))(j:Int)(ht:t1 rho n fun es n1=>es=[zp ns,.int j]/\n1=n)
  (ht1:∀ (P P':List D->Nat->Prop),(∀ es n1,P es n1->P' es n1)->t1 rho n P->t1 rho n P')
  (h : t [zp ns, .int j] n fun d n2 => ∃ zs : List Int, d = .lst (zs.map D.int) /\ zs.length = n /\ (∀ x ∈ zs, 0 <= x) /\ (∀ x, zs[1]? = some x -> x < 2147483647) /\
   t2 { nx:=fun rho' n'=>n'=n/\rho'.length=rho.length/\rho'[0]?=some (some (zp ns))/\F.nx (onlyRho ns rho.length) n,rt:=fun d n'=>n'=n/\scalD d=true/\F.rt d n,bk:=fun rho' n'=>n'=n/\rho'.length=rho.length/\rho'[0]?=some (some (zp ns))/\F.bk (onlyRho ns rho.length) n,ct:=fun rho' n'=>n'=n/\rho'.length=rho.length/\rho'[0]?=some (some (zp ns))/\F.ct (onlyRho ns rho.length) n } (midRho ns i rho.length) n):sNew i t t1 t2 F rho n :=
 ⟨ns,hi,h0,hr,ht1 _ _ (fun es n1 ⟨e1,e2⟩=>⟨j,e1,e2,by rw[e1];exact h⟩) ht⟩
section
variable {A:AC} {X:Cx} {e:Expr} {es:List Expr} {t1:TAD} {t2:TSD} {pos p:Pos}
theorem rep_script{K:W.Frag}{G G':Option Addr}{Z Z':Addr->Prop}{H H':Hp}{ns:List Int}{v:V}(h:Rep K G Z H (zp ns) v)(hz:∀ a o u,¬ Z a->H a=some (.frz o u)->¬ Z' a/\H' a=some (.frz o u)):Rep K G' Z' H' (zp ns) v:=by
 unfold zp Rep at h ⊢
 obtain⟨a,xs,rfl,sq,rs⟩:=h
 refine⟨a,xs,rfl,?_,by rw[reps_ints_inv rs];exact reps_ints⟩
 rcases sq with ⟨nz,o,e⟩ | sq
 ·obtain ⟨z1, z2⟩ := hz a o _ nz e
  exact .inl ⟨z1,o,z2⟩
 ·exact .inr sq
theorem pssd_new{x g:Str}{i:Nat}{t:TF}{kk:Nat}{pos' spos:Pos}{rest:List Stmt}(hG:A.G=none)(hN:X.N.Nodup)(hi:X.N[i]?=some x)(hx:Loc X.env.scope x)(F:Fn X.prog X.w X.K X.mg X.base g kk 2 t)(hr:Room kk X.A)(hK:X.K=A.K)
  (ha:PAD A X (e::es) t1) (h2:∀ (c:Addr) (Z:Addr->Prop) (H0:Hp),PSsD ⟨A.K,some c,Z,H0⟩ X rest t2) (hg:Gl X g:=by rfl) (hdb:(g == ("__debug__" : Str))=false:=by decide) (he:starEach (e::es) X.env=(false,eval e X.env)::starEach es X.env:=by rfl) (hpl:(backTo pos (starEach es X.env)).any (·.1)=false:=by rfl)
  (hs:swapsWith (.Call (.Name g p) (e::es) [] pos) (some (.Name x pos')) spos.line X.env=pure false:=by rfl) (hf:X.fn x=true\/X.env.scope.names.lookup x=some .local:=by first | exact .inl rfl | exact .inr rfl | assumption) :
  PSsD A X (.Assign [.Name x pos'] (.Call (.Name g p) (e::es) [] pos) spos::rest) (sNew i t t1 t2):=by
 with_unfolding_all
  exact(by
   obtain⟨f,fd,ps,f1,f2,f3,f4⟩:=F.ex
   have c1:=ps_set (pos:=spos) hN hi hx (pe_call (p:=p) f1 hr hg f2 f3 f4 .nil pass0 ha hdb he hpl) hs hf
   have c2:PSs X rest (fun E' sg' H'=>∃ c Z H0,sOf ⟨A.K,some c,Z,H0⟩ t2 E' sg' H'):=fun pins s' sg' H' D I q=>by
    obtain⟨c,Z,H0,q⟩:=q
    exact h2 c Z H0 pins s' sg' H' D I q
   refine(pss_cons c1 c2).imp fun E sg H h=>?_
   obtain⟨rho,n,F,ds,vs,I,⟨ns,hi',h0,hr0,ht⟩,ok⟩:=h
   refine⟨rho,n,_,ds,vs,I,ht,fun ws H' n' es' ⟨os',J⟩ hl k=>?_⟩
   obtain⟨j,rfl,rfl,k⟩:=k
   obtain⟨J1,rs⟩:=J.split hl
   obtain⟨v1,v2,rfl,r1,r2⟩:=reps2 rs
   have r1':Rep A.K none (fun a=>Hot (H' a)/\¬ ∃ o u,H' a=some (.frz o u)) H' (zp ns) v1:=rep_script r1 fun a o u _ e=>⟨fun z=>z.2 ⟨o,u,e⟩,e⟩
   have r2':Rep A.K none (fun a=>Hot (H' a)/\¬ ∃ o u,H' a=some (.frz o u)) H' (.int j) v2:=by rw[r2.int_inv];exact Rep.ofS (d:=.int j) rfl
   rw[append_nil,hK]
   refine⟨none,fun a=>Hot (H' a)/\¬ ∃ o u,H' a=some (.frz o u),n',_,_,rfl,.cons r1' (.cons r2' .nil),fun b e=>(by cases e),fun b e=>(by cases e),⟨fun b z=>z.1,fun P q t=>⟨(J1.zO.2 P q t).1,by simp⟩⟩,k,fun v H2 n2 d fr st r q=>?_⟩
   obtain⟨zs,rfl,q1,q2,q3,q⟩:=q
   obtain⟨c,xs,rfl,sq,rr⟩:=r.lst_inv
   rw[reps_ints_inv rr] at sq
   have hc:H' c=none:=by
    cases z:H' c with
    | none=>rfl
    | some o =>
     have z2:=fr c o (by simp) z
     rw[sq.2] at z2
     cases z2
     exact absurd ⟨by rw[z];exact Hot.lst,fun⟨o,u,z3⟩=>by rw[z] at z3;cases z3⟩ sq.1
   have ne:∀ {a:Addr} {o:HO},H' a=some o->a≠c:=fun {a o} e h=>by rw[h,hc] at e;cases e
   have back:∀ {os:List (Nat × Addr)} {rho' rho2:Rho} {sg':St} {H3:Hp} {ds3:List D} {vs3:List V},AmO ⟨A.K,some c,fun b=>Zof A os' b\/b=c,H2⟩ os n' rho' sg' H3 ds3 vs3->rho2.length=sg'.length->(∀ j d,rho2[j]?=some (some d)->∃ v,sg'[j]?=some (some v)/\Rep A.K A.G (Zof A []) H3 d v)->AmO A [] n' rho2 sg' H3 ds vs:=fun {os rho' rho2 sg' H3 ds3 vs3} I3 hl2 hs2=>by
    have keep:∀ a o,H' a=some o->H3 a=some o:=fun a o e=>I3.fr a o (fun z=>ne e (Option.some.inj z).symm) (fr a o (by simp) e)
    refine⟨hl2,fun j d e=>?_,?_,.nil,fun p hp=>(by simp at hp),fun b e=>(by rw[hG] at e;cases e),J1.gz,fun a o z e=>keep a o (J1.fr a o z e),J1.z0⟩
    ·obtain ⟨v, e1, e2⟩ := hs2 j d e
     exact⟨v,e1,SlotR.of e2⟩
    ·refine Reps.mono (fun a _ z => ?_) (fun a o _ e => keep a o e) _ _ J1.pend
     rcases z with z | ⟨p,hp,_⟩
     ·exact .inl z
     ·simp at hp
   have scr:∀ {os:List (Nat × Addr)} {rho':Rho} {sg':St} {H3:Hp} {ds3:List D} {vs3:List V},AmO ⟨A.K,some c,fun b=>Zof A os' b\/b=c,H2⟩ os n' rho' sg' H3 ds3 vs3->rho'[0]?=some (some (zp ns))->rho.length=sg'.length->AmO A [] n' (onlyRho ns rho.length) sg' H3 ds vs:=fun {os rho' sg' H3 ds3 vs3} I3 e0 hl3=>by
    refine back I3 (by rw[<- hl3];simp[onlyRho];lia) fun j d e=>?_
    unfold onlyRho at e
    cases j with
    | zero =>
     cases e
     obtain⟨v,e1,e2⟩:=I3.slot 0 _ e0
     have e3:=SlotR.rep (d:=zp ns) rfl e2
     refine⟨v,e1,rep_script e3 fun a o u nz e=>⟨fun z=>nz ?_,e⟩⟩
     rcases z with z | ⟨p,hp,_⟩
     ·exact .inl (.inl (.inl z))
     ·simp at hp
    | succ j =>
     rw[List.getElem?_cons_succ,getElem?_replicate] at e
     split at e<;>cases e
   have hl0:rho.length=sg.length:=J1.len
   refine⟨c,fun b=>Zof A os' b\/b=c,H2,midRho ns i rho.length,n',_,[],[],⟨[],?_⟩,q,?_⟩
   ·refine ⟨by simp [midRho, onlyRho, hl0]; lia, fun j d e => ?_, .nil, .nil, fun p hp => by simp at hp, fun b e => ?_, fun b e => ?_, fun b o _ e => e, ?_⟩
    ·unfold midRho at e
     by_cases hj:j=i
     ·subst hj
      rw[getElem?_set_self (by simp[onlyRho];lia)] at e
      cases e
      exact⟨.ref c,getElem?_set_self (by lia),SlotR.of (by unfold Rep;exact⟨c,rfl,rfl⟩)⟩
     ·rw [List.getElem?_set_ne (Ne.symm hj)] at e
      unfold onlyRho at e
      cases j with
      | zero =>
       cases e
       obtain⟨v,e1,e2⟩:=J1.slot 0 _ hr0
       have e3:=SlotR.rep (d:=zp ns) rfl e2
       refine⟨v,by rw[getElem?_set_ne h0];exact e1,SlotR.of (rep_script e3 fun a o u nz e=>⟨fun z=>?_,fr a _ (by simp) e⟩)⟩
       rcases z with (z | z) | ⟨p,hp,_⟩
       ·exact nz z
       ·exact ne e z
       ·simp at hp
      | succ j =>
       rw[List.getElem?_cons_succ,getElem?_replicate] at e
       split at e<;>cases e
    ·cases e
     exact⟨zs,0,0,sq.2,q1,q2,q3⟩
    ·exact .inr (Option.some.inj e).symm
    ·refine ⟨fun b e => ?_, fun P q t => ⟨fr P _ (by simp) (J1.zO.2 P q t).1, fun z => ne (J1.zO.2 P q t).1 (Option.some.inj z).symm⟩⟩
     rcases e with e | e
     ·exact(J1.zHot b e).of fun o z=>fr b o (by simp) z
     ·show Hot (H2 b)
      rw[e,sq.2];exact Hot.lst
   ·refine ⟨fun rho3 n3 sg3 H3 ⟨os3, I3⟩ q => ?_, fun d n3 v rho3 sg3 H3 ⟨os3, I3⟩ q => ?_, fun rho3 n3 sg3 H3 ⟨os3, I3⟩ q => ?_, fun rho3 n3 sg3 H3 ⟨os3, I3⟩ q => ?_⟩
    ·obtain ⟨rfl, l3, e3, q⟩ := q
     exact ok.nx _ _ _ _ ⟨[],scr I3 e3 (by rw[<- l3];exact I3.len)⟩ q
    ·obtain ⟨rfl, hd, q⟩ := q
     have I4:AmO A [] n3 (replicate sg3.length none) sg3 H3 ds vs:=back I3 (by simp) fun j d e=>by
      rw[getElem?_replicate] at e
      split at e<;>cases e
     refine ok.rt _ _ _ _ _ _ ⟨[],I4.push ?_⟩ q
     rw[I3.pop.2.toS hd]
     exact Rep.ofS hd
    ·obtain ⟨rfl, l3, e3, q⟩ := q
     exact ok.bk _ _ _ _ ⟨[],scr I3 e3 (by rw[<- l3];exact I3.len)⟩ q
    ·obtain ⟨rfl, l3, e3, q⟩ := q
     exact ok.ct _ _ _ _ ⟨[],scr I3 e3 (by rw[<- l3];exact I3.len)⟩ q)
end
end L2
namespace L2
open PySem PySem.Spec PyProof.Rows PySem.SeqAt
mutual
def eqD:D->D->Bool
 | .non,.non=>true
 | .bl a,.bl b=>a == b
 | .bl a,.int i=>(if a then 1 else 0) == i
 | .int i,.bl a=>i == (if a then 1 else 0)
 | .int i,.int j=>i == j
 | .str x,.str y=>x == y
 | .tup xs,.tup ys=>eqDs xs ys
 | .lst xs,.lst ys=>eqDs xs ys
 | _,_=>false
def eqDs:List D->List D->Bool
 | [],[]=>true
 | x::xs,y::ys=>eqD x y&&eqDs xs ys
 | _,_=>false
end
mutual
def okE:D->Nat->Bool
 | .non,_=>true
 | .bl _,_=>true
 | .int _,_=>true
 | .str _,_=>true
 | .tup ds,k=>match k with
  | 0=>false
  | k+1=>okEs ds k
 | .lst ds,k=>match k with
  | 0=>false
  | k+1=>okEs ds k
 | _,_=>false
def okEs:List D->Nat->Bool
 | [],_=>true
 | d::ds,k=>okE d k&&okEs ds k
end
theorem okEs_mem:∀ {ds:List D} {k i:Nat} {d:D},okEs ds k=true->ds[i]?=some d->okE d k=true
 | [],k,i,d,_,e=>by simp at e
 | c::ds,k,0,d,h,e=>by
  simp at e;subst e
  unfold okEs at h
  rw[Bool.and_eq_true] at h
  exact h.1
 | c::ds,k,i+1,d,h,e=>by
  unfold okEs at h
  rw[Bool.and_eq_true] at h
  exact okEs_mem (i:=i) h.2 (by simpa using e)
def eAt(xs ys:List D)(j:Nat):Bool:=match xs[j]?,ys[j]? with
 | some x,some y=>eqD x y
 | _,_=>true
theorem range_succ_all(n:Nat)(e:Nat->Bool):(List.range (n+1)).all e=(e 0&&(List.range n).all fun j=>e (j+1)):=by
 rw[List.range_succ_eq_map,List.all_cons,List.all_map]
 rfl
theorem eqDs_all:∀ (xs ys:List D),((List.range (min xs.length ys.length)).all (eAt xs ys)&&xs.length == ys.length)=eqDs xs ys
 | [],[]=>by unfold eqDs;rfl
 | [],y::ys=>by unfold eqDs;simp
 | x::xs,[]=>by unfold eqDs;simp
 | x::xs,y::ys=>by
  have ih:=eqDs_all xs ys
  unfold eqDs
  rw[<- ih]
  have e1:min (x::xs).length (y::ys).length=min xs.length ys.length+1:=by simp only[length_cons];lia
  rw[e1,range_succ_all]
  have e2:((x::xs).length == (y::ys).length)=(xs.length == ys.length):=by simp
  rw[e2,Bool.and_assoc]
  rfl
theorem eqDs_all_len{xs ys:List D}(h:xs.length=ys.length):(List.range xs.length).all (eAt xs ys)=eqDs xs ys:=by
 rw[<- eqDs_all,h]
 simp
theorem eqDs_len{xs ys:List D}(h:xs.length≠ys.length):eqDs xs ys=false:=by
 rw[<- eqDs_all]
 simp[h]
theorem eqDs_of:∀ {xs ys:List D},xs.length=ys.length->(∀ (j:Nat) (x y:D),xs[j]?=some x->ys[j]?=some y->eqD x y=true)->eqDs xs ys=true
 | [],[],_,_=>by unfold eqDs;rfl
 | [],y::ys,h,_=>by simp at h
 | x::xs,[],h,_=>by simp at h
 | x::xs,y::ys,h,q=>by
  unfold eqDs
  rw[q 0 x y rfl rfl,eqDs_of (by simpa using h) fun j a b ha hb=>q (j+1) a b (by simpa using ha) (by simpa using hb)]
  rfl
theorem Reps.get2{K:W.Frag}{G:Option Addr}{Z:Addr->Prop}{H:Hp}{ds:List D}{vs:List V}{i:Nat}{d:D}{v:V}(h:Reps K G Z H ds vs)(e:ds[i]?=some d)(e':vs[i]?=some v):Rep K G Z H d v:=by
 obtain⟨u,h1,h2⟩:=h.get e
 rw[h1] at e';cases e'
 exact h2
section
variable {X:Cx} {pins:List (Addr × Obj)} {σ:St} {H:Hp} {s:Shared} {G:Option Addr} {Z:Addr->Prop}
theorem rep_same(I:Inv X pins σ H s):∀ (k:Nat) (d1 d2:D) (v:V),okE d1 k=true->okE d2 k=true->Rep X.K G Z H d1 v->Rep X.K G Z H d2 v->eqD d1 d2=true:=by
 intro k
 induction k with
 | zero =>
  intro d1 d2 v h1 h2 r1 r2
  cases d1<;>cases d2<;>first
   | (simp[okE] at h1;done) | (simp[okE] at h2;done)
   | (have e1:=r1.toS rfl;have e2:=r2.toS rfl;rw[e1] at e2;simp[ofS] at e2;done)
   | (have e1:=r1.toS rfl;have e2:=r2.toS rfl;rw[e1] at e2;simp[ofS] at e2;simp[eqD,e2])
 | succ k ih =>
  have seq:∀ {ds es:List D} {xs:List V},okEs ds k=true->okEs es k=true->Reps X.K G Z H ds xs->Reps X.K G Z H es xs->eqDs ds es=true:=fun {ds es xs} h1 h2 r1 r2=>by
   refine eqDs_of (r1.length.symm.trans r2.length) fun j x y hx hy=>?_
   obtain⟨u,hu,ru⟩:=r1.get hx
   exact ih x y u (okEs_mem h1 hx) (okEs_mem h2 hy) ru (r2.get2 hy hu)
  intro d1 d2 v h1 h2 r1 r2
  cases d1<;>cases d2<;>try (first
   | (simp[okE] at h1;done) | (simp[okE] at h2;done)
   | (have e1:=r1.toS rfl;have e2:=r2.toS rfl;rw[e1] at e2;simp[ofS] at e2;done)
   | (have e1:=r1.toS rfl;have e2:=r2.toS rfl;rw[e1] at e2;simp[ofS] at e2;simp[eqD,e2];done)
   | (obtain⟨a,xs,e,_⟩:=r1.tup_inv;have e2:=r2.toS rfl;rw[e] at e2;simp[ofS] at e2;done)
   | (obtain⟨a,xs,e,_⟩:=r1.lst_inv;have e2:=r2.toS rfl;rw[e] at e2;simp[ofS] at e2;done)
   | (obtain⟨a,xs,e,_⟩:=r2.tup_inv;have e2:=r1.toS rfl;rw[e] at e2;simp[ofS] at e2;done)
   | (obtain⟨a,xs,e,_⟩:=r2.lst_inv;have e2:=r1.toS rfl;rw[e] at e2;simp[ofS] at e2;done))
  ·rename_i ds es
   obtain⟨a,xs,e,sq,rs⟩:=r1.tup_inv
   obtain⟨b,ys,e',sq',rs'⟩:=r2.tup_inv
   rw[e] at e';cases e'
   have:=I.tuple_inj sq.sq sq'.sq
   subst this
   unfold eqD
   exact seq (by simpa [okE] using h1) (by simpa [okE] using h2) rs rs'
  ·rename_i ds es
   obtain⟨a,xs,e,sq,rs⟩:=r1.tup_inv
   obtain⟨b,ys,e',sq',rs'⟩:=r2.lst_inv
   rw[e] at e';cases e'
   obtain⟨its,rv,pl,hz⟩:=I.tuple sq.sq
   obtain⟨its',rv',pl',hz'⟩:=I.list sq'.sq
   exact absurd rfl (ne_of_list_tuple pl'.isList (show s.heap.IsTuple a its.toArray from pl))
  ·rename_i ds es
   obtain⟨a,xs,e,sq,rs⟩:=r1.lst_inv
   obtain⟨b,ys,e',sq',rs'⟩:=r2.tup_inv
   rw[e] at e';cases e'
   obtain⟨its,rv,pl,hz⟩:=I.list sq.sq
   obtain⟨its',rv',pl',hz'⟩:=I.tuple sq'.sq
   exact absurd rfl (ne_of_list_tuple pl.isList (show s.heap.IsTuple a its'.toArray from pl'))
  ·rename_i ds es
   obtain⟨a,xs,e,sq,rs⟩:=r1.lst_inv
   obtain⟨b,ys,e',sq',rs'⟩:=r2.lst_inv
   rw[e] at e';cases e'
   have:=I.list_inj sq.sq sq'.sq
   subst this
   unfold eqD
   exact seq (by simpa [okE] using h1) (by simpa [okE] using h2) rs rs'
theorem rcC{A:Around}{s:Shared}{y x:Value}{b c:Bool}(h:RcAt A s y x b)(e:b=c):RcAt A s y x c:=e ▸ h
theorem rnC{A:Around}{s:Shared}{y x:Value}{b c:Bool}(h:RcNeAt A s y x b)(e:b=c):RcNeAt A s y x c:=e ▸ h
theorem eqC{A:Around}{s:Shared}{y x:Value}{b c:Bool}(h:EqAt A s y x b)(e:b=c):EqAt A s y x c:=e ▸ h
def E3(A:Around)(s:Shared)(u1 u2:Value)(b:Bool):Prop:=EqAt A s u1 u2 b/\RcAt A s u1 u2 b/\RcNeAt A s u1 u2 (!b)
theorem E3.cast{A:Around}{s:Shared}{y x:Value}{b c:Bool}(h:E3 A s y x b)(e:b=c):E3 A s y x c:=e ▸ h
def bothSeq:D->D->Bool
 | .tup _,.tup _=>true
 | .lst _,.lst _=>true
 | _,_=>false
def ShE(s:Shared):D->Value->Prop
 | .non,u=>u=.none
 | .bl x,u=>u=.bool x
 | .int x,u=>∃ t,u=.int x t
 | .str x,u=>∃ t,u=.str x t
 | .tup _,u=>∃ a its,u=.ref a/\s.heap.IsTuple a its
 | .lst _,u=>∃ a its,u=.ref a/\s.heap.IsList a its
 | _,_=>False
theorem shE(I:Inv X pins σ H s){k:Nat}{d:D}{v:V}{u:Value}(h:okE d k=true)(r:Rep X.K G Z H d v)(q:RelV v u):ShE s d u:=by
 cases d with
 | non=>have:=r.toS rfl;subst this;exact q
 | bl x=>have:=r.toS rfl;subst this;exact q
 | int x=>have:=r.toS rfl;subst this;exact q
 | str x=>have:=r.toS rfl;subst this;exact q
 | tup x =>
  obtain⟨a,xs,w,sq,_⟩:=r.tup_inv
  subst w
  obtain⟨its,_,pl,_⟩:=I.tuple sq.sq
  exact⟨a,its.toArray,q,pl⟩
 | lst x =>
  obtain⟨a,xs,w,sq,_⟩:=r.lst_inv
  subst w
  obtain⟨its,_,pl,_⟩:=I.list sq.sq
  exact⟨a,its.toArray,q,pl.isList⟩
 | _=>simp[okE] at h
section
local macro_rules
 | `(tactic| nomatch $n:ident,$t,*)=>do
  let f:=fun(p:Lean.Name)=>Lean.mkIdent (p++n.getId)
  let t:=t.getElems
  `(tactic| exact E3.cast ⟨$(f `EqAt) $t*,$(f `RcAt) $t*,$(f `RcNeAt) $t*⟩ (by unfold eqD;rfl))
theorem eq_mix(I:Inv X pins σ H s){k:Nat}{d1 d2:D}{v1 v2:V}{u1 u2:Value}{A:Around}(h1:okE d1 k=true)(h2:okE d2 k=true)(r1:Rep X.K G Z H d1 v1)(r2:Rep X.K G Z H d2 v2)(q1:RelV v1 u1)(q2:RelV v2 u2)
  (hu:A.units<cLine) (hb:bothSeq d1 d2=false):E3 A s u1 u2 (eqD d1 d2):=by
 have g1:=shE I h1 r1 q1
 have g2:=shE I h2 r2 q2
 clear h1 h2 r1 r2 q1 q2
 cases d1 with
 | non =>
  cases g1
  cases d2 with
  | non=>cases g2;exact E3.cast ⟨EqAt.same _,RcAt.none_none,RcNeAt.none_none⟩ (by unfold eqD;rfl)
  | bl=>cases g2;nomatch none_bool,_
  | int=>obtain⟨_,rfl⟩:=g2;nomatch none_int,_,_
  | str=>obtain⟨_,rfl⟩:=g2;nomatch none_str,_,_
  | tup=>obtain⟨_,_,rfl,L⟩:=g2;nomatch none_tuple,L,hu
  | lst=>obtain⟨_,_,rfl,L⟩:=g2;nomatch none_list,L,hu
  | _=>exact g2.elim
 | bl x1 =>
  cases g1
  cases d2 with
  | non=>cases g2;nomatch bool_none,_
  | bl=>cases g2;nomatch bool_bool,_,_
  | int=>obtain⟨_,rfl⟩:=g2;nomatch bool_int,_,_,_
  | str=>obtain⟨_,rfl⟩:=g2;nomatch bool_str,_,_,_
  | tup=>obtain⟨_,_,rfl,L⟩:=g2;nomatch bool_tuple,_,L,hu
  | lst=>obtain⟨_,_,rfl,L⟩:=g2;nomatch bool_list,_,L,hu
  | _=>exact g2.elim
 | int x1 =>
  obtain⟨t1,rfl⟩:=g1
  cases d2 with
  | non=>cases g2;nomatch int_none,_,_
  | bl=>cases g2;nomatch int_bool,_,_,_
  | int=>obtain⟨_,rfl⟩:=g2;nomatch int_int,_,_,_,_
  | str=>obtain⟨_,rfl⟩:=g2;nomatch int_str,_,_,_,_
  | tup=>obtain⟨_,_,rfl,L⟩:=g2;nomatch int_tuple,_,_,L,hu
  | lst=>obtain⟨_,_,rfl,L⟩:=g2;nomatch int_list,_,_,L,hu
  | _=>exact g2.elim
 | str x1 =>
  obtain⟨t1,rfl⟩:=g1
  cases d2 with
  | non=>cases g2;nomatch str_none,_,_
  | bl=>cases g2;nomatch str_bool,_,_,_
  | int=>obtain⟨_,rfl⟩:=g2;nomatch str_int,_,_,_,_
  | str=>obtain⟨_,rfl⟩:=g2;nomatch str_str,_,_,_,_
  | tup=>obtain⟨_,_,rfl,L⟩:=g2;nomatch str_tuple,_,_,L,hu
  | lst=>obtain⟨_,_,rfl,L⟩:=g2;nomatch str_list,_,_,L,hu
  | _=>exact g2.elim
 | tup x1 =>
  obtain⟨a1,i1,rfl,L1⟩:=g1
  cases d2 with
  | non=>cases g2;nomatch tuple_none,L1,hu
  | bl=>cases g2;nomatch tuple_bool,_,L1,hu
  | int=>obtain⟨_,rfl⟩:=g2;nomatch tuple_int,_,_,L1,hu
  | str=>obtain⟨_,rfl⟩:=g2;nomatch tuple_str,_,_,L1,hu
  | tup=>cases hb
  | lst=>obtain⟨_,_,rfl,L⟩:=g2;nomatch tuple_list,L1,L,hu
  | _=>exact g2.elim
 | lst x1 =>
  obtain⟨a1,i1,rfl,L1⟩:=g1
  cases d2 with
  | non=>cases g2;nomatch list_none,L1,hu
  | bl=>cases g2;nomatch list_bool,_,L1,hu
  | int=>obtain⟨_,rfl⟩:=g2;nomatch list_int,_,_,L1,hu
  | str=>obtain⟨_,rfl⟩:=g2;nomatch list_str,_,_,L1,hu
  | tup=>obtain⟨_,_,rfl,L⟩:=g2;nomatch list_tuple,L1,L,hu
  | lst=>cases hb
  | _=>exact g2.elim
 | _=>exact g1.elim
end
theorem eq_rep(I:Inv X pins σ H s):∀ (k:Nat) (d1 d2:D) (v1 v2:V) (u1 u2:Value) (A:Around),okE d1 k=true->okE d2 k=true->Rep X.K G Z H d1 v1->Rep X.K G Z H d2 v2->RelV v1 u1->RelV v2 u2 ->
  A.units+k<cLine->E3 A s u1 u2 (eqD d1 d2):=by
 intro k
 induction k with
 | zero =>
  intro d1 d2 v1 v2 u1 u2 A h1 h2 r1 r2 q1 q2 hu
  refine eq_mix I h1 h2 r1 r2 q1 q2 (by lia) ?_
  cases d1<;>first | rfl | (simp[okE] at h1;done)
 | succ k ih =>
  intro d1 d2 v1 v2 u1 u2 A h1 h2 r1 r2 q1 q2 hu
  by_cases hb:bothSeq d1 d2=false
  ·exact eq_mix I h1 h2 r1 r2 q1 q2 (by lia) hb
  have items:∀ {ds es:List D} {xs ys:List V} {its its':List Value},okEs ds k=true->okEs es k=true->Reps X.K G Z H ds xs->Reps X.K G Z H es ys->Vals xs its->Vals ys its' ->
    ∀ (j:Nat) (l1:j<its.toArray.size) (l2:j<its'.toArray.size),EqAt A.in1 s its.toArray[j] its'.toArray[j] (eAt ds es j):=fun {ds es xs ys its its'} h1 h2 r1 r2 rv rv' j l1 l2=>by
   have l1':j<its.length:=by simpa using l1
   have l2':j<its'.length:=by simpa using l2
   have a1:j<ds.length:=by rw[<- r1.length,rv.length];exact l1'
   have a2:j<es.length:=by rw[<- r2.length,rv'.length];exact l2'
   have g1:ds[j]?=some ds[j]:=getElem?_eq_getElem a1
   have g2:es[j]?=some es[j]:=getElem?_eq_getElem a2
   obtain⟨w1,e1,p1⟩:=r1.get g1
   obtain⟨w2,e2,p2⟩:=r2.get g2
   obtain⟨z1,f1,t1⟩:=rv.get e1
   obtain⟨z2,f2,t2⟩:=rv'.get e2
   have m1:its.toArray[j]=z1:=by
    have:its[j]?=some its[j]:=getElem?_eq_getElem l1'
    rw[f1] at this
    simpa using (Option.some.inj this).symm
   have m2:its'.toArray[j]=z2:=by
    have:its'[j]?=some its'[j]:=getElem?_eq_getElem l2'
    rw[f2] at this
    simpa using (Option.some.inj this).symm
   have e3:eAt ds es j=eqD ds[j] es[j]:=by unfold eAt;rw[g1,g2]
   rw[m1,m2,e3]
   exact(ih _ _ _ _ _ _ A.in1 (okEs_mem h1 g1) (okEs_mem h2 g2) p1 p2 t1 t2 (by show A.units+1+k<cLine;lia)).1
  cases d1 with
  | tup ds =>
   cases d2 with
   | tup es =>
    have s1:=r1
    have s2:=r2
    obtain⟨a,xs,e,sq,rs⟩:=r1.tup_inv
    obtain⟨b,ys,e',sq',rs'⟩:=r2.tup_inv
    subst e e'
    have c1:u1=.ref a:=q1
    have c2:u2=.ref b:=q2
    subst c1 c2
    obtain⟨its,rv,pl,hz⟩:=I.tuple sq.sq
    obtain⟨its',rv',pl',hz'⟩:=I.tuple sq'.sq
    have it:=items (by simpa [okE] using h1) (by simpa [okE] using h2) rs rs' rv rv'
    have n1:its.toArray.size=ds.length:=by rw[<- rs.length,rv.length];simp
    have n2:its'.toArray.size=es.length:=by rw[<- rs'.length,rv'.length];simp
    have ev:((List.range (min its.toArray.size its'.toArray.size)).all (eAt ds es)&&its.toArray.size == its'.toArray.size)=eqD (.tup ds) (.tup es):=by
     rw[n1,n2,eqDs_all];unfold eqD;rfl
    have R:=rcC (RcAt.tuples (A:=A) (show s.heap.IsTuple a its.toArray from pl) (show s.heap.IsTuple b its'.toArray from pl') (by lia) it) ev
    have N:=rnC (RcNeAt.tuples (A:=A) (show s.heap.IsTuple a its.toArray from pl) (show s.heap.IsTuple b its'.toArray from pl') (by lia) it) (congrArg (!·) ev)
    refine⟨?_,R,N⟩
    by_cases hab:a=b
    ·subst hab
     exact eqC (EqAt.same _) (rep_same I (k+1) _ _ _ h1 h2 s1 s2).symm
    ·exact .of_refs hab R
   | _=>exact absurd rfl hb
  | lst ds =>
   cases d2 with
   | lst es =>
    have s1:=r1
    have s2:=r2
    obtain⟨a,xs,e,sq,rs⟩:=r1.lst_inv
    obtain⟨b,ys,e',sq',rs'⟩:=r2.lst_inv
    subst e e'
    have c1:u1=.ref a:=q1
    have c2:u2=.ref b:=q2
    subst c1 c2
    obtain⟨its,rv,pl,hz⟩:=I.list sq.sq
    obtain⟨its',rv',pl',hz'⟩:=I.list sq'.sq
    have it:=items (by simpa [okE] using h1) (by simpa [okE] using h2) rs rs' rv rv'
    have n1:its.toArray.size=ds.length:=by rw[<- rs.length,rv.length];simp
    have n2:its'.toArray.size=es.length:=by rw[<- rs'.length,rv'.length];simp
    have R:RcAt A s (.ref a) (.ref b) (eqD (.lst ds) (.lst es))/\RcNeAt A s (.ref a) (.ref b) (!eqD (.lst ds) (.lst es)):=by
     by_cases hl:ds.length=es.length
     ·have ev : (List.range its.toArray.size).all (eAt ds es) = eqD (.lst ds) (.lst es) := by rw [n1, eqDs_all_len hl]; unfold eqD; rfl
      exact⟨rcC (RcAt.lists (A:=A) pl.isList pl'.isList (by rw[n1,n2,hl]) (by lia) it) ev,rnC (RcNeAt.lists (A:=A) pl.isList pl'.isList (by rw[n1,n2,hl]) (by lia) it) (congrArg (!·) ev)⟩
     ·have ev : false = eqD (.lst ds) (.lst es) := by unfold eqD; exact (eqDs_len hl).symm
      have hs:(its.toArray.size != its'.toArray.size)=true:=by rw[n1,n2];simpa using hl
      exact⟨rcC (RcAt.lists_lengths (A:=A) pl.isList pl'.isList hs (by lia)) ev,rnC (RcNeAt.lists_lengths (A:=A) pl.isList pl'.isList hs (by lia)) (congrArg (!·) ev)⟩
    refine⟨?_,R⟩
    by_cases hab:a=b
    ·subst hab
     exact eqC (EqAt.same _) (rep_same I (k+1) _ _ _ h1 h2 s1 s2).symm
    ·exact .of_refs hab R.1
   | _=>exact absurd rfl hb
  | _=>exact absurd rfl hb
def EqV(X:Cx)(H:Hp)(x y:V)(b:Bool):Prop:=∀ pins s σ v u,Inv X pins σ H s->RelV x v->RelV y u->∀ A:Around,A.units+60<cLine->E3 A s v u b
def rDeq(X:Cx):R2:=fun x y H Q=>∃ b,EqV X H x y b/\Q (.bl b) H
def rDne(X:Cx):R2:=fun x y H Q=>∃ b,EqV X H x y b/\Q (.bl (!b)) H
theorem op_deq{n:Nat}(hr:Room n X.A):OpR X (compareOp .Eq) (rDeq X):=by
 intro pins s σ H x y v u Q I rx ry h
 obtain⟨b,e,q⟩:=h
 exact(e pins s σ v u I rx ry X.A (by have:=hr.units;lia)).2.1 X.prog X.w X.xe _ ⟨.bl b,H,I,rfl,q⟩
theorem op_dne{n:Nat}(hr:Room n X.A):OpR X (compareOp .NotEq) (rDne X):=by
 intro pins s σ H x y v u Q I rx ry h
 obtain⟨b,e,q⟩:=h
 exact(e pins s σ v u I rx ry X.A (by have:=hr.units;lia)).2.2 X.prog X.w X.xe _ ⟨.bl (!b),H,I,rfl,q⟩
def rdDeq:RD2:=fun d1 d2 k=>okE d1 20=true/\okE d2 20=true/\k (.bl (eqD d1 d2))
def rdDne:RD2:=fun d1 d2 k=>okE d1 20=true/\okE d2 20=true/\k (.bl (!eqD d1 d2))
theorem re_deq{A:AC}(hK:X.K=A.K):OpRel A (rDeq X) rdDeq:=by
 rintro os n rho sg H ds vs d1 d2 v1 v2 k Q I ⟨h1,h2,q⟩ hQ
 obtain⟨I1,r2⟩:=I.pop
 obtain⟨I2,r1⟩:=I1.pop
 rw[<- hK] at r1 r2
 exact⟨eqD d1 d2,fun pins s σ v u J rx ry B hu=>eq_rep J 20 d1 d2 v1 v2 v u B h1 h2 r1 r2 rx ry (by lia),hQ _ H _ ⟨os,I2.push (Rep.ofS rfl)⟩ q⟩
theorem re_dne{A:AC}(hK:X.K=A.K):OpRel A (rDne X) rdDne:=by
 rintro os n rho sg H ds vs d1 d2 v1 v2 k Q I ⟨h1,h2,q⟩ hQ
 obtain⟨I1,r2⟩:=I.pop
 obtain⟨I2,r1⟩:=I1.pop
 rw[<- hK] at r1 r2
 exact⟨eqD d1 d2,fun pins s σ v u J rx ry B hu=>eq_rep J 20 d1 d2 v1 v2 v u B h1 h2 r1 r2 rx ry (by lia),hQ _ H _ ⟨os,I2.push (Rep.ofS rfl)⟩ q⟩
@[simp] theorem q_rdDeq{d1 d2 k}:rdDeq d1 d2 k=(okE d1 20=true/\okE d2 20=true/\k (.bl (eqD d1 d2))):=rfl
@[simp] theorem q_rdDne{d1 d2 k}:rdDne d1 d2 k=(okE d1 20=true/\okE d2 20=true/\k (.bl (!eqD d1 d2))):=rfl
end
end L2
namespace L2
section
variable {A:AC} {X:Cx} {e a b:Expr} {es:List Expr} {te ta tb:TD} {t1:TAD} {pos p:Pos}
def lstOf(d:D)(p:List D->Prop):Prop:=∃ fs,d=.lst fs/\p fs
@[simp] theorem q_lstOf{fs p}:lstOf (.lst fs) p↔p fs:=⟨fun⟨_,e,h⟩=>by cases e;exact h,fun h=>⟨_,rfl,h⟩⟩
def sSetO(i:Nat)(te:TD):TSD:=fun F rho n=>i<rho.length/\te rho n fun d n1=>lstOf d fun fs=>F.nx (rho.set i (some (.own fs))) n1
@[simp] theorem q_sSetO{i te F rho n}:sSetO i te F rho n=(i<rho.length/\te rho n fun d n1=>lstOf d fun fs=>F.nx (rho.set i (some (.own fs))) n1):=rfl
def dOwnLen(i:Nat):TD:=fun rho n P=>ownAt rho[i]? fun es=>P (.int es.length) n
@[simp] theorem q_dOwnLen{i rho n P}:dOwnLen i rho n P=ownAt rho[i]? fun es=>P (.int es.length) n:=rfl
theorem pd_ownLen{i:Nat}{x:Str}{px:Pos}(hm:X.mg "len" = none)(hK:X.K=A.K)(hN:X.N[i]?=some x:=by rfl)(hv:Vis X.env.scope x:=by first | exact Or.inl rfl | exact Or.inr (Or.inl rfl) | exact Or.inr (Or.inr rfl))(hd:(x == ("__debug__" : Str))=false:=by decide)
  (hcd:(x == ("__classdict__" : Str))=false:=by decide) (hg:Gl X "len" := by rfl)
  (he:starEach [.Name x px] X.env=(false,eval (.Name x px) X.env)::starEach [] X.env:=by rfl) (hpl:(backTo pos (starEach [] X.env)).any (·.1)=false:=by rfl):PD A X (.Call (.Name "len" p) [.Name x px] [] pos) (dOwnLen i):=by
 with_unfolding_all
  exact
   (pe_callB zQ hg hm bt_len (pa_cons (pe_var hN hv hd hcd) pa_nil he) (by decide) (by decide) he hpl).imp fun sg H Q h => by
    obtain⟨rho,n,P,ds,vs,⟨os,I⟩,⟨es,hi,k⟩,hQ⟩:=h
    obtain⟨a,xs,e1,hH,rs,_⟩:=I.own (es':=es) (xs':=[]) hi
    exact⟨.ref a,e1,a,xs,rfl,.inl (SqL.of hH),by rw[rs.length];exact hQ _ H n _ ⟨os,I.push (Rep.ofS (d:=.int es.length) rfl)⟩ k⟩
def GDat(K:W.Frag)(mg:Str->Option Value)(x:Str)(d:D):Prop:=∃ v u,mg x=some u/\RelV v u/\∀ G Z H,Rep K G Z H d v
theorem pd_glob{x:Str}{d:D}(h:GDat X.K X.mg x d)(hK:X.K=A.K)(hg:Gl X x:=by rfl)(hd:(x == ("__debug__" : Str))=false:=by decide):PD A X (.Name x pos) (dC d):=by
 with_unfolding_all
  exact(by
   obtain⟨v,u,hm,r,hr⟩:=h
   refine(pe_glob hg hm r hd).imp fun sg H Q q=>?_
   obtain⟨rho,n,P,ds,vs,⟨os,I⟩,q,hQ⟩:=q
   exact hQ v H n d ⟨os,I.push (by rw[<- hK];exact hr _ _ _)⟩ q)
theorem gdat_tup{K:W.Frag}{mg:Str->Option Value}{x:Str}{a:Addr}{o:Obj}{its:Array Value}{n:Nat}{ds:List D}{xs:List V}(hm:mg x=some (.ref a))(hk:K.lookup a=some o)(hc:o.cls=.type "tuple")(hd:o.data=.seq its n)(hz:its.size<=sizeLine)(hv:Vals xs its.toList)
  (hs:∀ G Z H,Reps K G Z H ds xs):GDat K mg x (.tup ds):=⟨.ref a,.ref a,hm,rfl,fun G Z H=>.tup_mk (.inr (.inr ⟨o,its,n,hk,hc,hd,hz,hv⟩)) (hs G Z H)⟩
theorem FnOk.botK{P:Program}{w:World}{K:W.Frag}{mg:Str->Option Value}{base:Heap}{f:Addr}{fd:FuncData}{ps:List Str}{k L:Nat}{t:TF}(ht:∀ ds n Q,¬ t ds n Q):FnOk P w K mg base CX0 L f fd ps (spD K k t):=by
 refine⟨fun vs H Q E h=>?_,fun A outer s H args us vs Q E _ _ _ _ h=>?_⟩
 ·obtain ⟨G, Z, n, R, ds, hl, rs, hst, gz, z0, h, _⟩ := h
  exact(ht _ _ _ h).elim
 ·obtain ⟨G, Z, n, R, ds, hl, rs, hst, gz, z0, h, _⟩ := h
  exact(ht _ _ _ h).elim
end
end L2
namespace L2
theorem zR{own:Nat}{g:TGD}{te:TD}{rho:Rho}{n:Nat}{P:D->Nat->Prop}{α:Type}(enc:α->D)(f:α->D)(xs:List α)
  (hz:xs.length<=sizeLine) (he:∀ x∈xs,∀ Q,Q (f x) n->g (enc x) (replicate own none++rho) fun rho'=>rho'.drop own=rho/\te rho' n Q) (hP:P (.lst (xs.map f)) n):compIn own g bYes te rho P (xs.map enc) n :=
 comp_map (it:=fun _ n R=>R (xs.map enc) n) (rho:=rho) enc f xs (fun R h=>h) hz he hP
end L2
namespace L2
theorem q_isi{d:D}{T:String}{k:D->Prop}(hT:T = "bool" \/ T = "int" \/ T = "str" \/ T = "tuple" \/ T = "list"):kIsi [d,.ty T] k↔(isiOk d=true/\k (.bl (isiD T d))) :=
 ⟨fun⟨d',T',e,_,h1,h2⟩=>by cases e;exact⟨h1,h2⟩,fun h=>⟨d,T,rfl,hT,h.1,h.2⟩⟩
@[simp] theorem q_isiBool{d:D}{k:D->Prop}:kIsi [d,.ty "bool"] k↔(isiOk d=true/\k (.bl (isiD "bool" d))):=q_isi (by decide)
@[simp] theorem q_isiInt{d:D}{k:D->Prop}:kIsi [d,.ty "int"] k↔(isiOk d=true/\k (.bl (isiD "int" d))):=q_isi (by decide)
@[simp] theorem q_isiStr{d:D}{k:D->Prop}:kIsi [d,.ty "str"] k↔(isiOk d=true/\k (.bl (isiD "str" d))):=q_isi (by decide)
@[simp] theorem q_isiTuple{d:D}{k:D->Prop}:kIsi [d,.ty "tuple"] k↔(isiOk d=true/\k (.bl (isiD "tuple" d))):=q_isi (by decide)
@[simp] theorem q_isiList{d:D}{k:D->Prop}:kIsi [d,.ty "list"] k↔(isiOk d=true/\k (.bl (isiD "list" d))):=q_isi (by decide)
@[simp] theorem q_rdEqS{i j:Str}{k}:rdEq (.str i) (.str j) k↔k (.bl (decide (i=j))):=by
 have e:decide (ofS (.str i)=ofS (.str j))=decide (i=j):=by simp[ofS]
 unfold rdEq
 rw[e]
 exact⟨fun h=>h.2.2.2,fun h=>⟨rfl,rfl,rfl,h⟩⟩
theorem okEs_iff:∀ {ds:List D} {k:Nat},okEs ds k=true↔∀ d∈ds,okE d k=true
 | [],k=>by unfold okEs;simp
 | c::ds,k=>by
  unfold okEs
  rw[Bool.and_eq_true,okEs_iff]
  simp
theorem okE_tup{ds:List D}{k:Nat}:okE (.tup ds) (k+1)=true↔∀ d∈ds,okE d k=true:=by
 have e:okE (.tup ds) (k+1)=okEs ds k:=by rw[okE]
 rw[e,okEs_iff]
def kZip(es:List D)(k:List D->Prop):Prop:=∃ d1 d2 b1 xs b2 ys,es=[d1,d2]/\seqOf d1=some (b1,xs)/\seqOf d2=some (b2,ys)/\k (zipD xs ys)
@[simp] theorem q_iZipD{t:TAD}{rho n P}:iZipD t rho n P↔t rho n fun es n1=>kZip es fun l=>P l n1:=Iff.rfl
theorem q_kZip{d1 d2:D}{b1 b2 xs ys}{k:List D->Prop}(h1:seqOf d1=some (b1,xs))(h2:seqOf d2=some (b2,ys)):kZip [d1,d2] k↔k (zipD xs ys):=by
 constructor
 ·rintro ⟨_, _, _, _, _, _, e, e1, e2, h⟩
  cases e
  rw[h1] at e1;rw[h2] at e2
  cases e1;cases e2
  exact h
 ·intro h
  exact⟨_,_,_,_,_,_,rfl,h1,h2,h⟩
@[simp] theorem q_kZipTT{xs ys}{k:List D->Prop}:kZip [.tup xs,.tup ys] k↔k (zipD xs ys):=q_kZip rfl rfl
@[simp] theorem q_kZipTL{xs ys}{k:List D->Prop}:kZip [.tup xs,.lst ys] k↔k (zipD xs ys):=q_kZip rfl rfl
@[simp] theorem q_kZipLT{xs ys}{k:List D->Prop}:kZip [.lst xs,.tup ys] k↔k (zipD xs ys):=q_kZip rfl rfl
@[simp] theorem q_kZipLL{xs ys}{k:List D->Prop}:kZip [.lst xs,.lst ys] k↔k (zipD xs ys):=q_kZip rfl rfl
theorem gdat_int2{K:W.Frag}{mg:Str->Option Value}{x:Str}{a:Addr}{od:Option Addr}{n:Nat}{i j:Int}{t u:Tok}{sl}(hm:mg x=some (.ref a))(hk:K.lookup a=some ⟨.type "tuple",od,.seq #[.int i t,.int j u] n,sl⟩):GDat K mg x (.tup [.int i,.int j]) :=
 gdat_tup (xs:=[.int i,.int j]) hm hk rfl rfl (by simp[sizeLine]) (.cons ⟨_,rfl⟩ (.cons ⟨_,rfl⟩ .nil)) fun G Z H=>by
  exact .cons (.ofS (d:=.int i) rfl) (.cons (.ofS (d:=.int j) rfl) .nil)
end L2
namespace L2
theorem best_spec(f:Nat->Int)(bt:Nat->Nat->Bool)(h:∀ i j,bt i j=true↔f j<f i):∀ k,argBest bt k<=k/\∀ i,i<=k->f i<=f (argBest bt k)
 | 0=>⟨Nat.le_refl _,fun i hi=>by cases Nat.le_zero.mp hi;exact Int.le_refl _⟩
 | k + 1 => by
  obtain⟨h1,h2⟩:=best_spec f bt h k
  rw[argBest.eq_2]
  by_cases hb:bt (k+1) (argBest bt k)=true
  ·rw [if_pos hb]
   have hb':=(h _ _).mp hb
   refine⟨Nat.le_refl _,fun i hi=>?_⟩
   by_cases e:i=k+1
   ·subst e;exact Int.le_refl _
   ·have:=h2 i (by lia);lia
  ·rw [if_neg hb]
   have hb':¬ f (argBest bt k)<f (k+1):=fun z=>hb ((h _ _).mpr z)
   refine⟨by lia,fun i hi=>?_⟩
   by_cases e:i=k+1
   ·subst e;lia
   ·exact h2 i (by lia)
theorem Vals.ints_at{ns:List Int}{us:List Value}(h:Vals (ns.map V.int) us){i:Nat}{v:Value}(e:us[i]?=some v):i<ns.length/\∃ t,v=.int (ns[i]?.getD 0) t:=by
 have hl:us.length=ns.length:=by have:=h.length;simpa using this.symm
 have hi:i<ns.length:=by rw[<- hl];exact(List.getElem?_eq_some_iff.mp e).1
 refine⟨hi,?_⟩
 have e2:(ns.map V.int)[i]?=some (.int ns[i]):=by rw[getElem?_map,getElem?_eq_getElem hi];rfl
 obtain⟨u,hu,r⟩:=h.get e2
 rw[e] at hu
 cases hu
 obtain⟨t,rfl⟩:=r
 exact⟨t,by rw[getElem?_eq_getElem hi];rfl⟩
section
variable {X:Cx}
theorem call_max1(hc:X.calm=true):CallR X (.builtin "max") (fun xs H Q=>∃ (p:Addr) (ns:List Int),xs=[.ref p]/\SqL X.K H p (ns.map V.int)/\0<ns.length/\∀ M,M∈ns->(∀ a∈ns,a<=M)->Q (.int M) H):=by
 intro pins s σ H xs us Q I r h
 obtain⟨p,ns,rfl,hq,hn,q⟩:=h
 cases r with
 | cons r rr =>
  cases rr
  cases r
  obtain⟨its,rv,pl,_⟩:=I.list hq
  have hl:=pl.isList
  have hlt:p<s.heap.objs.size:=by obtain⟨_,e,_⟩:=hl;exact Heap.lt_size e
  have hsz:its.length=ns.length:=by have:=rv.length;simpa using this.symm
  refine call_max_walk (wpAny_pyIter_list hl ⟨s.heap.objs.size,[s.heap.objs.size,p],[s.heap.objs.size],its.toArray.size,_,_,fun i j=>decide (ns[j]?.getD 0<ns[i]?.getD 0),rfl,
   Walks.list (A:=X.A.in1) (I.ok.hd hc) _ p (Nat.ne_of_lt hlt) _,⟨⟨_,Heap.get?_push_size _ rfl,rfl,rfl⟩,hl.push _⟩,fun b hb=>?_,?_,fun i j vi vj s' Q' E' hi hj hQ=>?_,fun v h' tk hP hk=>?_⟩)
  ·simp only [List.mem_cons, List.not_mem_nil, or_false] at hb
   rcases hb with rfl | rfl
   ·simp[Heap.push]
   ·exact Nat.lt_trans hlt (by simp[Heap.push])
  ·rw[size_toArray,hsz];exact hn
  ·have hi' : its[i]? = some vi := by simpa using hi
   have hj':its[j]?=some vj:=by simpa using hj
   obtain⟨_,ti,rfl⟩:=rv.ints_at hi'
   obtain⟨_,tj,rfl⟩:=rv.ints_at hj'
   exact(PyProof.Rows.gt_int hQ:wpAny (model X.prog X.w) X.A.in1 (compareOp .Gt _ _) Q' E' s')
  ·have hP' : its[argBest (fun i j => decide (ns[j]?.getD 0 < ns[i]?.getD 0)) (its.toArray.size - 1)]? = some v := by simpa using hP
   obtain⟨hlt2,t,rfl⟩:=rv.ints_at hP'
   obtain⟨hb1,hb2⟩:=best_spec (fun i=>ns[i]?.getD 0) (fun i j=>decide (ns[j]?.getD 0<ns[i]?.getD 0)) (fun i j=>by simp) (its.toArray.size-1)
   generalize argBest (fun i j=>decide (ns[j]?.getD 0<ns[i]?.getD 0)) (its.toArray.size-1)=m at *
   refine⟨.int (ns[m]?.getD 0),H,I.kept (old_of hk),⟨_,rfl⟩,q _ ?_ fun a ha=>?_⟩
   ·rw[getElem?_eq_getElem hlt2];exact getElem_mem hlt2
   ·obtain ⟨i, hi, rfl⟩ := List.mem_iff_getElem.mp ha
    have:=hb2 i (by rw[size_toArray,hsz];lia)
    rw[getElem?_eq_getElem hi] at this
    exact this
theorem call_min1(hc:X.calm=true):CallR X (.builtin "min") (fun xs H Q=>∃ (p:Addr) (ns:List Int),xs=[.ref p]/\SqL X.K H p (ns.map V.int)/\0<ns.length/\∀ M,M∈ns->(∀ a∈ns,M<=a)->Q (.int M) H):=by
 intro pins s σ H xs us Q I r h
 obtain⟨p,ns,rfl,hq,hn,q⟩:=h
 cases r with
 | cons r rr =>
  cases rr
  cases r
  obtain⟨its,rv,pl,_⟩:=I.list hq
  have hl:=pl.isList
  have hlt:p<s.heap.objs.size:=by obtain⟨_,e,_⟩:=hl;exact Heap.lt_size e
  have hsz:its.length=ns.length:=by have:=rv.length;simpa using this.symm
  refine call_min_walk (wpAny_pyIter_list hl ⟨s.heap.objs.size,[s.heap.objs.size,p],[s.heap.objs.size],its.toArray.size,_,_,fun i j=>decide (ns[i]?.getD 0<ns[j]?.getD 0),rfl,
   Walks.list (A:=X.A.in1) (I.ok.hd hc) _ p (Nat.ne_of_lt hlt) _,⟨⟨_,Heap.get?_push_size _ rfl,rfl,rfl⟩,hl.push _⟩,fun b hb=>?_,?_,fun i j vi vj s' Q' E' hi hj hQ=>?_,fun v h' tk hP hk=>?_⟩)
  ·simp only [List.mem_cons, List.not_mem_nil, or_false] at hb
   rcases hb with rfl | rfl
   ·simp[Heap.push]
   ·exact Nat.lt_trans hlt (by simp[Heap.push])
  ·rw[size_toArray,hsz];exact hn
  ·have hi' : its[i]? = some vi := by simpa using hi
   have hj':its[j]?=some vj:=by simpa using hj
   obtain⟨_,ti,rfl⟩:=rv.ints_at hi'
   obtain⟨_,tj,rfl⟩:=rv.ints_at hj'
   exact(PyProof.Rows.lt_int hQ:wpAny (model X.prog X.w) X.A.in1 (compareOp .Lt _ _) Q' E' s')
  ·have hP' : its[argBest (fun i j => decide (ns[i]?.getD 0 < ns[j]?.getD 0)) (its.toArray.size - 1)]? = some v := by simpa using hP
   obtain⟨hlt2,t,rfl⟩:=rv.ints_at hP'
   obtain⟨hb1,hb2⟩:=best_spec (fun i=>- ns[i]?.getD 0) (fun i j=>decide (ns[i]?.getD 0<ns[j]?.getD 0)) (fun i j=>by simp) (its.toArray.size-1)
   generalize argBest (fun i j=>decide (ns[i]?.getD 0<ns[j]?.getD 0)) (its.toArray.size-1)=m at *
   refine⟨.int (ns[m]?.getD 0),H,I.kept (old_of hk),⟨_,rfl⟩,q _ ?_ fun a ha=>?_⟩
   ·rw[getElem?_eq_getElem hlt2];exact getElem_mem hlt2
   ·obtain ⟨i, hi, rfl⟩ := List.mem_iff_getElem.mp ha
    have:=hb2 i (by rw[size_toArray,hsz];lia)
    rw[getElem?_eq_getElem hi] at this
    have e:(some ns[i]).getD 0=ns[i]:=rfl
    rw[e] at this
    lia
end
section
variable {A:AC}
theorem reps_intsV{K:W.Frag}{G:Option Addr}{Z:Addr->Prop}{H:Hp}:∀ {bs:List Int} {ws:List V},Reps K G Z H (bs.map D.int) ws->ws=bs.map V.int
 | [],ws,h=>h.nil_inv
 | b::bs,ws,h=>by
  obtain⟨v,r,rfl,q,t⟩:=h.split
  rw[q.int_inv,reps_intsV t];rfl
def kMax2:List D->(D->Prop)->Prop:=fun es k=>∃ i j,es=[.int i,.int j]/\k (.int (if j > i then j else i))
def kMin2:List D->(D->Prop)->Prop:=fun es k=>∃ i j,es=[.int i,.int j]/\k (.int (if j<i then j else i))
def kMax1:List D->(D->Prop)->Prop:=fun es k=>∃ ns:List Int,es=[.lst (ns.map D.int)]/\0<ns.length/\∀ M,M∈ns->(∀ a∈ns,a<=M)->k (.int M)
def kMin1:List D->(D->Prop)->Prop:=fun es k=>∃ ns:List Int,es=[.lst (ns.map D.int)]/\0<ns.length/\∀ M,M∈ns->(∀ a∈ns,M<=a)->k (.int M)
@[simp] theorem q_kMax2{i j k}:kMax2 [.int i,.int j] k↔k (.int (if j > i then j else i)):=⟨fun⟨_,_,e,h⟩=>by cases e;exact h,fun h=>⟨_,_,rfl,h⟩⟩
@[simp] theorem q_kMin2{i j k}:kMin2 [.int i,.int j] k↔k (.int (if j<i then j else i)):=⟨fun⟨_,_,e,h⟩=>by cases e;exact h,fun h=>⟨_,_,rfl,h⟩⟩
theorem cr_max2:xg A (fun xs H Q=>∃ i j,xs=[.int i,.int j]/\Q (.int (if j > i then j else i)) H) kMax2:=by
 rintro os n rho sg H ds vs es ws k Q I rs ⟨i,j,rfl,q⟩ hQ
 obtain⟨v,v',rfl,r,r'⟩:=reps2 rs
 exact⟨i,j,by rw[r.int_inv,r'.int_inv],hQ _ H _ ⟨os,I.push (Rep.ofS rfl)⟩ q⟩
theorem cr_min2:xg A (fun xs H Q=>∃ i j,xs=[.int i,.int j]/\Q (.int (if j<i then j else i)) H) kMin2:=by
 rintro os n rho sg H ds vs es ws k Q I rs ⟨i,j,rfl,q⟩ hQ
 obtain⟨v,v',rfl,r,r'⟩:=reps2 rs
 exact⟨i,j,by rw[r.int_inv,r'.int_inv],hQ _ H _ ⟨os,I.push (Rep.ofS rfl)⟩ q⟩
theorem cr_max1:xg A (fun xs H Q=>∃ (p:Addr) (ns:List Int),xs=[.ref p]/\SqL A.K H p (ns.map V.int)/\0<ns.length/\∀ M,M∈ns->(∀ a∈ns,a<=M)->Q (.int M) H) kMax1:=by
 rintro os n rho sg H ds vs es ws k Q I rs ⟨ns,rfl,hn,q⟩ hQ
 obtain⟨v,rfl,r⟩:=reps1 rs
 obtain⟨a,xs,rfl,sq,rr⟩:=r.lst_inv
 have e:=reps_intsV rr
 subst e
 exact⟨a,ns,rfl,sq.sq,hn,fun M h1 h2=>hQ _ H _ ⟨os,I.push (Rep.ofS rfl)⟩ (q M h1 h2)⟩
theorem cr_min1:xg A (fun xs H Q=>∃ (p:Addr) (ns:List Int),xs=[.ref p]/\SqL A.K H p (ns.map V.int)/\0<ns.length/\∀ M,M∈ns->(∀ a∈ns,M<=a)->Q (.int M) H) kMin1:=by
 rintro os n rho sg H ds vs es ws k Q I rs ⟨ns,rfl,hn,q⟩ hQ
 obtain⟨v,rfl,r⟩:=reps1 rs
 obtain⟨a,xs,rfl,sq,rr⟩:=r.lst_inv
 have e:=reps_intsV rr
 subst e
 exact⟨a,ns,rfl,sq.sq,hn,fun M h1 h2=>hQ _ H _ ⟨os,I.push (Rep.ofS rfl)⟩ (q M h1 h2)⟩
theorem bt_max:bootBuiltins "max" = some (.builtin "max"):=by decide +kernel
theorem bt_min:bootBuiltins "min" = some (.builtin "min"):=by decide +kernel
end
end L2
namespace L2
theorem okE_lst{ds:List D}{k:Nat}:okE (.lst ds) (k+1)=true↔∀ d∈ds,okE d k=true:=by
 have e:okE (.lst ds) (k+1)=okEs ds k:=by rw[okE]
 rw[e,okEs_iff]
theorem okE_int{i:Int}{k:Nat}:okE (.int i) k=true:=by simp[okE]
end L2
namespace L2
def rCatTT(K:W.Frag):R2:=fun x y H Q=>∃ a b xs ys,x=.ref a/\y=.ref b/\SqT K H a xs/\SqT K H b ys/\xs.length+ys.length<=sizeLine /\
 (xs=[]->Q (.ref b) H)/\(xs≠[]->ys=[]->Q (.ref a) H)/\(xs≠[]->ys≠[]->∀ p,H p=none->Q (.ref p) (upd H p (.tup (xs++ys))))
section
variable {X:Cx}
theorem op_catTT:OpR X (binaryOp .Add) (rCatTT X.K):=by
 intro pins s σ H x y v u Q I rx ry h
 obtain⟨a,b,xs,ys,rfl,rfl,ha,hb,hz,q0,q1,q2⟩:=h
 by_cases hx:xs=[]
 ·cases rx
  cases ry
  obtain⟨its,r1,p1,_⟩:=I.tuple ha
  obtain⟨its2,r2,p2,_⟩:=I.tuple hb
  have hi:its=[]:=r1.nil_iff.mpr hx
  obtain⟨⟨cls,dd,data,sl⟩,ho,hc,n,hd⟩:=id p1
  obtain⟨⟨cls2,dd2,data2,sl2⟩,ho2,hc2,n2,hd2⟩:=id p2
  simp only at hc hd hc2 hd2
  subst hc hd hc2 hd2
  exact PySem.concat_meets ⟨_,ho,rfl⟩ ⟨_,ho2,rfl⟩ PySem.noFill_tuple_add PySem.seq_tuple_add PySem.F.slot_tuple_add PySem.F.entry_tuple_add (PySem.F.args_tuple_add_2 _ _)
   (tuple_addW0 a b its.toArray its2.toArray n n2 dd dd2 sl sl2 (by simp[hi])) ⟨ho,ho2,⟨.ref b,H,I,rfl,q0 hx⟩⟩
 ·exact op_catT pins s σ H _ _ v u Q I rx ry ⟨a,b,xs,ys,rfl,rfl,ha,hb,hx,hz,q1 hx,q2 hx⟩
end
section
variable {A:AC}
def rdCatT:RD2:=fun d1 d2 k=>∃ es fs,d1=.tup es/\d2=.tup fs/\es.length+fs.length<=sizeLine/\k (.tup (es++fs))
@[simp] theorem q_rdCatT{es fs k}:rdCatT (.tup es) (.tup fs) k↔(es.length+fs.length<=sizeLine/\k (.tup (es++fs))):=⟨fun⟨_,_,e,e',h⟩=>by cases e;cases e';exact h,fun h=>⟨_,_,rfl,rfl,h⟩⟩
theorem re_catT:OpRel A (rCatTT A.K) rdCatT:=by
 rintro os n rho sg H ds vs d1 d2 v1 v2 k Q I ⟨es,fs,rfl,rfl,hz,q⟩ hQ
 obtain⟨I1,r2⟩:=I.pop
 obtain⟨I2,r1⟩:=I1.pop
 have r1':=r1
 have r2':=r2
 obtain⟨a,xs,e,sq,rs⟩:=r1.tup_inv
 obtain⟨b,ys,e',sq',rs'⟩:=r2.tup_inv
 subst e e'
 refine⟨a,b,xs,ys,rfl,rfl,sq.sq,sq'.sq,by rw[rs.length,rs'.length];exact hz,fun hx=>?_,fun hx hy=>?_,fun hx hy p hp=>?_⟩
 ·have he : es = [] := by have := rs.length; rw [hx] at this; exact List.eq_nil_of_length_eq_zero this.symm
  subst he
  exact hQ _ H _ ⟨os,I2.push r2'⟩ q
 ·have he : fs = [] := by have := rs'.length; rw [hy] at this; exact List.eq_nil_of_length_eq_zero this.symm
  subst he
  rw[append_nil] at q
  exact hQ _ H _ ⟨os,I2.push r1'⟩ q
 ·exact hQ _ _ _ ⟨os,I2.newTup (rs.append rs') hp⟩ q
end
section
variable {A:AC} {X:Cx} {a b c e:Expr} {es:List Expr} {te ta tb tc:TD} {t1:TAD} {pos p:Pos}
def intOf(d:D)(k:Int->Prop):Prop:=∃ i,d=.int i/\k i
@[simp] theorem q_intOf{i:Int}{k}:intOf (.int i) k↔k i:=⟨fun⟨_,e,h⟩=>by cases e;exact h,fun h=>⟨_,rfl,h⟩⟩
def dChain(f g:Int->Int->Bool)(ta tb tc:TD):TD:=fun rho n P=>ta rho n fun d1 n1=>tb rho n1 fun d2 n2=>intOf d1 fun i=>intOf d2 fun j=>if f i j=true then tc rho n2 fun d3 n3=>intOf d3 fun k=>P (.bl (g j k)) n3 else P (.bl false) n2
@[simp] theorem q_dChain{f g ta tb tc rho n P}:dChain f g ta tb tc rho n P=ta rho n fun d1 n1=>tb rho n1 fun d2 n2=>intOf d1 fun i=>intOf d2 fun j=>if f i j=true then tc rho n2 fun d3 n3=>intOf d3 fun k=>P (.bl (g j k)) n3 else P (.bl false) n2:=rfl
def iRng2D(t:TAD):TID:=fun rho n P=>t rho n fun es n1=>pair2 es fun d1 d2=>intOf d1 fun i=>intOf d2 fun j=>(-(2^62)<=i/\i<2^62/\-(2^62)<=j/\j<2^62)/\P (rngD i (j-i).toNat) n1
@[simp] theorem q_iRng2D{t rho n P}:iRng2D t rho n P=t rho n fun es n1=>pair2 es fun d1 d2=>intOf d1 fun i=>intOf d2 fun j=>(-(2^62)<=i/\i<2^62/\-(2^62)<=j/\j<2^62)/\P (rngD i (j-i).toNat) n1:=rfl
def sExtend(i:Nat)(t:TAD):TSD:=fun F rho n=>ownAt rho[i]? fun es=>t rho n fun ds n1=>∃ fs,ds=[.lst fs]/\es.length+fs.length<=sizeLine/\F.nx (rho.set i (some (.own (es++fs)))) n1
@[simp] theorem q_sExtend{i t F rho n}:sExtend i t F rho n=ownAt rho[i]? fun es=>t rho n fun ds n1=>∃ fs,ds=[.lst fs]/\es.length+fs.length<=sizeLine/\F.nx (rho.set i (some (.own (es++fs)))) n1:=rfl
end
theorem vals_of_ints:∀ {us:List Value} {ns:List Int},IntsAre us ns->Vals (ns.map V.int) us
 | _,_,.nil=>.nil
 | _,_,.cons n t h=>.cons ⟨t,rfl⟩ (vals_of_ints h)
section
variable {X:Cx} {A:AC}
theorem call_sorted:CallR X (.builtin "sorted") (fun xs H Q=>∃ (p:Addr) (ns:List Int),xs=[.ref p]/\SqL X.K H p (ns.map V.int)/\ns.length<64/\∀ ms:List Int,ms.Perm ns->ms.Pairwise (·<=·)->∀ l,H l=none->Q (.ref l) (upd H l (.lst (ms.map V.int)))):=by
  intro pins s σ H xs us Q I r h
  obtain⟨p,ns,rfl,hq,hn,q⟩:=h
  cases r with
  | cons r rr =>
    cases rr
    cases r
    obtain⟨its,rv,pl,_⟩:=I.list hq
    have hl:=pl.isList
    have hsz:its.length=ns.length:=by have:=rv.length;simpa using this.symm
    refine sorted_ints hl (intsAre_of rv) (by lia) fun out ms hi hp hs=>?_
    obtain⟨e,he⟩:=sortedAll_at s.heap its out
    have hml:ms.length=ns.length:=hp.length_eq
    have hf:H (s.heap.objs.size+1)=none:=I.hok.fresh (Nat.le_succ _)
    refine⟨.ref (s.heap.objs.size+1),_,I.laid (t':=s.toks) (o:=.lst (ms.map V.int)) (fun b u e=>sortedAll_old e) (Nat.le_succ _) ?_,rfl,q ms hp hs _ hf⟩
    exact⟨by rw[length_map];exact Nat.le_trans (by lia) (zM (k:=64) (by lia)),out.toList,e,vals_of_ints hi,he⟩
def kSorted:List D->(D->Prop)->Prop:=fun es k=>∃ ns:List Int,es=[.lst (ns.map D.int)]/\ns.length<64/\∀ ms:List Int,ms.Perm ns->ms.Pairwise (·<=·)->k (.lst (ms.map D.int))
theorem cr_sorted:xg A (fun xs H Q=>∃ (p:Addr) (ns:List Int),xs=[.ref p]/\SqL A.K H p (ns.map V.int)/\ns.length<64/\∀ ms:List Int,ms.Perm ns->ms.Pairwise (·<=·)->∀ l,H l=none->Q (.ref l) (upd H l (.lst (ms.map V.int)))) kSorted:=by
  rintro os n rho sg H ds vs es ws k Q I rs ⟨ns,rfl,hn,q⟩ hQ
  obtain⟨v,rfl,r⟩:=reps1 rs
  obtain⟨a,xs,rfl,sq,rr⟩:=r.lst_inv
  have e:=reps_intsV rr
  subst e
  exact⟨a,ns,rfl,sq.sq,hn,fun ms h1 h2 l hl=>hQ _ _ _ ⟨os,I.newLst reps_ints hl⟩ (q ms h1 h2)⟩
theorem bt_sorted:bootBuiltins "sorted" = some (.builtin "sorted"):=by decide +kernel
end
end L2
namespace L2
theorem swapped2{x y:Str}{px py pt:Pos}{kt k2 pt2}{a b:Expr}{env:Env}(hk:env.blockKind=.function)(hx:env.kindOf x=some .local)(hy:env.kindOf y=some .local)(hl:py.line=px.line)(hxy:x≠y)
  (hsa:zZ a=false) (hsb:zZ b=false) (hf:[a,b].all (foldedForSure 8)=false) (hc:[a,b].all (constantsAlone 8)=false) :
  swappedStores [.Tuple [.Name x px,.Name y py] kt pt] (.Tuple [a,b] k2 pt2) env=pure (some [x,y]):=by
 have e2:(y == x)=false:=beq_false_of_ne (Ne.symm hxy)
 have e:(Expr.Name x px).pos.line=px.line:=rfl
 unfold swappedStores
 simp[hk,hx,hy,hl,hf,hc,e,List.eraseDups,List.eraseDupsBy,List.eraseDupsBy.loop,e2]
 intro h
 exfalso
 rcases h with h | h
 ·cases a<;>first | (simp at h;done) | (simp[zZ] at hsa;done)
 ·cases b<;>first | (simp at h;done) | (simp[zZ] at hsb;done)
section
variable {A:AC} {X:Cx} {a b:Expr} {pos:Pos}
theorem psd_parK{i j:Nat}{x y:Str}{ta:TAD}{px py pt:Pos}{kt k2 pt2}(hc:X.calm=true)(hN:X.N.Nodup)(hi:X.N[i]?=some x)(hj:X.N[j]?=some y)(hij:i≠j)
  (hx:X.env.scope.names.lookup x=some .local) (hy:X.env.scope.names.lookup y=some .local) (ha:PAD A X [a,b] ta)
  (hk:X.env.blockKind=.function:=by rfl) (hl:py.line=px.line:=by rfl) (hxy:x≠y:=by decide) (hsa:zZ a=false:=by rfl) (hsb:zZ b=false:=by rfl) (hf:[a,b].all (foldedForSure 8)=false:=by decide +kernel) (hca:[a,b].all (constantsAlone 8)=false:=by decide +kernel) :
  PSD A X (.Assign [.Tuple [.Name x px,.Name y py] kt pt] (.Tuple [a,b] k2 pt2) pos) (sPar i j ta):=by
 with_unfolding_all
  exact
   psd_par hc hN hi hj hij hx hy ha (swapped2 hk hx hy hl hxy hsa hsb hf hca) rfl
end
theorem ptsd_one{A:AC}{X:Cx}{e:Expr}{t:TBD}(h:PTD A X e t):PTs X [e] (ttOf A t):=by
 with_unfolding_all
  exact pts_one h
end L2
namespace L2
open PySem PySem.Spec PyProof.Rows HT
section
variable {prog:Program} {w:World} {A:Around} {E:Value->Shared->Prop} {s:Shared}
theorem getItem_tuple_whole{t sl:Addr}{items:Array Value}{vl vu:Value}{lo hi:Option Int}{Q:Value->Shared->Prop}(ht:IsTup s.heap t items)(hs:s.heap.IsSliceOf sl vl vu .none)(pl:IsPart vl lo)(pu:IsPart vu hi)
  (h1:sIx items.size 0 lo=0) (h2:sIx items.size items.size hi=items.size) (h:Q (.ref t) s):wpAny (model prog w) A (getItem (.ref t) (.ref sl)) Q E s:=by
 obtain⟨os,hos,hcs,hds⟩:=id hs
 have hTs:s.TypeIs (.ref sl) "slice" := ⟨os,hos,hcs⟩
 unfold getItem
 try with_reducible refine wpAny_holding ?_
 first | refine wpAny_bind (wpAny_pure ?_) | skip
 refine wpAny_bind (wpAny_sequenceKey ht.typeIs (by decide) ?_)
 refine wpAny_bind (wpAny_callSpecial?_slot (name:=Str.ofString "__getitem__") ht.typeIs PyProof.Rows.slot_tuple_getitem
  (wpAny_call_entry PyProof.Rows.slot_tuple_getitem ht.typeIs entry_tuple_getitem ?_ (args_tuple_getitem _ _)))
 show wpAny _ _ (Builtin.Tuple.tupleItemsOf (.ref t) >>= _) _ _ s
 refine wpAny_bind (tupleItemsOf_ ht ?_)
 refine wpAny_bind (wpAny_typeOf hTs ?_)
 rw[if_pos (by decide)]
 refine wpAny_bind (sliceApplied_gen hs pl pu ?_)
 have hyes:((((sIx items.size 0 lo:Nat):Int) == 0&&(1:Int) == 1&&(sIx items.size items.size hi-sIx items.size 0 lo) == items.size)=true):=by
  rw[h1,h2];simp
 show wpAny _ _ (if (((sIx items.size 0 lo:Nat):Int) == 0&&(1:Int) == 1&&(sIx items.size items.size hi-sIx items.size 0 lo) == items.size)=true then _ else _) _ _ s
 rw[if_pos hyes]
 obtain⟨⟨cls,dd,data,sl'⟩,ho,hc,n,hd⟩:=id ht
 simp only at hc hd
 subst hc hd
 unfold Builtin.Tuple.tupleIsExact
 obtain⟨hp,g,d,tk,os'⟩:=s
 wp_walk
 exact⟨_,rfl,wpAny_pure h⟩
end
section
variable {X:Cx}
def rSlTW(K:W.Frag):V->Option Int->Option Int->Hp->VK->Prop:=fun x lo hi H Q=>∃ a xs,x=.ref a/\SqT K H a xs /\
 ((HT.sIx xs.length 0 lo=0/\HT.sIx xs.length xs.length hi=xs.length)->Q (.ref a) H)/\(¬ (HT.sIx xs.length 0 lo=0/\HT.sIx xs.length xs.length hi=xs.length)->∀ p,H p=none->Q (.ref p) (upd H p (.tup (cutV xs lo hi))))
theorem sl_tupW:SlR X (rSlTW X.K):=by
 intro pins s σ H x v vl vu lo hi sl Q I rx hs pl pu h
 obtain⟨a,xs,rfl,hx,q1,q2⟩:=h
 by_cases hw:HT.sIx xs.length 0 lo=0/\HT.sIx xs.length xs.length hi=xs.length
 ·cases rx
  obtain⟨its,r,ht,hz⟩:=I.tuple hx
  have hlen:its.toArray.size=xs.length:=by rw[size_toArray];exact r.length.symm
  refine⟨"tuple",_,PyProof.Rows.slot_tuple_getitem.lookup,ht.typeIs,?_⟩
  exact getItem_tuple_whole ht hs pl pu (by rw[hlen];exact hw.1) (by rw[hlen];exact hw.2) ⟨.ref a,H,I,rfl,q1 hw⟩
 ·exact sl_tup pins s σ H (.ref a) v vl vu lo hi sl Q I rx hs pl pu ⟨a,xs,rfl,hx,hw,q2 hw⟩
end
abbrev TOD:=Rho->Nat->(Option Int->Nat->Prop)->Prop
def oOf(A:AC)(t:TOD):TO:=fun sg H Q=>∃ rho n P ds vs,Am A n rho sg H ds vs/\t rho n P/\∀ o H' n',Am A n' rho sg H' ds vs->P o n'->Q o H'
@[irreducible] def POD(A:AC)(X:Cx)(e:Option Expr)(t:TOD):Prop:=PO X e (oOf A t)
theorem PO.imp{X:Cx}{e:Option Expr}{t t':TO}(h:PO X e t)(hi:∀ sg H Q,t' sg H Q->t sg H Q):PO X e t':=fun pins s sg H Q I q=>h pins s sg H Q I (hi _ _ _ q)
section
variable {A:AC} {X:Cx} {a b c e:Expr} {es:List Expr} {te ta tb tc:TD} {t1:TAD} {pos p:Pos}
def oNone:TOD:=fun _ n P=>P none n
def oSome(t:TD):TOD:=fun rho n P=>t rho n fun d n1=>intOf d fun i=>P (some i) n1
@[simp] theorem q_oNone{rho n P}:oNone rho n P=P none n:=rfl
@[simp] theorem q_oSome{t rho n P}:oSome t rho n P=t rho n fun d n1=>intOf d fun i=>P (some i) n1:=rfl
theorem pod_none:POD A X none oNone:=by
 with_unfolding_all
  exact po_none.imp fun sg H Q h=>by
   obtain⟨rho,n,P,ds,vs,I,h,hQ⟩:=h
   exact hQ none H n I h
theorem pod_some(h:PD A X e te):POD A X (some e) (oSome te):=by
 with_unfolding_all
  exact(po_some h).imp fun sg H Q h=>by
   obtain⟨rho,n,P,ds,vs,I,h,hQ⟩:=h
   refine⟨rho,n,_,ds,vs,I,h,fun v H' n' d ⟨os,J⟩ k=>?_⟩
   obtain⟨i,rfl,k⟩:=k
   obtain⟨J1,r⟩:=J.pop
   exact⟨i,r.int_inv,hQ _ H' n' ⟨os,J1⟩ k⟩
def tupAt(d:D)(k:List D->Prop):Prop:=∃ fs,d=.tup fs/\k fs
@[simp] theorem q_tupAt{fs:List D}{k}:tupAt (.tup fs) k↔k fs:=⟨fun⟨_,e,h⟩=>by cases e;exact h,fun h=>⟨_,rfl,h⟩⟩
def dSlT(ta:TD)(tl th:TOD):TD:=fun rho n P=>ta rho n fun d n1=>tl rho n1 fun lo n2=>th rho n2 fun hi n3=>tupAt d fun fs=>P (.tup (cutL fs lo hi)) n3
@[simp] theorem q_dSlT{ta tl th rho n P}:dSlT ta tl th rho n P=ta rho n fun d n1=>tl rho n1 fun lo n2=>th rho n2 fun hi n3=>tupAt d fun fs=>P (.tup (cutL fs lo hi)) n3:=rfl
theorem cut_whole{fs:List D}{lo hi:Option Int}(h:HT.sIx fs.length 0 lo=0/\HT.sIx fs.length fs.length hi=fs.length):cutL fs lo hi=fs:=by
 unfold cutL
 rw[h.1,h.2,drop_zero,Nat.sub_zero,take_length]
theorem pd_slT{le he:Option Expr}{tl th:TOD}{p2:Pos}(hK:X.K=A.K)(ha:PD A X a ta)(hl:POD A X le tl)(hh:POD A X he th):PD A X (.Subscript a (.Slice le he none p2) pos) (dSlT ta tl th):=by
 with_unfolding_all
  exact(pe_slice sl_tupW ha hl hh).imp fun sg H Q h=>by
   obtain⟨rho,n,P,ds,vs,I,ht,hQ⟩:=h
   refine⟨rho,n,_,ds,vs,I,ht,fun v H1 n1 d J1 h1=>⟨rho,n1,_,_,_,J1,h1,fun lo H2 n2 J2 h2=>⟨rho,n2,_,_,_,J2,h2,fun hi H3 n3 ⟨os,J3⟩ h3=>?_⟩⟩⟩
   obtain⟨fs,rfl,k⟩:=h3
   obtain⟨J4,r⟩:=J3.pop
   have r':=r
   obtain⟨l,xs,rfl,sq,rs⟩:=r.tup_inv
   rw[hK]
   have hlen:xs.length=fs.length:=rs.length
   refine⟨l,xs,rfl,sq.sq,fun hw=>?_,fun hw p hp=>hQ _ _ n3 _ ⟨os,J4.newTup (reps_cut rs lo hi) hp⟩ k⟩
   rw[hlen] at hw
   rw[cut_whole hw] at k
   exact hQ _ H3 n3 _ ⟨os,J4.push r'⟩ k
end
end L2
namespace L2
section
variable {A:AC} {X:Cx} {a b c e:Expr} {es:List Expr} {te ta tb tc:TD} {t1:TAD} {pos p:Pos}
theorem big_of{pins:List (Addr × Obj)}{σ:St}{H:Hp}{s:Shared}(I:Inv X pins σ H s):sysModules<s.heap.objs.size:=Nat.lt_trans (by decide) (I.mod.glob.keeps I.bk).lt
theorem dic_ok{P:Program}{w:World}{H:Hp}(h:Heap)(hb:sysModules<h.objs.size):ObjOk P w H (h.push { cls:=.type "dict",data:=.dict #[] }) h.objs.size (.dK []) :=
 ⟨Nat.zero_le _,beq_eq_false_iff_ne.mpr (Ne.symm (Nat.ne_of_lt hb)),[],.nil,Heap.DictOf.new h⟩
end
section
variable {A:AC} {X:Cx}
end
end L2
namespace L2
section
variable {A:AC} {X:Cx} {pos p:Pos}
def dFn0(t:TF):TD:=fun _ n P=>t [] n P
@[simp] theorem q_dFn0{t rho n P}:dFn0 t rho n P=t [] n P:=rfl
end
end L2
namespace L2
section
variable {A:AC} {X:Cx} {a b e:Expr} {ta tb:TD} {pos p:Pos}
def sSetCatO(i:Nat)(ta tb:TD):TSD:=fun F rho n=>i<rho.length/\ta rho n fun d1 n1=>tb rho n1 fun d2 n2=>lstOf d1 fun es=>lstOf d2 fun fs=>es.length+fs.length<=sizeLine/\F.nx (rho.set i (some (.own (es++fs)))) n2
@[simp] theorem q_sSetCatO{i ta tb F rho n}:sSetCatO i ta tb F rho n=(i<rho.length/\ta rho n fun d1 n1=>tb rho n1 fun d2 n2=>lstOf d1 fun es=>lstOf d2 fun fs=>es.length+fs.length<=sizeLine/\F.nx (rho.set i (some (.own (es++fs)))) n2):=rfl
def kStr:List D->(D->Prop)->Prop:=fun es k=>∃ i:Int,es=[.int i]/\i.natAbs.log2<1920/\k (.str (toString i))
@[simp] theorem q_kStr{i:Int}{k}:kStr [.int i] k↔(i.natAbs.log2<1920/\k (.str (toString i))):=⟨fun⟨_,e,h⟩=>by cases e;exact h,fun h=>⟨_,rfl,h⟩⟩
end
end L2
namespace L2
open PySem PySem.Spec PyProof.Rows HT
section
variable {prog:Program} {w:World} {A:Around} {E:Value->Shared->Prop} {s:Shared}
end
section
variable {X:Cx} {e:Expr} {te:TE} {pos p2:Pos}
end
section
variable {A:AC} {X:Cx} {a:Expr} {ta:TD} {pos p2 p3 p4:Pos}
def dRev(ta:TD):TD:=fun rho n P=>ta rho n fun d n1=>tupAt d fun fs=>P (.tup fs.reverse) n1
@[simp] theorem q_dRev{ta rho n P}:dRev ta rho n P=ta rho n fun d n1=>tupAt d fun fs=>P (.tup fs.reverse) n1:=rfl
end
end L2
namespace L2
open PySem PySem.Spec PyProof.Rows PySem.W PySem.Calls PySem.NumText
section
variable {A:AC} {X:Cx} {e:Expr} {te:TD} {pos:Pos}
def sWhile(tc:TBD)(tb:TSD):TSD:=fun F rho n=>∃ J:Nat->Rho->Nat->Prop,(∃ m,J m rho n)/\∀ m rho n,J m rho n->tc rho n fun b n1=>if b=true then tb { F with nx:=fun rho' n'=>∃ m',m'<m/\J m' rho' n',ct:=fun rho' n'=>∃ m',m'<m/\J m' rho' n',bk:=F.nx } rho n1 else F.nx rho n1
theorem psd_while{c:Expr}{body:List Stmt}{tc:TBD}{tb:TSD}(hp:PassesOwn (model X.prog X.w) X.A X.env X.xe)(hc:PTD A X c tc)(hb:PSsD A X body tb):PSD A X (.While c body [] pos) (sWhile tc tb):=by
 with_unfolding_all
  exact(ps_while hp hc hb).imp fun E sg H h=>by
   obtain⟨rho,n,F,ds,vs,I,⟨J,⟨m0,j0⟩,turn⟩,ok⟩:=h
   refine⟨fun m sg H=>∃ rho n,Am A n rho sg H ds vs/\J m rho n,⟨m0,rho,n,I,j0⟩,?_⟩
   rintro m sg1 H1 ⟨rho1,n1,I1,j1⟩
   refine⟨rho1,n1,_,ds,vs,I1,turn m rho1 n1 j1,fun b H2 n2 I2 k=>?_⟩
   cases b with
   | true =>
    rw[if_pos rfl] at k ⊢
    refine⟨fun sg' H'=>∃ m',m'<m/\∃ rho n,Am A n rho sg' H' ds vs/\J m' rho n,fun sg' H' ⟨m',hm,q⟩=>⟨m',hm,q⟩,rho1,n2,_,ds,vs,I2,k,?_⟩
    exact⟨fun rho6 n6 sg6 H6 I6 ⟨m',hm,k6⟩=>⟨m',hm,rho6,n6,I6,k6⟩,fun d n6 v rho6 sg6 H6 I6 k6=>ok.rt _ _ _ _ _ _ I6 k6,fun rho6 n6 sg6 H6 I6 k6=>ok.nx _ _ _ _ I6 k6,fun rho6 n6 sg6 H6 I6 ⟨m',hm,k6⟩=>⟨m',hm,rho6,n6,I6,k6⟩⟩
   | false =>
    rw[if_neg Bool.false_ne_true] at k ⊢
    exact ok.nx _ _ _ _ I2 k
@[simp] theorem q_sWhile{tc tb F rho n}:sWhile tc tb F rho n=∃ J:Nat->Rho->Nat->Prop,(∃ m,J m rho n)/\∀ m rho n,J m rho n->tc rho n fun b n1=>if b=true then tb { F with nx:=fun rho' n'=>∃ m',m'<m/\J m' rho' n',ct:=fun rho' n'=>∃ m',m'<m/\J m' rho' n',bk:=F.nx } rho n1 else F.nx rho n1:=rfl
def sAugI(f:Int->Int->Int)(i:Nat)(te:TD):TSD:=fun F rho n=>i<rho.length/\∃ a:Int,rho[i]?=some (some (.int a))/\te rho n fun d n1=>∃ b:Int,d=.int b/\F.nx (rho.set i (some (.int (f a b)))) n1
theorem psd_augI{i:Nat}{x:Str}{op:Operator}{f:Int->Int->Int}{pos':Pos}(ho:PIp X op (ipI f))(hN:X.N.Nodup)(hi:X.N[i]?=some x)(hx:Loc X.env.scope x)(he:PD A X e te)(hf:X.fn x=true\/X.env.scope.names.lookup x=some .local:=by first | exact .inl rfl | exact .inr rfl | assumption) :
  PSD A X (.AugAssign (.Name x pos') op e pos) (sAugI f i te):=by
 with_unfolding_all
  exact(ps_aug hN hi hx he ho hf).imp fun E sg H h=>by
   obtain⟨rho,n,F,ds,vs,⟨os,I⟩,⟨hl,a,ha,ht⟩,ok⟩:=h
   obtain⟨v,e1,e2⟩:=I.slot i _ ha
   have e3:=SlotR.rep (d:=.int a) rfl e2
   refine⟨v,e1,rho,n,_,ds,vs,⟨os,I⟩,ht,fun w H' n' d ⟨os',J⟩ k=>?_⟩
   obtain⟨b,rfl,k⟩:=k
   obtain⟨J1,r⟩:=J.pop
   refine⟨a,b,e3.int_inv,r.int_inv,ok.nx _ _ _ _ ⟨_,AmO.set (d:=.int (f a b)) (J1.push (Rep.ofS rfl)) hl⟩ k⟩
@[simp] theorem q_sAugI{f i te F rho n}:sAugI f i te F rho n=(i<rho.length/\∃ a:Int,rho[i]?=some (some (.int a))/\te rho n fun d n1=>∃ b:Int,d=.int b/\F.nx (rho.set i (some (.int (f a b)))) n1):=rfl
def rdCatS:RD2:=fun d1 d2 k=>∃ x y,d1=.str x/\d2=.str y/\x.length+y.length<=sizeLine/\k (.str (x++y))
@[simp] theorem q_rdCatS{x y k}:rdCatS (.str x) (.str y) k↔(x.length+y.length<=sizeLine/\k (.str (x++y))):=⟨fun⟨_,_,e,e',h⟩=>by cases e;cases e';exact h,fun h=>⟨_,_,rfl,rfl,h⟩⟩
def rdMulS:RD2:=fun d1 d2 k=>∃ x i,d1=.str x/\d2=.int i/\MulOk x i/\k (.str (Txt.mul x i))
@[simp] theorem q_rdMulS{x i k}:rdMulS (.str x) (.int i) k↔(MulOk x i/\k (.str (Txt.mul x i))):=⟨fun⟨_,_,e,e',h⟩=>by cases e;cases e';exact h,fun h=>⟨_,_,rfl,rfl,h⟩⟩
end
section
variable {A:AC} {X:Cx}
end
end L2
namespace L2
end L2
namespace L2
open PySem PySem.Spec PyProof.Rows PySem.W PySem.Calls
theorem swapped3{x y z:Str}{px py pz pt:Pos}{kt k2 pt2}{a b c:Expr}{env:Env}(hk:env.blockKind=.function)(hx:env.kindOf x=some .local)(hy:env.kindOf y=some .local)(hz:env.kindOf z=some .local)(hl:py.line=px.line)(hl2:pz.line=px.line)(hxy:x≠y)(hxz:x≠z)(hyz:y≠z)
  (hsa:zZ a=false) (hsb:zZ b=false) (hsc:zZ c=false) (hf:[a,b,c].all (foldedForSure 8)=false) (hc:[a,b,c].all (constantsAlone 8)=false) :
  swappedStores [.Tuple [.Name x px,.Name y py,.Name z pz] kt pt] (.Tuple [a,b,c] k2 pt2) env=pure (some [x,y,z]):=by
 have e2:(y == x)=false:=beq_false_of_ne (Ne.symm hxy)
 have e3:(z == x)=false:=beq_false_of_ne (Ne.symm hxz)
 have e4:(z == y)=false:=beq_false_of_ne (Ne.symm hyz)
 have e:(Expr.Name x px).pos.line=px.line:=rfl
 unfold swappedStores
 simp[hk,hx,hy,hz,hl,hl2,hf,hc,e,List.eraseDups,List.eraseDupsBy,List.eraseDupsBy.loop,e2,e3,e4]
 intro h
 exfalso
 rcases h with h | h | h
 ·cases a<;>first | (simp at h;done) | (simp[zZ] at hsa;done)
 ·cases b<;>first | (simp at h;done) | (simp[zZ] at hsb;done)
 ·cases c<;>first | (simp at h;done) | (simp[zZ] at hsc;done)
section
variable {X:Cx} {pos:Pos}
def tPar3(i j k:Nat)(ta:TA):TS:=fun D σ H=>ta σ H fun vs H1=>∃ u v w,vs=[u,v,w]/\D.nx (((σ.set k (some w)).set j (some v)).set i (some u)) H1
theorem ps_par3{i j k:Nat}{x y z:Str}{a b c:Expr}{ta:TA}{px py pz pt:Pos}{kt k2 pt2}(hc:X.calm=true)(hN:X.N.Nodup)(hi:X.N[i]?=some x)(hj:X.N[j]?=some y)(hk:X.N[k]?=some z)
  (hx:X.env.scope.names.lookup x=some .local) (hy:X.env.scope.names.lookup y=some .local) (hz:X.env.scope.names.lookup z=some .local) (ha:PA X [a,b,c] ta)
  (hw:swappedStores [.Tuple [.Name x px,.Name y py,.Name z pz] kt pt] (.Tuple [a,b,c] k2 pt2) X.env=pure (some [x,y,z]))
  (hs:swapsWithSole [.Tuple [.Name x px,.Name y py,.Name z pz] kt pt] (.Tuple [a,b,c] k2 pt2) pos.line X.env=pure false:=by rfl) :
  PS X (.Assign [.Tuple [.Name x px,.Name y py,.Name z pz] kt pt] (.Tuple [a,b,c] k2 pt2) pos) (tPar3 i j k ta):=by
 intro pins s σ H D I h
 rw[exec_Assign_arm]
 refine wpAny_bind (wpAny_standAt ?_)
 rw[hs]
 refine wpAny_bind (wpAny_pure ?_)
 rw[if_neg (by decide)]
 refine wpAny_bind (Tuple_ (thn (ha _ pins s σ H _ I h) fun us s1 ⟨vs,H1,I1,r1,q1⟩=>?_))
 obtain⟨t,v,w,e1,q1⟩:=q1
 subst e1
 obtain⟨u0,u1,u2,rfl,rt,rv,rw'⟩:∃ u0 u1 u2,us=[u0,u1,u2]/\RelV t u0/\RelV v u1/\RelV w u2:=by
  cases r1 with
  | cons p q =>
   cases q with
   | cons p' q' =>
    cases q' with
    | cons p2 q2 =>
     cases q2
     exact⟨_,_,_,rfl,p,p',p2⟩
 refine wpAny_newObj_type ?_ (by show 3<=sizeLine;decide)
 have I2:Inv X pins σ H1 { s1 with heap:=s1.heap.push { cls:=.type "tuple",data:=.seq [u0,u1,u2].toArray } }:=I1.kept (t':=s1.toks) fun b o e=>Heap.get?_push_of_some _ e
 rw[hw]
 refine wpAny_bind (wpAny_pure ?_)
 show wpAny (model X.prog X.w) X.A (do rule "assign.swapped-stores";let items <- unpackItems (.ref s1.heap.objs.size) 3 none;assignInOrder [fun v=>bindName X.env z v,fun v=>bindName X.env y v,fun v=>bindName X.env x v] items.reverse;pure Flow.next) _ _ _
 refine wpAny_bind (wpAny_rule (wpAny_bind (unpackItems_tuple (items:=#[u0,u1,u2]) (I.ok.hd hc) (IsTup.new s1.heap _) fun h' hx'=>?_)))
 have I3:=I2.kept (h':=h') (t':=s1.toks) fun b o e=>hx' b o (Nat.ne_of_lt (Heap.lt_size e)) e
 show wpAny _ _ (assignInOrder [fun v=>bindName X.env z v,fun v=>bindName X.env y v,fun v=>bindName X.env x v] [u2,u1,u0] >>= fun _=>pure Flow.next) _ _ _
 refine wpAny_bind (assignInOrder_cons (wpAny_bindName (store_ok I3 hN hk (.inl hz) rw' (fun s2 I4=>?_) (.inr hz))))
 refine assignInOrder_cons (wpAny_bindName (store_ok I4 hN hj (.inl hy) rv (fun s3 I5=>?_) (.inr hy)))
 refine assignInOrder_cons (wpAny_bindName (store_ok I5 hN hi (.inl hx) rt (fun s4 I6=>assignInOrder_nil (wpAny_pure ?_)) (.inr hx)))
 exact⟨_,H1,I6,q1⟩
end
section
variable {A:AC} {X:Cx} {a b c:Expr} {pos:Pos}
def sPar3(i j k:Nat)(t:TAD):TSD:=fun F rho n=>i<rho.length/\j<rho.length/\k<rho.length/\t rho n fun es n1=>∃ d d' d2,es=[d,d',d2]/\F.nx (((rho.set k (some d2)).set j (some d')).set i (some d)) n1
@[simp] theorem q_sPar3{i j k t F rho n}:sPar3 i j k t F rho n=(i<rho.length/\j<rho.length/\k<rho.length/\t rho n fun es n1=>∃ d d' d2,es=[d,d',d2]/\F.nx (((rho.set k (some d2)).set j (some d')).set i (some d)) n1):=rfl
theorem psd_par3K{i j k:Nat}{x y z:Str}{ta:TAD}{px py pz pt:Pos}{kt k2 pt2}(hc:X.calm=true)(hN:X.N.Nodup)(hi:X.N[i]?=some x)(hj:X.N[j]?=some y)(hk3:X.N[k]?=some z)
  (hx:X.env.scope.names.lookup x=some .local) (hy:X.env.scope.names.lookup y=some .local) (hz:X.env.scope.names.lookup z=some .local) (ha:PAD A X [a,b,c] ta)
  (hk:X.env.blockKind=.function:=by rfl) (hl:py.line=px.line:=by rfl) (hl2:pz.line=px.line:=by rfl) (hxy:x≠y:=by decide) (hxz:x≠z:=by decide) (hyz:y≠z:=by decide) (hsa:zZ a=false:=by rfl) (hsb:zZ b=false:=by rfl) (hsc:zZ c=false:=by rfl) (hf:[a,b,c].all (foldedForSure 8)=false:=by decide +kernel) (hca:[a,b,c].all (constantsAlone 8)=false:=by decide +kernel) :
  PSD A X (.Assign [.Tuple [.Name x px,.Name y py,.Name z pz] kt pt] (.Tuple [a,b,c] k2 pt2) pos) (sPar3 i j k ta):=by
 with_unfolding_all
  exact(ps_par3 hc hN hi hj hk3 hx hy hz ha (swapped3 hk hx hy hz hl hl2 hxy hxz hyz hsa hsb hsc hf hca)).imp fun E sg H h=>by
   obtain⟨rho,n,F,ds,vs,I,⟨hl,hl2,hl3,ht⟩,ok⟩:=h
   refine⟨rho,n,_,ds,vs,I,ht,fun ws H' n' es ⟨os,J⟩ hlen k=>?_⟩
   obtain⟨d,d',d2,rfl,k⟩:=k
   obtain⟨J1,rs⟩:=J.split hlen
   obtain⟨v1,r1,rfl,q1,rs⟩:=rs.split
   obtain⟨v2,v3,rfl,q2,q3⟩:=reps2 rs
   refine⟨v1,v2,v3,rfl,ok.nx _ _ _ _ ?_ k⟩
   have J2:AmO A os n' rho sg H' (d2::d'::d::ds) (v3::v2::v1::vs):=((J1.push q1).push q2).push q3
   exact⟨_,((J2.set hl3).set (by simpa using hl2)).set (by simpa using hl)⟩
end
end L2
namespace L2.Srt
open PySem PyProof.Rows
def lab(ls:Array Nat)(i:Nat):Nat:=ls.getD i 0
structure Rule(prog:Program)(w:World)(A:Around)(s:Shared)(n:Nat)(item:Nat->Keyed)(kd:SortKind)(r:Nat->Nat->Bool):Prop where
 tot:∀ a b,a<n->b<n->a≠b->r a b=!r b a
 tr:∀ a b c,a<n->b<n->c<n->r a b=true->r b c=true->r a c=true
 cmp:∀ a b,a<n->b<n->a≠b->∀ (E:Value->Shared->Prop) (Q:Bool->Shared->Prop),Q (r a b) s->wpAny (model prog w) A (keyLt' kd (item a).1 (item b).1) Q E s
structure Now(n:Nat)(item:Nat->Keyed)(kd:SortKind)(ls:Array Nat)(t:SortSt):Prop where
 arr:arrOf t=ls.map item
 kd:kindOf t=kd
 ok:failedOf t=none
 pend:pendingOf t=#[]
 perm:ls.Perm (Array.range n)
def Up(r:Nat->Nat->Bool)(ls:Array Nat)(k:Nat):Prop:=∀ i j,i<j->j<k->r (lab ls i) (lab ls j)=true
def Down(r:Nat->Nat->Bool)(ls:Array Nat)(k:Nat):Prop:=∀ i j,i<j->j<k->r (lab ls j) (lab ls i)=true
section
variable {n:Nat} {item:Nat->Keyed} {kd:SortKind} {r:Nat->Nat->Bool} {ls:Array Nat} {t:SortSt}
theorem Now.size(N:Now n item kd ls t):ls.size=n:=by rw[N.perm.size_eq,Array.size_range]
theorem Now.nodup(N:Now n item kd ls t):ls.toList.Nodup:=(Array.perm_iff_toList_perm.mp N.perm).nodup_iff.mpr (by rw[Array.toList_range];exact List.nodup_range)
theorem lab_get{i:Nat}(h:i<ls.size):ls[i]?=some (lab ls i):=by
 unfold lab
 rw[Array.getD_eq_getD_getElem?,Array.getElem?_eq_getElem h];rfl
theorem Now.lt(N:Now n item kd ls t){i:Nat}(h:i<n):lab ls i<n:=by
 have e:=lab_get (ls:=ls) (i:=i) (by rw[N.size];exact h)
 have m:lab ls i∈ls:=Array.mem_of_getElem? e
 have m2:lab ls i∈Array.range n:=(N.perm.mem_iff).mp m
 rwa [Array.mem_range] at m2
theorem Now.ne(N:Now n item kd ls t){i j:Nat}(hi:i<n)(hj:j<n)(h:i≠j):lab ls i≠lab ls j:=fun e=>by
 have hi':i<ls.toList.length:=by rw[Array.length_toList,N.size];exact hi
 have hj':j<ls.toList.length:=by rw[Array.length_toList,N.size];exact hj
 have e1:=lab_get (ls:=ls) (i:=i) (by rw[N.size];exact hi)
 have e2:=lab_get (ls:=ls) (i:=j) (by rw[N.size];exact hj)
 rw[<- Array.getElem?_toList,getElem?_eq_getElem hi'] at e1
 rw[<- Array.getElem?_toList,getElem?_eq_getElem hj'] at e2
 have f:=List.pairwise_iff_getElem.mp N.nodup
 rcases Nat.lt_or_gt_of_ne h with g | g
 ·exact f i j hi' hj' g (by rw[Option.some.inj e1,Option.some.inj e2,e])
 ·exact f j i hj' hi' g (by rw[Option.some.inj e1,Option.some.inj e2,e])
theorem lab_of_get{as:Array Nat}{k v:Nat}(h:as[k]?=some v):lab as k=v:=by
 unfold lab
 rw[Array.getD_eq_getD_getElem?,h];rfl
theorem bub_lab{src d:Nat}(hs:src<ls.size)(hd:d<=src){k:Nat}(hk:k<ls.size):lab (bubble ls src d) k=if k=src-d then lab ls src else if src-d<k/\k<=src then lab ls (k-1) else lab ls k:=by
 refine lab_of_get ?_
 rw[getElem?_bubble hs d hd k]
 split
 ·exact lab_get hs
 ·split
  ·exact lab_get (by lia)
  ·exact lab_get hk
theorem bub_map{src d:Nat}(hs:src<ls.size)(hd:d<=src):bubble (ls.map item) src d=(bubble ls src d).map item:=by
 refine Array.ext_getElem? fun k=>?_
 rw[getElem?_bubble (by simpa using hs) d hd k]
 simp only[Array.getElem?_map]
 rw[getElem?_bubble hs d hd k]
 split
 ·rfl
 ·split<;>rfl
theorem mir_lab{i j:Nat}(hj:j<=ls.size){k:Nat}(hk:k<ls.size):lab (mirror ls i j ((j-i)/2)) k=if i<=k/\k<j then lab ls (i+j-1-k) else lab ls k:=by
 refine lab_of_get ?_
 rw[getElem?_mirror_all hj k]
 split
 ·exact lab_get (by lia)
 ·exact lab_get hk
theorem mir_map{i j:Nat}(hj:j<=ls.size):mirror (ls.map item) i j ((j-i)/2)=(mirror ls i j ((j-i)/2)).map item:=by
 refine Array.ext_getElem? fun k=>?_
 rw[getElem?_mirror_all (by simpa using hj) k]
 simp only[Array.getElem?_map]
 rw[getElem?_mirror_all hj k]
 split<;>rfl
theorem Now.bub(N:Now n item kd ls t){src d:Nat}(hs:src<n)(hd:d<=src):Now n item kd (bubble ls src d) (setArr t (bubble (arrOf t) src d)) :=
 ⟨by show bubble (arrOf t) src d=_;rw[N.arr];exact bub_map (by rw[N.size];exact hs) hd,N.kd,N.ok,N.pend,(bubble_perm _ _ _).trans N.perm⟩
theorem Now.mir(N:Now n item kd ls t){i j:Nat}(hj:j<=n):Now n item kd (mirror ls i j ((j-i)/2)) (setArr t (mirror (arrOf t) i j ((j-i)/2))) :=
 ⟨by show mirror (arrOf t) i j _=_;rw[N.arr];exact mir_map (by rw[N.size];exact hj),N.kd,N.ok,N.pend,(mirror_perm _ _ _ _).trans N.perm⟩
end
section
variable {prog:Program} {w:World} {A:Around} {E:Value->Shared->Prop} {s:Shared} {n:Nat} {item:Nat->Keyed} {kd:SortKind} {r:Nat->Nat->Bool} {ls:Array Nat} {t:SortSt}
theorem at_lt(R:Rule prog w A s n item kd r)(N:Now n item kd ls t){i j:Nat}(hi:i<n)(hj:j<n)(hij:i≠j){Q:Option Bool->SortSt->Prop}(q:Q (some (r (lab ls i) (lab ls j))) t):wpS (model prog w) A E s (ltAt' i j) Q t:=by
 have gi:(arrOf t)[i]?=some (item (lab ls i)):=by rw[N.arr,Array.getElem?_map,lab_get (by rw[N.size];exact hi)];rfl
 have gj:(arrOf t)[j]?=some (item (lab ls j)):=by rw[N.arr,Array.getElem?_map,lab_get (by rw[N.size];exact hj)];rfl
 rw[ltAt'_eq]
 refine wpS_bind (wpS_get ?_)
 show wpS (model prog w) A E s (elem' (arrOf t) i >>= fun x=>elem' (arrOf t) j >>= fun y=>lt' x y) Q t
 rw[elem'_eq,elem'_eq,gi,gj]
 refine wpS_bind (wpS_pure (wpS_bind (wpS_pure ?_)))
 rw[lt'_eq]
 refine wpS_bind (wpS_get (wpS_bind (wpS_lift (wpAny_attempt ?_))))
 rw[N.kd]
 exact R.cmp _ _ (N.lt hi) (N.lt hj) (N.ne hi hj hij) _ _ ⟨rfl,wpS_pure q⟩
theorem asc(R:Rule prog w A s n item kd r)(N:Now n item kd ls t){a:Nat}(h1:1<=a)(ha:a<=n)(U:Up r ls a){Q:AscSt->SortSt->Prop}(q:∀ m,a<=m->m<=n->Up r ls m->(m<n->r (lab ls m) (lab ls (m-1))=true)->Q (none,m) t):wpS (model prog w) A E s (ascLoop a n) Q t:=by
 unfold ascLoop
 refine wpS_forRange (fun x c t'=>t'=t/\c=(none,x)/\Up r ls x) ?_ ?_ ⟨rfl,rfl,U⟩
 ·rintro x c t' hx hn ⟨e, e', V⟩
  subst e e'
  refine wpS_bind (at_lt R N hn (by show x-1<n;lia) (by show x≠x-1;lia) ?_)
  cases z:r (lab ls x) (lab ls (x-1))
  ·refine wpS_pure ⟨rfl, rfl, fun i j hij hj => ?_⟩
   by_cases hjx:j<x
   ·exact V i j hij hjx
   ·obtain rfl : j = x := by lia
    have up:r (lab ls (j-1)) (lab ls j)=true:=by rw[R.tot _ _ (N.lt (by lia)) (N.lt hn) (N.ne (by lia) hn (by lia)),z];rfl
    by_cases hi:i=j-1
    ·rw[hi];exact up
    ·exact R.tr _ _ _ (N.lt (by lia)) (N.lt (by lia)) (N.lt hn) (V i (j-1) (by lia) (by lia)) up
  ·exact wpS_pure (q x hx (by lia) V fun _=>z)
 ·rintro c t' ⟨e, e', V⟩
  subst e e'
  have:max a n=n:=by lia
  rw[this] at V ⊢
  exact q n ha (Nat.le_refl n) V fun h=>absurd h (Nat.lt_irrefl n)
theorem turned(R:Rule prog w A s n item kd r)(N:Now n item kd ls t){a:Nat}(h1:1<=a)(ha:a<=n)(V:Down r ls a){Q:Option Nat->SortSt->Prop}(q:∀ m ls' t',1<=m->m<=n->Now n item kd ls' t'->Up r ls' m->Q (some m) t'):wpS (model prog w) A E s (tail3 a n) Q t:=by
 unfold tail3
 refine wpS_bind (wpS_reverse ?_)
 have N':=N.mir (i:=0) ha
 have hsz:=N.size
 refine wpS_bind (asc R N' h1 ha (fun i j hij hj=>?_) fun m h2 h3 U _=>wpS_pure (q m _ _ (by lia) h3 N' U))
 rw[mir_lab (by lia) (by lia),mir_lab (by lia) (by lia),if_pos (by lia),if_pos (by lia)]
 exact V _ _ (by lia) (by lia)
theorem falling(R:Rule prog w A s n item kd r)(N:Now n item kd ls t){a:Nat}(h1:1<=a)(ha:a<=n)(V:Down r ls a){Q:DescSt->SortSt->Prop}(q:∀ m,a<=m->m<=n->Down r ls m->Q (none,m,0) t):wpS (model prog w) A E s (descLoop a n) Q t:=by
 unfold descLoop
 refine wpS_forRange (fun x c t'=>t'=t/\c=(none,x,0)/\Down r ls x) ?_ ?_ ⟨rfl,rfl,V⟩
 ·rintro x c t' hx hn ⟨e, e', W⟩
  subst e e'
  refine wpS_bind (at_lt R N hn (by show x-1<n;lia) (by show x≠x-1;lia) ?_)
  cases z:r (lab ls x) (lab ls (x-1))
  ·have up : r (lab ls (x - 1)) (lab ls x) = true := by rw [R.tot _ _ (N.lt (by lia)) (N.lt hn) (N.ne (by lia) hn (by lia)), z]; rfl
   refine wpS_bind (at_lt R N (by show x-1<n;lia) hn (by show x-1≠x;lia) ?_)
   rw[up]
   exact wpS_pure (q x hx (by lia) W)
  ·refine wpS_pure ⟨rfl, rfl, fun i j hij hj => ?_⟩
   by_cases hjx:j<x
   ·exact W i j hij hjx
   ·obtain rfl : j = x := by lia
    by_cases hi:i=j-1
    ·rw[hi];exact z
    ·exact R.tr _ _ _ (N.lt hn) (N.lt (by lia)) (N.lt (by lia)) z (W i (j-1) (by lia) (by lia))
 ·rintro c t' ⟨e, e', W⟩
  subst e e'
  have:max a n=n:=by lia
  rw[this] at W ⊢
  exact q n ha (Nat.le_refl n) W
theorem run(R:Rule prog w A s n item kd r)(N:Now n item kd ls t)(h1:1<=n){Q:Option Nat->SortSt->Prop}(q:∀ m ls' t',1<=m->m<=n->Now n item kd ls' t'->Up r ls' m->Q (some m) t'):wpS (model prog w) A E s (countRun' 0 n) Q t:=by
 rw[countRun0_eq]
 refine wpS_bind (asc R N (Nat.le_refl 1) h1 (fun i j hij hj=>by lia) fun m h2 h3 U hm=>?_)
 show wpS (model prog w) A E s (if (m == n)=true then _ else if m > 1 then _ else _) Q t
 by_cases e:m=n
 ·rw [if_pos (by simpa using e)]
  exact wpS_pure (q m _ _ h2 h3 N U)
 ·rw [if_neg (by simpa using e)]
  by_cases g:m > 1
  ·rw [if_pos g]
   refine wpS_bind (at_lt R N (by lia) (by lia) (by lia) ?_)
   rw[U 0 (m-1) (by lia) (by lia)]
   exact wpS_pure (q m _ _ h2 h3 N U)
  ·rw [if_neg g]
   obtain rfl:m=1:=by lia
   unfold descPart
   refine wpS_bind (wpS_lift (wpAny_rule ⟨rfl,?_⟩))
   refine wpS_bind (falling R N (by lia) (by lia) (fun i j hij hj=>?_) fun k h4 h5 W=>?_)
   ·obtain ⟨rfl, rfl⟩ : i = 0 /\ j = 1 := by lia
    exact hm (by lia)
   ·show wpS (model prog w) A E s (if 0 > 0 then _ else tail3 k n) Q t
    rw[if_neg (Nat.lt_irrefl 0)]
    exact turned R N (by lia) h5 W q
theorem putIn(R:Rule prog w A s n item kd r)(N:Now n item kd ls t){m:Nat}(hm:m<=n)(U:Up r ls m){Q:Bool->SortSt->Prop}(q:∀ ls' t',Now n item kd ls' t'->Up r ls' n->Q true t'):wpS (model prog w) A E s (binarySort' 0 n m) Q t:=by
 rw[binarySort'_eq]
 simp only[Nat.zero_add]
 refine wpS_bind (wpS_mono (wpS_forRange (fun k c t'=>c=(none,())/\∃ ls',Now n item kd ls' t'/\Up r ls' (min k n)) (Q:=fun c t'=>c=(none,())/\∃ ls',Now n item kd ls' t'/\Up r ls' n) ?_ ?_ ⟨rfl,ls,N,fun i j hij hj=>U i j hij (by lia)⟩) ?_)
 ·rintro k c t' hk hn ⟨rfl, ls', N', U'⟩
  have ek:min k n=k:=by lia
  rw[ek] at U'
  have hsz:=N'.size
  refine wpS_bind (wpS_mono (wpS_forRange (fun x c t2=>t2=t'/\∃ l h,c=(none,l,h)/\l<=h/\h<=k/\h-l<=k-x/\(∀ i,i<l->r (lab ls' i) (lab ls' k)=true)/\∀ i,h<=i->i<k->r (lab ls' k) (lab ls' i)=true)
   (Q:=fun c t2=>t2=t'/\∃ l h,c=(none,l,h)/\l<=k/\(∀ i,i<l->r (lab ls' i) (lab ls' k)=true)/\∀ i,l<=i->i<k->r (lab ls' k) (lab ls' i)=true) ?_ ?_ ⟨rfl,0,k,rfl,by lia,by lia,by lia,fun i hi=>by lia,fun i h1 h2=>by lia⟩) ?_)
  ·rintro x c t2 _ hx ⟨rfl, l, h, rfl, g1, g2, g3, g4, g5⟩
   dsimp only
   by_cases hd:l>=h
   ·rw [if_pos hd]
    exact wpS_pure ⟨rfl,l,h,rfl,by lia,g4,fun i i1 i2=>g5 i (by lia) i2⟩
   ·rw [if_neg hd]
    refine wpS_bind (at_lt R N' hn (by lia) (by lia) ?_)
    cases z:r (lab ls' k) (lab ls' ((l+h)/2))
    ·have up : r (lab ls' ((l + h) / 2)) (lab ls' k) = true := by rw [R.tot _ _ (N'.lt (by lia)) (N'.lt hn) (N'.ne (by lia) hn (by lia)), z]; rfl
     refine wpS_pure ⟨rfl,(l+h)/2+1,h,rfl,by lia,by lia,by lia,fun i hi=>?_,g5⟩
     by_cases e:i=(l+h)/2
     ·rw[e];exact up
     ·exact R.tr _ _ _ (N'.lt (by lia)) (N'.lt (by lia)) (N'.lt hn) (U' i _ (by lia) (by lia)) up
    ·refine wpS_pure ⟨rfl, l, (l + h) / 2, rfl, by lia, by lia, by lia, g4, fun i i1 i2 => ?_⟩
     by_cases e:i=(l+h)/2
     ·rw[e];exact z
     ·exact R.tr _ _ _ (N'.lt hn) (N'.lt (by lia)) (N'.lt (by lia)) z (U' _ i (by lia) (by lia))
  ·rintro c t2 ⟨rfl, l, h, rfl, g1, g2, g3, g4, g5⟩
   exact⟨rfl,l,h,rfl,by lia,g4,fun i i1 i2=>g5 i (by lia) i2⟩
  ·rintro c t2 ⟨rfl, l, h, rfl, g1, g2, g3⟩
   show wpS (model prog w) A E s (moveDown' k l >>= fun _=>pure (ForInStep.yield (none,()))) _ t2
   rw[moveDown'_eq]
   refine wpS_bind (wpS_modify (wpS_pure ⟨rfl,_,N'.bub hn (d:=k-l) (by lia),?_⟩))
   have e2:min (k+1) n=k+1:=by lia
   rw[e2]
   intro i j hij hj
   have el:k-(k-l)=l:=by lia
   rw[bub_lab (by lia) (by lia) (by lia),bub_lab (by lia) (by lia) (by lia),el]
   by_cases c1:i=l
   ·rw [if_pos c1, if_neg (by lia), if_pos (by lia)]
    exact g3 _ (by lia) (by lia)
   ·rw [if_neg c1]
    by_cases c2:j=l
    ·rw [if_pos c2, if_neg (by lia)]
     exact g2 _ (by lia)
    ·rw [if_neg c2]
     split
     ·split
      ·exact U' _ _ (by lia) (by lia)
      ·exfalso;lia
     ·split
      ·exact U' _ _ (by lia) (by lia)
      ·exact U' _ _ (by lia) (by lia)
 ·rintro c t' ⟨rfl, ls', N', U'⟩
  have:min (max (max m 1) n) n=n:=by lia
  rw[this] at U'
  exact⟨rfl,ls',N',U'⟩
 ·rintro c t' ⟨rfl, ls', N', U'⟩
  exact wpS_pure (q ls' t' N' U')
theorem all(R:Rule prog w A s n item kd r)(N:Now n item kd ls t)(h2:2<=n)(h64:n<64){Q:Unit->SortSt->Prop}(q:∀ ls' t',arrOf t'=ls'.map item->failedOf t'=none->ls'.Perm (Array.range n)->Up r ls' n->Q () t'):wpS (model prog w) A E s sortRuns' Q t:=by
 rw[sortRuns'_eq]
 refine wpS_bind (wpS_get ?_)
 have esz:(arrOf t).size=n:=by rw[N.arr,Array.size_map,N.size]
 have emin:minRun' n n 0=n:=by
  cases n with
  | zero=>lia
  | succ f=>rw[minRun'_succ,if_pos h64]
 dsimp only
 simp only[esz,emin]
 let Fin:SortSt->Prop:=fun t'=>∃ ls',arrOf t'=ls'.map item/\failedOf t'=none/\pendingOf t'=#[(0,n,0)]/\ls'.Perm (Array.range n)/\Up r ls' n
 have close:∀ {ls':Array Nat} {t':SortSt},Now n item kd ls' t'->Up r ls' n->Fin (setPending t' ((pendingOf t').push (0,n,0))):=fun {ls' t'} N' U'=>⟨ls',N'.arr,N'.ok,by show(pendingOf t').push _=_;rw[N'.pend];rfl,N'.perm,U'⟩
 refine wpS_bind (wpS_mono (wpS_forRange (fun x c t'=>(x=0/\c=(none,0)/\t'=t)\/(0<x/\c=(none,n)/\Fin t')) (Q:=fun c t'=>c=(none,n)/\Fin t') ?_ ?_ (.inl ⟨rfl,rfl,rfl⟩)) ?_)
 ·rintro x c t' _ hx (⟨rfl, rfl, rfl⟩ | ⟨h0, rfl, F⟩)
  ·dsimp only
   rw[if_neg (by lia)]
   simp only[Nat.sub_zero,Nat.min_self,Nat.zero_add]
   refine wpS_bind (run R N (by lia) fun m ls2 t2 h1 hm N2 U2=>?_)
   dsimp only
   have rest:∀ {ls3:Array Nat} {t3:SortSt},Now n item kd ls3 t3->Up r ls3 n->(pendingOf t3).back?=none:=fun N3 _=>by rw[N3.pend];rfl
   by_cases c:m<n
   ·rw [if_pos c]
    refine wpS_bind (wpS_lift (wpAny_rule ⟨rfl,?_⟩))
    refine wpS_bind (putIn R N2 hm U2 fun ls3 t3 N3 U3=>?_)
    simp only[Bool.not_true,Bool.false_eq_true,if_false]
    refine wpS_bind (wpS_get ?_)
    rw[rest N3 U3]
    exact wpS_bind (wpS_modify (wpS_pure (.inr ⟨by lia,rfl,close N3 U3⟩)))
   ·rw [if_neg c]
    obtain rfl:m=n:=by lia
    refine wpS_bind (wpS_get ?_)
    rw[rest N2 U2]
    exact wpS_bind (wpS_modify (wpS_pure (.inr ⟨by lia,rfl,close N2 U2⟩)))
  ·dsimp only
   rw[if_pos (Nat.le_refl _)]
   exact wpS_pure ⟨rfl,F⟩
 ·rintro c t' (⟨h, _⟩ | ⟨_, h1, F⟩)
  ·lia
  ·exact⟨h1,F⟩
 ·rintro c t' ⟨rfl, ls', e1, e2, e3, e4, e5⟩
  refine wpS_bind (wpS_mono (wpS_forRange (fun _ c t2=>t2=t'/\c=(none,())) (Q:=fun c t2=>t2=t'/\c=(none,())) ?_ (fun _ _ h=>h) ⟨rfl,rfl⟩) ?_)
  ·rintro x c t2 _ _ ⟨rfl, rfl⟩
   refine wpS_bind (wpS_get ?_)
   rw[if_pos (by rw[e3];exact Nat.le_refl 1)]
   exact wpS_pure ⟨rfl,rfl⟩
  ·rintro c t2 ⟨rfl, rfl⟩
   exact wpS_pure (q ls' _ e1 e2 e4 e5)
end
end L2.Srt
namespace L2.Srt
open PySem PyProof.Rows
abbrev pairAt(vs:List Value):Nat->Keyed:=fun i=>(vs.getD i .none,vs.getD i .none)
theorem range_pairs(vs:List Value):vs.toArray.zip vs.toArray=(Array.range vs.length).map (pairAt vs):=by
 refine Array.ext_getElem? fun k=>?_
 rw[Array.getElem?_map]
 by_cases h:k<vs.length
 ·have e1 : (Array.range vs.length)[k]? = some k := by rw [Array.getElem?_range, if_pos h]
  rw[e1]
  have e2:(vs.toArray.zip vs.toArray)[k]?=some (vs[k],vs[k]):=by
   rw[Array.getElem?_eq_getElem (by simpa using h)]
   simp
  rw[e2]
  simp[pairAt,getD_eq_getElem?_getD,h]
 ·rw [Array.getElem?_eq_none (by simp; lia), Array.getElem?_eq_none (by simp; lia)]
  rfl
section
variable {prog:Program} {w:World} {A:Around} {E:Value->Shared->Prop} {s:Shared} {r:Nat->Nat->Bool} {kd:SortKind}
abbrev during(h:Heap)(a:Addr)(vs:List Value):Heap:=((h.update a (Obj.mapSeq fun _=>#[])).push (seqObj "tuple" vs.toArray 0)).push (seqObj "list" #[] 0)
theorem inPlace{a:Addr}{vs:List Value}{k:Nat}(at0:s.heap.get? a=some (seqObj "list" vs.toArray k))(h64:vs.length<64)
  (hk:2<=vs.length->∀ (E:Value->Shared->Prop) (Q:SortKind->Shared->Prop),Q kd { s with heap:=during s.heap a vs }->wpAny (model prog w) A (keyKind' vs.toArray) Q E { s with heap:=during s.heap a vs })
  (hR:2<=vs.length->Rule prog w A { s with heap:=during s.heap a vs } vs.length (pairAt vs) kd r) {Q:Fin->Shared->Prop}
  (q:∀ ls:Array Nat,ls.Perm (Array.range vs.length)->Up r ls vs.length->Q (.done (.ret .none)) { s with heap:=sortedHeap s.heap a vs (ls.map fun i=>vs.getD i .none) }) :
  wpAny (model prog w) A (Builtin.«list.sort» ⟨[.ref a],[]⟩) Q E s:=by
 have la:=Heap.lt_size at0
 obtain⟨e1,at1⟩:∃ e1,(s.heap.update a (Obj.mapSeq fun _=>#[])).get? a=some (seqObj "list" #[] e1):=⟨_,get?_update_seq at0 _⟩
 have at2:(during s.heap a vs).get? a=some (seqObj "list" #[] e1):=by
  have n1:a≠((s.heap.update a (Obj.mapSeq fun _=>#[])).push (seqObj "tuple" vs.toArray 0)).objs.size:=by rw[size_push',Heap.size_update];exact Nat.ne_of_lt (Nat.lt_succ_of_lt la)
  have n2:a≠(s.heap.update a (Obj.mapSeq fun _=>#[])).objs.size:=by rw[Heap.size_update];exact Nat.ne_of_lt la
  exact(Heap.get?_push_ne _ _ _ n1).trans ((Heap.get?_push_ne _ _ _ n2).trans at1)
 rw[list_sort_plain]
 refine wpAny_bind (listItems_at at0 rfl ?_)
 refine wpAny_bind (listUpdate_at at0 rfl (wpAny_bind (seqEpoch_at at1 rfl ?_)))
 refine wpAny_bind (wpAny_newTuple (wpAny_bind (wpAny_newList (wpAny_holding ?_))))
 show wpAny (model prog w) A _ Q E { s with heap:=during s.heap a vs }
 dsimp only
 have fin:∀ (t:SortSt) (ls:Array Nat),arrOf t=ls.map (pairAt vs)->failedOf t=none->ls.Perm (Array.range vs.length)->Up r ls vs.length ->
   wpAny (model prog w) A (do
    let touched:=(<- seqEpoch a) != e1
    Builtin.List.listUpdate (.ref a) fun _=>(arrOf t).map (·.2)
    if let some e:=failedOf t then rule "list.sort.comparison-raised";throw e
    if touched then rule "list.sort.modified";raiseError "ValueError" "list modified during sort"
    ret .none) Q E { s with heap:=during s.heap a vs }:=fun t ls h1 h2 h3 h4=>by
  have ea:(arrOf t).map (·.2)=ls.map fun i=>vs.getD i .none:=by rw[h1,Array.map_map];rfl
  have es:((arrOf t).map (·.2)).size<=64:=by rw[ea,Array.size_map,h3.size_eq,Array.size_range];lia
  refine wpAny_bind (seqEpoch_at at2 rfl ?_)
  refine wpAny_bind (listUpdate_at at2 rfl ?_ (hsz2:=by rw[sizeLine_eq];exact Nat.le_trans es (by decide)))
  rw[h2,ea]
  simp only[bne_self_eq_false,Bool.false_eq_true,if_false]
  exact wpAny_pure (q ls h3 h4)
 by_cases c:vs.toArray.size<2
 ·rw [if_pos c, if_pos c]
  refine wpAny_bind (wpAny_pure ?_)
  rw[StateT.run_pure]
  refine wpAny_bind (wpAny_pure (fin _ (Array.range vs.length) (range_pairs vs) rfl (Array.Perm.refl _) fun i j hij hj=>?_))
  have:vs.length<2:=by simpa using c
  lia
 ·rw [if_neg c, if_neg c]
  have h2:2<=vs.length:=by simpa using c
  refine wpAny_bind (hk h2 _ _ ?_)
  have N0:Now vs.length (pairAt vs) kd (Array.range vs.length) (SortSt.mk' kd (vs.toArray.zip vs.toArray) #[] 7 none):=⟨range_pairs vs,rfl,rfl,rfl,Array.Perm.refl _⟩
  refine wpAny_bind (wpAny_mono (all (hR h2) N0 h2 h64 (Q:=fun _ t=>∃ ls:Array Nat,arrOf t=ls.map (pairAt vs)/\failedOf t=none/\ls.Perm (Array.range vs.length)/\Up r ls vs.length) fun ls t a1 a2 a3 a4=>⟨ls,a1,a2,a3,a4⟩) ?_ fun _ _ e=>e)
  rintro⟨_,t⟩ s' ⟨rfl,ls,a1,a2,a3,a4⟩
  exact fin t ls a1 a2 a3 a4
theorem sortedAny{l:Addr}{vs:List Value}(hl:s.heap.IsList l vs.toArray)(h64:vs.length<64)
    (hk:2<=vs.length->∀ (h':Heap),(∀ b o,s.heap.get? b=some o->h'.get? b=some o)->∀ (B:Around),B.units<=A.units+3->∀ (E:Value->Shared->Prop) (Q:SortKind->Shared->Prop),Q kd { s with heap:=h' }->wpAny (model prog w) B (keyKind' vs.toArray) Q E { s with heap:=h' })
    (hR:2<=vs.length->∀ (h':Heap),(∀ b o,s.heap.get? b=some o->h'.get? b=some o)->∀ (B:Around),B.units<=A.units+3->Rule prog w B { s with heap:=h' } vs.length (pairAt vs) kd r) {Q:Value->Shared->Prop}
    (q:∀ ls:Array Nat,ls.Perm (Array.range vs.length)->Up r ls vs.length->Q (.ref (s.heap.objs.size+1)) { s with heap:=sortedAll s.heap vs (ls.map fun i=>vs.getD i .none) }) :
    wpAny (model prog w) A (call (.builtin "sorted") [.ref l]) Q E s:=by
  refine Calls.call_function_entry kind_sorted plain_sorted entry_sorted (args_sorted1 _) ?_
  unfold Builtin.«sorted»
  refine wpAny_bind (m:=checkCount "sorted" 1 1 _) (wpAny_pure (wpAny_bind (collect_list hl (wpAny_bind (wpAny_newList ?_)))))
  have z1:((s.heap.push (seqObj "list" #[] 0)).update s.heap.objs.size (Obj.mapSeq (·++vs.toArray))).objs.size=s.heap.objs.size+1:=by rw[Heap.size_update,size_push']
  let h1:Heap:=((s.heap.push (seqObj "list" #[] 0)).update s.heap.objs.size (Obj.mapSeq (·++vs.toArray))).push (seqObj "list" vs.toArray 0)
  have at1:h1.get? (s.heap.objs.size+1)=some (seqObj "list" vs.toArray 0):=by rw[<- z1];exact Heap.get?_push_size _ rfl
  have old1:∀ b o,s.heap.get? b=some o->h1.get? b=some o:=fun b o e=>by
    have lb:=Heap.lt_size e
    refine Heap.get?_push_of_some _ ?_
    rw[Heap.get?_update_ne _ _ _ _ (Nat.ne_of_lt lb)]
    exact Heap.get?_push_of_some _ e
  have old2:∀ b o,s.heap.get? b=some o->(during h1 (s.heap.objs.size+1) vs).get? b=some o:=fun b o e=>by
    have lb:=Heap.lt_size e
    refine Heap.get?_push_of_some _ (Heap.get?_push_of_some _ ?_)
    rw[Heap.get?_update_ne _ _ _ _ (Nat.ne_of_lt (Nat.lt_succ_of_lt lb))]
    exact old1 b o e
  have eH:∀ out:Array Value,sortedHeap h1 (s.heap.objs.size+1) vs out=sortedAll s.heap vs out:=fun _=>rfl
  have body:∀ B:Around,B.units<=A.units+3->∀ (E:Value->Shared->Prop) (P:Fin->Shared->Prop),(∀ ls:Array Nat,ls.Perm (Array.range vs.length)->Up r ls vs.length->P (.done (.ret .none)) { s with heap:=sortedAll s.heap vs (ls.map fun i=>vs.getD i .none) }) ->
      wpAny (model prog w) B (Builtin.«list.sort» ⟨[.ref (s.heap.objs.size+1)],[]⟩) P E { s with heap:=h1 }:=fun B hB E P p =>
    inPlace (s:={ s with heap:=h1 }) at1 h64 (fun h2 E Q q=>hk h2 _ old2 B hB E Q q) (fun h2=>hR h2 _ old2 B hB) fun ls a1 a2=>by
      show P _ { s with heap:=sortedHeap h1 (s.heap.objs.size+1) vs _ }
      rw[eH]
      exact p ls a1 a2
  show wpAny _ _ _ _ _ { s with heap:=h1 }
  rw[z1]
  clear_value h1
  refine wpAny_bind (wpAny_holding (wpAny_call_entry slot_list_sort ⟨_,at1,rfl⟩ entry_list_sort (body _ ?_ _ _ fun ls a1 a2=>⟨_,rfl,wpAny_pure ⟨_,rfl,q ls a1 a2⟩⟩) (args_list_sort _)))
  show A.units+1+1<=A.units+3
  lia
end
end L2.Srt
namespace L2.Srt
open PySem PyProof.Rows PySem.SeqAt
section
variable {prog:Program} {w:World} {M:Model} {A:Around} {E:Value->Shared->Prop} {s:Shared}
theorem wp_mapM{α β:Type}{f:α->Sem β}{g:α->β}:∀ {l:List α} {Q:List β->Shared->Prop},(∀ a∈l,∀ Q:β->Shared->Prop,Q (g a) s->wpAny M A (f a) Q E s)->Q (l.map g) s->wpAny M A (l.mapM f) Q E s
 | [],Q,_,q=>by rw[List.mapM_nil];exact wpAny_pure q
 | a::l,Q,h,q=>by
  rw[List.mapM_cons]
  refine wpAny_bind (h a (mem_cons_self ..) _ (wpAny_bind (wp_mapM (fun b hb=>h b (mem_cons_of_mem _ hb)) (wpAny_pure q))))
theorem wp_mapA{α β:Type}{f:α->Sem β}{g:α->β}{l:List α}{Q:Array β->Shared->Prop}(h:∀ a∈l,∀ Q:β->Shared->Prop,Q (g a) s->wpAny M A (f a) Q E s)(q:Q (l.map g).toArray s):wpAny M A (l.toArray.mapM f) Q E s:=by
 rw[List.mapM_toArray]
 show wpAny M A (List.toArray <$> l.mapM f) Q E s
 rw[map_eq_pure_bind]
 exact wpAny_bind (wp_mapM h (wpAny_pure q))
theorem firstOfTuple'_eq(v:Value):firstOfTuple' v=(do
  if (<- typeOf v) != .type "tuple" then return none
  return (<- Builtin.List.listItems v)[0]?):=rfl
def Tup(h:Heap)(v:Value)(p:Value)(rest:List Value):Prop:=∃ a,v=.ref a/\IsTup h a (p::rest).toArray
theorem Tup.type{v p:Value}{rest:List Value}(t:Tup s.heap v p rest):s.TypeIs v "tuple" := by
 obtain⟨a,rfl,o,ho,hc,_⟩:=t
 exact⟨o,ho,hc⟩
theorem Tup.items{v p:Value}{rest:List Value}(t:Tup s.heap v p rest){Q:Array Value->Shared->Prop}(q:Q (p::rest).toArray s):wpAny M A (Builtin.List.listItems v) Q E s:=by
 obtain⟨a,rfl,o,ho,hc,n,hd⟩:=t
 exact listItems_at ho hd q
theorem kind_tuples{vs : List Value}{fst : Value -> Value}{T : String}(h2 : 2 <= vs.length)(ht : ∀ v ∈ vs, ∃ rest, Tup s.heap v (fst v) rest)(hT : ∀ v ∈ vs, s.TypeIs (fst v) T){Q : SortKind -> Shared -> Prop}(q : Q (tuples' (Value.type T != Value.type "tuple")) s) : wpAny M A (keyKind' vs.toArray) Q E s := by
  rw[keyKind'_eq]
  refine wpAny_bind (wp_mapA (g:=fun v=>some (fst v)) (fun v hv Q q=>?_) ?_)
  · obtain ⟨rest, t⟩ := ht v hv
    rw[firstOfTuple'_eq]
    refine wpAny_bind (wpAny_typeOf t.type ?_)
    have e:(Value.type "tuple" != Value.type "tuple")=false:=by rfl
    rw[e]
    exact wpAny_bind (t.items (wpAny_pure q))
  · have e : (vs.map fun v => some (fst v)).toArray.all (·.isSome) = true := by simp
    rw[if_pos e]
    refine wpAny_bind (wpAny_rule ?_)
    have e2:((vs.map fun v=>some (fst v)).toArray.filterMap id)=(vs.map fst).toArray:=by
      simp[filterMap_map]
    rw[e2,oneTypeOnly'_eq]
    refine wpAny_bind (wpAny_bind (wp_mapA (g:=fun _=>Value.type T) (fun v hv Q q=>?_) ?_))
    · obtain ⟨u, hu, rfl⟩ := List.mem_map.mp hv
      exact wpAny_typeOf (hT u hu) q
    · have e3 : ((vs.map fst).map fun _ => Value.type T).toArray[0]? = some (Value.type T) := by
        cases vs with
        | nil=>simp at h2
        | cons v vs=>simp
      have e4:(((vs.map fst).map fun _=>Value.type T).toArray.all (· == Value.type T))=true:=by
        simp only[List.all_toArray,List.all_map,all_eq_true]
        intro _ _
        show(Value.type T == Value.type T)=true
        simp
      rw[e3]
      dsimp only
      rw[e4]
      exact wpAny_pure (wpAny_pure q)
theorem keyLt'_tuples(f:Bool)(x y:Value):keyLt' (tuples' f) x y=(do
  let xs <- Builtin.List.listItems x
  let ys <- Builtin.List.listItems y
  for ((p,q),i) in (xs.toList.zip ys.toList).zipIdx do
   if !(<- eqBool p q) then return <- oneLt' (f&&i == 0) p q
  return xs.size<ys.size):=rfl
inductive Lex(A:Around)(s:Shared)(f:Bool)(b:Bool):Nat->List Value->List Value->Prop
 | alike {i:Nat} {p q:Value} {ps qs:List Value}:EqAt A s p q true->Lex A s f b (i+1) ps qs->Lex A s f b i (p::ps) (q::qs)
 | here {i:Nat} {p q:Value} {ps qs:List Value}:EqAt A s p q false->(∀ (prog:Program) (w:World) (E:Value->Shared->Prop) (Q:Bool->Shared->Prop),Q b s->wpAny (model prog w) A (oneLt' (f&&i == 0) p q) Q E s)->Lex A s f b i (p::ps) (q::qs)
theorem keyLt_lex{f b:Bool}{x y p q:Value}{ps qs:List Value}(tx:Tup s.heap x p ps)(ty:Tup s.heap y q qs)(L:Lex A s f b 0 (p::ps) (q::qs)){Q:Bool->Shared->Prop}(h:Q b s):wpAny (model prog w) A (keyLt' (tuples' f) x y) Q E s:=by
 rw[keyLt'_tuples]
 refine wpAny_bind (tx.items (wpAny_bind (ty.items ?_)))
 refine wpAny_bind (wpAny_forIn_list _ (fun rest c s'=>s'=s/\c.1=none/\∃ i xs ys,rest=(xs.zip ys).zipIdx i/\Lex A s f b i xs ys) (fun c s'=>s'=s/\c.1=some b) ?turn ?fin _ _ ⟨rfl,rfl,0,p::ps,q::qs,by simp,L⟩ |> fun z=>wpAny_mono z ?post fun _ _ e=>e)
 case turn =>
  rintro⟨⟨u,v⟩,k⟩ rest c s' ⟨rfl,hc,i,xs,ys,e,L⟩
  cases L with
  | alike he L =>
   rw[zip_cons_cons,zipIdx_cons] at e
   injection e with e1 e2
   injection e1 with e1 e3
   injection e1 with e4 e5
   subst e3 e4 e5
   refine wpAny_bind (he prog w _ _ ?_)
   simp only[Bool.not_true,Bool.false_eq_true,if_false]
   exact wpAny_pure ⟨rfl,rfl,_,_,_,e2,L⟩
  | here he ho =>
   rw[zip_cons_cons,zipIdx_cons] at e
   injection e with e1 e2
   injection e1 with e1 e3
   injection e1 with e4 e5
   subst e3 e4 e5
   refine wpAny_bind (he prog w _ _ ?_)
   simp only[Bool.not_false,if_true]
   exact wpAny_bind (ho prog w _ _ (wpAny_pure ⟨rfl,rfl⟩))
 case fin =>
  rintro c s' ⟨_,_,i,xs,ys,e,L⟩
  cases L<;>(rw[zip_cons_cons,zipIdx_cons] at e;cases e)
 case post =>
  rintro c s' ⟨rfl,hc⟩
  obtain⟨c1,c2⟩:=c
  simp only at hc
  subst hc
  exact wpAny_pure h
theorem oneLt_false_int{i j:Int}{t u:Tok}{Q:Bool->Shared->Prop}(h:Q (decide (i<j)) s):wpAny (model prog w) A (oneLt' false (.int i t) (.int j u)) Q E s:=by
 rw[oneLt'_eq]
 simp only[Bool.false_eq_true,if_false]
 exact wpAny_bind (show wpAny (model prog w) A (compareOp .Lt (.int i t) (.int j u)) _ _ _ from PyProof.Rows.lt_int (wpAny_truthy_bool h))
theorem oneLt_false_tup{a b:Addr}{xs ys:Array Value}{ns ms:List Int}(ha:IsTup s.heap a xs)(hb:IsTup s.heap b ys)(hi:IntsAre xs.toList ns)(hj:IntsAre ys.toList ms)(hu:A.units<cLine){Q:Bool->Shared->Prop}(h:Q (HT.lexLt ns ms) s):wpAny (model prog w) A (oneLt' false (.ref a) (.ref b)) Q E s:=by
 rw[oneLt'_eq]
 simp only[Bool.false_eq_true,if_false]
 exact wpAny_bind (show wpAny (model prog w) A (compareOp .Lt (.ref a) (.ref b)) _ _ _ from HT.lt_tupInts ha hb hi hj hu (wpAny_truthy_bool h))
theorem oneLt_any_int(f:Bool){i j:Int}{t u:Tok}{Q:Bool->Shared->Prop}(h:Q (decide (i<j)) s):wpAny (model prog w) A (oneLt' f (.int i t) (.int j u)) Q E s:=by
 cases f with
 | true=>exact oneLt_int h
 | false=>exact oneLt_false_int h
end
end L2.Srt
namespace L2
open PySem PySem.Spec PyProof.Rows PySem.SeqAt
def RowV(X:Cx)(H:Hp)(f:Bool)(y:V):Prop:=∀ pins s σ v,Inv X pins σ H s->RelV y v->∃ p rest,Srt.Tup s.heap v p rest/\s.TypeIs p (if f then "int" else "tuple")
def CmpV(X:Cx)(H:Hp)(f:Bool)(y z:V)(b:Bool):Prop:=∀ pins s σ u v,Inv X pins σ H s->RelV y u->RelV z v->∀ A:Around,A.units+60<cLine->∃ p ps q qs,Srt.Tup s.heap u p ps/\Srt.Tup s.heap v q qs/\Srt.Lex A s f b 0 (p::ps) (q::qs)
def rSortT(X:Cx):List V->Hp->VK->Prop:=fun xs H Q=>∃ (p:Addr) (ys:List V) (f:Bool) (r:Nat->Nat->Bool),xs=[.ref p]/\SqL X.K H p ys/\ys.length<64 /\
 (∀ a b,a<ys.length->b<ys.length->a≠b->r a b=!r b a)/\(∀ a b c,a<ys.length->b<ys.length->c<ys.length->r a b=true->r b c=true->r a c=true) /\
 (∀ a,a<ys.length->RowV X H f (ys.getD a .non))/\(∀ a b,a<ys.length->b<ys.length->a≠b->CmpV X H f (ys.getD a .non) (ys.getD b .non) (r a b)) /\
 ∀ ls:Array Nat,ls.Perm (Array.range ys.length)->Srt.Up r ls ys.length->∀ l,H l=none->Q (.ref l) (upd H l (.lst (ls.toList.map fun i=>ys.getD i .non)))
theorem Vals.getD{xs:List V}{us:List Value}(h:Vals xs us){i:Nat}(hi:i<xs.length):RelV (xs.getD i .non) (us.getD i .none):=by
 obtain⟨u,e,r⟩:=h.get (getElem?_eq_getElem hi)
 rw[getD_eq_getElem?_getD,getD_eq_getElem?_getD,e,getElem?_eq_getElem hi]
 exact r
theorem vals_pick{xs:List V}{us:List Value}(h:Vals xs us):∀ {ls:List Nat},(∀ i∈ls,i<xs.length)->Vals (ls.map fun i=>xs.getD i .non) (ls.map fun i=>us.getD i .none)
 | [],_=>.nil
 | i::ls,hl=>.cons (h.getD (hl i (mem_cons_self ..))) (vals_pick h fun j hj=>hl j (mem_cons_of_mem _ hj))
section
variable {X:Cx}
theorem call_sortT{n:Nat}(hr:Room n X.A):CallR X (.builtin "sorted") (rSortT X):=by
 classical
 intro pins s σ H xs us Q I r h
 obtain⟨p,ys,f,rr,rfl,hq,hn,tot,tr,row,cmp,q⟩:=h
 obtain⟨u,rfl,hu⟩:=vals1 r
 have hu':u=.ref p:=hu
 subst hu'
 obtain⟨its,rv,pl,_⟩:=I.list hq
 have len:=rv.length
 have un:=hr.un
 have ixd:∀ v∈its,∃ i,i<ys.length/\v=its.getD i .none:=fun v hv=>by
  obtain⟨i,hi,e⟩:=List.getElem_of_mem hv
  exact⟨i,by lia,by rw[getD_eq_getElem?_getD,getElem?_eq_getElem hi,e];rfl⟩
 refine Srt.sortedAny (r:=rr) (kd:=tuples' f) pl.isList (by lia) (fun h2 h' keep B hB E Q q=>?_) (fun h2 h' keep B hB=>?_) (fun ls hp hU=>?_)
 ·have I' : Inv X pins σ H { s with heap := h' } := I.kept (t' := s.toks) keep
  have each:∀ v∈its,∃ p rest,Srt.Tup h' v p rest/\Shared.TypeIs { s with heap:=h' } p (if f then "int" else "tuple"):=fun v hv=>by
   obtain⟨i,hi,rfl⟩:=ixd v hv
   exact row i hi pins _ σ _ I' (rv.getD hi)
  refine Srt.kind_tuples (s:={ s with heap:=h' }) (T:=if f then "int" else "tuple") (fst:=fun v=>if h:∃ p rest,Srt.Tup h' v p rest/\Shared.TypeIs { s with heap:=h' } p (if f then "int" else "tuple") then h.choose else v) (by lia) (fun v hv=>?_) (fun v hv=>?_) ?_
  ·have e := each v hv
   obtain⟨rest,t,_⟩:=e.choose_spec
   exact⟨rest,by rw[dif_pos e];exact t⟩
  ·have e := each v hv
   obtain⟨rest,_,t⟩:=e.choose_spec
   show Shared.TypeIs _ (if h:_ then _ else _) _
   rw[dif_pos e];exact t
  ·cases f
   ·exact q
   ·exact q
 ·have I' : Inv X pins σ H { s with heap := h' } := I.kept (t' := s.toks) keep
  refine⟨fun a b ha hb=>tot a b (by lia) (by lia),fun a b c ha hb hc=>tr a b c (by lia) (by lia) (by lia),fun a b ha hb hab E Q q=>?_⟩
  obtain⟨p1,ps,p2,qs,t1,t2,L⟩:=cmp a b (by lia) (by lia) hab pins _ σ _ _ I' (rv.getD (by lia)) (rv.getD (by lia)) B (by lia)
  exact Srt.keyLt_lex t1 t2 L q
 ·obtain ⟨e, he⟩ := sortedAll_at s.heap its (ls.map fun i => its.getD i .none)
  have hf:H (s.heap.objs.size+1)=none:=I.hok.fresh (Nat.le_succ _)
  have hls:∀ i∈ls.toList,i<ys.length:=fun i hi=>by
   have:=(hp.mem_iff).mp (Array.mem_toList_iff.mp hi)
   rw[Array.mem_range] at this
   lia
  rw[<- len] at hp hU
  refine⟨.ref (s.heap.objs.size+1),_,I.laid (t':=s.toks) (o:=.lst (ls.toList.map fun i=>ys.getD i .non)) (fun b u e=>sortedAll_old e) (Nat.le_succ _) ?_,rfl,q ls hp hU _ hf⟩
  refine⟨?_,(ls.toList.map fun i=>its.getD i .none),e,vals_pick rv hls,?_⟩
  ·rw [List.length_map, Array.length_toList, hp.size_eq, Array.size_range]
   exact Nat.le_trans (Nat.le_of_lt hn) (by decide)
  ·have ea : (ls.toList.map fun i => its.getD i .none).toArray = ls.map fun i => its.getD i .none := by rw [<- Array.toList_map, Array.toArray_toList]
   rw[ea]
   exact he
end
inductive SKey where
 | n (i:Int) | t (ns:List Int)
 deriving DecidableEq
def SKey.d:SKey->D
 | .n i=>.int i
 | .t ns=>.tup (ns.map D.int)
def SKey.num:SKey->Bool
 | .n _=>true
 | .t _=>false
def SKey.lt:SKey->SKey->Bool
 | .n i,.n j=>decide (i<j)
 | .t ns,.t ms=>HT.lexLt ns ms
 | _,_=>false
structure SRow where
 key:SKey
 name:Int
 rest:List D
def SRow.d(x:SRow):D:=.tup (x.key.d::.int x.name::x.rest)
def SRow.lt(x y:SRow):Bool:=if x.key=y.key then decide (x.name<y.name) else x.key.lt y.key
theorem lex_anti:∀ (xs ys:List Int),xs≠ys->HT.lexLt xs ys=!HT.lexLt ys xs
 | [],[],h=>absurd rfl h
 | [],y::ys,_=>rfl
 | x::xs,[],_=>rfl
 | x :: xs, y :: ys, h => by
  rw[HT.lexLt_cons,HT.lexLt_cons]
  by_cases e:x=y
  ·subst e
   rw[if_pos rfl,if_pos rfl]
   exact lex_anti xs ys fun z=>h (by rw[z])
  ·rw [if_neg e, if_neg (Ne.symm e)]
   by_cases l:x<y
   ·rw[decide_eq_true l,decide_eq_false (by lia)];rfl
   ·rw[decide_eq_false l,decide_eq_true (by lia)];rfl
theorem lex_irr:∀ (xs:List Int),HT.lexLt xs xs=false
 | []=>rfl
 | x::xs=>by rw[HT.lexLt_cons,if_pos rfl];exact lex_irr xs
theorem lex_trans:∀ (xs ys zs:List Int),HT.lexLt xs ys=true->HT.lexLt ys zs=true->HT.lexLt xs zs=true
 | [],[],_,h,_=>by cases h
 | [],_::_,[],_,h=>by cases h
 | [],_::_,_::_,_,_=>rfl
 | _::_,[],_,h,_=>by cases h
 | _::_,_::_,[],_,h=>by cases h
 | x :: xs, y :: ys, z :: zs, h1, h2 => by
  rw[HT.lexLt_cons] at h1 h2 ⊢
  by_cases e1:x=y
  ·subst e1
   rw[if_pos rfl] at h1
   by_cases e2:x=z
   ·subst e2
    rw[if_pos rfl] at h2 ⊢
    exact lex_trans xs ys zs h1 h2
   ·rw [if_neg e2] at h2 ⊢
    exact h2
  ·rw [if_neg e1] at h1
   have l1:=of_decide_eq_true h1
   by_cases e2:y=z
   ·subst e2
    rw[if_neg e1];exact h1
   ·rw [if_neg e2] at h2
    have l2:=of_decide_eq_true h2
    rw[if_neg (by lia)]
    exact decide_eq_true (by lia)
theorem SKey.lt_anti{x y:SKey}(hn:x.num=y.num)(h:x≠y):x.lt y=!y.lt x:=by
 cases x with
 | n i =>
  cases y with
  | n j =>
   have:i≠j:=fun z=>h (by rw[z])
   simp only[SKey.lt]
   by_cases l:i<j
   ·rw[decide_eq_true l,decide_eq_false (by lia)];rfl
   ·rw[decide_eq_false l,decide_eq_true (by lia)];rfl
  | t ms=>cases hn
 | t ns =>
  cases y with
  | n j=>cases hn
  | t ms=>exact lex_anti ns ms fun z=>h (by rw[z])
theorem SKey.lt_irr(x:SKey):x.lt x=false:=by
 cases x with
 | n i=>simp[SKey.lt]
 | t ns=>exact lex_irr ns
theorem SKey.lt_trans{x y z:SKey}(h1:x.lt y=true)(h2:y.lt z=true):x.lt z=true:=by
 cases x<;>cases y<;>cases z<;>first
  | (cases h1;done) | (cases h2;done)
  | (simp only[SKey.lt,decide_eq_true_eq] at h1 h2 ⊢;lia)
  | exact lex_trans _ _ _ h1 h2
theorem SRow.lt_anti{x y:SRow}(hn:x.key.num=y.key.num)(h:x.name≠y.name):x.lt y=!y.lt x:=by
 unfold SRow.lt
 by_cases e:x.key=y.key
 ·rw [if_pos e, if_pos e.symm]
  by_cases l:x.name<y.name
  ·rw[decide_eq_true l,decide_eq_false (by lia)];rfl
  ·rw[decide_eq_false l,decide_eq_true (by lia)];rfl
 ·rw [if_neg e, if_neg (Ne.symm e)]
  exact SKey.lt_anti hn e
theorem SRow.lt_trans{x y z:SRow}(h1:x.lt y=true)(h2:y.lt z=true):x.lt z=true:=by
 unfold SRow.lt at *
 by_cases e1:x.key=y.key
 ·rw [if_pos e1] at h1
  by_cases e2:y.key=z.key
  ·rw [if_pos e2] at h2
   rw[if_pos (e1.trans e2)]
   simp only[decide_eq_true_eq] at *
   lia
  ·rw [if_neg e2] at h2
   rw[if_neg (by rw[e1];exact e2),e1]
   exact h2
 ·rw [if_neg e1] at h1
  by_cases e2:y.key=z.key
  ·rw [if_neg (by rw [<- e2]; exact e1), <- e2]
   exact h1
  ·rw [if_neg e2] at h2
   have h3:=SKey.lt_trans h1 h2
   by_cases e3:x.key=z.key
   ·rw [e3, SKey.lt_irr] at h3
    cases h3
   ·rw[if_neg e3];exact h3
end L2
namespace L2
open PySem PySem.Spec PyProof.Rows PySem.SeqAt
def row0:SRow:=⟨.n 0,0,[]⟩
def kSortT:List D->(D->Prop)->Prop:=fun es k=>∃ (rows:List SRow) (f:Bool),es=[.lst (rows.map SRow.d)]/\rows.length<64/\(∀ x∈rows,x.key.num=f)/\(rows.map SRow.name).Nodup/\∀ rows':List SRow,rows'.Perm rows->rows'.Pairwise (fun x y=>x.lt y=true)->k (.lst (rows'.map SRow.d))
theorem eqDs_ints:∀ (xs ys:List Int),eqDs (xs.map D.int) (ys.map D.int)=decide (xs=ys)
 | [],[]=>by unfold eqDs;rfl
 | [],y::ys=>by unfold eqDs;simp
 | x::xs,[]=>by unfold eqDs;simp
 | x::xs,y::ys=>by
  rw[map_cons,map_cons]
  unfold eqDs
  rw[eqDs_ints xs ys]
  unfold eqD
  by_cases e:x=y
  ·subst e;simp
  ·simp[e]
theorem eqD_key{x y:SKey}(h:x.num=y.num):eqD x.d y.d=decide (x=y):=by
 cases x with
 | n i =>
  cases y with
  | n j =>
   show eqD (.int i) (.int j)=_
   unfold eqD
   by_cases e:i=j
   ·subst e;simp
   ·simp[e]
  | t ms=>cases h
 | t ns =>
  cases y with
  | n j=>cases h
  | t ms =>
   show eqD (.tup _) (.tup _)=_
   unfold eqD
   rw[eqDs_ints]
   by_cases e:ns=ms
   ·subst e;simp
   ·simp[e]
theorem okE_key(x:SKey):okE x.d 20=true:=by
 cases x with
 | n i=>exact okE_int
 | t ns =>
  refine(okE_tup (k:=19)).mpr fun d hd=>?_
  obtain⟨x,_,rfl⟩:=List.mem_map.mp hd
  exact okE_int
section
variable {X:Cx} {pins:List (Addr × Obj)} {σ:St} {H:Hp} {s:Shared} {G:Option Addr} {Z:Addr->Prop}
theorem vals_two{a b:V}{xs:List V}{its:List Value}(h:Vals (a::b::xs) its):∃ p q r,its=p::q::r/\RelV a p/\RelV b q:=by
 cases h with
 | cons h0 t =>
  cases t with
  | cons h1 t1=>exact⟨_,_,_,rfl,h0,h1⟩
structure RowAt(X:Cx)(G:Option Addr)(Z:Addr->Prop)(H:Hp)(s:Shared)(x:SRow)(u p:Value)(rest:List Value):Prop where
 tup:∃ q,Srt.Tup s.heap u p (q::rest)/\∃ t,q=.int x.name t
 key:∃ z,Rep X.K G Z H x.key.d z/\RelV z p
theorem row_at(I:Inv X pins σ H s){x:SRow}{v:V}{u:Value}(r:Rep X.K G Z H x.d v)(q:RelV v u):∃ p rest,RowAt X G Z H s x u p rest:=by
 unfold SRow.d at r
 obtain⟨a,xs,rfl,sq,rs⟩:=r.tup_inv
 have e:u=.ref a:=q
 subst e
 obtain⟨its,rv,pl,_⟩:=I.tuple sq.sq
 obtain⟨z0,xs1,rfl,r0,rs1⟩:=rs.split
 obtain⟨z1,xs2,rfl,r1,rs2⟩:=rs1.split
 have e1:=r1.int_inv
 subst e1
 obtain⟨p0,p1,its2,rfl,h0,t,rfl⟩:=vals_two rv
 exact⟨p0,its2,⟨_,⟨a,rfl,pl⟩,t,rfl⟩,z0,r0,h0⟩
theorem row_type(I:Inv X pins σ H s){x:SRow}{u p:Value}{rest:List Value}(R:RowAt X G Z H s x u p rest):s.TypeIs p (if x.key.num then "int" else "tuple"):=by
 obtain⟨z,r,q⟩:=R.key
 cases h:x.key with
 | n i =>
  rw[h] at r
  have e:z=.int i:=r.int_inv
  subst e
  obtain⟨t,rfl⟩:=q
  exact typeIs_int s i t
 | t ns =>
  rw[h] at r
  obtain⟨a,xs,rfl,sq,rs⟩:=Rep.tup_inv (show Rep X.K G Z H (.tup (ns.map D.int)) z from r)
  have e:p=.ref a:=q
  subst e
  obtain⟨its,rv,⟨o,ho,hc,_⟩,_⟩:=I.tuple sq.sq
  exact⟨o,ho,hc⟩
theorem row_cmp(I:Inv X pins σ H s){x y:SRow}{u v p q:Value}{ps qs:List Value}(hn:x.key.num=y.key.num)(hd:x.name≠y.name)(R:RowAt X G Z H s x u p ps)(R':RowAt X G Z H s y v q qs){A:Around}(hu:A.units+60<cLine) :
  ∃ p ps q qs,Srt.Tup s.heap u p ps/\Srt.Tup s.heap v q qs/\Srt.Lex A s x.key.num (x.lt y) 0 (p::ps) (q::qs):=by
 obtain⟨n1,t1,tk1,rfl⟩:=R.tup
 obtain⟨n2,t2,tk2,rfl⟩:=R'.tup
 obtain⟨z1,r1,q1⟩:=R.key
 obtain⟨z2,r2,q2⟩:=R'.key
 have E:=(eq_rep I 20 x.key.d y.key.d z1 z2 p q A (okE_key _) (okE_key _) r1 r2 q1 q2 (by lia)).1
 rw[eqD_key hn] at E
 refine⟨p,_,q,_,t1,t2,?_⟩
 by_cases e:x.key=y.key
 ·rw [decide_eq_true e] at E
  refine .alike E (.here ?_ ?_)
  ·have := EqAt.int_int (A := A) (s := s) x.name tk1 y.name tk2
   have e2:(x.name == y.name)=false:=by simpa using hd
   rw[e2] at this
   exact this
  ·intro prog w E Q h
   unfold SRow.lt at h
   rw[if_pos e] at h
   exact Srt.oneLt_any_int _ h
 ·rw [decide_eq_false e] at E
  refine .here E ?_
  intro prog w E Q h
  unfold SRow.lt at h
  rw[if_neg e] at h
  cases hx:x.key with
  | n i =>
   cases hy:y.key with
   | n j =>
    rw[hx] at r1 h
    rw[hy] at r2 h
    have e1:z1=.int i:=r1.int_inv
    have e2:z2=.int j:=r2.int_inv
    subst e1 e2
    obtain⟨a1,rfl⟩:=q1
    obtain⟨a2,rfl⟩:=q2
    exact Srt.oneLt_any_int _ h
   | t ms=>rw[hx,hy] at hn;cases hn
  | t ns =>
   cases hy:y.key with
   | n j=>rw[hx,hy] at hn;cases hn
   | t ms =>
    rw[hx] at r1 h
    rw[hy] at r2 h
    obtain⟨a,xs,rfl,sq,rs⟩:=Rep.tup_inv (show Rep X.K G Z H (.tup (ns.map D.int)) z1 from r1)
    obtain⟨b,ys,rfl,sq',rs'⟩:=Rep.tup_inv (show Rep X.K G Z H (.tup (ms.map D.int)) z2 from r2)
    have e1:p=.ref a:=q1
    have e2:q=.ref b:=q2
    subst e1 e2
    obtain⟨its,rv,pl,_⟩:=I.tuple sq.sq
    obtain⟨its',rv',pl',_⟩:=I.tuple sq'.sq
    rw[reps_intsV rs] at rv
    rw[reps_intsV rs'] at rv'
    show wpAny _ _ (oneLt' (false&&_) _ _) _ _ _
    exact Srt.oneLt_false_tup pl pl' (intsAre_of rv) (intsAre_of rv') (by lia) h
end
theorem Reps.getD{K:W.Frag}{G:Option Addr}{Z:Addr->Prop}{H:Hp}{α:Type}{enc:α->D}{rows:List α}{a0:α}{xs:List V}(rs:Reps K G Z H (rows.map enc) xs){i:Nat}(hi:i<rows.length):Rep K G Z H (enc (rows.getD i a0)) (xs.getD i .non):=by
 obtain⟨v,e,r⟩:=rs.get (i:=i) (d:=enc rows[i]) (by rw[getElem?_map,getElem?_eq_getElem hi];rfl)
 rw[getD_eq_getElem?_getD,getD_eq_getElem?_getD,e,getElem?_eq_getElem hi]
 exact r
theorem reps_pick{K:W.Frag}{G:Option Addr}{Z:Addr->Prop}{H:Hp}{α:Type}{enc:α->D}{rows:List α}{a0:α}{xs:List V}(rs:Reps K G Z H (rows.map enc) xs):∀ {ls:List Nat},(∀ i∈ls,i<rows.length)->Reps K G Z H ((ls.map fun i=>rows.getD i a0).map enc) (ls.map fun i=>xs.getD i .non)
 | [],_=>.nil
 | i::ls,hl=>.cons (rs.getD (hl i (mem_cons_self ..))) (reps_pick rs fun j hj=>hl j (mem_cons_of_mem _ hj))
theorem map_range{α:Type}(a0:α)(rows:List α):(List.range rows.length).map (fun i=>rows.getD i a0)=rows:=by
 apply List.ext_getElem
 ·simp
 ·intro i h1 h2
  simp[getD_eq_getElem?_getD,h2]
theorem cr_sortT{A:AC}{X:Cx}(hK:X.K=A.K):xg A (rSortT X) kSortT:=by
 rintro os n rho sg H ds vs es ws k Q I rs ⟨rows,f,rfl,hl,hf,hnd,q⟩ hQ
 obtain⟨v,rfl,r⟩:=reps1 rs
 obtain⟨a,xs,rfl,sq,rr⟩:=r.lst_inv
 have len:xs.length=rows.length:=by rw[rr.length,length_map]
 have mem:∀ i,i<rows.length->rows.getD i row0∈rows:=fun i hi=>by
  rw[getD_eq_getElem?_getD,getElem?_eq_getElem hi];exact getElem_mem hi
 have dist:∀ i j,i<rows.length->j<rows.length->i≠j->(rows.getD i row0).name≠(rows.getD j row0).name:=fun i j hi hj hij e=>by
  have g:∀ i (hi:i<rows.length),(rows.map SRow.name)[i]'(by simpa using hi)=(rows.getD i row0).name:=fun i hi=>by
   rw[List.getElem_map,getD_eq_getElem?_getD,getElem?_eq_getElem hi];rfl
  have f:=List.pairwise_iff_getElem.mp hnd
  rcases Nat.lt_or_gt_of_ne hij with l | l
  ·exact f i j (by simpa using hi) (by simpa using hj) l (by rw[g i hi,g j hj,e])
  ·exact f j i (by simpa using hj) (by simpa using hi) l (by rw[g i hi,g j hj,e])
 have num:∀ i,i<rows.length->(rows.getD i row0).key.num=f:=fun i hi=>hf _ (mem i hi)
 rw[<- hK] at rr
 refine⟨a,xs,f,fun i j=>(rows.getD i row0).lt (rows.getD j row0),rfl,by rw[hK];exact sq.sq,by lia,fun i j hi hj hij=>SRow.lt_anti (by rw[num i (by lia),num j (by lia)]) (dist i j (by lia) (by lia) hij),fun i j l _ _ _ h1 h2=>SRow.lt_trans h1 h2,fun i hi=>?_,fun i j hi hj hij=>?_,fun ls hp hU l hl'=>?_⟩
 ·intro pins s σ u J ru
  obtain⟨p,rest,R⟩:=row_at J (rr.getD (enc:=SRow.d) (a0:=row0) (by lia)) ru
  obtain⟨z,t,_⟩:=R.tup
  have ty:=row_type J R
  rw[num i (by lia)] at ty
  exact⟨p,_,t,ty⟩
 ·intro pins s σ u v J ru rv B hB
  obtain⟨p,ps,R⟩:=row_at J (rr.getD (enc:=SRow.d) (a0:=row0) (by lia)) ru
  obtain⟨p',ps',R'⟩:=row_at J (rr.getD (enc:=SRow.d) (a0:=row0) (by lia)) rv
  have c:=row_cmp J (by rw[num i (by lia),num j (by lia)]) (dist i j (by lia) (by lia) hij) R R' hB
  rw[num i (by lia)] at c
  exact c
 ·rw [len] at hp hU
  have hls:∀ i∈ls.toList,i<rows.length:=fun i hi=>by
   have:=(hp.mem_iff).mp (Array.mem_toList_iff.mp hi)
   rwa [Array.mem_range] at this
  have hsz:ls.size=rows.length:=by rw[hp.size_eq,Array.size_range]
  rw[hK] at rr
  refine hQ _ _ _ ⟨os,I.newLst (reps_pick (a0:=row0) rr hls) hl'⟩ (q _ ?_ ?_)
  ·have p1 : ls.toList.Perm (List.range rows.length) := by
    have:=Array.perm_iff_toList_perm.mp hp
    rwa [Array.toList_range] at this
   have p2:=p1.map fun i=>rows.getD i row0
   rwa [map_range] at p2
  ·rw [List.pairwise_map, List.pairwise_iff_getElem]
   intro i j hi hj hij
   have hi':i<ls.size:=by simpa using hi
   have hj':j<ls.size:=by simpa using hj
   have u:=hU i j hij (by lia)
   have g:∀ i (hi:i<ls.size),Srt.lab ls i=ls.toList[i]'(by simpa using hi):=fun i hi=>by
    refine Srt.lab_of_get ?_
    rw[<- Array.getElem?_toList,getElem?_eq_getElem (by simpa using hi)]
   rw[g i hi',g j hj'] at u
   exact u
end L2
namespace L2
open PySem PySem.Spec PyProof.Rows PySem.SeqAt
theorem call_sum{X:Cx}(hc:X.calm=true):CallR X (.builtin "sum") (fun xs H Q=>∃ (p:Addr) (ns:List Int),xs=[.ref p]/\SqL X.K H p (ns.map V.int)/\Q (.int ns.sum) H):=by
 intro pins s σ H xs us Q I r h
 obtain⟨p,ns,rfl,hq,q⟩:=h
 obtain⟨u,rfl,hu⟩:=vals1 r
 have e:u=.ref p:=hu
 subst e
 obtain⟨its,rv,pl,_⟩:=I.list hq
 have hi:=intsAre_of rv
 obtain⟨ys,hys⟩:=hi.allInts.items
 have hl:=pl.isList
 rw[hys] at hl
 refine sum_intListG (I.ok.hd hc) hl fun h' tk t' hk=>?_
 refine⟨.int ns.sum,H,I.kept hk,⟨t',?_⟩,q⟩
 rw[preSum_eq,take_of_length_le (by simp)]
 have e2:=nums_intItems ys
 rw[<- hys] at e2
 rw[<- e2]
 show Value.int (numsOf its.toArray.toList).sum t'=_
 rw[show its.toArray.toList=its from rfl,hi.numsOf]
def kSum:List D->(D->Prop)->Prop:=fun es k=>∃ ns:List Int,es=[.lst (ns.map D.int)]/\k (.int ns.sum)
theorem cr_sum{A:AC}:xg A (fun xs H Q=>∃ (p:Addr) (ns:List Int),xs=[.ref p]/\SqL A.K H p (ns.map V.int)/\Q (.int ns.sum) H) kSum:=by
 rintro os n rho sg H ds vs es ws k Q I rs ⟨ns,rfl,q⟩ hQ
 obtain⟨v,rfl,r⟩:=reps1 rs
 obtain⟨a,xs,rfl,sq,rr⟩:=r.lst_inv
 have e:=reps_intsV rr
 subst e
 exact⟨a,ns,rfl,sq.sq,hQ _ _ _ ⟨os,I.push (Rep.ofS (d:=.int ns.sum) rfl)⟩ q⟩
structure Blt2(mg:Str->Option Value):Prop where
 sum:mg "sum" = none
theorem bt_sum:bootBuiltins "sum" = some (.builtin "sum"):=by decide +kernel
section
variable {A:AC} {X:Cx} {a:Expr} {ta:TD} {pos:Pos}
def lstAt(d:D)(k:List D->Prop):Prop:=∃ fs,(d=.lst fs\/d=.fz fs)/\k fs
@[simp] theorem q_lstAt{fs:List D}{k}:lstAt (.lst fs) k↔k fs:=⟨fun⟨_,e,h⟩=>by rcases e with e | e<;>cases e;exact h,fun h=>⟨_,.inl rfl,h⟩⟩
def dSlV(ta:TD)(tl th:TOD):TD:=fun rho n P=>ta rho n fun d n1=>tl rho n1 fun lo n2=>th rho n2 fun hi n3=>lstAt d fun fs=>P (.lst (cutL fs lo hi)) n3
@[simp] theorem q_dSlV{ta tl th rho n P}:dSlV ta tl th rho n P=ta rho n fun d n1=>tl rho n1 fun lo n2=>th rho n2 fun hi n3=>lstAt d fun fs=>P (.lst (cutL fs lo hi)) n3:=rfl
theorem pd_slV{le he:Option Expr}{tl th:TOD}{p2:Pos}(hK:X.K=A.K)(ha:PD A X a ta)(hl:POD A X le tl)(hh:POD A X he th):PD A X (.Subscript a (.Slice le he none p2) pos) (dSlV ta tl th):=by
 with_unfolding_all
  exact(pe_slice sl_list ha hl hh).imp fun sg H Q h=>by
   obtain⟨rho,n,P,ds,vs,I,ht,hQ⟩:=h
   refine⟨rho,n,_,ds,vs,I,ht,fun v H1 n1 d J1 h1=>⟨rho,n1,_,_,_,J1,h1,fun lo H2 n2 J2 h2=>⟨rho,n2,_,_,_,J2,h2,fun hi H3 n3 ⟨os,J3⟩ h3=>?_⟩⟩⟩
   obtain⟨fs,hd,k⟩:=h3
   obtain⟨J4,r⟩:=J3.pop
   rw[hK]
   rcases hd with rfl | rfl
   ·obtain ⟨l, xs, rfl, sq, rs⟩ := r.lst_inv
    exact⟨l,xs,rfl,sq.sq,fun p hp=>hQ _ _ n3 _ ⟨os,J4.newLst (reps_cut rs lo hi) hp⟩ k⟩
   ·obtain ⟨l, xs, rfl, sq, rs⟩ := r.fz_inv
    exact⟨l,xs,rfl,sq,fun p hp=>hQ _ _ n3 _ ⟨os,J4.newLst (reps_cut rs lo hi) hp⟩ k⟩
def dOwnNe(i:Nat):TD:=fun rho n P=>∃ es,rho[i]?=some (some (.own es))/\okE (.lst es) 20=true/\P (.bl (!eqDs es [])) n
@[simp] theorem q_dOwnNe{i rho n P}:dOwnNe i rho n P=∃ es,rho[i]?=some (some (.own es))/\okE (.lst es) 20=true/\P (.bl (!eqDs es [])) n:=rfl
theorem tOp_ownNe{i:Nat}(hK:X.K=A.K){sg:St}{H:Hp}{Q:VK}(h:tOf A (dOwnNe i) sg H Q):tOp (rDne X) (tVar i) (tOf A (dLst aNil)) sg H Q:=by
 obtain⟨rho,n,P,ds,vs,⟨os,I⟩,⟨es,hi,ok,q⟩,hQ⟩:=h
 obtain⟨a,xs,e1,hH,rs,_⟩:=I.own (es':=es) (xs':=[]) hi
 refine⟨.ref a,e1,rho,n,fun d n1=>d=.lst []/\n1=n,ds,vs,⟨os,I⟩,⟨Nat.zero_le _,rfl,rfl⟩,fun v2 H2 n2 d2 ⟨os2,J⟩ k=>?_⟩
 obtain⟨rfl,rfl⟩:=k
 obtain⟨J1,r2⟩:=J.pop
 obtain⟨a',xs',e2,hH',rs',_⟩:=J1.own (es':=es) (xs':=[]) hi
 rw[e1] at e2
 cases e2
 have no:∀ b,H2 b≠none->False->Zof A os2 b:=fun _ _ z=>z.elim
 have rA:Rep X.K A.G (fun _=>False) H2 (.lst es) (.ref a):=by
  rw[hK]
  exact .lst_mk ⟨fun z=>z,hH'⟩ (Reps.mono no (fun _ _ _ e=>e) _ _ rs')
 have rB:Rep X.K A.G (fun _=>False) H2 (.lst []) v2:=by
  rw[hK]
  exact Rep.mono no (fun _ _ _ e=>e) _ _ r2
 have ok0:okE (.lst []) 20=true:=by unfold okE;rfl
 refine⟨eqD (.lst es) (.lst []),fun pins s σ v u J rx ry B hu=>eq_rep J 20 _ _ _ _ v u B ok ok0 rA rB rx ry (by lia),?_⟩
 have eqe:eqD (.lst es) (.lst [])=eqDs es []:=by unfold eqD;rfl
 rw[eqe]
 exact hQ _ H2 _ _ ⟨os2,J1.push (Rep.ofS (d:=.bl (!eqDs es [])) rfl)⟩ q
theorem ptd_ownNe{i:Nat}{x:Str}{px p2:Pos}{n:Nat}(hr:Room n X.A)(hK:X.K=A.K)(hN:X.N[i]?=some x:=by rfl)(hv:Vis X.env.scope x:=by first | exact Or.inl rfl | exact Or.inr (Or.inl rfl) | exact Or.inr (Or.inr rfl))(hd:(x == ("__debug__" : Str))=false:=by decide)
  (hcd:(x == ("__classdict__" : Str))=false:=by decide):PTD A X (.Compare (.Name x px) [.NotEq] [.List [] p2] pos) (dTest (dOwnNe i)):=by
 with_unfolding_all
  exact(pt_cmpR (op_dne hr) (pe_var hN hv hd hcd) (pd_lst (A:=A) zd) (zP _)).imp fun _ _ _=>tTest_of fun _ _ _=>tOp_ownNe hK
end
end L2
namespace L2
open PySem PySem.Spec PyProof.Rows PySem.SeqAt
mutual
def toPy:D->PyData
 | .int i=>.int i
 | .tup ds=>.tuple (toPys ds)
 | _=>.none
def toPys:List D->List PyData
 | []=>[]
 | d::ds=>toPy d::toPys ds
end
mutual
def okS:D->Nat->Bool
 | .int i,_=>decide (i.natAbs.log2<1920)
 | .tup ds,k=>match k with
  | 0=>false
  | k+1=>okSs ds k
 | _,_=>false
def okSs:List D->Nat->Bool
 | [],_=>true
 | d::ds,k=>okS d k&&okSs ds k
end
mutual
def nodes:D->Nat
 | .tup ds=>nodess ds+1
 | _=>1
def nodess:List D->Nat
 | []=>0
 | d::ds=>nodes d+nodess ds
end
def showD(d:D):Str:=(toPy d).shown
section
variable {X:Cx} {pins:List (Addr × Obj)} {σ:St} {H:Hp} {s:Shared} {G:Option Addr} {Z:Addr->Prop}
end
def kStrT:List D->(D->Prop)->Prop:=fun es k=>∃ ds,es=[.tup ds]/\okS (.tup ds) 15=true/\nodes (.tup ds)<=8000/\k (.str (showD (.tup ds)))
@[simp] theorem q_kStrT{ds k}:kStrT [.tup ds] k↔(okS (.tup ds) 15=true/\nodes (.tup ds)<=8000/\k (.str (showD (.tup ds)))):=⟨fun⟨_,e,h⟩=>by cases e;exact h,fun h=>⟨_,rfl,h⟩⟩
end L2
namespace L2
section
variable {X:Cx} {A:AC}
def rdRepZ:RD2:=fun d1 d2 k=>∃ es i,d1=.tup es/\d2=.int i/\es≠[]/\0<=i/\es.length*i.toNat<=sizeLine/\k (.tup (replicate i.toNat es).flatten)
@[simp] theorem q_rdRepZ{es i k}:rdRepZ (.tup es) (.int i) k↔(es≠[]/\0<=i/\es.length*i.toNat<=sizeLine/\k (.tup (replicate i.toNat es).flatten)):=⟨fun⟨_,_,e,e',h⟩=>by cases e;cases e';exact h,fun h=>⟨_,_,rfl,rfl,h⟩⟩
end
end L2
namespace L2.Srt
open PySem PyProof.Rows
section
variable {prog:Program} {w:World} {A:Around} {E:Value->Shared->Prop} {s:Shared}
end
end L2.Srt
namespace L2
section
variable {X:Cx} {A:AC} {pos:Pos} {e:Expr} {t1:TAD}
def sNever:TSD:=fun _ _ _=>False
@[simp] theorem q_never{F:EndsD}{rho:Rho}{n:Nat}:sNever F rho n↔False:=Iff.rfl
end
end L2
namespace L2
section
variable {K:W.Frag} {G G':Option Addr} {Z:Addr->Prop} {H:Hp}
end
section
variable {A:AC} {X:Cx} {e:Expr} {es:List Expr} {t1:TAD} {t2:TSD} {pos p:Pos}
end
end L2
namespace L2
def hasK(ks:List Key)(k:Key):Bool:=ks.any fun j=>decide (j=k)
def putKs(ks:List Key)(k:Key):List Key:=if hasK ks k=true then ks else ks++[k]
def putG{α:Type}(ks:List Key)(xs:List α)(k:Key)(x:α):List α:=if hasK ks k=true then List.zipWith (fun j y=>if j=k then x else y) ks xs else xs++[x]
theorem kvs_any:∀ (ks:List Key) (xs:List V) (k:Key),ks.length=xs.length->((kvsV ks xs).any fun kv=>decide (kv.1=k))=hasK ks k
 | [],xs,k,_=>rfl
 | j::ks,[],k,h=>by simp at h
 | j::ks,x::xs,k,h=>by
  have ih:=kvs_any ks xs k (by simpa using h)
  show(decide (j=k)||(kvsV ks xs).any _)=(decide (j=k)||hasK ks k)
  rw[ih]
theorem kvs_map:∀ (ks:List Key) (xs:List V) (k:Key) (v:V),(kvsV ks xs).map (fun kv=>if kv.1=k then(kv.1,v) else kv)=kvsV ks (List.zipWith (fun j y=>if j=k then v else y) ks xs)
 | [],xs,k,v=>by simp[kvsV]
 | j::ks,[],k,v=>by simp[kvsV]
 | j::ks,x::xs,k,v=>by
  have ih:=kvs_map ks xs k v
  show(if j=k then(j,v) else(j,x))::(kvsV ks xs).map _=(j,if j=k then v else x)::kvsV ks _
  rw[ih]
  by_cases e:j=k<;>simp[e]
theorem kvs_snoc{ks:List Key}{xs:List V}(k:Key)(v:V)(h:ks.length=xs.length):kvsV ks xs++[(k,v)]=kvsV (ks++[k]) (xs++[v]):=by
 unfold kvsV
 rw[List.zipWith_append h];rfl
theorem kvs_put{ks:List Key}{xs:List V}(k:Key)(v:V)(h:ks.length=xs.length):putK (kvsV ks xs) k v=kvsV (putKs ks k) (putG ks xs k v):=by
 unfold putK putKs putG
 rw[kvs_any ks xs k h]
 by_cases e:hasK ks k=true
 ·rw[if_pos e,if_pos e,if_pos e,kvs_map]
 ·rw[if_neg e,if_neg e,if_neg e,kvs_snoc k v h]
theorem put_len{α:Type}{ks:List Key}{xs:List α}(k:Key)(x:α)(h:ks.length=xs.length):(putKs ks k).length=(putG ks xs k x).length:=by
 unfold putKs putG
 split
 ·rw[length_zipWith,<- h];lia
 ·simp[h]
theorem put_le{α:Type}{ks:List Key}{xs:List α}(k:Key)(x:α)(h:ks.length=xs.length):(putKs ks k).length<=ks.length+1:=by
 unfold putKs
 split<;>simp
section
variable {K:W.Frag} {G:Option Addr} {Z:Addr->Prop} {H:Hp}
theorem Reps.zipPut{d:D}{v:V}(r:Rep K G Z H d v)(k:Key):∀ {ks:List Key} {es:List D} {xs:List V},Reps K G Z H es xs->Reps K G Z H (List.zipWith (fun j y=>if j=k then d else y) ks es) (List.zipWith (fun j y=>if j=k then v else y) ks xs)
 | [],es,xs,h=>.nil
 | j::ks,[],xs,h=>by rw[h.nil_inv];exact .nil
 | j::ks,e::es,xs,h=>by
  obtain⟨x,xr,rfl,q,t⟩:=h.split
  have ih:=Reps.zipPut r k (ks:=ks) t
  show Reps K G Z H ((if j=k then d else e)::_) ((if j=k then v else x)::_)
  by_cases z:j=k
  ·rw[if_pos z,if_pos z];exact .cons r ih
  ·rw[if_neg z,if_neg z];exact .cons q ih
theorem Reps.put{d:D}{v:V}{ks:List Key}{es:List D}{xs:List V}(h:Reps K G Z H es xs)(r:Rep K G Z H d v)(k:Key):Reps K G Z H (putG ks es k d) (putG ks xs k v):=by
 unfold putG
 split
 ·exact Reps.zipPut r k h
 ·exact h.append (.cons r .nil)
end
def keyOf:D->Option Key
 | .int i=>some (Sum.inl i)
 | .str x=>some (Sum.inr x)
 | _=>none
@[simp] theorem keyOf_int{i:Int}:keyOf (.int i)=some (Sum.inl i):=rfl
@[simp] theorem keyOf_str{i:Str}:keyOf (.str i)=some (Sum.inr i):=rfl
theorem keyOf_rep{K:W.Frag}{G:Option Addr}{Z:Addr->Prop}{H:Hp}{d:D}{v:V}{k:Key}(h:Rep K G Z H d v)(e:keyOf d=some k):v=kV k:=by
 cases d with
 | int i=>cases e;exact h.int_inv
 | str i=>cases e;exact h.toS rfl
 | _=>simp[keyOf] at e
section
variable {A:AC} {X:Cx} {tg iter kx vx:Expr} {ifs:List Expr} {scope:Scope} {own M:List Str} {pos:Pos} {it:TID} {g:TGD} {tt:TBD} {tk tv:TD}
def dcompIn(own:Nat)(g:TGD)(tt:TBD)(tk tv:TD)(rho:Rho)(P:D->Nat->Prop)(items:List D)(n1:Nat):Prop:=items.length<=sizeLine/\∃ J:Nat->List Key->List D->Nat->Prop,J 0 [] [] n1 /\
 (∀ i d ks es n,items[i]?=some d->J i ks es n->g d (replicate own none++rho) fun rho'=>rho'.drop own=rho/\tt rho' n fun c n2=>if c=true then tk rho' n2 fun dk n3=>tv rho' n3 fun dv n4=>∃ k,keyOf dk=some k/\J (i+1) (putKs ks k) (putG ks es k dv) n4 else J (i+1) ks es n2) /\
 ∀ ks es n,J items.length ks es n->P (.dct ks es) n
def dDComp(it:TID)(own:Nat)(g:TGD)(tt:TBD)(tk tv:TD):TD:=fun rho n P=>it rho n (dcompIn own g tt tk tv rho P)
@[simp] theorem q_dDComp{it own g tt tk tv rho n P}:dDComp it own g tt tk tv rho n P=it rho n (dcompIn own g tt tk tv rho P):=rfl
theorem AmO.newDct{os n rho sg H ds vs}{ks:List Key}{es:List D}{xs:List V}{p:Addr}(I:AmO A os n rho sg H ds vs)(r:Reps A.K A.G (Zof A os) H es xs)(hp:H p=none):AmO A os n rho sg (upd H p (.dK (kvsV ks xs))) (.dct ks es::ds) (.ref p::vs):=by
 have hf:∀ a u,H a=some u->upd H p (.dK (kvsV ks xs)) a=some u:=fun a u e=>by
  rw[zm fun z=>by rw[z,hp] at e;cases e];exact e
 refine⟨I.len,fun i d e=>?_,?_,I.nd,fun q hq=>?_,fun a e=>?_,I.gz,fun a u h e=>hf a u (I.fr a u h e),I.z0⟩
 ·obtain ⟨v, e1, e2⟩ := I.slot i d e
  exact⟨v,e1,SlotR.mono (fun _ _ z=>z) (fun a u _ e=>hf a u e) (fun a xs m q=>⟨m,hf a _ q⟩) _ _ e2⟩
 ·refine .cons ?_ (Reps.mono (fun _ _ z => z) (fun a u _ e => hf a u e) _ _ I.pend)
  unfold Rep
  refine⟨p,xs,rfl,⟨fun z=>?_,zw⟩,Reps.mono (fun _ _ z=>z) (fun a u _ e=>hf a u e) _ _ r⟩
  exact absurd hp (I.zH p z)
 ·obtain ⟨f1, f2, f3⟩ := I.fresh q hq
  exact⟨f1,f2,f3.of fun u e=>hf _ _ e⟩
 ·obtain ⟨x, y, z, q, r⟩ := I.st a e
  exact⟨x,y,z,hf _ _ q,r⟩
theorem tDComp_of{sg:St}{H:Hp}{Q:VK}{m:Nat}(h:tOf A (dDComp it m g tt tk tv) sg H Q):tDComp (iOf A it) m (gOf A m g) (ttOf A tt) (tOf A tk) (tOf A tv) sg H Q:=by
 obtain⟨rho,n,P,ds,vs,I,ht,hQ⟩:=h
 refine⟨rho,n,_,ds,vs,I,ht,fun J H' n' items es ws I1 hl hJ k=>?_⟩
 obtain⟨hsz,W,w0,turn,fin⟩:=k
 refine⟨fun i mm acc H=>mm=items.length-i/\i<=items.length/\∃ ks accD xs n,acc=kvsV ks xs/\ks.length=xs.length/\ks.length<=i/\xs.length=accD.length/\Am A n rho sg H (es++(accD++ds)) (ws++(xs++vs))/\W i ks accD n,
  ⟨items.length,rfl,Nat.zero_le _,[],[],[],n',rfl,rfl,Nat.le_refl _,rfl,I1,w0⟩,?_⟩
 rintro i mm acc H3 ⟨rfl,hi,ks,accD,xs,n3,rfl,hkl,hai,hal,⟨os,I3⟩,w3⟩
 have hlk:(kvsV ks xs).length=ks.length:=by unfold kvsV;rw[length_zipWith];lia
 obtain⟨j1,j2⟩:=hJ n3 rho sg H3 (accD++ds) (xs++vs) i ⟨os,I3⟩
 by_cases hlt:i<items.length
 ·refine .inr ⟨(j1 items[i] (by simp [hlt])).1, by lia, fun x H4 y => ?_⟩
  obtain⟨os4,I4⟩:=(j1 items[i] (by simp[hlt])).2 x H4 y
  refine⟨replicate m none++rho,n3,_,items[i],es++(accD++ds),ws++(xs++vs),⟨_,I4.front m⟩,turn i items[i] ks accD n3 (by simp[hlt]) w3,fun rho' sg' ⟨os5,I5⟩ e5 k5=>?_⟩
  obtain⟨k5,k6⟩:=k5
  have e6:sg'.drop m=sg:=by rw[e5,drop_left' (by simp)]
  refine⟨e6,rho',n3,_,es++(accD++ds),ws++(xs++vs),⟨os5,I5⟩,k6,fun c H6 n6 ⟨os6,I6⟩ k7=>?_⟩
  cases c with
  | false =>
   obtain⟨os7,I7⟩:=I6.back k5 e6
   exact⟨items.length-(i+1),by lia,rfl,hlt,ks,accD,xs,n6,rfl,hkl,by lia,hal,⟨os7,I7⟩,k7⟩
  | true =>
   rw[if_pos rfl] at k7 ⊢
   refine⟨rho',n6,_,es++(accD++ds),ws++(xs++vs),⟨os6,I6⟩,k7,fun vk H8 n8 dk I8 k8=>?_⟩
   refine⟨rho',n8,_,dk::(es++(accD++ds)),vk::(ws++(xs++vs)),I8,k8,fun v H9 n9 d ⟨os9,I9⟩ k9=>?_⟩
   obtain⟨kk,ek,w9⟩:=k9
   obtain⟨os10,I10⟩:=I9.back k5 e6
   obtain⟨I11,rv⟩:=I10.pop
   obtain⟨I12,rk⟩:=I11.pop
   obtain⟨I13,r1⟩:=I12.split hl
   obtain⟨I14,r2⟩:=I13.split hal
   refine⟨kk,items.length-(i+1),keyOf_rep rk ek,by lia,rfl,hlt,putKs ks kk,putG ks accD kk d,putG ks xs kk v,n9,kvs_put kk v hkl,put_len kk v hkl,?_,?_,⟨os10,(I14.join (r2.put rv kk)).join r1⟩,w9⟩
   ·have:=put_le kk v hkl;lia
   ·rw[<- put_len kk v hkl,<- put_len kk d (by lia)]
 ·have e : i = items.length := by lia
  subst e
  refine .inl ⟨j2 (Nat.le_refl _),by lia,fun D hD=>?_⟩
  obtain⟨I4,r1⟩:=I3.split hl
  obtain⟨I5,r2⟩:=I4.split hal
  exact hQ _ _ n3 _ ⟨os,I5.newDct r2 hD⟩ (fin ks accD n3 w3)
theorem pd_dcomp(ok:CompOk X scope M)(hc:X.calm=true)(hi:PID A X tg iter it)(hg:∀ C s2 H2 fp,PGD A (zr X scope own M C s2 H2 fp) own.length tg g)(ht:∀ C s2 H2 fp,PTs (zr X scope own M C s2 H2 fp) ifs (ttOf A tt))
  (hk:∀ C s2 H2 fp,PD A (zr X scope own M C s2 H2 fp) kx tk) (he:∀ C s2 H2 fp,PD A (zr X scope own M C s2 H2 fp) vx tv) (hs:∀ x,foldedSetIterable iter X.env x=pure x:=by intro _;rfl):PD A X (.DictComp kx vx [⟨tg,iter,ifs,0⟩] scope pos) (dDComp it own.length g tt tk tv):=by
 with_unfolding_all
  exact(pe_dcomp ok hc hi hg ht hk he hs).imp fun _ _ _=>tDComp_of
end
def atK:List Key->List D->Key->Option D
 | k::ks,d::ds,x=>if k=x then some d else atK ks ds x
 | _,_,_=>none
theorem atK_val{K:W.Frag}{G:Option Addr}{Z:Addr->Prop}{H:Hp}:∀ {ks:List Key} {ds:List D} {xs:List V} {x:Key},Reps K G Z H ds xs ->
  (∀ d,atK ks ds x=some d->∃ v,valV (kvsV ks xs) x=some v/\Rep K G Z H d v)/\(atK ks ds x=none->valV (kvsV ks xs) x=none)
 | [],ds,xs,x,r=>⟨fun d h=>by simp[atK] at h,fun _=>rfl⟩
 | k::ks,[],xs,x,r=>by rw[r.nil_inv];exact⟨fun d h=>by simp[atK] at h,fun _=>rfl⟩
 | k :: ks, e :: ds, xs, x, r => by
  obtain⟨v,rs,rfl,q,t⟩:=r.split
  obtain⟨i1,i2⟩:=atK_val (ks:=ks) (x:=x) t
  unfold atK
  by_cases c:k=x
  ·rw [if_pos c]
   exact⟨fun d h=>by cases h;exact⟨v,valV_pos (p:=(k,v)) c,q⟩,fun h=>by cases h⟩
  ·rw [if_neg c]
   have e2:valV (kvsV (k::ks) (v::rs)) x=valV (kvsV ks rs) x:=valV_neg (p:=(k,v)) c
   rw[e2]
   exact⟨i1,i2⟩
section
variable {A:AC} {X:Cx} {a b:Expr} {ta tb:TD} {pos:Pos}
def rDx:R2:=fun x y H Q=>∃ a v,x=.ref a/\DGet H a y (some v)/\Q v H
def rdDx:RD2:=fun d1 d2 k=>∃ ks ds x d,d1=.dct ks ds/\keyOf d2=some x/\atK ks ds x=some d/\k d
@[simp] theorem q_rdDxI{ks ds x k}:rdDx (.dct ks ds) (.int x) k↔∃ d,atK ks ds (Sum.inl x)=some d/\k d:=⟨fun⟨_,_,_,d,e,e',h⟩=>by cases e;cases e';exact⟨d,h⟩,fun⟨d,h⟩=>⟨_,_,_,d,rfl,rfl,h⟩⟩
theorem re_dx:OpRel A rDx rdDx:=by
 rintro os n rho sg H ds vs d1 d2 v1 v2 k Q I ⟨ks,es,x,d,rfl,hk,hx,q⟩ hQ
 obtain⟨I1,r2⟩:=I.pop
 obtain⟨I2,r1⟩:=I1.pop
 have e2:=keyOf_rep r2 hk
 subst e2
 unfold Rep at r1
 obtain⟨a,xs,rfl,⟨hz,hH⟩,rs⟩:=r1
 obtain⟨v,hv,rv⟩:=(atK_val rs).1 d hx
 exact⟨a,v,rfl,by rw[<- hv];exact DGet.k hH,hQ _ _ _ ⟨os,I2.push rv⟩ q⟩
theorem pd_dix(hu:X.A.units+1<cLine)(ha:PD A X a ta)(hb:PD A X b tb)(hs:NoSl b):PD A X (.Subscript a b pos) (dOp rdDx ta tb):=by
 with_unfolding_all
  exact(pe_dget hu ha hb hs).imp fun _ _ _=>tOp_of (r:=rDx) re_dx
def rDin(neg:Bool):R2:=fun y x H Q=>∃ a o,x=.ref a/\DGet H a y o/\Q (.bl (o.isSome != neg)) H
theorem op_dnotin(hu:X.A.units+1<cLine):OpR X (compareOp .NotIn) (rDin true):=by
 intro pins s σ H x y v u Q I rx ry h
 obtain⟨a,o,rfl,g,q⟩:=h
 cases(show u=Value.ref a from ry)
 exact d_notIn hu I g rx fun s' I'=>⟨.bl (o.isSome != true),H,I',by simp;rfl,q⟩
def rdDin(neg:Bool):RD2:=fun d1 d2 k=>∃ ks ds x,d2=.dct ks ds/\keyOf d1=some x/\k (.bl ((atK ks ds x).isSome != neg))
@[simp] theorem q_rdDinI{neg ks ds x k}:rdDin neg (.int x) (.dct ks ds) k↔k (.bl ((atK ks ds (Sum.inl x)).isSome != neg)):=⟨fun⟨_,_,_,e,e',h⟩=>by cases e;cases e';exact h,fun h=>⟨_,_,_,rfl,rfl,h⟩⟩
theorem re_din{neg:Bool}:OpRel A (rDin neg) (rdDin neg):=by
 rintro os n rho sg H ds vs d1 d2 v1 v2 k Q I ⟨ks,es,x,rfl,hk,q⟩ hQ
 obtain⟨I1,r2⟩:=I.pop
 obtain⟨I2,r1⟩:=I1.pop
 have e2:=keyOf_rep r1 hk
 subst e2
 unfold Rep at r2
 obtain⟨a,xs,rfl,⟨hz,hH⟩,rs⟩:=r2
 obtain⟨g1,g2⟩:=atK_val (ks:=ks) (x:=x) rs
 refine⟨a,valV (kvsV ks xs) x,rfl,DGet.k hH,?_⟩
 have e3:(valV (kvsV ks xs) x).isSome=(atK ks es x).isSome:=by
  cases e:atK ks es x with
  | none=>rw[g2 e];rfl
  | some d=>obtain⟨v,hv,_⟩:=g1 d e;rw[hv];rfl
 rw[e3]
 exact hQ _ _ _ ⟨os,I2.push (Rep.ofS (d:=.bl _) rfl)⟩ q
def sPop(i:Nat)(g:TGD):TSD:=fun F rho n=>∃ es d,rho[i]?=some (some (.own (es++[d])))/\g d (rho.set i (some (.own es))) fun rho'=>F.nx rho' n
@[simp] theorem q_sPop{i g F rho n}:sPop i g F rho n=∃ es d,rho[i]?=some (some (.own (es++[d])))/\g d (rho.set i (some (.own es))) fun rho'=>F.nx rho' n:=rfl
def sCont:TSD:=fun F rho n=>F.ct rho n
@[simp] theorem q_sCont{F rho n}:sCont F rho n=F.ct rho n:=rfl
def sOwnIf(i:Nat)(tc:TBD)(t u:TAD):TSD:=fun F rho n=>i<rho.length/\tc rho n fun c n0=>if c=true then t rho n0 (fun es n1=>es.length<=sizeLine/\F.nx (rho.set i (some (.own es))) n1) else u rho n0 fun es n1=>es.length<=sizeLine/\F.nx (rho.set i (some (.own es))) n1
@[simp] theorem q_sOwnIf{i tc t u F rho n}:sOwnIf i tc t u F rho n=(i<rho.length/\tc rho n fun c n0=>if c=true then t rho n0 (fun es n1=>es.length<=sizeLine/\F.nx (rho.set i (some (.own es))) n1) else u rho n0 fun es n1=>es.length<=sizeLine/\F.nx (rho.set i (some (.own es))) n1):=rfl
end
end L2
namespace L2
section
variable {X:Cx} {A:AC}
def isTL:D->Bool
 | .tup _=>true
 | .lst _=>true
 | _=>false
def kIsi2:List D->(D->Prop)->Prop:=fun es k=>∃ d,es=[d,.tup [.ty "tuple",.ty "list"]]/\isiOk d=true/\k (.bl (isTL d))
@[simp] theorem q_kIsi2{d k}:kIsi2 [d,.tup [.ty "tuple",.ty "list"]] k↔(isiOk d=true/\k (.bl (isTL d))):=⟨fun⟨_,e,h⟩=>by cases e;exact h,fun h=>⟨_,rfl,h⟩⟩
end
end L2
namespace L2
section
variable {A:AC} {X:Cx} {a b c:Expr} {ta tb tc:TD} {pos:Pos}
end
end L2
namespace L2
def noOwns(rho:Rho):Bool:=rho.all fun o=>match o with
 | some d=>zn d
 | none=>true
theorem noOwns_at{rho:Rho}{i:Nat}{d:D}(h:noOwns rho=true)(e:rho[i]?=some (some d)):zn d=true:=by
 have:=List.all_eq_true.mp h _ (mem_of_getElem? e)
 exact this
def sParO(i j:Nat)(tb:TD):TSD:=fun F rho n=>i<rho.length/\j<rho.length/\noOwns rho=true/\tb rho n fun d n1=>F.nx ((rho.set i (some (.own []))).set j (some d)) n1
@[simp] theorem q_sParO{i j tb F rho n}:sParO i j tb F rho n=(i<rho.length/\j<rho.length/\noOwns rho=true/\tb rho n fun d n1=>F.nx ((rho.set i (some (.own []))).set j (some d)) n1):=rfl
section
variable {A:AC} {X:Cx} {b:Expr} {tb:TD} {pos:Pos}
theorem AmO.still{os n rho sg H ds vs}{H1:Hp}{Z:Addr->Prop}(I:AmO A os n rho sg H ds vs)(ho:noOwns rho=true)(hH:∀ a o,H a=some o->H1 a=some o)(hz:∀ a,H a≠none->Z a->Zof A os a)(hz1:∀ a,Z a->Hot (H1 a))(hg:∀ a,A.G=some a->Z a) :
  AmO ⟨A.K,A.G,Z,H1⟩ [] n rho sg H1 [] []:=by
 have hz':∀ a,H a≠none->Zof ⟨A.K,A.G,Z,H1⟩ [] a->Zof A os a:=fun a h z=>by
  rcases z with z | ⟨p,hp,_⟩
  ·exact hz a h z
  ·simp at hp
 refine⟨I.len,fun i d e=>?_,.nil,.nil,fun p hp=>by simp at hp,fun a e=>?_,hg,fun a o _ e=>e,⟨hz1,fun P q t=>⟨hH P _ (I.zO.2 P q t).1,(I.zO.2 P q t).2⟩⟩⟩
 ·obtain ⟨v, e1, e2⟩ := I.slot i d e
  have hd:=noOwns_at ho e
  have r:=Rep.mono (K:=A.K) (G:=A.G) hz' (fun a o _ e=>hH a o e) _ _ (e2.rep hd)
  refine⟨v,e1,?_⟩
  cases d<;>first | exact r | (simp[zn] at hd;done)
 ·obtain ⟨zs, u1, u2, q, r⟩ := I.st a e
  exact⟨zs,u1,u2,hH a _ q,r⟩
theorem AmO.setOwnX{os:List (Nat × Addr)}{n:Nat}{rho:Rho}{sg:St}{H:Hp}{ds es:List D}{vs xs:List V}{i:Nat}{p:Addr}(I:AmO A os n rho sg H ds vs)(hi:i<rho.length)(hp:H p=none)(r:Reps A.K A.G (Zof A os) H es xs) :
  AmO A ((i,p)::os.filter fun q=>decide (q.1≠i)) n (rho.set i (some (.own es))) (sg.set i (some (.ref p))) (upd H p (.lst xs)) ds vs:=by
 have hf:∀ a u,H a=some u->upd H p (.lst xs) a=some u:=fun a u e=>by rw[zm (zy e hp)];exact e
 have zz:∀ a,H a≠none->Zof A ((i,p)::os.filter fun q=>decide (q.1≠i)) a->Zof A os a:=fun a ha z=>by
  rcases z with z | ⟨q,hq,e⟩
  ·exact .inl z
  ·rcases List.mem_cons.mp hq with rfl | hq
   ·exact absurd (by rw[<- e];exact hp) ha
   ·exact .inr ⟨q,(List.mem_filter.mp hq).1,e⟩
 have h0:A.H0 p=none:=by
  cases q:A.H0 p with
  | none=>rfl
  | some o =>
   by_cases e:A.G=some p
   ·obtain ⟨x, y, z, w, _⟩ := I.st p e
    rw[w] at hp;cases hp
   ·have := I.fr p o e q
    rw[this] at hp;cases hp
 refine⟨by simp[I.len],fun j c e=>?_,Reps.mono zz (fun a u _ e=>hf a u e) _ _ I.pend,?_,fun q hq=>?_,fun a e=>?_,I.gz,fun a u h e=>hf a u (I.fr a u h e),I.z0⟩
 ·by_cases hj : j = i
  ·subst hj
   rw[getElem?_set_self hi] at e
   cases e
   exact⟨.ref p,getElem?_set_self (by rw[<- I.len];exact hi),p,xs,rfl,mem_cons_self,zw,Reps.mono zz (fun a u _ e=>hf a u e) _ _ r⟩
  ·rw [List.getElem?_set_ne (Ne.symm hj)] at e
   obtain⟨u,e1,e2⟩:=I.slot j c e
   exact⟨u,by rw[getElem?_set_ne (Ne.symm hj)];exact e1,SlotR.mono zz (fun a u _ e=>hf a u e) (fun a ys m q=>⟨mem_cons_of_mem _ (List.mem_filter.mpr ⟨m,by simpa using hj⟩),hf a _ q⟩) _ _ e2⟩
 ·refine List.pairwise_cons.mpr ⟨fun q hq => ?_, I.nd.filter _⟩
  obtain⟨m1,m2⟩:=List.mem_filter.mp hq
  refine⟨fun z=>by simp[<- z] at m2,fun z=>(I.fresh q m1).2.2.ne ?_⟩
  have z':p=q.2:=z
  rw[<- z'];exact hp
 ·rcases List.mem_cons.mp hq with rfl | hq
  ·exact⟨h0,fun z=>(I.z0.1 p z).ne h0,by show Hot (upd H p _ p);rw[zw];exact Hot.lst⟩
  ·obtain ⟨f1, f2, f3⟩ := I.fresh q (List.mem_filter.mp hq).1
   exact⟨f1,f2,f3.of fun u w=>hf _ _ w⟩
 ·obtain ⟨x, y, z, q, rr⟩ := I.st a e
  exact⟨x,y,z,hf _ _ q,rr⟩
theorem psd_parO{i j:Nat}{x y:Str}{px py pt pl:Pos}{kt k2 pt2}(hc:X.calm=true)(hN:X.N.Nodup)(hi:X.N[i]?=some x)(hj:X.N[j]?=some y)(hij:i≠j)
  (hx:X.env.scope.names.lookup x=some .local) (hy:X.env.scope.names.lookup y=some .local) (hb:∀ (Z:Addr->Prop) (H0:Hp),PD ⟨A.K,A.G,Z,H0⟩ X b tb)
  (hk:X.env.blockKind=.function:=by rfl) (hl:py.line=px.line:=by rfl) (hxy:x≠y:=by decide) (hsb:zZ b=false:=by rfl) (hf:[Expr.List [] pl,b].all (foldedForSure 8)=false:=by decide +kernel) (hca:[Expr.List [] pl,b].all (constantsAlone 8)=false:=by decide +kernel) :
  PSD A X (.Assign [.Tuple [.Name x px,.Name y py] kt pt] (.Tuple [.List [] pl,b] k2 pt2) pos) (sParO i j tb):=by
 with_unfolding_all
  exact(by
   have hb':PE X b (fun sg H Q=>∃ Z H0,tOf ⟨A.K,A.G,Z,H0⟩ tb sg H Q):=fun pins s sg H Q I q=>by
    obtain⟨Z,H0,q⟩:=q
    exact hb Z H0 pins s sg H Q I q
   refine(ps_par hc hN hi hj hij hx hy (pa_cons (pe_lst pa_nil) (pa_cons hb' pa_nil (sE hsb)) (sE rfl)) (swapped2 hk hx hy hl hxy rfl hsb hf hca) rfl).imp fun E sg H h=>?_
   obtain⟨rho,n,F,ds,vs,⟨os,I⟩,⟨hil,hjl,ho,ht⟩,ok⟩:=h
   refine⟨Nat.zero_le _,fun p hp=>?_⟩
   have I1:=I.setOwnX (es:=[]) (xs:=[]) hil hp .nil
   have hH:∀ a o,H a=some o->upd H p (.lst []) a=some o:=fun a o e=>by rw[zm (zy e hp)];exact e
   refine⟨fun a=>Zof A os a\/a=p,upd H p (.lst []),rho,n,_,[],[],⟨[],I.still ho hH (fun a h z=>?_) (fun a z=>?_) (fun a e=>.inl (.inl (I.gz a e)))⟩,ht,fun v H2 n2 d ⟨os2,J⟩ k=>?_⟩
   ·rcases z with z | rfl
    ·exact z
    ·exact absurd hp h
   ·rcases z with z | rfl
    ·exact(I.zHot a z).of fun o e=>hH a o e
    ·rw[zw];exact Hot.lst
   ·obtain ⟨J1, r⟩ := J.pop
    have C:=I1.called (n':=n2) (H':=H2) (fun a o g e=>J1.fr a o g e) J1.st
    refine⟨_,_,rfl,ok.nx _ _ _ _ ⟨_,(C.push (d:=d) (v:=v) ?_).set (by simpa using hjl)⟩ k⟩
    refine Rep.mono (K:=A.K) (G:=A.G) (fun a h z=>?_) (fun a o _ e=>e) _ _ r
    rcases z with z | ⟨q,hq,e⟩
    ·exact .inl (.inl (.inl z))
    ·rcases List.mem_cons.mp hq with rfl | hq
     ·exact .inl (.inr e.symm)
     ·exact .inl (.inl (.inr ⟨q,(List.mem_filter.mp hq).1,e⟩)))
end
end L2
namespace L2
open PySem PySem.Spec PyProof.Rows PySem.SeqAt
section
variable {A:AC} {X:Cx} {a b c e:Expr} {ta tb tc te:TD} {pos:Pos}
def rTeq(K:W.Frag):R2:=fun x y H Q=>∃ p q xs,x=.ref p/\y=.ref q/\SqT K H p xs/\SqT K H q []/\Q (.bl xs.isEmpty) H
theorem op_teq{n:Nat}(hr:Room n X.A):OpR X (compareOp .Eq) (rTeq X.K):=by
 intro pins s σ H x y v u Q I rx ry h
 obtain⟨p,q,xs,rfl,rfl,sq,sq',k⟩:=h
 cases rx
 cases ry
 obtain⟨its,rv,pl,hz⟩:=I.tuple sq
 obtain⟨its',rv',pl',hz'⟩:=I.tuple sq'
 cases rv'
 have hu:=hr.units
 have R:=RcAt.tuples (A:=X.A) (e:=fun _=>true) (show s.heap.IsTuple p its.toArray from pl) (show s.heap.IsTuple q #[] from pl') (by lia) (fun j l1 l2=>absurd l2 (by simp))
 have ev:((List.range (min its.toArray.size (#[]:Array Value).size)).all (fun _=>true)&&its.toArray.size == (#[]:Array Value).size)=xs.isEmpty:=by
  have hl:=rv.length
  cases xs with
  | nil=>cases its with
   | nil=>rfl
   | cons _ _=>simp at hl
  | cons _ _=>cases its with
   | nil=>simp at hl
   | cons _ _=>simp
 exact(rcC R ev) X.prog X.w X.xe _ ⟨.bl xs.isEmpty,H,I,rfl,k⟩
def rdTeq:RD2:=fun d1 d2 k=>tupAt d1 fun es=>d2=.tup []/\k (.bl es.isEmpty)
@[simp] theorem q_rdTeq{d1 d2 k}:rdTeq d1 d2 k=tupAt d1 fun es=>d2=.tup []/\k (.bl es.isEmpty):=rfl
theorem re_teq:OpRel A (rTeq A.K) rdTeq:=by
 rintro os n rho sg H ds vs d1 d2 v1 v2 k Q I ⟨es,rfl,rfl,q⟩ hQ
 obtain⟨I1,r2⟩:=I.pop
 obtain⟨I2,r1⟩:=I1.pop
 obtain⟨a,xs,rfl,sq,rs⟩:=r1.tup_inv
 obtain⟨b,ys,rfl,sq',rs'⟩:=r2.tup_inv
 have e:=rs'.nil_inv
 subst e
 have hl:=rs.length
 have ee:xs.isEmpty=es.isEmpty:=by cases xs<;>cases es<;>first | rfl | (simp at hl;done)
 exact⟨a,b,xs,rfl,rfl,sq.sq,sq'.sq,by rw[ee];exact hQ _ H _ ⟨os,I2.push (Rep.ofS rfl)⟩ q⟩
def rdRepL:RD2:=fun d1 d2 k=>∃ es i,d1=.lst es/\d2=.int i/\0<=i/\i<1000/\es.length*i.toNat<=sizeLine/\k (.lst (replicate i.toNat es).flatten)
@[simp] theorem q_rdRepL{es i k}:rdRepL (.lst es) (.int i) k↔(0<=i/\i<1000/\es.length*i.toNat<=sizeLine/\k (.lst (replicate i.toNat es).flatten)):=⟨fun⟨_,_,e,e',h⟩=>by cases e;cases e';exact h,fun h=>⟨_,_,rfl,rfl,h⟩⟩
def seqL(es:List D)(k:List D->Prop):Prop:=∃ fs,(es=[.lst fs]\/es=[.tup fs])/\k fs
@[simp] theorem q_seqL1{fs:List D}{k}:seqL [.lst fs] k↔k fs:=⟨fun⟨_,e,h⟩=>by rcases e with e | e<;>cases e;exact h,fun h=>⟨_,.inl rfl,h⟩⟩
@[simp] theorem q_seqL2{fs:List D}{k}:seqL [.tup fs] k↔k fs:=⟨fun⟨_,e,h⟩=>by rcases e with e | e<;>cases e;exact h,fun h=>⟨_,.inr rfl,h⟩⟩
def sListO(i:Nat)(t:TAD):TSD:=fun F rho n=>i<rho.length/\t rho n fun es n1=>seqL es fun fs=>F.nx (rho.set i (some (.own fs))) n1
@[simp] theorem q_sListO{i t F rho n}:sListO i t F rho n=(i<rho.length/\t rho n fun es n1=>seqL es fun fs=>F.nx (rho.set i (some (.own fs))) n1):=rfl
end
end L2
namespace L2
open PySem PySem.Spec PyProof.Rows PySem.SeqAt
mutual
def toPyA:D->PyData
 | .bl b=>.bool b
 | .int i=>.int i
 | .str x=>.str x
 | .tup ds=>.tuple (toPyAs ds)
 | .lst ds=>.list (toPyAs ds)
 | _=>.none
def toPyAs:List D->List PyData
 | []=>[]
 | d::ds=>toPyA d::toPyAs ds
end
mutual
def okR:D->Nat->Bool
 | .non,_=>true
 | .bl _,_=>true
 | .int i,_=>decide (i.natAbs.log2<1920)
 | .str x,_=>decide ((reprText x).length<=2000)
 | .tup ds,k=>match k with
  | 0=>false
  | k+1=>okRs ds k
 | .lst ds,k=>match k with
  | 0=>false
  | k+1=>okRs ds k
 | _,_=>false
def okRs:List D->Nat->Bool
 | [],_=>true
 | d::ds,k=>okR d k&&okRs ds k
end
mutual
def nodR:D->Nat
 | .tup ds=>nodRs ds+1
 | .lst ds=>nodRs ds+1
 | _=>1
def nodRs:List D->Nat
 | []=>0
 | d::ds=>nodR d+nodRs ds
end
def showA(d:D):Str:=(toPyA d).shown
section
variable {X:Cx} {pins:List (Addr × Obj)} {σ:St} {H:Hp} {s:Shared} {G:Option Addr} {Z:Addr->Prop}
end
def kRepr:List D->(D->Prop)->Prop:=fun es k=>∃ d,es=[d]/\isTL d=true/\okR d 15=true/\nodR d<=8000/\k (.str (showA d))
@[simp] theorem q_kRepr{d k}:kRepr [d] k↔(isTL d=true/\okR d 15=true/\nodR d<=8000/\k (.str (showA d))):=⟨fun⟨_,e,h⟩=>by cases e;exact h,fun h=>⟨_,rfl,h⟩⟩
end L2
namespace L2
def setAt(es:List D)(e d:D)(k:List D->Prop):Prop:=∃ j m,e=.int j/\ixN es.length j=some m/\k (es.set m d)
def sOwnSet2(i:Nat)(ta:TAD)(tb1 tb2:TD):TSD:=fun F rho n=>ownAt rho[i]? fun es=>ta rho n fun cs n1=>pair2 cs fun d1 d2=>tb1 rho n1 fun e1 n2=>setAt es e1 d1 fun es1 =>
 tb2 (rho.set i (some (.own es1))) n2 fun e2 n3=>setAt es1 e2 d2 fun es2=>F.nx (rho.set i (some (.own es2))) n3
@[simp] theorem q_sOwnSet2{i ta tb1 tb2 F rho n}:sOwnSet2 i ta tb1 tb2 F rho n=ownAt rho[i]? fun es=>ta rho n fun cs n1=>pair2 cs fun d1 d2=>tb1 rho n1 fun e1 n2=>setAt es e1 d1 fun es1 =>
 tb2 (rho.set i (some (.own es1))) n2 fun e2 n3=>setAt es1 e2 d2 fun es2=>F.nx (rho.set i (some (.own es2))) n3:=rfl
section
variable {A:AC} {X:Cx} {a1 a2 b1 b2:Expr} {ta:TAD} {tb1 tb2:TD} {pos:Pos}
end
end L2
namespace PySem
open PySem.Sem (wp)
namespace F
end F
section
variable {prog:Program} {w:World} {K:Type} [DecidableEq K] {knd:KeyKind prog w K} {A:Around} {R:Result->Shared->Prop}
end
end PySem
namespace PySem
open PySem.Sem (wp)
section
variable {prog:Program} {w:World} {K:Type} [DecidableEq K] {knd:KeyKind prog w K} {A:Around} {E:Value->Shared->Prop} {s:Shared}
end
end PySem
namespace L2
section
variable {X:Cx} {A:AC}
end
end L2
namespace L2
open PySem PySem.Spec PyProof.Rows PySem.SeqAt
section
variable {A:AC} {X:Cx}
def tupsAt(d:D)(k:List (List D)->Prop):Prop:=∃ ess:List (List D),d=.tup (ess.map D.tup)/\k ess
def rdInE:RD2:=fun d1 d2 k=>d1=.tup []/\tupsAt d2 fun ess=>k (.bl (ess.any List.isEmpty))
@[simp] theorem q_rdInE2{a b k} : rdInE (.tup []) (.tup [.tup a, .tup b]) k ↔ k (.bl (a.isEmpty || b.isEmpty)) := by
 constructor
 ·rintro ⟨_, ess, e, h⟩
  have:ess=[a,b]:=by
   have e':=D.tup.inj e
   match ess,e' with
   | [x,y],e'=>simp at e';rw[e'.1,e'.2]
   | [],e'=>simp at e'
   | [x],e'=>simp at e'
   | x::y::z::r,e'=>simp at e'
  subst this
  simpa using h
 ·intro h
  exact⟨rfl,[a,b],rfl,by simpa using h⟩
theorem pe_dct0{pos:Pos}:PE X (.Dict [] [] pos) (fun _ H Q=>∀ p,H p=none->Q (.ref p) (upd H p (.dK []))):=fun pins s σ H Q I h =>
 wpAny_Dict_empty ⟨.ref s.heap.objs.size,_,I.laid (a:=s.heap.objs.size) (o:=.dK []) (t':=s.toks) (fun _ _ q=>Heap.get?_push_of_some _ q) (Nat.le_refl _) (dic_ok s.heap (big_of I)),rfl,h _ (I.hok.fresh (Nat.le_refl _))⟩
theorem pd_dct0{pos:Pos}:PD A X (.Dict [] [] pos) (dC (.dct [] [])):=by
 with_unfolding_all
  exact pe_dct0.imp fun sg H Q h=>by
   obtain⟨rho,n,P,ds,vs,⟨os,I⟩,q,hQ⟩:=h
   exact fun p hp=>hQ _ _ n _ ⟨os,I.newDct (ks:=[]) (es:=[]) (xs:=[]) .nil hp⟩ q
end
end L2
namespace L2
open PySem PySem.Spec PyProof.Rows PySem.SeqAt
mutual
def okN:D->Nat->Bool
 | .non,_=>true
 | .int i,_=>decide (i.natAbs.log2<20)
 | .tup ds,k=>match k with
  | 0=>false
  | k+1=>okNs ds k
 | _,_=>false
def okNs:List D->Nat->Bool
 | [],_=>true
 | d::ds,k=>okN d k&&okNs ds k
end
def kStrN:List D->(D->Prop)->Prop:=fun es k=>∃ ds,es=[.tup ds]/\okN (.tup ds) 20=true/\nodR (.tup ds)<=400000/\k (.str (showA (.tup ds)))
@[simp] theorem q_kStrN{ds k}:kStrN [.tup ds] k↔(okN (.tup ds) 20=true/\nodR (.tup ds)<=400000/\k (.str (showA (.tup ds)))):=⟨fun⟨_,e,h⟩=>by cases e;exact h,fun h=>⟨_,rfl,h⟩⟩
end L2
namespace L2
section
variable {A:AC}
def kBool:List D->(D->Prop)->Prop:=fun es k=>∃ i:Int,es=[.int i]/\k (.bl (i != 0))
@[simp] theorem q_kBool{i:Int}{k}:kBool [.int i] k↔k (.bl (i != 0)):=⟨fun⟨_,e,h⟩=>by cases e;exact h,fun h=>⟨_,rfl,h⟩⟩
end
end L2
namespace L2
section
variable {A:AC} {X:Cx} {pos:Pos} {m:Nat}
def gdLst(k:Nat)(gs:TGsD):TGD:=fun d rho P=>∃ es,d=.lst es/\es.length=k/\gs es rho P
@[simp] theorem q_gdLst{k gs es rho P}:gdLst k gs (.lst es) rho P↔(es.length=k/\gs es rho P):=⟨fun⟨_,e,h⟩=>by cases e;exact h,fun h=>⟨_,rfl,h⟩⟩
end
end L2
namespace L2
section
variable {A:AC} {X:Cx}
def showN:D->Str
 | .non => "None"
 | d=>showA d
def okRN(d:D):Prop:=d=.non\/(isTL d=true/\okR d 20=true/\nodR d<=8000)
def kReprN:List D->(D->Prop)->Prop:=fun es k=>∃ d,es=[d]/\okRN d/\k (.str (showN d))
@[simp] theorem q_kReprN{d k}:kReprN [d] k↔(okRN d/\k (.str (showN d))):=⟨fun⟨_,e,h⟩=>by cases e;exact h,fun h=>⟨_,rfl,h⟩⟩
end
theorem lo{sc:Scope}{x:Str}(h:(match sc.names.lookup x with | some .local=>true | some .cell=>true | _=>false)=true):Loc sc x:=by
 unfold Loc
 split at h
 ·exact .inl (by assumption)
 ·exact .inr (by assumption)
 ·cases h
end L2
namespace L2
open PySem PySem.Spec PyProof.Rows PySem.SeqAt
section
variable {A:AC} {X:Cx}
def rdNoneIn:RD2:=fun d1 d2 k=>d1=.non/\∃ ess:List (List D),d2=.lst (ess.map D.lst)/\k (.bl false)
@[simp] theorem q_noneIn{a b k}:rdNoneIn .non (.lst [.lst a,.lst b]) k↔k (.bl false):=⟨fun⟨_,_,_,h⟩=>h,fun h=>⟨rfl,[a,b],rfl,h⟩⟩
def kLenD:List D->(D->Prop)->Prop:=fun es k=>∃ ks ds,es=[.dct ks ds]/\ks.length=ds.length/\k (.int (ks.length:Int))
@[simp] theorem q_kLenD{ks ds k}:kLenD [.dct ks ds] k↔(ks.length=ds.length/\k (.int (ks.length:Int))):=⟨fun⟨_,_,e,h⟩=>by cases e;exact h,fun h=>⟨_,_,rfl,h⟩⟩
end
end L2
namespace L2
open PySem PySem.Spec PyProof.Rows PySem.SeqAt
section
variable {A:AC} {X:Cx}
def dBits(te:TD):TD:=fun rho n P=>te rho n fun d n1=>∃ x:Int,d=.int x/\P (.int ((Builtin.Int.intBits x:Nat):Int)) n1
@[simp] theorem q_dBits{te:TD}{rho:Rho}{n:Nat}{P:D->Nat->Prop}:dBits te rho n P=te rho n fun d n1=>∃ x:Int,d=.int x/\P (.int ((Builtin.Int.intBits x:Nat):Int)) n1:=rfl
end
end L2
namespace L2
open PySem PySem.Spec PyProof.Rows PySem.SeqAt
section
variable {A:AC} {X:Cx}
def kListR:List D->(D->Prop)->Prop:=fun es k=>∃ j:Int,es=[.int j]/\0<=j/\j<=1000/\k (.lst ((List.range j.toNat).map fun i:Nat=>D.int (i:Int)))
@[simp] theorem q_kListR{j:Int}{k:D->Prop}:kListR [.int j] k↔(0<=j/\j<=1000/\k (.lst ((List.range j.toNat).map fun i:Nat=>D.int (i:Int)))):=⟨fun⟨_,e,h⟩=>by cases e;exact h,fun h=>⟨_,rfl,h⟩⟩
end
end L2
namespace L2
structure LamScope(N:List Str)(p:Str)(scope:Scope)(cl:List (Str × Addr)):Prop where
 kind:scope.kind=.function
 co:scope.isCoroutine=false
 gen:scope.isGenerator=false
 nocell:∀ x∈scope.names,x.2≠.cell
 head:N[0]?=some p
 par:scope.names.lookup p=some .local
 free:∀ x,scope.names.lookup x=some .free->∃ c,cl.lookup x=some c
 rest:∀ i x,N[i+1]?=some x->scope.names.lookup x=some .free
def lamCx(X:Cx)(A:Around)(N:List Str)(qual:Str)(scope:Scope)(f c':Addr)(cl:List (Str × Addr))(s:Shared)(H:Hp):Cx where
 prog:=X.prog
 w:=X.w
 K:=X.K
 mg:=X.mg
 base:=X.base
 A:=A.deeper (W.envX qual scope s.heap.objs.size f (.ref c') cl)
 N:=N
 s₀:=s
 H₀:=H
 env:=W.envX qual scope s.heap.objs.size f (.ref c') cl
 outer:=X.stack
 stack:=W.envX qual scope s.heap.objs.size f (.ref c') cl::X.stack
 ex:=[]
 fn:=fun _=>false
 calm:=true
 pn:=[]
 xe:=fun _ _=>False
section
variable {X:Cx} {pins:List (Addr × Obj)} {σ:St} {H:Hp} {s:Shared} {A:Around} {f c':Addr} {qual p:Str} {params:Arguments} {body:Expr} {scope:Scope} {cl:List (Str × Addr)} {pm ctv:Value} {N:List Str} {v:V} {u:Value} {cv:List V}
theorem lam_inv{h1:Heap}{tk:Nat}(I:Inv X pins σ H s)(hA:A.frames=some X.stack)(hh:A.handled=none)(S:LamScope N p scope cl)(hN:N.length=cv.length+1)(r:RelV v u)
  (sub:∀ x c,cl.lookup x=some c->X.env.cells.lookup x=some c)
  (cap:∀ i x y,N[i+1]?=some x->cv[i]?=some y->∃ c,cl.lookup x=some c/\∃ u,RelV y u/\s.heap.IsCell c (some u))
  (hns:h1.Ns s.heap.objs.size (fun y=>[(p,u)].reverse.lookup y)) (hk:∀ b o,s.heap.get? b=some o->h1.get? b=some o) :
  Inv (lamCx X A N qual scope f c' cl s H) [] (some v::cv.map some) H { s with heap:=h1,toks:=tk }:=by
 have noA:∀ b:Addr,b ∉ (lamCx X A N qual scope f c' cl s H).ex:=fun b z=>absurd (show b∈([]:List Addr) from z) (by simp)
 refine⟨⟨I.mod,S.kind,rfl,rfl,Nat.le_refl _,fun y z c h1 h2=>?_,fun y hy=>?_,fun y c z _=>?_,fun _=>hh,Around.frames_deeper hA,.inr ⟨rfl,rfl⟩,fun b z=>absurd z (noA b),I.bs,Nat.le_trans I.ok.bsz I.sz,fun b _ _=>noA b,fun b z=>absurd z (noA b),I.stack,I.stkFree⟩,
  rfl,I.bare,Un.kept hk,⟨_,hns,fun i y z e1 e2 e3=>?_⟩,fun y c h=>?_,I.hok.fresh (Nat.le_refl _),fun y c h=>I.freeC y c (sub y c h),fun p hp=>absurd (show p∈([]:List (Addr × Obj)) from hp) (by simp),I.hok.kept hk,?_⟩
 ·exact I.ok.inj y z c (sub y c h1) (sub z c h2)
 ·have hy : scope.names.lookup y = some .cell \/ scope.names.lookup y = some .free := hy
  rcases hy with hy | hy
  ·exact absurd rfl (S.nocell _ (PySem.mem_of_lookup hy))
  ·exact S.free y hy
 ·cases(show false=true from z)
 ·cases i with
  | zero =>
   have e4:y=p:=by have:=e1.symm.trans S.head;exact Option.some.inj this
   subst e4
   have e5:v=z:=by simpa using e2
   subst e5
   refine⟨u,r,.inl ⟨S.par,?_⟩⟩
   simp
  | succ i =>
   have e4:cv[i]?=some z:=by
    have:(cv.map some)[i]?=some (some z):=by simpa using e2
    rw[getElem?_map] at this
    cases q:cv[i]? with
    | none=>rw[q] at this;cases this
    | some a=>rw[q] at this;cases this;rfl
   obtain⟨c,e5,u',r',o,ho,hd⟩:=cap i y z e1 e4
   exact⟨u',r',.inr ⟨.inr (S.rest i y e1),c,e5,o,hk _ _ ho,hd⟩⟩
 ·obtain ⟨w', o, ho, hd⟩ := I.cell y c (sub y c h)
  exact⟨w',o,hk _ _ ho,hd⟩
 ·show (some v :: cv.map some).length = N.length
  rw[length_cons,length_map,hN]
theorem lam_run{t:TE}{Q:VK}{E:Value->Shared->Prop}(I:Inv X pins σ H s)(hf:s.heap.get? f=some (W.kla_obj "<lambda>" qual params body scope cl pm c' ctv))(hcr:s.heap.CodeRec (.ref c') qual)
  (hA:A.frames=some X.stack) (hroom:A.depth<recursionLimit) (hh:A.handled=none) (S:LamScope N p scope cl) (hN:N.length=cv.length+1)
  (hb:bindArgs (W.kla_fn "<lambda>" qual params body scope cl pm (.ref c') ctv) ⟨[u],[]⟩=pure [(p,u)]) (r:RelV v u)
  (sub:∀ x c,cl.lookup x=some c->X.env.cells.lookup x=some c)
  (cap:∀ i x y,N[i+1]?=some x->cv[i]?=some y->∃ c,cl.lookup x=some c/\∃ u,RelV y u/\s.heap.IsCell c (some u))
  (hbody:PE (lamCx X A N qual scope f c' cl s H) body t) (ht:t (some v::cv.map some) H Q) :
  wpAny (model X.prog X.w) A (call (.ref f) [u]) (EP X pins σ fun v H'=>Q v H'/\∀ b o w,H b=some (.frz o w)->H' b=some (.frz o w)) E s:=by
 refine wpAny_call (codeAny_mono (R:=fun r s'=>match r with | .ok (.ret u)=>CE X.stack X.prog X.w H s (fun v H'=>Q v H'/\∀ b o w,H b=some (.frz o w)->H' b=some (.frz o w)) u s' | _=>False) ?_ fun r s' hq=>?_)
 ·refine W.kla_callFunE hroom hf rfl S.co S.gen rfl hcr ?_
  rw[hb]
  refine wpAny_pure (wpAny_newFunctionEnv S.nocell (fun y hy=>?_) (fun h1 hns hsb=>?_) S.kind)
  ·have : y = (p, u) := by simpa using hy
   rw[this];exact S.par
  ·have hk : ∀ b o, s.heap.get? b = some o -> h1.get? b = some o := fun b o e => hsb.extBut b o (Nat.ne_of_lt (Heap.lt_size e)) (Heap.get?_push_of_some _ e)
   refine⟨I.nolimit.keeps hk,?_⟩
   show codeAny _ _ (.expr body (W.envX qual scope s.heap.objs.size f (.ref c') cl)) _ _
   have I2:Inv (lamCx X A N qual scope f c' cl s H) [] (some v::cv.map some) H { s with heap:=h1,toks:=s.toks+[(p,u)].length }:=lam_inv I hA hh S hN r sub cap hns hk
   refine W.kla_codeExpr (wpAny_mono (hbody [] _ _ H Q I2 ht) (fun u' s' h=>?_) fun _ _ z=>z.elim)
   obtain⟨v',H',J,rv,q⟩:=h
   exact⟨v',H',J.os,J.bare,J.base,J.hok,rv,q,J.base.frzs⟩
 ·cases r with
  | error e=>exact False.elim hq
  | ok fl =>
   cases fl with
   | ret u=>exact I.after hq
   | next=>exact False.elim hq
   | brk=>exact False.elim hq
   | cont=>exact False.elim hq
end
end L2
namespace L2
def tKeys(sp:V->Hp->VK->Prop):List V->Hp->(List V->Hp->Prop)->Prop
 | [],H,Q=>Q [] H
 | v::vs,H,Q=>sp v H fun k H'=>tKeys sp vs H' fun ks H''=>Q (k::ks) H''
section
variable {X:Cx} {pins:List (Addr × Obj)} {σ:St} {H:Hp} {s:Shared}
theorem Inv.pin1{a:Addr}{o:Obj}(I:Inv X pins σ H s)(hf:FpOk X pins H a)(ho:s.heap.get? a=some o)(hc:∀ v,o.data≠.cell v):Inv X ((a,o)::pins) σ H s:=by
 refine⟨I.ok,I.os,I.bare,I.base,I.loc,I.cell,I.free,I.freeC,fun p hp=>?_,I.hok,I.len⟩
 rcases List.mem_append.mp hp with hp | hp
 ·exact I.pin p (mem_append_left _ hp)
 ·rcases List.mem_cons.mp hp with rfl | hp
  ·exact⟨ho,hf.1,hf.2.1,hf.2.2.1,hc⟩
  ·exact I.pin p (mem_append_right _ hp)
theorem Inv.unpin{q:Addr × Obj}(I:Inv X (q::pins) σ H s):Inv X pins σ H s :=
 ⟨I.ok, I.os, I.bare, I.base, I.loc, I.cell, I.free, I.freeC, fun p hp => I.pin p (by
  rcases List.mem_append.mp hp with hp | hp
  ·exact mem_append_left _ hp
  ·exact mem_append_right _ (mem_cons_of_mem _ hp)),I.hok,I.len⟩
theorem FpOk.reH{b:Addr}{H':Hp}(h:FpOk X pins H b)(hn:H' b=none):FpOk X pins H' b:=⟨hn,h.2⟩
theorem FpOk.more{b:Addr}{q:Addr × Obj}(h:FpOk X pins H b)(hq:q.1≠b):FpOk X (q::pins) H b :=
 ⟨h.1, h.2.1, h.2.2.1, h.2.2.2.1, h.2.2.2.2.1, fun p hp => by
  rcases List.mem_append.mp hp with hp | hp
  ·exact h.2.2.2.2.2 p (mem_append_left _ hp)
  ·rcases List.mem_cons.mp hp with rfl | hp
   ·exact hq
   ·exact h.2.2.2.2.2 p (mem_append_right _ hp)⟩
theorem Inv.pinAt{q:Addr × Obj}(I:Inv X pins σ H s)(h:q∈pins):s.heap.get? q.1=some q.2/\H q.1=none :=
 let z:=I.pin q (mem_append_right _ h);⟨z.1,z.2.1⟩
theorem range_pairs2(ks vs:List Value)(h:ks.length=vs.length):ks.toArray.zip vs.toArray=(Array.range vs.length).map fun i=>(ks.getD i .none,vs.getD i .none):=by
 refine Array.ext_getElem? fun k=>?_
 rw[Array.getElem?_map]
 by_cases hk:k<vs.length
 ·have e1 : (Array.range vs.length)[k]? = some k := by rw [Array.getElem?_range, if_pos hk]
  have hk':k<ks.length:=by lia
  rw[e1]
  have e2:(ks.toArray.zip vs.toArray)[k]?=some (ks[k],vs[k]):=by
   rw[Array.getElem?_eq_getElem (by simp;lia)]
   simp
  rw[e2]
  simp[getD_eq_getElem?_getD,hk,hk']
 ·rw [Array.getElem?_eq_none (by simp; lia), Array.getElem?_eq_none (by simp; lia)]
  rfl
def SortFin(X:Cx)(ys:List V)(Q:VK)(ks:List V)(H:Hp):Prop:=∃ (fl:Bool) (r:Nat->Nat->Bool),ks.length=ys.length /\
 (∀ a b,a<ys.length->b<ys.length->a≠b->r a b=!r b a)/\(∀ a b c,a<ys.length->b<ys.length->c<ys.length->r a b=true->r b c=true->r a c=true) /\
 (∀ a,a<ys.length->RowV X H fl (ks.getD a .non))/\(∀ a b,a<ys.length->b<ys.length->a≠b->CmpV X H fl (ks.getD a .non) (ks.getD b .non) (r a b)) /\
 ∀ ls:Array Nat,ls.Perm (Array.range ys.length)->Srt.Up r ls ys.length->∀ l,H l=none->Q (.ref l) (upd H l (.lst (ls.toList.map fun i=>ys.getD i .non)))
variable {A:Around} {E:Value->Shared->Prop} {a kS:Addr} {vs:List Value} {ys ks:List V} {kA:Array Value} {e e1:Nat} {Q:VK}
theorem key_tail{st:SortSt}{ls:Array Nat}(I:Inv X pins σ H s)(hk:s.heap.get? kS=some (seqObj "list" kA e))(ha:s.heap.get? a=some (seqObj "list" #[] e1))(fk:FpOk X pins H kS)(fa:FpOk X pins H a)(hka:kS≠a)(hz0:X.s₀.heap.objs.size<=a)(hz:kA.size<=64)
  (rv:Vals ys vs) (h64:ys.length<64) (h1:arrOf st=ls.map fun i=>(kA.toList.getD i .none,vs.getD i .none)) (h2:failedOf st=none) (h3:ls.Perm (Array.range ys.length)) (q:Q (.ref a) (upd H a (.lst (ls.toList.map fun i=>ys.getD i .non)))) :
  wpAny (model X.prog X.w) A (ksk_tail a false e1 (.ref kS) st) (fun r s'=>r=.done (.ret .none)/\∃ H4,Inv X pins σ H4 s'/\Q (.ref a) H4) E s:=by
 have len:=rv.length
 have hsz:ls.size=ys.length:=by rw[h3.size_eq,Array.size_range]
 have hls:∀ i∈ls.toList,i<ys.length:=fun i hi=>by
  have:=(h3.mem_iff).mp (Array.mem_toList_iff.mp hi)
  rwa [Array.mem_range] at this
 have s1:=Heap.SameBut.update s.heap kS (Obj.mapSeq fun _=>(#[]:Array Value))
 have na1:(s.heap.update kS (Obj.mapSeq fun _=>(#[]:Array Value))).get? a=some (seqObj "list" #[] e1):=(s1.2 a hka.symm).trans ha
 have ea:(arrOf st).map (·.2)=ls.map fun i=>vs.getD i .none:=by rw[h1,Array.map_map];rfl
 have es:((arrOf st).map (·.2)).size<=64:=by rw[ea,Array.size_map,hsz];lia
 unfold ksk_tail
 dsimp only
 refine wpAny_bind (listUpdate_at hk rfl ?_ (by rw[sizeLine_eq];lia) (Nat.zero_le _))
 refine wpAny_bind (wpAny_letGo ?_)
 refine wpAny_bind (seqEpoch_at na1 rfl ?_)
 simp only[Bool.false_eq_true,if_false]
 refine wpAny_bind (listUpdate_at na1 rfl ?_ (Nat.zero_le _) (Nat.le_trans es (by rw[sizeLine_eq];lia)))
 rw[h2]
 simp only[bne_self_eq_false,Bool.false_eq_true,if_false]
 rw[ea]
 have s2:=Heap.SameBut.update (s.heap.update kS (Obj.mapSeq fun _=>(#[]:Array Value))) a (Obj.mapSeq fun _=>ls.map fun i=>vs.getD i .none)
 obtain⟨c2,hc2⟩:∃ c2,((s.heap.update kS (Obj.mapSeq fun _=>(#[]:Array Value))).update a (Obj.mapSeq fun _=>ls.map fun i=>vs.getD i .none)).get? a=some (seqObj "list" (ls.map fun i=>vs.getD i .none) c2) :=
  ⟨_,get?_update_seq na1 fun _=>ls.map fun i=>vs.getD i .none⟩
 refine wpAny_pure ⟨rfl,_,?_,q⟩
 have J:=I.turnedL (t':=s.toks) (h':=(s.heap.update kS (Obj.mapSeq fun _=>(#[]:Array Value))).update a (Obj.mapSeq fun _=>ls.map fun i=>vs.getD i .none)) (ch:=[kS,a]) (fun b o hb z=>by
  have n1:b≠kS:=fun z=>hb (by simp[z])
  have n2:b≠a:=fun z=>hb (by simp[z])
  exact(s2.2 b n2).trans ((s1.2 b n1).trans z)) (fun b hb=>by
  rcases List.mem_cons.mp hb with rfl | hb
  ·exact fk
  ·rw[List.mem_singleton.mp hb];exact fa)
 refine J.track fa.1 hz0 fa.2.1 fa.2.2.2.2.1 fa.2.2.2.2.2 ⟨?_,(ls.toList.map fun i=>vs.getD i .none),c2,vals_pick rv hls,?_⟩
 ·rw [List.length_map, Array.length_toList, hsz]
  exact Nat.le_trans (Nat.le_of_lt h64) (by decide)
 ·have ee : (ls.toList.map fun i => vs.getD i .none).toArray = ls.map fun i => vs.getD i .none := by rw [<- Array.toList_map, Array.toArray_toList]
  rw[ee]
  exact hc2
theorem key_end(I:Inv X pins σ H s)(hk:s.heap.get? kS=some (seqObj "list" kA e))(ha:s.heap.get? a=some (seqObj "list" #[] e1))(fk:FpOk X pins H kS)(fa:FpOk X pins H a)(hka:kS≠a)(hz0:X.s₀.heap.objs.size<=a)
  (rv:Vals ys vs) (h64:ys.length<64) (rk:Vals ks kA.toList) (un:A.units+60<cLine) (fin:SortFin X ys Q ks H) :
  wpAny (model X.prog X.w) A (ksk_end a false vs.toArray e1 (.ref kS) kA) (fun r s'=>r=.done (.ret .none)/\∃ H4,Inv X pins σ H4 s'/\Q (.ref a) H4) E s:=by
 classical
 obtain⟨f,rr,hlen,tot,tr,row,cmp,q⟩:=fin
 have len:=rv.length
 have lenk:=rk.length
 have hz:kA.size<=64:=by rw[<- Array.length_toList];lia
 have ezip:kA.zip vs.toArray=(Array.range vs.length).map fun i=>(kA.toList.getD i .none,vs.getD i .none):=by
  have:=range_pairs2 kA.toList vs (by lia)
  rwa [Array.toArray_toList] at this
 have fin2:∀ (t:SortSt) (ls:Array Nat),arrOf t=ls.map (fun i=>(kA.toList.getD i .none,vs.getD i .none))->failedOf t=none->ls.Perm (Array.range vs.length)->Srt.Up rr ls vs.length ->
   wpAny (model X.prog X.w) A (ksk_tail a false e1 (.ref kS) t) (fun r s'=>r=.done (.ret .none)/\∃ H4,Inv X pins σ H4 s'/\Q (.ref a) H4) E s:=fun t ls a1 a2 a3 a4=>by
  rw[<- len] at a3 a4
  exact key_tail I hk ha fk fa hka hz0 hz rv h64 a1 a2 a3 (q ls a3 a4 a fa.1)
 unfold ksk_end
 dsimp only
 simp only[Bool.false_eq_true,if_false]
 by_cases c:vs.toArray.size<2
 ·rw [if_pos c, if_pos c]
  refine wpAny_bind (wpAny_pure ?_)
  rw[StateT.run_pure]
  refine wpAny_bind (wpAny_pure (fin2 _ (Array.range vs.length) ezip rfl (Array.Perm.refl _) fun i j hij hj=>?_))
  have:vs.length<2:=by simpa using c
  lia
 ·rw [if_neg c, if_neg c]
  have c2:2<=vs.length:=by simpa using c
  have ixd:∀ v∈kA.toList,∃ i,i<ys.length/\v=kA.toList.getD i .none:=fun v hv=>by
   obtain⟨i,hi,e⟩:=List.getElem_of_mem hv
   exact⟨i,by lia,by rw[getD_eq_getElem?_getD,getElem?_eq_getElem hi,e];rfl⟩
  have each:∀ v∈kA.toList,∃ p rest,Srt.Tup s.heap v p rest/\s.TypeIs p (if f then "int" else "tuple"):=fun v hv=>by
   obtain⟨i,hi,rfl⟩:=ixd v hv
   exact row i hi pins _ σ _ I (rk.getD (by lia))
  have ek:kA=kA.toList.toArray:=by rw[Array.toArray_toList]
  have kind:∀ (E:Value->Shared->Prop) (Q:SortKind->Shared->Prop),Q (tuples' f) s->wpAny (model X.prog X.w) A (keyKind' kA) Q E s:=fun E Q q=>by
   rw[ek]
   refine Srt.kind_tuples (s:=s) (T:=if f then "int" else "tuple") (fst:=fun v=>if h:∃ p rest,Srt.Tup s.heap v p rest/\s.TypeIs p (if f then "int" else "tuple") then h.choose else v) (by lia) (fun v hv=>?_) (fun v hv=>?_) ?_
   ·have e := each v hv
    obtain⟨rest,t,_⟩:=e.choose_spec
    exact⟨rest,by rw[dif_pos e];exact t⟩
   ·have e := each v hv
    obtain⟨rest,_,t⟩:=e.choose_spec
    show Shared.TypeIs _ (if h:_ then _ else _) _
    rw[dif_pos e];exact t
   ·cases f
    ·exact q
    ·exact q
  refine wpAny_bind (kind _ _ ?_)
  have hR:Srt.Rule X.prog X.w A s vs.length (fun i=>(kA.toList.getD i .none,vs.getD i .none)) (tuples' f) rr:=by
   refine⟨fun a b ha hb=>tot a b (by lia) (by lia),fun a b c ha hb hc=>tr a b c (by lia) (by lia) (by lia),fun a b ha hb hab E Q q=>?_⟩
   obtain⟨p1,ps,p2,qs,t1,t2,L⟩:=cmp a b (by lia) (by lia) hab pins _ σ _ _ I (rk.getD (by lia)) (rk.getD (by lia)) A un
   exact Srt.keyLt_lex t1 t2 L q
  have N0:Srt.Now vs.length (fun i=>(kA.toList.getD i .none,vs.getD i .none)) (tuples' f) (Array.range vs.length) (SortSt.mk' (tuples' f) (kA.zip vs.toArray) #[] 7 none):=⟨ezip,rfl,rfl,rfl,Array.Perm.refl _⟩
  refine wpAny_bind (wpAny_mono (Srt.all hR N0 c2 (by lia) (Q:=fun _ t=>∃ ls:Array Nat,arrOf t=ls.map (fun i=>(kA.toList.getD i .none,vs.getD i .none))/\failedOf t=none/\ls.Perm (Array.range vs.length)/\Srt.Up rr ls vs.length) fun ls t a1 a2 a3 a4=>⟨ls,a1,a2,a3,a4⟩) ?_ fun _ _ e=>e)
  rintro⟨_,t⟩ s' ⟨rfl,ls,a1,a2,a3,a4⟩
  exact fin2 t ls a1 a2 a3 a4
theorem key_rest{f:Value}{sp:V->Hp->VK->Prop}{Ok:Hp->Prop}(I:Inv X pins σ H s)(hk:s.heap.get? kS=some (seqObj "list" #[] 0))(ha:s.heap.get? a=some (seqObj "list" #[] e1))(fk:FpOk X pins H kS)(fa:FpOk X pins H a)(hka:kS≠a)(hz0:X.s₀.heap.objs.size<=a)
  (rv:Vals ys vs) (h64:ys.length<64) (un:A.units+60<cLine) (ok:Ok H)
  (turn:∀ (pins':List (Addr × Obj)) (s':Shared) (H':Hp) (y:V) (v:Value) (Q:VK),(∀ p∈pins,p∈pins')->Inv X pins' σ H' s'->Ok H'->RelV y v->sp y H' Q->wpAny (model X.prog X.w) A (call f [v]) (EP X pins' σ fun k H2=>Q k H2/\Ok H2) (fun _ _=>False) s')
  (fin:tKeys sp ys H (SortFin X ys Q)) :
  wpAny (model X.prog X.w) A (ksk_rest a f false vs.toArray e1 (.ref kS)) (fun r s'=>r=.done (.ret .none)/\∃ H4,Inv X pins σ H4 s'/\Q (.ref a) H4) E s:=by
 have len:=rv.length
 have fk':FpOk X ((a,seqObj "list" #[] e1)::pins) H kS:=fk.more (Ne.symm hka)
 have nc:∀ (xs:Array Value) (n:Nat) (v:Option Value),(seqObj "list" xs n).data≠.cell v:=fun _ _ _ z=>by cases z
 unfold ksk_rest
 refine wpAny_bind (wpAny_rule ?_)
 first
  | rw[List.forIn_toArray]
  | (rw[<- Array.forIn_toList];simp only[List.toList_toArray])
  | rw[<- Array.forIn_toList]
 refine wpAny_bind (ksk_fold (fun i s'=>∃ H' kA e ks,Inv X ((kS,seqObj "list" kA e)::(a,seqObj "list" #[] e1)::pins) σ H' s'/\Ok H'/\Vals ks kA.toList/\ks.length=i/\tKeys sp (ys.drop i) H' fun rest H3=>SortFin X ys Q (ks++rest) H3) vs 0 s
  ⟨H,#[],0,[],(I.pin1 fa ha (nc _ _)).pin1 fk' hk (nc _ _),ok,.nil,rfl,by simpa using fin⟩ ?step ?done)
 case step =>
  rintro j x s' hx ⟨H',kA,e,ks,I',ok',rk,lk,tk⟩
  simp only[Nat.zero_add] at lk tk ⊢
  have hj:j<vs.length:=(List.getElem?_eq_some_iff.mp hx).1
  have hj':j<ys.length:=by lia
  have ey:ys[j]?=some ys[j]:=getElem?_eq_getElem hj'
  obtain⟨u,eu,ry⟩:=rv.get ey
  have exu:u=x:=Option.some.inj (eu.symm.trans hx)
  subst exu
  rw[List.drop_eq_getElem_cons hj'] at tk
  have hzk:kA.size<=64:=by rw[<- Array.length_toList,<- rk.length];lia
  refine wpAny_bind (wpAny_attempt (wpAny_mono (turn _ s' H' ys[j] u _ (fun p hp=>mem_cons_of_mem _ (mem_cons_of_mem _ hp)) I' ok' ry tk) (fun v s'' he=>?_) fun _ _ hF=>hF.elim))
  obtain⟨k,H2,I2,rk2,tk2,ok2⟩:=he
  try dsimp only
  have nk:=I2.pinAt (q:=(kS,seqObj "list" kA e)) (.head _)
  have na:=I2.pinAt (q:=(a,seqObj "list" #[] e1)) (.tail _ (.head _))
  have s1:=Heap.SameBut.update s''.heap kS (Obj.mapSeq (·.push v))
  obtain⟨c2,hc2⟩:∃ c2,(s''.heap.update kS (Obj.mapSeq (·.push v))).get? kS=some (seqObj "list" (kA.push v) c2):=⟨_,get?_update_seq nk.1 (·.push v)⟩
  have ea:(kA.push v).toList=kA.toList++[v]:=by simp
  refine wpAny_bind (listUpdate_at nk.1 rfl ?_ (by rw[sizeLine_eq];lia) (Nat.le_trans (Nat.le_of_eq (Array.size_push ..)) (by rw[sizeLine_eq];lia)))
  have f2:FpOk X ((a,seqObj "list" #[] e1)::pins) H2 kS:=fk'.reH nk.2
  have I3:=I2.unpin.turned (t':=s''.toks) (h':=s''.heap.update kS (Obj.mapSeq (·.push v))) (it:=kS) (fun b o hb z=>(s1.2 b hb).trans z) nk.2 f2.2.1 f2.2.2.2.1 f2.2.2.2.2.1 f2.2.2.2.2.2
  refine wpAny_pure ⟨rfl,H2,kA.push v,c2,ks++[k],I3.pin1 f2 hc2 (nc _ _),ok2,by rw[ea];exact rk.append (.cons rk2 .nil),by rw[length_append,lk];rfl,?_⟩
  have e9:(fun rest H3=>SortFin X ys Q (ks++[k]++rest) H3)=fun rest H3=>SortFin X ys Q (ks++k::rest) H3:=by funext rest H3;rw[append_assoc];rfl
  rw[e9]
  exact tk2
 case done =>
  rintro s' ⟨H',kA,e,ks,I',ok',rk,lk,tk⟩
  rw[Nat.zero_add,<- len,List.drop_length] at tk
  have tk:SortFin X ys Q (ks++[]) H':=tk
  rw[append_nil] at tk
  have nk:=I'.pinAt (q:=(kS,seqObj "list" kA e)) (.head _)
  have na:=I'.pinAt (q:=(a,seqObj "list" #[] e1)) (.tail _ (.head _))
  try dsimp only
  refine wpAny_bind (listItems_at nk.1 rfl ?_)
  exact key_end I'.unpin.unpin nk.1 na.1 (fk.reH nk.2) (fa.reH na.2) hka hz0 rv h64 rk un tk
theorem key_tree{f:Value}{sp:V->Hp->VK->Prop}{Ok:Hp->Prop}{n0:Nat}(I:Inv X pins σ H s)(ha:s.heap.get? a=some (seqObj "list" vs.toArray n0))(fa:FpOk X pins H a)(hz0:X.s₀.heap.objs.size<=a)
  (rv:Vals ys vs) (h64:ys.length<64) (un:A.units+60<cLine) (ok:Ok H)
  (turn:∀ (pins':List (Addr × Obj)) (s':Shared) (H':Hp) (y:V) (v:Value) (Q:VK),(∀ p∈pins,p∈pins')->Inv X pins' σ H' s'->Ok H'->RelV y v->sp y H' Q->wpAny (model X.prog X.w) A (call f [v]) (EP X pins' σ fun k H2=>Q k H2/\Ok H2) (fun _ _=>False) s')
  (fin:tKeys sp ys H (SortFin X ys Q)) :
  wpAny (model X.prog X.w) A (ksk_tree a f false) (fun r s'=>r=.done (.ret .none)/\∃ H4,Inv X pins σ H4 s'/\Q (.ref a) H4) E s:=by
 have len:=rv.length
 have la:=Heap.lt_size ha
 have s1:=Heap.SameBut.update s.heap a (Obj.mapSeq fun _=>(#[]:Array Value))
 obtain⟨e1,at1⟩:∃ e1,(s.heap.update a (Obj.mapSeq fun _=>(#[]:Array Value))).get? a=some (seqObj "list" #[] e1):=⟨_,get?_update_seq ha fun _=>#[]⟩
 have I1:=I.turned (t':=s.toks) (h':=s.heap.update a (Obj.mapSeq fun _=>(#[]:Array Value))) (it:=a) (fun b o hb z=>(s1.2 b hb).trans z) fa.1 fa.2.1 fa.2.2.2.1 fa.2.2.2.2.1 fa.2.2.2.2.2
 have keep:∀ b o,(s.heap.update a (Obj.mapSeq fun _=>(#[]:Array Value))).get? b=some o->(((s.heap.update a (Obj.mapSeq fun _=>(#[]:Array Value))).push (seqObj "tuple" vs.toArray 0)).push (seqObj "list" #[] 0)).get? b=some o:=fun b o z=>Heap.get?_push_of_some _ (Heap.get?_push_of_some _ z)
 have I2:=I1.kept (t':=s.toks) keep
 have hkS:((s.heap.update a (Obj.mapSeq fun _=>(#[]:Array Value))).push (seqObj "tuple" vs.toArray 0)).objs.size=s.heap.objs.size+1:=by rw[size_push',Heap.size_update]
 have hs0:(s.heap.update a (Obj.mapSeq fun _=>(#[]:Array Value))).objs.size<=((s.heap.update a (Obj.mapSeq fun _=>(#[]:Array Value))).push (seqObj "tuple" vs.toArray 0)).objs.size:=by rw[size_push'];lia
 unfold ksk_tree
 refine wpAny_bind (listItems_at ha rfl ?_)
 refine wpAny_bind (listUpdate_at ha rfl ?_ (by rw[size_toArray,sizeLine_eq];lia) (Nat.zero_le _))
 refine wpAny_bind (seqEpoch_at at1 rfl ?_)
 refine wpAny_bind (wpAny_newTuple ?_ (by show vs.length<=_;rw[sizeLine_eq];lia))
 refine wpAny_bind (wpAny_newList ?_ (Nat.zero_le _))
 refine wpAny_holding ?_
 exact key_rest (s:={ s with heap:=((s.heap.update a (Obj.mapSeq fun _=>(#[]:Array Value))).push (seqObj "tuple" vs.toArray 0)).push (seqObj "list" #[] 0) }) (kS:=((s.heap.update a (Obj.mapSeq fun _=>(#[]:Array Value))).push (seqObj "tuple" vs.toArray 0)).objs.size)
  I2 (Heap.get?_push_size _ rfl) (keep _ _ at1) (I1.fpOk hs0 (I1.hok.fresh hs0)) fa (by rw[hkS];exact Nat.ne_of_gt (Nat.lt_succ_of_lt la)) hz0 rv h64 un ok turn fin
end
end L2
namespace L2
theorem TabG.trip{φ:Addr->Prop}{l:List Value}(g:TabG φ l):TriplesOk l:=by
 induction g with
 | nil=>exact True.intro
 | cons _ _ ih=>exact ih
theorem TabG.among{φ:Addr->Prop}{pos:Pos}{l:List Value}(g:TabG φ l){v:Value}(e:codeAmong pos l=some v):∃ c,v=.ref c/\φ c:=by
 induction g with
 | nil=>cases e
 | cons h _ ih =>
  unfold codeAmong at e
  split at e
  ·cases e;exact⟨_,rfl,h⟩
  ·exact ih e
theorem TabG.snoc{φ:Addr->Prop}{l:List Value}(g:TabG φ l){i j:Int}{t u:Tok}{c:Addr}(h:φ c):TabG φ (l++[.int i t,.int j u,.ref c]):=by
 induction g with
 | nil=>exact .cons h .nil
 | cons h' _ ih=>exact .cons h' ih
structure LamBase(base:Heap)(mg:Str->Option Value)(c P:Addr):Prop where
 hd:W.CodeHd base c P
 bm:∃ bm ob,mg "__builtins__" = some (.ref bm)/\bm≠builtinsNs/\base.get? bm=some ob/\ob.cls=.type "module" /\ ob.dict=some builtinsNs/\ob.data=.plain
def OneMore(H H2:Hp):Prop:=H2=H\/∃ c o,H c=none/\H2=upd H c o
theorem OneMore.keep{H H2:Hp}(h:OneMore H H2):∀ b o,H b=some o->H2 b=some o:=fun b o e=>by
 rcases h with rfl | ⟨c,u,hn,rfl⟩
 ·exact e
 ·rw[zm (zy e hn)];exact e
section
variable {X:Cx} {pins:List (Addr × Obj)} {σ:St} {H:Hp} {s:Shared} {c P:Addr} {q p:Str} {params:Arguments} {body:Expr} {scope:Scope} {clos:List (Str × Addr)} {pos lpos:Pos}
theorem lam_make{Q:Value->Shared->Prop}{E:Value->Shared->Prop}(I:Inv X pins σ H s)(hc:X.env.code=.ref c)(L:LamBase X.base X.mg c P)(hP:H P=some (.cot q))(hq:X.env.qual ++ "<lambda>" = q)
  (hcl:closureFor scope X.env=pure clos) (hdef:defaultsOf params X.env=([],[]))
  (h:∀ (f c':Addr) (oc:Obj) (ctv:Value) (H2:Hp) (s2:Shared),OneMore H H2->Inv X ((f,W.kla_obj "<lambda>" q params body scope clos ((X.mg "__name__").getD .none) c' ctv)::pins) σ H2 s2->H2 c'=some (.frz oc (.own 0))->IsCod oc q->Q (.ref f) s2) :
  wpAny (model X.prog X.w) X.A (eval (.Lambda params body scope lpos) X.env) Q E s:=by
 refine W.kla_eval hdef ?_
 rw[hq]
 obtain⟨ps,ho,g⟩:=I.hok P _ hP
 obtain⟨bm,ob,b1,b2,b3,b4,b5,b6⟩:=L.bm
 have nb:∀ b o,X.base.get? b=some o->b≠P:=fun b o e z=>by
  have:=(I.bs b o e).2
  rw[z,hP] at this;cases this
 have hgP:mainGlobals≠P:=by
  obtain⟨o,es,ep,e,_⟩:=I.mod.glob
  exact nb _ _ e
 have hbG:bm≠mainGlobals:=fun z=>by
  obtain⟨o,es,ep,e,hd,_⟩:=I.mod.glob
  rw[z,e] at b3;cases b3;rw[hd] at b6;cases b6
 have hB:s.heap.BuiltinsAt X.mg P:=⟨bm,ob,b1,b2,hbG,nb _ _ b3,I.bk _ _ b3,b4,b5,b6⟩
 have nc:∀ (c':Addr) (ctv:Value) (v:Option Value),(W.kla_obj "<lambda>" q params body scope clos ((X.mg "__name__").getD .none) c' ctv).data≠.cell v:=fun _ _ _ z=>by cases z
 cases hf:codeAmong lpos ps.toList with
 | some cv =>
  obtain⟨c',rfl,oc,e1,e2⟩:=g.among hf
  refine W.kla_makeFunctionHit (mg:=X.mg) hcl I.ok.glob (I.mod.glob.keeps I.bk) hc (L.hd.keeps I.bk) ho g.trip hf hB fun ctv h' tk hk hsz=>?_
  have I2:=I.kept (t':=tk) (h':=h'.push (W.kla_obj "<lambda>" q params body scope clos ((X.mg "__name__").getD .none) c' ctv)) fun b o e=>Heap.get?_push_of_some _ (hk b o e)
  exact h _ c' oc ctv H _ (.inl rfl) (I2.pin1 (I.fpOk hsz (I.hok.fresh hsz)) (Heap.get?_push_size _ rfl) (nc _ _)) e1 e2
 | none =>
  refine W.kla_makeFunction (mg:=X.mg) hcl I.ok.glob (I.mod.glob.keeps I.bk) hc (L.hd.keeps I.bk) ho g.trip hf hgP hB fun c' ctv h' tk hx hge hlt hrec htb=>?_
  obtain⟨c2,oc,vs,t,ec,hoc,hd,hv⟩:=hrec
  cases ec
  have hn:H c'=none:=I.hok.fresh hge
  have hsz:s.heap.objs.size<=h'.objs.size:=Nat.le_trans hge (Nat.le_of_lt hlt)
  have nP:∀ b,H b=none->b≠P:=fun b e z=>by rw[z,hP] at e;cases e
  have kp:∀ b o,b≠P->s.heap.get? b=some o->(h'.push (W.kla_obj "<lambda>" q params body scope clos ((X.mg "__name__").getD .none) c' ctv)).get? b=some o:=fun b o hb e=>Heap.get?_push_of_some _ (hx b o hb e)
  have cP:c'≠P:=nP c' hn
  have up:∀ b u,H b=some u->upd H c' (.frz oc (.own 0)) b=some u:=fun b u e=>by rw[zm (zy e hn)];exact e
  have U:Un X.fs [] H (upd H c' (.frz oc (.own 0))) s.heap (h'.push (W.kla_obj "<lambda>" q params body scope clos ((X.mg "__name__").getD .none) c' ctv)):=by
   refine⟨fun b o e n _ _=>kp b o (nP b n) e,fun b o e n _ _=>⟨o.slots,kp b o (nP b n) e⟩,fun b o e n _=>?_,fun b o e _=>?_,fun b xs e=>up b _ e,fun b o u e=>up b _ e,fun b ps e=>⟨#[],by rw[up b _ e];simp⟩⟩
   ·rw[zm (Nat.ne_of_lt (Nat.lt_of_lt_of_le (Heap.lt_size e) hge))];exact n
   ·by_cases hb : b = P
    ·exact⟨_,Heap.get?_push_of_some _ (hb ▸ htb)⟩
    ·exact⟨o,kp b o hb e⟩
  have hok:HOk X.prog X.w (upd H c' (.frz oc (.own 0))) (h'.push (W.kla_obj "<lambda>" q params body scope clos ((X.mg "__name__").getD .none) c' ctv)):=fun b u e=>by
   by_cases hb:b=c'
   ·subst hb
    rw[zw] at e;cases e
    exact⟨Heap.get?_push_of_some _ hoc,oc,Heap.get?_push_of_some _ hoc⟩
   ·rw [zm hb] at e
    by_cases hbP:b=P
    ·subst hbP
     rw[hP] at e;cases e
     refine⟨_,Heap.get?_push_of_some _ htb,?_⟩
     rw[Array.toList_append]
     exact(g.imp fun d ⟨oc,z,i⟩=>⟨oc,up _ _ z,i⟩).snoc ⟨oc,zw,vs,t,hd,hv⟩
    ·refine (I.hok b u e).stay (fun d v hd z => kp d v ?_ z) (fun d z => up d _ z) (fun d xs z => up d _ z) fun d o u z => up d _ z
     rcases hd with rfl | hd
     ·exact hbP
     ·intro z;rw[z,hP] at hd;cases hd
  have I2:=I.un (t':=tk) U hok
  have hfn:upd H c' (.frz oc (.own 0)) h'.objs.size=none:=by rw[zm (Nat.ne_of_gt hlt)];exact I.hok.fresh hsz
  exact h _ c' oc ctv _ _ (.inr ⟨c',_,hn,rfl⟩) (I2.pin1 (I.fpOk hsz hfn) (Heap.get?_push_size _ rfl) (nc _ _)) zw ⟨vs,t,hd,hv⟩
theorem SqL.keep{K:W.Frag}{H H2:Hp}{a:Addr}{xs:List V}(h:SqL K H a xs)(k:∀ b o,H b=some o->H2 b=some o):SqL K H2 a xs:=by
 rcases h with (h | ⟨o,h⟩) | h
 ·exact .inl (.inl (k _ _ h))
 ·exact .inl (.inr ⟨o,k _ _ h⟩)
 ·exact .inr h
structure Caps(X:Cx)(N:List Str)(clos:List (Str × Addr))(caps:List Nat):Prop where
 len:N.length=caps.length+1
 at_:∀ i x,N[i+1]?=some x->X.env.kindOf x=some .cell/\∃ j,caps[i]?=some j/\X.N[j]?=some x
 sub:∀ x c,clos.lookup x=some c->X.env.cells.lookup x=some c
 has:∀ i x,N[i+1]?=some x->∃ c,clos.lookup x=some c
def tSortK(X:Cx)(P:Addr)(q:Str)(caps:List Nat)(tb:Hp->TE)(t1:TA):TE:=fun σ H Q=>t1 σ H fun vs H1=>∃ (p0:Addr) (ys cv:List V),vs=[.ref p0]/\SqL X.K H1 p0 ys/\ys.length<64/\H1 P=some (.cot q) /\
 cv.length=caps.length/\(∀ (i j:Nat),caps[i]?=some j->∃ y,cv[i]?=some y/\σ[j]?=some (some y))/\∀ H2,OneMore H1 H2->tKeys (fun y H' Q'=>tb H' (some y::cv.map some) H' Q') ys H2 (SortFin X ys Q)
theorem pe_sortKey{e : Expr}{t1 : TA}{tb : Hp -> TE}{N : List Str}{caps : List Nat}{k : Nat}{np kp : Pos}(hg : Gl X "sorted")(hm : X.mg "sorted" = none)(ha : PA X [e] t1)(hr : Room (k + 3) X.A)
    (hc:X.env.code=.ref c) (L:LamBase X.base X.mg c P) (hq:X.env.qual ++ "<lambda>" = q) (hcl:closureFor scope X.env=pure clos) (hdef:defaultsOf params X.env=([],[]))
    (S:LamScope N p scope clos) (C:Caps X N clos caps) (hb:∀ (u pm ctv:Value) (c':Addr),bindArgs (W.kla_fn "<lambda>" q params body scope clos pm (.ref c') ctv) ⟨[u],[]⟩=pure [(p,u)])
    (hbody:∀ (A:Around) (f c':Addr) (s:Shared) (H:Hp),Room k (A.deeper (W.envX q scope s.heap.objs.size f (.ref c') clos))->PE (lamCx X A N q scope f c' clos s H) body (tb H))
    (he:starEach [e] X.env=(false,eval e X.env)::starEach [] X.env:=by rfl) (hpl:(backTo pos (starEach [e] X.env)).any (·.1)=false:=by rfl) :
    PE X (.Call (.Name "sorted" np) [e] [⟨some "key",.Lambda params body scope lpos,kp⟩] pos) (tSortK X P q caps tb t1):=by
  intro pins s σ H Q I h
  refine wpAny_Call_Name_kw (ld_blt I hg hm bt_sorted ?_ (by decide) (by decide))
  refine callWith_kw (env:=X.env) (e:=e) (rest:=[]) (thn (ha pos pins s σ H _ I h) fun us s1 ⟨vs,H1,I1,r1,q1⟩=>?_) (by rw[he];rfl) hpl rfl rfl
  obtain⟨p0,ys,cv,rfl,hS,h64,hP,hcv,hcap,hk⟩:=q1
  refine kws_cons (lam_make I1 hc L hP hq hcl hdef fun f c' oc ctv H2 s2 hH I2 hoc hcod=>kws_nil ?_)
  cases r1 with
  | cons r rr =>
    cases rr
    cases r
    obtain⟨its,rv,pl,_⟩:=I2.list (hS.keep hH.keep)
    have hl:=pl.isList
    have len:=rv.length
    have fin:=hk H2 hH
    have room:Room (k+1) X.A.in1.in1:=hr.in1.in1
    show wpAny _ _ (call (.builtin "sorted") [.ref p0] [(Str.ofString "key",.ref f)]) _ _ _
    refine call_function_entry_kw kind_sorted plain_sorted entry_sorted (ksk_s1 _ _) ?_
    unfold Builtin.«sorted»
    refine wpAny_bind (m:=checkCount "sorted" 1 1 _) (wpAny_pure ?_)
    refine wpAny_bind (collect_list hl ?_ (by rw[sizeLine_eq];lia))
    refine wpAny_bind (wpAny_newList ?_ (by rw[sizeLine_eq];lia))
    have hsz:((s2.heap.push (seqObj "list" #[] 0)).update s2.heap.objs.size (Obj.mapSeq (·++its.toArray))).objs.size=s2.heap.objs.size+1:=by rw[Heap.size_update,size_push']
    have hoL:(((s2.heap.push (seqObj "list" #[] 0)).update s2.heap.objs.size (Obj.mapSeq (·++its.toArray))).push (seqObj "list" its.toArray 0)).get? (s2.heap.objs.size+1)=some (seqObj "list" its.toArray 0):=by
      rw[<- hsz];exact Heap.get?_push_size _ rfl
    have keep:∀ b o,s2.heap.get? b=some o->(((s2.heap.push (seqObj "list" #[] 0)).update s2.heap.objs.size (Obj.mapSeq (·++its.toArray))).push (seqObj "list" its.toArray 0)).get? b=some o:=fun b o q=>by
      have hlt:b<s2.heap.objs.size:=Heap.lt_size q
      rw[Heap.get?_push_ne _ _ _ (by rw[hsz];exact Nat.ne_of_lt (Nat.lt_succ_of_lt hlt)),Heap.get?_update_ne _ _ _ _ (Nat.ne_of_lt hlt),Heap.get?_push_ne _ _ _ (Nat.ne_of_lt hlt)]
      exact q
    have I3:=I2.kept (t':=s2.toks) keep
    have fa:=I2.fpOk (H':=H2) (b:=s2.heap.objs.size+1) (Nat.le_succ _) (I2.hok.fresh (Nat.le_succ _))
    show wpAny _ _ _ _ _ { s2 with heap:=((s2.heap.push (seqObj "list" #[] 0)).update s2.heap.objs.size (Obj.mapSeq (·++its.toArray))).push (seqObj "list" its.toArray 0) }
    rw[hsz]
    refine wpAny_bind (wpAny_holding (wpAny_call_entry_kw slot_list_sort ⟨_,hoL,rfl⟩ entry_list_sort ?body (ksk_l1 _ _)))
    case body =>
      show wpAny (model X.prog X.w) X.A.in1.in1 (Builtin.«list.sort» ⟨[.ref (s2.heap.objs.size+1)],[(Str.ofString "key",.ref f)]⟩) _ _ _
      rw[ksk_t1]
      refine wpAny_mono (key_tree (Ok:=fun H'=>H' c'=some (.frz oc (.own 0))) I3 hoL fa (Nat.le_trans I2.sz (Nat.le_succ _)) rv h64 (by have:=room.un;lia) hoc (fun pins' s' H' y v Q' hsub I' ok' ry ht=>?_) fin) (fun r s' hq=>?_) fun _ _ z=>z
      · have hcr : s'.heap.CodeRec (.ref c') q := by
          obtain⟨z1,_⟩:=I'.hok c' _ ok'
          obtain⟨vs,t,d1,d2⟩:=hcod
          exact⟨c',oc,vs,t,rfl,z1,d1,d2⟩
        refine thn (lam_run (cv:=cv) I' (I'.pinAt (hsub _ (.head _))).1 hcr I'.ok.frames room.depth room.hd S (by rw[C.len,hcv]) (hb _ _ _ _) ry C.sub (fun i x y e1 e2=>?_) (hbody _ _ _ _ _ (room.deeper _)) ht) fun u s3 hz=>?_
        · obtain ⟨hkind, j, e3, e4⟩ := C.at_ i x e1
          obtain⟨y',e5,e6⟩:=hcap i j e3
          have e7:y'=y:=Option.some.inj (e5.symm.trans e2)
          subst e7
          obtain⟨cc,e8⟩:=C.has i x e1
          obtain⟨m,_,lk⟩:=I'.loc
          obtain⟨u',r',l⟩:=lk j x y' e4 e6 (.inr (.inl hkind))
          rcases l with ⟨l,_⟩ | ⟨_,c3,e9,z⟩
          · rw[hkind] at l;cases l
          · have e10 := C.sub x cc e8
            rw[e9] at e10;cases e10
            exact⟨_,e8,u',r',z⟩
        · obtain ⟨v2, H3, I4, rv2, q2, fz⟩ := hz
          exact⟨v2,H3,I4,rv2,q2,fz _ _ _ ok'⟩
      · obtain ⟨rfl, H4, I4, q4⟩ := hq
        exact⟨_,rfl,wpAny_pure ⟨_,rfl,.ref (s2.heap.objs.size+1),H4,I4.unpin,rfl,q4⟩⟩
end
end L2
namespace L2
def dSortK(caps:List Nat)(tb:TD)(t1:TAD):TD:=fun rho n R=>t1 rho n fun es n1=>∃ (rows:List D) (keys:List SRow) (fl:Bool) (cs:List D),es=[.lst rows]/\rows.length<64/\keys.length=rows.length/\(∀ x∈keys,x.key.num=fl)/\(keys.map SRow.name).Nodup /\
 cs.length=caps.length/\(∀ (i j:Nat),caps[i]?=some j->∃ d,cs[i]?=some d/\rho[j]?=some (some d)/\zn d=true)/\(∀ (i:Nat) (d:D) (x:SRow),rows[i]?=some d->keys[i]?=some x->tb (some d::cs.map some) n1 fun e n2=>e=x.d/\n2=n1) /\
 ∀ ls:List Nat,ls.Perm (List.range rows.length)->(ls.map fun i=>keys.getD i row0).Pairwise (fun x y=>x.lt y=true)->R (.lst (ls.map fun i=>rows.getD i .non)) n1
section
variable {A:AC} {X:Cx} {os:List (Nat × Addr)} {n:Nat} {rho:Rho} {sg:St} {H:Hp} {ds:List D} {vs:List V}
theorem caps_vals(I:AmO A os n rho sg H ds vs):∀ (caps:List Nat) (cs:List D),cs.length=caps.length->(∀ (i j:Nat),caps[i]?=some j->∃ d,cs[i]?=some d/\rho[j]?=some (some d)/\zn d=true) ->
  ∃ cv:List V,Reps A.K A.G (Zof A os) H cs cv/\∀ (i j:Nat),caps[i]?=some j->∃ y,cv[i]?=some y/\sg[j]?=some (some y)
 | [],[],_,_=>⟨[],.nil,fun i j e=>by simp at e⟩
 | [],_::_,h,_=>by simp at h
 | _::_,[],h,_=>by simp at h
 | j :: caps, c :: cs, h, hc => by
  obtain⟨d,e1,e2,e3⟩:=hc 0 j rfl
  have e4:c=d:=by simpa using e1
  subst e4
  obtain⟨v,e5,e6⟩:=I.slot j c e2
  obtain⟨cv,r,hv⟩:=caps_vals I caps cs (by simpa using h) fun i j e=>by
   obtain⟨d,z1,z2⟩:=hc (i+1) j (by simpa using e)
   exact⟨d,by simpa using z1,z2⟩
  refine⟨v::cv,.cons (e6.rep e3) r,fun i k e=>?_⟩
  cases i with
  | zero =>
   have e7:j=k:=by simpa using e
   subst e7
   exact⟨v,rfl,e5⟩
  | succ i =>
   obtain⟨y,z1,z2⟩:=hv i k (by simpa using e)
   exact⟨y,by simpa using z1,z2⟩
theorem tOf_lam{K:W.Frag}{G:Option Addr}{Z:Addr->Prop}{tb:TD}{d:D}{cs:List D}{v:V}{cv:List V}{Q:VK}{P:D->Nat->Prop}(rs:Reps K G Z H (d::cs) (v::cv))(st:StOk G n H)(gz:∀ a,G=some a->Z a)(z0:ZOk K G Z H)
  (ht:tb (some d::cs.map some) n P) (hQ:∀ v' H' n' d',(∀ a o,G≠some a->H a=some o->H' a=some o)->StOk G n' H'->Rep K G Z H' d' v'->P d' n'->Q v' H'):tOf ⟨K,G,Z,H⟩ tb (some v::cv.map some) H Q:=by
 have S:=amo_start (N:=replicate (d::cs).length "") rs st gz z0
 have e1:startD (replicate (d::cs).length "") (d::cs)=some d::cs.map some:=by unfold startD;simp
 have hl:=rs.length
 have e2:start (replicate (d::cs).length "") (v::cv)=some v::cv.map some:=by unfold start;simp at hl;simp[hl]
 rw[e1,e2] at S
 refine⟨_,n,P,[],[],⟨[],S⟩,ht,fun v' H' n' d' ⟨os2,J⟩ hp=>hQ v' H' n' d' J.fr J.st (Rep.mono (fun a _ z=>.inl z) (fun _ _ _ e=>e) _ _ J.pop.2) hp⟩
theorem keys_D{N2:Nat}{tb:TD}{cs:List D}{cv:List V}{ys:List V}{Q:VK}(hK:X.K=A.K) :
  ∀ (rows:List D) (xs:List V) (keys:List SRow) (done:List SRow) (dv:List V) (H:Hp),keys.length=rows.length->AmO A os n rho sg H ds vs->Reps A.K A.G (Zof A os) H rows xs->Reps A.K A.G (Zof A os) H cs cv->Reps A.K A.G (Zof A os) H (done.map SRow.d) dv ->
   (∀ (i:Nat) (d:D) (x:SRow),rows[i]?=some d->keys[i]?=some x->tb (some d::cs.map some) n fun e n2=>e=x.d/\n2=n) ->
   (∀ (kv:List V) (H3:Hp),(∀ a o,A.G≠some a->H a=some o->H3 a=some o)->AmO A os n rho sg H3 ds vs->Reps A.K A.G (Zof A os) H3 ((done++keys).map SRow.d) (dv++kv)->SortFin X ys Q (dv++kv) H3) ->
   tKeys (fun y H' Q'=>(∃ G Z,tOf ⟨X.K,G,Z,H'⟩ tb (some y::cv.map some) H' Q')) xs H fun rest H3=>SortFin X ys Q (dv++rest) H3
 | [],xs,[],done,dv,H,_,I,rr,rc,rd,_,fin=>by
  rw[rr.nil_inv]
  show SortFin X ys Q (dv++[]) H
  exact fin [] H (fun _ _ _ e=>e) I (by simpa using rd)
 | [],xs,_::_,done,dv,H,hl,_,_,_,_,_,_=>by simp at hl
 | _::_,xs,[],done,dv,H,hl,_,_,_,_,_,_=>by simp at hl
 | d :: rows, xs, k :: keys, done, dv, H, hl, I, rr, rc, rd, htb, fin => by
  obtain⟨v,xs',rfl,r0,rr'⟩:=rr.split
  show ∃ G Z,tOf ⟨X.K,G,Z,H⟩ tb (some v::cv.map some) H fun kk H'=>tKeys _ xs' H' fun ks H''=>SortFin X ys Q (dv++kk::ks) H''
  refine⟨A.G,Zof A os,?_⟩
  suffices z:tOf ⟨A.K,A.G,Zof A os,H⟩ tb (some v::cv.map some) H (fun kk H'=>tKeys (fun y H' Q'=>(∃ G Z,tOf ⟨X.K,G,Z,H'⟩ tb (some y::cv.map some) H' Q')) xs' H' fun ks H''=>SortFin X ys Q (dv++kk::ks) H'') by
   rw[<- hK] at z
   exact z
  refine tOf_lam (.cons r0 rc) I.st (fun a z=>.inl (I.gz a z)) I.zO (htb 0 d k rfl rfl) fun v' H' n' d' fr st r ⟨e1,e2⟩=>?_
  subst e1
  have st':StOk A.G n H':=e2 ▸ st
  have I':=I.called fr st'
  have mono:∀ {es:List D} {ws:List V},Reps A.K A.G (Zof A os) H es ws->Reps A.K A.G (Zof A os) H' es ws:=fun h=>Reps.mono (fun _ _ z=>z) (fun b u nz e=>fr b u (fun z=>nz (.inl (I.gz b z))) e) _ _ h
  have rd':Reps A.K A.G (Zof A os) H' ((done++[k]).map SRow.d) (dv++[v']):=by
   rw[map_append]
   exact(mono rd).append (.cons r .nil)
  have key:=keys_D (N2:=N2) (ys:=ys) (Q:=Q) hK rows xs' keys (done++[k]) (dv++[v']) H' (by simpa using hl) I' (mono rr') (mono rc) rd' (fun i d x e1 e2=>htb (i+1) d x (by simpa using e1) (by simpa using e2)) fun kv H3 fr3 I3 r3=>by
   have:=fin (v'::kv) H3 (fun a o g e=>fr3 a o g (fr a o g e)) I3 (by simpa using r3)
   simpa using this
  have e9:(fun rest H3=>SortFin X ys Q (dv++[v']++rest) H3)=fun ks H''=>SortFin X ys Q (dv++v'::ks) H'':=by funext rest H3;rw[append_assoc];rfl
  rw[e9] at key
  exact key
variable {e body:Expr} {t1:TAD} {tb:TD} {N:List Str} {caps:List Nat} {k:Nat} {np kp pos lpos:Pos} {c P:Addr} {q p:Str} {params:Arguments} {scope:Scope} {clos:List (Str × Addr)}
theorem pd_sortKey(ti:TabIs A.K P q)(hK:X.K=A.K)(hm:X.mg "sorted" = none)(hr:Room (k+3) X.A)(ha:PAD A X [e] t1)(L:LamBase X.base X.mg c P)(S:LamScope N p scope clos)(C:Caps X N clos caps)
  (hbody:∀ (A1:Around) (f c':Addr) (s:Shared) (H:Hp) (G:Option Addr) (Z:Addr->Prop),Room k (A1.deeper (W.envX q scope s.heap.objs.size f (.ref c') clos))->PD ⟨X.K,G,Z,H⟩ (lamCx X A1 N q scope f c' clos s H) body tb)
  (hq:X.env.qual ++ "<lambda>" = q:=by rfl) (hc:X.env.code=.ref c:=by rfl) (hcl:closureFor scope X.env=pure clos:=by rfl) (hdef:defaultsOf params X.env=([],[]):=by rfl)
  (hb:∀ (u pm ctv:Value) (c':Addr),bindArgs (W.kla_fn "<lambda>" q params body scope clos pm (.ref c') ctv) ⟨[u],[]⟩=pure [(p,u)]:=by intros;rfl) (hg:Gl X "sorted" := by rfl)
  (he:starEach [e] X.env=(false,eval e X.env)::starEach [] X.env:=by rfl) (hpl:(backTo pos (starEach [e] X.env)).any (·.1)=false:=by rfl) :
  PD A X (.Call (.Name "sorted" np) [e] [⟨some "key",.Lambda params body scope lpos,kp⟩] pos) (dSortK caps tb t1):=by
 with_unfolding_all
  exact(pe_sortKey (tb:=fun H' σ' H'' Q'=>∃ G Z,tOf ⟨X.K,G,Z,H'⟩ tb σ' H'' Q') hg hm ha hr hc L hq hcl hdef S C hb (fun A1 f c' s H hr pins s1 σ1 H1 Q I h=>by
    obtain⟨G,Z,h⟩:=h
    exact hbody A1 f c' s H G Z hr pins s1 σ1 H1 Q I h) he hpl).imp fun sg H Q h=>by
   obtain⟨rho,n,R,ds,vs,I,ht,hQ⟩:=h
   refine⟨rho,n,_,ds,vs,I,ht,fun ws H' n' es' ⟨os,J⟩ hl k=>?_⟩
   obtain⟨rows,keys,fl,cs,rfl,h64,hlk,hnum,hnd,hcs,hcap,htb,hfin⟩:=k
   obtain⟨J1,rs⟩:=J.split hl
   obtain⟨v,rfl,r⟩:=reps1 rs
   obtain⟨a,xs,rfl,sq,rr⟩:=r.lst_inv
   have len:xs.length=rows.length:=rr.length
   obtain⟨cv,rc,hcv⟩:=caps_vals J1 caps cs hcs hcap
   refine⟨a,xs,cv,rfl,by rw[hK];exact sq.sq,by lia,(J1.zO.2 P q ti).1,by rw[rc.length];exact hcs,hcv,fun H2 hH2=>?_⟩
   have kp2:=hH2.keep
   have J2:AmO A os n' rho sg H2 ds vs:=by
    rcases hH2 with rfl | ⟨c2,o2,hn2,rfl⟩
    ·exact J1
    ·exact J1.grow hn2
   have mono:∀ {es:List D} {ws:List V},Reps A.K A.G (Zof A os) H' es ws->Reps A.K A.G (Zof A os) H2 es ws:=fun h=>Reps.mono (fun _ _ z=>z) (fun b u _ e=>kp2 b u e) _ _ h
   refine keys_D (N2:=0) hK rows xs keys [] [] H2 hlk J2 (mono rr) (mono rc) .nil htb fun kv H3 fr I3 rk=>?_
   rw[nil_append] at rk ⊢
   have rr3:Reps A.K A.G (Zof A os) H3 rows xs:=Reps.mono (fun _ _ z=>z) (fun b u nz e=>fr b u (fun z=>nz (.inl (J2.gz b z))) e) _ _ (mono rr)
   rw[nil_append,<- hK] at rk
   have lenk:kv.length=keys.length:=by rw[rk.length,length_map]
   have mem:∀ i,i<keys.length->keys.getD i row0∈keys:=fun i hi=>by
    rw[getD_eq_getElem?_getD,getElem?_eq_getElem hi];exact getElem_mem hi
   have dist:∀ i j,i<keys.length->j<keys.length->i≠j->(keys.getD i row0).name≠(keys.getD j row0).name:=fun i j hi hj hij e=>by
    have g:∀ i (hi:i<keys.length),(keys.map SRow.name)[i]'(by simpa using hi)=(keys.getD i row0).name:=fun i hi=>by
     rw[List.getElem_map,getD_eq_getElem?_getD,getElem?_eq_getElem hi];rfl
    have f:=List.pairwise_iff_getElem.mp hnd
    rcases Nat.lt_or_gt_of_ne hij with l | l
    ·exact f i j (by simpa using hi) (by simpa using hj) l (by rw[g i hi,g j hj,e])
    ·exact f j i (by simpa using hj) (by simpa using hi) l (by rw[g i hi,g j hj,e])
   have num:∀ i,i<keys.length->(keys.getD i row0).key.num=fl:=fun i hi=>hnum _ (mem i hi)
   refine⟨fl,fun i j=>(keys.getD i row0).lt (keys.getD j row0),by lia,fun i j hi hj hij=>SRow.lt_anti (by rw[num i (by lia),num j (by lia)]) (dist i j (by lia) (by lia) hij),fun i j l _ _ _ h1 h2=>SRow.lt_trans h1 h2,fun i hi=>?_,fun i j hi hj hij=>?_,fun ls hp hU l hl'=>?_⟩
   ·intro pins s σ u J ru
    obtain⟨p,rest,R⟩:=row_at J (rk.getD (enc:=SRow.d) (a0:=row0) (by lia)) ru
    obtain⟨z,t,_⟩:=R.tup
    have ty:=row_type J R
    rw[num i (by lia)] at ty
    exact⟨p,_,t,ty⟩
   ·intro pins s σ u v J ru rv B hB
    obtain⟨p,ps,R⟩:=row_at J (rk.getD (enc:=SRow.d) (a0:=row0) (by lia)) ru
    obtain⟨p',ps',R'⟩:=row_at J (rk.getD (enc:=SRow.d) (a0:=row0) (by lia)) rv
    have c:=row_cmp J (by rw[num i (by lia),num j (by lia)]) (dist i j (by lia) (by lia) hij) R R' hB
    rw[num i (by lia)] at c
    exact c
   ·rw [len] at hp hU
    have hls:∀ i∈ls.toList,i<rows.length:=fun i hi=>by
     have:=(hp.mem_iff).mp (Array.mem_toList_iff.mp hi)
     rwa [Array.mem_range] at this
    have hsz:ls.size=rows.length:=by rw[hp.size_eq,Array.size_range]
    have rp:Reps A.K A.G (Zof A os) H3 ((ls.toList.map fun i=>rows.getD i .non).map id) (ls.toList.map fun i=>xs.getD i .non):=reps_pick (enc:=id) (a0:=.non) (by rw[List.map_id];exact rr3) hls
    rw[List.map_id] at rp
    refine hQ _ _ _ _ ⟨os,I3.newLst rp hl'⟩ (hfin ls.toList ?_ ?_)
    ·have := Array.perm_iff_toList_perm.mp hp
     rwa [Array.toList_range] at this
    ·rw [List.pairwise_map, List.pairwise_iff_getElem]
     intro i j hi hj hij
     have hi':i<ls.size:=by simpa using hi
     have hj':j<ls.size:=by simpa using hj
     have u:=hU i j hij (by lia)
     have g:∀ i (hi:i<ls.size),Srt.lab ls i=ls.toList[i]'(by simpa using hi):=fun i hi=>by
      refine Srt.lab_of_get ?_
      rw[<- Array.getElem?_toList,getElem?_eq_getElem (by simpa using hi)]
     rw[g i hi',g j hj'] at u
     exact u
end
section
variable {P:Program} {w:World} {K:W.Frag} {mg:Str->Option Value} {base:Heap}
theorem code_of_tab{x qual:Str}{st:Stmt}{f c Pt:Addr}{oc:Value}{od an:Option Addr}{osl:Array (Option Value)}{kV doc pm cdv ct:Value}(lk:K.lookup f=some ⟨oc,od,.func (W.fnOf x qual (defArgs st) (defBody st) (zi st) .none kV doc pm an cdv ct),osl⟩)
  (hn:W.nsIn K mainGlobals x=some (some (.ref f))) (ht:W.tabIn K x=some (c,Pt)):cdv=.ref c:=by
 unfold W.tabIn at ht
 rw[hn] at ht
 simp only[lk] at ht
 split at ht
 ·split at ht
  ·split at ht
   ·cases ht;first | rfl | assumption
   ·cases ht
  ·cases ht
 ·cases ht
theorem Fun.okL{x qual:Str}{st:Stmt}{f c Pt:Addr}{fd:FuncData}{N ps:List Str}{k:Nat}{t:TF}{tb:TSD}(F:Fun K x qual st f fd)(hn:W.nsIn K mainGlobals x=some (some (.ref f)))(ht:W.tabIn K x=some (c,Pt))(S:FnScope N ps (zi st))
  (body : ∀ (A0 : Around) (outer : List Env) (s : Shared) (H : Hp) (E : XK) (G : Option Addr) (Z : Addr -> Prop), Room k (A0.deeper (envOfC qual (zi st) s.heap.objs.size f (.ref c))) ->
   PSsD ⟨K,G,Z,H⟩ (cxOf CX0 P w K mg base N qual (zi st) f (.ref c) A0 outer s H E).nox (defBody st) tb)
  (spec:∀ ds n Q,ds.length=ps.length->t ds n Q->tb { nx:=fun _ n=>Q .non n,rt:=Q } (startD N ds) n):FnOk P w K mg base CX0 (k+1) f fd ps (spD K ps.length t):=by
 with_unfolding_all
  exact(by
   obtain⟨oc,od,kV,doc,pm,an,cdv,ct,osl,rfl,lk,hcd⟩:=F.ex
   have e:=code_of_tab lk hn ht
   subst e
   refine fn_of lk hcd S (fun vs H Q E h=>?_) fun A0 outer s H vs Q E hr h=>?_
   ·obtain ⟨G, Z, n, R, ds, hl, rs, _⟩ := h
    rw[rs.length];exact hl
   ·obtain ⟨G, Z, n, R, ds, hl, rs, hst, gz, z0, ht, hQ⟩ := h
    refine⟨_,PSs.nox (body A0 outer s H E G Z hr),startD N ds,n,_,[],[],⟨[],amo_start rs hst gz z0⟩,spec ds n R hl ht,?_⟩
    have zz:∀ (os:List (Nat × Addr)) a,Z a->Zof ⟨K,G,Z,H⟩ os a:=fun os a z=>.inl z
    refine⟨fun rho' n' sg' H' ⟨os,I⟩ q=>?_,fun d n' v rho' sg' H' ⟨os,I⟩ q=>?_,fun _ _ _ _ _ q=>q.elim,fun _ _ _ _ _ q=>q.elim⟩
    ·exact hQ .non H' n' .non I.fr I.st (Rep.ofS rfl) q
    ·exact hQ v H' n' d I.fr I.st (Rep.mono (fun a _ z=>zz os a z) (fun _ _ _ e=>e) _ _ I.pop.2) q)
end
end L2
namespace L2
abbrev LamAll(K:W.Frag)(mg:Str->Option Value)(base:Heap):Prop:=∀ x∈lamDefs,∀ c P,W.tabIn K x=some (c,P)->LamBase base mg c P
theorem law_callC{P:Program}{w:World}{K:W.Frag}{mg mb:Str->Option Value}{CX:CXT}{k:Nat}{fa a:Addr}{fd:FuncData}{x:Str}{sp:Sp}{s₁:Shared}{vs:List Value}{ns:List Int}
  (KX:K.In s₁.heap) (hns:s₁.heap.Ns mainGlobals mg) (hb:s₁.heap.Ns builtinsNs mb) (hbb:∀ x:Str,x ≠ "__name__" -> mb x=bootBuiltins x) (hlim:s₁.heap.NoLimit) (hdig:s₁.heap.NoDigits) (hg:s₁.gens=#[])
  (hT:∀ x∈lamDefs,∀ c P,W.tabIn K x=some (c,P)->W.CodeHd s₁.heap c P/\s₁.heap.get? P=some (W.tabObj #[])) (hu:∀ P q q',TabIs K P q->TabIs K P q'->q=q') (hnt:W.noTabs K=true)
  (hbm:∃ bm ob,mg "__builtins__" = some (.ref bm)/\bm≠builtinsNs/\s₁.heap.get? bm=some ob/\ob.cls=.type "module" /\ ob.dict=some builtinsNs/\ob.data=.plain)
  (ha:s₁.heap.get? a=some { cls:=.type "list",data:=.seq vs.toArray }) (hi:IntsAre vs ns) (hl:ns.length<=sizeLine) (hr:Room k callerA)
  (F:∀ base:Heap,K.In base->base.Ns mainGlobals mg->base.NoDigits->LamAll K mg base->FnOk P w K mg base CX k fa fd [x] sp) (hbind:∀ (s:Shared) (u:Value),BindsTo s fd ⟨[u],[]⟩ [(x,u)])
  (hsp:∀ H:Hp,OnlyC H->SqL K H a (ns.map V.int)->(∀ P q,TabIs K P q->H P=some (.cot q))->sp [.ref a] H (fun v H'=>v=.bl true/\∀ P q,H P=some (.cot q)->H' P=some (.cot q)) fun _ _ _=>False)
  (hCX:∀ H e s',CX [] H s₁ (fun _ _ _=>False) e s'->False) :
  codeAny (model P w) callerA (.call (.ref fa) ⟨[.ref a],[]⟩) (fun r s'=>r=.ok (.ret (.bool true))/\OldK s₁.heap s'.heap/\s'.os=s₁.os/\AllBare s'.gens) s₁:=by
 classical
 have rv:=vals_ints hi
 have lenV:=hi.length
 have tabAt:∀ {b:Addr},(∃ q,TabIs K b q)->∃ c,W.CodeHd s₁.heap c b/\s₁.heap.get? b=some (W.tabObj #[]):=fun {b} ⟨q,x,hx,c,e,_⟩=>⟨c,hT x hx c b e⟩
 have core : ∀ H : Hp, (∀ b, (H b = none) \/ (b = a /\ ∃ o xs, H b = some (.frz o (.lst xs))) \/ ∃ q, TabIs K b q /\ H b = some (.cot q)) -> (∀ P q, TabIs K P q -> H P = some (.cot q)) -> SqL K H a (ns.map V.int) -> HOk P w H s₁.heap -> (H a ≠ none -> K.lookup a = none) ->
   codeAny (model P w) callerA (.call (.ref fa) ⟨[.ref a],[]⟩) (fun r s'=>r=.ok (.ret (.bool true))/\OldK s₁.heap s'.heap/\s'.os=s₁.os/\AllBare s'.gens) s₁:=by
  intro H hO hTH hS hok hK
  have base_of:∀ {b:Addr} {o:Obj},s₁.heap.get? b=some o->H b=none->(hidT s₁.heap H).get? b=some o:=fun e n=>hidT_get e n
  have noA:∀ {b:Addr} {o:Obj},s₁.heap.get? b=some o->o.cls≠.type "list" -> o≠W.tabObj #[]->H b=none:=fun {b o} e d1 d2=>by
   rcases hO b with z | ⟨rfl,_⟩ | ⟨q,t,_⟩
   ·exact z
   ·rw[ha] at e;cases e;exact absurd rfl d1
   ·obtain ⟨c, _, e2⟩ := tabAt ⟨q, t⟩
    rw[e2] at e;cases e;exact absurd rfl d2
  have noD:∀ {b:Addr} {o:Obj} {es:Array DictEntry} {ep:Nat},s₁.heap.get? b=some o->o.data=.dict es ep->H b=none:=fun {b o es ep} e d=>by
   rcases hO b with z | ⟨rfl,_⟩ | ⟨q,t,_⟩
   ·exact z
   ·rw [ha] at e; cases e
    have d':Data.seq vs.toArray _=Data.dict es ep:=d
    cases d'
   ·obtain ⟨c, _, e2⟩ := tabAt ⟨q, t⟩
    rw[e2] at e;cases e
    have d':Data.fields #[]=Data.dict es ep:=d
    cases d'
  have nsK:∀ {b:Addr} {m:Str->Option Value},s₁.heap.Ns b m->(hidT s₁.heap H).Ns b m:=fun {b m} ⟨o,es,ep,e,d,r⟩=>⟨o,es,ep,base_of e (noD e d),d,r⟩
  have hKb:K.In (hidT s₁.heap H):=fun b o e=>base_of (KX b o e) (by
   rcases hO b with z | ⟨rfl,o',xs,z⟩ | ⟨q,t,z⟩
   ·exact z
   ·rw[hK (by rw[z];simp)] at e;cases e
   ·obtain ⟨c, _, e2⟩ := tabAt ⟨q, t⟩
    rw[KX b o e] at e2
    cases e2
    have h2:=List.all_eq_true.mp hnt (b,_) (W.mem_of_lookupK e)
    exact absurd (show false=true from h2) Bool.false_ne_true)
  have hM:Mod K mg (hidT s₁.heap H):=⟨hKb,nsK hns,⟨mb,nsK hb,hbb⟩,let ⟨mc,h1,h2⟩:=hlim;⟨mc,nsK h1,h2⟩⟩
  have e0:Env0 P w K mg (hidT s₁.heap H) callerA [] s₁ H:=⟨rfl,hM,fun b o e=>of_hidT e,Nat.le_of_eq (hidT_size _ _),trivial,fun b hb=>absurd (show b∈([]:List Addr) from hb) (by simp),hok,.of_eq hg⟩
  have hLA:LamAll K mg (hidT s₁.heap H):=fun y hy c Pt e=>by
   obtain⟨⟨o,vs,file,tf,flags,tg,inF,text,tt,e1,r1,r2,r3,r4,r5,r6,r7,r8,hne⟩,_⟩:=hT y hy c Pt e
   obtain⟨bm,ob,b1,b2,b3,b4,b5,b6⟩:=hbm
   refine⟨⟨o,vs,file,tf,flags,tg,inF,text,tt,base_of e1 (noA e1 (by rw[r1];decide) (fun z=>by rw[z] at r1;cases r1)),r1,r2,r3,r4,r5,r6,r7,r8,hne⟩,bm,ob,b1,b2,base_of b3 (noA b3 (by rw[b4];decide) (fun z=>by rw[z] at b4;cases b4)),b4,b5,b6⟩
  have hOC:OnlyC H:=fun b=>by
   rcases hO b with z | ⟨_,z⟩ | ⟨q,_,z⟩
   ·exact .inl z
   ·exact .inr (.inl z)
   ·exact .inr (.inr ⟨q,z⟩)
  refine codeAny_mono ((F _ hKb (nsK hns) (let ⟨mc,h1,h2⟩:=hdig;⟨mc,nsK h1,h2⟩) hLA).run callerA [] s₁ H ⟨[.ref a],[]⟩ [.ref a] [.ref a] _ _ hr e0 (hbind s₁ (.ref a)) (.cons rfl .nil) (hsp H hOC hS hTH)) fun r s' h=>?_
  cases r with
  | error e=>exact(hCX H e s' h).elim
  | ok fl =>
   cases fl with
   | next=>exact False.elim h
   | brk=>exact False.elim h
   | cont=>exact False.elim h
   | ret u =>
    obtain⟨v,H',os,bare,un,hok',r',q,qT⟩:=h
    have q':v=.bl true:=q
    subst q'
    obtain rfl:u=Value.bool true:=r'
    have old:∀ b o,s₁.heap.get? b=some o->asItWas s₁.heap s'.heap b o:=fun b o e=>by
     rcases hO b with z | ⟨_,ob,xs,z⟩ | ⟨q,t,z⟩
     ·exact .inl (un.keep b o e z (by intro z;exact absurd (show b∈([]:List Addr) from z) (by simp)) (by simp))
     ·have z2 := un.frzs b ob _ z
      obtain⟨e1,_⟩:=hok b _ z
      obtain⟨e2,_⟩:=hok' b _ z2
      rw[e] at e1;cases e1
      exact .inl e2
     ·obtain ⟨c, hc, e2⟩ := tabAt ⟨q, t⟩
      obtain⟨ps,e3,_⟩:=hok' b _ (qT b q z)
      have e4:=e2
      rw[e] at e4
      cases e4
      exact .inr (.inl ⟨(hc.tab e2).isCodeTable,rfl,#[],ps,rfl,by rw[Array.empty_append];exact e3⟩)
    refine⟨rfl,⟨old,fun b o e=>?_⟩,os,bare⟩
    exact un.there b o e (by simp)
 have ta:∀ q,¬ TabIs K a q:=fun q t=>by
  obtain⟨c,_,e2⟩:=tabAt ⟨q,t⟩
  rw[ha] at e2;cases e2
 let HT:Hp:=fun b=>if h:∃ q,TabIs K b q then some (.cot h.choose) else none
 have HTpos:∀ b q,TabIs K b q->HT b=some (.cot q):=fun b q t=>by
  have h:∃ q,TabIs K b q:=⟨q,t⟩
  show(if h:∃ q,TabIs K b q then some (HO.cot h.choose) else none)=_
  rw[dif_pos h,hu b _ q h.choose_spec t]
 have HTany:∀ b,HT b=none\/∃ q,TabIs K b q/\HT b=some (.cot q):=fun b=>by
  by_cases h:∃ q,TabIs K b q
  ·obtain ⟨q, t⟩ := h
   exact .inr ⟨q,t,HTpos b q t⟩
  ·exact .inl (dif_neg h)
 have HTa:HT a=none:=by
  rcases HTany a with z | ⟨q,t,_⟩
  ·exact z
  ·exact absurd t (ta q)
 have HTok:∀ b u,HT b=some u->∃ q,u=.cot q/\s₁.heap.get? b=some (W.tabObj #[]):=fun b u e=>by
  rcases HTany b with z | ⟨q,t,z⟩
  ·rw[e] at z;cases z
  ·rw [e] at z; cases z
   obtain⟨c,_,e2⟩:=tabAt ⟨q,t⟩
   exact⟨q,rfl,e2⟩
 cases hk:K.lookup a with
 | some o =>
  have e:=KX a o hk
  rw[ha] at e
  cases e
  refine core HT (fun b=>?_) HTpos (.inr ⟨_,vs.toArray,_,hk,rfl,rfl,rfl,by rw[size_toArray,lenV];exact hl,by simpa using rv⟩) (fun b u z=>?_) fun z=>absurd HTa z
  ·rcases HTany b with z | z
   ·exact .inl z
   ·exact .inr (.inr z)
  ·obtain ⟨q, rfl, e⟩ := HTok b u z
   exact⟨#[],e,.nil⟩
 | none =>
  refine core (upd HT a (.frz { cls:=.type "list",data:=.seq vs.toArray } (.lst (ns.map V.int)))) (fun b=>?_) (fun b q t=>?_) (.inl (.inr ⟨{ cls:=.type "list",data:=.seq vs.toArray },zw⟩)) (fun b u z=>?_) fun _=>hk
  ·by_cases hb : b = a
   ·subst hb;exact .inr (.inl ⟨rfl,_,_,zw⟩)
   ·rw [zm hb]
    rcases HTany b with z | z
    ·exact .inl z
    ·exact .inr (.inr z)
  ·rw[zm (fun(z:b=a)=>ta q (by rw[<- z];exact t))];exact HTpos b q t
  ·by_cases hb : b = a
   ·subst hb
    rw[zw] at z
    cases z
    exact⟨ha,by rw[length_map];exact hl,vs,_,rv,ha⟩
   ·rw [zm hb] at z
    obtain⟨q,rfl,e⟩:=HTok b u z
    exact⟨#[],e,.nil⟩
theorem walk_ofC{l:W.OpenLaw}{n k:Nat}{q:Program}{loose:List Str}{XP:(Str->Option Value)->Heap->Prop}{YP:World->Heap->Prop}{d:DefRec}{K:Params->W.Frag}{CX:World->CXT}{sp:World->Sp}{x:Str}
  (hn:l.most=some n) (hn2:n<=sizeLine) (hdf:d.params.defaults=[]) (hr:Room k callerA)
  (hY:∀ (w:World) (h:Heap),YP w h->(K w.params).In h)
  (hrec:∀ (w:World),∀ y∈lamDefs,∀ c P,W.tabIn (K w.params) y=some (c,P)->∃ d,(recsOf q).find? (fun e=>e.name == y)=some d) (hu:∀ (w:World) P q q',TabIs (K w.params) P q->TabIs (K w.params) P q'->q=q') (hnt:∀ w:World,W.noTabs (K w.params)=true)
  (F : ∀ (w : World) (mg : Str -> Option Value) (fa : Addr) (h : Heap), (K w.params).In h -> h.Ns mainGlobals mg -> mg d.name = some (.ref fa) ->
   ∃ fd:FuncData,(∀ (s:Shared) (u:Value),BindsTo s fd ⟨[u],[]⟩ [(x,u)]) /\
    ∀ base:Heap,(K w.params).In base->base.Ns mainGlobals mg->base.NoDigits->LamAll (K w.params) mg base->FnOk l.prog w (K w.params) mg base (CX w) k fa fd [x] (sp w))
  (hsp:∀ (w:World) (H:Hp) (a:Addr) (ns:List Int),ns.length<=n->OnlyC H->SqL (K w.params) H a (ns.map V.int)->(∀ P q,TabIs (K w.params) P q->H P=some (.cot q))->sp w [.ref a] H (fun v H'=>v=.bl true/\∀ P q,H P=some (.cot q)->H' P=some (.cot q)) fun _ _ _=>False)
  (hCX:∀ (w:World) (H:Hp) (s:Shared) (e:Value) (s':Shared),CX w [] H s (fun _ _ _=>False) e s'->False) :
  W.WalkO q loose XP YP l.row.toRowW d [] (fun f vs=>PySem.call f vs):=by
 refine Att.attach_call hn hdf fun w s₀ s₁ mg mb fa o pm cd doc a vs ns G Y ho hd hcd hmg hobj hints hlen hg=>?_
 have KX:=hY w _ Y
 obtain⟨fd,hb,hF⟩:=F w mg fa _ KX G.T.g hmg
 exact law_callC KX G.T.g G.T.b G.T.builtins G.T.nolimit G.T.nodigits hg (fun y hy c P e=>let ⟨d,hr⟩:=hrec w y hy c P e;W.tab_of G.T KX hr e) (hu w) (hnt w) G.T.bmain hobj hints (Nat.le_trans hlen hn2) hr hF hb (fun H hO hS hT=>hsp w H a ns hlen hO hS hT) fun H e s'=>hCX w H s₁ e s'
end L2
namespace L2
def evL{α:Type}:List α->List α
 | []=>[]
 | [x]=>[x]
 | x::_::r=>x::evL r
def odL{α:Type}:List α->List α
 | []=>[]
 | [_]=>[]
 | _::y::r=>y::odL r
def halfL{α:Type}(o:Bool)(l:List α):List α:=if o then odL l else evL l
theorem ev_pick:∀ l:List Value,((List.range ((l.length+1)/2)).map fun k=>2*k).filterMap (fun i=>l[i]?)=evL l
 | []=>rfl
 | [x]=>by simp[evL,List.range_succ]
 | x::y::r=>by
  have e:((x::y::r).length+1)/2=(r.length+1)/2+1:=by simp only[length_cons];lia
  rw[e,List.range_succ_eq_map,map_cons,filterMap_cons]
  show x::_=x::evL r
  rw[<- ev_pick r,map_map,filterMap_map,filterMap_map]
  rfl
theorem od_pick:∀ l:List Value,((List.range (l.length/2)).map fun k=>2*k+1).filterMap (fun i=>l[i]?)=odL l
 | []=>rfl
 | [x]=>by simp[odL]
 | x::y::r=>by
  have e:(x::y::r).length/2=r.length/2+1:=by simp only[length_cons];lia
  rw[e,List.range_succ_eq_map,map_cons,filterMap_cons]
  show y::_=y::odL r
  rw[<- od_pick r,map_map,filterMap_map,filterMap_map]
  rfl
theorem half_pick(o:Bool)(l:List Value):slicePick l.toArray (if o then some 1 else none) none (some 2)=(halfL o l).toArray:=by
 unfold slicePick
 cases o with
 | false =>
  show((sliceRange 0 (l.toArray.size:Int) 2).filterMap fun i=>l.toArray[i]?).toArray=(evL l).toArray
  rw[<- ev_pick l]
  congr 1
  have e:sliceRange 0 (l.toArray.size:Int) 2=(List.range ((l.length+1)/2)).map fun k=>2*k:=by
   unfold sliceRange
   simp only[size_toArray]
   have c:(if (2:Int) > 0 then(if (0:Int)<(l.length:Int) then((l.length:Int)-0+2-1)/2 else 0) else(if (0:Int) > (l.length:Int) then(0-(l.length:Int)-2-1)/(-2) else 0)).toNat=(l.length+1)/2:=by
    rw[if_pos (by decide)]
    split<;>lia
   rw[c]
   exact map_congr_left fun k _=>by lia
  rw[e]
  simp
 | true =>
  show((sliceRange (max 0 (min (1:Int) (l.toArray.size:Int))) (l.toArray.size:Int) 2).filterMap fun i=>l.toArray[i]?).toArray=(odL l).toArray
  rw[<- od_pick l]
  congr 1
  have e:sliceRange (max 0 (min (1:Int) (l.toArray.size:Int))) (l.toArray.size:Int) 2=(List.range (l.length/2)).map fun k=>2*k+1:=by
   by_cases h0:l.length=0
   ·have : l = [] := List.length_eq_zero_iff.mp h0
    subst this
    rfl
   ·have em : max 0 (min (1 : Int) (l.toArray.size : Int)) = 1 := by simp only [List.size_toArray]; lia
    rw[em]
    unfold sliceRange
    simp only[size_toArray]
    have c:(if (2:Int) > 0 then(if (1:Int)<(l.length:Int) then((l.length:Int)-1+2-1)/2 else 0) else(if (1:Int) > (l.length:Int) then(1-(l.length:Int)-2-1)/(-2) else 0)).toNat=l.length/2:=by
     rw[if_pos (by decide)]
     split<;>lia
    rw[c]
    exact map_congr_left fun k _=>by lia
  rw[e]
  simp
theorem half_len{α:Type}(o:Bool):∀ l:List α,(halfL o l).length<=l.length
 | []=>by cases o<;>simp[halfL,evL,odL]
 | [x]=>by cases o<;>simp[halfL,evL,odL]
 | x::y::r=>by
  have:=half_len o r
  cases o with
  | false=>show(x::evL r).length<=_;have h:(evL r).length<=r.length:=this;simp only[length_cons];lia
  | true=>show(y::odL r).length<=_;have h:(odL r).length<=r.length:=this;simp only[length_cons];lia
theorem half_perm{α:Type}:∀ l:List α,(odL l++evL l).Perm l
 | []=>.nil
 | [x]=>.refl _
 | x::y::r=>by
  show((y::odL r)++(x::evL r)).Perm (x::y::r)
  refine List.perm_middle.trans (.cons x ?_)
  exact .cons y (half_perm r)
theorem half_map{α β:Type}(f:α->β)(o:Bool):∀ l:List α,halfL o (l.map f)=(halfL o l).map f
 | []=>by cases o<;>rfl
 | [x]=>by cases o<;>rfl
 | x::y::r=>by
  have:=half_map f o r
  cases o with
  | false=>show f x::evL (r.map f)=_;have h:evL (r.map f)=(evL r).map f:=this;rw[h];rfl
  | true=>show f y::odL (r.map f)=_;have h:odL (r.map f)=(odL r).map f:=this;rw[h];rfl
theorem Vals.half(o:Bool):∀ {xs:List V} {us:List Value},Vals xs us->Vals (halfL o xs) (halfL o us)
 | _,_,.nil=>by cases o<;>exact .nil
 | _,_,.cons r .nil=>by
  cases o
  ·exact .cons r .nil
  ·exact .nil
 | _,_,.cons r (.cons r2 t)=>by
  have:=Vals.half o t
  cases o
  ·exact .cons r this
  ·exact .cons r2 this
theorem Reps.half{K:W.Frag}{G:Option Addr}{Z:Addr->Prop}{H:Hp}(o:Bool):∀ {ds:List D} {vs:List V},Reps K G Z H ds vs->Reps K G Z H (halfL o ds) (halfL o vs)
 | [],vs,h=>by rw[h.nil_inv];cases o<;>exact .nil
 | [d],vs,h=>by
  obtain⟨v,r,rfl,q,t⟩:=h.split
  rw[t.nil_inv]
  cases o
  ·exact .cons q .nil
  ·exact .nil
 | d::d2::ds,vs,h=>by
  obtain⟨v,r,rfl,q,t⟩:=h.split
  obtain⟨v2,r2,rfl,q2,t2⟩:=t.split
  have:=Reps.half o t2
  cases o
  ·exact .cons q this
  ·exact .cons q2 this
section
variable {X:Cx} {e st:Expr} {te:TE} {lo:Option Expr} {pos p2:Pos}
def tHalf(K:W.Frag)(o:Bool)(te:TE):TE:=fun σ H Q=>te σ H fun x H1=>∃ a xs,x=.ref a/\SqL K H1 a xs/\∀ p,H1 p=none->Q (.ref p) (upd H1 p (.lst (halfL o xs)))
theorem pe_half{o:Bool}(he:PE X e te)(hlo:PO X lo fun _ H Q=>Q (if o then some 1 else none) H)(hst:PE X st fun _ H Q=>Q (.int 2) H):PE X (.Subscript e (.Slice lo none (some st) p2) pos) (tHalf X.K o te):=by
 intro pins s σ H Q I h
 refine Subscript_ (thn (he pins s σ H _ I h) fun v s1 ⟨x,H1,I1,r1,q1⟩=>?_)
 obtain⟨a,xs,rfl,hx,q1⟩:=q1
 refine wpAny_Slice (thn (hlo pins s1 σ H1 (fun o' H2=>o'=(if o then some 1 else none)/\H2=H1) I1 ⟨rfl,rfl⟩) fun vl s2 ⟨l,H2,I2,pl,el,eH⟩=>?_)
 subst el eH
 rw[evalPart_none]
 refine wpAny_pure ?_
 rw[evalPart_some]
 refine thn (hst pins s2 σ H2 (fun y H3=>y=.int 2/\H3=H2) I2 ⟨rfl,rfl⟩) fun u s3 ⟨y,H3,I3,ry,ey,eH⟩=>?_
 subst ey eH
 obtain⟨tk,rfl⟩:=ry
 cases r1
 have I4:Inv X pins σ H3 { s3 with heap:=s3.heap.push { cls:=.type "slice",data:=.fields #[vl,.none,.int 2 tk] } }:=I3.kept (t':=s3.toks) fun b ob q=>Heap.get?_push_of_some _ q
 obtain⟨its,r,ht,hz⟩:=I4.list hx
 have hlen:=r.length
 refine tail_any (ops:=[.ref a,.ref s3.heap.objs.size]) ht.isList.typeIs slot_list_getitem.lookup (wpAny_getItem_list_slice ht.isList (Heap.IsSliceOf.new ..) pl .none (.int 2 tk) (by simp) ?_ (by rw[size_toArray]<;>lia)) (by with_unfolding_all rfl)
 rw[half_pick]
 refine⟨.ref _,_,I4.laid (t':=s3.toks) (o:=.lst (halfL o xs)) (fun b ob q=>Heap.get?_push_of_some _ q) (Nat.le_refl _) ?_,rfl,q1 _ (I4.hok.fresh (Nat.le_refl _))⟩
 exact⟨Nat.le_trans (half_len o xs) hz,halfL o its,0,r.half o,Heap.get?_push_size _ rfl⟩
theorem call_max3(hc:X.calm=true):CallR X (.builtin "max") (fun xs H Q=>∃ i j l,xs=[.int i,.int j,.int l]/\Q (.int (max (max i j) l)) H):=by
 intro pins s σ H xs us Q I r h
 obtain⟨i,j,l,rfl,q⟩:=h
 cases r with
 | cons r1 r2 =>
  obtain⟨u,w',rfl,⟨t',rfl⟩,⟨t'',rfl⟩⟩:=vals2 r2
  obtain⟨t,rfl⟩:=r1
  refine max_three_ints (I.ok.hd hc) fun h' tk k=>⟨_,H,I.kept k,?_,q⟩
  by_cases h1:j > i
  ·rw [if_pos h1]
   by_cases h2:l > j
   ·rw[if_pos h2];exact⟨_,congrArg (fun z=>Value.int z _) (by lia)⟩
   ·rw[if_neg h2];exact⟨_,congrArg (fun z=>Value.int z _) (by lia)⟩
  ·rw [if_neg h1]
   by_cases h2:l > i
   ·rw[if_pos h2];exact⟨_,congrArg (fun z=>Value.int z _) (by lia)⟩
   ·rw[if_neg h2];exact⟨_,congrArg (fun z=>Value.int z _) (by lia)⟩
end
section
variable {A:AC} {X:Cx} {a:Expr} {ta:TD} {pos p2 p3 p4:Pos}
def dHalf(o:Bool)(ta:TD):TD:=fun rho n P=>ta rho n fun d n1=>lstAt d fun fs=>P (.lst (halfL o fs)) n1
@[simp] theorem q_dHalf{o ta rho n P}:dHalf o ta rho n P=ta rho n fun d n1=>lstAt d fun fs=>P (.lst (halfL o fs)) n1:=rfl
theorem half_of{o:Bool}(hK:X.K=A.K){sg:St}{H:Hp}{Q:VK}(h:tOf A (dHalf o ta) sg H Q):tHalf X.K o (tOf A ta) sg H Q:=by
 obtain⟨rho,n,P,ds,vs,I,ht,hQ⟩:=h
 refine⟨rho,n,_,ds,vs,I,ht,fun v H1 n1 d ⟨os,J⟩ k=>?_⟩
 obtain⟨fs,hd,k⟩:=k
 obtain⟨J1,r⟩:=J.pop
 rw[hK]
 rcases hd with rfl | rfl
 ·obtain ⟨l, xs, rfl, sq, rs⟩ := r.lst_inv
  exact⟨l,xs,rfl,sq.sq,fun p hp=>hQ _ _ n1 _ ⟨os,J1.newLst (rs.half o) hp⟩ k⟩
 ·obtain ⟨l, xs, rfl, sq, rs⟩ := r.fz_inv
  exact⟨l,xs,rfl,sq,fun p hp=>hQ _ _ n1 _ ⟨os,J1.newLst (rs.half o) hp⟩ k⟩
theorem pd_ev{j:Nat}(hK:X.K=A.K)(ha:PD A X a ta):PD A X (.Subscript a (.Slice none none (some (.Constant (.int 2) j p3)) p2) pos) (dHalf false ta):=by
 with_unfolding_all
  exact(pe_half (o:=false) ha (fun pins s σ H Q I q=>by rw[evalPart_none];exact wpAny_pure ⟨none,H,I,.none,q⟩) pe_int).imp fun sg H Q h=>half_of hK h
theorem pd_od{i j:Nat}(hK:X.K=A.K)(ha:PD A X a ta):PD A X (.Subscript a (.Slice (some (.Constant (.int 1) i p4)) none (some (.Constant (.int 2) j p3)) p2) pos) (dHalf true ta):=by
 with_unfolding_all
  exact(pe_half (o:=true) ha (fun pins s σ H Q I q=>po_some pe_int pins s σ H Q I ⟨1,rfl,q⟩) pe_int).imp fun sg H Q h=>half_of hK h
def kMax3:List D->(D->Prop)->Prop:=fun es k=>∃ i j l,es=[.int i,.int j,.int l]/\k (.int (max (max i j) l))
@[simp] theorem q_kMax3{i j l k}:kMax3 [.int i,.int j,.int l] k↔k (.int (max (max i j) l)):=⟨fun⟨_,_,_,e,h⟩=>by cases e;exact h,fun h=>⟨_,_,_,rfl,h⟩⟩
theorem cr_max3:xg A (fun xs H Q=>∃ i j l,xs=[.int i,.int j,.int l]/\Q (.int (max (max i j) l)) H) kMax3:=by
 rintro os n rho sg H ds vs es ws k Q I rs ⟨i,j,l,rfl,q⟩ hQ
 obtain⟨v,r,rfl,r1,r2⟩:=rs.split
 obtain⟨v',v'',rfl,r',r''⟩:=reps2 r2
 exact⟨i,j,l,by rw[r1.int_inv,r'.int_inv,r''.int_inv],hQ _ H _ ⟨os,I.push (Rep.ofS rfl)⟩ q⟩
def kSortK(caps:List Nat)(tb:TD)(rho:Rho)(n1:Nat)(R:D->Nat->Prop)(es:List D):Prop:=∃ (rows:List D) (keys:List SRow) (fl:Bool) (cs:List D),es=[.lst rows]/\rows.length<64/\keys.length=rows.length/\(∀ x∈keys,x.key.num=fl)/\(keys.map SRow.name).Nodup /\
 cs.length=caps.length/\(∀ (i j:Nat),caps[i]?=some j->∃ d,cs[i]?=some d/\rho[j]?=some (some d)/\zn d=true)/\(∀ (i:Nat) (d:D) (x:SRow),rows[i]?=some d->keys[i]?=some x->tb (some d::cs.map some) n1 fun e n2=>e=x.d/\n2=n1) /\
 ∀ ls:List Nat,ls.Perm (List.range rows.length)->(ls.map fun i=>keys.getD i row0).Pairwise (fun x y=>x.lt y=true)->R (.lst (ls.map fun i=>rows.getD i .non)) n1
@[simp] theorem q_dSortK{caps tb t1 rho n R}:dSortK caps tb t1 rho n R=t1 rho n fun es n1=>kSortK caps tb rho n1 R es:=rfl
theorem sortK_intro{α:Type}{caps:List Nat}{tb:TD}{rho:Rho}{n:Nat}{R:D->Nat->Prop}(enc:α->D)(key:α->SRow)(fl:Bool)(cs:List D)(ts:List α)(a0:α)(h64:ts.length<64)(hn:∀ t∈ts,(key t).key.num=fl)(hnd:(ts.map fun t=>(key t).name).Nodup)(hcs:cs.length=caps.length)
  (hcap:∀ (i j:Nat),caps[i]?=some j->∃ d,cs[i]?=some d/\rho[j]?=some (some d)/\zn d=true) (htb:∀ t∈ts,tb (some (enc t)::cs.map some) n fun e n2=>e=(key t).d/\n2=n)
  (fin:∀ us:List α,us.Perm ts->us.Pairwise (fun a b=>(key a).lt (key b)=true)->R (.lst (us.map enc)) n):kSortK caps tb rho n R [.lst (ts.map enc)]:=by
 refine⟨ts.map enc,ts.map key,fl,cs,rfl,by rw[length_map];exact h64,by rw[length_map,length_map],fun x hx=>?_,by rw[map_map];exact hnd,hcs,hcap,fun i d x e1 e2=>?_,fun ls hp hs=>?_⟩
 ·obtain ⟨t, ht, rfl⟩ := List.mem_map.mp hx
  exact hn t ht
 ·rw [List.getElem?_map] at e1 e2
  cases et:ts[i]? with
  | none=>rw[et] at e1;cases e1
  | some t =>
   rw[et] at e1 e2
   cases e1
   cases e2
   exact htb t (mem_of_getElem? et)
 ·rw [List.length_map] at hp
  have hls:∀ i∈ls,i<ts.length:=fun i hi=>List.mem_range.mp (hp.mem_iff.mp hi)
  have g:∀ {β:Type} (f:α->β) (b0:β) (i:Nat),i<ts.length->(ts.map f).getD i b0=f (ts.getD i a0):=fun f b0 i hi=>by
   rw[getD_eq_getElem?_getD,getD_eq_getElem?_getD,getElem?_map,getElem?_eq_getElem hi];rfl
  have e1:(ls.map fun i=>(ts.map enc).getD i .non)=(ls.map fun i=>ts.getD i a0).map enc:=by
   rw[map_map]
   exact map_congr_left fun i hi=>g enc .non i (hls i hi)
  have e2:(ls.map fun i=>(ts.map key).getD i row0)=(ls.map fun i=>ts.getD i a0).map key:=by
   rw[map_map]
   exact map_congr_left fun i hi=>g key row0 i (hls i hi)
  rw[e2,pairwise_map] at hs
  rw[e1]
  refine fin _ ?_ hs
  have p2:=hp.map fun i=>ts.getD i a0
  rwa [map_range] at p2
end
def lamChk(N:List Str)(p:Str)(sc:Scope):Bool :=
 ((sc.kind == .function&&(!sc.isCoroutine&&!sc.isGenerator))&&sc.names.all (fun z=>z.2 != .cell&&(z.2 != .free||(N.drop 1).contains z.1)))&&((N[0]? == some p&&sc.names.lookup p == some .local)&&(N.drop 1).all (fun x=>sc.names.lookup x == some .free))
theorem lamScope{N:List Str}{p:Str}{sc:Scope}{clos:List (Str × Addr)}(h:lamChk N p sc=true)(hc:∀ x∈N.drop 1,∃ c,clos.lookup x=some c):LamScope N p sc clos:=by
 unfold lamChk at h
 simp only[Bool.and_eq_true,Bool.or_eq_true,all_eq_true,beq_iff_eq,bne_iff_ne,Bool.not_eq_true',List.contains_iff_mem] at h
 obtain⟨⟨⟨h1,h2,h3⟩,h4⟩,⟨h5,h6⟩,h7⟩:=h
 refine⟨h1,h2,h3,fun x hx=>(h4 x hx).1,h5,h6,fun x hx=>?_,fun i x e=>?_⟩
 ·rcases (h4 _ (PySem.mem_of_lookup hx)).2 with z | z
  ·exact absurd rfl z
  ·exact hc x z
 ·refine h7 x ?_
  exact mem_of_getElem? (l:=N.drop 1) (i:=i) (by rw[getElem?_drop];rw[Nat.add_comm];exact e)
theorem Caps.one{X:Cx}{p y:Str}{a:Addr}{j:Nat}(hk:X.env.kindOf y=some .cell)(hj:X.N[j]?=some y)(hc:X.env.cells.lookup y=some a):Caps X [p,y] [(y,a)] [j]:=by
 refine⟨rfl,fun i x e=>?_,fun x c e=>?_,fun i x e=>?_⟩
 ·cases i with
  | zero=>cases e;exact⟨hk,j,rfl,hj⟩
  | succ i=>simp at e
 ·rw [List.lookup_cons] at e
  split at e
  ·rename_i h
   cases e
   rw[eq_of_beq h];exact hc
  ·cases e
 ·cases i with
  | zero=>cases e;exact⟨a,by rw[lookup_cons,beq_self_eq_true]⟩
  | succ i=>simp at e
theorem clos_one{p y:Str}{a:Addr}:∀ x∈[p,y].drop 1,∃ c,[(y,a)].lookup x=some c:=fun x hx=>by
 have e:x=y:=by simpa using hx
 subst e
 exact⟨a,by rw[lookup_cons,beq_self_eq_true]⟩
end L2
namespace L2
theorem tab_mk{K:W.Frag}{x:Str}{f c P:Addr}{o1 p1:Value}{o2 p2:Option Addr}{o4 p4:Array (Option Value)}{fd:FuncData}{vv:Array Value}(a:W.nsIn K mainGlobals x=some (some (.ref f)))(l:K.lookup f=some ⟨o1,o2,.func fd,o4⟩)(le:fd.code=.ref c)(lc:K.lookup c=some ⟨p1,p2,.fields vv,p4⟩)(lp:vv[11]?=some (.ref P)) :
  W.tabIn K x=some (c,P):=by
 unfold W.tabIn
 rw[a]
 simp only[l,le,lc,lp]
theorem tab_one(K:W.Frag)(P:Addr)(q q':Str)(h:TabIs K P q)(h':TabIs K P q'):q=q':=by
 obtain⟨x,hx,c,_,rfl⟩:=h
 obtain⟨y,hy,c',_,rfl⟩:=h'
 have e1:x = "_law_grown" := by simpa [lamDefs] using hx
 have e2:y = "_law_grown" := by simpa [lamDefs] using hy
 rw[e1,e2]
end L2
namespace L2
section
variable {prog:Program} {w:World} {A:Around} {R:Result->Shared->Prop} {s:Shared} {elt tg1 it1 tg2 it2:Expr} {ifs1 ifs2:List Expr} {scope:Scope} {pos:Pos} {it acc:Value} {env:Env}
end
section
variable {X':Cx} {P5:List (Addr × Obj)} {σ6:St} {H8:Hp} {s8:Shared} {elt tg1 it1 tg2 it2:Expr} {ifs1 ifs2:List Expr} {scope:Scope} {pos:Pos} {g2:TG} {tt2:TT} {te:TE}
end
end L2
namespace L2
section
variable {X:Cx} {scope:Scope} {own M:List Str} {pins:List (Addr × Obj)} {σ:St} {H2:Hp} {s2:Shared} {elt tg1 it1 tg2 it2:Expr} {ifs1 ifs2:List Expr} {pos:Pos} {g1 g2:TG} {tt1 tt2:TT} {te:TE} {wi2:TI}
end
end L2
namespace L2
def keepsD:Rho->Rho->Prop
 | [],[]=>True
 | none::r,_::r'=>keepsD r r'
 | some d::r,o::r'=>o=some d/\keepsD r r'
 | _,_=>False
@[simp] theorem q_keeps0:keepsD [] []=True:=rfl
@[simp] theorem q_keeps1{o:Option D}{r r':Rho}:keepsD (none::r) (o::r')=keepsD r r':=rfl
@[simp] theorem q_keeps2{d:D}{o:Option D}{r r':Rho}:keepsD (some d::r) (o::r')=(o=some d/\keepsD r r'):=rfl
@[simp] theorem keepsD_refl:∀ r:Rho,keepsD r r
 | []=>True.intro
 | none::r=>keepsD_refl r
 | some d::r=>⟨rfl,keepsD_refl r⟩
def inIn(g2:TGD)(tt2:TBD)(te:TD)(rho2:Rho)(acc:List D)(R:List D->Nat->Prop)(items2:List D)(n:Nat):Prop:=∃ J2:Nat->List D->Nat->Prop,J2 0 acc n /\
 (∀ i d acc n,items2[i]?=some d->J2 i acc n->acc.length<sizeLine/\g2 d rho2 fun rho3=>keepsD rho2 rho3/\tt2 rho3 n fun c n2=>if c=true then te rho3 n2 fun e n3=>J2 (i+1) (acc++[e]) n3 else J2 (i+1) acc n2) /\
 ∀ acc n,J2 items2.length acc n->R acc n
def compIn2(own:Nat)(g1:TGD)(tt1:TBD)(it2:TID)(g2:TGD)(tt2:TBD)(te:TD)(rho:Rho)(P:D->Nat->Prop)(items:List D)(n1:Nat):Prop:=∃ J:Nat->List D->Nat->Prop,J 0 [] n1 /\
 (∀ i d acc n,items[i]?=some d->J i acc n->g1 d (replicate own none++rho) fun rho2=>rho2.drop own=rho/\tt1 rho2 n fun c n2=>if c=true then it2 rho2 n2 (inIn g2 tt2 te rho2 acc (J (i+1))) else J (i+1) acc n2) /\
 ∀ acc n,J items.length acc n->acc.length<=sizeLine/\P (.lst acc) n
def dComp2(it:TID)(own:Nat)(g1:TGD)(tt1:TBD)(it2:TID)(g2:TGD)(tt2:TBD)(te:TD):TD:=fun rho n P=>it rho n (compIn2 own g1 tt1 it2 g2 tt2 te rho P)
@[simp] theorem q_dComp2{it own g1 tt1 it2 g2 tt2 te rho n P}:dComp2 it own g1 tt1 it2 g2 tt2 te rho n P=it rho n (compIn2 own g1 tt1 it2 g2 tt2 te rho P):=rfl
section
variable {A:AC} {X:Cx} {elt tg1 it1 tg2 it2:Expr} {ifs1 ifs2:List Expr} {scope:Scope} {own M:List Str} {pos:Pos} {i1 i2:TID} {g1 g2:TGD} {tt1 tt2:TBD} {te:TD}
end
end L2
namespace L2
section
variable {X:Cx}
end
def dIndexB(te:TD):TD:=fun rho n P=>te rho n fun d n1=>∃ (bs:List Bool) (j:Nat),d=.lst (bs.map D.bl)/\bs[j]?=some true/\(∀ m,m<j->bs[m]?=some false)/\bs.length<=1000/\P (.int j) n1
@[simp] theorem q_dIndexB{te rho n P}:dIndexB te rho n P=te rho n fun d n1=>∃ (bs:List Bool) (j:Nat),d=.lst (bs.map D.bl)/\bs[j]?=some true/\(∀ m,m<j->bs[m]?=some false)/\bs.length<=1000/\P (.int j) n1:=rfl
section
variable {A:AC} {X:Cx}
end
end L2
namespace L2
section
variable {A:AC} {X:Cx} {e:Expr} {t1:TAD} {pos:Pos}
def sAppPop(i j:Nat)(t:TAD):TSD:=fun F rho n=>ownAt rho[i]? fun es=>ownAt rho[j]? fun fs=>i≠j/\es.length<sizeLine/\t rho n fun ds n1=>∃ (k:Nat) (d:D),ds=[.int k]/\k<1000000/\fs[k]?=some d/\F.nx ((rho.set j (some (.own (fs.eraseIdx k)))).set i (some (.own (es++[d])))) n1
@[simp] theorem q_sAppPop{i j t F rho n}:sAppPop i j t F rho n=ownAt rho[i]? fun es=>ownAt rho[j]? fun fs=>i≠j/\es.length<sizeLine/\t rho n fun ds n1=>∃ (k:Nat) (d:D),ds=[.int k]/\k<1000000/\fs[k]?=some d/\F.nx ((rho.set j (some (.own (fs.eraseIdx k)))).set i (some (.own (es++[d])))) n1:=rfl
theorem Reps.erase{K:W.Frag}{G:Option Addr}{Z:Addr->Prop}{H:Hp}:∀ {ds:List D} {vs:List V} (k:Nat),Reps K G Z H ds vs->Reps K G Z H (ds.eraseIdx k) (vs.eraseIdx k):=by
 intro ds
 induction ds with
 | nil=>intro vs k r;rw[r.nil_inv];exact .nil
 | cons d ds ih =>
  intro vs k r
  obtain⟨v,w,rfl,q,t⟩:=r.split
  cases k with
  | zero=>exact t
  | succ k=>exact .cons q (ih k t)
theorem psd_appPop{i j:Nat}{x y:Str}{px py apos cpos bpos dpos:Pos}(ha:PAD A X [e] t1)(hK:X.K=A.K)(hN:X.N[i]?=some y:=by rfl)(hM:X.N[j]?=some x:=by rfl)
  (hv:Vis X.env.scope y:=by first | exact Or.inl rfl | exact Or.inr (Or.inl rfl) | exact Or.inr (Or.inr rfl)) (hd:(y == ("__debug__" : Str))=false:=by decide) (hcd:(y == ("__classdict__" : Str))=false:=by decide)
  (hv2:Vis X.env.scope x:=by first | exact Or.inl rfl | exact Or.inr (Or.inl rfl) | exact Or.inr (Or.inr rfl)) (hd2:(x == ("__debug__" : Str))=false:=by decide) (hcd2:(x == ("__classdict__" : Str))=false:=by decide)
  (hbase:attributeBase (.Name y py) "append" X.env (eval (.Name y py) X.env)=eval (.Name y py) X.env:=by rfl)
  (hbase2:attributeBase (.Name x px) "pop" X.env (eval (.Name x px) X.env)=eval (.Name x px) X.env:=by rfl)
  (hfew : ((backTo cpos (starEach [.Call (.Attribute (.Name x px) "pop" bpos) [e] [] dpos] X.env)).all (fun x => !x.1) && (backToKw cpos (keywordEach [] X.env)).all (fun x => x.1.isSome)
   && decide ([(.Call (.Attribute (.Name x px) "pop" bpos) [e] [] dpos:Expr)].length+([]:List Keyword).length+(if ([]:List Keyword).isEmpty then 0 else 1)<30))=true:=by rfl)
  (hfew2 : ((backTo dpos (starEach [e] X.env)).all (fun x => !x.1) && (backToKw dpos (keywordEach [] X.env)).all (fun x => x.1.isSome)
   && decide ([e].length+([]:List Keyword).length+(if ([]:List Keyword).isEmpty then 0 else 1)<30))=true:=by rfl)
  (hline:(apos.endLine == cpos.line)=true:=by rfl) (hline2:(bpos.endLine == dpos.line)=true:=by rfl)
  (hs:starEach [.Call (.Attribute (.Name x px) "pop" bpos) [e] [] dpos] X.env=(false,eval (.Call (.Attribute (.Name x px) "pop" bpos) [e] [] dpos) X.env)::starEach [] X.env:=by rfl) (hs2:starEach [e] X.env=(false,eval e X.env)::starEach [] X.env:=by rfl)
  (hplain:(backTo cpos (starEach [] X.env)).any (·.1)=false:=by rfl) (hplain2:(backTo dpos (starEach [] X.env)).any (·.1)=false:=by rfl)
  (hsw:swapsWith (.Call (.Attribute (.Name y py) "append" apos) [.Call (.Attribute (.Name x px) "pop" bpos) [e] [] dpos] [] cpos) none pos.line X.env=pure false:=by rfl) :
  PSD A X (.Expr (.Call (.Attribute (.Name y py) "append" apos) [.Call (.Attribute (.Name x px) "pop" bpos) [e] [] dpos] [] cpos) pos) (sAppPop i j t1):=by
 with_unfolding_all
  exact
   (ps_expr (pe_bm PySem.F.plainAttrs_list PySem.F.slot_list_append PySem.F.type_list_append mt_append (pe_var hN hv hd hcd)
    (pa_cons (pe_bm PySem.F.plainAttrs_list PySem.F.slot_list_pop PySem.F.type_list_pop mt_popAt (pe_var hM hv2 hd2 hcd2) ha hbase2 hfew2 hline2 hs2 hplain2) pa_nil hs) hbase hfew hline hs hplain) hsw).imp fun E sg H h=>by
    obtain⟨rho,n,F,ds,vs,⟨os,I⟩,⟨es,hi,fs,hj,hij,hz,ht⟩,ok⟩:=h
    obtain⟨a,xs,e1,hH,rs,_⟩:=I.own (es':=es) (xs':=[]) hi
    obtain⟨b,ys,e2,hH2,rs2,_⟩:=I.own (es':=fs) (xs':=[]) hj
    refine⟨.ref a,e1,.inl ⟨rfl,xs,SqL.of hH⟩,.ref b,e2,.inl ⟨rfl,ys,SqL.of hH2⟩,rho,n,_,ds,vs,⟨os,I⟩,ht,fun ws H' n' gs ⟨os',J⟩ hl k=>?_⟩
    obtain⟨k,d,rfl,hk,hd,q⟩:=k
    obtain⟨J1,rs1⟩:=J.split hl
    obtain⟨v,rfl,r⟩:=reps1 rs1
    obtain⟨b',ys',e3,hH3,rs3,_⟩:=J1.own (es':=fs) (xs':=[]) hj
    rw[e2] at e3
    cases e3
    obtain⟨w,hw,rw'⟩:=rs3.get hd
    have J2:=J1.push rw'
    obtain⟨b',ys',e3,hH4,rs4,up⟩:=J2.own (es':=fs.eraseIdx k) (xs':=ys'.eraseIdx k) hj
    rw[e2] at e3
    cases e3
    rw[hH3] at hH4
    cases hH4
    have hkl:k<ys'.length:=(List.getElem?_eq_some_iff.mp hw).1
    refine⟨_,_,k,k,w,rfl,?_,hH3,by lia,by lia,?_,hw,?_⟩
    ·rw[r.int_inv]
    ·unfold seqIndex?
     simp
     lia
    ·have J3 := up _ _ (rs4.erase k)
     obtain⟨J4,r5⟩:=J3.pop
     have hi2:(rho.set j (some (.own (fs.eraseIdx k))))[i]?=some (some (.own es)):=by rw[getElem?_set_ne hij.symm];exact hi
     obtain⟨a',xs2,e4,hH5,rs5,up2⟩:=J4.own (es':=es) (xs':=[]) hi2
     rw[e1] at e4
     cases e4
     exact⟨a,xs2,w,rfl,rfl,hH5,by rw[rs5.length];exact hz,ok.nx _ _ _ _ ⟨os',up2 _ _ (rs5.append (.cons r5 .nil))⟩ q⟩
end
end L2
namespace L2
section
variable {A:AC} {X:Cx} {e:Expr} {t1:TAD} {pos:Pos}
def sParLL(i j:Nat)(t:TAD):TSD:=fun F rho n=>i<rho.length/\j<rho.length/\t rho n fun ds n1=>seqL ds fun fs=>F.nx ((rho.set i (some (.own fs))).set j (some (.own []))) n1
@[simp] theorem q_sParLL{i j t F rho n}:sParLL i j t F rho n=(i<rho.length/\j<rho.length/\t rho n fun ds n1=>seqL ds fun fs=>F.nx ((rho.set i (some (.own fs))).set j (some (.own []))) n1):=rfl
theorem psd_parLL{i j:Nat}{x y:Str}{px py pt pl p pc:Pos}{kt k2 pt2}(hc:X.calm=true)(hK:X.K=A.K)(hm:X.mg "list" = none)(hN:X.N.Nodup)(hi:X.N[i]?=some x)(hj:X.N[j]?=some y)(hij:i≠j)
  (hx:X.env.scope.names.lookup x=some .local) (hy:X.env.scope.names.lookup y=some .local) (ha:PAD A X [e] t1) (hg:Gl X "list" := by rfl) (he:starEach [e] X.env=[(false,eval e X.env)]:=by rfl)
  (hk:X.env.blockKind=.function:=by rfl) (hl:py.line=px.line:=by rfl) (hxy:x≠y:=by decide) (hf:[.Call (.Name "list" p) [e] [] pc,Expr.List [] pl].all (foldedForSure 8)=false:=by decide +kernel) (hca:[.Call (.Name "list" p) [e] [] pc,Expr.List [] pl].all (constantsAlone 8)=false:=by decide +kernel) :
  PSD A X (.Assign [.Tuple [.Name x px,.Name y py] kt pt] (.Tuple [.Call (.Name "list" p) [e] [] pc,.List [] pl] k2 pt2) pos) (sParLL i j t1):=by
 with_unfolding_all
  exact(by
   refine(ps_par hc hN hi hj hij hx hy (pa_cons (pe_callTy (call_list_of (X:=X)) hg hm bt_list ha (by decide) (by decide) he rfl) (pa_cons (pe_lst pa_nil) pa_nil (sE rfl)) (sE rfl)) (swapped2 hk hx hy hl hxy rfl rfl hf hca) rfl).imp fun E sg H h=>?_
   obtain⟨rho,n,F,ds,vs,I,⟨hil,hjl,ht⟩,ok⟩:=h
   refine⟨rho,n,_,ds,vs,I,ht,fun ws H' n' es ⟨os,J⟩ hlen k=>?_⟩
   obtain⟨J1,rs⟩:=J.split hlen
   obtain⟨fs,hes,k⟩:=k
   have fin:∀ (l:Addr) (xs:List V),H' l=none->Reps A.K A.G (Zof A os) H' fs xs->∀ p,upd H' l (.lst xs) p=none->E.nx ((sg.set i (some (.ref l))).set j (some (.ref p))) (upd (upd H' l (.lst xs)) p (.lst [])):=fun l xs hl' rr p hp=>by
    obtain⟨os2,J2⟩:=J1.setOwn hil hl' rr
    exact ok.nx _ _ _ _ (J2.setOwn (by simpa using hjl) hp .nil) k
   rcases hes with rfl | rfl
   ·obtain ⟨v, rfl, r⟩ := reps1 rs
    obtain⟨a,xs,rfl,sq,rr⟩:=r.lst_inv
    exact⟨a,xs,rfl,.inl (hK ▸ sq.sq),fun l hl'=>⟨Nat.zero_le _,fun p hp=>⟨_,_,rfl,fin l xs hl' rr p hp⟩⟩⟩
   ·obtain ⟨v, rfl, r⟩ := reps1 rs
    obtain⟨a,xs,rfl,sq,rr⟩:=r.tup_inv
    exact⟨a,xs,rfl,.inr (hK ▸ sq.sq),fun l hl'=>⟨Nat.zero_le _,fun p hp=>⟨_,_,rfl,fin l xs hl' rr p hp⟩⟩⟩)
end
end L2
namespace L2
section
variable {A:AC} {X:Cx}
def showI:D->Str
 | .int i=>toString i
 | d=>showN d
def okRI(d:D):Prop:=(∃ i:Int,d=.int i/\i.natAbs.log2<1920)\/okRN d
def kReprI:List D->(D->Prop)->Prop:=fun es k=>∃ d,es=[d]/\okRI d/\k (.str (showI d))
@[simp] theorem q_kReprI{d k}:kReprI [d] k↔(okRI d/\k (.str (showI d))):=⟨fun⟨_,e,h⟩=>by cases e;exact h,fun h=>⟨_,rfl,h⟩⟩
end
end L2
namespace L2
def atS:List Str->List D->Str->Option D
 | k::ks,d::ds,x=>if k=x then some d else atS ks ds x
 | _,_,_=>none
section
variable {X:Cx} {A:AC} {a b:Expr} {ta tb:TD} {pos p:Pos} {g:Str} {ks:List Str} {ds:List D}
def dInG(ks:List Str)(ds:List D)(ta:TD):TD:=fun rho n P=>ta rho n fun d n1=>∃ x,d=.str x/\P (.bl (atS ks ds x).isSome) n1
@[simp] theorem q_dInG{ta:TD}{rho:Rho}{n:Nat}{P:D->Nat->Prop}:dInG ks ds ta rho n P=ta rho n fun d n1=>∃ x,d=.str x/\P (.bl (atS ks ds x).isSome) n1:=rfl
def dIxG(ks:List Str)(ds:List D)(tb:TD):TD:=fun rho n P=>tb rho n fun d n1=>∃ x d',d=.str x/\atS ks ds x=some d'/\P d' n1
@[simp] theorem q_dIxG{tb:TD}{rho:Rho}{n:Nat}{P:D->Nat->Prop}:dIxG ks ds tb rho n P=tb rho n fun d n1=>∃ x d',d=.str x/\atS ks ds x=some d'/\P d' n1:=rfl
end
end L2
namespace L2
section
variable {prog:Program} {w:World} {A:Around} {E:Value->Shared->Prop} {s:Shared}
end
section
variable {X:Cx}
end
section
variable {A:AC}
end
end L2
namespace L2
theorem map_erase{α β:Type}(f:α->β):∀ (l:List α) (j:Nat),(l.eraseIdx j).map f=(l.map f).eraseIdx j
 | [],_=>rfl
 | _::_,0=>rfl
 | x::l,j+1=>congrArg (f x::·) (map_erase f l j)
section
variable {κ:Type} [DecidableEq κ]
def dropH(xs:List (κ × Addr × Value))(k:κ):List (κ × Addr × Value):=xs.filter fun x=>decide (x.1≠k)
theorem dropH_no:∀ {xs:List (κ × Addr × Value)} {k:κ},k ∉ xs.map (·.1)->dropH xs k=xs
 | [],_,_=>rfl
 | x::xs,k,h=>by
  have h1:x.1≠k:=fun e=>h (by simp[e])
  have h2:dropH xs k=xs:=dropH_no fun z=>h (mem_cons_of_mem _ z)
  show List.filter _ (x::xs)=_
  rw[filter_cons_of_pos (by simpa using h1)]
  exact congrArg _ h2
theorem dropH_idx:∀ {xs:List (κ × Addr × Value)} {k:κ} {p:Addr × Value} {j:Nat},(xs.map (·.1)).Nodup->xs[j]?=some (k,p)->xs.eraseIdx j=dropH xs k
 | [],_,_,_,_,h=>by simp at h
 | x::xs,k,p,0,hn,h=>by
  have e:x=(k,p):=by simpa using h
  subst e
  have hn':=List.nodup_cons.mp hn
  show xs=List.filter _ ((k,p)::xs)
  rw[filter_cons_of_neg (by simp)]
  exact(dropH_no hn'.1).symm
 | x::xs,k,p,j+1,hn,h=>by
  have h':xs[j]?=some (k,p):=by simpa using h
  have hn':=List.nodup_cons.mp hn
  have hx:x.1≠k:=fun e=>hn'.1 (List.mem_map.mpr ⟨(k,p),mem_of_getElem? h',e.symm⟩)
  show x::xs.eraseIdx j=List.filter _ (x::xs)
  rw[filter_cons_of_pos (by simpa using hx)]
  exact congrArg _ (dropH_idx hn'.2 h')
theorem atKey_idx:∀ {xs:List (κ × Addr × Value)} {k:κ} {p:Addr × Value},atKey xs k=some p->∃ j:Nat,xs[j]?=some (k,p)
 | [],_,_,h=>by simp[atKey] at h
 | x :: xs, k, p, h => by
  by_cases e:x.1=k
  ·refine ⟨0, ?_⟩
   simp[atKey,find?_cons,e] at h
   simp[<- h,<- e]
  ·obtain ⟨j, hj⟩ := atKey_idx (xs := xs) (k := k) (p := p) (by simpa [atKey, List.find?_cons, e] using h)
   exact⟨j+1,by simpa using hj⟩
variable {prog:Program} {w:World} {knd:HeapKind prog w κ} {A:Around} {E:Value->Shared->Prop} {s:Shared} {d a:Addr} {k:κ} {xs:List (κ × Addr × Value)} {p:Addr × Value}
theorem takeOutH{Q:Option DictEntry->Shared->Prop}(hu:knd.room A)(hkey:knd.is s.heap k a)(hm:s.heap.DictOfH knd d xs)(hp:atKey xs k=some p)(hsz:xs.length<=sizeLine)
  (hQ:∀ h',h'.DictOfH knd d (dropH xs k)->Heap.SameBut d s.heap h'->Q (some ⟨knd.hash k,.ref p.1,p.2⟩) { s with heap:=h',toks:=s.toks+knd.draws k }):wpAny (model prog w) A (Builtin.Dict.takeOut d (.ref a)) Q E s:=by
 obtain⟨o,es,ep,ho,hc,hdat,hent,his,hn⟩:=hm
 unfold Builtin.Dict.takeOut
 refine wpAny_holding (wpAny_bind (knd.pyHash hu hkey (wpAny_bind (wpAny_dictFind_heap (s:={ s with toks:=s.toks+knd.draws k }) hu hkey ho hdat hent his hn (fun hno=>?_) fun j q hj=>?_))))
 ·rw [atKey_none_of_get hno] at hp
  cases hp
 ·have eq : q = p := by rw [atKey_of_get hn hj] at hp; exact Option.some.inj hp
  subst eq
  have e1:es[j]?=some ⟨knd.hash k,.ref q.1,q.2⟩:=by rw[entry_at hent j,hj];rfl
  refine wpAny_bind (wpAny_dictEntries (s:={ s with toks:=s.toks+knd.draws k }) ho hdat ?_)
  rw[e1]
  have e2:es.size<=sizeLine:=by rw[size_of_entries hent];exact hsz
  have e3:(es.eraseIdxIfInBounds j).toList=(dropH xs k).map (entryOfKey knd):=by
   rw[<- dropH_idx hn hj,map_erase,<- hent]
   obtain⟨l⟩:=es
   simp
  have e4:((dropH xs k).map (·.1)).Nodup:=hn.sublist (List.Sublist.map _ filter_sublist)
  refine wpAny_bind (wpAny_updateDictKeys (hz:=e2) (s:={ s with toks:=s.toks+knd.draws k }) ho hdat (wpAny_pure (hQ _ ⟨_,_,ep+1,Heap.get?_update_self _ ho (Obj.isFreed_of_dict (Obj.data_mapDictKeys hdat _)),hc.mapDictKeys _,Obj.data_mapDictKeys hdat _,e3,fun x hx=>?_,e4⟩ (Heap.SameBut.update ..))))
  exact knd.keeps (his x (List.mem_filter.mp hx).1) ho hdat (Heap.SameBut.update ..)
theorem popH(hu:knd.room A.in1)(hkey:knd.is s.heap k a)(hm:s.heap.DictOfH knd d xs)(hp:atKey xs k=some p)(hsz:xs.length<=sizeLine){Q:Value->Shared->Prop}
  (hQ:∀ h' t',h'.DictOfH knd d (dropH xs k)->Heap.SameBut d s.heap h'->Q p.2 { s with heap:=h',toks:=t' }):wpAny (model prog w) A (call (.builtin "dict.pop") [.ref d,.ref a]) Q E s:=by
 refine call_meetsIn PySem.F.slot_dict_pop hm.typeIs PySem.F.entry_dict_pop (PySem.F.args_dict_pop_2 _ _) (S:=fun B R s'=>s'=s/\B=A/\∀ h',h'.DictOfH knd d (dropH xs k)->Heap.SameBut d s.heap h'->R (.ok (.ret p.2)) { s with heap:=h',toks:=s.toks+knd.draws k }) (.of_wp ?_) ⟨rfl,rfl,fun h' h1 h2=>hQ h' _ h1 h2⟩
 rintro B R s' ⟨rfl,rfl,h⟩
 obtain⟨o,es,ep,ho,hc,hdat,hent,his,hn⟩:=id hm
 obtain⟨j,hj⟩:=atKey_idx hp
 have hne:es.isEmpty=false:=by
  have:=size_of_entries hent
  have hjl:j<xs.length:=(List.getElem?_eq_some_iff.mp hj).1
  cases es with
  | mk l=>cases l with
   | nil=>simp at this;lia
   | cons _ _=>rfl
 unfold Builtin.«dict.pop» Builtin.Dict.keyAndDefault
 refine wpAny_bind (wpAny_bind (wpAny_notOrdered_dict hm.typeIs ?_))
 show wpAny _ _ (pure (d,Value.ref a,none)) _ _ _
 refine wpAny_pure ?_
 have hk0:(keyPart (Value.ref a)).isSome=false:=rfl
 simp only[hk0,Bool.false_eq_true,if_false]
 refine wpAny_bind (wpAny_dictEntries ho hdat (wpAny_bind (wpAny_pure ?_)))
 rw[hne]
 simp only[Bool.false_eq_true,if_false]
 refine wpAny_bind (takeOutH hu hkey hm hp hsz fun h' h1 h2=>?_)
 simp only[Option.isNone_some,Bool.false_eq_true,if_false]
 exact wpAny_bind (wpAny_letGo (wpAny_pure ⟨p.2,rfl,h h' h1 h2⟩))
end
end L2
namespace L2
section
variable {κ:Type} [DecidableEq κ]
def mergeH(xs ys:List (κ × Addr × Value)):List (κ × Addr × Value):=ys.foldl (fun z y=>storedH z y.1 y.2.1 y.2.2) xs
theorem mergeH_succ{xs ys:List (κ × Addr × Value)}{i:Nat}{y:κ × Addr × Value}(e:ys[i]?=some y):mergeH xs (ys.take (i+1))=storedH (mergeH xs (ys.take i)) y.1 y.2.1 y.2.2:=by
 unfold mergeH
 rw[take_add_one,e,List.foldl_append]
 rfl
theorem storedH_le(xs:List (κ × Addr × Value))(k:κ)(a:Addr)(v:Value):(storedH xs k a v).length<=xs.length+1:=by
 unfold storedH
 split
 ·simp
 ·simp
theorem mergeH_le:∀ (ys xs:List (κ × Addr × Value)),(mergeH xs ys).length<=xs.length+ys.length
 | [],xs=>Nat.le_refl _
 | y::ys,xs=>by
  have h1:=mergeH_le ys (storedH xs y.1 y.2.1 y.2.2)
  have h2:=storedH_le xs y.1 y.2.1 y.2.2
  have h3:mergeH xs (y::ys)=mergeH (storedH xs y.1 y.2.1 y.2.2) ys:=rfl
  rw[h3,length_cons]
  lia
theorem atKey_no{xs:List (κ × Addr × Value)}{k:κ}(h:k ∉ xs.map (·.1)):atKey xs k=none :=
 atKey_none_of_get fun j p e=>h (List.mem_map.mpr ⟨(k,p),mem_of_getElem? e,rfl⟩)
theorem mergeH_new:∀ (ys xs:List (κ × Addr × Value)),((xs++ys).map (·.1)).Nodup->mergeH xs ys=xs++ys
 | [],xs,_=>by simp[mergeH]
 | y :: ys, xs, hn => by
  have h0:y.1 ∉ xs.map (·.1):=by
   rw[map_append,nodup_append] at hn
   exact fun m=>hn.2.2 _ m _ (by simp) rfl
  have h3:mergeH xs (y::ys)=mergeH (storedH xs y.1 y.2.1 y.2.2) ys:=rfl
  rw[h3,storedH_new (atKey_no h0),mergeH_new ys (xs++[(y.1,y.2.1,y.2.2)]) (by simpa using hn)]
  simp
theorem filter_one{α:Type}(f:α->Int)(c:Int):∀ (l:List α),(l.map f).Nodup->(l.filter fun x=>f x == c).length<=1
 | [],_=>by simp
 | x :: l, h => by
  obtain⟨h1,h2⟩:=List.nodup_cons.mp h
  by_cases e:f x=c
  ·have z : (l.filter fun x => f x == c) = [] := by
    rw[List.filter_eq_nil_iff]
    intro y hy t
    exact h1 (List.mem_map.mpr ⟨y,hy,(eq_of_beq t).trans e.symm⟩)
   rw[filter_cons_of_pos (by simpa using e),z]
   simp
  ·rw [List.filter_cons_of_neg (by simpa using e)]
   exact filter_one f c l h2
variable {prog:Program} {w:World} {knd:HeapKind prog w κ} {A:Around} {E:Value->Shared->Prop} {s:Shared} {d o a:Addr} {k:κ} {v:Value} {xs ys:List (κ × Addr × Value)}
theorem setHashedH{Q:Unit->Shared->Prop}(hu:knd.room A)(hkey:knd.is s.heap k a)(hm:s.heap.DictOfH knd d xs)(hsz:xs.length<=sizeLine)
  (hQ:∀ h',h'.DictOfH knd d (storedH xs k a v)->Heap.SameBut d s.heap h'->Q () { s with heap:=h' }):wpAny (model prog w) A (dictSetHashed d (.ref a) (knd.hash k) v) Q E s:=by
 obtain⟨ob,es,ep,ho,hc,hdat,hent,his,hn⟩:=hm
 unfold dictSetHashed
 refine wpAny_holding (wpAny_bind (wpAny_dictFind_heap hu hkey ho hdat hent his hn (fun hno=>?_) fun j q hj=>?_))
 ·have e0 := storedH_new (atKey_none_of_get hno) a v
  have e1:es.size<=sizeLine:=by rw[size_of_entries hent];exact hsz
  refine wpAny_bind (wpAny_rule (wpAny_updateDictKeys (hz:=e1) ho hdat (hQ _ ⟨_,_,ep+1,Heap.get?_update_self _ ho (Obj.isFreed_of_dict (Obj.data_mapDictKeys hdat _)),hc.mapDictKeys _,Obj.data_mapDictKeys hdat _,?_,fun x hx=>?_,?_⟩ (Heap.SameBut.update ..))))
  ·rw[e0];simp[hent,entryOfKey]
  ·rw [e0] at hx
   rcases List.mem_append.mp hx with m | m
   ·exact knd.keeps (his x m) ho hdat (Heap.SameBut.update ..)
   ·cases List.mem_singleton.mp m
    exact knd.keeps hkey ho hdat (Heap.SameBut.update ..)
  ·rw [e0, List.map_append, List.nodup_append]
   refine⟨hn,by simp,fun x hx y hy=>?_⟩
   have hy':y=k:=by simpa using hy
   subst hy'
   exact fun z=>not_mem_keys_of_get hno (z ▸ hx)
 ·have e0 := storedH_old (atKey_of_get hn hj) a v
  refine wpAny_bind (wpAny_rule (wpAny_bind (wpAny_updateDict ho hdat (wpAny_point (hQ _ ⟨_,_,ep,Heap.get?_update_self _ ho (Obj.isFreed_of_dict (Obj.data_mapDict hdat _)),hc.mapDict _,Obj.data_mapDict hdat _,?_,fun x hx=>?_,?_⟩ (Heap.SameBut.update ..))))))
  ·rw [e0]
   have t:=modify_map_putAt (entryOfKey knd) (fun e:DictEntry=>{ e with val:=v }) k v (fun _ _=>rfl) hn hj
   rw[<- hent] at t
   cases es
   simpa using t
  ·rw [e0] at hx
   obtain⟨y,hy,rfl⟩:=List.mem_map.mp hx
   unfold putAt
   split
   ·exact knd.keeps (his y hy) ho hdat (Heap.SameBut.update ..)
   ·exact knd.keeps (his y hy) ho hdat (Heap.SameBut.update ..)
  ·rw[e0,keys_map_putAt];exact hn
theorem forEmptyH{nm:String}{ob:Obj}{es:Array DictEntry}{ep:Nat}{Q:Array DictEntry->Shared->Prop}(ho:s.heap.get? o=some ob)(hdat:ob.data=.dict es ep)(hent:es.toList=ys.map (entryOfKey knd))
  (hty:∀ y∈ys,s.TypeIs (.ref y.2.1) "tuple") (hh:(ys.map fun y=>knd.hash y.1).Nodup) (hQ:Q es s):wpAny (model prog w) A (Builtin.Dict.entriesForEmpty nm o) Q E s:=by
 unfold Builtin.Dict.entriesForEmpty
 refine wpAny_bind (wpAny_dictEntries ho hdat (wpAny_bind ?_))
 rw[<- Array.forIn_toList]
 refine wpAny_forIn_list _ (fun rest _ s'=>s'=s/\∃ l,es.toList=l++rest) _ ?_ ?_ _ _ ⟨rfl,[],rfl⟩
 ·rintro e rest b s' ⟨rfl, l, el⟩
  have hm:e∈es.toList:=by rw[el];simp
  rw[hent] at hm
  obtain⟨y,hy,rfl⟩:=List.mem_map.mp hm
  have one:(es.filter (·.hash == (entryOfKey knd y).hash)).size<=1:=by
   have t:=filter_one (fun e:DictEntry=>e.hash) (entryOfKey knd y).hash es.toList (by rw[hent,map_map];exact hh)
   rw[<- Array.length_toList,Array.toList_filter]
   exact t
  show wpAny _ _ (Builtin.Dict.quietEq (.ref y.2.1) >>= _) _ _ _
  refine wpAny_bind ?_
  unfold Builtin.Dict.quietEq
  refine wpAny_bind (wpAny_specialOf (hty y hy) PySem.F.slot_tuple_eq.lookup (wpAny_pure ?_))
  rw[if_pos (by decide),if_neg (by lia)]
  exact wpAny_pure ⟨rfl,l++[entryOfKey knd y],by rw[el];simp⟩
 ·rintro b s' ⟨rfl, _⟩
  exact wpAny_pure hQ
theorem mergeDictH{nm:String}{Q:Unit->Shared->Prop}(hu:knd.room A)(hdo:d≠o)(hoS:(o == sysModules)=false)(hd:s.heap.DictOfH knd d xs)(ho:s.heap.DictOfH knd o ys)
  (hty:∀ y∈ys,s.TypeIs (.ref y.2.1) "tuple") (hh:xs=[]->(ys.map fun y=>knd.hash y.1).Nodup) (hsz:xs.length+ys.length<=sizeLine)
  (hQ:∀ h',h'.DictOfH knd d (mergeH xs ys)->Heap.SameBut d s.heap h'->Q () { s with heap:=h' }):wpAny (model prog w) A (Builtin.Dict.mergeDict nm d o) Q E s:=by
 obtain⟨od,esd,epd,hod,hcd,hdd,hed,hid,hnd⟩:=id hd
 obtain⟨oo,eso,epo,hoo,hco,hdo',heo,hio,hno⟩:=id ho
 have hlen:eso.size=ys.length:=size_of_entries heo
 have walk:∀ (i:Nat) (h':Heap),i<=ys.length->h'.DictOfH knd d (mergeH xs (ys.take i))->Heap.SameBut d s.heap h'->h'.get? o=some oo:=fun i h' _ _ sb=>(sb.2 o (Ne.symm hdo)).trans hoo
 unfold Builtin.Dict.mergeDict
 rw[if_neg (by simpa using hdo)]
 unfold Builtin.Dict.showsAll
 rw[if_neg (by rw[hoS];exact Bool.false_ne_true)]
 refine wpAny_bind (wpAny_pure (wpAny_bind (wpAny_dictEntries hoo hdo' ?_)))
 dsimp only
 split
 case' isTrue =>
  refine wpAny_bind (wpAny_dictEntries hod hdd ?_)
  split
  case isTrue hemp =>
   have hx:xs=[]:=by
    have e0:=size_of_entries hed
    rw[Array.isEmpty_iff.mp hemp] at e0
    exact List.length_eq_zero_iff.mp e0.symm
   refine wpAny_bind (forEmptyH hoo hdo' heo hty (hh hx) ?_)
   rw[hx,mergeH_new ys [] (by simpa using hno)] at hQ
   split
   ·have hz : eso.size <= sizeLine + 1 := by lia
    refine wpAny_bind (wpAny_updateDictKeysTo hod hdd (wpAny_pure (hQ _ ⟨_,_,epd+1,Heap.get?_update_self _ hod (Obj.isFreed_of_dict (Obj.data_mapDictKeys hdd _)),hcd.mapDictKeys _,Obj.data_mapDictKeys hdd _,by simpa using heo,fun x hm=>?_,by simpa using hno⟩ (Heap.SameBut.update ..))) hz)
    exact knd.keeps (hio x (by simpa using hm)) hod hdd (Heap.SameBut.update ..)
   ·rename_i hne
    have h0:eso=#[]:=Array.isEmpty_iff.mp (by simpa using hne)
    have hy:ys=[]:=List.length_eq_zero_iff.mp (by rw[<- hlen,h0];rfl)
    rw[hy] at hQ
    rw[hx] at hd
    exact wpAny_pure (hQ _ hd (Heap.SameBut.refl _ _))
 all_goals
  refine wpAny_bind (wpAny_dictEpoch hoo hdo' (wpAny_bind (wpAny_dictEntries hoo hdo' (wpAny_bind ?_))))
  rw[Std.Legacy.Range.forIn_eq_forIn_range'];simp only[Std.Legacy.Range.size,Nat.sub_zero,Nat.add_sub_cancel,Nat.div_one]
  refine wpAny_forIn_list _ (fun rest _ s'=>∃ h' i,s'={ s with heap:=h' }/\rest=List.range' i (ys.length-i)/\i<=ys.length/\h'.DictOfH knd d (mergeH xs (ys.take i))/\Heap.SameBut d s.heap h') _ ?_ ?_ _ _ ⟨s.heap,0,rfl,by rw[hlen];rfl,Nat.zero_le _,by simpa [mergeH] using hd,Heap.SameBut.refl _ _⟩
  ·rintro x rest b s' ⟨h', i, rfl, hr, hi, hd', hs'⟩
   have hlt:i<ys.length:=by
    rcases Nat.lt_or_ge i ys.length with h | h
    ·exact h
    ·rw[Nat.sub_eq_zero_of_le h] at hr;exact nomatch hr
   have e0:ys.length-i=(ys.length-(i+1))+1:=by lia
   rw[e0,List.range'_succ] at hr
   injection hr with hr1 hr2
   subst hr1 hr2
   have hoo':=walk x h' hi hd' hs'
   obtain⟨y,hy⟩:∃ y,ys[x]?=some y:=⟨ys[x],getElem?_eq_getElem hlt⟩
   refine wpAny_bind (wpAny_dictEntries hoo' hdo' ?_)
   rw[entry_at heo x,hy]
   have hmem:y∈ys:=mem_of_getElem? hy
   have hkey:knd.is h' y.1 y.2.1:=knd.keeps (hio y hmem) hod hdd hs'
   have hm:(mergeH xs (ys.take x)).length<=sizeLine:=by
    have q:=mergeH_le (ys.take x) xs
    rw[length_take] at q
    lia
   refine wpAny_bind (wpAny_holding (setHashedH (s:={ s with heap:=h' }) hu hkey hd' hm fun h2 hd2 hs2=>?_))
   have hoo2:h2.get? o=some oo:=(hs2.2 o (Ne.symm hdo)).trans hoo'
   refine wpAny_bind (wpAny_dictEpoch (s:={ s with heap:=h2 }) hoo2 hdo' ?_)
   rw[if_neg (by simp)]
   exact wpAny_pure ⟨h2,x+1,rfl,rfl,hlt,by rw[mergeH_succ hy];exact hd2,hs'.trans hs2⟩
  ·rintro b s' ⟨h', i, rfl, hr, hi, hd', hs'⟩
   have hin:i=ys.length:=by
    rcases Nat.lt_or_ge i ys.length with h | h
    ·rw[show ys.length-i=(ys.length-(i+1))+1 by lia,List.range'_succ] at hr;exact nomatch hr
    ·exact Nat.le_antisymm hi h
   subst hin
   rw[take_length] at hd'
   exact wpAny_pure (hQ h' hd' hs')
theorem updateH{Q:Value->Shared->Prop}(hu:knd.room A.in1)(hdo:d≠o)(hoS:(o == sysModules)=false)(hd:s.heap.DictOfH knd d xs)(ho:s.heap.DictOfH knd o ys)
  (hty:∀ y∈ys,s.TypeIs (.ref y.2.1) "tuple") (hh:xs=[]->(ys.map fun y=>knd.hash y.1).Nodup) (hsz:xs.length+ys.length<=sizeLine)
  (hQ:∀ h',h'.DictOfH knd d (mergeH xs ys)->Heap.SameBut d s.heap h'->Q .none { s with heap:=h' }):wpAny (model prog w) A (call (.builtin "dict.update") [.ref d,.ref o]) Q E s:=by
 refine call_meetsIn PySem.F.slot_dict_update hd.typeIs PySem.F.entry_dict_update (PySem.F.args_dict_update_2 _ _) (S:=fun B R s'=>s'=s/\B=A/\∀ h',h'.DictOfH knd d (mergeH xs ys)->Heap.SameBut d s.heap h'->R (.ok (.ret .none)) { s with heap:=h' }) (.of_wp ?_) ⟨rfl,rfl,fun h' h1 h2=>hQ h' h1 h2⟩
 rintro B R s' ⟨rfl,rfl,h⟩
 unfold Builtin.«dict.update» Builtin.Dict.selfAndRest
 refine wpAny_bind (wpAny_bind (wpAny_notOrdered_dict hd.typeIs ?_))
 show wpAny _ _ (pure (d,[Value.ref o])) _ _ s'
 refine wpAny_pure ?_
 show wpAny _ _ (Builtin.Dict.updateFrom "dict.update" d (.ref o) [] .none) _ _ s'
 unfold Builtin.Dict.updateFrom
 refine wpAny_bind (wpAny_typeOf ho.typeIs ?_)
 rw[if_neg (by decide)]
 refine wpAny_bind ?_
 unfold Builtin.Dict.merge
 refine wpAny_bind ?_
 unfold Builtin.Dict.readDirectly
 refine wpAny_bind (wpAny_isInstance ho.typeIs isSubtype_dict_dict ?_)
 simp only[Bool.not_true,Bool.false_eq_true,if_false]
 refine wpAny_bind (wpAny_specialOf ho.typeIs F.slot_dict_iter.lookup (wpAny_pure ?_))
 simp only[beq_self_eq_true,if_true]
 refine wpAny_bind (wpAny_pure (mergeDictH hu hdo hoS hd ho hty hh hsz fun h' h1 h2=>?_))
 show wpAny _ _ (Builtin.Dict.addKeywords d [] >>= _) _ _ _
 exact wpAny_bind (wpAny_pure (wpAny_pure ⟨.none,rfl,h h' h1 h2⟩))
end
end L2
namespace L2
theorem KT.drop{H:Hp}{kvs:List (List Key × V)}{xs:List (List Key × Addr × Value)}(r:KT H kvs xs)(k:List Key):KT H (dropK kvs k) (dropH xs k):=by
 induction r with
 | nil=>exact .nil
 | @cons p q ps qs hq t ih =>
  by_cases e:p.1=k
  ·have e' : q.1 = k := hq.1 ▸ e
   unfold dropK dropH
   rw[filter_cons_of_neg (by simpa using e),filter_cons_of_neg (by simpa using e')]
   exact ih
  ·have e' : ¬ q.1 = k := hq.1 ▸ e
   unfold dropK dropH
   rw[filter_cons_of_pos (by simpa using e),filter_cons_of_pos (by simpa using e')]
   exact .cons hq ih
theorem dt_new{P:Program}{w:World}{H':Hp}{h':Heap}{a:Addr}{kvs:List (List Key × V)}{xs:List (List Key × Addr × Value)}(z:kvs.length<=sizeLine)(hd:(a == sysModules)=false)(rel:KT H' kvs xs)(dd:h'.DictOfH (tupleKind (zB P w)) a xs) :
  ObjOk P w H' h' a (.dT kvs):=let ⟨o,es,ep,h1,h2,h3,h4,_,h5⟩:=dd;⟨z,hd,xs,rel,o,es,ep,h1,h2,h3,h4,h5⟩
section
variable {X:Cx} {pins:List (Addr × Obj)} {σ:St} {H:Hp} {s:Shared} {a b:Addr} {A:Around} {E:Value->Shared->Prop} {kvs more:List (List Key × V)} {k:List Key} {v:V}
theorem KT.over{ob:HO}(e:H a=some (.dT kvs)){l:List (List Key × V)}{xs:List (List Key × Addr × Value)}(r:KT H l xs):KT (upd H a ob) l xs :=
 r.keeps fun c ys q=>by rw[zm (fun z=>by rw[z,e] at q;cases q)];exact q
theorem key_sq(I:Inv X pins σ H s)(h:SqT X.K H b (k.map kV)):(tupleKind (zB X.prog X.w)).is s.heap k b:=by
 obtain⟨its,r,⟨o,h1,h2,n,h3⟩,_⟩:=I.tuple h
 exact⟨o,its.toArray,n,h1,h2,h3,by simpa using items_are r⟩
theorem dt_pop{Q:Value->Shared->Prop}(hu:A.units+1<cLine)(I:Inv X pins σ H s)(e:H a=some (.dT kvs))(eb:SqT X.K H b (k.map kV))(l:valV kvs k=some v)
  (h:∀ w' s',Inv X pins σ (upd H a (.dT (dropK kvs k))) s'->RelV v w'->Q w' s'):wpAny (model X.prog X.w) A (call (.builtin "dict.pop") [.ref a,.ref b]) Q E s:=by
 obtain⟨z,hd,xs,rel,dd⟩:=dt_of I.hok e
 obtain⟨w',hw,rw'⟩:=RelO.some_of (v:=v) (o:=(atKey xs k).map (·.2)) (by rw[<- l];exact rel.val k)
 obtain⟨p,hp,rfl⟩:=Option.map_eq_some_iff.mp hw
 refine popH (tupleKind_room_in1 hu) (key_sq I eb) dd hp (by rw[<- rel.length];exact z) fun h' t' d' hs=>h _ _ ?_ rw'
 have he:∃ q,h'.get? a=some q:=let ⟨q,_,_,hq,_⟩:=d';⟨q,hq⟩
 exact d_write I (by rw[e];exact True.intro) hs he (dt_new (Nat.le_trans (List.length_filter_le _ _) z) hd ((rel.drop k).over e) d')
theorem KT.mem{l:List (List Key × V)}{xs:List (List Key × Addr × Value)}(r:KT H l xs):∀ x∈xs,∃ ks,H x.2.1=some (.tup ks):=by
 induction r with
 | nil=>intro x hx;cases hx
 | @cons p q ps qs hq t ih =>
  intro x hx
  rcases List.mem_cons.mp hx with e | hx
  ·subst e;exact⟨_,hq.2.1⟩
  ·exact ih x hx
def mergeT(kvs more:List (List Key × V)):List (List Key × V):=more.foldl (fun acc kv=>putK acc kv.1 kv.2) kvs
theorem KT.merge{more:List (List Key × V)}{ys:List (List Key × Addr × Value)}(r:KT H more ys):∀ {kvs:List (List Key × V)} {xs:List (List Key × Addr × Value)},KT H kvs xs->KT H (mergeT kvs more) (mergeH xs ys):=by
 induction r with
 | nil=>exact fun q=>q
 | @cons p q ps qs hq t ih =>
  intro kvs xs r'
  obtain⟨k,v⟩:=p
  obtain⟨k',b,u⟩:=q
  obtain⟨rfl,h2,h3⟩:=hq
  exact ih (r'.put k h2 h3)
theorem KT.keys{l:List (List Key × V)}{xs:List (List Key × Addr × Value)}(r:KT H l xs):l.map (·.1)=xs.map (·.1):=by
 induction r with
 | nil=>rfl
 | @cons p q ps qs hq t ih=>rw[map_cons,map_cons,ih,hq.1]
theorem dt_update{Q:Value->Shared->Prop}(hu:A.units+1<cLine)(I:Inv X pins σ H s)(e:H a=some (.dT kvs))(eb:H b=some (.dT more))(hab:a≠b)(hz:kvs.length+more.length<=sizeLine)
  (hh:kvs=[]->(more.map fun kv=>(tupleKind (zB X.prog X.w)).hash kv.1).Nodup) (h:∀ s',Inv X pins σ (upd H a (.dT (mergeT kvs more))) s'->Q .none s'):wpAny (model X.prog X.w) A (call (.builtin "dict.update") [.ref a,.ref b]) Q E s:=by
 obtain⟨z,hd,xs,rel,dd⟩:=dt_of I.hok e
 obtain⟨z2,hd2,ys,rel2,dd2⟩:=dt_of I.hok eb
 refine updateH (tupleKind_room_in1 hu) hab hd2 dd dd2 (fun y hy=>?_) (fun q=>?_) (by rw[<- rel.length,<- rel2.length];exact hz) fun h' d' hs=>h _ ?_
 ·obtain ⟨ks, hk⟩ := rel2.mem y hy
  obtain⟨_,its,_,o,h1,h2,_⟩:=(show ObjOk X.prog X.w H s.heap y.2.1 (.tup ks) from I.hok _ _ hk)
  exact⟨o,h1,h2⟩
 ·have e0 : kvs = [] := List.length_eq_zero_iff.mp (by rw [rel.length, q]; rfl)
  have t:=hh e0
  have k1:(more.map fun kv=>(tupleKind (zB X.prog X.w)).hash kv.1)=(more.map (·.1)).map (tupleKind (zB X.prog X.w)).hash:=by simp
  have k2:(ys.map fun kv=>(tupleKind (zB X.prog X.w)).hash kv.1)=(ys.map (·.1)).map (tupleKind (zB X.prog X.w)).hash:=by simp
  rw[k1,rel2.keys,<- k2] at t
  exact t
 ·have he : ∃ q, h'.get? a = some q := let ⟨q, _, _, hq, _⟩ := d'; ⟨q, hq⟩
  have r3:=rel2.merge rel
  refine d_write I (by rw[e];exact True.intro) hs he (dt_new ?_ hd (r3.over e) d')
  rw[r3.length]
  have q:=mergeH_le ys xs
  rw[<- rel.length,<- rel2.length] at q
  lia
def tDPopT(K:W.Frag)(td ty:TE):TE:=fun σ H Q=>td σ H fun x H1=>∃ a,x=.ref a/\IsD H1 a/\ty σ H1 fun y H2=>∃ kvs k b v,H2 a=some (.dT kvs)/\y=.ref b/\SqT K H2 b (k.map kV)/\valV kvs k=some v/\Q v (upd H2 a (.dT (dropK kvs k)))
theorem pe_dpopT{o e:Expr}{apos cpos:Pos}{td ty:TE}(hu:X.A.units+1<cLine)(ho:PE X o td)(he:PE X e ty)(m:M1 X o "pop" apos e cpos):PE X (.Call (.Attribute o "pop" apos) [e] [] cpos) (tDPopT X.K td ty):=by
 intro pins s σ H Q I h
 refine wpAny_Call_method m.base m.few m.line PySem.F.plainAttrs_dict PySem.F.slot_dict_pop PySem.F.type_dict_pop (thn (ho pins s σ H _ I h) fun u s1 ⟨x,H1,I1,rx,a,ex,d,q1⟩=>?_)
 subst ex
 cases(show u=Value.ref a from rx)
 obtain⟨t1,t2,_⟩:=isD_at I1 d
 refine⟨t1,t2,?_⟩
 rw[m.trees]
 refine Calls.callWith_builtin rfl (Calls.evalArgs_plain (Calls.spliced_cons (thn (he pins s1 σ H1 _ I1 q1) fun iv s2 ⟨y,H2,I2,ry,kvs,k,b,v,ea,ey,sq,l,q2⟩=>Calls.spliced_nil ?_)))
 subst ey
 cases(show iv=Value.ref b from ry)
 exact dt_pop hu I2 ea sq l fun w' s3 I3 rw'=>⟨v,_,I3,rw',q2⟩
def tDUpdT(P:Program)(w:World)(td ty:TE):TE:=fun σ H Q=>td σ H fun x H1=>∃ a,x=.ref a/\IsD H1 a/\ty σ H1 fun y H2=>∃ kvs more b,H2 a=some (.dT kvs)/\y=.ref b/\a≠b/\H2 b=some (.dT more)/\kvs.length+more.length<=sizeLine /\
 (kvs=[]->(more.map fun kv=>(tupleKind (zB P w)).hash kv.1).Nodup)/\Q .non (upd H2 a (.dT (mergeT kvs more)))
theorem pe_dupdT{o e:Expr}{apos cpos:Pos}{td ty:TE}(hu:X.A.units+1<cLine)(ho:PE X o td)(he:PE X e ty)(m:M1 X o "update" apos e cpos):PE X (.Call (.Attribute o "update" apos) [e] [] cpos) (tDUpdT X.prog X.w td ty):=by
 intro pins s σ H Q I h
 refine wpAny_Call_method m.base m.few m.line PySem.F.plainAttrs_dict PySem.F.slot_dict_update PySem.F.type_dict_update (thn (ho pins s σ H _ I h) fun u s1 ⟨x,H1,I1,rx,a,ex,d,q1⟩=>?_)
 subst ex
 cases(show u=Value.ref a from rx)
 obtain⟨t1,t2,_⟩:=isD_at I1 d
 refine⟨t1,t2,?_⟩
 rw[m.trees]
 refine Calls.callWith_builtin rfl (Calls.evalArgs_plain (Calls.spliced_cons (thn (he pins s1 σ H1 _ I1 q1) fun iv s2 ⟨y,H2,I2,ry,kvs,more,b,ea,ey,hab,eb,hz,hh,q2⟩=>Calls.spliced_nil ?_)))
 subst ey
 cases(show iv=Value.ref b from ry)
 exact dt_update hu I2 ea eb hab hz hh fun s3 I3=>⟨.non,_,I3,rfl,q2⟩
end
end L2
namespace L2
def atP{α:Type}:List (Int × Int)->List α->Int × Int->Option α
 | k::ks,e::es,x=>if k=x then some e else atP ks es x
 | _,_,_=>none
def dropP(ks:List (Int × Int))(x:Int × Int):List (Int × Int):=ks.filter fun k=>decide (k≠x)
def dropE{α:Type}:List (Int × Int)->List α->Int × Int->List α
 | k::ks,e::es,x=>if k=x then dropE ks es x else e::dropE ks es x
 | _,_,_=>[]
theorem kP_inj{x y:Int × Int}(h:kP x=kP y):x=y:=by
 obtain⟨a,b⟩:=x
 obtain⟨c,d⟩:=y
 unfold kP at h
 injection h with h1 h2
 injection h2 with h2 _
 injection h1 with h1
 injection h2 with h2
 simp only at h1 h2
 rw[h1,h2]
theorem atP_val:∀ (ks:List (Int × Int)) (xs:List V) (x:Int × Int),valV (kvsT ks xs) (kP x)=atP ks xs x
 | [],_,_=>by simp[kvsT,valV,atP]
 | _::_,[],_=>by simp[kvsT,valV,atP]
 | k :: ks, y :: xs, x => by
  have ih:=atP_val ks xs x
  by_cases e:k=x
  ·subst e
   simp[kvsT,valV,atP]
  ·have e' : ¬ kP k = kP x := fun z => e (kP_inj z)
   simp only[kvsT,zipWith_cons_cons,valV,find?_cons,decide_eq_false e',atP,if_neg e]
   exact ih
theorem dropP_val:∀ (ks:List (Int × Int)) (xs:List V) (x:Int × Int),dropK (kvsT ks xs) (kP x)=kvsT (dropP ks x) (dropE ks xs x)
 | [],_,_=>by simp[kvsT,dropK,dropP]
 | _::_,[],_=>by simp[kvsT,dropK,dropE]
 | k :: ks, y :: xs, x => by
  have ih:=dropP_val ks xs x
  by_cases e:k=x
  ·have e' : kP k = kP x := congrArg kP e
   simp only[kvsT,zipWith_cons_cons,dropK,dropP,dropE,if_pos e]
   rw[filter_cons_of_neg (by simpa using e'),filter_cons_of_neg (by simpa using e)]
   exact ih
  ·have e' : ¬ kP k = kP x := fun z => e (kP_inj z)
   simp only[kvsT,zipWith_cons_cons,dropK,dropP,dropE,if_neg e]
   rw[filter_cons_of_pos (by simpa using e'),filter_cons_of_pos (by simpa using e),zipWith_cons_cons]
   exact congrArg _ ih
theorem dropE_len{α:Type}:∀ (ks:List (Int × Int)) (xs:List α) (x:Int × Int),ks.length=xs.length->(dropP ks x).length=(dropE ks xs x).length
  | [],[],_,_=>rfl
  | k :: ks, y :: xs, x, h => by
    have ih:=dropE_len ks xs x (by simpa using h)
    by_cases e:k=x
    · simp only [dropP, dropE, if_pos e]
      rw[filter_cons_of_neg (by simpa using e)]
      exact ih
    · simp only [dropP, dropE, if_neg e]
      rw[filter_cons_of_pos (by simpa using e),length_cons,length_cons]
      exact congrArg (·+1) ih
section
variable {K:W.Frag} {G:Option Addr} {Z:Addr->Prop} {H:Hp}
theorem Reps.dropE:∀ {ks:List (Int × Int)} {es:List D} {xs:List V} (x:Int × Int),Reps K G Z H es xs->Reps K G Z H (L2.dropE ks es x) (L2.dropE ks xs x)
 | [],es,xs,x,h=>by
  cases es<;>cases xs<;>exact .nil
 | k::ks,[],xs,x,h=>by rw[h.nil_inv];exact .nil
 | k::ks,e::es,xs,x,h=>by
  obtain⟨v,r,rfl,q,t⟩:=h.split
  have ih:=Reps.dropE (ks:=ks) x t
  by_cases c:k=x
  ·simp only[L2.dropE,if_pos c];exact ih
  ·simp only[L2.dropE,if_neg c];exact .cons q ih
theorem Reps.atP:∀ {ks:List (Int × Int)} {es:List D} {xs:List V} {x:Int × Int} {d:D},Reps K G Z H es xs->L2.atP ks es x=some d->∃ v,L2.atP ks xs x=some v/\Rep K G Z H d v
 | [],es,xs,x,d,_,e=>by simp[L2.atP] at e
 | k::ks,[],xs,x,d,_,e=>by simp[L2.atP] at e
 | k :: ks, c :: es, xs, x, d, h, e => by
  obtain⟨v,r,rfl,q,t⟩:=h.split
  by_cases z:k=x
  ·simp only [L2.atP, if_pos z] at e ⊢
   cases e
   exact⟨v,rfl,q⟩
  ·simp only [L2.atP, if_neg z] at e ⊢
   exact Reps.atP t e
end
section
variable {A:AC} {os:List (Nat × Addr)} {n:Nat} {rho:Rho} {sg:St} {H:Hp} {ds es:List D} {vs:List V} {i:Nat} {ks:List (Int × Int)}
theorem AmO.ownT(I:AmO A os n rho sg H ds vs)(hi:rho[i]?=some (some (.owT ks es))) :
  ∃ a xs,sg[i]?=some (some (.ref a))/\H a=some (.dT (kvsT ks xs))/\ks.length=xs.length/\Reps A.K A.G (Zof A os) H es xs /\
   ∀ ks' es' xs',ks'.length=xs'.length->Reps A.K A.G (Zof A os) H es' xs'->AmO A os n (rho.set i (some (.owT ks' es'))) sg (upd H a (.dT (kvsT ks' xs'))) ds vs:=by
 obtain⟨v,e1,a,xs,rfl,hm,hH,hl,rs⟩:=I.slot i _ hi
 have hil:i<rho.length:=(List.getElem?_eq_some_iff.mp hi).1
 have za:Zof A os a:=.inr ⟨_,hm,rfl⟩
 have hf:∀ (o:HO) b u,¬ Zof A os b->H b=some u->upd H a o b=some u:=fun o b u nz e=>by
  rw[zm fun z=>nz (by rw[z];exact za)];exact e
 have uniq:∀ j,(j,a)∈os->j=i:=fun j hj=>by
  by_cases hji:j=i
  ·exact hji
  ·have key : ∀ (l : List (Nat × Addr)), l.Pairwise (fun p q => p.1 ≠ q.1 /\ p.2 ≠ q.2) -> (j, a) ∈ l -> (i, a) ∈ l -> False := by
    intro l
    induction l with
    | nil=>intro _ h;simp at h
    | cons c l ih =>
     intro hp h1 h2
     obtain⟨p1,p2⟩:=List.pairwise_cons.mp hp
     rcases List.mem_cons.mp h1 with e1 | h1<;>rcases List.mem_cons.mp h2 with e2 | h2
     ·rw[<- e2] at e1;exact hji (Prod.mk.inj e1).1
     ·exact(p1 _ h2).2 (by rw[<- e1])
     ·exact(p1 _ h1).2 (by rw[<- e2])
     ·exact ih p2 h1 h2
   exact(key os I.nd hj hm).elim
 obtain⟨fa1,fa2,fa3⟩:=I.fresh _ hm
 refine⟨a,xs,e1,hH,hl,rs,fun ks' es' xs' hl' r=>⟨by simp[I.len],fun j c e=>?_,Reps.mono (fun _ _ z=>z) (hf _) _ _ I.pend,I.nd,fun q hq=>?_,fun b e=>?_,I.gz,fun b u h e=>?_,I.z0⟩⟩
 ·by_cases hj : j = i
  ·subst hj
   rw[getElem?_set_self hil] at e
   cases e
   exact⟨.ref a,e1,a,xs',rfl,hm,zw,hl',Reps.mono (fun _ _ z=>z) (hf _) _ _ r⟩
  ·rw [List.getElem?_set_ne (Ne.symm hj)] at e
   obtain⟨u,e2,e3⟩:=I.slot j c e
   exact⟨u,e2,SlotR.mono (fun _ _ z=>z) (hf _) (fun b ys m q=>⟨m,by rw[zm fun z=>hj (uniq j (by rw[<- z];exact m))];exact q⟩) _ _ e3⟩
 ·obtain ⟨f1, f2, f3⟩ := I.fresh q hq
  refine⟨f1,f2,?_⟩
  by_cases e:q.2=a
  ·rw[e,zw];exact Hot.dT
  ·rw[zm e];exact f3
 ·obtain ⟨x, y, z, q, rr⟩ := I.st b e
  exact⟨x,y,z,by rw[zm fun w=>fa2 (by rw[<- w];exact I.gz b e)];exact q,rr⟩
 ·rw [zm fun w => by rw [w, fa1] at e; cases e]
  exact I.fr b u h e
end
end L2
namespace L2
theorem kvsT_inj:∀ {ks:List (Int × Int)} {xs ys:List V},ks.length=xs.length->ks.length=ys.length->kvsT ks xs=kvsT ks ys->xs=ys
 | [],[],[],_,_,_=>rfl
 | k::ks,x::xs,y::ys,h1,h2,h=>by
  simp only[kvsT,zipWith_cons_cons] at h
  injection h with h3 h4
  injection h3 with _ h3
  rw[h3,kvsT_inj (by simpa using h1) (by simpa using h2) h4]
section
variable {A:AC} {X:Cx} {e:Expr} {te:TD} {pos:Pos}
theorem pair_of{K:W.Frag}{G:Option Addr}{Z:Addr->Prop}{H:Hp}{v:V}{k:Int × Int}(r:Rep K G Z H (.tup [.int k.1,.int k.2]) v):∃ b,v=.ref b/\SqT K H b ((kP k).map kV):=by
 obtain⟨b,ys,rfl,sq,rs⟩:=r.tup_inv
 obtain⟨u1,u2,rfl,r1,r2⟩:=reps2 rs
 rw[r1.int_inv,r2.int_inv] at sq
 exact⟨b,rfl,sq.sq⟩
def sPopT(i:Nat)(te:TD)(g:TGD):TSD:=fun F rho n=>∃ ks es,rho[i]?=some (some (.owT ks es))/\te rho n fun d n1=>∃ (k:Int × Int) (c:D),d=.tup [.int k.1,.int k.2]/\atP ks es k=some c /\
 g c (rho.set i (some (.owT (dropP ks k) (dropE ks es k)))) fun rho'=>F.nx rho' n1
@[simp] theorem q_sPopT{i te g F rho n}:sPopT i te g F rho n=∃ ks es,rho[i]?=some (some (.owT ks es))/\te rho n fun d n1=>∃ (k:Int × Int) (c:D),d=.tup [.int k.1,.int k.2]/\atP ks es k=some c /\
 g c (rho.set i (some (.owT (dropP ks k) (dropE ks es k)))) fun rho'=>F.nx rho' n1:=rfl
theorem psd_popT{i m l:Nat}{x:Str}{tg:Expr}{g:TGD}{px apos cpos:Pos}(hr:Room l X.A)(hK:X.K=A.K)(he:PD A X e te)(hg:PGD A X m tg g)(hN:X.N[i]?=some x:=by rfl)(hv:Vis X.env.scope x:=by first | exact Or.inl rfl | exact Or.inr (Or.inl rfl) | exact Or.inr (Or.inr rfl))(hd:(x == ("__debug__" : Str))=false:=by decide)
  (hcd:(x == ("__classdict__" : Str))=false:=by decide) (mm:M1 X (.Name x px) "pop" apos e cpos:=by exact⟨rfl,rfl,rfl,rfl⟩)
  (hs:swapsWithSole [tg] (.Call (.Attribute (.Name x px) "pop" apos) [e] [] cpos) pos.line X.env=pure false:=by rfl) (hw:swappedStores [tg] (.Call (.Attribute (.Name x px) "pop" apos) [e] [] cpos) X.env=pure none:=by rfl)
  (h1:(assignEach [tg] X.env).map (·.2)=[assign tg X.env]:=by rfl):PSD A X (.Assign [tg] (.Call (.Attribute (.Name x px) "pop" apos) [e] [] cpos) pos) (sPopT i te g):=by
 with_unfolding_all
  exact(ps_asg (pe_dpopT (by have:=hr.un;lia) (pe_var hN hv hd hcd) he mm) hg hs hw h1).imp fun E sg H h=>by
   obtain⟨rho,n,F,ds,vs,⟨os,I⟩,⟨ks,es,hi,ht⟩,ok⟩:=h
   obtain⟨a,xs,e1,hH,hl,rs,_⟩:=I.ownT hi
   refine⟨.ref a,e1,a,rfl,.inr ⟨_,.inl hH⟩,rho,n,_,ds,vs,⟨os,I⟩,ht,fun v H' n' d ⟨os',J⟩ k=>?_⟩
   obtain⟨k,c,rfl,hc,k2⟩:=k
   obtain⟨J1,r⟩:=J.pop
   obtain⟨a',xs',e2,hH',hl',rs',_⟩:=J1.ownT hi
   rw[e1] at e2
   cases e2
   obtain⟨b,rfl,sq⟩:=pair_of r
   obtain⟨w,hw',rw'⟩:=rs'.atP hc
   refine⟨kvsT ks xs',kP k,b,w,hH',rfl,by rw[hK];exact sq,by rw[atP_val];exact hw',?_⟩
   obtain⟨a3,xs3,e3,hH3,hl3,rs3,up⟩:=(J1.push rw').ownT hi
   rw[e1] at e3
   cases e3
   rw[hH'] at hH3
   have hx:xs'=xs3:=kvsT_inj hl' hl3 (by injection hH3 with z;injection z)
   subst hx
   rw[dropP_val]
   exact⟨_,n',_,c,ds,vs,⟨os',up _ _ _ (dropE_len _ _ _ hl') (rs3.dropE k)⟩,k2,fun rho' sg' J' _ k'=>ok.nx _ _ _ _ J' k'⟩
end
end L2
namespace L2
section
variable {prog:Program} {w:World} {A:Around} {E:Value->Shared->Prop} {s:Shared} {it d:Addr} {i ep:Nat} {od:Obj} {es:Array DictEntry}
theorem own_no:Builtin.Dict_items.ownsTuple "dict_keyiterator" = false:=by decide
theorem nextT_item{Q:Option Value->Shared->Prop}(hit:s.heap.IsKeyIter it d i es.size ep)(hod:s.heap.get? d=some od)(hdd:od.data=.dict es ep)(hi:i<es.size)
  (hQ:∀ h',h'.IsKeyIter it d (i+1) es.size ep->Heap.SameBut it s.heap h'->Q (some es[i].key) { s with heap:=h' }):wpAny (model prog w) A (pyNext (.ref it)) Q E s:=by
 obtain⟨o,ho,hc,hf⟩:=id hit
 have up:(s.heap.update it (Obj.mapFields (·.setIfInBounds 1 (rawInt ((i:Int)+1))))).IsKeyIter it d (i+1) es.size ep:=⟨_,Heap.get?_update_self _ ho (Obj.isFreed_of_fields (Obj.data_mapFields hf _)),(Obj.cls_mapFields ..).trans hc,by rw[Obj.data_mapFields hf];simp[rawInt]⟩
 unfold pyNext
 refine wpAny_bind (wpAny_attempt (wpAny_callSpecial?_slot (name:=Str.ofString "__next__") hit.typeIs F.slot_dict_keyiterator_next (wpAny_call_entry F.slot_dict_keyiterator_next hit.typeIs F.entry_dict_keyiterator_next (wpAny_bind (wpAny_pure (wpAny_bind (wpAny_bind ?_)))) (F.args_dict_keyiterator_next_1 _))))
 first | refine wpAny_bind (wpAny_typeNameOfWhole_keyiter hit.typeIs (wpAny_pure (wpAny_bind (wpAny_fieldsOf ho hf ?_)))) | refine wpAny_bind (wpAny_typeNameOf_keyiter hit.typeIs (wpAny_pure (wpAny_bind (wpAny_fieldsOf ho hf ?_))))
 simp only[own_no,Bool.false_eq_true,if_false]
 show wpAny _ _ (if (Value.ref d == Value.none)=true then _ else _) _ _ s
 rw[if_neg (show ¬ ((Value.ref d == Value.none)=true) from fun z=>Bool.false_ne_true z)];refine wpAny_bind (wpAny_pure (wpAny_bind (wpAny_dictEntries hod hdd ?_)))
 rw[if_neg (by simp)];refine wpAny_bind (wpAny_pure (wpAny_bind (wpAny_dictEpoch hod hdd ?_)))
 rw[if_neg (by simp)];refine wpAny_pure ?_
 simp only[show ¬ ((i:Int)<0) by lia,if_false,Int.toNat_natCast,Array.getElem?_eq_getElem hi]
 refine wpAny_bind ?_
 first | refine wpAny_bind (wpAny_typeNameOfWhole_keyiter hit.typeIs (wpAny_pure (wpAny_bind (wpAny_isOneOf_keyiter hit.typeIs ?_)))) | refine wpAny_bind (wpAny_typeNameOf_keyiter hit.typeIs (wpAny_pure (wpAny_bind (wpAny_isOneOf_keyiter hit.typeIs ?_))))
 show wpAny _ _ (setField (.ref it) 1 (rawInt ((i:Int)+1)) >>= _) _ _ s
 refine wpAny_bind (wpAny_setField ho hf (by simp) (wpAny_bind (wpAny_holding (wpAny_bind (wpAny_isOneOf_keyiter (s:={ s with heap:=s.heap.update it (Obj.mapFields (·.setIfInBounds 1 (rawInt ((i:Int)+1)))) }) up.typeIs ?_)))))
 exact wpAny_pure (wpAny_pure ⟨_,rfl,wpAny_pure (hQ _ up (Heap.SameBut.update ..))⟩)
theorem nextT_end{Q:Option Value->Shared->Prop}(hh:A.handled=none)(hit:s.heap.IsKeyIter it d es.size es.size ep)(hod:s.heap.get? d=some od)(hdd:od.data=.dict es ep)
  (hQ:∀ h',Heap.ExtBut it s.heap h'->Q none { s with heap:=h' }):wpAny (model prog w) A (pyNext (.ref it)) Q E s:=by
 obtain⟨o,ho,hc,hf⟩:=id hit
 unfold pyNext
 refine wpAny_bind (wpAny_attempt (wpAny_callSpecial?_slot (name:=Str.ofString "__next__") hit.typeIs F.slot_dict_keyiterator_next (wpAny_call_entry F.slot_dict_keyiterator_next hit.typeIs F.entry_dict_keyiterator_next (wpAny_bind (wpAny_pure (wpAny_bind (wpAny_bind ?_)))) (F.args_dict_keyiterator_next_1 _))))
 first | refine wpAny_bind (wpAny_typeNameOfWhole_keyiter hit.typeIs (wpAny_pure (wpAny_bind (wpAny_fieldsOf ho hf ?_)))) | refine wpAny_bind (wpAny_typeNameOf_keyiter hit.typeIs (wpAny_pure (wpAny_bind (wpAny_fieldsOf ho hf ?_))))
 simp only[own_no,Bool.false_eq_true,if_false]
 show wpAny _ _ (if (Value.ref d == Value.none)=true then _ else _) _ _ s
 rw[if_neg (show ¬ ((Value.ref d == Value.none)=true) from fun z=>Bool.false_ne_true z)];refine wpAny_bind (wpAny_pure (wpAny_bind (wpAny_dictEntries hod hdd ?_)))
 rw[if_neg (by simp)];refine wpAny_bind (wpAny_pure (wpAny_bind (wpAny_dictEpoch hod hdd ?_)))
 rw[if_neg (by simp)];refine wpAny_pure ?_
 simp only[show ¬ ((es.size:Int)<0) by lia,if_false,Int.toNat_natCast,Array.getElem?_eq_none (Nat.le_refl es.size)]
 refine wpAny_bind ?_
 first | refine wpAny_bind (wpAny_typeNameOfWhole_keyiter hit.typeIs (wpAny_pure ?_)) | refine wpAny_bind (wpAny_typeNameOf_keyiter hit.typeIs (wpAny_pure ?_))
 show wpAny _ _ (setField (.ref it) 0 .none >>= _) _ _ s
 refine wpAny_bind (wpAny_setField ho hf (by simp) ?_)
 show wpAny _ _ (newExc (.type "StopIteration") [] >>= _) _ _ _
 simp only[newExc,newTuple]
 refine wpAny_bind (wpAny_bind (wpAny_newObj_type (wpAny_bind (m:=firstArgMember _ _) (wpAny_of_eq (a:=Value.none) (by first | rfl | (simp only[firstArgMember];rfl)) (wpAny_newObj_type ?_ (by size_fits)))) (by size_fits)))
 simp only[raiseNew]
 refine wpAny_bind (wpAny_handled ?_)
 rw[show A.in1.handled=none from hh]
 refine wpAny_bind (wpAny_pure (wpAny_throw ?_))
 exact wpAny_bind (wpAny_isInstance (T := "StopIteration") (b:=true) ⟨_,Heap.get?_push_size _ rfl,rfl⟩ isSubtype_stop (wpAny_pure (hQ _ (((Heap.SameBut.update ..).extBut.push _).push _))))
end
def EntAt(h:Heap)(d:Addr)(es:Array DictEntry)(ep:Nat):Prop:=∃ o,h.get? d=some o/\o.ExactDict/\o.data=.dict es ep
section
variable {prog:Program} {w:World} {A:Around} {E:Value->Shared->Prop} {s:Shared} {d:Addr} {ep:Nat} {es:Array DictEntry}
theorem EntAt.at{h h':Heap}(x:EntAt h d es ep)(hk:∀ o,h.get? d=some o->h'.get? d=some o):EntAt h' d es ep:=let ⟨o,ho,r⟩:=x;⟨o,hk o ho,r⟩
theorem EntAt.typeIs(x:EntAt s.heap d es ep):s.TypeIs (.ref d) "dict" := let ⟨o,ho,hc,_⟩:=x;⟨o,ho,hc.1⟩
theorem walksT(hh:A.handled=none)(I d:Addr)(hne:d≠I)(es:Array DictEntry)(ep:Nat) :
  Walks prog w A I [I,d] [I] es.size (fun i v=>∃ x,es[i]?=some x/\v=x.key) (fun i h=>h.IsKeyIter I d i es.size ep/\EntAt h d es ep) where
 sub:=fun b hb=>by simp at hb;simp[hb]
 frame:=fun _ _ _ st hk=>⟨st.1.at fun o e=>hk I (by simp) o e,st.2.at fun o e=>hk d (by simp) o e⟩
 item:=fun i s Q E hi st hQ=>by
  obtain⟨o,ho,hc,hd⟩:=id st.2
  exact nextT_item st.1 ho hd hi fun h' hit' hs'=>hQ _ h' s.toks ⟨es[i],Array.getElem?_eq_getElem hi,rfl⟩ ⟨hit',st.2.at fun o e=>hs'.extBut d o hne e⟩ fun b o hb e=>hs'.extBut b o (fun h=>hb (by simp[h])) e
 done:=fun s Q E st hQ=>by
  obtain⟨o,ho,hc,hd⟩:=id st.2
  exact nextT_end hh st.1 ho hd fun h' he'=>hQ h' s.toks fun b o hb e=>he' b o (fun h=>hb (by simp[h])) e
 self:=fun _ _ _ _ st hQ=>wpAny_pyIter_keyiter st.1 hQ
theorem iterT{Q:Value->Shared->Prop}(hd:(d == sysModules)=false)(hm:EntAt s.heap d es ep)
  (hQ:Q (.ref s.heap.objs.size) { s with heap:=s.heap.push { cls:=.type "dict_keyiterator",data:=.fields #[.ref d,.int 0 0,.int es.size 0,.int ep 0] } }):wpAny (model prog w) A (pyIter (.ref d)) Q E s:=by
 obtain⟨o,ho,hc,hdat⟩:=id hm
 refine wpAny_pyIter_slot hm.typeIs F.slot_dict_iter (wpAny_call_entry F.slot_dict_iter hm.typeIs F.entry_dict_iter ?_ (F.args_dict_iter_1 _))
 unfold Builtin.«dict.__iter__» Builtin.Dict.dictSlotNone
 refine wpAny_bind (wpAny_bind (wpAny_notOrdered_dict hm.typeIs ?_))
 show wpAny _ _ (pure (Value.ref d)) _ _ s
 refine wpAny_pure ?_
 show wpAny _ _ (Builtin.Dict.showsAll d >>= _) _ _ s
 unfold Builtin.Dict.showsAll
 rw[if_neg (by rw[hd];exact Bool.false_ne_true)]
 refine wpAny_bind (wpAny_pure (wpAny_bind (wpAny_dictEntries ho hdat (wpAny_bind (wpAny_dictEpoch ho hdat (wpAny_bind (wpAny_newObj_type (wpAny_pure ⟨_,rfl, "dict_keyiterator",_,⟨_,Heap.get?_push_size _ rfl,rfl⟩,F.slot_dict_keyiterator_next.lookup,?_⟩))))))))
 simpa [rawInt] using hQ
theorem srcT(lo:(d == sysModules)=false):W.KdlSrc prog w "dict" d d es.size (fun i v=>∃ x,es[i]?=some x/\v=x.key) (fun h=>EntAt h d es ep) where
 type:=fun _ hm=>hm.typeIs
 there:=fun _ hm=>let ⟨_,ho,_⟩:=hm;⟨Heap.lt_size ho,Heap.lt_size ho⟩
 keep:=fun _ _ hm hk=>hm.at fun o e=>hk d (.inl rfl) o e
 notList:=by decide
 notTuple:=by decide
 hint:=fun _ _ _ _ hm hq=>W.kdl_hint_dict hm.typeIs hq
 iter:=fun _ _ hh hm=>⟨_,_,(fun _ _ hq=>iterT lo hm hq),walksT hh _ d (Nat.ne_of_lt (let ⟨_,ho,_⟩:=hm;Heap.lt_size ho)) es ep,⟨⟨_,Heap.get?_push_size _ rfl,rfl,rfl⟩,hm.at fun o e=>Heap.get?_push_of_some _ e⟩⟩
end
end L2
namespace L2
def KeyAts(H:Hp):List (List Key × V)->List Addr->Prop:=Paired fun p b=>H b=some (.tup (p.1.map kV))
theorem KT.ats{H:Hp}{kvs:List (List Key × V)}{xs:List (List Key × Addr × Value)}(r:KT H kvs xs):KeyAts H kvs (xs.map (·.2.1)):=by
 induction r with
 | nil=>exact .nil
 | @cons p q ps qs hq t ih=>exact .cons hq.2.1 ih
theorem vals_refs:∀ (bs:List Addr),Vals (bs.map V.ref) (bs.map Value.ref)
 | []=>.nil
 | b::bs=>.cons rfl (vals_refs bs)
section
variable {X:Cx} {A:AC} {pos p:Pos}
theorem call_list_T(hh:X.A.handled=none):CallR X (.type "list") (fun xs H Q=>∃ a kvs,xs=[.ref a]/\H a=some (.dT kvs)/\∀ l bs,H l=none->KeyAts H kvs bs->Q (.ref l) (upd H l (.lst (bs.map V.ref)))):=by
 intro pins s σ H xs us Q I r h
 obtain⟨a,kvs,rfl,e,q⟩:=h
 obtain⟨u,rfl,rx⟩:=vals1 r
 cases rx
 obtain⟨z,hd,ys,rel,dd⟩:=dt_of I.hok e
 obtain⟨o,es,ep,ho,hc,hdat,hent,his,hn⟩:=dd
 have hsz:es.size=ys.length:=size_of_entries hent
 have hl:=rel.length
 refine W.kdl_call (srcT (es:=es) (ep:=ep) hd) hh ⟨o,ho,hc,hdat⟩ (by rw[hsz,<- hl];exact z) fun h' tk acc c' hk hS hacc=>?_
 have hacc2:acc.toList=(ys.map (·.2.1)).map Value.ref:=by
  refine List.ext_getElem? fun j=>?_
  rw[Array.getElem?_toList]
  rcases Nat.lt_or_ge j acc.size with hj | hj
  ·obtain ⟨x, hx, hv⟩ := hacc.2 j acc[j] (Array.getElem?_eq_getElem hj)
   rw[Array.getElem?_eq_getElem hj,hv]
   rw[entry_at hent j] at hx
   cases hy:ys[j]? with
   | none=>rw[hy] at hx;cases hx
   | some y =>
    rw[hy] at hx
    cases hx
    simp[hy,entryOfKey]
  ·rw[Array.getElem?_eq_none hj,List.getElem?_eq_none (by rw[hacc.1,hsz] at hj;simpa using hj)]
 refine⟨.ref s.heap.objs.size,_,I.laid (t':=tk) (o:=.lst ((ys.map (·.2.1)).map V.ref)) hk (Nat.le_refl _) ?_,rfl,q _ _ (I.hok.fresh (Nat.le_refl _)) rel.ats⟩
 exact⟨by simp only[length_map];rw[<- hl];exact z,acc.toList,c',by rw[hacc2];exact vals_refs _,by rw[Array.toArray_toList];exact hS⟩
theorem KeyAts.reps{K:W.Frag}{G:Option Addr}{Z:Addr->Prop}{H:Hp}(hz:∀ b ys,H b=some (.tup ys)->¬ Z b):∀ {ks:List (Int × Int)} {xs:List V} {bs:List Addr},ks.length=xs.length->KeyAts H (kvsT ks xs) bs->Reps K G Z H (ks.map fun k=>.tup [.int k.1,.int k.2]) (bs.map V.ref)
 | [],[],bs,_,h=>by
  unfold KeyAts kvsT at h
  cases h
  exact .nil
 | k :: ks, x :: xs, bs, hl, h => by
  unfold KeyAts kvsT at h
  rw[zipWith_cons_cons] at h
  cases h with
  | @cons _ b _ bs' h1 h2 =>
   refine .cons (.tup_mk (.inl ⟨hz b _ h1,.inl h1⟩) ?_) (KeyAts.reps hz (by simpa using hl) h2)
   exact .cons (Rep.ofS (d:=.int k.1) rfl) (.cons (Rep.ofS (d:=.int k.2) rfl) .nil)
def dListT(i:Nat):TD:=fun rho n P=>∃ ks es,rho[i]?=some (some (.owT ks es))/\P (.lst (ks.map fun k=>.tup [.int k.1,.int k.2])) n
@[simp] theorem q_dListT{i rho n P}:dListT i rho n P=∃ ks es,rho[i]?=some (some (.owT ks es))/\P (.lst (ks.map fun k=>.tup [.int k.1,.int k.2])) n:=rfl
theorem AmO.tupZ{os:List (Nat × Addr)}{n:Nat}{rho:Rho}{sg:St}{H:Hp}{ds:List D}{vs:List V}(I:AmO A os n rho sg H ds vs):∀ b ys,H b=some (.tup ys)->¬ Zof A os b:=fun b ys e z=>by
 obtain⟨u,e',t⟩:=I.zHot b z
 rw[e] at e'
 cases e'
 exact t ys rfl
theorem pd_listT{i l:Nat}{x:Str}{px:Pos}(hr:Room l X.A)(hm:X.mg "list" = none)(hN:X.N[i]?=some x:=by rfl)(hv:Vis X.env.scope x:=by first | exact Or.inl rfl | exact Or.inr (Or.inl rfl) | exact Or.inr (Or.inr rfl))(hd:(x == ("__debug__" : Str))=false:=by decide)
  (hcd:(x == ("__classdict__" : Str))=false:=by decide) (hg:Gl X "list" := by rfl)
  (he:starEach [.Name x px] X.env=(false,eval (.Name x px) X.env)::starEach [] X.env:=by rfl) (hpl:(backTo pos (starEach [] X.env)).any (·.1)=false:=by rfl):PD A X (.Call (.Name "list" p) [.Name x px] [] pos) (dListT i):=by
 with_unfolding_all
  exact(pe_callTy (call_list_T hr.hd) hg hm bt_list (pa_cons (pe_var hN hv hd hcd) pa_nil he) (by decide) (by decide) he hpl).imp fun sg H Q h=>by
   obtain⟨rho,n,P,ds,vs,⟨os,I⟩,⟨ks,es,hi,k⟩,hQ⟩:=h
   obtain⟨a,xs,e1,hH,hl,rs,_⟩:=I.ownT hi
   exact⟨.ref a,e1,a,_,rfl,hH,fun l bs hl' hb=>hQ _ _ n _ ⟨os,I.newLst (hb.reps I.tupZ hl) hl'⟩ k⟩
theorem lenT{w:World}{prog:Program}{B:Around}{E:Value->Shared->Prop}{s:Shared}{d:Addr}{es:Array DictEntry}{ep:Nat}{Q:Value->Shared->Prop}(hd:(d == sysModules)=false)(hm:EntAt s.heap d es ep)(hfit:(es.size:Int)<2^63)
  (h:Q (.int es.size (s.toks+1)) { s with toks:=s.toks+1+1 }):wpAny (model prog w) B (call (.builtin "len") [.ref d]) Q E s:=by
 refine Calls.call_function_entry kind_len plain_len entry_len (args_len1 _) ?_
 obtain⟨o,ho,hc,hdat⟩:=id hm
 unfold Builtin.«len»
 refine wpAny_bind (m:=oneArg "len" _) (wpAny_pure (wpAny_bind (m:=callSpecial? (.ref d) (Str.ofString "__len__")) (wpAny_callSpecial?_slot (name:=Str.ofString "__len__") hm.typeIs F.slot_dict_len
  (call_meetsIn F.slot_dict_len hm.typeIs F.entry_dict_len (F.args_dict_len_1 _) (S:=fun _ R s'=>s'=s/\R (.ok (.ret (.int es.size s.toks))) { s with toks:=s.toks+1 }) (.of_wp ?_) ⟨rfl,?_⟩))))
 ·rintro C R s' ⟨rfl, q⟩
  show wpAny _ _ (dictSize d >>= _) _ _ s'
  unfold dictSize
  refine wpAny_bind (wpAny_bind (wpAny_dictEntries ho hdat (wpAny_pure ?_)))
  show wpAny _ _ (Builtin.Dict.pendingCount d >>= _) _ _ s'
  refine wpAny_bind (wpAny_pendingCount_other hd (wpAny_ret_mkInt ?_))
  rw[Nat.add_zero];exact q
 ·show wpAny _ _ _ _ _ { s with toks := s.toks + 1 }
  refine wpAny_bind (wpAny_holding (wpAny_pure (wpAny_bind (wpAny_letGo ?_))))
  show wpAny _ _ (if ((es.size:Nat):Int)<0 then _ else _) _ _ _
  rw[if_neg (by lia)]
  show wpAny _ _ (if ((es.size:Nat):Int)>=2^63 then _ else _) _ _ _
  rw[if_neg (by lia)]
  exact wpAny_bind (wpAny_mkInt (wpAny_pure ⟨_,rfl,h⟩))
theorem call_len_T:CallR X (.builtin "len") (fun xs H Q=>∃ a kvs,xs=[.ref a]/\H a=some (.dT kvs)/\Q (.int kvs.length) H):=by
 intro pins s σ H xs us Q I r h
 obtain⟨a,kvs,rfl,e,q⟩:=h
 obtain⟨u,rfl,rx⟩:=vals1 r
 cases rx
 obtain⟨z,hd,ys,rel,o,es,ep,ho,hc,hdat,hent,his,hn⟩:=dt_of I.hok e
 have hsz:es.size=kvs.length:=by rw[size_of_entries hent,rel.length]
 have hn:=line63
 exact lenT hd ⟨o,ho,hc,hdat⟩ (by lia) ⟨.int kvs.length,H,I.tok _,⟨s.toks+1,by rw[hsz]⟩,q⟩
def dLenT(i:Nat):TD:=fun rho n P=>∃ ks es,rho[i]?=some (some (.owT ks es))/\P (.int ks.length) n
@[simp] theorem q_dLenT{i rho n P}:dLenT i rho n P=∃ ks es,rho[i]?=some (some (.owT ks es))/\P (.int ks.length) n:=rfl
theorem kvsT_len{ks:List (Int × Int)}{xs:List V}(h:ks.length=xs.length):(kvsT ks xs).length=ks.length:=by simp[kvsT,h]
theorem pd_lenT{i:Nat}{x:Str}{px:Pos}(hm:X.mg "len" = none)(hN:X.N[i]?=some x:=by rfl)(hv:Vis X.env.scope x:=by first | exact Or.inl rfl | exact Or.inr (Or.inl rfl) | exact Or.inr (Or.inr rfl))(hd:(x == ("__debug__" : Str))=false:=by decide)
  (hcd:(x == ("__classdict__" : Str))=false:=by decide) (hg:Gl X "len" := by rfl)
  (he:starEach [.Name x px] X.env=(false,eval (.Name x px) X.env)::starEach [] X.env:=by rfl) (hpl:(backTo pos (starEach [] X.env)).any (·.1)=false:=by rfl):PD A X (.Call (.Name "len" p) [.Name x px] [] pos) (dLenT i):=by
 with_unfolding_all
  exact(pe_callB call_len_T hg hm bt_len (pa_cons (pe_var hN hv hd hcd) pa_nil he) (by decide) (by decide) he hpl).imp fun sg H Q h=>by
   obtain⟨rho,n,P,ds,vs,⟨os,I⟩,⟨ks,es,hi,k⟩,hQ⟩:=h
   obtain⟨a,xs,e1,hH,hl,rs,_⟩:=I.ownT hi
   exact⟨.ref a,e1,a,_,rfl,hH,by rw[kvsT_len hl];exact hQ _ H n _ ⟨os,I.push (Rep.ofS (d:=.int ks.length) rfl)⟩ k⟩
end
end L2
namespace L2
section
variable {X:Cx} {pins:List (Addr × Obj)} {σ:St} {H:Hp} {s:Shared} {a b:Addr} {B:Around} {E:Value->Shared->Prop} {kvs:List (List Key × V)} {k:List Key} {v:V}
theorem dt_getItem{Q:Value->Shared->Prop}(hu:B.units+1<cLine)(I:Inv X pins σ H s)(e:H a=some (.dT kvs))(eb:SqT X.K H b (k.map kV))(l:valV kvs k=some v)
  (h:∀ w' s',Inv X pins σ H s'->RelV v w'->Q w' s'):wpAny (model X.prog X.w) B (getItem (.ref a) (.ref b)) Q E s:=by
 obtain⟨z,hd,xs,rel,dd⟩:=dt_of I.hok e
 obtain⟨w',hw,rw'⟩:=RelO.some_of (v:=v) (o:=(atKey xs k).map (·.2)) (by rw[<- l];exact rel.val k)
 obtain⟨p,hp,rfl⟩:=Option.map_eq_some_iff.mp hw
 exact wpAny_getItem_heap (tupleKind_room_in1 hu) (key_sq I eb) dd hp (h _ _ (I.tok _) rw')
def tDGetT(K:W.Frag)(td ty:TE):TE:=fun σ H Q=>td σ H fun x H1=>ty σ H1 fun y H2=>∃ a b kvs k v,x=.ref a/\y=.ref b/\H2 a=some (.dT kvs)/\SqT K H2 b (k.map kV)/\valV kvs k=some v/\Q v H2
theorem pe_dgetT{o i:Expr}{td ty:TE}{pos:Pos}(hu:X.A.units+1<cLine)(ho:PE X o td)(hi:PE X i ty)(hs:NoSl i):PE X (.Subscript o i pos) (tDGetT X.K td ty):=by
 intro pins s σ H Q I h
 refine subD_of PySem.F.slot_dict_getitem.lookup hs (thn (ho pins s σ H _ I h) fun u s1 ⟨x,H1,I1,rx,q1⟩=>thn (hi pins s1 σ H1 _ I1 q1) fun iv s2 ⟨y,H2,I2,ry,a,b,kvs,k,v,ex,ey,e,sq,l,q2⟩=>?_)
 subst ex ey
 cases(show u=Value.ref a from rx)
 cases(show iv=Value.ref b from ry)
 exact⟨(isD_at I2 (.inr ⟨_,.inl e⟩)).1,dt_getItem hu I2 e sq l fun w' s3 I3 rw'=>⟨v,H2,I3,rw',q2⟩⟩
end
section
variable {A:AC} {X:Cx} {b:Expr} {tb:TD} {pos:Pos}
def dIxT(i:Nat)(tb:TD):TD:=fun rho n P=>∃ ks es,rho[i]?=some (some (.owT ks es))/\tb rho n fun d n1=>∃ (k:Int × Int) (c:D),d=.tup [.int k.1,.int k.2]/\atP ks es k=some c/\P c n1
@[simp] theorem q_dIxT{i tb rho n P}:dIxT i tb rho n P=∃ ks es,rho[i]?=some (some (.owT ks es))/\tb rho n fun d n1=>∃ (k:Int × Int) (c:D),d=.tup [.int k.1,.int k.2]/\atP ks es k=some c/\P c n1:=rfl
theorem pd_ixT{i l:Nat}{x:Str}{px:Pos}(hr:Room l X.A)(hK:X.K=A.K)(hb:PD A X b tb)(hs:NoSl b)(hN:X.N[i]?=some x:=by rfl)(hv:Vis X.env.scope x:=by first | exact Or.inl rfl | exact Or.inr (Or.inl rfl) | exact Or.inr (Or.inr rfl))(hd:(x == ("__debug__" : Str))=false:=by decide)
  (hcd:(x == ("__classdict__" : Str))=false:=by decide):PD A X (.Subscript (.Name x px) b pos) (dIxT i tb):=by
 with_unfolding_all
  exact(pe_dgetT (by have:=hr.un;lia) (pe_var hN hv hd hcd) hb hs).imp fun sg H Q h=>by
   obtain⟨rho,n,P,ds,vs,⟨os,I⟩,⟨ks,es,hi,ht⟩,hQ⟩:=h
   obtain⟨a,xs,e1,hH,hl,rs,_⟩:=I.ownT hi
   refine⟨.ref a,e1,rho,n,_,ds,vs,⟨os,I⟩,ht,fun v H' n' d ⟨os',J⟩ k=>?_⟩
   obtain⟨k,c,rfl,hc,k2⟩:=k
   obtain⟨J1,r⟩:=J.pop
   obtain⟨a',xs',e2,hH',hl',rs',_⟩:=J1.ownT hi
   rw[e1] at e2
   cases e2
   obtain⟨b',rfl,sq⟩:=pair_of r
   obtain⟨w,hw',rw'⟩:=rs'.atP hc
   exact⟨a,b',_,kP k,w,rfl,rfl,hH',by rw[hK];exact sq,by rw[atP_val];exact hw',hQ w H' n' c ⟨os',J1.push rw'⟩ k2⟩
end
end L2
namespace L2
abbrev TFT:=List D->Nat->(List (Int × Int)->List D->Nat->Prop)->Prop
def spT(K:W.Frag)(k:Nat)(t:TFT):Sp:=fun vs H Q _=>∃ (G:Option Addr) (Z:Addr->Prop) (n:Nat) (P:List (Int × Int)->List D->Nat->Prop) (ds:List D),ds.length=k/\Reps K G Z H ds vs/\StOk G n H/\(∀ a,G=some a->Z a)/\ZOk K G Z H/\t ds n P /\
 ∀ p H' n' ks es xs,(∀ a o,G≠some a->H a=some o->H' a=some o)->StOk G n' H'->H' p=none->ks.length=xs.length->Reps K G Z H' es xs->P ks es n'->Q (.ref p) (upd H' p (.dT (kvsT ks xs)))
structure FnT(P:Program)(w:World)(K:W.Frag)(mg:Str->Option Value)(base:Heap)(x:Str)(kk k:Nat)(t:TFT):Prop where
 ex:∃ f fd ps,FnOk P w K mg base CX0 kk f fd ps (spT K k t)/\mg x=some (.ref f)/\W.keepIn K (.ref f)=true/\Binds K fd ps []
section
variable {A:AC} {X:Cx} {e:Expr} {es:List Expr} {t1:TAD} {pos p pos2:Pos}
theorem AmO.setOwnT{os:List (Nat × Addr)}{n:Nat}{rho:Rho}{sg:St}{H:Hp}{ds es:List D}{vs xs:List V}{i:Nat}{p:Addr}{ks:List (Int × Int)}(I:AmO A os n rho sg H ds vs)(hi:i<rho.length)(hp:H p=none)(hl:ks.length=xs.length)(r:Reps A.K A.G (Zof A os) H es xs) :
  ∃ os',AmO A os' n (rho.set i (some (.owT ks es))) (sg.set i (some (.ref p))) (upd H p (.dT (kvsT ks xs))) ds vs:=by
 have hf:∀ a u,H a=some u->upd H p (.dT (kvsT ks xs)) a=some u:=fun a u e=>by rw[zm (zy e hp)];exact e
 refine⟨(i,p)::os.filter fun q=>decide (q.1≠i),?_⟩
 have zz:∀ a,H a≠none->Zof A ((i,p)::os.filter fun q=>decide (q.1≠i)) a->Zof A os a:=fun a ha z=>by
  rcases z with z | ⟨q,hq,e⟩
  ·exact .inl z
  ·rcases List.mem_cons.mp hq with rfl | hq
   ·exact absurd (by rw[<- e];exact hp) ha
   ·exact .inr ⟨q,(List.mem_filter.mp hq).1,e⟩
 have h0:A.H0 p=none:=by
  cases q:A.H0 p with
  | none=>rfl
  | some o =>
   by_cases e:A.G=some p
   ·obtain ⟨x, y, z, w, _⟩ := I.st p e
    rw[w] at hp;cases hp
   ·have := I.fr p o e q
    rw[this] at hp;cases hp
 refine⟨by simp[I.len],fun j c e=>?_,Reps.mono zz (fun a u _ e=>hf a u e) _ _ I.pend,?_,fun q hq=>?_,fun a e=>?_,I.gz,fun a u h e=>hf a u (I.fr a u h e),I.z0⟩
 ·by_cases hj : j = i
  ·subst hj
   rw[getElem?_set_self hi] at e
   cases e
   exact⟨.ref p,getElem?_set_self (by rw[<- I.len];exact hi),p,xs,rfl,mem_cons_self,zw,hl,Reps.mono zz (fun a u _ e=>hf a u e) _ _ r⟩
  ·rw [List.getElem?_set_ne (Ne.symm hj)] at e
   obtain⟨u,e1,e2⟩:=I.slot j c e
   exact⟨u,by rw[getElem?_set_ne (Ne.symm hj)];exact e1,SlotR.mono zz (fun a u _ e=>hf a u e) (fun a ys m q=>⟨mem_cons_of_mem _ (List.mem_filter.mpr ⟨m,by simpa using hj⟩),hf a _ q⟩) _ _ e2⟩
 ·refine List.pairwise_cons.mpr ⟨fun q hq => ?_, I.nd.filter _⟩
  obtain⟨m1,m2⟩:=List.mem_filter.mp hq
  refine⟨fun z=>by simp[<- z] at m2,fun z=>(I.fresh q m1).2.2.ne ?_⟩
  have z':p=q.2:=z
  rw[<- z'];exact hp
 ·rcases List.mem_cons.mp hq with rfl | hq
  ·exact⟨h0,fun z=>(I.z0.1 p z).ne h0,by show Hot (upd H p _ p);rw[zw];exact Hot.dT⟩
  ·obtain ⟨f1, f2, f3⟩ := I.fresh q (List.mem_filter.mp hq).1
   exact⟨f1,f2,f3.of fun u w=>hf _ _ w⟩
 ·obtain ⟨x, y, z, q, rr⟩ := I.st a e
  exact⟨x,y,z,hf _ _ q,rr⟩
def sSetT(i k:Nat)(t:TFT)(t1:TAD):TSD:=fun F rho n=>i<rho.length/\t1 rho n fun es n1=>es.length=k/\t es n1 fun ks vs n2=>F.nx (rho.set i (some (.owT ks vs))) n2
@[simp] theorem q_sSetT{i k t t1 F rho n}:sSetT i k t t1 F rho n=(i<rho.length/\t1 rho n fun es n1=>es.length=k/\t es n1 fun ks vs n2=>F.nx (rho.set i (some (.owT ks vs))) n2):=rfl
theorem psd_setT{i kk k:Nat}{x y:Str}{pos':Pos}{t:TFT}(F:FnT X.prog X.w X.K X.mg X.base y kk k t)(hr:Room kk X.A)(hK:X.K=A.K)(hN:X.N.Nodup)(hi:X.N[i]?=some x)(hx:Loc X.env.scope x)(ha:PAD A X (e::es) t1)(hg:Gl X y:=by rfl)(hdb:(y == ("__debug__" : Str))=false:=by decide)
  (he:starEach (e::es) X.env=(false,eval e X.env)::starEach es X.env:=by rfl) (hpl:(backTo pos (starEach es X.env)).any (·.1)=false:=by rfl) (hf:X.fn x=true\/X.env.scope.names.lookup x=some .local:=by first | exact .inl rfl | exact .inr rfl | assumption)
  (hs:swapsWith (.Call (.Name y p) (e::es) [] pos) (some (.Name x pos')) pos2.line X.env=pure false:=by rfl):PSD A X (.Assign [.Name x pos'] (.Call (.Name y p) (e::es) [] pos) pos2) (sSetT i k t t1):=by
 obtain⟨f,fd,ps,F,hm,hk,hb⟩:=F.ex
 with_unfolding_all
  exact(ps_set hN hi hx (pe_call F hr hg hm hk hb .nil pass0 ha hdb he hpl) hs hf).imp fun E sg H h=>by
   obtain⟨rho,n,R,ds,vs,I,⟨hl,ht⟩,ok⟩:=h
   refine⟨rho,n,_,ds,vs,I,ht,fun ws H' n' es' ⟨os,J⟩ hle k=>?_⟩
   obtain⟨J1,rs⟩:=J.split hle
   rw[append_nil,hK]
   exact⟨A.G,Zof A os,n',_,es',k.1,rs,J1.st,fun a z=>.inl (J1.gz a z),J1.zO,k.2,fun p H2 n2 ks es2 xs fr st hp hlx r q=>ok.nx _ _ _ _ ((J1.called fr st).setOwnT hl hp hlx r) q⟩
end
end L2
namespace L2
def hashP(k:Int × Int):Int:=reduceHash (Builtin.Tuple.tupleHashOf [hashInt k.1,hashInt k.2])
theorem hashP_eq{P:Program}{w:World}(k:Int × Int):(tupleKind (zB P w)).hash (kP k)=hashP k:=rfl
theorem kvsT_append:∀ {ks ks2:List (Int × Int)} {xs xs2:List V},ks.length=xs.length->kvsT (ks++ks2) (xs++xs2)=kvsT ks xs++kvsT ks2 xs2
 | [],_,[],_,_=>rfl
 | k::ks,ks2,x::xs,xs2,h=>by
  have ih:=kvsT_append (ks:=ks) (ks2:=ks2) (xs:=xs) (xs2:=xs2) (by simpa using h)
  simp only[kvsT,List.cons_append,zipWith_cons_cons] at ih ⊢
  rw[ih]
theorem kvsT_keys:∀ {ks:List (Int × Int)} {xs:List V},ks.length=xs.length->(kvsT ks xs).map (·.1)=ks.map kP
 | [],[],_=>rfl
 | k::ks,x::xs,h=>by
  have ih:=kvsT_keys (ks:=ks) (xs:=xs) (by simpa using h)
  simp only[kvsT,zipWith_cons_cons,map_cons] at ih ⊢
  rw[ih]
theorem putT_new{kvs:List (List Key × V)}{k:List Key}{v:V}(h:k ∉ kvs.map (·.1)):putK kvs k v=kvs++[(k,v)]:=by
 unfold putK
 rw[if_neg]
 intro z
 obtain⟨x,hx,e⟩:=List.any_eq_true.mp z
 exact h (List.mem_map.mpr ⟨x,hx,by simpa using e⟩)
theorem mergeT_new:∀ (more kvs:List (List Key × V)),((kvs++more).map (·.1)).Nodup->mergeT kvs more=kvs++more
 | [],kvs,_=>by simp[mergeT]
 | m :: more, kvs, h => by
  have h0:m.1 ∉ kvs.map (·.1):=by
   rw[map_append,nodup_append] at h
   exact fun z=>h.2.2 _ z _ (by simp) rfl
  have e:mergeT kvs (m::more)=mergeT (putK kvs m.1 m.2) more:=rfl
  rw[e,putT_new h0,mergeT_new more (kvs++[(m.1,m.2)]) (by simpa using h)]
  simp
theorem nodup_kP{ks:List (Int × Int)}(h:ks.Nodup):(ks.map kP).Nodup:=by
 induction ks with
 | nil=>exact nodup_nil
 | cons k ks ih =>
  obtain⟨h1,h2⟩:=List.nodup_cons.mp h
  refine List.nodup_cons.mpr ⟨fun z=>?_,ih h2⟩
  obtain⟨y,hy,e⟩:=List.mem_map.mp z
  exact h1 (kP_inj e ▸ hy)
theorem map_fst{α β γ:Type}(f:α->γ)(l:List (α × β)):(l.map fun x=>f x.1)=(l.map (·.1)).map f:=by simp
theorem map_all{α β γ:Type}(f:β->γ)(g:α->β)(h:α->γ)(e:∀ x,f (g x)=h x)(l:List α):(l.map g).map f=l.map h:=by
 induction l with
 | nil=>rfl
 | cons x l ih=>rw[map_cons,map_cons,map_cons,ih,e]
theorem hashes{P:Program}{w:World}{ks:List (Int × Int)}{xs:List V}(h:ks.length=xs.length):((kvsT ks xs).map fun kv=>(tupleKind (zB P w)).hash kv.1)=ks.map hashP:=by
 rw[map_fst (tupleKind (zB P w)).hash (kvsT ks xs),kvsT_keys h]
 exact map_all _ _ _ hashP_eq ks
theorem mergeT_kvs{ks ks2:List (Int × Int)}{xs xs2:List V}(nd:(ks++ks2).Nodup)(h:ks.length=xs.length)(h2:ks2.length=xs2.length):mergeT (kvsT ks xs) (kvsT ks2 xs2)=kvsT (ks++ks2) (xs++xs2):=by
 rw[mergeT_new _ _ (by rw[<- kvsT_append h,kvsT_keys (by rw[length_append,length_append,h,h2])];exact nodup_kP nd),kvsT_append h]
section
variable {A:AC} {X:Cx} {e:Expr} {es:List Expr} {t1:TAD} {pos p pos2:Pos}
def sUpdT(i k:Nat)(t:TFT)(t1:TAD):TSD:=fun F rho n=>∃ ks es,rho[i]?=some (some (.owT ks es))/\t1 rho n fun as n1=>as.length=k/\t as n1 fun ks2 es2 n2=>(ks++ks2).Nodup/\ks.length+ks2.length<=sizeLine/\(ks=[]->(ks2.map hashP).Nodup) /\
 F.nx (rho.set i (some (.owT (ks++ks2) (es++es2)))) n2
@[simp] theorem q_sUpdT{i k t t1 F rho n}:sUpdT i k t t1 F rho n=∃ ks es,rho[i]?=some (some (.owT ks es))/\t1 rho n fun as n1=>as.length=k/\t as n1 fun ks2 es2 n2=>(ks++ks2).Nodup/\ks.length+ks2.length<=sizeLine/\(ks=[]->(ks2.map hashP).Nodup) /\
 F.nx (rho.set i (some (.owT (ks++ks2) (es++es2)))) n2:=rfl
theorem psd_updT{i kk k:Nat}{x y:Str}{px apos cpos cp:Pos}{t:TFT}(F:FnT X.prog X.w X.K X.mg X.base y kk k t)(hr:Room kk X.A)(hK:X.K=A.K)(ha:PAD A X (e::es) t1)(hN:X.N[i]?=some x:=by rfl)(hv:Vis X.env.scope x:=by first | exact Or.inl rfl | exact Or.inr (Or.inl rfl) | exact Or.inr (Or.inr rfl))
  (hd:(x == ("__debug__" : Str))=false:=by decide) (hcd:(x == ("__classdict__" : Str))=false:=by decide) (hg:Gl X y:=by rfl) (hdb:(y == ("__debug__" : Str))=false:=by decide)
  (he:starEach (e::es) X.env=(false,eval e X.env)::starEach es X.env:=by rfl) (hpl:(backTo cp (starEach es X.env)).any (·.1)=false:=by rfl)
  (mm:M1 X (.Name x px) "update" apos (.Call (.Name y p) (e::es) [] cp) cpos:=by exact⟨rfl,rfl,rfl,rfl⟩)
  (hsw:swapsWith (.Call (.Attribute (.Name x px) "update" apos) [.Call (.Name y p) (e::es) [] cp] [] cpos) none pos.line X.env=pure false:=by rfl) :
  PSD A X (.Expr (.Call (.Attribute (.Name x px) "update" apos) [.Call (.Name y p) (e::es) [] cp] [] cpos) pos) (sUpdT i k t t1):=by
 obtain⟨f,fd,ps,F,hm,hk,hb⟩:=F.ex
 with_unfolding_all
  exact(ps_expr (pe_dupdT (by have:=hr.un;lia) (pe_var hN hv hd hcd) (pe_call F hr hg hm hk hb .nil pass0 ha hdb he hpl) mm) hsw).imp fun E sg H h=>by
   obtain⟨rho,n,R,ds,vs,⟨os,I⟩,⟨ks,es,hi,ht⟩,ok⟩:=h
   obtain⟨a,xs,e1,hH,hl,rs,_⟩:=I.ownT hi
   refine⟨.ref a,e1,a,rfl,.inr ⟨_,.inl hH⟩,rho,n,_,ds,vs,⟨os,I⟩,ht,fun ws H' n' es' ⟨os',J⟩ hle k=>?_⟩
   obtain⟨J1,rs'⟩:=J.split hle
   rw[append_nil,hK]
   refine⟨A.G,Zof A os',n',_,es',k.1,rs',J1.st,fun a z=>.inl (J1.gz a z),J1.zO,k.2,fun p H2 n2 ks2 es2 xs2 fr st hp hlx r q=>?_⟩
   obtain⟨nd,hz,hh,q⟩:=q
   have J2:=J1.called fr st
   obtain⟨a4,xs4,e4,hH4,_⟩:=J2.ownT hi
   obtain⟨a3,xs3,e3,hH3,hl3,rs3,up⟩:=(J2.grow (o:=.dT (kvsT ks2 xs2)) hp).ownT hi
   rw[e1] at e3 e4
   cases e3
   cases e4
   have hap:a≠p:=fun z=>by rw[z,hp] at hH4;cases hH4
   have z1:=kvsT_len hl3
   have z2:=kvsT_len hlx
   refine⟨kvsT ks xs3,kvsT ks2 xs2,p,hH3,rfl,hap,zw,by rw[z1,z2];exact hz,fun e0=>?_,?_⟩
   ·have e5 : ks = [] := List.length_eq_zero_iff.mp (by rw [<- z1, e0]; rfl)
    rw[hashes hlx]
    exact hh e5
   ·rw [mergeT_kvs nd hl3 hlx]
    refine ok.nx _ _ _ _ ⟨os',up (ks++ks2) (es++es2) (xs3++xs2) (by rw[length_append,length_append,hl3,hlx]) (rs3.append ?_)⟩ q
    exact Reps.mono (fun _ _ z=>z) (fun a u _ e=>by rw[zm (zy e hp)];exact e) _ _ r
end
end L2
namespace L2
def accT(acc:List (List Key × Addr × V)):List (List Key × V):=acc.map fun x=>(x.1,x.2.2)
def IsDT(P:Program)(w:World)(ob:Obj)(xs:List (List Key × Addr × Value)):Prop:=ob.ExactDict/\∃ es ep,ob.data=.dict es ep/\es.toList=xs.map (entryOfKey (tupleKind (zB P w)))/\(xs.map (·.1)).Nodup
abbrev KA:List (List Key × Addr × V)->List (List Key × Addr × Value)->Prop:=Paired fun p q=>p.1=q.1/\p.2.1=q.2.1/\RelV p.2.2 q.2.2
theorem KA.kt{H:Hp}{acc:List (List Key × Addr × V)}{xs:List (List Key × Addr × Value)}(r:KA acc xs):(∀ x∈acc,H x.2.1=some (.tup (x.1.map kV)))->KT H (accT acc) xs:=by
 induction r with
 | nil=>exact fun _=>.nil
 | @cons p q ps qs hq t ih=>exact fun h=>.cons ⟨hq.1,by rw[<- hq.2.1];exact h p mem_cons_self,hq.2.2⟩ (ih fun x hx=>h x (mem_cons_of_mem _ hx))
theorem KA.back{acc:List (List Key × Addr × V)}{xs:List (List Key × Addr × Value)}(r:KA acc xs):∀ x∈xs,∃ p∈acc,p.1=x.1/\p.2.1=x.2.1:=by
 induction r with
 | nil=>intro x hx;cases hx
 | @cons p q ps qs hq t ih =>
  intro x hx
  rcases List.mem_cons.mp hx with e | hx
  ·subst e;exact⟨p,mem_cons_self,hq.1,hq.2.1⟩
  ·obtain ⟨p', h1, h2⟩ := ih x hx
   exact⟨p',mem_cons_of_mem _ h1,h2⟩
theorem KA.keys{acc:List (List Key × Addr × V)}{xs:List (List Key × Addr × Value)}(r:KA acc xs):acc.map (·.1)=xs.map (·.1):=by
 induction r with
 | nil=>rfl
 | @cons p q ps qs hq t ih=>rw[map_cons,map_cons,ih,hq.1]
theorem KA.put{acc:List (List Key × Addr × V)}{xs:List (List Key × Addr × Value)}(r:KA acc xs)(k:List Key)(b:Addr){v:V}{u:Value}(h:RelV v u):KA (acc++[(k,b,v)]) (xs++[(k,b,u)]):=by
 induction r with
 | nil=>exact .cons ⟨rfl,rfl,h⟩ .nil
 | @cons p q ps qs hq t ih=>exact .cons hq ih
section
variable {X:Cx} {scope:Scope} {own M:List Str} {pins:List (Addr × Obj)} {σ:St} {H2:Hp} {s2:Shared} {tg iter kx vx:Expr} {ifs:List Expr} {pos:Pos} {g:TG} {tt:TT} {tk tv:TE}
theorem dcomp_coreT(ok:CompOk X scope M)(hun:X.A.units<cLine)(hc:X.calm=true)(hg:∀ C s2 H2 fp,PG (zr X scope own M C s2 H2 fp) tg g)(ht:∀ C s2 H2 fp,PTs (zr X scope own M C s2 H2 fp) ifs tt)(hek:∀ C s2 H2 fp,PE (zr X scope own M C s2 H2 fp) kx tk)(he:∀ C s2 H2 fp,PE (zr X scope own M C s2 H2 fp) vx tv)
  (I2:Inv X pins σ H2 s2) {it:Addr} {fp:List Addr} {tn:Nat->Heap->Prop} {J:It} (T:Turn X.prog X.w X.K tg J fp it tn) (st2:tn 0 s2.heap) (f2:∀ b∈fp,FpOk X pins H2 b)
  {W:Nat->Nat->List (List Key × Addr × V)->Hp->Prop} (w0:∃ m,W 0 m [] H2) (wk:∀ i m acc H,W i m acc H->∀ x∈acc,H x.2.1=some (.tup (x.1.map kV))) {Qf:V->Hp->Prop}
  (turn : ∀ i m acc H, W i m acc H -> (J.stop i H /\ acc.length <= sizeLine /\ ∀ D, H D = none -> Qf (.ref D) (upd H D (.dT (accT acc)))) \/
   (J.go i H /\ acc.length < sizeLine /\ ∀ x H', J.yld i H x H' -> g x (List.replicate own.length none ++ σ) H' fun σ2 H2 => σ2.drop own.length = σ /\ tt σ2 H2 fun c H3 =>
    if c=true then tk σ2 H3 fun y H4=>tv σ2 H4 fun v H5=>∃ k b m',y=.ref b/\k ∉ acc.map (·.1)/\m'<m/\W (i+1) m' (acc++[(k,b,v)]) H5 else ∃ m',m'<m/\W (i+1) m' acc H3))
  {RR:Value->Addr->Result->Shared->Prop} {E:Value->Shared->Prop}
  (fin:∀ D C H' s' m,Inv X pins σ H' s'->Qf (.ref D) H'->s'.heap.Ns C m->H' C=none->C≠X.env.locals->X.s₀.heap.objs.size<=C->(∀ x c,X.env.cells.lookup x=some c->c≠C)->(∀ p∈X.pn++pins,p.1≠C)->RR (.ref D) C (.ok .next) s') :
  wpAny (model X.prog X.w) X.A newDict (fun acc s3=>wpAny (model X.prog X.w) X.A (newFunctionEnv scope X.env.globals (closL X.env scope.names []) [] X.env.qual none .none (some X.env)) (fun cenv s4 =>
   codeAny (model X.prog X.w) X.A (.compStart (.DictComp kx vx [⟨tg,iter,ifs,0⟩] scope pos) 0 (.ref it) acc { cenv with scope:=relabel scope X.env }) (RR acc cenv.locals) s4) E s3) E s2:=by
 refine wpAny_newObj_type (newEnv_comp ?_)
 have zC:(s2.heap.push { cls:=.type "dict",dict:=none,data:=.dict #[] }).objs.size=s2.heap.objs.size+1:=Heap.size_push ..
 dsimp only
 rw[zC]
 generalize hC:s2.heap.objs.size+1=C
 generalize hh:pushCells ((s2.heap.push { cls:=.type "dict",dict:=none,data:=.dict #[] }).push { cls:=.type "dict",data:=.dict #[] }) scope.names=h4
 have fpl:∀ b∈fp,FpOk X pins H2 b/\b<s2.heap.objs.size:=fun b hb=>by
  obtain⟨o,e,_⟩:=T.obj 0 _ st2 b hb
  exact⟨f2 b hb,Heap.lt_size e⟩
 have I4:Inv (zr X scope own M C s2 H2 fp) [] (replicate own.length none++σ) H2 { s2 with heap:=h4 }:=inv_compD (o0:={ cls:=.type "dict",dict:=none,data:=.dict #[] }) ok hc I2 fpl hC.symm hh.symm
 generalize hX:zr X scope own M C s2 H2 fp=X' at I4
 have keep4:∀ b o,s2.heap.get? b=some o->h4.get? b=some o:=fun b o e=>by
  rw[<- hh];exact pushCells_keeps _ _ _ _ (Heap.get?_push_of_some _ (Heap.get?_push_of_some _ e))
 have hD4:h4.get? s2.heap.objs.size=some { cls:=.type "dict",dict:=none,data:=.dict #[] }:=by
  rw[<- hh];exact pushCells_keeps _ _ _ _ (Heap.get?_push_of_some _ (Heap.get?_push_size _ rfl))
 have isD0:IsDT X.prog X.w { cls:=.type "dict",dict:=none,data:=.dict #[] } []:=⟨⟨rfl,rfl,rfl⟩,#[],0,rfl,rfl,nodup_nil⟩
 have dsys:(s2.heap.objs.size == sysModules)=false:=(dk_empty (P:=X.prog) (w:=X.w) (H:=H2) s2.heap I2.big).2.1
 have st4:tn 0 h4:=T.keep _ _ _ st2 fun b hb o e=>keep4 b o e
 have gg:PG X' tg g:=by rw[<- hX];exact hg C s2 H2 fp
 have gt:PTs X' ifs tt:=by rw[<- hX];exact ht C s2 H2 fp
 have gk:PE X' kx tk:=by rw[<- hX];exact hek C s2 H2 fp
 have ge:PE X' vx tv:=by rw[<- hX];exact he C s2 H2 fp
 have xP:X'.prog=X.prog:=by rw[<- hX];rfl
 have xw:X'.w=X.w:=by rw[<- hX];rfl
 have xK:X'.K=X.K:=by rw[<- hX];rfl
 have xA:X'.A=X.A:=by rw[<- hX];rfl
 have xc:X'.calm=true:=by rw[<- hX];exact hc
 have xpn:X'.pn=[]:=by rw[<- hX];rfl
 have xs:X'.s₀=s2:=by rw[<- hX];rfl
 have xH:X'.H₀=H2:=by rw[<- hX];rfl
 have xL:X'.env.locals=C:=by rw[<- hX];rfl
 have xfs:X'.fs=frs X.stack:=by rw[<- hX];rfl
 have xex:X'.ex=fp:=by rw[<- hX];rfl
 have xe:X'.xe=fun _ _=>False:=by rw[<- hX];rfl
 have xenv:({ newEnv scope C X.env.globals (cellsFrom (C+1) scope.names (closL X.env scope.names [])) X.env.qual none .none (some X.env) builtinsNs with scope:=relabel scope X.env }:Env)=X'.env:=by rw[<- hX];rfl
 have Dlt:s2.heap.objs.size<C:=by rw[<- hC];exact Nat.lt_succ_self _
 have fpb:∀ {pl:List (Addr × Obj)} {H:Hp},(∀ b∈fp,H b=none)->(∀ p∈pl,p.1 ∉ fp)->∀ b∈fp,FpOk X' pl H b:=fun {pl H} hn hpl b hb=>by
  refine⟨hn b hb,?_,?_,.inl (by rw[xex];exact hb),fun x c e=>(I4.ok.exf b (by rw[xex];exact hb)).2 x c e,fun p hp z=>?_⟩
  ·exact(I4.ok.exf b (by rw[xex];exact hb)).1
  ·exact I4.ok.exfs b (by rw[xex];exact hb)
  ·rw [xpn, List.nil_append] at hp
   exact hpl p hp (by rw[z];exact hb)
 have Dfp:s2.heap.objs.size ∉ fp:=fun z=>Nat.lt_irrefl _ (fpl _ z).2
 have DC:s2.heap.objs.size≠C:=Nat.ne_of_lt Dlt
 have Dcell:∀ x c,X'.env.cells.lookup x=some c->c≠s2.heap.objs.size:=fun x c e z=>by
  obtain⟨v,o,q,hd⟩:=I4.cell x c e
  rw[z] at q
  have q':h4.get? s2.heap.objs.size=some o:=q
  rw[hD4] at q'
  cases q'
  cases hd
 have Dfs:s2.heap.objs.size ∉ X'.fs:=fun z=>by
  obtain⟨_,o,ho,_⟩:=I4.ok.funs.mem (by exact z)
  rw[xs] at ho
  exact Nat.lt_irrefl _ (Heap.lt_size ho)
 rw[xenv]
 have goal:∀ s5:Shared,s5={ s2 with heap:=h4 }->codeAny (model X.prog X.w) X.A (.compLoop (.DictComp kx vx [⟨tg,iter,ifs,0⟩] scope pos) 0 (.ref it) (.ref s2.heap.objs.size) X'.env) (RR (.ref s2.heap.objs.size) C) s5:=by
  rintro s5 rfl
  obtain⟨m0,w0⟩:=w0
  refine dcomp_loop (fun n s'=>∃ i acc σ' H' ob vs,Inv X' [] σ' H' s'/\σ'.drop own.length=σ/\tn i s'.heap/\(∀ b∈fp,H' b=none)/\H' s2.heap.objs.size=none /\
   s'.heap.get? s2.heap.objs.size=some ob/\IsDT X.prog X.w ob vs/\KA acc vs/\W i n acc H') ?_ m0
   ⟨0,[],_,H2,_,[],I4,by simp,st4,fun b hb=>(f2 b hb).1,I2.hok.fresh (Nat.le_refl _),hD4,isD0,.nil,w0⟩
  rintro n s3 ⟨i,acc,σ3,H3,ob,vs,I3,hσ,st3,fr3,hD,hDo,isD,rv,w3⟩
  have noc:∀ v,ob.data≠.cell v:=fun v z=>by
   obtain⟨_,es,ep,e,_⟩:=isD
   rw[e] at z;cases z
  have pinD:∀ {H:Hp} {s:Shared} {σ:St},Inv X' [] σ H s->H s2.heap.objs.size=none->s.heap.get? s2.heap.objs.size=some ob ->
    Inv X' [(s2.heap.objs.size,ob)] σ H s:=fun {H s σ} I hn ho=>I.pins_of fun p hp=>by
   have e:p=(s2.heap.objs.size,ob):=by simpa using hp
   subst e
   exact⟨ho,hn,by rw[xL];exact DC,Dfs,noc⟩
  have plD:∀ p∈[((s2.heap.objs.size,ob):Addr × Obj)],p.1 ∉ fp:=fun p hp=>by
   have e:p=(s2.heap.objs.size,ob):=by simpa using hp
   subst e
   exact Dfp
  have I3':=pinD I3 hD hDo
  rcases turn i n acc H3 w3 with ⟨stop,hsz,q⟩ | ⟨go,hsz,step⟩
  ·have := T.done X' xP xw xK xc i _ s3 σ3 H3 (fun _ _ => False) I3' (fpb fr3 plD) st3 stop
   rw[xA] at this
   refine thn this fun r s4 ⟨hr,I5⟩=>?_
   subst hr
   have hDo5:=(I5.pin (s2.heap.objs.size,ob) (by rw[xpn];simp)).1
   have un:Un (frs X.stack) fp H2 H3 s2.heap s4.heap:=by
    have:=I5.base
    rw[xfs,xex,xH,xs] at this
    exact this
   have os:s4.os=s2.os:=by rw[I5.os,xs]
   have hok:HOk X.prog X.w H3 s4.heap:=by have:=I5.hok;rw[xP,xw] at this;exact this
   have IX:Inv X pins σ H3 s4:=I2.call' os un hok I5.bare fun b hb=>by
    obtain⟨_,f1,_,f3,f4,f5⟩:=f2 b hb
    exact⟨f3,f1,f4,f5⟩
   have old:∀ {b:Addr},s2.heap.objs.size<=b->(X.s₀.heap.objs.size<=b/\b≠X.env.locals/\(∀ x c,X.env.cells.lookup x=some c->c≠b)/\∀ p∈X.pn++pins,p.1≠b):=fun {b} hb=>by
    obtain⟨_,f1,_,f3,f4,f5⟩:=I2.fpOk (H':=fun _=>none) hb rfl
    exact⟨Nat.le_trans I2.sz hb,f1,f4,f5⟩
   obtain⟨d1,d2,d3,d4⟩:=old (Nat.le_refl s2.heap.objs.size)
   obtain⟨c1,c2,c3,c4⟩:=old (b:=C) (Nat.le_of_lt Dlt)
   have IY:Inv X pins σ (upd H3 s2.heap.objs.size (.dT (accT acc))) s4:=IX.track hD d1 d2 d3 d4 ⟨by unfold accT;rw[length_map];exact hsz,dsys,vs,rv.kt fun x hx=>by rw[zm (fun z=>by have:=wk i n acc H3 w3 x hx;rw[z,hD] at this;cases this)];exact wk i n acc H3 w3 x hx,(let ⟨hc,es,ep,h1,h2,h3⟩:=isD;⟨ob,es,ep,hDo5,hc,h1,h2,h3⟩)⟩
   obtain⟨m,hm,_⟩:=I5.loc
   rw[xL] at hm
   have hCn:H3 C=none:=by have:=I5.free;rw[xL] at this;exact this
   exact fin _ C _ s4 m IY (q _ hD) hm (by rw[zm (Ne.symm DC)];exact hCn) c2 c1 c3 c4
  ·have := T.item X' xP xw xK xc i _ s3 σ3 H3 (fun _ _ => False) I3' (fpb fr3 plD) st3 go
   rw[xA] at this
   refine thn this fun r s4 ⟨u,hr,h4⟩=>?_
   subst hr
   refine thn h4 fun _ s5 ⟨x,H5,I5,r5,y5,st5,fr5⟩=>?_
   have hσn:∀ (j:Nat) v,(replicate own.length none++σ)[j]?=some (some v)->σ3[j]?=some (some v):=fun j v e=>by
    by_cases hlt:j<own.length
    ·rw [List.getElem?_append_left (by simpa using hlt), List.getElem?_replicate, if_pos hlt] at e
     cases e
    ·have hle := Nat.le_of_not_lt hlt
     rw[getElem?_append_right (by simpa using hle),length_replicate,<- hσ,getElem?_drop] at e
     rw[show own.length+(j-own.length)=j by lia] at e
     exact e
   have hlen:(replicate own.length none++σ).length=σ3.length:=by
    have e1:σ3.length=X'.N.length:=I5.len
    have e2:=I4.len
    exact e2.trans e1.symm
   have I5w:Inv X' _ (replicate own.length none++σ) H5 s5:=I5.weak hlen hσn
   have I5p:=I5w.pinned (fpb fr5 plD) (T.obj _ _ st5)
   have a1:=gg _ s5 _ H5 x u _ I5p r5 (step x H5 y5)
   rw[xP,xw,xA,xe] at a1
   refine thn a1 fun _ s6 ⟨σ6,H6,I6,d6,q6⟩=>?_
   have a2:=gt _ s6 σ6 H6 _ I6 q6
   rw[xP,xw,xA,xe] at a2
   refine thn a2 fun b s7 ⟨H7,I7,q7⟩=>?_
   have pin7:∀ {H:Hp} {s:Shared},Inv X' ([((s2.heap.objs.size,ob):Addr × Obj)]++pinsAt fp s5.heap) σ6 H s ->
     (tn (i+1) s.heap/\(∀ b∈fp,H b=none)/\H s2.heap.objs.size=none/\s.heap.get? s2.heap.objs.size=some ob/\Inv X' [] σ6 H s):=fun {H s} I=>by
    refine⟨T.keep _ _ _ st5 fun b hb o e=>(I.pin (b,o) (mem_append_right _ (mem_append_right _ (mem_pinsAt hb e)))).1,fun b hb=>?_,?_,?_,I.pins_of fun p hp=>by simp at hp⟩
    ·obtain ⟨o, e, d⟩ := T.obj _ _ st5 b hb
     exact(I.pin (b,o) (mem_append_right _ (mem_append_right _ (mem_pinsAt hb e)))).2.1
    ·exact(I.pin (s2.heap.objs.size,ob) (by rw[xpn];simp)).2.1
    ·exact(I.pin (s2.heap.objs.size,ob) (by rw[xpn];simp)).1
   cases b with
   | false =>
    obtain⟨p1,p2,p3,p4,p5⟩:=pin7 I7
    obtain⟨m',hm,w7⟩:=q7
    exact⟨m',hm,i+1,acc,σ6,H7,ob,vs,p5,d6,p1,p2,p3,p4,isD,rv,w7⟩
   | true =>
    rw[if_pos rfl] at q7 ⊢
    have a3:=gk _ s7 σ6 H7 _ I7 q7
    rw[xP,xw,xA,xe] at a3
    refine thn a3 fun y s8 ⟨v,H8,I8,r8,q8⟩=>?_
    have a4:=ge _ s8 σ6 H8 _ I8 q8
    rw[xP,xw,xA,xe] at a4
    refine thn a4 fun y2 s9 ⟨v2,H9,I9,r9,q9⟩=>?_
    obtain⟨p1,p2,p3,p4,p5⟩:=pin7 I9
    obtain⟨kk,kb,m',ek,hnew,hm,w8⟩:=q9
    subst ek
    cases(show y=Value.ref kb from r8)
    have hl:=rv.length
    obtain⟨hc,es,ep,h1,h2,h3⟩:=isD
    have tup:∀ x∈acc++[(kk,kb,v2)],H9 x.2.1=some (.tup (x.1.map kV)):=wk _ _ _ _ w8
    have okH:HOk X.prog X.w H9 s9.heap:=by have:=I9.hok;rw[xP,xw] at this;exact this
    have his:∀ x∈vs,(tupleKind (zB X.prog X.w)).is s9.heap x.1 x.2.1:=fun x hx=>by
     obtain⟨p,hp,e1,e2⟩:=rv.back x hx
     have:=tup p (mem_append_left _ hp)
     rw[e1,e2] at this
     exact key_of okH this
    have hkb:(tupleKind (zB X.prog X.w)).is s9.heap kk kb:=key_of okH (tup (kk,kb,v2) (by simp))
    refine wpAny_dictSet_heap (hsz:=by lia) (knd:=tupleKind (zB X.prog X.w)) (by show X.A.units<cLine;exact hun) hkb ⟨ob,es,ep,p4,hc,h1,h2,his,h3⟩ fun h' dd' hs=>?_
    obtain⟨ob',es',ep',ho',hc',hd',he',hi',hn'⟩:=dd'
    have no:atKey vs kk=none:=atKey_no (by rw[<- rv.keys];exact hnew)
    rw[storedH_new no] at he' hi' hn'
    have I10:Inv X' [] σ6 H9 { s9 with heap:=h',toks:=s9.toks+(tupleKind (zB X.prog X.w)).draws kk }:=p5.turned (t':=s9.toks+(tupleKind (zB X.prog X.w)).draws kk) (fun b o hb e=>hs.extBut b o hb e) p3 (by rw[xL];exact DC) (.inr (by rw[xs];exact Nat.le_refl _)) Dcell (fun p hp=>by rw[xpn] at hp;simp at hp)
    exact⟨m',hm,i+1,acc++[(kk,kb,v2)],σ6,H9,ob',_,I10,d6,T.keep _ _ _ p1 fun b hb o e=>hs.extBut b o (fun z=>Dfp (by rw[<- z];exact hb)) e,p2,p3,ho',⟨hc',es',ep',hd',he',hn'⟩,rv.put kk kb r9,w8⟩
 exact codeAny_compStart_dict (goal _ rfl) (T.self _ 0 _ _ _ st4 (goal _ rfl))
def tDCompT(wi:TI)(own:Nat)(g:TG)(tt:TT)(tk tv:TE):TE:=fun σ H Q=>wi σ H fun J H1=>∃ W:Nat->Nat->List (List Key × Addr × V)->Hp->Prop,(∃ m,W 0 m [] H1)/\(∀ i m acc H,W i m acc H->∀ x∈acc,H x.2.1=some (.tup (x.1.map kV)))/\∀ i m acc H,W i m acc H ->
 (J.stop i H/\acc.length<=sizeLine/\∀ D,H D=none->Q (.ref D) (upd H D (.dT (accT acc)))) \/
 (J.go i H /\ acc.length < sizeLine /\ ∀ x H', J.yld i H x H' -> g x (List.replicate own none ++ σ) H' fun σ2 H2 => σ2.drop own = σ /\ tt σ2 H2 fun c H3 =>
  if c=true then tk σ2 H3 fun y H4=>tv σ2 H4 fun v H5=>∃ k b m',y=.ref b/\k ∉ acc.map (·.1)/\m'<m/\W (i+1) m' (acc++[(k,b,v)]) H5 else ∃ m',m'<m/\W (i+1) m' acc H3)
theorem pe_dcompT{wi:TI}(ok:CompOk X scope M)(hun:X.A.units<cLine)(hc:X.calm=true)(hi:PI X tg iter wi)(hg:∀ C s2 H2 fp,PG (zr X scope own M C s2 H2 fp) tg g)(ht:∀ C s2 H2 fp,PTs (zr X scope own M C s2 H2 fp) ifs tt)
  (hek:∀ C s2 H2 fp,PE (zr X scope own M C s2 H2 fp) kx tk) (he:∀ C s2 H2 fp,PE (zr X scope own M C s2 H2 fp) vx tv) (hs:∀ x,foldedSetIterable iter X.env x=pure x:=by intro _;rfl) :
  PE X (.DictComp kx vx [⟨tg,iter,ifs,0⟩] scope pos) (tDCompT wi own.length g tt tk tv):=by
 intro pins s σ H Q I h
 rw[eval_dcomp]
 refine wpAny_comprehension_free (use:=none) rfl hs (clos_for (ok.cells I)) ok.kind (fun x hx hl=>by rw[ok.uniq x hx,hl]) ?_
 refine thn (hi pins s σ H _ I h) fun v s1 h1=>thn h1 fun itv s2 h2=>?_
 obtain⟨it,fp,tn,J,H2,e,I2,T,st2,f2,W,w0,wk,turn⟩:=h2
 subst e
 refine dcomp_coreT (Qf:=Q) ok hun hc hg ht hek he I2 T st2 f2 w0 wk turn fun D C H' s' m IY q hm hCn c2 c1 c3 c4=>⟨m,hm,fun h' hs'=>?_⟩
 exact⟨.ref D,H',IY.turned (t':=s'.toks) (fun b o hb e=>hs'.extBut b o hb e) hCn c2 (.inr c1) c3 c4,rfl,q⟩
end
end L2
namespace L2
abbrev TDT:=Rho->Nat->(List (Int × Int)->List D->Nat->Prop)->Prop
def tOfT(A:AC)(t:TDT):TE:=fun sg H Q=>∃ rho n P ds vs,Am A n rho sg H ds vs/\t rho n P /\
 ∀ p H' n' ks es xs os,AmO A os n' rho sg H' ds vs->Reps A.K A.G (Zof A os) H' es xs->H' p=none->ks.length=xs.length->P ks es n'->Q (.ref p) (upd H' p (.dT (kvsT ks xs)))
@[irreducible] def PDT(A:AC)(X:Cx)(e:Expr)(t:TDT):Prop:=PE X e (tOfT A t)
def acc3:List (Int × Int)->List Addr->List V->List (List Key × Addr × V)
 | k::ks,b::bs,x::xs=>(kP k,b,x)::acc3 ks bs xs
 | _,_,_=>[]
theorem acc3_len:∀ {ks:List (Int × Int)} {bs:List Addr} {xs:List V},ks.length=bs.length->ks.length=xs.length->(acc3 ks bs xs).length=ks.length
 | [],[],[],_,_=>rfl
 | k::ks,b::bs,x::xs,h1,h2=>by
  show(acc3 ks bs xs).length+1=ks.length+1
  rw[acc3_len (by simpa using h1) (by simpa using h2)]
theorem acc3_keys:∀ {ks:List (Int × Int)} {bs:List Addr} {xs:List V},ks.length=bs.length->ks.length=xs.length->(acc3 ks bs xs).map (·.1)=ks.map kP
 | [],[],[],_,_=>rfl
 | k::ks,b::bs,x::xs,h1,h2=>by
  show kP k::(acc3 ks bs xs).map (·.1)=kP k::ks.map kP
  rw[acc3_keys (by simpa using h1) (by simpa using h2)]
theorem acc3_kvs:∀ {ks:List (Int × Int)} {bs:List Addr} {xs:List V},ks.length=bs.length->ks.length=xs.length->accT (acc3 ks bs xs)=kvsT ks xs
 | [],[],[],_,_=>rfl
 | k::ks,b::bs,x::xs,h1,h2=>by
  show(kP k,x)::accT (acc3 ks bs xs)=(kP k,x)::kvsT ks xs
  rw[acc3_kvs (by simpa using h1) (by simpa using h2)]
theorem acc3_snoc:∀ {ks:List (Int × Int)} {bs:List Addr} {xs:List V} (k:Int × Int) (b:Addr) (x:V),ks.length=bs.length->ks.length=xs.length->acc3 (ks++[k]) (bs++[b]) (xs++[x])=acc3 ks bs xs++[(kP k,b,x)]
 | [],[],[],_,_,_,_,_=>rfl
 | k'::ks,b'::bs,x'::xs,k,b,x,h1,h2=>by
  show(kP k',b',x')::acc3 (ks++[k]) (bs++[b]) (xs++[x])=(kP k',b',x')::(acc3 ks bs xs++[(kP k,b,x)])
  rw[acc3_snoc k b x (by simpa using h1) (by simpa using h2)]
theorem Rep.prT_inv{K:W.Frag}{G:Option Addr}{Z:Addr->Prop}{H:Hp}{v:V}{k:Int × Int}(h:Rep K G Z H (.prT k) v):∃ b,v=.ref b/\¬ Z b/\H b=some (.tup [.int k.1,.int k.2]):=by unfold Rep at h;exact h
theorem acc3_tup{K:W.Frag}{G:Option Addr}{Z:Addr->Prop}{H:Hp}:∀ {ks:List (Int × Int)} {bs:List Addr} {xs:List V},Reps K G Z H (ks.map D.prT) (bs.map V.ref)->∀ x∈acc3 ks bs xs,H x.2.1=some (.tup (x.1.map kV))
 | [],_,_,_,x,hx=>by cases hx
 | _::_,[],_,_,x,hx=>by cases hx
 | _::_,_::_,[],_,x,hx=>by cases hx
 | k :: ks, b :: bs, y :: xs, r, x, hx => by
  obtain⟨v,r',e,q,t⟩:=Reps.split r
  rw[map_cons] at e
  cases e
  rcases List.mem_cons.mp hx with e | hx
  ·subst e
   obtain⟨b',e,_,h⟩:=q.prT_inv
   cases e
   exact h
  ·exact acc3_tup t x hx
def dcompInT(own:Nat)(g:TGD)(tt:TBD)(tk tv:TD)(rho:Rho)(P:List (Int × Int)->List D->Nat->Prop)(items:List D)(n1:Nat):Prop:=items.length<=sizeLine/\∃ J:Nat->List (Int × Int)->List D->Nat->Prop,J 0 [] [] n1 /\
 (∀ i d ks es n,items[i]?=some d->J i ks es n->g d (replicate own none++rho) fun rho'=>rho'.drop own=rho/\tt rho' n fun c n2=>if c=true then tk rho' n2 fun dk n3=>tv rho' n3 fun dv n4=>∃ k,dk=.prT k/\k ∉ ks/\J (i+1) (ks++[k]) (es++[dv]) n4 else J (i+1) ks es n2) /\
 ∀ ks es n,J items.length ks es n->P ks es n
def dDCompT(it:TID)(own:Nat)(g:TGD)(tt:TBD)(tk tv:TD):TDT:=fun rho n P=>it rho n (dcompInT own g tt tk tv rho P)
section
variable {A:AC} {X:Cx} {it:TID} {g:TGD} {tt:TBD} {tk tv:TD} {tg iter kx vx:Expr} {ifs:List Expr} {scope:Scope} {own M:List Str} {pos:Pos}
theorem tDCompT_of{sg:St}{H:Hp}{Q:VK}{m:Nat}(h:tOfT A (dDCompT it m g tt tk tv) sg H Q):tDCompT (iOf A it) m (gOf A m g) (ttOf A tt) (tOf A tk) (tOf A tv) sg H Q:=by
 obtain⟨rho,n,P,ds,vs,I,ht,hQ⟩:=h
 refine⟨rho,n,_,ds,vs,I,ht,fun J H' n' items es ws I1 hl hJ k=>?_⟩
 obtain⟨hsz,W,w0,turn,fin⟩:=k
 refine⟨fun i mm acc H=>mm=items.length-i/\i<=items.length/\∃ ks bs accD xs n,acc=acc3 ks bs xs/\ks.length=bs.length/\ks.length=xs.length/\ks.length<=i/\xs.length=accD.length/\Am A n rho sg H (es++(ks.map D.prT++(accD++ds))) (ws++(bs.map V.ref++(xs++vs)))/\W i ks accD n,
  ⟨items.length,rfl,Nat.zero_le _,[],[],[],[],n',rfl,rfl,rfl,Nat.le_refl _,rfl,I1,w0⟩,?_,?_⟩
 ·rintro i mm acc H3 ⟨rfl, hi, ks, bs, accD, xs, n3, rfl, hkb, hkl, hai, hal, ⟨os, I3⟩, w3⟩ x hx
  obtain⟨I4,r1⟩:=I3.split hl
  obtain⟨I5,r2⟩:=I4.split (by simpa using hkb.symm)
  exact acc3_tup r2 x hx
 rintro i mm acc H3 ⟨rfl,hi,ks,bs,accD,xs,n3,rfl,hkb,hkl,hai,hal,⟨os,I3⟩,w3⟩
 have hlk:(acc3 ks bs xs).length=ks.length:=acc3_len hkb hkl
 have hlb:(bs.map V.ref).length=(ks.map D.prT).length:=by simpa using hkb.symm
 obtain⟨j1,j2⟩:=hJ n3 rho sg H3 (ks.map D.prT++(accD++ds)) (bs.map V.ref++(xs++vs)) i ⟨os,I3⟩
 by_cases hlt:i<items.length
 ·refine .inr ⟨(j1 items[i] (by simp [hlt])).1, by lia, fun x H4 y => ?_⟩
  obtain⟨os4,I4⟩:=(j1 items[i] (by simp[hlt])).2 x H4 y
  refine⟨replicate m none++rho,n3,_,items[i],_,_,⟨_,I4.front m⟩,turn i items[i] ks accD n3 (by simp[hlt]) w3,fun rho' sg' ⟨os5,I5⟩ e5 k5=>?_⟩
  obtain⟨k5,k6⟩:=k5
  have e6:sg'.drop m=sg:=by rw[e5,drop_left' (by simp)]
  refine⟨e6,rho',n3,_,_,_,⟨os5,I5⟩,k6,fun c H6 n6 ⟨os6,I6⟩ k7=>?_⟩
  cases c with
  | false =>
   obtain⟨os7,I7⟩:=I6.back k5 e6
   exact⟨items.length-(i+1),by lia,rfl,hlt,ks,bs,accD,xs,n6,rfl,hkb,hkl,by lia,hal,⟨os7,I7⟩,k7⟩
  | true =>
   rw[if_pos rfl] at k7 ⊢
   refine⟨rho',n6,_,_,_,⟨os6,I6⟩,k7,fun vk H8 n8 dk I8 k8=>?_⟩
   refine⟨rho',n8,_,_,_,I8,k8,fun v H9 n9 d ⟨os9,I9⟩ k9=>?_⟩
   obtain⟨kk,rfl,hnew,w9⟩:=k9
   obtain⟨os10,I10⟩:=I9.back k5 e6
   obtain⟨I11,rv⟩:=I10.pop
   obtain⟨I12,rk⟩:=I11.pop
   obtain⟨I13,r1⟩:=I12.split hl
   obtain⟨I14,r2⟩:=I13.split hlb
   obtain⟨I15,r3⟩:=I14.split hal
   obtain⟨b,rfl,_⟩:=rk.prT_inv
   refine⟨kP kk,b,items.length-(i+1),rfl,?_,by lia,rfl,hlt,ks++[kk],bs++[b],accD++[d],xs++[v],n9,(acc3_snoc kk b v hkb hkl).symm,by simp[hkb],by simp[hkl],by simp;lia,by simp[hal],⟨os10,?_⟩,w9⟩
   ·rw [acc3_keys hkb hkl]
    intro z
    obtain⟨y,hy,e⟩:=List.mem_map.mp z
    exact hnew (kP_inj e ▸ hy)
   ·have rk2 : Reps A.K A.G (Zof A os10) H9 ((ks ++ [kk]).map D.prT) ((bs ++ [b]).map V.ref) := by
     rw[map_append,map_append]
     exact r2.append (.cons rk .nil)
    exact((I15.join (r3.append (.cons rv .nil))).join rk2).join r1
 ·have e : i = items.length := by lia
  subst e
  refine .inl ⟨j2 (Nat.le_refl _),by lia,fun p hp=>?_⟩
  obtain⟨I4,r1⟩:=I3.split hl
  obtain⟨I5,r2⟩:=I4.split hlb
  obtain⟨I6,r3⟩:=I5.split hal
  rw[acc3_kvs hkb hkl]
  exact hQ p H3 n3 ks accD xs os I6 r3 hp hkl (fin ks accD n3 w3)
theorem pdT_dcomp{l:Nat}(hr:Room l X.A)(ok:CompOk X scope M)(hc:X.calm=true)(hi:PID A X tg iter it)(hg:∀ C s2 H2 fp,PGD A (zr X scope own M C s2 H2 fp) own.length tg g)(ht:∀ C s2 H2 fp,PTs (zr X scope own M C s2 H2 fp) ifs (ttOf A tt))
  (hk:∀ C s2 H2 fp,PD A (zr X scope own M C s2 H2 fp) kx tk) (he:∀ C s2 H2 fp,PD A (zr X scope own M C s2 H2 fp) vx tv) (hs:∀ x,foldedSetIterable iter X.env x=pure x:=by intro _;rfl):PDT A X (.DictComp kx vx [⟨tg,iter,ifs,0⟩] scope pos) (dDCompT it own.length g tt tk tv):=by
 with_unfolding_all
  exact(pe_dcompT ok (by have:=hr.un;lia) hc hi hg ht hk he hs).imp fun _ _ _=>tDCompT_of
end
end L2
namespace L2
section
variable {A:AC} {X:Cx} {es:List Expr} {t1:TAD} {pos:Pos}
def dPr(t:TAD):TD:=fun rho n P=>t rho n fun ds n1=>∃ k:Int × Int,ds=[.int k.1,.int k.2]/\P (.prT k) n1
@[simp] theorem q_dPr{t rho n P}:dPr t rho n P=t rho n fun ds n1=>∃ k:Int × Int,ds=[.int k.1,.int k.2]/\P (.prT k) n1:=rfl
theorem pd_pr{x1}(h:PAD A X es t1):PD A X (.Tuple es x1 pos) (dPr t1):=by
 with_unfolding_all
  exact(pe_tup h).imp fun sg H Q h=>by
   obtain⟨rho,n,P,ds,vs,I,ht,hQ⟩:=h
   refine⟨rho,n,_,ds,vs,I,ht,fun ws H' n' es' ⟨os,J⟩ hl k=>?_⟩
   obtain⟨k,rfl,q⟩:=k
   obtain⟨J1,rs⟩:=J.split hl
   obtain⟨v1,v2,rfl,r1,r2⟩:=reps2 rs
   have e1:=r1.int_inv
   have e2:=r2.int_inv
   subst e1 e2
   refine⟨zM (show 2<=1000 by decide),fun p hp=>hQ _ _ n' _ ⟨os,(J1.grow hp).push ?_⟩ q⟩
   unfold Rep
   exact⟨p,rfl,fun z=>J1.zH p z hp,zw⟩
end
section
variable {P:Program} {w:World} {K:W.Frag} {mg:Str->Option Value} {base:Heap}
theorem Fun.okT{x qual:Str}{st:Stmt}{f:Addr}{fd:FuncData}{N ps:List Str}{k:Nat}{t:TFT}{tb:TDT}{e:Expr}{pos:Pos}(F:Fun K x qual st f fd)(S:FnScope N ps (zi st))(hb:defBody st=[.Return (some e) pos])
  (body : ∀ (cdv : Value) (A0 : Around) (outer : List Env) (s : Shared) (H : Hp) (E : XK) (G : Option Addr) (Z : Addr -> Prop), Room k (A0.deeper (envOfC qual (zi st) s.heap.objs.size f cdv)) ->
   PDT ⟨K,G,Z,H⟩ (cxOf CX0 P w K mg base N qual (zi st) f cdv A0 outer s H E).nox e tb)
  (spec:∀ ds n Q,ds.length=ps.length->t ds n Q->tb (startD N ds) n Q):FnOk P w K mg base CX0 (k+1) f fd ps (spT K ps.length t):=by
 with_unfolding_all
  exact(by
   refine F.ok S (fun vs H Q E h=>?_) (fun cdv A0 outer s H vs Q E hr h=>?_)
   ·obtain ⟨G, Z, n, R, ds, hl, rs, _⟩ := h
    rw[rs.length];exact hl
   ·obtain ⟨G, Z, n, R, ds, hl, rs, hst, gz, z0, ht, hQ⟩ := h
    rw[hb]
    refine⟨_,pss_cons (ps_ret (body cdv A0 outer s H E G Z hr)) pss_nil,startD N ds,n,R,[],[],⟨[],amo_start rs hst gz z0⟩,spec ds n R hl ht,fun p H' n' ks es xs os I r hp hlx q=>?_⟩
    exact hQ p H' n' ks es xs I.fr I.st hp hlx (Reps.mono (fun a _ z=>.inl z) (fun _ _ _ e=>e) _ _ r) q)
end
end L2
namespace L2
section
variable {prog:Program} {w:World} {A:Around} {R:Result->Shared->Prop} {I:Addr} {fp wr:List Addr} {n:Nat} {P:Nat->Value->Prop} {St:Nat->Heap->Prop}
def CmpSt(prog:Program)(w:World)(A:Around)(P:Nat->Value->Prop)(St:Nat->Heap->Prop)(bt:Nat->Nat->Bool):Prop :=
 ∀ t i j vi vj (s:Shared) (Q:Value->Shared->Prop) (E:Value->Shared->Prop),St t s.heap->P i vi->P j vj->Q (.bool (bt i j)) s->wpAny (model prog w) A (richCompare .Lt vi vj) Q E s
theorem Walks.more{bs:List Addr}{Ok:Heap->Prop}(W:Walks prog w A I fp wr n P St)(hb:∀ b∈bs,b ∉ wr)(hk:∀ h h',Ok h->(∀ b∈bs,∀ o,h.get? b=some o->h'.get? b=some o)->Ok h'):Walks prog w A I (fp++bs) wr n P (fun i h=>St i h/\Ok h) where
 sub:=fun b h=>mem_append_left _ (W.sub b h)
 frame:=fun i h h' st k=>⟨W.frame i h h' st.1 fun b m o e=>k b (mem_append_left _ m) o e,hk h h' st.2 fun b m o e=>k b (mem_append_right _ m) o e⟩
 item:=fun i s Q E hi st hQ=>W.item i s Q E hi st.1 fun v h' tk hP st' k=>hQ v h' tk hP ⟨st',hk _ _ st.2 fun b m o e=>k b o (hb b m) e⟩ k
 done:=fun s Q E st hQ=>W.done s Q E st.1 hQ
 self:=fun i s Q E st hQ=>W.self i s Q E st.1 hQ
theorem minT_loop(W:Walks prog w A.in1 I fp wr n P St)(bt:Nat->Nat->Bool)(hcmp:CmpSt prog w A.in1 P St bt)(S:Addr)(hSf:S ∉ fp):∀ (k j:Nat) (s:Shared) (vb:Value) (c:Nat),n-(j+1)=k->j+1<=n->St (j+1) s.heap->P (argBest bt j) vb ->
  s.heap.get? S=some (seqObj "list" #[vb,vb] c)->(∀ v h' tk,P (argBest bt (n-1)) v->(∀ b o,b ∉ wr->b≠S->s.heap.get? b=some o->h'.get? b=some o)->R (.ok (.ret v)) { s with heap:=h',toks:=tk }) ->
  codeAny (model prog w) A (.builtin "min.loop" ⟨[.ref I,.none,.ref S],[]⟩) R s:=by
 have hSw:S ∉ wr:=fun h=>hSf (W.sub _ h)
 have nm:(toString "min" ++ toString ".loop" : String) = "min.loop" := by decide
 intro k
 induction k with
 | zero =>
  intro j s vb c hk hj hst hPb hS hR
  have hin:j+1=n:=by lia
  refine codeAny_builtin F.entry_min_loop ?_;rw[Around.under_plainId F.plain_min_loop _]
  refine wpAny_bind (m:=seqItems? (.ref S)) (wpAny_seqItems hS rfl (wpAny_bind (m:=tryCatch (pyNext (.ref I)) _) (wpAny_tryCatch (W.done s _ _ (hin ▸ hst) fun h' tk hk'=>?_))))
  have hS':=hk' S _ hSw hS
  refine wpAny_bind (m:=updateSeq S (fun _=>#[])) (wpAny_updateSeq hS' rfl (wpAny_bind (wpAny_letGo (wpAny_pure (hR vb _ tk (by rw[<- hin];exact hPb) fun b o hbw hbS e=>(Heap.get?_update_other _ _ (Ne.symm hbS)).trans (hk' b o hbw e))))))
 | succ k ih =>
  intro j s vb c hk hj hst hPb hS hR
  have hlt:j+1<n:=by lia
  refine codeAny_builtin F.entry_min_loop ?_;rw[Around.under_plainId F.plain_min_loop _]
  refine wpAny_bind (m:=seqItems? (.ref S)) (wpAny_seqItems hS rfl (wpAny_bind (m:=tryCatch (pyNext (.ref I)) _) (wpAny_tryCatch (W.item (j+1) s _ _ hlt hst fun v h' tk hP hst' hk'=>?_))))
  have hS':=hk' S _ hSw hS
  refine wpAny_bind (m:=tryCatch (holding [v,v] (richCompare .Lt v vb >>= _)) _) (wpAny_tryCatch (wpAny_holding (wpAny_bind (hcmp (j+1+1) (j+1) (argBest bt j) v vb _ _ _ hst' hP hPb (wpAny_bind (wpAny_holding (wpAny_truthy_bool (wpAny_bind (wpAny_letGo (wpAny_pure ?_))))))))))
  cases hb:bt (j+1) (argBest bt j) with
  | true =>
   simp only[if_true];refine wpAny_bind (wpAny_updateSeq hS' rfl (wpAny_bind (wpAny_letGo ?_)));rw[nm]
   refine wpAny_pure ⟨plainId_quiet F.plain_min_loop _,ih (j+1) _ v _ (by lia) hlt (W.frame _ _ _ hst' fun b hbf o e=>(Heap.get?_update_other _ _ (fun h:S=b=>hSf (by rw[h];exact hbf))).trans e) (by simp only[argBest,hb,if_true];exact hP) (Heap.get?_update_self _ hS' rfl) fun v' h'' tk'' hP' hk''=>?_⟩
   exact hR v' h'' tk'' hP' fun b o hbw hbS e=>hk'' b o hbw hbS ((Heap.get?_update_other _ _ (Ne.symm hbS)).trans (hk' b o hbw e))
  | false =>
   simp only[Bool.false_eq_true,if_false];refine wpAny_bind (wpAny_letGo ?_);rw[nm]
   refine wpAny_pure ⟨plainId_quiet F.plain_min_loop _,ih (j+1) _ vb c (by lia) hlt hst' (by simp only[argBest,hb,Bool.false_eq_true,if_false];exact hPb) hS' fun v' h'' tk'' hP' hk''=>?_⟩
   exact hR v' h'' tk'' hP' fun b o hbw hbS e=>hk'' b o hbw hbS (hk' b o hbw e)
theorem minT_first(W:Walks prog w A.in1 I fp wr n P St)(bt:Nat->Nat->Bool)(hcmp:CmpSt prog w A.in1 P St bt)(S:Addr)(hSf:S ∉ fp)(hn:0<n){s:Shared}{c:Nat}(hst:St 0 s.heap)(hS:s.heap.get? S=some (seqObj "list" #[] c))
  (hR:∀ v h' tk,P (argBest bt (n-1)) v->(∀ b o,b ∉ wr->b≠S->s.heap.get? b=some o->h'.get? b=some o)->R (.ok (.ret v)) { s with heap:=h',toks:=tk }):codeAny (model prog w) A (.builtin "min.loop" ⟨[.ref I,.none,.ref S],[]⟩) R s:=by
 have hSw:S ∉ wr:=fun h=>hSf (W.sub _ h)
 have nm:(toString "min" ++ toString ".loop" : String) = "min.loop" := by decide
 refine codeAny_builtin F.entry_min_loop ?_;rw[Around.under_plainId F.plain_min_loop _]
 refine wpAny_bind (m:=seqItems? (.ref S)) (wpAny_seqItems hS rfl (wpAny_bind (m:=tryCatch (pyNext (.ref I)) _) (wpAny_tryCatch (W.item 0 s _ _ hn hst fun v h' tk hP hst' hk'=>?_))))
 have hS':=hk' S _ hSw hS
 refine wpAny_bind (m:=updateSeq S (fun _=>#[v,v])) (wpAny_updateSeq hS' rfl ?_);rw[nm]
 refine wpAny_pure ⟨plainId_quiet F.plain_min_loop _,minT_loop W bt hcmp S hSf _ 0 _ v _ rfl hn (W.frame _ _ _ hst' fun b hbf o e=>(Heap.get?_update_other _ _ (fun h:S=b=>hSf (by rw[h];exact hbf))).trans e) hP (Heap.get?_update_self _ hS' rfl) fun v' h'' tk'' hP' hk''=>?_⟩
 exact hR v' h'' tk'' hP' fun b o hbw hbS e=>hk'' b o hbw hbS ((Heap.get?_update_other _ _ (Ne.symm hbS)).trans (hk' b o hbw e))
theorem minT_walk{E:Value->Shared->Prop}{s:Shared}{x:Value}{Q:Value->Shared->Prop}
  (h : wpAny (model prog w) A.in1 (pyIter x) (fun it s₂ => ∃ I fp wr n P St bt, it = .ref I /\ Walks prog w A.in1 I fp wr n P St /\ St 0 s₂.heap /\ (∀ b ∈ fp, b < s₂.heap.objs.size) /\ 0 < n /\ CmpSt prog w A.in1 P St bt /\
   ∀ v h' tk,P (argBest bt (n-1)) v->(∀ b o,b ∉ wr->s₂.heap.get? b=some o->h'.get? b=some o)->Q v { s₂ with heap:=h',toks:=tk }) E s):wpAny (model prog w) A (call (.builtin "min") [x]) Q E s:=by
 have nm:(toString "min" ++ toString ".loop" : String) = "min.loop" := by decide
 refine call_function_tree F.kind_min F.plain_min F.entry_min (F.args_min1 _) ?_
 refine wpAny_bind (m:=Builtin.Builtins.bindParams "min" ["key", "default"] 0 ⟨[],[]⟩) (wpAny_of_eq (show Builtin.Builtins.bindParams "min" ["key", "default"] 0 ⟨[],[]⟩=pure [none,none] from rfl) (wpAny_bind (wpAny_pure (wpAny_bind (wpAny_mono h (fun it s₂ h₂=>?_) fun _ _ e=>e)))))
 obtain⟨I,fp,wr,n,P,St,bt,rfl,W,hst,hfp,hn,hcmp,hQ⟩:=h₂
 refine wpAny_bind (wpAny_newObj_type ?_)
 rw[nm]
 refine wpAny_pure ⟨plainId_quiet F.plain_min_loop _,minT_first W bt hcmp s₂.heap.objs.size (fun hm=>Nat.lt_irrefl _ (hfp _ hm)) hn (W.frame _ _ _ hst fun b _ o e=>Heap.get?_push_of_some _ e) (Heap.get?_push_size _ rfl) fun v h' tk hP hk=>?_⟩
 exact hQ v h' tk hP fun b o hbw e=>hk b o hbw (Nat.ne_of_lt (Heap.lt_size e)) (Heap.get?_push_of_some _ e)
end
end L2
namespace L2
def ltP(a b:Int × Int):Bool:=HT.lexLt [a.1,a.2] [b.1,b.2]
theorem ltP_iff{a b:Int × Int}:ltP a b=true↔a.1<b.1\/(a.1=b.1/\a.2<b.2):=by
 unfold ltP HT.lexLt HT.lexLt HT.lexLt
 by_cases h:a.1=b.1
 ·by_cases h2 : a.2 = b.2
  ·simp[h,h2]
  ·simp[h,h2]
 ·simp[h]
theorem ltP_irr(a:Int × Int):ltP a a=false:=by
 cases h:ltP a a with
 | false=>rfl
 | true=>rw[ltP_iff] at h;lia
theorem ltP_trans{a b c:Int × Int}(h1:ltP a b=true)(h2:ltP b c=true):ltP a c=true:=by
 rw[ltP_iff] at *
 lia
theorem argBest_min{bt:Nat->Nat->Bool}(hi:∀ a,bt a a=false)(ht:∀ a b c,bt a b=true->bt b c=true->bt a c=true):∀ k,argBest bt k<=k/\∀ i,i<=k->bt i (argBest bt k)=false
 | 0=>⟨Nat.le_refl _,fun i h=>by
  have e:i=0:=by lia
  subst e;exact hi 0⟩
 | k + 1 => by
  obtain⟨h1,h2⟩:=argBest_min hi ht k
  cases hb:bt (k+1) (argBest bt k) with
  | true =>
   have e:argBest bt (k+1)=k+1:=by simp only[argBest,hb,if_true]
   rw[e]
   refine⟨Nat.le_refl _,fun i h=>?_⟩
   by_cases hk:i=k+1
   ·subst hk;exact hi _
   ·cases hc : bt i (k + 1) with
    | false=>rfl
    | true =>
     have z:=ht _ _ _ hc hb
     rw[h2 i (by lia)] at z
     cases z
  | false =>
   have e:argBest bt (k+1)=argBest bt k:=by simp only[argBest,hb,Bool.false_eq_true,if_false]
   rw[e]
   refine⟨by lia,fun i h=>?_⟩
   by_cases hk:i=k+1
   ·subst hk;exact hb
   ·exact h2 i (by lia)
section
variable {X:Cx} {A:AC}
def PairsAt(h:Heap)(ks:List (Int × Int))(bs:List Addr):Prop:=∀ (i:Nat) (k:Int × Int) (b:Addr),ks[i]?=some k->bs[i]?=some b->∃ its:List Value,IsTup h b its.toArray/\Vals [.int k.1,.int k.2] its
theorem call_minT(hc:X.calm=true)(hu:X.A.units+1<cLine):CallR X (.builtin "min") (fun xs H Q=>∃ (p:Addr) (ks:List (Int × Int)) (bs:List Addr),xs=[.ref p]/\SqL X.K H p (bs.map V.ref)/\0<ks.length/\bs.length=ks.length /\
  (∀ (i:Nat) (k:Int × Int) (b:Addr),ks[i]?=some k->bs[i]?=some b->SqT X.K H b [.int k.1,.int k.2])/\∀ (j:Nat) (k:Int × Int) (b:Addr),ks[j]?=some k->bs[j]?=some b->(∀ k'∈ks,ltP k' k=false)->Q (.ref b) H):=by
 intro pins s σ H xs us Q I r h
 obtain⟨p,ks,bs,rfl,hq,hn,hlen,htup,q⟩:=h
 cases r with
 | cons r rr =>
  cases rr
  cases r
  obtain⟨its,rv,pl,_⟩:=I.list hq
  have hl:=pl.isList
  have hlt:p<s.heap.objs.size:=by obtain⟨_,e,_⟩:=hl;exact Heap.lt_size e
  have hsz:its.length=bs.length:=by have:=rv.length;simpa using this.symm
  have hat:∀ (i:Nat) (v:Value),its[i]?=some v->∃ b,bs[i]?=some b/\v=.ref b:=fun i v e=>by
   have hi:i<bs.length:=by rw[<- hsz];exact(List.getElem?_eq_some_iff.mp e).1
   obtain⟨u,e1,e2⟩:=rv.get (i:=i) (x:=V.ref bs[i]) (by simp[hi])
   rw[e] at e1
   cases e1
   exact⟨bs[i],getElem?_eq_getElem hi,e2⟩
  have ok0:PairsAt s.heap ks bs:=fun i k b e1 e2=>by
   obtain⟨its2,r2,p2,_⟩:=I.tuple (htup i k b e1 e2)
   exact⟨its2,p2,r2⟩
  have keepP:∀ {h h':Heap},PairsAt h ks bs->(∀ b∈bs,∀ o,h.get? b=some o->h'.get? b=some o)->PairsAt h' ks bs:=fun {h h'} ok kp i k b e1 e2=>by
   obtain⟨its2,⟨o,ho,t⟩,r2⟩:=ok i k b e1 e2
   exact⟨its2,⟨o,kp b (mem_of_getElem? e2) o ho,t⟩,r2⟩
  have bsz:∀ b∈bs,b<s.heap.objs.size:=fun b hb=>by
   obtain⟨i,hi⟩:=List.mem_iff_getElem?.mp hb
   have hi':i<ks.length:=by rw[<- hlen];exact(List.getElem?_eq_some_iff.mp hi).1
   obtain⟨_,⟨o,ho,_⟩,_⟩:=ok0 i ks[i] b (getElem?_eq_getElem hi') hi
   exact Heap.lt_size ho
  refine minT_walk (wpAny_pyIter_list hl ⟨s.heap.objs.size,[s.heap.objs.size,p]++bs,[s.heap.objs.size],its.toArray.size,_,_,fun i j=>ltP (ks[i]?.getD (0,0)) (ks[j]?.getD (0,0)),rfl,
   Walks.more (bs:=bs) (Ok:=fun h=>PairsAt h ks bs) (Walks.list (A:=X.A.in1) (I.ok.hd hc) _ p (Nat.ne_of_lt hlt) _) (fun b hb z=>by rw[List.mem_singleton.mp z] at hb;exact Nat.lt_irrefl _ (bsz _ hb)) (fun h h' ok kp=>keepP ok kp),
   ⟨⟨⟨_,Heap.get?_push_size _ rfl,rfl,rfl⟩,hl.push _⟩,keepP ok0 fun b _ o e=>Heap.get?_push_of_some _ e⟩,fun b hb=>?_,?_,fun t i j vi vj s' Q' E' st hi hj hQ=>?_,fun v h' tk hP hk=>?_⟩)
  ·rcases List.mem_append.mp hb with hb | hb
   ·simp only [List.mem_cons, List.not_mem_nil, or_false] at hb
    rcases hb with rfl | rfl
    ·simp[Heap.push]
    ·exact Nat.lt_trans hlt (by simp[Heap.push])
   ·exact Nat.lt_trans (bsz b hb) (by simp[Heap.push])
  ·rw[size_toArray,hsz,hlen];exact hn
  ·obtain ⟨b1, e1, rfl⟩ := hat i vi (by simpa using hi)
   obtain⟨b2,e2,rfl⟩:=hat j vj (by simpa using hj)
   have h1:i<ks.length:=by rw[<- hlen];exact(List.getElem?_eq_some_iff.mp e1).1
   have h2:j<ks.length:=by rw[<- hlen];exact(List.getElem?_eq_some_iff.mp e2).1
   obtain⟨i1,p1,r1⟩:=st.2 i ks[i] b1 (getElem?_eq_getElem h1) e1
   obtain⟨i2,p2,r2⟩:=st.2 j ks[j] b2 (getElem?_eq_getElem h2) e2
   dsimp only at hQ
   rw[getElem?_eq_getElem h1,getElem?_eq_getElem h2] at hQ
   exact(HT.lt_tupInts (ns:=[ks[i].1,ks[i].2]) (ms:=[ks[j].1,ks[j].2]) p1 p2 (intsAre_of r1) (intsAre_of r2) hu hQ:wpAny (model X.prog X.w) X.A.in1 (compareOp .Lt _ _) Q' E' s')
  ·obtain ⟨m1, m2⟩ := argBest_min (bt := fun i j => ltP (ks[i]?.getD (0, 0)) (ks[j]?.getD (0, 0))) (fun a => ltP_irr _) (fun a b c x y => ltP_trans x y) (its.toArray.size - 1)
   obtain⟨b,e1,rfl⟩:=hat _ v (by simpa using hP)
   generalize argBest (fun i j=>ltP (ks[i]?.getD (0,0)) (ks[j]?.getD (0,0))) (its.toArray.size-1)=m at *
   have h1:m<ks.length:=by rw[<- hlen];exact(List.getElem?_eq_some_iff.mp e1).1
   refine⟨.ref b,H,I.kept (old_of hk),rfl,q m ks[m] b (getElem?_eq_getElem h1) e1 fun k' hk'=>?_⟩
   obtain⟨i,hi,rfl⟩:=List.mem_iff_getElem.mp hk'
   have z:=m2 i (by rw[size_toArray,hsz,hlen];lia)
   rw[getElem?_eq_getElem hi,getElem?_eq_getElem h1] at z
   exact z
theorem reps_pairs{K:W.Frag}{G:Option Addr}{Z:Addr->Prop}{H:Hp}:∀ {ks:List (Int × Int)} {xs:List V},Reps K G Z H (ks.map fun k=>.tup [.int k.1,.int k.2]) xs->∃ bs:List Addr,xs=bs.map V.ref/\bs.length=ks.length /\
  ∀ (i:Nat) (k:Int × Int) (b:Addr),ks[i]?=some k->bs[i]?=some b->Rep K G Z H (.tup [.int k.1,.int k.2]) (.ref b)
 | [],xs,h=>⟨[],h.nil_inv,rfl,fun i k b e _=>by simp at e⟩
 | k :: ks, xs, h => by
  obtain⟨v,r,rfl,q,t⟩:=Reps.split h
  obtain⟨bs,rfl,hl,hb⟩:=reps_pairs t
  obtain⟨b,ys,rfl,sq,rs⟩:=q.tup_inv
  refine⟨b::bs,rfl,by rw[length_cons,length_cons,hl],fun i k' b' e1 e2=>?_⟩
  cases i with
  | zero =>
   rw[List.getElem?_cons_zero] at e1 e2
   cases e1;cases e2
   exact .tup_mk sq rs
  | succ i =>
   rw[List.getElem?_cons_succ] at e1 e2
   exact hb i k' b' e1 e2
def kMinT:List D->(D->Prop)->Prop:=fun es k=>∃ ks:List (Int × Int),es=[.lst (ks.map fun k=>.tup [.int k.1,.int k.2])]/\0<ks.length/\∀ m∈ks,(∀ k'∈ks,ltP k' m=false)->k (.tup [.int m.1,.int m.2])
theorem cr_minT:xg A (fun xs H Q=>∃ (p:Addr) (ks:List (Int × Int)) (bs:List Addr),xs=[.ref p]/\SqL A.K H p (bs.map V.ref)/\0<ks.length/\bs.length=ks.length /\
  (∀ (i:Nat) (k:Int × Int) (b:Addr),ks[i]?=some k->bs[i]?=some b->SqT A.K H b [.int k.1,.int k.2])/\∀ (j:Nat) (k:Int × Int) (b:Addr),ks[j]?=some k->bs[j]?=some b->(∀ k'∈ks,ltP k' k=false)->Q (.ref b) H) kMinT:=by
 rintro os n rho sg H ds vs es ws k Q I rs ⟨ks,rfl,hn,q⟩ hQ
 obtain⟨v,rfl,r⟩:=reps1 rs
 obtain⟨a,xs,rfl,sq,rr⟩:=r.lst_inv
 obtain⟨bs,rfl,hl,hb⟩:=reps_pairs rr
 refine⟨a,ks,bs,rfl,sq.sq,hn,hl,fun i k b e1 e2=>?_,fun j k b e1 e2 hm=>hQ _ _ _ ⟨os,I.push (hb j k b e1 e2)⟩ (q k (mem_of_getElem? e1) hm)⟩
 obtain⟨b',e,sq'⟩:=pair_of (hb i k b e1 e2)
 cases e
 exact sq'
end
end L2
namespace L2
end L2
set_option maxHeartbeats 1000000
open L2
namespace K43
abbrev q0:List Str:=["one", "other"]
abbrev q1:List Str:=["_law_left_here", "_law_d", "_law_things", "_law_turn"]
abbrev q2:List Str:=["_law_left_here", "_law_house"]
abbrev q3:List Str:=["by_name", "trees", "plain", "kind"]
abbrev q4:List Str:=["house", "tree", "box", "kind", "k"]
abbrev q5:List Str:=["gone", "house", "tree", "box", "kind", "k"]
abbrev q6:List Str:=["_law_left_here", "_law_d", "_law_middle", "_law_far"]
def top(i:Nat):Stmt:=PySem.Challenge.pw_boxlayers_k43_like_keys.main.body.getD i (.Pass ⟨0,0,0,0⟩)
abbrev End:=Option (Int × Bool)
abbrev Span:=End × End
def encEnd:End->D
 | none=>.non
 | some (n,s)=>.tup [.int n,.bl s]
def encO:Option Int->D
 | none=>.non
 | some i=>.int i
def zJ(s:Span):D:=.tup [encEnd s.1,encEnd s.2]
def zL(b:List Span):D:=.tup (b.map zJ)
def zg(p:List Int):D:=.tup (p.map D.int)
def leastT:End->Option Int
 | none=>none
 | some (n,s)=>some (if s then n else n+1)
def greatT:End->Option Int
 | none=>none
 | some (n,s)=>some (if s then n else n-1)
def liesT(lo hi:Option Int)(x:Int):Bool:=(match lo with | none=>true | some l=>decide (l<=x))&&(match hi with | none=>true | some g=>decide (x<=g))
def spanT(s:Span)(x:Int):Bool:=liesT (leastT s.1) (greatT s.2) x
def fitsT(b:List Span)(p:List Int):Bool:=(List.zipWith spanT b p).all id
@[simp] theorem end_none:encEnd none=.non:=rfl
@[simp] theorem end_some{n:Int}{s:Bool}:encEnd (some (n,s))=.tup [.int n,.bl s]:=rfl
theorem no_encEnd(e:End):zn (encEnd e)=true:=by rcases e with _ | ⟨n,s⟩<;>rfl
section
variable {P:Program} {w:World} {K:W.Frag} {mg:Str->Option Value} {base:Heap} {f:Addr} {fd:FuncData}
abbrev s_least_of:Stmt:=top 2
abbrev N_least_of:List Str:=["low", "number", "shut"]
theorem sc_least_of:FnScope N_least_of ["low"] (zi s_least_of):=⟨rfl,rfl,rfl,by decide +kernel,rfl,by decide +kernel,by decide +kernel⟩
def t_least_of:TF:=fun ds n Q=>∃ e:End,ds=[encEnd e]/\Q (encO (leastT e)) n
theorem ok_least_of(F:Fun K "least_of" "least_of" s_least_of f fd):FnOk P w K mg base CX0 1 f fd ["low"] (spD K 1 t_least_of):=by
 refine Fun.okD F sc_least_of (fun _ _ _ s H E G Z hr=>(ze (psd_if (zS op_isN re_isN (zc 0) pd_non (zP _)) (zh (zt pd_non)) xb)
  (ze (psd_unp (m:=3) (zc 0) (pgd_tup (k:=2) rfl rfl (zk (zj (i:=1) sc_least_of.nd rfl (lo rfl) (by decide)) (zk (zj (i:=2) sc_least_of.nd rfl (lo rfl) (by decide)) xo))))
  (zh (zt (pd_if (ptd_val (zc 2)) (zc 1) (pd_add (zc 1) zf))))))) ?_
 rintro ds n Q hl ⟨e,rfl,q⟩
 rcases e with _ | ⟨m,s⟩
 ·simp [startD, encEnd]
  exact q
 ·cases s<;>(simp[startD,encEnd];exact q)
abbrev s_greatest_of:Stmt:=top 3
abbrev N_greatest_of:List Str:=["high", "number", "shut"]
theorem sc_greatest_of:FnScope N_greatest_of ["high"] (zi s_greatest_of):=⟨rfl,rfl,rfl,by decide +kernel,rfl,by decide +kernel,by decide +kernel⟩
def t_greatest_of:TF:=fun ds n Q=>∃ e:End,ds=[encEnd e]/\Q (encO (greatT e)) n
theorem ok_greatest_of(F:Fun K "greatest_of" "greatest_of" s_greatest_of f fd):FnOk P w K mg base CX0 1 f fd ["high"] (spD K 1 t_greatest_of):=by
 refine Fun.okD F sc_greatest_of (fun _ _ _ s H E G Z hr=>(ze (psd_if (zS op_isN re_isN (zc 0) pd_non (zP _)) (zh (zt pd_non)) xb)
  (ze (psd_unp (m:=3) (zc 0) (pgd_tup (k:=2) rfl rfl (zk (zj (i:=1) sc_greatest_of.nd rfl (lo rfl) (by decide)) (zk (zj (i:=2) sc_greatest_of.nd rfl (lo rfl) (by decide)) xo))))
  (zh (zt (pd_if (ptd_val (zc 2)) (zc 1) (pd_sub (zc 1) zf))))))) ?_
 rintro ds n Q hl ⟨e,rfl,q⟩
 rcases e with _ | ⟨m,s⟩
 ·simp [startD, encEnd]
  exact q
 ·cases s<;>(simp[startD,encEnd];exact q)
abbrev s_pair_of:Stmt:=top 4
abbrev N_pair_of:List Str:=["span", "low", "high"]
theorem sc_pair_of:FnScope N_pair_of ["span"] (zi s_pair_of):=⟨rfl,rfl,rfl,by decide +kernel,rfl,by decide +kernel,by decide +kernel⟩
def t_pair_of:TF:=fun ds n Q=>∃ s:Span,ds=[zJ s]/\Q (.tup [encO (leastT s.1),encO (greatT s.2)]) n
theorem ok_pair_of(F:Fun K "pair_of" "pair_of" s_pair_of f fd)(F_least_of:Fn P w K mg base "least_of" 1 1 t_least_of)(F_greatest_of:Fn P w K mg base "greatest_of" 1 1 t_greatest_of):FnOk P w K mg base CX0 2 f fd ["span"] (spD K 1 t_pair_of):=by
 refine Fun.okD F sc_pair_of (fun _ _ _ s H E G Z hr=>(ze (psd_unp (m:=3) (zc 0) (pgd_tup (k:=2) rfl rfl (zk (zj (i:=1) sc_pair_of.nd rfl (lo rfl) (by decide)) (zk (zj (i:=2) sc_pair_of.nd rfl (lo rfl) (by decide)) xo))))
  (zh (zt (xi (zb (zX F_least_of (hr.mono (by decide)) rfl (zb (zc 1) zd)) (zb (zX F_greatest_of (hr.mono (by decide)) rfl (zb (zc 2) zd)) zd))))))) ?_
 rintro ds n Q hl ⟨s,rfl,q⟩
 simp[startD,zJ,no_encEnd]
 exact⟨s.1,rfl,s.2,rfl,q⟩
end
end K43
namespace K43
theorem pick{es:List D}{k:Int}{R:D->Prop}(h0:0<=k)(h1:k<es.length)(h:∀ d∈es,R d):rdIx (.lst es) (.int k) R:=by
 obtain⟨d,e,m⟩:=atI_lt h0 h1
 exact q_rdIxL.mpr ⟨d,e,h d m⟩
theorem pickI{js:List Int}{k:Int}{R:D->Prop}(lo hi:Int)(h0:0<=k)(h1:k<js.length)(hb:∀ j∈js,lo<=j/\j<=hi)(h:∀ j:Int,lo<=j->j<=hi->R (.int j)):rdIx (.lst (js.map D.int)) (.int k) R:=by
 refine pick h0 (by simpa using h1) fun d hd=>?_
 obtain⟨j,hj,rfl⟩:=List.mem_map.mp hd
 exact h j (hb j hj).1 (hb j hj).2
theorem rng_len(c:Nat):(rngD 0 c).length=c:=by unfold rngD;rw[length_map,List.length_range]
theorem rng_at{c i:Nat}{d:D}(h:(rngD 0 c)[i]?=some d):i<c/\d=.int (i:Int):=by
 have hi:i<c:=by have:=(List.getElem?_eq_some_iff.mp h).1;rw[rng_len] at this;exact this
 refine⟨hi,?_⟩
 unfold rngD at h
 rw[getElem?_map,getElem?_range hi] at h
 have:=Option.some.inj h
 rw[<- this]
 simp
theorem comp_dem0{own:Nat}{g:TGD}{te:TD}{rho:Rho}{P:D->Nat->Prop}(items:List D)(n1:Nat)(Good:D->D->Prop)(hz:items.length<=sizeLine)
  (he:∀ (i:Nat) (d:D),items[i]?=some d->∀ Q:D->Nat->Prop,(∀ e,Good d e->Q e n1)->g d (replicate own none++rho) fun rho'=>rho'.drop own=rho/\te rho' n1 Q)
  (hP:∀ es,Paired Good items es->P (.lst es) n1):compIn own g bYes te rho P items n1:=by
 refine⟨hz,fun i acc n=>Paired Good (items.take i) acc/\n=n1,⟨.nil,rfl⟩,?_,?_⟩
 ·rintro i d acc n e ⟨h1, rfl⟩
  refine he i d e (fun e n3=>Paired Good (items.take (i+1)) (acc++[e])/\n3=n) fun c hg=>⟨?_,rfl⟩
  rw[take_add_one,e]
  exact Paired.snoc h1 hg
 ·rintro acc n ⟨h1, rfl⟩
  rw[take_length] at h1
  exact hP acc h1
section
variable {P:Program} {w:World} {K:W.Frag} {mg:Str->Option Value} {base:Heap} {f:Addr} {fd:FuncData}
abbrev s__law_left:Stmt:=top 22
abbrev N__law_left:List Str:=["_law_script", "_law_k", "_law_cell", "_law_digits"]
theorem sc__law_left:FnScope N__law_left ["_law_script", "_law_k"] (zi s__law_left):=⟨rfl,rfl,rfl,by decide +kernel,rfl,by decide +kernel,by decide +kernel⟩
def t_left:TF:=fun ds n Q=>∃ (ns:List Int) (j:Int),ds=[zp ns,.int j]/\ns.length<=63/\0<=j/\j<1000/\∀ x y:Int,0<=x->0<=y->y<2147483647->Q (.lst [.int x,.int y,.int 0]) n
theorem ok_left(T:Blt mg)(F:Fun K "_law_left" "_law_left" s__law_left f fd):FnOk P w K mg base CX0 1 f fd ["_law_script", "_law_k"] (spD K 2 t_left):=by
 refine Fun.okD F sc__law_left (fun _ _ _ s H E G Z hr=>(ze (zI (i:=2) sc__law_left.nd rfl (lo rfl) zf)
  (ze (psd_if (zS op_gt re_gt (zx zQ cr_len T.len bt_len (zb (zc 0) zd)) zf (zP _)) (zh (zI (i:=2) sc__law_left.nd rfl (lo rfl) (zW zA zV (zc 0) (pd_mod (zc 1) (zx zQ cr_len T.len bt_len (zb (zc 0) zd))) (fun _ _=>rfl)))) xb)
  (ze (zI (i:=3) sc__law_left.nd rfl (lo rfl) (pd_mul (pd_mod (zx call_abs cr_abs T.abs bt_abs (zb (zc 2) zd)) (pd_pow zf zf)) (zT call_int1 cr_intB T.int bt_int (zb (pd_cmp op_ge re_ge (zx call_abs cr_abs T.abs bt_abs (zb (zc 2) zd)) (pd_pow zf zf) (zP _)) zd))))
  (zh (zt (pd_lst (zb (zc 3) (zb (pd_mod (pd_mul (pd_add (pd_add (pd_mod (zc 2) zf) (pd_mul (pd_mul zf (zc 1)) (zc 1))) zf) zf) zf) (zb zf zd)))))))))) ?_
 rintro ds n Q hl ⟨ns,j,rfl,hns,hj0,hj1,q⟩
 have cm:∀ {i j:Int},(-(2^64)<i/\i<2^64)->CMul i j:=fun h=>.inl h
 have cm':∀ {i j:Int},(-(2^64)<j/\j<2^64)->CMul i j:=fun h=>.inr h
 have h7:0<=7919*j*j:=Int.mul_nonneg (by lia) hj0
 have h8:7919*j*j<=7919*j*1000:=Int.mul_le_mul_of_nonneg_left (by lia) (by lia)
 generalize hS:sSeq (sSet 3 _) _=S
 have cont:∀ (x:Int) (F:EndsD),F.rt=Q->S F [some (zp ns),some (.int j),some (.int x),none] n:=fun x F hF=>by
  subst hS
  simp[hF]
  have ab:0<=(if x<0 then -x else x):=by split<;>lia
  have b1:∀ c:Prop,[Decidable c]->(0:Int)<=(if c then 1 else 0)/\(if c then 1 else 0)<(2:Int):=fun c _=>by split<;>lia
  refine⟨⟨by decide,by decide,by decide⟩,⟨by decide,by decide,by decide⟩,cm' ⟨?_,?_⟩,cm ⟨by decide,by decide⟩,cm ⟨by lia,by lia⟩,cm' ⟨by decide,by decide⟩,q _ _ (Int.mul_nonneg (Int.emod_nonneg _ (by decide)) (b1 _).1) (Int.emod_nonneg _ (by decide)) (Int.emod_lt_of_pos _ (by decide))⟩
  ·have:=(b1 (1000000000000000000<=if x<0 then -x else x)).1;lia
  ·have:=(b1 (1000000000000000000<=if x<0 then -x else x)).2;lia
 simp[startD,zp]
 split
 ·rename_i h
  refine⟨by lia,?_⟩
  obtain⟨d,e,m⟩:=atI_lt (xs:=ns.map D.int) (i:=j%ns.length) (Int.emod_nonneg _ (by lia)) (by simpa using Int.emod_lt_of_pos j (by lia))
  obtain⟨x,_,rfl⟩:=List.mem_map.mp m
  exact⟨_,e,cont x _ rfl⟩
 ·exact cont 0 _ rfl
abbrev s__law_pick:Stmt:=top 23
abbrev N__law_pick:List Str:=["_law_left_here", "_law_many", "_law_digit"]
theorem sc__law_pick:FnScope N__law_pick ["_law_left_here", "_law_many"] (zi s__law_pick):=⟨rfl,rfl,rfl,by decide +kernel,rfl,by decide +kernel,by decide +kernel⟩
def t_pick:TF:=fun ds n Q=>∃ m:Int,ds=[.st,.int m]/\n=3/\0<m/\m<10000000/\∀ k:Int,0<=k->k<m->Q (.int k) n
theorem ok_pick(F:Fun K "_law_pick" "_law_pick" s__law_pick f fd):FnOk P w K mg base CX0 1 f fd ["_law_left_here", "_law_many"] (spD K 2 t_pick):=by
 refine Fun.okD F sc__law_pick (fun _ _ _ s H E G Z hr=>(ze (psd_if (zS op_gt re_gt (pd_stIx (i:=0) zf (fun _ _=>rfl)) zf (zP _)) (ze (zI (i:=2) sc__law_pick.nd rfl (lo rfl) (pd_mod (pd_stIx (i:=0) zf (fun _ _=>rfl)) (zc 1)))
  (ze (psd_stSet (i:=0) (pd_div (pd_stIx (i:=0) zf (fun _ _=>rfl)) (zc 1)) zf)
  (zh (zt (zc 2))))) xb)
  (ze (psd_stSet (i:=0) (pd_add (pd_stIx (i:=0) zf (fun _ _=>rfl)) zf) zf)
  (ze (psd_stSet (i:=0) (pd_mod (pd_add (pd_add (pd_mul (pd_stIx (i:=0) zf (fun _ _=>rfl)) zf) zf) (pd_stIx (i:=0) zf (fun _ _=>rfl))) zf) zf)
  (zh (zt (pd_mod (pd_div (pd_mod (pd_mul (pd_stIx (i:=0) zf (fun _ _=>rfl)) (pd_stIx (i:=0) zf (fun _ _=>rfl))) zf) zf) (zc 1)))))))) ?_
 rintro ds n Q hl ⟨m,rfl,rfl,hm,hm2,q⟩
 have cm:∀ {i j:Int},(-(2^64)<i/\i<2^64)->CMul i j:=fun h=>.inl h
 simp[startD]
 intro z0 h0
 split
 ·intro z hz
  exact⟨hm,fun z1 hz1=>⟨⟨hm,by lia⟩,Int.ediv_nonneg hz1 (by lia),q _ (Int.emod_nonneg _ (by lia)) (Int.emod_lt_of_pos _ hm)⟩⟩
 ·intro z hz
  refine⟨by lia,fun y hy hy2=>⟨cm ⟨by lia,by lia⟩,fun x hx=>⟨Int.emod_nonneg _ (by decide),Int.emod_lt_of_pos _ (by decide),fun y hy hy2 z1 h1 h1'=>⟨cm ⟨by lia,by lia⟩,⟨by decide,by decide⟩,hm,q _ (Int.emod_nonneg _ (by lia)) (Int.emod_lt_of_pos _ hm)⟩⟩⟩⟩
theorem zE{m:Int}{Q:D->Nat->Prop}(h0:0<m)(h1:m<10000000)(h:∀ k:Int,0<=k->k<m->Q (.int k) 3):t_pick [.st,.int m] 3 Q:=⟨m,rfl,rfl,h0,h1,h⟩
end
end K43
namespace K43
abbrev Thing:=Int × List Int × Int
def zo(t:Thing):D:=.tup [.int t.1,zg t.2.1,.int t.2.2]
def zN(d:Nat)(ts:List Thing):D:=.tup [.int d,.tup (ts.map zo)]
def near(x:Int):Prop:=-100000000000000002<=x/\x<=100000000000000002
theorem paired_small{S:Int->Prop}:∀ {l es:List D},Paired (fun _ e=>∃ x:Int,S x/\e=.int x) l es->∃ xs:List Int,es=xs.map D.int/\∀ x∈xs,S x
 | _,_,.nil=>⟨[],rfl,by simp⟩
 | _,_,.cons r t=>by
  obtain⟨x,hx,rfl⟩:=r
  obtain⟨xs,rfl,h⟩:=paired_small t
  exact⟨x::xs,rfl,fun y hy=>by rcases List.mem_cons.mp hy with rfl | hy;exact hx;exact h y hy⟩
theorem okE_place(p:List Int)(k:Nat):okE (zg p) (k+1)=true:=okE_tup.mpr fun d hd=>by
 obtain⟨x,_,rfl⟩:=List.mem_map.mp hd
 exact okE_int
theorem house0{d:Nat}{ts:List Thing}{R:D->Prop}(h:R (.int d)):rdIx (zN d ts) (.int 0) R:=⟨_,0,_,.inr (.inl rfl),rfl,rfl,h⟩
theorem house1{d:Nat}{ts:List Thing}{R:D->Prop}(h:R (.tup (ts.map zo))):rdIx (zN d ts) (.int 1) R:=⟨_,1,_,.inr (.inl rfl),rfl,rfl,h⟩
theorem no_house(d:Nat)(ts:List Thing):zn (zN d ts)=true:=id rfl
section
variable {P:Program} {w:World} {K:W.Frag} {mg:Str->Option Value} {base:Heap} {f:Addr} {fd:FuncData}
end
end K43
namespace K43
abbrev Pair:=Option Int × Option Int
def zF(p:Pair):D:=.tup [encO p.1,encO p.2]
def zq(ps:List Pair):D:=.tup (ps.map zF)
def zu:Pair->Bool
 | (some l,some g)=>decide (g<l)
 | _=>false
def emptyP:Pair:=(some 1,some 0)
def xn(ps:List Pair):List Pair:=if ps.any zu then ps.map (fun _=>emptyP) else ps
def pairT(s:Span):Pair:=(leastT s.1,greatT s.2)
def zK(b:List Span):List Pair:=xn (b.map pairT)
@[simp] theorem encO_none:encO none=.non:=rfl
@[simp] theorem encO_some{i:Int}:encO (some i)=.int i:=rfl
section
variable {P:Program} {w:World} {K:W.Frag} {mg:Str->Option Value} {base:Heap} {f:Addr} {fd:FuncData}
abbrev s_is_crossed:Stmt:=top 5
abbrev N_is_crossed:List Str:=["pair", "least", "greatest"]
theorem sc_is_crossed:FnScope N_is_crossed ["pair"] (zi s_is_crossed):=⟨rfl,rfl,rfl,by decide +kernel,rfl,by decide +kernel,by decide +kernel⟩
def t_is_crossed:TF:=fun ds n Q=>∃ p:Pair,ds=[zF p]/\Q (.bl (zu p)) n
theorem ok_is_crossed(F:Fun K "is_crossed" "is_crossed" s_is_crossed f fd):FnOk P w K mg base CX0 1 f fd ["pair"] (spD K 1 t_is_crossed):=by
 refine Fun.okD F sc_is_crossed (fun _ _ _ s H E G Z hr=>(ze (psd_unp (m:=3) (zc 0) (pgd_tup (k:=2) rfl rfl (zk (zj (i:=1) sc_is_crossed.nd rfl (lo rfl) (by decide)) (zk (zj (i:=2) sc_is_crossed.nd rfl (lo rfl) (by decide)) xo))))
  (zh (zt (pd_and (pd_cmp op_notN re_notN (zc 1) pd_non (zP _)) (pd_and (pd_cmp op_notN re_notN (zc 2) pd_non (zP _)) (pd_one (pd_cmp op_gt re_gt (zc 1) (zc 2) (zP _))))))))) ?_
 rintro ds n Q hl ⟨⟨lo,hi⟩,rfl,q⟩
 rcases lo with _ | lo<;>rcases hi with _ | hi<;>simp[startD,zF]<;>exact q
abbrev s_settled:Stmt:=top 6
abbrev N_settled:List Str:=["pairs"]
theorem sc_settled:FnScope N_settled ["pairs"] (zi s_settled):=⟨rfl,rfl,rfl,by decide +kernel,rfl,by decide +kernel,by decide +kernel⟩
theorem nd_settled_0:("pair" :: N_settled:List Str).Nodup:=by decide +kernel
theorem nd_settled_1:("pair" :: N_settled:List Str).Nodup:=by decide +kernel
def t_settled:TF:=fun ds n Q=>∃ (ps:List Pair) (d:D),ds=[d]/\(d=.lst (ps.map zF)\/d=zq ps)/\ps.length<=1000/\Q (zq (xn ps)) n
theorem ok_settled(T:Blt mg)(G_EMPTY_PAIR:GDat K mg "EMPTY_PAIR" (.tup [.int 1,.int 0]))(F:Fun K "settled" "settled" s_settled f fd)(F_is_crossed:Fn P w K mg base "is_crossed" 1 1 t_is_crossed):FnOk P w K mg base CX0 2 f fd ["pairs"] (spD K 1 t_settled):=by
 refine Fun.okD F sc_settled (fun _ _ _ s H E G Z hr=>(ze (psd_if (ptd_val (zx (call_any rfl) cr_any T.any bt_any (zb (pd_comp (own:=["pair"]) (M:=N_settled) (compOk (by rfl)) rfl (xj rfl (zc 0)) (fun _ _ _ _=>(zj (i:=0) nd_settled_0 rfl (lo rfl) (by decide))) (fun _ _ _ _=>xa) (fun _ _ _ _=>(zX F_is_crossed (hr.mono (by decide)) rfl (zb (zc 0) zd)))) zd))) (zh (zt (zT zD cr_tuple T.tuple bt_tuple (zb (pd_comp (own:=["pair"]) (M:=N_settled) (compOk (by rfl)) rfl (xj rfl (zc 0)) (fun _ _ _ _=>(zj (i:=0) nd_settled_1 rfl (lo rfl) (by decide))) (fun _ _ _ _=>xa) (fun _ _ _ _=>(pd_glob G_EMPTY_PAIR rfl))) zd)))) xb)
  (zh (zt (zT zD cr_tuple T.tuple bt_tuple (zb (zc 0) zd)))))) ?_
 rintro ds n Q hl ⟨ps,d,rfl,hd,hz,q⟩
 have hno:zn d=true:=by rcases hd with rfl | rfl<;>rfl
 have hsz:ps.length<=sizeLine:=zM hz
 have hit:∀ R:List D->Prop,R (ps.map zF)->∃ es,(d=.lst es\/d=.tup es)/\R es:=fun R h=>⟨_,hd,h⟩
 simp[startD,hno]
 refine hit _ (zR zF (fun p=>.bl (zu p)) ps hsz (fun x hx R hR=>?_) ?_)
 ·simp [zF]
  exact⟨x,rfl,hR⟩
 ·refine ⟨ps.map zu, by rw [List.map_map]; rfl, ?_⟩
  simp
  unfold xn at q
  by_cases h:ps.any zu
  ·simp only [h, if_true]
   rw[if_pos h] at q
   refine hit _ (zR zF (fun p=>.tup [.int 1,.int 0]) ps hsz (fun x hx R hR=>?_) ?_)
   ·simp
    exact hR
   ·simp
    have e:zq (ps.map fun _=>emptyP)=.tup (ps.map fun _=>.tup [.int 1,.int 0]):=by unfold zq;rw[map_map];rfl
    rw[e] at q
    simpa using q
  ·rw [if_neg h] at q
   simp only[h]
   rcases hd with rfl | rfl
   ·simp;exact q
   ·unfold zq;simp;exact q
abbrev s_plain_box:Stmt:=top 7
abbrev N_plain_box:List Str:=["box"]
theorem sc_plain_box:FnScope N_plain_box ["box"] (zi s_plain_box):=⟨rfl,rfl,rfl,by decide +kernel,rfl,by decide +kernel,by decide +kernel⟩
theorem nd_plain_box_0:("span" :: N_plain_box:List Str).Nodup:=by decide +kernel
def t_plain_box:TF:=fun ds n Q=>∃ b:List Span,ds=[zL b]/\b.length<=1000/\Q (zq (zK b)) n
theorem ok_plain_box(F:Fun K "plain_box" "plain_box" s_plain_box f fd)(F_pair_of:Fn P w K mg base "pair_of" 2 1 t_pair_of)(F_settled:Fn P w K mg base "settled" 2 1 t_settled):FnOk P w K mg base CX0 3 f fd ["box"] (spD K 1 t_plain_box):=by
 refine Fun.okD F sc_plain_box (fun _ _ _ s H E G Z hr=>(zh (zt (zX F_settled (hr.mono (by decide)) rfl (zb (pd_comp (own:=["span"]) (M:=N_plain_box) (compOk (by rfl)) rfl (xj rfl (zc 0)) (fun _ _ _ _=>(zj (i:=0) nd_plain_box_0 rfl (lo rfl) (by decide))) (fun _ _ _ _=>xa) (fun _ _ _ _=>(zX F_pair_of (hr.mono (by decide)) rfl (zb (zc 0) zd)))) zd))))) ?_
 rintro ds n Q hl ⟨b,rfl,hz,q⟩
 have nb:zn (zL b)=true:=rfl
 simp[startD,nb]
 refine⟨b.map zJ,.inr rfl,zR zJ (fun s=>zF (pairT s)) b (zM hz) (fun x hx R hR=>?_) ?_⟩
 ·simp [zJ]
  exact⟨x,rfl,hR⟩
 ·exact⟨b.map pairT,_,rfl,.inl (by rw[map_map];rfl),by simpa using hz,q⟩
end
end K43
namespace K43
def maxO:Option Int->Option Int->Option Int
 | none,o=>o
 | some a,none=>some a
 | some a,some b=>some (if b > a then b else a)
def minO:Option Int->Option Int->Option Int
 | none,o=>o
 | some a,none=>some a
 | some a,some b=>some (if b<a then b else a)
def commonP(p q:Pair):Pair:=(maxO p.1 q.1,minO p.2 q.2)
def commonT(ps qs:List Pair):List Pair:=xn (List.zipWith commonP ps qs)
def apartT(ps qs:List Pair):Bool:=match commonT ps qs with | []=>false | p::_=>zu p
def withinT(ps qs:List Pair):Bool:=decide (commonT ps qs=ps)
def hasT(ps:List Pair)(p:List Int):Bool:=(List.zipWith (fun q x=>liesT q.1 q.2 x) ps p).all id
theorem all_zip{α β:Type}{f:α->β->Bool}:∀ {l:List α} {r:List β},(List.zipWith f l r).all id=true↔∀ (i:Nat) a b,l[i]?=some a->r[i]?=some b->f a b=true
 | [],r=>by simp
 | a::l,[]=>by simp
 | a :: l, b :: r => by
  have ih:=all_zip (f:=f) (l:=l) (r:=r)
  simp only[zipWith_cons_cons,List.all_cons,Bool.and_eq_true,ih]
  constructor
  ·rintro ⟨h1, h2⟩ i x y hx hy
   cases i with
   | zero=>simp at hx hy;subst hx;subst hy;exact h1
   | succ i=>exact h2 i x y (by simpa using hx) (by simpa using hy)
  ·intro h
   exact⟨h 0 a b rfl rfl,fun i x y hx hy=>h (i+1) x y (by simpa using hx) (by simpa using hy)⟩
theorem any_at{α:Type}{f:α->Bool}{l:List α}:l.any f=true↔∃ (i:Nat) (a:α),l[i]?=some a/\f a=true:=by
 rw[List.any_eq_true]
 constructor
 ·rintro ⟨x, hx, h⟩
  obtain⟨i,hi⟩:=List.mem_iff_getElem?.mp hx
  exact⟨i,x,hi,h⟩
 ·rintro ⟨i, a, hi, h⟩
  exact⟨a,mem_of_getElem? hi,h⟩
theorem settled_len(ps:List Pair):(xn ps).length=ps.length:=by unfold xn;split<;>simp
theorem common_len{ps qs:List Pair}(h:ps.length=qs.length):(commonT ps qs).length=ps.length:=by unfold commonT;rw[settled_len,length_zipWith];lia
theorem settled_not{ps:List Pair}(h:¬ ps.any zu=true):xn ps=ps:=by unfold xn;rw[if_neg h]
theorem settled_any{ps:List Pair}(h:ps.any zu=true):xn ps=replicate ps.length emptyP:=by
 unfold xn
 rw[if_pos h,<- List.map_const']
theorem empty_any{k:Nat}(h:1<=k):(replicate k emptyP).any zu=true:=any_at.mpr ⟨0,emptyP,by rw[getElem?_replicate];simp;lia,by decide⟩
theorem lies_crossed{q:Pair}{x:Int}(h:liesT q.1 q.2 x=true):zu q=false:=by
 obtain⟨lo,hi⟩:=q
 rcases lo with _ | l<;>rcases hi with _ | g<;>simp[liesT,zu] at h ⊢
 lia
theorem lies_common(p q:Pair)(x:Int):liesT (commonP p q).1 (commonP p q).2 x=(liesT p.1 p.2 x&&liesT q.1 q.2 x):=by
 obtain⟨a,b⟩:=p
 obtain⟨c,d⟩:=q
 have h1:∀ l g:Int,decide ((if g > l then g else l)<=x)=(decide (l<=x)&&decide (g<=x)):=fun l g=>by
  rw[Bool.eq_iff_iff];split<;>simp<;>lia
 have h2:∀ l g:Int,decide (x<=(if g<l then g else l))=(decide (x<=l)&&decide (x<=g)):=fun l g=>by
  rw[Bool.eq_iff_iff];split<;>simp<;>lia
 rcases a with _ | a<;>rcases b with _ | b<;>rcases c with _ | c<;>rcases d with _ | d<;>simp only[commonP,liesT,maxO,minO,h1,h2] <;>
  (rw[Bool.eq_iff_iff];simp<;>try lia)
theorem zipc_at{ps qs:List Pair}{i:Nat}{c:Pair}(h:(List.zipWith commonP ps qs)[i]?=some c):∃ p q,ps[i]?=some p/\qs[i]?=some q/\c=commonP p q:=by
 rw[List.getElem?_zipWith] at h
 cases hp:ps[i]? with
 | none=>rw[hp] at h;simp at h
 | some p =>
  cases hq:qs[i]? with
  | none=>rw[hp,hq] at h;simp at h
  | some q=>rw[hp,hq] at h;exact⟨p,q,rfl,rfl,(by simpa using h.symm)⟩
theorem zipc_mk{ps qs:List Pair}{i:Nat}{p q:Pair}(hp:ps[i]?=some p)(hq:qs[i]?=some q):(List.zipWith commonP ps qs)[i]?=some (commonP p q):=by
 rw[List.getElem?_zipWith,hp,hq]
theorem at_some{α β:Type}{l:List α}{r:List β}(h:l.length=r.length){i:Nat}{a:α}(e:l[i]?=some a):∃ b,r[i]?=some b:=by
 have hi:=(List.getElem?_eq_some_iff.mp e).1
 exact⟨r[i],getElem?_eq_getElem (by lia)⟩
theorem has_iff{ps:List Pair}{p:List Int}:hasT ps p=true↔∀ (i:Nat) (q:Pair) (x:Int),ps[i]?=some q->p[i]?=some x->liesT q.1 q.2 x=true:=all_zip
theorem has_uncrossed{ps:List Pair}{p:List Int}(hl:ps.length=p.length)(h:hasT ps p=true):¬ ps.any zu=true:=by
 intro hc
 obtain⟨i,q,hq,hc⟩:=any_at.mp hc
 obtain⟨x,hx⟩:=at_some hl hq
 have:=lies_crossed (has_iff.mp h i q x hq hx)
 rw[hc] at this;cases this
theorem has_settled{ps:List Pair}{p:List Int}(hl:ps.length=p.length)(h1:1<=p.length):hasT (xn ps) p=hasT ps p:=by
 by_cases hc:ps.any zu=true
 ·have e1 : hasT ps p = false := by
   cases h:hasT ps p with
   | false=>rfl
   | true=>exact(has_uncrossed hl h hc).elim
  have e2:hasT (xn ps) p=false:=by
   cases h:hasT (xn ps) p with
   | false=>rfl
   | true =>
    refine(has_uncrossed (by rw[settled_len];exact hl) h ?_).elim
    rw[settled_any hc]
    exact empty_any (by lia)
  rw[e1,e2]
 ·rw[settled_not hc]
theorem has_zipc{ps qs:List Pair}{p:List Int}(h1:ps.length=p.length)(h2:qs.length=p.length):hasT (List.zipWith commonP ps qs) p=(hasT ps p&&hasT qs p):=by
 rw[Bool.eq_iff_iff,Bool.and_eq_true,has_iff,has_iff,has_iff]
 constructor
 ·intro h
  refine⟨fun i q x hq hx=>?_,fun i q x hq hx=>?_⟩
  ·obtain ⟨q2, hq2⟩ := at_some (h1.trans h2.symm) hq
   have:=h i _ x (zipc_mk hq hq2) hx
   rw[lies_common,Bool.and_eq_true] at this
   exact this.1
  ·obtain ⟨q2, hq2⟩ := at_some (h2.trans h1.symm) hq
   have:=h i _ x (zipc_mk hq2 hq) hx
   rw[lies_common,Bool.and_eq_true] at this
   exact this.2
 ·rintro ⟨ha, hb⟩ i q x hq hx
  obtain⟨q1,q2,e1,e2,rfl⟩:=zipc_at hq
  rw[lies_common,ha i q1 x e1 hx,hb i q2 x e2 hx];rfl
theorem has_common{ps qs:List Pair}{p:List Int}(h1:ps.length=p.length)(h2:qs.length=p.length)(h:1<=p.length):hasT (commonT ps qs) p=(hasT ps p&&hasT qs p):=by
 unfold commonT
 rw[has_settled (by rw[length_zipWith];lia) h,has_zipc h1 h2]
theorem fits_has(b:List Span)(p:List Int):fitsT b p=hasT (b.map pairT) p:=by
 unfold fitsT hasT
 rw[List.zipWith_map_left]
 rfl
theorem fits_plain{b:List Span}{p:List Int}(hl:b.length=p.length)(h1:1<=p.length):fitsT b p=hasT (zK b) p:=by
 unfold zK
 rw[has_settled (by rw[length_map];exact hl) h1,fits_has]
theorem apart_iff{ps qs:List Pair}(hl:ps.length=qs.length)(h1:1<=ps.length):apartT ps qs=(List.zipWith commonP ps qs).any zu:=by
 unfold apartT commonT
 by_cases hc:(List.zipWith commonP ps qs).any zu=true
 ·rw [settled_any hc, hc]
  obtain⟨k,hk⟩:∃ k,(List.zipWith commonP ps qs).length=k+1:=⟨ps.length-1,by rw[length_zipWith];lia⟩
  rw[hk]
  rfl
 ·rw [settled_not hc]
  cases hz:List.zipWith commonP ps qs with
  | nil=>rfl
  | cons c r =>
   rw[hz] at hc
   show zu c=(c::r).any zu
   cases h:zu c with
   | false =>
    cases h2:(c::r).any zu with
    | false=>rfl
    | true=>exact(hc h2).elim
   | true=>exact(hc (by simp[h])).elim
theorem apart_has{ps qs:List Pair}{p:List Int}(h1:ps.length=p.length)(h2:qs.length=p.length)(h:1<=p.length)(ha:hasT ps p=true)(hb:hasT qs p=true):apartT ps qs=false:=by
 rw[apart_iff (by lia) (by lia)]
 have:hasT (List.zipWith commonP ps qs) p=true:=by rw[has_zipc h1 h2,ha,hb];rfl
 have:=has_uncrossed (by rw[length_zipWith];lia) this
 cases hz:(List.zipWith commonP ps qs).any zu with
 | false=>rfl
 | true=>exact(this hz).elim
theorem within_mk{bs qs:List Pair}(hl:bs.length=qs.length)(h:∀ (i:Nat) b q,bs[i]?=some b->qs[i]?=some q->commonP b q=b)(hc:¬ bs.any zu=true):commonT bs qs=bs:=by
 have e:List.zipWith commonP bs qs=bs:=by
  apply List.ext_getElem?
  intro i
  rw[List.getElem?_zipWith]
  cases hb:bs[i]? with
  | none=>simp
  | some b =>
   obtain⟨q,hq⟩:=at_some hl hb
   rw[hq]
   simp[h i b q hb hq]
 unfold commonT
 rw[e,settled_not hc]
theorem within_of{ps qs:List Pair}(h:commonT ps qs=ps):withinT ps qs=true:=by unfold withinT;exact decide_eq_true h
end K43
namespace K43
section
variable {P:Program} {w:World} {K:W.Frag} {mg:Str->Option Value} {base:Heap} {f:Addr} {fd:FuncData}
abbrev s_greater_of:Stmt:=top 8
abbrev N_greater_of:List Str:=["one", "other"]
theorem sc_greater_of:FnScope N_greater_of q0 (zi s_greater_of):=⟨rfl,rfl,rfl,by decide +kernel,rfl,by decide +kernel,by decide +kernel⟩
def t_greater_of:TF:=fun ds n Q=>∃ a b:Option Int,ds=[encO a,encO b]/\Q (encO (maxO a b)) n
theorem ok_greater_of(T:Blt mg)(F:Fun K "greater_of" "greater_of" s_greater_of f fd):FnOk P w K mg base CX0 1 f fd q0 (spD K 2 t_greater_of):=by
 refine Fun.okD F sc_greater_of (fun _ _ _ s H E G Z hr=>(ze (psd_if (PWD.pt (pwd_or (zS op_isN re_isN (zc 0) pd_non (zP _)) (pwd_or1 (zS op_isN re_isN (zc 1) pd_non (zP _))))) (zh (zt (pd_if (zS op_isN re_isN (zc 0) pd_non (zP _)) (zc 1) (zc 0)))) xb)
  (zh (zt (zx (call_max2 rfl) cr_max2 T.max bt_max (zb (zc 0) (zb (zc 1) zd))))))) ?_
 rintro ds n Q hl ⟨a,b,rfl,q⟩
 rcases a with _ | a<;>rcases b with _ | b<;>simp[startD]<;>exact q
abbrev s_lesser_of:Stmt:=top 9
abbrev N_lesser_of:List Str:=["one", "other"]
theorem sc_lesser_of:FnScope N_lesser_of q0 (zi s_lesser_of):=⟨rfl,rfl,rfl,by decide +kernel,rfl,by decide +kernel,by decide +kernel⟩
def t_lesser_of:TF:=fun ds n Q=>∃ a b:Option Int,ds=[encO a,encO b]/\Q (encO (minO a b)) n
theorem ok_lesser_of(T:Blt mg)(F:Fun K "lesser_of" "lesser_of" s_lesser_of f fd):FnOk P w K mg base CX0 1 f fd q0 (spD K 2 t_lesser_of):=by
 refine Fun.okD F sc_lesser_of (fun _ _ _ s H E G Z hr=>(ze (psd_if (PWD.pt (pwd_or (zS op_isN re_isN (zc 0) pd_non (zP _)) (pwd_or1 (zS op_isN re_isN (zc 1) pd_non (zP _))))) (zh (zt (pd_if (zS op_isN re_isN (zc 0) pd_non (zP _)) (zc 1) (zc 0)))) xb)
  (zh (zt (zx (call_min2 rfl) cr_min2 T.min bt_min (zb (zc 0) (zb (zc 1) zd))))))) ?_
 rintro ds n Q hl ⟨a,b,rfl,q⟩
 rcases a with _ | a<;>rcases b with _ | b<;>simp[startD]<;>exact q
abbrev s_common_pair:Stmt:=top 10
abbrev N_common_pair:List Str:=["one", "other"]
theorem sc_common_pair:FnScope N_common_pair q0 (zi s_common_pair):=⟨rfl,rfl,rfl,by decide +kernel,rfl,by decide +kernel,by decide +kernel⟩
def t_common_pair:TF:=fun ds n Q=>∃ p q:Pair,ds=[zF p,zF q]/\Q (zF (commonP p q)) n
theorem ok_common_pair(F:Fun K "common_pair" "common_pair" s_common_pair f fd)(F_greater_of:Fn P w K mg base "greater_of" 1 2 t_greater_of)(F_lesser_of:Fn P w K mg base "lesser_of" 1 2 t_lesser_of):FnOk P w K mg base CX0 2 f fd q0 (spD K 2 t_common_pair):=by
 refine Fun.okD F sc_common_pair (fun _ _ _ s H E G Z hr=>(zh (zt (xi (zb (zX F_greater_of (hr.mono (by decide)) rfl (zb (zW zA zV (zc 0) zf (fun _ _=>rfl)) (zb (zW zA zV (zc 1) zf (fun _ _=>rfl)) zd))) (zb (zX F_lesser_of (hr.mono (by decide)) rfl (zb (zW zA zV (zc 0) zf (fun _ _=>rfl)) (zb (zW zA zV (zc 1) zf (fun _ _=>rfl)) zd))) zd)))))) ?_
 rintro ds n Q hl ⟨p,p',rfl,q⟩
 simp[startD,zF]
 refine⟨p.1,p'.1,rfl,?_⟩
 simp
 refine⟨p.2,p'.2,rfl,?_⟩
 simp
 exact q
theorem zip_pp(b:List Pair)(p:List Pair):zipD (b.map zF) (p.map zF)=(b.zip p).map fun x=>.tup [zF x.1,zF x.2]:=by
 unfold zipD
 rw[List.zipWith_map,List.map_zip_eq_zipWith]
 rfl
abbrev s_common:Stmt:=top 11
abbrev N_common:List Str:=["one", "other"]
theorem sc_common:FnScope N_common q0 (zi s_common):=⟨rfl,rfl,rfl,by decide +kernel,rfl,by decide +kernel,by decide +kernel⟩
theorem nd_common_0:("mine" :: "yours" :: N_common:List Str).Nodup:=by decide +kernel
def t_common:TF:=fun ds n Q=>∃ ps qs:List Pair,ds=[zq ps,zq qs]/\ps.length<=1000/\Q (zq (commonT ps qs)) n
theorem ok_common(T:Blt mg)(F:Fun K "common" "common" s_common f fd)(F_settled:Fn P w K mg base "settled" 2 1 t_settled)(F_common_pair:Fn P w K mg base "common_pair" 2 2 t_common_pair):FnOk P w K mg base CX0 3 f fd q0 (spD K 2 t_common):=by
 refine Fun.okD F sc_common (fun _ _ _ s H E G Z hr=>(zh (zt (zX F_settled (hr.mono (by decide)) rfl (zb (pd_comp (own:=["mine", "yours"]) (M:=N_common) (compOk (by rfl)) rfl (pid_zip rfl T.zip (zb (zc 0) (zb (zc 1) zd))) (fun _ _ _ _=>(pgd_tup (k:=2) rfl rfl (zk (zj (i:=0) nd_common_0 rfl (lo rfl) (by decide)) (zk (zj (i:=1) nd_common_0 rfl (lo rfl) (by decide)) xo)))) (fun _ _ _ _=>xa) (fun _ _ _ _=>(zX F_common_pair (hr.mono (by decide)) rfl (zb (zc 0) (zb (zc 1) zd))))) zd))))) ?_
 rintro ds n Q hl ⟨ps,qs,rfl,hz,q⟩
 have n1:zn (zq ps)=true:=rfl
 have n2:zn (zq qs)=true:=rfl
 simp[startD,n1,n2]
 refine(q_kZip (d1:=zq ps) (d2:=zq qs) rfl rfl).mpr ?_
 rw[zip_pp]
 refine zR (fun x=>.tup [zF x.1,zF x.2]) (fun x:Pair × Pair=>zF (commonP x.1 x.2)) (ps.zip qs) (Nat.le_trans (by rw[length_zip];lia) (zM (k:=1000) (by lia))) (fun x hx R hR=>?_) ?_
 ·have n3 : zn (zF x.1) = true := rfl
  have n4:zn (zF x.2)=true:=rfl
  simp[n3,n4]
  exact⟨x.1,x.2,rfl,hR⟩
 ·refine ⟨List.zipWith commonP ps qs, _, rfl, .inl ?_, by rw [List.length_zipWith]; lia, q⟩
  have e:List.zipWith commonP ps qs=(ps.zip qs).map fun x=>commonP x.1 x.2:=by rw[List.map_zip_eq_zipWith];rfl
  rw[e,map_map]
  rfl
abbrev s_lie_apart:Stmt:=top 12
abbrev N_lie_apart:List Str:=["one", "other"]
theorem sc_lie_apart:FnScope N_lie_apart q0 (zi s_lie_apart):=⟨rfl,rfl,rfl,by decide +kernel,rfl,by decide +kernel,by decide +kernel⟩
def t_lie_apart:TF:=fun ds n Q=>∃ ps qs:List Pair,ds=[zq ps,zq qs]/\1<=ps.length/\ps.length=qs.length/\ps.length<=1000/\Q (.bl (apartT ps qs)) n
theorem ok_lie_apart(F:Fun K "lie_apart" "lie_apart" s_lie_apart f fd)(F_is_crossed:Fn P w K mg base "is_crossed" 1 1 t_is_crossed)(F_common:Fn P w K mg base "common" 3 2 t_common):FnOk P w K mg base CX0 4 f fd q0 (spD K 2 t_lie_apart):=by
 refine Fun.okD F sc_lie_apart (fun _ _ _ s H E G Z hr=>(zh (zt (zX F_is_crossed (hr.mono (by decide)) rfl (zb (zW zA zV (zX F_common (hr.mono (by decide)) rfl (zb (zc 0) (zb (zc 1) zd))) zf (fun _ _=>rfl)) zd))))) ?_
 rintro ds n Q hl ⟨ps,qs,rfl,h1,h2,hz,q⟩
 have n1:zn (zq ps)=true:=rfl
 have n2:zn (zq qs)=true:=rfl
 simp[startD,n1,n2]
 refine⟨ps,qs,rfl,hz,?_⟩
 have hl2:=common_len h2
 unfold apartT at q
 cases hc:commonT ps qs with
 | nil=>rw[hc] at hl2;simp at hl2;lia
 | cons c r =>
  rw[hc] at q
  simp[zq]
  exact⟨c,rfl,q⟩
def colT(qs:List (List Int))(i:Nat):List Int:=qs.map fun q=>q[i]?.getD 0
theorem exists_min:∀ {ns:List Int},0<ns.length->∃ M,M∈ns/\∀ a∈ns,M<=a
 | [x],_=>⟨x,by simp,by simp⟩
 | x::y::r,_=>by
  obtain⟨M,h1,h2⟩:=exists_min (ns:=y::r) (by simp)
  by_cases h:x<=M
  ·exact⟨x,by simp,fun a ha=>by rcases List.mem_cons.mp ha with rfl | ha;exact Int.le_refl _;have:=h2 a ha;lia⟩
  ·exact⟨M,mem_cons_of_mem _ h1,fun a ha=>by rcases List.mem_cons.mp ha with rfl | ha;lia;exact h2 a ha⟩
theorem exists_max:∀ {ns:List Int},0<ns.length->∃ M,M∈ns/\∀ a∈ns,a<=M
 | [x],_=>⟨x,by simp,by simp⟩
 | x::y::r,_=>by
  obtain⟨M,h1,h2⟩:=exists_max (ns:=y::r) (by simp)
  by_cases h:M<=x
  ·exact⟨x,by simp,fun a ha=>by rcases List.mem_cons.mp ha with rfl | ha;exact Int.le_refl _;have:=h2 a ha;lia⟩
  ·exact⟨M,mem_cons_of_mem _ h1,fun a ha=>by rcases List.mem_cons.mp ha with rfl | ha;lia;exact h2 a ha⟩
open Classical in
noncomputable def minL(ns:List Int):Int:=if h:∃ M,M∈ns/\∀ a∈ns,M<=a then choose h else 0
open Classical in
noncomputable def maxL(ns:List Int):Int:=if h:∃ M,M∈ns/\∀ a∈ns,a<=M then choose h else 0
theorem minL_spec{ns:List Int}(h:∃ M,M∈ns/\∀ a∈ns,M<=a):minL ns∈ns/\∀ a∈ns,minL ns<=a:=by unfold minL;rw[dif_pos h];exact Classical.choose_spec h
theorem maxL_spec{ns:List Int}(h:∃ M,M∈ns/\∀ a∈ns,a<=M):maxL ns∈ns/\∀ a∈ns,a<=maxL ns:=by unfold maxL;rw[dif_pos h];exact Classical.choose_spec h
theorem minL_eq{ns:List Int}{M:Int}(h1:M∈ns)(h2:∀ a∈ns,M<=a):M=minL ns:=by
 obtain⟨h3,h4⟩:=minL_spec ⟨M,h1,h2⟩
 have:=h2 _ h3
 have:=h4 _ h1
 lia
theorem maxL_eq{ns:List Int}{M:Int}(h1:M∈ns)(h2:∀ a∈ns,a<=M):M=maxL ns:=by
 obtain⟨h3,h4⟩:=maxL_spec ⟨M,h1,h2⟩
 have:=h2 _ h3
 have:=h4 _ h1
 lia
theorem kMin_intro{ns:List Int}{k:D->Prop}(h:0<ns.length)(q:k (.int (minL ns))):kMin1 [.lst (ns.map D.int)] k:=⟨ns,rfl,h,fun M h1 h2=>by rw[minL_eq h1 h2];exact q⟩
theorem kMax_intro{ns:List Int}{k:D->Prop}(h:0<ns.length)(q:k (.int (maxL ns))):kMax1 [.lst (ns.map D.int)] k:=⟨ns,rfl,h,fun M h1 h2=>by rw[maxL_eq h1 h2];exact q⟩
end
end K43
namespace K43
theorem cut_from(xs:List D)(b:Nat)(hb:b<=xs.length):cutL xs (some (b:Int)) none=xs.drop b:=by
 unfold cutL
 rw[HT.sIx_nat,HT.sIx_none,Nat.min_eq_left hb,take_of_length_le (by rw[length_drop];lia)]
theorem cut_to(xs:List D)(e:Nat)(he:e<=xs.length):cutL xs none (some (e:Int))=xs.take e:=by
 unfold cutL
 rw[HT.sIx_nat,HT.sIx_none,Nat.min_eq_left he,drop_zero,Nat.sub_zero]
theorem perm_map{α β:Type}{f:α->β}:∀ {l:List β} {ts:List α},l.Perm (ts.map f)->∃ rs:List α,rs.Perm ts/\l=rs.map f:=by
 intro l ts h
 generalize hm:ts.map f=m at h
 induction h generalizing ts with
 | nil =>
  cases ts with
  | nil=>exact⟨[],.nil,rfl⟩
  | cons _ _=>simp at hm
 | cons x p ih =>
  cases ts with
  | nil=>simp at hm
  | cons a ts =>
   obtain⟨e1,e2⟩:=List.cons.inj hm
   obtain⟨rs,h1,rfl⟩:=ih e2
   exact⟨a::rs,h1.cons a,by rw[<- e1];rfl⟩
 | swap x y l =>
  cases ts with
  | nil=>simp at hm
  | cons a ts =>
   cases ts with
   | nil=>simp at hm
   | cons b ts =>
    obtain⟨e1,e2⟩:=List.cons.inj hm
    obtain⟨e3,e4⟩:=List.cons.inj e2
    exact⟨b::a::ts,.swap a b ts,by rw[<- e1,<- e3,<- e4];rfl⟩
 | trans p q ih1 ih2 =>
  obtain⟨r2,h2,rfl⟩:=ih2 hm
  obtain⟨r1,h1,rfl⟩:=ih1 rfl
  exact⟨r1,h1.trans h2,rfl⟩
structure GoodU(d:Nat)(ts:List Thing):Prop where
 each:∀ t∈ts,t.2.1.length=d
 nd:(ts.map fun t=>t.1).Nodup
theorem GoodU.perm{d:Nat}{ts rs:List Thing}(h:GoodU d ts)(p:rs.Perm ts):GoodU d rs:=⟨fun t ht=>h.each t (p.mem_iff.mp ht),(p.map _).nodup_iff.mpr h.nd⟩
theorem GoodU.sub{d:Nat}{ts rs:List Thing}(h:GoodU d ts)(p:rs.Sublist ts):GoodU d rs:=⟨fun t ht=>h.each t (p.mem ht),(p.map _).nodup h.nd⟩
def nameKey(t:Thing):Key:=Sum.inl t.1
def byN(ts:List Thing):D:=.dct (ts.map nameKey) (ts.map zo)
@[simp] theorem no_byN(ts:List Thing):zn (byN ts)=true:=id rfl
theorem hasK_names:∀ {ts:List Thing} {x:Int},x ∉ ts.map (fun t=>t.1)->hasK (ts.map nameKey) (Sum.inl x)=false
 | [],x,_=>rfl
 | t::ts,x,h=>by
  have h1:¬ t.1=x:=fun e=>h (by simp[e])
  have ih:=hasK_names (ts:=ts) (x:=x) fun z=>h (mem_cons_of_mem _ z)
  show(decide (nameKey t=Sum.inl x)||hasK (ts.map nameKey) (Sum.inl x))=false
  rw[ih,Bool.or_false]
  exact decide_eq_false fun e=>h1 (Sum.inl.inj e)
theorem atK_names:∀ {ts:List Thing} {t:Thing},t∈ts->(ts.map fun t=>t.1).Nodup->atK (ts.map nameKey) (ts.map zo) (Sum.inl t.1)=some (zo t)
 | [],t,h,_=>by simp at h
 | s :: ts, t, h, hn => by
  have hn':=List.nodup_cons.mp hn
  show(if nameKey s=Sum.inl t.1 then some (zo s) else atK (ts.map nameKey) (ts.map zo) (Sum.inl t.1))=_
  rcases List.mem_cons.mp h with rfl | h
  ·exact if_pos rfl
  ·have : ¬ nameKey s = Sum.inl t.1 := fun e => by
    have e':s.1=t.1:=Sum.inl.inj e
    exact hn'.1 (List.mem_map.mpr ⟨t,h,e'.symm⟩)
   rw[if_neg this]
   exact atK_names h hn'.2
def namesD(ts:List Thing):D:=.tup (ts.map fun t=>.int t.1)
@[simp] theorem no_namesD(ts:List Thing):zn (namesD ts)=true:=id rfl
@[simp] theorem noq_pairs(ps:List Pair):zn (zq ps)=true:=id rfl
@[simp] theorem noq_place(p:List Int):zn (zg p)=true:=id rfl
@[simp] theorem noq_thing(t:Thing):zn (zo t)=true:=id rfl
noncomputable def bdsT(d:Nat)(qs:List (List Int)):List Pair:=(List.range d).map fun i=>(some (minL (colT qs i)),some (maxL (colT qs i)))
inductive Tr where
 | one (name:Int) (bd:List Pair)
 | two (ns:List Int) (bd:List Pair) (low high:Tr)
def xk:Tr->D
 | .one x bd=>.tup [.tup [.int x],zq bd,.non,.non]
 | .two ns bd l h=>.tup [.tup (ns.map D.int),zq bd,xk l,xk h]
theorem no_encTr(t:Tr):zn (xk t)=true:=by cases t<;>rfl
section
variable {P:Program} {w:World} {K:W.Frag} {mg:Str->Option Value} {base:Heap} {f:Addr} {fd:FuncData}
abbrev s_things_by_name:Stmt:=top 14
abbrev N_things_by_name:List Str:=["house"]
theorem sc_things_by_name:FnScope N_things_by_name ["house"] (zi s_things_by_name):=⟨rfl,rfl,rfl,by decide +kernel,rfl,by decide +kernel,by decide +kernel⟩
theorem nd_things_by_name_0:("thing" :: N_things_by_name:List Str).Nodup:=by decide +kernel
def t_tbn:TF:=fun ds n Q=>∃ (dd:D) (ts:List Thing),ds=[.tup [dd,.tup (ts.map zo)]]/\(ts.map fun t=>t.1).Nodup/\ts.length<=1000/\Q (byN ts) n
theorem ok_tbn(T:Blt mg)(F:Fun K "things_by_name" "things_by_name" s_things_by_name f fd):FnOk P w K mg base CX0 1 f fd ["house"] (spD K 1 t_tbn):=by
 refine Fun.okD F sc_things_by_name (fun _ _ _ s H E G Z hr=>(zh (zt (pd_dcomp (own:=["thing"]) (M:=N_things_by_name) (compOk (by rfl)) rfl (xj rfl (zW zA zV (zc 0) zf (fun _ _=>rfl))) (fun _ _ _ _=>(zj (i:=0) nd_things_by_name_0 rfl (lo rfl) (by decide))) (fun _ _ _ _=>xa) (fun _ _ _ _=>(zW zA zV (zc 0) zf (fun _ _=>rfl))) (fun _ _ _ _=>(zc 0)))))) ?_
 rintro ds n Q hl ⟨dd,ts,rfl,hn,hz,q⟩
 have e1:atI [dd,D.tup (ts.map zo)] 1=some (D.tup (ts.map zo)):=rfl
 simp[startD,e1]
 refine⟨by rw[length_map];exact zM hz,fun i ks es n'=>n'=n/\ks=(ts.take i).map nameKey/\es=(ts.take i).map zo,⟨rfl,rfl,rfl⟩,?_,?_⟩
 ·rintro i d ks es n' e ⟨rfl, rfl, rfl⟩
  rw[getElem?_map] at e
  cases et:ts[i]? with
  | none=>rw[et] at e;cases e
  | some t =>
   rw[et] at e
   cases e
   have nt:zn (zo t)=true:=rfl
   simp[nt]
   have e2:∀ R:D->Prop,R (.int t.1)->rdIx (zo t) (.int 0) R:=fun R h=>⟨_,_,_,.inr (.inl rfl),rfl,rfl,h⟩
   refine e2 _ ?_
   refine⟨_,rfl,?_,?_⟩
   ·have hk : hasK ((ts.take i).map nameKey) (Sum.inl t.1) = false := hasK_names fun hm => by
     have h3:(ts.take i++[t]).Sublist ts:=by
      have:ts.take i++[t]=ts.take (i+1):=by rw[take_add_one,et];rfl
      rw[this];exact take_sublist ..
     have h4:=(h3.map fun t=>t.1).nodup hn
     rw[map_append,nodup_append] at h4
     exact h4.2.2 _ hm _ (by simp) rfl
    unfold putKs
    rw[map_take] at hk
    rw[if_neg (by rw[hk];simp),take_add_one,getElem?_map,et];rfl
   ·have hk : hasK ((ts.take i).map nameKey) (Sum.inl t.1) = false := hasK_names fun hm => by
     have h3:(ts.take i++[t]).Sublist ts:=by
      have:ts.take i++[t]=ts.take (i+1):=by rw[take_add_one,et];rfl
      rw[this];exact take_sublist ..
     have h4:=(h3.map fun t=>t.1).nodup hn
     rw[map_append,nodup_append] at h4
     exact h4.2.2 _ hm _ (by simp) rfl
    unfold putG
    rw[map_take] at hk
    rw[if_neg (by rw[hk];simp),take_add_one,getElem?_map,et];rfl
 ·rintro ks es n' ⟨rfl, rfl, rfl⟩
  rw[length_map,take_length]
  exact q
end
end K43
namespace K43
inductive TreeOf(d:Nat):List Thing->Tr->Prop where
  | one {t:Thing}:t.2.1.length=d->TreeOf d [t] (.one t.1 (bdsT d [t.2.1]))
  | two {ts ls hs:List Thing} {ns:List Int} {low high:Tr}:(ls++hs).Perm ts->ns.Perm (ts.map fun t=>t.1)->ns.Pairwise (·<=·)->TreeOf d ls low->TreeOf d hs high->TreeOf d ts (.two ns (bdsT d (ts.map fun t=>t.2.1)) low high)
theorem TreeOf.ne{d:Nat}{ts:List Thing}{tr:Tr}(h:TreeOf d ts tr):1<=ts.length:=by
 induction h with
 | one=>simp
 | two p _ _ _ _ h1 h2=>have:=p.length_eq;rw[length_append] at this;lia
theorem TreeOf.lens{d:Nat}{ts:List Thing}{tr:Tr}(h:TreeOf d ts tr):∀ t∈ts,t.2.1.length=d:=by
 induction h with
 | one h=>intro t ht;rw[List.mem_singleton.mp ht];exact h
 | two p _ _ _ _ h1 h2 =>
  intro t ht
  rcases List.mem_append.mp (p.mem_iff.mpr ht) with h | h
  ·exact h1 t h
  ·exact h2 t h
def bdOf:Tr->List Pair
 | .one _ bd=>bd
 | .two _ bd _ _=>bd
def namesOf:Tr->List Int
 | .one x _=>[x]
 | .two ns _ _ _=>ns
theorem TreeOf.bd{d:Nat}{ts:List Thing}{tr:Tr}(h:TreeOf d ts tr):bdOf tr=bdsT d (ts.map fun t=>t.2.1):=by cases h<;>rfl
def colN(ts:List Thing)(i:Nat):List Int:=colT (ts.map fun t=>t.2.1) i
theorem colN_eq(ts:List Thing)(i:Nat):colN ts i=ts.map fun t=>t.2.1[i]?.getD 0:=by unfold colN colT;rw[map_map];rfl
noncomputable def loN(ts:List Thing)(i:Nat):Int:=minL (colN ts i)
noncomputable def hiN(ts:List Thing)(i:Nat):Int:=maxL (colN ts i)
theorem bds_at{d i:Nat}(ts:List Thing)(hi:i<d):(bdsT d (ts.map fun t=>t.2.1))[i]?=some (some (loN ts i),some (hiN ts i)):=by
 unfold bdsT
 rw[getElem?_map,getElem?_range hi];rfl
theorem bds_len(d:Nat)(qs:List (List Int)):(bdsT d qs).length=d:=by unfold bdsT;rw[length_map,List.length_range]
theorem colN_pos{ts:List Thing}{i:Nat}(h:1<=ts.length):0<(colN ts i).length:=by rw[colN_eq,length_map];exact h
theorem loN_le{ts:List Thing}{i:Nat}(h:1<=ts.length){x:Int}(hx:x∈colN ts i):loN ts i<=x:=(minL_spec (exists_min (colN_pos h))).2 x hx
theorem le_hiN{ts:List Thing}{i:Nat}(h:1<=ts.length){x:Int}(hx:x∈colN ts i):x<=hiN ts i:=(maxL_spec (exists_max (colN_pos h))).2 x hx
theorem loN_mem{ts:List Thing}{i:Nat}(h:1<=ts.length):loN ts i∈colN ts i:=(minL_spec (exists_min (colN_pos h))).1
theorem hiN_mem{ts:List Thing}{i:Nat}(h:1<=ts.length):hiN ts i∈colN ts i:=(maxL_spec (exists_max (colN_pos h))).1
theorem loN_hiN{ts:List Thing}{i:Nat}(h:1<=ts.length):loN ts i<=hiN ts i:=loN_le h (hiN_mem h)
theorem colN_sub{ls ts:List Thing}{i:Nat}(h:∀ t∈ls,t∈ts){x:Int}(hx:x∈colN ls i):x∈colN ts i:=by
 rw[colN_eq] at hx ⊢
 obtain⟨t,ht,e⟩:=List.mem_map.mp hx
 exact List.mem_map.mpr ⟨t,h t ht,e⟩
theorem loN_sub{ls ts:List Thing}{i:Nat}(h:∀ t∈ls,t∈ts)(h1:1<=ls.length)(h2:1<=ts.length):loN ts i<=loN ls i/\hiN ls i<=hiN ts i :=
 ⟨loN_le h2 (colN_sub h (loN_mem h1)),le_hiN h2 (colN_sub h (hiN_mem h1))⟩
def lotT(bd pl:List Pair):Str:=if apartT bd pl=true then "out" else if withinT bd pl=true then "in" else "cut"
def sizeT:Tr->Nat
 | .one _ _=>1
 | .two _ _ low high=>1+sizeT low+sizeT high
theorem one_lot{d : Nat}(hd : 1 <= d){p : List Int}(hp : p.length = d){pl : List Pair}(hl : pl.length = d) : lotT (bdsT d [p]) pl ≠ "cut" := by
 unfold lotT
 by_cases ha:apartT (bdsT d [p]) pl=true
 ·rw[if_pos ha];decide
 ·rw [if_neg ha]
  have hw : withinT (bdsT d [p]) pl = true := by
   rw[apart_iff (by rw[bds_len,hl]) (by rw[bds_len];exact hd)] at ha
   have pt:∀ (i:Nat) (b:Pair),(bdsT d [p])[i]?=some b->∃ x:Int,b=(some x,some x):=fun i b hb=>by
    unfold bdsT at hb
    rw[getElem?_map] at hb
    by_cases hi:i<d
    ·rw [List.getElem?_range hi] at hb
     have e1:colT [p] i=[p[i]?.getD 0]:=rfl
     have m1:minL (colT [p] i)=p[i]?.getD 0:=(minL_eq (ns:=colT [p] i) (by rw[e1];simp) (by rw[e1];simp)).symm
     have m2:maxL (colT [p] i)=p[i]?.getD 0:=(maxL_eq (ns:=colT [p] i) (by rw[e1];simp) (by rw[e1];simp)).symm
     refine⟨p[i]?.getD 0,?_⟩
     rw[<- Option.some.inj hb]
     show(some (minL (colT [p] i)),some (maxL (colT [p] i)))=_
     rw[m1,m2]
    ·rw[List.getElem?_eq_none (by simp;lia)] at hb;cases hb
   refine within_of (within_mk (by rw[bds_len,hl]) (fun i b q hb hq=>?_) fun hc=>?_)
   ·obtain ⟨x, rfl⟩ := pt i b hb
    have hnc:zu (commonP (some x,some x) q)=false:=by
     cases hcr:zu (commonP (some x,some x) q) with
     | false=>rfl
     | true=>exact absurd (any_at.mpr ⟨i,_,zipc_mk hb hq,hcr⟩) ha
    obtain⟨a,b⟩:=q
    cases a with
    | none => cases b with
     | none=>rfl
     | some g =>
      simp[commonP,maxO,minO,zu] at hnc ⊢
      by_cases hg:g<x
      ·rw[if_pos hg] at hnc;lia
      ·exact fun h=>absurd h hg
    | some l => cases b with
     | none =>
      simp[commonP,maxO,minO,zu] at hnc ⊢
      by_cases hg:x<l
      ·rw[if_pos hg] at hnc;lia
      ·exact fun h=>absurd h hg
     | some g =>
      simp[commonP,maxO,minO,zu] at hnc ⊢
      constructor
      ·by_cases hg : x < l
       ·rw [if_pos hg] at hnc
        by_cases hg2:g<x
        ·rw[if_pos hg2] at hnc;lia
        ·rw[if_neg hg2] at hnc;lia
       ·exact fun h=>absurd h hg
      ·by_cases hg2 : g < x
       ·rw [if_pos hg2] at hnc
        by_cases hg:x<l
        ·rw[if_pos hg] at hnc;lia
        ·rw[if_neg hg] at hnc;lia
       ·exact fun h=>absurd h hg2
   ·obtain ⟨i, b, hb, hcr⟩ := any_at.mp hc
    obtain⟨x,rfl⟩:=pt i b hb
    simp[zu] at hcr
  rw[if_pos hw];decide
theorem encTr_eq(t:Tr):∃ a b,xk t=.tup [.tup ((namesOf t).map D.int),zq (bdOf t),a,b]/\zn a=true/\zn b=true:=by
 cases t with
 | one x bd=>exact⟨_,_,rfl,rfl,rfl⟩
 | two ns bd l h=>exact⟨_,_,rfl,no_encTr l,no_encTr h⟩
theorem plain_len(b:List Span):(zK b).length=b.length:=by unfold zK;rw[settled_len,length_map]
section
variable {P:Program} {w:World} {K:W.Frag} {mg:Str->Option Value} {base:Heap} {f:Addr} {fd:FuncData}
end
end K43
namespace K43
def keyI(i:Nat)(t:Thing):SRow:=⟨.n (t.2.1[i]?.getD 0),t.1,[]⟩
structure JBd(d:Nat)(ts:List Thing)(i:Nat)(rho:Rho)(n:Nat)(n0:Nat):Prop where
 e:n=n0
 r:∃ (u v:Option D),rho=[some (.lst (ts.map zo)),some (.lst (ts.map fun t=>zg t.2.1)),some (.own (((bdsT d (ts.map fun t=>t.2.1)).map zF).take i)),u,v]
section
variable {P:Program} {w:World} {K:W.Frag} {mg:Str->Option Value} {base:Heap} {f:Addr} {fd:FuncData}
abbrev s__law_bounds:Stmt:=top 24
abbrev N__law_bounds:List Str:=["_law_things", "_law_places", "_law_edges", "_law_i", "_law_numbers"]
theorem sc__law_bounds:FnScope N__law_bounds ["_law_things"] (zi s__law_bounds):=⟨rfl,rfl,rfl,by decide +kernel,rfl,by decide +kernel,by decide +kernel⟩
theorem nd__law_bounds_0:("_law_thing" :: N__law_bounds:List Str).Nodup:=by decide +kernel
theorem nd__law_bounds_1:("_law_place" :: N__law_bounds:List Str).Nodup:=by decide +kernel
def t_lbd:TF:=fun ds n Q=>∃ (d:Nat) (ts:List Thing),ds=[.lst (ts.map zo)]/\d<=4/\(∀ t∈ts,t.2.1.length=d)/\1<=ts.length/\ts.length<=60/\Q (zq (bdsT d (ts.map fun t=>t.2.1))) n
theorem ok_lbd(T:Blt mg)(F:Fun K "_law_bounds" "_law_bounds" s__law_bounds f fd):FnOk P w K mg base CX0 1 f fd ["_law_things"] (spD K 1 t_lbd):=by
 refine Fun.okD F sc__law_bounds (fun _ _ _ s H E G Z hr=>(ze (psd_setComp (i:=1) sc__law_bounds.nd rfl (lo rfl) (own:=["_law_thing"]) (M:=N__law_bounds) (compOk (by rfl)) rfl (xj rfl (zc 0)) (fun _ _ _ _=>(zj (i:=0) nd__law_bounds_0 rfl (lo rfl) (by decide))) (fun _ _ _ _=>xa) (fun _ _ _ _=>(zW zA zV (zc 0) zf (fun _ _=>rfl))))
  (ze (psd_own (i:=2) sc__law_bounds.nd rfl (lo rfl) zd)
  (ze (psd_for (m:=5) PassesOwn.never rfl (pid_rng T.range (zb (zx zQ cr_len T.len bt_len (zb (zW zA zV (zc 1) zf (fun _ _=>rfl)) zd)) zd)) (zj (i:=3) sc__law_bounds.nd rfl (lo rfl) (by decide))
  (ze (psd_setComp (i:=4) sc__law_bounds.nd rfl (lo rfl) (own:=["_law_place"]) (M:=N__law_bounds) (compOk (by rfl)) rfl (xj rfl (zc 1)) (fun _ _ _ _=>(zj (i:=0) nd__law_bounds_1 rfl (lo rfl) (by decide))) (fun _ _ _ _=>xa) (fun _ _ _ _=>(zW zA zV (zc 0) (zc 4) (fun _ _=>rfl))))
  (zh (psd_append (i:=2) (zb (xi (zb (zx (call_min1 rfl) cr_min1 T.min bt_min (zb (zc 4) zd)) (zb (zx (call_max1 rfl) cr_max1 T.max bt_max (zb (zc 4) zd)) zd))) zd) rfl))))
  (zh (psd_frz 2 (zt (zT zD cr_tuple T.tuple bt_tuple (zb (zc 2) zd))))))))) ?_
 rintro ds n Q hl ⟨d,ts,rfl,hd,hlen,h1,h60,q⟩
 generalize hR:sSeq (sOwn 2 _) _=Rr
 simp[startD]
 refine zR zo (fun t=>zg t.2.1) ts (zM (by lia)) (fun t ht R hR=>?_) ?_
 ·simp
  exact⟨_,1,_,.inr (.inl rfl),rfl,rfl,hR⟩
 ·subst hR
  simp
  obtain⟨t0,r0,e0⟩:∃ t0 r0,ts=t0::r0:=by cases ts with | nil=>simp at h1 | cons a b=>exact⟨a,b,rfl⟩
  have m0:t0∈ts:=by rw[e0];simp
  have hk:∀ k:D->Prop,k (.int d)->kLen [zg t0.2.1] k:=fun k h=>by unfold zg;rw[q_kLenT,length_map,hlen t0 m0];exact h
  refine⟨zg t0.2.1,xm (j:=0) (by rw[e0];rfl),hk _ ⟨d,rfl,by lia,by lia,?_⟩⟩
  refine⟨fun i rho n'=>JBd d ts i rho n' n,⟨rfl,none,none,rfl⟩,?_,?_⟩
  ·rintro i d' rho n' e ⟨rfl, u, v, rfl⟩
   obtain⟨hi,rfl⟩:=rng_at e
   replace hi:i<d:=by simpa using hi
   have ec:(ts.map fun t=>D.int (t.2.1[i]?.getD 0))=(colT (ts.map fun t=>t.2.1) i).map D.int:=by unfold colT;rw[map_map,map_map];rfl
   have hc:0<(colT (ts.map fun t=>t.2.1) i).length:=by unfold colT;rw[length_map,length_map];exact h1
   have hb:(bdsT d (ts.map fun t=>t.2.1))[i]?=some (some (minL (colT (ts.map fun t=>t.2.1) i)),some (maxL (colT (ts.map fun t=>t.2.1) i))):=by unfold bdsT;rw[getElem?_map,getElem?_range hi];rfl
   generalize hS:sAppend 2 _=S
   simp
   refine zR (fun t:Thing=>zg t.2.1) (fun t=>.int (t.2.1[i]?.getD 0)) ts (zM (by lia)) (fun t ht R hR=>?_) ?_
   ·simp
    unfold zg
    rw[q_rdIxT]
    refine⟨.int (t.2.1[i]?.getD 0),xm ?_,hR⟩
    rw[getElem?_map,getElem?_eq_getElem (by rw[hlen t ht];exact hi)]
    rfl
   ·rw [ec]
    subst hS
    simp
    refine⟨lt_size (by rw[bds_len];lia),kMin_intro hc (kMax_intro hc ⟨rfl,some (.int i),some (.lst ((colT (ts.map fun t=>t.2.1) i).map D.int)),?_⟩)⟩
    rw[take_add_one,getElem?_map,hb]
    rfl
  ·rintro rho n' ⟨rfl, u, v, rfl⟩
   rw[rng_len]
   simp
   rw[take_of_length_le (by rw[length_map,bds_len];exact Nat.le_refl _)]
   exact q
abbrev s__law_grown:Stmt:=top 25
abbrev N__law_grown:List Str:=["_law_left_here", "_law_d", "_law_things", "_law_turn", "_law_names", "_law_i", "_law_row", "_law_cut", "_law_low"]
theorem sc__law_grown:FnScope N__law_grown q1 (zi s__law_grown):=⟨rfl,rfl,rfl,by decide +kernel,rfl,by decide +kernel,by decide +kernel⟩
theorem nd__law_grown_0:("_law_thing" :: N__law_grown:List Str).Nodup:=by decide +kernel
def t_grown:Nat->TF
 | 0=>fun _ _ _=>False
 | j+1=>fun ds n Q=>∃ (d:Nat) (ts:List Thing) (k:Int),ds=[.st,.int d,.lst (ts.map zo),.int k]/\n=3/\1<=d/\d<=4/\GoodU d ts/\1<=ts.length/\ts.length<=60/\ts.length<=j+1/\∀ tr:Tr,TreeOf d ts tr->Q (xk tr) n
theorem ok_grown{f c Pt : Addr}{fd : FuncData}(T : Blt mg)(F : Fun K "_law_grown" "_law_grown" s__law_grown f fd)(hns : W.nsIn K mainGlobals "_law_grown" = some (some (.ref f)))(htb : W.tabIn K "_law_grown" = some (c, Pt))(LB : LamBase base mg c Pt)(hm : mg "_law_grown" = some (.ref f))(hk : W.keepIn K (.ref f) = true)(hb : Binds K fd ["_law_left_here", "_law_d", "_law_things", "_law_turn"] [])(Y_pick : Fn P w K mg base "_law_pick" 1 2 t_pick)(Y_bounds : Fn P w K mg base "_law_bounds" 1 1 t_lbd) : ∀ j : Nat, FnOk P w K mg base CX0 (j + 4) f fd q1 (spD K 4 (t_grown j)) := by
  intro j
  induction j with
  | zero=>exact FnOk.botK fun ds n Q h=>h
  | succ j ih =>
    have Y_grown:Fn P w K mg base "_law_grown" (j+4) 4 (t_grown j):=⟨f,fd,_,ih,hm,hk,hb⟩
    have TI:TabIs K Pt (("_law_grown" ++ ".<locals>.") ++ "<lambda>"):=⟨"_law_grown",by simp[lamDefs],c,htb,rfl⟩
    refine Fun.okL F hns htb sc__law_grown (fun A0 outer s H E G Z hr=>(ze (zI (i:=4) sc__law_grown.nd rfl (lo rfl) (zT zD cr_tuple T.tuple bt_tuple (zb (zx call_sorted cr_sorted T.sorted bt_sorted (zb (pd_comp (own:=["_law_thing"]) (M:=N__law_grown) (compOk (by rfl)) rfl (xj rfl (zc 2)) (fun _ _ _ _=>(zj (i:=0) nd__law_grown_0 rfl (lo rfl) (by decide))) (fun _ _ _ _=>xa) (fun _ _ _ _=>(zW zA zV (zc 0) zf (fun _ _=>rfl)))) zd)) zd)))
    (ze (psd_if (zS op_eq re_eq (zx zQ cr_len T.len bt_len (zb (zc 2) zd)) zf (zP _)) (zh (zt (xi (zb (zc 4) (zb (zX Y_bounds (hr.mono (by lia)) rfl (zb (zc 2) zd)) (zb pd_non (zb pd_non zd))))))) xb)
    (ze (zI (i:=5) sc__law_grown.nd rfl (lo rfl) (zW zA zV (pd_lst (zb (pd_mod (zc 3) (zc 1)) (zb (zX Y_pick (hr.mono (by lia)) rfl (zb (zc 0) (zb (zc 1) zd))) zd))) (zX Y_pick (hr.mono (by lia)) rfl (zb (zc 0) (zb zf zd))) (fun _ _=>rfl)))
    (ze (zI (i:=6) sc__law_grown.nd rfl (lo rfl) (pd_sortKey (N:=["_law_thing", "_law_i"]) (p := "_law_thing") (clos:=[("_law_i",s.heap.objs.size+1)]) (caps:=[5]) (k:=0) TI rfl T.sorted (hr.mono (by lia)) (zb (zc 2) zd) LB (lamScope (by rfl) clos_one) (Caps.one rfl rfl rfl) (fun A1 f1 c1 s1 H1 G1 Z1 hr=>(xi (zb (zW zA zV (zW zA zV (zc 0) zf (fun _ _=>rfl)) (zc 1) (fun _ _=>rfl)) (zb (zW zA zV (zc 0) zf (fun _ _=>rfl)) zd))))))
    (ze (psd_if (zS op_eq re_eq (zX Y_pick (hr.mono (by lia)) rfl (zb (zc 0) (zb zf zd))) zf (zP _)) (zh (zI (i:=6) sc__law_grown.nd rfl (lo rfl) (pd_op op_cat re_cat (pd_od rfl (zc 6)) (pd_ev rfl (zc 6))))) xb)
    (ze (zI (i:=7) sc__law_grown.nd rfl (lo rfl) (zW zA zV (pd_lst (zb (pd_div (pd_add (zx zQ cr_len T.len bt_len (zb (zc 6) zd)) zf) zf) (zb (pd_add zf (zX Y_pick (hr.mono (by lia)) rfl (zb (zc 0) (zb (pd_sub (zx zQ cr_len T.len bt_len (zb (zc 6) zd)) zf) zd)))) zd))) (zX Y_pick (hr.mono (by lia)) rfl (zb (zc 0) (zb zf zd))) (fun _ _=>rfl)))
    (ze (zI (i:=8) sc__law_grown.nd rfl (lo rfl) (zX Y_grown hr rfl (zb (zc 0) (zb (zc 1) (zb (pd_slV rfl (zc 6) pod_none (pod_some (zc 7))) (zb (pd_add (zc 3) zf) zd))))))
    (zh (zt (xi (zb (zc 4) (zb (zX Y_bounds (hr.mono (by lia)) rfl (zb (zc 2) zd)) (zb (zc 8) (zb (zX Y_grown hr rfl (zb (zc 0) (zb (zc 1) (zb (pd_slV rfl (zc 6) (pod_some (zc 7)) pod_none) (zb (pd_add (zc 3) zf) zd))))) zd))))))))))))))) ?_
    rintro ds n Q hl ⟨d,ts,kt,rfl,rfl,hd1,hd,hg,h1,h60,hj,q⟩
    have nmE:(ts.map fun t=>D.int t.1)=(ts.map fun t=>t.1).map D.int:=by rw[map_map];rfl
    generalize hR:sSeq (sSet 5 _) _=Rr
    have main : ∀ (F : EndsD) (ns : List Int), F.rt = Q -> 2 <= ts.length -> ns.Perm (ts.map fun t => t.1) -> ns.Pairwise (· <= ·) ->
        Rr F [some .st,some (.int d),some (.lst (ts.map zo)),some (.int kt),some (.tup (ns.map D.int)),none,none,none,none] 3:=fun F ns hF h2 hp hs=>by
      subst hR
      generalize hR6:sSeq (sSet 6 _) _=R6
      simp
      refine⟨hd1,zE (by lia) (by lia) fun k1 g0 g1=>zE (by decide) (by decide) fun k2 g2 g3=>?_⟩
      have hpk:∀ R:D->Prop,(∀ i:Nat,i<d->R (.int i))->rdIx (.lst [.int (kt%d),.int k1]) (.int k2) R:=fun R hR=>pick g2 (by simpa using g3) fun dd hdd=>by
        simp only[mem_cons,not_mem_nil,or_false] at hdd
        have e0:0<=kt%(d:Int):=Int.emod_nonneg _ (by lia)
        have e1:kt%(d:Int)<d:=Int.emod_lt_of_pos _ (by lia)
        rcases hdd with rfl | rfl
        · obtain ⟨i, e⟩ := Int.eq_ofNat_of_zero_le e0
          rw[e]
          exact hR i (by lia)
        · obtain ⟨i, e⟩ := Int.eq_ofNat_of_zero_le g0
          rw[e]
          exact hR i (by lia)
      refine hpk _ fun i hi=>?_
      subst hR6
      generalize hR7:sSeq (sIf _ _ _) _=R7
      have rest:∀ (F:EndsD) (us:List Thing),F.rt=Q->us.Perm ts->R7 F [some .st,some (.int d),some (.lst (ts.map zo)),some (.int kt),some (.tup (ns.map D.int)),some (.int i),some (.lst (us.map zo)),none,none] 3:=fun F us hF hu=>by
        subst hR7
        generalize hR8:sSeq (sSet 7 _) _=R8
        have rest2:∀ (F:EndsD) (us:List Thing),F.rt=Q->us.Perm ts->R8 F [some .st,some (.int d),some (.lst (ts.map zo)),some (.int kt),some (.tup (ns.map D.int)),some (.int i),some (.lst (us.map zo)),none,none] 3:=fun F us hF hu=>by
          subst hR8
          have hul:=hu.length_eq
          generalize hR9:sSeq (sSet 8 _) _=R9
          simp
          refine⟨⟨by decide,by decide⟩,zE (by lia) (by lia) fun k1 g0 g1=>?_⟩
          simp
          refine zE (by decide) (by decide) fun k2 g2 g3=>?_
          have hpk:∀ R:D->Prop,(∀ m:Nat,1<=m->m<ts.length->R (.int m))->rdIx (.lst [.int (((us.length:Int)+1)/2),.int (1+k1)]) (.int k2) R:=fun R hR=>pick g2 (by simpa using g3) fun dd hdd=>by
            simp only[mem_cons,not_mem_nil,or_false] at hdd
            rcases hdd with rfl | rfl
            · obtain ⟨m, e⟩ := Int.eq_ofNat_of_zero_le (show 0 <= ((us.length : Int) + 1) / 2 by lia)
              rw[e]
              exact hR m (by lia) (by lia)
            · obtain ⟨m, e⟩ := Int.eq_ofNat_of_zero_le (show 0 <= 1 + k1 by lia)
              rw[e]
              exact hR m (by lia) (by lia)
          refine hpk _ fun m hm1 hm2=>?_
          subst hR9
          have hcut1:cutL (us.map zo) none (some (m:Int))=(us.take m).map zo:=by rw[cut_to _ _ (by rw[length_map];lia),map_take]
          have hcut2:cutL (us.map zo) (some (m:Int)) none=(us.drop m).map zo:=by rw[cut_from _ _ (by rw[length_map];lia),map_drop]
          have gu:=hg.perm hu
          have part:∀ (vs:List Thing) (R:D->Nat->Prop),vs.Sublist us->1<=vs.length->vs.length<ts.length->(∀ tr,TreeOf d vs tr->R (xk tr) 3)->t_grown j [.st,.int d,.lst (vs.map zo),.int (kt+1)] 3 R:=fun vs R hv h3 h4 hR=>by
            cases j with
            | zero=>lia
            | succ j=>exact⟨d,vs,kt+1,rfl,rfl,hd1,hd,gu.sub hv,h3,by lia,by lia,hR⟩
          have lt:(us.take m).length=m:=by rw[length_take];lia
          have ld:(us.drop m).length=ts.length-m:=by rw[length_drop];lia
          simp
          rw[hcut1]
          refine part _ _ (take_sublist ..) (by lia) (by lia) fun low hlow=>?_
          simp[no_encTr]
          refine⟨d,ts,rfl,hd,hg.each,h1,h60,?_⟩
          rw[hcut2]
          refine part _ _ (List.drop_sublist ..) (by lia) (by lia) fun high hhigh=>?_
          rw[hF]
          exact q _ (.two (by rw[List.take_append_drop];exact hu) hp hs hlow hhigh)
        simp
        refine zE (by decide) (by decide) fun k g0 g1=>?_
        simp
        split
        · rw [half_map, half_map, <- List.map_append]
          have ul:=hu.length_eq
          refine⟨zM ?_,rest2 F _ hF ((half_perm us).trans hu)⟩
          have z1:=half_len true us
          have z2:=half_len false us
          simp only[length_map]
          lia
        · exact rest2 F us hF hu
      simp
      refine sortK_intro zo (keyI i) true [.int i] ts (0,[],0) (by lia) (fun t ht=>rfl) hg.nd rfl (fun i' j' e=>?_) (fun t ht=>?_) fun us hu _=>rest _ us hF hu
      · cases i' with
        | zero=>cases e;exact⟨_,rfl,rfl,rfl⟩
        | succ i'=>simp at e
      · simp
        have hil:i<t.2.1.length:=by rw[hg.each t ht];exact hi
        refine⟨_,1,_,.inr (.inl rfl),rfl,rfl,?_⟩
        refine⟨_,_,_,.inr (.inl rfl),rfl,xm (by rw[getElem?_map,getElem?_eq_getElem hil];rfl),?_⟩
        refine⟨_,0,_,.inr (.inl rfl),rfl,rfl,?_⟩
        unfold keyI
        rw[getElem?_eq_getElem hil]
        rfl
    simp[startD]
    refine zR zo (fun t=>.int t.1) ts (zM (by lia)) (fun t ht R hR=>?_) ?_
    · simp
      exact⟨_,0,_,.inr (.inl rfl),rfl,rfl,hR⟩
    · rw [nmE]
      refine⟨ts.map fun t=>t.1,rfl,by simp;lia,fun ns hp hs'=>?_⟩
      simp
      split
      · rename_i h2
        have h2':ts.length=1:=by lia
        obtain⟨t,rfl⟩:=List.length_eq_one_iff.mp h2'
        have e1:ns=[t.1]:=by simpa using hp
        subst e1
        refine⟨d,[t],rfl,hd,hg.each,by simp,by simp,?_⟩
        exact q _ (.one (hg.each t (by simp)))
      · rename_i h2
        exact main _ ns rfl (by lia) hp hs'
abbrev s__law_tree:Stmt:=top 26
abbrev N__law_tree:List Str:=["_law_left_here", "_law_house"]
theorem sc__law_tree:FnScope N__law_tree q2 (zi s__law_tree):=⟨rfl,rfl,rfl,by decide +kernel,rfl,by decide +kernel,by decide +kernel⟩
def t_ltree:TF:=fun ds n Q=>∃ (d:Nat) (ts:List Thing),ds=[.st,zN d ts]/\n=3/\1<=d/\d<=4/\GoodU d ts/\ts.length<=30/\(ts=[]->Q .non 3)/\(ts≠[]->∀ tr:Tr,TreeOf d ts tr->Q (xk tr) 3)
theorem ok_ltree(T:Blt mg)(F:Fun K "_law_tree" "_law_tree" s__law_tree f fd)(Y_grown:Fn P w K mg base "_law_grown" 34 4 (t_grown 30)):FnOk P w K mg base CX0 35 f fd q2 (spD K 2 t_ltree):=by
 refine Fun.okD F sc__law_tree (fun _ _ _ s H E G Z hr=>(ze (psd_if (zS (op_teq hr) re_teq (zW zA zV (zc 1) zf (fun _ _=>rfl)) (xi zd) (zP _)) (zh (zt pd_non)) xb)
  (zh (zt (zX Y_grown (hr.mono (by decide)) rfl (zb (zc 0) (zb (zW zA zV (zc 1) zf (fun _ _=>rfl)) (zb (zT call_list_of cr_list T.list bt_list (zb (zW zA zV (zc 1) zf (fun _ _=>rfl)) zd)) (zb zf zd))))))))) ?_
 rintro ds n Q hl ⟨d,ts,rfl,rfl,h1,hd,hg,hz,q0,q1⟩
 have nh:=no_house d ts
 simp[startD,nh]
 refine house1 ?_
 simp
 split
 ·rename_i h
  exact q0 h
 ·rename_i h
  have hlen:1<=ts.length:=by
   cases ts with
   | nil=>exact absurd rfl h
   | cons a b=>simp
  refine house0 (house1 ?_)
  simp
  exact⟨d,ts,0,rfl,rfl,h1,hd,hg,hlen,by lia,by lia,q1 h⟩
end
end K43
namespace K43
def stepI(p:Int × Int)(x:Int):Int:=max 0 (max (p.1-x) (x-p.2))
def stepsI(bd:List (Int × Int))(pl:List Int):Int:=((bd.zip pl).map fun z=>stepI z.1 z.2).sum
theorem stepsI_cons(p:Int × Int)(bd:List (Int × Int))(x:Int)(pl:List Int):stepsI (p::bd) (x::pl)=stepI p x+stepsI bd pl:=by
 show(((p,x)::bd.zip pl).map fun z=>stepI z.1 z.2).sum=_
 rw[map_cons,sum_cons]
 rfl
theorem steps_le:∀ (bd ce:List (Int × Int)) (pl:List Int),bd.length=ce.length->(∀ (i:Nat) p q,bd[i]?=some p->ce[i]?=some q->p.1<=q.1/\q.2<=p.2)->stepsI bd pl<=stepsI ce pl
 | [],[],pl,_,_=>Int.le_refl _
 | p::bd,q::ce,[],_,_=>by
  have e1:stepsI (p::bd) []=0:=rfl
  have e2:stepsI (q::ce) []=0:=rfl
  rw[e1,e2];exact Int.le_refl _
 | p::bd,q::ce,x::pl,hl,h=>by
  have ih:=steps_le bd ce pl (by simpa using hl) fun i a b ha hb=>h (i+1) a b (by simpa using ha) (by simpa using hb)
  obtain⟨h1,h2⟩:=h 0 p q rfl rfl
  rw[stepsI_cons,stepsI_cons]
  unfold stepI
  lia
noncomputable def bdI(d:Nat)(ts:List Thing):List (Int × Int):=(List.range d).map fun i=>(loN ts i,hiN ts i)
def encI(p:Int × Int):Pair:=(some p.1,some p.2)
theorem bdI_len(d:Nat)(ts:List Thing):(bdI d ts).length=d:=by unfold bdI;rw[length_map,List.length_range]
theorem bdI_at{d i:Nat}(ts:List Thing)(hi:i<d):(bdI d ts)[i]?=some (loN ts i,hiN ts i):=by
 unfold bdI;rw[getElem?_map,getElem?_range hi];rfl
theorem bdI_bds(d:Nat)(ts:List Thing):bdsT d (ts.map fun t=>t.2.1)=(bdI d ts).map encI:=by
 unfold bdsT bdI;rw[map_map];rfl
noncomputable def keyT(d:Nat)(kd:Option (List Int))(ts:List Thing):Int:=match kd with
 | some pl=>stepsI (bdI d ts) pl
 | none=>- maxL (ts.map fun t=>t.2.2)
noncomputable def zY(ts:List Thing):Int:=minL (ts.map fun t=>t.1)
noncomputable def keyP(d:Nat)(kd:Option (List Int))(ts:List Thing):Int × Int:=(keyT d kd ts,zY ts)
theorem leastN_mem{ts:List Thing}(h:1<=ts.length):∃ t∈ts,t.1=zY ts:=by
 have:=(minL_spec (exists_min (ns:=ts.map fun t=>t.1) (by rw[length_map];exact h))).1
 obtain⟨t,ht,e⟩:=List.mem_map.mp this
 exact⟨t,ht,e⟩
theorem leastN_le{ts:List Thing}{t:Thing}(h:t∈ts):zY ts<=t.1 :=
 (minL_spec (exists_min (ns:=ts.map fun t=>t.1) (by rw[length_map];exact List.length_pos_of_mem h))).2 _ (List.mem_map.mpr ⟨t,h,rfl⟩)
theorem keyT_le{d:Nat}{kd:Option (List Int)}{ls ts:List Thing}(h:∀ t∈ls,t∈ts)(h1:1<=ls.length):keyT d kd ts<=keyT d kd ls:=by
 obtain⟨t0,ht0⟩:=List.exists_mem_of_length_pos h1
 have h2:1<=ts.length:=List.length_pos_of_mem (h t0 ht0)
 cases kd with
 | some pl =>
  refine steps_le _ _ _ (by rw[bdI_len,bdI_len]) fun i p q hp hq=>?_
  have hi:i<d:=by have:=(List.getElem?_eq_some_iff.mp hp).1;rw[bdI_len] at this;exact this
  rw[bdI_at ts hi] at hp
  rw[bdI_at ls hi] at hq
  cases hp
  cases hq
  exact loN_sub h h1 h2
 | none =>
  have a:=(maxL_spec (exists_max (ns:=ls.map fun t=>t.2.2) (by rw[length_map];exact h1))).1
  have b:=(maxL_spec (exists_max (ns:=ts.map fun t=>t.2.2) (by rw[length_map];exact h2))).2
  obtain⟨t,ht,e⟩:=List.mem_map.mp a
  have:=b t.2.2 (List.mem_map.mpr ⟨t,h t ht,rfl⟩)
  show-maxL _<=- maxL _
  lia
theorem keyP_le{d:Nat}{kd:Option (List Int)}{t:Thing}{ts:List Thing}(h:t∈ts):ltP (keyP d kd [t]) (keyP d kd ts)=false:=by
 cases e:ltP (keyP d kd [t]) (keyP d kd ts) with
 | false=>rfl
 | true =>
  rw[ltP_iff] at e
  have h1:keyT d kd ts<=keyT d kd [t]:=keyT_le (fun u hu=>by rw[List.mem_singleton.mp hu];exact h) (by simp)
  have h2:zY ts<=t.1:=leastN_le h
  have h3:zY [t]=t.1:=by
   obtain⟨u,hu,e⟩:=leastN_mem (ts:=[t]) (by simp)
   rw[<- e,List.mem_singleton.mp hu]
  have e':keyT d kd [t]<keyT d kd ts\/keyT d kd [t]=keyT d kd ts/\zY [t]<zY ts:=e
  lia
theorem leastN_one(t:Thing):zY [t]=t.1:=by
 obtain⟨u,hu,e⟩:=leastN_mem (ts:=[t]) (by simp)
 rw[<- e,List.mem_singleton.mp hu]
theorem ltP_total{a b:Int × Int}(h1:ltP a b=false)(h2:a.2≠b.2):ltP b a=true:=by
 rw[ltP_iff]
 have:¬ (a.1<b.1\/(a.1=b.1/\a.2<b.2)):=fun z=>by rw[<- ltP_iff,h1] at z;cases z
 lia
theorem ltP_le{a b c:Int × Int}(h1:ltP b a=false)(h2:ltP c b=false):ltP c a=false:=by
 cases e:ltP c a with
 | false=>rfl
 | true =>
  have i1:¬ (b.1<a.1\/(b.1=a.1/\b.2<a.2)):=fun z=>by rw[<- ltP_iff,h1] at z;cases z
  have i2:¬ (c.1<b.1\/(c.1=b.1/\c.2<b.2)):=fun z=>by rw[<- ltP_iff,h2] at z;cases z
  rw[ltP_iff] at e
  lia
theorem TreeOf.names{d:Nat}{ts:List Thing}{tr:Tr}(h:TreeOf d ts tr):(namesOf tr).Perm (ts.map fun t=>t.1)/\(namesOf tr).Pairwise (·<=·):=by
  cases h with
  | one h=>exact⟨.refl _,by simp[namesOf]⟩
  | two p hp hs _ _=>exact⟨hp,hs⟩
theorem TreeOf.head{d:Nat}{ts:List Thing}{tr:Tr}(h:TreeOf d ts tr):∃ r,namesOf tr=zY ts::r:=by
 obtain⟨hp,hs⟩:=h.names
 cases hn:namesOf tr with
 | nil =>
  rw[hn] at hp
  have:=h.ne
  have:=hp.length_eq
  simp at this
  lia
 | cons a r =>
  refine⟨r,?_⟩
  rw[hn] at hp hs
  have:a=zY ts:=minL_eq (hp.mem_iff.mp (by simp)) fun b hb=>by
   rcases List.mem_cons.mp (hp.mem_iff.mpr hb) with rfl | hb
   ·exact Int.le_refl _
   ·exact(List.pairwise_cons.mp hs).1 b hb
  rw[this]
theorem maxL_perm{a b:List Int}(p:a.Perm b):maxL a=maxL b:=by
 cases ha:a with
 | nil =>
  rw[ha] at p
  rw[List.nil_perm.mp p]
 | cons x r =>
  rw[<- ha]
  have h0:0<a.length:=by rw[ha];simp
  obtain⟨m1,m2⟩:=maxL_spec (exists_max h0)
  exact maxL_eq (p.mem_iff.mp m1) fun y hy=>m2 y (p.mem_iff.mpr hy)
abbrev Qe:=List Thing × Tr
def keptQ(pl:List Pair)(q:List Qe):List Qe:=q.filter fun x=>!apartT (bdOf x.2) pl
def zU(q:List Qe):List Thing:=q.flatMap fun x=>x.1
structure QOk(d:Nat)(hs:List Thing)(q:List Qe):Prop where
 tree:∀ x∈q,TreeOf d x.1 x.2
 sub:∀ t∈zU q,t∈hs
 nd:((zU q).map fun t=>t.1).Nodup
theorem mem_flatQ{q:List Qe}{t:Thing}:t∈zU q↔∃ x∈q,t∈x.1:=by unfold zU;exact List.mem_flatMap
theorem xp(x:Qe)(q:List Qe):zU (x::q)=x.1++zU q:=by unfold zU;rw[List.flatMap_cons]
theorem flatQ_append(p q:List Qe):zU (p++q)=zU p++zU q:=by unfold zU;rw[List.flatMap_append]
theorem flatQ_perm{p q:List Qe}(h:p.Perm q):(zU p).Perm (zU q):=h.flatMap_right _
theorem QOk.perm{d:Nat}{hs:List Thing}{p q:List Qe}(h:QOk d hs q)(e:p.Perm q):QOk d hs p :=
 ⟨fun x hx=>h.tree x (e.mem_iff.mp hx),fun t ht=>h.sub t ((flatQ_perm e).mem_iff.mp ht),((flatQ_perm e).map _).nodup_iff.mpr h.nd⟩
theorem QOk.sublist{d:Nat}{hs:List Thing}{p q:List Qe}(h:QOk d hs q)(e:p.Sublist q):QOk d hs p:=by
 have hf:(zU p).Sublist (zU q):=by
  clear h
  induction e with
  | slnil=>exact .refl _
  | cons x _ ih=>rw[xp];exact ih.trans (List.sublist_append_right ..)
  | cons_cons x _ ih=>rw[xp,xp];exact(List.Sublist.refl _).append ih
 exact⟨fun x hx=>h.tree x (e.mem hx),fun t ht=>h.sub t (hf.mem ht),(hf.map _).nodup h.nd⟩
theorem QOk.tail{d:Nat}{hs:List Thing}{x:Qe}{q:List Qe}(h:QOk d hs (x::q)):QOk d hs q:=h.sublist (List.sublist_cons_self ..)
theorem QOk.apartN{d:Nat}{hs:List Thing}{x:Qe}{q:List Qe}(h:QOk d hs (x::q)){t u:Thing}(ht:t∈x.1)(hu:u∈zU q):t.1≠u.1:=by
 have:=h.nd
 rw[xp,map_append,nodup_append] at this
 exact this.2.2 _ (List.mem_map.mpr ⟨t,ht,rfl⟩) _ (List.mem_map.mpr ⟨u,hu,rfl⟩)
theorem QOk.heads{d:Nat}{hs:List Thing}:∀ {q:List Qe},QOk d hs q->(q.map fun x=>zY x.1).Nodup
 | [],_=>nodup_nil
 | x::q,h=>by
  refine List.nodup_cons.mpr ⟨fun z=>?_,QOk.heads h.tail⟩
  obtain⟨y,hy,e⟩:=List.mem_map.mp z
  obtain⟨t,ht,e1⟩:=leastN_mem (h.tree x (by simp)).ne
  obtain⟨u,hu,e2⟩:=leastN_mem (h.tree y (by simp[hy])).ne
  exact h.apartN ht (mem_flatQ.mpr ⟨y,hy,hu⟩) (by rw[e1,e2];exact e.symm)
theorem nodup_of_map{α β γ:Type}{f:α->β}{g:α->γ}{l:List α}(hg:∀ a b,f a=f b->g a=g b)(h:(l.map g).Nodup):(l.map f).Nodup:=by
 rw[List.nodup_iff_pairwise_ne,pairwise_map] at h ⊢
 exact h.imp fun hne e=>hne (hg _ _ e)
theorem QOk.keys{d:Nat}{hs:List Thing}{q:List Qe}(kd:Option (List Int))(h:QOk d hs q):(q.map fun x=>keyP d kd x.1).Nodup :=
 nodup_of_map (g:=fun x:Qe=>zY x.1) (fun a b e=>congrArg Prod.snd e) h.heads
theorem atP_map{α β:Type}{f:α->Int × Int}{g:α->β}:∀ {q:List α} {x:α},x∈q->(q.map f).Nodup->atP (q.map f) (q.map g) (f x)=some (g x)
 | [],x,h,_=>by simp at h
 | y :: q, x, h, hn => by
  obtain⟨h1,h2⟩:=List.nodup_cons.mp hn
  show(if f y=f x then some (g y) else atP (q.map f) (q.map g) (f x))=_
  rcases List.mem_cons.mp h with rfl | h
  ·exact if_pos rfl
  ·rw [if_neg fun e => h1 (List.mem_map.mpr ⟨x, h, e.symm⟩)]
   exact atP_map h h2
def outQ{α:Type}(f:α->Int × Int)(q:List α)(k:Int × Int):List α:=q.filter fun y=>decide (f y≠k)
theorem dropP_map{α:Type}(f:α->Int × Int)(q:List α)(k:Int × Int):dropP (q.map f) k=(outQ f q k).map f:=by
 unfold dropP outQ
 rw[List.filter_map]
 rfl
theorem dropE_map{α β:Type}(f:α->Int × Int)(g:α->β)(k:Int × Int):∀ q:List α,dropE (q.map f) (q.map g) k=(outQ f q k).map g
 | []=>rfl
 | y :: q => by
  have ih:=dropE_map f g k q
  show(if f y=k then dropE (q.map f) (q.map g) k else g y::dropE (q.map f) (q.map g) k)=_
  by_cases e:f y=k
  ·rw [if_pos e, ih]
   unfold outQ
   rw[filter_cons_of_neg (by simpa using e)]
  ·rw [if_neg e, ih]
   unfold outQ
   rw[filter_cons_of_pos (by simpa using e),map_cons]
theorem out_perm{α:Type}{f:α->Int × Int}:∀ {q:List α} {x:α},x∈q->(q.map f).Nodup->(x::outQ f q (f x)).Perm q
 | [],x,h,_=>by simp at h
 | y :: q, x, h, hn => by
  obtain⟨h1,h2⟩:=List.nodup_cons.mp hn
  unfold outQ
  rcases List.mem_cons.mp h with rfl | h
  ·rw[filter_cons_of_neg (by simp),List.filter_eq_self.mpr fun z hz=>by
    simp only[ne_eq,decide_not,Bool.not_eq_eq_eq_not,Bool.not_true,decide_eq_false_iff_not]
    exact fun e=>h1 (List.mem_map.mpr ⟨z,hz,e⟩)]
  ·have e : f y ≠ f x := fun e => h1 (List.mem_map.mpr ⟨x, h, e.symm⟩)
   rw[filter_cons_of_pos (by simpa using e)]
   exact(List.Perm.swap y x _).trans ((out_perm h h2).cons y)
theorem place_in{d:Nat}{ts:List Thing}(hl:∀ t∈ts,t.2.1.length=d){t:Thing}(ht:t∈ts):hasT (bdsT d (ts.map fun t=>t.2.1)) t.2.1=true:=by
 have hne:1<=ts.length:=List.length_pos_of_mem ht
 refine has_iff.mpr fun i q x hq hx=>?_
 have hi:i<d:=by have:=(List.getElem?_eq_some_iff.mp hq).1;rw[bds_len] at this;exact this
 rw[bds_at ts hi] at hq
 cases hq
 have hm:x∈colN ts i:=by rw[colN_eq];exact List.mem_map.mpr ⟨t,ht,by rw[hx];rfl⟩
 have:=loN_le (i:=i) hne hm
 have:=le_hiN (i:=i) hne hm
 simp[liesT]
 lia
theorem TreeOf.apart{d:Nat}{ts:List Thing}{tr:Tr}(h:TreeOf d ts tr)(hd:1<=d){pl:List Pair}(hp:pl.length=d)(ha:apartT (bdOf tr) pl=true):(ts.filter fun t=>hasT pl t.2.1)=[]:=by
 rw[List.filter_eq_nil_iff]
 intro t ht hf
 have hl:=h.lens
 rw[h.bd] at ha
 have:=apart_has (ps:=bdsT d (ts.map fun t=>t.2.1)) (qs:=pl) (p:=t.2.1) (by rw[bds_len,hl t ht]) (by rw[hp,hl t ht]) (by rw[hl t ht];exact hd) (place_in hl ht) hf
 rw[ha] at this
 cases this
theorem one_fits{d:Nat}{t:Thing}(ht:t.2.1.length=d)(hd:1<=d){pl:List Pair}(hp:pl.length=d)(ha:apartT (bdsT d [t.2.1]) pl=false):hasT pl t.2.1=true:=by
 have nc:=one_lot hd ht hp
 unfold lotT at nc
 rw[ha] at nc
 simp only[Bool.false_eq_true,if_false] at nc
 have hw:withinT (bdsT d [t.2.1]) pl=true:=by
  cases h:withinT (bdsT d [t.2.1]) pl with
  | true=>rfl
  | false=>rw[h] at nc;simp at nc
 have e:commonT (bdsT d [t.2.1]) pl=bdsT d [t.2.1]:=of_decide_eq_true (by unfold withinT at hw;exact hw)
 have:=has_common (ps:=bdsT d [t.2.1]) (qs:=pl) (p:=t.2.1) (by rw[bds_len,ht]) (by rw[hp,ht]) (by rw[ht];exact hd)
 have z:=place_in (d:=d) (ts:=[t]) (fun u hu=>by rw[List.mem_singleton.mp hu];exact ht) (t:=t) (by simp)
 rw[e,show hasT (bdsT d [t.2.1]) t.2.1=true from z,Bool.true_and] at this
 exact this.symm
def fitT(pl:List Pair)(ts:List Thing):List Thing:=ts.filter fun t=>hasT pl t.2.1
theorem fitT_append(pl:List Pair)(a b:List Thing):fitT pl (a++b)=fitT pl a++fitT pl b:=List.filter_append ..
theorem fitT_perm{pl:List Pair}{a b:List Thing}(h:a.Perm b):(fitT pl a).Perm (fitT pl b):=h.filter _
def ltK(d:Nat)(kd:Option (List Int))(a b:Thing):Prop:=ltP (keyP d kd [a]) (keyP d kd [b])=true
structure DOk(d:Nat)(hs:List Thing)(kd:Option (List Int))(pl:List Pair)(q:List Qe)(acc:List Thing):Prop where
 ok:QOk d hs q
 inb:∀ x∈q,apartT (bdOf x.2) pl=false
 perm:(acc++fitT pl (zU q)).Perm (fitT pl hs)
 up:acc.Pairwise (ltK d kd)
 below:∀ a∈acc,∀ t∈zU q,ltK d kd a t
theorem kept_fit{d:Nat}{hs:List Thing}{pl:List Pair}(hd:1<=d)(hp:pl.length=d):∀ {q:List Qe},(∀ x∈q,TreeOf d x.1 x.2)->fitT pl (zU (keptQ pl q))=fitT pl (zU q)
 | [],_=>rfl
 | x :: q, h => by
  have ih:=kept_fit (hs:=hs) hd hp (q:=q) fun y hy=>h y (mem_cons_of_mem _ hy)
  rw[xp,fitT_append]
  cases ha:apartT (bdOf x.2) pl with
  | true =>
   have e:keptQ pl (x::q)=keptQ pl q:=by unfold keptQ;rw[filter_cons_of_neg (by simp[ha])]
   have z:fitT pl x.1=[]:=(h x (by simp)).apart hd hp ha
   rw[e,ih,z,nil_append]
  | false =>
   have e:keptQ pl (x::q)=x::keptQ pl q:=by unfold keptQ;rw[filter_cons_of_pos (by simp[ha])]
   rw[e,xp,fitT_append,ih]
section
variable {d:Nat} {hs:List Thing} {kd:Option (List Int)} {pl:List Pair} {q:List Qe} {acc:List Thing}
theorem DOk.start{tr:Tr}(hd:1<=d)(hp:pl.length=d)(h:TreeOf d hs tr)(hn:(hs.map fun t=>t.1).Nodup):DOk d hs kd pl (keptQ pl [(hs,tr)]) []:=by
 have ok:QOk d hs [(hs,tr)]:=⟨fun x hx=>by rw[List.mem_singleton.mp hx];exact h,fun t ht=>by simpa [zU] using ht,by simpa [zU] using hn⟩
 refine⟨ok.sublist filter_sublist,fun x hx=>by simpa using (List.mem_filter.mp hx).2,?_,.nil,by simp⟩
 rw[nil_append,kept_fit (hs:=hs) hd hp ok.tree]
 simp[zU]
theorem DOk.none(h:hs=[]):DOk d hs kd pl [] []:=by
 subst h
 exact⟨⟨by simp,by simp[zU],by simp[zU]⟩,by simp,by simp[fitT,zU],.nil,by simp⟩
theorem DOk.leaf{t:Thing}{tr:Tr}(hd:1<=d)(hp:pl.length=d)(h:DOk d hs kd pl q acc)(hx:([t],tr)∈q)(hm:∀ y∈q,ltP (keyP d kd y.1) (keyP d kd [t])=false) :
  DOk d hs kd pl (outQ (fun y:Qe=>keyP d kd y.1) q (keyP d kd [t])) (acc++[t]):=by
 have hpm:(([t],tr)::outQ (fun y:Qe=>keyP d kd y.1) q (keyP d kd [t])).Perm q:=out_perm (f:=fun y:Qe=>keyP d kd y.1) hx (h.ok.keys kd)
 have ok1:=h.ok.perm hpm
 have tt:=h.ok.tree _ hx
 have hl:t.2.1.length=d:=tt.lens t (by simp)
 have hf:hasT pl t.2.1=true:=one_fits hl hd hp (by have:=h.inb _ hx;rw[tt.bd] at this;exact this)
 have hflat:=flatQ_perm hpm
 rw[xp] at hflat
 generalize outQ (fun y:Qe=>keyP d kd y.1) q (keyP d kd [t])=q' at *
 refine⟨ok1.tail,fun x hx'=>h.inb x (hpm.mem_iff.mp (mem_cons_of_mem _ hx')),?_,?_,fun a ha u hu=>?_⟩
 ·refine List.Perm.trans ?_ h.perm
  rw[append_assoc]
  refine List.Perm.append_left acc ?_
  refine List.Perm.trans ?_ (fitT_perm hflat)
  rw[fitT_append]
  have e:fitT pl [t]=[t]:=by simp[fitT,hf]
  show([t]++fitT pl (zU q')).Perm (fitT pl [t]++fitT pl (zU q'))
  rw[e]
 ·rw [List.pairwise_append]
  refine⟨h.up,by simp,fun a ha b hb=>?_⟩
  rw[List.mem_singleton.mp hb]
  exact h.below a ha t (mem_flatQ.mpr ⟨_,hx,by simp⟩)
 ·have hu' : u ∈ zU q := hflat.mem_iff.mp (List.mem_append_right _ hu)
  rcases List.mem_append.mp ha with ha | ha
  ·exact h.below a ha u hu'
  ·rw [List.mem_singleton.mp ha]
   obtain⟨y,hy,hyu⟩:=mem_flatQ.mp hu
   have i1:=hm y (hpm.mem_iff.mp (mem_cons_of_mem _ hy))
   have i2:=keyP_le (d:=d) (kd:=kd) hyu
   refine ltP_total (ltP_le i1 i2) ?_
   show zY [u]≠zY [t]
   rw[leastN_one,leastN_one]
   exact fun e=>ok1.apartN (t:=t) (by simp) hu e.symm
theorem DOk.open{ts ls us:List Thing}{tr lo hi:Tr}(hd:1<=d)(hp:pl.length=d)(h:DOk d hs kd pl q acc)(hx:(ts,tr)∈q)(h1:(ls++us).Perm ts)(h2:TreeOf d ls lo)(h3:TreeOf d us hi) :
  DOk d hs kd pl (outQ (fun y:Qe=>keyP d kd y.1) q (keyP d kd ts)++keptQ pl [(ls,lo),(us,hi)]) acc/\QOk d hs (outQ (fun y:Qe=>keyP d kd y.1) q (keyP d kd ts)++[(ls,lo),(us,hi)]):=by
 have hpm:((ts,tr)::outQ (fun y:Qe=>keyP d kd y.1) q (keyP d kd ts)).Perm q:=out_perm (f:=fun y:Qe=>keyP d kd y.1) hx (h.ok.keys kd)
 have ok1:=h.ok.perm hpm
 have hflat:=flatQ_perm hpm
 rw[xp] at hflat
 generalize outQ (fun y:Qe=>keyP d kd y.1) q (keyP d kd ts)=q' at *
 have e0:zU [(ls,lo),(us,hi)]=ls++us:=by simp[zU]
 have hfl:(zU (q'++[(ls,lo),(us,hi)])).Perm (zU q):=by
  rw[flatQ_append,e0]
  exact((List.Perm.append_left _ h1).trans List.perm_append_comm).trans hflat
 have okB:QOk d hs (q'++[(ls,lo),(us,hi)]):=⟨fun x hx'=>by
   rcases List.mem_append.mp hx' with hx' | hx'
   ·exact ok1.tree x (mem_cons_of_mem _ hx')
   ·simp only [List.mem_cons, List.not_mem_nil, or_false] at hx'
    rcases hx' with rfl | rfl
    ·exact h2
    ·exact h3,fun t ht=>h.ok.sub t (hfl.mem_iff.mp ht),(hfl.map _).nodup_iff.mpr h.ok.nd⟩
 have hsl:(q'++keptQ pl [(ls,lo),(us,hi)]).Sublist (q'++[(ls,lo),(us,hi)]):=(List.Sublist.refl _).append filter_sublist
 refine⟨⟨okB.sublist hsl,fun x hx'=>?_,?_,h.up,fun a ha t ht=>?_⟩,okB⟩
 ·rcases List.mem_append.mp hx' with hx' | hx'
  ·exact h.inb x (hpm.mem_iff.mp (mem_cons_of_mem _ hx'))
  ·simpa using (List.mem_filter.mp hx').2
 ·refine List.Perm.trans (List.Perm.append_left acc ?_) h.perm
  rw[flatQ_append,fitT_append,kept_fit (hs:=hs) hd hp (fun x hx'=>okB.tree x (mem_append_right _ hx')),<- fitT_append,<- flatQ_append]
  exact fitT_perm hfl
 ·refine h.below a ha t (hfl.mem_iff.mp ?_)
  obtain⟨x,hx',ht'⟩:=mem_flatQ.mp ht
  exact mem_flatQ.mpr ⟨x,hsl.mem hx',ht'⟩
theorem DOk.told(hn : (hs.map fun t => t.1).Nodup)(h : DOk d hs kd pl q acc){all : List Thing}(ha : all.Perm (fitT pl hs))(hs' : all.Pairwise (ltK d kd)) : acc = all.take acc.length := by
 have irr:∀ a,¬ ltK d kd a a:=fun a z=>by unfold ltK at z;rw[ltP_irr] at z;cases z
 have tr:∀ a b c,ltK d kd a b->ltK d kd b c->ltK d kd a c:=fun a b c=>ltP_trans
 have key : ∀ (acc all rest : List Thing), (acc ++ rest).Perm all -> all.Pairwise (ltK d kd) -> acc.Pairwise (ltK d kd) -> (∀ a ∈ acc, ∀ t ∈ rest, ltK d kd a t) -> acc = all.take acc.length := by
  intro acc
  induction acc with
  | nil=>intro all rest _ _ _ _;rfl
  | cons a acc ih =>
   intro all rest hp hs hu hb
   cases all with
   | nil=>exact absurd hp.length_eq (by simp)
   | cons b all =>
    obtain⟨s1,s2⟩:=List.pairwise_cons.mp hs
    obtain⟨u1,u2⟩:=List.pairwise_cons.mp hu
    have e:a=b:=by
     have hb':b∈a::(acc++rest):=hp.mem_iff.mpr (by simp)
     have ha':a∈b::all:=hp.mem_iff.mp (by simp)
     rcases List.mem_cons.mp hb' with e | hb'
     ·exact e.symm
     ·rcases List.mem_cons.mp ha' with e | ha'
      ·exact e
      ·have i1 := s1 a ha'
       have i2:ltK d kd a b:=by
        rcases List.mem_append.mp hb' with z | z
        ·exact u1 b z
        ·exact hb a (by simp) b z
       exact absurd (tr _ _ _ i1 i2) (irr b)
    subst e
    rw[length_cons,List.take_succ_cons,<- ih all rest (List.Perm.cons_inv hp) s2 u2 fun x hx t ht=>hb x (mem_cons_of_mem _ hx) t ht]
 exact key acc all (fitT pl (zU q)) (h.perm.trans ha.symm) hs' h.up fun a ha' t ht=>h.below a ha' t (List.mem_filter.mp ht).1
end
end K43
namespace K43
def encKind:Option (List Int)->D
 | some pl=>.tup [.str "near",zg pl]
 | none=>.tup [.str "best"]
@[simp] theorem no_encKind(k:Option (List Int)):zn (encKind k)=true:=by cases k<;>rfl
def wOf(hs:List Thing)(x:Int):Int:=((hs.find? fun t=>t.1 == x).map fun t=>t.2.2).getD 0
theorem wOf_eq:∀ {hs:List Thing} {t:Thing},t∈hs->(hs.map fun t=>t.1).Nodup->wOf hs t.1=t.2.2
 | [],t,h,_=>by simp at h
 | s :: hs, t, h, hn => by
  have hn':=List.nodup_cons.mp hn
  unfold wOf
  rw[find?_cons]
  rcases List.mem_cons.mp h with rfl | h
  ·rw[beq_self_eq_true];rfl
  ·have ne : (s.1 == t.1) = false := by
    rw[beq_eq_false_iff_ne]
    intro e
    exact hn'.1 (List.mem_map.mpr ⟨t,h,e.symm⟩)
   rw[ne]
   exact wOf_eq h hn'.2
theorem dx_byN{hs:List Thing}(hn:(hs.map fun t=>t.1).Nodup){t:Thing}(ht:t∈hs){R:D->Prop}(h:R (zo t)):rdDx (byN hs) (.int t.1) R:=by
 unfold byN
 refine⟨_,_,Sum.inl t.1,zo t,rfl,rfl,atK_names ht hn,h⟩
theorem steps_sw:∀ (bd:List (Int × Int)) (pl:List Int),((pl.zip bd).map fun z=>max (z.2.1-z.1) (max 0 (z.1-z.2.2)))=(bd.zip pl).map fun z=>stepI z.1 z.2
 | [],pl=>by simp
 | _::_,[]=>by simp
 | p::bd,x::pl=>by
  rw[zip_cons_cons,zip_cons_cons,map_cons,map_cons,steps_sw bd pl]
  congr 1
  unfold stepI
  show max (p.1-x) (max 0 (x-p.2))=max 0 (max (p.1-x) (x-p.2))
  lia
theorem head_at{a:Int}{r:List Int}:atI ((a::r).map D.int) 0=some (.int a):=xm (j:=0) rfl
section
variable {P:Program} {w:World} {K:W.Frag} {mg:Str->Option Value} {base:Heap} {f:Addr} {fd:FuncData}
abbrev s_steps_to:Stmt:=top 16
abbrev N_steps_to:List Str:=["place", "limits"]
theorem sc_steps_to:FnScope N_steps_to ["place", "limits"] (zi s_steps_to):=⟨rfl,rfl,rfl,by decide +kernel,rfl,by decide +kernel,by decide +kernel⟩
theorem nd_steps_to_0:("number" :: "least" :: "greatest" :: N_steps_to:List Str).Nodup:=by decide +kernel
def t_steps_to:TF:=fun ds n Q=>∃ (pl:List Int) (bd:List (Int × Int)),ds=[zg pl,zq (bd.map encI)]/\pl.length<=1000/\Q (.int (stepsI bd pl)) n
theorem ok_steps_to(T:Blt mg)(T2:Blt2 mg)(F:Fun K "steps_to" "steps_to" s_steps_to f fd):FnOk P w K mg base CX0 1 f fd ["place", "limits"] (spD K 2 t_steps_to):=by
 refine Fun.okD F sc_steps_to (fun _ _ _ s H E G Z hr=>(zh (zt (zx (call_sum rfl) cr_sum T2.sum bt_sum (zb (pd_comp (own:=["number", "least", "greatest"]) (M:=N_steps_to) (compOk (by rfl)) rfl (pid_zip rfl T.zip (zb (zc 0) (zb (zc 1) zd))) (fun _ _ _ _=>(pgd_tup (k:=2) rfl rfl (zk (zj (i:=0) nd_steps_to_0 rfl (lo rfl) (by decide)) (zk (pgd_tup (k:=2) rfl rfl (zk (zj (i:=1) nd_steps_to_0 rfl (lo rfl) (by decide)) (zk (zj (i:=2) nd_steps_to_0 rfl (lo rfl) (by decide)) xo))) xo)))) (fun _ _ _ _=>xa) (fun _ _ _ _=>(zx (call_max3 rfl) cr_max3 T.max bt_max (zb (pd_sub (zc 1) (zc 0)) (zb zf (zb (pd_sub (zc 0) (zc 2)) zd)))))) zd))))) ?_
 rintro ds n Q hl ⟨pl,bd,rfl,hz,q⟩
 have ez:zipD (pl.map D.int) ((bd.map encI).map zF)=(pl.zip bd).map fun z=>.tup [.int z.1,zF (encI z.2)]:=by
  unfold zipD
  rw[map_map,List.zipWith_map,List.map_zip_eq_zipWith]
  rfl
 simp[startD]
 refine(q_kZip (d1:=zg pl) (d2:=zq (bd.map encI)) rfl rfl).mpr ?_
 rw[ez]
 refine zR (fun z:Int × (Int × Int)=>.tup [.int z.1,zF (encI z.2)]) (fun z=>.int (max (z.2.1-z.1) (max 0 (z.1-z.2.2)))) (pl.zip bd) (Nat.le_trans (by rw[length_zip];lia) (zM (k:=1000) (by lia))) (fun z hz R hR=>?_) ?_
 ·simp [zF, encI]
  exact hR
 ·have e : ((pl.zip bd).map fun z => D.int (max (z.2.1 - z.1) (max 0 (z.1 - z.2.2)))) = ((bd.zip pl).map fun z => stepI z.1 z.2).map D.int := by
   rw[<- steps_sw,map_map]
   rfl
  exact⟨(bd.zip pl).map (fun z:(Int × Int) × Int=>stepI z.1 z.2),by rw[e],q⟩
abbrev s_key_by:Stmt:=top 17
abbrev N_key_by:List Str:=["by_name", "tree", "kind", "names", "limits", "low", "high"]
theorem sc_key_by:FnScope N_key_by ["by_name", "tree", "kind"] (zi s_key_by):=⟨rfl,rfl,rfl,by decide +kernel,rfl,by decide +kernel,by decide +kernel⟩
theorem nd_key_by_0:("name" :: N_key_by:List Str).Nodup:=by decide +kernel
def t_key_by:TF:=fun ds n Q=>∃ (d:Nat) (hs ts:List Thing) (tr:Tr) (kd:Option (List Int)),ds=[byN hs,xk tr,encKind kd]/\(hs.map fun t=>t.1).Nodup/\TreeOf d ts tr/\(∀ t∈ts,t∈hs)/\ts.length<=1000/\(∀ pl,kd=some pl->pl.length<=1000)/\Q (.prT (keyP d kd ts)) n
theorem ok_key_by(T:Blt mg)(F:Fun K "key_by" "key_by" s_key_by f fd)(F_steps_to:Fn P w K mg base "steps_to" 1 2 t_steps_to):FnOk P w K mg base CX0 2 f fd ["by_name", "tree", "kind"] (spD K 3 t_key_by):=by
 refine Fun.okD F sc_key_by (fun _ _ _ s H E G Z hr=>(ze (psd_unp (m:=7) (zc 1) (pgd_tup (k:=4) rfl rfl (zk (zj (i:=3) sc_key_by.nd rfl (lo rfl) (by decide)) (zk (zj (i:=4) sc_key_by.nd rfl (lo rfl) (by decide)) (zk (zj (i:=5) sc_key_by.nd rfl (lo rfl) (by decide)) (zk (zj (i:=6) sc_key_by.nd rfl (lo rfl) (by decide)) xo))))))
  (ze (psd_if (zS op_eq re_eq (zW zA zV (zc 2) zf (fun _ _=>rfl)) pd_str (zP _)) (zh (zt (pd_pr (zb (zX F_steps_to (hr.mono (by decide)) rfl (zb (zW zA zV (zc 2) zf (fun _ _=>rfl)) (zb (zc 4) zd))) (zb (zW zA zV (zc 3) zf (fun _ _=>rfl)) zd))))) xb)
  (zh (zt (pd_pr (zb (pd_neg (zx (call_max1 rfl) cr_max1 T.max bt_max (zb (pd_comp (own:=["name"]) (M:=N_key_by) (compOk (by rfl)) rfl (xj rfl (zc 3)) (fun _ _ _ _=>(zj (i:=0) nd_key_by_0 rfl (lo rfl) (by decide))) (fun _ _ _ _=>xa) (fun _ _ _ _=>(zW zA zV (pd_dix (hu_of hr) (zc 1) (zc 0) (fun _ _=>rfl)) zf (fun _ _=>rfl)))) zd))) (zb (zW zA zV (zc 3) zf (fun _ _=>rfl)) zd)))))))) ?_
 rintro ds n Q hl ⟨d,hs,ts,tr,kd,rfl,hn,ht,hsub,hz,hk,q⟩
 obtain⟨ta,tb,et,na,nb⟩:=encTr_eq tr
 obtain⟨r,hr1⟩:=ht.head
 obtain⟨hnp,_⟩:=ht.names
 have hd0:atI ((namesOf tr).map D.int) 0=some (.int (zY ts)):=by rw[hr1];exact head_at
 rw[et]
 simp[startD,na,nb]
 cases kd with
 | some pl =>
  refine⟨_,0,_,.inr (.inl rfl),rfl,rfl,?_⟩
  simp
  refine⟨_,1,_,.inr (.inl rfl),rfl,rfl,?_⟩
  refine⟨pl,bdI d ts,by rw[ht.bd,bdI_bds],hk pl rfl,?_⟩
  exact⟨_,hd0,(keyP d (some pl) ts).1,(keyP d (some pl) ts).2,⟨rfl,rfl⟩,q⟩
 | none =>
  refine⟨_,0,_,.inr (.inl rfl),rfl,rfl,?_⟩
  simp
  rw[if_neg (by decide)]
  refine zR D.int (fun x=>.int (wOf hs x)) (namesOf tr) (zM (by rw[hnp.length_eq,length_map];lia)) (fun x hx R hR=>?_) ?_
  ·obtain ⟨u, hu, rfl⟩ := List.mem_map.mp (hnp.mem_iff.mp hx)
   simp
   refine dx_byN hn (hsub u hu) ?_
   refine⟨_,2,_,.inr (.inl rfl),rfl,rfl,?_⟩
   rw[wOf_eq (hsub u hu) hn] at hR
   exact hR
  ·have e : ((namesOf tr).map fun x => D.int (wOf hs x)) = ((namesOf tr).map (wOf hs)).map D.int := by rw [List.map_map]; rfl
   have e2:maxL ((namesOf tr).map (wOf hs))=maxL (ts.map fun t=>t.2.2):=by
    refine(maxL_perm (hnp.map (wOf hs))).trans ?_
    rw[map_map]
    congr 1
    exact map_congr_left fun t ht=>wOf_eq (hsub t ht) hn
   rw[e]
   refine kMax_intro (by rw[length_map,hr1];simp) ?_
   rw[e2]
   simp
   exact⟨_,hd0,(keyP d none ts).1,(keyP d none ts).2,⟨rfl,rfl⟩,q⟩
end
end K43
namespace K43
noncomputable def ksQ(d:Nat)(kd:Option (List Int))(q:List Qe):List (Int × Int):=q.map fun x=>keyP d kd x.1
def esQ(q:List Qe):List D:=q.map fun x=>xk x.2
theorem keptQ_take{pl:List Pair}{q:List Qe}{i:Nat}{x:Qe}(h:q[i]?=some x):keptQ pl (q.take (i+1))=keptQ pl (q.take i)++(if apartT (bdOf x.2) pl=true then [] else [x]):=by
 unfold keptQ
 rw[take_add_one,h,List.filter_append]
 congr 1
 show List.filter _ [x]=_
 cases ha:apartT (bdOf x.2) pl<;>simp[ha]
def HashOk(d:Nat)(kd:Option (List Int))(hs:List Thing):Prop:=∀ ls us:List Thing,(∀ t∈ls,t∈hs)->(∀ t∈us,t∈hs)->1<=ls.length->1<=us.length->zY ls≠zY us->hashP (keyP d kd ls)≠hashP (keyP d kd us)
def xh(q:List Qe):Nat:=(q.map fun x=>sizeT x.2).sum
theorem sizesQ_perm{p q:List Qe}(h:p.Perm q):xh p=xh q:=by
 unfold xh
 induction h with
 | nil=>rfl
 | cons x _ ih=>simp only[map_cons,sum_cons,ih]
 | swap x y l=>simp only[map_cons,sum_cons];lia
 | trans _ _ h1 h2=>exact h1.trans h2
theorem sizesQ_append(p q:List Qe):xh (p++q)=xh p+xh q:=by unfold xh;rw[map_append,List.sum_append]
theorem sizesQ_sub{p q:List Qe}(h:p.Sublist q):xh p<=xh q:=by
 induction h with
 | slnil=>exact Nat.le_refl _
 | cons x _ ih=>simp[xh] at ih ⊢;lia
 | cons_cons x _ ih=>simp[xh] at ih ⊢;lia
section
variable {P:Program} {w:World} {K:W.Frag} {mg:Str->Option Value} {base:Heap} {f:Addr} {fd:FuncData}
abbrev s_keyed:Stmt:=top 18
abbrev N_keyed:List Str:=["by_name", "trees", "plain", "kind"]
theorem sc_keyed:FnScope N_keyed q3 (zi s_keyed):=⟨rfl,rfl,rfl,by decide +kernel,rfl,by decide +kernel,by decide +kernel⟩
theorem nd_keyed_0:("tree" :: N_keyed:List Str).Nodup:=by decide +kernel
def t_keyed:TFT:=fun ds n R=>∃ (d:Nat) (hs:List Thing) (kd:Option (List Int)) (pl:List Pair) (q:List Qe),ds=[byN hs,.lst (esQ q),zq pl,encKind kd]/\1<=d/\d<=1000/\pl.length=d/\QOk d hs q/\q.length<=2/\(hs.map fun t=>t.1).Nodup/\hs.length<=60/\(∀ p,kd=some p->p.length<=1000) /\
 R (ksQ d kd (keptQ pl q)) (esQ (keptQ pl q)) n
theorem QOk.len{d:Nat}{hs:List Thing}{q:List Qe}(h:QOk d hs q)(hz:hs.length<=60){x:Qe}(hx:x∈q):x.1.length<=1000:=by
 have h1:(x.1.map fun t=>t.1).Nodup:=by
  have hs':x.1.Sublist (zU q):=by
   clear h
   induction q with
   | nil=>simp at hx
   | cons y q ih =>
    rw[xp]
    rcases List.mem_cons.mp hx with rfl | hx
    ·exact List.sublist_append_left ..
    ·exact(ih hx).trans (List.sublist_append_right ..)
  exact(hs'.map _).nodup h.nd
 have h2:x.1.Nodup:=by
  rw[List.nodup_iff_pairwise_ne,pairwise_map] at h1
  rw[List.nodup_iff_pairwise_ne]
  exact h1.imp fun hne e=>hne (congrArg _ e)
 have:=h2.length_le_of_subset (l₂:=hs) fun t ht=>h.sub t (mem_flatQ.mpr ⟨x,hx,ht⟩)
 lia
theorem ok_keyed(T:Blt mg)(F:Fun K "keyed" "keyed" s_keyed f fd)(F_lie_apart:Fn P w K mg base "lie_apart" 4 2 t_lie_apart)(F_key_by:Fn P w K mg base "key_by" 2 3 t_key_by):FnOk P w K mg base CX0 6 f fd q3 (spT K 4 t_keyed):=by
 refine Fun.okT (k:=5) F sc_keyed rfl (fun _ _ _ s H E G Z hr=>(pdT_dcomp hr (own:=["tree"]) (M:=N_keyed) (compOk (by rfl)) rfl (xj rfl (zc 1)) (fun _ _ _ _=>(zj (i:=0) nd_keyed_0 rfl (lo rfl) (by decide))) (fun _ _ _ _=>(ptsd_one (ptd_not (ptd_val (zX F_lie_apart (hr.mono (by decide)) rfl (zb (zW zA zV (zc 0) zf (fun _ _=>rfl)) (zb (zc 3) zd))))))) (fun _ _ _ _=>(zX F_key_by (hr.mono (by decide)) rfl (zb (zc 1) (zb (zc 0) (zb (zc 4) zd))))) (fun _ _ _ _=>(zc 0)))) ?_
 rintro ds n R hl ⟨d,hs,kd,pl,q,rfl,hd1,hd2,hpl,ok,hq2,hn,hz,hk,hR⟩
 simp[startD,dDCompT,dcompInT]
 have hlq:(esQ q).length=q.length:=length_map ..
 refine⟨zM (by lia),fun i ks es n'=>n'=n/\ks=ksQ d kd (keptQ pl (q.take i))/\es=esQ (keptQ pl (q.take i)),⟨rfl,rfl,rfl⟩,?_,?_⟩
 ·rintro i dd ks es n' e ⟨rfl, rfl, rfl⟩
  unfold esQ at e
  rw[getElem?_map] at e
  cases hx:q[i]? with
  | none=>rw[hx] at e;cases e
  | some x =>
   rw[hx] at e
   cases e
   have hm:x∈q:=mem_of_getElem? hx
   have tt:=ok.tree x hm
   obtain⟨ta,tb,et,na,nb⟩:=encTr_eq x.2
   have nx:=no_encTr x.2
   have hbl:(bdOf x.2).length=d:=by rw[tt.bd,bds_len]
   have hix:∀ R:D->Prop,R (zq (bdOf x.2))->rdIx (xk x.2) (.int 1) R:=fun R h=>by
    rw[et]
    exact⟨_,1,_,.inr (.inl rfl),rfl,rfl,h⟩
   have hsub:(x.1++zU (q.take i)).Perm (zU (q.take i)++x.1):=List.perm_append_comm
   have okt:QOk d hs (q.take (i+1)):=ok.sublist (take_sublist ..)
   have hnew:keyP d kd x.1 ∉ ksQ d kd (keptQ pl (q.take i)):=fun z=>by
    obtain⟨y,hy,e⟩:=List.mem_map.mp z
    have:=okt.keys kd
    rw[take_add_one,hx,map_append,nodup_append] at this
    exact this.2.2 _ (List.mem_map.mpr ⟨y,(List.mem_filter.mp hy).1,rfl⟩) _ (List.mem_map.mpr ⟨x,by simp,rfl⟩) e
   have hkt:=keptQ_take (pl:=pl) hx
   refine atD_mk nx (hix _ ⟨bdOf x.2,pl,rfl,by lia,by lia,by lia,?_⟩)
   simp
   cases ha:apartT (bdOf x.2) pl with
   | true =>
    rw[ha,if_pos rfl,append_nil] at hkt
    rw[hkt]
    simp
   | false =>
    rw[ha,if_neg (by simp)] at hkt
    simp
    refine atD_mk nx ⟨d,hs,x.1,x.2,kd,rfl,hn,tt,fun t ht=>ok.sub t (mem_flatQ.mpr ⟨x,hm,ht⟩),ok.len hz hm,hk,?_⟩
    refine atD_mk nx ⟨(keyP d kd x.1).1,(keyP d kd x.1).2,rfl,hnew,?_⟩
    refine⟨rfl,?_,?_⟩
    ·rw[hkt];unfold ksQ;rw[map_append];rfl
    ·rw[hkt];unfold esQ;rw[map_append];rfl
 ·rintro ks es n' ⟨rfl, rfl, rfl⟩
  rw[hlq,take_length]
  exact hR
abbrev s_drawn_past:Stmt:=top 19
abbrev N_drawn_past:List Str:=["gone", "house", "tree", "box", "kind", "k", "by_name", "plain", "names", "looks", "waiting", "part_names", "limits", "low", "high"]
theorem sc_drawn_past:FnScope N_drawn_past q5 (zi s_drawn_past):=⟨rfl,rfl,rfl,by decide +kernel,rfl,by decide +kernel,by decide +kernel⟩
theorem nd_drawn_past_0:("key" :: N_drawn_past:List Str).Nodup:=by decide +kernel
def Told(d:Nat)(hs:List Thing)(kd:Option (List Int))(pl:List Pair)(k:Nat)(acc:List Thing):Prop:=∀ all:List Thing,all.Perm (fitT pl hs)->all.Pairwise (ltK d kd)->acc=all.take k
def t_dpast:TF:=fun ds n R=>∃ (d:Nat) (hs:List Thing) (o:Option Tr) (b:List Span) (kd:Option (List Int)) (k:Nat),ds=[.dct [] [],zN d hs,(o.map xk).getD .non,zL b,encKind kd,.int k]/\1<=d/\d<=1000/\b.length=d/\(hs.map fun t=>t.1).Nodup/\hs.length<=60/\(∀ p,kd=some p->p.length<=1000) /\
 (o=none->hs=[])/\(∀ tr,o=some tr->TreeOf d hs tr)/\HashOk d kd hs/\∀ (acc:List Thing) (looks:Int) (w:D),zn w=true->Told d hs kd (zK b) k acc->R (.tup [.tup (acc.map fun t=>.int t.1),.int looks,w]) n
structure JDr(d:Nat)(hs:List Thing)(kd:Option (List Int))(pl:List Pair)(k n:Nat)(g0 g1 g2 g3 g4 g6 g7:Option D)(m:Nat)(rho:Rho)(n':Nat):Prop where
 e:n'=n
 r:∃ (q:List Qe) (acc:List Thing) (looks:Int) (z1 z2 z3 z4:Option D),m=xh q/\(1<=k->DOk d hs kd pl q acc)/\(k=0->q=[]/\acc=[])/\acc.length<=k /\
  rho=[g0,g1,g2,g3,g4,some (.int k),g6,g7,some (.own (acc.map fun t=>.int t.1)),some (.int looks),some (.owT (ksQ d kd q) (esQ q)),z1,z2,z3,z4]
theorem ok_dpast(T : Blt mg)(F : Fun K "drawn_past" "drawn_past" s_drawn_past f fd)(F_things_by_name : Fn P w K mg base "things_by_name" 1 1 t_tbn)(F_plain_box : Fn P w K mg base "plain_box" 3 1 t_plain_box)(F_keyed : FnT P w K mg base "keyed" 6 4 t_keyed) : FnOk P w K mg base CX0 7 f fd q5 (spD K 6 t_dpast) := by
 refine Fun.okD F sc_drawn_past (fun _ _ _ s H E G Z hr=>(ze (zI (i:=6) sc_drawn_past.nd rfl (lo rfl) (zX F_things_by_name (hr.mono (by decide)) rfl (zb (zc 1) zd)))
  (ze (zI (i:=7) sc_drawn_past.nd rfl (lo rfl) (zX F_plain_box (hr.mono (by decide)) rfl (zb (zc 3) zd)))
  (ze (psd_own (i:=8) sc_drawn_past.nd rfl (lo rfl) zd)
  (ze (zI (i:=9) sc_drawn_past.nd rfl (lo rfl) zf)
  (ze (psd_setT (i:=10) F_keyed (hr.mono (by decide)) rfl sc_drawn_past.nd rfl (lo rfl) (zb (zc 6) (zb (pd_if (PWD.pt (pwd_or (zS op_isN re_isN (zc 2) pd_non (zP _)) (pwd_or1 (zS op_eq re_eq (zc 5) zf (zP _))))) (pd_lst zd) (pd_lst (zb (zc 2) zd))) (zb (zc 7) (zb (zc 4) zd)))))
  (ze (psd_while PassesOwn.never (PWD.pt (pwd_and (zS op_gt re_gt (pd_lenT (i:=10) T.len) zf (zP _)) (pwd_and1 (zS op_lt re_lt (pd_ownLen (i:=8) T.len rfl) (zc 5) (zP _)))))
  (ze (psd_popT (i:=10) (m:=15) hr rfl (zx (call_minT rfl (hu_of hr)) cr_minT T.min bt_min (zb (pd_listT (i:=10) hr T.list) zd)) (pgd_tup (k:=4) rfl rfl (zk (zj (i:=11) sc_drawn_past.nd rfl (lo rfl) (by decide)) (zk (zj (i:=12) sc_drawn_past.nd rfl (lo rfl) (by decide)) (zk (zj (i:=13) sc_drawn_past.nd rfl (lo rfl) (by decide)) (zk (zj (i:=14) sc_drawn_past.nd rfl (lo rfl) (by decide)) xo))))))
  (ze (psd_augI ip_add (i:=9) sc_drawn_past.nd rfl (lo rfl) zf)
  (zh (psd_if (zS op_gt re_gt (zx zQ cr_len T.len bt_len (zb (zc 11) zd)) zf (zP _)) (zh (psd_updT (i:=10) F_keyed (hr.mono (by decide)) rfl (zb (zc 6) (zb (pd_lst (zb (zc 13) (zb (zc 14) zd))) (zb (zc 7) (zb (zc 4) zd)))))) (zh (psd_if (zS (op_dnotin (hu_of hr)) re_din (zW zA zV (zc 11) zf (fun _ _=>rfl)) (zc 0) (by with_unfolding_all rfl)) (zh (psd_append (i:=8) (zb (zW zA zV (zc 11) zf (fun _ _=>rfl)) zd) rfl)) xb)))))))
  (zh (psd_frz 8 (zt (xi (zb (zT zD cr_tuple T.tuple bt_tuple (zb (zc 8) zd)) (zb (zc 9) (zb (zT zD cr_tuple T.tuple bt_tuple (zb (pd_comp (own:=["key"]) (M:=N_drawn_past) (compOk (by rfl)) rfl (xj rfl (zx (call_sortT hr) (cr_sortT rfl) T.sorted bt_sorted (zb (pd_listT (i:=10) hr T.list) zd))) (fun _ _ _ _=>(zj (i:=0) nd_drawn_past_0 rfl (lo rfl) (by decide))) (fun _ _ _ _=>xa) (fun _ _ _ _=>(zW zA zV (pd_ixT (i:=11) hr rfl (zc 0) (fun _ _=>rfl)) zf (fun _ _=>rfl)))) zd)) zd)))))))))))))) ?_
 generalize hB:sSeq (sPopT 10 _ _) _=B
 generalize hS:sFrz 8 _=Sr
 generalize hW:sSeq (sWhile _ _) _=Wl
 rintro ds n R hl ⟨d,hs,o,b,kd,k,rfl,hd1,hd2,hb,hn,hz,hk,ho1,ho2,hH,hR⟩
 have nh:=no_house d hs
 have nb:zn (zL b)=true:=rfl
 have no:zn ((o.map xk).getD .non)=true:=by cases o with | none=>rfl | some t=>exact no_encTr t
 have hpl:(zK b).length=d:=by rw[plain_len];exact hb
 generalize hpe:zK b=pl at *
 have fin:∀ (F:EndsD) (q:List Qe) (acc:List Thing) (looks:Int) (z1 z2 z3 z4:Option D),F.rt=R->QOk d hs q->acc.length<=60->Told d hs kd pl k acc ->
   Sr F [some (.dct [] []),some (zN d hs),some ((o.map xk).getD .non),some (zL b),some (encKind kd),some (.int k),some (byN hs),some (zq pl),some (.own (acc.map fun t=>.int t.1)),some (.int looks),some (.owT (ksQ d kd q) (esQ q)),z1,z2,z3,z4] n:=fun F q acc looks z1 z2 z3 z4 hF ok hal ht=>by
  subst hS
  have hql:q.length<=60:=by
   have h1:=ok.heads
   have h2:(q.map fun x=>zY x.1).length<=(hs.map fun t=>t.1).length:=h1.length_le_of_subset fun a ha=>by
    obtain⟨x,hx,rfl⟩:=List.mem_map.mp ha
    obtain⟨t,ht,e⟩:=leastN_mem (ok.tree x hx).ne
    exact List.mem_map.mpr ⟨t,ok.sub t (mem_flatQ.mpr ⟨x,hx,ht⟩),e⟩
   rw[length_map,length_map] at h2
   lia
  simp[hF]
  refine⟨q.map fun x=>⟨.n (keyT d kd x.1),zY x.1,[]⟩,true,?_,by rw[length_map];lia,?_,?_,fun rows hp hs'=>⟨_,.inl rfl,?_⟩⟩
  ·unfold ksQ
   rw[map_map,map_map]
   rfl
  ·intro x hx
   obtain⟨_,_,rfl⟩:=List.mem_map.mp hx
   rfl
  ·rw [List.map_map]
   exact ok.heads
  ·obtain ⟨rs, hrp, rfl⟩ := perm_map hp
   rw[map_map]
   refine zR (SRow.d∘fun x:Qe=>(⟨.n (keyT d kd x.1),zY x.1,[]⟩:SRow)) (fun x=>.tup ((namesOf x.2).map D.int)) rs (zM (by rw[hrp.length_eq];lia)) (fun x hx R' hR'=>?_) ?_
   ·have e : (SRow.d ∘ fun x : Qe => (⟨.n (keyT d kd x.1), zY x.1, []⟩ : SRow)) x = .tup [.int (keyP d kd x.1).1, .int (keyP d kd x.1).2] := rfl
    have hat:=atP_map (f:=fun x:Qe=>keyP d kd x.1) (g:=fun x=>xk x.2) (hrp.mem_iff.mp hx) (ok.keys kd)
    obtain⟨ta,tb,et,na,nb2⟩:=encTr_eq x.2
    rw[e]
    simp
    refine⟨_,_,⟨rfl,rfl⟩,_,_,⟨rfl,rfl⟩,_,hat,?_⟩
    show rdIx (xk x.2) _ _
    rw[et]
    exact⟨_,0,_,.inr (.inl rfl),rfl,rfl,hR'⟩
   ·simp
    exact hR acc looks _ rfl ht
 have loop : ∀ (F : EndsD) (q0 : List Qe), F.rt = R -> (1 <= k -> DOk d hs kd pl q0 []) -> (k = 0 -> q0 = []) ->
   Wl F [some (.dct [] []),some (zN d hs),some ((o.map xk).getD .non),some (zL b),some (encKind kd),some (.int k),some (byN hs),some (zq pl),some (.own []),some (.int 0),some (.owT (ksQ d kd q0) (esQ q0)),none,none,none,none] n:=fun F q0 hF h1 h0=>by
  subst hW
  simp
  refine⟨JDr d hs kd pl k n _ _ _ _ _ _ _,⟨xh q0,rfl,q0,[],0,none,none,none,none,rfl,h1,fun e=>⟨h0 e,rfl⟩,Nat.zero_le _,rfl⟩,?_⟩
  rintro m rho n' ⟨rfl,q,acc,looks,z1,z2,z3,z4,rfl,hD,hk0,hle,rfl⟩
  have okq:QOk d hs q:=by
   by_cases e:k=0
   ·rw[(hk0 e).1];exact⟨by simp,by simp[zU],by simp[zU]⟩
   ·exact(hD (by lia)).ok
  have hlen:acc.length<=60:=by
   by_cases e:k=0
   ·lia
   ·have h2 := (hD (by lia)).perm.length_eq
    have h3:(fitT pl hs).length<=hs.length:=List.length_filter_le ..
    rw[length_append] at h2
    lia
  have kl:(ksQ d kd q).length=q.length:=length_map ..
  have told:acc.length=k\/q=[]->Told d hs kd pl k acc:=fun h all ha hs'=>by
   by_cases e:k=0
   ·rw[(hk0 e).2,e];rfl
   ·have D0 := hD (by lia)
    have h2:=D0.told hn ha hs'
    rcases h with h | h
    ·rw[h] at h2;exact h2
    ·have h3 := D0.perm.length_eq
     rw[h] at h3
     have h4:fitT pl (zU [])=[]:=rfl
     rw[h4,append_nil] at h3
     have h5:=ha.length_eq
     rw[take_of_length_le (by lia)]
     rw[take_of_length_le (by lia)] at h2
     exact h2
  simp
  rw[kl]
  split
  ·rename_i hpos
   split
   ·rename_i hlt
    have D0:=hD (by lia)
    subst hB
    simp
    refine⟨ksQ d kd q,_,⟨rfl,rfl⟩,ksQ d kd q,rfl,by rw[kl];exact hpos,fun mk hmk hmin=>?_⟩
    obtain⟨⟨ts,tr⟩,hx,rfl⟩:=List.mem_map.mp hmk
    have tt:TreeOf d ts tr:=okq.tree _ hx
    have hat:atP (ksQ d kd q) (esQ q) (keyP d kd ts)=some (xk tr):=atP_map (f:=fun x:Qe=>keyP d kd x.1) (g:=fun x=>xk x.2) hx (okq.keys kd)
    have hdk:dropP (ksQ d kd q) (keyP d kd ts)=ksQ d kd (outQ (fun y:Qe=>keyP d kd y.1) q (keyP d kd ts)):=dropP_map ..
    have hde:dropE (ksQ d kd q) (esQ q) (keyP d kd ts)=esQ (outQ (fun y:Qe=>keyP d kd y.1) q (keyP d kd ts)):=dropE_map ..
    have hmin':∀ y∈q,ltP (keyP d kd y.1) (keyP d kd ts)=false:=fun y hy=>hmin _ (List.mem_map.mpr ⟨y,hy,rfl⟩)
    have hsz:xh ((ts,tr)::outQ (fun y:Qe=>keyP d kd y.1) q (keyP d kd ts))=xh q:=sizesQ_perm (out_perm (f:=fun y:Qe=>keyP d kd y.1) hx (okq.keys kd))
    have hsz:sizeT tr+xh (outQ (fun y:Qe=>keyP d kd y.1) q (keyP d kd ts))=xh q:=by rw[<- hsz];simp[xh]
    have leaf:∀ t,ts=[t]->DOk d hs kd pl (outQ (fun y:Qe=>keyP d kd y.1) q (keyP d kd ts)) (acc++[t]):=fun t e=>by subst e;exact D0.leaf hd1 hpl hx hmin'
    have opn:=fun(ls us:List Thing) (lo hi:Tr) h1 h2 h3=>D0.open (ls:=ls) (us:=us) (lo:=lo) (hi:=hi) hd1 hpl hx h1 h2 h3
    refine⟨(keyP d kd ts).1,(keyP d kd ts).2,rfl,xk tr,hat,?_⟩
    rw[show((keyP d kd ts).1,(keyP d kd ts).2)=keyP d kd ts from rfl,hdk,hde]
    generalize outQ (fun y:Qe=>keyP d kd y.1) q (keyP d kd ts)=q' at *
    cases tt with
    | @one t ht =>
     have D1:=leaf t rfl
     have h6:acc.length<sizeLine:=lt_size (by lia)
     simp[xk]
     rw[if_pos (show atK [] [] (Sum.inl t.1)=(none:Option D) from rfl)]
     have s1:sizeT (.one t.1 (bdsT d [t.2.1]))=1:=rfl
     exact⟨h6,xh q',by lia,rfl,q',acc++[t],looks+1,_,_,_,_,rfl,fun _=>D1,fun h=>by lia,by rw[length_append];simp;lia,by rw[map_append];rfl⟩
    | @two ts ls us ns lo hi p hp hs1 t1 t2 =>
     obtain⟨D1,okB⟩:=opn ls us lo hi p t1 t2
     have nl:=no_encTr lo
     have nh2:=no_encTr hi
     have hns:ns.length=ts.length:=by rw[hp.length_eq,length_map]
     have h2:1<ns.length:=by
      have:=t1.ne
      have:=t2.ne
      have:=p.length_eq
      rw[length_append] at this
      lia
     simp[xk,nl,nh2]
     rw[if_pos (by lia)]
     have okK:QOk d hs (q'++keptQ pl [(ls,lo),(us,hi)]):=D1.ok
     have okT:QOk d hs [(ls,lo),(us,hi)]:=okB.sublist (List.sublist_append_right ..)
     have s1:sizeT (.two ns (bdsT d (ts.map fun t=>t.2.1)) lo hi)=1+sizeT lo+sizeT hi:=rfl
     have s2:xh (keptQ pl [(ls,lo),(us,hi)])<=xh [(ls,lo),(us,hi)]:=sizesQ_sub filter_sublist
     have s3:xh [(ls,lo),(us,hi)]=sizeT lo+sizeT hi:=by simp[xh]
     have hkk:=okK.keys kd
     have hlenK:(q'++keptQ pl [(ls,lo),(us,hi)]).length<=60:=by
      have h3:=okK.heads
      have h4:((q'++keptQ pl [(ls,lo),(us,hi)]).map fun x=>zY x.1).length<=(hs.map fun t=>t.1).length:=h3.length_le_of_subset fun a ha=>by
       obtain⟨x,hx,rfl⟩:=List.mem_map.mp ha
       obtain⟨t,ht,e⟩:=leastN_mem (okK.tree x hx).ne
       exact List.mem_map.mpr ⟨t,okK.sub t (mem_flatQ.mpr ⟨x,hx,ht⟩),e⟩
      rw[length_map,length_map] at h4
      lia
     have hash2:((ksQ d kd (keptQ pl [(ls,lo),(us,hi)])).map hashP).Nodup:=by
      have z:((ksQ d kd [(ls,lo),(us,hi)]).map hashP).Nodup:=by
       have hsub:∀ t∈ls++us,t∈hs:=fun t ht=>okT.sub t (by simpa [zU] using ht)
       have hne:zY ls≠zY us:=by
        have:=okT.heads
        simpa using this
       have:=hH ls us (fun t ht=>hsub t (mem_append_left _ ht)) (fun t ht=>hsub t (mem_append_right _ ht)) t1.ne t2.ne hne
       simpa [ksQ] using this
      exact((List.filter_sublist.map _).map _).nodup z
     have ksA:ksQ d kd q'++ksQ d kd (keptQ pl [(ls,lo),(us,hi)])=ksQ d kd (q'++keptQ pl [(ls,lo),(us,hi)]):=by unfold ksQ;rw[map_append]
     have esA:esQ q'++esQ (keptQ pl [(ls,lo),(us,hi)])=esQ (q'++keptQ pl [(ls,lo),(us,hi)]):=by unfold esQ;rw[map_append]
     refine⟨_,_,⟨rfl,rfl⟩,d,hs,kd,pl,[(ls,lo),(us,hi)],rfl,hd1,hd2,hpl,okT,by simp,hn,hz,hk,?_⟩
     dsimp only
     rw[ksA,esA]
     refine⟨hkk,zM ?_,fun _=>hash2,xh (q'++keptQ pl [(ls,lo),(us,hi)]),by rw[sizesQ_append];lia,rfl,_,acc,looks+1,_,_,_,_,rfl,fun _=>D1,fun h=>by lia,hle,rfl⟩
     have l1:(ksQ d kd q').length=q'.length:=length_map ..
     have l2:(ksQ d kd (keptQ pl [(ls,lo),(us,hi)])).length=(keptQ pl [(ls,lo),(us,hi)]).length:=length_map ..
     rw[l1,l2,<- length_append]
     lia
   ·exact fin _ _ _ _ _ _ _ _ hF okq hlen (told (.inl (by lia)))
  ·exact fin _ _ _ _ _ _ _ _ hF okq hlen (told (.inr (List.length_eq_zero_iff.mp (by lia))))
 simp[startD,nh,nb,no]
 refine⟨_,hs,rfl,hn,by lia,⟨b,rfl,by lia,?_⟩⟩
 rw[hpe]
 have kd0:∀ (q:List Qe) (R':List (Int × Int)->List D->Nat->Prop),QOk d hs q->q.length<=2->R' (ksQ d kd (keptQ pl q)) (esQ (keptQ pl q)) n->t_keyed [byN hs,.lst (esQ q),zq pl,encKind kd] n R':=fun q R' h1 h2 h3=>⟨d,hs,kd,pl,q,rfl,hd1,hd2,hpl,h1,h2,hn,hz,hk,h3⟩
 have none0:QOk d hs []:=⟨by simp,by simp[zU],by simp[zU]⟩
 cases o with
 | none =>
  simp
  exact kd0 [] _ none0 (by simp) (loop _ [] rfl (fun _=>.none (ho1 rfl)) fun _=>rfl)
 | some tr =>
  have ni:isNon (xk tr)=false:=by cases tr<;>rfl
  have nt:=no_encTr tr
  have tt:=ho2 tr rfl
  simp[ni,nt]
  split
  ·rename_i h0
   exact kd0 [] _ none0 (by simp) (loop _ [] rfl (fun h=>by lia) fun _=>rfl)
  ·rename_i h0
   have ok1:QOk d hs [(hs,tr)]:=⟨fun x hx=>by rw[List.mem_singleton.mp hx];exact tt,fun t ht=>by simpa [zU] using ht,by simpa [zU] using hn⟩
   exact kd0 [(hs,tr)] _ ok1 (by simp) (loop _ _ rfl (fun _=>.start hd1 hpl tt hn) fun h=>absurd h h0)
abbrev s_drawn:Stmt:=top 20
abbrev N_drawn:List Str:=["house", "tree", "box", "kind", "k"]
theorem sc_drawn:FnScope N_drawn q4 (zi s_drawn):=⟨rfl,rfl,rfl,by decide +kernel,rfl,by decide +kernel,by decide +kernel⟩
def t_drawn:TF:=fun ds n R=>∃ (d:Nat) (hs:List Thing) (o:Option Tr) (b:List Span) (kd:Option (List Int)) (k:Nat),ds=[zN d hs,(o.map xk).getD .non,zL b,encKind kd,.int k]/\1<=d/\d<=1000/\b.length=d/\(hs.map fun t=>t.1).Nodup/\hs.length<=60/\(∀ p,kd=some p->p.length<=1000) /\
 (o=none->hs=[])/\(∀ tr,o=some tr->TreeOf d hs tr)/\HashOk d kd hs/\∀ (acc:List Thing) (looks:Int) (w:D),zn w=true->Told d hs kd (zK b) k acc->R (.tup [.tup (acc.map fun t=>.int t.1),.int looks,w]) n
theorem ok_drawn(F:Fun K "drawn" "drawn" s_drawn f fd)(F_drawn_past:Fn P w K mg base "drawn_past" 7 6 t_dpast):FnOk P w K mg base CX0 8 f fd q4 (spD K 5 t_drawn):=by
 refine Fun.okD F sc_drawn (fun _ _ _ s H E G Z hr=>(zh (zt (zX F_drawn_past (hr.mono (by decide)) rfl (zb pd_dct0 (zb (zc 0) (zb (zc 1) (zb (zc 2) (zb (zc 3) (zb (zc 4) zd)))))))))) ?_
 rintro ds n R hl ⟨d,hs,o,b,kd,k,rfl,h⟩
 have nh:=no_house d hs
 have nb:zn (zL b)=true:=rfl
 have no:zn ((o.map xk).getD .non)=true:=by cases o with | none=>rfl | some t=>exact no_encTr t
 simp[startD,nh,nb,no]
 exact⟨d,hs,o,b,kd,k,rfl,h⟩
end
end K43
namespace K43
structure JMx(xs:List (List Int))(m:Nat)(rho:Rho)(n:Nat):Prop where
 e:n=3
 r:∃ row found:List (List Int),m=row.length/\(row++found).Perm xs/\rho=[some .st,some (.lst (xs.map zg)),some (.own (row.map zg)),some (.own (found.map zg))]
theorem map_erase{α β:Type}(f:α->β):∀ (l:List α) (k:Nat),(l.eraseIdx k).map f=(l.map f).eraseIdx k
 | [],k=>rfl
 | a::l,0=>rfl
 | a::l,k+1=>by
  show f a::(l.eraseIdx k).map f=f a::(l.map f).eraseIdx k
  rw[map_erase f l k]
theorem erase_perm{α:Type}:∀ {l:List α} {k:Nat} {x:α},l[k]?=some x->(x::l.eraseIdx k).Perm l
 | a::l,0,x,h=>by cases h;exact .refl _
 | a::l,k+1,x,h=>by
  have ih:=erase_perm (l:=l) (k:=k) (x:=x) (by simpa using h)
  exact(List.Perm.swap a x _).trans (ih.cons a)
def Cr(d:Nat)(mid:List Int)(far:Int)(p:List Int):Prop:=p=mid\/∃ (i:Nat) (s:Int),i<d/\(s=1\/s=-1)/\p=mid.set i (mid[i]?.getD 0+s*far)
structure Cross(d:Nat)(mid:List Int)(far:Int)(ts:List Thing):Prop where
 each:∀ t∈ts,Cr d mid far t.2.1/\(t.2.2=5\/t.2.2=6)/\0<=t.1/\t.1<=83
 up:ts.Pairwise fun a b=>a.1<b.1
 len:ts.length<=9
structure JPl(d:Nat)(mid:List Int)(far:Int)(pa:Option D->Prop)(hd:List (Option D))(c:Nat)(rho:Rho)(n:Nat):Prop where
 e:n=3
 r:∃ (ps:List (List Int)) (a b z:Option D),ps.length=c/\pa a/\(∀ p∈ps,Cr d mid far p)/\rho=hd++[some (.own (ps.map zg)),a,b,z]
structure JTh(d:Nat)(mid:List Int)(far:Int)(i:Nat)(rho:Rho)(n:Nat):Prop where
 e:n=3
 r:∃ (ts:List Thing) (x:Int) (g:D) (a b z:Option D),ts.length=i/\0<=x/\x<=3+10*i/\(∀ t∈ts,Cr d mid far t.2.1/\(t.2.2=5\/t.2.2=6)/\0<=t.1/\t.1<x/\t.1+7<=10*i)/\ts.Pairwise (fun a b=>a.1<b.1) /\
  rho=[some .st,some (.int d),some (zg mid),some (.int far),some (.own (ts.map zo)),some (.int x),some g,a,b,z]
section
variable {P:Program} {w:World} {K:W.Frag} {mg:Str->Option Value} {base:Heap} {f:Addr} {fd:FuncData}
abbrev s__law_mixed:Stmt:=top 27
abbrev N__law_mixed:List Str:=["_law_left_here", "_law_parts", "_law_row", "_law_found"]
theorem sc__law_mixed:FnScope N__law_mixed ["_law_left_here", "_law_parts"] (zi s__law_mixed):=⟨rfl,rfl,rfl,by decide +kernel,rfl,by decide +kernel,by decide +kernel⟩
def t_mixed:TF:=fun ds n Q=>∃ xs:List (List Int),ds=[.st,.lst (xs.map zg)]/\n=3/\xs.length<=900/\∀ ys:List (List Int),ys.Perm xs->Q (.tup (ys.map zg)) 3
theorem ok_mixed(T:Blt mg)(F:Fun K "_law_mixed" "_law_mixed" s__law_mixed f fd)(Y_pick:Fn P w K mg base "_law_pick" 1 2 t_pick):FnOk P w K mg base CX0 2 f fd ["_law_left_here", "_law_parts"] (spD K 2 t_mixed):=by
 refine Fun.okD F sc__law_mixed (fun _ _ _ s H E G Z hr=>(ze (psd_parLL (i:=2) (j:=3) rfl rfl T.list sc__law_mixed.nd rfl rfl (by decide) rfl rfl (zb (zc 1) zd))
  (ze (psd_while PassesOwn.never (ptd_ownNe (i:=2) hr rfl)
  (zh (psd_appPop (i:=3) (j:=2) (zb (zX Y_pick (hr.mono (by decide)) rfl (zb (zc 0) (zb (pd_ownLen (i:=2) T.len rfl) zd))) zd) rfl)))
  (zh (psd_frz 3 (zt (zT zD cr_tuple T.tuple bt_tuple (zb (zc 3) zd)))))))) ?_
 rintro ds n Q hl ⟨xs,rfl,rfl,hz,q⟩
 simp[startD]
 refine⟨JMx xs,⟨xs.length,rfl,xs,[],rfl,by simp,rfl⟩,?_⟩
 rintro m rho n' ⟨rfl,row,found,rfl,hp,rfl⟩
 have hlen:=hp.length_eq
 rw[length_append] at hlen
 have okr:okE (.lst (row.map zg)) 20=true:=okE_lst.mpr fun d hd=>by
  obtain⟨x,_,rfl⟩:=List.mem_map.mp hd
  exact okE_place x 18
 simp
 refine⟨okr,?_⟩
 cases hrow:row with
 | nil =>
  rw[hrow] at hp
  simp[eqDs]
  exact q found (by simpa using hp)
 | cons y r =>
  have e0:eqDs ((y::r).map zg) []=false:=rfl
  rw[e0]
  rw[hrow] at hp hlen
  rw[length_cons] at hlen
  simp
  refine⟨lt_size (by lia),zE (by lia) (by lia) fun k g0 g1=>?_⟩
  obtain⟨k,rfl⟩:=Int.eq_ofNat_of_zero_le g0
  have hk:k<(y::r).length:=by rw[length_cons];lia
  have hg:(y::r)[k]?=some (y::r)[k]:=getElem?_eq_getElem hk
  generalize (y::r)[k]=x at hg
  refine⟨k,rfl,by lia,zg x,⟨x,hg,rfl⟩,r.length,by lia,rfl,(y::r).eraseIdx k,found++[x],?_,?_,?_⟩
  ·rw[List.length_eraseIdx,if_pos hk];simp
  ·refine List.Perm.trans ?_ hp
   have z:=(erase_perm hg).append_right found
   refine List.Perm.trans ?_ z
   rw[<- append_assoc]
   exact(List.perm_append_comm (l₁:=(y::r).eraseIdx k++found) (l₂:=[x]))
  ·rw [List.map_append]
   have e1:((y::r).eraseIdx k).map zg=(zg y::r.map zg).eraseIdx k:=by rw[<- map_cons,map_erase]
   rw[e1]
   rfl
abbrev s__law_cross:Stmt:=top 28
abbrev N__law_cross:List Str:=["_law_left_here", "_law_d", "_law_middle", "_law_far", "_law_things", "_law_name", "_law_places", "_law_i", "_law_side", "_law_place"]
theorem sc__law_cross:FnScope N__law_cross q6 (zi s__law_cross):=⟨rfl,rfl,rfl,by decide +kernel,rfl,by decide +kernel,by decide +kernel⟩
def t_cross:TF:=fun ds n Q=>∃ (d:Nat) (mid:List Int) (far:Int),ds=[.st,.int d,zg mid,.int far]/\n=3/\1<=d/\d<=4/\mid.length=d/\1<=far/\far<=10000000000000000/\∀ ts:List Thing,Cross d mid far ts->Q (zN d ts) 3
theorem ok_cross(T:Blt mg)(F:Fun K "_law_cross" "_law_cross" s__law_cross f fd)(Y_pick:Fn P w K mg base "_law_pick" 1 2 t_pick)(Y_mixed:Fn P w K mg base "_law_mixed" 2 2 t_mixed):FnOk P w K mg base CX0 3 f fd q6 (spD K 4 t_cross):=by
 refine Fun.okD F sc__law_cross (fun _ _ _ s H E G Z hr=>(ze (psd_parO (i:=4) (j:=5) rfl sc__law_cross.nd rfl rfl (by decide) rfl rfl (fun Z1 H1=>(zX Y_pick (hr.mono (by decide)) rfl (zb (zc 0) (zb zf zd)))))
  (ze (psd_own (i:=6) sc__law_cross.nd rfl (lo rfl) (zb (zc 2) zd))
  (ze (psd_for (m:=10) PassesOwn.never rfl (pid_rng T.range (zb (zc 1) zd)) (zj (i:=7) sc__law_cross.nd rfl (lo rfl) (by decide))
  (zh (psd_for (m:=10) PassesOwn.never rfl (xj rfl (xi (zb zf (zb (pd_neg zf) zd)))) (zj (i:=8) sc__law_cross.nd rfl (lo rfl) (by decide))
  (zh (psd_append (i:=6) (zb (pd_op op_catTT re_catT (pd_op op_catTT re_catT (pd_slT rfl (zc 2) pod_none (pod_some (zc 7))) (xi (zb (pd_add (zW zA zV (zc 2) (zc 7) (fun _ _=>rfl)) (pd_mul (zc 8) (zc 3))) zd))) (pd_slT rfl (zc 2) (pod_some (pd_add (zc 7) zf)) pod_none)) zd) rfl)))))
  (ze (psd_frz 6 (zI (i:=6) sc__law_cross.nd rfl (lo rfl) (pd_slV rfl (zT call_list_of cr_list T.list bt_list (zb (zX Y_mixed (hr.mono (by decide)) rfl (zb (zc 0) (zb (zc 6) zd))) zd)) pod_none (pod_some (pd_add zf (zX Y_pick (hr.mono (by decide)) rfl (zb (zc 0) (zb zf zd))))))))
  (ze (psd_for (m:=10) PassesOwn.never rfl (xj rfl (zc 6)) (zj (i:=9) sc__law_cross.nd rfl (lo rfl) (by decide))
  (ze (psd_append (i:=4) (zb (xi (zb (zc 5) (zb (zc 9) (zb (pd_add zf (zX Y_pick (hr.mono (by decide)) rfl (zb (zc 0) (zb zf zd)))) zd)))) zd) rfl)
  (zh (zI (i:=5) sc__law_cross.nd rfl (lo rfl) (pd_add (pd_add (zc 5) zf) (zW zA zV (pd_lst (zb zf (zb zf (zb zf zd)))) (zX Y_pick (hr.mono (by decide)) rfl (zb (zc 0) (zb zf zd))) (fun _ _=>rfl)))))))
  (zh (psd_frz 4 (zt (xi (zb (zc 1) (zb (zT zD cr_tuple T.tuple bt_tuple (zb (zc 4) zd)) zd)))))))))))) ?_
 generalize hC:sFor _ _ (sFor _ _ _)=C
 generalize hL:sSeq (sFrz 6 _) _=L
 rintro ds n Q hl ⟨d,mid,far,rfl,rfl,hd1,hd4,hm,hf1,hf2,q⟩
 have nm:zn (zg mid)=true:=id rfl
 have runL : ∀ (F : EndsD) (x : Int) (ps : List (List Int)) (a b z : Option D), F.rt = Q -> 0 <= x -> x <= 3 -> ps.length <= 9 -> (∀ p ∈ ps, Cr d mid far p) ->
   L F [some .st,some (.int d),some (zg mid),some (.int far),some (.own []),some (.int x),some (.own (ps.map zg)),a,b,z] 3:=fun F x ps a b z hF h0 h1 hlen hps=>by
  subst hL
  simp
  refine⟨ps,rfl,rfl,by lia,fun ys hys=>?_⟩
  have hyl:=hys.length_eq
  simp
  refine zE (by decide) (by decide) fun k g0 g1=>?_
  obtain⟨m,hm2⟩:=Int.eq_ofNat_of_zero_le (show 0<=2+k by lia)
  have hcut:cutL (ys.map zg) none (some (2+k))=(ys.take (min m ys.length)).map zg:=by
   rw[hm2]
   unfold cutL
   rw[HT.sIx_nat,HT.sIx_none,drop_zero,Nat.sub_zero,length_map,map_take]
  have hzl:(ys.take (min m ys.length)).length<=9:=by rw[length_take];lia
  have hzs:∀ p∈ys.take (min m ys.length),Cr d mid far p:=fun p hp=>hps p (hys.mem_iff.mp (List.mem_of_mem_take hp))
  simp
  rw[hcut]
  generalize ys.take (min m ys.length)=zs at *
  refine⟨JTh d mid far,⟨rfl,[],x,_,_,_,_,rfl,h0,by lia,by simp,.nil,rfl⟩,?_,?_⟩
  ·rintro i dd rho n' e ⟨rfl, ts, y, g, a, b, z, hti, hy0, hy1, hts, hup, rfl⟩
   rw[getElem?_map] at e
   cases hp:zs[i]? with
   | none=>rw[hp] at e;cases e
   | some p =>
    rw[hp] at e
    cases e
    have hcr:=hzs p (mem_of_getElem? hp)
    have hi:i<zs.length:=(List.getElem?_eq_some_iff.mp hp).1
    have np:zn (zg p)=true:=id rfl
    simp[np]
    refine⟨lt_size (by lia),zE (by decide) (by decide) fun w1 g2 g3=>?_⟩
    simp
    refine zE (by decide) (by decide) fun w2 g4 g5=>pickI (js:=[0,0,9]) 0 9 g4 (by simpa using g5) (by decide) fun j hj0 hj1=>?_
    simp
    refine⟨rfl,ts++[(y,p,5+w1)],y+1+j,_,_,_,_,by simp[hti],by lia,by lia,fun t ht=>?_,?_,by rw[map_append];rfl⟩
    ·rcases List.mem_append.mp ht with ht | ht
     ·obtain ⟨c1, c2, c3, c4, c5⟩ := hts t ht
      exact⟨c1,c2,c3,by lia,by lia⟩
     ·rw [List.mem_singleton.mp ht]
      exact⟨hcr,by show 5+w1=5\/5+w1=6;lia,hy0,by show y<y+1+j;lia,by show y+7<=10*((i+1:Nat):Int);lia⟩
    ·rw [List.pairwise_append]
     refine⟨hup,by simp,fun u hu v hv=>?_⟩
     rw[List.mem_singleton.mp hv]
     exact(hts u hu).2.2.2.1
  ·rintro rho n' ⟨rfl, ts, y, g, a, b, z, hti, hy0, hy1, hts, hup, rfl⟩
   rw[length_map] at hti hy1
   simp[hF]
   have hy:∀ t∈ts,t.1<=83:=fun t ht=>by
    have:=(hts t ht).2.2.2.2
    rw[length_map] at this
    lia
   exact q ts ⟨fun t ht=>⟨(hts t ht).1,(hts t ht).2.1,(hts t ht).2.2.1,hy t ht⟩,hup,by lia⟩
 simp[startD,nm]
 refine⟨rfl,zE (by decide) (by decide) fun x0 g0 g1=>?_⟩
 subst hC
 simp
 refine⟨by lia,fun i=>JPl d mid far (fun _=>True) [some .st,some (.int d),some (zg mid),some (.int far),some (.own []),some (.int x0)] (1+2*i),⟨rfl,[mid],none,none,none,rfl,True.intro,fun p hp=>.inl (List.mem_singleton.mp hp),rfl⟩,?_,?_⟩
 ·rintro i dd rho n' e ⟨rfl, ps, a, b, z, hpl, _, hps, rfl⟩
  obtain⟨hi,rfl⟩:=rng_at e
  simp
  refine⟨fun j=>JPl d mid far (fun a=>a=some (.int i)) [some .st,some (.int d),some (zg mid),some (.int far),some (.own []),some (.int x0)] (1+2*i+j),⟨rfl,ps,_,_,_,by lia,rfl,hps,rfl⟩,?_,?_⟩
  ·rintro j dd rho n' e2 ⟨rfl, ps, a, b, z, hpl, rfl, hps, rfl⟩
   obtain⟨s,hs,rfl⟩:∃ s:Int,(s=1\/s=-1)/\dd=.int s:=by
    have:=mem_of_getElem? e2
    simp only[mem_cons,not_mem_nil,or_false] at this
    rcases this with rfl | rfl
    ·exact⟨1,.inl rfl,rfl⟩
    ·exact⟨-1,.inr rfl,rfl⟩
   have him:i<mid.length:=by lia
   have hj:j<2:=by have:=(List.getElem?_eq_some_iff.mp e2).1;simpa using this
   have c1:=cut_to (mid.map D.int) i (by rw[length_map];lia)
   have c2:=cut_from (mid.map D.int) (i+1) (by rw[length_map];lia)
   have eset:D.tup ((mid.map D.int).take i++D.int (mid[i]?.getD 0+s*far)::(mid.map D.int).drop (i+1))=zg (mid.set i (mid[i]?.getD 0+s*far)):=by
    unfold zg
    rw[List.set_eq_take_append_cons_drop,if_pos him,map_append,map_cons,map_take,map_drop]
   have hix:∀ R:D->Prop,R (.int (mid[i]?.getD 0))->rdIx (zg mid) (.int i) R:=fun R h=>by
    unfold zg
    rw[q_rdIxT]
    refine⟨_,xm ?_,h⟩
    rw[getElem?_map,getElem?_eq_getElem him];rfl
   push_cast at c2
   have htup:∀ R:List D->Prop,R (mid.map D.int)->tupAt (zg mid) R:=fun R h=>⟨_,rfl,h⟩
   simp
   refine⟨lt_size (by lia),htup _ (hix _ ⟨.inl (by rcases hs with rfl | rfl<;>exact⟨by decide,by decide⟩),?_⟩)⟩
   simp[c1]
   refine⟨zM (by lia),htup _ ?_⟩
   rw[c2]
   simp
   refine⟨zM (by lia),rfl,ps++[mid.set i (mid[i]?.getD 0+s*far)],some (.int i),some (.int s),z,by simp;lia,rfl,fun p hp=>?_,?_⟩
   ·rcases List.mem_append.mp hp with hp | hp
    ·exact hps p hp
    ·exact .inr ⟨i,s,by lia,hs,List.mem_singleton.mp hp⟩
   ·rw [List.map_append, List.map_cons, <- eset]
    simp
  ·rintro rho n' ⟨rfl, ps, a, b, z, hpl, _, hps, rfl⟩
   exact⟨rfl,ps,_,_,_,by simp at hpl;lia,True.intro,hps,rfl⟩
 ·rintro rho n' ⟨rfl, ps, a, b, z, hpl, _, hps, rfl⟩
  rw[rng_len] at hpl
  exact runL _ x0 ps a b z rfl g0 (by lia) (by lia) hps
end
end K43
namespace K43
def keyNo(i:Nat):Int × Int:=((match i/100 with | 0=>0 | 1=>1 | 2=>2 | 3=>10000000000000000 | 4=>-5 | _=>-6),(i%100:Nat))
def incrH(H:Nat->Int):Int->List Nat->Bool
 | _,[]=>true
 | h,i::is=>decide (h<H i)&&incrH H (H i) is
def hNo(i:Nat):Int:=hashP (keyNo i)
def hashRow:List Nat:=[479,322,375,344,128,508,150,359,172,328,523,381,165,214,545,31,236,0,567,53,156,205,258,409,22,75,582,431,273,551,400,453,242,59,475,318,468,124,333,302,355,324,519,377,161,210,541,27,130,183,232,49,152,556,405,18,247,525,578,427,216,269,547,33,449,238,55,464,433,329,275,351,515,104,157,206,366,126,179,357,552,401,243,521,7,574,163,212,265,543,29,82,234,438,51,407,460,249,580,429,66,482,325,271,100,153,466,309,362,122,331,353,548,137,239,517,3,106,56,159,208,539,25,181,532,434,223,554,403,40,456,245,9,576,425,62,267,440,282,462,305,358,68,327,380,111,349,133,513,102,155,506,364,528,581,430,170,219,272,550,36,139,241,5,572,58,263,414,256,436,73,278,42,458,301,64,323,107,473,129,442,338,307,502,360,144,524,382,10,113,166,215,546,32,135,1,561,410,463,252,530,16,583,432,69,221,274,38,447,60,103,416,469,312,334,280,303,356,140,520,6,109,162,371,131,340,535,226,504,557,406,146,248,526,12,579,65,168,217,270,34,443,563,412,465,308,254,71,330,276,480,136,345,105,471,314,367,127,336,531,120,222,500,553,142,244,522,8,164,213,373,30,537,23,439,228,281,559,408,45,304,250,14,67,423,476,445,341,467,310,363,332,527,116,169,138,347,4,160,511,369,413,202,533,19,175,224,277,555,404,41,246,63,570,419,472,261,441,78,337,230,283,47,306,112,478,321,134,343,507,365,560,149,529,15,118,171,220,37,544,235,566,415,52,204,257,21,437,74,177,279,43,452,108,421,474,317,370,80,339,123,503,361,145,354,11,114,167,376,540,182,231,509,562,411,48,151,200,253,17,70,173,577,426,39,268,448,237,568,417,54,470,313,259,76,335,119,141,454,350,110,319,514,372,536,125,178,227,505,558,44,147,13,378,573,422,211,264,542,28,444,81,233,564,50,255,459,72,115,428,481,450,346,315,510,368,201,121,174,383,501,143,352,516,374,2,569,418,158,207,260,538,24,77,180,229,46,251,402,455,575,424,61,477,320,266,446,83,342,311,148,461,117,483,326,379,348,132,512,565,101,154,203,534,20,176,225,218,549,35,451,240,518,571,420,57,316,209,262,26,79,435,457,300]
theorem hashRow_up:incrH hNo (-9223372036854775809) hashRow=true:=by decide +kernel
theorem hashRow_all:(List.range 6).all (fun a=>(List.range 84).all fun b=>hashRow.contains (100*a+b))=true:=by decide +kernel
theorem incr_low{H:Nat->Int}:∀ {l:List Nat} {h:Int},incrH H h l=true->∀ i∈l,h<H i
 | [],_,_,i,hi=>by simp at hi
 | j::l,h,e,i,hi=>by
  unfold incrH at e
  rw[Bool.and_eq_true] at e
  have h1:=of_decide_eq_true e.1
  rcases List.mem_cons.mp hi with rfl | hi
  ·exact h1
  ·exact Int.lt_trans h1 (incr_low e.2 i hi)
theorem incr_inj{H:Nat->Int}:∀ {l:List Nat} {h:Int},incrH H h l=true->∀ i∈l,∀ j∈l,H i=H j->i=j
 | [],_,_,i,hi,_,_,_=>by simp at hi
 | k :: l, h, e, i, hi, j, hj, eh => by
  unfold incrH at e
  rw[Bool.and_eq_true] at e
  rcases List.mem_cons.mp hi with hi | hi<;>rcases List.mem_cons.mp hj with hj | hj
  ·rw[hi,hj]
  ·have := incr_low e.2 j hj
   rw[hi] at eh
   lia
  ·have := incr_low e.2 i hi
   rw[hj] at eh
   lia
  ·exact incr_inj e.2 i hi j hj eh
def FewKey(k:Int):Prop:=k=0\/k=1\/k=2\/k=10000000000000000\/k=-5\/k=-6
theorem few_no{k n:Int}(hk:FewKey k)(h0:0<=n)(h1:n<=83):∃ i∈hashRow,(k,n)=keyNo i:=by
 obtain⟨m,rfl⟩:=Int.eq_ofNat_of_zero_le h0
 have hm:m<84:=by lia
 have mem:∀ a<6,100*a+m∈hashRow:=fun a ha=>by
  have z:=List.all_eq_true.mp (List.all_eq_true.mp hashRow_all a (List.mem_range.mpr ha)) m (List.mem_range.mpr hm)
  exact List.contains_iff_mem.mp z
 have key:∀ a,(100*a+m)/100=a/\(100*a+m)%100=m:=fun a=>by lia
 have no:∀ a,keyNo (100*a+m)=((match a with | 0=>0 | 1=>1 | 2=>2 | 3=>10000000000000000 | 4=>-5 | _=>-6),(m:Int)):=fun a=>by
  unfold keyNo
  rw[(key a).1,(key a).2]
 rcases hk with rfl | rfl | rfl | rfl | rfl | rfl
 ·exact⟨_,mem 0 (by decide),(no 0).symm⟩
 ·exact⟨_,mem 1 (by decide),(no 1).symm⟩
 ·exact⟨_,mem 2 (by decide),(no 2).symm⟩
 ·exact⟨_,mem 3 (by decide),(no 3).symm⟩
 ·exact⟨_,mem 4 (by decide),(no 4).symm⟩
 ·exact⟨_,mem 5 (by decide),(no 5).symm⟩
theorem few_hash{k l n m:Int}(hk:FewKey k)(hl:FewKey l)(h0:0<=n)(h1:n<=83)(g0:0<=m)(g1:m<=83)(hne:n≠m):hashP (k,n)≠hashP (l,m):=fun e=>by
 obtain⟨i,hi,ei⟩:=few_no hk h0 h1
 obtain⟨j,hj,ej⟩:=few_no hl g0 g1
 rw[ei,ej] at e
 have:=incr_inj hashRow_up i hi j hj e
 rw[this,<- ej] at ei
 exact hne (congrArg Prod.snd ei)
theorem sum_one:∀ (l:List Int) (i:Nat),(∀ (j:Nat) x,l[j]?=some x->j≠i->x=0)->l.sum=l[i]?.getD 0
 | [],i,_=>rfl
 | y :: l, 0, h => by
  have ih:l.sum=0:=by
   have hz:∀ x∈l,x=0:=fun x hx=>by
    obtain⟨j,hj⟩:=List.mem_iff_getElem?.mp hx
    exact h (j+1) x (by simpa using hj) (by lia)
   clear h
   induction l with
   | nil=>rfl
   | cons a l ih =>
    rw[sum_cons,ih fun x hx=>hz x (mem_cons_of_mem _ hx),hz a (by simp)]
    rfl
  rw[sum_cons,ih]
  simp
 | y::l,i+1,h=>by
  have h0:=h 0 y rfl (by lia)
  have ih:=sum_one l i fun j x hj hne=>h (j+1) x (by simpa using hj) (by lia)
  rw[sum_cons,h0,ih]
  simp
theorem steps_at{d:Nat}{mid:List Int}(hm:mid.length=d)(ts:List Thing){j:Nat}{x:Int}(h:(((bdI d ts).zip mid).map fun z=>stepI z.1 z.2)[j]?=some x):j<d/\x=stepI (loN ts j,hiN ts j) (mid[j]?.getD 0):=by
 rw[getElem?_map] at h
 cases e:((bdI d ts).zip mid)[j]? with
 | none=>rw[e] at h;cases h
 | some z =>
  rw[e] at h
  cases h
  have hj:j<d:=by
   have:=(List.getElem?_eq_some_iff.mp e).1
   rw[length_zip,bdI_len,hm] at this
   lia
  obtain⟨e1,e2⟩:=List.getElem?_zip_eq_some.mp e
  rw[bdI_at ts hj] at e1
  obtain⟨z1,z2⟩:=z
  cases e1
  refine⟨hj,?_⟩
  show stepI _ z2=_
  have e3:mid[j]?=some z2:=e2
  rw[e3]
  rfl
theorem at_steps{d:Nat}{mid:List Int}(hm:mid.length=d)(ts:List Thing){j:Nat}(hj:j<d):(((bdI d ts).zip mid).map fun z=>stepI z.1 z.2)[j]?=some (stepI (loN ts j,hiN ts j) (mid[j]?.getD 0)):=by
 have hl:j<(((bdI d ts).zip mid).map fun z=>stepI z.1 z.2).length:=by rw[length_map,length_zip,bdI_len,hm];lia
 have e:=getElem?_eq_getElem hl
 rw[e,<- (steps_at hm ts e).2]
theorem cr_at{d:Nat}{mid p:List Int}{far:Int}(hm:mid.length=d)(h:Cr d mid far p)(j:Nat):p[j]?.getD 0=mid[j]?.getD 0\/p[j]?.getD 0=mid[j]?.getD 0+far\/p[j]?.getD 0=mid[j]?.getD 0-far:=by
 rcases h with rfl | ⟨i,s,hi,hs,rfl⟩
 ·exact .inl rfl
 ·by_cases e : j = i
  ·subst e
   have:(mid.set j (mid[j]?.getD 0+s*far))[j]?.getD 0=mid[j]?.getD 0+s*far:=by rw[getElem?_set_self (by lia)];rfl
   rw[this]
   rcases hs with rfl | rfl
   ·exact .inr (.inl (by lia))
   ·exact .inr (.inr (by lia))
  ·rw [List.getElem?_set_ne (Ne.symm e)]
   exact .inl rfl
theorem cr_other{d:Nat}{mid p:List Int}{far:Int}(h:Cr d mid far p):∃ i,i<d/\(∀ j,j≠i->p[j]?.getD 0=mid[j]?.getD 0)\/p=mid:=by
 rcases h with rfl | ⟨i,s,hi,hs,rfl⟩
 ·exact⟨0,.inr rfl⟩
 ·exact⟨i,.inl ⟨hi,fun j hj=>by rw[getElem?_set_ne (Ne.symm hj)]⟩⟩
theorem cross_steps{d:Nat}{mid:List Int}{far:Int}(hd:1<=d)(hf:1<=far)(hm:mid.length=d){ts:List Thing}(h1:1<=ts.length)(hc:∀ t∈ts,Cr d mid far t.2.1):stepsI (bdI d ts) mid=0\/stepsI (bdI d ts) mid=far:=by
 obtain⟨t,ht⟩:=List.exists_mem_of_length_pos h1
 have col:∀ (u:Thing) (j:Nat),u∈ts->u.2.1[j]?.getD 0∈colN ts j:=fun u j hu=>by rw[colN_eq];exact List.mem_map.mpr ⟨u,hu,rfl⟩
 have vals:∀ (j:Nat) (x:Int),x∈colN ts j->x=mid[j]?.getD 0\/x=mid[j]?.getD 0+far\/x=mid[j]?.getD 0-far:=fun j x hx=>by
  rw[colN_eq] at hx
  obtain⟨u,hu,rfl⟩:=List.mem_map.mp hx
  exact cr_at hm (hc u hu) j
 have zero:∀ j,t.2.1[j]?.getD 0=mid[j]?.getD 0->stepI (loN ts j,hiN ts j) (mid[j]?.getD 0)=0:=fun j e=>by
  have a:=loN_le h1 (col t j ht)
  have b:=le_hiN h1 (col t j ht)
  rw[e] at a b
  unfold stepI
  show max 0 (max (loN ts j-_) (_-hiN ts j))=0
  lia
 obtain⟨i,h⟩:=cr_other (hc t ht)
 have oth:∀ j,j≠i->t.2.1[j]?.getD 0=mid[j]?.getD 0:=fun j hj=>by
  rcases h with ⟨_,h⟩ | h
  ·exact h j hj
  ·rw[h]
 have e:stepsI (bdI d ts) mid=(((bdI d ts).zip mid).map fun z=>stepI z.1 z.2)[i]?.getD 0:=sum_one _ i fun j x hj hne=>by
  rw[(steps_at hm ts hj).2]
  exact zero j (oth j hne)
 rw[e]
 cases q:(((bdI d ts).zip mid).map fun z=>stepI z.1 z.2)[i]? with
 | none=>exact .inl rfl
 | some x =>
  obtain⟨hi,hx⟩:=steps_at hm ts q
  rw[hx]
  have a:=vals i _ (loN_mem (ts:=ts) (i:=i) h1)
  have b:=vals i _ (hiN_mem (ts:=ts) (i:=i) h1)
  have c:=loN_hiN (ts:=ts) (i:=i) h1
  show stepI (loN ts i,hiN ts i) (mid[i]?.getD 0)=0\/stepI (loN ts i,hiN ts i) (mid[i]?.getD 0)=far
  unfold stepI
  dsimp only
  lia
theorem colN_one(t:Thing)(j:Nat):loN [t] j=t.2.1[j]?.getD 0/\hiN [t] j=t.2.1[j]?.getD 0:=by
 have a:=loN_mem (ts:=[t]) (i:=j) (by simp)
 have b:=hiN_mem (ts:=[t]) (i:=j) (by simp)
 rw[colN_eq] at a b
 exact⟨by simpa using a,by simpa using b⟩
theorem one_steps{d:Nat}{mid:List Int}{far:Int}(hd:1<=d)(hf:1<=far)(hm:mid.length=d){t:Thing}(hc:Cr d mid far t.2.1):stepsI (bdI d [t]) mid=far*(if t.2.1=mid then 0 else 1):=by
 have zero:∀ j,t.2.1[j]?.getD 0=mid[j]?.getD 0->stepI (loN [t] j,hiN [t] j) (mid[j]?.getD 0)=0:=fun j e=>by
  obtain⟨a,b⟩:=colN_one t j
  rw[a,b,e]
  unfold stepI
  dsimp only
  lia
 rcases hc with h | ⟨i,s,hi,hs,h⟩
 ·rw [if_pos h]
  have e:stepsI (bdI d [t]) mid=(((bdI d [t]).zip mid).map fun z=>stepI z.1 z.2)[0]?.getD 0:=sum_one _ 0 fun j x hj hne=>by
   rw[(steps_at hm [t] hj).2]
   exact zero j (by rw[h])
  rw[e,at_steps hm [t] (by lia)]
  show stepI (loN [t] 0,hiN [t] 0) (mid[0]?.getD 0)=_
  rw[zero 0 (by rw[h])]
  lia
 ·have ei : t.2.1[i]?.getD 0 = mid[i]?.getD 0 + s * far := by rw [h, List.getElem?_set_self (by lia)]; rfl
  have hne:¬ t.2.1=mid:=fun z=>by
   rw[z] at ei
   rcases hs with rfl | rfl<;>lia
  rw[if_neg hne]
  have e:stepsI (bdI d [t]) mid=(((bdI d [t]).zip mid).map fun z=>stepI z.1 z.2)[i]?.getD 0:=sum_one _ i fun j x hj hne=>by
   rw[(steps_at hm [t] hj).2]
   exact zero j (by rw[h,getElem?_set_ne (Ne.symm hne)])
  rw[e,at_steps hm [t] hi]
  obtain⟨a,b⟩:=colN_one t i
  show stepI (loN [t] i,hiN [t] i) (mid[i]?.getD 0)=_
  rw[a,b,ei]
  unfold stepI
  dsimp only
  rcases hs with rfl | rfl<;>lia
theorem maxL_one(x:Int):maxL [x]=x:=(maxL_eq (ns:=[x]) (by simp) (by simp)).symm
theorem best_one(d:Nat)(t:Thing):keyT d none [t]=- t.2.2:=by
 show-maxL [t.2.2]=_
 rw[maxL_one]
section
variable {d:Nat} {mid:List Int} {far:Int} {ts:List Thing}
theorem Cross.names(h:Cross d mid far ts):(ts.map fun t=>t.1).Nodup:=List.pairwise_map.mpr (h.up.imp fun {a b} h=>by lia)
theorem Cross.good(hm:mid.length=d)(h:Cross d mid far ts):GoodU d ts:=⟨fun t ht=>by
  rcases(h.each t ht).1 with e | ⟨i,s,_,_,e⟩
  ·rw[e];exact hm
  ·rw[e,length_set];exact hm,h.names⟩
theorem Cross.few(hd:1<=d)(hf:far=1\/far=2\/far=10000000000000000)(hm:mid.length=d)(h:Cross d mid far ts){kd:Option (List Int)}(hk:kd=some mid\/kd=none){ls:List Thing}(hl:∀ t∈ls,t∈ts)(h1:1<=ls.length):FewKey (keyT d kd ls)/\0<=zY ls/\zY ls<=83:=by
 obtain⟨t,ht,e⟩:=leastN_mem h1
 have:=(h.each t (hl t ht)).2.2
 refine⟨?_,by lia,by lia⟩
 rcases hk with rfl | rfl
 ·have z := cross_steps hd (by lia) hm h1 fun t ht => (h.each t (hl t ht)).1
  show FewKey (stepsI (bdI d ls) mid)
  unfold FewKey
  lia
 ·show FewKey (- maxL (ls.map fun t => t.2.2))
  have z:=(maxL_spec (exists_max (ns:=ls.map fun t=>t.2.2) (by rw[length_map];exact h1))).1
  obtain⟨u,hu,eu⟩:=List.mem_map.mp z
  have:=(h.each u (hl u hu)).2.1
  unfold FewKey
  lia
theorem Cross.hash(hd:1<=d)(hf:far=1\/far=2\/far=10000000000000000)(hm:mid.length=d)(h:Cross d mid far ts){kd:Option (List Int)}(hk:kd=some mid\/kd=none):HashOk d kd ts:=fun ls us hl hu h1 h2 hne=>by
 obtain⟨a1,a2,a3⟩:=h.few hd hf hm hk hl h1
 obtain⟨b1,b2,b3⟩:=h.few hd hf hm hk hu h2
 exact few_hash a1 b1 a2 a3 b2 b3 hne
end
end K43
set_option maxHeartbeats 2000000
namespace K43
theorem okE_end(e:End)(k:Nat):okE (encEnd e) (k+1)=true:=by
 rcases e with _ | ⟨n,s⟩
 ·simp[okE]
 ·exact okE_tup.mpr fun d hd=>by
   simp only[mem_cons,not_mem_nil,or_false] at hd
   rcases hd with rfl | rfl<;>simp[okE]
theorem okE_box(b:List Span):okE (zL b) 20=true:=okE_tup.mpr fun e he=>by
 obtain⟨s,_,rfl⟩:=List.mem_map.mp he
 exact okE_tup.mpr fun d hd=>by
  simp only[mem_cons,not_mem_nil,or_false] at hd
  rcases hd with rfl | rfl<;>exact okE_end _ 17
theorem eqD_end(a b:End):eqD (encEnd a) (encEnd b)=decide (a=b):=by
 rcases a with _ | ⟨n,s⟩<;>rcases b with _ | ⟨m,t⟩
 ·rfl
 ·simp[encEnd,eqD]
 ·simp[encEnd,eqD]
 ·simp only [encEnd, eqD, eqDs, Bool.and_true]
  rw[Bool.eq_iff_iff]
  simp
theorem eqD_span(a b:Span):eqD (zJ a) (zJ b)=decide (a=b):=by
 obtain⟨a1,a2⟩:=a
 obtain⟨b1,b2⟩:=b
 unfold zJ
 simp only[eqD,eqDs,eqD_end,Bool.and_true]
 rw[Bool.eq_iff_iff];simp
theorem eqDs_spans:∀ a b:List Span,eqDs (a.map zJ) (b.map zJ)=decide (a=b)
 | [],[]=>by simp[eqDs]
 | [],q::qs=>by simp[eqDs]
 | p::ps,[]=>by simp[eqDs]
 | p::ps,q::qs=>by
  simp only[map_cons,eqDs,eqD_span,eqDs_spans ps qs]
  rw[Bool.eq_iff_iff];simp
theorem eqD_box(a b:List Span):eqD (zL a) (zL b)=decide (a=b):=by
 unfold zL
 simp only[eqD,eqDs_spans]
theorem eqD_pl(a b:List Int):eqD (zg a) (zg b)=decide (a=b):=by
 unfold zg
 simp only[eqD,eqDs_ints]
theorem okE_pl(a:List Int):okE (zg a) 20=true:=okE_place a 19
def wideB(d:Nat):List Span:=replicate d (none,none)
def spanB(mid:List Int)(far:Int)(i side:Nat)(shut:Bool):Span:=if side=0 then(some (mid[i]?.getD 0,shut),none) else(none,some (mid[i]?.getD 0+far,shut))
def edgeB(mid:List Int)(far:Int)(i side:Nat):Int:=if side=0 then mid[i]?.getD 0 else mid[i]?.getD 0+far
def innerB(mid:List Int)(far:Int)(i side:Nat)(shut:Bool)(x:Int):Bool:=(if side=0 then decide (edgeB mid far i side<x) else decide (x<edgeB mid far i side))||(decide (x=edgeB mid far i side)&&shut)
theorem span_inner{mid:List Int}{far:Int}{i side:Nat}{shut:Bool}{x:Int}:spanT (spanB mid far i side shut) x=innerB mid far i side shut x:=by
 unfold spanB innerB edgeB
 by_cases h:side=0
 ·rw [if_pos h, if_pos h, if_pos h, Bool.eq_iff_iff]
  cases shut<;>simp[spanT,leastT,greatT,liesT]<;>lia
 ·rw [if_neg h, if_neg h, if_neg h, Bool.eq_iff_iff]
  cases shut<;>simp[spanT,leastT,greatT,liesT]<;>lia
theorem wide_fits(d:Nat)(p:List Int):fitsT (wideB d) p=true:=by
 unfold fitsT
 refine all_zip.mpr fun i a b ha hb=>?_
 have:=mem_of_getElem? ha
 rw[List.eq_of_mem_replicate this]
 rfl
theorem set_fits{d i:Nat}(hi:i<d)(sp:Span){p:List Int}(hp:p.length=d):fitsT ((wideB d).set i sp) p=spanT sp (p[i]?.getD 0):=by
 unfold fitsT
 have hl:(wideB d).length=d:=length_replicate ..
 rw[Bool.eq_iff_iff,all_zip]
 constructor
 ·intro h
  refine h i sp _ (by rw[getElem?_set_self (by lia)]) ?_
  rw[getElem?_eq_getElem (by lia)];rfl
 ·intro h j a b ha hb
  by_cases e:j=i
  ·subst e
   rw[getElem?_set_self (by lia)] at ha
   cases ha
   rw[hb] at h
   exact h
  ·rw [List.getElem?_set_ne (Ne.symm e)] at ha
   rw[List.eq_of_mem_replicate (mem_of_getElem? ha)]
   rfl
structure BoxOk(d:Nat)(mid:List Int)(far:Int)(i side:Nat)(shut:Bool)(b:List Span):Prop where
 len:b.length=d
 has:∀ p:List Int,p.length=d->hasT (zK b) p=(decide (b=wideB d)||innerB mid far i side shut (p[i]?.getD 0))
theorem box_wide{d i side:Nat}{mid:List Int}{far:Int}{shut:Bool}(hd:1<=d):BoxOk d mid far i side shut (wideB d):=⟨length_replicate ..,fun p hp=>by
 rw[<- fits_plain (by rw[hp];exact length_replicate ..) (by lia),wide_fits]
 simp⟩
theorem box_set{d i side:Nat}{mid:List Int}{far:Int}{shut:Bool}(hd:1<=d)(hi:i<d):BoxOk d mid far i side shut ((wideB d).set i (spanB mid far i side shut)):=⟨by rw[length_set];exact length_replicate ..,fun p hp=>by
 have hl:(wideB d).length=d:=length_replicate ..
 have hne:¬ (wideB d).set i (spanB mid far i side shut)=wideB d:=fun z=>by
  have e:=congrArg (fun l:List Span=>l[i]?) z
  rw[getElem?_set_self (by lia)] at e
  unfold wideB at e
  rw[getElem?_replicate,if_pos hi] at e
  unfold spanB at e
  split at e<;>cases e
 rw[<- fits_plain (by rw[hp,length_set];exact hl) (by lia),set_fits hi _ hp,span_inner,decide_eq_false hne,Bool.false_or]⟩
def farN(mid:List Int)(far:Int)(t:Thing):Int:=far*(if t.2.1=mid then 0 else 1)
def rowN(mid:List Int)(far:Int)(t:Thing):SRow:=⟨.n (farN mid far t),t.1,[.int t.2.2]⟩
def rowB(t:Thing):SRow:=⟨.n (0-t.2.2),t.1,[]⟩
theorem row_lt{a b:Int}{x y:Int}{r r':List D}(h:SRow.lt ⟨.n a,x,r⟩ ⟨.n b,y,r'⟩=true):ltP (a,x) (b,y)=true:=by
 unfold SRow.lt at h
 rw[ltP_iff]
 by_cases e:a=b
 ·subst e
  simp at h
  exact .inr ⟨rfl,h⟩
 ·simp only [SKey.n.injEq, e, if_false, SKey.lt, decide_eq_true_eq] at h
  exact .inl h
section
variable {d:Nat} {mid:List Int} {far:Int} {ts rs:List Thing}
theorem near_up(hd:1<=d)(hf:1<=far)(hm:mid.length=d)(h:∀ t∈rs,Cr d mid far t.2.1)(hs:rs.Pairwise fun a b=>(rowN mid far a).lt (rowN mid far b)=true):rs.Pairwise (ltK d (some mid)):=by
 refine List.Pairwise.imp_of_mem (fun {a b} ha hb h1=>?_) hs
 have:=row_lt h1
 unfold ltK keyP
 rw[leastN_one,leastN_one]
 have ea:keyT d (some mid) [a]=farN mid far a:=one_steps hd hf hm (h a ha)
 have eb:keyT d (some mid) [b]=farN mid far b:=one_steps hd hf hm (h b hb)
 rw[ea,eb]
 exact this
theorem best_up(hs:rs.Pairwise fun a b=>(rowB a).lt (rowB b)=true):rs.Pairwise (ltK d none):=by
 refine hs.imp fun {a b} h1=>?_
 have:=row_lt h1
 unfold ltK keyP
 rw[leastN_one,leastN_one,best_one,best_one]
 rw[Int.zero_sub,Int.zero_sub] at this
 exact this
end
structure JLaw(ns:List Int)(i:Nat)(rho:Rho)(n:Nat):Prop where
 e:n=3
 r:∃ a1 a2 a3 a4 a5 a6 a7 a8 a9 a10 a11 a12 a13 a14 a15 a16 a17 a18 a19 a20 a21 a22 a23 a24:Option D,rho=[some (zp ns),a1,a2,a3,a4,a5,a6,a7,a8,a9,a10,a11,a12,a13,a14,a15,a16,a17,a18,a19,a20,a21,a22,a23,a24]
structure JBox(hd:List (Option D))(i:Nat)(rho:Rho)(n:Nat):Prop where
 e:n=3
 r:∃ b13 b14 b15 b16 b17 b18 b19 b20 b21 b22 b23 b24:Option D,rho=hd++[b13,b14,b15,b16,b17,b18,b19,b20,b21,b22,b23,b24]
structure JMany(hd:List (Option D))(i:Nat)(rho:Rho)(n:Nat):Prop where
 e:n=3
 r:∃ a:Option D,rho=hd++[a]
theorem okE_nm(l:List Thing):okE (.tup (l.map fun t=>.int t.1)) 20=true:=okE_tup.mpr fun d hd=>by
 obtain⟨t,_,rfl⟩:=List.mem_map.mp hd
 exact okE_int
theorem eqD_nm(l:List Thing):eqD (.tup (l.map fun t=>.int t.1)) (.tup (l.map fun t=>.int t.1))=true:=by
 have e:(l.map fun t:Thing=>D.int t.1)=(l.map fun t=>t.1).map D.int:=by rw[map_map];rfl
 rw[e]
 simp only[eqD,eqDs_ints]
 simp
structure JSm(hd:List (Option D))(pl:List Pair)(mid:List Int)(far:Int)(ts:List Thing)(i:Nat)(rho:Rho)(n:Nat):Prop where
 e:n=3
 r:∃ c15 c16 c17 c18 c19 c20 c21 c22 c23 c24:Option D,rho=hd++[some (.own ((fitT pl (ts.take i)).map fun t=>(rowN mid far t).d)),c15,c16,c17,c18,c19,c20,c21,c22,c23,c24]
theorem fit_take{pl:List Pair}{ts:List Thing}{i:Nat}{t:Thing}(h:ts[i]?=some t):fitT pl (ts.take (i+1))=fitT pl (ts.take i)++(if hasT pl t.2.1=true then [t] else []):=by
 unfold fitT
 rw[take_add_one,h,List.filter_append]
 congr 1
 show List.filter _ [t]=_
 cases ha:hasT pl t.2.1<;>simp[ha]
section
variable {P:Program} {w:World} {K:W.Frag} {mg:Str->Option Value} {base:Heap} {f:Addr} {fd:FuncData}
abbrev s_law:Stmt:=top 29
abbrev N_law:List Str:=["_law_script", "_law_k", "_law_left_here", "_law_d", "_law_far", "_law_middle", "_law_house", "_law_tree_here", "_law_i", "_law_side", "_law_shut", "_law_span", "_law_wide", "_law_box", "_law_some", "_law_name", "_law_place", "_law_worth", "_law_number", "_law_edge", "_law_inner", "_law_near", "_law_ranked", "_law_best", "_law_many"]
theorem sc_law:FnScope N_law ["_law_script"] (zi s_law):=⟨rfl,rfl,rfl,by decide +kernel,rfl,by decide +kernel,by decide +kernel⟩
theorem nd_law_0:("_law_i" :: ["_law_script", "_law_k", "_law_left_here", "_law_d", "_law_far", "_law_middle", "_law_house", "_law_tree_here", "_law_i'", "_law_side", "_law_shut", "_law_span", "_law_wide", "_law_box", "_law_some", "_law_name", "_law_place", "_law_worth", "_law_number", "_law_edge", "_law_inner", "_law_near", "_law_ranked", "_law_best", "_law_many"]:List Str).Nodup:=by decide +kernel
theorem nd_law_1:("_law_far_off" :: "_law_name" :: "_law_worth" :: ["_law_script", "_law_k", "_law_left_here", "_law_d", "_law_far", "_law_middle", "_law_house", "_law_tree_here", "_law_i", "_law_side", "_law_shut", "_law_span", "_law_wide", "_law_box", "_law_some", "_law_name'", "_law_place", "_law_worth'", "_law_number", "_law_edge", "_law_inner", "_law_near", "_law_ranked", "_law_best", "_law_many"]:List Str).Nodup:=by decide +kernel
theorem nd_law_2:("_law_far_off" :: "_law_name" :: "_law_worth" :: ["_law_script", "_law_k", "_law_left_here", "_law_d", "_law_far", "_law_middle", "_law_house", "_law_tree_here", "_law_i", "_law_side", "_law_shut", "_law_span", "_law_wide", "_law_box", "_law_some", "_law_name'", "_law_place", "_law_worth'", "_law_number", "_law_edge", "_law_inner", "_law_near", "_law_ranked", "_law_best", "_law_many"]:List Str).Nodup:=by decide +kernel
theorem nd_law_3:("_law_worth" :: "_law_name" :: ["_law_script", "_law_k", "_law_left_here", "_law_d", "_law_far", "_law_middle", "_law_house", "_law_tree_here", "_law_i", "_law_side", "_law_shut", "_law_span", "_law_wide", "_law_box", "_law_some", "_law_name'", "_law_place", "_law_worth'", "_law_number", "_law_edge", "_law_inner", "_law_near", "_law_ranked", "_law_best", "_law_many"]:List Str).Nodup:=by decide +kernel
theorem ok_law(T : Blt mg)(F : Fun K "law" "law" s_law f fd)(Y_left : Fn P w K mg base "_law_left" 1 2 t_left)(Y_pick : Fn P w K mg base "_law_pick" 1 2 t_pick)(Y_cross : Fn P w K mg base "_law_cross" 3 4 t_cross)(Y_tree : Fn P w K mg base "_law_tree" 35 2 t_ltree)(F_drawn : Fn P w K mg base "drawn" 8 5 t_drawn) :
  FnOk P w K mg base CX0 36 f fd ["_law_script"] (spLawD K):=by
 refine Fun.okLaw F sc_law 3 (fun _ _ _ s H E hr=>(ze (psd_for (m:=25) PassesOwn.never rfl (pid_rng T.range (zb (zx (call_max2 rfl) cr_max2 T.max bt_max (zb zf (zb (zx (call_min2 rfl) cr_min2 T.min bt_min (zb (zx zQ cr_len T.len bt_len (zb (zc 0) zd)) (zb zf zd))) zd))) zd)) (zj (i:=1) sc_law.nd rfl (lo rfl) (by decide))
  (pssd_new (i:=2) rfl sc_law.nd rfl (lo rfl) Y_left (hr.mono (by decide)) rfl (zb (zc 0) (zb (zc 1) zd)) (fun c Z H0=>(ze (psd_parK (i:=3) (j:=4) rfl sc_law.nd rfl rfl (by decide) rfl rfl (zb (pd_add zf (zX Y_pick (hr.mono (by decide)) rfl (zb (zc 2) (zb zf zd)))) (zb (zW zA zV (pd_lst (zb zf (zb zf (zb (pd_pow zf zf) zd)))) (zX Y_pick (hr.mono (by decide)) rfl (zb (zc 2) (zb zf zd))) (fun _ _=>rfl)) zd)))
  (ze (zI (i:=5) sc_law.nd rfl (lo rfl) (zT zD cr_tuple T.tuple bt_tuple (zb (pd_comp (own:=["_law_i"]) (M:=["_law_script", "_law_k", "_law_left_here", "_law_d", "_law_far", "_law_middle", "_law_house", "_law_tree_here", "_law_i'", "_law_side", "_law_shut", "_law_span", "_law_wide", "_law_box", "_law_some", "_law_name", "_law_place", "_law_worth", "_law_number", "_law_edge", "_law_inner", "_law_near", "_law_ranked", "_law_best", "_law_many"]) (compOk (by rfl)) rfl (pid_rng T.range (zb (zc 3) zd)) (fun _ _ _ _=>(zj (i:=0) nd_law_0 rfl (lo rfl) (by decide))) (fun _ _ _ _=>xa) (fun _ _ _ _=>(pd_sub (zX Y_pick (hr.mono (by decide)) rfl (zb (zc 3) (zb zf zd))) zf))) zd)))
  (ze (zI (i:=6) sc_law.nd rfl (lo rfl) (zX Y_cross (hr.mono (by decide)) rfl (zb (zc 2) (zb (zc 3) (zb (zc 5) (zb (zc 4) zd))))))
  (ze (zI (i:=7) sc_law.nd rfl (lo rfl) (zX Y_tree (hr.mono (by decide)) rfl (zb (zc 2) (zb (zc 6) zd))))
  (ze (psd_par3K (i:=8) (j:=9) (k:=10) rfl sc_law.nd rfl rfl rfl rfl rfl rfl (zb (zX Y_pick (hr.mono (by decide)) rfl (zb (zc 2) (zb (zc 3) zd))) (zb (zX Y_pick (hr.mono (by decide)) rfl (zb (zc 2) (zb zf zd))) (zb (pd_cmp op_eq re_eq (zX Y_pick (hr.mono (by decide)) rfl (zb (zc 2) (zb zf zd))) zf (zP _)) zd))))
  (ze (zI (i:=11) sc_law.nd rfl (lo rfl) (zW zA zV (pd_lst (zb (xi (zb (xi (zb (zW zA zV (zc 5) (zc 8) (fun _ _=>rfl)) (zb (zc 10) zd))) (zb pd_non zd))) (zb (xi (zb pd_non (zb (xi (zb (pd_add (zW zA zV (zc 5) (zc 8) (fun _ _=>rfl)) (zc 4)) (zb (zc 10) zd))) zd))) zd))) (zc 9) (fun _ _=>rfl)))
  (ze (zI (i:=12) sc_law.nd rfl (lo rfl) (pd_op op_repT re_repT (xi (zb (xi (zb pd_non (zb pd_non zd))) zd)) (zc 3)))
  (zh (psd_for (m:=25) PassesOwn.never rfl (xj rfl (xi (zb (zc 12) (zb (pd_op op_catTT re_catT (pd_op op_catTT re_catT (pd_slT rfl (zc 12) pod_none (pod_some (zc 8))) (xi (zb (zc 11) zd))) (pd_slT rfl (zc 12) (pod_some (pd_add (zc 8) zf)) pod_none)) zd)))) (zj (i:=13) sc_law.nd rfl (lo rfl) (by decide))
  (ze (psd_own (i:=14) sc_law.nd rfl (lo rfl) zd)
  (ze (psd_for (m:=25) PassesOwn.never rfl (xj rfl (zW zA zV (zc 6) zf (fun _ _=>rfl))) (pgd_tup (k:=3) rfl rfl (zk (zj (i:=15) sc_law.nd rfl (lo rfl) (by decide)) (zk (zj (i:=16) sc_law.nd rfl (lo rfl) (by decide)) (zk (zj (i:=17) sc_law.nd rfl (lo rfl) (by decide)) xo))))
  (ze (zI (i:=18) sc_law.nd rfl (lo rfl) (zW zA zV (zc 16) (zc 8) (fun _ _=>rfl)))
  (ze (zI (i:=19) sc_law.nd rfl (lo rfl) (zW zA zV (pd_lst (zb (zW zA zV (zc 5) (zc 8) (fun _ _=>rfl)) (zb (pd_add (zW zA zV (zc 5) (zc 8) (fun _ _=>rfl)) (zc 4)) zd))) (zc 9) (fun _ _=>rfl)))
  (ze (zI (i:=20) sc_law.nd rfl (lo rfl) (pd_or (zW zA zV (pd_lst (zb (pd_cmp op_gt re_gt (zc 18) (zc 19) (zP _)) (zb (pd_cmp op_lt re_lt (zc 18) (zc 19) (zP _)) zd))) (zc 9) (fun _ _=>rfl)) (pd_one (pd_and (pd_cmp op_eq re_eq (zc 18) (zc 19) (zP _)) (pd_one (zc 10))))))
  (zh (psd_if (PWD.pt (pwd_or (zS (op_deq hr) (re_deq rfl) (zc 13) (zc 12) (zP _)) (pwd_or1 (ptd_val (zc 20))))) (zh (psd_append (i:=14) (zb (xi (zb (pd_mul (zc 4) (zT call_int1 cr_intB T.int bt_int (zb (pd_cmp (op_dne hr) (re_dne rfl) (zc 16) (zc 5) (zP _)) zd))) (zb (zc 15) (zb (zc 17) zd)))) zd) rfl)) xb))))))
  (ze (psd_frz 14 (zI (i:=21) sc_law.nd rfl (lo rfl) (zT zD cr_tuple T.tuple bt_tuple (zb (pd_comp (own:=["_law_far_off", "_law_name", "_law_worth"]) (M:=["_law_script", "_law_k", "_law_left_here", "_law_d", "_law_far", "_law_middle", "_law_house", "_law_tree_here", "_law_i", "_law_side", "_law_shut", "_law_span", "_law_wide", "_law_box", "_law_some", "_law_name'", "_law_place", "_law_worth'", "_law_number", "_law_edge", "_law_inner", "_law_near", "_law_ranked", "_law_best", "_law_many"]) (compOk (by rfl)) rfl (xj rfl (zx (call_sortT hr) (cr_sortT rfl) T.sorted bt_sorted (zb (zc 14) zd))) (fun _ _ _ _=>(pgd_tup (k:=3) rfl rfl (zk (zj (i:=0) nd_law_1 rfl (lo rfl) (by decide)) (zk (zj (i:=1) nd_law_1 rfl (lo rfl) (by decide)) (zk (zj (i:=2) nd_law_1 rfl (lo rfl) (by decide)) xo))))) (fun _ _ _ _=>xa) (fun _ _ _ _=>(zc 1))) zd))))
  (ze (zI (i:=22) sc_law.nd rfl (lo rfl) (zx (call_sortT hr) (cr_sortT rfl) T.sorted bt_sorted (zb (pd_comp (own:=["_law_far_off", "_law_name", "_law_worth"]) (M:=["_law_script", "_law_k", "_law_left_here", "_law_d", "_law_far", "_law_middle", "_law_house", "_law_tree_here", "_law_i", "_law_side", "_law_shut", "_law_span", "_law_wide", "_law_box", "_law_some", "_law_name'", "_law_place", "_law_worth'", "_law_number", "_law_edge", "_law_inner", "_law_near", "_law_ranked", "_law_best", "_law_many"]) (compOk (by rfl)) rfl (xj rfl (zc 14)) (fun _ _ _ _=>(pgd_tup (k:=3) rfl rfl (zk (zj (i:=0) nd_law_2 rfl (lo rfl) (by decide)) (zk (zj (i:=1) nd_law_2 rfl (lo rfl) (by decide)) (zk (zj (i:=2) nd_law_2 rfl (lo rfl) (by decide)) xo))))) (fun _ _ _ _=>xa) (fun _ _ _ _=>(xi (zb (pd_sub zf (zc 2)) (zb (zc 1) zd))))) zd)))
  (ze (zI (i:=23) sc_law.nd rfl (lo rfl) (zT zD cr_tuple T.tuple bt_tuple (zb (pd_comp (own:=["_law_worth", "_law_name"]) (M:=["_law_script", "_law_k", "_law_left_here", "_law_d", "_law_far", "_law_middle", "_law_house", "_law_tree_here", "_law_i", "_law_side", "_law_shut", "_law_span", "_law_wide", "_law_box", "_law_some", "_law_name'", "_law_place", "_law_worth'", "_law_number", "_law_edge", "_law_inner", "_law_near", "_law_ranked", "_law_best", "_law_many"]) (compOk (by rfl)) rfl (xj rfl (zc 22)) (fun _ _ _ _=>(pgd_tup (k:=2) rfl rfl (zk (zj (i:=0) nd_law_3 rfl (lo rfl) (by decide)) (zk (zj (i:=1) nd_law_3 rfl (lo rfl) (by decide)) xo)))) (fun _ _ _ _=>xa) (fun _ _ _ _=>(zc 1))) zd)))
  (zh (psd_for (m:=25) PassesOwn.never rfl (pid_rng T.range (zb (pd_add (zx zQ cr_len T.len bt_len (zb (zc 14) zd)) zf) zd)) (zj (i:=24) sc_law.nd rfl (lo rfl) (by decide))
  (ze (psd_if (zS (op_dne hr) (re_dne rfl) (zW zA zV (zX F_drawn (hr.mono (by decide)) rfl (zb (zc 6) (zb (zc 7) (zb (zc 13) (zb (xi (zb pd_str (zb (zc 5) zd))) (zb (zc 24) zd)))))) zf (fun _ _=>rfl)) (pd_slT rfl (zc 21) pod_none (pod_some (zc 24))) (zP _)) (zh (zt pd_bl)) xb)
  (zh (psd_if (zS (op_dne hr) (re_dne rfl) (zW zA zV (zX F_drawn (hr.mono (by decide)) rfl (zb (zc 6) (zb (zc 7) (zb (zc 13) (zb (xi (zb pd_str zd)) (zb (zc 24) zd)))))) zf (fun _ _=>rfl)) (pd_slT rfl (zc 23) pod_none (pod_some (zc 24))) (zP _)) (zh (zt pd_bl)) xb))))))))))))))))))))))
  (zh (zt pd_bl)))) ?_
 generalize hX:sSeq (sSet 6 _) _=X
 intro ns hns
 have nsc:zn (zp ns)=true:=id rfl
 have runX : ∀ (F : EndsD) (d : Nat) (mid : List Int) (far : Int), (∀ rho : Rho, rho.length = 25 -> rho[0]? = some (some (zp ns)) -> F.nx rho 3) -> 1 <= d -> d <= 4 -> mid.length = d -> (far = 1 \/ far = 2 \/ far = 10000000000000000) ->
   X F [some (zp ns),none,some .st,some (.int d),some (.int far),some (zg mid),none,none,none,none,none,none,none,none,none,none,none,none,none,none,none,none,none,none,none] 3:=fun F d mid far hF hd1 hd4 hm hf=>by
  subst hX
  have nm:zn (zg mid)=true:=id rfl
  have hf1:1<=far:=by lia
  generalize hBX:sSeq (sOwn 14 _) _=BX
  simp[nsc,nm]
  refine⟨d,mid,far,rfl,rfl,hd1,hd4,hm,hf1,by lia,fun ts hc=>?_⟩
  have nh:=no_house d ts
  simp[nh]
  have TT:∀ R:D->Nat->Prop,(∀ o:Option Tr,(o=none->ts=[])->(∀ tr,o=some tr->TreeOf d ts tr)->R ((o.map xk).getD .non) 3)->t_ltree [.st,zN d ts] 3 R:=fun R hR=>⟨d,ts,rfl,rfl,hd1,hd4,hc.good hm,by have:=hc.len;lia,fun h=>hR none (fun _=>h) fun tr e=>(by cases e),fun h tr g=>hR (some tr) (fun e=>by cases e) fun tr' e=>by cases e;exact g⟩
  refine TT _ fun o ho1 ho2=>?_
  have no:zn ((o.map xk).getD .non)=true:=by cases o with | none=>rfl | some t=>exact no_encTr t
  refine zE (by lia) (by lia) fun ii g0 g1=>?_
  obtain⟨i,rfl⟩:=Int.eq_ofNat_of_zero_le g0
  refine zE (by decide) (by decide) fun sd g2 g3=>?_
  obtain⟨side,rfl⟩:=Int.eq_ofNat_of_zero_le g2
  refine zE (by decide) (by decide) fun sh g4 g5=>?_
  have hi:i<d:=by lia
  have hix:∀ R:D->Prop,R (.int (mid[i]?.getD 0))->rdIx (zg mid) (.int i) R:=fun R h=>by
   unfold zg
   rw[q_rdIxT]
   refine⟨_,xm ?_,h⟩
   rw[getElem?_map,getElem?_eq_getElem (by lia)];rfl
  simp[no]
  refine⟨_,_,_,⟨rfl,rfl,rfl⟩,?_⟩
  simp
  refine hix _ ?_
  refine hix _ ?_
  simp
  have hside:side<2:=by lia
  generalize hshut:decide (sh=1)=shut
  have esp:atI [D.tup [D.tup [D.int (mid[i]?.getD 0),D.bl shut],D.non],D.tup [D.non,D.tup [D.int (mid[i]?.getD 0+far),D.bl shut]]] (side:Int)=some (zJ (spanB mid far i side shut)):=by
   have:side=0\/side=1:=by lia
   rcases this with rfl | rfl
   ·exact xm (j:=0) rfl
   ·exact xm (j:=1) rfl
  have ew:D.tup (replicate d (D.tup [D.non,D.non]))=zL (wideB d):=by unfold zL wideB;rw[List.map_replicate];rfl
  have c1:cutL (replicate d (D.tup [D.non,D.non])) none (some (i:Int))=((wideB d).map zJ).take i:=by
   rw[cut_to _ _ (by rw[length_replicate];lia)];unfold wideB;rw[List.map_replicate];rfl
  have c2:cutL (replicate d (D.tup [D.non,D.non])) (some ((i:Int)+1)) none=((wideB d).map zJ).drop (i+1):=by
   have:=cut_from (replicate d (D.tup [D.non,D.non])) (i+1) (by rw[length_replicate];lia)
   push_cast at this
   rw[this];unfold wideB;rw[List.map_replicate];rfl
  have hwl:(wideB d).length=d:=length_replicate ..
  have eb2:D.tup (((wideB d).map zJ).take i++zJ (spanB mid far i side shut)::((wideB d).map zJ).drop (i+1))=zL ((wideB d).set i (spanB mid far i side shut)):=by
   unfold zL
   rw[List.set_eq_take_append_cons_drop,if_pos (by lia),map_append,map_cons,map_take,map_drop]
  have nsp:zn (zJ (spanB mid far i side shut))=true:=rfl
  refine⟨_,esp,by lia,zM (by lia),?_⟩
  rw[c1,c2]
  simp[nsp]
  refine⟨zM (by lia),zM (by lia),?_⟩
  rw[eb2,ew]
  refine⟨JBox [some (zp ns),none,some .st,some (.int d),some (.int far),some (zg mid),some (zN d ts),some ((o.map xk).getD .non),some (.int i),some (.int side),some (.bl shut),some (zJ (spanB mid far i side shut)),some (zL (wideB d))],⟨rfl,_,_,_,_,_,_,_,_,_,_,_,_,rfl⟩,?_,?_⟩
  ·rintro j dd rho n' e2 ⟨rfl, b13, b14, b15, b16, b17, b18, b19, b20, b21, b22, b23, b24, rfl⟩
   obtain⟨b,hb,rfl⟩:∃ b:List Span,BoxOk d mid far i side shut b/\dd=zL b:=by
    have:=mem_of_getElem? e2
    simp only[mem_cons,not_mem_nil,or_false] at this
    rcases this with rfl | rfl
    ·exact⟨_,box_wide hd1,rfl⟩
    ·exact⟨_,box_set hd1 hi,rfl⟩
   have nb:zn (zL b)=true:=id rfl
   have nw:zn (zL (wideB d))=true:=id rfl
   subst hBX
   generalize hY:sSeq (sFrz 14 _) _=Y
   have runY:∀ (F2:EndsD) (c15 c16 c17 c18 c19 c20 c21 c22 c23 c24:Option D),(∀ b13 b14 b15 b16 b17 b18 b19 b20 b21 b22 b23 b24:Option D,F2.nx ([some (zp ns),none,some .st,some (.int d),some (.int far),some (zg mid),some (zN d ts),some ((o.map xk).getD .non),some (.int i),some (.int side),some (.bl shut),some (zJ (spanB mid far i side shut)),some (zL (wideB d))]++[b13,b14,b15,b16,b17,b18,b19,b20,b21,b22,b23,b24]) 3) ->
     Y F2 [some (zp ns),none,some .st,some (.int d),some (.int far),some (zg mid),some (zN d ts),some ((o.map xk).getD .non),some (.int i),some (.int side),some (.bl shut),some (zJ (spanB mid far i side shut)),some (zL (wideB d)),some (zL b),some (.own ((fitT (zK b) ts).map fun t=>(rowN mid far t).d)),c15,c16,c17,c18,c19,c20,c21,c22,c23,c24] 3:=fun F2 c15 c16 c17 c18 c19 c20 c21 c22 c23 c24 hF2=>by
    subst hY
    have hlen9:=hc.len
    have hfl:(fitT (zK b) ts).length<=9:=by
     have h1:(fitT (zK b) ts).length<=ts.length:=List.length_filter_le ..
     lia
    have hnd:((fitT (zK b) ts).map fun t=>t.1).Nodup:=(List.filter_sublist.map _).nodup hc.names
    have hcr:∀ t∈fitT (zK b) ts,Cr d mid far t.2.1:=fun t ht=>(hc.each t (List.mem_filter.mp ht).1).1
    generalize hZ:sFor _ _ _=Z2
    have runZ:∀ (rs qs:List Thing) (d5:D),rs.Perm (fitT (zK b) ts)->rs.Pairwise (ltK d (some mid))->qs.Perm (fitT (zK b) ts)->qs.Pairwise (ltK d none) ->
      Z2 F2 [some (zp ns),none,some .st,some (.int d),some (.int far),some (zg mid),some (zN d ts),some ((o.map xk).getD .non),some (.int i),some (.int side),some (.bl shut),some (zJ (spanB mid far i side shut)),some (zL (wideB d)),some (zL b),some (.lst ((fitT (zK b) ts).map fun t=>(rowN mid far t).d)),c15,c16,c17,c18,c19,c20,some (.tup (rs.map fun t=>.int t.1)),some d5,some (.tup (qs.map fun t=>.int t.1)),c24] 3:=fun rs qs d5 p1 u1 p2 u2=>by
     subst hZ
     simp
     refine⟨by lia,by lia,JMany [some (zp ns),none,some .st,some (.int d),some (.int far),some (zg mid),some (zN d ts),some ((o.map xk).getD .non),some (.int i),some (.int side),some (.bl shut),some (zJ (spanB mid far i side shut)),some (zL (wideB d)),some (zL b),some (.lst ((fitT (zK b) ts).map fun t=>(rowN mid far t).d)),c15,c16,c17,c18,c19,c20,some (.tup (rs.map fun t=>.int t.1)),some d5,some (.tup (qs.map fun t=>.int t.1))],⟨rfl,_,rfl⟩,?_,?_⟩
     ·rintro k dd rho n' e4 ⟨rfl, a, rfl⟩
      have e5:dd=.int (k:Int):=by
       have hk:(((fitT (zK b) ts).length:Int)+2).toNat=(fitT (zK b) ts).length+2:=by lia
       rw[hk] at e4
       exact(rng_at e4).2
      subst e5
      have cutN:∀ l:List Thing,cutL (l.map fun t=>D.int t.1) none (some (k:Int))=(l.take k).map fun t=>.int t.1:=fun l=>by
       unfold cutL
       rw[HT.sIx_nat,HT.sIx_none,drop_zero,Nat.sub_zero,length_map,<- map_take,List.take_eq_take_min (l:=l) (i:=k)]
      have hkl:∀ kd:Option (List Int),(kd=some mid\/kd=none)->∀ p,kd=some p->p.length<=1000:=fun kd hk p e=>by
       rcases hk with h | h
       ·rw[h] at e;cases e;lia
       ·rw[h] at e;cases e
      have drw:∀ (kd:Option (List Int)) (l:List Thing) (R:D->Nat->Prop),(kd=some mid\/kd=none)->l.Perm (fitT (zK b) ts)->l.Pairwise (ltK d kd)->(∀ (looks:Int) (w:D),zn w=true->R (.tup [.tup ((l.take k).map fun t=>.int t.1),.int looks,w]) 3)->t_drawn [zN d ts,(o.map xk).getD .non,zL b,encKind kd,.int k] 3 R:=fun kd l R hk hp hu hR =>
       ⟨d,ts,o,b,kd,k,rfl,hd1,by lia,hb.len,hc.names,by lia,hkl kd hk,ho1,ho2,hc.hash hd1 hf hm hk,fun acc looks w hw ht=>by rw[ht l hp hu];exact hR looks w hw⟩
      simp[nh,no,nb,nm]
      refine drw (some mid) rs _ (.inl rfl) p1 u1 fun looks w hw=>?_
      simp
      rw[cutN,<- map_take]
      refine⟨okE_nm _,okE_nm _,?_⟩
      rw[if_pos (eqD_nm _)]
      refine drw none qs _ (.inr rfl) p2 u2 fun looks2 w2 hw2=>?_
      simp
      rw[cutN,<- map_take]
      refine⟨okE_nm _,okE_nm _,?_⟩
      rw[if_pos (eqD_nm _)]
      exact⟨rfl,_,rfl⟩
     ·rintro rho n' ⟨rfl, a, rfl⟩
      exact hF2 _ _ _ _ _ _ _ _ _ _ _ _
    have num1:∀ x∈(fitT (zK b) ts).map (rowN mid far),x.key.num=true:=fun x hx=>by
     obtain⟨t,_,rfl⟩:=List.mem_map.mp hx
     rfl
    have num2:∀ x∈(fitT (zK b) ts).map rowB,x.key.num=true:=fun x hx=>by
     obtain⟨t,_,rfl⟩:=List.mem_map.mp hx
     rfl
    simp
    refine⟨(fitT (zK b) ts).map (rowN mid far),true,by rw[map_map];rfl,by rw[length_map];lia,num1,by rw[map_map];exact hnd,fun rows hp hs'=>⟨_,.inl rfl,?_⟩⟩
    obtain⟨rs,hrp,rfl⟩:=perm_map hp
    have hup:rs.Pairwise fun a b=>(rowN mid far a).lt (rowN mid far b)=true:=by rw[pairwise_map] at hs';exact hs'
    have hrl:=hrp.length_eq
    rw[map_map]
    refine zR (SRow.d∘rowN mid far) (fun t=>.int t.1) rs (zM (by lia)) (fun t ht R hR=>?_) ?_
    ·have e : (SRow.d ∘ rowN mid far) t = .tup [.int (farN mid far t), .int t.1, .int t.2.2] := rfl
     rw[e]
     simp
     exact hR
    simp
    refine zR (fun t=>(rowN mid far t).d) (fun t=>(rowB t).d) (fitT (zK b) ts) (zM (by lia)) (fun t ht R hR=>?_) ?_
    ·have e : (rowN mid far t).d = .tup [.int (farN mid far t), .int t.1, .int t.2.2] := rfl
     rw[e]
     simp
     have e2:(rowB t).d=.tup [.int (0-t.2.2),.int t.1]:=rfl
     rw[e2,Int.zero_sub] at hR
     exact hR
    refine⟨(fitT (zK b) ts).map rowB,true,by rw[map_map];rfl,by rw[length_map];lia,num2,by rw[map_map];exact hnd,fun rows2 hp2 hs2=>?_⟩
    obtain⟨qs,hqp,rfl⟩:=perm_map hp2
    have huq:qs.Pairwise fun a b=>(rowB a).lt (rowB b)=true:=by rw[pairwise_map] at hs2;exact hs2
    have hql:=hqp.length_eq
    rw[map_map]
    simp
    refine zR (SRow.d∘rowB) (fun t=>.int t.1) qs (zM (by lia)) (fun t ht R hR=>?_) ?_
    ·have e : (SRow.d ∘ rowB) t = .tup [.int (0 - t.2.2), .int t.1] := rfl
     rw[e]
     simp
     exact hR
    simp
    exact runZ rs qs _ hrp (near_up hd1 hf1 hm (fun t ht=>hcr t (hrp.mem_iff.mp ht)) hup) hqp (best_up huq)
   simp[nb,nh]
   refine house1 ?_
   simp
   refine⟨JSm [some (zp ns),none,some .st,some (.int d),some (.int far),some (zg mid),some (zN d ts),some ((o.map xk).getD .non),some (.int i),some (.int side),some (.bl shut),some (zJ (spanB mid far i side shut)),some (zL (wideB d)),some (zL b)] (zK b) mid far ts,⟨rfl,_,_,_,_,_,_,_,_,_,_,rfl⟩,?_,?_⟩
   ·rintro jj dd rho n' e3 ⟨rfl, c15, c16, c17, c18, c19, c20, c21, c22, c23, c24, rfl⟩
    rw[getElem?_map] at e3
    cases ht:ts[jj]? with
    | none=>rw[ht] at e3;cases e3
    | some t =>
     rw[ht] at e3
     cases e3
     have hm3:t∈ts:=mem_of_getElem? ht
     have hjj:jj<ts.length:=(List.getElem?_eq_some_iff.mp ht).1
     have hlen9:=hc.len
     have htl:t.2.1.length=d:=(hc.good hm).each t hm3
     have hft:=fit_take (pl:=zK b) ht
     have hfl:(fitT (zK b) (ts.take jj)).length<=9:=by
      have h1:(fitT (zK b) (ts.take jj)).length<=(ts.take jj).length:=List.length_filter_le ..
      rw[length_take] at h1
      lia
     have hhas:=hb.has t.2.1 htl
     have hpix:∀ R:D->Prop,R (.int (t.2.1[i]?.getD 0))->rdIx (zg t.2.1) (.int i) R:=fun R h=>by
      unfold zg
      rw[q_rdIxT]
      refine⟨_,xm ?_,h⟩
      rw[getElem?_map,getElem?_eq_getElem (by lia)];rfl
     have np:zn (zg t.2.1)=true:=id rfl
     generalize hsA:sIf _ _ _=SA
     have runS:∀ (F3:EndsD),F3.nx=JSm [some (zp ns),none,some .st,some (.int d),some (.int far),some (zg mid),some (zN d ts),some ((o.map xk).getD .non),some (.int i),some (.int side),some (.bl shut),some (zJ (spanB mid far i side shut)),some (zL (wideB d)),some (zL b)] (zK b) mid far ts (jj+1) ->
       SA F3 [some (zp ns),none,some .st,some (.int d),some (.int far),some (zg mid),some (zN d ts),some ((o.map xk).getD .non),some (.int i),some (.int side),some (.bl shut),some (zJ (spanB mid far i side shut)),some (zL (wideB d)),some (zL b),some (.own ((fitT (zK b) (ts.take jj)).map fun t=>(rowN mid far t).d)),some (.int t.1),some (zg t.2.1),some (.int t.2.2),some (.int (t.2.1[i]?.getD 0)),some (.int (edgeB mid far i side)),some (.bl (innerB mid far i side shut (t.2.1[i]?.getD 0))),c21,c22,c23,c24] 3:=fun F3 hF3=>by
      subst hsA
      have cmul:CMul far (if t.2.1=mid then 0 else 1):=.inr (by split<;>exact⟨by decide,by decide⟩)
      have hsl:(fitT (zK b) (ts.take jj)).length<sizeLine:=lt_size (by lia)
      simp[nb,nw,np,nm,okE_box,eqD_box,okE_pl,eqD_pl,hF3]
      by_cases hw:b=wideB d
      ·rw [if_pos hw]
       rw[decide_eq_true hw,Bool.true_or] at hhas
       rw[if_pos hhas] at hft
       exact⟨hsl,cmul,rfl,_,_,_,_,_,_,_,_,_,_,by rw[hft,map_append];rfl⟩
      ·rw [if_neg hw]
       rw[decide_eq_false hw,Bool.false_or] at hhas
       by_cases hi2:innerB mid far i side shut (t.2.1[i]?.getD 0)=true
       ·rw [if_pos hi2]
        rw[hi2] at hhas
        rw[if_pos hhas] at hft
        exact⟨hsl,cmul,rfl,_,_,_,_,_,_,_,_,_,_,by rw[hft,map_append];rfl⟩
       ·rw [if_neg hi2]
        rw[<- hhas] at hi2
        rw[if_neg hi2,append_nil] at hft
        exact⟨rfl,_,_,_,_,_,_,_,_,_,_,by rw[hft];rfl⟩
     have eed:atI [D.int (mid[i]?.getD 0),D.int (mid[i]?.getD 0+far)] (side:Int)=some (D.int (edgeB mid far i side)):=by
      have:side=0\/side=1:=by lia
      rcases this with rfl | rfl
      ·exact xm (j:=0) rfl
      ·exact xm (j:=1) rfl
     have ecd:∀ a b:Bool,atI [D.bl a,D.bl b] (side:Int)=some (D.bl (if side=0 then a else b)):=fun a b=>by
      have:side=0\/side=1:=by lia
      rcases this with rfl | rfl
      ·exact xm (j:=0) rfl
      ·exact xm (j:=1) rfl
     simp[zo,np,nm]
     refine hpix _ ?_
     refine hix _ ?_
     refine hix _ ?_
     simp
     refine⟨_,eed,?_⟩
     have hin:innerB mid far i side shut (t.2.1[i]?.getD 0)=((if side=0 then decide (edgeB mid far i side<t.2.1[i]?.getD 0) else decide (t.2.1[i]?.getD 0<edgeB mid far i side))||(decide (t.2.1[i]?.getD 0=edgeB mid far i side)&&shut)):=rfl
     generalize edgeB mid far i side=ed at *
     simp
     refine⟨_,ecd _ _,?_⟩
     simp
     generalize innerB mid far i side shut (t.2.1[i]?.getD 0)=inn at *
     by_cases h1:(if side=0 then ed<t.2.1[i]?.getD 0 else t.2.1[i]?.getD 0<ed)
     ·rw [if_pos h1]
      have e:inn=true:=by
       rw[hin]
       by_cases hs:side=0
       ·rw [if_pos hs] at h1 ⊢
        rw[decide_eq_true h1,Bool.true_or]
       ·rw [if_neg hs] at h1 ⊢
        rw[decide_eq_true h1,Bool.true_or]
      rw[e] at runS
      exact runS _ rfl
     ·rw [if_neg h1]
      have e:inn=(decide (t.2.1[i]?.getD 0=ed)&&shut):=by
       rw[hin]
       by_cases hs:side=0
       ·rw [if_pos hs] at h1 ⊢
        rw[decide_eq_false h1,Bool.false_or]
       ·rw [if_neg hs] at h1 ⊢
        rw[decide_eq_false h1,Bool.false_or]
      split
      ·rename_i h2
       rw[decide_eq_true h2,Bool.true_and] at e
       rw[e] at runS
       exact runS _ rfl
      ·rename_i h2
       rw[decide_eq_false h2,Bool.false_and] at e
       rw[e] at runS
       exact runS _ rfl
   ·rintro rho n' ⟨rfl, c15, c16, c17, c18, c19, c20, c21, c22, c23, c24, rfl⟩
    rw[length_map,take_length]
    exact runY _ c15 c16 c17 c18 c19 c20 c21 c22 c23 c24 fun b13 b14 b15 b16 b17 b18 b19 b20 b21 b22 b23 b24=>⟨rfl,b13,b14,b15,b16,b17,b18,b19,b20,b21,b22,b23,b24,rfl⟩
  ·rintro rho n' ⟨rfl, b13, b14, b15, b16, b17, b18, b19, b20, b21, b22, b23, b24, rfl⟩
   exact hF _ rfl rfl
 simp[startD,nsc]
 refine⟨by lia,by lia,JLaw ns,⟨rfl,_,_,_,_,_,_,_,_,_,_,_,_,_,_,_,_,_,_,_,_,_,_,_,_,rfl⟩,?_,?_⟩
 ·rintro i d' rho m e ⟨rfl, a1, a2, a3, a4, a5, a6, a7, a8, a9, a10, a11, a12, a13, a14, a15, a16, a17, a18, a19, a20, a21, a22, a23, a24, rfl⟩
  obtain⟨hi,rfl⟩:=rng_at e
  simp
  refine new_intro ns (by simp) (by decide) rfl (i:Int) (by simp[nsc]) (fun P P' h=>by simp[nsc];exact h _ _) ?_
  refine⟨ns,_,rfl,hns,by lia,by lia,fun x y hx hy hy2=>⟨[x,y,0],rfl,rfl,by simp[hx,hy],by simp[hy2],?_⟩⟩
  simp[midRho,onlyRho]
  refine zE (by decide) (by decide) fun dd g0 g1=>?_
  obtain⟨d0,rfl⟩:=Int.eq_ofNat_of_zero_le g0
  simp
  refine⟨⟨by decide,by decide,by decide⟩,zE (by decide) (by decide) fun k2 g2 g3=>pick g2 (by simpa using g3) fun fd hfd=>?_⟩
  obtain⟨far,hfar,rfl⟩:∃ far:Int,(far=1\/far=2\/far=10000000000000000)/\fd=.int far:=by
   simp only[mem_cons,not_mem_nil,or_false] at hfd
   rcases hfd with rfl | rfl | rfl
   ·exact⟨1,.inl rfl,rfl⟩
   ·exact⟨2,.inr (.inl rfl),rfl⟩
   ·exact⟨_,.inr (.inr rfl),rfl⟩
  have e1:(1:Int)+(d0:Int)=((1+d0:Nat):Int):=by push_cast;rfl
  rw[e1]
  refine⟨by lia,by lia,?_⟩
  have e2:(((1+d0:Nat):Int)).toNat=1+d0:=by lia
  rw[e2]
  refine comp_dem0 (rngD 0 (1+d0)) 3 (fun _ e=>∃ x:Int,True/\e=.int x) (by rw[rng_len];exact zM (by lia)) (fun j d2 e2 Q' hQ'=>?_) (fun es hp=>?_)
  ·simp
   refine zE (by decide) (by decide) fun k g4 g5=>?_
   simp
   exact hQ' _ ⟨_,True.intro,rfl⟩
  ·have hlen := hp.length
   rw[rng_len] at hlen
   obtain⟨mid,rfl,_⟩:=paired_small hp
   rw[length_map] at hlen
   simp
   exact runX _ (1+d0) mid far (fun rho h1 h2=>⟨rfl,h1,h2,rfl,by simp⟩) (by lia) (by lia) (by lia) hfar
 ·rintro rho m ⟨rfl, a1, a2, a3, a4, a5, a6, a7, a8, a9, a10, a11, a12, a13, a14, a15, a16, a17, a18, a19, a20, a21, a22, a23, a24, rfl⟩
  simp
end
end K43
set_option maxHeartbeats 1000000
namespace K43
theorem zG{α:Type}{us:List α}{c:Nat}(h:us.length=c+1):∃ a r,us=a::r/\r.length=c:=by
 cases us with
 | nil=>cases h
 | cons a r=>exact⟨a,r,rfl,Nat.succ.inj h⟩
theorem us_1{fd:FuncData}{ps:List Str}{us:List Value}(h:us.length=1)(q:∀ x0,bindArgs fd ⟨[x0],[]⟩=pure (ps.zip [x0])):bindArgs fd ⟨us,[]⟩=pure (ps.zip us):=by
 obtain⟨x0,u0,rfl,h0⟩:=zG h
 obtain rfl:=List.length_eq_zero_iff.mp h0
 exact q x0
theorem us_2{fd:FuncData}{ps:List Str}{us:List Value}(h:us.length=2)(q:∀ x0 x1,bindArgs fd ⟨[x0,x1],[]⟩=pure (ps.zip [x0,x1])):bindArgs fd ⟨us,[]⟩=pure (ps.zip us):=by
 obtain⟨x0,u0,rfl,h0⟩:=zG h
 obtain⟨x1,u1,rfl,h1⟩:=zG h0
 obtain rfl:=List.length_eq_zero_iff.mp h1
 exact q x0 x1
theorem us_3{fd:FuncData}{ps:List Str}{us:List Value}(h:us.length=3)(q:∀ x0 x1 x2,bindArgs fd ⟨[x0,x1,x2],[]⟩=pure (ps.zip [x0,x1,x2])):bindArgs fd ⟨us,[]⟩=pure (ps.zip us):=by
 obtain⟨x0,u0,rfl,h0⟩:=zG h
 obtain⟨x1,u1,rfl,h1⟩:=zG h0
 obtain⟨x2,u2,rfl,h2⟩:=zG h1
 obtain rfl:=List.length_eq_zero_iff.mp h2
 exact q x0 x1 x2
theorem us_4{fd:FuncData}{ps:List Str}{us:List Value}(h:us.length=4)(q:∀ x0 x1 x2 x3,bindArgs fd ⟨[x0,x1,x2,x3],[]⟩=pure (ps.zip [x0,x1,x2,x3])):bindArgs fd ⟨us,[]⟩=pure (ps.zip us):=by
 obtain⟨x0,u0,rfl,h0⟩:=zG h
 obtain⟨x1,u1,rfl,h1⟩:=zG h0
 obtain⟨x2,u2,rfl,h2⟩:=zG h1
 obtain⟨x3,u3,rfl,h3⟩:=zG h2
 obtain rfl:=List.length_eq_zero_iff.mp h3
 exact q x0 x1 x2 x3
theorem us_5{fd:FuncData}{ps:List Str}{us:List Value}(h:us.length=5)(q:∀ x0 x1 x2 x3 x4,bindArgs fd ⟨[x0,x1,x2,x3,x4],[]⟩=pure (ps.zip [x0,x1,x2,x3,x4])):bindArgs fd ⟨us,[]⟩=pure (ps.zip us):=by
 obtain⟨x0,u0,rfl,h0⟩:=zG h
 obtain⟨x1,u1,rfl,h1⟩:=zG h0
 obtain⟨x2,u2,rfl,h2⟩:=zG h1
 obtain⟨x3,u3,rfl,h3⟩:=zG h2
 obtain⟨x4,u4,rfl,h4⟩:=zG h3
 obtain rfl:=List.length_eq_zero_iff.mp h4
 exact q x0 x1 x2 x3 x4
theorem us_6{fd:FuncData}{ps:List Str}{us:List Value}(h:us.length=6)(q:∀ x0 x1 x2 x3 x4 x5,bindArgs fd ⟨[x0,x1,x2,x3,x4,x5],[]⟩=pure (ps.zip [x0,x1,x2,x3,x4,x5])):bindArgs fd ⟨us,[]⟩=pure (ps.zip us):=by
 obtain⟨x0,u0,rfl,h0⟩:=zG h
 obtain⟨x1,u1,rfl,h1⟩:=zG h0
 obtain⟨x2,u2,rfl,h2⟩:=zG h1
 obtain⟨x3,u3,rfl,h3⟩:=zG h2
 obtain⟨x4,u4,rfl,h4⟩:=zG h3
 obtain⟨x5,u5,rfl,h5⟩:=zG h4
 obtain rfl:=List.length_eq_zero_iff.mp h5
 exact q x0 x1 x2 x3 x4 x5
structure Dn(K:W.Frag)(x:Str)(st:Stmt):Prop where
 ex:∃ (f:Addr) (fd:FuncData),W.nsIn K mainGlobals x=some (some (.ref f))/\Fun K x x st f fd
theorem dn{K:W.Frag}{x:Str}{st:Stmt}{f:Addr}{oc:Value}{od an:Option Addr}{osl:Array (Option Value)}{kV doc pm cdv ct:Value}(a:W.nsIn K mainGlobals x=some (some (.ref f)))(l:K.lookup f=some ⟨oc,od,.func (W.fnOf x x (defArgs st) (defBody st) (zi st) .none kV doc pm an cdv ct),osl⟩)(c:W.codeIn K cdv x=true)(k:W.keepIn K (.ref f)=true):Dn K x st:=⟨f,_,a,fun_mk (st:=st) l c k⟩
theorem Dn.fn{P:Program}{w:World}{K:W.Frag}{mg:Str->Option Value}{base h:Heap}{x:Str}{st:Stmt}{kk k:Nat}{t:TF}{ps:List Str}(d:Dn K x st)(X:K.In h)(G:h.Ns mainGlobals mg)(b:∀ (kV doc pm:Value) (an:Option Addr) (cdv ct:Value) (us:List Value),us.length=ps.length->bindArgs (W.fnOf x x (defArgs st) (defBody st) (zi st) .none kV doc pm an cdv ct) ⟨us,[]⟩=pure (ps.zip us))(ok:∀ (f:Addr) (fd:FuncData),Fun K x x st f fd->mg x=some (.ref f)->W.keepIn K (.ref f)=true->Binds K fd ps []->FnOk P w K mg base CX0 kk f fd ps (spD K k t)):Fn P w K mg base x kk k t:=by
 obtain⟨f,fd,a,F⟩:=d.ex
 have m:=W.mg_of X G a
 have B:=F.binds b
 exact⟨f,fd,ps,ok f fd F m F.kp B,m,F.kp,B⟩
theorem Dn.fnT{P:Program}{w:World}{K:W.Frag}{mg:Str->Option Value}{base h:Heap}{x:Str}{st:Stmt}{kk k:Nat}{t:TFT}{ps:List Str}(d:Dn K x st)(X:K.In h)(G:h.Ns mainGlobals mg)(b:∀ (kV doc pm:Value) (an:Option Addr) (cdv ct:Value) (us:List Value),us.length=ps.length->bindArgs (W.fnOf x x (defArgs st) (defBody st) (zi st) .none kV doc pm an cdv ct) ⟨us,[]⟩=pure (ps.zip us))(ok:∀ (f:Addr) (fd:FuncData),Fun K x x st f fd->FnOk P w K mg base CX0 kk f fd ps (spT K k t)):FnT P w K mg base x kk k t:=by
 obtain⟨f,fd,a,F⟩:=d.ex
 exact⟨⟨f,fd,ps,ok f fd F,W.mg_of X G a,F.kp,F.binds b⟩⟩
theorem all_mk{l:W.OpenLaw}{w:World}{K:W.Frag}{h:Heap}{mg:Str->Option Value}{fa f20 f24:Addr}(X:K.In h)(G:h.Ns mainGlobals mg)(hfa:mg "law" = some (.ref fa))
  {od20 an20 od24 an24:Option Addr} {sl20 sl24:Array (Option Value)} {oc20 kV20 dc20 pm20 cd20 ct20 oc24 kV24 dc24 pm24 cd24 ct24:Value}
  (d0:Dn K "least_of" s_least_of)
  (d1:Dn K "greatest_of" s_greatest_of)
  (d2:Dn K "pair_of" s_pair_of)
  (d3:Dn K "is_crossed" s_is_crossed)
  (d4:Dn K "settled" s_settled)
  (d5:Dn K "plain_box" s_plain_box)
  (d6:Dn K "greater_of" s_greater_of)
  (d7:Dn K "lesser_of" s_lesser_of)
  (d8:Dn K "common_pair" s_common_pair)
  (d9:Dn K "common" s_common)
  (d10:Dn K "lie_apart" s_lie_apart)
  (d11:Dn K "things_by_name" s_things_by_name)
  (d12:Dn K "steps_to" s_steps_to)
  (d13:Dn K "key_by" s_key_by)
  (d14:Dn K "keyed" s_keyed)
  (d15:Dn K "drawn_past" s_drawn_past)
  (d16:Dn K "drawn" s_drawn)
  (d17:Dn K "_law_left" s__law_left)
  (d18:Dn K "_law_pick" s__law_pick)
  (d19:Dn K "_law_bounds" s__law_bounds)
  (a20:W.nsIn K mainGlobals "_law_grown" = some (some (.ref f20))) (l20:K.lookup f20=some ⟨oc20,od20,.func (W.fnOf "_law_grown" "_law_grown" (defArgs s__law_grown) (defBody s__law_grown) (zi s__law_grown) .none kV20 dc20 pm20 an20 cd20 ct20),sl20⟩) (c20:W.codeIn K cd20 "_law_grown" = true) (k20:W.keepIn K (.ref f20)=true)
  (d21:Dn K "_law_tree" s__law_tree)
  (d22:Dn K "_law_mixed" s__law_mixed)
  (d23:Dn K "_law_cross" s__law_cross)
  (a24:W.nsIn K mainGlobals "law" = some (some (.ref f24))) (l24:K.lookup f24=some ⟨oc24,od24,.func (W.fnOf "law" "law" (defArgs s_law) (defBody s_law) (zi s_law) .none kV24 dc24 pm24 an24 cd24 ct24),sl24⟩) (c24:W.codeIn K cd24 "law" = true) (k24:W.keepIn K (.ref f24)=true)
  {cc20 Pt20:Addr} {pc20:Value} {pd20:Option Addr} {pe20:Array (Option Value)} {vv20:Array Value} (le20:cd20=.ref cc20) (lk20:K.lookup cc20=some ⟨pc20,pd20,.fields vv20,pe20⟩) (lp20:vv20[11]?=some (.ref Pt20))
  {e0:Addr} {eo0:Option Addr} {en0:Nat} {et0 eu0:Tok} {es0:Array (Option Value)} (yy0:W.nsIn K mainGlobals "EMPTY_PAIR" = some (some (.ref e0))) (hh0:K.lookup e0=some ⟨.type "tuple",eo0,.seq #[.int 1 et0,.int 0 eu0] en0,es0⟩)
  (z0:W.nsIn K mainGlobals "len" = some none) (z1:W.nsIn K mainGlobals "abs" = some none) (z2:W.nsIn K mainGlobals "all" = some none) (z3:W.nsIn K mainGlobals "any" = some none) (z4:W.nsIn K mainGlobals "isinstance" = some none) (z5:W.nsIn K mainGlobals "int" = some none) (z6:W.nsIn K mainGlobals "bool" = some none) (z7:W.nsIn K mainGlobals "str" = some none) (z8:W.nsIn K mainGlobals "tuple" = some none) (z9:W.nsIn K mainGlobals "list" = some none) (z10:W.nsIn K mainGlobals "range" = some none) (z11:W.nsIn K mainGlobals "zip" = some none) (z12:W.nsIn K mainGlobals "enumerate" = some none) (z13:W.nsIn K mainGlobals "max" = some none) (z14:W.nsIn K mainGlobals "min" = some none) (z15:W.nsIn K mainGlobals "sorted" = some none) (z16:W.nsIn K mainGlobals "sum" = some none) :
  ∃ fd:FuncData,(∀ (s:Shared) (v:Value),BindsTo s fd ⟨[v],[]⟩ [("_law_script",v)])/\∀ base:Heap,K.In base->base.Ns mainGlobals mg->base.NoDigits->LamAll K mg base->FnOk l.prog w K mg base CX0 36 fa fd ["_law_script"] (spLawD K):=by
 have tb20:=tab_mk a20 l20 le20 lk20 lp20
 have e:=hfa.symm.trans (W.mg_of X G a24)
 cases e
 have T:Blt mg:=⟨W.mg_none_of X G z0,W.mg_none_of X G z1,W.mg_none_of X G z2,W.mg_none_of X G z3,W.mg_none_of X G z4,W.mg_none_of X G z5,W.mg_none_of X G z6,W.mg_none_of X G z7,W.mg_none_of X G z8,W.mg_none_of X G z9,W.mg_none_of X G z10,W.mg_none_of X G z11,W.mg_none_of X G z12,W.mg_none_of X G z13,W.mg_none_of X G z14,W.mg_none_of X G z15⟩
 have T2:Blt2 mg:=⟨W.mg_none_of X G z16⟩
 have G_EMPTY_PAIR:GDat K mg "EMPTY_PAIR" (.tup [.int 1,.int 0]):=gdat_int2 (W.mg_of X G yy0) hh0
 have U20:=fun_mk (st:=s__law_grown) l20 c20 k20
 have U24:=fun_mk (st:=s_law) l24 c24 k24
 refine⟨W.fnOf "law" "law" (defArgs s_law) (defBody s_law) (zi s_law) .none kV24 dc24 pm24 an24 cd24 ct24,fun s v=>.of_eq rfl,fun base _ _ ND LA=>?_⟩
 have LB20:=LA "_law_grown" (by simp[lamDefs]) _ _ tb20
 have F_least_of:Fn l.prog w K mg base "least_of" 1 1 t_least_of:=d0.fn X G (ps:=["low"]) (fun _ _ _ _ _ _ _ h=>us_1 h fun _=>rfl) fun _ _ U M N B=>ok_least_of U
 have F_greatest_of:Fn l.prog w K mg base "greatest_of" 1 1 t_greatest_of:=d1.fn X G (ps:=["high"]) (fun _ _ _ _ _ _ _ h=>us_1 h fun _=>rfl) fun _ _ U M N B=>ok_greatest_of U
 have F_pair_of:Fn l.prog w K mg base "pair_of" 2 1 t_pair_of:=d2.fn X G (ps:=["span"]) (fun _ _ _ _ _ _ _ h=>us_1 h fun _=>rfl) fun _ _ U M N B=>ok_pair_of U F_least_of F_greatest_of
 have F_is_crossed:Fn l.prog w K mg base "is_crossed" 1 1 t_is_crossed:=d3.fn X G (ps:=["pair"]) (fun _ _ _ _ _ _ _ h=>us_1 h fun _=>rfl) fun _ _ U M N B=>ok_is_crossed U
 have F_settled:Fn l.prog w K mg base "settled" 2 1 t_settled:=d4.fn X G (ps:=["pairs"]) (fun _ _ _ _ _ _ _ h=>us_1 h fun _=>rfl) fun _ _ U M N B=>ok_settled T G_EMPTY_PAIR U F_is_crossed
 have F_plain_box:Fn l.prog w K mg base "plain_box" 3 1 t_plain_box:=d5.fn X G (ps:=["box"]) (fun _ _ _ _ _ _ _ h=>us_1 h fun _=>rfl) fun _ _ U M N B=>ok_plain_box U F_pair_of F_settled
 have F_greater_of:Fn l.prog w K mg base "greater_of" 1 2 t_greater_of:=d6.fn X G (ps:=q0) (fun _ _ _ _ _ _ _ h=>us_2 h fun _ _=>rfl) fun _ _ U M N B=>ok_greater_of T U
 have F_lesser_of:Fn l.prog w K mg base "lesser_of" 1 2 t_lesser_of:=d7.fn X G (ps:=q0) (fun _ _ _ _ _ _ _ h=>us_2 h fun _ _=>rfl) fun _ _ U M N B=>ok_lesser_of T U
 have F_common_pair:Fn l.prog w K mg base "common_pair" 2 2 t_common_pair:=d8.fn X G (ps:=q0) (fun _ _ _ _ _ _ _ h=>us_2 h fun _ _=>rfl) fun _ _ U M N B=>ok_common_pair U F_greater_of F_lesser_of
 have F_common:Fn l.prog w K mg base "common" 3 2 t_common:=d9.fn X G (ps:=q0) (fun _ _ _ _ _ _ _ h=>us_2 h fun _ _=>rfl) fun _ _ U M N B=>ok_common T U F_settled F_common_pair
 have F_lie_apart:Fn l.prog w K mg base "lie_apart" 4 2 t_lie_apart:=d10.fn X G (ps:=q0) (fun _ _ _ _ _ _ _ h=>us_2 h fun _ _=>rfl) fun _ _ U M N B=>ok_lie_apart U F_is_crossed F_common
 have F_things_by_name:Fn l.prog w K mg base "things_by_name" 1 1 t_tbn:=d11.fn X G (ps:=["house"]) (fun _ _ _ _ _ _ _ h=>us_1 h fun _=>rfl) fun _ _ U M N B=>ok_tbn T U
 have F_steps_to:Fn l.prog w K mg base "steps_to" 1 2 t_steps_to:=d12.fn X G (ps:=["place", "limits"]) (fun _ _ _ _ _ _ _ h=>us_2 h fun _ _=>rfl) fun _ _ U M N B=>ok_steps_to T T2 U
 have F_key_by:Fn l.prog w K mg base "key_by" 2 3 t_key_by:=d13.fn X G (ps:=["by_name", "tree", "kind"]) (fun _ _ _ _ _ _ _ h=>us_3 h fun _ _ _=>rfl) fun _ _ U M N B=>ok_key_by T U F_steps_to
 have F_keyed:FnT l.prog w K mg base "keyed" 6 4 t_keyed:=d14.fnT X G (ps:=q3) (fun _ _ _ _ _ _ _ h=>us_4 h fun _ _ _ _=>rfl) fun _ _ U=>ok_keyed T U F_lie_apart F_key_by
 have F_drawn_past:Fn l.prog w K mg base "drawn_past" 7 6 t_dpast:=d15.fn X G (ps:=q5) (fun _ _ _ _ _ _ _ h=>us_6 h fun _ _ _ _ _ _=>rfl) fun _ _ U M N B=>ok_dpast T U F_things_by_name F_plain_box F_keyed
 have F_drawn:Fn l.prog w K mg base "drawn" 8 5 t_drawn:=d16.fn X G (ps:=q4) (fun _ _ _ _ _ _ _ h=>us_5 h fun _ _ _ _ _=>rfl) fun _ _ U M N B=>ok_drawn U F_drawn_past
 have Y_left:Fn l.prog w K mg base "_law_left" 1 2 t_left:=d17.fn X G (ps:=["_law_script", "_law_k"]) (fun _ _ _ _ _ _ _ h=>us_2 h fun _ _=>rfl) fun _ _ U M N B=>ok_left T U
 have Y_pick:Fn l.prog w K mg base "_law_pick" 1 2 t_pick:=d18.fn X G (ps:=["_law_left_here", "_law_many"]) (fun _ _ _ _ _ _ _ h=>us_2 h fun _ _=>rfl) fun _ _ U M N B=>ok_pick U
 have Y_bounds:Fn l.prog w K mg base "_law_bounds" 1 1 t_lbd:=d19.fn X G (ps:=["_law_things"]) (fun _ _ _ _ _ _ _ h=>us_1 h fun _=>rfl) fun _ _ U M N B=>ok_lbd T U
 have Y_grown:Fn l.prog w K mg base "_law_grown" 34 4 (t_grown 30):=⟨_,_,_,(ok_grown T U20 a20 tb20 LB20 (W.mg_of X G a20) k20 (U20.binds (ps:=q1) fun _ _ _ _ _ _ _ h=>us_4 h fun _ _ _ _=>rfl) Y_pick Y_bounds 30),W.mg_of X G a20,k20,(U20.binds (ps:=q1) fun _ _ _ _ _ _ _ h=>us_4 h fun _ _ _ _=>rfl)⟩
 have Y_tree:Fn l.prog w K mg base "_law_tree" 35 2 t_ltree:=d21.fn X G (ps:=q2) (fun _ _ _ _ _ _ _ h=>us_2 h fun _ _=>rfl) fun _ _ U M N B=>ok_ltree T U Y_grown
 have Y_mixed:Fn l.prog w K mg base "_law_mixed" 2 2 t_mixed:=d22.fn X G (ps:=["_law_left_here", "_law_parts"]) (fun _ _ _ _ _ _ _ h=>us_2 h fun _ _=>rfl) fun _ _ U M N B=>ok_mixed T U Y_pick
 have Y_cross:Fn l.prog w K mg base "_law_cross" 3 4 t_cross:=d23.fn X G (ps:=q6) (fun _ _ _ _ _ _ _ h=>us_4 h fun _ _ _ _=>rfl) fun _ _ U M N B=>ok_cross T U Y_pick Y_mixed
 exact ok_law T U24 Y_left Y_pick Y_cross Y_tree F_drawn
theorem walk{l:W.OpenLaw}{q:Program}{loose:List Str}{XP:(Str->Option Value)->Heap->Prop}{YP:World->Heap->Prop}{d:DefRec}{K:Params->W.Frag}(hn:l.most=some 63)(hdf:d.params.defaults=[])
  (hY:∀ (w:World) (h:Heap),YP w h->(K w.params).In h)
  (hrec:∀ (w:World),∀ y∈lamDefs,∀ c P,W.tabIn (K w.params) y=some (c,P)->∃ d,(recsOf q).find? (fun e=>e.name == y)=some d) (hnt:∀ w:World,W.noTabs (K w.params)=true)
  (F : ∀ (w : World) (mg : Str -> Option Value) (fa : Addr) (h : Heap), (K w.params).In h -> h.Ns mainGlobals mg -> mg d.name = some (.ref fa) ->
   ∃ fd:FuncData,(∀ (s:Shared) (u:Value),BindsTo s fd ⟨[u],[]⟩ [("_law_script",u)])/\∀ base:Heap,(K w.params).In base->base.Ns mainGlobals mg->base.NoDigits->LamAll (K w.params) mg base->FnOk l.prog w (K w.params) mg base CX0 36 fa fd ["_law_script"] (spLawD (K w.params))) :
  W.WalkO q loose XP YP l.row.toRowW d [] (fun f vs=>PySem.call f vs) :=
 L2.walk_ofC (n:=63) (k:=36) (x := "_law_script") (CX:=fun _=>CX0) (sp:=fun w=>spLawD (K w.params)) hn (by decide) hdf ⟨rfl,by decide,by decide,rfl⟩ hY hrec (fun w=>tab_one (K w.params)) hnt F (fun _ _ a ns hl hO hS hT=>⟨a,ns,rfl,hO,hS,hl,hT,fun H h=>⟨rfl,h⟩⟩) fun _ _ _ _ _ z=>z
noncomputable def view:Program:={ PySem.Challenge.pw_boxlayers_k43_like_keys with main:={ PySem.Challenge.pw_boxlayers_k43_like_keys.main with body:=[top 1,top 2,top 3,top 4,top 5,top 6,top 7,top 8,top 9,top 10,top 11,top 12,top 14,top 16,top 17,top 18,top 19,top 20,top 22,top 23,top 24,top 25,top 26,top 27,top 28,top 29] } }
end K43
open PySem PySem.W PyProof.Rows
local macro_rules | `(tactic| o_head $H)=>`(tactic| refine holds_open (q:=K43.view) (loose:=[]) (N:=10000) (XP:=XL K43.view []) (Xt:=fun s=>xlAt K43.view [] s && recOk (RowW.records (OpenRow.toRowW (OpenLaw.row PySem.Challenge.rw_boxlayers_k43_like_keys))) s) (Yf:=Hook.obs $H) (Ya:=Hook.val $H) (YP:=Hook.says $H) ?_ (Hook.of $H) (Hook.keeps $H) (fun s e=>xl_of s (Bool.and_eq_true_iff.mp e).1) XL.keeps rfl rfl rfl (fun s e=>recFacts_of (Bool.and_eq_true_iff.mp e).2) rfl (by first | assumption | decide +kernel) (by decide +kernel) ⟨rfl,rfl,rfl,rfl,rfl,by decide +kernel⟩ ?_ ?_)
set_option maxRecDepth 100000 in
set_option maxHeartbeats 0 in
theorem PySem.Challenge.cw_boxlayers_k43_like_keys_holds : PySem.Challenge.rw_boxlayers_k43_like_keys.Holds := by
 w_on;o_law;k_head
 ·intro w;kernel_rfl
 ·w_witness2
 k_fill
 refine K43.walk (l:=PySem.Challenge.rw_boxlayers_k43_like_keys) rfl rfl (fun w h Y=>PySem.W.km_in_of Y) ?R ?N ?F
 case R =>
  intro w y hy c P e
  have z:y = "_law_grown" := by simpa [L2.lamDefs] using hy
  subst z
  exact⟨_,rfl⟩
 case N =>
  intro w
  kernel_rfl
 case F =>
  intro w mg fa h KX G hmg
  refine' K43.all_mk KX G hmg ?d0 ?d1 ?d2 ?d3 ?d4 ?d5 ?d6 ?d7 ?d8 ?d9 ?d10 ?d11 ?d12 ?d13 ?d14 ?d15 ?d16 ?d17 ?d18 ?d19 ?a20 ?l20 ?c20 ?k20 ?d21 ?d22 ?d23 ?a24 ?l24 ?c24 ?k24 ?le20 ?lk20 ?lp20 ?yy0 ?hh0 ?z0 ?z1 ?z2 ?z3 ?z4 ?z5 ?z6 ?z7 ?z8 ?z9 ?z10 ?z11 ?z12 ?z13 ?z14 ?z15 ?z16
  (case a20=>k_is)
  (case l20=>k_is)
  (case c20=>k_is)
  (case k20=>k_is)
  (case a24=>k_is)
  (case l24=>k_is)
  (case c24=>k_is)
  (case k24=>k_is)
  (case le20=>rfl)
  (case lk20=>k_is)
  (case lp20=>rfl)
  (case yy0=>k_is)
  (case hh0=>k_is)
  (case z0=>k_is)
  (case z1=>k_is)
  (case z2=>k_is)
  (case z3=>k_is)
  (case z4=>k_is)
  (case z5=>k_is)
  (case z6=>k_is)
  (case z7=>k_is)
  (case z8=>k_is)
  (case z9=>k_is)
  (case z10=>k_is)
  (case z11=>k_is)
  (case z12=>k_is)
  (case z13=>k_is)
  (case z14=>k_is)
  (case z15=>k_is)
  (case z16=>k_is)
  all_goals (apply K43.dn;k_is;k_is;k_is;k_is)
end
#print axioms PySem.Challenge.cw_boxlayers_k43_like_keys_holds
